import PyProof.Rows.All
import Wide.All
import OpenK.AllK
import Wide.FinOn
import Lean
import PySem.Challenge.RW_freshrooms_k41_all_pairs_behind
open PySem.W(Frag kitOne nsIn findIn)
set_option Elab.async false
set_option linter.all false
set_option genSizeOf false
set_option bootstrap.genMatcherCode false
set_option compiler.extract_closed false
set_option maxRecDepth 100000
local macro_rules|`(⋯)=>`(by first|decide|lia)
local macro_rules|`(tactic|ac_rfl)=>`(tactic|with_unfolding_all rfl)
local macro_rules|`(tactic|exists$e)=>`(tactic|with_unfolding_all exact$e)
abbrev VP9:=PySem.Value->PySem.Shared->Prop
abbrev LA9:=List (PySem.Addr×PySem.Obj)
abbrev Kq9(k:List Int):=∀p∈k,0<=p/\p<=3
theorem aA{α}{a:α}{s t:List α}:a∈s++t->a∈s∨a∈t:=List.mem_append.mp
theorem aB{α}{a b:α}:a=b->a∈[b]:=List.mem_singleton.mpr
theorem aC{α}{a b:α}:a∈[b]->a=b:=List.mem_singleton.mp
theorem aD{α}{a b:α}{l:List α}:a∈b::l->a=b∨a∈l:=List.mem_cons.mp
theorem aE{α β}{f:α->β}{l:List α}{b:β}:b∈l.map f->∃a,a∈l∧f a=b:=List.mem_map.mp
local macro_rules|`(tactic|trivial)=>`(tactic|first|exact Or.inl rfl|exact Or.inr rfl)
def Ŕq(_:True:=by rfl):True:=trivial
def Ŕq.z:True:=trivial
open Ŕq renaming _auto_1→Ŕ
def ŕq(_:True:=by decide):True:=trivial
def ŕq.z:True:=trivial
open ŕq renaming _auto_1→ŕ
def Ŗq(_:True:=by intro _;rfl):True:=trivial
def Ŗq.z:True:=trivial
open Ŗq renaming _auto_1→Ŗ
def ŗq(_:True:=by decide +kernel):True:=trivial
def ŗq.z:True:=trivial
open ŗq renaming _auto_1→ŗ
def Řq(_:True:=by first|exact .inl rfl|exact .inr rfl|assumption):True:=trivial
def Řq.z:True:=trivial
open Řq renaming _auto_1→Ř
def řq(_:True:=by first|exact Or.inl rfl|exact Or.inr (Or.inl rfl)|exact Or.inr (Or.inr rfl)):True:=trivial
def řq.z:True:=trivial
open řq renaming _auto_1→ř
def Śq(_:True:=by trivial):True:=trivial
def Śq.z:True:=trivial
open Śq renaming _auto_1→Ś
def śq(_:True:=by first|exact .inl rfl|exact .inr rfl):True:=trivial
def śq.z:True:=trivial
open śq renaming _auto_1→ś
theorem oq9{α : Type _}{a b : α}(h:some a=some b):a=b:=Option.some.inj h
theorem lr9{α : Type _}{a : α}{b : List α}(c : List α)(h:a ∈ b):a ∈ c ++ b:=List.mem_append_right c h
theorem ll9{α : Type _}{a : α}{b : List α}(c : List α)(h:a ∈ b):a ∈ b ++ c:=List.mem_append_left c h
theorem lc9{α : Type _}{a : α}{l : List α}(b : α)(h:a ∈ l):a ∈ b::l:=List.mem_cons_of_mem b h
section
open PySem PySem.Spec PyProof.Rows
theorem X0:type_of% @wpAny_bind:=@wpAny_bind
theorem X1:type_of% @Heap.get?_push_of_some:=@Heap.get?_push_of_some
theorem X2:type_of% @wpAny_pure:=@wpAny_pure
theorem X3:type_of% @List.getElem?_eq_getElem:=@List.getElem?_eq_getElem
theorem X4:type_of% @List.length_map:=@List.length_map
theorem X5:type_of% @List.mem_cons_self:=@List.mem_cons_self
theorem X6:type_of% @Heap.get?_push_size:=@Heap.get?_push_size
theorem X7:type_of% @Nat.le_refl:=@Nat.le_refl
theorem X8:type_of% @List.size_toArray:=@List.size_toArray
theorem X9:type_of% @if_pos:=@if_pos
theorem Xa:type_of% @Heap.lt_size:=@Heap.lt_size
theorem Xb:type_of% @if_neg:=@if_neg
theorem Xd:type_of% @Array.length_toList:=@Array.length_toList
theorem Xe:type_of% @Nat.ne_of_lt:=@Nat.ne_of_lt
theorem Xf:type_of% @Array.getElem?_eq_getElem:=@Array.getElem?_eq_getElem
theorem Xg:type_of% @decide_eq_true:=@decide_eq_true
theorem Xh:type_of% @decide_eq_false:=@decide_eq_false
theorem Xi:type_of% @List.getElem?_map:=@List.getElem?_map
theorem Xj:type_of% @List.nodup_append:=@List.nodup_append
theorem Xk:type_of% @List.length_append:=@List.length_append
theorem Xl:type_of% @List.map_map:=@List.map_map
theorem Xm:type_of% @List.length_cons:=@List.length_cons
theorem Xn:type_of% @Nat.lt_of_lt_of_le:=@Nat.lt_of_lt_of_le
theorem Xp:type_of% @Array.getElem?_toList:=@Array.getElem?_toList
def Xq:type_of% @List.getD_eq_getElem?_getD:=@List.getD_eq_getElem?_getD
theorem Xr:type_of% @List.mem_map_of_mem:=@List.mem_map_of_mem
theorem Xs:type_of% @List.map_append:=@List.map_append
theorem Xu:type_of% @wpAny_holding:=@wpAny_holding
theorem Xv:type_of% @List.append_nil:=@List.append_nil
theorem Xw:type_of% @List.getElem?_append_left:=@List.getElem?_append_left
theorem Xx:type_of% @List.mem_of_getElem?:=@List.mem_of_getElem?
theorem Xy:type_of% @wpAny_call_entry:=@wpAny_call_entry
theorem Xz:type_of% @Heap.get?_update_self:=@Heap.get?_update_self
theorem Y0:type_of% @List.append_assoc:=@List.append_assoc
theorem Y1:type_of% @PyProof.Rows.callWith_type1:=@PyProof.Rows.callWith_type1
theorem Y2:type_of% @wpAny_newObj_type:=@wpAny_newObj_type
theorem Y3:type_of% @List.getElem_mem:=@List.getElem_mem
theorem Y4:type_of% @Int.emod_lt_of_pos:=@Int.emod_lt_of_pos
theorem Y5:type_of% @List.length_range:=@List.length_range
theorem Y6:type_of% @Nat.lt_succ_of_lt:=@Nat.lt_succ_of_lt
theorem Y7:type_of% @wpAny_setState_of:=@wpAny_setState_of
theorem Y8:type_of% @List.nodup_nil:=@List.nodup_nil
theorem Y9:type_of% @Heap.SameBut.update:=@Heap.SameBut.update
theorem Ya:type_of% @List.filter_append:=@List.filter_append
theorem Yb:type_of% @PySem.W.mg_none_of:=@PySem.W.mg_none_of
theorem Yc:type_of% @List.not_mem_nil:=@List.not_mem_nil
theorem Yd:type_of% @Int.emod_nonneg:=@Int.emod_nonneg
theorem Ye:type_of% @Nat.le_trans:=@Nat.le_trans
theorem Yf:type_of% @Nat.zero_le:=@Nat.zero_le
theorem Yg:type_of% @List.getElem?_eq_none:=@List.getElem?_eq_none
theorem Yh:type_of% @PySem.W.kia_one:=@PySem.W.kia_one
theorem Yi:type_of% @codeAny_builtin:=@codeAny_builtin
theorem Yj:type_of% @wpAny_callSpecial?_slot:=@wpAny_callSpecial?_slot
theorem Yk:type_of% @Heap.get?_update_other:=@Heap.get?_update_other
theorem Yl:type_of% @beq_false_of_ne:=@beq_false_of_ne
theorem Ym:type_of% @List.all_eq_true:=@List.all_eq_true
theorem Yn:type_of% @List.mem_cons:=@List.mem_cons
theorem Yo:type_of% @sizeLine_eq:=@sizeLine_eq
theorem Yp:type_of% @List.map_congr_left:=@List.map_congr_left
def Yq:type_of% @Around.under_plainId:=@Around.under_plainId
theorem Yr:type_of% @List.length_take:=@List.length_take
theorem Ys:type_of% @of_decide_eq_true:=@of_decide_eq_true
theorem Yt:type_of% @Int.toNat_natCast:=@Int.toNat_natCast
theorem Yu:type_of% @Nat.lt_irrefl:=@Nat.lt_irrefl
theorem Yv:type_of% @Heap.size_push:=@Heap.size_push
theorem Yw:type_of% @wpAny_setField:=@wpAny_setField
theorem Yx:type_of% @wpAny_Call_Name_kw:=@wpAny_Call_Name_kw
theorem Yy:type_of% @List.getElem?_set_ne:=@List.getElem?_set_ne
theorem Yz:type_of% @Array.getD_eq_getD_getElem?:=@Array.getD_eq_getD_getElem?
theorem Z0:type_of% @PySem.mem_of_lookup:=@PySem.mem_of_lookup
theorem Z1:type_of% @Heap.get?_update_ne:=@Heap.get?_update_ne
theorem Z2:type_of% @wpAny_field:=@wpAny_field
theorem Z3:type_of% @List.length_singleton:=@List.length_singleton
theorem Z4:type_of% @List.foldl_cons:=@List.foldl_cons
theorem Z5:type_of% @wpAny_specialOf:=@wpAny_specialOf
theorem Z6:type_of% @wpAny_setEntries_of:=@wpAny_setEntries_of
theorem Z7:type_of% @Calls.callWith_builtin:=@Calls.callWith_builtin
theorem Z8:type_of% @Nat.le_succ:=@Nat.le_succ
theorem Z9:type_of% @plainId_quiet:=@plainId_quiet
theorem Za:type_of% @Nat.lt_succ_self:=@Nat.lt_succ_self
theorem Zb:type_of% @wpAny_rule:=@wpAny_rule
theorem Zc:type_of% @Obj.data_mapFields:=@Obj.data_mapFields
theorem Zd:type_of% @List.length_replicate:=@List.length_replicate
theorem Ze:type_of% @List.perm_append_comm:=@List.perm_append_comm
theorem Zf:type_of% @Obj.isFreed_of_fields:=@Obj.isFreed_of_fields
theorem Zg:type_of% @Nat.ne_of_gt:=@Nat.ne_of_gt
theorem Zh:type_of% @List.length_drop:=@List.length_drop
theorem Zi:type_of% @wpAny_forIn_list:=@wpAny_forIn_list
theorem Zj:type_of% @wpAny_seqItems:=@wpAny_seqItems
end
noncomputable section
namespace L2
open PySem PySem.Spec PyProof.Rows
abbrev Key:=Sum Int Str
noncomputable def YK:Key->Value->Bool
 |.inl k,v=>Value.isInt k v|.inr x,v=>Value.isStrOf x v
noncomputable def keyH(w:World):Key->Int
 |.inl k=>hashInt k|.inr x=>hashStr w x
theorem K5:∀{k v},YK k v=true->(∃i t,k=Sum.inl i/\v=Value.int i t)\/(∃x t,k=Sum.inr x/\v=Value.str x t)
 |.inl i,v,h=>by
  obtain⟨t,e⟩:=Value.isInt_shape h;exact .inl ⟨i,t,rfl,e⟩
 |.inr x,v,h=>by
  obtain⟨t,e⟩:=Value.isStrOf_shape h;exact .inr ⟨x,t,rfl,e⟩
theorem qxz i t:YK (.inl i) (.int i t)=true:=by simp[YK,Value.isInt]
theorem qxy x t:YK (.inr x) (.str x t)=true:=by simp[YK,Value.isStrOf]
theorem wvq(a b):decide ((Sum.inl a:Key)=Sum.inl b)=(a==b):=by
 by_cases e:a=b
 ·subst e;simp
 ·grind
theorem wvm(a b):decide ((Sum.inr a:Key)=Sum.inr b)=decide (a=b):=by
 by_cases e:a=b
 ·subst e;simp
 ·grind
theorem wvp a b:decide ((Sum.inl a:Key)=Sum.inr b)=false:=Xh (λq=>nomatch q)
theorem wvn a b:decide ((Sum.inr a:Key)=Sum.inl b)=false:=Xh (λq=>nomatch q)
noncomputable def wj(prog:Program)(w:World):PySem.KeyKind prog w Key where
 is:=YK
 hash:=keyH w
 inj:=λv a b ha hb=>by
  rcases K5 ha with⟨i,t,rfl,rfl⟩|⟨x,t,rfl,rfl⟩
  ·rcases K5 hb with⟨j,u,rfl,e⟩|⟨y,u,rfl,e⟩
   ·injection e with e1 _;rw[e1]
   ·exact nomatch e
  ·rcases K5 hb with⟨j,u,rfl,e⟩|⟨y,u,rfl,e⟩
   ·exact nomatch e
   ·injection e with e1 _;rw[e1]
 byValue:=λk v h=>by
  rcases K5 h with⟨i,t,rfl,rfl⟩|⟨x,t,rfl,rfl⟩<;>rfl
 pyHash:=λhv h=>by
  rcases K5 hv with⟨i,t,rfl,rfl⟩|⟨x,t,rfl,rfl⟩
  ·exact wpAny_pyHash_int h
  ·exact wpAny_pyHash_str h
 eqBool:=λhu hv h=>by
  rcases K5 hu with⟨i,t,rfl,rfl⟩|⟨x,t,rfl,rfl⟩
  ·rcases K5 hv with⟨j,u,rfl,rfl⟩|⟨y,u,rfl,rfl⟩
   ·rw[wvq]at h;exact wpAny_eqBool_int h
   ·rw[wvp]at h;exact SeqAt.EqAt.int_str i t y u _ _ _ _ h
  ·rcases K5 hv with⟨j,u,rfl,rfl⟩|⟨y,u,rfl,rfl⟩
   ·rw[wvn]at h;exact SeqAt.EqAt.str_int x t j u _ _ _ _ h
   ·rw[wvm]at h;exact wpAny_eqBool_str h
 «strs»:=λk x t v h=>by
  rcases K5 h with⟨i,u,rfl,e⟩|⟨y,u,rfl,e⟩
  ·exact nomatch e
  ·injection e with e1 _;subst e1;cases v<;>rfl
theorem kzd prog w i t:(wj prog w).is (.inl i) (.int i t)=true:=qxz i t
theorem kzc prog w x t:(wj prog w).is (.inr x) (.str x t)=true:=qxy x t
inductive V where
 |non|bl (b:Bool)|int (i:Int)|str (x:Str)|byt (b:Array UInt8)|flt (b:UInt64)|ref (a:Addr)|ty (n:String)
 deriving DecidableEq
noncomputable def RelV:V->Value->Prop
 |.non,u=>u=Value.none|.bl b,u=>u=Value.bool b|.int i,u=>∃t,u=Value.int i t|.str x,u=>∃t,u=Value.str x t|.byt b,u=>∃t,u=Value.bytes b t|.flt b,u=>∃t,u=Value.float b t|.ref a,u=>u=Value.ref a|.ty n,u=>u=Value.type n
abbrev Vals:List V->List Value->Prop:=Paired RelV
theorem Vals.length{xs us}(r:Vals xs us):xs.length=us.length:=Paired.length r
theorem Vals.get:∀{xs us} {i:Nat} {x},Vals xs us->xs[i]?=some x->∃u,us[i]?=some u/\RelV x u
 |_,_,_,_,.nil,e=>by simp at e|_,_,0,_,.cons r _,e=>by simp at e;subst e;exact⟨_,rfl,r⟩
 |_,_,i+1,x,.cons _ t,e=>by
  obtain⟨u,h1,h2⟩:=Vals.get t (by simpa using e);exact⟨u,by simpa using h1,h2⟩
theorem Vals.set{x u}(r:RelV x u):∀{xs us} (i),Vals xs us->Vals (xs.set i x) (us.set i u)
 |_,_,_,.nil=>.nil|_,_,0,.cons _ t=>.cons r t|_,_,i+1,.cons q t=>.cons q (Vals.set r i t)
theorem Vals.append:∀{xs ys us ws},Vals xs us->Vals ys ws->Vals (xs++ys) (us++ws)
 |_,_,_,_,.nil,s=>s|_,_,_,_,.cons r t,s=>.cons r (Vals.append t s)
theorem Vals.take:∀{xs us} (n),Vals xs us->Vals (xs.take n) (us.take n)
 |_,_,0,_=>.nil|_,_,_+1,.nil=>.nil|_,_,n+1,.cons r t=>.cons r (Vals.take n t)
theorem Vals.drop:∀{xs us} (n),Vals xs us->Vals (xs.drop n) (us.drop n)
 |_,_,0,r=>r|_,_,_+1,.nil=>.nil|_,_,n+1,.cons _ t=>Vals.drop n t
noncomputable def RelO:Option V->Option Value->Prop
 |some v,some u=>RelV v u|none,none=>True|_,_=>False
noncomputable def KV{κ:Type}:List (κ×V)->List (κ×Value)->Prop:=Paired λ(p:κ×V) (q:κ×Value)=>p.1=q.1/\RelV p.2 q.2
def kV:Key->V
 |.inl i=>.int i|.inr x=>.str x
inductive HO where
 |lst (xs:List V)
 |tup (xs:List V)
 |dK (ab:List (Key×V))|dT (ab:List (List Key×V))
 |set (S:Int->Bool) (n:Nat)
 |ins (C dx:Addr) (fs:List (Str×V))
 |own (x:Addr)
 |xd (fs:List (Str×V))
 |met (f x:Addr)
 |rng (lo hi:Int)
 |frz (o:Obj) (u:HO)
 |tbl (ps:Array Value)
 |ext (φ:World->Heap->Prop)
abbrev Hp:=Addr->Option HO
noncomputable def IsTupD(h:Heap)(a:Addr)(items:Array Value):Prop:=∃o,h.get? a=some o/\o.cls=.type "tuple"/\o.dict=none/\∃n,o.data=.seq items n
theorem IsTupD.tup{h a items}(p:IsTupD h a items):IsTup h a items:=by
 obtain⟨o,e,c,_,n,d⟩:=p;exact⟨o,e,c,n,d⟩
theorem IsTupD.new(h:Heap) xs:IsTupD (h.push {cls:=.type "tuple",data:=.seq xs}) h.objs.size xs:=⟨_,X6 _ rfl,rfl,rfl,0,rfl⟩
noncomputable def upd(H:Hp)(a:Addr)(o:HO):Hp:=λb=>if b=a then some o else H b
theorem x6{H a o}:upd H a o a=some o:=by unfold upd;rw[X9 rfl]
theorem kY{H a b o}(h:b≠a):upd H a o b=H b:=by unfold upd;rw[Xb h]
theorem wzq{H:Hp}{a b o u}(h:H a=some o)(h':H b=some u)(d:o≠u):a≠b:=by
 intro e;subst e;rw[h]at h';exact d (oq9 h')
theorem Jv{H:Hp}{a b o}(h:H a=some o)(h':H b=none):a≠b:=by
 grind
section
variable (P:Program)(w:World)
noncomputable def ObjOk(H : Hp)(h : Heap)(a : Addr): HO -> Prop
  |.lst xs=>xs.length<=sizeLine /\ ∃(a9 : List Value) (n : Nat),Vals xs a9 /\ h.get? a = some {cls:= .type "list",data:= .seq a9.toArray n}|.tup xs=>xs.length<=sizeLine /\ ∃a9 : List Value,Vals xs a9 /\ IsTupD h a a9.toArray|.dK ab=>ab.length<=sizeLine /\ (a==sysModules) = false /\ ∃vs,KV ab vs /\ h.DictOf (wj P w) a vs
  |.dT ab=>ab.length<=sizeLine /\ (a==sysModules) = false /\ ∃xs : List (List Key × Addr × Value),
      Paired (λ(p : List Key × V) (q : List Key × Addr × Value)=>p.1 = q.1 /\ H q.2.1 = some (.tup (p.1.map kV)) /\ RelV p.2 q.2.2) ab xs /\
      ∃o es ep,h.get? a = some o /\ o.ExactDict /\ o.data = .dict es ep /\ es.toList = xs.map (entryOfKey (tupleKind (wj P w))) /\ (xs.map (·.1)).Nodup
  |.set S n=>h.SetOf (intKind P w) a S n
  |.ins C dx fs=>H dx = some (.own a) /\ fs.length<=1000 /\ dx≠a /\ h.get? a = some (PySem.W.instObj C dx) /\
      ∃mA,h.Ns1 dx mA /\ (∀f,RelO (fs.lookup f) (mA f)) /\ PySem.Within mA (fs.map (·.1))
  |.own _=> ∃o,h.get? a = some o|.xd fs=> ∃mA,h.Ns1 a mA /\ ∀f,RelO (fs.lookup f) (mA f)|.rng lo hi=> ∃t u v,h.get? a = some {cls:= .type "range",data:= .fields #[.int lo t,.int hi u,.int 1 v]}|.frz o u=>h.get? a = some o /\ ObjOk H h a u|.tbl ps=>h.get? a = some {cls:= .none,data:= .fields ps}|.met f x=>h.get? a = some (PySem.W.methodObj (.ref f) (.ref x))|.ext φ=>φ w h /\ (∃o,h.get? a = some o) /\ ∀h1 h2 : Heap,φ w h1 -> (∀o,h1.get? a = some o -> h2.get? a = some o) -> φ w h2
noncomputable def HOk(H:Hp)(h:Heap):Prop:=∀a o,H a=some o->ObjOk P w H h a o
end
section
variable {P:Program}{w:World}{H H':Hp}{h h':Heap}{a:Addr}{o:HO}
theorem ObjOk.lt(x:ObjOk P w H h a o):a<h.objs.size:=by
 cases o with|lst xs=>obtain⟨_,_,_,_,e⟩:=x;exact Xa e|tup xs=>obtain⟨_,_,_,p⟩:=x;exact p.tup.lt|dK ab=>obtain⟨_,_,_,_,o,_,_,e,_⟩:=x;exact Xa e|dT ab=>obtain⟨_,_,_,_,o,_,_,e,_⟩:=x;exact Xa e|set S n=>obtain⟨o,_,_,_,e,_⟩:=x;exact Xa e|ins C dx fs=>obtain⟨_,_,_,e,_⟩:=x;exact Xa e|own y=>obtain⟨_,e⟩:=x;exact Xa e|xd fs=>obtain⟨_,⟨_,_,_,e,_⟩,_⟩:=x;exact Xa e|rng lo hi=>obtain⟨_,_,_,e⟩:=x;exact Xa e|frz ob u=>obtain⟨e,_⟩:=x;exact Xa e|tbl ps=>exact Xa (x)|met f y=>exact Xa (x)|ext φ=>obtain⟨_,⟨_,e⟩,_⟩:=x;exact Xa e
theorem Paired.mapP{α β F G}:∀{l₁:List α} {l₂:List β},Paired F l₁ l₂->(∀a b,F a b->G a b)->Paired G l₁ l₂
 |_,_,.nil,_=>.nil|_,_,.cons r t,f=>.cons (f _ _ r) (Paired.mapP t f)
theorem ObjOk.stay(x:ObjOk P w H h a o)(k:∀b u,(b=a\/H b=some (.own a))->h.get? b=some u->h'.get? b=some u)
  (ho:∀b,H b=some (.own a)->H' b=some (.own a)) (ht:∀b xs,H b=some (.tup xs)->H' b=some (.tup xs)):ObjOk P w H' h' a o:=by
 induction o with
 |lst xs=>obtain⟨z,a9,n,r,e⟩:=x;exact⟨z,a9,n,r,k _ _ (.inl rfl) e⟩|tup xs=>obtain⟨z,a9,r,ob,e,c⟩:=x;exact⟨z,a9,r,ob,k _ _ (.inl rfl) e,c⟩|dK ab=>obtain⟨z,y,vs,r,ob,es,ep,e,c⟩:=x;exact⟨z,y,vs,r,ob,es,ep,k _ _ (.inl rfl) e,c⟩
 |dT ab=>
  obtain⟨z,y,xs,r,ob,es,ep,e,c⟩:=x;exact⟨z,y,xs,Paired.mapP r λp q z=>⟨z.1,ht _ _ z.2.1,z.2.2⟩,ob,es,ep,k _ _ (.inl rfl) e,c⟩
 |set S n=>obtain⟨ob,es,ep,t,e,c⟩:=x;exact⟨ob,es,ep,t,k _ _ (.inl rfl) e,c⟩
 |ins C dx fs=>
  obtain⟨d,z,ne,e,mA,⟨od,es,ep,e2,c⟩,r⟩:=x;exact⟨ho _ d,z,ne,k _ _ (.inl rfl) e,mA,⟨od,es,ep,k _ _ (.inr d) e2,c⟩,r⟩
 |own y=>obtain⟨ob,e⟩:=x;exact⟨ob,k _ _ (.inl rfl) e⟩|xd fs=>obtain⟨mA,⟨od,es,ep,e,c⟩,r⟩:=x;exact⟨mA,⟨od,es,ep,k _ _ (.inl rfl) e,c⟩,r⟩|rng lo hi=>obtain⟨t,u,v,e⟩:=x;exact⟨t,u,v,k _ _ (.inl rfl) e⟩|frz ob u ih=>obtain⟨e,q⟩:=x;exact⟨k _ _ (.inl rfl) e,ih q⟩
 |tbl ps=>
  have e:h.get? a=some {cls:=.none,data:=.fields ps}:=x;exact k a _ (.inl rfl) e
 |met f y=>
  have e:=x;exact k a _ (.inl rfl) e
 |ext φ=>obtain⟨p,⟨o,e⟩,st⟩:=x;exact⟨st _ _ p λo q=>k _ _ (.inl rfl) q,⟨o,k _ _ (.inl rfl) e⟩,st⟩
theorem HOk.lt(x:HOk P w H h)(e:H a=some o):a<h.objs.size:=(x a o e).lt
theorem HOk.fresh(x:HOk P w H h)(e:h.objs.size<=a):H a=none:=by
 cases q:H a with|none=>rfl|some u=>exact absurd (Xn (x.lt q) e) (Yu _)
theorem HOk.kept(x:HOk P w H h)(k:∀b u,h.get? b=some u->h'.get? b=some u):HOk P w H h':=λa o e=>
 (x a o e).stay (λb u _ q=>k b u q) (λ_ q=>q) λ_ _ q=>q
theorem HOk.laid(x:HOk P w H h)(k:∀b u,h.get? b=some u->h'.get? b=some u)(hp:h.objs.size<=a)(new:ObjOk P w (upd H a o) h' a o):HOk P w (upd H a o) h':=λb u e=>by
 have hn:=x.fresh hp
 by_cases hb:b=a
 ·subst hb;rw[x6]at e;cases e;exact new
 ·rw[kY hb]at e;exact(x b u e).stay (λc v _ q=>k c v q) (λc q=>by rw[kY (Jv q hn)];exact q) λc xs q=>by rw[kY (Jv q hn)];exact q
end
noncomputable def Rd(H:Hp)(a:Addr)(u:HO):Prop:=H a=some u\/∃o,H a=some (.frz o u)
theorem Rd.ok{P w H h a u}(r:Rd H a u)(x:HOk P w H h):ObjOk P w H h a u:=by
 rcases r with r|⟨o,r⟩
 ·exact x a u r
 ·obtain⟨_,q⟩:=x a _ r;exact q
noncomputable def Mut:Option HO->Prop
 |some (.lst _)=>True|some (.dK _)=>True|some (.dT _)=>True|some (.set _ _)=>True|some (.ins _ _ _)=>True|some (.ext _)=>True|_=>False
section
variable {P:Program}{w:World}{H:Hp}{h h':Heap}{x e:Addr}{o':HO}
theorem HOk.write(ok:HOk P w H h)(mu:Mut (H x))(he:e=x\/H e=some (.own x))(k:∀b u,b≠e->h.get? b=some u->h'.get? b=some u)(si:∃u,h'.get? e=some u)
  (new:ObjOk P w (upd H x o') h' x o'):HOk P w (upd H x o') h':=λb u q=>by
 have nown:∀c y,H c=some (.own y)->c≠x:=λc y r z=>by subst z;rw[r]at mu;exact mu
 have ntup:∀c xs,H c=some (.tup xs)->c≠x:=λc xs r z=>by subst z;rw[r]at mu;exact mu
 by_cases hb:b=x
 ·subst hb;rw[x6]at q;cases q;exact new
 ·rw[kY hb]at q
  by_cases hbe:b=e
  ·have q':H b=some (.own x):=by
    rcases he with z|z
    ·exact absurd (hbe.trans z) hb
    ·rw[hbe];exact z
   rw[q]at q';cases q';obtain⟨v,hv⟩:=si;exact⟨v,by rw[hbe];exact hv⟩
  ·refine(ok b u q).stay (λc v hc r=>k c v ?_ r) (λc r=>by rw[kY (nown c b r)];exact r) λc xs r=>by rw[kY (ntup c xs r)];exact r
   rcases hc with rfl|hc
   ·exact hbe
   ·grind
end
structure Un (fs ex:List Addr)(H H':Hp)(h h':Heap):Prop where
 keep:∀b o,h.get? b=some o->H b=none->b∉fs->b∉ex->h'.get? b=some o
 slot:∀b o,h.get? b=some o->H b=none->b∈fs->b∉ex->∃sl,h'.get? b=some {o with slots:=sl}
 free:∀b o,h.get? b=some o->H b=none->b∉ex->H' b=none
 there:∀b o,h.get? b=some o->b∉ex->∃o',h'.get? b=some o'
 tups:∀b xs,H b=some (.tup xs)->H' b=some (.tup xs)
 frzs:∀b o u,H b=some (.frz o u)->H' b=some (.frz o u)
 tbls:∀b ps,H b=some (.tbl ps)->∃more,H' b=some (.tbl (ps++more))
section
variable {fs fs' ex ex':List Addr}{H H1 H2:Hp}{h h1 h2 h':Heap}{a x e:Addr}{o:HO}
theorem Un.any(u:Un fs ex H H1 h h1){b ob}(q:h.get? b=some ob)(n:H b=none)(hx:b∉ex):∃sl,h1.get? b=some {ob with slots:=sl}:=by
 by_cases hb:b∈fs
 ·exact u.slot b ob q n hb hx
 ·exact⟨ob.slots,u.keep b ob q n hb hx⟩
theorem Un.kept(k:∀b u,h.get? b=some u->h'.get? b=some u):Un fs ex H H h h':=
 ⟨λb ob q _ _ _=>k b ob q,λb ob q _ _ _=>⟨ob.slots,k b ob q⟩,λ_ _ _ n _=>n,λb ob q _=>⟨ob,k b ob q⟩,λ_ _ q=>q,λ_ _ _ q=>q,λ_ ps q=>⟨#[],by rw[q];simp⟩⟩
theorem Un.refl:Un fs ex H H h h:=Un.kept λ_ _ q=>q
theorem Un.laid(k:∀b u,h.get? b=some u->h'.get? b=some u)(hp:h.objs.size<=a)(hn:H a=none):Un fs ex H (upd H a o) h h' where
 keep:=λb u q _ _ _=>k b u q
 slot:=λb u q _ _ _=>⟨u.slots,k b u q⟩
 free:=λb u q n _=>by rw[kY (Xe (Xn (Xa q) hp))];exact n
 there:=λb u q _=>⟨u,k b u q⟩
 tups:=λb xs q=>by rw[kY (Jv q hn)];exact q
 frzs:=λb u xs q=>by rw[kY (Jv q hn)];exact q
 tbls:=λb ps q=>⟨#[],by rw[kY (Jv q hn),q];simp⟩
theorem Un.write(mu:Mut (H x))(he:e=x\/H e=some (.own x))(k:∀b u,b≠e->h.get? b=some u->h'.get? b=some u)(si:∃u,h'.get? e=some u):Un fs ex H (upd H x o) h h':=by
 have hx:∀b,H b=none->b≠x:=λb n z=>by subst z;rw[n]at mu;exact mu
 have hb:∀b,H b=none->b≠e:=λb n z=>by
  subst z;rcases he with r|r
  ·exact hx b n r
  ·grind
 have hm:∀b u,H b=some u->¬Mut (some u)->b≠x:=λb u q nm z=>by subst z;rw[q]at mu;exact nm mu
 refine⟨λb u q n _ _=>k b u (hb b n) q,λb u q n _ _=>⟨u.slots,k b u (hb b n) q⟩,λb u q n _=>by rw[kY (hx b n)];exact n,λb u q _=>?_,
  λb xs q=>by rw[kY (hm b _ q λz=>z)];exact q,λb u xs q=>by rw[kY (hm b _ q λz=>z)];exact q,λb ps q=>⟨#[],by rw[kY (hm b _ q λz=>z),q];simp⟩⟩
 by_cases hbe:b=e
 ·grind
 ·exact⟨u,k b u hbe q⟩
end
noncomputable def trk(h:Heap)(H:Hp):List Addr:=(List.range h.objs.size).filter λa=>(H a).isSome
def V0(h:Heap)(H:Hp):Heap:=PySem.W.hideAll h (trk h H)
theorem qz9 h H:(V0 h H).objs.size=h.objs.size:=PySem.W.hideAll_size _ _
theorem vq4{h H b o}(e:h.get? b=some o)(n:H b=none):(V0 h H).get? b=some o:=
 PySem.W.hideAll_get _ e λhm=>by
  have q:=(List.mem_filter.mp hm).2;rw[n]at q;simp at q
theorem vxv{h H b o}(e:(V0 h H).get? b=some o):h.get? b=some o/\H b=none:=by
 have e':=PySem.W.of_hideAll _ e;refine⟨e',?_⟩;cases q:H b with
 |none=>rfl
 |some x=>
  have hm:b∈trk h H:=List.mem_filter.mpr ⟨List.mem_range.mpr (Xa e'),by simp[q]⟩;have z:(V0 h H).get? b=none:=PySem.W.hideAll_none _ hm
  grind
structure Mod (K:Frag)(mg:Str->Option Value)(base:Heap):Prop where
 kin:K.In base
 glob:base.Ns mainGlobals mg
 blt:∃mb,base.Ns builtinsNs mb/\∀x:Str,x≠"__name__"->mb x=bootBuiltins x
 nolimit:base.NoLimit
structure Cx where
 prog:Program
 w:World
 K:Frag
 mg:Str->Option Value
 base:Heap
 A:Around
 N:List Str
 s₀:Shared
 H₀:Hp
 env:Env
 outer:List Env
 stack:List Env
 ex:List Addr
 fn:Str->Bool
 calm:Bool
 pn:LA9
 xe:VP9
def frs(l:List Env):List Addr:=l.filterMap (·.frame)
abbrev Cx.fs(X:Cx):List Addr:=frs X.outer
noncomputable def Vis(sc:Scope)(x:Str):Prop:=sc.names.lookup x=some .local\/sc.names.lookup x=some .cell\/sc.names.lookup x=some .free
noncomputable def Loc(sc:Scope)(x:Str):Prop:=sc.names.lookup x=some .local\/sc.names.lookup x=some .cell
noncomputable def Look(env:Env)(h:Heap)(m:Str->Option Value)(x:Str)(u:Value):Prop:=
 (env.kindOf x=some .local/\m x=some u)\/((env.kindOf x=some .cell\/env.kindOf x=some .free)/\∃c,env.cells.lookup x=some c/\h.IsCell c (some u))
structure Cx.Ok (X:Cx):Prop where
 mod:Mod X.K X.mg X.base
 kind:X.env.scope.kind=.function
 glob:X.env.globals=mainGlobals
 blt:X.env.builtins=builtinsNs
 above:X.s₀.heap.objs.size<=X.env.locals
 inj:∀x y c,X.env.cells.lookup x=some c->X.env.cells.lookup y=some c->x=y
 has:∀x,(X.env.kindOf x=some .cell\/X.env.kindOf x=some .free)->∃c,X.env.cells.lookup x=some c
 cab:∀x c,X.fn x=true->X.env.cells.lookup x=some c->X.s₀.heap.objs.size<=c
 hd:X.calm=true->X.A.handled=none
 frames:X.A.frames=some X.stack
 stk:X.stack=X.outer\/(X.stack=X.env::X.outer/\X.env.frame=some X.env.locals)
 exf:∀b∈X.ex,b≠X.env.locals/\∀x c,X.env.cells.lookup x=some c->c≠b
 bs:∀b o,X.base.get? b=some o->X.s₀.heap.get? b=some o/\X.H₀ b=none
 bsz:X.base.objs.size<=X.s₀.heap.objs.size
 noex:∀b o,X.base.get? b=some o->b∉X.ex
 exfs:∀b∈X.ex,b∉X.fs
 funs:X.s₀.heap.FunFrames X.base X.outer
 frf:∀b∈X.fs,X.H₀ b=none
structure Inv (X:Cx)(a7:LA9)(σ:List (Option V))(H:Hp)(s:Shared):Prop where
 ok:X.Ok
 os:s.os=X.s₀.os
 bare:AllBare s.gens
 base:Un X.fs X.ex X.H₀ H X.s₀.heap s.heap
 loc:∃m,s.heap.Ns X.env.locals m/\∀(i:Nat) (x:Str) (v:V),X.N[i]?=some x->σ[i]?=some (some v)->Vis X.env.scope x->∃u,RelV v u/\Look X.env s.heap m x u
 cell:∀x c,X.env.cells.lookup x=some c->∃v,s.heap.IsCell c v
 free:H X.env.locals=none
 freeC:∀x c,X.env.cells.lookup x=some c->H c=none
 pin:∀p∈X.pn++a7,s.heap.get? p.1=some p.2/\H p.1=none/\p.1≠X.env.locals/\p.1∉X.fs/\∀v,p.2.data≠.cell v
 hok:HOk X.prog X.w H s.heap
 len:σ.length=X.N.length
section
variable {X:Cx}{a7:LA9}{σ:List (Option V)}{H H':Hp}{s:Shared}{h':Heap}
theorem Cx.Ok.nofr(ok:X.Ok){b o}(e:X.base.get? b=some o):b∉X.fs:=λhb=>by
 have:=(ok.funs.mem hb).1
 grind
theorem Inv.bs(I:Inv X a7 σ H s):∀b o,X.base.get? b=some o->s.heap.get? b=some o/\H b=none:=λb o e=>
 ⟨I.base.keep b o (I.ok.bs b o e).1 (I.ok.bs b o e).2 (I.ok.nofr e) (I.ok.noex b o e),I.base.free b o (I.ok.bs b o e).1 (I.ok.bs b o e).2 (I.ok.noex b o e)⟩
theorem Inv.bk(I:Inv X a7 σ H s):∀b o,X.base.get? b=some o->s.heap.get? b=some o:=λb o e=>(I.bs b o e).1
theorem Inv.mod(I:Inv X a7 σ H s):Mod X.K X.mg X.base:=I.ok.mod
theorem Inv.kIn(I:Inv X a7 σ H s):X.K.In s.heap:=I.ok.mod.kin.keeps I.bk
theorem Inv.lt(I:Inv X a7 σ H s):X.env.locals<s.heap.objs.size:=let ⟨_,hn,_⟩:=I.loc;hn.lt
theorem Inv.sz(I:Inv X a7 σ H s):X.s₀.heap.objs.size<=s.heap.objs.size:=Ye I.ok.above (Nat.le_of_lt I.lt)
theorem Inv.nofs(I:Inv X a7 σ H s){a:Addr}(h:s.heap.objs.size<=a):a∉X.fs:=λhb=>by
 obtain⟨_,o,ho,_⟩:=I.ok.funs.mem hb;exact absurd (Xn (Xa ho) (Ye I.sz h)) (Yu _)
theorem Inv.cne(I:Inv X a7 σ H s):∀x c,X.env.cells.lookup x=some c->c≠X.env.locals:=λx c e z=>by
 obtain⟨v,o,ho,hd⟩:=I.cell x c e;obtain⟨m,⟨o',es,ep,ip,iu,_⟩,_⟩:=I.loc
 grind
theorem Inv.funs(I:Inv X a7 σ H s):s.heap.FunFrames X.base X.outer:=by
 have all:∀l,(∀b∈frs l,b∈X.fs)->X.s₀.heap.FunFrames X.base l->s.heap.FunFrames X.base l:=by
  intro l
  induction l with
  |nil=>intro _ _;trivial
  |cons env r ih=>
   rintro hs ⟨hk,⟨L,o,hf,hn,ho,hd⟩,hr⟩;have hL:=hs L (by unfold frs;rw[List.filterMap_cons,hf];exact X5);obtain⟨sl,e⟩:=I.base.slot L o ho (I.ok.frf L hL) hL λz=>I.ok.exfs L z hL
   exact⟨hk,⟨L,_,hf,hn,e,hd⟩,ih (λb hb=>hs b (by unfold frs;rw[List.filterMap_cons,hf];exact lc9 _ hb)) hr⟩
 exact all X.outer (λ_ hb=>hb) I.ok.funs
theorem Inv.stack(I:Inv X a7 σ H s):s.heap.FunFrames X.base X.stack:=by
 rcases I.ok.stk with e|⟨e,hf⟩
 ·rw[e];exact I.funs
 ·rw[e];obtain⟨m,hn,_⟩:=I.loc;exact .cons (by rw[I.ok.kind];decide) hf hn (Heap.get?_none_of_le (Ye I.ok.bsz I.ok.above)) I.funs
theorem Inv.stkSub(I:Inv X a7 σ H s):∀b∈frs X.stack,b∈X.env.locals::X.fs:=λb hb=>by
 rcases I.ok.stk with e|⟨e,hf⟩
 ·rw[e]at hb;exact lc9 _ hb
 ·rw[e]at hb;unfold frs at hb;rw[List.filterMap_cons,hf]at hb;exact hb
theorem Inv.stkFree(I:Inv X a7 σ H s):∀b∈frs X.stack,H b=none:=λb hb=>by
 rcases aD (I.stkSub b hb)with e|hb
 ·rw[e];exact I.free
 ·obtain⟨_,o,ho,_⟩:=I.ok.funs.mem hb;exact I.base.free b o ho (I.ok.frf b hb) λz=>I.ok.exfs b z hb
theorem Inv.step{g' t' d'}{ch:List Addr}(I:Inv X a7 σ H s)
  (gi:∀b∈ch,(b∈X.ex\/X.s₀.heap.objs.size<=b)/\b≠X.env.locals/\(∀x c,X.env.cells.lookup x=some c->c≠b)/\∀p∈X.pn++a7,p.1≠b)
  (keep:∀b o,b≠X.env.locals->b∉X.fs->b∉ch->s.heap.get? b=some o->H b=none->h'.get? b=some o)
  (slot:∀b o,b≠X.env.locals->b∈X.fs->b∉ch->s.heap.get? b=some o->H b=none->∃sl,h'.get? b=some {o with slots:=sl}) (free:∀b o,b∉ch->s.heap.get? b=some o->H b=none->H' b=none)
  (there:∀b o,b∉ch->s.heap.get? b=some o->∃o',h'.get? b=some o')
  (tups:∀b xs,H b=some (.tup xs)->H' b=some (.tup xs)) (frzs:∀b o u,H b=some (.frz o u)->H' b=some (.frz o u)) (tbls:∀b ps,H b=some (.tbl ps)->∃more,H' b=some (.tbl (ps++more)))
  (ns:∀m,s.heap.Ns X.env.locals m->h'.Ns X.env.locals m) (hok:HOk X.prog X.w H' h') (hg:AllBare g'):
  Inv X a7 σ H' {s with heap:=h',gens:=g',drawn:=d',toks:=t' }:=by
 have rl:∀b o,X.s₀.heap.get? b=some o->b≠X.env.locals:=λb o e=>Xe (Xn (Xa e) I.ok.above)
 have me:∀b o,X.s₀.heap.get? b=some o->b∉X.ex->b∉ch:=λb o e hx hb=>by
  rcases(gi b hb).1 with z|z
  ·exact hx z
  ·exact absurd (Xn (Xa e) z) (Yu _)
 have h8:∀x c,X.env.cells.lookup x=some c->∀v,s.heap.IsCell c v->h'.IsCell c v:=λx c e v ⟨o,ho,hd⟩=>by
  have ku:=λz=>(gi c z).2.2.1 x c e rfl
  by_cases hc:c∈X.fs
  ·obtain⟨sl,q⟩:=slot c o (I.cne x c e) hc ku ho (I.freeC x c e);exact⟨_,q,hd⟩
  ·exact⟨o,keep c o (I.cne x c e) hc ku ho (I.freeC x c e),hd⟩
 refine⟨I.ok,I.os,hg,⟨λb o e n hb hx=>?_,λb o e n hb hx=>?_,λb o e n hx=>?_,λb o e hx=>?_,λb xs e=>tups b xs (I.base.tups b xs e),λb o xs e=>frzs b o xs (I.base.frzs b o xs e),λb ps e=>?_⟩,?_,λx c e=>?_,?_,λx c e=>?_,λp hp=>?_,hok,I.len⟩
 ·exact keep b o (rl b o e) hb (me b o e hx) (I.base.keep b o e n hb hx) (I.base.free b o e n hx)
 ·obtain⟨sl,e1⟩:=I.base.slot b o e n hb hx;obtain⟨sl',e2⟩:=slot b _ (rl b o e) hb (me b o e hx) e1 (I.base.free b o e n hx);exact⟨sl',e2⟩
 ·obtain⟨o',e1⟩:=I.base.there b o e hx;exact free b o' (me b o e hx) e1 (I.base.free b o e n hx)
 ·obtain⟨o',e1⟩:=I.base.there b o e hx;exact there b o' (me b o e hx) e1
 ·obtain _:=I.base.tbls b ps e
  grind
 ·obtain⟨m,hn,hl⟩:=I.loc;refine⟨m,ns m hn,λi x v e1 e2 e3=>?_⟩;obtain⟨u,r,l⟩:=hl i x v e1 e2 e3;refine⟨u,r,?_⟩;rcases l with l|⟨k,c,e,z⟩
  ·exact .inl l
  ·exact .inr ⟨k,c,e,h8 x c e _ z⟩
 ·obtain⟨v,z⟩:=I.cell x c e;exact⟨v,h8 x c e v z⟩
 ·obtain⟨m,⟨o,_,_,ho,_⟩,_⟩:=I.loc;exact free _ o (λz=>(gi _ z).2.1 rfl) ho I.free
 ·obtain⟨v,o,ho,hd⟩:=I.cell x c e;exact free c o (λz=>(gi c z).2.2.1 x c e rfl) ho (I.freeC x c e)
 ·obtain⟨e,n,ne,nf,d⟩:=I.pin p hp;have ku:=λz=>(gi p.1 z).2.2.2 p hp rfl
  exact⟨keep p.1 p.2 ne nf ku e n,free p.1 p.2 ku e n,ne,nf,d⟩
theorem Inv.un{t'}(I:Inv X a7 σ H s)(u:Un X.fs [] H H' s.heap h')(hok:HOk X.prog X.w H' h'):Inv X a7 σ H' {s with heap:=h',toks:=t' }:=by
 obtain⟨m,⟨o,es,ep,ho,r⟩,_⟩:=id I.loc;obtain⟨sl,hL⟩:=u.any ho I.free (by simp);exact I.step (g':=s.gens) (d':=s.drawn) (ch:=[]) (λ_ z=>nomatch z) (λb o _ hb _ e n=>u.keep b o e n hb (by simp)) (λb o _ hb _ e n=>u.slot b o e n hb (by simp)) (λb o _ e n=>u.free b o e n (by simp)) (λb o _ e=>u.there b o e (by simp)) u.tups u.frzs u.tbls (λm' hm=>by
  obtain⟨o',es',u7,ip,r'⟩:=hm;rw[ho]at ip;cases ip;exact⟨_,es',u7,hL,r'⟩) hok I.bare
theorem Inv.call{g' t' d' ch}(I:Inv X a7 σ H s)(u:Un (frs X.stack) ch H H' s.heap h')(hok:HOk X.prog X.w H' h')(hg:AllBare g')
  (gi:∀b∈ch,(b∈X.ex\/X.s₀.heap.objs.size<=b)/\b≠X.env.locals/\(∀x c,X.env.cells.lookup x=some c->c≠b)/\∀p∈X.pn++a7,p.1≠b):
  Inv X a7 σ H' {s with heap:=h',gens:=g',drawn:=d',toks:=t' }:=by
 obtain⟨m,⟨o,es,ep,ho,r⟩,_⟩:=id I.loc;obtain⟨sl,hL⟩:=u.any ho I.free λz=>(gi _ z).2.1 rfl
 exact I.step gi (λb o hL hb hc e n=>u.keep b o e n (λz=>(aD (I.stkSub b z)).elim hL hb) hc) (λb o _ _ hc e n=>u.any e n hc) (λb o hc e n=>u.free b o e n hc) (λb o hc e=>u.there b o e hc) u.tups u.frzs u.tbls (λm' hm=>by
  obtain⟨o',es',u7,ip,r'⟩:=hm;rw[ho]at ip;cases ip;exact⟨_,es',u7,hL,r'⟩) hok hg
theorem Inv.turned{t' it}(I:Inv X a7 σ H s)(k:∀b o,b≠it->s.heap.get? b=some o->h'.get? b=some o)(hn:H it=none)(hL:it≠X.env.locals)
  (h1:it∈X.ex\/X.s₀.heap.objs.size<=it) (h2:∀x c,X.env.cells.lookup x=some c->c≠it) (h3:∀p∈X.pn++a7,p.1≠it):Inv X a7 σ H {s with heap:=h',toks:=t' }:=by
 have qp:∀b u,H b=some u->b≠it:=λb u e z=>by rw[z,hn]at e;cases e
 refine I.step (g':=s.gens) (d':=s.drawn) (ch:=[it]) (λb hb=>?_) (λb o _ _ hc e _=>k b o (λz=>hc (by simp[z])) e) (λb o _ _ hc e _=>⟨o.slots,k b o (λz=>hc (by simp[z])) e⟩) (λ_ _ _ _ n=>n)
  (λb o hc e=>⟨o,k b o (λz=>hc (by simp[z])) e⟩) (λ_ _ e=>e) (λ_ _ _ e=>e) (λb ps e=>⟨#[],by rw[e];simp⟩) (λm hm=>?_) (λb u e=>?_) I.bare
 ·have e:b=it:=by simpa using hb
  subst e;exact⟨h1,hL,h2,h3⟩
 ·obtain⟨o,es,ep,ho,r⟩:=hm;exact⟨o,es,ep,k _ o (Ne.symm hL) ho,r⟩
 ·refine(I.hok b u e).stay (λc v hc q=>k c v ?_ q) (λ_ q=>q) λ_ _ q=>q
  rcases hc with z|z
  ·rw[z];exact qp b u e
  ·exact qp c _ z
theorem Inv.tok(I:Inv X a7 σ H s) t:Inv X a7 σ H {s with toks:=t}:=I.un (h':=s.heap) (t':=t) Un.refl I.hok
theorem Inv.kept{t'}(I:Inv X a7 σ H s)(k:∀b u,s.heap.get? b=some u->h'.get? b=some u):Inv X a7 σ H {s with heap:=h',toks:=t' }:=I.un (Un.kept k) (I.hok.kept k)
theorem Inv.laid{a:Addr}{o t'}(I:Inv X a7 σ H s)(k:∀b u,s.heap.get? b=some u->h'.get? b=some u)(hp:s.heap.objs.size<=a)(new:ObjOk X.prog X.w (upd H a o) h' a o):
  Inv X a7 σ (upd H a o) {s with heap:=h',toks:=t' }:=I.un (Un.laid k hp (I.hok.fresh hp)) (I.hok.laid k hp new)
theorem Inv.write{x e o t'}(I:Inv X a7 σ H s)(mu:Mut (H x))(he:e=x\/H e=some (.own x))(k:∀b u,b≠e->s.heap.get? b=some u->h'.get? b=some u)(si:∃u,h'.get? e=some u)
  (new:ObjOk X.prog X.w (upd H x o) h' x o):Inv X a7 σ (upd H x o) {s with heap:=h',toks:=t' }:=I.un (Un.write mu he k si) (I.hok.write mu he k si new)
theorem Inv.pins_of{d6}(I:Inv X a7 σ H s)(h:∀p∈d6,s.heap.get? p.1=some p.2/\H p.1=none/\p.1≠X.env.locals/\p.1∉X.fs/\∀v,p.2.data≠.cell v):Inv X d6 σ H s:=
 ⟨I.ok,I.os,I.bare,I.base,I.loc,I.cell,I.free,I.freeC,λp hp=>(aA hp).elim (λz=>I.pin p (ll9 _ z)) (h p),I.hok,I.len⟩
theorem qk4{N:List Str}(hN:N.Nodup){i j:Nat}{x}(a:N[i]?=some x)(b:N[j]?=some x):i=j:=by
 obtain⟨h1,e1⟩:=List.getElem?_eq_some_iff.mp a;obtain⟨h2,e2⟩:=List.getElem?_eq_some_iff.mp b;exact(List.getElem_inj hN).mp (e1.trans e2.symm)
theorem qvo{M A E i x v u Q}(I:Inv X a7 σ H s)(hN:X.N.Nodup)(hi:X.N[i]?=some x)(hx:Loc X.env.scope x)(r:RelV v u)
  (h:∀s',Inv X a7 (σ.set i (some v)) H s'->(∃a,Heap.SameBut a s.heap s'.heap/\(a=X.env.locals\/X.env.cells.lookup x=some a))->Q () s') (hf:autoParam (X.fn x=true\/X.env.scope.names.lookup x=some .local) Ř):wpAny M A (storeName X.env x u) Q E s:=by
 obtain⟨m,hn,hl⟩:=id I.loc;have hcls:(X.env.scope.kind == .class||(X.env.scope.kind == .module&&X.env.locals != X.env.globals))=false:=by rw[I.ok.kind];rfl
 have hiσ:i < σ.length:=by rw[I.len];exact(List.getElem?_eq_some_iff.mp hi).1
 have cne:=I.cne;have im:∀{a h'},(∃o,s.heap.get? a=some o/\H a=none)->Heap.SameBut a s.heap h'->HOk X.prog X.w H h':=fun {a h'} ha hs b ob e=>by
  refine(I.hok b ob e).stay (λc w' hc q=>(hs.2 c ?_).trans q) (λ_ q=>q) λ_ _ q=>q
  rintro rfl;rcases hc with rfl|hc
  ·grind
  ·grind
 rcases hx with hk|hk
 ·refine wpAny_storeName_local hk hn (λh' hn' hs=>?_) hcls;obtain⟨oL,_,_,je,_⟩:=id hn;refine h _ ⟨I.ok,I.os,I.bare,⟨λb o e n hb hx=>?_,λb o e n hb hx=>?_,I.base.free,λb o e hx=>?_,I.base.tups,I.base.frzs,I.base.tbls⟩,⟨_,hn',λj y v' e1 e2 e3=>?_⟩,λy c e=>?_,I.free,I.freeC,λp hp=>?_,im ⟨oL,je,I.free⟩ hs,by simpa using I.len⟩ ⟨_,hs,.inl rfl⟩
  ·exact(hs.2 b (Xe (Xn (Xa e) I.ok.above))).trans (I.base.keep b o e n hb hx)
  ·obtain⟨sl,e1⟩:=I.base.slot b o e n hb hx;exact⟨sl,(hs.2 b (Xe (Xn (Xa e) I.ok.above))).trans e1⟩
  ·obtain⟨o',e1⟩:=I.base.there b o e hx;exact⟨o',(hs.2 b (Xe (Xn (Xa e) I.ok.above))).trans e1⟩
  ·by_cases hj:j=i
   ·subst hj;rw[hi]at e1;cases e1;rw[List.getElem?_set_self hiσ]at e2;cases e2;exact⟨u,r,.inl ⟨hk,by simp⟩⟩
   ·rw[Yy (Ne.symm hj)]at e2;obtain⟨u',r',q⟩:=hl j y v' e1 e2 e3;refine⟨u',r',?_⟩;rcases q with⟨k,e⟩|⟨k,c,e,z⟩
    ·refine .inl ⟨k,?_⟩;have:y≠x:=λe=>hj (qk4 hN e1 (e▸hi))
     simp[this,e]
    ·exact .inr ⟨k,c,e,z.sameBut hs (cne y c e)⟩
  ·obtain⟨w',z⟩:=I.cell y c e;exact⟨w',z.sameBut hs (cne y c e)⟩
  ·obtain⟨e,n,ne,nf,d⟩:=I.pin p hp;exact⟨(hs.2 p.1 ne).trans e,n,ne,nf,d⟩
 ·have hfn:X.fn x=true:=by
   rcases hf with z|z
   ·exact z
   ·grind
  obtain⟨c,hc⟩:=I.ok.has x (.inl hk);obtain⟨w',z⟩:=I.cell x c hc;refine wpAny_storeName_cell I.ok.kind hk hc z (λh' hc' hs=>?_);obtain⟨oc,hoc,hocd⟩:=id z;refine h {s with heap:=h' } ⟨I.ok,I.os,I.bare,⟨λb o e n hb hx=>?_,λb o e n hb hx=>?_,I.base.free,λb o e hx=>?_,I.base.tups,I.base.frzs,I.base.tbls⟩,⟨m,hn.sameBut hs (Ne.symm (cne x c hc)),λj y v' e1 e2 e3=>?_⟩,λy c' e=>?_,I.free,I.freeC,λp hp=>?_,im ⟨oc,hoc,I.freeC x c hc⟩ hs,by simpa using I.len⟩ ⟨c,hs,.inr hc⟩
  ·exact(hs.2 b (Xe (Xn (Xa e) (I.ok.cab x c hfn hc)))).trans (I.base.keep b o e n hb hx)
  ·obtain⟨sl,e1⟩:=I.base.slot b o e n hb hx;exact⟨sl,(hs.2 b (Xe (Xn (Xa e) (I.ok.cab x c hfn hc)))).trans e1⟩
  ·obtain⟨o',e1⟩:=I.base.there b o e hx;exact⟨o',(hs.2 b (Xe (Xn (Xa e) (I.ok.cab x c hfn hc)))).trans e1⟩
  ·by_cases hj:j=i
   ·subst hj;rw[hi]at e1;cases e1;rw[List.getElem?_set_self hiσ]at e2;cases e2;exact⟨u,r,.inr ⟨.inl hk,c,hc,hc'⟩⟩
   ·rw[Yy (Ne.symm hj)]at e2;obtain⟨u',r',q⟩:=hl j y v' e1 e2 e3;refine⟨u',r',?_⟩;rcases q with q|⟨k,c',e,z'⟩
    ·exact .inl q
    ·refine .inr ⟨k,c',e,z'.sameBut hs ?_⟩;rintro rfl;exact hj (qk4 hN e1 (I.ok.inj _ _ _ e hc▸hi))
  ·by_cases gy:c'=c
   ·subst gy;exact⟨_,hc'⟩
   ·obtain⟨w2,z2⟩:=I.cell y c' e;exact⟨w2,z2.sameBut hs gy⟩
  ·obtain⟨e,n,ne,nf,d⟩:=I.pin p hp;refine⟨(hs.2 p.1 ?_).trans e,n,ne,nf,d⟩;intro q;rw[q,hoc]at e;have q':oc=p.2:=oq9 e;exact d w' (q'▸hocd)
theorem kqk{M A E i x v u Q}(I:Inv X a7 σ H s)(hN:X.N.Nodup)(hi:X.N[i]?=some x)(hx:Loc X.env.scope x)(r:RelV v u)
  (h:∀s',Inv X a7 (σ.set i (some v)) H s'->Q () s') (hf:autoParam (X.fn x=true\/X.env.scope.names.lookup x=some .local) Ř):wpAny M A (storeName X.env x u) Q E s:=
 qvo I hN hi hx r (λs' I' _=>h s' I') hf
theorem Inv.call'{s' ch}(I:Inv X a7 σ H s)(ho:s'.os=s.os)(u:Un (frs X.stack) ch H H' s.heap s'.heap)(hok:HOk X.prog X.w H' s'.heap)(hg:AllBare s'.gens)
  (gi:∀b∈ch,(b∈X.ex\/X.s₀.heap.objs.size<=b)/\b≠X.env.locals/\(∀x c,X.env.cells.lookup x=some c->c≠b)/\∀p∈X.pn++a7,p.1≠b):Inv X a7 σ H' s':=by
 obtain⟨h',g',d',t',o'⟩:=s';subst ho;exact I.call (g':=g') (t':=t') (d':=d') u hok hg gi
end
abbrev XK:=Value->Option Addr->Hp->Prop
abbrev St:=List (Option V)
abbrev VK:=V->Hp->Prop
abbrev TE:=St->Hp->VK->Prop
abbrev TT:=St->Hp->(Bool->Hp->Prop)->Prop
abbrev TA:=St->Hp->(List V->Hp->Prop)->Prop
structure Ends where
 nx:St->Hp->Prop
 rt:VK
 bk:St->Hp->Prop:=λ_ _=>False
 ct:St->Hp->Prop:=λ_ _=>False
abbrev TS:=Ends->St->Hp->Prop
noncomputable def EP(X:Cx)(a7:LA9)(σ:St)(Q:VK)(u:Value)(s':Shared):Prop:=∃v H',Inv X a7 σ H' s'/\RelV v u/\Q v H'
noncomputable def TP(X:Cx)(a7:LA9)(σ:St)(Q:Bool->Hp->Prop)(b:Bool)(s':Shared):Prop:=∃H',Inv X a7 σ H' s'/\Q b H'
noncomputable def AP(X:Cx)(a7:LA9)(σ:St)(Q:List V->Hp->Prop)(us:List Value)(s':Shared):Prop:=∃vs H',Inv X a7 σ H' s'/\Vals vs us/\Q vs H'
noncomputable def SP(X:Cx)(a7:LA9)(D:Ends)(f:Flow)(s':Shared):Prop:=
 match f with
 |.next=>∃ σ' H',Inv X a7 σ' H' s'/\D.nx σ' H'|.brk=>∃ σ' H',Inv X a7 σ' H' s'/\D.bk σ' H'|.cont=>∃ σ' H',Inv X a7 σ' H' s'/\D.ct σ' H'|.ret u=>∃v σ' H',Inv X a7 σ' H' s'/\RelV v u/\D.rt v H'
noncomputable def PE(X:Cx)(e:Expr)(t:TE):Prop:=
 ∀(a7:LA9) (s:Shared) (σ:St) (H:Hp) (Q:VK),Inv X a7 σ H s->t σ H Q->wpAny (model X.prog X.w) X.A (eval e X.env) (EP X a7 σ Q) X.xe s
noncomputable def PT(X:Cx)(e:Expr)(t:TT):Prop:=
 ∀(a7:LA9) (s:Shared) (σ:St) (H:Hp) (Q:Bool->Hp->Prop),Inv X a7 σ H s->t σ H Q->wpAny (model X.prog X.w) X.A (isTrue e X.env (eval e X.env)) (TP X a7 σ Q) X.xe s
noncomputable def PW(X:Cx)(e:Expr)(t:TT):Prop:=
 ∀(fc:Sem Value) (a7:LA9) (s:Shared) (σ:St) (H:Hp) (Q:Bool->Hp->Prop),Inv X a7 σ H s->t σ H Q->wpAny (model X.prog X.w) X.A (isTrue e X.env fc) (TP X a7 σ Q) X.xe s
theorem PW.pt{X e t}(h:PW X e t):PT X e t:=h _
noncomputable def PA(X:Cx)(es:List Expr)(t:TA):Prop:=
 ∀(pos:Pos) (a7:LA9) (s:Shared) (σ:St) (H:Hp) (Q:List V->Hp->Prop),Inv X a7 σ H s->t σ H Q->wpAny (model X.prog X.w) X.A (spliced (backTo pos (starEach es X.env))) (AP X a7 σ Q) X.xe s
noncomputable def PS(X:Cx)(st:Stmt)(t:TS):Prop:=
 ∀(a7:LA9) (s:Shared) (σ:St) (H:Hp) (D:Ends),Inv X a7 σ H s->t D σ H->wpAny (model X.prog X.w) X.A (exec st X.env) (SP X a7 D) X.xe s
noncomputable def PSs(X:Cx)(st:List Stmt)(t:TS):Prop:=
 ∀(a7:LA9) (s:Shared) (σ:St) (H:Hp) (D:Ends),Inv X a7 σ H s->t D σ H->wpAny (model X.prog X.w) X.A (execs st X.env) (SP X a7 D) X.xe s
theorem thn{α t}{Q Q':α->Shared->Prop}{M A E s}(h:wpAny M A t Q E s)(hQ:∀a s,Q a s->Q' a s):wpAny M A t Q' E s:=wpAny_mono h hQ λ_ _ x=>x
section
variable {X:Cx}
abbrev xW(i:Nat):TE:=fun σ H Q=>∃v,σ[i]?=some (some v)/\Q v H
abbrev tC(v:V):TE:=λ_ H Q=>Q v H
theorem wqk{i x pos}(hN:X.N[i]?=some x)(hv:Vis X.env.scope x)(hd:autoParam ((x==("__debug__":Str))=false) ŕ)(ic:autoParam ((x==("__classdict__":Str))=false) ŕ):PE X (.Name x pos) (xW i):=by
 rintro a7 s σ H Q I ⟨v,e,h⟩;obtain⟨m,hn,hl⟩:=I.loc;obtain⟨u,r,l⟩:=hl i x v hN e hv;have fin:EP X a7 σ Q u s:=⟨v,H,I,r,h⟩;rcases l with⟨hk,hm⟩|⟨hk,c,hc,hcell⟩
 ·exact wpAny_Name (wpAny_loadName_local I.ok.kind hk hn hm fin) hd
 ·rcases hk with hk|hk
  ·exact wpAny_Name (wpAny_loadName_cell I.ok.kind hk hc hcell fin) hd
  ·exact wpAny_Name (wpAny_loadName_free I.ok.kind hk hc hcell fin ic) hd
theorem wqr{i j pos}:PE X (.Constant (.int i) j pos) (tC (.int i)):=λ_ _ _ H _ I h=>wpAny_Constant_int ⟨.int i,H,I.tok _,⟨_,rfl⟩,h⟩
theorem Kw{b j pos}:PE X (.Constant (.bool b) j pos) (tC (.bl b)):=λ_ _ _ H _ I h=>Constant_bool ⟨.bl b,H,I,rfl,h⟩
theorem wqp{j pos}:PE X (.Constant .none j pos) (tC .non):=λ_ _ _ H _ I h=>Constant_none ⟨.non,H,I,rfl,h⟩
theorem vvm{x j pos}:PE X (.Constant (.str x) j pos) (tC (.str x)):=λ_ _ _ H _ I h=>Calls.Constant_str ⟨.str x,H,I.tok _,⟨_,rfl⟩,h⟩
noncomputable def Gl(X:Cx)(x:Str):Prop:=X.env.kindOf x=some .globalImplicit
theorem qxr{E a7 s}{σ:St}{H x u pos Q}(I:Inv X a7 σ H s)(hg:Gl X x)(hm:X.mg x=some u)(h:Q u s)
  (hd:autoParam ((x==("__debug__":Str))=false) ŕ):wpAny (model X.prog X.w) X.A (eval (.Name x pos) X.env) Q E s:=
 Calls.Name_function_global I.ok.kind hg (Calls.loadGlobal_global (I.ok.glob▸I.mod.glob.keeps I.bk) hm h) hd
theorem zq{E a7 s}{σ:St}{H x u pos Q}(I:Inv X a7 σ H s)(hg:Gl X x)(hm:X.mg x=none)(hv:bootBuiltins x=some u)(h:Q u s)
  (hn:autoParam (x≠"__name__") ŕ) (hd:autoParam ((x==("__debug__":Str))=false) ŕ):wpAny (model X.prog X.w) X.A (eval (.Name x pos) X.env) Q E s:=by
 obtain⟨mb,h1,h2⟩:=I.mod.blt;exact Calls.Name_function_global I.ok.kind hg (Calls.loadGlobal_builtin (I.ok.glob▸I.mod.glob.keeps I.bk) hm (I.ok.blt▸h1.keeps I.bk) ((h2 x hn).trans hv) h) hd
theorem vxj{x v u pos}(hg:Gl X x)(hm:X.mg x=some u)(r:RelV v u)(hd:autoParam ((x==("__debug__":Str))=false) ŕ):PE X (.Name x pos) (tC v):=
 λ_ _ _ H _ I h=>qxr I hg hm ⟨v,H,I,r,h⟩ hd
theorem vxo{x v u pos}(hg:Gl X x)(hm:X.mg x=none)(hv:bootBuiltins x=some u)(r:RelV v u)(hn:autoParam (x≠"__name__") ŕ)(hd:autoParam ((x==("__debug__":Str))=false) ŕ):PE X (.Name x pos) (tC v):=
 λ_ _ _ H _ I h=>zq I hg hm hv ⟨v,H,I,r,h⟩ hn hd
variable {a b:Expr}{ta tb:TE}{pos:Pos}
variable {tA tB':TT}{a8:List Expr}
abbrev tAnd(t u:TT):TT:=fun σ H Q=>t σ H λc H1=>if c=true then u σ H1 Q else Q false H1
abbrev tOr(t u:TT):TT:=fun σ H Q=>t σ H λc H1=>if c=true then Q true H1 else u σ H1 Q
abbrev tNot(t:TT):TT:=fun σ H Q=>t σ H λc H1=>Q (!c) H1
theorem vx4(ha:PT X a tA):PW X (.BoolOp .And [a] pos) tA:=by
 intro wh a7 s σ H Q I h;refine isTrue_and (thn (ha a7 s σ H Q I h) λc s1 e=>?_);cases c with|true=>exact isTrue_and_nil e|false=>exact e
theorem wq8(ha:PT X a tA):PW X (.BoolOp .Or [a] pos) tA:=by
 intro wh a7 s σ H Q I h;refine isTrue_or (thn (ha a7 s σ H Q I h) λc s1 e=>?_);cases c with|false=>exact isTrue_or_nil e|true=>exact e
theorem wq9(ha:PT X a tA)(hb:PW X (.BoolOp .And (b::a8) pos) tB'):PW X (.BoolOp .And (a::b::a8) pos) (tAnd tA tB'):=by
 intro wh a7 s σ H Q I h;refine isTrue_and (thn (ha a7 s σ H _ I h) λc s1 ⟨H1,I1,q1⟩=>?_);cases c with|true=>exact hb wh a7 s1 σ H1 Q I1 q1|false=>exact⟨H1,I1,q1⟩
theorem wzc(ha:PT X a tA)(hb:PW X (.BoolOp .Or (b::a8) pos) tB'):PW X (.BoolOp .Or (a::b::a8) pos) (tOr tA tB'):=by
 intro wh a7 s σ H Q I h;refine isTrue_or (thn (ha a7 s σ H _ I h) λc s1 ⟨H1,I1,q1⟩=>?_);cases c with|true=>exact⟨H1,I1,q1⟩|false=>exact hb wh a7 s1 σ H1 Q I1 q1
theorem wqb(ha:PT X a tA):PT X (.UnaryOp .Not a pos) (tNot tA):=by
 intro a7 s σ H Q I h;exact isTrue_not (ha a7 s σ H _ I h)
abbrev wxm(ta tb:TE):TE:=fun σ H Q=>ta σ H λx H1=>∃c,x=.bl c/\if c=true then tb σ H1 Q else Q (.bl false) H1
theorem wqo{op t}(h:PE X a t):PE X (.BoolOp op [a] pos) t:=λa7 s σ H Q I hw=>BoolOp_one (h a7 s σ H Q I hw)
theorem wqu(ha:PE X a ta)(hb:PE X (.BoolOp .And (b::a8) pos) tb):PE X (.BoolOp .And (a::b::a8) pos) (wxm ta tb):=by
 intro a7 s σ H Q I h;refine BoolOp_and (thn (ha a7 s σ H _ I h) λv s1 ⟨x,H1,I1,r1,q1⟩=>?_);obtain⟨c,rfl,q1⟩:=q1;cases r1;refine wpAny_truthy_bool ?_;cases c with|true=>exact hb a7 s1 σ H1 Q I1 q1|false=>exact⟨.bl false,H1,I1,rfl,q1⟩
abbrev tIf(t:TT)(ta tb:TE):TE:=fun σ H Q=>t σ H λc H1=>if c=true then ta σ H1 Q else tb σ H1 Q
theorem vkj{c}(hc:PT X c tA)(ha:PE X a ta)(hb:PE X b tb):PE X (.IfExp c a b pos) (tIf tA ta tb):=by
 intro a7 s σ H Q I h;refine wpAny_IfExp (thn (hc a7 s σ H _ I h) λd s1 ⟨H1,I1,q1⟩=>?_);cases d with|true=>exact ha a7 s1 σ H1 Q I1 q1|false=>exact hb a7 s1 σ H1 Q I1 q1
end
noncomputable def SqL(K:Frag)(H:Hp)(a:Addr)(xs:List V):Prop:=
 Rd H a (.lst xs) \/
  ∃(o:Obj) (a9:Array Value) (n:Nat),K.lookup a=some o/\o.cls=.type "list"/\o.dict=none/\o.data=.seq a9 n/\a9.size<=sizeLine/\Vals xs a9.toList
noncomputable def SqT(K:Frag)(H:Hp)(a:Addr)(xs:List V):Prop:=
 Rd H a (.tup xs) \/
  ∃(o:Obj) (a9:Array Value) (n:Nat),K.lookup a=some o/\o.cls=.type "tuple"/\o.dict=none/\o.data=.seq a9 n/\a9.size<=sizeLine/\Vals xs a9.toList
noncomputable def absV:Value->Option V
 |.none=>some .non|.bool b=>some (.bl b)|.int i _=>some (.int i)|.str x _=>some (.str x)|.bytes b _=>some (.byt b)|.float b _=>some (.flt b)|.ref a=>some (.ref a)|.type n=>some (.ty n)|_=>none
theorem RelV.abs{x u}(r:RelV x u):absV u=some x:=by
 cases x with|non=>cases r;rfl|bl _=>cases r;rfl|int _=>obtain⟨t,rfl⟩:=r;rfl|str _=>obtain⟨t,rfl⟩:=r;rfl|byt _=>obtain⟨t,rfl⟩:=r;rfl|flt _=>obtain⟨t,rfl⟩:=r;rfl|ref _=>cases r;rfl|ty _=>cases r;rfl
theorem RelV.inj{x y u}(r:RelV x u)(q:RelV y u):x=y:=oq9 (r.abs.symm.trans q.abs)
theorem Vals.inj:∀{xs ys us},Vals xs us->Vals ys us->xs=ys
 |_,_,_,.nil,.nil=>rfl|_,_,_,.cons r t,.cons r' t'=>by rw[r.inj r',Vals.inj t t']
section
variable {X:Cx}{a7:LA9}{σ:St}{H:Hp}{s:Shared}{a:Addr}{xs ys:List V}
theorem SqL.of{K}(h:H a=some (.lst xs)):SqL K H a xs:=.inl (.inl h)
theorem SqT.of{K}(h:H a=some (.tup xs)):SqT K H a xs:=.inl (.inl h)
theorem Inv.list(I:Inv X a7 σ H s)(h:SqL X.K H a xs):∃a9,Vals xs a9/\PlainL s.heap a a9.toArray/\xs.length<=sizeLine:=by
 rcases h with h|⟨o,a9,n,hk,hc,hd,hs,hz,r⟩
 ·obtain⟨z,a9,n,r,e⟩:=h.ok I.hok;exact⟨a9,r,⟨_,n,e,rfl,rfl,rfl⟩,z⟩
 ·refine⟨a9.toList,r,⟨o,n,I.kIn a o hk,hc,hd,by simpa using hs⟩,?_⟩;have e:=r.length;simp at e;lia
theorem Inv.tuple(I:Inv X a7 σ H s)(h:SqT X.K H a xs):∃a9,Vals xs a9/\IsTup s.heap a a9.toArray/\xs.length<=sizeLine:=by
 rcases h with h|⟨o,a9,n,hk,hc,_,hs,hz,r⟩
 ·obtain⟨z,a9,r,p⟩:=h.ok I.hok;exact⟨a9,r,p.tup,z⟩
 ·refine⟨a9.toList,r,⟨o,I.kIn a o hk,hc,n,by simpa using hs⟩,?_⟩;have e:=r.length;simp at e;lia
theorem Inv.tupleD(I:Inv X a7 σ H s)(h:SqT X.K H a xs):∃o,s.heap.get? a=some o/\o.dict=none:=by
 rcases h with h|⟨o,a9,n,hk,hc,hd,hs,hz,r⟩
 ·obtain⟨z,a9,r,o,e,_,d,_⟩:=h.ok I.hok;exact⟨o,e,d⟩
 ·exact⟨o,I.kIn a o hk,hd⟩
theorem Inv.list_inj(I:Inv X a7 σ H s)(h:SqL X.K H a xs)(h':SqL X.K H a ys):xs=ys:=by
 obtain⟨a9,r,⟨o,n,e,_,_,d⟩,_⟩:=I.list h;obtain⟨its',r',⟨o',n',e',_,_,d'⟩,_⟩:=I.list h';rw[e]at e';cases e';rw[d]at d';injection d' with d1 _;have:a9=its':=by simpa using congrArg Array.toList d1
 subst this;exact r.inj r'
theorem Inv.tuple_inj(I:Inv X a7 σ H s)(h:SqT X.K H a xs)(h':SqT X.K H a ys):xs=ys:=by
 obtain⟨a9,r,⟨o,e,_,n,d⟩,_⟩:=I.tuple h;obtain⟨its',r',⟨o',e',_,n',d'⟩,_⟩:=I.tuple h';rw[e]at e';cases e';rw[d]at d';injection d' with d1 _;have:a9=its':=by simpa using congrArg Array.toList d1
 subst this;exact r.inj r'
end
abbrev Cx.wish(X:Cx)(E:VP9):Cx:={X with xe:=E}
theorem Cx.Ok.wish{X:Cx}(ok:X.Ok) E:(X.wish E).Ok:=
 ⟨ok.mod,ok.kind,ok.glob,ok.blt,ok.above,ok.inj,ok.has,ok.cab,ok.hd,ok.frames,ok.stk,ok.exf,ok.bs,ok.bsz,ok.noex,ok.exfs,ok.funs,ok.frf⟩
theorem Cx.Ok.unwish{X:Cx}{E}(ok:(X.wish E).Ok):X.Ok:=
 ⟨ok.mod,ok.kind,ok.glob,ok.blt,ok.above,ok.inj,ok.has,ok.cab,ok.hd,ok.frames,ok.stk,ok.exf,ok.bs,ok.bsz,ok.noex,ok.exfs,ok.funs,ok.frf⟩
section
variable {X:Cx}{a7:LA9}{σ:St}{H:Hp}{s:Shared}{E:VP9}
theorem Inv.wish(I:Inv X a7 σ H s) E:Inv (X.wish E) a7 σ H s:=⟨I.ok.wish E,I.os,I.bare,I.base,I.loc,I.cell,I.free,I.freeC,I.pin,I.hok,I.len⟩
theorem Inv.unwish(I:Inv (X.wish E) a7 σ H s):Inv X a7 σ H s:=⟨I.ok.unwish,I.os,I.bare,I.base,I.loc,I.cell,I.free,I.freeC,I.pin,I.hok,I.len⟩
theorem SP.unwish{D f s'}(h:SP (X.wish E) a7 D f s'):SP X a7 D f s':=by
 cases f with|next=>obtain⟨σ',H',I,q⟩:=h;exact⟨σ',H',I.unwish,q⟩|brk=>obtain⟨σ',H',I,q⟩:=h;exact⟨σ',H',I.unwish,q⟩|cont=>obtain⟨σ',H',I,q⟩:=h;exact⟨σ',H',I.unwish,q⟩|ret u=>obtain⟨v,σ',H',I,r,q⟩:=h;exact⟨v,σ',H',I.unwish,r,q⟩
end
section
variable {X:Cx}{st:Stmt}{a8:List Stmt}{t u:TS}{e:Expr}{te:TE}{pos:Pos}
abbrev wxj:TS:=λD σ H=>D.nx σ H
abbrev tSeq(t u:TS):TS:=λD σ H=>t {D with nx:=u D} σ H
theorem vxd:PSs X [] wxj:=λ_ _ σ H _ I h=>wpAny_execs_nil ⟨σ,H,I,h⟩
theorem vke(h1:PS X st t)(h2:PSs X a8 u):PSs X (st::a8) (tSeq t u):=by
 intro a7 s σ H D I h;refine wpAny_execs_cons (thn (h1 a7 s σ H {D with nx:=u D} I h) λf s1 q=>?_);cases f with
 |next=>
  obtain⟨σ',H',I',q⟩:=q;exact h2 a7 s1 σ' H' D I' q
 |ret v=>exact q|brk=>exact q|cont=>exact q
theorem vxc(h1:PS X st t):PSs X [st] t:=by
 intro a7 s σ H D I h;refine wpAny_execs_cons (thn (h1 a7 s σ H D I h) λf s1 q=>?_);cases f with|next=>exact wpAny_execs_nil q|ret v=>exact q|brk=>exact q|cont=>exact q
theorem Inv.quiet{a7}{σ:St}{H s}(I:Inv X a7 σ H s):interactive X.env=false:=by simp[interactive,I.ok.kind]
abbrev wxk(te:TE):TS:=λD σ H=>te σ H λ_ H1=>D.nx σ H1
theorem qwn(he:PE X e te)(hs:autoParam (swapsWith e none pos.line X.env=pure false) Ŕ):PS X (.Expr e pos) (wxk te):=by
 intro a7 s σ H D I h;exact wpAny_Expr_any (thn (he a7 s σ H _ I h) λv s1 ⟨x,H1,I1,r1,q1⟩=>⟨σ,H1,I1,q1⟩) I.quiet hs
abbrev tRet(te:TE):TS:=λD σ H=>te σ H D.rt
theorem wqd(he:PE X e te):PS X (.Return (some e) pos) (tRet te):=by
 intro a7 s σ H D I h;exact wpAny_Return_some (thn (he a7 s σ H _ I h) λv s1 ⟨x,H1,I1,r1,q1⟩=>⟨x,σ,H1,I1,r1,q1⟩)
abbrev tIfS(c:TT)(t u:TS):TS:=λD σ H=>c σ H λb H1=>if b=true then t D σ H1 else u D σ H1
theorem wzd{c a b tc}(hc:PT X c tc)(ha:PSs X a t)(hb:PSs X b u):PS X (.If c a b pos) (tIfS tc t u):=by
 intro a7 s σ H D I h;refine wpAny_If (thn (hc a7 s σ H _ I h) λd s1 ⟨H1,I1,q1⟩=>?_);cases d with|true=>exact ha a7 s1 σ H1 D I1 q1|false=>exact hb a7 s1 σ H1 D I1 q1
end
abbrev TG:=V->St->Hp->(St->Hp->Prop)->Prop
abbrev TGs:=List V->St->Hp->(St->Hp->Prop)->Prop
noncomputable def PG(X:Cx)(fh:Expr)(t:TG):Prop:=
 ∀(a7:LA9) (s:Shared) (σ:St) (H:Hp) (v:V) (u:Value) (Q:St->Hp->Prop),Inv X a7 σ H s->RelV v u->t v σ H Q ->
  wpAny (model X.prog X.w) X.A (assign fh X.env u) (λ_ s'=>∃ σ' H',Inv X a7 σ' H' s'/\Q σ' H') X.xe s
noncomputable def PGs(X:Cx)(ts:List Expr)(t:TGs):Prop:=
 ∀(a7:LA9) (s:Shared) (σ:St) (H:Hp) (vs:List V) (us:List Value) (Q:St->Hp->Prop),Inv X a7 σ H s->Vals vs us->t vs σ H Q ->
  wpAny (model X.prog X.w) X.A (assignInOrder ((assignEach ts X.env).map (·.2)) us) (λ_ s'=>∃ σ' H',Inv X a7 σ' H' s'/\Q σ' H') X.xe s
abbrev xjm:=V->V->V->Hp->(Hp->Prop)->Prop
noncomputable def xki(X:Cx)(t:xjm):Prop:=
 ∀(a7:LA9) (s:Shared) (σ:St) (H:Hp) (o i v:V) (ov iv u:Value) (Q:Hp->Prop),Inv X a7 σ H s->RelV o ov->RelV i iv->RelV v u->t o i v H Q ->
  wpAny (model X.prog X.w) X.A (setItem ov iv u) (λ_ s'=>∃H',Inv X a7 σ H' s'/\Q H') X.xe s
section
variable {X:Cx}{pos:Pos}
abbrev qzd(i:Nat):TG:=λv σ H Q=>Q (σ.set i (some v)) H
theorem J0{i x}(hN:X.N.Nodup)(hi:X.N[i]?=some x)(hx:Loc X.env.scope x)(hf:autoParam (X.fn x=true\/X.env.scope.names.lookup x=some .local) Ř):PG X (.Name x pos) (qzd i):=by
 intro a7 s σ H v u Q I r h;exact wpAny_assign_Name (kqk I hN hi hx r (λs' I'=>⟨_,H,I',h⟩) hf)
abbrev xkc:TGs:=λvs σ H Q=>vs=[]/\Q σ H
abbrev ww6(t:TG)(u:TGs):TGs:=λvs σ H Q=>∃v r,vs=v::r/\t v σ H fun σ' H'=>u r σ' H' Q
theorem JJ:PGs X [] xkc:=by
 rintro a7 s σ H vs us Q I r ⟨e,h⟩;subst e;exact assignInOrder_nil ⟨σ,H,I,h⟩
theorem v7{e es t u}(h1:PG X e t)(h2:PGs X es u)
  (hs:autoParam ((assignEach (e::es) X.env).map (·.2)=assign e X.env::(assignEach es X.env).map (·.2)) Ŕ):PGs X (e::es) (ww6 t u):=by
 rintro a7 s σ H vs us Q I r ⟨v,vr,e1,h⟩;subst e1;cases r with
 |cons r rr=>
  rw[hs];exact assignInOrder_cons (thn (h1 a7 s σ H _ _ _ I r h) λ_ s1 ⟨σ1,H1,I1,q1⟩=>(h2 a7 s1 σ1 H1 _ _ Q I1 rr q1))
abbrev gSub(to ti:TE)(t:xjm):TG:=λv σ H Q=>to σ H λo H1=>ti σ H1 λi H2=>t o i v H2 λH3=>Q σ H3
theorem wqi{o i:Expr}{to ti:TE}{t:xjm}(ho:PE X o to)(hi:PE X i ti)(hs:xki X t)
  (ha:autoParam (∀v,assign (.Subscript o i pos) X.env v=(do
   let ov <-holding [v] (eval o X.env)
   let iv <-holding [v,ov] (eval i X.env)
   standAt pos
   holding [v,ov,iv] (setItem ov iv v)
   release [v,ov,iv] [])) Ŗ):PG X (.Subscript o i pos) (gSub to ti t):=by
 intro a7 s σ H v u Q I r h;rw[ha];refine X0 (Xu (thn (ho a7 s σ H _ I h) λov s1 ⟨x,H1,I1,r1,q1⟩=>?_));refine X0 (Xu (thn (hi a7 s1 σ H1 _ I1 q1) λiv s2 ⟨y,H2,I2,r2,q2⟩=>?_));refine X0 (wpAny_standAt (X0 (Xu (thn (hs a7 s2 σ H2 x y v ov iv u _ I2 r1 r2 r q2) λ_ s3 ⟨H3,I3,q3⟩=>?_))));exact wpAny_release ⟨σ,H3,I3,q3⟩
abbrev xjs(te:TE)(g:TG):TS:=λD σ H=>te σ H λx H1=>g x σ H1 D.nx
theorem vvg{tg e te g}(he:PE X e te)(hg:PG X tg g)(hs:autoParam (swapsWithSole [tg] e pos.line X.env=pure false) Ŕ)(hw:autoParam (swappedStores [tg] e X.env=pure none) Ŕ)
  (h1:autoParam ((assignEach [tg] X.env).map (·.2)=[assign tg X.env]) Ŕ):PS X (.Assign [tg] e pos) (xjs te g):=by
 intro a7 s σ H D I h;refine wpAny_Assign_stores (thn (he a7 s σ H _ I h) λv s1 ⟨x,H1,I1,r1,q1⟩=>?_) hs hw;rw[h1];exact thn (hg a7 s1 σ H1 x v _ I1 r1 q1) λ_ s2 q=>q
theorem wqc{i x e te b9}(hN:X.N.Nodup)(hi:X.N[i]?=some x)(hx:Loc X.env.scope x)(he:PE X e te)(hs:autoParam (swapsWith e (some (.Name x b9)) pos.line X.env=pure false) Ŕ)(hf:autoParam (X.fn x=true\/X.env.scope.names.lookup x=some .local) Ř):
  PS X (.Assign [.Name x b9] e pos) (xjs te (qzd i)):=by
 intro a7 s σ H D I h;exact wpAny_Assign_Name (thn (he a7 s σ H _ I h) λv s1 ⟨y,H1,I1,r1,q1⟩=>(kqk I1 hN hi hx r1 (λs2 I2=>⟨_,H1,I2,q1⟩) hf)) hs
end
structure It where
 go:Nat->Hp->Prop
 yld:Nat->Hp->V->Hp->Prop
 stop:Nat->Hp->Prop
noncomputable def vY(X:Cx)(a7:LA9)(H:Hp)(b:Addr):Prop:=
 H b=none/\b≠X.env.locals/\b∉X.fs/\(b∈X.ex\/X.s₀.heap.objs.size<=b)/\(∀x c,X.env.cells.lookup x=some c->c≠b)/\∀p∈X.pn++a7,p.1≠b
theorem Inv.fpOk{X a7}{σ:St}{H H' s}{b:Addr}(I:Inv X a7 σ H s)(hb:s.heap.objs.size<=b)(hn:H' b=none):vY X a7 H' b:=by
 refine⟨hn,Zg (Xn I.lt hb),I.nofs hb,.inr (Ye I.sz hb),λx c e z=>?_,λp hp z=>?_⟩
 ·obtain⟨v,q⟩:=I.cell x c e;exact absurd (Xn q.lt (z▸hb)) (Yu _)
 ·exact absurd (Xn (Xa (I.pin p hp).1) (z▸hb)) (Yu _)
structure Turn (P:Program)(w:World)(K:Frag)(tg:Expr)(J:It)(fp:List Addr)(it:Addr)(tn:Nat->Heap->Prop):Prop where
 mem:it∈fp
 obj:∀i h,tn i h->∀b∈fp,∃o,h.get? b=some o/\∀v,o.data≠.cell v
 keep:∀i h h',tn i h->(∀b∈fp,∀o,h.get? b=some o->h'.get? b=some o)->tn i h'
 item:∀(X:Cx),X.prog=P->X.w=w->X.K=K->X.calm=true->∀(i:Nat) (a7:LA9) (s:Shared) (σ:St) (H:Hp) (E:VP9),Inv X a7 σ H s->(∀b∈fp,vY X a7 H b)->tn i s.heap->J.go i H ->
  wpAny (model P w) X.A (pyNext (.ref it)) (λr s1=>∃u,r=some u /\
   wpAny (model P w) X.A (letOwnedTupleGo tg (.ref it) u) (λ_ s2=>∃x H',Inv X a7 σ H' s2/\RelV x u/\J.yld i H x H'/\tn (i+1) s2.heap/\∀b∈fp,H' b=none) E s1) E s
 done:∀(X:Cx),X.prog=P->X.w=w->X.K=K->X.calm=true->∀(i:Nat) (a7:LA9) (s:Shared) (σ:St) (H:Hp) (E:VP9),Inv X a7 σ H s->(∀b∈fp,vY X a7 H b)->tn i s.heap->J.stop i H ->
  wpAny (model P w) X.A (pyNext (.ref it)) (λr s1=>r=none/\Inv X a7 σ H s1) E s
 self:∀(A:Around) (i:Nat) (s:Shared) (Q:VP9) (E:VP9),tn i s.heap->Q (.ref it) s->wpAny (model P w) A (pyIter (.ref it)) Q E s
abbrev TI:=St->Hp->(It->Hp->Prop)->Prop
noncomputable def PIE(X:Cx)(a7:LA9)(σ:St)(tg:Expr)(R:It->Hp->Prop)(itv:Value)(s2:Shared):Prop:=
 ∃(it:Addr) (fp:List Addr) (tn:Nat->Heap->Prop) (J:It) (H':Hp),itv=.ref it/\Inv X a7 σ H' s2/\Turn X.prog X.w X.K tg J fp it tn/\tn 0 s2.heap/\(∀b∈fp,vY X a7 H' b)/\R J H'
noncomputable def PI(X:Cx)(tg ak:Expr)(wi:TI):Prop:=
 ∀(a7:LA9) (s:Shared) (σ:St) (H:Hp) (R:It->Hp->Prop),Inv X a7 σ H s->wi σ H R ->
  wpAny (model X.prog X.w) X.A (eval ak X.env) (λv s1=>wpAny (model X.prog X.w) X.A (pyIter v) (PIE X a7 σ tg R) X.xe s1) X.xe s
theorem vq7 {M A E s tg it u o n vs Q} (ho : s.heap.get? it = some o) (hc : o.cls = .type n) (hd : o.data = .fields vs)
    (hn : ["enumerate", "zip", "dict_itemiterator", "dict_reverseitemiterator", "odict_iterator", "itertools.zip_longest", "itertools.pairwise"].contains n = false) (hQ : Q () s): wpAny M A (letOwnedTupleGo tg (.ref it) u) Q E s:= by
  cases tg <;> first
    |exact X2 hQ
    |(cases u <;> first
        |exact X2 hQ
        | (refine X0 (wpAny_load ho ?_)
           rw[hc,hd];show wpAny M A (if _ = true then _ else _) Q E s;rw[Xb (by grind)];exact X2 hQ))
noncomputable def Itl(K:Frag)(a:Addr):It:=
 ⟨λi H=>∃xs x,SqL K H a xs/\xs[i]?=some x,λi H x H'=>H'=H/\∀xs,SqL K H a xs->xs[i]?=some x,λi H=>∃xs,SqL K H a xs/\xs.length<=i⟩
noncomputable def Itt(K:Frag)(a:Addr):It:=
 ⟨λi H=>∃xs x,SqT K H a xs/\xs[i]?=some x,λi H x H'=>H'=H/\∀xs,SqT K H a xs->xs[i]?=some x,λi H=>∃xs,SqT K H a xs/\xs.length<=i⟩
noncomputable def Itr(lo:Int)(n:Nat):It:=⟨λi _=>i<n,λi H x H'=>H'=H/\x=.int (lo+i),λi _=>n<=i⟩
theorem qvi{P w K tg}(a it):Turn P w K tg (Itl K a) [it] it (λi h=>h.IsListIter it a i) where
 mem:=by simp
 obj:=λi h st b hb=>by
  have e:b=it:=by simpa using hb
  subst e;obtain⟨o,e,c,d⟩:=st;exact⟨o,e,λv z=>by rw[d]at z;cases z⟩
 keep:=λi h h' st k=>st.at λo e=>k it (by simp) o e
 item:=by
  intro X hP hw hK hc i a7 s σ H E I hf st hg;subst hP hw hK;obtain⟨xs,x,hq,hx⟩:=hg;obtain⟨a9,rv,p,hz⟩:=I.list hq;obtain⟨u,hu,ru⟩:=rv.get hx;obtain⟨f0,f1,f2,f3,f4,f5⟩:=hf it (by simp);refine wpAny_pyNext_list_item st p.isList (by simpa using hu) λh' dz sb=>?_
  have I1:Inv X a7 σ H {s with heap:=h' }:=I.turned (t':=s.toks) (λb o hb e=>(sb.2 b hb).trans e) f0 f1 f3 f4 f5;obtain⟨o,e,c,d⟩:=id dz;exact⟨u,rfl,vq7 e c d ⋯ ⟨x,H,I1,ru,⟨rfl,λys hy=>by rw[I.list_inj hy hq];exact hx⟩,dz,λb hb=>(hf b hb).1⟩⟩
 done:=by
  intro X hP hw hK hc i a7 s σ H E I hf st hg;subst hP hw hK;obtain⟨xs,hq,hx⟩:=hg;obtain⟨a9,rv,p,hz⟩:=I.list hq;obtain⟨f0,f1,f2,f3,f4,f5⟩:=hf it (by simp);have hl:=rv.length;exact wpAny_pyNext_list_end (I.ok.hd hc) st p.isList (by simp;lia) λh' eb=>⟨rfl,I.turned (t':=s.toks) (λb o hb e=>eb b o hb e) f0 f1 f3 f4 f5⟩
 self:=λ_ _ _ _ _ st h=>wpAny_pyIter_listiter st h
theorem qq3{P w K tg}(a it):Turn P w K tg (Itt K a) [it] it (λi h=>h.IsTupleIter it a i) where
 mem:=by simp
 obj:=λi h st b hb=>by
  have e:b=it:=by simpa using hb
  subst e;obtain⟨o,e,c,d⟩:=st;exact⟨o,e,λv z=>by rw[d]at z;cases z⟩
 keep:=λi h h' st k=>st.at λo e=>k it (by simp) o e
 item:=by
  intro X hP hw hK hc i a7 s σ H E I hf st hg;subst hP hw hK;obtain⟨xs,x,hq,hx⟩:=hg;obtain⟨a9,rv,p,hz⟩:=I.tuple hq;obtain⟨u,hu,ru⟩:=rv.get hx;obtain⟨f0,f1,f2,f3,f4,f5⟩:=hf it (by simp);refine wpAny_pyNext_tuple_item st (p) (x:=u) (by simpa using hu) λh' dz sb=>?_
  have I1:Inv X a7 σ H {s with heap:=h' }:=I.turned (t':=s.toks) (λb o hb e=>(sb.2 b hb).trans e) f0 f1 f3 f4 f5;obtain⟨o,e,c,d⟩:=id dz;exact⟨u,rfl,vq7 e c d ⋯ ⟨x,H,I1,ru,⟨rfl,λys hy=>by rw[I.tuple_inj hy hq];exact hx⟩,dz,λb hb=>(hf b hb).1⟩⟩
 done:=by
  intro X hP hw hK hc i a7 s σ H E I hf st hg;subst hP hw hK;obtain⟨xs,hq,hx⟩:=hg;obtain⟨a9,rv,p,hz⟩:=I.tuple hq;obtain⟨f0,f1,f2,f3,f4,f5⟩:=hf it (by simp);have hl:=rv.length;exact wpAny_pyNext_tuple_end (I.ok.hd hc) st (p) (by simp;lia) λh' eb=>⟨rfl,I.turned (t':=s.toks) (λb o hb e=>eb b o hb e) f0 f1 f3 f4 f5⟩
 self:=λ_ _ _ _ _ st h=>wpAny_pyIter_tupleiter st h
theorem qq4{P w K tg}(it)(lo)(n):Turn P w K tg (Itr lo n) [it] it (λi h=>IsRangeIter h it (lo+(i)*1) ((n) - (i)) 1) where
 mem:=by simp
 obj:=λi h st b hb=>by
  have e:b=it:=by simpa using hb
  subst e;exact⟨_,st,λv z=>by
   cases z⟩
 keep:=λi h h' st k=>k it (by simp) _ st
 item:=by
  intro X hP hw hK hc i a7 s σ H E I hf st hg;subst hP hw hK;obtain⟨f0,f1,f2,f3,f4,f5⟩:=hf it (by simp);refine(Walks.range (prog:=X.prog) (w:=X.w) (I.ok.hd hc) it lo 1 n).item i s _ _ hg st λv h' tk hv dz kk=>?_
  obtain⟨t,rfl⟩:=hv;have I1:Inv X a7 σ H {s with heap:=h',toks:=tk}:=I.turned (λb o hb e=>kk b o (by simpa using hb) e) f0 f1 f3 f4 f5;refine⟨_,rfl,vq7 dz rfl rfl ⋯ ⟨.int _,H,I1,⟨t,?_⟩,⟨rfl,rfl⟩,dz,λb hb=>(hf b hb).1⟩⟩;rw[Int.mul_one]
 done:=by
  intro X hP hw hK hc i a7 s σ H E I hf st hg;obtain⟨f0,f1,f2,f3,f4,f5⟩:=hf it (by simp);exact wpAny_pyNext_range_end (I.ok.hd hc) st (by have:n<=i:=hg;lia) λh' eb=>⟨rfl,I.turned (t':=s.toks) (λb o hb e=>eb b o hb e) f0 f1 f3 f4 f5⟩
 self:=λ_ _ _ _ _ st h=>wpAny_pyIter_rangeiter st h
section
variable {X:Cx}{tg:Expr}
theorem vk8{a7}{σ:St}{H s R E lo hi t u v tk}(I:Inv X a7 σ H s)(h1:-(2 ^ 62)<=lo)(h2:lo<2 ^ 62)(h3:-(2 ^ 62)<=hi)(h4:hi<2 ^ 62)
  (q:R (Itr lo (hi - lo).toNat) H):wpAny (model X.prog X.w) X.A (pyIter (.ref s.heap.objs.size)) (PIE X a7 σ tg R) E {s with heap:=s.heap.push {cls:=.type "range",data:=.fields #[.int lo t,.int hi u,.int 1 v]},toks:=tk}:=by
 refine wpAny_pyIter_range (IsRange.new ..) (small_one h1 h2 h3 h4) ?_;have I1:Inv X a7 σ H {s with heap:=s.heap.push {cls:=.type "range",data:=.fields #[.int lo t,.int hi u,.int 1 v]},toks:=tk}:=I.kept λb o e=>X1 _ e
 refine⟨(s.heap.push {cls:=.type "range",data:=.fields #[.int lo t,.int hi u,.int 1 v]}).objs.size,[(s.heap.push {cls:=.type "range",data:=.fields #[.int lo t,.int hi u,.int 1 v]}).objs.size],_,_,H,rfl,
  I1.kept (t':=tk) λb o e=>X1 _ e,qq4 _ lo (hi - lo).toNat,?_,λb hb=>?_,q⟩
 ·have e1:lo+((0:Nat):Int)*1=lo:=by simp
  have e2:(((hi - lo).toNat:Nat):Int) - ((0:Nat):Int)=Builtin.Range.rangeSize lo hi 1:=by rw[rangeSize_one];split<;>lia
  rw[e1,e2];exact X6 _ rfl
 ·have e:b=(s.heap.push {cls:=.type "range",data:=.fields #[.int lo t,.int hi u,.int 1 v]}).objs.size:=by simpa using hb
  subst e;exact I1.fpOk (X7 _) (I1.hok.fresh (X7 _))
abbrev wzz(ta:TA):TI:=fun σ H R=>ta σ H λvs H1=>∃j:Int,vs=[.int j]/\-(2 ^ 62)<=j/\j<2 ^ 62/\R (Itr 0 j.toNat) H1
theorem qwv{a ta p pos}(hg:Gl X "range")(hm:X.mg "range"=none)(ha:PA X [a] ta)(hs:autoParam (starEach [a] X.env=[(false,eval a X.env)]) Ŕ):PI X tg (.Call (.Name "range" p) [a] [] pos) (wzz ta):=by
 intro a7 s σ H R I h;refine Call_ (zq I hg hm boot_range (Y1 (thn (ha pos a7 s σ H _ I h) λus s1 ⟨vs,H1,I1,r1,q1⟩=>?_) hs rfl));obtain⟨j,e,q1,q2,q⟩:=q1;subst e;cases r1 with
 |cons r rr=>
  cases rr;obtain⟨t,rfl⟩:=r;exact call_range_1 (vk8 I1 ⋯ ⋯ q1 q2 (by simpa using q))
abbrev tFor(wi:TI)(g:TG)(tb:TS):TS:=λD σ H=>wi σ H λJ H1=>∃W:Nat->Nat->St->Hp->Prop,(∃m,W 0 m σ H1)/\∀i m σ H,W i m σ H ->
 (J.stop i H/\D.nx σ H)\/(J.go i H/\∃N:St->Hp->Prop,(∀ σ' H',N σ' H'->∃m',m'<m/\W (i+1) m' σ' H')/\∀x H',J.yld i H x H'->g x σ H' fun σ2 H2=>tb {D with nx:=N,ct:=N,bk:=D.nx} σ2 H2)
noncomputable def K8(fp:List Addr)(h:Heap):LA9:=fp.filterMap λb=>(h.get? b).map λo=>(b,o)
theorem jz3{fp h b o}(hb:b∈fp)(e:h.get? b=some o):(b,o)∈K8 fp h:=List.mem_filterMap.mpr ⟨b,hb,by rw[e];rfl⟩
theorem kwj{fp h p}(hp:p∈K8 fp h):p.1∈fp/\h.get? p.1=some p.2:=by
 obtain⟨b,hb,e⟩:=List.mem_filterMap.mp hp;cases q:h.get? b with
 |none=>rw[q]at e;cases e
 |some o=>
  rw[q]at e;have e':=oq9 e;subst e';exact⟨hb,q⟩
theorem Inv.pinned{a7}{σ:St}{H s fp}(I:Inv X a7 σ H s)(hf:∀b∈fp,vY X a7 H b)(ho:∀b∈fp,∃o,s.heap.get? b=some o/\∀v,o.data≠.cell v):Inv X (a7++K8 fp s.heap) σ H s:=
 I.pins_of λp hp=>(aA hp).elim (λz=>I.pin p (lr9 _ z)) λz=>by
  obtain⟨hb,e⟩:=kwj z;obtain⟨f0,f1,f2,_⟩:=hf p.1 hb;obtain⟨o,e',d⟩:=ho p.1 hb;rw[e]at e';cases e';exact⟨e,f0,f1,f2,d⟩
theorem Inv.unpinned{a7 pl}{σ:St}{H s}(I:Inv X (a7++pl) σ H s):Inv X a7 σ H s:=I.pins_of λp hp=>I.pin p (lr9 _ (ll9 _ hp))
theorem vvf{ak:Expr}{body:List Stmt}{wi:TI}{g:TG}{tb:TS}{pos:Pos}(hp:PassesOwn (model X.prog X.w) X.A X.env X.xe)(hc:X.calm=true)(hi:PI X tg ak wi)(hg:PG X tg g)(hb:PSs X body tb)
  (hs:autoParam (∀x,foldedSetIterable ak X.env x=pure x) Ŗ):PS X (.For tg ak body [] pos) (tFor wi g tb):=by
 intro a7 s σ H D I h;refine wpAny_For (thn (hi a7 s σ H _ I h) λv s1 h1=>thn h1 λitv s2 h2=>?_) hs;obtain⟨it,fp,tn,J,H2,e,I2,T,bu,f2,W,⟨m0,w0⟩,gc⟩:=h2;subst e;have ig:∀{H':Hp},(∀b∈fp,H' b=none)->∀b∈fp,vY X a7 H' b:=λhn b hb=>⟨hn b hb,(f2 b hb).2⟩
 refine codeAny_forLoop_any (λn s'=>∃i σ' H',Inv X a7 σ' H' s'/\tn i s'.heap/\(∀b∈fp,H' b=none)/\W i n σ' H') ?_ m0 ⟨0,σ,H2,I2,bu,λb hb=>(f2 b hb).1,w0⟩;rintro n s3 ⟨i,σ3,H3,I3,dg,qc,w3⟩;rcases gc i n σ3 H3 w3 with⟨stop,qn⟩|⟨go,N,hN,step⟩
 ·refine wpAny_passesOwn hp (thn (T.done X rfl rfl rfl hc i a7 s3 σ3 H3 X.xe I3 (ig qc) dg stop) λr s4 ⟨hr,I4⟩=>?_);subst hr;exact wpAny_execs_nil ⟨σ3,H3,I4,qn⟩
 ·refine wpAny_passesOwn hp (thn (T.item X rfl rfl rfl hc i a7 s3 σ3 H3 X.xe I3 (ig qc) dg go) λr s4 ⟨u,hr,h4⟩=>?_);subst hr;refine wpAny_passesOwn hp (thn h4 λ_ s5 ⟨x,H5,I5,r5,y5,st5,fr5⟩=>?_);have I5':=I5.pinned (ig fr5) (T.obj _ _ st5);refine wpAny_passesOwn hp (thn (hg _ s5 σ3 H5 x u _ I5' r5 (step x H5 y5)) λ_ s6 ⟨σ6,H6,I6,q6⟩=>?_);refine wpAny_passesOwn hp (thn (hb _ s6 σ6 H6 _ I6 q6) λf s7 q7=>?_);have again:∀{σ7:St} {H7:Hp},Inv X (a7++K8 fp s5.heap) σ7 H7 s7->N σ7 H7->∃m,m<n/\∃i σ' H',Inv X a7 σ' H' s7/\tn i s7.heap/\(∀b∈fp,H' b=none)/\W i m σ' H':=fun {σ7 H7} I7 n7=>by
   obtain⟨m',hm,w7⟩:=hN σ7 H7 n7;refine⟨m',hm,i+1,σ7,H7,I7.unpinned,T.keep _ _ _ st5 λb hb o e=>(I7.pin (b,o) (lr9 _ (lr9 _ (jz3 hb e)))).1,λb hb=>?_,w7⟩;obtain⟨o,e,d⟩:=T.obj _ _ st5 b hb;exact(I7.pin (b,o) (lr9 _ (lr9 _ (jz3 hb e)))).2.1
  cases f with|next=>obtain⟨σ7,H7,I7,n7⟩:=q7;exact again I7 n7|cont=>obtain⟨σ7,H7,I7,n7⟩:=q7;exact again I7 n7|brk=>obtain⟨σ7,H7,I7,q7⟩:=q7;exact⟨σ7,H7,I7.unpinned,q7⟩|ret v=>obtain⟨x7,σ7,H7,I7,r7,q7⟩:=q7;exact⟨x7,σ7,H7,I7.unpinned,r7,q7⟩
end
abbrev R2:=V->V->Hp->VK->Prop
noncomputable def OpR(X:Cx)(f:Value->Value->Sem Value)(r:R2):Prop:=
 ∀(a7:LA9) (s:Shared) (σ:St) (H:Hp) (x y:V) (v u:Value) (Q:VK),Inv X a7 σ H s->RelV x v->RelV y u->r x y H Q ->
  wpAny (model X.prog X.w) X.A (f v u) (EP X a7 σ Q) X.xe s
noncomputable def UnR(X:Cx)(f:Value->Sem Value)(r:V->Hp->VK->Prop):Prop:=
 ∀(a7:LA9) (s:Shared) (σ:St) (H:Hp) (x:V) (v:Value) (Q:VK),Inv X a7 σ H s->RelV x v->r x H Q ->
  wpAny (model X.prog X.w) X.A (f v) (EP X a7 σ Q) X.xe s
noncomputable def CallR(X:Cx)(f:Value)(r:List V->Hp->VK->Prop):Prop:=
 ∀(a7:LA9) (s:Shared) (σ:St) (H:Hp) (xs:List V) (us:List Value) (Q:VK),Inv X a7 σ H s->Vals xs us->r xs H Q ->
  wpAny (model X.prog X.w) X.A (call f us) (EP X a7 σ Q) X.xe s
noncomputable def TruR(X:Cx)(r:V->Hp->(Bool->Hp->Prop)->Prop):Prop:=
 ∀(a7:LA9) (s:Shared) (σ:St) (H:Hp) (x:V) (v:Value) (Q:Bool->Hp->Prop),Inv X a7 σ H s->RelV x v->r x H Q ->
  wpAny (model X.prog X.w) X.A (truthy v) (TP X a7 σ Q) X.xe s
abbrev tOp(r:R2)(ta tb:TE):TE:=fun σ H Q=>ta σ H λx H1=>tb σ H1 λy H2=>r x y H2 Q
abbrev tUn(r:V->Hp->VK->Prop)(ta:TE):TE:=fun σ H Q=>ta σ H λx H1=>r x H1 Q
noncomputable def rI(C:Int->Int->Prop)(g:Int->Int->V):R2:=λx y H Q=>∃i j,x=.int i/\y=.int j/\C i j/\Q (g i j) H
noncomputable def rI0(g:Int->Int->V):R2:=λx y H Q=>∃i j,x=.int i/\y=.int j/\Q (g i j) H
noncomputable def rU(g:Int->V):V->Hp->VK->Prop:=λx H Q=>∃i,x=.int i/\Q (g i) H
section
variable {X:Cx}{a b c:Expr}{ta tb tc:TE}{pos:Pos}
theorem xji(ha:PE X a ta)(hb:PE X b tb){a7 s}{σ:St}{H}{R:V->V->Hp->Prop}(I:Inv X a7 σ H s)
  (h:ta σ H λx H1=>tb σ H1 λy H2=>R x y H2) {Q} {f:Value->Value->Sem Value}
  (hf:∀v u s2 x y H2,Inv X a7 σ H2 s2->RelV x v->RelV y u->R x y H2->wpAny (model X.prog X.w) X.A (f v u) Q X.xe s2):
  wpAny (model X.prog X.w) X.A (eval a X.env) (λv s₁=>wpAny (model X.prog X.w) X.A (eval b X.env) (λu s₂=>wpAny (model X.prog X.w) X.A (f v u) Q X.xe s₂) X.xe s₁) X.xe s:=by
 exact thn (ha a7 s σ H _ I h) λv s1 ⟨x,H1,I1,r1,q1⟩=>(thn (hb a7 s1 σ H1 _ I1 q1) λu s2 ⟨y,H2,I2,r2,q2⟩=>(hf v u s2 x y H2 I2 r1 r2 q2))
theorem wzf{op r}(ho:OpR X (binaryOp op) r)(ha:PE X a ta)(hb:PE X b tb):PE X (.BinOp a op b pos) (tOp r ta tb):=by
 intro a7 s σ H Q I h;exact wpAny_BinOp (xji ha hb I h λv u s2 x y H2 I2 rx ry q=>ho a7 s2 σ H2 x y v u Q I2 rx ry q)
theorem wze{op r}(ho:UnR X (unaryOp op) r)(ha:PE X a ta):PE X (.UnaryOp op a pos) (tUn r ta):=by
 intro a7 s σ H Q I h;exact UnaryOp_ (thn (ha a7 s σ H _ I h) λv s1 ⟨x,H1,I1,r1,q1⟩=>ho a7 s1 σ H1 x v Q I1 r1 q1)
theorem opI{f C}{g:Int->Int->Int}
  (rule:∀i j (t u) s Q E,C i j->Q (.int (g i j) s.toks) {s with toks:=s.toks+1}->wpAny (model X.prog X.w) X.A (f (.int i t) (.int j u)) Q E s):
  OpR X f (rI C λi j=>.int (g i j)):=by
 rintro a7 s σ H x y v u Q I rx ry ⟨i,j,rfl,rfl,hc,q⟩;obtain⟨t,rfl⟩:=rx;obtain⟨t',rfl⟩:=ry;exact rule i j t t' s _ _ hc ⟨.int _,H,I.tok _,⟨_,rfl⟩,q⟩
theorem xk4{f}{g:Int->Int->Int}
  (rule:∀i j (t u) s Q E,Q (.int (g i j) s.toks) {s with toks:=s.toks+1}->wpAny (model X.prog X.w) X.A (f (.int i t) (.int j u)) Q E s):
  OpR X f (rI0 λi j=>.int (g i j)):=by
 rintro a7 s σ H x y v u Q I rx ry ⟨i,j,rfl,rfl,q⟩;obtain⟨t,rfl⟩:=rx;obtain⟨t',rfl⟩:=ry;exact rule i j t t' s _ _ ⟨.int _,H,I.tok _,⟨_,rfl⟩,q⟩
theorem wx8{f}{g:Int->Int->Bool}
  (rule:∀i j (t u) (s) (Q) (E),Q (.bool (g i j)) s->wpAny (model X.prog X.w) X.A (f (.int i t) (.int j u)) Q E s):
  OpR X f (rI0 λi j=>.bl (g i j)):=by
 rintro a7 s σ H x y v u Q I rx ry ⟨i,j,rfl,rfl,q⟩;obtain⟨t,rfl⟩:=rx;obtain⟨t',rfl⟩:=ry;exact rule i j t t' s _ _ ⟨.bl _,H,I,rfl,q⟩
theorem op_add:OpR X (binaryOp .Add) (rI0 λi j=>.int (i+j)):=xk4 λ_ _ _ _ _ _ _ q=>add_int q
theorem qk2:OpR X (binaryOp .Sub) (rI0 λi j=>.int (i - j)):=xk4 λ_ _ _ _ _ _ _ q=>sub_int q
theorem wqz:OpR X (binaryOp .Mod) (rI (λ_ j=>0<j) λi j=>.int (i % j)):=opI λi j _ _ _ _ _ hc q=>by
 exact mod_int' ⋯ (by rw[Int.fmod_eq_emod_of_nonneg i ⋯];exact q)
theorem unI{f}{g:Int->Int}
  (rule:∀i t s Q E,Q (.int (g i) s.toks) {s with toks:=s.toks+1}->wpAny (model X.prog X.w) X.A (f (.int i t)) Q E s):
  UnR X f (rU λi=>.int (g i)):=by
 rintro a7 s σ H x v Q I rx ⟨i,rfl,q⟩;obtain⟨t,rfl⟩:=rx;exact rule i t s _ _ ⟨.int _,H,I.tok _,⟨_,rfl⟩,q⟩
theorem qj9:UnR X (unaryOp .USub) (rU λi=>.int (-i)):=unI λ_ _ _ _ _ q=>neg_int q
end
section
variable {X:Cx}{a b c:Expr}{ta tb tc:TE}{pos:Pos}
theorem qzi{a7}{σ:St}{H s Q k k'}(I:Inv X a7 σ H s)(q:Q (.bl k) H)(e:k=k'):EP X a7 σ Q (.bool k') s:=by
 subst e;exact⟨.bl k,H,I,rfl,q⟩
theorem wzj:OpR X (compareOp .Lt) (rI0 λi j=>.bl (decide (i<j))):=wx8 λ_ _ _ _ _ _ _ q=>lt_int q
theorem wzk:OpR X (compareOp .LtE) (rI0 λi j=>.bl (decide (i<=j))):=wx8 λ_ _ _ _ _ _ _ q=>le_int q
theorem wv0:OpR X (compareOp .Gt) (rI0 λi j=>.bl (decide (j<i))):=wx8 λ_ _ _ _ _ _ _ q=>gt_int q
theorem wzl:OpR X (compareOp .GtE) (rI0 λi j=>.bl (decide (j<=i))):=wx8 λ_ _ _ _ _ _ _ q=>ge_int q
theorem qx1:OpR X (compareOp .In) (λx y H Q=>∃i j,x=.str i/\y=.str j/\Q (.bl (!(Builtin.Str.occurrences j i 0 j.length 1).isEmpty)) H):=by
 rintro a7 s σ H x y v u Q I rx ry ⟨i,j,rfl,rfl,q⟩;obtain⟨t,rfl⟩:=rx;obtain⟨t',rfl⟩:=ry;exact in_str (qzi I q rfl)
theorem XX:OpR X (compareOp .Is) (λx y H Q=>y=.non/\Q (.bl (decide (x=.non))) H):=by
 rintro a7 s σ H x y v u Q I rx ry ⟨rfl,q⟩;cases ry;refine is_none_gen (qzi I q ?_);cases x<;>first
  |(obtain⟨t,rfl⟩:=rx;rfl)
theorem qx0:OpR X (compareOp .IsNot) (λx y H Q=>y=.non/\Q (.bl (!decide (x=.non))) H):=by
 rintro a7 s σ H x y v u Q I rx ry ⟨rfl,q⟩;cases ry;refine isnot_none_gen (qzi I q ?_);cases x<;>first
  |(obtain⟨t,rfl⟩:=rx;rfl)
theorem OpR.or{f r r'}(h:OpR X f r)(h':OpR X f r'):OpR X f (λx y H Q=>r x y H Q\/r' x y H Q):=by
 intro a7 s σ H x y v u Q I rx ry q;rcases q with q|q
 ·exact h a7 s σ H x y v u Q I rx ry q
 ·exact h' a7 s σ H x y v u Q I rx ry q
theorem k9 b {op}(h:autoParam (op≠.In) ŕ)(h2:autoParam (op≠.NotIn) ŕ):behindInMarks op b=false:=by
 have e1:(op==CmpOp.In)=false:=by cases op<;>first|rfl|exact absurd rfl h
 have e2:(op==CmpOp.NotIn)=false:=by cases op<;>first|rfl|exact absurd rfl h2
 cases b<;>simp[behindInMarks,e1,e2]
theorem vxl{op r}(ho:OpR X (compareOp op) r)(ha:PE X a ta)(hb:PE X b tb)(hm:behindInMarks op b=false):PE X (.Compare a [op] [b] pos) (tOp r ta tb):=by
 intro a7 s σ H Q I h;exact wpAny_Compare1 (xji ha hb I h λv u s2 x y H2 I2 rx ry q=>ho a7 s2 σ H2 x y v u Q I2 rx ry q) hm
abbrev wxh(t:TE):TT:=fun σ H Q=>t σ H λx H'=>∃k,x=.bl k/\Q k H'
theorem vxb{op r}(ho:OpR X (compareOp op) r)(ha:PE X a ta)(hb:PE X b tb)(hm:behindInMarks op b=false):PT X (.Compare a [op] [b] pos) (wxh (tOp r ta tb)):=by
 intro a7 s σ H Q I h;refine wpAny_isTrue_Compare1 (thn (ha a7 s σ H _ I h) λv s1 ⟨x,H1,I1,r1,q1⟩=>thn (hb a7 s1 σ H1 _ I1 q1) λu s2 ⟨y,H2,I2,r2,q2⟩=>
  thn (ho a7 s2 σ H2 x y v u _ I2 r1 r2 q2) λc s3 ⟨z,H3,I3,r3,k,e,q3⟩=>?_) hm
 subst e;cases r3;exact wpAny_truthy_bool ⟨H3,I3,q3⟩
noncomputable def wxd(K:Frag)(x:V)(H:Hp)(k:Bool):Prop:=
 match x with
 |.non=>k=false|.bl b=>k=b|.int i=>k=(i != 0)|.str y=>y.length<=sizeLine/\k=((y.length:Int) != 0)|.byt y=>y.size<=sizeLine/\k=((y.size:Int) != 0)|.ref p=>(∃xs,SqL K H p xs/\k=!xs.isEmpty)\/(∃xs,SqT K H p xs/\k=!xs.isEmpty)\/∃ab,H p=some (.dK ab)/\k=!ab.isEmpty|_=>False
theorem qqv{κ ab}{vs:List (κ×Value)}(r:KV ab vs):(!vs.isEmpty)=!ab.isEmpty:=by
 cases r<;>rfl
theorem kq2{xs a9}(r:Vals xs a9):(!a9.toArray.isEmpty)=!xs.isEmpty:=by
 cases r<;>simp
theorem Vk:(sizeLine)<2 ^ 63:=⋯
theorem vv4:TruR X (λx H Q=>∃k,wxd X.K x H k/\Q k H):=by
 rintro a7 s σ H x v Q I rx ⟨k,e,q⟩;have hl:=Vk;have hs:sizeLine=16777216:=Yo;cases x with
 | non=>
  cases rx;have e':k=false:=e;subst e';exact truthy_none ⟨H,I,q⟩
 | bl b=>
  cases rx;have e':k=b:=e;subst e';exact wpAny_truthy_bool ⟨H,I,q⟩
 | int i=>
  obtain⟨t,rfl⟩:=rx;have e':k=(i != 0):=e;subst e';exact PySem.P.truthy_int ⟨H,I,q⟩
 | str y=>
  obtain⟨t,rfl⟩:=rx;obtain⟨hy,e'⟩:y.length<=sizeLine/\k=((y.length:Int) != 0):=e;subst e';exact PySem.P.truthy_str ⋯ ⟨H,I.tok _,q⟩
 | byt y=>
  obtain⟨t,rfl⟩:=rx;obtain⟨hy,e'⟩:y.size<=sizeLine/\k=((y.size:Int) != 0):=e;subst e';exact PySem.W.truthy_bytes ⋯ ⟨H,I.tok _,q⟩
 | ref p=>
  cases rx;have e':(∃xs,SqL X.K H p xs/\k=!xs.isEmpty)\/(∃xs,SqT X.K H p xs/\k=!xs.isEmpty)\/∃ab,H p=some (.dK ab)/\k=!ab.isEmpty:=e;rcases e' with⟨xs,hx,e'⟩|⟨xs,hx,e'⟩|⟨ab,hx,e'⟩
  ·subst e';obtain⟨a9,r,pl,hz⟩:=I.list hx;have ah:=r.length;exact wpAny_truthy_list pl.isList (by simp only[X8];lia) ⟨H,I.tok _,by rw[kq2 r];exact q⟩
  ·subst e';obtain⟨a9,r,pl,hz⟩:=I.tuple hx;have ah:=r.length;exact truthy_tuple pl (by simp only[X8];lia) ⟨H,I.tok _,by rw[kq2 r];exact q⟩
  ·subst e';obtain⟨hz,hS,vs,r,m⟩:ab.length<=sizeLine/\(p==sysModules)=false/\∃vs,KV ab vs/\s.heap.DictOf (wj X.prog X.w) p vs:=I.hok p _ hx;have ah:ab.length=vs.length:=Paired.length r;exact wpAny_truthy_dict hS m ⋯ ⟨H,I.tok _,by rw[qqv r];exact q⟩
 |_=>exact(show False from e).elim
theorem vkd(ha:PE X a ta)(he:∀fc,isTrue a X.env fc=(do let v <-fc;standAt a.pos;holding [v] (truthy v))):
  PT X a (fun σ H Q=>ta σ H λx H'=>∃k,wxd X.K x H' k/\Q k H'):=by
 intro a7 s σ H Q I h;exact isTrue_plain (thn (ha a7 s σ H _ I h) λv s1 ⟨x,H1,I1,r1,q1⟩=>vv4 a7 s1 σ H1 x v Q I1 r1 q1) (he _)
theorem op_add_str:OpR X (binaryOp .Add) (λx y H Q=>∃i j,x=.str i/\y=.str j/\i.length+j.length<=sizeLine/\Q (.str (i++j)) H):=by
 rintro a7 s σ H x y v u Q I rx ry ⟨i,j,rfl,rfl,hz,q⟩;obtain⟨t,rfl⟩:=rx;obtain⟨t',rfl⟩:=ry;exact add_str (λt' tk=>⟨.str (i++j),H,I.tok _,⟨_,rfl⟩,q⟩) hz
theorem x4{x us}(r:Vals [x] us):∃u,us=[u]/\RelV x u:=by
 cases r with|cons r1 r2=>cases r2;exact⟨_,rfl,r1⟩
theorem vjq{x y us}(r:Vals [x,y] us):∃u w',us=[u,w']/\RelV x u/\RelV y w':=by
 cases r with
 |cons r1 r2=>
  cases r2 with|cons r3 r4=>cases r4;exact⟨_,_,rfl,r1,r3⟩
theorem vj6:CallR X (.type "int") (λxs H Q=>(∃i,xs=[.int i]/\Q (.int i) H)\/∃k,xs=[.bl k]/\Q (.int (if k then 1 else 0)) H):=by
 intro a7 s σ H xs us Q I r h;rcases h with⟨i,rfl,q⟩|⟨k,rfl,q⟩
 ·obtain⟨u,rfl,t,rfl⟩:=x4 r;exact call_int_int ⟨.int i,H,I,⟨_,rfl⟩,q⟩
 ·obtain⟨u,rfl,r1⟩:=x4 r;cases r1;exact call_int_bool ⟨.int _,H,I.tok _,⟨_,rfl⟩,q⟩
end
structure ObjM (h:Heap)(x dx C:Addr)(mA:Str->Option Value):Prop where
 obj:h.get? x=some (PySem.W.instObj C dx)
 ns:h.Ns1 dx mA
 ne:dx≠x
theorem qxl{h:Heap}{dx mA}(n:h.Ns1 dx mA):∃od,h.get? dx=some od/\∀name,PySem.W.lookIn name od=some (mA name):=by
 obtain⟨o,es,ep,ho,hd,hk,_,hm⟩:=n;refine⟨o,ho,λname=>?_⟩;have e:=hm name;unfold nsFind findBy at e;rw[<-Array.find?_toList]at e;unfold PySem.W.lookIn;rw[hd];dsimp only
 split
 ·rename_i y q;rw[q]at e;exact congrArg some e
 ·rename_i q;have a:es.toList.any (·.refKey)=false:=by
   rw[List.any_eq_false];intro y hy;obtain⟨z,t,jm⟩:=hk y (Array.mem_toList_iff.mp hy);simp[DictEntry.refKey,jm]
  grind
theorem ObjM.look{h x dx C mA}(I:ObjM h x dx C mA):∃od,PySem.W.InstAt h x (PySem.W.instObj C dx) C (some od)/\∀name,PySem.W.lookIn name od=some (mA name):=
 let ⟨od,ho,hl⟩:=qxl I.ns
 ⟨od,⟨I.obj,rfl,rfl,ho⟩,hl⟩
theorem RelO.some_of{v o}(r:RelO (some v) o):∃u,o=some u/\RelV v u:=by
 cases o with|none=>exact(r).elim|some u=>exact⟨u,rfl,r⟩
section
variable {P:Program}{w:World}{H H':Hp}{h h':Heap}{a C dx:Addr}{fs fs':List (Str×V)}
theorem vzf(hok:HOk P w H h)(e:H a=some (.ins C dx fs)):∃mA,ObjM h a dx C mA/\(∀f,RelO (fs.lookup f) (mA f))/\PySem.Within mA (fs.map (·.1))/\fs.length<=1000/\H dx=some (.own a):=by
 obtain⟨d,z,ne,ob,mA,n,r,q⟩:=(hok a _ e);exact⟨mA,⟨ob,n,ne⟩,r,q,z,d⟩
end
structure Cls (K:Frag)(C:Addr):Prop where
 pg:PySem.W.plainGet K C Str.empty=true
 hd:PySem.W.hasDictIn K C=true
 po:PySem.W.plainOver K C=true
 sa:findIn K (.ref C) "__setattr__"=some (some (.builtin "object.__setattr__"))
theorem Cls.get{K C}(c:Cls K C) f:PySem.W.plainGet K C f=true:=c.pg
section
variable {X:Cx}{a7:LA9}{σ:St}{H:Hp}{s:Shared}{A:Around}{E:VP9}{Q:VP9}{c:Value}{b:Bool}
inductive TyOf (K:Frag)(H:Hp):V->Value->Prop where
 | non:TyOf K H .non (.type "NoneType")
 | bl (x:Bool):TyOf K H (.bl x) (.type "bool")
 | int (i:Int):TyOf K H (.int i) (.type "int")
 | str (x:Str):TyOf K H (.str x) (.type "str")
 | flt (x:UInt64):TyOf K H (.flt x) (.type "float")
 | lst {a:Addr} {xs:List V} (e:H a=some (.lst xs)):TyOf K H (.ref a) (.type "list")
 | frz {a:Addr} {o:Obj} {xs:List V} (e:H a=some (.frz o (.lst xs))):TyOf K H (.ref a) (.type "list")
 | tup {a:Addr} {xs:List V} (e:H a=some (.tup xs)):TyOf K H (.ref a) (.type "tuple")
 | dK {a:Addr} {ab:List (Key×V)} (e:H a=some (.dK ab)):TyOf K H (.ref a) (.type "dict")
 | dT {a:Addr} {ab:List (List Key×V)} (e:H a=some (.dT ab)):TyOf K H (.ref a) (.type "dict")
 | ins {a C dx:Addr} {fs:List (Str×V)} (e:H a=some (.ins C dx fs)) (cl:Cls K C) (ha:findIn K (.ref C) "__class__"=some (some (.builtin "object.__class__")))
   (hn:PySem.W.specialIn K (.builtin "object.__class__") "__get__"=some (some (.builtin "getset_descriptor.__get__"))) (htk:PySem.W.takesIn K (.builtin "object.__class__")=some true)
   (hm:PySem.W.mroIn K C (.type "object")=some true):TyOf K H (.ref a) (.ref C)
theorem qz2{x u t}(I:Inv X a7 σ H s)(rx:RelV x u)(ty:TyOf X.K H x t)(e:kitOne X.K t c=some b)(h:∀tk,Q (.bool b) {s with toks:=tk}):
  wpAny (model X.prog X.w) A (call (.builtin "isinstance") [u,c]) Q E s:=by
 cases ty with
 |non=>cases(rx);exact Yh PySem.W.kitx_none I.kIn True.intro e (λz=>nomatch z) h
 |bl y=>cases(rx);exact Yh PySem.W.kitx_bool I.kIn True.intro e (λz=>nomatch z) h
 |int i=>obtain⟨t,q⟩:=(rx);cases q;exact Yh PySem.W.kitx_int I.kIn True.intro e (λz=>nomatch z) h
 |str y=>obtain⟨t,q⟩:=(rx);cases q;exact Yh PySem.W.kitx_str I.kIn True.intro e (λz=>nomatch z) h
 |flt y=>obtain⟨t,q⟩:=(rx);cases q;exact Yh PySem.W.kitx_float I.kIn True.intro e (λz=>nomatch z) h
 |@lst a xs ea=>
  cases(show u=Value.ref a from rx);obtain⟨_,_,n,_,h1⟩:=(I.hok a _ ea);exact Yh PySem.W.kitx_list I.kIn ⟨_,h1,rfl⟩ e (λz=>nomatch z) h
 |@frz a ob xs ea=>
  cases(rx);obtain⟨_,_,_,n,_,h1⟩:=(I.hok a _ ea);exact Yh PySem.W.kitx_list I.kIn ⟨_,h1,rfl⟩ e (λz=>nomatch z) h
 |@tup a xs ea=>
  cases(show u=Value.ref a from rx);obtain⟨_,_,_,p⟩:=(I.hok a _ ea);obtain⟨o,h1,h2,_⟩:=p;exact Yh PySem.W.kitx_tuple I.kIn ⟨o,h1,h2⟩ e (λz=>nomatch z) h
 |@dK a ab ea=>
  cases(show u=Value.ref a from rx);obtain⟨_,_,vs,_,p⟩:=(I.hok a _ ea);obtain⟨o,es,ep,h1,h2,_⟩:=p;exact Yh PySem.W.kitx_dict I.kIn ⟨o,h1,h2.1⟩ e (λz=>nomatch z) h
 |@dT a ab ea=>
  cases(show u=Value.ref a from rx);obtain⟨_,_,xs,_,o,es,ep,h1,h2,_⟩:=(I.hok a _ ea);exact Yh PySem.W.kitx_dict I.kIn ⟨o,h1,h2.1⟩ e (λz=>nomatch z) h
 |@ins a C dx fs ea cl ha hn htk hm=>
  cases(rx);obtain⟨mA,O,_⟩:=vzf I.hok ea;obtain⟨od,J,_⟩:=O.look;exact Yh (PySem.W.kitx_own (cl.get _) cl.hd ha hn htk hm) I.kIn J e (λz=>nomatch z) h
end
structure Room (k:Nat)(A:Around):Prop where
 hd:A.handled=none
 dp:A.depth+3*k+5<recursionLimit
 un:A.units+16*k+200<cLine
 gd:A.guards=some []
theorem Room.mono{j k A}(r:Room k A)(h:j<=k):Room j A:=⟨r.hd,by have:=r.dp;lia,by have:=r.un;lia,r.gd⟩
theorem Room.deeper{k A}(r:Room (k+1) A) env:Room k (A.deeper env):=
 ⟨r.hd,by have:=r.dp;show A.depth+1+3*k+5<_;lia,by have:=r.un;show A.units+3+16*k+200<_;lia,r.gd⟩
theorem Room.depth{k A}(r:Room k A):A.depth<recursionLimit:=by have:=r.dp;lia
theorem Room.units{k A}(r:Room k A):A.units+64<cLine:=by have:=r.un;lia
abbrev wxi:TA:=λ_ H Q=>Q [] H
abbrev vwp(ta:TE)(tr:TA):TA:=fun σ H Q=>ta σ H λx H1=>tr σ H1 λxs H2=>Q (x::xs) H2
section
variable {X:Cx}{e:Expr}{es:List Expr}{te:TE}{t:TA}{pos:Pos}
theorem vQ:PA X [] wxi:=λ_ _ _ _ H Q I h=>Calls.spliced_nil ⟨[],H,I,.nil,h⟩
theorem vw(ha:PE X e te)(hr:PA X es t)(hs:autoParam (starEach (e::es) X.env=(false,eval e X.env)::starEach es X.env) Ŕ):PA X (e::es) (vwp te t):=by
 intro pos a7 s σ H Q I h;rw[hs];exact Calls.spliced_cons (thn (ha a7 s σ H _ I h) λu s1 ⟨x,H1,I1,r1,q1⟩=>(thn (hr pos a7 s1 σ H1 _ I1 q1) λus s2 ⟨xs,H2,I2,r2,q2⟩=>⟨x::xs,H2,I2,.cons r1 r2,q2⟩))
abbrev tTup(t:TA):TE:=fun σ H Q=>t σ H λxs H1=>xs.length<=sizeLine/\∀p,H1 p=none->Q (.ref p) (upd H1 p (.tup xs))
abbrev tLst(t:TA):TE:=fun σ H Q=>t σ H λxs H1=>xs.length<=sizeLine/\∀p,H1 p=none->Q (.ref p) (upd H1 p (.lst xs))
theorem wql{x1}(h:PA X es t):PE X (.Tuple es x1 pos) (tTup t):=by
 intro a7 s σ H Q I hq;refine wpAny_Tuple_spliced (thn (h pos a7 s σ H _ I hq) λus s1 ⟨xs,H1,I1,r,z,q⟩=>⟨by rw[<-r.length];exact z,(⟨.ref s1.heap.objs.size,upd H1 s1.heap.objs.size _,I1.laid (t':=s1.toks) (λb u e=>X1 _ e) (X7 _) ?_,rfl,q _ (I1.hok.fresh (X7 _))⟩)⟩);exact⟨z,us,r,⟨_,X6 _ rfl,rfl,rfl,_,rfl⟩⟩
theorem wqq(h:PA X es t):PE X (.List es pos) (tLst t):=by
 intro a7 s σ H Q I hq;refine wpAny_List_spliced (thn (h pos a7 s σ H _ I hq) λus s1 ⟨xs,H1,I1,r,z,q⟩=>⟨by rw[<-r.length];exact z,(⟨.ref s1.heap.objs.size,upd H1 s1.heap.objs.size _,I1.laid (t':=s1.toks) (λb u e=>X1 _ e) (X7 _) ?_,rfl,q _ (I1.hok.fresh (X7 _))⟩)⟩);exact⟨z,us,0,r,X6 _ rfl⟩
end
abbrev Sp:=List V->Hp->VK->XK->Prop
abbrev CXT:=List Env->Hp->Shared->XK->Value->Shared->Prop
structure Env0 (P:Program)(w:World)(K:Frag)(mg:Str->Option Value)(base:Heap)(A:Around)(outer:List Env)(s:Shared)(H:Hp):Prop where
 frames:A.frames=some outer
 mod:Mod K mg base
 bs:∀b o,base.get? b=some o->s.heap.get? b=some o/\H b=none
 bsz:base.objs.size<=s.heap.objs.size
 funs:s.heap.FunFrames base outer
 frf:∀b∈frs outer,H b=none
 hok:HOk P w H s.heap
 bare:AllBare s.gens
noncomputable def CE(outer:List Env)(P:Program)(w:World)(H:Hp)(s:Shared)(Q:VK)(u:Value)(s':Shared):Prop:=
 ∃v H',s'.os=s.os/\AllBare s'.gens/\Un (frs outer) [] H H' s.heap s'.heap/\HOk P w H' s'.heap/\RelV v u/\Q v H'
noncomputable def CR(CX:CXT)(outer:List Env)(P:Program)(w:World)(H:Hp)(s:Shared)(Q:VK)(E:XK)(r:Result)(s':Shared):Prop:=
 match r with
 |.ok (.ret u)=>CE outer P w H s Q u s'|.ok _=>False|.error e=>CX outer H s E e s'
structure FnOk (P:Program)(w:World)(K:Frag)(mg:Str->Option Value)(base:Heap)(CX:CXT)(k:Nat)(f:Addr)(fd:FuncData)(ps:List Str)(sp:Sp):Prop where
 len:∀vs H Q E,sp vs H Q E->vs.length=ps.length
 run:∀(A:Around) (outer:List Env) (s:Shared) (H:Hp) (args:Args) (us:List Value) (vs:List V) (Q:VK) (E:XK),Room k A->Env0 P w K mg base A outer s H->BindsTo s fd args (ps.zip us)->Vals vs us->sp vs H Q E ->
  codeAny (model P w) A (.call (.ref f) args) (CR CX outer P w H s Q E) s
section
variable {X:Cx}{a7:LA9}{σ:St}{H:Hp}{s s':Shared}
theorem Inv.env0(I:Inv X a7 σ H s):Env0 X.prog X.w X.K X.mg X.base X.A X.stack s H:=
 ⟨I.ok.frames,I.ok.mod,I.bs,Ye I.ok.bsz I.sz,I.stack,I.stkFree,I.hok,I.bare⟩
theorem Inv.after{Q u}(I:Inv X a7 σ H s)(h:CE X.stack X.prog X.w H s Q u s'):EP X a7 σ Q u s':=by
 obtain⟨v,H',os,bare,un,hok,r,q⟩:=h;obtain⟨hh,g,d,t,nq⟩:=s';obtain rfl:nq=s.os:=os;exact⟨v,H',I.call (h':=hh) (g':=g) (d':=d) (t':=t) un hok bare (λb z=>absurd z (by simp)),r,q⟩
end
abbrev wjz(sp:Sp)(ph:List V)(E:XK)(t:TA):TE:=fun σ H Q=>t σ H λvs H1=>sp (vs++ph) H1 Q E
noncomputable def Binds(K:Frag)(fd:FuncData)(ps:List Str)(ds:List Value):Prop:=
 ∀(s:Shared) (us:List Value),K.In s.heap->(us++ds).length=ps.length->BindsTo s fd ⟨us,[]⟩ (ps.zip (us++ds))
theorem Binds.all{K fd ps}(h:∀us,us.length=ps.length->bindArgs fd ⟨us,[]⟩=pure (ps.zip us)):Binds K fd ps []:=λs us _ hl=>by
 rw[Xv]at hl ⊢;exact .of_eq (h us hl)
noncomputable def vjl(CX:CXT)(X:Cx)(E:XK):Prop:=∀(a7:LA9) (σ:St) (H:Hp) (s:Shared) (e:Value) (s':Shared),Inv X a7 σ H s->CX X.stack H s E e s'->X.xe e s'
section
variable {X:Cx}{CX:CXT}{k:Nat}{f C:Addr}{fd:FuncData}{ps:List Str}{sp:Sp}{ph:List V}{ds:List Value}{E:XK}{x m:Str}{p pos apos:Pos}{e o:Expr}{es:List Expr}{ta:TE}{t:TA}
theorem wk9{a7}{σ:St}{H s Q us vs}(F:FnOk X.prog X.w X.K X.mg X.base CX k f fd ps sp)(hr:Room k X.A)(hb:Binds X.K fd ps ds)(hd:Vals ph ds)(hx:vjl CX X E)
  (I:Inv X a7 σ H s) (r:Vals vs us) (h:sp (vs++ph) H Q E):wpAny (model X.prog X.w) X.A (call (.ref f) us) (EP X a7 σ Q) X.xe s:=by
 have r2:=r.append hd;have hl:(us++ds).length=ps.length:=by rw[<-r2.length];exact F.len _ _ _ _ h
 refine wpAny_call (codeAny_mono (F.run X.A X.stack s H _ _ _ Q E hr I.env0 (hb s us I.kIn hl) r2 h) λr s' hq=>?_);cases r with
 |error e=>exact hx a7 σ H s e s' I hq
 |ok fl=>
  cases fl with|ret u=>exact I.after hq|next=>exact False.elim hq|brk=>exact False.elim hq|cont=>exact False.elim hq
theorem vxm(F:FnOk X.prog X.w X.K X.mg X.base CX k f fd ps sp)(hr:Room k X.A)(hg:Gl X x)(hm:X.mg x=some (.ref f))(hk:PySem.W.keepIn X.K (.ref f)=true)(hb:Binds X.K fd ps ds)(hd:Vals ph ds)(hx:vjl CX X E)
  (ha:PA X (e::es) t) (fq:autoParam ((x==("__debug__":Str))=false) ŕ) (he:autoParam (starEach (e::es) X.env=(false,eval e X.env)::starEach es X.env) Ŕ) (cg:autoParam ((backTo pos (starEach es X.env)).any (·.1)=false) Ŕ):
  PE X (.Call (.Name x p) (e::es) [] pos) (wjz sp ph E t):=by
 intro a7 s σ H Q I h;exact Yx (qxr I hg hm (PySem.W.callWith_K I.ok.mod.kin hk (thn (ha pos a7 s σ H _ I h) λus s1 ⟨vs,H1,I1,r,q⟩=>⟨I1.kIn,(wk9 F hr hb hd hx I1 r q)⟩) he cg) fq)
end
structure FnScope (N P:List Str)(sc:Scope):Prop where
 kind:sc.kind=.function
 co:sc.isCoroutine=false
 gen:sc.isGenerator=false
 nd:N.Nodup
 pre:N.take P.length=P
 par:∀x∈P,sc.names.lookup x=some .local\/sc.names.lookup x=some .cell
 nofree:∀y∈sc.names,y.2≠.free
theorem kxj{kindOf x}: ∀{binds m},(∀v,(x,v)∉binds) -> bindL kindOf binds m x = m x
  | [],_,_=>rfl
  | (n,v)::r,m,h=>by
    unfold bindL;rw[kxj λw hw=>h w (lc9 _ hw)]
    split
    · have : x≠n:= by rintro rfl; exact h v X5
      simp[this]
    · rfl
theorem kxl{kindOf x}: ∀{binds m},(∀v,(x,v)∉binds) -> bindC kindOf binds m x = m x
  | [],_,_=>rfl
  | (n,v)::r,m,h=>by
    unfold bindC;rw[kxl λw hw=>h w (lc9 _ hw)]
    split
    · rfl
    · have : x≠n:= by rintro rfl; exact h v X5
      simp[this]
theorem kxk{kindOf x v}:∀{P:List Str} {vs} {i:Nat} {m},P.Nodup->P[i]?=some x->vs[i]?=some v->kindOf x=some .local ->
  bindL kindOf (P.zip vs) m x=some v
 |[],_,_,_,_,h,_,_=>by simp at h
 |p::P,w::vs,0,m,nd,h1,h2,hk=>by
  simp at h1 h2;subst h1;subst h2;show bindL kindOf (_::P.zip vs) m p=_;unfold bindL;rw[kxj λv hv=>(List.nodup_cons.mp nd).1 (List.of_mem_zip hv).1,X9 hk];simp
 |p::P,w::vs,i+1,m,nd,h1,h2,hk=>by
  unfold bindL;exact kxk (List.nodup_cons.mp nd).2 (by simpa using h1) (by simpa using h2) hk
theorem kxm{kindOf x v}:∀{P:List Str} {vs} {i:Nat} {m},P.Nodup->P[i]?=some x->vs[i]?=some v->kindOf x≠some .local ->
  bindC kindOf (P.zip vs) m x=some v
 |[],_,_,_,_,h,_,_=>by simp at h
 |p::P,w::vs,0,m,nd,h1,h2,hk=>by
  simp at h1 h2;subst h1;subst h2;show bindC kindOf (_::P.zip vs) m p=_;unfold bindC;rw[kxl λv hv=>(List.nodup_cons.mp nd).1 (List.of_mem_zip hv).1,Xb hk];simp
 |p::P,w::vs,i+1,m,nd,h1,h2,hk=>by
  unfold bindC;exact kxm (List.nodup_cons.mp nd).2 (by simpa using h1) (by simpa using h2) hk
noncomputable def start(N:List Str)(vs:List V):St:=vs.map some++List.replicate (N.length - vs.length) none
noncomputable def JW(CX:CXT)(P:Program)(w:World)(K:Frag)(mg:Str->Option Value)(base:Heap)(N:List Str)(qual:Str)(scope:Scope)(f:Addr)(cd:Value)(A:Around)(outer:List Env)(s:Shared)(H:Hp)(E:XK):Cx where
 prog:=P
 w:=w
 K:=K
 mg:=mg
 base:=base
 A:=A.deeper (envOfC qual scope s.heap.objs.size f cd)
 N:=N
 s₀:=s
 H₀:=H
 env:=envOfC qual scope s.heap.objs.size f cd
 outer:=outer
 stack:=envOfC qual scope s.heap.objs.size f cd::outer
 ex:=[]
 calm:=true
 fn:=λ_=>true
 pn:=[]
 xe:=λe s'=>wpAny (model P w) (A.deeper (envOfC qual scope s.heap.objs.size f cd)) (leaving (envOfC qual scope s.heap.objs.size f cd) e) (λ_ ji=>CX outer H s E e ji) (λe' ji=>CX outer H s E e' ji) s'
theorem qku{sc:Scope}{n x}(h:sc.names.lookup x=some .cell):∃c,(cellsFrom n sc.names []).lookup x=some c:=by
 exact Option.isSome_iff_exists.mp (PySem.W.cellsFrom_some sc.names n [] (.inl h))
theorem qz3{CX P w K mg base N ps qual scope f cd A outer s s1 H E us}{vs}
  (S:FnScope N ps scope) (hd:A.handled=none) (e0:Env0 P w K mg base A outer s H) (hl:vs.length=ps.length) (r:Vals vs us)
  (x:InCallC s s.heap.objs.size (bindL (envOfC qual scope s.heap.objs.size f cd).kindOf (ps.zip us) λ_=>none) (cellsFrom (s.heap.objs.size+1) scope.names []) (bindC (envOfC qual scope s.heap.objs.size f cd).kindOf (ps.zip us) λ_=>none) s1):
  Inv (JW CX P w K mg base N qual scope f cd A outer s H E) [] (start N vs) H s1:=by
 have cg:ps.length<=N.length:=by have:=congrArg List.length S.pre;rw[Yr]at this;lia
 obtain⟨h1,tk,rfl,hk⟩:=x.done;have qh:∀b,b∉(JW CX P w K mg base N qual scope f cd A outer s H E).ex:=λb z=>absurd (show b∈([]:List Addr)from z) (by simp)
 refine⟨⟨e0.mod,S.kind,rfl,rfl,X7 _,λy z c h1 h2=>?_,λy hy=>?_,λy c _ h=>?_,λ_=>hd,Around.frames_deeper e0.frames,.inr ⟨rfl,rfl⟩,λb z=>absurd z (qh b),e0.bs,e0.bsz,λb _ _=>qh b,λb z=>absurd z (qh b),e0.funs,e0.frf⟩,
  rfl,e0.bare,Un.kept hk,⟨_,x.toInCall.ns,λi y v h1 h2 h3=>?_⟩,λy c h=>⟨_,x.cell y c h⟩,e0.hok.fresh (X7 _),λy c h=>?_,λp hp=>absurd (show p∈([]:List _)from hp) (by simp),e0.hok.kept hk,?_⟩
 ·exact name_of_addr x.apart (Z0 h1) (Z0 h2)
 ·rcases hy with hy|hy
  ·exact qku hy
  ·exact absurd rfl (S.nofree _ (Z0 hy))
 ·exact Nat.le_of_lt (x.above y c (Z0 h))
 ·have hi:i<vs.length:=by
   unfold start at h2
   by_cases hi:i<vs.length
   ·exact hi
   ·rw[List.getElem?_append_right (by simpa using hi),List.getElem?_replicate]at h2
    split at h2<;>cases h2
  have ha:vs[i]?=some v:=by
   unfold start at h2;rw[Xw (by simpa using hi),Xi]at h2;cases e:vs[i]? with|none=>rw[e]at h2;cases h2|some a=>rw[e]at h2;cases h2;rfl
  obtain⟨u,hu,rv⟩:=r.get ha;have hp:ps[i]?=some y:=by
   rw[<-S.pre,List.getElem?_take_of_lt ⋯];exact h1
  have ndP:ps.Nodup:=by rw[<-S.pre];exact S.nd.sublist (List.take_sublist _ _)
  refine⟨u,rv,?_⟩;rcases S.par y (Xx hp)with k|k
  ·exact .inl ⟨k,kxk ndP hp hu k⟩
  ·obtain⟨c,e⟩:=qku k;refine .inr ⟨.inl k,c,e,?_⟩;have q:=x.cell y c e;rw[kxm ndP hp hu (by show scope.names.lookup y≠_;rw[k];decide)]at q;exact q
 ·exact e0.hok.fresh (Nat.le_of_lt (x.above y c (Z0 h)))
 ·unfold start;show _=N.length;rw[Xk,X4,Zd];lia
theorem xj4{CX P w K mg base k f name qual params body scope dV kV gq pm ba ct oc}{an od}
  {my N ps sp} (lk:K.lookup f=some ⟨oc,od,.func (PySem.W.fnOf name qual params body scope dV kV gq pm an ba ct),my⟩) (ic:PySem.W.codeIn K ba qual=true) (S:FnScope N ps scope)
  (len:∀vs H Q E,sp vs H Q E->vs.length=ps.length)
  (kl:∀A (outer) (s) (H) (vs) (Q) (E),Room k (A.deeper (envOfC qual scope s.heap.objs.size f ba))->sp vs H Q E ->
   ∃t,PSs (JW CX P w K mg base N qual scope f ba A outer s H E) body t/\t {nx:=λ_ H'=>Q .non H',rt:=Q} (start N vs) H):
  FnOk P w K mg base CX (k+1) f (PySem.W.fnOf name qual params body scope dV kV gq pm an ba ct) ps sp:=by
 refine⟨len,λA outer s H args us vs Q E hr e0 hb r ni=>?_⟩;have KX:=e0.mod.kin.keeps λb o e=>(e0.bs b o e).1
 have uh:∀y∈ps.zip us,scope.names.lookup y.1=some .local\/(scope.names.lookup y.1=some .cell/\((cellsFrom (s.heap.objs.size+1) scope.names []).lookup y.1).isSome=true):=λ⟨n,v⟩ hy=>by
  rcases S.par n (List.of_mem_zip hy).1 with q|q
  ·exact .inl q
  ·exact .inr ⟨q,PySem.W.cellsFrom_some _ _ _ (.inl q)⟩
 refine codeAny_call_function hr.depth (KX _ _ lk) rfl S.co S.gen rfl (PySem.W.codeRec_of KX ic) (hb _ _ _ _ (wpAny_newFunctionEnv_cells S.kind uh λenv he s1 x=>?_));subst he;refine⟨(e0.mod.nolimit.keeps λb o e=>(e0.bs b o e).1).keeps x.toInCall.keep,codeAny_func ?_⟩;obtain⟨t,ht,hq⟩:=kl A outer s H vs Q E (hr.deeper _) ni;have I:Inv (JW CX P w K mg base N qual scope f ba A outer s H E) [] _ H s1:=qz3 S hr.hd e0 (len _ _ _ _ ni) r x;refine wpAny_mono (ht [] s1 _ H _ I hq) (λfl s' hs=>?_) λe s' hs=>hs
 have fin:∀{σ' H' v u},Inv (JW CX P w K mg base N qual scope f ba A outer s H E) [] σ' H' s'->RelV v u->Q v H'->CE outer P w H s Q u s':=
  fun {σ' H' v u} J rv q=>⟨v,H',J.os,J.bare,J.base,J.hok,rv,q⟩
 cases fl with
 |ret u=>
  obtain⟨v,σ',H',J,rv,q⟩:=hs;exact fin J rv q
 |next=>
  obtain⟨σ',H',J,q⟩:=hs;exact fin (v:=V.non) J rfl q
 |brk=>
  obtain⟨_,_,_,q⟩:=hs;exact False.elim q
 |cont=>
  obtain⟨_,_,_,q⟩:=hs;exact False.elim q
section
variable {X:Cx}{x:Str}{p pos:Pos}{e:Expr}{es:List Expr}{t:TA}{id T:String}{r:List V->Hp->VK->Prop}
abbrev tCB(r:List V->Hp->VK->Prop)(t:TA):TE:=fun σ H Q=>t σ H λvs H1=>r vs H1 Q
theorem qk1(hc:CallR X (.builtin id) r)(hg:Gl X x)(hm:X.mg x=none)(hv:bootBuiltins x=some (.builtin id))(ha:PA X (e::es) t)(hn:autoParam (x≠"__name__") ŕ)(fq:autoParam ((x==("__debug__":Str))=false) ŕ)
  (he:autoParam (starEach (e::es) X.env=(false,eval e X.env)::starEach es X.env) Ŕ) (cg:autoParam ((backTo pos (starEach es X.env)).any (·.1)=false) Ŕ):PE X (.Call (.Name x p) (e::es) [] pos) (tCB r t):=by
 intro a7 s σ H Q I h;exact Yx (zq I hg hm hv (PyProof.Rows.callWith_builtin1 (thn (ha pos a7 s σ H _ I h) λus s1 ⟨vs,H1,I1,r1,q1⟩=>hc a7 s1 σ H1 vs us Q I1 r1 q1) he cg) hn fq)
theorem qwx(hc:CallR X (.type T) r)(hg:Gl X x)(hm:X.mg x=none)(hv:bootBuiltins x=some (.type T))(ha:PA X (e::es) t)(hn:autoParam (x≠"__name__") ŕ)(fq:autoParam ((x==("__debug__":Str))=false) ŕ)
  (he:autoParam (starEach (e::es) X.env=(false,eval e X.env)::starEach es X.env) Ŕ) (cg:autoParam ((backTo pos (starEach es X.env)).any (·.1)=false) Ŕ):PE X (.Call (.Name x p) (e::es) [] pos) (tCB r t):=by
 intro a7 s σ H Q I h;exact Yx (zq I hg hm hv (Y1 (thn (ha pos a7 s σ H _ I h) λus s1 ⟨vs,H1,I1,r1,q1⟩=>hc a7 s1 σ H1 vs us Q I1 r1 q1) he cg) hn fq)
end
end L2
namespace HT
open PySem PyProof.Rows
section
variable {prog:Program}{w:World}{A:Around}{E:VP9}{s:Shared}
theorem cat_tup{t b vs ws Q}(ht:IsTup s.heap t vs.toArray)(hb:IsTup s.heap b ws.toArray)(hv:vs≠[])
  (h1:ws=[]->Q (.ref t) s) (h2:ws≠[]->Q (.ref s.heap.objs.size) {s with heap:=s.heap.push {cls:=.type "tuple",data:=.seq (vs++ws).toArray}})
  (hsz:vs.length+ws.length<=sizeLine):wpAny (model prog w) A (binaryOp .Add (.ref t) (.ref b)) Q E s:=by
 obtain⟨⟨cls,dd,data,sl⟩,ho,hc,n,hd⟩:=id ht;obtain⟨⟨cls2,dd2,data2,pk⟩,gm,m4,n2,i8⟩:=id hb;subst hc hd m4 i8;have e:vs.toArray++ws.toArray=(vs++ws).toArray:=by simp
 by_cases hw:ws=[]
 ·exact concat_meets ⟨_,ho,rfl⟩ ⟨_,gm,rfl⟩ noFill_tuple_add seq_tuple_add PySem.F.slot_tuple_add PySem.F.entry_tuple_add (PySem.F.args_tuple_add_2 _ _)
   (tuple_addW1 t b vs.toArray ws.toArray n n2 dd dd2 sl pk (by simpa using hv) (by simp[hw])) ⟨ho,gm,h1 hw⟩
 ·refine concat_meets ⟨_,ho,rfl⟩ ⟨_,gm,rfl⟩ noFill_tuple_add seq_tuple_add PySem.F.slot_tuple_add PySem.F.entry_tuple_add (PySem.F.args_tuple_add_2 _ _)
   (tuple_addW2 t b vs.toArray ws.toArray n n2 dd dd2 sl pk (by simpa using hv) (by simpa using hw) (hsz)) ⟨ho,gm,?_⟩
  rw[e];exact h2 hw
noncomputable def sIx(n d:Nat):Option Int->Nat
 |none=>d|some v=>if v<0 then(v+(n:Int)).toNat else min v.toNat n
theorem vj0 v (n d:Nat):(if v<0 then max (v+(n:Int)) 0 else min v n)=((sIx n d (some v):Nat):Int):=by
 show _=(((if v<0 then(v+n).toNat else min v.toNat n):Nat):Int)
 by_cases hv:v<0
 ·simp only[X9 hv];lia
 ·grind
theorem qv8(lo hi)(n:Nat):Builtin.Slice.sliceAdjust lo hi 1 n=(((sIx n 0 lo:Nat):Int),((sIx n n hi):Int)):=by
 have h1:¬((1:Int)<0):=⋯
 unfold Builtin.Slice.sliceAdjust;refine Prod.ext ?_ ?_
 ·cases lo with|none=>rfl|some v=>exact vj0 v n 0
 ·cases hi with|none=>rfl|some v=>exact vj0 v n n
theorem qqf(i j:Nat):Builtin.Slice.slicePlaces i j 1=j - i:=by
 unfold Builtin.Slice.slicePlaces;have h1:1>0:=⋯
 simp
 split<;>lia
theorem kkr{v o Q}(p:IsPart v o)(h:Q o s):wpAny (model prog w) A (Builtin.Slice.slicePartIndex v) Q E s:=by
 cases p with|none=>exact slicePart_none h|int i t=>exact slicePart_int h
theorem jzn{sl vl vu lo hi n}{Q:Int×Int×Nat->Shared->Prop}(hs:s.heap.IsSliceOf sl vl vu .none)(pl:IsPart vl lo)(pu:IsPart vu hi)
  (h:Q (((sIx n 0 lo:Nat):Int),1,sIx n n hi - sIx n 0 lo) s):wpAny (model prog w) A (Builtin.Slice.sliceApplied (.ref sl) (pure n)) Q E s:=by
 obtain⟨os,jb,jp,bh⟩:=id hs;refine X0 (X0 (Z2 jb bh (x:=vl) rfl (X0 (Z2 jb bh (x:=vu) rfl (X0 (Z2 jb bh (x:=.none) rfl (X2 (X0 (slicePart_none (X0 (kkr pl (X0 (kkr pu (X0 (X2 ?_)))))))))))))));show wpAny _ _ (match Builtin.Slice.sliceAdjust lo hi 1 n with|(lo,hi)=>pure (lo,_,Builtin.Slice.slicePlaces lo hi 1)) _ _ s;rw[qv8 lo hi n];show wpAny _ _ (pure _) _ _ s;rw[qqf];exact X2 h
theorem vkg(xs:Array Value)(i k:Nat):((List.range k).filterMap λ(m:Nat)=>xs[(i+(m:Int)*1).toNat]?).toArray=((xs.toList.drop i).take k).toArray:=by
 have e:(λ(m:Nat)=>xs[(i+(m:Int)*1).toNat]?)=λm=>xs[i+m]?:=by
  funext m;have:(i+(m:Int)*1).toNat=i+m:=⋯
  rw[this]
 rw[e];have:=pick_run xs i k;rw[List.filterMap_map]at this;have e2:(_∘λx=>i+x)=λm=>xs[i+m]?:=rfl
 rw[e2]at this;rw[this]
theorem getItem_tuple_cut{t sl items vl vu lo hi Q}(ht:IsTup s.heap t items)(hs:s.heap.IsSliceOf sl vl vu .none)(pl:IsPart vl lo)(pu:IsPart vu hi)
  (hw:¬(sIx items.size 0 lo=0/\sIx items.size items.size hi=items.size))
  (h:Q (.ref s.heap.objs.size) {s with heap:=s.heap.push {cls:=.type "tuple",data:=.seq ((items.toList.drop (sIx items.size 0 lo)).take (sIx items.size items.size hi - sIx items.size 0 lo)).toArray}})
  (hsz:items.size<=sizeLine):wpAny (model prog w) A (getItem (.ref t) (.ref sl)) Q E s:=by
 have u5:sizeOk (.seq ((items.toList.drop (sIx items.size 0 lo)).take (sIx items.size items.size hi - sIx items.size 0 lo)).toArray):=by
  show((items.toList.drop _).take _).toArray.size<=sizeLine;rw[X8,Yr,Zh,Xd];lia
 obtain⟨os,jb,jp,bh⟩:=id hs;have hTs:s.TypeIs (.ref sl) "slice":=⟨os,jb,jp⟩;unfold getItem
 try with_reducible refine Xu ?_
 refine X0 (wpAny_sequenceKey ht.typeIs ⋯ ?_);refine X0 (Yj ht.typeIs PyProof.Rows.slot_tuple_getitem
  (Xy PyProof.Rows.slot_tuple_getitem ht.typeIs entry_tuple_getitem ?_ (args_tuple_getitem _ _)))
 show wpAny _ _ (Builtin.Tuple.tupleItemsOf _ >>= _) _ _ s;refine X0 (tupleItemsOf_ ht (X0 (wpAny_typeOf hTs (X0 (jzn hs pl pu ?_)))));have ia:¬((((sIx items.size 0 lo:Nat):Int)==0&&(1:Int)==1&&(sIx items.size items.size hi - sIx items.size 0 lo)==items.size)=true):=by
  grind
 show wpAny _ _ (if _=true then _ else _) _ _ s;rw[Xb ia,vkg]
 first
  |exact X0 (Y2 (X0 (X2 (X2 ⟨_,rfl,X2 h⟩))) u5)
end
end HT
namespace L2
open PySem PySem.Spec PyProof.Rows
abbrev TO:=St->Hp->(Option Int->Hp->Prop)->Prop
noncomputable def PO(X:Cx)(e:Option Expr)(t:TO):Prop:=
 ∀(a7:LA9) (s:Shared) (σ:St) (H:Hp) (Q:Option Int->Hp->Prop),Inv X a7 σ H s->t σ H Q ->
  wpAny (model X.prog X.w) X.A (evalPart e X.env) (λu s'=>∃o H',Inv X a7 σ H' s'/\IsPart u o/\Q o H') X.xe s
abbrev qvl:TO:=λ_ H Q=>Q none H
abbrev wjw(t:TE):TO:=fun σ H Q=>t σ H λx H1=>∃i,x=.int i/\Q (some i) H1
section
variable {X:Cx}{e:Expr}{te:TE}{lo hi:Option Expr}{tl th:TO}{pos p2:Pos}
theorem vxf:PO X none qvl:=by
 intro a7 s σ H Q I h;exact X2 ⟨none,H,I,.none,h⟩
theorem vxe(h:PE X e te):PO X (some e) (wjw te):=by
 intro a7 s σ H Q I hw;refine thn (h a7 s σ H _ I hw) λu s1 ⟨x,H1,I1,r1,q1⟩=>?_
 obtain⟨i,rfl,q⟩:=q1;obtain⟨t,rfl⟩:=r1;exact⟨some i,H1,I1,.int i t,q⟩
noncomputable def SlR(X:Cx)(r:V->Option Int->Option Int->Hp->VK->Prop):Prop:=
 ∀(a7:LA9) (s:Shared) (σ:St) (H:Hp) (x:V) (v vl vu:Value) (lo hi:Option Int) (sl:Addr) (Q:VK),Inv X a7 σ H s->RelV x v->s.heap.IsSliceOf sl vl vu .none->IsPart vl lo->IsPart vu hi->r x lo hi H Q ->
  ∃T id,typeLookup (.type T) "__getitem__"=pure (some (.builtin id))/\s.TypeIs v T/\wpAny (model X.prog X.w) X.A (getItem v (.ref sl)) (EP X a7 σ Q) X.xe s
theorem SlR.or{r r'}(h:SlR X r)(h':SlR X r'):SlR X (λx lo hi H Q=>r x lo hi H Q\/r' x lo hi H Q):=by
 intro a7 s σ H x v vl vu lo hi sl Q I rx hs pl pu q;rcases q with q|q
 ·exact h a7 s σ H x v vl vu lo hi sl Q I rx hs pl pu q
 ·exact h' a7 s σ H x v vl vu lo hi sl Q I rx hs pl pu q
abbrev tSl(r:V->Option Int->Option Int->Hp->VK->Prop)(te:TE)(tl th:TO):TE:=fun σ H Q=>te σ H λx H1=>tl σ H1 λl H2=>th σ H2 λu H3=>r x l u H3 Q
theorem vkh{r}(hr:SlR X r)(he:PE X e te)(hl:PO X lo tl)(hu:PO X hi th):PE X (.Subscript e (.Slice lo hi none p2) pos) (tSl r te tl th):=by
 intro a7 s σ H Q I h;refine Subscript_ (thn (he a7 s σ H _ I h) λv s1 ⟨x,H1,I1,r1,q1⟩=>(wpAny_Slice (thn (hl a7 s1 σ H1 _ I1 q1) λvl s2 ⟨l,H2,I2,pl,q2⟩=>thn (hu a7 s2 σ H2 _ I2 q2) λvu s3 ⟨u,H3,I3,pu,q3⟩=>(X2 ?_))));have I4:Inv X a7 σ H3 {s3 with heap:=s3.heap.push {cls:=.type "slice",data:=.fields #[vl,vu,.none]}}:=I3.kept (t':=s3.toks) λb ob q=>X1 _ q
 obtain⟨T,id,hT,ht,hg⟩:=hr a7 {s3 with heap:=s3.heap.push {cls:=.type "slice",data:=.fields #[vl,vu,.none]}} σ H3 x v vl vu l u s3.heap.objs.size Q I4 r1 (Heap.IsSliceOf.new ..) pl pu q3;exact tail_any ht hT hg (by ac_rfl)
noncomputable def WY(xs:List V)(lo hi:Option Int):List V:=(xs.drop (HT.sIx xs.length 0 lo)).take (HT.sIx xs.length xs.length hi - HT.sIx xs.length 0 lo)
theorem kk9 xs (lo hi):(WY xs lo hi).length<=xs.length:=by
 unfold WY;rw[Yr,Zh];lia
noncomputable def xjt(K:Frag):V->Option Int->Option Int->Hp->VK->Prop:=λx lo hi H Q=>∃a xs,x=.ref a/\SqT K H a xs /\
 ¬(HT.sIx xs.length 0 lo=0/\HT.sIx xs.length xs.length hi=xs.length)/\∀p,H p=none->Q (.ref p) (upd H p (.tup (WY xs lo hi)))
theorem sl_tup:SlR X (xjt X.K):=by
 rintro a7 s σ H x v vl vu lo hi sl Q I rx hs pl pu ⟨a,xs,rfl,hx,hw,q⟩;cases rx;obtain⟨a9,r,ht,hz⟩:=I.tuple hx;have ah:a9.toArray.size=xs.length:=r.length.symm;refine⟨"tuple",_,PyProof.Rows.slot_tuple_getitem.lookup,ht.typeIs,(HT.getItem_tuple_cut ht hs pl pu (ah▸hw) ?_ (ah▸hz))⟩;rw[ah];refine⟨.ref s.heap.objs.size,_,I.laid (t':=s.toks) (λb ob q=>X1 _ q) (X7 _) ?_,rfl,q _ (I.hok.fresh (X7 _))⟩;exact⟨Ye (kk9 xs lo hi) hz,_,(r.drop _).take _,IsTupD.new _ _⟩
noncomputable def wkm(K:Frag):R2:=λx y H Q=>∃a b xs ys,x=.ref a/\y=.ref b/\SqT K H a xs/\SqT K H b ys/\xs≠[]/\xs.length+ys.length<=sizeLine /\
 (ys=[]->Q (.ref a) H)/\(ys≠[]->∀p,H p=none->Q (.ref p) (upd H p (.tup (xs++ys))))
theorem Vals.nil_iff{xs us}(r:Vals xs us):us=[]↔xs=[]:=by
 cases r with|nil=>simp|cons _ _=>simp
theorem vxt:OpR X (binaryOp .Add) (wkm X.K):=by
 rintro a7 s σ H x y v u Q I rx ry ⟨a,b,xs,ys,rfl,rfl,ha,hb,hx,hz,q1,q2⟩;cases rx;cases ry;obtain⟨a9,r1,p1,_⟩:=I.tuple ha;obtain⟨en,r2,p2,_⟩:=I.tuple hb;refine HT.cat_tup p1 p2 (λz=>hx (r1.nil_iff.mp z)) (λz=>⟨.ref a,H,I,rfl,q1 (r2.nil_iff.mp z)⟩) (λz=>(⟨.ref s.heap.objs.size,_,I.laid (t':=s.toks) (λb ob q=>X1 _ q) (X7 _) ?_,rfl,q2 (λw=>z (r2.nil_iff.mpr w)) _ (I.hok.fresh (X7 _))⟩)) (by rw[<-r1.length,<-r2.length];exact hz);exact⟨by rw[Xk];exact hz,_,r1.append r2,IsTupD.new _ _⟩
end
noncomputable def ixN(n:Nat)(i:Int):Option Nat:=if 0<=i then(if i<n then some i.toNat else none)else if -(n:Int)<=i then some (i+n).toNat else none
noncomputable def atI{α:Type}(xs:List α)(i:Int):Option α:=(ixN xs.length i).bind λj=>xs[j]?
theorem kzn{n i j}(h:ixN n i=some j):seqIndex? i n=some j/\j<n/\-n<=i/\i<n:=by
 unfold ixN at h
 by_cases h0:0<=i
 ·rw[X9 h0]at h
  by_cases h1:i<n
  ·rw[X9 h1]at h;exact⟨by rw[seqIndex_of h0 h1,(oq9 h)],⋯,⋯,h1⟩
  ·rw[Xb h1]at h;cases h
 ·rw[Xb h0]at h
  by_cases h1:-n<=i
  ·rw[X9 h1]at h;exact⟨by rw[seqIndex_neg ⋯ h1,(oq9 h)],⋯,h1,⋯⟩
  ·rw[Xb h1]at h;cases h
theorem qj2{α xs i}{v:α}(h:atI xs i=some v):∃j,seqIndex? i xs.length=some j/\xs[j]?=some v/\j<xs.length/\-(xs.length:Int)<=i/\i<xs.length:=by
 unfold atI at h;cases e:ixN xs.length i with
 |none=>rw[e]at h;cases h
 |some j=>
  rw[e]at h;obtain⟨h1,h2,h3,h4⟩:=kzn e;exact⟨j,h1,h,h2,h3,h4⟩
noncomputable def qj5(b:Expr):Prop:=∀o i,subscripted b false o i=operate [o,i] (getItem o i)
noncomputable def IxR(X:Cx)(r:R2):Prop:=
 ∀(bt slice:Expr) (a7:LA9) (s:Shared) (σ:St) (H:Hp) (x y:V) (v u:Value) (Q:VK),Inv X a7 σ H s->RelV x v->RelV y u->r x y H Q ->
  subscripted slice false v u=operate [v,u] (getItem v u)->wpAny (model X.prog X.w) X.A (subscriptTail bt slice v u) (EP X a7 σ Q) X.xe s
noncomputable def MtR(X:Cx)(id:String)(r:V->List V->Hp->VK->Prop):Prop:=
 ∀(a7:LA9) (s:Shared) (σ:St) (H:Hp) (x:V) (xs:List V) (v:Value) (us:List Value) (Q:VK),Inv X a7 σ H s->RelV x v->Vals xs us->r x xs H Q ->
  wpAny (model X.prog X.w) X.A (call (.builtin id) (v::us)) (EP X a7 σ Q) X.xe s
section
variable {X:Cx}{a b:Expr}{ta tb:TE}{pos:Pos}
theorem IxR.or{r r'}(h:IxR X r)(h':IxR X r'):IxR X (λx y H Q=>r x y H Q\/r' x y H Q):=by
 intro bt slice a7 s σ H x y v u Q I rx ry q hs;rcases q with q|q
 ·exact h bt slice a7 s σ H x y v u Q I rx ry q hs
 ·exact h' bt slice a7 s σ H x y v u Q I rx ry q hs
theorem wzg{r}(hr:IxR X r)(ha:PE X a ta)(hb:PE X b tb)(hs:qj5 b):PE X (.Subscript a b pos) (tOp r ta tb):=by
 intro a7 s σ H Q I h;exact Subscript_ (xji ha hb I h λv u s2 x y H2 I2 rx ry q=>hr a b a7 s2 σ H2 x y v u Q I2 rx ry q (hs _ _))
noncomputable def xjz(K:Frag):R2:=λx y H Q=>∃p xs i v,x=.ref p/\y=.int i/\SqL K H p xs/\atI xs i=some v/\Q v H
noncomputable def xjx(K:Frag):R2:=λx y H Q=>∃p xs i v,x=.ref p/\y=.int i/\SqT K H p xs/\atI xs i=some v/\Q v H
noncomputable def xjy:R2:=λx y H Q=>∃z i c,x=.str z/\y=.int i/\z.length<=sizeLine/\atI z.cps.toList i=some c/\Q (.str ⟨#[c]⟩) H
theorem ix_list:IxR X (xjz X.K):=by
 intro bt slice a7 s σ H x y v u Q I rx ry h hs;obtain⟨p,xs,i,z,rfl,rfl,hq,he,q⟩:=h;cases rx;obtain⟨t,rfl⟩:=ry;obtain⟨a9,r,pl,hz⟩:=I.list hq;obtain⟨j,h1,h2,h3,h4,h5⟩:=qj2 he;obtain⟨w,ew,ik⟩:=r.get h2;have hl:=r.length;have hn:=Vk;have fin:EP X a7 σ Q w s:=⟨z,H,I,ik,q⟩
 by_cases h0:0<=i
 ·have hj:i.toNat=j:=by
   rw[seqIndex_of h0 h5]at h1;exact oq9 h1
  exact item_listR pl.isList h0 ⋯ (by rw[hj];simpa using ew) fin hs
 ·have hj:(i+(a9.toArray.size:Int)).toNat=j:=by
   rw[seqIndex_neg ⋯ h4]at h1;rw[X8,<-hl];exact oq9 h1
  exact subscriptTail_builtinR pl.isList.typeIs slot_list_getitem.lookup
   (wpAny_getItem_list_neg pl.isList ⋯ (by rw[X8]<;>lia) ⋯ (by rw[hj];simpa using ew) ⟨rfl,fin⟩) hs
theorem ix_tup:IxR X (xjx X.K):=by
 intro bt slice a7 s σ H x y v u Q I rx ry h hs;obtain⟨p,xs,i,z,rfl,rfl,hq,he,q⟩:=h;cases rx;obtain⟨t,rfl⟩:=ry;obtain⟨a9,r,pl,hz⟩:=I.tuple hq;obtain⟨j,h1,h2,h3,h4,h5⟩:=qj2 he;obtain⟨w,ew,ik⟩:=r.get h2;have hn:=Vk;have fin:EP X a7 σ Q w s:=⟨z,H,I,ik,q⟩;exact subscriptTail_builtinR pl.typeIs slot_tuple_getitem.lookup
  (getItem_tuple pl ⋯ ⋯ (by rw[X8,<-r.length];exact h1) (by simpa using ew) ⟨rfl,fin⟩) hs
theorem qkg:IxR X xjy:=by
 intro bt slice a7 s σ H x y v u Q I rx ry h hs;obtain⟨z,i,c,rfl,rfl,hz,he,q⟩:=h;obtain⟨t,rfl⟩:=rx;obtain⟨t',rfl⟩:=ry;obtain⟨j,h1,h2,h3,h4,h5⟩:=qj2 he;have hl:z.cps.toList.length=z.length:=by simp[Str.length]
 rw[hl]at h1 h4 h5;have hn:=Vk;exact tail_any (typeIs_str s z t) slot_str_getitem.lookup (getItem_str (c:=c) (by
  have e1:decide (i < -(2 ^ 63:Int))=false:=Xh ⋯;have e2:decide (i>=2 ^ 63)=false:=Xh ⋯;rw[e1,e2,Bool.or_false]) (by rw[h1];simpa using h2) ⟨.str ⟨#[c]⟩,H,I.tok _,⟨_,rfl⟩,q⟩) hs
noncomputable def rIx(K:Frag):R2:=λx y H Q=>xjz K x y H Q\/xjx K x y H Q\/xjy x y H Q
theorem wvs:IxR X (rIx X.K):=ix_list.or (ix_tup.or qkg)
theorem qqr(a9:List Value)(n j) u:Obj.mapSeq (·.setIfInBounds j u) {cls:=.type "list",data:=.seq a9.toArray n}={cls:=.type "list",data:=.seq (a9.set j u).toArray n}:=by
 simp[Obj.mapSeq]
theorem Inv.lst{a7}{σ:St}{H s p xs}(I:Inv X a7 σ H s)(h:H p=some (.lst xs)):
  ∃(a9:List Value) (n:Nat),Vals xs a9/\s.heap.get? p=some {cls:=.type "list",data:=.seq a9.toArray n}/\xs.length<=sizeLine:=by
 obtain⟨z,a9,n,r,e⟩:=I.hok p _ h;exact⟨a9,n,r,e,z⟩
theorem Inv.lstUpd{a7}{σ:St}{H s p xs ys}{a9 its':List Value}{n n' f}(I:Inv X a7 σ H s)(h:H p=some (.lst xs))
  (ho:s.heap.get? p=some {cls:=.type "list",data:=.seq a9.toArray n}) (hf:f {cls:=.type "list",data:=.seq a9.toArray n}={cls:=.type "list",data:=.seq its'.toArray n' }) (r:Vals ys its') (hz:ys.length<=sizeLine) t :
  Inv X a7 σ (upd H p (.lst ys)) {s with heap:=s.heap.update p f,toks:=t}:=by
 have e:(s.heap.update p f).get? p=some {cls:=.type "list",data:=.seq its'.toArray n' }:=by
  rw[Xz f ho (by rw[hf]<;>rfl),hf]
 refine I.write (by rw[h];trivial) (.inl rfl) (λb u hb q=>(Yk _ _ (Ne.symm hb)).trans q) ⟨_,e⟩ ?_;exact⟨hz,its',n',r,e⟩
noncomputable def wxv:V->V->V->Hp->(Hp->Prop)->Prop:=λo i v H Q=>∃p xs k j,o=.ref p/\i=.int k/\H p=some (.lst xs)/\ixN xs.length k=some j/\Q (upd H p (.lst (xs.set j v)))
theorem vk3:xki X wxv:=by
 rintro a7 s σ H o i v ov iv u Q I ro ri rv ⟨p,xs,k,j,rfl,rfl,hp,hj,q⟩;cases ro;obtain⟨t,rfl⟩:=ri;obtain⟨a9,n,r,ho,hz⟩:=I.lst hp;obtain⟨h1,h2,h3,h4⟩:=kzn hj;have hl:=r.length;have hn:=Vk;have I':Inv X a7 σ _ {s with heap:=s.heap.update p _}:=
  I.lstUpd hp ho (qqr a9 n j u) (r.set rv j) (by rw[List.length_set];exact hz) s.toks
 by_cases h0:0<=k
 ·have hk:k.toNat=j:=by
   rw[seqIndex_of h0 h4]at h1;exact oq9 h1
  exact PySem.W.ki_setAt ho h0 ⋯ (by rw[X8,<-hl];exact h4) (hk▸⟨_,I',q⟩)
 ·have hk:(k+(a9.toArray.size:Int)).toNat=j:=by
   rw[seqIndex_neg ⋯ h3]at h1;rw[X8,<-hl];exact oq9 h1
  exact PySem.W.ki_setBack ho ⋯ (by rw[X8,<-hl];exact h3) ⋯ (hk▸⟨_,I',q⟩)
theorem kw3(lo hi) n:(sliceBounds lo hi none n).1=((HT.sIx n 0 lo:Nat):Int)/\(sliceBounds lo hi none n).2.1=((HT.sIx n n hi:Nat):Int)/\(sliceBounds lo hi none n).2.2=1:=by
 refine⟨?_,?_,rfl⟩
 ·cases lo with
  |none=>simp[sliceBounds,HT.sIx]
  |some i=>
   simp only[sliceBounds,HT.sIx,Option.getD_none,show(1:Int)>0 by decide,if_true]
   by_cases h:i<0
   ·simp only[h,if_true]<;>lia
   ·simp only[h,if_false]<;>lia
 ·cases hi with
  |none=>simp[sliceBounds,HT.sIx]
  |some i=>
   simp only[sliceBounds,HT.sIx,Option.getD_none,show(1:Int)>0 by decide,if_true]
   by_cases h:i<0
   ·simp only[h,if_true]<;>lia
   ·simp only[h,if_false]<;>lia
theorem kqm(a9:List Value)(lo hi):slicePick a9.toArray lo hi none=((a9.drop (HT.sIx a9.length 0 lo)).take (HT.sIx a9.length a9.length hi - HT.sIx a9.length 0 lo)).toArray:=by
 obtain⟨h1,h2,h3⟩:=kw3 lo hi a9.toArray.size;unfold slicePick;rw[h1,h2,h3];simp only[sliceRange_one,pick_run]<;>rfl
noncomputable def xjv(K:Frag):V->Option Int->Option Int->Hp->VK->Prop:=λx lo hi H Q=>∃a xs,x=.ref a/\SqL K H a xs/\∀p,H p=none->Q (.ref p) (upd H p (.lst (WY xs lo hi)))
theorem sl_list:SlR X (xjv X.K):=by
 rintro a7 s σ H x v vl vu lo hi sl Q I rx hs pl pu ⟨a,xs,rfl,hx,q⟩;cases rx;obtain⟨a9,r,ht,hz⟩:=I.list hx;have ah:=r.length;refine⟨"list",_,slot_list_getitem.lookup,ht.isList.typeIs,(wpAny_getItem_list_slice ht.isList hs pl pu .none (by simp) ?_ (by simp_all))⟩;rw[kqm,<-ah];refine⟨.ref s.heap.objs.size,_,I.laid (t':=s.toks) (λb ob q=>X1 _ q) (X7 _) ?_,rfl,q _ (I.hok.fresh (X7 _))⟩;exact⟨Ye (kk9 xs lo hi) hz,_,0,(r.drop _).take _,X6 _ rfl⟩
theorem kwf:OpR X (compareOp .NotIn) (λx y H Q=>∃i j,x=.str i/\y=.str j/\Q (.bl (!(!(Builtin.Str.occurrences j i 0 j.length 1).isEmpty))) H):=by
 rintro a7 s σ H x y v u Q I rx ry ⟨i,j,rfl,rfl,q⟩;obtain⟨t,rfl⟩:=rx;obtain⟨t',rfl⟩:=ry;exact notIn_str ⟨.bl _,H,I,rfl,q⟩
theorem call_len_seq:CallR X (.builtin "len") (λxs H Q=>∃p ys,xs=[.ref p]/\(SqL X.K H p ys\/SqT X.K H p ys)/\Q (.int ys.length) H):=by
 rintro a7 s σ H xs us Q I r ⟨p,ys,rfl,hq,q⟩;obtain⟨u,rfl,rx⟩:=x4 r;cases rx;have hn:=Vk;rcases hq with hq|hq
 ·obtain⟨a9,r',pl,hz⟩:=I.list hq;have ah:=r'.length;exact Calls.call_len_list pl.isList (by simp only[X8]<;>lia) ⟨.int ys.length,H,I.tok _,⟨s.toks+1,by rw[X8,ah]⟩,q⟩
 ·obtain⟨a9,r',pl,hz⟩:=I.tuple hq;have ah:=r'.length;exact len_tuple pl (by simp only[X8]<;>lia) ⟨.int ys.length,H,I.tok _,⟨s.toks+1,by rw[X8,ah]⟩,q⟩
theorem call_len_str:CallR X (.builtin "len") (λxs H Q=>∃z,xs=[.str z]/\z.length<=sizeLine/\Q (.int z.length) H):=by
 rintro a7 s σ H xs us Q I r ⟨z,rfl,hz,q⟩;obtain⟨u,rfl,t,rfl⟩:=x4 r;have hn:=Vk;exact len_str ⋯ ⟨.int z.length,H,I.tok _,⟨_,rfl⟩,q⟩
theorem CallR.or{f r r'}(h:CallR X f r)(h':CallR X f r'):CallR X f (λxs H Q=>r xs H Q\/r' xs H Q):=by
 intro a7 s σ H xs us Q I rs q;rcases q with q|q
 ·exact h a7 s σ H xs us Q I rs q
 ·exact h' a7 s σ H xs us Q I rs q
theorem kxf:CallR X (.type "list") (λxs H Q=>∃p ys,xs=[.ref p]/\(SqL X.K H p ys\/SqT X.K H p ys)/\∀l,H l=none->Q (.ref l) (upd H l (.lst ys))):=by
 rintro a7 s σ H xs us Q I r ⟨p,ys,rfl,hq,q⟩;obtain⟨u,rfl,rx⟩:=x4 r;cases rx;have fin:∀a9,Vals ys a9->ys.length<=sizeLine->∀h' (c'),_ ->
   h'.get? s.heap.objs.size=some {cls:=.type "list",dict:=none,data:=.seq a9.toArray c',slots:=#[]}->EP X a7 σ Q _ {s with heap:=h' }:=λa9 r' hz h' c' kp e=>
  ⟨.ref s.heap.objs.size,_,I.laid (t':=s.toks) kp (X7 _) (show ObjOk X.prog X.w _ h' _ (.lst ys)from⟨hz,a9,c',r',e⟩),rfl,q _ (I.hok.fresh (X7 _))⟩
 rcases hq with hq|hq
 ·obtain⟨a9,r',pl,hz⟩:=I.list hq;have ah:=r'.length;obtain⟨o,ho,hc,n,hd⟩:=pl.isList;exact call_list_seq p (.inl rfl) ho hc hd (λh' c' kp e=>fin a9 r' hz h' c' kp e) (by simp only[X8]<;>lia)
 ·obtain⟨a9,r',pl,hz⟩:=I.tuple hq;have ah:=r'.length;obtain⟨o,ho,hc,n,hd⟩:=pl;exact call_list_seq p (.inr rfl) ho hc hd (λh' c' kp e=>fin a9 r' hz h' c' kp e) (by simp only[X8]<;>lia)
theorem kvj:CallR X (.type "tuple") (λxs H Q=>∃p ys,xs=[.ref p]/\((SqL X.K H p ys/\∀l,H l=none->Q (.ref l) (upd H l (.tup ys)))\/(SqT X.K H p ys/\Q (.ref p) H))):=by
 rintro a7 s σ H xs us Q I r ⟨p,ys,rfl,h⟩;obtain⟨u,rfl,rx⟩:=x4 r;cases rx;rcases h with⟨hq,q⟩|⟨hq,q⟩
 ·obtain⟨a9,r',pl,hz⟩:=I.list hq;have ah:=r'.length;refine call_tuple_list pl.isList (λh' kp=>?_) (by simp_all);have I1:Inv X a7 σ H {s with heap:=h' }:=I.kept (t':=s.toks) kp;have I2:Inv X a7 σ _ {s with heap:=h'.push {cls:=.type "tuple",data:=.seq a9.toArray}}:=
   I1.laid (t':=s.toks) (λb o e=>X1 _ e) (X7 _) (show ObjOk X.prog X.w _ _ _ (.tup ys)from⟨hz,a9,r',IsTupD.new _ _⟩)
  exact⟨.ref h'.objs.size,_,I2,rfl,q _ (I1.hok.fresh (X7 _))⟩
 ·obtain⟨a9,r',pl,hz⟩:=I.tuple hq;exact call_tuple_same pl ⟨.ref p,H,I,rfl,q⟩
noncomputable def tyV(K : Frag)(T : String)(x : V)(H : Hp): Prop:= match x with
  |.str _=>T = "str"|.int _=>T = "int"
  |.ref p=>(T = "list" /\ ∃xs,SqL K H p xs) \/ (T = "tuple" /\ ∃o,K.lookup p = some o /\ o.cls = .type "tuple" /\ o.dict = none) \/
      (T = "dict" /\ ((∃ab,H p = some (.dK ab)) \/ ∃ab,H p = some (.dT ab))) \/ (T = "set" /\ ∃S n,H p = some (.set S n))
  |_=>False
theorem vv3{a7}{σ:St}{H s T x v}(I:Inv X a7 σ H s)(r:RelV x v)(ty:tyV X.K T x H):
  s.TypeIs v T/\∀a,v=.ref a->∃ob,s.heap.get? a=some ob/\ob.dict=none:=by
 cases x with
 | str z=>
  obtain⟨t,rfl⟩:=r;cases(ty);exact⟨typeIs_str s z t,λ_ e=>nomatch e⟩
 | int i=>
  obtain⟨t,rfl⟩:=r;cases(ty);exact⟨typeIs_int s i t,λ_ e=>nomatch e⟩
 | ref p=>
  cases r;rcases ty with⟨rfl,xs,hq⟩|⟨rfl,o,hk,hc,hd⟩|⟨rfl,hk⟩|⟨rfl,S,n,hk⟩
  ·obtain⟨a9,_,pl,_⟩:=I.list hq;refine⟨pl.isList.typeIs,λa e=>?_⟩;cases e;obtain⟨o,n,e,c,hd,_⟩:=pl;exact⟨o,e,hd⟩
  ·refine⟨⟨o,I.kIn p o hk,hc⟩,λa e=>?_⟩;cases e;exact⟨o,I.kIn _ o hk,hd⟩
  ·have z:∃o,s.heap.get? p=some o/\o.ExactDict:=by
    rcases hk with⟨ab,hk⟩|⟨ab,hk⟩
    ·obtain⟨_,_,_,_,o,_,_,e,ex,_⟩:=I.hok p _ hk;exact⟨o,e,ex⟩
    ·obtain⟨_,_,_,_,o,_,_,e,ex,_⟩:=I.hok p _ hk;exact⟨o,e,ex⟩
   obtain⟨o,e,ex⟩:=z;refine⟨⟨o,e,ex.1⟩,λa e2=>?_⟩;cases e2;exact⟨o,e,ex.2.1⟩
  ·obtain⟨o,_,_,_,e,ex,_⟩:=I.hok p _ hk;refine⟨⟨o,e,ex.1⟩,λa e2=>?_⟩;cases e2;exact⟨o,e,ex.2.1⟩
 |_=>exact False.elim ty
abbrev xjr(K:Frag)(T:String)(r:V->List V->Hp->VK->Prop)(to:TE):TE:=fun σ H Q=>to σ H λx H1=>tyV K T x H1/\r x [] H1 Q
abbrev tBM(K:Frag)(T:String)(r:V->List V->Hp->VK->Prop)(to:TE)(t:TA):TE:=fun σ H Q=>to σ H λx H1=>tyV K T x H1/\t σ H1 λxs H2=>r x xs H2 Q
variable {o e:Expr}{es:List Expr}{to:TE}{t:TA}{name:Str}{apos ae:Pos}{T id:String}{r:V->List V->Hp->VK->Prop}
theorem wqs(pa:PlainAttrs T)(slot:Slot T name id)(mn:typeOf (.builtin id)=pure (.type "method_descriptor"))(hm:MtR X id r)(ho:PE X o to)
  (be:autoParam (attributeBase o name X.env (eval o X.env)=eval o X.env) Ŕ) (bf:autoParam ((apos.endLine==ae.line)=true) Ŕ):PE X (.Call (.Attribute o name apos) [] [] ae) (xjr X.K T r to):=by
 intro a7 s σ H Q I h;refine wpAny_Call_method0_late be bf (thn (ho a7 s σ H _ I h) λv s1 ⟨x,H1,I1,r1,ty,q1⟩=>?_);obtain⟨h1,h2⟩:=vv3 I1 r1 ty;exact⟨T,id,pa,slot,mn,h1,h2,Z7 rfl (PySem.evalArgs_none (hm a7 s1 σ H1 x [] v [] Q I1 r1 .nil q1))⟩
theorem wqt(pa:PlainAttrs T)(slot:Slot T name id)(mn:typeOf (.builtin id)=pure (.type "method_descriptor"))(hm:MtR X id r)(ho:PE X o to)(ha:PA X (e::es) t)
  (be:autoParam (attributeBase o name X.env (eval o X.env)=eval o X.env) Ŕ)
  (dq:autoParam (((backTo ae (starEach (e::es) X.env)).all (λx=>!x.1)&&(backToKw ae (keywordEach [] X.env)).all (λx=>x.1.isSome)
   && decide ((e::es).length+([]:List Keyword).length+(if([]:List Keyword).isEmpty then 0 else 1)<30))=true) Ŕ)
  (bf:autoParam ((apos.endLine==ae.line)=true) Ŕ) (hs:autoParam (starEach (e::es) X.env=(false,eval e X.env)::starEach es X.env) Ŕ) (bg:autoParam ((backTo ae (starEach es X.env)).any (·.1)=false) Ŕ):
  PE X (.Call (.Attribute o name apos) (e::es) [] ae) (tBM X.K T r to t):=by
 intro a7 s σ H Q I h;refine wpAny_Call_method_late be dq bf rfl (thn (ho a7 s σ H _ I h) λv s1 ⟨x,H1,I1,r1,ty,q1⟩=>?_);obtain⟨h1,h2⟩:=vv3 I1 r1 ty;refine⟨T,id,pa,slot,mn,h1,h2,?_⟩;have hA:=ha ae a7 s1 σ H1 _ I1 q1;rw[hs]at hA ⊢;exact Z7 (by show(false||(backTo ae _).any _)=false;rw[bg]<;>rfl) (Calls.evalArgs_plain (thn hA λus s2 ⟨vs,H2,I2,r2,q2⟩=>hm a7 s2 σ H2 x vs v us Q I2 r1 r2 q2))
end
noncomputable def MtM(X:Cx)(id:String)(r:V->List V->Hp->VK->Prop):Prop:=
 ∀(a7:LA9) (s:Shared) (σ:St) (H:Hp) (x:V) (xs:List V) (v:Value) (us:List Value) (Q:VK),Inv X a7 σ H s->RelV x v->Vals xs us->r x xs H Q ->
  wpAny (model X.prog X.w) X.A (call (.builtin id) (v::us)) (EP X a7 σ Q) X.xe s
theorem Vals.one:∀{x us},Vals [x] us->∃u,us=[u]/\RelV x u
 |_,_,.cons r .nil=>⟨_,rfl,r⟩
theorem Vals.zero:∀{us},Vals [] us->us=[]
 |_,.nil=>rfl
theorem Vals.eraseIdx:∀{xs us} (i),Vals xs us->Vals (xs.eraseIdx i) (us.eraseIdx i)
 |_,_,_,.nil=>.nil|_,_,0,.cons _ t=>t|_,_,i+1,.cons r t=>.cons r (Vals.eraseIdx i t)
theorem Vals.reverse{xs us}(h:Vals xs us):Vals xs.reverse us.reverse:=by
 induction h with|nil=>exact .nil|cons r t ih=>rw[List.reverse_cons,List.reverse_cons];exact Vals.append ih (.cons r .nil)
theorem Vals.rep{xs us}(h:Vals xs us):∀k,Vals (List.replicate k xs).flatten (List.replicate k us).flatten
 |0=>.nil
 |k+1=>by
  exact Vals.append h (Vals.rep h k)
theorem kwl{α:Type}:∀(l:List α) (i),(l.eraseIdx i).length<=l.length
 |[],_=>X7 _|_::_,0=>Z8 _|_::r,i+1=>Nat.succ_le_succ (kwl r i)
theorem kk3(a9):∀k (af:List Value),
  List.foldl (λx1 x2=>x1++x2) af.toArray (List.replicate k a9.toArray)=(af++(List.replicate k a9).flatten).toArray
 | 0,af=>by simp
 | k+1,af=>by
  have e:af.toArray++a9.toArray=(af++a9).toArray:=by simp
  have e2:(af++a9)++(List.replicate k a9).flatten=af++(List.replicate (k+1) a9).flatten:=by
   rw[List.replicate_succ,List.flatten_cons,Y0]
  rw[<-e2,<-kk3 a9 k _,<-e,List.replicate_succ,Z4]
section
variable {X:Cx}{a7:LA9}{σ:St}{H:Hp}{s:Shared}{l b:Addr}{xs ys zs:List V}
theorem Inv.lset{a9 its':List Value}{n f t'}(I:Inv X a7 σ H s)(hH:H l=some (.lst xs))
  (e:s.heap.get? l=some {cls:=.type "list",data:=.seq a9.toArray n}) (hf:f a9.toArray=its'.toArray) (hv:Vals ys its') (hz:ys.length<=sizeLine):
  Inv X a7 σ (upd H l (.lst ys)) {s with heap:=s.heap.update l (Obj.mapSeq f),toks:=t' }:=by
 have q:=PySem.IsL.update e f;rw[hf]at q;refine I.write (hH▸trivial) (.inl rfl) (λb' u hb hu=>(Yk s.heap _ (Ne.symm hb)).trans hu) ⟨_,q⟩ ?_;exact⟨hz,its',_,hv,q⟩
theorem Inv.lnew{a9 t'}(I:Inv X a7 σ H s)(hv:Vals ys a9)(hz:ys.length<=sizeLine):
  Inv X a7 σ (upd H s.heap.objs.size (.lst ys)) {s with heap:=s.heap.push {cls:=.type "list",data:=.seq a9.toArray},toks:=t' }:=
 I.laid (λ_ _ q=>X1 _ q) (X7 _) ⟨hz,a9,0,hv,X6 _ rfl⟩
theorem Inv.fresh(I:Inv X a7 σ H s):H s.heap.objs.size=none:=I.hok.fresh (X7 _)
theorem Inv.lstM(I:Inv X a7 σ H s)(hH:H l=some (.lst xs)):xs.length<=sizeLine/\∃(a9:List Value) (n:Nat),Vals xs a9/\xs.length=a9.length/\s.heap.get? l=some {cls:=.type "list",data:=.seq a9.toArray n}:=by
 obtain⟨z,a9,n,r,e⟩:=I.hok l _ hH;exact⟨z,a9,n,r,r.length,e⟩
theorem vkt{n}(h:n<=sizeLine):Builtin.List.listTooLong n=false:=by
 unfold Builtin.List.listTooLong
 simp_all
end
section
variable {X:Cx}
noncomputable def qwc:V->List V->Hp->VK->Prop:=λx vs H Q=>∃l xs y,x=.ref l/\vs=[y]/\H l=some (.lst xs)/\xs.length<sizeLine/\Q .non (upd H l (.lst (xs++[y])))
theorem qx8:MtM X "list.append" qwc:=by
 rintro a7 s σ H x vs v us Q I rx rv ⟨l,xs,y,rfl,rfl,hH,hz,q⟩;cases rx;obtain⟨u,rfl,ru⟩:=rv.one;obtain⟨z,a9,n,r,hl,e⟩:=I.lstM hH;refine call_meets F.slot_list_append ⟨_,e,rfl⟩ F.entry_list_append (F.args_list_append_2 _ _) (PySem.list_append l a9.toArray n u (by simp_all)) ⟨e,(⟨.non,_,I.lset (its':=a9++[u]) hH e (by simp) (r.append (.cons ru .nil)) ?_,rfl,q⟩)⟩;rw[Xk,Z3];lia
noncomputable def vv8:V->List V->Hp->VK->Prop:=λx vs H Q=>∃l xs i k y,x=.ref l/\vs=[.int i]/\H l=some (.lst xs)/\-(2 ^ 63)<=i/\i<2 ^ 63/\seqIndex? i xs.length=some k/\xs[k]?=some y/\Q y (upd H l (.lst (xs.eraseIdx k)))
theorem qk6:MtM X "list.pop" vv8:=by
 rintro a7 s σ H x vs v us Q I rx rv ⟨l,xs,i,k,y,rfl,rfl,hH,h1,h2,hk,hy,q⟩;cases rx;obtain⟨u,rfl,ru⟩:=rv.one;obtain⟨t,rfl⟩:=ru;obtain⟨z,a9,n,r,hl,e⟩:=I.lstM hH;obtain⟨w,hw,ik⟩:=r.get hy;refine call_meets F.slot_list_pop ⟨_,e,rfl⟩ F.entry_list_pop (F.args_list_pop_2 _ _)
  (MeetsSeq.list_pop_at l a9.toArray n i t k w (fitsIndex_both h1 h2) (by rw[X8,<-hl];exact hk) (Xp▸hw) (by rw[X8];lia)) ⟨e,?_⟩
 refine⟨y,_,I.lset (its':=a9.eraseIdx k) hH e ?_ (r.eraseIdx k) ?_,ik,q⟩
 ·show a9.toArray.eraseIdxIfInBounds k=(a9.eraseIdx k).toArray;rw[List.eraseIdxIfInBounds_toArray]
 ·have:=kwl xs k;lia
noncomputable def qjp:V->List V->Hp->VK->Prop:=λx vs H Q=>∃l xs,x=.ref l/\vs=[]/\H l=some (.lst xs)/\Q .non (upd H l (.lst xs.reverse))
theorem qqq:MtM X "list.reverse" qjp:=by
 rintro a7 s σ H x vs v us Q I rx rv ⟨l,xs,rfl,rfl,hH,q⟩;cases rx;have hus:=rv.zero;subst hus;obtain⟨z,a9,n,r,hl,e⟩:=I.lstM hH;refine call_meets F.slot_list_reverse ⟨_,e,rfl⟩ F.entry_list_reverse (F.args_list_reverse_1 _) (AutoSeq1.list_reverse_list_0 l a9.toArray n (by rw[X8];lia)) ⟨e,(⟨.non,_,I.lset (its':=a9.reverse) hH e (by simp) r.reverse ?_,rfl,q⟩)⟩;rw[List.length_reverse];lia
theorem qxo{α:Type}(xs:List α) k:(List.replicate k xs).flatten.length=k*xs.length:=by
 induction k with|zero=>simp|succ k ih=>simp_all
end
end L2
namespace Att
open PySem PySem.W PySem.Calls PyProof.Rows
theorem kjy{P h}:∀ns vs,WellAll P h vs (ns.map WData.int)->IntsAre vs ns:=by
 intro ns
 induction ns with
 | nil=>
  intro vs w;cases w;exact .nil
 | cons n ns ih=>
  intro vs w;cases w with
  |cons a b=>
   cases a;exact .cons _ _ (ih _ b)
theorem script_of{l:OpenLaw}{n}(hn:l.most=some n){P h args}{bj}
  (ml:l.row.toRowW.claim.pre args=true) (hwl:WellAll P h bj args):
  ∃a vs ns,bj=[Value.ref a]/\args=[WData.list (ns.map WData.int)]/\h.get? a=some {cls:=.type "list",data:=.seq vs.toArray}/\IntsAre vs ns/\ns.length<=n:=by
 have gp:WShape.hasAll [] args [.list .int]=true:=(pre_splitW ml).1;have hc:l.pre.holds [] {args:=args}=true:=(pre_splitW ml).2;obtain⟨d,r,rfl,h1,h2⟩:=hasAllW_cons gp;obtain rfl:=hasAllW_nil h2;obtain⟨xs,rfl,h3⟩:=hasW_list h1;obtain⟨ns,rfl⟩:=items_int h3;have ah:ns.length<=n:=by
  unfold OpenLaw.pre at hc;have h4:(WTm.not (.lt (.lit (.int n)) (.len (.arg 0)))).holds [] {args:=[.list (ns.map .int)]}=true:=by
   have h4:=(holds_andW hc).1;rw[hn]at h4;exact h4
  have h5:=condW_of h4 (w_not (w_lt w_lit (w_len_list (w_arg rfl))))
  grind
 cases hwl with
 |cons w1 w2=>
  cases w2;cases w1 with|list ho oj=>exact⟨_,_,ns,rfl,rfl,ho,kjy ns _ oj,ah⟩
theorem post_true(l:OpenLaw) args:l.row.toRowW.claim.post args (.bool true) args=true:=
 postW_of
  (show WShape.has [] _ .bool=true by first|rfl|decide|simp[WShape.armsAll])
  (w_eq_bool (w_res rfl) w_lit) rfl
end Att
namespace L2
open PySem PySem.Spec PyProof.Rows
noncomputable def xjn(H:Hp):Prop:=∀b,H b=none\/∃o xs,H b=some (.frz o (.lst xs))
noncomputable def KQ(s:Stmt):Arguments:=match s with
 |.FunctionDef _ a _ _ _ _ _ _ _ _=>a|_=>{posonlyargs:=[],args:=[],vararg:=none,kwonlyargs:=[],kw_defaults:=[],kwarg:=none,defaults:=[]}
noncomputable def K1(s:Stmt):List Stmt:=match s with
 |.FunctionDef _ _ b _ _ _ _ _ _ _=>b|_=>[]
noncomputable def k5(s:Stmt):Scope:=match s with
 |.FunctionDef _ _ _ _ _ _ sc _ _ _=>sc|_=>{kind:=.function,names:=[],isGenerator:=false,isCoroutine:=false}
structure Fun (K:Frag)(x qual:Str)(st:Stmt)(f:Addr)(fd:FuncData):Prop where
 ex:∃(oc:Value) (od:Option Addr) (kV gq pm:Value) (an:Option Addr) (ba ct:Value) (my:Array (Option Value)),
  fd=PySem.W.fnOf x qual (KQ st) (K1 st) (k5 st) .none kV gq pm an ba ct/\K.lookup f=some ⟨oc,od,.func fd,my⟩/\PySem.W.codeIn K ba qual=true
 kp:PySem.W.keepIn K (.ref f)=true
section
variable {P:Program}{w:World}{K:Frag}{mg:Str->Option Value}{base:Heap}
theorem Fun.binds{x qual st f fd ps}(F:Fun K x qual st f fd)
  (h:∀kV gq pm an (ba ct) us,us.length=ps.length->bindArgs (PySem.W.fnOf x qual (KQ st) (K1 st) (k5 st) .none kV gq pm an ba ct) ⟨us,[]⟩=pure (ps.zip us)):Binds K fd ps []:=by
 obtain⟨oc,od,kV,gq,pm,an,ba,ct,my,rfl,lk,ic⟩:=F.ex;exact .all (h kV gq pm an ba ct)
theorem qze{x qual st f oc od an my kV gq pm ba ct}(l:K.lookup f=some ⟨oc,od,.func (PySem.W.fnOf x qual (KQ st) (K1 st) (k5 st) .none kV gq pm an ba ct),my⟩)
  (c:PySem.W.codeIn K ba qual=true) (k:PySem.W.keepIn K (.ref f)=true):Fun K x qual st f (PySem.W.fnOf x qual (KQ st) (K1 st) (k5 st) .none kV gq pm an ba ct):=⟨⟨oc,od,kV,gq,pm,an,ba,ct,my,rfl,l,c⟩,k⟩
end
section
variable {X:Cx}
theorem pv(i:Nat){x:Str}{pos:Pos}(hN:autoParam (X.N[i]?=some x) Ŕ)(hv:autoParam (Vis X.env.scope x) ř)(hd:autoParam ((x==("__debug__":Str))=false) ŕ)
  (ic:autoParam ((x==("__classdict__":Str))=false) ŕ):PE X (.Name x pos) (xW i):=wqk hN hv hd ic
end
def jY(H H':Hp):Prop:=∀b o,H b=some o->H' b=some o
section
variable {κ:Type}[DecidableEq κ]
noncomputable def z9(ab:List (κ×V))(k:κ):Option V:=(ab.find? λkv=>decide (kv.1=k)).map (·.2)
noncomputable def xj(ab:List (κ×V))(k:κ)(v:V):List (κ×V):=
 if(ab.any λkv=>decide (kv.1=k))=true then ab.map (λkv=>if kv.1=k then(kv.1,v)else kv)else ab++[(k,v)]
theorem kqg{p r}{k:κ}(e:p.1=k):z9 (p::r) k=some p.2:=by simp[z9,e]
theorem kqh{p r}{k:κ}(e:¬p.1=k):z9 (p::r) k=z9 r k:=by simp[z9,e]
theorem qj8(k):∀ab:List (κ×V),(ab.any λkv=>decide (kv.1=k))=(z9 ab k).isSome
 |[]=>rfl
 |p::r=>by
  rw[List.any_cons]
  by_cases e:p.1=k
  ·simp only[kqg e,Xg e,Bool.true_or,Option.isSome_some]
  ·rw[kqh e,Xh e];exact qj8 k r
theorem kjx ab (k:κ) v:(xj ab k v).length<=ab.length+1:=by
 unfold xj
 split
 ·rw[X4];lia
 ·simp_all
theorem RelO.isSome_eq{o u}(r:RelO o u):o.isSome=u.isSome:=by
 cases o with
 |none=>cases u with|none=>rfl|some _=>exact(r).elim
 |some _=>cases u with|none=>exact(r).elim|some _=>rfl
theorem RelO.getD{o u d d'}(r:RelO o u)(rd:RelV d d'):RelV (o.getD d) (u.getD d'):=by
 cases o with
 |none=>cases u with|none=>exact rd|some _=>exact(show False from r).elim
 |some _=>cases u with|none=>exact(show False from r).elim|some _=>exact r
theorem KV.val{ab vs}(r:KV ab vs)(k:κ):RelO (z9 ab k) (valueAt vs k):=by
 induction r with
 | nil=>exact True.intro
 | @cons p q ps qs h t ih=>
  obtain⟨h1,h2⟩:=h
  by_cases e:p.1=k
  ·have e':q.1=k:=h1.symm.trans e;have b:valueAt (q::qs) k=some q.2:=by simp[valueAt,e']
   rw[kqg e,b];exact h2
  ·have e':¬q.1=k:=λz=>e (h1.trans z)
   have b:valueAt (q::qs) k=valueAt qs k:=by simp[valueAt,e']
   rw[kqh e,b];exact ih
theorem KV.any{ab vs}(r:KV ab vs)(k:κ):(ab.any λkv=>decide (kv.1=k))=vs.any λkv=>decide (kv.1=k):=by
 induction r with|nil=>rfl|cons h t ih=>simp_all
theorem KV.repl{ab vs}(r:KV ab vs)(k:κ){y u}(ry:RelV y u):
  KV (ab.map λkv=>if kv.1=k then(kv.1,y)else kv) (vs.map λkv=>if kv.1=k then(kv.1,u)else kv):=by
 induction r with
 |nil=>exact .nil
 |@cons p q ps qs h t ih=>
  rw[List.map_cons,List.map_cons];refine .cons ?_ ih;obtain⟨h1,h2⟩:=h
  by_cases e:p.1=k
  ·rw[X9 e,X9 (h1.symm.trans e)];exact⟨h1,ry⟩
  ·rw[Xb e,Xb (λz=>e (h1.trans z))];exact⟨h1,h2⟩
theorem KV.put{ab vs}(r:KV ab vs)(k:κ){y u}(ry:RelV y u):KV (xj ab k y) (stored vs k u):=by
 unfold xj stored;rw[r.any k]
 by_cases e:(vs.any λkv=>decide (kv.1=k))=true
 ·rw[X9 e,X9 e];exact r.repl k ry
 ·rw[Xb e,Xb e];exact Paired.snoc r ⟨rfl,ry⟩
theorem KV.length{ab}{vs:List (κ×Value)}(r:KV ab vs):ab.length=vs.length:=Paired.length r
end
theorem V1{P w k u}(r:RelV (kV k) u):(wj P w).is k u=true:=by
 cases k with|inl i=>obtain⟨t,e⟩:=(r);subst e;exact kzd P w i t|inr x=>obtain⟨t,e⟩:=(r);subst e;exact kzc P w x t
theorem kwo{P w}:∀{ks us},Vals (ks.map kV) us->ItemsAre (wj P w) ks us
 |[],_,r=>by cases r;exact .nil
 |k::ks,_,r=>by
  cases r with|cons h t=>exact .cons (V1 h) (kwo t)
abbrev KT(H:Hp):List (List Key×V)->List (List Key×Addr×Value)->Prop:=Paired λp q=>p.1=q.1/\H q.2.1=some (.tup (p.1.map kV))/\RelV p.2 q.2.2
theorem KT.val{H ab xs}(r:KT H ab xs) k:RelO (z9 ab k) ((atKey xs k).map (·.2)):=by
 induction r with
 | nil=>exact True.intro
 | @cons p q ps qs h t ih=>
  obtain⟨h1,_,h2⟩:=h
  by_cases e:p.1=k
  ·have e':q.1=k:=h1.symm.trans e;have b:atKey (q::qs) k=some q.2:=by simp[atKey,e']
   rw[kqg e,b];exact h2
  ·have e':¬q.1=k:=λz=>e (h1.trans z)
   have b:atKey (q::qs) k=atKey qs k:=by simp[atKey,e']
   rw[kqh e,b];exact ih
theorem KT.repl{H ab xs}(r:KT H ab xs)(k){y u}(ry:RelV y u):
  KT H (ab.map λkv=>if kv.1=k then(kv.1,y)else kv) (xs.map (putAt k u)):=by
 induction r with
 |nil=>exact .nil
 |@cons p q ps qs h t ih=>
  rw[List.map_cons];refine .cons ?_ ih;obtain⟨h1,h2,h3⟩:=h;unfold putAt
  by_cases e:p.1=k
  ·rw[X9 e,X9 (h1.symm.trans e)];exact⟨h1,h2,ry⟩
  ·rw[Xb e,Xb (λz=>e (h1.trans z))];exact⟨h1,h2,h3⟩
theorem KT.put{H ab xs}(r:KT H ab xs)(k){b y u}(hb:H b=some (.tup (k.map kV)))(ry:RelV y u):
  KT H (xj ab k y) (storedH xs k b u):=by
 have e:(ab.any λkv=>decide (kv.1=k))=(atKey xs k).isSome:=by
  rw[qj8,(r.val k).isSome_eq,Option.isSome_map]
 unfold xj storedH;rw[e]
 by_cases q:(atKey xs k).isSome=true
 ·rw[X9 q,X9 q];exact r.repl k ry
 ·rw[Xb q,Xb q];exact Paired.snoc r ⟨rfl,hb,ry⟩
theorem KT.keeps{H H' ab xs}(r:KT H ab xs)(ht:∀b ys,H b=some (.tup ys)->H' b=some (.tup ys)):KT H' ab xs:=
 Paired.mapP r λ_ _ z=>⟨z.1,ht _ _ z.2.1,z.2.2⟩
section
variable {P:Program}{w:World}{H:Hp}{h:Heap}{a:Addr}
theorem vk7{u}(ok:HOk P w H h)(e:Rd H a u):ObjOk P w H h a u:=e.ok ok
theorem Qj{ab}(ok:HOk P w H h)(e:Rd H a (.dK ab)):ab.length<=sizeLine/\(a==sysModules)=false/\∃vs,KV ab vs/\h.DictOf (wj P w) a vs:=
 show ObjOk P w H h a _ from vk7 ok e
theorem vzu{ab}(ok:HOk P w H h)(e:H a=some (.dK ab)):ab.length<=sizeLine/\(a==sysModules)=false/\∃vs,KV ab vs/\h.DictOf (wj P w) a vs:=Qj ok (.inl e)
theorem XZ{ks}(ok:HOk P w H h)(e:H a=some (.tup (ks.map kV))):(tupleKind (wj P w)).is h ks a:=by
 obtain⟨_,a9,r,o,h1,h2,_,n,h3⟩:=(ok a _ e);exact⟨o,a9.toArray,n,h1,h2,h3,by simpa using kwo r⟩
theorem QX{ab}(ok:HOk P w H h)(e:Rd H a (.dT ab)):ab.length<=sizeLine/\(a==sysModules)=false /\
  ∃ xs,KT H ab xs/\h.DictOfH (tupleKind (wj P w)) a xs:=by
 obtain⟨z,y,xs,r,o,es,ep,h1,h2,h3,h4,h5⟩:=(vk7 ok e);refine⟨z,y,xs,r,o,es,ep,h1,h2,h3,h4,λx hx=>?_,h5⟩;have all:∀{l m},KT H l m->∀x∈m,(tupleKind (wj P w)).is h x.1 x.2.1:=by
  intro l m q
  induction q with
  | nil=>simp_all
  | @cons p q ps qs hq t ih=>
   intro x hx;rcases aD hx with e|hx
   ·subst e;exact XZ ok (by simp_all)
   ·exact ih x hx
 exact all r x hx
theorem xjd{ab}(ok:HOk P w H h)(e:H a=some (.dT ab)):ab.length<=sizeLine/\(a==sysModules)=false /\
  ∃xs,KT H ab xs/\h.DictOfH (tupleKind (wj P w)) a xs:=QX ok (.inl e)
end
noncomputable def DGet(H:Hp)(a:Addr)(y:V)(r:Option V):Prop:=
 (∃ab k,Rd H a (.dK ab)/\y=kV k/\r=z9 ab k)\/∃ab k b,Rd H a (.dT ab)/\y=.ref b/\H b=some (.tup (k.map kV))/\r=z9 ab k
noncomputable def DPut(H:Hp)(a:Addr)(y v:V)(H':Hp):Prop:=
 (∃ab k,H a=some (.dK ab)/\y=kV k/\ab.length<sizeLine/\H'=upd H a (.dK (xj ab k v))) \/
 ∃ab k b,H a=some (.dT ab)/\y=.ref b/\H b=some (.tup (k.map kV))/\ab.length<sizeLine/\H'=upd H a (.dT (xj ab k v))
theorem DGet.k{H a ab k}(e:H a=some (.dK ab)):DGet H a (kV k) (z9 ab k):=.inl ⟨ab,k,.inl e,rfl,rfl⟩
theorem DPut.k{H a ab k v}(e:H a=some (.dK ab))(hl:ab.length<sizeLine):DPut H a (kV k) v (upd H a (.dK (xj ab k v))):=.inl ⟨ab,k,e,rfl,hl,rfl⟩
section
variable {X:Cx}{a7:LA9}{σ:St}{H:Hp}{s:Shared}{a:Addr}{y v:V}{u r:Value}{o:Option V}{A:Around}{E:VP9}
theorem Inv.big(I:Inv X a7 σ H s):sysModules<s.heap.objs.size:=by
 exact Nat.lt_trans ⋯ ((I.mod.glob.keeps I.bk).lt)
theorem qzu{Q}(hu:A.units+1<cLine)(I:Inv X a7 σ H s)(g:DGet H a y (some v))(ry:RelV y u)(h:∀w' s',Inv X a7 σ H s'->RelV v w'->Q w' s'):
  wpAny (model X.prog X.w) A (getItem (.ref a) u) Q E s:=by
 rcases g with⟨ab,k,e,ey,l⟩|⟨ab,k,b,e,ey,eb,l⟩
 ·subst ey;obtain⟨z,hd,vs,dk,dd⟩:=Qj I.hok e;obtain⟨w',hw,ik⟩:=RelO.some_of (l▸dk.val k);exact wpAny_getItem_of (V1 ry) dd.mapOf hw (h w' _ (I.tok _) ik)
 ·subst ey;cases(ry);obtain⟨z,hd,xs,dk,dd⟩:=QX I.hok e;obtain⟨w',hw,ik⟩:=RelO.some_of (l▸dk.val k);obtain⟨p,hp,mq⟩:=Option.map_eq_some_iff.mp hw;refine wpAny_getItem_heap (tupleKind_room_in1 hu) (XZ I.hok eb) dd hp ?_;rw[mq];exact h w' _ (I.tok _) ik
theorem d_in{Q}(hu:A.units+1<cLine)(I:Inv X a7 σ H s)(g:DGet H a y o)(ry:RelV y u)(h:∀s',Inv X a7 σ H s'->Q (.bool o.isSome) s'):
  wpAny (model X.prog X.w) A (compareOp .In u (.ref a)) Q E s:=by
 rcases g with⟨ab,k,e,ey,l⟩|⟨ab,k,b,e,ey,eb,l⟩
 ·subst ey;obtain⟨z,hd,vs,dk,dd⟩:=Qj I.hok e;refine wpAny_in_of (V1 ry) hd dd.mapOf ?_;rw[<-(dk.val k).isSome_eq,<-l];exact h _ (I.tok _)
 ·subst ey;cases(show u=Value.ref b from ry);obtain⟨z,hd,xs,dk,dd⟩:=QX I.hok e;refine wpAny_in_heap (tupleKind_room_in1 hu) (XZ I.hok eb) hd dd ?_;have q:=(dk.val k).isSome_eq;rw[Option.isSome_map]at q;rw[<-q,<-l];exact h _ (I.tok _)
theorem vzx{Q}(hu:A.units+1<cLine)(I:Inv X a7 σ H s)(g:DGet H a y o)(ry:RelV y u)(h:∀s',Inv X a7 σ H s'->Q (.bool (!o.isSome)) s'):
  wpAny (model X.prog X.w) A (compareOp .NotIn u (.ref a)) Q E s:=by
 rcases g with⟨ab,k,e,ey,l⟩|⟨ab,k,b,e,ey,eb,l⟩
 ·subst ey;obtain⟨z,hd,vs,dk,dd⟩:=Qj I.hok e;refine wpAny_notIn_of (V1 ry) hd dd.mapOf ?_;rw[<-(dk.val k).isSome_eq,<-l];exact h _ (I.tok _)
 ·subst ey;cases(ry);obtain⟨z,hd,xs,dk,dd⟩:=QX I.hok e;refine wpAny_notIn_heap (tupleKind_room_in1 hu) (XZ I.hok eb) hd dd ?_;have q:=(dk.val k).isSome_eq;rw[Option.isSome_map]at q;rw[<-q,<-l];exact h _ (I.tok _)
theorem qzs{h' t' ob}(I:Inv X a7 σ H s)(mu:Mut (H a))(hs:Heap.SameBut a s.heap h')(he:∃q,h'.get? a=some q)(new:ObjOk X.prog X.w (upd H a ob) h' a ob):
  Inv X a7 σ (upd H a ob) {s with heap:=h',toks:=t' }:=
 I.write mu (.inl rfl) (λb q hb z=>(hs.2 b hb).trans z) he new
theorem vw6{P w H' h' ab vs}(z:ab.length<=sizeLine)(hd:(a==sysModules)=false)(dk:KV ab vs)(dd:h'.DictOf (wj P w) a vs):
  ObjOk P w H' h' a (.dK ab):=⟨z,hd,vs,dk,dd⟩
theorem qzt{H' Q}(hu:A.units+1<cLine)(I:Inv X a7 σ H s)(g:DPut H a y v H')(ry:RelV y u)(rv:RelV v r)(h:∀s',Inv X a7 σ H' s'->Q () s'):
  wpAny (model X.prog X.w) A (setItem (.ref a) u r) Q E s:=by
 rcases g with⟨ab,k,e,ey,l,eH⟩|⟨ab,k,b,e,ey,eb,l,eH⟩
 ·subst ey eH;obtain⟨z,hd,vs,dk,dd⟩:=vzu I.hok e;have hz:vs.length<=sizeLine:=by rw[<-dk.length];exact z
  have hl:(xj ab k v).length<=sizeLine:=by have:=kjx ab k v;lia
  refine wpAny_setItem_pairs (V1 ry) dd λh' dd' hs=>h _ ?_
  have he:∃q,h'.get? a=some q:=let ⟨q,_,_,hq,_⟩:=dd';⟨q,hq⟩
  exact qzs I (e▸True.intro) hs he (vw6 hl hd (dk.put k rv) dd')
 ·subst ey eH;cases(ry);obtain⟨z,hd,xs,dk,dd⟩:=xjd I.hok e;have hz:xs.length<=sizeLine:=by rw[<-Paired.length dk];exact z
  have hl:(xj ab k v).length<=sizeLine:=by have:=kjx ab k v;lia
  refine wpAny_setItem_heap (tupleKind_room_in1 hu) (XZ I.hok eb) dd λh' dd' hs=>h _ ?_
  obtain⟨q,es,ep,hq,h2,h3,h4,_,h5⟩:=dd';refine qzs I (e▸True.intro) hs ⟨q,hq⟩ ⟨hl,hd,_,(dk.put k eb rv).keeps λc ys ec=>?_,q,es,ep,hq,h2,h3,h4,h5⟩
  rwa [kY (wzq ec e (λz=>nomatch z))]
end
section
variable {X:Cx}{a7:LA9}{σ:St}{H:Hp}{s:Shared}{a:Addr}{ab:List (Key×V)}{k:Key}{u:Value}{A:Around}{E:VP9}
theorem xje{Q}(I:Inv X a7 σ H s)(e:Rd H a (.dK ab))(h:∀t s',Inv X a7 σ H s'->Q (.int ab.length t) s'):wpAny (model X.prog X.w) A (call (.builtin "len") [.ref a]) Q E s:=by
 obtain⟨z,hd,vs,dk,dd⟩:=Qj I.hok e;refine call_len_dict hd dd (by rw[<-dk.length];rw[Yo]at z;lia) ?_;rw[<-dk.length];exact h _ _ (I.tok _)
end
noncomputable def xjo(i:Expr):Prop:=∀ov iv,subscripted i false ov iv=operate [ov,iv] (getItem ov iv)
theorem vwq{prog w A E s env bt slice pos T id}{Q}
  (hl:typeLookup (.type T) "__getitem__"=pure (some (.builtin id))) (hs:xjo slice)
  (h:wpAny (model prog w) A (eval bt env) (λo s₁=>wpAny (model prog w) A (eval slice env) (λi s₂=>s₂.TypeIs o T/\wpAny (model prog w) A (getItem o i) Q E s₂) E s₁) E s):
  wpAny (model prog w) A (eval (.Subscript bt slice pos) env) Q E s:=by
 refine Subscript_ (wpAny_mono h (λo s₁ h₁=>wpAny_mono h₁ (λi s₂ h₂=>?_) λ_ _ x=>x) λ_ _ x=>x);obtain⟨hT,h₂⟩:=h₂;refine X0 ?_;rw[getitemInPython_of_ne hT.not_modules];refine X0 (Z5 hT hl ?_);have fin:wpAny (model prog w) A (subscripted slice false o i) (λr s₃=>wpAny (model prog w) A (letTemporaryGo bt o r >>= λ_=>pure r) Q E s₃) E s₂:=by
  rw[hs o i];exact wpAny_operating (wpAny_mono h₂ (λr s₃ h₃=>X0 (wpAny_letTemporaryGo (X2 h₃))) λ_ _ x=>x)
 first
  |exact X2 (X0 fin)
theorem kzx{X a7}{σ:St}{H s a y o}(I:Inv X a7 σ H s)(g:DGet H a y o):s.TypeIs (.ref a) "dict":=by
 rcases g with⟨ab,k,e,_,_⟩|⟨ab,k,b,e,_,_,_⟩
 ·obtain⟨_,_,vs,_,dd⟩:=Qj I.hok e;exact dd.typeIs
 ·obtain⟨_,_,xs,_,dd⟩:=QX I.hok e;exact dd.typeIs
abbrev wxl(td ty:TE):TE:=fun σ H Q=>td σ H λx H1=>ty σ H1 λy H2=>∃a v,x=.ref a/\DGet H2 a y (some v)/\Q v H2
abbrev wxr(td ty tv:TE):TS:=λD σ H=>tv σ H λv H1=>td σ H1 λx H2=>ty σ H2 λy H3=>∃a H4,x=.ref a/\DPut H3 a y v H4/\D.nx σ H4
section
variable {X:Cx}{o i e bt:Expr}{pos b9 f8:Pos}{td ty tv:TE}
theorem vxk(hu:X.A.units+1<cLine)(ho:PE X o td)(hi:PE X i ty)(hs:xjo i):PE X (.Subscript o i pos) (wxl td ty):=by
 intro a7 s σ H Q I h;refine vwq PySem.F.slot_dict_getitem.lookup hs (thn (ho a7 s σ H _ I h) λu s1 ⟨x,H1,I1,rx,q1⟩=>thn (hi a7 s1 σ H1 _ I1 q1) λiv s2 ⟨y,H2,I2,ry,a,v,ex,g,q2⟩=>?_);subst ex;obtain rfl:u=Value.ref a:=rx;exact⟨kzx I2 g,qzu hu I2 g ry λw' s3 I3 ik=>⟨v,H2,I3,ik,q2⟩⟩
theorem qwo(hu:X.A.units+1<cLine)(ho:PE X o td)(hi:PE X i ty)(hv:PE X bt tv)(hs:swapsWith bt (some (.Subscript o i b9)) pos.line X.env=pure false):
  PS X (.Assign [.Subscript o i b9] bt pos) (wxr td ty tv):=by
 intro a7 s σ H D I h;refine wpAny_Assign_Subscript (thn (hv a7 s σ H _ I h) λr s1 ⟨v,H1,I1,rv,q1⟩=>thn (ho a7 s1 σ H1 _ I1 q1) λu s2 ⟨x,H2,I2,rx,q2⟩=>thn (hi a7 s2 σ H2 _ I2 q2) λiv s3 ⟨y,H3,I3,ry,a,H4,ex,g,q3⟩=>?_) hs;subst ex;obtain rfl:u=Value.ref a:=rx;exact qzt hu I3 g ry rv λs4 I4=>⟨σ,H4,I4,q3⟩
end
theorem vqg{P w H}(h:Heap)(hb:sysModules<h.objs.size):ObjOk P w H (h.push {cls:=.type "dict",data:=.dict #[]}) h.objs.size (.dK []):=
 ⟨Yf _,beq_eq_false_iff_ne.mpr (Ne.symm (Xe hb)),[],.nil,Heap.DictOf.new h⟩
abbrev wjx:TE:=λ_ H Q=>∀p,H p=none->Q (.ref p) (upd H p (.dK []))
section
variable {X:Cx}{pos:Pos}
theorem qk0:PE X (.Dict [] [] pos) wjx:=λa7 s σ H Q I h=>
 wpAny_Dict_empty ⟨.ref s.heap.objs.size,_,I.laid (t':=s.toks) (λ_ _ q=>X1 _ q) (X7 _) (vqg s.heap I.big),rfl,h _ (I.hok.fresh (X7 _))⟩
end
structure M2 (X:Cx)(o:Expr)(m:Str)(apos:Pos)(e f:Expr)(ae:Pos):Prop where
 base:attributeBase o m X.env (eval o X.env)=eval o X.env
 few:((backTo ae (starEach [e,f] X.env)).all (λx=>!x.1)&&(backToKw ae (keywordEach [] X.env)).all (λx=>x.1.isSome)
  && decide (([e,f]:List Expr).length+([]:List Keyword).length+(if([]:List Keyword).isEmpty then 0 else 1)<30))=true
 line:(apos.endLine==ae.line)=true
 trees:backTo ae (starEach [e,f] X.env)=[(false,eval e X.env),(false,eval f X.env)]
noncomputable def IsD(H:Hp)(a:Addr):Prop:=(∃ab,Rd H a (.dK ab))\/∃ab,Rd H a (.dT ab)
theorem wvz{X a7}{σ:St}{H s a}(I:Inv X a7 σ H s)(d:IsD H a):
  s.TypeIs (.ref a) "dict"/\(∀b,Value.ref a=.ref b->∃ob,s.heap.get? b=some ob/\ob.dict=none)/\(a==sysModules)=false:=by
 rcases d with⟨ab,e⟩|⟨ab,e⟩
 ·obtain⟨_,hd,vs,_,dd⟩:=Qj I.hok e;refine⟨dd.typeIs,λb q=>?_,hd⟩;cases q;obtain⟨ob,_,_,h1,h2,_⟩:=dd;exact⟨ob,h1,h2.2.1⟩
 ·obtain⟨_,hd,xs,_,dd⟩:=QX I.hok e;refine⟨dd.typeIs,λb q=>?_,hd⟩;cases q;obtain⟨ob,_,_,h1,h2,_⟩:=dd;exact⟨ob,h1,h2.2.1⟩
section
variable {X:Cx}{a7:LA9}{σ:St}{H:Hp}{s:Shared}{a:Addr}{y d:V}{u r:Value}{o:Option V}{A:Around}{E:VP9}
theorem wwj{Q}(hu:A.units+1<cLine)(I:Inv X a7 σ H s)(g:DGet H a y o)(ry:RelV y u)(rd:RelV d r)(h:∀w' s',Inv X a7 σ H s'->RelV (o.getD d) w'->Q w' s'):
  wpAny (model X.prog X.w) A (call (.builtin "dict.get") [.ref a,u,r]) Q E s:=by
 rcases g with⟨ab,k,e,ey,l⟩|⟨ab,k,b,e,ey,eb,l⟩
 ·subst ey;obtain⟨z,hd,vs,dk,dd⟩:=Qj I.hok e;refine call_meetsIn PySem.F.slot_dict_get dd.typeIs PySem.F.entry_dict_get (PySem.F.args_dict_get_3 _ _ _) (meets_dict_get_default (wj X.prog X.w) a (V1 ry) hd r) ⟨_,dd.mapOf,h _ _ (I.tok _) ?_⟩;rw[l];exact(dk.val k).getD rd
 ·subst ey;cases(show u=Value.ref b from ry);obtain⟨z,hd,xs,dk,dd⟩:=QX I.hok e;refine call_meetsIn PySem.F.slot_dict_get dd.typeIs PySem.F.entry_dict_get (PySem.F.args_dict_get_3 _ _ _) (meetsH_dict_get_default (tupleKind (wj X.prog X.w)) a b hd r) ⟨tupleKind_room_in1 hu,k,xs,XZ I.hok eb,dd,h _ _ (I.tok _) ?_⟩;rw[l];exact(dk.val k).getD rd
end
abbrev wjy(td ty tx:TE):TE:=fun σ H Q=>td σ H λx H1=>∃a,x=.ref a/\IsD H1 a/\ty σ H1 λy H2=>tx σ H2 λz H3=>∃o,DGet H3 a y o/\Q (o.getD z) H3
section
variable {X:Cx}{o e f:Expr}{apos ae:Pos}{td ty tx:TE}
theorem vkk(hu:X.A.units+1<cLine)(ho:PE X o td)(he:PE X e ty)(hf:PE X f tx)(m:M2 X o "get" apos e f ae):PE X (.Call (.Attribute o "get" apos) [e,f] [] ae) (wjy td ty tx):=by
 intro a7 s σ H Q I h;refine wpAny_Call_method m.base m.few m.line PySem.F.plainAttrs_dict PySem.F.slot_dict_get PySem.F.type_dict_get (thn (ho a7 s σ H _ I h) λu s1 ⟨x,H1,I1,rx,a,ex,d,q1⟩=>?_);subst ex;obtain rfl:u=Value.ref a:=rx;obtain⟨t1,t2,_⟩:=wvz I1 d;refine⟨t1,t2,?_⟩;rw[m.trees];refine Z7 rfl (Calls.evalArgs_plain (Calls.spliced_cons (thn (he a7 s1 σ H1 _ I1 q1) λiv s2 ⟨y,H2,I2,ry,q2⟩=>
  Calls.spliced_cons (thn (hf a7 s2 σ H2 _ I2 q2) λfv s3 ⟨z,H3,I3,rz,ov,g,q3⟩=>Calls.spliced_nil ?_))))
 exact wwj hu I3 g ry rz λw' s4 I4 ik=>⟨_,H3,I4,ik,q3⟩
end
section
variable {X:Cx}
theorem vj3:CallR X (.builtin "len") (λxs H Q=>∃a ab,xs=[V.ref a]/\H a=some (.dK ab)/\Q (.int ab.length) H):=by
 rintro a7 s σ H xs us Q I r ⟨a,ab,rfl,ha,q⟩;obtain⟨u,rfl,ru⟩:=x4 r;cases ru;exact xje I (.inl ha) λt s' I'=>⟨.int ab.length,H,I',⟨t,rfl⟩,q⟩
end
end L2
set_option maxHeartbeats 4000000
namespace L3
open PySem PySem.Spec PyProof.Rows L2
abbrev qxs(dy:List Expr)(env:Env):Sem Bool:=
 forIn dy true λc r=>if r=true then do let ok <-isTrue c env (eval c env);pure (ForInStep.yield ok)else pure (ForInStep.yield r)
theorem jw5 (env): ∀(l : List (Str × NameKind)) (cs),(∀y ∈ l,y.2 = .free -> ∃c,env.cells.lookup y.1 = some c) ->
    (∀x c,cs.lookup x = some c -> env.cells.lookup x = some c) ->
    ∃ cl,(forIn l cs (λx r=>if(x.2==NameKind.free) = true then do let a <-cellOf env x.1; pure (ForInStep.yield ((x.1,a)::r))else pure (ForInStep.yield r)): Sem (List (Str × Addr))) = pure cl /\
      (∀x c,cl.lookup x = some c -> env.cells.lookup x = some c) /\ (∀x c,cs.lookup x = some c -> ∃c',cl.lookup x = some c') /\ ∀y ∈ l,y.2 = .free -> ∃c,cl.lookup y.1 = some c
  | [],cs,_,hs=>⟨cs,rfl,hs,λx c h=>⟨c,h⟩,λ_ h=>nomatch h⟩
  | (n,k)::r,cs,hl,hs=>by
    by_cases hk : k = .free
    · subst hk
      obtain⟨c,hc⟩:= hl _ X5 rfl;have js : ∀x d,((n,c)::cs).lookup x = some d -> env.cells.lookup x = some d:= λx d h=>by
        rw[List.lookup_cons]at h;cases hx : x==n with| true=>simp_all| false=>rw[hx]at h; exact hs x d h
      obtain⟨cl,e,a,b,d⟩:= jw5 env r _ (λy hy=>hl y (lc9 _ hy)) js;refine⟨cl,?_,a,λx c' h=> ?_,λy hy hf=> ?_⟩
      · rw[List.forIn_cons]
        have q : cellOf env n = pure c:= by unfold cellOf; rw[hc]
        simp only[q];exact e
      · cases hx : x==n with| true=>exact b x c (by rw[List.lookup_cons,hx])| false=>exact b x c' (by rw[List.lookup_cons,hx]; exact h)
      · rcases aD hy with z|z
        · simp_all
        · exact d y z hf
    · obtain⟨cl,e,a,b,d⟩:= jw5 env r cs (λy hy=>hl y (lc9 _ hy)) hs
      refine⟨cl,?_,a,b,λy hy hf=> ?_⟩
      · rw[List.forIn_cons]
        have q : (k==NameKind.free) = false:= by simpa using hk
        simp only[q];exact e
      · rcases aD hy with z|z
        · subst z
          exact absurd hf hk
        · exact d y z hf
theorem kq8{scope env}(h:∀y∈scope.names,y.2=.free->∃c,env.cells.lookup y.1=some c):
  ∃cl,closureFor scope env=pure cl/\(∀x c,cl.lookup x=some c->env.cells.lookup x=some c)/\∀y∈scope.names,y.2=.free->∃c,cl.lookup y.1=some c:=by
 obtain⟨cl,e,a,_,d⟩:=jw5 env scope.names [] h (λx c h=>nomatch h);refine⟨cl,?_,a,d⟩;unfold closureFor
 grind
noncomputable def lcX(X:Cx)(scope:Scope)(N:List Str)(cl:List (Str×Addr))(C:Addr)(s0:Shared)(H0:Hp)(fp:List Addr):Cx:=
 {X with N:=N,s₀:=s0,H₀:=H0,env:=compEnvC scope cl C X.env,outer:=X.stack,ex:=fp,fn:=λ_=>false,pn:=[],xe:=λ_ _=>False}
noncomputable def J9(k:Nat)(R:List Nat)(σ:L2.St):L2.St:=List.replicate k none++R.map λj=>(σ[j]?).join
structure LcOk (X:Cx)(scope:Scope)(N:List Str)(k:Nat)(R:List Nat):Prop where
 kind:scope.kind=.function
 nocell:∀y∈scope.names,y.2≠.cell
 names:∀y∈scope.names,y.2=.local->scope.names.lookup y.1=some .local
 caps:∀y∈scope.names,y.2=.free->X.env.kindOf y.1=some .cell\/X.env.kindOf y.1=some .free
 len:N.length=k+R.length
 outs:∀i j x,R[i]?=some j->N[k+i]?=some x->X.N[j]?=some x/\scope.names.lookup x=some .free
noncomputable def K7(XN:List Str)(sc scope:Scope)(N:List Str)(k:Nat)(R:List Nat):Bool:=
 scope.names.all (λy=>y.2 != .cell)&&scope.names.all (λy=>y.2 != .local||scope.names.lookup y.1==some .local) &&
 scope.names.all (λy=>y.2 != .free||(sc.names.lookup y.1==some .cell||sc.names.lookup y.1==some .free)) &&
 (N.length==k+R.length)&&(R.zip (N.drop k)).all (λp=>XN[p.1]? == some p.2&&scope.names.lookup p.2==some .free)
theorem qkd{X scope N k R}(hk:scope.kind=.function)(h:K7 X.N X.env.scope scope N k R=true):LcOk X scope N k R:=by
 unfold K7 at h;simp only[Bool.and_eq_true,Ym,bne_iff_ne,Bool.or_eq_true,beq_iff_eq]at h;obtain⟨⟨⟨⟨h1,h2⟩,h3⟩,h4⟩,h5⟩:=h;refine⟨hk,λy hy=>h1 y hy,λy hy e=>(h2 y hy).resolve_left (λz=>z e),λy hy e=>(h3 y hy).resolve_left (λz=>z e),h4,λi j x e1 e2=>?_⟩;have m:(j,x)∈R.zip (N.drop k):=by
  refine Xx (i:=i) ?_;rw[List.getElem?_zip_eq_some]
  simp_all
 exact h5 _ m
theorem jki {env : Env} {x q}: ∀{names : List (Str × NameKind)},(names.map λ(n,k)=>if(k==NameKind.free&&env.scope.kind == .function&&env.kindOf n==some .cell)then(n,NameKind.cell)else(n,k)).lookup x = some q ->
    (x,q) ∈ names \/ (q = .cell /\ (x,NameKind.free) ∈ names)
  | [],h=>nomatch h
  | (n,k)::r,h=>by
    have h : List.lookup x ((if _ = true then _ else _)::_) = some q:= h
    by_cases hc : (k==NameKind.free&&env.scope.kind == .function&&env.kindOf n==some .cell) = true
    · rw[X9 hc,List.lookup_cons]at h
      cases hx : x==n with
      | true=>simp_all
      | false=>
        rw[hx]at h;rcases jki h with z|⟨z,y⟩
        · exact .inl (lc9 _ z)
        · exact .inr ⟨z,lc9 _ y⟩
    · rw[Xb hc,List.lookup_cons]at h
      cases hx : x==n with
      | true=>simp_all
      | false=>
        rw[hx]at h;rcases jki h with z|⟨z,y⟩
        · exact .inl (lc9 _ z)
        · exact .inr ⟨z,lc9 _ y⟩
section
variable {X:Cx}{a7:LA9}{σ:L2.St}{H:Hp}{s:Shared}
theorem wvf{scope N k R cl C}(sc:LcOk X scope N k R)(ca:∀y∈scope.names,y.2=.free->∃c,cl.lookup y.1=some c)
  {x} (h:(compEnvC scope cl C X.env).kindOf x=some .cell\/(compEnvC scope cl C X.env).kindOf x=some .free):∃c,cl.lookup x=some c:=by
 rcases h with h|h
 ·rcases jki h with z|⟨_,z⟩
  ·exact absurd rfl (sc.nocell _ z)
  ·exact ca _ z rfl
 ·rcases jki h with z|⟨z,_⟩
  ·exact ca _ z rfl
  ·cases z
theorem wvg{scope N k R cl}{C:Addr}{fp}(I:Inv X a7 σ H s)(sc:LcOk X scope N k R)(hf:∀b∈fp,vY X a7 H b)(ho:∀b∈fp,∃o,s.heap.get? b=some o)
  (hC:s.heap.objs.size<=C) (cb:∀x c,cl.lookup x=some c->X.env.cells.lookup x=some c) (ca:∀y∈scope.names,y.2=.free->∃c,cl.lookup y.1=some c):(lcX X scope N cl C s H fp).Ok where
 mod:=I.ok.mod
 kind:=sc.kind
 glob:=I.ok.glob
 blt:=I.ok.blt
 above:=hC
 inj:=λx y c h1 h2=>I.ok.inj x y c (cb _ _ h1) (cb _ _ h2)
 has:=λx h=>wvf sc ca h
 cab:=λx c h=>by cases h
 hd:=I.ok.hd
 frames:=I.ok.frames
 stk:=.inl rfl
 exf:=λb hb=>by
  obtain⟨o,e⟩:=ho b hb;exact⟨Xe (Xn (Xa e) hC),λx c h=>(hf b hb).2.2.2.2.1 x c (cb x c h)⟩
 bs:=λb o e=>I.bs b o e
 bsz:=Ye I.ok.bsz I.sz
 noex:=λb o e hb=>by
  rcases(hf b hb).2.2.2.1 with z|z
  ·exact I.ok.noex b o e z
  ·exact absurd (Xn (Xa e) (Ye I.ok.bsz z)) (Yu _)
 exfs:=λb hb hs=>by
  rcases aD (I.stkSub b hs)with z|z
  ·exact(hf b hb).2.1 z
  ·exact(hf b hb).2.2.1 z
 funs:=I.stack
 frf:=I.stkFree
theorem wk3(I:Inv X a7 σ H s){a:Addr}(h:s.heap.objs.size<=a):a∉frs X.stack:=λz=>by
 rcases aD (I.stkSub a z)with e|e
 ·subst e;exact absurd (Xn I.lt h) (Yu _)
 ·exact I.nofs h e
theorem vz5 {scope N k R cl} {C D:Addr} {fp h1 t m oD} (I:Inv X a7 σ H s) (sc:LcOk X scope N k R)
  (hf:∀ b∈fp,vY X a7 H b) (ho:∀b∈fp,∃o,s.heap.get? b=some o)
  (hC:s.heap.objs.size<=C) (hD:s.heap.objs.size<=D) (pj:D≠C) (cb:∀x c,cl.lookup x=some c->X.env.cells.lookup x=some c) (ca:∀y∈scope.names,y.2=.free->∃c,cl.lookup y.1=some c)
  (bv:∀ b o,s.heap.get? b=some o->h1.get? b=some o) (hn:h1.Ns C m) (eD:h1.get? D=some oD) (dD:∀v,oD.data≠.cell v):
  Inv (lcX X scope N cl C s H fp) [(D,oD)] (J9 k R σ) H {s with heap:=h1,toks:=t} where
 ok:=wvg I sc hf ho hC cb ca
 os:=rfl
 bare:=I.bare
 base:=Un.kept bv
 loc:=⟨m,hn,λi x v e1 e2 vis=>by
  obtain⟨mX,hnX,hl⟩:=I.loc;unfold J9 at e2
  by_cases hi:i<k
  ·rw [Xw (by simp_all),List.getElem?_replicate,X9 hi]at e2
   grind
  ·have hk:k<=i:=Nat.le_of_not_lt hi;rw [List.getElem?_append_right (Zd▸hk),Zd,Xi]at e2;cases er:R[i - k]? with
   | none=>simp_all
   | some j=>
    rw [er]at e2;have ej:(σ[j]?).join=some v:=by simpa using e2
    have ej':σ[j]?=some (some v):=by
     cases q:σ[j]? with| none=>rw[q]at ej;cases ej| some z=>simp_all
    obtain⟨o1,o2⟩:=sc.outs _ j x er (by rw[show k+(i - k)=i by lia];exact e1);have cap:=sc.caps (x,.free) (Z0 o2) rfl;have visX:Vis X.env.scope x:=cap.elim (λz=>.inr (.inl z)) λz=>.inr (.inr z)
    obtain⟨u,ru,q⟩:=hl j x v o1 ej' visX;refine⟨u,ru,?_⟩;rcases q with⟨q,_⟩|⟨_,c,ec,hc⟩
    ·simp_all
    ·obtain⟨c',ec'⟩:=ca (x,.free) (Z0 o2) rfl;have e:=oq9 ((cb x c' ec').symm.trans ec);subst e;refine .inr ⟨?_,c',ec',?_⟩
     ·rcases vis with z|z|z
      ·rcases jki (env:=X.env) (names:=scope.names) z with y|⟨y,_⟩
       ·have y':=sc.names _ y rfl
        grind
       ·cases y
      ·exact .inl z
      ·exact .inr z
     ·obtain⟨o,h1,h2⟩:=hc;exact⟨o,bv _ _ h1,h2⟩⟩
 cell:=λx c h=>by
  obtain⟨v,o,h1,h2⟩:=I.cell x c (cb x c h);exact⟨v,o,bv _ _ h1,h2⟩
 free:=I.hok.fresh hC
 freeC:=λx c h=>I.freeC x c (cb x c h)
 pin:=λp hp=>by
  have e:p=(D,oD):=by
   have hp:p∈([]++[(D,oD)]:LA9):=hp
   simpa using hp
  subst e;exact⟨eD,I.hok.fresh hD,pj,wk3 I hD,dD⟩
 hok:=I.hok.kept bv
 len:=by
  show(J9 k R σ).length=N.length;unfold J9;rw[sc.len,Xk,Zd,X4]
theorem jxj{a o}(I:Inv X a7 σ H s)(hn:H a=none)(hL:a≠X.env.locals)(h1:a∈X.ex\/X.s₀.heap.objs.size<=a)(h2:∀x c,X.env.cells.lookup x=some c->c≠a)(h3:∀p∈X.pn++a7,p.1≠a)
  (new:ObjOk X.prog X.w (upd H a o) s.heap a o):Inv X a7 σ (upd H a o) s:=by
 have hok:HOk X.prog X.w (upd H a o) s.heap:=λb u e=>by
  by_cases hb:b=a
  ·subst hb;rw[x6]at e;cases e;exact new
  ·rw[kY hb]at e;exact(I.hok b u e).stay (λ_ _ _ q=>q) (λc q=>by rw[kY (Jv q hn)];exact q) λc xs q=>by rw[kY (Jv q hn)];exact q
 have na:∀b,b∉[a]->b≠a:=λb hb z=>hb (z▸aB rfl)
 exact I.step (h':=s.heap) (H':=upd H a o) (g':=s.gens) (t':=s.toks) (d':=s.drawn)
  (λb hb=>by rw[aC hb];exact⟨h1,hL,h2,h3⟩) (λb o _ _ _ e _=>e) (λb o _ _ _ e _=>⟨o.slots,e⟩) (λb o hb _ q=>by rw[kY (na b hb)];exact q)
  (λb o _ e=>⟨o,e⟩) (λb xs q=>by rw[kY (Jv q hn)];exact q) (λb o u q=>by rw[kY (Jv q hn)];exact q) (λb ps q=>⟨#[],by rw[kY (Jv q hn),q];simp⟩)
  (λm hm=>hm) hok I.bare
end
noncomputable def PTs(X:Cx)(dy:List Expr)(t:TT):Prop:=
 ∀(a7:LA9) (s:Shared) (σ:L2.St) (H:Hp) (Q:Bool->Hp->Prop),Inv X a7 σ H s->t σ H Q->wpAny (model X.prog X.w) X.A (qxs dy X.env) (TP X a7 σ Q) X.xe s
abbrev tYes:TT:=λ_ H Q=>Q true H
theorem vxa{X}:PTs X [] tYes:=λ_ _ _ H _ I h=>wpAny_tests_nil ⟨H,I,h⟩
theorem vx9{X c t}(hc:PT X c t):PTs X [c] t:=λa7 s σ H Q I h=>wpAny_tests_one (hc a7 s σ H Q I h)
noncomputable def LcW(g:TG)(tt:TT)(te:TE)(Q:VK)(J:It)(W:Nat->Nat->List V->L2.St->Hp->Prop):Prop:=∀i m ys σ H,W i m ys σ H ->
 (J.stop i H/\ys.length<=sizeLine/\∀p,H p=none->Q (.ref p) (upd H p (.lst ys))) \/
 (J.go i H/\∀x H1,J.yld i H x H1->g x σ H1 fun σ2 H2=>∃(Ny:VK) (Nn:Hp->Prop),(∀y H4,Ny y H4->ys.length<=sizeLine/\∃m',m'<m/\W (i+1) m' (ys++[y]) σ2 H4) /\
  (∀H4,Nn H4->∃m',m'<m/\W (i+1) m' ys σ2 H4)/\tt σ2 H2 λb H3=>if b=true then te σ2 H3 Ny else Nn H3)
abbrev tLC(wi:TI)(g:TG)(tt:TT)(te:TE)(k:Nat)(R:List Nat):TE:=fun σ H Q=>wi σ H λJ H1=>
 ∃W:Nat->Nat->List V->L2.St->Hp->Prop,(∃m,W 0 m [] (J9 k R σ) H1)/\LcW g tt te Q J W
abbrev WZ(a9:List Value)(n:Nat):Obj:={cls:=.type "list",data:=.seq a9.toArray n}
section
variable {X:Cx}
theorem op_mulI:OpR X (binaryOp .Mult) (rI IntMulOk λi j=>.int (i*j)):=opI λ_ _ _ _ _ _ _ hc q=>mul_int q hc
def wwy(_i j:Int):Prop:=0<j/\j.natAbs.log2<9000
theorem xY:OpR X (binaryOp .FloorDiv) (rI wwy λi j=>.int (i / j)):=opI λi j _ _ _ _ _ hc q=>by
 have h1:=hc.1;exact floordiv_int ⋯ (by rw[Int.fdiv_eq_ediv_of_nonneg i ⋯];exact q) (.inl (PyProof.noPylong_of_log2 hc.2))
noncomputable def kinds:List String:=["NoneType","bool","int","str","list","tuple","dict"]
def wvw(T U:String):Bool:=T==U||(T == "bool" && U == "int")
theorem kzj{K T U}(hT:T∈kinds)(hU:U∈kinds.tail):kitOne K (.type T) (.type U)=some (wvw T U):=by
 simp only[kinds,List.tail_cons,Yn,Yc,or_false]at hT hU;rcases hT with rfl|rfl|rfl|rfl|rfl|rfl|rfl<;>rcases hU with rfl|rfl|rfl|rfl|rfl|rfl<;>ac_rfl
noncomputable def xk0(K:Frag):List V->Hp->VK->Prop:=λxs H Q=>∃x T U,xs=[x,.ty U]/\TyOf K H x (.type T)/\T∈kinds/\U∈kinds.tail/\Q (.bl (wvw T U)) H
theorem vqo:CallR X (.builtin "isinstance") (xk0 X.K):=by
 rintro a7 s σ H xs us Q I r ⟨x,T,U,rfl,ty,hT,hU,q⟩;obtain⟨u,w',rfl,r1,r2⟩:=vjq r;cases(r2);exact qz2 I r1 ty (kzj hT hU) λtk=>⟨.bl _,H,I.tok _,rfl,q⟩
noncomputable def Its(x:Str):It:=⟨λi _=>i<x.cps.size,λi H v H'=>H'=H/\∃c,x.cps[i]?=some c/\v=.str ⟨#[c]⟩,λi _=>i=x.cps.size⟩
theorem qja{P w K tg x t it}{ty}
  (W:∀A',A'.handled=none->Walks P w A' it [it] [it] x.cps.size (SignAt x) (λi h=>h.IsStrIter it ty x t i))
  (rf:∀A (i) (s) (Q) (E),s.heap.IsStrIter it ty x t i->Q (.ref it) s->wpAny (model P w) A (pyIter (.ref it)) Q E s)
  (mn:["enumerate","zip","dict_itemiterator","dict_reverseitemiterator","odict_iterator","itertools.zip_longest","itertools.pairwise"].contains ty=false):
  Turn P w K tg (Its x) [it] it (λi h=>h.IsStrIter it ty x t i) where
 mem:=by simp
 obj:=λi h st b hb=>by
  have e:b=it:=by simpa using hb
  obtain⟨o,e,c,d⟩:=st
  simp_all
 keep:=λi h h' st k=>by
  obtain⟨o,e,r⟩:=st;exact⟨o,k it (by simp) o e,r⟩
 item:=by
  intro X hP hw hK hc i a7 s σ H E I hf st hg;subst hP hw hK;obtain⟨f0,f1,f2,f3,f4,f5⟩:=hf it (by simp);refine(W X.A (I.ok.hd hc)).item i s _ _ hg st λv h' tk hv dz kk=>?_
  obtain⟨c,u,gy,rfl⟩:=hv;have I1:Inv X a7 σ H {s with heap:=h',toks:=tk}:=I.turned (λb o hb e=>kk b o (by simpa using hb) e) f0 f1 f3 f4 f5;obtain⟨o,e,c1,d⟩:=id dz;exact⟨_,rfl,vq7 e c1 d mn ⟨.str ⟨#[c]⟩,H,I1,⟨u,rfl⟩,⟨rfl,c,gy,rfl⟩,dz,λb hb=>(hf b hb).1⟩⟩
 done:=by
  intro X hP hw hK hc i a7 s σ H E I hf st hg;subst hP hw hK;obtain⟨f0,f1,f2,f3,f4,f5⟩:=hf it (by simp);subst hg;exact(W X.A (I.ok.hd hc)).done s _ _ st λh' tk kk=>⟨rfl,I.turned (λb o hb e=>kk b o (by simpa using hb) e) f0 f1 f3 f4 f5⟩
 self:=λA i s Q E st hQ=>rf A i s Q E st hQ
noncomputable def xju:V->Option Int->Option Int->Hp->VK->Prop:=λx lo hi H Q=>∃z,x=.str z/\z.length<=sizeLine/\Q (.str (Txt.slice z lo hi)) H
theorem wk6:SlR X xju:=by
 rintro a7 s σ H x v vl vu lo hi sl Q I rx hs pl pu ⟨z,rfl,hz,q⟩;obtain⟨t,rfl⟩:=rx;refine⟨"str",_,F.slot_str_getitem.lookup,typeIs_str _ _ _,?_⟩;have fin:∀t' k,EP X a7 σ Q _ {s with toks:=k}:=λt' k=>⟨.str _,H,I.tok k,⟨t',rfl⟩,q⟩
 have ef:(Txt.slice z lo hi).length<=sizeLine:=Ye (Txt.slice_le z _ _) hz;cases pl with
 |none=>cases pu with|none=>exact wpAny_getItem_str_slice (l:=none) (u:=none) (st:=none) hs rfl (post_val_or_str ⟨ef,fin⟩)|int j tj=>exact wpAny_getItem_str_slice (l:=none) (u:=some (j,tj)) (st:=none) hs rfl (post_val_or_str ⟨ef,fin⟩)
 |int i ti=>cases pu with|none=>exact wpAny_getItem_str_slice (l:=some (i,ti)) (u:=none) (st:=none) hs rfl (post_val_or_str ⟨ef,fin⟩)|int j tj=>exact wpAny_getItem_str_slice (l:=some (i,ti)) (u:=some (j,tj)) (st:=none) hs rfl (post_val_or_str ⟨ef,fin⟩)
noncomputable def wkg:R2:=λx y H Q=>∃z n,x=.str z/\y=.int n/\(z.length<=1024/\n<=1024/\-1024<=n)/\Q (.str (Txt.mul z n)) H
theorem vxs:OpR X (binaryOp .Mult) wkg:=by
 rintro a7 s σ H x y v u Q I rx ry ⟨z,n,rfl,rfl,⟨h1,h2,h3⟩,q⟩;obtain⟨t,rfl⟩:=rx;obtain⟨t',rfl⟩:=ry;exact SB.mul (mulOk_of 1024 1024 h1 h2 ⋯ (by simp) (by simp)) λt' k=>⟨.str _,H,I.tok k,⟨t',rfl⟩,q⟩
theorem qje:∀{ys a9},Vals (ys.map V.str) a9->StrsAre a9 ys
 |[],_,.nil=>.nil|_::_,_,.cons ⟨t,e⟩ r=>by subst e;exact .cons _ t (qje r)
noncomputable def wxy(K:Frag):V->List V->Hp->VK->Prop:=λx vs H Q=>∃z p ys,x=.str z/\vs=[.ref p]/\SqL K H p (ys.map V.str)/\(ys.map (·.length)).sum+ys.length*z.length<=16777216/\Q (.str (Txt.join z ys)) H
theorem vxy:MtR X "str.join" (wxy X.K):=by
 rintro a7 s σ H x xs v us Q I rx rv ⟨z,p,ys,rfl,rfl,hq,hok,q⟩;obtain⟨t,rfl⟩:=rx;obtain⟨u,rfl,ru⟩:=rv.one;cases ru;obtain⟨a9,rs,pl,hz⟩:=I.list hq;exact join_list pl.isList (qje rs) hok λt' k=>⟨.str _,H,I.tok k,⟨t',rfl⟩,q⟩
noncomputable def vv7(K:Frag):V->Option Int->Option Int->Hp->VK->Prop:=λx lo hi H Q=>xjv K x lo hi H Q\/xjt K x lo hi H Q\/xju x lo hi H Q
theorem wxq K (hK:autoParam (X.K=K) Ŕ):SlR X (vv7 K):=by subst hK;exact sl_list.or (sl_tup.or wk6)
noncomputable def qw7(K:Frag):List V->Hp->VK->Prop:=λxs H Q=>(∃p ys,xs=[.ref p]/\(SqL K H p ys\/SqT K H p ys)/\Q (.int ys.length) H)\/(∃z,xs=[.str z]/\z.length<=sizeLine/\Q (.int z.length) H)\/(∃a ab,xs=[V.ref a]/\H a=some (.dK ab)/\Q (.int ab.length) H)
theorem wj0 K (hK:autoParam (X.K=K) Ŕ):CallR X (.builtin "len") (qw7 K):=by subst hK;exact call_len_seq.or (call_len_str.or vj3)
theorem vj9:CallR X (.type "int") (λxs H Q=>(∃i,xs=[.int i]/\Q (.int i) H)\/∃k,xs=[.bl k]/\Q (.int (if k then 1 else 0)) H):=vj6
theorem qwy(K){o e es T name id r to t}{apos ae}
  (pa:PlainAttrs T) (slot:Slot T name id) (mn:typeOf (.builtin id)=pure (.type "method_descriptor")) (hm:MtR X id r) (ho:PE X o to) (ha:PA X (e::es) t)
  (be:autoParam (attributeBase o name X.env (eval o X.env)=eval o X.env) Ŕ)
  (dq:autoParam (((backTo ae (starEach (e::es) X.env)).all (λx=>!x.1)&&(backToKw ae (keywordEach [] X.env)).all (λx=>x.1.isSome)
   && decide ((e::es).length+([]:List Keyword).length+(if([]:List Keyword).isEmpty then 0 else 1)<30))=true) Ŕ)
  (bf:autoParam ((apos.endLine==ae.line)=true) Ŕ) (hs:autoParam (starEach (e::es) X.env=(false,eval e X.env)::starEach es X.env) Ŕ) (bg:autoParam ((backTo ae (starEach es X.env)).any (·.1)=false) Ŕ) (hK:autoParam (X.K=K) Ŕ):
  PE X (.Call (.Attribute o name apos) (e::es) [] ae) (tBM K T r to t):=by subst hK;exact wqt pa slot mn hm ho ha be dq bf hs bg
theorem vwe:bootBuiltins "len"=some (.builtin "len"):=by decide +kernel
theorem kvl:bootBuiltins "isinstance"=some (.builtin "isinstance"):=by decide +kernel
theorem VX:bootBuiltins "int"=some (.type "int"):=by decide +kernel
theorem wj4:bootBuiltins "bool"=some (.type "bool"):=by decide +kernel
theorem Wk:bootBuiltins "list"=some (.type "list"):=by decide +kernel
theorem kj3:bootBuiltins "tuple"=some (.type "tuple"):=by decide +kernel
theorem wj3:bootBuiltins "dict"=some (.type "dict"):=by decide +kernel
theorem wwn:bootBuiltins "zip"=some (.type "zip"):=by decide +kernel
end
noncomputable def Cst(mg:Str->Option Value)(x:Str)(v:V):Prop:=∃u,mg x=some u/\RelV v u
section
variable {X:Cx}{x:Str}{p pos:Pos}{e:Expr}{es:List Expr}{t:TA}{ps:List Str}{sp:Sp}{k:Nat}{v:V}
theorem qww(c:Cst X.mg x v)(hg:autoParam (Gl X x) Ŕ)(hd:autoParam ((x==("__debug__":Str))=false) ŕ):PE X (.Name x pos) (tC v):=by
 obtain⟨u,m,r⟩:=c;exact vxj hg m r hd
end
theorem qkv:∀{ns:List Int} {m},PySem.W.WData.weightAll (ns.map PySem.W.WData.int)<=m->∀n∈ns,Builtin.Int.intBits n<=m
 | [],_,_,_,h=>nomatch h
 | a::r,m,h,n,hn=>by
  have h':(if a==0 then 0 else a.natAbs.log2+1)+1+PySem.W.WData.weightAll _<=m:=h;rcases aD hn with z|z
  ·subst z;have e:Builtin.Int.intBits n=(if n==0 then 0 else n.natAbs.log2+1):=rfl
   grind
  ·exact qkv ⋯ n z
theorem qj1{ns:List Int}(h:PySem.W.WData.layableAll [PySem.W.WData.list (ns.map PySem.W.WData.int)]=true):∀n∈ns,Builtin.Int.intBits n<=1048576:=by
 have h1:=(PySem.W.layW_cons h).1;unfold PySem.W.WData.layable at h1;simp at h1;have h2:PySem.W.WData.weightAll _<=2 ^ 20:=h1.2;exact qkv (by simpa using h2)
section
variable {X:Cx}{a7:LA9}{σ:L2.St}{H:Hp}{s:Shared}
theorem in1_units(A:Around):A.in1.units<=A.units+1:=by
 simp_all
end
section
variable {X:Cx}
noncomputable def qw6(K:Frag):List V->Hp->VK->Prop:=λxs H Q=>∃p ys,xs=[.ref p]/\(SqL K H p ys\/SqT K H p ys)/\∀l,H l=none->Q (.ref l) (upd H l (.lst ys))
theorem kvk K (hK:autoParam (X.K=K) Ŕ):CallR X (.type "list") (qw6 K):=by subst hK;exact kxf
theorem vxn(K){o T name id r to}{apos ae}
  (pa:PlainAttrs T) (slot:Slot T name id) (mn:typeOf (.builtin id)=pure (.type "method_descriptor")) (hm:MtR X id r) (ho:PE X o to)
  (be:autoParam (attributeBase o name X.env (eval o X.env)=eval o X.env) Ŕ) (bf:autoParam ((apos.endLine==ae.line)=true) Ŕ) (hK:autoParam (X.K=K) Ŕ):
  PE X (.Call (.Attribute o name apos) [] [] ae) (xjr K T r to):=by subst hK;exact wqs pa slot mn hm ho be bf
end
section
variable {X:Cx}{a7:LA9}{σ:L2.St}{H:Hp}{s:Shared}
theorem XW{t' h'}(fp:List Addr)(I:Inv X a7 σ H s)(k:∀b o,b∉fp->s.heap.get? b=some o->h'.get? b=some o)(hf:∀b∈fp,vY X a7 H b):Inv X a7 σ H {s with heap:=h',toks:=t' }:=by
 have qp:∀b u,H b=some u->b∉fp:=λb u e z=>by rw[(hf b z).1]at e;cases e
 refine I.step (g':=s.gens) (d':=s.drawn) (λb hb=>?_) (λb o _ _ hc e _=>k b o hc e) (λb o _ _ hc e _=>⟨o.slots,k b o hc e⟩) (λ_ _ _ _ n=>n)
  (λb o hc e=>⟨o,k b o hc e⟩) (λ_ _ e=>e) (λ_ _ _ e=>e) (λb ps e=>⟨#[],by rw[e];simp⟩) (λm hm=>?_) (λb u e=>?_) I.bare
 ·obtain⟨_,f1,_,f3,f4,f5⟩:=hf b hb;exact⟨f3,f1,f4,f5⟩
 ·obtain⟨o,es,ep,ho,r⟩:=hm;exact⟨o,es,ep,k _ o (λz=>(hf _ z).2.1 rfl) ho,r⟩
 ·refine(I.hok b u e).stay (λc v hc q=>k c v ?_ q) (λ_ q=>q) λ_ _ q=>q
  rcases hc with z|z
  ·rw[z];exact qp b u e
  ·exact qp c _ z
end
noncomputable def Itz(K:Frag)(l1 l2:Addr):It:=⟨λi H=>∃xs ys x y,SqL K H l1 xs/\SqL K H l2 ys/\xs[i]?=some x/\ys[i]?=some y,
 λi H v H'=>∃T x y,H T=none/\v=.ref T/\H'=upd H T (.tup [x,y])/\(∀xs,SqL K H l1 xs->xs[i]?=some x)/\∀ys,SqL K H l2 ys->ys[i]?=some y,
 λi H=>∃xs ys,SqL K H l1 xs/\SqL K H l2 ys/\(xs.length<=i\/ys.length<=i)⟩
abbrev znt(z TI TO i1 i2 l1 l2:Addr)(i:Nat)(h:Heap):Prop:=IsZip h z TI TO .none/\IsPair h TI (.ref i1) (.ref i2)/\(∃a b,IsPair h TO a b)/\h.IsListIter i1 l1 i/\h.IsListIter i2 l2 i
theorem vjt{P w K bw k1 pos z TI TO i1 i2 l1 l2}(ap:ZipApart z TI TO i1 i2 l1 l2):
  Turn P w K (.Tuple bw k1 pos) (Itz K l1 l2) [z,TI,TO,i1,i2] z (znt z TI TO i1 i2 l1 l2) where
 mem:=by simp
 obj:=λi h st b hb=>by
  obtain⟨h1,h2,⟨a,c,h3⟩,⟨o4,e4,c4,d4⟩,o5,e5,c5,d5⟩:=st;simp at hb;rcases hb with rfl|rfl|rfl|rfl|rfl
  ·exact⟨_,h1,λv z=>by cases z⟩
  ·exact⟨_,h2,λv z=>by cases z⟩
  ·exact⟨_,h3,λv z=>by cases z⟩
  ·exact⟨_,e4,λv z=>by rw[d4]at z;cases z⟩
  ·exact⟨_,e5,λv z=>by rw[d5]at z;cases z⟩
 keep:=λi h h' st k=>by
  obtain⟨h1,h2,⟨a,c,h3⟩,⟨o4,e4,c4,d4⟩,o5,e5,c5,d5⟩:=st;exact⟨k _ (by simp) _ h1,k _ (by simp) _ h2,⟨a,c,k _ (by simp) _ h3⟩,⟨o4,k _ (by simp) _ e4,c4,d4⟩,o5,k _ (by simp) _ e5,c5,d5⟩
 item:=by
  intro X hP hw hK hc i a7 s σ H E I hf st hg;subst hP hw hK;obtain⟨xs,ys,x,y,q1,q2,hx,hy⟩:=hg;obtain⟨dw,iw,p1,i5⟩:=I.list q1;obtain⟨u1,pe,qo⟩:=iw.get hx;obtain⟨en,rv2,p2,jr⟩:=I.list q2;obtain⟨u2,hu2,ru2⟩:=rv2.get hy;obtain⟨t1,t2,⟨a,b,t3⟩,t4,t5⟩:=st;refine wpAny_pyNext_zip_item ap t1 t2 t3 t4 t5 p1.isList p2.isList (x:=u1) (y:=u2) (by simpa using pe) (by simpa using hu2) λh1 g1 g3 g4 g5 gT gs gk=>(⟨_,rfl,wpAny_letOwnedTupleGo_zip (s:={s with heap:=h1}) g1 λh2 f1 sb=>?_⟩)
  have fT:=I.fpOk (X7 _) (I.hok.fresh (X7 _));have nT:∀b∈[z,TI,TO,i1,i2],b≠s.heap.objs.size:=λb hb e=>by
   obtain⟨o,eo,_⟩:∃o,s.heap.get? b=some o/\True:=by
    simp at hb;obtain⟨o4,e4,_⟩:=t4;obtain⟨o5,e5,_⟩:=t5;rcases hb with rfl|rfl|rfl|rfl|rfl
    ·exact⟨_,t1,trivial⟩
    ·exact⟨_,t2,trivial⟩
    ·exact⟨_,t3,trivial⟩
    ·exact⟨_,e4,trivial⟩
    ·exact⟨_,e5,trivial⟩
   exact absurd (Xa eo) (e▸Yu _)
  have kk:∀b o,b∉[z,TO,i1,i2]->s.heap.get? b=some o->h2.get? b=some o:=λb o hb e=>by
   simp at hb;exact(sb.2 b hb.1).trans (gk b o hb.1 hb.2.1 hb.2.2.1 hb.2.2.2 e)
  have I1:Inv X a7 σ H {s with heap:=h2,toks:=s.toks}:=XW [z,TO,i1,i2] I kk λb hb=>hf b (by
   simp at hb ⊢;rcases hb with h|h|h|h<;>simp[h])
  have nz:s.heap.objs.size≠z:=λe=>nT z (by simp) e.symm
  have I2:=jxj (a:=s.heap.objs.size) (o:=.tup [x,y]) I1 fT.1 fT.2.1 fT.2.2.2.1 fT.2.2.2.2.1 fT.2.2.2.2.2
   (show ObjOk X.prog X.w _ h2 _ (.tup [x,y])from⟨by show(2:Nat)<=sizeLine;decide,[u1,u2],.cons qo (.cons ru2 .nil),⟨_,(sb.2 _ nz).trans gT,rfl,rfl,0,rfl⟩⟩)
  exact⟨.ref s.heap.objs.size,_,I2,rfl,⟨_,x,y,fT.1,rfl,rfl,λzs lw=>by rw[I.list_inj lw q1];exact hx,λzs lw=>by rw[I.list_inj lw q2];exact hy⟩,(⟨f1,((sb.2 _ ap.TIz).trans (gk _ _ ap.TIz ap.TITO ap.TIi1 ap.TIi2 t2)),⟨u1,u2,(sb.2 _ ap.TOz).trans g3⟩,g4.at λo e=>(sb.2 _ ap.i1z).trans e,g5.at λo e=>(sb.2 _ ap.i2z).trans e⟩),λb hb=>by rw[kY (nT b hb)];exact(hf b hb).1⟩
 done:=by
  intro X hP hw hK hc i a7 s σ H E I hf st hg;subst hP hw hK;obtain⟨xs,ys,q1,q2,hx⟩:=hg;obtain⟨dw,iw,p1,i5⟩:=I.list q1;obtain⟨en,rv2,p2,jr⟩:=I.list q2;obtain⟨t1,t2,⟨a,b,t3⟩,t4,t5⟩:=st;have fj:=iw.length;have ma:=rv2.length;refine wpAny_pyNext_zip_end (I.ok.hd hc) ap t1 t2 t3 t4 t5 p1.isList p2.isList (hx.imp (λh=>by simp;lia) λh=>by simp;lia) λh' kk=>⟨rfl,?_⟩
  refine XW (t':=s.toks) [z,TO,i1,i2] I (λb o hb e=>?_) λb hb=>hf b (by
   simp only[Yn,Yc,or_false]at hb ⊢;rcases hb with h|h|h|h<;>simp[h])
  simp only[Yn,Yc,or_false,not_or]at hb;exact kk b o hb.1 hb.2.1 hb.2.2.1 hb.2.2.2 e
 self:=λ_ _ _ _ _ st h=>wpAny_pyIter_zip st.1 h
abbrev iZip(K:Frag)(ta:TA):TI:=fun σ H R=>ta σ H λvs H1=>∃l1 l2,vs=[.ref l1,.ref l2]/\(∃xs,SqL K H1 l1 xs)/\(∃ys,SqL K H1 l2 ys)/\R (Itz K l1 l2) H1
section
variable {X:Cx}
theorem wqg K {a b ta p pos f8 bw k1}(hg:Gl X "zip")(hm:X.mg "zip"=none)(ha:PA X [a,b] ta)(hK:autoParam (X.K=K) Ŕ)
  (hs:autoParam (starEach [a,b] X.env=[(false,eval a X.env),(false,eval b X.env)]) Ŕ) (jh:autoParam (starEach [b] X.env=[(false,eval b X.env)]) Ŕ):
  PI X (.Tuple bw k1 f8) (.Call (.Name "zip" p) [a,b] [] pos) (iZip K ta):=by
 subst hK;intro a7 s σ H R I h;refine Call_ (zq I hg hm wwn (Y1 (thn (ha pos a7 s σ H _ I h) λus s1 ⟨vs,H1,I1,r1,q1⟩=>?_) (by rw[hs,jh]) (by rw[jh];rfl)));obtain⟨l1,l2,rfl,⟨xs,q1⟩,⟨ys,q2⟩,q⟩:=q1;obtain⟨u1,u2,rfl,e1,e2⟩:=vjq r1;cases e1;cases e2;obtain⟨dw,iw,p1,i5⟩:=I1.list q1;obtain⟨en,rv2,p2,jr⟩:=I1.list q2;have lt:∀{l ar},s1.heap.IsList l ar->l<s1.heap.objs.size:=λh=>by obtain⟨_,e,_⟩:=h;exact Xa e
 refine call_zip_2 p1.isList p2.isList λh' g1 g2 g3 g4 g5 gs gk=>?_
 refine wpAny_pyIter_zip g1 ⟨_,[_,s1.heap.objs.size+2,s1.heap.objs.size+3,s1.heap.objs.size,s1.heap.objs.size+1],_,_,H1,rfl,I1.kept (t':=s1.toks) gk,
  vjt (zipApart_new (lt p1.isList) (lt p2.isList)),⟨g1,g2,⟨_,_,g3⟩,g4,g5⟩,λb hb=>?_,q⟩
 have ef:s1.heap.objs.size<=b:=by
  simp at hb;rcases hb with rfl|rfl|rfl|rfl|rfl<;>lia
 exact I1.fpOk ef (I1.hok.fresh ef)
end
section
variable {X:Cx}
noncomputable def qw8:List V->Hp->VK->Prop:=λxs H Q=>(∃i,xs=[.int i]/\Q (.int i) H)\/(∃k,xs=[.bl k]/\Q (.int (if k then 1 else 0)) H)\/∃(x:Str) (n:Int),xs=[.str x]/\PySem.intText? x=some n/\x.length<=640/\Q (.int n) H
theorem jw6:CallR X (.type "int") qw8:=by
 intro a7 s σ H xs us Q I r h;rcases h with h|h|⟨x,n,rfl,hx,hl,q⟩
 ·exact vj9 a7 s σ H xs us Q I r (.inl h)
 ·exact vj9 a7 s σ H xs us Q I r (.inr h)
 ·obtain⟨u,rfl,t,rfl⟩:=x4 r;exact PySem.W.KIN.call_text hx hl ⟨.int n,H,I.tok _,⟨_,rfl⟩,q⟩
end
end L3
namespace L2
open PySem PySem.Spec PyProof.Rows
section
variable {X:Cx}{a7:LA9}{σ:List (Option V)}{H H':Hp}{s:Shared}{h':Heap}
theorem Inv.stepN{g' t' d'}{ch:List Addr}(I:Inv X a7 σ H s)
  (gi:∀b∈ch,(b∈X.ex\/X.s₀.heap.get? b=none)/\b≠X.env.locals/\(∀x c,X.env.cells.lookup x=some c->c≠b)/\∀p∈X.pn++a7,p.1≠b)
  (keep:∀b o,b≠X.env.locals->b∉X.fs->b∉ch->s.heap.get? b=some o->H b=none->h'.get? b=some o)
  (slot:∀b o,b≠X.env.locals->b∈X.fs->b∉ch->s.heap.get? b=some o->H b=none->∃sl,h'.get? b=some {o with slots:=sl}) (free:∀b o,b∉ch->s.heap.get? b=some o->H b=none->H' b=none)
  (there:∀b o,b∉ch->s.heap.get? b=some o->∃o',h'.get? b=some o')
  (tups:∀b xs,H b=some (.tup xs)->H' b=some (.tup xs)) (frzs:∀b o u,H b=some (.frz o u)->H' b=some (.frz o u)) (tbls:∀b ps,H b=some (.tbl ps)->∃more,H' b=some (.tbl (ps++more)))
  (ns:∀m,s.heap.Ns X.env.locals m->h'.Ns X.env.locals m) (hok:HOk X.prog X.w H' h') (hg:AllBare g'):
  Inv X a7 σ H' {s with heap:=h',gens:=g',drawn:=d',toks:=t' }:=by
 have rl:∀b o,X.s₀.heap.get? b=some o->b≠X.env.locals:=λb o e=>Xe (Xn (Xa e) I.ok.above)
 have me:∀b o,X.s₀.heap.get? b=some o->b∉X.ex->b∉ch:=λb o e hx hb=>by
  rcases(gi b hb).1 with z|z
  ·exact hx z
  ·grind
 have h8:∀x c,X.env.cells.lookup x=some c->∀v,s.heap.IsCell c v->h'.IsCell c v:=λx c e v ⟨o,ho,hd⟩=>by
  have ku:=λz=>(gi c z).2.2.1 x c e rfl
  by_cases hc:c∈X.fs
  ·obtain⟨sl,q⟩:=slot c o (I.cne x c e) hc ku ho (I.freeC x c e);exact⟨_,q,hd⟩
  ·exact⟨o,keep c o (I.cne x c e) hc ku ho (I.freeC x c e),hd⟩
 refine⟨I.ok,I.os,hg,⟨λb o e n hb hx=>?_,λb o e n hb hx=>?_,λb o e n hx=>?_,λb o e hx=>?_,λb xs e=>tups b xs (I.base.tups b xs e),λb o xs e=>frzs b o xs (I.base.frzs b o xs e),λb ps e=>?_⟩,?_,λx c e=>?_,?_,λx c e=>?_,λp hp=>?_,hok,I.len⟩
 ·exact keep b o (rl b o e) hb (me b o e hx) (I.base.keep b o e n hb hx) (I.base.free b o e n hx)
 ·obtain⟨sl,e1⟩:=I.base.slot b o e n hb hx;obtain⟨sl',e2⟩:=slot b _ (rl b o e) hb (me b o e hx) e1 (I.base.free b o e n hx);exact⟨sl',e2⟩
 ·obtain⟨o',e1⟩:=I.base.there b o e hx;exact free b o' (me b o e hx) e1 (I.base.free b o e n hx)
 ·obtain⟨o',e1⟩:=I.base.there b o e hx;exact there b o' (me b o e hx) e1
 ·obtain⟨m1,e1⟩:=I.base.tbls b ps e;obtain⟨m2,e2⟩:=tbls b _ e1;exact⟨m1++m2,by rw[e2,Array.append_assoc]⟩
 ·obtain⟨m,hn,hl⟩:=I.loc;refine⟨m,ns m hn,λi x v e1 e2 e3=>?_⟩;obtain⟨u,r,l⟩:=hl i x v e1 e2 e3;refine⟨u,r,?_⟩;rcases l with l|⟨k,c,e,z⟩
  ·exact .inl l
  ·exact .inr ⟨k,c,e,h8 x c e _ z⟩
 ·obtain⟨v,z⟩:=I.cell x c e;exact⟨v,h8 x c e v z⟩
 ·obtain⟨m,⟨o,_,_,ho,_⟩,_⟩:=I.loc;exact free _ o (λz=>(gi _ z).2.1 rfl) ho I.free
 ·obtain⟨v,o,ho,hd⟩:=I.cell x c e;exact free c o (λz=>(gi c z).2.2.1 x c e rfl) ho (I.freeC x c e)
 ·obtain⟨e,n,ne,nf,d⟩:=I.pin p hp;have ku:=λz=>(gi p.1 z).2.2.2 p hp rfl
  exact⟨keep p.1 p.2 ne nf ku e n,free p.1 p.2 ku e n,ne,nf,d⟩
theorem Inv.callN{g' t' d' ch}(I:Inv X a7 σ H s)(u:Un (frs X.stack) ch H H' s.heap h')(hok:HOk X.prog X.w H' h')(hg:AllBare g')
  (gi:∀b∈ch,(b∈X.ex\/X.s₀.heap.get? b=none)/\b≠X.env.locals/\(∀x c,X.env.cells.lookup x=some c->c≠b)/\∀p∈X.pn++a7,p.1≠b):
  Inv X a7 σ H' {s with heap:=h',gens:=g',drawn:=d',toks:=t' }:=by
 obtain⟨m,⟨o,es,ep,ho,r⟩,_⟩:=id I.loc;obtain⟨sl,hL⟩:=u.any ho I.free λz=>(gi _ z).2.1 rfl
 exact I.stepN gi (λb o hL hb hc e n=>u.keep b o e n (λz=>(aD (I.stkSub b z)).elim hL hb) hc) (λb o _ _ hc e n=>u.any e n hc) (λb o hc e n=>u.free b o e n hc) (λb o hc e=>u.there b o e hc) u.tups u.frzs u.tbls (λm' hm=>by
  obtain⟨o',es',u7,ip,r'⟩:=hm;rw[ho]at ip;cases ip;exact⟨_,es',u7,hL,r'⟩) hok hg
end
end L2
namespace L3
open PySem PySem.Spec PyProof.Rows L2
theorem kjs{e env env0}(h:env.frame=env0.frame):noteFrame e env=noteFrame e env0:=by
 unfold noteFrame PySem.frameOf;rw[h]
structure Fl0 (h:Heap)(x:Addr)(C:Value)(vs:Array Value):Prop where
 ob:h.get? x=some {cls:=C,data:=.fields vs}
 sz:1<vs.size
structure FlT (h:Heap)(x T:Addr)(C:Value)(fl:Value):Prop where
 ex:∃vs,h.get? x=some {cls:=C,data:=.fields vs}/\vs[1]?=some (.ref T)
 tb:∃oT ts,h.get? T=some oT/\oT.data=.fields ts/\ts[3]?=some fl
 ne:T≠x
structure Chg (fs ch:List Addr)(h h':Heap):Prop where
 keep:∀b o,h.get? b=some o->b∉fs->b∉ch->h'.get? b=some o
 slot:∀b o,h.get? b=some o->b∉ch->∃sl,h'.get? b=some {cls:=o.cls,dict:=o.dict,data:=o.data,slots:=sl}
 size:h.objs.size<=h'.objs.size
theorem Chg.trans{fs ch ch' h h1 h2}(a:Chg fs ch h h1)(b:Chg fs ch' h1 h2)(hc:∀x∈ch',x∈ch\/h.get? x=none):Chg fs ch h h2 where
 keep:=λx o e h1 h2=>b.keep x o (a.keep x o e h1 h2) h1 λz=>(hc x z).elim h2 λq=>by rw[q]at e;cases e
 slot:=λx o e hn=>by
  obtain⟨sl,e1⟩:=a.slot x o e hn;obtain⟨pk,e2⟩:=b.slot x _ e1 λz=>(hc x z).elim hn λq=>by rw[q]at e;cases e
  exact⟨pk,e2⟩
 size:=Ye a.size b.size
theorem Chg.mono{fs ch ch' h h1}(a:Chg fs ch h h1)(hc:∀x∈ch,x∈ch'):Chg fs ch' h h1:=⟨λb o e h1 h2=>a.keep b o e h1 λz=>h2 (hc b z),λb o e h2=>a.slot b o e λz=>h2 (hc b z),a.size⟩
theorem Chg.of_upd{fs h a f}: Chg fs [a] h (h.update a f):=
  ⟨λb o e _ hn=>by rw[Z1 _ _ _ _ (λz=>hn (aB z))]; exact e,
   λb o e hn=>⟨o.slots,by rw[Z1 _ _ _ _ (λz=>hn (aB z))]; exact e⟩,by rw[Heap.size_update]; exact X7 _⟩
theorem Chg.of_push{fs h o}:Chg fs [] h (h.push o):=
 ⟨λb o e _ _=>X1 _ e,λb o e _=>⟨o.slots,X1 _ e⟩,by rw[Yv];lia⟩
theorem Chg.of_slots{fs h h'}(s:Heap.SlotsOnly fs h h'):Chg fs [] h h':=
 ⟨λb o e hn _=>(s.2.1 b hn).trans e,λb o e _=>s.2.2 b o e,by rw[s.1];exact X7 _⟩
theorem Chg.refl{fs ch h}:Chg fs ch h h:=⟨λ_ _ e _ _=>e,λb o e _=>⟨o.slots,e⟩,X7 _⟩
section
variable {M:Model}{A:Around}{E:VP9}{s:Shared}{base:Heap}{env:Env}{outer:List Env}{L x T:Addr}{C fl:Value}
theorem kx5{head hadNext vs Q}(hA:A.frames=some (env::outer))(hF:s.heap.FunFrames base (env::outer))(hL:env.frame=some L)(ho:Fl0 s.heap x C vs)
  (h:∀h' T',Chg (frs (env::outer)) [x] s.heap h'->s.heap.objs.size<=T'->FlT h' x T' C (rawInt ↑L)->Q () {s with heap:=h' }):
  wpAny M A (do
   let a <-PySem.frameOf env
   let pl <-entryPlaceOf L hadNext
   let b <-EntryCells.newEntry head a Value.none (rawInt ↑L) Value.none pl
   setField (Value.ref x) 1 b) Q E s:=by
 refine X0 (wpAny_frameOf_fun hA hF hL λh1 s1=>?_);have hx:x∉frs _:=λz=>by
  obtain⟨_,o,e,hn⟩:=hF.mem z;rw[ho.ob]at e;cases e;exact hn _ rfl
 have o1:h1.get? x=some {cls:=C,data:=.fields vs}:=(s1.2.1 x hx).trans ho.ob;have fin:∀pl,IsPlace pl->wpAny M A (do
   let b <-EntryCells.newEntry head _ Value.none _ Value.none pl
   setField _ 1 b) Q E {s with heap:=h1}:=λpl cg=>by
  refine X0 ?_;unfold EntryCells.newEntry newFields;have har:([head,Value.ref L,Value.none,rawInt ↑L,Value.none]++if pl.isEmpty=true then List.replicate 6 Value.none else pl).toArray[3]?=some (rawInt ↑L):=by simp
  have hsz:([head,Value.ref L,Value.none,rawInt ↑L,Value.none]++if pl.isEmpty=true then List.replicate 6 Value.none else pl).toArray.size<=sizeLine+2:=by
   rcases cg with rfl|⟨_,_,_,_,_,_,_,rfl⟩<;>simp<;>decide
  generalize ([head,Value.ref L,Value.none,rawInt ↑L,Value.none]++if pl.isEmpty=true then List.replicate 6 Value.none else pl).toArray=ar at har hsz;refine Y2 ?_ hsz;have o2:(h1.push {cls:=.type "traceback",data:=.fields ar}).get? x=some {cls:=C,data:=.fields vs}:=X1 _ o1;refine Yw o2 rfl ho.sz ?_;have cw:h1.objs.size≠x:=λe=>absurd (Xa o1) (e▸Yu _)
  have o3:((h1.push {cls:=.type "traceback",data:=.fields ar}).update x (Obj.mapFields λy=>y.setIfInBounds 1 (.ref h1.objs.size))).get? h1.objs.size=some {cls:=.type "traceback",data:=.fields ar}:=by
   rw[Z1 _ _ _ _ cw];exact X6 _ rfl
  refine h _ h1.objs.size (((Chg.of_slots s1).mono (λ_ z=>nomatch z)).trans ((Chg.of_push.mono λ_ z=>nomatch z).trans Chg.of_upd λy hy=>.inl hy) λy hy=>.inl hy) (s1.1▸X7 _) ⟨⟨vs.setIfInBounds 1 _,?_,Array.getElem?_setIfInBounds_self_of_lt ho.sz⟩,⟨_,_,o3,rfl,har⟩,cw⟩;exact Xz _ o2 rfl
 exact X0 (wpAny_entryPlaceOf λpl cg=>fin pl cg)
theorem wzp{vs Q}(hA:A.frames=some (env::outer))(hF:s.heap.FunFrames base (env::outer))(hL:env.frame=some L)(ho:Fl0 s.heap x C vs)(hv:vs[1]?=some .none)
  (h:∀h' T',Chg (frs (env::outer)) [x] s.heap h'->s.heap.objs.size<=T'->FlT h' x T' C (rawInt ↑L)->Q () {s with heap:=h' }):wpAny M A (noteFrame (.ref x) env) Q E s:=by
 unfold noteFrame;rw[hL];exact X0 (Z2 ho.ob rfl hv (kx5 hA hF hL ho h))
theorem upd3{T oT ts v}{h:Heap}(e:h.get? T=some oT)(ed:oT.data=.fields ts)(h3:3<ts.size):
  ∃o' ts',(h.update T (Obj.mapFields λy=>y.setIfInBounds 3 v)).get? T=some o'/\o'.data=.fields ts'/\ts'[3]?=some v:=by
 obtain⟨c,d,dt,sl⟩:=oT;cases(ed);exact⟨_,ts.setIfInBounds 3 v,Xz _ e rfl,rfl,Array.getElem?_setIfInBounds_self_of_lt h3⟩
theorem wzo{Q}(hA:A.frames=some (env::outer))(hF:s.heap.FunFrames base (env::outer))(hL:env.frame=some L)(f:FlT s.heap x T C fl)
  (h:∀h' T',Chg (frs (env::outer)) [x,T] s.heap h'->(s.heap.objs.size<=T'\/T'=T)->FlT h' x T' C (rawInt ↑L)->Q () {s with heap:=h' }):wpAny M A (noteFrame (.ref x) env) Q E s:=by
 obtain⟨⟨vs,e1,v1⟩,⟨oT,ts,e2,d2,v2⟩,cw⟩:=f;have h3:3<ts.size:=by
  rw[Array.getElem?_eq_some_iff]at v2;exact v2.1
 have h1:1<vs.size:=by
  rw[Array.getElem?_eq_some_iff]at v1;exact v1.1
 unfold noteFrame;rw[hL];refine X0 (Z2 e1 rfl v1 (X0 (Z2 e2 d2 v2 ?_)))
 by_cases hf:(fl==rawInt ↑L)=true
 ·rw[X9 hf];have e:=eq_of_beq hf;subst e;exact X2 (h s.heap T Chg.refl (.inr rfl) ⟨⟨vs,e1,v1⟩,⟨oT,ts,e2,d2,v2⟩,cw⟩)
 ·rw[Xb hf];refine X0 (Yw e2 d2 h3 ?_);have c1:Chg (frs (env::outer)) [x,T] s.heap (s.heap.update T (Obj.mapFields λy=>y.setIfInBounds 3 Value.none)):=Chg.of_upd.mono λy hy=>by
   rw[aC hy];simp
  have e1':(s.heap.update T (Obj.mapFields λy=>y.setIfInBounds 3 Value.none)).get? x=some {cls:=C,data:=.fields vs}:=by
   rw[Z1 _ _ _ _ cw.symm];exact e1
  have hF':(s.heap.update T (Obj.mapFields λy=>y.setIfInBounds 3 Value.none)).FunFrames base (env::outer):=by
   refine hF.of_keeps λb o e hn=>⟨o,?_,rfl⟩
   rw[Z1 _ _ _ _ λz=>?_]
   ·exact e
   ·grind
  refine kx5 hA hF' hL ⟨e1',h1⟩ λh' T' c2 hs f'=>(h h' T' (c1.trans (c2.mono (ch':=[x,T]) λy hy=>by rw[aC hy];simp) λy hy=>.inl hy) (.inl ?_) f')
  rw[Heap.size_update]at hs;exact hs
theorem ww7{Q fr}(f:FlT s.heap x T C fl)(h:∀h',Chg (frs outer) [x,T] s.heap h'->FlT h' x T C (fr.elim Value.none λf=>rawInt ↑f)->Q () {s with heap:=h' }):wpAny M A (setFlight (.ref x) fr) Q E s:=by
 obtain⟨⟨vs,e1,v1⟩,⟨oT,ts,e2,d2,v2⟩,cw⟩:=f;have h3:3<ts.size:=by
  rw[Array.getElem?_eq_some_iff]at v2;exact v2.1
 refine X0 (Z2 e1 rfl v1 (Yw e2 d2 h3 (h _ (Chg.of_upd.mono λy hy=>by rw[aC hy];simp) ⟨⟨vs,?_,v1⟩,upd3 e2 d2 h3,cw⟩)))
 rwa [Z1 _ _ _ _ cw.symm]
end
structure XCls (K:Frag)(C:Addr):Prop where
 ga:findIn K (.ref C) "__getattribute__"=some (some (.builtin "BaseException.__getattribute__"))
 gt:findIn K (.ref C) "__getattr__"=some none
 fo:PySem.W.findObj K C none "__class__"=some (.bind (.builtin "getset_descriptor.__get__") (.builtin "object.__class__"))
 ob:PySem.W.mroIn K C (.type "object")=some true
 bx:PySem.W.mroIn K C (.type "BaseException")=some true
 cl:(PySem.W.clsIn K C).isSome=true
noncomputable def FpX(X:Cx)(a7:LA9)(H:Hp)(b:Addr):Prop:=
 H b=none/\b≠X.env.locals/\b∉X.fs/\(b∈X.ex\/X.s₀.heap.get? b=none)/\(∀x c,X.env.cells.lookup x=some c->c≠b)/\∀p∈X.pn++a7,p.1≠b
section
variable {X:Cx}{a7:LA9}{σ:L2.St}{H:Hp}{s:Shared}
theorem fpX{H' b}(I:Inv X a7 σ H s)(hb:s.heap.get? b=none)(hn:H' b=none):FpX X a7 H' b:=by
 refine⟨hn,λz=>?_,λz=>?_,?_,λx c e z=>?_,λp hp z=>?_⟩
 ·obtain⟨m,⟨o,_,_,ho,_⟩,_⟩:=I.loc
  grind
 ·obtain⟨_,o,e,_⟩:=I.ok.funs.mem z
  by_cases hx:b∈X.ex
  ·exact I.ok.exfs b hx z
  ·obtain _:=I.base.there b o e hx
   grind
 ·by_cases hx:b∈X.ex
  ·exact .inl hx
  ·cases e:X.s₀.heap.get? b with
   |none=>exact .inr rfl
   |some o=>
    obtain⟨o',e'⟩:=I.base.there b o e hx
    grind
 ·obtain⟨v,o,ho,_⟩:=I.cell x c e
  grind
 ·have:=(I.pin p hp).1
  grind
theorem FpX.of{b}(h:vY X a7 H b):FpX X a7 H b:=⟨h.1,h.2.1,h.2.2.1,h.2.2.2.1.imp id λz=>Heap.get?_none_of_le z,h.2.2.2.2⟩
theorem kzp{h' ch}(I:Inv X a7 σ H s)(c:Chg (frs X.stack) ch s.heap h')(hf:∀b∈ch,FpX X a7 H b):Inv X a7 σ H {s with heap:=h' }:=by
 refine I.callN (g':=s.gens) (t':=s.toks) (d':=s.drawn) ⟨λb o e _ h1 h2=>c.keep b o e h1 h2,λb o e _ _ h2=>c.slot b o e h2,λ_ _ _ n _=>n,λb o e h2=>?_,λ_ _ e=>e,λ_ _ _ e=>e,λ_ _ e=>⟨#[],by rw[e];simp⟩⟩ (λb u e=>?_) I.bare λb hb=>?_
 ·obtain⟨sl,q⟩:=c.slot b o e h2;exact⟨_,q⟩
 ·have no:∀d v,H d=some v->d∉frs X.stack/\d∉ch:=λd v e=>⟨λz=>(by rw[I.stkFree d z]at e;cases e),λz=>(by rw[(hf d z).1]at e;cases e)⟩
  refine(I.hok b u e).stay (λd v hc q=>?_) (λ_ q=>q) λ_ _ q=>q
  rcases hc with z|z
  ·rw[z]at q ⊢;exact c.keep b v q (no b u e).1 (no b u e).2
  ·exact c.keep d v q (no d _ z).1 (no d _ z).2
 ·obtain⟨_,f1,_,f3,f4,f5⟩:=hf b hb;exact⟨f3,f1,f4,f5⟩
end
structure Fx (X:Cx)(a7:LA9)(H:Hp)(h:Heap)(x:Addr)(C:Value):Prop where
 fp:FpX X a7 H x
 st:(∃vs,Fl0 h x C vs/\vs[1]?=some .none)\/∃T fl,FlT h x T C fl/\FpX X a7 H T
structure Xt (X:Cx)(a7:LA9)(σ:L2.St)(H:Hp)(x T:Addr)(C fl:Value)(s:Shared):Prop where
 inv:Inv X a7 σ H s
 fx:FpX X a7 H x
 fT:FpX X a7 H T
 f:FlT s.heap x T C fl
theorem Xt.to{X a7 σ H x T C fl s}(h:Xt X a7 σ H x T C fl s):Fx X a7 H s.heap x C:=⟨h.fx,.inr ⟨T,fl,h.f,h.fT⟩⟩
noncomputable def Xo(X:Cx)(E:XK)(e:Value)(s:Shared):Prop:=∃a7 σ H x C,e=.ref x/\Inv X a7 σ H s/\Fx X a7 H s.heap x C/\E C none H
noncomputable def xw(X:Cx)(E:XK):Prop:=∀a7 σ H s x C,Inv X a7 σ H s->Fx X a7 H s.heap x C->E C none H->X.xe (.ref x) s
abbrev Cx.ex'(X:Cx)(E:XK):Cx:=X.wish (Xo X E)
theorem Q7{X E}:xw (Cx.ex' X E) E:=λa7 σ H s x C I f q=>⟨a7,σ,H,x,C,rfl,I.unwish,⟨f.fp,f.st⟩,q⟩
noncomputable def zV(X:Cx):Prop:=∃env0 out,X.stack=env0::out/\X.env.frame=env0.frame
section
variable {X:Cx}{a7:LA9}{σ:L2.St}{H:Hp}{s:Shared}{M:Model}{E':VP9}{x T:Addr}{C fl:Value}
theorem qx2{A Q}(top:zV X)(hA:A.frames=X.A.frames)(I:Inv X a7 σ H s)(f:Fx X a7 H s.heap x C)(h:∀L T s',X.env.frame=some L->Xt X a7 σ H x T C (rawInt ↑L) s'->Q () s'):
  wpAny M A (noteFrame (.ref x) X.env) Q E' s:=by
 obtain⟨env0,out,e1,e2⟩:=top;have hF:=I.stack;have og:A.frames=some (env0::out):=by rw[hA,I.ok.frames,e1]
 rw[e1]at hF;obtain⟨_,⟨L,o,hL,_⟩,_⟩:=id hF;rw[kjs e2];have hL':=e2.trans hL;rcases f.st with⟨vs,f0,hv⟩|⟨T,fl,fT,pT⟩
 ·refine wzp og hF hL f0 hv λh' T' c hs n6=>h L T' _ hL' ⟨?_,f.fp,fpX I (Heap.get?_none_of_le hs) (I.hok.fresh hs),n6⟩
  rw[<-e1]at c;exact kzp I c λb hb=>by rw[aC hb];exact f.fp
 ·refine wzo og hF hL fT λh' T' c hs n6=>?_
  rw[<-e1]at c;refine h L T' _ hL' ⟨kzp I c λb hb=>?_,f.fp,?_,n6⟩
  ·simp only[Yn,Yc,or_false]at hb;rcases hb with rfl|rfl
   ·exact f.fp
   ·exact pT
  ·rcases hs with hs|hs
   ·exact fpX I (Heap.get?_none_of_le hs) (I.hok.fresh hs)
   ·rw[hs];exact pT
theorem kvf{A Q fr}(t:Xt X a7 σ H x T C fl s)(h:∀s',Xt X a7 σ H x T C (fr.elim Value.none λf=>rawInt ↑f) s'->Q () s'):wpAny M A (setFlight (.ref x) fr) Q E' s:=by
 refine ww7 t.f λh' c n6=>h _ ⟨kzp t.inv c λb hb=>?_,t.fx,t.fT,n6⟩
 simp at hb;rcases hb with rfl|rfl
 ·exact t.fx
 ·exact t.fT
theorem wqv{α A what ll Q}(t:Xt X a7 σ H x T C fl s)(h:∀s' n6,Xt X a7 σ H x T C n6 s'->E' (.ref x) s'):wpAny M A (PySem.passOn what (.ref x) ll:Sem α) Q E' s:=by
 obtain⟨vs,e1,v1⟩:=t.f.ex;exact X0 (Z2 e1 rfl v1 (X0 (kvf t λs' t'=>(wpAny_throw (h s' _ t')))))
theorem wqy{E}(top:zV X):PassesOwn M X.A X.env (Xo X E):=by
 rintro e s' ⟨a7,σ,H,x,C,rfl,I,f,q⟩;refine qx2 top rfl I f λL T s1 _ t=>?_
 obtain⟨vs,e1,v1⟩:=t.f.ex;exact X0 (Z2 e1 rfl v1 (kvf t λs2 t2=>⟨a7,σ,H,x,C,rfl,t2.inv,t2.to,q⟩))
end
noncomputable def CXE(P:Program)(w:World):CXT:=λouter H s E e s'=>∃x T C fl H',e=.ref x/\s'.os=s.os/\AllBare s'.gens/\Un (frs outer) [] H H' s.heap s'.heap/\HOk P w H' s'.heap /\
 s.heap.get? x=none/\s.heap.get? T=none/\H' x=none/\H' T=none/\FlT s'.heap x T C fl/\E C none H'
theorem wzh{X E}(g:xw X E):vjl (CXE X.prog X.w) X E:=by
 rintro a7 σ H s e s' I ⟨x,T,C,fl,H',rfl,os,bare,un,hok,hx,hT,nx,nT,f,q⟩;refine g a7 σ H' s' x C (I.call' os un hok bare λb hb=>nomatch hb) ⟨fpX I hx nx,.inr ⟨T,fl,f,fpX I hT nT⟩⟩ q
theorem vwo{CX P w K mg base N qual scope f cd A outer s H E}:
  zV (JW CX P w K mg base N qual scope f cd A outer s H E):=⟨_,_,rfl,rfl⟩
theorem qxp{P w K mg base N qual scope f cd A outer s H E e}{s'}
  (h:Xo (JW (CXE P w) P w K mg base N qual scope f cd A outer s H E) E e s'):(JW (CXE P w) P w K mg base N qual scope f cd A outer s H E).xe e s':=by
 obtain⟨a7,σ,H',x,C,rfl,I,fx,q⟩:=h;show wpAny _ _ _ _ _ s';refine X0 (qx2 vwo rfl I fx λL T s1 _ t=>(kvf t λs2 t2=>?_));have ge:∀b,FpX (JW (CXE P w) P w K mg base N qual scope f cd A outer s H E) a7 H' b->s.heap.get? b=none:=λb hb=>hb.2.2.2.1.elim (λz=>nomatch z) λz=>z
 exact⟨x,T,C,_,H',rfl,t2.inv.os,t2.inv.bare,t2.inv.base,t2.inv.hok,ge x t2.fx,ge T t2.fT,t2.fx.1,t2.fT.1,t2.f,q⟩
section
variable {P:Program}{w:World}{K:Frag}{mg:Str->Option Value}{base:Heap}
theorem qk{x qual st f fd N ps k sp}(F:Fun K x qual st f fd)(S:FnScope N ps (k5 st))(len:∀vs H Q E,sp vs H Q E->vs.length=ps.length)
  (kl:∀ba (A) (outer) (s) (H) (vs) (Q) (E),Room k (A.deeper (envOfC qual (k5 st) s.heap.objs.size f ba))->sp vs H Q E ->
   ∃t,PSs (Cx.ex' (JW (CXE P w) P w K mg base N qual (k5 st) f ba A outer s H E) E) (K1 st) t/\t {nx:=λ_ H'=>Q .non H',rt:=Q} (L2.start N vs) H):FnOk P w K mg base (CXE P w) (k+1) f fd ps sp:=by
 obtain⟨oc,od,kV,gq,pm,an,ba,ct,my,rfl,lk,ic⟩:=F.ex;refine xj4 lk ic S len λA outer s H vs Q E hr ni=>?_
 obtain⟨t,h,q⟩:=kl ba A outer s H vs Q E hr ni;exact⟨t,λa7 s' σ H' D I hw=>wpAny_mono (h a7 s' σ H' D (I.wish _) hw) (λf ji z=>z.unwish) λe ji z=>qxp z,q⟩
noncomputable def kz(P:Program)(w:World)(K:Frag)(mg:Str->Option Value)(base:Heap)(k:Nat)(x:Str)(ps:List Str)(sp:Sp):Prop:=
 ∃(f:Addr) (fd:FuncData),FnOk P w K mg base (CXE P w) k f fd ps sp/\Binds K fd ps []/\PySem.W.keepIn K (.ref f)=true/\mg x=some (.ref f)
end
section
variable {X:Cx}{x:Str}{p pos:Pos}{e:Expr}{es:List Expr}{t:TA}{ps:List Str}{sp:Sp}{k:Nat}{v:V}{E:XK}
theorem vvo(D:kz X.prog X.w X.K X.mg X.base k x ps sp)(hr:Room k X.A)(g:xw X E)(ha:PA X (e::es) t)(hg:autoParam (Gl X x) Ŕ)(fq:autoParam ((x==("__debug__":Str))=false) ŕ)
  (he:autoParam (starEach (e::es) X.env=(false,eval e X.env)::starEach es X.env) Ŕ) (cg:autoParam ((backTo pos (starEach es X.env)).any (·.1)=false) Ŕ):
  PE X (.Call (.Name x p) (e::es) [] pos) (wjz sp [] E t):=by
 obtain⟨f,fd,F,b,kp,m⟩:=D;exact vxm F hr hg m kp b .nil (wzh g) ha fq he cg
end
abbrev lcE(X:Cx)(scope:Scope)(N:List Str)(cl:List (Str×Addr))(C:Addr)(s0:Shared)(H0:Hp)(fp:List Addr)(EX:XK):Cx:=Cx.ex' (lcX X scope N cl C s0 H0 fp) EX
section
variable {prog:Program}{w:World}{A:Around}{R:Result->Shared->Prop}{s:Shared}
theorem vz7{f7 fh ak dy scope pos it af env}(Ex)(I:Nat->Shared->Prop)
  (gc:∀n s,I n s->wpAny (model prog w) A (pyNext it) (λr s1=>match r with
   | none=>R (.ok .next) s1
   | some v=>wpAny (model prog w) A (letOwnedTupleGo fh it v) (λ_ s2=>wpAny (model prog w) A (assign fh env v) (λ_ s3=>
     wpAny (model prog w) A (qxs dy env) (λok s4=>
      if ok=true then
       wpAny (model prog w) A (eval f7 env) (λx s5=>wpAny (model prog w) A (call (.builtin "list.append") [af,x]) (λ_ s6=>∃m,m<n/\I m s6) Ex s5) Ex s4
      else ∃m,m<n/\I m s4) Ex s3) Ex s2) Ex s1) Ex s)
  (hx:∀e s,Ex e s->notedBy (model prog w) A env (λe s'=>R (.error e) s') e s) n (h:I n s):codeAny (model prog w) A (.compLoop (.ListComp f7 [⟨fh,ak,dy,0⟩] scope pos) 0 it af env) R s:=by
 refine codeAny_loop rfl I (λn s hI=>(wpAny_noted ?_)) n h;rw[compTurn_list];refine wpAny_mono (X0 (wpAny_standAt (X0 (thn (gc n s hI) λr s1 h1=>?_)))) (λ_ _ q=>q) (λe s q=>?_)
 rotate_left
 ·exact hx e s q
 cases r with
 |none=>exact X2 h1
 |some v=>
  refine X0 (thn h1 λ_ s2 h2=>(X0 (thn h2 λ_ s3 h3=>(X0 (thn h3 λok s4 h4=>?_)))));cases ok with|false=>exact X2 ⟨rfl,h4⟩|true=>exact X0 (X0 (thn h4 λx s5 h5=>X0 (thn h5 λ_ s6 h6=>X2 (X2 ⟨rfl,h6⟩))))
end
section
variable {X:Cx}{tg ak f7:Expr}{dy:List Expr}{scope:Scope}{N:List Str}{k:Nat}{R:List Nat}{g:TG}{tt:TT}{te:TE}{pos:Pos}
theorem vvz{EX a7 d6}{σ σ':L2.St}{H2 H' s2 s' fp cl}{C x T:Addr}{Cc fl Q af use}(gx:xw X EX)
  (I2:Inv X a7 σ H2 s2) (f2:∀b∈fp,vY X a7 H2 b) (hC:s2.heap.objs.size<=C) (t:Xt (lcX X scope N cl C s2 H2 fp) d6 σ' H' x T Cc fl s') (q:EX Cc none H'):
  compPost (model X.prog X.w) X.A X.xe use Q af C (.error (.ref x)) s':=by
 obtain⟨m,hn,_⟩:=t.inv.loc;refine⟨m,hn,λh' sb ll _=>?_⟩;have fC:=I2.fpOk hC t.inv.free;have J2:Inv X a7 σ H' {s' with heap:=h',toks:=s'.toks}:=(I2.call' t.inv.os t.inv.base t.inv.hok t.inv.bare λb hb=>⟨(f2 b hb).2.2.2.1,(f2 b hb).2.1,(f2 b hb).2.2.2.2.1,(f2 b hb).2.2.2.2.2⟩).turned (λb o hb e=>(sb.2 b hb).trans e) fC.1 fC.2.1 fC.2.2.2.1 fC.2.2.2.2.1 fC.2.2.2.2.2;have fp':∀b,FpX (lcX X scope N cl C s2 H2 fp) d6 H' b->FpX X a7 H' b:=λb hb=>by
  rcases hb.2.2.2.1 with z|z
  ·exact⟨hb.1,(FpX.of (f2 b z)).2⟩
  ·exact fpX I2 z hb.1
 have nx:=t.fx.2.1;have nT:=t.fT.2.1;have f:FlT h' x T Cc fl:=by
  obtain⟨⟨vs,e1,v1⟩,⟨oT,ts,e2,d2,v2⟩,cw⟩:=t.f;exact⟨⟨vs,(sb.2 x nx).trans e1,v1⟩,⟨oT,ts,(sb.2 T nT).trans e2,d2,v2⟩,cw⟩
 refine wqv ⟨J2,fp' x t.fx,fp' T t.fT,f⟩ λs3 n6 t3=>gx a7 σ H' s3 x Cc t3.inv t3.to q
theorem kwn{EX a7}{σ:L2.St}{H2 s2 it fp tn J Q W cl}{E}
  {RR:Value->Addr->Result->Shared->Prop} (hc:X.calm=true) (top:zV X) (sc:LcOk X scope N k R)
  (cb:∀x c,cl.lookup x=some c->X.env.cells.lookup x=some c) (ca:∀y∈scope.names,y.2=.free->∃c,cl.lookup y.1=some c)
  (hg:∀C s0 H0 fp,PG (lcE X scope N cl C s0 H0 fp EX) tg g) (ht:∀C s0 H0 fp,PTs (lcE X scope N cl C s0 H0 fp EX) dy tt) (he:∀C s0 H0 fp,PE (lcE X scope N cl C s0 H0 fp EX) f7 te)
  (I2:Inv X a7 σ H2 s2) (T:Turn X.prog X.w X.K tg J fp it tn) (bu:tn 0 s2.heap) (f2:∀b∈fp,vY X a7 H2 b) (w0:∃m,W 0 m [] (J9 k R σ) H2) (gc:LcW g tt te Q J W)
  (hRR:∀D C oC m ys H' s',Inv X (a7++[(C,oC)]) σ (upd H' D (.lst ys)) s'->s'.heap.get? C=some oC->s'.heap.Ns C m->vY X a7 (upd H' D (.lst ys)) C->Q (.ref D) (upd H' D (.lst ys))->RR (.ref D) C (.ok .next) s')
  (hER:∀D C s' d6 σ' H' x T Cc fl,s2.heap.objs.size<=C->Xt (lcX X scope N cl C s2 H2 fp) d6 σ' H' x T Cc fl s'->EX Cc none H'->RR (.ref D) C (.error (.ref x)) s'):
  wpAny (model X.prog X.w) X.A (newList []) (λaf s3=>wpAny (model X.prog X.w) X.A (newFunctionEnv scope X.env.globals cl [] X.env.qual none .none (some X.env)) (λll s4=>
   codeAny (model X.prog X.w) X.A (.compStart (.ListComp f7 [⟨tg,ak,dy,0⟩] scope pos) 0 (.ref it) af {ll with scope:=relabel scope X.env}) (RR af ll.locals) s4) E s3) E s2:=by
 have sj:∀b∈fp,∃o,s2.heap.get? b=some o:=λb hb=>let ⟨o,e,_⟩:=T.obj 0 _ bu b hb;⟨o,e⟩
 refine Y2 (wpAny_newFunctionEnv sc.nocell (by intro y hy;simp at hy) (λh1 jl uc=>?_) sc.kind);dsimp only at jl uc ⊢;generalize eH:s2.heap.push {cls:=.type "list",dict:=none,data:=.seq ([]:List Value).toArray}=Hx at jl uc ⊢;have eC:Hx.objs.size=s2.heap.objs.size+1:=by rw[<-eH,Yv]
 generalize eD:s2.heap.objs.size=D at eC;generalize eC':Hx.objs.size=C at jl uc eC ⊢;have pj:D≠C:=⋯
 have hC:s2.heap.objs.size<=C:=⋯
 have hD:s2.heap.objs.size<=D:=⋯
 have bv:∀b o,s2.heap.get? b=some o->h1.get? b=some o:=λb o e=>by
  exact uc.extBut b o (Xe (Xn (Xa e) hC)) (X1 _ (eH▸X1 _ e))
 have accD:h1.get? D=some (WZ [] 0):=by
  refine uc.extBut _ _ pj (X1 _ ?_);rw [<-eH,<-eD];exact X6 _ rfl
 have below:∀b∈fp,b≠D/\b≠C:=λb hb=>by
  obtain⟨o,e⟩:=sj b hb;exact⟨Xe (Xn (Xa e) hD),Xe (Xn (Xa e) hC)⟩
 have ig:∀{H' oD},(∀b∈fp,H' b=none)->∀b∈fp,vY (lcE X scope N cl C s2 H2 fp EX) [(D,oD)] H' b:=fun {H' oD} hn b hb=>by
  obtain⟨_,f1,f3,f4,f5,f6⟩:=f2 b hb;refine⟨hn b hb,(below b hb).2,λz=>?_,.inl hb,λx c h=>f5 x c (cb x c h),λp hp=>?_⟩
  ·rcases aD (I2.stkSub b z)with y|y
   ·exact f1 y
   ·exact f3 y
  ·have e:p=(D,oD):=by
    have hp:p∈([]++[(D,oD)]:LA9):=hp
    simpa using hp
   rw [e];exact(below b hb).1.symm
 have loop:∀s3:Shared,s3={s2 with heap:=h1,toks:=s2.toks+([]:List (Str×Value)).length} ->
   codeAny (model X.prog X.w) X.A (.compLoop (.ListComp f7 [⟨tg,ak,dy,0⟩] scope pos) 0 (.ref it) (.ref D) (compEnvC scope cl C X.env)) (RR (.ref D) C) s3:=by
  rintro s3 rfl;obtain⟨m0,w0⟩:=w0;have hxx:∀e s,Xo (lcX X scope N cl C s2 H2 fp) EX e s->notedBy (model X.prog X.w) X.A (compEnvC scope cl C X.env) (λe s'=>RR (.ref D) C (.error e) s') e s:=by
   rintro e s ⟨d6,σ',H',x,Cc,rfl,I',f',q'⟩;have top':zV (lcX X scope N cl C s2 H2 fp):=top;exact qx2 (X:=lcX X scope N cl C s2 H2 fp) top' rfl I' f' λL T s1 _ t=>hER D C s1 d6 σ' H' x T Cc _ hC t q'
  refine vz7 (Xo (lcX X scope N cl C s2 H2 fp) EX) (λn s'=>∃i ys a9 nn σ' H',Inv (lcE X scope N cl C s2 H2 fp EX) [(D,WZ a9 nn)] σ' H' s'/\Vals ys a9/\tn i s'.heap/\(∀b∈fp,H' b=none)/\W i n ys σ' H') ?_ hxx m0
   ⟨0,[],[],0,_,H2,(vz5 I2 sc f2 sj hC hD pj cb ca bv jl accD (λv z=>by cases z)).wish _,.nil,T.keep _ _ _ bu (λb hb o e=>bv b o e),λb hb=>(f2 b hb).1,w0⟩
  rintro n s3 ⟨i,ys,a9,nn,σ3,H3,I3,rv,dg,qc,w3⟩;rcases gc i n ys σ3 H3 w3 with⟨stop,hz,qn⟩|⟨go,step⟩
  ·refine thn (T.done (lcE X scope N cl C s2 H2 fp EX) rfl rfl rfl hc i _ s3 σ3 H3 _ I3 (ig qc) dg stop) λr s4 ⟨hr,I4⟩=>?_
   subst hr;show RR (.ref D) C (.ok .next) s4;have hD4:=I4.pin (D,WZ a9 nn) (by show _∈([]++[(D,WZ a9 nn)]:LA9);simp);have J1:Inv X a7 σ H3 s4:=I2.call' I4.os I4.base I4.hok I4.bare λb hb=>⟨(f2 b hb).2.2.2.1,(f2 b hb).2.1,(f2 b hb).2.2.2.2.1,(f2 b hb).2.2.2.2.2⟩
   have fD:vY X a7 H3 D:=I2.fpOk hD hD4.2.1;have fC:vY X a7 H3 C:=I2.fpOk hC I4.free;have J2:Inv X a7 σ (upd H3 D (.lst ys)) s4:=jxj J1 hD4.2.1 fD.2.1 fD.2.2.2.1 fD.2.2.2.2.1 fD.2.2.2.2.2 ⟨hz,a9,nn,rv,hD4.1⟩;obtain⟨mC,nC,_⟩:=I4.loc;obtain⟨oC,es,ep,hoC,hdC,iq⟩:=id nC;have fC':vY X a7 (upd H3 D (.lst ys)) C:=⟨by rw[kY pj.symm];exact fC.1,fC.2⟩;refine hRR D C oC mC ys H3 s4 (J2.pins_of λp hp=>?_) hoC nC fC' (qn D hD4.2.1);rcases aA hp with z|z
   ·exact J2.pin p (lr9 _ z)
   ·rw[aC z];exact⟨hoC,fC'.1,fC'.2.1,fC'.2.2.1,λv y=>by rw[hdC]at y;cases y⟩
  ·refine thn (T.item (lcE X scope N cl C s2 H2 fp EX) rfl rfl rfl hc i _ s3 σ3 H3 _ I3 (ig qc) dg go) λr s4 ⟨u,hr,h4⟩=>?_
   subst hr;refine thn h4 λ_ s5 ⟨x,H5,I5,r5,y5,st5,fr5⟩=>?_
   have I5':=I5.pinned (ig fr5) (T.obj _ _ st5);have io:∀{σ'} {H':Hp} {s':Shared} {pl:LA9},Inv (lcE X scope N cl C s2 H2 fp EX) (pl++K8 fp s5.heap) σ' H' s'->tn (i+1) s'.heap/\∀b∈fp,H' b=none:=fun {σ' H' s' pl} I'=>by
    have q:∀b∈fp,∀o,s5.heap.get? b=some o->s'.heap.get? b=some o/\H' b=none:=λb hb o e=>by
     obtain⟨a1,a2,_⟩:=I'.pin (b,o) (lr9 _ (lr9 _ (jz3 hb e)));exact⟨a1,a2⟩
    refine⟨T.keep _ _ _ st5 λb hb o e=>(q b hb o e).1,λb hb=>?_⟩;obtain⟨o,e,_⟩:=T.obj _ _ st5 b hb;exact(q b hb o e).2
   refine thn (hg C s2 H2 fp _ s5 σ3 H5 x u _ I5' r5 (step x H5 y5)) λ_ s6 ⟨σ6,H6,I6,Ny,Nn,hNy,hNn,q6⟩=>?_
   refine thn (ht C s2 H2 fp _ s6 σ6 H6 _ I6 q6) λok s7 ⟨H7,I7,q7⟩=>?_
   cases ok with
   | false=>
    obtain⟨m',hm,w7⟩:=hNn _ q7;exact⟨m',hm,i+1,ys,a9,nn,σ6,H7,I7.unpinned,rv,(io I7).1,(io I7).2,w7⟩
   | true=>
    refine thn (he C s2 H2 fp _ s7 σ6 H7 _ I7 q7) λu8 s8 ⟨y,H8,I8,r8,q8⟩=>?_
    obtain⟨hz,m',hm,w8⟩:=hNy _ _ q8;have pD:=I8.pin (D,WZ a9 nn) (lr9 _ (ll9 _ (aB rfl)));have ah:=rv.length;refine append_at (hsz:=by rw[X8];lia) pD.1 λh9 sb9 e9=>?_
    have I8a:Inv (lcE X scope N cl C s2 H2 fp EX) ([]++K8 fp s5.heap) σ6 H8 s8:=I8.pins_of λp hp=>I8.pin p (lr9 _ (lr9 _ hp))
    have I9:Inv (lcE X scope N cl C s2 H2 fp EX) ([]++K8 fp s5.heap) σ6 H8 {s8 with heap:=h9,toks:=s8.toks}:=I8a.turned (it:=D) (λb o hb e=>(sb9.2 b hb).trans e) pD.2.1 pj (.inr hD)
     (λx c h z=>by
      obtain⟨v,q⟩:=I2.cell x c (cb x c h);exact absurd (Xn q.lt (by rw[z];exact hD)) (Yu _))
     (λp hp z=>by
      have hp:p∈([]++([]++K8 fp s5.heap):LA9):=hp;have hp:p∈K8 fp s5.heap:=by simpa using hp
      exact(below p.1 (kwj hp).1).1 z)
    have e9':h9.get? D=some (WZ (a9++[u8]) (nn+1)):=by rw[e9];simp[List.push_toArray]
    refine⟨m',hm,i+1,ys++[y],a9++[u8],nn+1,σ6,H8,I9.pins_of λp hp=>?_,rv.append (.cons r8 .nil),(io I9).1,(io I9).2,w8⟩;rw[aC hp];exact⟨e9',pD.2.1,pD.2.2.1,pD.2.2.2.1,λv z=>by cases z⟩
 exact codeAny_compStart_list (loop _ rfl) (T.self _ 0 _ _ _ (T.keep _ _ _ bu λb hb o e=>bv b o e) (loop _ rfl))
theorem vvn{EX:XK}{wi:TI}(N:List Str)(k:Nat)(R:List Nat)(hi:PI X tg ak wi)
  (hg:∀cl C s0 H0 fp,PG (lcE X scope N cl C s0 H0 fp EX) tg g) (ht:∀cl C s0 H0 fp,PTs (lcE X scope N cl C s0 H0 fp EX) dy tt) (he:∀cl C s0 H0 fp,PE (lcE X scope N cl C s0 H0 fp EX) f7 te)
  (gx:xw X EX) (top:zV X) (hc:autoParam (X.calm=true) Ŕ) (hk:autoParam (scope.kind=.function) Ŕ) (jd:autoParam (K7 X.N X.env.scope scope N k R=true) Ŕ) (hs:autoParam (∀x,foldedSetIterable ak X.env x=pure x) Ŗ):
  PE X (.ListComp f7 [⟨tg,ak,dy,0⟩] scope pos) (tLC wi g tt te k R):=by
 intro a7 s σ H Q I h;have sc:=qkd hk jd;obtain⟨cl,la,cb,ca⟩:=kq8 (scope:=scope) (env:=X.env) λy hy e=>I.ok.has y.1 (sc.caps y hy e)
 rw[eval_ListComp];refine wpAny_comprehension_free (use:=none) rfl hs la sc.kind sc.names (thn (hi a7 s σ H _ I h) λv s1 h1=>thn h1 λitv s2 h2=>?_);obtain⟨it,fp,tn,J,H2,e,I2,T,bu,f2,W,w0,gc⟩:=h2;subst e;refine kwn (EX:=EX) (RR:=λaf C=>compPost (model X.prog X.w) X.A X.xe none (EP X a7 σ Q) af C) hc top sc cb ca (hg cl) (ht cl) (he cl) I2 T bu f2 w0 gc ?_ ?_
 rotate_left
 ·intro D C s' d6 σ' H' x T Cc fl hC t q;exact vvz gx I2 f2 hC t q
 intro D C oC m ys H' s' I' _ nC fC q;exact⟨m,nC,λh' sb=>⟨.ref D,_,I'.unpinned.turned (it:=C) (t':=s'.toks) (λb o hb e=>(sb.2 b hb).trans e) fC.1 fC.2.1 fC.2.2.2.1 fC.2.2.2.2.1 fC.2.2.2.2.2,rfl,q⟩⟩
end
structure ExAt (K:Frag)(x:Addr)(ox:Obj)(C:Addr):Prop where
 cls:ox.cls=.ref C
 no:PySem.W.notCls ox=true
 di:ox.dict=none
 xc:XCls K C
end L3
namespace Q
open PySem
set_option genSizeOf true in
inductive D where
 |non|bl (b:Bool)|int (i:Int)|str (z:Str)|tup (xs:List D)|lst (xs:List D)|dct (ab:List (D×D))|obj (c:Str) (fs:List (Str×D))
instance:DecidableEq D:=λa b=>Classical.propDecidable (a=b)
instance:Inhabited D:=⟨.non⟩
mutual
noncomputable def D.pure:D->Bool
 |.tup xs=>D.pures xs|.lst _=>false|.dct _=>false|.obj _ _=>false|_=>true
noncomputable def D.pures:List D->Bool
 |[]=>true|a::x=>D.pure a&&D.pures x
end
theorem D.pures_all:∀xs,D.pures xs=xs.all D.pure
 |[]=>by simp[D.pures]|a::x=>by rw[D.pures,List.all_cons,D.pures_all x]
@[simp] theorem D.pures_map {α:Type} f (xs:List α)(h:∀x∈xs,(f x).pure=true):D.pures (xs.map f)=true:=by
 rw[D.pures_all,Ym];intro d hd;obtain⟨x,hx,rfl⟩:=aE hd;exact h x hx
mutual
noncomputable def peq:D->D->Bool
 |.non,.non=>true|.bl a,.bl b=>a==b|.bl a,.int b=>(if a then 1 else 0)==b|.int a,.bl b=>a==(if b then 1 else 0)|.int a,.int b=>a==b|.str a,.str b=>a==b|.lst as,.lst bs=>peqs as bs|.tup as,.tup bs=>peqs as bs|_,_=>false
noncomputable def peqs:List D->List D->Bool
 |[],[]=>true|a::as,b::bs=>peq a b&&peqs as bs|_,_=>false
end
mutual
noncomputable def D.flat:Nat->D->Bool
 |0,.tup _=>false|0,.lst _=>false|n+1,.tup xs=>D.flats n xs|n+1,.lst xs=>D.flats n xs|_,.dct _=>false|_,.obj _ _=>false|_,_=>true
noncomputable def D.flats:Nat->List D->Bool
 |_,[]=>true|n,a::x=>D.flat n a&&D.flats n x
end
mutual
noncomputable def k7:Nat->D->Bool
 |_,.non=>true|_,.int _=>true|_,.str _=>true|n+1,.tup xs=>keyDs n xs|_,_=>false
noncomputable def keyDs:Nat->List D->Bool
 |_,[]=>true|n,a::x=>k7 n a&&keyDs n x
end
inductive Own where
 |no|rt|dp
 deriving DecidableEq
abbrev Sd:=Own×D
abbrev En:=List (Option Sd)
inductive Res (α:Type) where
 |ok (E:En) (a:α)
 |exc (E:En) (c:Str)
abbrev Ev(α:Type):=En->Option (Res α)
abbrev Ex:=Ev Sd
noncomputable def bnd{α β:Type}(m:Option (Res α))(f:En->α->Option (Res β)):Option (Res β):=
 match m with
 |some (.ok E a)=>f E a|some (.exc E c)=>some (.exc E c)|none=>none
@[simp] theorem xke {α β:Type}(E:En)(a:α)(f:En->α->Option (Res β)):bnd (some (.ok E a)) f=f E a:=rfl
@[simp] theorem xjh {α β:Type}(E:En)(c:Str)(f:En->α->Option (Res β)):bnd (some (.exc E c)) f=some (.exc E c):=rfl
@[simp] theorem wxc {α β:Type}(f:En->α->Option (Res β)):bnd none f=none:=rfl
noncomputable def val{α:Type}(E:En)(x:Option α):Option (Res α):=x.map (Res.ok E)
@[simp] theorem wwz {α:Type}(E:En)(x:α):val E (some x)=some (.ok E x):=rfl
@[simp] theorem wx0 {α:Type}(E:En):val E (none:Option α)=none:=rfl
def cC(d:D):Ex:=λE=>some (.ok E (.dp,d))
noncomputable def cV(i:Nat):Ex:=λE=>match E[i]? with
 |some (some (_,d))=>some (.ok (E.set i (some (.no,d))) (.no,d))|_=>none
noncomputable def cMv(i:Nat):Ex:=λE=>match E[i]? with
 |some (some x)=>some (.ok (E.set i none) x)|_=>none
noncomputable def vV(i:Nat):Ex:=λE=>match E[i]? with
 |some (some x)=>some (.ok E x)|_=>none
def vE(c:Ex):Ex:=λE=>bnd (c E) λE x=>some (.ok E (.no,x.2))
abbrev C9(z:Int):Ex:=vE (cC (.int z))
noncomputable def cH(v:Ex):Ex:=λE=>bnd (v E) λE x=>if x.1=.no then some (.ok E (.no,x.2))else if x.2.pure then some (.ok E (.dp,x.2))else none
noncomputable def cF1(f:Sd->Option Sd)(a:Ex):Ex:=λE=>bnd (a E) λE x=>val E (f x)
noncomputable def cF2(f:Sd->Sd->Option Sd)(a b:Ex):Ex:=λE=>bnd (a E) λE x=>bnd (b E) λE y=>val E (f x y)
noncomputable def pu1(f:D->Option D):Sd->Option Sd:=λx=>(f x.2).map λd=>(.dp,d)
noncomputable def pu2(f:D->D->Option D):Sd->Sd->Option Sd:=λx y=>(f x.2 y.2).map λd=>(.dp,d)
noncomputable def xkb:D->List D
 |.lst xs=>xs|.tup xs=>xs|.dct ab=>ab.map (·.2)|_=>[]
def qz(x:Sd):Bool:=x.1 != .dp||D.pures (xkb x.2)
def sub:Own->Own
 |.dp=>.dp|_=>.no
noncomputable def ixN(n:Nat)(i:Int):Option Nat:=if 0<=i then(if i<n then some i.toNat else none)else if -(n:Int)<=i then some (i+n).toNat else none
noncomputable def ixD:D->D->Option D
 |.lst xs,.int i=>(ixN xs.length i).bind λj=>xs[j]?|.tup xs,.int i=>(ixN xs.length i).bind λj=>xs[j]?|.str z,.int i=>(ixN z.cps.size i).bind λj=>(z.cps.toList[j]?).map λc=>.str ⟨#[c]⟩|.dct ab,k=>(ab.find? λe=>decide (e.1=k)).map (·.2)|_,_=>none
def big:Nat:=16777216
noncomputable def i2(f:Int->Int->Option Int):D->D->Option D
 |.int a,.int b=>(f a b).map .int|_,_=>none
noncomputable def c2(f:Int->Int->Bool):D->D->Option D
 |.int a,.int b=>some (.bl (f a b))|_,_=>none
def qvu(a:Int):Bool:=decide (-(2 ^ 64)<a)&&decide (a<2 ^ 64)
noncomputable def jK:Sd->Sd->Option Sd:=λx y=>match x.2,y.2 with
 |.int a,.int b=>some (.dp,.int (a+b))|.str a,.str b=>if a.cps.size+b.cps.size<=big then some (.dp,.str (a++b))else none|.lst a,.lst b=>if a.length+b.length<=big/\qz x/\qz y then some (.rt,.lst (a++b))else none|.tup a,.tup b=>if a.length+b.length<=big/\qz x/\qz y then some (.no,.tup (a++b))else none|_,_=>none
noncomputable def Wj(a b:Int):Bool:=qvu a||qvu b||(decide (a.natAbs.log2<2000000)&&decide (b.natAbs.log2<2000000))
noncomputable def ZV:Sd->Sd->Option Sd:=λx y=>match x.2,y.2 with
 |.int a,.int b=>if Wj a b then some (.dp,.int (a*b))else none|.lst a,.int k=>if -(2 ^ 63)<=k/\k<2 ^ 63/\a.length*k.toNat<=big/\qz x then some (.rt,.lst (List.replicate k.toNat a).flatten)else none|.str z,.int n=>if(z.cps.size<=1024/\n<=1024/\-1024<=n)/\(Txt.mul z n).cps.size<=big then some (.dp,.str (Txt.mul z n))else none|_,_=>none
def YJ:D->D->Option D:=i2 λa b=>some (a - b)
noncomputable def x3:D->D->Option D:=i2 λa b=>if 0<b/\b.natAbs.log2<9000 then some (a / b)else none
noncomputable def kJ:D->D->Option D:=i2 λa b=>if 0<b then some (a % b)else none
noncomputable def fEq:D->D->Option D:=λa b=>if a.flat 40&&b.flat 40 then some (.bl (peq a b))else none
noncomputable def fNe:D->D->Option D:=λa b=>if a.flat 40&&b.flat 40 then some (.bl (!peq a b))else none
def isNon:D->Bool
 |.non=>true|_=>false
def fLt:D->D->Option D:=c2 λa b=>decide (a<b)
def fLe:D->D->Option D:=c2 λa b=>decide (a<=b)
def fGt:D->D->Option D:=c2 λa b=>decide (b<a)
def fGe:D->D->Option D:=c2 λa b=>decide (b<=a)
def KW:D->Option D
 |.int a=>some (.int (-a))|_=>none
noncomputable def xj8(a b:Str):Bool:=!(Builtin.Str.occurrences b a 0 b.length 1).isEmpty
noncomputable def fIn:D->D->Option D:=λx y=>match y with
 |.lst ys=>if x.flat 30&&D.flats 30 ys then some (.bl (ys.any λz=>peq z x))else none|.tup ys=>if x.flat 30&&D.flats 30 ys then some (.bl (ys.any λz=>peq z x))else none
 |.str b=>(match x with
  |.str a=>some (.bl (xj8 a b))
  |_=>none)
 |.dct ab=>some (.bl (ab.any λe=>decide (e.1=x)))|_=>none
noncomputable def Vv:D->D->Option D:=λx y=>(fIn x y).bind λd=>match d with
 |.bl k=>some (.bl (!k))|_=>none
noncomputable def qZ:D->Option D
 |.lst xs=>some (.int xs.length)|.tup xs=>some (.int xs.length)|.str z=>some (.int z.length)|_=>none
noncomputable def kind:D->String
 |.non=>"NoneType"|.bl _=>"bool"|.int _=>"int"|.str _=>"str"|.tup _=>"tuple"|.lst _=>"list"|.dct _=>"dict"|.obj _ _=>""
def isaK(t u:String):Bool:=t==u||(t == "bool" && u == "int")
noncomputable def z8(u:String):D->Option D:=λd=>match d with
 |.obj _ _=>none|.dct _=>none|_=>some (.bl (isaK (kind d) u))
def fIsNon:D->Option D:=λd=>some (.bl (isNon d))
def fNotNon:D->Option D:=λd=>some (.bl (!isNon d))
abbrev Ts:=Ev Bool
noncomputable def truth:D->Option Bool
 |.bl b=>some b|.non=>some false|.int i=>some (i != 0)|.str z=>some (z.cps.size != 0)|.lst xs=>some (!xs.isEmpty)|.tup xs=>some (!xs.isEmpty)|.dct xs=>some (!xs.isEmpty)|.obj _ _=>none
def tE(c:Ex):Ts:=λE=>bnd (c E) λE x=>val E (truth x.2)
noncomputable def tAnd(a b:Ts):Ts:=λE=>bnd (a E) λE x=>if x then b E else some (.ok E false)
noncomputable def tOr(a b:Ts):Ts:=λE=>bnd (a E) λE x=>if x then some (.ok E true)else b E
def tNot(a:Ts):Ts:=λE=>bnd (a E) λE x=>some (.ok E (!x))
def tYes:Ts:=λE=>some (.ok E true)
noncomputable def cIf(t:Ts)(a b:Ex):Ex:=λE=>bnd (t E) λE x=>if x then a E else b E
noncomputable def VQ(a b:Ex):Ex:=λE=>bnd (a E) λE x=>match x.2 with
 |.bl true=>b E|.bl false=>some (.ok E (.dp,.bl false))|_=>none
noncomputable def K9:D->D->Option D:=λx y=>match y with
 |.dct _=>none|_=>fIn x y
noncomputable def zK:D->D->Option D:=λx y=>match y with
 |.dct _=>none|_=>Vv x y
noncomputable def f2First(f:D->Option D):Sd->Sd->Option Sd:=λx y=>if isNon y.2 then(f x.2).map λd=>(.dp,d)else none
noncomputable def jJ:D->D->Option D:=λx y=>match x with
 |.dct _=>none|_=>ixD x y
noncomputable def j8(a b:Ex):Ex:=λE=>bnd (a E) λE x=>bnd (b E) λE y=>val E ((jJ x.2 y.2).map λd=>(sub x.1,d))
noncomputable def truthQ:D->Option Bool:=λd=>match d with
 |.dct _=>none|_=>truth d
def tEQ(c:Ex):Ts:=λE=>bnd (c E) λE x=>val E (truthQ x.2)
noncomputable def vqp(c:Ex):Ex:=λE=>bnd (c E) λE x=>val E ((truthQ x.2).map λk=>(.dp,.bl (!k)))
noncomputable def vW:List Ex->Ev (List Sd)
 |[],E=>some (.ok E [])|c::cs,E=>bnd (c E) λE x=>bnd (vW cs E) λE xs=>some (.ok E (x::xs))
def zw(x:Sd):Bool:=x.1 == .dp||x.2.pure
noncomputable def kj(o:Own)(cs:List Ex):Ex:=λE=>bnd (vW cs E) λE xs=>if o=.dp then(if xs.all zw then some (.ok E (.dp,.lst (xs.map (·.2))))else none)else some (.ok E (.rt,.lst (xs.map (·.2))))
noncomputable def kX(o:Own)(cs:List Ex):Ex:=λE=>bnd (vW cs E) λE xs=>if o=.dp then(if xs.all zw then some (.ok E (.dp,.tup (xs.map (·.2))))else none)else some (.ok E (.no,.tup (xs.map (·.2))))
inductive Fl where
 |nx (E:En)|rt (E:En) (x:Sd)|ct (E:En)|bk (E:En)|xc (E:En) (c:Str)
abbrev Sm:=En->Option Fl
noncomputable def ofE{α:Type}(m:Option (Res α))(f:En->α->Option Fl):Option Fl:=
 match m with
 |some (.ok E a)=>f E a|some (.exc E c)=>some (.xc E c)|none=>none
@[simp] theorem xk5 {α:Type}(E:En)(a:α)(f:En->α->Option Fl):ofE (some (.ok E a)) f=f E a:=rfl
@[simp] theorem wzn {α:Type}(E:En)(c:Str)(f:En->α->Option Fl):ofE (some (.exc E c)) f=some (.xc E c):=rfl
@[simp] theorem wx9 {α:Type}(f:En->α->Option Fl):ofE none f=none:=rfl
noncomputable def j5(a b:Sm):Sm:=λE=>match a E with
 |some (.nx E)=>b E|r=>r
def qV:Sm:=λE=>some (.nx E)
noncomputable def jk(i:Nat)(c:Ex):Sm:=λE=>ofE (c E) λE x=>some (.nx (E.set i (some x)))
def jQ(c:Ex):Sm:=λE=>ofE (c E) λE x=>some (.rt E x)
noncomputable def sIf(t:Ts)(a b:Sm):Sm:=λE=>ofE (t E) λE x=>if x then a E else b E
inductive Tg where
 |n (i:Nat)|t (ts:List Nat)
noncomputable def setAll:List Nat->List D->En->Option En
 |[],[],E=>some E|i::is,d::ds,E=>setAll is ds (E.set i (some (.no,d)))|_,_,_=>none
noncomputable def Tg.put:Tg->D->En->Option En
 |.n i,d,E=>some (E.set i (some (.no,d)))|.t is,.tup ds,E=>setAll is ds E|.t is,.lst ds,E=>setAll is ds E|.t _,_,_=>none
noncomputable def V5(is:List Nat)(c:Ex):Sm:=λE=>ofE (c E) λE x=>(Tg.put (.t is) x.2 E).map .nx
noncomputable def wV(tg:Tg)(b:Sm):List D->En->Option Fl
 | [],E=>some (.nx E)
 | d::ds,E=>match tg.put d E with
  |none=>none
  |some E=>match b E with
   |some (.nx E)=>wV tg b ds E|some (.ct E)=>wV tg b ds E|some (.bk E)=>some (.nx E)|r=>r
noncomputable def qw(it:Ev (List D))(tg:Tg)(b:Sm):Sm:=λE=>ofE (it E) λE ds=>wV tg b ds E
noncomputable def at'{α:Type}(L:List (Option α))(j:Nat):Option α:=(L[j]?).join
noncomputable def clr{α:Type}:List Nat->List (Option α)->List (Option α)
 |[],L=>L|j::R,L=>clr R (L.set j none)
noncomputable def back{α:Type}:List Nat->List (Option α)->List (Option α)->List (Option α)
 |j::R,q::B,L=>back R B (L.set j q)|_,_,L=>L
noncomputable def Q2(k:Nat)(R:List Nat)(E:En):En:=List.replicate k none++R.map (at' E)
noncomputable def JZ(k:Nat)(R:List Nat)(B E:En):En:=back R (B.drop k) (clr R E)
noncomputable def lcL(tg:Tg)(t:Ts)(c:Ex):List D->En->List Sd->Option (Res (List Sd))
 |[],B,af=>some (.ok B af)
 |d::ds,B,af=>match tg.put d B with
  |none=>none|some B=>bnd (t B) λB x=>if x then bnd (c B) λB y=>lcL tg t c ds B (af++[y])else lcL tg t c ds B af
noncomputable def mkL(o:Own)(E:En)(xs:List Sd):Option (Res Sd):=
 if o=.dp then(if xs.all zw then some (.ok E (.dp,.lst (xs.map (·.2))))else none)else some (.ok E (.rt,.lst (xs.map (·.2))))
noncomputable def cLC(o:Own)(k:Nat)(R:List Nat)(it:Ev (List D))(tg:Tg)(t:Ts)(c:Ex):Ex:=λE=>bnd (it E) λE ds=>
 match lcL tg t c ds (Q2 k R E) []with
 |some (.ok B xs)=>mkL o (JZ k R B E) xs|some (.exc B e)=>some (.exc (JZ k R B E) e)|none=>none
noncomputable def Q9:Option (Option Sd)->Bool
 |some (some (_,.lst _))=>true|_=>false
noncomputable def qY(f:List D->D->Option (List D))(i:Nat)(c:Ex):Sm:=λE=>if Q9 E[i]? then ofE (c E) λE x=>match E[i]? with
 |some (some (o,.lst xs))=>if o=.no then none else(match f xs x.2 with
  |some ys=>some (.nx (E.set i (some (if o=.dp/\zw x then .dp else .rt,.lst ys))))
  |none=>none)
 |_=>none
 else none
noncomputable def qX:List D->D->Option (List D):=λxs d=>if xs.length<big then some (xs++[d])else none
noncomputable def J5:D->Option D
 |.int i=>some (.int i)|.bl k=>some (.int (if k then 1 else 0))|.str z=>if z.length<=640 then(PySem.intText? z).map .int else none|_=>none
noncomputable def V6:Sd->Option Sd:=λx=>match x.2 with
 |.lst xs=>if qz x then some (.rt,.lst xs)else none|.tup xs=>if qz x then some (.rt,.lst xs)else none|_=>none
noncomputable def xz:Sd->Option Sd:=λx=>match x.2 with
 |.lst xs=>if qz x then some (.no,.tup xs)else none|.tup xs=>if qz x then some (.no,.tup xs)else none|_=>none
noncomputable def seqOf:D->Option (List D)
 |.lst xs=>some xs|.tup xs=>some xs|.str z=>if z.cps.size<=big then some (z.cps.toList.map λc=>.str ⟨#[c]⟩)else none|_=>none
noncomputable def itS(c:Ex):Ev (List D):=λE=>bnd (c E) λE x=>val E (seqOf x.2)
def z7(i:Int):Bool:=decide (-(2 ^ 62)<=i)&&decide (i<2 ^ 62)
noncomputable def jW(lo hi:Int):List D:=(List.range (hi - lo).toNat).map λ(k:Nat)=>.int (lo+(k:Int))
noncomputable def vK(c:Ex):Ev (List D):=λE=>bnd (c E) λE x=>match x.2 with
 |.int j=>if z7 j/\j.toNat<=big then some (.ok E (jW 0 j))else none|_=>none
noncomputable def Qw(c:Ex):Ex:=λE=>bnd (c E) λE x=>match x.2 with
 |.int j=>if z7 j/\j.toNat<=big then some (.ok E (.rt,.lst (jW 0 j)))else none|_=>none
abbrev Fn:=List Sd->Option (Res Sd)
noncomputable def fn(n:Nat)(b:Sm):Fn:=λxs=>match b (xs.map some++List.replicate (n - xs.length) none)with
 |some (.rt E x)=>some (.ok E x)|some (.nx E)=>some (.ok E (.dp,.non))|some (.xc E c)=>some (.exc E c)|_=>none
def letAll(xs:List Sd):List Sd:=xs.map λx=>(.no,x.2)
noncomputable def jw(f:Fn)(cs:List Ex):Ex:=λE=>bnd (vW cs E) λE xs=>match f (letAll xs)with
 |some (.ok _ y)=>some (.ok E y)|some (.exc _ c)=>some (.exc E c)|none=>none
end Q
namespace Q
open PySem PySem.Spec PyProof.Rows L2 L3
mutual
noncomputable def Q1(w:PySem.World):D->Int
 |.int i=>hashInt i|.str z=>hashStr w z|.tup xs=>reduceHash (Builtin.Tuple.tupleHashOf (hashDs w xs))|_=>4238894112
noncomputable def hashDs(w:PySem.World):List D->List Int
 |[]=>[]|a::x=>Q1 w a::hashDs w x
end
def Kd:Type:={d:D // k7 6 d=true}
instance:DecidableEq Kd:=λa b=>Classical.propDecidable (a=b)
abbrev Ent:=Kd×Addr×Value
noncomputable def DicO(a:Addr)(es:List Ent)(ep:Nat):HO:=.ext λw h=>∃o ds,h.get? a=some o/\o.ExactDict/\o.data=.dict ds ep/\ds.toList=es.map λx=>(⟨Q1 w x.1.1,.ref x.2.1,x.2.2⟩:DictEntry)
mutual
noncomputable def PuR(K:Frag)(H:Hp):D->V->Prop
 |.non,v=>v=.non|.int i,v=>v=.int i|.str z,v=>v=.str z/\z.length<=sizeLine|.tup ds,v=>∃a xs,v=.ref a/\SqT K H a xs/\PuRs K H ds xs|_,_=>False
noncomputable def PuRs(K:Frag)(H:Hp):List D->List V->Prop
 |[],xs=>xs=[]|d::ds,xs=>∃x r,xs=x::r/\PuR K H d x/\PuRs K H ds r
end
noncomputable def DcN(K:Frag)(H:Hp)(a:Addr)(ks:List D)(vs:List V):Prop:=∃(es:List Ent) (ep:Nat),H a=some (DicO a es ep)/\(a==sysModules)=false/\es.length<=sizeLine/\(es.map (·.1)).Nodup/\ks=es.map (·.1.1)/\(∀x∈es,PuR K H x.1.1 (.ref x.2.1))/\Vals vs (es.map (·.2.2))
noncomputable def DcI(H:Hp)(a:Addr)(ks:List D)(vs:List V):Prop:=∃(kv:List (Int×V)) (m:Str),H a=some (.dK (kv.map λp=>(Sum.inl p.1,p.2)))/\ks=.str m::kv.map (λp=>D.int p.1)/\vs=.non::kv.map (·.2)
noncomputable def DcA(K:Frag)(H:Hp)(a:Addr)(ks:List D)(vs:List V):Prop:=DcN K H a ks vs\/DcI H a ks vs
noncomputable def xkj(K:Frag)(a:Addr)(xs:List V):Prop:=∃(a9:Array Value) (n:Nat),K.lookup a=some {cls:=.type "list",data:=.seq a9 n}/\a9.size<=sizeLine/\Vals xs a9.toList
noncomputable def wxe(K:Frag)(H:Hp)(a:Addr)(xs:List V):Prop:=(∃o,H a=some (.frz o (.lst xs)))\/xkj K a xs
noncomputable def LsR(K:Frag)(H:Hp)(a:Addr)(xs:List V):Prop:=Rd H a (.lst xs)\/xkj K a xs
theorem LsR.of{K H a xs}(h:wxe K H a xs):LsR K H a xs:=h.imp .inr id
theorem LsR.sq{K H a xs}(h:LsR K H a xs):SqL K H a xs:=by
 rcases h with h|⟨a9,n,h1,h2,h3⟩
 ·exact .inl h
 ·exact .inr ⟨_,a9,n,h1,rfl,rfl,rfl,h2,h3⟩
theorem LsR.is{X a7}{σ:L2.St}{H s a xs}(I:L2.Inv X a7 σ H s)(h:LsR X.K H a xs):xs.length<=sizeLine/\∃(a9:List Value) (n:Nat),Vals xs a9/\s.heap.get? a=some {cls:=.type "list",data:=.seq a9.toArray n}:=by
 rcases h with h|⟨a9,n,h1,h2,h3⟩
 ·obtain⟨z,a9,n,r,e⟩:=h.ok I.hok;exact⟨z,a9,n,r,e⟩
 ·have hl:=h3.length;simp at hl;exact⟨⋯,a9.toList,n,h3,by simpa using I.kIn a _ h1⟩
noncomputable def ExD(K:Frag)(H:Hp)(c:Str)(v:V):Prop:=∃x o C,v=.ref x/\H x=some (.frz o (.ext λ_ _=>True))/\ExAt K x o C/\nsIn K mainGlobals c=some (some (.ref C))
mutual
noncomputable def RepL(K:Frag)(H:Hp)(g:Bool):D->V->List Addr->Prop
 |.non,v,as=>v=.non/\as=[]|.bl b,v,as=>v=.bl b/\as=[]|.int i,v,as=>v=.int i/\as=[]|.str z,v,as=>v=.str z/\as=[]/\z.length<=sizeLine|.tup ds,v,as=>∃a xs,v=.ref a/\SqT K H a xs/\RepA K H g ds xs as|.lst ds,v,as=>∃a xs bs,v=.ref a/\RepA K H g ds xs bs/\((H a=some (.lst xs)/\as=a::bs)\/(g=true/\wxe K H a xs/\as=bs))|.dct ab,v,as=>∃a xs bs,v=.ref a/\RepP K H g ab xs bs/\DcA K H a (ab.map (·.1)) xs/\as=a::bs|.obj c _,v,as=>as=[]/\ExD K H c v
noncomputable def RepA(K:Frag)(H:Hp)(g:Bool):List D->List V->List Addr->Prop
 |[],xs,as=>xs=[]/\as=[]|d::ds,xs,as=>∃x r bs cs,xs=x::r/\as=bs++cs/\RepL K H g d x bs/\RepA K H g ds r cs
noncomputable def RepP(K:Frag)(H:Hp)(g:Bool):List (D×D)->List V->List Addr->Prop
 |[],xs,as=>xs=[]/\as=[]|(_,d)::ds,xs,as=>∃x r bs cs,xs=x::r/\as=bs++cs/\RepL K H g d x bs/\RepP K H g ds r cs
end
noncomputable def RepR(K:Frag)(H:Hp):D->V->List Addr->Prop
 |.lst ds,v,as=>∃a xs bs,v=.ref a/\RepA K H true ds xs bs/\H a=some (.lst xs)/\as=a::bs|.dct ab,v,as=>∃a xs bs,v=.ref a/\RepP K H true ab xs bs/\DcA K H a (ab.map (·.1)) xs/\as=a::bs|_,_,_=>False
noncomputable def RepO(K:Frag)(H:Hp):Own->D->V->List Addr->Prop
 |.no=>RepL K H true|.rt=>RepR K H|.dp=>RepL K H false
section
variable {K:Frag}{H H':Hp}
noncomputable def Kp(H H':Hp)(as:List Addr):Prop:=(∀a xs,H a=some (.tup xs)->H' a=some (.tup xs))/\(∀a o u,H a=some (.frz o u)->H' a=some (.frz o u))/\∀a∈as,∀ob,H a=some ob->H' a=some ob
theorem Kp.left{as bs}(k:Kp H H' (as++bs)):Kp H H' as:=⟨k.1,k.2.1,λa ha=>k.2.2 a (ll9 _ ha)⟩
theorem Kp.right{as bs}(k:Kp H H' (as++bs)):Kp H H' bs:=⟨k.1,k.2.1,λa ha=>k.2.2 a (lr9 _ ha)⟩
theorem Kp.tail{a bs}(k:Kp H H' (a::bs)):Kp H H' bs:=⟨k.1,k.2.1,λb hb=>k.2.2 b (lc9 _ hb)⟩
theorem Kp.tupT{as a xs}(k:Kp H H' as)(h:SqT K H a xs):SqT K H' a xs:=by
 rcases h with(h|⟨o,h⟩)|h
 ·exact .inl (.inl (k.1 a xs h))
 ·exact .inl (.inr ⟨o,k.2.1 a o _ h⟩)
 ·exact .inr h
theorem Kp.frzL{as a xs}(k:Kp H H' as)(h:wxe K H a xs):wxe K H' a xs:=by
 rcases h with⟨o,h⟩|h
 ·exact .inl ⟨o,k.2.1 a o _ h⟩
 ·exact .inr h
mutual
theorem PuR.kp{as}(k:Kp H H' as):∀{d v},PuR K H d v->PuR K H' d v
 |.non,_,h=>h|.int _,_,h=>by unfold PuR at h ⊢;exact h
 |.tup ds,_,h=>by
  obtain⟨a,xs,e,s,r⟩:=h;exact⟨a,xs,e,k.tupT s,PuRs.kp k r⟩
 |.bl _,_,h=>h.elim|.str _,_,h=>by unfold PuR at h ⊢;exact h|.lst _,_,h=>h.elim|.dct _,_,h=>by unfold PuR at h;exact h.elim|.obj _ _,_,h=>h.elim
theorem PuRs.kp{as}(k:Kp H H' as):∀{ds xs},PuRs K H ds xs->PuRs K H' ds xs
 |[],_,h=>by unfold PuRs at h ⊢;exact h
 |d::ds,_,h=>by
  obtain⟨x,r,e,h1,h2⟩:=h;exact⟨x,r,e,PuR.kp k h1,PuRs.kp k h2⟩
end
theorem Kp.dcn{a bs ks vs}(k:Kp H H' (a::bs))(h:DcN K H a ks vs):DcN K H' a ks vs:=by
 obtain⟨es,ep,e,h1,h2,h3,h4,h5,h6⟩:=h;exact⟨es,ep,k.2.2 a X5 _ e,h1,h2,h3,h4,λx hx=>PuR.kp k (h5 x hx),h6⟩
theorem Kp.dca{a bs ks vs}(k:Kp H H' (a::bs))(h:DcA K H a ks vs):DcA K H' a ks vs:=by
 rcases h with h|⟨kv,m,e,h⟩
 ·exact .inl (k.dcn h)
 ·exact .inr ⟨kv,m,k.2.2 a X5 _ e,h⟩
theorem Kp.of_same{as}(s:jY H H'):Kp H H' as:=⟨λa xs h=>s a _ h,λa o u h=>s a _ h,λa _ ob h=>s a ob h⟩
mutual
theorem RepL.kp{g}:∀{d v as},RepL K H g d v as->Kp H H' as->RepL K H' g d v as
 | .non,_,_,h,_=>h| .bl _,_,_,h,_=>by unfold RepL at h ⊢;exact h| .int _,_,_,h,_=>h| .str _,_,_,h,_=>by unfold RepL at h ⊢;exact h
 | .tup ds,_,_,h,k=>by
  obtain⟨a,xs,e,s,r⟩:=h;exact⟨a,xs,e,k.tupT s,RepA.kp r k⟩
 | .lst ds,_,_,h,k=>by
  obtain⟨a,xs,bs,e,r,q⟩:=h;refine⟨a,xs,bs,e,?_,?_⟩
  ·rcases q with⟨_,rfl⟩|⟨_,_,rfl⟩
   ·exact RepA.kp r k.tail
   ·exact RepA.kp r k
  ·rcases q with⟨h1,rfl⟩|⟨hg,h1,rfl⟩
   ·exact .inl ⟨k.2.2 a X5 _ h1,rfl⟩
   ·exact .inr ⟨hg,k.frzL h1,rfl⟩
 |.dct ab,_,_,h,k=>by
  obtain⟨a,xs,bs,e,r,q,rfl⟩:=h;exact⟨a,xs,bs,e,RepP.kp r k.tail,k.dca q,rfl⟩
 |.obj _ _,_,_,h,k=>by
  obtain⟨e,x,o,C,h1,h2,h3⟩:=h;exact⟨e,x,o,C,h1,k.2.1 _ _ _ h2,h3⟩
theorem RepA.kp{g}:∀{ds xs as},RepA K H g ds xs as->Kp H H' as->RepA K H' g ds xs as
 |[],_,_,h,_=>by unfold RepA at h ⊢;exact h
 |d::ds,_,_,h,k=>by
  obtain⟨x,r,bs,cs,e1,rfl,h1,h2⟩:=h;exact⟨x,r,bs,cs,e1,rfl,RepL.kp h1 k.left,RepA.kp h2 k.right⟩
theorem RepP.kp{g}:∀{ds xs as},RepP K H g ds xs as->Kp H H' as->RepP K H' g ds xs as
 |[],_,_,h,_=>by unfold RepP at h ⊢;exact h
 |_::ds,_,_,h,k=>by
  obtain⟨x,r,bs,cs,e1,rfl,h1,h2⟩:=h;exact⟨x,r,bs,cs,e1,rfl,RepL.kp h1 k.left,RepP.kp h2 k.right⟩
end
mutual
theorem RepL.wk:∀{d v as},RepL K H false d v as->RepL K H true d v as
 |.non,_,_,h=>h|.bl _,_,_,h=>by unfold RepL at h ⊢;exact h|.int _,_,_,h=>h|.str _,_,_,h=>by unfold RepL at h ⊢;exact h
 |.tup ds,_,_,h=>by
  obtain⟨a,xs,e,s,r⟩:=h;exact⟨a,xs,e,s,RepA.wk r⟩
 |.lst ds,_,_,h=>by
  obtain⟨a,xs,bs,e,r,q⟩:=h;refine⟨a,xs,bs,e,RepA.wk r,?_⟩;rcases q with q|⟨z,_⟩
  ·exact .inl q
  ·grind
 |.dct ab,_,_,h=>by
  obtain⟨a,xs,bs,e,r,q,z⟩:=h;exact⟨a,xs,bs,e,RepP.wk r,q,z⟩
 |.obj _ _,_,_,h=>h
theorem RepA.wk:∀{ds xs as},RepA K H false ds xs as->RepA K H true ds xs as
 |[],_,_,h=>by unfold RepA at h ⊢;exact h
 |d::ds,_,_,h=>by
  obtain⟨x,r,bs,cs,e1,e2,h1,h2⟩:=h;exact⟨x,r,bs,cs,e1,e2,RepL.wk h1,RepA.wk h2⟩
theorem RepP.wk:∀{ds xs as},RepP K H false ds xs as->RepP K H true ds xs as
 |[],_,_,h=>h
 |_::ds,_,_,h=>by
  obtain⟨x,r,bs,cs,e1,e2,h1,h2⟩:=h;exact⟨x,r,bs,cs,e1,e2,RepL.wk h1,RepP.wk h2⟩
end
mutual
theorem RepL.al{g}:∀{d v as},RepL K H g d v as->∀a∈as,(∃xs,H a=some (.lst xs))\/(∃ φ,H a=some (.ext φ))\/∃ab,H a=some (.dK ab)
 | .non,_,_,h=>by rw[h.2];exact λ_ z=>nomatch z| .bl _,_,_,h=>by rw[h.2];exact λ_ z=>nomatch z| .int _,_,_,h=>by rw[h.2];exact λ_ z=>nomatch z| .str _,_,_,h=>by rw[h.2.1];exact λ_ z=>nomatch z
 | .tup ds,_,_,h=>by
  obtain⟨a,xs,e,s,r⟩:=h;exact RepA.al r
 | .lst ds,_,_,h=>by
  obtain⟨a,xs,bs,e,r,q⟩:=h;rcases q with⟨h1,rfl⟩|⟨_,_,rfl⟩
  ·intro b hb;rcases aD hb with rfl|hb
   ·exact .inl ⟨_,h1⟩
   ·exact RepA.al r b hb
  ·exact RepA.al r
 | .dct ab,_,_,h=>by
  obtain⟨a,xs,bs,e,r,q,rfl⟩:=h;intro b hb;rcases aD hb with rfl|hb
  ·rcases q with⟨es,ep,q,_⟩|⟨kv,m,q,_⟩
   ·exact .inr (.inl ⟨_,q⟩)
   ·exact .inr (.inr ⟨_,q⟩)
  ·exact RepP.al r b hb
 |.obj _ _,_,_,h=>by rw[h.1];exact λ_ z=>nomatch z
theorem RepA.al{g}:∀{ds xs as},RepA K H g ds xs as->∀a∈as,(∃xs,H a=some (.lst xs))\/(∃ φ,H a=some (.ext φ))\/∃ab,H a=some (.dK ab)
 |[],_,_,h=>by rw[h.2];exact λ_ z=>nomatch z
 |d::ds,_,_,h=>by
  obtain⟨x,r,bs,cs,e1,rfl,h1,h2⟩:=h;intro a ha;rcases aA ha with ha|ha
  ·exact RepL.al h1 a ha
  ·exact RepA.al h2 a ha
theorem RepP.al{g}:∀{ds xs as},RepP K H g ds xs as->∀a∈as,(∃xs,H a=some (.lst xs))\/(∃ φ,H a=some (.ext φ))\/∃ab,H a=some (.dK ab)
 |[],_,_,h=>by rw[h.2];exact λ_ z=>nomatch z
 |_::ds,_,_,h=>by
  obtain⟨x,r,bs,cs,e1,rfl,h1,h2⟩:=h;intro a ha;rcases aA ha with ha|ha
  ·exact RepL.al h1 a ha
  ·exact RepP.al h2 a ha
end
mutual
theorem RepL.pu{g g'}:∀{d v as},RepL K H g d v as->d.pure=true->as=[]/\RepL K H g' d v []
 |.non,_,_,h,_=>⟨h.2,h.1,rfl⟩|.bl _,_,_,h,_=>⟨h.2,h.1,rfl⟩|.int _,_,_,h,_=>⟨h.2,h.1,rfl⟩|.str _,_,_,h,_=>⟨h.2.1,h.1,rfl,h.2.2⟩
 |.tup ds,_,_,h,p=>by
  obtain⟨a,xs,e,s,r⟩:=h;obtain⟨z,r'⟩:=RepA.pu (g':=g') r (p);exact⟨z,a,xs,e,s,r'⟩
 |.lst ds,_,_,h,p=>by unfold D.pure at p;cases p|.dct ds,_,_,h,p=>by cases p|.obj _ _,_,_,h,p=>by unfold D.pure at p;cases p
theorem RepA.pu{g g'}:∀{ds xs as},RepA K H g ds xs as->D.pures ds=true->as=[]/\RepA K H g' ds xs []
 |[],_,_,h,_=>⟨h.2,h.1,rfl⟩
 |d::ds,_,_,h,p=>by
  unfold D.pures at p;rw[Bool.and_eq_true]at p;obtain⟨x,r,bs,cs,e1,rfl,h1,h2⟩:=h;obtain⟨rfl,q1⟩:=RepL.pu (g':=g') h1 p.1;obtain⟨rfl,q2⟩:=RepA.pu (g':=g') h2 p.2;exact⟨rfl,x,r,[],[],e1,rfl,q1,q2⟩
end
theorem RepR.wk:∀{d v as},RepR K H d v as->RepL K H true d v as
 |.lst ds,_,_,h=>by
  obtain⟨a,xs,bs,e,r,q,z⟩:=h;exact⟨a,xs,bs,e,r,.inl ⟨q,z⟩⟩
 |.dct ab,_,_,h=>by
  obtain⟨a,xs,bs,e,r,q,z⟩:=h;exact⟨a,xs,bs,e,r,q,z⟩
theorem RepR.kp:∀{d v as},RepR K H d v as->Kp H H' as->RepR K H' d v as
 |.lst ds,_,_,h,k=>by
  obtain⟨a,xs,bs,e,r,q,rfl⟩:=h;exact⟨a,xs,bs,e,r.kp k.tail,k.2.2 a X5 _ q,rfl⟩
 |.dct ab,_,_,h,k=>by
  obtain⟨a,xs,bs,e,r,q,rfl⟩:=h;exact⟨a,xs,bs,e,r.kp k.tail,k.dca q,rfl⟩
theorem RepO.wk:∀{o d v as},RepO K H o d v as->RepL K H true d v as
 |.no,_,_,_,h=>h|.rt,_,_,_,h=>RepR.wk h|.dp,_,_,_,h=>RepL.wk h
theorem RepO.kp:∀{o d v as},RepO K H o d v as->Kp H H' as->RepO K H' o d v as
 |.no,_,_,_,h,k=>RepL.kp h k|.rt,_,_,_,h,k=>RepR.kp h k|.dp,_,_,_,h,k=>RepL.kp h k
end
structure Sl where
 o:Own
 d:D
 v:V
 as:List Addr
noncomputable def Sl.own(x:Sl):List Addr:=match x.o with
 |.no=>[]|.rt=>x.as.take 1|.dp=>x.as
noncomputable def Sl.frz(x:Sl):List Addr:=match x.o with
 |.no=>x.as|.rt=>x.as.drop 1|.dp=>[]
theorem Sl.parts(x:Sl):x.own++x.frz=x.as:=by
 unfold Sl.own Sl.frz;cases x.o with|no=>rfl|rt=>exact List.take_append_drop 1 x.as|dp=>exact Xv _
theorem Sl.own_as{x:Sl}{a}(h:a∈x.own):a∈x.as:=by rw[<-x.parts];exact ll9 _ h
theorem Sl.frz_as{x:Sl}{a}(h:a∈x.frz):a∈x.as:=by rw[<-x.parts];exact lr9 _ h
theorem Sl.as_of{x:Sl}{a}(h:a∈x.as):a∈x.own\/a∈x.frz:=by rw[<-x.parts]at h;exact aA h
def Sl.let(x:Sl):Sl:={x with o:=.no}
abbrev Ls:=List (Option Sl)
def j9(L:Ls):List Addr:=L.flatMap λx=>x.elim [] Sl.own
def jV(L:Ls):List Addr:=L.flatMap λx=>x.elim [] Sl.frz
@[simp] theorem wqx:j9 []=[]:=rfl
@[simp] theorem wjg:jV []=[]:=rfl
@[simp] theorem vj x (L:Ls):j9 (some x::L)=x.own++j9 L:=by simp[j9]
@[simp] theorem xx x (L:Ls):jV (some x::L)=x.frz++jV L:=by simp[jV]
@[simp] theorem qqi (L:Ls):j9 (none::L)=j9 L:=by simp[j9]
@[simp] theorem kzr (L:Ls):jV (none::L)=jV L:=by simp[jV]
@[simp] theorem jX (L T):j9 (L++T)=j9 L++j9 T:=by simp[j9]
@[simp] theorem qx (L T):jV (L++T)=jV L++jV T:=by simp[jV]
theorem mem_owned{L a}:a∈j9 L↔∃x,some x∈L/\a∈x.own:=by
 unfold j9;rw[List.mem_flatMap];constructor
 ·rintro ⟨y,hy,h⟩;cases y with|none=>simp_all|some x=>exact⟨x,hy,h⟩
 ·rintro ⟨x,hx,h⟩;exact⟨some x,hx,h⟩
theorem mem_frozen{L a}:a∈jV L↔∃x,some x∈L/\a∈x.frz:=by
 unfold jV;rw[List.mem_flatMap];constructor
 ·rintro ⟨y,hy,h⟩;cases y with|none=>simp_all|some x=>exact⟨x,hy,h⟩
 ·rintro ⟨x,hx,h⟩;exact⟨some x,hx,h⟩
noncomputable def Sl.ok(K:Frag)(H:Hp)(x:Sl):Prop:=RepO K H x.o x.d x.v x.as
theorem Sl.ok.al{K H}{x:Sl}(h:x.ok K H):∀a∈x.as,(∃xs,H a=some (.lst xs))\/(∃ φ,H a=some (.ext φ))\/∃ab,H a=some (.dK ab):=(RepO.wk h).al
theorem Sl.ok.some{K H}{x:Sl}(h:x.ok K H){a}(ha:a∈x.as):H a≠none:=λz=>by
 rcases h.al a ha with⟨xs,e⟩|⟨xs,e⟩|⟨xs,e⟩<;>(rw[z]at e;cases e)
structure World (K:Frag)(H:Hp)(L:Ls):Prop where
 ok:∀x,some x∈L->x.ok K H
 nd:(j9 L).Nodup
 ds:∀a∈j9 L,a∉jV L
structure Step (H:Hp)(L:Ls)(H':Hp)(L':Ls):Prop where
 keep:∀a ob,H a=some ob->a∉j9 L->H' a=some ob
 own:∀a∈j9 L',a∈j9 L\/H a=none
 frz:∀a∈jV L',a∈jV L\/a∈j9 L\/H a=none
section
variable {K:Frag}{H H1 H2 H':Hp}{L L1 L2' L' T:Ls}{x y:Sl}
theorem World.own_al(w:World K H L){a}(h:a∈j9 L):(∃xs,H a=some (.lst xs))\/(∃ φ,H a=some (.ext φ))\/∃ab,H a=some (.dK ab):=by
 obtain⟨x,hx,ha⟩:=mem_owned.mp h;exact(w.ok x hx).al a (Sl.own_as ha)
theorem World.own_some(w:World K H L){a}(h:a∈j9 L):H a≠none:=by
 obtain⟨x,hx,ha⟩:=mem_owned.mp h;exact(w.ok x hx).some (Sl.own_as ha)
theorem World.frz_some(w:World K H L){a}(h:a∈jV L):H a≠none:=by
 obtain⟨x,hx,ha⟩:=mem_frozen.mp h;exact(w.ok x hx).some (Sl.frz_as ha)
theorem Step.refl:Step H L H L:=⟨λ_ _ h _=>h,λ_ h=>.inl h,λ_ h=>.inl h⟩
theorem Step.trans(a:Step H L H1 L1)(b:Step H1 L1 H2 L2'):Step H L H2 L2' where
 keep:=λc ob h hn=>b.keep c ob (a.keep c ob h hn) λz=>(a.own c z).elim hn λe=>by rw[h]at e;cases e
 own:=λc hc=>by
  rcases b.own c hc with z|z
  ·exact a.own c z
  ·by_cases h:c∈j9 L
   ·exact .inl h
   ·refine .inr ?_;cases e:H c with|none=>rfl|some ob=>rw[a.keep c ob e h]at z;cases z
 frz:=λc hc=>by
  rcases b.frz c hc with z|z|z
  ·exact a.frz c z
  ·exact .inr (a.own c z)
  ·by_cases h:c∈j9 L
   ·exact .inr (.inl h)
   ·refine .inr (.inr ?_);cases e:H c with|none=>rfl|some ob=>rw[a.keep c ob e h]at z;cases z
theorem Step.kp(a:Step H L H' L')(w:World K H L){as}(h:∀b∈as,b∉j9 L):Kp H H' as:=by
 have no:∀b ob,H b=some ob->(∀xs,ob≠.lst xs)->(∀ φ,ob≠.ext φ)->(∀ab,ob≠.dK ab)->H' b=some ob:=λb ob e h1 h2 h3=>a.keep b ob e λz=>by
  rcases w.own_al z with _|_|_
  ·grind
  ·grind
  ·grind
 exact⟨λb xs e=>no b _ e (λ_ z=>(nomatch z)) (λ_ z=>(nomatch z)) (λ_ z=>(nomatch z)),λb o u e=>no b _ e (λ_ z=>(nomatch z)) (λ_ z=>(nomatch z)) (λ_ z=>(nomatch z)),λb hb ob e=>a.keep b ob e (h b hb)⟩
theorem Step.frame(a:Step H L H' L')(w:World K H (L++T))(w':World K H' L')(wL:World K H L):World K H' (L'++T):=by
 have nd:=w.nd;rw [jX,Xj]at nd;have dis:=λb hb hT=>nd.2.2 b hb b hT rfl
 have okT:=λx hx=>w.ok x (lr9 _ hx)
 have nT:∀x,some x∈T->∀b∈x.as,b∉j9 L:=λx hx b hb hL=>by
  rcases Sl.as_of hb with z|z
  ·exact dis b hL (mem_owned.mpr ⟨x,hx,z⟩)
  ·refine w.ds b (by rw[jX];exact ll9 _ hL) ?_;rw[qx];exact lr9 _ (mem_frozen.mpr ⟨x,hx,z⟩)
 refine⟨λx hx=>?_,?_,λb hb=>?_⟩
 ·rcases aA hx with hx|hx
  ·exact w'.ok x hx
  ·exact(okT x hx).kp (a.kp wL (nT x hx))
 ·rw[jX,Xj];refine⟨w'.nd,nd.2.1,λb hb c hc e=>?_⟩;subst e;obtain⟨x,hx,fk⟩:=mem_owned.mp hc;rcases a.own b hb with z|z
  ·exact dis b z hc
  ·exact(okT x hx).some (Sl.own_as fk) z
 ·rw[jX]at hb;rw[qx];intro hf;rcases aA hb with hb|hb
  ·rcases aA hf with hf|hf
   ·exact w'.ds b hb hf
   ·obtain⟨x,hx,fk⟩:=mem_frozen.mp hf;rcases a.own b hb with z|z
    ·exact nT x hx b (Sl.frz_as fk) z
    ·exact(okT x hx).some (Sl.frz_as fk) z
  ·rcases aA hf with hf|hf
   ·obtain⟨x,hx,fk⟩:=mem_owned.mp hb;rcases a.frz b hf with z|z|z
    ·exact w.ds b (by rw[jX];exact lr9 _ hb) (by rw[qx];exact ll9 _ z)
    ·exact dis b z hb
    ·exact(okT x hx).some (Sl.own_as fk) z
   ·exact w.ds b (by rw[jX];exact lr9 _ hb) (by rw[qx];exact lr9 _ hf)
theorem World.left(w:World K H (L++T)):World K H L:=by
 have nd:=w.nd;rw[jX,Xj]at nd;exact⟨λx hx=>w.ok x (ll9 _ hx),nd.1,λa ha hf=>w.ds a (by rw[jX];exact ll9 _ ha) (by rw[qx];exact ll9 _ hf)⟩
theorem World.right(w:World K H (L++T)):World K H T:=by
 have nd:=w.nd;rw[jX,Xj]at nd;exact⟨λx hx=>w.ok x (lr9 _ hx),nd.2.1,λa ha hf=>w.ds a (by rw[jX];exact lr9 _ ha) (by rw[qx];exact lr9 _ hf)⟩
theorem World.comm(w:World K H (L++T)):World K H (T++L):=by
 refine⟨λx hx=>w.ok x ?_,?_,λa ha hf=>w.ds a ?_ ?_⟩
 ·grind
 ·have nd:=w.nd;rw[jX,Xj]at nd ⊢;exact⟨nd.2.1,nd.1,λa ha b hb e=>nd.2.2 b hb a ha e.symm⟩
 ·rw[jX]at ha ⊢;rcases aA ha with h|h
  ·exact lr9 _ h
  ·exact ll9 _ h
 ·rw[qx]at hf ⊢;rcases aA hf with h|h
  ·exact lr9 _ h
  ·exact ll9 _ h
theorem World.tail{q}(w:World K H (q::L)):World K H L:=World.right (L:=[q]) w
theorem World.head(w:World K H (some x::L)):x.ok K H:=w.ok x X5
theorem World.apart(w:World K H (some x::L)):∀a∈x.as,a∉j9 L:=λa ha hL=>by
 rcases Sl.as_of ha with z|z
 ·have nd:=w.nd;rw[vj,Xj]at nd;exact nd.2.2 a z a hL rfl
 ·exact w.ds a (lr9 _ hL) (by rw[xx];exact ll9 _ z)
theorem World.cons(w:World K H L)(h:x.ok K H)(n:x.own.Nodup)(h1:∀a∈x.own,a∉j9 L)(h2:∀a∈x.own,a∉jV L)(h3:∀a∈x.frz,a∉j9 L)(h4:∀a∈x.own,a∉x.frz):World K H (some x::L):=by
 refine⟨λy hy=>?_,?_,λa ha hf=>?_⟩
 ·rcases aD hy with z|z
  ·grind
  ·exact w.ok y z
 ·rw[vj,Xj];exact⟨n,w.nd,λa ha b hb e=>by subst e;exact h1 a ha hb⟩
 ·rw[xx]at hf;rcases aA ha with ha|ha
  ·simp_all
  ·rcases aA hf with hf|hf
   ·exact h3 a hf ha
   ·exact w.ds a ha hf
theorem World.consNo(w:World K H L)(h:x.ok K H)(ho:x.o=.no)(h3:∀a∈x.as,a∉j9 L):World K H (some x::L):=by
 have e1:x.own=[]:=by unfold Sl.own;rw[ho]
 have e2:x.frz=x.as:=by unfold Sl.frz;rw[ho]
 exact w.cons h (by simp_all) (e1▸λ_ z=>nomatch z) (by simp_all) (e2▸h3) (by simp_all)
theorem World.consPu(w:World K H L)(h:x.ok K H)(e:x.as=[]):World K H (some x::L):=by
 have e1:∀a,a∉x.own:=λa ha=>by have:=Sl.own_as ha;rw[e]at this;exact nomatch this
 have e2:∀a,a∉x.frz:=λa ha=>by have:=Sl.frz_as ha;rw[e]at this;exact nomatch this
 have e3:=List.eq_nil_iff_forall_not_mem.mpr e1;exact w.cons h (by simp_all) (λa z=>absurd z (e1 a)) (λa z=>absurd z (e1 a)) (λa z=>absurd z (e2 a)) (λa z=>absurd z (e1 a))
theorem jqu{L:Ls}{i q}(h:some y∈L.set i q):q=some y\/some y∈L:=by
 rcases List.mem_or_eq_of_mem_set h with z|z
 ·exact .inr z
 ·exact .inl z.symm
theorem Wv{i a}(h:a∈j9 (L.set i (some x))):a∈x.own\/a∈j9 L:=by
 obtain⟨y,hy,ha⟩:=mem_owned.mp h;rcases jqu hy with z|z
 ·grind
 ·exact .inr (mem_owned.mpr ⟨y,z,ha⟩)
theorem jkj{i a}(h:a∈jV (L.set i (some x))):a∈x.frz\/a∈jV L:=by
 obtain⟨y,hy,ha⟩:=mem_frozen.mp h;rcases jqu hy with z|z
 ·grind
 ·exact .inr (mem_frozen.mpr ⟨y,z,ha⟩)
theorem jql:∀{L i},(x.own++j9 L).Nodup->(j9 (L.set i (some x))).Nodup
 |[],_,h=>by simp
 |q::L,0,h=>by
  rw[List.set_cons_zero,vj];have e:j9 (q::L)=q.elim [] Sl.own++j9 L:=by simp[j9]
  rw[e,Xj]at h;obtain⟨h1,h2,h3⟩:=h;rw[Xj]at h2 ⊢;exact⟨h1,h2.2.1,λa ha b hb=>h3 a ha b (lr9 _ hb)⟩
 |q::L,i+1,h=>by
  rw[List.set_cons_succ];have e:∀M,j9 (q::M)=q.elim [] Sl.own++j9 M:=λM=>by simp[j9]
  rw[e]at h ⊢;rw[Xj]at h;obtain⟨h1,h2,h3⟩:=h;rw[Xj]at h2;rw[Xj];refine⟨h2.1,jql (by rw[Xj];exact⟨h1,h2.2.1,λa ha b hb=>h3 a ha b (lr9 _ hb)⟩),λa ha b hb e=>?_⟩;subst e;rcases Wv hb with z|z
  ·exact h3 a z a (ll9 _ ha) rfl
  ·exact h2.2.2 a ha a z rfl
theorem World.set{i}(w:World K H (some x::L)):World K H (L.set i (some x)):=by
 refine⟨λy hy=>?_,jql (by have:=w.nd;rwa [vj]at this),λa ha hf=>?_⟩
 ·rcases jqu hy with z|z
  ·cases z;exact w.head
  ·exact w.ok y (lc9 _ z)
 ·refine w.ds a ?_ ?_
  ·rw[vj];exact List.mem_append.mpr (Wv ha)
  ·rw[xx];exact List.mem_append.mpr (jkj hf)
theorem Step.set{i}:Step H (some x::L) H (L.set i (some x)) where
 keep:=λ_ _ h _=>h
 own:=λa ha=>.inl (List.mem_append.mpr (Wv ha))
 frz:=λa ha=>.inl (List.mem_append.mpr (jkj ha))
theorem Step.drop{q}:Step H (q::L) H L where
 keep:=λ_ _ h _=>h
 own:=λa ha=>.inl (by rw[show(q::L:Ls)=[q]++L from rfl];exact lr9 _ ha)
 frz:=λa ha=>.inl (by rw[show(q::L:Ls)=[q]++L from rfl];exact lr9 _ ha)
theorem vz{i:Nat}(h:L[i]?=some (some x)):some x∈L:=Xx h
theorem KZ(x:Sl):x.let.own=[]/\x.let.frz=x.as/\x.let.as=x.as:=⟨rfl,rfl,rfl⟩
theorem kwd{i a}(h:a∈j9 (L.set i (some x.let))):a∈j9 L:=by
 rcases Wv h with z|z
 ·exact nomatch z
 ·exact z
theorem kzh:∀{L i},(j9 L).Nodup->(∀a∈j9 L,a∉jV L)->L[i]?=some (some x)->∀a∈x.as,a∉j9 (L.set i (some x.let))
 | [],_,_,_,h,_,_=>by simp_all
 | q::L,0,nd,ds,h,a,ha=>by
  have e:q=some x:=by simpa using h
  subst e;intro hm;have hm:a∈j9 L:=by simpa [KZ]using hm
  rcases Sl.as_of ha with z|z
  ·rw[vj,Xj]at nd;exact nd.2.2 a z a hm rfl
  ·exact ds a (lr9 _ hm) (by rw[xx];exact ll9 _ z)
 | q::L,i+1,nd,ds,h,a,ha=>by
  rw[List.set_cons_succ];have e:∀M,j9 (q::M)=q.elim [] Sl.own++j9 M:=λM=>by simp[j9]
  have f:jV (q::L)=q.elim [] Sl.frz++jV L:=by simp[jV]
  intro hm;rw[e,Xj]at nd;rcases aA hm with hm|hm
  ·rcases Sl.as_of ha with z|z
   ·exact nd.2.2 a hm a (mem_owned.mpr ⟨x,vz h,z⟩) rfl
   ·exact ds a (ll9 _ hm) (by rw[f];exact lr9 _ (mem_frozen.mpr ⟨x,vz h,z⟩))
  ·exact kzh nd.2.1 (λb hb hf=>ds b (lr9 _ hb) (f▸lr9 _ hf)) h a ha hm
theorem Kv(h:x.ok K H):x.let.ok K H:=RepO.wk h
theorem World.let{i}(w:World K H L)(h:L[i]?=some (some x)):World K H (L.set i (some x.let)):=by
 refine⟨λy hy=>?_,jql ((KZ x).1▸w.nd),λa ha hf=>?_⟩
 ·rcases jqu hy with z|z
  ·cases z;exact Kv (w.ok x (vz h))
  ·exact w.ok y z
 ·rcases jkj hf with z|z
  ·exact(kzh w.nd w.ds h) a z ha
  ·exact w.ds a (kwd ha) z
theorem World.read{i}(w:World K H L)(h:L[i]?=some (some x)):World K H (some x.let::L.set i (some x.let)):=
 (w.let h).consNo (Kv (w.ok x (vz h))) rfl (kzh (x:=x) w.nd w.ds h)
theorem Step.read{i}(h:L[i]?=some (some x)):Step H L H (some x.let::L.set i (some x.let)) where
 keep:=λ_ _ h _=>h
 own:=λa ha=>.inl (by rw[vj]at ha;exact kwd ha)
 frz:=λa ha=>by
  have hx:=vz h;have q:∀a∈x.as,a∈jV L\/a∈j9 L\/H a=none:=λa ha=>by
   rcases Sl.as_of ha with z|z
   ·exact .inr (.inl (mem_owned.mpr ⟨x,hx,z⟩))
   ·exact .inl (mem_frozen.mpr ⟨x,hx,z⟩)
  rcases aA ha with z|z
  ·exact q a z
  ·rcases jkj z with z|z
   ·exact q a z
   ·exact .inl z
end
inductive Mt:En->L2.St->Ls->Prop
 |nil:Mt [] [] []
 |un {E:En} {σ:L2.St} {L:Ls} {y:Option V}:Mt E σ L->Mt (none::E) (y :: σ) (none::L)
 |cons {E:En} {σ:L2.St} {L:Ls} {x:Sl}:Mt E σ L->Mt (some (x.o,x.d)::E) (some x.v :: σ) (some x::L)
theorem Mt.get:∀{E σ L} {i:Nat} {o d},Mt E σ L->E[i]?=some (some (o,d))->∃x,L[i]?=some (some x)/\x.o=o/\x.d=d/\σ[i]?=some (some x.v)
 |_,_,_,_,_,_,.nil,h=>by simp_all|_,_,_,0,_,_,.un _,h=>by simp_all|_,_,_,i+1,_,_,.un m,h=>by simpa using m.get (by simpa using h)
 |_,_,_,0,_,_,.cons (x:=x) m,h=>by
  simp at h;exact⟨x,by simp,h.1,h.2,by simp⟩
 |_,_,_,i+1,_,_,.cons m,h=>by simpa using m.get (by simpa using h)
theorem Mt.set{x}:∀{E σ L} (i),Mt E σ L->Mt (E.set i (some (x.o,x.d))) (σ.set i (some x.v)) (L.set i (some x))
 |_,_,_,_,.nil=>.nil|_,_,_,0,.un m=>.cons m|_,_,_,i+1,.un m=>.un (m.set i)|_,_,_,0,.cons m=>.cons m|_,_,_,i+1,.cons m=>.cons (m.set i)
theorem Mt.let{x}:∀{E σ L i},Mt E σ L->L[i]?=some (some x)->Mt (E.set i (some (.no,x.d))) σ (L.set i (some x.let))
 |_,_,_,_,.nil,h=>by simp_all|_,_,_,i+1,.un m,h=>.un (m.let (by simpa using h))
 |_,_,_,0,.cons (x:=y) m,h=>by
  have e:y=x:=by simpa using h
  subst e;exact .cons (x:=y.let) m
 |_,_,_,i+1,.cons m,h=>.cons (m.let (by simpa using h))
theorem Mt.len:∀{E σ L},Mt E σ L->E.length=σ.length/\L.length=σ.length
 |_,_,_,.nil=>⟨rfl,rfl⟩|_,_,_,.un m=>by simp[m.len]|_,_,_,.cons m=>by simp[m.len]
def sls(L:Ls):List Sl:=L.filterMap id
theorem K0 L:j9 L=(sls L).flatMap Sl.own:=by
 induction L with
 |nil=>rfl
 |cons q L ih=>
  cases q with|none=>rw[qqi,ih];rfl|some x=>rw[vj,ih];rfl
theorem Qx L:jV L=(sls L).flatMap Sl.frz:=by
 induction L with
 |nil=>rfl
 |cons q L ih=>
  cases q with|none=>rw[kzr,ih];rfl|some x=>rw[xx,ih];rfl
theorem mem_sls{L x}:x∈sls L↔some x∈L:=by simp[sls]
@[simp] theorem V9 (L T):sls (L++T)=sls L++sls T:=by simp[sls]
@[simp] theorem vk0 (L:Ls):sls (none::L)=sls L:=rfl
@[simp] theorem wx2 (x:Sl)(L:Ls):sls (some x::L)=x::sls L:=rfl
@[simp] theorem wxo:sls []=[]:=rfl
@[simp] theorem wxp T:sls (T.map some)=T:=by simp[sls]
@[simp] theorem wxn k:sls (List.replicate k none)=[]:=by
 induction k with|zero=>rfl|succ k ih=>rw[List.replicate_succ,vk0,ih]
theorem jqk{α β:Type}(f:α->List β){l l':List α}(h:l.Sublist l'):(l.flatMap f).Sublist (l'.flatMap f):=by
 induction h with|slnil=>exact List.Sublist.refl _|cons a _ ih=>rw[List.flatMap_cons];exact List.Sublist.trans ih (List.sublist_append_right _ _)|cons_cons a _ ih=>rw[List.flatMap_cons];exact List.Sublist.append (List.Sublist.refl _) ih
section
variable {K:Frag}{H H':Hp}{L L' M M':Ls}
theorem World.same(w:World K H L)(p:(sls L).Perm (sls L')):World K H L':=by
 have po:(j9 L).Perm (j9 L'):=by rw[K0,K0];exact p.flatMap_right _
 have pf:(jV L).Perm (jV L'):=by rw[Qx,Qx];exact p.flatMap_right _
 exact⟨λx hx=>w.ok x (mem_sls.mp (p.mem_iff.mpr (mem_sls.mpr hx))),po.nodup_iff.mp w.nd,λa ha hf=>w.ds a (po.mem_iff.mpr ha) (pf.mem_iff.mpr hf)⟩
theorem Step.same(s:Step H L H' L')(p:(sls L).Perm (sls M))(p':(sls L').Perm (sls M')):Step H M H' M':=by
 have po:(j9 L).Perm (j9 M):=by rw[K0,K0];exact p.flatMap_right _
 have pf:(jV L).Perm (jV M):=by rw[Qx,Qx];exact p.flatMap_right _
 have po':(j9 L').Perm (j9 M'):=by rw[K0,K0];exact p'.flatMap_right _
 have pf':(jV L').Perm (jV M'):=by rw[Qx,Qx];exact p'.flatMap_right _
 exact⟨λa ob h hn=>s.keep a ob h λz=>hn (po.mem_iff.mp z),λa ha=>(s.own a (po'.mem_iff.mpr ha)).imp (λz=>po.mem_iff.mp z) id,
  λa ha=>(s.frz a (pf'.mem_iff.mpr ha)).imp (λz=>pf.mem_iff.mp z) λz=>z.imp (λz=>po.mem_iff.mp z) id⟩
theorem World.sub(w:World K H L)(p:(sls L').Sublist (sls L)):World K H L':=by
 refine⟨λx hx=>w.ok x (mem_sls.mp (p.subset (mem_sls.mpr hx))),?_,λa ha hf=>w.ds a ?_ ?_⟩
 ·have:=w.nd;rw[K0]at this ⊢;exact(jqk _ p).nodup this
 ·rw[K0]at ha ⊢;exact(jqk _ p).subset ha
 ·rw[Qx]at hf ⊢;exact(jqk _ p).subset hf
theorem Step.sub(s:Step H L H' L')(p:(sls M).Sublist (sls L')):Step H L H' M:=by
 refine⟨s.keep,λa ha=>s.own a ?_,λa ha=>s.frz a ?_⟩
 ·rw[K0]at ha ⊢;exact(jqk _ p).subset ha
 ·rw[Qx]at ha ⊢;exact(jqk _ p).subset ha
end
theorem jxb:∀{L:Ls} {j},(sls (at' L j::L.set j none)).Perm (sls L)
 | [],j=>by simp[at']
 | q::L,0=>by
  cases q with|none=>simp[at']|some x=>simp[at']
 | q::L,j+1=>by
  have ih:=jxb (L:=L) (j:=j);have e:at' (q::L) (j+1)=at' L j:=by simp[at']
  rw[e];have e2:∀a b M,(sls (a::b::M)).Perm (sls (b::a::M)):=λa b M=>by
   cases a<;>cases b<;>simp[sls]
   exact List.Perm.swap ..
  refine(e2 _ _ _).trans ?_;cases q with|none=>simpa [sls]using ih|some y=>simpa [sls]using ih
theorem qkt:∀{R} {L:Ls},R.Nodup->(sls (R.map (at' L)++clr R L)).Perm (sls L)
 | [],L,_=>by simp[clr]
 | j::R,L,h=>by
  rw[List.nodup_cons]at h;have e:R.map (at' L)=R.map (at' (L.set j none)):=by
   apply Yp;intro i hi;have:j≠i:=λe=>h.1 (e▸hi)
   unfold at';rw[Yy this]
  rw[List.map_cons,clr,e];have ih:=qkt (L:=L.set j none) h.2;refine List.Perm.trans ?_ (jxb (j:=j));cases hq:at' L j with|none=>simpa [sls]using ih|some x=>simpa [sls]using ih
theorem qzy{α}:∀{R} {L:List (Option α)},(clr R L).length=L.length
 |[],_=>rfl|j::R,L=>by rw[clr,qzy,List.length_set]
theorem qzz{α}:∀{R} {L:List (Option α)} {j},j∈R->at' (clr R L) j=none
 | [],_,_,h=>by grind
 | i :: R,L,j,h=>by
  rw [clr]
  by_cases hR:j∈R
  ·exact qzz hR
  ·have e:j=i:=by simpa [hR]using h
   subst e;have gen:∀{R} {M:List (Option α)},j∉R->at' (clr R M) j=at' M j:=by
    intro R
    induction R with
    |nil=>intro M _;rfl
    |cons r R ih=>
     intro M h;rw[Yn,not_or]at h;rw[clr,ih h.2];unfold at';rw[Yy (Ne.symm h.1)]
   rw[gen hR];unfold at'
   by_cases hl:j<L.length
   ·rw[List.getElem?_set_self hl];rfl
   ·rw[List.set_eq_of_length_le ⋯,Yg ⋯];rfl
theorem kxn:∀{R} {B L:Ls},R.Nodup->(∀j∈R,at' L j=none)->(∀j∈R,j<L.length)->B.length=R.length->(sls (back R B L)).Perm (sls (B++L))
 | [],B,L,_,_,_,hl=>by
  have:B=[]:=by simpa using hl
  subst this;simp [back]
 | j :: R,q::B,L,hn,hz,hr,hl=>by
  rw [List.nodup_cons]at hn;have ih:=kxn (L:=L.set j q) hn.2 (λi hi=>by
   have:j≠i:=λe=>hn.1 (e▸hi)
   unfold at';rw [Yy this];exact hz i (lc9 _ hi)) (λi hi=>by rw[List.length_set];exact hr i (lc9 _ hi)) (by simpa using hl)
  refine ih.trans ?_;have sp:∀{M i},at' M i=none->i<M.length->(sls (M.set i q)).Perm (sls (q::M)):=by
   intro M
   induction M with
   | nil=>intro i _ h;simp at h
   | cons r M ihM=>
    intro i h1 h2;cases i with
    | zero=>
     have:r=none:=by simpa [at']using h1
     subst this;cases q<;>simp[sls]
    | succ i=>
     have:=ihM (by simpa [at']using h1) (by simpa using h2);cases r with
     | none=>cases q<;>simpa [sls]using this
     | some y=>
      cases q with
      |none=>simpa [sls]using this
      |some x=>
       exact(this.cons y).trans (List.Perm.swap ..)
  rw[V9];have h2:(sls B++sls _).Perm _:=(sp (hz j X5) (hr j X5)).append_left _;refine h2.trans ?_;cases q with
  |none=>simp
  |some x=>
   simp only[V9];exact List.perm_middle
section
variable {K:Frag}{H H1 H2 H':Hp}{L L1 L' T:Ls}{x y:Sl}
theorem VV(p:L.Perm L'):(j9 L).Perm (j9 L'):=p.flatMap_right _
theorem jx0(p:L.Perm L'):(jV L).Perm (jV L'):=p.flatMap_right _
theorem World.perm(w:World K H L)(p:L.Perm L'):World K H L':=
 ⟨λx hx=>w.ok x (p.mem_iff.mpr hx),(VV p).nodup_iff.mp w.nd,λa ha hf=>w.ds a ((VV p).mem_iff.mpr ha) ((jx0 p).mem_iff.mpr hf)⟩
theorem Step.perm(s : Step H L H' L'){M M' : Ls}(p : L.Perm M)(p' : L'.Perm M'): Step H M H' M':=
  ⟨λa ob h hn=>s.keep a ob h λz=>hn ((VV p).mem_iff.mp z),
   λa ha=>(s.own a ((VV p').mem_iff.mpr ha)).imp (λz=>(VV p).mem_iff.mp z) id,
   λa ha=>(s.frz a ((jx0 p').mem_iff.mpr ha)).imp (λz=>(jx0 p).mem_iff.mp z) λz=>z.imp (λz=>(VV p).mem_iff.mp z) id⟩
theorem Step.frm(s:Step H L H' L'):Step H (L++T) H' (L'++T) where
 keep:=λa ob h hn=>s.keep a ob h λz=>hn (by rw[jX];exact ll9 _ z)
 own:=λa ha=>by
  rw[jX]at ha ⊢;rcases aA ha with z|z
  ·exact(s.own a z).imp (ll9 _) id
  ·exact .inl (lr9 _ z)
 frz:=λa ha=>by
  rw[qx]at ha ⊢;rw[jX];rcases aA ha with z|z
  ·exact(s.frz a z).imp (ll9 _) λz=>z.imp (ll9 _) id
  ·exact .inl (lr9 _ z)
theorem wxb(w:World K H (T++L))(s:Step H L H' L')(w':World K H' L'):World K H' (T++L')/\Step H (T++L) H' (T++L'):=by
 have w1:=w.comm;exact⟨(s.frame w1 w' w1.left).comm,s.frm.perm Ze Ze⟩
end
theorem ex8{α β γ:Type}{P:Prop}{a b c d e:α->β->γ->Prop}(h:∃x y z,a x y z/\b x y z/\c x y z/\d x y z/\e x y z)(f:∀x y z,a x y z->b x y z->c x y z->d x y z->e x y z->P):P:=
 h.elim λx h=>h.elim λy h=>h.elim λz h=>f x y z h.1 h.2.1 h.2.2.1 h.2.2.2.1 h.2.2.2.2
theorem ex7{α β γ:Type}{P:Prop}{a b c d:α->β->γ->Prop}(h:∃x y z,a x y z/\b x y z/\c x y z/\d x y z)(f:∀x y z,a x y z->b x y z->c x y z->d x y z->P):P:=
 h.elim λx h=>h.elim λy h=>h.elim λz h=>f x y z h.1 h.2.1 h.2.2.1 h.2.2.2
theorem kZ{X e t t'}(h:PE X e t)(w:∀ σ H Q,t' σ H Q->t σ H Q):PE X e t':=λa7 s σ H Q I q=>h a7 s σ H Q I (w σ H Q q)
theorem qwk{X e t t'}(h:PT X e t)(w:∀ σ H Q,t' σ H Q->t σ H Q):PT X e t':=λa7 s σ H Q I q=>h a7 s σ H Q I (w σ H Q q)
theorem zZ{X e t t'}(h:PS X e t)(w:∀D σ H,t' D σ H->t D σ H):PS X e t':=λa7 s σ H D I q=>h a7 s σ H D I (w D σ H q)
theorem qwl{X e t t'}(h:PSs X e t)(w:∀D σ H,t' D σ H->t D σ H):PSs X e t':=λa7 s σ H D I q=>h a7 s σ H D I (w D σ H q)
structure Fx0 where
 K:Frag
 mg:Str->Option Value
 EX:XK
noncomputable def Xc{α:Type}(Z:Fx0)(σ:L2.St)(H:Hp)(L:Ls)(r:Res α):Prop:=∀E' c,r=.exc E' c->∀C L' H',Z.mg c=some (.ref C)->Mt E' σ L'->World Z.K H' L'->Step H L H' L'->Z.EX (.ref C) none H'
theorem Xc.step{α Z σ H H1 L L1}{r:Res α}(x:Xc Z σ H L r)(s:Step H L H1 L1):Xc Z σ H1 L1 r:=λE' c e C L' H' hm m w s'=>x E' c e C L' H' hm m w (s.trans s')
theorem Xc.map{α β Z σ H L}{r:Res α}{E' c}(x:Xc Z σ H L r)(e:r=.exc E' c):Xc Z σ H L (.exc E' c:Res β):=λE1 c1 e1=>by
 injection e1 with h1 h2;subst h1 h2;exact x _ _ e
noncomputable def tQ(Z:Fx0)(q:Bool)(c:Ex):TE:=fun σ H Q=>∃E L r,Mt E σ L/\World Z.K H L/\c E=some r/\Xc Z σ H L r /\
 ∀E' a,r=.ok E' a->∀(x:Sl) L' H',x.o=a.1->x.d=a.2->Mt E' σ L'->World Z.K H' (some x::L')->Step H L H' (some x::L')->(q=true->jY H H'/\∀b∈x.own,H b=none)->Q x.v H'
noncomputable def Src(H:Hp)(L:Ls)(as:List Addr):Prop:=∀b∈as,b∈jV L\/b∈j9 L\/H b=none
theorem Src.back{H H1 L L1 as}(h:Src H1 L1 as)(s:Step H L H1 L1):Src H L as:=λb hb=>by
 rcases h b hb with z|z|z
 ·exact s.frz b z
 ·exact .inr (s.own b z)
 ·by_cases ho:b∈j9 L
  ·exact .inr (.inl ho)
  ·refine .inr (.inr ?_);cases e:H b with|none=>rfl|some ob=>rw[s.keep b ob e ho]at z;cases z
noncomputable def tV(Z:Fx0)(q:Bool)(c:Ex):TE:=fun σ H Q=>∃E L r,Mt E σ L/\World Z.K H L/\c E=some r/\Xc Z σ H L r /\
 ∀E' a,r=.ok E' a->∀(x:Sl) L' H',x.o=a.1->x.d=a.2->Mt E' σ L'->World Z.K H' L'->x.ok Z.K H'->(∀b∈x.frz,b∉j9 L')->Src H L x.as->Step H L H' L'->(q=true->jY H H')->Q x.v H'
noncomputable def QE(X:Cx)(Z:Fx0)(q:Bool)(c:Ex)(e:Expr):Prop:=PE X e (tQ Z q c)
noncomputable def QV(X:Cx)(Z:Fx0)(q:Bool)(c:Ex)(e:Expr):Prop:=PE X e (tV Z q c)
section
variable {X:Cx}{Z:Fx0}{q qa qb:Bool}{a b c:Ex}{e ea eb:Expr}{pos:Pos}{α:Type}{σ:L2.St}{H:Hp}{L:Ls}{E:En}
theorem x9{β m}{F:En->α->Option _}{r:Res β}(h:bnd m F=some r):(∃E1 x,m=some (.ok E1 x)/\F E1 x=some r)\/∃E1 c,m=some (.exc E1 c)/\r=.exc E1 c:=by
 cases m with
 |none=>cases h
 |some q=>
  cases q with|ok E1 x=>exact .inl ⟨E1,x,rfl,h⟩|exc E1 c=>exact .inr ⟨E1,c,rfl,(oq9 h).symm⟩
theorem qwd{F}{r:Res α}{G}(m:Mt E σ L)(w:World Z.K H L)(h:bnd (a E) F=some r)(xc:Xc Z σ H L r)
  (k:∀E1 s,F E1 s=some r->∀x L1 H1,x.o=s.1->x.d=s.2->Mt E1 σ L1->World Z.K H1 (some x::L1)->Step H L H1 (some x::L1)->(q=true->jY H H1/\∀b∈x.own,H b=none)->G x.v H1):tQ Z q a σ H G:=by
 rcases x9 h with⟨E1,s,h1,h2⟩|⟨E1,c,h1,h2⟩
 ·exact⟨E,L,_,m,w,h1,(λ_ _ z=>by cases z),λE' s' z x L' H' e1 e2 m' w' st sm=>by
   injection z with z1 z2;subst z1 z2;exact k _ _ h2 x L' H' e1 e2 m' w' st sm⟩
 ·exact⟨E,L,_,m,w,h1,xc.map h2,λE' s' z=>by cases z⟩
theorem v6{F}{r:Res α}{G}(m:Mt E σ L)(w:World Z.K H L)(h:bnd (a E) F=some r)(xc:Xc Z σ H L r)
  (k:∀E1 s,F E1 s=some r->∀(x:Sl) L1 H1,x.o=s.1->x.d=s.2->Mt E1 σ L1->World Z.K H1 L1->x.ok Z.K H1->(∀b∈x.frz,b∉j9 L1)->Src H L x.as->Step H L H1 L1->(q=true->jY H H1)->G x.v H1):tV Z q a σ H G:=by
 rcases x9 h with⟨E1,s,h1,h2⟩|⟨E1,c,h1,h2⟩
 ·exact⟨E,L,_,m,w,h1,(λ_ _ z=>by cases z),λE' s' z x L' H' e1 e2 m' w' ok fr sr st sm=>by
   injection z with z1 z2;subst z1 z2;exact k _ _ h2 x L' H' e1 e2 m' w' ok fr sr st sm⟩
 ·exact⟨E,L,_,m,w,h1,xc.map h2,λE' s' z=>by cases z⟩
theorem Vx{x:Sl}{K H1 H2 L1 L2'}(ok:x.ok K H1)(fr:∀b∈x.frz,b∉j9 L1)(st:Step H1 L1 H2 L2')(sm:jY H1 H2):x.ok K H2/\∀b∈x.frz,b∉j9 L2':=
 ⟨RepO.kp ok (Kp.of_same sm),λb hb ho=>(st.own b ho).elim (fr b hb) λz=>ok.some (Sl.frz_as hb) z⟩
theorem xK{x}{r:Res α}(h:val E x=some r):∃y,x=some y/\r=.ok E y:=by
 cases x with|none=>cases h|some y=>exact⟨y,rfl,(oq9 h).symm⟩
theorem QE.weak(h:QE X Z true c e):QE X Z q c e:=kZ h fun σ H Q aj=>ex8 aj λE L r m w hc xc k=>⟨E,L,r,m,w,hc,xc,λE' s z x L' H' e1 e2 m' w' st sm=>k E' s z x L' H' e1 e2 m' w' st λ_=>sm rfl⟩
theorem ZZ{x H1}{L1:Ls}(st:Step H L H1 (some x::L1)):Src H L x.as:=λb hb=>by
 rcases Sl.as_of hb with z|z
 ·exact .inr (st.own b (ll9 _ z))
 ·exact st.frz b (by rw[xx];exact ll9 _ z)
theorem j4(h:QE X Z q c e):QV X Z q (vE c) e:=kZ h fun σ H Q aj=>ex8 aj λE L r m w hc xc k=>
 qwd m w hc xc λE1 s h1 x L1 H1 e1 e2 m1 w1 st sm=>by
  cases oq9 h1;exact k _ _ rfl x.let L1 H1 rfl e2 m1 w1.tail (Kv w1.head) (λb hb=>w1.apart b hb) (ZZ (x:=x) st) (st.trans Step.drop) λhq=>(sm hq).1
theorem K2{x H1 L1}(st:Step H L H1 L1)(sr:Src H L x.as)(ho:x.own=[]):Step H L H1 (some x::L1) where
 keep:=st.keep
 own:=λb hb=>by rw[vj,ho]at hb;exact st.own b hb
 frz:=λb hb=>by
  rcases aA hb with z|z
  ·exact sr b (Sl.frz_as z)
  ·exact st.frz b z
theorem qwz{x:Sl}(h:x.o=.no):x.own=[]:=by unfold Sl.own;rw[h]
theorem ZK{x:Sl}(h:x.o=.no):x.frz=x.as:=by unfold Sl.frz;rw[h]
theorem vxr{x:Sl}(h:x.as=[]):x.own=[]:=List.eq_nil_iff_forall_not_mem.mpr λa ha=>by have:=Sl.own_as ha;rw[h]at this;exact nomatch this
theorem jz(h:QV X Z q c e):QE X Z q (cH c) e:=kZ h fun σ H Q aj=>ex8 aj λE L r m w hc xc k=>
 v6 m w hc xc λE1 s h1 x L1 H1 e1 e2 m1 w1 ok fr sr st sm=>by
  by_cases ho:s.1=.no
  ·rw[X9 ho]at h1;cases oq9 h1;have eo:=e1.trans ho;exact k _ _ rfl x L1 H1 eo e2 m1 (w1.consNo ok eo λb hb=>fr b (ZK eo▸hb)) (K2 st sr (qwz eo)) λhq=>⟨sm hq,by rw[qwz eo];exact λ_ z=>(nomatch z)⟩
  ·rw[Xb ho]at h1
   by_cases hp:s.2.pure=true
   ·rw[X9 hp]at h1;cases oq9 h1;obtain⟨z,rp⟩:=RepL.pu (g':=false) (RepO.wk ok) (by simp_all);exact k _ _ rfl ⟨.dp,x.d,x.v,[]⟩ L1 H1 rfl e2 m1 (w1.consPu rp rfl) (K2 st (λb hb=>nomatch hb) rfl) λhq=>⟨sm hq,λ_ z=>(nomatch z)⟩
   ·simp_all
theorem q_C{d v}(h:PE X e (tC v))(hr:∀H,RepL Z.K H false d v []):QE X Z true (cC d) e:=kZ h fun σ H Q aj=>ex8 aj λE L r m w hc xc k=>by
 cases oq9 hc;exact k _ _ rfl ⟨.dp,d,v,[]⟩ L H rfl rfl m (w.consPu (hr H) rfl) (K2 Step.refl (λb hb=>nomatch hb) rfl) λ_=>⟨λ_ _ z=>z,λ_ z=>(nomatch z)⟩
theorem q_V{i}(h:PE X e (xW i)):QE X Z true (cV i) e:=kZ h fun σ H Q aj=>ex8 aj λE L r m w hc xc k=>by
 unfold cV at hc
 split at hc
 ·rename_i o d hE;cases oq9 hc;obtain⟨x,h1,h2,h3,h4⟩:=m.get hE;refine⟨x.v,h4,k _ _ rfl x.let _ H rfl h3 ?_ (w.read h1) (Step.read h1) λ_=>⟨λ_ _ z=>z,λ_ z=>(nomatch z)⟩⟩;have:=m.let h1
  rwa [h3]at this
 ·cases hc
theorem vxx:∀{E σ} {L} j,Mt E σ L->Mt (E.set j none) σ (L.set j none):=by
 intro E σ L j m
 induction m generalizing j with
 |nil=>exact .nil
 |un m ih=>cases j with|zero=>exact .un m|succ j=>exact .un (ih j)
 |cons m ih=>cases j with|zero=>exact .un m|succ j=>exact .cons (ih j)
theorem jw0{x}:∀{L:Ls} {i},L[i]?=some (some x)->(none::L).Perm (some x::L.set i none)
 |[],_,h=>by simp_all
 |q::L,0,h=>by
  have e:q=some x:=by simpa using h
  subst e;exact List.Perm.swap ..
 |q::L,i+1,h=>by
  have:=jw0 (L:=L) (by simpa using h);exact(List.Perm.swap ..).trans ((this.cons q).trans (List.Perm.swap ..))
theorem wx7{i}(h:PE X e (xW i)):QE X Z false (cMv i) e:=kZ h fun σ H Q aj=>ex8 aj λE L r m w hc xc k=>by
 unfold cMv at hc
 split at hc
 ·rename_i s hE;cases oq9 hc;obtain⟨x,h1,h2,h3,h4⟩:=m.get hE;have wn:World Z.K H (none::L):=⟨λy hy=>w.ok y (by simp_all),by simpa using w.nd,by simpa using w.ds⟩;have sn:Step H L H (none::L):=⟨λ_ _ z _=>z,λa z=>.inl (by simp_all),λa z=>.inl (by simp_all)⟩;exact⟨x.v,h4,k _ _ rfl x _ H h2 h3 (vxx i m) (wn.perm (jw0 h1)) (sn.trans (Step.refl.perm (List.Perm.refl _) (jw0 h1))) λz=>(nomatch z)⟩
 ·cases hc
theorem q_vV{i}(h:PE X e (xW i)):QV X Z true (vV i) e:=kZ h fun σ H Q aj=>ex8 aj λE L r m w hc xc k=>by
 unfold vV at hc
 split at hc
 ·rename_i s hE;cases oq9 hc;obtain⟨x,h1,h2,h3,h4⟩:=m.get hE;have hx:=vz h1;refine⟨x.v,h4,k _ _ rfl x L H h2 h3 m w (w.ok x hx) (λb hb ho=>w.ds b ho (mem_frozen.mpr ⟨x,hx,hb⟩)) (λb hb=>?_) Step.refl λ_=>λ_ _ z=>z⟩;rcases Sl.as_of hb with z|z
  ·exact .inr (.inl (mem_owned.mpr ⟨x,hx,z⟩))
  ·exact .inl (mem_frozen.mpr ⟨x,hx,z⟩)
 ·cases hc
structure Out (K:Frag)(H H':Hp)(z:Sl)(fr:List Addr):Prop where
 same:jY H H'
 ok:z.ok K H'
 new:∀b∈z.own,H b=none
 nd:z.own.Nodup
 fr:∀b∈z.frz,b∈fr
noncomputable def Ad1(K:Frag)(r:V->Hp->VK->Prop)(f:Sd->Option Sd):Prop:=∀(H:Hp) (x:Sl) (s:Sd) (Q:VK),x.ok K H->f (x.o,x.d)=some s->(∀(z:Sl) H',z.o=s.1->z.d=s.2->Out K H H' z x.frz->Q z.v H')->r x.v H Q
noncomputable def Ad2(K:Frag)(r:R2)(f:Sd->Sd->Option Sd):Prop:=∀(H:Hp) (x y:Sl) (s:Sd) (Q:VK),x.ok K H->y.ok K H->f (x.o,x.d) (y.o,y.d)=some s->(∀(z:Sl) H',z.o=s.1->z.d=s.2->Out K H H' z (x.frz++y.frz)->Q z.v H')->r x.v y.v H Q
theorem jzw{K H H' d v fr}(s:jY H H')(r:RepL K H' false d v []):Out K H H' ⟨.dp,d,v,[]⟩ fr:=⟨s,r,λ_ h=>(nomatch h),Y8,λ_ h=>(nomatch h)⟩
theorem x8{H}:jY H H:=λ_ _ z=>z
theorem kQ{H H1 H2}(a:jY H H1)(b:jY H1 H2):jY H H2:=λc ob h=>b c ob (a c ob h)
theorem KY{z fr H1 H2 L1}(w:World Z.K H1 L1)(st:Step H L H1 L1)(o:Out Z.K H1 H2 z fr)(ap:∀b∈fr,b∉j9 L1)(al:∀b∈fr,H1 b≠none)(sr:Src H L fr):
  World Z.K H2 (some z::L1)/\Step H L H2 (some z::L1):=by
 have w2:World Z.K H2 L1:=⟨λx hx=>RepO.kp (w.ok x hx) (Kp.of_same o.same),w.nd,w.ds⟩;refine⟨w2.cons o.ok o.nd (λb hb ho=>w.own_some ho (o.new b hb)) (λb hb hf=>w.frz_some hf (o.new b hb)) (λb hb=>ap b (o.fr b hb)) (λb hb hf=>al b (o.fr b hf) (o.new b hb)),(⟨λb ob h hn=>o.same b ob (st.keep b ob h hn),λb hb=>?_,λb hb=>?_⟩)⟩
 ·rcases aA hb with z|z
  ·by_cases ho:b∈j9 L
   ·exact .inl ho
   ·refine .inr ?_;cases e:H b with|none=>rfl|some ob=>have:=o.new b z;rw[st.keep b ob e ho]at this;cases this
  ·exact st.own b z
 ·rcases aA hb with z|z
  ·exact sr b (o.fr b z)
  ·exact st.frz b z
theorem jx9{as bs}(h:Src H L as)(hb:∀b∈bs,b∈as):Src H L bs:=λb z=>h b (hb b z)
theorem vwr{as bs}(h:Src H L as)(h':Src H L bs):Src H L (as++bs):=λb z=>(aA z).elim (h b) (h' b)
theorem Jw{H H1 b}(s:jY H H1)(h:H1 b=none):H b=none:=by
 cases e:H b with|none=>rfl|some ob=>rw[s b ob e]at h;cases h
theorem WV{r f}(ad:Ad1 Z.K r f){Q}(h:tQ Z q (cF1 f a) σ H Q):tUn r (tV Z q a) σ H Q:=by
 obtain⟨E,L,R,m,w,hc,xc,k⟩:=h;refine v6 m w hc xc λE1 s h1 x L1 H1 e1 e2 m1 w1 ok fr sr st sm=>?_
 obtain⟨z,hz,rfl⟩:=xK h1;refine ad H1 x z Q ok (by simp_all) λy H' ho hd o=>?_
 obtain⟨w3,dg⟩:=KY w1 st o fr (λb hb=>ok.some (Sl.frz_as hb)) (jx9 sr λb hb=>Sl.frz_as hb);exact k _ _ rfl y L1 H' ho hd m1 w3 dg λhq=>⟨kQ (sm hq) o.same,λb hb=>Jw (sm hq) (o.new b hb)⟩
theorem kvu{r f}(ad:Ad2 Z.K r f){Q}(h:tQ Z qa (cF2 f a b) σ H Q):tOp r (tV Z qa a) (tV Z true b) σ H Q:=by
 obtain⟨E,L,R,m,w,hc,xc,k⟩:=h;refine v6 m w hc xc λE1 s h1 x L1 H1 e1 e2 m1 w1 ok fr sr st sm=>(v6 m1 w1 h1 (xc.step st) λE2 s2 h2 y L2 H2 e3 e4 m2 w2 i9 rm uo bu fb=>?_)
 obtain⟨z,hz,rfl⟩:=xK h2;have kx:=Vx ok fr bu (fb rfl);refine ad H2 x y z Q kx.1 i9 (by simp_all) λy' H' ho hd o=>?_
 obtain⟨w3,dg⟩:=KY w2 (st.trans bu) o (λb hb=>(aA hb).elim (kx.2 b) (rm b)) (λb hb=>(aA hb).elim (λz=>kx.1.some (Sl.frz_as z)) λz=>i9.some (Sl.frz_as z))
  (vwr (jx9 sr λb hb=>Sl.frz_as hb) (jx9 (uo.back st) λb hb=>Sl.frz_as hb))
 exact k _ _ rfl y' L2 H' ho hd m2 w3 dg λhq=>⟨kQ (sm hq) (kQ (fb rfl) o.same),λb hb=>Jw (kQ (sm hq) (fb rfl)) (o.new b hb)⟩
theorem vq{op r f}(ho:OpR X (binaryOp op) r)(ad:Ad2 Z.K r f)(ha:QV X Z qa a ea)(hb:QV X Z true b eb):QE X Z qa (cF2 f a b) (.BinOp ea op eb pos):=
 kZ (wzf ho ha hb) fun σ H Q h=>kvu ad h
theorem Kj{op r f}(ho:OpR X (compareOp op) r)(ad:Ad2 Z.K r f)(ha:QV X Z qa a ea)(hb:QV X Z true b eb)(hm:behindInMarks op eb=false):QE X Z qa (cF2 f a b) (.Compare ea [op] [eb] pos):=
 kZ (vxl ho ha hb hm) fun σ H Q h=>kvu ad h
theorem wx6{op:UnaryOp}{r:V->Hp->VK->Prop}{f:Sd->Option Sd}(ho:UnR X (unaryOp op) r)(ad:Ad1 Z.K r f)(ha:QV X Z q a ea):QE X Z q (cF1 f a) (.UnaryOp op ea pos):=
 kZ (wze ho ha) fun σ H Q h=>WV ad h
theorem RepA.get{K H g}:∀{ds xs as} {i:Nat} {d},RepA K H g ds xs as->ds[i]?=some d->∃v bs,xs[i]?=some v/\RepL K H g d v bs/\∀b∈bs,b∈as
 | [],_,_,_,_,_,e=>by simp_all
 | d::ds,_,_,i,d',h,e=>by
  obtain⟨x,r,bs,cs,rfl,rfl,h1,h2⟩:=h;cases i with
  |zero=>
   have e:d=d':=by simpa using e
   subst e;exact⟨x,bs,by simp,h1,λb hb=>ll9 _ hb⟩
  |succ i=>
   obtain⟨v,i7,e1,e2,e3⟩:=RepA.get h2 (by simpa using e);exact⟨v,i7,by simpa using e1,e2,λb hb=>lr9 _ (e3 b hb)⟩
theorem RepA.len{K H g}:∀{ds xs as},RepA K H g ds xs as->ds.length=xs.length
 |[],_,_,h=>by rw[h.1];rfl
 |d::ds,_,_,h=>by
  obtain⟨x,r,bs,cs,rfl,rfl,h1,h2⟩:=h;simp[RepA.len h2]
theorem items{K H}{x:Sl}{ds}(ok:x.ok K H)(h:x.d=.lst ds\/x.d=.tup ds):∃a xs bs,x.v=.ref a/\((x.d=.lst ds/\LsR K H a xs)\/(x.d=.tup ds/\SqT K H a xs))/\RepA K H (x.o != .dp) ds xs bs/\(∀b∈bs,b∈x.as)/\(x.o≠.dp->∀b∈bs,b∈x.frz):=by
 obtain⟨o,d,v,as⟩:=x;rcases h with rfl|rfl
 ·cases o with
  |no=>
   have ok:RepL K H true _ v as:=ok;obtain⟨a,xs,bs,rfl,r,q⟩:=ok;rcases q with⟨q,rfl⟩|⟨_,q,rfl⟩
   ·exact⟨a,xs,bs,rfl,.inl ⟨rfl,.inl (.inl q)⟩,r,λb hb=>lc9 _ hb,λ_ b hb=>lc9 _ hb⟩
   ·exact⟨a,xs,as,rfl,.inl ⟨rfl,.of q⟩,r,λb hb=>hb,λ_ b hb=>hb⟩
  |rt=>
   obtain⟨a,xs,bs,rfl,r,q,rfl⟩:=(ok);exact⟨a,xs,bs,rfl,.inl ⟨rfl,.inl (.inl q)⟩,r,λb hb=>lc9 _ hb,λ_ b hb=>by simpa [Sl.frz]using hb⟩
  |dp=>
   have ok:RepL K H false _ v as:=ok;obtain⟨a,xs,bs,rfl,r,q⟩:=ok;rcases q with⟨q,rfl⟩|⟨z,_⟩
   ·exact⟨a,xs,bs,rfl,.inl ⟨rfl,.inl (.inl q)⟩,r,λb hb=>lc9 _ hb,λz=>absurd rfl z⟩
   ·grind
 ·cases o with
  |no=>
   have ok:=ok;obtain⟨a,xs,rfl,q,r⟩:=ok;exact⟨a,xs,as,rfl,.inr ⟨rfl,q⟩,r,λb hb=>hb,λ_ b hb=>hb⟩
  |rt=>exact(ok).elim
  |dp=>
   obtain⟨a,xs,rfl,q,r⟩:=ok;exact⟨a,xs,as,rfl,.inr ⟨rfl,q⟩,r,λb hb=>hb,λz=>absurd rfl z⟩
theorem zY{K H}{x:Sl}{ds}(ok:x.ok K H)(h:x.d=.lst ds\/x.d=.tup ds)(hl:qz (x.o,x.d)=true):∃a xs bs,x.v=.ref a/\((x.d=.lst ds/\LsR K H a xs)\/(x.d=.tup ds/\SqT K H a xs))/\RepA K H true ds xs bs/\(∀b∈bs,b∈x.frz):=by
 obtain⟨a,xs,bs,e,q,r,h1,h2⟩:=items ok h
 by_cases ho:x.o=.dp
 ·have hp:D.pures ds=true:=by
   unfold qz at hl;rw[show(x.o,x.d).1=Own.dp from ho]at hl;have:xkb x.d=ds:=by rcases h with h|h<;>rw[h]<;>rfl
   simpa [this]using hl
  obtain⟨rfl,r'⟩:=RepA.pu (g':=true) r hp;exact⟨a,xs,[],e,q,r',λ_ z=>nomatch z⟩
 ·have:(x.o != Own.dp)=true:=by simpa using ho
  rw[this]at r;exact⟨a,xs,bs,e,q,r,h2 ho⟩
end
section
variable {K:Frag}{H:Hp}{x y:Sl}
theorem kw{i}(ok:x.ok K H)(h:x.d=.int i):x.v=.int i:=by
 have:=RepO.wk ok;rw[h]at this;exact this.1
theorem QY{i}(ok:x.ok K H)(h:x.d=.bl i):x.v=.bl i:=by
 have:=RepO.wk ok;rw[h]at this;exact this.1
theorem vvs(ok:x.ok K H)(h:x.d=.non):x.v=.non:=by
 have:=RepO.wk ok;rw[h]at this;exact this.1
theorem xQ{z}(ok:x.ok K H)(h:x.d=.str z):x.v=.str z/\z.length<=sizeLine:=by
 have:=RepO.wk ok;rw[h]at this;exact⟨this.1,this.2.2⟩
theorem wW{i g}:RepL K H g (.int i) (.int i) []:=⟨rfl,rfl⟩
theorem JQ{i g}:RepL K H g (.bl i) (.bl i) []:=⟨rfl,rfl⟩
theorem qw2{g}:RepL K H g .non .non []:=⟨rfl,rfl⟩
theorem VW{z g}(h:z.length<=sizeLine):RepL K H g (.str z) (.str z) []:=⟨rfl,rfl,h⟩
theorem Kx{i fr}:Out K H H ⟨.dp,.int i,.int i,[]⟩ fr:=jzw x8 wW
theorem wY{i fr}:Out K H H ⟨.dp,.bl i,.bl i,[]⟩ fr:=jzw x8 JQ
theorem wzi{z fr}(h:z.length<=sizeLine):Out K H H ⟨.dp,.str z,.str z,[]⟩ fr:=jzw x8 (VW h)
theorem www{C}{g:Int->Int->Int}{f}(h:∀i j k,f i j=some k->C i j/\k=g i j):Ad2 K (rI C λi j=>.int (g i j)) (pu2 (i2 f)):=by
 intro H x y s Q ox oy hf k;unfold pu2 i2 at hf;dsimp only at hf
 split at hf
 ·rename_i i j e1 e2;cases hk:f i j with
  |none=>rw[hk]at hf;cases hf
  |some n=>
   rw[hk]at hf;cases oq9 hf;obtain⟨hc,rfl⟩:=h i j n hk;exact⟨i,j,kw ox e1,kw oy e2,hc,k _ H rfl rfl Kx⟩
 ·cases hf
theorem xjl{g:Int->Int->Int}{f}(h:∀i j,f i j=some (g i j)):Ad2 K (rI0 λi j=>.int (g i j)) (pu2 (i2 f)):=by
 intro H x y s Q ox oy hf k;unfold pu2 i2 at hf;dsimp only at hf
 split at hf
 ·rename_i i j e1 e2;rw[h]at hf;cases oq9 hf;exact⟨i,j,kw ox e1,kw oy e2,k _ H rfl rfl Kx⟩
 ·cases hf
theorem ZX{g}:Ad2 K (rI0 λi j=>.bl (g i j)) (pu2 (c2 g)):=by
 intro H x y s Q ox oy hf k;unfold pu2 c2 at hf;dsimp only at hf
 split at hf
 ·rename_i i j e1 e2;cases oq9 hf;exact⟨i,j,kw ox e1,kw oy e2,k _ H rfl rfl wY⟩
 ·cases hf
theorem qkw:Ad2 K (rI0 λi j=>.int (i - j)) (pu2 YJ):=xjl λ_ _=>rfl
theorem xv:Ad2 K (rI wwy λi j=>.int (i / j)) (pu2 x3):=www λi j k h=>by
 split at h
 ·rename_i c;exact⟨c,(oq9 h).symm⟩
 ·grind
theorem wws:Ad2 K (rI (λ_ j=>0<j) λi j=>.int (i % j)) (pu2 kJ):=www λi j k h=>by
 split at h
 ·rename_i c;exact⟨c,(oq9 h).symm⟩
 ·grind
end
noncomputable def wkn(K:Frag):R2:=λx y H Q=>∃l b xs zs,x=.ref l/\y=.ref b/\LsR K H l xs/\LsR K H b zs/\xs.length+zs.length<=sizeLine/\∀p,H p=none->Q (.ref p) (upd H p (.lst (xs++zs)))
theorem op_catL{X}:OpR X (binaryOp .Add) (wkn X.K):=by
 rintro a7 s σ H x y v u Q I rx ry ⟨l,b,xs,zs,rfl,rfl,hH,hB,hz,q⟩;cases rx;cases ry;obtain⟨z,a9,n,r,e⟩:=hH.is I;obtain⟨z2,en,n2,r2,e2⟩:=hB.is I;have hl:=r.length;have ma:=r2.length;refine PySem.P.add_list e e2 ?_ (by rw[X8,X8];lia);have ea:a9.toArray++en.toArray=(a9++en).toArray:=by simp
 rw[ea];exact⟨.ref _,_,I.lnew (t':=s.toks) (r.append r2) (by rw[Xk];lia),rfl,q _ I.fresh⟩
noncomputable def wko(K:Frag):R2:=λx y H Q=>∃a b ys,x=.ref a/\y=.ref b/\SqT K H a []/\SqT K H b ys/\Q (.ref b) H
theorem op_catE{X}:OpR X (binaryOp .Add) (wko X.K):=by
 rintro a7 s σ H x y v u Q I rx ry ⟨a,b,ys,rfl,rfl,ha,hb,q⟩;cases rx;cases ry;obtain⟨a9,r1,p1,_⟩:=I.tuple ha;obtain⟨en,r2,p2,_⟩:=I.tuple hb;obtain⟨⟨cls,dd,data,sl⟩,ho,hc,n,hd⟩:=id p1;obtain⟨⟨cls2,dd2,data2,pk⟩,gm,m4,n2,i8⟩:=id p2;subst hc hd m4 i8;have e:=r1.nil_iff.mpr rfl;subst e;exact concat_meets ⟨_,ho,rfl⟩ ⟨_,gm,rfl⟩ noFill_tuple_add seq_tuple_add PySem.F.slot_tuple_add PySem.F.entry_tuple_add (PySem.F.args_tuple_add_2 _ _)
   (tuple_addW0 a b [].toArray en.toArray n n2 dd dd2 sl pk (by simp)) ⟨ho,gm,⟨.ref b,H,I,rfl,q⟩⟩
noncomputable def wkp(K:Frag):R2:=λx y H Q=>rI0 (λi j=>.int (i+j)) x y H Q\/(∃i j,x=.str i/\y=.str j/\i.length+j.length<=sizeLine/\Q (.str (i++j)) H)\/wkn K x y H Q\/wko K x y H Q\/wkm K x y H Q
theorem wv3{X K}(hK:X.K=K):OpR X (binaryOp .Add) (wkp K):=by subst hK;exact op_add.or (op_add_str.or (op_catL.or (op_catE.or vxt)))
theorem RepA.app{K H g ds' xs' i7}(h':RepA K H g ds' xs' i7):∀{ds xs as},RepA K H g ds xs as->RepA K H g (ds++ds') (xs++xs') (as++i7)
 |[],_,_,h=>by rw[h.1,h.2];exact h'
 |d::ds,_,_,h=>by
  obtain⟨x,r,bs,cs,rfl,rfl,h1,h2⟩:=h;rw[List.cons_append];exact⟨x,r++xs',bs,cs++i7,rfl,by rw[Y0],h1,RepA.app h' h2⟩
theorem vJ{H p o}(h:H p=none):jY H (upd H p o):=λb u q=>by rw[kY (Jv q h)];exact q
theorem J8{K H p ds xs bs fr}(hp:H p=none)(r:RepA K H true ds xs bs)(hb:∀b∈bs,b∈fr):Out K H (upd H p (.lst xs)) ⟨.rt,.lst ds,.ref p,p::bs⟩ fr:=by
 refine⟨vJ hp,⟨p,xs,bs,rfl,r.kp (Kp.of_same (vJ hp)),x6,rfl⟩,λb hb=>?_,?_,λb dj=>hb b (by simpa [Sl.frz]using dj)⟩
 ·have:b=p:=by simpa [Sl.own]using hb
  rw[this];exact hp
 ·simp[Sl.own]
theorem kjk{K H p ds xs bs fr}(hp:H p=none)(r:RepA K H true ds xs bs)(hb:∀b∈bs,b∈fr):Out K H (upd H p (.tup xs)) ⟨.no,.tup ds,.ref p,bs⟩ fr:=by
 refine⟨vJ hp,?_,λb hb=>(nomatch hb),Y8,λb dj=>hb b dj⟩;show RepL K _ true _ _ bs;exact⟨p,xs,rfl,SqT.of x6,r.kp (Kp.of_same (vJ hp))⟩
theorem wwx{K}:Ad2 K (wkp K) jK:=by
 intro H x y s Q ox oy hf k;unfold jK at hf;dsimp only at hf
 split at hf
 ·rename_i i j e1 e2;cases oq9 hf;exact .inl ⟨i,j,kw ox e1,kw oy e2,k _ H rfl rfl Kx⟩
 ·rename_i i j e1 e2
  split at hf
  ·rename_i hl;cases oq9 hf;have hl':(i++j).length<=sizeLine:=by rw[strLen_append];exact hl
   exact .inr (.inl ⟨i,j,(xQ ox e1).1,(xQ oy e2).1,hl,k _ H rfl rfl (wzi hl')⟩)
  ·cases hf
 ·rename_i i j e1 e2
  split at hf
  ·rename_i hl;cases oq9 hf;obtain⟨a,xs,bs,e3,q3,r3,h3⟩:=zY ox (.inl e1) hl.2.1;obtain⟨b,ys,cs,e4,q4,r4,h4⟩:=zY oy (.inl e2) hl.2.2;have q3:LsR K H a xs:=by rcases q3 with⟨_,z⟩|⟨z,_⟩;exact z;rw[e1]at z;cases z
   have q4:LsR K H b ys:=by rcases q4 with⟨_,z⟩|⟨z,_⟩;exact z;rw[e2]at z;cases z
   exact .inr (.inr (.inl ⟨a,b,xs,ys,e3,e4,q3,q4,by rw[<-r3.len,<-r4.len];exact hl.1,λp hp=>(k _ _ rfl rfl (J8 hp (r4.app r3) λb hb=>(aA hb).elim (λz=>ll9 _ (h3 b z)) λz=>lr9 _ (h4 b z)))⟩))
  ·cases hf
 ·rename_i i j e1 e2
  split at hf
  ·rename_i hl;cases oq9 hf;obtain⟨a,xs,bs,e3,q3,r3,h3⟩:=zY ox (.inr e1) hl.2.1;obtain⟨b,ys,cs,e4,q4,r4,h4⟩:=zY oy (.inr e2) hl.2.2;have q3:SqT K H a xs:=by rcases q3 with⟨z,_⟩|⟨_,z⟩;rw[e1]at z;cases z;exact z
   have q4:SqT K H b ys:=by rcases q4 with⟨z,_⟩|⟨_,z⟩;rw[e2]at z;cases z;exact z
   have ap:=r4.app r3;have og:=λb hb=>(aA hb).elim (λz=>ll9 _ (h3 b z)) λz=>lr9 _ (h4 b z)
   have same:∀c zs,zs=xs++ys->SqT K H c zs->Q (.ref c) H:=λc zs e hq=>by
    refine k ⟨.no,.tup _,.ref c,bs++cs⟩ H rfl rfl ⟨x8,?_,λb hb=>(nomatch hb),Y8,og⟩;show RepL K H true _ _ _;exact⟨c,zs,rfl,hq,by rw[e];exact ap⟩
   by_cases hx:xs=[]
   ·subst hx;exact .inr (.inr (.inr (.inl ⟨a,b,ys,e3,e4,q3,q4,same b ys rfl q4⟩)))
   ·refine .inr (.inr (.inr (.inr ⟨a,b,xs,ys,e3,e4,q3,q4,hx,by rw[<-r3.len,<-r4.len];exact hl.1,λhy=>?_,λhy p hp=>?_⟩)))
    ·exact same a xs (by rw[hy,Xv]) q3
    ·exact k _ _ rfl rfl (kjk hp ap og)
  ·cases hf
 ·cases hf
noncomputable def tT(Z:Fx0)(q:Bool)(c:Ts):TT:=fun σ H Q=>∃E L r,Mt E σ L/\World Z.K H L/\c E=some r/\Xc Z σ H L r /\
 ∀E' k,r=.ok E' k->∀L' H',Mt E' σ L'->World Z.K H' L'->Step H L H' L'->(q=true->jY H H')->Q k H'
noncomputable def QT(X:Cx)(Z:Fx0)(q:Bool)(c:Ts)(e:Expr):Prop:=PT X e (tT Z q c)
noncomputable def QW(X:Cx)(Z:Fx0)(q:Bool)(c:Ts)(e:Expr):Prop:=PW X e (tT Z q c)
section
variable {X:Cx}{Z:Fx0}{q qa qb:Bool}{a b c:Ex}{u v:Ts}{e ea eb:Expr}{es:List Expr}{pos:Pos}{α β:Type}{σ:L2.St}{H:Hp}{L:Ls}{E:En}
theorem vvc{e t t'}(h:PW X e t)(w:∀ σ H Q,t' σ H Q->t σ H Q):PW X e t':=λwh a7 s σ H Q I q=>h wh a7 s σ H Q I (w σ H Q q)
theorem vjx{F}{r:Res α}{G}(m:Mt E σ L)(w:World Z.K H L)(h:bnd (u E) F=some r)(xc:Xc Z σ H L r)
  (k:∀E1 s,F E1 s=some r->∀L1 H1,Mt E1 σ L1->World Z.K H1 L1->Step H L H1 L1->(q=true->jY H H1)->G s H1):tT Z q u σ H G:=by
 rcases x9 h with⟨E1,s,h1,h2⟩|⟨E1,c,h1,h2⟩
 ·exact⟨E,L,_,m,w,h1,(λ_ _ z=>by cases z),λE' s' z L' H' m' w' st sm=>by
   injection z with z1 z2;subst z1 z2;exact k _ _ h2 L' H' m' w' st sm⟩
 ·exact⟨E,L,_,m,w,h1,xc.map h2,λE' s' z=>by cases z⟩
theorem qwg(ha:QT X Z q u ea):QW X Z q u (.BoolOp .And [ea] pos):=vx4 ha
theorem V7(ha:QT X Z q u ea):QW X Z q u (.BoolOp .Or [ea] pos):=wq8 ha
theorem vva(ha:QT X Z q u ea)(hb:QW X Z q v (.BoolOp .And (eb::es) pos)):QW X Z q (Q.tAnd u v) (.BoolOp .And (ea::eb::es) pos):=
 vvc (wq9 ha hb) fun σ H Q aj=>ex8 aj λE L r m w hc xc k=>vjx m w hc xc λE1 s h1 L1 H1 m1 w1 st sm=>by
  cases s with
  |true=>
   exact⟨E1,L1,r,m1,w1,h1,xc.step st,λE' k' z L' H' m' w' dz jo=>k E' k' z L' H' m' w' (st.trans dz) λhq=>kQ (sm hq) (jo hq)⟩
  |false=>grind
theorem JK(ha:QT X Z q u ea)(hb:QW X Z q v (.BoolOp .Or (eb::es) pos)):QW X Z q (Q.tOr u v) (.BoolOp .Or (ea::eb::es) pos):=
 vvc (wzc ha hb) fun σ H Q aj=>ex8 aj λE L r m w hc xc k=>vjx m w hc xc λE1 s h1 L1 H1 m1 w1 st sm=>by
  cases s with
  |false=>
   exact⟨E1,L1,r,m1,w1,h1,xc.step st,λE' k' z L' H' m' w' dz jo=>k E' k' z L' H' m' w' (st.trans dz) λhq=>kQ (sm hq) (jo hq)⟩
  |true=>grind
theorem QW.pt(h:QW X Z q u e):QT X Z q u e:=PW.pt h
theorem zJ(ha:QT X Z q u ea):QT X Z q (Q.tNot u) (.UnaryOp .Not ea pos):=
 qwk (wqb ha) fun σ H Q aj=>ex8 aj λE L r m w hc xc k=>vjx m w hc xc λE1 s h1 L1 H1 m1 w1 st sm=>by
  cases oq9 h1;exact k _ _ rfl L1 H1 m1 w1 st sm
theorem kq{op r f}(ho:OpR X (compareOp op) r)(ad:Ad2 Z.K r f)(ha:QV X Z qa a ea)(hb:QV X Z true b eb)(hm:behindInMarks op eb=false)(hf:∀x y s,f x y=some s->∃k,s.2=.bl k):QT X Z qa (Q.tE (cF2 f a b)) (.Compare ea [op] [eb] pos):=
 qwk (vxb ho ha hb hm) fun σ H Q aj=>ex8 aj λE L r m w hc xc k=>by
  refine kvu ad ?_;rcases x9 hc with⟨E1,s,h1,h2⟩|⟨E1,c,h1,h2⟩
  ·refine⟨E,L,_,m,w,h1,(λ_ _ z=>by cases z),λE' s' z x L' H' e1 e2 m' w' st sm=>?_⟩;injection z with z1 z2;subst z1 z2;obtain⟨kk,hk⟩:∃k,s.2=.bl k:=by
    rcases x9 h1 with⟨E2,s2,h3,h4⟩|⟨_,_,_,z⟩
    ·rcases x9 h4 with⟨E3,s3,h5,h6⟩|⟨_,_,_,z⟩
     ·obtain⟨y,hy,z⟩:=xK h6;cases z;exact hf _ _ _ hy
     ·cases z
    ·cases z
   rw[hk]at h2;cases oq9 h2;exact⟨kk,QY w'.head (e2.trans hk),k _ _ rfl L' H' m' w'.tail (st.trans Step.drop) λhq=>(sm hq).1⟩
  ·exact⟨E,L,_,m,w,h1,xc.map h2,λE' s' z=>by cases z⟩
end
def Pn(pn:List Nat)(σ σ':L2.St):Prop:=∀p∈pn,σ'[p]?=σ[p]?
theorem Pn.refl{pn σ}:Pn pn σ σ:=λ_ _=>rfl
theorem Pn.trans{pn σ σ1 σ2}(a:Pn pn σ σ1)(b:Pn pn σ1 σ2):Pn pn σ σ2:=λp hp=>(b p hp).trans (a p hp)
theorem Pn.set{pn σ σ1 i y}(a:Pn pn σ σ1)(h:i∉pn):Pn pn σ (σ1.set i y):=λp hp=>by
 have:i≠p:=λe=>h (e▸hp)
 rw[Yy this];exact a p hp
noncomputable def FlP(Z:Fx0)(pn:List Nat)(D:Ends)(σ:L2.St)(H:Hp)(L:Ls):Fl->Prop
 |.nx E'=>∀ σ' L' H',Pn pn σ σ'->Mt E' σ' L'->World Z.K H' L'->Step H L H' L'->D.nx σ' H'|.ct E'=>∀ σ' L' H',Pn pn σ σ'->Mt E' σ' L'->World Z.K H' L'->Step H L H' L'->D.ct σ' H'|.bk E'=>∀ σ' L' H',Pn pn σ σ'->Mt E' σ' L'->World Z.K H' L'->Step H L H' L'->D.bk σ' H'|.rt E' a=>∀(x:Sl) σ' L' H',x.o=a.1->x.d=a.2->Pn pn σ σ'->Mt E' σ' L'->World Z.K H' (some x::L')->Step H L H' (some x::L')->D.rt x.v H'|.xc E' c=>∀C σ' L' H',Z.mg c=some (.ref C)->Pn pn σ σ'->Mt E' σ' L'->World Z.K H' L'->Step H L H' L'->Z.EX (.ref C) none H'
theorem FlP.step{Z pn D σ σ1 H H1 L L1 r}(k:FlP Z pn D σ H L r)(s:Step H L H1 L1)(p:Pn pn σ σ1):FlP Z pn D σ1 H1 L1 r:=by
 cases r with|nx E'=>exact fun σ' L' H' p' m w s'=>k σ' L' H' (p.trans p') m w (s.trans s')|ct E'=>exact fun σ' L' H' p' m w s'=>k σ' L' H' (p.trans p') m w (s.trans s')|bk E'=>exact fun σ' L' H' p' m w s'=>k σ' L' H' (p.trans p') m w (s.trans s')|rt E' a=>exact λx σ' L' H' e1 e2 p' m w s'=>k x σ' L' H' e1 e2 (p.trans p') m w (s.trans s')|xc E' c=>exact λC σ' L' H' hm p' m w s'=>k C σ' L' H' hm (p.trans p') m w (s.trans s')
theorem FlP.xc{α Z pn D σ H L E' c}(k:FlP Z pn D σ H L (.xc E' c)):Xc Z σ H L (.exc E' c:Res α):=λE1 c1 e C L' H' hm m w s=>by
 injection e with h1 h2;subst h1 h2;exact k C σ L' H' hm Pn.refl m w s
noncomputable def tS(Z:Fx0)(pn:List Nat)(c:Sm):TS:=λD σ H=>∃E L r,Mt E σ L/\World Z.K H L/\c E=some r/\FlP Z pn D σ H L r
noncomputable def QS(X:Cx)(Z:Fx0)(pn:List Nat)(c:Sm)(st:Stmt):Prop:=PS X st (tS Z pn c)
noncomputable def QSs(X:Cx)(Z:Fx0)(pn:List Nat)(c:Sm)(st:List Stmt):Prop:=PSs X st (tS Z pn c)
section
variable {X:Cx}{Z:Fx0}{pn:List Nat}{q qa qb:Bool}{a b c:Ex}{u v:Ts}{A B:Sm}{e ea eb:Expr}{st:Stmt}{ss tt:List Stmt}{pos:Pos}{α:Type}{σ:L2.St}{H:Hp}{L:Ls}{E:En}{D:Ends}
theorem W5{m}{F:En->α->Option Fl}{r}(h:ofE m F=some r):(∃E1 x,m=some (.ok E1 x)/\F E1 x=some r)\/∃E1 c,m=some (.exc E1 c)/\r=.xc E1 c:=by
 cases m with
 |none=>cases h
 |some q=>
  cases q with|ok E1 x=>exact .inl ⟨E1,x,rfl,h⟩|exc E1 c=>exact .inr ⟨E1,c,rfl,(oq9 h).symm⟩
theorem Q4{F r G}(m:Mt E σ L)(w:World Z.K H L)(h:ofE (a E) F=some r)(k:FlP Z pn D σ H L r)
  (g:∀E1 s,F E1 s=some r->∀x L1 H1,x.o=s.1->x.d=s.2->Mt E1 σ L1->World Z.K H1 (some x::L1)->Step H L H1 (some x::L1)->(q=true->jY H H1/\∀b∈x.own,H b=none)->G x.v H1):tQ Z q a σ H G:=by
 rcases W5 h with⟨E1,s,h1,h2⟩|⟨E1,c,h1,rfl⟩
 ·exact⟨E,L,_,m,w,h1,(λ_ _ z=>by cases z),λE' s' z x L' H' e1 e2 m' w' st sm=>by
   injection z with z1 z2;subst z1 z2;exact g _ _ h2 x L' H' e1 e2 m' w' st sm⟩
 ·exact⟨E,L,_,m,w,h1,k.xc,λE' s' z=>by cases z⟩
theorem wk4{F r G}(m:Mt E σ L)(w:World Z.K H L)(h:ofE (u E) F=some r)(k:FlP Z pn D σ H L r)
  (g:∀E1 s,F E1 s=some r->∀L1 H1,Mt E1 σ L1->World Z.K H1 L1->Step H L H1 L1->G s H1):tT Z q u σ H G:=by
 rcases W5 h with⟨E1,s,h1,h2⟩|⟨E1,c,h1,rfl⟩
 ·exact⟨E,L,_,m,w,h1,(λ_ _ z=>by cases z),λE' s' z L' H' m' w' st sm=>by
   injection z with z1 z2;subst z1 z2;exact g _ _ h2 L' H' m' w' st⟩
 ·exact⟨E,L,_,m,w,h1,k.xc,λE' s' z=>by cases z⟩
theorem v8:QSs X Z pn qV []:=qwl vxd λD σ H aj=>ex7 aj λE L r m w hc k=>by
 cases oq9 hc;exact k σ L H Pn.refl m w Step.refl
theorem j6(h1:QS X Z pn A st)(h2:QSs X Z pn B ss):QSs X Z pn (j5 A B) (st::ss):=qwl (vke h1 h2) λD σ H aj=>ex7 aj λE L r m w hc k=>by
 unfold j5 at hc;cases ha:A E with
 |none=>rw[ha]at hc;cases hc
 |some f=>
  rw[ha]at hc;cases f with|nx E1=>exact⟨E,L,_,m,w,ha,fun σ' L' H' p m' w' s=>⟨E1,L',r,m',w',hc,k.step s p⟩⟩|ct E1=>cases oq9 hc;exact⟨E,L,_,m,w,ha,k⟩|bk E1=>cases oq9 hc;exact⟨E,L,_,m,w,ha,k⟩|rt E1 x=>cases oq9 hc;exact⟨E,L,_,m,w,ha,k⟩|xc E1 x=>cases oq9 hc;exact⟨E,L,_,m,w,ha,k⟩
def jq(h1:QS X Z pn A st):QSs X Z pn A [st]:=vxc h1
theorem k3(h:QE X Z q a ea):QS X Z pn (jQ a) (.Return (some ea) pos):=zZ (wqd h) λD σ H aj=>ex7 aj λE L r m w hc k=>
 Q4 m w hc k λE1 s h1 x L1 H1 e1 e2 m1 w1 st _=>by
  cases oq9 h1;exact k x σ L1 H1 e1 e2 Pn.refl m1 w1 st
theorem v4(hc:QT X Z q u e)(ha:QSs X Z pn A ss)(hb:QSs X Z pn B tt):QS X Z pn (sIf u A B) (.If e ss tt pos):=zZ (wzd hc ha hb) λD σ H aj=>ex7 aj λE L r m w hc k=>
 wk4 m w hc k λE1 s h1 L1 H1 m1 w1 st=>by
  cases s with|true=>rw[X9 rfl]at h1 ⊢;exact⟨E1,L1,r,m1,w1,h1,k.step st Pn.refl⟩|false=>rw[Xb ⋯]at h1 ⊢;exact⟨E1,L1,r,m1,w1,h1,k.step st Pn.refl⟩
theorem qk5{x i s}(m:Mt E σ L)(e1:x.o=s.1)(e2:x.d=s.2):Mt (E.set i (some s)) (σ.set i (some x.v)) (L.set i (some x)):=by
 have:=m.set (x:=x) i;rw[e1,e2]at this;exact this
theorem wz9{i y b9}(hN:X.N.Nodup)(hi:X.N[i]?=some y)(hx:Loc X.env.scope y)(h:QE X Z q a ea)(hp:autoParam (i∉pn) ŕ)(hs:autoParam (swapsWith ea (some (.Name y b9)) pos.line X.env=pure false) Ŕ)(hf:autoParam (X.fn y=true\/X.env.scope.names.lookup y=some .local) Ř):
  QS X Z pn (jk i a) (.Assign [.Name y b9] ea pos):=zZ (wqc hN hi hx h hs hf) λD σ H aj=>ex7 aj λE L r m w hc k=>
 Q4 m w hc k λE1 s h1 x L1 H1 e1 e2 m1 w1 st _=>by
  cases oq9 h1;exact k _ _ H1 (Pn.refl.set hp) (qk5 m1 e1 e2) w1.set (st.trans Step.set)
theorem wq6{i y b9}(hp:i∉pn)(h:PS X (.Assign [.Name y b9] ea pos) (λD σ H=>tQ Z q a σ H λv H1=>D.nx (σ.set i (some v)) H1)):
  QS X Z pn (jk i a) (.Assign [.Name y b9] ea pos):=zZ h λD σ H aj=>ex7 aj λE L r m w hc k=>
 Q4 m w hc k λE1 s h1 x L1 H1 e1 e2 m1 w1 st _=>by
  cases oq9 h1;exact k _ _ H1 (Pn.refl.set hp) (qk5 m1 e1 e2) w1.set (st.trans Step.set)
end
structure Walks (K:Frag)(J:It)(T:List Sl)(ds:List D):Prop where
 no:∀t∈T,t.o=.no
 go:∀i H,(∀t∈T,t.ok K H)->i<ds.length->J.go i H
 stop:∀H,(∀t∈T,t.ok K H)->J.stop ds.length H
 yld:∀i H v H' d,(∀t∈T,t.ok K H)->J.yld i H v H'->ds[i]?=some d->∃z:Sl,z.o=.no/\z.d=d/\z.v=v/\jY H H'/\z.ok K H'/\∀b∈z.as,∃t∈T,b∈t.as
noncomputable def tI(Z:Fx0)(q:Bool)(it:Ev (List D)):TI:=fun σ H R=>∃E L r,Mt E σ L/\World Z.K H L/\it E=some r/\Xc Z σ H L r /\
 ∀E' ds,r=.ok E' ds->∀J T L' H',Mt E' σ L'->World Z.K H' (L'++T.map some)->Step H L H' (L'++T.map some)->ds.length<=sizeLine->(q=true->jY H H')->Walks Z.K J T ds->R J H'
noncomputable def QI(X:Cx)(Z:Fx0)(q:Bool)(tg:Expr)(it:Ev (List D))(e:Expr):Prop:=PI X tg e (tI Z q it)
noncomputable def xjp(K:Frag)(H0:Hp)(T:List Sl)(H:Hp):Prop:=(∀t∈T,t.ok K H)/\∀t∈T,Kp H0 H t.as
structure WalksD (K:Frag)(H0:Hp)(J:It)(T:List Sl)(ds:List D):Prop where
 no:∀t∈T,t.o=.no
 go:∀i H,xjp K H0 T H->i<ds.length->J.go i H
 stop:∀H,xjp K H0 T H->J.stop ds.length H
 yld:∀i H v H' d,xjp K H0 T H->J.yld i H v H'->ds[i]?=some d->∃z:Sl,z.o=.no/\z.d=d/\z.v=v/\jY H H'/\z.ok K H'/\∀b∈z.as,∃t∈T,b∈t.as
theorem Walks.D{K H0 J T ds}(h:Walks K J T ds):WalksD K H0 J T ds:=⟨h.no,λi H o=>h.go i H o.1,λH o=>h.stop H o.1,λi H v H' d o=>h.yld i H v H' d o.1⟩
noncomputable def tID(Z:Fx0)(q:Bool)(it:Ev (List D)):TI:=fun σ H R=>∃E L r,Mt E σ L/\World Z.K H L/\it E=some r/\Xc Z σ H L r /\
 ∀E' ds,r=.ok E' ds->∀J T L' H',Mt E' σ L'->World Z.K H' (L'++T.map some)->Step H L H' (L'++T.map some)->ds.length<=sizeLine->(q=true->jY H H')->WalksD Z.K H' J T ds->R J H'
noncomputable def QID(X:Cx)(Z:Fx0)(q:Bool)(tg:Expr)(it:Ev (List D))(e:Expr):Prop:=PI X tg e (tID Z q it)
theorem QI.D{X Z q tg it e}(h:QI X Z q tg it e):QID X Z q tg it e:=λa7 s σ H R I hz=>h a7 s σ H R I (by
 obtain⟨E,L,r,m,w,e,x,k⟩:=hz;exact⟨E,L,r,m,w,e,x,λE' ds z J T L' H' m' w' st hl sm wk=>k E' ds z J T L' H' m' w' st hl sm wk.D⟩)
structure WalksS (K:Frag)(q:Bool)(H0:Hp)(J:It)(T:List Sl)(ds:List D):Prop where
 no:∀t∈T,t.o=.no
 go:∀i H,(∀t∈T,t.ok K H)->(q=true->jY H0 H)->i<ds.length->J.go i H
 stop:∀H,(∀t∈T,t.ok K H)->(q=true->jY H0 H)->J.stop ds.length H
 yld:∀i H v H' d,(∀t∈T,t.ok K H)->(q=true->jY H0 H)->J.yld i H v H'->ds[i]?=some d->∃z:Sl,z.o=.no/\z.d=d/\z.v=v/\jY H H'/\z.ok K H'/\∀b∈z.as,∃t∈T,b∈t.as
theorem vwk{K q H0 J T ds}(h:Walks K J T ds):WalksS K q H0 J T ds:=⟨h.no,λi H o _=>h.go i H o,λH o _=>h.stop H o,λi H v H' d o _=>h.yld i H v H' d o⟩
noncomputable def tIS(Z:Fx0)(q:Bool)(it:Ev (List D)):TI:=fun σ H R=>∃E L r,Mt E σ L/\World Z.K H L/\it E=some r/\Xc Z σ H L r /\
 ∀E' ds,r=.ok E' ds->∀J T L' H',Mt E' σ L'->World Z.K H' (L'++T.map some)->Step H L H' (L'++T.map some)->ds.length<=sizeLine->(q=true->jY H H')->WalksS Z.K q H J T ds->R J H'
noncomputable def QIS(X:Cx)(Z:Fx0)(q:Bool)(tg:Expr)(it:Ev (List D))(e:Expr):Prop:=PI X tg e (tIS Z q it)
theorem xk2{X Z q tg it e}(h:QI X Z q tg it e):QIS X Z q tg it e:=λa7 s σ H R I hz=>h a7 s σ H R I (by
 obtain⟨E,L,r,m,w,e,x,k⟩:=hz;exact⟨E,L,r,m,w,e,x,λE' ds z J T L' H' m' w' st hl sm wk=>k E' ds z J T L' H' m' w' st hl sm (vwk wk)⟩)
noncomputable def tG(Z:Fx0)(pn:List Nat)(tg:Tg):TG:=λv σ H Q=>∃(E:En) (L:Ls) (z:Sl) (E':En),Mt E σ L/\World Z.K H (some z::L)/\z.o=.no/\z.v=v/\tg.put z.d E=some E' /\
 ∀ σ' L',Pn pn σ σ'->Mt E' σ' L'->World Z.K H L'->Step H (some z::L) H L'->Q σ' H
noncomputable def QG(X:Cx)(Z:Fx0)(pn:List Nat)(tg:Tg)(e:Expr):Prop:=PG X e (tG Z pn tg)
section
variable {X:Cx}{Z:Fx0}{pn:List Nat}{e:Expr}{σ:L2.St}{H:Hp}{L:Ls}{E:En}
theorem vvl{t t'}(h:PG X e t)(w:∀v σ H Q,t' v σ H Q->t v σ H Q):PG X e t':=λa7 s σ H x v Q I r q=>h a7 s σ H x v Q I r (w x σ H Q q)
theorem wky{i}(h:PG X e (qzd i))(hp:autoParam (i∉pn) ŕ):QG X Z pn (.n i) e:=vvl h λv σ H Q ⟨E,L,z,E',m,w,ho,hv,bm,k⟩=>by
 cases oq9 bm;rw[<-hv];exact k _ _ (Pn.refl.set hp) (qk5 m ho rfl) w.set Step.set
def gNs:List Nat->TGs
 |[]=>xkc|i::is=>ww6 (qzd i) (gNs is)
theorem qzc{Q M σ0}:∀{is ds xs bs E L σ E'},Mt E σ L->World Z.K H L->RepA Z.K H true ds xs bs->(∀b∈bs,b∉j9 L)->(∀b∈bs,b∈jV M)->Step H M H L->Pn pn σ0 σ ->
  setAll is ds E=some E'->(∀i∈is,i∉pn)->(∀ σ' L',Pn pn σ0 σ'->Mt E' σ' L'->World Z.K H L'->Step H M H L'->Q σ' H)->gNs is xs σ H Q
 | [],[],xs,bs,E,L,σ,E',m,w,r,_,_,st,p,e,_,k=>by
  cases oq9 e;exact⟨r.1,k σ L p m w st⟩
 | [],_::_,_,_,_,_,_,_,_,_,_,_,_,_,_,e,_,_=>by cases e| _::_,[],_,_,_,_,_,_,_,_,_,_,_,_,_,e,_,_=>by cases e
 | i::is,d::ds,xs,bs,E,L,σ,E',m,w,r,hb,hf,st,p,e,hi,k=>by
  obtain⟨x,rr,cs,es,rfl,rfl,h1,h2⟩:=r;have s1:Step H M H (L.set i (some ⟨.no,d,x,cs⟩)):=by
   refine⟨λ_ _ h _=>h,λa ha=>?_,λa ha=>?_⟩
   ·rcases Wv ha with z|z
    ·exact nomatch z
    ·exact st.own a z
   ·rcases jkj ha with z|z
    ·exact .inl (hf a (ll9 _ z))
    ·exact st.frz a z
  exact⟨x,rr,rfl,qzc (qk5 (x:=⟨.no,d,x,cs⟩) m rfl rfl) (w.consNo (x:=⟨.no,d,x,cs⟩) h1 rfl λb dj=>hb b (ll9 _ dj)).set h2 (λb dj ho=>by
   rcases Wv ho with z|z
   ·exact nomatch z
   ·exact hb b (lr9 _ dj) z) (λb dj=>hf b (lr9 _ dj)) s1 (p.set (hi i X5)) e (λj hj=>hi j (lc9 _ hj)) k⟩
theorem kks:∀{is ds E E'},setAll is ds E=some E'->is.length=ds.length
 |[],[],_,_,_=>rfl|_::_,[],_,_,e=>by cases e|i::is,d::ds,E,E',e=>by rw[Xm,Xm,kks (E:=E.set i _) e]
noncomputable def xj2(K:Frag)(n:Nat)(t:TGs):TG:=λv σ H Q=>∃a xs,v=.ref a/\(SqT K H a xs\/SqL K H a xs)/\xs.length=n/\t xs σ H Q
section
variable {prog:Program}{w:PySem.World}{A:Around}{E':VP9}
theorem kx9{it t items}(cw:t≠it):∀n i (s) (Q),s.heap.IsListIter it t i->s.heap.IsList t items->i+n<=items.size ->
  (∀h',h'.IsListIter it t (i+n)->Heap.SameBut it s.heap h'->Q ((items.toList.drop i).take n) {s with heap:=h' })->wpAny (model prog w) A (draw (.ref it) n) Q E' s
 | 0,i,s,Q,f9,_,_,hQ=>by
  exact X2 (by simpa using hQ s.heap f9 (Heap.SameBut.refl ..))
 | n+1,i,s,Q,f9,ht,ef,hQ=>by
  have ce:i<items.size:=by omega
  refine X0 (wpAny_pyNext_list_item f9 ht (x:=items[i]) (by simp) λh₁ oz qe=>?_);have ht₁:h₁.IsList t items:=by
   obtain⟨o,ho,r⟩:=ht;exact⟨o,(qe.2 t cw).trans ho,r⟩
  refine X0 (Xu (kx9 cw n _ _ _ oz ht₁ (by omega) λh₂ hit₂ hs₂=>X2 ?_));have hd:items.toList.drop i=items[i]::items.toList.drop (i+1):=by simp[List.drop_eq_getElem_cons,ce]
  have:=hQ h₂ (by grind) (qe.trans hs₂)
  simp_all
theorem jzl{s t items Q}(hh:A.handled=none)(ht:s.heap.IsList t items)
  (hQ:∀h',Heap.ExtBut s.heap.objs.size s.heap h'->Q items.toList {s with heap:=h' }):wpAny (model prog w) A (unpackItems (.ref t) items.size none) Q E' s:=by
 have ce:t≠s.heap.objs.size:=by obtain⟨o,ho,_⟩:=ht;exact Xe (Xa ho)
 refine X0 ?_;unfold notIterableAtAll;refine X0 (Z5 ht.typeIs slot_list_iter.lookup ?_);refine X2 ?_;refine X0 (Xu (wpAny_pyIter_list ht ?_));have ht0:∀o,(s.heap.push o).IsList t items:=λo=>by
  obtain⟨ob,ho,r⟩:=ht;exact⟨ob,X1 _ ho,r⟩
 refine X0 (Xu (kx9 ce items.size 0 _ _ ⟨_,X6 _ rfl,rfl,rfl⟩ (ht0 _) (by simp) λh₁ oz qe=>?_));have oj:List.take items.size (List.drop 0 items.toList)=items.toList:=by
  rw[List.drop_zero];exact List.take_of_length_le (by simp)
 rw[oj];rw[Xb (by simp)];have ht₁:h₁.IsList t items:=by
  obtain⟨o,ho,r⟩:=ht0 _;exact⟨o,(qe.2 t ce).trans ho,r⟩
 refine X0 (Xu (wpAny_pyNext_list_end hh oz ht₁ (by simp) λh₂ he₂=>?_));exact X2 (hQ h₂ λb o hb e=>he₂ b o hb (qe.extBut b o hb (X1 _ e)))
theorem jz8{s env bw x1 pos t items Q}(hh:A.handled=none)(ht:s.heap.IsList t items)
  (hn:(assignEach bw env).length=items.size) (u4:(assignEach bw env).findIdx? (·.1)=none)
  (h:∀h',Heap.ExtBut s.heap.objs.size s.heap h'->wpAny (model prog w) A (assignInOrder ((assignEach bw env).map (·.2)) items.toList) Q E' {s with heap:=h' }):
  wpAny (model prog w) A (assign (.Tuple bw x1 pos) env (.ref t)) Q E' s:=by
 refine X0 (wpAny_standAt ?_);unfold unpack;rw[hn,u4];exact X0 (Xu (jzl hh ht h))
end
theorem JX K {es k t n pos}(h:PGs X es t)(hc:autoParam (X.calm=true) Ŕ)(hK:autoParam (X.K=K) Ŕ)
  (hn:autoParam ((assignEach es X.env).length=n) Ŕ) (b6:autoParam ((assignEach es X.env).findIdx? (·.1)=none) Ŕ):PG X (.Tuple es k pos) (xj2 K n t):=by
 subst hK;rintro a7 s σ H v u Q I r ⟨a,xs,e1,hq,hl,hw⟩;subst e1;cases r;rcases hq with hq|hq
 ·obtain⟨a9,rv,ht,hz⟩:=I.tuple hq;refine assign_Tuple_tuple (I.ok.hd hc) ht (by simp[hn,<-hl,rv.length]) b6 λh' hx=>?_
  have I1:L2.Inv X a7 σ H {s with heap:=h' }:=I.kept (t':=s.toks) λb o e=>hx b o (Xe (Xa e)) e
  exact h a7 _ σ H xs _ Q I1 (by simp_all) hw
 ·obtain⟨a9,rv,ht,hz⟩:=I.list hq;refine jz8 (I.ok.hd hc) ht.isList (by simp[hn,<-hl,rv.length]) b6 λh' hx=>?_
  have I1:L2.Inv X a7 σ H {s with heap:=h' }:=I.kept (t':=s.toks) λb o e=>hx b o (Xe (Xa e)) e
  exact h a7 _ σ H xs _ Q I1 (by simpa using rv) hw
theorem Jz{is}(h:PG X e (xj2 Z.K is.length (gNs is)))(hp:autoParam (∀i∈is,i∉pn) ŕ):QG X Z pn (.t is) e:=vvl h λv σ H Q ⟨E,L,z,E',m,w,ho,hv,bm,k⟩=>by
 have fin:∀ds,_->setAll is ds E=some E'->xj2 Z.K is.length (gNs is) v σ H Q:=λds hd bm=>by
  obtain⟨a,xs,bs,e1,q1,r,h1,h2⟩:=items w.head hd;rw[ho]at r;refine⟨a,xs,hv.symm.trans e1,?_,by rw[kks bm,r.len],qzc m w.tail r (λb hb=>w.apart b (h1 b hb)) (λb hb=>?_) Step.drop Pn.refl bm hp k⟩
  ·rcases q1 with⟨_,z'⟩|⟨_,z'⟩
   ·exact .inr z'.sq
   ·exact .inl z'
  ·rw[xx,ZK ho];exact ll9 _ (h1 b hb)
 cases hd:z.d with|tup ds=>rw[hd]at bm;exact fin ds (.inr hd) bm|lst ds=>rw[hd]at bm;exact fin ds (.inl hd) bm|_=>rw[hd]at bm;cases bm
theorem qjq{is:List Nat}{q:Bool}{c:Ex}{ea tg:Expr}{pos:Pos}(h:QE X Z q c ea)(hg:QG X Z pn (.t is) tg)(hs:autoParam (swapsWithSole [tg] ea pos.line X.env=pure false) Ŕ)(hw:autoParam (swappedStores [tg] ea X.env=pure none) Ŕ)(h1:autoParam ((assignEach [tg] X.env).map (·.2)=[assign tg X.env]) Ŕ):
  QS X Z pn (V5 is c) (.Assign [tg] ea pos):=zZ (vvg h hg hs hw h1) λD σ H aj=>ex7 aj λE L r m w hc k=>
 Q4 m w (show ofE (c E) _=some r from hc) k λE1 s h1 x L1 H1 e1 e2 m1 w1 st _=>by
  cases hp:Tg.put (.t is) s.2 E1 with
  |none=>rw[hp]at h1;cases h1
  |some E2=>
   rw[hp]at h1;cases oq9 h1;have w2:World Z.K H1 (some x.let::L1):=w1.tail.consNo (Kv w1.head) rfl λb hb=>w1.apart b hb
   have s2:Step H L H1 (some x.let::L1):=K2 (x:=x.let) (st.trans Step.drop) (ZZ (x:=x) st) rfl;exact⟨E1,L1,x.let,E2,m1,w2,rfl,rfl,by rw[show x.let.d=s.2 from e2];exact hp,fun σ' L' p m' w' s'=>k σ' L' H1 p m' w' (s2.trans s')⟩
end
section
variable {X:Cx}{Z:Fx0}{pn:List Nat}{q:Bool}{tg ak:Expr}{it:Ev (List D)}{t:Tg}{B:Sm}{ss:List Stmt}{pos:Pos}{σ:L2.St}{H:Hp}{L:Ls}{E:En}
theorem kq1{K}{T:List Sl}{H1 H2 L1 z}(w:World K H1 (L1++T.map some))(hT:∀t∈T,t.o=.no)(sm:jY H1 H2)(ok:z.ok K H2)(ho:z.o=.no)(hz:∀b∈z.as,∃t∈T,b∈t.as):
  World K H2 ((some z::L1)++T.map some)/\Step H1 (L1++T.map some) H2 ((some z::L1)++T.map some):=by
 have w2:World K H2 _:=⟨λx hx=>RepO.kp (w.ok x hx) (Kp.of_same sm),w.nd,w.ds⟩;have hf:∀b∈z.as,b∈jV (L1++T.map some):=λb hb=>by
  obtain⟨t,ht,hbt⟩:=hz b hb;rw[qx];exact lr9 _ (mem_frozen.mpr ⟨t,Xr ht,by rw[ZK (hT t ht)];exact hbt⟩)
 refine⟨w2.consNo ok ho λb hb hL=>w2.ds b hL (hf b hb),λa ob h _=>sm a ob h,λa ha=>?_,λa ha=>?_⟩
 ·rw[List.cons_append,vj,qwz ho]at ha;exact .inl ha
 ·rw[List.cons_append,xx,ZK ho]at ha;rcases aA ha with q|q
  ·exact .inl (hf a q)
  ·exact .inl q
theorem stay{K T L1 L2 H1 H2}(w:World K H1 (L1++T))(s:Step H1 L1 H2 L2)(w2:World K H2 L2):World K H2 (L2++T)/\Step H1 (L1++T) H2 (L2++T):=⟨s.frame w w2 w.left,s.frm⟩
theorem Step.dropT{T H1 L1}:Step H1 (L1++T) H1 L1:=⟨λ_ _ h _=>h,λa ha=>.inl (by rw[jX];exact ll9 _ ha),λa ha=>.inl (by rw[qx];exact ll9 _ ha)⟩
theorem Kp.trans{H H1 H2 as}(a:Kp H H1 as)(b:Kp H1 H2 as):Kp H H2 as:=⟨λc xs e=>b.1 c xs (a.1 c xs e),λc o u e=>b.2.1 c o u (a.2.1 c o u e),λc hc ob e=>b.2.2 c hc ob (a.2.2 c hc ob e)⟩
theorem qjy{K H2 H3 L2 L3}{T:List Sl}(w:World K H2 (L2++T.map some))(hT:∀t∈T,t.o=.no)(s:Step H2 L2 H3 L3){H0}(h:∀t∈T,Kp H0 H2 t.as):∀t∈T,Kp H0 H3 t.as:=λt ht=>
 (h t ht).trans (s.kp w.left λb hb z=>w.ds b (by rw[jX];exact ll9 _ z) (by
  rw[qx];exact lr9 _ (mem_frozen.mpr ⟨t,Xr ht,by rw[ZK (hT t ht)];exact hb⟩)))
theorem wq0(hp:PassesOwn (model X.prog X.w) X.A X.env X.xe)(hc:X.calm=true)(hi:QID X Z q tg it ak)(hg:QG X Z pn t tg)(hb:QSs X Z pn B ss)(hs:autoParam (∀x,foldedSetIterable ak X.env x=pure x) Ŗ):QS X Z pn (qw it t B) (.For tg ak ss [] pos):=zZ (vvf hp hc hi hg hb hs) λD σ H aj=>ex7 aj λE L r m w hr k=>by
 have hr:ofE (it E) (λE ds=>wV t B ds E)=some r:=hr;rcases W5 hr with⟨E1,ds,h1,h2⟩|⟨E1,c,h1,rfl⟩
 rotate_left
 ·exact⟨E,L,_,m,w,h1,k.xc,λE' s' z=>by cases z⟩
 refine⟨E,L,_,m,w,h1,(λ_ _ z=>by cases z),λE' ds' z J T L' H' m' w' st hz _ wk=>?_⟩;injection z with z1 z2;subst z1 z2;have okT:∀{H2:Hp} {L2:Ls},World Z.K H2 (L2++T.map some)->∀t∈T,t.ok Z.K H2:=λw2 t ht=>w2.ok t (lr9 _ (Xr ht))
 refine⟨λi n σ1 H1=>∃E1 L1,Mt E1 σ1 L1/\World Z.K H1 (L1++T.map some)/\Step H L H1 (L1++T.map some)/\Pn pn σ σ1/\wV t B (ds.drop i) E1=some r/\i<=ds.length/\n=ds.length - i/\∀t∈T,Kp H' H1 t.as,⟨_,E1,L',m',w',st,Pn.refl,h2,Yf _,rfl,λ_ _=>Kp.of_same x8⟩,?_⟩;rintro i n σ1 H1 ⟨E1,L1,m1,w1,ir,p1,f1,hi,rfl,a7⟩
 by_cases ce:i<ds.length
 ·have hd:ds.drop i=ds[i]::ds.drop (i+1):=List.drop_eq_getElem_cons ce;rw [hd]at f1;unfold wV at f1;cases bm:t.put ds[i] E1 with
  | none=>rw[bm]at f1;cases f1
  | some E2=>
   rw[bm]at f1;dsimp only at f1;refine .inr ⟨wk.go i H1 ⟨okT w1,a7⟩ ce,fun σ2 H2=>∃E2 L2,Mt E2 σ2 L2/\World Z.K H2 (L2++T.map some)/\Step H L H2 (L2++T.map some)/\Pn pn σ σ2/\wV t B (ds.drop (i+1)) E2=some r/\∀t∈T,Kp H' H2 t.as,fun σ2 H2 ⟨E2,L2,a1,a2,a3,a4,a5,a6⟩=>⟨ds.length - (i+1),by omega,E2,L2,a1,a2,a3,a4,a5,ce,rfl,a6⟩,λv H2 hy=>?_⟩;obtain⟨z,zo,zd,zv,sm,rg,zas⟩:=wk.yld i H1 v H2 ds[i] ⟨okT w1,a7⟩ hy (X3 ce);obtain⟨wz,sz⟩:=kq1 w1 wk.no sm rg zo zas;refine⟨E1,L1,z,E2,m1,wz.left,zo,zv,by rw[zd];exact bm,fun σ2 L2 p2 m2 w2 bu=>?_⟩;obtain⟨w3,dg⟩:=stay wz bu w2;have fy:Step H L H2 (L2++T.map some):=ir.trans (sz.trans dg);have nh:∀t∈T,Kp H' H2 t.as:=λt ht=>(a7 t ht).trans (Kp.of_same sm)
   cases hB:B E2 with
   | none=>rw[hB]at f1;cases f1
   | some g=>
    rw[hB]at f1;refine⟨E2,L2,g,m2,w2,hB,?_⟩;have fin:∀{g:Fl},g=r->(∀ σ',D.nx σ'=D.nx σ')->FlP Z pn D σ2 H2 (L2++T.map some) g:=λe _=>e▸k.step fy (p1.trans p2)
    cases g with
    |nx E3=>
     intro σ3 L3 H3 p3 m3 w4 s3;obtain⟨w5,s5⟩:=stay w3 s3 w4;exact⟨E3,L3,m3,w5,fy.trans s5,(p1.trans p2).trans p3,f1,qjy w3 wk.no s3 nh⟩
    |ct E3=>
     intro σ3 L3 H3 p3 m3 w4 s3;obtain⟨w5,s5⟩:=stay w3 s3 w4;exact⟨E3,L3,m3,w5,fy.trans s5,(p1.trans p2).trans p3,f1,qjy w3 wk.no s3 nh⟩
    |bk E3=>
     have e:=oq9 f1;subst e;intro σ3 L3 H3 p3 m3 w4 s3;exact k σ3 L3 H3 ((p1.trans p2).trans p3) m3 w4 ((fy.trans Step.dropT).trans s3)
    |rt E3 x=>
     have e:=oq9 f1;subst e;intro y σ3 L3 H3 e1 e2 p3 m3 w4 s3;exact k y σ3 L3 H3 e1 e2 ((p1.trans p2).trans p3) m3 w4 ((fy.trans Step.dropT).trans s3)
    |xc E3 c=>
     have e:=oq9 f1;subst e;intro C σ3 L3 H3 hm p3 m3 w4 s3;exact k C σ3 L3 H3 hm ((p1.trans p2).trans p3) m3 w4 ((fy.trans Step.dropT).trans s3)
 ·have e:i=ds.length:=by omega
  subst e;rw[List.drop_length]at f1;cases oq9 f1;exact .inl ⟨wk.stop H1 ⟨okT w1,a7⟩,k σ1 L1 H1 p1 m1 w1.left (ir.trans Step.dropT)⟩
theorem wz6(hp:PassesOwn (model X.prog X.w) X.A X.env X.xe)(hc:X.calm=true)(hi:QI X Z q tg it ak)(hg:QG X Z pn t tg)(hb:QSs X Z pn B ss)(hs:autoParam (∀x,foldedSetIterable ak X.env x=pure x) Ŗ):QS X Z pn (qw it t B) (.For tg ak ss [] pos):=wq0 hp hc hi.D hg hb hs
end
mutual
noncomputable def jZ(h:Heap):D->Value->Prop
 |.non,u=>u=.none|.bl b,u=>u=.bool b|.int i,u=>∃t,u=.int i t|.str z,u=>∃t,u=.str z t|.tup ds,u=>∃a us,u=.ref a/\h.IsTuple a us.toArray/\CReps h ds us|.lst ds,u=>∃a us,u=.ref a/\h.IsList a us.toArray/\CReps h ds us|.dct _,_=>False|.obj _ _,_=>False
noncomputable def CReps(h:Heap):List D->List Value->Prop
 |[],us=>us=[]|d::ds,us=>∃u r,us=u::r/\jZ h d u/\CReps h ds r
end
theorem qko{n k}:D.flat n (.dct k)=false:=by cases n<;>simp[D.flat]
theorem qkn{n c k}:D.flat n (.obj c k)=false:=by cases n<;>simp[D.flat]
section
variable {X:Cx}{a7:LA9}{σ:L2.St}{H:Hp}{s:Shared}
mutual
theorem Qk(I:Inv X a7 σ H s){g}:∀{n d v as u},RepL X.K H g d v as->d.flat n=true->RelV v u->jZ s.heap d u
 | _,.non,_,_,_,h,_,r=>by
  unfold RepL at h;rw[h.1]at r;exact r
 | _,.bl _,_,_,_,h,_,r=>by
  unfold RepL at h;rw[h.1]at r;exact r
 | _,.int _,_,_,_,h,_,r=>by
  unfold RepL at h;rw[h.1]at r;exact r
 | _,.str _,_,_,_,h,_,r=>by
  unfold RepL at h;rw[h.1]at r;unfold jZ;exact r
 | 0,.tup ds,_,_,_,h,f,r=>by cases f
 | n+1,.tup ds,_,_,_,h,f,r=>by
  unfold D.flat at f;obtain⟨a,xs,rfl,q,ra⟩:=h;cases r;obtain⟨a9,rv,p,_⟩:=I.tuple q;exact⟨a,a9,rfl,p,creps_of I ra f rv⟩
 | 0,.lst ds,_,_,_,h,f,r=>by unfold D.flat at f;cases f
 | n+1,.lst ds,_,_,_,h,f,r=>by
  unfold D.flat at f;obtain⟨a,xs,bs,rfl,ra,q⟩:=h;cases r;have q':SqL X.K H a xs:=by
   rcases q with⟨q,_⟩|⟨_,q,_⟩
   ·exact SqL.of q
   ·exact(LsR.of q).sq
  obtain⟨a9,rv,p,_⟩:=I.list q';exact⟨a,a9,rfl,p.isList,creps_of I ra f rv⟩
 |_,.dct _,_,_,_,h,f,r=>by rw[qko]at f;cases f|_,.obj _ _,_,_,_,h,f,r=>by rw[qkn]at f;cases f
theorem creps_of(I:Inv X a7 σ H s){g}:∀{n ds xs as us},RepA X.K H g ds xs as->D.flats n ds=true->Vals xs us->CReps s.heap ds us
 | _,[],_,_,_,h,_,r=>by
  rw[h.1]at r;cases r;unfold CReps;rfl
 | n,d::ds,_,_,_,h,f,r=>by
  unfold D.flats at f;rw[Bool.and_eq_true]at f;obtain⟨x,rr,bs,cs,rfl,rfl,h1,h2⟩:=h;cases r with
  |cons r1 r2=>
   exact⟨_,_,rfl,Qk I h1 f.1 r1,creps_of I h2 f.2 r2⟩
end
end
theorem CReps.len{h}:∀{ds us},CReps h ds us->ds.length=us.length
 |[],_,r=>by rw[r];rfl
 |d::ds,_,r=>by
  obtain⟨u,rr,rfl,_,h2⟩:=r;simp[CReps.len h2]
theorem CReps.get{h}:∀{ds us} {j:Nat} {d},CReps h ds us->ds[j]?=some d->∃u,us[j]?=some u/\jZ h d u
 | [],_,_,_,_,e=>by simp_all
 | d::ds,_,j,d',r,e=>by
  obtain⟨u,rr,rfl,h1,h2⟩:=r;cases j with
  |zero=>simp_all
  |succ j=>
   obtain _:=CReps.get h2 (by simpa using e)
   simp_all
theorem vwn{h:Heap}{a x y}(p:h.IsTuple a x)(q:h.IsTuple a y):x=y:=by
 obtain⟨o,h1,_,n,h2⟩:=p;obtain⟨o',h3,_,n',h4⟩:=q
 grind
theorem vz3{h:Heap}{a x y}(p:h.IsList a x)(q:h.IsList a y):x=y:=by
 obtain⟨o,h1,_,n,h2⟩:=p;obtain⟨o',h3,_,n',h4⟩:=q
 grind
theorem qxi{h:Heap}{a x y}(p:h.IsList a x)(q:h.IsTuple a y):False:=by
 obtain⟨o,h1,h2,_⟩:=p;obtain⟨o',h3,h4,_⟩:=q
 grind
inductive Cv (h:Heap):D->Value->Prop
 |non:Cv h .non .none
 |bl (b:Bool):Cv h (.bl b) (.bool b)
 |int (i:Int) (t:_):Cv h (.int i) (.int i t)
 |str (z:Str) (t:_):Cv h (.str z) (.str z t)
 |lst {ds:List D} {a:Addr} {us:List Value} (p:h.IsList a us.toArray) (q:CReps h ds us):Cv h (.lst ds) (.ref a)
 |tup {ds:List D} {a:Addr} {us:List Value} (p:h.IsTuple a us.toArray) (q:CReps h ds us):Cv h (.tup ds) (.ref a)
theorem crv{h d u}(r:jZ h d u):Cv h d u:=by
 cases d<;>unfold jZ at r
 all_goals first|exact r.elim|(subst r;constructor)|(obtain⟨_,rfl⟩:=r;constructor)|(obtain⟨_,_,rfl,p,q⟩:=r;first|exact .lst p q|exact .tup p q)
mutual
theorem kj2{h d d' u}(a:jZ h d u)(b:jZ h d' u):d=d':=by
 cases d<;>cases crv a<;>cases crv b<;>try rfl
 ·exact(qxi ‹_› ‹_›).elim
 ·rename_i p r _ _ r' p';cases Array.mk.inj (vwn p p');rw[creps_inj r r']
 ·rename_i p r _ _ r' p';cases Array.mk.inj (vz3 p p');rw[creps_inj r r']
 ·exact(qxi ‹_› ‹_›).elim
theorem creps_inj{h}:∀{ds ds' us},CReps h ds us->CReps h ds' us->ds=ds'
 | [],ds',us,a,b=>by
  unfold CReps at a;subst a;cases ds' with|nil=>rfl|cons d ds=>unfold CReps at b;obtain⟨_,_,e,_⟩:=b;cases e
 | d::ds,ds',us,a,b=>by
  unfold CReps at a;obtain⟨u,r,rfl,h1,h2⟩:=a;cases ds' with
  |nil=>unfold CReps at b;cases b
  |cons d' ds'=>
   obtain⟨u',r',e,h3,h4⟩:=b;cases e;rw[kj2 h1 h3,creps_inj h2 h4]
end
mutual
theorem jxe:∀{n d},d.flat n=true->peq d d=true
 |_,.non,_=>by rfl|_,.bl b,_=>by unfold peq;simp|_,.int b,_=>by unfold peq;simp|_,.str b,_=>by unfold peq;simp|n+1,.tup ds,f=>peqs_refl f|0,.lst ds,f=>by unfold D.flat at f;cases f|n+1,.lst ds,f=>peqs_refl f|_,.dct _,f=>by rw[qko]at f;cases f|_,.obj _ _,f=>by rw[qkn]at f;cases f
theorem peqs_refl:∀{n d},D.flats n d=true->peqs d d=true
 |_,[],_=>by rfl
 |n,d::ds,f=>by
  unfold D.flats at f;rw[Bool.and_eq_true]at f;unfold peqs;rw[jxe f.1,peqs_refl f.2];rfl
end
theorem jxm:∀{n ds} {j:Nat} {d},D.flats n ds=true->ds[j]?=some d->d.flat n=true
 |_,[],_,_,_,e=>by simp_all
 |n,d::ds,j,d',f,e=>by
  unfold D.flats at f;rw[Bool.and_eq_true]at f;cases j with|zero=>simp_all|succ j=>exact jxm f.2 (by simpa using e)
noncomputable def pAt(as bs:List D)(j:Nat):Bool:=match as[j]?,bs[j]? with
 |some a,some b=>peq a b|_,_=>true
theorem jw9:∀as bs,as.length=bs.length->(List.range as.length).all (pAt as bs)=peqs as bs
 |[],[],_=>by rfl
 |a::as,b::bs,h=>by
  rw[Xm,List.range_succ_eq_map,List.all_cons,List.all_map];unfold peqs;rw[<-(jw9 as bs (by simpa using h))];rfl
 |_::_,[],h=>by simp_all
theorem jzv:∀as bs,as.length≠bs.length->peqs as bs=false
 |[],[],h=>by simp_all
 |a::as,b::bs,h=>by
  unfold peqs;rw[jzv as bs (by simpa using h),Bool.and_false]
 |[],_::_,_=>by rfl|_::_,[],_=>by unfold peqs;rfl
theorem qjb(as bs):((List.range (min as.length bs.length)).all (pAt as bs)&&as.length==bs.length)=peqs as bs:=by
 by_cases e:as.length=bs.length
 ·rw[<-e,Nat.min_self,jw9 as bs e];simp[e]
 ·rw[jzv as bs e]
  grind
section
variable {s:Shared}
theorem kz7{as bs us ws A}(ra:CReps s.heap as us)(rb:CReps s.heap bs ws)
  (h:∀(j:Nat) (d d') (u w),as[j]?=some d->bs[j]?=some d'->jZ s.heap d u->jZ s.heap d' w->SeqAt.EqAt A s u w (peq d d')):
  ∀j h1 (h2:j<ws.toArray.size),SeqAt.EqAt A s us.toArray[j] ws.toArray[j] (pAt as bs j):=λj h1 h2=>by
 have l1:=ra.len;have l2:=rb.len;simp at h1 h2;have ha:j<as.length:=⋯
 have hb:j<bs.length:=⋯
 obtain⟨u,eu,ru⟩:=ra.get (X3 ha);obtain⟨w,ew,ik⟩:=rb.get (X3 hb);have e1:us.toArray[j]=u:=by
  simp_all
 have e2:ws.toArray[j]=w:=by
  simp_all
 have e3:pAt as bs j=peq as[j] bs[j]:=by
  unfold pAt;rw[X3 ha,X3 hb]
 rw[e1,e2,e3];exact h j _ _ u w (X3 ha) (X3 hb) ru ik
theorem wke{A d d' u w}(hu:A.units<cLine)(r:jZ s.heap d u)(r':jZ s.heap d' w)
  (el:∀as bs (us ws),(d=.lst as\/d=.tup as)->(d'=.lst bs\/d'=.tup bs)->CReps s.heap as us->CReps s.heap bs ws->∀j (h1) (h2:j<ws.toArray.size),SeqAt.EqAt A.in1 s us.toArray[j] ws.toArray[j] (pAt as bs j)):
  SeqAt.RcAt A s u w (peq d d'):=by
 cases crv r<;>cases crv r'<;>unfold peq
 ·exact SeqAt.RcAt.none_none
 ·exact SeqAt.RcAt.none_bool _
 ·exact SeqAt.RcAt.none_int _ _
 ·exact SeqAt.RcAt.none_str _ _
 ·exact SeqAt.RcAt.none_list ‹_› hu
 ·exact SeqAt.RcAt.none_tuple ‹_› hu
 ·exact SeqAt.RcAt.bool_none _
 ·exact SeqAt.RcAt.bool_bool _ _
 ·exact SeqAt.RcAt.bool_int _ _ _
 ·exact SeqAt.RcAt.bool_str _ _ _
 ·exact SeqAt.RcAt.bool_list _ ‹_› hu
 ·exact SeqAt.RcAt.bool_tuple _ ‹_› hu
 ·exact SeqAt.RcAt.int_none _ _
 ·exact SeqAt.RcAt.int_bool _ _ _
 ·exact SeqAt.RcAt.int_int _ _ _ _
 ·exact SeqAt.RcAt.int_str _ _ _ _
 ·exact SeqAt.RcAt.int_list _ _ ‹_› hu
 ·exact SeqAt.RcAt.int_tuple _ _ ‹_› hu
 ·exact SeqAt.RcAt.str_none _ _
 ·exact SeqAt.RcAt.str_bool _ _ _
 ·exact SeqAt.RcAt.str_int _ _ _ _
 ·exact SeqAt.RcAt.str_str _ _ _ _
 ·exact SeqAt.RcAt.str_list _ _ ‹_› hu
 ·exact SeqAt.RcAt.str_tuple _ _ ‹_› hu
 ·exact SeqAt.RcAt.list_none ‹_› hu
 ·exact SeqAt.RcAt.list_bool _ ‹_› hu
 ·exact SeqAt.RcAt.list_int _ _ ‹_› hu
 ·exact SeqAt.RcAt.list_str _ _ ‹_› hu
 ·rename_i as a us p ra bs b ws p' rb;have l1:=ra.len;have l2:=rb.len
  by_cases hl:as.length=bs.length
  ·rw[<-jw9 as bs hl];have z:=SeqAt.RcAt.lists (A:=A) (s:=s) (e:=pAt as bs) p p' (by simp only[X8];lia) hu (el as bs us ws (.inl rfl) (.inl rfl) ra rb);rw[X8,<-l1]at z;exact z
  ·rw[jzv as bs hl];exact SeqAt.RcAt.lists_lengths p p' (by simp only[X8,bne_iff_ne];lia) hu
 ·exact SeqAt.RcAt.list_tuple ‹_› ‹_› hu
 ·exact SeqAt.RcAt.tuple_none ‹_› hu
 ·exact SeqAt.RcAt.tuple_bool _ ‹_› hu
 ·exact SeqAt.RcAt.tuple_int _ _ ‹_› hu
 ·exact SeqAt.RcAt.tuple_str _ _ ‹_› hu
 ·exact SeqAt.RcAt.tuple_list ‹_› ‹_› hu
 ·rename_i as a us p ra bs b ws p' rb;rw[<-qjb as bs];have z:=SeqAt.RcAt.tuples (A:=A) (s:=s) (e:=pAt as bs) p p' hu (el as bs us ws (.inr rfl) (.inr rfl) ra rb);rw[X8,X8,<-ra.len,<-rb.len]at z;exact z
theorem wxu{A d d' u w}(hu:A.units<cLine)(r:jZ s.heap d u)(r':jZ s.heap d' w)
  (el:∀as bs (us ws),(d=.lst as\/d=.tup as)->(d'=.lst bs\/d'=.tup bs)->CReps s.heap as us->CReps s.heap bs ws->∀j (h1) (h2:j<ws.toArray.size),SeqAt.EqAt A.in1 s us.toArray[j] ws.toArray[j] (pAt as bs j)):
  SeqAt.RcNeAt A s u w (!peq d d'):=by
 cases crv r<;>cases crv r'<;>unfold peq
 ·exact SeqAt.RcNeAt.none_none
 ·exact SeqAt.RcNeAt.none_bool _
 ·exact SeqAt.RcNeAt.none_int _ _
 ·exact SeqAt.RcNeAt.none_str _ _
 ·exact SeqAt.RcNeAt.none_list ‹_› hu
 ·exact SeqAt.RcNeAt.none_tuple ‹_› hu
 ·exact SeqAt.RcNeAt.bool_none _
 ·exact SeqAt.RcNeAt.bool_bool _ _
 ·exact SeqAt.RcNeAt.bool_int _ _ _
 ·exact SeqAt.RcNeAt.bool_str _ _ _
 ·exact SeqAt.RcNeAt.bool_list _ ‹_› hu
 ·exact SeqAt.RcNeAt.bool_tuple _ ‹_› hu
 ·exact SeqAt.RcNeAt.int_none _ _
 ·exact SeqAt.RcNeAt.int_bool _ _ _
 ·exact SeqAt.RcNeAt.int_int _ _ _ _
 ·exact SeqAt.RcNeAt.int_str _ _ _ _
 ·exact SeqAt.RcNeAt.int_list _ _ ‹_› hu
 ·exact SeqAt.RcNeAt.int_tuple _ _ ‹_› hu
 ·exact SeqAt.RcNeAt.str_none _ _
 ·exact SeqAt.RcNeAt.str_bool _ _ _
 ·exact SeqAt.RcNeAt.str_int _ _ _ _
 ·exact SeqAt.RcNeAt.str_str _ _ _ _
 ·exact SeqAt.RcNeAt.str_list _ _ ‹_› hu
 ·exact SeqAt.RcNeAt.str_tuple _ _ ‹_› hu
 ·exact SeqAt.RcNeAt.list_none ‹_› hu
 ·exact SeqAt.RcNeAt.list_bool _ ‹_› hu
 ·exact SeqAt.RcNeAt.list_int _ _ ‹_› hu
 ·exact SeqAt.RcNeAt.list_str _ _ ‹_› hu
 ·rename_i as a us p ra bs b ws p' rb;have l1:=ra.len;have l2:=rb.len
  by_cases hl:as.length=bs.length
  ·rw[<-jw9 as bs hl];have z:=SeqAt.RcNeAt.lists (A:=A) (s:=s) (e:=pAt as bs) p p' (by simp only[X8];lia) hu (el as bs us ws (.inl rfl) (.inl rfl) ra rb);rw[X8,<-l1]at z;exact z
  ·rw[jzv as bs hl];exact SeqAt.RcNeAt.lists_lengths p p' (by simp only[X8,bne_iff_ne];lia) hu
 ·exact SeqAt.RcNeAt.list_tuple ‹_› ‹_› hu
 ·exact SeqAt.RcNeAt.tuple_none ‹_› hu
 ·exact SeqAt.RcNeAt.tuple_bool _ ‹_› hu
 ·exact SeqAt.RcNeAt.tuple_int _ _ ‹_› hu
 ·exact SeqAt.RcNeAt.tuple_str _ _ ‹_› hu
 ·exact SeqAt.RcNeAt.tuple_list ‹_› ‹_› hu
 ·rename_i as a us p ra bs b ws p' rb;rw[<-qjb as bs];have z:=SeqAt.RcNeAt.tuples (A:=A) (s:=s) (e:=pAt as bs) p p' hu (el as bs us ws (.inr rfl) (.inr rfl) ra rb);rw[X8,X8,<-ra.len,<-rb.len]at z;exact z
theorem kvh{A a a' b}(n9:Value.ref a=Value.ref a'->b=true)(rc:SeqAt.RcAt A s (.ref a) (.ref a') b):SeqAt.EqAt A s (.ref a) (.ref a') b:=by
 by_cases e:a=a'
 ·subst e;rw[n9 rfl];exact SeqAt.EqAt.same _
 ·exact SeqAt.EqAt.of_refs e rc
theorem xj9{A d d' u w}(hu:A.units<cLine)(r:jZ s.heap d u)(r':jZ s.heap d' w)(n9:u=w->peq d d'=true)(rc:SeqAt.RcAt A s u w (peq d d')):SeqAt.EqAt A s u w (peq d d'):=by
 cases crv r<;>cases crv r'<;>try unfold peq
 ·exact SeqAt.EqAt.same _
 ·exact SeqAt.EqAt.none_bool _
 ·exact SeqAt.EqAt.none_int _ _
 ·exact SeqAt.EqAt.none_str _ _
 ·exact SeqAt.EqAt.none_list ‹_› hu
 ·exact SeqAt.EqAt.none_tuple ‹_› hu
 ·exact SeqAt.EqAt.bool_none _
 ·exact SeqAt.EqAt.bool_bool _ _
 ·exact SeqAt.EqAt.bool_int _ _ _
 ·exact SeqAt.EqAt.bool_str _ _ _
 ·exact SeqAt.EqAt.bool_list _ ‹_› hu
 ·exact SeqAt.EqAt.bool_tuple _ ‹_› hu
 ·exact SeqAt.EqAt.int_none _ _
 ·exact SeqAt.EqAt.int_bool _ _ _
 ·exact SeqAt.EqAt.int_int _ _ _ _
 ·exact SeqAt.EqAt.int_str _ _ _ _
 ·exact SeqAt.EqAt.int_list _ _ ‹_› hu
 ·exact SeqAt.EqAt.int_tuple _ _ ‹_› hu
 ·exact SeqAt.EqAt.str_none _ _
 ·exact SeqAt.EqAt.str_bool _ _ _
 ·exact SeqAt.EqAt.str_int _ _ _ _
 ·exact SeqAt.EqAt.str_str _ _ _ _
 ·exact SeqAt.EqAt.str_list _ _ ‹_› hu
 ·exact SeqAt.EqAt.str_tuple _ _ ‹_› hu
 ·exact SeqAt.EqAt.list_none ‹_› hu
 ·exact SeqAt.EqAt.list_bool _ ‹_› hu
 ·exact SeqAt.EqAt.list_int _ _ ‹_› hu
 ·exact SeqAt.EqAt.list_str _ _ ‹_› hu
 ·exact kvh n9 rc
 ·exact kvh n9 rc
 ·exact SeqAt.EqAt.tuple_none ‹_› hu
 ·exact SeqAt.EqAt.tuple_bool _ ‹_› hu
 ·exact SeqAt.EqAt.tuple_int _ _ ‹_› hu
 ·exact SeqAt.EqAt.tuple_str _ _ ‹_› hu
 ·exact kvh n9 rc
 ·exact kvh n9 rc
theorem Q8:∀n {d d' u w A},d.flat n=true->jZ s.heap d u->jZ s.heap d' w->A.units+n<cLine->SeqAt.EqAt A s u w (peq d d')
 | n,d,d',u,w,A,f,r,r',hu=>by
  refine xj9 ⋯ r r' (λe=>?_) (wke ⋯ r r' λas bs us ws h1 h2 ra rb=>?_)
  rotate_left
  ·cases n with
   |zero=>rcases h1 with rfl|rfl<;>(unfold D.flat at f;cases f)
   |succ n=>
    have fs:D.flats n as=true:=by rcases h1 with rfl|rfl<;>(unfold D.flat at f;exact f)
    exact kz7 ra rb λj d d' u w e1 e2 q1 q2=>Q8 n (jxm fs e1) q1 q2 ⋯
  ·subst e;rw[kj2 r' r];exact jxe f
end
section
variable {X:Cx}{Z:Fx0}{K:Frag}
noncomputable def xk1(K:Frag):R2:=λx y H Q=>∃d d' as bs,RepL K H true d x as/\RepL K H true d' y bs/\d.flat 40=true/\d'.flat 40=true/\Q (.bl (peq d d')) H
noncomputable def xjw(K:Frag):R2:=λx y H Q=>∃d d' as bs,RepL K H true d x as/\RepL K H true d' y bs/\d.flat 40=true/\d'.flat 40=true/\Q (.bl (!peq d d')) H
theorem ww(hu:X.A.units+64<cLine)(hK:autoParam (X.K=K) Ŕ):OpR X (compareOp .Eq) (xk1 K):=by
 subst hK;rintro a7 s σ H x y v u Q I rx ry ⟨d,d',as,bs,h1,h2,f1,f2,q⟩;refine wke ⋯ (Qk I h1 f1 rx) (Qk I h2 f2 ry) (λas bs us ws e1 e2 ra rb=>kz7 ra rb λj d d' u w e3 e4 q1 q2=>?_) _ _ _ _ ⟨.bl _,H,I,rfl,q⟩;have fs:D.flats 39 as=true:=by rcases e1 with rfl|rfl<;>(unfold D.flat at f1;exact f1)
 exact Q8 39 (jxm fs e3) q1 q2 ⋯
theorem vkq(hu:X.A.units+64<cLine)(hK:autoParam (X.K=K) Ŕ):OpR X (compareOp .NotEq) (xjw K):=by
 subst hK;rintro a7 s σ H x y v u Q I rx ry ⟨d,d',as,bs,h1,h2,f1,f2,q⟩;refine wxu ⋯ (Qk I h1 f1 rx) (Qk I h2 f2 ry) (λas bs us ws e1 e2 ra rb=>kz7 ra rb λj d d' u w e3 e4 q1 q2=>?_) _ _ _ _ ⟨.bl _,H,I,rfl,q⟩;have fs:D.flats 39 as=true:=by rcases e1 with rfl|rfl<;>(unfold D.flat at f1;exact f1)
 exact Q8 39 (jxm fs e3) q1 q2 ⋯
theorem wK:Ad2 K (xk1 K) (pu2 fEq):=by
 intro H x y s Q ox oy hf k;unfold pu2 fEq at hf
 by_cases hc:(x.d.flat 40&&y.d.flat 40)=true
 ·rw[X9 hc]at hf;rw[Bool.and_eq_true]at hc;cases oq9 hf;exact⟨x.d,y.d,x.as,y.as,RepO.wk ox,RepO.wk oy,hc.1,hc.2,k _ H rfl rfl wY⟩
 ·simp_all
theorem vqx:Ad2 K (xjw K) (pu2 fNe):=by
 intro H x y s Q ox oy hf k;unfold pu2 fNe at hf
 by_cases hc:(x.d.flat 40&&y.d.flat 40)=true
 ·rw[X9 hc]at hf;rw[Bool.and_eq_true]at hc;cases oq9 hf;exact⟨x.d,y.d,x.as,y.as,RepO.wk ox,RepO.wk oy,hc.1,hc.2,k _ H rfl rfl wY⟩
 ·simp_all
end
mutual
noncomputable def Vw:D->Nat
 |.tup xs=>drwDs xs+1|_=>1
noncomputable def drwDs:List D->Nat
 |[]=>0|a::x=>Vw a+drwDs x
end
mutual
theorem kv9{n:Nat}{d:D}(h:k7 n d=true):d.flat n=true:=by
 cases d<;>cases n<;>unfold k7 at h<;>first|rfl|(cases h)|skip
 exact keys_flat h
theorem keys_flat{n:Nat}{ds:List D}(h:keyDs n ds=true):D.flats n ds=true:=by
 cases ds<;>unfold keyDs at h<;>unfold D.flats
 ·rfl
 rw[Bool.and_eq_true]at h;rw[kv9 h.1,keys_flat h.2];rfl
end
mutual
theorem kzk{n m:Nat}{a b:D}(ha:k7 n a=true)(hb:k7 m b=true):peq a b=decide (a=b):=by
 cases a<;>first|(cases n<;>(unfold k7 at ha;cases ha);done)|(cases b<;>first|(cases m<;>(unfold k7 at hb;cases hb);done)|(simp[peq];done)|(simp[peq];first|rfl|exact Bool.beq_eq_decide_eq _ _)|skip)
 cases n<;>cases m<;>unfold k7 at ha hb<;>first|(cases ha)|(cases hb)|simpa [peq]using keys_peq ha hb
theorem keys_peq{n m:Nat}{a b:List D}(ha:keyDs n a=true)(hb:keyDs m b=true):peqs a b=decide (a=b):=by
 cases a<;>cases b<;>unfold keyDs at ha hb<;>simp[peqs]
 rw[Bool.and_eq_true]at ha hb;rw[kzk ha.1 hb.1,keys_peq ha.2 hb.2]
end
theorem qzw{h:Heap}{n:Nat}:∀{ds:List D} {us:List Value},keyDs n ds=true->CReps h ds us->∀u∈us,∃d,k7 n d=true/\jZ h d u:=by
 intro ds
 induction ds<;>intro us hk r u hu<;>unfold CReps at r
 ·subst r;cases hu
 ·rename_i ih;obtain⟨v,r,rfl,h1,h2⟩:=r;unfold keyDs at hk;rw[Bool.and_eq_true]at hk;rcases aD hu with rfl|hu
  ·exact⟨_,hk.1,h1⟩
  ·exact ih hk.2 h2 u hu
theorem kzl{h : Heap}{P : Nat -> Value -> Prop}(b : ∀n u,(u = .none \/ (∃i t,u = .int i t) \/ ∃x t,u = .str x t) -> P n u)(st : ∀n a (us : List Value),h.IsTuple a us.toArray -> (∀u ∈ us,P n u) -> P (n+1) (.ref a)): ∀n {d : D} {u : Value},k7 n d = true -> jZ h d u -> P n u:= by
  intro n
  induction n <;> intro d u hk hr <;> cases crv hr <;> unfold k7 at hk <;> first
    |(cases hk; done)
    |exact b _ _ (.inl rfl)
    |exact b _ _ (.inr (.inl ⟨_,_,rfl⟩))
    |exact b _ _ (.inr (.inr ⟨_,_,rfl⟩))
    |skip
  rename_i ih _ _ _ p q;refine st _ _ _ p λu hu=> ?_
  obtain⟨d,k,r⟩:= qzw hk q u hu;exact ih k r
section
variable {prog:Program}{w:PySem.World}{A:Around}{E:VP9}{s:Shared}
theorem vq6{Q:Int->Shared->Prop}(h:Q 4238894112 {s with toks:=s.toks+1}):wpAny (model prog w) A (pyHash .none) Q E s:=by
 have ty:s.TypeIs Value.none "NoneType":=rfl;unfold pyHash;refine X0 ?_;refine X2 (X0 (Z5 ty F.slot_NoneType_hash.lookup ?_));show wpAny _ _ (callSpecialIfBoundUnlessNone? Value.none "__hash__" _ >>= _) Q E s;refine X0 (wpAny_callSpecialIfBoundUnlessNone?_slot ty F.slot_NoneType_hash (Xy F.slot_NoneType_hash ty F.entry_NoneType_hash ?_ (F.args_NoneType_hash_1 _)));refine wpAny_ret_mkInt ?_;show wpAny _ _ (if(decide (-(2:Int) ^ 63<=(4238894112:Int))&&decide ((4238894112:Int)<2 ^ 63))=true then _ else _) Q E _;exact X2 h
theorem kk2{d:D}:∀ds:List D,hashDs w (ds++[d])=hashDs w ds++[Q1 w d]
 |[]=>by simp[hashDs]|a::x=>by rw[List.cons_append,hashDs,kk2 x];rfl
theorem kq7{d:D}:∀ds:List D,drwDs (ds++[d])=drwDs ds+Vw d
 |[]=>by simp[drwDs]|a::x=>by rw[List.cons_append,drwDs,drwDs,kq7 x];lia
theorem ww4:∀(n:Nat) {d:D} {u:Value} {A:Around} {s:Shared} {Q:Int->Shared->Prop},k7 n d=true->jZ s.heap d u->A.units+4*n<cLine->Q (Q1 w d) {s with toks:=s.toks+Vw d}->wpAny (model prog w) A (pyHash u) Q E s:=by
 intro n
 induction n<;>intro d u A s Q hk hr hu h<;>cases crv hr<;>unfold k7 at hk<;>first|(cases hk;done)|exact vq6 h|exact wpAny_pyHash_int h|exact wpAny_pyHash_str h|skip
 rename_i n ih ds a us ht hi;have ty:=ht.typeIs;obtain⟨ob,gz,cb,nn,jy⟩:=ht;unfold pyHash;unfold pyHashByItsType;refine X0 (wpAny_cRoomFor_or (.inr ⋯) ?_);refine X0 (Z5 ty F.slot_tuple_hash.lookup ?_);show wpAny _ _ (if(some (Value.builtin "tuple.__hash__")==some Value.none)=true then _ else _) Q E s;rw [Xb (show ¬(some (Value.builtin "tuple.__hash__")==some Value.none)=true by rw[beq_builtin_none];exact Bool.false_ne_true)];refine X0 (Z5 ty F.slot_tuple_hash.lookup ?_);show wpAny _ _ (callSpecialIfBoundUnlessNone? (Value.ref a) "__hash__" _ >>= _) Q E s;refine X0 (wpAny_callSpecialIfBoundUnlessNone?_slot ty F.slot_tuple_hash (Xy F.slot_tuple_hash ty F.entry_tuple_hash ?_ (F.args_tuple_hash_1 _)));show wpAny _ _ (Builtin.Tuple.tupleItemsOf (Value.ref a) >>= _) _ _ s;refine X0 (wpAny_tupleItemsOf gz jy ?_);refine X0 ?_;rw [<-Array.forIn_toList];refine Zi _ (λa8 (b:Array Int) s'=>∃pre post,ds=pre++post/\keyDs n post=true/\CReps s.heap post a8/\b.toList=hashDs w pre/\s'={s with toks:=s.toks+drwDs pre}) _ ?_ ?_ _ _ ⟨[],ds,rfl,hk,hi,rfl,rfl⟩
 ·rintro x a8 b s' ⟨pre,post,rfl,mx,hl,hb,rfl⟩;cases post with
  | nil=>unfold CReps at hl;cases hl
  | cons d post=>
   unfold CReps at hl;obtain⟨u1,r1,e1,h1,h2⟩:=hl;injection e1 with e1 e2;subst e1 e2;unfold keyDs at mx;rw[Bool.and_eq_true]at mx;have ru:A.in1.units+4*n<cLine:=by show A.units+1+4*n<cLine;lia
   have fin:∃p q,pre++d::post=p++q/\keyDs n q=true/\CReps s.heap q a8/\(b.push (Q1 w d)).toList=hashDs w p/\({s with toks:=s.toks+drwDs pre+Vw d}:Shared)={s with toks:=s.toks+drwDs p}:=
    ⟨pre++[d],post,by simp,mx.2,h2,by rw[kk2,<-hb];simp,by rw[kq7,Nat.add_assoc]⟩
   refine X0 (ih mx.1 h1 ru ?_)
   first
    |exact X2 fin
    |exact X0 (X2 (X2 fin))
 ·rintro b s' ⟨pre,post,rfl,mx,hl,hb,rfl⟩;have:post=[]:=by
   cases post with|nil=>rfl|cons d post=>unfold CReps at hl;obtain⟨_,_,z,_⟩:=hl;cases z
  subst this;rw[Xv]at h;show wpAny _ _ (retInt (Builtin.Tuple.tupleHashOf b.toList)) _ _ _;rw[hb];refine wpAny_ret_mkInt ?_;generalize hv:Builtin.Tuple.tupleHashOf (hashDs w pre)=v;have h:Q (reduceHash v) {s with toks:=s.toks+drwDs pre+1}:=by rw[<-hv];unfold Q1 Vw at h;rw[Nat.add_assoc];exact h
  show wpAny _ _ (if(decide (-(2:Int) ^ 63<=v)&&decide (v<2 ^ 63))=true then _ else _) Q E _;unfold reduceHash at h
  by_cases hq:(decide (-(2:Int) ^ 63<=v)&&decide (v<2 ^ 63))=true
  ·rw[X9 hq]at h ⊢;exact X2 h
  ·rw[Xb hq]at h ⊢;exact X0 (Zb (X2 h))
theorem vx2(n m:Nat){d:D}{u:Value}{A:Around}{s:Shared}{Q:Bool->Shared->Prop}(hm:n<=m)(hk:k7 n d=true)(hr:jZ s.heap d u)(h:Q true s):wpAny (model prog w) A (eqIsQuiet m u) Q E s:=by
 refine kzl (P:=λn u=>∀m (Q:Bool->Shared->Prop),n<=m->Q true s->wpAny (model prog w) A (eqIsQuiet m u) Q E s) ?_ (λn a us ht hi m Q hm h=>?_) n hk hr m Q hm h
 ·rintro n u (rfl|⟨i,t,rfl⟩|⟨i,t,rfl⟩) m Q _ h<;>(rw[eqIsQuiet_byValue m rfl];exact X2 h)
 have ty:=ht.typeIs;obtain⟨ob,gz,cb,nn,jy⟩:=ht;cases m
 ·lia
 unfold eqIsQuiet;refine X0 (Z5 ty F.slot_tuple_eq.lookup ?_);show wpAny _ _ (isInstance (Value.ref a) (.type "tuple") >>= _) _ _ s;refine X0 (wpAny_isInstance ty isSubtype_tuple_tuple ?_);simp only[Bool.not_true,Bool.false_eq_true,if_false];refine X0 (Zj gz jy (X0 ?_));show wpAny _ _ (forIn us.toArray _ _) _ _ s;rw[<-Array.forIn_toList];refine Zi _ (λa8 r s'=>r.1=none/\s'=s/\∀u∈a8,u∈us) _ ?_ ?_ _ _ ⟨rfl,rfl,λ_ h=>h⟩
 ·rintro v a8 r s' ⟨hr,rfl,hu⟩;refine X0 (hi v (hu v X5) _ _ ⋯ ?_);simp only[Bool.not_true,Bool.false_eq_true,if_false];exact X2 ⟨rfl,rfl,λu h=>hu u (lc9 _ h)⟩
 ·rintro ⟨r1,r2⟩ s' ⟨hz,rfl,_⟩;cases hz;exact X2 h
end
mutual
theorem W4{h h':Heap}(et:∀b ob us n,h.get? b=some ob->ob.cls=.type "tuple"->ob.data=.seq us n->h'.get? b=some ob){n:Nat}{d:D}{u:Value}(hk:k7 n d=true)(r:jZ h d u):jZ h' d u:=by
 cases d<;>cases n<;>unfold k7 at hk<;>unfold jZ at r ⊢<;>first|exact r|(cases hk;done)|skip
 obtain⟨a,us,e,⟨ob,gz,hc,nn,jy⟩,hi⟩:=r;exact⟨a,us,e,⟨ob,et a ob _ _ gz hc jy,hc,nn,jy⟩,creps_keep et hk hi⟩
theorem creps_keep{h h':Heap}(et:∀b ob us n,h.get? b=some ob->ob.cls=.type "tuple"->ob.data=.seq us n->h'.get? b=some ob){n:Nat}{ds:List D}{us:List Value}(hk:keyDs n ds=true)(r:CReps h ds us):CReps h' ds us:=by
 cases ds<;>unfold CReps at r ⊢
 ·exact r
 unfold keyDs at hk;rw[Bool.and_eq_true]at hk;obtain⟨u,rr,e,h1,h2⟩:=r;exact⟨u,rr,e,W4 et hk.1 h1,creps_keep et hk.2 h2⟩
end
noncomputable def kvz(prog:Program)(w:PySem.World):HeapKind prog w Kd where
 is:=λh k a=>jZ h k.1 (.ref a)
 hash:=λk=>Q1 w k.1
 draws:=λk=>Vw k.1
 room:=λA=>A.units+40<cLine
 inj:=λhx hy=>Subtype.ext (kj2 hx hy)
 keeps:=fun {h h' k a d o es ep} x ho hd hs=>W4 (λb ob us n e _ z=>(hs.2 b (by rintro rfl;rw[ho]at e;cases e;rw[hd]at z;cases z)).trans e) k.2 x
 pyHash:=fun {A E s k a Q} hu hk h=>ww4 6 k.2 hk (Nat.lt_of_le_of_lt (Nat.add_le_add_left ⋯ _) hu) h
 eqBool:=fun {A E s x y a b Q} hu hx hy h=>by
  have e:peq x.1 y.1=decide (x=y):=by
   rw[kzk x.2 y.2]
   by_cases z:x=y
   ·rw[Xg z,Xg (congrArg Subtype.val z)]
   ·rw[Xh z,Xh λq=>z (Subtype.ext q)]
  have:=Q8 (s:=s) 6 (A:=A) (kv9 x.2) hx hy (Nat.lt_of_le_of_lt (Nat.add_le_add_left ⋯ _) hu);rw[e]at this;exact this prog w E Q h
 quiet:=fun {A E s k a Q} hk h=>vx2 6 8 ⋯ k.2 hk h
abbrev Sl.sd(x:Sl):Sd:=(x.o,x.d)
noncomputable def tA(Z:Fx0)(q:Bool)(cs:List Ex):TA:=fun σ H Q=>∃E L r,Mt E σ L/\World Z.K H L/\vW cs E=some r/\Xc Z σ H L r /\
 ∀E' ys,r=.ok E' ys->∀(xs:List Sl) L' H',xs.map Sl.sd=ys->Mt E' σ L'->World Z.K H' (xs.map some++L')->Step H L H' (xs.map some++L')->(q=true->jY H H'/\∀b∈j9 (xs.map some),H b=none)->Q (xs.map Sl.v) H'
noncomputable def QA(X:Cx)(Z:Fx0)(q:Bool)(cs:List Ex)(es:List Expr):Prop:=PA X es (tA Z q cs)
theorem kwc{X es t t'}(h:PA X es t)(w:∀ σ H Q,t' σ H Q->t σ H Q):PA X es t':=λpos a7 s σ H Q I q=>h pos a7 s σ H Q I (w σ H Q q)
section
variable {X:Cx}{Z:Fx0}{pn:List Nat}{q:Bool}{c:Ex}{cs:List Ex}{e:Expr}{es:List Expr}{pos:Pos}{σ:L2.St}{H:Hp}{L:Ls}{E:En}
theorem j7:QA X Z true [] []:=kwc vQ fun σ H Q aj=>ex8 aj λE L r m w hc xc k=>by
 cases oq9 hc;exact k _ _ rfl [] L H rfl m w Step.refl λ_=>⟨λ_ _ z=>z,λ_ z=>(nomatch z)⟩
theorem j3(h:QE X Z q c e)(hs:QA X Z q cs es)(b6:autoParam (starEach (e::es) X.env=(false,eval e X.env)::starEach es X.env) Ŕ):QA X Z q (c::cs) (e::es):=
 kwc (vw h hs b6) fun σ H Q aj=>ex8 aj λE L r m w hc xc k=>by
  refine qwd m w (hc) xc λE1 s h1 x L1 H1 e1 e2 m1 w1 st sm=>?_
  rcases x9 h1 with⟨E2,ys,h2,h3⟩|⟨E2,cc,h2,h3⟩
  ·cases oq9 h3;refine⟨E1,L1,_,m1,w1.tail,h2,(λ_ _ z=>by cases z),λE' ys' z xs L2 H2 e3 m2 w2 bu fb=>?_⟩;injection z with z1 z2;subst z1 z2;obtain⟨w3,dg⟩:=wxb (T:=[some x]) w1 bu w2;refine k _ _ rfl (x::xs) L2 H2 (by rw[List.map_cons,e3];simp[Sl.sd,e1,e2]) m2 w3 (st.trans dg) λhq=>?_
   obtain⟨a1,a2⟩:=sm hq;obtain⟨b1,b2⟩:=fb hq;refine⟨kQ a1 b1,λb hb=>?_⟩;rcases aA hb with z|z
   ·exact a2 b z
   ·exact Jw a1 (b2 b z)
  ·exact⟨E1,L1,_,m1,w1.tail,h2,(xc.step (st.trans Step.drop)).map h3,λE' s' z=>by cases z⟩
end
section
variable {X:Cx}{Z:Fx0}{q:Bool}{cs:List Ex}{es:List Expr}{pos:Pos}{σ:L2.St}{H:Hp}{L:Ls}{E:En}{α:Type}
theorem kka:∀{cs E E' ys},vW cs E=some (.ok E' ys)->ys.length=cs.length
 | [],E,E',ys,h=>by cases oq9 h;rfl
 | c::cs,E,E',ys,h=>by
  rcases x9 (h)with⟨E1,x,h1,h2⟩|⟨_,_,_,z⟩
  ·rcases x9 h2 with⟨E2,xs,h3,h4⟩|⟨_,_,_,z⟩
   ·cases oq9 h4;rw[Xm,Xm,kka h3]
   ·cases z
  ·cases z
theorem wja{F}{r:Res α}{G}(m:Mt E σ L)(w:World Z.K H L)(h:bnd (vW cs E) F=some r)(xc:Xc Z σ H L r)
  (k:∀E1 ys,F E1 ys=some r->ys.length=cs.length->∀(xs:List Sl) L1 H1,xs.map Sl.sd=ys->Mt E1 σ L1->World Z.K H1 (xs.map some++L1)->Step H L H1 (xs.map some++L1)->(q=true->jY H H1/\∀b∈j9 (xs.map some),H b=none)->G (xs.map Sl.v) H1):tA Z q cs σ H G:=by
 rcases x9 h with⟨E1,s,h1,h2⟩|⟨E1,c,h1,h2⟩
 ·exact⟨E,L,_,m,w,h1,(λ_ _ z=>by cases z),λE' s' z xs L' H' e1 m' w' st sm=>by
   injection z with z1 z2;subst z1 z2;exact k _ _ h2 (kka h1) xs L' H' e1 m' w' st sm⟩
 ·exact⟨E,L,_,m,w,h1,xc.map h2,λE' s' z=>by cases z⟩
theorem jwc{K H}(g):∀{xs:List Sl},(∀x∈xs,x.ok K H)->(g=false->∀x∈xs,zw x.sd=true)->∃bs,RepA K H g (xs.map Sl.d) (xs.map Sl.v) bs/\(∀b∈bs,∃x∈xs,b∈x.as)/\(g=false->bs=j9 (xs.map some))/\(g=true->bs=xs.flatMap Sl.as)
 | [],_,_=>⟨[],⟨rfl,rfl⟩,λ_ h=>(nomatch h),λ_=>rfl,λ_=>rfl⟩
 | x :: xs,h,ht=>by
  obtain⟨bs,r,hb,ho,hg⟩:=jwc g (λy hy=>h y (lc9 _ hy)) λhg y hy=>ht hg y (lc9 _ hy)
  have hx:=h x X5;have key:∃cs,RepL K H g x.d x.v cs/\(∀b∈cs,b∈x.as)/\(g=false->cs=x.own)/\(g=true->cs=x.as):=by
   cases g with
   | true=>exact⟨x.as,RepO.wk hx,λb hb=>hb,(λz=>by cases z),λ_=>rfl⟩
   | false=>
    by_cases ho:x.o=.dp
    ·refine⟨x.as,?_,λb hb=>hb,λ_=>?_,λz=>by cases z⟩
     ·have:=hx;unfold Sl.ok at this;rw[ho]at this;exact this
     ·unfold Sl.own;rw[ho]
    ·have hp:x.d.pure=true:=by
      rcases Bool.or_eq_true_iff.mp (ht rfl x X5)with z|z
      ·simp_all
      ·exact z
     obtain⟨z,rp⟩:=RepL.pu (g':=false) (RepO.wk hx) hp;exact⟨[],rp,λ_ h=>(nomatch h),λ_=>(vxr z).symm,λz=>by cases z⟩
  obtain⟨cs,r1,h1,h2,h3⟩:=key;refine⟨cs++bs,?_,λb dj=>?_,λrh=>?_,λrh=>?_⟩
  ·unfold RepA;exact⟨x.v,xs.map Sl.v,cs,bs,rfl,rfl,r1,r⟩
  ·rcases aA dj with z|z
   ·exact⟨x,X5,h1 b z⟩
   ·simp_all
  ·rw[List.map_cons,vj,h2 rh,ho rh]
  ·rw[List.flatMap_cons,h3 rh,hg rh]
theorem vky{K H p}{xs:List Sl}{L}(w:World K H (xs.map some++L))(hp:H p=none):
  ∃bs,World K (upd H p (.lst (xs.map Sl.v))) (some ⟨.rt,.lst (xs.map Sl.d),.ref p,p::bs⟩::L)/\Step H (xs.map some++L) (upd H p (.lst (xs.map Sl.v))) (some ⟨.rt,.lst (xs.map Sl.d),.ref p,p::bs⟩::L):=by
 obtain⟨bs,r,hb,_,_⟩:=jwc true (λx hx=>w.ok x (ll9 _ (Xr hx))) (λz=>by cases z);have ap:∀b∈bs,b∉j9 L:=λb dj hL=>by
  obtain⟨x,hx,fk⟩:=hb b dj;rcases Sl.as_of fk with z|z
  ·have nd:=w.nd;rw[jX,Xj]at nd;exact nd.2.2 b (mem_owned.mpr ⟨x,Xr hx,z⟩) b hL rfl
  ·exact w.ds b (by rw[jX];exact lr9 _ hL) (by rw[qx];exact ll9 _ (mem_frozen.mpr ⟨x,Xr hx,z⟩))
 have al:∀b∈bs,H b≠none:=λb dj=>by
  obtain⟨x,hx,fk⟩:=hb b dj;exact(w.ok x (ll9 _ (Xr hx))).some fk
 have sr:Src H (xs.map some++L) bs:=λb dj=>by
  obtain⟨x,hx,fk⟩:=hb b dj;rcases Sl.as_of fk with z|z
  ·exact .inr (.inl (by rw[jX];exact ll9 _ (mem_owned.mpr ⟨x,Xr hx,z⟩)))
  ·exact .inl (by rw[qx];exact ll9 _ (mem_frozen.mpr ⟨x,Xr hx,z⟩))
 have st:Step H (xs.map some++L) H L:=⟨λ_ _ h _=>h,λa ha=>.inl (by rw[jX];exact lr9 _ ha),λa ha=>.inl (by rw[qx];exact lr9 _ ha)⟩;exact⟨bs,KY (Z:=⟨K,λ_=>none,λ_ _ _=>True⟩) w.right st (J8 hp r λb hb=>hb) ap al sr⟩
theorem vkx{K H p}{xs:List Sl}{L}(w:World K H (xs.map some++L))(hp:H p=none):
  ∃bs,World K (upd H p (.tup (xs.map Sl.v))) (some ⟨.no,.tup (xs.map Sl.d),.ref p,bs⟩::L)/\Step H (xs.map some++L) (upd H p (.tup (xs.map Sl.v))) (some ⟨.no,.tup (xs.map Sl.d),.ref p,bs⟩::L):=by
 obtain⟨bs,r,hb,_,_⟩:=jwc true (λx hx=>w.ok x (ll9 _ (Xr hx))) (λz=>by cases z);have ap:∀b∈bs,b∉j9 L:=λb dj hL=>by
  obtain⟨x,hx,fk⟩:=hb b dj;rcases Sl.as_of fk with z|z
  ·have nd:=w.nd;rw[jX,Xj]at nd;exact nd.2.2 b (mem_owned.mpr ⟨x,Xr hx,z⟩) b hL rfl
  ·exact w.ds b (by rw[jX];exact lr9 _ hL) (by rw[qx];exact ll9 _ (mem_frozen.mpr ⟨x,Xr hx,z⟩))
 have al:∀b∈bs,H b≠none:=λb dj=>by
  obtain⟨x,hx,fk⟩:=hb b dj;exact(w.ok x (ll9 _ (Xr hx))).some fk
 have sr:Src H (xs.map some++L) bs:=λb dj=>by
  obtain⟨x,hx,fk⟩:=hb b dj;rcases Sl.as_of fk with z|z
  ·exact .inr (.inl (by rw[jX];exact ll9 _ (mem_owned.mpr ⟨x,Xr hx,z⟩)))
  ·exact .inl (by rw[qx];exact ll9 _ (mem_frozen.mpr ⟨x,Xr hx,z⟩))
 have st:Step H (xs.map some++L) H L:=⟨λ_ _ h _=>h,λa ha=>.inl (by rw[jX];exact lr9 _ ha),λa ha=>.inl (by rw[qx];exact lr9 _ ha)⟩;exact⟨bs,KY (Z:=⟨K,λ_=>none,λ_ _ _=>True⟩) w.right st (kjk hp r λb hb=>hb) ap al sr⟩
theorem qxc{K H H'}{xs:List Sl}{L d v ps}(w:World K H (xs.map some++L))(ht:∀x∈xs,zw x.sd=true)(hp:∀b∈ps,H b=none)(nd:ps.Nodup)(sm:jY H H')
  (rep:∀bs,RepA K H false (xs.map Sl.d) (xs.map Sl.v) bs->RepL K H' false d v (ps++bs)):
  World K H' (some ⟨.dp,d,v,ps++j9 (xs.map some)⟩::L)/\Step H (xs.map some++L) H' (some ⟨.dp,d,v,ps++j9 (xs.map some)⟩::L):=by
 obtain⟨bs,r,hb,ho,_⟩:=jwc false (λx hx=>w.ok x (ll9 _ (Xr hx))) (λ_=>ht);have e:=ho rfl;subst e;have w2:World K H' _:=⟨λx hx=>RepO.kp (w.ok x hx) (Kp.of_same sm),w.nd,w.ds⟩;have ndx:=w.nd;rw[jX,Xj]at ndx;have al:∀b∈j9 _,H b≠none:=λb hb=>w.own_some (by rw[jX];exact ll9 _ hb)
 refine⟨w2.right.cons (rep _ r) ?_ (λa ha hL=>?_) (λa ha hf=>?_) (λa ha=>(nomatch ha)) (λa ha=>λz=>(nomatch z)),⟨λa ob h _=>sm a ob h,λa ha=>?_,λa ha=>?_⟩⟩
 ·show(ps++j9 _).Nodup;rw[Xj];exact⟨nd,ndx.1,λa ha b hb e=>by subst e;exact al a hb (hp a ha)⟩
 ·rcases aA (ha)with z|z
  ·exact w.own_some (by rw[jX];exact lr9 _ hL) (hp a z)
  ·exact ndx.2.2 a z a hL rfl
 ·rcases aA (ha)with z|z
  ·exact w.frz_some (by rw[qx];exact lr9 _ hf) (hp a z)
  ·exact w.ds a (by rw[jX];exact ll9 _ z) (by rw[qx];exact lr9 _ hf)
 ·rw[vj]at ha;rcases aA ha with z|z
  ·rcases aA (z)with y|y
   ·exact .inr (hp a y)
   ·exact .inl (by rw[jX];exact ll9 _ y)
  ·simp_all
 ·exact .inl (by rw[qx];exact lr9 _ ha)
theorem wx4{xs:List Sl}{ys}(h:xs.map Sl.sd=ys):xs.map Sl.d=ys.map (·.2):=by rw[<-h,Xl];rfl
theorem qjh{xs:List Sl}{ys}(h:xs.map Sl.sd=ys)(ht:ys.all zw=true):∀x∈xs,zw x.sd=true:=λx hx=>by
 rw[<-h,List.all_map,Ym]at ht;exact ht x hx
theorem qk7{o}{xs:List Sl}{ys E' r L' H1}{Q:VK}{Hq Lq}(h:mkL o E' ys=some r)(e:xs.map Sl.sd=ys)(w:World Z.K H1 (xs.map some++L'))(st:Step Hq Lq H1 (xs.map some++L'))(sm:q=true->jY Hq H1/\∀b∈j9 (xs.map some),Hq b=none)
  (k:∀E'' a,r=.ok E'' a->∀x L'' H',x.o=a.1->x.d=a.2->Mt E'' σ L''->World Z.K H' (some x::L'')->Step Hq Lq H' (some x::L'')->(q=true->jY Hq H'/\∀b∈x.own,Hq b=none)->Q x.v H') (m:Mt E' σ L'):
  ∀ p,H1 p=none->Q (.ref p) (upd H1 p (.lst (xs.map Sl.v))):=by
 intro p hp;unfold mkL at h
 by_cases ho:o=.dp
 ·rw[X9 ho]at h
  by_cases ht:ys.all zw=true
  ·rw[X9 ht]at h;cases oq9 h;obtain⟨w2,s2⟩:=qxc (d:=.lst _) w (qjh e ht) (λb hb=>by rw[aC hb];exact hp) (by simp) (vJ hp) (λbs r=>by
    exact⟨p,_,bs,rfl,r.kp (Kp.of_same (vJ hp)),.inl ⟨x6,rfl⟩⟩)
   refine k _ _ rfl _ L' _ rfl (by rw[wx4 e]) m w2 (st.trans s2) λhq=>⟨kQ (sm hq).1 (vJ hp),λb hb=>?_⟩
   rcases aA (hb)with z|z
   ·rw[aC z];exact Jw (sm hq).1 hp
   ·exact(sm hq).2 b z
  ·simp_all
 ·rw[Xb ho]at h;cases oq9 h;obtain⟨bs,w2,s2⟩:=vky w hp;refine k _ _ rfl _ L' _ rfl (by rw[wx4 e]) m w2 (st.trans s2) λhq=>⟨kQ (sm hq).1 (vJ hp),λb hb=>?_⟩
  have:b=p:=by simpa [Sl.own]using hb
  rw[this];exact Jw (sm hq).1 hp
theorem wk0{xs:List Sl}{ys n}(h:xs.map Sl.sd=ys)(hl:ys.length=n)(hz:n<=1000):(xs.map Sl.v).length<=sizeLine:=by
 have:xs.length=n:=by rw[<-hl,<-h,X4]
 rw[X4,this];exact Ye hz ⋯
theorem kK{o}(h:QA X Z q cs es)(hz:autoParam (cs.length<=1000) ŕ):QE X Z q (kj o cs) (.List es pos):=kZ (wqq h) fun σ H Q aj=>ex8 aj λE L r m w hc xc k=>
 wja m w (hc) xc λE1 ys h1 hl xs L1 H1 e1 m1 w1 st sm=>⟨wk0 e1 hl hz,qk7 (E':=E1) (h1) e1 w1 st sm k m1⟩
theorem qJ{o x1}(h:QA X Z q cs es)(hz:autoParam (cs.length<=1000) ŕ):QE X Z q (kX o cs) (.Tuple es x1 pos):=kZ (wql h) fun σ H Q aj=>ex8 aj λE L r m w hc xc k=>
 wja m w (hc) xc λE1 ys h1 hl xs L1 H1 e1 m1 w1 st sm=>⟨wk0 e1 hl hz,λp hp=>by
  by_cases ho:o=.dp
  ·rw[X9 ho]at h1
   by_cases ht:ys.all zw=true
   ·rw[X9 ht]at h1;cases oq9 h1;obtain⟨w2,s2⟩:=qxc (d:=.tup _) (ps:=[]) w1 (qjh e1 ht) (λb hb=>(nomatch hb)) (by simp) (vJ hp) (λbs r=>by
     exact⟨p,_,rfl,SqT.of x6,r.kp (Kp.of_same (vJ hp))⟩)
    exact k _ _ rfl _ L1 _ rfl (by rw[wx4 e1]) m1 w2 (st.trans s2) λhq=>⟨kQ (sm hq).1 (vJ hp),λb hb=>(sm hq).2 b hb⟩
   ·simp_all
  ·rw[Xb ho]at h1;cases oq9 h1;obtain⟨bs,w2,s2⟩:=vkx w1 hp;exact k _ _ rfl _ L1 _ rfl (by rw[wx4 e1]) m1 w2 (st.trans s2) λhq=>⟨kQ (sm hq).1 (vJ hp),λb hb=>(nomatch hb)⟩⟩
end
noncomputable def spF(K:Frag)(mg:Str->Option Value)(n:Nat)(f:Fn):Sp:=λvs H Q E=>∃(xs:List Sl) (r:Res Sd),vs=xs.map Sl.v/\xs.length=n/\World K H (xs.map some)/\f (xs.map Sl.sd)=some r /\
 (∀E' c,r=.exc E' c->∀C H',mg c=some (.ref C)->Step H (xs.map some) H' []->E (.ref C) none H') /\
 ∀E' a,r=.ok E' a->∀(x:Sl) H',x.o=a.1->x.d=a.2->World K H' [some x]->Step H (xs.map some) H' [some x]->Q x.v H'
theorem q9{K mg n f}{ps:List Str}(hn:ps.length=n):∀vs H Q E,spF K mg n f vs H Q E->vs.length=ps.length:=λvs H Q E ⟨xs,r,e,hl,_⟩=>by rw[e,X4,hl,hn]
theorem kv7:∀(xs:List Sl) (k),Mt (xs.map (λx=>some x.sd)++List.replicate k none) (xs.map (λx=>some x.v)++List.replicate k none) (xs.map some++List.replicate k none)
 |[],0=>.nil
 |[],k+1=>by
  exact .un (kv7 [] k)
 |x::xs,k=>.cons (kv7 xs k)
theorem qj{X K mg N n nn B body H vs Q E}(hN:N.length=nn)(t:QSs X ⟨K,mg,E⟩ [] B body)(h:spF K mg n (fn nn B) vs H Q E):
  ∃t,PSs X body t/\t {nx:=λ_ H'=>Q .non H',rt:=Q} (L2.start N vs) H:=by
 refine⟨_,t,?_⟩;obtain⟨xs,r,rfl,hl,w,hf,hx,hk⟩:=h;unfold fn at hf;rw[X4,Xl]at hf;have e1:L2.start N (xs.map Sl.v)=xs.map (λx=>some x.v)++List.replicate (nn - xs.length) none:=by
  unfold L2.start;rw[Xl,X4,hN];rfl
 have wL:World K H (xs.map some++List.replicate (nn - xs.length) none):=w.same (by simp);have sL:Step H (xs.map some) H (xs.map some++List.replicate (nn - xs.length) none):=Step.refl.same (List.Perm.refl _) (by simp);cases hB:B _ with
 | none=>rw[show(some∘Sl.sd)=(λx:Sl=>some x.sd)from rfl,hB]at hf;cases hf
 | some g=>
  rw[show(some∘Sl.sd)=(λx:Sl=>some x.sd)from rfl,hB]at hf;refine⟨_,_,g,e1▸(kv7 xs (nn - xs.length)),wL,hB,?_⟩;cases g with
  |nx E1=>
   cases oq9 hf;intro σ' L' H' _ m' w' s';exact hk _ _ rfl _ H' rfl rfl (World.consPu (x:=⟨.dp,.non,.non,[]⟩) ⟨λ_ z=>(nomatch z),Y8,λ_ z=>(nomatch z)⟩ (show RepL K H' false .non .non []from qw2) rfl) (K2 ((sL.trans s').sub (by simp)) (λb hb=>(nomatch hb)) rfl)
  |rt E1 a=>
   cases oq9 hf;intro x σ' L' H' e2 e3 _ m' w' s';exact hk _ _ rfl x H' e2 e3 (w'.sub (by simp)) ((sL.trans s').sub (by simp))
  |xc E1 c=>
   cases oq9 hf;intro C σ' L' H' hm _ m' w' s';exact hx _ _ rfl C H' hm ((sL.trans s').sub (by simp))
  |ct E1=>cases hf|bk E1=>cases hf
section
variable {X:Cx}{Z:Fx0}{q:Bool}{cs:List Ex}{e:Expr}{es:List Expr}{pos p:Pos}{x:Str}{ps:List Str}{k n:Nat}{f:Fn}
theorem JV:∀xs:List Sl,j9 ((xs.map Sl.let).map some)=[]
 |[]=>rfl|x::xs=>by rw[List.map_cons,List.map_cons,vj,JV xs];rfl
theorem jx1:∀xs:List Sl,jV ((xs.map Sl.let).map some)=xs.flatMap Sl.as
 |[]=>rfl|x::xs=>by rw[List.map_cons,List.map_cons,xx,jx1 xs];rfl
theorem qxm(xs:List Sl):(xs.map Sl.let).map Sl.sd=letAll (xs.map Sl.sd):=by
 unfold letAll;rw[Xl,Xl];rfl
theorem qkz{K H}{xs:List Sl}{L}(w:World K H (xs.map some++L)):World K H ((xs.map Sl.let).map some++L)/\Step H (xs.map some++L) H ((xs.map Sl.let).map some++L):=by
 have nd:=w.nd;rw[jX,Xj]at nd;have cl:∀a∈xs.flatMap Sl.as,a∈j9 _\/a∈jV _:=λa ha=>by
  obtain⟨x,hx,sy⟩:=List.mem_flatMap.mp ha;exact(Sl.as_of sy).imp (λz=>mem_owned.mpr ⟨x,Xr hx,z⟩) λz=>mem_frozen.mpr ⟨x,Xr hx,z⟩
 refine⟨⟨λx hx=>?_,by rw[jX,JV];exact nd.2.1,λa ha hf=>?_⟩,λ_ _ h _=>h,λa ha=>?_,λa ha=>?_⟩
 ·rcases aA hx with hx|hx
  ·obtain⟨y,hy,e⟩:=aE hx;cases e;obtain⟨z,hz,rfl⟩:=aE hy;exact Kv (w.ok z (ll9 _ (Xr hz)))
  ·exact w.ok x (lr9 _ hx)
 ·rw[jX,JV]at ha;rw[qx,jx1]at hf;rcases aA hf with z|z
  ·rcases cl a z with z|z
   ·exact nd.2.2 a z a ha rfl
   ·exact w.ds a (by simp_all) (by simp_all)
  ·exact w.ds a (by simp_all) (by simp_all)
 ·rw[jX,JV]at ha
  simp_all
 ·rw[qx,jx1]at ha;rw[qx,jX];rcases aA ha with z|z
  ·rcases cl a z with z|z
   ·exact .inr (.inl (ll9 _ z))
   ·exact .inl (ll9 _ z)
  ·exact .inl (lr9 _ z)
theorem wq3(D:kz X.prog X.w X.K X.mg X.base k x ps (spF Z.K Z.mg n f))(hr:Room k X.A)(g:xw X Z.EX)(ha:QA X Z q cs (e::es))(hn:autoParam (cs.length=n) Ŕ)(hg:autoParam (Gl X x) Ŕ)(fq:autoParam ((x==("__debug__":Str))=false) ŕ)
  (he:autoParam (starEach (e::es) X.env=(false,eval e X.env)::starEach es X.env) Ŕ) (cg:autoParam ((backTo pos (starEach es X.env)).any (·.1)=false) Ŕ):
  QE X Z q (jw f cs) (.Call (.Name x p) (e::es) [] pos):=kZ (vvo D hr g ha hg fq he cg) fun σ H Q aj=>ex8 aj λE L r m w hc xc kk=>
 wja m w (hc) xc λE1 ys h1 hl xs L1 H1 e1 m1 w1 st sm=>by
  rw [Xv];have ah:xs.length=n:=by rw[<-hn,<-hl,<-e1,X4]
  cases hf:f (letAll ys)with
  | none=>simp_all
  | some fr=>
   rw[hf]at h1;obtain⟨wl,sl⟩:=qkz w1;have ev:xs.map Sl.v=(xs.map Sl.let).map Sl.v:=by rw[Xl];rfl
   rw[ev];refine⟨xs.map Sl.let,fr,rfl,by rw[X4];exact ah,wl.left,by rw[<-e1]at hf;rw[qxm];exact hf,λE' c ee C H' hm s'=>?_,λE' a ee y H' e2 e3 w' s'=>?_⟩
   ·subst ee;cases oq9 h1;obtain⟨w2,s2⟩:=stay wl s' ⟨λ_ z=>(nomatch z),Y8,λ_ z=>(nomatch z)⟩;exact xc _ _ rfl C L1 H' hm m1 w2 ((st.trans sl).trans s2)
   ·subst ee;cases oq9 h1;obtain⟨w2,s2⟩:=stay wl s' w';refine kk _ _ rfl y L1 H' e2 e3 m1 w2 ((st.trans sl).trans s2) λhq=>?_
    obtain⟨a1,a2⟩:=sm hq;refine⟨λb ob hb=>s'.keep b ob (a1 b ob hb) λz=>?_,λb hb=>?_⟩
    ·rw[JV]at z;exact nomatch z
    ·rcases s'.own b (ll9 _ hb)with z|z
     ·rw[JV]at z;exact nomatch z
     ·exact Jw a1 z
end
noncomputable def wkh(K:Frag):R2:=λx y H Q=>∃l k xs,x=.ref l/\y=.int k/\LsR K H l xs/\-(2 ^ 63)<=k/\k<2 ^ 63/\xs.length*k.toNat<=sizeLine /\
 ∀p,H p=none->Q (.ref p) (upd H p (.lst (List.replicate k.toNat xs).flatten))
theorem op_repR{X}:OpR X (binaryOp .Mult) (wkh X.K):=by
 rintro a7 s σ H x y v u Q I rx ry ⟨l,k,xs,rfl,rfl,hH,h1,h2,hz,q⟩;cases rx;obtain⟨t,rfl⟩:=ry;obtain⟨z,a9,n,r,e⟩:=hH.is I;have ah:a9.toArray.size*k.toNat<=sizeLine:=by rw[X8,<-r.length];exact hz
 have hcap:¬a9.toArray.size*k.toNat>(2 ^ 63 - 1) / 8:=by
  have:sizeLine<=(2 ^ 63 - 1) / 8:=⋯
  lia
 have jf:¬(!Builtin.List.listFitsIndex k)=true:=by
  rw[fitsIndex_both h1 h2];exact Bool.false_ne_true
 have uj:¬Builtin.List.listTooLong (a9.toArray.size*k.toNat)=true:=by
  rw[vkt ah];exact Bool.false_ne_true
 have gj:List.foldl (λx1 x2=>x1++x2) #[] (List.replicate (if a9.toArray.isEmpty=true then 0 else k.toNat) a9.toArray)=(List.replicate k.toNat a9).flatten.toArray:=by
  have f0:∀m,List.foldl (λx1 x2=>x1++x2) #[] (List.replicate m a9.toArray)=(List.replicate m a9).flatten.toArray:=λm=>by
   have:=kk3 a9 m []
   simp_all
  cases a9 with|nil=>simp|cons a r'=>simp_all
 refine wpAny_binaryOp_repeat_ref ⋯ ⟨_,e,rfl⟩ (λs'=>typeIs_int s' k t) noFill_list_mul F.fills_int_mul F.slot_int_rmul repeat_list F.slot_int_index.lookup
  (call_meets F.slot_int_rmul (typeIs_int s k t) F.entry_int_rmul (F.args_int_rmul_2 _ _) (int___rmul___int_list k t l a9.toArray n)
   ⟨e,rfl,⟨_,e,rfl⟩,call_meets F.slot_list_mul ⟨_,e,rfl⟩ F.entry_list_mul (F.args_list_mul_2 _ _) (AutoListH.list___mul___list_int_3 l a9.toArray n k t jf hcap uj) ⟨e,?_⟩⟩)
 rw[gj];exact⟨.ref _,_,I.lnew (t':=s.toks) (r.rep k.toNat) (by rw[qxo,Nat.mul_comm];exact hz),rfl,q _ I.fresh⟩
noncomputable def vx1(K:Frag):R2:=λx y H Q=>rI IntMulOk (λi j=>.int (i*j)) x y H Q\/wkh K x y H Q\/wkg x y H Q
theorem wv2{X K}(hK:autoParam (X.K=K) Ŕ):OpR X (binaryOp .Mult) (vx1 K):=by subst hK;exact op_mulI.or (op_repR.or vxs)
theorem qka{a}(h:a.natAbs.log2<2000000):Builtin.Int.intBits a<=2000000:=by
 unfold Builtin.Int.intBits
 split
 ·simp_all
 ·omega
theorem mulOk_of{a b}(h:Wj a b=true):IntMulOk a b:=by
 unfold Wj qvu at h;simp at h;rcases h with(h|h)|h
 ·exact .of_left (intBits_le_64 h.1 h.2)
 ·exact .of_right (intBits_le_64 h.1 h.2)
 ·have h1:=qka h.1;have h2:=qka h.2;unfold IntMulOk Builtin.Int.intTooBig;have e:2 ^ 27=134217728:=⋯
  have hb:bitsLine=134217728:=e
  grind
theorem RepA.reps{K H ds xs bs}(h:RepA K H true ds xs bs):∀k,∃cs,RepA K H true (List.replicate k ds).flatten (List.replicate k xs).flatten cs/\∀b∈cs,b∈bs
 |0=>⟨[],by simp only[List.replicate_zero,List.flatten_nil];unfold RepA;exact⟨rfl,rfl⟩,λ_ z=>(nomatch z)⟩
 |k+1=>by
  obtain⟨cs,r,hc⟩:=RepA.reps h k;exact⟨bs++cs,r.app h,λb hb=>(aA hb).elim id (hc b)⟩
theorem vwi{K}:Ad2 K (vx1 K) ZV:=by
 intro H x y s Q ox oy hf k;unfold ZV at hf;dsimp only at hf
 split at hf
 ·rename_i i j e1 e2
  split at hf
  ·rename_i hm;cases oq9 hf;exact .inl ⟨i,j,kw ox e1,kw oy e2,mulOk_of hm,k _ H rfl rfl Kx⟩
  ·cases hf
 ·rename_i a n e1 e2
  split at hf
  ·rename_i hc;cases oq9 hf;obtain⟨l,xs,bs,e3,q3,r3,h3⟩:=zY ox (.inl e1) hc.2.2.2;have q3:LsR K H l xs:=by rcases q3 with⟨_,z⟩|⟨z,_⟩;exact z;rw[e1]at z;cases z
   obtain⟨cs,r4,h4⟩:=r3.reps n.toNat;exact .inr (.inl ⟨l,n,xs,e3,kw oy e2,q3,hc.1,hc.2.1,by rw[<-r3.len];exact hc.2.2.1,λp hp=>(k _ _ rfl rfl (J8 hp r4 λb hb=>ll9 _ (h3 b (h4 b hb))))⟩)
  ·cases hf
 ·rename_i z n e1 e2
  split at hf
  ·rename_i hc;cases oq9 hf;exact .inr (.inr ⟨z,n,(xQ ox e1).1,kw oy e2,hc.1,k _ H rfl rfl (wzi hc.2)⟩)
  ·cases hf
 ·cases hf
noncomputable def dec(h:Heap)(u:Value):D:=open Classical in if e:∃d,jZ h d u then e.choose else .non
theorem kxc{h u d}(r:jZ h d u):dec h u=d:=by
 unfold dec;have e:∃d,jZ h d u:=⟨d,r⟩;rw[dif_pos e];exact kj2 e.choose_spec r
theorem ZJ{h d}:∀{ds us},CReps h ds us->us.any (λu=>peq (dec h u) d)=ds.any λz=>peq z d
 |[],_,r=>by rw[r];rfl
 |z::ds,_,r=>by
  obtain⟨u,rr,rfl,h1,h2⟩:=r;rw[List.any_cons,List.any_cons,kxc h1,ZJ h2]
theorem jzz{h}:∀{ds us u},CReps h ds us->u∈us->∃d∈ds,jZ h d u
 | [],_,_,r,hu=>by rw[r]at hu;cases hu
 | z::ds,_,u,r,hu=>by
  obtain⟨u',rr,rfl,h1,h2⟩:=r;rcases aD hu with rfl|hu
  ·exact⟨z,X5,h1⟩
  ·obtain⟨d,hd,c⟩:=jzz h2 hu;exact⟨d,lc9 _ hd,c⟩
theorem jxl:∀{n ds d},D.flats n ds=true->d∈ds->d.flat n=true
 |_,[],_,_,h=>by grind
 |n,z::ds,d,f,h=>by
  unfold D.flats at f;rw[Bool.and_eq_true]at f;rcases aD h with rfl|h
  ·exact f.1
  ·exact jxl f.2 h
section
variable {X:Cx}{Z:Fx0}{K:Frag}{q qa qb:Bool}{a b c:Ex}{u v:Ts}{e ea eb:Expr}{es:List Expr}{pos p:Pos}{σ:L2.St}{H:Hp}{L:Ls}{E:En}
noncomputable def qwa(K:Frag)(ld:Bool):R2:=λx y H Q=>∃d ds as bs p xs,RepL K H true d x as/\y=.ref p/\(SqL K H p xs\/SqT K H p xs)/\RepA K H true ds xs bs/\d.flat 30=true/\D.flats 30 ds=true/\Q (.bl (if ld then !(ds.any λz=>peq z d)else ds.any λz=>peq z d)) H
theorem vxu(hu:X.A.units+64<cLine):OpR X (compareOp .In) (qwa X.K false):=by
 rintro a7 s σ H x y v u Q I rx ry ⟨d,ds,as,bs,p,xs,h1,rfl,hq,ra,f1,f2,q⟩;cases ry;have he:∀{us},CReps s.heap ds us->∀w,w∈us.toArray->SeqAt.EqAt X.A.in1 s w v (peq (dec s.heap w) d):=fun {us} cr w hw=>by
  obtain⟨d',hd,c⟩:=jzz cr (by simpa using hw);rw[kxc c];exact Q8 30 (jxl f2 hd) c (Qk I h1 f1 rx) (by grind)
 rcases hq with hq|hq
 ·obtain⟨a9,r,pl,hz⟩:=I.list hq;have cr:=creps_of I ra f2 r;refine SeqAt.in_listAt _ pl.isList (he cr) ⟨.bl _,H,I,rfl,?_⟩
  rwa [List.any_toArray,ZJ cr]
 ·obtain⟨a9,r,pl,hz⟩:=I.tuple hq;have cr:=creps_of I ra f2 r;refine SeqAt.in_tupleAt _ pl (he cr) ⟨.bl _,H,I,rfl,?_⟩
  rwa [List.any_toArray,ZJ cr]
theorem qqk(hu:X.A.units+64<cLine):OpR X (compareOp .NotIn) (qwa X.K true):=by
 rintro a7 s σ H x y v u Q I rx ry ⟨d,ds,as,bs,p,xs,h1,rfl,hq,ra,f1,f2,q⟩;cases ry;have he:∀{us},CReps s.heap ds us->∀w,w∈us.toArray->SeqAt.EqAt X.A.in1 s w v (peq (dec s.heap w) d):=fun {us} cr w hw=>by
  obtain⟨d',hd,c⟩:=jzz cr (by simpa using hw);rw[kxc c];exact Q8 30 (jxl f2 hd) c (Qk I h1 f1 rx) (by grind)
 rcases hq with hq|hq
 ·obtain⟨a9,r,pl,hz⟩:=I.list hq;have cr:=creps_of I ra f2 r;refine SeqAt.notIn_listAt _ pl.isList (he cr) ⟨.bl _,H,I,rfl,?_⟩
  rwa [List.any_toArray,ZJ cr]
 ·obtain⟨a9,r,pl,hz⟩:=I.tuple hq;have cr:=creps_of I ra f2 r;refine SeqAt.notIn_tupleAt _ pl (he cr) ⟨.bl _,H,I,rfl,?_⟩
  rwa [List.any_toArray,ZJ cr]
noncomputable def qw9(ld:Bool):R2:=λx y H Q=>∃i j,x=.str i/\y=.str j/\Q (.bl (if ld then !xj8 i j else xj8 i j)) H
theorem opInStr:OpR X (compareOp .In) (qw9 false):=λa7 s σ H x y v u Q I rx ry ⟨i,j,e1,e2,q⟩=>qx1 a7 s σ H x y v u Q I rx ry ⟨i,j,e1,e2,q⟩
theorem opNotInStr:OpR X (compareOp .NotIn) (qw9 true):=λa7 s σ H x y v u Q I rx ry ⟨i,j,e1,e2,q⟩=>kwf a7 s σ H x y v u Q I rx ry ⟨i,j,e1,e2,q⟩
noncomputable def wkl(K:Frag)(ld:Bool):R2:=λx y H Q=>qw9 ld x y H Q\/qwa K ld x y H Q
theorem vkr(hu:X.A.units+64<cLine)(hK:autoParam (X.K=K) Ŕ):OpR X (compareOp .In) (wkl K false):=by subst hK;exact opInStr.or (vxu hu)
theorem kqy(hu:X.A.units+64<cLine)(hK:autoParam (X.K=K) Ŕ):OpR X (compareOp .NotIn) (wkl K true):=by subst hK;exact opNotInStr.or (qqk hu)
theorem zQ{H l xs}(h:LsR K H l xs):SqL K H l xs:=h.sq
theorem kvd{x y:Sl}{ys}{ld:Bool}{Q}(ox:x.ok K H)(oy:y.ok K H)(hy:y.d=.lst ys\/y.d=.tup ys)(hc:(x.d.flat 30&&D.flats 30 ys)=true)
  (k:Q (.bl (if ld then !(ys.any λz=>peq z x.d)else ys.any λz=>peq z x.d)) H):wkl K ld x.v y.v H Q:=by
 rw[Bool.and_eq_true]at hc;obtain⟨l,xs,bs,e3,q3,r3,_⟩:=items oy hy;have r3':RepA K H true ys xs bs:=by
  cases ho:(y.o != .dp)with|true=>rw[ho]at r3;exact r3|false=>rw[ho]at r3;exact r3.wk
 refine .inr ⟨x.d,ys,x.as,bs,l,xs,RepO.wk ox,e3,?_,r3',hc.1,hc.2,k⟩;rcases q3 with⟨_,z⟩|⟨_,z⟩
 ·exact .inl (zQ z)
 ·exact .inr z
theorem vqz:Ad2 K (wkl K false) (pu2 K9):=by
 intro H x y s Q ox oy hf k;unfold pu2 K9 fIn at hf;dsimp only at hf;cases hy:y.d with
 | lst ys=>
  rw[hy]at hf;dsimp only at hf
  split at hf
  ·rename_i hc;cases oq9 hf;exact kvd ox oy (.inl hy) hc (k _ H rfl rfl wY)
  ·cases hf
 | tup ys=>
  rw[hy]at hf;dsimp only at hf
  split at hf
  ·rename_i hc;cases oq9 hf;exact kvd ox oy (.inr hy) hc (k _ H rfl rfl wY)
  ·cases hf
 | str b=>
  rw[hy]at hf;dsimp only at hf
  split at hf
  ·rename_i a hx;cases oq9 hf;exact .inl ⟨a,b,(xQ ox hx).1,(xQ oy hy).1,k _ H rfl rfl wY⟩
  ·cases hf
 |_=>simp_all
theorem kvt:Ad2 K (wkl K true) (pu2 zK):=by
 intro H x y s Q ox oy hf k;unfold pu2 zK Vv fIn at hf;dsimp only at hf;cases hy:y.d with
 | lst ys=>
  rw[hy]at hf;dsimp only at hf
  split at hf
  ·rename_i hc;cases oq9 hf;exact kvd ox oy (.inl hy) hc (k _ H rfl rfl wY)
  ·cases hf
 | tup ys=>
  rw[hy]at hf;dsimp only at hf
  split at hf
  ·rename_i hc;cases oq9 hf;exact kvd ox oy (.inr hy) hc (k _ H rfl rfl wY)
  ·cases hf
 | str b=>
  rw[hy]at hf;dsimp only at hf
  split at hf
  ·rename_i a hx;cases oq9 hf;exact .inl ⟨a,b,(xQ ox hx).1,(xQ oy hy).1,k _ H rfl rfl wY⟩
  ·cases hf
 |_=>rw[hy]at hf;cases hf
theorem jzu{g d v as}(h:RepL K H g d v as):decide (v=.non)=isNon d:=by
 cases d with|non=>unfold RepL at h;rw[h.1];rfl|bl _=>unfold RepL at h;rw[h.1];rfl|int _=>unfold RepL at h;rw[h.1];rfl|str _=>unfold RepL at h;rw[h.1];rfl|tup _=>unfold RepL at h;obtain⟨a,xs,e,_⟩:=h;rw[e];rfl|lst _=>unfold RepL at h;obtain⟨a,xs,bs,e,_⟩:=h;rw[e];rfl|dct _=>unfold RepL at h;obtain⟨a,xs,bs,e,_⟩:=h;rw[e];rfl|obj _ _=>unfold RepL at h;obtain⟨_,x,o,C,e,_⟩:=h;rw[e];rfl
theorem W3:Ad2 K (λx y H Q=>y=.non/\Q (.bl (decide (x=.non))) H) (f2First fIsNon):=by
 intro H x y s Q ox oy hf k;unfold f2First fIsNon at hf
 split at hf
 ·rename_i hy;cases oq9 hf;have e:=jzu (RepO.wk oy);rw[hy]at e;refine⟨Ys e,?_⟩;rw[jzu (RepO.wk ox)];exact k _ H rfl rfl wY
 ·grind
theorem vjj:Ad2 K (λx y H Q=>y=.non/\Q (.bl (!decide (x=.non))) H) (f2First fNotNon):=by
 intro H x y s Q ox oy hf k;unfold f2First fNotNon at hf
 split at hf
 ·rename_i hy;cases oq9 hf;have e:=jzu (RepO.wk oy);rw[hy]at e;refine⟨Ys e,?_⟩;rw[jzu (RepO.wk ox)];exact k _ H rfl rfl wY
 ·grind
theorem qkx:Ad1 K (rU λi=>.int (-i)) (pu1 KW):=by
 intro H x s Q ox hf k;unfold pu1 KW at hf
 split at hf
 ·rename_i i e;cases oq9 hf;exact⟨i,kw ox e,k _ H rfl rfl Kx⟩
 ·cases hf
theorem qz0 n i:_root_.Q.ixN n i=L2.ixN n i:=rfl
theorem vzb{x y:Sl}{d Q}(ox:x.ok K H)(oy:y.ok K H)(hf:jJ x.d y.d=some d)(k:∀z:Sl,z.o=sub x.o->z.d=d->z.ok K H->(∀b∈z.frz,b∈x.frz)->(∀b∈z.as,b∈x.as)->Q z.v H):rIx K x.v y.v H Q:=by
 have seq:∀ds,(x.d=.lst ds\/x.d=.tup ds)->∀i,y.d=.int i->((_root_.Q.ixN ds.length i).bind λj=>ds[j]?)=some d->rIx K x.v y.v H Q:=by
  intro ds hx i hy hd;obtain⟨l,xs,bs,e3,q3,r3,h3,h4⟩:=items ox hx;cases hj:_root_.Q.ixN ds.length i with
  | none=>grind
  | some j=>
   rw [hj]at hd;obtain⟨v,cs,e4,r4,h5⟩:=r3.get (hd);have il:atI xs i=some v:=by
    unfold atI
    rwa [<-r3.len,<-qz0,hj]
   have fin:Q v H:=by
    cases ho:x.o with
    | dp=>
     rw[ho]at r4;exact k ⟨.dp,d,v,cs⟩ (by rw[ho];rfl) rfl r4 (λb hb=>(nomatch hb)) λb hb=>h3 b (h5 b hb)
    | no=>
     rw[ho]at r4;exact k ⟨.no,d,v,cs⟩ (by rw[ho];rfl) rfl r4 (λb hb=>h4 ⋯ b (h5 b hb)) λb hb=>h3 b (h5 b hb)
    | rt=>
     rw[ho]at r4;exact k ⟨.no,d,v,cs⟩ (by rw[ho];rfl) rfl r4 (λb hb=>h4 ⋯ b (h5 b hb)) λb hb=>h3 b (h5 b hb)
   rcases q3 with⟨_,z⟩|⟨_,z⟩
   ·exact .inl ⟨l,xs,i,v,e3,kw oy hy,zQ z,il,fin⟩
   ·exact .inr (.inl ⟨l,xs,i,v,e3,kw oy hy,z,il,fin⟩)
 unfold jJ at hf;cases hx:x.d with
 | lst ds=>
  rw [hx]at hf;cases hy:y.d with| int i=>rw[hy]at hf;exact seq ds (.inl hx) i hy hf| _=>rw[hy]at hf;cases hf
 | tup ds=>
  rw [hx]at hf;cases hy:y.d with| int i=>rw[hy]at hf;exact seq ds (.inr hx) i hy hf| _=>rw[hy]at hf;cases hf
 | str z=>
  rw [hx]at hf;cases hy:y.d with
  | int i=>
   rw [hy]at hf;have hf:((_root_.Q.ixN z.cps.size i).bind λj=>(z.cps.toList[j]?).map λc=>D.str ⟨#[c]⟩)=some d:=hf;cases hj:_root_.Q.ixN z.cps.size i with
   | none=>grind
   | some j=>
    rw[hj]at hf;cases hc:z.cps.toList[j]? with
    | none=>rw[Option.bind_some,hc]at hf;cases hf
    | some c=>
     rw[Option.bind_some,hc]at hf;cases oq9 hf;have il:atI z.cps.toList i=some c:=by
      unfold atI
      rwa [Xd,<-qz0,hj]
     obtain⟨e1,hz⟩:=xQ ox hx;refine .inr (.inr ⟨z,i,c,e1,kw oy hy,hz,il,?_⟩);have rp:∀g,RepL K H g _ (.str ⟨#[c]⟩) []:=λg=>VW (show 1<=sizeLine by decide)
     cases ho:x.o with|dp=>exact k ⟨.dp,.str ⟨#[c]⟩,.str ⟨#[c]⟩,[]⟩ (by rw[ho];rfl) rfl (rp false) (λb hb=>(nomatch hb)) λb hb=>(nomatch hb)|no=>exact k ⟨.no,.str ⟨#[c]⟩,.str ⟨#[c]⟩,[]⟩ (by rw[ho];rfl) rfl (rp true) (λb hb=>(nomatch hb)) λb hb=>(nomatch hb)|rt=>exact k ⟨.no,.str ⟨#[c]⟩,.str ⟨#[c]⟩,[]⟩ (by rw[ho];rfl) rfl (rp true) (λb hb=>(nomatch hb)) λb hb=>(nomatch hb)
  |_=>rw[hy]at hf;cases hf
 |non=>rw[hx]at hf;cases hf|bl _=>rw[hx]at hf;cases hf|int _=>rw[hx]at hf;cases hf|dct _=>simp_all|obj _ _=>rw[hx]at hf;cases hf
theorem q_ix(ha:QV X Z qa a ea)(hb:QV X Z true b eb)(hs:qj5 eb)(hK:autoParam (X.K=Z.K) Ŕ):QV X Z qa (j8 a b) (.Subscript ea eb pos):=
 kZ (wzg (hK▸wvs) ha hb hs) fun σ H Q aj=>ex8 aj λE L r m w hc xc k=>by
  refine v6 m w (hc) xc λE1 s h1 x L1 H1 e1 e2 m1 w1 ok fr sr st sm=>(v6 m1 w1 h1 (xc.step st) λE2 s2 h2 y L2 H2 e3 e4 m2 w2 i9 rm uo bu fb=>?_)
  obtain⟨z,hz,rfl⟩:=xK h2;cases hf:jJ s.2 s2.2 with
  |none=>simp_all
  |some d=>
   rw[hf]at hz;cases oq9 hz;have kx:=Vx ok fr bu (fb rfl);exact vzb kx.1 i9 (by rw[e2,e4];exact hf) λz zo zd rg zf za=>k _ _ rfl z L2 H2 (by simp_all) zd m2 w2 rg (λb hb=>kx.2 b (zf b hb)) (jx9 sr za) (st.trans bu) λhq=>kQ (sm hq) (fb rfl)
theorem YY(ht:QT X Z q u e)(ha:QE X Z q a ea)(hb:QE X Z q b eb):QE X Z q (cIf u a b) (.IfExp e ea eb pos):=kZ (vkj ht ha hb) fun σ H Q aj=>ex8 aj λE L r m w hc xc k=>
 vjx m w (hc) xc λE1 s h1 L1 H1 m1 w1 st sm=>by
  have fin:∀{c},c E1=some r->tQ Z q c σ H1 Q:=λhc=>⟨E1,L1,r,m1,w1,hc,xc.step st,λE' a z x L' H' e1 e2 m' w' dz jo=>k E' a z x L' H' e1 e2 m' w' (st.trans dz) λhq=>⟨kQ (sm hq) (jo hq).1,λb hb=>Jw (sm hq) ((jo hq).2 b hb)⟩⟩
  cases s with|true=>simp_all|false=>rw[Xb (by simp)]at h1 ⊢;exact fin h1
theorem vvb{op}(h:QE X Z q a ea):QE X Z q a (.BoolOp op [ea] pos):=wqo h
theorem wq7(ha:QV X Z q a ea)(hb:QE X Z q b (.BoolOp .And (eb::es) pos)):QE X Z q (VQ a b) (.BoolOp .And (ea::eb::es) pos):=kZ (wqu ha hb) fun σ H Q aj=>ex8 aj λE L r m w hc xc k=>
 v6 m w (hc) xc λE1 s h1 x L1 H1 e1 e2 m1 w1 ok fr sr st sm=>by
  cases hs:s.2 with
  | bl kk=>
   rw[hs]at h1;refine⟨kk,QY ok (e2.trans hs),?_⟩;cases kk with
   |true=>
    exact⟨E1,L1,r,m1,w1,h1,xc.step st,λE' a z x L' H' e1 e2 m' w' dz jo=>k E' a z x L' H' e1 e2 m' w' (st.trans dz) λhq=>⟨kQ (sm hq) (jo hq).1,λb hb=>Jw (sm hq) ((jo hq).2 b hb)⟩⟩
   |false=>
    cases oq9 h1;obtain⟨w3,dg⟩:=KY w1 st (wY (fr:=[])) (λ_ z=>(nomatch z)) (λ_ z=>(nomatch z)) (λ_ z=>(nomatch z));exact k _ _ rfl _ L1 H1 rfl rfl m1 w3 dg λhq=>⟨sm hq,λ_ z=>(nomatch z)⟩
  |_=>rw[hs]at h1;cases h1
theorem xjq{x:Sl}{k}(ok:x.ok K H)(h:truth x.d=some k)(hd:∀ab,x.d≠.dct ab):wxd K x.v H k:=by
 cases hx:x.d with
 |non=>rw[hx]at h;rw[vvs ok hx];exact(oq9 h).symm|bl b=>rw[hx]at h;rw[QY ok hx];exact(oq9 h).symm|int i=>rw[hx]at h;rw[kw ok hx];exact(oq9 h).symm
 |str z=>
  rw[hx]at h;obtain⟨e,hz⟩:=xQ ok hx;rw[e];refine⟨hz,?_⟩;rw[<-oq9 h];show _=(((z.cps.size:Nat):Int) != 0);rw[Bool.eq_iff_iff];simp
 |lst ds=>
  rw[hx]at h;obtain⟨a,xs,bs,e,q,r,_⟩:=items ok (.inl hx);rw[e];have q':LsR K H a xs:=by rcases q with⟨_,z⟩|⟨z,_⟩;exact z;rw[hx]at z;cases z
  refine .inl ⟨xs,zQ q',?_⟩;rw[<-oq9 h];have:=r.len;cases ds<;>cases xs<;>simp_all
 |tup ds=>
  rw[hx]at h;obtain⟨a,xs,bs,e,q,r,_⟩:=items ok (.inr hx);rw[e];have q':SqT K H a xs:=by rcases q with⟨z,_⟩|⟨_,z⟩;rw[hx]at z;cases z;exact z
  refine .inr (.inl ⟨xs,q',?_⟩);rw[<-oq9 h];have:=r.len;cases ds<;>cases xs<;>simp_all
 |dct ab=>exact absurd hx (hd ab)|obj c f=>rw[hx]at h;cases h
theorem kvy{d k}(h:truthQ d=some k):truth d=some k/\∀ab,d≠.dct ab:=by
 cases d<;>first|exact⟨h,λ_ z=>nomatch z⟩|cases h
theorem J3(h:QV X Z q a ea)(he:autoParam (∀fc,isTrue ea X.env fc=(do let v <-fc;standAt ea.pos;holding [v] (truthy v))) Ŗ)(hK:autoParam (X.K=Z.K) Ŕ):QT X Z q (tEQ a) ea:=qwk (vkd h he) fun σ H Q aj=>ex8 aj λE L r m w hc xc k=>
 v6 m w (show bnd (a E) _=some r from hc) xc λE1 s h1 x L1 H1 e1 e2 m1 w1 ok fr sr st sm=>by
  obtain⟨kk,hk,rfl⟩:=xK h1;obtain⟨h2,h3⟩:=kvy hk;exact⟨kk,hK▸xjq ok (by rw[e2];exact h2) (by rw[e2];exact h3),k _ _ rfl L1 H1 m1 w1 st sm⟩
theorem wz2(h:QV X Z q a ea)(hK:autoParam (X.K=Z.K) Ŕ):QE X Z q (vqp a) (.UnaryOp .Not ea pos):=by
 intro a7 s σ H Q I ⟨E,L,r,m,w,hc,xc,k⟩;refine UnaryOp_ (thn (h a7 s σ H _ I (v6 (G:=λv H1=>∃kk,wxd X.K v H1 kk/\Q (.bl (!kk)) H1) m w (hc) xc λE1 s h1 x L1 H1 e1 e2 m1 w1 ok fr sr st sm=>?_)) λv s1 ⟨x,H1,I1,r1,kk,t1,q1⟩=>?_)
 ·obtain⟨y,hy,rfl⟩:=xK h1;cases hk:truthQ s.2 with
  |none=>simp_all
  |some kk=>
   rw[hk]at hy;cases oq9 hy;obtain⟨h2,h3⟩:=kvy hk;refine⟨kk,hK▸xjq ok (by rw[e2];exact h2) (by rw[e2];exact h3),?_⟩;obtain⟨w3,dg⟩:=KY w1 st (wY (fr:=[])) (λ_ z=>(nomatch z)) (λ_ z=>(nomatch z)) (λ_ z=>(nomatch z));exact k _ _ rfl _ L1 H1 rfl rfl m1 w3 dg λhq=>⟨sm hq,λ_ z=>(nomatch z)⟩
 ·exact not_of (thn (vv4 a7 s1 σ H1 x v _ I1 r1 ⟨kk,t1,q1⟩) λc s2 ⟨H2,I2,q2⟩=>⟨.bl _,H2,I2,rfl,q2⟩)
end
theorem jxo{α:Type}:∀{L i} {q:α},L[i]?=some q->∃A B,L=A++q::B/\∀q',L.set i q'=A++q'::B
 |[],_,_,h=>by simp at h
 |a::L,0,q,h=>by
  have e:a=q:=by simpa using h
  subst e;exact⟨[],L,rfl,λ_=>rfl⟩
 |a::L,i+1,q,h=>by
  obtain⟨A,B,e,f⟩:=jxo (by simpa using h);exact⟨a::A,B,by rw[e];rfl,λq'=>by rw[List.set_cons_succ,f];rfl⟩
section
variable {K:Frag}{H:Hp}{M T L:Ls}{y y':Sl}{l:Addr}{ob:HO}
theorem World.write(w:World K H (some y::(T++M)))(hl:l∈y.own)(ok':y'.ok K (upd H l ob))(nd:y'.own.Nodup)(h1:∀a∈y'.own,a∈y.own\/a∈j9 T)(h2:∀a∈y'.frz,a∈y.as\/a∈j9 T\/a∈jV T)(h3:∀a∈y'.own,a∉y'.frz):
  World K (upd H l ob) (some y'::M)/\Step H (some y::(T++M)) (upd H l ob) (some y'::M):=by
 have wn:=w.nd;rw [vj,jX,Xj,Xj]at wn;obtain⟨n1,⟨n2,n3,n4⟩,n5⟩:=wn;have oy:l∈j9 (some y::(T++M)):=ll9 _ hl;have gw:=w.own_al oy;have ds:∀a,(a∈y.own\/a∈j9 T\/a∈j9 M)->¬(a∈y.frz\/a∈jV T\/a∈jV M):=λa ha hf=>by
  refine w.ds a ?_ ?_
  ·rw[vj,jX];rcases ha with z|z|z
   ·exact ll9 _ z
   ·exact lr9 _ (ll9 _ z)
   ·exact lr9 _ (lr9 _ z)
  ·rw[xx,qx];rcases hf with z|z|z
   ·exact ll9 _ z
   ·exact lr9 _ (ll9 _ z)
   ·exact lr9 _ (lr9 _ z)
 have noM:∀z,some z∈M->l∉z.as:=λz hz ha=>by
  rcases Sl.as_of ha with q|q
  ·exact n5 l hl l (lr9 _ (mem_owned.mpr ⟨z,hz,q⟩)) rfl
  ·exact ds l (.inl hl) (.inr (.inr (mem_frozen.mpr ⟨z,hz,q⟩)))
 have ke:∀a o,H a=some o->a≠l->upd H l ob a=some o:=λa o e ne=>by rw[kY ne];exact e
 have kp:∀as,l∉as->Kp H _ as:=λas hn=>by
  refine⟨λa xs e=>ke a _ e λz=>?_,λa o u e=>ke a _ e λz=>?_,λa ha o e=>ke a o e λz=>hn (z▸ha)⟩
  ·grind
  ·subst z;rcases gw with⟨_,q⟩|⟨_,q⟩|⟨_,q⟩<;>(rw[e]at q;cases q)
 have wM:World K (upd H l ob) M:=by
  have w1:=w.tail.right;exact⟨λz hz=>RepO.kp (w1.ok z hz) (kp _ (noM z hz)),w1.nd,w1.ds⟩
 refine⟨wM.cons ok' nd (λa ha hM=>?_) (λa ha hM=>?_) (λa ha hM=>?_) h3,λa o e hn=>ke a o e λz=>hn (z▸oy),λa ha=>?_,λa ha=>?_⟩
 ·rcases h1 a ha with z|z
  ·exact n5 a z a (lr9 _ hM) rfl
  ·exact n4 a z a hM rfl
 ·rcases h1 a ha with z|z
  ·exact ds a (.inl z) (.inr (.inr hM))
  ·exact ds a (.inr (.inl z)) (.inr (.inr hM))
 ·rcases h2 a ha with z|z|z
  ·rcases Sl.as_of z with z|z
   ·exact n5 a z a (lr9 _ hM) rfl
   ·exact ds a (.inr (.inr hM)) (.inl z)
  ·exact n4 a z a hM rfl
  ·exact ds a (.inr (.inr hM)) (.inr (.inl z))
 ·rw[vj,jX];rcases aA ha with z|z
  ·rcases h1 a z with z|z
   ·exact .inl (ll9 _ z)
   ·exact .inl (lr9 _ (ll9 _ z))
  ·exact .inl (lr9 _ (lr9 _ z))
 ·rw[vj,jX,xx,qx];rcases aA ha with z|z
  ·rcases h2 a z with z|z|z
   ·rcases Sl.as_of z with z|z
    ·exact .inr (.inl (ll9 _ z))
    ·exact .inl (ll9 _ z)
   ·exact .inr (.inl (lr9 _ (ll9 _ z)))
   ·exact .inl (lr9 _ (ll9 _ z))
  ·exact .inl (lr9 _ (lr9 _ z))
theorem World.writeAt{i}(w:World K H (T++L))(hy:L[i]?=some (some y))(hl:l∈y.own)(ok':y'.ok K (upd H l ob))(nd:y'.own.Nodup)(h1:∀a∈y'.own,a∈y.own\/a∈j9 T)(h2:∀a∈y'.frz,a∈y.as\/a∈j9 T\/a∈jV T)(h3:∀a∈y'.own,a∉y'.frz):
  World K (upd H l ob) (L.set i (some y'))/\Step H (T++L) (upd H l ob) (L.set i (some y')):=by
 obtain⟨A,B,e,f⟩:=jxo hy;rw[f];subst e;have p:(T++(A++some y::B)).Perm (some y::(T++(A++B))):=by
  refine(List.Perm.append_left T (List.perm_middle)).trans List.perm_middle
 obtain⟨w2,s2⟩:=World.write (w.perm p) hl ok' nd h1 h2 h3;exact⟨w2.perm List.perm_middle.symm,s2.perm p.symm List.perm_middle.symm⟩
end
theorem RepA.snoc{K H g d x cs}(h:RepL K H g d x cs){ds xs bs}(r:RepA K H g ds xs bs):RepA K H g (ds++[d]) (xs++[x]) (bs++cs):=by
 refine RepA.app ?_ r;exact⟨x,[],cs,[],rfl,by simp,h,by unfold RepA;exact⟨rfl,rfl⟩⟩
theorem kz8{K H}{y:Sl}{ds}(ok:y.ok K H)(hd:y.d=.lst ds)(ho:y.o≠.no):∃l xs bs,y.v=.ref l/\H l=some (.lst xs)/\y.as=l::bs/\l∈y.own/\RepA K H (y.o != .dp) ds xs bs:=by
 obtain⟨o,d,v,as⟩:=y;dsimp only at hd ho;subst hd;cases o with
 |no=>exact absurd rfl ho
 |rt=>
  obtain⟨a,xs,bs,rfl,r,q,rfl⟩:=(ok);exact⟨a,xs,bs,rfl,q,rfl,by simp[Sl.own],r⟩
 |dp=>
  have ok:RepL K H false _ v as:=ok;obtain⟨a,xs,bs,rfl,r,q⟩:=ok;rcases q with⟨q,rfl⟩|⟨z,_⟩
  ·exact⟨a,xs,bs,rfl,q,rfl,by simp[Sl.own],r⟩
  ·grind
theorem kji{K H T L i y l xs xs' bs cs o' ds'}(w:World K H (T++L))(hy:L[i]?=some (some y))(hH:H l=some (.lst xs))(ha:y.as=l::bs)(hl:l∈y.own)(hv:y.v=.ref l)
  (r:RepA K H (o' != .dp) ds' xs' cs) (hc:(o'=.rt/\∀a∈cs,a∈bs\/a∈j9 T\/a∈jV T)\/(o'=.dp/\y.o=.dp/\cs.Nodup/\∀a∈cs,a∈bs\/a∈j9 T)):
  World K (upd H l (.lst xs')) (L.set i (some ⟨o',.lst ds',y.v,l::cs⟩))/\Step H (T++L) (upd H l (.lst xs')) (L.set i (some ⟨o',.lst ds',y.v,l::cs⟩)):=by
 have oL:=mem_owned.mpr ⟨y,vz hy,hl⟩;have oy:l∈j9 (T++L):=by rw[jX];exact lr9 _ oL
 have nd:=w.nd;rw [jX,Xj]at nd;have nT:=λz=>nd.2.2 l z l oL rfl
 have yn:y.own.Nodup:=by
  obtain⟨A,B,e,_⟩:=jxo hy;have:=nd.2.1;rw[e,jX,Xj]at this;exact(List.nodup_append.mp this.2.1).1
 have nb:l∉bs:=λz=>by
  cases ho:y.o with
  | no=>unfold Sl.own at hl;rw[ho]at hl;exact nomatch hl
  | rt=>
   have:l∈y.frz:=by unfold Sl.frz;rw[ho,ha];exact z
   exact w.ds l oy (by rw[qx];exact lr9 _ (mem_frozen.mpr ⟨y,vz hy,this⟩))
  | dp=>
   unfold Sl.own at yn;rw[ho,ha]at yn;exact(List.nodup_cons.mp yn).1 z
 have nc:l∉cs:=λz=>by
  rcases hc with⟨_,hc⟩|⟨_,_,_,hc⟩
  ·rcases hc l z with q|q|q
   ·exact nb q
   ·exact nT q
   ·exact(λz=>w.ds l oy (by rw[qx];exact ll9 _ z)) q
  ·rcases hc l z with q|q
   ·exact nb q
   ·exact nT q
 have kp:Kp H (upd H l (.lst xs')) cs:=by
  have k2:∀a o,H a=some o->a≠l->upd H l (.lst xs') a=some o:=λa o e ne=>by rw[kY ne];exact e
  refine⟨λa zs e=>k2 a _ e λz=>?_,λa o u e=>k2 a _ e λz=>?_,λa ha o e=>k2 a o e λz=>nc (z▸ha)⟩
  ·grind
  ·grind
 have r':=r.kp kp;rcases hc with⟨rfl,hc⟩|⟨rfl,hdp,ju,hc⟩
 ·refine World.writeAt w hy hl (y':=_) ⟨l,xs',cs,hv,r',x6,rfl⟩ (by simp[Sl.own]) (λa h=>?_) (λa h=>?_) (λa h z=>?_)
  ·have:a=l:=by simpa [Sl.own]using h
   grind
  ·rcases hc a (by simpa [Sl.frz]using h)with q|q
   ·exact .inl (ha▸lc9 _ q)
   ·exact .inr q
  ·have:a=l:=by simpa [Sl.own]using h
   subst this;exact nc (by simpa [Sl.frz]using z)
 ·have oa:y.own=y.as:=by unfold Sl.own;rw[hdp]
  refine World.writeAt w hy hl (y':=_) ?_ (List.nodup_cons.mpr ⟨nc,ju⟩) (λa h=>?_) (λa h=>(nomatch h)) (λa h z=>(nomatch z))
  ·show RepL K _ false _ y.v _;exact⟨l,xs',cs,hv,r',.inl ⟨x6,rfl⟩⟩
  ·rcases aD (h)with q|q
   ·grind
   ·rcases hc a q with q|q
    ·exact .inl (by rw[oa,ha];exact lc9 _ q)
    ·exact .inr q
section
variable {X:Cx}{Z:Fx0}{pn:List Nat}{q:Bool}{c:Ex}{e:Expr}{σ:L2.St}{H:Hp}{L:Ls}{E:En}
theorem vvw{K}{x:Sl}{ds}(ok:x.ok K H)(hd:x.d=.lst ds):tyV K "list" x.v H:=by
 obtain⟨a,xs,bs,e1,q1,_⟩:=items ok (.inl hd);rw[e1];rcases q1 with⟨_,z⟩|⟨z,_⟩
 ·exact .inl ⟨rfl,xs,z.sq⟩
 ·grind
theorem xj1{K}{x:Sl}(ok:x.ok K H) b (hb:b=false->zw x.sd=true):∃cs,RepL K H b x.d x.v cs/\(∀a∈cs,a∈x.as)/\(b=false->∀a∈cs,a∈x.own)/\(b=false->x.own.Nodup->cs.Nodup):=by
 cases b with
 | true=>exact⟨x.as,RepO.wk ok,λ_ h=>h,(λz=>by cases z),(λz=>by cases z)⟩
 | false=>
  by_cases ho:x.o=.dp
  ·have e:x.own=x.as:=by unfold Sl.own;rw[ho]
   refine⟨x.as,?_,λ_ h=>h,λ_ a h=>by rw[e];exact h,λ_ n=>by rw[e]at n;exact n⟩;have:=ok;unfold Sl.ok at this;rw[ho]at this;exact this
  ·have hp:x.d.pure=true:=by
    rcases Bool.or_eq_true_iff.mp (hb rfl)with z|z
    ·exact absurd (by simpa using z) ho
    ·exact z
   obtain⟨z,rp⟩:=RepL.pu (g':=false) (RepO.wk ok) hp;exact⟨[],rp,λ_ h=>(nomatch h),λ_ _ h=>(nomatch h),λ_ _=>Y8⟩
theorem Kq{α:Type}{l:List α}{i x}(h:l[i]?=some x):l.set i x=l:=by
 obtain⟨h1,h2⟩:=List.getElem?_eq_some_iff.mp h;rw[<-h2];simp
theorem mut1 {D' f i r} {G:V->V->Hp->Prop} (m:Mt E σ L) (w:World Z.K H L) (hc:qY f i c E=some r) (k:FlP Z pn D' σ H L r)
  (g:∀ l (x) (xs) (ds ds') (d) (bs cs) (H1) (gg),f ds d=some ds'->H1 l=some (.lst xs)->RepA Z.K H1 gg ds xs bs->RepL Z.K H1 gg d x cs ->
   (∀ xs' es,RepA Z.K H1 gg ds' xs' es->(∀a∈es,a∈bs\/a∈cs)->((bs++cs).Nodup->es.Nodup)->D'.nx σ (upd H1 l (.lst xs')))->G (.ref l) x H1):
  ∃ v,σ[i]?=some (some v)/\tyV Z.K "list" v H/\tQ Z q c σ H (G v):=by
 unfold qY at hc;cases h0:E[i]? with
 | none=>rw[h0]at hc;cases hc
 | some s0 =>
  cases s0 with
  | none=>rw[h0]at hc;cases hc
  | some s0=>
   obtain ⟨o0,d0⟩:=s0;cases d0 with
   | lst ds0=>
    rw [h0]at hc;obtain ⟨x0,a1,a2,a3,a4⟩:=m.get h0;refine ⟨x0.v,a4,vvw (w.ok x0 (vz a1)) a3,(Q4 m w hc k λE1 s h1 x L1 H1 e1 e2 m1 w1 st _=>?_)⟩;cases hE:E1[i]? with
    | none=>rw[hE]at h1;cases h1
    | some s1=>
     cases s1 with
     | none=>rw[hE]at h1;cases h1
     | some s1=>
      obtain⟨oo,dd⟩:=s1;rw [hE]at h1;cases dd with
      | lst ds=>
       dsimp only at h1
       by_cases ia:oo=.no
       ·rw [X9 ia]at h1;cases h1
       ·rw [Xb ia]at h1;cases hfd:f ds s.2 with
        | none=>rw[hfd]at h1;cases h1
        | some ds'=>
         rw[hfd]at h1;obtain⟨y,b1,b2,b3,b4⟩:=m1.get hE;have hv:y.v=x0.v:=by rw[a4]at b4;exact(oq9 (oq9 b4)).symm
         obtain⟨l,xs,bs,c1,c2,c3,c4,c5⟩:=kz8 (w1.ok y (lc9 _ (vz b1))) b3 (b2▸ia);have ex0:=hv▸c1;rw[ex0];have wT:=w1;have pb:=w1.head;have nd:=w1.nd;rw[vj,Xj]at nd;have oT:j9 [some x]=x.own:=by simp
         have fT:jV [some x]=x.frz:=by simp
         by_cases hd:oo=.dp/\zw s=true
         ·rw[X9 hd]at h1;cases oq9 h1;have hyo:=b2.trans hd.1;rw[hyo]at c5;obtain⟨cs,r1,h3,h4,h5⟩:=xj1 pb false λ_=>by rw[show x.sd=s from by simp[Sl.sd,e1,e2]];exact hd.2
          refine g l x.v xs ds ds' s.2 bs cs H1 false hfd c2 c5 (e2▸r1) λxs' es re he hn=>?_
          have ynd:(bs++cs).Nodup:=by
           have yo:y.own=l::bs:=by unfold Sl.own;rw[hyo,c3]
           obtain⟨A,B,e,_⟩:=jxo b1;have q:=nd.2.1;rw[e,jX,vj,Xj]at q;have q2:=(List.nodup_append.mp q.2.1).1;rw[yo]at q2;rw[Xj];refine⟨(List.nodup_cons.mp q2).2,h5 rfl nd.1,λa ha b hb lz=>?_⟩;subst lz;exact nd.2.2 a (h4 rfl a hb) a (mem_owned.mpr ⟨y,vz b1,by rw[yo];exact lc9 _ ha⟩) rfl
          obtain⟨w3,s3⟩:=kji (o':=.dp) (ds':=ds') (xs':=xs') wT b1 c2 c3 c4 c1 re (.inr ⟨rfl,hyo,hn ynd,λa ha=>(he a ha).imp id λz=>by rw[oT];exact h4 rfl a z⟩);refine k σ _ _ Pn.refl ?_ w3 (st.trans s3);have:=m1.set (x:=⟨.dp,.lst ds',y.v,l::es⟩) i;rw[Kq b4]at this;exact this
         ·rw[Xb hd]at h1;cases oq9 h1;have c6:RepA Z.K H1 true ds xs bs:=by
           cases hb:(y.o != .dp)with|true=>rw[hb]at c5;exact c5|false=>rw[hb]at c5;exact c5.wk
          refine g l x.v xs ds ds' s.2 bs x.as H1 true hfd c2 c6 (e2▸RepO.wk pb) λxs' es re he hn=>?_
          obtain⟨w3,s3⟩:=kji (o':=.rt) (ds':=ds') (xs':=xs') wT b1 c2 c3 c4 c1 re (.inl ⟨rfl,λa ha=>(he a ha).imp id λz=>by rw[oT,fT];exact Sl.as_of z⟩);refine k σ _ _ Pn.refl ?_ w3 (st.trans s3);have:=m1.set (x:=⟨.rt,.lst ds',y.v,l::es⟩) i;rw[Kq b4]at this;exact this
      |_=>cases h1
   |_=>rw[h0]at hc;cases hc
theorem wza{i o apos ae pos}(hb:PE X (.Call (.Attribute o "append" apos) [e] [] ae) (tBM Z.K "list" qwc (xW i) (vwp (tQ Z q c) wxi)))(hs:autoParam (swapsWith (.Call (.Attribute o "append" apos) [e] [] ae) none pos.line X.env=pure false) Ŕ):
  QS X Z pn (qY qX i c) (.Expr (.Call (.Attribute o "append" apos) [e] [] ae) pos):=zZ (qwn hb hs) λD σ H aj=>ex7 aj λE L r m w hc k=>
 mut1 m w hc k λl x xs ds ds' d bs cs H1 gg hf hH ra rx fin=>by
  unfold qX at hf
  by_cases hl:ds.length<big
  ·rw[X9 hl]at hf;cases oq9 hf;exact⟨l,xs,x,rfl,rfl,hH,by rw[<-ra.len];exact hl,fin _ _ (RepA.snoc rx ra) (λa ha=>aA ha) λh=>h⟩
  ·rw[Xb hl]at hf;cases hf
end
section
variable {X:Cx}{Z:Fx0}{pn:List Nat}{q:Bool}{a b c:Ex}{tg e ea eb:Expr}{σ:L2.St}{H:Hp}{L:Ls}{E:En}{pos p:Pos}
theorem wk1{a7 H1 s1 x t R}(I1:L2.Inv X a7 σ H1 s1)(q:R (Its x) H1):wpAny (model X.prog X.w) X.A (pyIter (.str x t)) (PIE X a7 σ tg R) X.xe s1:=by
 have fp:∀b∈[s1.heap.objs.size],vY X a7 H1 b:=λb hb=>by
  have e:b=s1.heap.objs.size:=by simpa using hb
  subst e;exact I1.fpOk (X7 _) (I1.hok.fresh (X7 _))
 cases ha:x.cps.all _
 ·exact wpAny_pyIter_wide ha ⟨s1.heap.objs.size,[s1.heap.objs.size],_,_,H1,rfl,I1.kept (t':=s1.toks) λb o e=>X1 _ e,qja (λA' hA=>PySem.Walks.strWide hA _ x t) (λ_ _ _ _ _ st h=>wpAny_pyIter_striter_wide st h) ⋯,⟨_,X6 _ rfl,rfl,rfl⟩,fp,q⟩
 ·exact wpAny_pyIter_ascii ha ⟨s1.heap.objs.size,[s1.heap.objs.size],_,_,H1,rfl,I1.kept (t':=s1.toks) λb o e=>X1 _ e,qja (λA' hA=>PySem.Walks.strAscii hA _ x t) (λ_ _ _ _ _ st h=>wpAny_pyIter_striter_ascii st h) ⋯,⟨_,X6 _ rfl,rfl,rfl⟩,fp,q⟩
theorem wv7{K}{H} c:Sl.ok K H ⟨.no,.str ⟨#[c]⟩,.str ⟨#[c]⟩,[]⟩:=by
 show RepL K H true _ _ _;exact VW (show 1<=sizeLine by decide)
theorem wv6{K}{H} i:Sl.ok K H ⟨.no,.int i,.int i,[]⟩:=by
 show RepL K H true _ _ _;exact wW
noncomputable def iAny(K:Frag)(tl:TE):TI:=fun σ H R=>tl σ H λx H1=>(∃a xs,x=.ref a/\SqL K H1 a xs/\(xs.length<=sizeLine->R (Itl K a) H1))\/(∃a xs,x=.ref a/\SqT K H1 a xs/\(xs.length<=sizeLine->R (Itt K a) H1))\/∃z,x=.str z/\R (Its z) H1
theorem vvk{l tl}(hl:PE X l tl):PI X tg l (iAny X.K tl):=by
 intro a7 s σ H R I h;refine thn (hl a7 s σ H _ I h) λv s1 ⟨x,H1,I1,r1,q1⟩=>?_
 rcases q1 with⟨a,xs,rfl,hq,q⟩|⟨a,xs,rfl,hq,q⟩|⟨z,rfl,q⟩
 ·cases r1;obtain⟨a9,rv,p,hz⟩:=I1.list hq;refine wpAny_pyIter_list p.isList (⟨s1.heap.objs.size,[s1.heap.objs.size],_,_,H1,rfl,I1.kept (t':=s1.toks) λb o e=>X1 _ e,qvi a _,⟨_,X6 _ rfl,rfl,rfl⟩,λb hb=>?_,q hz⟩);have e:b=s1.heap.objs.size:=by simpa using hb
  subst e;exact I1.fpOk (X7 _) (I1.hok.fresh (X7 _))
 ·cases r1;obtain⟨a9,rv,p,hz⟩:=I1.tuple hq;refine wpAny_pyIter_tuple (p) (⟨s1.heap.objs.size,[s1.heap.objs.size],_,_,H1,rfl,I1.kept (t':=s1.toks) λb o e=>X1 _ e,qq3 a _,⟨_,X6 _ rfl,rfl,rfl⟩,λb hb=>?_,q hz⟩);have e:b=s1.heap.objs.size:=by simpa using hb
  subst e;exact I1.fpOk (X7 _) (I1.hok.fresh (X7 _))
 ·obtain⟨t,rfl⟩:=r1;exact wk1 I1 q
theorem x5(h:QE X Z q c e)(hK:autoParam (X.K=Z.K) Ŕ):QI X Z q tg (itS c) e:=λa7 s σ H R I aj=>ex8 aj λE L r m w hc xc k=>by
 refine(hK▸vvk h) a7 s σ H R I (qwd m w (show bnd (c E) _=some r from hc) xc λE1 s h1 x L1 H1 e1 e2 m1 w1 st sm=>?_);obtain⟨ds,hd,rfl⟩:=xK h1;have ok:=w1.head;have wT:World Z.K H1 (L1++[x.let].map some):=by
  exact World.comm (L:=[some x.let]) (w1.tail.consNo (Kv ok) rfl λb hb=>w1.apart b hb)
 have sT:Step H L H1 (L1++[x.let].map some):=by
  refine⟨st.keep,λb hb=>?_,λb hb=>?_⟩
  ·have:b∈j9 L1:=by simpa [KZ]using hb
   exact st.own b (by rw[vj];exact lr9 _ this)
  ·have:b∈jV L1\/b∈x.as:=by simpa [KZ]using hb
   rcases this with z|z
   ·exact st.frz b (by rw[xx];exact lr9 _ z)
   ·exact ZZ st b z
 cases hx:x.d with
 | lst es=>
  rw[<-e2,hx]at hd;have iu:es=ds:=oq9 hd;subst iu;obtain⟨a,xs,bs,ev,q3,r3,h3,_⟩:=items ok (.inl hx);have q3:LsR Z.K H1 a xs:=by rcases q3 with⟨_,z⟩|⟨z,_⟩;exact z;rw[hx]at z;cases z
  have again:∀H2,(∀t∈[x.let],t.ok Z.K H2)->∃ys cs,SqL Z.K H2 a ys/\RepA Z.K H2 true es ys cs/\∀b∈cs,b∈x.as:=λH2 hok=>by
   obtain⟨a',ys,cs,mj,q4,r4,h4,_⟩:=items (hok x.let (aB rfl)) (.inl hx);have:a'=a:=by have:=mj.symm.trans ev;exact V.ref.inj this
   subst this;rcases q4 with⟨_,z⟩|⟨z,_⟩
   ·exact⟨ys,cs,z.sq,r4,h4⟩
   ·rw[show x.let.d=D.lst es from hx]at z;cases z
  refine .inl ⟨a,xs,ev,q3.sq,λah=>k _ _ rfl (Itl Z.K a) [x.let] L1 H1 m1 wT sT (r3.len▸ah) (λhq=>(sm hq).1) ⟨λt ht=>by rw[aC ht];rfl,λi H2 hok hi=>?_,λH2 hok=>?_,λi H2 v H3 d hok hy ff=>?_⟩⟩
  ·obtain⟨ys,cs,s1,s2,_⟩:=again H2 hok;have hl:=s2.len;exact⟨ys,ys[i]'⋯,s1,X3 ⋯⟩
  ·obtain⟨ys,cs,s1,s2,_⟩:=again H2 hok;exact⟨ys,s1,by rw[s2.len];exact X7 _⟩
  ·obtain⟨ys,cs,s1,s2,s3⟩:=again H2 hok;obtain⟨e3,hy⟩:=hy;subst e3;obtain⟨v',i7,f1,f2,f3⟩:=s2.get ff;have:v'=v:=by have:=hy ys s1;rw[f1]at this;exact oq9 this
   subst this;exact⟨⟨.no,d,v',i7⟩,rfl,rfl,rfl,x8,f2,λb hb=>⟨x.let,aB rfl,s3 b (f3 b hb)⟩⟩
 | tup es=>
  rw[<-e2,hx]at hd;have iu:es=ds:=oq9 hd;subst iu;obtain⟨a,xs,bs,ev,q3,r3,h3,_⟩:=items ok (.inr hx);have q3:SqT Z.K H1 a xs:=by rcases q3 with⟨z,_⟩|⟨_,z⟩;rw[hx]at z;cases z;exact z
  have again:∀H2,(∀t∈[x.let],t.ok Z.K H2)->∃ys cs,SqT Z.K H2 a ys/\RepA Z.K H2 true es ys cs/\∀b∈cs,b∈x.as:=λH2 hok=>by
   obtain⟨a',ys,cs,mj,q4,r4,h4,_⟩:=items (hok x.let (aB rfl)) (.inr hx);have:a'=a:=by have:=mj.symm.trans ev;exact V.ref.inj this
   subst this;rcases q4 with⟨z,_⟩|⟨_,z⟩
   ·rw[show x.let.d=D.tup es from hx]at z;cases z
   ·exact⟨ys,cs,z,r4,h4⟩
  refine .inr (.inl ⟨a,xs,ev,q3,λah=>k _ _ rfl (Itt Z.K a) [x.let] L1 H1 m1 wT sT (r3.len▸ah) (λhq=>(sm hq).1) ⟨λt ht=>by rw[aC ht];rfl,λi H2 hok hi=>?_,λH2 hok=>?_,λi H2 v H3 d hok hy ff=>?_⟩⟩)
  ·obtain⟨ys,cs,s1,s2,_⟩:=again H2 hok;have hl:=s2.len;exact⟨ys,ys[i]'⋯,s1,X3 ⋯⟩
  ·obtain⟨ys,cs,s1,s2,_⟩:=again H2 hok;exact⟨ys,s1,by rw[s2.len];exact X7 _⟩
  ·obtain⟨ys,cs,s1,s2,s3⟩:=again H2 hok;obtain⟨e3,hy⟩:=hy;subst e3;obtain⟨v',i7,f1,f2,f3⟩:=s2.get ff;have:v'=v:=by have:=hy ys s1;rw[f1]at this;exact oq9 this
   subst this;exact⟨⟨.no,d,v',i7⟩,rfl,rfl,rfl,x8,f2,λb hb=>⟨x.let,aB rfl,s3 b (f3 b hb)⟩⟩
 | str z=>
  rw[<-e2,hx]at hd;have hd:(if z.cps.size<=big then some (z.cps.toList.map λc=>D.str ⟨#[c]⟩)else none)=some ds:=hd
  split at hd
  ·rename_i hz;cases oq9 hd;refine .inr (.inr ⟨z,(xQ ok hx).1,k _ _ rfl (Its z) [] L1 H1 m1 (by simpa using w1.tail) (by simpa using (st.trans Step.drop)) (by rw[X4,Xd];exact hz) (λhq=>(sm hq).1) ⟨λt ht=>(nomatch ht),λi H2 _ hi=>?_,λH2 _=>?_,λi H2 v H3 d _ hy ff=>?_⟩⟩)
   ·show i<z.cps.size
    simp_all
   ·show(z.cps.toList.map λc=>D.str ⟨#[c]⟩).length=z.cps.size;simp
   ·obtain⟨e3,cc,hc,rfl⟩:=hy;subst e3;rw[Xi,Xp,hc]at ff;cases oq9 ff;exact⟨⟨.no,.str ⟨#[cc]⟩,.str ⟨#[cc]⟩,[]⟩,rfl,rfl,rfl,x8,wv7 cc,λb hb=>(nomatch hb)⟩
  ·cases hd
 |non=>rw[<-e2,hx]at hd;cases hd|bl _=>rw[<-e2,hx]at hd;cases hd|int _=>rw[<-e2,hx]at hd;cases hd|dct _=>rw[<-e2,hx]at hd;cases hd|obj _ _=>rw[<-e2,hx]at hd;cases hd
theorem qq1{K}(lo hi):Walks K (Itr lo (hi - lo).toNat) [] (jW lo hi):=by
 have hl:(jW lo hi).length=(hi - lo).toNat:=by simp[jW]
 refine⟨λt ht=>(nomatch ht),λi H _ lu=>by rw[hl]at lu;exact lu,λH _=>by rw[hl];exact X7 _,λi H v H' d _ hy hd=>?_⟩;obtain⟨e,rfl⟩:=hy;subst e;unfold jW at hd;rw[Xi]at hd;cases hr:(List.range (hi - lo).toNat)[i]? with
 | none=>simp_all
 | some j=>
  rw[hr]at hd;have:j=i:=by
   obtain⟨_,h2⟩:=List.getElem?_eq_some_iff.mp hr
   simpa using h2.symm
  subst this;cases oq9 hd;exact⟨_,rfl,rfl,rfl,x8,wv6 _,λb hb=>(nomatch hb)⟩
theorem jxx{i}(h:z7 i=true):-(2 ^ 62)<=i/\i<2 ^ 62:=by
 unfold z7 at h
 simpa using h
theorem wQ(ha:QV X Z q a ea)(hg:Gl X "range")(hm:X.mg "range"=none)(b6:autoParam (starEach [ea] X.env=[(false,eval ea X.env)]) Ŕ):QI X Z q tg (vK a) (.Call (.Name "range" p) [ea] [] pos):=λa7 s σ H R I aj=>ex8 aj λE L r m w hc xc k=>by
 refine(qwv hg hm (vw ha vQ b6) b6) a7 s σ H R I (v6 m w (hc) xc λE1 s h1 x L1 H1 e1 e2 m1 w1 ok fr sr st sm=>?_);cases hx:s.2 with
 | int j=>
  rw[hx]at h1;dsimp only at h1
  split at h1
  ·rename_i hj;cases oq9 h1;obtain⟨j1,j2⟩:=jxx hj.1;refine⟨j,by rw[(kw ok (e2.trans hx))],j1,j2,?_⟩;have wk:=qq1 (K:=Z.K) 0 j;rw[Int.sub_zero]at wk;exact k _ _ rfl _ [] L1 H1 m1 (by simp_all) (by simp_all) (by simp only[jW,X4,Y5,Int.sub_zero];exact hj.2) sm wk
  ·cases h1
 |_=>simp_all
theorem Mt.clr:∀{R E L},Mt E σ L->Mt (Q.clr R E) σ (Q.clr R L)
 | [],_,_,m=>m
 | j::R,E,L,m=>by
  have un:∀{E σ} {L} j,Mt E σ L->Mt (E.set j none) σ (L.set j none):=by
   intro E σ L j m
   induction m generalizing j with
   |nil=>exact .nil
   |un m ih=>cases j with|zero=>exact .un m|succ j=>exact .un (ih j)
   |cons m ih=>cases j with|zero=>exact .un m|succ j=>exact .cons (ih j)
  show Mt (Q.clr R _) σ _;exact Mt.clr (un j m)
theorem Mt.drop:∀{E σ L} (k),Mt E σ L->Mt (E.drop k) (σ.drop k) (L.drop k)
 |_,_,_,0,m=>m|_,_,_,k+1,.nil=>.nil|_,_,_,k+1,.un m=>m.drop k|_,_,_,k+1,.cons m=>m.drop k
theorem Mt.none_at:∀{E σ L} {j:Nat},Mt E σ L->E[j]?=some none->L[j]?=some none
 |_,_,_,_,.nil,h=>by simp_all|_,_,_,0,.un _,_=>by simp|_,_,_,j+1,.un m,h=>by simpa using m.none_at (j:=j) (by simpa using h)|_,_,_,j+1,.cons m,h=>by simpa using m.none_at (by simpa using h)
theorem Mt.pick:∀{R:List Nat},Mt E σ L->Mt (R.map (at' E)) (R.map (at' σ)) (R.map (at' L))
 | [],_=>.nil
 | j::R,m=>by
  rw[List.map_cons,List.map_cons,List.map_cons];cases hE:E[j]? with
  | none=>
   have hl:=m.len;have:L[j]?=none:=by rw[List.getElem?_eq_none_iff]at hE ⊢;lia
   rw[show at' E j=none from by unfold at';rw[hE];rfl,show at' L j=none from by unfold at';rw[this];rfl];exact .un m.pick
  | some s=>
   cases s with
   |none=>
    have:L[j]?=some none:=m.none_at hE;rw[show at' E j=none from by unfold at';rw[hE];rfl,show at' L j=none from by unfold at';rw[this];rfl];exact .un m.pick
   |some s=>
    obtain⟨x,h1,h2,h3,h4⟩:=m.get hE;rw[show at' E j=some (x.o,x.d)from by unfold at';rw[hE,h2,h3];rfl,show at' L j=some x from by unfold at';rw[h1];rfl,show at' σ j=some x.v from by unfold at';rw[h4];rfl];exact .cons m.pick
theorem Mt.rep:∀{k},Mt E σ L->Mt (List.replicate k none++E) (List.replicate k none++σ) (List.replicate k none++L)
 |0,m=>by simp_all
 |k+1,m=>by
  exact .un m.rep
theorem Mt.back:∀{R B τ M E L},Mt E σ L->Mt B τ M->(∀(i j:Nat) (v),R[i]?=some j->τ[i]?=some (some v)->σ[j]?=some (some v))->Mt (Q.back R B E) σ (Q.back R M L)
 | [],B,τ,M,E,L,m,_,_=>by simpa [Q.back]using m| j::R,_,_,_,E,L,m,.nil,_=>by simpa [Q.back]using m
 | j::R,_,_,_,E,L,m,.un mB,h=>by
  have un:∀{E σ} {L} j,Mt E σ L->Mt (E.set j none) σ (L.set j none):=by
   intro E σ L j m
   induction m generalizing j with
   |nil=>exact .nil
   |un m ih=>cases j with|zero=>exact .un m|succ j=>exact .un (ih j)
   |cons m ih=>cases j with|zero=>exact .un m|succ j=>exact .cons (ih j)
  show Mt _ σ (Q.back R _ _);exact Mt.back (un j m) mB λi jj v e1 e2=>h (i+1) jj v (by simpa using e1) (by simpa using e2)
 |j::R,_,_,_,E,L,m,.cons (x:=x) mB,h=>by
  have m1:=m.set (x:=x) j;rw[Kq (h 0 j x.v (by simp) (by simp))]at m1;show Mt _ σ (Q.back R _ _);exact Mt.back m1 mB λi jj v e1 e2=>h (i+1) jj v (by simpa using e1) (by simpa using e2)
section
variable {ak f7:Expr}{dy:List Expr}{scope:Scope}{N:List Str}{k:Nat}{R:List Nat}{it:Ev (List D)}{tt:Tg}{u:Ts}{o:Own}{q1 q2:Bool}
theorem vz6:J9 k R σ=List.replicate k none++R.map (at' σ):=rfl
theorem wzs{K M}(hR:R.Nodup)(w:World K H (L++M)):World K H ((List.replicate k none++R.map (at' L))++(Q.clr R L++M))/\Step H (L++M) H ((List.replicate k none++R.map (at' L))++(Q.clr R L++M)):=by
 have p:(sls (L++M)).Perm (sls ((List.replicate k none++R.map (at' L))++(Q.clr R L++M))):=by
  have:=qkt (L:=L) hR;rw[V9]at this;simp;rw[<-Y0];exact(this.append_right _).symm
 exact⟨w.same p,Step.refl.same (List.Perm.refl _) p⟩
theorem wve{K B M H2}(hR:R.Nodup)(hr:∀j∈R,j<L.length)(hB:B.length=k+R.length)(w:World K H2 (B++(Q.clr R L++M))):World K H2 (Q.back R (B.drop k) (Q.clr R L)++M)/\Step H2 (B++(Q.clr R L++M)) H2 (Q.back R (B.drop k) (Q.clr R L)++M):=by
 have p2:(sls (Q.back R (B.drop k) (Q.clr R L)++M)).Perm (sls (B.drop k++(Q.clr R L++M))):=by
  rw[V9,<-Y0,V9 _];exact(kxn (B:=B.drop k) hR (λj hj=>qzz hj) (λj hj=>by rw[qzy];exact hr j hj) (by simp_all)).append_right _
 have sub:(sls (B.drop k++(Q.clr R L++M))).Sublist (sls (B++(Q.clr R L++M))):=by
  rw[V9,V9 B];exact List.Sublist.append ((List.drop_sublist k B).filterMap _) (List.Sublist.refl _)
 exact⟨(w.sub sub).same p2.symm,(Step.refl.sub sub).same (List.Perm.refl _) p2.symm⟩
theorem kj6:∀{is es E E'},setAll is es E=some E'->E'.length=E.length
 |[],[],_,_,h=>by cases oq9 h;rfl|_::_,[],_,_,h=>by cases h|i::is,d::es,E,E',h=>by rw[kj6 (E:=E.set i _) h,List.length_set]
theorem vx5{t:Tg}{d E E'}(h:t.put d E=some E'):E'.length=E.length:=by
 cases t with
 |n i=>cases oq9 h;rw[List.length_set]
 |t is=>
  cases d with|tup es=>exact kj6 (h)|lst es=>exact kj6 (h)|_=>cases h
theorem kzi{nN Q}(hσ:σ.length=nN)(hR:R.Nodup)(hr:∀j∈R,j<nN)(h:tQ Z q (cLC o k R it tt u c) σ H Q):tLC (tIS Z q it) (tG Z ((List.range R.length).map (k + ·)) tt) (tT Z q u) (tQ Z q c) k R σ H Q:=by
 obtain⟨E,L,r,m,w,gy,xc,kk⟩:=h;have gy:bnd (it E) (λE ds=>match lcL tt u c ds (Q2 k R E) []with
  | some (.ok B xs)=>mkL o (JZ k R B E) xs| some (.exc B e)=>some (.exc (JZ k R B E) e)
  | none=>none)=some r:=gy
 rcases x9 gy with⟨E1,ds,h1,h2⟩|⟨E1,cc,h1,h2⟩
 rotate_left
 ·exact⟨E,L,_,m,w,h1,xc.map h2,λE' s' z=>by cases z⟩
 refine⟨E,L,_,m,w,h1,(λ_ _ z=>by cases z),λE' ds' z J T L1 H1 m1 w1 st hz sm wk=>?_⟩;injection z with z1 z2;subst z1 z2;have hL1:∀j∈R,j<L1.length:=λj hj=>by have:=m1.len;have:=hr j hj;lia
 obtain⟨wB,sB⟩:=wzs (k:=k) hR w1;cases hrB:lcL tt u c ds (Q2 k R E1) []with
 | none=>simp_all
 | some rB=>
  rw [hrB]at h2;have okT:∀{H2 A B},World Z.K H2 (A++(B++(_root_.Q.clr R L1++T.map some)))->∀t∈T,t.ok Z.K H2:=λw2 t ht=>w2.ok t (lr9 _ (lr9 _ (lr9 _ (Xr ht))))
  have mB0:Mt (Q2 k R E1) (J9 k R σ) (List.replicate k none++R.map (at' L1)):=(m1.pick (R:=R)).rep;have tq:∀{B LB τ H2 A},Mt B τ LB->τ.length=k+R.length->Pn ((List.range R.length).map (k + ·)) (J9 k R σ) τ->World Z.K H2 (LB++(A++(_root_.Q.clr R L1++T.map some))) ->
    Mt (JZ k R B E1) σ (_root_.Q.back R (LB.drop k) (_root_.Q.clr R L1))/\World Z.K H2 (A++_root_.Q.back R (LB.drop k) (_root_.Q.clr R L1))/\Step H2 (LB++(A++(_root_.Q.clr R L1++T.map some))) H2 (A++_root_.Q.back R (LB.drop k) (_root_.Q.clr R L1)):=fun {B LB τ H2 A} mB lB pB wB2=>by
   have hl:LB.length=k+R.length:=by rw[mB.len.2];exact lB
   have pm:(LB++(A++(_root_.Q.clr R L1++T.map some))).Perm (LB++(_root_.Q.clr R L1++(A++T.map some))):=by
    refine List.Perm.append_left _ ?_;rw [<-Y0,<-Y0];exact List.Perm.append_right _ Ze
   obtain⟨w3,s3⟩:=wve (k:=k) hR hL1 hl (wB2.perm pm);have pm2:(_root_.Q.back R (LB.drop k) (_root_.Q.clr R L1)++(A++T.map some)).Perm ((A++_root_.Q.back R (LB.drop k) (_root_.Q.clr R L1))++T.map some):=by
    rw [<-Y0];exact List.Perm.append_right _ Ze
   refine⟨?_,(w3.perm pm2).left,(s3.perm pm.symm pm2).trans Step.dropT⟩;refine Mt.back (m1.clr) (mB.drop k) λi j v e1 e2=>?_
   have hi:i<R.length:=(List.getElem?_eq_some_iff.mp e1).1;have e3:=pB (k+i) (List.mem_map.mpr ⟨i,List.mem_range.mpr hi,rfl⟩);rw [List.getElem?_drop,e3,vz6,List.getElem?_append_right (by simp),Zd,show k+i - k=i from by lia,Xi,e1]at e2;have e4:at' σ j=some v:=by simpa using e2
   unfold at' at e4;cases hh:σ[j]? with| none=>simp_all| some s=>simp_all
  refine⟨λi n ys τ H2=>∃(B:En) (LB:Ls) (af:List Sl),Mt B τ LB/\τ.length=k+R.length/\Pn ((List.range R.length).map (k + ·)) (J9 k R σ) τ/\World Z.K H2 (LB++(af.map some++(_root_.Q.clr R L1++T.map some)))/\Step H L H2 (LB++(af.map some++(_root_.Q.clr R L1++T.map some))) /\
   ys=af.map Sl.v/\lcL tt u c (ds.drop i) B (af.map Sl.sd)=some rB/\i<=ds.length/\af.length<=i/\n=ds.length - i/\(q=true->jY H H2/\∀b∈j9 (af.map some),H b=none),⟨_,Q2 k R E1,_,[],mB0,by simp[J9],Pn.refl,wB,st.trans sB,rfl,hrB,Yf _,Yf _,rfl,λhq=>⟨sm hq,λ_ z=>(nomatch z)⟩⟩,?_⟩
  rintro i n ys τ H2 ⟨B,LB,af,mB,lB,pB,wB2,sB2,rfl,f1,hi,ao,rfl,smB⟩
  by_cases ce:i<ds.length
  rotate_left
  ·have e:i=ds.length:=⋯
   subst e;rw [List.drop_length]at f1;cases oq9 f1;obtain⟨m3,w3,s3⟩:=tq mB lB pB wB2;refine .inl ⟨wk.stop H2 (okT wB2) (λhq=>(smB hq).1),by rw[X4];lia,?_⟩;exact qk7 (σ:=σ) (Q:=Q) (o:=o) (xs:=af) h2 rfl w3 (sB2.trans s3) smB kk m3
  ·have hd:ds.drop i=ds[i]::ds.drop (i+1):=List.drop_eq_getElem_cons ce;rw [hd]at f1;unfold lcL at f1;cases bm:tt.put ds[i] B with
   | none=>rw[bm]at f1;cases f1
   | some B2=>
    rw [bm]at f1;dsimp only at f1;refine .inr ⟨wk.go i H2 (okT wB2) (λhq=>(smB hq).1) ce,λv H3 hy=>?_⟩;obtain⟨z,zo,zd,zv,smz,rg,zas⟩:=wk.yld i H2 v H3 ds[i] (okT wB2) (λhq=>(smB hq).1) hy (X3 ce);have pm:(LB++(af.map some++(_root_.Q.clr R L1++T.map some))).Perm ((LB++(af.map some++_root_.Q.clr R L1))++T.map some):=by
     rw[<-Y0 (af.map some),<-Y0]
    obtain⟨wz,sz⟩:=kq1 (wB2.perm pm) wk.no smz rg zo zas;have wz':World Z.K H3 ((some z::LB)++(af.map some++(_root_.Q.clr R L1++T.map some))):=wz.perm (by
     rw[List.cons_append,List.cons_append];exact List.Perm.cons _ pm.symm)
    have sz':Step H2 (LB++(af.map some++(_root_.Q.clr R L1++T.map some))) H3 ((some z::LB)++(af.map some++(_root_.Q.clr R L1++T.map some))):=sz.perm pm.symm (by
     rw[List.cons_append,List.cons_append];exact List.Perm.cons _ pm.symm)
    refine⟨B,LB,z,B2,mB,wz'.left,zo,zv,by rw[zd];exact bm,fun τ2 LB2 p2 mB2 wB3 sB3=>?_⟩;obtain⟨w4,s4⟩:=stay wz' sB3 wB3;have lB2:τ2.length=k+R.length:=by
     have h1:=mB2.len.1;have h2:=mB.len.1;have h3:=vx5 bm;lia
    have p3:=pB.trans p2;have qf:Step H L H3 (LB2++(af.map some++(_root_.Q.clr R L1++T.map some))):=sB2.trans (sz'.trans s4);have gr:q=true->jY H H3/\∀b∈j9 (af.map some),H b=none:=λhq=>⟨kQ (smB hq).1 smz,(smB hq).2⟩
    refine⟨λy H5=>∃(B:En) (LB:Ls) (dm:List Sl),Mt B τ2 LB/\World Z.K H5 (LB++(dm.map some++(_root_.Q.clr R L1++T.map some)))/\Step H L H5 (LB++(dm.map some++(_root_.Q.clr R L1++T.map some)))/\af.map Sl.v++[y]=dm.map Sl.v/\dm.length=af.length+1/\lcL tt u c (ds.drop (i+1)) B (dm.map Sl.sd)=some rB/\(q=true->jY H H5/\∀b∈j9 (dm.map some),H b=none),
     λH5=>∃B LB,Mt B τ2 LB/\World Z.K H5 (LB++(af.map some++(_root_.Q.clr R L1++T.map some)))/\Step H L H5 (LB++(af.map some++(_root_.Q.clr R L1++T.map some)))/\lcL tt u c (ds.drop (i+1)) B (af.map Sl.sd)=some rB/\(q=true->jY H H5/\∀b∈j9 (af.map some),H b=none),
     λy H5 ⟨B5,LB5,acc5,c1,c2,c3,c4,c5,c6,c7⟩=>⟨by rw[X4];lia,ds.length - (i+1),⋯,B5,LB5,acc5,c1,lB2,p3,c2,c3,c4,c6,ce,⋯,rfl,c7⟩,
     λH5 ⟨B5,LB5,c1,c2,c3,c6,c7⟩=>⟨ds.length - (i+1),⋯,B5,LB5,af,c1,lB2,p3,c2,c3,rfl,c6,ce,⋯,rfl,c7⟩,?_⟩
    have xcB:∀{α H6 L6 B6} {cc:Str} {A:Ls},rB=.exc B6 cc->World Z.K H6 (L6++(A++(_root_.Q.clr R L1++T.map some)))->Step H L H6 (L6++(A++(_root_.Q.clr R L1++T.map some)))->Xc Z τ2 H6 L6 (.exc B6 cc:Res α):=fun {α H6 L6 B6 cc A} er w6 s6 E7 c7 e7 C L7 H7 hm m7 w7 s7=>by
     injection e7 with e8 e9;subst e8 e9;subst er;cases oq9 h2;obtain⟨w8,s8⟩:=stay w6 s7 w7;obtain⟨m9,w9,s9⟩:=tq m7 lB2 p3 w8;exact xc _ _ rfl C _ H7 hm m9 w9.right ((s6.trans (s8.trans s9)).trans ⟨λ_ _ h _=>h,λa ha=>.inl (by rw[jX];exact lr9 _ ha),λa ha=>.inl (by rw[qx];exact lr9 _ ha)⟩)
    rcases x9 f1 with⟨B4,kb,g1,g2⟩|⟨B4,cc,g1,g2⟩
    rotate_left
    ·exact⟨B2,LB2,_,mB2,wB3,g1,xcB g2 w4 qf,λE' s' z=>by cases z⟩
    refine⟨B2,LB2,_,mB2,wB3,g1,(λ_ _ z=>by cases z),λE' s' z LB4 H4 mB4 wB4 sB4 sm4=>?_⟩;injection z with z1 z2;subst z1 z2;obtain⟨w5,s5⟩:=stay w4 sB4 wB4;have lb:=qf.trans s5;cases kb with
    | false=>
     rw[Xb ⋯]at g2 ⊢;exact⟨B4,LB4,mB4,w5,lb,g2,λhq=>⟨kQ (gr hq).1 (sm4 hq),(gr hq).2⟩⟩
    | true=>
     rw[X9 rfl]at g2 ⊢;rcases x9 g2 with⟨B6,y,g3,g4⟩|⟨B6,cc,g3,g4⟩
     rotate_left
     ·exact⟨B4,LB4,_,mB4,wB4,g3,xcB g4 w5 lb,λE' s' z=>by cases z⟩
     refine⟨B4,LB4,_,mB4,wB4,g3,(λ_ _ z=>by cases z),λE' s' z x LB6 H6 ex ey mB6 wB6 sB6 sm6=>?_⟩;injection z with z1 z2;subst z1 z2;obtain⟨w7,s7⟩:=stay w5 sB6 wB6;have pm3:((some x::LB6)++(af.map some++(_root_.Q.clr R L1++T.map some))).Perm (LB6++((af++[x]).map some++(_root_.Q.clr R L1++T.map some))):=by
      rw[Xs,List.cons_append];have:(LB6++(af.map some++[x].map some++(_root_.Q.clr R L1++T.map some)))=(LB6++af.map some)++some x::(_root_.Q.clr R L1++T.map some):=by simp
      rw[this];refine List.Perm.trans ?_ List.perm_middle.symm;rw[Y0]
     refine⟨B6,LB6,af++[x],mB6,w7.perm pm3,(lb.trans s7).perm (List.Perm.refl _) pm3,by simp,by simp,?_,λhq=>⟨kQ (gr hq).1 (kQ (sm4 hq) (sm6 hq).1),λb hb=>?_⟩⟩
     ·rw[Xs,show[x].map Sl.sd=[y]from by simp[Sl.sd,ex,ey]];exact g4
     ·rw[Xs,jX]at hb;rcases aA hb with hb|hb
      ·exact(gr hq).2 b hb
      ·have hb:b∈x.own:=by simpa using hb
       exact Jw (kQ (gr hq).1 (sm4 hq)) ((sm6 hq).2 b hb)
theorem xk3(N:List Str)(hi:QI X Z q tg it ak)
  (hg:∀cl C s0 H0 fp,QG (lcE X scope N cl C s0 H0 fp Z.EX) Z ((List.range R.length).map (k + ·)) tt tg) (ht:∀cl C s0 H0 fp,PTs (lcE X scope N cl C s0 H0 fp Z.EX) dy (tT Z q u)) (he:∀cl C s0 H0 fp,QE (lcE X scope N cl C s0 H0 fp Z.EX) Z q c f7)
  (gx:xw X Z.EX) (top:zV X) (hR:R.Nodup) (hr:∀j∈R,j<X.N.length) (hc:autoParam (X.calm=true) Ŕ) (hk:autoParam (scope.kind=.function) Ŕ) (jd:autoParam (K7 X.N X.env.scope scope N k R=true) Ŕ) (hs:autoParam (∀x,foldedSetIterable ak X.env x=pure x) Ŗ):
  QE X Z q (cLC o k R it tt u c) (.ListComp f7 [⟨tg,ak,dy,0⟩] scope pos):=λa7 s σ H Q I hw=>
 vvn (EX:=Z.EX) N k R (xk2 hi) hg ht he gx top hc hk jd hs a7 s σ H Q I (kzi I.len hR hr hw)
theorem wz3(N:List Str)(hi:QIS X Z q tg it ak)
  (hg:∀cl C s0 H0 fp,QG (lcE X scope N cl C s0 H0 fp Z.EX) Z ((List.range R.length).map (k + ·)) tt tg) (ht:∀cl C s0 H0 fp,PTs (lcE X scope N cl C s0 H0 fp Z.EX) dy (tT Z q u)) (he:∀cl C s0 H0 fp,QE (lcE X scope N cl C s0 H0 fp Z.EX) Z q c f7)
  (gx:xw X Z.EX) (top:zV X) (hR:R.Nodup) (hr:∀j∈R,j<X.N.length) (hc:autoParam (X.calm=true) Ŕ) (hk:autoParam (scope.kind=.function) Ŕ) (jd:autoParam (K7 X.N X.env.scope scope N k R=true) Ŕ) (hs:autoParam (∀x,foldedSetIterable ak X.env x=pure x) Ŗ):
  QE X Z q (cLC o k R it tt u c) (.ListComp f7 [⟨tg,ak,dy,0⟩] scope pos):=λa7 s σ H Q I hw=>
 vvn (EX:=Z.EX) N k R hi hg ht he gx top hc hk jd hs a7 s σ H Q I (kzi I.len hR hr hw)
theorem qwm{EX:XK}{wi:TI}{g:TG}{tte:TT}{te:TE}{i:Nat}{y:Str}{py i4:Pos}(N:List Str)(k:Nat)(R:List Nat)(hN:X.N.Nodup)(hy:X.N[i]?=some y)(hx:Loc X.env.scope y)(hi:PI X tg ak wi)
  (hg:∀cl C s0 H0 fp,PG (lcE X scope N cl C s0 H0 fp EX) tg g) (ht:∀cl C s0 H0 fp,PTs (lcE X scope N cl C s0 H0 fp EX) dy tte) (he:∀cl C s0 H0 fp,PE (lcE X scope N cl C s0 H0 fp EX) f7 te) (gx:xw X EX) (top:zV X)
  (oi:autoParam (swapsWith (.ListComp f7 [⟨tg,ak,dy,0⟩] scope pos) (some (.Name y py)) i4.line X.env=pure true) Ŕ)
  (hc:autoParam (X.calm=true) Ŕ) (hk:autoParam (scope.kind=.function) Ŕ) (jd:autoParam (K7 X.N X.env.scope scope N k R=true) Ŕ) (hs:autoParam (∀x,foldedSetIterable ak X.env x=pure x) Ŗ)
  (hf:autoParam (X.fn y=true\/X.env.scope.names.lookup y=some .local) ś):
  PS X (.Assign [.Name y py] (.ListComp f7 [⟨tg,ak,dy,0⟩] scope pos) i4) (λD σ H=>tLC wi g tte te k R σ H λv H1=>D.nx (σ.set i (some v)) H1):=by
 intro a7 s σ H D I h;have sc:=qkd hk jd;obtain⟨cl,la,cb,ca⟩:=kq8 (scope:=scope) (env:=X.env) λy hy e=>I.ok.has y.1 (sc.caps y hy e)
 rw[exec_Assign_Name_used _ _ _ _ oi];refine X0 (wpAny_standAt (X0 ?_));show wpAny _ X.A (do let _ <-comprehension (.ListComp f7 [⟨tg,ak,dy,0⟩] scope pos) scope X.env _ (newList []) false (eval ak X.env) (some (assign (.Name y py) X.env))) _ _ s;refine X0 (thn (wpAny_comprehension_free (use:=some (assign (.Name y py) X.env)) (Q:=λ_ s'=>SP X a7 D .next s') rfl hs la sc.kind sc.names
  (thn (hi a7 s σ H _ I h) λv s1 h1=>thn h1 λitv s2 h2=>?_)) λ_ s' hq=>X2 (X2 hq))
 obtain⟨it,fp,tn,J,H2,e,I2,T,bu,f2,W,w0,gc⟩:=h2;subst e;refine kwn (EX:=EX) (RR:=λaf C=>compPost (model X.prog X.w) X.A X.xe (some (assign (.Name y py) X.env)) (λ_ s'=>SP X a7 D .next s') af C) hc top sc cb ca (hg cl) (ht cl) (he cl) I2 T bu f2 w0 gc ?_ ?_
 rotate_left
 ·intro D' C s' d6 σ' H' x T Cc fl hC t q;exact vvz gx I2 f2 hC t q
 intro L C oC m ys H' s' I' eC nC fC q;show wpAny _ X.A (assign (.Name y py) X.env (.ref L)) _ _ s';refine wpAny_assign_Name (kqk I' hN hy hx (v:=.ref L) rfl (λji I''=>?_) hf);have pC:=I''.pin (C,oC) (lr9 _ (lr9 _ (aB rfl)));refine⟨m,nC.at' λo e=>?_,λh' sb=>⟨_,_,I''.unpinned.turned (it:=C) (t':=ji.toks) (λb o hb e=>(sb.2 b hb).trans e) fC.1 fC.2.1 fC.2.2.2.1 fC.2.2.2.2.1 fC.2.2.2.2.2,q⟩⟩;rw[eC]at e;cases e;exact pC.1
theorem kz3{i:Nat}{y:Str}{py i4:Pos}(N:List Str)(hN:X.N.Nodup)(hy:X.N[i]?=some y)(hx:Loc X.env.scope y)(hi:QI X Z q tg it ak)
  (hg:∀cl C s0 H0 fp,QG (lcE X scope N cl C s0 H0 fp Z.EX) Z ((List.range R.length).map (k + ·)) tt tg) (ht:∀cl C s0 H0 fp,PTs (lcE X scope N cl C s0 H0 fp Z.EX) dy (tT Z q u)) (he:∀cl C s0 H0 fp,QE (lcE X scope N cl C s0 H0 fp Z.EX) Z q c f7)
  (gx:xw X Z.EX) (top:zV X) (hR:R.Nodup) (hr:∀j∈R,j<X.N.length) (hp:autoParam (i∉pn) ŕ)
  (oi:autoParam (swapsWith (.ListComp f7 [⟨tg,ak,dy,0⟩] scope pos) (some (.Name y py)) i4.line X.env=pure true) Ŕ)
  (hc:autoParam (X.calm=true) Ŕ) (hk:autoParam (scope.kind=.function) Ŕ) (jd:autoParam (K7 X.N X.env.scope scope N k R=true) Ŕ) (hs:autoParam (∀x,foldedSetIterable ak X.env x=pure x) Ŗ)
  (hf:autoParam (X.fn y=true\/X.env.scope.names.lookup y=some .local) ś):
  QS X Z pn (jk i (cLC o k R it tt u c)) (.Assign [.Name y py] (.ListComp f7 [⟨tg,ak,dy,0⟩] scope pos) i4):=
 wq6 (q:=q) hp λa7 s σ H D I hw=>qwm N k R hN hy hx (xk2 hi) hg ht he gx top oi hc hk jd hs hf a7 s σ H D I (kzi I.len hR hr hw)
end
end
section
variable {X:Cx}{Z:Fx0}{K:Frag}{pn:List Nat}{q qa qb:Bool}{a b c:Ex}{u:Ts}{tg e ea eb:Expr}{σ:L2.St}{H:Hp}{L:Ls}{E:En}{pos p:Pos}{x:Str}{id T:String}{r:List V->Hp->VK->Prop}{f:Sd->Option Sd}{g:Sd->Sd->Option Sd}
theorem wkq:PTs X [] (tT Z q _root_.Q.tYes):=λa7 s σ H Q I aj=>ex8 aj λE L r m w hc xc k=>by
 cases oq9 hc;exact vxa a7 s σ H Q I (k _ _ rfl L H m w Step.refl λ_=>x8)
theorem qwf(h:QT X Z q u e):PTs X [e] (tT Z q u):=vx9 h
theorem wz7(hc:CallR X (.builtin id) r)(ad:Ad1 Z.K (λv H Q=>r [v] H Q) f)(ha:QV X Z q a ea)(hm:X.mg x=none)(hv:bootBuiltins x=some (.builtin id))(hg:autoParam (Gl X x) Ŕ)(hn:autoParam (x≠"__name__") ŕ)(fq:autoParam ((x==("__debug__":Str))=false) ŕ)
  (he:autoParam (starEach [ea] X.env=(false,eval ea X.env)::starEach [] X.env) Ŕ) (cg:autoParam ((backTo pos (starEach [] X.env)).any (·.1)=false) Ŕ):QE X Z q (cF1 f a) (.Call (.Name x p) [ea] [] pos):=
 kZ (qk1 hc hg hm hv (vw ha vQ he) hn fq he cg) fun σ H Q h=>WV ad h
theorem Jq(hc:CallR X (.type T) r)(ad:Ad1 Z.K (λv H Q=>r [v] H Q) f)(ha:QV X Z q a ea)(hm:X.mg x=none)(hv:bootBuiltins x=some (.type T))(hg:autoParam (Gl X x) Ŕ)(hn:autoParam (x≠"__name__") ŕ)(fq:autoParam ((x==("__debug__":Str))=false) ŕ)
  (he:autoParam (starEach [ea] X.env=(false,eval ea X.env)::starEach [] X.env) Ŕ) (cg:autoParam ((backTo pos (starEach [] X.env)).any (·.1)=false) Ŕ):QE X Z q (cF1 f a) (.Call (.Name x p) [ea] [] pos):=
 kZ (qwx hc hg hm hv (vw ha vQ he) hn fq he cg) fun σ H Q h=>WV ad h
theorem wwt:Ad1 K (λv H Q=>qw7 K [v] H Q) (pu1 qZ):=by
 intro H x s Q ok hf k;unfold pu1 at hf;have fin:∀n,qZ x.d=some (.int n)->Q (.int n) H:=λn e=>by
  rw[e]at hf;cases oq9 hf;exact k _ H rfl rfl Kx
 cases hx:x.d with
 |lst ds=>
  obtain⟨l,xs,bs,e,q,r,_⟩:=items ok (.inl hx);refine .inl ⟨l,xs,by rw[e],?_,by rw[<-r.len];exact fin ds.length (by rw[hx];rfl)⟩;rcases q with⟨_,z⟩|⟨_,z⟩
  ·exact .inl (zQ z)
  ·exact .inr z
 |tup ds=>
  obtain⟨l,xs,bs,e,q,r,_⟩:=items ok (.inr hx);refine .inl ⟨l,xs,by rw[e],?_,by rw[<-r.len];exact fin ds.length (by rw[hx];rfl)⟩;rcases q with⟨_,z⟩|⟨_,z⟩
  ·exact .inl (zQ z)
  ·exact .inr z
 |str z=>
  obtain⟨e,hz⟩:=xQ ok hx;exact .inr (.inl ⟨z,by rw[e],hz,fin z.length (by rw[hx];rfl)⟩)
 |_=>rw[hx]at hf;cases hf
noncomputable def wkk(K:Frag):List V->Hp->VK->Prop:=λxs H Q=>xk0 K xs H Q\/(∃p ys U,xs=[.ref p,.ty U]/\SqT K H p ys/\U∈kinds.tail/\Q (.bl (wvw "tuple" U)) H)\/∃p ys U,xs=[.ref p,.ty U]/\SqL K H p ys/\U∈kinds.tail/\Q (.bl (wvw "list" U)) H
theorem vj5(hK:autoParam (X.K=K) Ŕ):CallR X (.builtin "isinstance") (wkk K):=by
 subst hK;intro a7 s σ H xs us Q I r h;rcases h with h|⟨p,ys,U,rfl,hq,hU,q⟩|⟨p,ys,U,rfl,hq,hU,q⟩
 ·exact vqo a7 s σ H xs us Q I r h
 ·obtain⟨u,w',rfl,r1,r2⟩:=vjq r;cases(show w'=Value.type U from r2);cases r1;obtain⟨a9,_,⟨o,h1,h2,_⟩,_⟩:=I.tuple hq;exact Yh PySem.W.kitx_tuple I.kIn ⟨o,h1,h2⟩ (kzj ⋯ hU) (λz=>nomatch z) λtk=>⟨.bl _,H,I.tok _,rfl,q⟩
 ·obtain⟨u,w',rfl,r1,r2⟩:=vjq r;cases(show w'=Value.type U from r2);cases r1;obtain⟨a9,_,⟨o,n,h1,h2,_⟩,_⟩:=I.list hq;exact Yh PySem.W.kitx_list I.kIn ⟨o,h1,h2⟩ (kzj ⋯ hU) (λz=>nomatch z) λtk=>⟨.bl _,H,I.tok _,rfl,q⟩
theorem wwu{U}(hU:U∈kinds.tail):Ad1 K (λv H Q=>wkk K [v,.ty U] H Q) (pu1 (z8 U)):=by
 intro H x s Q ok hf k;unfold pu1 z8 at hf;have fin:∀T,kind x.d=T->(∀c f,x.d≠.obj c f)->Q (.bl (wvw T U)) H:=λT e ho=>by
  cases hx:x.d with
  |obj c f=>exact absurd hx (ho c f)|dct ab=>simp_all
  |_=>
   rw[hx]at hf;cases oq9 hf;rw[<-e,hx];exact k _ H rfl rfl wY
 cases hx:x.d with
 |non=>exact .inl ⟨x.v,"NoneType",U,rfl,by rw[vvs ok hx];exact .non,⋯,hU,fin _ (by rw[hx];rfl) (by simp_all)⟩|bl k=>exact .inl ⟨x.v,"bool",U,rfl,by rw[QY ok hx];exact .bl _,⋯,hU,fin _ (by rw[hx];rfl) (hx▸λ_ _ z=>nomatch z)⟩|int k=>exact .inl ⟨x.v,"int",U,rfl,by rw[kw ok hx];exact .int _,⋯,hU,fin _ (by rw[hx];rfl) (hx▸λ_ _ z=>nomatch z)⟩|str k=>exact .inl ⟨x.v,"str",U,rfl,by rw[(xQ ok hx).1];exact .str _,⋯,hU,fin _ (by rw[hx];rfl) (hx▸λ_ _ z=>nomatch z)⟩
 |lst ds=>
  obtain⟨l,xs,bs,e,q,r,_⟩:=items ok (.inl hx);have f:=fin "list" (by rw[hx];rfl) (hx▸λ_ _ z=>nomatch z);rcases q with⟨_,z⟩|⟨z,_⟩
  ·exact .inr (.inr ⟨l,xs,U,by rw[e],z.sq,hU,f⟩)
  ·simp_all
 |tup ds=>
  obtain⟨l,xs,bs,e,q,r,_⟩:=items ok (.inr hx);have f:=fin "tuple" (by rw[hx];rfl) (hx▸λ_ _ z=>nomatch z);rcases q with⟨z,_⟩|⟨_,z⟩
  ·simp_all
  ·exact .inr (.inl ⟨l,xs,U,by rw[e],z,hU,f⟩)
 |dct ab=>simp_all|obj c f=>simp_all
theorem XV{U y p2}(ha:QV X Z q a ea)(hm:X.mg "isinstance"=none)(hmy:X.mg y=none)(hy:bootBuiltins y=some (.type U))(hK:X.K=Z.K)(hU:autoParam (U∈kinds.tail) ŕ)(hg:autoParam (Gl X "isinstance") Ŕ)(hgy:autoParam (Gl X y) Ŕ)(hny:autoParam (y≠"__name__") ŕ)(hdy:autoParam ((y==("__debug__":Str))=false) ŕ)
  (he:autoParam (starEach [ea,.Name y p2] X.env=(false,eval ea X.env)::starEach [.Name y p2] X.env) Ŕ) (he2:autoParam (starEach [.Name y p2] X.env=(false,eval (.Name y p2) X.env)::starEach [] X.env) Ŕ) (cg:autoParam ((backTo pos (starEach [.Name y p2] X.env)).any (·.1)=false) Ŕ):
  QE X Z q (cF1 (pu1 (z8 U)) a) (.Call (.Name "isinstance" p) [ea,.Name y p2] [] pos):=
 kZ (qk1 (vj5 hK) hg hm kvl (vw ha (vw (vxo (v:=.ty U) hgy hmy hy rfl hny hdy) vQ he2) he) ⋯ ⋯ he cg) fun σ H Q h=>WV (wwu hU) h
theorem kxp:Ad1 K (λv H Q=>qw8 [v] H Q) (pu1 J5):=by
 intro H x s Q ok hf k;unfold pu1 J5 at hf;dsimp only at hf
 split at hf
 ·rename_i i e;cases oq9 hf;exact .inl ⟨i,by rw[kw ok e],k ⟨.dp,.int _,.int _,[]⟩ H rfl rfl Kx⟩
 ·rename_i i e;cases oq9 hf;exact .inr (.inl ⟨i,by rw[QY ok e],k ⟨.dp,.int _,.int _,[]⟩ H rfl rfl Kx⟩)
 ·rename_i z e
  split at hf
  ·rename_i hz;cases ht:PySem.intText? z with
   |none=>rw[ht]at hf;cases hf
   |some n=>
    rw[ht]at hf;cases oq9 hf;exact .inr (.inr ⟨z,n,by rw[(xQ ok e).1],ht,hz,k ⟨.dp,.int _,.int _,[]⟩ H rfl rfl Kx⟩)
  ·cases hf
 ·cases hf
theorem qj4:Ad1 K (λv H Q=>qw6 K [v] H Q) V6:=by
 intro H x s Q ok hf k;unfold V6 at hf;dsimp only at hf
 split at hf
 ·rename_i ds e
  split at hf
  ·rename_i hl;cases oq9 hf;obtain⟨l,xs,bs,ev,q3,r3,h3⟩:=zY ok (.inl e) hl;have q3:LsR K H l xs:=by rcases q3 with⟨_,z⟩|⟨z,_⟩;exact z;rw[e]at z;cases z
   exact⟨l,xs,by rw[ev],.inl (zQ q3),λp hp=>k _ _ rfl rfl (J8 hp r3 h3)⟩
  ·cases hf
 ·rename_i ds e
  split at hf
  ·rename_i hl;cases oq9 hf;obtain⟨l,xs,bs,ev,q3,r3,h3⟩:=zY ok (.inr e) hl;have q3:SqT K H l xs:=by rcases q3 with⟨z,_⟩|⟨_,z⟩;rw[e]at z;cases z;exact z
   exact⟨l,xs,by rw[ev],.inr q3,λp hp=>k _ _ rfl rfl (J8 hp r3 h3)⟩
  ·cases hf
 ·cases hf
noncomputable def qjo(K:Frag):List V->Hp->VK->Prop:=λxs H Q=>∃p ys,xs=[.ref p]/\((SqL K H p ys/\∀l,H l=none->Q (.ref l) (upd H l (.tup ys)))\/(SqT K H p ys/\Q (.ref p) H))
theorem vj7(hK:X.K=K):CallR X (.type "tuple") (qjo K):=by subst hK;exact kvj
theorem vqw:Ad1 K (λv H Q=>qjo K [v] H Q) xz:=by
 intro H x s Q ok hf k;unfold xz at hf;dsimp only at hf
 split at hf
 ·rename_i ds e
  split at hf
  ·rename_i hl;cases oq9 hf;obtain⟨l,xs,bs,ev,q3,r3,h3⟩:=zY ok (.inl e) hl;have q3:LsR K H l xs:=by rcases q3 with⟨_,z⟩|⟨z,_⟩;exact z;rw[e]at z;cases z
   exact⟨l,xs,by rw[ev],.inl ⟨zQ q3,λp hp=>k _ _ rfl rfl (kjk hp r3 h3)⟩⟩
  ·cases hf
 ·rename_i ds e
  split at hf
  ·rename_i hl;cases oq9 hf;obtain⟨l,xs,bs,ev,q3,r3,h3⟩:=zY ok (.inr e) hl;have q3:SqT K H l xs:=by rcases q3 with⟨z,_⟩|⟨_,z⟩;rw[e]at z;cases z;exact z
   refine⟨l,xs,by rw[ev],.inr ⟨q3,k ⟨.no,.tup ds,.ref l,bs⟩ H rfl rfl ⟨x8,?_,λb hb=>(nomatch hb),Y8,λb hb=>h3 b hb⟩⟩⟩;show RepL K H true _ _ bs;exact⟨l,xs,rfl,q3,r3⟩
  ·cases hf
 ·cases hf
theorem vjc{g}:∀x y s,pu2 (c2 g) x y=some s->∃k,s.2=.bl k:=by
 intro x y s h;unfold pu2 c2 at h
 split at h
 ·grind
 ·grind
theorem KJ:∀x y s,pu2 fEq x y=some s->∃k,s.2=.bl k:=by
 intro x y s h;unfold pu2 fEq at h
 split at h
 ·grind
 ·grind
theorem vqt:∀x y s,pu2 fNe x y=some s->∃k,s.2=.bl k:=by
 intro x y s h;unfold pu2 fNe at h
 split at h
 ·grind
 ·grind
theorem vw4{x y d}(h:fIn x y=some d):∃k,d=.bl k:=by
 unfold fIn at h
 split at h
 ·split at h
  ·cases oq9 h;exact⟨_,rfl⟩
  ·cases h
 ·split at h
  ·cases oq9 h;exact⟨_,rfl⟩
  ·cases h
 ·split at h
  ·grind
  ·grind
 ·grind
 ·grind
theorem vqu:∀x y s,pu2 K9 x y=some s->∃k,s.2=.bl k:=by
 intro x y s h;unfold pu2 K9 at h
 split at h
 ·grind
 ·cases hf:fIn x.2 y.2 with
  |none=>grind
  |some d=>
   rw[hf]at h;cases oq9 h;exact vw4 hf
theorem kvm:∀x y s,pu2 zK x y=some s->∃k,s.2=.bl k:=by
 intro x y s h;unfold pu2 zK Vv at h
 split at h
 ·grind
 ·cases hf:fIn x.2 y.2 with
  |none=>rw[hf]at h;cases h
  |some d=>
   obtain⟨k,rfl⟩:=vw4 hf;rw[hf]at h;cases oq9 h;exact⟨_,rfl⟩
theorem W1:∀x y s,f2First fIsNon x y=some s->∃k,s.2=.bl k:=by
 intro x y s h;unfold f2First fIsNon at h
 split at h
 ·grind
 ·grind
theorem vjb:∀x y s,f2First fNotNon x y=some s->∃k,s.2=.bl k:=by
 intro x y s h;unfold f2First fNotNon at h
 split at h
 ·grind
 ·grind
theorem qj7:∀{xs us},xs.length=us.length->(∀(i:Nat) (x) (u),xs[i]?=some x->us[i]?=some u->RelV x u)->Vals xs us
 |[],[],_,_=>.nil|[],_::_,h,_=>by simp_all|x::xs,u::us,h,f=>.cons (f 0 x u (by simp) (by simp)) (qj7 (by simpa using h) λi x u e1 e2=>f (i+1) x u (by simpa using e1) (by simpa using e2))
theorem wqn{p2 cu}(ha:QV X Z q a ea)(hmr:X.mg "range"=none)(hgr:Gl X "range")(b6:starEach [ea] X.env=(false,eval ea X.env)::starEach [] X.env)(cg:(backTo cu (starEach [] X.env)).any (·.1)=false):PE X (.Call (.Name "range" p2) [ea] [] cu) (fun σ H Q=>tV Z q a σ H λv H1=>∃j,v=.int j/\∀pp,H1 pp=none->Q (.ref pp) (upd H1 pp (.rng 0 j))):=by
 intro a7 s σ H Q I h;refine Call_ (zq I hgr hmr boot_range (Y1 (thn (vw ha vQ b6 cu a7 s σ H (λvs H1=>∃j,vs=[.int j]/\∀pp,H1 pp=none->Q (.ref pp) (upd H1 pp (.rng 0 j))) I ?_) λus s1 ⟨vs,H1,I1,r1,j,e,q1⟩=>?_) b6 cg))
 ·grind
 ·subst e;obtain⟨u,rfl,t,rfl⟩:=r1.one;refine call_range_1 ⟨.ref s1.heap.objs.size,_,I1.laid (o:=.rng 0 j) (λb o e=>X1 _ e) (X7 _) ⟨_,_,_,X6 _ rfl⟩,rfl,q1 _ I1.fresh⟩
theorem vwz{K H}(ns:List Nat):RepA K H true (ns.map λ(i:Nat)=>D.int (0+i)) (ns.map λ(i:Nat)=>V.int (0+i)) []:=by
 induction ns with
 |nil=>unfold RepA;exact⟨rfl,rfl⟩
 |cons i ns ih=>
  unfold RepA;exact⟨_,_,[],[],rfl,rfl,wW,ih⟩
theorem vjp{n}{af:Array Value}(hs:af.size=n)(hg:∀(i:Nat) u,af[i]?=some u->∃t,u=.int (0+i*1) t):Vals ((List.range n).map λ(i:Nat)=>V.int (0+i)) af.toList:=qj7 (by simp[hs]) λi x u ex eu=>by
 rw[Xp]at eu;obtain⟨t,rfl⟩:=hg i u eu;rw[Xi]at ex;obtain⟨m,hr,rfl⟩:=Option.map_eq_some_iff.mp ex;obtain⟨_,h2⟩:=List.getElem?_eq_some_iff.mp hr;rw[List.getElem_range]at h2;subst h2;exact⟨t,by rw[Int.mul_one]⟩
theorem qwi{p2 cu}(ha:QV X Z q a ea)(hmr:X.mg "range"=none)(hml:X.mg "list"=none)(hc:autoParam (X.calm=true) Ŕ)(hgr:autoParam (Gl X "range") Ŕ)(hgl:autoParam (Gl X "list") Ŕ)
  (b6:autoParam (starEach [ea] X.env=(false,eval ea X.env)::starEach [] X.env) Ŕ) (cg:autoParam ((backTo cu (starEach [] X.env)).any (·.1)=false) Ŕ)
  (ur:autoParam (starEach [.Call (.Name "range" p2) [ea] [] cu] X.env=(false,eval (.Call (.Name "range" p2) [ea] [] cu) X.env)::starEach [] X.env) Ŕ) (hpl2:autoParam ((backTo pos (starEach [] X.env)).any (·.1)=false) Ŕ):
  QE X Z q (Qw a) (.Call (.Name "list" p) [.Call (.Name "range" p2) [ea] [] cu] [] pos):=by
 intro a7 s σ H Q I ⟨E,L,r,m,w,gy,xc,k⟩;refine Yx (zq I hgl hml Wk (Y1 (thn (vw (wqn ha hmr hgr b6 cg) vQ ur pos a7 s σ H (λvs H1=>∃pp j,vs=[.ref pp]/\H1 pp=some (.rng 0 j)/\z7 j=true/\j.toNat<=big/\∀l,H1 l=none->Q (.ref l) (upd H1 l (.lst ((List.range j.toNat).map λ(i:Nat)=>V.int (0+(i)))))) I ?_) λus s1 ⟨vs,H1,I1,r1,pp,j,e,hp,h62,oh,q1⟩=>?_) ur hpl2))
 ·refine v6 m w (show bnd (a E) _=some r from gy) xc λE1 s h1 x L1 H1 e1 e2 m1 w1 ok fr sr st sm=>?_
  cases hx:s.2 with
  | int j=>
   rw[hx]at h1;dsimp only at h1
   split at h1
   ·rename_i hj;cases oq9 h1;refine⟨j,kw ok (e2.trans hx),λpp hpp=>⟨pp,j,rfl,x6,hj.1,hj.2,λl hl=>?_⟩⟩;have s1:jY H1 (upd H1 pp (.rng 0 j)):=vJ hpp;have w2:World Z.K (upd H1 pp (.rng 0 j)) L1:=⟨λx hx=>RepO.kp (w1.ok x hx) (Kp.of_same s1),w1.nd,w1.ds⟩;have o:=J8 (K:=Z.K) (H:=upd H1 pp (.rng 0 j)) (fr:=[]) hl (vwz (List.range j.toNat)) (λ_ z=>(nomatch z));obtain⟨w3,dg⟩:=KY w2 (st.trans ⟨λb ob z _=>s1 b ob z,λb z=>.inl z,λb z=>.inl z⟩) o (λ_ z=>(nomatch z)) (λ_ z=>(nomatch z)) (λ_ z=>(nomatch z));refine k _ _ rfl ⟨.rt,.lst (jW 0 j),.ref l,[l]⟩ L1 _ rfl rfl m1 (by simpa [jW]using w3) (by simpa [jW]using dg) λhq=>⟨kQ (sm hq) (kQ s1 o.same),λb hb=>?_⟩
    have:b=l:=by simpa [Sl.own]using hb
    subst this;exact Jw (kQ (sm hq) s1) hl
   ·cases h1
  |_=>rw[hx]at h1;cases h1
 ·subst e;obtain⟨u,rfl,rx⟩:=r1.one;cases rx;obtain⟨t1,t2,t3,hg⟩:=(show ObjOk X.prog X.w H1 s1.heap pp (.rng 0 j)from I1.hok pp _ hp);obtain⟨j1,j2⟩:=jxx h62;have e2:Builtin.Range.rangeSize 0 j 1=((j.toNat:Nat):Int):=by rw[rangeSize_one];split<;>lia
  refine call_list_range (n:=j.toNat) (I1.ok.hd hc) (show IsRange s1.heap pp 0 j 1 t1 t2 t3 from hg) (small_one ⋯ ⋯ j1 j2) e2 oh λh' tk dm c' kp e4 f9=>?_
  obtain⟨hs,mf⟩:=f9;refine⟨.ref s1.heap.objs.size,_,I1.laid (a:=s1.heap.objs.size) (o:=.lst ((List.range j.toNat).map λ(i:Nat)=>V.int (0+(i)))) (t':=tk) kp (X7 _) ⟨by rw[X4,Y5];exact oh,dm.toList,c',vjp hs mf,by simpa using e4⟩,rfl,q1 _ I1.fresh⟩
end
end Q
namespace Q
open PySem
noncomputable def V4(n d:Nat):Option Int->Nat
 |none=>d|some v=>if v<0 then(v+(n:Int)).toNat else min v.toNat n
noncomputable def Jx(xs:List D)(lo hi:Option Int):List D:=(xs.drop (V4 xs.length 0 lo)).take (V4 xs.length xs.length hi - V4 xs.length 0 lo)
noncomputable def fSl:Sd->Option Int->Option Int->Option Sd:=λx lo hi=>match x.2 with
 |.lst xs=>if qz x then some (.rt,.lst (Jx xs lo hi))else none|.tup xs=>if qz x/\¬(V4 xs.length 0 lo=0/\V4 xs.length xs.length hi=xs.length)then some (.no,.tup (Jx xs lo hi))else none|.str z=>if(Txt.slice z lo hi).length<=big then some (.dp,.str (Txt.slice z lo hi))else none|_=>none
noncomputable def QQ:Option Ex->Ev (Option Int)
 |none,E=>some (.ok E none)
 |some c,E=>bnd (c E) λE x=>match x.2 with
  |.int i=>some (.ok E (some i))|_=>none
noncomputable def cSl(a:Ex)(lo hi:Option Ex):Ex:=λE=>bnd (a E) λE x=>bnd (QQ lo E) λE l=>bnd (QQ hi E) λE h=>val E (fSl x l h)
noncomputable def xk:Nat->List D->List D
 |_,[]=>[]|k,d::ds=>.tup [.int k,d]::xk (k+1) ds
noncomputable def qv:List D->List D->List D
 |a::x,b::y=>.tup [a,b]::qv x y|_,_=>[]
def lstOf:D->Option (List D)
 |.lst xs=>some xs|_=>none
noncomputable def wxa(c:Ex):Ev (List D):=λE=>bnd (c E) λE x=>val E ((lstOf x.2).map (xk 0))
noncomputable def J7:List D->Option (List Str)
 |[]=>some []|.str z::ds=>(J7 ds).map (z :: ·)|_=>none
noncomputable def J6(a:Str):List Str->List Str
 |[]=>[a]|b::r=>if Spec.ltCps b.cps.toList a.cps.toList then b::J6 a r else a::b::r
def wX:List Str->List Str
 |[]=>[]|a::r=>J6 a (wX r)
noncomputable def ZW:D->D->Option D:=λxs x=>match xs with
 |.lst ys=>if x.flat 30&&D.flats 30 ys then(ys.findIdx? λz=>peq z x).map λ(j:Nat)=>D.int (j:Int)else none|.tup ys=>if x.flat 30&&D.flats 30 ys then(ys.findIdx? λz=>peq z x).map λ(j:Nat)=>D.int (j:Int)else none|_=>none
def isSq:D->Bool
 |.lst _=>true|.tup _=>true|_=>false
noncomputable def K3(a b:Ex):Ex:=λE=>bnd (a E) λE x=>if isSq x.2 then bnd (b E) λE y=>val E (pu2 ZW x y)else none
noncomputable def Ww(i:Nat)(c:Ex):Ex:=λE=>if Q9 E[i]? then bnd (c E) λE x=>match E[i]?,x.2 with
 | some (some (o,.lst xs)),.int k=>if o=.no then none else(match ixN xs.length k with
  |some j=>(match xs[j]? with
   |some d=>if d.pure&&z7 k then some (.ok (E.set i (some (o,.lst (xs.eraseIdx j)))) (.dp,d))else none
   |none=>none)
  |none=>none)
 |_,_=>none
 else none
noncomputable def kxg(f:Fn)(cs:List Ex):Ex:=λE=>bnd (vW cs E) λE xs=>match f (letAll xs)with
 |some (.ok _ y)=>if y.2.pure then some (.ok E (.dp,y.2))else none|some (.exc _ c)=>some (.exc E c)|none=>none
noncomputable def zj:Sd->Sd->Option Sd:=λx y=>match x.2,y.2 with
 |.tup a,.int k=>if -(2 ^ 63)<=k/\k<2 ^ 63/\a.length*k.toNat<=big/\qz x then some (.no,.tup (List.replicate k.toNat a).flatten)else none|_,_=>ZV x y
noncomputable def Zv:Option (Option Sd)->Bool
 |some (some (.rt,.dct _))=>true|_=>false
noncomputable def wk8(i:Nat)(kc vc:Ex):Sm:=λE=>ofE (vc E) λE v=>if Q9 E[i]?=true then ofE (kc E) λE k=>match E[i]?,k.2 with
 |some (some (o,.lst xs)),.int j=>if o=.no then none else(match ixN xs.length j with
  |some n=>some (.nx (E.set i (some (.rt,.lst (xs.set n v.2)))))
  |none=>none)
 |_,_=>none
 else none
def mkD:D×D:=(.str "",.non)
noncomputable def v9(kv:List (Int×Int)):D:=.dct (mkD::kv.map λp=>(.int p.1,.int p.2))
noncomputable def QZ : List (D × D) -> Option (List (Int × Int))
  |[]=>some []|(.int k,.int v)::r=>(QZ r).map ((k,v):: ·)|_=>none
noncomputable def z6:D->Option (List (Int×Int)):=λd=>match d with
 |.dct ((.str _,.non)::ab)=>QZ ab|_=>none
noncomputable def k6(kv:List (Int×Int))(k:Int):Option Int:=(kv.find? λp=>decide (p.1=k)).map (·.2)
noncomputable def qQ(kv:List (Int×Int))(k v:Int):List (Int×Int):=if(kv.any λp=>decide (p.1=k))=true then kv.map (λp=>if p.1=k then(p.1,v)else p)else kv++[(k,v)]
def wj1:Ex:=λE=>some (.ok E (.rt,v9 []))
noncomputable def V8:D->D->Option D:=λx y=>match x,z6 y with
 |.int k,some kv=>some (.bl (k6 kv k).isSome)|_,_=>none
noncomputable def kk4:D->D->Option D:=λx y=>match x,z6 y with
 |.int k,some kv=>some (.bl (!(k6 kv k).isSome))|_,_=>none
noncomputable def ww9:D->D->Option D:=λy x=>match x,z6 y with
 |.int k,some kv=>(k6 kv k).map .int|_,_=>none
noncomputable def wx1(a b:Ex):Ex:=λE=>bnd (a E) λE x=>bnd (b E) λE y=>val E ((ww9 x.2 y.2).map λd=>(.dp,d))
noncomputable def qzk:D->D->D->Option D:=λy x e=>match x,e,z6 y with
 |.int k,.int z,some kv=>some (.int ((k6 kv k).getD z))|_,_,_=>none
def Zz(d:D):Bool:=(z6 d).isSome
noncomputable def vjs(a b c:Ex):Ex:=λE=>bnd (a E) λE x=>if Zz x.2=true then bnd (b E) λE y=>bnd (c E) λE z=>val E ((qzk x.2 y.2 z.2).map λd=>(.dp,d))else none
noncomputable def vk4(i:Nat)(kc vc:Ex):Sm:=λE=>ofE (vc E) λE v=>if Zv E[i]?=true then ofE (kc E) λE k=>match E[i]?,k.2,v.2 with
 |some (some (.rt,d)),.int a,.int b=>(match z6 d with
  |some kv=>if kv.length<big then some (.nx (E.set i (some (.rt,v9 (qQ kv a b)))))else none
  |none=>none)
 |_,_,_=>none
 else none
noncomputable def Qz:List D->Option (List (Int×Int))
 |[]=>some []|.tup [.int a,.int b]::r=>(Qz r).map ((a,b):: ·)|_=>none
noncomputable def VJ:Sd->Option Sd:=λx=>match x.2 with
 |.lst ds=>(match Qz ds with
  |some ps=>if ps.length<big then some (.rt,v9 (ps.foldl (λkv p=>qQ kv p.1 p.2) []))else none
  |none=>none)
 |_=>none
noncomputable def qzj(z:Str):D->Option D:=λd=>match d with
 |.lst ds=>(match J7 ds with
  |some ys=>if(ys.map (·.length)).sum+ys.length*z.length<=100000 then some (.str (Txt.join z ys))else none
  |none=>none)
 |_=>none
noncomputable def vqq(z:Str)(c:Ex):Ex:=λE=>bnd (c E) λE x=>val E ((qzj z x.2).map λd=>(.dp,d))
def vjw:D->Option (List D)
 |.tup xs=>some xs|_=>none
noncomputable def qz1(c:Ex):Ev (List D):=λE=>bnd (c E) λE x=>val E ((vjw x.2).map (xk 0))
noncomputable def itV(i:Nat):Ev (List D):=λE=>match E[i]? with
 |some (some (_,.lst ds))=>if D.pures ds=true then some (.ok E ds)else none|_=>none
noncomputable def ZY(i:Nat):Sm:=λE=>match E[i]? with
 |some (some (.rt,.lst ds))=>some (.nx (E.set i (some (.rt,.lst ds.reverse))))|_=>none
end Q
namespace Q
open PySem PySem.Spec PyProof.Rows L2 L3
section
variable {X:Cx}{Z:Fx0}{K:Frag}{pn:List Nat}{q qa qb:Bool}{a b c:Ex}{u:Ts}{tg e ea eb:Expr}{st:Stmt}{σ:L2.St}{H:Hp}{L:Ls}{E:En}{pos p p2:Pos}{x:Str}
theorem kk0(a):∀r,(J6 a r).Perm (a::r)
 |[]=>List.Perm.refl _
 |b::r=>by
  unfold J6
  split
  ·exact((kk0 a r).cons b).trans (List.Perm.swap ..)
  ·simp_all
theorem jv8:∀r,(wX r).Perm r
 |[]=>List.Perm.refl _|a::r=>(kk0 a _).trans ((jv8 r).cons a)
noncomputable def leS(a b:Str):Prop:=Spec.ltCps b.cps.toList a.cps.toList=false
theorem leS_iff{a b}:leS a b↔a.cps.toList<=b.cps.toList:=by
 unfold leS;rw[ltCps_eq,decide_eq_false_iff_not,List.not_lt]
theorem kwm{a b c}(h:leS a b)(h':leS b c):leS a c:=leS_iff.mpr (List.le_trans (leS_iff.mp h) (leS_iff.mp h'))
theorem vq0{a b}(h:leS a b)(h':leS b a):a=b:=by
 have:=List.le_antisymm (leS_iff.mp h) (leS_iff.mp h');cases a
 simp_all
theorem qxq{a b}(h:¬leS a b):leS b a:=by
 rw[leS_iff]at h ⊢;exact List.le_of_lt (List.not_le.mp h)
theorem kw7:∀{a r},risingS a r=true->(a::r).Pairwise leS
 |a,[],_=>by simp
 |a,b::r,h=>by
  have h:(!_&&risingS b r)=true:=h;rw[Bool.and_eq_true,Bool.not_eq_true']at h;have ih:=kw7 h.2;refine List.pairwise_cons.mpr ⟨λc hc=>?_,ih⟩;rcases aD hc with rfl|hc
  ·exact h.1
  ·exact kwm h.1 ((List.pairwise_cons.mp ih).1 c hc)
theorem qvp{r}(h:sortedS r=true):r.Pairwise leS:=by
 cases r with|nil=>exact .nil|cons a r=>exact kw7 h
theorem qz5{a}:∀{r},r.Pairwise leS->(J6 a r).Pairwise leS
 | [],_=>by simp[J6]
 | b::r,h=>by
  rw[List.pairwise_cons]at h;unfold J6
  by_cases hl:Spec.ltCps b.cps.toList a.cps.toList=true
  ·rw[X9 hl];refine List.pairwise_cons.mpr ⟨λc hc=>?_,qz5 h.2⟩;rcases aD ((kk0 a r).mem_iff.mp hc)with rfl|hc
   ·exact qxq (by unfold leS;rw[hl];exact λz=>nomatch z)
   ·simp_all
  ·rw[Xb hl];have lz:leS a b:=Bool.eq_false_iff.mpr hl;refine List.pairwise_cons.mpr ⟨λc hc=>?_,List.pairwise_cons.mpr h⟩;rcases aD hc with rfl|hc
   ·simp_all
   ·exact kwm lz (h.1 c hc)
theorem qjg:∀{r},(wX r).Pairwise leS
 |[]=>.nil|a::r=>qz5 qjg
theorem vjz{r s}(p:s.Perm r)(h:sortedS s=true):s=wX r:=
 List.Perm.eq_of_pairwise (λa b _ _ h1 h2=>vq0 h1 h2) (qvp h) qjg (p.trans (jv8 r).symm)
theorem qq6{ns}:∀{us},Vals (ns.map V.str) us->StrsAre us ns:=by
 induction ns with
 | nil=>intro us r;cases r;exact .nil
 | cons n ns ih=>
  intro us r;cases r with
  |cons r1 r2=>
   obtain⟨t,e⟩:=r1;subst e;exact .cons n t (ih r2)
theorem qvf{us ns}(h:StrsAre us ns):Vals (ns.map V.str) us:=by
 induction h with|nil=>exact .nil|cons y t _ ih=>exact .cons ⟨t,rfl⟩ ih
theorem qvg{us ns}(h:IntsAre us ns):Vals (ns.map V.int) us:=by
 induction h with|nil=>exact .nil|cons y t _ ih=>exact .cons ⟨t,rfl⟩ ih
theorem kqi{g}:∀{ds bs xs as},J7 ds=some bs->RepA K H g ds xs as->xs=bs.map V.str/\∀z∈bs,z.length<=sizeLine
 | [],bs,xs,as,h,r=>by
  cases oq9 h;unfold RepA at r
  simp_all
 | d::ds,bs,xs,as,h,r=>by
  cases d with
  | str b=>
   unfold J7 at h;cases hb:J7 ds with
   |none=>grind
   |some i7=>
    rw[hb]at h;cases oq9 h;obtain⟨x,rr,c1,c2,rfl,rfl,h1,h2⟩:=r;unfold RepL at h1;obtain _:=kqi hb h2
    simp_all
  |_=>unfold J7 at h;cases h
theorem qjj{g}:∀{bs:List Str},(∀z∈bs,z.length<=sizeLine)->RepA K H g (bs.map D.str) (bs.map V.str) []
 |[],_=>⟨rfl,rfl⟩
 |b::bs,h=>by
  unfold RepA;exact⟨_,_,[],[],rfl,rfl,VW (h b X5),qjj λz hz=>h z (lc9 _ hz)⟩
theorem qjk{g}:∀{bs:List Int},RepA K H g (bs.map D.int) (bs.map V.int) []
 |[]=>⟨rfl,rfl⟩
 |b::bs=>by
  unfold RepA;exact⟨_,_,[],[],rfl,rfl,wW,qjk⟩
noncomputable def tPo(Z:Fx0):Option Ex->TO
 |none=>qvl|some c=>wjw (tV Z true c)
theorem vk9:PO X none (tPo Z none):=vxf
theorem YW(h:QV X Z true c e):PO X (some e) (tPo Z (some c)):=vxe h
theorem qwr{α co F}{r:Res α}{G}(m:Mt E σ L)(w:World Z.K H L)(h:bnd (QQ co E) F=some r)(xc:Xc Z σ H L r)
  (k:∀E1 l,F E1 l=some r->∀L1 H1,Mt E1 σ L1->World Z.K H1 L1->Step H L H1 L1->jY H H1->G l H1):tPo Z co σ H G:=by
 cases co with
 | none=>exact k E none h L H m w Step.refl x8
 | some c=>
  have h:bnd (bnd (c E) λE x=>match x.2 with|.int i=>some _|_=>none) F=some r:=h;have h':bnd (c E) (λE x=>bnd (match x.2 with|.int i=>some (.ok E (some i))|_=>none) F)=some r:=by
   cases hc:c E with|none=>rw[hc]at h;exact h|some y=>rw[hc]at h;cases y<;>exact h
  show tV Z true c σ H λx H1=>∃i,x=.int i/\G (some i) H1
  refine v6 m w h' xc λE1 s h1 x L1 H1 e1 e2 m1 w1 ok fr sr st sm=>?_
  cases hs:s.2 with
  |int i=>
   rw[hs]at h1;exact⟨i,kw ok (e2.trans hs),k E1 _ h1 L1 H1 m1 w1 st (sm rfl)⟩
  |_=>rw[hs]at h1;cases h1
theorem RepA.drop{K H g}:∀n {ds xs as},RepA K H g ds xs as->∃bs,RepA K H g (ds.drop n) (xs.drop n) bs/\∀b∈bs,b∈as
 |0,ds,xs,as,h=>⟨as,h,λ_ h=>h⟩
 |n+1,[],xs,as,h=>by
  obtain⟨rfl,rfl⟩:=h;exact⟨[],⟨rfl,rfl⟩,λ_ h=>h⟩
 |n+1,d::ds,xs,as,h=>by
  obtain⟨x,r,bs,cs,rfl,rfl,h1,h2⟩:=h;obtain⟨es,r2,hb⟩:=RepA.drop n h2;exact⟨es,r2,λb h=>lr9 _ (hb b h)⟩
theorem RepA.take{K H g}:∀n {ds xs as},RepA K H g ds xs as->∃bs,RepA K H g (ds.take n) (xs.take n) bs/\∀b∈bs,b∈as
 |0,ds,xs,as,h=>⟨[],⟨rfl,rfl⟩,λ_ h=>nomatch h⟩
 |n+1,[],xs,as,h=>by
  obtain⟨rfl,rfl⟩:=h;exact⟨[],⟨rfl,rfl⟩,λ_ h=>h⟩
 |n+1,d::ds,xs,as,h=>by
  obtain⟨x,r,bs,cs,rfl,rfl,h1,h2⟩:=h;obtain⟨es,r2,hb⟩:=RepA.take n h2;refine⟨bs++es,?_,λb h=>(aA h).elim (λz=>ll9 _ z) λz=>lr9 _ (hb b z)⟩;unfold RepA;exact⟨x,r.take n,bs,es,rfl,rfl,h1,r2⟩
theorem RepA.cut{K H g ds xs as}(h:RepA K H g ds xs as)(lo hi):∃bs,RepA K H g (Jx ds lo hi) (WY xs lo hi) bs/\∀b∈bs,b∈as:=by
 unfold Jx WY;rw[<-h.len];obtain⟨bs,r,hb⟩:=h.drop _;obtain⟨cs,r2,hc⟩:=r.take _;exact⟨cs,r2,λb h=>hb b (hc b h)⟩
theorem vws{x:Sl}{s lo hi Q}(ok:x.ok K H)(hf:fSl (x.o,x.d) lo hi=some s)(k:∀z H',z.o=s.1->z.d=s.2->Out K H H' z x.frz->Q z.v H'):vv7 K x.v lo hi H Q:=by
 unfold fSl at hf;cases hx:x.d with
 | lst ds=>
  rw[hx]at hf;dsimp only at hf
  split at hf
  ·rename_i hl;cases oq9 hf;obtain⟨l,xs,bs,ev,q3,r3,h3⟩:=zY ok (.inl hx) (hx▸hl);have q3:LsR K H l xs:=by rcases q3 with⟨_,z⟩|⟨z,_⟩;exact z;rw[hx]at z;cases z
   obtain⟨cs,r4,h4⟩:=r3.cut lo hi;exact .inl ⟨l,xs,ev,zQ q3,λp hp=>k _ _ rfl rfl (J8 hp r4 λb hb=>h3 b (h4 b hb))⟩
  ·cases hf
 | tup ds=>
  rw[hx]at hf;dsimp only at hf
  split at hf
  ·rename_i hl;cases oq9 hf;obtain⟨l,xs,bs,ev,q3,r3,h3⟩:=zY ok (.inr hx) (hx▸hl.1);have q3:SqT K H l xs:=by rcases q3 with⟨z,_⟩|⟨_,z⟩;rw[hx]at z;cases z;exact z
   obtain⟨cs,r4,h4⟩:=r3.cut lo hi;refine .inr (.inl ⟨l,xs,ev,q3,?_,λp hp=>k _ _ rfl rfl (kjk hp r4 λb hb=>h3 b (h4 b hb))⟩);rw[<-r3.len];exact hl.2
  ·cases hf
 | str z=>
  rw[hx]at hf;dsimp only at hf
  split at hf
  ·rename_i hl;cases oq9 hf;obtain⟨e,hz⟩:=xQ ok hx;exact .inr (.inr ⟨z,e,hz,k _ H rfl rfl (wzi hl)⟩)
  ·cases hf
 |_=>simp_all
theorem wkr{lo hi elo ehi}(ha:QV X Z q a ea)(hl:PO X elo (tPo Z lo))(hh:PO X ehi (tPo Z hi))(hK:autoParam (X.K=Z.K) Ŕ):QE X Z q (cSl a lo hi) (.Subscript ea (.Slice elo ehi none p2) pos):=
 kZ (vkh (wxq Z.K hK) ha hl hh) fun σ H Q aj=>ex8 aj λE L r m w hc xc k=>by
  refine v6 m w (hc) xc λE1 s h1 x L1 H1 e1 e2 m1 w1 ok fr sr st sm=>(qwr m1 w1 h1 (xc.step st) λE2 l h2 L2 H2 m2 w2 bu fb=>(qwr m2 w2 h2 (xc.step (st.trans bu)) λE3 u h3 L3 H3 m3 w3 dg sm3=>?_))
  obtain⟨z,hz,rfl⟩:=xK h3;have k1:=Vx ok fr bu fb;have k2:=Vx k1.1 k1.2 dg sm3;refine vws k2.1 (by rw[e1,e2];exact hz) λy H' ho hd o=>?_
  obtain⟨w4,fy⟩:=KY w3 ((st.trans bu).trans dg) o k2.2 (λb hb=>k2.1.some (Sl.frz_as hb)) (jx9 sr λb hb=>Sl.frz_as hb);have jo:=λhq=>kQ (sm hq) (kQ fb sm3)
  exact k _ _ rfl y L3 H' ho hd m3 w4 fy λhq=>⟨kQ (jo hq) o.same,λb hb=>Jw (jo hq) (o.new b hb)⟩
noncomputable def tAV(Z:Fx0)(cs:List Ex):TA:=fun σ H Q=>∃E L r,Mt E σ L/\World Z.K H L/\vW cs E=some r/\Xc Z σ H L r /\
 ∀E' ys,r=.ok E' ys->∀(xs:List Sl) L' H',xs.map Sl.sd=ys->Mt E' σ L'->World Z.K H' L'->(∀x∈xs,x.ok Z.K H')->Step H L H' L'->jY H H'->Q (xs.map Sl.v) H'
noncomputable def QAV(X:Cx)(Z:Fx0)(cs:List Ex)(es:List Expr):Prop:=PA X es (tAV Z cs)
theorem wz8:QAV X Z [] []:=kwc vQ fun σ H Q aj=>ex8 aj λE L r m w hc xc k=>by
 cases oq9 hc;exact k _ _ rfl [] L H rfl m w (λ_ z=>nomatch z) Step.refl x8
theorem wq5{cs:List Ex}{es:List Expr}(h:QV X Z true c e)(hs:QAV X Z cs es)(b6:autoParam (starEach (e::es) X.env=(false,eval e X.env)::starEach es X.env) Ŕ):QAV X Z (c::cs) (e::es):=
 kwc (vw h hs b6) fun σ H Q aj=>ex8 aj λE L r m w hc xc k=>by
  refine v6 m w (show bnd (c E) _=some r from hc) xc λE1 s h1 x L1 H1 e1 e2 m1 w1 ok fr sr st sm=>?_
  rcases x9 h1 with⟨E2,ys,h2,h3⟩|⟨E2,cc,h2,h3⟩
  ·cases oq9 h3;refine⟨E1,L1,_,m1,w1,h2,(λ_ _ z=>by cases z),λE' ys' z xs L2 H2 e3 m2 w2 i9 bu fb=>?_⟩;injection z with z1 z2;subst z1 z2;refine k _ _ rfl (x::xs) L2 H2 (by rw[List.map_cons,e3];simp[Sl.sd,e1,e2]) m2 w2 (λy hy=>?_) (st.trans bu) (kQ (sm rfl) fb);rcases aD hy with rfl|hy
   ·exact(Vx ok fr bu fb).1
   ·exact i9 y hy
  ·exact⟨E1,L1,_,m1,w1,h2,(xc.step st).map h3,λE' s' z=>by cases z⟩
theorem vx3{k n:Nat}{ps:List Str}{f:Fn}{cs:List Ex}{es:List Expr}(D:kz X.prog X.w X.K X.mg X.base k x ps (spF Z.K Z.mg n f))(hr:Room k X.A)(g:xw X Z.EX)(ha:QAV X Z cs (e::es))(hn:autoParam (cs.length=n) Ŕ)(hg:autoParam (Gl X x) Ŕ)(fq:autoParam ((x==("__debug__":Str))=false) ŕ)
  (he:autoParam (starEach (e::es) X.env=(false,eval e X.env)::starEach es X.env) Ŕ) (cg:autoParam ((backTo pos (starEach es X.env)).any (·.1)=false) Ŕ):
  QE X Z true (kxg f cs) (.Call (.Name x p) (e::es) [] pos):=kZ (vvo D hr g ha hg fq he cg) fun σ H Q aj=>ex8 aj λE L r m w hc xc kk=>by
 have hc:bnd (vW cs E) _=some r:=hc;rcases x9 hc with⟨E1,ys,h1,h2⟩|⟨E1,cc,h1,h2⟩
 rotate_left
 ·exact⟨E,L,_,m,w,h1,xc.map h2,λE' s' z=>by cases z⟩
 refine⟨E,L,_,m,w,h1,(λ_ _ z=>by cases z),λE' ys' z xs L1 H1 e1 m1 w1 ok1 st sm=>?_⟩;injection z with z1 z2;subst z1 z2;rw [Xv];have ah:xs.length=n:=by rw[<-hn,<-kka h1,<-e1,X4]
 cases hf:f (letAll ys)with
 | none=>rw[hf]at h2;cases h2
 | some fr=>
  rw[hf]at h2;have ev:xs.map Sl.v=(xs.map Sl.let).map Sl.v:=by rw[Xl];rfl
  have wl:World Z.K H1 ((xs.map Sl.let).map some):=by
   refine⟨λy hy=>?_,by rw[JV];exact Y8,λa ha=>by rw[JV]at ha;exact nomatch ha⟩;obtain⟨y',hy',e⟩:=aE hy;cases e;obtain⟨t,ht,rfl⟩:=aE hy';exact Kv (ok1 t ht)
  rw[ev];refine⟨xs.map Sl.let,fr,rfl,by rw[X4];exact ah,wl,by rw[<-e1]at hf;rw[qxm];exact hf,λE' c ee C H' hm s'=>?_,λE' a ee y H' e2 e3 w' s'=>?_⟩
  ·subst ee;cases oq9 h2;have o9:jY H1 H':=λb ob hb=>s'.keep b ob hb λz=>by rw[JV]at z;exact nomatch z
   exact xc _ _ rfl C L1 H' hm m1 ⟨λy hy=>RepO.kp (w1.ok y hy) (Kp.of_same o9),w1.nd,w1.ds⟩ (st.trans ⟨λb ob hb _=>o9 b ob hb,λ_ h=>.inl h,λ_ h=>.inl h⟩)
  ·subst ee;dsimp only at h2
   split at h2
   ·rename_i hp;cases oq9 h2;have o9:jY H1 H':=λb ob hb=>s'.keep b ob hb λz=>by rw[JV]at z;exact nomatch z
    have w2:World Z.K H' L1:=⟨λy hy=>RepO.kp (w1.ok y hy) (Kp.of_same o9),w1.nd,w1.ds⟩;obtain⟨z,rp⟩:=RepL.pu (g':=false) (RepO.wk (w'.ok y X5)) (by rw[e3];exact hp);have bu:Step H L H' L1:=st.trans ⟨λb ob hb _=>o9 b ob hb,λ_ h=>.inl h,λ_ h=>.inl h⟩;exact kk _ _ rfl ⟨.dp,y.d,y.v,[]⟩ L1 H' rfl e3 m1 (w2.consPu rp rfl) (K2 (x:=⟨.dp,y.d,y.v,[]⟩) bu (λb hb=>nomatch hb) rfl) λ_=>⟨kQ sm o9,λ_ z=>(nomatch z)⟩
   ·cases h2
end
theorem wjv{prog w A E s t items x}{e:Value->Bool}{j}{Q}
  (ht:IsTup s.heap t items) (he:∀y∈items,SeqAt.EqAt A.in1 s y x (e y)) (hj) (h1:e items[j]=true) (h2:∀m (hm:m<items.size),m<j->e items[m]=false)
  (h:Q (.int j s.toks) {s with toks:=s.toks+1}):wpAny (model prog w) A (call (.builtin "tuple.index") [.ref t,x]) Q E s:=by
 refine Xy PySem.F.slot_tuple_index ht.typeIs PySem.F.entry_tuple_index ?_ (PySem.F.args_tuple_index_2 _ _);show wpAny _ _ (Builtin.Tuple.tupleItemsOf _ >>= _) _ _ s;refine X0 (tupleItemsOf_ ht ?_);dsimp only;refine X0 (X2 (X0 (X2 ?_)));rw[Std.Legacy.Range.forIn_eq_forIn_range'];refine X0 (Zi _ (λa8 b s'=>b=_/\s'=s/\∃k,k<=j/\a8=List.range' k (items.size - k)) _ ?_ ?_ _ _ ⟨rfl,rfl,0,Yf _,?_⟩)
 ·rintro i a8 b s' ⟨rfl,rfl,k,hk,hr⟩;obtain⟨n,hn⟩:∃n,items.size - k=n+1:=⟨items.size - k - 1,⋯⟩;rw[hn]at hr;injection hr with hi iq;subst hi;have hi:i<items.size:=⋯
  rw[show items[i]?=some items[i]from Xf hi];refine X0 (he items[i] (Array.getElem_mem hi) _ _ _ _ ?_)
  by_cases mi:i=j
  ·subst mi;rw[h1];exact X0 (X0 (wpAny_mkInt (X2 (X2 (X2 ⟨_,rfl,h⟩)))))
  ·rw[h2 i hi ⋯];refine X2 ⟨rfl,rfl,i+1,⋯,?_⟩
   grind
 ·rintro b s' ⟨rfl,rfl,k,hk,hr⟩
  grind
 ·simp
theorem wxt{prog w A E s l items k t}{Q}
  (ht:IsTup s.heap l items) (h:Q .notImplemented s):wpAny (model prog w) A (call (.builtin "int.__rmul__") [.int k t,.ref l]) Q E s:=by
 refine Xy PySem.F.slot_int_rmul (typeIs_int s k t) PySem.F.entry_int_rmul ?_ (PySem.F.args_int_rmul_2 _ _);obtain⟨o,e,c,n,hd⟩:=ht;show wpAny _ _ (asInt? _ >>= _) _ _ s;refine X0 (X0 (wpAny_load e ?_));rw[hd];exact X2 (X0 (Zb (X2 ⟨_,rfl,h⟩)))
theorem mulT{prog w A E s l items k t}{Q}
  (ht:IsTup s.heap l items) (h1:-(2 ^ 63)<=k) (h2:k<2 ^ 63) (hz:items.size*k.toNat<=sizeLine)
  (kt:(items.isEmpty=true\/k=1)->Q (.ref l) s)
  (hsz:(List.foldl (λx1 x2=>x1++x2) #[] (List.replicate k.toNat items)).size<=sizeLine)
  (gj:Q (.ref s.heap.objs.size) {s with heap:=s.heap.push {cls:=.type "tuple",data:=.seq (List.foldl (λx1 x2=>x1++x2) #[] (List.replicate k.toNat items))}})
  : wpAny (model prog w) A (call (.builtin "tuple.__mul__") [.ref l,.int k t]) Q E s:=by
 refine Xy PySem.F.slot_tuple_mul ht.typeIs PySem.F.entry_tuple_mul ?_ (PySem.F.args_tuple_mul_2 _ _);show wpAny _ _ (if _=true then _ else _) _ _ s;rw[Xb ⋯];refine X0 (tupleItemsOf_ ht ?_)
 by_cases hs:(items.isEmpty||k==1)=true
 ·rw[X9 hs];refine X0 (X0 (wpAny_typeOf ht.typeIs (X2 (X0 (Zb (X2 ⟨_,rfl,kt ?_⟩))))))
  simpa using hs
 ·rw[Xb hs];have cw:items.isEmpty=false:=by
   grind
  have hm:((items.size:Int)*k)<=sizeLine\/k<=0:=by
   by_cases hk:k<=0
   ·exact .inr hk
   ·grind
  dsimp only
  by_cases hk:k<=0
  ·rw[X9 (by simp[hk])];have e:k.toNat=0:=⋯
   rw[e]at gj;exact X0 (Y2 (X2 ⟨_,rfl,gj⟩) (Yf _))
  ·rw[Xb (by simp[hk,cw])];have hm:=hm.resolve_right hk;have fz:(sizeLine:Int)=16777216:=⋯
   rw[Xb ⋯,Xb (by unfold Builtin.Tuple.tupleTooMany;lia)];exact X0 (Y2 (X2 ⟨_,rfl,gj⟩) hsz)
section
variable {X:Cx}{Z:Fx0}{K:Frag}{pn:List Nat}{q qa qb:Bool}{a b c:Ex}{u:Ts}{tg e ea eb:Expr}{st:Stmt}{σ:L2.St}{H:Hp}{L:Ls}{E:En}{pos p p2:Pos}{x:Str}
noncomputable def wkf(K:Frag):R2:=λx y H Q=>∃l k xs,x=.ref l/\y=.int k/\SqT K H l xs/\-(2 ^ 63)<=k/\k<2 ^ 63/\xs.length*k.toNat<=sizeLine/\((xs=[]\/k=1)->Q (.ref l) H)/\∀p,H p=none->Q (.ref p) (upd H p (.tup (List.replicate k.toNat xs).flatten))
theorem op_repT:OpR X (binaryOp .Mult) (wkf X.K):=by
 rintro a7 s σ H x y v u Q I rx ry ⟨l,k,xs,rfl,rfl,hq,h1,h2,hz,q1,q2⟩;cases rx;obtain⟨t,rfl⟩:=ry;obtain⟨a9,r,ht,hl⟩:=I.tuple hq;have ah:=r.length;have f0:List.foldl (λx1 x2=>x1++x2) #[] (List.replicate k.toNat a9.toArray)=(List.replicate k.toNat a9).flatten.toArray:=by
  have:=kk3 a9 k.toNat [];rw[List.nil_append]at this;exact this
 have jr:(List.replicate k.toNat xs).flatten.length<=sizeLine:=by rw[qxo,Nat.mul_comm];exact hz
 refine wpAny_binaryOp_repeat_ref (T:="tuple") (U:="int") ⋯ ht.typeIs (λs'=>typeIs_int s' k t) rfl F.fills_int_mul F.slot_int_rmul (show seqRepeat? (Value.type "tuple")=pure (some (Value.builtin "tuple.__mul__"))from rfl) F.slot_int_index.lookup
  (wxt ht ⟨rfl,ht.typeIs,mulT ht h1 h2 (by rw[X8,<-ah];exact hz) (λhs=>?_) ?_ ?_⟩)
 ·refine⟨.ref l,H,I,rfl,q1 ?_⟩;rcases hs with hs|hs
  ·grind
  ·exact .inr hs
 ·rwa [f0,X8,<-(r.rep k.toNat).length]
 ·rw[f0];exact⟨.ref _,_,I.laid (t':=s.toks) (o:=.tup _) (λb o e=>X1 _ e) (X7 _) ⟨jr,_,r.rep k.toNat,IsTupD.new _ _⟩,rfl,q2 _ (I.hok.fresh (X7 _))⟩
noncomputable def wki(K:Frag):R2:=λx y H Q=>wkf K x y H Q\/vx1 K x y H Q
theorem wv1(hK:autoParam (X.K=K) Ŕ):OpR X (binaryOp .Mult) (wki K):=by subst hK;exact op_repT.or wv2
theorem wj8:Ad2 K (wki K) zj:=by
 intro H x y s Q ox oy hf k;cases hx:x.d with
 | tup ds=>
  cases hy:y.d with
  | int n=>
   unfold zj at hf;rw [hx,hy]at hf;dsimp only at hf
   split at hf
   ·rename_i hc;cases oq9 hf;obtain⟨l,xs,bs,e3,q3,r3,h3⟩:=zY ox (.inr hx) (hx▸hc.2.2.2);have q3:SqT K H l xs:=by rcases q3 with⟨z,_⟩|⟨_,z⟩;rw[hx]at z;cases z;exact z
    obtain⟨cs,r4,h4⟩:=r3.reps n.toNat;refine .inl ⟨l,n,xs,e3,kw oy hy,q3,hc.1,hc.2.1,by rw[<-r3.len];exact hc.2.2.1,λhs=>?_,λp hp=>?_⟩
    ·refine k ⟨.no,.tup _,.ref l,cs⟩ H rfl rfl ⟨x8,?_,λb hb=>(nomatch hb),Y8,λb hb=>ll9 _ (h3 b (h4 b hb))⟩;show RepL K H true _ _ cs;refine⟨l,xs,rfl,q3,?_⟩;have e:(List.replicate n.toNat xs).flatten=xs:=by
      rcases hs with hs|hs
      ·subst hs;simp
      ·subst hs;simp
     rw[e]at r4;exact r4
    ·exact k _ _ rfl rfl (kjk hp r4 λb hb=>ll9 _ (h3 b (h4 b hb)))
   ·grind
  |_=>
   refine .inr (vwi H x y s Q ox oy ?_ k);unfold zj at hf;rw[hx,hy]at hf;rw[hx];exact hf
 |_=>
  refine .inr (vwi H x y s Q ox oy ?_ k);unfold zj at hf;rw[show(x.o,x.d).2=x.d from rfl,hx]at hf;rw[hx];exact hf
theorem qxb{h}:∀{ds us},CReps h ds us->us.map (dec h)=ds
 |[],_,r=>by rw[r];rfl
 |z::ds,_,r=>by
  obtain⟨u,rr,rfl,h1,h2⟩:=r;rw[List.map_cons,kxc h1,qxb h2]
noncomputable def wxz(K:Frag)(C:Hp->List V->Prop):List V->Hp->VK->Prop:=λvs H Q=>∃v d ds as bs xs j,vs=[v]/\RepL K H true d v as/\C H xs/\RepA K H true ds xs bs/\d.flat 30=true/\D.flats 30 ds=true/\(ds.findIdx? λz=>peq z d)=some j/\Q (.int j) H
theorem vki{o to t apos ae}(hu:X.A.units+64<cLine)(ho:PE X o to)(ha:PA X [e] t)
  (be:autoParam (attributeBase o "index" X.env (eval o X.env)=eval o X.env) Ŕ)
  (dq:autoParam (((backTo ae (starEach [e] X.env)).all (λx=>!x.1)&&(backToKw ae (keywordEach [] X.env)).all (λx=>x.1.isSome)
   && decide ([e].length+([]:List Keyword).length+(if([]:List Keyword).isEmpty then 0 else 1)<30))=true) Ŕ)
  (bf:autoParam ((apos.endLine==ae.line)=true) Ŕ) (hs:autoParam (starEach [e] X.env=(false,eval e X.env)::starEach [] X.env) Ŕ) (bg:autoParam ((backTo ae (starEach [] X.env)).any (·.1)=false) Ŕ):
  PE X (.Call (.Attribute o "index" apos) [e] [] ae) (fun σ H Q=>to σ H λx H1=>(∃p xs,x=.ref p/\LsR X.K H1 p xs/\t σ H1 λvs H2=>wxz X.K (λH xs=>LsR X.K H p xs) vs H2 Q)\/∃p xs,x=.ref p/\SqT X.K H1 p xs/\t σ H1 λvs H2=>wxz X.K (λH xs=>SqT X.K H p xs) vs H2 Q):=by
 intro a7 s σ H Q I h;refine wpAny_Call_method_late be dq bf rfl (thn (ho a7 s σ H _ I h) λv s1 ⟨x,H1,I1,r1,qq⟩=>?_);have eqs:∀{s2 H2 d v} {as:List Addr} {w:Value} {us:List Value} {ds:List D},L2.Inv X a7 σ H2 s2->RepL X.K H2 true d v as->RelV v w->d.flat 30=true->D.flats 30 ds=true->CReps s2.heap ds us->∀y∈us.toArray,SeqAt.EqAt X.A.in1 s2 y w (peq (dec s2.heap y) d):=fun {s2 H2 d v as w us ds} I2 rd rw f1 f2 cr y hy=>by
  have c1:=Qk I2 rd f1 rw;obtain⟨d',hd,c⟩:=jzz cr (by simpa using hy);rw[kxc c];exact Q8 30 (jxl f2 hd) c c1 (by have:=L3.in1_units X.A;lia)
 have idx:∀{h:Heap} {ds:List D} {us:List Value} {d:D} {j:Nat},CReps h ds us->(ds.findIdx? λz=>peq z d)=some j->∃hj:j<us.toArray.size,peq (dec h us.toArray[j]) d=true/\∀m (hm:m<us.toArray.size),m<j->peq (dec h us.toArray[m]) d=false:=fun {h ds us d j} cr hf=>by
  have e:=qxb cr;subst e;rw[List.findIdx?_eq_some_iff_getElem]at hf;obtain⟨hj,h1,h2⟩:=hf;have ly:j<us.length:=by simpa using hj
  refine⟨by simpa using ly,by simpa using h1,λm hm hmj=>?_⟩;have:=h2 m hmj
  simpa using this
 rcases qq with⟨pp,zs,rfl,ty,q1⟩|⟨pp,zs,rfl,ty,q1⟩
 ·cases r1;have hA:=ha ae a7 s1 σ H1 _ I1 q1;rw[hs]at hA ⊢;obtain⟨z,a9,n,r,e0⟩:=ty.is I1;refine⟨"list","list.index",F.plainAttrs_list,F.slot_list_index,F.type_list_index,⟨_,e0,rfl⟩,λa e2=>?_,?_⟩
  ·cases e2;exact⟨_,e0,rfl⟩
  refine Z7 (by show(false||(backTo ae (starEach [] X.env)).any (·.1))=false;rw[bg]<;>rfl) (Calls.evalArgs_plain ?_);refine thn hA λus s2 ⟨vs,H2,I2,r2,d2⟩=>?_
  obtain⟨v,d,ds,as,bs,xs,j,rfl,rd,hq,ra,f1,f2,hf,q2⟩:=d2;obtain⟨w,rfl,rw1⟩:=r2.one;obtain⟨z2,en,n2,r3,e3⟩:=hq.is I2;have cr:=creps_of I2 ra f2 r3;obtain⟨hj,h1,h2⟩:=idx cr hf;have hsz:en.toArray.size<=16777216:=by rw[X8,<-r3.length];exact z2
  exact call_meets F.slot_list_index ⟨_,e3,rfl⟩ F.entry_list_index (F.args_list_index_2 _ _) (SeqAt.list_indexAt pp en.toArray n2 none #[] w (λy=>peq (dec s2.heap y) d) j hj ⋯ h1 h2) ⟨e3,eqs I2 rd rw1 f1 f2 cr,.int _,H2,I2.tok _,⟨_,rfl⟩,q2⟩
 ·cases r1;have hA:=ha ae a7 s1 σ H1 _ I1 q1;rw[hs]at hA ⊢;obtain⟨a9,r,ht,hz⟩:=I1.tuple ty;have p9:=I1.tupleD ty;refine⟨"tuple","tuple.index",F.plainAttrs_tuple,F.slot_tuple_index,F.type_tuple_index,ht.typeIs,λa e2=>?_,?_⟩
  ·cases e2;exact p9
  refine Z7 (by show(false||(backTo ae (starEach [] X.env)).any (·.1))=false;rw[bg]<;>rfl) (Calls.evalArgs_plain ?_);refine thn hA λus s2 ⟨vs,H2,I2,r2,d2⟩=>?_
  obtain⟨v,d,ds,as,bs,xs,j,rfl,rd,hq,ra,f1,f2,hf,q2⟩:=d2;obtain⟨w,rfl,rw1⟩:=r2.one;obtain⟨en,r3,ht2,jr⟩:=I2.tuple hq;have cr:=creps_of I2 ra f2 r3;obtain⟨hj,h1,h2⟩:=idx cr hf;exact wjv (e:=λy=>peq (dec s2.heap y) d) ht2 (eqs I2 rd rw1 f1 f2 cr) hj h1 h2 ⟨.int _,H2,I2.tok _,⟨_,rfl⟩,q2⟩
theorem Wz{apos ae}(hu:X.A.units+64<cLine)(ha:QV X Z q a ea)(hb:QV X Z true b eb)(hK:autoParam (X.K=Z.K) Ŕ)
  (be:autoParam (attributeBase ea "index" X.env (eval ea X.env)=eval ea X.env) Ŕ)
  (dq:autoParam (((backTo ae (starEach [eb] X.env)).all (λx=>!x.1)&&(backToKw ae (keywordEach [] X.env)).all (λx=>x.1.isSome)
   && decide ([eb].length+([]:List Keyword).length+(if([]:List Keyword).isEmpty then 0 else 1)<30))=true) Ŕ)
  (bf:autoParam ((apos.endLine==ae.line)=true) Ŕ) (hs:autoParam (starEach [eb] X.env=(false,eval eb X.env)::starEach [] X.env) Ŕ) (bg:autoParam ((backTo ae (starEach [] X.env)).any (·.1)=false) Ŕ):
  QE X Z q (K3 a b) (.Call (.Attribute ea "index" apos) [eb] [] ae):=kZ (vki hu ha (vw hb vQ hs) be dq bf hs bg) fun σ H Q aj=>ex8 aj λE L r m w hc xc k=>by
 refine v6 m w (show bnd (a E) _=some r from hc) xc λE1 s h1 x L1 H1 e1 e2 m1 w1 ok fr sr st sm=>?_
 split at h1
 rotate_left
 ·grind
 rename_i hsq;rw [hK];have fin:∀{ds},(x.d=.lst ds\/x.d=.tup ds)->∀C,(∀H2,x.ok Z.K H2->∃xs bs,C H2 xs/\RepA Z.K H2 true ds xs bs)->tV Z true b σ H1 λv H2=>wxz Z.K C [v] H2 Q:=fun {ds} hx C hC=>by
  refine v6 m1 w1 h1 (xc.step st) λE2 s2 h2 y L2 H2 e3 e4 m2 w2 i9 rm uo bu fb=>?_
  obtain⟨z,hz,rfl⟩:=xK h2;obtain⟨xs,bs,c1,c2⟩:=hC H2 (Vx ok fr bu (fb rfl)).1;have key:∃j,y.d.flat 30=true/\D.flats 30 ds=true/\(ds.findIdx? λz=>peq z y.d)=some j/\z=(.dp,.int j):=by
   unfold pu2 ZW at hz;rw[<-e2,<-e4]at hz;have i6:(if y.d.flat 30&&D.flats 30 ds then(ds.findIdx? λz=>peq z y.d).map λ(j:Nat)=>D.int (j)else none).map (λd=>((Own.dp,d):Sd))=some z:=by
    rcases hx with hx|hx<;>(rw[hx]at hz;exact hz)
   split at i6
   ·rename_i hf;rw[Bool.and_eq_true]at hf;cases hj:ds.findIdx? λz=>peq z y.d with|none=>rw[hj]at i6;cases i6|some j=>rw[hj]at i6;exact⟨j,hf.1,hf.2,rfl,(oq9 i6).symm⟩
   ·cases i6
  obtain⟨j,f1,f2,f3,rfl⟩:=key;exact⟨y.v,y.d,ds,y.as,bs,xs,j,rfl,RepO.wk i9,c1,c2,f1,f2,f3,(k _ _ rfl ⟨.dp,.int j,.int j,[]⟩ L2 H2 rfl rfl m2 (w2.consPu (x:=⟨.dp,.int j,.int j,[]⟩) (show RepL Z.K H2 false (.int j) (.int j) []from wW) rfl) (K2 (x:=⟨.dp,.int j,.int j,[]⟩) (st.trans bu) (λb hb=>nomatch hb) rfl) λhq=>⟨(λhq=>kQ (sm hq) (fb rfl)) hq,λ_ z=>(nomatch z)⟩)⟩
 have wkA:∀{ds xs bs H2},RepA Z.K H2 (x.o != .dp) ds xs bs->RepA Z.K H2 true ds xs bs:=fun {ds xs bs H2} r=>by
  cases ho:(x.o != .dp)with|true=>rw[ho]at r;exact r|false=>rw[ho]at r;exact r.wk
 cases hx:x.d with
 |lst ds=>
  obtain⟨l,xs,bs,ev,q3,r3,h3,_⟩:=items ok (.inl hx);have q3:LsR Z.K H1 l xs:=by rcases q3 with⟨_,z⟩|⟨z,_⟩;exact z;rw[hx]at z;cases z
  refine .inl ⟨l,xs,ev,q3,fin (.inl hx) _ λH2 i9=>?_⟩;obtain⟨l2,ys,cs,pi,q4,r4,_⟩:=items i9 (.inl hx);have:l2=l:=by have:=pi.symm.trans ev;exact V.ref.inj this
  subst this;rcases q4 with⟨_,z⟩|⟨z,_⟩
  ·exact⟨ys,cs,z,wkA r4⟩
  ·grind
 |tup ds=>
  obtain⟨l,xs,bs,ev,q3,r3,h3,_⟩:=items ok (.inr hx);have q3:SqT Z.K H1 l xs:=by rcases q3 with⟨z,_⟩|⟨_,z⟩;rw[hx]at z;cases z;exact z
  refine .inr ⟨l,xs,ev,q3,fin (.inr hx) _ λH2 i9=>?_⟩;obtain⟨l2,ys,cs,pi,q4,r4,_⟩:=items i9 (.inr hx);have:l2=l:=by have:=pi.symm.trans ev;exact V.ref.inj this
  subst this;rcases q4 with⟨z,_⟩|⟨_,z⟩
  ·grind
  ·exact⟨ys,cs,z,wkA r4⟩
 |_=>rw[<-e2,hx]at hsq;cases hsq
end
noncomputable def Ite(K:Frag)(l:Addr):It:=⟨λi H=>∃xs x,SqL K H l xs/\xs[i]?=some x,
 λi H v H'=>∃T x,H T=none/\v=.ref T/\H'=upd H T (.tup [.int i,x])/\∀xs,SqL K H l xs->xs[i]?=some x,
 λi H=>∃xs,SqL K H l xs/\xs.length<=i⟩
theorem qvj{P:Program}{w:PySem.World}{K:Frag}{bw:List Expr}{k1:Nat}{pos:Pos}{e it l:Addr}(n1:e≠it)(n2:l≠e)(n3:l≠it):
  Turn P w K (.Tuple bw k1 pos) (Ite K l) [e,it] e (λi h=>(∃bv,IsEnum h e it (i:Int) bv)/\h.IsListIter it l i) where
 mem:=by simp
 obj:=λi h st b hb=>by
  obtain⟨⟨bv,h1⟩,o4,e4,c4,d4⟩:=st;simp at hb;rcases hb with rfl|rfl
  ·exact⟨_,h1,λv z=>by cases z⟩
  ·exact⟨_,e4,λv z=>by rw[d4]at z;cases z⟩
 keep:=λi h h' st k=>by
  obtain⟨⟨bv,h1⟩,o4,e4,c4,d4⟩:=st;exact⟨⟨bv,k _ (by simp) _ h1⟩,o4,k _ (by simp) _ e4,c4,d4⟩
 item:=by
  intro X hP hw hK hc i a7 s σ H E I hf st hg;subst hP hw hK;obtain⟨xs,x,q1,hx⟩:=hg;obtain⟨dw,iw,p1,i5⟩:=I.list q1;obtain⟨u1,pe,qo⟩:=iw.get hx;obtain⟨⟨bv,t1⟩,t2⟩:=st;refine wpAny_pyNext_enum_item t1 t2 p1.isList (by simpa using pe) n1 λh1 g1 g2 gT gs gk=>?_
  refine⟨_,rfl,wpAny_letOwnedTupleGo_enum g1 λh2 f1 sb=>?_⟩;have fT:=I.fpOk (X7 _) (I.hok.fresh (X7 _));have nT:∀b∈[e,it],b≠s.heap.objs.size:=λb hb ee=>by
   obtain⟨o,eo,_⟩:∃o,s.heap.get? b=some o/\True:=by
    simp at hb;obtain⟨o4,e4,_⟩:=t2;rcases hb with rfl|rfl
    ·exact⟨_,t1,trivial⟩
    ·exact⟨_,e4,trivial⟩
   exact absurd (Xa eo) (by rw[ee];exact Yu _)
  have kk:∀b o,b∉[e,it]->s.heap.get? b=some o->h2.get? b=some o:=λb o hb ee=>by
   simp at hb;exact(sb.2 b hb.1).trans (gk b o hb.1 hb.2 ee)
  have I1:L2.Inv X a7 σ H {s with heap:=h2,toks:=s.toks+1}:=XW [e,it] I kk hf;have nz:s.heap.objs.size≠e:=λee=>nT e (by simp) ee.symm
  have I2:=jxj I1 fT.1 fT.2.1 fT.2.2.2.1 fT.2.2.2.2.1 fT.2.2.2.2.2
   (show ObjOk X.prog X.w _ h2 _ (.tup [.int i,x])from⟨by show 2<=sizeLine;decide,[.int i s.toks,u1],.cons ⟨_,rfl⟩ (.cons qo .nil),⟨_,(sb.2 _ nz).trans gT,rfl,rfl,0,rfl⟩⟩)
  refine⟨.ref s.heap.objs.size,_,I2,rfl,⟨_,x,fT.1,rfl,rfl,λzs lw=>by rw[I.list_inj lw q1];exact hx⟩,?_,λb hb=>by rw[kY (nT b hb)];exact(hf b hb).1⟩;exact⟨⟨u1,f1⟩,g2.at λo ee=>(sb.2 _ n1.symm).trans ee⟩
 done:=by
  intro X hP hw hK hc i a7 s σ H E I hf st hg;subst hP hw hK;obtain⟨xs,q1,hx⟩:=hg;obtain⟨dw,iw,p1,i5⟩:=I.list q1;obtain⟨⟨bv,t1⟩,t2⟩:=st;have fj:=iw.length;refine wpAny_pyNext_enum_end (I.ok.hd hc) t1 t2 p1.isList (by simp;lia) λh' kk=>⟨rfl,?_⟩
  refine XW (t':=s.toks) [it] I (λb o hb ee=>kk b o (by simpa using hb) ee) λb hb=>hf b (by
   simp at hb ⊢;exact .inr hb)
 self:=λ_ _ _ _ _ st h=>by obtain⟨⟨bv,h1⟩,_⟩:=st;exact wpAny_pyIter_enum h1 h
abbrev xj0(K:Frag)(ta:TA):TI:=fun σ H R=>ta σ H λvs H1=>∃l,vs=[.ref l]/\(∃xs,SqL K H1 l xs/\(xs.length<=sizeLine->R (Ite K l) H1))
theorem jzd:bootBuiltins "enumerate"=some (.type "enumerate"):=boot_enumerate
section
variable {X:Cx}{Z:Fx0}{K:Frag}{pn:List Nat}{q qa qb:Bool}{a b c:Ex}{u:Ts}{tg e ea eb:Expr}{st:Stmt}{σ:L2.St}{H:Hp}{L:Ls}{E:En}{pos p p2 f8:Pos}{x:Str}{bw:List Expr}{k1:Nat}
theorem vxh K {ta:TA}(hg:Gl X "enumerate")(hm:X.mg "enumerate"=none)(ha:PA X [e] ta)(hK:autoParam (X.K=K) Ŕ)
  (hs:autoParam (starEach [e] X.env=[(false,eval e X.env)]) Ŕ):PI X (.Tuple bw k1 f8) (.Call (.Name "enumerate" p) [e] [] pos) (xj0 K ta):=by
 subst hK;intro a7 s σ H R I h;refine Call_ (zq I hg hm jzd (Y1 (thn (ha pos a7 s σ H _ I h) λus s1 ⟨vs,H1,I1,r1,q1⟩=>?_) (by rw[hs];rfl) rfl));obtain⟨l,rfl,xs,q1,q⟩:=q1;obtain⟨u1,rfl,e1⟩:=x4 r1;cases e1;obtain⟨dw,iw,p1,i5⟩:=I1.list q1;have lt:l<s1.heap.objs.size:=by obtain⟨_,ee,_⟩:=p1.isList;exact Xa ee
 refine call_enumerate_list p1.isList λh' g1 g2 gs gk=>?_
 refine wpAny_pyIter_enum g1 ⟨_,[_,s1.heap.objs.size],_,_,H1,rfl,I1.kept (t':=s1.toks) gk,
  qvj (Nat.succ_ne_self _) (Xe (Y6 lt)) (Xe lt),⟨⟨_,g1⟩,g2⟩,λb hb=>?_,q i5⟩
 have ef:s1.heap.objs.size<=b:=by
  simp at hb;rcases hb with rfl|rfl<;>lia
 exact I1.fpOk ef (I1.hok.fresh ef)
theorem V3:∀(ds:List D) (k:Nat),(xk k ds).length=ds.length
 |[],_=>rfl|d::ds,k=>by rw[xk,Xm,Xm,V3 ds]
theorem kk7:∀(ds:List D) (k i:Nat),(xk k ds)[i]?=(ds[i]?).map λd=>.tup [.int ((k+i:Nat):Int),d]
 |[],_,_=>by simp[xk]|d::ds,k,0=>by simp[xk]
 |d::ds,k,i+1=>by
  rw[xk,List.getElem?_cons_succ,List.getElem?_cons_succ,kk7 ds,show k+1+i=k+(i+1)from by lia]
theorem qj6:∀(xs ys:List D) (i:Nat),(qv xs ys)[i]?=(xs[i]?).bind λa=>(ys[i]?).map λb=>.tup [a,b]
 |[],_,_=>by simp[qv]|_::_,[],i=>by cases i<;>simp[qv]|a::x,b::y,0=>by simp[qv]|a::x,b::y,i+1=>by rw[qv,List.getElem?_cons_succ,List.getElem?_cons_succ,List.getElem?_cons_succ,qj6 x y i]
theorem jzs:∀(xs ys:List D),(qv xs ys).length=min xs.length ys.length
 |[],_=>by simp[qv]|_::_,[]=>by simp[qv]|a::x,b::y=>by rw[qv,Xm,Xm,Xm,jzs x y];lia
theorem qxj{x:Sl}{es:List D}{l:Addr}{H1:Hp}(hx:x.d=.lst es)(ev:x.v=.ref l):∀H2:Hp,x.let.ok K H2->∃ys cs,SqL K H2 l ys/\RepA K H2 true es ys cs/\∀b∈cs,b∈x.as:=λH2 hok=>by
 obtain⟨a',ys,cs,mj,q4,r4,h4,_⟩:=items hok (.inl hx);have:a'=l:=by have:=mj.symm.trans ev;exact V.ref.inj this
 subst this;rcases q4 with⟨_,z⟩|⟨z,_⟩
 ·exact⟨ys,cs,z.sq,r4,h4⟩
 ·rw[show x.let.d=D.lst es from hx]at z;cases z
theorem kqs{H2:Hp}{T:Addr}{d1 d2:D}{v1 v2:V}{b1 b2:List Addr}(hT:H2 T=none)(r1:RepL K H2 true d1 v1 b1)(r2:RepL K H2 true d2 v2 b2):RepL K (upd H2 T (.tup [v1,v2])) true (.tup [d1,d2]) (.ref T) (b1++b2):=by
 have sm:jY H2 (upd H2 T (.tup [v1,v2])):=vJ hT;refine⟨T,[v1,v2],rfl,.inl (.inl x6),?_⟩;refine⟨v1,[v2],b1,b2,rfl,rfl,r1.kp (Kp.of_same sm),?_⟩;refine⟨v2,[],b2,[],rfl,by simp,r2.kp (Kp.of_same sm),?_⟩;exact⟨rfl,rfl⟩
theorem wkv(h:QE X Z q c e)(hg:Gl X "enumerate")(hm:X.mg "enumerate"=none)(hK:autoParam (X.K=Z.K) Ŕ)(hs:autoParam (starEach [e] X.env=[(false,eval e X.env)]) Ŕ):QI X Z q (.Tuple bw k1 f8) (wxa c) (.Call (.Name "enumerate" p) [e] [] pos):=λa7 s σ H R I aj=>ex8 aj λE L r m w hc xc k=>by
 refine(vxh Z.K hg hm (vw h vQ hs) hK hs) a7 s σ H R I ?_;refine qwd m w (show bnd (c E) _=some r from hc) xc λE1 s h1 x L1 H1 e1 e2 m1 w1 st sm=>?_
 obtain⟨ds,hd,rfl⟩:=xK h1;have ok:=w1.head;have wT:World Z.K H1 (L1++[x.let].map some):=by
  refine World.comm (L:=[some x.let]) ?_;exact w1.tail.consNo (Kv ok) rfl λb hb=>w1.apart b hb
 have sT:Step H L H1 (L1++[x.let].map some):=by
  refine⟨st.keep,λb hb=>?_,λb hb=>?_⟩
  ·have:b∈j9 L1:=by simpa [KZ]using hb
   exact st.own b (by rw[vj];exact lr9 _ this)
  ·have:b∈jV L1\/b∈x.as:=by simpa [KZ]using hb
   rcases this with z|z
   ·exact st.frz b (by rw[xx];exact lr9 _ z)
   ·exact ZZ st b z
 cases hx:x.d with
 | lst es=>
  rw[<-e2,hx]at hd;have iu:=oq9 hd;subst iu;obtain⟨a,xs,bs,ev,q3,r3,h3,_⟩:=items ok (.inl hx);have q3:LsR Z.K H1 a xs:=by rcases q3 with⟨_,z⟩|⟨z,_⟩;exact z;rw[hx]at z;cases z
  have again:=qxj (K:=Z.K) (H1:=H1) hx ev;refine⟨a,by rw[ev],xs,q3.sq,λah=>k _ _ rfl (Ite Z.K a) [x.let] L1 H1 m1 wT sT (by rw[V3,r3.len];exact ah) (λhq=>(sm hq).1) ⟨λt ht=>by rw[aC ht];rfl,λi H2 hok hi=>?_,λH2 hok=>?_,λi H2 v H3 d hok hy ff=>?_⟩⟩
  ·obtain⟨ys,cs,s1,s2,_⟩:=again H2 (hok _ (aB rfl));have hl:=s2.len;rw[V3]at hi;exact⟨ys,ys[i]'⋯,s1,X3 ⋯⟩
  ·obtain⟨ys,cs,s1,s2,_⟩:=again H2 (hok _ (aB rfl));exact⟨ys,s1,by rw[V3,s2.len];exact X7 _⟩
  ·obtain⟨ys,cs,s1,s2,s3⟩:=again H2 (hok _ (aB rfl));obtain⟨T,x',hT,rfl,rfl,hy⟩:=hy;rw[kk7]at ff;cases l0:es[i]? with
   |none=>rw[l0]at ff;cases ff
   |some d0=>
    rw[l0]at ff;cases oq9 ff;obtain⟨v',i7,f1,f2,f3⟩:=s2.get l0;have:v'=x':=by have:=hy ys s1;rw[f1]at this;exact oq9 this
    subst this;have rp:=kqs (v1:=.int ((0+i:Nat):Int)) hT wW f2;rw[show((0+i:Nat):Int)=(i:Int)from by lia]at rp ⊢;exact⟨⟨.no,_,.ref T,[]++i7⟩,rfl,rfl,rfl,vJ hT,rp,λb hb=>⟨x.let,aB rfl,s3 b (f3 b (by simpa using hb))⟩⟩
 |_=>rw[<-e2,hx]at hd;cases hd
end
theorem RepA.erase{K H g}:∀{j ds xs as},RepA K H g ds xs as->∃bs,RepA K H g (ds.eraseIdx j) (xs.eraseIdx j) bs/\bs.Sublist as
 |j,[],xs,as,h=>by
  obtain⟨rfl,rfl⟩:=h;exact⟨[],⟨rfl,rfl⟩,List.Sublist.refl _⟩
 |0,d::ds,xs,as,h=>by
  obtain⟨x,r,bs,cs,rfl,rfl,h1,h2⟩:=h;exact⟨cs,h2,List.sublist_append_right _ _⟩
 |j+1,d::ds,xs,as,h=>by
  obtain⟨x,r,bs,cs,rfl,rfl,h1,h2⟩:=h;obtain⟨es,r2,hs⟩:=RepA.erase h2;refine⟨bs++es,?_,List.Sublist.append (List.Sublist.refl _) hs⟩;unfold RepA;exact⟨x,r.eraseIdx j,bs,es,rfl,rfl,h1,r2⟩
theorem wvt{n i j}(h:_root_.Q.ixN n i=some j):seqIndex? i n=some j/\j<n/\-n<=i/\i<n:=by
 have e:L2.ixN n i=some j:=by
  unfold _root_.Q.ixN at h;unfold L2.ixN
  by_cases h0:0<=i
  ·exact h
  ·rw[Xb h0]at h ⊢;exact h
 exact kzn e
section
variable {X:Cx}{Z:Fx0}{K:Frag}{pn:List Nat}{q qa qb:Bool}{a b c:Ex}{u:Ts}{tg e ea eb:Expr}{st:Stmt}{σ:L2.St}{H:Hp}{L:Ls}{E:En}{pos p p2 f8:Pos}{x:Str}{bw:List Expr}{k1:Nat}
theorem wkt {i o apos ae} (hb:PE X (.Call (.Attribute o "pop" apos) [e] [] ae) (tBM Z.K "list" vv8 (xW i) (vwp (tV Z q c) wxi))):QE X Z false (Ww i c) (.Call (.Attribute o "pop" apos) [e] [] ae):=kZ hb fun σ H Q aj=>ex8 aj λE L r m w hc xc k=>by
 unfold Ww at hc;cases h0:E[i]? with
 | none=>rw [h0]at hc;cases hc
 | some s0 =>
  cases s0 with
  | none=>rw [h0]at hc;cases hc
  | some s0 =>
   obtain ⟨o0,d0⟩:=s0;cases d0 with
   | lst ds0 =>
    rw [h0,X9 (show Q9 (some (some (o0,D.lst ds0)))=true from rfl)]at hc;obtain ⟨x0,a1,a2,a3,a4⟩:=m.get h0;refine ⟨x0.v,a4,vvw (w.ok x0 (vz a1)) a3,(v6 m w hc xc λE1 s h1 x L1 H1 e1 e2 m1 w1 pb fr sr st sm=>?_)⟩;cases hE:E1[i]? with
    | none=>rw[hE]at h1;cases h1
    | some s1=>
     cases s1 with
     | none=>rw[hE]at h1;cases h1
     | some s1=>
      obtain ⟨oo,dd⟩:=s1;rw [hE]at h1;cases dd with
      | lst ds=>
       cases hs:s.2 with
       | int kk=>
        rw [hs]at h1;dsimp only at h1
        by_cases ia:oo=.no
        ·rw [X9 ia]at h1;cases h1
        ·rw [Xb ia]at h1;cases hj:_root_.Q.ixN ds.length kk with
         | none=>rw[hj]at h1;cases h1
         | some j=>
          rw [hj]at h1;dsimp only at h1;cases hd:ds[j]? with
          | none=>rw[hd]at h1;cases h1
          | some d=>
           rw[hd]at h1;dsimp only at h1
           split at h1
           rotate_left
           ·cases h1
           rename_i hp;rw[Bool.and_eq_true]at hp;obtain⟨hp,hsm⟩:=hp;obtain⟨o9,fb⟩:=jxx hsm;cases oq9 h1;obtain⟨y,b1,b2,b3,b4⟩:=m1.get hE;have hv:y.v=x0.v:=by rw[a4]at b4;exact(oq9 (oq9 b4)).symm
           obtain⟨l,xs,bs,c1,c2,c3,c4,c5⟩:=kz8 (w1.ok y (vz b1)) b3 (b2▸ia);have ex0:x0.v=.ref l:=hv▸c1;rw[ex0];obtain⟨vv,i7,f1,f2,f3⟩:=c5.get hd;obtain⟨g1,g2,g3,g4⟩:=wvt hj;have oh:(2:Int) ^ 63=9223372036854775808:=⋯
           obtain⟨_,rp⟩:=RepL.pu (g':=false) f2 hp;obtain⟨cs,r6,de⟩:=c5.erase (j:=j);refine⟨l,xs,kk,j,vv,rfl,by rw[kw pb (e2.trans hs)],c2,?_,?_,by rw[<-c5.len];exact g1,f1,?_⟩
           ·have:(2:Int) ^ 62=4611686018427387904:=⋯
            omega
           ·have:(2:Int) ^ 62=4611686018427387904:=⋯
            omega
           have yn:y.own.Nodup:=by
            obtain⟨A,B,e,_⟩:=jxo b1;have:=w1.nd;rw[e,jX,vj,Xj]at this;exact(List.nodup_append.mp this.2.1).1
           have hoo:y.o=.rt\/y.o=.dp:=by
            rw[b2];cases oo with|no=>exact absurd rfl ia|rt=>exact .inl rfl|dp=>exact .inr rfl
           obtain⟨w3,s3⟩:=kji (T:=[]) (o':=y.o) (ds':=ds.eraseIdx j) (xs':=xs.eraseIdx j) (by simpa using w1) b1 c2 c3 c4 c1 r6 (by
            rcases hoo with hoo|hoo
            ·exact .inl ⟨hoo,λa ha=>.inl (de.subset ha)⟩
            ·refine .inr ⟨hoo,hoo,?_,λa ha=>.inl (de.subset ha)⟩;unfold Sl.own at yn;rw[hoo,c3]at yn;exact de.nodup (List.nodup_cons.mp yn).2)
           have ke:∀a o,H1 a=some o->a≠l->upd H1 l (.lst (xs.eraseIdx j)) a=some o:=λa o e ne=>by rw[kY ne];exact e
           have rp2:RepL Z.K (upd H1 l (.lst (xs.eraseIdx j))) false d vv []:=by
            refine rp.kp ⟨λa zs e=>ke a _ e λz=>?_,λa o u e=>ke a _ e λz=>?_,λa ha=>nomatch ha⟩
            ·subst z;rw[c2]at e;cases e
            ·subst z;rw[c2]at e;cases e
           have mm:=m1.set (x:=⟨y.o,.lst (ds.eraseIdx j),y.v,l::cs⟩) i;rw[Kq b4]at mm;refine k _ _ rfl ⟨.dp,d,vv,[]⟩ _ _ rfl rfl (b2▸mm) (w3.consPu rp2 rfl) (K2 (x:=⟨.dp,d,vv,[]⟩) (st.trans (by simpa using s3)) (λb hb=>nomatch hb) rfl) λz=>nomatch z
       |_=>rw[hs]at h1;cases h1
      |_=>cases h1
   |_=>rw[h0]at hc;cases hc
end
section
variable {X:Cx}{a7:LA9}{σ:L2.St}{H:Hp}{s:Shared}{a b:Addr}{es:List Ent}{A:Around}{E:VP9}{k:Kd}
mutual
theorem qjt(I:Inv X a7 σ H s):∀{d v u},PuR X.K H d v->RelV v u->jZ s.heap d u
 |.non,_,_,h,r=>by rw[h]at r;exact r|.int _,_,_,h,r=>by rw[h]at r;exact r
 |.tup ds,_,_,h,r=>by
  obtain⟨a,xs,rfl,q,ra⟩:=h;cases r;obtain⟨a9,rv,p,_⟩:=I.tuple q;exact⟨a,a9,rfl,p,purs_creps I ra rv⟩
 |.bl _,_,_,h,_=>h.elim|.str _,_,_,h,r=>by unfold PuR at h;rw[h.1]at r;exact r|.lst _,_,_,h,_=>h.elim|.dct _,_,_,h,_=>by unfold PuR at h;exact h.elim|.obj _ _,_,_,h,_=>h.elim
theorem purs_creps(I:Inv X a7 σ H s):∀{ds xs us},PuRs X.K H ds xs->Vals xs us->CReps s.heap ds us
 | [],_,_,h,r=>by unfold PuRs at h;rw[h]at r;cases r;rfl
 | d::ds,_,_,h,r=>by
  obtain⟨x,rr,rfl,h1,h2⟩:=h;cases r with
  |cons r1 r2=>
   exact⟨_,_,rfl,qjt I h1 r1,purs_creps I h2 r2⟩
end
mutual
theorem vve{K g}:∀{n d v as},k7 n d=true->RepL K H g d v as->PuR K H d v
 |_,.non,_,_,_,h=>h.1|_,.int _,_,_,_,h=>by unfold RepL at h;exact h.1|0,.tup _,_,_,hk,_=>by cases hk
 |n+1,.tup ds,_,_,hk,h=>by
  unfold RepL at h;obtain⟨a,xs,e,q,ra⟩:=h;exact⟨a,xs,e,q,purs_of hk ra⟩
 |n,.bl _,_,_,hk,_=>by cases n<;>(unfold k7 at hk;cases hk)|_,.str _,_,_,_,h=>by unfold RepL at h;exact⟨h.1,h.2.2⟩|n,.lst _,_,_,hk,_=>by cases n<;>(unfold k7 at hk;cases hk)|n,.dct _,_,_,hk,_=>by cases n<;>(unfold k7 at hk;cases hk)|n,.obj _ _,_,_,hk,_=>by cases n<;>(unfold k7 at hk;cases hk)
theorem purs_of{K g}:∀{n ds xs as},keyDs n ds=true->RepA K H g ds xs as->PuRs K H ds xs
 |_,[],_,_,_,h=>h.1
 |n,d::ds,_,_,hk,h=>by
  unfold keyDs at hk;rw[Bool.and_eq_true]at hk;obtain⟨x,r,bs,cs,rfl,rfl,h1,h2⟩:=h;exact⟨x,r,rfl,vve hk.1 h1,purs_of hk.2 h2⟩
end
end
mutual
theorem qw1{K H}:∀{d v},PuR K H d v->RepL K H true d v []
 |.non,_,h=>⟨h,rfl⟩|.int _,_,h=>⟨h,rfl⟩
 |.tup ds,_,h=>by
  obtain⟨a,xs,e,s,r⟩:=h;exact⟨a,xs,e,s,rep_purs r⟩
 |.bl _,_,h=>h.elim|.str _,_,h=>by exact⟨h.1,rfl,h.2⟩|.lst _,_,h=>h.elim|.dct _,_,h=>by exact h.elim|.obj _ _,_,h=>h.elim
theorem rep_purs{K H}:∀{ds xs},PuRs K H ds xs->RepA K H true ds xs []
 |[],_,h=>by unfold PuRs at h;exact⟨h,rfl⟩
 |d::ds,_,h=>by
  obtain⟨x,r,e,h1,h2⟩:=h;exact⟨x,r,[],[],e,rfl,qw1 h1,rep_purs h2⟩
end
theorem RepA.put{K H g d x cs}(hx:RepL K H g d x cs):∀{ds xs bs} (n),RepA K H g ds xs bs->∃es,RepA K H g (ds.set n d) (xs.set n x) es/\∀a∈es,a∈bs\/a∈cs
 | [],_,bs,n,h=>by
  have h0:=h;obtain⟨rfl,rfl⟩:=h0;exact⟨[],by simpa using h,λ_ z=>nomatch z⟩
 | e::ds,_,_,n,h=>by
  obtain⟨y,r,b1,b2,rfl,rfl,h1,h2⟩:=h;cases n with
  | zero=>
   refine⟨cs++b2,?_,λa ha=>?_⟩
   ·unfold RepA;exact⟨x,r,cs,b2,rfl,rfl,hx,h2⟩
   ·rcases aA ha with z|z
    ·exact .inr z
    ·exact .inl (lr9 _ z)
  | succ n=>
   obtain⟨es,i1,i2⟩:=RepA.put hx n h2;refine⟨b1++es,?_,λa ha=>?_⟩
   ·unfold RepA;exact⟨y,r.set n x,b1,es,rfl,rfl,h1,i1⟩
   ·rcases aA ha with z|z
    ·exact .inl (ll9 _ z)
    ·exact(i2 a z).imp (lr9 _) id
section
variable {X:Cx}{Z:Fx0}{pn:List Nat}{q:Bool}{kc vc:Ex}{o ke ve:Expr}{pos b9:Pos}
theorem wks {i} (ho:PE X o (xW i)) (hk:QV X Z true kc ke) (hv:QE X Z q vc ve) (hs:autoParam (swapsWithSole [.Subscript o ke b9] ve pos.line X.env=pure false) Ŕ) (hw:autoParam (swappedStores [.Subscript o ke b9] ve X.env=pure none) Ŕ)
  (h1:autoParam ((assignEach [.Subscript o ke b9] X.env).map (·.2)=[assign (.Subscript o ke b9) X.env]) Ŕ)
  (ha:autoParam (∀ v,assign (.Subscript o ke b9) X.env v=(do
   let ov <-holding [v] (eval o X.env)
   let iv <-holding [v,ov] (eval ke X.env)
   standAt b9
   holding [v,ov,iv] (setItem ov iv v)
   release [v,ov,iv] [])) Ŗ):
  QS X Z pn (wk8 i kc vc) (.Assign [.Subscript o ke b9] ve pos):=zZ (vvg hv (wqi ho hk vk3 ha) hs hw h1) λD σ H aj=>ex7 aj λE L r m w hr k=>
 Q4 m w hr k λE1 s1 h1 x L1 H1 e1 e2 m1 w1 ir _=>by
  by_cases hd:Q9 E1[i]?=true
  ·rw [X9 hd]at h1;obtain ⟨s0,p9⟩:∃s0,E1[i]?=some _:=by
    cases h0:E1[i]? with
    | none=>rw[h0]at hd;cases hd
    | some s0=>
     cases s0 with| none=>rw[h0]at hd;cases hd| some s0=>exact⟨s0,rfl⟩
   obtain ⟨y0,a1,a2,a3,a4⟩:=m1.get p9;refine ⟨y0.v,a4,?_⟩;rcases W5 h1 with⟨E2,ky,hk1,b5⟩|⟨E2,c,hk1,rfl⟩
   ·refine ⟨E1,L1,_,m1,w1.tail,hk1,(λ_ _ z=>by cases z),λE' s' z zk L2 H2 f1 f2 m2 w2 t7 frz _ bu sm=>?_⟩;injection z with z1 z2;subst z1 z2;cases hE:E2[i]? with
    | none=>rw[hE]at b5;cases b5
    | some s2=>
     cases s2 with
     | none=>rw[hE]at b5;cases b5
     | some s2=>
      obtain⟨oo,dd⟩:=s2;rw [hE]at b5;cases dd with
      | lst ds=>
       cases hkd:ky.2 with
       | int j=>
        rw [hkd]at b5;dsimp only at b5
        by_cases ia:oo=.no
        ·rw[X9 ia]at b5;cases b5
        ·rw[Xb ia]at b5;cases hj:ixN ds.length j with
         | none=>rw[hj]at b5;cases b5
         | some n=>
          rw[hj]at b5;cases oq9 b5;obtain⟨y,b1,b2,b3,b4⟩:=m2.get hE;have uk:y.v=y0.v:=by rw[a4]at b4;exact(oq9 (oq9 b4)).symm
          obtain⟨w3,dg⟩:=wxb (T:=[some x]) w1 bu w2;obtain⟨l,xs,bs,c1,c2,c3,c4,c5⟩:=kz8 (w2.ok y (vz b1)) b3 (b2▸ia);have c6:RepA Z.K H2 true ds xs bs:=by
           cases hb:(y.o != .dp)with|true=>rw[hb]at c5;exact c5|false=>rw[hb]at c5;exact c5.wk
          have rx:RepL Z.K H2 true s1.2 x.v x.as:=by rw[<-e2];exact RepO.wk (w3.ok x X5)
          obtain⟨es,g1,g2⟩:=RepA.put rx n c6;obtain⟨w4,fy⟩:=kji (T:=[some x]) (o':=.rt) (ds':=ds.set n s1.2) (xs':=xs.set n x.v) w3 b1 c2 c3 c4 c1 g1 (.inl ⟨rfl,λa ha=>(g2 a ha).imp id λz=>by
           rcases Sl.as_of z with z|z
           ·exact .inl (by simpa using z)
           ·exact .inr (by simpa using z)⟩)
          refine⟨l,xs,j,n,uk▸c1,(kw t7 (f2▸hkd)),c2,by rw[<-c6.len,<-qz0];exact hj,(k σ _ _ Pn.refl ?_ w4 ((ir.trans dg).trans fy))⟩;have:=m2.set (x:=⟨.rt,.lst (ds.set n s1.2),y.v,l::es⟩) i;rw[Kq b4]at this;exact this
       |_=>rw[hkd]at b5;cases b5
      |_=>cases b5
   ·exact⟨E1,L1,_,m1,w1.tail,hk1,(λE' c' e C L' H' hm m' w' st=>by injection e with z1 z2;subst z1 z2;exact k C σ L' H' hm Pn.refl m' w' ((ir.trans Step.drop).trans st)),λE' s' z=>by cases z⟩
  ·rw[Xb hd]at h1;cases h1
end
abbrev dkI(kv:List (Int×Int)):List (Key×V):=kv.map λp=>(Sum.inl p.1,V.int p.2)
theorem wjt kv k:z9 (dkI kv) (Sum.inl k)=(k6 kv k).map V.int:=by
 induction kv with
 | nil=>rfl
 | cons p r ih=>
  unfold z9 k6 at ih ⊢;rw[show dkI _=_::dkI r from rfl,List.find?_cons,List.find?_cons]
  by_cases h:p.1=k
  ·have h1:decide ((Sum.inl p.1:Key)=Sum.inl k)=true:=Xg (by rw[h]);have h2:=Xg h;simp only[h1,h2];rfl
  ·have h1:decide ((Sum.inl p.1:Key)=Sum.inl k)=false:=Xh λz=>h (Sum.inl.inj z)
   have h2:=Xh h;simp only[h1,h2];exact ih
theorem vvd kv (k v):xj (dkI kv) (Sum.inl k) (V.int v)=dkI (qQ kv k v):=by
 have ha:((dkI kv).any λp=>decide (p.1=(Sum.inl k:Key)))=kv.any λp=>decide (p.1=k):=by
  rw[List.any_map]
  congr 1
  funext p;show decide ((Sum.inl p.1:Key)=Sum.inl k)=decide _;exact decide_eq_decide.mpr ⟨λz=>Sum.inl.inj z,λz=>by rw[z]⟩
 unfold xj qQ;rw[ha]
 by_cases h:(kv.any λp=>decide (p.1=k))=true
 ·rw[X9 h,X9 h];unfold dkI;rw[Xl,Xl];refine Yp λp _=>?_
  by_cases z:p.1=k
  ·grind
  ·grind
 ·rw[Xb h,Xb h];unfold dkI;rw[Xs];rfl
theorem kws : ∀{ab kv},QZ ab = some kv -> ab = kv.map λp=>(D.int p.1,D.int p.2)
  | [],kv,h=>by cases oq9 h; rfl
  | (a,b)::r,kv,h=>by
    cases a with
    | int k=>
      cases b with
      | int v=>
        have h : (QZ r).map _ = some kv:= h;cases hr : QZ r with
        | none=>grind
        | some q=>
          rw[hr]at h;cases oq9 h;rw[List.map_cons,<-kws hr]
      |_=>cases h
    |_=>cases b <;> cases h
theorem kwr : ∀kv,QZ (kv.map λp=>(D.int p.1,D.int p.2)) = some kv
  | []=>rfl
  | (a,b)::r=>by
    show(QZ _).map _ = _;rw[kwr r]; rfl
theorem XJ kv:z6 (v9 kv)=some kv:=kwr kv
theorem kw8{K H g}:∀{kv:List (Int×Int)} {xs bs},RepP K H g (kv.map λp=>(D.int p.1,D.int p.2)) xs bs->xs=kv.map λp=>V.int p.2
 |[],_,_,h=>by
  unfold RepP at h;exact h.1
 |p::r,_,_,h=>by
  unfold RepP at h;obtain⟨y,rr,b1,b2,rfl,_,h1,h2⟩:=h;rw[h1.1,kw8 h2,List.map_cons]
theorem kwq{K H g}:∀(kv:List (Int×Int)),RepP K H g (kv.map λp=>(D.int p.1,D.int p.2)) (kv.map λp=>V.int p.2) []
 |[]=>⟨rfl,rfl⟩
 |p::r=>by
  unfold RepP;exact⟨_,_,[],[],rfl,rfl,wW,kwq r⟩
theorem kzb{K H g}(kv:List (Int×Int)):RepP K H g (mkD::kv.map λp=>(D.int p.1,D.int p.2)) (V.non::kv.map λp=>V.int p.2) []:=by
 exact⟨_,_,[],[],rfl,rfl,⟨rfl,rfl⟩,kwq kv⟩
theorem qkj:∀{a:List (Int×V)} {kv},(kv.map λp=>D.int p.1)=a.map (λp=>D.int p.1)->(kv.map λp=>V.int p.2)=a.map (·.2)->(a.map λp=>((Sum.inl p.1:Key),p.2))=dkI kv
 |[],[],_,_=>rfl|[],_::_,h,_=>by simp at h
 |p::a,q::kv,h,h'=>by
  rw[List.map_cons,List.map_cons]at h h';injection h with h1 h2;injection h' with h3 h4;injection h1 with h1;unfold dkI;rw[List.map_cons,List.map_cons,qkj h2 h4,<-h1,<-h3]
theorem kxa{K H}{y:Sl}{kv}(ok:y.ok K H)(hd:z6 y.d=some kv):∃a,y.v=.ref a/\H a=some (.dK (dkI kv))/\∃bs,y.as=a::bs:=by
 have h:=RepO.wk ok;cases hy:y.d with
 | dct ab=>
  rw [hy]at hd h;cases ab with
  | nil=>cases hd
  | cons e ab=>
   obtain⟨a,b⟩:=e;cases a with
   | str m=>
    cases b with
    | non=>
     have e:=kws hd;subst e;obtain⟨a,xs,bs,ev,rp,qa,eas⟩:=h;rcases qa with⟨es,ep,_,_,_,_,g5,g6,_⟩|⟨kvn,mm,g1,g2,g3⟩
     ·exfalso;rw[List.map_cons]at g5;cases es with
      |nil=>cases g5
      |cons n es=>
       rw[List.map_cons]at g5;injection g5 with g5 _;have:=g6 n X5;rw[<-g5]at this;unfold PuR at this
       grind
     ·refine⟨a,ev,?_,bs,eas⟩;rw[g1]
      congr 2
      obtain⟨y1,rr,_,_,rfl,_,_,r2⟩:=rp;rw[List.map_cons,Xl]at g2;injection g2 with _ g2;injection g3 with _ g3;refine qkj g2 ?_
      rwa [<-(kw8 r2)]
    |_=>cases hd
   |_=>cases b<;>cases hd
 |_=>rw[hy]at hd;cases hd
section
noncomputable def wx5(ld:Bool):R2:=λx y H Q=>∃(k:Int) (a:Addr) (kv:List (Int×Int)),x=.int k/\y=.ref a/\H a=some (.dK (dkI kv))/\Q (.bl (if ld then !(k6 kv k).isSome else(k6 kv k).isSome)) H
theorem qkr{H a}{kv} k (e:H a=some (.dK (dkI kv))):DGet H a (.int k) ((k6 kv k).map V.int):=by
 rw[<-wjt];exact DGet.k (k:=Sum.inl k) e
theorem wzm{X}(hu:X.A.units+64<cLine):OpR X (compareOp .In) (wx5 false):=by
 intro a7 s σ H x y u v Q I rx ry ⟨k,a,kv,e1,e2,hd,q⟩;subst e1 e2;cases ry;refine d_in ⋯ I (qkr k hd) rx λs' I'=>⟨.bl _,H,I',rfl,?_⟩
 rwa [Option.isSome_map]
theorem vkp{X}(hu:X.A.units+64<cLine):OpR X (compareOp .NotIn) (wx5 true):=by
 intro a7 s σ H x y u v Q I rx ry ⟨k,a,kv,e1,e2,hd,q⟩;subst e1 e2;cases ry;refine vzx ⋯ I (qkr k hd) rx λs' I'=>⟨.bl _,H,I',rfl,?_⟩
 rwa [Option.isSome_map]
theorem wwv{K}:Ad2 K (wx5 false) (pu2 V8):=by
 intro H x y s Q ox oy hf k;unfold pu2 V8 at hf;dsimp only at hf;cases hx:x.d with
 | int j=>
  rw[hx]at hf;cases hi:z6 y.d with
  |none=>rw[hi]at hf;cases hf
  |some kv=>
   rw[hi]at hf;cases oq9 hf;obtain⟨a,e,q,_⟩:=kxa oy hi;exact⟨j,a,kv,kw ox hx,e,q,k _ H rfl rfl wY⟩
 |_=>rw[hx]at hf;cases hf
theorem vji{K}:Ad2 K (wx5 true) (pu2 kk4):=by
 intro H x y s Q ox oy hf k;unfold pu2 kk4 at hf;dsimp only at hf;cases hx:x.d with
 | int j=>
  rw[hx]at hf;cases hi:z6 y.d with
  |none=>rw[hi]at hf;cases hf
  |some kv=>
   rw[hi]at hf;cases oq9 hf;obtain⟨a,e,q,_⟩:=kxa oy hi;exact⟨j,a,kv,kw ox hx,e,q,k _ H rfl rfl wY⟩
 |_=>rw[hx]at hf;cases hf
theorem wwo(x y s)(h:pu2 V8 x y=some s):∃k,s.2=.bl k:=by
 unfold pu2 V8 at h;cases hx:x.2 with
 |int j=>
  rw[hx]at h;cases hi:z6 y.2 with|none=>rw[hi]at h;cases h|some kv=>rw[hi]at h;cases oq9 h;exact⟨_,rfl⟩
 |_=>rw[hx]at h;cases h
end
section
variable {X:Cx}{Z:Fx0}{pn:List Nat}{q qa:Bool}{a b c kc vc:Ex}{o ea eb ec ke ve:Expr}{pos b9 ae:Pos}
theorem wz4(hu:X.A.units+64<cLine)(ha:QV X Z qa a ea)(hb:QV X Z true b eb)(hs:xjo eb):QV X Z qa (wx1 a b) (.Subscript ea eb pos):=
 kZ (vxk ⋯ ha hb hs) fun σ H Q aj=>ex8 aj λE L r m w hc xc k=>by
  refine v6 m w (hc) xc λE1 s h1 x L1 H1 e1 e2 m1 w1 ok fr sr st sm=>(v6 m1 w1 h1 (xc.step st) λE2 s2 h2 y L2 H2 e3 e4 m2 w2 i9 rm uo bu fb=>?_)
  obtain⟨z,hz,rfl⟩:=xK h2;unfold ww9 at hz;cases hy:s2.2 with
  | int j=>
   rw [hy]at hz;cases hi:z6 s.2 with
   | none=>rw[hi]at hz;cases hz
   | some kv=>
    rw[hi]at hz;dsimp only at hz;cases hv:k6 kv j with
    | none=>rw[hv]at hz;cases hz
    | some v=>
     rw[hv]at hz;cases oq9 hz;obtain⟨l,e,q,_⟩:=kxa (Vx ok fr bu (fb rfl)).1 (e2▸hi);refine⟨l,.int v,e,?_,?_⟩
     ·rw[kw i9 (e4▸hy)];have:=qkr j q;rw[hv]at this;exact this
     ·exact k _ _ rfl ⟨.dp,.int v,.int v,[]⟩ L2 H2 rfl rfl m2 w2 (show RepL Z.K H2 false _ _ []from wW) (λ_ hb=>nomatch hb) (λ_ hb=>nomatch hb) (st.trans bu) λhq=>kQ (sm hq) (fb rfl)
  |_=>rw[hy]at hz;cases hz
theorem wq1:QE X Z true wj1 (.Dict [] [] pos):=kZ qk0 fun σ H Q aj=>ex8 aj λE L r m w hc xc k=>by
 intro p hp;cases oq9 hc;have sm:jY H (upd H p (.dK [])):=vJ hp;refine k _ _ rfl ⟨.rt,v9 [],.ref p,[p]⟩ L _ rfl rfl m ?_ ?_ λ_=>⟨sm,λb hb=>?_⟩
 ·refine World.cons ⟨λt ht=>RepO.kp (w.ok t ht) (Kp.of_same sm),w.nd,w.ds⟩ ?_ ?_ ?_ ?_ ?_ ?_
  ·exact⟨p,_,[],rfl,kzb [],.inr ⟨[],"",x6,rfl,rfl⟩,rfl⟩
  ·simp[Sl.own]
  ·intro b hb ho;have:b=p:=by simpa [Sl.own]using hb
   subst this;exact w.own_some ho hp
  ·intro b hb ho;have:b=p:=by simpa [Sl.own]using hb
   subst this;exact w.frz_some ho hp
  ·intro b hb;simp[Sl.frz]at hb
  ·intro b _ hb;simp[Sl.frz]at hb
 ·refine⟨λb ob h _=>sm b ob h,λb hb=>?_,λb hb=>?_⟩
  ·rcases aA hb with z|z
   ·have:b=p:=by simpa [Sl.own]using z
    exact .inr (this▸hp)
   ·exact .inl z
  ·rcases aA hb with z|z
   ·simp[Sl.frz]at z
   ·exact .inl z
 ·have:b=p:=by simpa [Sl.own]using hb
  exact this▸hp
theorem qjr kv (k v):(qQ kv k v).length<=kv.length+1:=by
 unfold qQ
 split
 ·rw[X4];lia
 ·rw[Xk];simp
theorem wkw {i} (hu:X.A.units+64<cLine) (ho:PE X o (xW i)) (hk:QV X Z true kc ke) (hv:QE X Z q vc ve) (hs:autoParam (swapsWith ve (some (.Subscript o ke b9)) pos.line X.env=pure false) Ŕ):
  QS X Z pn (vk4 i kc vc) (.Assign [.Subscript o ke b9] ve pos):=zZ (qwo ⋯ ho hk hv hs) λD σ H aj=>ex7 aj λE L r m w hr k=>
 Q4 m w hr k λE1 s1 h1 x L1 H1 e1 e2 m1 w1 ir _=>by
  by_cases hd:Zv E1[i]?=true
  ·rw [X9 hd]at h1;obtain ⟨s0,p9⟩:∃s0,E1[i]?=some _:=by
    cases h0:E1[i]? with
    | none=>rw[h0]at hd;cases hd
    | some s0=>
     cases s0 with| none=>rw[h0]at hd;cases hd| some s0=>exact⟨s0,rfl⟩
   obtain ⟨y0,a1,a2,a3,a4⟩:=m1.get p9;refine ⟨y0.v,a4,?_⟩;rcases W5 h1 with⟨E2,ky,hk1,b5⟩|⟨E2,c,hk1,rfl⟩
   ·refine ⟨E1,L1,_,m1,w1.tail,hk1,(λ_ _ z=>by cases z),λE' s' z zk L2 H2 f1 f2 m2 w2 t7 frz _ bu sm=>?_⟩;injection z with z1 z2;subst z1 z2;cases hE:E2[i]? with
    | none=>rw[hE]at b5;cases b5
    | some s2=>
     cases s2 with
     | none=>rw[hE]at b5;cases b5
     | some s2=>
      obtain ⟨oo,dd⟩:=s2;rw [hE]at b5;cases oo with
      | no=>cases b5| dp=>cases b5
      | rt =>
       cases hkd:ky.2 with
       | int j=>
        cases hvd:s1.2 with
        | int vv=>
         rw [hkd,hvd]at b5;dsimp only at b5;cases hi:z6 dd with
         | none=>rw[hi]at b5;cases b5
         | some kv=>
          rw [hi]at b5;dsimp only at b5
          by_cases hl:kv.length<big
          ·rw[X9 hl]at b5;cases oq9 b5;obtain⟨y,b1,b2,b3,b4⟩:=m2.get hE;have uk:y.v=y0.v:=by rw[a4]at b4;exact(oq9 (oq9 b4)).symm
           obtain⟨w3,dg⟩:=wxb (T:=[some x]) w1 bu w2;obtain⟨l,c1,c2,bs,c3⟩:=kxa (w2.ok y (vz b1)) (b3▸hi);refine⟨l,upd H2 l (.dK (dkI (qQ kv j vv))),uk▸c1,?_,?_⟩
           ·rw[(kw t7 (f2▸hkd)),(kw (w3.ok x X5) (e2▸hvd)),<-vvd];exact DPut.k (k:=Sum.inl j) c2 (by show(kv.map _).length<sizeLine;rw[X4];exact hl)
           ·have pz:l∈y.own:=by unfold Sl.own;rw[b2,c3];simp
            obtain⟨w4,fy⟩:=World.writeAt (ob:=.dK (dkI (qQ kv j vv))) (T:=[some x]) w3 b1 pz (y':=⟨.rt,v9 (qQ kv j vv),y.v,[l]⟩) ⟨l,_,[],c1,kzb _,.inr ⟨(qQ kv j vv).map λp=>(p.1,V.int p.2),"",by rw[x6,Xl];rfl,by rw[List.map_cons,Xl,Xl];rfl,by rw[Xl];rfl⟩,rfl⟩ (by simp[Sl.own]) (λa h=>by
             have:a=l:=by simpa [Sl.own]using h
             subst this;exact .inl pz) (λa h=>by simp[Sl.frz]at h) (λa h z=>by simp[Sl.frz]at z)
            refine k σ _ _ Pn.refl ?_ w4 ((ir.trans dg).trans fy);have:=m2.set (x:=⟨.rt,v9 (qQ kv j vv),y.v,[l]⟩) i;rw[Kq b4]at this;exact this
          ·rw[Xb hl]at b5;cases b5
        |_=>rw[hkd,hvd]at b5;cases b5
       |_=>rw[hkd]at b5;cases b5
   ·exact⟨E1,L1,_,m1,w1.tail,hk1,(λE' c' e C L' H' hm m' w' st=>by injection e with z1 z2;subst z1 z2;exact k C σ L' H' hm Pn.refl m' w' ((ir.trans Step.drop).trans st)),λE' s' z=>by cases z⟩
  ·rw[Xb hd]at h1;cases h1
theorem wkx{apos:Pos}(hu:X.A.units+64<cLine)(ha:QV X Z qa a ea)(hb:QV X Z true b eb)(hc:QV X Z true c ec)(hm:M2 X ea "get" apos eb ec ae:=by exact⟨rfl,rfl,rfl,rfl⟩):QV X Z qa (vjs a b c) (.Call (.Attribute ea "get" apos) [eb,ec] [] ae):=
 kZ (vkk ⋯ ha hb hc hm) fun σ H Q aj=>ex8 aj λE L r m w hc xc k=>by
  refine v6 m w (show bnd (a E) _=some r from hc) xc λE1 s h1 x L1 H1 e1 e2 m1 w1 ok fr sr st sm=>?_
  by_cases hI:Zz s.2=true
  ·rw [X9 hI]at h1;obtain⟨kv,hi⟩:=Option.isSome_iff_exists.mp hI;obtain⟨l,el,ql,_⟩:=kxa ok (by rw[e2];exact hi);refine⟨l,el,.inl ⟨_,.inl ql⟩,?_⟩;refine v6 m1 w1 h1 (xc.step st) λE2 s2 h2 y L2 H2 e3 e4 m2 w2 i9 rm uo bu fb=>?_
   refine v6 m2 w2 h2 (xc.step (st.trans bu)) λE3 s3 h3 t L3 H3 e5 e6 m3 w3 ok3 qc sr3 dg sm3=>?_
   obtain⟨z,hz,rfl⟩:=xK h3;have s13:=kQ (fb rfl) (sm3 rfl);unfold qzk at hz;cases hy:s2.2 with
   | int j=>
    cases ht:s3.2 with
    | int d=>
     rw[hy,ht,hi]at hz;cases oq9 hz;have ev:y.v=.int j:=kw i9 (by rw[e4];exact hy);have et:t.v=.int d:=kw ok3 (by rw[e6];exact ht);refine⟨_,by rw[ev];exact qkr j (s13 _ _ ql),?_⟩;have e7:((k6 kv j).map V.int).getD t.v=.int ((k6 kv j).getD d):=by
      rw[et];cases k6 kv j<;>rfl
     rw[e7];exact k _ _ rfl ⟨.dp,.int ((k6 kv j).getD d),.int ((k6 kv j).getD d),[]⟩ L3 H3 rfl rfl m3 w3 (show RepL Z.K H3 false (.int _) (.int _) []from wW) (λ_ hb=>nomatch hb) (λ_ hb=>nomatch hb) ((st.trans bu).trans dg) λhq=>kQ (sm hq) s13
    |_=>rw[hy,ht]at hz;cases hz
   |_=>rw[hy]at hz;cases hz
  ·rw[Xb hI]at h1;cases h1
end
end Q
namespace PySem
theorem qqa:typeLookup (.type "list") "keys"=pure none:=am_miss_of_fast (by decide +kernel)
theorem kve{prog w}{A:Around}{E:VP9}{s:Shared}{a:Addr}{o:Obj}{xs:Array Value}{k:Nat}{Q:Option Value->Shared->Prop}
  (hx:s.heap.get? a=some o) (hc:o.cls=.type "list") (gb:o.data=.seq xs k) (hd:o.dict=none) (hA:A.handled=none)
  (h:∀h' tk,(∀b ob,s.heap.get? b=some ob->h'.get? b=some ob)->Q none {s with heap:=h',toks:=tk}):
  wpAny (model prog w) A (getAttr? (.ref a) "keys") Q E s:=by
 obtain⟨c,dct,dat,sl⟩:=o;simp only at hc gb hd;subst hc gb hd;obtain⟨hp,g,d,tk,os⟩:=s;have hT:∀mw,(⟨hp,g,d,mw,os⟩:Shared).TypeIs (.ref a) "list":=λ_=>⟨_,hx,rfl⟩
 have f1:=sub_AttributeError;have f3:=F.slot_list_getattribute.lookup;have f4:=F.slot_list_getattribute.bind (.ref a);have f5:=am_list_getattr_none;unfold getAttr? getAttrBy? getAttrBy
 repeat (any_goals (first|assumption|exact hT _|((with_reducible show wpAny _ _ (call (Value.builtin "list.__getattribute__") _ _) _ _ _);refine call_meets F.slot_list_getattribute (hT _) am_entry_list_getattribute (F.args_list_getattribute_2 _ _) (meets_getattribute_miss_list a xs k sl "keys" _ qqa ⋯ ⋯) ⟨hx,hA,λh' mw e hx'=>?_⟩)|wp_step))
 obtain⟨t',u',he⟩:=hx'.there;show wpAny _ _ (getattributeRaised _ _ _ _ _ _ _) _ _ _;unfold getattributeRaised
 repeat (any_goals (first|assumption|wp_step))
 exact h _ _ hx'.keeps
namespace F
theorem entry_dict_update_loop:entryFor table "dict.update.loop"=some Builtin.«dict.update.loop»:=entryFor_of_tree (by kernel_rfl)
theorem plain_dict_update_loop:plainId "dict.update.loop"=true:=by decide +kernel
end F
section
variable {prog:Program}{w:World}{A:Around}{R:Result->Shared->Prop}{I:Addr}{fp wr:List Addr}{G:Array GenState->Array GenState->Prop}{n:Nat}{P:Nat->Value->Prop}{St:Nat->Shared->Prop}{K:Type}[DecidableEq K]{knd:KeyKind prog w K}
theorem qqh{s T u v E Q}(h:s.heap.IsTuple T #[u,v])(hq:Q [u,v] s):wpAny (model prog w) A (Builtin.Dict.pairItems (.ref T)) Q E s:=by
 obtain⟨o,ho,hc,m,hd⟩:=h;have hT:s.TypeIs (.ref T) "tuple":=⟨o,ho,hc⟩;obtain⟨cls,dct,dat,sl⟩:=o;subst hc hd
 repeat (any_goals (first|assumption|wp_step))
theorem jz6(W:WalksS prog w A.in1 I fp wr G n P St)(S)(iy:S∉fp){h₀:Heap}{more}(hn:more.length=n)(hz:n<=sizeLine)
  (gl:∀i v,P i v->∃T u x k,v=.ref T/\T∉S::wr/\h₀.IsTuple T #[u,x]/\more[i]?=some (k,x)/\knd.is k u=true):
  ∀k i (c) (s),n - i=k->i<=n->St i s->(∀b o,b∉S::wr->h₀.get? b=some o->s.heap.get? b=some o) ->
   s.heap.DictOf knd S (merged [] (more.take i)) ->
   (∀s',Moved (S::wr) G s s'->s'.heap.DictOf knd S (merged [] more)->R (.ok (.ret .none)) s') ->
   codeAny (model prog w) A (.builtin "dict.update.loop" ⟨[.ref S,.ref I,.int i c,.none],[]⟩) R s:=by
 have mr:=λh=>iy (W.sub _ h)
 have de:∀b∈wr,b∈S::wr:=λb hb=>lc9 _ hb
 intro k
 induction k with
 | zero=>
  intro i c s hk hi b6 hh hS hR;have gu:i=n:=⋯
  subst gu;refine Yi F.entry_dict_update_loop (X0 (W.done s _ _ b6 λs' hm=>(X0 (X2 (X2 (hR s' (hm.mono de) ?_))))));rw[<-hn,List.take_length]at hS;obtain⟨o,es,ep,ho,a8⟩:=hS;exact⟨o,es,ep,hm.heap S _ mr ho,a8⟩
 | succ k ih=>
  intro i c s hk hi b6 hh hS hR;have ce:i<n:=⋯
  refine Yi F.entry_dict_update_loop ?_;rw[Yq F.plain_dict_update_loop _];refine X0 (W.item i s _ _ ce b6 λv s' hP lm hm=>?_);obtain⟨T,u,x,kk,rfl,hTn,hT,hmo,jm⟩:=gl i v hP;have fm:s'.heap.DictOf knd S (merged [] (more.take i)):=by
   obtain⟨o,es,ep,ho,a8⟩:=hS;exact⟨o,es,ep,hm.heap S _ mr ho,a8⟩
  have ul:s'.heap.IsTuple T #[u,x]:=by
   obtain⟨o,ho,a8⟩:=hT;exact⟨o,hm.heap T o (λz=>hTn (lc9 _ z)) (hh T o hTn ho),a8⟩
  have ef:(merged [] (more.take i)).length<=sizeLine:=by
   have e1:=merged_length_le ([]:List (K×Value)) (more.take i);have e2:(more.take i).length<=more.length:=by rw[Yr];lia
   have e3:([]:List (K×Value)).length=0:=rfl;lia
  show wpAny _ A.in1 (holding [Value.ref T] _ >>= _) _ _ s';refine X0 (Xu (X0 (wpAny_tryCatch (qqh ul ?_))));show wpAny _ A.in1 (holding [u,x] (dictSet S u x)) _ _ s';refine Xu (wpAny_dictSet_pairs (hsz:=ef) jm fm λh' iu js=>(X2 ⟨Z9 F.plain_dict_update_loop _,?_⟩));show codeAny _ _ (.builtin "dict.update.loop" ⟨[.ref S,.ref I,.int ((i+1:Nat):Int) 0,.none],[]⟩) R _;refine ih (i+1) 0 _ ⋯ ce (W.frame _ s' _ _ lm (Z8 _) λb hb o e=>?_) (λb o hb e=>?_) (by rw[merged_take_succ [] more i (kk,x) hmo];exact iu) λji ko lg=>?_
  ·rw[js.2 b (λh:b=S=>iy (h▸hb))];exact e
  ·have o8:b≠S:=λz=>hb (z▸X5)
   show h'.get? b=_;rw[js.2 b o8];exact hm.heap b o (λz=>hb (lc9 _ z)) (hh b o hb e)
  ·refine hR ji (Moved.trans W.gtrans ((hm.mono de).then_heap (Z8 _) λb o hb e=>?_) ko) lg;rw[js.2 b (λh:b=S=>hb (h▸X5))];exact e
theorem kkq{E}{s:Shared}{l items more o m}{Q}
  (hh:A.handled=none) (ho:s.heap.get? l=some o) (hc:o.cls=.type "list") (gb:o.data=.seq items m) (hd:o.dict=none) (hn:more.length=items.size) (hz:items.size<=sizeLine)
  (gl:∀(i:Nat) (v),items[i]?=some v->∃T u x k,v=.ref T/\s.heap.IsTuple T #[u,x]/\more[i]?=some (k,x)/\knd.is k u=true)
  (h:∀h' (tk),h'.DictOf knd s.heap.objs.size (merged [] more)->(∀b o,b<s.heap.objs.size->s.heap.get? b=some o->h'.get? b=some o)->Q (.ref s.heap.objs.size) {s with heap:=h',toks:=tk}):
  wpAny (model prog w) A (call (.type "dict") [.ref l]) Q E s:=by
 refine callType_codes (Q₁:=λobj s₁=>obj=Value.ref s.heap.objs.size/\s₁={s with heap:=s.heap.push {cls:=Value.type "dict",data:=Data.dict #[]}}) F.kt_called_dict (F.kt_typeCall_dict_1 _) F.entry_dict_init (kt_code_dict_new _ ⟨rfl,rfl⟩) ?_;rintro obj s₁ ⟨rfl,rfl⟩;have gj:(s.heap.push {cls:=.type "dict",data:=.dict #[]}).DictOf knd s.heap.objs.size []:=Heap.DictOf.new s.heap;have ip:(s.heap.push {cls:=.type "dict",data:=.dict #[]}).get? l=some o:=X1 _ ho;have hT:Shared.TypeIs {s with heap:=s.heap.push {cls:=.type "dict",data:=.dict #[]}} (.ref l) "list":=⟨_,ip,hc⟩;have mz:=Xa ho;refine⟨gj.typeIs,F.args_dict_init_2 _ _,(X0 (X0 (wpAny_notOrdered_dict gj.typeIs (X2 ?_))))⟩;show wpAny _ _ (Builtin.Dict.updateFrom "dict.__init__" s.heap.objs.size (.ref l) [] .none) _ _ _;refine X0 (wpAny_typeOf hT (X0 (kve ip hc gb hd (by simp[hh]) λh' tk hk=>?_)));have hkS:=λb q e=>hk b q (X1 _ e)
 have fj:h'.IsList l items:=⟨o,hkS _ _ ho,hc,m,gb⟩;have hS1:h'.DictOf knd s.heap.objs.size []:=by
  obtain⟨q,es,ep,hq,a8⟩:=gj;exact⟨q,es,ep,hk _ _ hq,a8⟩
 have m8:s.heap.objs.size<h'.objs.size:=by
  obtain⟨q,es,ep,hq,a8⟩:=hS1;exact Xa hq
 refine X0 (Zb (X0 (wpAny_pyIter_list fj (X2 ⟨Z9 F.plain_dict_update_loop _,?_⟩))));refine jz6 (h₀:=s.heap) (A:=A.in1) ((Walks.list (A:=A.in1.in1) (by simp[hh]) h'.objs.size l (Xe (Nat.lt_trans mz m8)) items).toS) s.heap.objs.size ?_ hn hz (λi v hv=>?_) (items.size - 0) 0 0 _ ⋯ (Yf _)
  ⟨⟨_,X6 _ rfl,rfl,rfl⟩,fj.push _⟩ (λb q hb e=>X1 _ (hkS b q e)) (hS1.push _) λs' hm fm=>?_
 ·simp only[Yn,Yc,or_false,not_or];exact⟨Xe m8,Zg mz⟩
 ·obtain⟨T,u,x,k,e1,e2,e3,e4⟩:=gl i v hv;refine⟨T,u,x,k,e1,?_,e2,e3,e4⟩;obtain⟨q,hq,_⟩:=e2;have:=Xa hq;simp;exact⟨Xe this,Xe (Nat.lt_trans this m8)⟩
 ·obtain⟨h2,g',d',mw,nq⟩:=s';have eg:g'=s.gens:=hm.gens;have ed:d'=s.drawn:=hm.drawn;have eo:nq=s.os:=hm.os;subst eg;subst ed;subst eo;refine⟨rfl,h h2 mw fm λb q hb e=>(hm.heap b q ?_ (X1 _ (hkS b q e)))⟩;simp;exact⟨Xe hb,Xe (Nat.lt_trans hb m8)⟩
end
end PySem
namespace Q
open PySem PySem.Spec PyProof.Rows L2 L3
noncomputable def qwb(K:Frag):List V->Hp->VK->Prop:=λxs H Q=>∃(a:Addr) (ts:List V) (ps:List (Int×Int)),xs=[.ref a]/\SqL K H a ts/\ts.length=ps.length /\
 (∀i (h:i<ps.length),∃T,ts[i]?=some (.ref T)/\SqT K H T [.int ps[i].1,.int ps[i].2])/\ps.length<big/\∀l,H l=none->Q (.ref l) (upd H l (.dK (dkI (ps.foldl (λkv p=>qQ kv p.1 p.2) []))))
theorem kwy:∀(ps kv:List (Int×Int)),(ps.foldl (λkv p=>qQ kv p.1 p.2) kv).length<=kv.length+ps.length
 |[],kv=>by simp
 |p::ps,kv=>by
  rw[Z4,Xm];have:=kwy ps (qQ kv p.1 p.2);have:=qjr kv p.1 p.2;lia
theorem qzg:∀ps (more) (kv) (vs),KV (dkI ps) more->KV (dkI kv) vs->KV (dkI (ps.foldl (λkv p=>qQ kv p.1 p.2) kv)) (more.foldl (λaf kv=>stored af kv.1 kv.2) vs)
 | [],_,kv,vs,h,h'=>by cases h;exact h'
 | p::ps,_,kv,vs,h,h'=>by
  cases h with
  |cons h1 h2=>
   rename_i m more;obtain⟨k,x⟩:=m;obtain⟨e,rx⟩:=h1;subst e;refine qzg ps more _ _ h2 ?_;rw[<-vvd];exact KV.put h' _ rx
theorem qxa{X a7}{σ:L2.St}{H s}(I:Inv X a7 σ H s):∀ps (ts) (a9),ts.length=ps.length ->
  (∀ i (h:i<ps.length),∃T,ts[i]?=some (.ref T)/\SqT X.K H T [.int ps[i].1,.int ps[i].2])->Vals ts a9 ->
  ∃ more,more.length=a9.length/\KV (dkI ps) more/\∀(i:Nat) (v),a9[i]?=some v->∃T u x k,v=.ref T/\s.heap.IsTuple T #[u,x]/\more[i]?=some (k,x)/\(wj X.prog X.w).is k u=true
 | [],ts,a9,hl,_,hv=>by
  cases ts with| nil=>cases hv;exact⟨[],rfl,.nil,λi v h=>by simp at h⟩| cons=>cases hl
 | p :: ps,t::ts,_,hl,hp,hv=>by
  cases hv with
  | cons h1 h2=>
   rename_i u us;obtain⟨T,e1,e2⟩:=hp 0 (by simp);have e1:t=.ref T:=by simpa using e1
   subst e1;cases h1;obtain⟨ii,rv,tp,_⟩:=I.tuple e2;obtain⟨u1,u2,rfl,r1,r2⟩:∃u1 u2,ii=[u1,u2]/\RelV (.int p.1) u1/\RelV (.int p.2) u2:=by
    cases rv with
    |cons a b=>
     cases b with|cons c d=>cases d;exact⟨_,_,rfl,a,c⟩
   obtain⟨more,m1,m2,m3⟩:=qxa I ps ts us (by simpa using hl) (λi h=>by
    obtain⟨T,a,b⟩:=hp (i+1) (by simpa using h);exact⟨T,by simpa using a,by simpa using b⟩) h2
   refine⟨(Sum.inl p.1,u2)::more,by rw[Xm,Xm,m1],.cons ⟨rfl,r2⟩ m2,λi v h=>?_⟩;cases i with
   |zero=>
    have h:Value.ref T=v:=by simpa using h
    subst h;exact⟨T,u1,u2,Sum.inl p.1,rfl,tp,rfl,V1 r1⟩
   |succ i=>exact m3 i v (by simpa using h)
theorem qv7{X}(hc:autoParam (X.calm=true) Ŕ):CallR X (.type "dict") (qwb X.K):=by
 rintro a7 s σ H xs us Q I r ⟨a,ts,ps,rfl,hq,hl,hp,hb,q⟩;obtain⟨u,rfl,rx⟩:=x4 r;cases rx;obtain⟨a9,rv,⟨o,n,ho,cb,hd,gb⟩,hz⟩:=I.list hq;obtain⟨more,m1,m2,m3⟩:=qxa I ps ts a9 hl hp rv;refine kkq (I.ok.hd hc) ho cb gb hd (by rw[m1];simp) (by rw[X8,<-rv.length];exact hz) (λi v hv=>m3 i v (by simpa using hv)) λh' tk dd kp=>(⟨.ref s.heap.objs.size,_,I.laid (t':=tk) (λb ob e=>kp b ob (Xa e) e) (X7 _) (vw6 ?_ (Yl (Zg I.big)) (qzg ps more [] [] m2 .nil) dd),rfl,q _ (I.hok.fresh (X7 _))⟩)
 rw[X4];have:=kwy ps []
 grind
theorem qwq:∀{ds ps},Qz ds=some ps->ds=ps.map λp=>D.tup [.int p.1,.int p.2]
 | [],ps,h=>by cases oq9 h;rfl
 | .tup [.int a,.int b]::r,ps,h=>by
  have h:(Qz r).map _=some ps:=h;cases hr:Qz r with
  |none=>grind
  |some q=>
   rw[hr]at h;cases oq9 h;rw[List.map_cons,<-qwq hr]
theorem qwp : ∀ps,Qz (ps.map λp=>D.tup [.int p.1,.int p.2]) = some ps
  | []=>rfl
  | (a,b)::r=>by
    show(Qz _).map _ = _;rw[qwp r]; rfl
theorem vv0{K}:Ad1 K (λv H Q=>qwb K [v] H Q) VJ:=by
 intro H x s Q ok hf k;unfold VJ at hf;cases hx:x.d with
 | lst ds=>
  rw [show(x.o,x.d).2=D.lst ds from hx]at hf;dsimp only at hf;cases hp:Qz ds with
  | none=>rw[hp]at hf;cases hf
  | some ps=>
   rw[hp]at hf;dsimp only at hf
   by_cases hl:ps.length<big
   ·rw[X9 hl]at hf;cases oq9 hf;have e:=qwq hp;subst e;obtain⟨a,xs,bs,ev,q1,ra⟩:=items ok (.inl hx);have hq:SqL K H a xs:=by
     rcases q1 with⟨_,z⟩|⟨z,_⟩
     ·exact z.sq
     ·grind
    refine⟨a,xs,ps,by rw[ev],hq,by rw[<-ra.1.len,X4],λi hi=>?_,hl,λl hl'=>k ⟨.rt,v9 _,.ref l,[l]⟩ _ rfl rfl ⟨vJ hl',⟨l,_,[],rfl,kzb _,.inr ⟨(ps.foldl (λkv p=>qQ kv p.1 p.2) []).map λp=>(p.1,V.int p.2),"",by rw[x6,Xl];rfl,by rw[List.map_cons,Xl,Xl];rfl,by rw[Xl];rfl⟩,rfl⟩,λb hb=>?_,by simp[Sl.own],λb hb=>?_⟩⟩
    ·obtain⟨v,cs,g1,g2,_⟩:=RepA.get ra.1 (by rw[Xi,X3 hi];rfl);obtain⟨T,ys,e1,e2,e3⟩:=g2;refine⟨T,by rw[g1,e1],?_⟩;obtain⟨y1,r1,_,_,rfl,_,f1,f2⟩:=e3;obtain⟨y2,r2,_,_,rfl,_,f3,f4⟩:=f2;obtain⟨rfl,_⟩:=f4;rw[f1.1,f3.1]at e2;exact e2
    ·have:b=l:=by simpa [Sl.own]using hb
     exact this▸hl'
    ·simp[Sl.frz]at hb
   ·rw[Xb hl]at hf;cases hf
 |_=>rw[show(x.o,x.d).2=_ from hx]at hf;cases hf
theorem vja{X} K (hK:autoParam (X.K=K) Ŕ)(hc:autoParam (X.calm=true) Ŕ):CallR X (.type "dict") (qwb K):=by subst hK;exact qv7 hc
theorem wzb{X Z q}:QA X Z q [] []:=kwc vQ fun σ H Q aj=>ex8 aj λE L r m w hc xc k=>by
 cases oq9 hc;exact k _ _ rfl [] L H rfl m w Step.refl λ_=>⟨λ_ _ z=>z,λ_ z=>(nomatch z)⟩
theorem wku{X Z q c o e z apos ae}(ho:PE X o (tC (.str z)))(hc:QV X Z q c e)(hK:autoParam (X.K=Z.K) Ŕ)
  (be:autoParam (attributeBase o "join" X.env (eval o X.env)=eval o X.env) Ŕ)
  (dq:autoParam (((backTo ae (starEach [e] X.env)).all (λx=>!x.1)&&(backToKw ae (keywordEach [] X.env)).all (λx=>x.1.isSome)
   && decide ([e].length+([]:List Keyword).length+(if([]:List Keyword).isEmpty then 0 else 1)<30))=true) Ŕ)
  (bf:autoParam ((apos.endLine==ae.line)=true) Ŕ) (hs:autoParam (starEach [e] X.env=(false,eval e X.env)::starEach [] X.env) Ŕ) (bg:autoParam ((backTo ae (starEach [] X.env)).any (·.1)=false) Ŕ):
  QE X Z q (vqq z c) (.Call (.Attribute o "join" apos) [e] [] ae):=
 kZ (wqt PySem.F.plainAttrs_str PySem.F.slot_str_join PySem.F.type_str_join vxy ho (vw hc vQ hs) be dq bf hs bg) fun σ H Q aj=>ex8 aj λE L r m w gy xc k=>by
  refine⟨?_,?_⟩
  ·rfl
  ·refine v6 m w (gy) xc λE1 s h1 x L1 H1 e1 e2 m1 w1 ok fr sr st sm=>?_
   obtain⟨y,hz,rfl⟩:=xK h1;unfold qzj at hz;cases hx:s.2 with
   | lst ds=>
    rw [hx]at hz;dsimp only at hz;cases hp:J7 ds with
    | none=>rw[hp]at hz;cases hz
    | some ys=>
     rw[hp]at hz;dsimp only at hz
     by_cases hl:(ys.map (·.length)).sum+ys.length*z.length<=100000
     ·rw[X9 hl]at hz;cases oq9 hz;obtain⟨a,xs,bs,ev,q1,ra⟩:=items ok (.inl (e2▸hx));have hq:SqL Z.K H1 a xs:=by
       rcases q1 with⟨_,t⟩|⟨t,_⟩
       ·exact t.sq
       ·grind
      have ex:=(kqi hp ra.1).1;subst ex;have ah:(Txt.join z ys).length<=sizeLine:=joinOk_length (joinOk_of ⋯);exact⟨z,a,ys,rfl,by rw[ev],by rw[hK];exact hq,⋯,(k _ _ rfl _ L1 H1 rfl rfl m1 (w1.consPu (x:=⟨.dp,.str _,.str _,[]⟩) (show RepL Z.K H1 false _ _ []from VW ah) rfl) (K2 st (λb hb=>nomatch hb) rfl) λhq=>⟨sm hq,λ_ t=>(nomatch t)⟩)⟩
     ·rw[Xb hl]at hz;cases hz
   |_=>rw[hx]at hz;cases hz
end Q
namespace PySem
section
variable {prog:Program}{w:World}{A:Around}{E:VP9}{s:Shared}
theorem kx6(hh:A.handled=none)(it t)(cw:t≠it)(items):Draws prog w A it [it,t] items.size (λi v=>items[i]?=some v) (λi h=>h.IsTupleIter it t i/\h.IsTuple t items) where
 live:=λ_ _ st=>let ⟨o,ho,_⟩:=st.1;⟨o,ho⟩
 frame:=λ_ _ _ st hk=>by
  obtain⟨⟨o,ho,r⟩,o2,gm,r2⟩:=st;exact⟨⟨o,hk it (by simp) o ho,r⟩,o2,hk t (by simp) o2 gm,r2⟩
 item:=λi s Q E hi st hQ=>by
  obtain⟨f9,ht⟩:=st;obtain⟨o,ho,hc,hd⟩:=id f9;obtain⟨o2,gm,m4,n2,i8⟩:=id ht;have hx:items[i]?=some items[i]:=by simp[hi]
  refine X0 (Yj (name:=Str.ofString "__next__") f9.typeIs F.slot_tuple_iterator_next (Xy F.slot_tuple_iterator_next f9.typeIs F.entry_tuple_iterator_next ?_ (F.args_tuple_iterator_next_1 _)));show wpAny _ _ (field (.ref it) 0 >>= _) _ _ s;refine X0 (Z2 ho hd (x:=.ref t) rfl (X0 (Z2 ho hd (x:=.int i 0) rfl (X0 (Zj gm i8 ?_)))));simp only[Yt,hx];refine X0 (Yw ho hd (by simp) (X2 ⟨items[i],rfl,X2 (hQ _ _ s.toks hx ⟨⟨_,Xz _ ho (Zf (Zc hd _)),(Obj.cls_mapFields ..).trans hc,by rw[Zc hd];simp[rawInt]⟩,o2,(Yk _ _ (Ne.symm cw)).trans gm,m4,n2,i8⟩ (Y9 ..))⟩))
 done:=λs Q E st hE=>by
  obtain⟨f9,ht⟩:=st;obtain⟨o,ho,hc,hd⟩:=id f9;obtain⟨o2,gm,m4,n2,i8⟩:=id ht;have hx:items[items.size]?=none:=by simp
  refine X0 (Yj (name:=Str.ofString "__next__") f9.typeIs F.slot_tuple_iterator_next (Xy F.slot_tuple_iterator_next f9.typeIs F.entry_tuple_iterator_next ?_ (F.args_tuple_iterator_next_1 _)));show wpAny _ _ (field (.ref it) 0 >>= _) _ _ s;refine X0 (Z2 ho hd (x:=.ref t) rfl ?_);rw[Xb (show ¬((Value.ref t==Value.none)=true)from Bool.false_ne_true)];show wpAny _ _ (field (.ref it) 1 >>= _) _ _ s;refine X0 (Z2 ho hd (x:=.int items.size 0) rfl ?_);show wpAny _ _ (seqItems? (.ref t) >>= _) _ _ s;refine X0 (Zj gm i8 ?_);simp only[Yt,hx];refine X0 (Zb (X0 (Yw ho hd (by simp) ?_)));show wpAny _ _ (newExc (.type "StopIteration") [] >>= _) _ _ _;refine X0 ?_;simp only[newExc,newTuple];refine X0 (Y2 (X0 (m:=firstArgMember _ _) (wpAny_of_eq (a:=Value.none) (by first|rfl|(simp only[firstArgMember];rfl)) (Y2 ?_ (by size_fits)))) (by size_fits));simp only[raiseNew];refine X0 (wpAny_handled ?_)
  first|rw[show A.in1.handled=none from hh]|rw[hh]
  exact X0 (X2 (wpAny_throw (hE _ _ (((Y9 ..).extBut.push _).push _) ⟨_,X6 _ rfl,rfl⟩)))
theorem vzq(t)(items)(n:Nat)(dct:Option Addr)(sl:Array (Option Value)):
  Meets (Builtin.«enumerate.__new__» ⟨[.type "enumerate",.ref t],[]⟩) (λ_ R s=>s.heap.get? t=some {cls:=.type "tuple",dict:=dct,data:=.seq items n,slots:=sl} /\
   R (.ok (.ret (.ref (s.heap.push {cls:=.type "tuple_iterator",data:=.fields #[.ref t,.int 0 0]}).objs.size)))
    {s with heap:=(s.heap.push {cls:=.type "tuple_iterator",data:=.fields #[.ref t,.int 0 0]}).push {cls:=.type "enumerate",data:=.fields #[.none,.bool false,.ref s.heap.objs.size,rawInt 0,.none,.none]}}):=
 .of_wp λprog w A R s h=>by
  obtain⟨hp,g,d,tk,os⟩:=s;obtain⟨hl,h⟩:=h;have de:=sub_enumerate;have hL:Heap.IsTuple (Shared.heap ⟨hp,g,d,tk,os⟩) t items:=⟨_,hl,rfl,n,rfl⟩
  wp_walk using AutoSeq1.wpAny_loadPart' hl
  refine wpAny_stack_any λst=>X2 ?_
  split
  ·rename_i c _ _ _ _ _;cases(c==Value.type "enumerate") <;>
   ·wp_walk using AutoSeq1.wpAny_loadPart' hl,wpAny_pyIter_tuple hL
    exact⟨_,rfl,h⟩
  ·wp_walk using AutoSeq1.wpAny_loadPart' hl,wpAny_pyIter_tuple hL
   exact⟨_,rfl,h⟩
theorem vqd{t items Q}(hL:s.heap.IsTuple t items)
  (h:∀h',IsEnum h' (s.heap.objs.size+1) s.heap.objs.size 0 .none->h'.IsTupleIter s.heap.objs.size t 0->h'.objs.size=s.heap.objs.size+2 ->
   (∀b o,s.heap.get? b=some o->h'.get? b=some o)->Q (.ref (s.heap.objs.size+1)) {s with heap:=h' }):
  wpAny (model prog w) A (call (.type "enumerate") [.ref t]) Q E s:=by
 obtain⟨⟨c,dct,dt,sl⟩,hl,hc,n,hd⟩:=hL;subst hc hd;refine callType_new F.called_enumerate ⋯ (F.typeCall_enumerate_1 _) (F.newCall_enumerate_1 _) (λobj=>F.args_object_init_2 obj _) F.entry_enumerate_new (vzq t items n dct sl) ⟨hl,?_⟩;have hz:(s.heap.push {cls:=.type "tuple_iterator",data:=.fields #[.ref t,.int 0 0]}).objs.size=s.heap.objs.size+1:=Yv ..;rw[hz];have he:IsEnum ((s.heap.push {cls:=.type "tuple_iterator",data:=.fields #[.ref t,.int 0 0]}).push {cls:=.type "enumerate",data:=.fields #[.none,.bool false,.ref s.heap.objs.size,rawInt 0,.none,.none]}) (s.heap.objs.size+1) s.heap.objs.size 0 .none:=by
  have:=X6 (s.heap.push {cls:=.type "tuple_iterator",data:=.fields #[.ref t,.int 0 0]}) (o:={cls:=.type "enumerate",data:=.fields #[.none,.bool false,.ref s.heap.objs.size,rawInt 0,.none,.none]}) rfl;rw[hz]at this;exact this
 exact⟨⟨_,he,rfl⟩,h _ he ⟨_,X1 _ (X6 _ rfl),rfl,rfl⟩ (by rw[Yv,hz]) λb o x=>X1 _ (X1 _ x)⟩
end
end PySem
namespace Q
open PySem PySem.Spec PyProof.Rows L2 L3
noncomputable def ItT(K:Frag)(l:Addr):It:=⟨λi H=>∃xs x,SqT K H l xs/\xs[i]?=some x,
 λi H v H'=>∃T x,H T=none/\v=.ref T/\H'=upd H T (.tup [.int i,x])/\∀xs,SqT K H l xs->xs[i]?=some x,
 λi H=>∃xs,SqT K H l xs/\xs.length=i⟩
theorem vju{P w K bw k1 pos e it l}(n1:e≠it)(n2:l≠e)(n3:l≠it):
  Turn P w K (.Tuple bw k1 pos) (ItT K l) [e,it] e (λi h=>(∃bv,IsEnum h e it (i) bv)/\h.IsTupleIter it l i) where
 mem:=by simp
 obj:=λi h st b hb=>by
  obtain⟨⟨bv,h1⟩,o4,e4,c4,d4⟩:=st;simp at hb;rcases hb with rfl|rfl
  ·exact⟨_,h1,λv z=>by cases z⟩
  ·exact⟨_,e4,λv z=>by rw[d4]at z;cases z⟩
 keep:=λi h h' st k=>by
  obtain⟨⟨bv,h1⟩,o4,e4,c4,d4⟩:=st;exact⟨⟨bv,k _ (by simp) _ h1⟩,o4,k _ (by simp) _ e4,c4,d4⟩
 item:=by
  intro X hP hw hK hc i a7 s σ H E I hf st hg;subst hP hw hK;obtain⟨xs,x,q1,hx⟩:=hg;obtain⟨dw,iw,p1,i5⟩:=I.tuple q1;obtain⟨u1,pe,qo⟩:=iw.get hx;obtain⟨⟨bv,t1⟩,t2⟩:=st;have hi:i<dw.toArray.size:=(List.getElem?_eq_some_iff.mp pe).1;refine wpAny_pyNext_enum_itemD (kx6 (by have:=I.ok.hd hc;simpa using this) it l n3 dw.toArray) t1 ⟨t2,p1⟩ hi n1 (by simp only[Yn,Yc,or_false,not_or];exact⟨n1,n2.symm⟩) λu2 h1 tk hP2 g1 g2 gT gs gk=>?_
  have e2:u2=u1:=by
   have:dw[i]?=some u2:=by simpa using hP2
   rw[pe]at this;exact(oq9 this).symm
  subst e2;refine⟨_,rfl,wpAny_letOwnedTupleGo_enum (s:={s with heap:=h1,toks:=tk+1}) g1 λh2 f1 sb=>?_⟩;have fT:=I.fpOk (X7 _) (I.hok.fresh (X7 _));have nT:∀b∈[e,it],b≠s.heap.objs.size:=λb hb ee=>by
   obtain⟨o,eo,_⟩:∃o,s.heap.get? b=some o/\True:=by
    simp at hb;obtain⟨o4,e4,_⟩:=t2;rcases hb with rfl|rfl
    ·exact⟨_,t1,trivial⟩
    ·exact⟨_,e4,trivial⟩
   exact absurd (Xa eo) (ee▸Yu _)
  have kk:∀b o,b∉[e,it]->s.heap.get? b=some o->h2.get? b=some o:=λb o hb ee=>by
   simp at hb;exact(sb.2 b hb.1).trans (gk b o hb.1 hb.2 ee)
  have I1:L2.Inv X a7 σ H {s with heap:=h2,toks:=tk+1}:=XW [e,it] I kk hf;have nz:s.heap.objs.size≠e:=λee=>nT e (by simp) ee.symm
  have I2:=jxj (a:=s.heap.objs.size) (o:=.tup [.int (i),x]) I1 fT.1 fT.2.1 fT.2.2.2.1 fT.2.2.2.2.1 fT.2.2.2.2.2
   (show ObjOk X.prog X.w _ h2 _ (.tup [.int (i),x])from⟨by show(2:Nat)<=sizeLine;decide,[.int i tk,u2],.cons ⟨_,rfl⟩ (.cons qo .nil),⟨_,(sb.2 _ nz).trans gT,rfl,rfl,0,rfl⟩⟩)
  refine⟨.ref s.heap.objs.size,_,I2,rfl,⟨_,x,fT.1,rfl,rfl,λzs lw=>by rw[I.tuple_inj lw q1];exact hx⟩,?_,λb hb=>by rw[kY (nT b hb)];exact(hf b hb).1⟩;obtain⟨o4,e4,c4,d4⟩:=g2.1;exact⟨⟨u2,f1⟩,o4,(sb.2 _ n1.symm).trans e4,c4,d4⟩
 done:=by
  intro X hP hw hK hc i a7 s σ H E I hf st hg;subst hP hw hK;obtain⟨xs,q1,hx⟩:=hg;obtain⟨dw,iw,p1,i5⟩:=I.tuple q1;obtain⟨⟨bv,t1⟩,t2⟩:=st;have hsz:dw.toArray.size=i:=by rw[X8,<-iw.length];exact hx
  refine wpAny_pyNext_enum_endD (kx6 (A:=X.A.in1) (by have:=I.ok.hd hc;simpa using this) it l n3 dw.toArray) t1 (hsz▸⟨t2,p1⟩) λh' kk=>⟨rfl,?_⟩
  refine XW (t':=s.toks) [it] I (λb o hb ee=>kk b o (by simpa using hb) ee) λb hb=>hf b (by
   simp at hb ⊢;exact .inr hb)
 self:=λ_ _ _ _ _ st h=>by obtain⟨⟨bv,h1⟩,_⟩:=st;exact wpAny_pyIter_enum h1 h
abbrev iEnT(K:Frag)(ta:TA):TI:=fun σ H R=>ta σ H λvs H1=>∃l,vs=[.ref l]/\(∃xs,SqT K H1 l xs/\(xs.length<=sizeLine->R (ItT K l) H1))
section
variable {X:Cx}{Z:Fx0}{K:Frag}{pn:List Nat}{q:Bool}{c:Ex}{e:Expr}{σ:L2.St}{H:Hp}{L:Ls}{E:En}{pos p f8:Pos}{bw:List Expr}{k1:Nat}
theorem wqh K {ta}(hg:Gl X "enumerate")(hm:X.mg "enumerate"=none)(ha:PA X [e] ta)(hK:autoParam (X.K=K) Ŕ)
  (hs:autoParam (starEach [e] X.env=[(false,eval e X.env)]) Ŕ):PI X (.Tuple bw k1 f8) (.Call (.Name "enumerate" p) [e] [] pos) (iEnT K ta):=by
 subst hK;intro a7 s σ H R I h;refine Call_ (zq I hg hm jzd (Y1 (thn (ha pos a7 s σ H _ I h) λus s1 ⟨vs,H1,I1,r1,q1⟩=>?_) (by rw[hs];rfl) rfl));obtain⟨l,rfl,xs,q1,q⟩:=q1;obtain⟨u1,rfl,e1⟩:=x4 r1;cases e1;obtain⟨dw,iw,p1,i5⟩:=I1.tuple q1;have lt:l<s1.heap.objs.size:=by obtain⟨_,ee,_⟩:=p1;exact Xa ee
 refine vqd p1 λh' g1 g2 gs gk=>?_
 refine wpAny_pyIter_enum g1 ⟨_,[_,s1.heap.objs.size],_,_,H1,rfl,I1.kept (t':=s1.toks) gk,
  vju (Nat.succ_ne_self _) (Xe (Y6 lt)) (Xe lt),⟨⟨_,g1⟩,g2⟩,λb hb=>?_,q i5⟩
 have ef:s1.heap.objs.size<=b:=by
  simp at hb;rcases hb with rfl|rfl<;>lia
 exact I1.fpOk ef (I1.hok.fresh ef)
theorem qvk{x:Sl}{es l}{H1:Hp}(hx:x.d=.tup es)(ev:x.v=.ref l):∀H2,x.let.ok K H2->∃ys cs,SqT K H2 l ys/\RepA K H2 true es ys cs/\∀b∈cs,b∈x.as:=λH2 hok=>by
 obtain⟨a',ys,cs,mj,q4,r4,h4,_⟩:=items hok (.inr hx);have:a'=l:=by have:=mj.symm.trans ev;exact V.ref.inj this
 subst this;rcases q4 with⟨z,_⟩|⟨_,z⟩
 ·rw[show x.let.d=D.tup es from hx]at z;cases z
 ·exact⟨ys,cs,z,r4,h4⟩
theorem qwj(h:QE X Z q c e)(hg:Gl X "enumerate")(hm:X.mg "enumerate"=none)(hK:autoParam (X.K=Z.K) Ŕ)(hs:autoParam (starEach [e] X.env=[(false,eval e X.env)]) Ŕ):QI X Z q (.Tuple bw k1 f8) (qz1 c) (.Call (.Name "enumerate" p) [e] [] pos):=λa7 s σ H R I aj=>ex8 aj λE L r m w hc xc k=>by
 refine(wqh Z.K hg hm (vw h vQ hs) hK hs) a7 s σ H R I (qwd m w (show bnd (c E) _=some r from hc) xc λE1 s h1 x L1 H1 e1 e2 m1 w1 st sm=>?_);obtain⟨ds,hd,rfl⟩:=xK h1;have ok:=w1.head;have wT:World Z.K H1 (L1++[x.let].map some):=by
  exact World.comm (L:=[some x.let]) (w1.tail.consNo (Kv ok) rfl λb hb=>w1.apart b hb)
 have sT:Step H L H1 (L1++[x.let].map some):=by
  refine⟨st.keep,λb hb=>?_,λb hb=>?_⟩
  ·have:b∈j9 L1:=by simpa [KZ]using hb
   exact st.own b (lr9 _ this)
  ·have:b∈jV L1\/b∈x.as:=by simpa [KZ]using hb
   rcases this with z|z
   ·exact st.frz b (by rw[xx];exact lr9 _ z)
   ·exact ZZ st b z
 cases hx:x.d with
 | tup es=>
  rw[<-e2,hx]at hd;have iu:=oq9 hd;subst iu;obtain⟨a,xs,bs,ev,q3,r3,h3,_⟩:=items ok (.inr hx);have q3:SqT Z.K H1 a xs:=by rcases q3 with⟨z,_⟩|⟨_,z⟩;rw[hx]at z;cases z;exact z
  have again:=qvk (K:=Z.K) (H1:=H1) hx ev;refine⟨a,by rw[ev],xs,q3,λah=>k _ _ rfl (ItT Z.K a) [x.let] L1 H1 m1 wT sT (by rw[V3,r3.len];exact ah) (λhq=>(sm hq).1) ⟨λt ht=>by rw[aC ht];rfl,λi H2 hok hi=>?_,λH2 hok=>?_,λi H2 v H3 d hok hy ff=>?_⟩⟩
  ·obtain⟨ys,cs,s1,s2,_⟩:=again H2 (hok _ (aB rfl));have hl:=s2.len;rw[V3]at hi;exact⟨ys,ys[i]'⋯,s1,X3 ⋯⟩
  ·obtain⟨ys,cs,s1,s2,_⟩:=again H2 (hok _ (aB rfl));exact⟨ys,s1,by rw[V3,s2.len]⟩
  ·obtain⟨ys,cs,s1,s2,s3⟩:=again H2 (hok _ (aB rfl));obtain⟨T,x',hT,rfl,rfl,hy⟩:=hy;rw[kk7]at ff;cases l0:es[i]? with
   |none=>rw[l0]at ff;cases ff
   |some d0=>
    rw[l0]at ff;cases oq9 ff;obtain⟨v',i7,f1,f2,f3⟩:=s2.get l0;have:v'=x':=by have:=hy ys s1;rw[f1]at this;exact oq9 this
    subst this;have rp:=kqs (v1:=.int ((0+i:Nat):Int)) hT wW f2;rw[show((0+i:Nat):Int)=(i)from by lia]at rp ⊢;exact⟨⟨.no,_,.ref T,[]++i7⟩,rfl,rfl,rfl,vJ hT,rp,λb hb=>⟨x.let,aB rfl,s3 b (f3 b (by simpa using hb))⟩⟩
 |_=>rw[<-e2,hx]at hd;cases hd
end
theorem kwa:∀{ds} {i:Nat} {d},D.pures ds=true->ds[i]?=some d->d.pure=true
 |[],_,_,_,h=>by simp at h
 |a::ds,0,d,h,e=>by
  have e:a=d:=by simpa using e
  subst e;unfold D.pures at h;rw[Bool.and_eq_true]at h;exact h.1
 |a::ds,i+1,d,h,e=>by
  unfold D.pures at h;rw[Bool.and_eq_true]at h;exact kwa h.2 (by simpa using e)
theorem wz5{X Z tg e i}(h:PE X e (xW i))(hK:autoParam (X.K=Z.K) Ŕ):QIS X Z true tg (itV i) e:=λa7 s σ H R I aj=>ex8 aj λE L r m w hc xc k=>by
 refine(hK▸vvk h) a7 s σ H R I ?_;unfold itV at hc;cases hE:E[i]? with
 | none=>rw[hE]at hc;cases hc
 | some s0=>
  cases s0 with
  | none=>rw[hE]at hc;cases hc
  | some s0=>
   obtain⟨oo,dd⟩:=s0;rw [hE]at hc;cases dd with
   | lst ds=>
    dsimp only at hc
    by_cases hp:D.pures ds=true
    ·rw[X9 hp]at hc;cases oq9 hc;obtain⟨x,a1,a2,a3,a4⟩:=m.get hE;have pb:=w.ok x (vz a1);obtain⟨a,xs,bs,ev,q3,r3,h3,_⟩:=items pb (.inl a3);have q3:LsR Z.K H a xs:=by rcases q3 with⟨_,z⟩|⟨z,_⟩;exact z;rw[a3]at z;cases z
     have again:∀H2,jY H H2->∃g ys cs,SqL Z.K H2 a ys/\RepA Z.K H2 g ds ys cs:=λH2 hs=>by
      obtain⟨a',ys,cs,mj,q4,r4,h4,_⟩:=items (RepO.kp pb (Kp.of_same hs):x.ok Z.K H2) (.inl a3);have:a'=a:=by have:=mj.symm.trans ev;exact V.ref.inj this
      subst this;rcases q4 with⟨_,z⟩|⟨z,_⟩
      ·exact⟨_,ys,cs,z.sq,r4⟩
      ·grind
     refine⟨x.v,a4,.inl ⟨a,xs,ev,q3.sq,λah=>k _ _ rfl _ [] L H m (by rw[List.map_nil,Xv];exact w) (by rw[List.map_nil,Xv];exact Step.refl) (r3.len▸ah) (λ_=>x8) ⟨λt ht=>(nomatch ht),λj H2 _ hs hj=>?_,λH2 _ hs=>?_,λj H2 v H3 d _ hs hy ff=>?_⟩⟩⟩
     ·obtain⟨g,ys,cs,s1,s2⟩:=again H2 (hs rfl);have hl:=s2.len;exact⟨ys,ys[j]'_,s1,X3 ⋯⟩
     ·obtain⟨g,ys,cs,s1,s2⟩:=again H2 (hs rfl);exact⟨ys,s1,by rw[s2.len];exact X7 _⟩
     ·obtain⟨g,ys,cs,s1,s2⟩:=again H2 (hs rfl);obtain⟨e3,hy⟩:=hy;subst e3;obtain⟨v',i7,f1,f2,f3⟩:=s2.get ff;have:v'=v:=by have:=hy ys s1;rw[f1]at this;exact oq9 this
      subst this;exact⟨⟨.no,d,v',[]⟩,rfl,rfl,rfl,x8,(RepL.pu (g':=true) f2 (kwa hp ff)).2,λb hb=>(nomatch hb)⟩
    ·rw[Xb hp]at hc;cases hc
   |_=>cases hc
section
variable {X:Cx}{Z:Fx0}{pn:List Nat}{q:Bool}{c:Ex}{e ep:Expr}{i:Nat}{p:List Nat}{pos:Pos}
theorem wju{K H l xs}(h:H l=some (.lst xs)):tyV K "list" (.ref l) H:=.inl ⟨rfl,xs,.inl (.inl h)⟩
end
end Q
namespace PySem
section
variable {prog:Program}{w:World}{A:Around}{E:VP9}{s:Shared}
noncomputable def vjm(h:Heap)(d:Addr)(n:Nat):Prop:=∃o es ep,h.get? d=some o/\o.cls=.type "dict"/\o.data=.dict es ep/\es.size=n
theorem kju(d)(hd:(d==sysModules)=false):
  MeetsIn prog w (Builtin.«dict.__len__» ⟨[.ref d],[]⟩) (λ_ R s=>∃n,vjm s.heap d n/\R (.ok (.ret (.int n s.toks))) {s with toks:=s.toks+1}):=
 .of_wp λA R s ⟨n,⟨o,es,ep,ho,hc,gb,hz⟩,h⟩=>by
  show wpAny _ _ (dictSize d >>= _) _ _ s;refine X0 (X0 (wpAny_dictEntries ho gb (X2 (X0 (wpAny_pendingCount_other hd (wpAny_ret_mkInt ?_))))));rw[hz];exact h
theorem kkn{d n}{Q:VP9}(hd:(d==sysModules)=false)(hm:vjm s.heap d n)(jf:(n:Int)<2 ^ 63)
  (h:Q (.int n (s.toks+1)) {s with toks:=s.toks+1+1}):wpAny (model prog w) A (Builtin.«len» ⟨[.ref d],[]⟩) (λfin s'=>∃r,fin=.done (.ret r)/\Q r s') E s:=by
 have ht:s.TypeIs (.ref d) "dict":=by obtain⟨o,es,ep,ho,hc,_⟩:=hm;exact⟨o,ho,hc⟩
 refine X0 (m:=callSpecial? _ _) (Yj ht F.slot_dict_len
  (call_meetsIn F.slot_dict_len ht F.entry_dict_len (F.args_dict_len_1 _) (kju d hd) ⟨n,hm,?_⟩))
 show wpAny _ _ (if _>=2 ^ 63 then _ else _) _ _ _;rw[Xb ⋯];exact X0 (wpAny_mkInt (X2 ⟨_,rfl,h⟩))
theorem kkp{d n Q}(hd:(d==sysModules)=false)(hm:vjm s.heap d n)(jf:(n:Int)<2 ^ 63)
  (h:Q (.int n (s.toks+1)) {s with toks:=s.toks+1+1}):wpAny (model prog w) A (call (.builtin "len") [.ref d]) Q E s:=
 Calls.call_function_entry kind_len plain_len entry_len (args_len1 _) (kkn hd hm jf h)
end
end PySem
namespace Q
open PySem PySem.Spec PyProof.Rows L2 L3
section
variable {X:Cx}{Z:Fx0}{pn:List Nat}{q:Bool}{b:Ex}{e:Expr}{pos:Pos}
theorem RepA.rev{K H g}:∀{ds xs bs},RepA K H g ds xs bs->∃cs,RepA K H g ds.reverse xs.reverse cs/\∀a∈cs,a∈bs
 |[],xs,bs,h=>⟨bs,by obtain⟨rfl,rfl⟩:=h;exact⟨rfl,rfl⟩,λ_ h=>h⟩
 |d::ds,xs,bs,h=>by
  obtain⟨x,r,b1,c1,rfl,rfl,h1,h2⟩:=h;obtain⟨cs,r2,hc⟩:=RepA.rev h2;rw[List.reverse_cons,List.reverse_cons];refine⟨cs++b1,RepA.snoc h1 r2,λa ha=>?_⟩;rcases aA ha with z|z
  ·exact lr9 _ (hc a z)
  ·exact ll9 _ z
theorem wz1{o i}(ho:PE X o (xW i))(hK:autoParam (X.K=Z.K) Ŕ)(hm:MtR X "list.reverse" qjp){apos ae i4}
  (be:autoParam (attributeBase o "reverse" X.env (eval o X.env)=eval o X.env) Ŕ) (bf:autoParam ((apos.endLine==ae.line)=true) Ŕ)
  (oi:autoParam (swapsWith (.Call (.Attribute o "reverse" apos) [] [] ae) none i4.line X.env=pure false) Ŕ):
  QS X Z pn (ZY i) (.Expr (.Call (.Attribute o "reverse" apos) [] [] ae) i4):=
 zZ (qwn (vxn Z.K PySem.F.plainAttrs_list PySem.F.slot_list_reverse PySem.F.type_list_reverse hm ho be bf hK) oi) λDe σ H aj=>ex7 aj λE L r m w gy k=>by
 unfold ZY at gy
 split at gy
 rotate_left
 ·cases gy
 rename_i ds hE;cases oq9 gy;obtain⟨y,a1,a2,a3,a4⟩:=m.get hE;have oky:RepR Z.K H (.lst ds) y.v y.as:=by
  have:=w.ok y (vz a1);unfold Sl.ok at this;rw[a2,a3]at this;exact this
 obtain⟨l,xs,bs,c1,c2,c3,c4⟩:=oky;obtain⟨cs,r2,hc⟩:=c2.rev;obtain⟨w2,s2⟩:=kji (T:=[]) (o':=.rt) (ds':=ds.reverse) (xs':=xs.reverse) (by simpa using w) a1 c3 c4 (by unfold Sl.own;rw[a2,c4];simp) c1 r2 (.inl ⟨rfl,λa ha=>.inl (hc a ha)⟩);refine⟨y.v,a4,by rw[c1];exact wju c3,l,xs,c1,rfl,c3,?_⟩;have mm:=m.set (x:=⟨.rt,.lst ds.reverse,y.v,l::cs⟩) i;rw[Kq a4]at mm;exact k σ _ _ Pn.refl mm w2 (by simpa using s2)
end
theorem qxu{P w K mg mb CX k fa a fd x sp s₁ vs}{ns}
  (KX:K.In s₁.heap) (hns:s₁.heap.Ns mainGlobals mg) (hb:s₁.heap.Ns builtinsNs mb) (hbb:∀x:Str,x≠"__name__"->mb x=bootBuiltins x) (hlim:s₁.heap.NoLimit) (hg:s₁.gens=#[])
  (ha:s₁.heap.get? a=some {cls:=.type "list",data:=.seq vs.toArray}) (hi:IntsAre vs ns) (hl:ns.length<=sizeLine) (hr:Room k callerA)
  (F:∀base,K.In base->base.Ns mainGlobals mg->FnOk P w K mg base CX k fa fd [x] sp) (sx:∀s u,BindsTo s fd ⟨[u],[]⟩ [(x,u)])
  (ni:∀H,xjn H->LsR K H a (ns.map V.int)->sp [.ref a] H (λv _=>v=.bl true) λ_ _ _=>False)
  (hCX:∀H e s',CX [] H s₁ (λ_ _ _=>False) e s'->False):
  codeAny (model P w) callerA (.call (.ref fa) ⟨[.ref a],[]⟩) (λr s'=>r=.ok (.ret (.bool true))/\OldK s₁.heap s'.heap/\s'.os=s₁.os/\AllBare s'.gens) s₁:=by
 have rv:=qvg hi;have r9:∀H,xjn H->LsR K H a (ns.map V.int)->HOk P w H s₁.heap->(∀b,H b≠none->b=a)->(H a≠none->K.lookup a=none) ->
   codeAny (model P w) callerA (.call (.ref fa) ⟨[.ref a],[]⟩) (λr s'=>r=.ok (.ret (.bool true))/\OldK s₁.heap s'.heap/\s'.os=s₁.os/\AllBare s'.gens) s₁:=by
  intro H hO hS hok hA hK;have iz:∀{b o},s₁.heap.get? b=some o->H b=none->(V0 s₁.heap H).get? b=some o:=λe n=>vq4 e n
  have qh:∀{b o es ep},s₁.heap.get? b=some o->o.data=.dict es ep->H b=none:=fun {b o es ep} e d=>by
   cases q:H b with| none=>rfl| some u=>grind
  have nsK:∀{b m},s₁.heap.Ns b m->(V0 s₁.heap H).Ns b m:=fun {b m} ⟨o,es,ep,e,d,r⟩=>⟨o,es,ep,iz e (qh e d),d,r⟩
  have hKb:=λb o e=>iz (KX b o e) (by
   cases q:H b with
   | none=>rfl
   | some u=>
    have e':=hA b (by rw[q];simp);subst e';rw[hK ⋯]at e;cases e)
  have hM:Mod K mg (V0 s₁.heap H):=⟨hKb,nsK hns,⟨mb,nsK hb,hbb⟩,let ⟨mc,h1,h2⟩:=hlim;⟨mc,nsK h1,h2⟩⟩;have e0:Env0 P w K mg _ callerA [] s₁ H:=⟨rfl,hM,λb o e=>vxv e,Nat.le_of_eq (qz9 _ _),trivial,λb hb=>absurd (show b∈([]:List Addr)from hb) (by simp),hok,.of_eq hg⟩;refine codeAny_mono ((F _ hKb (nsK hns)).run callerA [] s₁ H _ [.ref a] [.ref a] _ _ hr e0 (sx s₁ _) (.cons rfl .nil) (ni H hO hS)) λr s' h=>?_
  cases r with
  | error e=>exact(hCX H e s' h).elim
  | ok fl=>
   cases fl with
   | next=>exact False.elim h| brk=>exact False.elim h| cont=>exact False.elim h
   | ret u=>
    obtain⟨v,H',os,bare,un,hok',r',q⟩:=h;subst q;obtain rfl:u=Value.bool true:=r';refine⟨rfl,OldK.of_keep λb o e=>?_,os,bare⟩;cases q:H b with
    | none=>exact un.keep b o e q (by intro z;exact absurd (show b∈([]:List Addr)from z) (by simp)) (by simp)
    | some u=>
     rcases hO b with z|⟨ob,xs,z⟩
     ·grind
     ·have z2:=un.frzs b ob _ z;obtain⟨e1,_⟩:=hok b _ z;obtain⟨e2,_⟩:=hok' b _ z2
      grind
 cases hk:K.lookup a with
 | some o=>
  have e:=KX a o hk;rw[ha]at e;cases e;refine r9 (λ_=>none) (λ_=>.inl rfl) (.inr ⟨vs.toArray,_,hk,by rw[X8,hi.length];exact hl,by simpa using rv⟩) (λb u z=>by have z':(none)=some u:=z;cases z') (λb z=>absurd rfl z) λz=>absurd rfl z
 | none=>
  refine r9 (λb=>if b=a then some (.frz {cls:=.type "list",data:=.seq vs.toArray} (.lst (ns.map V.int)))else none) (λb=>?_) (.inl (.inr ⟨{cls:=.type "list",data:=.seq vs.toArray},X9 rfl⟩)) (λb u z=>?_) (λb z=>?_) λ_=>hk
  ·by_cases hb:b=a
   ·exact .inr ⟨_,_,X9 hb⟩
   ·exact .inl (Xb hb)
  ·by_cases hb:b=a
   ·have z':=(X9 hb).symm.trans z;cases z';subst hb;exact⟨ha,by rw[X4];exact hl,vs,_,rv,ha⟩
   ·have z':=(Xb hb).symm.trans z;cases z'
  ·by_cases hb:b=a
   ·exact hb
   ·exact absurd (Xb hb) z
@[elab_as_elim] theorem xka {P:List Value->Prop} us (e:us.length=1)(h:∀a,P [a]):P us:=by
 cases us with|nil=>cases e|cons a us=>cases List.eq_nil_of_length_eq_zero (Nat.succ.inj e);exact h a
@[elab_as_elim] theorem xk9 {P:List Value->Prop} us (e:us.length=2)(h:∀a b,P [a,b]):P us:=by
 cases us with|nil=>cases e|cons a us=>exact xka us (Nat.succ.inj e) λb=>h a b
@[elab_as_elim] theorem xk8 {P:List Value->Prop} us (e:us.length=3)(h:∀a b c,P [a,b,c]):P us:=by
 cases us with|nil=>cases e|cons a us=>exact xk9 us (Nat.succ.inj e) λb c=>h a b c
@[elab_as_elim] theorem xk7 {P:List Value->Prop} us (e:us.length=4)(h:∀a b c d,P [a,b,c,d]):P us:=by
 cases us with|nil=>cases e|cons a us=>exact xk8 us (Nat.succ.inj e) λb c d=>h a b c d
@[elab_as_elim] theorem xk6 {P:List Value->Prop} us (e:us.length=5)(h:∀a b c d f,P [a,b,c,d,f]):P us:=by
 cases us with|nil=>cases e|cons a us=>exact xk7 us (Nat.succ.inj e) λb c d f=>h a b c d f
@[elab_as_elim] theorem len6 {P:List Value->Prop}(us:List Value)(e:us.length=6)(h:∀a b c d f g,P [a,b,c,d,f,g]):P us:=by
 cases us with|nil=>cases e|cons a us=>exact xk6 (P:=λl=>P (a::l)) us (Nat.succ.inj e) λb c d f g=>h a b c d f g
theorem jxy{K H g}:∀(ns:List Int),RepA K H g (ns.map D.int) (ns.map V.int) []
 |[]=>⟨rfl,rfl⟩
 |n::ns=>by
  unfold RepA;exact⟨_,_,[],[],rfl,rfl,wW,jxy ns⟩
theorem wvi{K mg f H a}{ns:List Int}(h:∃E o,f [(.no,.lst (ns.map D.int))]=some (.ok E (o,.bl true)))(hs:LsR K H a (ns.map V.int))(hO:xjn H):
  spF K mg 1 f [.ref a] H (λv _=>v=.bl true) λ_ _ _=>False:=by
 obtain⟨E,o,h⟩:=h;have key:∃as,RepL K H true (.lst (ns.map D.int)) (.ref a) as/\(∀b∈as,False):=by
  rcases hs with(hs|⟨ob,hs⟩)|hs
  ·rcases hO a with z|⟨_,_,z⟩<;>(rw[hs]at z;cases z)
  ·exact⟨[],(⟨a,ns.map V.int,[],rfl,jxy ns,.inr ⟨rfl,.inl ⟨ob,hs⟩,rfl⟩⟩),λb hb=>nomatch hb⟩
  ·exact⟨[],(⟨a,ns.map V.int,[],rfl,jxy ns,.inr ⟨rfl,.inr hs,rfl⟩⟩),λb hb=>nomatch hb⟩
 obtain⟨as,r,hn⟩:=key;refine⟨[⟨.no,.lst _,.ref a,as⟩],_,rfl,rfl,?_,h,(λE' c z=>by cases z),λE' s z x H' e1 e2 w' st=>?_⟩
 ·exact⟨λx hx=>by rw[oq9 (aC hx)];exact r,by simp[Sl.own],λb hb=>by simp[Sl.own]at hb⟩
 ·injection z with z1 z2;subst z2;exact QY w'.head e2
section
open PySem.W PySem.Calls
theorem walkQ{l:OpenLaw}{n k q qz XP YP d}{K:Params->Frag}{f}{x}
  (hn:l.most=some n) (nu:n<=sizeLine) (hdf:d.params.defaults=[]) (hr:Room k callerA)
  (hY:∀w (h),YP w h->(K w.params).In h)
  (F:∀w (mg) (fa) (h),(K w.params).In h->h.Ns mainGlobals mg->mg d.name=some (.ref fa) ->
   ∃fd,(∀s (u),BindsTo s fd ⟨[u],[]⟩ [(x,u)])/\∀base,(K w.params).In base->base.Ns mainGlobals mg->FnOk l.prog w (K w.params) mg base (CXE l.prog w) k fa fd [x] (spF (K w.params) mg 1 f))
  (ni:∀(ns:List Int),ns.length<=n->(∀i∈ns,Builtin.Int.intBits i<=1048576)->∃E o,f [(.no,.lst (ns.map D.int))]=some (.ok E (o,.bl true))):
  WalkO q qz XP YP l.row.toRowW d [] (λf vs=>PySem.call f vs):=by
 intro w s0 s1 mg mb G Y fa o pm cd gq dV kV ho hd ic hD hmg hg args bj as ml hlay hrd hwl pz;obtain⟨a,vs,ns,rfl,rfl,hobj,t6,ah⟩:=Att.script_of hn ml hwl;have KX:=hY w _ Y;obtain⟨fd,hb,hF⟩:=F w mg fa _ KX G.T.g hmg;refine enter_call (codeAny_mono (qxu KX G.T.g G.T.b G.T.builtins G.T.nolimit hg hobj t6 (Ye ah nu) hr hF hb (λH hO hS=>wvi (ni ns ah (qj1 hlay)) hS hO) (λ_ _ _ ⟨_,_,_,_,_,_,_,_,_,_,_,_,_,_,_,z⟩=>z)) λr s' hq=>?_);obtain⟨rfl,h2,h3,h4⟩:=hq;exact⟨.inl ⟨.bool true,.bool true,[],rfl,λ_=>rfl,.bool true,Att.post_true l _,λ_=>⟨List.Pairwise.nil,λ_ hm=>(nomatch hm)⟩⟩,h2,h3,h4⟩
end
section
variable {P:Program}{w:PySem.World}{K:Frag}{mg:Str->Option Value}{base h:Heap}{x:Str}{st:Stmt}{ps:List Str}{k:Nat}{sp:Sp}
noncomputable def Gf(K:Frag)(x:Str)(st:Stmt):Prop:=∃(f:Addr) (oc:Value) (od:Option Addr) (kV dc pm:Value) (an:Option Addr) (cd ct:Value) (sl:Array (Option Value)),nsIn K mainGlobals x=some (some (.ref f))/\K.lookup f=some ⟨oc,od,.func (PySem.W.fnOf x x (KQ st) (K1 st) (k5 st) .none kV dc pm an cd ct),sl⟩/\PySem.W.codeIn K cd x=true/\PySem.W.keepIn K (.ref f)=true
theorem Gf.mk{f oc od kV dc pm an cd ct sl}(a:nsIn K mainGlobals x=some (some (.ref f)))(l:K.lookup f=some ⟨oc,od,.func (PySem.W.fnOf x x (KQ st) (K1 st) (k5 st) .none kV dc pm an cd ct),sl⟩)(c:PySem.W.codeIn K cd x=true)(k:PySem.W.keepIn K (.ref f)=true):Gf K x st:=⟨f,oc,od,kV,dc,pm,an,cd,ct,sl,a,l,c,k⟩
theorem Gf.d(g:Gf K x st)(X:K.In h)(G:h.Ns mainGlobals mg)(ok:∀{f:Addr} {fd:FuncData},Fun K x x st f fd->FnOk P w K mg base (CXE P w) k f fd ps sp)
  (hb:∀(kV gq pm:Value) (an:Option Addr) (ba ct:Value) (us:List Value),us.length=ps.length->bindArgs (PySem.W.fnOf x x (KQ st) (K1 st) (k5 st) .none kV gq pm an ba ct) ⟨us,[]⟩=pure (ps.zip us):=by
   intro _ _ _ _ _ _ us hl
   first
   |exact xka us hl λ_=>rfl|exact xk9 us hl λ_ _=>rfl|exact xk8 us hl λ_ _ _=>rfl|exact xk7 us hl λ_ _ _ _=>rfl|exact xk6 us hl λ_ _ _ _ _=>rfl
   |exact len6 us hl λ_ _ _ _ _ _=>rfl):kz P w K mg base k x ps sp:=by
 obtain⟨f,oc,od,kV,dc,pm,an,cd,ct,sl,a,l,c,kp⟩:=g;exact⟨f,_,ok (qze l c kp),(qze l c kp).binds hb,kp,PySem.W.mg_of X G a⟩
theorem Gf.law{fa:Addr}{y:Str}(g:Gf K "law" st)(X:K.In h)(G:h.Ns mainGlobals mg)(hfa:mg "law"=some (.ref fa))(ok:∀{base:Heap} {f:Addr} {fd:FuncData},Fun K "law" "law" st f fd->FnOk P w K mg base (CXE P w) k f fd [y] sp)
  (hb:∀(kV gq pm:Value) (an:Option Addr) (ba ct:Value) (s:Shared) (v:Value),BindsTo s (PySem.W.fnOf "law" "law" (KQ st) (K1 st) (k5 st) .none kV gq pm an ba ct) ⟨[v],[]⟩ [(y,v)]:=by
   intros
   exact .of_eq rfl):
  ∃fd:FuncData,(∀(s:Shared) (v:Value),BindsTo s fd ⟨[v],[]⟩ [(y,v)])/\∀base:Heap,K.In base->base.Ns mainGlobals mg->FnOk P w K mg base (CXE P w) k fa fd [y] sp:=by
 obtain⟨f,oc,od,kV,dc,pm,an,cd,ct,sl,a,l,c,kp⟩:=g;have e:=hfa.symm.trans (PySem.W.mg_of X G a);cases e;exact⟨_,hb kV dc pm an cd ct,λbase _ _=>ok (qze l c kp)⟩
end
end Q
namespace Q
open PySem L2
theorem mkS{N P sc}(h1:autoParam (sc.kind=.function) Ŕ)(h2:autoParam (sc.isCoroutine=false) Ŕ)(h3:autoParam (sc.isGenerator=false) Ŕ)(h4:autoParam (N.Nodup) ŗ)(h5:autoParam (N.take P.length=P) Ŕ)(h6:autoParam (∀x∈P,sc.names.lookup x=some .local\/sc.names.lookup x=some .cell) ŗ)(h7:autoParam (∀y∈sc.names,y.2≠.free) ŗ):FnScope N P sc:=⟨h1,h2,h3,h4,h5,h6,h7⟩
end Q
namespace Q
open PySem PySem.Spec PyProof.Rows L2 L3
section
variable {X:Cx}{Z:Fx0}{pn:List Nat}{q qa:Bool}{a b c:Ex}{e ea eb:Expr}{pos p:Pos}
theorem kI{z j}:QE X Z true (cC (.int z)) (.Constant (.int z) j p):=q_C wqr λ_=>wW
theorem ki{z j}:QV X Z true (vE (cC (.int z))) (.Constant (.int z) j p):=j4 kI
theorem kN{j}:QE X Z true (cC .non) (.Constant .none j p):=q_C wqp λ_=>qw2
theorem kn{j}:QV X Z true (vE (cC .non)) (.Constant .none j p):=j4 kN
theorem kS{z j}(h:autoParam (z.length<=sizeLine) ŕ):QE X Z true (cC (.str z)) (.Constant (.str z) j p):=q_C vvm λ_=>VW h
theorem vv(i:Nat){x:Str}(hN:autoParam (X.N[i]?=some x) Ŕ)(hv:autoParam (Vis X.env.scope x) ř)(hd:autoParam ((x==("__debug__":Str))=false) ŕ)
  (ic:autoParam ((x==("__classdict__":Str))=false) ŕ):QV X Z true (vV i) (.Name x pos):=q_vV (pv i hN hv hd ic)
theorem cv(i:Nat){x:Str}(hN:autoParam (X.N[i]?=some x) Ŕ)(hv:autoParam (Vis X.env.scope x) ř)(hd:autoParam ((x==("__debug__":Str))=false) ŕ)
  (ic:autoParam ((x==("__classdict__":Str))=false) ŕ):QE X Z true (cV i) (.Name x pos):=q_V (pv i hN hv hd ic)
theorem kx(ha:QV X Z qa a ea)(hb:QV X Z true b eb)(hs:qj5 eb:=by exact λ_ _=>rfl)(hK:autoParam (X.K=Z.K) Ŕ):QV X Z qa (j8 a b) (.Subscript ea eb pos):=q_ix ha hb hs hK
theorem qA{i y b9}(hN:X.N.Nodup)(h:QE X Z q a ea)(hi:autoParam (X.N[i]?=some y) Ŕ)(hx:autoParam (Loc X.env.scope y) Ś)(hp:autoParam (i∉pn) ŕ)(hs:autoParam (swapsWith ea (some (.Name y b9)) pos.line X.env=pure false) Ŕ)(hf:autoParam (X.fn y=true\/X.env.scope.names.lookup y=some .local) Ř):
  QS X Z pn (jk i a) (.Assign [.Name y b9] ea pos):=wz9 hN hi hx h hp hs hf
theorem gn{i x}(hN:X.N.Nodup)(hi:autoParam (X.N[i]?=some x) Ŕ)(hx:autoParam (Loc X.env.scope x) Ś)(hf:autoParam (X.fn x=true\/X.env.scope.names.lookup x=some .local) Ř):PG X (.Name x pos) (qzd i):=J0 hN hi hx hf
theorem gN{i x}(hN:X.N.Nodup)(hi:autoParam (X.N[i]?=some x) Ŕ)(hx:autoParam (Loc X.env.scope x) Ś)(hf:autoParam (X.fn x=true\/X.env.scope.names.lookup x=some .local) Ř)(hp:autoParam (i∉pn) ŕ):QG X Z pn (.n i) (.Name x pos):=wky (J0 hN hi hx hf) hp
theorem qC{k m n x ps f cs es}(D:kz X.prog X.w X.K X.mg X.base k x ps (spF Z.K Z.mg n f))(hr:Room m X.A)(ha:QA X Z q cs (e::es))(g:xw X Z.EX:=by exact Q7)(ef:autoParam (k<=m) ŕ)(hn:autoParam (cs.length=n) Ŕ)(hg:autoParam (Gl X x) Ŕ)(fq:autoParam ((x==("__debug__":Str))=false) ŕ)
  (he:autoParam (starEach (e::es) X.env=(false,eval e X.env)::starEach es X.env) Ŕ) (cg:autoParam ((backTo pos (starEach es X.env)).any (·.1)=false) Ŕ):
  QE X Z q (jw f cs) (.Call (.Name x p) (e::es) [] pos):=wq3 D (hr.mono ef) g ha hn hg fq he cg
theorem qF{tg ak:Expr}{ss:List Stmt}{it:Ev (List D)}{t:Tg}{B:Sm}(hi:QI X Z q tg it ak)(hg:QG X Z pn t tg)(hb:QSs X Z pn B ss)(hp:PassesOwn (model X.prog X.w) X.A X.env X.xe:=by exact wqy ⟨_,_,rfl,rfl⟩)(hc:autoParam (X.calm=true) Ŕ)(hs:autoParam (∀x,foldedSetIterable ak X.env x=pure x) Ŗ):QS X Z pn (qw it t B) (.For tg ak ss [] pos):=wz6 hp hc hi hg hb hs
theorem oA(ha:QV X Z qa a ea)(hb:QV X Z true b eb)(hK:autoParam (X.K=Z.K) Ŕ):QE X Z qa (cF2 jK a b) (.BinOp ea .Add eb pos):=vq (wv3 hK) wwx ha hb
theorem oX(ha:QV X Z qa a ea)(hb:QV X Z true b eb)(hK:autoParam (X.K=Z.K) Ŕ):QE X Z qa (cF2 zj a b) (.BinOp ea .Mult eb pos):=vq (wv1 hK) wj8 ha hb
theorem oM(ha:QV X Z qa a ea)(hb:QV X Z true b eb):QE X Z qa (cF2 (pu2 kJ) a b) (.BinOp ea .Mod eb pos):=vq wqz wws ha hb
theorem qP{i:Nat}{x:Str}{apos ae xp:Pos}(h:QE X Z q c e)(hN:autoParam (X.N[i]?=some x) Ŕ)(hv:autoParam (Vis X.env.scope x) ř)(hd:autoParam ((x==("__debug__":Str))=false) ŕ)
  (ic:autoParam ((x==("__classdict__":Str))=false) ŕ) (be:autoParam (attributeBase (.Name x xp) "append" X.env (eval (.Name x xp) X.env)=eval (.Name x xp) X.env) Ŕ)
  (dq:autoParam (((backTo ae (starEach [e] X.env)).all (λx=>!x.1)&&(backToKw ae (keywordEach [] X.env)).all (λx=>x.1.isSome)
   && decide ([e].length+([]:List Keyword).length+(if([]:List Keyword).isEmpty then 0 else 1)<30))=true) Ŕ)
  (bf:autoParam ((apos.endLine==ae.line)=true) Ŕ) (hs:autoParam (starEach [e] X.env=(false,eval e X.env)::starEach [] X.env) Ŕ) (bg:autoParam ((backTo ae (starEach [] X.env)).any (·.1)=false) Ŕ) (hK:autoParam (X.K=Z.K) Ŕ)
  (oi:autoParam (swapsWith (.Call (.Attribute (.Name x xp) "append" apos) [e] [] ae) none pos.line X.env=pure false) Ŕ):
  QS X Z pn (qY qX i c) (.Expr (.Call (.Attribute (.Name x xp) "append" apos) [e] [] ae) pos):=wza (qwy Z.K PySem.F.plainAttrs_list PySem.F.slot_list_append PySem.F.type_list_append qx8 (pv i hN hv hd ic) (vw h vQ hs) be dq bf hs bg hK) oi
theorem qL(ha:QV X Z q a ea)(hm:X.mg "len"=none)(hK:autoParam (X.K=Z.K) Ŕ)(hg:autoParam (Gl X "len") Ŕ)(he:autoParam (starEach [ea] X.env=(false,eval ea X.env)::starEach [] X.env) Ŕ)(cg:autoParam ((backTo pos (starEach [] X.env)).any (·.1)=false) Ŕ):QE X Z q (cF1 (pu1 qZ) a) (.Call (.Name "len" p) [ea] [] pos):=wz7 (hK▸wj0 X.K) wwt ha hm vwe hg ⋯ ⋯ he cg
theorem qT(ha:QV X Z q a ea)(hm:X.mg "tuple"=none)(hK:autoParam (X.K=Z.K) Ŕ)(hg:autoParam (Gl X "tuple") Ŕ)(he:autoParam (starEach [ea] X.env=(false,eval ea X.env)::starEach [] X.env) Ŕ)(cg:autoParam ((backTo pos (starEach [] X.env)).any (·.1)=false) Ŕ):QE X Z q (cF1 xz a) (.Call (.Name "tuple" p) [ea] [] pos):=Jq (vj7 hK) vqw ha hm kj3 hg ⋯ ⋯ he cg
variable {ak f7 tg:Expr}{dy:List Expr}{scope:Scope}{it:Ev (List D)}{tt:Tg}{u:Ts}
theorem qm(o:Own)(k:Nat)(R:List Nat)(m:Nat)(N:List Str)(hi:QI X Z q tg it ak)
  (hg:N.Nodup->∀cl C s0 H0 fp,QG (lcE X scope N cl C s0 H0 fp Z.EX) Z ((List.range R.length).map (k + ·)) tt tg) (ht:∀cl C s0 H0 fp,PTs (lcE X scope N cl C s0 H0 fp Z.EX) dy (tT Z q u)) (he:∀cl C s0 H0 fp,QE (lcE X scope N cl C s0 H0 fp Z.EX) Z q c f7)
  (hN:autoParam (N.Nodup) ŗ) (gx:xw X Z.EX:=by exact Q7) (top:zV X:=by exact⟨_,_,rfl,rfl⟩) (hR:autoParam (R.Nodup) ŕ) (hm:autoParam (X.N.length=m) Ŕ) (hr:autoParam (∀j∈R,j<m) ŕ) (hc:autoParam (X.calm=true) Ŕ) (hk:autoParam (scope.kind=.function) Ŕ) (jd:autoParam (K7 X.N X.env.scope scope N k R=true) Ŕ) (hs:autoParam (∀x,foldedSetIterable ak X.env x=pure x) Ŗ):
  QE X Z q (cLC o k R it tt u c) (.ListComp f7 [⟨tg,ak,dy,0⟩] scope pos):=xk3 N hi (hg hN) ht he gx top hR (hm▸hr) hc hk jd hs
theorem qM{x:Str}{p':Pos}(o:Own)(k:Nat)(R:List Nat)(m:Nat)(N:List Str)(hi:QI X Z q (.Name x p') it ak)(he:∀cl C s0 H0 fp,QE (lcE X scope N cl C s0 H0 fp Z.EX) Z q c f7)
  (hN:autoParam (N.Nodup) ŗ) (gx:xw X Z.EX:=by exact Q7) (top:zV X:=by exact⟨_,_,rfl,rfl⟩) (hR:autoParam (R.Nodup) ŕ) (hm:autoParam (X.N.length=m) Ŕ) (hr:autoParam (∀j∈R,j<m) ŕ) (hc:autoParam (X.calm=true) Ŕ) (hk:autoParam (scope.kind=.function) Ŕ) (jd:autoParam (K7 X.N X.env.scope scope N k R=true) Ŕ) (hs:autoParam (∀x,foldedSetIterable ak X.env x=pure x) Ŗ)
  (hg:N.Nodup->∀cl C s0 H0 fp,QG (lcE X scope N cl C s0 H0 fp Z.EX) Z ((List.range R.length).map (k + ·)) (.n 0) (.Name x p'):=by exact λh _ _ _ _ _=>wky (J0 (i:=0) h rfl (by trivial))):
  QE X Z q (cLC o k R it (.n 0) tYes c) (.ListComp f7 [⟨.Name x p',ak,[],0⟩] scope pos):=xk3 N hi (hg hN) (λ_ _ _ _ _=>wkq) he gx top hR (hm▸hr) hc hk jd hs
end
end Q
namespace Q
noncomputable def ddS(ss:List PySem.Str):List PySem.Str:=ss.foldl (λl k=>if l.any (· == k)then l else l++[k]) []
noncomputable def Zk:Sd->Option Sd:=λx=>match x.2 with
 |.lst ds=>(match J7 ds with
  |some ss=>if ss.length<64 then some (.rt,.lst ((wX (ddS ss)).map .str))else none
  |none=>none)
 |_=>none
end Q
namespace Sw
open PySem PyProof.Rows
section
variable {prog:Program}{w:World}{A:Around}{E:VP9}{s:Shared}
def tx(w:World):Bool:=w.params.followText "set-order"
structure Ok (prog:Program)(w:World)(o:Obj)(es:Array (Int×Value))(ep:Nat)(t:SetTable):Prop where
 ex:o.ExactSet
 d:o.data=.set es ep t
 el:ElemsOf (PySem.strKind prog w) es.toList
 b:es.size<scanBound
 f:t.fits es.size=true
 led:t.led=!tx w
 pl:t.plain=false\/es.size=0
def Wx(es:List (Int×Value)):List Str:=es.map λe=>strOf e.2
noncomputable def Has(prog:Program)(w:World)(h:Heap)(a:Addr)(ls:List Str):Prop:=∃o es ep t,h.get? a=some o/\Ok prog w o es ep t/\(Wx es.toList).Perm ls
theorem vw5{l:List (Int×Value)}(h:ElemsOf (PySem.strKind prog w) l){e:Int×Value}(he:e∈l):∃k t,e.2=.str k t:=by
 obtain⟨⟨k,hk,_⟩,_⟩:=h e he;obtain⟨t,ht⟩:=Value.isStrOf_shape hk;exact⟨k,t,ht⟩
theorem wvx{l:List (Int×Value)}(h:ElemsOf (PySem.strKind prog w) l)(k:Str):(∃e∈l,(PySem.strKind prog w).is k e.2=true)↔k∈Wx l:=by
 unfold Wx;rw[List.mem_map];constructor
 ·rintro ⟨e,he,hk⟩;obtain⟨t,ht⟩:=Value.isStrOf_shape hk;exact⟨e,he,by rw[ht];rfl⟩
 ·rintro ⟨e,he,hk⟩;obtain⟨k',t,ht⟩:=vw5 h he;rw[ht]at hk;cases(show k'=k from hk);exact⟨e,he,by rw[ht];exact strKind_is _ _ _ _⟩
theorem vz8(t:SetTable)(es:Array (Int×Value))(h:Int)(x:Value):(layNew t es h x).2.1.led=t.led/\((layNew t es h x).2.1.plain=true->t.plain=true):=by
 unfold layNew
 split
 ·rename_i slot wd _;show((t.put slot).1.orStandIn _).led=_/\(((t.put slot).1.orStandIn _).plain=true->_);unfold SetTable.orStandIn
  split
  ·exact⟨rfl,λh=>h⟩
  ·exact⟨rfl,λh=>nomatch h⟩
 ·exact⟨rfl,λh=>nomatch h⟩
theorem qw3(t:SetTable)(es:Array (Int×Value))(n:Nat):(relayAll t es n).2.1.led=t.led/\((relayAll t es n).2.1.plain=true->t.plain=true):=by
 unfold relayAll
 split
 ·rename_i t' df hr;dsimp only
  split
  ·unfold SetTable.relaid SetTable.laid at hr;rw[Option.bind_eq_bind,Option.bind_eq_some_iff]at hr;obtain⟨ow,_,e⟩:=hr;cases oq9 e;exact⟨rfl,λh=>h⟩
  ·exact⟨rfl,λh=>nomatch h⟩
 ·exact⟨rfl,λh=>nomatch h⟩
theorem vjy{h:Heap}{a o es es' ep t t'}(ho:h.get? a=some o)(hd:o.data=.set es ep t):(h.update a (Obj.putSet es' t')).get? a=some {o with data:=.set es' (ep+1) t' }:=by
 have:=Xz (Obj.putSet es' t') ho (by rw[putSet_of es' t' hd];rfl)
 rwa [putSet_of es' t' hd]at this
theorem tail{g:Bool->Sem Unit}(hg:∀b (s₁) (Q'),Q' () s₁->wpAny (model prog w) A (g b) Q' E s₁)
  {a o es bp ep t t2 ls wasDummy R} (ho:s.heap.get? a=some o) (hd:o.data=.set es ep t) (hex:o.ExactSet)
  (hel:ElemsOf (PySem.strKind prog w) bp.toList) (hb:bp.size<scanBound) (hf:t2.fits bp.size=true) (qi:t2.led=!tx w) (cg:t2.plain=false) (hp:(Wx bp.toList).Perm ls)
  (h:∀h',Heap.SameBut a s.heap h'->Has prog w h' a ls->R (some true) {s with heap:=h' }):
  wpAny (model prog w) A (do
    storeSet a bp t2
    if(!wasDummy&&t2.tooFull)=true then do
      g (relayAll t2 bp (SetTable.grown bp.size)).2.2
      storeSet a (relayAll t2 bp (SetTable.grown bp.size)).1 (relayAll t2 bp (SetTable.grown bp.size)).2.1
      pure (some true)
     else pure (some true)) R E s:=by
 refine X0 (wpAny_storeSet_of ho hd ?_ (fits_of_scanBound hb));have dl:=vjy (es':=bp) (t':=t2) ho hd;have jc:=Y9 s.heap a (Obj.putSet bp t2)
 split
 ·have r1:=relayAll_perm t2 bp (SetTable.grown bp.size);have r2:=relayAll_fits t2 bp (SetTable.grown bp.size);obtain⟨r3,r4⟩:=qw3 t2 bp _;generalize relayAll t2 bp _=V at r1 r2 r3 r4 ⊢;obtain⟨es2,t3,gv⟩:=V;have hz:es2.size=bp.size:=by rw[<-Xd,r1.length_eq,Xd]
  refine X0 (hg _ _ _ (X0 (wpAny_storeSet_of dl rfl (X2 (h _ (jc.trans (Y9 _ a _)) ⟨_,es2,_,t3,vjy dl rfl,⟨hex,rfl,hel.perm r1,by rw[hz];exact hb,r2,r3.trans qi,.inl ?_⟩,(r1.map _).trans hp⟩)) (fits_of_scanBound (hz▸hb)))));cases hq:t3.plain with|false=>rfl|true=>grind
 ·exact X2 (h _ jc ⟨_,bp,_,t2,dl,⟨hex,rfl,hel,hb,hf,qi,.inl cg⟩,hp⟩)
theorem add{a k tk ls Q}(hS:Has prog w s.heap a ls)(hl:ls.length+1<scanBound)
  (h:∀b h',Heap.SameBut a s.heap h'->Has prog w h' a (step_dedup ls k)->Q b {s with heap:=h' }):wpAny (model prog w) A (setAddHashed a (.str k tk) ((PySem.strKind prog w).hash k)) Q E s:=by
 obtain⟨o,es,ep,t,ho,hk,hp⟩:=hS;have hsz:es.size=ls.length:=by rw[<-hp.length_eq];unfold Wx;rw[X4,Xd]
 have jm:(PySem.strKind prog w).is k (.str k tk)=true:=strKind_is _ _ _ _;have hmk:(∃e∈es.toList,(PySem.strKind prog w).is k e.2=true)↔k∈ls:=(wvx hk.el k).trans hp.mem_iff;unfold setAddHashed setAddHashedIn;refine Xu (X0 (Y7 ho hk.d hk.f ?_));dsimp only;rw[byScan_of rfl hk.b hk.el];simp only[↓reduceIte];unfold setAddByScan;refine X0 (X0 (Zb (X0 (wpAny_setScan_of jm ho hk.d hk.f hk.el ?_))));cases hr:List.findIdx? (λe=>(PySem.strKind prog w).is k e.2) es.toList with
 | some j=>
  dsimp only;obtain⟨hj,hpj,_⟩:=List.findIdx?_eq_some_iff_getElem.mp hr;have gu:k∈ls:=hmk.mp ⟨_,Y3 hj,hpj⟩;have b6:step_dedup ls k=ls:=by unfold step_dedup;rw[X9 (List.any_eq_true.mpr ⟨k,gu,by simp⟩)]
  refine X2 (X2 ?_);have:=h false s.heap (Heap.SameBut.refl a s.heap) (by rw[b6];exact⟨o,es,ep,t,ho,hk,hp⟩)
  simp_all
 | none=>
  dsimp only;have hni:k∉ls:=λgu=>by
   obtain⟨e,he,hq⟩:=hmk.mpr gu
   grind
  have b6:step_dedup ls k=ls++[k]:=by
   unfold step_dedup
   simp_all
  rw[b6]at h;have hgw:∀b {s₁ Q'},Q' () s₁->wpAny (model prog w) A (match b with|true=>PySem.rule "set.scan.the-table-gave-way" | false=>pure ()) Q' E s₁:=
   λb s₁ Q' hq=>by cases b<;>first|exact X2 hq|exact Zb hq
  have l1:=layNew_perm t es ((PySem.strKind prog w).hash k) (.str k tk);have l2:=layNew_fits t es ((PySem.strKind prog w).hash k) (.str k tk);obtain⟨l3,l4⟩:=vz8 t es ((PySem.strKind prog w).hash k) (.str k tk);generalize layNew t es ((PySem.strKind prog w).hash k) (.str k tk)=V at l1 l2 l3 l4 ⊢;obtain⟨bp,t1,wd,gv⟩:=V;dsimp only at l1 l2 l3 l4 ⊢;rw[Array.toList_push]at l1;have su:ElemsOf (PySem.strKind prog w) bp.toList:=(hk.el.push jm rfl).perm l1;have i5:bp.size=ls.length+1:=by rw[<-Xd,l1.length_eq,Xk,Xd,hsz];rfl
  have hp1:(Wx bp.toList).Perm (ls++[k]):=by
   refine(l1.map λe=>strOf e.2).trans ?_;rw[Xs];exact hp.append (List.Perm.refl _)
  refine X0 (hgw _ ?_)
  split
  ·refine X0 ?_;rw[hashByValue_scannable 8 rfl];refine X2 (tail ?_ ho hk.d hk.ex su (i5▸hl) (SetTable.fits_plain_off l2) (l3.trans hk.led) rfl hp1 λh' a1 a2=>?_)
   ·intro b s₁ Q' hq;cases b<;>first|exact X2 hq|exact Zb hq
   ·exact X2 (h true h' a1 a2)
  ·rename_i cg;refine X0 (X2 (tail ?_ ho hk.d hk.ex su (i5▸hl) l2 (l3.trans hk.led) (show t1.plain=false from Bool.eq_false_iff.mpr cg) hp1 λh' a1 a2=>?_))
   ·intro b s₁ Q' hq;cases b<;>first|exact X2 hq|exact Zb hq
   ·exact X2 (h true h' a1 a2)
def dd(ss:List Str):List Str:=ss.foldl step_dedup []
theorem vzv{ss:List Str}{i:Nat}{x:Str}(h:ss[i]?=some x):dd (ss.take (i+1))=step_dedup (dd (ss.take i)) x:=by
 obtain⟨hl,e⟩:=List.getElem?_eq_some_iff.mp h;unfold dd;rw[List.take_succ,h,List.foldl_append];rfl
theorem wwh(ss:List Str):(dd ss).length<=ss.length:=foldl_step_dedup_nil_length_le ss
theorem qvn:∀{vs:List Value} {ss:List Str},StrsAre vs ss->∀(i:Nat) (v:Value),vs[i]?=some v->∃x t,v=.str x t/\ss[i]?=some x
 |_,_,.nil,i,v,h=>by cases i<;>cases h|_,_,.cons x t r,0,v,h=>by cases oq9 h;exact⟨x,t,rfl,rfl⟩|_,_,.cons x t r,i+1,v,h=>qvn r i v h
theorem kqj:∀{vs:List Value} {ss:List Str},StrsAre vs ss->vs.length=ss.length
 |_,_,.nil=>rfl|_,_,.cons x t r=>congrArg (· + 1) (kqj r)
theorem Has.same{h h' a ls}(x:Has prog w h a ls)(e:∀o,h.get? a=some o->h'.get? a=some o):Has prog w h' a ls:=by
 obtain⟨o,es,ep,t,ho,r⟩:=x;exact⟨o,es,ep,t,e _ ho,r⟩
theorem loop{R I fp wr G n P St}(W:WalksS prog w A.in1 I fp wr G n P St)(S)(iy:S∉fp)
  {ss} (hn:ss.length=n) (gl:∀i v,P i v->∃x t,v=.str x t/\ss[i]?=some x) (hb:n+1<scanBound):∀k i (s),n - i=k->i<=n->St i s->Has prog w s.heap S (dd (ss.take i)) ->
   (∀s',Moved (S::wr) G s s'->Has prog w s'.heap S (dd ss)->R (.ok (.ret .none)) s')->codeAny (model prog w) A (.builtin "set.update.loop" ⟨[.ref S,.ref I],[]⟩) R s:=by
 have mr:S∉wr:=λh=>iy (W.sub _ h)
 have de:∀b∈wr,b∈S::wr:=λb hb=>lc9 _ hb
 intro k
 induction k with
 | zero=>
  intro i s hk hi b6 hS hR;cases(show i=n by lia);refine Yi F.entry_set_update_loop ?_;rw[Yq F.plain_set_update_loop _];show wpAny _ A.in1 (pyNext (.ref I) >>= _) _ _ s;refine X0 (W.done s _ _ b6 λs' hm=>(X2 (hR s' (hm.mono de) ?_)));rw[<-hn,List.take_length]at hS;exact hS.same λo e=>hm.heap S _ mr e
 | succ k ih=>
  intro i s hk hi b6 hS hR;refine Yi F.entry_set_update_loop ?_;rw[Yq F.plain_set_update_loop _];show wpAny _ A.in1 (pyNext (.ref I) >>= _) _ _ s;refine X0 (W.item i s _ _ ⋯ b6 λv s' hP lm hm=>?_);obtain⟨x,t,rfl,hx⟩:=gl i v hP;have fm:Has prog w s'.heap S (dd (ss.take i)):=hS.same λo e=>hm.heap S _ mr e
  show wpAny _ A.in1 (holding [Value.str x t] (setAdd S (.str x t)) >>= _) _ _ s';refine X0 (Xu ?_);unfold setAdd;refine Xu (X0 ((PySem.strKind prog w).pyHash (k:=x) (strKind_is _ _ _ _) ?_));have ef:(dd (ss.take i)).length+1<scanBound:=by have:=wwh (ss.take i);rw[Yr]at this;lia
  refine add fm ef λb h' a1 a2=>?_
  rw[<-vzv hx]at a2;refine X2 ⟨Z9 F.plain_set_update_loop _,ih (i+1) _ ⋯ ⋯ (W.frame _ s' _ _ lm (Z8 _) λb hb o e=>?_) a2 λji ko lg=>?_⟩
  ·rw[a1.2 b (λh:b=S=>iy (h▸hb))];exact e
  ·refine hR ji (Moved.trans W.gtrans ((hm.mono de).then_heap (Z8 _) λb o hb e=>?_) ko) lg;rw[a1.2 b (λh:b=S=>hb (h▸X5))];exact e
noncomputable def fresh(w:World):Obj:={cls:=.type "set",dict:=none,data:=.set #[] 0 (.fresh 0 0 (!tx w))}
theorem qzf{h:Heap}{a:Addr}(e:h.get? a=some (fresh w)):Has prog w h a []:=
 ⟨_,#[],0,.fresh 0 0 (!tx w),e,⟨⟨rfl,rfl,rfl⟩,rfl,(λe he=>nomatch he),⋯,by rfl,rfl,.inr rfl⟩,.refl _⟩
theorem made(a){Q₁}(h:Q₁ (.ref s.heap.objs.size) {s with heap:=s.heap.push (fresh w)}):
  codeAny (model prog w) A (.call (.builtin "set.__new__") ⟨[.type "set",a],[]⟩) (wants Q₁ E) s:=by
 refine codeAny_of_tree ?_;show wpAny _ A.in1 (do checkBuiltinCall "set.__new__" ⟨[.type "set",a],[]⟩;again (.builtin "set.__new__" ⟨[.type "set",a],[]⟩)) _ _ s;refine X0 (wpAny_of_eq (F.newCall_set_1 a) (X2 ⟨Z9 F.plain_set_new _,Yi F.entry_set_new ?_⟩));rw[Yq F.plain_set_new _];unfold Builtin.«set.__new__» Builtin.Frozenset.newClass;have de:=sub_set_self;obtain⟨hp,g,d,tk,os⟩:=s;dsimp only
 wp_walk
 refine wpAny_askSetting (X2 ?_);dsimp only;simp only[newObj];exact X0 (wpAny_alloc (X2 (X2 h)))
set_option maxHeartbeats 8000000 in
theorem vqn{l:Addr}{items:Array Value}{ss:List Str}{Q:VP9}(hh:A.handled=none)(hl:s.heap.IsList l items)(hi:StrsAre items.toList ss)(hb:items.size+1<scanBound)
  (h:∀(h':Heap) (tk:Nat),Has prog w h' s.heap.objs.size (dd ss)->(∀b o,b<s.heap.objs.size->s.heap.get? b=some o->h'.get? b=some o)->Q (.ref s.heap.objs.size) {s with heap:=h',toks:=tk}):
  wpAny (model prog w) A (call (.type "set") [.ref l]) Q E s:=by
 obtain⟨c,tl,hmro⟩:=F.called_set.mro;have qr:=F.called_set.made;have de:=F.called_set.sub;refine wpAny_call (codeAny_of_tree ?_);show wpAny _ _ (callAny (.type "set") _) _ _ _;refine X2 ⟨Code.quiet_builtin _ (by decide +kernel),Yi F.entry_type_call ?_⟩;rw [Around.under_plain (weight_type_call_type "set" [.ref l] []) rfl];have h1:=F.called_set.notType;have h2:=F.called_set.canCreate;have hct:=F.typeCall_set_1 (.ref l)
 repeat (any_goals (first|assumption|wp_step))
 refine codeAny_mono (made (.ref l) (E:=E) (Q₁:=λobj s₁=>obj=.ref s.heap.objs.size/\s₁={s with heap:=s.heap.push (fresh w)}) ⟨rfl,rfl⟩) λr s₁ hr=>?_
 cases r with
 | error e=>exact hr
 | ok fl=>
 cases fl with
 | ret obj=>
  obtain⟨rfl,rfl⟩:=hr;have hS:(s.heap.push (fresh w)).get? s.heap.objs.size=some (fresh w):=X6 _ rfl;have hT:Shared.TypeIs {s with heap:=s.heap.push (fresh w)} (.ref s.heap.objs.size) "set":=⟨_,hS,rfl⟩;have hli:=F.called_set.init.lookup;have hbi:=F.called_set.init.bind (.ref s.heap.objs.size)
  repeat (any_goals (first|assumption|wp_step))
  refine codeAny_mono (codeAny_call_builtin (R:=wants (λr s₂=>r=.none/\∃h' tk,s₂={s with heap:=h',toks:=tk}/\Has prog w h' s.heap.objs.size (dd ss) /\
    (∀b o,b<s.heap.objs.size->s.heap.get? b=some o->h'.get? b=some o)) E) F.called_set.init.plain F.entry_set_init (check_set_init_1 hT ?_)) λr₂ s₂ ou=>?_
  ·obtain⟨ol,np,cb,nl,nw⟩:=hl;obtain⟨ocls,lr,tz,ib⟩:=ol;simp only at cb nw;subst cb;subst nw;have ny:(s.heap.push (fresh w)).get? l=some {cls:=.type "list",dict:=lr,data:=.seq items nl,slots:=ib}:=X1 _ np;have hsls:=F.sub_list_set;have hslf:=F.sub_list_frozenset;have cw:(Value.type "list" == Value.type "dict")=false:=⋯
   have fj:(s.heap.push (fresh w)).IsList l items:=⟨_,ny,rfl,nl,rfl⟩;have mz:l<s.heap.objs.size:=Xa np;have og:({cls:=.type "set",dict:=none,data:=.set #[] 0 (.fresh 0 0 (!tx w))}:Obj)=fresh w:=rfl;unfold Builtin.«set.__init__» noKeywords Builtin.Frozenset.updateFrom;generalize hPI:pyIter=PI
   wp_walk
   subst hPI;refine wpAny_pyIter_list fj ?_;refine X0 (wpAny_runValue ?_);have hh3:A.in1.in1.in1.handled=none:=by simp[hh]
   have hsz:(s.heap.push (fresh w)).objs.size=s.heap.objs.size+1:=Yv ..;refine loop ((Walks.list hh3 _ l (by rw[hsz];exact Xe (Y6 mz)) items).toS) s.heap.objs.size (by rw[hsz];simp only[Yn,Yc,or_false,not_or];exact⟨Xe (Za _),Zg mz⟩) (ss:=ss) ?_ (λi v hv=>qvn hi i v (by rw[Xp];exact hv)) hb (items.size - 0) 0 _ ⋯ (Yf _)
    ⟨⟨_,X6 _ rfl,rfl,rfl⟩,fj.push _⟩ ?_ ?_
   ·rw[<-kqj hi,Xd]
   ·exact qzf (X1 _ hS)
   ·intro s' hm fm;obtain⟨h',g',d',mw,nq⟩:=s';have eg:g'=s.gens:=hm.gens;have ed:d'=s.drawn:=hm.drawn;have eo:nq=s.os:=hm.os;subst eg;subst ed;subst eo;show wpAny _ _ _ _ _ _;refine X2 ?_;show wpAny _ _ (ret Value.none) _ _ _;refine X2 ⟨rfl,h',mw,rfl,fm,λb o hb e=>?_⟩;exact hm.heap b o (by simp only[Yn,Yc,or_false,not_or];rw[hsz];exact⟨Xe hb,Xe (Y6 hb)⟩) (X1 _ (X1 _ e))
  ·cases r₂ with
   | error e=>exact ou
   | ok fl₂=>
    cases fl₂ with
    |ret r=>
     obtain⟨rfl,h',tk,rfl,fm,cj⟩:=ou
     repeat (any_goals (first|assumption|wp_step))
     exact h _ _ fm cj
    |_=>exact ou.elim
 |_=>exact hr.elim
end
theorem slot_next:Slot "set_iterator" "__next__" "set_iterator.__next__" :=
 .of (owner:="set_iterator") (n:="__next__") (by kernel_rfl) (by decide +kernel) (by decide +kernel) (by decide +kernel)
  (by first|exact .inl (by decide +kernel)|exact .inr (by decide +kernel)) (by rw[isSubtype_type];kernel_rfl)
theorem kw1:Slot "set_iterator" "__iter__" "set_iterator.__iter__" :=
 .of (owner:="set_iterator") (n:="__iter__") (by kernel_rfl) (by decide +kernel) (by decide +kernel) (by decide +kernel)
  (by first|exact .inl (by decide +kernel)|exact .inr (by decide +kernel)) (by rw[isSubtype_type];kernel_rfl)
theorem jwe:entryFor table "set_iterator.__next__"=some Builtin.«set_iterator.__next__»:=entryFor_of_tree (by kernel_rfl)
theorem qv3:entryFor table "set_iterator.__iter__"=some Builtin.«dict_keyiterator.__iter__»:=entryFor_alias (id':="dict_keyiterator.__iter__") (by kernel_rfl) rfl (by decide +kernel) (by kernel_rfl)
theorem kq6:entryFor table "set.__iter__"=some Builtin.«frozenset.__iter__»:=entryFor_alias (id':="frozenset.__iter__") (by kernel_rfl) rfl (by decide +kernel) (by kernel_rfl)
theorem jxp(a):argsOk "set_iterator.__next__" ⟨[a],[]⟩:=by kernel_rfl
theorem vjf(a):argsOk "set_iterator.__iter__" ⟨[a],[]⟩:=by kernel_rfl
theorem kxo(a):argsOk "set.__iter__" ⟨[a],[]⟩:=by kernel_rfl
section
variable {prog:Program}{w:World}{A:Around}{E:VP9}{s:Shared}
theorem wwm{src n Q}(hn:n≠0)(h:∀i d,i<n->Q i {s with drawn:=d}):wpAny (model prog w) A (choose src n) Q E s:=
 λ_ _ _=>⟨hn,h _ _ (Nat.mod_lt _ (Nat.pos_of_ne_zero hn))⟩
theorem V2{α:Type}:∀{l:List α} {i} (h),(l[i]::l.eraseIdx i).Perm l
 |a::l,0,h=>List.Perm.refl _
 |a::l,i+1,h=>by
  exact(List.Perm.swap a _ _).trans ((V2 (Nat.lt_of_succ_lt_succ h)).cons a)
theorem drawn{α}:∀n xs s {Q:List α->Shared->Prop},xs.length=n->(∀ys d,ys.Perm xs->Q ys {s with drawn:=d})->wpAny (model prog w) A (drawOrder n xs) Q E s
 | 0,xs,s,Q,hl,h=>by
  cases xs with|nil=>exact X2 (h [] s.drawn (.refl _))|cons=>cases hl
 | n+1,xs,s,Q,hl,h=>by
  cases xs with
  |nil=>cases hl
  |cons x xs=>
   unfold drawOrder;refine X0 (wwm (by simp) λi d hi=>?_);rw[X3 hi];exact X0 (drawn n _ _ (by rw[List.length_eraseIdx,X9 hi];exact Nat.succ.inj hl) λys d' hp=>(X2 (h _ d' ((hp.cons _).trans (V2 hi)))))
theorem qwu{α}(f):∀n k (l) (out:Array α),l.length=n->(pickOrder.go f n k l out).toList.Perm (out.toList++l)
 |0,k,l,out,hl=>by
  cases l with|nil=>unfold pickOrder.go;simp|cons=>cases hl
 |n+1,k,l,out,hl=>by
  have hi:f k % l.length<l.length:=Nat.mod_lt _ ⋯;unfold pickOrder.go;rw[X3 hi];refine(qwu f n _ _ _ (by rw[List.length_eraseIdx,X9 hi];lia)).trans ?_;rw[Array.toList_push,Y0];exact(List.Perm.refl _).append (V2 hi)
theorem jxd{α} f (xs:Array α):(pickOrder f xs).toList.Perm xs.toList:=by
 exact qwu f _ 0 _ #[] (by simp)
end
section
variable {prog:Program}{w:World}{A:Around}{E:VP9}{s:Shared}
noncomputable def It(h:Heap)(I a:Addr)(f:Value)(i n ep:Nat):Prop:=∃o,h.get? I=some o/\o.cls=.type "set_iterator"/\o.data=.fields #[f,.int i 0,.ref a,.int n 0,.int ep 0]
theorem It.at'{h h':Heap}{I a:Addr}{f:Value}{i n ep:Nat}(x:It h I a f i n ep)(e:∀o,h.get? I=some o->h'.get? I=some o):It h' I a f i n ep:=by
 obtain⟨o,ho,r⟩:=x;exact⟨o,e _ ho,r⟩
noncomputable def Stn(h:Heap)(a:Addr)(n ep:Nat):Prop:=∃o es t,h.get? a=some o/\o.data=.set es ep t/\t.fits es.size=true/\es.size=n
theorem qvw{I a:Addr}{f:Value}{i n ep:Nat}{Q:VP9}(f9:It s.heap I a f i n ep)(h:Q (.ref I) s):wpAny (model prog w) A (pyIter (.ref I)) Q E s:=by
 obtain⟨o,ho,hc,hd⟩:=f9;have hT:s.TypeIs (.ref I) "set_iterator":=⟨o,ho,hc⟩;refine wpAny_pyIter_slot hT kw1 (Xy kw1 hT qv3 ?_ (vjf _));exact X2 ⟨_,rfl,"set_iterator",_,hT,slot_next.lookup,h⟩
theorem wvv{I a:Addr}{sl nx i n ep:Nat}{v:Value}{Q:Option Value->Shared->Prop}(f9:It s.heap I a (.int sl 0) i n ep)(hs:Stn s.heap a n ep)
  (hN:∀(A':Around) (E':VP9) (R:Option (Value×Nat)->Shared->Prop),R (some (v,nx)) s->wpAny (model prog w) A' (setNext a sl i ep) R E' s)
  (hQ:∀h',It h' I a (.int nx 0) (i+1) n ep->Heap.SameBut I s.heap h'->Q (some v) {s with heap:=h' }):wpAny (model prog w) A (pyNext (.ref I)) Q E s:=by
 obtain⟨o,ho,hc,hd⟩:=f9;obtain⟨os,es,t,jb,bh,hf,hn⟩:=hs;have hT:s.TypeIs (.ref I) "set_iterator":=⟨o,ho,hc⟩;refine X0 (wpAny_attempt (Yj hT slot_next (Xy slot_next hT jwe ?_ (jxp _))));show wpAny _ _ (fieldsOf _ >>= _) _ _ s;refine X0 (wpAny_fieldsOf ho hd ?_);refine X0 (Z6 jb bh hf ?_);rw[Xb (by rw[hn];simp)];show wpAny _ _ _ _ _ s;refine X0 (hN _ _ _ ?_);refine X0 (Yw ho hd (by simp) ?_);have nj:=Zc hd (·.setIfInBounds 0 (rawInt nx));have dl:=Xz _ ho (Zf nj);refine X0 (Yw dl nj (by simp) (X2 ⟨v,rfl,X2 (hQ _ ?_ ((Y9 ..).trans (Y9 ..)))⟩));have i8:=Zc nj (·.setIfInBounds 1 (rawInt (i+1)));refine⟨_,Xz _ dl (Zf i8),(Obj.cls_mapFields ..).trans ((Obj.cls_mapFields ..).trans hc),?_⟩;rw[i8];simp[rawInt]
theorem wvu{I a T:Addr}{i n ep:Nat}{v:Value}{pl:List Nat}{p:Nat}{Q:Option Value->Shared->Prop}(f9:It s.heap I a (.ref T) i n ep)(hs:Stn s.heap a n ep)(ul:∃o k,s.heap.get? T=some o/\o.data=.seq (pl.map λ(j:Nat)=>rawInt j).toArray k)
  (hp:pl[i]?=some p)
  (hN:∀(A':Around) (E':VP9) (R:VP9),R v s->wpAny (model prog w) A' (setNextDrawn a p ep) R E' s)
  (hQ:∀h',It h' I a (.ref T) (i+1) n ep->Heap.SameBut I s.heap h'->Q (some v) {s with heap:=h' }):wpAny (model prog w) A (pyNext (.ref I)) Q E s:=by
 obtain⟨o,ho,hc,hd⟩:=f9;obtain⟨os,es,t,jb,bh,hf,hn⟩:=hs;obtain⟨oT,kT,hoT,qd⟩:=ul;have hT:s.TypeIs (.ref I) "set_iterator":=⟨o,ho,hc⟩;refine X0 (wpAny_attempt (Yj hT slot_next (Xy slot_next hT jwe ?_ (jxp _))));show wpAny _ _ (fieldsOf _ >>= _) _ _ s;refine X0 (wpAny_fieldsOf ho hd ?_);refine X0 (Z6 jb bh hf ?_);rw[Xb (by rw[hn];simp)];refine X0 (Zj hoT qd ?_);have hg:(pl.map λ(j:Nat)=>rawInt j).toArray[((i:Int)).toNat]?=some (.int p 0):=by
  rw[Yt,List.getElem?_toArray,Xi,hp];rfl
 dsimp only;rw[hg];show wpAny _ _ _ _ _ s;refine X0 (hN _ _ _ ?_);have i8:=Zc hd (·.setIfInBounds 1 (rawInt (i+1)));refine X0 (Yw ho hd (by simp) (X2 ⟨v,rfl,X2 (hQ _ ?_ (Y9 ..))⟩));refine⟨_,Xz _ ho (Zf i8),(Obj.cls_mapFields ..).trans hc,?_⟩;rw[i8];simp[rawInt]
theorem xjb{I a:Addr}{sl i n ep:Nat}{Q:Option Value->Shared->Prop}(hh:A.handled=none)(f9:It s.heap I a (.int sl 0) i n ep)(hs:Stn s.heap a n ep)
  (hN:∀(A':Around) (E':VP9) (R:Option (Value×Nat)->Shared->Prop),R none s->wpAny (model prog w) A' (setNext a sl i ep) R E' s)
  (hQ:∀h',Heap.ExtBut I s.heap h'->Q none {s with heap:=h' }):wpAny (model prog w) A (pyNext (.ref I)) Q E s:=by
 obtain⟨o,ho,hc,hd⟩:=f9;obtain⟨os,es,t,jb,bh,hf,hn⟩:=hs;have hT:s.TypeIs (.ref I) "set_iterator":=⟨o,ho,hc⟩;refine X0 (wpAny_attempt (Yj (name:=Str.ofString "__next__") hT slot_next (Xy slot_next hT jwe ?_ (jxp _))));show wpAny _ _ (fieldsOf (.ref I) >>= _) _ _ s;refine X0 (wpAny_fieldsOf ho hd ?_);refine X0 (Z6 jb bh hf ?_);rw[Xb (by rw[hn];simp)];show wpAny _ _ (setNext a ((sl:Int)).toNat ((i:Int)).toNat ((ep:Int)).toNat >>= _) _ _ s;refine X0 (hN _ _ _ ?_);refine X0 (Yw ho hd (by simp) ?_);refine X0 ?_;refine X0 (m:=firstArgMember _ _) (wpAny_of_eq (a:=Value.none) (by first|rfl|(simp only[firstArgMember])) ?_);refine Y2 ?_ (by size_fits);refine X0 (wpAny_handled ?_);rw[show A.in1.handled=none from hh];refine X0 (X2 (wpAny_throw ?_));refine X0 (wpAny_isInstance (T:="StopIteration") (b:=true) ⟨_,X6 _ rfl,rfl⟩ isSubtype_stop ?_);exact X2 (hQ _ (((Y9 ..).extBut.push _).push _))
theorem xja{I a T:Addr}{i n ep:Nat}{pl:List Nat}{Q:Option Value->Shared->Prop}(hh:A.handled=none)(f9:It s.heap I a (.ref T) i n ep)(hs:Stn s.heap a n ep)(ul:∃o k,s.heap.get? T=some o/\o.data=.seq (pl.map λ(j:Nat)=>rawInt j).toArray k)
  (hp:pl[i]?=none) (hQ:∀h',Heap.ExtBut I s.heap h'->Q none {s with heap:=h' }):wpAny (model prog w) A (pyNext (.ref I)) Q E s:=by
 obtain⟨o,ho,hc,hd⟩:=f9;obtain⟨os,es,t,jb,bh,hf,hn⟩:=hs;obtain⟨oT,kT,hoT,qd⟩:=ul;have hT:s.TypeIs (.ref I) "set_iterator":=⟨o,ho,hc⟩;refine X0 (wpAny_attempt (Yj (name:=Str.ofString "__next__") hT slot_next (Xy slot_next hT jwe ?_ (jxp _))));show wpAny _ _ (fieldsOf (.ref I) >>= _) _ _ s;refine X0 (wpAny_fieldsOf ho hd ?_);refine X0 (Z6 jb bh hf ?_);rw[Xb (by rw[hn];simp)];refine X0 (Zj hoT qd ?_);have hg:(pl.map λ(j:Nat)=>rawInt j).toArray[((i:Int)).toNat]?=none:=by
  rw[Yt,List.getElem?_toArray,Xi,hp];rfl
 dsimp only;rw[hg];have nj:=Zc hd (·.setIfInBounds 0 (rawInt 0));have dl:=Xz (Obj.mapFields (·.setIfInBounds 0 (rawInt 0))) ho (Zf nj);refine X0 (Yw ho hd (by simp) ?_);refine X0 (Yw dl nj (by simp) ?_);refine X0 ?_;simp;refine X0 (m:=firstArgMember _ _) (wpAny_of_eq (a:=Value.none) (by first|rfl|(simp only[firstArgMember];rfl)) ?_);refine Y2 ?_ (by size_fits);refine X0 (wpAny_handled ?_);rw[show A.in1.handled=none from hh];refine X0 (X2 (wpAny_throw ?_));refine X0 (wpAny_isInstance (T:="StopIteration") (b:=true) ⟨_,X6 _ rfl,rfl⟩ isSubtype_stop ?_);exact X2 (hQ _ ((((Y9 ..).trans (Y9 ..)).extBut.push _).push _))
end
section
variable {prog:Program}{w:World}{A:Around}{E:VP9}{s:Shared}
theorem kqe(hh:A.handled=none)(I a)(cw:a≠I){o es ep t}(hd:o.data=.set es ep t)(hf:t.fits es.size=true){bj:List Value}(hl:bj.length=es.size)(sl:Nat->Nat)
  (hN:∀i (s) (A') (E') (R),s.heap.get? a=some o->i<=es.size->R (bj[i]?.map λv=>(v,sl (i+1))) s->wpAny (model prog w) A' (setNext a (sl i) i ep) R E' s):
  Walks prog w A I [I,a] [I] es.size (λi v=>bj[i]?=some v) (λi h=>It h I a (.int (sl i) 0) i es.size ep/\h.get? a=some o) where
 sub:=λb hb=>by simp at hb;simp[hb]
 frame:=λ_ _ _ st hk=>⟨st.1.at' λo e=>hk I (by simp) o e,hk a (by simp) _ st.2⟩
 item:=λi s Q E hi st hQ=>by
  have hv:bj[i]?=some (bj[i]'⋯):=X3 _;exact wvv st.1 ⟨o,es,t,st.2,hd,hf,rfl⟩ (λA' E' R hR=>hN i s A' E' R st.2 (Nat.le_of_lt hi) (hv▸hR)) λh' nv js=>(hQ _ h' s.toks hv ⟨nv,(js.extBut a o cw st.2)⟩ λb o hb e=>js.extBut b o (λh=>hb (by simp[h])) e)
 done:=λs Q E st hQ=>by
  refine xjb hh st.1 ⟨o,es,t,st.2,hd,hf,rfl⟩ (λA' E' R hR=>hN es.size s A' E' R st.2 (X7 _) (by rw[Yg ⋯];exact hR)) λh' he=>?_
  exact hQ h' s.toks λb o hb e=>he b o (λh=>hb (by simp[h])) e
 self:=λ_ _ _ _ st hQ=>qvw st.1 hQ
theorem qvd(hh:A.handled=none)(I a T)(cw:a≠I)(hneT:T≠I){o oT es ep k t}(hd:o.data=.set es ep t)(hf:t.fits es.size=true){pl:List Nat}(hp:pl.Perm (List.range es.size))(qd:oT.data=.seq (pl.map λ(j:Nat)=>rawInt j).toArray k):
  Walks prog w A I [I,a,T] [I] es.size (λi v=>(pl.map λj=>(es.getD j (0,.none)).2)[i]?=some v) (λi h=>It h I a (.ref T) i es.size ep/\h.get? a=some o/\h.get? T=some oT) where
 sub:=λb hb=>by simp at hb;simp[hb]
 frame:=λ_ _ _ st hk=>⟨st.1.at' λo e=>hk I (by simp) o e,hk a (by simp) _ st.2.1,hk T (by simp) _ st.2.2⟩
 item:=λi s Q E hi st hQ=>by
  have ah:pl.length=es.size:=by rw[hp.length_eq,Y5]
  have hv:pl[i]?=some (pl[i]'⋯):=X3 _;have ce:pl[i]'⋯<es.size:=List.mem_range.mp (hp.mem_iff.mp (Y3 _));refine wvu (v:=(es.getD (pl[i]'⋯) (0,.none)).2) st.1 ⟨o,es,t,st.2.1,hd,hf,rfl⟩ ⟨oT,k,st.2.2,qd⟩ hv (λA' E' R hR=>?_) λh' nv js=>?_
  ·refine X0 (Y7 st.2.1 hd hf ?_);dsimp only;rw[Xb (by simp),Xf ce];refine X2 ?_;rw[Yz,Xf ce]at hR;exact hR
  ·exact hQ _ h' s.toks (by rw[Xi,hv];rfl) ⟨nv,(js.extBut a o cw st.2.1),(js.extBut T oT hneT st.2.2)⟩ λb o hb e=>js.extBut b o (λh=>hb (by simp[h])) e
 done:=λs Q E st hQ=>by
  have ah:pl.length=es.size:=by rw[hp.length_eq,Y5]
  refine xja hh st.1 ⟨o,es,t,st.2.1,hd,hf,rfl⟩ ⟨oT,k,st.2.2,qd⟩ (Yg ⋯) λh' he=>?_
  exact hQ h' s.toks λb o hb e=>he b o (λh=>hb (by simp[h])) e
 self:=λ_ _ _ _ st hQ=>qvw st.1 hQ
theorem kwk(jn:tx w=true){a o es ep t}(hd:o.data=.set es ep t)(hf:t.fits es.size=true):
  ∀i s (A') (E') R,s.heap.get? a=some o->i<=es.size->R (((pickOrder (w.params.setOrder a ep) es).toList.map (·.2))[i]?.map λv=>(v,0)) s->wpAny (model prog w) A' (setNext a 0 i ep) R E' s:=by
 intro i s A' E' R ho hi hR;refine X0 (Y7 ho hd hf ?_);show wpAny _ _ (if tx w=true then _ else _) _ _ _;rw[X9 jn,Xb (by simp)];refine X0 (X0 (Y7 ho hd hf ?_));show wpAny _ _ (if tx w=true then _ else _) _ _ _;rw[X9 jn];refine X0 (wpAny_askSetting (X2 (X2 ?_)));rw[Xi,Xp,Option.map_map]at hR;exact hR
end
section
variable {prog:Program}{w:World}{A:Around}{E:VP9}{s:Shared}
theorem kx1{t:SetTable}{n}(h:t.fits n=true):t.place.size=n:=by
 simp only[SetTable.fits,Bool.and_eq_true,beq_iff_eq]at h;exact h.1
noncomputable def sl1(t:SetTable)(i:Nat):Nat:=if i=0 then 0 else t.place.getD 0 0+1
theorem vku(jn:tx w=false){a o es ep t}(hk:Ok prog w o es ep t)(h1:es.size<=1):
  ∀ i s (A') (E') R,s.heap.get? a=some o->i<=es.size->R ((es.toList.map (·.2))[i]?.map λv=>(v,sl1 t (i+1))) s->wpAny (model prog w) A' (setNext a (sl1 t i) i ep) R E' s:=by
 intro i s A' E' R ho hi hR;have hsz:=kx1 hk.f;refine X0 (Y7 ho hk.d hk.f ?_);show wpAny _ _ (if tx w=true then _ else _) _ _ _;rw [Xb (by grind)];show wpAny _ _ (if(!t.plain&&decide _)=true then _ else _) _ _ _;rw [Xb ⋯];show wpAny _ _ ((if _=true then _ else pure ()) >>= _) _ _ _;rw [Xb (by rw[hk.led,jn];simp)];refine X2 ?_;obtain⟨es⟩:=es;obtain⟨mask,⟨pl⟩,du,fi,le,mo,pln⟩:=t;cases es with
 | nil=>
  cases pl with
  | nil=>
   have hi0:i=0:=by simpa using hi
   exact hR
  | cons=>cases hsz
 | cons e es=>
  cases es with
  | cons=>exact absurd h1 (by simp)
  | nil=>
   cases pl with
   | nil=>cases hsz
   | cons p pl=>
    cases pl with
    | cons=>cases hsz
    | nil=>
     have hb0:SetTable.below #[p] 0=0:=by
      show SetTable.below.go #[p] 0 1 0 1=0;unfold SetTable.below.go;rfl
     have on:SetTable.below #[p] (p+1)=1:=by
      show SetTable.below.go #[p] _ 1 0 1=1;unfold SetTable.below.go;rw[X9 (by simp),X9 (by simp)];rfl
     rcases(show i=0\/i=1 by have:i<=1:=hi;lia)with rfl|rfl
     ·show R _ s;exact hR
     ·show R (match (#[e]:Array _)[SetTable.below #[p] (p+1)]?,_[SetTable.below #[p] _]? with|some (_,x),some j=>some (x,j+1)|_,_=>none) s
      rwa [on]
theorem kvx{es:Array (Int×Value)}{pl:List Nat}(hp:pl.Perm (List.range es.size)):(pl.map λj=>(es.getD j (0,.none)).2).Perm (es.toList.map (·.2)):=by
 refine(hp.map _).trans (.of_eq ?_);apply List.ext_getElem
 ·simp
 ·intro i h1 h2;simp at h1;simp[h1]
end
section
variable {prog:Program}{w:World}{A:Around}{E:VP9}{s:Shared}
theorem vqf{a o es ep t}(ho:s.heap.get? a=some o)(hk:Ok prog w o es ep t){Q}(h:Q (!tx w&&(!t.plain&&decide (es.size>1))) s):wpAny (model prog w) A (setDrawn a) Q E s:=by
 exact X0 (Y7 ho hk.d hk.f (X0 (X0 (wpAny_askSetting (X2 (X2 h))))))
theorem vzc{a o es ep t Q}(ho:s.heap.get? a=some o)(hk:Ok prog w o es ep t)
  (h:∀h' (d) (I:Addr) (fp) (bj:List Value) (St),(∀b o,s.heap.get? b=some o->h'.get? b=some o)->s.heap.objs.size<=I->(∀b∈fp,b=a\/s.heap.objs.size<=b) ->
   (∀A',A'.handled=none->Walks prog w A' I fp [I] es.size (λi v=>bj[i]?=some v) St)->St 0 h'->bj.Perm (es.toList.map (·.2))->Q (.ref I) {s with heap:=h',drawn:=d}):wpAny (model prog w) A (pyIter (.ref a)) Q E s:=by
 have hT:s.TypeIs (.ref a) "set":=⟨o,ho,hk.ex.1⟩;have gw:=Xa ho;refine wpAny_pyIter_slot hT F.slot_set_iter (Xy F.slot_set_iter hT kq6 ?_ (kxo _));unfold Builtin.«frozenset.__iter__» Builtin.Frozenset.slot0 slotArgs;simp only[List.isEmpty_nil,Bool.not_true,Bool.false_eq_true,↓reduceIte,bind_assoc,List.length_nil,bne_self_eq_false];refine X0 (X2 (X0 (X2 (X0 (X0 (Z6 ho hk.d hk.f (X2 (X0 (vqf ho hk ?_)))))))))
 by_cases hdr:(!tx w&&(!t.plain&&decide (es.size>1)))=true
 ·rw[X9 hdr];refine X0 (drawn es.size _ s (by simp) λpl d hp=>(X0 (wpAny_newTuple (X0 (wpAny_setEpoch_of (X1 _ ho) hk.d hk.f ?_)) (hsz:=by rw[X4,hp.length_eq,Y5];exact fits_of_scanBound hk.b))));refine X0 (Y2 (X2 ⟨_,rfl,"set_iterator",_,⟨_,X6 _ rfl,rfl⟩,slot_next.lookup,?_⟩));have hsz:(s.heap.push (seqObj "tuple" (pl.map λ(i:Nat)=>rawInt i).toArray 0)).objs.size=s.heap.objs.size+1:=Yv ..;refine h _ d _ [_,a,s.heap.objs.size] (pl.map λj=>(es.getD j (0,.none)).2) _ (λb o e=>X1 _ (X1 _ e)) (hsz▸Z8 _) (λb hb=>?_)
   (λA' hh=>qvd hh _ a s.heap.objs.size (by rw[hsz];exact Xe (Y6 gw)) (by rw[hsz];exact Xe (Za _)) (o:=o) (oT:=seqObj "tuple" (pl.map λ(i:Nat)=>rawInt i).toArray 0) hk.d hk.f hp rfl)
   ⟨⟨_,X6 _ rfl,rfl,rfl⟩,X1 _ (X1 _ ho),X1 _ (X6 _ rfl)⟩ (kvx hp)
  rcases aD hb with rfl|hb
  ·exact .inr (hsz▸Z8 _)
  rcases aD hb with rfl|hb
  ·exact .inl rfl
  ·rw[aC hb];exact .inr (X7 _)
 ·rw[Xb hdr];refine X0 (X2 (X0 (wpAny_setEpoch_of ho hk.d hk.f (X0 (Y2 (X2 ⟨_,rfl,"set_iterator",_,⟨_,X6 _ rfl,rfl⟩,slot_next.lookup,?_⟩))))));have m6:∀b∈[s.heap.objs.size,a],b=a\/s.heap.objs.size<=b:=λb hb=>by
   rcases aD hb with rfl|hb
   ·exact .inr (X7 _)
   ·exact .inl (aC hb)
  cases jn:tx w with
  | true=>
   refine h _ s.drawn _ [_,a] ((pickOrder (w.params.setOrder a ep) es).toList.map (·.2)) _ (λb o e=>X1 _ e) (X7 _) m6
    (λA' hh=>kqe hh _ a (Xe gw) (o:=o) hk.d hk.f (by rw[X4,(jxd _ es).length_eq,Xd]) (λ_=>0) (kwk jn hk.d hk.f))
    ⟨⟨_,X6 _ rfl,rfl,rfl⟩,X1 _ ho⟩ ((jxd _ es).map _)
  | false=>
   have h1:es.size<=1:=by
    rcases hk.pl with hp|hp
    ·grind
    ·lia
   refine h _ s.drawn _ [_,a] (es.toList.map (·.2)) _ (λb o e=>X1 _ e) (X7 _) m6
    (λA' hh=>kqe hh _ a (Xe gw) (o:=o) hk.d hk.f (by simp) (sl1 t) (vku jn hk h1))
    ⟨⟨_,X6 _ rfl,rfl,rfl⟩,X1 _ ho⟩ (.refl _)
theorem qz8{a Q}(hT:s.TypeIs (.ref a) "set")(h:Q false s):wpAny (model prog w) A (Builtin.List.listLengthHint (.ref a)) Q E s:=by
 refine X0 (Z5 hT F.slot_set_len.lookup ?_);generalize n9:_=id0
 wp_delta
 subst n9;refine X0 (wpAny_isInstance hT sub_set_self ?_);refine wpAny_ite_split (λlz=>absurd lz ⋯) (λ_=>?_);refine X0 (wpAny_typeOf hT ?_);exact X2 h
theorem qvm:∀{vs},(∀v∈vs,∃x t,v=Value.str x t)->StrsAre vs (vs.map strOf)
 |[],_=>.nil
 |v::vs,h=>by
  obtain⟨x,t,rfl⟩:=h v X5;exact .cons x t (qvm λv hv=>h v (lc9 _ hv))
theorem qv4{a ls Q}(hh:A.handled=none)(hS:Has prog w s.heap a ls)
  (h:∀h' (d) (tk) (vs) (ss),(∀b o,s.heap.get? b=some o->h'.get? b=some o)->s.heap.objs.size<h'.objs.size->StrsAre vs ss->ss.Perm ls->Q vs {s with heap:=h',drawn:=d,toks:=tk}):
  wpAny (model prog w) A (collect (.ref a)) Q E s:=by
 obtain⟨o,es,ep,t,ho,hk,hp⟩:=hS;have gw:a<s.heap.objs.size:=Xa ho;unfold collect;refine X0 (wpAny_runValue (Yi F.entry_proto_collect ?_));rw[Yq F.plain_proto_collect _];show wpAny _ A.in1 (newList [] >>= λl=>again (.builtin "list.__iadd__" ⟨[l,.ref a],[]⟩)) _ _ s;refine X0 (Y2 (X2 ⟨Z9 F.plain_list_iadd _,Yi F.entry_list_iadd ?_⟩));rw[Yq F.plain_list_iadd _];have dl:(s.heap.push {cls:=.type "list",data:=.seq ([]:List Value).toArray}).get? a=some o:=X1 _ ho;have hT1:Shared.TypeIs {s with heap:=s.heap.push {cls:=.type "list",data:=.seq ([]:List Value).toArray}} (.ref a) "set":=⟨o,dl,hk.ex.1⟩;show wpAny _ A.in1 (Builtin.List.listExtendWith (.ref s.heap.objs.size) (.ref a) (.ref s.heap.objs.size)) _ _ _;unfold Builtin.List.listExtendWith;refine X0 (wpAny_typeOf hT1 ?_);have h1:Builtin.List.listSameRef (.ref s.heap.objs.size) (.ref a)=false:=by simp[Builtin.List.listSameRef];exact Zg gw
 have h2:(Value.type "set" == Value.type "list")=false:=⋯
 have h3:(Value.type "set" == Value.type "tuple")=false:=⋯
 simp only[h1,h2,h3,Bool.or_false,Bool.false_eq_true,if_false];refine X0 (vzc dl hk λh' d I fp bj St bv hI m6 W st0 hv=>(X0 (Xu (qz8 ⟨o,bv _ _ dl,hk.ex.1⟩ ?_))));show wpAny _ A.in1 (PySem.rule "list.extend.makes-room" >>= λ_=>Builtin.List.listTouch (.ref s.heap.objs.size) >>= λ_=>
  again (.builtin "list.extend.loop" ⟨[.ref s.heap.objs.size,.ref I,.ref s.heap.objs.size],[]⟩)) _ _ _
 refine X0 (Zb ?_);have hsz:(s.heap.push {cls:=.type "list",data:=.seq ([]:List Value).toArray}).objs.size=s.heap.objs.size+1:=Yv ..;have hI':s.heap.objs.size+1<=I:=by rw[<-hsz];exact hI
 have iy:s.heap.objs.size∉fp:=λhm=>by
  rcases m6 _ hm with e|e
  ·exact absurd e (Zg gw)
  ·grind
 have ui:h'.get? s.heap.objs.size=some {cls:=.type "list",data:=.seq ([]:List Value).toArray}:=bv _ _ (X6 _ rfl);refine X0 ?_;show wpAny _ A.in1 (updateSeq s.heap.objs.size (·.push .none) >>= λ_=>updateSeq s.heap.objs.size (·.pop)) _ _ _;refine X0 (wpAny_updateSeq ui rfl ?_);have uq:=Xz (Obj.mapSeq (·.push Value.none)) ui rfl;refine wpAny_updateSeq uq rfl ?_;have mt:∀b o,b≠s.heap.objs.size->h'.get? b=some o->((h'.update s.heap.objs.size (Obj.mapSeq (·.push Value.none))).update s.heap.objs.size (Obj.mapSeq (·.pop))).get? b=some o:=
  λb o hb e=>(Yk _ _ (Ne.symm hb)).trans ((Yk _ _ (Ne.symm hb)).trans e)
 have WW:=W A.in1 hh;have ah:bj.length=es.size:=by rw[hv.length_eq,X4,Xd]
 refine X2 ⟨Z9 F.plain_extend_loop _,codeAny_extend_loopS WW.toS (fits_of_scanBound hk.b) _ iy _ es.size 0 _ _ _ rfl (Yf _) (WW.frame 0 h' _ st0 λb hb o e=>mt b o (λe'=>iy (e'▸hb)) e) (Xz (Obj.mapSeq (·.pop)) uq rfl) (ItemsOf.nil _) λs' dm c' hm fm ao=>?_⟩;show wpAny _ A (load s.heap.objs.size >>= _) _ _ s';refine X0 (wpAny_load fm ?_);have hac:dm.toList=bj:=by
  apply List.ext_getElem?;intro j
  by_cases hj:j<es.size
  ·have ub:j<dm.size:=by rw[ao.1];exact hj
   rw[Xp,Xf ub];exact(ao.2 j _ (Xf ub)).symm
  ·rw[Yg (by rw[Xd,ao.1];lia),Yg ⋯]
 refine X2 ?_;rw[hac,Moved.eq_with hm];refine h _ d _ bj (bj.map strOf) (λb o e=>?_) (Xa fm) ?_ ?_
 ·have hb:b<s.heap.objs.size:=Xa e;have o8:b≠s.heap.objs.size:=Xe hb;refine hm.heap b o (λhmem=>?_) (mt b o o8 (bv b o (X1 _ e)));rcases aD hmem with e'|hmem
  ·exact o8 e'
  ·rw[aC hmem]at hb;exact absurd hb (Nat.not_lt.mpr (Nat.le_of_succ_le hI'))
 ·exact qvm λv hvm=>by
   obtain⟨e,he,rfl⟩:=aE (hv.mem_iff.mp hvm);exact vw5 hk.el he
 ·refine((hv.map strOf).trans (.of_eq ?_)).trans hp;rw[Xl];rfl
end
section
variable {prog:Program}{w:World}{A:Around}{E:VP9}{s:Shared}
theorem qq7{a ls Q}(hh:A.handled=none)(hS:Has prog w s.heap a ls)(uf:ls.length<64)
  (h:∀h' d (tk l e) out ss,(∀b o,s.heap.get? b=some o->h'.get? b=some o)->s.heap.objs.size<=l->h'.get? l=some (seqObj "list" out e)->StrsAre out.toList ss->ss.Perm ls->sortedS ss=true->Q (.ref l) {s with heap:=h',drawn:=d,toks:=tk}):
  wpAny (model prog w) A (call (.builtin "sorted") [.ref a]) Q E s:=by
 refine Calls.call_function_entry kind_sorted plain_sorted entry_sorted (args_sorted1 _) ?_;refine X0 (X2 ?_);refine X0 (qv4 (by simpa using hh) hS λh' d tk vs ss bv hsz hv hp=>?_);have h64':vs.length<64:=by rw[kqj hv,hp.length_eq];exact uf
 refine X0 (wpAny_newList ?_ (hsz:=by rw[Yo];lia));have je:(h'.push _).get? h'.objs.size=some (seqObj "list" vs.toArray 0):=X6 _ rfl;refine X0 (Xu (Xy slot_list_sort ⟨_,je,rfl⟩ entry_list_sort (list_sort_treeK strKind_oneLt je hv.keysOf (λv₁ v₂ a8 e=>keyKind_strs (by rw[<-e];exact hv)) h64' λdz a1 a2=>⟨_,rfl,?_⟩) (args_list_sort _)));obtain⟨ss',h1,h2,h3⟩:=sorted_out_str hv a1 a2;obtain⟨e,he⟩:=sortedHeap_at je;refine X2 ⟨_,rfl,h _ d tk _ e _ ss' (λb o q=>?_) (Nat.le_of_lt hsz) he h1 (h2.trans hp) h3⟩;have hb:=Xa (bv b o q);rw[sortedHeap_old (Xe hb) (by rw[size_push'];exact Y6 hb)];exact X1 _ (bv b o q)
end
end Sw
namespace Q
open PySem PySem.Spec PyProof.Rows L2 L3 Sw
section
variable {X:Cx}{Z:Fx0}{K:Frag}{q:Bool}{a:Ex}{e ea:Expr}{σ:L2.St}{H:Hp}{pos p p2 cu:Pos}{x y:Str}{a7:LA9}{s:Shared}
theorem Inv.dr{d}(I:L2.Inv X a7 σ H s):L2.Inv X a7 σ H {s with drawn:=d}:=⟨I.ok,I.os,I.bare,I.base,I.loc,I.cell,I.free,I.freeC,I.pin,I.hok,I.len⟩
noncomputable def xkh(X:Cx)(f:Value)(r:List Str->Hp->VK->Prop):Prop:=
 ∀(a7:LA9) (s:Shared) (σ:L2.St) (H:Hp) (b:Addr) (ls:List Str) (Q:VK),L2.Inv X a7 σ H s->Has X.prog X.w s.heap b ls->r ls H Q->wpAny (model X.prog X.w) X.A (call f [.ref b]) (EP X a7 σ Q) X.xe s
noncomputable def wxw(K:Frag)(r:List Str->Hp->VK->Prop):List V->Hp->VK->Prop:=λxs H Q=>∃p ss,xs=[.ref p]/\SqL K H p (ss.map V.str)/\ss.length<4000/\r (dd ss) H Q
theorem vxi{id r t}(hc:X.calm=true)(hf:xkh X (.builtin id) r)(hg:Gl X x)(hm:X.mg x=none)(hv:bootBuiltins x=some (.builtin id))(mf:Gl X "set")(lh:X.mg "set"=none)(hv2:bootBuiltins "set"=some (.type "set"))
  (ha:PE X e t) (hn:autoParam (x≠"__name__") ŕ) (fq:autoParam ((x==("__debug__":Str))=false) ŕ) (nu:autoParam (("set":Str)≠"__name__") ŕ) (hdb2:autoParam ((("set":Str)==("__debug__":Str))=false) ŕ)
  (he:autoParam (starEach [e] X.env=(false,eval e X.env)::starEach [] X.env) Ŕ):
  PE X (.Call (.Name x p) [.Call (.Name "set" p2) [e] [] cu] [] pos) (fun σ H Q=>t σ H λv H1=>wxw X.K r [v] H1 Q):=by
 intro a7 s σ H Q I h;refine Yx (zq I hg hm hv (PyProof.Rows.callWith_builtin1 ?_ rfl rfl) hn fq);show wpAny _ _ (spliced (_::[])) _ _ s;refine Calls.spliced_cons (Yx (zq I mf lh hv2 (Y1 (thn (vw ha vQ he cu a7 s σ H (λvs H1=>wxw X.K r vs H1 Q) I ?_) λus s1 ⟨vs,H1,I1,r1,q1⟩=>?_) he rfl) nu hdb2))
 ·exact h
 obtain⟨b,ss,rfl,hq,hl,q⟩:=q1;obtain⟨u,rfl,rx⟩:=x4 r1;cases rx;obtain⟨a9,r',pl,hz⟩:=I1.list hq;have ah:=r'.length;rw[X4]at ah hz;refine vqn (I1.ok.hd hc) pl.isList (by simpa using qq6 r') (by simp;unfold scanBound;lia) λh' tk hS bv=>?_
 have I2:L2.Inv X a7 σ H1 {s1 with heap:=h',toks:=tk}:=I1.kept λb u q=>bv b u (Xa q) q
 exact Calls.spliced_nil (hf a7 _ σ H1 _ _ Q I2 hS q)
theorem qq8(hc:X.calm=true):xkh X (.builtin "sorted") (λls H Q=>ls.length<64/\∀l,H l=none->Q (.ref l) (upd H l (.lst ((wX ls).map V.str)))):=by
 intro a7 s σ H b ls Q I hS h;refine qq7 (I.ok.hd hc) hS h.1 λh' d tk l e out ss bv hl hg h1 h2 h3=>?_
 have e1:=vjz h2 h3;subst e1;have hz:(wX ls).length<=sizeLine:=by rw[(jv8 ls).length_eq,Yo];lia
 refine⟨.ref l,_,Inv.dr (I.laid (t':=tk) bv hl ?_),rfl,h.2 l (I.hok.fresh hl)⟩;exact⟨by rw[X4];exact hz,out.toList,e,qvf h1,by simpa using hg⟩
end
section
variable {X:Cx}{Z:Fx0}{K:Frag}{q:Bool}{a:Ex}{e ea:Expr}{σ:L2.St}{H:Hp}{pos p p2 cu:Pos}{x y:Str}{a7:LA9}{s:Shared}
theorem vw7{ss z}(h:z∈ddS ss):z∈ss:=by
 have:∀(l af:List Str),z∈l.foldl (λl k=>if l.any (· == k)then l else l++[k]) af->z∈af\/z∈l:=by
  intro l
  induction l with
  | nil=>intro af h;exact .inl h
  | cons k l ih=>
   intro af h;rcases ih _ h with h|h
   ·dsimp only at h
    split at h
    ·exact .inl h
    ·rcases aA h with h|h
     ·exact .inl h
     ·exact .inr (aC h▸X5)
   ·exact .inr (lc9 _ h)
 rcases this ss [] h with h|h
 ·grind
 ·exact h
noncomputable def rSS(K:Frag):List V->Hp->VK->Prop:=wxw K λls H Q=>ls.length<64/\∀l,H l=none->Q (.ref l) (upd H l (.lst ((wX ls).map V.str)))
theorem qv9:Ad1 K (λv H Q=>rSS K [v] H Q) Zk:=by
 intro H x s Q ok hf k;unfold Zk at hf;dsimp only at hf;cases hx:x.d with
 | lst ds=>
  rw[hx]at hf;dsimp only at hf;obtain⟨l,xs,bs,ev,q3,r3,_⟩:=items ok (.inl hx);have q3:LsR K H l xs:=by rcases q3 with⟨_,z⟩|⟨z,_⟩;exact z;rw[hx]at z;cases z
  cases hs:J7 ds with
  | some ss=>
   rw[hs]at hf;dsimp only at hf
   split at hf
   ·rename_i hl;cases oq9 hf;obtain⟨e1,e2⟩:=kqi hs r3;subst e1;exact⟨l,ss,by rw[ev],zQ q3,⋯,Nat.lt_of_le_of_lt (wwh ss) hl,λp hp=>(k _ _ rfl rfl (J8 hp (qjj λz hz=>e2 z (vw7 ((jv8 _).mem_iff.mp hz))) λb hb=>nomatch hb))⟩
   ·cases hf
  |none=>rw[hs]at hf;cases hf
 |_=>rw[hx]at hf;cases hf
theorem qwh(hK:X.K=Z.K)(hc:X.calm=true)(ha:QV X Z q a ea)(hm:X.mg "sorted"=none)(lh:X.mg "set"=none)(hg:autoParam (Gl X "sorted") Ŕ)(mf:autoParam (Gl X "set") Ŕ)(he:autoParam (starEach [ea] X.env=(false,eval ea X.env)::starEach [] X.env) Ŕ):
  QE X Z q (cF1 Zk a) (.Call (.Name "sorted" p) [.Call (.Name "set" p2) [ea] [] cu] [] pos):=
 kZ (vxi hc (qq8 hc) hg hm rfl mf lh rfl ha (he:=he)) fun σ H Q h=>by
  have:=WV (r:=λv H Q=>rSS Z.K [v] H Q) qv9 h
  rwa [hK]
end
end Q
namespace Q
open PySem PySem.Spec PyProof.Rows L2 L3
@[irreducible] noncomputable def ShE (X:Cx) (Z:Fx0) (q:Bool) (c:Ex) (e:Expr):Prop:=QE X Z q c e
@[irreducible] noncomputable def ShA (X:Cx) (Z:Fx0) (q:Bool) (cs:List Ex) (es:List Expr):Prop:=QA X Z q cs es
@[irreducible] noncomputable def ShS (X:Cx) (Z:Fx0) (pn:List Nat) (c:Sm) (st:Stmt):Prop:=QS X Z pn c st
@[irreducible] noncomputable def ShB (X:Cx) (Z:Fx0) (pn:List Nat) (c:Sm) (ss:List Stmt):Prop:=QSs X Z pn c ss
end Q
namespace Q
open PySem
def mkB:D×D:=(.str "b",.non)
noncomputable def wJ(ks:List Int):D:=.dct (mkB::ks.map λk=>(.int k,.bl true))
noncomputable def Vj : List (D × D) -> Option (List Int)
  |[]=>some []|(.int k,.bl true)::r=>(Vj r).map (k :: ·)|_=>none
noncomputable def idB:D->Option (List Int):=λd=>match d with
 |.dct ((.str _,.non)::ab)=>Vj ab|_=>none
noncomputable def wv(ks:List Int)(k:Int):List Int:=if k∈ks then ks else ks++[k]
def vqs:Ex:=λE=>some (.ok E (.rt,wJ []))
noncomputable def qvy(i:Nat)(kc vc:Ex):Sm:=λE=>ofE (vc E) λE v=>if Zv E[i]?=true then ofE (kc E) λE k=>match E[i]?,k.2,v.2 with
 |some (some (.rt,d)),.int a,.bl b=>(match idB d with
  |some kv=>if kv.length<big/\b=true then some (.nx (E.set i (some (.rt,wJ (wv kv a)))))else none
  |none=>none)
 |_,_,_=>none
 else none
noncomputable def kx3:Sd->Option Sd:=λx=>match idB x.2 with
 |some kv=>some (.rt,.lst (kv.map D.int))|none=>none
noncomputable def Zw:D->Option D:=λx=>match idB x with
 |some kv=>some (.int kv.length)|none=>none
end Q
namespace Srt
open PySem PySem.W PyProof.Rows
noncomputable def Ev(key:Nat->Int)(n:Nat){α:Type}:KasT α->α->Prop
 |.ret a,b=>a=b|.ask i j k,b=>i<n/\j<n/\Ev key n (k (decide (key i<key j))) b
theorem Jk{key n α β f a}{b:β}:∀{t:KasT α},Ev key n t a->Ev key n (f a) b->Ev key n (t.bind f) b
 |.ret _,h,g=>by
  subst h;exact g
 |.ask _ _ _,h,g=>⟨h.1,h.2.1,Jk h.2.2 g⟩
section
variable {key:Nat->Int}{n:Nat}
structure Ok (n:Nat)(p:Array Nat):Prop where
 sz:p.size=n
 pm:p.toList.Perm (List.range n)
noncomputable def K(key:Nat->Int)(p:Array Nat)(k:Nat):Int:=key (p.getD k 0)
theorem Ok.at{p}(h:Ok n p){k}(hk:k<n):p[k]?=some (p.getD k 0)/\p.getD k 0<n:=by
 have hs:=h.sz;have e:p[k]?=some (p.getD k 0):=by
  rw[Yz,Xf ⋯];rfl
 exact⟨e,(List.mem_range.mp (h.pm.mem_iff.mp (Array.mem_toList_iff.mpr (Array.mem_of_getElem? e))))⟩
variable (lf:∀i j,i<n->j<n->key i=key j->i=j)
include lf
omit lf in
omit lf in
theorem Ok.bubble{p}(h:Ok n p)(k d):Ok n (bubble p k d):=⟨by rw[bubble_size];exact h.sz,((bubble_perm p k d).toList).trans h.pm⟩
omit lf in
theorem Ok.mirror{p}(h:Ok n p)(i j d):Ok n (mirror p i j d):=⟨by rw[mirror_size];exact h.sz,((mirror_perm p i j d).toList).trans h.pm⟩
omit lf in
theorem VY{p q i j}(h:p[i]?=q[j]?):K key p i=K key q j:=by
 unfold K;rw[Yz,Yz,h]
end
section
variable {key:Nat->Int}{n:Nat}
noncomputable def AscW(key:Nat->Int)(p:Array Nat)(m:Nat):Prop:=∀k,k+1<m->K key p k<=K key p (k+1)
noncomputable def W6(key:Nat->Int)(p:Array Nat)(m:Nat):Prop:=∀k,k+1<m->K key p (k+1)<=K key p k
theorem AscW.le{p m}(h:AscW key p m):∀{i j},i<=j->j<m->K key p i<=K key p j
 | i,0,mi,_=>by grind
 | i,j+1,mi,hj=>by
  by_cases e:i=j+1
  ·subst e;exact Int.le_refl _
  ·have:=AscW.le h (i:=i) (j:=j) ⋯ ⋯;have:=h j hj;lia
theorem wj7{p}(h:Ok n p):∀f m,1<=m->m+f<=n->AscW key p m->∃m',Ev key n (kas_asc p f m) m'/\m<=m'/\m'<=m+f/\AscW key p m'/\(m'<m+f->K key p m'<K key p (m' - 1))
 | 0,m,h1,h2,ha=>⟨m,rfl,X7 _,X7 _,ha,λh=>absurd h ⋯⟩
 | f + 1,m,h1,h2,ha=>by
  have a1:=h.at (k:=m) ⋯;have a2:=h.at (k:=m - 1) ⋯
  by_cases hc:key (p.getD m 0)<key (p.getD (m - 1) 0)
  ·refine⟨m,⟨a1.2,a2.2,?_⟩,X7 _,⋯,ha,λ_=>hc⟩;rw[Xg hc];rfl
  ·obtain⟨m',e1,e2,e3,e4,e5⟩:=wj7 h f (m+1) ⋯ ⋯ (λk hk=>by
    by_cases fu:k+1<m
    ·exact ha k fu
    ·have e:k=m - 1:=⋯
     subst e;have e':m - 1+1=m:=⋯
     have hc:¬K key p m<K key p _:=hc;lia)
   refine⟨m',⟨a1.2,a2.2,?_⟩,⋯,⋯,e4,λh=>e5 ⋯⟩
   rwa [Xh hc]
theorem kqr{p a b c}(hb:b<=p.size)(h:∀i,a<=i->i<b->K key p i=c) k:K key (kas_rev p a b) k=K key p k:=by
 have hr:=getElem?_mirror_all (i:=a) hb k
 by_cases hk:a<=k/\k<b
 ·rw[X9 hk]at hr;have:K key (kas_rev p a b) k=K key p _:=VY hr;rw[this,h k hk.1 hk.2,h _ ⋯ ⋯]
 ·rw[Xb hk]at hr;exact VY hr
theorem qks:∀f {p} (m q),Ok n p->q+1<=m->m+f<=n->W6 key p m->(∀i,m - (q+1)<=i->i<m->K key p i=K key p (m - 1)) ->
  ∃ p' m' q',Ev key n (kas_desc f p m q) (p',m',q')/\m<=m'/\m'<=m+f/\Ok n p'/\W6 key p' m'/\∀i,m' - (q'+1)<=i->i<m'->K key p' i=K key p' (m' - 1)
 | 0,p,m,q,h,h1,h2,ha,hq=>⟨p,m,q,rfl,X7 _,X7 _,h,ha,hq⟩
 | f + 1,p,m,q,h,h1,h2,ha,hq=>by
  have a1:=h.at (k:=m) ⋯;have a2:=h.at (k:=m - 1) ⋯;have e':m - 1+1=m:=⋯
  by_cases hc:key (p.getD m 0)<key (p.getD (m - 1) 0)
  ·have hd:W6 key p (m+1):=λk hk=>by
    by_cases fu:k+1<m
    ·exact ha k fu
    ·have e:k=m - 1:=⋯
     subst e;rw[e'];have hc:K key p m<K key p (m - 1):=hc;lia
   have one:∀p',∀i,m+1 - (0+1)<=i->i<m+1->K key p' i=K key p' (m+1 - 1):=λp' i i1 i2=>by
    have:i=m+1 - 1:=⋯
    rw[this]
   by_cases hq0:q>0
   ·have sm:=λk=>kqr (key:=key) (p:=p) (a:=m - (q+1)) (b:=m) (c:=K key p (m - 1)) (by rw[h.sz];lia) hq k
    obtain⟨p',m',q',e1,e2,e3,e4,e5,e6⟩:=qks f (m+1) 0 (h.mirror (m - (q+1)) m ((m - (m - (q+1))) / 2)) ⋯ ⋯ (λk hk=>by
     have s1:=sm k;have s2:=sm (k+1);unfold kas_rev at s1 s2;rw[s1,s2];exact hd k hk) (one _)
    refine⟨p',m',q',⟨a1.2,a2.2,?_⟩,⋯,⋯,e4,e5,e6⟩;rw[Xg hc];dsimp only;rw[X9 rfl,X9 hq0];exact e1
   ·obtain⟨p',m',q',e1,e2,e3,e4,e5,e6⟩:=qks f (m+1) 0 h ⋯ ⋯ hd (one _);refine⟨p',m',q',⟨a1.2,a2.2,?_⟩,⋯,⋯,e4,e5,e6⟩;rw[Xg hc];dsimp only;rw[X9 rfl,Xb hq0];exact e1
  ·by_cases hd:key (p.getD (m - 1) 0)<key (p.getD m 0)
   ·refine⟨p,m,q,⟨a1.2,a2.2,?_⟩,X7 _,⋯,h,ha,hq⟩;rw[Xh hc];dsimp only;rw[Xb ⋯];refine⟨a2.2,a1.2,?_⟩;rw[Xg hd];rfl
   ·have eq:K key p m=K key p (m - 1):=by
     have hc:¬K key p m<K key p (m - 1):=hc;have hd:¬K key p (m - 1)<K key p m:=hd;lia
    obtain⟨p',m',q',e1,e2,e3,e4,e5,e6⟩:=qks f (m+1) (q+1) h ⋯ ⋯ (λk hk=>by
     by_cases fu:k+1<m
     ·exact ha k fu
     ·have e:k=m - 1:=⋯
      subst e;rw[e',eq];exact Int.le_refl _) (λi i1 i2=>by
     show K key p i=K key p m
     by_cases e:i=m
     ·rw[e]
     ·rw[eq];exact hq i ⋯ ⋯)
    refine⟨p',m',q',⟨a1.2,a2.2,?_⟩,⋯,⋯,e4,e5,e6⟩;rw[Xh hc];dsimp only;rw[Xb ⋯];refine⟨a2.2,a1.2,?_⟩;rw[Xh hd];dsimp only;rw[Xb ⋯];exact e1
theorem kz5{p}(h:Ok n p){k}(hk:k<n)(ha:AscW key p k):∀f l r,l<=r->r<=k->r - l<=f->(∀i,i<l->K key p i<=K key p k)->(∀i,r<=i->i<k->K key p k<=K key p i) ->
  ∃ l',Ev key n (kas_place p k f l r) l'/\l'<=k/\(∀i,i<l'->K key p i<=K key p k)/\∀i,l'<=i->i<k->K key p k<=K key p i
 | 0,l,r,h1,h2,h3,h4,h5=>⟨l,rfl,⋯,h4,λi hi=>h5 i ⋯⟩
 | f + 1,l,r,h1,h2,h3,h4,h5=>by
  by_cases hlr:l>=r
  ·refine⟨l,?_,⋯,h4,λi hi=>h5 i ⋯⟩;unfold kas_place;rw[X9 hlr];rfl
  ·have a1:=h.at hk;have a2:=h.at (k:=(l+r) / 2) ⋯
   by_cases hc:key (p.getD k 0)<key (p.getD ((l+r) / 2) 0)
   ·obtain⟨l',e1,e2,e3,e4⟩:=kz5 h hk ha f l ((l+r) / 2) ⋯ ⋯ ⋯ h4 (λi hi hik=>by
     have hc:K key p k<K key p ((l+r) / 2):=hc;have:=ha.le (i:=(l+r) / 2) (j:=i) hi hik;lia)
    refine⟨l',?_,e2,e3,e4⟩;unfold kas_place;rw[Xb hlr];refine⟨a1.2,a2.2,?_⟩
    rwa [Xg hc]
   ·obtain⟨l',e1,e2,e3,e4⟩:=kz5 h hk ha f ((l+r) / 2+1) r ⋯ ⋯ ⋯ (λi hi=>by
     have hc:¬K key p k<K key p ((l+r) / 2):=hc;have:=ha.le (i:=i) (j:=(l+r) / 2) ⋯ ⋯;lia) h5
    refine⟨l',?_,e2,e3,e4⟩;unfold kas_place;rw[Xb hlr];refine⟨a1.2,a2.2,?_⟩
    rwa [Xh hc]
theorem wwp:∀f {p} (k),Ok n p->1<=k->k+f=n->AscW key p k->∃p',Ev key n (kas_bin f p k) p'/\Ok n p'/\AscW key p' n
 | 0,p,k,h,h1,h2,ha=>⟨p,rfl,h,by rw[<-h2];exact ha⟩
 | f + 1,p,k,h,h1,h2,ha=>by
  obtain⟨l,e1,e2,e3,e4⟩:=kz5 h (k:=k) ⋯ ha k 0 k ⋯ ⋯ ⋯ (λi hi=>absurd hi ⋯) (λi hi hk=>absurd hi ⋯);have hb:=λi=>getElem?_bubble (xs:=p) (src:=k) (by rw[h.sz];lia) (k - l) ⋯ i
  have ek:k - (k - l)=l:=⋯
  rw [ek]at hb;obtain⟨p',g1,g2,g3⟩:=wwp f (k+1) (h.bubble k (k - l)) ⋯ ⋯ (λi hi=>by
   have q:∀i,K key (PyProof.Rows.bubble p k (k - l)) i=if i=l then K key p k else if l<i/\i<=k then K key p (i - 1)else K key p i:=λi=>by
    have:=hb i
    by_cases c1:i=l
    ·rw[X9 c1]at this ⊢;exact VY this
    ·rw[Xb c1]at this ⊢
     by_cases c2:l<i/\i<=k
     ·rw[X9 c2]at this ⊢;exact VY this
     ·rw[Xb c2]at this ⊢;exact VY this
   rw [q i,q (i+1)]
   by_cases c1:i+1<l
   ·rw[Xb ⋯,Xb ⋯,Xb ⋯,Xb ⋯];exact ha i ⋯
   ·by_cases c2:i+1=l
    ·rw[Xb ⋯,Xb ⋯,X9 c2];exact e3 i ⋯
    ·by_cases c3:i=l
     ·rw[X9 c3,Xb ⋯,X9 ⋯];exact e4 _ ⋯ ⋯
     ·rw[Xb c3,X9 ⋯,Xb ⋯,X9 ⋯];exact ha.le ⋯ ⋯)
  exact⟨p',Jk e1 g1,g2,g3⟩
theorem vwy{p q}(hq:q<=p.size)(hd:W6 key p q):AscW key (kas_rev p 0 q) q:=λk hk=>by
 have at':∀k,k<q->K key (kas_rev p 0 q) k=K key p (q - 1 - k):=λk hk=>VY (by
  have:=(λk=>getElem?_mirror_all (i:=0) hq k) k;rw[X9 ⋯]at this;rw[show q - 1 - k=0+q - 1 - k by lia];exact this)
 rw[at' k ⋯,at' _ hk,show q - 1 - k=q - 1 - (k+1)+1 by lia];exact hd _ ⋯
theorem vvp{p m}(h:Ok n p)(h1:1<=m)(h2:m+1<=n)(hd:W6 key p (m+1)):∃m' p',Ev key n (kas_descPart m n p) (m',p')/\1<=m'/\m'<=n/\Ok n p'/\AscW key p' m':=by
 obtain⟨p',m',q',e1,e2,e3,e4,e5,e6⟩:=qks (n - (m+1)) _ 0 h ⋯ ⋯ hd (λi i1 i2=>by
  have:i=m+1 - 1:=⋯
  rw[this])
 have tail:∀p2,Ok n p2->W6 key p2 m'->∃m2 p3,Ev key n (kas_tail3 m' n p2) _/\1<=m2/\m2<=n/\Ok n p3/\AscW key p3 m2:=λp2 ho hd=>by
  obtain⟨m2,f1,f2,f3,f4,_⟩:=wj7 (ho.mirror 0 m' ((m' - 0) / 2)) (n - m') m' ⋯ ⋯ (vwy (q:=m') (by rw[ho.sz];lia) hd);exact⟨m2,kas_rev p2 0 m',Jk f1 rfl,⋯,⋯,ho.mirror 0 m' ((m' - 0) / 2),f4⟩
 by_cases hq0:q'>0
 ·have sm:=λk=>kqr (key:=key) (p:=p') (a:=m' - (q'+1)) (b:=m') (c:=K key p' (m' - 1)) (by rw[e4.sz];lia) e6 k
  obtain⟨m2,p3,g1,g2⟩:=tail (kas_rev p' (m' - (q'+1)) m') (e4.mirror _ _ _) λk hk=>by rw[sm k,sm (k+1)];exact e5 k hk
  refine⟨m2,p3,Jk e1 ?_,g2⟩
  rwa [X9 hq0]
 ·obtain⟨m2,p3,g1,g2⟩:=tail p' e4 e5;refine⟨m2,p3,Jk e1 ?_,g2⟩
  rwa [Xb hq0]
theorem wk5(h2:2<=n):∃p,Ev key n (kas_sort n) p/\Ok n p/\AscW key p n:=by
 have h0:Ok n (List.range n).toArray:=⟨by simp,by simp⟩;generalize hp0:(List.range n).toArray=p0 at h0;have cnt:∃m p,Ev key n (kas_count n p0) (m,p)/\1<=m/\m<=n/\Ok n p/\AscW key p m:=by
  obtain⟨m,e1,e2,e3,e4,e5⟩:=wj7 (key:=key) h0 (n - 1) 1 ⋯ ⋯ (λk hk=>absurd hk ⋯)
  by_cases hm:m=n
  ·refine⟨m,_,Jk e1 ?_,e2,⋯,h0,e4⟩;rw [X9 (by rw[hm];simp)];rfl
  ·have ie:¬(m==n)=true:=by simpa using hm
   have ce:=e5 ⋯
   by_cases h1:m>1
   ·by_cases hc:key (p0.getD 0 0)<key (p0.getD (m - 1) 0)
    ·refine⟨m,_,Jk e1 ?_,e2,⋯,h0,e4⟩;rw[Xb ie,X9 h1];refine⟨(h0.at ⋯).2,(h0.at ⋯).2,?_⟩;rw[Xg hc];rfl
    ·have hc':¬K key p0 0<K key p0 (m - 1):=hc;have same:∀i,0<=i->i<m->K key p0 i=K key p0 0:=λi _ hi=>by
      have x1:=e4.le (i:=0) (j:=i) ⋯ hi;have x2:=e4.le (i:=i) (j:=m - 1) ⋯ ⋯;lia
     have sm:=λk=>kqr (key:=key) (p:=p0) (a:=0) (b:=m) (c:=K key p0 0) (by rw[h0.sz];lia) same k
     obtain⟨m',p',g1,g2⟩:=vvp (key:=key) (p:=kas_rev p0 0 m) (m:=m) (h0.mirror _ _ _) ⋯ ⋯ (λk hk=>by
      rw[sm k,sm (k+1)]
      by_cases fu:k+1<m
      ·rw[same k ⋯ ⋯,same (k+1) ⋯ fu];exact Int.le_refl _
      ·have e:k=m - 1:=⋯
       subst e;rw[show m - 1+1=m by lia];lia)
     refine⟨m',p',Jk e1 ?_,g2⟩;rw[Xb ie,X9 h1];refine⟨(h0.at ⋯).2,(h0.at ⋯).2,?_⟩;rw[Xh hc];dsimp only;rw[Xb ⋯];exact g1
   ·have e:m=1:=⋯
    subst e;obtain⟨m',p',g1,g2⟩:=vvp (key:=key) (p:=p0) (m:=1) h0 ⋯ ⋯ (λk hk=>by
     have:k=0:=⋯
     subst this;exact Int.le_of_lt ce)
    refine⟨m',p',Jk e1 ?_,g2⟩
    rwa [Xb ie,Xb h1]
 obtain⟨m,p,e1,e2,e3,e4,e5⟩:=cnt;rw[<-hp0]at e1
 by_cases hm:m<n
 ·obtain⟨p',g1,g2,g3⟩:=wwp (n - m) m e4 e2 ⋯ e5;refine⟨p',Jk e1 ?_,g2,g3⟩;have:max m 1=m:=⋯
  grind
 ·refine⟨p,Jk e1 ?_,e4,by rw[show n=m by lia];exact e5⟩;show Ev key n (if m<n then kas_bin (n - max m 1) p (max m 1)else .ret p) p;rw[Xb hm];rfl
end
theorem wwb{key n α cmp Q a s}(hc:∀i j C,i<n->j<n->C (decide (key i<key j)) s->cmp i j C s):
  ∀{t:KasT α},Ev key n t a->Q a s->KasT.kasWp cmp t Q s
 |.ret _,h,g=>by
  subst h;exact g
 |.ask _ _ _,h,g=>hc _ _ _ h.1 h.2.1 (wwb hc h.2.2 g)
end Srt
namespace Q
open PySem PySem.Spec PyProof.Rows L2 L3
inductive F2 {α β:Type}(R:α->β->Prop):List α->List β->Prop
 |nil:F2 R [] []
 |cons {a:α} {b:β} {l:List α} {m:List β}:R a b->F2 R l m->F2 R (a::l) (b::m)
end Q
namespace Q
open PySem PySem.Spec PyProof.Rows L2 L3 Srt
theorem vzo{α β R}{f:Nat->α}{g:Nat->β}:∀{p:List Nat},(∀i∈p,R (f i) (g i))->F2 R (p.map f) (p.map g)
 |[],_=>.nil|i::p,h=>.cons (h i X5) (vzo λj hj=>h j (lc9 _ hj))
theorem wwa{α β R}{l:List α}{m:List β}(h:F2 R l m):l.length=m.length:=by
 induction h with|nil=>rfl|cons _ _ ih=>simp[ih]
theorem kqf:∀(as:List Addr),Vals (as.map V.ref) (as.map Value.ref)
 |[]=>.nil|a::as=>.cons rfl (kqf as)
end Q
namespace Q
open PySem PySem.Spec PyProof.Rows L2 L3
theorem qvh:∀{vs us},vs.length=us.length->(∀(i:Nat) v u,vs[i]?=some v->us[i]?=some u->RelV v u)->Vals vs us
 |[],[],_,_=>.nil|v::vs,u::us,hl,h=>.cons (h 0 v u rfl rfl) (qvh (by simpa using hl) λi v u e1 e2=>h (i+1) v u (by simpa using e1) (by simpa using e2))|[],_::_,h,_=>by cases h
abbrev dkB(ks:List Int):List (Key×V):=ks.map λk=>(Sum.inl k,V.bl true)
theorem vx6 ks k:xj (dkB ks) (Sum.inl k) (V.bl true)=dkB (wv ks k):=by
 have ha:((dkB ks).any λp=>decide (p.1=(Sum.inl k:Key)))=decide (k∈ks):=by
  rw[List.any_map]
  by_cases h:k∈ks
  ·simp_all
  ·grind
 unfold xj wv
 by_cases h:k∈ks
 ·simp_all
 ·simp_all
theorem kxi : ∀{ab kv},Vj ab = some kv -> ab = kv.map λp=>(D.int p,D.bl true)
  | [],kv,h=>by cases oq9 h; rfl
  | (a,b)::r,kv,h=>by
    cases a with
    | int k =>
      cases b with
      | bl v=>
        cases v with
        | false=>cases h
        | true=>
          have h : (Vj r).map _ = some kv:= h;cases hr : Vj r with
          | none=>grind
          | some q=>
            rw[hr]at h;cases oq9 h;rw[List.map_cons,<-kxi hr]
      |_=>cases h
    |_=>cases b <;> cases h
theorem kxh:∀kv,Vj (kv.map λp=>(D.int p,D.bl true))=some kv
 |[]=>rfl
 |k::r=>by
  show(Vj _).map _=_;rw[kxh r];rfl
theorem qz7 kv:idB (wJ kv)=some kv:=kxh kv
theorem wkd{K H g}:RepL K H g (.bl true) (.bl true) []:=⟨rfl,rfl⟩
theorem kkt{K H g}:∀{kv:List Int} {xs bs},RepP K H g (kv.map λp=>(D.int p,D.bl true)) xs bs->xs=kv.map λ_=>V.bl true
 |[],xs,bs,h=>by
  unfold RepP at h;exact h.1
 |p::r,xs,bs,h=>by
  unfold RepP at h;obtain⟨y,rr,b1,b2,rfl,_,h1,h2⟩:=h;rw[h1.1,kkt h2,List.map_cons]
theorem kqa{K H g}:∀(kv:List Int),RepP K H g (kv.map λp=>(D.int p,D.bl true)) (kv.map λ_=>V.bl true) []
 |[]=>⟨rfl,rfl⟩
 |p::r=>by
  unfold RepP;exact⟨_,_,[],[],rfl,rfl,wkd,kqa r⟩
theorem qx9{K H g}(kv:List Int):RepP K H g (mkB::kv.map λp=>(D.int p,D.bl true)) (V.non::kv.map λ_=>V.bl true) []:=by
 exact⟨_,_,[],[],rfl,rfl,by unfold RepL;exact⟨rfl,rfl⟩,kqa kv⟩
theorem kwt:∀{a:List (Int×V)} {kv},(kv.map λp=>D.int p)=a.map (λp=>D.int p.1)->(kv.map λ_=>V.bl true)=a.map (·.2)->(a.map λp=>((Sum.inl p.1:Key),p.2))=dkB kv
 |[],[],_,_=>rfl|[],_::_,h,_=>by simp_all
 |p::a,q::kv,h,h'=>by
  rw[List.map_cons,List.map_cons]at h h';injection h with h1 h2;injection h' with h3 h4;injection h1 with h1;unfold dkB;rw[List.map_cons,List.map_cons,kwt h2 h4,<-h1,<-h3]
theorem qzo{K H}{y:Sl}{kv}(ok:y.ok K H)(hd:idB y.d=some kv):∃a,y.v=.ref a/\H a=some (.dK (dkB kv))/\∃bs,y.as=a::bs:=by
 have h:=RepO.wk ok;cases hy:y.d with
 | dct ab=>
  rw [hy]at hd h;cases ab with
  | nil=>cases hd
  | cons e ab=>
   obtain⟨a,b⟩:=e;cases a with
   | str m=>
    cases b with
    | non=>
     have e:=kxi hd;subst e;obtain⟨a,xs,bs,ev,rp,qa,eas⟩:=h;rcases qa with⟨es,ep,_,_,_,_,g5,g6,_⟩|⟨kvn,mm,g1,g2,g3⟩
     ·exfalso;rw[List.map_cons]at g5;cases es with
      |nil=>cases g5
      |cons n es=>
       rw[List.map_cons]at g5;injection g5 with g5 _;have:=g6 n X5;rw[<-g5]at this;unfold PuR at this
       grind
     ·refine⟨a,ev,?_,bs,eas⟩;rw[g1]
      congr 2
      obtain⟨y1,rr,_,_,rfl,_,_,r2⟩:=rp;have e1:=kkt r2;rw[List.map_cons,Xl]at g2;injection g2 with _ g2;refine kwt g2 ?_
      simp_all
    |_=>cases hd
   |_=>cases b<;>cases hd
 |_=>rw[hy]at hd;cases hd
section
variable {X:Cx}{Z:Fx0}{pn:List Nat}{q qa:Bool}{a b c kc vc:Ex}{o ea eb ec ke ve:Expr}{pos b9 ae:Pos}
theorem wq2:QE X Z true vqs (.Dict [] [] pos):=kZ qk0 fun σ H Q aj=>ex8 aj λE L r m w hc xc k=>by
 intro p hp;cases oq9 hc;have sm:jY H (upd H p (.dK [])):=vJ hp;refine k _ _ rfl ⟨.rt,wJ [],.ref p,[p]⟩ L _ rfl rfl m ?_ ?_ λ_=>⟨sm,λb hb=>?_⟩
 ·refine World.cons ⟨λt ht=>RepO.kp (w.ok t ht) (Kp.of_same sm),w.nd,w.ds⟩ ?_ ?_ ?_ ?_ ?_ ?_
  ·exact⟨p,_,[],rfl,qx9 [],.inr ⟨[],"b",x6,rfl,rfl⟩,rfl⟩
  ·simp[Sl.own]
  ·intro b hb ho;have:b=p:=by simpa [Sl.own]using hb
   subst this;exact w.own_some ho hp
  ·intro b hb ho;have:b=p:=by simpa [Sl.own]using hb
   subst this;exact w.frz_some ho hp
  ·intro b hb;simp[Sl.frz]at hb
  ·intro b _ hb;simp[Sl.frz]at hb
 ·refine⟨λb ob h _=>sm b ob h,λb hb=>?_,λb hb=>?_⟩
  ·rcases aA hb with z|z
   ·have:b=p:=by simpa [Sl.own]using z
    exact .inr (this▸hp)
   ·exact .inl z
  ·rcases aA hb with z|z
   ·simp[Sl.frz]at z
   ·exact .inl z
 ·have:b=p:=by simpa [Sl.own]using hb
  exact this▸hp
theorem wq4 {i} (hu:X.A.units+64<cLine) (ho:PE X o (xW i)) (hk:QV X Z true kc ke) (hv:QE X Z q vc ve) (hs:autoParam (swapsWith ve (some (.Subscript o ke b9)) pos.line X.env=pure false) Ŕ):
  QS X Z pn (qvy i kc vc) (.Assign [.Subscript o ke b9] ve pos):=zZ (qwo ⋯ ho hk hv hs) λD σ H aj=>ex7 aj λE L r m w hr k=>
 Q4 m w hr k λE1 s1 h1 x L1 H1 e1 e2 m1 w1 ir _=>by
  by_cases hd:Zv E1[i]?=true
  ·rw [X9 hd]at h1;obtain ⟨s0,p9⟩:∃s0,E1[i]?=some _:=by
    cases h0:E1[i]? with
    | none=>rw[h0]at hd;cases hd
    | some s0=>
     cases s0 with| none=>rw[h0]at hd;cases hd| some s0=>exact⟨s0,rfl⟩
   obtain ⟨y0,a1,a2,a3,a4⟩:=m1.get p9;refine ⟨y0.v,a4,?_⟩;rcases W5 h1 with⟨E2,ky,hk1,b5⟩|⟨E2,c,hk1,rfl⟩
   ·refine ⟨E1,L1,_,m1,w1.tail,hk1,(λ_ _ z=>by cases z),λE' s' z zk L2 H2 f1 f2 m2 w2 t7 frz _ bu sm=>?_⟩;injection z with z1 z2;subst z1 z2;cases hE:E2[i]? with
    | none=>rw[hE]at b5;cases b5
    | some s2=>
     cases s2 with
     | none=>rw[hE]at b5;cases b5
     | some s2=>
      obtain ⟨oo,dd⟩:=s2;rw [hE]at b5;cases oo with
      | no=>cases b5| dp=>cases b5
      | rt =>
       cases hkd:ky.2 with
       | int j=>
        cases hvd:s1.2 with
        | bl vv=>
         rw [hkd,hvd]at b5;dsimp only at b5;cases hi:idB dd with
         | none=>rw[hi]at b5;cases b5
         | some kv=>
          rw [hi]at b5;dsimp only at b5
          by_cases hl:kv.length<big/\vv=true
          ·rw[X9 hl]at b5;cases oq9 b5;obtain⟨hl,hvt⟩:=hl;subst hvt;obtain⟨y,b1,b2,b3,b4⟩:=m2.get hE;have uk:y.v=y0.v:=by rw[a4]at b4;exact(oq9 (oq9 b4)).symm
           obtain⟨w3,dg⟩:=wxb (T:=[some x]) w1 bu w2;obtain⟨l,c1,c2,bs,c3⟩:=qzo (w2.ok y (vz b1)) (b3▸hi);refine⟨l,upd H2 l (.dK (dkB (wv kv j))),uk▸c1,?_,?_⟩
           ·rw[(kw t7 (f2▸hkd)),(QY (w3.ok x X5) (e2▸hvd)),<-vx6];exact DPut.k (k:=Sum.inl j) c2 (by show(kv.map _).length<sizeLine;rw[X4];exact hl)
           ·have pz:l∈y.own:=by unfold Sl.own;rw[b2,c3];simp
            obtain⟨w4,fy⟩:=World.writeAt (ob:=.dK (dkB (wv kv j))) (T:=[some x]) w3 b1 pz (y':=⟨.rt,wJ (wv kv j),y.v,[l]⟩) ⟨l,_,[],c1,qx9 _,.inr ⟨(wv kv j).map λp=>(p,V.bl true),"b",by rw[x6,Xl];rfl,by rw[List.map_cons,Xl,Xl];rfl,by rw[Xl];rfl⟩,rfl⟩ (by simp[Sl.own]) (λa h=>by
             have:a=l:=by simpa [Sl.own]using h
             subst this;exact .inl pz) (λa h=>by simp[Sl.frz]at h) (λa h z=>by simp[Sl.frz]at z)
            refine k σ _ _ Pn.refl ?_ w4 ((ir.trans dg).trans fy);have:=m2.set (x:=⟨.rt,wJ (wv kv j),y.v,[l]⟩) i;rw[Kq b4]at this;exact this
          ·rw[Xb hl]at b5;cases b5
        |_=>rw[hkd,hvd]at b5;cases b5
       |_=>rw[hkd]at b5;cases b5
   ·exact⟨E1,L1,_,m1,w1.tail,hk1,(λE' c' e C L' H' hm m' w' st=>by injection e with z1 z2;subst z1 z2;exact k C σ L' H' hm Pn.refl m' w' ((ir.trans Step.drop).trans st)),λE' s' z=>by cases z⟩
  ·simp_all
end
theorem vw1{ks}:∀{vs},KV (dkB ks) vs->vs.length=ks.length/\∀(i:Nat) k x,vs[i]?=some (k,x)->∃p,ks[i]?=some p/\k=Sum.inl p:=by
 induction ks with
 | nil=>intro vs h;cases h;exact⟨rfl,λi k x h=>by simp at h⟩
 | cons p r ih=>
  intro vs h;cases h with
  |cons h1 h2=>
   obtain⟨g1,g2⟩:=ih h2;refine⟨by simp[g1],λi k x e=>?_⟩;cases i with|zero=>simp_all|succ i=>exact g2 i k x (by simpa using e)
noncomputable def vv9(K:Frag):List V->Hp->VK->Prop:=λxs H Q=>∃(a:Addr) (kv:List Int),xs=[.ref a]/\H a=some (.dK (dkB kv))/\∀l,H l=none->Q (.ref l) (upd H l (.lst (kv.map λp=>V.int p)))
theorem qv6{X} K (hc:autoParam (X.calm=true) Ŕ):CallR X (.type "list") (vv9 K):=by
 rintro a7 s σ H xs us Q I r ⟨a,kv,rfl,hH,q⟩;obtain⟨u,rfl,rx⟩:=x4 r;cases rx;obtain⟨hz,lo,vs,dk,dd⟩:=vzu I.hok hH;obtain⟨ep,il⟩:=dd.dictAt;obtain⟨v1,v2⟩:=vw1 dk;have hl:vs.length<=sizeLine:=by
  simp_all
 refine PySem.W.kdl_call (PySem.W.kdl_dict lo) (I.ok.hd hc) il hl λh' tk af c kp e ao=>(⟨.ref s.heap.objs.size,_,I.laid kp (X7 _) (show ObjOk X.prog X.w _ h' _ (.lst _)from⟨by rw[X4,<-v1];exact hl,af.toList,c,qvh ?_ λi v u e1 e2=>?_,by simpa using e⟩),rfl,q _ (I.hok.fresh (X7 _))⟩)
 ·have e3:af.toList.length=vs.length:=Array.length_toList.trans ao.1
  simp_all
 ·obtain⟨k,x,g1,g2⟩:=ao.2 i u (by simpa using e2);obtain⟨p,g3,rfl⟩:=v2 i k x g1;rw[Xi,g3]at e1;cases oq9 e1;exact Value.isInt_shape g2
theorem vqy{K}:Ad1 K (λv H Q=>vv9 K [v] H Q) kx3:=by
 intro H x s Q ok hf k;unfold kx3 at hf;cases hx:idB x.d with
 |none=>simp_all
 |some kv=>
  rw[show idB (x.o,x.d).2=some kv from hx]at hf;cases oq9 hf;obtain⟨a,ev,hH,_⟩:=qzo ok hx;exact⟨a,kv,by rw[ev],hH,λl hl=>k ⟨.rt,.lst _,.ref l,l::[]⟩ _ rfl rfl (J8 hl (qjk) λb hb=>nomatch hb)⟩
noncomputable def wkj:List V->Hp->VK->Prop:=λxs H Q=>∃(a:Addr) (kv:List Int),xs=[.ref a]/\H a=some (.dK (dkB kv))/\Q (.int kv.length) H
theorem vj4{X}:CallR X (.builtin "len") wkj:=by
 rintro a7 s σ H xs us Q I r ⟨a,kv,rfl,hH,q⟩;obtain⟨u,rfl,rx⟩:=x4 r;cases rx;obtain⟨hz,lo,vs,dk,o,es,ep,h1,h2,h3,h4,h5,h6⟩:=vzu I.hok hH;have hl:es.size=kv.length:=by
  have:=h5.length;rw[(vw1 dk).1]at this;exact this
 have hz:kv.length<=sizeLine:=by simpa [dkB]using hz
 exact kkp lo ⟨o,es,ep,h1,h2.1,h3,hl⟩ (by rw[Yo]at hz;lia) ⟨.int kv.length,H,I.tok _,⟨_,rfl⟩,q⟩
theorem wj9{K}:Ad1 K (λv H Q=>wkj [v] H Q) (pu1 Zw):=by
 intro H x s Q ok hf k;have hf:(Zw x.d).map _=some s:=hf;unfold Zw at hf;cases hx:idB x.d with
 |none=>simp_all
 |some kv=>
  rw[hx]at hf;cases oq9 hf;obtain⟨a,ev,hH,_⟩:=qzo ok hx;exact⟨a,kv,by rw[ev],hH,k _ H rfl rfl (jzw (λ_ _ h=>h) wW)⟩
end Q
namespace Tb
open PySem PySem.SetTable
noncomputable def it{α:Type}(f:α->α):Nat->α->α
 |0,a=>a|n+1,a=>it f n (f a)
theorem K4{α}(f):∀m n (a:α),it f (m+n) a=it f n (it f m a)
 |0,n,a=>by rw[Nat.zero_add];rfl|m+1,n,a=>by rw[Nat.succ_add];exact K4 f m n _
theorem kzo{α} f n (a:α):it f (n+1) a=f (it f n a):=K4 f n 1 a
def lp(mask:Nat)(q:Nat×Nat):Nat×Nat:=leap mask q.1 q.2
def f5(mask:Nat)(i:Nat):Nat:=(i*5+1) % (mask+1)
theorem vvx(mask):∀k (q),(it (lp mask) k q).2=q.2 / 32 ^ k
 |0,q=>by rw[Nat.div_one];rfl
 |k+1,q=>by
  show(it _ k (lp mask q)).2=_;rw[vvx mask k];show q.2 / 32 / 32 ^ k=_;rw[Nat.div_div_eq_div_mul,Nat.pow_succ,Nat.mul_comm]
theorem qxk(mask):∀k i,it (lp mask) k (i,0)=(it (f5 mask) k i,0)
 |0,i=>rfl
 |k+1,i=>by
  show it _ k (leap mask i 0)=_;have:leap mask i 0=(f5 mask i,0):=by unfold leap f5;simp
  rw[this,qxk mask k];rfl
def xq(mask:Nat):Prop:=mask=7\/mask=31\/mask=127
noncomputable def Vz(mask:Nat):Nat->Nat->List Nat
 |0,_=>[]|n+1,i=>i::Vz mask n (f5 mask i)
theorem kwe{mask}:∀{n i e},e∈Vz mask n i->∃k,k<n/\it (f5 mask) k i=e
 | n+1,i,e,h=>by
  rcases aD h with rfl|h
  ·exact⟨0,Nat.succ_pos _,rfl⟩
  ·obtain⟨k,hk,e⟩:=kwe h;exact⟨k+1,Nat.succ_lt_succ hk,e⟩
theorem wjo:(List.range 32).all (λe=>(Vz 31 32 0).contains e)=true/\it (f5 31) 32 0=0:=by decide +kernel
theorem wxf:(List.range 8).all (λe=>(Vz 7 8 0).contains e)=true/\it (f5 7) 8 0=0:=by decide +kernel
theorem vwj:(List.range 128).all (λe=>(Vz 127 128 0).contains e)=true/\it (f5 127) 128 0=0:=by decide +kernel
theorem cyc{mask}(h:(List.range (mask+1)).all (λe=>(Vz mask (mask+1) 0).contains e)=true/\it (f5 mask) (mask+1) 0=0){i e}(hi:i<=mask)(he:e<=mask):∃k,k<=mask/\it (f5 mask) k i=e:=by
 obtain⟨h1,h2⟩:=h;rw[Ym]at h1;have g:∀e,e<=mask->∃k,k<mask+1/\it _ k 0=e:=λe he=>kwe (by simpa using h1 e (List.mem_range.mpr ⋯))
 obtain⟨a,ha,ea⟩:=g i hi;obtain⟨b,hb,eb⟩:=g e he
 by_cases lz:a<=b
 ·refine⟨b - a,⋯,?_⟩
  rwa [<-ea,<-K4,show a+_=b by lia]
 ·refine⟨mask+1 - a+b,⋯,?_⟩
  rwa [<-ea,<-K4,show a+_=mask+1+b by lia,K4,h2]
theorem cyc'{mask}(hm:xq mask){i e}(hi:i<=mask)(he:e<=mask):∃k,k<=mask/\it (f5 mask) k i=e:=by
 rcases hm with rfl|rfl|rfl
 ·exact cyc wxf hi he
 ·exact cyc wjo hi he
 ·exact cyc vwj hi he
theorem wwl{mask i b e}(hm:xq mask)(hi:i<=mask)(hb:b<2 ^ 64)(he:e<=mask):∃k,k<mask+15/\(it (lp mask) k (i,b)).1=e:=by
 have hp:(it (lp mask) 13 (i,b)).2=0:=by
  rw[vvx];exact Nat.div_eq_of_lt (Xn hb ⋯)
 have hl:(it (lp mask) 13 (i,b)).1<=mask:=by
  show((it (lp mask) 12 _).1*5+1+(it (lp mask) 12 _).2 / 32) % _<=mask;have:=Nat.mod_lt ((it (lp mask) 12 (i,b)).1*5+1+(it (lp mask) 12 (i,b)).2 / 32) (show 0<mask+1 by lia);lia
 obtain⟨k,hk,e1⟩:=cyc' hm hl he;refine⟨13+k,⋯,?_⟩;rw[K4];have:it _ 13 _=((it _ 13 (i,b)).1,0):=Prod.ext rfl hp
 rwa [this,qxk]
noncomputable def adv(mask:Nat)(p:Probe):Probe:=
 if p.more>0 then {p with j:=p.j+1,more:=p.more - 1}else {p with j:=(leap mask p.i p.perturb).1,more:=runEnd mask (leap mask p.i p.perturb).1 - (leap mask p.i p.perturb).1,i:=(leap mask p.i p.perturb).1,perturb:=(leap mask p.i p.perturb).2}
theorem vwg(t:SetTable) p:t.advance p=adv t.mask p:=rfl
noncomputable def rs(mask:Nat)(q:Nat×Nat):Probe:=⟨q.1,runEnd mask q.1 - q.1,q.1,q.2,none⟩
def st0(mask:Nat)(h:Int):Nat×Nat:=(bits h % (mask+1),bits h)
theorem len9(mask i):runEnd mask i - i<=9:=by unfold runEnd;split<;>lia
theorem qj3(mask)(q):∀r,r<=runEnd mask q.1 - q.1->it (adv mask) r (rs mask q)=⟨q.1+r,runEnd mask q.1 - q.1 - r,q.1,q.2,none⟩
 |0,_=>rfl
 |r+1,h=>by
  rw[kzo,qj3 mask q r ⋯];unfold adv
  grind
theorem kvr mask q:it (adv mask) (runEnd mask q.1 - q.1+1) (rs mask q)=rs mask (lp mask q):=by
 rw[kzo,qj3 mask q _ (X7 _)];unfold adv;rw[Xb ⋯];rfl
theorem vv5(mask):∀k (q),∃s,s<=10*k/\it (adv mask) s (rs mask q)=rs mask (it (lp mask) k q)
 |0,q=>⟨0,X7 _,rfl⟩
 |k+1,q=>by
  obtain⟨s,hs,e⟩:=vv5 mask k _;refine⟨runEnd mask q.1 - q.1+1+s,by have:=len9 mask q.1;lia,?_⟩;rw[K4,kvr,e];rfl
noncomputable def jx(mask:Nat)(h:Int)(m:Nat):Nat:=(it (adv mask) m (rs mask (st0 mask h))).j
theorem vjd h:bits h<2 ^ 64:=by
 unfold bits
 grind
theorem qw4{mask}(hm:xq mask) h {e}(he:e<=mask):∃m,m<10*turns mask/\jx mask h m=e:=by
 have hi:(st0 mask h).1<=mask:=by
  have:=Nat.mod_lt (bits h) (show 0<mask+1 by lia);show bits h % _<=mask;lia
 obtain⟨k,hk,e1⟩:=wwl hm hi (vjd h) he;obtain⟨s,hs,e2⟩:=vv5 mask k _;refine⟨s,by unfold turns;lia,?_⟩;unfold jx
 rwa [e2]
theorem wzr{P:Nat->Prop}:∀{N},(∃m,m<N/\P m)->∃M,M<N/\P M/\∀m,m<M->¬P m:=by
 rintro N ⟨m,hm,hp⟩
 induction m using Nat.strongRecOn with
 | _ m ih=>
  by_cases c:∃m',m'<m/\P m'
  ·obtain⟨m',h1,h2⟩:=c;exact ih m' h1 ⋯ h2
  ·exact⟨m,hm,hp,λm' h1 h2=>c ⟨m',h1,h2⟩⟩
theorem qqz{mask}{oc:Nat->Prop}(hm:xq mask) h (hf:∃e,e<=mask/\¬oc e):∃M,M<10*turns mask/\¬oc (jx mask h M)/\∀m,m<M->oc (jx mask h m):=by
 obtain⟨e,he,hn⟩:=hf;obtain⟨m,h1,h2⟩:=qw4 hm h he;obtain⟨M,a,b,c⟩:=wzr (P:=λm=>¬oc (jx mask h m)) ⟨m,h1,by rw[h2];exact hn⟩;exact⟨M,a,b,λm hm=>Classical.not_not.mp (c m hm)⟩
theorem qwt:∀N (xs:List Nat),xs.length<N->∃j,j<N/\j∉xs
 | 0,_,h=>by grind
 | N + 1,xs,h=>by
  by_cases c:N∈xs
  ·have hl:(xs.filter (λx=>x != N)).length<N:=by
    have:(xs.filter (λx=>x != N)).length<xs.length:=by
     refine List.length_filter_lt_length_iff_exists.mpr ⟨N,c,by simp⟩
    lia
   obtain⟨j,h1,h2⟩:=qwt N _ hl;refine⟨j,⋯,λz=>h2 (List.mem_filter.mpr ⟨z,?_⟩)⟩;simp;lia
  ·exact⟨N,⋯,c⟩
theorem kww{mask owner}:∀{fuel q j},layClean.free mask owner fuel q.1 q.2=some j ->
  ∃ m,(it (adv mask) m (rs mask q)).j=j/\(owner.getD j (some 0)).isNone=true/\∀m',m'<m->(owner.getD (it (adv mask) m' (rs mask q)).j (some 0)).isNone=false
 | 0,q,j,h=>by cases h
 | fuel+1,q,j,h=>by
  unfold layClean.free at h;have run:∀r,r<=runEnd mask q.1 - q.1->(it (adv mask) r (rs mask q)).j=q.1+r:=λr hr=>by rw[qj3 mask q r hr]
  have jg:runEnd mask q.1+1 - q.1=runEnd mask q.1 - q.1+1:=by
   have:q.1<=runEnd mask q.1:=by unfold runEnd;split<;>lia
   lia
  split at h
  ·rename_i k hk;cases oq9 h;obtain⟨h1,as,bs,h2,h3⟩:=List.find?_eq_some_iff_append.mp hk;have fu:k<runEnd mask q.1 - q.1+1:=by
    have:k∈List.range (runEnd mask q.1+1 - q.1):=List.mem_of_find?_eq_some hk;rw[jg]at this;exact List.mem_range.mp this
   refine⟨k,run k ⋯,h1,λm' ie=>?_⟩;rw[run m' ⋯];have hl:as.length=k:=by
    have e:(List.range (runEnd mask q.1+1 - q.1))[as.length]?=(as++k::bs)[as.length]?:=by rw[h2]
    rw[List.getElem?_append_right (X7 _),Nat.sub_self,List.getElem?_cons_zero]at e;have ce:as.length<runEnd mask q.1+1 - q.1:=by
     have:=congrArg List.length h2;rw[Y5,Xk,Xm]at this;lia
    rw[List.getElem?_range ce]at e;exact oq9 e
   have hm:m'∈as:=by
    have e:(List.range (runEnd mask q.1+1 - q.1))[m']?=(as++k::bs)[m']?:=by rw[h2]
    rw[Xw ⋯,List.getElem?_range ⋯]at e;exact Xx e.symm
   exact Bool.eq_false_iff.mpr λz=>by
    have:=h3 m' hm;rw[z]at this
    grind
  ·rename_i hk;rw[List.find?_eq_none]at hk;have h:layClean.free mask owner fuel (lp mask q).1 (lp mask q).2=some j:=h;obtain⟨m,h1,h2,h3⟩:=kww h;refine⟨runEnd mask q.1 - q.1+1+m,by rw[K4,kvr];exact h1,h2,λm' ie=>?_⟩
   by_cases c:m'<runEnd mask q.1 - q.1+1
   ·rw[run m' ⋯];exact Bool.eq_false_iff.mpr (hk m' (List.mem_range.mpr ⋯))
   ·have:=h3 (m' - (runEnd mask q.1 - q.1+1)) ⋯;rw[<-kvr,<-K4,show runEnd mask q.1 - q.1+1+(m' - (runEnd mask q.1 - q.1+1))=m' by lia]at this;exact this
theorem kwx{mask owner}:∀{fuel q},layClean.free mask owner fuel q.1 q.2=none->∀k,k<fuel->(owner.getD (it (lp mask) k q).1 (some 0)).isNone=false
 | fuel+1,q,h,k,hk=>by
  unfold layClean.free at h
  split at h
  ·cases h
  ·rename_i hn;rw[List.find?_eq_none]at hn;cases k with
   | zero=>
    have jg:0<runEnd mask q.1+1 - q.1:=by
     have:q.1<=runEnd mask q.1:=by unfold runEnd;split<;>lia
     lia
    exact Bool.eq_false_iff.mpr (hn 0 (List.mem_range.mpr jg))
   |succ k=>exact kwx h k ⋯
theorem vzk{mask owner}(hm:xq mask)(h)(hf:∃e,e<=mask/\(owner.getD e (some 0)).isNone=true):
  ∃j m,layClean.free mask owner (turns mask) (bits h % (mask+1)) (bits h)=some j/\jx mask h m=j/\(owner.getD j (some 0)).isNone=true/\∀m',m'<m->(owner.getD (jx mask h m') (some 0)).isNone=false:=by
 cases hj:layClean.free mask owner _ _ _ with
 | none=>
  obtain⟨e,he,hn⟩:=hf;have hi:bits h % (mask+1)<=mask:=by
   have:=Nat.mod_lt (bits h) (show 0<mask+1 by lia);lia
  obtain⟨k,hk,e1⟩:=wwl hm hi (vjd h) he;have:=kwx (q:=(bits h % _,bits h)) hj k (by unfold turns;lia);rw[e1,hn]at this
  grind
 |some j=>
  obtain⟨m,h1,h2,h3⟩:=kww (q:=(bits h % _,bits h)) hj;exact⟨j,m,rfl,h1,h2,h3⟩
theorem kvq(xs)(j)(hp:xs.toList.Pairwise (· < ·)):∀fuel lo hi,lo<=hi->hi<=xs.size->hi - lo<=fuel->(∀i (h),i<lo->xs[i]<j)->(∀i (h),hi<=i->j<=xs[i]) ->
  below.go xs j fuel lo hi<=xs.size/\(∀i (h),i<below.go xs j fuel lo hi->xs[i]<j)/\(∀i (h),below.go xs j fuel lo hi<=i->j<=xs[i])
 | 0,lo,hi,h1,h2,h3,h4,h5=>by
  have:lo=hi:=⋯
  subst this;exact⟨h2,h4,h5⟩
 | fuel+1,lo,hi,h1,h2,h3,h4,h5=>by
  unfold below.go
  by_cases hl:lo<hi
  ·rw[X9 hl];have hm:(lo+hi) / 2<xs.size:=⋯
   have mono:∀i k (hi) (hk:k<xs.size),i<k->xs[i]<xs[k]:=λi k hi hk hik=>by
    have:=List.pairwise_iff_getElem.mp hp i k (by simpa using hi) (by simpa using hk) hik
    simpa using this
   by_cases hc:xs.getD ((lo+hi) / 2) j<j
   ·rw[X9 hc];have hc':xs[(lo+hi) / 2]<j:=by simpa [Array.getD,hm]using hc
    refine kvq xs j hp fuel _ hi ⋯ h2 ⋯ (λi h lu=>?_) h5
    by_cases e:i=(lo+hi) / 2
    ·subst e;exact hc'
    ·have:=mono i ((lo+hi) / 2) h hm ⋯;lia
   ·rw[Xb hc];have hc':j<=xs[(lo+hi) / 2]:=by
     have:¬xs[(lo+hi) / 2]<j:=by simpa [Array.getD,hm]using hc
     lia
    refine kvq xs j hp fuel lo _ ⋯ ⋯ ⋯ h4 (λi h lu=>?_)
    by_cases e:i=(lo+hi) / 2
    ·subst e;exact hc'
    ·have:=mono ((lo+hi) / 2) i hm h ⋯;lia
  ·rw[Xb hl];have:lo=hi:=⋯
   subst this;exact⟨h2,h4,h5⟩
theorem kvp{xs} j (hp:xs.toList.Pairwise (· < ·)):below xs j<=xs.size/\(∀i h,i<below xs j->xs[i]<j)/\(∀i h,below xs j<=i->j<=xs[i]):=
 kvq xs j hp xs.size 0 xs.size ⋯ (X7 _) ⋯ (λi _ h=>absurd h ⋯) (λi h hi=>absurd h ⋯)
theorem qvs{t:SetTable}(hp:t.place.toList.Pairwise (· < ·))(hd:t.dummies=#[]) j:(∃i,t.slot j=.live i/\t.place[i]?=some j)\/(t.slot j=.empty/\j∉t.place.toList):=by
 unfold slot
 by_cases h:(t.place[below t.place j]? == some j)=true
 ·rw [X9 h];exact .inl ⟨_,rfl,by simpa using h⟩
 ·rw [Xb h,hd];have:has #[] j=false:=by
   unfold has;simp
  refine .inr ⟨rfl,λhj=>h ?_⟩;obtain⟨i,hi,e⟩:=List.mem_iff_getElem.mp hj;have hi:i<t.place.size:=by simpa using hi
  have e:t.place[i]=j:=by simpa using e
  obtain⟨b1,b2,b3⟩:=kvp j hp;have hb:below t.place j=i:=by
   by_cases c:i<below t.place j
   ·have:=b2 i hi c;lia
   ·by_cases c2:below t.place j<i
    ·have h1:=b3 _ ⋯ (X7 _);have h2:=List.pairwise_iff_getElem.mp hp _ i (by simp;lia) (by simpa using hi) c2
     grind
    ·lia
  rw[hb,Xf hi,e];simp
theorem jxk{α} xs p (x:α):(insertAt xs p x).toList=xs.toList.take p++x::xs.toList.drop p:=by
 unfold insertAt;simp[List.extract_eq_drop_take];exact List.take_of_length_le (by simp)
theorem kvb{α:Type} xs p (x:α):(xs.take p++x::xs.drop p).Perm (x::xs):=by
 refine List.perm_middle.trans (.of_eq ?_);rw[List.take_append_drop]
theorem ww1{xs j}(hp:xs.toList.Pairwise (· < ·))(hj:j∉xs.toList):(insertAt xs (below xs j) j).toList.Pairwise (· < ·):=by
 rw[jxk];obtain⟨b1,b2,b3⟩:=kvp j hp;have h1:∀a∈xs.toList.take (below xs j),a<j:=λa ha=>by
  obtain⟨i,hi,rfl⟩:=List.mem_iff_getElem.mp ha;rw[Yr]at hi;have:=b2 i (by simp at hi;lia) ⋯
  simpa using this
 have h2:∀a∈xs.toList.drop (below xs j),j<a:=λa ha=>by
  have hm:=List.mem_of_mem_drop ha;obtain⟨i,hi,rfl⟩:=List.mem_iff_getElem.mp ha;rw[Zh]at hi;have:=b3 (below xs j+i) (by simp at hi;lia) ⋯;have e:(xs.toList.drop (below xs j))[i]=xs[below xs j+i]'(by simp at hi;lia):=by simp
  grind
 refine List.pairwise_append.mpr ⟨hp.sublist (List.take_sublist _ _),List.pairwise_cons.mpr ⟨h2,hp.sublist (List.drop_sublist _ _)⟩,λa ha b hb=>?_⟩;rcases aD hb with rfl|hb
 ·exact h1 a ha
 ·exact Nat.lt_trans (h1 a ha) (h2 b hb)
theorem vze{α β:Type}{xs:List α}{ys:List β} p x y (hl:xs.length=ys.length):((xs.take p++x::xs.drop p).zip (ys.take p++y::ys.drop p)).Perm ((x,y)::xs.zip ys):=by
 have hz:(xs.take p++x::xs.drop p).zip (ys.take p++y::ys.drop p)=(xs.zip ys).take p++(x,y)::(xs.zip ys).drop p:=by
  rw[List.zip_append (by rw[Yr,Yr,hl]),List.zip_cons_cons];unfold List.zip;rw[List.take_zipWith,List.drop_zipWith]
 rw[hz];exact kvb _ p _
abbrev Ent:=Int×Value
noncomputable def Z(t:SetTable)(es:Array Ent):List (Nat×Ent):=t.place.toList.zip es.toList
structure TOk (t:SetTable)(es:Array Ent):Prop where
 m:xq t.mask
 d:t.dummies=#[]
 sz:t.place.size=es.size
 pw:t.place.toList.Pairwise (· < ·)
 le:∀j∈t.place.toList,j<=t.mask
 few:es.size*5<t.mask*3
 good:∀z∈Z t es,∃m,jx t.mask z.2.1 m=z.1/\∀m',m'<m->jx t.mask z.2.1 m'∈t.place.toList
theorem TOk.empty{t es}(h:TOk t es):∃e,e<=t.mask/\¬e∈t.place.toList:=by
 have hs:t.place.toList.length<t.mask+1:=by
  rw[Xd,h.sz];have:=h.few;lia
 obtain⟨j,h1,h2⟩:=qwt _ _ hs;exact⟨j,⋯,h2⟩
noncomputable def pr(mask:Nat)(h:Int)(m:Nat):Probe:=it (adv mask) m (rs mask (st0 mask h))
theorem kqv mask h m:adv mask (pr mask h m)=pr mask h (m+1):=(kzo _ _ _).symm
theorem qjw(mask)(h):∀m,(pr mask h m).dummy=none
 |0=>rfl
 |m+1=>by
  rw[<-kqv];have:=qjw mask h m;unfold adv
  split<;>exact this
theorem qjv{t es}(ok:TOk t es){g h M}(hM:jx t.mask h M∉t.place.toList)(hb:∀m,m<M->jx t.mask h m∈t.place.toList):
  ∀ F m,m<=M->M - m<F ->
   (probe.go t g h F (pr t.mask h m)=some (.empty (jx t.mask h M) none)/\∀m' i,m<=m'->m'<M->t.place[i]?=some (jx t.mask h m')->g i≠h) \/
   ∃ m' i,m<=m'/\m'<M/\t.place[i]?=some (jx t.mask h m')/\g i=h/\probe.go t g h F (pr t.mask h m)=some (.candidate (jx t.mask h m') i (pr t.mask h (m'+1)))/\∀kr i',m<=kr->kr<m'->t.place[i']?=some (jx t.mask h kr)->g i'≠h
 | 0,m,_,h2=>absurd h2 ⋯
 | F + 1,m,h1,h2=>by
  have hj:(pr t.mask h m).j=jx t.mask h m:=rfl;unfold probe.go;rw [hj];rcases qvs ok.pw ok.d (jx t.mask h m)with⟨i,e1,e2⟩|⟨e1,e2⟩
  ·rw [e1];dsimp only;have hmM:m<M:=by
    rcases Nat.lt_or_ge m M with c|c
    ·exact c
    ·have:m=M:=⋯
     subst this;exact absurd (Xx (Xp▸e2)) hM
   have uni:∀i',t.place[i']?=some (jx t.mask h m)->i'=i:=λi' e3=>by
    refine(List.getElem?_inj (by simpa using ((Array.getElem?_eq_some_iff.mp e3).1)) (ok.pw.imp λh=>Xe h)).mp ?_;rw[Xp,Xp,e3,e2]
   by_cases hg:g i=h
   ·rw[X9 (by simpa using hg),vwg,kqv];exact .inr ⟨m,i,X7 _,hmM,e2,hg,rfl,λkr i' a b=>absurd a ⋯⟩
   ·rw[Xb (by simpa using hg),vwg,kqv];rcases qjv ok hM hb F (m+1) ⋯ ⋯with⟨q1,q2⟩|⟨m',i',q1,q2,q3,q4,q5,q6⟩
    ·refine .inl ⟨q1,λm' i' a b c=>?_⟩
     by_cases e:m'=m
     ·subst e
      rwa [uni i' c]
     ·exact q2 m' i' ⋯ b c
    ·refine .inr ⟨m',i',⋯,q2,q3,q4,q5,λkr i'' a b c=>?_⟩
     by_cases e:kr=m
     ·subst e
      rwa [uni i'' c]
     ·exact q6 kr i'' ⋯ b c
  ·rw[e1];dsimp only;have hmM:m=M:=by
    rcases Nat.lt_or_ge m M with c|c
    ·exact absurd (hb m c) e2
    ·lia
   subst hmM;rw[qjw];exact .inl ⟨rfl,λm' i a b=>absurd a ⋯⟩
theorem wqe(mask)(h):∀m,(pr mask h m).j+(pr mask h m).more<=mask
 | 0=>by
  show bits h % _+(runEnd mask (bits h % _) - bits h % _)<=mask;have:=Nat.mod_lt (bits h) (show 0<mask+1 by lia);unfold runEnd
  split<;>lia
 | m+1=>by
  have ih:=wqe mask h m;rw[<-kqv];unfold adv
  split
  ·grind
  ·have:(leap mask (pr mask h m).i (pr mask h m).perturb).1<=mask:=by
    unfold leap;have:=Nat.mod_lt ((pr mask h m).i*5+1+(pr mask h m).perturb / 32) (show 0<mask+1 by lia)
    grind
   unfold runEnd
   split<;>lia
theorem kz6 mask h m:jx mask h m<=mask:=by
 have:=wqe mask h m;have e:jx mask h m=(pr mask h m).j:=rfl;lia
structure OInv (mask:Nat)(hs:List Int)(owner:Array (Option Nat))(xs:List Nat):Prop where
 sz:owner.size=mask+1
 iff:∀(j k:Nat),owner[j]?=some (some k)↔xs[k]?=some j
 good:∀(k j:Nat),xs[k]?=some j->∃m,jx mask (hs.getD k 0) m=j/\∀m',m'<m->jx mask (hs.getD k 0) m'∈xs
theorem vkn{mask hs owner xs}(hm:xq mask)(o:OInv mask hs owner xs)(hl:xs.length<mask)(h)(hh:hs.getD xs.length 0=h):
  ∃ j,layClean.free mask owner (turns mask) (bits h % (mask+1)) (bits h)=some j/\OInv mask hs (owner.setIfInBounds j (some xs.length)) (xs++[j]):=by
 have mt:∀j,j<=mask->(owner.getD j (some 0)).isNone=false->j∈xs:=λj hj hn=>by
  have ly:j<owner.size:=by rw[o.sz];lia
  cases e:owner[j]with
  | none=>simp[Array.getD,ly,e]at hn
  | some k=>
   have:=(o.iff j k).mp (by rw[Xf ly,e]);exact Xx this
 have hf:∃e,e<=mask/\(owner.getD e (some 0)).isNone=true:=by
  obtain⟨j,h1,h2⟩:=qwt (mask+1) xs ⋯;refine⟨j,⋯,?_⟩;cases hn:(owner.getD j (some 0)).isNone with| true=>rfl| false=>exact absurd (mt j ⋯ hn) h2
 obtain⟨j,m,h1,h2,h3,h4⟩:=vzk hm h hf;have hj:j<=mask:=by rw[<-h2];exact kz6 mask h m
 have ly:j<owner.size:=by rw[o.sz];lia
 have oq:owner[j]?=some none:=by
  rw [Xf ly];simp[Array.getD,ly]at h3;rw [h3]
 have hjx:j∉xs:=λz=>by
  obtain⟨k,hk⟩:=List.mem_iff_getElem?.mp z;rw [(o.iff j k).mpr hk]at oq
  grind
 refine⟨j,h1,⟨by rw[Array.size_setIfInBounds];exact o.sz,λj' k=>?_,λk j' e=>?_⟩⟩
 ·rw [Array.getElem?_setIfInBounds]
  by_cases c:j=j'
  ·subst c;rw [X9 rfl,X9 ly];constructor
   ·intro e;have:xs.length=k:=by simpa using e
    subst this;simp
   ·intro e
    by_cases ck:k<xs.length
    ·rw[Xw ck]at e;exact absurd (Xx e) hjx
    ·have:k=xs.length:=by
      have:=(List.getElem?_eq_some_iff.mp e).1;simp at this;lia
     rw[this]
  ·rw [Xb c,o.iff];constructor
   ·intro e
    rwa [Xw (List.getElem?_eq_some_iff.mp e).1]
   ·intro e
    by_cases ck:k<xs.length
    ·rw[Xw ck]at e;exact e
    ·have:k=xs.length:=by
      have:=(List.getElem?_eq_some_iff.mp e).1;simp at this;lia
     subst this;have:j=j':=by simpa using e
     exact absurd this c
 ·by_cases ck:k<xs.length
  ·rw[Xw ck]at e;obtain⟨m,g1,g2⟩:=o.good k j' e;exact⟨m,g1,λm' ie=>ll9 _ (g2 m' ie)⟩
  ·have:k=xs.length:=by
    have:=(List.getElem?_eq_some_iff.mp e).1;simp at this;lia
   subst this;have:j=j':=by simpa using e
   subst this;rw[hh];exact⟨m,h2,λm' ie=>ll9 _ (mt _ (kz6 mask h m') (h4 m' ie))⟩
theorem qke{mask hs}(hm:xq mask)(hl:hs.length<=mask):∀a8 done (owner) (xs),hs=done++a8->xs.length=done.length->OInv mask hs owner xs ->
  ∃gh xs',a8.foldl (λaf h=>do
   let (owner,k) <-af
   let j <-layClean.free mask owner (turns mask) (bits h % (mask+1)) (bits h)
   pure (owner.setIfInBounds j (some k),k+1)) (some (owner,xs.length))=some (gh,hs.length)/\xs'.length=hs.length/\OInv mask hs gh xs'
 |[],done,owner,xs,h1,h2,o=>by
  rw[Xv]at h1;subst h1;exact⟨owner,xs,by rw[h2];rfl,h2,o⟩
 |h::a8,done,owner,xs,h1,h2,o=>by
  have ah:hs.length=done.length+(a8.length+1):=by rw[h1];simp
  obtain⟨j,e1,e2⟩:=vkn hm o ⋯ h (by rw[h1,h2];simp);obtain⟨gh,xs',f1,f2,f3⟩:=qke hm hl a8 (done++[h]) _ _ (by rw[h1];simp) (by simp[h2]) e2;refine⟨gh,xs',?_,f2,f3⟩;rw[Z4];rw[Xk]at f1;rw[<-f1]
  congr 1
  show(layClean.free mask owner _ _ _).bind _=_;rw[e1];rfl
theorem wvh{mask hs}(hm:xq mask)(hl:hs.size<=mask):∃owner xs,layClean mask hs=some owner/\xs.length=hs.size/\OInv mask hs.toList owner xs:=by
 obtain⟨owner,xs,h1,h2,h3⟩:=qke (hs:=hs.toList) hm (by simpa using hl) hs.toList [] (Array.replicate (mask+1) none) [] rfl rfl
  ⟨by simp,λj k=>by simp[Array.getElem?_replicate],λk j e=>by simp at e⟩
 refine⟨owner,xs,?_,by simpa using h2,h3⟩;unfold layClean
 grind
theorem rng_getD{α:Type} l (d:α):(List.range l.length).map (λi=>l.getD i d)=l:=by
 refine List.ext_getElem? λi=>?_
 by_cases hi:i<l.length
 ·simp[hi]
 ·simp[Nat.le_of_not_lt hi]
noncomputable def zW(mask:Nat)(owner:Array (Option Nat)):List (Nat×Nat):=(List.range (mask+1)).filterMap λj=>(owner.getD j none).map (j,·)
theorem qkb{mask owner}(hs:owner.size=mask+1){j k}:(j,k)∈zW mask owner↔owner[j]?=some (some k):=by
 unfold zW;rw[List.mem_filterMap];constructor
 ·rintro ⟨j',h1,h2⟩;have h1:j'<owner.size:=by rw[hs];exact List.mem_range.mp h1
  cases e:owner.getD j' none with
  |none=>rw[e]at h2;cases h2
  |some k'=>
   rw[e]at h2;cases h2;rw[Xf h1];simp[Array.getD,h1]at e;rw[e]
 ·intro h;have hj:=(Array.getElem?_eq_some_iff.mp h).1;refine⟨j,List.mem_range.mpr (hs▸hj),?_⟩;have:owner.getD j none=some k:=by
   rw[Xf hj]at h;simp[Array.getD,hj];exact oq9 h
  rw[this];rfl
theorem kzf(owner:Array (Option Nat)):∀l:List Nat,l.Pairwise (· < ·)->((l.filterMap λj=>(owner.getD j none).map (j,·)).map (·.1)).Pairwise (· < ·)
 | [],_=>.nil
 | j :: l,h=>by
  obtain⟨h1,h2⟩:=List.pairwise_cons.mp h;rw [List.filterMap_cons]
  split
  ·exact kzf owner l h2
  ·rename_i b hb;refine List.pairwise_cons.mpr ⟨λa ha=>?_,kzf owner l h2⟩;obtain⟨p,hp,rfl⟩:=aE ha;obtain⟨j',ly,e⟩:=List.mem_filterMap.mp hp;cases e1:owner.getD j none with
   | none=>rw[e1]at hb;cases hb
   | some k=>
    rw[e1]at hb;cases oq9 hb;cases e2:owner.getD j' none with
    |none=>rw[e2]at e;cases e
    |some k'=>
     rw[e2]at e;cases oq9 e;exact h1 j' ly
theorem vxw{l:List Nat}{n}(h:l.Nodup)(hm:∀k,k∈l↔k<n):l.Perm (List.range n):=by
 refine(List.perm_ext_iff_of_nodup h List.nodup_range).mpr λk=>?_
 rw[hm,List.mem_range]
theorem vz9{mask}{es:Array Ent}(hm:xq mask)(hl:es.size*5<mask*3)(fg mv)(led plain):
  ∃ t2 df,laid mask fg mv led plain (es.map (·.1))=some (t2,df)/\t2.led=led/\t2.plain=plain/\(df.filterMap (es[·]?)).toList.Perm es.toList/\TOk t2 (df.filterMap (es[·]?)):=by
 obtain⟨owner,xs,h1,h2,o⟩:=wvh (hs:=es.map (·.1)) hm (by rw[Array.size_map];lia);rw [Array.size_map]at h2;refine⟨_,_,by unfold laid;rw[h1];rfl,rfl,rfl,?_⟩;have hL:(List.range (mask+1)).filterMap (λj=>(owner.getD j none).map (j,·))=zW mask owner:=rfl;rw [hL];have mem:=λj k=>(qkb o.sz).trans (o.iff j k)
 have pw:((zW mask owner).map (·.1)).Pairwise (· < ·):=kzf owner _ List.pairwise_lt_range;have nd2:((zW mask owner).map (·.2)).Nodup:=by
  rw[List.Nodup,List.pairwise_map];rw[List.pairwise_map]at pw;refine List.Pairwise.imp_of_mem (fun {p q} hp hq lt e=>?_) pw
  grind
 have pm:=vxw nd2 λk=>by
  rw[List.mem_map];constructor
  ·rintro ⟨⟨j,k'⟩,hp,rfl⟩;have:=(List.getElem?_eq_some_iff.mp ((mem j k').mp hp)).1;show k'<es.size;lia
  ·intro hk;exact⟨(xs[k]'⋯,k),(mem _ k).mpr (X3 ⋯),rfl⟩
 have gu:∀p∈zW mask owner,p.2<es.size:=λp hp=>by
  have:=(List.getElem?_eq_some_iff.mp ((mem p.1 p.2).mp hp)).1;lia
 have l0:((((zW mask owner).map (·.2)).toArray).filterMap (es[·]?)).toList=(zW mask owner).map λp=>es.getD p.2 (0,.none):=by
  rw[Array.toList_filterMap];have:∀l:List (Nat×Nat),(∀p∈l,p.2<es.size)->(l.map (·.2)).filterMap (es[·]?)=l.map λp=>es.getD p.2 (0,.none):=by
   intro l
   induction l with
   |nil=>intro _;rfl
   |cons p l ih=>
    intro hp;have h0:=hp p X5;rw[List.map_cons,List.filterMap_cons,List.map_cons,Xf h0,ih λq hq=>hp q (lc9 _ hq)];simp[Array.getD,h0]
  exact this _ gu
 have fe:((((zW mask owner).map (·.2)).toArray).filterMap (es[·]?)).toList.Perm es.toList:=by
  rw[l0];have e1:(zW mask owner).map (λp=>es.getD p.2 (0,.none))=((zW mask owner).map (·.2)).map λk=>es.toList.getD k (0,.none):=by
   rw[Xl];refine Yp λp _=>?_
   simp[Yz]
  rw[e1];refine(pm.map _).trans (.of_eq ?_);have:=rng_getD es.toList ((0,.none):Ent);exact this
 have hsz:((((zW mask owner).map (·.2)).toArray).filterMap (es[·]?)).size=es.size:=by
  rw[<-Xd,fe.length_eq,Xd]
 refine⟨fe,hm,rfl,?_,pw,λj hj=>?_,?_,λz hz=>?_⟩
 ·rw[<-Xd (xs:=Array.filterMap _ _),l0];simp
 ·obtain⟨⟨j',k⟩,hp,rfl⟩:=aE hj;have:=(Array.getElem?_eq_some_iff.mp ((qkb o.sz).mp hp)).1;rw[o.sz]at this;show j'<=mask;lia
 ·rwa [hsz]
 ·unfold Z at hz;rw[l0,List.zip_map',List.mem_map]at hz;obtain⟨⟨j,k⟩,hp,rfl⟩:=hz;have hk:=gu _ hp;obtain⟨m,g1,g2⟩:=o.good k j ((mem j k).mp hp);have eh:(es.map (·.1)).toList.getD k 0=(es.getD k (0,.none)).1:=by
   have hk:k<es.size:=hk;simp[Array.getD,hk]
  rw[eh]at g1 g2;refine⟨m,g1,λm' ie=>?_⟩;obtain⟨k',cj⟩:=List.mem_iff_getElem?.mp (g2 m' ie);exact List.mem_map.mpr ⟨_,(mem _ k').mpr cj,rfl⟩
theorem WJ{t:SetTable}(hd:t.dummies=#[]) j:t.put j=({t with place:=insertAt t.place (below t.place j) j},below t.place j):=by
 unfold put;rw[hd];have:has #[] j=false:=by unfold has;simp
 grind
theorem wqa{t es}(ok:TOk t es){h x M}(hM:jx t.mask h M∉t.place.toList)(hb:∀m,m<M->jx t.mask h m∈t.place.toList):
  (insertAt es (t.put (jx t.mask h M)).2 (h,x)).toList.Perm ((h,x)::es.toList)/\(t.put (jx t.mask h M)).1.mask=t.mask/\(t.put (jx t.mask h M)).1.led=t.led/\(t.put (jx t.mask h M)).1.plain=t.plain /\
   (t.put (jx t.mask h M)).1.fill=es.size+1/\(t.put (jx t.mask h M)).1.place.size=es.size+1/\∀pl,(es.size+1)*5<t.mask*3->TOk { (t.put (jx t.mask h M)).1 with plain:=pl} (insertAt es (t.put (jx t.mask h M)).2 (h,x)):=by
 rw[WJ ok.d];dsimp only;have hp:(insertAt es (below t.place (jx t.mask h M)) (h,x)).toList.Perm ((h,x)::es.toList):=by
  rw[jxk];exact kvb _ _ _
 have hpp:(insertAt t.place (below t.place (jx t.mask h M)) (jx t.mask h M)).toList.Perm (jx t.mask h M::t.place.toList):=by
  rw[jxk];exact kvb _ _ _
 have hsz:(insertAt es (below t.place (jx t.mask h M)) (h,x)).size=es.size+1:=by
  rw[<-Xd,hp.length_eq,Xm,Xd]
 have hpz:(insertAt t.place (below t.place (jx t.mask h M)) (jx t.mask h M)).size=es.size+1:=by
  rw[<-Xd,hpp.length_eq,Xm,Xd,ok.sz]
 refine⟨hp,rfl,rfl,rfl,?_,hpz,λpl hf=>⟨ok.m,ok.d,?_,ww1 ok.pw hM,λj hj=>?_,?_,λz hz=>?_⟩⟩
 ·rw[ok.d];show _+0=_;rw[hpz]
 ·rw[hsz];exact hpz
 ·rcases aD (hpp.mem_iff.mp hj)with rfl|hj
  ·exact kz6 _ _ _
  ·exact ok.le j hj
 ·rw[hsz];exact hf
 ·unfold Z at hz;rw[jxk,jxk]at hz;have hz:=(vze _ _ _ (by rw[Xd,Xd,ok.sz])).mem_iff.mp hz;rcases aD hz with rfl|hz
  ·exact⟨M,rfl,λm' ie=>hpp.mem_iff.mpr (lc9 _ (hb m' ie))⟩
  ·obtain⟨m,g1,g2⟩:=ok.good z hz;exact⟨m,g1,λm' ie=>hpp.mem_iff.mpr (lc9 _ (g2 m' ie))⟩
theorem grow{mask n}(hm:xq mask)(h1:n*5<mask*3)(h2:mask*3<=(n+1)*5)(hn:n+1<=70):xq (sizeAbove (grown (n+1)) - 1)/\(n+1)*5<(sizeAbove (grown (n+1)) - 1)*3/\sizeAbove (grown (n+1))<=128:=by
 rcases hm with rfl|rfl|rfl
 ·have:n=4:=⋯
  subst this;unfold xq;decide
 ·have:n=18:=⋯
  subst this;unfold xq;decide
 ·lia
theorem vq8{t es}(ok:TOk t es){h}{M i:Nat}{e}(hM:jx t.mask h M∉t.place.toList)(hi:es[i]?=some e)(he:e.1=h):∃m,m<M/\t.place[i]?=some (jx t.mask h m):=by
 have hip:i<t.place.size:=by rw[ok.sz];exact((Array.getElem?_eq_some_iff.mp hi).1)
 have hz:(t.place[i],e)∈Z t es:=by
  unfold Z;refine List.mem_iff_getElem?.mpr ⟨i,?_⟩;rw[List.getElem?_zip_eq_some];exact⟨by simp[hip],by simpa using hi⟩
 obtain⟨m,g1,g2⟩:=ok.good _ hz;rw[he]at g1 g2;refine⟨m,?_,by rw[Xf hip,g1]⟩;rcases Nat.lt_or_ge m M with c|c
 ·exact c
 ·rcases Nat.lt_or_ge M m with c2|c2
  ·exact absurd (g2 M c2) hM
  ·have:m=M:=⋯
   subst this;refine absurd ?_ hM;rw[g1];exact List.mem_iff_getElem.mpr ⟨i,by simpa using hip,by simp⟩
end Tb
namespace Tw
open PySem PyProof.Rows Tb Sw
section
variable {prog:Program}{w:World}{A:Around}{E:VP9}{s:Shared}{K:Type}[DecidableEq K]{knd:HeapKind prog w K}
structure KX (knd:HeapKind prog w K):Prop where
 keep:∀{h h':Heap} {k:K} {a:Addr},knd.is h k a->(∀b ob,h.get? b=some ob->ob.cls=.type "tuple"->h'.get? b=some ob)->knd.is h' k a
 cls:∀{A:Around} {E:VP9} {s:Shared} {k:K} {a:Addr} {Q:Bool->Shared->Prop},knd.is s.heap k a->Q false s->wpAny (model prog w) A (ofAClassStatement 8 (.ref a)) Q E s
theorem KX.keeps(X:KX knd){h h' k a d o}(hk:knd.is h k a)(ho:h.get? d=some o)(hc:o.cls=.type "set")(hs:Heap.SameBut d h h'):knd.is h' k a:=X.keep hk λb ob hb ht=>hs.extBut b ob (λz=>by
 rw[z,ho]at hb;cases hb;rw[hc]at ht;exact absurd ht ⋯) hb
abbrev ent(knd:HeapKind prog w K)(p:K×Addr):Int×Value:=(knd.hash p.1,.ref p.2)
structure OkT (knd:HeapKind prog w K)(h:Heap)(o:Obj)(es:Array (Int×Value))(ep:Nat)(t:SetTable)(ks:List (K×Addr)):Prop where
 ex:o.ExactSet
 d:o.data=.set es ep t
 el:es.toList=ks.map (ent knd)
 is:∀p∈ks,knd.is h p.1 p.2
 nd:(ks.map (·.1)).Nodup
 tb:TOk t es
 led:t.led=!tx w
theorem OkT.f{h o es ep t ks}(ok:OkT knd h o es ep t ks):t.fits es.size=true:=by
 unfold SetTable.fits SetTable.fill;rw[ok.tb.d,ok.tb.sz];have:=ok.tb.few;simp;lia
theorem OkT.sz{h o es ep t ks}(ok:OkT knd h o es ep t ks):es.size=ks.length:=by rw[<-Xd,ok.el,X4]
theorem OkT.at{h o es ep t ks}(ok:OkT knd h o es ep t ks){i:Nat}{e}(hi:es[i]?=some e):∃p,ks[i]?=some p/\e=ent knd p:=by
 rw[<-Xp,ok.el,Xi]at hi;cases hk:ks[i]? with|none=>rw[hk]at hi;cases hi|some p=>rw[hk]at hi;exact⟨p,rfl,(oq9 hi).symm⟩
theorem vks{t:SetTable}(hm:xq t.mask):t.gaveWay=false:=by
 unfold SetTable.gaveWay;rcases hm with e|e|e<;>rw[e]<;>rfl
theorem vwu(X:KX knd){b k}(hb:knd.is s.heap k b){Q}(h:Q false s):∀vs,(∀v∈vs,∃k' b',v=.ref b'/\knd.is s.heap k' b')->wpAny (model prog w) A (searchCouldBeSeen (.ref b) vs) Q E s:=by
 intro vs hv;refine X0 (Zi _ (λa8 r s'=>r.1=none/\s'=s/\∀v∈a8,∃k' b',v=.ref b'/\knd.is s.heap k' b') _ ?_ ?_ _ _ ⟨rfl,rfl,hv⟩)
 ·rintro v a8 r s' ⟨hr,rfl,hv⟩;obtain⟨k',b',rfl,dj⟩:=hv v X5;have iq:=λv ud=>hv v (lc9 _ ud)
  dsimp only
  split
  ·exact X2 ⟨rfl,rfl,iq⟩
  ·exact X0 (knd.quiet hb (X0 (knd.quiet dj (X0 (X.cls hb (X0 (X.cls dj (X2 ⟨rfl,rfl,iq⟩))))))))
 ·rintro ⟨r1,r2⟩ s' ⟨hr,rfl,_⟩;subst hr;exact X2 h
end
theorem qju{t}{es:Array (Int×Value)}(ok:TOk t es){g h M m}(hM:jx t.mask h M∉t.place.toList)(hb:∀m,m<M->jx t.mask h m∈t.place.toList)(hl:M<10*SetTable.turns t.mask){p}{r}
  (u9:t.probe g h p=r) (hp:p=pr t.mask h m) (hm:m<=M):
   (r=some (.empty (jx t.mask h M) none)/\∀m' i,m<=m'->m'<M->t.place[i]?=some (jx t.mask h m')->g i≠h) \/
   ∃m' i,m<=m'/\m'<M/\t.place[i]?=some (jx t.mask h m')/\g i=h/\r=some (.candidate (jx t.mask h m') i (pr t.mask h (m'+1)))/\∀kr i',m<=kr->kr<m'->t.place[i']?=some (jx t.mask h kr)->g i'≠h:=by
 subst hp u9;exact qjv ok hM hb _ m hm ⋯
theorem qqe{t}{es:Array (Int×Value)}(ok:TOk t es){g h M m}(hM:jx t.mask h M∉t.place.toList)(hb:∀m,m<M->jx t.mask h m∈t.place.toList)(hl:M<10*SetTable.turns t.mask){p}
  (hp:p=pr t.mask h m) (hm:m<=M):∃met,t.probe g h p=some met:=by
 rcases qju ok hM hb hl rfl hp hm with⟨e1,_⟩|⟨m',i,_,_,_,_,e1,_⟩
 ·exact⟨_,e1⟩
 ·exact⟨_,e1⟩
theorem kjj{t:SetTable}(hp:t.place.toList.Pairwise (· < ·)){i j x:Nat}(h1:t.place[i]?=some x)(h2:t.place[j]?=some x):i=j:=by
 refine(List.getElem?_inj (by simpa using ((Array.getElem?_eq_some_iff.mp h1).1)) (hp.imp λh=>Xe h)).mp ?_;rw[Xp,Xp,h1,h2]
theorem kw2{t:SetTable}(hp:t.place.toList.Pairwise (· < ·))(hd:t.dummies=#[]){i j}(h:t.place[i]?=some j):t.slot j=.live i:=by
 rcases qvs hp hd j with⟨i',e1,e2⟩|⟨_,e2⟩
 ·rw[e1,kjj hp e2 h]
 ·exact absurd (Xx (Xp▸h)) e2
theorem qji{t:SetTable}:t.sameMemory t.moves t.mask=some true:=by
 unfold SetTable.sameMemory;rw[X9 (by simp)]
section
variable {prog:Program}{w:World}{A:Around}{E:VP9}{s:Shared}{K:Type}[DecidableEq K]{knd:HeapKind prog w K}
theorem kz0 (X:KX knd) (hr:knd.room A) {a b k o es ep t ks} (ho:s.heap.get? a=some o) (ok:OkT knd s.heap o es ep t ks) (hb:knd.is s.heap k b)
  {M} (hM:jx t.mask (knd.hash k) M∉t.place.toList) (hbf:∀m,m<M->jx t.mask (knd.hash k) m∈t.place.toList) (hl:M<10*SetTable.turns t.mask) {Q}
  (sf:k∈ks.map (·.1)->Q (.there none) s) (ia:k∉ks.map (·.1)->Q (.free (jx t.mask (knd.hash k) M) false) s):
  ∀ fuel m (ja),m<=M->M - m<fuel->ja.getD (t.probeStart (knd.hash k))=pr t.mask (knd.hash k) m ->
   (∀ (i:Nat) p,ks[i]?=some p->p.1=k->∃m',m<=m'/\m'<M/\t.place[i]?=some (jx t.mask (knd.hash k) m')) ->
   wpAny (model prog w) A (setSearchFrom a (.ref b) (knd.hash k) true fuel ja) Q E s:=by
 intro fuel
 induction fuel with
 | zero=>intro m ja h1 h2;lia
 | succ fuel ih=>
  intro m ja h1 h2 b6 gu;unfold setSearchFrom;refine X0 (Y7 ho ok.d ok.f ?_);dsimp only;rw [vks ok.tb.m];simp only[Bool.false_eq_true,if_false]
  split
  ·rename_i met u9;have hg:∀(i:Nat) (e:Int×Value),es[i]?=some e->(es[i]?.map (·.1)).getD 0=e.1:=λi e he=>by rw[he];rfl
   rcases qju ok.tb hM hbf hl u9 b6 h1 with⟨e1,e2⟩|⟨m',i,q1,q2,q3,q4,q5,q6⟩
   ·cases oq9 e1;dsimp only;refine X2 (ia λhk=>?_);obtain⟨p,hp,rfl⟩:=aE hk;obtain⟨i,hi⟩:=List.mem_iff_getElem?.mp hp;obtain⟨m',a1,a2,a3⟩:=gu i p hi rfl;refine e2 m' i a1 a2 a3 ?_;have nr:es[i]?=some (ent knd p):=by rw[<-Xp,ok.el,Xi,hi];rfl
    exact hg i _ nr
   ·cases oq9 q5;dsimp only;have om:i<es.size:=by rw[<-ok.tb.sz];exact(Array.getElem?_eq_some_iff.mp q3).1
    obtain⟨p,hp,he⟩:=ok.at (Xf om);have hpk:=ok.is p (Xx hp)
    split
    ·refine X0 (vwu X hb ?_ _ λv hv=>?_)
     ·rw [Xb ⋯];rw [Xf om,he];dsimp only;refine X0 (Xu (knd.eqBool hr hpk hb ?_));refine X0 (Y7 ho ok.d ok.f ?_);dsimp only
      by_cases hk:p.1=k
      ·rw[Xg hk,X9 (show(true&&true)=true from rfl)];exact X2 (sf (List.mem_map.mpr ⟨p,Xx hp,hk⟩))
      ·rw[Xh hk,Xb ⋯,qji];dsimp only;rw[X9 rfl,kw2 ok.tb.pw ok.tb.d q3];dsimp only;rw[Xf om,he];dsimp only;refine X0 (wpAny_isSame_ref_self ?_);rw[X9 rfl];refine X0 (X2 ?_);dsimp only;rw[Xb ⋯];refine ih (m'+1) _ ⋯ ⋯ rfl λi2 p2 jt mq=>?_
       obtain⟨m2,a1,a2,a3⟩:=gu i2 p2 jt mq;refine⟨m2,?_,a2,a3⟩;rcases Nat.lt_or_ge m2 (m'+1)with c|c
       ·exfalso
        by_cases c2:m2=m'
        ·subst c2;have:=kjj ok.tb.pw a3 q3;subst this;rw[hp]at jt;cases oq9 jt;exact hk mq
        ·refine q6 m2 i2 a1 ⋯ a3 ?_;have nr:es[i2]?=some (ent knd p2):=by rw[<-Xp,ok.el,Xi,jt];rfl
         have this:_=knd.hash p2.1:=hg i2 _ nr;rw[mq]at this;exact this
       ·exact c
     ·obtain⟨e,he',rfl⟩:=aE hv;have he':e∈es.toList:=(Array.mem_toList_iff.mpr (Array.mem_filter.mp (Array.mem_toList_iff.mp he')).1);rw[ok.el]at he';obtain⟨p',hp',rfl⟩:=aE he';exact⟨p'.1,p'.2,rfl,ok.is p' hp'⟩
    ·rw [Xf om,he];dsimp only;refine X0 (Xu (knd.eqBool hr hpk hb ?_));refine X0 (Y7 ho ok.d ok.f ?_);dsimp only
     by_cases hk:p.1=k
     ·rw[Xg hk,X9 (show(true&&true)=true from rfl)];exact X2 (sf (List.mem_map.mpr ⟨p,Xx hp,hk⟩))
     ·rw[Xh hk,Xb ⋯,qji];dsimp only;rw[X9 rfl,kw2 ok.tb.pw ok.tb.d q3];dsimp only;rw[Xf om,he];dsimp only;refine X0 (wpAny_isSame_ref_self ?_);rw[X9 rfl];refine X0 (X2 ?_);dsimp only;rw[Xb ⋯];refine ih (m'+1) _ ⋯ ⋯ rfl λi2 p2 jt mq=>?_
      obtain⟨m2,a1,a2,a3⟩:=gu i2 p2 jt mq;refine⟨m2,?_,a2,a3⟩;rcases Nat.lt_or_ge m2 (m'+1)with c|c
      ·exfalso
       by_cases c2:m2=m'
       ·subst c2;have:=kjj ok.tb.pw a3 q3;subst this;rw[hp]at jt;cases oq9 jt;exact hk mq
       ·refine q6 m2 i2 a1 ⋯ a3 ?_;have nr:es[i2]?=some (ent knd p2):=by rw[<-Xp,ok.el,Xi,jt];rfl
        have this:_=knd.hash p2.1:=hg i2 _ nr;rw[mq]at this;exact this
      ·exact c
  ·rename_i u9;exact(Exists.elim (qqe ok.tb hM hbf hl b6 h1) λmet hm=>u9 met hm).elim
end
section
variable {prog:Program}{w:World}{A:Around}{E:VP9}{s:Shared}{K:Type}[DecidableEq K]{knd:HeapKind prog w K}
noncomputable def HasT(knd:HeapKind prog w K)(h:Heap)(a:Addr)(ls:List K):Prop:=∃o es ep t ks,h.get? a=some o/\OkT knd h o es ep t ks/\(ks.map (·.1)).Perm ls
noncomputable def ByV(knd:HeapKind prog w K):Prop:=∀{A:Around} {E:VP9} {s:Shared} {k:K} {a:Addr} {Q:Bool->Shared->Prop},knd.is s.heap k a->(∀b,Q b s)->wpAny (model prog w) A (hashByValue 8 (.ref a)) Q E s
theorem qxw{es ks}(h:es.Perm (ks.map (ent knd))):∃dh:List _,dh.Perm ks/\es=dh.map (ent knd):=by
 have:∀{es' es},es.Perm es'->∀ks,es'=ks.map (ent knd)->∃dh:List _,dh.Perm ks/\es=dh.map (ent knd):=by
  intro es' es h
  induction h with
  | nil=>intro ks e;exact⟨ks,.refl _,e⟩
  | cons x _ ih=>
   intro ks e;cases ks with
   | nil=>cases e
   | cons k ks=>
    injection e with e1 e2;obtain⟨dh,p1,p2⟩:=ih ks e2;exact⟨k::dh,p1.cons k,by rw[List.map_cons,p2,e1]⟩
  | swap x y l=>
   intro ks e;cases ks with
   | nil=>cases e
   | cons k ks=>
    cases ks with
    |nil=>cases e
    |cons k2 ks=>
     injection e with e1 e2;injection e2 with e2 e3;exact⟨k2::k::ks,.swap _ _ _,by rw[List.map_cons,List.map_cons,e1,e2,e3]⟩
  |trans _ _ ih1 ih2=>
   intro ks e;obtain⟨k1,p1,e1⟩:=ih2 ks e;obtain⟨k2,p2,e2⟩:=ih1 k1 e1;exact⟨k2,p2.trans p1,e2⟩
 exact this h ks rfl
theorem add(X:KX knd)(V:ByV knd)(hr:knd.room A){a b k ls Q}(hS:HasT knd s.heap a ls)(hb:knd.is s.heap k b)(hl:ls.length+1<=60)
  (h:∀bb h',Heap.SameBut a s.heap h'->HasT knd h' a (if k∈ls then ls else ls++[k])->Q bb {s with heap:=h' }):wpAny (model prog w) A (setAddHashed a (.ref b) (knd.hash k)) Q E s:=by
 obtain⟨o,es,ep,t,ks,ho,ok,hp⟩:=hS;have hsz:es.size=ls.length:=by rw[ok.sz,<-hp.length_eq,X4]
 obtain⟨M,m1,m2,m3⟩:=qqz (oc:=λj=>j∈t.place.toList) ok.tb.m (knd.hash k) ok.tb.empty;have hmem:k∈ks.map (·.1)↔k∈ls:=hp.mem_iff;have hturn:10*SetTable.turns t.mask<=1420:=by
  unfold SetTable.turns;rcases ok.tb.m with e|e|e<;>rw[e]<;>decide
 unfold setAddHashed setAddHashedIn;refine Xu (X0 (Y7 ho ok.d ok.f ?_));dsimp only;rw [show byScan (.ref b) es=false from rfl];simp only[Bool.false_eq_true,if_false];unfold setSearch;refine X0 (kz0 X hr ho ok hb m2 m3 m1 (λhk=>?_) (λhk=>?_) 100000 0 none (Yf _) ⋯ rfl λi p hi hpk=>?_)
 ·dsimp only;have cj:=hmem.mp hk;have:=h false s.heap (Heap.SameBut.refl a s.heap);rw [X9 cj]at this;exact X2 (this ⟨o,es,ep,t,ks,ho,ok,hp⟩)
 ·dsimp only;have cj:k∉ls:=λz=>hk (hmem.mpr z)
  rw [Xb cj]at h;refine X0 (Y7 ho ok.d ok.f ?_);dsimp only;obtain⟨p1,p2,p3,p4,p5,p6,p7⟩:=wqa (x:=.ref b) ok.tb m2 m3;generalize t.put (jx t.mask (knd.hash k) M)=tp at p1 p2 p3 p4 p5 p6 p7 ⊢;obtain⟨t1,pl⟩:=tp;dsimp only at p1 p2 p3 p4 p5 p6 p7 ⊢;generalize hes1:SetTable.insertAt es pl (knd.hash k,Value.ref b)=bp at p1 p7 ⊢;have i5:bp.size=es.size+1:=by rw[<-Xd,p1.length_eq,Xm,Xd]
  have jr:bp.size<=sizeLine:=by rw[Yo];lia
  obtain⟨pq,q1,q2⟩:=qxw (knd:=knd) (ks:=(k,b)::ks) (es:=bp.toList) (by rw[List.map_cons,<-ok.el];exact p1);have mx:(pq.map (·.1)).Perm (ls++[k]):=(q1.map (·.1)).trans (by
   rw [List.map_cons];exact(hp.cons k).trans (List.perm_append_singleton k ls).symm)
  have ju:(pq.map (·.1)).Nodup:=((q1.map (·.1)).nodup_iff).mpr (by
   rw [List.map_cons];exact List.nodup_cons.mpr ⟨hk,ok.nd⟩)
  have his:∀p∈pq,knd.is s.heap p.1 p.2:=λp hpp=>by
   rcases aD (q1.mem_iff.mp hpp)with rfl|hpp
   ·exact hb
   ·exact ok.is p hpp
  have fin:∀oe,wpAny (model prog w) A (do
    storeSet a bp (if oe=true then t1 else {t1 with plain:=false})
    if(!false&&(if oe=true then t1 else {t1 with plain:=false}).tooFull)=true then do
      setRelay a (SetTable.grown (es.size+1))
      pure true
     else pure true) Q E s:=λoe=>by
   obtain⟨pp,ht2⟩:∃pp,(if oe=true then t1 else {t1 with plain:=false})={t1 with plain:=pp}:=by
    cases oe
    ·exact⟨false,rfl⟩
    ·exact⟨t1.plain,rfl⟩
   rw[ht2];have dl:=vjy (es':=bp) (t':={t1 with plain:=pp}) ho ok.d;have jc:=Y9 s.heap a (Obj.putSet bp {t1 with plain:=pp});refine X0 (wpAny_storeSet_of ho ok.d ?_ jr);have tf:∀p∈pq,knd.is (s.heap.update a (Obj.putSet bp {t1 with plain:=pp})) p.1 p.2:=λp hpp=>X.keeps (his p hpp) ho ok.ex.1 jc
   by_cases hfull:({t1 with plain:=pp}:SetTable).tooFull=true
   ·rw[hfull,X9 (by rfl)];have e5:({t1 with plain:=pp}:SetTable).fill=es.size+1:=p5;have e6:({t1 with plain:=pp}:SetTable).mask=t.mask:=p2;have sk:t.mask*3<=(es.size+1)*5:=by
     unfold SetTable.tooFull at hfull;rw[e5,e6]at hfull
     simpa using hfull
    obtain⟨g1,g2,g3⟩:=grow ok.tb.m ok.tb.few sk ⋯;obtain⟨t3,df,r1,r2,r3,r4,r5⟩:=vz9 (es:=bp) g1 (i5▸g2) ({t1 with plain:=pp}:SetTable).finger (({t1 with plain:=pp}:SetTable).movedTo (SetTable.sizeAbove (SetTable.grown (es.size+1)) - 1)) ({t1 with plain:=pp}:SetTable).led pp;have jf:({t1 with plain:=pp}:SetTable).fits bp.size=true:=by
     have e7:({t1 with plain:=pp}:SetTable).place.size=es.size+1:=p6;unfold SetTable.fits;rw[e5,e6,e7,i5];have:=ok.tb.few
     grind
    unfold setRelay;refine X0 (X0 (Y7 (s:={s with heap:=s.heap.update a (Obj.putSet bp {t1 with plain:=pp})}) dl rfl jf ?_));dsimp only;rw[Xb (by rw[Yo];lia)];have er:({t1 with plain:=pp}:SetTable).relaid (bp.map (·.1)) (SetTable.grown (es.size+1))=some (t3,df):=r1;rw[er];refine X0 ?_;have ue:(df.filterMap (bp[·]?)).size=bp.size:=by rw[<-Xd,r4.length_eq,Xd]
    show wpAny _ _ (ite (((df.filterMap (bp[·]?)).size != bp.size)=true) _ _) _ _ _;rw[ue,Xb (by simp)];refine X2 ?_;dsimp only;have jh:=Y9 (s.heap.update a (Obj.putSet bp {t1 with plain:=pp})) a (Obj.putSet (df.filterMap (bp[·]?)) t3);refine wpAny_storeSet_of (s:={s with heap:=s.heap.update a (Obj.putSet bp {t1 with plain:=pp})}) dl rfl ?_ (ue▸jr);obtain⟨ks3,c1,c2⟩:=qxw (knd:=knd) (ks:=pq) (es:=(df.filterMap (bp[·]?)).toList) (q2▸r4);refine X2 (h true _ (jc.trans jh) ⟨_,_,_,t3,ks3,vjy dl rfl,⟨ok.ex,rfl,c2,λp hpp=>X.keeps (tf p (c1.mem_iff.mp hpp)) dl ok.ex.1 jh,((c1.map (·.1)).nodup_iff).mpr ju,r5,r2.trans (p3.trans ok.led)⟩,(c1.map (·.1)).trans mx⟩)
   ·rw[Bool.eq_false_iff.mpr hfull,Xb ⋯];have dq:(es.size+1)*5<t.mask*3:=by
     have e5:({t1 with plain:=pp}:SetTable).fill=es.size+1:=p5;unfold SetTable.tooFull at hfull;rw[e5]at hfull;have e6:({t1 with plain:=pp}:SetTable).mask=t.mask:=p2;rw[e6]at hfull
     simpa using hfull
    exact X2 (h true _ jc ⟨_,bp,_,_,pq,dl,⟨ok.ex,rfl,q2,tf,ju,p7 pp dq,p3.trans ok.led⟩,mx⟩)
  split
  ·exact X0 (V hb λoe=>(fin oe))
  ·exact X0 (X2 (fin true))
 ·have nr:es[i]?=some (ent knd p):=by rw[<-Xp,ok.el,Xi,hi];rfl
  obtain⟨m',a1,a2⟩:=vq8 ok.tb m2 nr (show knd.hash p.1=knd.hash k by rw[hpk]);exact⟨m',Yf _,a1,a2⟩
end
section
variable {prog:Program}{w:World}{A:Around}{E:VP9}{s:Shared}{K:Type}[DecidableEq K]{knd:HeapKind prog w K}
noncomputable def stepK(ls:List K)(k:K):List K:=if k∈ls then ls else ls++[k]
def ddK(ss:List K):List K:=ss.foldl stepK []
theorem vqh{ss:List K}{i x}(h:ss[i]?=some x):ddK (ss.take (i+1))=stepK (ddK (ss.take i)) x:=by
 unfold ddK;rw[List.take_succ,h,List.foldl_append];rfl
theorem vwb:∀(ss ls:List K),ls.length<=(ss.foldl stepK ls).length
 |[],ls=>X7 _
 |k::ss,ls=>by
  refine Ye ?_ (vwb ss _);unfold stepK
  split
  ·exact X7 _
  ·simp
theorem vzw(ss:List K) i:(ddK (ss.take i)).length<=(ddK ss).length:=by
 have:ddK ss=(ss.drop i).foldl stepK (ddK (ss.take i)):=by
  unfold ddK;rw[<-List.foldl_append,List.take_append_drop]
 rw[this];exact vwb _ _
theorem HasT.same(X:KX knd){h h' a ls}(x:HasT knd h a ls)(e:∀o,h.get? a=some o->h'.get? a=some o)(et:∀b ob,h.get? b=some ob->ob.cls=.type "tuple"->h'.get? b=some ob):HasT knd h' a ls:=by
 obtain⟨o,es,ep,t,ks,ho,r,hp⟩:=x;exact⟨o,es,ep,t,ks,e _ ho,⟨r.ex,r.d,r.el,λp hpp=>X.keep (r.is p hpp) et,r.nd,r.tb,r.led⟩,hp⟩
theorem loop(X:KX knd)(V:ByV knd)(hr:knd.room A.in1){R I fp wr G n P St}(W:WalksS prog w A.in1 I fp wr G n P St)(S)(iy:S∉fp)
  (hwr:∀i s,St i s->∀b∈wr,∀ob,s.heap.get? b=some ob->ob.cls≠.type "tuple")
  {ss} (hn:ss.length=n) (hb:(ddK ss).length<=59):∀k i (s),n - i=k->i<=n->St i s->HasT knd s.heap S (ddK (ss.take i))->(∀i v,P i v->∃b x,v=.ref b/\ss[i]?=some x/\knd.is s.heap x b) ->
   (∀s',Moved (S::wr) G s s'->HasT knd s'.heap S (ddK ss)->R (.ok (.ret .none)) s')->codeAny (model prog w) A (.builtin "set.update.loop" ⟨[.ref S,.ref I],[]⟩) R s:=by
 have mr:=λh=>iy (W.sub _ h)
 have de:∀b∈wr,b∈S::wr:=λb hb=>lc9 _ hb
 intro k
 induction k with
 | zero=>
  intro i s hk hi b6 hS gl hR;cases(show i=n by lia);refine Yi F.entry_set_update_loop (X0 (W.done s _ _ b6 λs' hm=>(X2 (hR s' (hm.mono de) ?_))));rw[<-hn,List.take_length]at hS;exact hS.same X (λo e=>hm.heap S _ mr e) λb ob hb ht=>hm.heap b ob (λz=>hwr _ _ b6 b z ob hb ht) hb
 | succ k ih=>
  intro i s hk hi b6 hS gl hR;refine Yi F.entry_set_update_loop ?_;show wpAny _ A.in1 (pyNext (.ref I) >>= _) _ _ s;refine X0 (W.item i s _ _ ⋯ b6 λv s' hP lm hm=>?_);have tm:=λb ob hb ht=>hm.heap b ob (λz=>hwr _ _ b6 b z ob hb ht) hb
  obtain⟨b,x,rfl,hx,fk⟩:=gl i v hP;have sv:=X.keep fk tm;have fm:=hS.same X (λo e=>hm.heap S _ mr e) tm;show wpAny _ A.in1 (holding [Value.ref b] (setAdd S (.ref b)) >>= _) _ _ s';refine X0 (Xu ?_);unfold setAdd;refine Xu (X0 (knd.pyHash hr sv ?_));have ef:(ddK (ss.take i)).length+1<=60:=by
   have:=vzw ss i;lia
  have hset:∃o,s'.heap.get? S=some o/\o.cls=.type "set":=by
   obtain⟨o,es,ep,t,ks,ho,r,_⟩:=fm;exact⟨o,ho,r.ex.1⟩
  obtain⟨oS,hoS,hcS⟩:=hset;refine add (s:={s' with toks:=s'.toks+knd.draws x}) X V hr fm sv ef λbb h' a1 a2=>?_
  have a1:Heap.SameBut S s'.heap h':=a1;have a2:HasT knd h' S (stepK (ddK (ss.take i)) x):=a2;rw[<-vqh hx]at a2;refine X2 ⟨Z9 F.plain_set_update_loop _,ih (i+1) _ ⋯ ⋯ (W.frame _ s' _ _ lm (Nat.le_add_right _ _) λb hb o e=>?_) a2 (λi v hP=>?_) λji ko lg=>?_⟩
  ·rw[a1.2 b (λh:b=S=>iy (h▸hb))];exact e
  ·obtain⟨b,x,rfl,hx,fk⟩:=gl i v hP;exact⟨b,x,rfl,hx,X.keeps (X.keep fk tm) hoS hcS a1⟩
  ·refine hR ji (Moved.trans W.gtrans ((hm.mono de).then_heap (Nat.le_add_right _ _) λb o hb e=>?_) ko) lg;rw[a1.2 b (λh:b=S=>hb (h▸X5))];exact e
theorem qqy{h a}(e:h.get? a=some (fresh w)):HasT knd h a []:=
 ⟨_,#[],0,.fresh 0 0 _,[],e,⟨⟨rfl,rfl,rfl⟩,rfl,rfl,(λp hp=>nomatch hp),Y8,⟨.inl rfl,rfl,rfl,.nil,(λj hj=>(nomatch hj)),by show 0*5<7*3;decide,(λz hz=>(nomatch hz))⟩,rfl⟩,.refl _⟩
set_option maxHeartbeats 8000000 in
theorem vj2(X:KX knd)(V:ByV knd)(hr:knd.room A.in1.in1.in1){l:Addr}{items:Array Value}{ss:List K}{Q:VP9}(hh:A.handled=none)(hl:s.heap.IsList l items)(hn:ss.length=items.size)(hi:∀(i:Nat) v,items[i]?=some v->∃b x,v=.ref b/\ss[i]?=some x/\knd.is s.heap x b)(hb:(ddK ss).length<=59)
  (h:∀(h':Heap) (tk:Nat),HasT knd h' s.heap.objs.size (ddK ss)->(∀b o,b<s.heap.objs.size->s.heap.get? b=some o->h'.get? b=some o)->Q (.ref s.heap.objs.size) {s with heap:=h',toks:=tk}):
  wpAny (model prog w) A (call (.type "set") [.ref l]) Q E s:=by
 obtain⟨c,tl,hmro⟩:=F.called_set.mro;have qr:=F.called_set.made;have de:=F.called_set.sub;refine wpAny_call (codeAny_of_tree ?_);show wpAny _ _ (callAny (.type "set") _) _ _ _;refine X2 ⟨Code.quiet_builtin _ (by decide +kernel),Yi F.entry_type_call ?_⟩;rw [Around.under_plain (weight_type_call_type "set" [.ref l] []) rfl];have h1:=F.called_set.notType;have h2:=F.called_set.canCreate;have hct:=F.typeCall_set_1 (.ref l)
 repeat (any_goals (first|assumption|wp_step))
 refine codeAny_mono (made (.ref l) (E:=E) (Q₁:=λobj s₁=>obj=.ref s.heap.objs.size/\s₁={s with heap:=s.heap.push (fresh w)}) ⟨rfl,rfl⟩) λr s₁ hr=>?_
 cases r with
 | error e=>exact hr
 | ok fl=>
 cases fl with
 | ret obj=>
  obtain⟨rfl,rfl⟩:=hr;have hS:(s.heap.push (fresh w)).get? s.heap.objs.size=some (fresh w):=X6 _ rfl;have hT:Shared.TypeIs {s with heap:=s.heap.push (fresh w)} (.ref s.heap.objs.size) "set":=⟨_,hS,rfl⟩;have hli:=F.called_set.init.lookup;have hbi:=F.called_set.init.bind (.ref s.heap.objs.size)
  repeat (any_goals (first|assumption|wp_step))
  refine codeAny_mono (codeAny_call_builtin (R:=wants (λr s₂=>r=.none/\∃h' tk,s₂={s with heap:=h',toks:=tk}/\HasT knd h' s.heap.objs.size (ddK ss) /\
    (∀b o,b<s.heap.objs.size->s.heap.get? b=some o->h'.get? b=some o)) E) F.called_set.init.plain F.entry_set_init (check_set_init_1 hT ?_)) λr₂ s₂ ou=>?_
  ·obtain⟨ol,np,cb,nl,nw⟩:=hl;obtain⟨ocls,lr,tz,ib⟩:=ol;simp only at cb nw;subst cb;subst nw;have ny:(s.heap.push (fresh w)).get? l=some {cls:=.type "list",dict:=lr,data:=.seq items nl,slots:=ib}:=X1 _ np;have hsls:=F.sub_list_set;have hslf:=F.sub_list_frozenset;have cw:(Value.type "list" == Value.type "dict")=false:=⋯
   have fj:(s.heap.push (fresh w)).IsList l items:=⟨_,ny,rfl,nl,rfl⟩;have mz:l<s.heap.objs.size:=Xa np;have og:({cls:=.type "set",dict:=none,data:=.set #[] 0 (.fresh 0 0 (!tx w))}:Obj)=fresh w:=rfl;unfold Builtin.«set.__init__» noKeywords Builtin.Frozenset.updateFrom;generalize hPI:pyIter=PI
   wp_walk
   subst hPI;refine wpAny_pyIter_list fj ?_;refine X0 (wpAny_runValue ?_);have hh3:A.in1.in1.in1.handled=none:=by simp[hh]
   have hsz:(s.heap.push (fresh w)).objs.size=s.heap.objs.size+1:=Yv ..;refine loop X V hr ((Walks.list hh3 _ l (by rw[hsz];exact Xe (Y6 mz)) items).toS) s.heap.objs.size (by rw[hsz];simp only[Yn,Yc,or_false,not_or];exact⟨Xe (Za _),Zg mz⟩) (λi s b6 b hbm ob gz=>?_) (ss:=ss) hn hb (items.size - 0) 0 _ ⋯ (Yf _)
    ⟨⟨_,X6 _ rfl,rfl,rfl⟩,fj.push _⟩ ?_ (λi v hv=>?_) ?_
   ·rw[aC hbm]at gz;obtain⟨⟨o',ip,hc',_⟩,_⟩:=b6;rw[ip]at gz;cases gz;rw[hc'];decide
   ·exact qqy (X1 _ hS)
   ·obtain⟨b,x,e1,e2,e3⟩:=hi i v hv;exact⟨b,x,e1,e2,X.keep e3 λb ob hb _=>X1 _ (X1 _ hb)⟩
   ·intro s' hm fm;obtain⟨h',g',d',mw,nq⟩:=s';have eg:g'=s.gens:=hm.gens;have ed:d'=s.drawn:=hm.drawn;have eo:nq=s.os:=hm.os;subst eg;subst ed;subst eo;show wpAny _ _ _ _ _ _;refine X2 ?_;show wpAny _ _ (ret Value.none) _ _ _;refine X2 ⟨rfl,h',mw,rfl,fm,λb o hb e=>?_⟩;exact hm.heap b o (by simp only[Yn,Yc,or_false,not_or];rw[hsz];exact⟨Xe hb,Xe (Y6 hb)⟩) (X1 _ (X1 _ e))
  ·cases r₂ with
   | error e=>exact ou
   | ok fl₂=>
    cases fl₂ with
    |ret r=>
     obtain⟨rfl,h',tk,rfl,fm,cj⟩:=ou
     repeat (any_goals (first|assumption|wp_step))
     exact h _ _ fm cj
    |_=>exact ou.elim
 |_=>exact hr.elim
end
section
variable {prog:Program}{w:World}{A:Around}{E:VP9}{s:Shared}
structure IT (w:World)(o:Obj)(es:Array (Int×Value))(ep:Nat)(t:SetTable):Prop where
 c:o.cls=.type "set"
 d:o.data=.set es ep t
 f:t.fits es.size=true
 led:t.led=!tx w
 pw:t.place.toList.Pairwise (· < ·)
 z:es.size<=sizeLine
noncomputable def slP(t:SetTable)(i:Nat):Nat:=if i=0 then 0 else t.place.getD (i - 1) 0+1
theorem vqv{xs}(hp:xs.toList.Pairwise (· < ·)){i}(hi:i<=xs.size):SetTable.below xs (if i=0 then 0 else xs.getD (i - 1) 0+1)=i:=by
 obtain⟨b1,b2,b3⟩:=kvp (xs:=xs) (if i=0 then 0 else xs.getD (i - 1) 0+1) hp;generalize hb:SetTable.below xs (if i=0 then 0 else xs.getD (i - 1) 0+1)=b at b1 b2 b3
 by_cases h0:i=0
 ·subst h0;rcases Nat.eq_zero_or_pos b with c|c
  ·exact c
  ·have:=b2 0 ⋯ c;lia
 ·rw[Xb h0]at b2 b3;have hg:xs.getD (i - 1) 0=xs[i - 1]'⋯:=by simp[Array.getD,show i - 1<xs.size by lia]
  rw[hg]at b2 b3;rcases Nat.lt_trichotomy b i with c|c|c
  ·have:=b3 (i - 1) ⋯ ⋯;lia
  ·exact c
  ·have h1:=b2 i ⋯ c;have h2:=List.pairwise_iff_getElem.mp hp (i - 1) i (by simp;lia) (by simp;lia) ⋯;have h2:xs[i - 1]'⋯<xs[i]'⋯:=by simpa using h2
   lia
theorem qqo(jn:tx w=false){a o es ep t}(hk:IT w o es ep t)(cg:t.plain=false->¬1<es.size):
  ∀i s (A') (E') R,s.heap.get? a=some o->i<=es.size->R ((es.toList.map (·.2))[i]?.map λv=>(v,slP t (i+1))) s->wpAny (model prog w) A' (setNext a (slP t i) i ep) R E' s:=by
 intro i s A' E' R ho hi hR;have hsz:=kx1 hk.f;refine X0 (Y7 ho hk.d hk.f ?_);show wpAny _ _ (if tx w=true then _ else _) _ _ _;rw[Xb ⋯];show wpAny _ _ (if(!t.plain&&decide (es.size>1))=true then _ else _) _ _ _;rw[Xb (by
  cases hp:t.plain with
  |true=>simp
  |false=>simpa using cg hp)]
 show wpAny _ _ ((if _=true then _ else pure ()) >>= _) _ _ _;rw[Xb (by rw[hk.led,jn];simp)];refine X2 ?_;have hbl:SetTable.below t.place (slP t i)=i:=vqv hk.pw (hsz▸hi);rw[hbl]
 by_cases ce:i<es.size
 ·have so:i<t.place.size:=by rw[hsz];exact ce
  rw[Xf ce,Xf so];rw[Xi,Xp,Xf ce]at hR;have hs:slP t (i+1)=t.place[i]+1:=by unfold slP;simp[so]
  rw[hs]at hR;exact hR
 ·rw[Array.getElem?_eq_none ⋯];rw[Yg (by rw[X4,Xd];lia)]at hR;exact hR
theorem wwf{a o es ep t}(ho:s.heap.get? a=some o)(hk:IT w o es ep t){Q}(h:Q (!tx w&&(!t.plain&&decide (es.size>1))) s):wpAny (model prog w) A (setDrawn a) Q E s:=by
 exact X0 (Y7 ho hk.d hk.f (X0 (X0 (wpAny_askSetting (X2 (X2 h))))))
theorem wzx{a o es ep t Q}(ho:s.heap.get? a=some o)(hk:IT w o es ep t)
  (h:∀h' (d) (I:Addr) (fp) (bj:List Value) (St),(∀b o,s.heap.get? b=some o->h'.get? b=some o)->s.heap.objs.size<=I->(∀b∈fp,b=a\/s.heap.objs.size<=b) ->
   (∀A',A'.handled=none->Walks prog w A' I fp [I] es.size (λi v=>bj[i]?=some v) St)->St 0 h'->bj.Perm (es.toList.map (·.2))->Q (.ref I) {s with heap:=h',drawn:=d}):wpAny (model prog w) A (pyIter (.ref a)) Q E s:=by
 have hT:s.TypeIs (.ref a) "set":=⟨o,ho,hk.c⟩;have gw:=Xa ho;refine wpAny_pyIter_slot hT F.slot_set_iter (Xy F.slot_set_iter hT kq6 ?_ (kxo _));unfold Builtin.«frozenset.__iter__» Builtin.Frozenset.slot0 slotArgs;simp only[List.isEmpty_nil,Bool.not_true,Bool.false_eq_true,↓reduceIte,bind_assoc,List.length_nil,bne_self_eq_false];refine X0 (X2 (X0 (X2 (X0 (X0 (Z6 ho hk.d hk.f (X2 (X0 (wwf ho hk ?_)))))))))
 by_cases hdr:(!tx w&&(!t.plain&&decide (es.size>1)))=true
 ·rw [X9 hdr];refine X0 (drawn es.size _ s (by simp) λpl d hp=>(X0 (wpAny_newTuple (X0 (wpAny_setEpoch_of (X1 _ ho) hk.d hk.f ?_)) (hsz:=by rw[X4,hp.length_eq,Y5];exact hk.z))));refine X0 (Y2 (X2 ⟨_,rfl,"set_iterator",_,⟨_,X6 _ rfl,rfl⟩,slot_next.lookup,?_⟩));have hsz:(s.heap.push (seqObj "tuple" (pl.map λ(i:Nat)=>rawInt i).toArray 0)).objs.size=s.heap.objs.size+1:=Yv ..;refine h _ d _ [_,a,s.heap.objs.size] (pl.map λj=>(es.getD j (0,.none)).2) _ (λb o e=>X1 _ (X1 _ e)) (hsz▸Z8 _) (λb hb=>?_)
   (λA' hh=>qvd hh _ a s.heap.objs.size (by rw[hsz];exact Xe (Y6 gw)) (by rw[hsz];exact Xe (Za _)) (o:=o) (oT:=seqObj "tuple" (pl.map λ(i:Nat)=>rawInt i).toArray 0) hk.d hk.f hp rfl)
   ⟨⟨_,X6 _ rfl,rfl,rfl⟩,X1 _ (X1 _ ho),X1 _ (X6 _ rfl)⟩ (kvx hp)
  rcases aD hb with rfl|hb
  ·exact .inr (hsz▸Z8 _)
  rcases aD hb with rfl|hb
  ·exact .inl rfl
  ·rw[aC hb];exact .inr (X7 _)
 ·rw [Xb hdr];refine X0 (X2 (X0 (wpAny_setEpoch_of ho hk.d hk.f (X0 (Y2 (X2 ⟨_,rfl,"set_iterator",_,⟨_,X6 _ rfl,rfl⟩,slot_next.lookup,?_⟩))))));have m6:∀b∈[s.heap.objs.size,a],b=a\/s.heap.objs.size<=b:=λb hb=>by
   rcases aD hb with rfl|hb
   ·exact .inr (X7 _)
   ·exact .inl (aC hb)
  cases jn:tx w with
  | true=>
   refine h _ s.drawn _ [_,a] ((pickOrder (w.params.setOrder a ep) es).toList.map (·.2)) _ (λb o e=>X1 _ e) (X7 _) m6
    (λA' hh=>kqe hh _ a (Xe gw) (o:=o) hk.d hk.f (by rw[X4,(jxd _ es).length_eq,Xd]) (λ_=>0) (kwk jn hk.d hk.f))
    ⟨⟨_,X6 _ rfl,rfl,rfl⟩,X1 _ ho⟩ ((jxd _ es).map _)
  | false=>
   refine h _ s.drawn _ [_,a] (es.toList.map (·.2)) _ (λb o e=>X1 _ e) (X7 _) m6
    (λA' hh=>kqe hh _ a (Xe gw) (o:=o) hk.d hk.f (by simp) (slP t) (qqo jn hk (by
     rw[jn]at hdr
     simpa using hdr)))
    ⟨⟨_,X6 _ rfl,rfl,rfl⟩,X1 _ ho⟩ (.refl _)
theorem vqi{a o es ep t Q}(hh:A.handled=none)(ho:s.heap.get? a=some o)(hk:IT w o es ep t)
  (h:∀h' (d) (tk) (vs),(∀b o,s.heap.get? b=some o->h'.get? b=some o)->s.heap.objs.size<h'.objs.size->vs.Perm (es.toList.map (·.2))->Q vs {s with heap:=h',drawn:=d,toks:=tk}):
  wpAny (model prog w) A (collect (.ref a)) Q E s:=by
 have gw:a<s.heap.objs.size:=Xa ho;unfold collect;refine X0 (wpAny_runValue (Yi F.entry_proto_collect ?_));rw[Yq F.plain_proto_collect _];show wpAny _ A.in1 (newList [] >>= λl=>again (.builtin "list.__iadd__" ⟨[l,.ref a],[]⟩)) _ _ s;refine X0 (Y2 (X2 ⟨Z9 F.plain_list_iadd _,Yi F.entry_list_iadd ?_⟩));rw[Yq F.plain_list_iadd _];have dl:(s.heap.push {cls:=.type "list",data:=.seq ([]:List Value).toArray}).get? a=some o:=X1 _ ho;have hT1:Shared.TypeIs {s with heap:=s.heap.push {cls:=.type "list",data:=.seq ([]:List Value).toArray}} (.ref a) "set":=⟨o,dl,hk.c⟩;show wpAny _ A.in1 (Builtin.List.listExtendWith (.ref s.heap.objs.size) (.ref a) (.ref s.heap.objs.size)) _ _ _;unfold Builtin.List.listExtendWith;refine X0 (wpAny_typeOf hT1 ?_);have h1:Builtin.List.listSameRef (.ref s.heap.objs.size) (.ref a)=false:=by simp[Builtin.List.listSameRef];exact Zg gw
 have h2:(Value.type "set" == Value.type "list")=false:=⋯
 have h3:(Value.type "set" == Value.type "tuple")=false:=⋯
 simp only[h1,h2,h3,Bool.or_false,Bool.false_eq_true,if_false];refine X0 (wzx dl hk λh' d I fp bj St bv hI m6 W st0 hv=>(X0 (Xu (qz8 ⟨o,bv _ _ dl,hk.c⟩ ?_))));show wpAny _ A.in1 (PySem.rule "list.extend.makes-room" >>= λ_=>Builtin.List.listTouch (.ref s.heap.objs.size) >>= λ_=>
  again (.builtin "list.extend.loop" ⟨[.ref s.heap.objs.size,.ref I,.ref s.heap.objs.size],[]⟩)) _ _ _
 refine X0 (Zb ?_);have hsz:(s.heap.push {cls:=.type "list",data:=.seq ([]:List Value).toArray}).objs.size=s.heap.objs.size+1:=Yv ..;have hI':s.heap.objs.size+1<=I:=by rw[<-hsz];exact hI
 have iy:s.heap.objs.size∉fp:=λhm=>by
  rcases m6 _ hm with e|e
  ·exact absurd e (Zg gw)
  ·grind
 have ui:h'.get? s.heap.objs.size=some {cls:=.type "list",data:=.seq ([]:List Value).toArray}:=bv _ _ (X6 _ rfl);refine X0 ?_;show wpAny _ A.in1 (updateSeq s.heap.objs.size (·.push .none) >>= λ_=>updateSeq s.heap.objs.size (·.pop)) _ _ _;refine X0 (wpAny_updateSeq ui rfl ?_);have uq:=Xz (Obj.mapSeq (·.push Value.none)) ui rfl;refine wpAny_updateSeq uq rfl ?_;have mt:∀b o,b≠s.heap.objs.size->h'.get? b=some o->((h'.update s.heap.objs.size (Obj.mapSeq (·.push Value.none))).update s.heap.objs.size (Obj.mapSeq (·.pop))).get? b=some o:=
  λb o hb e=>(Yk _ _ (Ne.symm hb)).trans ((Yk _ _ (Ne.symm hb)).trans e)
 have WW:=W A.in1 hh;have ah:bj.length=es.size:=by rw[hv.length_eq,X4,Xd]
 refine X2 ⟨Z9 F.plain_extend_loop _,codeAny_extend_loopS WW.toS hk.z _ iy _ es.size 0 _ _ _ rfl (Yf _) (WW.frame 0 h' _ st0 λb hb o e=>mt b o (λe'=>iy (e'▸hb)) e) (Xz (Obj.mapSeq (·.pop)) uq rfl) (ItemsOf.nil _) λs' dm c' hm fm ao=>?_⟩;show wpAny _ A (load s.heap.objs.size >>= _) _ _ s';refine X0 (wpAny_load fm ?_);have hac:dm.toList=bj:=by
  apply List.ext_getElem?;intro j
  by_cases hj:j<es.size
  ·have ub:j<dm.size:=by rw[ao.1];exact hj
   rw[Xp,Xf ub];exact(ao.2 j _ (Xf ub)).symm
  ·rw[Yg (by rw[Xd,ao.1];lia),Yg ⋯]
 refine X2 ?_;rw[hac,Moved.eq_with hm];refine h _ d _ bj (λb o e=>?_) (Xa fm) hv;have hb:b<s.heap.objs.size:=Xa e;have o8:b≠s.heap.objs.size:=Xe hb;refine hm.heap b o (λhmem=>?_) (mt b o o8 (bv b o (X1 _ e)));rcases aD hmem with e'|hmem
 ·exact o8 e'
 ·rw[aC hmem]at hb;exact absurd hb (Nat.not_lt.mpr (Nat.le_of_succ_le hI'))
end
end Tw
namespace Tl
open Q
mutual
noncomputable def ltD:D->D->Option Bool
 |.int i,.int j=>some (decide (i<j))|.str x,.str y=>some (decide (x.cps.toList<y.cps.toList))|.tup xs,.tup ys=>ltDs xs ys|_,_=>none
noncomputable def ltDs:List D->List D->Option Bool
 |[],[]=>some false|[],_::_=>some true|_::_,[]=>some false|a::x,b::y=>if a=b then ltDs x y else ltD a b
end
noncomputable def W9(a:D):List D->List D
 |[]=>[a]|b::r=>if ltD b a=some true then b::W9 a r else a::b::r
def qW:List D->List D
 |[]=>[]|a::r=>W9 a (qW r)
def QK:D->Bool
 |.tup (.int _::_)=>true|_=>false
noncomputable def okT(ds:List D):Bool:=ds.all (λd=>k7 6 d&&QK d)&&ds.all λa=>ds.all λb=>(ltD a b).isSome
def z5(l:List D)(d:D):List D:=if d∈l then l else l++[d]
def ddT(ds:List D):List D:=ds.foldl z5 []
end Tl
namespace Q
open Tl
noncomputable def kx2:Sd->Option Sd:=λx=>match x.2 with
 |.lst ds=>if ds.length<64/\okT ds=true/\ds.Nodup then some (.rt,.lst (qW ds))else none|_=>none
noncomputable def Wq:Sd->Option Sd:=λx=>match x.2 with
 |.lst ds=>if(ddT ds).length<=59/\okT ds=true then some (.rt,.lst (qW (ddT ds)))else none|_=>none
noncomputable def qvx(i j : Nat)(t : Tg)(B : Sm): Sm:= λE=>match E[i]?,E[j]? with
  |some (some (o1,.lst a)),some (some (o2,.lst b))=>if i≠j /\ a.length<=big /\ D.pures a = true /\ D.pures b = true then
      (match wV t B (qv a b) ((E.set i none).set j none)with
      |some (.nx E')=>some (.nx ((E'.set i (some (o1,.lst a))).set j (some (o2,.lst b))))
      |r=>r)else none
  |_,_=>none
end Q
namespace Tl
open PySem PyProof.Rows SeqAt
noncomputable def YV(A:Around)(s:Shared)(y x:Value)(b:Bool):Prop:=
 ∀(prog:Program) (w:World) (E:VP9) (Q:VP9),Q (.bool b) s->wpAny (model prog w) A (richCompare .Lt y x) Q E s
inductive Lx (A:Around)(s:Shared):List Value->List Value->Bool->Prop
 |nn:Lx A s [] [] false
 |nc (y:Value) (ys:List Value):Lx A s [] (y::ys) true
 |cn (x:Value) (xs:List Value):Lx A s (x::xs) [] false
 |eq {x y:Value} {xs ys:List Value} {b:Bool}:EqAt A s x y true->Lx A s xs ys b->Lx A s (x::xs) (y::ys) b
 |lt {x y:Value} {xs ys:List Value} {b:Bool}:EqAt A s x y false->YV A s x y b->Lx A s (x::xs) (y::ys) b
theorem vxz {prog:Program} {w:World} {A:Around} {s:Shared} {E:VP9} {xs ys:List Value} {k:Bool} (h:Lx A s xs ys k):∀{R:Option Fin×Unit->Shared->Prop},(R (some (.done (.ret (.bool k))),()) s)->(k=decide (xs.length<ys.length)->R (none,()) s) ->
  wpAny (model prog w) A (forIn (xs.zip ys) ((none,()):Option Fin×Unit) λx __s=>do
      let __do_lift <-eqBool x.fst x.snd
      if(!__do_lift)=true then do
        PySem.rule "tuple.compare.by-the-first-pair-that-differs"
        let __do_lift <-richCompare CmpOp.Lt x.fst x.snd
        let __do_lift <-ret __do_lift
        pure (ForInStep.done (some __do_lift,()))
       else pure (ForInStep.yield (none,()))) R E s:=by
 induction h with
 |nn=>intro R h1 h2;exact X2 (h2 rfl)|nc y ys=>intro R h1 h2;exact X2 (h2 (by simp))|cn x xs=>intro R h1 h2;exact X2 (h2 (by simp))
 |eq he _ ih=>
  intro R h1 h2;rw[List.zip_cons_cons,List.forIn_cons];refine X0 (X0 (he prog w _ _ ?_));refine X2 ?_;exact ih h1 λe=>h2 (by rw[e];simp)
 |lt he hl=>
  intro R h1 h2;rw[List.zip_cons_cons,List.forIn_cons];refine X0 (X0 (he prog w _ _ ?_));refine X0 (Zb (X0 (hl prog w _ _ ?_)));exact X0 (X2 (X2 (X2 h1)))
theorem vjv{prog:Program}{w:World}{A:Around}{s:Shared}{E:VP9}{l b:Addr}{items d7:Array Value}{k:Bool}{Q:VP9}(hl:s.heap.IsTuple l items)(hb:s.heap.IsTuple b d7)(h:Lx A s items.toList d7.toList k)(hq:Q (.bool k) s):
  wpAny (model prog w) A (Builtin.«tuple.__lt__» ⟨[.ref l,.ref b],[]⟩) (λfin s'=>∃v,fin=.done (.ret v)/\Q v s') E s:=by
 have tyb:=hb.typeIs;obtain⟨ol,np,cb,nl,nw⟩:=hl;obtain⟨ob,gz,hcb,nb,fq⟩:=hb;show wpAny _ _ (isInstance _ _ >>= _) _ _ _;refine X0 (wpAny_isInstance tyb isSubtype_tuple_tuple ?_);refine X0 (wpAny_tupleItemsOf np nw (X0 (wpAny_tupleItemsOf gz fq ?_)));refine X0 (vxz h ?_ λe=>?_)
 ·exact X2 ⟨_,rfl,hq⟩
 ·refine X2 ⟨_,rfl,?_⟩;have:Builtin.Tuple.tupleCompareSizes CmpOp.Lt items.size d7.size=.bool k:=by
   rw[e];rfl
  rw[this];exact hq
theorem qxf{A:Around}{s:Shared}{l b:Addr}{items d7:Array Value}{k:Bool}(hl:s.heap.IsTuple l items)(hb:s.heap.IsTuple b d7)(hu:A.units<cLine)(h:Lx A.in1 s items.toList d7.toList k):YV A s (.ref l) (.ref b) k:=λprog w E Q hq=>by
 have t1:=hl.typeIs;have t2:=hb.typeIs;exact richCompare_meets_room t1 t2 PySem.F.slot_tuple_lt PySem.F.entry_tuple_lt (PySem.F.args_tuple_lt_2 _ _)
  (Meets.of_wp (S:=λA R s=>s.heap.IsTuple l items/\s.heap.IsTuple b d7/\Lx A.in1 s items.toList d7.toList k/\R _ s) λprog w A R s hs=>vjv hs.1 hs.2.1 hs.2.2.1 hs.2.2.2) ⟨hl,hb,h,⟨(λx=>nomatch x),hq⟩⟩ hu
open Q
theorem vz1{A:Around}{s:Shared}(x y:Str)(t u:Tok):YV A s (.str x t) (.str y u) (decide (x.cps.toList<y.cps.toList)):=λprog w E Q h=>PyProof.Rows.lt_str h
theorem lt_int{A:Around}{s:Shared}(i j:Int)(t u:Tok):YV A s (.int i t) (.int j u) (decide (i<j)):=λprog w E Q h=>wpAny_lt_int h
theorem wva{s:Shared}{A:Around}{n:Nat}(hu:A.units+2*n+1<cLine)(ce:∀(d d':D) (u w:Value) b,k7 n d=true->k7 n d'=true->jZ s.heap d u->jZ s.heap d' w->ltD d d'=some b->YV A s u w b):∀(xs ys:List D) (us md:List Value) b,keyDs n xs=true->keyDs n ys=true->CReps s.heap xs us->CReps s.heap ys md->ltDs xs ys=some b->Lx A s us md b:=by
 intro xs
 induction xs<;>intro ys us md b kx ky q1 q2 h<;>cases ys<;>unfold CReps at q1 q2<;>unfold ltDs at h
 ·cases h;subst q1 q2;exact .nn
 ·obtain⟨u,r,rfl,_,_⟩:=q2;cases h;subst q1;exact .nc _ _
 ·obtain⟨u,r,rfl,_,_⟩:=q1;cases h;subst q2;exact .cn _ _
 ·rename_i x xs ihx y ys;obtain⟨u,r,rfl,g1,g2⟩:=q1;obtain⟨u',r',rfl,g3,g4⟩:=q2;unfold keyDs at kx ky;rw[Bool.and_eq_true]at kx ky;have he:=Q8 n (A:=A) (kv9 kx.1) g1 g3 ⋯;rw[kzk kx.1 ky.1]at he
  by_cases e:x=y
  ·rw[X9 e]at h;rw[Xg e]at he;exact .eq he (ihx ys r r' b kx.2 ky.2 g2 g4 h)
  ·rw[Xb e]at h;rw[Xh e]at he;exact .lt he (ce _ _ _ _ _ kx.1 ky.1 g1 g3 h)
theorem lt_C{s : Shared}: ∀n {d d' : D} {u w : Value} {A : Around} {b : Bool},k7 n d = true -> k7 n d' = true -> jZ s.heap d u -> jZ s.heap d' w -> A.units+2*n<cLine -> ltD d d' = some b -> YV A s u w b:= by
  intro n
  induction n <;> intro d d' u w A b k1 k2 r1 r2 hu h <;> cases d <;> unfold k7 at k1 <;> (try (cases k1; done)) <;> cases d' <;> unfold ltD at h <;> (try (cases h; done)) <;> unfold jZ at r1 r2 <;> first
    |(obtain⟨t,rfl⟩:= r1; obtain⟨t',rfl⟩:= r2; cases h; first|exact lt_int _ _ _ _|exact vz1 _ _ _ _)
    |skip
  rename_i n ih xs ys;obtain⟨a,us,rfl,h1,q1⟩:= r1;obtain⟨a',md,rfl,h2,q2⟩:= r2;exact qxf h1 h2 ⋯ (wva ⋯ (λ_ _ _ _ _ a1 a2 a3 a4 a5=>ih a1 a2 a3 a4 ⋯ a5) xs ys us md b k1 k2 q1 q2 h)
end Tl
namespace Tl
open Q
inductive Lv:D->D->Bool->Prop
 |int (i j:Int):Lv (.int i) (.int j) (decide (i<j))
 |str (x y:PySem.Str):Lv (.str x) (.str y) (decide (x.cps.toList<y.cps.toList))
 |tup {xs ys:List D} {k:Bool}:ltDs xs ys=some k->Lv (.tup xs) (.tup ys) k
theorem ltv{a b k}(h : ltD a b = some k): Lv a b k:= by
  cases a <;> (try (unfold ltD at h; cases h)) <;> cases b <;> unfold ltD at h <;> first
    |(cases h; done)
    |(cases h; constructor)
    |exact .tup h
structure Ord (n:Nat):Prop where
 a1:∀{a b:D},sizeOf a<n->ltD a b=some true->ltD b a=some false
 a2:∀{x y:List D},sizeOf x<n->ltDs x y=some true->ltDs y x=some false
 t1:∀{a b:D},sizeOf a<n->ltD a b=some false->a≠b->ltD b a=some true
 t2:∀{x y:List D},sizeOf x<n->ltDs x y=some false->x≠y->ltDs y x=some true
 r1:∀{a b c:D},sizeOf a<n->ltD a b=some true->ltD b c=some true->ltD a c=some true
 r2:∀{x y z:List D},sizeOf x<n->ltDs x y=some true->ltDs y z=some true->ltDs x z=some true
theorem ord (n): Ord n:= by
  induction n with
  | zero=>exact⟨nofun,nofun,nofun,nofun,nofun,nofun⟩
  | succ n ih=>
    refine⟨fun {a b} hs h=> ?_,fun {x y} hs h=> ?_,fun {a b} hs h ne=> ?_,fun {x y} hs h ne=> ?_,fun {a b c} hs h1 h2=> ?_,fun {x y z} hs h1 h2=> ?_⟩
    · generalize hk : true = k at h
      cases ltv h <;> unfold ltD
      · rw[Xh (by have:= Ys hk.symm; lia)]
      · rw[Xh (List.lt_asymm (Ys hk.symm))]
      · subst hk
        exact ih.a2 (by simp at hs; lia) ‹_›
    · cases x <;> cases y <;> unfold ltDs at h ⊢ <;> first
        | (cases h; done)
        | rfl
        | skip
      simp at hs
      split at h
      · rw[X9 (Eq.symm ‹_›)]
        exact ih.a2 ⋯ h
      · rw[Xb λz=> ‹¬_› z.symm]
        exact ih.a1 ⋯ h
    · generalize hk : false = k at h
      cases ltv h <;> unfold ltD
      · rename_i i j
        have : i≠j:= λz=>ne (by rw[z])
        rw[Xg ⋯]
      · rename_i x y
        have h1:= List.not_lt.mp (of_decide_eq_false hk.symm);rcases Decidable.em (y.cps.toList<x.cps.toList)with h2|h2
        · rw[Xg h2]
        · have:= List.le_antisymm (List.not_lt.mp h2) h1
          exact absurd (by cases x; cases y; cases Array.toList_inj.mp this; rfl) ne
      · subst hk
        exact ih.t2 (by simp at hs; lia) ‹_› λz=>ne (by rw[z])
    · cases x <;> cases y <;> unfold ltDs at h ⊢ <;> first
        | (cases h; done)
        | rfl
        | exact absurd rfl ne
        | skip
      simp at hs
      split at h
      · rename_i e
        rw[X9 e.symm];exact ih.t2 ⋯ h λz=>ne (by rw[e,z])
      · rename_i e
        rw[Xb λz=>e z.symm];exact ih.t1 ⋯ h e
    · generalize hk : true = k at h1
      cases ltv h1 <;> generalize hl : true = l at h2 <;> cases ltv h2 <;> unfold ltD
      · rw[Xg (by have:= Ys hk.symm; have:= Ys hl.symm; lia),<-hk]
      · rw[Xg (List.lt_trans (Ys hk.symm) (Ys hl.symm)),<-hk]
      · subst hk hl
        exact ih.r2 (by simp at hs; lia) ‹_› ‹_›
    · cases x <;> cases y <;> (try (unfold ltDs at h1; cases h1; done)) <;> cases z <;> unfold ltDs at h1 h2 ⊢ <;> first
        | (cases h2; done)
        | rfl
        | skip
      rename_i a x b y c z;simp at hs
      by_cases e1 : a = b
      · subst e1
        rw[X9 rfl]at h1
        split at h2
        · rw[X9 ‹_›]
          exact ih.r2 ⋯ h1 h2
        · rwa [Xb ‹_›]
      · rw[Xb e1]at h1
        by_cases e2 : b = c
        · rwa [<-e2,Xb e1]
        · rw[Xb e2]at h2
          rw[Xb λe=>by subst e; rw[ih.a1 ⋯ h1]at h2; cases h2];exact ih.r1 ⋯ h1 h2
theorem qxh{a b}(h:ltD a b=some true):ltD b a=some false:=(ord _).a1 (Za _) h
theorem qxg{a b}(h:ltD a b=some false)(ne:a≠b):ltD b a=some true:=(ord _).t1 (Za _) h ne
theorem lt_trans{a b c}(h1:ltD a b=some true)(h2:ltD b c=some true):ltD a c=some true:=(ord _).r1 (Za _) h1 h2
theorem wvb a (h:ltD a a=some true):False:=by
 have:=qxh h
 grind
end Tl
namespace Tl
open PySem PySem.W PyProof.Rows Srt Q
abbrev Ls(a b:D):Prop:=ltD a b=some true
def Cmp(ds:List D):Prop:=∀a∈ds,∀b∈ds,∃k,ltD a b=some k
theorem qzx{ds}(h:Cmp ds){a b}(ha:a∈ds)(hb:b∈ds)(ne:a≠b):Ls a b\/Ls b a:=by
 obtain⟨k,hk⟩:=h a ha b hb;cases k with|true=>exact .inl hk|false=>exact .inr (qxg hk ne)
theorem kxe{α:Type}{p q}:∀{l:List α},(∀a∈l,p a=true->q a=true)->(∃x∈l,q x=true/\p x=false)->l.countP p<l.countP q
 | [],_,h=>by grind
 | a::l,hi,h=>by
  have mono:=List.countP_mono_left λb hb hp=>hi b (lc9 _ hb) hp
  rw[List.countP_cons,List.countP_cons];obtain⟨x,hx,q1,q2⟩:=h;rcases aD hx with rfl|hx
  ·rw[X9 q1,Xb (by rw[q2];decide)];lia
  ·have:=kxe (λb hb hp=>hi b (lc9 _ hb) hp) ⟨x,hx,q1,q2⟩
   by_cases c:p a=true
   ·rw[X9 c,X9 ((hi a X5) c)];lia
   ·rw[Xb c]
    split<;>lia
noncomputable def rk(ds:List D)(d:D):Int:=((ds.countP λe=>decide (Ls e d):Nat):Int)
theorem vk5{ds a b}(ha:a∈ds)(h:Ls a b):rk ds a<rk ds b:=by
 unfold rk;have:=kxe (q:=λe=>decide (Ls e b)) (λe _ he=>Xg (lt_trans (Ys he) h)) ⟨a,ha,Xg h,Xh (wvb a)⟩;lia
theorem wka{ds}(hc:Cmp ds){a b}(ha:a∈ds)(hb:b∈ds):ltD a b=some (decide (rk ds a<rk ds b)):=by
 obtain⟨k,hk⟩:=hc a ha b hb;rw[hk];cases k with
 | true=>rw[Xg (vk5 ha hk)]
 | false=>
  rw[Xh]
  by_cases e:a=b
  ·grind
  ·have:=vk5 hb (qxg hk e);lia
theorem wkb{ds}(hc:Cmp ds){a b}(ha:a∈ds)(hb:b∈ds)(h:rk ds a=rk ds b):a=b:=by
 by_cases e:a=b
 ·exact e
 ·rcases qzx hc ha hb e with z|z
  ·have:=vk5 ha z;lia
  ·have:=vk5 hb z;lia
structure TT (h:Heap)(vs:List Value)(ds:List D):Prop where
 len:vs.length=ds.length
 at':∀(i:Nat) v d,vs[i]?=some v->ds[i]?=some d->∃b x r,v=.ref b/\d=.tup (.int x::r)/\jZ h d v/\k7 6 d=true
theorem TT.tail{h v vs d ds}(t:TT h (v::vs) (d::ds)):TT h vs ds:=⟨by have:=t.len;simpa using this,λi v d e1 e2=>t.at' (i+1) v d (by simpa using e1) (by simpa using e2)⟩
theorem TT.kat{h}:∀{vs ds},TT h vs ds->∃fs,KatTups h vs fs/\fs.length=vs.length/\∀v∈fs,∃x t,v=Value.int x t
 |[],_,_=>⟨[],.nil,rfl,λv h=>nomatch h⟩
 |v::vs,d::ds,t=>by
  obtain⟨b,x,r,rfl,rfl,hr,hk⟩:=t.at' 0 v d rfl rfl;obtain⟨fs,g1,g2,g3⟩:=TT.kat t.tail;obtain⟨a,us,e,⟨ob,gz,hc,nn,jy⟩,hi⟩:=hr;cases e;obtain⟨u,rr,rfl,hu,_⟩:=hi;obtain⟨tk,rfl⟩:=hu;refine⟨.int x tk::fs,.cons gz hc jy rfl g1,by simp[g2],λv hv=>?_⟩;rcases aD hv with rfl|hv
  ·exact⟨_,_,rfl⟩
  ·exact g3 v hv
section
variable {prog:Program}{w:PySem.World}{A:Around}{E:VP9}{s:Shared}
theorem wvd{us md b Q}(h:Lx A s us md b)(hq:Q b s):∀{fin i},fin=decide (us.length<md.length)->KatLex prog w A true fin Q (us.zip md) (i+1) s:=by
 induction h<;>intro f i e
 ·rw[e];exact kat_nil hq
 ·rw[e];exact kat_nil (by simpa using hq)
 ·rw[e];exact kat_nil (by simpa using hq)
 ·rename_i he _ ih;exact kat_cons (he prog w _ _ (kat_yes (ih hq (by rw[e];simp))))
 ·rename_i he hl;exact kat_cons (he prog w _ _ (kat_no (kat_one _ _ (hl prog w _ _ hq))))
theorem xjj{vs ds i j C b}(hu:A.units+20<cLine)(t:TT s.heap vs ds) hi hj (hb:ltD (ds[i]'(by rw[<-t.len];exact hi)) (ds[j]'(by rw[<-t.len];exact hj))=some b)(h:C b s):kas_ask prog w A (tuples' true) vs i j C s:=by
 have li:i<ds.length:=by rw[<-t.len];exact hi
 have lj:j<ds.length:=by rw[<-t.len];exact hj
 unfold kas_ask;have ei:vs.getD i Value.none=vs[i]:=by simp[hi]
 have ej:vs.getD j Value.none=vs[j]:=by simp[hj]
 rw[ei,ej];obtain⟨b1,x1,r1,e1,f1,c1,k1⟩:=t.at' i _ _ (X3 hi) (X3 li);obtain⟨b2,x2,r2,e2,f2,c2,k2⟩:=t.at' j _ _ (X3 hj) (X3 lj);rw[f1,f2]at hb;rw[f1]at c1 k1;rw[f2]at c2 k2;rw[e1]at c1 ⊢;rw[e2]at c2 ⊢;obtain⟨a1,us1,q1,⟨o1,dl,hc1,n1,nj⟩,i1⟩:=c1;obtain⟨a2,us2,q2,⟨o2,gm,m4,n2,i8⟩,i2⟩:=c2;cases q1;cases q2;unfold k7 at k1 k2;obtain⟨u1,v1,rfl,p1,w1⟩:=i1;obtain⟨u2,v2,rfl,p2,w2⟩:=i2;have kd1:=k1;have kd2:=k2;unfold keyDs at kd1 kd2;rw[Bool.and_eq_true]at kd1 kd2;obtain⟨t1,rfl⟩:=p1;obtain⟨t2,rfl⟩:=p2;unfold ltD ltDs at hb;refine kat_lt dl nj gm i8 (kat_cons (wpAny_eqBool_int ?_))
 by_cases e:x1=x2
 ·subst e;rw[X9 rfl]at hb;rw[beq_self_eq_true];exact kat_yes (wvd (wva (n:=5) ⋯ (λ_ _ _ _ _ a1 a2 a3 a4 a5=>lt_C 5 a1 a2 a3 a4 ⋯ a5) r1 r2 v1 v2 b kd1.2 kd2.2 w1 w2 hb) h (by simp))
 ·rw[Xb (λz=>e (by injection z))]at hb;cases oq9 hb;rw[Yl e];exact kat_no (oneLt_int h)
end
theorem kjz(a):∀r,(W9 a r).Perm (a::r)
 |[]=>.refl _
 |b::r=>by
  unfold W9
  split
  ·exact((kjz a r).cons b).trans (.swap _ _ _)
  ·exact .refl _
theorem K6:∀r,(qW r).Perm r
 |[]=>.refl _|a::r=>(kjz a _).trans ((K6 r).cons a)
theorem qz4{a}:∀{r},r.Pairwise Ls->a∉r->(∀b∈r,∃k,ltD b a=some k)->(W9 a r).Pairwise Ls
 | [],_,_,_=>List.pairwise_singleton _ _
 | b::r,hp,hn,hc=>by
  obtain⟨h1,h2⟩:=List.pairwise_cons.mp hp;unfold W9
  split
  ·rename_i hb;refine List.pairwise_cons.mpr ⟨λc hcm=>?_,qz4 h2 (λz=>hn (lc9 _ z)) λc hcm=>hc c (lc9 _ hcm)⟩;rcases aD ((kjz a r).mem_iff.mp hcm)with rfl|hcm
   ·exact hb
   ·exact h1 c hcm
  ·rename_i hb;have lz:Ls a b:=by
    obtain⟨k,hk⟩:=hc b X5;cases k with|true=>exact absurd hk hb|false=>exact qxg hk λz=>hn (z▸X5)
   refine List.pairwise_cons.mpr ⟨λc hcm=>?_,hp⟩;rcases aD hcm with rfl|hcm
   ·exact lz
   ·exact lt_trans lz (h1 c hcm)
theorem jzt:∀{ds},Cmp ds->ds.Nodup->(qW ds).Pairwise Ls
 |[],_,_=>.nil
 |a::r,hc,hn=>by
  obtain⟨h1,h2⟩:=List.nodup_cons.mp hn;unfold qW;exact qz4 (jzt (λx hx y hy=>hc x (lc9 _ hx) y (lc9 _ hy)) h2) (λz=>h1 ((K6 r).mem_iff.mp z)) λb hb=>hc b (lc9 _ ((K6 r).mem_iff.mp hb)) a X5
theorem kql{ds p}(hc:Cmp ds)(hn:ds.Nodup)(hp:p.Perm ds)(h:p.Pairwise Ls):p=qW ds:=
 List.Perm.eq_of_pairwise (λa b _ _ h1 h2=>by
  have h2:ltD b a=some true:=h2;rw[qxh h1]at h2;cases h2) h (jzt hc hn) (hp.trans (K6 ds).symm)
abbrev YX(s:Shared)(a:Addr)(vs:List Value):Shared:={s with heap:=((s.heap.update a (Obj.mapSeq λ_=>#[])).push (seqObj "tuple" vs.toArray 0)).push (seqObj "list" #[] 0)}
section
variable {prog:Program}{w:PySem.World}{A:Around}{E:VP9}{s:Shared}{vs:List Value}{ds:List D}{a:Addr}{n:Nat}{P:Fin->Shared->Prop}
theorem TT.keep{h h'}(t:TT h vs ds)(et:∀b ob,h.get? b=some ob->ob.cls=.type "tuple"->h'.get? b=some ob):TT h' vs ds:=⟨t.len,λi v d e1 e2=>by
 obtain⟨b,x,r,g1,g2,g3,g4⟩:=t.at' i v d e1 e2;exact⟨b,x,r,g1,g2,W4 (λb ob _ _ e c _=>et b ob e c) g4 g3,g4⟩⟩
theorem kzg{κ}{key:Nat->Int}{G:List Nat->Prop}(ho:s.heap.get? a=some (seqObj "list" vs.toArray n))(uf:vs.length<64)
  (hk:2<=vs.length->∀Q,Q κ (YX s a vs)->wpAny (model prog w) A (keyKind' vs.toArray) Q E (YX s a vs))
  (hask:∀i j (C),i<vs.length->j<vs.length->C (decide (key i<key j)) (YX s a vs)->kas_ask prog w A κ vs i j C (YX s a vs))
  (fin:∀p,p.Perm (List.range vs.length)->(p.map key).Pairwise (·<=·)->G p)
  (h:∀p,p.Perm (List.range vs.length)->G p->P (.done (.ret .none)) {s with heap:=sortedHeap s.heap a vs (p.map λi=>vs.getD i .none).toArray}):
  wpAny (model prog w) A (Builtin.«list.sort» ⟨[.ref a],[]⟩) P E s:=by
 rw[list_sort_plain];refine X0 (listItems_at ho rfl (X0 (listUpdate_at ho rfl ?_ (by rw[X8,Yo];lia) (Yf _))));obtain⟨e1,dl⟩:∃e1,(s.heap.update a (Obj.mapSeq λ_=>#[])).get? a=some (seqObj "list" #[] e1):=⟨_,get?_update_seq ho (λ_=>#[])⟩;refine X0 (seqEpoch_at dl rfl (X0 (wpAny_newTuple (X0 (wpAny_newList (Xu ?_) (Yf _))) (by show vs.length<=_;rw[Yo];lia))));have ho6:(((s.heap.update a (Obj.mapSeq λ_=>#[])).push (seqObj "tuple" vs.toArray 0)).push (seqObj "list" #[] 0)).get? a=some (seqObj "list" #[] e1):=X1 _ (X1 _ dl);dsimp only;have hsz:vs.toArray.size=vs.length:=by simp
 by_cases h2:vs.toArray.size<2
 ·rw[X9 h2,X9 h2];refine X0 (X2 (X0 (X2 ?_)));dsimp only;have es:(arrOf (SortSt.mk' general' (vs.toArray.zip vs.toArray) #[] 7 none)).map (·.2)=((List.range vs.length).map λi=>vs.getD i .none).toArray:=by
   apply Array.toList_inj.mp;refine List.ext_getElem? λi=>?_
   by_cases hi:i<vs.length
   ·simp[hi]
   ·simp[Nat.le_of_not_lt hi]
  rw[es];refine X0 (seqEpoch_at ho6 rfl (X0 (listUpdate_at ho6 rfl ?_ (Yf _) (by rw[X8,X4,Y5,Yo];lia))));simp only[bne_self_eq_false,Bool.false_eq_true,if_false];refine X2 (h _ (.refl _) (fin _ (.refl _) ?_));rw[hsz]at h2;rcases(show vs.length=0\/vs.length=1 by lia)with e|e<;>rw[e]<;>simp[List.range_succ]
 ·rw[Xb h2,Xb h2];refine X0 (hk ⋯ _ ?_);obtain⟨p,q1,q2,q3⟩:=wk5 (key:=key) (n:=vs.length) ⋯;refine X0 (wpAny_mono (kat_run (ks:=vs) (vs:=vs) (G:=λp' s'=>p'=p/\s'=(YX s a vs))
   (Q:=λdz s'=>arrOf dz=p.map (kas_item (vs.toArray.zip vs.toArray))/\failedOf dz=none/\s'=(YX s a vs))
   rfl ⋯ uf (λp' dz s' a1 a2 a3 a4=>⟨by rw[a2,a4.1],a3,a4.2⟩) (wwb (λi j C hi hj hC=>hask i j C hi hj hC) q1 ⟨rfl,rfl⟩)) ?_ λ_ _ e=>e)
  rintro ⟨⟨⟩,dz⟩ s' ⟨har,hf,rfl⟩;rw[kat_snds rfl har];refine X0 (seqEpoch_at ho6 rfl (X0 (listUpdate_at ho6 rfl ?_ (Yf _) (by rw[X8,X4,Xd,q2.sz,Yo];lia))));rw[hf];simp only[bne_self_eq_false,Bool.false_eq_true,if_false];refine X2 (h p.toList q2.pm (fin _ q2.pm ?_));rw[List.pairwise_map];refine List.pairwise_iff_getElem.mpr λi j hi hj mi=>?_
  rw[Xd,q2.sz]at hi hj;have:=q3.le (Nat.le_of_lt mi) hj;unfold Srt.K at this
  simpa [Array.getD,q2.sz,hi,hj]using this
theorem kjv(hu:A.units+20<cLine)(ho:s.heap.get? a=some (seqObj "list" vs.toArray n))(ht:TT s.heap vs ds)(hc:Cmp ds)(ju:ds.Nodup)(uf:vs.length<64)
  (h:∀p:List Nat,p.Perm (List.range vs.length)->(p.map λi=>ds.getD i .non)=qW ds->P (.done (.ret .none)) {s with heap:=sortedHeap s.heap a vs (p.map λi=>vs.getD i .none).toArray}):
  wpAny (model prog w) A (Builtin.«list.sort» ⟨[.ref a],[]⟩) P E s:=by
 have ht6:TT (((s.heap.update a (Obj.mapSeq λ_=>#[])).push (seqObj "tuple" vs.toArray 0)).push (seqObj "list" #[] 0)) vs ds:=ht.keep λb ob hb cb=>X1 _ (X1 _ (by
  rw[Yk _ _ (λz=>by
   rw[<-z,ho]at hb;cases hb;exact absurd (show Value.type "list"=Value.type "tuple" from cb) ⋯)]
  exact hb))
 have hnn:=ht.len.symm;have gd:∀i (hi:i<vs.length),ds.getD i .non=ds[i]'⋯:=λi hi=>by simp[show i<ds.length by lia]
 have key:∀i j,i<vs.length->j<vs.length->rk ds (ds.getD i .non)=rk ds (ds.getD j .non)->i=j:=λi j hi hj e=>by
  rw[gd i hi,gd j hj]at e;have:=wkb hc (Y3 _) (Y3 _) e;exact(List.getElem?_inj ⋯ ju).mp (by rw[X3 ⋯,X3 ⋯,this])
 have fin:∀p:List Nat,p.Perm (List.range vs.length)->(p.map λi=>rk ds (ds.getD i .non)).Pairwise (·<=·)->(p.map λi=>ds.getD i .non)=qW ds:=λp hp hpw=>by
  have pp:(p.map λi=>ds.getD i .non).Perm ds:=by
   refine(hp.map _).trans (.of_eq ?_);rw[<-hnn];exact Tb.rng_getD ds .non
  refine kql hc ju pp ?_;rw[List.pairwise_map]at hpw ⊢;refine List.Pairwise.imp_of_mem (fun {i j} hi hj le=>?_) (hpw.and (hp.nodup_iff.mpr List.nodup_range));have hi:=List.mem_range.mp (hp.mem_iff.mp hi);have hj:=List.mem_range.mp (hp.mem_iff.mp hj);have:=wka hc (a:=ds.getD i .non) (b:=ds.getD j .non) (gd i hi▸Y3 _) (gd j hj▸Y3 _);have ne:=λe=>le.2 (key i j hi hj e)
  rw[Xg ⋯]at this;exact this
 refine kzg (κ:=tuples' true) (key:=λi=>rk ds (ds.getD i .non)) ho uf (λh2 Q hq=>?_) (λi j C hi hj hC=>xjj hu ht6 hi hj (by
    have:=wka hc (a:=ds.getD i .non) (b:=ds.getD j .non) (gd i hi▸Y3 _) (gd j hj▸Y3 _);rw[<-gd i hi,<-gd j hj];exact this) hC) fin h
 obtain⟨fs,g1,g2,g3⟩:=ht6.kat;refine kat_kind (T:=.type "int") g1 ⋯ (λv hv=>?_) rfl ?_
 ·obtain⟨x,t,rfl⟩:=g3 v hv;exact .now
 have eb:(Value.type "int" != Value.type "tuple")=true:=⋯
 exact hq
end
end Tl
namespace Tl
open PySem PySem.W PyProof.Rows Srt Q Tw Tb
noncomputable def trP(prog:Program)(w:PySem.World)(Pd:D->Addr->Prop):HeapKind prog w Kd where
 is:=λh k a=>jZ h k.1 (.ref a)/\Pd k.1 a
 hash:=λk=>Q1 w k.1
 draws:=λk=>Vw k.1
 room:=λA=>A.units+40<cLine
 inj:=λhx hy=>(kvz prog w).inj hx.1 hy.1
 keeps:=λx ho hd hs=>⟨(kvz prog w).keeps x.1 ho hd hs,x.2⟩
 pyHash:=λhu hk h=>(kvz prog w).pyHash hu hk.1 h
 eqBool:=λhu hx hy h=>(kvz prog w).eqBool hu hx.1 hy.1 h
 quiet:=λhk h=>(kvz prog w).quiet hk.1 h
section
variable {prog:Program}{w:PySem.World}{A:Around}{E:VP9}{s:Shared}{Pd:D->Addr->Prop}
theorem xjf(n m){d u A s Q}(hm:n<=m)(hk:k7 n d=true)(hr:jZ s.heap d u)(h:Q false s):wpAny (model prog w) A (ofAClassStatement m u) Q E s:=by
 refine kzl (P:=λn u=>∀m Q,n<=m->Q false s->wpAny _ A (ofAClassStatement m u) Q E s) ?_ (λn a us ht hi m Q hm h=>?_) n hk hr m Q hm h
 ·rintro n u (rfl|⟨i,t,rfl⟩|⟨i,t,rfl⟩) m Q _ h<;>(unfold ofAClassStatement;exact X2 h)
 have ty:=ht.typeIs;obtain⟨ob,gz,cb,nn,jy⟩:=ht;cases m
 ·lia
 unfold ofAClassStatement;refine X0 (wpAny_typeOf ty ?_);dsimp only;refine X0 (X2 (X0 (Zj gz jy (X0 ?_))));rw[<-Array.forIn_toList];refine Zi _ (λa8 r s'=>r.1=none/\s'=s/\∀u∈a8,u∈us) _ ?_ ?_ _ _ ⟨rfl,rfl,λ_ h=>h⟩
 ·rintro v a8 r s' ⟨hr,rfl,hu⟩;exact X0 (hi v (hu v X5) _ _ ⋯ (X2 ⟨rfl,rfl,λu h=>hu u (lc9 _ h)⟩))
 ·rintro ⟨r1,r2⟩ s' ⟨hz,rfl,_⟩;cases hz;exact X2 h
theorem xjg(n m){d u A s Q}(hm:n<=m)(hk:k7 n d=true)(hr:jZ s.heap d u)(h:∀b,Q b s):wpAny (model prog w) A (hashByValue m u) Q E s:=by
 refine kzl (P:=λn u=>∀m Q,n<=m->(∀b,Q b s)->wpAny _ A (hashByValue m u) Q E s) ?_ (λn a us ht hi m Q hm h=>?_) n hk hr m Q hm h
 ·rintro n u (rfl|⟨i,t,rfl⟩|⟨i,t,rfl⟩) m Q _ h<;>(unfold hashByValue;exact X2 (h _))
 have ty:=ht.typeIs;obtain⟨ob,gz,cb,nn,jy⟩:=ht;cases m
 ·lia
 refine X0 (Z5 ty F.slot_tuple_hash.lookup (X0 (Zj gz jy (X0 ?_))));rw[<-Array.forIn_toList];refine Zi _ (λa8 r s'=>s'=s/\∀u∈a8,u∈us) _ ?_ ?_ _ _ ⟨rfl,λ_ h=>h⟩
 ·rintro v a8 r s' ⟨rfl,hu⟩;refine X0 (hi v (hu v X5) _ _ ⋯ λb=>?_);cases b
  ·exact X2 (X2 (h _))
  ·exact X2 ⟨rfl,λu h=>hu u (lc9 _ h)⟩
 ·rintro ⟨r1,r2⟩ s' ⟨rfl,_⟩;cases r1<;>exact X2 (h _)
theorem wzu:KX (trP prog w Pd):=⟨fun {_ _ k _} hk et=>⟨W4 (λb ob _ _ e c _=>et b ob e c) k.2 hk.1,hk.2⟩,fun {_ _ _ k _ _} hk h=>xjf 6 8 (by simp) k.2 hk.1 h⟩
theorem wzv:ByV (trP prog w Pd):=fun {_ _ _ k _ _} hk h=>xjg 6 8 (by simp) k.2 hk.1 h
theorem vwl{knd:HeapKind prog w Kd}:∀{vs ks},vs.Perm (ks.map λp=>Value.ref p.2)->∃dh:List (Kd×Addr),dh.Perm ks/\vs=dh.map λp=>Value.ref p.2:=by
 have:∀{vs' vs},vs.Perm vs'->∀ks,vs'=ks.map (λp=>Value.ref p.2)->∃dh:List (Kd×Addr),dh.Perm ks/\vs=dh.map λp=>Value.ref p.2:=by
  intro vs' vs h
  induction h with
  | nil=>intro ks e;exact⟨ks,.refl _,e⟩
  | cons x _ ih=>
   intro ks e;cases ks with
   | nil=>cases e
   | cons k ks=>
    injection e with e1 e2;obtain⟨dh,p1,p2⟩:=ih ks e2;exact⟨k::dh,p1.cons k,by rw[List.map_cons,p2,e1]⟩
  | swap x y l=>
   intro ks e;cases ks with
   | nil=>cases e
   | cons k ks=>
    cases ks with
    |nil=>cases e
    |cons k2 ks=>
     injection e with e1 e2;injection e2 with e2 e3;exact⟨k2::k::ks,.swap _ _ _,by rw[List.map_cons,List.map_cons,e1,e2,e3]⟩
  |trans _ _ ih1 ih2=>
   intro ks e;obtain⟨k1,p1,e1⟩:=ih2 ks e;obtain⟨k2,p2,e2⟩:=ih1 k1 e1;exact⟨k2,p2.trans p1,e2⟩
 intro vs ks h;exact this h ks rfl
theorem wxg{h}{ks:List (Kd×Addr)}(hk:∀p∈ks,jZ h p.1.1 (.ref p.2))(hf:∀p∈ks,QK p.1.1=true):TT h (ks.map λp=>Value.ref p.2) (ks.map λp=>p.1.1):=⟨by simp,λi v d e1 e2=>by
 rw[Xi]at e1 e2;cases hp:ks[i]? with
 | none=>rw[hp]at e1;cases e1
 | some p=>
  rw[hp]at e1 e2;cases oq9 e1;cases oq9 e2;have hm:=Xx hp;have f:=hf p hm;have c:=hk p hm;have k:=p.1.2;have g:∀d,QK d=true->jZ h d (.ref p.2)->k7 6 d=true->∃b x r,Value.ref p.2=.ref b/\d=.tup (.int x::r)/\jZ h d _/\k7 6 d=true:=λd f c k=>by
   match d,f with
   |.tup (.int x::r),_=>exact⟨_,x,r,rfl,rfl,c,k⟩
  exact g _ f c k⟩
theorem kxz(hu:A.units+60<cLine){a ls Q}(hh:A.handled=none)(hS:HasT (trP prog w Pd) s.heap a ls)(hc:Cmp (ls.map (·.1)))(hf:∀k∈ls,QK k.1=true)(hl:ls.length<=59)
  (h:∀h' (d) (tk l e) (as),(∀b o,s.heap.get? b=some o->h'.get? b=some o)->s.heap.objs.size<=l->h'.get? l=some (seqObj "list" (as.map Value.ref).toArray e)->F2 (λa d=>Pd d a) as (qW (ls.map (·.1)))->Q (.ref l) {s with heap:=h',drawn:=d,toks:=tk}):
  wpAny (model prog w) A (call (.builtin "sorted") [.ref a]) Q E s:=by
 obtain⟨o,es,ep,t,ks,ho,ok,hp⟩:=hS;have hsz:=ok.sz;have lq:ks.length=ls.length:=by rw[<-hp.length_eq,X4]
 refine Calls.call_function_entry kind_sorted plain_sorted entry_sorted (args_sorted1 _) ?_;refine X0 (m:=checkCount "sorted" 1 1 _) (X2 ?_);refine X0 (vqi (by simpa using hh) ho ⟨ok.ex.1,ok.d,ok.f,ok.led,ok.tb.pw,by rw[hsz,lq,Yo];lia⟩ λh1 d tk vs bv hsz1 hv=>?_);have hv:vs.Perm (ks.map λp=>Value.ref p.2):=by
  rw[ok.el,Xl]at hv;exact hv
 obtain⟨dh,p1,rfl⟩:=vwl (knd:=trP prog w Pd) hv;have ah:(dh.map λp=>Value.ref p.2).length=ls.length:=by rw[X4,p1.length_eq,lq]
 refine X0 (wpAny_newList ?_ (hsz:=by rw[ah,Yo];lia));have je:(h1.push (seqObj "list" (dh.map λp=>Value.ref p.2).toArray 0)).get? h1.objs.size=some (seqObj "list" (dh.map λp=>Value.ref p.2).toArray 0):=X6 _ rfl;have fe:(dh.map λp=>p.1.1).Perm (ls.map (·.1)):=by
  have:=((p1.map (·.1)).trans hp).map (·.1);rw[Xl]at this;exact this
 have hmem:=λp hpp=>hp.mem_iff.mp (List.mem_map.mpr ⟨p,p1.mem_iff.mp hpp,rfl⟩)
 have hcm:=λx hx y hy=>hc x (fe.mem_iff.mp hx) y (fe.mem_iff.mp hy)
 have rq:(ls.map (·.1)).Nodup:=by
  have n1:=hp.nodup_iff.mp ok.nd;exact List.pairwise_map.mpr (n1.imp λcw z=>cw (Subtype.ext z))
 have ju:=fe.nodup_iff.mpr rq;have his:=λp hpp=>ok.is p (p1.mem_iff.mp hpp)
 have up:∀b ob,s.heap.get? b=some ob->(h1.push (seqObj "list" (dh.map λp=>Value.ref p.2).toArray 0)).get? b=some ob:=λb ob e=>X1 _ (bv b ob e)
 have ht:=wxg (λp hpp=>W4 (λb ob _ _ e _ _=>up b ob e) p.1.2 (his p hpp).1) λp hpp=>hf _ (hmem p hpp)
 refine X0 (Xu (Xy slot_list_sort ⟨_,je,rfl⟩ entry_list_sort (kjv ⋯ je ht hcm ju (by rw[ah];lia) λp hpm hps=>⟨_,rfl,?_⟩) (args_list_sort _)));obtain⟨e,he⟩:=sortedHeap_at (out:=(p.map λi=>(dh.map λp=>Value.ref p.2).getD i .none).toArray) je;have ua:∀i∈p,i<dh.length:=λi hi=>by
  have:=List.mem_range.mp (hpm.mem_iff.mp hi);rw[X4]at this;exact this
 have ev:(p.map λi=>(dh.map λp=>Value.ref p.2).getD i .none)=(p.map λi=>(dh.map (·.2)).getD i 0).map Value.ref:=by
  rw[Xl];refine Yp λi hi=>?_
  have:=ua i hi;simp[this]
 rw[ev]at he;refine X2 ⟨_,rfl,h _ d tk _ e (p.map λi=>(dh.map (·.2)).getD i 0) (λb o q=>?_) (Nat.le_of_lt hsz1) (by rw[ev];exact he) ?_⟩
 ·have hb:=Xa (bv b o q);rw[sortedHeap_old (Xe hb) (by rw[size_push'];exact Y6 hb)];exact X1 _ (bv b o q)
 ·have e2:qW (ls.map (·.1))=p.map λi=>(dh.map λp=>p.1.1).getD i .non:=by
   rw[hps];exact(kql hc rq ((K6 _).trans fe) (jzt hcm ju)).symm
  rw[e2];refine vzo λi hi=>?_
  have hi:=ua i hi;have:=(his dh[i] (Y3 hi)).2
  simpa [hi]using this
end
end Tl
namespace Q
open PySem PySem.Spec PyProof.Rows L2 L3 Sw Tw Tl
theorem vvr{ds}(h:okT ds=true):(∀d∈ds,k7 6 d=true/\QK d=true)/\Cmp ds:=by
 unfold okT at h;rw[Bool.and_eq_true,Ym,Ym]at h;refine⟨λd hd=>by have:=h.1 d hd;rw[Bool.and_eq_true]at this;exact this,λa ha b hb=>?_⟩;have:=h.2 a ha;rw[Ym]at this;exact Option.isSome_iff_exists.mp (this b hb)
theorem wvr:∀{ds},(∀d∈ds,k7 6 d=true)->∃ss:List Kd,ss.map (·.1)=ds
 |[],_=>⟨[],rfl⟩
 |d::ds,h=>by
  obtain⟨ss,e⟩:=wvr λd hd=>h d (lc9 _ hd)
  exact⟨⟨d,h d X5⟩::ss,congrArg _ e⟩
theorem qzp:∀(ss ls:List Kd),(ss.foldl Tw.stepK ls).map (·.1)=(ss.map (·.1)).foldl z5 (ls.map (·.1))
 | [],_=>rfl
 | k::ss,ls=>by
  rw[Z4,List.map_cons,Z4,qzp ss];unfold Tw.stepK z5;have:k∈ls↔k.1∈ls.map _:=⟨λh=>List.mem_map.mpr ⟨k,h,rfl⟩,λh=>by
   obtain⟨k',h1,h2⟩:=aE h;rw[<-Subtype.ext h2];exact h1⟩
  by_cases c:k∈ls
  ·rw[X9 c,X9 (this.mp c)]
  ·rw[Xb c,Xb λz=>c (this.mpr z)];simp
theorem wwi(ss:List Kd):(ddK ss).map (·.1)=ddT (ss.map (·.1)):=qzp ss []
theorem kvi:∀(ds ls:List D) {d},d∈ds.foldl z5 ls->d∈ls\/d∈ds
 | [],ls,d,h=>.inl h
 | a::ds,ls,d,h=>by
  rcases kvi ds _ h with h|h
  ·unfold z5 at h
   split at h
   ·exact .inl h
   ·grind
  ·exact .inr (lc9 _ h)
section
variable {X:Cx}{Z:Fx0}{K:Frag}{q:Bool}{a:Ex}{e ea:Expr}{σ:L2.St}{H:Hp}{pos p p2 cu:Pos}{a7:LA9}{s:Shared}
theorem kz2:∀{as ds},F2 (λa d=>PuR K H d (V.ref a)) as ds->RepA K H true ds (as.map V.ref) []
 |_,_,.nil=>⟨rfl,rfl⟩
 |_,_,.cons h r=>by
  unfold RepA;exact⟨_,_,[],[],rfl,rfl,qw1 h,kz2 r⟩
theorem kxw(I:L2.Inv X a7 σ H s):∀{ds zs us bs},RepA X.K H true ds zs bs->Vals zs us->(∀d∈ds,k7 6 d=true/\QK d=true) ->
  us.length=ds.length/\∀(i:Nat) u,us[i]?=some u->∃b d,u=.ref b/\ds[i]?=some d/\jZ s.heap d (.ref b)/\PuR X.K H d (V.ref b)
 | [],_,_,_,r,v,_=>by
  obtain⟨rfl,_⟩:=r;cases v;exact⟨rfl,λi u h=>by simp at h⟩
 | d :: ds,_,_,_,r,v,hk=>by
  obtain⟨z,r',b1,b2,rfl,_,r1,r2⟩:=r;cases v with
  | cons h1 h2=>
   obtain⟨g1,g2⟩:=kxw I r2 h2 λd hd=>hk d (lc9 _ hd)
   obtain⟨k1,k2⟩:=hk d X5;have pu:=vve k1 r1;refine⟨by simp[g1],λi u' hu=>?_⟩;cases i with
   | zero=>
    cases oq9 hu;have cr:=qjt I pu h1
    match d,k2 with
    |.tup _,_=>
     have pu':=pu;obtain⟨a,xs,rfl,_,_⟩:=pu';cases h1;exact⟨a,_,rfl,rfl,cr,pu⟩
   |succ i=>exact g2 i u' (by simpa using hu)
noncomputable def wxx(K:Frag):List V->Hp->VK->Prop:=λxs H Q=>∃(p:Addr) (zs:List V) (ds:List D) (bs:List Addr),xs=[.ref p]/\SqL K H p zs/\RepA K H true ds zs bs/\(ddT ds).length<=59/\okT ds=true/\∀l pc,H l=none->RepA K H true (qW (ddT ds)) pc []->Q (.ref l) (upd H l (.lst pc))
theorem wqm{t}(hc:X.calm=true)(hu:X.A.units+64<cLine)(hg:Gl X "sorted")(hm:X.mg "sorted"=none)(mf:Gl X "set")(lh:X.mg "set"=none)(ha:PE X e t)(he:autoParam (starEach [e] X.env=(false,eval e X.env)::starEach [] X.env) Ŕ):
  PE X (.Call (.Name "sorted" p) [.Call (.Name "set" p2) [e] [] cu] [] pos) (fun σ H Q=>t σ H λv H1=>wxx X.K [v] H1 Q):=by
 intro a7 s σ H Q I h;refine Yx (zq I hg hm (u:=.builtin "sorted") (by decide +kernel) (PyProof.Rows.callWith_builtin1 ?_ rfl rfl) ⋯ ⋯);show wpAny _ _ (spliced ((false,eval (.Call (.Name "set" p2) [e] [] cu) X.env)::[])) _ _ s;refine Calls.spliced_cons (Yx (zq I mf lh (u:=.type "set") (by decide +kernel) (Y1 (thn (vw ha vQ he cu a7 s σ H (λvs H1=>wxx X.K vs H1 Q) I ?_) λus s1 hz=>?_) he rfl) ⋯ ⋯))
 ·exact h
 obtain⟨vs,H1,I1,r1,q1⟩:=hz;obtain⟨b,zs,ds,bs,rfl,hq,rA,hl,hok,q⟩:=q1;obtain⟨u,rfl,rx⟩:=x4 r1;cases rx;obtain⟨a9,r',pl,hz⟩:=I1.list hq;obtain⟨kf,cm⟩:=vvr hok;obtain⟨ln,at'⟩:=kxw I1 rA r' kf;obtain⟨ss,n8⟩:=wvr λd hd=>(kf d hd).1
 have fz:ss.length=ds.length:=by rw[<-n8,X4]
 have u1:=L3.in1_units X.A;have u2:=L3.in1_units X.A.in1;have u3:=L3.in1_units X.A.in1.in1;have t8:(ddK ss).map (·.1)=ddT ds:=by rw[wwi,n8]
 have ah:(ddK ss).length<=59:=by rw[<-X4 (f:=(·.1)),t8];exact hl
 refine vj2 (knd:=trP X.prog X.w λd a=>PuR X.K H1 d (V.ref a)) wzu wzv (show X.A.in1.in1.in1.units+40<cLine by lia) (I1.ok.hd hc) pl.isList (ss:=ss) (by rw[X8,ln,fz]) (λi v hv=>?_) ah λh' tk hS bv=>?_
 ·obtain⟨b',d,e1,e2,e3,e4⟩:=at' i v (by simpa using hv);have hi:i<ss.length:=by rw[fz];exact(List.getElem?_eq_some_iff.mp e2).1
  refine⟨b',ss[i],e1,X3 hi,?_⟩;have ed:(ss[i]).1=d:=by
   have:(ss.map (·.1))[i]?=some (ss[i]).1:=by rw[Xi,X3 hi];rfl
   rw[n8,e2]at this;exact(oq9 this).symm
  show jZ s1.heap (ss[i]).1 (.ref b')/\PuR X.K H1 (ss[i]).1 (V.ref b');rw[ed];exact⟨e3,e4⟩
 ·have sub:∀d∈ddT ds,d∈ds:=λd hd=>(kvi ds [] hd).elim (λz=>nomatch z) id
  refine Calls.spliced_nil (kxz ⋯ (I1.ok.hd hc) hS (by rw[t8];exact λx hx y hy=>cm x (sub x hx) y (sub y hy)) (λk hk=>(kf k.1 (sub k.1 (t8▸List.mem_map.mpr ⟨k,hk,rfl⟩))).2) ah λh2 d tk2 l e2 as ot ma hgl hF=>?_);rw[t8]at hF;have I2:L2.Inv X a7 σ H1 {s1 with heap:=h',toks:=tk}:=I1.kept λb u q=>bv b u (Xa q) q
  have jr:as.length<=sizeLine:=by
   have e3:=wwa hF;rw[(K6 _).length_eq,<-t8,X4]at e3;rw[Yo];lia
  exact⟨.ref l,_,Inv.dr (I2.laid (t':=tk2) (o:=.lst (as.map V.ref)) ot ma (⟨by rw[X4];exact jr,as.map Value.ref,e2,kqf as,hgl⟩)),rfl,q l (as.map V.ref) (I2.hok.fresh ma) (kz2 (K:=X.K) (H:=H1) hF)⟩
theorem wwr:Ad1 K (λv H Q=>wxx K [v] H Q) Wq:=by
 intro H x s Q ok hf k;unfold Wq at hf;dsimp only at hf;cases hx:x.d with
 | lst ds=>
  rw[hx]at hf;dsimp only at hf
  split at hf
  ·rename_i hcn;cases oq9 hf;obtain⟨l,xs,bs,ev,q3,r3,_⟩:=items ok (.inl hx);have q3:LsR K H l xs:=by rcases q3 with⟨_,z⟩|⟨z,_⟩;exact z;rw[hx]at z;cases z
   have r4:RepA K H true ds xs bs:=by
    cases ho:(x.o != .dp)with|true=>rw[ho]at r3;exact r3|false=>rw[ho]at r3;exact r3.wk
   exact⟨l,xs,ds,bs,by rw[ev],zQ q3,r4,hcn.1,hcn.2,λp pc hp rp=>k _ _ rfl rfl (J8 hp rp λb hb=>nomatch hb)⟩
  ·cases hf
 |_=>rw[hx]at hf;cases hf
end
section
variable {X:Cx}{Z:Fx0}{K:Frag}{q:Bool}{a:Ex}{e ea:Expr}{σ:L2.St}{H:Hp}{pos p p2 cu:Pos}{a7:LA9}{s:Shared}
theorem wz0(hK:X.K=Z.K)(hc:X.calm=true)(hu:X.A.units+64<cLine)(ha:QV X Z q a ea)(hm:X.mg "sorted"=none)(lh:X.mg "set"=none)(hg:autoParam (Gl X "sorted") Ŕ)(mf:autoParam (Gl X "set") Ŕ)(he:autoParam (starEach [ea] X.env=(false,eval ea X.env)::starEach [] X.env) Ŕ):
  QE X Z q (cF1 Wq a) (.Call (.Name "sorted" p) [.Call (.Name "set" p2) [ea] [] cu] [] pos):=
 kZ (wqm hc hu hg hm mf lh ha (he:=he)) fun σ H Q h=>by
  have:=WV wwr h
  rwa [hK]
noncomputable def rST(K:Frag):List V->Hp->VK->Prop:=λxs H Q=>∃(p:Addr) (zs:List V) (ds:List D) (bs:List Addr),xs=[.ref p]/\SqL K H p zs/\RepA K H true ds zs bs/\(ds.length<64/\okT ds=true/\ds.Nodup)/\∀l pc,H l=none->RepA K H true (qW ds) pc []->Q (.ref l) (upd H l (.lst pc))
theorem qv5(hu:X.A.units+64<cLine):CallR X (.builtin "sorted") (rST X.K):=by
 intro a7 s σ H xs us Q I r h;obtain⟨b,zs,ds,bs,rfl,hq,rA,⟨hl,hok,ju⟩,q⟩:=h;obtain⟨u,rfl,rx⟩:=x4 r;cases rx;obtain⟨a9,r',pl,hz⟩:=I.list hq;obtain⟨kf,cm⟩:=vvr hok;obtain⟨ln,at'⟩:=kxw I rA r' kf;refine Calls.call_function_entry kind_sorted plain_sorted entry_sorted (args_sorted1 _) ?_;refine X0 (m:=checkCount "sorted" 1 1 _) (X2 ?_);refine X0 (collect_list pl.isList ?_ (by rw[ln,Yo];lia));refine X0 (wpAny_newList ?_ (by rw[ln,Yo];lia));have hsz:((s.heap.push (seqObj "list" #[] 0)).update s.heap.objs.size (Obj.mapSeq (·++a9.toArray))).objs.size=s.heap.objs.size+1:=by
  rw [Heap.size_update,size_push']
 have je:(((s.heap.push (seqObj "list" #[] 0)).update s.heap.objs.size (Obj.mapSeq (·++a9.toArray))).push (seqObj "list" a9.toArray 0)).get? (s.heap.objs.size+1)=some (seqObj "list" a9.toArray 0):=by
  rw [<-hsz];exact X6 _ rfl
 have keep:∀b o,s.heap.get? b=some o->(((s.heap.push (seqObj "list" #[] 0)).update s.heap.objs.size (Obj.mapSeq (·++a9.toArray))).push (seqObj "list" a9.toArray 0)).get? b=some o:=λb o q=>by
  have ce:=Xa q;rw [Heap.get?_push_ne _ _ _ (by rw[hsz];exact Xe (Y6 ce)),Z1 _ _ _ _ (Xe ce),Heap.get?_push_ne _ _ _ (Xe ce)];exact q
 have qt:(((s.heap.push (seqObj "list" #[] 0)).update s.heap.objs.size (Obj.mapSeq (·++a9.toArray))).push (seqObj "list" a9.toArray 0)).objs.size=s.heap.objs.size+2:=by rw[Yv,hsz]
 rw [hsz];have ht:TT (((s.heap.push (seqObj "list" #[] 0)).update s.heap.objs.size (Obj.mapSeq (·++a9.toArray))).push (seqObj "list" a9.toArray 0)) a9 ds:=⟨ln,λi v d e1 e2=>by
  obtain⟨b,d',g1,g2,g3,g4⟩:=at' i v e1;rw [e2]at g2;cases oq9 g2;obtain⟨k1,k2⟩:=kf d (Xx e2);subst g1;have c:=W4 (λb ob _ _ e _ _=>keep b ob e) k1 g3
  match d,k2 with
  | .tup (.int x::rr),_=>exact⟨b,x,rr,rfl,rfl,c,k1⟩⟩
 refine X0 (Xu (Xy slot_list_sort ⟨_,je,rfl⟩ entry_list_sort (kjv ⋯ je ht cm ju (by rw[ln];exact hl) λp hpm hps=>⟨_,rfl,?_⟩) (args_list_sort _)));obtain⟨e,he⟩:=sortedHeap_at (out:=(p.map λi=>a9.getD i .none).toArray) je;have ua:∀i∈p,i<a9.length:=λi hi=>List.mem_range.mp (hpm.mem_iff.mp hi)
 obtain⟨as,ha1,ha2⟩:∃as:List Addr,a9=as.map Value.ref/\∀(i:Nat) b,as[i]?=some b->∃d,ds[i]?=some d/\PuR X.K H d (V.ref b):=by
  have:∀(us:List Value) (ds:List D),(∀(i:Nat) u,us[i]?=some u->∃b d,u=.ref b/\ds[i]?=some d/\jZ s.heap d (.ref b)/\PuR X.K H d (V.ref b))->∃as:List Addr,us=as.map Value.ref/\∀(i:Nat) b,as[i]?=some b->∃d,ds[i]?=some d/\PuR X.K H d (V.ref b):=by
   intro us
   induction us with
   | nil=>intro ds _;exact⟨[],rfl,λi b h=>by simp at h⟩
   | cons u us ih=>
    intro ds h;obtain⟨b,d,rfl,e2,_,e4⟩:=h 0 u rfl;cases ds with
    | nil=>simp at e2
    | cons d' ds=>
     obtain⟨as,e5,e6⟩:=ih ds λi u hu=>by simpa using h (i+1) u (by simpa using hu)
     refine⟨b::as,by rw[List.map_cons,e5],λi b' hb=>?_⟩;cases i with
     |zero=>
      cases oq9 hb;exact⟨d,e2,e4⟩
     |succ i=>simpa using e6 i b' (by simpa using hb)
  exact this a9 ds at'
 have gw:as.length=a9.length:=by rw[ha1,X4]
 have ev:(p.map λi=>a9.getD i .none)=(p.map λi=>as.getD i 0).map Value.ref:=by
  rw[Xl];refine Yp λi hi=>?_
  have:=ua i hi;rw[ha1];simp[show i<as.length by lia]
 rw[ev]at he;have hF:F2 (λa d=>PuR X.K H d (V.ref a)) (p.map λi=>as.getD i 0) (qW ds):=by
  rw[<-hps];refine vzo λi hi=>?_
  have hi:=ua i hi;have hi1:i<as.length:=⋯
  obtain⟨d,e1,e2⟩:=ha2 i as[i] (X3 hi1);have jt:=(List.getElem?_eq_some_iff.mp e1).1;rw[X3 jt]at e1;cases oq9 e1
  simpa [hi1,jt]using e2
 have ot:∀b o,s.heap.get? b=some o->(sortedHeap (((s.heap.push (seqObj "list" #[] 0)).update s.heap.objs.size (Obj.mapSeq (·++a9.toArray))).push (seqObj "list" a9.toArray 0)) (s.heap.objs.size+1) a9 (p.map λi=>a9.getD i .none).toArray).get? b=some o:=λb o q=>by
  have hb:=Xa q;rw[sortedHeap_old (Xe (Y6 hb)) (by rw[qt];exact Y6 (Y6 hb))];exact keep b o q
 refine X2 ⟨_,rfl,⟨.ref (s.heap.objs.size+1),_,I.laid (t':=s.toks) (o:=.lst ((p.map λi=>as.getD i 0).map V.ref)) ot (Z8 _) ?_,rfl,q _ _ (I.hok.fresh (Z8 _)) (kz2 hF)⟩⟩;refine⟨?_,(p.map λi=>as.getD i 0).map Value.ref,e,kqf _,by rw[ev];exact he⟩;rw[X4,X4,hpm.length_eq,Y5,ln,Yo];lia
theorem xjk:Ad1 K (λv H Q=>rST K [v] H Q) kx2:=by
 intro H x s Q ok hf k;unfold kx2 at hf;dsimp only at hf;cases hx:x.d with
 | lst ds=>
  rw[hx]at hf;dsimp only at hf
  split at hf
  ·rename_i hcn;cases oq9 hf;obtain⟨l,xs,bs,ev,q3,r3,_⟩:=items ok (.inl hx);have q3:LsR K H l xs:=by rcases q3 with⟨_,z⟩|⟨z,_⟩;exact z;rw[hx]at z;cases z
   have r4:RepA K H true ds xs bs:=by
    cases ho:(x.o != .dp)with|true=>rw[ho]at r3;exact r3|false=>rw[ho]at r3;exact r3.wk
   exact⟨l,xs,ds,bs,by rw[ev],zQ q3,r4,hcn,λp pc hp rp=>k _ _ rfl rfl (J8 hp rp λb hb=>nomatch hb)⟩
  ·cases hf
 |_=>rw[hx]at hf;cases hf
theorem vj8(hu:X.A.units+64<cLine) K (hK:autoParam (X.K=K) Ŕ):CallR X (.builtin "sorted") (rST K):=by subst hK;exact qv5 hu
end
end Q
namespace Q
open PySem PySem.Spec PyProof.Rows L2 L3
section
variable {X:Cx}{Z:Fx0}{pn:List Nat}{t:Tg}{B:Sm}{ss:List Stmt}{e1 e2:Expr}{bw:List Expr}{k1:Nat}{p pos f8 rn:Pos}{i j:Nat}
theorem vvv{E σ}{L} j (m:Mt E σ L):Mt (E.set j none) σ (L.set j none):=Mt.clr (R:=[j]) m
theorem qx7{x E σ L i}(m:Mt E σ L)(hs:σ[i]?=some (some x.v)):Mt (E.set i (some (x.o,x.d))) σ (L.set i (some x)):=by
 have:=m.set (x:=x) i;rw[Kq hs]at this;exact this
theorem qk9{K H}{x:Sl}{ds}(ok:x.ok K H)(hd:x.d=.lst ds)(hp:D.pures ds=true):∃l,x.v=.ref l/\∃xs,SqL K H l xs/\RepA K H true ds xs []:=by
 obtain⟨l,xs,bs,ev,q3,r3,_⟩:=items ok (.inl hd);have q3:LsR K H l xs:=by rcases q3 with⟨_,z⟩|⟨z,_⟩;exact z;rw[hd]at z;cases z
 have r4:RepA K H true ds xs bs:=by
  cases ho:(x.o != .dp)with|true=>rw[ho]at r3;exact r3|false=>rw[ho]at r3;exact r3.wk
 exact⟨l,ev,xs,zQ q3,(RepA.pu (g':=true) r4 hp).2⟩
theorem qjf{H L L'}(h:∀x,some x∈L'->some x∈L):Step H L H L':=⟨λ_ _ e _=>e,λa ha=>by
 obtain⟨x,hx,sy⟩:=mem_owned.mp ha;exact .inl (mem_owned.mpr ⟨x,h x hx,sy⟩),λa ha=>by
 obtain⟨x,hx,sy⟩:=mem_frozen.mp ha;exact .inl (mem_frozen.mpr ⟨x,h x hx,sy⟩)⟩
theorem vkv{L:Ls}{i j y1 y2 x}(h:some x∈(L.set i (some y1)).set j (some y2)):some x∈L++[some y1,some y2]:=by
 rcases List.mem_or_eq_of_mem_set h with h|h
 ·grind
 ·grind
theorem XY{σ σ' i j}(h:Pn (i::j::pn) σ σ'):Pn pn σ σ':=λp hp=>h p (lc9 _ (lc9 _ hp))
theorem qq0{K H L}{y1 y2:Sl}(w:World K H (L++[some y1,some y2]))(i j):World K H ((L.set i (some y1)).set j (some y2)):=by
 have w3:World K H ((some y2::L).set (i+1) _):=World.set ((World.comm w));exact World.set (w3)
theorem wkz (hp:PassesOwn (model X.prog X.w) X.A X.env X.xe) (hc:X.calm=true) (dl:PE X e1 (xW i)) (gm:PE X e2 (xW j)) (hgz:Gl X "zip") (hmz:X.mg "zip"=none) (hg:QG X Z (i::j::pn) t (.Tuple bw k1 f8)) (hb:QSs X Z (i::j::pn) B ss) (hK:autoParam (X.K=Z.K) Ŕ)
  (hs:autoParam (starEach [e1,e2] X.env=[(false,eval e1 X.env),(false,eval e2 X.env)]) Ŕ) (jh:autoParam (starEach [e2] X.env=[(false,eval e2 X.env)]) Ŕ) (nk:autoParam (starEach [e1,e2] X.env=(false,eval e1 X.env)::starEach [e2] X.env) Ŕ)
  (hsf:autoParam (∀ x,foldedSetIterable (.Call (.Name "zip" p) [e1,e2] [] rn) X.env x=pure x) Ŗ):
  QS X Z pn (qvx i j t B) (.For (.Tuple bw k1 f8) (.Call (.Name "zip" p) [e1,e2] [] rn) ss [] pos):=zZ (vvf hp hc (wqg Z.K hgz hmz (vw dl (vw gm vQ jh) nk) hK hs jh) hg hb hsf) λDn σ H aj=>ex7 aj λE L r m w hr k=>by
 unfold qvx at hr;cases hE1:E[i]? with
 | none=>rw[hE1]at hr;cases hr
 | some s1=>
 cases s1 with
 | none=>rw[hE1]at hr;cases hr
 | some s1=>
 obtain ⟨o1,d1⟩:=s1;cases hE2:E[j]? with
 | none=>rw[hE1,hE2]at hr;cases d1<;>cases hr
 | some s2=>
 cases s2 with
 | none=>rw[hE1,hE2]at hr;cases d1<;>cases hr
 | some s2=>
 obtain ⟨o2,d2⟩:=s2;cases d1 with
 | lst a =>
  cases d2 with
  | lst b=>
   rw [hE1,hE2]at hr;dsimp only at hr
   by_cases hcn:i≠j/\a.length<=big/\D.pures a=true/\D.pures b=true
   ·rw [X9 hcn]at hr;obtain⟨mi,gw,hpa,hpb⟩:=hcn;obtain⟨y1,a1,a2,a3,a4⟩:=m.get hE1;obtain⟨y2,b1,b2,b3,b4⟩:=m.get hE2;have b1':(L.set i none)[j]?=some (some y2):=by rw[Yy mi];exact b1
    have pm:(none::none::L).Perm (((L.set i none).set j none)++[some y1,some y2]):=by
     exact((jw0 a1).cons none).trans ((List.Perm.swap _ _ _).trans (((jw0 b1').cons (some y1)).trans ((Ze (l₁:=[some y1,some y2])).trans (.refl _))))
    have wn:World Z.K H (none::none::L):=⟨λy hy=>w.ok y (by simpa using hy),by simpa using w.nd,by simpa using w.ds⟩;have wT:World Z.K H (((L.set i none).set j none)++[some y1,some y2]):=wn.perm pm;have stT:Step H L H (((L.set i none).set j none)++[some y1,some y2]):=qjf λx hx=>by
     have:=pm.mem_iff.mpr hx
     simpa using this
    have mT:Mt ((E.set i none).set j none) σ ((L.set i none).set j none):=vvv j (vvv i m);cases hf:wV t B (qv a b) ((E.set i none).set j none)with
    | none=>rw[hf]at hr;cases hr
    | some r'=>
     rw [hf]at hr;obtain⟨l1,ev1,_⟩:=qk9 (w.ok y1 (vz a1)) a3 hpa;obtain⟨l2,pi,_⟩:=qk9 (w.ok y2 (vz b1)) b3 hpb;have ij:∀{H2 L2},World Z.K H2 (L2++[some y1,some y2])->∃xs,SqL Z.K H2 l1 xs/\RepA Z.K H2 true a xs []:=λw2=>by
      obtain⟨l,e,h⟩:=qk9 (w2.ok y1 (lr9 _ (by simp))) a3 hpa;rw [ev1]at e;cases e;exact h
     have at2:∀{H2 L2},World Z.K H2 (L2++[some y1,some y2])->∃xs,SqL Z.K H2 l2 xs/\RepA Z.K H2 true b xs []:=λw2=>by
      obtain⟨l,e,h⟩:=qk9 (w2.ok y2 (lr9 _ (by simp))) b3 hpb;rw [pi]at e;cases e;exact h
     obtain⟨xs0,s0,_⟩:=ij wT;obtain⟨ys0,s0',_⟩:=at2 wT;refine⟨y1.v,a4,y2.v,b4,l1,l2,by rw[ev1,pi],⟨xs0,s0⟩,⟨ys0,s0'⟩,?_⟩;have hz:(qv a b).length<=sizeLine:=by
      rw [jzs];have:big=sizeLine:=rfl;omega
     refine⟨λn c σ1 H1=>∃E1 L1,Mt E1 σ1 L1/\World Z.K H1 (L1++[some y1,some y2])/\Step H L H1 (L1++[some y1,some y2])/\Pn (i::j::pn) σ σ1/\wV t B ((qv a b).drop n) E1=some r'/\n<=(qv a b).length/\c=(qv a b).length - n,⟨_,_,_,mT,wT,stT,Pn.refl,hf,Yf _,rfl⟩,?_⟩;rintro n c σ1 H1 ⟨E1,L1,m1,w1,ir,p1,f1,hi,rfl⟩;have fin:∀{g σ2 H2 L2},some g=some r'->Step H L H2 (L2++[some y1,some y2])->Pn (i::j::pn) σ σ2->World Z.K H2 (L2++[some y1,some y2])->(∀E',g≠.nx E')->FlP Z (i::j::pn) Dn σ2 H2 L2 g:=fun {g σ2 H2 L2} e s p wq hn=>by
      have e':r'=g:=(oq9 e).symm;subst e';have hr':r=r':=by
       cases r' with| nx E'=>grind| ct E'=>exact(oq9 hr).symm| bk E'=>exact(oq9 hr).symm| rt E' x=>exact(oq9 hr).symm| xc E' c=>exact(oq9 hr).symm
      rw [hr']at k;have k2:=k.step (s.trans Step.dropT) (XY p);cases r' with| nx E'=>exact absurd rfl (hn E')| ct E'=>exact fun σ' L' H' p'=>k2 σ' L' H' (XY p')| bk E'=>exact fun σ' L' H' p'=>k2 σ' L' H' (XY p')| rt E' x=>exact λy σ' L' H' e1 e2 p'=>k2 y σ' L' H' e1 e2 (XY p')| xc E' c=>exact λC σ' L' H' hm p'=>k2 C σ' L' H' hm (XY p')
     have done:∀{E' σ2 H2 L2},some (Fl.nx E')=some r'->Mt E' σ2 L2->Step H L H2 (L2++[some y1,some y2])->Pn (i::j::pn) σ σ2->World Z.K H2 (L2++[some y1,some y2])->Dn.nx σ2 H2:=fun {E' σ2 H2 L2} e m2 s p wq=>by
      cases oq9 e;cases oq9 hr;have q1:σ2[i]?=some (some y1.v):=(p i (by simp)).trans a4;have q2:σ2[j]?=some (some y2.v):=(p j (by simp)).trans b4;have mm:=qx7 (x:=y2) (i:=j) (qx7 (x:=y1) (i:=i) m2 q1) q2;rw [a2,a3,b2,b3]at mm;exact k σ2 _ H2 (XY p) mm (qq0 wq i j) (s.trans (qjf λx hx=>vkv hx))
     by_cases ce:n<(qv a b).length
     ·have hd:(qv a b).drop n=(qv a b)[n]::(qv a b).drop (n+1):=List.drop_eq_getElem_cons ce;rw [hd]at f1;unfold wV at f1;cases bm:t.put (qv a b)[n] E1 with
      | none=>rw[bm]at f1;cases f1
      | some E2=>
       rw[bm]at f1;dsimp only at f1;obtain⟨xs,q3,r3⟩:=ij w1;obtain⟨ys,q4,r4⟩:=at2 w1;have fj:=r3.len;have ma:=r4.len;have hlz:=ce;rw[jzs]at hlz;refine .inr ⟨⟨xs,ys,xs[n]'(by omega),ys[n]'(by omega),q3,q4,X3 (by omega),X3 (by omega)⟩,fun σ2 H2=>∃E2 L2,Mt E2 σ2 L2/\World Z.K H2 (L2++[some y1,some y2])/\Step H L H2 (L2++[some y1,some y2])/\Pn (i::j::pn) σ σ2/\wV t B ((qv a b).drop (n+1)) E2=some r',fun σ2 H2 ⟨E2,L2,c1,c2,c3,c4,c5⟩=>⟨(qv a b).length - (n+1),by omega,E2,L2,c1,c2,c3,c4,c5,ce,rfl⟩,λv H2 hy=>?_⟩;obtain⟨T,x',y',hT,rfl,rfl,g1,g2⟩:=hy;have jl:a[n]?=some (a[n]'(by omega)):=X3 (by omega);have nu:b[n]?=some (b[n]'(by omega)):=X3 (by omega);obtain⟨vx,cx,ex,rx,zx⟩:=RepA.get r3 jl;obtain⟨vy,cy,ey,ry,zy⟩:=RepA.get r4 nu;rw[(g1 xs q3)]at ex;rw[(g2 ys q4)]at ey;cases oq9 ex;cases oq9 ey;have cx0:cx=[]:=List.eq_nil_iff_forall_not_mem.mpr λb hb=>nomatch zx b hb
       have cy0:cy=[]:=List.eq_nil_iff_forall_not_mem.mpr λb hb=>nomatch zy b hb
       subst cx0 cy0;have hzn:(qv a b)[n]=.tup [a[n]'(by omega),b[n]'(by omega)]:=by
        have:=qj6 a b n;rw[jl,nu,X3 ce]at this;exact oq9 this
       have sm:jY H1 (upd H1 T (.tup [x',y'])):=vJ hT;have wz:World Z.K (upd H1 T (.tup [x',y'])) ((some ⟨.no,.tup [a[n]'(by omega),b[n]'(by omega)],.ref T,[]⟩::L1)++[some y1,some y2]):=by
        have w2:World Z.K (upd H1 T (.tup [x',y'])) (L1++[some y1,some y2]):=⟨λx hx=>RepO.kp (w1.ok x hx) (Kp.of_same sm),w1.nd,w1.ds⟩;exact World.consPu (x:=⟨.no,.tup [a[n]'(by omega),b[n]'(by omega)],.ref T,[]⟩) w2 (show RepL Z.K _ true _ _ _ from kqs hT rx ry) rfl
       have sz:Step H1 (L1++[some y1,some y2]) (upd H1 T (.tup [x',y'])) ((some ⟨.no,.tup [a[n]'(by omega),b[n]'(by omega)],.ref T,[]⟩::L1)++[some y1,some y2]):=⟨λc ob e _=>sm c ob e,λc hc=>.inl (by simpa [Sl.own]using hc),λc hc=>.inl (by simpa [Sl.frz]using hc)⟩;refine⟨E1,L1,⟨.no,.tup [a[n]'(by omega),b[n]'(by omega)],.ref T,[]⟩,E2,m1,wz.left,rfl,rfl,by rw[<-hzn];exact bm,fun σ2 L2 p2 m2 w2 bu=>?_⟩;obtain⟨w3,dg⟩:=stay wz bu w2;have fy:Step H L _ (L2++[some y1,some y2]):=ir.trans (sz.trans dg);cases hB:B E2 with
       | none=>rw[hB]at f1;cases f1
       | some g=>
        rw[hB]at f1;refine⟨E2,L2,g,m2,w2,hB,?_⟩;cases g with
        |nx E3=>
         intro σ3 L3 H3 p3 m3 w4 s3;obtain⟨w5,s5⟩:=stay w3 s3 w4;exact⟨E3,L3,m3,w5,fy.trans s5,(p1.trans p2).trans p3,f1⟩
        |ct E3=>
         intro σ3 L3 H3 p3 m3 w4 s3;obtain⟨w5,s5⟩:=stay w3 s3 w4;exact⟨E3,L3,m3,w5,fy.trans s5,(p1.trans p2).trans p3,f1⟩
        |bk E3=>
         intro σ3 L3 H3 p3 m3 w4 s3;obtain⟨w5,s5⟩:=stay w3 s3 w4;exact done f1 m3 (fy.trans s5) ((p1.trans p2).trans p3) w5
        |rt E3 x=>exact fin f1 fy (p1.trans p2) w3 λ_ z=>by cases z|xc E3 c=>exact fin f1 fy (p1.trans p2) w3 λ_ z=>by cases z
     ·have e:n=(qv a b).length:=by omega
      subst e;rw[List.drop_length]at f1;obtain⟨xs,q3,r3⟩:=ij w1;obtain⟨ys,q4,r4⟩:=at2 w1;have fj:=r3.len;have ma:=r4.len;refine .inl ⟨⟨xs,ys,q3,q4,by rw[jzs];omega⟩,done f1 m1 ir p1 w1⟩
   ·rw[Xb hcn]at hr;cases hr
  |_=>rw[hE1,hE2]at hr;cases hr
 |_=>rw[hE1,hE2]at hr;cases d2<;>cases hr
end
end Q
namespace Q
open PySem
theorem wvc n (h:300<=n):10 ^ 70<2 ^ n:=Xn (show 10 ^ 70<2 ^ 240 by decide) (Nat.pow_le_pow_right ⋯ ⋯)
theorem mul_l{o1 o2 a b}(h1:-18446744073709551616<a)(h2:a<18446744073709551616):ZV (o1,.int a) (o2,.int b)=some (.dp,.int (a*b)):=by
 have:Wj a b=true:=by
  have:qvu a=true:=by unfold qvu;rw[Xg (show -_<a by lia),Xg (show a<2 ^ 64 by lia)];rfl
  unfold Wj;rw[this];rfl
 show(if Wj a b=true then _ else _)=_;rw[X9 this]
theorem add_i{o1 o2:Own}{a b:Int}:jK (o1,.int a) (o2,.int b)=some (.dp,.int (a+b)):=rfl
theorem sub_i{a b:Int}:YJ (.int a) (.int b)=some (.int (a - b)):=rfl
theorem div_i{a b}(h:0<b)(h2:b<10 ^ 70):x3 (.int a) (.int b)=some (.int (a / b)):=by
 have hb:b.natAbs.log2<9000:=by
  exact(Nat.log2_lt ⋯).mpr (Nat.lt_trans (show b.natAbs<10 ^ 70 by lia) (wvc 9000 (by simp)))
 show(if 0<b/\b.natAbs.log2<9000 then some _ else none).map _=_;rw[X9 ⟨h,hb⟩];rfl
theorem mod_i{a b}(h:0<b):kJ (.int a) (.int b)=some (.int (a % b)):=by
 show(if 0<b then some _ else none).map _=_;rw[X9 h];rfl
theorem W0{a b}:fEq (.int a) (.int b)=some (.bl (a==b)):=rfl
theorem lt_ii{a b}:fLt (.int a) (.int b)=some (.bl (decide (a<b))):=rfl
theorem gt_ii{a b:Int}:fGt (.int a) (.int b)=some (.bl (decide (b<a))):=rfl
theorem le_ii{a b}:fLe (.int a) (.int b)=some (.bl (decide (a<=b))):=rfl
theorem ge_ii{a b:Int}:fGe (.int a) (.int b)=some (.bl (decide (b<=a))):=rfl
theorem xJ{xs i d}(h0:0<=i)(h:xs[i.toNat]?=some d):jJ (.lst xs) (.int i)=some d:=by
 show((ixN xs.length i).bind λj=>xs[j]?)=some d;have hl:=(List.getElem?_eq_some_iff.mp h).1;unfold ixN
 rwa [X9 h0,X9 ⋯]
theorem ix_t{xs i d}(h0:0<=i)(h:xs[i.toNat]?=some d):jJ (.tup xs) (.int i)=some d:=by
 show((ixN xs.length i).bind λj=>xs[j]?)=some d;have hl:=(List.getElem?_eq_some_iff.mp h).1;unfold ixN
 rwa [X9 h0,X9 ⋯]
theorem len_l{xs:List D}:qZ (.lst xs)=some (.int xs.length):=rfl
theorem len_t{xs:List D}:qZ (.tup xs)=some (.int xs.length):=rfl
theorem YZ{o1 o2 a b}(h1:o1≠.dp)(h2:o2≠.dp)(hl:a.length+b.length<10000):jK (o1,.lst a) (o2,.lst b)=some (.rt,.lst (a++b)):=by
 show(if a.length+b.length<=big/\qz _/\qz _ then _ else _)=_;rw[X9 ⟨by unfold big;lia,by cases o1<;>simp_all [qz],by cases o2<;>simp_all [qz]⟩]
theorem tup_l{o xs}(h:o≠.dp):xz (o,.lst xs)=some (.no,.tup xs):=by
 show(if qz _ then _ else _)=_;rw[X9 (by cases o<;>simp_all [qz])]
abbrev XP:=Str->Prop
theorem nd{α}{a b:α}(h:a=b):a=b:=h
@[irreducible] noncomputable def Eo {α:Type} (m:Option (Res α)) (P:En->α->Prop) (X:XP):Prop:=match m with
 |some (.ok E a)=>P E a|some (.exc _ c)=>X c|none=>False
@[irreducible] noncomputable def Vo {α:Type} (m:Option α) (P:α->Prop):Prop:=match m with
 |some a=>P a|none=>False
@[irreducible] noncomputable def Oo (f:Fn) (xs:List Sd) (P:Sd->Prop) (X:XP):Prop:=match f xs with
 |some (.ok _ y)=>P y|some (.exc _ c)=>X c|none=>False
@[irreducible] noncomputable def Po (r:Option Fl) (N C:En->Prop) (R:Sd->Prop) (X:XP):Prop:=match r with
 |some (.nx E)=>N E|some (.ct E)=>C E|some (.rt _ x)=>R x|some (.xc _ c)=>X c|_=>False
abbrev noX:XP:=λ_=>False
section
variable {α β:Type}{P:En->α->Prop}{X:XP}{N C:En->Prop}{R:Sd->Prop}{E:En}
theorem qzl{a}:Eo (some (.ok E a)) P X=P E a:=nd (by ac_rfl)
theorem k4{m}{f:En->β->Option _}:Eo (bnd m f) P X=Eo m (λE a=>Eo (f E a) P X) X:=by
 cases m with|none=>ac_rfl|some r=>cases r<;>ac_rfl
theorem vo_some{a}{P:α->Prop}:Vo (some a) P=P a:=nd (by ac_rfl)
theorem vo_map{x}{f:β->α}{P}:Vo (x.map f) P=Vo x (λa=>P (f a)):=by cases x<;>ac_rfl
theorem z3{x}:Eo (val E x) P X=Vo x (P E):=by cases x<;>ac_rfl
theorem vkf{E}:Po (some (.nx E)) N C R X=N E:=nd (by ac_rfl)
theorem zX{m}{f:En->α->Option Fl}:Po (ofE m f) N C R X=Eo m (λE a=>Po (f E a) N C R X) X:=by
 cases m with|none=>ac_rfl|some r=>cases r<;>ac_rfl
theorem vvj{a b}:Po (j5 a b E) N C R X=Po (a E) (λE=>Po (b E) N C R X) C R X:=by
 unfold j5 Po;cases a E with|none=>ac_rfl|some r=>cases r<;>ac_rfl
theorem wqf{x:Option β}{f:β->Fl}:Po (x.map f) N C R X=Vo x (λa=>Po (some (f a)) N C R X):=by cases x<;>ac_rfl
theorem Eo.mono{m P'}(h:Eo m P X)(k:∀E a,P E a->P' E a):Eo m P' X:=by
 cases m with
 |none=>exists h
 |some r=>cases r with|ok E a=>exists k E a h|exc E c=>exists h
theorem Oo.mono{f xs P P'}(h:Oo f xs P X)(k:∀y,P y->P' y):Oo f xs P' X:=by
 unfold Oo at h ⊢;cases hf:f xs with
 |none=>simp_all
 |some r=>rw[hf]at h;cases r with|ok E a=>exists k a h|exc E c=>simp_all
theorem Oo.out{f xs P}(h:Oo f xs P noX):∃E y,f xs=some (.ok E y)/\P y:=by
 unfold Oo at h;cases hf:f xs with
 |none=>simp_all
 |some r=>rw[hf]at h;cases r with|ok E a=>with_unfolding_all exact⟨E,a,rfl,h⟩|exc E c=>exists (h).elim
theorem k8{n b xs P}(h:Po (b (xs.map some++List.replicate (n - xs.length) none)) (λ_=>P (.dp,.non)) (λ_=>False) P X):Oo (fn n b) xs P X:=by
 unfold Oo fn;unfold Po at h;cases hb:b _ with|none=>simp_all|some r=>rw[hb]at h;cases r<;>exists h
theorem vzp{f cs P}:Eo (jw f cs E) P X=Eo (vW cs E) (λE xs=>Oo f (letAll xs) (P E) X) X:=by
 unfold jw;rw[k4]
 congr 1
 funext E xs;unfold Oo;cases f _ with|none=>ac_rfl|some r=>cases r<;>ac_rfl
theorem vqc{f:Fn}{cs:List Ex}{P:En->Sd->Prop}:Eo (kxg f cs E) P X=Eo (vW cs E) (λE xs=>Oo f (letAll xs) (λy=>y.2.pure=true/\P E (.dp,y.2)) X) X:=by
 unfold kxg;rw[k4]
 congr 1
 funext E xs;unfold Oo;cases f _ with
 | none=>ac_rfl
 | some r=>
  cases r with
  |exc=>ac_rfl
  |ok E1 y=>
   dsimp only
   by_cases hp:y.2.pure=true
   ·rw[X9 hp];with_unfolding_all exact propext ⟨λh=>⟨hp,h⟩,λh=>h.2⟩
   ·rw[Xb hp];with_unfolding_all exact propext ⟨λh=>(h).elim,λh=>hp h.1⟩
noncomputable def xkg(d:D){α:Type}(a b:Option α):Option α:=match d with
 |.bl k=>if k=true then a else b|_=>none
theorem wj2(a b:Ex):VQ a b E=bnd (a E) λE x=>xkg x.2 (b E) (some (.ok E (.dp,.bl false))):=by
 unfold VQ xkg
 congr 1
 funext E x;cases x.2 with|bl k=>cases k<;>ac_rfl|_=>ac_rfl
theorem kqw{tg b}(I:En->List D->Prop)(hs:∀E d ds,I E (d::ds)->Vo (tg.put d E) λE1=>Po (b E1) (λE2=>I E2 ds) (λE2=>I E2 ds) R X)(h1:∀E,I E []->N E):∀ds E,I E ds->Po (wV tg b ds E) N C R X
 | [],E,h=>by exists h1 E h
 | d::ds,E,h=>by
  have h2:=hs E d ds h;unfold wV;cases hp:tg.put d E with
  | none=>rw[hp]at h2;exists (h2).elim
  | some E1=>
   rw[hp]at h2;have h2:Po (b E1) (λE2=>I E2 ds) (λE2=>I E2 ds) R X:=by exists h2
   dsimp only;cases hb:b E1 with
   |none=>rw[hb]at h2;exists (h2).elim
   |some r=>
    rw[hb]at h2;cases r with|nx E2=>exists kqw I hs h1 ds E2 h2|ct E2=>exists kqw I hs h1 ds E2 h2|rt E2 x=>exists h2|xc E2 c=>exists h2|bk E2=>exists (h2).elim
theorem v3{it tg}{b} I (h0:Eo (it E) I X)(hs:∀E d ds,I E (d::ds)->Vo (tg.put d E) λE1=>Po (b E1) (λE2=>I E2 ds) (λE2=>I E2 ds) R X)(h1:∀E,I E []->N E):Po (qw it tg b E) N C R X:=by
 show Po (ofE _ λE ds=>wV tg b ds E) N C R X;rw[zX]
 exists h0.mono λE ds h=>kqw I hs h1 ds E h
theorem qzm{tg t c P}(J:En->List D->List Sd->Prop)(hs:∀B d ds af,J B (d::ds) af->Vo (tg.put d B) λB1=>Eo (t B1) (λB2 k=>if k=true then Eo (c B2) (λB3 y=>J B3 ds (af++[y])) X else J B2 ds af) X)(h1:∀B af,J B [] af->P B af):∀ds B af,J B ds af->Eo (lcL tg t c ds B af) P X
 | [],B,af,h=>by exists h1 B af h
 | d::ds,B,af,h=>by
  have h2:=hs B d ds af h;unfold lcL;cases hp:tg.put d B with
  | none=>rw[hp]at h2;exists (h2).elim
  | some B1=>
   rw[hp]at h2;have h2:Eo (t B1) (λB2 k=>if k=true then Eo (c B2) (λB3 y=>J B3 ds (af++[y])) X else J B2 ds af) X:=by exists h2
   rw[k4];refine h2.mono λB2 k h3=>?_
   cases k with
   |false=>exists qzm J hs h1 ds B2 af h3
   |true=>
    show Eo (bnd _ _) P X;rw[k4]
    exists Eo.mono h3 λB3 y h4=>qzm J hs h1 ds B3 _ h4
theorem Vq{o k r it tg t c P}(J:En->En->List D->List Sd->Prop)(h0:Eo (it E) (λE1 ds=>J E1 (Q2 k r E1) ds []) X)
  (hs:∀E1 B d ds af,J E1 B (d::ds) af->Vo (tg.put d B) λB1=>Eo (t B1) (λB2 k=>if k=true then Eo (c B2) (λB3 y=>J E1 B3 ds (af++[y])) X else J E1 B2 ds af) X) (h1:∀E1 B af,J E1 B [] af->Eo (mkL o (JZ k r B E1) af) P X):Eo (cLC o k r it tg t c E) P X:=by
 unfold cLC;rw[k4];refine h0.mono λE1 ds hJ=>?_
 have:=qzm _ (hs E1) (h1 E1) ds _ _ hJ;cases hl:lcL tg t c ds _ []with|none=>rw[hl]at this;exists (this).elim|some q=>rw[hl]at this;cases q<;>exists this
end
theorem mulT_i{o1 a y}:zj (o1,.int a) y=ZV (o1,.int a) y:=by
 unfold zj;ac_rfl
noncomputable def sl(q:Option (Option Sd)):Option Sd:=match q with
 |some (some x)=>some x|_=>none
theorem sl_some{x}:sl (some (some x))=some x:=nd (by ac_rfl)
noncomputable def xkf(d:D)(a b:Prop):Prop:=match d with
 |.bl k=>if k=true then a else b|_=>False
theorem andP_bl{k a b}:xkf (.bl k) a b=if k=true then a else b:=nd (by ac_rfl)
noncomputable def Wo{α:Type}(m:Option α)(E:En)(P:En->α->Prop):Prop:=Vo m (P E)
theorem wo_some{α a E}{P:En->α->Prop}:Wo (some a) E P=P E a:=vo_some
theorem wo_map{α β x}{f:β->α}{E P}:Wo (x.map f) E P=Wo x E (λE a=>P E (f a)):=vo_map
noncomputable def Oe(f:Fn)(xs:List Sd)(E:En)(P:En->Sd->Prop)(X:XP):Prop:=Oo f xs (P E) X
noncomputable def intP(d:D)(P:Int->Prop):Prop:=match d with
 |.int i=>P i|_=>False
def Ie(d:D)(E:En)(P:En->Int->Prop):Prop:=intP d (P E)
theorem ie_i{i E P}:Ie (.int i) E P=P E i:=nd (by ac_rfl)
section
variable {P:En->Sd->Prop}{T:En->Bool->Prop}{X:XP}{N C:En->Prop}{R:Sd->Prop}{E:En}{e:Option Sd}{a b c:Ex}{t u:Ts}{i:Nat}
theorem w_seq{a b}:Po (j5 a b (e::E)) N C R X=Po (a (e::E)) (λE=>Po (b E) N C R X) C R X:=vvj
theorem w_asg:Po (jk i c (e::E)) N C R X=Eo (c (e::E)) (λE x=>N (E.set i (some x))) X:=by unfold jk;rw[zX];ac_rfl
theorem w_ret:Po (jQ c (e::E)) N C R X=Eo (c (e::E)) (λ_ x=>R x) X:=by unfold jQ;rw[zX];ac_rfl
theorem w_pass:Po (qV (e::E)) N C R X=N (e::E):=nd (by ac_rfl)
theorem w_if{a b}:Po (sIf t a b (e::E)) N C R X=Eo (t (e::E)) (λE k=>if k=true then Po (a E) N C R X else Po (b E) N C R X) X:=by
 unfold sIf;rw[zX];congr 1;funext E k;cases k<;>ac_rfl
theorem w_tup{is:List Nat}:Po (V5 is c (e::E)) N C R X=Eo (c (e::E)) (λE x=>Vo (Tg.put (.t is) x.2 E) N) X:=by
 unfold V5;rw[zX];congr 1;funext E x;rw[wqf];ac_rfl
theorem w_vV:Eo (vV i (e::E)) P X=Wo (sl (e::E)[i]?) (e::E) P:=by
 unfold vV Wo;cases(e::E)[i]? with|none=>ac_rfl|some q=>cases q<;>ac_rfl
theorem w_cV:Eo (cV i (e::E)) P X=Wo (sl (e::E)[i]?) (e::E) (λE x=>P (E.set i (some (.no,x.2))) (.no,x.2)):=by
 unfold cV Wo;cases(e::E)[i]? with|none=>ac_rfl|some q=>cases q<;>ac_rfl
theorem w_cMv:Eo (cMv i (e::E)) P X=Wo (sl (e::E)[i]?) (e::E) (λE x=>P (E.set i none) x):=by
 unfold cMv Wo;cases(e::E)[i]? with|none=>ac_rfl|some q=>cases q<;>ac_rfl
theorem w_cC{d}:Eo (cC d (e::E)) P X=P (e::E) (.dp,d):=nd (by ac_rfl)
theorem w_vE:Eo (vE c (e::E)) P X=Eo (c (e::E)) (λE x=>P E (.no,x.2)) X:=by unfold vE;rw[k4];ac_rfl
theorem w_cH:Eo (cH c (e::E)) P X=Eo (c (e::E)) (λE x=>if x.1=.no then P E (.no,x.2)else if x.2.pure=true then P E (.dp,x.2)else False) X:=by
 unfold cH;rw[k4]
 congr 1
 funext E x
 by_cases h:x.1=.no
 ·rw[X9 h,X9 h];ac_rfl
 ·rw[Xb h,Xb h]
  by_cases h2:x.2.pure=true
  ·rw[X9 h2,X9 h2];ac_rfl
  ·rw[Xb h2,Xb h2];ac_rfl
theorem w_f1{f}:Eo (cF1 f a (e::E)) P X=Eo (a (e::E)) (λE x=>Wo (f x) E P) X:=by
 unfold cF1;rw[k4];congr 1;funext E x;exact z3
theorem w_f2{f}:Eo (cF2 f a b (e::E)) P X=Eo (a (e::E)) (λE x=>Eo (b E) (λE y=>Wo (f x y) E P) X) X:=by
 unfold cF2;rw[k4];congr 1;funext E x;rw[k4];congr 1;funext E y;exact z3
theorem w_ix:Eo (j8 a b (e::E)) P X=Eo (a (e::E)) (λE x=>Eo (b E) (λE y=>Wo (jJ x.2 y.2) E (λE d=>P E (sub x.1,d))) X) X:=by
 unfold j8;rw[k4];congr 1;funext E x;rw[k4];congr 1;funext E y;rw[z3];exact vo_map
theorem w_tE:Eo (tE c (e::E)) T X=Eo (c (e::E)) (λE x=>Wo (truth x.2) E T) X:=by
 unfold tE;rw[k4];congr 1;funext E x;exact z3
theorem w_tEQ:Eo (tEQ c (e::E)) T X=Eo (c (e::E)) (λE x=>Wo (truthQ x.2) E T) X:=by
 unfold tEQ;rw[k4];congr 1;funext E x;exact z3
theorem w_tNot:Eo (tNot t (e::E)) T X=Eo (t (e::E)) (λE k=>T E (!k)) X:=by unfold tNot;rw[k4];ac_rfl
theorem w_tAnd:Eo (tAnd t u (e::E)) T X=Eo (t (e::E)) (λE k=>if k=true then Eo (u E) T X else T E false) X:=by
 unfold tAnd;rw[k4];congr 1;funext E k;cases k<;>ac_rfl
theorem w_tOr:Eo (tOr t u (e::E)) T X=Eo (t (e::E)) (λE k=>if k=true then T E true else Eo (u E) T X) X:=by
 unfold tOr;rw[k4];congr 1;funext E k;cases k<;>ac_rfl
theorem w_tYes:Eo (tYes (e::E)) T X=T (e::E) true:=nd (by ac_rfl)
theorem w_cIf:Eo (cIf t a b (e::E)) P X=Eo (t (e::E)) (λE k=>if k=true then Eo (a E) P X else Eo (b E) P X) X:=by
 unfold cIf;rw[k4];congr 1;funext E k;cases k<;>ac_rfl
theorem w_cAnd:Eo (VQ a b (e::E)) P X=Eo (a (e::E)) (λE x=>xkf x.2 (Eo (b E) P X) (P E (.dp,.bl false))) X:=by
 rw[wj2,k4];congr 1;funext E x;cases x.2 with|bl k=>cases k<;>ac_rfl|_=>ac_rfl
theorem w_cNotQ:Eo (vqp c (e::E)) P X=Eo (c (e::E)) (λE x=>Wo (truthQ x.2) E (λE k=>P E (.dp,.bl (!k)))) X:=by
 unfold vqp;rw[k4];congr 1;funext E x;rw[z3];exact vo_map
theorem w_call{f cs}:Eo (jw f cs (e::E)) P X=Eo (vW cs (e::E)) (λE xs=>Oe f (letAll xs) E P X) X:=by exists vzp
theorem w_callB{f:Fn}{cs:List Ex}:Eo (kxg f cs (e::E)) P X=Eo (vW cs (e::E)) (λE xs=>Oe f (letAll xs) E (λE y=>y.2.pure=true/\P E (.dp,y.2)) X) X:=by exists vqc
theorem w_partN{P}:Eo (QQ none (e::E)) P X=P (e::E) none:=nd (by ac_rfl)
theorem w_partS{P}:Eo (QQ (some c) (e::E)) P X=Eo (c (e::E)) (λE x=>Ie x.2 E (λE i=>P E (some i))) X:=by
 show Eo (bnd _ _) P X=_;rw[k4];congr 1;funext E x;cases x.2<;>ac_rfl
theorem w_sl{lo hi}:Eo (cSl a lo hi (e::E)) P X=Eo (a (e::E)) (λE x=>Eo (QQ lo E) (λE l=>Eo (QQ hi E) (λE h=>Wo (fSl x l h) E P) X) X) X:=by
 unfold cSl;rw[k4];congr 1;funext E x;rw[k4];congr 1;funext E l;rw[k4];congr 1;funext E h;exact z3
theorem w_idx:Eo (K3 a b (e::E)) P X=Eo (a (e::E)) (λE x=>if isSq x.2=true then Eo (b E) (λE y=>Wo (ZW x.2 y.2) E (λE d=>P E (.dp,d))) X else False) X:=by
 unfold K3;rw[k4];congr 1;funext E x;cases isSq x.2 with
 |false=>ac_rfl
 |true=>
  show Eo (bnd _ _) P X=_;rw[k4]
  congr 1;funext E y;rw[z3];exact vo_map
theorem w_itS{P}:Eo (itS c (e::E)) P X=Eo (c (e::E)) (λE x=>Wo (seqOf x.2) E P) X:=by
 unfold itS;rw[k4]
 congr 1
 funext E x;exact z3
theorem w_itEn{P}:Eo (wxa c (e::E)) P X=Eo (c (e::E)) (λE x=>Wo (lstOf x.2) E (λE ds=>P E (xk 0 ds))) X:=by
 unfold wxa;rw[k4]
 congr 1
 funext E x;rw[z3];exact vo_map
end
theorem args_nil{e}{E:En}{P X}:Eo (vW [] (e::E)) P X=P (e::E) []:=nd (by ac_rfl)
theorem args_cons{e}{E:En}{c cs P X}:Eo (vW (c::cs) (e::E)) P X=Eo (c (e::E)) (λE x=>Eo (vW cs E) (λE xs=>P E (x::xs)) X) X:=by
 show Eo (bnd _ λE x=>bnd _ λE xs=>some _) P X=_;rw[k4]
 congr 1
 funext E x;rw[k4]
 ac_rfl
theorem eo_tup{e}{E:En}{cs P X}:Eo (kX .no cs (e::E)) P X=Eo (vW cs (e::E)) (λE xs=>P E (.no,.tup (xs.map (·.2)))) X:=by
 unfold kX;rw[k4]
 ac_rfl
theorem eo_lst{e}{E:En}{cs P X}:Eo (kj .rt cs (e::E)) P X=Eo (vW cs (e::E)) (λE xs=>P E (.rt,.lst (xs.map (·.2)))) X:=by
 unfold kj;rw[k4]
 ac_rfl
theorem wwq{i:Nat}{c}{E:En}{o xs N C R X}(h0:E[i]?=some (some (o,.lst xs)))
  (h:Eo (c E) (λE1 x=>∃o ys,E1[i]?=some (some (o,.lst ys))/\o≠.no/\ys.length<10000/\N (E1.set i (some (if o=.dp/\zw x then .dp else .rt,.lst (ys++[x.2]))))) X):Po (qY qX i c E) N C R X:=by
 unfold qY;rw[h0,X9 (show Q9 _=true from rfl),zX];refine h.mono ?_;rintro E1 x ⟨o,ys,h1,h2,h3,h4⟩;rw[h1];dsimp only;have hg:qX ys x.2=some (ys++[x.2]):=by unfold qX;rw[X9 (by unfold big;lia)]
 rw[Xb h2,hg]
 exists h4
theorem vX{i:Nat}{c}{E:En}{xs N C R X}(h0:E[i]?=some (some (.rt,.lst xs)))
  (h:Eo (c E) (λE1 x=>∃ys,E1[i]?=some (some (.rt,.lst ys))/\ys.length<10000/\N (E1.set i (some (.rt,.lst (ys++[x.2]))))) X):Po (qY qX i c E) N C R X:=
 wwq h0 (h.mono λE1 x ⟨ys,h1,h2,h3⟩=>⟨.rt,ys,h1,⋯,h2,by rw[];exists h3⟩)
theorem rng_ok{n}(h1:-1000<=n)(h2:n<=1000):(z7 n=true/\n.toNat<=big)=True:=by
 have:z7 n=true:=by unfold z7;rw[Xg ⋯,Xg ⋯];ac_rfl
 with_unfolding_all exact eq_true ⟨this,by unfold big;lia⟩
theorem kzu{α p}[Decidable p]{a}{P:En->α->Prop}{X}:Eo (if p then a else none) P X=(p/\Eo a P X):=by
 by_cases h:p
 ·simp_all
 ·rw[Xb h];with_unfolding_all exact propext ⟨λz=>z.elim,λz=>h z.1⟩
theorem w_R1{c e}{E:En}{P X}:Eo (vK c (e::E)) P X=Eo (c (e::E)) (λE x=>Ie x.2 E λE n=>(z7 n=true/\n.toNat<=big)/\P E (jW 0 n)) X:=by
 unfold vK;rw[k4];congr 1;funext E x;cases x.2 with|int n=>exists kzu|_=>ac_rfl
theorem w_LR1{c e}{E:En}{P X}:Eo (Qw c (e::E)) P X=Eo (c (e::E)) (λE x=>Ie x.2 E λE n=>(z7 n=true/\n.toNat<=big)/\P E (.rt,.lst (jW 0 n))) X:=by
 unfold Qw;rw[k4];congr 1;funext E x;cases x.2 with|int n=>exists kzu|_=>ac_rfl
theorem vk1{o:Own}{xs:List D}{lo hi:Option Int}(h:o≠.dp):fSl (o,.lst xs) lo hi=some (.rt,.lst (Jx xs lo hi)):=by
 show(if qz _ then _ else _)=_;rw[X9 (by cases o<;>simp_all [qz])]
theorem sub_no:sub .no=.no:=nd (by ac_rfl)
theorem sub_rt:sub .rt=.no:=nd (by ac_rfl)
theorem sub_dp:sub .dp=.dp:=nd (by ac_rfl)
theorem Oo.use{ι f xs}{g:ι->Sd}{S:ι->Prop}{E P X}(h:Oo f xs (λy=>∃i,y=g i/\S i) X)(k:∀i,S i->P E (g i)):Oe f xs E P X:=h.mono λy ⟨i,e,s⟩=>e▸k i s
theorem Oo.via{f xs S E P X}(h:Oo f xs S X)(k:∀y,S y->P E y):Oe f xs E P X:=h.mono k
theorem z4{E ys P X}:Eo (mkL .rt E ys) P X=P E (.rt,.lst (ys.map (·.2))):=nd (by ac_rfl)
theorem vvi{i:Nat}{c:Ex}{E:En}{o:Own}{xs:List D}{P:En->Sd->Prop}{X:XP}(h0:E[i]?=some (some (o,.lst xs)))
  (h:Eo (c E) (λE1 x=>∃(o:Own) (ys:List D) (k:Int) (d:D),E1[i]?=some (some (o,.lst ys))/\o≠.no/\x.2=.int k/\0<=k/\k<=1000/\ys[k.toNat]?=some d/\d.pure=true/\P (E1.set i (some (o,.lst (ys.eraseIdx k.toNat)))) (.dp,d)) X):Eo (Ww i c E) P X:=by
 unfold Ww;rw[h0,X9 (show Q9 _=true from rfl),k4];refine h.mono ?_;rintro E1 ⟨o',d'⟩ ⟨o,ys,k,d,h1,h2,e,k0,k1,h3,h4,h5⟩;subst e;have hl:=(List.getElem?_eq_some_iff.mp h3).1;have hx:ixN ys.length k=some k.toNat:=by unfold ixN;rw[X9 k0,X9 ⋯]
 have hs:z7 k=true:=by unfold z7;rw[Xg ⋯,Xg ⋯];ac_rfl
 rw[h1];dsimp only;rw[Xb h2,hx];dsimp only;rw[h3];dsimp only;rw[h4,hs,X9 ⋯,qzl];exact h5
section
variable {a b c kc vc:Ex}{e:Option Sd}{E:En}{X:XP}{N C:En->Prop}{R:Sd->Prop}{P:En->Sd->Prop}
theorem wjq:Eo (wx1 a b (e::E)) P X=Eo (a (e::E)) (λE x=>Eo (b E) (λE y=>Wo (ww9 x.2 y.2) E (λE d=>P E (.dp,d))) X) X:=by
 unfold wx1;rw[k4];congr 1;funext E x;rw[k4];congr 1;funext E y;rw[z3];exact vo_map
theorem vv2:Eo (vjs a b c (e::E)) P X=Eo (a (e::E)) (λE x=>Zz x.2=true/\Eo (b E) (λE y=>Eo (c E) (λE z=>Wo (qzk x.2 y.2 z.2) E (λE d=>P E (.dp,d))) X) X) X:=by
 unfold vjs;rw[k4];congr 1;funext E x;rw[kzu];congr 1;rw[k4];congr 1;funext E y;rw[k4];congr 1;funext E z;rw[z3];exact vo_map
theorem wjp{z}:Eo (vqq z c (e::E)) P X=Eo (c (e::E)) (λE x=>Wo (qzj z x.2) E (λE d=>P E (.dp,d))) X:=by
 unfold vqq;rw[k4];congr 1;funext E x;rw[z3];exact vo_map
theorem qve{P}:Eo (qz1 c (e::E)) P X=Eo (c (e::E)) (λE x=>Wo (vjw x.2) E (λE ds=>P E (xk 0 ds))) X:=by
 unfold qz1;rw[k4];congr 1;funext E x;rw[z3];exact vo_map
theorem v_is{i:Nat}{o ds P}(h:E[i]?=some (some (o,.lst ds)))(hp:D.pures ds=true)(k:P E ds):Eo (itV i E) P X:=by
 unfold itV;rw[h];dsimp only
 rwa [X9 hp,qzl]
theorem wjr:Eo (wj1 (e::E)) P X=P (e::E) (.rt,v9 []):=nd (by ac_rfl)
theorem WJ{i:Nat}(h:Eo (vc E) (λE1 v=>Q9 E1[i]?=true/\Eo (kc E1) (λE2 k=>∃(o:Own) (xs:List D) (j:Int) (n:Nat),E2[i]?=some (some (o,.lst xs))/\o≠.no/\k.2=.int j/\ixN xs.length j=some n/\N (E2.set i (some (.rt,.lst (xs.set n v.2))))) X) X):Po (wk8 i kc vc E) N C R X:=by
 unfold wk8;rw[zX];refine h.mono ?_;rintro E1 v ⟨e1,h1⟩;rw[X9 e1,zX];refine h1.mono ?_;rintro E2 k ⟨o,xs,j,n,e2,ho,hk,hn,h4⟩;rw[e2,hk];dsimp only
 rwa [Xb ho,hn,vkf]
theorem vzd{i:Nat}(h:Eo (vc E) (λE1 v=>Zv E1[i]?=true/\Eo (kc E1) (λE2 k=>∃(kv:List _) (x y:Int),E2[i]?=some (some (.rt,v9 kv))/\k.2=.int x/\v.2=.int y/\kv.length<10000/\N (E2.set i (some (.rt,v9 (qQ kv x y))))) X) X):Po (vk4 i kc vc E) N C R X:=by
 unfold vk4;rw[zX];refine h.mono ?_;rintro E1 v ⟨e1,h1⟩;rw[X9 e1,zX];refine h1.mono ?_;rintro E2 k ⟨kv,x,y,e2,hk,hv,hl,h4⟩;rw[e2,hk,hv];dsimp only;rw[XJ];dsimp only
 rwa [X9 (by unfold big;lia),vkf]
end
theorem ww2{k kv}:V8 (.int k) (v9 kv)=some (.bl (k6 kv k).isSome):=by
 unfold V8;rw[XJ]
theorem wzw{k v kv}(h:k6 kv k=some v):ww9 (v9 kv) (.int k)=some (.int v):=by
 unfold ww9;rw[XJ];dsimp only;rw[h];rfl
theorem vw2{k z kv}:qzk (v9 kv) (.int k) (.int z)=some (.int ((k6 kv k).getD z)):=by
 unfold qzk;rw[XJ]
theorem wvy{kv}:Zz (v9 kv)=true:=by
 unfold Zz;rw[XJ];rfl
theorem wwg{o}{ps:List (Int×Int)}(h:ps.length<10000):VJ (o,.lst (ps.map λp=>D.tup [.int p.1,.int p.2]))=some (.rt,v9 (ps.foldl (λkv p=>qQ kv p.1 p.2) [])):=by
 unfold VJ;dsimp only;rw[qwp];dsimp only;rw[X9 (by unfold big;lia)]
section
variable {a b c kc vc:Ex}{cs:List Ex}{e:Option Sd}{E:En}{X:XP}{N C:En->Prop}{R:Sd->Prop}{P:En->Sd->Prop}{i r n:Nat}{t:Ts}
theorem wkc{ds}(h0:E[i]?=some (some (.rt,.lst ds)))(h:N (E.set i (some (.rt,.lst ds.reverse)))):Po (ZY i E) N C R X:=by
 unfold ZY
 rwa [h0,vkf]
end
end Q
namespace C
open PySem Q
noncomputable def m_read_by:Fn:=fn 8
  (j5 (sIf (tOr (tE (cF2 (f2First fIsNon) (vV 1) (vE (cC .non)))) (tE (cF2 (pu2 zK) (vV 2) (j8 (vV 0) (C9 0))))) (jQ (cC .non)) qV)
  (j5 (jk 4 (cH (j8 (vV 1) (C9 1))))
  (j5 (jk 5 (cH (j8 (j8 (j8 (j8 (vV 0) (C9 1)) (j8 (vV 1) (C9 0))) (C9 2)) (vE (K3 (j8 (vV 0) (C9 0)) (vV 2))))))
  (j5 (jk 6 (cH (j8 (vV 5) (vE (cIf (tE (cF2 (pu2 K9) (vV 3) (vV 4))) (K3 (vV 4) (vV 3)) (cF1 (pu1 qZ) (vV 4)))))))
  (j5 (sIf (tE (cF2 (f2First fIsNon) (vV 6) (vE (cC .non)))) (jQ (cC .non)) qV)
  (j5 (jk 7 (cF2 jK (vV 4) (vE (kX .no [(cV 3)]))))
  (jQ (kX .no [(cH (j8 (vV 6) (C9 0))),(cF1 xz (vE (cLC .rt 1 [7] (itS (cH (j8 (vV 6) (C9 1)))) (.n 0) tYes (cH (j8 (vV 1) (vV 0))))))]))))))))
end C
local macro_rules
 | `(tactic| simp![$ts,*])=>`(tactic| simp(config:={maxSteps:=1000000,failIfUnchanged:=false,implicitDefEqProofs:=true}) (disch:=lia) only[↓Q.w_seq,↓Q.w_asg,↓Q.w_ret,↓Q.w_pass,↓Q.w_if,↓Q.w_tup,↓Q.w_vV,↓Q.w_cV,↓Q.w_cMv,↓Q.w_cC,↓Q.w_vE,↓Q.w_cH,↓Q.w_f1,↓Q.w_f2,↓Q.w_ix,↓Q.w_tE,↓Q.w_tEQ,↓Q.w_tNot,↓Q.w_tAnd,↓Q.w_tOr,↓Q.w_tYes,↓Q.w_cIf,↓Q.w_cAnd,↓Q.w_cNotQ,↓Q.w_call,↓Q.w_callB,↓Q.w_partN,↓Q.w_partS,↓Q.w_sl,↓Q.w_idx,↓Q.w_itS,↓Q.w_itEn,↓Q.w_R1,↓Q.w_LR1,Q.rng_ok,true_and,↓Q.ie_i,Q.isSq,Q.sl_some,↓Q.andP_bl,↓Q.vo_some,↓Q.vo_map,↓Q.wo_some,↓Q.wo_map,↓Q.args_nil,↓Q.args_cons,↓Q.eo_tup,↓Q.eo_lst,Q.letAll,Q.pu2,Q.pu1,Q.f2First,Q.fIsNon,Q.fNotNon,Q.isNon,List.map_cons,List.map_nil,List.cons_append,List.nil_append,Xm,List.length_nil,X4,Nat.reduceAdd,Nat.reduceSub,List.replicate,List.set_cons_zero,List.set_cons_succ,List.getElem?_cons_zero,List.getElem?_cons_succ,Q.len_l,Q.len_t,Q.lt_ii,Q.gt_ii,Q.le_ii,Q.ge_ii,Q.add_i,Q.sub_i,Q.div_i,Q.mod_i,Q.mulT_i,Q.mul_l,Option.map_some,Q.truth,Q.truthQ,Q.D.pure,↓reduceIte,if_true,if_false,ite_true,ite_false,Q.sub_no,Q.sub_rt,Q.sub_dp,Bool.false_eq_true,reduceCtorEq,Bool.not_true,Bool.not_false,Q.Tg.put,Q.setAll,Q.seqOf,Q.lstOf,$ts,*])
namespace C
open Q PySem
abbrev most:Int:=1000*10 ^ 64
abbrev iL(ns:List Int):D:=.lst (ns.map D.int)
noncomputable def Each(G:D->Sd->Prop):List D->List Sd->Prop
 |[],[]=>True|d::ds,y::ys=>G d y/\Each G ds ys|_,_=>False
theorem Each.snoc{G d y}(h:G d y):∀{ds ys},Each G ds ys->Each G (ds++[d]) (ys++[y])
 |[],[],_=>⟨h,trivial⟩|_::_,_::_,r=>⟨r.1,Each.snoc h r.2⟩
theorem Q5{X E o}{r:List Nat}{it c P}(a8:En) G (h0:Eo (it E) (λE1 ds=>r.map (at' E1)=a8/\(∀d∈ds,Eo (c (some (.no,d)::a8)) (λB y=>(∃q,B=q::a8)/\G d y) X)/\∀ys,Each G ds ys->Eo (mkL o (back r a8 (clr r E1)) ys) P X) X):Eo (cLC o 1 r it (.n 0) tYes c E) P X:=by
 refine Vq (λE1 B ds2 af=>∃ds ds1 q,ds=ds1++ds2/\B=q::a8/\Each G ds1 af/\(∀d∈ds,Eo (c (some (.no,d)::a8)) (λB y=>(∃q,B=q::a8)/\G d y) X)/\∀ys,Each G ds ys->Eo (mkL o (back r a8 (clr r E1)) ys) P X) ?_ ?_ ?_
 ·refine h0.mono λE1 ds ⟨h1,h2,h3⟩=>⟨ds,[],none,rfl,by rw[<-h1];rfl,trivial,h2,h3⟩
 ·rintro E1 B d ds2 af ⟨ds,ds1,q,e,rfl,hE,h2,h3⟩;have hp:(Tg.n 0).put d (q::a8)=some (some _::a8):=rfl;rw[hp,vo_some,show tYes _=some _ from rfl,qzl];refine(h2 d (by rw[e];simp)).mono ?_;rintro B y ⟨⟨q',rfl⟩,hG⟩;exact⟨ds,ds1++[d],q',by rw[e];simp,rfl,hE.snoc hG,h2,h3⟩
 ·rintro E1 B af ⟨ds,ds1,q,e,rfl,hE,h2,h3⟩;rw[Xv]at e;subst e;exact h3 af hE
theorem kk8{G}{S:Int->Prop}(hG:∀d y,G d y->∃i,y.2=.int i/\S i):∀{ds ys},Each G ds ys->∃ps:List Int,ys.map (·.2)=ps.map D.int/\ps.length=ds.length/\∀p∈ps,S p
 |[],[],_=>⟨[],rfl,rfl,λ_ h=>nomatch h⟩
 |d::ds,y::ys,r=>by
  obtain⟨i,e,s⟩:=hG d y r.1;obtain⟨ps,h1,h2,h3⟩:=kk8 hG r.2;exact⟨i::ps,by simp[e,h1],by simp[h2],λp hp=>(aD hp).elim (λz=>z▸s) (h3 p)⟩
theorem qw5{n}:jW n n=[]:=by unfold jW;rw[Int.sub_self];rfl
theorem kku{k n}(h:k<n):jW k n=.int k::jW (k+1) n:=by
 unfold jW;have:(n - k).toNat=(n - (k+1)).toNat+1:=by
  obtain⟨m,hm⟩:=Int.eq_ofNat_of_zero_le (show 0<=n - (k+1)by lia);rw[hm,show n - k=(m+1:Nat)by lia];rfl
 rw[this,List.range_succ_eq_map,List.map_cons,Xl]
 congr 1
 ·simp
 ·apply Yp;intro i _
  grind
theorem xZ{k n d ds}(hk:k<=n)(h:d::ds=jW k n):k<n/\d=.int k/\ds=jW (k+1) n:=by
 by_cases hl:k<n
 ·rw[kku hl]at h;injection h with h1 h2;exact⟨hl,h1,h2⟩
 ·have:k=n:=⋯
  subst this;rw[qw5]at h
  grind
theorem xX{k n}(hk:k<=n)(h:[]=jW k n):k=n:=by
 by_cases hl:k<n
 ·rw[kku hl]at h;cases h
 ·lia
theorem kze{k n d}(h:d∈jW k n):∃i,k<=i/\i<n/\d=.int i:=by
 obtain⟨j,hj,rfl⟩:=aE h;have:=List.mem_range.mp hj;exact⟨k+j,⋯,⋯,rfl⟩
theorem qxn{k n}(h:k<=n):((jW k n).length:Int)=n - k:=by
 unfold jW;rw[X4,Y5];lia
theorem qkg z i (h0:0<=i)(h1:i<z.cps.size):∃c,jJ (.str z) (.int i)=some (.str ⟨#[c]⟩):=by
 have:i.toNat<z.cps.toList.length:=by rw[Xd];lia
 refine⟨z.cps.toList[i.toNat],?_⟩;show((ixN z.cps.size i).bind λj=>(z.cps.toList[j]?).map λc=>D.str ⟨#[c]⟩)=_;unfold ixN;rw[X9 h0,X9 h1];show((z.cps.toList[i.toNat]?).map λc=>D.str ⟨#[c]⟩)=_;rw[X3 this];rfl
theorem vjh{o1 o2 a b}(h:a.cps.size+b.cps.size<=10000):jK (o1,.str a) (o2,.str b)=some (.dp,.str (a++b)):=by
 show(if a.cps.size+b.cps.size<=big then _ else _)=_;rw[X9 (by unfold big;lia)]
theorem kqn(a b:Str):(a++b).cps.size=a.cps.size+b.cps.size:=by
 exact Array.size_append
theorem kxx:∀ss,J7 (ss.map D.str)=some ss
 |[]=>rfl|s::ss=>by rw[List.map_cons,J7,kxx ss];rfl
abbrev sL(ss:List Str):D:=.lst (ss.map D.str)
theorem ixI ks (S:Int->Prop)(hS:∀k∈ks,S k) i (h0:0<=i)(h1:i<ks.length):∃v,jJ (iL ks) (.int i)=some (.int v)/\S v/\ks[i.toNat]?=some v:=by
 have hl:i.toNat<ks.length:=⋯
 refine⟨ks[i.toNat],xJ h0 (by rw[Xi,X3 hl];rfl),hS _ (Y3 hl),X3 hl⟩
theorem wZ{n}:∀{ks},(∀k∈ks,k.flat n=true)->D.flats n ks=true
 |[],_=>by cases n<;>simp[D.flats]|k::ks,h=>by rw[D.flats,h k X5,wZ λe he=>h e (lc9 _ he)];rfl
mutual
theorem jxe:∀{n} (d),d.flat n=true->peq d d=true
 |n,.non,_=>by simp[peq]|n,.bl b,_=>by simp[peq]|n,.int b,_=>by simp[peq]|n,.str b,_=>by simp[peq]|0,.lst xs,h=>by simp[D.flat]at h|n+1,.tup xs,h=>peqs_refl xs (by simpa [D.flat]using h)|n+1,.lst xs,h=>peqs_refl xs (by simpa [D.flat]using h)|n,.dct _,h=>by cases n<;>simp[D.flat]at h|n,.obj _ _,h=>by cases n<;>simp[D.flat]at h
theorem peqs_refl:∀{n} ds,D.flats n ds=true->peqs ds ds=true
 |_,[],_=>by simp[peqs]
 |n,d::ds,h=>by
  rw[D.flats,Bool.and_eq_true]at h;rw[peqs,jxe d h.1,peqs_refl ds h.2];rfl
end
theorem eq_self{d}(h:d.flat 40=true):fEq d d=some (.bl true):=by unfold fEq;rw[h,jxe d h];rfl
theorem p0(a b:D):jJ (.tup [a,b]) (.int 0)=some a:=rfl
theorem p1(a b:D):jJ (.tup [a,b]) (.int 1)=some b:=rfl
theorem t0(a b c:D):jJ (.tup [a,b,c]) (.int 0)=some a:=rfl
theorem t1(a b c):jJ (.tup [a,b,c]) (.int 1)=some b:=rfl
theorem t2(a b c):jJ (.tup [a,b,c]) (.int 2)=some c:=rfl
theorem W8{G h}(hG:∀d y,G d y->y.2=h d):∀{ds ys},Each G ds ys->ys.map (·.2)=ds.map h
 |[],[],_=>rfl|d::ds,y::ys,r=>by rw[List.map_cons,List.map_cons,hG d y r.1,W8 hG r.2]
abbrev jv(ss:List Str)(rs:List D):D:=.tup [sL ss,.lst rs]
theorem vvy{o xs}(h:o≠.dp):V6 (o,.lst xs)=some (.rt,.lst xs):=by
 show(if qz _ then _ else _)=_;rw[X9 (by cases o<;>simp_all [qz])]
theorem qx5{z ss}:zK (.str z) (sL ss)=some (.bl (!ss.any λw=>w==z)):=by
 show Vv _ _=_;unfold Vv;have:fIn (.str z) (sL ss)=some (.bl (ss.any λw=>w==z)):=by
  show(if(D.str z).flat 30&&D.flats 30 _ then some _ else none)=_;rw[wZ (λk hk=>by obtain⟨w,_,rfl⟩:=aE hk;rfl),List.any_map];rfl
 rw[this];rfl
theorem Jj{p}{ks:List Int}:K9 (.int p) (.tup (ks.map D.int))=some (.bl (ks.any λw=>w==p)):=by
 show(if(D.int p).flat 30&&D.flats 30 _ then some _ else none)=_;rw[wZ (λk hk=>by obtain⟨w,_,rfl⟩:=aE hk;rfl),List.any_map];rfl
theorem vjg{p}{ks:List Int}:(ks.any λw=>w==p)=decide (p∈ks):=by
 rw[Bool.eq_iff_iff];simp
def qK(own k:Int):Int:=own+(if k=own then 1 else 0)
noncomputable def Cs(aa:List Int)(b:Int)(c:D):Prop:=c=.non\/∃(to:Int) (fs:List Int),c=.tup [.int to,.tup (fs.map D.int)]/\0<=to/\to<aa.length/\(∀f∈fs,0<=f/\f<b)/\fs.Nodup/\(fs.length:Int)=aa.getD to.toNat 0
theorem V2{α:Type}:∀{l:List α} {i} (h),(l[i]::l.eraseIdx i).Perm l
 |a::l,0,h=>List.Perm.refl _
 |a::l,i+1,h=>by
  have:=V2 (by simpa using h);exact(List.Perm.swap ..).trans (this.cons a)
theorem kk6{α β:Type}(f:α->β):∀(l:List α) (i),(l.map f).eraseIdx i=(l.eraseIdx i).map f
 |[],_=>rfl|a::l,0=>rfl|a::l,i+1=>by rw[List.map_cons,List.eraseIdx_cons_succ,List.eraseIdx_cons_succ,List.map_cons,kk6 f l i]
theorem kvg(a b:Int):J5 (.bl (a==b))=some (.int (if a=b then 1 else 0)):=by
 by_cases h:a=b
 ·rw[X9 h,show(a==b)=true by simpa using h];rfl
 ·rw[Xb h,show(a==b)=false by simpa using h];rfl
noncomputable def Pr(aa:List Int)(n:Nat)(own:Int)(d:D):Prop:=∃(gd:Bool) (st:List D),d=.tup [.int own,.bl gd,.lst st]/\st.length=n/\∀c∈st,∃cs:List D,c=.lst cs/\(cs.length:Int)=own+1/\∀k:Nat,k<cs.length->∃z,cs[k]?=some z/\Cs aa (qK own k) z
noncomputable def Prs(aa:List Int)(n:Nat)(rs:List D):Prop:=rs.length=aa.length/\∀i:Nat,i<aa.length->∃r,rs[i]?=some r/\Pr aa n (aa.getD i 0) r
theorem kzs{α:Type}{p}:∀{l:List α},l.any p=true->l.findIdx? p=some (l.findIdx p)
 | [],h=>by cases h
 | a::l,h=>by
  rw[List.findIdx?_cons,List.findIdx_cons];cases hp:p a with
  |true=>simp
  |false=>
   rw[List.any_cons,hp]at h;rw[kzs h];simp
theorem xj6{α:Type}{p}{l:List α}(h:l.any p=true):l.findIdx p<l.length:=by
 obtain⟨x,hx,hp⟩:=List.any_eq_true.mp h;exact List.findIdx_lt_length_of_exists ⟨x,hx,hp⟩
theorem xj5{α:Type}{p}{l:List α}(h:l.any p=false):l.findIdx p=l.length:=by
 rw[List.findIdx_eq_length];intro x hx;cases hp:p x with|false=>rfl|true=>rw[List.any_eq_true.mpr ⟨x,hx,hp⟩]at h;cases h
theorem ww3{z ss}(h:(ss.any λw=>w==z)=true):ZW (sL ss) (.str z)=some (.int (ss.findIdx λw=>w==z:Nat)):=by
 show(if(D.str z).flat 30&&D.flats 30 _ then((ss.map D.str).findIdx? λw=>peq w _).map λ(j:Nat)=>D.int j else none)=_;rw[wZ (λk hk=>by obtain⟨w,_,rfl⟩:=aE hk;rfl),List.findIdx?_map];have:ss.findIdx? ((λw=>peq w (.str z))∘D.str)=ss.findIdx? λw=>w==z:=rfl
 rw[this,kzs h];rfl
theorem vq3{p}{ks:List Int}(h:(ks.any λw=>w==p)=true):ZW (.tup (ks.map D.int)) (.int p)=some (.int (ks.findIdx λw=>w==p:Nat)):=by
 show(if(D.int p).flat 30&&D.flats 30 _ then((ks.map D.int).findIdx? λw=>peq w _).map λ(j:Nat)=>D.int j else none)=_;rw[wZ (λk hk=>by obtain⟨w,_,rfl⟩:=aE hk;rfl),List.findIdx?_map];have:ks.findIdx? ((λw=>peq w (.int p))∘D.int)=ks.findIdx? λw=>w==p:=rfl
 rw[this,kzs h];rfl
theorem vwh{a b}(hl:a.length+b.length<=10000):jK (.no,.tup a) (.no,.tup b)=some (.no,.tup (a++b)):=by
 show(if a.length+b.length<=big/\qz _/\qz _ then _ else _)=_;rw[X9 ⟨by unfold big;lia,rfl,rfl⟩]
abbrev iT(ks:List Int):D:=.tup (ks.map D.int)
noncomputable def nameAt(ks:List Int)(p:Int)(f:Int):Int:=(ks++[p]).getD f.toNat 0
noncomputable def vzz(ks:List Int)(p:Int)(c:D):D:=match c with
 |.tup [to,.tup fs]=>.tup [to,.tup (fs.map λf=>match f with|.int i=>.int (nameAt ks p i)|_=>.non)]
 |_=>.non
theorem caseD_is{ks fs p to}:vzz ks p (.tup [.int to,iT fs])=.tup [.int to,iT (fs.map (nameAt ks p))]:=by
 unfold vzz iT;simp[Function.comp]
noncomputable def Kz(ss:List Str)(st:List D)(ks:List Int)(z:Str)(p:Int):D:=match st[ss.findIdx λw=>w==z]? with
 |some (.lst cs)=>cs.getD (ks.findIdx λw=>w==p) .non|_=>.non
noncomputable def KK(ss:List Str)(st:List D)(ks:List Int)(z:Str)(p:Int):D:=if(ss.any λw=>w==z)=true then vzz ks p (Kz ss st ks z p)else .non
noncomputable def Cas(aa:List Int)(n:Nat)(own:Int)(st:List D):Prop:=st.length=n/\∀c∈st,∃cs:List D,c=.lst cs/\(cs.length:Int)=own+1/\∀k:Nat,k<cs.length->∃z,cs[k]?=some z/\Cs aa (qK own k) z
theorem xj7{ks:List Int}{p}:(ks.findIdx λw=>w==p)<=ks.length:=List.findIdx_le_length
theorem vj1{aa ss st ks}{z} p (h:Cas aa ss.length ks.length st)(hz:(ss.any λw=>w==z)=true):∃cs,st[ss.findIdx λw=>w==z]?=some (.lst cs)/\(cs.length:Int)=ks.length+1/\cs[ks.findIdx λw=>w==p]?=some (Kz ss st ks z p)/\Cs aa (qK ks.length (ks.findIdx λw=>w==p:Nat)) (Kz ss st ks z p):=by
 have hj:(ss.findIdx λw=>w==z)<st.length:=by rw[h.1];exact xj6 hz
 obtain⟨cs,e,hl,hc⟩:=h.2 st[ss.findIdx λw=>w==z] (Y3 hj);have hg:st[ss.findIdx λw=>w==z]?=some (.lst cs):=by rw[X3 hj,e]
 have ef:=xj7 (ks:=ks) (p:=p);obtain⟨c,e2,hC⟩:=hc (ks.findIdx λw=>w==p) ⋯;have hca:Kz ss st ks z p=c:=by unfold Kz;rw[hg];dsimp only;rw[Xq,e2];rfl
 exact⟨cs,hg,hl,by rw[hca];exact e2,by rw[hca];exact hC⟩
theorem qx6{ks p f}(h0:0<=f)(h1:f<=ks.length):jJ (.tup (ks.map D.int++[.int p])) (.int f)=some (.int (nameAt ks p f)):=by
 refine ix_t h0 ?_;rw[show ks.map D.int++[D.int p]=(ks++[p]).map D.int by simp,Xi];unfold nameAt;rw[Xq,X3 (by simp;lia)];rfl
theorem qj0{own k}:qK own k<=own+1:=by unfold qK;split<;>lia
theorem vx0{aa ss}{rs st:List D}{kp gd:D}{room:Int}{ks:List Int}{z:Str}{p:Int}(h0:0<=room)(hr:rs[room.toNat]?=some (.tup [kp,gd,.lst st]))(hc:Cas aa ss.length ks.length st)(hl:ks.length<=1000):
  Oo m_read_by [(.no,jv ss rs),(.no,.tup [.int room,iT ks]),(.no,.str z),(.no,.int p)] (λy=>y.2=KK ss st ks z p) noX:=by
 have hi:jJ (.lst rs) (.int room)=some (.tup [kp,gd,.lst st]):=xJ h0 hr;unfold KK;cases hz:(ss.any λw=>w==z)with
 | false=>
  unfold m_read_by;refine k8 ?_;simp![p0,qx5,hz]
 | true=>
  obtain⟨cs,g1,g2,g3,g4⟩:=vj1 p hc hz;have hx:jJ (.lst st) (.int (ss.findIdx λw=>w==z:Nat))=some (.lst cs):=xJ ⋯ (by rw[Yt];exact g1);have hy:jJ (.lst cs) (.int (ks.findIdx λw=>w==p:Nat))=some (Kz ss st ks z p):=xJ ⋯ (by rw[Yt];exact g3);have d3:=vwh (a:=ks.map D.int) (b:=[.int p]) (by simp;lia);have gf:=ww3 hz;generalize Kz ss st ks z p=c at g4 hy;have fin:∀(to:Int) (fs:List Int) (E:En) (hE:Q2 1 [7] E=none::[some (.no,.tup (ks.map D.int++[.int p]))]) (hb:back [7] [some (Own.no,D.tup (ks.map D.int++[.int p]))] (clr [7] E)=E) (hi:itS (cH (j8 (vV 6) (C9 1))) E=some (.ok E (fs.map D.int))) (P:En->Sd->Prop),(∀f∈fs,0<=f/\f<qK ks.length (ks.findIdx λw=>w==p:Nat))->P E (.rt,.lst ((fs.map (nameAt ks p)).map D.int))->Eo (cLC .rt 1 [7] (itS (cH (j8 (vV 6) (C9 1)))) (.n 0) tYes (cH (j8 (vV 1) (vV 0))) E) P noX:=by
   intro to fs E hE hb hi P mh hP;refine Q5 [some (.no,.tup (ks.map D.int++[.int p]))] (λf y=>y.2=match f with|.int i=>.int (nameAt ks p i)|_=>.non) ?_;rw[hi,qzl];refine⟨by have:=hE;unfold Q2 at this;simpa using this,λf hf=>?_,λys hy=>?_⟩
   ·obtain⟨i,lu,rfl⟩:=aE hf;have hb:=qj0 (own:=ks.length) (k:=(ks.findIdx λw=>w==p:Nat));have:=mh i lu;simp![qx6 (ks:=ks) (p:=p) (f:=i) this.1 ⋯];exact⟨⟨_,rfl⟩,trivial⟩
   ·rw[z4,W8 (h:=λf=>match f with|.int i=>.int (nameAt ks p i)|_=>.non) (λd y h=>h) hy,hb];rw[Xl]at hP ⊢;exact hP
  rw[X9 rfl];cases hp:(ks.any λw=>w==p)with
  | true=>
   have se:=vq3 hp;unfold m_read_by;refine k8 ?_;rcases g4 with rfl|⟨to,fs,rfl,t0',t1',mh,_⟩
   ·simp![p0,p1,qx5,hz,hi,t2,gf,hx,Jj,hp,se,hy];rfl
   ·simp![p0,p1,qx5,hz,hi,t2,gf,hx,Jj,hp,se,hy,d3];refine fin to fs _ rfl rfl rfl _ mh ?_;simp![tup_l (o:=.no) (xs:=(fs.map (nameAt ks p)).map D.int) ⋯];exact caseD_is.symm
  | false=>
   rw[xj5 hp]at hy;unfold m_read_by;refine k8 ?_;rcases g4 with rfl|⟨to,fs,rfl,t0',t1',mh,_⟩
   ·simp![p0,p1,qx5,hz,hi,t2,gf,hx,Jj,hp,hy];rfl
   ·simp![p0,p1,qx5,hz,hi,t2,gf,hx,Jj,hp,hy,d3];refine fin to fs _ rfl rfl rfl _ mh ?_;simp![tup_l (o:=.no) (xs:=(fs.map (nameAt ks p)).map D.int) ⋯];exact caseD_is.symm
theorem ne_empty ns:fNe (iL ns) (.lst [])=some (.bl (!ns.isEmpty)):=by
 unfold fNe;have:(iL ns).flat 40=true:=by
  exact wZ λk hk=>by obtain⟨w,_,rfl⟩:=aE hk;rfl
 rw[this,show(D.lst []).flat 40=true from rfl];cases ns with|nil=>simp[peq,peqs]|cons a r=>simp[peq,peqs]
theorem neg1:KW (.int 1)=some (.int (-1)):=rfl
theorem vwc{xs c}(h0:0<=c)(h1:c<=xs.length):Jx xs none (some c)=xs.take c.toNat:=by
 unfold Jx V4;dsimp only;rw[Xb ⋯,List.drop_zero,Nat.sub_zero,Nat.min_eq_left (Int.toNat_le.mpr h1)]
noncomputable def Ok2(aa:List Int)(s:D):Prop:=s=.non\/∃(room:Int) (ks:List Int),s=.tup [.int room,iT ks]/\0<=room/\room<aa.length/\(ks.length:Int)=aa.getD room.toNat 0
noncomputable def Rd(aa:List Int)(ss:List Str)(rs:List D)(s:D)(w:Str×Int)(s':D):Prop:=(s=.non/\s'=.non)\/∃(room:Int) (ks:List Int) (st:List D) (kp gd:D),s=.tup [.int room,iT ks]/\0<=room/\rs[room.toNat]?=some (.tup [kp,gd,.lst st])/\Cas aa ss.length ks.length st/\ks.length<=3/\s'=KK ss st ks w.1 w.2
theorem vk7{aa ss rs}{s} w (hP:Prs aa ss.length rs)(hk:∀p∈aa,0<=p/\p<=3)(h:Ok2 aa s):∃s',Rd aa ss rs s w s'/\Ok2 aa s'/\((ss.any λz=>z==w.1)=false->s'=.non):=by
 rcases h with rfl|⟨room,ks,rfl,r0,r1,hl⟩
 ·exact⟨.non,.inl ⟨rfl,rfl⟩,.inl rfl,λ_=>rfl⟩
 ·obtain⟨r,er,gd,st,rfl,fz,b6⟩:=hP.2 room.toNat ⋯;have kg:=hk (aa.getD room.toNat 0) (by rw[Xq,X3 ⋯];exact Y3 _);have um:Cas aa ss.length ks.length st:=⟨fz,by rw[hl];exact b6⟩;refine⟨KK ss st ks w.1 w.2,.inr ⟨room,ks,st,_,_,rfl,r0,er,um,⋯,rfl⟩,?_,λhz=>?_⟩
  ·unfold KK;cases hz:(ss.any λz=>z==w.1)with
   |false=>exact .inl rfl
   |true=>
    obtain⟨cs,g1,g2,g3,g4⟩:=vj1 w.2 um hz;rcases g4 with e|⟨to,fs,e,t0,t1,_,_,ng⟩
    ·rw[e];exact .inl rfl
    ·rw[e,caseD_is];exact .inr ⟨to,_,rfl,t0,t1,by rw[X4];exact ng⟩
  ·unfold KK;rw[hz];rfl
theorem qjm{aa ss rs s s' w}(h:Rd aa ss rs s w s'):Oo m_read_by [(.no,jv ss rs),(.no,s),(.no,.str w.1),(.no,.int w.2)] (λy=>y.2=s') noX:=by
 rcases h with⟨rfl,rfl⟩|⟨room,ks,st,kp,gd,rfl,r0,er,hc,hl,rfl⟩
 ·refine k8 ?_;simp![]
 ·exact vx0 r0 er hc ⋯
noncomputable section
end
noncomputable section
end
end C
namespace B
open PySem Q
noncomputable def m_keepers_in:Fn:=fn 2
  (jQ (cIf (tE (cF2 (pu2 fEq) (vV 1) (vE (cC (.int (-1)))))) (cC (.int 0)) (cH (j8 (j8 (j8 (vV 0) (C9 1)) (vV 1)) (C9 0)))))
noncomputable def m_standing_in:Fn:=fn 2
  (jQ (cIf (tE (cF2 (pu2 fEq) (vV 0) (vE (cC (.int (-1)))))) (cC .non) (kX .no [(cV 0),(cF1 xz (vV 1))])))
noncomputable def m_first_standings:Fn:=fn 7
  (j5 (jk 3 (jw m_keepers_in [(cV 0),(cH (j8 (vV 2) (C9 0)))]))
  (j5 (jk 4 (cF1 VJ (vE (cLC .rt 2 [] (itS (cH (j8 (vV 2) (C9 2)))) (.t [0,1]) tYes (kX .no [(cV 1),(cV 0)])))))
  (j5 (jk 5 (kj .rt []))
  (j5 (qw (vK (vE (jw m_keepers_in [(cV 1),(cH (j8 (vV 2) (C9 1)))]))) (.n 6) (qY qX 5 (cIf (tE (cF2 (pu2 V8) (vV 6) (vV 4))) (cH (wx1 (vV 4) (vV 6))) (cF2 jK (vV 3) (vE (cF1 (pu1 qZ) (vE (cLC .rt 1 [3] (itV 5) (.n 0) (tE (cF2 (pu2 fGe) (vV 0) (vV 1))) (cV 0)))))))))
  (jQ (kX .no [(jw m_standing_in [(cH (j8 (vV 2) (C9 0))),(Qw (vV 3))]),(kxg m_standing_in [(j8 (vV 2) (C9 1)),(vV 5)])]))))))
noncomputable def m_names_of:Fn:=fn 1
  (jQ (cIf (tE (cF2 (f2First fIsNon) (vV 0) (vE (cC .non)))) (kX .no []) (cH (j8 (vV 0) (C9 1)))))
noncomputable def m_room_of:Fn:=fn 1
  (jQ (cIf (tE (cF2 (f2First fIsNon) (vV 0) (vE (cC .non)))) (cC (.int (-1))) (cH (j8 (vV 0) (C9 0)))))
noncomputable def m_pair_of:Fn:=fn 4
  (j5 (jk 1 (jw m_names_of [(cH (j8 (vV 0) (C9 0)))]))
  (j5 (jk 2 (jw m_names_of [(cH (j8 (vV 0) (C9 1)))]))
  (j5 (jk 3 (cLC .rt 2 [2] (qz1 (cV 1)) (.t [0,1]) (tE (cF2 (pu2 K9) (vV 1) (vV 2))) (kX .no [(cV 0),(K3 (vV 2) (vV 1))])))
  (jQ (kX .no [(jw m_room_of [(cH (j8 (vV 0) (C9 0)))]),(jw m_room_of [(cH (j8 (vV 0) (C9 1)))]),(cF1 xz (vV 3))])))))
noncomputable def m_read_by_both:Fn:=fn 5
  (jQ (kX .no [(jw C.m_read_by [(cV 0),(cH (j8 (vV 2) (C9 0))),(cV 3),(cV 4)]),(jw C.m_read_by [(cV 1),(cH (j8 (vV 2) (C9 1))),(cV 3),(cV 4)])]))
noncomputable def m_held_by_both:Fn:=fn 2
  (j5 (jk 1 (jw m_names_of [(cH (j8 (vV 0) (C9 0)))]))
  (jQ (cF2 jK (vV 1) (vE (cF1 xz (vE (cLC .rt 1 [1] (itS (jw m_names_of [(cH (j8 (vV 0) (C9 1)))])) (.n 0) (tE (cF2 (pu2 zK) (vV 0) (vV 1))) (cV 0))))))))
end B
namespace B
open Q PySem C
abbrev Sn:=Option (Int×List Int)
def stn:Sn->D
 |none=>.non|some p=>.tup [.int p.1,iT p.2]
def nms:Sn->List Int
 |none=>[]|some p=>p.2
def rmO:Sn->Int
 |none=>-1|some p=>p.1
theorem jzy s:Oo m_names_of [(.no,stn s)] (λy=>y=(.no,iT (nms s))) noX:=by
 cases s with
 |none=>
  refine k8 ?_;simp![stn];rfl
 |some p=>
  refine k8 ?_;simp![stn,p1];rfl
theorem qvz s:Oo m_room_of [(.no,stn s)] (λy=>∃o',y=(o',.int (rmO s))/\True) noX:=by
 cases s with
 |none=>
  refine k8 ?_;simp![stn];exact⟨_,rfl,trivial⟩
 |some p=>
  refine k8 ?_;simp![stn,p0];exact⟨_,rfl,trivial⟩
theorem wj6{aa aq ss rs ag s s' t t' w}(h:Rd aa ss rs s w s')(h':Rd aq ss ag t w t'):Oo m_read_by_both [(.no,jv ss rs),(.no,jv ss ag),(.no,.tup [s,t]),(.no,.str w.1),(.no,.int w.2)] (λy=>y=(.no,.tup [s',t'])) noX:=by
 refine k8 ?_;simp![p0,p1];refine(qjm h).via ?_;rintro ⟨o,d⟩ e;cases(show d=s' from e);simp![p0,p1];refine(qjm h').via ?_;rintro ⟨o',d⟩ e;cases(show d=t' from e);simp![]
noncomputable def xV(o t:List Int):List Int:=o++t.filter λn=>!(o.any λw=>w==n)
theorem wv9{p}{ks:List Int}:zK (.int p) (.tup (ks.map D.int))=some (.bl (!(ks.any λw=>w==p))):=by
 show Vv _ _=_;unfold Vv;have:fIn _ (.tup _)=some (.bl (ks.any λw=>w==p)):=Jj;rw[this];rfl
theorem vzh(a b)(ha:(nms a).length<=100)(hb:(nms b).length<=100):Oo m_held_by_both [(.no,.tup [stn a,stn b])] (λy=>y=(.no,iT (xV (nms a) (nms b)))) noX:=by
 unfold m_held_by_both;refine k8 ?_;simp![p0,p1];refine(jzy a).via ?_;rintro _ rfl;simp![p0,p1];refine Vq (λE1 B ds af=>E1=[some (Own.no,D.tup [stn a,stn b]),some (.no,iT (nms a))]/\∃q f1 f2,B=[q,some (.no,iT (nms a))]/\nms b=f1++f2/\ds=f2.map D.int/\af.map (·.2)=(f1.filter λn=>!(nms a).any λw=>w==n).map D.int) ?_ ?_ ?_
 ·simp![p0,p1];refine(jzy b).via ?_;rintro _ rfl;simp![];exact⟨none,[],nms b,rfl,rfl,rfl,rfl⟩
 ·rintro E1 B d ds af ⟨rfl,q,f1,f2,rfl,hf,bh,ao⟩;cases f2 with
  | nil=>cases bh
  | cons z f2=>
   rw[List.map_cons]at bh;injection bh with e1 e2;subst e1 e2;simp![wv9];cases hz:((nms a).any λw=>w==z)with
   |true=>
    simp![];refine⟨_,f1++[z],f2,rfl,by rw[hf];simp,rfl,?_⟩;rw[ao,Ya];simp[hz]
   |false=>
    simp![];refine⟨_,f1++[z],f2,rfl,by rw[hf];simp,rfl,?_⟩;rw[Xs,ao,Ya];simp[hz]
 ·rintro E1 B af ⟨rfl,q,f1,f2,rfl,hf,bh,ao⟩;cases f2 with
  |cons=>cases bh
  |nil=>
   rw[Xv]at hf;subst hf;have ef:((nms b).filter λn=>!(nms a).any λw=>w==n).length<=100:=Ye (List.length_filter_le _ _) hb;rw[z4,ao];simp![Q.tup_l (o:=.no) (xs:=((nms b).filter λn=>!(nms a).any λw=>w==n).map D.int) ⋯,vwh (a:=(nms a).map D.int) (b:=((nms b).filter λn=>!(nms a).any λw=>w==n).map D.int) (by rw[X4,X4];lia)];unfold xV iT;rw[Xs]
noncomputable def wx(t:List Int):Nat->List Int->List (Int×Int)
 |_,[]=>[]|k,n::o=>if(t.any λw=>w==n)=true then((k:Int),((t.findIdx λw=>w==n:Nat):Int))::wx t (k+1) o else wx t (k+1) o
abbrev prs(l:List (Int×Int)):List D:=l.map λp=>.tup [.int p.1,.int p.2]
noncomputable def Qq(a b:Sn):D:=.tup [.int (rmO a),.int (rmO b),.tup (prs (wx (nms b) 0 (nms a)))]
theorem qqg(a b)(ha:(nms a).length<=100)(hb:(nms b).length<=100):Oo m_pair_of [(.no,.tup [stn a,stn b])] (λy=>y=(.no,Qq a b)) noX:=by
 unfold m_pair_of;refine k8 ?_;simp![p0,p1];refine(jzy a).via ?_;rintro _ rfl;simp![p0,p1];refine(jzy b).via ?_;rintro _ rfl;simp![];refine Vq (λE1 B ds af=>E1=[some (Own.no,D.tup [stn a,stn b]),some (Own.no,iT (nms a)),some (Own.no,iT (nms b)),none]/\∃(q0 q1:Option Sd) (f1 f2:List Int),B=[q0,q1,some (.no,iT (nms b))]/\nms a=f1++f2/\ds=xk f1.length (f2.map D.int)/\af.map (·.2)++prs (wx (nms b) f1.length f2)=prs (wx (nms b) 0 (nms a))) ?_ ?_ ?_
 ·simp![↓qve,show vjw (iT (nms a))=some ((nms a).map D.int)from rfl];exact⟨none,none,[],nms a,rfl,rfl,rfl,rfl⟩
 ·rintro E1 B d ds af ⟨rfl,q0,q1,f1,f2,rfl,hf,bh,ao⟩;cases f2 with
  | nil=>cases bh
  | cons z f2=>
   have bh:d::ds=.tup [.int f1.length,.int z]::xk (f1.length+1) (f2.map D.int):=bh;injection bh with e1 e2;subst e1 e2;simp![Jj];have fj:(f1++[z]).length=f1.length+1:=by simp
   cases hz:((nms b).any λw=>w==z)with
   |false=>
    simp![];refine⟨_,_,f1++[z],f2,rfl,by rw[hf];simp,by rw[fj],?_⟩;rw[<-ao,fj]
    congr 2
    conv=>rhs;unfold wx
    rw[hz,Xb ⋯]
   |true=>
    simp![vq3 hz];refine⟨_,_,f1++[z],f2,rfl,by rw[hf];simp,by rw[fj],?_⟩;rw[<-ao,fj,Xs,Y0]
    congr 1
    conv=>rhs;unfold wx
    rw[hz,X9 rfl];rfl
 ·rintro E1 B af ⟨rfl,q0,q1,f1,f2,rfl,hf,bh,ao⟩;cases f2 with
  |cons=>cases bh
  |nil=>
   have ao:af.map (·.2)=prs (wx (nms b) 0 (nms a)):=by rw[<-ao];simp[wx]
   rw[z4,ao,show JZ 2 [2] [q0,q1,some (Own.no,iT (nms b))] [some (Own.no,D.tup [stn a,stn b]),some (Own.no,iT (nms a)),some (Own.no,iT (nms b)),none]=[some (Own.no,D.tup [stn a,stn b]),some (Own.no,iT (nms a)),some (Own.no,iT (nms b)),none]from rfl];simp![p0,p1];refine(qvz a).use ?_;intro o1 _;simp![p0,p1];refine(qvz b).use ?_;intro o2 _;simp![Q.tup_l (o:=.rt) (xs:=prs (wx (nms b) 0 (nms a))) ⋯];rfl
noncomputable def Kpr(rs:List D)(room k:Int):Prop:=(room=-1/\k=0)\/(0<=room/\∃g st,rs[room.toNat]?=some (.tup [.int k,g,st]))
theorem eqi{a b k}(h:(a==b)=k):fEq (.int a) (.int b)=some (.bl k):=by rw[<-h];rfl
theorem kq0{ss rs room k}(h:Kpr rs room k):Oo m_keepers_in [(.no,jv ss rs),(.no,.int room)] (λy=>∃o',y=(o',.int k)/\True) noX:=by
 refine k8 ?_;rcases h with⟨rfl,rfl⟩|⟨h0,g,st,hr⟩
 ·simp![eqi rfl];exact⟨_,rfl,trivial⟩
 ·have cw:(room == -1)=false:=Yl ⋯;simp![p0,p1,eqi cw,(xJ h0 hr),show jJ (.tup [.int k,g,st]) (.int 0)=some (.int k)from rfl];exact⟨_,rfl,trivial⟩
noncomputable def J4(room:Int)(ks:List Int):Sn:=if room=-1 then none else some (room,ks)
theorem kj5 room ks o (ho:o≠.dp):Oo m_standing_in [(.no,.int room),(o,iL ks)] (λy=>∃o',y=(o',stn (J4 room ks))/\True) noX:=by
 unfold m_standing_in J4;refine k8 ?_
 by_cases h:room=-1
 ·subst h;simp![eqi rfl];exact⟨_,rfl,trivial⟩
 ·have cw:_=false:=Yl h;rw[Xb h];simp![eqi cw,Q.tup_l ho];exact⟨_,rfl,trivial⟩
noncomputable def nmF(own:Int)(kv:List (Int×Int)):Nat->List Int
 |0=>[]
 |n+1=>nmF own kv n++[match k6 kv n with
  |some i=>i
  |none=>own+((nmF own kv n).filter λx=>decide (own<=x)).length]
theorem jz2:∀(ks:List Int),D.pures (ks.map D.int)=true
 |[]=>rfl
 |k::ks=>by
  rw[List.map_cons];unfold D.pures;rw[jz2 ks];rfl
theorem jzx own kv n:nmF own kv (n+1)=nmF own kv n++[match k6 kv n with|some i=>i|none=>own+((nmF own kv n).filter λx=>decide (own<=x)).length]:=rfl
theorem qw0 k:jW 0 k=(((List.range k.toNat).map λ(i:Nat)=>(i:Int)).map D.int):=by
 unfold jW;rw[Xl,Int.sub_zero];refine Yp λi _=>?_
 show D.int _=D.int i;rw[Int.zero_add]
theorem vkc s:(stn s).pure=true:=by
 cases s with
 |none=>rfl
 |some p=>
  show D.pures [.tup _]=true;simp only[D.pures,D.pure,jz2,Bool.and_self]
theorem kjt(own)(kv):∀n,(nmF own kv n).length=n
 |0=>rfl|n+1=>by unfold nmF;rw[Xk,kjt own kv n];rfl
noncomputable def kvS(sh:List (Int×Int)):List (Int×Int):=(sh.map λp=>(p.2,p.1)).foldl (λkv p=>qQ kv p.1 p.2) []
theorem vq9 {ss rs ag p q k k' sh} (hp:Kpr rs p k) (hq:Kpr ag q k') (hk:0<=k) (b5:k<=100) (cj:0<=k') (hk2':k'<=100) (gp:sh.length<=100):
  Oo m_first_standings [(.no,jv ss rs),(.no,jv ss ag),(.no,.tup [.int p,.int q,.tup (prs sh)])] (λy=>y=(.no,.tup [stn (J4 p ((List.range k.toNat).map λ(i:Nat)=>(i:Int))),stn (J4 q (nmF k (kvS sh) k'.toNat))])) noX:=by
 have t0:jJ (.tup [.int p,.int q,.tup (prs sh)]) (.int 0)=some (.int p):=rfl;have t1:jJ (.tup [.int p,.int q,.tup (prs sh)]) (.int 1)=some (.int q):=rfl;have t2:jJ (.tup [.int p,.int q,.tup (prs sh)]) (.int 2)=some (.tup (prs sh)):=rfl;unfold m_first_standings;refine k8 ?_;simp![t0,t1,t2];refine (kq0 hp).use ?_;intro o1 _;simp![t0,t1,t2];refine Vq (λE1 B ds af=>E1=[some (Own.no,jv ss rs),some (Own.no,jv ss ag),some (Own.no,D.tup [D.int p,D.int q,D.tup (prs sh)]),some (o1,D.int k),none,none,none]/\∃(q0 q1:Option Sd) (f1 f2:List (Int×Int)),B=[q0,q1]/\sh=f1++f2/\ds=prs f2/\af.map (·.2)=prs (f1.map λp=>(p.2,p.1))) ?_ ?_ ?_
 ·simp![t2];exact ⟨none,none,[],sh,rfl,rfl,rfl,rfl⟩
 ·rintro E1 B d ds af ⟨rfl,q0,q1,f1,f2,rfl,hf,bh,ao⟩;cases f2 with
  | nil=>cases bh
  | cons z f2=>
   have bh:d::ds=.tup [.int z.1,.int z.2]::prs f2:=bh;injection bh with e1 e2;subst e1 e2;simp![];refine⟨_,_,f1++[z],f2,rfl,by rw[hf];simp,rfl,?_⟩;rw [Xs,ao,Xs];simp [prs]
 ·rintro E1 B af ⟨rfl,q0,q1,f1,f2,rfl,hf,bh,ao⟩;cases f2 with
  | cons=>cases bh
  | nil =>
   rw [Xv]at hf;subst hf;rw [z4,ao,show JZ 2 [] [q0,q1] [some (Own.no,jv ss rs),some (Own.no,jv ss ag),some (Own.no,D.tup [D.int p,D.int q,D.tup (prs sh)]),some (o1,D.int k),none,none,none]=[some (Own.no,jv ss rs),some (Own.no,jv ss ag),some (Own.no,D.tup [D.int p,D.int q,D.tup (prs sh)]),some (o1,D.int k),none,none,none]from rfl];have ff:VJ (Own.no,D.lst (prs (sh.map λp=>(p.2,p.1))))=some (.rt,v9 (kvS sh)):=wwg (by rw[X4];lia);simp![ff];refine v3 (λE a8=>∃(j:Int) (l6:Option Sd),E=[some (Own.no,jv ss rs),some (Own.no,jv ss ag),some (Own.no,D.tup [D.int p,D.int q,D.tup (prs sh)]),some (o1,D.int k),some (.rt,v9 (kvS sh)),some (.rt,iL (nmF k (kvS sh) j.toNat)),l6]/\0<=j/\j<=k'/\a8=jW j k') ?_ ?_ ?_
   ·simp![t0,t1,t2];refine(kq0 hq).use ?_;intro o2 _;simp![];exact⟨0,_,rfl,⋯,cj,rfl⟩
   ·rintro E d ds ⟨j,l6,rfl,j0,j1,hr⟩;obtain⟨hj,rfl,rfl⟩:=xZ j1 hr;have oq:(j+1).toNat=j.toNat+1:=⋯
    have qu:((j.toNat:Nat):Int)=j:=⋯
    simp![];refine vX rfl ?_;cases hv:k6 (kvS sh) j with
    | some v=>
     simp![↓wjq,ww2,wzw hv,hv,Option.isSome_some];refine⟨_,rfl,by rw[X4,kjt];lia,j+1,some (.no,.int j),?_,⋯,⋯,rfl⟩;rw [oq,jzx,qu,hv];simp
    | none=>
     simp![↓wjq,ww2,hv,Option.isSome_none];have hge:∀z:Int,fGe (.int z) (.int k)=some (.bl (decide (k<=z))):=λz=>rfl
     refine Vq (λE1 B ds af=>E1=[some (Own.no,jv ss rs),some (Own.no,jv ss ag),some (Own.no,D.tup [D.int p,D.int q,D.tup (prs sh)]),some (o1,D.int k),some (.rt,v9 (kvS sh)),some (.rt,iL (nmF k (kvS sh) j.toNat)),some (.no,.int j)]/\∃(q0:Option Sd) (f1 f2:List Int),B=[q0,some (o1,.int k)]/\nmF k (kvS sh) j.toNat=f1++f2/\ds=f2.map D.int/\af.map (·.2)=(f1.filter λx=>decide (k<=x)).map D.int) ?_ ?_ ?_
     ·refine v_is rfl (jz2 _) ?_;exact⟨rfl,none,[],_,rfl,rfl,rfl,rfl⟩
     ·rintro E1 B d ds af ⟨rfl,q0,f1,f2,rfl,hf,bh,ao⟩;cases f2 with
      | nil=>cases bh
      | cons z f2=>
       rw[List.map_cons]at bh;injection bh with e1 e2;subst e1 e2;simp![hge]
       by_cases hz:k<=z
       ·have i6:decide (k<=z)=true:=Xg hz;simp![i6];refine⟨_,f1++[z],f2,rfl,by rw[hf];simp,rfl,?_⟩;rw[Xs,ao,Ya];simp[hz]
       ·have i6:decide (k<=z)=false:=Xh hz;simp![i6];refine⟨_,f1++[z],f2,rfl,by rw[hf];simp,rfl,?_⟩;rw[ao,Ya];simp[hz]
     ·rintro E1 B af ⟨rfl,q0,f1,f2,rfl,hf,bh,ao⟩;cases f2 with
      |cons=>cases bh
      |nil=>
       rw[Xv]at hf;rw[z4,ao,<-hf];simp![];refine⟨_,rfl,by rw[X4,kjt];lia,j+1,some (.no,.int j),?_,⋯,⋯,rfl⟩;rw[oq,jzx,qu,hv];have:∀(l:List Int) (v:Int),l.map D.int++[D.int v]=(l++[v]).map D.int:=λl v=>by simp
       rw[this];rfl
   ·rintro E ⟨j,l6,rfl,j0,j1,hr⟩;have:=xX j1 hr;subst this;simp![t0,t1,t2];rw[qw0];refine(kj5 p ((List.range k.toNat).map λ(i:Nat)=>(i:Int)) .no ⋯).use ?_;intro o3 _;simp![t0,t1,t2];refine(kj5 q (nmF k (kvS sh) j.toNat) .no ⋯).use ?_;intro o4 _;refine⟨vkc _,?_⟩;simp![]
abbrev v5(k:Int):List Int:=(List.range k.toNat).map λ(i:Nat)=>(i:Int)
def xkd(p k:Int):Sn:=J4 p (v5 k)
noncomputable def WQ(q k k':Int)(sh:List (Int×Int)):Sn:=J4 q (nmF k (kvS sh) k'.toNat)
section
variable {f:Int->Int}
noncomputable def Kk(aa:List Int)(s:Sn):Prop:=∀room ks,s=some (room,ks)->0<=room/\room<aa.length/\(ks.length:Int)=aa.getD room.toNat 0
end
end B
namespace B
open PySem Q
noncomputable def m__law_cell_at:Fn:=fn 2
  (j5 (sIf (tE (cF2 (pu2 fLt) (vV 1) (vE (cF1 (pu1 qZ) (vV 0))))) (jQ (cH (j8 (vV 0) (vV 1)))) qV)
  (jQ (cC (.int 0))))
noncomputable def m__law_whole:Fn:=fn 1
  (jQ (VQ (vE (cF1 (pu1 (z8 "int")) (vV 0))) (vqp (vE (cF1 (pu1 (z8 "bool")) (vV 0))))))
noncomputable def m__law_stream:Fn:=fn 5
  (j5 (jk 2 (kj .rt []))
  (j5 (sIf (tE (cF2 (pu2 fEq) (vE (cF2 (pu2 kJ) (vV 0) (C9 2))) (C9 1))) (j5 (jk 0 (cF2 (pu2 x3) (vV 0) (C9 2)))
  (j5 (qw (vK (vV 1)) (.n 3) (j5 (qY qX 2 (cF2 (pu2 kJ) (vV 0) (C9 2147483647)))
  (jk 0 (cF2 (pu2 x3) (vV 0) (C9 2147483647)))))
  (jQ (cMv 2)))) qV)
  (j5 (jk 4 (cF2 jK (vE (cF2 (pu2 kJ) (vE (cF2 (pu2 x3) (vV 0) (C9 2))) (C9 2147483647))) (C9 48271)))
  (j5 (qw (vK (vE (cF2 jK (vV 1) (C9 1)))) (.n 3) (j5 (jk 4 (cF2 (pu2 kJ) (vE (cF2 jK (vE (cF2 jK (vE (cF2 zj (vV 4) (vV 4))) (vE (cF2 zj (C9 48271) (vV 4))))) (vV 3))) (C9 2147483647)))
  (qY qX 2 (cF2 (pu2 kJ) (vE (cF2 jK (vE (cF2 zj (vV 4) (C9 40692))) (vE (cF2 zj (C9 7) (vV 3))))) (C9 2147483399)))))
  (jQ (cSl (vV 2) (some (C9 1)) none))))))
noncomputable def m__law_signs:Fn:=fn 7
  (j5 (jk 1 (cC (.str "abcdefghijklmnopqrstuvwxyz")))
  (j5 (jk 2 (jw m__law_stream [(cV 0),(cC (.int 9))]))
  (j5 (jk 3 (vqq "" (vE (cLC .rt 1 [1] (itS (cSl (vV 2) none (some (vE (cF2 jK (C9 1) (vE (cF2 (pu2 kJ) (vV 0) (C9 8)))))))) (.n 0) tYes (cH (j8 (vV 1) (vE (cF2 (pu2 kJ) (vV 0) (C9 26)))))))))
  (j5 (jk 4 (cF2 (pu2 kJ) (vE (cF2 (pu2 x3) (vV 0) (C9 8))) (vE (cF1 (pu1 qZ) (vV 3)))))
  (j5 (jk 5 (kj .rt []))
  (j5 (qw (vK (j8 (vE (kj .rt [(cC (.int 1)),(cC (.int 2)),(cC (.int 1)),(cC (.int 2)),(cC (.int 2)),(cC (.int 1)),(cC (.int 2)),(cC (.int 3))])) (vE (cF2 (pu2 kJ) (vE (cF2 (pu2 x3) (vV 0) (C9 64))) (C9 8))))) (.n 6) (qY qX 5 (cF2 jK (vE (cF2 jK (vE (cSl (vV 3) none (some (vV 4)))) (j8 (vV 1) (vE (cF2 jK (vE (cF2 (pu2 kJ) (j8 (vV 2) (C9 8)) (C9 24))) (vV 6)))))) (vE (cSl (vV 3) (some (vE (cF2 jK (vV 4) (C9 1)))) none)))))
  (jQ (cMv 5))))))))
noncomputable def m__law_fills:Fn:=fn 6
  (j5 (jk 3 (Qw (vV 2)))
  (j5 (jk 4 (kj .rt []))
  (j5 (qw (vK (vV 1)) (.n 5) (j5 (qY qX 4 (Ww 3 (vE (cF2 (pu2 kJ) (vV 0) (vE (cF1 (pu1 qZ) (vV 3)))))))
  (jk 0 (cF2 jK (vE (cF2 (pu2 x3) (vV 0) (C9 7))) (vE (cF2 zj (C9 5) (vV 5)))))))
  (jQ (cF1 xz (vV 4))))))
noncomputable def m__law_case:Fn:=fn 5
  (j5 (sIf (tE (cF2 (pu2 fEq) (vE (cF2 (pu2 kJ) (vV 0) (C9 5))) (C9 4))) (jQ (cC .non)) qV)
  (j5 (jk 3 (cLC .rt 1 [1,2] (vK (vE (cF1 (pu1 qZ) (vV 1)))) (.n 0) (tE (cF2 (pu2 fLe) (j8 (vV 1) (vV 0)) (vV 2))) (cV 0)))
  (j5 (jk 4 (cH (j8 (vV 3) (vE (cF2 (pu2 kJ) (vE (cF2 (pu2 x3) (vV 0) (C9 5))) (vE (cF1 (pu1 qZ) (vV 3))))))))
  (jQ (kX .no [(cV 4),(jw m__law_fills [(cF2 (pu2 x3) (vV 0) (C9 35)),(cH (j8 (vV 1) (vV 4))),(cV 2)])])))))
noncomputable def m__law_plain:Fn:=fn 13
  (j5 (jk 2 (jw m__law_stream [(cV 0),(cC (.int 90))]))
  (j5 (jk 3 (cH (j8 (vE (kj .rt [(cC (.int 1)),(cC (.int 2)),(cC (.int 3)),(cC (.int 4)),(cC (.int 5)),(cC (.int 2)),(cC (.int 4)),(cC (.int 6))])) (vE (cF2 (pu2 kJ) (j8 (vV 2) (C9 0)) (C9 8))))))
  (j5 (jk 4 (cC (.int 2)))
  (j5 (sIf (tAnd (tE (cF2 (pu2 fEq) (vV 3) (C9 3))) (tE (cF2 (pu2 fEq) (vE (cF2 (pu2 kJ) (j8 (vV 2) (C9 1)) (C9 3))) (C9 0)))) (jk 4 (cC (.int 3))) qV)
  (j5 (jk 5 (cF2 jK (vE (kj .rt [(cC (.int 0))])) (vE (cLC .rt 1 [2,4] (vK (vE (cF2 (pu2 YJ) (vV 3) (C9 1)))) (.n 0) tYes (cF2 (pu2 kJ) (vE (cF2 (pu2 x3) (j8 (vV 1) (vE (cF2 jK (C9 1) (vV 0)))) (C9 3))) (vE (cF2 jK (vV 2) (C9 1))))))))
  (j5 (jk 6 (kj .rt []))
  (j5 (jk 7 (cC (.int 8)))
  (j5 (qw (vK (vV 3)) (.n 8) (j5 (jk 9 (kj .rt []))
  (j5 (qw (vK (vE (cF1 (pu1 qZ) (vV 1)))) (.n 10) (j5 (jk 11 (kj .rt []))
  (j5 (qw (vK (vE (cF2 jK (j8 (vV 5) (vV 8)) (C9 1)))) (.n 12) (j5 (qY qX 11 (jw m__law_case [(cH (j8 (vV 2) (vV 7))),(cV 5),(cF2 jK (j8 (vV 5) (vV 8)) (vE (cF1 (pu1 J5) (vE (cF2 (pu2 fEq) (vV 12) (j8 (vV 5) (vV 8)))))))]))
  (jk 7 (cF2 jK (vV 7) (C9 1)))))
  (qY qX 9 (cV 11)))))
  (j5 (qY qX 6 (kX .no [(cH (j8 (vV 5) (vV 8))),(cF2 (pu2 fEq) (vE (cF2 (pu2 kJ) (j8 (vV 2) (vV 7)) (C9 2))) (C9 0)),(cV 9)]))
  (jk 7 (cF2 jK (vV 7) (C9 1)))))))
  (jQ (kX .no [(cF1 V6 (vV 1)),(cV 6)]))))))))))
noncomputable def m__law_read:Fn:=fn 11
  (j5 (sIf (tE (cF2 (f2First fIsNon) (vV 1) (vE (cC .non)))) (jQ (cC .non)) qV)
  (j5 (V5 [4,5] (cV 1))
  (j5 (V5 [6,7,8] (cH (j8 (j8 (vV 0) (C9 1)) (vV 4))))
  (j5 (jk 9 (cV 6))
  (j5 (sIf (tE (cF2 (pu2 K9) (vV 3) (vV 5))) (jk 9 (K3 (vV 5) (vV 3))) qV)
  (j5 (jk 10 (cH (j8 (j8 (vV 8) (vE (K3 (j8 (vV 0) (C9 0)) (vV 2)))) (vV 9))))
  (j5 (sIf (tE (cF2 (f2First fIsNon) (vV 10) (vE (cC .non)))) (jQ (cC .non)) qV)
  (jQ (kX .no [(cH (j8 (vV 10) (C9 0))),(cF1 xz (vE (cLC .rt 1 [5,3] (itS (cH (j8 (vV 10) (C9 1)))) (.n 0) tYes (cH (j8 (vE (cF2 jK (vE (cF1 V6 (vV 1))) (vE (kj .rt [(cV 2)])))) (vV 0))))))])))))))))
noncomputable def m__law_shared:Fn:=fn 6
  (j5 (jk 3 (Qw (vV 2)))
  (j5 (jk 4 (kj .rt []))
  (j5 (qw (vK (vV 1)) (.n 5) (j5 (sIf (tAnd (tE (cF2 (pu2 fNe) (vV 3) (vE (kj .rt [])))) (tE (cF2 (pu2 fGt) (vE (cF2 (pu2 kJ) (vV 0) (C9 3))) (C9 0)))) (qY qX 4 (kX .no [(cV 5),(Ww 3 (vE (cF2 (pu2 kJ) (vE (cF2 (pu2 x3) (vV 0) (C9 3))) (vE (cF1 (pu1 qZ) (vV 3))))))])) qV)
  (jk 0 (cF2 jK (vE (cF2 (pu2 x3) (vV 0) (C9 9))) (vE (cF2 zj (C9 7) (vV 5)))))))
  (jQ (cF1 xz (vV 4))))))
noncomputable def m__law_keepers:Fn:=fn 2
  (j5 (sIf (tE (cF2 (pu2 fEq) (vV 1) (vE (cF1 (pu1 KW) (C9 1))))) (jQ (cC (.int 0))) qV)
  (jQ (cH (j8 (j8 (j8 (vV 0) (C9 1)) (vV 1)) (C9 0)))))
noncomputable def m__law_pair:Fn:=fn 7
  (j5 (jk 2 (kj .rt [(kX .no []),(kX .no [])]))
  (j5 (jk 3 (kj .rt [(cF1 (pu1 KW) (C9 1)),(cF1 (pu1 KW) (C9 1))]))
  (j5 (qw (wxa (kj .rt [(cV 0),(cV 1)])) (.t [4,5]) (sIf (tE (cF2 (f2First fNotNon) (vV 5) (vE (cC .non)))) (j5 (wk8 3 (vV 4) (cH (j8 (vV 5) (C9 0))))
  (wk8 2 (vV 4) (cH (j8 (vV 5) (C9 1))))) qV))
  (j5 (jk 6 (cLC .rt 2 [2] (qz1 (cH (j8 (vV 2) (C9 0)))) (.t [0,1]) (tE (cF2 (pu2 K9) (vV 1) (j8 (vV 2) (C9 1)))) (kX .no [(cV 0),(K3 (j8 (vV 2) (C9 1)) (vV 1))])))
  (jQ (kX .no [(cH (j8 (vV 3) (C9 0))),(cH (j8 (vV 3) (C9 1))),(cF1 xz (vV 6))]))))))
noncomputable def m__law_is_pair:Fn:=fn 3
  (j5 (sIf (tOr (tNot (tEQ (vE (cF1 (pu1 (z8 "tuple")) (vV 0))))) (tOr (tE (cF2 (pu2 fNe) (vE (cF1 (pu1 qZ) (vV 0))) (C9 3))) (tNot (tEQ (vE (cF1 (pu1 (z8 "tuple")) (j8 (vV 0) (C9 2)))))))) (jQ (cC (.bl false))) qV)
  (j5 (sIf (tOr (tNot (tEQ (vE (jw m__law_whole [(cH (j8 (vV 0) (C9 0)))])))) (tNot (tEQ (vE (jw m__law_whole [(cH (j8 (vV 0) (C9 1)))]))))) (jQ (cC (.bl false))) qV)
  (j5 (qw (itS (cH (j8 (vV 0) (C9 2)))) (.n 2) (sIf (tOr (tNot (tEQ (vE (cF1 (pu1 (z8 "tuple")) (vV 2))))) (tOr (tE (cF2 (pu2 fNe) (vE (cF1 (pu1 qZ) (vV 2))) (C9 2))) (tOr (tNot (tEQ (vE (jw m__law_whole [(cH (j8 (vV 2) (C9 0)))])))) (tNot (tEQ (vE (jw m__law_whole [(cH (j8 (vV 2) (C9 1)))]))))))) (jQ (cC (.bl false))) qV))
  (jQ (cF2 (pu2 fEq) (vV 0) (vV 1))))))
end B
namespace B
open Q PySem C
theorem vvq{f xs P}(h:Oo f xs P noX):∃y,P y/\Oo f xs (λy'=>y'=y) noX:=by
 unfold Oo at h ⊢;cases hf:f xs with
 |none=>rw[hf]at h;exact absurd (show False by exists h) id
 |some r=>
  rw[hf]at h;cases r with|ok E y=>exact⟨y,by with_unfolding_all exact h,by exists rfl⟩|exc E c=>grind
def Q6(ns:List Int)(k:Nat):Int:=ns.getD k 0
theorem vzy ns (k:Nat)(hn:ns.length<=10000):Oo m__law_cell_at [(.no,iL ns),(.no,.int k)] (λy=>∃o',y=(o',.int (Q6 ns k))/\True) noX:=by
 refine k8 ?_;simp![]
 by_cases h:(k:Int)<ns.length
 ·have hx:jJ (iL ns) (.int k)=some (.int (Q6 ns k)):=by
   refine xJ ⋯ ?_;unfold Q6;rw[Yt,Xi,X3 ⋯,Xq,X3 ⋯];rfl
  have hd:=Xg h;rw[X9 hd];simp![hx];exact⟨_,rfl,trivial⟩
 ·have hd:¬decide ((k:Int)<ns.length)=true:=by rw[Xh h];decide
  rw[Xb hd];refine⟨.dp,?_,trivial⟩;rw[show Q6 ns k=0 by unfold Q6;rw[Xq,Yg ⋯];rfl]
theorem jx6 i:Oo m__law_whole [(.no,.int i)] (λy=>∃o',y=(o',.bl true)/\True) noX:=by
 refine k8 ?_;simp![show z8 "int" (.int i)=some (.bl true)from rfl,show z8 "bool" (.int i)=some _ from rfl];exact⟨_,rfl,trivial⟩
noncomputable def St(n:Int)(xs:List Int):Prop:=(xs.length:Int)=n/\∀x∈xs,0<=x/\x<2147483647
theorem jx7(c n)(hn:0<=n)(nu:n<=100):Oo m__law_stream [(.no,.int c),(.no,.int n)] (λy=>∃xs,y=(.rt,iL xs)/\St n xs) noX:=by
 unfold m__law_stream;refine k8 ?_
 by_cases h:c % 2=1
 ·have hd:(c % 2==1)=true:=by simp[h]
  simp![eqi hd];refine v3 (λE a8=>∃(j v:Int) (xs:List Int) (l3:Option Sd),E=[some (.dp,.int v),some (.no,.int n),some (.rt,iL xs),l3,none]/\0<=j/\j<=n/\a8=jW j n/\St j xs) ?_ ?_ ?_
  ·simp![];exact⟨0,_,[],_,rfl,⋯,hn,rfl,rfl,λ_ z=>nomatch z⟩
  ·rintro E d ds ⟨j,v,xs,l3,rfl,j0,j1,hr,hx⟩;obtain⟨hj,rfl,rfl⟩:=xZ j1 hr;simp![];refine vX rfl ?_;simp![];refine⟨_,rfl,by rw[X4];have:=hx.1;lia,?_⟩;simp![];refine⟨j+1,v / 2147483647,xs++[v % 2147483647],some (.no,.int j),by simp,⋯,⋯,rfl,by have:=hx.1;simp;lia,λx hm=>?_⟩;rcases aA hm with z|z
   ·exact hx.2 x z
   ·rw[aC z];lia
  ·rintro E ⟨j,v,xs,l3,rfl,j0,j1,hr,hx⟩;have:=xX j1 hr;subst this;simp![];exact⟨xs,rfl,hx⟩
 ·have hd:(c % 2==1)=false:=Yl h;simp![eqi hd];refine v3 (λE a8=>∃(j v:Int) (xs:List Int) (l3:Option Sd),E=[some (.no,.int c),some (.no,.int n),some (.rt,iL xs),l3,some (.dp,.int v)]/\0<=j/\j<=n+1/\a8=jW j (n+1)/\St j xs/\0<=v/\v<4294967296) ?_ ?_ ?_
  ·simp![];exact⟨0,_,[],_,rfl,⋯,⋯,rfl,⟨rfl,λ_ z=>nomatch z⟩,⋯,⋯⟩
  ·rintro E d ds ⟨j,v,xs,l3,rfl,j0,j1,hr,hx,v0,v1⟩;obtain⟨hj,rfl,rfl⟩:=xZ j1 hr;have hm:=mul_l (o1:=.dp) (o2:=.dp) (a:=v) (b:=v) ⋯ ⋯;simp![hm];generalize hw:(v*v+48271*v+j) % 2147483647=u;have u0:0<=u/\u<2147483647:=by rw[<-hw];lia
   have lh:=mul_l (o1:=.dp) (o2:=.dp) (a:=u) (b:=40692) ⋯ ⋯;refine vX rfl ?_;simp![lh];refine⟨_,rfl,by rw[X4];have:=hx.1;lia,(⟨j+1,u,xs++[(u*40692+7*j) % 2147483399],some (.no,.int j),by simp,⋯,⋯,rfl,⟨by have:=hx.1;simp;lia,λx hm=>?_⟩,⋯,⋯⟩)⟩;rcases aA hm with z|z
   ·exact hx.2 x z
   ·rw[aC z];lia
  ·rintro E ⟨j,v,xs,l3,rfl,j0,j1,hr,hx,v0,v1⟩;have:=xX j1 hr;subst this;simp![vk1 (o:=.rt) (xs:=xs.map D.int) (lo:=some 1) (hi:=none) ⋯];have hl:=hx.1;have hcut:Jx (xs.map D.int) (some 1) none=(xs.drop 1).map D.int:=by
    unfold Jx V4;dsimp only;rw[Xb ⋯,X4,show min (1:Int).toNat xs.length=1 by show min 1 xs.length=1;lia,<-List.map_drop,List.take_of_length_le (by rw[X4,Zh];lia)]
   rw[hcut];exact⟨xs.drop 1,rfl,by rw[Zh];lia,λx hm=>hx.2 x (List.mem_of_mem_drop hm)⟩
theorem kw6 n:((List.range n).map λ(j:Nat)=>(j:Int)).Nodup:=List.Pairwise.map _ (λa b h e=>h ⋯) List.nodup_range
theorem qkp(x need free)(h0:0<=need)(h1:need<=free)(h2:free<=100):Oo m__law_fills [(.no,.int x),(.no,.int need),(.no,.int free)] (λy=>∃fs:List Int,y=(.no,.tup (fs.map D.int))/\(fs.length:Int)=need/\(∀f∈fs,0<=f/\f<free)/\fs.Nodup) noX:=by
 unfold m__law_fills;refine k8 ?_;simp![];rw[qw0];refine v3 (λE a8=>∃(j v:Int) (o:Own) (sm fl:List Int) (l5:Option Sd),E=[some (o,.int v),some (.no,.int need),some (.no,.int free),some (.rt,iL sm),some (.rt,iL fl),l5]/\0<=j/\j<=need/\a8=jW j need/\(fl.length:Int)=j/\(sm.length:Int)+fl.length=free/\(fl++sm).Nodup/\∀f∈fl++sm,0<=f/\f<free) ?_ ?_ ?_
 ·simp![];refine⟨0,x,.no,(List.range free.toNat).map λ(j:Nat)=>(j),[],none,rfl,⋯,h0,rfl,rfl,?_,?_,?_⟩
  ·simp;lia
  ·rw[List.nil_append];exact kw6 _
  ·intro f hf;rw[List.nil_append]at hf;obtain⟨j,hj,rfl⟩:=aE hf;have:=List.mem_range.mp hj;lia
 ·rintro E d ds ⟨j,v,o,sm,fl,l5,rfl,j0,j1,hr,hl,hs,hn,hm⟩;obtain⟨hj,rfl,rfl⟩:=xZ j1 hr;have hsm:0<sm.length:=⋯
  have u1:=Y4 v (show(0:Int)<sm.length by lia);have hi:(v % sm.length).toNat<sm.length:=⋯
  simp![];refine vX rfl (vvi rfl ?_);simp![mod_i (a:=v) (b:=(sm.length:Int)) ⋯];refine⟨.rt,_,_,.int (sm[(v % sm.length).toNat]),rfl,⋯,rfl,(Yd v (show(sm.length:Int)≠0 by lia)),⋯,by rw[Xi,X3 hi];rfl,rfl,?_⟩;simp![];refine⟨_,rfl,by rw[X4];lia,?_⟩;simp![];have pm:(fl++[sm[(v % sm.length).toNat]]++sm.eraseIdx (v % sm.length).toNat).Perm (fl++sm):=by
   rw[Y0];exact List.Perm.append_left fl (V2 hi)
  refine⟨j+1,v / 7+5*j,.dp,sm.eraseIdx (v % sm.length).toNat,fl++[sm[(v % sm.length).toNat]],some (.no,.int j),?_,⋯,⋯,rfl,?_,?_,pm.nodup_iff.mpr hn,λf hf=>hm f (pm.mem_iff.mp hf)⟩
  ·simp only[iL,Xs,List.map_cons,List.map_nil,kk6]
  ·rw[Xk];simp;lia
  ·rw[List.length_eraseIdx_of_lt hi,Xk];simp;lia
 ·rintro E ⟨j,v,o,sm,fl,l5,rfl,j0,j1,hr,hl,hs,hn,hm⟩;have:=xX j1 hr;subst this;simp![Q.tup_l (o:=.rt) (xs:=fl.map D.int) ⋯];exact⟨fl,rfl,hl,λf hf=>hm f (ll9 _ hf),(List.nodup_append.mp hn).1⟩
theorem vqm(x free)(aa)(hk:∀p∈aa,0<=p/\p<=3)(lx:aa[0]?=some 0)(hl:aa.length<=100)(hf:0<=free)(qy:free<=100):Oo m__law_case [(.no,.int x),(.no,iL aa),(.no,.int free)] (λy=>Cs aa free y.2) noX:=by
 have ah:0<aa.length:=by
  cases aa with| nil=>cases lx| cons=>simp
 unfold m__law_case;refine k8 ?_
 by_cases h:x % 5=4
 ·have hd:(x % 5==4)=true:=by simp[h]
  simp![eqi hd];exact .inl rfl
 ·have hd:(x % 5==4)=false:=Yl h;simp![eqi hd];refine Vq (λE1 B ds af=>E1=[some (.no,.int x),some (.no,iL aa),some (.no,.int free),none,none]/\∃(j:Int) (q0:Option Sd) (fl:List Int),B=[q0,some (.no,iL aa),some (.no,.int free)]/\0<=j/\j<=aa.length/\ds=jW j aa.length/\af.map (·.2)=fl.map D.int/\(∀t∈fl,0<=t/\t<aa.length/\aa.getD t.toNat 0<=free)/\(0<j->fl≠[])/\(fl.length:Int)<=j) ?_ ?_ ?_
  ·simp![];exact⟨0,none,[],rfl,⋯,⋯,rfl,rfl,λ_ z=>(nomatch z),λz=>absurd z ⋯,by simp⟩
  ·rintro E1 B d ds af ⟨rfl,j,q0,fl,rfl,j0,j1,hr,ao,ng,cw,ef⟩;obtain⟨hj,rfl,rfl⟩:=xZ j1 hr;have hjl:j.toNat<aa.length:=⋯
   have hx:jJ (iL aa) (.int j)=some (.int (aa.getD j.toNat 0)):=xJ j0 (by rw[Xi,X3 hjl,Xq,X3 hjl];rfl)
   by_cases hz:aa.getD j.toNat 0<=free
   ·have i6:decide (aa.getD j.toNat 0<=free)=true:=Xg hz;simp![hx,i6];refine⟨j+1,_,fl++[j],rfl,⋯,⋯,rfl,by rw[Xs,Xs,ao];rfl,λt ht=>?_,λ_=>by simp,by simp;lia⟩;rcases aA ht with q|q
    ·exact ng t q
    ·rw[aC q];exact⟨j0,⋯,hz⟩
   ·have i6:decide (aa.getD j.toNat 0<=free)=false:=Xh hz;have hj0:0<j:=by
     rcases Int.lt_or_eq_of_le j0 with q|q
     ·exact q
     ·subst q;exfalso;apply hz;rw[Xq];show(aa[0]?).getD 0<=free;rw[lx];exact hf
    simp![hx,i6];exact⟨j+1,_,fl,rfl,⋯,⋯,rfl,ao,ng,λ_=>cw hj0,⋯⟩
  ·rintro E1 B af ⟨rfl,j,q0,fl,rfl,j0,j1,hr,ao,ng,cw,ef⟩;have:=xX j1 hr;subst this;have hfl0:0<fl.length:=List.length_pos_iff.mpr (cw ⋯);have u0:=Yd (x / 5) (show(fl.length:Int)≠0 by lia);have u1:=Y4 (x / 5) (show(0:Int)<fl.length by lia);have hi:(x / 5 % fl.length).toNat<fl.length:=⋯
   obtain⟨t,et⟩:∃t,fl[(x / 5 % fl.length).toNat]?=some t:=⟨_,X3 hi⟩;obtain⟨t0,t1,t2⟩:=ng t (Xx et);have hx:jJ (iL fl) (.int (x / 5 % fl.length))=some (.int t):=xJ u0 (by rw[Xi,et];rfl);have htl:t.toNat<aa.length:=⋯
   have hy:jJ (iL aa) (.int t)=some (.int (aa.getD t.toNat 0)):=xJ t0 (by rw[Xi,X3 htl,Xq,X3 htl];rfl);have hkt:=hk (aa.getD t.toNat 0) (by rw[Xq,X3 htl];exact Y3 _);rw[z4,ao,show JZ 1 [1,2] [q0,some (Own.no,iL aa),some (Own.no,D.int free)] [some (Own.no,D.int x),some (Own.no,iL aa),some (Own.no,D.int free),none,none]=[some (Own.no,D.int x),some (Own.no,iL aa),some (Own.no,D.int free),none,none]from rfl];simp![mod_i (a:=x / 5) (b:=(fl.length:Int)) ⋯,hx,hy];refine(qkp (x / 35) (aa.getD t.toNat 0) free hkt.1 t2 qy).use ?_;rintro fs ⟨f1,f2,f3⟩;simp![];exact .inr ⟨t,fs,rfl,t0,t1,f2,f3,f1⟩
noncomputable def Gdr(rs:List D)(room:Int)(g:Bool):Prop:=(room=-1/\g=false)\/(0<=room/\∃k st,rs[room.toNat]?=some (.tup [k,.bl g,st]))
theorem nei{a b k}(h:(a==b)=k):fNe (.int a) (.int b)=some (.bl !k):=by rw[<-h];rfl
theorem neg1:KW (.int 1)=some (.int (-1)):=rfl
theorem jvk{ss rs room k}(h:Kpr rs room k):Oo m__law_keepers [(.no,jv ss rs),(.no,.int room)] (λy=>∃o',y=(o',.int k)/\True) noX:=by
 refine k8 ?_;rcases h with⟨rfl,rfl⟩|⟨h0,g,st,hr⟩
 ·simp![neg1,eqi (a:=-1) (b:=-1) rfl];exact⟨_,rfl,trivial⟩
 ·have cw:(room == -1)=false:=Yl ⋯;simp![neg1,p0,p1,eqi cw,(xJ h0 hr),show jJ (.tup [.int k,g,st]) (.int 0)=some (.int k)from rfl];exact⟨_,rfl,trivial⟩
theorem qkc{o xs}(h:o≠.dp):V6 (o,.tup xs)=some (.rt,.lst xs):=by
 cases o with|dp=>exact absurd rfl h|no=>rfl|rt=>rfl
theorem vk6{aa}{ss:List Str}{rs st:List D}{gd:D}{room:Int}{ks:List Int}{z:Str}{p:Int}(h0:0<=room)(hr:rs[room.toNat]?=some (.tup [.int ks.length,gd,.lst st]))(hc:Cas aa ss.length ks.length st)(hl:ks.length<=1000)(hz:(ss.any λw=>w==z)=true):
  Oo m__law_read [(.no,jv ss rs),(.no,.tup [.int room,iT ks]),(.no,.str z),(.no,.int p)] (λy=>y.2=KK ss st ks z p) noX:=by
 have hi:jJ (.lst rs) (.int room)=some (.tup [.int ks.length,gd,.lst st]):=xJ h0 hr;unfold KK;obtain⟨cs,g1,g2,g3,g4⟩:=vj1 p hc hz;have hx:jJ (.lst st) (.int (ss.findIdx λw=>w==z:Nat))=some (.lst cs):=xJ ⋯ (by rw[Yt];exact g1);have hy:jJ (.lst cs) (.int (ks.findIdx λw=>w==p:Nat))=some (Kz ss st ks z p):=xJ ⋯ (by rw[Yt];exact g3);have gf:=ww3 hz;rw [X9 hz];generalize Kz ss st ks z p=c at g4 hy;have d3:jK (.no,.lst (ks.map D.int)) (.no,.lst [.int p])=some (.rt,.lst ((ks++[p]).map D.int)):=by
  rw[show(ks++[p]).map D.int=ks.map D.int++[.int p]by simp];exact YZ ⋯ ⋯ (by simp;lia)
 have i3:∀{i:Int},0<=i->i<=ks.length->jJ (.lst ((ks++[p]).map D.int)) (.int i)=some (.int (C.nameAt ks p i)):=fun {i} i0 i1=>by
  refine xJ i0 ?_;unfold C.nameAt;rw[Xi,Xq,X3 (by simp;lia)];rfl
 unfold m__law_read;refine k8 ?_;cases hp:(ks.any λw=>w==p)with
 | true=>
  have se:=vq3 hp;rcases g4 with rfl|⟨to,fs,rfl,t0',t1',mh,_⟩
  ·simp![p0,p1,hi,Jj,hp,se,gf,hx,hy];rfl
  ·have q0:jJ (.tup [.int to,.tup (fs.map D.int)]) (.int 0)=some (.int to):=rfl;have q1:jJ (.tup [.int to,.tup (fs.map D.int)]) (.int 1)=some (.tup (fs.map D.int)):=rfl;simp![p0,p1,hi,Jj,hp,se,gf,hx,hy,q0,q1];have e5:(fs.map D.int).map (λf=>match f with|.int i=>.int (C.nameAt ks p i)|_=>.non)=(fs.map (C.nameAt ks p)).map D.int:=by rw[Xl,Xl];rfl
   have hb:=qj0 (own:=ks.length) (k:=(ks.findIdx λw=>w==p:Nat));refine Q5 [some (.no,iT ks),some (.no,.int p)] (λf y=>y.2=match f with|.int i=>.int (C.nameAt ks p i)|_=>.non) ?_;simp![q1];refine⟨rfl,λf hf=>?_,λys p8=>?_⟩
   ·obtain⟨i,lu,rfl⟩:=aE hf;have:=mh i lu;simp![qkc (o:=.no) (xs:=ks.map D.int) ⋯,d3,i3 (i:=i) this.1 ⋯];exact⟨⟨_,rfl⟩,trivial⟩
   ·rw[z4,W8 (h:=λf=>match f with|.int i=>.int (C.nameAt ks p i)|_=>.non) (λd y h=>h) p8,e5];simp only[back,clr,at',List.set_cons_zero,List.set_cons_succ];simp![Q.tup_l (o:=.no) (xs:=(fs.map (C.nameAt ks p)).map D.int) ⋯];exact caseD_is.symm
 | false=>
  have hfi:(ks.findIdx λw=>w==p)=ks.length:=by
   refine List.findIdx_eq_length.mpr λx hx=>?_
   have:=List.any_eq_false.mp hp x hx
   simpa using this
  rw[hfi]at hy;rcases g4 with rfl|⟨to,fs,rfl,t0',t1',mh,_⟩
  ·simp![p0,p1,hi,Jj,hp,gf,hx,hy];rfl
  ·have q0:jJ (.tup [.int to,.tup (fs.map D.int)]) (.int 0)=some (.int to):=rfl;have q1:jJ (.tup [.int to,.tup (fs.map D.int)]) (.int 1)=some (.tup (fs.map D.int)):=rfl;simp![p0,p1,hi,Jj,hp,gf,hx,hy,q0,q1];have e5:(fs.map D.int).map (λf=>match f with|.int i=>.int (C.nameAt ks p i)|_=>.non)=(fs.map (C.nameAt ks p)).map D.int:=by rw[Xl,Xl];rfl
   have hb:=qj0 (own:=ks.length) (k:=(ks.findIdx λw=>w==p:Nat));refine Q5 [some (.no,iT ks),some (.no,.int p)] (λf y=>y.2=match f with|.int i=>.int (C.nameAt ks p i)|_=>.non) ?_;simp![q1];refine⟨rfl,λf hf=>?_,λys p8=>?_⟩
   ·obtain⟨i,lu,rfl⟩:=aE hf;have:=mh i lu;simp![qkc (o:=.no) (xs:=ks.map D.int) ⋯,d3,i3 (i:=i) this.1 ⋯];exact⟨⟨_,rfl⟩,trivial⟩
   ·rw[z4,W8 (h:=λf=>match f with|.int i=>.int (C.nameAt ks p i)|_=>.non) (λd y h=>h) p8,e5];simp only[back,clr,at',List.set_cons_zero,List.set_cons_succ];simp![Q.tup_l (o:=.no) (xs:=(fs.map (C.nameAt ks p)).map D.int) ⋯];exact caseD_is.symm
noncomputable def PSt(a b:Sn)(n0 n1:List Int)(r0 r1:Int)(a8:List D):Prop:=(a8=[.tup [.int 0,stn a],.tup [.int 1,stn b]]/\n0=[]/\n1=[]/\r0=-1/\r1=-1)\/(a8=[.tup [.int 1,stn b]]/\n0=nms a/\n1=[]/\r0=rmO a/\r1=-1)\/(a8=[]/\n0=nms a/\n1=nms b/\r0=rmO a/\r1=rmO b)
theorem vkm(a b)(ha:(nms a).length<=100)(hb:(nms b).length<=100):Oo m__law_pair [(.no,stn a),(.no,stn b)] (λy=>y=(.no,Qq a b)) noX:=by
 have sn:stn none=.non:=rfl;have ss:∀s,stn (some s)=.tup [.int s.1,iT s.2]:=λs=>rfl
 unfold m__law_pair;refine k8 ?_;simp![neg1];refine v3 (λE a8=>∃(n0 n1:List Int) (r0 r1:Int) (l4 l5:Option Sd),E=[some (.no,stn a),some (.no,stn b),some (.rt,.lst [iT n0,iT n1]),some (.rt,.lst [.int r0,.int r1]),l4,l5,none]/\PSt a b n0 n1 r0 r1 a8) ?_ ?_ ?_
 ·simp![];exact⟨[],[],-1,-1,_,_,rfl,.inl ⟨rfl,rfl,rfl,rfl,rfl⟩⟩
 ·rintro E d ds ⟨n0,n1,r0,r1,l4,l5,rfl,⟨hr,rfl,rfl,rfl,rfl⟩|⟨hr,rfl,rfl,rfl,rfl⟩|⟨hr,_⟩⟩
  ·injection hr with e1 e2;subst e1 e2;cases a with
   | none=>
    simp![sn];exact⟨[],[],-1,-1,_,_,rfl,.inr (.inl ⟨rfl,rfl,rfl,rfl,rfl⟩)⟩
   | some s=>
    simp![ss];refine WJ ?_;simp![p0,p1];refine⟨rfl,.rt,_,0,0,rfl,⋯,rfl,rfl,(WJ ?_)⟩;simp![p0,p1];exact⟨rfl,.rt,_,0,0,rfl,⋯,rfl,rfl,(⟨s.2,[],s.1,-1,some (.no,.int 0),some (.no,.tup [.int s.1,iT s.2]),rfl,.inr (.inl ⟨rfl,rfl,rfl,rfl,rfl⟩)⟩)⟩
  ·injection hr with e1 e2;subst e1 e2;cases b with
   | none=>
    simp![sn];exact⟨nms a,[],rmO a,-1,_,_,rfl,.inr (.inr ⟨rfl,rfl,rfl,rfl,rfl⟩)⟩
   | some s=>
    simp![ss];refine WJ ?_;simp![p0,p1];refine⟨rfl,.rt,_,1,1,rfl,⋯,rfl,rfl,(WJ ?_)⟩;simp![p0,p1];exact⟨rfl,.rt,_,1,1,rfl,⋯,rfl,rfl,(⟨nms a,s.2,rmO a,s.1,some (.no,.int 1),some (.no,.tup [.int s.1,iT s.2]),rfl,.inr (.inr ⟨rfl,rfl,rfl,rfl,rfl⟩)⟩)⟩
  ·cases hr
 ·rintro E ⟨n0,n1,r0,r1,l4,l5,rfl,⟨hr,_⟩|⟨hr,_⟩|⟨_,rfl,rfl,rfl,rfl⟩⟩
  ·cases hr
  ·cases hr
  ·have i0:jJ (.lst [iT (nms a),iT (nms b)]) (.int 0)=some (iT (nms a)):=rfl;have i1:jJ (.lst [iT (nms a),iT (nms b)]) (.int 1)=some (iT (nms b)):=rfl;have j0:jJ (.lst [.int (rmO a),.int (rmO b)]) (.int 0)=some (.int (rmO a)):=rfl;have j1:jJ (.lst [.int (rmO a),.int (rmO b)]) (.int 1)=some (.int (rmO b)):=rfl;simp![];refine Vq (λE1 B ds af=>E1=[some (.no,stn a),some (.no,stn b),some (.rt,.lst [iT (nms a),iT (nms b)]),some (.rt,.lst [.int (rmO a),.int (rmO b)]),l4,l5,none]/\∃(q0 q1:Option Sd) (f1 f2:List Int),B=[q0,q1,some (.rt,.lst [iT (nms a),iT (nms b)])]/\nms a=f1++f2/\ds=xk f1.length (f2.map D.int)/\af.map (·.2)++prs (wx (nms b) f1.length f2)=prs (wx (nms b) 0 (nms a))) ?_ ?_ ?_
   ·simp![i0,↓qve,show vjw (iT (nms a))=some ((nms a).map D.int)from rfl];exact⟨none,none,[],nms a,rfl,rfl,rfl,rfl⟩
   ·rintro E1 B d ds af ⟨rfl,q0,q1,f1,f2,rfl,hf,bh,ao⟩;cases f2 with
    | nil=>cases bh
    | cons z f2=>
     have bh:d::ds=.tup [.int f1.length,.int z]::xk (f1.length+1) (f2.map D.int):=bh;injection bh with e1 e2;subst e1 e2;simp![i0,i1,Jj];have fj:(f1++[z]).length=f1.length+1:=by simp
     cases hz:((nms b).any λw=>w==z)with
     |false=>
      simp![];refine⟨_,_,f1++[z],f2,rfl,by rw[hf];simp,by rw[fj],?_⟩;rw[<-ao,fj]
      congr 2
      conv=>rhs;unfold wx
      rw[hz,Xb ⋯]
     |true=>
      simp![i0,i1,vq3 hz];refine⟨_,_,f1++[z],f2,rfl,by rw[hf];simp,by rw[fj],?_⟩;rw[<-ao,fj,Xs,Y0]
      congr 1
      conv=>rhs;unfold wx
      rw[hz,X9 rfl];rfl
   ·rintro E1 B af ⟨rfl,q0,q1,f1,f2,rfl,hf,bh,ao⟩;cases f2 with
    |cons=>cases bh
    |nil=>
     have ao:af.map (·.2)=prs (wx (nms b) 0 (nms a)):=by rw[<-ao];simp[wx]
     rw[z4,ao,show JZ 2 [2] [q0,q1,some (Own.rt,D.lst [iT (nms a),iT (nms b)])] [some (Own.no,stn a),some (Own.no,stn b),some (Own.rt,D.lst [iT (nms a),iT (nms b)]),some (Own.rt,D.lst [D.int (rmO a),D.int (rmO b)]),l4,l5,none]=[some (Own.no,stn a),some (Own.no,stn b),some (Own.rt,D.lst [iT (nms a),iT (nms b)]),some (Own.rt,D.lst [D.int (rmO a),D.int (rmO b)]),l4,l5,none]from rfl];simp![j0,j1,Q.tup_l (o:=.rt) (xs:=prs (wx (nms b) 0 (nms a))) ⋯];rfl
theorem qkl:∀l,D.flats 38 (prs l)=true
 |[]=>by simp[D.flats]
 |p::l=>by
  have ih:=qkl l;unfold prs at ih ⊢;rw[List.map_cons];simp only[D.flats,D.flat,ih,Bool.and_self]
theorem vzm(r r') l:(D.tup [.int r,.int r',.tup (prs l)]).flat 40=true:=by
 have:=qkl l;simp only[D.flat,D.flats,this,Bool.and_self]
theorem qqu(r r')(l):Oo m__law_is_pair [(.no,.tup [.int r,.int r',.tup (prs l)]),(.no,.tup [.int r,.int r',.tup (prs l)])] (λy=>∃o',y=(o',.bl true)/\True) noX:=by
 have t0:jJ (.tup [.int r,.int r',.tup (prs l)]) (.int 0)=some (.int r):=rfl;have t1:jJ (.tup [.int r,.int r',.tup (prs l)]) (.int 1)=some (.int r'):=rfl;have t2:jJ (.tup [.int r,.int r',.tup (prs l)]) (.int 2)=some (.tup (prs l)):=rfl;have it:∀ds,z8 "tuple" (.tup ds)=some (.bl true):=λds=>rfl
 unfold m__law_is_pair;refine k8 ?_;simp![t0,t1,t2,it,nei (a:=3) (b:=3) rfl,show((3:Nat):Int)=3 from rfl];rw[Xb ⋯];refine(jx6 r).use ?_;intro o1 _;simp![t0,t1,t2];refine(jx6 r').use ?_;intro o2 _;simp![t0,t1,t2];refine v3 (λE a8=>∃(l2:Option Sd) (m:List (Int×Int)),E=[some (.no,.tup [.int r,.int r',.tup (prs l)]),some (.no,.tup [.int r,.int r',.tup (prs l)]),l2]/\a8=prs m) ?_ ?_ ?_
 ·simp![t0,t1,t2];exact⟨none,l,rfl,rfl⟩
 ·rintro E d ds ⟨l2,m,rfl,hr⟩;cases m with
  |nil=>cases hr
  |cons z m=>
   have hr:d::ds=.tup [.int z.1,.int z.2]::prs m:=hr;injection hr with e1 e2;subst e1 e2;simp![p0,p1,it,nei (a:=2) (b:=2) rfl,show((2:Nat):Int)=2 from rfl];rw[Xb ⋯];refine(jx6 z.1).use ?_;intro o3 _;simp![p0,p1];refine(jx6 z.2).use ?_;intro o4 _;simp![];exact⟨_,m,rfl,rfl⟩
 ·rintro E ⟨l2,m,rfl,hr⟩;simp![(C.eq_self (vzm r r' l))];exact⟨_,rfl,trivial⟩
noncomputable def W7(ft size:Int)(sh:List (Int×Int)):Prop:=(∀p∈sh,0<=p.1/\p.1<ft/\0<=p.2/\p.2<size)/\(sh.map (·.1)).Nodup/\(sh.map (·.2)).Nodup
theorem qvv(x ft size)(h0:0<=ft)(h1:ft<=100)(h2:0<=size)(h3:size<=100):Oo m__law_shared [(.no,.int x),(.no,.int ft),(.no,.int size)] (λy=>∃sh,y=(.no,.tup (prs sh))/\W7 ft size sh/\(sh.length:Int)<=ft) noX:=by
 unfold m__law_shared;refine k8 ?_;simp![];rw [qw0];refine v3 (λE a8=>∃(j v:Int) (o:Own) (sm:List Int) (sh:List (Int×Int)) (l5:Option Sd),E=[some (o,.int v),some (.no,.int ft),some (.no,.int size),some (.rt,iL sm),some (.rt,.lst (prs sh)),l5]/\0<=j/\j<=ft/\a8=jW j ft/\(sh.length:Int)<=j/\sm.length<=100/\(sh.map (·.2)++sm).Nodup/\(∀f∈sm,0<=f/\f<size)/\(∀p∈sh,0<=p.1/\p.1<j/\0<=p.2/\p.2<size)/\(sh.map (·.1)).Nodup) ?_ ?_ ?_
 ·simp![];refine⟨0,x,.no,(List.range size.toNat).map λ(j:Nat)=>(j),[],none,rfl,⋯,h0,rfl,by simp,?_,?_,?_,?_,Y8⟩
  ·simp;lia
  ·exact kw6 _
  ·intro f hf;obtain⟨j,hj,rfl⟩:=aE hf;have:=List.mem_range.mp hj;lia
  ·intro p hp;exact nomatch hp
 ·rintro E d ds ⟨j,v,o,sm,sh,l5,rfl,j0,j1,hr,hl,hs,hn,hm,gp,jl⟩;obtain⟨hj,rfl,rfl⟩:=xZ j1 hr;cases he:sm.isEmpty with
  | true=>
   simp![C.ne_empty,he];exact⟨j+1,v / 9+7*j,.dp,sm,sh,some (.no,.int j),rfl,⋯,⋯,rfl,⋯,hs,hn,hm,λp hp=>by have:=gp p hp;lia,jl⟩
  | false=>
   by_cases hv:0<v % 3
   ·have ud:decide (0<v % 3)=true:=Xg hv;have hsm:0<sm.length:=by
     cases sm with|nil=>cases he|cons=>simp
    have u1:=Y4 (v / 3) (show(0:Int)<sm.length by lia);have hi:(v / 3 % sm.length).toNat<sm.length:=⋯
    simp![C.ne_empty,he,ud];refine vX rfl ?_;simp![];refine vvi rfl ?_;simp![mod_i (a:=v / 3) (b:=(sm.length:Int)) ⋯];refine⟨.rt,_,_,.int (sm[(v / 3 % sm.length).toNat]),rfl,⋯,rfl,(Yd (v / 3) (show(sm.length:Int)≠0 by lia)),⋯,by rw[Xi,X3 hi];rfl,rfl,?_⟩;simp![];refine⟨_,rfl,by rw[X4];lia,?_⟩;simp![];have hmem:sm[(v / 3 % sm.length).toNat]∈sm:=Y3 hi;have pm:(sh.map (·.2)++[sm[(v / 3 % sm.length).toNat]]++sm.eraseIdx (v / 3 % sm.length).toNat).Perm (sh.map (·.2)++sm):=by
     rw[Y0];exact List.Perm.append_left _ (V2 hi)
    refine⟨j+1,v / 9+7*j,.dp,sm.eraseIdx (v / 3 % sm.length).toNat,sh++[(j,sm[(v / 3 % sm.length).toNat])],some (.no,.int j),?_,⋯,⋯,rfl,by simp;lia,?_,?_,λf hf=>hm f (List.mem_of_mem_eraseIdx hf),λp hp=>?_,?_⟩
    ·simp only[iL,prs,Xs,List.map_cons,List.map_nil,kk6]
    ·rw[List.length_eraseIdx_of_lt hi];lia
    ·rw[Xs];exact pm.nodup_iff.mpr hn
    ·rcases aA hp with q|q
     ·have:=gp p q;lia
     ·rw[aC q];have:=hm _ hmem;exact⟨j0,by show j<j+1;lia,this.1,this.2⟩
    ·rw[Xs,Xj];refine⟨jl,by simp,λa ha b hb e=>?_⟩;obtain⟨p,hp,rfl⟩:=aE ha;have hb:b=j:=by simpa using hb
     have:=gp p hp;lia
   ·have ud:decide (0<v % 3)=false:=Xh hv;simp![C.ne_empty,he,ud];exact⟨j+1,v / 9+7*j,.dp,sm,sh,some (.no,.int j),rfl,⋯,⋯,rfl,⋯,hs,hn,hm,λp hp=>by have:=gp p hp;lia,jl⟩
 ·rintro E ⟨j,v,o,sm,sh,l5,rfl,j0,j1,hr,hl,hs,hn,hm,gp,jl⟩;have:=xX j1 hr;subst this;simp![Q.tup_l (o:=.rt) (xs:=prs sh) ⋯];exact⟨sh,rfl,⟨gp,jl,(List.nodup_append.mp hn).1⟩,hl⟩
noncomputable def WX:D->D:=λd=>match d with
 |.tup [.int r,x]=>if r=-1 then .non else .tup [.int r,x]|_=>.non
theorem qzb r ks:WX (.tup [.int r,.tup (ks.map D.int)])=stn (J4 r ks):=by
 unfold WX J4;dsimp only
 split<;>rfl
theorem vxg{m N N' C R X}(h:Po m N C R X)(k:∀E,N E->N' E):Po m N' C R X:=by
 cases m with
 |none=>exists h
 |some r=>cases r with|nx E=>exists k E h|bk E=>exists h|ct E=>exists h|rt E x=>exists h|xc E c=>exists h
theorem qjx{a b E N C R}{X} I (h1:Po (a E) I C R X)(h2:∀E,I E->Po (b E) N C R X):Po (j5 a b E) N C R X:=by
 rw[vvj];exact vxg h1 h2
inductive PlC (c:Int)(ss:List Str)(xs:List Int)(size m:Int)(aa:List Int)(rs:List D)(r own:Int)(st:List D)(s:Int):En->List D->Prop
 |mk (k:Int) (bc:Int) (cs:List D) {o5:Own} {o7:Own} {km:Option Sd} {a8:List D} (h0:sub o5=.no) (h1:0<=k) (h2:k<=own+1) (h3:a8=jW k (own+1)) (h4:(cs.length:Int)=k) (h5:8<=bc) (h6:bc<=8+(3*(m+1)+1)*r+(m+1)*s+k) (h7:∀k:Nat,k<cs.length->∃z,cs[k]?=some z/\Cs aa (qK own k) z):PlC c ss xs size m aa rs r own st s [some (.no,.int c),some (.no,sL ss),some (.rt,iL xs),some (.no,.int size),some (.dp,.int m),some (o5,iL aa),some (.rt,.lst rs),some (o7,.int bc),some (.no,.int r),some (.rt,.lst st),some (.no,.int s),some (.rt,.lst cs),km] a8
inductive PlB (c:Int)(ss:List Str)(xs:List Int)(size m:Int)(aa:List Int)(rs:List D)(r own:Int):En->List D->Prop
 |mk (s:Int) (bc:Int) (st:List D) {o5:Own} {o7:Own} {lc:Option Sd} {m5:Option Sd} {km:Option Sd} {a8:List D} (h0:sub o5=.no) (h1:0<=s) (h2:s<=ss.length) (h3:a8=jW s ss.length) (h4:(st.length:Int)=s) (h5:8<=bc) (h6:bc<=8+(3*(m+1)+1)*r+(m+1)*s) (h7:∀c∈st,∃cs:List D,c=.lst cs/\(cs.length:Int)=own+1/\∀k:Nat,k<cs.length->∃z,cs[k]?=some z/\Cs aa (qK own k) z):PlB c ss xs size m aa rs r own [some (.no,.int c),some (.no,sL ss),some (.rt,iL xs),some (.no,.int size),some (.dp,.int m),some (o5,iL aa),some (.rt,.lst rs),some (o7,.int bc),some (.no,.int r),some (.rt,.lst st),lc,m5,km] a8
inductive PlA (c:Int)(ss:List Str)(xs:List Int)(size m:Int)(aa:List Int):En->List D->Prop
 |mk (r:Int) (bc:Int) (rs:List D) {l8:Option Sd} {l9:Option Sd} {lc:Option Sd} {m5:Option Sd} {km:Option Sd} {o5:Own} {o7:Own} {a8:List D} (h0:sub o5=.no) (h1:0<=r) (h2:r<=size) (h3:a8=jW r size) (h4:(rs.length:Int)=r) (h5:8<=bc) (h6:bc<=8+(3*(m+1)+1)*r) (h7:∀i:Nat,i<rs.length->∃d,rs[i]?=some d/\Pr aa ss.length (aa.getD i 0) d):PlA c ss xs size m aa [some (.no,.int c),some (.no,sL ss),some (.rt,iL xs),some (.no,.int size),some (.dp,.int m),some (o5,iL aa),some (.rt,.lst rs),some (o7,.int bc),l8,l9,lc,m5,km] a8
theorem qws(c)(ss)(hs:1<=ss.length)(jh:ss.length<=3):Oo m__law_plain [(.no,.int c),(.no,sL ss)] (λy=>∃rs,y=(.no,jv ss rs)/\∃aa:List Int,1<=aa.length/\aa.length<=6/\aa[0]?=some 0/\(∀p∈aa,0<=p/\p<=3)/\Prs aa ss.length rs) noX:=by
 unfold m__law_plain;refine k8 ?_;simp![];refine(jx7 c 90 ⋯ ⋯).use ?_;intro xs hx;have hxl:=hx.1;have ix:∀i:Int,0<=i->i<90->∃v:Int,jJ (iL xs) (.int i)=some (.int v)/\0<=v:=λi i0 i1=>by
  obtain⟨v,e,h,_⟩:=ixI xs _ hx.2 i i0 ⋯;exact⟨v,e,h.1⟩
 obtain⟨v0,e0,a0⟩:=ix 0 ⋯ ⋯;obtain⟨v1,e1,a1⟩:=ix 1 ⋯ ⋯;have q0:=Yd v0 (show(8:Int)≠0 by decide);have q1:=Y4 v0 (show(0:Int)<8 by decide);obtain⟨size,esz,sz0,sz1⟩:∃sz:Int,jJ (.lst [.int 1,.int 2,.int 3,.int 4,.int 5,.int 2,.int 4,.int 6]) (.int (v0 % 8))=some (.int sz)/\1<=sz/\sz<=6:=by
  generalize v0 % 8=t at q0 q1;have:t=0\/t=1\/t=2\/t=3\/t=4\/t=5\/t=6\/t=7:=⋯
  rcases this with rfl|rfl|rfl|rfl|rfl|rfl|rfl|rfl<;>exact⟨_,rfl,⋯,⋯⟩
 refine qjx (λE=>E=[some (.no,.int c),some (.no,sL ss),some (.rt,iL xs),some (.no,.int size),none,none,none,none,none,none,none,none,none]) ?_ ?_
 ·simp![e0,esz]
 rintro E rfl;refine qjx (λE=>E=[some (.no,.int c),some (.no,sL ss),some (.rt,iL xs),some (.no,.int size),some (.dp,.int 2),none,none,none,none,none,none,none,none]) ?_ ?_
 ·simp![]
 rintro E rfl;refine qjx (λE=>∃m:Int,E=[some (.no,.int c),some (.no,sL ss),some (.rt,iL xs),some (.no,.int size),some (.dp,.int m),none,none,none,none,none,none,none,none]/\((m=2)\/(m=3/\size=3))) ?_ ?_
 ·by_cases h3:size=3
  ·have hb:(size==3)=true:=by simp[h3]
   by_cases h4:v1 % 3=0
   ·have dj:(v1 % 3==0)=true:=by simp[h4]
    simp![e1,eqi hb,eqi dj];exact⟨3,rfl,.inr ⟨rfl,h3⟩⟩
   ·have dj:(v1 % 3==0)=false:=Yl h4;simp![e1,eqi hb,eqi dj];exact⟨2,rfl,.inl rfl⟩
  ·have hb:(size==3)=false:=Yl h3;simp![eqi hb];exact⟨2,rfl,.inl rfl⟩
 rintro E ⟨m,rfl,hm⟩;have hm0:2<=m/\m<=3:=by rcases hm with rfl|⟨rfl,_⟩<;>lia
 simp![];refine Q5 [some (.rt,iL xs),some (.dp,.int m)] (λ_ y=>∃i,y=(.dp,.int i)/\0<=i/\i<=m) ?_;simp![];refine⟨rfl,λd iu=>?_,λys hy=>?_⟩
 ·obtain⟨i,i0,i1,rfl⟩:=kze iu;obtain⟨w,ew,aw⟩:=ix (1+i) ⋯ ⋯;have:=Yd (w / 3) (show m+1≠0 by lia);have:=Y4 (w / 3) (show 0<m+1 by lia);simp![ew,mod_i (a:=w / 3) (b:=m+1) ⋯];exact⟨⟨_,rfl⟩,_,rfl,⋯,⋯⟩
 obtain⟨ks,h1,h2,h3⟩:=kk8 (S:=λi=>0<=i/\i<=m) (λd y ⟨i,h,s⟩=>⟨i,by rw[h],s⟩) hy;rw [z4,h1];simp only[back,clr,at',List.map_cons,List.map_nil,List.set_cons_zero,List.set_cons_succ];have lq:((0::ks).length:Int)=size:=by rw[Xm];have:=qxn (k:=0) (n:=size - 1) ⋯;lia
 have fu:∀p∈(0::ks:List Int),0<=p/\p<=m:=λp hp=>by
  rcases aD hp with rfl|hp
  ·exact⟨⋯,⋯⟩
  ·exact h3 p hp
 have kg:∀p∈(0::ks:List Int),0<=p/\p<=3:=λp hp=>by have:=fu p hp;lia
 have d3:jK (.no,.lst [.int 0]) (.no,.lst (ks.map D.int))=some (.rt,iL (0::ks)):=YZ ⋯ ⋯ (by rw[X4];simp at lq ⊢;lia);have lx:(0::ks:List Int)[0]?=some 0:=rfl;simp![d3];generalize (0::ks:List Int)=aa at lq fu kg d3 lx;refine v3 (PlA c ss xs size m aa) ?_ ?_ ?_
 ·simp![];exact⟨0,8,[],rfl,⋯,⋯,rfl,rfl,⋯,⋯,λi hi=>nomatch hi⟩
 ·rintro E d ds ⟨r,bc,rs,hs5,r0,r1,hr,jg,at0,ij,hrs⟩;obtain⟨hrk,rfl,rfl⟩:=xZ r1 hr;obtain⟨own,eo,⟨ow0,ow1⟩,how⟩:=ixI aa _ fu r r0 ⋯;simp![];refine v3 (PlB c ss xs size m aa rs r own) ?_ ?_ ?_
  ·simp![];exact⟨0,bc,[],hs5,⋯,⋯,rfl,rfl,⋯,⋯,λc hc=>nomatch hc⟩
  ·rintro E d ds ⟨s,bc,st,hs5,s0,s1,hr,fz,at0,ij,b6⟩;obtain⟨hsk,rfl,rfl⟩:=xZ s1 hr;simp![];refine v3 (PlC c ss xs size m aa rs r own st s) ?_ ?_ ?_
   ·simp![eo,hs5];exact⟨0,bc,[],hs5,⋯,⋯,rfl,rfl,⋯,⋯,λc hc=>nomatch hc⟩
   ·rintro E d ds ⟨k,bc,cs,hs5,k0,k1,hr,cb,at0,ij,jp⟩;obtain⟨hkk,rfl,rfl⟩:=xZ k1 hr;have il:bc<90:=by rcases hm with rfl|⟨rfl,_⟩<;>lia
    obtain⟨w,ew,aw⟩:=ix bc ⋯ il;have on:own+(if k=own then(1:Int)else 0)=qK own k:=rfl;have hB0:0<=qK own k/\qK own k<=4:=by unfold qK;split<;>lia
    simp![];refine vX rfl ?_;simp![eo,ew,W0,kvg,on,hs5];refine(vqm w (qK own k) aa kg lx ⋯ hB0.1 ⋯).via ?_;intro y hy;simp![];refine⟨_,rfl,⋯,k+1,bc+1,cs++[y.2],rfl,⋯,⋯,rfl,by simp;lia,⋯,⋯,?_⟩;intro j hj;rw[Xk,Z3]at hj
    by_cases hj2:j<cs.length
    ·obtain⟨z,z1,z2⟩:=jp j hj2;exact⟨z,by rw[Xw hj2];exact z1,z2⟩
    ·have:j=cs.length:=⋯
     subst this;exact⟨y.2,by simp,by rw[cb];exact hy⟩
   ·rintro E ⟨k,bc,cs,hs5,k0,k1,hr,cb,at0,ij,jp⟩;have:=xX k1 hr;subst this;refine vX rfl ?_;simp![];refine⟨_,rfl,⋯,s+1,bc,st++[.lst cs],hs5,⋯,⋯,rfl,by simp;lia,⋯,by rcases hm with rfl|⟨rfl,_⟩<;>lia,λc hc=>?_⟩;rcases aA hc with z|z
    ·exact b6 c z
    ·rw[aC z];exact⟨cs,rfl,cb,jp⟩
  ·rintro E ⟨s,bc,st,hs5,s0,s1,hr,fz,at0,ij,b6⟩;have:=xX s1 hr;subst this;have il:bc<90:=by rcases hm with rfl|⟨rfl,_⟩<;>lia
   obtain⟨w,ew,_⟩:=ix bc ⋯ il;simp![];refine vX rfl ?_;simp![eo,ew,W0,hs5];refine⟨_,rfl,⋯,?_⟩;simp![];refine PlA.mk (r+1) (bc+1) (rs++[.tup [.int own,.bl (w % 2==0),.lst st]]) hs5 ?_ ?_ rfl ?_ ?_ ?_ ?_
   ·lia
   ·lia
   ·simp;lia
   ·lia
   ·rcases hm with rfl|⟨rfl,_⟩<;>lia
   intro j hj;rw[Xk,Z3]at hj
   by_cases hj2:j<rs.length
   ·obtain⟨z,z1,z2⟩:=hrs j hj2;exact⟨z,by rw[Xw hj2];exact z1,z2⟩
   ·have:j=rs.length:=⋯
    subst this;refine⟨_,by simp;rfl,?_⟩;have hg:aa.getD rs.length 0=own:=by rw[Xq,show rs.length=r.toNat by lia,how];rfl
    rw[hg];exact⟨_,st,rfl,⋯,b6⟩
 ·rintro E ⟨r,bc,rs,hs5,r0,r1,hr,jg,at0,ij,hrs⟩;have:=xX r1 hr;subst this;simp![vvy (o:=.no) (xs:=ss.map D.str) ⋯];exact⟨rs,rfl,aa,⋯,⋯,lx,kg,⟨⋯,λi hi=>hrs i ⋯⟩⟩
theorem kx7{G}(hG:∀d y,G d y->∃c,y.2=.str ⟨#[c]⟩):∀{ds ys},Each G ds ys->∃ps:List Str,ys.map (·.2)=ps.map D.str/\ps.length=ds.length/\∀p∈ps,p.length=1
 |[],[],_=>⟨[],rfl,rfl,λ_ h=>nomatch h⟩
 |d::ds,y::ys,r=>by
  obtain⟨i,e⟩:=hG d y r.1;obtain⟨ps,h1,h2,h3⟩:=kx7 hG r.2;exact⟨⟨#[i]⟩::ps,by simp[e,h1],by simp[h2],λp hp=>(aD hp).elim (λz=>z▸rfl) (h3 p)⟩
theorem qjd:∀{ps:List Str},(∀p∈ps,p.length=1)->(ps.map (·.length)).sum=ps.length
 |[],_=>rfl|p::ps,h=>by rw[List.map_cons,List.sum_cons,h p X5,qjd λq hq=>h q (lc9 _ hq),Xm];lia
theorem vq2{y ys}(h:y.length=1):1<=(Str.join "" (y::ys)).length:=by
 cases ys with
 |nil=>show 1<=y.length;lia
 |cons z ys=>
  show 1<=(y++""++Str.join "" _).cps.size;rw[kqn,kqn];have:y.cps.size=1:=h;lia
theorem vza{ps:List Str}(h:∀p∈ps,p.length=1)(h0:1<=ps.length)(h1:ps.length<=100):∃z,qzj "" (.lst (ps.map D.str))=some (.str z)/\1<=z.cps.size/\z.cps.size<=100:=by
 have hz:("":Str).length=0:=rfl;have hs:=qjd h;refine⟨Txt.join "" ps,?_,?_,?_⟩
 ·unfold qzj;dsimp only;rw[kxx];dsimp only;rw[X9 (by rw[hs,hz];lia)]
 ·unfold Txt.join;rw[StrLaws.glued_eq_join];cases ps with|nil=>cases h0|cons y ys=>exact vq2 (h y X5)
 ·show(Txt.join "" ps).length<=100;unfold Txt.join;rw[StrLaws.glued_eq_join];have:=StrLaws.join_length_le "" ps;rw[hs,hz]at this;lia
theorem wx3{o z lo hi}(h:z.cps.size<=100):fSl (o,.str z) lo hi=some (.dp,.str (Txt.slice z lo hi)):=by
 have hl:=Txt.slice_le z lo hi;have h:z.length<=100:=h;show(if(Txt.slice z lo hi).length<=big then _ else none)=_;rw[X9 (by unfold big;lia)]
theorem qvt(c):Oo m__law_signs [(.no,.int c)] (λy=>∃ss,y=(.rt,sL ss)/\1<=ss.length/\ss.length<=3) noX:=by
 have m0:=Yd c (show(8:Int)≠0 by decide);have m1:=Y4 c (show(0:Int)<8 by decide);unfold m__law_signs;refine k8 ?_;simp![];refine(jx7 c 9 ⋯ ⋯).use ?_;intro xs hx;have hxl:=hx.1;simp![↓wjp];have fz:fSl (Own.no,iL xs) none (some (1+c % 8))=some (.rt,iL (xs.take (1+c % 8).toNat)):=by
  rw[show iL xs=.lst (xs.map D.int)from rfl,vk1 (o:=.no) ⋯,vwc ⋯ (by rw[X4];lia),<-List.map_take]
 have hsl':fSl (Own.rt,iL xs) none (some (1+c % 8))=some (.rt,iL (xs.take (1+c % 8).toNat)):=by
  rw[show iL xs=.lst (xs.map D.int)from rfl,vk1 (o:=.rt) ⋯,vwc ⋯ (by rw[X4];lia),<-List.map_take]
 refine Q5 [some (.dp,.str "abcdefghijklmnopqrstuvwxyz")] (λ_ y=>∃c,y.2=.str ⟨#[c]⟩) ?_;simp![fz,hsl'];refine⟨rfl,λd hd=>?_,λys p8=>?_⟩
 ·obtain⟨t,ht,rfl⟩:=aE hd;obtain⟨ch,hc⟩:=qkg "abcdefghijklmnopqrstuvwxyz" (t % 26) (Yd t (show(26:Int)≠0 by decide)) (Y4 t (show(0:Int)<26 by decide));simp![hc];exact⟨⟨_,rfl⟩,ch,rfl⟩
 obtain⟨ps,h1,h2,h3⟩:=kx7 (λd y h=>h) p8;have cg:ps.length=(1+c % 8).toNat:=by rw[h2,X4,Yr];lia
 obtain⟨z,hz,z0,z1⟩:=vza h3 ⋯ ⋯;rw[z4,h1];simp only[back,clr,at',List.map_cons,List.map_nil,List.set_cons_zero,List.set_cons_succ];have ah:qZ (.str z)=some (.int z.cps.size):=rfl;simp![hz,ah,mod_i (a:=c / 8) (b:=(z.cps.size:Int)) ⋯];generalize il:c / 8 % (z.cps.size:Int)=a;obtain⟨m,em,mm0,mm1⟩:∃m,jJ (.lst [.int 1,.int 2,.int 1,.int 2,.int 2,.int 1,.int 2,.int 3]) (.int (c / 64 % 8))=some (.int m)/\1<=m/\m<=3:=by
  have q0:=Yd (c / 64) (show(8:Int)≠0 by decide);have q1:=Y4 (c / 64) (show(0:Int)<8 by decide);generalize c / 64 % 8=t at q0 q1;have:t=0\/t=1\/t=2\/t=3\/t=4\/t=5\/t=6\/t=7:=⋯
  rcases this with rfl|rfl|rfl|rfl|rfl|rfl|rfl|rfl<;>exact⟨_,rfl,⋯,⋯⟩
 obtain⟨v,ev,⟨v0,_⟩,_⟩:=ixI xs _ hx.2 8 ⋯ ⋯;refine v3 (λE a8=>∃(j:Int) (ss:List Str) (l6:Option Sd) (o1 o3:Own),E=[some (.no,.int c),some (o1,.str "abcdefghijklmnopqrstuvwxyz"),some (.rt,iL xs),some (o3,.str z),some (.dp,.int a),some (.rt,sL ss),l6]/\0<=j/\j<=m/\a8=jW j m/\(ss.length:Int)=j) ?_ ?_ ?_
 ·simp![em];exact⟨0,[],_,_,_,rfl,⋯,⋯,rfl,rfl⟩
 ·rintro E d ds ⟨j,ss,l6,o1,o3,rfl,j0,j1,hr,hl⟩;obtain⟨hj,rfl,rfl⟩:=xZ j1 hr;have u0:=Yd v (show(24:Int)≠0 by decide);have u1:=Y4 v (show(0:Int)<24 by decide);obtain⟨ch,hc⟩:=qkg "abcdefghijklmnopqrstuvwxyz" (v % 24+j) ⋯ (show v % 24+j<26 by lia);have s1:=wx3 (o:=.no) (z:=z) (lo:=none) (hi:=some a) ⋯;have s2:=wx3 (o:=.no) (z:=z) (lo:=some (a+1)) (hi:=none) ⋯;have s1':=wx3 (o:=o3) (z:=z) (lo:=none) (hi:=some a) ⋯;have s2':=wx3 (o:=o3) (z:=z) (lo:=some (a+1)) (hi:=none) ⋯;have g1:(Txt.slice z none (some a)).cps.size<=100:=Ye (Txt.slice_le z none (some a)) z1;have g2:(Txt.slice z (some (a+1)) none).cps.size<=100:=Ye (Txt.slice_le z (some (a+1)) none) z1;generalize Txt.slice z none (some a)=w1 at s1 s1' g1;generalize Txt.slice z (some (a+1)) none=w2 at s2 s2' g2;have jc:((⟨#[ch]⟩:Str).cps.size)=1:=rfl;simp![];refine vX rfl ?_;simp![s1,s2,s1',s2',ev,hc,(vjh (o1:=.no) (o2:=.no) (a:=w1) (b:=⟨#[ch]⟩) (by rw[jc];lia)),(vjh (o1:=.no) (o2:=.no) (a:=w1++⟨#[ch]⟩) (b:=w2) (by rw[kqn,jc];lia)),(vjh (o1:=.no) (o2:=sub o1) (a:=w1) (b:=⟨#[ch]⟩) (by rw[jc];lia))];refine⟨_,rfl,by rw[X4];lia,?_⟩;rw[show ∀w,ss.map D.str++[D.str w]=(ss++[w]).map D.str from λw=>by simp];exact⟨j+1,ss++[_],_,_,_,rfl,⋯,⋯,rfl,by simp;lia⟩
 ·rintro E ⟨j,ss,l6,o1,o3,rfl,j0,j1,hr,hl⟩;have:=xX j1 hr;subst this;simp![];exact⟨ss,rfl,⋯,⋯⟩
theorem vkw{kv k v p}(h:p∈qQ kv k v):p∈kv\/p=(k,v):=by
 unfold qQ at h
 split at h
 ·obtain⟨q,hq,rfl⟩:=aE h
  by_cases e:q.1=k
  ·rw[X9 e];exact .inr (by rw[e])
  ·rw[Xb e];exact .inl hq
 ·rcases aA h with z|z
  ·exact .inl z
  ·exact .inr (aC z)
theorem vjr{kv k v}(h:k6 kv k=some v):(k,v)∈kv:=by
 unfold k6 at h;cases hf:kv.find? λp=>decide (p.1=k)with|none=>grind|some p=>grind
theorem qk8:∀(ps kv:List (Int×Int)) {p},p∈ps.foldl (λkv p=>qQ kv p.1 p.2) kv->p∈kv\/p∈ps
 | [],kv,p,h=>.inl h
 | q::ps,kv,p,h=>by
  rcases qk8 ps _ h with z|z
  ·rcases vkw z with z|z
   ·exact .inl z
   ·exact .inr (z▸X5)
  ·exact .inr (lc9 _ z)
theorem vwm{sh j i}(h:k6 (kvS sh) j=some i):(i,j)∈sh:=by
 rcases qk8 _ _ (vjr h)with z|z
 ·grind
 ·grind
noncomputable def kW(own:Int)(kv:List (Int×Int))(n:Nat):Nat:=((nmF own kv n).filter λx=>decide (own<=x)).length
section
variable {own:Int}{kv:List (Int×Int)}
theorem WK{n:Nat}{i}(h:k6 kv n=some i):nmF own kv (n+1)=nmF own kv n++[i]:=by rw[jzx,h]
theorem XQ{n:Nat}(h:k6 kv n=none):nmF own kv (n+1)=nmF own kv n++[own+kW own kv n]:=by rw[jzx,h];rfl
theorem qx3(ho:0<=own)(hv:∀j i,k6 kv j=some i->0<=i/\i<own):∀n,∀x∈nmF own kv n,0<=x/\x<own+kW own kv n
 | 0,x,h=>nomatch h
 | n+1,x,h=>by
  have ih:=qx3 ho hv n;cases hc:k6 kv n with
  | some i=>
   have hi:=hv _ _ hc;have nt:kW own kv (n+1)=kW own kv n:=by
    unfold kW;rw[WK hc,Ya];have:decide (own<=i)=false:=Xh ⋯;simp[this]
   rw[WK hc]at h;rw[nt];rcases aA h with z|z
   ·exact ih x z
   ·rw[aC z];lia
  | none=>
   have nt:kW own kv (n+1)=kW own kv n+1:=by
    unfold kW;rw[XQ hc,Ya];have:decide (own<=own+(kW own kv n))=true:=Xg ⋯;simp[this]
   rw[XQ hc]at h;rw[nt];rcases aA h with z|z
   ·have:=ih x z;lia
   ·rw[aC z];lia
end
theorem vq5{k sh n}(hk:0<=k)(hv:∀j i,k6 (kvS sh) j=some i->0<=i/\i<k):((xV (v5 k) (nmF k (kvS sh) n)).length:Int)=k+kW k (kvS sh) n:=by
 unfold xV kW;rw[Xk,X4,Y5];have:(nmF k (kvS sh) n).filter (λm=>!(v5 k).any λw=>w==m)=(nmF k (kvS sh) n).filter λx=>decide (k<=x):=by
  refine List.filter_congr λx hx=>?_
  have h0:=(qx3 hk hv n x hx).1;rw[vjg]
  by_cases hkx:k<=x
  ·rw[Xg hkx,Xh]
   ·rfl
   ·grind
  ·rw[Xh hkx,Xg]
   ·rfl
   ·exact List.mem_map.mpr ⟨x.toNat,List.mem_range.mpr ⋯,⋯⟩
 rw[this];lia
theorem qjl{aa ss rs S z c d}(hP:Prs aa ss.length rs)(hS:Kk aa S)(hz:(ss.any λw=>w==z)=true)(h:Rd aa ss rs (stn S) (z,c) d):
  Oo m__law_read [(.no,jv ss rs),(.no,stn S),(.no,.str z),(.no,.int c)] (λy=>y.2=d) noX:=by
 cases S with
 | none=>
  have hd:d=.non:=by
   rcases h with⟨_,e⟩|⟨room,ks,st,kp,gd,e,_⟩
   ·exact e
   ·cases e
  subst hd;refine k8 ?_;simp![show stn none=.non from rfl]
 | some P=>
  obtain⟨room,ks⟩:=P;obtain⟨r0,r1,hl⟩:=hS room ks rfl;rcases h with⟨e,_⟩|⟨room',dh,st,kp,gd,e,h0,hr,hc,hl3,hd⟩
  ·cases e
  ·injection e with e;injection e with e1 e2;injection e1 with e1;injection e2 with e2 _;injection e2 with e2;have e2:ks=dh:=List.map_inj_right (λ_ _ h=>by injection h)|>.mp e2
   subst e1 e2 hd;obtain⟨r,er,gd',dz,rfl,_⟩:=hP.2 room.toNat ⋯;rw[er]at hr;injection hr with hr;injection hr with hr;have hr':rs[room.toNat]?=some (.tup [.int ks.length,gd,.lst st]):=by
    grind
   exact vk6 h0 hr' hc ⋯ hz
theorem wvk{aa n rs}{p:Int}(hP:Prs aa n rs)(h0:-1<=p)(h1:p<aa.length):∃k g,Kpr rs p k/\Gdr rs p g/\(p=-1->k=0)/\(0<=p->k=aa.getD p.toNat 0):=by
 by_cases h:p=-1
 ·exact⟨0,false,.inl ⟨h,rfl⟩,.inl ⟨h,rfl⟩,λ_=>rfl,λz=>by lia⟩
 ·obtain⟨r,er,gd,st,rfl,_⟩:=hP.2 p.toNat ⋯;exact⟨_,gd,.inr ⟨⋯,_,_,er⟩,.inr ⟨⋯,_,_,er⟩,λz=>absurd z h,λ_=>rfl⟩
theorem qvr{aa p ks}(h0:-1<=p)(h1:p<aa.length)(h2:0<=p->(ks.length:Int)=aa.getD p.toNat 0):Kk aa (J4 p ks):=by
 intro room dh e;unfold J4 at e
 split at e
 ·grind
 ·injection e with e;injection e with e1 e2;subst e1 e2;exact⟨⋯,h1,h2 ⋯⟩
theorem vvt{p ks}(h:p=-1->ks=[]):nms (J4 p ks)=ks:=by
 unfold J4
 split
 ·rename_i e;rw[h e];rfl
 ·rfl
theorem kq4{aa ss rs}(hP:Prs aa ss.length rs) n:(jv ss rs).flat (n+8)=true:=by
 refine wZ λd hd=>?_
 simp at hd;rcases hd with rfl|rfl
 ·exact wZ λk hk=>by obtain⟨w,_,rfl⟩:=aE hk;rfl
 ·refine wZ λr hr=>?_
  obtain⟨i,hi,e⟩:=List.mem_iff_getElem.mp hr;obtain⟨r',er,gd,st,rfl,_,b6⟩:=hP.2 i (by have:=hP.1;lia);rw[X3 hi,e]at er;injection er with er;subst er;refine wZ λd hd=>?_
  simp only[Yn,Yc,or_false]at hd;rcases hd with rfl|rfl|rfl
  ·rfl
  ·rfl
  ·refine wZ λc hc=>?_
   obtain⟨cs,rfl,_,jp⟩:=b6 c hc;refine wZ λz hz=>?_
   obtain⟨j,hj,ej⟩:=List.mem_iff_getElem.mp hz;obtain⟨z',ez,hcs'⟩:=jp j hj;rw[X3 hj,ej]at ez;injection ez with ez;subst ez;rcases hcs' with rfl|⟨to,fs,rfl,_⟩
   ·rfl
   ·refine wZ λd hd=>?_
    simp at hd;rcases hd with rfl|rfl
    ·rfl
    ·exact wZ λk hk=>by obtain⟨w,_,rfl⟩:=aE hk;rfl
end B
namespace J
open Q PySem C B F
def wzy:D->Int
 |.int i=>i|_=>0
noncomputable def VZ:D->Sn
 |.tup [.int r,.tup ks]=>some (r,ks.map wzy)|_=>none
noncomputable def rdF(ss:List Str)(rs:List D)(S:Sn)(z:Str)(c:Int):Sn:=match S with
 |none=>none
 |some (room,ks)=>(match rs[room.toNat]? with
  |some (.tup [_,_,.lst st])=>VZ (KK ss st ks z c)
  |_=>none)
theorem wk2{aa d}(h:Ok2 aa d):stn (VZ d)=d/\Kk aa (VZ d):=by
 rcases h with rfl|⟨room,ks,rfl,r0,r1,hl⟩
 ·exact⟨rfl,λ_ _ e=>nomatch e⟩
 ·have e:VZ (.tup [.int room,iT ks])=some (room,ks):=by
   show some _=_;rw[Xl]
   congr 2
   exact List.map_id ks
  rw[e];refine⟨rfl,λa b e=>?_⟩;cases e;exact⟨r0,r1,hl⟩
theorem wv8{aa S}(h:Kk aa S):Ok2 aa (stn S):=by
 cases S with|none=>exact .inl rfl|some x=>obtain⟨a,b,c⟩:=h x.1 x.2 rfl;exact .inr ⟨x.1,x.2,rfl,a,b,c⟩
theorem qjn{aa ss rs}{S} z c (hP:Prs aa ss.length rs)(hk:∀p∈aa,0<=p/\p<=3)(hS:Kk aa S):Rd aa ss rs (stn S) (z,c) (stn (rdF ss rs S z c))/\Kk aa (rdF ss rs S z c):=by
 obtain⟨s',h1,h2,_⟩:=vk7 (z,c) hP hk (wv8 hS);obtain⟨g1,g2⟩:=wk2 h2;have e:rdF ss rs S z c=VZ s':=by
  rcases id h1 with⟨h3,rfl⟩|⟨room,ks,st,kp,gd,h3,_,hr,_,_,h4⟩
  ·cases S with| none=>rfl| some x=>cases h3
  ·cases S with
   | none=>cases h3
   | some x=>
    injection h3 with h3;injection h3 with e1 h3;injection h3 with e2 _;injection e1 with e1;injection e2 with e2;show(match rs[x.1.toNat]? with
     |some (.tup [_,_,.lst st])=>VZ _
     |_=>none)=_
    rw[e1,hr,((List.map_inj_right λa b h=>by injection h).mp e2),h4]
 rw[e,g1];exact⟨h1,g2⟩
noncomputable def kpF(rs:List D)(p:Int):Int:=if p=-1 then 0 else(match rs[p.toNat]? with
 |some (.tup [.int k,_,_])=>k
 |_=>0)
noncomputable def gdF(rs:List D)(p:Int):Bool:=if p=-1 then false else(match rs[p.toNat]? with
 |some (.tup [_,.bl g,_])=>g
 |_=>false)
theorem wvl{rs p k}(h:Kpr rs p k):kpF rs p=k:=by
 rcases h with⟨rfl,rfl⟩|⟨h0,g,st,e⟩
 ·rfl
 ·unfold kpF;rw[Xb ⋯,e]
theorem ww5{rs p g}(h:Gdr rs p g):gdF rs p=g:=by
 rcases h with⟨rfl,rfl⟩|⟨h0,k,st,e⟩
 ·rfl
 ·unfold gdF;rw[Xb ⋯,e]
theorem Q0{aa n rs}{p:Int}(hP:Prs aa n rs)(hk:∀p∈aa,0<=p/\p<=3)(h0:-1<=p)(h1:p<aa.length):Kpr rs p (kpF rs p)/\Gdr rs p (gdF rs p)/\0<=kpF rs p/\kpF rs p<=3/\(0<=p->kpF rs p=aa.getD p.toNat 0):=by
 obtain⟨k,g,a,b,c,d⟩:=wvk hP h0 h1;rw[wvl a,ww5 b];refine⟨a,b,?_⟩
 by_cases hp:p=-1
 ·rw[c hp];exact⟨⋯,⋯,λh=>by lia⟩
 ·have hd:=d ⋯;have hm:aa.getD p.toNat 0∈aa:=by rw[Xq,X3 ⋯];exact Y3 _
  rw[hd];exact⟨(hk _ hm).1,(hk _ hm).2,λ_=>rfl⟩
theorem JY{aa S}(hk:∀p∈aa,0<=p/\p<=3)(h:Kk aa S):(nms S).length<=3:=by
 cases S with
 |none=>exact Yf _
 |some x=>
  obtain⟨a,b,c⟩:=h x.1 x.2 rfl;have hm:aa.getD x.1.toNat 0∈aa:=by rw[Xq,X3 ⋯];exact Y3 _
  have:=(hk _ hm).2;show x.2.length<=3;lia
def lat(x:Sn×Sn):D:=.tup [stn x.1,stn x.2]
section
variable {aa aq:List Int}{ss:List Str}{rs ag:List D}
noncomputable def pS(rs:List D):D->Sn
 |.tup [.int p,_,_]=>xkd p (kpF rs p)|_=>none
noncomputable def QJ:List D->List (Int×Int)
 |[]=>[]|.tup [.int i,.int j]::r=>(i,j)::QJ r|_::r=>QJ r
theorem vk2:∀l,QJ (prs l)=l
 |[]=>rfl
 |p::l=>by
  show _::QJ (prs l)=_;rw[vk2 l]
noncomputable def pT(rs ag:List D):D->Sn
 |.tup [.int p,.int q,.tup sh]=>WQ q (kpF rs p) (kpF ag q) (QJ sh)|_=>none
noncomputable def pO(rs ag:List D)(P:D):Nat:=(xV (nms (pS rs P)) (nms (pT rs ag P))).length
noncomputable def Pok(aa aq:List Int)(P:D):Prop:=∃(p q:Int) (sh:List (Int×Int)),P=.tup [.int p,.int q,.tup (prs sh)]/\-1<=p/\p<aa.length/\-1<=q/\q<aq.length/\sh.length<=3
theorem qza{a b}(ha:a.length<=3)(hb:b.length<=3):(xV a b).length<=6:=by
 unfold xV
 grind
theorem vxq{P}(hP:Prs aa ss.length rs)(hk:∀p∈aa,0<=p/\p<=3)(h:Pok aa aq P):Kk aa (pS rs P):=by
 obtain⟨p,q,sh,rfl,h0,h1,_⟩:=h;obtain⟨_,_,c,_,e⟩:=Q0 hP hk h0 h1;refine qvr h0 h1 λhp=>?_
 rw[<-e hp,X4,Y5];lia
theorem vxp{P}(dn:Prs aq ss.length ag)(cj:∀p∈aq,0<=p/\p<=3)(h:Pok aa aq P):Kk aq (pT rs ag P):=by
 obtain⟨p,q,sh,rfl,_,_,h0,h1,_⟩:=h;obtain⟨_,_,c,_,e⟩:=Q0 dn cj h0 h1;refine qvr h0 h1 λhp=>?_
 rw[<-e hp,kjt];lia
theorem vqa{P}(hP:Prs aa ss.length rs)(hk:∀p∈aa,0<=p/\p<=3)(dn:Prs aq ss.length ag)(cj:∀p∈aq,0<=p/\p<=3)(h:Pok aa aq P):
  Oo m_first_standings [(.no,jv ss rs),(.no,jv ss ag),(.no,P)] (λy=>y=(.no,lat (pS rs P,pT rs ag P))) noX:=by
 obtain⟨p,q,sh,rfl,h0,h1,h2,h3,h4⟩:=h;obtain⟨a,_,c,d,_⟩:=Q0 hP hk h0 h1;obtain⟨a',_,c',d',_⟩:=Q0 dn cj h2 h3;refine(vq9 a a' c ⋯ c' ⋯ ⋯).mono λy hy=>?_
 rw[hy];show _=(Own.no,D.tup [stn _,stn (WQ q _ _ _)]);rw[vk2];rfl
theorem wqw{P}(hP:Prs aa ss.length rs)(hk:∀p∈aa,0<=p/\p<=3)(dn:Prs aq ss.length ag)(cj:∀p∈aq,0<=p/\p<=3)(h:Pok aa aq P):pO rs ag P<=6:=qza (JY hk (vxq hP hk h)) (JY cj (vxp dn cj h))
end
end J
namespace Kp
open Q PySem C
theorem bk(E:En):back [] [] (clr [] E)=E:=rfl
end Kp
namespace U
open Q PySem C B J
section
variable {aa aq:List Int}{ss:List Str}{rs ag:List D}{f:Int->Int}
theorem qx4{own kv}(hv:∀j i,k6 kv j=some i->0<=i/\i<own):∀n,(nmF own kv n).filter (λx=>decide (own<=x))=(List.range (kW own kv n)).map λ(c:Nat)=>own+c
 | 0=>rfl
 | n+1=>by
  have ih:=qx4 hv n;cases h:k6 kv n with
  | some i=>
   have:=hv _ _ h;have e:kW own kv (n+1)=kW own kv n:=by
    unfold kW;rw[WK h,Ya,List.filter_cons_of_neg (by simp;lia)];simp
   rw[e,<-ih,WK h,Ya,List.filter_cons_of_neg (by simp;lia)];simp
  | none=>
   have e:kW own kv (n+1)=kW own kv n+1:=by
    show((nmF own kv _).filter _).length=_;rw[XQ h,Ya,List.filter_cons_of_pos (by simp;lia),Xk];rfl
   rw[e,List.range_succ,Xs,<-ih,XQ h,Ya,List.filter_cons_of_pos (by simp;lia)];rfl
theorem vzi{k sh n}(hk:0<=k)(hv:∀j i,k6 (kvS sh) j=some i->0<=i/\i<k):xV (v5 k) (nmF k (kvS sh) n)=v5 ((xV (v5 k) (nmF k (kvS sh) n)).length:Nat):=by
 have e:(nmF k (kvS sh) n).filter (λm=>!(v5 k).any λw=>w==m)=(nmF k (kvS sh) n).filter λx=>decide (k<=x):=by
  refine List.filter_congr λx hx=>?_
  have h0:=(qx3 hk hv n x hx).1;rw[vjg]
  by_cases hkx:k<=x
  ·rw[Xg hkx,Xh]
   ·rfl
   ·grind
  ·rw[Xh hkx,Xg]
   ·rfl
   ·exact List.mem_map.mpr ⟨x.toNat,List.mem_range.mpr ⋯,⋯⟩
 have e2:xV (v5 k) (nmF k (kvS sh) n)=v5 (k+kW k (kvS sh) n):=by
  unfold xV;rw[e,qx4 hv];show(List.range k.toNat).map _++_=(List.range (k+kW k _ n).toNat).map _;rw[show(k+_).toNat=k.toNat+kW k (kvS sh) n by lia,List.range_add,Xs,Xl]
  congr 1
  refine Yp λc _=>?_
  grind
 rw[(vq5 (n:=n) hk hv),e2]
end
section
variable {aa aq:List Int}{ss:List Str}{rs ag:List D}
noncomputable def vk(ss:List Str)(rs ag:List D)(P:D)(z:Str)(i:Int):D:=Qq (rdF ss rs (pS rs P) z i) (rdF ss ag (pT rs ag P) z i)
end
section
variable {aa aq:List Int}{ss:List Str}{rs ag:List D}
theorem qki(a):∀l,(J6 a l).length=l.length+1
 |[]=>rfl
 |b::l=>by
  unfold J6
  split
  ·rw[Xm,qki a l,Xm]
  ·rfl
theorem sortS_len:∀l,(wX l).length=l.length
 |[]=>rfl|a::l=>by rw[wX,qki,sortS_len l];rfl
theorem vw9:∀(l af:List Str),(l.foldl (λl k=>if l.any (· == k)then l else l++[k]) af).length<=af.length+l.length
 |[],af=>X7 _
 |a::l,af=>by
  rw[Z4];have:=vw9 l (if af.any (· == a)then af else af++[a])
  split at this
  ·rw[Xm];rename_i h;rw[X9 h];lia
  ·rename_i h;rw[Xb h];rw[Xk,Z3]at this;rw[Xm];lia
abbrev St3:=List (Str×Int×D)
abbrev stD(x:Str×Int×D):D:=.tup [.str x.1,.int x.2.1,x.2.2]
theorem kvc{a x}:∀{l},x=a\/x∈l->x∈J6 a l
 | [],h=>by
  rcases h with rfl|h
  ·exact aB rfl
  ·grind
 | b::l,h=>by
  unfold J6
  split
  ·rcases h with rfl|h
   ·exact lc9 _ (kvc (.inl rfl))
   ·rcases aD h with rfl|h
    ·exact X5
    ·exact lc9 _ (kvc (.inr h))
  ·grind
theorem kw0{x}:∀{l},x∈l->x∈wX l
 |[],h=>nomatch h|a::l,h=>kvc ((aD h).imp id kw0)
theorem vw8{x}:∀(l af:List Str),x∈af\/x∈l->x∈l.foldl (λl k=>if l.any (· == k)then l else l++[k]) af
 | [],af,h=>h.elim id λz=>nomatch z
 | a::l,af,h=>by
  rw[Z4];refine vw8 l _ ?_
  by_cases ha:(af.any (· == a))=true
  ·rw[X9 ha];rcases h with h|h
   ·exact .inl h
   ·rcases aD h with rfl|h
    ·simp_all
    ·exact .inr h
  ·rw[Xb ha];rcases h with h|h
   ·exact .inl (ll9 _ h)
   ·grind
end
end U
namespace Nk41
open PySem Q
def m_read_by : Fn:= C.m_read_by
def m_keepers_in : Fn:= B.m_keepers_in
def m_standing_in : Fn:= B.m_standing_in
def m_first_standings : Fn:= B.m_first_standings
def m_names_of : Fn:= B.m_names_of
def m_held_by_both : Fn:= B.m_held_by_both
def m_room_of : Fn:= B.m_room_of
def m_pair_of : Fn:= B.m_pair_of
def m_read_by_both : Fn:= B.m_read_by_both
noncomputable def ZQ:Fn:=fn 8
  (j5 (jk 3 (jw m_first_standings [(cV 0),(cV 1),(cV 2)]))
  (j5 (jk 4 (Qw (vE (cF2 jK (vE (cF1 (pu1 qZ) (vE (jw m_held_by_both [(cV 3)])))) (C9 1)))))
  (j5 (jk 5 (kj .rt []))
  (j5 (qw (itS (cF1 Zk (vE (cF2 jK (j8 (vV 0) (C9 0)) (j8 (vV 1) (C9 0)))))) (.n 6) (qw (itS (cV 4)) (.n 7) (qY qX 5 (kX .no [(cV 6),(cV 7),(jw m_pair_of [(jw m_read_by_both [(cV 0),(cV 1),(cV 3),(cV 6),(cV 7)])])]))))
  (jQ (cMv 5))))))
noncomputable def jq1:Fn:=fn 3
  (jQ (cF1 Wq (vE (cLC .rt 1 [] (itS (jw ZQ [(cV 0),(cV 1),(cV 2)])) (.n 0) tYes (cH (j8 (vV 0) (C9 2)))))))
def m__law_cell_at : Fn:= B.m__law_cell_at
def m__law_whole : Fn:= B.m__law_whole
def m__law_stream : Fn:= B.m__law_stream
def m__law_signs : Fn:= B.m__law_signs
def m__law_fills : Fn:= B.m__law_fills
def m__law_case : Fn:= B.m__law_case
def m__law_plain : Fn:= B.m__law_plain
noncomputable def jq5:Fn:=fn 15
  (j5 (jk 2 (jw m__law_stream [(cV 0),(cC (.int 100))]))
  (j5 (jk 3 (cF2 jK (C9 10) (vE (cF2 (pu2 kJ) (j8 (vV 2) (C9 0)) (C9 3)))))
  (j5 (jk 4 (cF2 jK (vE (kj .rt [(cC (.int 0))])) (vE (cLC .rt 1 [2] (vK (vE (cF2 (pu2 YJ) (vV 3) (C9 1)))) (.n 0) tYes (cF2 (pu2 kJ) (j8 (vV 1) (vE (cF2 jK (C9 1) (vV 0)))) (C9 2))))))
  (j5 (jk 5 (kj .rt []))
  (j5 (jk 6 (cC (.int 14)))
  (j5 (qw (vK (vV 3)) (.n 7) (j5 (jk 8 (kj .rt []))
  (j5 (qw (vK (vE (cF1 (pu1 qZ) (vV 1)))) (.n 9) (j5 (jk 10 (kj .rt []))
  (j5 (qw (vK (vE (cF2 jK (j8 (vV 4) (vV 7)) (C9 1)))) (.n 11) (j5 (jk 12 (cH (j8 (vV 2) (vV 6))))
  (j5 (jk 6 (cF2 jK (vV 6) (C9 1)))
  (j5 (jk 13 (cF2 jK (j8 (vV 4) (vV 7)) (vE (cF1 (pu1 J5) (vE (cF2 (pu2 fEq) (vV 11) (j8 (vV 4) (vV 7))))))))
  (j5 (jk 14 (cH (j8 (vE (kj .rt [(cF2 (pu2 kJ) (vE (cF2 jK (vV 7) (C9 1))) (vV 3)),(cF2 (pu2 kJ) (vE (cF2 (pu2 x3) (vV 12) (C9 5))) (vV 3))])) (vE (cF1 (pu1 J5) (vE (cF2 (pu2 fEq) (vE (cF2 (pu2 kJ) (vV 12) (C9 5))) (C9 3))))))))
  (sIf (tOr (tE (cF2 (pu2 fEq) (vE (cF2 (pu2 kJ) (vV 12) (C9 5))) (C9 4))) (tE (cF2 (pu2 fGt) (j8 (vV 4) (vV 14)) (vV 13)))) (qY qX 10 (cC .non)) (qY qX 10 (kX .no [(cV 14),(jw m__law_fills [(cF2 (pu2 x3) (vV 12) (C9 97)),(cH (j8 (vV 4) (vV 14))),(cV 13)])]))))))))
  (qY qX 8 (cV 10)))))
  (j5 (qY qX 5 (kX .no [(cH (j8 (vV 4) (vV 7))),(cF2 (pu2 fEq) (vE (cF2 (pu2 kJ) (j8 (vV 2) (vV 6)) (C9 2))) (C9 0)),(cV 8)]))
  (jk 6 (cF2 jK (vV 6) (C9 1)))))))
  (jQ (kX .no [(cF1 V6 (vV 1)),(cV 5)]))))))))
noncomputable def Q3:Fn:=fn 2
  (j5 (sIf (tE (cF2 (pu2 fEq) (vE (cF2 (pu2 kJ) (vV 0) (C9 8))) (C9 5))) (jQ (jw jq5 [(cF2 (pu2 x3) (vV 0) (C9 8)),(cV 1)])) qV)
  (jQ (jw m__law_plain [(cV 0),(cV 1)])))
def m__law_read : Fn:= B.m__law_read
def m__law_shared : Fn:= B.m__law_shared
def m__law_keepers : Fn:= B.m__law_keepers
def m__law_pair : Fn:= B.m__law_pair
def m__law_is_pair : Fn:= B.m__law_is_pair
noncomputable def Zq:Fn:=fn 13
  (j5 (V5 [3,4,5] (cV 2))
  (j5 (jk 6 (Qw (vE (jw m__law_keepers [(cV 0),(cV 3)]))))
  (j5 (jk 7 wj1)
  (j5 (qw (itS (cV 5)) (.t [8,9]) (vk4 7 (vV 9) (cV 8)))
  (j5 (jk 10 (kj .rt []))
  (j5 (jk 11 (cF1 (pu1 qZ) (vV 6)))
  (j5 (qw (vK (vE (jw m__law_keepers [(cV 1),(cV 4)]))) (.n 9) (j5 (qY qX 10 (cH (vjs (vV 7) (vV 9) (vV 11))))
  (jk 11 (cF2 jK (vV 11) (vE (cF1 (pu1 J5) (vE (cF2 (pu2 kk4) (vV 9) (vV 7)))))))))
  (j5 (jk 12 (kj .rt [(kX .no [(cV 3),(cF1 xz (vV 6))]),(kX .no [(cV 4),(cF1 xz (vV 10))])]))
  (jQ (cLC .rt 1 [] (itS (cV 12)) (.n 0) tYes (cH (j8 (vE (kj .rt [(cV 0),(cC .non)])) (vE (cF1 (pu1 J5) (vE (cF2 (pu2 fEq) (j8 (vV 0) (C9 0)) (vE (cF1 (pu1 KW) (C9 1)))))))))))))))))))
noncomputable def Zx:Fn:=fn 11
  (j5 (V5 [3,4] (jw Zq [(cV 0),(cV 1),(cV 2)]))
  (j5 (jk 5 vqs)
  (j5 (qw (itS (kj .rt [(cV 3),(cV 4)])) (.n 6) (sIf (tE (cF2 (f2First fNotNon) (vV 6) (vE (cC .non)))) (qw (itS (cH (j8 (vV 6) (C9 1)))) (.n 7) (qvy 5 (vV 7) (cC (.bl true)))) qV))
  (j5 (jk 8 (kj .rt []))
  (j5 (qw (itS (cH (j8 (vV 0) (C9 0)))) (.n 9) (qw (itS (cF2 jK (vE (cF1 kx3 (vV 5))) (vE (kj .rt [(cF1 (pu1 Zw) (vV 5))])))) (.n 7) (j5 (jk 10 (jw m__law_pair [(jw m__law_read [(cV 0),(cV 3),(cV 9),(cV 7)]),(jw m__law_read [(cV 1),(cV 4),(cV 9),(cV 7)])]))
  (sIf (tE (cF2 (pu2 zK) (vV 10) (vV 8))) (qY qX 8 (cV 10)) qV))))
  (jQ (cMv 8)))))))
noncomputable def Qv:Fn:=fn 7
  (j5 (jk 3 (cF1 kx2 (vE (jw Zx [(cV 0),(cV 1),(cV 2)]))))
  (j5 (jk 4 (jw jq1 [(cV 0),(cV 1),(cV 2)]))
  (j5 (sIf (tOr (tNot (tEQ (vE (cF1 (pu1 (z8 "list")) (vV 4))))) (tE (cF2 (pu2 fNe) (vE (cF1 (pu1 qZ) (vV 4))) (vE (cF1 (pu1 qZ) (vV 3)))))) (jQ (cC (.bl false))) qV)
  (j5 (qvx 4 3 (.t [5,6]) (sIf (tNot (tEQ (vE (jw m__law_is_pair [(cV 5),(cV 6)])))) (jQ (cC (.bl false))) qV))
  (j5 (qY qX 4 (cV 2))
  (j5 (ZY 4)
  (jQ (cC (.bl true)))))))))
noncomputable def m_law:Fn:=fn 10
  (j5 (jk 1 (jw m__law_signs [(jw m__law_cell_at [(cV 0),(cC (.int 0))])]))
  (j5 (jk 2 (jw Q3 [(jw m__law_cell_at [(cV 0),(cC (.int 1))]),(cV 1)]))
  (j5 (jk 3 (jw Q3 [(jw m__law_cell_at [(cV 0),(cC (.int 2))]),(cV 1)]))
  (j5 (qw (itS (cF2 jK (vE (kj .rt [(cC (.int 0))])) (vE (cSl (vV 0) (some (C9 3)) (some (C9 43)))))) (.n 4) (j5 (jk 5 (jw m__law_stream [(cV 4),(cC (.int 3))]))
  (j5 (jk 6 (cF2 (pu2 YJ) (vE (cF2 (pu2 kJ) (j8 (vV 5) (C9 0)) (vE (cF2 jK (vE (cF1 (pu1 qZ) (j8 (vV 2) (C9 1)))) (C9 1))))) (C9 1)))
  (j5 (jk 7 (cF2 (pu2 YJ) (vE (cF2 (pu2 kJ) (j8 (vV 5) (C9 1)) (vE (cF2 jK (vE (cF1 (pu1 qZ) (j8 (vV 3) (C9 1)))) (C9 1))))) (C9 1)))
  (j5 (jk 8 (kX .no [(cV 6),(cV 7),(jw m__law_shared [(cH (j8 (vV 5) (C9 2))),(jw m__law_keepers [(cV 2),(cV 6)]),(jw m__law_keepers [(cV 3),(cV 7)])])]))
  (sIf (tNot (tEQ (vE (jw Qv [(cV 2),(cV 3),(cV 8)])))) (jQ (cC (.bl false))) qV))))))
  (j5 (jk 8 (kX .no [(cC (.int 0)),(cC (.int 0)),(kX .no [])]))
  (j5 (sIf (tOr (tNot (tEQ (vE (jw Qv [(cV 2),(cV 3),(cV 8)])))) (tNot (tEQ (vE (jw Qv [(cV 3),(cV 2),(cV 8)]))))) (jQ (cC (.bl false))) qV)
  (j5 (jk 9 (kj .rt [(jw Q3 [(jw m__law_cell_at [(cV 0),(cC (.int 1))]),(cV 1)]),(jw Q3 [(jw m__law_cell_at [(cV 0),(cC (.int 2))]),(cV 1)])]))
  (jQ (VQ (vE (jw Qv [(cV 2),(cV 3),(cV 8)])) (cF2 (pu2 fEq) (vE (kj .rt [(cV 2),(cV 3)])) (vV 9)))))))))))
end Nk41
namespace Nk41
open Q PySem C B J U Tl
noncomputable def vZ(d:D):Prop:=∃(r r':Int) (l:List (Int×Int)),d=.tup [.int r,.int r',.tup (prs l)]
theorem lt_ii(i j):∃k,ltD (.int i) (.int j)=some k:=⟨_,by rfl⟩
theorem YQ{a b x y}(h1:∃k,ltD a b=some k)(h2:∃k,ltDs x y=some k):∃k,ltDs (a::x) (b::y)=some k:=by
 unfold ltDs
 by_cases e:a=b
 ·rw[X9 e];exact h2
 ·rw[Xb e];exact h1
theorem qxe:∃k,ltDs [] []=some k:=⟨_,by rfl⟩
theorem vz0{x y}(h:∃k,ltDs x y=some k):∃k,ltD (.tup x) (.tup y)=some k:=h
theorem qxd:∀l l',∃k,ltDs (prs l) (prs l')=some k
 |[],[]=>qxe|[],_::_=>⟨true,by rfl⟩|_::_,[]=>⟨false,by rfl⟩
 |p::l,q::l'=>by
  have:=qxd l l';unfold prs at this ⊢;exact YQ (vz0 (YQ (lt_ii _ _) (YQ (lt_ii _ _) qxe))) this
theorem vz2{a b}(ha:vZ a)(hb:vZ b):∃k,ltD a b=some k:=by
 obtain⟨r,r',l,rfl⟩:=ha;obtain⟨q,q',m,rfl⟩:=hb;exact vz0 (YQ (lt_ii _ _) (YQ (lt_ii _ _) (YQ (vz0 (qxd l m)) qxe)))
theorem qxx:∀l,keyDs 4 (prs l)=true
 |[]=>rfl
 |p::l=>by
  have:=qxx l;unfold prs at this ⊢;rw[List.map_cons];unfold keyDs;rw[this];rfl
theorem wvo{d}(h:vZ d):k7 6 d=true/\QK d=true:=by
 obtain⟨r,r',l,rfl⟩:=h;refine⟨?_,rfl⟩;show(true&&(true&&(keyDs 4 _&&true)))=true;rw[qxx];rfl
theorem wv4{ds}(h:∀d∈ds,vZ d):okT ds=true:=by
 unfold okT;rw[Bool.and_eq_true,Ym,Ym];refine⟨λd hd=>by rw[Bool.and_eq_true];exact wvo (h d hd),λa ha=>?_⟩;rw[Ym];exact λb hb=>Option.isSome_iff_exists.mpr (vz2 (h a ha) (h b hb))
theorem qzr:∀(ds ls:List D) {d},d∈ls\/d∈ds->d∈ds.foldl z5 ls
 | [],ls,d,h=>by grind
 | a::ds,ls,d,h=>by
  refine qzr ds _ ?_;unfold z5;rcases h with h|h
  ·left
   split
   ·exact h
   ·exact ll9 _ h
  ·grind
theorem qzq:∀(ds ls:List D),ls.Nodup->(ds.foldl z5 ls).Nodup
 | [],_,h=>h
 | a::ds,ls,h=>by
  refine qzq ds _ ?_;unfold z5
  split
  ·exact h
  ·rename_i hn;exact List.nodup_append.mpr ⟨h,by simp,λx hx y hy e=>hn (by rw[<-aC hy,<-e];exact hx)⟩
theorem qvq{xs ys}(hx:∀d∈xs,vZ d)(hn:xs.Nodup)(h:∀d,d∈xs↔d∈ys):qW xs=qW (ddT ys):=by
 have hy:∀d∈ddT ys,vZ d:=λd hd=>hx d ((h d).mpr ((kvi ys [] hd).elim (λz=>nomatch z) id))
 have pm:=(List.perm_ext_iff_of_nodup hn (qzq ys [] Y8)).mpr λd=>by
  rw[h d];exact⟨λz=>qzr ys [] (.inr z),λz=>(kvi ys [] z).elim (λz=>nomatch z) id⟩
 have cx:Cmp xs:=λa ha b hb=>vz2 (hx a ha) (hx b hb)
 exact kql (λa ha b hb=>vz2 (hy a ha) (hy b hb)) (qzq ys [] Y8) ((K6 xs).trans pm) (jzt cx hn)
section
variable {aa aq:List Int}{ss:List Str}{rs ag:List D}
inductive Fr1 (aa aq:List Int)(ss:List Str)(rs ag:List D)(P:D)(S T:Sn)(own:Nat)(zz:List Str):En->List D->Prop
 |mk (L:St3) (zs:List Str) {o4:Own} {l6:Option Sd} {l7:Option Sd} {a8:List D} (h0:o4≠.dp) (h1:a8=zs.map D.str) (h2:zs.length<=6) (h3:L.length+zs.length*7<=42) (h6:∀z∈zs,z∈zz) (h4:(∀x∈L,x.1∈zz/\0<=x.2.1/\x.2.1<=own/\x.2.2=vk ss rs ag P x.1 x.2.1)) (h5:∀z∈zz,z∈zs\/∀i:Int,0<=i->i<=own->(z,i,vk ss rs ag P z i)∈L):Fr1 aa aq ss rs ag P S T own zz [some (.no,jv ss rs),some (.no,jv ss ag),some (.no,P),some (.no,lat (S,T)),some (o4,.lst (jW 0 ((own:Int)+1))),some (.rt,.lst (L.map stD)),l6,l7] a8
inductive Fr2 (aa aq:List Int)(ss:List Str)(rs ag:List D)(P:D)(S T:Sn)(own:Nat)(zz:List Str)(z:Str)(L:St3):En->List D->Prop
 |mk (L2:St3) (pre:List D) {l7:Option Sd} {a8:List D} (h0:jW 0 ((own:Int)+1)=pre++a8) (h1:L2.length=L.length+pre.length) (h2:(∀x∈L2,x.1∈zz/\0<=x.2.1/\x.2.1<=own/\x.2.2=vk ss rs ag P x.1 x.2.1)) (h3:(∀x∈L,x∈L2)) (h4:∀c:Int,D.int c∈pre->(z,c,vk ss rs ag P z c)∈L2):Fr2 aa aq ss rs ag P S T own zz z L [some (.no,jv ss rs),some (.no,jv ss ag),some (.no,P),some (.no,lat (S,T)),some (.no,.lst (jW 0 ((own:Int)+1))),some (.rt,.lst (L2.map stD)),some (.no,.str z),l7] a8
theorem xj3{P}(hs:ss.length<=3)(hP:Prs aa ss.length rs)(hk:∀p∈aa,0<=p/\p<=3)(dn:Prs aq ss.length ag)(cj:∀p∈aq,0<=p/\p<=3)(h:Pok aa aq P):
  Oo ZQ [(.no,jv ss rs),(.no,jv ss ag),(.no,P)] (λy=>∃L:List (Str×Int×D),y=(.rt,.lst (L.map stD))/\L.length<=42/\(∀x∈L,x.1∈ss/\0<=x.2.1/\x.2.1<=pO rs ag P/\x.2.2=vk ss rs ag P x.1 x.2.1)/\∀z∈ss,∀i:Int,0<=i->i<=pO rs ag P->(z,i,vk ss rs ag P z i)∈L) noX:=by
 have hS:=vxq hP hk h;have hT:=vxp (rs:=rs) dn cj h;have hO:=wqw hP hk dn cj h;have lS:=JY hk hS;have lT:=JY cj hT;have hown:((xV (nms (pS rs P)) (nms (pT rs ag P))).length:Int)=(pO rs ag P):=rfl;have q0:∀a b,jJ (.tup [a,b]) (.int 0)=some a:=λ_ _=>rfl
 unfold ZQ;refine k8 ?_;simp![];refine(vqa hP hk dn cj h).via ?_;intro y hy;subst hy;simp![];refine(vzh (pS rs P) (pT rs ag P) ⋯ ⋯).via ?_;intro y hy;subst hy;simp![hown];have b6:∀z i,vk ss rs ag P z i=Qq (rdF ss rs (pS rs P) z i) (rdF ss ag (pT rs ag P) z i):=λ_ _=>rfl
 generalize pO rs ag P=own at *;generalize pS rs P=S at *;generalize pT rs ag P=T at *;have n8:∀o,Zk (o,.lst (ss.map D.str++ss.map D.str))=some (.rt,.lst ((wX (ddS (ss++ss))).map D.str)):=λo=>by
  rw [<-Xs];unfold Zk;dsimp only;rw [kxx];dsimp only;rw [X9 (by rw[Xk];lia)]
 have hzl:(wX (ddS (ss++ss))).length<=6:=by
  rw [U.sortS_len];have:=vw9 (ss++ss) [];rw [Xk]at this;show(ddS (ss++ss)).length<=6;unfold ddS
  grind
 have lw:∀z∈wX (ddS (ss++ss)),z∈ss:=λz hz=>by
  rcases aA (vw7 ((jv8 _).mem_iff.mp hz))with h|h<;>exact h
 have qg:∀z∈ss,z∈wX (ddS (ss++ss)):=λz hz=>kw0 (vw8 _ _ (.inr (ll9 _ hz)))
 generalize wX (ddS (ss++ss))=zz at n8 hzl qg lw;have d3:jK (.no,sL ss) (.no,sL ss)=some (.rt,.lst (ss.map D.str++ss.map D.str)):=YZ ⋯ ⋯ (by rw[X4];lia);have jg:(jW 0 ((own)+1)).length=own+1:=by unfold jW;rw[X4,Y5];lia
 refine v3 (Fr1 aa aq ss rs ag P S T own zz) ?_ ?_ ?_
 ·simp![q0,d3,n8];exact .mk [] zz ⋯ rfl hzl (by rw[List.length_nil];lia) (λz hz=>hz) (λx hx=>nomatch hx) λz hz=>.inl hz
 ·rintro E d ds ⟨L,zs,ho4,bh,hz6,hl,qt,hL,hM⟩;cases zs with
  | nil=>cases bh
  | cons z zs=>
   rw [List.map_cons]at bh;injection bh with e1 e2;subst e1 e2;rw [Xm]at hz6 hl;simp![];refine v3 (Fr2 aa aq ss rs ag P S T own zz z L) ?_ ?_ ?_
   ·simp![];exact⟨L,[],rfl,rfl,hL,λ_ h=>h,λ_ h=>nomatch h⟩
   ·rintro E d ds ⟨L2,pre,lv,ma,hL2,hLL,hM2⟩;obtain⟨c,c0,c1,rfl⟩:=kze (show d∈jW 0 ((own)+1)by rw[lv];simp);have ah:=congrArg List.length lv;rw[jg,Xk,Xm]at ah;obtain⟨r1,r2⟩:=qjn z c hP hk hS;obtain⟨r1',r2'⟩:=qjn z c dn cj hT;simp![];refine vX rfl ?_;simp![];refine(wj6 (w:=(z,c)) r1 r1').via ?_;intro y hy;subst hy;simp![];have l1:=JY hk r2;have l2:=JY cj r2';refine(qqg (rdF ss rs S z c) (rdF ss ag T z c) ⋯ ⋯).via ?_;intro y hy;subst hy;simp![];have e5:(L2++[(z,c,Qq (rdF ss rs S z c) (rdF ss ag T z c))]).map stD=L2.map stD++[stD (z,c,Qq (rdF ss rs S z c) (rdF ss ag T z c))]:=by rw[Xs];rfl
    refine⟨_,rfl,by rw[X4];lia,?_⟩;rw[<-e5];refine .mk (L2++[(z,c,Qq (rdF ss rs S z c) (rdF ss ag T z c))]) (pre++[.int c]) (by rw[lv];simp) (by simp;lia) (λx hx=>?_) (λx hx=>ll9 _ (hLL x hx)) λc' hc'=>?_
    ·rcases aA hx with hx|hx
     ·exact hL2 x hx
     ·rw[aC hx];exact⟨qt z X5,c0,by show c<=own;lia,(b6 z c).symm⟩
    ·rcases aA hc' with hc'|hc'
     ·exact ll9 _ (hM2 c' hc')
     ·have hc':=aC hc';injection hc' with hc';rw[hc',b6];exact lr9 _ (aB rfl)
   ·rintro E ⟨L2,pre,lv,ma,hL2,hLL,hM2⟩;rw[Xv]at lv;rw[<-lv,jg]at ma;refine⟨L2,zs,⋯,rfl,⋯,⋯,λz hz=>qt z (lc9 _ hz),hL2,λz' i6=>?_⟩;rcases hM z' i6 with h|h
    ·rcases aD h with rfl|h
     ·refine .inr λi i0 i1=>hM2 i ?_
      rw[<-lv];exact List.mem_map.mpr ⟨i.toNat,List.mem_range.mpr ⋯,by show D.int (0+(i.toNat:Int))=_;congr 1;lia⟩
     ·exact .inl h
    ·exact .inr λi i0 i1=>hLL _ (h i i0 i1)
 ·rintro E ⟨L,zs,ho4,bh,hz6,hl,qt,hL,hM⟩;cases zs with
  |cons=>cases bh
  |nil=>
   simp![];rw[List.length_nil]at hl;exact⟨L,rfl,⋯,λx hx=>⟨lw _ (hL x hx).1,(hL x hx).2⟩,λz hz=>(hM z (qg z hz)).elim (λh=>nomatch h) id⟩
end
theorem wwe:m__law_cell_at=B.m__law_cell_at:=rfl
theorem qkq:m__law_stream=B.m__law_stream:=rfl
theorem vzr:m__law_signs=B.m__law_signs:=rfl
theorem xjc:m__law_plain=B.m__law_plain:=rfl
theorem vzs:m__law_fills=B.m__law_fills:=rfl
theorem wwc:m__law_read=B.m__law_read:=rfl
theorem vqe:m__law_shared=B.m__law_shared:=rfl
theorem kx8:m__law_keepers=B.m__law_keepers:=rfl
theorem wwd:m__law_pair=B.m__law_pair:=rfl
theorem qzn:m__law_is_pair=B.m__law_is_pair:=rfl
inductive ChC (c:Int)(ss:List Str)(xs:List Int)(size:Int)(aa:List Int)(rs:List D)(r own:Int)(st:List D)(s:Int):En->List D->Prop
 |mk (k:Int) (bc:Int) (cs:List D) {o3 o4:Own} {o6:Own} {m5 km u6 ug:Option Sd} {a8:List D} (h0:sub o4=.no) (h1:0<=k) (h2:k<=own+1) (h3:a8=jW k (own+1)) (h4:(cs.length:Int)=k) (h5:14<=bc) (h6:bc<=14+7*r+2*s+k) (h7:∀k:Nat,k<cs.length->∃z,cs[k]?=some z/\Cs aa (qK own k) z):ChC c ss xs size aa rs r own st s [some (.no,.int c),some (.no,sL ss),some (.rt,iL xs),some (o3,.int size),some (o4,iL aa),some (.rt,.lst rs),some (o6,.int bc),some (.no,.int r),some (.rt,.lst st),some (.no,.int s),some (.rt,.lst cs),m5,km,u6,ug] a8
inductive ChB (c:Int)(ss:List Str)(xs:List Int)(size:Int)(aa:List Int)(rs:List D)(r own:Int):En->List D->Prop
 |mk (s:Int) (bc:Int) (st:List D) {o3 o4:Own} {o6:Own} {l9 lc m5 km u6 ug:Option Sd} {a8:List D} (h0:sub o4=.no) (h1:0<=s) (h2:s<=ss.length) (h3:a8=jW s ss.length) (h4:(st.length:Int)=s) (h5:14<=bc) (h6:bc<=14+7*r+2*s) (h7:∀c∈st,∃cs:List D,c=.lst cs/\(cs.length:Int)=own+1/\∀k:Nat,k<cs.length->∃z,cs[k]?=some z/\Cs aa (qK own k) z):ChB c ss xs size aa rs r own [some (.no,.int c),some (.no,sL ss),some (.rt,iL xs),some (o3,.int size),some (o4,iL aa),some (.rt,.lst rs),some (o6,.int bc),some (.no,.int r),some (.rt,.lst st),l9,lc,m5,km,u6,ug] a8
inductive ChA (c:Int)(ss:List Str)(xs:List Int)(size:Int)(aa:List Int):En->List D->Prop
 |mk (r:Int) (bc:Int) (rs:List D) {l7 l8 l9 lc m5 km u6 ug:Option Sd} {o3 o4:Own} {o6:Own} {a8:List D} (h0:sub o4=.no) (h1:0<=r) (h2:r<=size) (h3:a8=jW r size) (h4:(rs.length:Int)=r) (h5:14<=bc) (h6:bc<=14+7*r) (h7:∀i:Nat,i<rs.length->∃d,rs[i]?=some d/\Pr aa ss.length (aa.getD i 0) d):ChA c ss xs size aa [some (.no,.int c),some (.no,sL ss),some (.rt,iL xs),some (o3,.int size),some (o4,iL aa),some (.rt,.lst rs),some (o6,.int bc),l7,l8,l9,lc,m5,km,u6,ug] a8
theorem vql(c)(ss)(hs:1<=ss.length)(jh:ss.length<=3):Oo jq5 [(.no,.int c),(.no,sL ss)] (λy=>∃rs,y=(.no,jv ss rs)/\∃aa:List Int,1<=aa.length/\aa.length<=12/\aa[0]?=some 0/\(∀p∈aa,0<=p/\p<=3)/\Prs aa ss.length rs) noX:=by
 unfold jq5;simp only[qkq,vzs];refine k8 ?_;simp![];refine(jx7 c 100 ⋯ ⋯).use ?_;intro xs hx;have hxl:=hx.1;have ix:∀i:Int,0<=i->i<100->∃v:Int,jJ (iL xs) (.int i)=some (.int v)/\0<=v:=λi i0 i1=>by
  obtain⟨v,e,h,_⟩:=ixI xs _ hx.2 i i0 ⋯;exact⟨v,e,h.1⟩
 obtain⟨v0,e0,a0⟩:=ix 0 ⋯ ⋯;have q0:=Yd v0 (show(3:Int)≠0 by decide);have q1:=Y4 v0 (show(0:Int)<3 by decide);refine qjx (λE=>∃(o3:Own) (size:Int),E=[some (.no,.int c),some (.no,sL ss),some (.rt,iL xs),some (o3,.int size),none,none,none,none,none,none,none,none,none,none,none]/\10<=size/\size<=12) ?_ ?_
 ·simp![e0];exact⟨_,_,rfl,⋯,⋯⟩
 rintro E ⟨o3,size,rfl,sz0,sz1⟩;simp![];refine Q5 [some (.rt,iL xs)] (λ_ y=>∃i,y=(.dp,.int i)/\0<=i/\i<=1) ?_;simp![];refine⟨rfl,λd iu=>?_,λys hy=>?_⟩
 ·obtain⟨i,i0,i1,rfl⟩:=kze iu;obtain⟨w,ew,aw⟩:=ix (1+i) ⋯ ⋯;simp![ew];exact⟨⟨_,rfl⟩,_,rfl,⋯,⋯⟩
 obtain⟨ks,h1,h2,h3⟩:=kk8 (S:=λi=>0<=i/\i<=1) (λd y ⟨i,h,s⟩=>⟨i,by rw[h],s⟩) hy;rw [z4,h1];simp only[back,clr,at',List.map_cons,List.map_nil,List.set_cons_zero,List.set_cons_succ];have lq:((0::ks).length:Int)=size:=by rw[Xm];have:=qxn (k:=0) (n:=size - 1) ⋯;lia
 have fu:∀p∈(0::ks:List Int),0<=p/\p<=1:=λp hp=>by
  rcases aD hp with rfl|hp
  ·exact⟨⋯,⋯⟩
  ·exact h3 p hp
 have kg:∀p∈(0::ks:List Int),0<=p/\p<=3:=λp hp=>by have:=fu p hp;lia
 have d3:jK (.no,.lst [.int 0]) (.no,.lst (ks.map D.int))=some (.rt,iL (0::ks)):=YZ ⋯ ⋯ (by rw[X4];simp at lq ⊢;lia);have lx:(0::ks:List Int)[0]?=some 0:=rfl;simp![d3];generalize (0::ks:List Int)=aa at lq fu kg d3 lx;refine v3 (ChA c ss xs size aa) ?_ ?_ ?_
 ·simp![];exact⟨0,14,[],rfl,⋯,⋯,rfl,rfl,⋯,⋯,λi hi=>nomatch hi⟩
 ·rintro E d ds ⟨r,bc,rs,hs5,r0,r1,hr,jg,at0,ij,hrs⟩;obtain⟨hrk,rfl,rfl⟩:=xZ r1 hr;obtain⟨own,eo,⟨ow0,ow1⟩,how⟩:=ixI aa _ fu r r0 ⋯;simp![];refine v3 (ChB c ss xs size aa rs r own) ?_ ?_ ?_
  ·simp![];exact⟨0,bc,[],hs5,⋯,⋯,rfl,rfl,⋯,⋯,λc hc=>nomatch hc⟩
  ·rintro E d ds ⟨s,bc,st,hs5,s0,s1,hr,fz,at0,ij,b6⟩;obtain⟨hsk,rfl,rfl⟩:=xZ s1 hr;simp![];refine v3 (ChC c ss xs size aa rs r own st s) ?_ ?_ ?_
   ·simp![eo,hs5];exact⟨0,bc,[],hs5,⋯,⋯,rfl,rfl,⋯,⋯,λc hc=>nomatch hc⟩
   ·rintro E d ds ⟨k,bc,cs,hs5,k0,k1,hr,cb,at0,ij,jp⟩;obtain⟨hkk,rfl,rfl⟩:=xZ k1 hr;have il:bc<100:=⋯
    obtain⟨w,ew,aw⟩:=ix bc ⋯ il;have on:own+(if k=own then(1:Int)else 0)=qK own k:=rfl;have hB0:0<=qK own k/\qK own k<=4:=by unfold qK;split<;>lia
    obtain⟨to,eto,to0,to1⟩:∃to:Int,jJ (.lst [.int ((r+1) % size),.int (w / 5 % size)]) (.int (if w % 5=3 then 1 else 0))=some (.int to)/\0<=to/\to<size:=by
     split
     ·exact⟨_,rfl,Yd _ ⋯,Y4 _ ⋯⟩
     ·exact⟨_,rfl,Yd _ ⋯,Y4 _ ⋯⟩
    obtain⟨sz,es,⟨es0,bp⟩,hsz⟩:=ixI aa _ fu to to0 ⋯;have fin:∀y:D,Cs aa (qK own k) y->∀j:Nat,j<(cs++[y]).length->∃z,(cs++[y])[j]?=some z/\Cs aa (qK own j) z:=λy hy j hj=>by
     rw[Xk,Z3]at hj
     by_cases hj2:j<cs.length
     ·obtain⟨z,z1,z2⟩:=jp j hj2;exact⟨z,by rw[Xw hj2];exact z1,z2⟩
     ·have:j=cs.length:=⋯
      subst this;exact⟨y,by simp,by rw[cb];exact hy⟩
    have m1:=mod_i (a:=r+1) (b:=size) ⋯;have m2:=mod_i (a:=w / 5) (b:=size) ⋯
    by_cases h4:w % 5=4
    ·have hb:(w % 5==4)=true:=by simp[h4]
     simp![eo,ew,W0,kvg,on,hs5,m1,m2,eto,hb];refine vX rfl ?_;simp![];exact⟨_,rfl,⋯,k+1,bc+1,cs++[.non],hs5,⋯,⋯,rfl,by simp;lia,⋯,⋯,fin _ (.inl rfl)⟩
    ·have hb:(w % 5==4)=false:=Yl h4
     by_cases h6:qK own k<sz
     ·have hb2:decide (sz>qK own k)=true:=Xg h6;simp![eo,ew,W0,kvg,on,hs5,m1,m2,eto,hb,es,hb2];refine vX rfl ?_;simp![];exact⟨_,rfl,⋯,k+1,bc+1,cs++[.non],hs5,⋯,⋯,rfl,by simp;lia,⋯,⋯,fin _ (.inl rfl)⟩
     ·have hb2:decide (sz>qK own k)=false:=Xh h6;simp![eo,ew,W0,kvg,on,hs5,m1,m2,eto,hb,es,hb2];refine vX rfl ?_;simp![es,hs5];refine(qkp (w / 97) sz (qK own k) es0 ⋯ ⋯).use ?_;intro fs ⟨hf1,qy,hf3⟩;simp![];refine⟨_,rfl,⋯,k+1,bc+1,cs++[.tup [.int to,.tup (fs.map D.int)]],hs5,⋯,⋯,rfl,by simp;lia,⋯,⋯,fin _ (.inr ⟨to,fs,rfl,to0,⋯,qy,hf3,?_⟩)⟩;rw[Xq,hsz];exact hf1
   ·rintro E ⟨k,bc,cs,hs5,k0,k1,hr,cb,at0,ij,jp⟩;have:=xX k1 hr;subst this;refine vX rfl ?_;simp![];refine⟨_,rfl,⋯,s+1,bc,st++[.lst cs],hs5,⋯,⋯,rfl,by simp;lia,⋯,⋯,λc hc=>?_⟩;rcases aA hc with z|z
    ·exact b6 c z
    ·rw[aC z];exact⟨cs,rfl,cb,jp⟩
  ·rintro E ⟨s,bc,st,hs5,s0,s1,hr,fz,at0,ij,b6⟩;have:=xX s1 hr;subst this;have il:bc<100:=⋯
   obtain⟨w,ew,_⟩:=ix bc ⋯ il;simp![];refine vX rfl ?_;simp![eo,ew,W0,hs5];refine⟨_,rfl,⋯,?_⟩;simp![];refine ChA.mk (r+1) (bc+1) (rs++[.tup [.int own,.bl (w % 2==0),.lst st]]) hs5 ?_ ?_ rfl ?_ ?_ ?_ ?_
   ·lia
   ·lia
   ·simp;lia
   ·lia
   ·lia
   intro j hj;rw[Xk,Z3]at hj
   by_cases hj2:j<rs.length
   ·obtain⟨z,z1,z2⟩:=hrs j hj2;exact⟨z,by rw[Xw hj2];exact z1,z2⟩
   ·have:j=rs.length:=⋯
    subst this;refine⟨_,by simp;rfl,?_⟩;have hg:aa.getD rs.length 0=own:=by rw[Xq,show rs.length=r.toNat by lia,how];rfl
    rw[hg];exact⟨_,st,rfl,⋯,b6⟩
 ·rintro E ⟨r,bc,rs,hs5,r0,r1,hr,jg,at0,ij,hrs⟩;have:=xX r1 hr;subst this;simp![vvy (o:=.no) (xs:=ss.map D.str) ⋯];exact⟨rs,rfl,aa,⋯,⋯,lx,kg,⟨⋯,λi hi=>hrs i ⋯⟩⟩
theorem kky(c)(ss)(hs:1<=ss.length)(jh:ss.length<=3):Oo Q3 [(.no,.int c),(.no,sL ss)] (λy=>∃rs,y=(.no,jv ss rs)/\∃aa,1<=aa.length/\aa.length<=12/\aa[0]?=some 0/\(∀p∈aa,0<=p/\p<=3)/\Prs aa ss.length rs) noX:=by
 unfold Q3;refine k8 ?_
 by_cases h:c % 8=5
 ·have hb:(c % 8==5)=true:=by simp[h]
  simp![eqi hb];refine(vql (c / 8) ss hs jh).use ?_;intro rs h;exact⟨rs,rfl,h⟩
 ·have hb:(c % 8==5)=false:=Yl h;simp![eqi hb];refine(qws c ss hs jh).use ?_;intro rs ⟨aa,h1,h2,h3⟩;exact⟨rs,rfl,aa,h1,⋯,h3⟩
theorem qk3{k kv}:kk4 (.int k) (v9 kv)=some (.bl (!(k6 kv k).isSome)):=by
 unfold kk4;rw[XJ]
theorem vqj{own kv}{n:Nat}{i}(h:k6 kv n=some i)(hi:i<own):kW own kv (n+1)=kW own kv n:=by
 unfold kW;rw[WK h,Ya];have:decide (own<=i)=false:=Xh ⋯;simp[this]
theorem vqk{own kv}{n:Nat}(h:k6 kv n=none):kW own kv (n+1)=kW own kv n+1:=by
 unfold kW;rw[XQ h,Ya];have:decide (own<=own+(kW own kv n))=true:=Xg ⋯;simp[this]
theorem vq1 f z:kvS (f++[z])=qQ (kvS f) z.2 z.1:=by
 unfold kvS;rw[Xs,List.foldl_append];rfl
theorem qxv:∀(f kv:List (Int×Int)),(f.foldl (λkv p=>qQ kv p.1 p.2) kv).length<=kv.length+f.length
 |[],kv=>by simp
 |p::f,kv=>by
  rw[Z4,Xm];have:=qxv f (qQ kv p.1 p.2);have:=qjr kv p.1 p.2;lia
theorem wxs{k}:jW 0 k=(v5 k).map D.int:=by
 unfold jW;rw[Xl,show k - 0=k by lia];refine Yp λi _=>?_
 show D.int _=D.int i;rw[Int.zero_add]
theorem vv6{k k' sh}(h:W7 k k' sh):∀j i,k6 (kvS sh) j=some i->0<=i/\i<k:=λj i hv=>by
 have:=h.1 _ (vwm hv);exact⟨this.1,this.2.1⟩
theorem qzh{ss rs ag p q k k' sh}(hp:Kpr rs p k)(hq:Kpr ag q k')(hk:0<=k)(b5:k<=100)(cj:0<=k')(hk2':k'<=100)(gp:W7 k k' sh)(fz:sh.length<=100):
  Oo Zq [(.no,jv ss rs),(.no,jv ss ag),(.no,.tup [.int p,.int q,.tup (prs sh)])] (λy=>y=(.rt,.lst [stn (xkd p k),stn (WQ q k k' sh)])) noX:=by
 have jg:(v5 k).length=k.toNat:=by simp
 unfold Zq;simp only[kx8];refine k8 ?_;simp![];refine(jvk hp).use ?_;intro o1 _;simp![↓wjr,wxs];refine v3 (λE a8=>∃(f1 f2:List (Int×Int)) (l8 l9:Option Sd),E=[some (.no,jv ss rs),some (.no,jv ss ag),some (.no,.tup [.int p,.int q,.tup (prs sh)]),some (.no,.int p),some (.no,.int q),some (.no,.tup (prs sh)),some (.rt,iL (v5 k)),some (.rt,v9 (kvS f1)),l8,l9,none,none,none]/\sh=f1++f2/\a8=prs f2) ?_ ?_ ?_
 ·simp![];exact⟨[],sh,none,none,rfl,rfl,rfl⟩
 ·rintro E d ds ⟨f1,f2,l8,l9,rfl,hf,hr⟩;cases f2 with
  | nil=>cases hr
  | cons z f2=>
   have hr:d::ds=.tup [.int z.1,.int z.2]::prs f2:=hr;injection hr with e1 e2;subst e1 e2;have ah:(kvS f1).length<10000:=by
    have:=qxv (f1.map λp=>(p.2,p.1)) [];have h2:f1.length<=sh.length:=by rw[hf];simp
    rw[X4]at this;unfold kvS
    grind
   simp![];refine vzd ?_;simp![];refine⟨rfl,kvS f1,z.2,z.1,rfl,rfl,rfl,ah,f1++[z],f2,some (.no,.int z.1),some (.no,.int z.2),?_,by rw[hf];simp,rfl⟩;rw[vq1]
 ·rintro E ⟨f1,f2,l8,l9,rfl,hf,hr⟩;have qy:f2=[]:=by cases f2 with|nil=>rfl|cons=>cases hr
  subst qy;rw [Xv]at hf;subst hf;simp![];refine v3 (λE a8=>∃(j:Int) (l9:Option Sd) (o11:Own),E=[some (.no,jv ss rs),some (.no,jv ss ag),some (.no,.tup [.int p,.int q,.tup (prs sh)]),some (.no,.int p),some (.no,.int q),some (.no,.tup (prs sh)),some (.rt,iL (v5 k)),some (.rt,v9 (kvS sh)),l8,l9,some (.rt,iL (nmF k (kvS sh) j.toNat)),some (o11,.int (k+kW k (kvS sh) j.toNat)),none]/\0<=j/\j<=k'/\a8=jW j k') ?_ ?_ ?_
  ·simp![jg];refine(jvk hq).use ?_;intro o2 _;simp![];refine⟨0,l9,.dp,?_,⋯,cj,rfl⟩;rw[Y5,show(k.toNat:Int)=k+kW k (kvS sh) (0:Int).toNat by show _=k+0;lia];rfl
  ·rintro E d ds ⟨j,l9,o11,rfl,j0,j1,hr⟩;obtain⟨hj,rfl,rfl⟩:=xZ j1 hr;have oq:(j+1).toNat=j.toNat+1:=⋯
   have qu:((j.toNat:Nat):Int)=j:=⋯
   have hln:(nmF k (kvS sh) j.toNat).length=j.toNat:=kjt ..;cases hvj:k6 (kvS sh) j with
   | some v=>
    have sw:k6 (kvS sh) ((j.toNat:Nat):Int)=some v:=by rw[qu];exact hvj
    simp![];refine vX rfl ?_;simp![↓vv2,wvy,vw2,hvj,Option.getD_some];refine⟨_,rfl,by rw[X4,hln];lia,?_⟩;simp![qk3,hvj,Option.isSome_some,Bool.not_true,show J5 (.bl false)=some (.int 0)from rfl];refine⟨j+1,some (.no,.int j),.dp,?_,⋯,⋯,rfl⟩;rw[oq,WK sw,vqj sw ((vv6 gp) _ _ hvj).2];simp
   | none=>
    have sw:k6 (kvS sh) ((j.toNat:Nat):Int)=none:=by rw[qu];exact hvj
    simp![];refine vX rfl ?_;simp![↓vv2,wvy,vw2,hvj,Option.getD_none];refine⟨_,rfl,by rw[X4,hln];lia,?_⟩;simp![qk3,hvj,Option.isSome_none,Bool.not_false,show J5 (.bl true)=some (.int 1)from rfl];refine⟨j+1,some (.no,.int j),.dp,?_,⋯,⋯,rfl⟩;rw[oq,XQ sw,vqk sw,show(((kW k (kvS sh) j.toNat+1:Nat)):Int)=kW k (kvS sh) j.toNat+1 by lia,<-Int.add_assoc];simp
  ·rintro E ⟨j,l9,o11,rfl,j0,j1,hr⟩;have:=xX j1 hr;subst this;simp![Q.tup_l (o:=.rt) (xs:=(v5 k).map D.int) ⋯,Q.tup_l (o:=.rt) (xs:=(nmF k (kvS sh) j.toNat).map D.int) ⋯];refine Q5 [] (λd y=>y.2=WX d) ?_;simp![];refine⟨λd hd=>?_,λys p8=>?_⟩
   ·obtain⟨r,ks,rfl⟩:∃(r:Int) (ks:List Int),d=.tup [.int r,.tup (ks.map D.int)]:=by
     simp only[Yn,Yc,or_false]at hd;rcases hd with rfl|rfl
     ·exact⟨_,_,rfl⟩
     ·exact⟨_,_,rfl⟩
    by_cases hr1:r=-1
    ·have hb:(r == -1)=true:=by simp[hr1]
     simp![p0,B.neg1,eqi hb,show J5 (.bl true)=some (.int 1)from rfl,show jJ (.lst [.tup [.int r,.tup (ks.map D.int)],.non]) (.int 1)=some .non from rfl];refine⟨⟨_,rfl⟩,?_⟩;unfold WX;dsimp only;rw[X9 hr1]
    ·have hb:(r == -1)=false:=Yl hr1;simp![p0,B.neg1,eqi hb,show J5 (.bl false)=some (.int 0)from rfl,show jJ (.lst [.tup [.int r,.tup (ks.map D.int)],.non]) (.int 0)=some (.tup [.int r,.tup (ks.map D.int)])from rfl];refine⟨⟨_,rfl⟩,?_⟩;unfold WX;dsimp only;rw[Xb hr1]
   ·rw[z4,W8 (h:=WX) (λd y h=>h) p8,List.map_cons,List.map_cons,List.map_nil,qzb,qzb];rfl
section
variable {E:En}{N C:En->Prop}{R:Sd->Prop}{X:XP}{vc kc:Ex}
theorem wj5{i:Nat}(h:Eo (vc E) (λE1 v=>Zv E1[i]?=true/\Eo (kc E1) (λE2 k=>∃(kv:List Int) (x:Int),E2[i]?=some (some (.rt,wJ kv))/\k.2=.int x/\v.2=.bl true/\kv.length<10000/\N (E2.set i (some (.rt,wJ (wv kv x))))) X) X):Po (qvy i kc vc E) N C R X:=by
 unfold qvy;rw[zX];refine h.mono ?_;rintro E1 v ⟨e1,h1⟩;rw[X9 e1,zX];refine h1.mono ?_;rintro E2 k ⟨kv,x,e2,hk,hv,hl,h4⟩;rw[e2,hk,hv];dsimp only;rw[qz7];dsimp only;rw[X9 ⟨by unfold big;lia,rfl⟩,vkf];exact h4
end
theorem wjs{E:En}{e:Option Sd}{P:En->Sd->Prop}{X:XP}:Eo (vqs (e::E)) P X=P (e::E) (.rt,wJ []):=by
 unfold vqs;rw[qzl]
theorem vkz{o:Own}{kv:List Int}:kx3 (o,wJ kv)=some (.rt,.lst (kv.map D.int)):=by
 unfold kx3;dsimp only;rw[qz7]
theorem vz4{kv:List Int}:Zw (wJ kv)=some (.int kv.length):=by
 unfold Zw;rw[qz7]
theorem qjz:∀l m:List (Int×Int),peqs (prs l) (prs m)=decide (prs l=prs m)
 |[],[]=>by simp[prs,peqs]|[],_::_=>by simp[prs,peqs]|_::_,[]=>by simp[prs,peqs]
 |p::l,q::m=>by
  have ih:=qjz l m;unfold prs at ih ⊢;rw[List.map_cons,List.map_cons];show(((p.1==q.1)&&((p.2==q.2)&&true))&&peqs _ _)=_;rw[ih]
  by_cases h1:p.1=q.1<;>by_cases h2:p.2=q.2<;>simp[h1,h2]
theorem wqj{a b:D}(ha:vZ a)(hb:vZ b):peq a b=decide (a=b):=by
 obtain⟨r,r',l,rfl⟩:=ha;obtain⟨q,q',m,rfl⟩:=hb;show((r==q)&&((r'==q')&&(peqs (prs l) (prs m)&&true)))=_;rw[qjz]
 by_cases h1:r=q<;>by_cases h2:r'=q'<;>by_cases h3:prs l=prs m<;>simp[h1,h2,h3]
theorem kx0:∀(l:List (Int×Int)),D.flats 28 (prs l)=true
 |[]=>rfl
 |p::l=>by
  have:=kx0 l;unfold prs at this ⊢;rw[List.map_cons];show(true&&D.flats 28 _)=true;rw[this];rfl
theorem qkm{d:D}(h:vZ d):d.flat 30=true:=by
 obtain⟨r,r',l,rfl⟩:=h;show(true&&(true&&(D.flats 28 (prs l)&&true)))=true;rw[kx0];rfl
theorem vwf{x:D}(hx:vZ x):∀{K:List D},(∀s∈K,vZ s)->(K.any λz=>peq z x)=decide (x∈K)
 | [],_=>by simp
 | k::K,h=>by
  rw[List.any_cons,wqj (h k X5) hx,vwf hx (λs hs=>h s (lc9 _ hs))]
  by_cases e1:k=x
  ·simp[e1]
  ·have e3:¬x=k:=λz=>e1 z.symm
   by_cases e2:x∈K<;>simp[e1,e2,e3]
theorem vvu{x:D}{K:List D}(hx:vZ x)(hK:∀s∈K,vZ s):zK x (.lst K)=some (.bl (!decide (x∈K))):=by
 have h:fIn x (.lst K)=some (.bl (decide (x∈K))):=by
  show(if x.flat 30&&D.flats 30 K then some (D.bl (K.any λz=>peq z x))else none)=_;rw[qkm hx,wZ (λk hk=>qkm (hK k hk)),vwf hx hK];rfl
 show(fIn x (.lst K)).bind _=_;rw[h];rfl
theorem vx7{ks:List Int}{k:Int}(h:ks.Nodup):(wv ks k).Nodup:=by
 unfold wv
 split
 ·exact h
 ·rename_i hn;exact List.nodup_append.mpr ⟨h,by simp,λx hx y hy e=>hn (by rw[<-aC hy,<-e];exact hx)⟩
theorem vka{ks:List Int}{k x:Int}:x∈wv ks k↔x∈ks\/x=k:=by
 unfold wv
 split
 ·exact⟨.inl,λh=>h.elim id λe=>e▸‹_›⟩
 ·simp
theorem vkb{ks:List Int}{k:Int}:(wv ks k).length<=ks.length+1:=by
 unfold wv
 split<;>simp
noncomputable def Kn(ns:List Int)(kv:List Int):Prop:=kv.Nodup/\(∀x,x∈kv↔x∈ns)/\kv.length<=ns.length
theorem Kn.put{ns kv:List Int}(h:Kn ns kv)(x:Int):Kn (ns++[x]) (wv kv x):=by
 refine⟨vx7 h.1,λy=>?_,?_⟩
 ·rw[vka,h.2.1 y,List.mem_append,List.mem_singleton]
 ·have:=h.2.2;have:=vkb (ks:=kv) (k:=x);rw[Xk];simp;lia
theorem wzt{ns kv:List Int}{own:Nat}(h:Kn ns kv)(hm:∀x,x∈ns↔x∈v5 own):kv.length=own/\∀c:Int,c∈kv↔0<=c/\c<own:=by
 have hr:∀c:Int,c∈v5 own↔0<=c/\c<own:=λc=>by
  constructor
  ·intro z;obtain⟨i,hi,rfl⟩:=aE z;have:=List.mem_range.mp hi;lia
  ·rintro ⟨c0,c1⟩;exact List.mem_map.mpr ⟨c.toNat,List.mem_range.mpr ⋯,⋯⟩
 have hn:(v5 own).Nodup:=List.pairwise_map.mpr (List.nodup_range.imp λh e=>h ⋯);have pm:kv.Perm (v5 own):=(List.perm_ext_iff_of_nodup h.1 hn).mpr λc=>by rw[h.2.1,hm]
 exact⟨by rw[pm.length_eq];simp,λc=>by rw[h.2.1,hm,hr]⟩
section
variable {aa aq:List Int}{ss:List Str}{rs ag:List D}
noncomputable def Fnd(ss:List Str)(rs ag:List D)(P:D)(own:Nat)(F:List D):Prop:=F.Nodup/\∀d∈F,∃z∈ss,∃i:Int,0<=i/\i<=own/\d=vk ss rs ag P z i
theorem kwz{P own F}(h:Fnd ss rs ag P own F):∀d∈F,vZ d:=λd hd=>by
 obtain⟨z,_,i,_,_,rfl⟩:=h.2 d hd;exact⟨_,_,_,rfl⟩
inductive BhA (one d9 P:D)(S T:Sn):En->List D->Prop
 |mk (ns kv:List Int) {l6 l7:Option Sd} {a8:List D} (h:Kn ns kv) (h1:(a8=[stn S,stn T]/\ns=[])\/(a8=[stn T]/\ns=nms S)\/(a8=[]/\ns=nms S++nms T)):BhA one d9 P S T [some (.no,one),some (.no,d9),some (.no,P),some (.no,stn S),some (.no,stn T),some (.rt,wJ kv),l6,l7,none,none,none] a8
inductive BhB (one d9 P:D)(S T:Sn)(st:D)(ns0 ms:List Int):En->List D->Prop
 |mk (m1 m2 kv:List Int) {l7:Option Sd} {a8:List D} (h:Kn (ns0++m1) kv) (h1:ms=m1++m2) (h2:a8=m2.map D.int):BhB one d9 P S T st ns0 ms [some (.no,one),some (.no,d9),some (.no,P),some (.no,stn S),some (.no,stn T),some (.rt,wJ kv),some (.no,st),l7,none,none,none] a8
inductive BhC (ss:List Str)(rs ag:List D)(P:D)(S T:Sn)(own:Nat)(kv:List Int):En->List D->Prop
 |mk (z1 z2:List Str) (F:List D) {l6 l7 l9 lc:Option Sd} {a8:List D} (h1:ss=z1++z2) (h2:a8=z2.map D.str) (h3:Fnd ss rs ag P own F) (h4:F.length<=7*z1.length) (h5:∀z∈z1,∀i:Int,0<=i->i<=own->vk ss rs ag P z i∈F):BhC ss rs ag P S T own kv [some (.no,jv ss rs),some (.no,jv ss ag),some (.no,P),some (.no,stn S),some (.no,stn T),some (.rt,wJ kv),l6,l7,some (.rt,.lst F),l9,lc] a8
inductive BhD (ss:List Str)(rs ag:List D)(P:D)(S T:Sn)(own:Nat)(kv:List Int)(z1:List Str)(z:Str):En->List D->Prop
 |mk (c1 c2:List Int) (F:List D) {l6 l7 lc:Option Sd} {a8:List D} (h1:kv++[(own:Int)]=c1++c2) (h2:a8=c2.map D.int) (h3:Fnd ss rs ag P own F) (h4:F.length<=7*z1.length+c1.length) (h5:∀z∈z1,∀i:Int,0<=i->i<=own->vk ss rs ag P z i∈F) (h6:∀c∈c1,vk ss rs ag P z c∈F):BhD ss rs ag P S T own kv z1 z [some (.no,jv ss rs),some (.no,jv ss ag),some (.no,P),some (.no,stn S),some (.no,stn T),some (.rt,wJ kv),l6,l7,some (.rt,.lst F),some (.no,.str z),lc] a8
theorem snS{S:Sn}(h:S≠none):∃r ks,S=some (r,ks)/\stn S=.tup [.int r,.tup (ks.map D.int)]/\nms S=ks:=by
 cases S with|none=>exact absurd rfl h|some x=>exact⟨x.1,x.2,rfl,rfl,rfl⟩
theorem qkf{one d9 P S T st U ns kv l7 a8}(b6:st=stn U)(hk:Kn ns kv)(hb:ns.length+(nms U).length<=100)(hn:∀pd l7',Kn (ns++nms U) pd->BhA one d9 P S T [some (.no,one),some (.no,d9),some (.no,P),some (.no,stn S),some (.no,stn T),some (.rt,wJ pd),some (.no,st),l7',none,none,none] a8){C R}:
  Po (sIf (tE (cF2 (f2First fNotNon) (vV 6) (vE (cC .non)))) (qw (itS (cH (j8 (vV 6) (C9 1)))) (.n 7) (qvy 5 (vV 7) (cC (.bl true)))) qV [some (.no,one),some (.no,d9),some (.no,P),some (.no,stn S),some (.no,stn T),some (.rt,wJ kv),some (.no,st),l7,none,none,none]) (λE2=>BhA one d9 P S T E2 a8) C R noX:=by
 cases U with
 | none=>
  have b6:st=.non:=b6;subst b6;simp![];exact hn kv l7 (by rw[show nms none=[]from rfl,Xv];exact hk)
 | some x=>
  have b6:st=.tup [.int x.1,.tup (x.2.map D.int)]:=b6;subst b6;have hnm:nms (some x)=x.2:=rfl;rw [hnm]at hb hn;have hnn:fNotNon (.tup [.int x.1,.tup (x.2.map D.int)])=some (.bl true):=rfl;have h1:jJ (.tup [.int x.1,.tup (x.2.map D.int)]) (.int 1)=some (.tup (x.2.map D.int)):=rfl;simp![hnn];refine v3 (BhB one d9 P S T (.tup [.int x.1,.tup (x.2.map D.int)]) ns x.2) ?_ ?_ ?_
  ·simp![h1];exact⟨[],x.2,kv,by rw[Xv];exact hk,rfl,rfl⟩
  ·rintro E d ds ⟨m1,m2,kv,hk,hm,hr⟩;cases m2 with
   | nil=>cases hr
   | cons c m2=>
    rw[List.map_cons]at hr;injection hr with e1 e2;subst e1 e2;simp![];refine wj5 ?_;simp![];refine⟨rfl,kv,c,rfl,rfl,?_,?_⟩
    ·have:=hk.2.2;have h3:m1.length<=x.2.length:=by rw[hm];simp
     rw[Xk]at this;lia
    ·exact⟨m1++[c],m2,wv kv c,by rw[<-Y0];exact hk.put c,by rw[hm];simp,rfl⟩
  ·rintro E ⟨m1,m2,kv,hk,hm,hr⟩;have lh:m2=[]:=by cases m2 with|nil=>rfl|cons=>cases hr
   subst lh;rw[Xv]at hm;subst hm;exact hn kv _ hk
theorem kxy z P i:vZ (vk ss rs ag P z i):=⟨_,_,_,rfl⟩
theorem vje {p q:Int} {sh} (hs:ss.length<=3) (hP:Prs aa ss.length rs) (hk:∀p∈aa,0<=p/\p<=3) (dn:Prs aq ss.length ag) (cj:∀p∈aq,0<=p/\p<=3) (t9:-1<=p) (sg:p<aa.length) (rj:-1<=q) (tu:q<aq.length) (gp:W7 (kpF rs p) (kpF ag q) sh) (fz:sh.length<=3):
  Oo Zx [(.no,jv ss rs),(.no,jv ss ag),(.no,.tup [.int p,.int q,.tup (prs sh)])] (λy=>∃F,y=(.rt,.lst F)/\Fnd ss rs ag (.tup [.int p,.int q,.tup (prs sh)]) (pO rs ag (.tup [.int p,.int q,.tup (prs sh)])) F/\F.length<=21/\∀z∈ss,∀i:Int,0<=i->i<=pO rs ag (.tup [.int p,.int q,.tup (prs sh)])->vk ss rs ag (.tup [.int p,.int q,.tup (prs sh)]) z i∈F) noX:=by
 obtain ⟨a,_,c,d,_⟩:=Q0 hP hk t9 sg;obtain ⟨a',_,c',d',_⟩:=Q0 dn cj rj tu;have kh:Pok aa aq (.tup [.int p,.int q,.tup (prs sh)]):=⟨p,q,sh,rfl,t9,sg,rj,tu,fz⟩;have hS:=vxq hP hk kh;have hT:=vxp (rs:=rs) dn cj kh;have hO:=wqw hP hk dn cj kh;have lS:=JY hk hS;have lT:=JY cj hT;have hfi:Oo Zq [(.no,jv ss rs),(.no,jv ss ag),(.no,.tup [.int p,.int q,.tup (prs sh)])] (λy=>y=(.rt,.lst [stn (pS rs (.tup [.int p,.int q,.tup (prs sh)])),stn (pT rs ag (.tup [.int p,.int q,.tup (prs sh)]))])) noX:=by
  have:=qzh (ss:=ss) a a' c ⋯ c' ⋯ gp ⋯;rw [show pT rs ag (.tup [.int p,.int q,.tup (prs sh)])=WQ q (kpF rs p) (kpF ag q) sh by show WQ q _ _ (QJ (prs sh))=_;rw[vk2]];exact this
 have hkn:∀x,x∈nms (pS rs (.tup [.int p,.int q,.tup (prs sh)]))++nms (pT rs ag (.tup [.int p,.int q,.tup (prs sh)]))↔x∈v5 (pO rs ag (.tup [.int p,.int q,.tup (prs sh)])):=λx=>by
  have e1:nms (pS rs (.tup [.int p,.int q,.tup (prs sh)]))=v5 (kpF rs p):=vvt λh=>by
   rcases a with⟨_,e⟩|⟨e,_⟩
   ·rw [e];rfl
   ·lia
  have e2:nms (pT rs ag (.tup [.int p,.int q,.tup (prs sh)]))=nmF (kpF rs p) (kvS sh) (kpF ag q).toNat:=by
   show nms (WQ q _ _ (QJ (prs sh)))=_;rw [vk2];refine vvt λh=>?_
   rcases a' with⟨_,e⟩|⟨e,_⟩
   ·rw [e];rfl
   ·lia
  have e3:v5 (pO rs ag (.tup [.int p,.int q,.tup (prs sh)]))=xV (v5 (kpF rs p)) (nmF (kpF rs p) (kvS sh) (kpF ag q).toNat):=by
   rw [vzi c (vv6 gp)];unfold pO;rw [e1,e2]
  rw [e1,e2,e3];unfold xV;rw [List.mem_append,List.mem_append,List.mem_filter];constructor
  ·rintro (h|h)
   ·exact .inl h
   ·by_cases hx:x∈v5 (kpF rs p)
    ·exact .inl hx
    ·refine .inr ⟨h,?_⟩;rw [Bool.not_eq_true',List.any_eq_false];intro w hw e;exact hx (by rw[<-eq_of_beq e];exact hw)
  ·rintro (h|h)
   ·exact .inl h
   ·exact .inr h.1
 have b6:∀z i,vk ss rs ag (.tup [.int p,.int q,.tup (prs sh)]) z i=Qq (rdF ss rs (pS rs (.tup [.int p,.int q,.tup (prs sh)])) z i) (rdF ss ag (pT rs ag (.tup [.int p,.int q,.tup (prs sh)])) z i):=λ_ _=>rfl
 generalize D.tup [.int p,.int q,.tup (prs sh)]=P at *;generalize pO rs ag P=own at *;generalize pS rs P=S at *;generalize pT rs ag P=T at *;unfold Zx;simp only[wwd,wwc];refine k8 ?_;simp![];refine hfi.via ?_;rintro _ rfl;simp![↓wjs];refine v3 (BhA (jv ss rs) (jv ss ag) P S T) ?_ ?_ ?_
 ·simp![];exact ⟨[],[],⟨Y8,λx=>Iff.rfl,X7 _⟩,.inl ⟨rfl,rfl⟩⟩
 ·rintro E d ds ⟨ns,kv,h,⟨h1,rfl⟩|⟨h1,rfl⟩|⟨h1,_⟩⟩
  ·injection h1 with e1 e2;subst e1 e2;generalize hB:sIf _ _ _=Bd;simp![];subst hB;exact qkf (U:=S) rfl h (by simp;lia) λpd l7' hk=>⟨_,pd,hk,.inr (.inl ⟨rfl,rfl⟩)⟩
  ·injection h1 with e1 e2;subst e1 e2;generalize hB:sIf _ _ _=Bd;simp![];subst hB;exact qkf (U:=T) rfl h ⋯ λpd l7' hk=>⟨_,pd,hk,.inr (.inr ⟨rfl,rfl⟩)⟩
  ·cases h1
 ·rintro E ⟨ns,kv,h,⟨h1,_⟩|⟨h1,_⟩|⟨_,rfl⟩⟩
  ·cases h1
  ·cases h1
  ·obtain⟨lq,fu⟩:=wzt h hkn;have q0:∀a b:D,jJ (.tup [a,b]) (.int 0)=some a:=λ_ _=>rfl
   simp![];refine v3 (BhC ss rs ag P S T own kv) ?_ ?_ ?_
   ·simp![q0];exact⟨[],ss,[],rfl,rfl,⟨Y8,λd hd=>nomatch hd⟩,Yf _,λz hz=>nomatch hz⟩
   ·rintro E d ds ⟨z1,z2,F,hz,hr,hF,hl,hm⟩;cases z2 with
    | nil=>cases hr
    | cons z z2=>
     rw [List.map_cons]at hr;injection hr with e1 e2;subst e1 e2;have qg:z∈ss:=by rw[hz];simp
     have hza:(ss.any λw=>w==z)=true:=List.any_eq_true.mpr ⟨z,qg,by simp⟩;have hzl:z1.length<=3:=by
      have:=congrArg List.length hz;rw [Xk]at this;lia
     have d3:jK (.no,.lst (kv.map D.int)) (.no,.lst [.int kv.length])=some (.rt,.lst ((kv++[(own:Int)]).map D.int)):=by
      rw [Xs,lq];exact YZ ⋯ ⋯ (by rw[X4];simp;lia)
     simp![];refine v3 (BhD ss rs ag P S T own kv z1 z) ?_ ?_ ?_
     ·simp![vkz,vz4,d3];exact⟨[],_,F,rfl,rfl,hF,hl,hm,λc hc=>nomatch hc⟩
     ·rintro E d ds ⟨c1,c2,F,hc,hr,hF,hl,hm,hn⟩;cases c2 with
      | nil=>cases hr
      | cons c c2=>
       rw[List.map_cons]at hr;injection hr with e1 e2;subst e1 e2;have hcm:0<=c/\c<=own:=by
        have:c∈kv++[(own:Int)]:=by rw[hc];simp
        rcases aA this with h|h
        ·have:=(fu c).mp h;lia
        ·rw[aC h];lia
       have cb:c1.length<8:=by
        have:=congrArg List.length hc;simp at this;lia
       obtain⟨r1,r2⟩:=qjn z c hP hk hS;obtain⟨r1',r2'⟩:=qjn z c dn cj hT;have l1:=JY hk r2;have l2:=JY cj r2';simp![];refine(qjl hP hS hza r1).via ?_;rintro ⟨o1,d1⟩ e;cases(show d1=_ from e);simp![];refine(qjl dn hT hza r1').via ?_;rintro ⟨o2,d2⟩ e;cases(show d2=_ from e);simp![];refine(vkm (rdF ss rs S z c) (rdF ss ag T z c) ⋯ ⋯).via ?_;rintro _ rfl;rw[<-b6]
       by_cases gu:vk ss rs ag P z c∈F
       ·have hni:zK (vk ss rs ag P z c) (.lst F)=some (.bl false):=by rw[vvu (kxy z P c) (kwz hF),Xg gu];rfl
        simp![hni];refine⟨c1++[c],c2,F,by rw[hc];simp,rfl,hF,by simp;lia,hm,λx hx=>?_⟩;rcases aA hx with h|h
        ·exact hn x h
        ·rw[aC h];exact gu
       ·have hni:zK (vk ss rs ag P z c) (.lst F)=some (.bl true):=by rw[vvu (kxy z P c) (kwz hF),Xh gu];rfl
        simp![hni];refine vX rfl ?_;simp![];refine⟨_,rfl,⋯,?_⟩;refine⟨c1++[c],c2,F++[vk ss rs ag P z c],by rw[hc];simp,rfl,⟨?_,λx hx=>?_⟩,by simp;lia,λz hz i i0 i1=>ll9 _ (hm z hz i i0 i1),λx hx=>?_⟩
        ·exact List.nodup_append.mpr ⟨hF.1,by simp,λx hx y hy e=>gu (by rw[<-aC hy,<-e];exact hx)⟩
        ·rcases aA hx with h|h
         ·exact hF.2 x h
         ·exact⟨z,qg,c,hcm.1,hcm.2,aC h⟩
        ·rcases aA hx with h|h
         ·exact ll9 _ (hn x h)
         ·rw[aC h];simp
     ·rintro E ⟨c1,c2,F,hc,hr,hF,hl,hm,hn⟩;have m4:c2=[]:=by cases c2 with|nil=>rfl|cons=>cases hr
      subst m4;rw[Xv]at hc;refine⟨z1++[z],z2,F,by rw[hz];simp,rfl,hF,?_,λy hy i i0 i1=>?_⟩
      ·rw[<-hc]at hl;simp at hl ⊢;lia
      ·rcases aA hy with h|h
       ·exact hm y h i i0 i1
       ·rw[aC h];refine hn i ?_;rw[<-hc]
        by_cases hi:i<own
        ·exact ll9 _ ((fu i).mpr ⟨i0,hi⟩)
        ·exact lr9 _ (aB ⋯)
   ·rintro E ⟨z1,z2,F,hz,hr,hF,hl,hm⟩;have jr:z2=[]:=by cases z2 with|nil=>rfl|cons=>cases hr
    subst jr;rw[Xv]at hz;subst hz;simp![];exact⟨F,rfl,hF,⋯,hm⟩
end
section
variable {aa aq:List Int}{ss:List Str}{rs ag:List D}
def thd:D->D
 |.tup [_,_,d]=>d|_=>.non
theorem vwa:∀ds ls:List D,(ds.foldl z5 ls).length<=ls.length+ds.length
 |[],ls=>by simp
 |d::ds,ls=>by
  have:=vwa ds (z5 ls d);have:(z5 ls d).length<=ls.length+1:=by unfold z5;split<;>simp
  simp;lia
theorem vkl{P}(hs:ss.length<=3)(hP:Prs aa ss.length rs)(hk:∀p∈aa,0<=p/\p<=3)(dn:Prs aq ss.length ag)(cj:∀p∈aq,0<=p/\p<=3)(h:Pok aa aq P):
  Oo jq1 [(.no,jv ss rs),(.no,jv ss ag),(.no,P)] (λy=>∃ys,y=(.rt,.lst (qW (ddT ys)))/\(∀d∈ys,∃z∈ss,∃i:Int,0<=i/\i<=pO rs ag P/\d=vk ss rs ag P z i)/\∀z∈ss,∀i:Int,0<=i->i<=pO rs ag P->vk ss rs ag P z i∈ys) noX:=by
 refine k8 ?_;simp![];refine Q5 [] (λd y=>y.2=thd d) ?_;simp![];refine(xj3 hs hP hk dn cj h).use ?_;rintro L ⟨hl,hm,ha⟩;simp![];refine⟨λd hd=>?_,λys hy=>?_⟩
 ·obtain⟨x,_,rfl⟩:=aE hd;simp![t2];exact⟨⟨_,rfl⟩,rfl⟩
 ·have e:ys.map (·.2)=L.map λx=>x.2.2:=by
   rw[W8 (h:=thd) (λ_ _ h=>h) hy,Xl];rfl
  rw[z4,e];have lv:∀d∈L.map (λx=>x.2.2),∃z∈ss,∃i:Int,0<=i/\i<=pO rs ag P/\d=vk ss rs ag P z i:=λd hd=>by
   obtain⟨x,hx,rfl⟩:=aE hd;obtain⟨h1,h2,h3,h4⟩:=hm x hx;exact⟨x.1,h1,x.2.1,h2,h3,h4⟩
  have n8:∀o,Wq (o,.lst (L.map λx=>x.2.2))=some (.rt,.lst (qW (ddT (L.map λx=>x.2.2)))):=λo=>by
   unfold Wq;dsimp only;rw[X9 ⟨Ye (vwa _ _) (by rw[List.length_nil,X4];lia),wv4 λd hd=>by obtain⟨z,_,i,_,_,rfl⟩:=lv d hd;exact kxy z P i⟩]
  simp only[back,clr,at',List.map_cons,List.map_nil,List.set_cons_zero,List.set_cons_succ];simp![n8];exact⟨_,rfl,lv,λz hz i i0 i1=>List.mem_map.mpr ⟨_,ha z hz i i0 i1,rfl⟩⟩
theorem vzl{E:En}{i j:Nat}{tg b o1 o2 x y N C R X}(hi:E[i]?=some (some (o1,.lst x)))(hj:E[j]?=some (some (o2,.lst y)))(mi:i≠j)(hx:x.length<=10000)(px:D.pures x=true)(py:D.pures y=true)(I:En->List D->Prop)
  (h0:I ((E.set i none).set j none) (qv x y)) (hs:∀E d ds,I E (d::ds)->Vo (tg.put d E) λE1=>Po (b E1) (λE2=>I E2 ds) (λE2=>I E2 ds) R X) (h1:∀E,I E []->N ((E.set i (some (o1,.lst x))).set j (some (o2,.lst y)))):Po (qvx i j tg b E) N C R X:=by
 have h:=kqw (C:=C) I hs h1 _ _ h0;unfold qvx;rw[hi,hj];dsimp only;rw[X9 ⟨mi,by unfold big;lia,px,py⟩];generalize wV tg b _ _=m at h;cases m with
 |none=>exists h
 |some r=>cases r with|nx E=>exists h|bk E=>exists h|ct E=>exists h|rt E x=>exists h|xc E c=>exists h
theorem qjs:∀l,D.pures (prs l)=true
 |[]=>rfl
 |p::l=>by
  have:=qjs l;unfold prs at this ⊢;show(true&&D.pures _)=true;rw[this];rfl
theorem vx8{d}(h:vZ d):d.pure=true:=by
 obtain⟨r,r',l,rfl⟩:=h;show(true&&(true&&(D.pures _&&true)))=true;rw[qjs];rfl
theorem kqq{p q:Int}{sh}(hs:ss.length<=3)(hP:Prs aa ss.length rs)(hk:∀p∈aa,0<=p/\p<=3)(dn:Prs aq ss.length ag)(cj:∀p∈aq,0<=p/\p<=3)(t9:-1<=p)(sg:p<aa.length)(rj:-1<=q)(tu:q<aq.length)(gp:W7 (kpF rs p) (kpF ag q) sh)(fz:sh.length<=3):
  Oo Qv [(.no,jv ss rs),(.no,jv ss ag),(.no,.tup [.int p,.int q,.tup (prs sh)])] (λy=>∃o',y=(o',.bl true)/\True) noX:=by
 have kh:Pok aa aq (.tup [.int p,.int q,.tup (prs sh)]):=⟨p,q,sh,rfl,t9,sg,rj,tu,fz⟩;have hbh:=vje hs hP hk dn cj t9 sg rj tu gp fz;have hpb:=vkl hs hP hk dn cj kh;generalize D.tup [.int p,.int q,.tup (prs sh)]=P at *;unfold Qv;simp only[qzn];refine k8 ?_;simp![];refine hbh.use ?_;rintro F ⟨hF,hFl,hFa⟩;have hso:∀o,kx2 (o,.lst F)=some (.rt,.lst (qW F)):=λo=>by
  unfold kx2;dsimp only;rw[X9 ⟨⋯,wv4 (kwz hF),hF.1⟩]
 simp![hso];refine hpb.use ?_;rintro ys ⟨hy,hya⟩;have kt:qW F=qW (ddT ys):=qvq (kwz hF) hF.1 λd=>⟨λh=>by
  obtain⟨z,hz,i,i0,i1,rfl⟩:=hF.2 d h;exact hya z hz i i0 i1,λh=>by
  obtain⟨z,hz,i,i0,i1,rfl⟩:=hy d h;exact hFa z hz i i0 i1⟩
 have hW:∀d∈qW F,vZ d:=λd hd=>kwz hF d ((K6 F).mem_iff.mp hd)
 have hWl:(qW F).length<=21:=by rw[(K6 F).length_eq];exact hFl
 rw[<-kt];generalize qW F=W at *;have cw:∀n,fNe (.int n) (.int n)=some (.bl false):=λn=>nei (k:=true) (by simp)
 have om:∀ds:List D,z8 "list" (.lst ds)=some (.bl true):=λds=>rfl
 have hpu:D.pures W=true:=by
  rw[D.pures_all,Ym];exact λd hd=>vx8 (hW d hd)
 simp![cw,om];refine vzl rfl rfl ⋯ ⋯ hpu hpu (λE a8=>∃(W2:List D) (l5 l6:Option Sd),E=[some (.no,jv ss rs),some (.no,jv ss ag),some (.no,P),none,none,l5,l6]/\a8=qv W2 W2/\∀d∈W2,vZ d) ⟨W,none,none,rfl,rfl,hW⟩ ?_ ?_
 ·rintro E d ds ⟨W2,l5,l6,rfl,hr,h2⟩;cases W2 with
  |nil=>cases hr
  |cons w W2=>
   have hr:d::ds=.tup [w,w]::qv W2 W2:=hr;injection hr with e1 e2;subst e1 e2;obtain⟨r,r',l,rfl⟩:=h2 w X5;simp![];refine(qqu r r' l).use ?_;intro o _;simp![];exact⟨W2,_,_,rfl,rfl,λd hd=>h2 d (lc9 _ hd)⟩
 ·rintro E ⟨W2,l5,l6,rfl,hr,h2⟩;simp![];refine vX rfl ?_;simp![];refine⟨_,rfl,⋯,?_⟩;simp![];refine wkc rfl ?_;simp![];exact⟨_,rfl,trivial⟩
end
theorem wwk(ns:List Int)(lo hi):∃cells:List Int,Jx (ns.map D.int) lo hi=cells.map D.int/\cells.length<=ns.length:=by
 unfold Jx;rw[<-List.map_drop,<-List.map_take];exact⟨_,rfl,by rw[Yr,Zh];lia⟩
theorem wvj(ns)(hn:ns.length<=63):Oo m_law [(.no,iL ns)] (λy=>y.2=.bl true) noX:=by
 have cell:∀k:Nat,Oo B.m__law_cell_at [(.no,iL ns),(.no,.int k)] (λy=>∃o',y=(o',.int (Q6 ns k))/\True) noX:=λk=>vzy ns k ⋯
 unfold m_law;simp only[wwe,vzr,qkq,kx8,vqe];refine k8 ?_;simp![];refine(cell 0).use ?_;intro o0 _;simp![];refine(qvt _).use ?_;rintro ss ⟨jc,nk⟩;simp![];refine(cell 1).use ?_;intro o1 _;simp![];obtain⟨y1,⟨rs,rfl,aa,lq,hk6,lx,kg,hP⟩,hdet⟩:=vvq (kky (Q6 ns 1) ss jc nk);refine hdet.via ?_;rintro _ rfl;simp![];refine(cell 2).use ?_;intro o2 _;simp![];obtain⟨y2,⟨ag,rfl,aq,hkl',hk6',hk0',hk3',dn⟩,hdet'⟩:=vvq (kky (Q6 ns 2) ss jc nk);refine hdet'.via ?_;rintro _ rfl;simp![];have jg:=hP.1;have hrl':=dn.1;obtain⟨cs,ecs,cb⟩:=wwk ns (some 3) (some 43);have fz:fSl (Own.no,iL ns) (some 3) (some 43)=some (.rt,.lst (cs.map D.int)):=by rw[show iL ns=.lst (ns.map D.int)from rfl,vk1 (o:=.no) ⋯,ecs]
 have d3:jK (.no,.lst [.int 0]) (.no,.lst (cs.map D.int))=some (.rt,.lst ((0::cs).map D.int)):=YZ ⋯ ⋯ (by rw[X4];simp;lia);have t1:∀a b,jJ (.tup [a,b]) (.int 1)=some b:=λ_ _=>rfl
 have tw:∀a b,W7 a b []:=λa b=>⟨λp hp=>(nomatch hp),Y8,Y8⟩
 refine v3 (λE a8=>∃(c2:List Int) (l4 l5 l6 l7 l8:Option Sd),E=[some (.no,iL ns),some (.no,sL ss),some (.no,jv ss rs),some (.no,jv ss ag),l4,l5,l6,l7,l8,none]/\a8=c2.map D.int) ?_ ?_ ?_
 ·simp![fz,d3];exact⟨0::cs,_,_,_,_,_,rfl,rfl⟩
 ·rintro E d ds ⟨c2,l4,l5,l6,l7,l8,rfl,hr⟩;cases c2 with
  | nil=>cases hr
  | cons c c2=>
   rw[List.map_cons]at hr;injection hr with e1 e2;subst e1 e2;simp![];refine(jx7 c 3 ⋯ ⋯).use ?_;intro xs hx;have hxl:=hx.1;have ix:∀i:Int,0<=i->i<3->∃v:Int,jJ (iL xs) (.int i)=some (.int v)/\0<=v:=λi i0 i1=>by
    obtain⟨v,e,h,_⟩:=ixI xs _ hx.2 i i0 ⋯;exact⟨v,e,h.1⟩
   obtain⟨v0,x0,_⟩:=ix 0 ⋯ ⋯;obtain⟨v1,x1,_⟩:=ix 1 ⋯ ⋯;obtain⟨v2,x2,_⟩:=ix 2 ⋯ ⋯;have m0:=mod_i (a:=v0) (b:=(rs.length:Int)+1) ⋯;have m1:=mod_i (a:=v1) (b:=(ag.length:Int)+1) ⋯;have a0:=Yd v0 (show(rs.length:Int)+1≠0 by lia);have a1:=Y4 v0 (show(0:Int)<(rs.length:Int)+1 by lia);have b0:=Yd v1 (show(ag.length:Int)+1≠0 by lia);have b1:=Y4 v1 (show(0:Int)<(ag.length:Int)+1 by lia);simp![t1,x0,x1,x2,m0,m1];generalize v0 % ((rs.length:Int)+1)=w0 at *;generalize v1 % ((ag.length:Int)+1)=w1 at *;obtain⟨ka,_,kc,kd,_⟩:=Q0 hP kg (show -1<=w0 - 1 by lia) ⋯;obtain⟨ka',_,kc',kd',_⟩:=Q0 dn hk3' (show -1<=w1 - 1 by lia) ⋯;refine(jvk ka).use ?_;intro o3 _;simp![];refine(jvk ka').use ?_;intro o4 _;simp![];refine(qvv v2 _ _ kc ⋯ kc' ⋯).use ?_;rintro sh ⟨gp,hshl⟩;simp![];refine(kqq nk hP kg dn hk3' ⋯ ⋯ ⋯ ⋯ gp ⋯).use ?_;intro o5 _;simp![];exact⟨c2,_,_,_,_,_,rfl,rfl⟩
 ·rintro E ⟨c2,l4,l5,l6,l7,l8,rfl,hr⟩;have r1:=kqq (p:=0) (q:=0) (sh:=[]) nk hP kg dn hk3' ⋯ ⋯ ⋯ ⋯ (tw _ _) ⋯;have r2:=kqq (p:=0) (q:=0) (sh:=[]) nk dn hk3' hP kg ⋯ ⋯ ⋯ ⋯ (tw _ _) ⋯;rw[show prs []=[]from rfl]at r1 r2;simp![];refine r1.use ?_;intro o3 _;simp![];refine r2.use ?_;intro o4 _;simp![];refine(cell 1).use ?_;intro o5 _;simp![];refine hdet.via ?_;rintro _ rfl;simp![];refine(cell 2).use ?_;intro o6 _;simp![];refine hdet'.via ?_;rintro _ rfl;simp![];refine r1.use ?_;intro o7 _;have ng:(D.lst [jv ss rs,jv ss ag]).flat 40=true:=by
   show D.flats 39 [jv ss rs,jv ss ag]=true;refine wZ λd hd=>?_
   simp only[Yn,Yc,or_false]at hd;rcases hd with rfl|rfl
   ·exact kq4 hP 31
   ·exact kq4 dn 31
  simp![C.eq_self ng]
theorem law_true(ns:List Int)(hl:ns.length<=63)(hb:∀i∈ns,Builtin.Int.intBits i<=1048576):∃E o,m_law [(.no,.lst (ns.map D.int))]=some (.ok E (o,.bl true)):=by
 obtain _:=(wvj ns hl).out
 grind
end Nk41
namespace Nk41
open PySem L2 L3 Q
def top(i:Nat):Stmt:=PySem.Challenge.pw_freshrooms_k41_all_pairs_behind.main.body.getD i (.Pass ⟨0,0,0,0⟩)
abbrev kjd:Stmt:=top 1
abbrev jvs:Stmt:=top 13
abbrev jvg:Stmt:=top 10
abbrev jkv:Stmt:=top 6
abbrev jxz:Stmt:=top 12
abbrev jv1:Stmt:=top 9
abbrev kjc:Stmt:=top 11
abbrev kje:Stmt:=top 8
abbrev jqz:Stmt:=top 7
abbrev jvr:Stmt:=top 5
abbrev jv0:Stmt:=top 4
abbrev jv5:Stmt:=top 15
abbrev jvt:Stmt:=top 16
abbrev jvh:Stmt:=top 17
abbrev jvu:Stmt:=top 18
abbrev jvx:Stmt:=top 19
abbrev jwz:Stmt:=top 20
abbrev jvw:Stmt:=top 21
abbrev jvy:Stmt:=top 22
abbrev jv2:Stmt:=top 23
abbrev jwx:Stmt:=top 24
abbrev jvi:Stmt:=top 25
abbrev jv3:Stmt:=top 26
abbrev jwy:Stmt:=top 27
abbrev jv4:Stmt:=top 28
abbrev jvj:Stmt:=top 29
abbrev jkw:Stmt:=top 30
abbrev jvv:Stmt:=top 31
abbrev vwv:Stmt:=top 32
theorem sc_read_by:FnScope ["plain","standing","sign","name","names","cases","case","held"] ["plain","standing","sign","name"] (k5 kjd):=mkS
theorem kqo:FnScope ["plain","room"] ["plain","room"] (k5 jvs):=mkS
theorem kkg:FnScope ["room","names"] ["room","names"] (k5 jvg):=mkS
theorem sc_first_standings:FnScope ["one","other","pair","own","shared","names","j"] ["one","other","pair"] (k5 jkv):=mkS
theorem kz1:FnScope ["standing"] ["standing"] (k5 jxz):=mkS
theorem sc_held_by_both:FnScope ["standings","ours"] ["standings"] (k5 jv1):=mkS
theorem qq9:FnScope ["standing"] ["standing"] (k5 kjc):=mkS
theorem sc_pair_of:FnScope ["standings","ours","theirs","shared"] ["standings"] (k5 kje):=mkS
theorem kj7:FnScope ["one","other","standings","sign","name"] ["one","other","standings","sign","name"] (k5 jqz):=mkS
theorem sc_steps_from:FnScope ["one","other","pair","standings","names","steps","sign","name"] ["one","other","pair"] (k5 jvr):=mkS
theorem kj8:FnScope ["one","other","pair"] ["one","other","pair"] (k5 jv0):=mkS
theorem kjb:FnScope ["_law_script","_law_k"] ["_law_script","_law_k"] (k5 jv5):=mkS
theorem kqp:FnScope ["_law_found"] ["_law_found"] (k5 jvt):=mkS
theorem sc__law_stream:FnScope ["_law_cell","_law_many","_law_found","_law_k","_law_number"] ["_law_cell","_law_many"] (k5 jvh):=mkS
theorem sc__law_signs:FnScope ["_law_cell","_law_letters","_law_xs","_law_base","_law_at","_law_found","_law_k"] ["_law_cell"] (k5 jvu):=mkS
theorem sc__law_fills:FnScope ["_law_number","_law_need","_law_free","_law_pool","_law_found","_law_k"] ["_law_number","_law_need","_law_free"] (k5 jvx):=mkS
theorem sc__law_case:FnScope ["_law_number","_law_sizes","_law_free","_law_rooms","_law_to"] ["_law_number","_law_sizes","_law_free"] (k5 jwz):=mkS
theorem sc__law_plain:FnScope ["_law_cell","_law_signs_here","_law_xs","_law_many","_law_most","_law_sizes","_law_rooms","_law_at","_law_room","_law_steps","_law_s","_law_cases","_law_i"] ["_law_cell","_law_signs_here"] (k5 jvw):=mkS
theorem sc__law_chain:FnScope ["_law_cell","_law_signs_here","_law_xs","_law_many","_law_sizes","_law_rooms","_law_at","_law_room","_law_steps","_law_s","_law_cases","_law_i","_law_number","_law_free","_law_to"] ["_law_cell","_law_signs_here"] (k5 jvy):=mkS
theorem kj9:FnScope ["_law_cell","_law_signs_here"] ["_law_cell","_law_signs_here"] (k5 jv2):=mkS
theorem sc__law_read:FnScope ["_law_plain_here","_law_standing","_law_sign","_law_name","_law_room","_law_names","_law_keepers_here","_law_good","_law_steps","_law_at","_law_case_here"] ["_law_plain_here","_law_standing","_law_sign","_law_name"] (k5 jwx):=mkS
theorem sc__law_shared:FnScope ["_law_number","_law_many","_law_size","_law_free","_law_found","_law_i"] ["_law_number","_law_many","_law_size"] (k5 jvi):=mkS
theorem kja:FnScope ["_law_plain_here","_law_room"] ["_law_plain_here","_law_room"] (k5 jv3):=mkS
theorem sc__law_pair:FnScope ["_law_here","_law_there","_law_names","_law_rooms","_law_k","_law_standing","_law_shared_here"] ["_law_here","_law_there"] (k5 jwy):=mkS
theorem sc__law_is_pair:FnScope ["_law_found","_law_due","_law_part"] ["_law_found","_law_due"] (k5 jv4):=mkS
theorem sc__law_firsts:FnScope ["_law_one","_law_other","_law_pair_here","_law_p","_law_q","_law_shared_here","_law_here","_law_partner","_law_i","_law_j","_law_there","_law_free","_law_standings"] ["_law_one","_law_other","_law_pair_here"] (k5 jvj):=mkS
theorem sc__law_behind_all:FnScope ["_law_one","_law_other","_law_pair_here","_law_here","_law_there","_law_known","_law_standing","_law_name","_law_found","_law_sign","_law_after"] ["_law_one","_law_other","_law_pair_here"] (k5 jkw):=mkS
theorem sc__law_right:FnScope ["_law_one","_law_other","_law_pair_here","_law_due","_law_found","_law_told","_law_wanted"] ["_law_one","_law_other","_law_pair_here"] (k5 jvv):=mkS
theorem sc_law:FnScope ["_law_script","_law_signs_here","_law_one","_law_other","_law_cell","_law_x","_law_p","_law_q","_law_pair_here","_law_kept"] ["_law_script"] (k5 vwv):=mkS
structure Txt (K:Frag)(mg:Str->Option Value):Prop where
 b_bool:mg "bool"=none
 b_dict:mg "dict"=none
 b_enumerate:mg "enumerate"=none
 b_int:mg "int"=none
 b_isinstance:mg "isinstance"=none
 b_len:mg "len"=none
 b_list:mg "list"=none
 b_range:mg "range"=none
 b_set:mg "set"=none
 b_sorted:mg "sorted"=none
 b_tuple:mg "tuple"=none
 b_zip:mg "zip"=none
 c_NOWHERE:Cst mg "NOWHERE" (V.int (-1))
section
variable (P:Program)(w:PySem.World)(K:Frag)(mg:Str->Option Value)(base:Heap)
abbrev kxr:=kz P w K mg base 1 "read_by" ["plain","standing","sign","name"] (spF K mg 4 m_read_by)
abbrev jzf:=kz P w K mg base 1 "keepers_in" ["plain","room"] (spF K mg 2 m_keepers_in)
abbrev jxq:=kz P w K mg base 1 "standing_in" ["room","names"] (spF K mg 2 m_standing_in)
abbrev jvd:=kz P w K mg base 2 "first_standings" ["one","other","pair"] (spF K mg 3 m_first_standings)
abbrev jz9:=kz P w K mg base 1 "names_of" ["standing"] (spF K mg 1 m_names_of)
abbrev jws:=kz P w K mg base 2 "held_by_both" ["standings"] (spF K mg 1 m_held_by_both)
abbrev kxq:=kz P w K mg base 1 "room_of" ["standing"] (spF K mg 1 m_room_of)
abbrev kxs:=kz P w K mg base 2 "pair_of" ["standings"] (spF K mg 1 m_pair_of)
abbrev jwq:=kz P w K mg base 2 "read_by_both" ["one","other","standings","sign","name"] (spF K mg 5 m_read_by_both)
abbrev jze:=kz P w K mg base 3 "steps_from" ["one","other","pair"] (spF K mg 3 ZQ)
abbrev jwr:=kz P w K mg base 4 "pairs_behind" ["one","other","pair"] (spF K mg 3 jq1)
abbrev jwv:=kz P w K mg base 1 "_law_cell_at" ["_law_script","_law_k"] (spF K mg 2 m__law_cell_at)
abbrev jzg:=kz P w K mg base 1 "_law_whole" ["_law_found"] (spF K mg 1 m__law_whole)
abbrev jkr:=kz P w K mg base 1 "_law_stream" ["_law_cell","_law_many"] (spF K mg 2 m__law_stream)
abbrev jzh:=kz P w K mg base 2 "_law_signs" ["_law_cell"] (spF K mg 1 m__law_signs)
abbrev jw8:=kz P w K mg base 1 "_law_fills" ["_law_number","_law_need","_law_free"] (spF K mg 3 m__law_fills)
abbrev kke:=kz P w K mg base 2 "_law_case" ["_law_number","_law_sizes","_law_free"] (spF K mg 3 m__law_case)
abbrev jzj:=kz P w K mg base 3 "_law_plain" ["_law_cell","_law_signs_here"] (spF K mg 2 m__law_plain)
abbrev jzk:=kz P w K mg base 2 "_law_chain" ["_law_cell","_law_signs_here"] (spF K mg 2 jq5)
abbrev jwt:=kz P w K mg base 4 "_law_machine" ["_law_cell","_law_signs_here"] (spF K mg 2 Q3)
abbrev kkc:=kz P w K mg base 1 "_law_read" ["_law_plain_here","_law_standing","_law_sign","_law_name"] (spF K mg 4 m__law_read)
abbrev jxr:=kz P w K mg base 1 "_law_shared" ["_law_number","_law_many","_law_size"] (spF K mg 3 m__law_shared)
abbrev jv7:=kz P w K mg base 1 "_law_keepers" ["_law_plain_here","_law_room"] (spF K mg 2 m__law_keepers)
abbrev kkd:=kz P w K mg base 1 "_law_pair" ["_law_here","_law_there"] (spF K mg 2 m__law_pair)
abbrev jwu:=kz P w K mg base 2 "_law_is_pair" ["_law_found","_law_due"] (spF K mg 2 m__law_is_pair)
abbrev jxs:=kz P w K mg base 2 "_law_firsts" ["_law_one","_law_other","_law_pair_here"] (spF K mg 3 Zq)
abbrev jve:=kz P w K mg base 3 "_law_behind_all" ["_law_one","_law_other","_law_pair_here"] (spF K mg 3 Zx)
abbrev jzi:=kz P w K mg base 5 "_law_right" ["_law_one","_law_other","_law_pair_here"] (spF K mg 3 Qv)
end
section
variable {P:Program}{w:PySem.World}{K:Frag}{mg:Str->Option Value}{base:Heap}{f:Addr}{fd:FuncData}
theorem qqm(T:Txt K mg)  (F:Fun K "read_by" "read_by" kjd f fd):FnOk P w K mg base (CXE P w) 1 f fd ["plain","standing","sign","name"] (spF K mg 4 m_read_by):=
 qk F sc_read_by (q9 rfl) λba A outer s H vs Q E hr h=>have nd:=sc_read_by.nd;qj rfl
  (j6 (v4 (QW.pt (JK (kq XX W3 (vv 1) kn (k9 _) W1) (V7 (kq (kqy hr.units) kvt (vv 2) (kx (vv 0) ki) (by rfl) kvm)))) (jq (k3 kN)) v8) (j6 (qA nd (jz (kx (vv 1) ki))) (j6 (qA nd (jz (kx (kx (kx (kx (vv 0) ki) (kx (vv 1) ki)) ki) (j4 (Wz hr.units (kx (vv 0) ki) (vv 2)))))) (j6 (qA nd (jz (kx (vv 5) (j4 (YY (kq (vkr hr.units) vqz (vv 3) (vv 4) (by rfl) vqu) (Wz hr.units (vv 4) (vv 3)) (qL (vv 4) T.b_len)))))) (j6 (v4 (kq XX W3 (vv 6) kn (k9 _) W1) (jq (k3 kN)) v8) (j6 (qA nd (oA (vv 4) (j4 (qJ (o:=.no) (j3 (cv 3) j7))))) (jq (k3 (qJ (o:=.no) (j3 (jz (kx (vv 6) ki)) (j3 (qT (j4 (qM .rt 1 [7] 8 ["fill","held"] (x5 (jz (kx (vv 6) ki))) (λ_ _ _ _ _=>(jz (kx (vv 1) (vv 0)))))) T.b_tuple) j7))))))))))) h
theorem kv0(T:Txt K mg)  (F:Fun K "keepers_in" "keepers_in" jvs f fd):FnOk P w K mg base (CXE P w) 1 f fd ["plain","room"] (spF K mg 2 m_keepers_in):=
 qk F kqo (q9 rfl) λba A outer s H vs Q E hr h=>qj rfl
  (jq (k3 (YY (kq (ww hr.units) wK (vv 1) (j4 (q_C (qww T.c_NOWHERE) (λ_=>wW))) (k9 _) KJ) kI (jz (kx (kx (kx (vv 0) ki) (vv 1)) ki))))) h
theorem kkj(T:Txt K mg)  (F:Fun K "standing_in" "standing_in" jvg f fd):FnOk P w K mg base (CXE P w) 1 f fd ["room","names"] (spF K mg 2 m_standing_in):=
 qk F kkg (q9 rfl) λba A outer s H vs Q E hr h=>qj rfl
  (jq (k3 (YY (kq (ww hr.units) wK (vv 0) (j4 (q_C (qww T.c_NOWHERE) (λ_=>wW))) (k9 _) KJ) kN (qJ (o:=.no) (j3 (cv 0) (j3 (qT (vv 1) T.b_tuple) j7)))))) h
theorem jxf(T:Txt K mg)(bi:jzf P w K mg base)(bd:jxq P w K mg base)(F:Fun K "first_standings" "first_standings" jkv f fd):FnOk P w K mg base (CXE P w) 2 f fd ["one","other","pair"] (spF K mg 3 m_first_standings):=
 qk F sc_first_standings (q9 rfl) λba A outer s H vs Q E hr h=>have nd:=sc_first_standings.nd;qj rfl
  (j6 (qA nd (qC bi hr (j3 (cv 0) (j3 (jz (kx (vv 2) ki)) j7)))) (j6 (qA nd (Jq (vja K) vv0 (j4 (qm .rt 2 [] 7 ["i","j"] (x5 (jz (kx (vv 2) ki))) (λhN _ _ _ _ _=>(Jz (is:=[0,1]) (JX K (t:=gNs [0,1]) (n:=2) (v7 (J0 (i:=0) hN rfl (by trivial)) (v7 (J0 (i:=1) hN rfl (by trivial)) JJ))))) (λ_ _ _ _ _=>wkq) (λ_ _ _ _ _=>(qJ (o:=.no) (j3 (cv 1) (j3 (cv 0) j7)))))) T.b_dict wj3)) (j6 (qA nd (kK (o:=.rt) j7)) (j6 (qF (wQ (j4 (qC bi hr (j3 (cv 1) (j3 (jz (kx (vv 2) ki)) j7)))) rfl T.b_range) (gN nd) (jq (qP (YY (kq (wzm hr.units) wwv (vv 6) (vv 4) (by rfl) wwo) (jz (wz4 hr.units (vv 4) (vv 6) (λ_ _=>rfl))) (oA (vv 3) (j4 (qL (j4 (wz3 (o:=.rt) (k:=1) (R:=[3]) ["name","own"] (wz5 (pv 5)) (λ_ _ _ _ _=>(wky (J0 (i:=0) (show(["name","own"]:List Str).Nodup by decide +kernel) rfl (by trivial)))) (λ_ _ _ _ _=>(qwf (kq wzl (ZX (g:=λa b=>decide (b<=a))) (vv 0) (vv 1) (k9 _) vjc))) (λ_ _ _ _ _=>(cv 0)) Q7 ⟨_,_,rfl,rfl⟩ ⋯ (show ∀j∈([3]:List Nat) ,j<7 by decide))) T.b_len))))))) (jq (k3 (qJ (o:=.no) (j3 (qC bd hr (j3 (jz (kx (vv 2) ki)) (j3 (qwi (vv 3) T.b_range T.b_list) j7))) (j3 (vx3 bd (hr.mono ⋯) Q7 (wq5 (kx (vv 2) ki) (wq5 (vv 5) wz8))) j7))))))))) h
theorem kz9(T:Txt K mg)  (F:Fun K "names_of" "names_of" jxz f fd):FnOk P w K mg base (CXE P w) 1 f fd ["standing"] (spF K mg 1 m_names_of):=
 qk F kz1 (q9 rfl) λba A outer s H vs Q E hr h=>qj rfl
  (jq (k3 (YY (kq XX W3 (vv 0) kn (k9 _) W1) (qJ (o:=.no) j7) (jz (kx (vv 0) ki))))) h
theorem kjn(T:Txt K mg)(av:jz9 P w K mg base)(F:Fun K "held_by_both" "held_by_both" jv1 f fd):FnOk P w K mg base (CXE P w) 2 f fd ["standings"] (spF K mg 1 m_held_by_both):=
 qk F sc_held_by_both (q9 rfl) λba A outer s H vs Q E hr h=>have nd:=sc_held_by_both.nd;qj rfl
  (j6 (qA nd (qC av hr (j3 (jz (kx (vv 0) ki)) j7))) (jq (k3 (oA (vv 1) (j4 (qT (j4 (qm .rt 1 [1] 2 ["name","ours"] (x5 (qC av hr (j3 (jz (kx (vv 0) ki)) j7))) (λhN _ _ _ _ _=>(wky (J0 (i:=0) hN rfl (by trivial)))) (λ_ _ _ _ _=>(qwf (kq (kqy hr.units) kvt (vv 0) (vv 1) (by rfl) kvm))) (λ_ _ _ _ _=>(cv 0)))) T.b_tuple)))))) h
theorem qql(T:Txt K mg)  (F:Fun K "room_of" "room_of" kjc f fd):FnOk P w K mg base (CXE P w) 1 f fd ["standing"] (spF K mg 1 m_room_of):=
 qk F qq9 (q9 rfl) λba A outer s H vs Q E hr h=>qj rfl
  (jq (k3 (YY (kq XX W3 (vv 0) kn (k9 _) W1) (q_C (qww T.c_NOWHERE) (λ_=>wW)) (jz (kx (vv 0) ki))))) h
theorem qqn(T:Txt K mg)(av:jz9 P w K mg base)(da:kxq P w K mg base)(F:Fun K "pair_of" "pair_of" kje f fd):FnOk P w K mg base (CXE P w) 2 f fd ["standings"] (spF K mg 1 m_pair_of):=
 qk F sc_pair_of (q9 rfl) λba A outer s H vs Q E hr h=>have nd:=sc_pair_of.nd;qj rfl
  (j6 (qA nd (qC av hr (j3 (jz (kx (vv 0) ki)) j7))) (j6 (qA nd (qC av hr (j3 (jz (kx (vv 0) ki)) j7))) (j6 (kz3 (i:=3) (o:=.rt) (k:=2) (R:=[2]) ["i","name","theirs"] nd rfl (by trivial) (qwj (cv 1) rfl T.b_enumerate) (λ_ _ _ _ _=>(Jz (is:=[0,1]) (JX K (t:=gNs [0,1]) (n:=2) (v7 (J0 (i:=0) (show(["i","name","theirs"]:List Str).Nodup by decide +kernel) rfl (by trivial)) (v7 (J0 (i:=1) (show(["i","name","theirs"]:List Str).Nodup by decide +kernel) rfl (by trivial)) JJ))))) (λ_ _ _ _ _=>(qwf (kq (vkr hr.units) vqz (vv 1) (vv 2) (by rfl) vqu))) (λ_ _ _ _ _=>(qJ (o:=.no) (j3 (cv 0) (j3 (Wz hr.units (vv 2) (vv 1)) j7)))) Q7 ⟨_,_,rfl,rfl⟩ ⋯ (show ∀j∈([2]:List Nat) ,j<4 by decide)) (jq (k3 (qJ (o:=.no) (j3 (qC da hr (j3 (jz (kx (vv 0) ki)) j7)) (j3 (qC da hr (j3 (jz (kx (vv 0) ki)) j7)) (j3 (qT (vv 3) T.b_tuple) j7))))))))) h
theorem kjl(T:Txt K mg)(db:kxr P w K mg base)(F:Fun K "read_by_both" "read_by_both" jqz f fd):FnOk P w K mg base (CXE P w) 2 f fd ["one","other","standings","sign","name"] (spF K mg 5 m_read_by_both):=
 qk F kj7 (q9 rfl) λba A outer s H vs Q E hr h=>qj rfl
  (jq (k3 (qJ (o:=.no) (j3 (qC db hr (j3 (cv 0) (j3 (jz (kx (vv 2) ki)) (j3 (cv 3) (j3 (cv 4) j7))))) (j3 (qC db hr (j3 (cv 1) (j3 (jz (kx (vv 2) ki)) (j3 (cv 3) (j3 (cv 4) j7))))) j7))))) h
theorem kqz(T:Txt K mg)(b8:jvd P w K mg base)(bo:jws P w K mg base)(dv:kxs P w K mg base)(br:jwq P w K mg base)(F:Fun K "steps_from" "steps_from" jvr f fd):FnOk P w K mg base (CXE P w) 3 f fd ["one","other","pair"] (spF K mg 3 ZQ):=
 qk F sc_steps_from (q9 rfl) λba A outer s H vs Q E hr h=>have nd:=sc_steps_from.nd;qj rfl
  (j6 (qA nd (qC b8 hr (j3 (cv 0) (j3 (cv 1) (j3 (cv 2) j7))))) (j6 (qA nd (qwi (j4 (oA (j4 (qL (j4 (qC bo hr (j3 (cv 3) j7))) T.b_len)) ki)) T.b_range T.b_list)) (j6 (qA nd (kK (o:=.rt) j7)) (j6 (qF (x5 (qwh rfl rfl (j4 (oA (kx (vv 0) ki) (kx (vv 1) ki))) T.b_sorted T.b_set)) (gN nd) (jq (qF (x5 (cv 4)) (gN nd) (jq (qP (qJ (o:=.no) (j3 (cv 6) (j3 (cv 7) (j3 (qC dv hr (j3 (qC br hr (j3 (cv 0) (j3 (cv 1) (j3 (cv 3) (j3 (cv 6) (j3 (cv 7) j7)))))) j7)) j7))))))))) (jq (k3 (wx7 (pv 5)))))))) h
theorem kjm(T:Txt K mg)(cf:jze P w K mg base)(F:Fun K "pairs_behind" "pairs_behind" jv0 f fd):FnOk P w K mg base (CXE P w) 4 f fd ["one","other","pair"] (spF K mg 3 jq1):=
 qk F kj8 (q9 rfl) λba A outer s H vs Q E hr h=>qj rfl
  (jq (k3 (wz0 rfl rfl hr.units (j4 (qM .rt 1 [] 3 ["step"] (x5 (qC cf hr (j3 (cv 0) (j3 (cv 1) (j3 (cv 2) j7))))) (λ_ _ _ _ _=>(jz (kx (vv 0) ki))))) T.b_sorted T.b_set))) h
theorem kjr(T:Txt K mg)  (F:Fun K "_law_cell_at" "_law_cell_at" jv5 f fd):FnOk P w K mg base (CXE P w) 1 f fd ["_law_script","_law_k"] (spF K mg 2 m__law_cell_at):=
 qk F kjb (q9 rfl) λba A outer s H vs Q E hr h=>qj rfl
  (j6 (v4 (kq wzj (ZX (g:=λa b=>decide (a<b))) (vv 1) (j4 (qL (vv 0) T.b_len)) (k9 _) vjc) (jq (k3 (jz (kx (vv 0) (vv 1))))) v8) (jq (k3 kI))) h
theorem kv1(T:Txt K mg)  (F:Fun K "_law_whole" "_law_whole" jvt f fd):FnOk P w K mg base (CXE P w) 1 f fd ["_law_found"] (spF K mg 1 m__law_whole):=
 qk F kqp (q9 rfl) λba A outer s H vs Q E hr h=>qj rfl
  (jq (k3 (wq7 (j4 (XV (vv 0) T.b_isinstance T.b_int VX rfl)) (vvb (wz2 (j4 (XV (vv 0) T.b_isinstance T.b_bool wj4 rfl))))))) h
theorem kkk(T:Txt K mg)  (F:Fun K "_law_stream" "_law_stream" jvh f fd):FnOk P w K mg base (CXE P w) 1 f fd ["_law_cell","_law_many"] (spF K mg 2 m__law_stream):=
 qk F sc__law_stream (q9 rfl) λba A outer s H vs Q E hr h=>have nd:=sc__law_stream.nd;qj rfl
  (j6 (qA nd (kK (o:=.rt) j7)) (j6 (v4 (kq (ww hr.units) wK (j4 (oM (vv 0) ki)) ki (k9 _) KJ) (j6 (qA nd (vq xY xv (vv 0) ki)) (j6 (qF (wQ (vv 1) rfl T.b_range) (gN nd) (j6 (qP (oM (vv 0) ki)) (jq (qA nd (vq xY xv (vv 0) ki))))) (jq (k3 (wx7 (pv 2)))))) v8) (j6 (qA nd (oA (j4 (oM (j4 (vq xY xv (vv 0) ki)) ki)) ki)) (j6 (qF (wQ (j4 (oA (vv 1) ki)) rfl T.b_range) (gN nd) (j6 (qA nd (oM (j4 (oA (j4 (oA (j4 (oX (vv 4) (vv 4))) (j4 (oX ki (vv 4))))) (vv 3))) ki)) (jq (qP (oM (j4 (oA (j4 (oX (vv 4) ki)) (j4 (oX ki (vv 3))))) ki))))) (jq (k3 (wkr (vv 2) (YW ki) vk9))))))) h
theorem kv2(T:Txt K mg)(ac:jkr P w K mg base)(F:Fun K "_law_signs" "_law_signs" jvu f fd):FnOk P w K mg base (CXE P w) 2 f fd ["_law_cell"] (spF K mg 1 m__law_signs):=
 qk F sc__law_signs (q9 rfl) λba A outer s H vs Q E hr h=>have nd:=sc__law_signs.nd;qj rfl
  (j6 (qA nd kS) (j6 (qA nd (qC ac hr (j3 (cv 0) (j3 kI j7)))) (j6 (qA nd (wku vvm (j4 (qM .rt 1 [1] 7 ["_law_x","_law_letters"] (x5 (wkr (vv 2) vk9 (YW (j4 (oA ki (j4 (oM (vv 0) ki))))))) (λ_ _ _ _ _=>(jz (kx (vv 1) (j4 (oM (vv 0) ki))))))))) (j6 (qA nd (oM (j4 (vq xY xv (vv 0) ki)) (j4 (qL (vv 3) T.b_len)))) (j6 (qA nd (kK (o:=.rt) j7)) (j6 (qF (wQ (kx (j4 (kK (o:=.rt) (j3 kI (j3 kI (j3 kI (j3 kI (j3 kI (j3 kI (j3 kI (j3 kI j7)))))))))) (j4 (oM (j4 (vq xY xv (vv 0) ki)) ki))) rfl T.b_range) (gN nd) (jq (qP (oA (j4 (oA (j4 (wkr (vv 3) vk9 (YW (vv 4)))) (kx (vv 1) (j4 (oA (j4 (oM (kx (vv 2) ki) ki)) (vv 6)))))) (j4 (wkr (vv 3) (YW (j4 (oA (vv 4) ki))) vk9)))))) (jq (k3 (wx7 (pv 5)))))))))) h
theorem kv5(T:Txt K mg)  (F:Fun K "_law_fills" "_law_fills" jvx f fd):FnOk P w K mg base (CXE P w) 1 f fd ["_law_number","_law_need","_law_free"] (spF K mg 3 m__law_fills):=
 qk F sc__law_fills (q9 rfl) λba A outer s H vs Q E hr h=>have nd:=sc__law_fills.nd;qj rfl
  (j6 (qA nd (qwi (vv 2) T.b_range T.b_list)) (j6 (qA nd (kK (o:=.rt) j7)) (j6 (qF (wQ (vv 1) rfl T.b_range) (gN nd) (j6 (qP (wkt (i:=3) (qwy K PySem.F.plainAttrs_list PySem.F.slot_list_pop PySem.F.type_list_pop qk6 (pv 3) (vw (j4 (oM (vv 0) (j4 (qL (vv 3) T.b_len)))) vQ)))) (jq (qA nd (oA (j4 (vq xY xv (vv 0) ki)) (j4 (oX ki (vv 5)))))))) (jq (k3 (qT (vv 4) T.b_tuple)))))) h
theorem kwi(T:Txt K mg)(ax:jw8 P w K mg base)(F:Fun K "_law_case" "_law_case" jwz f fd):FnOk P w K mg base (CXE P w) 2 f fd ["_law_number","_law_sizes","_law_free"] (spF K mg 3 m__law_case):=
 qk F sc__law_case (q9 rfl) λba A outer s H vs Q E hr h=>have nd:=sc__law_case.nd;qj rfl
  (j6 (v4 (kq (ww hr.units) wK (j4 (oM (vv 0) ki)) ki (k9 _) KJ) (jq (k3 kN)) v8) (j6 (kz3 (i:=3) (o:=.rt) (k:=1) (R:=[1,2]) ["_law_to","_law_sizes","_law_free"] nd rfl (by trivial) (wQ (j4 (qL (vv 1) T.b_len)) rfl T.b_range) (λ_ _ _ _ _=>(wky (J0 (i:=0) (show(["_law_to","_law_sizes","_law_free"]:List Str).Nodup by decide +kernel) rfl (by trivial)))) (λ_ _ _ _ _=>(qwf (kq wzk (ZX (g:=λa b=>decide (a<=b))) (kx (vv 1) (vv 0)) (vv 2) (k9 _) vjc))) (λ_ _ _ _ _=>(cv 0)) Q7 ⟨_,_,rfl,rfl⟩ ⋯ (show ∀j∈([1,2]:List Nat) ,j<5 by decide)) (j6 (qA nd (jz (kx (vv 3) (j4 (oM (j4 (vq xY xv (vv 0) ki)) (j4 (qL (vv 3) T.b_len))))))) (jq (k3 (qJ (o:=.no) (j3 (cv 4) (j3 (qC ax hr (j3 (vq xY xv (vv 0) ki) (j3 (jz (kx (vv 1) (vv 4))) (j3 (cv 2) j7)))) j7)))))))) h
theorem kv4(T:Txt K mg)(ac:jkr P w K mg base)(d8:kke P w K mg base)(F:Fun K "_law_plain" "_law_plain" jvw f fd):FnOk P w K mg base (CXE P w) 3 f fd ["_law_cell","_law_signs_here"] (spF K mg 2 m__law_plain):=
 qk F sc__law_plain (q9 rfl) λba A outer s H vs Q E hr h=>have nd:=sc__law_plain.nd;qj rfl
  (j6 (qA nd (qC ac hr (j3 (cv 0) (j3 kI j7)))) (j6 (qA nd (jz (kx (j4 (kK (o:=.rt) (j3 kI (j3 kI (j3 kI (j3 kI (j3 kI (j3 kI (j3 kI (j3 kI j7)))))))))) (j4 (oM (kx (vv 2) ki) ki))))) (j6 (qA nd kI) (j6 (v4 (QW.pt (vva (kq (ww hr.units) wK (vv 3) ki (k9 _) KJ) (qwg (kq (ww hr.units) wK (j4 (oM (kx (vv 2) ki) ki)) ki (k9 _) KJ)))) (jq (qA nd kI)) v8) (j6 (qA nd (oA (j4 (kK (o:=.rt) (j3 kI j7))) (j4 (qM .rt 1 [2,4] 13 ["_law_k","_law_xs","_law_most"] (wQ (j4 (vq qk2 qkw (vv 3) ki)) rfl T.b_range) (λ_ _ _ _ _=>(oM (j4 (vq xY xv (kx (vv 1) (j4 (oA ki (vv 0)))) ki)) (j4 (oA (vv 2) ki)))))))) (j6 (qA nd (kK (o:=.rt) j7)) (j6 (qA nd kI) (j6 (qF (wQ (vv 3) rfl T.b_range) (gN nd) (j6 (qA nd (kK (o:=.rt) j7)) (j6 (qF (wQ (j4 (qL (vv 1) T.b_len)) rfl T.b_range) (gN nd) (j6 (qA nd (kK (o:=.rt) j7)) (j6 (qF (wQ (j4 (oA (kx (vv 5) (vv 8)) ki)) rfl T.b_range) (gN nd) (j6 (qP (qC d8 hr (j3 (jz (kx (vv 2) (vv 7))) (j3 (cv 5) (j3 (oA (kx (vv 5) (vv 8)) (j4 (Jq jw6 kxp (j4 (Kj (ww hr.units) wK (vv 12) (kx (vv 5) (vv 8)) (k9 _))) T.b_int VX))) j7))))) (jq (qA nd (oA (vv 7) ki))))) (jq (qP (cv 11)))))) (j6 (qP (qJ (o:=.no) (j3 (jz (kx (vv 5) (vv 8))) (j3 (Kj (ww hr.units) wK (j4 (oM (kx (vv 2) (vv 7)) ki)) ki (k9 _)) (j3 (cv 9) j7))))) (jq (qA nd (oA (vv 7) ki))))))) (jq (k3 (qJ (o:=.no) (j3 (Jq (kvk K) qj4 (vv 1) T.b_list Wk) (j3 (cv 6) j7))))))))))))) h
theorem kv6(T:Txt K mg)(ac:jkr P w K mg base)(ax:jw8 P w K mg base)(F:Fun K "_law_chain" "_law_chain" jvy f fd):FnOk P w K mg base (CXE P w) 2 f fd ["_law_cell","_law_signs_here"] (spF K mg 2 jq5):=
 qk F sc__law_chain (q9 rfl) λba A outer s H vs Q E hr h=>have nd:=sc__law_chain.nd;qj rfl
  (j6 (qA nd (qC ac hr (j3 (cv 0) (j3 kI j7)))) (j6 (qA nd (oA ki (j4 (oM (kx (vv 2) ki) ki)))) (j6 (qA nd (oA (j4 (kK (o:=.rt) (j3 kI j7))) (j4 (qM .rt 1 [2] 15 ["_law_k","_law_xs"] (wQ (j4 (vq qk2 qkw (vv 3) ki)) rfl T.b_range) (λ_ _ _ _ _=>(oM (kx (vv 1) (j4 (oA ki (vv 0)))) ki)))))) (j6 (qA nd (kK (o:=.rt) j7)) (j6 (qA nd kI) (j6 (qF (wQ (vv 3) rfl T.b_range) (gN nd) (j6 (qA nd (kK (o:=.rt) j7)) (j6 (qF (wQ (j4 (qL (vv 1) T.b_len)) rfl T.b_range) (gN nd) (j6 (qA nd (kK (o:=.rt) j7)) (j6 (qF (wQ (j4 (oA (kx (vv 4) (vv 7)) ki)) rfl T.b_range) (gN nd) (j6 (qA nd (jz (kx (vv 2) (vv 6)))) (j6 (qA nd (oA (vv 6) ki)) (j6 (qA nd (oA (kx (vv 4) (vv 7)) (j4 (Jq jw6 kxp (j4 (Kj (ww hr.units) wK (vv 11) (kx (vv 4) (vv 7)) (k9 _))) T.b_int VX)))) (j6 (qA nd (jz (kx (j4 (kK (o:=.rt) (j3 (oM (j4 (oA (vv 7) ki)) (vv 3)) (j3 (oM (j4 (vq xY xv (vv 12) ki)) (vv 3)) j7)))) (j4 (Jq jw6 kxp (j4 (Kj (ww hr.units) wK (j4 (oM (vv 12) ki)) ki (k9 _))) T.b_int VX))))) (jq (v4 (QW.pt (JK (kq (ww hr.units) wK (j4 (oM (vv 12) ki)) ki (k9 _) KJ) (V7 (kq wv0 (ZX (g:=λa b=>decide (b<a))) (kx (vv 4) (vv 14)) (vv 13) (k9 _) vjc)))) (jq (qP kN)) (jq (qP (qJ (o:=.no) (j3 (cv 14) (j3 (qC ax hr (j3 (vq xY xv (vv 12) ki) (j3 (jz (kx (vv 4) (vv 14))) (j3 (cv 13) j7)))) j7)))))))))))) (jq (qP (cv 10)))))) (j6 (qP (qJ (o:=.no) (j3 (jz (kx (vv 4) (vv 7))) (j3 (Kj (ww hr.units) wK (j4 (oM (kx (vv 2) (vv 6)) ki)) ki (k9 _)) (j3 (cv 8) j7))))) (jq (qA nd (oA (vv 6) ki))))))) (jq (k3 (qJ (o:=.no) (j3 (Jq (kvk K) qj4 (vv 1) T.b_list Wk) (j3 (cv 5) j7))))))))))) h
theorem kjo(T:Txt K mg)(cq:jzj P w K mg base)(cp:jzk P w K mg base)(F:Fun K "_law_machine" "_law_machine" jv2 f fd):FnOk P w K mg base (CXE P w) 4 f fd ["_law_cell","_law_signs_here"] (spF K mg 2 Q3):=
 qk F kj9 (q9 rfl) λba A outer s H vs Q E hr h=>qj rfl
  (j6 (v4 (kq (ww hr.units) wK (j4 (oM (vv 0) ki)) ki (k9 _) KJ) (jq (k3 (qC cp hr (j3 (vq xY xv (vv 0) ki) (j3 (cv 1) j7))))) v8) (jq (k3 (qC cq hr (j3 (cv 0) (j3 (cv 1) j7)))))) h
theorem kwg(T:Txt K mg)  (F:Fun K "_law_read" "_law_read" jwx f fd):FnOk P w K mg base (CXE P w) 1 f fd ["_law_plain_here","_law_standing","_law_sign","_law_name"] (spF K mg 4 m__law_read):=
 qk F sc__law_read (q9 rfl) λba A outer s H vs Q E hr h=>have nd:=sc__law_read.nd;qj rfl
  (j6 (v4 (kq XX W3 (vv 1) kn (k9 _) W1) (jq (k3 kN)) v8) (j6 (qjq (cv 1) (Jz (is:=[4,5]) (JX K (t:=gNs [4,5]) (n:=2) (v7 (gn nd) (v7 (gn nd) JJ))))) (j6 (qjq (jz (kx (kx (vv 0) ki) (vv 4))) (Jz (is:=[6,7,8]) (JX K (t:=gNs [6,7,8]) (n:=3) (v7 (gn nd) (v7 (gn nd) (v7 (gn nd) JJ)))))) (j6 (qA nd (cv 6)) (j6 (v4 (kq (vkr hr.units) vqz (vv 3) (vv 5) (by rfl) vqu) (jq (qA nd (Wz hr.units (vv 5) (vv 3)))) v8) (j6 (qA nd (jz (kx (kx (vv 8) (j4 (Wz hr.units (kx (vv 0) ki) (vv 2)))) (vv 9)))) (j6 (v4 (kq XX W3 (vv 10) kn (k9 _) W1) (jq (k3 kN)) v8) (jq (k3 (qJ (o:=.no) (j3 (jz (kx (vv 10) ki)) (j3 (qT (j4 (qM .rt 1 [5,3] 11 ["_law_fill","_law_names","_law_name"] (x5 (jz (kx (vv 10) ki))) (λ_ _ _ _ _=>(jz (kx (j4 (oA (j4 (Jq (kvk K) qj4 (vv 1) T.b_list Wk)) (j4 (kK (o:=.rt) (j3 (cv 2) j7))))) (vv 0)))))) T.b_tuple) j7)))))))))))) h
theorem kkl(T:Txt K mg)  (F:Fun K "_law_shared" "_law_shared" jvi f fd):FnOk P w K mg base (CXE P w) 1 f fd ["_law_number","_law_many","_law_size"] (spF K mg 3 m__law_shared):=
 qk F sc__law_shared (q9 rfl) λba A outer s H vs Q E hr h=>have nd:=sc__law_shared.nd;qj rfl
  (j6 (qA nd (qwi (vv 2) T.b_range T.b_list)) (j6 (qA nd (kK (o:=.rt) j7)) (j6 (qF (wQ (vv 1) rfl T.b_range) (gN nd) (j6 (v4 (QW.pt (vva (kq (vkq hr.units) vqx (vv 3) (j4 (kK (o:=.rt) j7)) (k9 _) vqt) (qwg (kq wv0 (ZX (g:=λa b=>decide (b<a))) (j4 (oM (vv 0) ki)) ki (k9 _) vjc)))) (jq (qP (qJ (o:=.no) (j3 (QE.weak (cv 5)) (j3 (wkt (i:=3) (qwy K PySem.F.plainAttrs_list PySem.F.slot_list_pop PySem.F.type_list_pop qk6 (pv 3) (vw (j4 (oM (j4 (vq xY xv (vv 0) ki)) (j4 (qL (vv 3) T.b_len)))) vQ))) wzb))))) v8) (jq (qA nd (oA (j4 (vq xY xv (vv 0) ki)) (j4 (oX ki (vv 5)))))))) (jq (k3 (qT (vv 4) T.b_tuple)))))) h
theorem kjp(T:Txt K mg)  (F:Fun K "_law_keepers" "_law_keepers" jv3 f fd):FnOk P w K mg base (CXE P w) 1 f fd ["_law_plain_here","_law_room"] (spF K mg 2 m__law_keepers):=
 qk F kja (q9 rfl) λba A outer s H vs Q E hr h=>qj rfl
  (j6 (v4 (kq (ww hr.units) wK (vv 1) (j4 (wx6 qj9 qkx ki)) (k9 _) KJ) (jq (k3 kI)) v8) (jq (k3 (jz (kx (kx (kx (vv 0) ki) (vv 1)) ki))))) h
theorem kwh(T:Txt K mg)  (F:Fun K "_law_pair" "_law_pair" jwy f fd):FnOk P w K mg base (CXE P w) 1 f fd ["_law_here","_law_there"] (spF K mg 2 m__law_pair):=
 qk F sc__law_pair (q9 rfl) λba A outer s H vs Q E hr h=>have nd:=sc__law_pair.nd;qj rfl
  (j6 (qA nd (kK (o:=.rt) (j3 (qJ (o:=.no) j7) (j3 (qJ (o:=.no) j7) j7)))) (j6 (qA nd (kK (o:=.rt) (j3 (wx6 qj9 qkx ki) (j3 (wx6 qj9 qkx ki) j7)))) (j6 (qF (wkv (kK (o:=.rt) (j3 (cv 0) (j3 (cv 1) j7))) rfl T.b_enumerate) (Jz (is:=[4,5]) (JX K (t:=gNs [4,5]) (n:=2) (v7 (gn nd) (v7 (gn nd) JJ)))) (jq (v4 (kq qx0 vjj (vv 5) kn (k9 _) vjb) (j6 (wks (i:=3) (pv 3) (vv 4) (jz (kx (vv 5) ki))) (jq (wks (i:=2) (pv 2) (vv 4) (jz (kx (vv 5) ki))))) v8))) (j6 (kz3 (i:=6) (o:=.rt) (k:=2) (R:=[2]) ["_law_i","_law_name","_law_names"] nd rfl (by trivial) (qwj (jz (kx (vv 2) ki)) rfl T.b_enumerate) (λ_ _ _ _ _=>(Jz (is:=[0,1]) (JX K (t:=gNs [0,1]) (n:=2) (v7 (J0 (i:=0) (show(["_law_i","_law_name","_law_names"]:List Str).Nodup by decide +kernel) rfl (by trivial)) (v7 (J0 (i:=1) (show(["_law_i","_law_name","_law_names"]:List Str).Nodup by decide +kernel) rfl (by trivial)) JJ))))) (λ_ _ _ _ _=>(qwf (kq (vkr hr.units) vqz (vv 1) (kx (vv 2) ki) (by rfl) vqu))) (λ_ _ _ _ _=>(qJ (o:=.no) (j3 (cv 0) (j3 (Wz hr.units (kx (vv 2) ki) (vv 1)) j7)))) Q7 ⟨_,_,rfl,rfl⟩ ⋯ (show ∀j∈([2]:List Nat) ,j<7 by decide)) (jq (k3 (qJ (o:=.no) (j3 (jz (kx (vv 3) ki)) (j3 (jz (kx (vv 3) ki)) (j3 (qT (vv 6) T.b_tuple) j7)))))))))) h
theorem kjq(T:Txt K mg)(az:jzg P w K mg base)(F:Fun K "_law_is_pair" "_law_is_pair" jv4 f fd):FnOk P w K mg base (CXE P w) 2 f fd ["_law_found","_law_due"] (spF K mg 2 m__law_is_pair):=
 qk F sc__law_is_pair (q9 rfl) λba A outer s H vs Q E hr h=>have nd:=sc__law_is_pair.nd;qj rfl
  (j6 (v4 (QW.pt (JK (zJ (J3 (j4 (XV (vv 0) T.b_isinstance T.b_tuple kj3 rfl)))) (JK (kq (vkq hr.units) vqx (j4 (qL (vv 0) T.b_len)) ki (k9 _) vqt) (V7 (zJ (J3 (j4 (XV (kx (vv 0) ki) T.b_isinstance T.b_tuple kj3 rfl)))))))) (jq (k3 (q_C Kw (λ_=>JQ)))) v8) (j6 (v4 (QW.pt (JK (zJ (J3 (j4 (qC az hr (j3 (jz (kx (vv 0) ki)) j7))))) (V7 (zJ (J3 (j4 (qC az hr (j3 (jz (kx (vv 0) ki)) j7)))))))) (jq (k3 (q_C Kw (λ_=>JQ)))) v8) (j6 (qF (x5 (jz (kx (vv 0) ki))) (gN nd) (jq (v4 (QW.pt (JK (zJ (J3 (j4 (XV (vv 2) T.b_isinstance T.b_tuple kj3 rfl)))) (JK (kq (vkq hr.units) vqx (j4 (qL (vv 2) T.b_len)) ki (k9 _) vqt) (JK (zJ (J3 (j4 (qC az hr (j3 (jz (kx (vv 2) ki)) j7))))) (V7 (zJ (J3 (j4 (qC az hr (j3 (jz (kx (vv 2) ki)) j7)))))))))) (jq (k3 (q_C Kw (λ_=>JQ)))) v8))) (jq (k3 (Kj (ww hr.units) wK (vv 0) (vv 1) (k9 _))))))) h
theorem kkm(T:Txt K mg)(ai:jv7 P w K mg base)(F:Fun K "_law_firsts" "_law_firsts" jvj f fd):FnOk P w K mg base (CXE P w) 2 f fd ["_law_one","_law_other","_law_pair_here"] (spF K mg 3 Zq):=
 qk F sc__law_firsts (q9 rfl) λba A outer s H vs Q E hr h=>have nd:=sc__law_firsts.nd;qj rfl
  (j6 (qjq (cv 2) (Jz (is:=[3,4,5]) (JX K (t:=gNs [3,4,5]) (n:=3) (v7 (gn nd) (v7 (gn nd) (v7 (gn nd) JJ)))))) (j6 (qA nd (qwi (j4 (qC ai hr (j3 (cv 0) (j3 (cv 3) j7)))) T.b_range T.b_list)) (j6 (qA nd wq1) (j6 (qF (x5 (cv 5)) (Jz (is:=[8,9]) (JX K (t:=gNs [8,9]) (n:=2) (v7 (gn nd) (v7 (gn nd) JJ)))) (jq (wkw (i:=7) hr.units (pv 7) (vv 9) (cv 8)))) (j6 (qA nd (kK (o:=.rt) j7)) (j6 (qA nd (qL (vv 6) T.b_len)) (j6 (qF (wQ (j4 (qC ai hr (j3 (cv 1) (j3 (cv 4) j7)))) rfl T.b_range) (gN nd) (j6 (qP (jz (wkx hr.units (vv 7) (vv 9) (vv 11)))) (jq (qA nd (oA (vv 11) (j4 (Jq jw6 kxp (j4 (Kj (vkp hr.units) vji (vv 9) (vv 7) (by rfl))) T.b_int VX))))))) (j6 (qA nd (kK (o:=.rt) (j3 (qJ (o:=.no) (j3 (cv 3) (j3 (qT (vv 6) T.b_tuple) j7))) (j3 (qJ (o:=.no) (j3 (cv 4) (j3 (qT (vv 10) T.b_tuple) j7))) j7)))) (jq (k3 (qM .rt 1 [] 13 ["_law_standing"] (x5 (cv 12)) (λ_ _ _ _ _=>(jz (kx (j4 (kK (o:=.rt) (j3 (cv 0) (j3 kN j7)))) (j4 (Jq jw6 kxp (j4 (Kj (ww hr.units) wK (kx (vv 0) ki) (j4 (wx6 qj9 qkx ki)) (k9 _))) T.b_int VX)))))))))))))))) h
theorem jxg(T:Txt K mg)(c8:jxs P w K mg base)(cz:kkd P w K mg base)(bz:kkc P w K mg base)(F:Fun K "_law_behind_all" "_law_behind_all" jkw f fd):FnOk P w K mg base (CXE P w) 3 f fd ["_law_one","_law_other","_law_pair_here"] (spF K mg 3 Zx):=
 qk F sc__law_behind_all (q9 rfl) λba A outer s H vs Q E hr h=>have nd:=sc__law_behind_all.nd;qj rfl
  (j6 (qjq (qC c8 hr (j3 (cv 0) (j3 (cv 1) (j3 (cv 2) j7)))) (Jz (is:=[3,4]) (JX K (t:=gNs [3,4]) (n:=2) (v7 (gn nd) (v7 (gn nd) JJ))))) (j6 (qA nd wq2) (j6 (qF (x5 (kK (o:=.rt) (j3 (cv 3) (j3 (cv 4) j7)))) (gN nd) (jq (v4 (kq qx0 vjj (vv 6) kn (k9 _) vjb) (jq (qF (x5 (jz (kx (vv 6) ki))) (gN nd) (jq (wq4 (i:=5) hr.units (pv 5) (vv 7) (q_C Kw (λ_=>JQ)))))) v8))) (j6 (qA nd (kK (o:=.rt) j7)) (j6 (qF (x5 (jz (kx (vv 0) ki))) (gN nd) (jq (qF (x5 (oA (j4 (Jq (qv6 K rfl) vqy (vv 5) T.b_list Wk)) (j4 (kK (o:=.rt) (j3 (wz7 vj4 wj9 (vv 5) T.b_len vwe) j7))))) (gN nd) (j6 (qA nd (qC cz hr (j3 (qC bz hr (j3 (cv 0) (j3 (cv 3) (j3 (cv 9) (j3 (cv 7) j7))))) (j3 (qC bz hr (j3 (cv 1) (j3 (cv 4) (j3 (cv 9) (j3 (cv 7) j7))))) j7)))) (jq (v4 (kq (kqy hr.units) kvt (vv 10) (vv 8) (by rfl) kvm) (jq (qP (cv 10))) v8)))))) (jq (k3 (wx7 (pv 8))))))))) h
theorem kv3(T:Txt K mg)(bq:jwr P w K mg base)(b7:jve P w K mg base)(bn:jwu P w K mg base)(F:Fun K "_law_right" "_law_right" jvv f fd):FnOk P w K mg base (CXE P w) 5 f fd ["_law_one","_law_other","_law_pair_here"] (spF K mg 3 Qv):=
 qk F sc__law_right (q9 rfl) λba A outer s H vs Q E hr h=>have nd:=sc__law_right.nd;qj rfl
  (j6 (qA nd (wz7 (vj8 hr.units K) xjk (j4 (qC b7 hr (j3 (cv 0) (j3 (cv 1) (j3 (cv 2) j7))))) T.b_sorted (by decide +kernel))) (j6 (qA nd (qC bq hr (j3 (cv 0) (j3 (cv 1) (j3 (cv 2) j7))))) (j6 (v4 (QW.pt (JK (zJ (J3 (j4 (XV (vv 4) T.b_isinstance T.b_list Wk rfl)))) (V7 (kq (vkq hr.units) vqx (j4 (qL (vv 4) T.b_len)) (j4 (qL (vv 3) T.b_len)) (k9 _) vqt)))) (jq (k3 (q_C Kw (λ_=>JQ)))) v8) (j6 (wkz (i:=4) (j:=3) (wqy ⟨_,_,rfl,rfl⟩) rfl (pv 4) (pv 3) rfl T.b_zip (Jz (is:=[5,6]) (JX K (t:=gNs [5,6]) (n:=2) (v7 (gn nd) (v7 (gn nd) JJ)))) (jq (v4 (zJ (J3 (j4 (qC bn hr (j3 (cv 5) (j3 (cv 6) j7)))))) (jq (k3 (q_C Kw (λ_=>JQ)))) v8))) (j6 (qP (cv 2)) (j6 (wz1 (i:=4) (pv 4) rfl qqq) (jq (k3 (q_C Kw (λ_=>JQ)))))))))) h
theorem wv5(T:Txt K mg)(ci:jzh P w K mg base)(au:jwt P w K mg base)(am:jwv P w K mg base)(ac:jkr P w K mg base)(ay:jzi P w K mg base)(c9:jxr P w K mg base)(ai:jv7 P w K mg base)(F:Fun K "law" "law" vwv f fd):FnOk P w K mg base (CXE P w) 6 f fd ["_law_script"] (spF K mg 1 m_law):=
 qk F sc_law (q9 rfl) λba A outer s H vs Q E hr h=>have nd:=sc_law.nd;qj rfl
  (j6 (qA nd (qC ci hr (j3 (qC am hr (j3 (cv 0) (j3 kI j7))) j7))) (j6 (qA nd (qC au hr (j3 (qC am hr (j3 (cv 0) (j3 kI j7))) (j3 (cv 1) j7)))) (j6 (qA nd (qC au hr (j3 (qC am hr (j3 (cv 0) (j3 kI j7))) (j3 (cv 1) j7)))) (j6 (qF (x5 (oA (j4 (kK (o:=.rt) (j3 kI j7))) (j4 (wkr (vv 0) (YW ki) (YW ki))))) (gN nd) (j6 (qA nd (qC ac hr (j3 (cv 4) (j3 kI j7)))) (j6 (qA nd (vq qk2 qkw (j4 (oM (kx (vv 5) ki) (j4 (oA (j4 (qL (kx (vv 2) ki) T.b_len)) ki)))) ki)) (j6 (qA nd (vq qk2 qkw (j4 (oM (kx (vv 5) ki) (j4 (oA (j4 (qL (kx (vv 3) ki) T.b_len)) ki)))) ki)) (j6 (qA nd (qJ (o:=.no) (j3 (cv 6) (j3 (cv 7) (j3 (qC c9 hr (j3 (jz (kx (vv 5) ki)) (j3 (qC ai hr (j3 (cv 2) (j3 (cv 6) j7))) (j3 (qC ai hr (j3 (cv 3) (j3 (cv 7) j7))) j7)))) j7))))) (jq (v4 (zJ (J3 (j4 (qC ay hr (j3 (cv 2) (j3 (cv 3) (j3 (cv 8) j7))))))) (jq (k3 (q_C Kw (λ_=>JQ)))) v8))))))) (j6 (qA nd (qJ (o:=.no) (j3 kI (j3 kI (j3 (qJ (o:=.no) j7) j7))))) (j6 (v4 (QW.pt (JK (zJ (J3 (j4 (qC ay hr (j3 (cv 2) (j3 (cv 3) (j3 (cv 8) j7))))))) (V7 (zJ (J3 (j4 (qC ay hr (j3 (cv 3) (j3 (cv 2) (j3 (cv 8) j7)))))))))) (jq (k3 (q_C Kw (λ_=>JQ)))) v8) (j6 (qA nd (kK (o:=.rt) (j3 (qC au hr (j3 (qC am hr (j3 (cv 0) (j3 kI j7))) (j3 (cv 1) j7))) (j3 (qC au hr (j3 (qC am hr (j3 (cv 0) (j3 kI j7))) (j3 (cv 1) j7))) j7)))) (jq (k3 (wq7 (j4 (qC ay hr (j3 (cv 2) (j3 (cv 3) (j3 (cv 8) j7))))) (vvb (Kj (ww hr.units) wK (j4 (kK (o:=.rt) (j3 (cv 2) (j3 (cv 3) j7)))) (vv 9) (k9 _))))))))))))) h
end
theorem all_mk{l:PySem.W.OpenLaw}{w:PySem.World}{K:Frag}{h:Heap}{mg:Str->Option Value}{fa:Addr}(X:K.In h)(G:h.Ns mainGlobals mg)(hfa:mg "law"=some (.ref fa)){fw:Value}
  (g0:Gf K "read_by" kjd)
  (g1:Gf K "keepers_in" jvs)
  (g2:Gf K "standing_in" jvg)
  (g3:Gf K "first_standings" jkv)
  (g4:Gf K "names_of" jxz)
  (g5:Gf K "held_by_both" jv1)
  (g6:Gf K "room_of" kjc)
  (g7:Gf K "pair_of" kje)
  (g8:Gf K "read_by_both" jqz)
  (g9:Gf K "steps_from" jvr)
  (g10:Gf K "pairs_behind" jv0)
  (g11:Gf K "_law_cell_at" jv5)
  (g12:Gf K "_law_whole" jvt)
  (g13:Gf K "_law_stream" jvh)
  (g14:Gf K "_law_signs" jvu)
  (g15:Gf K "_law_fills" jvx)
  (g16:Gf K "_law_case" jwz)
  (g17:Gf K "_law_plain" jvw)
  (g18:Gf K "_law_chain" jvy)
  (g19:Gf K "_law_machine" jv2)
  (g20:Gf K "_law_read" jwx)
  (g21:Gf K "_law_shared" jvi)
  (g22:Gf K "_law_keepers" jv3)
  (g23:Gf K "_law_pair" jwy)
  (g24:Gf K "_law_is_pair" jv4)
  (g25:Gf K "_law_firsts" jvj)
  (g26:Gf K "_law_behind_all" jkw)
  (g27:Gf K "_law_right" jvv)
  (g28:Gf K "law" vwv)
  (q_NOWHERE:nsIn K mainGlobals "NOWHERE"=some (some fw)) (r_NOWHERE:RelV (V.int (-1)) fw)
  (z_bool:nsIn K mainGlobals "bool"=some none)
  (z_dict:nsIn K mainGlobals "dict"=some none)
  (z_enumerate:nsIn K mainGlobals "enumerate"=some none)
  (z_int:nsIn K mainGlobals "int"=some none)
  (z_isinstance:nsIn K mainGlobals "isinstance"=some none)
  (z_len:nsIn K mainGlobals "len"=some none)
  (z_list:nsIn K mainGlobals "list"=some none)
  (z_range:nsIn K mainGlobals "range"=some none)
  (z_set:nsIn K mainGlobals "set"=some none)
  (z_sorted:nsIn K mainGlobals "sorted"=some none)
  (z_tuple:nsIn K mainGlobals "tuple"=some none)
  (z_zip:nsIn K mainGlobals "zip"=some none)
  : ∃fd:FuncData,(∀(s:Shared) (v:Value),BindsTo s fd ⟨[v],[]⟩ [("_law_script",v)])/\∀base:Heap,K.In base->base.Ns mainGlobals mg->FnOk l.prog w K mg base (CXE l.prog w) 6 fa fd ["_law_script"] (spF K mg 1 m_law):=by
 have T:Txt K mg:=⟨Yb X G z_bool,Yb X G z_dict,Yb X G z_enumerate,Yb X G z_int,Yb X G z_isinstance,Yb X G z_len,Yb X G z_list,Yb X G z_range,Yb X G z_set,Yb X G z_sorted,Yb X G z_tuple,Yb X G z_zip,⟨_,PySem.W.mg_of X G q_NOWHERE,r_NOWHERE⟩⟩;refine g28.law X G hfa fun {base _ _} F=>?_
 have db:kxr l.prog w K mg base:=g0.d X G (qqm T );have bi:jzf l.prog w K mg base:=g1.d X G (kv0 T );have bd:jxq l.prog w K mg base:=g2.d X G (kkj T );have b8:jvd l.prog w K mg base:=g3.d X G (jxf T bi bd);have av:jz9 l.prog w K mg base:=g4.d X G (kz9 T );have bo:jws l.prog w K mg base:=g5.d X G (kjn T av);have da:kxq l.prog w K mg base:=g6.d X G (qql T );have dv:kxs l.prog w K mg base:=g7.d X G (qqn T av da);have br:jwq l.prog w K mg base:=g8.d X G (kjl T db);have cf:jze l.prog w K mg base:=g9.d X G (kqz T b8 bo dv br);have bq:jwr l.prog w K mg base:=g10.d X G (kjm T cf);have am:jwv l.prog w K mg base:=g11.d X G (kjr T );have az:jzg l.prog w K mg base:=g12.d X G (kv1 T );have ac:jkr l.prog w K mg base:=g13.d X G (kkk T );have ci:jzh l.prog w K mg base:=g14.d X G (kv2 T ac);have ax:jw8 l.prog w K mg base:=g15.d X G (kv5 T );have d8:kke l.prog w K mg base:=g16.d X G (kwi T ax);have cq:jzj l.prog w K mg base:=g17.d X G (kv4 T ac d8);have cp:jzk l.prog w K mg base:=g18.d X G (kv6 T ac ax);have au:jwt l.prog w K mg base:=g19.d X G (kjo T cq cp);have bz:kkc l.prog w K mg base:=g20.d X G (kwg T );have c9:jxr l.prog w K mg base:=g21.d X G (kkl T );have ai:jv7 l.prog w K mg base:=g22.d X G (kjp T );have cz:kkd l.prog w K mg base:=g23.d X G (kwh T );have bn:jwu l.prog w K mg base:=g24.d X G (kjq T az);have c8:jxs l.prog w K mg base:=g25.d X G (kkm T ai);have b7:jve l.prog w K mg base:=g26.d X G (jxg T c8 cz bz);have ay:jzi l.prog w K mg base:=g27.d X G (kv3 T bq b7 bn);exact wv5 T ci au am ac ay c9 ai F
end Nk41
namespace PySem.W.Fast
def tw5868956898055802776:=()
def tw8220769663944767049:=()
def tw5114654611028128214:=()
def tw6137569044841315938:=()
def tw13450476453643083015:=()
def tw9117976693348833597:=()
def tw17290093828306354412:=()
def tw3366068602068851932:=()
def tw17946191169106905603:=()
def tw5988557560437743518:=()
def tw17935654777597952377:=()
def tw15213678233778950666:=()
def tw12604296328400312120:=()
def tw5875281406431648302:=()
def tw9344622374544501008:=()
def tw825370540455243332:=()
def tw15963913589538317646:=()
def tw5244725636301701946:=()
def tw14891997429664177389:=()
def tw4482462192398159744:=()
def tw8935735731300765581:=()
def tw13484156343429380328:=()
def tw1191362752100889373:=()
def tw18204195565268968899:=()
def tw4443582029248070712:=()
def tw11742979790399781479:=()
def tw10341064676437246869:=()
def tw15722849675789334859:=()
def tw15193781234942653425:=()
def tw5654624446276273864:=()
def tw3898896409332488120:=()
def tw14204005628559889567:=()
def tw11706589685207351689:=()
def tw8132264151736238891:=()
def tw15982487085430689285:=()
def tw3969308807760664094:=()
def tw1533657466632464350:=()
def tw15801460116268341062:=()
def tw5553581669334960028:=()
def tw3238946649528458673:=()
def tw11518671309246432364:=()
def tw2762991992513558745:=()
def tw15473113165159059050:=()
def tw6572118896228970412:=()
def tw9578910375092099554:=()
def tw12047864841859237486:=()
def tw3749580951971221070:=()
def tw13278836383204168301:=()
def tw18023663659816989636:=()
def tw16429704127441497919:=()
def tw11004827498946278805:=()
def tw15994783687701490254:=()
def tw13094855698316751765:=()
def tw4287002178067533224:=()
def tw6012440159004354027:=()
def tw4453825651274734967:=()
def tw11214258865668865899:=()
def tw2791152472328993735:=()
def tw13812244637104034084:=()
def tw10882936480341533685:=()
def tw14784302169428315908:=()
def tw18366516950368367942:=()
def tw11296068869112314582:=()
def tw14061916271728547610:=()
def tw15728053751954333987:=()
def tw2606573879266464305:=()
def tw8162799803040388229:=()
def tw10896999533778884363:=()
def tw14016715740977323307:=()
def tw3613019645066726009:=()
def tw6309700273764147722:=()
def tw5084794573888745711:=()
def tw10053605124690030371:=()
def tw9584348989617633430:=()
def tw12406887257628233413:=()
def tw4147210794096335955:=()
end PySem.W.Fast
open PySem PySem.W PyProof.Rows
set_option maxRecDepth 100000 in
set_option maxHeartbeats 0 in
theorem PySem.Challenge.cw_freshrooms_k41_all_pairs_behind_holds : PySem.Challenge.rw_freshrooms_k41_all_pairs_behind.Holds := by
 w_on;o_law;k_head;(case hw=>w_witness2)
 k_fill
 refine Q.walkQ (l:=PySem.Challenge.rw_freshrooms_k41_all_pairs_behind) (n:=63) (k:=6) (x:="_law_script") (f:=Nk41.m_law) rfl ⋯ rfl ⟨rfl,⋯,⋯,rfl⟩ (fun w h Y=>PySem.W.kIn_of Y) ?F Nk41.law_true
 case F =>
  intro w mg fa h KX G hmg
  refine' Nk41.all_mk KX G hmg ?_ ?_ ?_ ?_ ?_ ?_ ?_ ?_ ?_ ?_ ?_ ?_ ?_ ?_ ?_ ?_ ?_ ?_ ?_ ?_ ?_ ?_ ?_ ?_ ?_ ?_ ?_ ?_ ?_ ?q_NOWHERE ?r_NOWHERE ?z_bool ?z_dict ?z_enumerate ?z_int ?z_isinstance ?z_len ?z_list ?z_range ?z_set ?z_sorted ?z_tuple ?z_zip
  all_goals try (refine' Q.Gf.mk ?a ?b ?c ?d;(case a=>k_is);(case b=>k_is);(case c=>k_is);(case d=>k_is))
  (case q_NOWHERE=>k_is)
  (case r_NOWHERE=>exact ⟨_,rfl⟩)
  (case z_bool=>k_is)
  (case z_dict=>k_is)
  (case z_enumerate=>k_is)
  (case z_int=>k_is)
  (case z_isinstance=>k_is)
  (case z_len=>k_is)
  (case z_list=>k_is)
  (case z_range=>k_is)
  (case z_set=>k_is)
  (case z_sorted=>k_is)
  (case z_tuple=>k_is)
  (case z_zip=>k_is)
