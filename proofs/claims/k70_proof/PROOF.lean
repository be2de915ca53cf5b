import PyProof.Rows.All
import Wide.All
import OpenK.AllK
import Wide.FinOn
import Lean
import PySem.Challenge.RW_freshrooms_k70_rooms_of_a_table
open PySem.W(Frag kitOne nsIn findIn)
set_option Elab.async false
set_option linter.all false
set_option bootstrap.genMatcherCode false
set_option compiler.extract_closed false
set_option maxRecDepth 100000
local macro_rules|`(⋯)=>`(by first|decide|lia)
local macro_rules|`(tactic|ac_rfl)=>`(tactic|with_unfolding_all rfl)
local macro_rules|`(tactic|exists$e)=>`(tactic|with_unfolding_all exact$e)
abbrev VP9:=PySem.Value->PySem.Shared->Prop
abbrev LA9:=List (PySem.Addr×PySem.Obj)
abbrev Kq9(k:List Int):=∀p∈k,0<=p/\p<=3
theorem aA{α}{a:α}{s t:List α}:a∈s++t->a∈s∨a∈t:=List.mem_append.mp
theorem aB{α}{a b:α}:a=b->a∈[b]:=List.mem_singleton.mpr
theorem aC{α}{a b:α}:a∈[b]->a=b:=List.mem_singleton.mp
theorem aD{α}{a b:α}{l:List α}:a∈b::l->a=b∨a∈l:=List.mem_cons.mp
theorem aE{α β}{f:α->β}{l:List α}{b:β}:b∈l.map f->∃a,a∈l∧f a=b:=List.mem_map.mp
local macro_rules|`(tactic|trivial)=>`(tactic|first|exact Or.inl rfl|exact Or.inr rfl)
def Ŕq(_:True:=by rfl):True:=trivial
def Ŕq.z:True:=trivial
open Ŕq renaming _auto_1→Ŕ
def ŕq(_:True:=by decide):True:=trivial
def ŕq.z:True:=trivial
open ŕq renaming _auto_1→ŕ
def Ŗq(_:True:=by intro _;rfl):True:=trivial
def Ŗq.z:True:=trivial
open Ŗq renaming _auto_1→Ŗ
def ŗq(_:True:=by decide +kernel):True:=trivial
def ŗq.z:True:=trivial
open ŗq renaming _auto_1→ŗ
def Řq(_:True:=by first|exact .inl rfl|exact .inr rfl|assumption):True:=trivial
def Řq.z:True:=trivial
open Řq renaming _auto_1→Ř
def řq(_:True:=by first|exact Or.inl rfl|exact Or.inr (Or.inl rfl)|exact Or.inr (Or.inr rfl)):True:=trivial
def řq.z:True:=trivial
open řq renaming _auto_1→ř
def Śq(_:True:=by trivial):True:=trivial
def Śq.z:True:=trivial
open Śq renaming _auto_1→Ś
def śq(_:True:=by first|exact .inl rfl|exact .inr rfl):True:=trivial
def śq.z:True:=trivial
open śq renaming _auto_1→ś
theorem oq9{α : Type _}{a b : α}(h:some a=some b):a=b:=Option.some.inj h
theorem lr9{α : Type _}{a : α}{b : List α}(c : List α)(h:a ∈ b):a ∈ c ++ b:=List.mem_append_right c h
theorem ll9{α : Type _}{a : α}{b : List α}(c : List α)(h:a ∈ b):a ∈ b ++ c:=List.mem_append_left c h
theorem lc9{α : Type _}{a : α}{l : List α}(b : α)(h:a ∈ l):a ∈ b::l:=List.mem_cons_of_mem b h
section
open PySem PySem.Spec PyProof.Rows
theorem X0:type_of% @wpAny_bind:=@wpAny_bind
theorem X1:type_of% @Heap.get?_push_of_some:=@Heap.get?_push_of_some
theorem X2:type_of% @List.length_map:=@List.length_map
theorem X3:type_of% @wpAny_pure:=@wpAny_pure
theorem X4:type_of% @List.mem_cons_self:=@List.mem_cons_self
theorem X5:type_of% @List.getElem?_eq_getElem:=@List.getElem?_eq_getElem
theorem X6:type_of% @if_pos:=@if_pos
theorem X7:type_of% @Array.length_toList:=@Array.length_toList
theorem X8:type_of% @Nat.le_refl:=@Nat.le_refl
theorem X9:type_of% @List.size_toArray:=@List.size_toArray
theorem Xa:type_of% @if_neg:=@if_neg
theorem Xb:type_of% @List.nodup_append:=@List.nodup_append
theorem Xd:type_of% @Heap.lt_size:=@Heap.lt_size
theorem Xe:type_of% @Heap.get?_push_size:=@Heap.get?_push_size
theorem Xf:type_of% @decide_eq_true:=@decide_eq_true
theorem Xg:type_of% @Array.getElem?_eq_getElem:=@Array.getElem?_eq_getElem
theorem Xh:type_of% @decide_eq_false:=@decide_eq_false
theorem Xi:type_of% @List.map_map:=@List.map_map
theorem Xj:type_of% @Nat.ne_of_lt:=@Nat.ne_of_lt
theorem Xk:type_of% @List.length_cons:=@List.length_cons
theorem Xl:type_of% @List.map_append:=@List.map_append
theorem Xm:type_of% @Nat.lt_of_lt_of_le:=@Nat.lt_of_lt_of_le
theorem Xn:type_of% @List.getElem?_map:=@List.getElem?_map
theorem Xp:type_of% @List.mem_map_of_mem:=@List.mem_map_of_mem
def Xq:type_of% @List.append_nil:=@List.append_nil
theorem Xr:type_of% @Array.getElem?_toList:=@Array.getElem?_toList
theorem Xs:type_of% @List.mem_of_getElem?:=@List.mem_of_getElem?
theorem Xu:type_of% @AutoSeq1.wpAny_loadPart':=@AutoSeq1.wpAny_loadPart'
theorem Xv:type_of% @List.length_range:=@List.length_range
theorem Xw:type_of% @List.getElem?_set_ne:=@List.getElem?_set_ne
theorem Xx:type_of% @PyProof.Rows.callWith_type1:=@PyProof.Rows.callWith_type1
theorem Xy:type_of% @List.all_eq_true:=@List.all_eq_true
theorem Xz:type_of% @List.getElem_mem:=@List.getElem_mem
theorem Y0:type_of% @Int.emod_lt_of_pos:=@Int.emod_lt_of_pos
theorem Y1:type_of% @wpAny_call_entry:=@wpAny_call_entry
theorem Y2:type_of% @PySem.W.mg_none_of:=@PySem.W.mg_none_of
theorem Y3:type_of% @List.getElem?_set_self:=@List.getElem?_set_self
theorem Y4:type_of% @wpAny_holding:=@wpAny_holding
theorem Y5:type_of% @List.length_take:=@List.length_take
theorem Y6:type_of% @List.length_append:=@List.length_append
theorem Y7:type_of% @List.nodup_nil:=@List.nodup_nil
theorem Y8:type_of% @Nat.zero_le:=@Nat.zero_le
theorem Y9:type_of% @Int.emod_nonneg:=@Int.emod_nonneg
theorem Ya:type_of% @wpAny_newObj_type:=@wpAny_newObj_type
theorem Yb:type_of% @List.append_assoc:=@List.append_assoc
theorem Yc:type_of% @List.mem_cons:=@List.mem_cons
theorem Yd:type_of% @Heap.get?_update_self:=@Heap.get?_update_self
theorem Ye:type_of% @PySem.W.kia_one:=@PySem.W.kia_one
theorem Yf:type_of% @List.getD_eq_getElem?_getD:=@List.getD_eq_getElem?_getD
theorem Yg:type_of% @wpAny_setState_of:=@wpAny_setState_of
theorem Yh:type_of% @List.getElem?_append_left:=@List.getElem?_append_left
theorem Yi:type_of% @codeAny_builtin:=@codeAny_builtin
theorem Yj:type_of% @List.map_congr_left:=@List.map_congr_left
theorem Yk:type_of% @List.getElem?_eq_none:=@List.getElem?_eq_none
theorem Yl:type_of% @Nat.le_trans:=@Nat.le_trans
theorem Ym:type_of% @Nat.lt_succ_of_lt:=@Nat.lt_succ_of_lt
theorem Yn:type_of% @List.pairwise_map:=@List.pairwise_map
theorem Yo:type_of% @wpAny_callSpecial?_slot:=@wpAny_callSpecial?_slot
theorem Yp:type_of% @sizeLine_eq:=@sizeLine_eq
def Yq:type_of% @wpAny_Call_Name_kw:=@wpAny_Call_Name_kw
theorem Yr:type_of% @Around.under_plainId:=@Around.under_plainId
theorem Ys:type_of% @List.not_mem_nil:=@List.not_mem_nil
theorem Yt:type_of% @Heap.SameBut.update:=@Heap.SameBut.update
theorem Yu:type_of% @Nat.lt_irrefl:=@Nat.lt_irrefl
theorem Yv:type_of% @Int.eq_ofNat_of_zero_le:=@Int.eq_ofNat_of_zero_le
theorem Yw:type_of% @Array.getD_eq_getD_getElem?:=@Array.getD_eq_getD_getElem?
theorem Yx:type_of% @of_decide_eq_true:=@of_decide_eq_true
theorem Yy:type_of% @PySem.mem_of_lookup:=@PySem.mem_of_lookup
theorem Yz:type_of% @Heap.get?_update_ne:=@Heap.get?_update_ne
theorem Z0:type_of% @List.length_set:=@List.length_set
theorem Z1:type_of% @PyProof.Rows.slot_tuple_getitem:=@PyProof.Rows.slot_tuple_getitem
theorem Z2:type_of% @List.drop_eq_getElem_cons:=@List.drop_eq_getElem_cons
theorem Z3:type_of% @wpAny_setField:=@wpAny_setField
theorem Z4:type_of% @PySem.F.plainAttrs_list:=@PySem.F.plainAttrs_list
theorem Z5:type_of% @wpAny_specialOf:=@wpAny_specialOf
theorem Z6:type_of% @Heap.get?_update_other:=@Heap.get?_update_other
theorem Z7:type_of% @plainId_quiet:=@plainId_quiet
theorem Z8:type_of% @beq_self_eq_true:=@beq_self_eq_true
theorem Z9:type_of% @List.length_replicate:=@List.length_replicate
theorem Za:type_of% @List.length_singleton:=@List.length_singleton
theorem Zb:type_of% @List.foldl_cons:=@List.foldl_cons
theorem Zc:type_of% @beq_false_of_ne:=@beq_false_of_ne
theorem Zd:type_of% @wpAny_pyIter_list:=@wpAny_pyIter_list
theorem Ze:type_of% @wpAny_typeOf:=@wpAny_typeOf
theorem Zf:type_of% @List.flatMap_cons:=@List.flatMap_cons
theorem Zg:type_of% @wpAny_forIn_list:=@wpAny_forIn_list
theorem Zh:type_of% @wpAny_field:=@wpAny_field
theorem Zi:type_of% @True.intro:=@True.intro
end
noncomputable section
namespace L2
open PySem PySem.Spec PyProof.Rows
abbrev Key:=Sum Int Str
def Wv:Key->Value->Bool
 |.inl k,v=>Value.isInt k v|.inr x,v=>Value.isStrOf x v
def keyH(w:World):Key->Int
 |.inl k=>hashInt k|.inr x=>hashStr w x
theorem Kj:∀{k v},Wv k v=true->(∃i t,k=Sum.inl i/\v=Value.int i t)\/(∃x t,k=Sum.inr x/\v=Value.str x t)
 |.inl i,v,h=>by
  obtain⟨t,e⟩:=Value.isInt_shape h;exact .inl ⟨i,t,rfl,e⟩
 |.inr x,v,h=>by
  obtain⟨t,e⟩:=Value.isStrOf_shape h;exact .inr ⟨x,t,rfl,e⟩
theorem qws i t:Wv (.inl i) (.int i t)=true:=by simp[Wv,Value.isInt]
theorem qwr x t:Wv (.inr x) (.str x t)=true:=by simp[Wv,Value.isStrOf]
theorem wq5(a b):decide ((Sum.inl a:Key)=Sum.inl b)=(a==b):=by
 by_cases e:a=b
 ·subst e;simp
 ·grind
theorem wq2(a b):decide ((Sum.inr a:Key)=Sum.inr b)=decide (a=b):=by
 by_cases e:a=b
 ·subst e;simp
 ·grind
theorem wq4 a b:decide ((Sum.inl a:Key)=Sum.inr b)=false:=Xh (λq=>nomatch q)
theorem wq3 a b:decide ((Sum.inr a:Key)=Sum.inl b)=false:=Xh (λq=>nomatch q)
noncomputable def x8(prog:Program)(w:World):PySem.KeyKind prog w Key where
 is:=Wv
 hash:=keyH w
 inj:=λv a b ha hb=>by
  rcases Kj ha with⟨i,t,rfl,rfl⟩|⟨x,t,rfl,rfl⟩
  ·rcases Kj hb with⟨j,u,rfl,e⟩|⟨y,u,rfl,e⟩
   ·injection e with e1 _;rw[e1]
   ·exact nomatch e
  ·rcases Kj hb with⟨j,u,rfl,e⟩|⟨y,u,rfl,e⟩
   ·exact nomatch e
   ·injection e with e1 _;rw[e1]
 byValue:=λk v h=>by
  rcases Kj h with⟨i,t,rfl,rfl⟩|⟨x,t,rfl,rfl⟩<;>rfl
 pyHash:=λhv h=>by
  rcases Kj hv with⟨i,t,rfl,rfl⟩|⟨x,t,rfl,rfl⟩
  ·exact wpAny_pyHash_int h
  ·exact wpAny_pyHash_str h
 eqBool:=λhu hv h=>by
  rcases Kj hu with⟨i,t,rfl,rfl⟩|⟨x,t,rfl,rfl⟩
  ·rcases Kj hv with⟨j,u,rfl,rfl⟩|⟨y,u,rfl,rfl⟩
   ·rw[wq5]at h;exact wpAny_eqBool_int h
   ·rw[wq4]at h;exact SeqAt.EqAt.int_str i t y u _ _ _ _ h
  ·rcases Kj hv with⟨j,u,rfl,rfl⟩|⟨y,u,rfl,rfl⟩
   ·rw[wq3]at h;exact SeqAt.EqAt.str_int x t j u _ _ _ _ h
   ·rw[wq2]at h;exact wpAny_eqBool_str h
 «strs»:=λk x t v h=>by
  rcases Kj h with⟨i,u,rfl,e⟩|⟨y,u,rfl,e⟩
  ·exact nomatch e
  ·injection e with e1 _;subst e1;cases v<;>rfl
theorem kxk prog w i t:(x8 prog w).is (.inl i) (.int i t)=true:=qws i t
theorem kxj prog w x t:(x8 prog w).is (.inr x) (.str x t)=true:=qwr x t
inductive V where
 |non|bl (b:Bool)|int (i:Int)|str (x:Str)|byt (b:Array UInt8)|flt (b:UInt64)|ref (a:Addr)|ty (n:String)
 deriving DecidableEq
def RelV:V->Value->Prop
 |.non,u=>u=Value.none|.bl b,u=>u=Value.bool b|.int i,u=>∃t,u=Value.int i t|.str x,u=>∃t,u=Value.str x t|.byt b,u=>∃t,u=Value.bytes b t|.flt b,u=>∃t,u=Value.float b t|.ref a,u=>u=Value.ref a|.ty n,u=>u=Value.type n
abbrev Vals:List V->List Value->Prop:=Paired RelV
theorem Vals.length{xs us}(r:Vals xs us):xs.length=us.length:=Paired.length r
theorem Vals.get:∀{xs us} {i:Nat} {x},Vals xs us->xs[i]?=some x->∃u,us[i]?=some u/\RelV x u
 |_,_,_,_,.nil,e=>by simp at e|_,_,0,_,.cons r _,e=>by simp at e;subst e;exact⟨_,rfl,r⟩
 |_,_,i+1,x,.cons _ t,e=>by
  obtain⟨u,h1,h2⟩:=Vals.get t (by simpa using e);exact⟨u,by simpa using h1,h2⟩
theorem Vals.append:∀{xs ys us ws},Vals xs us->Vals ys ws->Vals (xs++ys) (us++ws)
 |_,_,_,_,.nil,s=>s|_,_,_,_,.cons r t,s=>.cons r (Vals.append t s)
theorem Vals.take:∀{xs us} (n),Vals xs us->Vals (xs.take n) (us.take n)
 |_,_,0,_=>.nil|_,_,_+1,.nil=>.nil|_,_,n+1,.cons r t=>.cons r (Vals.take n t)
theorem Vals.drop:∀{xs us} (n),Vals xs us->Vals (xs.drop n) (us.drop n)
 |_,_,0,r=>r|_,_,_+1,.nil=>.nil|_,_,n+1,.cons _ t=>Vals.drop n t
def RelO:Option V->Option Value->Prop
 |some v,some u=>RelV v u|none,none=>True|_,_=>False
def KV{κ:Type}:List (κ×V)->List (κ×Value)->Prop:=Paired λ(p:κ×V) (q:κ×Value)=>p.1=q.1/\RelV p.2 q.2
def kV:Key->V
 |.inl i=>.int i|.inr x=>.str x
inductive HO where
 |lst (xs:List V)
 |tup (xs:List V)
 |dK (a9:List (Key×V))|dT (a9:List (List Key×V))
 |set (S:Int->Bool) (n:Nat)
 |ins (C dx:Addr) (fs:List (Str×V))
 |own (x:Addr)
 |xd (fs:List (Str×V))
 |met (f x:Addr)
 |rng (lo hi:Int)
 |frz (o:Obj) (u:HO)
 |tbl (ps:Array Value)
 |ext (φ:World->Heap->Prop)
abbrev Hp:=Addr->Option HO
def IsTupD(h:Heap)(a:Addr)(items:Array Value):Prop:=∃o,h.get? a=some o/\o.cls=.type "tuple"/\o.dict=none/\∃n,o.data=.seq items n
theorem IsTupD.tup{h a items}(p:IsTupD h a items):IsTup h a items:=by
 obtain⟨o,e,c,_,n,d⟩:=p;exact⟨o,e,c,n,d⟩
theorem IsTupD.new(h:Heap) xs:IsTupD (h.push {cls:=.type "tuple",data:=.seq xs}) h.objs.size xs:=⟨_,Xe _ rfl,rfl,rfl,0,rfl⟩
def upd(H:Hp)(a:Addr)(o:HO):Hp:=λb=>if b=a then some o else H b
theorem wQ{H a o}:upd H a o a=some o:=by unfold upd;rw[X6 rfl]
theorem kq{H a b o}(h:b≠a):upd H a o b=H b:=by unfold upd;rw[Xa h]
theorem wxl{H:Hp}{a b o u}(h:H a=some o)(h':H b=some u)(d:o≠u):a≠b:=by
 intro e;subst e;rw[h]at h';exact d (oq9 h')
theorem zV{H:Hp}{a b o}(h:H a=some o)(h':H b=none):a≠b:=by
 grind
section
variable (P:Program)(w:World)
noncomputable def ObjOk(H : Hp)(h : Heap)(a : Addr): HO -> Prop
  |.lst xs=>xs.length<=sizeLine /\ ∃(a8 : List Value) (n : Nat),Vals xs a8 /\ h.get? a = some {cls:= .type "list",data:= .seq a8.toArray n}|.tup xs=>xs.length<=sizeLine /\ ∃a8 : List Value,Vals xs a8 /\ IsTupD h a a8.toArray|.dK a9=>a9.length<=sizeLine /\ (a==sysModules) = false /\ ∃vs,KV a9 vs /\ h.DictOf (x8 P w) a vs
  |.dT a9=>a9.length<=sizeLine /\ (a==sysModules) = false /\ ∃xs : List (List Key × Addr × Value),
      Paired (λ(p : List Key × V) (q : List Key × Addr × Value)=>p.1 = q.1 /\ H q.2.1 = some (.tup (p.1.map kV)) /\ RelV p.2 q.2.2) a9 xs /\
      ∃o es ep,h.get? a = some o /\ o.ExactDict /\ o.data = .dict es ep /\ es.toList = xs.map (entryOfKey (tupleKind (x8 P w))) /\ (xs.map (·.1)).Nodup
  |.set S n=>h.SetOf (intKind P w) a S n
  |.ins C dx fs=>H dx = some (.own a) /\ fs.length<=1000 /\ dx≠a /\ h.get? a = some (PySem.W.instObj C dx) /\
      ∃mA,h.Ns1 dx mA /\ (∀f,RelO (fs.lookup f) (mA f)) /\ PySem.Within mA (fs.map (·.1))
  |.own _=> ∃o,h.get? a = some o|.xd fs=> ∃mA,h.Ns1 a mA /\ ∀f,RelO (fs.lookup f) (mA f)|.rng lo hi=> ∃t u v,h.get? a = some {cls:= .type "range",data:= .fields #[.int lo t,.int hi u,.int 1 v]}|.frz o u=>h.get? a = some o /\ ObjOk H h a u|.tbl ps=>h.get? a = some {cls:= .none,data:= .fields ps}|.met f x=>h.get? a = some (PySem.W.methodObj (.ref f) (.ref x))|.ext φ=>φ w h /\ (∃o,h.get? a = some o) /\ ∀h1 h2 : Heap,φ w h1 -> (∀o,h1.get? a = some o -> h2.get? a = some o) -> φ w h2
def HOk(H:Hp)(h:Heap):Prop:=∀a o,H a=some o->ObjOk P w H h a o
end
section
variable {P:Program}{w:World}{H H':Hp}{h h':Heap}{a:Addr}{o:HO}
theorem ObjOk.lt(x:ObjOk P w H h a o):a<h.objs.size:=by
 cases o with|lst xs=>obtain⟨_,_,_,_,e⟩:=x;exact Xd e|tup xs=>obtain⟨_,_,_,p⟩:=x;exact p.tup.lt|dK a9=>obtain⟨_,_,_,_,o,_,_,e,_⟩:=x;exact Xd e|dT a9=>obtain⟨_,_,_,_,o,_,_,e,_⟩:=x;exact Xd e|set S n=>obtain⟨o,_,_,_,e,_⟩:=x;exact Xd e|ins C dx fs=>obtain⟨_,_,_,e,_⟩:=x;exact Xd e|own y=>obtain⟨_,e⟩:=x;exact Xd e|xd fs=>obtain⟨_,⟨_,_,_,e,_⟩,_⟩:=x;exact Xd e|rng lo hi=>obtain⟨_,_,_,e⟩:=x;exact Xd e|frz ob u=>obtain⟨e,_⟩:=x;exact Xd e|tbl ps=>exact Xd (x)|met f y=>exact Xd (x)|ext φ=>obtain⟨_,⟨_,e⟩,_⟩:=x;exact Xd e
theorem Paired.mapP{α β F G}:∀{l₁:List α} {l₂:List β},Paired F l₁ l₂->(∀a b,F a b->G a b)->Paired G l₁ l₂
 |_,_,.nil,_=>.nil|_,_,.cons r t,f=>.cons (f _ _ r) (Paired.mapP t f)
theorem ObjOk.stay(x:ObjOk P w H h a o)(k:∀b u,(b=a\/H b=some (.own a))->h.get? b=some u->h'.get? b=some u)
  (ho:∀b,H b=some (.own a)->H' b=some (.own a)) (ht:∀b xs,H b=some (.tup xs)->H' b=some (.tup xs)):ObjOk P w H' h' a o:=by
 induction o with
 |lst xs=>obtain⟨z,a8,n,r,e⟩:=x;exact⟨z,a8,n,r,k _ _ (.inl rfl) e⟩|tup xs=>obtain⟨z,a8,r,ob,e,c⟩:=x;exact⟨z,a8,r,ob,k _ _ (.inl rfl) e,c⟩|dK a9=>obtain⟨z,y,vs,r,ob,es,ep,e,c⟩:=x;exact⟨z,y,vs,r,ob,es,ep,k _ _ (.inl rfl) e,c⟩
 |dT a9=>
  obtain⟨z,y,xs,r,ob,es,ep,e,c⟩:=x;exact⟨z,y,xs,Paired.mapP r λp q z=>⟨z.1,ht _ _ z.2.1,z.2.2⟩,ob,es,ep,k _ _ (.inl rfl) e,c⟩
 |set S n=>obtain⟨ob,es,ep,t,e,c⟩:=x;exact⟨ob,es,ep,t,k _ _ (.inl rfl) e,c⟩
 |ins C dx fs=>
  obtain⟨d,z,ne,e,mA,⟨od,es,ep,e2,c⟩,r⟩:=x;exact⟨ho _ d,z,ne,k _ _ (.inl rfl) e,mA,⟨od,es,ep,k _ _ (.inr d) e2,c⟩,r⟩
 |own y=>obtain⟨ob,e⟩:=x;exact⟨ob,k _ _ (.inl rfl) e⟩|xd fs=>obtain⟨mA,⟨od,es,ep,e,c⟩,r⟩:=x;exact⟨mA,⟨od,es,ep,k _ _ (.inl rfl) e,c⟩,r⟩|rng lo hi=>obtain⟨t,u,v,e⟩:=x;exact⟨t,u,v,k _ _ (.inl rfl) e⟩|frz ob u ih=>obtain⟨e,q⟩:=x;exact⟨k _ _ (.inl rfl) e,ih q⟩
 |tbl ps=>
  have e:h.get? a=some {cls:=.none,data:=.fields ps}:=x;exact k a _ (.inl rfl) e
 |met f y=>
  have e:=x;exact k a _ (.inl rfl) e
 |ext φ=>obtain⟨p,⟨o,e⟩,st⟩:=x;exact⟨st _ _ p λo q=>k _ _ (.inl rfl) q,⟨o,k _ _ (.inl rfl) e⟩,st⟩
theorem HOk.lt(x:HOk P w H h)(e:H a=some o):a<h.objs.size:=(x a o e).lt
theorem HOk.fresh(x:HOk P w H h)(e:h.objs.size<=a):H a=none:=by
 cases q:H a with|none=>rfl|some u=>exact absurd (Xm (x.lt q) e) (Yu _)
theorem HOk.kept(x:HOk P w H h)(k:∀b u,h.get? b=some u->h'.get? b=some u):HOk P w H h':=λa o e=>
 (x a o e).stay (λb u _ q=>k b u q) (λ_ q=>q) λ_ _ q=>q
theorem HOk.laid(x:HOk P w H h)(k:∀b u,h.get? b=some u->h'.get? b=some u)(hp:h.objs.size<=a)(new:ObjOk P w (upd H a o) h' a o):HOk P w (upd H a o) h':=λb u e=>by
 have hn:=x.fresh hp
 by_cases hb:b=a
 ·subst hb;rw[wQ]at e;cases e;exact new
 ·rw[kq hb]at e;exact(x b u e).stay (λc v _ q=>k c v q) (λc q=>by rw[kq (zV q hn)];exact q) λc xs q=>by rw[kq (zV q hn)];exact q
end
def Rd(H:Hp)(a:Addr)(u:HO):Prop:=H a=some u\/∃o,H a=some (.frz o u)
theorem Rd.ok{P w H h a u}(r:Rd H a u)(x:HOk P w H h):ObjOk P w H h a u:=by
 rcases r with r|⟨o,r⟩
 ·exact x a u r
 ·obtain⟨_,q⟩:=x a _ r;exact q
def Mut:Option HO->Prop
 |some (.lst _)=>True|some (.dK _)=>True|some (.dT _)=>True|some (.set _ _)=>True|some (.ins _ _ _)=>True|some (.ext _)=>True|_=>False
section
variable {P:Program}{w:World}{H:Hp}{h h':Heap}{x e:Addr}{o':HO}
theorem HOk.write(ok:HOk P w H h)(mu:Mut (H x))(he:e=x\/H e=some (.own x))(k:∀b u,b≠e->h.get? b=some u->h'.get? b=some u)(pe:∃u,h'.get? e=some u)
  (new:ObjOk P w (upd H x o') h' x o'):HOk P w (upd H x o') h':=λb u q=>by
 have nown:∀c y,H c=some (.own y)->c≠x:=λc y r z=>by subst z;rw[r]at mu;exact mu
 have ntup:∀c xs,H c=some (.tup xs)->c≠x:=λc xs r z=>by subst z;rw[r]at mu;exact mu
 by_cases hb:b=x
 ·subst hb;rw[wQ]at q;cases q;exact new
 ·rw[kq hb]at q
  by_cases hbe:b=e
  ·have q':H b=some (.own x):=by
    rcases he with z|z
    ·exact absurd (hbe.trans z) hb
    ·rw[hbe];exact z
   rw[q]at q';cases q';obtain⟨v,hv⟩:=pe;exact⟨v,by rw[hbe];exact hv⟩
  ·refine(ok b u q).stay (λc v hc r=>k c v ?_ r) (λc r=>by rw[kq (nown c b r)];exact r) λc xs r=>by rw[kq (ntup c xs r)];exact r
   rcases hc with rfl|hc
   ·exact hbe
   ·grind
end
structure Un (fs ex:List Addr)(H H':Hp)(h h':Heap):Prop where
 keep:∀b o,h.get? b=some o->H b=none->b∉fs->b∉ex->h'.get? b=some o
 slot:∀b o,h.get? b=some o->H b=none->b∈fs->b∉ex->∃sl,h'.get? b=some {o with slots:=sl}
 free:∀b o,h.get? b=some o->H b=none->b∉ex->H' b=none
 there:∀b o,h.get? b=some o->b∉ex->∃o',h'.get? b=some o'
 tups:∀b xs,H b=some (.tup xs)->H' b=some (.tup xs)
 frzs:∀b o u,H b=some (.frz o u)->H' b=some (.frz o u)
 tbls:∀b ps,H b=some (.tbl ps)->∃more,H' b=some (.tbl (ps++more))
section
variable {fs fs' ex ex':List Addr}{H H1 H2:Hp}{h h1 h2 h':Heap}{a x e:Addr}{o:HO}
theorem Un.any(u:Un fs ex H H1 h h1){b ob}(q:h.get? b=some ob)(n:H b=none)(hx:b∉ex):∃sl,h1.get? b=some {ob with slots:=sl}:=by
 by_cases hb:b∈fs
 ·exact u.slot b ob q n hb hx
 ·exact⟨ob.slots,u.keep b ob q n hb hx⟩
theorem Un.kept(k:∀b u,h.get? b=some u->h'.get? b=some u):Un fs ex H H h h':=
 ⟨λb ob q _ _ _=>k b ob q,λb ob q _ _ _=>⟨ob.slots,k b ob q⟩,λ_ _ _ n _=>n,λb ob q _=>⟨ob,k b ob q⟩,λ_ _ q=>q,λ_ _ _ q=>q,λ_ ps q=>⟨#[],by rw[q];simp⟩⟩
theorem Un.refl:Un fs ex H H h h:=Un.kept λ_ _ q=>q
theorem Un.laid(k:∀b u,h.get? b=some u->h'.get? b=some u)(hp:h.objs.size<=a)(hn:H a=none):Un fs ex H (upd H a o) h h' where
 keep:=λb u q _ _ _=>k b u q
 slot:=λb u q _ _ _=>⟨u.slots,k b u q⟩
 free:=λb u q n _=>by rw[kq (Xj (Xm (Xd q) hp))];exact n
 there:=λb u q _=>⟨u,k b u q⟩
 tups:=λb xs q=>by rw[kq (zV q hn)];exact q
 frzs:=λb u xs q=>by rw[kq (zV q hn)];exact q
 tbls:=λb ps q=>⟨#[],by rw[kq (zV q hn),q];simp⟩
theorem Un.write(mu:Mut (H x))(he:e=x\/H e=some (.own x))(k:∀b u,b≠e->h.get? b=some u->h'.get? b=some u)(pe:∃u,h'.get? e=some u):Un fs ex H (upd H x o) h h':=by
 have hx:∀b,H b=none->b≠x:=λb n z=>by subst z;rw[n]at mu;exact mu
 have hb:∀b,H b=none->b≠e:=λb n z=>by
  subst z;rcases he with r|r
  ·exact hx b n r
  ·grind
 have hm:∀b u,H b=some u->¬Mut (some u)->b≠x:=λb u q nm z=>by subst z;rw[q]at mu;exact nm mu
 refine⟨λb u q n _ _=>k b u (hb b n) q,λb u q n _ _=>⟨u.slots,k b u (hb b n) q⟩,λb u q n _=>by rw[kq (hx b n)];exact n,λb u q _=>?_,
  λb xs q=>by rw[kq (hm b _ q λz=>z)];exact q,λb u xs q=>by rw[kq (hm b _ q λz=>z)];exact q,λb ps q=>⟨#[],by rw[kq (hm b _ q λz=>z),q];simp⟩⟩
 by_cases hbe:b=e
 ·grind
 ·exact⟨u,k b u hbe q⟩
end
def trk(h:Heap)(H:Hp):List Addr:=(List.range h.objs.size).filter λa=>(H a).isSome
def QY(h:Heap)(H:Hp):Heap:=PySem.W.hideAll h (trk h H)
theorem qx1 h H:(QY h H).objs.size=h.objs.size:=PySem.W.hideAll_size _ _
theorem vjm{h H b o}(e:h.get? b=some o)(n:H b=none):(QY h H).get? b=some o:=
 PySem.W.hideAll_get _ e λhm=>by
  have q:=(List.mem_filter.mp hm).2;rw[n]at q;simp at q
theorem vw5{h H b o}(e:(QY h H).get? b=some o):h.get? b=some o/\H b=none:=by
 have e':=PySem.W.of_hideAll _ e;refine⟨e',?_⟩;cases q:H b with
 |none=>rfl
 |some x=>
  have hm:b∈trk h H:=List.mem_filter.mpr ⟨List.mem_range.mpr (Xd e'),by simp[q]⟩;have z:(QY h H).get? b=none:=PySem.W.hideAll_none _ hm
  grind
structure Mod (K:Frag)(mg:Str->Option Value)(base:Heap):Prop where
 kin:K.In base
 glob:base.Ns mainGlobals mg
 blt:∃mb,base.Ns builtinsNs mb/\∀x:Str,x≠"__name__"->mb x=bootBuiltins x
 nolimit:base.NoLimit
structure Cx where
 prog:Program
 w:World
 K:Frag
 mg:Str->Option Value
 base:Heap
 A:Around
 N:List Str
 s₀:Shared
 H₀:Hp
 env:Env
 outer:List Env
 stack:List Env
 ex:List Addr
 fn:Str->Bool
 calm:Bool
 pn:LA9
 xe:VP9
def frs(l:List Env):List Addr:=l.filterMap (·.frame)
abbrev Cx.fs(X:Cx):List Addr:=frs X.outer
def Vis(sc:Scope)(x:Str):Prop:=sc.names.lookup x=some .local\/sc.names.lookup x=some .cell\/sc.names.lookup x=some .free
def Loc(sc:Scope)(x:Str):Prop:=sc.names.lookup x=some .local\/sc.names.lookup x=some .cell
def Look(env:Env)(h:Heap)(m:Str->Option Value)(x:Str)(u:Value):Prop:=
 (env.kindOf x=some .local/\m x=some u)\/((env.kindOf x=some .cell\/env.kindOf x=some .free)/\∃c,env.cells.lookup x=some c/\h.IsCell c (some u))
structure Cx.Ok (X:Cx):Prop where
 mod:Mod X.K X.mg X.base
 kind:X.env.scope.kind=.function
 glob:X.env.globals=mainGlobals
 blt:X.env.builtins=builtinsNs
 above:X.s₀.heap.objs.size<=X.env.locals
 inj:∀x y c,X.env.cells.lookup x=some c->X.env.cells.lookup y=some c->x=y
 has:∀x,(X.env.kindOf x=some .cell\/X.env.kindOf x=some .free)->∃c,X.env.cells.lookup x=some c
 cab:∀x c,X.fn x=true->X.env.cells.lookup x=some c->X.s₀.heap.objs.size<=c
 hd:X.calm=true->X.A.handled=none
 frames:X.A.frames=some X.stack
 stk:X.stack=X.outer\/(X.stack=X.env::X.outer/\X.env.frame=some X.env.locals)
 exf:∀b∈X.ex,b≠X.env.locals/\∀x c,X.env.cells.lookup x=some c->c≠b
 bs:∀b o,X.base.get? b=some o->X.s₀.heap.get? b=some o/\X.H₀ b=none
 bsz:X.base.objs.size<=X.s₀.heap.objs.size
 noex:∀b o,X.base.get? b=some o->b∉X.ex
 exfs:∀b∈X.ex,b∉X.fs
 funs:X.s₀.heap.FunFrames X.base X.outer
 frf:∀b∈X.fs,X.H₀ b=none
structure Inv (X:Cx)(a7:LA9)(σ:List (Option V))(H:Hp)(s:Shared):Prop where
 ok:X.Ok
 os:s.os=X.s₀.os
 bare:AllBare s.gens
 base:Un X.fs X.ex X.H₀ H X.s₀.heap s.heap
 loc:∃m,s.heap.Ns X.env.locals m/\∀(i:Nat) (x:Str) (v:V),X.N[i]?=some x->σ[i]?=some (some v)->Vis X.env.scope x->∃u,RelV v u/\Look X.env s.heap m x u
 cell:∀x c,X.env.cells.lookup x=some c->∃v,s.heap.IsCell c v
 free:H X.env.locals=none
 freeC:∀x c,X.env.cells.lookup x=some c->H c=none
 pin:∀p∈X.pn++a7,s.heap.get? p.1=some p.2/\H p.1=none/\p.1≠X.env.locals/\p.1∉X.fs/\∀v,p.2.data≠.cell v
 hok:HOk X.prog X.w H s.heap
 len:σ.length=X.N.length
section
variable {X:Cx}{a7:LA9}{σ:List (Option V)}{H H':Hp}{s:Shared}{h':Heap}
theorem Cx.Ok.nofr(ok:X.Ok){b o}(e:X.base.get? b=some o):b∉X.fs:=λhb=>by
 have:=(ok.funs.mem hb).1
 grind
theorem Inv.bs(I:Inv X a7 σ H s):∀b o,X.base.get? b=some o->s.heap.get? b=some o/\H b=none:=λb o e=>
 ⟨I.base.keep b o (I.ok.bs b o e).1 (I.ok.bs b o e).2 (I.ok.nofr e) (I.ok.noex b o e),I.base.free b o (I.ok.bs b o e).1 (I.ok.bs b o e).2 (I.ok.noex b o e)⟩
theorem Inv.bk(I:Inv X a7 σ H s):∀b o,X.base.get? b=some o->s.heap.get? b=some o:=λb o e=>(I.bs b o e).1
theorem Inv.mod(I:Inv X a7 σ H s):Mod X.K X.mg X.base:=I.ok.mod
theorem Inv.kIn(I:Inv X a7 σ H s):X.K.In s.heap:=I.ok.mod.kin.keeps I.bk
theorem Inv.lt(I:Inv X a7 σ H s):X.env.locals<s.heap.objs.size:=let ⟨_,hn,_⟩:=I.loc;hn.lt
theorem Inv.sz(I:Inv X a7 σ H s):X.s₀.heap.objs.size<=s.heap.objs.size:=Yl I.ok.above (Nat.le_of_lt I.lt)
theorem Inv.nofs(I:Inv X a7 σ H s){a:Addr}(h:s.heap.objs.size<=a):a∉X.fs:=λhb=>by
 obtain⟨_,o,ho,_⟩:=I.ok.funs.mem hb;exact absurd (Xm (Xd ho) (Yl I.sz h)) (Yu _)
theorem Inv.cne(I:Inv X a7 σ H s):∀x c,X.env.cells.lookup x=some c->c≠X.env.locals:=λx c e z=>by
 obtain⟨v,o,ho,hd⟩:=I.cell x c e;obtain⟨m,⟨o',es,ep,ie,tq,_⟩,_⟩:=I.loc
 grind
theorem Inv.funs(I:Inv X a7 σ H s):s.heap.FunFrames X.base X.outer:=by
 have all:∀l,(∀b∈frs l,b∈X.fs)->X.s₀.heap.FunFrames X.base l->s.heap.FunFrames X.base l:=by
  intro l
  induction l with
  |nil=>intro _ _;trivial
  |cons env r ih=>
   rintro hs ⟨hk,⟨L,o,hf,hn,ho,hd⟩,hr⟩;have hL:=hs L (by unfold frs;rw[List.filterMap_cons,hf];exact X4);obtain⟨sl,e⟩:=I.base.slot L o ho (I.ok.frf L hL) hL λz=>I.ok.exfs L z hL
   exact⟨hk,⟨L,_,hf,hn,e,hd⟩,ih (λb hb=>hs b (by unfold frs;rw[List.filterMap_cons,hf];exact lc9 _ hb)) hr⟩
 exact all X.outer (λ_ hb=>hb) I.ok.funs
theorem Inv.stack(I:Inv X a7 σ H s):s.heap.FunFrames X.base X.stack:=by
 rcases I.ok.stk with e|⟨e,hf⟩
 ·rw[e];exact I.funs
 ·rw[e];obtain⟨m,hn,_⟩:=I.loc;exact .cons (by rw[I.ok.kind];decide) hf hn (Heap.get?_none_of_le (Yl I.ok.bsz I.ok.above)) I.funs
theorem Inv.stkSub(I:Inv X a7 σ H s):∀b∈frs X.stack,b∈X.env.locals::X.fs:=λb hb=>by
 rcases I.ok.stk with e|⟨e,hf⟩
 ·rw[e]at hb;exact lc9 _ hb
 ·rw[e]at hb;unfold frs at hb;rw[List.filterMap_cons,hf]at hb;exact hb
theorem Inv.stkFree(I:Inv X a7 σ H s):∀b∈frs X.stack,H b=none:=λb hb=>by
 rcases aD (I.stkSub b hb)with e|hb
 ·rw[e];exact I.free
 ·obtain⟨_,o,ho,_⟩:=I.ok.funs.mem hb;exact I.base.free b o ho (I.ok.frf b hb) λz=>I.ok.exfs b z hb
theorem Inv.step{g' t' d'}{ch:List Addr}(I:Inv X a7 σ H s)
  (f7:∀b∈ch,(b∈X.ex\/X.s₀.heap.objs.size<=b)/\b≠X.env.locals/\(∀x c,X.env.cells.lookup x=some c->c≠b)/\∀p∈X.pn++a7,p.1≠b)
  (keep:∀b o,b≠X.env.locals->b∉X.fs->b∉ch->s.heap.get? b=some o->H b=none->h'.get? b=some o)
  (slot:∀b o,b≠X.env.locals->b∈X.fs->b∉ch->s.heap.get? b=some o->H b=none->∃sl,h'.get? b=some {o with slots:=sl}) (free:∀b o,b∉ch->s.heap.get? b=some o->H b=none->H' b=none)
  (there:∀b o,b∉ch->s.heap.get? b=some o->∃o',h'.get? b=some o')
  (tups:∀b xs,H b=some (.tup xs)->H' b=some (.tup xs)) (frzs:∀b o u,H b=some (.frz o u)->H' b=some (.frz o u)) (tbls:∀b ps,H b=some (.tbl ps)->∃more,H' b=some (.tbl (ps++more)))
  (ns:∀m,s.heap.Ns X.env.locals m->h'.Ns X.env.locals m) (hok:HOk X.prog X.w H' h') (hg:AllBare g'):
  Inv X a7 σ H' {s with heap:=h',gens:=g',drawn:=d',toks:=t' }:=by
 have si:∀b o,X.s₀.heap.get? b=some o->b≠X.env.locals:=λb o e=>Xj (Xm (Xd e) I.ok.above)
 have l0:∀b o,X.s₀.heap.get? b=some o->b∉X.ex->b∉ch:=λb o e hx hb=>by
  rcases(f7 b hb).1 with z|z
  ·exact hx z
  ·exact absurd (Xm (Xd e) z) (Yu _)
 have gu:∀x c,X.env.cells.lookup x=some c->∀v,s.heap.IsCell c v->h'.IsCell c v:=λx c e v ⟨o,ho,hd⟩=>by
  have jf:=λz=>(f7 c z).2.2.1 x c e rfl
  by_cases hc:c∈X.fs
  ·obtain⟨sl,q⟩:=slot c o (I.cne x c e) hc jf ho (I.freeC x c e);exact⟨_,q,hd⟩
  ·exact⟨o,keep c o (I.cne x c e) hc jf ho (I.freeC x c e),hd⟩
 refine⟨I.ok,I.os,hg,⟨λb o e n hb hx=>?_,λb o e n hb hx=>?_,λb o e n hx=>?_,λb o e hx=>?_,λb xs e=>tups b xs (I.base.tups b xs e),λb o xs e=>frzs b o xs (I.base.frzs b o xs e),λb ps e=>?_⟩,?_,λx c e=>?_,?_,λx c e=>?_,λp hp=>?_,hok,I.len⟩
 ·exact keep b o (si b o e) hb (l0 b o e hx) (I.base.keep b o e n hb hx) (I.base.free b o e n hx)
 ·obtain⟨sl,e1⟩:=I.base.slot b o e n hb hx;obtain⟨sl',e2⟩:=slot b _ (si b o e) hb (l0 b o e hx) e1 (I.base.free b o e n hx);exact⟨sl',e2⟩
 ·obtain⟨o',e1⟩:=I.base.there b o e hx;exact free b o' (l0 b o e hx) e1 (I.base.free b o e n hx)
 ·obtain⟨o',e1⟩:=I.base.there b o e hx;exact there b o' (l0 b o e hx) e1
 ·obtain _:=I.base.tbls b ps e
  grind
 ·obtain⟨m,hn,hl⟩:=I.loc;refine⟨m,ns m hn,λi x v e1 e2 e3=>?_⟩;obtain⟨u,r,l⟩:=hl i x v e1 e2 e3;refine⟨u,r,?_⟩;rcases l with l|⟨k,c,e,z⟩
  ·exact .inl l
  ·exact .inr ⟨k,c,e,gu x c e _ z⟩
 ·obtain⟨v,z⟩:=I.cell x c e;exact⟨v,gu x c e v z⟩
 ·obtain⟨m,⟨o,_,_,ho,_⟩,_⟩:=I.loc;exact free _ o (λz=>(f7 _ z).2.1 rfl) ho I.free
 ·obtain⟨v,o,ho,hd⟩:=I.cell x c e;exact free c o (λz=>(f7 c z).2.2.1 x c e rfl) ho (I.freeC x c e)
 ·obtain⟨e,n,ne,nf,d⟩:=I.pin p hp;have jf:=λz=>(f7 p.1 z).2.2.2 p hp rfl
  exact⟨keep p.1 p.2 ne nf jf e n,free p.1 p.2 jf e n,ne,nf,d⟩
theorem Inv.un{t'}(I:Inv X a7 σ H s)(u:Un X.fs [] H H' s.heap h')(hok:HOk X.prog X.w H' h'):Inv X a7 σ H' {s with heap:=h',toks:=t' }:=by
 obtain⟨m,⟨o,es,ep,ho,r⟩,_⟩:=id I.loc;obtain⟨sl,hL⟩:=u.any ho I.free (by simp);exact I.step (g':=s.gens) (d':=s.drawn) (ch:=[]) (λ_ z=>nomatch z) (λb o _ hb _ e n=>u.keep b o e n hb (by simp)) (λb o _ hb _ e n=>u.slot b o e n hb (by simp)) (λb o _ e n=>u.free b o e n (by simp)) (λb o _ e=>u.there b o e (by simp)) u.tups u.frzs u.tbls (λm' hm=>by
  obtain⟨o',es',ri,ie,r'⟩:=hm;rw[ho]at ie;cases ie;exact⟨_,es',ri,hL,r'⟩) hok I.bare
theorem Inv.call{g' t' d' ch}(I:Inv X a7 σ H s)(u:Un (frs X.stack) ch H H' s.heap h')(hok:HOk X.prog X.w H' h')(hg:AllBare g')
  (f7:∀b∈ch,(b∈X.ex\/X.s₀.heap.objs.size<=b)/\b≠X.env.locals/\(∀x c,X.env.cells.lookup x=some c->c≠b)/\∀p∈X.pn++a7,p.1≠b):
  Inv X a7 σ H' {s with heap:=h',gens:=g',drawn:=d',toks:=t' }:=by
 obtain⟨m,⟨o,es,ep,ho,r⟩,_⟩:=id I.loc;obtain⟨sl,hL⟩:=u.any ho I.free λz=>(f7 _ z).2.1 rfl
 exact I.step f7 (λb o hL hb hc e n=>u.keep b o e n (λz=>(aD (I.stkSub b z)).elim hL hb) hc) (λb o _ _ hc e n=>u.any e n hc) (λb o hc e n=>u.free b o e n hc) (λb o hc e=>u.there b o e hc) u.tups u.frzs u.tbls (λm' hm=>by
  obtain⟨o',es',ri,ie,r'⟩:=hm;rw[ho]at ie;cases ie;exact⟨_,es',ri,hL,r'⟩) hok hg
theorem Inv.turned{t' it}(I:Inv X a7 σ H s)(k:∀b o,b≠it->s.heap.get? b=some o->h'.get? b=some o)(hn:H it=none)(hL:it≠X.env.locals)
  (h1:it∈X.ex\/X.s₀.heap.objs.size<=it) (h2:∀x c,X.env.cells.lookup x=some c->c≠it) (h3:∀p∈X.pn++a7,p.1≠it):Inv X a7 σ H {s with heap:=h',toks:=t' }:=by
 have ro:∀b u,H b=some u->b≠it:=λb u e z=>by rw[z,hn]at e;cases e
 refine I.step (g':=s.gens) (d':=s.drawn) (ch:=[it]) (λb hb=>?_) (λb o _ _ hc e _=>k b o (λz=>hc (by simp[z])) e) (λb o _ _ hc e _=>⟨o.slots,k b o (λz=>hc (by simp[z])) e⟩) (λ_ _ _ _ n=>n)
  (λb o hc e=>⟨o,k b o (λz=>hc (by simp[z])) e⟩) (λ_ _ e=>e) (λ_ _ _ e=>e) (λb ps e=>⟨#[],by rw[e];simp⟩) (λm hm=>?_) (λb u e=>?_) I.bare
 ·have e:b=it:=by simpa using hb
  subst e;exact⟨h1,hL,h2,h3⟩
 ·obtain⟨o,es,ep,ho,r⟩:=hm;exact⟨o,es,ep,k _ o (Ne.symm hL) ho,r⟩
 ·refine(I.hok b u e).stay (λc v hc q=>k c v ?_ q) (λ_ q=>q) λ_ _ q=>q
  rcases hc with z|z
  ·rw[z];exact ro b u e
  ·exact ro c _ z
theorem Inv.tok(I:Inv X a7 σ H s) t:Inv X a7 σ H {s with toks:=t}:=I.un (h':=s.heap) (t':=t) Un.refl I.hok
theorem Inv.kept{t'}(I:Inv X a7 σ H s)(k:∀b u,s.heap.get? b=some u->h'.get? b=some u):Inv X a7 σ H {s with heap:=h',toks:=t' }:=I.un (Un.kept k) (I.hok.kept k)
theorem Inv.laid{a:Addr}{o t'}(I:Inv X a7 σ H s)(k:∀b u,s.heap.get? b=some u->h'.get? b=some u)(hp:s.heap.objs.size<=a)(new:ObjOk X.prog X.w (upd H a o) h' a o):
  Inv X a7 σ (upd H a o) {s with heap:=h',toks:=t' }:=I.un (Un.laid k hp (I.hok.fresh hp)) (I.hok.laid k hp new)
theorem Inv.write{x e o t'}(I:Inv X a7 σ H s)(mu:Mut (H x))(he:e=x\/H e=some (.own x))(k:∀b u,b≠e->s.heap.get? b=some u->h'.get? b=some u)(pe:∃u,h'.get? e=some u)
  (new:ObjOk X.prog X.w (upd H x o) h' x o):Inv X a7 σ (upd H x o) {s with heap:=h',toks:=t' }:=I.un (Un.write mu he k pe) (I.hok.write mu he k pe new)
theorem Inv.pins_of{cb}(I:Inv X a7 σ H s)(h:∀p∈cb,s.heap.get? p.1=some p.2/\H p.1=none/\p.1≠X.env.locals/\p.1∉X.fs/\∀v,p.2.data≠.cell v):Inv X cb σ H s:=
 ⟨I.ok,I.os,I.bare,I.base,I.loc,I.cell,I.free,I.freeC,λp hp=>(aA hp).elim (λz=>I.pin p (ll9 _ z)) (h p),I.hok,I.len⟩
theorem qja{N:List Str}(hN:N.Nodup){i j:Nat}{x}(a:N[i]?=some x)(b:N[j]?=some x):i=j:=by
 obtain⟨h1,e1⟩:=List.getElem?_eq_some_iff.mp a;obtain⟨h2,e2⟩:=List.getElem?_eq_some_iff.mp b;exact(List.getElem_inj hN).mp (e1.trans e2.symm)
theorem qqq{M A E i x v u Q}(I:Inv X a7 σ H s)(hN:X.N.Nodup)(hi:X.N[i]?=some x)(hx:Loc X.env.scope x)(r:RelV v u)
  (h:∀s',Inv X a7 (σ.set i (some v)) H s'->(∃a,Heap.SameBut a s.heap s'.heap/\(a=X.env.locals\/X.env.cells.lookup x=some a))->Q () s') (hf:autoParam (X.fn x=true\/X.env.scope.names.lookup x=some .local) Ř):wpAny M A (storeName X.env x u) Q E s:=by
 obtain⟨m,hn,hl⟩:=id I.loc;have hcls:(X.env.scope.kind == .class||(X.env.scope.kind == .module&&X.env.locals != X.env.globals))=false:=by rw[I.ok.kind];rfl
 have hiσ:i < σ.length:=by rw[I.len];exact(List.getElem?_eq_some_iff.mp hi).1
 have cne:=I.cne;have io:∀{a h'},(∃o,s.heap.get? a=some o/\H a=none)->Heap.SameBut a s.heap h'->HOk X.prog X.w H h':=fun {a h'} ha hs b ob e=>by
  refine(I.hok b ob e).stay (λc w' hc q=>(hs.2 c ?_).trans q) (λ_ q=>q) λ_ _ q=>q
  rintro rfl;rcases hc with rfl|hc
  ·grind
  ·grind
 rcases hx with hk|hk
 ·refine wpAny_storeName_local hk hn (λh' hn' hs=>?_) hcls;obtain⟨oL,_,_,lm,_⟩:=id hn;refine h _ ⟨I.ok,I.os,I.bare,⟨λb o e n hb hx=>?_,λb o e n hb hx=>?_,I.base.free,λb o e hx=>?_,I.base.tups,I.base.frzs,I.base.tbls⟩,⟨_,hn',λj y v' e1 e2 e3=>?_⟩,λy c e=>?_,I.free,I.freeC,λp hp=>?_,io ⟨oL,lm,I.free⟩ hs,by simpa using I.len⟩ ⟨_,hs,.inl rfl⟩
  ·exact(hs.2 b (Xj (Xm (Xd e) I.ok.above))).trans (I.base.keep b o e n hb hx)
  ·obtain⟨sl,e1⟩:=I.base.slot b o e n hb hx;exact⟨sl,(hs.2 b (Xj (Xm (Xd e) I.ok.above))).trans e1⟩
  ·obtain⟨o',e1⟩:=I.base.there b o e hx;exact⟨o',(hs.2 b (Xj (Xm (Xd e) I.ok.above))).trans e1⟩
  ·by_cases hj:j=i
   ·subst hj;rw[hi]at e1;cases e1;rw[Y3 hiσ]at e2;cases e2;exact⟨u,r,.inl ⟨hk,by simp⟩⟩
   ·rw[Xw (Ne.symm hj)]at e2;obtain⟨u',r',q⟩:=hl j y v' e1 e2 e3;refine⟨u',r',?_⟩;rcases q with⟨k,e⟩|⟨k,c,e,z⟩
    ·refine .inl ⟨k,?_⟩;have:y≠x:=λe=>hj (qja hN e1 (e▸hi))
     simp[this,e]
    ·exact .inr ⟨k,c,e,z.sameBut hs (cne y c e)⟩
  ·obtain⟨w',z⟩:=I.cell y c e;exact⟨w',z.sameBut hs (cne y c e)⟩
  ·obtain⟨e,n,ne,nf,d⟩:=I.pin p hp;exact⟨(hs.2 p.1 ne).trans e,n,ne,nf,d⟩
 ·have hfn:X.fn x=true:=by
   rcases hf with z|z
   ·exact z
   ·grind
  obtain⟨c,hc⟩:=I.ok.has x (.inl hk);obtain⟨w',z⟩:=I.cell x c hc;refine wpAny_storeName_cell I.ok.kind hk hc z (λh' kl hs=>?_);obtain⟨oc,hoc,hocd⟩:=id z;refine h {s with heap:=h' } ⟨I.ok,I.os,I.bare,⟨λb o e n hb hx=>?_,λb o e n hb hx=>?_,I.base.free,λb o e hx=>?_,I.base.tups,I.base.frzs,I.base.tbls⟩,⟨m,hn.sameBut hs (Ne.symm (cne x c hc)),λj y v' e1 e2 e3=>?_⟩,λy c' e=>?_,I.free,I.freeC,λp hp=>?_,io ⟨oc,hoc,I.freeC x c hc⟩ hs,by simpa using I.len⟩ ⟨c,hs,.inr hc⟩
  ·exact(hs.2 b (Xj (Xm (Xd e) (I.ok.cab x c hfn hc)))).trans (I.base.keep b o e n hb hx)
  ·obtain⟨sl,e1⟩:=I.base.slot b o e n hb hx;exact⟨sl,(hs.2 b (Xj (Xm (Xd e) (I.ok.cab x c hfn hc)))).trans e1⟩
  ·obtain⟨o',e1⟩:=I.base.there b o e hx;exact⟨o',(hs.2 b (Xj (Xm (Xd e) (I.ok.cab x c hfn hc)))).trans e1⟩
  ·by_cases hj:j=i
   ·subst hj;rw[hi]at e1;cases e1;rw[Y3 hiσ]at e2;cases e2;exact⟨u,r,.inr ⟨.inl hk,c,hc,kl⟩⟩
   ·rw[Xw (Ne.symm hj)]at e2;obtain⟨u',r',q⟩:=hl j y v' e1 e2 e3;refine⟨u',r',?_⟩;rcases q with q|⟨k,c',e,z'⟩
    ·exact .inl q
    ·refine .inr ⟨k,c',e,z'.sameBut hs ?_⟩;rintro rfl;exact hj (qja hN e1 (I.ok.inj _ _ _ e hc▸hi))
  ·by_cases bj:c'=c
   ·subst bj;exact⟨_,kl⟩
   ·obtain⟨w2,z2⟩:=I.cell y c' e;exact⟨w2,z2.sameBut hs bj⟩
  ·obtain⟨e,n,ne,nf,d⟩:=I.pin p hp;refine⟨(hs.2 p.1 ?_).trans e,n,ne,nf,d⟩;intro q;rw[q,hoc]at e;have q':oc=p.2:=oq9 e;exact d w' (q'▸hocd)
theorem kkv{M A E i x v u Q}(I:Inv X a7 σ H s)(hN:X.N.Nodup)(hi:X.N[i]?=some x)(hx:Loc X.env.scope x)(r:RelV v u)
  (h:∀s',Inv X a7 (σ.set i (some v)) H s'->Q () s') (hf:autoParam (X.fn x=true\/X.env.scope.names.lookup x=some .local) Ř):wpAny M A (storeName X.env x u) Q E s:=
 qqq I hN hi hx r (λs' I' _=>h s' I') hf
theorem Inv.call'{s' ch}(I:Inv X a7 σ H s)(ho:s'.os=s.os)(u:Un (frs X.stack) ch H H' s.heap s'.heap)(hok:HOk X.prog X.w H' s'.heap)(hg:AllBare s'.gens)
  (f7:∀b∈ch,(b∈X.ex\/X.s₀.heap.objs.size<=b)/\b≠X.env.locals/\(∀x c,X.env.cells.lookup x=some c->c≠b)/\∀p∈X.pn++a7,p.1≠b):Inv X a7 σ H' s':=by
 obtain⟨h',g',d',t',o'⟩:=s';subst ho;exact I.call (g':=g') (t':=t') (d':=d') u hok hg f7
end
abbrev XK:=Value->Option Addr->Hp->Prop
abbrev St:=List (Option V)
abbrev VK:=V->Hp->Prop
abbrev TE:=St->Hp->VK->Prop
abbrev TT:=St->Hp->(Bool->Hp->Prop)->Prop
abbrev TA:=St->Hp->(List V->Hp->Prop)->Prop
structure Ends where
 nx:St->Hp->Prop
 rt:VK
 bk:St->Hp->Prop:=λ_ _=>False
 ct:St->Hp->Prop:=λ_ _=>False
abbrev TS:=Ends->St->Hp->Prop
def EP(X:Cx)(a7:LA9)(σ:St)(Q:VK)(u:Value)(s':Shared):Prop:=∃v H',Inv X a7 σ H' s'/\RelV v u/\Q v H'
def TP(X:Cx)(a7:LA9)(σ:St)(Q:Bool->Hp->Prop)(b:Bool)(s':Shared):Prop:=∃H',Inv X a7 σ H' s'/\Q b H'
def AP(X:Cx)(a7:LA9)(σ:St)(Q:List V->Hp->Prop)(us:List Value)(s':Shared):Prop:=∃vs H',Inv X a7 σ H' s'/\Vals vs us/\Q vs H'
noncomputable def SP(X:Cx)(a7:LA9)(D:Ends)(f:Flow)(s':Shared):Prop:=
 match f with
 |.next=>∃ σ' H',Inv X a7 σ' H' s'/\D.nx σ' H'|.brk=>∃ σ' H',Inv X a7 σ' H' s'/\D.bk σ' H'|.cont=>∃ σ' H',Inv X a7 σ' H' s'/\D.ct σ' H'|.ret u=>∃v σ' H',Inv X a7 σ' H' s'/\RelV v u/\D.rt v H'
def PE(X:Cx)(e:Expr)(t:TE):Prop:=
 ∀(a7:LA9) (s:Shared) (σ:St) (H:Hp) (Q:VK),Inv X a7 σ H s->t σ H Q->wpAny (model X.prog X.w) X.A (eval e X.env) (EP X a7 σ Q) X.xe s
def PT(X:Cx)(e:Expr)(t:TT):Prop:=
 ∀(a7:LA9) (s:Shared) (σ:St) (H:Hp) (Q:Bool->Hp->Prop),Inv X a7 σ H s->t σ H Q->wpAny (model X.prog X.w) X.A (isTrue e X.env (eval e X.env)) (TP X a7 σ Q) X.xe s
def PW(X:Cx)(e:Expr)(t:TT):Prop:=
 ∀(f9:Sem Value) (a7:LA9) (s:Shared) (σ:St) (H:Hp) (Q:Bool->Hp->Prop),Inv X a7 σ H s->t σ H Q->wpAny (model X.prog X.w) X.A (isTrue e X.env f9) (TP X a7 σ Q) X.xe s
theorem PW.pt{X e t}(h:PW X e t):PT X e t:=h _
def PA(X:Cx)(es:List Expr)(t:TA):Prop:=
 ∀(pos:Pos) (a7:LA9) (s:Shared) (σ:St) (H:Hp) (Q:List V->Hp->Prop),Inv X a7 σ H s->t σ H Q->wpAny (model X.prog X.w) X.A (spliced (backTo pos (starEach es X.env))) (AP X a7 σ Q) X.xe s
def PS(X:Cx)(st:Stmt)(t:TS):Prop:=
 ∀(a7:LA9) (s:Shared) (σ:St) (H:Hp) (D:Ends),Inv X a7 σ H s->t D σ H->wpAny (model X.prog X.w) X.A (exec st X.env) (SP X a7 D) X.xe s
def PSs(X:Cx)(st:List Stmt)(t:TS):Prop:=
 ∀(a7:LA9) (s:Shared) (σ:St) (H:Hp) (D:Ends),Inv X a7 σ H s->t D σ H->wpAny (model X.prog X.w) X.A (execs st X.env) (SP X a7 D) X.xe s
theorem thn{α t}{Q Q':α->Shared->Prop}{M A E s}(h:wpAny M A t Q E s)(hQ:∀a s,Q a s->Q' a s):wpAny M A t Q' E s:=wpAny_mono h hQ λ_ _ x=>x
section
variable {X:Cx}
abbrev xj(i:Nat):TE:=fun σ H Q=>∃v,σ[i]?=some (some v)/\Q v H
abbrev tC(v:V):TE:=λ_ H Q=>Q v H
theorem wk3{i x pos}(hN:X.N[i]?=some x)(hv:Vis X.env.scope x)(hd:autoParam ((x==("__debug__":Str))=false) ŕ)(gr:autoParam ((x==("__classdict__":Str))=false) ŕ):PE X (.Name x pos) (xj i):=by
 rintro a7 s σ H Q I ⟨v,e,h⟩;obtain⟨m,hn,hl⟩:=I.loc;obtain⟨u,r,l⟩:=hl i x v hN e hv;have fin:EP X a7 σ Q u s:=⟨v,H,I,r,h⟩;rcases l with⟨hk,hm⟩|⟨hk,c,hc,hcell⟩
 ·exact wpAny_Name (wpAny_loadName_local I.ok.kind hk hn hm fin) hd
 ·rcases hk with hk|hk
  ·exact wpAny_Name (wpAny_loadName_cell I.ok.kind hk hc hcell fin) hd
  ·exact wpAny_Name (wpAny_loadName_free I.ok.kind hk hc hcell fin gr) hd
theorem vkp{i j pos}:PE X (.Constant (.int i) j pos) (tC (.int i)):=λ_ _ _ H _ I h=>wpAny_Constant_int ⟨.int i,H,I.tok _,⟨_,rfl⟩,h⟩
theorem xV{b j pos}:PE X (.Constant (.bool b) j pos) (tC (.bl b)):=λ_ _ _ H _ I h=>Constant_bool ⟨.bl b,H,I,rfl,h⟩
theorem wk7{j pos}:PE X (.Constant .none j pos) (tC .non):=λ_ _ _ H _ I h=>Constant_none ⟨.non,H,I,rfl,h⟩
theorem vkn{x j pos}:PE X (.Constant (.str x) j pos) (tC (.str x)):=λ_ _ _ H _ I h=>Calls.Constant_str ⟨.str x,H,I.tok _,⟨_,rfl⟩,h⟩
def Gl(X:Cx)(x:Str):Prop:=X.env.kindOf x=some .globalImplicit
theorem qwk{E a7 s}{σ:St}{H x u pos Q}(I:Inv X a7 σ H s)(hg:Gl X x)(hm:X.mg x=some u)(h:Q u s)
  (hd:autoParam ((x==("__debug__":Str))=false) ŕ):wpAny (model X.prog X.w) X.A (eval (.Name x pos) X.env) Q E s:=
 Calls.Name_function_global I.ok.kind hg (Calls.loadGlobal_global (I.ok.glob▸I.mod.glob.keeps I.bk) hm h) hd
theorem xW{E a7 s}{σ:St}{H x u pos Q}(I:Inv X a7 σ H s)(hg:Gl X x)(hm:X.mg x=none)(hv:bootBuiltins x=some u)(h:Q u s)
  (hn:autoParam (x≠"__name__") ŕ) (hd:autoParam ((x==("__debug__":Str))=false) ŕ):wpAny (model X.prog X.w) X.A (eval (.Name x pos) X.env) Q E s:=by
 obtain⟨mb,h1,h2⟩:=I.mod.blt;exact Calls.Name_function_global I.ok.kind hg (Calls.loadGlobal_builtin (I.ok.glob▸I.mod.glob.keeps I.bk) hm (I.ok.blt▸h1.keeps I.bk) ((h2 x hn).trans hv) h) hd
theorem vvr{x v u pos}(hg:Gl X x)(hm:X.mg x=some u)(r:RelV v u)(hd:autoParam ((x==("__debug__":Str))=false) ŕ):PE X (.Name x pos) (tC v):=
 λ_ _ _ H _ I h=>qwk I hg hm ⟨v,H,I,r,h⟩ hd
theorem vvw{x v u pos}(hg:Gl X x)(hm:X.mg x=none)(hv:bootBuiltins x=some u)(r:RelV v u)(hn:autoParam (x≠"__name__") ŕ)(hd:autoParam ((x==("__debug__":Str))=false) ŕ):PE X (.Name x pos) (tC v):=
 λ_ _ _ H _ I h=>xW I hg hm hv ⟨v,H,I,r,h⟩ hn hd
variable {a b:Expr}{ta tb:TE}{pos:Pos}
variable {tA tB':TT}{ab:List Expr}
abbrev tOr(t u:TT):TT:=fun σ H Q=>t σ H λc H1=>if c=true then Q true H1 else u σ H1 Q
abbrev tNot(t:TT):TT:=fun σ H Q=>t σ H λc H1=>Q (!c) H1
theorem wjp(ha:PT X a tA):PW X (.BoolOp .Or [a] pos) tA:=by
 intro wh a7 s σ H Q I h;refine isTrue_or (thn (ha a7 s σ H Q I h) λc s1 e=>?_);cases c with|false=>exact isTrue_or_nil e|true=>exact e
theorem wx6(ha:PT X a tA)(hb:PW X (.BoolOp .Or (b::ab) pos) tB'):PW X (.BoolOp .Or (a::b::ab) pos) (tOr tA tB'):=by
 intro wh a7 s σ H Q I h;refine isTrue_or (thn (ha a7 s σ H _ I h) λc s1 ⟨H1,I1,q1⟩=>?_);cases c with|true=>exact⟨H1,I1,q1⟩|false=>exact hb wh a7 s1 σ H1 Q I1 q1
theorem wju(ha:PT X a tA):PT X (.UnaryOp .Not a pos) (tNot tA):=by
 intro a7 s σ H Q I h;exact isTrue_not (ha a7 s σ H _ I h)
abbrev wwh(ta tb:TE):TE:=fun σ H Q=>ta σ H λx H1=>∃c,x=.bl c/\if c=true then tb σ H1 Q else Q (.bl false) H1
theorem wk6{op t}(h:PE X a t):PE X (.BoolOp op [a] pos) t:=λa7 s σ H Q I hw=>BoolOp_one (h a7 s σ H Q I hw)
theorem wkd(ha:PE X a ta)(hb:PE X (.BoolOp .And (b::ab) pos) tb):PE X (.BoolOp .And (a::b::ab) pos) (wwh ta tb):=by
 intro a7 s σ H Q I h;refine BoolOp_and (thn (ha a7 s σ H _ I h) λv s1 ⟨x,H1,I1,r1,q1⟩=>?_);obtain⟨c,rfl,q1⟩:=q1;cases r1;refine wpAny_truthy_bool ?_;cases c with|true=>exact hb a7 s1 σ H1 Q I1 q1|false=>exact⟨.bl false,H1,I1,rfl,q1⟩
end
def SqL(K:Frag)(H:Hp)(a:Addr)(xs:List V):Prop:=
 Rd H a (.lst xs) \/
  ∃(o:Obj) (a8:Array Value) (n:Nat),K.lookup a=some o/\o.cls=.type "list"/\o.dict=none/\o.data=.seq a8 n/\a8.size<=sizeLine/\Vals xs a8.toList
def SqT(K:Frag)(H:Hp)(a:Addr)(xs:List V):Prop:=
 Rd H a (.tup xs) \/
  ∃(o:Obj) (a8:Array Value) (n:Nat),K.lookup a=some o/\o.cls=.type "tuple"/\o.dict=none/\o.data=.seq a8 n/\a8.size<=sizeLine/\Vals xs a8.toList
def absV:Value->Option V
 |.none=>some .non|.bool b=>some (.bl b)|.int i _=>some (.int i)|.str x _=>some (.str x)|.bytes b _=>some (.byt b)|.float b _=>some (.flt b)|.ref a=>some (.ref a)|.type n=>some (.ty n)|_=>none
theorem RelV.abs{x u}(r:RelV x u):absV u=some x:=by
 cases x with|non=>cases r;rfl|bl _=>cases r;rfl|int _=>obtain⟨t,rfl⟩:=r;rfl|str _=>obtain⟨t,rfl⟩:=r;rfl|byt _=>obtain⟨t,rfl⟩:=r;rfl|flt _=>obtain⟨t,rfl⟩:=r;rfl|ref _=>cases r;rfl|ty _=>cases r;rfl
theorem RelV.inj{x y u}(r:RelV x u)(q:RelV y u):x=y:=oq9 (r.abs.symm.trans q.abs)
theorem Vals.inj:∀{xs ys us},Vals xs us->Vals ys us->xs=ys
 |_,_,_,.nil,.nil=>rfl|_,_,_,.cons r t,.cons r' t'=>by rw[r.inj r',Vals.inj t t']
section
variable {X:Cx}{a7:LA9}{σ:St}{H:Hp}{s:Shared}{a:Addr}{xs ys:List V}
theorem SqL.of{K}(h:H a=some (.lst xs)):SqL K H a xs:=.inl (.inl h)
theorem SqT.of{K}(h:H a=some (.tup xs)):SqT K H a xs:=.inl (.inl h)
theorem Inv.list(I:Inv X a7 σ H s)(h:SqL X.K H a xs):∃a8,Vals xs a8/\PlainL s.heap a a8.toArray/\xs.length<=sizeLine:=by
 rcases h with h|⟨o,a8,n,hk,hc,hd,hs,hz,r⟩
 ·obtain⟨z,a8,n,r,e⟩:=h.ok I.hok;exact⟨a8,r,⟨_,n,e,rfl,rfl,rfl⟩,z⟩
 ·refine⟨a8.toList,r,⟨o,n,I.kIn a o hk,hc,hd,by simpa using hs⟩,?_⟩;have e:=r.length;simp at e;lia
theorem Inv.tuple(I:Inv X a7 σ H s)(h:SqT X.K H a xs):∃a8,Vals xs a8/\IsTup s.heap a a8.toArray/\xs.length<=sizeLine:=by
 rcases h with h|⟨o,a8,n,hk,hc,_,hs,hz,r⟩
 ·obtain⟨z,a8,r,p⟩:=h.ok I.hok;exact⟨a8,r,p.tup,z⟩
 ·refine⟨a8.toList,r,⟨o,I.kIn a o hk,hc,n,by simpa using hs⟩,?_⟩;have e:=r.length;simp at e;lia
theorem Inv.tupleD(I:Inv X a7 σ H s)(h:SqT X.K H a xs):∃o,s.heap.get? a=some o/\o.dict=none:=by
 rcases h with h|⟨o,a8,n,hk,hc,hd,hs,hz,r⟩
 ·obtain⟨z,a8,r,o,e,_,d,_⟩:=h.ok I.hok;exact⟨o,e,d⟩
 ·exact⟨o,I.kIn a o hk,hd⟩
theorem Inv.list_inj(I:Inv X a7 σ H s)(h:SqL X.K H a xs)(h':SqL X.K H a ys):xs=ys:=by
 obtain⟨a8,r,⟨o,n,e,_,_,d⟩,_⟩:=I.list h;obtain⟨its',r',⟨o',n',e',_,_,d'⟩,_⟩:=I.list h';rw[e]at e';cases e';rw[d]at d';injection d' with d1 _;have:a8=its':=by simpa using congrArg Array.toList d1
 subst this;exact r.inj r'
theorem Inv.tuple_inj(I:Inv X a7 σ H s)(h:SqT X.K H a xs)(h':SqT X.K H a ys):xs=ys:=by
 obtain⟨a8,r,⟨o,e,_,n,d⟩,_⟩:=I.tuple h;obtain⟨its',r',⟨o',e',_,n',d'⟩,_⟩:=I.tuple h';rw[e]at e';cases e';rw[d]at d';injection d' with d1 _;have:a8=its':=by simpa using congrArg Array.toList d1
 subst this;exact r.inj r'
end
abbrev Cx.wish(X:Cx)(E:VP9):Cx:={X with xe:=E}
theorem Cx.Ok.wish{X:Cx}(ok:X.Ok) E:(X.wish E).Ok:=
 ⟨ok.mod,ok.kind,ok.glob,ok.blt,ok.above,ok.inj,ok.has,ok.cab,ok.hd,ok.frames,ok.stk,ok.exf,ok.bs,ok.bsz,ok.noex,ok.exfs,ok.funs,ok.frf⟩
theorem Cx.Ok.unwish{X:Cx}{E}(ok:(X.wish E).Ok):X.Ok:=
 ⟨ok.mod,ok.kind,ok.glob,ok.blt,ok.above,ok.inj,ok.has,ok.cab,ok.hd,ok.frames,ok.stk,ok.exf,ok.bs,ok.bsz,ok.noex,ok.exfs,ok.funs,ok.frf⟩
section
variable {X:Cx}{a7:LA9}{σ:St}{H:Hp}{s:Shared}{E:VP9}
theorem Inv.wish(I:Inv X a7 σ H s) E:Inv (X.wish E) a7 σ H s:=⟨I.ok.wish E,I.os,I.bare,I.base,I.loc,I.cell,I.free,I.freeC,I.pin,I.hok,I.len⟩
theorem Inv.unwish(I:Inv (X.wish E) a7 σ H s):Inv X a7 σ H s:=⟨I.ok.unwish,I.os,I.bare,I.base,I.loc,I.cell,I.free,I.freeC,I.pin,I.hok,I.len⟩
theorem SP.unwish{D f s'}(h:SP (X.wish E) a7 D f s'):SP X a7 D f s':=by
 cases f with|next=>obtain⟨σ',H',I,q⟩:=h;exact⟨σ',H',I.unwish,q⟩|brk=>obtain⟨σ',H',I,q⟩:=h;exact⟨σ',H',I.unwish,q⟩|cont=>obtain⟨σ',H',I,q⟩:=h;exact⟨σ',H',I.unwish,q⟩|ret u=>obtain⟨v,σ',H',I,r,q⟩:=h;exact⟨v,σ',H',I.unwish,r,q⟩
end
section
variable {X:Cx}{st:Stmt}{ab:List Stmt}{t u:TS}{e:Expr}{te:TE}{pos:Pos}
abbrev wwd:TS:=λD σ H=>D.nx σ H
abbrev tSeq(t u:TS):TS:=λD σ H=>t {D with nx:=u D} σ H
theorem vvm:PSs X [] wwd:=λ_ _ σ H _ I h=>wpAny_execs_nil ⟨σ,H,I,h⟩
theorem kzy(h1:PS X st t)(h2:PSs X ab u):PSs X (st::ab) (tSeq t u):=by
 intro a7 s σ H D I h;refine wpAny_execs_cons (thn (h1 a7 s σ H {D with nx:=u D} I h) λf s1 q=>?_);cases f with
 |next=>
  obtain⟨σ',H',I',q⟩:=q;exact h2 a7 s1 σ' H' D I' q
 |ret v=>exact q|brk=>exact q|cont=>exact q
theorem kx8(h1:PS X st t):PSs X [st] t:=by
 intro a7 s σ H D I h;refine wpAny_execs_cons (thn (h1 a7 s σ H D I h) λf s1 q=>?_);cases f with|next=>exact wpAny_execs_nil q|ret v=>exact q|brk=>exact q|cont=>exact q
theorem Inv.quiet{a7}{σ:St}{H s}(I:Inv X a7 σ H s):interactive X.env=false:=by simp[interactive,I.ok.kind]
abbrev wwe(te:TE):TS:=λD σ H=>te σ H λ_ H1=>D.nx σ H1
theorem kj4(he:PE X e te)(hs:autoParam (swapsWith e none pos.line X.env=pure false) Ŕ):PS X (.Expr e pos) (wwe te):=by
 intro a7 s σ H D I h;exact wpAny_Expr_any (thn (he a7 s σ H _ I h) λv s1 ⟨x,H1,I1,r1,q1⟩=>⟨σ,H1,I1,q1⟩) I.quiet hs
abbrev tRet(te:TE):TS:=λD σ H=>te σ H D.rt
theorem wjw(he:PE X e te):PS X (.Return (some e) pos) (tRet te):=by
 intro a7 s σ H D I h;exact wpAny_Return_some (thn (he a7 s σ H _ I h) λv s1 ⟨x,H1,I1,r1,q1⟩=>⟨x,σ,H1,I1,r1,q1⟩)
abbrev tIfS(c:TT)(t u:TS):TS:=λD σ H=>c σ H λb H1=>if b=true then t D σ H1 else u D σ H1
theorem wx7{c a b tc}(hc:PT X c tc)(ha:PSs X a t)(hb:PSs X b u):PS X (.If c a b pos) (tIfS tc t u):=by
 intro a7 s σ H D I h;refine wpAny_If (thn (hc a7 s σ H _ I h) λd s1 ⟨H1,I1,q1⟩=>?_);cases d with|true=>exact ha a7 s1 σ H1 D I1 q1|false=>exact hb a7 s1 σ H1 D I1 q1
end
abbrev TG:=V->St->Hp->(St->Hp->Prop)->Prop
abbrev TGs:=List V->St->Hp->(St->Hp->Prop)->Prop
def PG(X:Cx)(dw:Expr)(t:TG):Prop:=
 ∀(a7:LA9) (s:Shared) (σ:St) (H:Hp) (v:V) (u:Value) (Q:St->Hp->Prop),Inv X a7 σ H s->RelV v u->t v σ H Q ->
  wpAny (model X.prog X.w) X.A (assign dw X.env u) (λ_ s'=>∃ σ' H',Inv X a7 σ' H' s'/\Q σ' H') X.xe s
noncomputable def PGs(X:Cx)(ts:List Expr)(t:TGs):Prop:=
 ∀(a7:LA9) (s:Shared) (σ:St) (H:Hp) (vs:List V) (us:List Value) (Q:St->Hp->Prop),Inv X a7 σ H s->Vals vs us->t vs σ H Q ->
  wpAny (model X.prog X.w) X.A (assignInOrder ((assignEach ts X.env).map (·.2)) us) (λ_ s'=>∃ σ' H',Inv X a7 σ' H' s'/\Q σ' H') X.xe s
section
variable {X:Cx}{pos:Pos}
abbrev Q3(i:Nat):TG:=λv σ H Q=>Q (σ.set i (some v)) H
theorem vx{i x}(hN:X.N.Nodup)(hi:X.N[i]?=some x)(hx:Loc X.env.scope x)(hf:autoParam (X.fn x=true\/X.env.scope.names.lookup x=some .local) Ř):PG X (.Name x pos) (Q3 i):=by
 intro a7 s σ H v u Q I r h;exact wpAny_assign_Name (kkv I hN hi hx r (λs' I'=>⟨_,H,I',h⟩) hf)
abbrev xjb:TGs:=λvs σ H Q=>vs=[]/\Q σ H
abbrev wqj(t:TG)(u:TGs):TGs:=λvs σ H Q=>∃v r,vs=v::r/\t v σ H fun σ' H'=>u r σ' H' Q
theorem J0:PGs X [] xjb:=by
 rintro a7 s σ H vs us Q I r ⟨e,h⟩;subst e;exact assignInOrder_nil ⟨σ,H,I,h⟩
theorem qj{e es t u}(h1:PG X e t)(h2:PGs X es u)
  (hs:autoParam ((assignEach (e::es) X.env).map (·.2)=assign e X.env::(assignEach es X.env).map (·.2)) Ŕ):PGs X (e::es) (wqj t u):=by
 rintro a7 s σ H vs us Q I r ⟨v,vr,e1,h⟩;subst e1;cases r with
 |cons r rr=>
  rw[hs];exact assignInOrder_cons (thn (h1 a7 s σ H _ _ _ I r h) λ_ s1 ⟨σ1,H1,I1,q1⟩=>(h2 a7 s1 σ1 H1 _ _ Q I1 rr q1))
abbrev tAsg(te:TE)(g:TG):TS:=λD σ H=>te σ H λx H1=>g x σ H1 D.nx
theorem wjv{i x e te bm}(hN:X.N.Nodup)(hi:X.N[i]?=some x)(hx:Loc X.env.scope x)(he:PE X e te)(hs:autoParam (swapsWith e (some (.Name x bm)) pos.line X.env=pure false) Ŕ)(hf:autoParam (X.fn x=true\/X.env.scope.names.lookup x=some .local) Ř):
  PS X (.Assign [.Name x bm] e pos) (tAsg te (Q3 i)):=by
 intro a7 s σ H D I h;exact wpAny_Assign_Name (thn (he a7 s σ H _ I h) λv s1 ⟨y,H1,I1,r1,q1⟩=>(kkv I1 hN hi hx r1 (λs2 I2=>⟨_,H1,I2,q1⟩) hf)) hs
end
structure It where
 go:Nat->Hp->Prop
 yld:Nat->Hp->V->Hp->Prop
 stop:Nat->Hp->Prop
def vj(X:Cx)(a7:LA9)(H:Hp)(b:Addr):Prop:=
 H b=none/\b≠X.env.locals/\b∉X.fs/\(b∈X.ex\/X.s₀.heap.objs.size<=b)/\(∀x c,X.env.cells.lookup x=some c->c≠b)/\∀p∈X.pn++a7,p.1≠b
theorem Inv.fpOk{X a7}{σ:St}{H H' s}{b:Addr}(I:Inv X a7 σ H s)(hb:s.heap.objs.size<=b)(hn:H' b=none):vj X a7 H' b:=by
 refine⟨hn,Nat.ne_of_gt (Xm I.lt hb),I.nofs hb,.inr (Yl I.sz hb),λx c e z=>?_,λp hp z=>?_⟩
 ·obtain⟨v,q⟩:=I.cell x c e;exact absurd (Xm q.lt (z▸hb)) (Yu _)
 ·exact absurd (Xm (Xd (I.pin p hp).1) (z▸hb)) (Yu _)
structure Turn (P:Program)(w:World)(K:Frag)(tg:Expr)(J:It)(fp:List Addr)(it:Addr)(tn:Nat->Heap->Prop):Prop where
 mem:it∈fp
 obj:∀i h,tn i h->∀b∈fp,∃o,h.get? b=some o/\∀v,o.data≠.cell v
 keep:∀i h h',tn i h->(∀b∈fp,∀o,h.get? b=some o->h'.get? b=some o)->tn i h'
 item:∀(X:Cx),X.prog=P->X.w=w->X.K=K->X.calm=true->∀(i:Nat) (a7:LA9) (s:Shared) (σ:St) (H:Hp) (E:VP9),Inv X a7 σ H s->(∀b∈fp,vj X a7 H b)->tn i s.heap->J.go i H ->
  wpAny (model P w) X.A (pyNext (.ref it)) (λr s1=>∃u,r=some u /\
   wpAny (model P w) X.A (letOwnedTupleGo tg (.ref it) u) (λ_ s2=>∃x H',Inv X a7 σ H' s2/\RelV x u/\J.yld i H x H'/\tn (i+1) s2.heap/\∀b∈fp,H' b=none) E s1) E s
 done:∀(X:Cx),X.prog=P->X.w=w->X.K=K->X.calm=true->∀(i:Nat) (a7:LA9) (s:Shared) (σ:St) (H:Hp) (E:VP9),Inv X a7 σ H s->(∀b∈fp,vj X a7 H b)->tn i s.heap->J.stop i H ->
  wpAny (model P w) X.A (pyNext (.ref it)) (λr s1=>r=none/\Inv X a7 σ H s1) E s
 self:∀(A:Around) (i:Nat) (s:Shared) (Q:VP9) (E:VP9),tn i s.heap->Q (.ref it) s->wpAny (model P w) A (pyIter (.ref it)) Q E s
abbrev TI:=St->Hp->(It->Hp->Prop)->Prop
noncomputable def PIE(X:Cx)(a7:LA9)(σ:St)(tg:Expr)(R:It->Hp->Prop)(itv:Value)(s2:Shared):Prop:=
 ∃(it:Addr) (fp:List Addr) (tn:Nat->Heap->Prop) (J:It) (H':Hp),itv=.ref it/\Inv X a7 σ H' s2/\Turn X.prog X.w X.K tg J fp it tn/\tn 0 s2.heap/\(∀b∈fp,vj X a7 H' b)/\R J H'
def PI(X:Cx)(tg am:Expr)(wi:TI):Prop:=
 ∀(a7:LA9) (s:Shared) (σ:St) (H:Hp) (R:It->Hp->Prop),Inv X a7 σ H s->wi σ H R ->
  wpAny (model X.prog X.w) X.A (eval am X.env) (λv s1=>wpAny (model X.prog X.w) X.A (pyIter v) (PIE X a7 σ tg R) X.xe s1) X.xe s
theorem vjo {M A E s tg it u o n vs Q} (ho : s.heap.get? it = some o) (hc : o.cls = .type n) (hd : o.data = .fields vs)
    (hn : ["enumerate", "zip", "dict_itemiterator", "dict_reverseitemiterator", "odict_iterator", "itertools.zip_longest", "itertools.pairwise"].contains n = false) (hQ : Q () s): wpAny M A (letOwnedTupleGo tg (.ref it) u) Q E s:= by
  cases tg <;> first
    |exact X3 hQ
    |(cases u <;> first
        |exact X3 hQ
        | (refine X0 (wpAny_load ho ?_)
           rw[hc,hd];show wpAny M A (if _ = true then _ else _) Q E s;rw[Xa (by grind)];exact X3 hQ))
def Itl(K:Frag)(a:Addr):It:=
 ⟨λi H=>∃xs x,SqL K H a xs/\xs[i]?=some x,λi H x H'=>H'=H/\∀xs,SqL K H a xs->xs[i]?=some x,λi H=>∃xs,SqL K H a xs/\xs.length<=i⟩
def Itt(K:Frag)(a:Addr):It:=
 ⟨λi H=>∃xs x,SqT K H a xs/\xs[i]?=some x,λi H x H'=>H'=H/\∀xs,SqT K H a xs->xs[i]?=some x,λi H=>∃xs,SqT K H a xs/\xs.length<=i⟩
def Itr(lo:Int)(n:Nat):It:=⟨λi _=>i<n,λi H x H'=>H'=H/\x=.int (lo+i),λi _=>n<=i⟩
theorem kv3{P w K tg}(a it):Turn P w K tg (Itl K a) [it] it (λi h=>h.IsListIter it a i) where
 mem:=by simp
 obj:=λi h st b hb=>by
  have e:b=it:=by simpa using hb
  subst e;obtain⟨o,e,c,d⟩:=st;exact⟨o,e,λv z=>by rw[d]at z;cases z⟩
 keep:=λi h h' st k=>st.at λo e=>k it (by simp) o e
 item:=by
  intro X hP hw hK hc i a7 s σ H E I hf st hg;subst hP hw hK;obtain⟨xs,x,hq,hx⟩:=hg;obtain⟨a8,rv,p,hz⟩:=I.list hq;obtain⟨u,hu,ru⟩:=rv.get hx;obtain⟨f0,f1,f2,f3,f4,f5⟩:=hf it (by simp);refine wpAny_pyNext_list_item st p.isList (by simpa using hu) λh' fq sb=>?_
  have I1:Inv X a7 σ H {s with heap:=h' }:=I.turned (t':=s.toks) (λb o hb e=>(sb.2 b hb).trans e) f0 f1 f3 f4 f5;obtain⟨o,e,c,d⟩:=id fq;exact⟨u,rfl,vjo e c d ⋯ ⟨x,H,I1,ru,⟨rfl,λys hy=>by rw[I.list_inj hy hq];exact hx⟩,fq,λb hb=>(hf b hb).1⟩⟩
 done:=by
  intro X hP hw hK hc i a7 s σ H E I hf st hg;subst hP hw hK;obtain⟨xs,hq,hx⟩:=hg;obtain⟨a8,rv,p,hz⟩:=I.list hq;obtain⟨f0,f1,f2,f3,f4,f5⟩:=hf it (by simp);have hl:=rv.length;exact wpAny_pyNext_list_end (I.ok.hd hc) st p.isList (by simp;lia) λh' eb=>⟨rfl,I.turned (t':=s.toks) (λb o hb e=>eb b o hb e) f0 f1 f3 f4 f5⟩
 self:=λ_ _ _ _ _ st h=>wpAny_pyIter_listiter st h
theorem qk6{P w K tg}(a it):Turn P w K tg (Itt K a) [it] it (λi h=>h.IsTupleIter it a i) where
 mem:=by simp
 obj:=λi h st b hb=>by
  have e:b=it:=by simpa using hb
  subst e;obtain⟨o,e,c,d⟩:=st;exact⟨o,e,λv z=>by rw[d]at z;cases z⟩
 keep:=λi h h' st k=>st.at λo e=>k it (by simp) o e
 item:=by
  intro X hP hw hK hc i a7 s σ H E I hf st hg;subst hP hw hK;obtain⟨xs,x,hq,hx⟩:=hg;obtain⟨a8,rv,p,hz⟩:=I.tuple hq;obtain⟨u,hu,ru⟩:=rv.get hx;obtain⟨f0,f1,f2,f3,f4,f5⟩:=hf it (by simp);refine wpAny_pyNext_tuple_item st (p) (x:=u) (by simpa using hu) λh' fq sb=>?_
  have I1:Inv X a7 σ H {s with heap:=h' }:=I.turned (t':=s.toks) (λb o hb e=>(sb.2 b hb).trans e) f0 f1 f3 f4 f5;obtain⟨o,e,c,d⟩:=id fq;exact⟨u,rfl,vjo e c d ⋯ ⟨x,H,I1,ru,⟨rfl,λys hy=>by rw[I.tuple_inj hy hq];exact hx⟩,fq,λb hb=>(hf b hb).1⟩⟩
 done:=by
  intro X hP hw hK hc i a7 s σ H E I hf st hg;subst hP hw hK;obtain⟨xs,hq,hx⟩:=hg;obtain⟨a8,rv,p,hz⟩:=I.tuple hq;obtain⟨f0,f1,f2,f3,f4,f5⟩:=hf it (by simp);have hl:=rv.length;exact wpAny_pyNext_tuple_end (I.ok.hd hc) st (p) (by simp;lia) λh' eb=>⟨rfl,I.turned (t':=s.toks) (λb o hb e=>eb b o hb e) f0 f1 f3 f4 f5⟩
 self:=λ_ _ _ _ _ st h=>wpAny_pyIter_tupleiter st h
theorem qk7{P w K tg}(it)(lo)(n):Turn P w K tg (Itr lo n) [it] it (λi h=>IsRangeIter h it (lo+(i)*1) ((n) - (i)) 1) where
 mem:=by simp
 obj:=λi h st b hb=>by
  have e:b=it:=by simpa using hb
  subst e;exact⟨_,st,λv z=>by
   cases z⟩
 keep:=λi h h' st k=>k it (by simp) _ st
 item:=by
  intro X hP hw hK hc i a7 s σ H E I hf st hg;subst hP hw hK;obtain⟨f0,f1,f2,f3,f4,f5⟩:=hf it (by simp);refine(Walks.range (prog:=X.prog) (w:=X.w) (I.ok.hd hc) it lo 1 n).item i s _ _ hg st λv h' tk hv fq kk=>?_
  obtain⟨t,rfl⟩:=hv;have I1:Inv X a7 σ H {s with heap:=h',toks:=tk}:=I.turned (λb o hb e=>kk b o (by simpa using hb) e) f0 f1 f3 f4 f5;refine⟨_,rfl,vjo fq rfl rfl ⋯ ⟨.int _,H,I1,⟨t,?_⟩,⟨rfl,rfl⟩,fq,λb hb=>(hf b hb).1⟩⟩;rw[Int.mul_one]
 done:=by
  intro X hP hw hK hc i a7 s σ H E I hf st hg;obtain⟨f0,f1,f2,f3,f4,f5⟩:=hf it (by simp);exact wpAny_pyNext_range_end (I.ok.hd hc) st (by have:n<=i:=hg;lia) λh' eb=>⟨rfl,I.turned (t':=s.toks) (λb o hb e=>eb b o hb e) f0 f1 f3 f4 f5⟩
 self:=λ_ _ _ _ _ st h=>wpAny_pyIter_rangeiter st h
section
variable {X:Cx}{tg:Expr}
abbrev wxw(K:Frag)(tl:TE):TI:=fun σ H R=>tl σ H λx H1=>∃a,x=.ref a/\(∃xs,SqL K H1 a xs)/\R (Itl K a) H1
theorem qvr{l:Expr}{tl:TE}(hl:PE X l tl):PI X tg l (wxw X.K tl):=by
 intro a7 s σ H R I h;refine thn (hl a7 s σ H _ I h) λv s1 ⟨x,H1,I1,r1,q1⟩=>?_
 obtain⟨a,e,⟨xs,hq⟩,q⟩:=q1;subst e;cases r1;obtain⟨a8,rv,p,hz⟩:=I1.list hq;refine Zd p.isList ?_;refine⟨s1.heap.objs.size,[s1.heap.objs.size],_,_,H1,rfl,I1.kept (t':=s1.toks) λb o e=>X1 _ e,kv3 a _,⟨_,Xe _ rfl,rfl,rfl⟩,λb hb=>?_,q⟩;have e:b=s1.heap.objs.size:=by simpa using hb
 subst e;exact I1.fpOk (X8 _) (I1.hok.fresh (X8 _))
theorem qzz{a7}{σ:St}{H s R E lo hi t u v tk}(I:Inv X a7 σ H s)(h1:-(2 ^ 62)<=lo)(h2:lo<2 ^ 62)(h3:-(2 ^ 62)<=hi)(h4:hi<2 ^ 62)
  (q:R (Itr lo (hi - lo).toNat) H):wpAny (model X.prog X.w) X.A (pyIter (.ref s.heap.objs.size)) (PIE X a7 σ tg R) E {s with heap:=s.heap.push {cls:=.type "range",data:=.fields #[.int lo t,.int hi u,.int 1 v]},toks:=tk}:=by
 refine wpAny_pyIter_range (IsRange.new ..) (small_one h1 h2 h3 h4) ?_;have I1:Inv X a7 σ H {s with heap:=s.heap.push {cls:=.type "range",data:=.fields #[.int lo t,.int hi u,.int 1 v]},toks:=tk}:=I.kept λb o e=>X1 _ e
 refine⟨(s.heap.push {cls:=.type "range",data:=.fields #[.int lo t,.int hi u,.int 1 v]}).objs.size,[(s.heap.push {cls:=.type "range",data:=.fields #[.int lo t,.int hi u,.int 1 v]}).objs.size],_,_,H,rfl,
  I1.kept (t':=tk) λb o e=>X1 _ e,qk7 _ lo (hi - lo).toNat,?_,λb hb=>?_,q⟩
 ·have e1:lo+((0:Nat):Int)*1=lo:=by simp
  have e2:(((hi - lo).toNat:Nat):Int) - ((0:Nat):Int)=Builtin.Range.rangeSize lo hi 1:=by rw[rangeSize_one];split<;>lia
  rw[e1,e2];exact Xe _ rfl
 ·have e:b=(s.heap.push {cls:=.type "range",data:=.fields #[.int lo t,.int hi u,.int 1 v]}).objs.size:=by simpa using hb
  subst e;exact I1.fpOk (X8 _) (I1.hok.fresh (X8 _))
abbrev wxv(ta:TA):TI:=fun σ H R=>ta σ H λvs H1=>∃j:Int,vs=[.int j]/\-(2 ^ 62)<=j/\j<2 ^ 62/\R (Itr 0 j.toNat) H1
theorem qvq{a ta p pos}(hg:Gl X "range")(hm:X.mg "range"=none)(ha:PA X [a] ta)(hs:autoParam (starEach [a] X.env=[(false,eval a X.env)]) Ŕ):PI X tg (.Call (.Name "range" p) [a] [] pos) (wxv ta):=by
 intro a7 s σ H R I h;refine Call_ (xW I hg hm boot_range (Xx (thn (ha pos a7 s σ H _ I h) λus s1 ⟨vs,H1,I1,r1,q1⟩=>?_) hs rfl));obtain⟨j,e,q1,q2,q⟩:=q1;subst e;cases r1 with
 |cons r rr=>
  cases rr;obtain⟨t,rfl⟩:=r;exact call_range_1 (qzz I1 ⋯ ⋯ q1 q2 (by simpa using q))
abbrev tFor(wi:TI)(g:TG)(tb:TS):TS:=λD σ H=>wi σ H λJ H1=>∃W:Nat->Nat->St->Hp->Prop,(∃m,W 0 m σ H1)/\∀i m σ H,W i m σ H ->
 (J.stop i H/\D.nx σ H)\/(J.go i H/\∃N:St->Hp->Prop,(∀ σ' H',N σ' H'->∃m',m'<m/\W (i+1) m' σ' H')/\∀x H',J.yld i H x H'->g x σ H' fun σ2 H2=>tb {D with nx:=N,ct:=N,bk:=D.nx} σ2 H2)
def Kv(fp:List Addr)(h:Heap):LA9:=fp.filterMap λb=>(h.get? b).map λo=>(b,o)
theorem jxp{fp h b o}(hb:b∈fp)(e:h.get? b=some o):(b,o)∈Kv fp h:=List.mem_filterMap.mpr ⟨b,hb,by rw[e];rfl⟩
theorem kvw{fp h p}(hp:p∈Kv fp h):p.1∈fp/\h.get? p.1=some p.2:=by
 obtain⟨b,hb,e⟩:=List.mem_filterMap.mp hp;cases q:h.get? b with
 |none=>rw[q]at e;cases e
 |some o=>
  rw[q]at e;have e':=oq9 e;subst e';exact⟨hb,q⟩
theorem Inv.pinned{a7}{σ:St}{H s fp}(I:Inv X a7 σ H s)(hf:∀b∈fp,vj X a7 H b)(ho:∀b∈fp,∃o,s.heap.get? b=some o/\∀v,o.data≠.cell v):Inv X (a7++Kv fp s.heap) σ H s:=
 I.pins_of λp hp=>(aA hp).elim (λz=>I.pin p (lr9 _ z)) λz=>by
  obtain⟨hb,e⟩:=kvw z;obtain⟨f0,f1,f2,_⟩:=hf p.1 hb;obtain⟨o,e',d⟩:=ho p.1 hb;rw[e]at e';cases e';exact⟨e,f0,f1,f2,d⟩
theorem Inv.unpinned{a7 pl}{σ:St}{H s}(I:Inv X (a7++pl) σ H s):Inv X a7 σ H s:=I.pins_of λp hp=>I.pin p (lr9 _ (ll9 _ hp))
theorem qvm{am:Expr}{body:List Stmt}{wi:TI}{g:TG}{tb:TS}{pos:Pos}(hp:PassesOwn (model X.prog X.w) X.A X.env X.xe)(hc:X.calm=true)(hi:PI X tg am wi)(hg:PG X tg g)(hb:PSs X body tb)
  (hs:autoParam (∀x,foldedSetIterable am X.env x=pure x) Ŗ):PS X (.For tg am body [] pos) (tFor wi g tb):=by
 intro a7 s σ H D I h;refine wpAny_For (thn (hi a7 s σ H _ I h) λv s1 h1=>thn h1 λitv s2 h2=>?_) hs;obtain⟨it,fp,tn,J,H2,e,I2,T,b8,f2,W,⟨m0,w0⟩,fy⟩:=h2;subst e;have gz:∀{H':Hp},(∀b∈fp,H' b=none)->∀b∈fp,vj X a7 H' b:=λhn b hb=>⟨hn b hb,(f2 b hb).2⟩
 refine codeAny_forLoop_any (λn s'=>∃i σ' H',Inv X a7 σ' H' s'/\tn i s'.heap/\(∀b∈fp,H' b=none)/\W i n σ' H') ?_ m0 ⟨0,σ,H2,I2,b8,λb hb=>(f2 b hb).1,w0⟩;rintro n s3 ⟨i,σ3,H3,I3,cg,fr3,w3⟩;rcases fy i n σ3 H3 w3 with⟨stop,qn⟩|⟨go,N,hN,step⟩
 ·refine wpAny_passesOwn hp (thn (T.done X rfl rfl rfl hc i a7 s3 σ3 H3 X.xe I3 (gz fr3) cg stop) λr s4 ⟨hr,I4⟩=>?_);subst hr;exact wpAny_execs_nil ⟨σ3,H3,I4,qn⟩
 ·refine wpAny_passesOwn hp (thn (T.item X rfl rfl rfl hc i a7 s3 σ3 H3 X.xe I3 (gz fr3) cg go) λr s4 ⟨u,hr,h4⟩=>?_);subst hr;refine wpAny_passesOwn hp (thn h4 λ_ s5 ⟨x,H5,I5,r5,y5,st5,fr5⟩=>?_);have I5':=I5.pinned (gz fr5) (T.obj _ _ st5);refine wpAny_passesOwn hp (thn (hg _ s5 σ3 H5 x u _ I5' r5 (step x H5 y5)) λ_ s6 ⟨σ6,H6,I6,q6⟩=>?_);refine wpAny_passesOwn hp (thn (hb _ s6 σ6 H6 _ I6 q6) λf s7 q7=>?_);have again:∀{σ7:St} {H7:Hp},Inv X (a7++Kv fp s5.heap) σ7 H7 s7->N σ7 H7->∃m,m<n/\∃i σ' H',Inv X a7 σ' H' s7/\tn i s7.heap/\(∀b∈fp,H' b=none)/\W i m σ' H':=fun {σ7 H7} I7 n7=>by
   obtain⟨m',hm,w7⟩:=hN σ7 H7 n7;refine⟨m',hm,i+1,σ7,H7,I7.unpinned,T.keep _ _ _ st5 λb hb o e=>(I7.pin (b,o) (lr9 _ (lr9 _ (jxp hb e)))).1,λb hb=>?_,w7⟩;obtain⟨o,e,d⟩:=T.obj _ _ st5 b hb;exact(I7.pin (b,o) (lr9 _ (lr9 _ (jxp hb e)))).2.1
  cases f with|next=>obtain⟨σ7,H7,I7,n7⟩:=q7;exact again I7 n7|cont=>obtain⟨σ7,H7,I7,n7⟩:=q7;exact again I7 n7|brk=>obtain⟨σ7,H7,I7,q7⟩:=q7;exact⟨σ7,H7,I7.unpinned,q7⟩|ret v=>obtain⟨x7,σ7,H7,I7,r7,q7⟩:=q7;exact⟨x7,σ7,H7,I7.unpinned,r7,q7⟩
end
abbrev R2:=V->V->Hp->VK->Prop
def OpR(X:Cx)(f:Value->Value->Sem Value)(r:R2):Prop:=
 ∀(a7:LA9) (s:Shared) (σ:St) (H:Hp) (x y:V) (v u:Value) (Q:VK),Inv X a7 σ H s->RelV x v->RelV y u->r x y H Q ->
  wpAny (model X.prog X.w) X.A (f v u) (EP X a7 σ Q) X.xe s
def CallR(X:Cx)(f:Value)(r:List V->Hp->VK->Prop):Prop:=
 ∀(a7:LA9) (s:Shared) (σ:St) (H:Hp) (xs:List V) (us:List Value) (Q:VK),Inv X a7 σ H s->Vals xs us->r xs H Q ->
  wpAny (model X.prog X.w) X.A (call f us) (EP X a7 σ Q) X.xe s
def TruR(X:Cx)(r:V->Hp->(Bool->Hp->Prop)->Prop):Prop:=
 ∀(a7:LA9) (s:Shared) (σ:St) (H:Hp) (x:V) (v:Value) (Q:Bool->Hp->Prop),Inv X a7 σ H s->RelV x v->r x H Q ->
  wpAny (model X.prog X.w) X.A (truthy v) (TP X a7 σ Q) X.xe s
abbrev tOp(r:R2)(ta tb:TE):TE:=fun σ H Q=>ta σ H λx H1=>tb σ H1 λy H2=>r x y H2 Q
abbrev tUn(r:V->Hp->VK->Prop)(ta:TE):TE:=fun σ H Q=>ta σ H λx H1=>r x H1 Q
def rI(C:Int->Int->Prop)(g:Int->Int->V):R2:=λx y H Q=>∃i j,x=.int i/\y=.int j/\C i j/\Q (g i j) H
def rI0(g:Int->Int->V):R2:=λx y H Q=>∃i j,x=.int i/\y=.int j/\Q (g i j) H
section
variable {X:Cx}{a b c:Expr}{ta tb tc:TE}{pos:Pos}
theorem wze(ha:PE X a ta)(hb:PE X b tb){a7 s}{σ:St}{H}{R:V->V->Hp->Prop}(I:Inv X a7 σ H s)
  (h:ta σ H λx H1=>tb σ H1 λy H2=>R x y H2) {Q} {f:Value->Value->Sem Value}
  (hf:∀v u s2 x y H2,Inv X a7 σ H2 s2->RelV x v->RelV y u->R x y H2->wpAny (model X.prog X.w) X.A (f v u) Q X.xe s2):
  wpAny (model X.prog X.w) X.A (eval a X.env) (λv s₁=>wpAny (model X.prog X.w) X.A (eval b X.env) (λu s₂=>wpAny (model X.prog X.w) X.A (f v u) Q X.xe s₂) X.xe s₁) X.xe s:=by
 exact thn (ha a7 s σ H _ I h) λv s1 ⟨x,H1,I1,r1,q1⟩=>(thn (hb a7 s1 σ H1 _ I1 q1) λu s2 ⟨y,H2,I2,r2,q2⟩=>(hf v u s2 x y H2 I2 r1 r2 q2))
theorem wx8{op r}(ho:OpR X (binaryOp op) r)(ha:PE X a ta)(hb:PE X b tb):PE X (.BinOp a op b pos) (tOp r ta tb):=by
 intro a7 s σ H Q I h;exact wpAny_BinOp (wze ha hb I h λv u s2 x y H2 I2 rx ry q=>ho a7 s2 σ H2 x y v u Q I2 rx ry q)
theorem opI{f C}{g:Int->Int->Int}
  (rule:∀i j (t u) s Q E,C i j->Q (.int (g i j) s.toks) {s with toks:=s.toks+1}->wpAny (model X.prog X.w) X.A (f (.int i t) (.int j u)) Q E s):
  OpR X f (rI C λi j=>.int (g i j)):=by
 rintro a7 s σ H x y v u Q I rx ry ⟨i,j,rfl,rfl,hc,q⟩;obtain⟨t,rfl⟩:=rx;obtain⟨t',rfl⟩:=ry;exact rule i j t t' s _ _ hc ⟨.int _,H,I.tok _,⟨_,rfl⟩,q⟩
theorem xj2{f}{g:Int->Int->Int}
  (rule:∀i j (t u) s Q E,Q (.int (g i j) s.toks) {s with toks:=s.toks+1}->wpAny (model X.prog X.w) X.A (f (.int i t) (.int j u)) Q E s):
  OpR X f (rI0 λi j=>.int (g i j)):=by
 rintro a7 s σ H x y v u Q I rx ry ⟨i,j,rfl,rfl,q⟩;obtain⟨t,rfl⟩:=rx;obtain⟨t',rfl⟩:=ry;exact rule i j t t' s _ _ ⟨.int _,H,I.tok _,⟨_,rfl⟩,q⟩
theorem wxf{f}{g:Int->Int->Bool}
  (rule:∀i j (t u) (s) (Q) (E),Q (.bool (g i j)) s->wpAny (model X.prog X.w) X.A (f (.int i t) (.int j u)) Q E s):
  OpR X f (rI0 λi j=>.bl (g i j)):=by
 rintro a7 s σ H x y v u Q I rx ry ⟨i,j,rfl,rfl,q⟩;obtain⟨t,rfl⟩:=rx;obtain⟨t',rfl⟩:=ry;exact rule i j t t' s _ _ ⟨.bl _,H,I,rfl,q⟩
def ww5(i j:Int):Prop:=0<=j/\j<=1000000/\i.natAbs<2 ^ 64
theorem op_add:OpR X (binaryOp .Add) (rI0 λi j=>.int (i+j)):=xj2 λ_ _ _ _ _ _ _ q=>add_int q
theorem qj7:OpR X (binaryOp .Sub) (rI0 λi j=>.int (i - j)):=xj2 λ_ _ _ _ _ _ _ q=>sub_int q
theorem wki:OpR X (binaryOp .Mod) (rI (λ_ j=>0<j) λi j=>.int (i % j)):=opI λi j _ _ _ _ _ hc q=>by
 exact mod_int' ⋯ (by rw[Int.fmod_eq_emod_of_nonneg i ⋯];exact q)
theorem YX:OpR X (binaryOp .Pow) (rI ww5 λi j=>.int (i ^ j.toNat)):=opI λ_ _ _ _ _ _ _ hc q=>pow_int_small hc.1 hc.2.1 hc.2.2 q
theorem wkh:OpR X (binaryOp .LShift) (rI ww5 λi j=>.int (i*2 ^ j.toNat)):=opI λ_ _ _ _ _ _ _ hc q=>lshift_int_small hc.1 hc.2.1 hc.2.2 q
end
section
variable {X:Cx}{a b c:Expr}{ta tb tc:TE}{pos:Pos}
theorem vq4{a7}{σ:St}{H s Q k k'}(I:Inv X a7 σ H s)(q:Q (.bl k) H)(e:k=k'):EP X a7 σ Q (.bool k') s:=by
 subst e;exact⟨.bl k,H,I,rfl,q⟩
theorem wxc:OpR X (compareOp .Lt) (rI0 λi j=>.bl (decide (i<j))):=wxf λ_ _ _ _ _ _ _ q=>lt_int q
theorem wxd:OpR X (compareOp .LtE) (rI0 λi j=>.bl (decide (i<=j))):=wxf λ_ _ _ _ _ _ _ q=>le_int q
theorem wxe:OpR X (compareOp .Gt) (rI0 λi j=>.bl (decide (j<i))):=wxf λ_ _ _ _ _ _ _ q=>gt_int q
theorem qvx:OpR X (compareOp .In) (λx y H Q=>∃i j,x=.str i/\y=.str j/\Q (.bl (!(Builtin.Str.occurrences j i 0 j.length 1).isEmpty)) H):=by
 rintro a7 s σ H x y v u Q I rx ry ⟨i,j,rfl,rfl,q⟩;obtain⟨t,rfl⟩:=rx;obtain⟨t',rfl⟩:=ry;exact in_str (vq4 I q rfl)
theorem wkj:OpR X (compareOp .Is) (λx y H Q=>y=.non/\Q (.bl (decide (x=.non))) H):=by
 rintro a7 s σ H x y v u Q I rx ry ⟨rfl,q⟩;cases ry;refine is_none_gen (vq4 I q ?_);cases x<;>first
  |(obtain⟨t,rfl⟩:=rx;rfl)
theorem OpR.or{f r r'}(h:OpR X f r)(h':OpR X f r'):OpR X f (λx y H Q=>r x y H Q\/r' x y H Q):=by
 intro a7 s σ H x y v u Q I rx ry q;rcases q with q|q
 ·exact h a7 s σ H x y v u Q I rx ry q
 ·exact h' a7 s σ H x y v u Q I rx ry q
theorem vk b {op}(h:autoParam (op≠.In) ŕ)(h2:autoParam (op≠.NotIn) ŕ):behindInMarks op b=false:=by
 have e1:(op==CmpOp.In)=false:=by cases op<;>first|rfl|exact absurd rfl h
 have e2:(op==CmpOp.NotIn)=false:=by cases op<;>first|rfl|exact absurd rfl h2
 cases b<;>simp[behindInMarks,e1,e2]
theorem vvt{op r}(ho:OpR X (compareOp op) r)(ha:PE X a ta)(hb:PE X b tb)(hm:behindInMarks op b=false):PE X (.Compare a [op] [b] pos) (tOp r ta tb):=by
 intro a7 s σ H Q I h;exact wpAny_Compare1 (wze ha hb I h λv u s2 x y H2 I2 rx ry q=>ho a7 s2 σ H2 x y v u Q I2 rx ry q) hm
abbrev wwb(t:TE):TT:=fun σ H Q=>t σ H λx H'=>∃k,x=.bl k/\Q k H'
theorem vvl{op r}(ho:OpR X (compareOp op) r)(ha:PE X a ta)(hb:PE X b tb)(hm:behindInMarks op b=false):PT X (.Compare a [op] [b] pos) (wwb (tOp r ta tb)):=by
 intro a7 s σ H Q I h;refine wpAny_isTrue_Compare1 (thn (ha a7 s σ H _ I h) λv s1 ⟨x,H1,I1,r1,q1⟩=>thn (hb a7 s1 σ H1 _ I1 q1) λu s2 ⟨y,H2,I2,r2,q2⟩=>
  thn (ho a7 s2 σ H2 x y v u _ I2 r1 r2 q2) λc s3 ⟨z,H3,I3,r3,k,e,q3⟩=>?_) hm
 subst e;cases r3;exact wpAny_truthy_bool ⟨H3,I3,q3⟩
noncomputable def ww3(K:Frag)(x:V)(H:Hp)(k:Bool):Prop:=
 match x with
 |.non=>k=false|.bl b=>k=b|.int i=>k=(i != 0)|.str y=>y.length<=sizeLine/\k=((y.length:Int) != 0)|.byt y=>y.size<=sizeLine/\k=((y.size:Int) != 0)|.ref p=>(∃xs,SqL K H p xs/\k=!xs.isEmpty)\/(∃xs,SqT K H p xs/\k=!xs.isEmpty)\/∃a9,H p=some (.dK a9)/\k=!a9.isEmpty|_=>False
theorem qkr{κ a9}{vs:List (κ×Value)}(r:KV a9 vs):(!vs.isEmpty)=!a9.isEmpty:=by
 cases r<;>rfl
theorem kkf{xs a8}(r:Vals xs a8):(!a8.toArray.isEmpty)=!xs.isEmpty:=by
 cases r<;>simp
theorem VQ:(sizeLine)<2 ^ 63:=⋯
theorem vkg:TruR X (λx H Q=>∃k,ww3 X.K x H k/\Q k H):=by
 rintro a7 s σ H x v Q I rx ⟨k,e,q⟩;have hl:=VQ;have hs:sizeLine=16777216:=Yp;cases x with
 | non=>
  cases rx;have e':k=false:=e;subst e';exact truthy_none ⟨H,I,q⟩
 | bl b=>
  cases rx;have e':k=b:=e;subst e';exact wpAny_truthy_bool ⟨H,I,q⟩
 | int i=>
  obtain⟨t,rfl⟩:=rx;have e':k=(i != 0):=e;subst e';exact PySem.P.truthy_int ⟨H,I,q⟩
 | str y=>
  obtain⟨t,rfl⟩:=rx;obtain⟨hy,e'⟩:y.length<=sizeLine/\k=((y.length:Int) != 0):=e;subst e';exact PySem.P.truthy_str ⋯ ⟨H,I.tok _,q⟩
 | byt y=>
  obtain⟨t,rfl⟩:=rx;obtain⟨hy,e'⟩:y.size<=sizeLine/\k=((y.size:Int) != 0):=e;subst e';exact PySem.W.truthy_bytes ⋯ ⟨H,I.tok _,q⟩
 | ref p=>
  cases rx;have e':(∃xs,SqL X.K H p xs/\k=!xs.isEmpty)\/(∃xs,SqT X.K H p xs/\k=!xs.isEmpty)\/∃a9,H p=some (.dK a9)/\k=!a9.isEmpty:=e;rcases e' with⟨xs,hx,e'⟩|⟨xs,hx,e'⟩|⟨a9,hx,e'⟩
  ·subst e';obtain⟨a8,r,pl,hz⟩:=I.list hx;have ae:=r.length;exact wpAny_truthy_list pl.isList (by simp only[X9];lia) ⟨H,I.tok _,by rw[kkf r];exact q⟩
  ·subst e';obtain⟨a8,r,pl,hz⟩:=I.tuple hx;have ae:=r.length;exact truthy_tuple pl (by simp only[X9];lia) ⟨H,I.tok _,by rw[kkf r];exact q⟩
  ·subst e';obtain⟨hz,hS,vs,r,m⟩:a9.length<=sizeLine/\(p==sysModules)=false/\∃vs,KV a9 vs/\s.heap.DictOf (x8 X.prog X.w) p vs:=I.hok p _ hx;have ae:a9.length=vs.length:=Paired.length r;exact wpAny_truthy_dict hS m ⋯ ⟨H,I.tok _,by rw[qkr r];exact q⟩
 |_=>exact(show False from e).elim
theorem vj0(ha:PE X a ta)(he:∀f9,isTrue a X.env f9=(do let v <-f9;standAt a.pos;holding [v] (truthy v))):
  PT X a (fun σ H Q=>ta σ H λx H'=>∃k,ww3 X.K x H' k/\Q k H'):=by
 intro a7 s σ H Q I h;exact isTrue_plain (thn (ha a7 s σ H _ I h) λv s1 ⟨x,H1,I1,r1,q1⟩=>vkg a7 s1 σ H1 x v Q I1 r1 q1) (he _)
theorem op_add_str:OpR X (binaryOp .Add) (λx y H Q=>∃i j,x=.str i/\y=.str j/\i.length+j.length<=sizeLine/\Q (.str (i++j)) H):=by
 rintro a7 s σ H x y v u Q I rx ry ⟨i,j,rfl,rfl,hz,q⟩;obtain⟨t,rfl⟩:=rx;obtain⟨t',rfl⟩:=ry;exact add_str (λt' tk=>⟨.str (i++j),H,I.tok _,⟨_,rfl⟩,q⟩) hz
theorem xK{x us}(r:Vals [x] us):∃u,us=[u]/\RelV x u:=by
 cases r with|cons r1 r2=>cases r2;exact⟨_,rfl,r1⟩
theorem qzh{x y us}(r:Vals [x,y] us):∃u w',us=[u,w']/\RelV x u/\RelV y w':=by
 cases r with
 |cons r1 r2=>
  cases r2 with|cons r3 r4=>cases r4;exact⟨_,_,rfl,r1,r3⟩
end
structure ObjM (h:Heap)(x dx C:Addr)(mA:Str->Option Value):Prop where
 obj:h.get? x=some (PySem.W.instObj C dx)
 ns:h.Ns1 dx mA
 ne:dx≠x
theorem qwd{h:Heap}{dx mA}(n:h.Ns1 dx mA):∃od,h.get? dx=some od/\∀name,PySem.W.lookIn name od=some (mA name):=by
 obtain⟨o,es,ep,ho,hd,hk,_,hm⟩:=n;refine⟨o,ho,λname=>?_⟩;have e:=hm name;unfold nsFind findBy at e;rw[<-Array.find?_toList]at e;unfold PySem.W.lookIn;rw[hd];dsimp only
 split
 ·rename_i y q;rw[q]at e;exact congrArg some e
 ·rename_i q;have a:es.toList.any (·.refKey)=false:=by
   rw[List.any_eq_false];intro y hy;obtain⟨z,t,mz⟩:=hk y (Array.mem_toList_iff.mp hy);simp[DictEntry.refKey,mz]
  grind
theorem ObjM.look{h x dx C mA}(I:ObjM h x dx C mA):∃od,PySem.W.InstAt h x (PySem.W.instObj C dx) C (some od)/\∀name,PySem.W.lookIn name od=some (mA name):=
 let ⟨od,ho,hl⟩:=qwd I.ns
 ⟨od,⟨I.obj,rfl,rfl,ho⟩,hl⟩
theorem RelO.some_of{v o}(r:RelO (some v) o):∃u,o=some u/\RelV v u:=by
 cases o with|none=>exact(r).elim|some u=>exact⟨u,rfl,r⟩
section
variable {P:Program}{w:World}{H H':Hp}{h h':Heap}{a C dx:Addr}{fs fs':List (Str×V)}
theorem vwt(hok:HOk P w H h)(e:H a=some (.ins C dx fs)):∃mA,ObjM h a dx C mA/\(∀f,RelO (fs.lookup f) (mA f))/\PySem.Within mA (fs.map (·.1))/\fs.length<=1000/\H dx=some (.own a):=by
 obtain⟨d,z,ne,ob,mA,n,r,q⟩:=(hok a _ e);exact⟨mA,⟨ob,n,ne⟩,r,q,z,d⟩
end
structure Cls (K:Frag)(C:Addr):Prop where
 pg:PySem.W.plainGet K C Str.empty=true
 hd:PySem.W.hasDictIn K C=true
 po:PySem.W.plainOver K C=true
 sa:findIn K (.ref C) "__setattr__"=some (some (.builtin "object.__setattr__"))
theorem Cls.get{K C}(c:Cls K C) f:PySem.W.plainGet K C f=true:=c.pg
section
variable {X:Cx}{a7:LA9}{σ:St}{H:Hp}{s:Shared}{A:Around}{E:VP9}{Q:VP9}{c:Value}{b:Bool}
inductive TyOf (K:Frag)(H:Hp):V->Value->Prop where
 | non:TyOf K H .non (.type "NoneType")
 | bl (x:Bool):TyOf K H (.bl x) (.type "bool")
 | int (i:Int):TyOf K H (.int i) (.type "int")
 | str (x:Str):TyOf K H (.str x) (.type "str")
 | flt (x:UInt64):TyOf K H (.flt x) (.type "float")
 | lst {a:Addr} {xs:List V} (e:H a=some (.lst xs)):TyOf K H (.ref a) (.type "list")
 | frz {a:Addr} {o:Obj} {xs:List V} (e:H a=some (.frz o (.lst xs))):TyOf K H (.ref a) (.type "list")
 | tup {a:Addr} {xs:List V} (e:H a=some (.tup xs)):TyOf K H (.ref a) (.type "tuple")
 | dK {a:Addr} {a9:List (Key×V)} (e:H a=some (.dK a9)):TyOf K H (.ref a) (.type "dict")
 | dT {a:Addr} {a9:List (List Key×V)} (e:H a=some (.dT a9)):TyOf K H (.ref a) (.type "dict")
 | ins {a C dx:Addr} {fs:List (Str×V)} (e:H a=some (.ins C dx fs)) (cl:Cls K C) (ha:findIn K (.ref C) "__class__"=some (some (.builtin "object.__class__")))
   (hn:PySem.W.specialIn K (.builtin "object.__class__") "__get__"=some (some (.builtin "getset_descriptor.__get__"))) (htk:PySem.W.takesIn K (.builtin "object.__class__")=some true)
   (hm:PySem.W.mroIn K C (.type "object")=some true):TyOf K H (.ref a) (.ref C)
theorem qwu{x u t}(I:Inv X a7 σ H s)(rx:RelV x u)(ty:TyOf X.K H x t)(e:kitOne X.K t c=some b)(h:∀tk,Q (.bool b) {s with toks:=tk}):
  wpAny (model X.prog X.w) A (call (.builtin "isinstance") [u,c]) Q E s:=by
 cases ty with
 |non=>cases(rx);exact Ye PySem.W.kitx_none I.kIn Zi e (λz=>nomatch z) h|bl y=>cases(rx);exact Ye PySem.W.kitx_bool I.kIn Zi e (λz=>nomatch z) h|int i=>obtain⟨t,q⟩:=(rx);cases q;exact Ye PySem.W.kitx_int I.kIn Zi e (λz=>nomatch z) h|str y=>obtain⟨t,q⟩:=(rx);cases q;exact Ye PySem.W.kitx_str I.kIn Zi e (λz=>nomatch z) h|flt y=>obtain⟨t,q⟩:=(rx);cases q;exact Ye PySem.W.kitx_float I.kIn Zi e (λz=>nomatch z) h
 |@lst a xs ea=>
  cases(show u=Value.ref a from rx);obtain⟨_,_,n,_,h1⟩:=(I.hok a _ ea);exact Ye PySem.W.kitx_list I.kIn ⟨_,h1,rfl⟩ e (λz=>nomatch z) h
 |@frz a ob xs ea=>
  cases(rx);obtain⟨_,_,_,n,_,h1⟩:=(I.hok a _ ea);exact Ye PySem.W.kitx_list I.kIn ⟨_,h1,rfl⟩ e (λz=>nomatch z) h
 |@tup a xs ea=>
  cases(show u=Value.ref a from rx);obtain⟨_,_,_,p⟩:=(I.hok a _ ea);obtain⟨o,h1,h2,_⟩:=p;exact Ye PySem.W.kitx_tuple I.kIn ⟨o,h1,h2⟩ e (λz=>nomatch z) h
 |@dK a a9 ea=>
  cases(show u=Value.ref a from rx);obtain⟨_,_,vs,_,p⟩:=(I.hok a _ ea);obtain⟨o,es,ep,h1,h2,_⟩:=p;exact Ye PySem.W.kitx_dict I.kIn ⟨o,h1,h2.1⟩ e (λz=>nomatch z) h
 |@dT a a9 ea=>
  cases(show u=Value.ref a from rx);obtain⟨_,_,xs,_,o,es,ep,h1,h2,_⟩:=(I.hok a _ ea);exact Ye PySem.W.kitx_dict I.kIn ⟨o,h1,h2.1⟩ e (λz=>nomatch z) h
 |@ins a C dx fs ea cl ha hn htk hm=>
  cases(rx);obtain⟨mA,O,_⟩:=vwt I.hok ea;obtain⟨od,J,_⟩:=O.look;exact Ye (PySem.W.kitx_own (cl.get _) cl.hd ha hn htk hm) I.kIn J e (λz=>nomatch z) h
end
structure Room (k:Nat)(A:Around):Prop where
 hd:A.handled=none
 dp:A.depth+3*k+5<recursionLimit
 un:A.units+16*k+200<cLine
 gd:A.guards=some []
theorem Room.mono{j k A}(r:Room k A)(h:j<=k):Room j A:=⟨r.hd,by have:=r.dp;lia,by have:=r.un;lia,r.gd⟩
theorem Room.deeper{k A}(r:Room (k+1) A) env:Room k (A.deeper env):=
 ⟨r.hd,by have:=r.dp;show A.depth+1+3*k+5<_;lia,by have:=r.un;show A.units+3+16*k+200<_;lia,r.gd⟩
theorem Room.depth{k A}(r:Room k A):A.depth<recursionLimit:=by have:=r.dp;lia
theorem Room.units{k A}(r:Room k A):A.units+64<cLine:=by have:=r.un;lia
abbrev wwc:TA:=λ_ H Q=>Q [] H
abbrev vqw(ta:TE)(tr:TA):TA:=fun σ H Q=>ta σ H λx H1=>tr σ H1 λxs H2=>Q (x::xs) H2
section
variable {X:Cx}{e:Expr}{es:List Expr}{te:TE}{t:TA}{pos:Pos}
theorem v8:PA X [] wwc:=λ_ _ _ _ H Q I h=>Calls.spliced_nil ⟨[],H,I,.nil,h⟩
theorem qW(ha:PE X e te)(hr:PA X es t)(hs:autoParam (starEach (e::es) X.env=(false,eval e X.env)::starEach es X.env) Ŕ):PA X (e::es) (vqw te t):=by
 intro pos a7 s σ H Q I h;rw[hs];exact Calls.spliced_cons (thn (ha a7 s σ H _ I h) λu s1 ⟨x,H1,I1,r1,q1⟩=>(thn (hr pos a7 s1 σ H1 _ I1 q1) λus s2 ⟨xs,H2,I2,r2,q2⟩=>⟨x::xs,H2,I2,.cons r1 r2,q2⟩))
abbrev tTup(t:TA):TE:=fun σ H Q=>t σ H λxs H1=>xs.length<=sizeLine/\∀p,H1 p=none->Q (.ref p) (upd H1 p (.tup xs))
abbrev tLst(t:TA):TE:=fun σ H Q=>t σ H λxs H1=>xs.length<=sizeLine/\∀p,H1 p=none->Q (.ref p) (upd H1 p (.lst xs))
theorem wk4{x1}(h:PA X es t):PE X (.Tuple es x1 pos) (tTup t):=by
 intro a7 s σ H Q I hq;refine wpAny_Tuple_spliced (thn (h pos a7 s σ H _ I hq) λus s1 ⟨xs,H1,I1,r,z,q⟩=>⟨by rw[<-r.length];exact z,(⟨.ref s1.heap.objs.size,upd H1 s1.heap.objs.size _,I1.laid (t':=s1.toks) (λb u e=>X1 _ e) (X8 _) ?_,rfl,q _ (I1.hok.fresh (X8 _))⟩)⟩);exact⟨z,us,r,⟨_,Xe _ rfl,rfl,rfl,_,rfl⟩⟩
theorem wk8(h:PA X es t):PE X (.List es pos) (tLst t):=by
 intro a7 s σ H Q I hq;refine wpAny_List_spliced (thn (h pos a7 s σ H _ I hq) λus s1 ⟨xs,H1,I1,r,z,q⟩=>⟨by rw[<-r.length];exact z,(⟨.ref s1.heap.objs.size,upd H1 s1.heap.objs.size _,I1.laid (t':=s1.toks) (λb u e=>X1 _ e) (X8 _) ?_,rfl,q _ (I1.hok.fresh (X8 _))⟩)⟩);exact⟨z,us,0,r,Xe _ rfl⟩
end
abbrev Sp:=List V->Hp->VK->XK->Prop
abbrev CXT:=List Env->Hp->Shared->XK->Value->Shared->Prop
structure Env0 (P:Program)(w:World)(K:Frag)(mg:Str->Option Value)(base:Heap)(A:Around)(outer:List Env)(s:Shared)(H:Hp):Prop where
 frames:A.frames=some outer
 mod:Mod K mg base
 bs:∀b o,base.get? b=some o->s.heap.get? b=some o/\H b=none
 bsz:base.objs.size<=s.heap.objs.size
 funs:s.heap.FunFrames base outer
 frf:∀b∈frs outer,H b=none
 hok:HOk P w H s.heap
 bare:AllBare s.gens
def CE(outer:List Env)(P:Program)(w:World)(H:Hp)(s:Shared)(Q:VK)(u:Value)(s':Shared):Prop:=
 ∃v H',s'.os=s.os/\AllBare s'.gens/\Un (frs outer) [] H H' s.heap s'.heap/\HOk P w H' s'.heap/\RelV v u/\Q v H'
def CR(CX:CXT)(outer:List Env)(P:Program)(w:World)(H:Hp)(s:Shared)(Q:VK)(E:XK)(r:Result)(s':Shared):Prop:=
 match r with
 |.ok (.ret u)=>CE outer P w H s Q u s'|.ok _=>False|.error e=>CX outer H s E e s'
structure FnOk (P:Program)(w:World)(K:Frag)(mg:Str->Option Value)(base:Heap)(CX:CXT)(k:Nat)(f:Addr)(fd:FuncData)(ps:List Str)(sp:Sp):Prop where
 len:∀vs H Q E,sp vs H Q E->vs.length=ps.length
 run:∀(A:Around) (outer:List Env) (s:Shared) (H:Hp) (args:Args) (us:List Value) (vs:List V) (Q:VK) (E:XK),Room k A->Env0 P w K mg base A outer s H->BindsTo s fd args (ps.zip us)->Vals vs us->sp vs H Q E ->
  codeAny (model P w) A (.call (.ref f) args) (CR CX outer P w H s Q E) s
section
variable {X:Cx}{a7:LA9}{σ:St}{H:Hp}{s s':Shared}
theorem Inv.env0(I:Inv X a7 σ H s):Env0 X.prog X.w X.K X.mg X.base X.A X.stack s H:=
 ⟨I.ok.frames,I.ok.mod,I.bs,Yl I.ok.bsz I.sz,I.stack,I.stkFree,I.hok,I.bare⟩
theorem Inv.after{Q u}(I:Inv X a7 σ H s)(h:CE X.stack X.prog X.w H s Q u s'):EP X a7 σ Q u s':=by
 obtain⟨v,H',os,bare,un,hok,r,q⟩:=h;obtain⟨hh,g,d,t,u4⟩:=s';obtain rfl:u4=s.os:=os;exact⟨v,H',I.call (h':=hh) (g':=g) (d':=d) (t':=t) un hok bare (λb z=>absurd z (by simp)),r,q⟩
end
abbrev vzm(sp:Sp)(oz:List V)(E:XK)(t:TA):TE:=fun σ H Q=>t σ H λvs H1=>sp (vs++oz) H1 Q E
def Binds(K:Frag)(fd:FuncData)(ps:List Str)(ds:List Value):Prop:=
 ∀(s:Shared) (us:List Value),K.In s.heap->(us++ds).length=ps.length->BindsTo s fd ⟨us,[]⟩ (ps.zip (us++ds))
theorem Binds.all{K fd ps}(h:∀us,us.length=ps.length->bindArgs fd ⟨us,[]⟩=pure (ps.zip us)):Binds K fd ps []:=λs us _ hl=>by
 rw[Xq]at hl ⊢;exact .of_eq (h us hl)
def qzc(CX:CXT)(X:Cx)(E:XK):Prop:=∀(a7:LA9) (σ:St) (H:Hp) (s:Shared) (e:Value) (s':Shared),Inv X a7 σ H s->CX X.stack H s E e s'->X.xe e s'
section
variable {X:Cx}{CX:CXT}{k:Nat}{f C:Addr}{fd:FuncData}{ps:List Str}{sp:Sp}{oz:List V}{ds:List Value}{E:XK}{x m:Str}{p pos ah:Pos}{e o:Expr}{es:List Expr}{ta:TE}{t:TA}
theorem vzx{a7}{σ:St}{H s Q us vs}(F:FnOk X.prog X.w X.K X.mg X.base CX k f fd ps sp)(hr:Room k X.A)(hb:Binds X.K fd ps ds)(hd:Vals oz ds)(hx:qzc CX X E)
  (I:Inv X a7 σ H s) (r:Vals vs us) (h:sp (vs++oz) H Q E):wpAny (model X.prog X.w) X.A (call (.ref f) us) (EP X a7 σ Q) X.xe s:=by
 have r2:=r.append hd;have hl:(us++ds).length=ps.length:=by rw[<-r2.length];exact F.len _ _ _ _ h
 refine wpAny_call (codeAny_mono (F.run X.A X.stack s H _ _ _ Q E hr I.env0 (hb s us I.kIn hl) r2 h) λr s' hq=>?_);cases r with
 |error e=>exact hx a7 σ H s e s' I hq
 |ok fl=>
  cases fl with|ret u=>exact I.after hq|next=>exact False.elim hq|brk=>exact False.elim hq|cont=>exact False.elim hq
theorem vvu(F:FnOk X.prog X.w X.K X.mg X.base CX k f fd ps sp)(hr:Room k X.A)(hg:Gl X x)(hm:X.mg x=some (.ref f))(hk:PySem.W.keepIn X.K (.ref f)=true)(hb:Binds X.K fd ps ds)(hd:Vals oz ds)(hx:qzc CX X E)
  (ha:PA X (e::es) t) (fh:autoParam ((x==("__debug__":Str))=false) ŕ) (he:autoParam (starEach (e::es) X.env=(false,eval e X.env)::starEach es X.env) Ŕ) (bn:autoParam ((backTo pos (starEach es X.env)).any (·.1)=false) Ŕ):
  PE X (.Call (.Name x p) (e::es) [] pos) (vzm sp oz E t):=by
 intro a7 s σ H Q I h;exact Yq (qwk I hg hm (PySem.W.callWith_K I.ok.mod.kin hk (thn (ha pos a7 s σ H _ I h) λus s1 ⟨vs,H1,I1,r,q⟩=>⟨I1.kIn,(vzx F hr hb hd hx I1 r q)⟩) he bn) fh)
end
structure FnScope (N P:List Str)(sc:Scope):Prop where
 kind:sc.kind=.function
 co:sc.isCoroutine=false
 gen:sc.isGenerator=false
 nd:N.Nodup
 pre:N.take P.length=P
 par:∀x∈P,sc.names.lookup x=some .local\/sc.names.lookup x=some .cell
 nofree:∀y∈sc.names,y.2≠.free
theorem kwq{kindOf x}: ∀{binds m},(∀v,(x,v)∉binds) -> bindL kindOf binds m x = m x
  | [],_,_=>rfl
  | (n,v)::r,m,h=>by
    unfold bindL;rw[kwq λw hw=>h w (lc9 _ hw)]
    split
    · have : x≠n:= by rintro rfl; exact h v X4
      simp[this]
    · rfl
theorem kws{kindOf x}: ∀{binds m},(∀v,(x,v)∉binds) -> bindC kindOf binds m x = m x
  | [],_,_=>rfl
  | (n,v)::r,m,h=>by
    unfold bindC;rw[kws λw hw=>h w (lc9 _ hw)]
    split
    · rfl
    · have : x≠n:= by rintro rfl; exact h v X4
      simp[this]
theorem kwr{kindOf x v}:∀{P:List Str} {vs} {i:Nat} {m},P.Nodup->P[i]?=some x->vs[i]?=some v->kindOf x=some .local ->
  bindL kindOf (P.zip vs) m x=some v
 |[],_,_,_,_,h,_,_=>by simp at h
 |p::P,w::vs,0,m,nd,h1,h2,hk=>by
  simp at h1 h2;subst h1;subst h2;show bindL kindOf (_::P.zip vs) m p=_;unfold bindL;rw[kwq λv hv=>(List.nodup_cons.mp nd).1 (List.of_mem_zip hv).1,X6 hk];simp
 |p::P,w::vs,i+1,m,nd,h1,h2,hk=>by
  unfold bindL;exact kwr (List.nodup_cons.mp nd).2 (by simpa using h1) (by simpa using h2) hk
theorem kwt{kindOf x v}:∀{P:List Str} {vs} {i:Nat} {m},P.Nodup->P[i]?=some x->vs[i]?=some v->kindOf x≠some .local ->
  bindC kindOf (P.zip vs) m x=some v
 |[],_,_,_,_,h,_,_=>by simp at h
 |p::P,w::vs,0,m,nd,h1,h2,hk=>by
  simp at h1 h2;subst h1;subst h2;show bindC kindOf (_::P.zip vs) m p=_;unfold bindC;rw[kws λv hv=>(List.nodup_cons.mp nd).1 (List.of_mem_zip hv).1,Xa hk];simp
 |p::P,w::vs,i+1,m,nd,h1,h2,hk=>by
  unfold bindC;exact kwt (List.nodup_cons.mp nd).2 (by simpa using h1) (by simpa using h2) hk
def start(N:List Str)(vs:List V):St:=vs.map some++List.replicate (N.length - vs.length) none
noncomputable def Jx(CX:CXT)(P:Program)(w:World)(K:Frag)(mg:Str->Option Value)(base:Heap)(N:List Str)(qual:Str)(scope:Scope)(f:Addr)(cd:Value)(A:Around)(outer:List Env)(s:Shared)(H:Hp)(E:XK):Cx where
 prog:=P
 w:=w
 K:=K
 mg:=mg
 base:=base
 A:=A.deeper (envOfC qual scope s.heap.objs.size f cd)
 N:=N
 s₀:=s
 H₀:=H
 env:=envOfC qual scope s.heap.objs.size f cd
 outer:=outer
 stack:=envOfC qual scope s.heap.objs.size f cd::outer
 ex:=[]
 calm:=true
 fn:=λ_=>true
 pn:=[]
 xe:=λe s'=>wpAny (model P w) (A.deeper (envOfC qual scope s.heap.objs.size f cd)) (leaving (envOfC qual scope s.heap.objs.size f cd) e) (λ_ jm=>CX outer H s E e jm) (λe' jm=>CX outer H s E e' jm) s'
theorem qjy{sc:Scope}{n x}(h:sc.names.lookup x=some .cell):∃c,(cellsFrom n sc.names []).lookup x=some c:=by
 exact Option.isSome_iff_exists.mp (PySem.W.cellsFrom_some sc.names n [] (.inl h))
theorem qww{CX P w K mg base N ps qual scope f cd A outer s s1 H E us}{vs}
  (S:FnScope N ps scope) (hd:A.handled=none) (e0:Env0 P w K mg base A outer s H) (hl:vs.length=ps.length) (r:Vals vs us)
  (x:InCallC s s.heap.objs.size (bindL (envOfC qual scope s.heap.objs.size f cd).kindOf (ps.zip us) λ_=>none) (cellsFrom (s.heap.objs.size+1) scope.names []) (bindC (envOfC qual scope s.heap.objs.size f cd).kindOf (ps.zip us) λ_=>none) s1):
  Inv (Jx CX P w K mg base N qual scope f cd A outer s H E) [] (start N vs) H s1:=by
 have bn:ps.length<=N.length:=by have:=congrArg List.length S.pre;rw[Y5]at this;lia
 obtain⟨h1,tk,rfl,hk⟩:=x.done;have pk:∀b,b∉(Jx CX P w K mg base N qual scope f cd A outer s H E).ex:=λb z=>absurd (show b∈([]:List Addr)from z) (by simp)
 refine⟨⟨e0.mod,S.kind,rfl,rfl,X8 _,λy z c h1 h2=>?_,λy hy=>?_,λy c _ h=>?_,λ_=>hd,Around.frames_deeper e0.frames,.inr ⟨rfl,rfl⟩,λb z=>absurd z (pk b),e0.bs,e0.bsz,λb _ _=>pk b,λb z=>absurd z (pk b),e0.funs,e0.frf⟩,
  rfl,e0.bare,Un.kept hk,⟨_,x.toInCall.ns,λi y v h1 h2 h3=>?_⟩,λy c h=>⟨_,x.cell y c h⟩,e0.hok.fresh (X8 _),λy c h=>?_,λp hp=>absurd (show p∈([]:List _)from hp) (by simp),e0.hok.kept hk,?_⟩
 ·exact name_of_addr x.apart (Yy h1) (Yy h2)
 ·rcases hy with hy|hy
  ·exact qjy hy
  ·exact absurd rfl (S.nofree _ (Yy hy))
 ·exact Nat.le_of_lt (x.above y c (Yy h))
 ·have hi:i<vs.length:=by
   unfold start at h2
   by_cases hi:i<vs.length
   ·exact hi
   ·rw[List.getElem?_append_right (by simpa using hi),List.getElem?_replicate]at h2
    split at h2<;>cases h2
  have ha:vs[i]?=some v:=by
   unfold start at h2;rw[Yh (by simpa using hi),Xn]at h2;cases e:vs[i]? with|none=>rw[e]at h2;cases h2|some a=>rw[e]at h2;cases h2;rfl
  obtain⟨u,hu,rv⟩:=r.get ha;have hp:ps[i]?=some y:=by
   rw[<-S.pre,List.getElem?_take_of_lt ⋯];exact h1
  have ndP:ps.Nodup:=by rw[<-S.pre];exact S.nd.sublist (List.take_sublist _ _)
  refine⟨u,rv,?_⟩;rcases S.par y (Xs hp)with k|k
  ·exact .inl ⟨k,kwr ndP hp hu k⟩
  ·obtain⟨c,e⟩:=qjy k;refine .inr ⟨.inl k,c,e,?_⟩;have q:=x.cell y c e;rw[kwt ndP hp hu (by show scope.names.lookup y≠_;rw[k];decide)]at q;exact q
 ·exact e0.hok.fresh (Nat.le_of_lt (x.above y c (Yy h)))
 ·unfold start;show _=N.length;rw[Y6,X2,Z9];lia
theorem wxz{CX P w K mg base k f name qual params body scope dV kV gj pm bd ct oc}{an od}
  {lv N ps sp} (lk:K.lookup f=some ⟨oc,od,.func (PySem.W.fnOf name qual params body scope dV kV gj pm an bd ct),lv⟩) (gr:PySem.W.codeIn K bd qual=true) (S:FnScope N ps scope)
  (len:∀vs H Q E,sp vs H Q E->vs.length=ps.length)
  (kd:∀A (outer) (s) (H) (vs) (Q) (E),Room k (A.deeper (envOfC qual scope s.heap.objs.size f bd))->sp vs H Q E ->
   ∃t,PSs (Jx CX P w K mg base N qual scope f bd A outer s H E) body t/\t {nx:=λ_ H'=>Q .non H',rt:=Q} (start N vs) H):
  FnOk P w K mg base CX (k+1) f (PySem.W.fnOf name qual params body scope dV kV gj pm an bd ct) ps sp:=by
 refine⟨len,λA outer s H args us vs Q E hr e0 hb r mf=>?_⟩;have KX:=e0.mod.kin.keeps λb o e=>(e0.bs b o e).1
 have qp:∀y∈ps.zip us,scope.names.lookup y.1=some .local\/(scope.names.lookup y.1=some .cell/\((cellsFrom (s.heap.objs.size+1) scope.names []).lookup y.1).isSome=true):=λ⟨n,v⟩ hy=>by
  rcases S.par n (List.of_mem_zip hy).1 with q|q
  ·exact .inl q
  ·exact .inr ⟨q,PySem.W.cellsFrom_some _ _ _ (.inl q)⟩
 refine codeAny_call_function hr.depth (KX _ _ lk) rfl S.co S.gen rfl (PySem.W.codeRec_of KX gr) (hb _ _ _ _ (wpAny_newFunctionEnv_cells S.kind qp λenv he s1 x=>?_));subst he;refine⟨(e0.mod.nolimit.keeps λb o e=>(e0.bs b o e).1).keeps x.toInCall.keep,codeAny_func ?_⟩;obtain⟨t,ht,hq⟩:=kd A outer s H vs Q E (hr.deeper _) mf;have I:Inv (Jx CX P w K mg base N qual scope f bd A outer s H E) [] _ H s1:=qww S hr.hd e0 (len _ _ _ _ mf) r x;refine wpAny_mono (ht [] s1 _ H _ I hq) (λfl s' hs=>?_) λe s' hs=>hs
 have fin:∀{σ' H' v u},Inv (Jx CX P w K mg base N qual scope f bd A outer s H E) [] σ' H' s'->RelV v u->Q v H'->CE outer P w H s Q u s':=
  fun {σ' H' v u} J rv q=>⟨v,H',J.os,J.bare,J.base,J.hok,rv,q⟩
 cases fl with
 |ret u=>
  obtain⟨v,σ',H',J,rv,q⟩:=hs;exact fin J rv q
 |next=>
  obtain⟨σ',H',J,q⟩:=hs;exact fin (v:=V.non) J rfl q
 |brk=>
  obtain⟨_,_,_,q⟩:=hs;exact False.elim q
 |cont=>
  obtain⟨_,_,_,q⟩:=hs;exact False.elim q
section
variable {X:Cx}{x:Str}{p pos:Pos}{e:Expr}{es:List Expr}{t:TA}{id T:String}{r:List V->Hp->VK->Prop}
abbrev tCB(r:List V->Hp->VK->Prop)(t:TA):TE:=fun σ H Q=>t σ H λvs H1=>r vs H1 Q
theorem qj4(hc:CallR X (.builtin id) r)(hg:Gl X x)(hm:X.mg x=none)(hv:bootBuiltins x=some (.builtin id))(ha:PA X (e::es) t)(hn:autoParam (x≠"__name__") ŕ)(fh:autoParam ((x==("__debug__":Str))=false) ŕ)
  (he:autoParam (starEach (e::es) X.env=(false,eval e X.env)::starEach es X.env) Ŕ) (bn:autoParam ((backTo pos (starEach es X.env)).any (·.1)=false) Ŕ):PE X (.Call (.Name x p) (e::es) [] pos) (tCB r t):=by
 intro a7 s σ H Q I h;exact Yq (xW I hg hm hv (PyProof.Rows.callWith_builtin1 (thn (ha pos a7 s σ H _ I h) λus s1 ⟨vs,H1,I1,r1,q1⟩=>hc a7 s1 σ H1 vs us Q I1 r1 q1) he bn) hn fh)
theorem qvt(hc:CallR X (.type T) r)(hg:Gl X x)(hm:X.mg x=none)(hv:bootBuiltins x=some (.type T))(ha:PA X (e::es) t)(hn:autoParam (x≠"__name__") ŕ)(fh:autoParam ((x==("__debug__":Str))=false) ŕ)
  (he:autoParam (starEach (e::es) X.env=(false,eval e X.env)::starEach es X.env) Ŕ) (bn:autoParam ((backTo pos (starEach es X.env)).any (·.1)=false) Ŕ):PE X (.Call (.Name x p) (e::es) [] pos) (tCB r t):=by
 intro a7 s σ H Q I h;exact Yq (xW I hg hm hv (Xx (thn (ha pos a7 s σ H _ I h) λus s1 ⟨vs,H1,I1,r1,q1⟩=>hc a7 s1 σ H1 vs us Q I1 r1 q1) he bn) hn fh)
end
end L2
namespace HT
open PySem PyProof.Rows
section
variable {prog:Program}{w:World}{A:Around}{E:VP9}{s:Shared}
theorem cat_tup{t b vs ws Q}(ht:IsTup s.heap t vs.toArray)(hb:IsTup s.heap b ws.toArray)(hv:vs≠[])
  (h1:ws=[]->Q (.ref t) s) (h2:ws≠[]->Q (.ref s.heap.objs.size) {s with heap:=s.heap.push {cls:=.type "tuple",data:=.seq (vs++ws).toArray}})
  (hsz:vs.length+ws.length<=sizeLine):wpAny (model prog w) A (binaryOp .Add (.ref t) (.ref b)) Q E s:=by
 obtain⟨⟨cls,dd,data,sl⟩,ho,hc,n,hd⟩:=id ht;obtain⟨⟨cls2,dd2,data2,jr⟩,ho2,lu,n2,dy⟩:=id hb;subst hc hd lu dy;have e:vs.toArray++ws.toArray=(vs++ws).toArray:=by simp
 by_cases hw:ws=[]
 ·exact concat_meets ⟨_,ho,rfl⟩ ⟨_,ho2,rfl⟩ noFill_tuple_add seq_tuple_add PySem.F.slot_tuple_add PySem.F.entry_tuple_add (PySem.F.args_tuple_add_2 _ _)
   (tuple_addW1 t b vs.toArray ws.toArray n n2 dd dd2 sl jr (by simpa using hv) (by simp[hw])) ⟨ho,ho2,h1 hw⟩
 ·refine concat_meets ⟨_,ho,rfl⟩ ⟨_,ho2,rfl⟩ noFill_tuple_add seq_tuple_add PySem.F.slot_tuple_add PySem.F.entry_tuple_add (PySem.F.args_tuple_add_2 _ _)
   (tuple_addW2 t b vs.toArray ws.toArray n n2 dd dd2 sl jr (by simpa using hv) (by simpa using hw) (hsz)) ⟨ho,ho2,?_⟩
  rw[e];exact h2 hw
def sIx(n d:Nat):Option Int->Nat
 |none=>d|some v=>if v<0 then(v+(n:Int)).toNat else min v.toNat n
theorem qxo v (n d:Nat):(if v<0 then max (v+(n:Int)) 0 else min v n)=((sIx n d (some v):Nat):Int):=by
 show _=(((if v<0 then(v+n).toNat else min v.toNat n):Nat):Int)
 by_cases hv:v<0
 ·simp only[X6 hv];lia
 ·grind
theorem qq5(lo hi)(n:Nat):Builtin.Slice.sliceAdjust lo hi 1 n=(((sIx n 0 lo:Nat):Int),((sIx n n hi):Int)):=by
 have h1:¬((1:Int)<0):=⋯
 unfold Builtin.Slice.sliceAdjust;refine Prod.ext ?_ ?_
 ·cases lo with|none=>rfl|some v=>exact qxo v n 0
 ·cases hi with|none=>rfl|some v=>exact qxo v n n
theorem qkj(i j:Nat):Builtin.Slice.slicePlaces i j 1=j - i:=by
 unfold Builtin.Slice.slicePlaces;have h1:1>0:=⋯
 simp
 split<;>lia
theorem kk7{v o Q}(p:IsPart v o)(h:Q o s):wpAny (model prog w) A (Builtin.Slice.slicePartIndex v) Q E s:=by
 cases p with|none=>exact slicePart_none h|int i t=>exact slicePart_int h
theorem jva{sl vl vu lo hi n}{Q:Int×Int×Nat->Shared->Prop}(hs:s.heap.IsSliceOf sl vl vu .none)(pl:IsPart vl lo)(pu:IsPart vu hi)
  (h:Q (((sIx n 0 lo:Nat):Int),1,sIx n n hi - sIx n 0 lo) s):wpAny (model prog w) A (Builtin.Slice.sliceApplied (.ref sl) (pure n)) Q E s:=by
 obtain⟨os,ic,lq,b7⟩:=id hs;refine X0 (X0 (Zh ic b7 (x:=vl) rfl (X0 (Zh ic b7 (x:=vu) rfl (X0 (Zh ic b7 (x:=.none) rfl (X3 (X0 (slicePart_none (X0 (kk7 pl (X0 (kk7 pu (X0 (X3 ?_)))))))))))))));show wpAny _ _ (match Builtin.Slice.sliceAdjust lo hi 1 n with|(lo,hi)=>pure (lo,_,Builtin.Slice.slicePlaces lo hi 1)) _ _ s;rw[qq5 lo hi n];show wpAny _ _ (pure _) _ _ s;rw[qkj];exact X3 h
theorem vj1(xs:Array Value)(i k:Nat):((List.range k).filterMap λ(m:Nat)=>xs[(i+(m:Int)*1).toNat]?).toArray=((xs.toList.drop i).take k).toArray:=by
 have e:(λ(m:Nat)=>xs[(i+(m:Int)*1).toNat]?)=λm=>xs[i+m]?:=by
  funext m;have:(i+(m:Int)*1).toNat=i+m:=⋯
  rw[this]
 rw[e];have:=pick_run xs i k;rw[List.filterMap_map]at this;have e2:(_∘λx=>i+x)=λm=>xs[i+m]?:=rfl
 rw[e2]at this;rw[this]
theorem getItem_tuple_cut{t sl items vl vu lo hi Q}(ht:IsTup s.heap t items)(hs:s.heap.IsSliceOf sl vl vu .none)(pl:IsPart vl lo)(pu:IsPart vu hi)
  (hw:¬(sIx items.size 0 lo=0/\sIx items.size items.size hi=items.size))
  (h:Q (.ref s.heap.objs.size) {s with heap:=s.heap.push {cls:=.type "tuple",data:=.seq ((items.toList.drop (sIx items.size 0 lo)).take (sIx items.size items.size hi - sIx items.size 0 lo)).toArray}})
  (hsz:items.size<=sizeLine):wpAny (model prog w) A (getItem (.ref t) (.ref sl)) Q E s:=by
 have px:sizeOk (.seq ((items.toList.drop (sIx items.size 0 lo)).take (sIx items.size items.size hi - sIx items.size 0 lo)).toArray):=by
  show((items.toList.drop _).take _).toArray.size<=sizeLine;rw[X9,Y5,List.length_drop,X7];lia
 obtain⟨os,ic,lq,b7⟩:=id hs;have hTs:s.TypeIs (.ref sl) "slice":=⟨os,ic,lq⟩;unfold getItem
 try with_reducible refine Y4 ?_
 refine X0 (wpAny_sequenceKey ht.typeIs ⋯ ?_);refine X0 (Yo ht.typeIs Z1
  (Y1 Z1 ht.typeIs entry_tuple_getitem ?_ (args_tuple_getitem _ _)))
 show wpAny _ _ (Builtin.Tuple.tupleItemsOf _ >>= _) _ _ s;refine X0 (tupleItemsOf_ ht (X0 (Ze hTs (X0 (jva hs pl pu ?_)))));have jd:¬((((sIx items.size 0 lo:Nat):Int)==0&&(1:Int)==1&&(sIx items.size items.size hi - sIx items.size 0 lo)==items.size)=true):=by
  grind
 show wpAny _ _ (if _=true then _ else _) _ _ s;rw[Xa jd,vj1]
 first
  |exact X0 (Ya (X0 (X3 (X3 ⟨_,rfl,X3 h⟩))) px)
end
end HT
namespace L2
open PySem PySem.Spec PyProof.Rows
abbrev TO:=St->Hp->(Option Int->Hp->Prop)->Prop
def PO(X:Cx)(e:Option Expr)(t:TO):Prop:=
 ∀(a7:LA9) (s:Shared) (σ:St) (H:Hp) (Q:Option Int->Hp->Prop),Inv X a7 σ H s->t σ H Q ->
  wpAny (model X.prog X.w) X.A (evalPart e X.env) (λu s'=>∃o H',Inv X a7 σ H' s'/\IsPart u o/\Q o H') X.xe s
abbrev qqo:TO:=λ_ H Q=>Q none H
abbrev vzj(t:TE):TO:=fun σ H Q=>t σ H λx H1=>∃i,x=.int i/\Q (some i) H1
theorem kkg{ns}:∀{us},Vals (ns.map V.int) us->IntsAre us ns:=by
 induction ns with
 | nil=>intro us r;cases r;exact .nil
 | cons n ns ih=>
  intro us r;cases r with
  |cons r1 r2=>
   obtain⟨t,e⟩:=r1;subst e;exact .cons n t (ih r2)
section
variable {X:Cx}{e:Expr}{te:TE}{lo hi:Option Expr}{tl th:TO}{pos p2:Pos}
theorem vvp:PO X none qqo:=by
 intro a7 s σ H Q I h;exact X3 ⟨none,H,I,.none,h⟩
theorem vvo(h:PE X e te):PO X (some e) (vzj te):=by
 intro a7 s σ H Q I hw;refine thn (h a7 s σ H _ I hw) λu s1 ⟨x,H1,I1,r1,q1⟩=>?_
 obtain⟨i,rfl,q⟩:=q1;obtain⟨t,rfl⟩:=r1;exact⟨some i,H1,I1,.int i t,q⟩
noncomputable def SlR(X:Cx)(r:V->Option Int->Option Int->Hp->VK->Prop):Prop:=
 ∀(a7:LA9) (s:Shared) (σ:St) (H:Hp) (x:V) (v vl vu:Value) (lo hi:Option Int) (sl:Addr) (Q:VK),Inv X a7 σ H s->RelV x v->s.heap.IsSliceOf sl vl vu .none->IsPart vl lo->IsPart vu hi->r x lo hi H Q ->
  ∃T id,typeLookup (.type T) "__getitem__"=pure (some (.builtin id))/\s.TypeIs v T/\wpAny (model X.prog X.w) X.A (getItem v (.ref sl)) (EP X a7 σ Q) X.xe s
theorem SlR.or{r r'}(h:SlR X r)(h':SlR X r'):SlR X (λx lo hi H Q=>r x lo hi H Q\/r' x lo hi H Q):=by
 intro a7 s σ H x v vl vu lo hi sl Q I rx hs pl pu q;rcases q with q|q
 ·exact h a7 s σ H x v vl vu lo hi sl Q I rx hs pl pu q
 ·exact h' a7 s σ H x v vl vu lo hi sl Q I rx hs pl pu q
abbrev tSl(r:V->Option Int->Option Int->Hp->VK->Prop)(te:TE)(tl th:TO):TE:=fun σ H Q=>te σ H λx H1=>tl σ H1 λl H2=>th σ H2 λu H3=>r x l u H3 Q
theorem qj3{r}(hr:SlR X r)(he:PE X e te)(hl:PO X lo tl)(hu:PO X hi th):PE X (.Subscript e (.Slice lo hi none p2) pos) (tSl r te tl th):=by
 intro a7 s σ H Q I h;refine Subscript_ (thn (he a7 s σ H _ I h) λv s1 ⟨x,H1,I1,r1,q1⟩=>(wpAny_Slice (thn (hl a7 s1 σ H1 _ I1 q1) λvl s2 ⟨l,H2,I2,pl,q2⟩=>thn (hu a7 s2 σ H2 _ I2 q2) λvu s3 ⟨u,H3,I3,pu,q3⟩=>(X3 ?_))));have I4:Inv X a7 σ H3 {s3 with heap:=s3.heap.push {cls:=.type "slice",data:=.fields #[vl,vu,.none]}}:=I3.kept (t':=s3.toks) λb ob q=>X1 _ q
 obtain⟨T,id,hT,ht,hg⟩:=hr a7 {s3 with heap:=s3.heap.push {cls:=.type "slice",data:=.fields #[vl,vu,.none]}} σ H3 x v vl vu l u s3.heap.objs.size Q I4 r1 (Heap.IsSliceOf.new ..) pl pu q3;exact tail_any ht hT hg (by ac_rfl)
def W4(xs:List V)(lo hi:Option Int):List V:=(xs.drop (HT.sIx xs.length 0 lo)).take (HT.sIx xs.length xs.length hi - HT.sIx xs.length 0 lo)
theorem kjo xs (lo hi):(W4 xs lo hi).length<=xs.length:=by
 unfold W4;rw[Y5,List.length_drop];lia
def wzo(K:Frag):V->Option Int->Option Int->Hp->VK->Prop:=λx lo hi H Q=>∃a xs,x=.ref a/\SqT K H a xs /\
 ¬(HT.sIx xs.length 0 lo=0/\HT.sIx xs.length xs.length hi=xs.length)/\∀p,H p=none->Q (.ref p) (upd H p (.tup (W4 xs lo hi)))
theorem sl_tup:SlR X (wzo X.K):=by
 rintro a7 s σ H x v vl vu lo hi sl Q I rx hs pl pu ⟨a,xs,rfl,hx,hw,q⟩;cases rx;obtain⟨a8,r,ht,hz⟩:=I.tuple hx;have ae:a8.toArray.size=xs.length:=r.length.symm;refine⟨"tuple",_,PyProof.Rows.slot_tuple_getitem.lookup,ht.typeIs,(HT.getItem_tuple_cut ht hs pl pu (ae▸hw) ?_ (ae▸hz))⟩;rw[ae];refine⟨.ref s.heap.objs.size,_,I.laid (t':=s.toks) (λb ob q=>X1 _ q) (X8 _) ?_,rfl,q _ (I.hok.fresh (X8 _))⟩;exact⟨Yl (kjo xs lo hi) hz,_,(r.drop _).take _,IsTupD.new _ _⟩
def wj8(K:Frag):R2:=λx y H Q=>∃a b xs ys,x=.ref a/\y=.ref b/\SqT K H a xs/\SqT K H b ys/\xs≠[]/\xs.length+ys.length<=sizeLine /\
 (ys=[]->Q (.ref a) H)/\(ys≠[]->∀p,H p=none->Q (.ref p) (upd H p (.tup (xs++ys))))
theorem Vals.nil_iff{xs us}(r:Vals xs us):us=[]↔xs=[]:=by
 cases r with|nil=>simp|cons _ _=>simp
theorem vw2:OpR X (binaryOp .Add) (wj8 X.K):=by
 rintro a7 s σ H x y v u Q I rx ry ⟨a,b,xs,ys,rfl,rfl,ha,hb,hx,hz,q1,q2⟩;cases rx;cases ry;obtain⟨a8,r1,p1,_⟩:=I.tuple ha;obtain⟨ce,r2,p2,_⟩:=I.tuple hb;refine HT.cat_tup p1 p2 (λz=>hx (r1.nil_iff.mp z)) (λz=>⟨.ref a,H,I,rfl,q1 (r2.nil_iff.mp z)⟩) (λz=>(⟨.ref s.heap.objs.size,_,I.laid (t':=s.toks) (λb ob q=>X1 _ q) (X8 _) ?_,rfl,q2 (λw=>z (r2.nil_iff.mpr w)) _ (I.hok.fresh (X8 _))⟩)) (by rw[<-r1.length,<-r2.length];exact hz);exact⟨by rw[Y6];exact hz,_,r1.append r2,IsTupD.new _ _⟩
end
def ixN(n:Nat)(i:Int):Option Nat:=if 0<=i then(if i<n then some i.toNat else none)else if -(n:Int)<=i then some (i+n).toNat else none
def atI{α:Type}(xs:List α)(i:Int):Option α:=(ixN xs.length i).bind λj=>xs[j]?
theorem vwn{n i j}(h:ixN n i=some j):seqIndex? i n=some j/\j<n/\-n<=i/\i<n:=by
 unfold ixN at h
 by_cases h0:0<=i
 ·rw[X6 h0]at h
  by_cases h1:i<n
  ·rw[X6 h1]at h;exact⟨by rw[seqIndex_of h0 h1,(oq9 h)],⋯,⋯,h1⟩
  ·rw[Xa h1]at h;cases h
 ·rw[Xa h0]at h
  by_cases h1:-n<=i
  ·rw[X6 h1]at h;exact⟨by rw[seqIndex_neg ⋯ h1,(oq9 h)],⋯,h1,⋯⟩
  ·rw[Xa h1]at h;cases h
theorem kz5{α xs i}{v:α}(h:atI xs i=some v):∃j,seqIndex? i xs.length=some j/\xs[j]?=some v/\j<xs.length/\-(xs.length:Int)<=i/\i<xs.length:=by
 unfold atI at h;cases e:ixN xs.length i with
 |none=>rw[e]at h;cases h
 |some j=>
  rw[e]at h;obtain⟨h1,h2,h3,h4⟩:=vwn e;exact⟨j,h1,h,h2,h3,h4⟩
def kqz(b:Expr):Prop:=∀o i,subscripted b false o i=operate [o,i] (getItem o i)
noncomputable def IxR(X:Cx)(r:R2):Prop:=
 ∀(bg slice:Expr) (a7:LA9) (s:Shared) (σ:St) (H:Hp) (x y:V) (v u:Value) (Q:VK),Inv X a7 σ H s->RelV x v->RelV y u->r x y H Q ->
  subscripted slice false v u=operate [v,u] (getItem v u)->wpAny (model X.prog X.w) X.A (subscriptTail bg slice v u) (EP X a7 σ Q) X.xe s
noncomputable def MtR(X:Cx)(id:String)(r:V->List V->Hp->VK->Prop):Prop:=
 ∀(a7:LA9) (s:Shared) (σ:St) (H:Hp) (x:V) (xs:List V) (v:Value) (us:List Value) (Q:VK),Inv X a7 σ H s->RelV x v->Vals xs us->r x xs H Q ->
  wpAny (model X.prog X.w) X.A (call (.builtin id) (v::us)) (EP X a7 σ Q) X.xe s
section
variable {X:Cx}{a b:Expr}{ta tb:TE}{pos:Pos}
theorem IxR.or{r r'}(h:IxR X r)(h':IxR X r'):IxR X (λx y H Q=>r x y H Q\/r' x y H Q):=by
 intro bg slice a7 s σ H x y v u Q I rx ry q hs;rcases q with q|q
 ·exact h bg slice a7 s σ H x y v u Q I rx ry q hs
 ·exact h' bg slice a7 s σ H x y v u Q I rx ry q hs
theorem wka{r}(hr:IxR X r)(ha:PE X a ta)(hb:PE X b tb)(hs:kqz b):PE X (.Subscript a b pos) (tOp r ta tb):=by
 intro a7 s σ H Q I h;exact Subscript_ (wze ha hb I h λv u s2 x y H2 I2 rx ry q=>hr a b a7 s2 σ H2 x y v u Q I2 rx ry q (hs _ _))
def wzu(K:Frag):R2:=λx y H Q=>∃p xs i v,x=.ref p/\y=.int i/\SqL K H p xs/\atI xs i=some v/\Q v H
def wzs(K:Frag):R2:=λx y H Q=>∃p xs i v,x=.ref p/\y=.int i/\SqT K H p xs/\atI xs i=some v/\Q v H
def wzt:R2:=λx y H Q=>∃z i c,x=.str z/\y=.int i/\z.length<=sizeLine/\atI z.cps.toList i=some c/\Q (.str ⟨#[c]⟩) H
theorem ix_list:IxR X (wzu X.K):=by
 intro bg slice a7 s σ H x y v u Q I rx ry h hs;obtain⟨p,xs,i,z,rfl,rfl,hq,he,q⟩:=h;cases rx;obtain⟨t,rfl⟩:=ry;obtain⟨a8,r,pl,hz⟩:=I.list hq;obtain⟨j,h1,h2,h3,h4,h5⟩:=kz5 he;obtain⟨w,ew,jp⟩:=r.get h2;have hl:=r.length;have hn:=VQ;have fin:EP X a7 σ Q w s:=⟨z,H,I,jp,q⟩
 by_cases h0:0<=i
 ·have hj:i.toNat=j:=by
   rw[seqIndex_of h0 h5]at h1;exact oq9 h1
  exact item_listR pl.isList h0 ⋯ (by rw[hj];simpa using ew) fin hs
 ·have hj:(i+(a8.toArray.size:Int)).toNat=j:=by
   rw[seqIndex_neg ⋯ h4]at h1;rw[X9,<-hl];exact oq9 h1
  exact subscriptTail_builtinR pl.isList.typeIs slot_list_getitem.lookup
   (wpAny_getItem_list_neg pl.isList ⋯ (by rw[X9]<;>lia) ⋯ (by rw[hj];simpa using ew) ⟨rfl,fin⟩) hs
theorem ix_tup:IxR X (wzs X.K):=by
 intro bg slice a7 s σ H x y v u Q I rx ry h hs;obtain⟨p,xs,i,z,rfl,rfl,hq,he,q⟩:=h;cases rx;obtain⟨t,rfl⟩:=ry;obtain⟨a8,r,pl,hz⟩:=I.tuple hq;obtain⟨j,h1,h2,h3,h4,h5⟩:=kz5 he;obtain⟨w,ew,jp⟩:=r.get h2;have hn:=VQ;have fin:EP X a7 σ Q w s:=⟨z,H,I,jp,q⟩;exact subscriptTail_builtinR pl.typeIs slot_tuple_getitem.lookup
  (getItem_tuple pl ⋯ ⋯ (by rw[X9,<-r.length];exact h1) (by simpa using ew) ⟨rfl,fin⟩) hs
theorem wq7:IxR X wzt:=by
 intro bg slice a7 s σ H x y v u Q I rx ry h hs;obtain⟨z,i,c,rfl,rfl,hz,he,q⟩:=h;obtain⟨t,rfl⟩:=rx;obtain⟨t',rfl⟩:=ry;obtain⟨j,h1,h2,h3,h4,h5⟩:=kz5 he;have hl:z.cps.toList.length=z.length:=by simp[Str.length]
 rw[hl]at h1 h4 h5;have hn:=VQ;exact tail_any (typeIs_str s z t) slot_str_getitem.lookup (getItem_str (c:=c) (by
  have e1:decide (i < -(2 ^ 63:Int))=false:=Xh ⋯;have e2:decide (i>=2 ^ 63)=false:=Xh ⋯;rw[e1,e2,Bool.or_false]) (by rw[h1];simpa using h2) ⟨.str ⟨#[c]⟩,H,I.tok _,⟨_,rfl⟩,q⟩) hs
def rIx(K:Frag):R2:=λx y H Q=>wzu K x y H Q\/wzs K x y H Q\/wzt x y H Q
theorem vq2:IxR X (rIx X.K):=ix_list.or (ix_tup.or wq7)
theorem kv9(lo hi) n:(sliceBounds lo hi none n).1=((HT.sIx n 0 lo:Nat):Int)/\(sliceBounds lo hi none n).2.1=((HT.sIx n n hi:Nat):Int)/\(sliceBounds lo hi none n).2.2=1:=by
 refine⟨?_,?_,rfl⟩
 ·cases lo with
  |none=>simp[sliceBounds,HT.sIx]
  |some i=>
   simp only[sliceBounds,HT.sIx,Option.getD_none,show(1:Int)>0 by decide,if_true]
   by_cases h:i<0
   ·simp only[h,if_true]<;>lia
   ·simp only[h,if_false]<;>lia
 ·cases hi with
  |none=>simp[sliceBounds,HT.sIx]
  |some i=>
   simp only[sliceBounds,HT.sIx,Option.getD_none,show(1:Int)>0 by decide,if_true]
   by_cases h:i<0
   ·simp only[h,if_true]<;>lia
   ·simp only[h,if_false]<;>lia
theorem kkx(a8:List Value)(lo hi):slicePick a8.toArray lo hi none=((a8.drop (HT.sIx a8.length 0 lo)).take (HT.sIx a8.length a8.length hi - HT.sIx a8.length 0 lo)).toArray:=by
 obtain⟨h1,h2,h3⟩:=kv9 lo hi a8.toArray.size;unfold slicePick;rw[h1,h2,h3];simp only[sliceRange_one,pick_run]<;>rfl
def wzq(K:Frag):V->Option Int->Option Int->Hp->VK->Prop:=λx lo hi H Q=>∃a xs,x=.ref a/\SqL K H a xs/\∀p,H p=none->Q (.ref p) (upd H p (.lst (W4 xs lo hi)))
theorem sl_list:SlR X (wzq X.K):=by
 rintro a7 s σ H x v vl vu lo hi sl Q I rx hs pl pu ⟨a,xs,rfl,hx,q⟩;cases rx;obtain⟨a8,r,ht,hz⟩:=I.list hx;have ae:=r.length;refine⟨"list",_,slot_list_getitem.lookup,ht.isList.typeIs,(wpAny_getItem_list_slice ht.isList hs pl pu .none (by simp) ?_ (by simp_all))⟩;rw[kkx,<-ae];refine⟨.ref s.heap.objs.size,_,I.laid (t':=s.toks) (λb ob q=>X1 _ q) (X8 _) ?_,rfl,q _ (I.hok.fresh (X8 _))⟩;exact⟨Yl (kjo xs lo hi) hz,_,0,(r.drop _).take _,Xe _ rfl⟩
theorem kvu:OpR X (compareOp .NotIn) (λx y H Q=>∃i j,x=.str i/\y=.str j/\Q (.bl (!(!(Builtin.Str.occurrences j i 0 j.length 1).isEmpty))) H):=by
 rintro a7 s σ H x y v u Q I rx ry ⟨i,j,rfl,rfl,q⟩;obtain⟨t,rfl⟩:=rx;obtain⟨t',rfl⟩:=ry;exact notIn_str ⟨.bl _,H,I,rfl,q⟩
theorem call_len_seq:CallR X (.builtin "len") (λxs H Q=>∃p ys,xs=[.ref p]/\(SqL X.K H p ys\/SqT X.K H p ys)/\Q (.int ys.length) H):=by
 rintro a7 s σ H xs us Q I r ⟨p,ys,rfl,hq,q⟩;obtain⟨u,rfl,rx⟩:=xK r;cases rx;have hn:=VQ;rcases hq with hq|hq
 ·obtain⟨a8,r',pl,hz⟩:=I.list hq;have ae:=r'.length;exact Calls.call_len_list pl.isList (by simp only[X9]<;>lia) ⟨.int ys.length,H,I.tok _,⟨s.toks+1,by rw[X9,ae]⟩,q⟩
 ·obtain⟨a8,r',pl,hz⟩:=I.tuple hq;have ae:=r'.length;exact len_tuple pl (by simp only[X9]<;>lia) ⟨.int ys.length,H,I.tok _,⟨s.toks+1,by rw[X9,ae]⟩,q⟩
theorem call_len_str:CallR X (.builtin "len") (λxs H Q=>∃z,xs=[.str z]/\z.length<=sizeLine/\Q (.int z.length) H):=by
 rintro a7 s σ H xs us Q I r ⟨z,rfl,hz,q⟩;obtain⟨u,rfl,t,rfl⟩:=xK r;have hn:=VQ;exact len_str ⋯ ⟨.int z.length,H,I.tok _,⟨_,rfl⟩,q⟩
theorem CallR.or{f r r'}(h:CallR X f r)(h':CallR X f r'):CallR X f (λxs H Q=>r xs H Q\/r' xs H Q):=by
 intro a7 s σ H xs us Q I rs q;rcases q with q|q
 ·exact h a7 s σ H xs us Q I rs q
 ·exact h' a7 s σ H xs us Q I rs q
theorem kwm:CallR X (.type "list") (λxs H Q=>∃p ys,xs=[.ref p]/\(SqL X.K H p ys\/SqT X.K H p ys)/\∀l,H l=none->Q (.ref l) (upd H l (.lst ys))):=by
 rintro a7 s σ H xs us Q I r ⟨p,ys,rfl,hq,q⟩;obtain⟨u,rfl,rx⟩:=xK r;cases rx;have fin:∀a8,Vals ys a8->ys.length<=sizeLine->∀h' (c'),_ ->
   h'.get? s.heap.objs.size=some {cls:=.type "list",dict:=none,data:=.seq a8.toArray c',slots:=#[]}->EP X a7 σ Q _ {s with heap:=h' }:=λa8 r' hz h' c' kp e=>
  ⟨.ref s.heap.objs.size,_,I.laid (t':=s.toks) kp (X8 _) (show ObjOk X.prog X.w _ h' _ (.lst ys)from⟨hz,a8,c',r',e⟩),rfl,q _ (I.hok.fresh (X8 _))⟩
 rcases hq with hq|hq
 ·obtain⟨a8,r',pl,hz⟩:=I.list hq;have ae:=r'.length;obtain⟨o,ho,hc,n,hd⟩:=pl.isList;exact call_list_seq p (.inl rfl) ho hc hd (λh' c' kp e=>fin a8 r' hz h' c' kp e) (by simp only[X9]<;>lia)
 ·obtain⟨a8,r',pl,hz⟩:=I.tuple hq;have ae:=r'.length;obtain⟨o,ho,hc,n,hd⟩:=pl;exact call_list_seq p (.inr rfl) ho hc hd (λh' c' kp e=>fin a8 r' hz h' c' kp e) (by simp only[X9]<;>lia)
theorem kqp:CallR X (.type "tuple") (λxs H Q=>∃p ys,xs=[.ref p]/\((SqL X.K H p ys/\∀l,H l=none->Q (.ref l) (upd H l (.tup ys)))\/(SqT X.K H p ys/\Q (.ref p) H))):=by
 rintro a7 s σ H xs us Q I r ⟨p,ys,rfl,h⟩;obtain⟨u,rfl,rx⟩:=xK r;cases rx;rcases h with⟨hq,q⟩|⟨hq,q⟩
 ·obtain⟨a8,r',pl,hz⟩:=I.list hq;have ae:=r'.length;refine call_tuple_list pl.isList (λh' kp=>?_) (by simp_all);have I1:Inv X a7 σ H {s with heap:=h' }:=I.kept (t':=s.toks) kp;have I2:Inv X a7 σ _ {s with heap:=h'.push {cls:=.type "tuple",data:=.seq a8.toArray}}:=
   I1.laid (t':=s.toks) (λb o e=>X1 _ e) (X8 _) (show ObjOk X.prog X.w _ _ _ (.tup ys)from⟨hz,a8,r',IsTupD.new _ _⟩)
  exact⟨.ref h'.objs.size,_,I2,rfl,q _ (I1.hok.fresh (X8 _))⟩
 ·obtain⟨a8,r',pl,hz⟩:=I.tuple hq;exact call_tuple_same pl ⟨.ref p,H,I,rfl,q⟩
noncomputable def tyV(K : Frag)(T : String)(x : V)(H : Hp): Prop:= match x with
  |.str _=>T = "str"|.int _=>T = "int"
  |.ref p=>(T = "list" /\ ∃xs,SqL K H p xs) \/ (T = "tuple" /\ ∃o,K.lookup p = some o /\ o.cls = .type "tuple" /\ o.dict = none) \/
      (T = "dict" /\ ((∃a9,H p = some (.dK a9)) \/ ∃a9,H p = some (.dT a9))) \/ (T = "set" /\ ∃S n,H p = some (.set S n))
  |_=>False
theorem vkf{a7}{σ:St}{H s T x v}(I:Inv X a7 σ H s)(r:RelV x v)(ty:tyV X.K T x H):
  s.TypeIs v T/\∀a,v=.ref a->∃ob,s.heap.get? a=some ob/\ob.dict=none:=by
 cases x with
 | str z=>
  obtain⟨t,rfl⟩:=r;cases(ty);exact⟨typeIs_str s z t,λ_ e=>nomatch e⟩
 | int i=>
  obtain⟨t,rfl⟩:=r;cases(ty);exact⟨typeIs_int s i t,λ_ e=>nomatch e⟩
 | ref p=>
  cases r;rcases ty with⟨rfl,xs,hq⟩|⟨rfl,o,hk,hc,hd⟩|⟨rfl,hk⟩|⟨rfl,S,n,hk⟩
  ·obtain⟨a8,_,pl,_⟩:=I.list hq;refine⟨pl.isList.typeIs,λa e=>?_⟩;cases e;obtain⟨o,n,e,c,hd,_⟩:=pl;exact⟨o,e,hd⟩
  ·refine⟨⟨o,I.kIn p o hk,hc⟩,λa e=>?_⟩;cases e;exact⟨o,I.kIn _ o hk,hd⟩
  ·have z:∃o,s.heap.get? p=some o/\o.ExactDict:=by
    rcases hk with⟨a9,hk⟩|⟨a9,hk⟩
    ·obtain⟨_,_,_,_,o,_,_,e,ex,_⟩:=I.hok p _ hk;exact⟨o,e,ex⟩
    ·obtain⟨_,_,_,_,o,_,_,e,ex,_⟩:=I.hok p _ hk;exact⟨o,e,ex⟩
   obtain⟨o,e,ex⟩:=z;refine⟨⟨o,e,ex.1⟩,λa e2=>?_⟩;cases e2;exact⟨o,e,ex.2.1⟩
  ·obtain⟨o,_,_,_,e,ex,_⟩:=I.hok p _ hk;refine⟨⟨o,e,ex.1⟩,λa e2=>?_⟩;cases e2;exact⟨o,e,ex.2.1⟩
 |_=>exact False.elim ty
abbrev wzm(K:Frag)(T:String)(r:V->List V->Hp->VK->Prop)(to:TE):TE:=fun σ H Q=>to σ H λx H1=>tyV K T x H1/\r x [] H1 Q
abbrev tBM(K:Frag)(T:String)(r:V->List V->Hp->VK->Prop)(to:TE)(t:TA):TE:=fun σ H Q=>to σ H λx H1=>tyV K T x H1/\t σ H1 λxs H2=>r x xs H2 Q
variable {o e:Expr}{es:List Expr}{to:TE}{t:TA}{name:Str}{ah aa:Pos}{T id:String}{r:V->List V->Hp->VK->Prop}
theorem wkc(pa:PlainAttrs T)(slot:Slot T name id)(lh:typeOf (.builtin id)=pure (.type "method_descriptor"))(hm:MtR X id r)(ho:PE X o to)
  (au:autoParam (attributeBase o name X.env (eval o X.env)=eval o X.env) Ŕ) (aq:autoParam ((ah.endLine==aa.line)=true) Ŕ):PE X (.Call (.Attribute o name ah) [] [] aa) (wzm X.K T r to):=by
 intro a7 s σ H Q I h;refine wpAny_Call_method0_late au aq (thn (ho a7 s σ H _ I h) λv s1 ⟨x,H1,I1,r1,ty,q1⟩=>?_);obtain⟨h1,h2⟩:=vkf I1 r1 ty;exact⟨T,id,pa,slot,lh,h1,h2,Calls.callWith_builtin rfl (PySem.evalArgs_none (hm a7 s1 σ H1 x [] v [] Q I1 r1 .nil q1))⟩
theorem vvv(pa:PlainAttrs T)(slot:Slot T name id)(lh:typeOf (.builtin id)=pure (.type "method_descriptor"))(hm:MtR X id r)(ho:PE X o to)(ha:PA X (e::es) t)
  (au:autoParam (attributeBase o name X.env (eval o X.env)=eval o X.env) Ŕ)
  (c8:autoParam (((backTo aa (starEach (e::es) X.env)).all (λx=>!x.1)&&(backToKw aa (keywordEach [] X.env)).all (λx=>x.1.isSome)
   && decide ((e::es).length+([]:List Keyword).length+(if([]:List Keyword).isEmpty then 0 else 1)<30))=true) Ŕ)
  (aq:autoParam ((ah.endLine==aa.line)=true) Ŕ) (hs:autoParam (starEach (e::es) X.env=(false,eval e X.env)::starEach es X.env) Ŕ) (ax:autoParam ((backTo aa (starEach es X.env)).any (·.1)=false) Ŕ):
  PE X (.Call (.Attribute o name ah) (e::es) [] aa) (tBM X.K T r to t):=by
 intro a7 s σ H Q I h;refine wpAny_Call_method_late au c8 aq rfl (thn (ho a7 s σ H _ I h) λv s1 ⟨x,H1,I1,r1,ty,q1⟩=>?_);obtain⟨h1,h2⟩:=vkf I1 r1 ty;refine⟨T,id,pa,slot,lh,h1,h2,?_⟩;have hA:=ha aa a7 s1 σ H1 _ I1 q1;rw[hs]at hA ⊢;exact Calls.callWith_builtin (by show(false||(backTo aa _).any _)=false;rw[ax]<;>rfl) (Calls.evalArgs_plain (thn hA λus s2 ⟨vs,H2,I2,r2,q2⟩=>hm a7 s2 σ H2 x vs v us Q I2 r1 r2 q2))
end
noncomputable def MtM(X:Cx)(id:String)(r:V->List V->Hp->VK->Prop):Prop:=
 ∀(a7:LA9) (s:Shared) (σ:St) (H:Hp) (x:V) (xs:List V) (v:Value) (us:List Value) (Q:VK),Inv X a7 σ H s->RelV x v->Vals xs us->r x xs H Q ->
  wpAny (model X.prog X.w) X.A (call (.builtin id) (v::us)) (EP X a7 σ Q) X.xe s
theorem Vals.one:∀{x us},Vals [x] us->∃u,us=[u]/\RelV x u
 |_,_,.cons r .nil=>⟨_,rfl,r⟩
theorem Vals.zero:∀{us},Vals [] us->us=[]
 |_,.nil=>rfl
theorem Vals.rep{xs us}(h:Vals xs us):∀k,Vals (List.replicate k xs).flatten (List.replicate k us).flatten
 |0=>.nil
 |k+1=>by
  exact Vals.append h (Vals.rep h k)
theorem kjm(a8):∀k (ac:List Value),
  List.foldl (λx1 x2=>x1++x2) ac.toArray (List.replicate k a8.toArray)=(ac++(List.replicate k a8).flatten).toArray
 | 0,ac=>by simp
 | k+1,ac=>by
  have e:ac.toArray++a8.toArray=(ac++a8).toArray:=by simp
  have e2:(ac++a8)++(List.replicate k a8).flatten=ac++(List.replicate (k+1) a8).flatten:=by
   rw[List.replicate_succ,List.flatten_cons,Yb]
  rw[<-e2,<-kjm a8 k _,<-e,List.replicate_succ,Zb]
section
variable {X:Cx}{a7:LA9}{σ:St}{H:Hp}{s:Shared}{l b:Addr}{xs ys zs:List V}
theorem Inv.lset{a8 its':List Value}{n f t'}(I:Inv X a7 σ H s)(hH:H l=some (.lst xs))
  (e:s.heap.get? l=some {cls:=.type "list",data:=.seq a8.toArray n}) (hf:f a8.toArray=its'.toArray) (hv:Vals ys its') (hz:ys.length<=sizeLine):
  Inv X a7 σ (upd H l (.lst ys)) {s with heap:=s.heap.update l (Obj.mapSeq f),toks:=t' }:=by
 have q:=PySem.IsL.update e f;rw[hf]at q;refine I.write (hH▸trivial) (.inl rfl) (λb' u hb hu=>(Z6 s.heap _ (Ne.symm hb)).trans hu) ⟨_,q⟩ ?_;exact⟨hz,its',_,hv,q⟩
theorem Inv.lnew{a8 t'}(I:Inv X a7 σ H s)(hv:Vals ys a8)(hz:ys.length<=sizeLine):
  Inv X a7 σ (upd H s.heap.objs.size (.lst ys)) {s with heap:=s.heap.push {cls:=.type "list",data:=.seq a8.toArray},toks:=t' }:=
 I.laid (λ_ _ q=>X1 _ q) (X8 _) ⟨hz,a8,0,hv,Xe _ rfl⟩
theorem Inv.fresh(I:Inv X a7 σ H s):H s.heap.objs.size=none:=I.hok.fresh (X8 _)
theorem Inv.lstM(I:Inv X a7 σ H s)(hH:H l=some (.lst xs)):xs.length<=sizeLine/\∃(a8:List Value) (n:Nat),Vals xs a8/\xs.length=a8.length/\s.heap.get? l=some {cls:=.type "list",data:=.seq a8.toArray n}:=by
 obtain⟨z,a8,n,r,e⟩:=I.hok l _ hH;exact⟨z,a8,n,r,r.length,e⟩
theorem qj9{n}(h:n<=sizeLine):Builtin.List.listTooLong n=false:=by
 unfold Builtin.List.listTooLong
 simp_all
end
section
variable {X:Cx}
def qvc:V->List V->Hp->VK->Prop:=λx vs H Q=>∃l xs y,x=.ref l/\vs=[y]/\H l=some (.lst xs)/\xs.length<sizeLine/\Q .non (upd H l (.lst (xs++[y])))
theorem qw5:MtM X "list.append" qvc:=by
 rintro a7 s σ H x vs v us Q I rx rv ⟨l,xs,y,rfl,rfl,hH,hz,q⟩;cases rx;obtain⟨u,rfl,ru⟩:=rv.one;obtain⟨z,a8,n,r,hl,e⟩:=I.lstM hH;refine call_meets F.slot_list_append ⟨_,e,rfl⟩ F.entry_list_append (F.args_list_append_2 _ _) (PySem.list_append l a8.toArray n u (by simp_all)) ⟨e,(⟨.non,_,I.lset (its':=a8++[u]) hH e (by simp) (r.append (.cons ru .nil)) ?_,rfl,q⟩)⟩;rw[Y6,Za];lia
def qvb:V->List V->Hp->VK->Prop:=λx vs H Q=>∃l b xs zs,x=.ref l/\vs=[.ref b]/\H l=some (.lst xs)/\H b=some (.lst zs)/\xs.length+zs.length<=sizeLine/\Q .non (upd H l (.lst (xs++zs)))
theorem qw4:MtM X "list.extend" qvb:=by
 rintro a7 s σ H x vs v us Q I rx rv ⟨l,b,xs,zs,rfl,rfl,hH,hB,hz,q⟩;cases rx;obtain⟨u,rfl,ru⟩:=rv.one;cases ru;obtain⟨z,a8,n,r,hl,e⟩:=I.lstM hH;obtain⟨z2,ce,n2,r2,nv,e2⟩:=I.lstM hB;have hsz:a8.toArray.size+ce.toArray.size<=sizeLine:=by rw[X9,X9];lia
 have je:¬(!a8.toArray.isEmpty&&Builtin.List.listTooLong (a8.toArray.size+ce.toArray.size))=true:=by
  rw[qj9 hsz,Bool.and_false];exact Bool.false_ne_true
 refine call_meets F.slot_list_extend ⟨_,e,rfl⟩ F.entry_list_extend (F.args_list_extend_2 _ _)
  (AutoSeq1.list_extend_list_list_0 l a8.toArray n b ce.toArray n2 je ⋯ ⋯) ⟨e,e2,?_⟩
 refine⟨.non,_,I.lset (its':=a8++ce) hH e (by simp) (r.append r2) ?_,rfl,q⟩
 simp_all
def kvk:V->List V->Hp->VK->Prop:=λx vs H Q=>∃l xs,x=.ref l/\vs=[]/\H l=some (.lst xs)/\Q .non (upd H l (.lst []))
theorem jzq:MtM X "list.clear" kvk:=by
 intro a7 s σ H x vs v us Q I rx rv h;obtain⟨l,xs,rfl,rfl,hH,q⟩:=h;cases rx;have hus:=rv.zero;subst hus;obtain⟨z,a8,n,r,hl,e⟩:=I.lstM hH;refine call_meets F.slot_list_clear ⟨_,e,rfl⟩ F.entry_list_clear (F.args_list_clear_1 _) (AutoSeq1.list_clear_list_0 l a8.toArray n (by rw[X9];lia)) ⟨e,?_⟩;exact⟨.non,_,I.lset (its':=[]) (ys:=[]) hH e rfl .nil (Y8 _),rfl,q⟩
theorem qwg{α:Type}(xs:List α) k:(List.replicate k xs).flatten.length=k*xs.length:=by
 induction k with|zero=>simp|succ k ih=>simp_all
end
end L2
namespace Att
open PySem PySem.W PySem.Calls PyProof.Rows
theorem kjg{P h}:∀ns vs,WellAll P h vs (ns.map WData.int)->IntsAre vs ns:=by
 intro ns
 induction ns with
 | nil=>
  intro vs w;cases w;exact .nil
 | cons n ns ih=>
  intro vs w;cases w with
  |cons a b=>
   cases a;exact .cons _ _ (ih _ b)
theorem script_of{l:OpenLaw}{n}(hn:l.most=some n){P h args}{ci}
  (lc:l.row.toRowW.claim.pre args=true) (qf:WellAll P h ci args):
  ∃a vs ns,ci=[Value.ref a]/\args=[WData.list (ns.map WData.int)]/\h.get? a=some {cls:=.type "list",data:=.seq vs.toArray}/\IntsAre vs ns/\ns.length<=n:=by
 have hsh:WShape.hasAll [] args [.list .int]=true:=(pre_splitW lc).1;have hc:l.pre.holds [] {args:=args}=true:=(pre_splitW lc).2;obtain⟨d,r,rfl,h1,h2⟩:=hasAllW_cons hsh;obtain rfl:=hasAllW_nil h2;obtain⟨xs,rfl,h3⟩:=hasW_list h1;obtain⟨ns,rfl⟩:=items_int h3;have ae:ns.length<=n:=by
  unfold OpenLaw.pre at hc;have h4:(WTm.not (.lt (.lit (.int n)) (.len (.arg 0)))).holds [] {args:=[.list (ns.map .int)]}=true:=by
   have h4:=(holds_andW hc).1;rw[hn]at h4;exact h4
  have h5:=condW_of h4 (w_not (w_lt w_lit (w_len_list (w_arg rfl))))
  grind
 cases qf with
 |cons w1 w2=>
  cases w2;cases w1 with|list ho en=>exact⟨_,_,ns,rfl,rfl,ho,kjg ns _ en,ae⟩
theorem post_true(l:OpenLaw) args:l.row.toRowW.claim.post args (.bool true) args=true:=
 postW_of
  (show WShape.has [] _ .bool=true by first|rfl|decide|simp[WShape.armsAll])
  (w_eq_bool (w_res rfl) w_lit) rfl
end Att
namespace L2
open PySem PySem.Spec PyProof.Rows
def wzj(H:Hp):Prop:=∀b,H b=none\/∃o xs,H b=some (.frz o (.lst xs))
def Q7(s:Stmt):Arguments:=match s with
 |.FunctionDef _ a _ _ _ _ _ _ _ _=>a|_=>{posonlyargs:=[],args:=[],vararg:=none,kwonlyargs:=[],kw_defaults:=[],kwarg:=none,defaults:=[]}
def K8(s:Stmt):List Stmt:=match s with
 |.FunctionDef _ _ b _ _ _ _ _ _ _=>b|_=>[]
def k5(s:Stmt):Scope:=match s with
 |.FunctionDef _ _ _ _ _ _ sc _ _ _=>sc|_=>{kind:=.function,names:=[],isGenerator:=false,isCoroutine:=false}
structure Fun (K:Frag)(x qual:Str)(st:Stmt)(f:Addr)(fd:FuncData):Prop where
 ex:∃(oc:Value) (od:Option Addr) (kV gj pm:Value) (an:Option Addr) (bd ct:Value) (lv:Array (Option Value)),
  fd=PySem.W.fnOf x qual (Q7 st) (K8 st) (k5 st) .none kV gj pm an bd ct/\K.lookup f=some ⟨oc,od,.func fd,lv⟩/\PySem.W.codeIn K bd qual=true
 kp:PySem.W.keepIn K (.ref f)=true
section
variable {P:Program}{w:World}{K:Frag}{mg:Str->Option Value}{base:Heap}
theorem Fun.binds{x qual st f fd ps}(F:Fun K x qual st f fd)
  (h:∀kV gj pm an (bd ct) us,us.length=ps.length->bindArgs (PySem.W.fnOf x qual (Q7 st) (K8 st) (k5 st) .none kV gj pm an bd ct) ⟨us,[]⟩=pure (ps.zip us)):Binds K fd ps []:=by
 obtain⟨oc,od,kV,gj,pm,an,bd,ct,lv,rfl,lk,gr⟩:=F.ex;exact .all (h kV gj pm an bd ct)
theorem qx4{x qual st f oc od an lv kV gj pm bd ct}(l:K.lookup f=some ⟨oc,od,.func (PySem.W.fnOf x qual (Q7 st) (K8 st) (k5 st) .none kV gj pm an bd ct),lv⟩)
  (c:PySem.W.codeIn K bd qual=true) (k:PySem.W.keepIn K (.ref f)=true):Fun K x qual st f (PySem.W.fnOf x qual (Q7 st) (K8 st) (k5 st) .none kV gj pm an bd ct):=⟨⟨oc,od,kV,gj,pm,an,bd,ct,lv,rfl,l,c⟩,k⟩
end
section
variable {X:Cx}
theorem pv(i:Nat){x:Str}{pos:Pos}(hN:autoParam (X.N[i]?=some x) Ŕ)(hv:autoParam (Vis X.env.scope x) ř)(hd:autoParam ((x==("__debug__":Str))=false) ŕ)
  (gr:autoParam ((x==("__classdict__":Str))=false) ŕ):PE X (.Name x pos) (xj i):=wk3 hN hv hd gr
end
def jJ(H H':Hp):Prop:=∀b o,H b=some o->H' b=some o
section
variable {κ:Type}[DecidableEq κ]
def xX(a9:List (κ×V))(k:κ):Option V:=(a9.find? λkv=>decide (kv.1=k)).map (·.2)
def z7(a9:List (κ×V))(k:κ)(v:V):List (κ×V):=
 if(a9.any λkv=>decide (kv.1=k))=true then a9.map (λkv=>if kv.1=k then(kv.1,v)else kv)else a9++[(k,v)]
theorem kks{p r}{k:κ}(e:p.1=k):xX (p::r) k=some p.2:=by simp[xX,e]
theorem kkt{p r}{k:κ}(e:¬p.1=k):xX (p::r) k=xX r k:=by simp[xX,e]
theorem kze(k):∀a9:List (κ×V),(a9.any λkv=>decide (kv.1=k))=(xX a9 k).isSome
 |[]=>rfl
 |p::r=>by
  rw[List.any_cons]
  by_cases e:p.1=k
  ·simp only[kks e,Xf e,Bool.true_or,Option.isSome_some]
  ·rw[kkt e,Xh e];exact kze k r
theorem kje a9 (k:κ) v:(z7 a9 k v).length<=a9.length+1:=by
 unfold z7
 split
 ·rw[X2];lia
 ·simp_all
theorem RelO.isSome_eq{o u}(r:RelO o u):o.isSome=u.isSome:=by
 cases o with
 |none=>cases u with|none=>rfl|some _=>exact(r).elim
 |some _=>cases u with|none=>exact(r).elim|some _=>rfl
theorem KV.val{a9 vs}(r:KV a9 vs)(k:κ):RelO (xX a9 k) (valueAt vs k):=by
 induction r with
 | nil=>exact Zi
 | @cons p q ps qs h t ih=>
  obtain⟨h1,h2⟩:=h
  by_cases e:p.1=k
  ·have e':q.1=k:=h1.symm.trans e;have b:valueAt (q::qs) k=some q.2:=by simp[valueAt,e']
   rw[kks e,b];exact h2
  ·have e':¬q.1=k:=λz=>e (h1.trans z)
   have b:valueAt (q::qs) k=valueAt qs k:=by simp[valueAt,e']
   rw[kkt e,b];exact ih
theorem KV.any{a9 vs}(r:KV a9 vs)(k:κ):(a9.any λkv=>decide (kv.1=k))=vs.any λkv=>decide (kv.1=k):=by
 induction r with|nil=>rfl|cons h t ih=>simp_all
theorem KV.repl{a9 vs}(r:KV a9 vs)(k:κ){y u}(ry:RelV y u):
  KV (a9.map λkv=>if kv.1=k then(kv.1,y)else kv) (vs.map λkv=>if kv.1=k then(kv.1,u)else kv):=by
 induction r with
 |nil=>exact .nil
 |@cons p q ps qs h t ih=>
  rw[List.map_cons,List.map_cons];refine .cons ?_ ih;obtain⟨h1,h2⟩:=h
  by_cases e:p.1=k
  ·rw[X6 e,X6 (h1.symm.trans e)];exact⟨h1,ry⟩
  ·rw[Xa e,Xa (λz=>e (h1.trans z))];exact⟨h1,h2⟩
theorem KV.put{a9 vs}(r:KV a9 vs)(k:κ){y u}(ry:RelV y u):KV (z7 a9 k y) (stored vs k u):=by
 unfold z7 stored;rw[r.any k]
 by_cases e:(vs.any λkv=>decide (kv.1=k))=true
 ·rw[X6 e,X6 e];exact r.repl k ry
 ·rw[Xa e,Xa e];exact Paired.snoc r ⟨rfl,ry⟩
theorem KV.length{a9}{vs:List (κ×Value)}(r:KV a9 vs):a9.length=vs.length:=Paired.length r
end
theorem vji{P w k u}(r:RelV (kV k) u):(x8 P w).is k u=true:=by
 cases k with|inl i=>obtain⟨t,e⟩:=(r);subst e;exact kxk P w i t|inr x=>obtain⟨t,e⟩:=(r);subst e;exact kxj P w x t
theorem kw1{P w}:∀{ks us},Vals (ks.map kV) us->ItemsAre (x8 P w) ks us
 |[],_,r=>by cases r;exact .nil
 |k::ks,_,r=>by
  cases r with|cons h t=>exact .cons (vji h) (kw1 t)
abbrev KT(H:Hp):List (List Key×V)->List (List Key×Addr×Value)->Prop:=Paired λp q=>p.1=q.1/\H q.2.1=some (.tup (p.1.map kV))/\RelV p.2 q.2.2
theorem KT.val{H a9 xs}(r:KT H a9 xs) k:RelO (xX a9 k) ((atKey xs k).map (·.2)):=by
 induction r with
 | nil=>exact Zi
 | @cons p q ps qs h t ih=>
  obtain⟨h1,_,h2⟩:=h
  by_cases e:p.1=k
  ·have e':q.1=k:=h1.symm.trans e;have b:atKey (q::qs) k=some q.2:=by simp[atKey,e']
   rw[kks e,b];exact h2
  ·have e':¬q.1=k:=λz=>e (h1.trans z)
   have b:atKey (q::qs) k=atKey qs k:=by simp[atKey,e']
   rw[kkt e,b];exact ih
theorem KT.repl{H a9 xs}(r:KT H a9 xs)(k){y u}(ry:RelV y u):
  KT H (a9.map λkv=>if kv.1=k then(kv.1,y)else kv) (xs.map (putAt k u)):=by
 induction r with
 |nil=>exact .nil
 |@cons p q ps qs h t ih=>
  rw[List.map_cons];refine .cons ?_ ih;obtain⟨h1,h2,h3⟩:=h;unfold putAt
  by_cases e:p.1=k
  ·rw[X6 e,X6 (h1.symm.trans e)];exact⟨h1,h2,ry⟩
  ·rw[Xa e,Xa (λz=>e (h1.trans z))];exact⟨h1,h2,h3⟩
theorem KT.put{H a9 xs}(r:KT H a9 xs)(k){b y u}(hb:H b=some (.tup (k.map kV)))(ry:RelV y u):
  KT H (z7 a9 k y) (storedH xs k b u):=by
 have e:(a9.any λkv=>decide (kv.1=k))=(atKey xs k).isSome:=by
  rw[kze,(r.val k).isSome_eq,Option.isSome_map]
 unfold z7 storedH;rw[e]
 by_cases q:(atKey xs k).isSome=true
 ·rw[X6 q,X6 q];exact r.repl k ry
 ·rw[Xa q,Xa q];exact Paired.snoc r ⟨rfl,hb,ry⟩
theorem KT.keeps{H H' a9 xs}(r:KT H a9 xs)(ht:∀b ys,H b=some (.tup ys)->H' b=some (.tup ys)):KT H' a9 xs:=
 Paired.mapP r λ_ _ z=>⟨z.1,ht _ _ z.2.1,z.2.2⟩
section
variable {P:Program}{w:World}{H:Hp}{h:Heap}{a:Addr}
theorem vzz{u}(ok:HOk P w H h)(e:Rd H a u):ObjOk P w H h a u:=e.ok ok
theorem Zj{a9}(ok:HOk P w H h)(e:Rd H a (.dK a9)):a9.length<=sizeLine/\(a==sysModules)=false/\∃vs,KV a9 vs/\h.DictOf (x8 P w) a vs:=
 show ObjOk P w H h a _ from vzz ok e
theorem wqw{a9}(ok:HOk P w H h)(e:H a=some (.dK a9)):a9.length<=sizeLine/\(a==sysModules)=false/\∃vs,KV a9 vs/\h.DictOf (x8 P w) a vs:=Zj ok (.inl e)
theorem qjj{ks}(ok:HOk P w H h)(e:H a=some (.tup (ks.map kV))):(tupleKind (x8 P w)).is h ks a:=by
 obtain⟨_,a8,r,o,h1,h2,_,n,h3⟩:=(ok a _ e);exact⟨o,a8.toArray,n,h1,h2,h3,by simpa using kw1 r⟩
theorem vjx{a9}(ok:HOk P w H h)(e:Rd H a (.dT a9)):a9.length<=sizeLine/\(a==sysModules)=false /\
  ∃ xs,KT H a9 xs/\h.DictOfH (tupleKind (x8 P w)) a xs:=by
 obtain⟨z,y,xs,r,o,es,ep,h1,h2,h3,h4,h5⟩:=(vzz ok e);refine⟨z,y,xs,r,o,es,ep,h1,h2,h3,h4,λx hx=>?_,h5⟩;have all:∀{l m},KT H l m->∀x∈m,(tupleKind (x8 P w)).is h x.1 x.2.1:=by
  intro l m q
  induction q with
  | nil=>simp_all
  | @cons p q ps qs hq t ih=>
   intro x hx;rcases aD hx with e|hx
   ·subst e;exact qjj ok (by simp_all)
   ·exact ih x hx
 exact all r x hx
theorem wz6{a9}(ok:HOk P w H h)(e:H a=some (.dT a9)):a9.length<=sizeLine/\(a==sysModules)=false /\
  ∃xs,KT H a9 xs/\h.DictOfH (tupleKind (x8 P w)) a xs:=vjx ok (.inl e)
end
def DGet(H:Hp)(a:Addr)(y:V)(r:Option V):Prop:=
 (∃a9 k,Rd H a (.dK a9)/\y=kV k/\r=xX a9 k)\/∃a9 k b,Rd H a (.dT a9)/\y=.ref b/\H b=some (.tup (k.map kV))/\r=xX a9 k
def DPut(H:Hp)(a:Addr)(y v:V)(H':Hp):Prop:=
 (∃a9 k,H a=some (.dK a9)/\y=kV k/\a9.length<sizeLine/\H'=upd H a (.dK (z7 a9 k v))) \/
 ∃a9 k b,H a=some (.dT a9)/\y=.ref b/\H b=some (.tup (k.map kV))/\a9.length<sizeLine/\H'=upd H a (.dT (z7 a9 k v))
theorem DGet.k{H a a9 k}(e:H a=some (.dK a9)):DGet H a (kV k) (xX a9 k):=.inl ⟨a9,k,.inl e,rfl,rfl⟩
theorem DPut.k{H a a9 k v}(e:H a=some (.dK a9))(hl:a9.length<sizeLine):DPut H a (kV k) v (upd H a (.dK (z7 a9 k v))):=.inl ⟨a9,k,e,rfl,hl,rfl⟩
section
variable {X:Cx}{a7:LA9}{σ:St}{H:Hp}{s:Shared}{a:Addr}{y v:V}{u r:Value}{o:Option V}{A:Around}{E:VP9}
theorem Inv.big(I:Inv X a7 σ H s):sysModules<s.heap.objs.size:=by
 exact Nat.lt_trans ⋯ ((I.mod.glob.keeps I.bk).lt)
theorem qxk{Q}(hu:A.units+1<cLine)(I:Inv X a7 σ H s)(g:DGet H a y (some v))(ry:RelV y u)(h:∀w' s',Inv X a7 σ H s'->RelV v w'->Q w' s'):
  wpAny (model X.prog X.w) A (getItem (.ref a) u) Q E s:=by
 rcases g with⟨a9,k,e,ey,l⟩|⟨a9,k,b,e,ey,eb,l⟩
 ·subst ey;obtain⟨z,hd,vs,fj,dd⟩:=Zj I.hok e;obtain⟨w',hw,jp⟩:=RelO.some_of (l▸fj.val k);exact wpAny_getItem_of (vji ry) dd.mapOf hw (h w' _ (I.tok _) jp)
 ·subst ey;cases(ry);obtain⟨z,hd,xs,fj,dd⟩:=vjx I.hok e;obtain⟨w',hw,jp⟩:=RelO.some_of (l▸fj.val k);obtain⟨p,hp,kg⟩:=Option.map_eq_some_iff.mp hw;refine wpAny_getItem_heap (tupleKind_room_in1 hu) (qjj I.hok eb) dd hp ?_;rw[kg];exact h w' _ (I.tok _) jp
theorem vxa{Q}(hu:A.units+1<cLine)(I:Inv X a7 σ H s)(g:DGet H a y o)(ry:RelV y u)(h:∀s',Inv X a7 σ H s'->Q (.bool (!o.isSome)) s'):
  wpAny (model X.prog X.w) A (compareOp .NotIn u (.ref a)) Q E s:=by
 rcases g with⟨a9,k,e,ey,l⟩|⟨a9,k,b,e,ey,eb,l⟩
 ·subst ey;obtain⟨z,hd,vs,fj,dd⟩:=Zj I.hok e;refine wpAny_notIn_of (vji ry) hd dd.mapOf ?_;rw[<-(fj.val k).isSome_eq,<-l];exact h _ (I.tok _)
 ·subst ey;cases(ry);obtain⟨z,hd,xs,fj,dd⟩:=vjx I.hok e;refine wpAny_notIn_heap (tupleKind_room_in1 hu) (qjj I.hok eb) hd dd ?_;have q:=(fj.val k).isSome_eq;rw[Option.isSome_map]at q;rw[<-q,<-l];exact h _ (I.tok _)
theorem qxi{h' t' ob}(I:Inv X a7 σ H s)(mu:Mut (H a))(hs:Heap.SameBut a s.heap h')(he:∃q,h'.get? a=some q)(new:ObjOk X.prog X.w (upd H a ob) h' a ob):
  Inv X a7 σ (upd H a ob) {s with heap:=h',toks:=t' }:=
 I.write mu (.inl rfl) (λb q hb z=>(hs.2 b hb).trans z) he new
theorem wqx{P w H' h' a9 vs}(z:a9.length<=sizeLine)(hd:(a==sysModules)=false)(fj:KV a9 vs)(dd:h'.DictOf (x8 P w) a vs):
  ObjOk P w H' h' a (.dK a9):=⟨z,hd,vs,fj,dd⟩
theorem qxj{H' Q}(hu:A.units+1<cLine)(I:Inv X a7 σ H s)(g:DPut H a y v H')(ry:RelV y u)(rv:RelV v r)(h:∀s',Inv X a7 σ H' s'->Q () s'):
  wpAny (model X.prog X.w) A (setItem (.ref a) u r) Q E s:=by
 rcases g with⟨a9,k,e,ey,l,eH⟩|⟨a9,k,b,e,ey,eb,l,eH⟩
 ·subst ey eH;obtain⟨z,hd,vs,fj,dd⟩:=wqw I.hok e;have hz:vs.length<=sizeLine:=by rw[<-fj.length];exact z
  have hl:(z7 a9 k v).length<=sizeLine:=by have:=kje a9 k v;lia
  refine wpAny_setItem_pairs (vji ry) dd λh' dd' hs=>h _ ?_
  have he:∃q,h'.get? a=some q:=let ⟨q,_,_,hq,_⟩:=dd';⟨q,hq⟩
  exact qxi I (e▸Zi) hs he (wqx hl hd (fj.put k rv) dd')
 ·subst ey eH;cases(ry);obtain⟨z,hd,xs,fj,dd⟩:=wz6 I.hok e;have hz:xs.length<=sizeLine:=by rw[<-Paired.length fj];exact z
  have hl:(z7 a9 k v).length<=sizeLine:=by have:=kje a9 k v;lia
  refine wpAny_setItem_heap (tupleKind_room_in1 hu) (qjj I.hok eb) dd λh' dd' hs=>h _ ?_
  obtain⟨q,es,ep,hq,h2,h3,h4,_,h5⟩:=dd';refine qxi I (e▸Zi) hs ⟨q,hq⟩ ⟨hl,hd,_,(fj.put k eb rv).keeps λc ys ec=>?_,q,es,ep,hq,h2,h3,h4,h5⟩
  rwa [kq (wxl ec e (λz=>nomatch z))]
end
section
variable {X:Cx}{a7:LA9}{σ:St}{H:Hp}{s:Shared}{a:Addr}{a9:List (Key×V)}{k:Key}{u:Value}{A:Around}{E:VP9}
theorem wza{Q}(I:Inv X a7 σ H s)(e:Rd H a (.dK a9))(h:∀t s',Inv X a7 σ H s'->Q (.int a9.length t) s'):wpAny (model X.prog X.w) A (call (.builtin "len") [.ref a]) Q E s:=by
 obtain⟨z,hd,vs,fj,dd⟩:=Zj I.hok e;refine call_len_dict hd dd (by rw[<-fj.length];rw[Yp]at z;lia) ?_;rw[<-fj.length];exact h _ _ (I.tok _)
end
def wvm(i:Expr):Prop:=∀ov iv,subscripted i false ov iv=operate [ov,iv] (getItem ov iv)
theorem qqp{prog w A E s env bg slice pos T id}{Q}
  (hl:typeLookup (.type T) "__getitem__"=pure (some (.builtin id))) (hs:wvm slice)
  (h:wpAny (model prog w) A (eval bg env) (λo s₁=>wpAny (model prog w) A (eval slice env) (λi s₂=>s₂.TypeIs o T/\wpAny (model prog w) A (getItem o i) Q E s₂) E s₁) E s):
  wpAny (model prog w) A (eval (.Subscript bg slice pos) env) Q E s:=by
 refine Subscript_ (wpAny_mono h (λo s₁ h₁=>wpAny_mono h₁ (λi s₂ h₂=>?_) λ_ _ x=>x) λ_ _ x=>x);obtain⟨hT,h₂⟩:=h₂;refine X0 ?_;rw[getitemInPython_of_ne hT.not_modules];refine X0 (Z5 hT hl ?_);have fin:wpAny (model prog w) A (subscripted slice false o i) (λr s₃=>wpAny (model prog w) A (letTemporaryGo bg o r >>= λ_=>pure r) Q E s₃) E s₂:=by
  rw[hs o i];exact wpAny_operating (wpAny_mono h₂ (λr s₃ h₃=>X0 (wpAny_letTemporaryGo (X3 h₃))) λ_ _ x=>x)
 first
  |exact X3 (X0 fin)
theorem kz1{X a7}{σ:St}{H s a y o}(I:Inv X a7 σ H s)(g:DGet H a y o):s.TypeIs (.ref a) "dict":=by
 rcases g with⟨a9,k,e,_,_⟩|⟨a9,k,b,e,_,_,_⟩
 ·obtain⟨_,_,vs,_,dd⟩:=Zj I.hok e;exact dd.typeIs
 ·obtain⟨_,_,xs,_,dd⟩:=vjx I.hok e;exact dd.typeIs
abbrev wwf(td ty:TE):TE:=fun σ H Q=>td σ H λx H1=>ty σ H1 λy H2=>∃a v,x=.ref a/\DGet H2 a y (some v)/\Q v H2
abbrev wwm(td ty tv:TE):TS:=λD σ H=>tv σ H λv H1=>td σ H1 λx H2=>ty σ H2 λy H3=>∃a H4,x=.ref a/\DPut H3 a y v H4/\D.nx σ H4
section
variable {X:Cx}{o i e bg:Expr}{pos bm ia:Pos}{td ty tv:TE}
theorem vvs(hu:X.A.units+1<cLine)(ho:PE X o td)(hi:PE X i ty)(hs:wvm i):PE X (.Subscript o i pos) (wwf td ty):=by
 intro a7 s σ H Q I h;refine qqp PySem.F.slot_dict_getitem.lookup hs (thn (ho a7 s σ H _ I h) λu s1 ⟨x,H1,I1,rx,q1⟩=>thn (hi a7 s1 σ H1 _ I1 q1) λiv s2 ⟨y,H2,I2,ry,a,v,ex,g,q2⟩=>?_);subst ex;obtain rfl:u=Value.ref a:=rx;exact⟨kz1 I2 g,qxk hu I2 g ry λw' s3 I3 jp=>⟨v,H2,I3,jp,q2⟩⟩
theorem vvn(hu:X.A.units+1<cLine)(ho:PE X o td)(hi:PE X i ty)(hv:PE X bg tv)(hs:swapsWith bg (some (.Subscript o i bm)) pos.line X.env=pure false):
  PS X (.Assign [.Subscript o i bm] bg pos) (wwm td ty tv):=by
 intro a7 s σ H D I h;refine wpAny_Assign_Subscript (thn (hv a7 s σ H _ I h) λr s1 ⟨v,H1,I1,rv,q1⟩=>thn (ho a7 s1 σ H1 _ I1 q1) λu s2 ⟨x,H2,I2,rx,q2⟩=>thn (hi a7 s2 σ H2 _ I2 q2) λiv s3 ⟨y,H3,I3,ry,a,H4,ex,g,q3⟩=>?_) hs;subst ex;obtain rfl:u=Value.ref a:=rx;exact qxj hu I3 g ry rv λs4 I4=>⟨σ,H4,I4,q3⟩
end
theorem vjy{P w H}(h:Heap)(hb:sysModules<h.objs.size):ObjOk P w H (h.push {cls:=.type "dict",data:=.dict #[]}) h.objs.size (.dK []):=
 ⟨Y8 _,beq_eq_false_iff_ne.mpr (Ne.symm (Xj hb)),[],.nil,Heap.DictOf.new h⟩
abbrev vzk:TE:=λ_ H Q=>∀p,H p=none->Q (.ref p) (upd H p (.dK []))
section
variable {X:Cx}{pos:Pos}
theorem vj3:PE X (.Dict [] [] pos) vzk:=λa7 s σ H Q I h=>
 wpAny_Dict_empty ⟨.ref s.heap.objs.size,_,I.laid (t':=s.toks) (λ_ _ q=>X1 _ q) (X8 _) (vjy s.heap I.big),rfl,h _ (I.hok.fresh (X8 _))⟩
end
section
variable {X:Cx}
theorem qxr:CallR X (.builtin "len") (λxs H Q=>∃a a9,xs=[V.ref a]/\H a=some (.dK a9)/\Q (.int a9.length) H):=by
 rintro a7 s σ H xs us Q I r ⟨a,a9,rfl,ha,q⟩;obtain⟨u,rfl,ru⟩:=xK r;cases ru;exact wza I (.inl ha) λt s' I'=>⟨.int a9.length,H,I',⟨t,rfl⟩,q⟩
end
end L2
set_option maxHeartbeats 4000000
namespace L3
open PySem PySem.Spec PyProof.Rows L2
abbrev qwm(dk:List Expr)(env:Env):Sem Bool:=
 forIn dk true λc r=>if r=true then do let ok <-isTrue c env (eval c env);pure (ForInStep.yield ok)else pure (ForInStep.yield r)
theorem jvs (env): ∀(l : List (Str × NameKind)) (cs),(∀y ∈ l,y.2 = .free -> ∃c,env.cells.lookup y.1 = some c) ->
    (∀x c,cs.lookup x = some c -> env.cells.lookup x = some c) ->
    ∃ cl,(forIn l cs (λx r=>if(x.2==NameKind.free) = true then do let a <-cellOf env x.1; pure (ForInStep.yield ((x.1,a)::r))else pure (ForInStep.yield r)): Sem (List (Str × Addr))) = pure cl /\
      (∀x c,cl.lookup x = some c -> env.cells.lookup x = some c) /\ (∀x c,cs.lookup x = some c -> ∃c',cl.lookup x = some c') /\ ∀y ∈ l,y.2 = .free -> ∃c,cl.lookup y.1 = some c
  | [],cs,_,hs=>⟨cs,rfl,hs,λx c h=>⟨c,h⟩,λ_ h=>nomatch h⟩
  | (n,k)::r,cs,hl,hs=>by
    by_cases hk : k = .free
    · subst hk
      obtain⟨c,hc⟩:= hl _ X4 rfl;have jb : ∀x d,((n,c)::cs).lookup x = some d -> env.cells.lookup x = some d:= λx d h=>by
        rw[List.lookup_cons]at h;cases hx : x==n with| true=>simp_all| false=>rw[hx]at h; exact hs x d h
      obtain⟨cl,e,a,b,d⟩:= jvs env r _ (λy hy=>hl y (lc9 _ hy)) jb;refine⟨cl,?_,a,λx c' h=> ?_,λy hy hf=> ?_⟩
      · rw[List.forIn_cons]
        have q : cellOf env n = pure c:= by unfold cellOf; rw[hc]
        simp only[q];exact e
      · cases hx : x==n with| true=>exact b x c (by rw[List.lookup_cons,hx])| false=>exact b x c' (by rw[List.lookup_cons,hx]; exact h)
      · rcases aD hy with z|z
        · simp_all
        · exact d y z hf
    · obtain⟨cl,e,a,b,d⟩:= jvs env r cs (λy hy=>hl y (lc9 _ hy)) hs
      refine⟨cl,?_,a,b,λy hy hf=> ?_⟩
      · rw[List.forIn_cons]
        have q : (k==NameKind.free) = false:= by simpa using hk
        simp only[q];exact e
      · rcases aD hy with z|z
        · subst z
          exact absurd hf hk
        · exact d y z hf
theorem kkk{scope env}(h:∀y∈scope.names,y.2=.free->∃c,env.cells.lookup y.1=some c):
  ∃cl,closureFor scope env=pure cl/\(∀x c,cl.lookup x=some c->env.cells.lookup x=some c)/\∀y∈scope.names,y.2=.free->∃c,cl.lookup y.1=some c:=by
 obtain⟨cl,e,a,_,d⟩:=jvs env scope.names [] h (λx c h=>nomatch h);refine⟨cl,?_,a,d⟩;unfold closureFor
 grind
def lcX(X:Cx)(scope:Scope)(N:List Str)(cl:List (Str×Addr))(C:Addr)(s0:Shared)(H0:Hp)(fp:List Addr):Cx:=
 {X with N:=N,s₀:=s0,H₀:=H0,env:=compEnvC scope cl C X.env,outer:=X.stack,ex:=fp,fn:=λ_=>false,pn:=[],xe:=λ_ _=>False}
def Jq(k:Nat)(R:List Nat)(σ:L2.St):L2.St:=List.replicate k none++R.map λj=>(σ[j]?).join
structure LcOk (X:Cx)(scope:Scope)(N:List Str)(k:Nat)(R:List Nat):Prop where
 kind:scope.kind=.function
 nocell:∀y∈scope.names,y.2≠.cell
 names:∀y∈scope.names,y.2=.local->scope.names.lookup y.1=some .local
 caps:∀y∈scope.names,y.2=.free->X.env.kindOf y.1=some .cell\/X.env.kindOf y.1=some .free
 len:N.length=k+R.length
 outs:∀i j x,R[i]?=some j->N[k+i]?=some x->X.N[j]?=some x/\scope.names.lookup x=some .free
noncomputable def Qk(XN:List Str)(sc scope:Scope)(N:List Str)(k:Nat)(R:List Nat):Bool:=
 scope.names.all (λy=>y.2 != .cell)&&scope.names.all (λy=>y.2 != .local||scope.names.lookup y.1==some .local) &&
 scope.names.all (λy=>y.2 != .free||(sc.names.lookup y.1==some .cell||sc.names.lookup y.1==some .free)) &&
 (N.length==k+R.length)&&(R.zip (N.drop k)).all (λp=>XN[p.1]? == some p.2&&scope.names.lookup p.2==some .free)
theorem qjh{X scope N k R}(hk:scope.kind=.function)(h:Qk X.N X.env.scope scope N k R=true):LcOk X scope N k R:=by
 unfold Qk at h;simp only[Bool.and_eq_true,Xy,bne_iff_ne,Bool.or_eq_true,beq_iff_eq]at h;obtain⟨⟨⟨⟨h1,h2⟩,h3⟩,h4⟩,h5⟩:=h;refine⟨hk,λy hy=>h1 y hy,λy hy e=>(h2 y hy).resolve_left (λz=>z e),λy hy e=>(h3 y hy).resolve_left (λz=>z e),h4,λi j x e1 e2=>?_⟩;have m:(j,x)∈R.zip (N.drop k):=by
  refine Xs (i:=i) ?_;rw[List.getElem?_zip_eq_some]
  simp_all
 exact h5 _ m
theorem YQ {env : Env} {x q}: ∀{names : List (Str × NameKind)},(names.map λ(n,k)=>if(k==NameKind.free&&env.scope.kind == .function&&env.kindOf n==some .cell)then(n,NameKind.cell)else(n,k)).lookup x = some q ->
    (x,q) ∈ names \/ (q = .cell /\ (x,NameKind.free) ∈ names)
  | [],h=>nomatch h
  | (n,k)::r,h=>by
    have h : List.lookup x ((if _ = true then _ else _)::_) = some q:= h
    by_cases hc : (k==NameKind.free&&env.scope.kind == .function&&env.kindOf n==some .cell) = true
    · rw[X6 hc,List.lookup_cons]at h
      cases hx : x==n with
      | true=>simp_all
      | false=>
        rw[hx]at h;rcases YQ h with z|⟨z,y⟩
        · exact .inl (lc9 _ z)
        · exact .inr ⟨z,lc9 _ y⟩
    · rw[Xa hc,List.lookup_cons]at h
      cases hx : x==n with
      | true=>simp_all
      | false=>
        rw[hx]at h;rcases YQ h with z|⟨z,y⟩
        · exact .inl (lc9 _ z)
        · exact .inr ⟨z,lc9 _ y⟩
section
variable {X:Cx}{a7:LA9}{σ:L2.St}{H:Hp}{s:Shared}
theorem wkw{scope N k R cl C}(sc:LcOk X scope N k R)(bo:∀y∈scope.names,y.2=.free->∃c,cl.lookup y.1=some c)
  {x} (h:(compEnvC scope cl C X.env).kindOf x=some .cell\/(compEnvC scope cl C X.env).kindOf x=some .free):∃c,cl.lookup x=some c:=by
 rcases h with h|h
 ·rcases YQ h with z|⟨_,z⟩
  ·exact absurd rfl (sc.nocell _ z)
  ·exact bo _ z rfl
 ·rcases YQ h with z|⟨z,_⟩
  ·exact bo _ z rfl
  ·cases z
theorem wkx{scope N k R cl}{C:Addr}{fp}(I:Inv X a7 σ H s)(sc:LcOk X scope N k R)(hf:∀b∈fp,vj X a7 H b)(ho:∀b∈fp,∃o,s.heap.get? b=some o)
  (hC:s.heap.objs.size<=C) (cz:∀x c,cl.lookup x=some c->X.env.cells.lookup x=some c) (bo:∀y∈scope.names,y.2=.free->∃c,cl.lookup y.1=some c):(lcX X scope N cl C s H fp).Ok where
 mod:=I.ok.mod
 kind:=sc.kind
 glob:=I.ok.glob
 blt:=I.ok.blt
 above:=hC
 inj:=λx y c h1 h2=>I.ok.inj x y c (cz _ _ h1) (cz _ _ h2)
 has:=λx h=>wkw sc bo h
 cab:=λx c h=>by cases h
 hd:=I.ok.hd
 frames:=I.ok.frames
 stk:=.inl rfl
 exf:=λb hb=>by
  obtain⟨o,e⟩:=ho b hb;exact⟨Xj (Xm (Xd e) hC),λx c h=>(hf b hb).2.2.2.2.1 x c (cz x c h)⟩
 bs:=λb o e=>I.bs b o e
 bsz:=Yl I.ok.bsz I.sz
 noex:=λb o e hb=>by
  rcases(hf b hb).2.2.2.1 with z|z
  ·exact I.ok.noex b o e z
  ·exact absurd (Xm (Xd e) (Yl I.ok.bsz z)) (Yu _)
 exfs:=λb hb hs=>by
  rcases aD (I.stkSub b hs)with z|z
  ·exact(hf b hb).2.1 z
  ·exact(hf b hb).2.2.1 z
 funs:=I.stack
 frf:=I.stkFree
theorem vzq(I:Inv X a7 σ H s){a:Addr}(h:s.heap.objs.size<=a):a∉frs X.stack:=λz=>by
 rcases aD (I.stkSub a z)with e|e
 ·subst e;exact absurd (Xm I.lt h) (Yu _)
 ·exact I.nofs h e
theorem vwi {scope N k R cl} {C D:Addr} {fp h1 t m oD} (I:Inv X a7 σ H s) (sc:LcOk X scope N k R)
  (hf:∀ b∈fp,vj X a7 H b) (ho:∀b∈fp,∃o,s.heap.get? b=some o)
  (hC:s.heap.objs.size<=C) (hD:s.heap.objs.size<=D) (oh:D≠C) (cz:∀x c,cl.lookup x=some c->X.env.cells.lookup x=some c) (bo:∀y∈scope.names,y.2=.free->∃c,cl.lookup y.1=some c)
  (cy:∀ b o,s.heap.get? b=some o->h1.get? b=some o) (hn:h1.Ns C m) (eD:h1.get? D=some oD) (dD:∀v,oD.data≠.cell v):
  Inv (lcX X scope N cl C s H fp) [(D,oD)] (Jq k R σ) H {s with heap:=h1,toks:=t} where
 ok:=wkx I sc hf ho hC cz bo
 os:=rfl
 bare:=I.bare
 base:=Un.kept cy
 loc:=⟨m,hn,λi x v e1 e2 vis=>by
  obtain⟨mX,hnX,hl⟩:=I.loc;unfold Jq at e2
  by_cases hi:i<k
  ·rw [Yh (by simp_all),List.getElem?_replicate,X6 hi]at e2
   grind
  ·have hk:k<=i:=Nat.le_of_not_lt hi;rw [List.getElem?_append_right (Z9▸hk),Z9,Xn]at e2;cases er:R[i - k]? with
   | none=>simp_all
   | some j=>
    rw [er]at e2;have ej:(σ[j]?).join=some v:=by simpa using e2
    have ej':σ[j]?=some (some v):=by
     cases q:σ[j]? with| none=>rw[q]at ej;cases ej| some z=>simp_all
    obtain⟨o1,o2⟩:=sc.outs _ j x er (by rw[show k+(i - k)=i by lia];exact e1);have cap:=sc.caps (x,.free) (Yy o2) rfl;have visX:Vis X.env.scope x:=cap.elim (λz=>.inr (.inl z)) λz=>.inr (.inr z)
    obtain⟨u,ru,q⟩:=hl j x v o1 ej' visX;refine⟨u,ru,?_⟩;rcases q with⟨q,_⟩|⟨_,c,ec,hc⟩
    ·simp_all
    ·obtain⟨c',ec'⟩:=bo (x,.free) (Yy o2) rfl;have e:=oq9 ((cz x c' ec').symm.trans ec);subst e;refine .inr ⟨?_,c',ec',?_⟩
     ·rcases vis with z|z|z
      ·rcases YQ (env:=X.env) (names:=scope.names) z with y|⟨y,_⟩
       ·have y':=sc.names _ y rfl
        grind
       ·cases y
      ·exact .inl z
      ·exact .inr z
     ·obtain⟨o,h1,h2⟩:=hc;exact⟨o,cy _ _ h1,h2⟩⟩
 cell:=λx c h=>by
  obtain⟨v,o,h1,h2⟩:=I.cell x c (cz x c h);exact⟨v,o,cy _ _ h1,h2⟩
 free:=I.hok.fresh hC
 freeC:=λx c h=>I.freeC x c (cz x c h)
 pin:=λp hp=>by
  have e:p=(D,oD):=by
   have hp:p∈([]++[(D,oD)]:LA9):=hp
   simpa using hp
  subst e;exact⟨eD,I.hok.fresh hD,oh,vzq I hD,dD⟩
 hok:=I.hok.kept cy
 len:=by
  show(Jq k R σ).length=N.length;unfold Jq;rw[sc.len,Y6,Z9,X2]
theorem kjf{a o}(I:Inv X a7 σ H s)(hn:H a=none)(hL:a≠X.env.locals)(h1:a∈X.ex\/X.s₀.heap.objs.size<=a)(h2:∀x c,X.env.cells.lookup x=some c->c≠a)(h3:∀p∈X.pn++a7,p.1≠a)
  (new:ObjOk X.prog X.w (upd H a o) s.heap a o):Inv X a7 σ (upd H a o) s:=by
 have hok:HOk X.prog X.w (upd H a o) s.heap:=λb u e=>by
  by_cases hb:b=a
  ·subst hb;rw[wQ]at e;cases e;exact new
  ·rw[kq hb]at e;exact(I.hok b u e).stay (λ_ _ _ q=>q) (λc q=>by rw[kq (zV q hn)];exact q) λc xs q=>by rw[kq (zV q hn)];exact q
 have na:∀b,b∉[a]->b≠a:=λb hb z=>hb (z▸aB rfl)
 exact I.step (h':=s.heap) (H':=upd H a o) (g':=s.gens) (t':=s.toks) (d':=s.drawn)
  (λb hb=>by rw[aC hb];exact⟨h1,hL,h2,h3⟩) (λb o _ _ _ e _=>e) (λb o _ _ _ e _=>⟨o.slots,e⟩) (λb o hb _ q=>by rw[kq (na b hb)];exact q)
  (λb o _ e=>⟨o,e⟩) (λb xs q=>by rw[kq (zV q hn)];exact q) (λb o u q=>by rw[kq (zV q hn)];exact q) (λb ps q=>⟨#[],by rw[kq (zV q hn),q];simp⟩)
  (λm hm=>hm) hok I.bare
end
def PTs(X:Cx)(dk:List Expr)(t:TT):Prop:=
 ∀(a7:LA9) (s:Shared) (σ:L2.St) (H:Hp) (Q:Bool->Hp->Prop),Inv X a7 σ H s->t σ H Q->wpAny (model X.prog X.w) X.A (qwm dk X.env) (TP X a7 σ Q) X.xe s
abbrev tYes:TT:=λ_ H Q=>Q true H
theorem vvk{X}:PTs X [] tYes:=λ_ _ _ H _ I h=>wpAny_tests_nil ⟨H,I,h⟩
theorem vvj{X c t}(hc:PT X c t):PTs X [c] t:=λa7 s σ H Q I h=>wpAny_tests_one (hc a7 s σ H Q I h)
noncomputable def LcW(g:TG)(tt:TT)(te:TE)(Q:VK)(J:It)(W:Nat->Nat->List V->L2.St->Hp->Prop):Prop:=∀i m ys σ H,W i m ys σ H ->
 (J.stop i H/\ys.length<=sizeLine/\∀p,H p=none->Q (.ref p) (upd H p (.lst ys))) \/
 (J.go i H/\∀x H1,J.yld i H x H1->g x σ H1 fun σ2 H2=>∃(Ny:VK) (Nn:Hp->Prop),(∀y H4,Ny y H4->ys.length<=sizeLine/\∃m',m'<m/\W (i+1) m' (ys++[y]) σ2 H4) /\
  (∀H4,Nn H4->∃m',m'<m/\W (i+1) m' ys σ2 H4)/\tt σ2 H2 λb H3=>if b=true then te σ2 H3 Ny else Nn H3)
abbrev tLC(wi:TI)(g:TG)(tt:TT)(te:TE)(k:Nat)(R:List Nat):TE:=fun σ H Q=>wi σ H λJ H1=>
 ∃W:Nat->Nat->List V->L2.St->Hp->Prop,(∃m,W 0 m [] (Jq k R σ) H1)/\LcW g tt te Q J W
abbrev VX(a8:List Value)(n:Nat):Obj:={cls:=.type "list",data:=.seq a8.toArray n}
section
variable {X:Cx}
theorem op_mulI:OpR X (binaryOp .Mult) (rI IntMulOk λi j=>.int (i*j)):=opI λ_ _ _ _ _ _ _ hc q=>mul_int q hc
def wvn(_i j:Int):Prop:=0<j/\j.natAbs.log2<9000
theorem zX:OpR X (binaryOp .FloorDiv) (rI wvn λi j=>.int (i / j)):=opI λi j _ _ _ _ _ hc q=>by
 have h1:=hc.1;exact floordiv_int ⋯ (by rw[Int.fdiv_eq_ediv_of_nonneg i ⋯];exact q) (.inl (PyProof.noPylong_of_log2 hc.2))
def kinds:List String:=["NoneType","bool","int","str","list","tuple","dict"]
def ZX(T U:String):Bool:=T==U||(T == "bool" && U == "int")
theorem kxs{K T U}(hT:T∈kinds)(hU:U∈kinds.tail):kitOne K (.type T) (.type U)=some (ZX T U):=by
 simp only[kinds,List.tail_cons,Yc,Ys,or_false]at hT hU;rcases hT with rfl|rfl|rfl|rfl|rfl|rfl|rfl<;>rcases hU with rfl|rfl|rfl|rfl|rfl|rfl<;>ac_rfl
def wzv(K:Frag):List V->Hp->VK->Prop:=λxs H Q=>∃x T U,xs=[x,.ty U]/\TyOf K H x (.type T)/\T∈kinds/\U∈kinds.tail/\Q (.bl (ZX T U)) H
theorem vk4:CallR X (.builtin "isinstance") (wzv X.K):=by
 rintro a7 s σ H xs us Q I r ⟨x,T,U,rfl,ty,hT,hU,q⟩;obtain⟨u,w',rfl,r1,r2⟩:=qzh r;cases(r2);exact qwu I r1 ty (kxs hT hU) λtk=>⟨.bl _,H,I.tok _,rfl,q⟩
theorem vqf:∀{bs:List Bool} {a8} {i:Nat} {v},Vals (bs.map V.bl) a8->a8[i]?=some v->∃b,bs[i]?=some b/\v=.bool b
 |[],_,_,_,.nil,e=>by simp_all
 |b::bs,_,0,v,.cons r _,e=>by
  simp at e;subst e;exact⟨b,rfl,r⟩
 |b::bs,_,i+1,v,.cons _ t,e=>by
  obtain⟨b',e1,e2⟩:=vqf t (by simpa using e);exact⟨b',by simpa using e1,e2⟩
theorem kvj(bs:List Bool):((List.range bs.length).all λi=>(bs[i]?).getD true)=bs.all id:=by
 rw[Bool.eq_iff_iff,Xy,Xy];constructor
 ·intro h b hb;obtain⟨i,hi,e⟩:=List.getElem_of_mem hb;have:=h i (List.mem_range.mpr hi);rw[X5 hi,e]at this;exact this
 ·intro h i hi;have ni:=List.mem_range.mp hi;rw[X5 ni];exact h _ (Xz ni)
def wws(K:Frag):List V->Hp->VK->Prop:=λxs H Q=>∃(p:Addr) (bs:List Bool),xs=[.ref p]/\SqL K H p (bs.map V.bl)/\Q (.bl (bs.all id)) H
theorem vk5(hc:X.calm=true):CallR X (.builtin "all") (wws X.K):=by
 rintro a7 s σ H xs us Q I r ⟨p,bs,rfl,hq,q⟩;obtain⟨u,rfl,ru⟩:=xK r;cases ru;obtain⟨a8,rv,pl,hz⟩:=I.list hq;have hl:=pl.isList;have bh:p<s.heap.objs.size:=by obtain⟨_,e,_⟩:=hl;exact Xd e
 have ae:bs.length=a8.length:=by rw[<-rv.length,X2]
 refine call_all_walk (Zd hl ?_);refine⟨s.heap.objs.size,[s.heap.objs.size,p],[s.heap.objs.size],a8.toArray.size,_,_,λi=>(bs[i]?).getD true,rfl,Walks.list (A:=X.A.in1) (I.ok.hd hc) _ p (Xj bh) a8.toArray,
  ⟨⟨_,Xe _ rfl,rfl,rfl⟩,hl.push _⟩,λi v s' Q' E' hP hQ=>?_,λh' tk hk=>?_⟩
 ·obtain⟨b,e,rfl⟩:=vqf rv (by simpa using hP);simp only[e]at hQ;exact wpAny_truthy_bool hQ
 ·have e:((List.range a8.toArray.size).all λi=>(bs[i]?).getD true)=bs.all id:=by
   rw[X9,<-ae];exact kvj bs
  rw[e];refine⟨.bl _,H,I.kept (t':=tk) (h':=h') λb o e=>hk b o (λz=>?_) (X1 _ e),rfl,q⟩;exact absurd (Xd e) (aC z▸Yu _)
def Its(x:Str):It:=⟨λi _=>i<x.cps.size,λi H v H'=>H'=H/\∃c,x.cps[i]?=some c/\v=.str ⟨#[c]⟩,λi _=>i=x.cps.size⟩
theorem kzf{P w K tg x t it}{ty}
  (W:∀A',A'.handled=none->Walks P w A' it [it] [it] x.cps.size (SignAt x) (λi h=>h.IsStrIter it ty x t i))
  (se:∀A (i) (s) (Q) (E),s.heap.IsStrIter it ty x t i->Q (.ref it) s->wpAny (model P w) A (pyIter (.ref it)) Q E s)
  (lh:["enumerate","zip","dict_itemiterator","dict_reverseitemiterator","odict_iterator","itertools.zip_longest","itertools.pairwise"].contains ty=false):
  Turn P w K tg (Its x) [it] it (λi h=>h.IsStrIter it ty x t i) where
 mem:=by simp
 obj:=λi h st b hb=>by
  have e:b=it:=by simpa using hb
  obtain⟨o,e,c,d⟩:=st
  simp_all
 keep:=λi h h' st k=>by
  obtain⟨o,e,r⟩:=st;exact⟨o,k it (by simp) o e,r⟩
 item:=by
  intro X hP hw hK hc i a7 s σ H E I hf st hg;subst hP hw hK;obtain⟨f0,f1,f2,f3,f4,f5⟩:=hf it (by simp);refine(W X.A (I.ok.hd hc)).item i s _ _ hg st λv h' tk hv fq kk=>?_
  obtain⟨c,u,bj,rfl⟩:=hv;have I1:Inv X a7 σ H {s with heap:=h',toks:=tk}:=I.turned (λb o hb e=>kk b o (by simpa using hb) e) f0 f1 f3 f4 f5;obtain⟨o,e,c1,d⟩:=id fq;exact⟨_,rfl,vjo e c1 d lh ⟨.str ⟨#[c]⟩,H,I1,⟨u,rfl⟩,⟨rfl,c,bj,rfl⟩,fq,λb hb=>(hf b hb).1⟩⟩
 done:=by
  intro X hP hw hK hc i a7 s σ H E I hf st hg;subst hP hw hK;obtain⟨f0,f1,f2,f3,f4,f5⟩:=hf it (by simp);subst hg;exact(W X.A (I.ok.hd hc)).done s _ _ st λh' tk kk=>⟨rfl,I.turned (λb o hb e=>kk b o (by simpa using hb) e) f0 f1 f3 f4 f5⟩
 self:=λA i s Q E st hQ=>se A i s Q E st hQ
def wzp:V->Option Int->Option Int->Hp->VK->Prop:=λx lo hi H Q=>∃z,x=.str z/\z.length<=sizeLine/\Q (.str (Txt.slice z lo hi)) H
theorem vzu:SlR X wzp:=by
 rintro a7 s σ H x v vl vu lo hi sl Q I rx hs pl pu ⟨z,rfl,hz,q⟩;obtain⟨t,rfl⟩:=rx;refine⟨"str",_,F.slot_str_getitem.lookup,typeIs_str _ _ _,?_⟩;have fin:∀t' k,EP X a7 σ Q _ {s with toks:=k}:=λt' k=>⟨.str _,H,I.tok k,⟨t',rfl⟩,q⟩
 have dm:(Txt.slice z lo hi).length<=sizeLine:=Yl (Txt.slice_le z _ _) hz;cases pl with
 |none=>cases pu with|none=>exact wpAny_getItem_str_slice (l:=none) (u:=none) (st:=none) hs rfl (post_val_or_str ⟨dm,fin⟩)|int j tj=>exact wpAny_getItem_str_slice (l:=none) (u:=some (j,tj)) (st:=none) hs rfl (post_val_or_str ⟨dm,fin⟩)
 |int i ti=>cases pu with|none=>exact wpAny_getItem_str_slice (l:=some (i,ti)) (u:=none) (st:=none) hs rfl (post_val_or_str ⟨dm,fin⟩)|int j tj=>exact wpAny_getItem_str_slice (l:=some (i,ti)) (u:=some (j,tj)) (st:=none) hs rfl (post_val_or_str ⟨dm,fin⟩)
def wj2:R2:=λx y H Q=>∃z n,x=.str z/\y=.int n/\(z.length<=1024/\n<=1024/\-1024<=n)/\Q (.str (Txt.mul z n)) H
theorem vw1:OpR X (binaryOp .Mult) wj2:=by
 rintro a7 s σ H x y v u Q I rx ry ⟨z,n,rfl,rfl,⟨h1,h2,h3⟩,q⟩;obtain⟨t,rfl⟩:=rx;obtain⟨t',rfl⟩:=ry;exact SB.mul (mulOk_of 1024 1024 h1 h2 ⋯ (by simp) (by simp)) λt' k=>⟨.str _,H,I.tok k,⟨t',rfl⟩,q⟩
theorem kzk:∀{ys a8},Vals (ys.map V.str) a8->StrsAre a8 ys
 |[],_,.nil=>.nil|_::_,_,.cons ⟨t,e⟩ r=>by subst e;exact .cons _ t (kzk r)
def wwq(K:Frag):V->List V->Hp->VK->Prop:=λx vs H Q=>∃z p ys,x=.str z/\vs=[.ref p]/\SqL K H p (ys.map V.str)/\(ys.map (·.length)).sum+ys.length*z.length<=16777216/\Q (.str (Txt.join z ys)) H
theorem vw9:MtR X "str.join" (wwq X.K):=by
 rintro a7 s σ H x xs v us Q I rx rv ⟨z,p,ys,rfl,rfl,hq,hok,q⟩;obtain⟨t,rfl⟩:=rx;obtain⟨u,rfl,ru⟩:=rv.one;cases ru;obtain⟨a8,rs,pl,hz⟩:=I.list hq;exact join_list pl.isList (kzk rs) hok λt' k=>⟨.str _,H,I.tok k,⟨t',rfl⟩,q⟩
def qv6(K:Frag):V->Option Int->Option Int->Hp->VK->Prop:=λx lo hi H Q=>wzq K x lo hi H Q\/wzo K x lo hi H Q\/wzp x lo hi H Q
theorem vzw K (hK:autoParam (X.K=K) Ŕ):SlR X (qv6 K):=by subst hK;exact sl_list.or (sl_tup.or vzu)
def qv8(K:Frag):List V->Hp->VK->Prop:=λxs H Q=>(∃p ys,xs=[.ref p]/\(SqL K H p ys\/SqT K H p ys)/\Q (.int ys.length) H)\/(∃z,xs=[.str z]/\z.length<=sizeLine/\Q (.int z.length) H)\/(∃a a9,xs=[V.ref a]/\H a=some (.dK a9)/\Q (.int a9.length) H)
theorem vxd K (hK:autoParam (X.K=K) Ŕ):CallR X (.builtin "len") (qv8 K):=by subst hK;exact call_len_seq.or (call_len_str.or qxr)
theorem qxv K (hK:autoParam (X.K=K) Ŕ)(hc:autoParam (X.calm=true) Ŕ):CallR X (.builtin "all") (wws K):=by subst hK;exact vk5 hc
theorem vkq(K){o e es T name id r to t}{ah aa}
  (pa:PlainAttrs T) (slot:Slot T name id) (lh:typeOf (.builtin id)=pure (.type "method_descriptor")) (hm:MtR X id r) (ho:PE X o to) (ha:PA X (e::es) t)
  (au:autoParam (attributeBase o name X.env (eval o X.env)=eval o X.env) Ŕ)
  (c8:autoParam (((backTo aa (starEach (e::es) X.env)).all (λx=>!x.1)&&(backToKw aa (keywordEach [] X.env)).all (λx=>x.1.isSome)
   && decide ((e::es).length+([]:List Keyword).length+(if([]:List Keyword).isEmpty then 0 else 1)<30))=true) Ŕ)
  (aq:autoParam ((ah.endLine==aa.line)=true) Ŕ) (hs:autoParam (starEach (e::es) X.env=(false,eval e X.env)::starEach es X.env) Ŕ) (ax:autoParam ((backTo aa (starEach es X.env)).any (·.1)=false) Ŕ) (hK:autoParam (X.K=K) Ŕ):
  PE X (.Call (.Attribute o name ah) (e::es) [] aa) (tBM K T r to t):=by subst hK;exact vvv pa slot lh hm ho ha au c8 aq hs ax
theorem vqd:bootBuiltins "len"=some (.builtin "len"):=by decide +kernel
theorem kqr:bootBuiltins "isinstance"=some (.builtin "isinstance"):=by decide +kernel
theorem vqe:bootBuiltins "all"=some (.builtin "all"):=by decide +kernel
theorem qxw:bootBuiltins "sorted"=some (.builtin "sorted"):=by decide +kernel
theorem wv5:bootBuiltins "int"=some (.type "int"):=by decide +kernel
theorem qxx:bootBuiltins "bool"=some (.type "bool"):=by decide +kernel
theorem Q4:bootBuiltins "list"=some (.type "list"):=by decide +kernel
theorem W2:bootBuiltins "tuple"=some (.type "tuple"):=by decide +kernel
theorem vxg:bootBuiltins "dict"=some (.type "dict"):=by decide +kernel
theorem wv4:bootBuiltins "zip"=some (.type "zip"):=by decide +kernel
end
def Cst(mg:Str->Option Value)(x:Str)(v:V):Prop:=∃u,mg x=some u/\RelV v u
section
variable {X:Cx}{x:Str}{p pos:Pos}{e:Expr}{es:List Expr}{t:TA}{ps:List Str}{sp:Sp}{k:Nat}{v:V}
theorem wkb(c:Cst X.mg x v)(hg:autoParam (Gl X x) Ŕ)(hd:autoParam ((x==("__debug__":Str))=false) ŕ):PE X (.Name x pos) (tC v):=by
 obtain⟨u,m,r⟩:=c;exact vvr hg m r hd
end
theorem qjz:∀{ns:List Int} {m},PySem.W.WData.weightAll (ns.map PySem.W.WData.int)<=m->∀n∈ns,Builtin.Int.intBits n<=m
 | [],_,_,_,h=>nomatch h
 | a::r,m,h,n,hn=>by
  have h':(if a==0 then 0 else a.natAbs.log2+1)+1+PySem.W.WData.weightAll _<=m:=h;rcases aD hn with z|z
  ·subst z;have e:Builtin.Int.intBits n=(if n==0 then 0 else n.natAbs.log2+1):=rfl
   grind
  ·exact qjz ⋯ n z
theorem kz4{ns:List Int}(h:PySem.W.WData.layableAll [PySem.W.WData.list (ns.map PySem.W.WData.int)]=true):∀n∈ns,Builtin.Int.intBits n<=1048576:=by
 have h1:=(PySem.W.layW_cons h).1;unfold PySem.W.WData.layable at h1;simp at h1;have h2:PySem.W.WData.weightAll _<=2 ^ 20:=h1.2;exact qjz (by simpa using h2)
section
variable {X:Cx}{a7:LA9}{σ:L2.St}{H:Hp}{s:Shared}
theorem in1_units(A:Around):A.in1.units<=A.units+1:=by
 simp_all
end
section
variable {X:Cx}
def vva:V->List V->Hp->VK->Prop:=λv vs H Q=>∃(x y:Str) (i:Nat) (ab:List Nat),v=.str x/\vs=[.str y]/\Builtin.Str.occurrences x y 0 x.length 1=i::ab/\Q (.int i) H
theorem vwa:MtR X "str.index" vva:=by
 rintro a7 s σ H x xs v us Q I rx rv ⟨z,y,i,ab,rfl,rfl,ho,q⟩;obtain⟨t,rfl⟩:=rx;obtain⟨u,rfl,t',rfl⟩:=rv.one;exact SC.index ho ⟨.int i,H,I.tok _,⟨_,rfl⟩,q⟩
def qv7(K:Frag):List V->Hp->VK->Prop:=λxs H Q=>∃p ys,xs=[.ref p]/\(SqL K H p ys\/SqT K H p ys)/\∀l,H l=none->Q (.ref l) (upd H l (.lst ys))
theorem kqq K (hK:autoParam (X.K=K) Ŕ):CallR X (.type "list") (qv7 K):=by subst hK;exact kwm
theorem kxb(K){o T name id r to}{ah aa}
  (pa:PlainAttrs T) (slot:Slot T name id) (lh:typeOf (.builtin id)=pure (.type "method_descriptor")) (hm:MtR X id r) (ho:PE X o to)
  (au:autoParam (attributeBase o name X.env (eval o X.env)=eval o X.env) Ŕ) (aq:autoParam ((ah.endLine==aa.line)=true) Ŕ) (hK:autoParam (X.K=K) Ŕ):
  PE X (.Call (.Attribute o name ah) [] [] aa) (wzm K T r to):=by subst hK;exact wkc pa slot lh hm ho au aq
end
section
variable {X:Cx}{a7:LA9}{σ:L2.St}{H:Hp}{s:Shared}
theorem jv4{t' h'}(fp:List Addr)(I:Inv X a7 σ H s)(k:∀b o,b∉fp->s.heap.get? b=some o->h'.get? b=some o)(hf:∀b∈fp,vj X a7 H b):Inv X a7 σ H {s with heap:=h',toks:=t' }:=by
 have ro:∀b u,H b=some u->b∉fp:=λb u e z=>by rw[(hf b z).1]at e;cases e
 refine I.step (g':=s.gens) (d':=s.drawn) (λb hb=>?_) (λb o _ _ hc e _=>k b o hc e) (λb o _ _ hc e _=>⟨o.slots,k b o hc e⟩) (λ_ _ _ _ n=>n)
  (λb o hc e=>⟨o,k b o hc e⟩) (λ_ _ e=>e) (λ_ _ _ e=>e) (λb ps e=>⟨#[],by rw[e];simp⟩) (λm hm=>?_) (λb u e=>?_) I.bare
 ·obtain⟨_,f1,_,f3,f4,f5⟩:=hf b hb;exact⟨f3,f1,f4,f5⟩
 ·obtain⟨o,es,ep,ho,r⟩:=hm;exact⟨o,es,ep,k _ o (λz=>(hf _ z).2.1 rfl) ho,r⟩
 ·refine(I.hok b u e).stay (λc v hc q=>k c v ?_ q) (λ_ q=>q) λ_ _ q=>q
  rcases hc with z|z
  ·rw[z];exact ro b u e
  ·exact ro c _ z
end
noncomputable def Itz(K:Frag)(l1 l2:Addr):It:=⟨λi H=>∃xs ys x y,SqL K H l1 xs/\SqL K H l2 ys/\xs[i]?=some x/\ys[i]?=some y,
 λi H v H'=>∃T x y,H T=none/\v=.ref T/\H'=upd H T (.tup [x,y])/\(∀xs,SqL K H l1 xs->xs[i]?=some x)/\∀ys,SqL K H l2 ys->ys[i]?=some y,
 λi H=>∃xs ys,SqL K H l1 xs/\SqL K H l2 ys/\(xs.length<=i\/ys.length<=i)⟩
abbrev znt(z TI TO i1 i2 l1 l2:Addr)(i:Nat)(h:Heap):Prop:=IsZip h z TI TO .none/\IsPair h TI (.ref i1) (.ref i2)/\(∃a b,IsPair h TO a b)/\h.IsListIter i1 l1 i/\h.IsListIter i2 l2 i
theorem qzi{P w K ca k1 pos z TI TO i1 i2 l1 l2}(ap:ZipApart z TI TO i1 i2 l1 l2):
  Turn P w K (.Tuple ca k1 pos) (Itz K l1 l2) [z,TI,TO,i1,i2] z (znt z TI TO i1 i2 l1 l2) where
 mem:=by simp
 obj:=λi h st b hb=>by
  obtain⟨h1,h2,⟨a,c,h3⟩,⟨o4,e4,c4,d4⟩,o5,e5,c5,d5⟩:=st;simp at hb;rcases hb with rfl|rfl|rfl|rfl|rfl
  ·exact⟨_,h1,λv z=>by cases z⟩
  ·exact⟨_,h2,λv z=>by cases z⟩
  ·exact⟨_,h3,λv z=>by cases z⟩
  ·exact⟨_,e4,λv z=>by rw[d4]at z;cases z⟩
  ·exact⟨_,e5,λv z=>by rw[d5]at z;cases z⟩
 keep:=λi h h' st k=>by
  obtain⟨h1,h2,⟨a,c,h3⟩,⟨o4,e4,c4,d4⟩,o5,e5,c5,d5⟩:=st;exact⟨k _ (by simp) _ h1,k _ (by simp) _ h2,⟨a,c,k _ (by simp) _ h3⟩,⟨o4,k _ (by simp) _ e4,c4,d4⟩,o5,k _ (by simp) _ e5,c5,d5⟩
 item:=by
  intro X hP hw hK hc i a7 s σ H E I hf st hg;subst hP hw hK;obtain⟨xs,ys,x,y,q1,q2,hx,hy⟩:=hg;obtain⟨ff,lr,p1,iw⟩:=I.list q1;obtain⟨u1,ld,ru1⟩:=lr.get hx;obtain⟨ce,rv2,p2,km⟩:=I.list q2;obtain⟨u2,hu2,ru2⟩:=rv2.get hy;obtain⟨t1,t2,⟨a,b,t3⟩,t4,t5⟩:=st;refine wpAny_pyNext_zip_item ap t1 t2 t3 t4 t5 p1.isList p2.isList (x:=u1) (y:=u2) (by simpa using ld) (by simpa using hu2) λh1 g1 g3 g4 g5 gT gs gk=>(⟨_,rfl,wpAny_letOwnedTupleGo_zip (s:={s with heap:=h1}) g1 λh2 f1 sb=>?_⟩)
  have fT:=I.fpOk (X8 _) (I.hok.fresh (X8 _));have nT:∀b∈[z,TI,TO,i1,i2],b≠s.heap.objs.size:=λb hb e=>by
   obtain⟨o,eo,_⟩:∃o,s.heap.get? b=some o/\True:=by
    simp at hb;obtain⟨o4,e4,_⟩:=t4;obtain⟨o5,e5,_⟩:=t5;rcases hb with rfl|rfl|rfl|rfl|rfl
    ·exact⟨_,t1,trivial⟩
    ·exact⟨_,t2,trivial⟩
    ·exact⟨_,t3,trivial⟩
    ·exact⟨_,e4,trivial⟩
    ·exact⟨_,e5,trivial⟩
   exact absurd (Xd eo) (e▸Yu _)
  have kk:∀b o,b∉[z,TO,i1,i2]->s.heap.get? b=some o->h2.get? b=some o:=λb o hb e=>by
   simp at hb;exact(sb.2 b hb.1).trans (gk b o hb.1 hb.2.1 hb.2.2.1 hb.2.2.2 e)
  have I1:Inv X a7 σ H {s with heap:=h2,toks:=s.toks}:=jv4 [z,TO,i1,i2] I kk λb hb=>hf b (by
   simp at hb ⊢;rcases hb with h|h|h|h<;>simp[h])
  have nz:s.heap.objs.size≠z:=λe=>nT z (by simp) e.symm
  have I2:=kjf (a:=s.heap.objs.size) (o:=.tup [x,y]) I1 fT.1 fT.2.1 fT.2.2.2.1 fT.2.2.2.2.1 fT.2.2.2.2.2
   (show ObjOk X.prog X.w _ h2 _ (.tup [x,y])from⟨by show(2:Nat)<=sizeLine;decide,[u1,u2],.cons ru1 (.cons ru2 .nil),⟨_,(sb.2 _ nz).trans gT,rfl,rfl,0,rfl⟩⟩)
  exact⟨.ref s.heap.objs.size,_,I2,rfl,⟨_,x,y,fT.1,rfl,rfl,λzs rl=>by rw[I.list_inj rl q1];exact hx,λzs rl=>by rw[I.list_inj rl q2];exact hy⟩,(⟨f1,((sb.2 _ ap.TIz).trans (gk _ _ ap.TIz ap.TITO ap.TIi1 ap.TIi2 t2)),⟨u1,u2,(sb.2 _ ap.TOz).trans g3⟩,g4.at λo e=>(sb.2 _ ap.i1z).trans e,g5.at λo e=>(sb.2 _ ap.i2z).trans e⟩),λb hb=>by rw[kq (nT b hb)];exact(hf b hb).1⟩
 done:=by
  intro X hP hw hK hc i a7 s σ H E I hf st hg;subst hP hw hK;obtain⟨xs,ys,q1,q2,hx⟩:=hg;obtain⟨ff,lr,p1,iw⟩:=I.list q1;obtain⟨ce,rv2,p2,km⟩:=I.list q2;obtain⟨t1,t2,⟨a,b,t3⟩,t4,t5⟩:=st;have iq:=lr.length;have nv:=rv2.length;refine wpAny_pyNext_zip_end (I.ok.hd hc) ap t1 t2 t3 t4 t5 p1.isList p2.isList (hx.imp (λh=>by simp;lia) λh=>by simp;lia) λh' kk=>⟨rfl,?_⟩
  refine jv4 (t':=s.toks) [z,TO,i1,i2] I (λb o hb e=>?_) λb hb=>hf b (by
   simp only[Yc,Ys,or_false]at hb ⊢;rcases hb with h|h|h|h<;>simp[h])
  simp only[Yc,Ys,or_false,not_or]at hb;exact kk b o hb.1 hb.2.1 hb.2.2.1 hb.2.2.2 e
 self:=λ_ _ _ _ _ st h=>wpAny_pyIter_zip st.1 h
abbrev iZip(K:Frag)(ta:TA):TI:=fun σ H R=>ta σ H λvs H1=>∃l1 l2,vs=[.ref l1,.ref l2]/\(∃xs,SqL K H1 l1 xs)/\(∃ys,SqL K H1 l2 ys)/\R (Itz K l1 l2) H1
section
variable {X:Cx}
theorem wk1 K {a b ta p pos ia ca k1}(hg:Gl X "zip")(hm:X.mg "zip"=none)(ha:PA X [a,b] ta)(hK:autoParam (X.K=K) Ŕ)
  (hs:autoParam (starEach [a,b] X.env=[(false,eval a X.env),(false,eval b X.env)]) Ŕ) (mi:autoParam (starEach [b] X.env=[(false,eval b X.env)]) Ŕ):
  PI X (.Tuple ca k1 ia) (.Call (.Name "zip" p) [a,b] [] pos) (iZip K ta):=by
 subst hK;intro a7 s σ H R I h;refine Call_ (xW I hg hm wv4 (Xx (thn (ha pos a7 s σ H _ I h) λus s1 ⟨vs,H1,I1,r1,q1⟩=>?_) (by rw[hs,mi]) (by rw[mi];rfl)));obtain⟨l1,l2,rfl,⟨xs,q1⟩,⟨ys,q2⟩,q⟩:=q1;obtain⟨u1,u2,rfl,e1,e2⟩:=qzh r1;cases e1;cases e2;obtain⟨ff,lr,p1,iw⟩:=I1.list q1;obtain⟨ce,rv2,p2,km⟩:=I1.list q2;have lt:∀{l ar},s1.heap.IsList l ar->l<s1.heap.objs.size:=λh=>by obtain⟨_,e,_⟩:=h;exact Xd e
 refine call_zip_2 p1.isList p2.isList λh' g1 g2 g3 g4 g5 gs gk=>?_
 refine wpAny_pyIter_zip g1 ⟨_,[_,s1.heap.objs.size+2,s1.heap.objs.size+3,s1.heap.objs.size,s1.heap.objs.size+1],_,_,H1,rfl,I1.kept (t':=s1.toks) gk,
  qzi (zipApart_new (lt p1.isList) (lt p2.isList)),⟨g1,g2,⟨_,_,g3⟩,g4,g5⟩,λb hb=>?_,q⟩
 have dm:s1.heap.objs.size<=b:=by
  simp at hb;rcases hb with rfl|rfl|rfl|rfl|rfl<;>lia
 exact I1.fpOk dm (I1.hok.fresh dm)
end
end L3
namespace L2
open PySem PySem.Spec PyProof.Rows
section
variable {X:Cx}{a7:LA9}{σ:List (Option V)}{H H':Hp}{s:Shared}{h':Heap}
theorem Inv.stepN{g' t' d'}{ch:List Addr}(I:Inv X a7 σ H s)
  (f7:∀b∈ch,(b∈X.ex\/X.s₀.heap.get? b=none)/\b≠X.env.locals/\(∀x c,X.env.cells.lookup x=some c->c≠b)/\∀p∈X.pn++a7,p.1≠b)
  (keep:∀b o,b≠X.env.locals->b∉X.fs->b∉ch->s.heap.get? b=some o->H b=none->h'.get? b=some o)
  (slot:∀b o,b≠X.env.locals->b∈X.fs->b∉ch->s.heap.get? b=some o->H b=none->∃sl,h'.get? b=some {o with slots:=sl}) (free:∀b o,b∉ch->s.heap.get? b=some o->H b=none->H' b=none)
  (there:∀b o,b∉ch->s.heap.get? b=some o->∃o',h'.get? b=some o')
  (tups:∀b xs,H b=some (.tup xs)->H' b=some (.tup xs)) (frzs:∀b o u,H b=some (.frz o u)->H' b=some (.frz o u)) (tbls:∀b ps,H b=some (.tbl ps)->∃more,H' b=some (.tbl (ps++more)))
  (ns:∀m,s.heap.Ns X.env.locals m->h'.Ns X.env.locals m) (hok:HOk X.prog X.w H' h') (hg:AllBare g'):
  Inv X a7 σ H' {s with heap:=h',gens:=g',drawn:=d',toks:=t' }:=by
 have si:∀b o,X.s₀.heap.get? b=some o->b≠X.env.locals:=λb o e=>Xj (Xm (Xd e) I.ok.above)
 have l0:∀b o,X.s₀.heap.get? b=some o->b∉X.ex->b∉ch:=λb o e hx hb=>by
  rcases(f7 b hb).1 with z|z
  ·exact hx z
  ·grind
 have gu:∀x c,X.env.cells.lookup x=some c->∀v,s.heap.IsCell c v->h'.IsCell c v:=λx c e v ⟨o,ho,hd⟩=>by
  have jf:=λz=>(f7 c z).2.2.1 x c e rfl
  by_cases hc:c∈X.fs
  ·obtain⟨sl,q⟩:=slot c o (I.cne x c e) hc jf ho (I.freeC x c e);exact⟨_,q,hd⟩
  ·exact⟨o,keep c o (I.cne x c e) hc jf ho (I.freeC x c e),hd⟩
 refine⟨I.ok,I.os,hg,⟨λb o e n hb hx=>?_,λb o e n hb hx=>?_,λb o e n hx=>?_,λb o e hx=>?_,λb xs e=>tups b xs (I.base.tups b xs e),λb o xs e=>frzs b o xs (I.base.frzs b o xs e),λb ps e=>?_⟩,?_,λx c e=>?_,?_,λx c e=>?_,λp hp=>?_,hok,I.len⟩
 ·exact keep b o (si b o e) hb (l0 b o e hx) (I.base.keep b o e n hb hx) (I.base.free b o e n hx)
 ·obtain⟨sl,e1⟩:=I.base.slot b o e n hb hx;obtain⟨sl',e2⟩:=slot b _ (si b o e) hb (l0 b o e hx) e1 (I.base.free b o e n hx);exact⟨sl',e2⟩
 ·obtain⟨o',e1⟩:=I.base.there b o e hx;exact free b o' (l0 b o e hx) e1 (I.base.free b o e n hx)
 ·obtain⟨o',e1⟩:=I.base.there b o e hx;exact there b o' (l0 b o e hx) e1
 ·obtain⟨m1,e1⟩:=I.base.tbls b ps e;obtain⟨m2,e2⟩:=tbls b _ e1;exact⟨m1++m2,by rw[e2,Array.append_assoc]⟩
 ·obtain⟨m,hn,hl⟩:=I.loc;refine⟨m,ns m hn,λi x v e1 e2 e3=>?_⟩;obtain⟨u,r,l⟩:=hl i x v e1 e2 e3;refine⟨u,r,?_⟩;rcases l with l|⟨k,c,e,z⟩
  ·exact .inl l
  ·exact .inr ⟨k,c,e,gu x c e _ z⟩
 ·obtain⟨v,z⟩:=I.cell x c e;exact⟨v,gu x c e v z⟩
 ·obtain⟨m,⟨o,_,_,ho,_⟩,_⟩:=I.loc;exact free _ o (λz=>(f7 _ z).2.1 rfl) ho I.free
 ·obtain⟨v,o,ho,hd⟩:=I.cell x c e;exact free c o (λz=>(f7 c z).2.2.1 x c e rfl) ho (I.freeC x c e)
 ·obtain⟨e,n,ne,nf,d⟩:=I.pin p hp;have jf:=λz=>(f7 p.1 z).2.2.2 p hp rfl
  exact⟨keep p.1 p.2 ne nf jf e n,free p.1 p.2 jf e n,ne,nf,d⟩
theorem Inv.callN{g' t' d' ch}(I:Inv X a7 σ H s)(u:Un (frs X.stack) ch H H' s.heap h')(hok:HOk X.prog X.w H' h')(hg:AllBare g')
  (f7:∀b∈ch,(b∈X.ex\/X.s₀.heap.get? b=none)/\b≠X.env.locals/\(∀x c,X.env.cells.lookup x=some c->c≠b)/\∀p∈X.pn++a7,p.1≠b):
  Inv X a7 σ H' {s with heap:=h',gens:=g',drawn:=d',toks:=t' }:=by
 obtain⟨m,⟨o,es,ep,ho,r⟩,_⟩:=id I.loc;obtain⟨sl,hL⟩:=u.any ho I.free λz=>(f7 _ z).2.1 rfl
 exact I.stepN f7 (λb o hL hb hc e n=>u.keep b o e n (λz=>(aD (I.stkSub b z)).elim hL hb) hc) (λb o _ _ hc e n=>u.any e n hc) (λb o hc e n=>u.free b o e n hc) (λb o hc e=>u.there b o e hc) u.tups u.frzs u.tbls (λm' hm=>by
  obtain⟨o',es',ri,ie,r'⟩:=hm;rw[ho]at ie;cases ie;exact⟨_,es',ri,hL,r'⟩) hok hg
end
end L2
namespace L3
open PySem PySem.Spec PyProof.Rows L2
theorem kj9{e env env0}(h:env.frame=env0.frame):noteFrame e env=noteFrame e env0:=by
 unfold noteFrame PySem.frameOf;rw[h]
structure Fl0 (h:Heap)(x:Addr)(C:Value)(vs:Array Value):Prop where
 ob:h.get? x=some {cls:=C,data:=.fields vs}
 sz:1<vs.size
structure FlT (h:Heap)(x T:Addr)(C:Value)(fl:Value):Prop where
 ex:∃vs,h.get? x=some {cls:=C,data:=.fields vs}/\vs[1]?=some (.ref T)
 tb:∃oT ts,h.get? T=some oT/\oT.data=.fields ts/\ts[3]?=some fl
 ne:T≠x
structure Chg (fs ch:List Addr)(h h':Heap):Prop where
 keep:∀b o,h.get? b=some o->b∉fs->b∉ch->h'.get? b=some o
 slot:∀b o,h.get? b=some o->b∉ch->∃sl,h'.get? b=some {cls:=o.cls,dict:=o.dict,data:=o.data,slots:=sl}
 size:h.objs.size<=h'.objs.size
theorem Chg.trans{fs ch ch' h h1 h2}(a:Chg fs ch h h1)(b:Chg fs ch' h1 h2)(hc:∀x∈ch',x∈ch\/h.get? x=none):Chg fs ch h h2 where
 keep:=λx o e h1 h2=>b.keep x o (a.keep x o e h1 h2) h1 λz=>(hc x z).elim h2 λq=>by rw[q]at e;cases e
 slot:=λx o e hn=>by
  obtain⟨sl,e1⟩:=a.slot x o e hn;obtain⟨jr,e2⟩:=b.slot x _ e1 λz=>(hc x z).elim hn λq=>by rw[q]at e;cases e
  exact⟨jr,e2⟩
 size:=Yl a.size b.size
theorem Chg.mono{fs ch ch' h h1}(a:Chg fs ch h h1)(hc:∀x∈ch,x∈ch'):Chg fs ch' h h1:=⟨λb o e h1 h2=>a.keep b o e h1 λz=>h2 (hc b z),λb o e h2=>a.slot b o e λz=>h2 (hc b z),a.size⟩
theorem Chg.of_upd{fs h a f}: Chg fs [a] h (h.update a f):=
  ⟨λb o e _ hn=>by rw[Yz _ _ _ _ (λz=>hn (aB z))]; exact e,
   λb o e hn=>⟨o.slots,by rw[Yz _ _ _ _ (λz=>hn (aB z))]; exact e⟩,by rw[Heap.size_update]; exact X8 _⟩
theorem Chg.of_push{fs h o}:Chg fs [] h (h.push o):=
 ⟨λb o e _ _=>X1 _ e,λb o e _=>⟨o.slots,X1 _ e⟩,by rw[Heap.size_push];lia⟩
theorem Chg.of_slots{fs h h'}(s:Heap.SlotsOnly fs h h'):Chg fs [] h h':=
 ⟨λb o e hn _=>(s.2.1 b hn).trans e,λb o e _=>s.2.2 b o e,by rw[s.1];exact X8 _⟩
theorem Chg.refl{fs ch h}:Chg fs ch h h:=⟨λ_ _ e _ _=>e,λb o e _=>⟨o.slots,e⟩,X8 _⟩
section
variable {M:Model}{A:Around}{E:VP9}{s:Shared}{base:Heap}{env:Env}{outer:List Env}{L x T:Addr}{C fl:Value}
theorem kwf{head hadNext vs Q}(hA:A.frames=some (env::outer))(hF:s.heap.FunFrames base (env::outer))(hL:env.frame=some L)(ho:Fl0 s.heap x C vs)
  (h:∀h' T',Chg (frs (env::outer)) [x] s.heap h'->s.heap.objs.size<=T'->FlT h' x T' C (rawInt ↑L)->Q () {s with heap:=h' }):
  wpAny M A (do
   let a <-PySem.frameOf env
   let pl <-entryPlaceOf L hadNext
   let b <-EntryCells.newEntry head a Value.none (rawInt ↑L) Value.none pl
   setField (Value.ref x) 1 b) Q E s:=by
 refine X0 (wpAny_frameOf_fun hA hF hL λh1 s1=>?_);have hx:x∉frs _:=λz=>by
  obtain⟨_,o,e,hn⟩:=hF.mem z;rw[ho.ob]at e;cases e;exact hn _ rfl
 have o1:h1.get? x=some {cls:=C,data:=.fields vs}:=(s1.2.1 x hx).trans ho.ob;have fin:∀pl,IsPlace pl->wpAny M A (do
   let b <-EntryCells.newEntry head _ Value.none _ Value.none pl
   setField _ 1 b) Q E {s with heap:=h1}:=λpl bn=>by
  refine X0 ?_;unfold EntryCells.newEntry newFields;have har:([head,Value.ref L,Value.none,rawInt ↑L,Value.none]++if pl.isEmpty=true then List.replicate 6 Value.none else pl).toArray[3]?=some (rawInt ↑L):=by simp
  have hsz:([head,Value.ref L,Value.none,rawInt ↑L,Value.none]++if pl.isEmpty=true then List.replicate 6 Value.none else pl).toArray.size<=sizeLine+2:=by
   rcases bn with rfl|⟨_,_,_,_,_,_,_,rfl⟩<;>simp<;>decide
  generalize ([head,Value.ref L,Value.none,rawInt ↑L,Value.none]++if pl.isEmpty=true then List.replicate 6 Value.none else pl).toArray=ar at har hsz;refine Ya ?_ hsz;have o2:(h1.push {cls:=.type "traceback",data:=.fields ar}).get? x=some {cls:=C,data:=.fields vs}:=X1 _ o1;refine Z3 o2 rfl ho.sz ?_;have fb:h1.objs.size≠x:=λe=>absurd (Xd o1) (e▸Yu _)
  have o3:((h1.push {cls:=.type "traceback",data:=.fields ar}).update x (Obj.mapFields λy=>y.setIfInBounds 1 (.ref h1.objs.size))).get? h1.objs.size=some {cls:=.type "traceback",data:=.fields ar}:=by
   rw[Yz _ _ _ _ fb];exact Xe _ rfl
  refine h _ h1.objs.size (((Chg.of_slots s1).mono (λ_ z=>nomatch z)).trans ((Chg.of_push.mono λ_ z=>nomatch z).trans Chg.of_upd λy hy=>.inl hy) λy hy=>.inl hy) (s1.1▸X8 _) ⟨⟨vs.setIfInBounds 1 _,?_,Array.getElem?_setIfInBounds_self_of_lt ho.sz⟩,⟨_,_,o3,rfl,har⟩,fb⟩;exact Yd _ o2 rfl
 exact X0 (wpAny_entryPlaceOf λpl bn=>fin pl bn)
theorem wxj{vs Q}(hA:A.frames=some (env::outer))(hF:s.heap.FunFrames base (env::outer))(hL:env.frame=some L)(ho:Fl0 s.heap x C vs)(hv:vs[1]?=some .none)
  (h:∀h' T',Chg (frs (env::outer)) [x] s.heap h'->s.heap.objs.size<=T'->FlT h' x T' C (rawInt ↑L)->Q () {s with heap:=h' }):wpAny M A (noteFrame (.ref x) env) Q E s:=by
 unfold noteFrame;rw[hL];exact X0 (Zh ho.ob rfl hv (kwf hA hF hL ho h))
theorem upd3{T oT ts v}{h:Heap}(e:h.get? T=some oT)(ed:oT.data=.fields ts)(h3:3<ts.size):
  ∃o' ts',(h.update T (Obj.mapFields λy=>y.setIfInBounds 3 v)).get? T=some o'/\o'.data=.fields ts'/\ts'[3]?=some v:=by
 obtain⟨c,d,dt,sl⟩:=oT;cases(ed);exact⟨_,ts.setIfInBounds 3 v,Yd _ e rfl,rfl,Array.getElem?_setIfInBounds_self_of_lt h3⟩
theorem wxi{Q}(hA:A.frames=some (env::outer))(hF:s.heap.FunFrames base (env::outer))(hL:env.frame=some L)(f:FlT s.heap x T C fl)
  (h:∀h' T',Chg (frs (env::outer)) [x,T] s.heap h'->(s.heap.objs.size<=T'\/T'=T)->FlT h' x T' C (rawInt ↑L)->Q () {s with heap:=h' }):wpAny M A (noteFrame (.ref x) env) Q E s:=by
 obtain⟨⟨vs,e1,v1⟩,⟨oT,ts,e2,d2,v2⟩,fb⟩:=f;have h3:3<ts.size:=by
  rw[Array.getElem?_eq_some_iff]at v2;exact v2.1
 have h1:1<vs.size:=by
  rw[Array.getElem?_eq_some_iff]at v1;exact v1.1
 unfold noteFrame;rw[hL];refine X0 (Zh e1 rfl v1 (X0 (Zh e2 d2 v2 ?_)))
 by_cases hf:(fl==rawInt ↑L)=true
 ·rw[X6 hf];have e:=eq_of_beq hf;subst e;exact X3 (h s.heap T Chg.refl (.inr rfl) ⟨⟨vs,e1,v1⟩,⟨oT,ts,e2,d2,v2⟩,fb⟩)
 ·rw[Xa hf];refine X0 (Z3 e2 d2 h3 ?_);have c1:Chg (frs (env::outer)) [x,T] s.heap (s.heap.update T (Obj.mapFields λy=>y.setIfInBounds 3 Value.none)):=Chg.of_upd.mono λy hy=>by
   rw[aC hy];simp
  have e1':(s.heap.update T (Obj.mapFields λy=>y.setIfInBounds 3 Value.none)).get? x=some {cls:=C,data:=.fields vs}:=by
   rw[Yz _ _ _ _ fb.symm];exact e1
  have hF':(s.heap.update T (Obj.mapFields λy=>y.setIfInBounds 3 Value.none)).FunFrames base (env::outer):=by
   refine hF.of_keeps λb o e hn=>⟨o,?_,rfl⟩
   rw[Yz _ _ _ _ λz=>?_]
   ·exact e
   ·grind
  refine kwf hA hF' hL ⟨e1',h1⟩ λh' T' c2 hs f'=>(h h' T' (c1.trans (c2.mono (ch':=[x,T]) λy hy=>by rw[aC hy];simp) λy hy=>.inl hy) (.inl ?_) f')
  rw[Heap.size_update]at hs;exact hs
theorem wql{Q fr}(f:FlT s.heap x T C fl)(h:∀h',Chg (frs outer) [x,T] s.heap h'->FlT h' x T C (fr.elim Value.none λf=>rawInt ↑f)->Q () {s with heap:=h' }):wpAny M A (setFlight (.ref x) fr) Q E s:=by
 obtain⟨⟨vs,e1,v1⟩,⟨oT,ts,e2,d2,v2⟩,fb⟩:=f;have h3:3<ts.size:=by
  rw[Array.getElem?_eq_some_iff]at v2;exact v2.1
 refine X0 (Zh e1 rfl v1 (Z3 e2 d2 h3 (h _ (Chg.of_upd.mono λy hy=>by rw[aC hy];simp) ⟨⟨vs,?_,v1⟩,upd3 e2 d2 h3,fb⟩)))
 rwa [Yz _ _ _ _ fb.symm]
end
structure XCls (K:Frag)(C:Addr):Prop where
 ga:findIn K (.ref C) "__getattribute__"=some (some (.builtin "BaseException.__getattribute__"))
 gt:findIn K (.ref C) "__getattr__"=some none
 fo:PySem.W.findObj K C none "__class__"=some (.bind (.builtin "getset_descriptor.__get__") (.builtin "object.__class__"))
 ob:PySem.W.mroIn K C (.type "object")=some true
 bx:PySem.W.mroIn K C (.type "BaseException")=some true
 cl:(PySem.W.clsIn K C).isSome=true
def FpX(X:Cx)(a7:LA9)(H:Hp)(b:Addr):Prop:=
 H b=none/\b≠X.env.locals/\b∉X.fs/\(b∈X.ex\/X.s₀.heap.get? b=none)/\(∀x c,X.env.cells.lookup x=some c->c≠b)/\∀p∈X.pn++a7,p.1≠b
section
variable {X:Cx}{a7:LA9}{σ:L2.St}{H:Hp}{s:Shared}
theorem fpX{H' b}(I:Inv X a7 σ H s)(hb:s.heap.get? b=none)(hn:H' b=none):FpX X a7 H' b:=by
 refine⟨hn,λz=>?_,λz=>?_,?_,λx c e z=>?_,λp hp z=>?_⟩
 ·obtain⟨m,⟨o,_,_,ho,_⟩,_⟩:=I.loc
  grind
 ·obtain⟨_,o,e,_⟩:=I.ok.funs.mem z
  by_cases hx:b∈X.ex
  ·exact I.ok.exfs b hx z
  ·obtain _:=I.base.there b o e hx
   grind
 ·by_cases hx:b∈X.ex
  ·exact .inl hx
  ·cases e:X.s₀.heap.get? b with
   |none=>exact .inr rfl
   |some o=>
    obtain⟨o',e'⟩:=I.base.there b o e hx
    grind
 ·obtain⟨v,o,ho,_⟩:=I.cell x c e
  grind
 ·have:=(I.pin p hp).1
  grind
theorem FpX.of{b}(h:vj X a7 H b):FpX X a7 H b:=⟨h.1,h.2.1,h.2.2.1,h.2.2.2.1.imp id λz=>Heap.get?_none_of_le z,h.2.2.2.2⟩
theorem kxv{h' ch}(I:Inv X a7 σ H s)(c:Chg (frs X.stack) ch s.heap h')(hf:∀b∈ch,FpX X a7 H b):Inv X a7 σ H {s with heap:=h' }:=by
 refine I.callN (g':=s.gens) (t':=s.toks) (d':=s.drawn) ⟨λb o e _ h1 h2=>c.keep b o e h1 h2,λb o e _ _ h2=>c.slot b o e h2,λ_ _ _ n _=>n,λb o e h2=>?_,λ_ _ e=>e,λ_ _ _ e=>e,λ_ _ e=>⟨#[],by rw[e];simp⟩⟩ (λb u e=>?_) I.bare λb hb=>?_
 ·obtain⟨sl,q⟩:=c.slot b o e h2;exact⟨_,q⟩
 ·have no:∀d v,H d=some v->d∉frs X.stack/\d∉ch:=λd v e=>⟨λz=>(by rw[I.stkFree d z]at e;cases e),λz=>(by rw[(hf d z).1]at e;cases e)⟩
  refine(I.hok b u e).stay (λd v hc q=>?_) (λ_ q=>q) λ_ _ q=>q
  rcases hc with z|z
  ·rw[z]at q ⊢;exact c.keep b v q (no b u e).1 (no b u e).2
  ·exact c.keep d v q (no d _ z).1 (no d _ z).2
 ·obtain⟨_,f1,_,f3,f4,f5⟩:=hf b hb;exact⟨f3,f1,f4,f5⟩
end
structure Fx (X:Cx)(a7:LA9)(H:Hp)(h:Heap)(x:Addr)(C:Value):Prop where
 fp:FpX X a7 H x
 st:(∃vs,Fl0 h x C vs/\vs[1]?=some .none)\/∃T fl,FlT h x T C fl/\FpX X a7 H T
structure Xt (X:Cx)(a7:LA9)(σ:L2.St)(H:Hp)(x T:Addr)(C fl:Value)(s:Shared):Prop where
 inv:Inv X a7 σ H s
 fx:FpX X a7 H x
 fT:FpX X a7 H T
 f:FlT s.heap x T C fl
theorem Xt.to{X a7 σ H x T C fl s}(h:Xt X a7 σ H x T C fl s):Fx X a7 H s.heap x C:=⟨h.fx,.inr ⟨T,fl,h.f,h.fT⟩⟩
def Xo(X:Cx)(E:XK)(e:Value)(s:Shared):Prop:=∃a7 σ H x C,e=.ref x/\Inv X a7 σ H s/\Fx X a7 H s.heap x C/\E C none H
def x6(X:Cx)(E:XK):Prop:=∀a7 σ H s x C,Inv X a7 σ H s->Fx X a7 H s.heap x C->E C none H->X.xe (.ref x) s
abbrev Cx.ex'(X:Cx)(E:XK):Cx:=X.wish (Xo X E)
theorem V3{X E}:x6 (Cx.ex' X E) E:=λa7 σ H s x C I f q=>⟨a7,σ,H,x,C,rfl,I.unwish,⟨f.fp,f.st⟩,q⟩
def Jv(X:Cx):Prop:=∃env0 out,X.stack=env0::out/\X.env.frame=env0.frame
section
variable {X:Cx}{a7:LA9}{σ:L2.St}{H:Hp}{s:Shared}{M:Model}{E':VP9}{x T:Addr}{C fl:Value}
theorem qw0{A Q}(top:Jv X)(hA:A.frames=X.A.frames)(I:Inv X a7 σ H s)(f:Fx X a7 H s.heap x C)(h:∀L T s',X.env.frame=some L->Xt X a7 σ H x T C (rawInt ↑L) s'->Q () s'):
  wpAny M A (noteFrame (.ref x) X.env) Q E' s:=by
 obtain⟨env0,out,e1,e2⟩:=top;have hF:=I.stack;have og:A.frames=some (env0::out):=by rw[hA,I.ok.frames,e1]
 rw[e1]at hF;obtain⟨_,⟨L,o,hL,_⟩,_⟩:=id hF;rw[kj9 e2];have hL':=e2.trans hL;rcases f.st with⟨vs,f0,hv⟩|⟨T,fl,fT,pT⟩
 ·refine wxj og hF hL f0 hv λh' T' c hs m6=>h L T' _ hL' ⟨?_,f.fp,fpX I (Heap.get?_none_of_le hs) (I.hok.fresh hs),m6⟩
  rw[<-e1]at c;exact kxv I c λb hb=>by rw[aC hb];exact f.fp
 ·refine wxi og hF hL fT λh' T' c hs m6=>?_
  rw[<-e1]at c;refine h L T' _ hL' ⟨kxv I c λb hb=>?_,f.fp,?_,m6⟩
  ·simp only[Yc,Ys,or_false]at hb;rcases hb with rfl|rfl
   ·exact f.fp
   ·exact pT
  ·rcases hs with hs|hs
   ·exact fpX I (Heap.get?_none_of_le hs) (I.hok.fresh hs)
   ·rw[hs];exact pT
theorem kqm{A Q fr}(t:Xt X a7 σ H x T C fl s)(h:∀s',Xt X a7 σ H x T C (fr.elim Value.none λf=>rawInt ↑f) s'->Q () s'):wpAny M A (setFlight (.ref x) fr) Q E' s:=by
 refine wql t.f λh' c m6=>h _ ⟨kxv t.inv c λb hb=>?_,t.fx,t.fT,m6⟩
 simp at hb;rcases hb with rfl|rfl
 ·exact t.fx
 ·exact t.fT
theorem wkf{α A what jt Q}(t:Xt X a7 σ H x T C fl s)(h:∀s' m6,Xt X a7 σ H x T C m6 s'->E' (.ref x) s'):wpAny M A (PySem.passOn what (.ref x) jt:Sem α) Q E' s:=by
 obtain⟨vs,e1,v1⟩:=t.f.ex;exact X0 (Zh e1 rfl v1 (X0 (kqm t λs' t'=>(wpAny_throw (h s' _ t')))))
theorem vw0{E}(top:Jv X):PassesOwn M X.A X.env (Xo X E):=by
 rintro e s' ⟨a7,σ,H,x,C,rfl,I,f,q⟩;refine qw0 top rfl I f λL T s1 _ t=>?_
 obtain⟨vs,e1,v1⟩:=t.f.ex;exact X0 (Zh e1 rfl v1 (kqm t λs2 t2=>⟨a7,σ,H,x,C,rfl,t2.inv,t2.to,q⟩))
end
def CXE(P:Program)(w:World):CXT:=λouter H s E e s'=>∃x T C fl H',e=.ref x/\s'.os=s.os/\AllBare s'.gens/\Un (frs outer) [] H H' s.heap s'.heap/\HOk P w H' s'.heap /\
 s.heap.get? x=none/\s.heap.get? T=none/\H' x=none/\H' T=none/\FlT s'.heap x T C fl/\E C none H'
theorem wx9{X E}(g:x6 X E):qzc (CXE X.prog X.w) X E:=by
 rintro a7 σ H s e s' I ⟨x,T,C,fl,H',rfl,os,bare,un,hok,hx,hT,nx,nT,f,q⟩;refine g a7 σ H' s' x C (I.call' os un hok bare λb hb=>nomatch hb) ⟨fpX I hx nx,.inr ⟨T,fl,f,fpX I hT nT⟩⟩ q
theorem vqu{CX P w K mg base N qual scope f cd A outer s H E}:
  Jv (Jx CX P w K mg base N qual scope f cd A outer s H E):=⟨_,_,rfl,rfl⟩
theorem qwh{P w K mg base N qual scope f cd A outer s H E e}{s'}
  (h:Xo (Jx (CXE P w) P w K mg base N qual scope f cd A outer s H E) E e s'):(Jx (CXE P w) P w K mg base N qual scope f cd A outer s H E).xe e s':=by
 obtain⟨a7,σ,H',x,C,rfl,I,fx,q⟩:=h;show wpAny _ _ _ _ _ s';refine X0 (qw0 vqu rfl I fx λL T s1 _ t=>(kqm t λs2 t2=>?_));have ge:∀b,FpX (Jx (CXE P w) P w K mg base N qual scope f cd A outer s H E) a7 H' b->s.heap.get? b=none:=λb hb=>hb.2.2.2.1.elim (λz=>nomatch z) λz=>z
 exact⟨x,T,C,_,H',rfl,t2.inv.os,t2.inv.bare,t2.inv.base,t2.inv.hok,ge x t2.fx,ge T t2.fT,t2.fx.1,t2.fT.1,t2.f,q⟩
section
variable {P:Program}{w:World}{K:Frag}{mg:Str->Option Value}{base:Heap}
theorem qK{x qual st f fd N ps k sp}(F:Fun K x qual st f fd)(S:FnScope N ps (k5 st))(len:∀vs H Q E,sp vs H Q E->vs.length=ps.length)
  (kd:∀bd (A) (outer) (s) (H) (vs) (Q) (E),Room k (A.deeper (envOfC qual (k5 st) s.heap.objs.size f bd))->sp vs H Q E ->
   ∃t,PSs (Cx.ex' (Jx (CXE P w) P w K mg base N qual (k5 st) f bd A outer s H E) E) (K8 st) t/\t {nx:=λ_ H'=>Q .non H',rt:=Q} (L2.start N vs) H):FnOk P w K mg base (CXE P w) (k+1) f fd ps sp:=by
 obtain⟨oc,od,kV,gj,pm,an,bd,ct,lv,rfl,lk,gr⟩:=F.ex;refine wxz lk gr S len λA outer s H vs Q E hr mf=>?_
 obtain⟨t,h,q⟩:=kd bd A outer s H vs Q E hr mf;exact⟨t,λa7 s' σ H' D I hw=>wpAny_mono (h a7 s' σ H' D (I.wish _) hw) (λf jm z=>z.unwish) λe jm z=>qwh z,q⟩
def kK(P:Program)(w:World)(K:Frag)(mg:Str->Option Value)(base:Heap)(k:Nat)(x:Str)(ps:List Str)(sp:Sp):Prop:=
 ∃(f:Addr) (fd:FuncData),FnOk P w K mg base (CXE P w) k f fd ps sp/\Binds K fd ps []/\PySem.W.keepIn K (.ref f)=true/\mg x=some (.ref f)
end
section
variable {X:Cx}{x:Str}{p pos:Pos}{e:Expr}{es:List Expr}{t:TA}{ps:List Str}{sp:Sp}{k:Nat}{v:V}{E:XK}
theorem qvs(D:kK X.prog X.w X.K X.mg X.base k x ps sp)(hr:Room k X.A)(g:x6 X E)(ha:PA X (e::es) t)(hg:autoParam (Gl X x) Ŕ)(fh:autoParam ((x==("__debug__":Str))=false) ŕ)
  (he:autoParam (starEach (e::es) X.env=(false,eval e X.env)::starEach es X.env) Ŕ) (bn:autoParam ((backTo pos (starEach es X.env)).any (·.1)=false) Ŕ):
  PE X (.Call (.Name x p) (e::es) [] pos) (vzm sp [] E t):=by
 obtain⟨f,fd,F,b,kp,m⟩:=D;exact vvu F hr hg m kp b .nil (wx9 g) ha fh he bn
end
abbrev lcE(X:Cx)(scope:Scope)(N:List Str)(cl:List (Str×Addr))(C:Addr)(s0:Shared)(H0:Hp)(fp:List Addr)(EX:XK):Cx:=Cx.ex' (lcX X scope N cl C s0 H0 fp) EX
section
variable {prog:Program}{w:World}{A:Around}{R:Result->Shared->Prop}{s:Shared}
theorem vwk{dz dw am dk scope pos it ac env}(Ex)(I:Nat->Shared->Prop)
  (fy:∀n s,I n s->wpAny (model prog w) A (pyNext it) (λr s1=>match r with
   | none=>R (.ok .next) s1
   | some v=>wpAny (model prog w) A (letOwnedTupleGo dw it v) (λ_ s2=>wpAny (model prog w) A (assign dw env v) (λ_ s3=>
     wpAny (model prog w) A (qwm dk env) (λok s4=>
      if ok=true then
       wpAny (model prog w) A (eval dz env) (λx s5=>wpAny (model prog w) A (call (.builtin "list.append") [ac,x]) (λ_ s6=>∃m,m<n/\I m s6) Ex s5) Ex s4
      else ∃m,m<n/\I m s4) Ex s3) Ex s2) Ex s1) Ex s)
  (hx:∀e s,Ex e s->notedBy (model prog w) A env (λe s'=>R (.error e) s') e s) n (h:I n s):codeAny (model prog w) A (.compLoop (.ListComp dz [⟨dw,am,dk,0⟩] scope pos) 0 it ac env) R s:=by
 refine codeAny_loop rfl I (λn s hI=>(wpAny_noted ?_)) n h;rw[compTurn_list];refine wpAny_mono (X0 (wpAny_standAt (X0 (thn (fy n s hI) λr s1 h1=>?_)))) (λ_ _ q=>q) (λe s q=>?_)
 rotate_left
 ·exact hx e s q
 cases r with
 |none=>exact X3 h1
 |some v=>
  refine X0 (thn h1 λ_ s2 h2=>(X0 (thn h2 λ_ s3 h3=>(X0 (thn h3 λok s4 h4=>?_)))));cases ok with|false=>exact X3 ⟨rfl,h4⟩|true=>exact X0 (X0 (thn h4 λx s5 h5=>X0 (thn h5 λ_ s6 h6=>X3 (X3 ⟨rfl,h6⟩))))
end
section
variable {X:Cx}{tg am dz:Expr}{dk:List Expr}{scope:Scope}{N:List Str}{k:Nat}{R:List Nat}{g:TG}{tt:TT}{te:TE}{pos:Pos}
theorem vq0{EX a7 cb}{σ σ':L2.St}{H2 H' s2 s' fp cl}{C x T:Addr}{Cc fl Q ac use}(gx:x6 X EX)
  (I2:Inv X a7 σ H2 s2) (f2:∀b∈fp,vj X a7 H2 b) (hC:s2.heap.objs.size<=C) (t:Xt (lcX X scope N cl C s2 H2 fp) cb σ' H' x T Cc fl s') (q:EX Cc none H'):
  compPost (model X.prog X.w) X.A X.xe use Q ac C (.error (.ref x)) s':=by
 obtain⟨m,hn,_⟩:=t.inv.loc;refine⟨m,hn,λh' sb jt _=>?_⟩;have fC:=I2.fpOk hC t.inv.free;have J2:Inv X a7 σ H' {s' with heap:=h',toks:=s'.toks}:=(I2.call' t.inv.os t.inv.base t.inv.hok t.inv.bare λb hb=>⟨(f2 b hb).2.2.2.1,(f2 b hb).2.1,(f2 b hb).2.2.2.2.1,(f2 b hb).2.2.2.2.2⟩).turned (λb o hb e=>(sb.2 b hb).trans e) fC.1 fC.2.1 fC.2.2.2.1 fC.2.2.2.2.1 fC.2.2.2.2.2;have fp':∀b,FpX (lcX X scope N cl C s2 H2 fp) cb H' b->FpX X a7 H' b:=λb hb=>by
  rcases hb.2.2.2.1 with z|z
  ·exact⟨hb.1,(FpX.of (f2 b z)).2⟩
  ·exact fpX I2 z hb.1
 have nx:=t.fx.2.1;have nT:=t.fT.2.1;have f:FlT h' x T Cc fl:=by
  obtain⟨⟨vs,e1,v1⟩,⟨oT,ts,e2,d2,v2⟩,fb⟩:=t.f;exact⟨⟨vs,(sb.2 x nx).trans e1,v1⟩,⟨oT,ts,(sb.2 T nT).trans e2,d2,v2⟩,fb⟩
 refine wkf ⟨J2,fp' x t.fx,fp' T t.fT,f⟩ λs3 m6 t3=>gx a7 σ H' s3 x Cc t3.inv t3.to q
theorem kvz{EX a7}{σ:L2.St}{H2 s2 it fp tn J Q W cl}{E}
  {RR:Value->Addr->Result->Shared->Prop} (hc:X.calm=true) (top:Jv X) (sc:LcOk X scope N k R)
  (cz:∀x c,cl.lookup x=some c->X.env.cells.lookup x=some c) (bo:∀y∈scope.names,y.2=.free->∃c,cl.lookup y.1=some c)
  (hg:∀C s0 H0 fp,PG (lcE X scope N cl C s0 H0 fp EX) tg g) (ht:∀C s0 H0 fp,PTs (lcE X scope N cl C s0 H0 fp EX) dk tt) (he:∀C s0 H0 fp,PE (lcE X scope N cl C s0 H0 fp EX) dz te)
  (I2:Inv X a7 σ H2 s2) (T:Turn X.prog X.w X.K tg J fp it tn) (b8:tn 0 s2.heap) (f2:∀b∈fp,vj X a7 H2 b) (w0:∃m,W 0 m [] (Jq k R σ) H2) (fy:LcW g tt te Q J W)
  (hRR:∀D C oC m ys H' s',Inv X (a7++[(C,oC)]) σ (upd H' D (.lst ys)) s'->s'.heap.get? C=some oC->s'.heap.Ns C m->vj X a7 (upd H' D (.lst ys)) C->Q (.ref D) (upd H' D (.lst ys))->RR (.ref D) C (.ok .next) s')
  (hER:∀D C s' cb σ' H' x T Cc fl,s2.heap.objs.size<=C->Xt (lcX X scope N cl C s2 H2 fp) cb σ' H' x T Cc fl s'->EX Cc none H'->RR (.ref D) C (.error (.ref x)) s'):
  wpAny (model X.prog X.w) X.A (newList []) (λac s3=>wpAny (model X.prog X.w) X.A (newFunctionEnv scope X.env.globals cl [] X.env.qual none .none (some X.env)) (λjt s4=>
   codeAny (model X.prog X.w) X.A (.compStart (.ListComp dz [⟨tg,am,dk,0⟩] scope pos) 0 (.ref it) ac {jt with scope:=relabel scope X.env}) (RR ac jt.locals) s4) E s3) E s2:=by
 have qg:∀b∈fp,∃o,s2.heap.get? b=some o:=λb hb=>let ⟨o,e,_⟩:=T.obj 0 _ b8 b hb;⟨o,e⟩
 refine Ya (wpAny_newFunctionEnv sc.nocell (by intro y hy;simp at hy) (λh1 hn1 sx=>?_) sc.kind);dsimp only at hn1 sx ⊢;generalize eH:s2.heap.push {cls:=.type "list",dict:=none,data:=.seq ([]:List Value).toArray}=Hx at hn1 sx ⊢;have eC:Hx.objs.size=s2.heap.objs.size+1:=by rw[<-eH,Heap.size_push]
 generalize eD:s2.heap.objs.size=D at eC;generalize eC':Hx.objs.size=C at hn1 sx eC ⊢;have oh:D≠C:=⋯
 have hC:s2.heap.objs.size<=C:=⋯
 have hD:s2.heap.objs.size<=D:=⋯
 have cy:∀b o,s2.heap.get? b=some o->h1.get? b=some o:=λb o e=>by
  exact sx.extBut b o (Xj (Xm (Xd e) hC)) (X1 _ (eH▸X1 _ e))
 have accD:h1.get? D=some (VX [] 0):=by
  refine sx.extBut _ _ oh (X1 _ ?_);rw [<-eH,<-eD];exact Xe _ rfl
 have below:∀b∈fp,b≠D/\b≠C:=λb hb=>by
  obtain⟨o,e⟩:=qg b hb;exact⟨Xj (Xm (Xd e) hD),Xj (Xm (Xd e) hC)⟩
 have gz:∀{H' oD},(∀b∈fp,H' b=none)->∀b∈fp,vj (lcE X scope N cl C s2 H2 fp EX) [(D,oD)] H' b:=fun {H' oD} hn b hb=>by
  obtain⟨_,f1,f3,f4,f5,f6⟩:=f2 b hb;refine⟨hn b hb,(below b hb).2,λz=>?_,.inl hb,λx c h=>f5 x c (cz x c h),λp hp=>?_⟩
  ·rcases aD (I2.stkSub b z)with y|y
   ·exact f1 y
   ·exact f3 y
  ·have e:p=(D,oD):=by
    have hp:p∈([]++[(D,oD)]:LA9):=hp
    simpa using hp
   rw [e];exact(below b hb).1.symm
 have loop:∀s3:Shared,s3={s2 with heap:=h1,toks:=s2.toks+([]:List (Str×Value)).length} ->
   codeAny (model X.prog X.w) X.A (.compLoop (.ListComp dz [⟨tg,am,dk,0⟩] scope pos) 0 (.ref it) (.ref D) (compEnvC scope cl C X.env)) (RR (.ref D) C) s3:=by
  rintro s3 rfl;obtain⟨m0,w0⟩:=w0;have hxx:∀e s,Xo (lcX X scope N cl C s2 H2 fp) EX e s->notedBy (model X.prog X.w) X.A (compEnvC scope cl C X.env) (λe s'=>RR (.ref D) C (.error e) s') e s:=by
   rintro e s ⟨cb,σ',H',x,Cc,rfl,I',f',q'⟩;have top':Jv (lcX X scope N cl C s2 H2 fp):=top;exact qw0 (X:=lcX X scope N cl C s2 H2 fp) top' rfl I' f' λL T s1 _ t=>hER D C s1 cb σ' H' x T Cc _ hC t q'
  refine vwk (Xo (lcX X scope N cl C s2 H2 fp) EX) (λn s'=>∃i ys a8 nn σ' H',Inv (lcE X scope N cl C s2 H2 fp EX) [(D,VX a8 nn)] σ' H' s'/\Vals ys a8/\tn i s'.heap/\(∀b∈fp,H' b=none)/\W i n ys σ' H') ?_ hxx m0
   ⟨0,[],[],0,_,H2,(vwi I2 sc f2 qg hC hD oh cz bo cy hn1 accD (λv z=>by cases z)).wish _,.nil,T.keep _ _ _ b8 (λb hb o e=>cy b o e),λb hb=>(f2 b hb).1,w0⟩
  rintro n s3 ⟨i,ys,a8,nn,σ3,H3,I3,rv,cg,fr3,w3⟩;rcases fy i n ys σ3 H3 w3 with⟨stop,hz,qn⟩|⟨go,step⟩
  ·refine thn (T.done (lcE X scope N cl C s2 H2 fp EX) rfl rfl rfl hc i _ s3 σ3 H3 _ I3 (gz fr3) cg stop) λr s4 ⟨hr,I4⟩=>?_
   subst hr;show RR (.ref D) C (.ok .next) s4;have hD4:=I4.pin (D,VX a8 nn) (by show _∈([]++[(D,VX a8 nn)]:LA9);simp);have J1:Inv X a7 σ H3 s4:=I2.call' I4.os I4.base I4.hok I4.bare λb hb=>⟨(f2 b hb).2.2.2.1,(f2 b hb).2.1,(f2 b hb).2.2.2.2.1,(f2 b hb).2.2.2.2.2⟩
   have fD:vj X a7 H3 D:=I2.fpOk hD hD4.2.1;have fC:vj X a7 H3 C:=I2.fpOk hC I4.free;have J2:Inv X a7 σ (upd H3 D (.lst ys)) s4:=kjf J1 hD4.2.1 fD.2.1 fD.2.2.2.1 fD.2.2.2.2.1 fD.2.2.2.2.2 ⟨hz,a8,nn,rv,hD4.1⟩;obtain⟨mC,nC,_⟩:=I4.loc;obtain⟨oC,es,ep,hoC,hdC,ik⟩:=id nC;have fC':vj X a7 (upd H3 D (.lst ys)) C:=⟨by rw[kq oh.symm];exact fC.1,fC.2⟩;refine hRR D C oC mC ys H3 s4 (J2.pins_of λp hp=>?_) hoC nC fC' (qn D hD4.2.1);rcases aA hp with z|z
   ·exact J2.pin p (lr9 _ z)
   ·rw[aC z];exact⟨hoC,fC'.1,fC'.2.1,fC'.2.2.1,λv y=>by rw[hdC]at y;cases y⟩
  ·refine thn (T.item (lcE X scope N cl C s2 H2 fp EX) rfl rfl rfl hc i _ s3 σ3 H3 _ I3 (gz fr3) cg go) λr s4 ⟨u,hr,h4⟩=>?_
   subst hr;refine thn h4 λ_ s5 ⟨x,H5,I5,r5,y5,st5,fr5⟩=>?_
   have I5':=I5.pinned (gz fr5) (T.obj _ _ st5);have il:∀{σ'} {H':Hp} {s':Shared} {pl:LA9},Inv (lcE X scope N cl C s2 H2 fp EX) (pl++Kv fp s5.heap) σ' H' s'->tn (i+1) s'.heap/\∀b∈fp,H' b=none:=fun {σ' H' s' pl} I'=>by
    have q:∀b∈fp,∀o,s5.heap.get? b=some o->s'.heap.get? b=some o/\H' b=none:=λb hb o e=>by
     obtain⟨a1,a2,_⟩:=I'.pin (b,o) (lr9 _ (lr9 _ (jxp hb e)));exact⟨a1,a2⟩
    refine⟨T.keep _ _ _ st5 λb hb o e=>(q b hb o e).1,λb hb=>?_⟩;obtain⟨o,e,_⟩:=T.obj _ _ st5 b hb;exact(q b hb o e).2
   refine thn (hg C s2 H2 fp _ s5 σ3 H5 x u _ I5' r5 (step x H5 y5)) λ_ s6 ⟨σ6,H6,I6,Ny,Nn,hNy,hNn,q6⟩=>?_
   refine thn (ht C s2 H2 fp _ s6 σ6 H6 _ I6 q6) λok s7 ⟨H7,I7,q7⟩=>?_
   cases ok with
   | false=>
    obtain⟨m',hm,w7⟩:=hNn _ q7;exact⟨m',hm,i+1,ys,a8,nn,σ6,H7,I7.unpinned,rv,(il I7).1,(il I7).2,w7⟩
   | true=>
    refine thn (he C s2 H2 fp _ s7 σ6 H7 _ I7 q7) λu8 s8 ⟨y,H8,I8,r8,q8⟩=>?_
    obtain⟨hz,m',hm,w8⟩:=hNy _ _ q8;have pD:=I8.pin (D,VX a8 nn) (lr9 _ (ll9 _ (aB rfl)));have ae:=rv.length;refine append_at (hsz:=by rw[X9];lia) pD.1 λh9 sb9 e9=>?_
    have I8a:Inv (lcE X scope N cl C s2 H2 fp EX) ([]++Kv fp s5.heap) σ6 H8 s8:=I8.pins_of λp hp=>I8.pin p (lr9 _ (lr9 _ hp))
    have I9:Inv (lcE X scope N cl C s2 H2 fp EX) ([]++Kv fp s5.heap) σ6 H8 {s8 with heap:=h9,toks:=s8.toks}:=I8a.turned (it:=D) (λb o hb e=>(sb9.2 b hb).trans e) pD.2.1 oh (.inr hD)
     (λx c h z=>by
      obtain⟨v,q⟩:=I2.cell x c (cz x c h);exact absurd (Xm q.lt (by rw[z];exact hD)) (Yu _))
     (λp hp z=>by
      have hp:p∈([]++([]++Kv fp s5.heap):LA9):=hp;have hp:p∈Kv fp s5.heap:=by simpa using hp
      exact(below p.1 (kvw hp).1).1 z)
    have e9':h9.get? D=some (VX (a8++[u8]) (nn+1)):=by rw[e9];simp[List.push_toArray]
    refine⟨m',hm,i+1,ys++[y],a8++[u8],nn+1,σ6,H8,I9.pins_of λp hp=>?_,rv.append (.cons r8 .nil),(il I9).1,(il I9).2,w8⟩;rw[aC hp];exact⟨e9',pD.2.1,pD.2.2.1,pD.2.2.2.1,λv z=>by cases z⟩
 exact codeAny_compStart_list (loop _ rfl) (T.self _ 0 _ _ _ (T.keep _ _ _ b8 λb hb o e=>cy b o e) (loop _ rfl))
theorem wk9{EX:XK}{wi:TI}(N:List Str)(k:Nat)(R:List Nat)(hi:PI X tg am wi)
  (hg:∀cl C s0 H0 fp,PG (lcE X scope N cl C s0 H0 fp EX) tg g) (ht:∀cl C s0 H0 fp,PTs (lcE X scope N cl C s0 H0 fp EX) dk tt) (he:∀cl C s0 H0 fp,PE (lcE X scope N cl C s0 H0 fp EX) dz te)
  (gx:x6 X EX) (top:Jv X) (hc:autoParam (X.calm=true) Ŕ) (hk:autoParam (scope.kind=.function) Ŕ) (jh:autoParam (Qk X.N X.env.scope scope N k R=true) Ŕ) (hs:autoParam (∀x,foldedSetIterable am X.env x=pure x) Ŗ):
  PE X (.ListComp dz [⟨tg,am,dk,0⟩] scope pos) (tLC wi g tt te k R):=by
 intro a7 s σ H Q I h;have sc:=qjh hk jh;obtain⟨cl,ju,cz,bo⟩:=kkk (scope:=scope) (env:=X.env) λy hy e=>I.ok.has y.1 (sc.caps y hy e)
 rw[eval_ListComp];refine wpAny_comprehension_free (use:=none) rfl hs ju sc.kind sc.names (thn (hi a7 s σ H _ I h) λv s1 h1=>thn h1 λitv s2 h2=>?_);obtain⟨it,fp,tn,J,H2,e,I2,T,b8,f2,W,w0,fy⟩:=h2;subst e;refine kvz (EX:=EX) (RR:=λac C=>compPost (model X.prog X.w) X.A X.xe none (EP X a7 σ Q) ac C) hc top sc cz bo (hg cl) (ht cl) (he cl) I2 T b8 f2 w0 fy ?_ ?_
 rotate_left
 ·intro D C s' cb σ' H' x T Cc fl hC t q;exact vq0 gx I2 f2 hC t q
 intro D C oC m ys H' s' I' _ nC fC q;exact⟨m,nC,λh' sb=>⟨.ref D,_,I'.unpinned.turned (it:=C) (t':=s'.toks) (λb o hb e=>(sb.2 b hb).trans e) fC.1 fC.2.1 fC.2.2.2.1 fC.2.2.2.2.1 fC.2.2.2.2.2,rfl,q⟩⟩
end
structure ExAt (K:Frag)(x:Addr)(ox:Obj)(C:Addr):Prop where
 cls:ox.cls=.ref C
 no:PySem.W.notCls ox=true
 di:ox.dict=none
 xc:XCls K C
end L3
namespace Q
open PySem
inductive D where
 |non|bl (b:Bool)|int (i:Int)|str (z:Str)|tup (xs:List D)|lst (xs:List D)|dct (a9:List (D×D))|obj (c:Str) (fs:List (Str×D))
instance:DecidableEq D:=λa b=>Classical.propDecidable (a=b)
instance:Inhabited D:=⟨.non⟩
mutual
noncomputable def D.pure:D->Bool
 |.tup xs=>D.pures xs|.lst _=>false|.dct _=>false|.obj _ _=>false|_=>true
noncomputable def D.pures:List D->Bool
 |[]=>true|a::x=>D.pure a&&D.pures x
end
theorem D.pures_all:∀xs,D.pures xs=xs.all D.pure
 |[]=>by simp[D.pures]|a::x=>by rw[D.pures,List.all_cons,D.pures_all x]
@[simp] theorem D.pures_map {α:Type} f (xs:List α)(h:∀x∈xs,(f x).pure=true):D.pures (xs.map f)=true:=by
 rw[D.pures_all,Xy];intro d hd;obtain⟨x,hx,rfl⟩:=aE hd;exact h x hx
mutual
noncomputable def peq:D->D->Bool
 |.non,.non=>true|.bl a,.bl b=>a==b|.bl a,.int b=>(if a then 1 else 0)==b|.int a,.bl b=>a==(if b then 1 else 0)|.int a,.int b=>a==b|.str a,.str b=>a==b|.lst as,.lst bs=>peqs as bs|.tup as,.tup bs=>peqs as bs|_,_=>false
noncomputable def peqs:List D->List D->Bool
 |[],[]=>true|a::as,b::bs=>peq a b&&peqs as bs|_,_=>false
end
mutual
noncomputable def D.flat:Nat->D->Bool
 |0,.tup _=>false|0,.lst _=>false|n+1,.tup xs=>D.flats n xs|n+1,.lst xs=>D.flats n xs|_,.dct _=>false|_,.obj _ _=>false|_,_=>true
noncomputable def D.flats:Nat->List D->Bool
 |_,[]=>true|n,a::x=>D.flat n a&&D.flats n x
end
mutual
noncomputable def jK:Nat->D->Bool
 |_,.non=>true|_,.int _=>true|_,.str _=>true|n+1,.tup xs=>keyDs n xs|_,_=>false
noncomputable def keyDs:Nat->List D->Bool
 |_,[]=>true|n,a::x=>jK n a&&keyDs n x
end
def unm : List (D × D) -> Bool
  |(.str _,_)::_=>false|_=>true
inductive Own where
 |no|rt|dp
 deriving DecidableEq
abbrev Sd:=Own×D
abbrev En:=List (Option Sd)
inductive Res (α:Type) where
 |ok (E:En) (a:α)
 |exc (E:En) (c:Str)
abbrev Ev(α:Type):=En->Option (Res α)
abbrev Ex:=Ev Sd
def bnd{α β:Type}(m:Option (Res α))(f:En->α->Option (Res β)):Option (Res β):=
 match m with
 |some (.ok E a)=>f E a|some (.exc E c)=>some (.exc E c)|none=>none
@[simp] theorem xjc {α β:Type}(E:En)(a:α)(f:En->α->Option (Res β)):bnd (some (.ok E a)) f=f E a:=rfl
@[simp] theorem wzd {α β:Type}(E:En)(c:Str)(f:En->α->Option (Res β)):bnd (some (.exc E c)) f=some (.exc E c):=rfl
@[simp] theorem ww2 {α β:Type}(f:En->α->Option (Res β)):bnd none f=none:=rfl
def val{α:Type}(E:En)(x:Option α):Option (Res α):=x.map (Res.ok E)
@[simp] theorem wvo {α:Type}(E:En)(x:α):val E (some x)=some (.ok E x):=rfl
@[simp] theorem wvp {α:Type}(E:En):val E (none:Option α)=none:=rfl
def cC(d:D):Ex:=λE=>some (.ok E (.dp,d))
def cV(i:Nat):Ex:=λE=>match E[i]? with
 |some (some (_,d))=>some (.ok (E.set i (some (.no,d))) (.no,d))|_=>none
def cMv(i:Nat):Ex:=λE=>match E[i]? with
 |some (some x)=>some (.ok (E.set i none) x)|_=>none
def vV(i:Nat):Ex:=λE=>match E[i]? with
 |some (some x)=>some (.ok E x)|_=>none
def vE(c:Ex):Ex:=λE=>bnd (c E) λE x=>some (.ok E (.no,x.2))
abbrev C9(z:Int):Ex:=vE (cC (.int z))
def cH(v:Ex):Ex:=λE=>bnd (v E) λE x=>if x.1=.no then some (.ok E (.no,x.2))else if x.2.pure then some (.ok E (.dp,x.2))else none
def cF1(f:Sd->Option Sd)(a:Ex):Ex:=λE=>bnd (a E) λE x=>val E (f x)
def cF2(f:Sd->Sd->Option Sd)(a b:Ex):Ex:=λE=>bnd (a E) λE x=>bnd (b E) λE y=>val E (f x y)
def pu1(f:D->Option D):Sd->Option Sd:=λx=>(f x.2).map λd=>(.dp,d)
def pu2(f:D->D->Option D):Sd->Sd->Option Sd:=λx y=>(f x.2 y.2).map λd=>(.dp,d)
def xja:D->List D
 |.lst xs=>xs|.tup xs=>xs|.dct a9=>a9.map (·.2)|_=>[]
def kj(x:Sd):Bool:=x.1 != .dp||D.pures (xja x.2)
def sub:Own->Own
 |.dp=>.dp|_=>.no
def ixN(n:Nat)(i:Int):Option Nat:=if 0<=i then(if i<n then some i.toNat else none)else if -(n:Int)<=i then some (i+n).toNat else none
noncomputable def ixD:D->D->Option D
 |.lst xs,.int i=>(ixN xs.length i).bind λj=>xs[j]?|.tup xs,.int i=>(ixN xs.length i).bind λj=>xs[j]?|.str z,.int i=>(ixN z.cps.size i).bind λj=>(z.cps.toList[j]?).map λc=>.str ⟨#[c]⟩|.dct a9,k=>(a9.find? λe=>decide (e.1=k)).map (·.2)|_,_=>none
def big:Nat:=16777216
def i2(f:Int->Int->Option Int):D->D->Option D
 |.int a,.int b=>(f a b).map .int|_,_=>none
def c2(f:Int->Int->Bool):D->D->Option D
 |.int a,.int b=>some (.bl (f a b))|_,_=>none
def Zz(a:Int):Bool:=decide (-(2 ^ 64)<a)&&decide (a<2 ^ 64)
noncomputable def k4:Sd->Sd->Option Sd:=λx y=>match x.2,y.2 with
 |.int a,.int b=>some (.dp,.int (a+b))|.str a,.str b=>if a.cps.size+b.cps.size<=big then some (.dp,.str (a++b))else none|.lst a,.lst b=>if a.length+b.length<=big/\kj x/\kj y then some (.rt,.lst (a++b))else none|.tup a,.tup b=>if a.length+b.length<=big/\kj x/\kj y then some (.no,.tup (a++b))else none|_,_=>none
def K7(a b:Int):Bool:=Zz a||Zz b||(decide (a.natAbs.log2<2000000)&&decide (b.natAbs.log2<2000000))
noncomputable def XW:Sd->Sd->Option Sd:=λx y=>match x.2,y.2 with
 |.int a,.int b=>if K7 a b then some (.dp,.int (a*b))else none|.lst a,.int k=>if -(2 ^ 63)<=k/\k<2 ^ 63/\a.length*k.toNat<=big/\kj x then some (.rt,.lst (List.replicate k.toNat a).flatten)else none|.str z,.int n=>if(z.cps.size<=1024/\n<=1024/\-1024<=n)/\(Txt.mul z n).cps.size<=big then some (.dp,.str (Txt.mul z n))else none|_,_=>none
def XQ:D->D->Option D:=i2 λa b=>some (a - b)
def xq:D->D->Option D:=i2 λa b=>if 0<b/\b.natAbs.log2<9000 then some (a / b)else none
def kY:D->D->Option D:=i2 λa b=>if 0<b then some (a % b)else none
def Q9:D->D->Option D:=i2 λa b=>if 0<=b/\b<=1000000/\a.natAbs<2 ^ 64 then some (a ^ b.toNat)else none
def wz0:D->D->Option D:=i2 λa b=>if 0<=b/\b<=1000000/\a.natAbs<2 ^ 64 then some (a*2 ^ b.toNat)else none
def fEq:D->D->Option D:=λa b=>if a.flat 40&&b.flat 40 then some (.bl (peq a b))else none
def fNe:D->D->Option D:=λa b=>if a.flat 40&&b.flat 40 then some (.bl (!peq a b))else none
def isNon:D->Bool
 |.non=>true|_=>false
def fLt:D->D->Option D:=c2 λa b=>decide (a<b)
def fLe:D->D->Option D:=c2 λa b=>decide (a<=b)
def fGt:D->D->Option D:=c2 λa b=>decide (b<a)
def wz1(a b:Str):Bool:=!(Builtin.Str.occurrences b a 0 b.length 1).isEmpty
noncomputable def fIn:D->D->Option D:=λx y=>match y with
 |.lst ys=>if x.flat 30&&D.flats 30 ys then some (.bl (ys.any λz=>peq z x))else none|.tup ys=>if x.flat 30&&D.flats 30 ys then some (.bl (ys.any λz=>peq z x))else none
 |.str b=>(match x with
  |.str a=>some (.bl (wz1 a b))
  |_=>none)
 |.dct a9=>some (.bl (a9.any λe=>decide (e.1=x)))|_=>none
def qx6:D->D->Option D:=λx y=>(fIn x y).bind λd=>match d with
 |.bl k=>some (.bl (!k))|_=>none
def qz:D->Option D
 |.lst xs=>some (.int xs.length)|.tup xs=>some (.int xs.length)|.str z=>some (.int z.length)|_=>none
def kind:D->String
 |.non=>"NoneType"|.bl _=>"bool"|.int _=>"int"|.str _=>"str"|.tup _=>"tuple"|.lst _=>"list"|.dct _=>"dict"|.obj _ _=>""
def isaK(t u:String):Bool:=t==u||(t == "bool" && u == "int")
def kW(u:String):D->Option D:=λd=>match d with
 |.obj _ _=>none|.dct _=>none|_=>some (.bl (isaK (kind d) u))
def fIsNon:D->Option D:=λd=>some (.bl (isNon d))
abbrev Ts:=Ev Bool
def truth:D->Option Bool
 |.bl b=>some b|.non=>some false|.int i=>some (i != 0)|.str z=>some (z.cps.size != 0)|.lst xs=>some (!xs.isEmpty)|.tup xs=>some (!xs.isEmpty)|.dct xs=>some (!xs.isEmpty)|.obj _ _=>none
def tE(c:Ex):Ts:=λE=>bnd (c E) λE x=>val E (truth x.2)
def tOr(a b:Ts):Ts:=λE=>bnd (a E) λE x=>if x then some (.ok E true)else b E
def tNot(a:Ts):Ts:=λE=>bnd (a E) λE x=>some (.ok E (!x))
def tYes:Ts:=λE=>some (.ok E true)
def wv3(a b:Ex):Ex:=λE=>bnd (a E) λE x=>match x.2 with
 |.bl true=>b E|.bl false=>some (.ok E (.dp,.bl false))|_=>none
def KZ:D->D->Option D:=λx y=>match y with
 |.dct _=>none|_=>fIn x y
def wW:D->D->Option D:=λx y=>match y with
 |.dct _=>none|_=>qx6 x y
def f2First(f:D->Option D):Sd->Sd->Option Sd:=λx y=>if isNon y.2 then(f x.2).map λd=>(.dp,d)else none
def kw:D->D->Option D:=λx y=>match x with
 |.dct _=>none|_=>ixD x y
def k6(a b:Ex):Ex:=λE=>bnd (a E) λE x=>bnd (b E) λE y=>val E ((kw x.2 y.2).map λd=>(sub x.1,d))
def truthQ:D->Option Bool:=λd=>match d with
 |.dct _=>none|_=>truth d
def tEQ(c:Ex):Ts:=λE=>bnd (c E) λE x=>val E (truthQ x.2)
def vk7(c:Ex):Ex:=λE=>bnd (c E) λE x=>val E ((truthQ x.2).map λk=>(.dp,.bl (!k)))
def kQ:List Ex->Ev (List Sd)
 |[],E=>some (.ok E [])|c::cs,E=>bnd (c E) λE x=>bnd (kQ cs E) λE xs=>some (.ok E (x::xs))
def kJ(x:Sd):Bool:=x.1 == .dp||x.2.pure
def qk(o:Own)(cs:List Ex):Ex:=λE=>bnd (kQ cs E) λE xs=>if o=.dp then(if xs.all kJ then some (.ok E (.dp,.lst (xs.map (·.2))))else none)else some (.ok E (.rt,.lst (xs.map (·.2))))
def qZ(o:Own)(cs:List Ex):Ex:=λE=>bnd (kQ cs E) λE xs=>if o=.dp then(if xs.all kJ then some (.ok E (.dp,.tup (xs.map (·.2))))else none)else some (.ok E (.no,.tup (xs.map (·.2))))
inductive Fl where
 |nx (E:En)|rt (E:En) (x:Sd)|ct (E:En)|bk (E:En)|xc (E:En) (c:Str)
abbrev Sm:=En->Option Fl
def ofE{α:Type}(m:Option (Res α))(f:En->α->Option Fl):Option Fl:=
 match m with
 |some (.ok E a)=>f E a|some (.exc E c)=>some (.xc E c)|none=>none
@[simp] theorem xj3 {α:Type}(E:En)(a:α)(f:En->α->Option Fl):ofE (some (.ok E a)) f=f E a:=rfl
@[simp] theorem wxh {α:Type}(E:En)(c:Str)(f:En->α->Option Fl):ofE (some (.exc E c)) f=some (.xc E c):=rfl
@[simp] theorem wvv {α:Type}(f:En->α->Option Fl):ofE none f=none:=rfl
def j7(a b:Sm):Sm:=λE=>match a E with
 |some (.nx E)=>b E|r=>r
def kZ:Sm:=λE=>some (.nx E)
def jV(i:Nat)(c:Ex):Sm:=λE=>ofE (c E) λE x=>some (.nx (E.set i (some x)))
def jW(c:Ex):Sm:=λE=>ofE (c E) λE x=>some (.rt E x)
def sIf(t:Ts)(a b:Sm):Sm:=λE=>ofE (t E) λE x=>if x then a E else b E
inductive Tg where
 |n (i:Nat)|t (ts:List Nat)
def setAll:List Nat->List D->En->Option En
 |[],[],E=>some E|i::is,d::ds,E=>setAll is ds (E.set i (some (.no,d)))|_,_,_=>none
def Tg.put:Tg->D->En->Option En
 |.n i,d,E=>some (E.set i (some (.no,d)))|.t is,.tup ds,E=>setAll is ds E|.t is,.lst ds,E=>setAll is ds E|.t _,_,_=>none
def JK(tg:Tg)(b:Sm):List D->En->Option Fl
 | [],E=>some (.nx E)
 | d::ds,E=>match tg.put d E with
  |none=>none
  |some E=>match b E with
   |some (.nx E)=>JK tg b ds E|some (.ct E)=>JK tg b ds E|some (.bk E)=>some (.nx E)|r=>r
def vJ(it:Ev (List D))(tg:Tg)(b:Sm):Sm:=λE=>ofE (it E) λE ds=>JK tg b ds E
def at'{α:Type}(L:List (Option α))(j:Nat):Option α:=(L[j]?).join
def clr{α:Type}:List Nat->List (Option α)->List (Option α)
 |[],L=>L|j::R,L=>clr R (L.set j none)
def back{α:Type}:List Nat->List (Option α)->List (Option α)->List (Option α)
 |j::R,q::B,L=>back R B (L.set j q)|_,_,L=>L
def Vz(k:Nat)(R:List Nat)(E:En):En:=List.replicate k none++R.map (at' E)
def JV(k:Nat)(R:List Nat)(B E:En):En:=back R (B.drop k) (clr R E)
def lcL(tg:Tg)(t:Ts)(c:Ex):List D->En->List Sd->Option (Res (List Sd))
 |[],B,ac=>some (.ok B ac)
 |d::ds,B,ac=>match tg.put d B with
  |none=>none|some B=>bnd (t B) λB x=>if x then bnd (c B) λB y=>lcL tg t c ds B (ac++[y])else lcL tg t c ds B ac
def mkL(o:Own)(E:En)(xs:List Sd):Option (Res Sd):=
 if o=.dp then(if xs.all kJ then some (.ok E (.dp,.lst (xs.map (·.2))))else none)else some (.ok E (.rt,.lst (xs.map (·.2))))
def cLC(o:Own)(k:Nat)(R:List Nat)(it:Ev (List D))(tg:Tg)(t:Ts)(c:Ex):Ex:=λE=>bnd (it E) λE ds=>
 match lcL tg t c ds (Vz k R E) []with
 |some (.ok B xs)=>mkL o (JV k R B E) xs|some (.exc B e)=>some (.exc (JV k R B E) e)|none=>none
def vjj:Option (Option Sd)->Bool
 |some (some (_,.lst _))=>true|_=>false
noncomputable def wK(f:List D->D->Option (List D))(i:Nat)(c:Ex):Sm:=λE=>if vjj E[i]? then ofE (c E) λE x=>match E[i]? with
 |some (some (o,.lst xs))=>if o=.no then none else(match f xs x.2 with
  |some ys=>some (.nx (E.set i (some (if o=.dp/\kJ x then .dp else .rt,.lst ys))))
  |none=>none)
 |_=>none
 else none
def wq:List D->D->Option (List D):=λxs d=>if xs.length<big then some (xs++[d])else none
def XJ:Sd->Option Sd:=λx=>match x.2 with
 |.lst xs=>if kj x then some (.rt,.lst xs)else none|.tup xs=>if kj x then some (.rt,.lst xs)else none|_=>none
def XZ:Sd->Option Sd:=λx=>match x.2 with
 |.lst xs=>if kj x then some (.no,.tup xs)else none|.tup xs=>if kj x then some (.no,.tup xs)else none|_=>none
def bls:List D->Option (List Bool)
 |[]=>some []|.bl b::ds=>(bls ds).map (b :: ·)|_=>none
def wqp:D->Option D
 |.lst ds=>(bls ds).map λbs=>.bl (bs.all id)|_=>none
def seqOf:D->Option (List D)
 |.lst xs=>some xs|.tup xs=>some xs|.str z=>if z.cps.size<=big then some (z.cps.toList.map λc=>.str ⟨#[c]⟩)else none|_=>none
def itS(c:Ex):Ev (List D):=λE=>bnd (c E) λE x=>val E (seqOf x.2)
def vX(i:Int):Bool:=decide (-(2 ^ 62)<=i)&&decide (i<2 ^ 62)
def jZ(lo hi:Int):List D:=(List.range (hi - lo).toNat).map λ(k:Nat)=>.int (lo+(k:Int))
def xv(c:Ex):Ev (List D):=λE=>bnd (c E) λE x=>match x.2 with
 |.int j=>if vX j/\j.toNat<=big then some (.ok E (jZ 0 j))else none|_=>none
def ww1(c:Ex):Ex:=λE=>bnd (c E) λE x=>match x.2 with
 |.int j=>if vX j/\j.toNat<=big then some (.ok E (.rt,.lst (jZ 0 j)))else none|_=>none
abbrev Fn:=List Sd->Option (Res Sd)
def fn(n:Nat)(b:Sm):Fn:=λxs=>match b (xs.map some++List.replicate (n - xs.length) none)with
 |some (.rt E x)=>some (.ok E x)|some (.nx E)=>some (.ok E (.dp,.non))|some (.xc E c)=>some (.exc E c)|_=>none
def letAll(xs:List Sd):List Sd:=xs.map λx=>(.no,x.2)
def k3(f:Fn)(cs:List Ex):Ex:=λE=>bnd (kQ cs E) λE xs=>match f (letAll xs)with
 |some (.ok _ y)=>some (.ok E y)|some (.exc _ c)=>some (.exc E c)|none=>none
end Q
namespace Q
open PySem PySem.Spec PyProof.Rows L2 L3
mutual
noncomputable def Qj(w:PySem.World):D->Int
 |.int i=>hashInt i|.str z=>hashStr w z|.tup xs=>reduceHash (Builtin.Tuple.tupleHashOf (hashDs w xs))|_=>4238894112
noncomputable def hashDs(w:PySem.World):List D->List Int
 |[]=>[]|a::x=>Qj w a::hashDs w x
end
def Kd:Type:={d:D // jK 6 d=true}
instance:DecidableEq Kd:=λa b=>Classical.propDecidable (a=b)
abbrev Ent:=Kd×Addr×Value
def V6(a:Addr)(es:List Ent)(ep:Nat):HO:=.ext λw h=>∃o ds,h.get? a=some o/\o.ExactDict/\o.data=.dict ds ep/\ds.toList=es.map λx=>(⟨Qj w x.1.1,.ref x.2.1,x.2.2⟩:DictEntry)
mutual
noncomputable def PuR(K:Frag)(H:Hp):D->V->Prop
 |.non,v=>v=.non|.int i,v=>v=.int i|.str z,v=>v=.str z/\z.length<=sizeLine|.tup ds,v=>∃a xs,v=.ref a/\SqT K H a xs/\PuRs K H ds xs|_,_=>False
noncomputable def PuRs(K:Frag)(H:Hp):List D->List V->Prop
 |[],xs=>xs=[]|d::ds,xs=>∃x r,xs=x::r/\PuR K H d x/\PuRs K H ds r
end
def DcN(K:Frag)(H:Hp)(a:Addr)(ks:List D)(vs:List V):Prop:=∃(es:List Ent) (ep:Nat),H a=some (V6 a es ep)/\(a==sysModules)=false/\es.length<=sizeLine/\(es.map (·.1)).Nodup/\ks=es.map (·.1.1)/\(∀x∈es,PuR K H x.1.1 (.ref x.2.1))/\Vals vs (es.map (·.2.2))
def DcI(H:Hp)(a:Addr)(ks:List D)(vs:List V):Prop:=∃(kv:List (Int×V)) (m:Str),H a=some (.dK (kv.map λp=>(Sum.inl p.1,p.2)))/\ks=.str m::kv.map (λp=>D.int p.1)/\vs=.non::kv.map (·.2)
def DcA(K:Frag)(H:Hp)(a:Addr)(ks:List D)(vs:List V):Prop:=DcN K H a ks vs\/DcI H a ks vs
theorem DcA.un{K H a a9 vs}(h:DcA K H a (a9.map (·.1)) vs)(hu:unm a9=true):DcN K H a (a9.map (·.1)) vs:=by
 rcases h with h|⟨kv,m,_,h,_⟩
 ·exact h
 ·cases a9 with
  |nil=>cases h
  |cons p r=>
   obtain⟨k,d⟩:=p;injection h with h1 _;subst h1;cases hu
def xjf(K:Frag)(a:Addr)(xs:List V):Prop:=∃(a8:Array Value) (n:Nat),K.lookup a=some {cls:=.type "list",data:=.seq a8 n}/\a8.size<=sizeLine/\Vals xs a8.toList
def ww4(K:Frag)(H:Hp)(a:Addr)(xs:List V):Prop:=(∃o,H a=some (.frz o (.lst xs)))\/xjf K a xs
def LsR(K:Frag)(H:Hp)(a:Addr)(xs:List V):Prop:=Rd H a (.lst xs)\/xjf K a xs
theorem LsR.of{K H a xs}(h:ww4 K H a xs):LsR K H a xs:=h.imp .inr id
theorem LsR.sq{K H a xs}(h:LsR K H a xs):SqL K H a xs:=by
 rcases h with h|⟨a8,n,h1,h2,h3⟩
 ·exact .inl h
 ·exact .inr ⟨_,a8,n,h1,rfl,rfl,rfl,h2,h3⟩
theorem LsR.is{X a7}{σ:L2.St}{H s a xs}(I:L2.Inv X a7 σ H s)(h:LsR X.K H a xs):xs.length<=sizeLine/\∃(a8:List Value) (n:Nat),Vals xs a8/\s.heap.get? a=some {cls:=.type "list",data:=.seq a8.toArray n}:=by
 rcases h with h|⟨a8,n,h1,h2,h3⟩
 ·obtain⟨z,a8,n,r,e⟩:=h.ok I.hok;exact⟨z,a8,n,r,e⟩
 ·have hl:=h3.length;simp at hl;exact⟨⋯,a8.toList,n,h3,by simpa using I.kIn a _ h1⟩
def ExD(K:Frag)(H:Hp)(c:Str)(v:V):Prop:=∃x o C,v=.ref x/\H x=some (.frz o (.ext λ_ _=>True))/\ExAt K x o C/\nsIn K mainGlobals c=some (some (.ref C))
mutual
noncomputable def RepL(K:Frag)(H:Hp)(g:Bool):D->V->List Addr->Prop
 |.non,v,as=>v=.non/\as=[]|.bl b,v,as=>v=.bl b/\as=[]|.int i,v,as=>v=.int i/\as=[]|.str z,v,as=>v=.str z/\as=[]/\z.length<=sizeLine|.tup ds,v,as=>∃a xs,v=.ref a/\SqT K H a xs/\RepA K H g ds xs as|.lst ds,v,as=>∃a xs bs,v=.ref a/\RepA K H g ds xs bs/\((H a=some (.lst xs)/\as=a::bs)\/(g=true/\ww4 K H a xs/\as=bs))|.dct a9,v,as=>∃a xs bs,v=.ref a/\RepP K H g a9 xs bs/\DcA K H a (a9.map (·.1)) xs/\as=a::bs|.obj c _,v,as=>as=[]/\ExD K H c v
noncomputable def RepA(K:Frag)(H:Hp)(g:Bool):List D->List V->List Addr->Prop
 |[],xs,as=>xs=[]/\as=[]|d::ds,xs,as=>∃x r bs cs,xs=x::r/\as=bs++cs/\RepL K H g d x bs/\RepA K H g ds r cs
noncomputable def RepP(K:Frag)(H:Hp)(g:Bool):List (D×D)->List V->List Addr->Prop
 |[],xs,as=>xs=[]/\as=[]|(_,d)::ds,xs,as=>∃x r bs cs,xs=x::r/\as=bs++cs/\RepL K H g d x bs/\RepP K H g ds r cs
end
def RepR(K:Frag)(H:Hp):D->V->List Addr->Prop
 |.lst ds,v,as=>∃a xs bs,v=.ref a/\RepA K H true ds xs bs/\H a=some (.lst xs)/\as=a::bs|.dct a9,v,as=>∃a xs bs,v=.ref a/\RepP K H true a9 xs bs/\DcA K H a (a9.map (·.1)) xs/\as=a::bs|_,_,_=>False
def RepO(K:Frag)(H:Hp):Own->D->V->List Addr->Prop
 |.no=>RepL K H true|.rt=>RepR K H|.dp=>RepL K H false
section
variable {K:Frag}{H H':Hp}
def Kp(H H':Hp)(as:List Addr):Prop:=(∀a xs,H a=some (.tup xs)->H' a=some (.tup xs))/\(∀a o u,H a=some (.frz o u)->H' a=some (.frz o u))/\∀a∈as,∀ob,H a=some ob->H' a=some ob
theorem Kp.left{as bs}(k:Kp H H' (as++bs)):Kp H H' as:=⟨k.1,k.2.1,λa ha=>k.2.2 a (ll9 _ ha)⟩
theorem Kp.right{as bs}(k:Kp H H' (as++bs)):Kp H H' bs:=⟨k.1,k.2.1,λa ha=>k.2.2 a (lr9 _ ha)⟩
theorem Kp.tail{a bs}(k:Kp H H' (a::bs)):Kp H H' bs:=⟨k.1,k.2.1,λb hb=>k.2.2 b (lc9 _ hb)⟩
theorem Kp.tupT{as a xs}(k:Kp H H' as)(h:SqT K H a xs):SqT K H' a xs:=by
 rcases h with(h|⟨o,h⟩)|h
 ·exact .inl (.inl (k.1 a xs h))
 ·exact .inl (.inr ⟨o,k.2.1 a o _ h⟩)
 ·exact .inr h
theorem Kp.frzL{as a xs}(k:Kp H H' as)(h:ww4 K H a xs):ww4 K H' a xs:=by
 rcases h with⟨o,h⟩|h
 ·exact .inl ⟨o,k.2.1 a o _ h⟩
 ·exact .inr h
mutual
theorem PuR.kp{as}(k:Kp H H' as):∀{d v},PuR K H d v->PuR K H' d v
 |.non,_,h=>h|.int _,_,h=>by unfold PuR at h ⊢;exact h
 |.tup ds,_,h=>by
  obtain⟨a,xs,e,s,r⟩:=h;exact⟨a,xs,e,k.tupT s,PuRs.kp k r⟩
 |.bl _,_,h=>h.elim|.str _,_,h=>by unfold PuR at h ⊢;exact h|.lst _,_,h=>h.elim|.dct _,_,h=>by unfold PuR at h;exact h.elim|.obj _ _,_,h=>h.elim
theorem PuRs.kp{as}(k:Kp H H' as):∀{ds xs},PuRs K H ds xs->PuRs K H' ds xs
 |[],_,h=>by unfold PuRs at h ⊢;exact h
 |d::ds,_,h=>by
  obtain⟨x,r,e,h1,h2⟩:=h;exact⟨x,r,e,PuR.kp k h1,PuRs.kp k h2⟩
end
theorem Kp.dcn{a bs ks vs}(k:Kp H H' (a::bs))(h:DcN K H a ks vs):DcN K H' a ks vs:=by
 obtain⟨es,ep,e,h1,h2,h3,h4,h5,h6⟩:=h;exact⟨es,ep,k.2.2 a X4 _ e,h1,h2,h3,h4,λx hx=>PuR.kp k (h5 x hx),h6⟩
theorem Kp.dca{a bs ks vs}(k:Kp H H' (a::bs))(h:DcA K H a ks vs):DcA K H' a ks vs:=by
 rcases h with h|⟨kv,m,e,h⟩
 ·exact .inl (k.dcn h)
 ·exact .inr ⟨kv,m,k.2.2 a X4 _ e,h⟩
theorem Kp.of_same{as}(s:jJ H H'):Kp H H' as:=⟨λa xs h=>s a _ h,λa o u h=>s a _ h,λa _ ob h=>s a ob h⟩
mutual
theorem RepL.kp{g}:∀{d v as},RepL K H g d v as->Kp H H' as->RepL K H' g d v as
 | .non,_,_,h,_=>h| .bl _,_,_,h,_=>by unfold RepL at h ⊢;exact h| .int _,_,_,h,_=>h| .str _,_,_,h,_=>by unfold RepL at h ⊢;exact h
 | .tup ds,_,_,h,k=>by
  obtain⟨a,xs,e,s,r⟩:=h;exact⟨a,xs,e,k.tupT s,RepA.kp r k⟩
 | .lst ds,_,_,h,k=>by
  obtain⟨a,xs,bs,e,r,q⟩:=h;refine⟨a,xs,bs,e,?_,?_⟩
  ·rcases q with⟨_,rfl⟩|⟨_,_,rfl⟩
   ·exact RepA.kp r k.tail
   ·exact RepA.kp r k
  ·rcases q with⟨h1,rfl⟩|⟨hg,h1,rfl⟩
   ·exact .inl ⟨k.2.2 a X4 _ h1,rfl⟩
   ·exact .inr ⟨hg,k.frzL h1,rfl⟩
 |.dct a9,_,_,h,k=>by
  obtain⟨a,xs,bs,e,r,q,rfl⟩:=h;exact⟨a,xs,bs,e,RepP.kp r k.tail,k.dca q,rfl⟩
 |.obj _ _,_,_,h,k=>by
  obtain⟨e,x,o,C,h1,h2,h3⟩:=h;exact⟨e,x,o,C,h1,k.2.1 _ _ _ h2,h3⟩
theorem RepA.kp{g}:∀{ds xs as},RepA K H g ds xs as->Kp H H' as->RepA K H' g ds xs as
 |[],_,_,h,_=>by unfold RepA at h ⊢;exact h
 |d::ds,_,_,h,k=>by
  obtain⟨x,r,bs,cs,e1,rfl,h1,h2⟩:=h;exact⟨x,r,bs,cs,e1,rfl,RepL.kp h1 k.left,RepA.kp h2 k.right⟩
theorem RepP.kp{g}:∀{ds xs as},RepP K H g ds xs as->Kp H H' as->RepP K H' g ds xs as
 |[],_,_,h,_=>by unfold RepP at h ⊢;exact h
 |_::ds,_,_,h,k=>by
  obtain⟨x,r,bs,cs,e1,rfl,h1,h2⟩:=h;exact⟨x,r,bs,cs,e1,rfl,RepL.kp h1 k.left,RepP.kp h2 k.right⟩
end
mutual
theorem RepL.wk:∀{d v as},RepL K H false d v as->RepL K H true d v as
 |.non,_,_,h=>h|.bl _,_,_,h=>by unfold RepL at h ⊢;exact h|.int _,_,_,h=>h|.str _,_,_,h=>by unfold RepL at h ⊢;exact h
 |.tup ds,_,_,h=>by
  obtain⟨a,xs,e,s,r⟩:=h;exact⟨a,xs,e,s,RepA.wk r⟩
 |.lst ds,_,_,h=>by
  obtain⟨a,xs,bs,e,r,q⟩:=h;refine⟨a,xs,bs,e,RepA.wk r,?_⟩;rcases q with q|⟨z,_⟩
  ·exact .inl q
  ·grind
 |.dct a9,_,_,h=>by
  obtain⟨a,xs,bs,e,r,q,z⟩:=h;exact⟨a,xs,bs,e,RepP.wk r,q,z⟩
 |.obj _ _,_,_,h=>h
theorem RepA.wk:∀{ds xs as},RepA K H false ds xs as->RepA K H true ds xs as
 |[],_,_,h=>by unfold RepA at h ⊢;exact h
 |d::ds,_,_,h=>by
  obtain⟨x,r,bs,cs,e1,e2,h1,h2⟩:=h;exact⟨x,r,bs,cs,e1,e2,RepL.wk h1,RepA.wk h2⟩
theorem RepP.wk:∀{ds xs as},RepP K H false ds xs as->RepP K H true ds xs as
 |[],_,_,h=>h
 |_::ds,_,_,h=>by
  obtain⟨x,r,bs,cs,e1,e2,h1,h2⟩:=h;exact⟨x,r,bs,cs,e1,e2,RepL.wk h1,RepP.wk h2⟩
end
mutual
theorem RepL.al{g}:∀{d v as},RepL K H g d v as->∀a∈as,(∃xs,H a=some (.lst xs))\/(∃ φ,H a=some (.ext φ))\/∃a9,H a=some (.dK a9)
 | .non,_,_,h=>by rw[h.2];exact λ_ z=>nomatch z| .bl _,_,_,h=>by rw[h.2];exact λ_ z=>nomatch z| .int _,_,_,h=>by rw[h.2];exact λ_ z=>nomatch z| .str _,_,_,h=>by rw[h.2.1];exact λ_ z=>nomatch z
 | .tup ds,_,_,h=>by
  obtain⟨a,xs,e,s,r⟩:=h;exact RepA.al r
 | .lst ds,_,_,h=>by
  obtain⟨a,xs,bs,e,r,q⟩:=h;rcases q with⟨h1,rfl⟩|⟨_,_,rfl⟩
  ·intro b hb;rcases aD hb with rfl|hb
   ·exact .inl ⟨_,h1⟩
   ·exact RepA.al r b hb
  ·exact RepA.al r
 | .dct a9,_,_,h=>by
  obtain⟨a,xs,bs,e,r,q,rfl⟩:=h;intro b hb;rcases aD hb with rfl|hb
  ·rcases q with⟨es,ep,q,_⟩|⟨kv,m,q,_⟩
   ·exact .inr (.inl ⟨_,q⟩)
   ·exact .inr (.inr ⟨_,q⟩)
  ·exact RepP.al r b hb
 |.obj _ _,_,_,h=>by rw[h.1];exact λ_ z=>nomatch z
theorem RepA.al{g}:∀{ds xs as},RepA K H g ds xs as->∀a∈as,(∃xs,H a=some (.lst xs))\/(∃ φ,H a=some (.ext φ))\/∃a9,H a=some (.dK a9)
 |[],_,_,h=>by rw[h.2];exact λ_ z=>nomatch z
 |d::ds,_,_,h=>by
  obtain⟨x,r,bs,cs,e1,rfl,h1,h2⟩:=h;intro a ha;rcases aA ha with ha|ha
  ·exact RepL.al h1 a ha
  ·exact RepA.al h2 a ha
theorem RepP.al{g}:∀{ds xs as},RepP K H g ds xs as->∀a∈as,(∃xs,H a=some (.lst xs))\/(∃ φ,H a=some (.ext φ))\/∃a9,H a=some (.dK a9)
 |[],_,_,h=>by rw[h.2];exact λ_ z=>nomatch z
 |_::ds,_,_,h=>by
  obtain⟨x,r,bs,cs,e1,rfl,h1,h2⟩:=h;intro a ha;rcases aA ha with ha|ha
  ·exact RepL.al h1 a ha
  ·exact RepP.al h2 a ha
end
mutual
theorem RepL.pu{g g'}:∀{d v as},RepL K H g d v as->d.pure=true->as=[]/\RepL K H g' d v []
 |.non,_,_,h,_=>⟨h.2,h.1,rfl⟩|.bl _,_,_,h,_=>⟨h.2,h.1,rfl⟩|.int _,_,_,h,_=>⟨h.2,h.1,rfl⟩|.str _,_,_,h,_=>⟨h.2.1,h.1,rfl,h.2.2⟩
 |.tup ds,_,_,h,p=>by
  obtain⟨a,xs,e,s,r⟩:=h;obtain⟨z,r'⟩:=RepA.pu (g':=g') r (p);exact⟨z,a,xs,e,s,r'⟩
 |.lst ds,_,_,h,p=>by unfold D.pure at p;cases p|.dct ds,_,_,h,p=>by cases p|.obj _ _,_,_,h,p=>by unfold D.pure at p;cases p
theorem RepA.pu{g g'}:∀{ds xs as},RepA K H g ds xs as->D.pures ds=true->as=[]/\RepA K H g' ds xs []
 |[],_,_,h,_=>⟨h.2,h.1,rfl⟩
 |d::ds,_,_,h,p=>by
  unfold D.pures at p;rw[Bool.and_eq_true]at p;obtain⟨x,r,bs,cs,e1,rfl,h1,h2⟩:=h;obtain⟨rfl,q1⟩:=RepL.pu (g':=g') h1 p.1;obtain⟨rfl,q2⟩:=RepA.pu (g':=g') h2 p.2;exact⟨rfl,x,r,[],[],e1,rfl,q1,q2⟩
end
theorem RepR.wk:∀{d v as},RepR K H d v as->RepL K H true d v as
 |.lst ds,_,_,h=>by
  obtain⟨a,xs,bs,e,r,q,z⟩:=h;exact⟨a,xs,bs,e,r,.inl ⟨q,z⟩⟩
 |.dct a9,_,_,h=>by
  obtain⟨a,xs,bs,e,r,q,z⟩:=h;exact⟨a,xs,bs,e,r,q,z⟩
theorem RepR.kp:∀{d v as},RepR K H d v as->Kp H H' as->RepR K H' d v as
 |.lst ds,_,_,h,k=>by
  obtain⟨a,xs,bs,e,r,q,rfl⟩:=h;exact⟨a,xs,bs,e,r.kp k.tail,k.2.2 a X4 _ q,rfl⟩
 |.dct a9,_,_,h,k=>by
  obtain⟨a,xs,bs,e,r,q,rfl⟩:=h;exact⟨a,xs,bs,e,r.kp k.tail,k.dca q,rfl⟩
theorem RepO.wk:∀{o d v as},RepO K H o d v as->RepL K H true d v as
 |.no,_,_,_,h=>h|.rt,_,_,_,h=>RepR.wk h|.dp,_,_,_,h=>RepL.wk h
theorem RepO.kp:∀{o d v as},RepO K H o d v as->Kp H H' as->RepO K H' o d v as
 |.no,_,_,_,h,k=>RepL.kp h k|.rt,_,_,_,h,k=>RepR.kp h k|.dp,_,_,_,h,k=>RepL.kp h k
end
structure Sl where
 o:Own
 d:D
 v:V
 as:List Addr
def Sl.own(x:Sl):List Addr:=match x.o with
 |.no=>[]|.rt=>x.as.take 1|.dp=>x.as
def Sl.frz(x:Sl):List Addr:=match x.o with
 |.no=>x.as|.rt=>x.as.drop 1|.dp=>[]
theorem Sl.parts(x:Sl):x.own++x.frz=x.as:=by
 unfold Sl.own Sl.frz;cases x.o with|no=>rfl|rt=>exact List.take_append_drop 1 x.as|dp=>exact Xq _
theorem Sl.own_as{x:Sl}{a}(h:a∈x.own):a∈x.as:=by rw[<-x.parts];exact ll9 _ h
theorem Sl.frz_as{x:Sl}{a}(h:a∈x.frz):a∈x.as:=by rw[<-x.parts];exact lr9 _ h
theorem Sl.as_of{x:Sl}{a}(h:a∈x.as):a∈x.own\/a∈x.frz:=by rw[<-x.parts]at h;exact aA h
def Sl.let(x:Sl):Sl:={x with o:=.no}
abbrev Ls:=List (Option Sl)
def j5(L:Ls):List Addr:=L.flatMap λx=>x.elim [] Sl.own
def jx(L:Ls):List Addr:=L.flatMap λx=>x.elim [] Sl.frz
@[simp] theorem qvu:j5 []=[]:=rfl
@[simp] theorem vxz:jx []=[]:=rfl
@[simp] theorem jv x (L:Ls):j5 (some x::L)=x.own++j5 L:=by simp[j5]
@[simp] theorem k8 x (L:Ls):jx (some x::L)=x.frz++jx L:=by simp[jx]
@[simp] theorem qkl (L:Ls):j5 (none::L)=j5 L:=by simp[j5]
@[simp] theorem kxx (L:Ls):jx (none::L)=jx L:=by simp[jx]
@[simp] theorem jQ (L T):j5 (L++T)=j5 L++j5 T:=by simp[j5]
@[simp] theorem k9 (L T):jx (L++T)=jx L++jx T:=by simp[jx]
theorem mem_owned{L a}:a∈j5 L↔∃x,some x∈L/\a∈x.own:=by
 unfold j5;rw[List.mem_flatMap];constructor
 ·rintro ⟨y,hy,h⟩;cases y with|none=>simp_all|some x=>exact⟨x,hy,h⟩
 ·rintro ⟨x,hx,h⟩;exact⟨some x,hx,h⟩
theorem mem_frozen{L a}:a∈jx L↔∃x,some x∈L/\a∈x.frz:=by
 unfold jx;rw[List.mem_flatMap];constructor
 ·rintro ⟨y,hy,h⟩;cases y with|none=>simp_all|some x=>exact⟨x,hy,h⟩
 ·rintro ⟨x,hx,h⟩;exact⟨some x,hx,h⟩
def Sl.ok(K:Frag)(H:Hp)(x:Sl):Prop:=RepO K H x.o x.d x.v x.as
theorem Sl.ok.al{K H}{x:Sl}(h:x.ok K H):∀a∈x.as,(∃xs,H a=some (.lst xs))\/(∃ φ,H a=some (.ext φ))\/∃a9,H a=some (.dK a9):=(RepO.wk h).al
theorem Sl.ok.some{K H}{x:Sl}(h:x.ok K H){a}(ha:a∈x.as):H a≠none:=λz=>by
 rcases h.al a ha with⟨xs,e⟩|⟨xs,e⟩|⟨xs,e⟩<;>(rw[z]at e;cases e)
structure World (K:Frag)(H:Hp)(L:Ls):Prop where
 ok:∀x,some x∈L->x.ok K H
 nd:(j5 L).Nodup
 ds:∀a∈j5 L,a∉jx L
structure Step (H:Hp)(L:Ls)(H':Hp)(L':Ls):Prop where
 keep:∀a ob,H a=some ob->a∉j5 L->H' a=some ob
 own:∀a∈j5 L',a∈j5 L\/H a=none
 frz:∀a∈jx L',a∈jx L\/a∈j5 L\/H a=none
section
variable {K:Frag}{H H1 H2 H':Hp}{L L1 L2' L' T:Ls}{x y:Sl}
theorem World.own_al(w:World K H L){a}(h:a∈j5 L):(∃xs,H a=some (.lst xs))\/(∃ φ,H a=some (.ext φ))\/∃a9,H a=some (.dK a9):=by
 obtain⟨x,hx,ha⟩:=mem_owned.mp h;exact(w.ok x hx).al a (Sl.own_as ha)
theorem World.own_some(w:World K H L){a}(h:a∈j5 L):H a≠none:=by
 obtain⟨x,hx,ha⟩:=mem_owned.mp h;exact(w.ok x hx).some (Sl.own_as ha)
theorem World.frz_some(w:World K H L){a}(h:a∈jx L):H a≠none:=by
 obtain⟨x,hx,ha⟩:=mem_frozen.mp h;exact(w.ok x hx).some (Sl.frz_as ha)
theorem Step.refl:Step H L H L:=⟨λ_ _ h _=>h,λ_ h=>.inl h,λ_ h=>.inl h⟩
theorem Step.trans(a:Step H L H1 L1)(b:Step H1 L1 H2 L2'):Step H L H2 L2' where
 keep:=λc ob h hn=>b.keep c ob (a.keep c ob h hn) λz=>(a.own c z).elim hn λe=>by rw[h]at e;cases e
 own:=λc hc=>by
  rcases b.own c hc with z|z
  ·exact a.own c z
  ·by_cases h:c∈j5 L
   ·exact .inl h
   ·refine .inr ?_;cases e:H c with|none=>rfl|some ob=>rw[a.keep c ob e h]at z;cases z
 frz:=λc hc=>by
  rcases b.frz c hc with z|z|z
  ·exact a.frz c z
  ·exact .inr (a.own c z)
  ·by_cases h:c∈j5 L
   ·exact .inr (.inl h)
   ·refine .inr (.inr ?_);cases e:H c with|none=>rfl|some ob=>rw[a.keep c ob e h]at z;cases z
theorem Step.kp(a:Step H L H' L')(w:World K H L){as}(h:∀b∈as,b∉j5 L):Kp H H' as:=by
 have no:∀b ob,H b=some ob->(∀xs,ob≠.lst xs)->(∀ φ,ob≠.ext φ)->(∀a9,ob≠.dK a9)->H' b=some ob:=λb ob e h1 h2 h3=>a.keep b ob e λz=>by
  rcases w.own_al z with _|_|_
  ·grind
  ·grind
  ·grind
 exact⟨λb xs e=>no b _ e (λ_ z=>(nomatch z)) (λ_ z=>(nomatch z)) (λ_ z=>(nomatch z)),λb o u e=>no b _ e (λ_ z=>(nomatch z)) (λ_ z=>(nomatch z)) (λ_ z=>(nomatch z)),λb hb ob e=>a.keep b ob e (h b hb)⟩
theorem Step.frame(a:Step H L H' L')(w:World K H (L++T))(w':World K H' L')(wL:World K H L):World K H' (L'++T):=by
 have nd:=w.nd;rw [jQ,Xb]at nd;have dis:=λb hb hT=>nd.2.2 b hb b hT rfl
 have okT:=λx hx=>w.ok x (lr9 _ hx)
 have nT:∀x,some x∈T->∀b∈x.as,b∉j5 L:=λx hx b hb hL=>by
  rcases Sl.as_of hb with z|z
  ·exact dis b hL (mem_owned.mpr ⟨x,hx,z⟩)
  ·refine w.ds b (by rw[jQ];exact ll9 _ hL) ?_;rw[k9];exact lr9 _ (mem_frozen.mpr ⟨x,hx,z⟩)
 refine⟨λx hx=>?_,?_,λb hb=>?_⟩
 ·rcases aA hx with hx|hx
  ·exact w'.ok x hx
  ·exact(okT x hx).kp (a.kp wL (nT x hx))
 ·rw[jQ,Xb];refine⟨w'.nd,nd.2.1,λb hb c hc e=>?_⟩;subst e;obtain⟨x,hx,dq⟩:=mem_owned.mp hc;rcases a.own b hb with z|z
  ·exact dis b z hc
  ·exact(okT x hx).some (Sl.own_as dq) z
 ·rw[jQ]at hb;rw[k9];intro hf;rcases aA hb with hb|hb
  ·rcases aA hf with hf|hf
   ·exact w'.ds b hb hf
   ·obtain⟨x,hx,dq⟩:=mem_frozen.mp hf;rcases a.own b hb with z|z
    ·exact nT x hx b (Sl.frz_as dq) z
    ·exact(okT x hx).some (Sl.frz_as dq) z
  ·rcases aA hf with hf|hf
   ·obtain⟨x,hx,dq⟩:=mem_owned.mp hb;rcases a.frz b hf with z|z|z
    ·exact w.ds b (by rw[jQ];exact lr9 _ hb) (by rw[k9];exact ll9 _ z)
    ·exact dis b z hb
    ·exact(okT x hx).some (Sl.own_as dq) z
   ·exact w.ds b (by rw[jQ];exact lr9 _ hb) (by rw[k9];exact lr9 _ hf)
theorem World.left(w:World K H (L++T)):World K H L:=by
 have nd:=w.nd;rw[jQ,Xb]at nd;exact⟨λx hx=>w.ok x (ll9 _ hx),nd.1,λa ha hf=>w.ds a (by rw[jQ];exact ll9 _ ha) (by rw[k9];exact ll9 _ hf)⟩
theorem World.right(w:World K H (L++T)):World K H T:=by
 have nd:=w.nd;rw[jQ,Xb]at nd;exact⟨λx hx=>w.ok x (lr9 _ hx),nd.2.1,λa ha hf=>w.ds a (by rw[jQ];exact lr9 _ ha) (by rw[k9];exact lr9 _ hf)⟩
theorem World.comm(w:World K H (L++T)):World K H (T++L):=by
 refine⟨λx hx=>w.ok x ?_,?_,λa ha hf=>w.ds a ?_ ?_⟩
 ·grind
 ·have nd:=w.nd;rw[jQ,Xb]at nd ⊢;exact⟨nd.2.1,nd.1,λa ha b hb e=>nd.2.2 b hb a ha e.symm⟩
 ·rw[jQ]at ha ⊢;rcases aA ha with h|h
  ·exact lr9 _ h
  ·exact ll9 _ h
 ·rw[k9]at hf ⊢;rcases aA hf with h|h
  ·exact lr9 _ h
  ·exact ll9 _ h
theorem World.tail{q}(w:World K H (q::L)):World K H L:=World.right (L:=[q]) w
theorem World.head(w:World K H (some x::L)):x.ok K H:=w.ok x X4
theorem World.apart(w:World K H (some x::L)):∀a∈x.as,a∉j5 L:=λa ha hL=>by
 rcases Sl.as_of ha with z|z
 ·have nd:=w.nd;rw[jv,Xb]at nd;exact nd.2.2 a z a hL rfl
 ·exact w.ds a (lr9 _ hL) (by rw[k8];exact ll9 _ z)
theorem World.cons(w:World K H L)(h:x.ok K H)(n:x.own.Nodup)(h1:∀a∈x.own,a∉j5 L)(h2:∀a∈x.own,a∉jx L)(h3:∀a∈x.frz,a∉j5 L)(h4:∀a∈x.own,a∉x.frz):World K H (some x::L):=by
 refine⟨λy hy=>?_,?_,λa ha hf=>?_⟩
 ·rcases aD hy with z|z
  ·grind
  ·exact w.ok y z
 ·rw[jv,Xb];exact⟨n,w.nd,λa ha b hb e=>by subst e;exact h1 a ha hb⟩
 ·rw[k8]at hf;rcases aA ha with ha|ha
  ·simp_all
  ·rcases aA hf with hf|hf
   ·exact h3 a hf ha
   ·exact w.ds a ha hf
theorem World.consNo(w:World K H L)(h:x.ok K H)(ho:x.o=.no)(h3:∀a∈x.as,a∉j5 L):World K H (some x::L):=by
 have e1:x.own=[]:=by unfold Sl.own;rw[ho]
 have e2:x.frz=x.as:=by unfold Sl.frz;rw[ho]
 exact w.cons h (by simp_all) (e1▸λ_ z=>nomatch z) (by simp_all) (e2▸h3) (by simp_all)
theorem World.consPu(w:World K H L)(h:x.ok K H)(e:x.as=[]):World K H (some x::L):=by
 have e1:∀a,a∉x.own:=λa ha=>by have:=Sl.own_as ha;rw[e]at this;exact nomatch this
 have e2:∀a,a∉x.frz:=λa ha=>by have:=Sl.frz_as ha;rw[e]at this;exact nomatch this
 have e3:=List.eq_nil_iff_forall_not_mem.mpr e1;exact w.cons h (by simp_all) (λa z=>absurd z (e1 a)) (λa z=>absurd z (e1 a)) (λa z=>absurd z (e2 a)) (λa z=>absurd z (e1 a))
theorem jqm{L:Ls}{i q}(h:some y∈L.set i q):q=some y\/some y∈L:=by
 rcases List.mem_or_eq_of_mem_set h with z|z
 ·exact .inr z
 ·exact .inl z.symm
theorem WQ{i a}(h:a∈j5 (L.set i (some x))):a∈x.own\/a∈j5 L:=by
 obtain⟨y,hy,ha⟩:=mem_owned.mp h;rcases jqm hy with z|z
 ·grind
 ·exact .inr (mem_owned.mpr ⟨y,z,ha⟩)
theorem Zq{i a}(h:a∈jx (L.set i (some x))):a∈x.frz\/a∈jx L:=by
 obtain⟨y,hy,ha⟩:=mem_frozen.mp h;rcases jqm hy with z|z
 ·grind
 ·exact .inr (mem_frozen.mpr ⟨y,z,ha⟩)
theorem jqd:∀{L i},(x.own++j5 L).Nodup->(j5 (L.set i (some x))).Nodup
 |[],_,h=>by simp
 |q::L,0,h=>by
  rw[List.set_cons_zero,jv];have e:j5 (q::L)=q.elim [] Sl.own++j5 L:=by simp[j5]
  rw[e,Xb]at h;obtain⟨h1,h2,h3⟩:=h;rw[Xb]at h2 ⊢;exact⟨h1,h2.2.1,λa ha b hb=>h3 a ha b (lr9 _ hb)⟩
 |q::L,i+1,h=>by
  rw[List.set_cons_succ];have e:∀M,j5 (q::M)=q.elim [] Sl.own++j5 M:=λM=>by simp[j5]
  rw[e]at h ⊢;rw[Xb]at h;obtain⟨h1,h2,h3⟩:=h;rw[Xb]at h2;rw[Xb];refine⟨h2.1,jqd (by rw[Xb];exact⟨h1,h2.2.1,λa ha b hb=>h3 a ha b (lr9 _ hb)⟩),λa ha b hb e=>?_⟩;subst e;rcases WQ hb with z|z
  ·exact h3 a z a (ll9 _ ha) rfl
  ·exact h2.2.2 a ha a z rfl
theorem World.set{i}(w:World K H (some x::L)):World K H (L.set i (some x)):=by
 refine⟨λy hy=>?_,jqd (by have:=w.nd;rwa [jv]at this),λa ha hf=>?_⟩
 ·rcases jqm hy with z|z
  ·cases z;exact w.head
  ·exact w.ok y (lc9 _ z)
 ·refine w.ds a ?_ ?_
  ·rw[jv];exact List.mem_append.mpr (WQ ha)
  ·rw[k8];exact List.mem_append.mpr (Zq hf)
theorem Step.set{i}:Step H (some x::L) H (L.set i (some x)) where
 keep:=λ_ _ h _=>h
 own:=λa ha=>.inl (List.mem_append.mpr (WQ ha))
 frz:=λa ha=>.inl (List.mem_append.mpr (Zq ha))
theorem Step.drop{q}:Step H (q::L) H L where
 keep:=λ_ _ h _=>h
 own:=λa ha=>.inl (by rw[show(q::L:Ls)=[q]++L from rfl];exact lr9 _ ha)
 frz:=λa ha=>.inl (by rw[show(q::L:Ls)=[q]++L from rfl];exact lr9 _ ha)
theorem xJ{i:Nat}(h:L[i]?=some (some x)):some x∈L:=Xs h
theorem QZ(x:Sl):x.let.own=[]/\x.let.frz=x.as/\x.let.as=x.as:=⟨rfl,rfl,rfl⟩
theorem kvq{i a}(h:a∈j5 (L.set i (some x.let))):a∈j5 L:=by
 rcases WQ h with z|z
 ·exact nomatch z
 ·exact z
theorem kxq:∀{L i},(j5 L).Nodup->(∀a∈j5 L,a∉jx L)->L[i]?=some (some x)->∀a∈x.as,a∉j5 (L.set i (some x.let))
 | [],_,_,_,h,_,_=>by simp_all
 | q::L,0,nd,ds,h,a,ha=>by
  have e:q=some x:=by simpa using h
  subst e;intro hm;have hm:a∈j5 L:=by simpa [QZ]using hm
  rcases Sl.as_of ha with z|z
  ·rw[jv,Xb]at nd;exact nd.2.2 a z a hm rfl
  ·exact ds a (lr9 _ hm) (by rw[k8];exact ll9 _ z)
 | q::L,i+1,nd,ds,h,a,ha=>by
  rw[List.set_cons_succ];have e:∀M,j5 (q::M)=q.elim [] Sl.own++j5 M:=λM=>by simp[j5]
  have f:jx (q::L)=q.elim [] Sl.frz++jx L:=by simp[jx]
  intro hm;rw[e,Xb]at nd;rcases aA hm with hm|hm
  ·rcases Sl.as_of ha with z|z
   ·exact nd.2.2 a hm a (mem_owned.mpr ⟨x,xJ h,z⟩) rfl
   ·exact ds a (ll9 _ hm) (by rw[f];exact lr9 _ (mem_frozen.mpr ⟨x,xJ h,z⟩))
  ·exact kxq nd.2.1 (λb hb hf=>ds b (lr9 _ hb) (f▸lr9 _ hf)) h a ha hm
theorem zw(h:x.ok K H):x.let.ok K H:=RepO.wk h
theorem World.let{i}(w:World K H L)(h:L[i]?=some (some x)):World K H (L.set i (some x.let)):=by
 refine⟨λy hy=>?_,jqd ((QZ x).1▸w.nd),λa ha hf=>?_⟩
 ·rcases jqm hy with z|z
  ·cases z;exact zw (w.ok x (xJ h))
  ·exact w.ok y z
 ·rcases Zq hf with z|z
  ·exact(kxq w.nd w.ds h) a z ha
  ·exact w.ds a (kvq ha) z
theorem World.read{i}(w:World K H L)(h:L[i]?=some (some x)):World K H (some x.let::L.set i (some x.let)):=
 (w.let h).consNo (zw (w.ok x (xJ h))) rfl (kxq (x:=x) w.nd w.ds h)
theorem Step.read{i}(h:L[i]?=some (some x)):Step H L H (some x.let::L.set i (some x.let)) where
 keep:=λ_ _ h _=>h
 own:=λa ha=>.inl (by rw[jv]at ha;exact kvq ha)
 frz:=λa ha=>by
  have hx:=xJ h;have q:∀a∈x.as,a∈jx L\/a∈j5 L\/H a=none:=λa ha=>by
   rcases Sl.as_of ha with z|z
   ·exact .inr (.inl (mem_owned.mpr ⟨x,hx,z⟩))
   ·exact .inl (mem_frozen.mpr ⟨x,hx,z⟩)
  rcases aA ha with z|z
  ·exact q a z
  ·rcases Zq z with z|z
   ·exact q a z
   ·exact .inl z
end
inductive Mt:En->L2.St->Ls->Prop
 |nil:Mt [] [] []
 |un {E:En} {σ:L2.St} {L:Ls} {y:Option V}:Mt E σ L->Mt (none::E) (y :: σ) (none::L)
 |cons {E:En} {σ:L2.St} {L:Ls} {x:Sl}:Mt E σ L->Mt (some (x.o,x.d)::E) (some x.v :: σ) (some x::L)
theorem Mt.get:∀{E σ L} {i:Nat} {o d},Mt E σ L->E[i]?=some (some (o,d))->∃x,L[i]?=some (some x)/\x.o=o/\x.d=d/\σ[i]?=some (some x.v)
 |_,_,_,_,_,_,.nil,h=>by simp_all|_,_,_,0,_,_,.un _,h=>by simp_all|_,_,_,i+1,_,_,.un m,h=>by simpa using m.get (by simpa using h)
 |_,_,_,0,_,_,.cons (x:=x) m,h=>by
  simp at h;exact⟨x,by simp,h.1,h.2,by simp⟩
 |_,_,_,i+1,_,_,.cons m,h=>by simpa using m.get (by simpa using h)
theorem Mt.set{x}:∀{E σ L} (i),Mt E σ L->Mt (E.set i (some (x.o,x.d))) (σ.set i (some x.v)) (L.set i (some x))
 |_,_,_,_,.nil=>.nil|_,_,_,0,.un m=>.cons m|_,_,_,i+1,.un m=>.un (m.set i)|_,_,_,0,.cons m=>.cons m|_,_,_,i+1,.cons m=>.cons (m.set i)
theorem Mt.let{x}:∀{E σ L i},Mt E σ L->L[i]?=some (some x)->Mt (E.set i (some (.no,x.d))) σ (L.set i (some x.let))
 |_,_,_,_,.nil,h=>by simp_all|_,_,_,i+1,.un m,h=>.un (m.let (by simpa using h))
 |_,_,_,0,.cons (x:=y) m,h=>by
  have e:y=x:=by simpa using h
  subst e;exact .cons (x:=y.let) m
 |_,_,_,i+1,.cons m,h=>.cons (m.let (by simpa using h))
theorem Mt.len:∀{E σ L},Mt E σ L->E.length=σ.length/\L.length=σ.length
 |_,_,_,.nil=>⟨rfl,rfl⟩|_,_,_,.un m=>by simp[m.len]|_,_,_,.cons m=>by simp[m.len]
def sls(L:Ls):List Sl:=L.filterMap id
theorem K6 L:j5 L=(sls L).flatMap Sl.own:=by
 induction L with
 |nil=>rfl
 |cons q L ih=>
  cases q with|none=>rw[qkl,ih];rfl|some x=>rw[jv,ih];rfl
theorem Qq L:jx L=(sls L).flatMap Sl.frz:=by
 induction L with
 |nil=>rfl
 |cons q L ih=>
  cases q with|none=>rw[kxx,ih];rfl|some x=>rw[k8,ih];rfl
theorem mem_sls{L x}:x∈sls L↔some x∈L:=by simp[sls]
@[simp] theorem QQ (L T):sls (L++T)=sls L++sls T:=by simp[sls]
@[simp] theorem qzp (L:Ls):sls (none::L)=sls L:=rfl
@[simp] theorem wvs (x:Sl)(L:Ls):sls (some x::L)=x::sls L:=rfl
@[simp] theorem wwj:sls []=[]:=rfl
@[simp] theorem wwk T:sls (T.map some)=T:=by simp[sls]
@[simp] theorem wwi k:sls (List.replicate k none)=[]:=by
 induction k with|zero=>rfl|succ k ih=>rw[List.replicate_succ,qzp,ih]
theorem jqa{α β:Type}(f:α->List β){l l':List α}(h:l.Sublist l'):(l.flatMap f).Sublist (l'.flatMap f):=by
 induction h with|slnil=>exact List.Sublist.refl _|cons a _ ih=>rw[Zf];exact List.Sublist.trans ih (List.sublist_append_right _ _)|cons_cons a _ ih=>rw[Zf];exact List.Sublist.append (List.Sublist.refl _) ih
section
variable {K:Frag}{H H':Hp}{L L' M M':Ls}
theorem World.same(w:World K H L)(p:(sls L).Perm (sls L')):World K H L':=by
 have po:(j5 L).Perm (j5 L'):=by rw[K6,K6];exact p.flatMap_right _
 have pf:(jx L).Perm (jx L'):=by rw[Qq,Qq];exact p.flatMap_right _
 exact⟨λx hx=>w.ok x (mem_sls.mp (p.mem_iff.mpr (mem_sls.mpr hx))),po.nodup_iff.mp w.nd,λa ha hf=>w.ds a (po.mem_iff.mpr ha) (pf.mem_iff.mpr hf)⟩
theorem Step.same(s:Step H L H' L')(p:(sls L).Perm (sls M))(p':(sls L').Perm (sls M')):Step H M H' M':=by
 have po:(j5 L).Perm (j5 M):=by rw[K6,K6];exact p.flatMap_right _
 have pf:(jx L).Perm (jx M):=by rw[Qq,Qq];exact p.flatMap_right _
 have po':(j5 L').Perm (j5 M'):=by rw[K6,K6];exact p'.flatMap_right _
 have pf':(jx L').Perm (jx M'):=by rw[Qq,Qq];exact p'.flatMap_right _
 exact⟨λa ob h hn=>s.keep a ob h λz=>hn (po.mem_iff.mp z),λa ha=>(s.own a (po'.mem_iff.mpr ha)).imp (λz=>po.mem_iff.mp z) id,
  λa ha=>(s.frz a (pf'.mem_iff.mpr ha)).imp (λz=>pf.mem_iff.mp z) λz=>z.imp (λz=>po.mem_iff.mp z) id⟩
theorem World.sub(w:World K H L)(p:(sls L').Sublist (sls L)):World K H L':=by
 refine⟨λx hx=>w.ok x (mem_sls.mp (p.subset (mem_sls.mpr hx))),?_,λa ha hf=>w.ds a ?_ ?_⟩
 ·have:=w.nd;rw[K6]at this ⊢;exact(jqa _ p).nodup this
 ·rw[K6]at ha ⊢;exact(jqa _ p).subset ha
 ·rw[Qq]at hf ⊢;exact(jqa _ p).subset hf
theorem Step.sub(s:Step H L H' L')(p:(sls M).Sublist (sls L')):Step H L H' M:=by
 refine⟨s.keep,λa ha=>s.own a ?_,λa ha=>s.frz a ?_⟩
 ·rw[K6]at ha ⊢;exact(jqa _ p).subset ha
 ·rw[Qq]at ha ⊢;exact(jqa _ p).subset ha
end
theorem jws:∀{L:Ls} {j},(sls (at' L j::L.set j none)).Perm (sls L)
 | [],j=>by simp[at']
 | q::L,0=>by
  cases q with|none=>simp[at']|some x=>simp[at']
 | q::L,j+1=>by
  have ih:=jws (L:=L) (j:=j);have e:at' (q::L) (j+1)=at' L j:=by simp[at']
  rw[e];have e2:∀a b M,(sls (a::b::M)).Perm (sls (b::a::M)):=λa b M=>by
   cases a<;>cases b<;>simp[sls]
   exact List.Perm.swap ..
  refine(e2 _ _ _).trans ?_;cases q with|none=>simpa [sls]using ih|some y=>simpa [sls]using ih
theorem qjx:∀{R} {L:Ls},R.Nodup->(sls (R.map (at' L)++clr R L)).Perm (sls L)
 | [],L,_=>by simp[clr]
 | j::R,L,h=>by
  rw[List.nodup_cons]at h;have e:R.map (at' L)=R.map (at' (L.set j none)):=by
   apply Yj;intro i hi;have:j≠i:=λe=>h.1 (e▸hi)
   unfold at';rw[Xw this]
  rw[List.map_cons,clr,e];have ih:=qjx (L:=L.set j none) h.2;refine List.Perm.trans ?_ (jws (j:=j));cases hq:at' L j with|none=>simpa [sls]using ih|some x=>simpa [sls]using ih
theorem qxm{α}:∀{R} {L:List (Option α)},(clr R L).length=L.length
 |[],_=>rfl|j::R,L=>by rw[clr,qxm,Z0]
theorem qxn{α}:∀{R} {L:List (Option α)} {j},j∈R->at' (clr R L) j=none
 | [],_,_,h=>by grind
 | i :: R,L,j,h=>by
  rw [clr]
  by_cases hR:j∈R
  ·exact qxn hR
  ·have e:j=i:=by simpa [hR]using h
   subst e;have gen:∀{R} {M:List (Option α)},j∉R->at' (clr R M) j=at' M j:=by
    intro R
    induction R with
    |nil=>intro M _;rfl
    |cons r R ih=>
     intro M h;rw[Yc,not_or]at h;rw[clr,ih h.2];unfold at';rw[Xw (Ne.symm h.1)]
   rw[gen hR];unfold at'
   by_cases hl:j<L.length
   ·rw[Y3 hl];rfl
   ·rw[List.set_eq_of_length_le ⋯,Yk ⋯];rfl
theorem kwu:∀{R} {B L:Ls},R.Nodup->(∀j∈R,at' L j=none)->(∀j∈R,j<L.length)->B.length=R.length->(sls (back R B L)).Perm (sls (B++L))
 | [],B,L,_,_,_,hl=>by
  have:B=[]:=by simpa using hl
  subst this;simp [back]
 | j :: R,q::B,L,hn,hz,hr,hl=>by
  rw [List.nodup_cons]at hn;have ih:=kwu (L:=L.set j q) hn.2 (λi hi=>by
   have:j≠i:=λe=>hn.1 (e▸hi)
   unfold at';rw [Xw this];exact hz i (lc9 _ hi)) (λi hi=>by rw[Z0];exact hr i (lc9 _ hi)) (by simpa using hl)
  refine ih.trans ?_;have sp:∀{M i},at' M i=none->i<M.length->(sls (M.set i q)).Perm (sls (q::M)):=by
   intro M
   induction M with
   | nil=>intro i _ h;simp at h
   | cons r M ihM=>
    intro i h1 h2;cases i with
    | zero=>
     have:r=none:=by simpa [at']using h1
     subst this;cases q<;>simp[sls]
    | succ i=>
     have:=ihM (by simpa [at']using h1) (by simpa using h2);cases r with
     | none=>cases q<;>simpa [sls]using this
     | some y=>
      cases q with
      |none=>simpa [sls]using this
      |some x=>
       exact(this.cons y).trans (List.Perm.swap ..)
  rw[QQ];have h2:(sls B++sls _).Perm _:=(sp (hz j X4) (hr j X4)).append_left _;refine h2.trans ?_;cases q with
  |none=>simp
  |some x=>
   simp only[QQ];exact List.perm_middle
section
variable {K:Frag}{H H1 H2 H':Hp}{L L1 L' T:Ls}{x y:Sl}
theorem Vw(p:L.Perm L'):(j5 L).Perm (j5 L'):=p.flatMap_right _
theorem jwl(p:L.Perm L'):(jx L).Perm (jx L'):=p.flatMap_right _
theorem World.perm(w:World K H L)(p:L.Perm L'):World K H L':=
 ⟨λx hx=>w.ok x (p.mem_iff.mpr hx),(Vw p).nodup_iff.mp w.nd,λa ha hf=>w.ds a ((Vw p).mem_iff.mpr ha) ((jwl p).mem_iff.mpr hf)⟩
theorem Step.perm(s : Step H L H' L'){M M' : Ls}(p : L.Perm M)(p' : L'.Perm M'): Step H M H' M':=
  ⟨λa ob h hn=>s.keep a ob h λz=>hn ((Vw p).mem_iff.mp z),
   λa ha=>(s.own a ((Vw p').mem_iff.mpr ha)).imp (λz=>(Vw p).mem_iff.mp z) id,
   λa ha=>(s.frz a ((jwl p').mem_iff.mpr ha)).imp (λz=>(jwl p).mem_iff.mp z) λz=>z.imp (λz=>(Vw p).mem_iff.mp z) id⟩
theorem Step.frm(s:Step H L H' L'):Step H (L++T) H' (L'++T) where
 keep:=λa ob h hn=>s.keep a ob h λz=>hn (by rw[jQ];exact ll9 _ z)
 own:=λa ha=>by
  rw[jQ]at ha ⊢;rcases aA ha with z|z
  ·exact(s.own a z).imp (ll9 _) id
  ·exact .inl (lr9 _ z)
 frz:=λa ha=>by
  rw[k9]at ha ⊢;rw[jQ];rcases aA ha with z|z
  ·exact(s.frz a z).imp (ll9 _) λz=>z.imp (ll9 _) id
  ·exact .inl (lr9 _ z)
theorem wqh(w:World K H (T++L))(s:Step H L H' L')(w':World K H' L'):World K H' (T++L')/\Step H (T++L) H' (T++L'):=by
 have w1:=w.comm;exact⟨(s.frame w1 w' w1.left).comm,s.frm.perm List.perm_append_comm List.perm_append_comm⟩
end
theorem ex8{α β γ:Type}{P:Prop}{a b c d e:α->β->γ->Prop}(h:∃x y z,a x y z/\b x y z/\c x y z/\d x y z/\e x y z)(f:∀x y z,a x y z->b x y z->c x y z->d x y z->e x y z->P):P:=
 h.elim λx h=>h.elim λy h=>h.elim λz h=>f x y z h.1 h.2.1 h.2.2.1 h.2.2.2.1 h.2.2.2.2
theorem ex7{α β γ:Type}{P:Prop}{a b c d:α->β->γ->Prop}(h:∃x y z,a x y z/\b x y z/\c x y z/\d x y z)(f:∀x y z,a x y z->b x y z->c x y z->d x y z->P):P:=
 h.elim λx h=>h.elim λy h=>h.elim λz h=>f x y z h.1 h.2.1 h.2.2.1 h.2.2.2
theorem k7{X e t t'}(h:PE X e t)(w:∀ σ H Q,t' σ H Q->t σ H Q):PE X e t':=λa7 s σ H Q I q=>h a7 s σ H Q I (w σ H Q q)
theorem qvj{X e t t'}(h:PT X e t)(w:∀ σ H Q,t' σ H Q->t σ H Q):PT X e t':=λa7 s σ H Q I q=>h a7 s σ H Q I (w σ H Q q)
theorem zq{X e t t'}(h:PS X e t)(w:∀D σ H,t' D σ H->t D σ H):PS X e t':=λa7 s σ H D I q=>h a7 s σ H D I (w D σ H q)
theorem qvk{X e t t'}(h:PSs X e t)(w:∀D σ H,t' D σ H->t D σ H):PSs X e t':=λa7 s σ H D I q=>h a7 s σ H D I (w D σ H q)
structure Fx0 where
 K:Frag
 mg:Str->Option Value
 EX:XK
def Xc{α:Type}(Z:Fx0)(σ:L2.St)(H:Hp)(L:Ls)(r:Res α):Prop:=∀E' c,r=.exc E' c->∀C L' H',Z.mg c=some (.ref C)->Mt E' σ L'->World Z.K H' L'->Step H L H' L'->Z.EX (.ref C) none H'
theorem Xc.step{α Z σ H H1 L L1}{r:Res α}(x:Xc Z σ H L r)(s:Step H L H1 L1):Xc Z σ H1 L1 r:=λE' c e C L' H' hm m w s'=>x E' c e C L' H' hm m w (s.trans s')
theorem Xc.map{α β Z σ H L}{r:Res α}{E' c}(x:Xc Z σ H L r)(e:r=.exc E' c):Xc Z σ H L (.exc E' c:Res β):=λE1 c1 e1=>by
 injection e1 with h1 h2;subst h1 h2;exact x _ _ e
noncomputable def tQ(Z:Fx0)(q:Bool)(c:Ex):TE:=fun σ H Q=>∃E L r,Mt E σ L/\World Z.K H L/\c E=some r/\Xc Z σ H L r /\
 ∀E' a,r=.ok E' a->∀(x:Sl) L' H',x.o=a.1->x.d=a.2->Mt E' σ L'->World Z.K H' (some x::L')->Step H L H' (some x::L')->(q=true->jJ H H'/\∀b∈x.own,H b=none)->Q x.v H'
def Src(H:Hp)(L:Ls)(as:List Addr):Prop:=∀b∈as,b∈jx L\/b∈j5 L\/H b=none
theorem Src.back{H H1 L L1 as}(h:Src H1 L1 as)(s:Step H L H1 L1):Src H L as:=λb hb=>by
 rcases h b hb with z|z|z
 ·exact s.frz b z
 ·exact .inr (s.own b z)
 ·by_cases ho:b∈j5 L
  ·exact .inr (.inl ho)
  ·refine .inr (.inr ?_);cases e:H b with|none=>rfl|some ob=>rw[s.keep b ob e ho]at z;cases z
noncomputable def tV(Z:Fx0)(q:Bool)(c:Ex):TE:=fun σ H Q=>∃E L r,Mt E σ L/\World Z.K H L/\c E=some r/\Xc Z σ H L r /\
 ∀E' a,r=.ok E' a->∀(x:Sl) L' H',x.o=a.1->x.d=a.2->Mt E' σ L'->World Z.K H' L'->x.ok Z.K H'->(∀b∈x.frz,b∉j5 L')->Src H L x.as->Step H L H' L'->(q=true->jJ H H')->Q x.v H'
def QE(X:Cx)(Z:Fx0)(q:Bool)(c:Ex)(e:Expr):Prop:=PE X e (tQ Z q c)
def QV(X:Cx)(Z:Fx0)(q:Bool)(c:Ex)(e:Expr):Prop:=PE X e (tV Z q c)
section
variable {X:Cx}{Z:Fx0}{q qa qb:Bool}{a b c:Ex}{e ea eb:Expr}{pos:Pos}{α:Type}{σ:L2.St}{H:Hp}{L:Ls}{E:En}
theorem vK{β m}{F:En->α->Option _}{r:Res β}(h:bnd m F=some r):(∃E1 x,m=some (.ok E1 x)/\F E1 x=some r)\/∃E1 c,m=some (.exc E1 c)/\r=.exc E1 c:=by
 cases m with
 |none=>cases h
 |some q=>
  cases q with|ok E1 x=>exact .inl ⟨E1,x,rfl,h⟩|exc E1 c=>exact .inr ⟨E1,c,rfl,(oq9 h).symm⟩
theorem Ww{F}{r:Res α}{G}(m:Mt E σ L)(w:World Z.K H L)(h:bnd (a E) F=some r)(xc:Xc Z σ H L r)
  (k:∀E1 s,F E1 s=some r->∀x L1 H1,x.o=s.1->x.d=s.2->Mt E1 σ L1->World Z.K H1 (some x::L1)->Step H L H1 (some x::L1)->(q=true->jJ H H1/\∀b∈x.own,H b=none)->G x.v H1):tQ Z q a σ H G:=by
 rcases vK h with⟨E1,s,h1,h2⟩|⟨E1,c,h1,h2⟩
 ·exact⟨E,L,_,m,w,h1,(λ_ _ z=>by cases z),λE' s' z x L' H' e1 e2 m' w' st sm=>by
   injection z with z1 z2;subst z1 z2;exact k _ _ h2 x L' H' e1 e2 m' w' st sm⟩
 ·exact⟨E,L,_,m,w,h1,xc.map h2,λE' s' z=>by cases z⟩
theorem kX{F}{r:Res α}{G}(m:Mt E σ L)(w:World Z.K H L)(h:bnd (a E) F=some r)(xc:Xc Z σ H L r)
  (k:∀E1 s,F E1 s=some r->∀(x:Sl) L1 H1,x.o=s.1->x.d=s.2->Mt E1 σ L1->World Z.K H1 L1->x.ok Z.K H1->(∀b∈x.frz,b∉j5 L1)->Src H L x.as->Step H L H1 L1->(q=true->jJ H H1)->G x.v H1):tV Z q a σ H G:=by
 rcases vK h with⟨E1,s,h1,h2⟩|⟨E1,c,h1,h2⟩
 ·exact⟨E,L,_,m,w,h1,(λ_ _ z=>by cases z),λE' s' z x L' H' e1 e2 m' w' ok fr sr st sm=>by
   injection z with z1 z2;subst z1 z2;exact k _ _ h2 x L' H' e1 e2 m' w' ok fr sr st sm⟩
 ·exact⟨E,L,_,m,w,h1,xc.map h2,λE' s' z=>by cases z⟩
theorem Jz{x:Sl}{K H1 H2 L1 L2'}(ok:x.ok K H1)(fr:∀b∈x.frz,b∉j5 L1)(st:Step H1 L1 H2 L2')(sm:jJ H1 H2):x.ok K H2/\∀b∈x.frz,b∉j5 L2':=
 ⟨RepO.kp ok (Kp.of_same sm),λb hb ho=>(st.own b ho).elim (fr b hb) λz=>ok.some (Sl.frz_as hb) z⟩
theorem wj{x}{r:Res α}(h:val E x=some r):∃y,x=some y/\r=.ok E y:=by
 cases x with|none=>cases h|some y=>exact⟨y,rfl,(oq9 h).symm⟩
theorem QE.weak(h:QE X Z true c e):QE X Z q c e:=k7 h fun σ H Q aj=>ex8 aj λE L r m w hc xc k=>⟨E,L,r,m,w,hc,xc,λE' s z x L' H' e1 e2 m' w' st sm=>k E' s z x L' H' e1 e2 m' w' st λ_=>sm rfl⟩
theorem kkw{x H1}{L1:Ls}(st:Step H L H1 (some x::L1)):Src H L x.as:=λb hb=>by
 rcases Sl.as_of hb with z|z
 ·exact .inr (st.own b (ll9 _ z))
 ·exact st.frz b (by rw[k8];exact ll9 _ z)
theorem j4(h:QE X Z q c e):QV X Z q (vE c) e:=k7 h fun σ H Q aj=>ex8 aj λE L r m w hc xc k=>
 Ww m w hc xc λE1 s h1 x L1 H1 e1 e2 m1 w1 st sm=>by
  cases oq9 h1;exact k _ _ rfl x.let L1 H1 rfl e2 m1 w1.tail (zw w1.head) (λb hb=>w1.apart b hb) (kkw (x:=x) st) (st.trans Step.drop) λhq=>(sm hq).1
theorem Q8{x H1 L1}(st:Step H L H1 L1)(sr:Src H L x.as)(ho:x.own=[]):Step H L H1 (some x::L1) where
 keep:=st.keep
 own:=λb hb=>by rw[jv,ho]at hb;exact st.own b hb
 frz:=λb hb=>by
  rcases aA hb with z|z
  ·exact sr b (Sl.frz_as z)
  ·exact st.frz b z
theorem qvw{x:Sl}(h:x.o=.no):x.own=[]:=by unfold Sl.own;rw[h]
theorem YW{x:Sl}(h:x.o=.no):x.frz=x.as:=by unfold Sl.frz;rw[h]
theorem vvz{x:Sl}(h:x.as=[]):x.own=[]:=List.eq_nil_iff_forall_not_mem.mpr λa ha=>by have:=Sl.own_as ha;rw[h]at this;exact nomatch this
theorem zj(h:QV X Z q c e):QE X Z q (cH c) e:=k7 h fun σ H Q aj=>ex8 aj λE L r m w hc xc k=>
 kX m w hc xc λE1 s h1 x L1 H1 e1 e2 m1 w1 ok fr sr st sm=>by
  by_cases ho:s.1=.no
  ·rw[X6 ho]at h1;cases oq9 h1;have eo:=e1.trans ho;exact k _ _ rfl x L1 H1 eo e2 m1 (w1.consNo ok eo λb hb=>fr b (YW eo▸hb)) (Q8 st sr (qvw eo)) λhq=>⟨sm hq,by rw[qvw eo];exact λ_ z=>(nomatch z)⟩
  ·rw[Xa ho]at h1
   by_cases hp:s.2.pure=true
   ·rw[X6 hp]at h1;cases oq9 h1;obtain⟨z,rp⟩:=RepL.pu (g':=false) (RepO.wk ok) (by simp_all);exact k _ _ rfl ⟨.dp,x.d,x.v,[]⟩ L1 H1 rfl e2 m1 (w1.consPu rp rfl) (Q8 st (λb hb=>nomatch hb) rfl) λhq=>⟨sm hq,λ_ z=>(nomatch z)⟩
   ·simp_all
theorem q_C{d v}(h:PE X e (tC v))(hr:∀H,RepL Z.K H false d v []):QE X Z true (cC d) e:=k7 h fun σ H Q aj=>ex8 aj λE L r m w hc xc k=>by
 cases oq9 hc;exact k _ _ rfl ⟨.dp,d,v,[]⟩ L H rfl rfl m (w.consPu (hr H) rfl) (Q8 Step.refl (λb hb=>nomatch hb) rfl) λ_=>⟨λ_ _ z=>z,λ_ z=>(nomatch z)⟩
theorem q_V{i}(h:PE X e (xj i)):QE X Z true (cV i) e:=k7 h fun σ H Q aj=>ex8 aj λE L r m w hc xc k=>by
 unfold cV at hc
 split at hc
 ·rename_i o d hE;cases oq9 hc;obtain⟨x,h1,h2,h3,h4⟩:=m.get hE;refine⟨x.v,h4,k _ _ rfl x.let _ H rfl h3 ?_ (w.read h1) (Step.read h1) λ_=>⟨λ_ _ z=>z,λ_ z=>(nomatch z)⟩⟩;have:=m.let h1
  rwa [h3]at this
 ·cases hc
theorem Kw:∀{E σ} {L} j,Mt E σ L->Mt (E.set j none) σ (L.set j none):=by
 intro E σ L j m
 induction m generalizing j with
 |nil=>exact .nil
 |un m ih=>cases j with|zero=>exact .un m|succ j=>exact .un (ih j)
 |cons m ih=>cases j with|zero=>exact .un m|succ j=>exact .cons (ih j)
theorem jvn{x}:∀{L:Ls} {i},L[i]?=some (some x)->(none::L).Perm (some x::L.set i none)
 |[],_,h=>by simp_all
 |q::L,0,h=>by
  have e:q=some x:=by simpa using h
  subst e;exact List.Perm.swap ..
 |q::L,i+1,h=>by
  have:=jvn (L:=L) (by simpa using h);exact(List.Perm.swap ..).trans ((this.cons q).trans (List.Perm.swap ..))
theorem WZ{i}(h:PE X e (xj i)):QE X Z false (cMv i) e:=k7 h fun σ H Q aj=>ex8 aj λE L r m w hc xc k=>by
 unfold cMv at hc
 split at hc
 ·rename_i s hE;cases oq9 hc;obtain⟨x,h1,h2,h3,h4⟩:=m.get hE;have wn:World Z.K H (none::L):=⟨λy hy=>w.ok y (by simp_all),by simpa using w.nd,by simpa using w.ds⟩;have sn:Step H L H (none::L):=⟨λ_ _ z _=>z,λa z=>.inl (by simp_all),λa z=>.inl (by simp_all)⟩;exact⟨x.v,h4,k _ _ rfl x _ H h2 h3 (Kw i m) (wn.perm (jvn h1)) (sn.trans (Step.refl.perm (List.Perm.refl _) (jvn h1))) λz=>(nomatch z)⟩
 ·cases hc
theorem q_vV{i}(h:PE X e (xj i)):QV X Z true (vV i) e:=k7 h fun σ H Q aj=>ex8 aj λE L r m w hc xc k=>by
 unfold vV at hc
 split at hc
 ·rename_i s hE;cases oq9 hc;obtain⟨x,h1,h2,h3,h4⟩:=m.get hE;have hx:=xJ h1;refine⟨x.v,h4,k _ _ rfl x L H h2 h3 m w (w.ok x hx) (λb hb ho=>w.ds b ho (mem_frozen.mpr ⟨x,hx,hb⟩)) (λb hb=>?_) Step.refl λ_=>λ_ _ z=>z⟩;rcases Sl.as_of hb with z|z
  ·exact .inr (.inl (mem_owned.mpr ⟨x,hx,z⟩))
  ·exact .inl (mem_frozen.mpr ⟨x,hx,z⟩)
 ·cases hc
structure Out (K:Frag)(H H':Hp)(z:Sl)(fr:List Addr):Prop where
 same:jJ H H'
 ok:z.ok K H'
 new:∀b∈z.own,H b=none
 nd:z.own.Nodup
 fr:∀b∈z.frz,b∈fr
def Ad1(K:Frag)(r:V->Hp->VK->Prop)(f:Sd->Option Sd):Prop:=∀(H:Hp) (x:Sl) (s:Sd) (Q:VK),x.ok K H->f (x.o,x.d)=some s->(∀(z:Sl) H',z.o=s.1->z.d=s.2->Out K H H' z x.frz->Q z.v H')->r x.v H Q
def Ad2(K:Frag)(r:R2)(f:Sd->Sd->Option Sd):Prop:=∀(H:Hp) (x y:Sl) (s:Sd) (Q:VK),x.ok K H->y.ok K H->f (x.o,x.d) (y.o,y.d)=some s->(∀(z:Sl) H',z.o=s.1->z.d=s.2->Out K H H' z (x.frz++y.frz)->Q z.v H')->r x.v y.v H Q
theorem jzo{K H H' d v fr}(s:jJ H H')(r:RepL K H' false d v []):Out K H H' ⟨.dp,d,v,[]⟩ fr:=⟨s,r,λ_ h=>(nomatch h),Y7,λ_ h=>(nomatch h)⟩
theorem x5{H}:jJ H H:=λ_ _ z=>z
theorem jY{H H1 H2}(a:jJ H H1)(b:jJ H1 H2):jJ H H2:=λc ob h=>b c ob (a c ob h)
theorem JZ{z fr H1 H2 L1}(w:World Z.K H1 L1)(st:Step H L H1 L1)(o:Out Z.K H1 H2 z fr)(ap:∀b∈fr,b∉j5 L1)(al:∀b∈fr,H1 b≠none)(sr:Src H L fr):
  World Z.K H2 (some z::L1)/\Step H L H2 (some z::L1):=by
 have w2:World Z.K H2 L1:=⟨λx hx=>RepO.kp (w.ok x hx) (Kp.of_same o.same),w.nd,w.ds⟩;refine⟨w2.cons o.ok o.nd (λb hb ho=>w.own_some ho (o.new b hb)) (λb hb hf=>w.frz_some hf (o.new b hb)) (λb hb=>ap b (o.fr b hb)) (λb hb hf=>al b (o.fr b hf) (o.new b hb)),(⟨λb ob h hn=>o.same b ob (st.keep b ob h hn),λb hb=>?_,λb hb=>?_⟩)⟩
 ·rcases aA hb with z|z
  ·by_cases ho:b∈j5 L
   ·exact .inl ho
   ·refine .inr ?_;cases e:H b with|none=>rfl|some ob=>have:=o.new b z;rw[st.keep b ob e ho]at this;cases this
  ·exact st.own b z
 ·rcases aA hb with z|z
  ·exact sr b (o.fr b z)
  ·exact st.frz b z
theorem W6{as bs}(h:Src H L as)(hb:∀b∈bs,b∈as):Src H L bs:=λb z=>h b (hb b z)
theorem vqx{as bs}(h:Src H L as)(h':Src H L bs):Src H L (as++bs):=λb z=>(aA z).elim (h b) (h' b)
theorem z9{H H1 b}(s:jJ H H1)(h:H1 b=none):H b=none:=by
 cases e:H b with|none=>rfl|some ob=>rw[s b ob e]at h;cases h
theorem jxb{r f}(ad:Ad1 Z.K r f){Q}(h:tQ Z q (cF1 f a) σ H Q):tUn r (tV Z q a) σ H Q:=by
 obtain⟨E,L,R,m,w,hc,xc,k⟩:=h;refine kX m w hc xc λE1 s h1 x L1 H1 e1 e2 m1 w1 ok fr sr st sm=>?_
 obtain⟨z,hz,rfl⟩:=wj h1;refine ad H1 x z Q ok (by simp_all) λy H' ho hd o=>?_
 obtain⟨w3,cg⟩:=JZ w1 st o fr (λb hb=>ok.some (Sl.frz_as hb)) (W6 sr λb hb=>Sl.frz_as hb);exact k _ _ rfl y L1 H' ho hd m1 w3 cg λhq=>⟨jY (sm hq) o.same,λb hb=>z9 (sm hq) (o.new b hb)⟩
theorem kqy{r f}(ad:Ad2 Z.K r f){Q}(h:tQ Z qa (cF2 f a b) σ H Q):tOp r (tV Z qa a) (tV Z true b) σ H Q:=by
 obtain⟨E,L,R,m,w,hc,xc,k⟩:=h;refine kX m w hc xc λE1 s h1 x L1 H1 e1 e2 m1 w1 ok fr sr st sm=>(kX m1 w1 h1 (xc.step st) λE2 s2 h2 y L2 H2 e3 e4 m2 w2 gp ot ou b8 cx=>?_)
 obtain⟨z,hz,rfl⟩:=wj h2;have kx:=Jz ok fr b8 (cx rfl);refine ad H2 x y z Q kx.1 gp (by simp_all) λy' H' ho hd o=>?_
 obtain⟨w3,cg⟩:=JZ w2 (st.trans b8) o (λb hb=>(aA hb).elim (kx.2 b) (ot b)) (λb hb=>(aA hb).elim (λz=>kx.1.some (Sl.frz_as z)) λz=>gp.some (Sl.frz_as z))
  (vqx (W6 sr λb hb=>Sl.frz_as hb) (W6 (ou.back st) λb hb=>Sl.frz_as hb))
 exact k _ _ rfl y' L2 H' ho hd m2 w3 cg λhq=>⟨jY (sm hq) (jY (cx rfl) o.same),λb hb=>z9 (jY (sm hq) (cx rfl)) (o.new b hb)⟩
theorem q9{op r f}(ho:OpR X (binaryOp op) r)(ad:Ad2 Z.K r f)(ha:QV X Z qa a ea)(hb:QV X Z true b eb):QE X Z qa (cF2 f a b) (.BinOp ea op eb pos):=
 k7 (wx8 ho ha hb) fun σ H Q h=>kqy ad h
theorem Vv{op r f}(ho:OpR X (compareOp op) r)(ad:Ad2 Z.K r f)(ha:QV X Z qa a ea)(hb:QV X Z true b eb)(hm:behindInMarks op eb=false):QE X Z qa (cF2 f a b) (.Compare ea [op] [eb] pos):=
 k7 (vvt ho ha hb hm) fun σ H Q h=>kqy ad h
theorem RepA.get{K H g}:∀{ds xs as} {i:Nat} {d},RepA K H g ds xs as->ds[i]?=some d->∃v bs,xs[i]?=some v/\RepL K H g d v bs/\∀b∈bs,b∈as
 | [],_,_,_,_,_,e=>by simp_all
 | d::ds,_,_,i,d',h,e=>by
  obtain⟨x,r,bs,cs,rfl,rfl,h1,h2⟩:=h;cases i with
  |zero=>
   have e:d=d':=by simpa using e
   subst e;exact⟨x,bs,by simp,h1,λb hb=>ll9 _ hb⟩
  |succ i=>
   obtain⟨v,bp,e1,e2,e3⟩:=RepA.get h2 (by simpa using e);exact⟨v,bp,by simpa using e1,e2,λb hb=>lr9 _ (e3 b hb)⟩
theorem RepA.len{K H g}:∀{ds xs as},RepA K H g ds xs as->ds.length=xs.length
 |[],_,_,h=>by rw[h.1];rfl
 |d::ds,_,_,h=>by
  obtain⟨x,r,bs,cs,rfl,rfl,h1,h2⟩:=h;simp[RepA.len h2]
theorem items{K H}{x:Sl}{ds}(ok:x.ok K H)(h:x.d=.lst ds\/x.d=.tup ds):∃a xs bs,x.v=.ref a/\((x.d=.lst ds/\LsR K H a xs)\/(x.d=.tup ds/\SqT K H a xs))/\RepA K H (x.o != .dp) ds xs bs/\(∀b∈bs,b∈x.as)/\(x.o≠.dp->∀b∈bs,b∈x.frz):=by
 obtain⟨o,d,v,as⟩:=x;rcases h with rfl|rfl
 ·cases o with
  |no=>
   have ok:RepL K H true _ v as:=ok;obtain⟨a,xs,bs,rfl,r,q⟩:=ok;rcases q with⟨q,rfl⟩|⟨_,q,rfl⟩
   ·exact⟨a,xs,bs,rfl,.inl ⟨rfl,.inl (.inl q)⟩,r,λb hb=>lc9 _ hb,λ_ b hb=>lc9 _ hb⟩
   ·exact⟨a,xs,as,rfl,.inl ⟨rfl,.of q⟩,r,λb hb=>hb,λ_ b hb=>hb⟩
  |rt=>
   obtain⟨a,xs,bs,rfl,r,q,rfl⟩:=(ok);exact⟨a,xs,bs,rfl,.inl ⟨rfl,.inl (.inl q)⟩,r,λb hb=>lc9 _ hb,λ_ b hb=>by simpa [Sl.frz]using hb⟩
  |dp=>
   have ok:RepL K H false _ v as:=ok;obtain⟨a,xs,bs,rfl,r,q⟩:=ok;rcases q with⟨q,rfl⟩|⟨z,_⟩
   ·exact⟨a,xs,bs,rfl,.inl ⟨rfl,.inl (.inl q)⟩,r,λb hb=>lc9 _ hb,λz=>absurd rfl z⟩
   ·grind
 ·cases o with
  |no=>
   have ok:=ok;obtain⟨a,xs,rfl,q,r⟩:=ok;exact⟨a,xs,as,rfl,.inr ⟨rfl,q⟩,r,λb hb=>hb,λ_ b hb=>hb⟩
  |rt=>exact(ok).elim
  |dp=>
   obtain⟨a,xs,rfl,q,r⟩:=ok;exact⟨a,xs,as,rfl,.inr ⟨rfl,q⟩,r,λb hb=>hb,λz=>absurd rfl z⟩
theorem xw{K H}{x:Sl}{ds}(ok:x.ok K H)(h:x.d=.lst ds\/x.d=.tup ds)(hl:kj (x.o,x.d)=true):∃a xs bs,x.v=.ref a/\((x.d=.lst ds/\LsR K H a xs)\/(x.d=.tup ds/\SqT K H a xs))/\RepA K H true ds xs bs/\(∀b∈bs,b∈x.frz):=by
 obtain⟨a,xs,bs,e,q,r,h1,h2⟩:=items ok h
 by_cases ho:x.o=.dp
 ·have hp:D.pures ds=true:=by
   unfold kj at hl;rw[show(x.o,x.d).1=Own.dp from ho]at hl;have:xja x.d=ds:=by rcases h with h|h<;>rw[h]<;>rfl
   simpa [this]using hl
  obtain⟨rfl,r'⟩:=RepA.pu (g':=true) r hp;exact⟨a,xs,[],e,q,r',λ_ z=>nomatch z⟩
 ·have:(x.o != Own.dp)=true:=by simpa using ho
  rw[this]at r;exact⟨a,xs,bs,e,q,r,h2 ho⟩
end
section
variable {K:Frag}{H:Hp}{x y:Sl}
theorem kz{i}(ok:x.ok K H)(h:x.d=.int i):x.v=.int i:=by
 have:=RepO.wk ok;rw[h]at this;exact this.1
theorem qvz{i}(ok:x.ok K H)(h:x.d=.bl i):x.v=.bl i:=by
 have:=RepO.wk ok;rw[h]at this;exact this.1
theorem vkv(ok:x.ok K H)(h:x.d=.non):x.v=.non:=by
 have:=RepO.wk ok;rw[h]at this;exact this.1
theorem wX{z}(ok:x.ok K H)(h:x.d=.str z):x.v=.str z/\z.length<=sizeLine:=by
 have:=RepO.wk ok;rw[h]at this;exact⟨this.1,this.2.2⟩
theorem xZ{i g}:RepL K H g (.int i) (.int i) []:=⟨rfl,rfl⟩
theorem xx{i g}:RepL K H g (.bl i) (.bl i) []:=⟨rfl,rfl⟩
theorem qv0{g}:RepL K H g .non .non []:=⟨rfl,rfl⟩
theorem VZ{z g}(h:z.length<=sizeLine):RepL K H g (.str z) (.str z) []:=⟨rfl,rfl,h⟩
theorem Wx{i fr}:Out K H H ⟨.dp,.int i,.int i,[]⟩ fr:=jzo x5 xZ
theorem wJ{i fr}:Out K H H ⟨.dp,.bl i,.bl i,[]⟩ fr:=jzo x5 xx
theorem wxb{z fr}(h:z.length<=sizeLine):Out K H H ⟨.dp,.str z,.str z,[]⟩ fr:=jzo x5 (VZ h)
theorem vkc{C}{g:Int->Int->Int}{f}(h:∀i j k,f i j=some k->C i j/\k=g i j):Ad2 K (rI C λi j=>.int (g i j)) (pu2 (i2 f)):=by
 intro H x y s Q ox oy hf k;unfold pu2 i2 at hf;dsimp only at hf
 split at hf
 ·rename_i i j e1 e2;cases hk:f i j with
  |none=>rw[hk]at hf;cases hf
  |some n=>
   rw[hk]at hf;cases oq9 hf;obtain⟨hc,rfl⟩:=h i j n hk;exact⟨i,j,kz ox e1,kz oy e2,hc,k _ H rfl rfl Wx⟩
 ·cases hf
theorem wzi{g:Int->Int->Int}{f}(h:∀i j,f i j=some (g i j)):Ad2 K (rI0 λi j=>.int (g i j)) (pu2 (i2 f)):=by
 intro H x y s Q ox oy hf k;unfold pu2 i2 at hf;dsimp only at hf
 split at hf
 ·rename_i i j e1 e2;rw[h]at hf;cases oq9 hf;exact⟨i,j,kz ox e1,kz oy e2,k _ H rfl rfl Wx⟩
 ·cases hf
theorem vxo{g}:Ad2 K (rI0 λi j=>.bl (g i j)) (pu2 (c2 g)):=by
 intro H x y s Q ox oy hf k;unfold pu2 c2 at hf;dsimp only at hf
 split at hf
 ·rename_i i j e1 e2;cases oq9 hf;exact⟨i,j,kz ox e1,kz oy e2,k _ H rfl rfl wJ⟩
 ·cases hf
theorem qk0:Ad2 K (rI0 λi j=>.int (i - j)) (pu2 XQ):=wzi λ_ _=>rfl
theorem J8:Ad2 K (rI wvn λi j=>.int (i / j)) (pu2 xq):=vkc λi j k h=>by
 split at h
 ·rename_i c;exact⟨c,(oq9 h).symm⟩
 ·grind
theorem wvh:Ad2 K (rI (λ_ j=>0<j) λi j=>.int (i % j)) (pu2 kY):=vkc λi j k h=>by
 split at h
 ·rename_i c;exact⟨c,(oq9 h).symm⟩
 ·grind
theorem kwv:Ad2 K (rI ww5 λi j=>.int (i ^ j.toNat)) (pu2 Q9):=vkc λi j k h=>by
 split at h
 ·rename_i c;exact⟨c,(oq9 h).symm⟩
 ·grind
theorem wvg:Ad2 K (rI ww5 λi j=>.int (i*2 ^ j.toNat)) (pu2 wz0):=vkc λi j k h=>by
 split at h
 ·rename_i c;exact⟨c,(oq9 h).symm⟩
 ·grind
end
def wj9(K:Frag):R2:=λx y H Q=>∃l b xs zs,x=.ref l/\y=.ref b/\LsR K H l xs/\LsR K H b zs/\xs.length+zs.length<=sizeLine/\∀p,H p=none->Q (.ref p) (upd H p (.lst (xs++zs)))
theorem op_catL{X}:OpR X (binaryOp .Add) (wj9 X.K):=by
 rintro a7 s σ H x y v u Q I rx ry ⟨l,b,xs,zs,rfl,rfl,hH,hB,hz,q⟩;cases rx;cases ry;obtain⟨z,a8,n,r,e⟩:=hH.is I;obtain⟨z2,ce,n2,r2,e2⟩:=hB.is I;have hl:=r.length;have nv:=r2.length;refine PySem.P.add_list e e2 ?_ (by rw[X9,X9];lia);have ea:a8.toArray++ce.toArray=(a8++ce).toArray:=by simp
 rw[ea];exact⟨.ref _,_,I.lnew (t':=s.toks) (r.append r2) (by rw[Y6];lia),rfl,q _ I.fresh⟩
def wja(K:Frag):R2:=λx y H Q=>∃a b ys,x=.ref a/\y=.ref b/\SqT K H a []/\SqT K H b ys/\Q (.ref b) H
theorem op_catE{X}:OpR X (binaryOp .Add) (wja X.K):=by
 rintro a7 s σ H x y v u Q I rx ry ⟨a,b,ys,rfl,rfl,ha,hb,q⟩;cases rx;cases ry;obtain⟨a8,r1,p1,_⟩:=I.tuple ha;obtain⟨ce,r2,p2,_⟩:=I.tuple hb;obtain⟨⟨cls,dd,data,sl⟩,ho,hc,n,hd⟩:=id p1;obtain⟨⟨cls2,dd2,data2,jr⟩,ho2,lu,n2,dy⟩:=id p2;subst hc hd lu dy;have e:=r1.nil_iff.mpr rfl;subst e;exact concat_meets ⟨_,ho,rfl⟩ ⟨_,ho2,rfl⟩ noFill_tuple_add seq_tuple_add PySem.F.slot_tuple_add PySem.F.entry_tuple_add (PySem.F.args_tuple_add_2 _ _)
   (tuple_addW0 a b [].toArray ce.toArray n n2 dd dd2 sl jr (by simp)) ⟨ho,ho2,⟨.ref b,H,I,rfl,q⟩⟩
def wjb(K:Frag):R2:=λx y H Q=>rI0 (λi j=>.int (i+j)) x y H Q\/(∃i j,x=.str i/\y=.str j/\i.length+j.length<=sizeLine/\Q (.str (i++j)) H)\/wj9 K x y H Q\/wja K x y H Q\/wj8 K x y H Q
theorem wkm{X K}(hK:X.K=K):OpR X (binaryOp .Add) (wjb K):=by subst hK;exact op_add.or (op_add_str.or (op_catL.or (op_catE.or vw2)))
theorem RepA.app{K H g ds' xs' bp}(h':RepA K H g ds' xs' bp):∀{ds xs as},RepA K H g ds xs as->RepA K H g (ds++ds') (xs++xs') (as++bp)
 |[],_,_,h=>by rw[h.1,h.2];exact h'
 |d::ds,_,_,h=>by
  obtain⟨x,r,bs,cs,rfl,rfl,h1,h2⟩:=h;rw[List.cons_append];exact⟨x,r++xs',bs,cs++bp,rfl,by rw[Yb],h1,RepA.app h' h2⟩
theorem qY{H p o}(h:H p=none):jJ H (upd H p o):=λb u q=>by rw[kq (zV q h)];exact q
theorem J4{K H p ds xs bs fr}(hp:H p=none)(r:RepA K H true ds xs bs)(hb:∀b∈bs,b∈fr):Out K H (upd H p (.lst xs)) ⟨.rt,.lst ds,.ref p,p::bs⟩ fr:=by
 refine⟨qY hp,⟨p,xs,bs,rfl,r.kp (Kp.of_same (qY hp)),wQ,rfl⟩,λb hb=>?_,?_,λb df=>hb b (by simpa [Sl.frz]using df)⟩
 ·have:b=p:=by simpa [Sl.own]using hb
  rw[this];exact hp
 ·simp[Sl.own]
theorem W7{K H p ds xs bs fr}(hp:H p=none)(r:RepA K H true ds xs bs)(hb:∀b∈bs,b∈fr):Out K H (upd H p (.tup xs)) ⟨.no,.tup ds,.ref p,bs⟩ fr:=by
 refine⟨qY hp,?_,λb hb=>(nomatch hb),Y7,λb df=>hb b df⟩;show RepL K _ true _ _ bs;exact⟨p,xs,rfl,SqT.of wQ,r.kp (Kp.of_same (qY hp))⟩
theorem wvl{K}:Ad2 K (wjb K) k4:=by
 intro H x y s Q ox oy hf k;unfold k4 at hf;dsimp only at hf
 split at hf
 ·rename_i i j e1 e2;cases oq9 hf;exact .inl ⟨i,j,kz ox e1,kz oy e2,k _ H rfl rfl Wx⟩
 ·rename_i i j e1 e2
  split at hf
  ·rename_i hl;cases oq9 hf;have hl':(i++j).length<=sizeLine:=by rw[strLen_append];exact hl
   exact .inr (.inl ⟨i,j,(wX ox e1).1,(wX oy e2).1,hl,k _ H rfl rfl (wxb hl')⟩)
  ·cases hf
 ·rename_i i j e1 e2
  split at hf
  ·rename_i hl;cases oq9 hf;obtain⟨a,xs,bs,e3,q3,r3,h3⟩:=xw ox (.inl e1) hl.2.1;obtain⟨b,ys,cs,e4,q4,r4,h4⟩:=xw oy (.inl e2) hl.2.2;have q3:LsR K H a xs:=by rcases q3 with⟨_,z⟩|⟨z,_⟩;exact z;rw[e1]at z;cases z
   have q4:LsR K H b ys:=by rcases q4 with⟨_,z⟩|⟨z,_⟩;exact z;rw[e2]at z;cases z
   exact .inr (.inr (.inl ⟨a,b,xs,ys,e3,e4,q3,q4,by rw[<-r3.len,<-r4.len];exact hl.1,λp hp=>(k _ _ rfl rfl (J4 hp (r4.app r3) λb hb=>(aA hb).elim (λz=>ll9 _ (h3 b z)) λz=>lr9 _ (h4 b z)))⟩))
  ·cases hf
 ·rename_i i j e1 e2
  split at hf
  ·rename_i hl;cases oq9 hf;obtain⟨a,xs,bs,e3,q3,r3,h3⟩:=xw ox (.inr e1) hl.2.1;obtain⟨b,ys,cs,e4,q4,r4,h4⟩:=xw oy (.inr e2) hl.2.2;have q3:SqT K H a xs:=by rcases q3 with⟨z,_⟩|⟨_,z⟩;rw[e1]at z;cases z;exact z
   have q4:SqT K H b ys:=by rcases q4 with⟨z,_⟩|⟨_,z⟩;rw[e2]at z;cases z;exact z
   have ap:=r4.app r3;have og:=λb hb=>(aA hb).elim (λz=>ll9 _ (h3 b z)) λz=>lr9 _ (h4 b z)
   have same:∀c zs,zs=xs++ys->SqT K H c zs->Q (.ref c) H:=λc zs e hq=>by
    refine k ⟨.no,.tup _,.ref c,bs++cs⟩ H rfl rfl ⟨x5,?_,λb hb=>(nomatch hb),Y7,og⟩;show RepL K H true _ _ _;exact⟨c,zs,rfl,hq,by rw[e];exact ap⟩
   by_cases hx:xs=[]
   ·subst hx;exact .inr (.inr (.inr (.inl ⟨a,b,ys,e3,e4,q3,q4,same b ys rfl q4⟩)))
   ·refine .inr (.inr (.inr (.inr ⟨a,b,xs,ys,e3,e4,q3,q4,hx,by rw[<-r3.len,<-r4.len];exact hl.1,λhy=>?_,λhy p hp=>?_⟩)))
    ·exact same a xs (by rw[hy,Xq]) q3
    ·exact k _ _ rfl rfl (W7 hp ap og)
  ·cases hf
 ·cases hf
def tT(Z:Fx0)(q:Bool)(c:Ts):TT:=fun σ H Q=>∃E L r,Mt E σ L/\World Z.K H L/\c E=some r/\Xc Z σ H L r /\
 ∀E' k,r=.ok E' k->∀L' H',Mt E' σ L'->World Z.K H' L'->Step H L H' L'->(q=true->jJ H H')->Q k H'
def QT(X:Cx)(Z:Fx0)(q:Bool)(c:Ts)(e:Expr):Prop:=PT X e (tT Z q c)
def QW(X:Cx)(Z:Fx0)(q:Bool)(c:Ts)(e:Expr):Prop:=PW X e (tT Z q c)
section
variable {X:Cx}{Z:Fx0}{q qa qb:Bool}{a b c:Ex}{u v:Ts}{e ea eb:Expr}{es:List Expr}{pos:Pos}{α β:Type}{σ:L2.St}{H:Hp}{L:Ls}{E:En}
theorem wjq{e t t'}(h:PW X e t)(w:∀ σ H Q,t' σ H Q->t σ H Q):PW X e t':=λwh a7 s σ H Q I q=>h wh a7 s σ H Q I (w σ H Q q)
theorem vzi{F}{r:Res α}{G}(m:Mt E σ L)(w:World Z.K H L)(h:bnd (u E) F=some r)(xc:Xc Z σ H L r)
  (k:∀E1 s,F E1 s=some r->∀L1 H1,Mt E1 σ L1->World Z.K H1 L1->Step H L H1 L1->(q=true->jJ H H1)->G s H1):tT Z q u σ H G:=by
 rcases vK h with⟨E1,s,h1,h2⟩|⟨E1,c,h1,h2⟩
 ·exact⟨E,L,_,m,w,h1,(λ_ _ z=>by cases z),λE' s' z L' H' m' w' st sm=>by
   injection z with z1 z2;subst z1 z2;exact k _ _ h2 L' H' m' w' st sm⟩
 ·exact⟨E,L,_,m,w,h1,xc.map h2,λE' s' z=>by cases z⟩
theorem Qv(ha:QT X Z q u ea):QW X Z q u (.BoolOp .Or [ea] pos):=wjp ha
theorem xQ(ha:QT X Z q u ea)(hb:QW X Z q v (.BoolOp .Or (eb::es) pos)):QW X Z q (Q.tOr u v) (.BoolOp .Or (ea::eb::es) pos):=
 wjq (wx6 ha hb) fun σ H Q aj=>ex8 aj λE L r m w hc xc k=>vzi m w hc xc λE1 s h1 L1 H1 m1 w1 st sm=>by
  cases s with
  |false=>
   exact⟨E1,L1,r,m1,w1,h1,xc.step st,λE' k' z L' H' m' w' fq ko=>k E' k' z L' H' m' w' (st.trans fq) λhq=>jY (sm hq) (ko hq)⟩
  |true=>grind
theorem QW.pt(h:QW X Z q u e):QT X Z q u e:=PW.pt h
theorem vQ(ha:QT X Z q u ea):QT X Z q (Q.tNot u) (.UnaryOp .Not ea pos):=
 qvj (wju ha) fun σ H Q aj=>ex8 aj λE L r m w hc xc k=>vzi m w hc xc λE1 s h1 L1 H1 m1 w1 st sm=>by
  cases oq9 h1;exact k _ _ rfl L1 H1 m1 w1 st sm
theorem v6{op r f}(ho:OpR X (compareOp op) r)(ad:Ad2 Z.K r f)(ha:QV X Z qa a ea)(hb:QV X Z true b eb)(hm:behindInMarks op eb=false)(hf:∀x y s,f x y=some s->∃k,s.2=.bl k):QT X Z qa (Q.tE (cF2 f a b)) (.Compare ea [op] [eb] pos):=
 qvj (vvl ho ha hb hm) fun σ H Q aj=>ex8 aj λE L r m w hc xc k=>by
  refine kqy ad ?_;rcases vK hc with⟨E1,s,h1,h2⟩|⟨E1,c,h1,h2⟩
  ·refine⟨E,L,_,m,w,h1,(λ_ _ z=>by cases z),λE' s' z x L' H' e1 e2 m' w' st sm=>?_⟩;injection z with z1 z2;subst z1 z2;obtain⟨kk,hk⟩:∃k,s.2=.bl k:=by
    rcases vK h1 with⟨E2,s2,h3,h4⟩|⟨_,_,_,z⟩
    ·rcases vK h4 with⟨E3,s3,h5,h6⟩|⟨_,_,_,z⟩
     ·obtain⟨y,hy,z⟩:=wj h6;cases z;exact hf _ _ _ hy
     ·cases z
    ·cases z
   rw[hk]at h2;cases oq9 h2;exact⟨kk,qvz w'.head (e2.trans hk),k _ _ rfl L' H' m' w'.tail (st.trans Step.drop) λhq=>(sm hq).1⟩
  ·exact⟨E,L,_,m,w,h1,xc.map h2,λE' s' z=>by cases z⟩
end
def Pn(pn:List Nat)(σ σ':L2.St):Prop:=∀p∈pn,σ'[p]?=σ[p]?
theorem Pn.refl{pn σ}:Pn pn σ σ:=λ_ _=>rfl
theorem Pn.trans{pn σ σ1 σ2}(a:Pn pn σ σ1)(b:Pn pn σ1 σ2):Pn pn σ σ2:=λp hp=>(b p hp).trans (a p hp)
theorem Pn.set{pn σ σ1 i y}(a:Pn pn σ σ1)(h:i∉pn):Pn pn σ (σ1.set i y):=λp hp=>by
 have:i≠p:=λe=>h (e▸hp)
 rw[Xw this];exact a p hp
noncomputable def FlP(Z:Fx0)(pn:List Nat)(D:Ends)(σ:L2.St)(H:Hp)(L:Ls):Fl->Prop
 |.nx E'=>∀ σ' L' H',Pn pn σ σ'->Mt E' σ' L'->World Z.K H' L'->Step H L H' L'->D.nx σ' H'|.ct E'=>∀ σ' L' H',Pn pn σ σ'->Mt E' σ' L'->World Z.K H' L'->Step H L H' L'->D.ct σ' H'|.bk E'=>∀ σ' L' H',Pn pn σ σ'->Mt E' σ' L'->World Z.K H' L'->Step H L H' L'->D.bk σ' H'|.rt E' a=>∀(x:Sl) σ' L' H',x.o=a.1->x.d=a.2->Pn pn σ σ'->Mt E' σ' L'->World Z.K H' (some x::L')->Step H L H' (some x::L')->D.rt x.v H'|.xc E' c=>∀C σ' L' H',Z.mg c=some (.ref C)->Pn pn σ σ'->Mt E' σ' L'->World Z.K H' L'->Step H L H' L'->Z.EX (.ref C) none H'
theorem FlP.step{Z pn D σ σ1 H H1 L L1 r}(k:FlP Z pn D σ H L r)(s:Step H L H1 L1)(p:Pn pn σ σ1):FlP Z pn D σ1 H1 L1 r:=by
 cases r with|nx E'=>exact fun σ' L' H' p' m w s'=>k σ' L' H' (p.trans p') m w (s.trans s')|ct E'=>exact fun σ' L' H' p' m w s'=>k σ' L' H' (p.trans p') m w (s.trans s')|bk E'=>exact fun σ' L' H' p' m w s'=>k σ' L' H' (p.trans p') m w (s.trans s')|rt E' a=>exact λx σ' L' H' e1 e2 p' m w s'=>k x σ' L' H' e1 e2 (p.trans p') m w (s.trans s')|xc E' c=>exact λC σ' L' H' hm p' m w s'=>k C σ' L' H' hm (p.trans p') m w (s.trans s')
theorem FlP.xc{α Z pn D σ H L E' c}(k:FlP Z pn D σ H L (.xc E' c)):Xc Z σ H L (.exc E' c:Res α):=λE1 c1 e C L' H' hm m w s=>by
 injection e with h1 h2;subst h1 h2;exact k C σ L' H' hm Pn.refl m w s
def tS(Z:Fx0)(pn:List Nat)(c:Sm):TS:=λD σ H=>∃E L r,Mt E σ L/\World Z.K H L/\c E=some r/\FlP Z pn D σ H L r
def QS(X:Cx)(Z:Fx0)(pn:List Nat)(c:Sm)(st:Stmt):Prop:=PS X st (tS Z pn c)
def QSs(X:Cx)(Z:Fx0)(pn:List Nat)(c:Sm)(st:List Stmt):Prop:=PSs X st (tS Z pn c)
section
variable {X:Cx}{Z:Fx0}{pn:List Nat}{q qa qb:Bool}{a b c:Ex}{u v:Ts}{A B:Sm}{e ea eb:Expr}{st:Stmt}{ss tt:List Stmt}{pos:Pos}{α:Type}{σ:L2.St}{H:Hp}{L:Ls}{E:En}{D:Ends}
theorem jwy{m}{F:En->α->Option Fl}{r}(h:ofE m F=some r):(∃E1 x,m=some (.ok E1 x)/\F E1 x=some r)\/∃E1 c,m=some (.exc E1 c)/\r=.xc E1 c:=by
 cases m with
 |none=>cases h
 |some q=>
  cases q with|ok E1 x=>exact .inl ⟨E1,x,rfl,h⟩|exc E1 c=>exact .inr ⟨E1,c,rfl,(oq9 h).symm⟩
theorem Wq{F r G}(m:Mt E σ L)(w:World Z.K H L)(h:ofE (a E) F=some r)(k:FlP Z pn D σ H L r)
  (g:∀E1 s,F E1 s=some r->∀x L1 H1,x.o=s.1->x.d=s.2->Mt E1 σ L1->World Z.K H1 (some x::L1)->Step H L H1 (some x::L1)->(q=true->jJ H H1/\∀b∈x.own,H b=none)->G x.v H1):tQ Z q a σ H G:=by
 rcases jwy h with⟨E1,s,h1,h2⟩|⟨E1,c,h1,rfl⟩
 ·exact⟨E,L,_,m,w,h1,(λ_ _ z=>by cases z),λE' s' z x L' H' e1 e2 m' w' st sm=>by
   injection z with z1 z2;subst z1 z2;exact g _ _ h2 x L' H' e1 e2 m' w' st sm⟩
 ·exact⟨E,L,_,m,w,h1,k.xc,λE' s' z=>by cases z⟩
theorem vzr{F r G}(m:Mt E σ L)(w:World Z.K H L)(h:ofE (u E) F=some r)(k:FlP Z pn D σ H L r)
  (g:∀E1 s,F E1 s=some r->∀L1 H1,Mt E1 σ L1->World Z.K H1 L1->Step H L H1 L1->G s H1):tT Z q u σ H G:=by
 rcases jwy h with⟨E1,s,h1,h2⟩|⟨E1,c,h1,rfl⟩
 ·exact⟨E,L,_,m,w,h1,(λ_ _ z=>by cases z),λE' s' z L' H' m' w' st sm=>by
   injection z with z1 z2;subst z1 z2;exact g _ _ h2 L' H' m' w' st⟩
 ·exact⟨E,L,_,m,w,h1,k.xc,λE' s' z=>by cases z⟩
theorem qv:QSs X Z pn kZ []:=qvk vvm λD σ H aj=>ex7 aj λE L r m w hc k=>by
 cases oq9 hc;exact k σ L H Pn.refl m w Step.refl
theorem j8(h1:QS X Z pn A st)(h2:QSs X Z pn B ss):QSs X Z pn (j7 A B) (st::ss):=qvk (kzy h1 h2) λD σ H aj=>ex7 aj λE L r m w hc k=>by
 unfold j7 at hc;cases ha:A E with
 |none=>rw[ha]at hc;cases hc
 |some f=>
  rw[ha]at hc;cases f with|nx E1=>exact⟨E,L,_,m,w,ha,fun σ' L' H' p m' w' s=>⟨E1,L',r,m',w',hc,k.step s p⟩⟩|ct E1=>cases oq9 hc;exact⟨E,L,_,m,w,ha,k⟩|bk E1=>cases oq9 hc;exact⟨E,L,_,m,w,ha,k⟩|rt E1 x=>cases oq9 hc;exact⟨E,L,_,m,w,ha,k⟩|xc E1 x=>cases oq9 hc;exact⟨E,L,_,m,w,ha,k⟩
theorem jk(h1:QS X Z pn A st):QSs X Z pn A [st]:=kx8 h1
theorem jX(h:QE X Z q a ea):QS X Z pn (jW a) (.Return (some ea) pos):=zq (wjw h) λD σ H aj=>ex7 aj λE L r m w hc k=>
 Wq m w hc k λE1 s h1 x L1 H1 e1 e2 m1 w1 st _=>by
  cases oq9 h1;exact k x σ L1 H1 e1 e2 Pn.refl m1 w1 st
theorem qw(hc:QT X Z q u e)(ha:QSs X Z pn A ss)(hb:QSs X Z pn B tt):QS X Z pn (sIf u A B) (.If e ss tt pos):=zq (wx7 hc ha hb) λD σ H aj=>ex7 aj λE L r m w hc k=>
 vzr m w hc k λE1 s h1 L1 H1 m1 w1 st=>by
  cases s with|true=>rw[X6 rfl]at h1 ⊢;exact⟨E1,L1,r,m1,w1,h1,k.step st Pn.refl⟩|false=>rw[Xa ⋯]at h1 ⊢;exact⟨E1,L1,r,m1,w1,h1,k.step st Pn.refl⟩
theorem W5{x i s}(m:Mt E σ L)(e1:x.o=s.1)(e2:x.d=s.2):Mt (E.set i (some s)) (σ.set i (some x.v)) (L.set i (some x)):=by
 have:=m.set (x:=x) i;rw[e1,e2]at this;exact this
theorem wx2{i y bm}(hN:X.N.Nodup)(hi:X.N[i]?=some y)(hx:Loc X.env.scope y)(h:QE X Z q a ea)(hp:autoParam (i∉pn) ŕ)(hs:autoParam (swapsWith ea (some (.Name y bm)) pos.line X.env=pure false) Ŕ)(hf:autoParam (X.fn y=true\/X.env.scope.names.lookup y=some .local) Ř):
  QS X Z pn (jV i a) (.Assign [.Name y bm] ea pos):=zq (wjv hN hi hx h hs hf) λD σ H aj=>ex7 aj λE L r m w hc k=>
 Wq m w hc k λE1 s h1 x L1 H1 e1 e2 m1 w1 st _=>by
  cases oq9 h1;exact k _ _ H1 (Pn.refl.set hp) (W5 m1 e1 e2) w1.set (st.trans Step.set)
theorem wjo{i y bm}(hp:i∉pn)(h:PS X (.Assign [.Name y bm] ea pos) (λD σ H=>tQ Z q a σ H λv H1=>D.nx (σ.set i (some v)) H1)):
  QS X Z pn (jV i a) (.Assign [.Name y bm] ea pos):=zq h λD σ H aj=>ex7 aj λE L r m w hc k=>
 Wq m w hc k λE1 s h1 x L1 H1 e1 e2 m1 w1 st _=>by
  cases oq9 h1;exact k _ _ H1 (Pn.refl.set hp) (W5 m1 e1 e2) w1.set (st.trans Step.set)
end
structure Walks (K:Frag)(J:It)(T:List Sl)(ds:List D):Prop where
 no:∀t∈T,t.o=.no
 go:∀i H,(∀t∈T,t.ok K H)->i<ds.length->J.go i H
 stop:∀H,(∀t∈T,t.ok K H)->J.stop ds.length H
 yld:∀i H v H' d,(∀t∈T,t.ok K H)->J.yld i H v H'->ds[i]?=some d->∃z:Sl,z.o=.no/\z.d=d/\z.v=v/\jJ H H'/\z.ok K H'/\∀b∈z.as,∃t∈T,b∈t.as
noncomputable def tI(Z:Fx0)(q:Bool)(it:Ev (List D)):TI:=fun σ H R=>∃E L r,Mt E σ L/\World Z.K H L/\it E=some r/\Xc Z σ H L r /\
 ∀E' ds,r=.ok E' ds->∀J T L' H',Mt E' σ L'->World Z.K H' (L'++T.map some)->Step H L H' (L'++T.map some)->ds.length<=sizeLine->(q=true->jJ H H')->Walks Z.K J T ds->R J H'
def QI(X:Cx)(Z:Fx0)(q:Bool)(tg:Expr)(it:Ev (List D))(e:Expr):Prop:=PI X tg e (tI Z q it)
def wzk(K:Frag)(H0:Hp)(T:List Sl)(H:Hp):Prop:=(∀t∈T,t.ok K H)/\∀t∈T,Kp H0 H t.as
structure WalksD (K:Frag)(H0:Hp)(J:It)(T:List Sl)(ds:List D):Prop where
 no:∀t∈T,t.o=.no
 go:∀i H,wzk K H0 T H->i<ds.length->J.go i H
 stop:∀H,wzk K H0 T H->J.stop ds.length H
 yld:∀i H v H' d,wzk K H0 T H->J.yld i H v H'->ds[i]?=some d->∃z:Sl,z.o=.no/\z.d=d/\z.v=v/\jJ H H'/\z.ok K H'/\∀b∈z.as,∃t∈T,b∈t.as
theorem Walks.D{K H0 J T ds}(h:Walks K J T ds):WalksD K H0 J T ds:=⟨h.no,λi H o=>h.go i H o.1,λH o=>h.stop H o.1,λi H v H' d o=>h.yld i H v H' d o.1⟩
noncomputable def tID(Z:Fx0)(q:Bool)(it:Ev (List D)):TI:=fun σ H R=>∃E L r,Mt E σ L/\World Z.K H L/\it E=some r/\Xc Z σ H L r /\
 ∀E' ds,r=.ok E' ds->∀J T L' H',Mt E' σ L'->World Z.K H' (L'++T.map some)->Step H L H' (L'++T.map some)->ds.length<=sizeLine->(q=true->jJ H H')->WalksD Z.K H' J T ds->R J H'
def QID(X:Cx)(Z:Fx0)(q:Bool)(tg:Expr)(it:Ev (List D))(e:Expr):Prop:=PI X tg e (tID Z q it)
theorem QI.D{X Z q tg it e}(h:QI X Z q tg it e):QID X Z q tg it e:=λa7 s σ H R I hz=>h a7 s σ H R I (by
 obtain⟨E,L,r,m,w,e,x,k⟩:=hz;exact⟨E,L,r,m,w,e,x,λE' ds z J T L' H' m' w' st hl sm wk=>k E' ds z J T L' H' m' w' st hl sm wk.D⟩)
structure WalksS (K:Frag)(q:Bool)(H0:Hp)(J:It)(T:List Sl)(ds:List D):Prop where
 no:∀t∈T,t.o=.no
 go:∀i H,(∀t∈T,t.ok K H)->(q=true->jJ H0 H)->i<ds.length->J.go i H
 stop:∀H,(∀t∈T,t.ok K H)->(q=true->jJ H0 H)->J.stop ds.length H
 yld:∀i H v H' d,(∀t∈T,t.ok K H)->(q=true->jJ H0 H)->J.yld i H v H'->ds[i]?=some d->∃z:Sl,z.o=.no/\z.d=d/\z.v=v/\jJ H H'/\z.ok K H'/\∀b∈z.as,∃t∈T,b∈t.as
theorem vqp{K q H0 J T ds}(h:Walks K J T ds):WalksS K q H0 J T ds:=⟨h.no,λi H o _=>h.go i H o,λH o _=>h.stop H o,λi H v H' d o _=>h.yld i H v H' d o⟩
noncomputable def tIS(Z:Fx0)(q:Bool)(it:Ev (List D)):TI:=fun σ H R=>∃E L r,Mt E σ L/\World Z.K H L/\it E=some r/\Xc Z σ H L r /\
 ∀E' ds,r=.ok E' ds->∀J T L' H',Mt E' σ L'->World Z.K H' (L'++T.map some)->Step H L H' (L'++T.map some)->ds.length<=sizeLine->(q=true->jJ H H')->WalksS Z.K q H J T ds->R J H'
def QIS(X:Cx)(Z:Fx0)(q:Bool)(tg:Expr)(it:Ev (List D))(e:Expr):Prop:=PI X tg e (tIS Z q it)
theorem wzz{X Z q tg it e}(h:QI X Z q tg it e):QIS X Z q tg it e:=λa7 s σ H R I hz=>h a7 s σ H R I (by
 obtain⟨E,L,r,m,w,e,x,k⟩:=hz;exact⟨E,L,r,m,w,e,x,λE' ds z J T L' H' m' w' st hl sm wk=>k E' ds z J T L' H' m' w' st hl sm (vqp wk)⟩)
def tG(Z:Fx0)(pn:List Nat)(tg:Tg):TG:=λv σ H Q=>∃(E:En) (L:Ls) (z:Sl) (E':En),Mt E σ L/\World Z.K H (some z::L)/\z.o=.no/\z.v=v/\tg.put z.d E=some E' /\
 ∀ σ' L',Pn pn σ σ'->Mt E' σ' L'->World Z.K H L'->Step H (some z::L) H L'->Q σ' H
def QG(X:Cx)(Z:Fx0)(pn:List Nat)(tg:Tg)(e:Expr):Prop:=PG X e (tG Z pn tg)
section
variable {X:Cx}{Z:Fx0}{pn:List Nat}{e:Expr}{σ:L2.St}{H:Hp}{L:Ls}{E:En}
theorem vkl{t t'}(h:PG X e t)(w:∀v σ H Q,t' v σ H Q->t v σ H Q):PG X e t':=λa7 s σ H x v Q I r q=>h a7 s σ H x v Q I r (w x σ H Q q)
theorem wvu{i}(h:PG X e (Q3 i))(hp:autoParam (i∉pn) ŕ):QG X Z pn (.n i) e:=vkl h λv σ H Q ⟨E,L,z,E',m,w,ho,hv,b6,k⟩=>by
 cases oq9 b6;rw[<-hv];exact k _ _ (Pn.refl.set hp) (W5 m ho rfl) w.set Step.set
def gNs:List Nat->TGs
 |[]=>xjb|i::is=>wqj (Q3 i) (gNs is)
theorem qx3{Q M σ0}:∀{is ds xs bs E L σ E'},Mt E σ L->World Z.K H L->RepA Z.K H true ds xs bs->(∀b∈bs,b∉j5 L)->(∀b∈bs,b∈jx M)->Step H M H L->Pn pn σ0 σ ->
  setAll is ds E=some E'->(∀i∈is,i∉pn)->(∀ σ' L',Pn pn σ0 σ'->Mt E' σ' L'->World Z.K H L'->Step H M H L'->Q σ' H)->gNs is xs σ H Q
 | [],[],xs,bs,E,L,σ,E',m,w,r,_,_,st,p,e,_,k=>by
  cases oq9 e;exact⟨r.1,k σ L p m w st⟩
 | [],_::_,_,_,_,_,_,_,_,_,_,_,_,_,_,e,_,_=>by cases e| _::_,[],_,_,_,_,_,_,_,_,_,_,_,_,_,e,_,_=>by cases e
 | i::is,d::ds,xs,bs,E,L,σ,E',m,w,r,hb,hf,st,p,e,hi,k=>by
  obtain⟨x,rr,cs,es,rfl,rfl,h1,h2⟩:=r;have s1:Step H M H (L.set i (some ⟨.no,d,x,cs⟩)):=by
   refine⟨λ_ _ h _=>h,λa ha=>?_,λa ha=>?_⟩
   ·rcases WQ ha with z|z
    ·exact nomatch z
    ·exact st.own a z
   ·rcases Zq ha with z|z
    ·exact .inl (hf a (ll9 _ z))
    ·exact st.frz a z
  exact⟨x,rr,rfl,qx3 (W5 (x:=⟨.no,d,x,cs⟩) m rfl rfl) (w.consNo (x:=⟨.no,d,x,cs⟩) h1 rfl λb df=>hb b (ll9 _ df)).set h2 (λb df ho=>by
   rcases WQ ho with z|z
   ·exact nomatch z
   ·exact hb b (lr9 _ df) z) (λb df=>hf b (lr9 _ df)) s1 (p.set (hi i X4)) e (λj hj=>hi j (lc9 _ hj)) k⟩
theorem kk8:∀{is ds E E'},setAll is ds E=some E'->is.length=ds.length
 |[],[],_,_,_=>rfl|_::_,[],_,_,e=>by cases e|i::is,d::ds,E,E',e=>by rw[Xk,Xk,kk8 (E:=E.set i _) e]
def wvy(K:Frag)(n:Nat)(t:TGs):TG:=λv σ H Q=>∃a xs,v=.ref a/\(SqT K H a xs\/SqL K H a xs)/\xs.length=n/\t xs σ H Q
section
variable {prog:Program}{w:PySem.World}{A:Around}{E':VP9}
theorem kwh{it t items}(fb:t≠it):∀n i (s) (Q),s.heap.IsListIter it t i->s.heap.IsList t items->i+n<=items.size ->
  (∀h',h'.IsListIter it t (i+n)->Heap.SameBut it s.heap h'->Q ((items.toList.drop i).take n) {s with heap:=h' })->wpAny (model prog w) A (draw (.ref it) n) Q E' s
 | 0,i,s,Q,gv,_,_,hQ=>by
  exact X3 (by simpa using hQ s.heap gv (Heap.SameBut.refl ..))
 | n+1,i,s,Q,gv,ht,dm,hQ=>by
  have bh:i<items.size:=by omega
  refine X0 (wpAny_pyNext_list_item gv ht (x:=items[i]) (by simp) λh₁ nq qo=>?_);have ht₁:h₁.IsList t items:=by
   obtain⟨o,ho,r⟩:=ht;exact⟨o,(qo.2 t fb).trans ho,r⟩
  refine X0 (Y4 (kwh fb n _ _ _ nq ht₁ (by omega) λh₂ hit₂ hs₂=>X3 ?_));have hd:items.toList.drop i=items[i]::items.toList.drop (i+1):=by simp[Z2,bh]
  have:=hQ h₂ (by grind) (qo.trans hs₂)
  simp_all
theorem jz9{s t items Q}(hh:A.handled=none)(ht:s.heap.IsList t items)
  (hQ:∀h',Heap.ExtBut s.heap.objs.size s.heap h'->Q items.toList {s with heap:=h' }):wpAny (model prog w) A (unpackItems (.ref t) items.size none) Q E' s:=by
 have bh:t≠s.heap.objs.size:=by obtain⟨o,ho,_⟩:=ht;exact Xj (Xd ho)
 refine X0 ?_;unfold notIterableAtAll;refine X0 (Z5 ht.typeIs slot_list_iter.lookup ?_);refine X3 ?_;refine X0 (Y4 (Zd ht ?_));have ht0:∀o,(s.heap.push o).IsList t items:=λo=>by
  obtain⟨ob,ho,r⟩:=ht;exact⟨ob,X1 _ ho,r⟩
 refine X0 (Y4 (kwh bh items.size 0 _ _ ⟨_,Xe _ rfl,rfl,rfl⟩ (ht0 _) (by simp) λh₁ nq qo=>?_));have en:List.take items.size (List.drop 0 items.toList)=items.toList:=by
  rw[List.drop_zero];exact List.take_of_length_le (by simp)
 rw[en];rw[Xa (by simp)];have ht₁:h₁.IsList t items:=by
  obtain⟨o,ho,r⟩:=ht0 _;exact⟨o,(qo.2 t bh).trans ho,r⟩
 refine X0 (Y4 (wpAny_pyNext_list_end hh nq ht₁ (by simp) λh₂ he₂=>?_));exact X3 (hQ h₂ λb o hb e=>he₂ b o hb (qo.extBut b o hb (X1 _ e)))
theorem jxx{s env ca x1 pos t items Q}(hh:A.handled=none)(ht:s.heap.IsList t items)
  (hn:(assignEach ca env).length=items.size) (sj:(assignEach ca env).findIdx? (·.1)=none)
  (h:∀h',Heap.ExtBut s.heap.objs.size s.heap h'->wpAny (model prog w) A (assignInOrder ((assignEach ca env).map (·.2)) items.toList) Q E' {s with heap:=h' }):
  wpAny (model prog w) A (assign (.Tuple ca x1 pos) env (.ref t)) Q E' s:=by
 refine X0 (wpAny_standAt ?_);unfold unpack;rw[hn,sj];exact X0 (Y4 (jz9 hh ht h))
end
theorem Jw K {es k t n pos}(h:PGs X es t)(hc:autoParam (X.calm=true) Ŕ)(hK:autoParam (X.K=K) Ŕ)
  (hn:autoParam ((assignEach es X.env).length=n) Ŕ) (bw:autoParam ((assignEach es X.env).findIdx? (·.1)=none) Ŕ):PG X (.Tuple es k pos) (wvy K n t):=by
 subst hK;rintro a7 s σ H v u Q I r ⟨a,xs,e1,hq,hl,hw⟩;subst e1;cases r;rcases hq with hq|hq
 ·obtain⟨a8,rv,ht,hz⟩:=I.tuple hq;refine assign_Tuple_tuple (I.ok.hd hc) ht (by simp[hn,<-hl,rv.length]) bw λh' hx=>?_
  have I1:L2.Inv X a7 σ H {s with heap:=h' }:=I.kept (t':=s.toks) λb o e=>hx b o (Xj (Xd e)) e
  exact h a7 _ σ H xs _ Q I1 (by simp_all) hw
 ·obtain⟨a8,rv,ht,hz⟩:=I.list hq;refine jxx (I.ok.hd hc) ht.isList (by simp[hn,<-hl,rv.length]) bw λh' hx=>?_
  have I1:L2.Inv X a7 σ H {s with heap:=h' }:=I.kept (t':=s.toks) λb o e=>hx b o (Xj (Xd e)) e
  exact h a7 _ σ H xs _ Q I1 (by simpa using rv) hw
theorem K4{is}(h:PG X e (wvy Z.K is.length (gNs is)))(hp:autoParam (∀i∈is,i∉pn) ŕ):QG X Z pn (.t is) e:=vkl h λv σ H Q ⟨E,L,z,E',m,w,ho,hv,b6,k⟩=>by
 have fin:∀ds,_->setAll is ds E=some E'->wvy Z.K is.length (gNs is) v σ H Q:=λds hd b6=>by
  obtain⟨a,xs,bs,e1,q1,r,h1,h2⟩:=items w.head hd;rw[ho]at r;refine⟨a,xs,hv.symm.trans e1,?_,by rw[kk8 b6,r.len],qx3 m w.tail r (λb hb=>w.apart b (h1 b hb)) (λb hb=>?_) Step.drop Pn.refl b6 hp k⟩
  ·rcases q1 with⟨_,z'⟩|⟨_,z'⟩
   ·exact .inr z'.sq
   ·exact .inl z'
  ·rw[k8,YW ho];exact ll9 _ (h1 b hb)
 cases hd:z.d with|tup ds=>rw[hd]at b6;exact fin ds (.inr hd) b6|lst ds=>rw[hd]at b6;exact fin ds (.inl hd) b6|_=>rw[hd]at b6;cases b6
end
section
variable {X:Cx}{Z:Fx0}{pn:List Nat}{q:Bool}{tg am:Expr}{it:Ev (List D)}{t:Tg}{B:Sm}{ss:List Stmt}{pos:Pos}{σ:L2.St}{H:Hp}{L:Ls}{E:En}
theorem kke{K}{T:List Sl}{H1 H2 L1 z}(w:World K H1 (L1++T.map some))(hT:∀t∈T,t.o=.no)(sm:jJ H1 H2)(ok:z.ok K H2)(ho:z.o=.no)(hz:∀b∈z.as,∃t∈T,b∈t.as):
  World K H2 ((some z::L1)++T.map some)/\Step H1 (L1++T.map some) H2 ((some z::L1)++T.map some):=by
 have w2:World K H2 _:=⟨λx hx=>RepO.kp (w.ok x hx) (Kp.of_same sm),w.nd,w.ds⟩;have hf:∀b∈z.as,b∈jx (L1++T.map some):=λb hb=>by
  obtain⟨t,ht,hbt⟩:=hz b hb;rw[k9];exact lr9 _ (mem_frozen.mpr ⟨t,Xp ht,by rw[YW (hT t ht)];exact hbt⟩)
 refine⟨w2.consNo ok ho λb hb hL=>w2.ds b hL (hf b hb),λa ob h _=>sm a ob h,λa ha=>?_,λa ha=>?_⟩
 ·rw[List.cons_append,jv,qvw ho]at ha;exact .inl ha
 ·rw[List.cons_append,k8,YW ho]at ha;rcases aA ha with q|q
  ·exact .inl (hf a q)
  ·exact .inl q
theorem stay{K T L1 L2 H1 H2}(w:World K H1 (L1++T))(s:Step H1 L1 H2 L2)(w2:World K H2 L2):World K H2 (L2++T)/\Step H1 (L1++T) H2 (L2++T):=⟨s.frame w w2 w.left,s.frm⟩
theorem Step.dropT{T H1 L1}:Step H1 (L1++T) H1 L1:=⟨λ_ _ h _=>h,λa ha=>.inl (by rw[jQ];exact ll9 _ ha),λa ha=>.inl (by rw[k9];exact ll9 _ ha)⟩
theorem Kp.trans{H H1 H2 as}(a:Kp H H1 as)(b:Kp H1 H2 as):Kp H H2 as:=⟨λc xs e=>b.1 c xs (a.1 c xs e),λc o u e=>b.2.1 c o u (a.2.1 c o u e),λc hc ob e=>b.2.2 c hc ob (a.2.2 c hc ob e)⟩
theorem qj2{K H2 H3 L2 L3}{T:List Sl}(w:World K H2 (L2++T.map some))(hT:∀t∈T,t.o=.no)(s:Step H2 L2 H3 L3){H0}(h:∀t∈T,Kp H0 H2 t.as):∀t∈T,Kp H0 H3 t.as:=λt ht=>
 (h t ht).trans (s.kp w.left λb hb z=>w.ds b (by rw[jQ];exact ll9 _ z) (by
  rw[k9];exact lr9 _ (mem_frozen.mpr ⟨t,Xp ht,by rw[YW (hT t ht)];exact hb⟩)))
theorem wjj(hp:PassesOwn (model X.prog X.w) X.A X.env X.xe)(hc:X.calm=true)(hi:QID X Z q tg it am)(hg:QG X Z pn t tg)(hb:QSs X Z pn B ss)(hs:autoParam (∀x,foldedSetIterable am X.env x=pure x) Ŗ):QS X Z pn (vJ it t B) (.For tg am ss [] pos):=zq (qvm hp hc hi hg hb hs) λD σ H aj=>ex7 aj λE L r m w hr k=>by
 have hr:ofE (it E) (λE ds=>JK t B ds E)=some r:=hr;rcases jwy hr with⟨E1,ds,h1,h2⟩|⟨E1,c,h1,rfl⟩
 rotate_left
 ·exact⟨E,L,_,m,w,h1,k.xc,λE' s' z=>by cases z⟩
 refine⟨E,L,_,m,w,h1,(λ_ _ z=>by cases z),λE' ds' z J T L' H' m' w' st hz _ wk=>?_⟩;injection z with z1 z2;subst z1 z2;have okT:∀{H2:Hp} {L2:Ls},World Z.K H2 (L2++T.map some)->∀t∈T,t.ok Z.K H2:=λw2 t ht=>w2.ok t (lr9 _ (Xp ht))
 refine⟨λi n σ1 H1=>∃E1 L1,Mt E1 σ1 L1/\World Z.K H1 (L1++T.map some)/\Step H L H1 (L1++T.map some)/\Pn pn σ σ1/\JK t B (ds.drop i) E1=some r/\i<=ds.length/\n=ds.length - i/\∀t∈T,Kp H' H1 t.as,⟨_,E1,L',m',w',st,Pn.refl,h2,Y8 _,rfl,λ_ _=>Kp.of_same x5⟩,?_⟩;rintro i n σ1 H1 ⟨E1,L1,m1,w1,iu,p1,f1,hi,rfl,a7⟩
 by_cases bh:i<ds.length
 ·have hd:ds.drop i=ds[i]::ds.drop (i+1):=Z2 bh;rw [hd]at f1;unfold JK at f1;cases b6:t.put ds[i] E1 with
  | none=>rw[b6]at f1;cases f1
  | some E2=>
   rw[b6]at f1;dsimp only at f1;refine .inr ⟨wk.go i H1 ⟨okT w1,a7⟩ bh,fun σ2 H2=>∃E2 L2,Mt E2 σ2 L2/\World Z.K H2 (L2++T.map some)/\Step H L H2 (L2++T.map some)/\Pn pn σ σ2/\JK t B (ds.drop (i+1)) E2=some r/\∀t∈T,Kp H' H2 t.as,fun σ2 H2 ⟨E2,L2,a1,a2,a3,a4,a5,a6⟩=>⟨ds.length - (i+1),by omega,E2,L2,a1,a2,a3,a4,a5,bh,rfl,a6⟩,λv H2 hy=>?_⟩;obtain⟨z,zo,zd,zv,sm,qy,zas⟩:=wk.yld i H1 v H2 ds[i] ⟨okT w1,a7⟩ hy (X5 bh);obtain⟨wz,sz⟩:=kke w1 wk.no sm qy zo zas;refine⟨E1,L1,z,E2,m1,wz.left,zo,zv,by rw[zd];exact b6,fun σ2 L2 p2 m2 w2 b8=>?_⟩;obtain⟨w3,cg⟩:=stay wz b8 w2;have ja:Step H L H2 (L2++T.map some):=iu.trans (sz.trans cg);have lz:∀t∈T,Kp H' H2 t.as:=λt ht=>(a7 t ht).trans (Kp.of_same sm)
   cases hB:B E2 with
   | none=>rw[hB]at f1;cases f1
   | some g=>
    rw[hB]at f1;refine⟨E2,L2,g,m2,w2,hB,?_⟩;have fin:∀{g:Fl},g=r->(∀ σ',D.nx σ'=D.nx σ')->FlP Z pn D σ2 H2 (L2++T.map some) g:=λe _=>e▸k.step ja (p1.trans p2)
    cases g with
    |nx E3=>
     intro σ3 L3 H3 p3 m3 w4 s3;obtain⟨w5,s5⟩:=stay w3 s3 w4;exact⟨E3,L3,m3,w5,ja.trans s5,(p1.trans p2).trans p3,f1,qj2 w3 wk.no s3 lz⟩
    |ct E3=>
     intro σ3 L3 H3 p3 m3 w4 s3;obtain⟨w5,s5⟩:=stay w3 s3 w4;exact⟨E3,L3,m3,w5,ja.trans s5,(p1.trans p2).trans p3,f1,qj2 w3 wk.no s3 lz⟩
    |bk E3=>
     have e:=oq9 f1;subst e;intro σ3 L3 H3 p3 m3 w4 s3;exact k σ3 L3 H3 ((p1.trans p2).trans p3) m3 w4 ((ja.trans Step.dropT).trans s3)
    |rt E3 x=>
     have e:=oq9 f1;subst e;intro y σ3 L3 H3 e1 e2 p3 m3 w4 s3;exact k y σ3 L3 H3 e1 e2 ((p1.trans p2).trans p3) m3 w4 ((ja.trans Step.dropT).trans s3)
    |xc E3 c=>
     have e:=oq9 f1;subst e;intro C σ3 L3 H3 hm p3 m3 w4 s3;exact k C σ3 L3 H3 hm ((p1.trans p2).trans p3) m3 w4 ((ja.trans Step.dropT).trans s3)
 ·have e:i=ds.length:=by omega
  subst e;rw[List.drop_length]at f1;cases oq9 f1;exact .inl ⟨wk.stop H1 ⟨okT w1,a7⟩,k σ1 L1 H1 p1 m1 w1.left (iu.trans Step.dropT)⟩
theorem wx1(hp:PassesOwn (model X.prog X.w) X.A X.env X.xe)(hc:X.calm=true)(hi:QI X Z q tg it am)(hg:QG X Z pn t tg)(hb:QSs X Z pn B ss)(hs:autoParam (∀x,foldedSetIterable am X.env x=pure x) Ŗ):QS X Z pn (vJ it t B) (.For tg am ss [] pos):=wjj hp hc hi.D hg hb hs
end
mutual
noncomputable def jw(h:Heap):D->Value->Prop
 |.non,u=>u=.none|.bl b,u=>u=.bool b|.int i,u=>∃t,u=.int i t|.str z,u=>∃t,u=.str z t|.tup ds,u=>∃a us,u=.ref a/\h.IsTuple a us.toArray/\CReps h ds us|.lst ds,u=>∃a us,u=.ref a/\h.IsList a us.toArray/\CReps h ds us|.dct _,_=>False|.obj _ _,_=>False
noncomputable def CReps(h:Heap):List D->List Value->Prop
 |[],us=>us=[]|d::ds,us=>∃u r,us=u::r/\jw h d u/\CReps h ds r
end
theorem qjs{n k}:D.flat n (.dct k)=false:=by cases n<;>simp[D.flat]
theorem qjr{n c k}:D.flat n (.obj c k)=false:=by cases n<;>simp[D.flat]
section
variable {X:Cx}{a7:LA9}{σ:L2.St}{H:Hp}{s:Shared}
mutual
theorem Q1(I:Inv X a7 σ H s){g}:∀{n d v as u},RepL X.K H g d v as->d.flat n=true->RelV v u->jw s.heap d u
 | _,.non,_,_,_,h,_,r=>by
  unfold RepL at h;rw[h.1]at r;exact r
 | _,.bl _,_,_,_,h,_,r=>by
  unfold RepL at h;rw[h.1]at r;exact r
 | _,.int _,_,_,_,h,_,r=>by
  unfold RepL at h;rw[h.1]at r;exact r
 | _,.str _,_,_,_,h,_,r=>by
  unfold RepL at h;rw[h.1]at r;unfold jw;exact r
 | 0,.tup ds,_,_,_,h,f,r=>by cases f
 | n+1,.tup ds,_,_,_,h,f,r=>by
  unfold D.flat at f;obtain⟨a,xs,rfl,q,ra⟩:=h;cases r;obtain⟨a8,rv,p,_⟩:=I.tuple q;exact⟨a,a8,rfl,p,creps_of I ra f rv⟩
 | 0,.lst ds,_,_,_,h,f,r=>by unfold D.flat at f;cases f
 | n+1,.lst ds,_,_,_,h,f,r=>by
  unfold D.flat at f;obtain⟨a,xs,bs,rfl,ra,q⟩:=h;cases r;have q':SqL X.K H a xs:=by
   rcases q with⟨q,_⟩|⟨_,q,_⟩
   ·exact SqL.of q
   ·exact(LsR.of q).sq
  obtain⟨a8,rv,p,_⟩:=I.list q';exact⟨a,a8,rfl,p.isList,creps_of I ra f rv⟩
 |_,.dct _,_,_,_,h,f,r=>by rw[qjs]at f;cases f|_,.obj _ _,_,_,_,h,f,r=>by rw[qjr]at f;cases f
theorem creps_of(I:Inv X a7 σ H s){g}:∀{n ds xs as us},RepA X.K H g ds xs as->D.flats n ds=true->Vals xs us->CReps s.heap ds us
 | _,[],_,_,_,h,_,r=>by
  rw[h.1]at r;cases r;unfold CReps;rfl
 | n,d::ds,_,_,_,h,f,r=>by
  unfold D.flats at f;rw[Bool.and_eq_true]at f;obtain⟨x,rr,bs,cs,rfl,rfl,h1,h2⟩:=h;cases r with
  |cons r1 r2=>
   exact⟨_,_,rfl,Q1 I h1 f.1 r1,creps_of I h2 f.2 r2⟩
end
end
theorem CReps.len{h}:∀{ds us},CReps h ds us->ds.length=us.length
 |[],_,r=>by rw[r];rfl
 |d::ds,_,r=>by
  obtain⟨u,rr,rfl,_,h2⟩:=r;simp[CReps.len h2]
theorem CReps.get{h}:∀{ds us} {j:Nat} {d},CReps h ds us->ds[j]?=some d->∃u,us[j]?=some u/\jw h d u
 | [],_,_,_,_,e=>by simp_all
 | d::ds,_,j,d',r,e=>by
  obtain⟨u,rr,rfl,h1,h2⟩:=r;cases j with
  |zero=>simp_all
  |succ j=>
   obtain _:=CReps.get h2 (by simpa using e)
   simp_all
theorem vqt{h:Heap}{a x y}(p:h.IsTuple a x)(q:h.IsTuple a y):x=y:=by
 obtain⟨o,h1,_,n,h2⟩:=p;obtain⟨o',h3,_,n',h4⟩:=q
 grind
theorem vwh{h:Heap}{a x y}(p:h.IsList a x)(q:h.IsList a y):x=y:=by
 obtain⟨o,h1,_,n,h2⟩:=p;obtain⟨o',h3,_,n',h4⟩:=q
 grind
theorem qwb{h:Heap}{a x y}(p:h.IsList a x)(q:h.IsTuple a y):False:=by
 obtain⟨o,h1,h2,_⟩:=p;obtain⟨o',h3,h4,_⟩:=q
 grind
inductive Cv (h:Heap):D->Value->Prop
 |non:Cv h .non .none
 |bl (b:Bool):Cv h (.bl b) (.bool b)
 |int (i:Int) (t:_):Cv h (.int i) (.int i t)
 |str (z:Str) (t:_):Cv h (.str z) (.str z t)
 |lst {ds:List D} {a:Addr} {us:List Value} (p:h.IsList a us.toArray) (q:CReps h ds us):Cv h (.lst ds) (.ref a)
 |tup {ds:List D} {a:Addr} {us:List Value} (p:h.IsTuple a us.toArray) (q:CReps h ds us):Cv h (.tup ds) (.ref a)
theorem crv{h d u}(r:jw h d u):Cv h d u:=by
 cases d<;>unfold jw at r
 all_goals first|exact r.elim|(subst r;constructor)|(obtain⟨_,rfl⟩:=r;constructor)|(obtain⟨_,_,rfl,p,q⟩:=r;first|exact .lst p q|exact .tup p q)
mutual
theorem jzs{h d d' u}(a:jw h d u)(b:jw h d' u):d=d':=by
 cases d<;>cases crv a<;>cases crv b<;>try rfl
 ·exact(qwb ‹_› ‹_›).elim
 ·rename_i p r _ _ r' p';cases Array.mk.inj (vqt p p');rw[creps_inj r r']
 ·rename_i p r _ _ r' p';cases Array.mk.inj (vwh p p');rw[creps_inj r r']
 ·exact(qwb ‹_› ‹_›).elim
theorem creps_inj{h}:∀{ds ds' us},CReps h ds us->CReps h ds' us->ds=ds'
 | [],ds',us,a,b=>by
  unfold CReps at a;subst a;cases ds' with|nil=>rfl|cons d ds=>unfold CReps at b;obtain⟨_,_,e,_⟩:=b;cases e
 | d::ds,ds',us,a,b=>by
  unfold CReps at a;obtain⟨u,r,rfl,h1,h2⟩:=a;cases ds' with
  |nil=>unfold CReps at b;cases b
  |cons d' ds'=>
   obtain⟨u',r',e,h3,h4⟩:=b;cases e;rw[jzs h1 h3,creps_inj h2 h4]
end
mutual
theorem Wj:∀{n d},d.flat n=true->peq d d=true
 |_,.non,_=>by rfl|_,.bl b,_=>by unfold peq;simp|_,.int b,_=>by unfold peq;simp|_,.str b,_=>by unfold peq;simp|n+1,.tup ds,f=>peqs_refl f|0,.lst ds,f=>by unfold D.flat at f;cases f|n+1,.lst ds,f=>peqs_refl f|_,.dct _,f=>by rw[qjs]at f;cases f|_,.obj _ _,f=>by rw[qjr]at f;cases f
theorem peqs_refl:∀{n d},D.flats n d=true->peqs d d=true
 |_,[],_=>by rfl
 |n,d::ds,f=>by
  unfold D.flats at f;rw[Bool.and_eq_true]at f;unfold peqs;rw[Wj f.1,peqs_refl f.2];rfl
end
theorem jx3:∀{n ds} {j:Nat} {d},D.flats n ds=true->ds[j]?=some d->d.flat n=true
 |_,[],_,_,_,e=>by simp_all
 |n,d::ds,j,d',f,e=>by
  unfold D.flats at f;rw[Bool.and_eq_true]at f;cases j with|zero=>simp_all|succ j=>exact jx3 f.2 (by simpa using e)
def pAt(as bs:List D)(j:Nat):Bool:=match as[j]?,bs[j]? with
 |some a,some b=>peq a b|_,_=>true
theorem jvz:∀as bs,as.length=bs.length->(List.range as.length).all (pAt as bs)=peqs as bs
 |[],[],_=>by rfl
 |a::as,b::bs,h=>by
  rw[Xk,List.range_succ_eq_map,List.all_cons,List.all_map];unfold peqs;rw[<-(jvz as bs (by simpa using h))];rfl
 |_::_,[],h=>by simp_all
theorem jzn:∀as bs,as.length≠bs.length->peqs as bs=false
 |[],[],h=>by simp_all
 |a::as,b::bs,h=>by
  unfold peqs;rw[jzn as bs (by simpa using h),Bool.and_false]
 |[],_::_,_=>by rfl|_::_,[],_=>by unfold peqs;rfl
theorem kzg(as bs):((List.range (min as.length bs.length)).all (pAt as bs)&&as.length==bs.length)=peqs as bs:=by
 by_cases e:as.length=bs.length
 ·rw[<-e,Nat.min_self,jvz as bs e];simp[e]
 ·rw[jzn as bs e]
  grind
section
variable {s:Shared}
theorem kxd{as bs us ws A}(ra:CReps s.heap as us)(rb:CReps s.heap bs ws)
  (h:∀(j:Nat) (d d') (u w),as[j]?=some d->bs[j]?=some d'->jw s.heap d u->jw s.heap d' w->SeqAt.EqAt A s u w (peq d d')):
  ∀j h1 (h2:j<ws.toArray.size),SeqAt.EqAt A s us.toArray[j] ws.toArray[j] (pAt as bs j):=λj h1 h2=>by
 have l1:=ra.len;have l2:=rb.len;simp at h1 h2;have ha:j<as.length:=⋯
 have hb:j<bs.length:=⋯
 obtain⟨u,eu,ru⟩:=ra.get (X5 ha);obtain⟨w,ew,jp⟩:=rb.get (X5 hb);have e1:us.toArray[j]=u:=by
  simp_all
 have e2:ws.toArray[j]=w:=by
  simp_all
 have e3:pAt as bs j=peq as[j] bs[j]:=by
  unfold pAt;rw[X5 ha,X5 hb]
 rw[e1,e2,e3];exact h j _ _ u w (X5 ha) (X5 hb) ru jp
theorem wj0{A d d' u w}(hu:A.units<cLine)(r:jw s.heap d u)(r':jw s.heap d' w)
  (el:∀as bs (us ws),(d=.lst as\/d=.tup as)->(d'=.lst bs\/d'=.tup bs)->CReps s.heap as us->CReps s.heap bs ws->∀j (h1) (h2:j<ws.toArray.size),SeqAt.EqAt A.in1 s us.toArray[j] ws.toArray[j] (pAt as bs j)):
  SeqAt.RcAt A s u w (peq d d'):=by
 cases crv r<;>cases crv r'<;>unfold peq
 ·exact SeqAt.RcAt.none_none
 ·exact SeqAt.RcAt.none_bool _
 ·exact SeqAt.RcAt.none_int _ _
 ·exact SeqAt.RcAt.none_str _ _
 ·exact SeqAt.RcAt.none_list ‹_› hu
 ·exact SeqAt.RcAt.none_tuple ‹_› hu
 ·exact SeqAt.RcAt.bool_none _
 ·exact SeqAt.RcAt.bool_bool _ _
 ·exact SeqAt.RcAt.bool_int _ _ _
 ·exact SeqAt.RcAt.bool_str _ _ _
 ·exact SeqAt.RcAt.bool_list _ ‹_› hu
 ·exact SeqAt.RcAt.bool_tuple _ ‹_› hu
 ·exact SeqAt.RcAt.int_none _ _
 ·exact SeqAt.RcAt.int_bool _ _ _
 ·exact SeqAt.RcAt.int_int _ _ _ _
 ·exact SeqAt.RcAt.int_str _ _ _ _
 ·exact SeqAt.RcAt.int_list _ _ ‹_› hu
 ·exact SeqAt.RcAt.int_tuple _ _ ‹_› hu
 ·exact SeqAt.RcAt.str_none _ _
 ·exact SeqAt.RcAt.str_bool _ _ _
 ·exact SeqAt.RcAt.str_int _ _ _ _
 ·exact SeqAt.RcAt.str_str _ _ _ _
 ·exact SeqAt.RcAt.str_list _ _ ‹_› hu
 ·exact SeqAt.RcAt.str_tuple _ _ ‹_› hu
 ·exact SeqAt.RcAt.list_none ‹_› hu
 ·exact SeqAt.RcAt.list_bool _ ‹_› hu
 ·exact SeqAt.RcAt.list_int _ _ ‹_› hu
 ·exact SeqAt.RcAt.list_str _ _ ‹_› hu
 ·rename_i as a us p ra bs b ws p' rb;have l1:=ra.len;have l2:=rb.len
  by_cases hl:as.length=bs.length
  ·rw[<-jvz as bs hl];have z:=SeqAt.RcAt.lists (A:=A) (s:=s) (e:=pAt as bs) p p' (by simp only[X9];lia) hu (el as bs us ws (.inl rfl) (.inl rfl) ra rb);rw[X9,<-l1]at z;exact z
  ·rw[jzn as bs hl];exact SeqAt.RcAt.lists_lengths p p' (by simp only[X9,bne_iff_ne];lia) hu
 ·exact SeqAt.RcAt.list_tuple ‹_› ‹_› hu
 ·exact SeqAt.RcAt.tuple_none ‹_› hu
 ·exact SeqAt.RcAt.tuple_bool _ ‹_› hu
 ·exact SeqAt.RcAt.tuple_int _ _ ‹_› hu
 ·exact SeqAt.RcAt.tuple_str _ _ ‹_› hu
 ·exact SeqAt.RcAt.tuple_list ‹_› ‹_› hu
 ·rename_i as a us p ra bs b ws p' rb;rw[<-kzg as bs];have z:=SeqAt.RcAt.tuples (A:=A) (s:=s) (e:=pAt as bs) p p' hu (el as bs us ws (.inr rfl) (.inr rfl) ra rb);rw[X9,X9,<-ra.len,<-rb.len]at z;exact z
theorem wwo{A d d' u w}(hu:A.units<cLine)(r:jw s.heap d u)(r':jw s.heap d' w)
  (el:∀as bs (us ws),(d=.lst as\/d=.tup as)->(d'=.lst bs\/d'=.tup bs)->CReps s.heap as us->CReps s.heap bs ws->∀j (h1) (h2:j<ws.toArray.size),SeqAt.EqAt A.in1 s us.toArray[j] ws.toArray[j] (pAt as bs j)):
  SeqAt.RcNeAt A s u w (!peq d d'):=by
 cases crv r<;>cases crv r'<;>unfold peq
 ·exact SeqAt.RcNeAt.none_none
 ·exact SeqAt.RcNeAt.none_bool _
 ·exact SeqAt.RcNeAt.none_int _ _
 ·exact SeqAt.RcNeAt.none_str _ _
 ·exact SeqAt.RcNeAt.none_list ‹_› hu
 ·exact SeqAt.RcNeAt.none_tuple ‹_› hu
 ·exact SeqAt.RcNeAt.bool_none _
 ·exact SeqAt.RcNeAt.bool_bool _ _
 ·exact SeqAt.RcNeAt.bool_int _ _ _
 ·exact SeqAt.RcNeAt.bool_str _ _ _
 ·exact SeqAt.RcNeAt.bool_list _ ‹_› hu
 ·exact SeqAt.RcNeAt.bool_tuple _ ‹_› hu
 ·exact SeqAt.RcNeAt.int_none _ _
 ·exact SeqAt.RcNeAt.int_bool _ _ _
 ·exact SeqAt.RcNeAt.int_int _ _ _ _
 ·exact SeqAt.RcNeAt.int_str _ _ _ _
 ·exact SeqAt.RcNeAt.int_list _ _ ‹_› hu
 ·exact SeqAt.RcNeAt.int_tuple _ _ ‹_› hu
 ·exact SeqAt.RcNeAt.str_none _ _
 ·exact SeqAt.RcNeAt.str_bool _ _ _
 ·exact SeqAt.RcNeAt.str_int _ _ _ _
 ·exact SeqAt.RcNeAt.str_str _ _ _ _
 ·exact SeqAt.RcNeAt.str_list _ _ ‹_› hu
 ·exact SeqAt.RcNeAt.str_tuple _ _ ‹_› hu
 ·exact SeqAt.RcNeAt.list_none ‹_› hu
 ·exact SeqAt.RcNeAt.list_bool _ ‹_› hu
 ·exact SeqAt.RcNeAt.list_int _ _ ‹_› hu
 ·exact SeqAt.RcNeAt.list_str _ _ ‹_› hu
 ·rename_i as a us p ra bs b ws p' rb;have l1:=ra.len;have l2:=rb.len
  by_cases hl:as.length=bs.length
  ·rw[<-jvz as bs hl];have z:=SeqAt.RcNeAt.lists (A:=A) (s:=s) (e:=pAt as bs) p p' (by simp only[X9];lia) hu (el as bs us ws (.inl rfl) (.inl rfl) ra rb);rw[X9,<-l1]at z;exact z
  ·rw[jzn as bs hl];exact SeqAt.RcNeAt.lists_lengths p p' (by simp only[X9,bne_iff_ne];lia) hu
 ·exact SeqAt.RcNeAt.list_tuple ‹_› ‹_› hu
 ·exact SeqAt.RcNeAt.tuple_none ‹_› hu
 ·exact SeqAt.RcNeAt.tuple_bool _ ‹_› hu
 ·exact SeqAt.RcNeAt.tuple_int _ _ ‹_› hu
 ·exact SeqAt.RcNeAt.tuple_str _ _ ‹_› hu
 ·exact SeqAt.RcNeAt.tuple_list ‹_› ‹_› hu
 ·rename_i as a us p ra bs b ws p' rb;rw[<-kzg as bs];have z:=SeqAt.RcNeAt.tuples (A:=A) (s:=s) (e:=pAt as bs) p p' hu (el as bs us ws (.inr rfl) (.inr rfl) ra rb);rw[X9,X9,<-ra.len,<-rb.len]at z;exact z
theorem kqn{A a a' b}(me:Value.ref a=Value.ref a'->b=true)(rc:SeqAt.RcAt A s (.ref a) (.ref a') b):SeqAt.EqAt A s (.ref a) (.ref a') b:=by
 by_cases e:a=a'
 ·subst e;rw[me rfl];exact SeqAt.EqAt.same _
 ·exact SeqAt.EqAt.of_refs e rc
theorem wz3{A d d' u w}(hu:A.units<cLine)(r:jw s.heap d u)(r':jw s.heap d' w)(me:u=w->peq d d'=true)(rc:SeqAt.RcAt A s u w (peq d d')):SeqAt.EqAt A s u w (peq d d'):=by
 cases crv r<;>cases crv r'<;>try unfold peq
 ·exact SeqAt.EqAt.same _
 ·exact SeqAt.EqAt.none_bool _
 ·exact SeqAt.EqAt.none_int _ _
 ·exact SeqAt.EqAt.none_str _ _
 ·exact SeqAt.EqAt.none_list ‹_› hu
 ·exact SeqAt.EqAt.none_tuple ‹_› hu
 ·exact SeqAt.EqAt.bool_none _
 ·exact SeqAt.EqAt.bool_bool _ _
 ·exact SeqAt.EqAt.bool_int _ _ _
 ·exact SeqAt.EqAt.bool_str _ _ _
 ·exact SeqAt.EqAt.bool_list _ ‹_› hu
 ·exact SeqAt.EqAt.bool_tuple _ ‹_› hu
 ·exact SeqAt.EqAt.int_none _ _
 ·exact SeqAt.EqAt.int_bool _ _ _
 ·exact SeqAt.EqAt.int_int _ _ _ _
 ·exact SeqAt.EqAt.int_str _ _ _ _
 ·exact SeqAt.EqAt.int_list _ _ ‹_› hu
 ·exact SeqAt.EqAt.int_tuple _ _ ‹_› hu
 ·exact SeqAt.EqAt.str_none _ _
 ·exact SeqAt.EqAt.str_bool _ _ _
 ·exact SeqAt.EqAt.str_int _ _ _ _
 ·exact SeqAt.EqAt.str_str _ _ _ _
 ·exact SeqAt.EqAt.str_list _ _ ‹_› hu
 ·exact SeqAt.EqAt.str_tuple _ _ ‹_› hu
 ·exact SeqAt.EqAt.list_none ‹_› hu
 ·exact SeqAt.EqAt.list_bool _ ‹_› hu
 ·exact SeqAt.EqAt.list_int _ _ ‹_› hu
 ·exact SeqAt.EqAt.list_str _ _ ‹_› hu
 ·exact kqn me rc
 ·exact kqn me rc
 ·exact SeqAt.EqAt.tuple_none ‹_› hu
 ·exact SeqAt.EqAt.tuple_bool _ ‹_› hu
 ·exact SeqAt.EqAt.tuple_int _ _ ‹_› hu
 ·exact SeqAt.EqAt.tuple_str _ _ ‹_› hu
 ·exact kqn me rc
 ·exact kqn me rc
theorem KK:∀n {d d' u w A},d.flat n=true->jw s.heap d u->jw s.heap d' w->A.units+n<cLine->SeqAt.EqAt A s u w (peq d d')
 | n,d,d',u,w,A,f,r,r',hu=>by
  refine wz3 ⋯ r r' (λe=>?_) (wj0 ⋯ r r' λas bs us ws h1 h2 ra rb=>?_)
  rotate_left
  ·cases n with
   |zero=>rcases h1 with rfl|rfl<;>(unfold D.flat at f;cases f)
   |succ n=>
    have fs:D.flats n as=true:=by rcases h1 with rfl|rfl<;>(unfold D.flat at f;exact f)
    exact kxd ra rb λj d d' u w e1 e2 q1 q2=>KK n (jx3 fs e1) q1 q2 ⋯
  ·subst e;rw[jzs r' r];exact Wj f
end
section
variable {X:Cx}{Z:Fx0}{K:Frag}
def wzy(K:Frag):R2:=λx y H Q=>∃d d' as bs,RepL K H true d x as/\RepL K H true d' y bs/\d.flat 40=true/\d'.flat 40=true/\Q (.bl (peq d d')) H
def wzr(K:Frag):R2:=λx y H Q=>∃d d' as bs,RepL K H true d x as/\RepL K H true d' y bs/\d.flat 40=true/\d'.flat 40=true/\Q (.bl (!peq d d')) H
theorem vj8(hu:X.A.units+64<cLine)(hK:autoParam (X.K=K) Ŕ):OpR X (compareOp .Eq) (wzy K):=by
 subst hK;rintro a7 s σ H x y v u Q I rx ry ⟨d,d',as,bs,h1,h2,f1,f2,q⟩;refine wj0 ⋯ (Q1 I h1 f1 rx) (Q1 I h2 f2 ry) (λas bs us ws e1 e2 ra rb=>kxd ra rb λj d d' u w e3 e4 q1 q2=>?_) _ _ _ _ ⟨.bl _,H,I,rfl,q⟩;have fs:D.flats 39 as=true:=by rcases e1 with rfl|rfl<;>(unfold D.flat at f1;exact f1)
 exact KK 39 (jx3 fs e3) q1 q2 ⋯
theorem K2(hu:X.A.units+64<cLine)(hK:autoParam (X.K=K) Ŕ):OpR X (compareOp .NotEq) (wzr K):=by
 subst hK;rintro a7 s σ H x y v u Q I rx ry ⟨d,d',as,bs,h1,h2,f1,f2,q⟩;refine wwo ⋯ (Q1 I h1 f1 rx) (Q1 I h2 f2 ry) (λas bs us ws e1 e2 ra rb=>kxd ra rb λj d d' u w e3 e4 q1 q2=>?_) _ _ _ _ ⟨.bl _,H,I,rfl,q⟩;have fs:D.flats 39 as=true:=by rcases e1 with rfl|rfl<;>(unfold D.flat at f1;exact f1)
 exact KK 39 (jx3 fs e3) q1 q2 ⋯
theorem vkd:Ad2 K (wzy K) (pu2 fEq):=by
 intro H x y s Q ox oy hf k;unfold pu2 fEq at hf
 by_cases hc:(x.d.flat 40&&y.d.flat 40)=true
 ·rw[X6 hc]at hf;rw[Bool.and_eq_true]at hc;cases oq9 hf;exact⟨x.d,y.d,x.as,y.as,RepO.wk ox,RepO.wk oy,hc.1,hc.2,k _ H rfl rfl wJ⟩
 ·simp_all
theorem JQ:Ad2 K (wzr K) (pu2 fNe):=by
 intro H x y s Q ox oy hf k;unfold pu2 fNe at hf
 by_cases hc:(x.d.flat 40&&y.d.flat 40)=true
 ·rw[X6 hc]at hf;rw[Bool.and_eq_true]at hc;cases oq9 hf;exact⟨x.d,y.d,x.as,y.as,RepO.wk ox,RepO.wk oy,hc.1,hc.2,k _ H rfl rfl wJ⟩
 ·simp_all
end
mutual
noncomputable def V0:D->Nat
 |.tup xs=>drwDs xs+1|_=>1
noncomputable def drwDs:List D->Nat
 |[]=>0|a::x=>V0 a+drwDs x
end
mutual
theorem kqh{n:Nat}{d:D}(h:jK n d=true):d.flat n=true:=by
 cases d<;>cases n<;>unfold jK at h<;>first|rfl|(cases h)|skip
 exact keys_flat h
theorem keys_flat{n:Nat}{ds:List D}(h:keyDs n ds=true):D.flats n ds=true:=by
 cases ds<;>unfold keyDs at h<;>unfold D.flats
 ·rfl
 rw[Bool.and_eq_true]at h;rw[kqh h.1,keys_flat h.2];rfl
end
mutual
theorem kqg{n m:Nat}{a b:D}(ha:jK n a=true)(hb:jK m b=true):peq a b=decide (a=b):=by
 cases a<;>first|(cases n<;>(unfold jK at ha;cases ha);done)|(cases b<;>first|(cases m<;>(unfold jK at hb;cases hb);done)|(simp[peq];done)|(simp[peq];first|rfl|exact Bool.beq_eq_decide_eq _ _)|skip)
 cases n<;>cases m<;>unfold jK at ha hb<;>first|(cases ha)|(cases hb)|simpa [peq]using keys_peq ha hb
theorem keys_peq{n m:Nat}{a b:List D}(ha:keyDs n a=true)(hb:keyDs m b=true):peqs a b=decide (a=b):=by
 cases a<;>cases b<;>unfold keyDs at ha hb<;>simp[peqs]
 rw[Bool.and_eq_true]at ha hb;rw[kqg ha.1 hb.1,keys_peq ha.2 hb.2]
end
theorem qxl{h:Heap}{n:Nat}:∀{ds:List D} {us:List Value},keyDs n ds=true->CReps h ds us->∀u∈us,∃d,jK n d=true/\jw h d u:=by
 intro ds
 induction ds<;>intro us hk r u hu<;>unfold CReps at r
 ·subst r;cases hu
 ·rename_i ih;obtain⟨v,r,rfl,h1,h2⟩:=r;unfold keyDs at hk;rw[Bool.and_eq_true]at hk;rcases aD hu with rfl|hu
  ·exact⟨_,hk.1,h1⟩
  ·exact ih hk.2 h2 u hu
theorem kxt{h : Heap}{P : Nat -> Value -> Prop}(b : ∀n u,(u = .none \/ (∃i t,u = .int i t) \/ ∃x t,u = .str x t) -> P n u)(st : ∀n a (us : List Value),h.IsTuple a us.toArray -> (∀u ∈ us,P n u) -> P (n+1) (.ref a)): ∀n {d : D} {u : Value},jK n d = true -> jw h d u -> P n u:= by
  intro n
  induction n <;> intro d u hk hr <;> cases crv hr <;> unfold jK at hk <;> first
    |(cases hk; done)
    |exact b _ _ (.inl rfl)
    |exact b _ _ (.inr (.inl ⟨_,_,rfl⟩))
    |exact b _ _ (.inr (.inr ⟨_,_,rfl⟩))
    |skip
  rename_i ih _ _ _ p q;refine st _ _ _ p λu hu=> ?_
  obtain⟨d,k,r⟩:= qxl hk q u hu;exact ih k r
section
variable {prog:Program}{w:PySem.World}{A:Around}{E:VP9}{s:Shared}
theorem vjn{Q:Int->Shared->Prop}(h:Q 4238894112 {s with toks:=s.toks+1}):wpAny (model prog w) A (pyHash .none) Q E s:=by
 have ty:s.TypeIs Value.none "NoneType":=rfl;unfold pyHash;refine X0 ?_;refine X3 (X0 (Z5 ty F.slot_NoneType_hash.lookup ?_));show wpAny _ _ (callSpecialIfBoundUnlessNone? Value.none "__hash__" _ >>= _) Q E s;refine X0 (wpAny_callSpecialIfBoundUnlessNone?_slot ty F.slot_NoneType_hash (Y1 F.slot_NoneType_hash ty F.entry_NoneType_hash ?_ (F.args_NoneType_hash_1 _)));refine wpAny_ret_mkInt ?_;show wpAny _ _ (if(decide (-(2:Int) ^ 63<=(4238894112:Int))&&decide ((4238894112:Int)<2 ^ 63))=true then _ else _) Q E _;exact X3 h
theorem kjl{d:D}:∀ds:List D,hashDs w (ds++[d])=hashDs w ds++[Qj w d]
 |[]=>by simp[hashDs]|a::x=>by rw[List.cons_append,hashDs,kjl x];rfl
theorem kkj{d:D}:∀ds:List D,drwDs (ds++[d])=drwDs ds+V0 d
 |[]=>by simp[drwDs]|a::x=>by rw[List.cons_append,drwDs,drwDs,kkj x];lia
theorem wqi:∀(n:Nat) {d:D} {u:Value} {A:Around} {s:Shared} {Q:Int->Shared->Prop},jK n d=true->jw s.heap d u->A.units+4*n<cLine->Q (Qj w d) {s with toks:=s.toks+V0 d}->wpAny (model prog w) A (pyHash u) Q E s:=by
 intro n
 induction n<;>intro d u A s Q hk hr hu h<;>cases crv hr<;>unfold jK at hk<;>first|(cases hk;done)|exact vjn h|exact wpAny_pyHash_int h|exact wpAny_pyHash_str h|skip
 rename_i n ih ds a us ht hi;have ty:=ht.typeIs;obtain⟨ob,dl,cz,nn,gl⟩:=ht;unfold pyHash;unfold pyHashByItsType;refine X0 (wpAny_cRoomFor_or (.inr ⋯) ?_);refine X0 (Z5 ty F.slot_tuple_hash.lookup ?_);show wpAny _ _ (if(some (Value.builtin "tuple.__hash__")==some Value.none)=true then _ else _) Q E s;rw [Xa (show ¬(some (Value.builtin "tuple.__hash__")==some Value.none)=true by rw[beq_builtin_none];exact Bool.false_ne_true)];refine X0 (Z5 ty F.slot_tuple_hash.lookup ?_);show wpAny _ _ (callSpecialIfBoundUnlessNone? (Value.ref a) "__hash__" _ >>= _) Q E s;refine X0 (wpAny_callSpecialIfBoundUnlessNone?_slot ty F.slot_tuple_hash (Y1 F.slot_tuple_hash ty F.entry_tuple_hash ?_ (F.args_tuple_hash_1 _)));show wpAny _ _ (Builtin.Tuple.tupleItemsOf (Value.ref a) >>= _) _ _ s;refine X0 (wpAny_tupleItemsOf dl gl ?_);refine X0 ?_;rw [<-Array.forIn_toList];refine Zg _ (λab (b:Array Int) s'=>∃pre post,ds=pre++post/\keyDs n post=true/\CReps s.heap post ab/\b.toList=hashDs w pre/\s'={s with toks:=s.toks+drwDs pre}) _ ?_ ?_ _ _ ⟨[],ds,rfl,hk,hi,rfl,rfl⟩
 ·rintro x ab b s' ⟨pre,post,rfl,lx,hl,hb,rfl⟩;cases post with
  | nil=>unfold CReps at hl;cases hl
  | cons d post=>
   unfold CReps at hl;obtain⟨u1,r1,e1,h1,h2⟩:=hl;injection e1 with e1 e2;subst e1 e2;unfold keyDs at lx;rw[Bool.and_eq_true]at lx;have ru:A.in1.units+4*n<cLine:=by show A.units+1+4*n<cLine;lia
   have fin:∃p q,pre++d::post=p++q/\keyDs n q=true/\CReps s.heap q ab/\(b.push (Qj w d)).toList=hashDs w p/\({s with toks:=s.toks+drwDs pre+V0 d}:Shared)={s with toks:=s.toks+drwDs p}:=
    ⟨pre++[d],post,by simp,lx.2,h2,by rw[kjl,<-hb];simp,by rw[kkj,Nat.add_assoc]⟩
   refine X0 (ih lx.1 h1 ru ?_)
   first
    |exact X3 fin
    |exact X0 (X3 (X3 fin))
 ·rintro b s' ⟨pre,post,rfl,lx,hl,hb,rfl⟩;have:post=[]:=by
   cases post with|nil=>rfl|cons d post=>unfold CReps at hl;obtain⟨_,_,z,_⟩:=hl;cases z
  subst this;rw[Xq]at h;show wpAny _ _ (retInt (Builtin.Tuple.tupleHashOf b.toList)) _ _ _;rw[hb];refine wpAny_ret_mkInt ?_;generalize hv:Builtin.Tuple.tupleHashOf (hashDs w pre)=v;have h:Q (reduceHash v) {s with toks:=s.toks+drwDs pre+1}:=by rw[<-hv];unfold Qj V0 at h;rw[Nat.add_assoc];exact h
  show wpAny _ _ (if(decide (-(2:Int) ^ 63<=v)&&decide (v<2 ^ 63))=true then _ else _) Q E _;unfold reduceHash at h
  by_cases hq:(decide (-(2:Int) ^ 63<=v)&&decide (v<2 ^ 63))=true
  ·rw[X6 hq]at h ⊢;exact X3 h
  ·rw[Xa hq]at h ⊢;exact X0 (wpAny_rule (X3 h))
theorem vvb(n m:Nat){d:D}{u:Value}{A:Around}{s:Shared}{Q:Bool->Shared->Prop}(hm:n<=m)(hk:jK n d=true)(hr:jw s.heap d u)(h:Q true s):wpAny (model prog w) A (eqIsQuiet m u) Q E s:=by
 refine kxt (P:=λn u=>∀m (Q:Bool->Shared->Prop),n<=m->Q true s->wpAny (model prog w) A (eqIsQuiet m u) Q E s) ?_ (λn a us ht hi m Q hm h=>?_) n hk hr m Q hm h
 ·rintro n u (rfl|⟨i,t,rfl⟩|⟨i,t,rfl⟩) m Q _ h<;>(rw[eqIsQuiet_byValue m rfl];exact X3 h)
 have ty:=ht.typeIs;obtain⟨ob,dl,cz,nn,gl⟩:=ht;cases m
 ·lia
 unfold eqIsQuiet;refine X0 (Z5 ty F.slot_tuple_eq.lookup ?_);show wpAny _ _ (isInstance (Value.ref a) (.type "tuple") >>= _) _ _ s;refine X0 (wpAny_isInstance ty isSubtype_tuple_tuple ?_);simp only[Bool.not_true,Bool.false_eq_true,if_false];refine X0 (wpAny_seqItems dl gl (X0 ?_));show wpAny _ _ (forIn us.toArray _ _) _ _ s;rw[<-Array.forIn_toList];refine Zg _ (λab r s'=>r.1=none/\s'=s/\∀u∈ab,u∈us) _ ?_ ?_ _ _ ⟨rfl,rfl,λ_ h=>h⟩
 ·rintro v ab r s' ⟨hr,rfl,hu⟩;refine X0 (hi v (hu v X4) _ _ ⋯ ?_);simp only[Bool.not_true,Bool.false_eq_true,if_false];exact X3 ⟨rfl,rfl,λu h=>hu u (lc9 _ h)⟩
 ·rintro ⟨r1,r2⟩ s' ⟨hz,rfl,_⟩;cases hz;exact X3 h
end
mutual
theorem Zk{h h':Heap}(et:∀b ob us n,h.get? b=some ob->ob.cls=.type "tuple"->ob.data=.seq us n->h'.get? b=some ob){n:Nat}{d:D}{u:Value}(hk:jK n d=true)(r:jw h d u):jw h' d u:=by
 cases d<;>cases n<;>unfold jK at hk<;>unfold jw at r ⊢<;>first|exact r|(cases hk;done)|skip
 obtain⟨a,us,e,⟨ob,dl,hc,nn,gl⟩,hi⟩:=r;exact⟨a,us,e,⟨ob,et a ob _ _ dl hc gl,hc,nn,gl⟩,creps_keep et hk hi⟩
theorem creps_keep{h h':Heap}(et:∀b ob us n,h.get? b=some ob->ob.cls=.type "tuple"->ob.data=.seq us n->h'.get? b=some ob){n:Nat}{ds:List D}{us:List Value}(hk:keyDs n ds=true)(r:CReps h ds us):CReps h' ds us:=by
 cases ds<;>unfold CReps at r ⊢
 ·exact r
 unfold keyDs at hk;rw[Bool.and_eq_true]at hk;obtain⟨u,rr,e,h1,h2⟩:=r;exact⟨u,rr,e,Zk et hk.1 h1,creps_keep et hk.2 h2⟩
end
noncomputable def Qw(prog:Program)(w:PySem.World):HeapKind prog w Kd where
 is:=λh k a=>jw h k.1 (.ref a)
 hash:=λk=>Qj w k.1
 draws:=λk=>V0 k.1
 room:=λA=>A.units+40<cLine
 inj:=λhx hy=>Subtype.ext (jzs hx hy)
 keeps:=fun {h h' k a d o es ep} x ho hd hs=>Zk (λb ob us n e _ z=>(hs.2 b (by rintro rfl;rw[ho]at e;cases e;rw[hd]at z;cases z)).trans e) k.2 x
 pyHash:=fun {A E s k a Q} hu hk h=>wqi 6 k.2 hk (Nat.lt_of_le_of_lt (Nat.add_le_add_left ⋯ _) hu) h
 eqBool:=fun {A E s x y a b Q} hu hx hy h=>by
  have e:peq x.1 y.1=decide (x=y):=by
   rw[kqg x.2 y.2]
   by_cases z:x=y
   ·rw[Xf z,Xf (congrArg Subtype.val z)]
   ·rw[Xh z,Xh λq=>z (Subtype.ext q)]
  have:=KK (s:=s) 6 (A:=A) (kqh x.2) hx hy (Nat.lt_of_le_of_lt (Nat.add_le_add_left ⋯ _) hu);rw[e]at this;exact this prog w E Q h
 quiet:=fun {A E s k a Q} hk h=>vvb 6 8 ⋯ k.2 hk h
abbrev Sl.sd(x:Sl):Sd:=(x.o,x.d)
noncomputable def tA(Z:Fx0)(q:Bool)(cs:List Ex):TA:=fun σ H Q=>∃E L r,Mt E σ L/\World Z.K H L/\kQ cs E=some r/\Xc Z σ H L r /\
 ∀E' ys,r=.ok E' ys->∀(xs:List Sl) L' H',xs.map Sl.sd=ys->Mt E' σ L'->World Z.K H' (xs.map some++L')->Step H L H' (xs.map some++L')->(q=true->jJ H H'/\∀b∈j5 (xs.map some),H b=none)->Q (xs.map Sl.v) H'
def QA(X:Cx)(Z:Fx0)(q:Bool)(cs:List Ex)(es:List Expr):Prop:=PA X es (tA Z q cs)
theorem Zw{X es t t'}(h:PA X es t)(w:∀ σ H Q,t' σ H Q->t σ H Q):PA X es t':=λpos a7 s σ H Q I q=>h pos a7 s σ H Q I (w σ H Q q)
section
variable {X:Cx}{Z:Fx0}{pn:List Nat}{q:Bool}{c:Ex}{cs:List Ex}{e:Expr}{es:List Expr}{pos:Pos}{σ:L2.St}{H:Hp}{L:Ls}{E:En}
theorem j9:QA X Z true [] []:=Zw v8 fun σ H Q aj=>ex8 aj λE L r m w hc xc k=>by
 cases oq9 hc;exact k _ _ rfl [] L H rfl m w Step.refl λ_=>⟨λ_ _ z=>z,λ_ z=>(nomatch z)⟩
theorem j6(h:QE X Z q c e)(hs:QA X Z q cs es)(bw:autoParam (starEach (e::es) X.env=(false,eval e X.env)::starEach es X.env) Ŕ):QA X Z q (c::cs) (e::es):=
 Zw (qW h hs bw) fun σ H Q aj=>ex8 aj λE L r m w hc xc k=>by
  refine Ww m w (hc) xc λE1 s h1 x L1 H1 e1 e2 m1 w1 st sm=>?_
  rcases vK h1 with⟨E2,ys,h2,h3⟩|⟨E2,cc,h2,h3⟩
  ·cases oq9 h3;refine⟨E1,L1,_,m1,w1.tail,h2,(λ_ _ z=>by cases z),λE' ys' z xs L2 H2 e3 m2 w2 b8 cx=>?_⟩;injection z with z1 z2;subst z1 z2;obtain⟨w3,cg⟩:=wqh (T:=[some x]) w1 b8 w2;refine k _ _ rfl (x::xs) L2 H2 (by rw[List.map_cons,e3];simp[Sl.sd,e1,e2]) m2 w3 (st.trans cg) λhq=>?_
   obtain⟨a1,a2⟩:=sm hq;obtain⟨b1,b2⟩:=cx hq;refine⟨jY a1 b1,λb hb=>?_⟩;rcases aA hb with z|z
   ·exact a2 b z
   ·exact z9 a1 (b2 b z)
  ·exact⟨E1,L1,_,m1,w1.tail,h2,(xc.step (st.trans Step.drop)).map h3,λE' s' z=>by cases z⟩
end
section
variable {X:Cx}{Z:Fx0}{q:Bool}{cs:List Ex}{es:List Expr}{pos:Pos}{σ:L2.St}{H:Hp}{L:Ls}{E:En}{α:Type}
theorem jx8:∀{cs E E' ys},kQ cs E=some (.ok E' ys)->ys.length=cs.length
 | [],E,E',ys,h=>by cases oq9 h;rfl
 | c::cs,E,E',ys,h=>by
  rcases vK (h)with⟨E1,x,h1,h2⟩|⟨_,_,_,z⟩
  ·rcases vK h2 with⟨E2,xs,h3,h4⟩|⟨_,_,_,z⟩
   ·cases oq9 h4;rw[Xk,Xk,jx8 h3]
   ·cases z
  ·cases z
theorem vxp{F}{r:Res α}{G}(m:Mt E σ L)(w:World Z.K H L)(h:bnd (kQ cs E) F=some r)(xc:Xc Z σ H L r)
  (k:∀E1 ys,F E1 ys=some r->ys.length=cs.length->∀(xs:List Sl) L1 H1,xs.map Sl.sd=ys->Mt E1 σ L1->World Z.K H1 (xs.map some++L1)->Step H L H1 (xs.map some++L1)->(q=true->jJ H H1/\∀b∈j5 (xs.map some),H b=none)->G (xs.map Sl.v) H1):tA Z q cs σ H G:=by
 rcases vK h with⟨E1,s,h1,h2⟩|⟨E1,c,h1,h2⟩
 ·exact⟨E,L,_,m,w,h1,(λ_ _ z=>by cases z),λE' s' z xs L' H' e1 m' w' st sm=>by
   injection z with z1 z2;subst z1 z2;exact k _ _ h2 (jx8 h1) xs L' H' e1 m' w' st sm⟩
 ·exact⟨E,L,_,m,w,h1,xc.map h2,λE' s' z=>by cases z⟩
theorem jw2{K H}(g):∀{xs:List Sl},(∀x∈xs,x.ok K H)->(g=false->∀x∈xs,kJ x.sd=true)->∃bs,RepA K H g (xs.map Sl.d) (xs.map Sl.v) bs/\(∀b∈bs,∃x∈xs,b∈x.as)/\(g=false->bs=j5 (xs.map some))/\(g=true->bs=xs.flatMap Sl.as)
 | [],_,_=>⟨[],⟨rfl,rfl⟩,λ_ h=>(nomatch h),λ_=>rfl,λ_=>rfl⟩
 | x :: xs,h,ht=>by
  obtain⟨bs,r,hb,ho,hg⟩:=jw2 g (λy hy=>h y (lc9 _ hy)) λhg y hy=>ht hg y (lc9 _ hy)
  have hx:=h x X4;have key:∃cs,RepL K H g x.d x.v cs/\(∀b∈cs,b∈x.as)/\(g=false->cs=x.own)/\(g=true->cs=x.as):=by
   cases g with
   | true=>exact⟨x.as,RepO.wk hx,λb hb=>hb,(λz=>by cases z),λ_=>rfl⟩
   | false=>
    by_cases ho:x.o=.dp
    ·refine⟨x.as,?_,λb hb=>hb,λ_=>?_,λz=>by cases z⟩
     ·have:=hx;unfold Sl.ok at this;rw[ho]at this;exact this
     ·unfold Sl.own;rw[ho]
    ·have hp:x.d.pure=true:=by
      rcases Bool.or_eq_true_iff.mp (ht rfl x X4)with z|z
      ·simp_all
      ·exact z
     obtain⟨z,rp⟩:=RepL.pu (g':=false) (RepO.wk hx) hp;exact⟨[],rp,λ_ h=>(nomatch h),λ_=>(vvz z).symm,λz=>by cases z⟩
  obtain⟨cs,r1,h1,h2,h3⟩:=key;refine⟨cs++bs,?_,λb df=>?_,λsh=>?_,λsh=>?_⟩
  ·unfold RepA;exact⟨x.v,xs.map Sl.v,cs,bs,rfl,rfl,r1,r⟩
  ·rcases aA df with z|z
   ·exact⟨x,X4,h1 b z⟩
   ·simp_all
  ·rw[List.map_cons,jv,h2 sh,ho sh]
  ·rw[Zf,h3 sh,hg sh]
theorem vjc{K H p}{xs:List Sl}{L}(w:World K H (xs.map some++L))(hp:H p=none):
  ∃bs,World K (upd H p (.lst (xs.map Sl.v))) (some ⟨.rt,.lst (xs.map Sl.d),.ref p,p::bs⟩::L)/\Step H (xs.map some++L) (upd H p (.lst (xs.map Sl.v))) (some ⟨.rt,.lst (xs.map Sl.d),.ref p,p::bs⟩::L):=by
 obtain⟨bs,r,hb,_,_⟩:=jw2 true (λx hx=>w.ok x (ll9 _ (Xp hx))) (λz=>by cases z);have ap:∀b∈bs,b∉j5 L:=λb df hL=>by
  obtain⟨x,hx,dq⟩:=hb b df;rcases Sl.as_of dq with z|z
  ·have nd:=w.nd;rw[jQ,Xb]at nd;exact nd.2.2 b (mem_owned.mpr ⟨x,Xp hx,z⟩) b hL rfl
  ·exact w.ds b (by rw[jQ];exact lr9 _ hL) (by rw[k9];exact ll9 _ (mem_frozen.mpr ⟨x,Xp hx,z⟩))
 have al:∀b∈bs,H b≠none:=λb df=>by
  obtain⟨x,hx,dq⟩:=hb b df;exact(w.ok x (ll9 _ (Xp hx))).some dq
 have sr:Src H (xs.map some++L) bs:=λb df=>by
  obtain⟨x,hx,dq⟩:=hb b df;rcases Sl.as_of dq with z|z
  ·exact .inr (.inl (by rw[jQ];exact ll9 _ (mem_owned.mpr ⟨x,Xp hx,z⟩)))
  ·exact .inl (by rw[k9];exact ll9 _ (mem_frozen.mpr ⟨x,Xp hx,z⟩))
 have st:Step H (xs.map some++L) H L:=⟨λ_ _ h _=>h,λa ha=>.inl (by rw[jQ];exact lr9 _ ha),λa ha=>.inl (by rw[k9];exact lr9 _ ha)⟩;exact⟨bs,JZ (Z:=⟨K,λ_=>none,λ_ _ _=>True⟩) w.right st (J4 hp r λb hb=>hb) ap al sr⟩
theorem vjb{K H p}{xs:List Sl}{L}(w:World K H (xs.map some++L))(hp:H p=none):
  ∃bs,World K (upd H p (.tup (xs.map Sl.v))) (some ⟨.no,.tup (xs.map Sl.d),.ref p,bs⟩::L)/\Step H (xs.map some++L) (upd H p (.tup (xs.map Sl.v))) (some ⟨.no,.tup (xs.map Sl.d),.ref p,bs⟩::L):=by
 obtain⟨bs,r,hb,_,_⟩:=jw2 true (λx hx=>w.ok x (ll9 _ (Xp hx))) (λz=>by cases z);have ap:∀b∈bs,b∉j5 L:=λb df hL=>by
  obtain⟨x,hx,dq⟩:=hb b df;rcases Sl.as_of dq with z|z
  ·have nd:=w.nd;rw[jQ,Xb]at nd;exact nd.2.2 b (mem_owned.mpr ⟨x,Xp hx,z⟩) b hL rfl
  ·exact w.ds b (by rw[jQ];exact lr9 _ hL) (by rw[k9];exact ll9 _ (mem_frozen.mpr ⟨x,Xp hx,z⟩))
 have al:∀b∈bs,H b≠none:=λb df=>by
  obtain⟨x,hx,dq⟩:=hb b df;exact(w.ok x (ll9 _ (Xp hx))).some dq
 have sr:Src H (xs.map some++L) bs:=λb df=>by
  obtain⟨x,hx,dq⟩:=hb b df;rcases Sl.as_of dq with z|z
  ·exact .inr (.inl (by rw[jQ];exact ll9 _ (mem_owned.mpr ⟨x,Xp hx,z⟩)))
  ·exact .inl (by rw[k9];exact ll9 _ (mem_frozen.mpr ⟨x,Xp hx,z⟩))
 have st:Step H (xs.map some++L) H L:=⟨λ_ _ h _=>h,λa ha=>.inl (by rw[jQ];exact lr9 _ ha),λa ha=>.inl (by rw[k9];exact lr9 _ ha)⟩;exact⟨bs,JZ (Z:=⟨K,λ_=>none,λ_ _ _=>True⟩) w.right st (W7 hp r λb hb=>hb) ap al sr⟩
theorem qw8{K H H'}{xs:List Sl}{L d v ps}(w:World K H (xs.map some++L))(ht:∀x∈xs,kJ x.sd=true)(hp:∀b∈ps,H b=none)(nd:ps.Nodup)(sm:jJ H H')
  (rep:∀bs,RepA K H false (xs.map Sl.d) (xs.map Sl.v) bs->RepL K H' false d v (ps++bs)):
  World K H' (some ⟨.dp,d,v,ps++j5 (xs.map some)⟩::L)/\Step H (xs.map some++L) H' (some ⟨.dp,d,v,ps++j5 (xs.map some)⟩::L):=by
 obtain⟨bs,r,hb,ho,_⟩:=jw2 false (λx hx=>w.ok x (ll9 _ (Xp hx))) (λ_=>ht);have e:=ho rfl;subst e;have w2:World K H' _:=⟨λx hx=>RepO.kp (w.ok x hx) (Kp.of_same sm),w.nd,w.ds⟩;have ndx:=w.nd;rw[jQ,Xb]at ndx;have al:∀b∈j5 _,H b≠none:=λb hb=>w.own_some (by rw[jQ];exact ll9 _ hb)
 refine⟨w2.right.cons (rep _ r) ?_ (λa ha hL=>?_) (λa ha hf=>?_) (λa ha=>(nomatch ha)) (λa ha=>λz=>(nomatch z)),⟨λa ob h _=>sm a ob h,λa ha=>?_,λa ha=>?_⟩⟩
 ·show(ps++j5 _).Nodup;rw[Xb];exact⟨nd,ndx.1,λa ha b hb e=>by subst e;exact al a hb (hp a ha)⟩
 ·rcases aA (ha)with z|z
  ·exact w.own_some (by rw[jQ];exact lr9 _ hL) (hp a z)
  ·exact ndx.2.2 a z a hL rfl
 ·rcases aA (ha)with z|z
  ·exact w.frz_some (by rw[k9];exact lr9 _ hf) (hp a z)
  ·exact w.ds a (by rw[jQ];exact ll9 _ z) (by rw[k9];exact lr9 _ hf)
 ·rw[jv]at ha;rcases aA ha with z|z
  ·rcases aA (z)with y|y
   ·exact .inr (hp a y)
   ·exact .inl (by rw[jQ];exact ll9 _ y)
  ·simp_all
 ·exact .inl (by rw[k9];exact lr9 _ ha)
theorem wvt{xs:List Sl}{ys}(h:xs.map Sl.sd=ys):xs.map Sl.d=ys.map (·.2):=by rw[<-h,Xi];rfl
theorem kzo{xs:List Sl}{ys}(h:xs.map Sl.sd=ys)(ht:ys.all kJ=true):∀x∈xs,kJ x.sd=true:=λx hx=>by
 rw[<-h,List.all_map,Xy]at ht;exact ht x hx
theorem qjd{o}{xs:List Sl}{ys E' r L' H1}{Q:VK}{Hq Lq}(h:mkL o E' ys=some r)(e:xs.map Sl.sd=ys)(w:World Z.K H1 (xs.map some++L'))(st:Step Hq Lq H1 (xs.map some++L'))(sm:q=true->jJ Hq H1/\∀b∈j5 (xs.map some),Hq b=none)
  (k:∀E'' a,r=.ok E'' a->∀x L'' H',x.o=a.1->x.d=a.2->Mt E'' σ L''->World Z.K H' (some x::L'')->Step Hq Lq H' (some x::L'')->(q=true->jJ Hq H'/\∀b∈x.own,Hq b=none)->Q x.v H') (m:Mt E' σ L'):
  ∀ p,H1 p=none->Q (.ref p) (upd H1 p (.lst (xs.map Sl.v))):=by
 intro p hp;unfold mkL at h
 by_cases ho:o=.dp
 ·rw[X6 ho]at h
  by_cases ht:ys.all kJ=true
  ·rw[X6 ht]at h;cases oq9 h;obtain⟨w2,s2⟩:=qw8 (d:=.lst _) w (kzo e ht) (λb hb=>by rw[aC hb];exact hp) (by simp) (qY hp) (λbs r=>by
    exact⟨p,_,bs,rfl,r.kp (Kp.of_same (qY hp)),.inl ⟨wQ,rfl⟩⟩)
   refine k _ _ rfl _ L' _ rfl (by rw[wvt e]) m w2 (st.trans s2) λhq=>⟨jY (sm hq).1 (qY hp),λb hb=>?_⟩
   rcases aA (hb)with z|z
   ·rw[aC z];exact z9 (sm hq).1 hp
   ·exact(sm hq).2 b z
  ·simp_all
 ·rw[Xa ho]at h;cases oq9 h;obtain⟨bs,w2,s2⟩:=vjc w hp;refine k _ _ rfl _ L' _ rfl (by rw[wvt e]) m w2 (st.trans s2) λhq=>⟨jY (sm hq).1 (qY hp),λb hb=>?_⟩
  have:b=p:=by simpa [Sl.own]using hb
  rw[this];exact z9 (sm hq).1 hp
theorem vzn{xs:List Sl}{ys n}(h:xs.map Sl.sd=ys)(hl:ys.length=n)(hz:n<=1000):(xs.map Sl.v).length<=sizeLine:=by
 have:xs.length=n:=by rw[<-hl,<-h,X2]
 rw[X2,this];exact Yl hz ⋯
theorem wv{o}(h:QA X Z q cs es)(hz:autoParam (cs.length<=1000) ŕ):QE X Z q (qk o cs) (.List es pos):=k7 (wk8 h) fun σ H Q aj=>ex8 aj λE L r m w hc xc k=>
 vxp m w (hc) xc λE1 ys h1 hl xs L1 H1 e1 m1 w1 st sm=>⟨vzn e1 hl hz,qjd (E':=E1) (h1) e1 w1 st sm k m1⟩
theorem wZ{o x1}(h:QA X Z q cs es)(hz:autoParam (cs.length<=1000) ŕ):QE X Z q (qZ o cs) (.Tuple es x1 pos):=k7 (wk4 h) fun σ H Q aj=>ex8 aj λE L r m w hc xc k=>
 vxp m w (hc) xc λE1 ys h1 hl xs L1 H1 e1 m1 w1 st sm=>⟨vzn e1 hl hz,λp hp=>by
  by_cases ho:o=.dp
  ·rw[X6 ho]at h1
   by_cases ht:ys.all kJ=true
   ·rw[X6 ht]at h1;cases oq9 h1;obtain⟨w2,s2⟩:=qw8 (d:=.tup _) (ps:=[]) w1 (kzo e1 ht) (λb hb=>(nomatch hb)) (by simp) (qY hp) (λbs r=>by
     exact⟨p,_,rfl,SqT.of wQ,r.kp (Kp.of_same (qY hp))⟩)
    exact k _ _ rfl _ L1 _ rfl (by rw[wvt e1]) m1 w2 (st.trans s2) λhq=>⟨jY (sm hq).1 (qY hp),λb hb=>(sm hq).2 b hb⟩
   ·simp_all
  ·rw[Xa ho]at h1;cases oq9 h1;obtain⟨bs,w2,s2⟩:=vjb w1 hp;exact k _ _ rfl _ L1 _ rfl (by rw[wvt e1]) m1 w2 (st.trans s2) λhq=>⟨jY (sm hq).1 (qY hp),λb hb=>(nomatch hb)⟩⟩
end
noncomputable def spF(K:Frag)(mg:Str->Option Value)(n:Nat)(f:Fn):Sp:=λvs H Q E=>∃(xs:List Sl) (r:Res Sd),vs=xs.map Sl.v/\xs.length=n/\World K H (xs.map some)/\f (xs.map Sl.sd)=some r /\
 (∀E' c,r=.exc E' c->∀C H',mg c=some (.ref C)->Step H (xs.map some) H' []->E (.ref C) none H') /\
 ∀E' a,r=.ok E' a->∀(x:Sl) H',x.o=a.1->x.d=a.2->World K H' [some x]->Step H (xs.map some) H' [some x]->Q x.v H'
theorem qQ{K mg n f}{ps:List Str}(hn:ps.length=n):∀vs H Q E,spF K mg n f vs H Q E->vs.length=ps.length:=λvs H Q E ⟨xs,r,e,hl,_⟩=>by rw[e,X2,hl,hn]
theorem kqe:∀(xs:List Sl) (k),Mt (xs.map (λx=>some x.sd)++List.replicate k none) (xs.map (λx=>some x.v)++List.replicate k none) (xs.map some++List.replicate k none)
 |[],0=>.nil
 |[],k+1=>by
  exact .un (kqe [] k)
 |x::xs,k=>.cons (kqe xs k)
theorem qV{X K mg N n nn B body H vs Q E}(hN:N.length=nn)(t:QSs X ⟨K,mg,E⟩ [] B body)(h:spF K mg n (fn nn B) vs H Q E):
  ∃t,PSs X body t/\t {nx:=λ_ H'=>Q .non H',rt:=Q} (L2.start N vs) H:=by
 refine⟨_,t,?_⟩;obtain⟨xs,r,rfl,hl,w,hf,hx,hk⟩:=h;unfold fn at hf;rw[X2,Xi]at hf;have e1:L2.start N (xs.map Sl.v)=xs.map (λx=>some x.v)++List.replicate (nn - xs.length) none:=by
  unfold L2.start;rw[Xi,X2,hN];rfl
 have wL:World K H (xs.map some++List.replicate (nn - xs.length) none):=w.same (by simp);have sL:Step H (xs.map some) H (xs.map some++List.replicate (nn - xs.length) none):=Step.refl.same (List.Perm.refl _) (by simp);cases hB:B _ with
 | none=>rw[show(some∘Sl.sd)=(λx:Sl=>some x.sd)from rfl,hB]at hf;cases hf
 | some g=>
  rw[show(some∘Sl.sd)=(λx:Sl=>some x.sd)from rfl,hB]at hf;refine⟨_,_,g,e1▸(kqe xs (nn - xs.length)),wL,hB,?_⟩;cases g with
  |nx E1=>
   cases oq9 hf;intro σ' L' H' _ m' w' s';exact hk _ _ rfl _ H' rfl rfl (World.consPu (x:=⟨.dp,.non,.non,[]⟩) ⟨λ_ z=>(nomatch z),Y7,λ_ z=>(nomatch z)⟩ (show RepL K H' false .non .non []from qv0) rfl) (Q8 ((sL.trans s').sub (by simp)) (λb hb=>(nomatch hb)) rfl)
  |rt E1 a=>
   cases oq9 hf;intro x σ' L' H' e2 e3 _ m' w' s';exact hk _ _ rfl x H' e2 e3 (w'.sub (by simp)) ((sL.trans s').sub (by simp))
  |xc E1 c=>
   cases oq9 hf;intro C σ' L' H' hm _ m' w' s';exact hx _ _ rfl C H' hm ((sL.trans s').sub (by simp))
  |ct E1=>cases hf|bk E1=>cases hf
section
variable {X:Cx}{Z:Fx0}{q:Bool}{cs:List Ex}{e:Expr}{es:List Expr}{pos p:Pos}{x:Str}{ps:List Str}{k n:Nat}{f:Fn}
theorem x3:∀xs:List Sl,j5 ((xs.map Sl.let).map some)=[]
 |[]=>rfl|x::xs=>by rw[List.map_cons,List.map_cons,jv,x3 xs];rfl
theorem jwm:∀xs:List Sl,jx ((xs.map Sl.let).map some)=xs.flatMap Sl.as
 |[]=>rfl|x::xs=>by rw[List.map_cons,List.map_cons,k8,jwm xs];rfl
theorem kxp(xs:List Sl):(xs.map Sl.let).map Sl.sd=letAll (xs.map Sl.sd):=by
 unfold letAll;rw[Xi,Xi];rfl
theorem qk2{K H}{xs:List Sl}{L}(w:World K H (xs.map some++L)):World K H ((xs.map Sl.let).map some++L)/\Step H (xs.map some++L) H ((xs.map Sl.let).map some++L):=by
 have nd:=w.nd;rw[jQ,Xb]at nd;have cl:∀a∈xs.flatMap Sl.as,a∈j5 _\/a∈jx _:=λa ha=>by
  obtain⟨x,hx,hax⟩:=List.mem_flatMap.mp ha;exact(Sl.as_of hax).imp (λz=>mem_owned.mpr ⟨x,Xp hx,z⟩) λz=>mem_frozen.mpr ⟨x,Xp hx,z⟩
 refine⟨⟨λx hx=>?_,by rw[jQ,x3];exact nd.2.1,λa ha hf=>?_⟩,λ_ _ h _=>h,λa ha=>?_,λa ha=>?_⟩
 ·rcases aA hx with hx|hx
  ·obtain⟨y,hy,e⟩:=aE hx;cases e;obtain⟨z,hz,rfl⟩:=aE hy;exact zw (w.ok z (ll9 _ (Xp hz)))
  ·exact w.ok x (lr9 _ hx)
 ·rw[jQ,x3]at ha;rw[k9,jwm]at hf;rcases aA hf with z|z
  ·rcases cl a z with z|z
   ·exact nd.2.2 a z a ha rfl
   ·exact w.ds a (by simp_all) (by simp_all)
  ·exact w.ds a (by simp_all) (by simp_all)
 ·rw[jQ,x3]at ha
  simp_all
 ·rw[k9,jwm]at ha;rw[k9,jQ];rcases aA ha with z|z
  ·rcases cl a z with z|z
   ·exact .inr (.inl (ll9 _ z))
   ·exact .inl (ll9 _ z)
  ·exact .inl (lr9 _ z)
theorem wjn(D:kK X.prog X.w X.K X.mg X.base k x ps (spF Z.K Z.mg n f))(hr:Room k X.A)(g:x6 X Z.EX)(ha:QA X Z q cs (e::es))(hn:autoParam (cs.length=n) Ŕ)(hg:autoParam (Gl X x) Ŕ)(fh:autoParam ((x==("__debug__":Str))=false) ŕ)
  (he:autoParam (starEach (e::es) X.env=(false,eval e X.env)::starEach es X.env) Ŕ) (bn:autoParam ((backTo pos (starEach es X.env)).any (·.1)=false) Ŕ):
  QE X Z q (k3 f cs) (.Call (.Name x p) (e::es) [] pos):=k7 (qvs D hr g ha hg fh he bn) fun σ H Q aj=>ex8 aj λE L r m w hc xc kk=>
 vxp m w (hc) xc λE1 ys h1 hl xs L1 H1 e1 m1 w1 st sm=>by
  rw [Xq];have ae:xs.length=n:=by rw[<-hn,<-hl,<-e1,X2]
  cases hf:f (letAll ys)with
  | none=>simp_all
  | some fr=>
   rw[hf]at h1;obtain⟨wl,sl⟩:=qk2 w1;have ev:xs.map Sl.v=(xs.map Sl.let).map Sl.v:=by rw[Xi];rfl
   rw[ev];refine⟨xs.map Sl.let,fr,rfl,by rw[X2];exact ae,wl.left,by rw[<-e1]at hf;rw[kxp];exact hf,λE' c ee C H' hm s'=>?_,λE' a ee y H' e2 e3 w' s'=>?_⟩
   ·subst ee;cases oq9 h1;obtain⟨w2,s2⟩:=stay wl s' ⟨λ_ z=>(nomatch z),Y7,λ_ z=>(nomatch z)⟩;exact xc _ _ rfl C L1 H' hm m1 w2 ((st.trans sl).trans s2)
   ·subst ee;cases oq9 h1;obtain⟨w2,s2⟩:=stay wl s' w';refine kk _ _ rfl y L1 H' e2 e3 m1 w2 ((st.trans sl).trans s2) λhq=>?_
    obtain⟨a1,a2⟩:=sm hq;refine⟨λb ob hb=>s'.keep b ob (a1 b ob hb) λz=>?_,λb hb=>?_⟩
    ·rw[x3]at z;exact nomatch z
    ·rcases s'.own b (ll9 _ hb)with z|z
     ·rw[x3]at z;exact nomatch z
     ·exact z9 a1 z
end
def wj3(K:Frag):R2:=λx y H Q=>∃l k xs,x=.ref l/\y=.int k/\LsR K H l xs/\-(2 ^ 63)<=k/\k<2 ^ 63/\xs.length*k.toNat<=sizeLine /\
 ∀p,H p=none->Q (.ref p) (upd H p (.lst (List.replicate k.toNat xs).flatten))
theorem op_repR{X}:OpR X (binaryOp .Mult) (wj3 X.K):=by
 rintro a7 s σ H x y v u Q I rx ry ⟨l,k,xs,rfl,rfl,hH,h1,h2,hz,q⟩;cases rx;obtain⟨t,rfl⟩:=ry;obtain⟨z,a8,n,r,e⟩:=hH.is I;have ae:a8.toArray.size*k.toNat<=sizeLine:=by rw[X9,<-r.length];exact hz
 have hcap:¬a8.toArray.size*k.toNat>(2 ^ 63 - 1) / 8:=by
  have:sizeLine<=(2 ^ 63 - 1) / 8:=⋯
  lia
 have ir:¬(!Builtin.List.listFitsIndex k)=true:=by
  rw[fitsIndex_both h1 h2];exact Bool.false_ne_true
 have je:¬Builtin.List.listTooLong (a8.toArray.size*k.toNat)=true:=by
  rw[qj9 ae];exact Bool.false_ne_true
 have fu:List.foldl (λx1 x2=>x1++x2) #[] (List.replicate (if a8.toArray.isEmpty=true then 0 else k.toNat) a8.toArray)=(List.replicate k.toNat a8).flatten.toArray:=by
  have f0:∀m,List.foldl (λx1 x2=>x1++x2) #[] (List.replicate m a8.toArray)=(List.replicate m a8).flatten.toArray:=λm=>by
   have:=kjm a8 m []
   simp_all
  cases a8 with|nil=>simp|cons a r'=>simp_all
 refine wpAny_binaryOp_repeat_ref ⋯ ⟨_,e,rfl⟩ (λs'=>typeIs_int s' k t) noFill_list_mul F.fills_int_mul F.slot_int_rmul repeat_list F.slot_int_index.lookup
  (call_meets F.slot_int_rmul (typeIs_int s k t) F.entry_int_rmul (F.args_int_rmul_2 _ _) (int___rmul___int_list k t l a8.toArray n)
   ⟨e,rfl,⟨_,e,rfl⟩,call_meets F.slot_list_mul ⟨_,e,rfl⟩ F.entry_list_mul (F.args_list_mul_2 _ _) (AutoListH.list___mul___list_int_3 l a8.toArray n k t ir hcap je) ⟨e,?_⟩⟩)
 rw[fu];exact⟨.ref _,_,I.lnew (t':=s.toks) (r.rep k.toNat) (by rw[qwg,Nat.mul_comm];exact hz),rfl,q _ I.fresh⟩
def vv9(K:Frag):R2:=λx y H Q=>rI IntMulOk (λi j=>.int (i*j)) x y H Q\/wj3 K x y H Q\/wj2 x y H Q
theorem wkl{X K}(hK:autoParam (X.K=K) Ŕ):OpR X (binaryOp .Mult) (vv9 K):=by subst hK;exact op_mulI.or (op_repR.or vw1)
theorem qjf{a}(h:a.natAbs.log2<2000000):Builtin.Int.intBits a<=2000000:=by
 unfold Builtin.Int.intBits
 split
 ·simp_all
 ·omega
theorem mulOk_of{a b}(h:K7 a b=true):IntMulOk a b:=by
 unfold K7 Zz at h;simp at h;rcases h with(h|h)|h
 ·exact .of_left (intBits_le_64 h.1 h.2)
 ·exact .of_right (intBits_le_64 h.1 h.2)
 ·have h1:=qjf h.1;have h2:=qjf h.2;unfold IntMulOk Builtin.Int.intTooBig;have e:2 ^ 27=134217728:=⋯
  have hb:bitsLine=134217728:=e
  grind
theorem RepA.reps{K H ds xs bs}(h:RepA K H true ds xs bs):∀k,∃cs,RepA K H true (List.replicate k ds).flatten (List.replicate k xs).flatten cs/\∀b∈cs,b∈bs
 |0=>⟨[],by simp only[List.replicate_zero,List.flatten_nil];unfold RepA;exact⟨rfl,rfl⟩,λ_ z=>(nomatch z)⟩
 |k+1=>by
  obtain⟨cs,r,hc⟩:=RepA.reps h k;exact⟨bs++cs,r.app h,λb hb=>(aA hb).elim id (hc b)⟩
theorem vql{K}:Ad2 K (vv9 K) XW:=by
 intro H x y s Q ox oy hf k;unfold XW at hf;dsimp only at hf
 split at hf
 ·rename_i i j e1 e2
  split at hf
  ·rename_i hm;cases oq9 hf;exact .inl ⟨i,j,kz ox e1,kz oy e2,mulOk_of hm,k _ H rfl rfl Wx⟩
  ·cases hf
 ·rename_i a n e1 e2
  split at hf
  ·rename_i hc;cases oq9 hf;obtain⟨l,xs,bs,e3,q3,r3,h3⟩:=xw ox (.inl e1) hc.2.2.2;have q3:LsR K H l xs:=by rcases q3 with⟨_,z⟩|⟨z,_⟩;exact z;rw[e1]at z;cases z
   obtain⟨cs,r4,h4⟩:=r3.reps n.toNat;exact .inr (.inl ⟨l,n,xs,e3,kz oy e2,q3,hc.1,hc.2.1,by rw[<-r3.len];exact hc.2.2.1,λp hp=>(k _ _ rfl rfl (J4 hp r4 λb hb=>ll9 _ (h3 b (h4 b hb))))⟩)
  ·cases hf
 ·rename_i z n e1 e2
  split at hf
  ·rename_i hc;cases oq9 hf;exact .inr (.inr ⟨z,n,(wX ox e1).1,kz oy e2,hc.1,k _ H rfl rfl (wxb hc.2)⟩)
  ·cases hf
 ·cases hf
def dec(h:Heap)(u:Value):D:=open Classical in if e:∃d,jw h d u then e.choose else .non
theorem YY{h u d}(r:jw h d u):dec h u=d:=by
 unfold dec;have e:∃d,jw h d u:=⟨d,r⟩;rw[dif_pos e];exact jzs e.choose_spec r
theorem kjq{h d}:∀{ds us},CReps h ds us->us.any (λu=>peq (dec h u) d)=ds.any λz=>peq z d
 |[],_,r=>by rw[r];rfl
 |z::ds,_,r=>by
  obtain⟨u,rr,rfl,h1,h2⟩:=r;rw[List.any_cons,List.any_cons,YY h1,kjq h2]
theorem jzr{h}:∀{ds us u},CReps h ds us->u∈us->∃d∈ds,jw h d u
 | [],_,_,r,hu=>by rw[r]at hu;cases hu
 | z::ds,_,u,r,hu=>by
  obtain⟨u',rr,rfl,h1,h2⟩:=r;rcases aD hu with rfl|hu
  ·exact⟨z,X4,h1⟩
  ·obtain⟨d,hd,c⟩:=jzr h2 hu;exact⟨d,lc9 _ hd,c⟩
theorem jx2:∀{n ds d},D.flats n ds=true->d∈ds->d.flat n=true
 |_,[],_,_,h=>by grind
 |n,z::ds,d,f,h=>by
  unfold D.flats at f;rw[Bool.and_eq_true]at f;rcases aD h with rfl|h
  ·exact f.1
  ·exact jx2 f.2 h
section
variable {X:Cx}{Z:Fx0}{K:Frag}{q qa qb:Bool}{a b c:Ex}{u v:Ts}{e ea eb:Expr}{es:List Expr}{pos p:Pos}{σ:L2.St}{H:Hp}{L:Ls}{E:En}
def qva(K:Frag)(iy:Bool):R2:=λx y H Q=>∃d ds as bs p xs,RepL K H true d x as/\y=.ref p/\(SqL K H p xs\/SqT K H p xs)/\RepA K H true ds xs bs/\d.flat 30=true/\D.flats 30 ds=true/\Q (.bl (if iy then !(ds.any λz=>peq z d)else ds.any λz=>peq z d)) H
theorem vw3(hu:X.A.units+64<cLine):OpR X (compareOp .In) (qva X.K false):=by
 rintro a7 s σ H x y v u Q I rx ry ⟨d,ds,as,bs,p,xs,h1,rfl,hq,ra,f1,f2,q⟩;cases ry;have he:∀{us},CReps s.heap ds us->∀w,w∈us.toArray->SeqAt.EqAt X.A.in1 s w v (peq (dec s.heap w) d):=fun {us} cr w hw=>by
  obtain⟨d',hd,c⟩:=jzr cr (by simpa using hw);rw[YY c];exact KK 30 (jx2 f2 hd) c (Q1 I h1 f1 rx) (by grind)
 rcases hq with hq|hq
 ·obtain⟨a8,r,pl,hz⟩:=I.list hq;have cr:=creps_of I ra f2 r;refine SeqAt.in_listAt _ pl.isList (he cr) ⟨.bl _,H,I,rfl,?_⟩
  rwa [List.any_toArray,kjq cr]
 ·obtain⟨a8,r,pl,hz⟩:=I.tuple hq;have cr:=creps_of I ra f2 r;refine SeqAt.in_tupleAt _ pl (he cr) ⟨.bl _,H,I,rfl,?_⟩
  rwa [List.any_toArray,kjq cr]
theorem qkn(hu:X.A.units+64<cLine):OpR X (compareOp .NotIn) (qva X.K true):=by
 rintro a7 s σ H x y v u Q I rx ry ⟨d,ds,as,bs,p,xs,h1,rfl,hq,ra,f1,f2,q⟩;cases ry;have he:∀{us},CReps s.heap ds us->∀w,w∈us.toArray->SeqAt.EqAt X.A.in1 s w v (peq (dec s.heap w) d):=fun {us} cr w hw=>by
  obtain⟨d',hd,c⟩:=jzr cr (by simpa using hw);rw[YY c];exact KK 30 (jx2 f2 hd) c (Q1 I h1 f1 rx) (by grind)
 rcases hq with hq|hq
 ·obtain⟨a8,r,pl,hz⟩:=I.list hq;have cr:=creps_of I ra f2 r;refine SeqAt.notIn_listAt _ pl.isList (he cr) ⟨.bl _,H,I,rfl,?_⟩
  rwa [List.any_toArray,kjq cr]
 ·obtain⟨a8,r,pl,hz⟩:=I.tuple hq;have cr:=creps_of I ra f2 r;refine SeqAt.notIn_tupleAt _ pl (he cr) ⟨.bl _,H,I,rfl,?_⟩
  rwa [List.any_toArray,kjq cr]
def qv9(iy:Bool):R2:=λx y H Q=>∃i j,x=.str i/\y=.str j/\Q (.bl (if iy then !wz1 i j else wz1 i j)) H
theorem opInStr:OpR X (compareOp .In) (qv9 false):=λa7 s σ H x y v u Q I rx ry ⟨i,j,e1,e2,q⟩=>qvx a7 s σ H x y v u Q I rx ry ⟨i,j,e1,e2,q⟩
theorem opNotInStr:OpR X (compareOp .NotIn) (qv9 true):=λa7 s σ H x y v u Q I rx ry ⟨i,j,e1,e2,q⟩=>kvu a7 s σ H x y v u Q I rx ry ⟨i,j,e1,e2,q⟩
def wj7(K:Frag)(iy:Bool):R2:=λx y H Q=>qv9 iy x y H Q\/qva K iy x y H Q
theorem vw4(hu:X.A.units+64<cLine)(hK:autoParam (X.K=K) Ŕ):OpR X (compareOp .In) (wj7 K false):=by subst hK;exact opInStr.or (vw3 hu)
theorem kq5(hu:X.A.units+64<cLine)(hK:autoParam (X.K=K) Ŕ):OpR X (compareOp .NotIn) (wj7 K true):=by subst hK;exact opNotInStr.or (qkn hu)
theorem x9{H l xs}(h:LsR K H l xs):SqL K H l xs:=h.sq
theorem kqk{x y:Sl}{ys}{iy:Bool}{Q}(ox:x.ok K H)(oy:y.ok K H)(hy:y.d=.lst ys\/y.d=.tup ys)(hc:(x.d.flat 30&&D.flats 30 ys)=true)
  (k:Q (.bl (if iy then !(ys.any λz=>peq z x.d)else ys.any λz=>peq z x.d)) H):wj7 K iy x.v y.v H Q:=by
 rw[Bool.and_eq_true]at hc;obtain⟨l,xs,bs,e3,q3,r3,_⟩:=items oy hy;have r3':RepA K H true ys xs bs:=by
  cases ho:(y.o != .dp)with|true=>rw[ho]at r3;exact r3|false=>rw[ho]at r3;exact r3.wk
 refine .inr ⟨x.d,ys,x.as,bs,l,xs,RepO.wk ox,e3,?_,r3',hc.1,hc.2,k⟩;rcases q3 with⟨_,z⟩|⟨_,z⟩
 ·exact .inl (x9 z)
 ·exact .inr z
theorem vxn:Ad2 K (wj7 K false) (pu2 KZ):=by
 intro H x y s Q ox oy hf k;unfold pu2 KZ fIn at hf;dsimp only at hf;cases hy:y.d with
 | lst ys=>
  rw[hy]at hf;dsimp only at hf
  split at hf
  ·rename_i hc;cases oq9 hf;exact kqk ox oy (.inl hy) hc (k _ H rfl rfl wJ)
  ·cases hf
 | tup ys=>
  rw[hy]at hf;dsimp only at hf
  split at hf
  ·rename_i hc;cases oq9 hf;exact kqk ox oy (.inr hy) hc (k _ H rfl rfl wJ)
  ·cases hf
 | str b=>
  rw[hy]at hf;dsimp only at hf
  split at hf
  ·rename_i a hx;cases oq9 hf;exact .inl ⟨a,b,(wX ox hx).1,(wX oy hy).1,k _ H rfl rfl wJ⟩
  ·cases hf
 |_=>simp_all
theorem kqx:Ad2 K (wj7 K true) (pu2 wW):=by
 intro H x y s Q ox oy hf k;unfold pu2 wW qx6 fIn at hf;dsimp only at hf;cases hy:y.d with
 | lst ys=>
  rw[hy]at hf;dsimp only at hf
  split at hf
  ·rename_i hc;cases oq9 hf;exact kqk ox oy (.inl hy) hc (k _ H rfl rfl wJ)
  ·cases hf
 | tup ys=>
  rw[hy]at hf;dsimp only at hf
  split at hf
  ·rename_i hc;cases oq9 hf;exact kqk ox oy (.inr hy) hc (k _ H rfl rfl wJ)
  ·cases hf
 | str b=>
  rw[hy]at hf;dsimp only at hf
  split at hf
  ·rename_i a hx;cases oq9 hf;exact .inl ⟨a,b,(wX ox hx).1,(wX oy hy).1,k _ H rfl rfl wJ⟩
  ·cases hf
 |_=>rw[hy]at hf;cases hf
theorem kzs{g d v as}(h:RepL K H g d v as):decide (v=.non)=isNon d:=by
 cases d with|non=>unfold RepL at h;rw[h.1];rfl|bl _=>unfold RepL at h;rw[h.1];rfl|int _=>unfold RepL at h;rw[h.1];rfl|str _=>unfold RepL at h;rw[h.1];rfl|tup _=>unfold RepL at h;obtain⟨a,xs,e,_⟩:=h;rw[e];rfl|lst _=>unfold RepL at h;obtain⟨a,xs,bs,e,_⟩:=h;rw[e];rfl|dct _=>unfold RepL at h;obtain⟨a,xs,bs,e,_⟩:=h;rw[e];rfl|obj _ _=>unfold RepL at h;obtain⟨_,x,o,C,e,_⟩:=h;rw[e];rfl
theorem wvk:Ad2 K (λx y H Q=>y=.non/\Q (.bl (decide (x=.non))) H) (f2First fIsNon):=by
 intro H x y s Q ox oy hf k;unfold f2First fIsNon at hf
 split at hf
 ·rename_i hy;cases oq9 hf;have e:=kzs (RepO.wk oy);rw[hy]at e;refine⟨Yx e,?_⟩;rw[kzs (RepO.wk ox)];exact k _ H rfl rfl wJ
 ·grind
theorem vq3 n i:_root_.Q.ixN n i=L2.ixN n i:=rfl
theorem vwm{x y:Sl}{d Q}(ox:x.ok K H)(oy:y.ok K H)(hf:kw x.d y.d=some d)(k:∀z:Sl,z.o=sub x.o->z.d=d->z.ok K H->(∀b∈z.frz,b∈x.frz)->(∀b∈z.as,b∈x.as)->Q z.v H):rIx K x.v y.v H Q:=by
 have seq:∀ds,(x.d=.lst ds\/x.d=.tup ds)->∀i,y.d=.int i->((_root_.Q.ixN ds.length i).bind λj=>ds[j]?)=some d->rIx K x.v y.v H Q:=by
  intro ds hx i hy hd;obtain⟨l,xs,bs,e3,q3,r3,h3,h4⟩:=items ox hx;cases hj:_root_.Q.ixN ds.length i with
  | none=>grind
  | some j=>
   rw [hj]at hd;obtain⟨v,cs,e4,r4,h5⟩:=r3.get (hd);have fi:atI xs i=some v:=by
    unfold atI
    rwa [<-r3.len,<-vq3,hj]
   have fin:Q v H:=by
    cases ho:x.o with
    | dp=>
     rw[ho]at r4;exact k ⟨.dp,d,v,cs⟩ (by rw[ho];rfl) rfl r4 (λb hb=>(nomatch hb)) λb hb=>h3 b (h5 b hb)
    | no=>
     rw[ho]at r4;exact k ⟨.no,d,v,cs⟩ (by rw[ho];rfl) rfl r4 (λb hb=>h4 ⋯ b (h5 b hb)) λb hb=>h3 b (h5 b hb)
    | rt=>
     rw[ho]at r4;exact k ⟨.no,d,v,cs⟩ (by rw[ho];rfl) rfl r4 (λb hb=>h4 ⋯ b (h5 b hb)) λb hb=>h3 b (h5 b hb)
   rcases q3 with⟨_,z⟩|⟨_,z⟩
   ·exact .inl ⟨l,xs,i,v,e3,kz oy hy,x9 z,fi,fin⟩
   ·exact .inr (.inl ⟨l,xs,i,v,e3,kz oy hy,z,fi,fin⟩)
 unfold kw at hf;cases hx:x.d with
 | lst ds=>
  rw [hx]at hf;cases hy:y.d with| int i=>rw[hy]at hf;exact seq ds (.inl hx) i hy hf| _=>rw[hy]at hf;cases hf
 | tup ds=>
  rw [hx]at hf;cases hy:y.d with| int i=>rw[hy]at hf;exact seq ds (.inr hx) i hy hf| _=>rw[hy]at hf;cases hf
 | str z=>
  rw [hx]at hf;cases hy:y.d with
  | int i=>
   rw [hy]at hf;have hf:((_root_.Q.ixN z.cps.size i).bind λj=>(z.cps.toList[j]?).map λc=>D.str ⟨#[c]⟩)=some d:=hf;cases hj:_root_.Q.ixN z.cps.size i with
   | none=>grind
   | some j=>
    rw[hj]at hf;cases hc:z.cps.toList[j]? with
    | none=>rw[Option.bind_some,hc]at hf;cases hf
    | some c=>
     rw[Option.bind_some,hc]at hf;cases oq9 hf;have fi:atI z.cps.toList i=some c:=by
      unfold atI
      rwa [X7,<-vq3,hj]
     obtain⟨e1,hz⟩:=wX ox hx;refine .inr (.inr ⟨z,i,c,e1,kz oy hy,hz,fi,?_⟩);have rp:∀g,RepL K H g _ (.str ⟨#[c]⟩) []:=λg=>VZ (show 1<=sizeLine by decide)
     cases ho:x.o with|dp=>exact k ⟨.dp,.str ⟨#[c]⟩,.str ⟨#[c]⟩,[]⟩ (by rw[ho];rfl) rfl (rp false) (λb hb=>(nomatch hb)) λb hb=>(nomatch hb)|no=>exact k ⟨.no,.str ⟨#[c]⟩,.str ⟨#[c]⟩,[]⟩ (by rw[ho];rfl) rfl (rp true) (λb hb=>(nomatch hb)) λb hb=>(nomatch hb)|rt=>exact k ⟨.no,.str ⟨#[c]⟩,.str ⟨#[c]⟩,[]⟩ (by rw[ho];rfl) rfl (rp true) (λb hb=>(nomatch hb)) λb hb=>(nomatch hb)
  |_=>rw[hy]at hf;cases hf
 |non=>rw[hx]at hf;cases hf|bl _=>rw[hx]at hf;cases hf|int _=>rw[hx]at hf;cases hf|dct _=>simp_all|obj _ _=>rw[hx]at hf;cases hf
theorem q_ix(ha:QV X Z qa a ea)(hb:QV X Z true b eb)(hs:kqz eb)(hK:autoParam (X.K=Z.K) Ŕ):QV X Z qa (k6 a b) (.Subscript ea eb pos):=
 k7 (wka (hK▸vq2) ha hb hs) fun σ H Q aj=>ex8 aj λE L r m w hc xc k=>by
  refine kX m w (hc) xc λE1 s h1 x L1 H1 e1 e2 m1 w1 ok fr sr st sm=>(kX m1 w1 h1 (xc.step st) λE2 s2 h2 y L2 H2 e3 e4 m2 w2 gp ot ou b8 cx=>?_)
  obtain⟨z,hz,rfl⟩:=wj h2;cases hf:kw s.2 s2.2 with
  |none=>simp_all
  |some d=>
   rw[hf]at hz;cases oq9 hz;have kx:=Jz ok fr b8 (cx rfl);exact vwm kx.1 gp (by rw[e2,e4];exact hf) λz zo zd qy zf za=>k _ _ rfl z L2 H2 (by simp_all) zd m2 w2 qy (λb hb=>kx.2 b (zf b hb)) (W6 sr za) (st.trans b8) λhq=>jY (sm hq) (cx rfl)
theorem wje{op}(h:QE X Z q a ea):QE X Z q a (.BoolOp op [ea] pos):=wk6 h
theorem wx4(ha:QV X Z q a ea)(hb:QE X Z q b (.BoolOp .And (eb::es) pos)):QE X Z q (wv3 a b) (.BoolOp .And (ea::eb::es) pos):=k7 (wkd ha hb) fun σ H Q aj=>ex8 aj λE L r m w hc xc k=>
 kX m w (hc) xc λE1 s h1 x L1 H1 e1 e2 m1 w1 ok fr sr st sm=>by
  cases hs:s.2 with
  | bl kk=>
   rw[hs]at h1;refine⟨kk,qvz ok (e2.trans hs),?_⟩;cases kk with
   |true=>
    exact⟨E1,L1,r,m1,w1,h1,xc.step st,λE' a z x L' H' e1 e2 m' w' fq ko=>k E' a z x L' H' e1 e2 m' w' (st.trans fq) λhq=>⟨jY (sm hq) (ko hq).1,λb hb=>z9 (sm hq) ((ko hq).2 b hb)⟩⟩
   |false=>
    cases oq9 h1;obtain⟨w3,cg⟩:=JZ w1 st (wJ (fr:=[])) (λ_ z=>(nomatch z)) (λ_ z=>(nomatch z)) (λ_ z=>(nomatch z));exact k _ _ rfl _ L1 H1 rfl rfl m1 w3 cg λhq=>⟨sm hq,λ_ z=>(nomatch z)⟩
  |_=>rw[hs]at h1;cases h1
theorem wzl{x:Sl}{k}(ok:x.ok K H)(h:truth x.d=some k)(hd:∀a9,x.d≠.dct a9):ww3 K x.v H k:=by
 cases hx:x.d with
 |non=>rw[hx]at h;rw[vkv ok hx];exact(oq9 h).symm|bl b=>rw[hx]at h;rw[qvz ok hx];exact(oq9 h).symm|int i=>rw[hx]at h;rw[kz ok hx];exact(oq9 h).symm
 |str z=>
  rw[hx]at h;obtain⟨e,hz⟩:=wX ok hx;rw[e];refine⟨hz,?_⟩;rw[<-oq9 h];show _=(((z.cps.size:Nat):Int) != 0);rw[Bool.eq_iff_iff];simp
 |lst ds=>
  rw[hx]at h;obtain⟨a,xs,bs,e,q,r,_⟩:=items ok (.inl hx);rw[e];have q':LsR K H a xs:=by rcases q with⟨_,z⟩|⟨z,_⟩;exact z;rw[hx]at z;cases z
  refine .inl ⟨xs,x9 q',?_⟩;rw[<-oq9 h];have:=r.len;cases ds<;>cases xs<;>simp_all
 |tup ds=>
  rw[hx]at h;obtain⟨a,xs,bs,e,q,r,_⟩:=items ok (.inr hx);rw[e];have q':SqT K H a xs:=by rcases q with⟨z,_⟩|⟨_,z⟩;rw[hx]at z;cases z;exact z
  refine .inr (.inl ⟨xs,q',?_⟩);rw[<-oq9 h];have:=r.len;cases ds<;>cases xs<;>simp_all
 |dct a9=>exact absurd hx (hd a9)|obj c f=>rw[hx]at h;cases h
theorem kv4{d k}(h:truthQ d=some k):truth d=some k/\∀a9,d≠.dct a9:=by
 cases d<;>first|exact⟨h,λ_ z=>nomatch z⟩|cases h
theorem vz(h:QV X Z q a ea)(he:autoParam (∀f9,isTrue ea X.env f9=(do let v <-f9;standAt ea.pos;holding [v] (truthy v))) Ŗ)(hK:autoParam (X.K=Z.K) Ŕ):QT X Z q (tEQ a) ea:=qvj (vj0 h he) fun σ H Q aj=>ex8 aj λE L r m w hc xc k=>
 kX m w (show bnd (a E) _=some r from hc) xc λE1 s h1 x L1 H1 e1 e2 m1 w1 ok fr sr st sm=>by
  obtain⟨kk,hk,rfl⟩:=wj h1;obtain⟨h2,h3⟩:=kv4 hk;exact⟨kk,hK▸wzl ok (by rw[e2];exact h2) (by rw[e2];exact h3),k _ _ rfl L1 H1 m1 w1 st sm⟩
theorem wwx(h:QV X Z q a ea)(hK:autoParam (X.K=Z.K) Ŕ):QE X Z q (vk7 a) (.UnaryOp .Not ea pos):=by
 intro a7 s σ H Q I ⟨E,L,r,m,w,hc,xc,k⟩;refine UnaryOp_ (thn (h a7 s σ H _ I (kX (G:=λv H1=>∃kk,ww3 X.K v H1 kk/\Q (.bl (!kk)) H1) m w (hc) xc λE1 s h1 x L1 H1 e1 e2 m1 w1 ok fr sr st sm=>?_)) λv s1 ⟨x,H1,I1,r1,kk,t1,q1⟩=>?_)
 ·obtain⟨y,hy,rfl⟩:=wj h1;cases hk:truthQ s.2 with
  |none=>simp_all
  |some kk=>
   rw[hk]at hy;cases oq9 hy;obtain⟨h2,h3⟩:=kv4 hk;refine⟨kk,hK▸wzl ok (by rw[e2];exact h2) (by rw[e2];exact h3),?_⟩;obtain⟨w3,cg⟩:=JZ w1 st (wJ (fr:=[])) (λ_ z=>(nomatch z)) (λ_ z=>(nomatch z)) (λ_ z=>(nomatch z));exact k _ _ rfl _ L1 H1 rfl rfl m1 w3 cg λhq=>⟨sm hq,λ_ z=>(nomatch z)⟩
 ·exact not_of (thn (vkg a7 s1 σ H1 x v _ I1 r1 ⟨kk,t1,q1⟩) λc s2 ⟨H2,I2,q2⟩=>⟨.bl _,H2,I2,rfl,q2⟩)
end
theorem jzt{α:Type}:∀{L i} {q:α},L[i]?=some q->∃A B,L=A++q::B/\∀q',L.set i q'=A++q'::B
 |[],_,_,h=>by simp at h
 |a::L,0,q,h=>by
  have e:a=q:=by simpa using h
  subst e;exact⟨[],L,rfl,λ_=>rfl⟩
 |a::L,i+1,q,h=>by
  obtain⟨A,B,e,f⟩:=jzt (by simpa using h);exact⟨a::A,B,by rw[e];rfl,λq'=>by rw[List.set_cons_succ,f];rfl⟩
section
variable {K:Frag}{H:Hp}{M T L:Ls}{y y':Sl}{l:Addr}{ob:HO}
theorem World.write(w:World K H (some y::(T++M)))(hl:l∈y.own)(ok':y'.ok K (upd H l ob))(nd:y'.own.Nodup)(h1:∀a∈y'.own,a∈y.own\/a∈j5 T)(h2:∀a∈y'.frz,a∈y.as\/a∈j5 T\/a∈jx T)(h3:∀a∈y'.own,a∉y'.frz):
  World K (upd H l ob) (some y'::M)/\Step H (some y::(T++M)) (upd H l ob) (some y'::M):=by
 have wn:=w.nd;rw [jv,jQ,Xb,Xb]at wn;obtain⟨n1,⟨n2,n3,n4⟩,n5⟩:=wn;have oy:l∈j5 (some y::(T++M)):=ll9 _ hl;have lw:=w.own_al oy;have ds:∀a,(a∈y.own\/a∈j5 T\/a∈j5 M)->¬(a∈y.frz\/a∈jx T\/a∈jx M):=λa ha hf=>by
  refine w.ds a ?_ ?_
  ·rw[jv,jQ];rcases ha with z|z|z
   ·exact ll9 _ z
   ·exact lr9 _ (ll9 _ z)
   ·exact lr9 _ (lr9 _ z)
  ·rw[k8,k9];rcases hf with z|z|z
   ·exact ll9 _ z
   ·exact lr9 _ (ll9 _ z)
   ·exact lr9 _ (lr9 _ z)
 have noM:∀z,some z∈M->l∉z.as:=λz hz ha=>by
  rcases Sl.as_of ha with q|q
  ·exact n5 l hl l (lr9 _ (mem_owned.mpr ⟨z,hz,q⟩)) rfl
  ·exact ds l (.inl hl) (.inr (.inr (mem_frozen.mpr ⟨z,hz,q⟩)))
 have ke:∀a o,H a=some o->a≠l->upd H l ob a=some o:=λa o e ne=>by rw[kq ne];exact e
 have kp:∀as,l∉as->Kp H _ as:=λas hn=>by
  refine⟨λa xs e=>ke a _ e λz=>?_,λa o u e=>ke a _ e λz=>?_,λa ha o e=>ke a o e λz=>hn (z▸ha)⟩
  ·grind
  ·subst z;rcases lw with⟨_,q⟩|⟨_,q⟩|⟨_,q⟩<;>(rw[e]at q;cases q)
 have wM:World K (upd H l ob) M:=by
  have w1:=w.tail.right;exact⟨λz hz=>RepO.kp (w1.ok z hz) (kp _ (noM z hz)),w1.nd,w1.ds⟩
 refine⟨wM.cons ok' nd (λa ha hM=>?_) (λa ha hM=>?_) (λa ha hM=>?_) h3,λa o e hn=>ke a o e λz=>hn (z▸oy),λa ha=>?_,λa ha=>?_⟩
 ·rcases h1 a ha with z|z
  ·exact n5 a z a (lr9 _ hM) rfl
  ·exact n4 a z a hM rfl
 ·rcases h1 a ha with z|z
  ·exact ds a (.inl z) (.inr (.inr hM))
  ·exact ds a (.inr (.inl z)) (.inr (.inr hM))
 ·rcases h2 a ha with z|z|z
  ·rcases Sl.as_of z with z|z
   ·exact n5 a z a (lr9 _ hM) rfl
   ·exact ds a (.inr (.inr hM)) (.inl z)
  ·exact n4 a z a hM rfl
  ·exact ds a (.inr (.inr hM)) (.inr (.inl z))
 ·rw[jv,jQ];rcases aA ha with z|z
  ·rcases h1 a z with z|z
   ·exact .inl (ll9 _ z)
   ·exact .inl (lr9 _ (ll9 _ z))
  ·exact .inl (lr9 _ (lr9 _ z))
 ·rw[jv,jQ,k8,k9];rcases aA ha with z|z
  ·rcases h2 a z with z|z|z
   ·rcases Sl.as_of z with z|z
    ·exact .inr (.inl (ll9 _ z))
    ·exact .inl (ll9 _ z)
   ·exact .inr (.inl (lr9 _ (ll9 _ z)))
   ·exact .inl (lr9 _ (ll9 _ z))
  ·exact .inl (lr9 _ (lr9 _ z))
theorem World.writeAt{i}(w:World K H (T++L))(hy:L[i]?=some (some y))(hl:l∈y.own)(ok':y'.ok K (upd H l ob))(nd:y'.own.Nodup)(h1:∀a∈y'.own,a∈y.own\/a∈j5 T)(h2:∀a∈y'.frz,a∈y.as\/a∈j5 T\/a∈jx T)(h3:∀a∈y'.own,a∉y'.frz):
  World K (upd H l ob) (L.set i (some y'))/\Step H (T++L) (upd H l ob) (L.set i (some y')):=by
 obtain⟨A,B,e,f⟩:=jzt hy;rw[f];subst e;have p:(T++(A++some y::B)).Perm (some y::(T++(A++B))):=by
  refine(List.Perm.append_left T (List.perm_middle)).trans List.perm_middle
 obtain⟨w2,s2⟩:=World.write (w.perm p) hl ok' nd h1 h2 h3;exact⟨w2.perm List.perm_middle.symm,s2.perm p.symm List.perm_middle.symm⟩
end
theorem RepA.snoc{K H g d x cs}(h:RepL K H g d x cs){ds xs bs}(r:RepA K H g ds xs bs):RepA K H g (ds++[d]) (xs++[x]) (bs++cs):=by
 refine RepA.app ?_ r;exact⟨x,[],cs,[],rfl,by simp,h,by unfold RepA;exact⟨rfl,rfl⟩⟩
theorem kq4{K H}{y:Sl}{ds}(ok:y.ok K H)(hd:y.d=.lst ds)(ho:y.o≠.no):∃l xs bs,y.v=.ref l/\H l=some (.lst xs)/\y.as=l::bs/\l∈y.own/\RepA K H (y.o != .dp) ds xs bs:=by
 obtain⟨o,d,v,as⟩:=y;dsimp only at hd ho;subst hd;cases o with
 |no=>exact absurd rfl ho
 |rt=>
  obtain⟨a,xs,bs,rfl,r,q,rfl⟩:=(ok);exact⟨a,xs,bs,rfl,q,rfl,by simp[Sl.own],r⟩
 |dp=>
  have ok:RepL K H false _ v as:=ok;obtain⟨a,xs,bs,rfl,r,q⟩:=ok;rcases q with⟨q,rfl⟩|⟨z,_⟩
  ·exact⟨a,xs,bs,rfl,q,rfl,by simp[Sl.own],r⟩
  ·grind
theorem kx7{K H T L i y l xs xs' bs cs o' ds'}(w:World K H (T++L))(hy:L[i]?=some (some y))(hH:H l=some (.lst xs))(ha:y.as=l::bs)(hl:l∈y.own)(hv:y.v=.ref l)
  (r:RepA K H (o' != .dp) ds' xs' cs) (hc:(o'=.rt/\∀a∈cs,a∈bs\/a∈j5 T\/a∈jx T)\/(o'=.dp/\y.o=.dp/\cs.Nodup/\∀a∈cs,a∈bs\/a∈j5 T)):
  World K (upd H l (.lst xs')) (L.set i (some ⟨o',.lst ds',y.v,l::cs⟩))/\Step H (T++L) (upd H l (.lst xs')) (L.set i (some ⟨o',.lst ds',y.v,l::cs⟩)):=by
 have oL:=mem_owned.mpr ⟨y,xJ hy,hl⟩;have oy:l∈j5 (T++L):=by rw[jQ];exact lr9 _ oL
 have nd:=w.nd;rw [jQ,Xb]at nd;have nT:=λz=>nd.2.2 l z l oL rfl
 have yn:y.own.Nodup:=by
  obtain⟨A,B,e,_⟩:=jzt hy;have:=nd.2.1;rw[e,jQ,Xb]at this;exact(List.nodup_append.mp this.2.1).1
 have nb:l∉bs:=λz=>by
  cases ho:y.o with
  | no=>unfold Sl.own at hl;rw[ho]at hl;exact nomatch hl
  | rt=>
   have:l∈y.frz:=by unfold Sl.frz;rw[ho,ha];exact z
   exact w.ds l oy (by rw[k9];exact lr9 _ (mem_frozen.mpr ⟨y,xJ hy,this⟩))
  | dp=>
   unfold Sl.own at yn;rw[ho,ha]at yn;exact(List.nodup_cons.mp yn).1 z
 have nc:l∉cs:=λz=>by
  rcases hc with⟨_,hc⟩|⟨_,_,_,hc⟩
  ·rcases hc l z with q|q|q
   ·exact nb q
   ·exact nT q
   ·exact(λz=>w.ds l oy (by rw[k9];exact ll9 _ z)) q
  ·rcases hc l z with q|q
   ·exact nb q
   ·exact nT q
 have kp:Kp H (upd H l (.lst xs')) cs:=by
  have k2:∀a o,H a=some o->a≠l->upd H l (.lst xs') a=some o:=λa o e ne=>by rw[kq ne];exact e
  refine⟨λa zs e=>k2 a _ e λz=>?_,λa o u e=>k2 a _ e λz=>?_,λa ha o e=>k2 a o e λz=>nc (z▸ha)⟩
  ·grind
  ·grind
 have r':=r.kp kp;rcases hc with⟨rfl,hc⟩|⟨rfl,hdp,fk,hc⟩
 ·refine World.writeAt w hy hl (y':=_) ⟨l,xs',cs,hv,r',wQ,rfl⟩ (by simp[Sl.own]) (λa h=>?_) (λa h=>?_) (λa h z=>?_)
  ·have:a=l:=by simpa [Sl.own]using h
   grind
  ·rcases hc a (by simpa [Sl.frz]using h)with q|q
   ·exact .inl (ha▸lc9 _ q)
   ·exact .inr q
  ·have:a=l:=by simpa [Sl.own]using h
   subst this;exact nc (by simpa [Sl.frz]using z)
 ·have oa:y.own=y.as:=by unfold Sl.own;rw[hdp]
  refine World.writeAt w hy hl (y':=_) ?_ (List.nodup_cons.mpr ⟨nc,fk⟩) (λa h=>?_) (λa h=>(nomatch h)) (λa h z=>(nomatch z))
  ·show RepL K _ false _ y.v _;exact⟨l,xs',cs,hv,r',.inl ⟨wQ,rfl⟩⟩
  ·rcases aD (h)with q|q
   ·grind
   ·rcases hc a q with q|q
    ·exact .inl (by rw[oa,ha];exact lc9 _ q)
    ·exact .inr q
section
variable {X:Cx}{Z:Fx0}{pn:List Nat}{q:Bool}{c:Ex}{e:Expr}{σ:L2.St}{H:Hp}{L:Ls}{E:En}
theorem vkx{K}{x:Sl}{ds}(ok:x.ok K H)(hd:x.d=.lst ds):tyV K "list" x.v H:=by
 obtain⟨a,xs,bs,e1,q1,_⟩:=items ok (.inl hd);rw[e1];rcases q1 with⟨_,z⟩|⟨z,_⟩
 ·exact .inl ⟨rfl,xs,z.sq⟩
 ·grind
theorem wxy{K}{x:Sl}(ok:x.ok K H) b (hb:b=false->kJ x.sd=true):∃cs,RepL K H b x.d x.v cs/\(∀a∈cs,a∈x.as)/\(b=false->∀a∈cs,a∈x.own)/\(b=false->x.own.Nodup->cs.Nodup):=by
 cases b with
 | true=>exact⟨x.as,RepO.wk ok,λ_ h=>h,(λz=>by cases z),(λz=>by cases z)⟩
 | false=>
  by_cases ho:x.o=.dp
  ·have e:x.own=x.as:=by unfold Sl.own;rw[ho]
   refine⟨x.as,?_,λ_ h=>h,λ_ a h=>by rw[e];exact h,λ_ n=>by rw[e]at n;exact n⟩;have:=ok;unfold Sl.ok at this;rw[ho]at this;exact this
  ·have hp:x.d.pure=true:=by
    rcases Bool.or_eq_true_iff.mp (hb rfl)with z|z
    ·exact absurd (by simpa using z) ho
    ·exact z
   obtain⟨z,rp⟩:=RepL.pu (g':=false) (RepO.wk ok) hp;exact⟨[],rp,λ_ h=>(nomatch h),λ_ _ h=>(nomatch h),λ_ _=>Y7⟩
theorem Jj{α:Type}{l:List α}{i x}(h:l[i]?=some x):l.set i x=l:=by
 obtain⟨h1,h2⟩:=List.getElem?_eq_some_iff.mp h;rw[<-h2];simp
theorem mut1 {D' f i r} {G:V->V->Hp->Prop} (m:Mt E σ L) (w:World Z.K H L) (hc:wK f i c E=some r) (k:FlP Z pn D' σ H L r)
  (g:∀ l (x) (xs) (ds ds') (d) (bs cs) (H1) (gg),f ds d=some ds'->H1 l=some (.lst xs)->RepA Z.K H1 gg ds xs bs->RepL Z.K H1 gg d x cs ->
   (∀ xs' es,RepA Z.K H1 gg ds' xs' es->(∀a∈es,a∈bs\/a∈cs)->((bs++cs).Nodup->es.Nodup)->D'.nx σ (upd H1 l (.lst xs')))->G (.ref l) x H1):
  ∃ v,σ[i]?=some (some v)/\tyV Z.K "list" v H/\tQ Z q c σ H (G v):=by
 unfold wK at hc;cases h0:E[i]? with
 | none=>rw[h0]at hc;cases hc
 | some s0 =>
  cases s0 with
  | none=>rw[h0]at hc;cases hc
  | some s0=>
   obtain ⟨o0,d0⟩:=s0;cases d0 with
   | lst ds0=>
    rw [h0]at hc;obtain ⟨x0,a1,a2,a3,a4⟩:=m.get h0;refine ⟨x0.v,a4,vkx (w.ok x0 (xJ a1)) a3,(Wq m w hc k λE1 s h1 x L1 H1 e1 e2 m1 w1 st _=>?_)⟩;cases hE:E1[i]? with
    | none=>rw[hE]at h1;cases h1
    | some s1=>
     cases s1 with
     | none=>rw[hE]at h1;cases h1
     | some s1=>
      obtain⟨oo,dd⟩:=s1;rw [hE]at h1;cases dd with
      | lst ds=>
       dsimp only at h1
       by_cases jd:oo=.no
       ·rw [X6 jd]at h1;cases h1
       ·rw [Xa jd]at h1;cases hfd:f ds s.2 with
        | none=>rw[hfd]at h1;cases h1
        | some ds'=>
         rw[hfd]at h1;obtain⟨y,b1,b2,b3,b4⟩:=m1.get hE;have hv:y.v=x0.v:=by rw[a4]at b4;exact(oq9 (oq9 b4)).symm
         obtain⟨l,xs,bs,c1,c2,c3,c4,c5⟩:=kq4 (w1.ok y (lc9 _ (xJ b1))) b3 (b2▸jd);have ex0:=hv▸c1;rw[ex0];have wT:=w1;have qh:=w1.head;have nd:=w1.nd;rw[jv,Xb]at nd;have oT:j5 [some x]=x.own:=by simp
         have fT:jx [some x]=x.frz:=by simp
         by_cases hd:oo=.dp/\kJ s=true
         ·rw[X6 hd]at h1;cases oq9 h1;have rn:=b2.trans hd.1;rw[rn]at c5;obtain⟨cs,r1,h3,h4,h5⟩:=wxy qh false λ_=>by rw[show x.sd=s from by simp[Sl.sd,e1,e2]];exact hd.2
          refine g l x.v xs ds ds' s.2 bs cs H1 false hfd c2 c5 (e2▸r1) λxs' es re he hn=>?_
          have ynd:(bs++cs).Nodup:=by
           have yo:y.own=l::bs:=by unfold Sl.own;rw[rn,c3]
           obtain⟨A,B,e,_⟩:=jzt b1;have q:=nd.2.1;rw[e,jQ,jv,Xb]at q;have q2:=(List.nodup_append.mp q.2.1).1;rw[yo]at q2;rw[Xb];refine⟨(List.nodup_cons.mp q2).2,h5 rfl nd.1,λa ha b hb i5=>?_⟩;subst i5;exact nd.2.2 a (h4 rfl a hb) a (mem_owned.mpr ⟨y,xJ b1,by rw[yo];exact lc9 _ ha⟩) rfl
          obtain⟨w3,s3⟩:=kx7 (o':=.dp) (ds':=ds') (xs':=xs') wT b1 c2 c3 c4 c1 re (.inr ⟨rfl,rn,hn ynd,λa ha=>(he a ha).imp id λz=>by rw[oT];exact h4 rfl a z⟩);refine k σ _ _ Pn.refl ?_ w3 (st.trans s3);have:=m1.set (x:=⟨.dp,.lst ds',y.v,l::es⟩) i;rw[Jj b4]at this;exact this
         ·rw[Xa hd]at h1;cases oq9 h1;have c6:RepA Z.K H1 true ds xs bs:=by
           cases hb:(y.o != .dp)with|true=>rw[hb]at c5;exact c5|false=>rw[hb]at c5;exact c5.wk
          refine g l x.v xs ds ds' s.2 bs x.as H1 true hfd c2 c6 (e2▸RepO.wk qh) λxs' es re he hn=>?_
          obtain⟨w3,s3⟩:=kx7 (o':=.rt) (ds':=ds') (xs':=xs') wT b1 c2 c3 c4 c1 re (.inl ⟨rfl,λa ha=>(he a ha).imp id λz=>by rw[oT,fT];exact Sl.as_of z⟩);refine k σ _ _ Pn.refl ?_ w3 (st.trans s3);have:=m1.set (x:=⟨.rt,.lst ds',y.v,l::es⟩) i;rw[Jj b4]at this;exact this
      |_=>cases h1
   |_=>rw[h0]at hc;cases hc
theorem wx3{i o ah aa pos}(hb:PE X (.Call (.Attribute o "append" ah) [e] [] aa) (tBM Z.K "list" qvc (xj i) (vqw (tQ Z q c) wwc)))(hs:autoParam (swapsWith (.Call (.Attribute o "append" ah) [e] [] aa) none pos.line X.env=pure false) Ŕ):
  QS X Z pn (wK wq i c) (.Expr (.Call (.Attribute o "append" ah) [e] [] aa) pos):=zq (kj4 hb hs) λD σ H aj=>ex7 aj λE L r m w hc k=>
 mut1 m w hc k λl x xs ds ds' d bs cs H1 gg hf hH ra rx fin=>by
  unfold wq at hf
  by_cases hl:ds.length<big
  ·rw[X6 hl]at hf;cases oq9 hf;exact⟨l,xs,x,rfl,rfl,hH,by rw[<-ra.len];exact hl,fin _ _ (RepA.snoc rx ra) (λa ha=>aA ha) λh=>h⟩
  ·rw[Xa hl]at hf;cases hf
end
section
variable {X:Cx}{Z:Fx0}{pn:List Nat}{q:Bool}{a b c:Ex}{tg e ea eb:Expr}{σ:L2.St}{H:Hp}{L:Ls}{E:En}{pos p:Pos}
theorem vzo{a7 H1 s1 x t R}(I1:L2.Inv X a7 σ H1 s1)(q:R (Its x) H1):wpAny (model X.prog X.w) X.A (pyIter (.str x t)) (PIE X a7 σ tg R) X.xe s1:=by
 have fp:∀b∈[s1.heap.objs.size],vj X a7 H1 b:=λb hb=>by
  have e:b=s1.heap.objs.size:=by simpa using hb
  subst e;exact I1.fpOk (X8 _) (I1.hok.fresh (X8 _))
 cases ha:x.cps.all _
 ·exact wpAny_pyIter_wide ha ⟨s1.heap.objs.size,[s1.heap.objs.size],_,_,H1,rfl,I1.kept (t':=s1.toks) λb o e=>X1 _ e,kzf (λA' hA=>PySem.Walks.strWide hA _ x t) (λ_ _ _ _ _ st h=>wpAny_pyIter_striter_wide st h) ⋯,⟨_,Xe _ rfl,rfl,rfl⟩,fp,q⟩
 ·exact wpAny_pyIter_ascii ha ⟨s1.heap.objs.size,[s1.heap.objs.size],_,_,H1,rfl,I1.kept (t':=s1.toks) λb o e=>X1 _ e,kzf (λA' hA=>PySem.Walks.strAscii hA _ x t) (λ_ _ _ _ _ st h=>wpAny_pyIter_striter_ascii st h) ⋯,⟨_,Xe _ rfl,rfl,rfl⟩,fp,q⟩
theorem wkp{K}{H} c:Sl.ok K H ⟨.no,.str ⟨#[c]⟩,.str ⟨#[c]⟩,[]⟩:=by
 show RepL K H true _ _ _;exact VZ (show 1<=sizeLine by decide)
theorem wko{K}{H} i:Sl.ok K H ⟨.no,.int i,.int i,[]⟩:=by
 show RepL K H true _ _ _;exact xZ
def iAny(K:Frag)(tl:TE):TI:=fun σ H R=>tl σ H λx H1=>(∃a xs,x=.ref a/\SqL K H1 a xs/\(xs.length<=sizeLine->R (Itl K a) H1))\/(∃a xs,x=.ref a/\SqT K H1 a xs/\(xs.length<=sizeLine->R (Itt K a) H1))\/∃z,x=.str z/\R (Its z) H1
theorem wk2{l tl}(hl:PE X l tl):PI X tg l (iAny X.K tl):=by
 intro a7 s σ H R I h;refine thn (hl a7 s σ H _ I h) λv s1 ⟨x,H1,I1,r1,q1⟩=>?_
 rcases q1 with⟨a,xs,rfl,hq,q⟩|⟨a,xs,rfl,hq,q⟩|⟨z,rfl,q⟩
 ·cases r1;obtain⟨a8,rv,p,hz⟩:=I1.list hq;refine Zd p.isList (⟨s1.heap.objs.size,[s1.heap.objs.size],_,_,H1,rfl,I1.kept (t':=s1.toks) λb o e=>X1 _ e,kv3 a _,⟨_,Xe _ rfl,rfl,rfl⟩,λb hb=>?_,q hz⟩);have e:b=s1.heap.objs.size:=by simpa using hb
  subst e;exact I1.fpOk (X8 _) (I1.hok.fresh (X8 _))
 ·cases r1;obtain⟨a8,rv,p,hz⟩:=I1.tuple hq;refine wpAny_pyIter_tuple (p) (⟨s1.heap.objs.size,[s1.heap.objs.size],_,_,H1,rfl,I1.kept (t':=s1.toks) λb o e=>X1 _ e,qk6 a _,⟨_,Xe _ rfl,rfl,rfl⟩,λb hb=>?_,q hz⟩);have e:b=s1.heap.objs.size:=by simpa using hb
  subst e;exact I1.fpOk (X8 _) (I1.hok.fresh (X8 _))
 ·obtain⟨t,rfl⟩:=r1;exact vzo I1 q
theorem jwz{K}{x:Sl}{es l}(hx:x.d=.lst es)(ev:x.v=.ref l):∀H2,x.let.ok K H2->∃ys cs,SqL K H2 l ys/\RepA K H2 true es ys cs/\∀b∈cs,b∈x.as:=λH2 hok=>by
 obtain⟨a',ys,cs,ev',q4,r4,h4,_⟩:=items hok (.inl hx);cases V.ref.inj (ev'.symm.trans ev);rcases q4 with⟨_,z⟩|⟨z,_⟩
 ·exact⟨ys,cs,z.sq,r4,h4⟩
 ·rw[show x.let.d=D.lst es from hx]at z;cases z
theorem qqn{K}{x:Sl}{es l}(hx:x.d=.tup es)(ev:x.v=.ref l):∀H2,x.let.ok K H2->∃ys cs,SqT K H2 l ys/\RepA K H2 true es ys cs/\∀b∈cs,b∈x.as:=λH2 hok=>by
 obtain⟨a',ys,cs,ev',q4,r4,h4,_⟩:=items hok (.inr hx);cases V.ref.inj (ev'.symm.trans ev);rcases q4 with⟨z,_⟩|⟨_,z⟩
 ·rw[show x.let.d=D.tup es from hx]at z;cases z
 ·exact⟨ys,cs,z,r4,h4⟩
theorem kza{K H1}{x:Sl}{L1}(w1:World K H1 (some x::L1))(st:Step H L H1 (some x::L1)):World K H1 (L1++[x.let].map some)/\Step H L H1 (L1++[x.let].map some):=by
 refine⟨World.comm (L:=[some x.let]) (w1.tail.consNo (zw w1.head) rfl λb hb=>w1.apart b hb),st.keep,λb hb=>?_,λb hb=>?_⟩
 ·have:b∈j5 L1:=by simpa [QZ]using hb
  exact st.own b (lr9 _ this)
 ·have:b∈jx L1\/b∈x.as:=by simpa [QZ]using hb
  rcases this with z|z
  ·exact st.frz b (by rw[k8];exact lr9 _ z)
  ·exact kkw st b z
abbrev ItS(S:Hp->List V->Prop):It:=⟨λi H=>∃xs x,S H xs/\xs[i]?=some x,λi H x H'=>H'=H/\∀xs,S H xs->xs[i]?=some x,λi H=>∃xs,S H xs/\xs.length<=i⟩
theorem kz9{K}{S:Hp->List V->Prop}{x:Sl}{es}(ag:∀H2,x.let.ok K H2->∃ys cs,S H2 ys/\RepA K H2 true es ys cs/\∀b∈cs,b∈x.as):Walks K (ItS S) [x.let] es:=by
 refine⟨λt ht=>by rw[aC ht];rfl,λi H2 hok hi=>?_,λH2 hok=>?_,λi H2 v H3 d hok hy gh=>?_⟩
 all_goals obtain⟨ys,cs,s1,s2,s3⟩:=ag H2 (hok _ (aB rfl))
 ·have hl:=s2.len;exact⟨ys,ys[i]'⋯,s1,X5 ⋯⟩
 ·exact⟨ys,s1,by rw[s2.len];exact X8 _⟩
 ·obtain⟨rfl,hy⟩:=hy;obtain⟨v',bp,f1,f2,f3⟩:=s2.get gh;have:=hy ys s1;rw[f1]at this;cases oq9 this;exact⟨⟨.no,d,v,bp⟩,rfl,rfl,rfl,x5,f2,λb hb=>⟨x.let,aB rfl,s3 b (f3 b hb)⟩⟩
theorem qX(h:QE X Z q c e)(hK:autoParam (X.K=Z.K) Ŕ):QI X Z q tg (itS c) e:=λa7 s σ H R I aj=>ex8 aj λE L r m w hc xc k=>by
 refine(hK▸wk2 h) a7 s σ H R I (Ww m w (show bnd (c E) _=some r from hc) xc λE1 s h1 x L1 H1 e1 e2 m1 w1 st sm=>?_);obtain⟨ds,hd,rfl⟩:=wj h1;have ok:=w1.head;obtain⟨wT,sT⟩:=kza w1 st;cases hx:x.d with
 | lst es=>
  rw[<-e2,hx]at hd;cases oq9 hd;obtain⟨a,_,_,ev,_⟩:=items ok (.inl hx);have ag:=jwz (K:=Z.K) hx ev;obtain⟨xs,bs,q3,r3,_⟩:=ag H1 (zw ok);exact .inl ⟨a,xs,ev,q3,λae=>k _ _ rfl (Itl Z.K a) [x.let] L1 H1 m1 wT sT (r3.len▸ae) (λhq=>(sm hq).1) (kz9 ag)⟩
 | tup es=>
  rw[<-e2,hx]at hd;cases oq9 hd;obtain⟨a,_,_,ev,_⟩:=items ok (.inr hx);have ag:=qqn (K:=Z.K) hx ev;obtain⟨xs,bs,q3,r3,_⟩:=ag H1 (zw ok);exact .inr (.inl ⟨a,xs,ev,q3,λae=>k _ _ rfl (Itt Z.K a) [x.let] L1 H1 m1 wT sT (r3.len▸ae) (λhq=>(sm hq).1) (kz9 ag)⟩)
 | str z=>
  rw[<-e2,hx]at hd;have hd:(if z.cps.size<=big then some (z.cps.toList.map λc=>D.str ⟨#[c]⟩)else none)=some ds:=hd
  split at hd
  ·rename_i hz;cases oq9 hd;refine .inr (.inr ⟨z,(wX ok hx).1,k _ _ rfl (Its z) [] L1 H1 m1 (by simpa using w1.tail) (by simpa using (st.trans Step.drop)) (by rw[X2,X7];exact hz) (λhq=>(sm hq).1) ⟨λt ht=>(nomatch ht),λi H2 _ hi=>?_,λH2 _=>?_,λi H2 v H3 d _ hy gh=>?_⟩⟩)
   ·show i<z.cps.size
    simp_all
   ·show(z.cps.toList.map λc=>D.str ⟨#[c]⟩).length=z.cps.size;simp
   ·obtain⟨e3,cc,hc,rfl⟩:=hy;subst e3;rw[Xn,Xr,hc]at gh;cases oq9 gh;exact⟨⟨.no,.str ⟨#[cc]⟩,.str ⟨#[cc]⟩,[]⟩,rfl,rfl,rfl,x5,wkp cc,λb hb=>(nomatch hb)⟩
  ·cases hd
 |_=>rw[<-e2,hx]at hd;cases hd
theorem qk3{K}(lo hi):Walks K (Itr lo (hi - lo).toNat) [] (jZ lo hi):=by
 have hl:(jZ lo hi).length=(hi - lo).toNat:=by simp[jZ]
 refine⟨λt ht=>(nomatch ht),λi H _ ni=>by rw[hl]at ni;exact ni,λH _=>by rw[hl];exact X8 _,λi H v H' d _ hy hd=>?_⟩;obtain⟨e,rfl⟩:=hy;subst e;unfold jZ at hd;rw[Xn]at hd;cases hr:(List.range (hi - lo).toNat)[i]? with
 | none=>simp_all
 | some j=>
  rw[hr]at hd;have:j=i:=by
   obtain⟨_,h2⟩:=List.getElem?_eq_some_iff.mp hr
   simpa using h2.symm
  subst this;cases oq9 hd;exact⟨_,rfl,rfl,rfl,x5,wko _,λb hb=>(nomatch hb)⟩
theorem jxf{i}(h:vX i=true):-(2 ^ 62)<=i/\i<2 ^ 62:=by
 unfold vX at h
 simpa using h
theorem KW(ha:QV X Z q a ea)(hg:Gl X "range")(hm:X.mg "range"=none)(bw:autoParam (starEach [ea] X.env=[(false,eval ea X.env)]) Ŕ):QI X Z q tg (xv a) (.Call (.Name "range" p) [ea] [] pos):=λa7 s σ H R I aj=>ex8 aj λE L r m w hc xc k=>by
 refine(qvq hg hm (qW ha v8 bw) bw) a7 s σ H R I (kX m w (hc) xc λE1 s h1 x L1 H1 e1 e2 m1 w1 ok fr sr st sm=>?_);cases hx:s.2 with
 | int j=>
  rw[hx]at h1;dsimp only at h1
  split at h1
  ·rename_i hj;cases oq9 h1;obtain⟨j1,j2⟩:=jxf hj.1;refine⟨j,by rw[(kz ok (e2.trans hx))],j1,j2,?_⟩;have wk:=qk3 (K:=Z.K) 0 j;rw[Int.sub_zero]at wk;exact k _ _ rfl _ [] L1 H1 m1 (by simp_all) (by simp_all) (by simp only[jZ,X2,Xv,Int.sub_zero];exact hj.2) sm wk
  ·cases h1
 |_=>simp_all
theorem Mt.clr:∀{R E L},Mt E σ L->Mt (Q.clr R E) σ (Q.clr R L)
 | [],_,_,m=>m
 | j::R,E,L,m=>by
  have un:∀{E σ} {L} j,Mt E σ L->Mt (E.set j none) σ (L.set j none):=by
   intro E σ L j m
   induction m generalizing j with
   |nil=>exact .nil
   |un m ih=>cases j with|zero=>exact .un m|succ j=>exact .un (ih j)
   |cons m ih=>cases j with|zero=>exact .un m|succ j=>exact .cons (ih j)
  show Mt (Q.clr R _) σ _;exact Mt.clr (un j m)
theorem Mt.drop:∀{E σ L} (k),Mt E σ L->Mt (E.drop k) (σ.drop k) (L.drop k)
 |_,_,_,0,m=>m|_,_,_,k+1,.nil=>.nil|_,_,_,k+1,.un m=>m.drop k|_,_,_,k+1,.cons m=>m.drop k
theorem Mt.none_at:∀{E σ L} {j:Nat},Mt E σ L->E[j]?=some none->L[j]?=some none
 |_,_,_,_,.nil,h=>by simp_all|_,_,_,0,.un _,_=>by simp|_,_,_,j+1,.un m,h=>by simpa using m.none_at (j:=j) (by simpa using h)|_,_,_,j+1,.cons m,h=>by simpa using m.none_at (by simpa using h)
theorem Mt.pick:∀{R:List Nat},Mt E σ L->Mt (R.map (at' E)) (R.map (at' σ)) (R.map (at' L))
 | [],_=>.nil
 | j::R,m=>by
  rw[List.map_cons,List.map_cons,List.map_cons];cases hE:E[j]? with
  | none=>
   have hl:=m.len;have:L[j]?=none:=by rw[List.getElem?_eq_none_iff]at hE ⊢;lia
   rw[show at' E j=none from by unfold at';rw[hE];rfl,show at' L j=none from by unfold at';rw[this];rfl];exact .un m.pick
  | some s=>
   cases s with
   |none=>
    have:L[j]?=some none:=m.none_at hE;rw[show at' E j=none from by unfold at';rw[hE];rfl,show at' L j=none from by unfold at';rw[this];rfl];exact .un m.pick
   |some s=>
    obtain⟨x,h1,h2,h3,h4⟩:=m.get hE;rw[show at' E j=some (x.o,x.d)from by unfold at';rw[hE,h2,h3];rfl,show at' L j=some x from by unfold at';rw[h1];rfl,show at' σ j=some x.v from by unfold at';rw[h4];rfl];exact .cons m.pick
theorem Mt.rep:∀{k},Mt E σ L->Mt (List.replicate k none++E) (List.replicate k none++σ) (List.replicate k none++L)
 |0,m=>by simp_all
 |k+1,m=>by
  exact .un m.rep
theorem Mt.back:∀{R B τ M E L},Mt E σ L->Mt B τ M->(∀(i j:Nat) (v),R[i]?=some j->τ[i]?=some (some v)->σ[j]?=some (some v))->Mt (Q.back R B E) σ (Q.back R M L)
 | [],B,τ,M,E,L,m,_,_=>by simpa [Q.back]using m| j::R,_,_,_,E,L,m,.nil,_=>by simpa [Q.back]using m
 | j::R,_,_,_,E,L,m,.un mB,h=>by
  have un:∀{E σ} {L} j,Mt E σ L->Mt (E.set j none) σ (L.set j none):=by
   intro E σ L j m
   induction m generalizing j with
   |nil=>exact .nil
   |un m ih=>cases j with|zero=>exact .un m|succ j=>exact .un (ih j)
   |cons m ih=>cases j with|zero=>exact .un m|succ j=>exact .cons (ih j)
  show Mt _ σ (Q.back R _ _);exact Mt.back (un j m) mB λi jj v e1 e2=>h (i+1) jj v (by simpa using e1) (by simpa using e2)
 |j::R,_,_,_,E,L,m,.cons (x:=x) mB,h=>by
  have m1:=m.set (x:=x) j;rw[Jj (h 0 j x.v (by simp) (by simp))]at m1;show Mt _ σ (Q.back R _ _);exact Mt.back m1 mB λi jj v e1 e2=>h (i+1) jj v (by simpa using e1) (by simpa using e2)
section
variable {am dz:Expr}{dk:List Expr}{scope:Scope}{N:List Str}{k:Nat}{R:List Nat}{it:Ev (List D)}{tt:Tg}{u:Ts}{o:Own}{q1 q2:Bool}
theorem vwj:Jq k R σ=List.replicate k none++R.map (at' σ):=rfl
theorem wxp{K M}(hR:R.Nodup)(w:World K H (L++M)):World K H ((List.replicate k none++R.map (at' L))++(Q.clr R L++M))/\Step H (L++M) H ((List.replicate k none++R.map (at' L))++(Q.clr R L++M)):=by
 have p:(sls (L++M)).Perm (sls ((List.replicate k none++R.map (at' L))++(Q.clr R L++M))):=by
  have:=qjx (L:=L) hR;rw[QQ]at this;simp;rw[<-Yb];exact(this.append_right _).symm
 exact⟨w.same p,Step.refl.same (List.Perm.refl _) p⟩
theorem wkv{K B M H2}(hR:R.Nodup)(hr:∀j∈R,j<L.length)(hB:B.length=k+R.length)(w:World K H2 (B++(Q.clr R L++M))):World K H2 (Q.back R (B.drop k) (Q.clr R L)++M)/\Step H2 (B++(Q.clr R L++M)) H2 (Q.back R (B.drop k) (Q.clr R L)++M):=by
 have p2:(sls (Q.back R (B.drop k) (Q.clr R L)++M)).Perm (sls (B.drop k++(Q.clr R L++M))):=by
  rw[QQ,<-Yb,QQ _];exact(kwu (B:=B.drop k) hR (λj hj=>qxn hj) (λj hj=>by rw[qxm];exact hr j hj) (by simp_all)).append_right _
 have sub:(sls (B.drop k++(Q.clr R L++M))).Sublist (sls (B++(Q.clr R L++M))):=by
  rw[QQ,QQ B];exact List.Sublist.append ((List.drop_sublist k B).filterMap _) (List.Sublist.refl _)
 exact⟨(w.sub sub).same p2.symm,(Step.refl.sub sub).same (List.Perm.refl _) p2.symm⟩
theorem jzx:∀{is es E E'},setAll is es E=some E'->E'.length=E.length
 |[],[],_,_,h=>by cases oq9 h;rfl|_::_,[],_,_,h=>by cases h|i::is,d::es,E,E',h=>by rw[jzx (E:=E.set i _) h,Z0]
theorem vvh{t:Tg}{d E E'}(h:t.put d E=some E'):E'.length=E.length:=by
 cases t with
 |n i=>cases oq9 h;rw[Z0]
 |t is=>
  cases d with|tup es=>exact jzx (h)|lst es=>exact jzx (h)|_=>cases h
theorem qwl{nN Q}(hσ:σ.length=nN)(hR:R.Nodup)(hr:∀j∈R,j<nN)(h:tQ Z q (cLC o k R it tt u c) σ H Q):tLC (tIS Z q it) (tG Z ((List.range R.length).map (k + ·)) tt) (tT Z q u) (tQ Z q c) k R σ H Q:=by
 obtain⟨E,L,r,m,w,bj,xc,kk⟩:=h;have bj:bnd (it E) (λE ds=>match lcL tt u c ds (Vz k R E) []with
  | some (.ok B xs)=>mkL o (JV k R B E) xs| some (.exc B e)=>some (.exc (JV k R B E) e)
  | none=>none)=some r:=bj
 rcases vK bj with⟨E1,ds,h1,h2⟩|⟨E1,cc,h1,h2⟩
 rotate_left
 ·exact⟨E,L,_,m,w,h1,xc.map h2,λE' s' z=>by cases z⟩
 refine⟨E,L,_,m,w,h1,(λ_ _ z=>by cases z),λE' ds' z J T L1 H1 m1 w1 st hz sm wk=>?_⟩;injection z with z1 z2;subst z1 z2;have hL1:∀j∈R,j<L1.length:=λj hj=>by have:=m1.len;have:=hr j hj;lia
 obtain⟨wB,sB⟩:=wxp (k:=k) hR w1;cases hrB:lcL tt u c ds (Vz k R E1) []with
 | none=>simp_all
 | some rB=>
  rw [hrB]at h2;have okT:∀{H2 A B},World Z.K H2 (A++(B++(_root_.Q.clr R L1++T.map some)))->∀t∈T,t.ok Z.K H2:=λw2 t ht=>w2.ok t (lr9 _ (lr9 _ (lr9 _ (Xp ht))))
  have mB0:Mt (Vz k R E1) (Jq k R σ) (List.replicate k none++R.map (at' L1)):=(m1.pick (R:=R)).rep;have t8:∀{B LB τ H2 A},Mt B τ LB->τ.length=k+R.length->Pn ((List.range R.length).map (k + ·)) (Jq k R σ) τ->World Z.K H2 (LB++(A++(_root_.Q.clr R L1++T.map some))) ->
    Mt (JV k R B E1) σ (_root_.Q.back R (LB.drop k) (_root_.Q.clr R L1))/\World Z.K H2 (A++_root_.Q.back R (LB.drop k) (_root_.Q.clr R L1))/\Step H2 (LB++(A++(_root_.Q.clr R L1++T.map some))) H2 (A++_root_.Q.back R (LB.drop k) (_root_.Q.clr R L1)):=fun {B LB τ H2 A} mB lB pB wB2=>by
   have hl:LB.length=k+R.length:=by rw[mB.len.2];exact lB
   have pm:(LB++(A++(_root_.Q.clr R L1++T.map some))).Perm (LB++(_root_.Q.clr R L1++(A++T.map some))):=by
    refine List.Perm.append_left _ ?_;rw [<-Yb,<-Yb];exact List.Perm.append_right _ List.perm_append_comm
   obtain⟨w3,s3⟩:=wkv (k:=k) hR hL1 hl (wB2.perm pm);have pm2:(_root_.Q.back R (LB.drop k) (_root_.Q.clr R L1)++(A++T.map some)).Perm ((A++_root_.Q.back R (LB.drop k) (_root_.Q.clr R L1))++T.map some):=by
    rw [<-Yb];exact List.Perm.append_right _ List.perm_append_comm
   refine⟨?_,(w3.perm pm2).left,(s3.perm pm.symm pm2).trans Step.dropT⟩;refine Mt.back (m1.clr) (mB.drop k) λi j v e1 e2=>?_
   have hi:i<R.length:=(List.getElem?_eq_some_iff.mp e1).1;have e3:=pB (k+i) (List.mem_map.mpr ⟨i,List.mem_range.mpr hi,rfl⟩);rw [List.getElem?_drop,e3,vwj,List.getElem?_append_right (by simp),Z9,show k+i - k=i from by lia,Xn,e1]at e2;have e4:at' σ j=some v:=by simpa using e2
   unfold at' at e4;cases hh:σ[j]? with| none=>simp_all| some s=>simp_all
  refine⟨λi n ys τ H2=>∃(B:En) (LB:Ls) (ac:List Sl),Mt B τ LB/\τ.length=k+R.length/\Pn ((List.range R.length).map (k + ·)) (Jq k R σ) τ/\World Z.K H2 (LB++(ac.map some++(_root_.Q.clr R L1++T.map some)))/\Step H L H2 (LB++(ac.map some++(_root_.Q.clr R L1++T.map some))) /\
   ys=ac.map Sl.v/\lcL tt u c (ds.drop i) B (ac.map Sl.sd)=some rB/\i<=ds.length/\ac.length<=i/\n=ds.length - i/\(q=true->jJ H H2/\∀b∈j5 (ac.map some),H b=none),⟨_,Vz k R E1,_,[],mB0,by simp[Jq],Pn.refl,wB,st.trans sB,rfl,hrB,Y8 _,Y8 _,rfl,λhq=>⟨sm hq,λ_ z=>(nomatch z)⟩⟩,?_⟩
  rintro i n ys τ H2 ⟨B,LB,ac,mB,lB,pB,wB2,sB2,rfl,f1,hi,dh,rfl,smB⟩
  by_cases bh:i<ds.length
  rotate_left
  ·have e:i=ds.length:=⋯
   subst e;rw [List.drop_length]at f1;cases oq9 f1;obtain⟨m3,w3,s3⟩:=t8 mB lB pB wB2;refine .inl ⟨wk.stop H2 (okT wB2) (λhq=>(smB hq).1),by rw[X2];lia,?_⟩;exact qjd (σ:=σ) (Q:=Q) (o:=o) (xs:=ac) h2 rfl w3 (sB2.trans s3) smB kk m3
  ·have hd:ds.drop i=ds[i]::ds.drop (i+1):=Z2 bh;rw [hd]at f1;unfold lcL at f1;cases b6:tt.put ds[i] B with
   | none=>rw[b6]at f1;cases f1
   | some B2=>
    rw [b6]at f1;dsimp only at f1;refine .inr ⟨wk.go i H2 (okT wB2) (λhq=>(smB hq).1) bh,λv H3 hy=>?_⟩;obtain⟨z,zo,zd,zv,smz,qy,zas⟩:=wk.yld i H2 v H3 ds[i] (okT wB2) (λhq=>(smB hq).1) hy (X5 bh);have pm:(LB++(ac.map some++(_root_.Q.clr R L1++T.map some))).Perm ((LB++(ac.map some++_root_.Q.clr R L1))++T.map some):=by
     rw[<-Yb (ac.map some),<-Yb]
    obtain⟨wz,sz⟩:=kke (wB2.perm pm) wk.no smz qy zo zas;have wz':World Z.K H3 ((some z::LB)++(ac.map some++(_root_.Q.clr R L1++T.map some))):=wz.perm (by
     rw[List.cons_append,List.cons_append];exact List.Perm.cons _ pm.symm)
    have sz':Step H2 (LB++(ac.map some++(_root_.Q.clr R L1++T.map some))) H3 ((some z::LB)++(ac.map some++(_root_.Q.clr R L1++T.map some))):=sz.perm pm.symm (by
     rw[List.cons_append,List.cons_append];exact List.Perm.cons _ pm.symm)
    refine⟨B,LB,z,B2,mB,wz'.left,zo,zv,by rw[zd];exact b6,fun τ2 LB2 p2 mB2 wB3 sB3=>?_⟩;obtain⟨w4,s4⟩:=stay wz' sB3 wB3;have lB2:τ2.length=k+R.length:=by
     have h1:=mB2.len.1;have h2:=mB.len.1;have h3:=vvh b6;lia
    have p3:=pB.trans p2;have t6:Step H L H3 (LB2++(ac.map some++(_root_.Q.clr R L1++T.map some))):=sB2.trans (sz'.trans s4);have gw:q=true->jJ H H3/\∀b∈j5 (ac.map some),H b=none:=λhq=>⟨jY (smB hq).1 smz,(smB hq).2⟩
    refine⟨λy H5=>∃(B:En) (LB:Ls) (bz:List Sl),Mt B τ2 LB/\World Z.K H5 (LB++(bz.map some++(_root_.Q.clr R L1++T.map some)))/\Step H L H5 (LB++(bz.map some++(_root_.Q.clr R L1++T.map some)))/\ac.map Sl.v++[y]=bz.map Sl.v/\bz.length=ac.length+1/\lcL tt u c (ds.drop (i+1)) B (bz.map Sl.sd)=some rB/\(q=true->jJ H H5/\∀b∈j5 (bz.map some),H b=none),
     λH5=>∃B LB,Mt B τ2 LB/\World Z.K H5 (LB++(ac.map some++(_root_.Q.clr R L1++T.map some)))/\Step H L H5 (LB++(ac.map some++(_root_.Q.clr R L1++T.map some)))/\lcL tt u c (ds.drop (i+1)) B (ac.map Sl.sd)=some rB/\(q=true->jJ H H5/\∀b∈j5 (ac.map some),H b=none),
     λy H5 ⟨B5,LB5,acc5,c1,c2,c3,c4,c5,c6,c7⟩=>⟨by rw[X2];lia,ds.length - (i+1),⋯,B5,LB5,acc5,c1,lB2,p3,c2,c3,c4,c6,bh,⋯,rfl,c7⟩,
     λH5 ⟨B5,LB5,c1,c2,c3,c6,c7⟩=>⟨ds.length - (i+1),⋯,B5,LB5,ac,c1,lB2,p3,c2,c3,rfl,c6,bh,⋯,rfl,c7⟩,?_⟩
    have xcB:∀{α H6 L6 B6} {cc:Str} {A:Ls},rB=.exc B6 cc->World Z.K H6 (L6++(A++(_root_.Q.clr R L1++T.map some)))->Step H L H6 (L6++(A++(_root_.Q.clr R L1++T.map some)))->Xc Z τ2 H6 L6 (.exc B6 cc:Res α):=fun {α H6 L6 B6 cc A} er w6 s6 E7 c7 e7 C L7 H7 hm m7 w7 s7=>by
     injection e7 with e8 e9;subst e8 e9;subst er;cases oq9 h2;obtain⟨w8,s8⟩:=stay w6 s7 w7;obtain⟨m9,w9,s9⟩:=t8 m7 lB2 p3 w8;exact xc _ _ rfl C _ H7 hm m9 w9.right ((s6.trans (s8.trans s9)).trans ⟨λ_ _ h _=>h,λa ha=>.inl (by rw[jQ];exact lr9 _ ha),λa ha=>.inl (by rw[k9];exact lr9 _ ha)⟩)
    rcases vK f1 with⟨B4,kb,g1,g2⟩|⟨B4,cc,g1,g2⟩
    rotate_left
    ·exact⟨B2,LB2,_,mB2,wB3,g1,xcB g2 w4 t6,λE' s' z=>by cases z⟩
    refine⟨B2,LB2,_,mB2,wB3,g1,(λ_ _ z=>by cases z),λE' s' z LB4 H4 mB4 wB4 sB4 sm4=>?_⟩;injection z with z1 z2;subst z1 z2;obtain⟨w5,s5⟩:=stay w4 sB4 wB4;have jo:=t6.trans s5;cases kb with
    | false=>
     rw[Xa ⋯]at g2 ⊢;exact⟨B4,LB4,mB4,w5,jo,g2,λhq=>⟨jY (gw hq).1 (sm4 hq),(gw hq).2⟩⟩
    | true=>
     rw[X6 rfl]at g2 ⊢;rcases vK g2 with⟨B6,y,g3,g4⟩|⟨B6,cc,g3,g4⟩
     rotate_left
     ·exact⟨B4,LB4,_,mB4,wB4,g3,xcB g4 w5 jo,λE' s' z=>by cases z⟩
     refine⟨B4,LB4,_,mB4,wB4,g3,(λ_ _ z=>by cases z),λE' s' z x LB6 H6 ex ey mB6 wB6 sB6 sm6=>?_⟩;injection z with z1 z2;subst z1 z2;obtain⟨w7,s7⟩:=stay w5 sB6 wB6;have pm3:((some x::LB6)++(ac.map some++(_root_.Q.clr R L1++T.map some))).Perm (LB6++((ac++[x]).map some++(_root_.Q.clr R L1++T.map some))):=by
      rw[Xl,List.cons_append];have:(LB6++(ac.map some++[x].map some++(_root_.Q.clr R L1++T.map some)))=(LB6++ac.map some)++some x::(_root_.Q.clr R L1++T.map some):=by simp
      rw[this];refine List.Perm.trans ?_ List.perm_middle.symm;rw[Yb]
     refine⟨B6,LB6,ac++[x],mB6,w7.perm pm3,(jo.trans s7).perm (List.Perm.refl _) pm3,by simp,by simp,?_,λhq=>⟨jY (gw hq).1 (jY (sm4 hq) (sm6 hq).1),λb hb=>?_⟩⟩
     ·rw[Xl,show[x].map Sl.sd=[y]from by simp[Sl.sd,ex,ey]];exact g4
     ·rw[Xl,jQ]at hb;rcases aA hb with hb|hb
      ·exact(gw hq).2 b hb
      ·have hb:b∈x.own:=by simpa using hb
       exact z9 (jY (gw hq).1 (sm4 hq)) ((sm6 hq).2 b hb)
theorem xj1(N:List Str)(hi:QI X Z q tg it am)
  (hg:∀cl C s0 H0 fp,QG (lcE X scope N cl C s0 H0 fp Z.EX) Z ((List.range R.length).map (k + ·)) tt tg) (ht:∀cl C s0 H0 fp,PTs (lcE X scope N cl C s0 H0 fp Z.EX) dk (tT Z q u)) (he:∀cl C s0 H0 fp,QE (lcE X scope N cl C s0 H0 fp Z.EX) Z q c dz)
  (gx:x6 X Z.EX) (top:Jv X) (hR:R.Nodup) (hr:∀j∈R,j<X.N.length) (hc:autoParam (X.calm=true) Ŕ) (hk:autoParam (scope.kind=.function) Ŕ) (jh:autoParam (Qk X.N X.env.scope scope N k R=true) Ŕ) (hs:autoParam (∀x,foldedSetIterable am X.env x=pure x) Ŗ):
  QE X Z q (cLC o k R it tt u c) (.ListComp dz [⟨tg,am,dk,0⟩] scope pos):=λa7 s σ H Q I hw=>
 wk9 (EX:=Z.EX) N k R (wzz hi) hg ht he gx top hc hk jh hs a7 s σ H Q I (qwl I.len hR hr hw)
theorem qvl{EX:XK}{wi:TI}{g:TG}{tte:TT}{te:TE}{i:Nat}{y:Str}{py c9:Pos}(N:List Str)(k:Nat)(R:List Nat)(hN:X.N.Nodup)(hy:X.N[i]?=some y)(hx:Loc X.env.scope y)(hi:PI X tg am wi)
  (hg:∀cl C s0 H0 fp,PG (lcE X scope N cl C s0 H0 fp EX) tg g) (ht:∀cl C s0 H0 fp,PTs (lcE X scope N cl C s0 H0 fp EX) dk tte) (he:∀cl C s0 H0 fp,PE (lcE X scope N cl C s0 H0 fp EX) dz te) (gx:x6 X EX) (top:Jv X)
  (i7:autoParam (swapsWith (.ListComp dz [⟨tg,am,dk,0⟩] scope pos) (some (.Name y py)) c9.line X.env=pure true) Ŕ)
  (hc:autoParam (X.calm=true) Ŕ) (hk:autoParam (scope.kind=.function) Ŕ) (jh:autoParam (Qk X.N X.env.scope scope N k R=true) Ŕ) (hs:autoParam (∀x,foldedSetIterable am X.env x=pure x) Ŗ)
  (hf:autoParam (X.fn y=true\/X.env.scope.names.lookup y=some .local) ś):
  PS X (.Assign [.Name y py] (.ListComp dz [⟨tg,am,dk,0⟩] scope pos) c9) (λD σ H=>tLC wi g tte te k R σ H λv H1=>D.nx (σ.set i (some v)) H1):=by
 intro a7 s σ H D I h;have sc:=qjh hk jh;obtain⟨cl,ju,cz,bo⟩:=kkk (scope:=scope) (env:=X.env) λy hy e=>I.ok.has y.1 (sc.caps y hy e)
 rw[exec_Assign_Name_used _ _ _ _ i7];refine X0 (wpAny_standAt (X0 ?_));show wpAny _ X.A (do let _ <-comprehension (.ListComp dz [⟨tg,am,dk,0⟩] scope pos) scope X.env _ (newList []) false (eval am X.env) (some (assign (.Name y py) X.env))) _ _ s;refine X0 (thn (wpAny_comprehension_free (use:=some (assign (.Name y py) X.env)) (Q:=λ_ s'=>SP X a7 D .next s') rfl hs ju sc.kind sc.names
  (thn (hi a7 s σ H _ I h) λv s1 h1=>thn h1 λitv s2 h2=>?_)) λ_ s' hq=>X3 (X3 hq))
 obtain⟨it,fp,tn,J,H2,e,I2,T,b8,f2,W,w0,fy⟩:=h2;subst e;refine kvz (EX:=EX) (RR:=λac C=>compPost (model X.prog X.w) X.A X.xe (some (assign (.Name y py) X.env)) (λ_ s'=>SP X a7 D .next s') ac C) hc top sc cz bo (hg cl) (ht cl) (he cl) I2 T b8 f2 w0 fy ?_ ?_
 rotate_left
 ·intro D' C s' cb σ' H' x T Cc fl hC t q;exact vq0 gx I2 f2 hC t q
 intro L C oC m ys H' s' I' eC nC fC q;show wpAny _ X.A (assign (.Name y py) X.env (.ref L)) _ _ s';refine wpAny_assign_Name (kkv I' hN hy hx (v:=.ref L) rfl (λjm I''=>?_) hf);have pC:=I''.pin (C,oC) (lr9 _ (lr9 _ (aB rfl)));refine⟨m,nC.at' λo e=>?_,λh' sb=>⟨_,_,I''.unpinned.turned (it:=C) (t':=jm.toks) (λb o hb e=>(sb.2 b hb).trans e) fC.1 fC.2.1 fC.2.2.2.1 fC.2.2.2.2.1 fC.2.2.2.2.2,q⟩⟩;rw[eC]at e;cases e;exact pC.1
theorem vvc{i:Nat}{y:Str}{py c9:Pos}(N:List Str)(hN:X.N.Nodup)(hy:X.N[i]?=some y)(hx:Loc X.env.scope y)(hi:QI X Z q tg it am)
  (hg:∀cl C s0 H0 fp,QG (lcE X scope N cl C s0 H0 fp Z.EX) Z ((List.range R.length).map (k + ·)) tt tg) (ht:∀cl C s0 H0 fp,PTs (lcE X scope N cl C s0 H0 fp Z.EX) dk (tT Z q u)) (he:∀cl C s0 H0 fp,QE (lcE X scope N cl C s0 H0 fp Z.EX) Z q c dz)
  (gx:x6 X Z.EX) (top:Jv X) (hR:R.Nodup) (hr:∀j∈R,j<X.N.length) (hp:autoParam (i∉pn) ŕ)
  (i7:autoParam (swapsWith (.ListComp dz [⟨tg,am,dk,0⟩] scope pos) (some (.Name y py)) c9.line X.env=pure true) Ŕ)
  (hc:autoParam (X.calm=true) Ŕ) (hk:autoParam (scope.kind=.function) Ŕ) (jh:autoParam (Qk X.N X.env.scope scope N k R=true) Ŕ) (hs:autoParam (∀x,foldedSetIterable am X.env x=pure x) Ŗ)
  (hf:autoParam (X.fn y=true\/X.env.scope.names.lookup y=some .local) ś):
  QS X Z pn (jV i (cLC o k R it tt u c)) (.Assign [.Name y py] (.ListComp dz [⟨tg,am,dk,0⟩] scope pos) c9):=
 wjo (q:=q) hp λa7 s σ H D I hw=>qvl N k R hN hy hx (wzz hi) hg ht he gx top i7 hc hk jh hs hf a7 s σ H D I (qwl I.len hR hr hw)
end
end
section
variable {X:Cx}{Z:Fx0}{K:Frag}{pn:List Nat}{q qa qb:Bool}{a b c:Ex}{u:Ts}{tg e ea eb:Expr}{σ:L2.St}{H:Hp}{L:Ls}{E:En}{pos p:Pos}{x:Str}{id T:String}{r:List V->Hp->VK->Prop}{f:Sd->Option Sd}{g:Sd->Sd->Option Sd}
theorem Qz:PTs X [] (tT Z q _root_.Q.tYes):=λa7 s σ H Q I aj=>ex8 aj λE L r m w hc xc k=>by
 cases oq9 hc;exact vvk a7 s σ H Q I (k _ _ rfl L H m w Step.refl λ_=>x5)
theorem wwt(h:QT X Z q u e):PTs X [e] (tT Z q u):=vvj h
theorem YJ(hc:CallR X (.builtin id) r)(ad:Ad1 Z.K (λv H Q=>r [v] H Q) f)(ha:QV X Z q a ea)(hm:X.mg x=none)(hv:bootBuiltins x=some (.builtin id))(hg:autoParam (Gl X x) Ŕ)(hn:autoParam (x≠"__name__") ŕ)(fh:autoParam ((x==("__debug__":Str))=false) ŕ)
  (he:autoParam (starEach [ea] X.env=(false,eval ea X.env)::starEach [] X.env) Ŕ) (bn:autoParam ((backTo pos (starEach [] X.env)).any (·.1)=false) Ŕ):QE X Z q (cF1 f a) (.Call (.Name x p) [ea] [] pos):=
 k7 (qj4 hc hg hm hv (qW ha v8 he) hn fh he bn) fun σ H Q h=>jxb ad h
theorem wjc(hc:CallR X (.type T) r)(ad:Ad1 Z.K (λv H Q=>r [v] H Q) f)(ha:QV X Z q a ea)(hm:X.mg x=none)(hv:bootBuiltins x=some (.type T))(hg:autoParam (Gl X x) Ŕ)(hn:autoParam (x≠"__name__") ŕ)(fh:autoParam ((x==("__debug__":Str))=false) ŕ)
  (he:autoParam (starEach [ea] X.env=(false,eval ea X.env)::starEach [] X.env) Ŕ) (bn:autoParam ((backTo pos (starEach [] X.env)).any (·.1)=false) Ŕ):QE X Z q (cF1 f a) (.Call (.Name x p) [ea] [] pos):=
 k7 (qvt hc hg hm hv (qW ha v8 he) hn fh he bn) fun σ H Q h=>jxb ad h
theorem wvi:Ad1 K (λv H Q=>qv8 K [v] H Q) (pu1 qz):=by
 intro H x s Q ok hf k;unfold pu1 at hf;have fin:∀n,qz x.d=some (.int n)->Q (.int n) H:=λn e=>by
  rw[e]at hf;cases oq9 hf;exact k _ H rfl rfl Wx
 cases hx:x.d with
 |lst ds=>
  obtain⟨l,xs,bs,e,q,r,_⟩:=items ok (.inl hx);refine .inl ⟨l,xs,by rw[e],?_,by rw[<-r.len];exact fin ds.length (by rw[hx];rfl)⟩;rcases q with⟨_,z⟩|⟨_,z⟩
  ·exact .inl (x9 z)
  ·exact .inr z
 |tup ds=>
  obtain⟨l,xs,bs,e,q,r,_⟩:=items ok (.inr hx);refine .inl ⟨l,xs,by rw[e],?_,by rw[<-r.len];exact fin ds.length (by rw[hx];rfl)⟩;rcases q with⟨_,z⟩|⟨_,z⟩
  ·exact .inl (x9 z)
  ·exact .inr z
 |str z=>
  obtain⟨e,hz⟩:=wX ok hx;exact .inr (.inl ⟨z,by rw[e],hz,fin z.length (by rw[hx];rfl)⟩)
 |_=>rw[hx]at hf;cases hf
def wj6(K:Frag):List V->Hp->VK->Prop:=λxs H Q=>wzv K xs H Q\/(∃p ys U,xs=[.ref p,.ty U]/\SqT K H p ys/\U∈kinds.tail/\Q (.bl (ZX "tuple" U)) H)\/∃p ys U,xs=[.ref p,.ty U]/\SqL K H p ys/\U∈kinds.tail/\Q (.bl (ZX "list" U)) H
theorem qxs(hK:autoParam (X.K=K) Ŕ):CallR X (.builtin "isinstance") (wj6 K):=by
 subst hK;intro a7 s σ H xs us Q I r h;rcases h with h|⟨p,ys,U,rfl,hq,hU,q⟩|⟨p,ys,U,rfl,hq,hU,q⟩
 ·exact vk4 a7 s σ H xs us Q I r h
 ·obtain⟨u,w',rfl,r1,r2⟩:=qzh r;cases(show w'=Value.type U from r2);cases r1;obtain⟨a8,_,⟨o,h1,h2,_⟩,_⟩:=I.tuple hq;exact Ye PySem.W.kitx_tuple I.kIn ⟨o,h1,h2⟩ (kxs ⋯ hU) (λz=>nomatch z) λtk=>⟨.bl _,H,I.tok _,rfl,q⟩
 ·obtain⟨u,w',rfl,r1,r2⟩:=qzh r;cases(show w'=Value.type U from r2);cases r1;obtain⟨a8,_,⟨o,n,h1,h2,_⟩,_⟩:=I.list hq;exact Ye PySem.W.kitx_list I.kIn ⟨o,h1,h2⟩ (kxs ⋯ hU) (λz=>nomatch z) λtk=>⟨.bl _,H,I.tok _,rfl,q⟩
theorem wvj{U}(hU:U∈kinds.tail):Ad1 K (λv H Q=>wj6 K [v,.ty U] H Q) (pu1 (kW U)):=by
 intro H x s Q ok hf k;unfold pu1 kW at hf;have fin:∀T,kind x.d=T->(∀c f,x.d≠.obj c f)->Q (.bl (ZX T U)) H:=λT e ho=>by
  cases hx:x.d with
  |obj c f=>exact absurd hx (ho c f)|dct a9=>simp_all
  |_=>
   rw[hx]at hf;cases oq9 hf;rw[<-e,hx];exact k _ H rfl rfl wJ
 cases hx:x.d with
 |non=>exact .inl ⟨x.v,"NoneType",U,rfl,by rw[vkv ok hx];exact .non,⋯,hU,fin _ (by rw[hx];rfl) (by simp_all)⟩|bl k=>exact .inl ⟨x.v,"bool",U,rfl,by rw[qvz ok hx];exact .bl _,⋯,hU,fin _ (by rw[hx];rfl) (hx▸λ_ _ z=>nomatch z)⟩|int k=>exact .inl ⟨x.v,"int",U,rfl,by rw[kz ok hx];exact .int _,⋯,hU,fin _ (by rw[hx];rfl) (hx▸λ_ _ z=>nomatch z)⟩|str k=>exact .inl ⟨x.v,"str",U,rfl,by rw[(wX ok hx).1];exact .str _,⋯,hU,fin _ (by rw[hx];rfl) (hx▸λ_ _ z=>nomatch z)⟩
 |lst ds=>
  obtain⟨l,xs,bs,e,q,r,_⟩:=items ok (.inl hx);have f:=fin "list" (by rw[hx];rfl) (hx▸λ_ _ z=>nomatch z);rcases q with⟨_,z⟩|⟨z,_⟩
  ·exact .inr (.inr ⟨l,xs,U,by rw[e],z.sq,hU,f⟩)
  ·simp_all
 |tup ds=>
  obtain⟨l,xs,bs,e,q,r,_⟩:=items ok (.inr hx);have f:=fin "tuple" (by rw[hx];rfl) (hx▸λ_ _ z=>nomatch z);rcases q with⟨z,_⟩|⟨_,z⟩
  ·simp_all
  ·exact .inr (.inl ⟨l,xs,U,by rw[e],z,hU,f⟩)
 |dct a9=>simp_all|obj c f=>simp_all
theorem J5{U y p2}(ha:QV X Z q a ea)(hm:X.mg "isinstance"=none)(hmy:X.mg y=none)(hy:bootBuiltins y=some (.type U))(hK:X.K=Z.K)(hU:autoParam (U∈kinds.tail) ŕ)(hg:autoParam (Gl X "isinstance") Ŕ)(hgy:autoParam (Gl X y) Ŕ)(hny:autoParam (y≠"__name__") ŕ)(hdy:autoParam ((y==("__debug__":Str))=false) ŕ)
  (he:autoParam (starEach [ea,.Name y p2] X.env=(false,eval ea X.env)::starEach [.Name y p2] X.env) Ŕ) (kt:autoParam (starEach [.Name y p2] X.env=(false,eval (.Name y p2) X.env)::starEach [] X.env) Ŕ) (bn:autoParam ((backTo pos (starEach [.Name y p2] X.env)).any (·.1)=false) Ŕ):
  QE X Z q (cF1 (pu1 (kW U)) a) (.Call (.Name "isinstance" p) [ea,.Name y p2] [] pos):=
 k7 (qj4 (qxs hK) hg hm kqr (qW ha (qW (vvw (v:=.ty U) hgy hmy hy rfl hny hdy) v8 kt) he) ⋯ ⋯ he bn) fun σ H Q h=>jxb (wvj hU) h
theorem kz7:Ad1 K (λv H Q=>qv7 K [v] H Q) XJ:=by
 intro H x s Q ok hf k;unfold XJ at hf;dsimp only at hf
 split at hf
 ·rename_i ds e
  split at hf
  ·rename_i hl;cases oq9 hf;obtain⟨l,xs,bs,ev,q3,r3,h3⟩:=xw ok (.inl e) hl;have q3:LsR K H l xs:=by rcases q3 with⟨_,z⟩|⟨z,_⟩;exact z;rw[e]at z;cases z
   exact⟨l,xs,by rw[ev],.inl (x9 q3),λp hp=>k _ _ rfl rfl (J4 hp r3 h3)⟩
  ·cases hf
 ·rename_i ds e
  split at hf
  ·rename_i hl;cases oq9 hf;obtain⟨l,xs,bs,ev,q3,r3,h3⟩:=xw ok (.inr e) hl;have q3:SqT K H l xs:=by rcases q3 with⟨z,_⟩|⟨_,z⟩;rw[e]at z;cases z;exact z
   exact⟨l,xs,by rw[ev],.inr q3,λp hp=>k _ _ rfl rfl (J4 hp r3 h3)⟩
  ·cases hf
 ·cases hf
def kzw(K:Frag):List V->Hp->VK->Prop:=λxs H Q=>∃p ys,xs=[.ref p]/\((SqL K H p ys/\∀l,H l=none->Q (.ref l) (upd H l (.tup ys)))\/(SqT K H p ys/\Q (.ref p) H))
theorem qxt(hK:X.K=K):CallR X (.type "tuple") (kzw K):=by subst hK;exact kqp
theorem vkb:Ad1 K (λv H Q=>kzw K [v] H Q) XZ:=by
 intro H x s Q ok hf k;unfold XZ at hf;dsimp only at hf
 split at hf
 ·rename_i ds e
  split at hf
  ·rename_i hl;cases oq9 hf;obtain⟨l,xs,bs,ev,q3,r3,h3⟩:=xw ok (.inl e) hl;have q3:LsR K H l xs:=by rcases q3 with⟨_,z⟩|⟨z,_⟩;exact z;rw[e]at z;cases z
   exact⟨l,xs,by rw[ev],.inl ⟨x9 q3,λp hp=>k _ _ rfl rfl (W7 hp r3 h3)⟩⟩
  ·cases hf
 ·rename_i ds e
  split at hf
  ·rename_i hl;cases oq9 hf;obtain⟨l,xs,bs,ev,q3,r3,h3⟩:=xw ok (.inr e) hl;have q3:SqT K H l xs:=by rcases q3 with⟨z,_⟩|⟨_,z⟩;rw[e]at z;cases z;exact z
   refine⟨l,xs,by rw[ev],.inr ⟨q3,k ⟨.no,.tup ds,.ref l,bs⟩ H rfl rfl ⟨x5,?_,λb hb=>(nomatch hb),Y7,λb hb=>h3 b hb⟩⟩⟩;show RepL K H true _ _ bs;exact⟨l,xs,rfl,q3,r3⟩
  ·cases hf
 ·cases hf
theorem qxy{g}:∀{ds bs xs as},bls ds=some bs->RepA K H g ds xs as->xs=bs.map V.bl
 | [],bs,xs,as,h,r=>by
  cases oq9 h;exact r.1
 | d::ds,bs,xs,as,h,r=>by
  cases d with
  | bl b=>
   unfold bls at h;cases hb:bls ds with
   |none=>grind
   |some bp=>
    rw[hb]at h;cases oq9 h;obtain⟨x,rr,c1,c2,rfl,rfl,h1,h2⟩:=r;unfold RepL at h1;rw[h1.1,qxy hb h2];rfl
  |_=>unfold bls at h;cases h
theorem vqm:Ad1 K (λv H Q=>wws K [v] H Q) (pu1 wqp):=by
 intro H x s Q ok hf k;unfold pu1 wqp at hf;dsimp only at hf
 split at hf
 ·rename_i ds e;cases hb:bls ds with
  |none=>simp_all
  |some bs=>
   rw[hb]at hf;cases oq9 hf;obtain⟨l,xs,cs,ev,q3,r3,_⟩:=items ok (.inl e);have q3:LsR K H l xs:=by rcases q3 with⟨_,z⟩|⟨z,_⟩;exact z;rw[e]at z;cases z
   exact⟨l,bs,by rw[ev],by rw[<-qxy hb r3];exact x9 q3,k _ H rfl rfl wJ⟩
 ·cases hf
theorem wv6{g}:∀x y s,pu2 (c2 g) x y=some s->∃k,s.2=.bl k:=by
 intro x y s h;unfold pu2 c2 at h
 split at h
 ·grind
 ·grind
theorem vxh:∀x y s,pu2 fEq x y=some s->∃k,s.2=.bl k:=by
 intro x y s h;unfold pu2 fEq at h
 split at h
 ·grind
 ·grind
theorem K1:∀x y s,pu2 fNe x y=some s->∃k,s.2=.bl k:=by
 intro x y s h;unfold pu2 fNe at h
 split at h
 ·grind
 ·grind
theorem wqo{x y d}(h:fIn x y=some d):∃k,d=.bl k:=by
 unfold fIn at h
 split at h
 ·split at h
  ·cases oq9 h;exact⟨_,rfl⟩
  ·cases h
 ·split at h
  ·cases oq9 h;exact⟨_,rfl⟩
  ·cases h
 ·split at h
  ·grind
  ·grind
 ·grind
 ·grind
theorem kqs:∀x y s,pu2 wW x y=some s->∃k,s.2=.bl k:=by
 intro x y s h;unfold pu2 wW qx6 at h
 split at h
 ·grind
 ·cases hf:fIn x.2 y.2 with
  |none=>rw[hf]at h;cases h
  |some d=>
   obtain⟨k,rfl⟩:=wqo hf;rw[hf]at h;cases oq9 h;exact⟨_,rfl⟩
theorem kkq:∀{xs us},xs.length=us.length->(∀(i:Nat) (x) (u),xs[i]?=some x->us[i]?=some u->RelV x u)->Vals xs us
 |[],[],_,_=>.nil|[],_::_,h,_=>by simp_all|x::xs,u::us,h,f=>.cons (f 0 x u (by simp) (by simp)) (kkq (by simpa using h) λi x u e1 e2=>f (i+1) x u (by simpa using e1) (by simpa using e2))
theorem vko{p2 b9}(ha:QV X Z q a ea)(qc:X.mg "range"=none)(qi:Gl X "range")(bw:starEach [ea] X.env=(false,eval ea X.env)::starEach [] X.env)(bn:(backTo b9 (starEach [] X.env)).any (·.1)=false):PE X (.Call (.Name "range" p2) [ea] [] b9) (fun σ H Q=>tV Z q a σ H λv H1=>∃j,v=.int j/\∀pp,H1 pp=none->Q (.ref pp) (upd H1 pp (.rng 0 j))):=by
 intro a7 s σ H Q I h;refine Call_ (xW I qi qc boot_range (Xx (thn (qW ha v8 bw b9 a7 s σ H (λvs H1=>∃j,vs=[.int j]/\∀pp,H1 pp=none->Q (.ref pp) (upd H1 pp (.rng 0 j))) I ?_) λus s1 ⟨vs,H1,I1,r1,j,e,q1⟩=>?_) bw bn))
 ·grind
 ·subst e;obtain⟨u,rfl,t,rfl⟩:=r1.one;refine call_range_1 ⟨.ref s1.heap.objs.size,_,I1.laid (o:=.rng 0 j) (λb o e=>X1 _ e) (X8 _) ⟨_,_,_,Xe _ rfl⟩,rfl,q1 _ I1.fresh⟩
theorem qqy{K H}(ns:List Nat):RepA K H true (ns.map λ(i:Nat)=>D.int (0+i)) (ns.map λ(i:Nat)=>V.int (0+i)) []:=by
 induction ns with
 |nil=>unfold RepA;exact⟨rfl,rfl⟩
 |cons i ns ih=>
  unfold RepA;exact⟨_,_,[],[],rfl,rfl,xZ,ih⟩
theorem kzb{n}{ac:Array Value}(hs:ac.size=n)(hg:∀(i:Nat) u,ac[i]?=some u->∃t,u=.int (0+i*1) t):Vals ((List.range n).map λ(i:Nat)=>V.int (0+i)) ac.toList:=kkq (by simp[hs]) λi x u ex eu=>by
 rw[Xr]at eu;obtain⟨t,rfl⟩:=hg i u eu;rw[Xn]at ex;obtain⟨m,hr,rfl⟩:=Option.map_eq_some_iff.mp ex;obtain⟨_,h2⟩:=List.getElem?_eq_some_iff.mp hr;rw[List.getElem_range]at h2;subst h2;exact⟨t,by rw[Int.mul_one]⟩
theorem wwy{p2 b9}(ha:QV X Z q a ea)(qc:X.mg "range"=none)(hml:X.mg "list"=none)(hc:autoParam (X.calm=true) Ŕ)(qi:autoParam (Gl X "range") Ŕ)(t9:autoParam (Gl X "list") Ŕ)
  (bw:autoParam (starEach [ea] X.env=(false,eval ea X.env)::starEach [] X.env) Ŕ) (bn:autoParam ((backTo b9 (starEach [] X.env)).any (·.1)=false) Ŕ)
  (jl:autoParam (starEach [.Call (.Name "range" p2) [ea] [] b9] X.env=(false,eval (.Call (.Name "range" p2) [ea] [] b9) X.env)::starEach [] X.env) Ŕ) (mr:autoParam ((backTo pos (starEach [] X.env)).any (·.1)=false) Ŕ):
  QE X Z q (ww1 a) (.Call (.Name "list" p) [.Call (.Name "range" p2) [ea] [] b9] [] pos):=by
 intro a7 s σ H Q I ⟨E,L,r,m,w,bj,xc,k⟩;refine Yq (xW I t9 hml Q4 (Xx (thn (qW (vko ha qc qi bw bn) v8 jl pos a7 s σ H (λvs H1=>∃pp j,vs=[.ref pp]/\H1 pp=some (.rng 0 j)/\vX j=true/\j.toNat<=big/\∀l,H1 l=none->Q (.ref l) (upd H1 l (.lst ((List.range j.toNat).map λ(i:Nat)=>V.int (0+(i)))))) I ?_) λus s1 ⟨vs,H1,I1,r1,pp,j,e,hp,h62,i9,q1⟩=>?_) jl mr))
 ·refine kX m w (show bnd (a E) _=some r from bj) xc λE1 s h1 x L1 H1 e1 e2 m1 w1 ok fr sr st sm=>?_
  cases hx:s.2 with
  | int j=>
   rw[hx]at h1;dsimp only at h1
   split at h1
   ·rename_i hj;cases oq9 h1;refine⟨j,kz ok (e2.trans hx),λpp hpp=>⟨pp,j,rfl,wQ,hj.1,hj.2,λl hl=>?_⟩⟩;have s1:jJ H1 (upd H1 pp (.rng 0 j)):=qY hpp;have w2:World Z.K (upd H1 pp (.rng 0 j)) L1:=⟨λx hx=>RepO.kp (w1.ok x hx) (Kp.of_same s1),w1.nd,w1.ds⟩;have o:=J4 (K:=Z.K) (H:=upd H1 pp (.rng 0 j)) (fr:=[]) hl (qqy (List.range j.toNat)) (λ_ z=>(nomatch z));obtain⟨w3,cg⟩:=JZ w2 (st.trans ⟨λb ob z _=>s1 b ob z,λb z=>.inl z,λb z=>.inl z⟩) o (λ_ z=>(nomatch z)) (λ_ z=>(nomatch z)) (λ_ z=>(nomatch z));refine k _ _ rfl ⟨.rt,.lst (jZ 0 j),.ref l,[l]⟩ L1 _ rfl rfl m1 (by simpa [jZ]using w3) (by simpa [jZ]using cg) λhq=>⟨jY (sm hq) (jY s1 o.same),λb hb=>?_⟩
    have:b=l:=by simpa [Sl.own]using hb
    subst this;exact z9 (jY (sm hq) s1) hl
   ·cases h1
  |_=>rw[hx]at h1;cases h1
 ·subst e;obtain⟨u,rfl,rx⟩:=r1.one;cases rx;obtain⟨t1,t2,t3,hg⟩:=(show ObjOk X.prog X.w H1 s1.heap pp (.rng 0 j)from I1.hok pp _ hp);obtain⟨j1,j2⟩:=jxf h62;have e2:Builtin.Range.rangeSize 0 j 1=((j.toNat:Nat):Int):=by rw[rangeSize_one];split<;>lia
  refine call_list_range (n:=j.toNat) (I1.ok.hd hc) (show IsRange s1.heap pp 0 j 1 t1 t2 t3 from hg) (small_one ⋯ ⋯ j1 j2) e2 i9 λh' tk bz c' kp e4 gv=>?_
  obtain⟨hs,js⟩:=gv;refine⟨.ref s1.heap.objs.size,_,I1.laid (a:=s1.heap.objs.size) (o:=.lst ((List.range j.toNat).map λ(i:Nat)=>V.int (0+(i)))) (t':=tk) kp (X8 _) ⟨by rw[X2,Xv];exact i9,bz.toList,c',kzb hs js,by simpa using e4⟩,rfl,q1 _ I1.fresh⟩
end
end Q
namespace Q
open PySem
def vv4:Sm:=λ_=>none
def xz(n d:Nat):Option Int->Nat
 |none=>d|some v=>if v<0 then(v+(n:Int)).toNat else min v.toNat n
def Q2(xs:List D)(lo hi:Option Int):List D:=(xs.drop (xz xs.length 0 lo)).take (xz xs.length xs.length hi - xz xs.length 0 lo)
noncomputable def fSl:Sd->Option Int->Option Int->Option Sd:=λx lo hi=>match x.2 with
 |.lst xs=>if kj x then some (.rt,.lst (Q2 xs lo hi))else none|.tup xs=>if kj x/\¬(xz xs.length 0 lo=0/\xz xs.length xs.length hi=xs.length)then some (.no,.tup (Q2 xs lo hi))else none|.str z=>if(Txt.slice z lo hi).length<=big then some (.dp,.str (Txt.slice z lo hi))else none|_=>none
def J6:Option Ex->Ev (Option Int)
 |none,E=>some (.ok E none)
 |some c,E=>bnd (c E) λE x=>match x.2 with
  |.int i=>some (.ok E (some i))|_=>none
def cSl(a:Ex)(lo hi:Option Ex):Ex:=λE=>bnd (a E) λE x=>bnd (J6 lo E) λE l=>bnd (J6 hi E) λE h=>val E (fSl x l h)
def zx:Nat->List D->List D
 |_,[]=>[]|k,d::ds=>.tup [.int k,d]::zx (k+1) ds
def qJ:List D->List D->List D
 |a::x,b::y=>.tup [a,b]::qJ x y|_,_=>[]
def lstOf:D->Option (List D)
 |.lst xs=>some xs|_=>none
def wvx(c:Ex):Ev (List D):=λE=>bnd (c E) λE x=>val E ((lstOf x.2).map (zx 0))
def qwt(c d:Ex):Ev (List D):=λE=>bnd (c E) λE x=>bnd (d E) λE y=>val E ((lstOf x.2).bind λxs=>(lstOf y.2).bind λys=>if xs.length<=big then some (qJ xs ys)else none)
def J9:List D->Option (List Str)
 |[]=>some []|.str z::ds=>(J9 ds).map (z :: ·)|_=>none
def zW:List D->Option (List Int)
 |[]=>some []|.int z::ds=>(zW ds).map (z :: ·)|_=>none
def Kq(a:Str):List Str->List Str
 |[]=>[a]|b::r=>if Spec.ltCps b.cps.toList a.cps.toList then b::Kq a r else a::b::r
def K3:List Str->List Str
 |[]=>[]|a::r=>Kq a (K3 r)
def Vk(a:Int):List Int->List Int
 |[]=>[a]|b::r=>if b<a then b::Vk a r else a::b::r
def VJ:List Int->List Int
 |[]=>[]|a::r=>Vk a (VJ r)
noncomputable def ZV:Sd->Option Sd:=λx=>match x.2 with
 | .lst ds=>(match J9 ds with
  |some ss=>if ss.length<64 then some (.rt,.lst ((K3 ss).map .str))else none
  |none=>(match zW ds with
   |some is=>if is.length<64 then some (.rt,.lst ((VJ is).map .int))else none
   |none=>none))
 |_=>none
noncomputable def XX:D->D->Option D:=λxs x=>match xs with
 |.lst ys=>if x.flat 30&&D.flats 30 ys then(ys.findIdx? λz=>peq z x).map λ(j:Nat)=>D.int (j:Int)else none|.tup ys=>if x.flat 30&&D.flats 30 ys then(ys.findIdx? λz=>peq z x).map λ(j:Nat)=>D.int (j:Int)else none|_=>none
def isSq:D->Bool
 |.lst _=>true|.tup _=>true|_=>false
def ZK(a b:Ex):Ex:=λE=>bnd (a E) λE x=>if isSq x.2 then bnd (b E) λE y=>val E (pu2 XX x y)else none
def ZW(f:Fn)(cs:List Ex):Ex:=λE=>bnd (kQ cs E) λE xs=>match f (letAll xs)with
 |some (.ok _ y)=>if y.2.pure then some (.ok E (.dp,y.2))else none|some (.exc _ c)=>some (.exc E c)|none=>none
def wV:Sd->Sd->Option Sd:=λx y=>match x.2,y.2 with
 |.tup a,.int k=>if -(2 ^ 63)<=k/\k<2 ^ 63/\a.length*k.toNat<=big/\kj x then some (.no,.tup (List.replicate k.toNat a).flatten)else none|_,_=>XW x y
def wxt:D->Bool
 |.tup _=>true|_=>false
def ww(x:D):Bool:=jK 6 x&&wxt x
def V9:D->D->Option D:=λx y=>match y with
 |.dct a9=>if ww x=true/\unm a9=true then some (.bl (!decide (x∈a9.map (·.1))))else none|_=>none
def vwr:Option (Option Sd)->Bool
 |some (some (.rt,.dct _))=>true|_=>false
def mkD:D×D:=(.str "",.non)
def x4(kv:List (Int×Int)):D:=.dct (mkD::kv.map λp=>(.int p.1,.int p.2))
def V7 : List (D × D) -> Option (List (Int × Int))
  |[]=>some []|(.int k,.int v)::r=>(V7 r).map ((k,v):: ·)|_=>none
def zY:D->Option (List (Int×Int)):=λd=>match d with
 |.dct ((.str _,.non)::a9)=>V7 a9|_=>none
def vq(kv:List (Int×Int))(k:Int):Option Int:=(kv.find? λp=>decide (p.1=k)).map (·.2)
def J7(kv:List (Int×Int))(k v:Int):List (Int×Int):=if(kv.any λp=>decide (p.1=k))=true then kv.map (λp=>if p.1=k then(p.1,v)else p)else kv++[(k,v)]
def vxe:Ex:=λE=>some (.ok E (.rt,x4 []))
def Q0:D->D->Option D:=λx y=>match x,zY y with
 |.int k,some kv=>some (.bl (!(vq kv k).isSome))|_,_=>none
def wqn:D->D->Option D:=λy x=>match x,zY y with
 |.int k,some kv=>(vq kv k).map .int|_,_=>none
def wvr(a b:Ex):Ex:=λE=>bnd (a E) λE x=>bnd (b E) λE y=>val E ((wqn x.2 y.2).map λd=>(.dp,d))
noncomputable def qzx(i:Nat)(kc vc:Ex):Sm:=λE=>ofE (vc E) λE v=>if vwr E[i]?=true then ofE (kc E) λE k=>match E[i]?,k.2,v.2 with
 |some (some (.rt,d)),.int a,.int b=>(match zY d with
  |some kv=>if kv.length<big then some (.nx (E.set i (some (.rt,x4 (J7 kv a b)))))else none
  |none=>none)
 |_,_,_=>none
 else none
def qx7(z:Str):D->Option D:=λd=>match d with
 |.lst ds=>(match J9 ds with
  |some ys=>if(ys.map (·.length)).sum+ys.length*z.length<=100000 then some (.str (Txt.join z ys))else none
  |none=>none)
 |_=>none
def vk8(z:Str)(c:Ex):Ex:=λE=>bnd (c E) λE x=>val E ((qx7 z x.2).map λd=>(.dp,d))
def qjm:D->Bool
 |.str _=>true|_=>false
def qx8:D->D->Option D:=λx y=>match x,y with
 |.str a,.str b=>(match Builtin.Str.occurrences a b 0 a.length 1 with
  |i::_=>some (.int i)
  |[]=>none)
 |_,_=>none
def vk9(a b:Ex):Ex:=λE=>bnd (a E) λE x=>if qjm x.2=true then bnd (b E) λE y=>val E ((qx8 x.2 y.2).map λd=>(.dp,d))else none
def zz(x:Sd):Bool:=kJ x||(x.1 == .rt&&(match x.2 with
 |.lst ds=>D.pures ds
 |_=>false))
def D.at:List Nat->D->Option D
 |[],d=>some d
 |n::p,.tup ds=>match ds[n]? with
  |some d=>D.at p d|none=>none
 |n::p,.lst ds=>match ds[n]? with
  |some d=>D.at p d|none=>none
 |_::_,_=>none
def D.put(d':D):List Nat->D->D
 |[],_=>d'
 |n::p,.tup ds=>match ds[n]? with
  |some d=>.tup (ds.set n (D.put d' p d))|none=>.tup ds
 |n::p,.lst ds=>match ds[n]? with
  |some d=>.lst (ds.set n (D.put d' p d))|none=>.lst ds
 |_::_,d=>d
def sPC(i:Nat)(p:List Nat):Sm:=λE=>match E[i]? with
 |some (some (.dp,d))=>(match D.at p d with
  |some (.lst _)=>some (.nx (E.set i (some (.dp,D.put (.lst []) p d))))
  |_=>none)
 |_=>none
def K5(c:Ex):Ex:=λE=>bnd (c E) λE x=>if zz x=true then some (.ok E (.dp,x.2))else none
def KQ(a9:List (D×D))(k:D):Option D:=(a9.find? λp=>decide (p.1=k)).map (·.2)
def wvz(c:Ex):Ex:=λE=>bnd (c E) λE x=>match x.2 with
 |.int j=>if vX j/\j.toNat<=big then some (.ok E (.no,.tup (jZ 0 j)))else none|_=>none
end Q
namespace Q
open PySem PySem.Spec PyProof.Rows L2 L3
section
variable {X:Cx}{Z:Fx0}{K:Frag}{pn:List Nat}{q qa qb:Bool}{a b c:Ex}{u:Ts}{tg e ea eb:Expr}{st:Stmt}{σ:L2.St}{H:Hp}{L:Ls}{E:En}{pos p p2:Pos}{x:Str}
theorem vkk:QS X Z pn vv4 st:=λa7 s σ H D I aj=>ex7 aj λE L r m w hc k=>by cases hc
theorem kjj(a):∀r,(Kq a r).Perm (a::r)
 |[]=>List.Perm.refl _
 |b::r=>by
  unfold Kq
  split
  ·exact((kjj a r).cons b).trans (List.Perm.swap ..)
  ·simp_all
theorem jqr:∀r,(K3 r).Perm r
 |[]=>List.Perm.refl _|a::r=>(kjj a _).trans ((jqr r).cons a)
def leS(a b:Str):Prop:=Spec.ltCps b.cps.toList a.cps.toList=false
theorem leS_iff{a b}:leS a b↔a.cps.toList<=b.cps.toList:=by
 unfold leS;rw[ltCps_eq,decide_eq_false_iff_not,List.not_lt]
theorem kvy{a b c}(h:leS a b)(h':leS b c):leS a c:=leS_iff.mpr (List.le_trans (leS_iff.mp h) (leS_iff.mp h'))
theorem vjg{a b}(h:leS a b)(h':leS b a):a=b:=by
 have:=List.le_antisymm (leS_iff.mp h) (leS_iff.mp h');cases a
 simp_all
theorem qwi{a b}(h:¬leS a b):leS b a:=by
 rw[leS_iff]at h ⊢;exact List.le_of_lt (List.not_le.mp h)
theorem kve:∀{a r},risingS a r=true->(a::r).Pairwise leS
 |a,[],_=>by simp
 |a,b::r,h=>by
  have h:(!_&&risingS b r)=true:=h;rw[Bool.and_eq_true,Bool.not_eq_true']at h;have ih:=kve h.2;refine List.pairwise_cons.mpr ⟨λc hc=>?_,ih⟩;rcases aD hc with rfl|hc
  ·exact h.1
  ·exact kvy h.1 ((List.pairwise_cons.mp ih).1 c hc)
theorem qqs{r}(h:sortedS r=true):r.Pairwise leS:=by
 cases r with|nil=>exact .nil|cons a r=>exact kve h
theorem qwy{a}:∀{r},r.Pairwise leS->(Kq a r).Pairwise leS
 | [],_=>by simp[Kq]
 | b::r,h=>by
  rw[List.pairwise_cons]at h;unfold Kq
  by_cases hl:Spec.ltCps b.cps.toList a.cps.toList=true
  ·rw[X6 hl];refine List.pairwise_cons.mpr ⟨λc hc=>?_,qwy h.2⟩;rcases aD ((kjj a r).mem_iff.mp hc)with rfl|hc
   ·exact qwi (by unfold leS;rw[hl];exact λz=>nomatch z)
   ·simp_all
  ·rw[Xa hl];have i5:leS a b:=Bool.eq_false_iff.mpr hl;refine List.pairwise_cons.mpr ⟨λc hc=>?_,List.pairwise_cons.mpr h⟩;rcases aD hc with rfl|hc
   ·simp_all
   ·exact kvy i5 (h.1 c hc)
theorem kzm:∀{r},(K3 r).Pairwise leS
 |[]=>.nil|a::r=>qwy kzm
theorem qzn{r s}(p:s.Perm r)(h:sortedS s=true):s=K3 r:=
 List.Perm.eq_of_pairwise (λa b _ _ h1 h2=>vjg h1 h2) (qqs h) kzm (p.trans (jqr r).symm)
theorem kjk(a):∀r,(Vk a r).Perm (a::r)
 |[]=>List.Perm.refl _
 |b::r=>by
  unfold Vk
  split
  ·exact((kjk a r).cons b).trans (List.Perm.swap ..)
  ·simp_all
theorem jxe:∀r,(VJ r).Perm r
 |[]=>List.Perm.refl _|a::r=>(kjk a _).trans ((jxe r).cons a)
theorem qwz{a}:∀{r},r.Pairwise (·<=·)->(Vk a r).Pairwise (·<=·)
 | [],_=>by simp[Vk]
 | b::r,h=>by
  rw[List.pairwise_cons]at h;unfold Vk
  by_cases hl:b<a
  ·rw[X6 hl];refine List.pairwise_cons.mpr ⟨λc hc=>?_,qwz h.2⟩;rcases aD ((kjk a r).mem_iff.mp hc)with rfl|hc
   ·exact Int.le_of_lt hl
   ·exact h.1 c hc
  ·rw[Xa hl];refine List.pairwise_cons.mpr ⟨λc hc=>?_,List.pairwise_cons.mpr h⟩;rcases aD hc with rfl|hc
   ·lia
   ·have:=h.1 c hc;lia
theorem kzn:∀{r},(VJ r).Pairwise (·<=·)
 |[]=>.nil|a::r=>qwz kzn
theorem qzo{r s}(p:s.Perm r)(h:s.Pairwise (·<=·)):s=VJ r:=
 List.Perm.eq_of_pairwise (λa b _ _ h1 h2=>Int.le_antisymm h1 h2) h kzn (p.trans (jxe r).symm)
theorem qk8{ns}:∀{us},Vals (ns.map V.str) us->StrsAre us ns:=by
 induction ns with
 | nil=>intro us r;cases r;exact .nil
 | cons n ns ih=>
  intro us r;cases r with
  |cons r1 r2=>
   obtain⟨t,e⟩:=r1;subst e;exact .cons n t (ih r2)
theorem qqi{us ns}(h:StrsAre us ns):Vals (ns.map V.str) us:=by
 induction h with|nil=>exact .nil|cons y t _ ih=>exact .cons ⟨t,rfl⟩ ih
theorem kv2{us ns}(h:IntsAre us ns):Vals (ns.map V.int) us:=by
 induction h with|nil=>exact .nil|cons y t _ ih=>exact .cons ⟨t,rfl⟩ ih
noncomputable def qv5(K:Frag):List V->Hp->VK->Prop:=λxs H Q=>
 (∃p ss,xs=[.ref p]/\SqL K H p (ss.map V.str)/\ss.length<64/\∀l,H l=none->Q (.ref l) (upd H l (.lst ((K3 ss).map V.str)))) \/
 ∃p ss,xs=[.ref p]/\SqL K H p (ss.map V.int)/\ss.length<64/\∀l,H l=none->Q (.ref l) (upd H l (.lst ((VJ ss).map V.int)))
theorem kz3(hK:X.K=K):CallR X (.builtin "sorted") (qv5 K):=by
 subst hK;intro a7 s σ H xs us Q I r h;rcases h with⟨p,ss,rfl,hq,hl,q⟩|⟨p,ss,rfl,hq,hl,q⟩
 ·obtain⟨u,rfl,rx⟩:=xK r;cases rx;obtain⟨a8,r',pl,hz⟩:=I.list hq;have ae:=r'.length;rw[X2]at ae hz;refine sorted_strs pl.isList (qk8 r') ⋯ λout ss' h1 h2 h3=>?_
  have e:=qzn h2 h3;subst e;obtain⟨n,hn⟩:=sortedAll_at s.heap a8 out;have dm:s.heap.objs.size<=s.heap.objs.size+1:=Nat.le_succ _;refine⟨.ref _,_,I.laid (t':=s.toks) (λb o e=>sortedAll_old e) dm ?_,rfl,q _ (I.hok.fresh dm)⟩;exact⟨by rw[X2,(jqr ss).length_eq];exact hz,out.toList,n,qqi h1,by simpa using hn⟩
 ·obtain⟨u,rfl,rx⟩:=xK r;cases rx;obtain⟨a8,r',pl,hz⟩:=I.list hq;have ae:=r'.length;rw[X2]at ae hz;refine sorted_ints pl.isList (kkg r') ⋯ λout ss' h1 h2 h3=>?_
  have e:=qzo h2 h3;subst e;obtain⟨n,hn⟩:=sortedAll_at s.heap a8 out;have dm:s.heap.objs.size<=s.heap.objs.size+1:=Nat.le_succ _;refine⟨.ref _,_,I.laid (t':=s.toks) (λb o e=>sortedAll_old e) dm ?_,rfl,q _ (I.hok.fresh dm)⟩;exact⟨by rw[X2,(jxe ss).length_eq];exact hz,out.toList,n,kv2 h1,by simpa using hn⟩
theorem kku{g}:∀{ds bs xs as},J9 ds=some bs->RepA K H g ds xs as->xs=bs.map V.str/\∀z∈bs,z.length<=sizeLine
 | [],bs,xs,as,h,r=>by
  cases oq9 h;unfold RepA at r
  simp_all
 | d::ds,bs,xs,as,h,r=>by
  cases d with
  | str b=>
   unfold J9 at h;cases hb:J9 ds with
   |none=>grind
   |some bp=>
    rw[hb]at h;cases oq9 h;obtain⟨x,rr,c1,c2,rfl,rfl,h1,h2⟩:=r;unfold RepL at h1;obtain _:=kku hb h2
    simp_all
  |_=>unfold J9 at h;cases h
theorem kqi{g}:∀{ds bs xs as},zW ds=some bs->RepA K H g ds xs as->xs=bs.map V.int
 | [],bs,xs,as,h,r=>by
  cases oq9 h;exact r.1
 | d::ds,bs,xs,as,h,r=>by
  cases d with
  | int b=>
   unfold zW at h;cases hb:zW ds with
   |none=>grind
   |some bp=>
    rw[hb]at h;cases oq9 h;obtain⟨x,rr,c1,c2,rfl,rfl,h1,h2⟩:=r;unfold RepL at h1;rw[h1.1,kqi hb h2];rfl
  |_=>unfold zW at h;cases h
theorem kzt{g}:∀{bs:List Str},(∀z∈bs,z.length<=sizeLine)->RepA K H g (bs.map D.str) (bs.map V.str) []
 |[],_=>⟨rfl,rfl⟩
 |b::bs,h=>by
  unfold RepA;exact⟨_,_,[],[],rfl,rfl,VZ (h b X4),kzt λz hz=>h z (lc9 _ hz)⟩
theorem kzv{g}:∀{bs:List Int},RepA K H g (bs.map D.int) (bs.map V.int) []
 |[]=>⟨rfl,rfl⟩
 |b::bs=>by
  unfold RepA;exact⟨_,_,[],[],rfl,rfl,xZ,kzv⟩
theorem qz8:Ad1 K (λv H Q=>qv5 K [v] H Q) ZV:=by
 intro H x s Q ok hf k;unfold ZV at hf;dsimp only at hf;cases hx:x.d with
 | lst ds=>
  rw [hx]at hf;dsimp only at hf;obtain⟨l,xs,bs,ev,q3,r3,_⟩:=items ok (.inl hx);have q3:LsR K H l xs:=by rcases q3 with⟨_,z⟩|⟨z,_⟩;exact z;rw[hx]at z;cases z
  cases hs:J9 ds with
  | some ss=>
   rw[hs]at hf;dsimp only at hf
   split at hf
   ·rename_i hl;cases oq9 hf;obtain⟨e1,e2⟩:=kku hs r3;subst e1;exact .inl ⟨l,ss,by rw[ev],x9 q3,hl,λp hp=>(k _ _ rfl rfl (J4 hp (kzt λz hz=>e2 z ((jqr ss).mem_iff.mp hz)) λb hb=>nomatch hb))⟩
   ·cases hf
  | none=>
   rw[hs]at hf;cases hi:zW ds with
   | none=>simp_all
   | some ss=>
    rw[hi]at hf;dsimp only at hf
    split at hf
    ·rename_i hl;cases oq9 hf;have e1:=kqi hi r3;subst e1;exact .inr ⟨l,ss,by rw[ev],x9 q3,hl,λp hp=>(k _ _ rfl rfl (J4 hp kzv λb hb=>nomatch hb))⟩
    ·cases hf
 |_=>simp_all
def tPo(Z:Fx0):Option Ex->TO
 |none=>qqo|some c=>vzj (tV Z true c)
theorem qvd:PO X none (tPo Z none):=vvp
theorem QX(h:QV X Z true c e):PO X (some e) (tPo Z (some c)):=vvo h
theorem kq3{α co F}{r:Res α}{G}(m:Mt E σ L)(w:World Z.K H L)(h:bnd (J6 co E) F=some r)(xc:Xc Z σ H L r)
  (k:∀E1 l,F E1 l=some r->∀L1 H1,Mt E1 σ L1->World Z.K H1 L1->Step H L H1 L1->jJ H H1->G l H1):tPo Z co σ H G:=by
 cases co with
 | none=>exact k E none h L H m w Step.refl x5
 | some c=>
  have h:bnd (bnd (c E) λE x=>match x.2 with|.int i=>some _|_=>none) F=some r:=h;have h':bnd (c E) (λE x=>bnd (match x.2 with|.int i=>some (.ok E (some i))|_=>none) F)=some r:=by
   cases hc:c E with|none=>rw[hc]at h;exact h|some y=>rw[hc]at h;cases y<;>exact h
  show tV Z true c σ H λx H1=>∃i,x=.int i/\G (some i) H1
  refine kX m w h' xc λE1 s h1 x L1 H1 e1 e2 m1 w1 ok fr sr st sm=>?_
  cases hs:s.2 with
  |int i=>
   rw[hs]at h1;exact⟨i,kz ok (e2.trans hs),k E1 _ h1 L1 H1 m1 w1 st (sm rfl)⟩
  |_=>rw[hs]at h1;cases h1
theorem vki(n d) v:HT.sIx n d v=xz n d v:=by
 cases v<;>rfl
theorem RepA.drop{K H g}:∀n {ds xs as},RepA K H g ds xs as->∃bs,RepA K H g (ds.drop n) (xs.drop n) bs/\∀b∈bs,b∈as
 |0,ds,xs,as,h=>⟨as,h,λ_ h=>h⟩
 |n+1,[],xs,as,h=>by
  obtain⟨rfl,rfl⟩:=h;exact⟨[],⟨rfl,rfl⟩,λ_ h=>h⟩
 |n+1,d::ds,xs,as,h=>by
  obtain⟨x,r,bs,cs,rfl,rfl,h1,h2⟩:=h;obtain⟨es,r2,hb⟩:=RepA.drop n h2;exact⟨es,r2,λb h=>lr9 _ (hb b h)⟩
theorem RepA.take{K H g}:∀n {ds xs as},RepA K H g ds xs as->∃bs,RepA K H g (ds.take n) (xs.take n) bs/\∀b∈bs,b∈as
 |0,ds,xs,as,h=>⟨[],⟨rfl,rfl⟩,λ_ h=>nomatch h⟩
 |n+1,[],xs,as,h=>by
  obtain⟨rfl,rfl⟩:=h;exact⟨[],⟨rfl,rfl⟩,λ_ h=>h⟩
 |n+1,d::ds,xs,as,h=>by
  obtain⟨x,r,bs,cs,rfl,rfl,h1,h2⟩:=h;obtain⟨es,r2,hb⟩:=RepA.take n h2;refine⟨bs++es,?_,λb h=>(aA h).elim (λz=>ll9 _ z) λz=>lr9 _ (hb b z)⟩;unfold RepA;exact⟨x,r.take n,bs,es,rfl,rfl,h1,r2⟩
theorem RepA.cut{K H g ds xs as}(h:RepA K H g ds xs as)(lo hi):∃bs,RepA K H g (Q2 ds lo hi) (W4 xs lo hi) bs/\∀b∈bs,b∈as:=by
 unfold Q2 W4;rw[<-h.len];obtain⟨bs,r,hb⟩:=h.drop _;obtain⟨cs,r2,hc⟩:=r.take _;exact⟨cs,r2,λb h=>hb b (hc b h)⟩
theorem kx2{x:Sl}{s lo hi Q}(ok:x.ok K H)(hf:fSl (x.o,x.d) lo hi=some s)(k:∀z H',z.o=s.1->z.d=s.2->Out K H H' z x.frz->Q z.v H'):qv6 K x.v lo hi H Q:=by
 unfold fSl at hf;cases hx:x.d with
 | lst ds=>
  rw[hx]at hf;dsimp only at hf
  split at hf
  ·rename_i hl;cases oq9 hf;obtain⟨l,xs,bs,ev,q3,r3,h3⟩:=xw ok (.inl hx) (hx▸hl);have q3:LsR K H l xs:=by rcases q3 with⟨_,z⟩|⟨z,_⟩;exact z;rw[hx]at z;cases z
   obtain⟨cs,r4,h4⟩:=r3.cut lo hi;exact .inl ⟨l,xs,ev,x9 q3,λp hp=>k _ _ rfl rfl (J4 hp r4 λb hb=>h3 b (h4 b hb))⟩
  ·cases hf
 | tup ds=>
  rw[hx]at hf;dsimp only at hf
  split at hf
  ·rename_i hl;cases oq9 hf;obtain⟨l,xs,bs,ev,q3,r3,h3⟩:=xw ok (.inr hx) (hx▸hl.1);have q3:SqT K H l xs:=by rcases q3 with⟨z,_⟩|⟨_,z⟩;rw[hx]at z;cases z;exact z
   obtain⟨cs,r4,h4⟩:=r3.cut lo hi;refine .inr (.inl ⟨l,xs,ev,q3,?_,λp hp=>k _ _ rfl rfl (W7 hp r4 λb hb=>h3 b (h4 b hb))⟩);rw[<-r3.len];exact hl.2
  ·cases hf
 | str z=>
  rw[hx]at hf;dsimp only at hf
  split at hf
  ·rename_i hl;cases oq9 hf;obtain⟨e,hz⟩:=wX ok hx;exact .inr (.inr ⟨z,e,hz,k _ H rfl rfl (wxb hl)⟩)
  ·cases hf
 |_=>simp_all
theorem wjd{lo hi pi rj}(ha:QV X Z q a ea)(hl:PO X pi (tPo Z lo))(hh:PO X rj (tPo Z hi))(hK:autoParam (X.K=Z.K) Ŕ):QE X Z q (cSl a lo hi) (.Subscript ea (.Slice pi rj none p2) pos):=
 k7 (qj3 (vzw Z.K hK) ha hl hh) fun σ H Q aj=>ex8 aj λE L r m w hc xc k=>by
  refine kX m w (hc) xc λE1 s h1 x L1 H1 e1 e2 m1 w1 ok fr sr st sm=>(kq3 m1 w1 h1 (xc.step st) λE2 l h2 L2 H2 m2 w2 b8 cx=>(kq3 m2 w2 h2 (xc.step (st.trans b8)) λE3 u h3 L3 H3 m3 w3 cg r9=>?_))
  obtain⟨z,hz,rfl⟩:=wj h3;have k1:=Jz ok fr b8 cx;have k2:=Jz k1.1 k1.2 cg r9;refine kx2 k2.1 (by rw[e1,e2];exact hz) λy H' ho hd o=>?_
  obtain⟨w4,ja⟩:=JZ w3 ((st.trans b8).trans cg) o k2.2 (λb hb=>k2.1.some (Sl.frz_as hb)) (W6 sr λb hb=>Sl.frz_as hb);have ko:=λhq=>jY (sm hq) (jY cx r9)
  exact k _ _ rfl y L3 H' ho hd m3 w4 ja λhq=>⟨jY (ko hq) o.same,λb hb=>z9 (ko hq) (o.new b hb)⟩
def tAV(Z:Fx0)(cs:List Ex):TA:=fun σ H Q=>∃E L r,Mt E σ L/\World Z.K H L/\kQ cs E=some r/\Xc Z σ H L r /\
 ∀E' ys,r=.ok E' ys->∀(xs:List Sl) L' H',xs.map Sl.sd=ys->Mt E' σ L'->World Z.K H' L'->(∀x∈xs,x.ok Z.K H')->Step H L H' L'->jJ H H'->Q (xs.map Sl.v) H'
def QAV(X:Cx)(Z:Fx0)(cs:List Ex)(es:List Expr):Prop:=PA X es (tAV Z cs)
theorem vvg:QAV X Z [] []:=Zw v8 fun σ H Q aj=>ex8 aj λE L r m w hc xc k=>by
 cases oq9 hc;exact k _ _ rfl [] L H rfl m w (λ_ z=>nomatch z) Step.refl x5
theorem V4{cs:List Ex}{es:List Expr}(h:QV X Z true c e)(hs:QAV X Z cs es)(bw:autoParam (starEach (e::es) X.env=(false,eval e X.env)::starEach es X.env) Ŕ):QAV X Z (c::cs) (e::es):=
 Zw (qW h hs bw) fun σ H Q aj=>ex8 aj λE L r m w hc xc k=>by
  refine kX m w (show bnd (c E) _=some r from hc) xc λE1 s h1 x L1 H1 e1 e2 m1 w1 ok fr sr st sm=>?_
  rcases vK h1 with⟨E2,ys,h2,h3⟩|⟨E2,cc,h2,h3⟩
  ·cases oq9 h3;refine⟨E1,L1,_,m1,w1,h2,(λ_ _ z=>by cases z),λE' ys' z xs L2 H2 e3 m2 w2 gp b8 cx=>?_⟩;injection z with z1 z2;subst z1 z2;refine k _ _ rfl (x::xs) L2 H2 (by rw[List.map_cons,e3];simp[Sl.sd,e1,e2]) m2 w2 (λy hy=>?_) (st.trans b8) (jY (sm rfl) cx);rcases aD hy with rfl|hy
   ·exact(Jz ok fr b8 cx).1
   ·exact gp y hy
  ·exact⟨E1,L1,_,m1,w1,h2,(xc.step st).map h3,λE' s' z=>by cases z⟩
theorem vvf{k n:Nat}{ps:List Str}{f:Fn}{cs:List Ex}{es:List Expr}(D:kK X.prog X.w X.K X.mg X.base k x ps (spF Z.K Z.mg n f))(hr:Room k X.A)(g:x6 X Z.EX)(ha:QAV X Z cs (e::es))(hn:autoParam (cs.length=n) Ŕ)(hg:autoParam (Gl X x) Ŕ)(fh:autoParam ((x==("__debug__":Str))=false) ŕ)
  (he:autoParam (starEach (e::es) X.env=(false,eval e X.env)::starEach es X.env) Ŕ) (bn:autoParam ((backTo pos (starEach es X.env)).any (·.1)=false) Ŕ):
  QE X Z true (ZW f cs) (.Call (.Name x p) (e::es) [] pos):=k7 (qvs D hr g ha hg fh he bn) fun σ H Q aj=>ex8 aj λE L r m w hc xc kk=>by
 have hc:bnd (kQ cs E) _=some r:=hc;rcases vK hc with⟨E1,ys,h1,h2⟩|⟨E1,cc,h1,h2⟩
 rotate_left
 ·exact⟨E,L,_,m,w,h1,xc.map h2,λE' s' z=>by cases z⟩
 refine⟨E,L,_,m,w,h1,(λ_ _ z=>by cases z),λE' ys' z xs L1 H1 e1 m1 w1 ok1 st sm=>?_⟩;injection z with z1 z2;subst z1 z2;rw [Xq];have ae:xs.length=n:=by rw[<-hn,<-jx8 h1,<-e1,X2]
 cases hf:f (letAll ys)with
 | none=>rw[hf]at h2;cases h2
 | some fr=>
  rw[hf]at h2;have ev:xs.map Sl.v=(xs.map Sl.let).map Sl.v:=by rw[Xi];rfl
  have wl:World Z.K H1 ((xs.map Sl.let).map some):=by
   refine⟨λy hy=>?_,by rw[x3];exact Y7,λa ha=>by rw[x3]at ha;exact nomatch ha⟩;obtain⟨y',hy',e⟩:=aE hy;cases e;obtain⟨t,ht,rfl⟩:=aE hy';exact zw (ok1 t ht)
  rw[ev];refine⟨xs.map Sl.let,fr,rfl,by rw[X2];exact ae,wl,by rw[<-e1]at hf;rw[kxp];exact hf,λE' c ee C H' hm s'=>?_,λE' a ee y H' e2 e3 w' s'=>?_⟩
  ·subst ee;cases oq9 h2;have ix:jJ H1 H':=λb ob hb=>s'.keep b ob hb λz=>by rw[x3]at z;exact nomatch z
   exact xc _ _ rfl C L1 H' hm m1 ⟨λy hy=>RepO.kp (w1.ok y hy) (Kp.of_same ix),w1.nd,w1.ds⟩ (st.trans ⟨λb ob hb _=>ix b ob hb,λ_ h=>.inl h,λ_ h=>.inl h⟩)
  ·subst ee;dsimp only at h2
   split at h2
   ·rename_i hp;cases oq9 h2;have ix:jJ H1 H':=λb ob hb=>s'.keep b ob hb λz=>by rw[x3]at z;exact nomatch z
    have w2:World Z.K H' L1:=⟨λy hy=>RepO.kp (w1.ok y hy) (Kp.of_same ix),w1.nd,w1.ds⟩;obtain⟨z,rp⟩:=RepL.pu (g':=false) (RepO.wk (w'.ok y X4)) (by rw[e3];exact hp);have b8:Step H L H' L1:=st.trans ⟨λb ob hb _=>ix b ob hb,λ_ h=>.inl h,λ_ h=>.inl h⟩;exact kk _ _ rfl ⟨.dp,y.d,y.v,[]⟩ L1 H' rfl e3 m1 (w2.consPu rp rfl) (Q8 (x:=⟨.dp,y.d,y.v,[]⟩) b8 (λb hb=>nomatch hb) rfl) λ_=>⟨jY sm ix,λ_ z=>(nomatch z)⟩
   ·cases h2
end
theorem vzh{prog w A E s t items x}{e:Value->Bool}{j}{Q}
  (ht:IsTup s.heap t items) (he:∀y∈items,SeqAt.EqAt A.in1 s y x (e y)) (hj) (h1:e items[j]=true) (h2:∀m (hm:m<items.size),m<j->e items[m]=false)
  (h:Q (.int j s.toks) {s with toks:=s.toks+1}):wpAny (model prog w) A (call (.builtin "tuple.index") [.ref t,x]) Q E s:=by
 refine Y1 PySem.F.slot_tuple_index ht.typeIs PySem.F.entry_tuple_index ?_ (PySem.F.args_tuple_index_2 _ _);show wpAny _ _ (Builtin.Tuple.tupleItemsOf _ >>= _) _ _ s;refine X0 (tupleItemsOf_ ht ?_);dsimp only;refine X0 (X3 (X0 (X3 ?_)));rw[Std.Legacy.Range.forIn_eq_forIn_range'];refine X0 (Zg _ (λab b s'=>b=_/\s'=s/\∃k,k<=j/\ab=List.range' k (items.size - k)) _ ?_ ?_ _ _ ⟨rfl,rfl,0,Y8 _,?_⟩)
 ·rintro i ab b s' ⟨rfl,rfl,k,hk,hr⟩;obtain⟨n,hn⟩:∃n,items.size - k=n+1:=⟨items.size - k - 1,⋯⟩;rw[hn]at hr;injection hr with hi ik;subst hi;have hi:i<items.size:=⋯
  rw[show items[i]?=some items[i]from Xg hi];refine X0 (he items[i] (Array.getElem_mem hi) _ _ _ _ ?_)
  by_cases lf:i=j
  ·subst lf;rw[h1];exact X0 (X0 (wpAny_mkInt (X3 (X3 (X3 ⟨_,rfl,h⟩)))))
  ·rw[h2 i hi ⋯];refine X3 ⟨rfl,rfl,i+1,⋯,?_⟩
   grind
 ·rintro b s' ⟨rfl,rfl,k,hk,hr⟩
  grind
 ·simp
theorem wwn{prog w A E s l items k t}{Q}
  (ht:IsTup s.heap l items) (h:Q .notImplemented s):wpAny (model prog w) A (call (.builtin "int.__rmul__") [.int k t,.ref l]) Q E s:=by
 refine Y1 PySem.F.slot_int_rmul (typeIs_int s k t) PySem.F.entry_int_rmul ?_ (PySem.F.args_int_rmul_2 _ _);obtain⟨o,e,c,n,hd⟩:=ht;show wpAny _ _ (asInt? _ >>= _) _ _ s;refine X0 (X0 (wpAny_load e ?_));rw[hd];exact X3 (X0 (wpAny_rule (X3 ⟨_,rfl,h⟩)))
theorem mulT{prog w A E s l items k t}{Q}
  (ht:IsTup s.heap l items) (h1:-(2 ^ 63)<=k) (h2:k<2 ^ 63) (hz:items.size*k.toNat<=sizeLine)
  (qr:(items.isEmpty=true\/k=1)->Q (.ref l) s)
  (hsz:(List.foldl (λx1 x2=>x1++x2) #[] (List.replicate k.toNat items)).size<=sizeLine)
  (fu:Q (.ref s.heap.objs.size) {s with heap:=s.heap.push {cls:=.type "tuple",data:=.seq (List.foldl (λx1 x2=>x1++x2) #[] (List.replicate k.toNat items))}})
  : wpAny (model prog w) A (call (.builtin "tuple.__mul__") [.ref l,.int k t]) Q E s:=by
 refine Y1 PySem.F.slot_tuple_mul ht.typeIs PySem.F.entry_tuple_mul ?_ (PySem.F.args_tuple_mul_2 _ _);show wpAny _ _ (if _=true then _ else _) _ _ s;rw[Xa ⋯];refine X0 (tupleItemsOf_ ht ?_)
 by_cases hs:(items.isEmpty||k==1)=true
 ·rw[X6 hs];refine X0 (X0 (Ze ht.typeIs (X3 (X0 (wpAny_rule (X3 ⟨_,rfl,qr ?_⟩))))))
  simpa using hs
 ·rw[Xa hs];have fb:items.isEmpty=false:=by
   grind
  have hm:((items.size:Int)*k)<=sizeLine\/k<=0:=by
   by_cases hk:k<=0
   ·exact .inr hk
   ·grind
  dsimp only
  by_cases hk:k<=0
  ·rw[X6 (by simp[hk])];have e:k.toNat=0:=⋯
   rw[e]at fu;exact X0 (Ya (X3 ⟨_,rfl,fu⟩) (Y8 _))
  ·rw[Xa (by simp[hk,fb])];have hm:=hm.resolve_right hk;have o8:(sizeLine:Int)=16777216:=⋯
   rw[Xa ⋯,Xa (by unfold Builtin.Tuple.tupleTooMany;lia)];exact X0 (Ya (X3 ⟨_,rfl,fu⟩) hsz)
section
variable {X:Cx}{Z:Fx0}{K:Frag}{pn:List Nat}{q qa qb:Bool}{a b c:Ex}{u:Ts}{tg e ea eb:Expr}{st:Stmt}{σ:L2.St}{H:Hp}{L:Ls}{E:En}{pos p p2:Pos}{x:Str}
def wj1(K:Frag):R2:=λx y H Q=>∃l k xs,x=.ref l/\y=.int k/\SqT K H l xs/\-(2 ^ 63)<=k/\k<2 ^ 63/\xs.length*k.toNat<=sizeLine/\((xs=[]\/k=1)->Q (.ref l) H)/\∀p,H p=none->Q (.ref p) (upd H p (.tup (List.replicate k.toNat xs).flatten))
theorem op_repT:OpR X (binaryOp .Mult) (wj1 X.K):=by
 rintro a7 s σ H x y v u Q I rx ry ⟨l,k,xs,rfl,rfl,hq,h1,h2,hz,q1,q2⟩;cases rx;obtain⟨t,rfl⟩:=ry;obtain⟨a8,r,ht,hl⟩:=I.tuple hq;have ae:=r.length;have f0:List.foldl (λx1 x2=>x1++x2) #[] (List.replicate k.toNat a8.toArray)=(List.replicate k.toNat a8).flatten.toArray:=by
  have:=kjm a8 k.toNat [];rw[List.nil_append]at this;exact this
 have km:(List.replicate k.toNat xs).flatten.length<=sizeLine:=by rw[qwg,Nat.mul_comm];exact hz
 refine wpAny_binaryOp_repeat_ref (T:="tuple") (U:="int") ⋯ ht.typeIs (λs'=>typeIs_int s' k t) rfl F.fills_int_mul F.slot_int_rmul (show seqRepeat? (Value.type "tuple")=pure (some (Value.builtin "tuple.__mul__"))from rfl) F.slot_int_index.lookup
  (wwn ht ⟨rfl,ht.typeIs,mulT ht h1 h2 (by rw[X9,<-ae];exact hz) (λhs=>?_) ?_ ?_⟩)
 ·refine⟨.ref l,H,I,rfl,q1 ?_⟩;rcases hs with hs|hs
  ·grind
  ·exact .inr hs
 ·rwa [f0,X9,<-(r.rep k.toNat).length]
 ·rw[f0];exact⟨.ref _,_,I.laid (t':=s.toks) (o:=.tup _) (λb o e=>X1 _ e) (X8 _) ⟨km,_,r.rep k.toNat,IsTupD.new _ _⟩,rfl,q2 _ (I.hok.fresh (X8 _))⟩
def wj4(K:Frag):R2:=λx y H Q=>wj1 K x y H Q\/vv9 K x y H Q
theorem wkk(hK:autoParam (X.K=K) Ŕ):OpR X (binaryOp .Mult) (wj4 K):=by subst hK;exact op_repT.or wkl
theorem vxl:Ad2 K (wj4 K) wV:=by
 intro H x y s Q ox oy hf k;cases hx:x.d with
 | tup ds=>
  cases hy:y.d with
  | int n=>
   unfold wV at hf;rw [hx,hy]at hf;dsimp only at hf
   split at hf
   ·rename_i hc;cases oq9 hf;obtain⟨l,xs,bs,e3,q3,r3,h3⟩:=xw ox (.inr hx) (hx▸hc.2.2.2);have q3:SqT K H l xs:=by rcases q3 with⟨z,_⟩|⟨_,z⟩;rw[hx]at z;cases z;exact z
    obtain⟨cs,r4,h4⟩:=r3.reps n.toNat;refine .inl ⟨l,n,xs,e3,kz oy hy,q3,hc.1,hc.2.1,by rw[<-r3.len];exact hc.2.2.1,λhs=>?_,λp hp=>?_⟩
    ·refine k ⟨.no,.tup _,.ref l,cs⟩ H rfl rfl ⟨x5,?_,λb hb=>(nomatch hb),Y7,λb hb=>ll9 _ (h3 b (h4 b hb))⟩;show RepL K H true _ _ cs;refine⟨l,xs,rfl,q3,?_⟩;have e:(List.replicate n.toNat xs).flatten=xs:=by
      rcases hs with hs|hs
      ·subst hs;simp
      ·subst hs;simp
     rw[e]at r4;exact r4
    ·exact k _ _ rfl rfl (W7 hp r4 λb hb=>ll9 _ (h3 b (h4 b hb)))
   ·grind
  |_=>
   refine .inr (vql H x y s Q ox oy ?_ k);unfold wV at hf;rw[hx,hy]at hf;rw[hx];exact hf
 |_=>
  refine .inr (vql H x y s Q ox oy ?_ k);unfold wV at hf;rw[show(x.o,x.d).2=x.d from rfl,hx]at hf;rw[hx];exact hf
theorem qw7{h}:∀{ds us},CReps h ds us->us.map (dec h)=ds
 |[],_,r=>by rw[r];rfl
 |z::ds,_,r=>by
  obtain⟨u,rr,rfl,h1,h2⟩:=r;rw[List.map_cons,YY h1,qw7 h2]
def wwr(K:Frag)(C:Hp->List V->Prop):List V->Hp->VK->Prop:=λvs H Q=>∃v d ds as bs xs j,vs=[v]/\RepL K H true d v as/\C H xs/\RepA K H true ds xs bs/\d.flat 30=true/\D.flats 30 ds=true/\(ds.findIdx? λz=>peq z d)=some j/\Q (.int j) H
theorem vj2{o to t ah aa}(hu:X.A.units+64<cLine)(ho:PE X o to)(ha:PA X [e] t)
  (au:autoParam (attributeBase o "index" X.env (eval o X.env)=eval o X.env) Ŕ)
  (c8:autoParam (((backTo aa (starEach [e] X.env)).all (λx=>!x.1)&&(backToKw aa (keywordEach [] X.env)).all (λx=>x.1.isSome)
   && decide ([e].length+([]:List Keyword).length+(if([]:List Keyword).isEmpty then 0 else 1)<30))=true) Ŕ)
  (aq:autoParam ((ah.endLine==aa.line)=true) Ŕ) (hs:autoParam (starEach [e] X.env=(false,eval e X.env)::starEach [] X.env) Ŕ) (ax:autoParam ((backTo aa (starEach [] X.env)).any (·.1)=false) Ŕ):
  PE X (.Call (.Attribute o "index" ah) [e] [] aa) (fun σ H Q=>to σ H λx H1=>(∃p xs,x=.ref p/\LsR X.K H1 p xs/\t σ H1 λvs H2=>wwr X.K (λH xs=>LsR X.K H p xs) vs H2 Q)\/∃p xs,x=.ref p/\SqT X.K H1 p xs/\t σ H1 λvs H2=>wwr X.K (λH xs=>SqT X.K H p xs) vs H2 Q):=by
 intro a7 s σ H Q I h;refine wpAny_Call_method_late au c8 aq rfl (thn (ho a7 s σ H _ I h) λv s1 ⟨x,H1,I1,r1,qq⟩=>?_);have eqs:∀{s2 H2 d v} {as:List Addr} {w:Value} {us:List Value} {ds:List D},L2.Inv X a7 σ H2 s2->RepL X.K H2 true d v as->RelV v w->d.flat 30=true->D.flats 30 ds=true->CReps s2.heap ds us->∀y∈us.toArray,SeqAt.EqAt X.A.in1 s2 y w (peq (dec s2.heap y) d):=fun {s2 H2 d v as w us ds} I2 rd rw f1 f2 cr y hy=>by
  have c1:=Q1 I2 rd f1 rw;obtain⟨d',hd,c⟩:=jzr cr (by simpa using hy);rw[YY c];exact KK 30 (jx2 f2 hd) c c1 (by have:=L3.in1_units X.A;lia)
 have idx:∀{h:Heap} {ds:List D} {us:List Value} {d:D} {j:Nat},CReps h ds us->(ds.findIdx? λz=>peq z d)=some j->∃hj:j<us.toArray.size,peq (dec h us.toArray[j]) d=true/\∀m (hm:m<us.toArray.size),m<j->peq (dec h us.toArray[m]) d=false:=fun {h ds us d j} cr hf=>by
  have e:=qw7 cr;subst e;rw[List.findIdx?_eq_some_iff_getElem]at hf;obtain⟨hj,h1,h2⟩:=hf;have kr:j<us.length:=by simpa using hj
  refine⟨by simpa using kr,by simpa using h1,λm hm hmj=>?_⟩;have:=h2 m hmj
  simpa using this
 rcases qq with⟨pp,zs,rfl,ty,q1⟩|⟨pp,zs,rfl,ty,q1⟩
 ·cases r1;have hA:=ha aa a7 s1 σ H1 _ I1 q1;rw[hs]at hA ⊢;obtain⟨z,a8,n,r,e0⟩:=ty.is I1;refine⟨"list","list.index",F.plainAttrs_list,F.slot_list_index,F.type_list_index,⟨_,e0,rfl⟩,λa e2=>?_,?_⟩
  ·cases e2;exact⟨_,e0,rfl⟩
  refine Calls.callWith_builtin (by show(false||(backTo aa (starEach [] X.env)).any (·.1))=false;rw[ax]<;>rfl) (Calls.evalArgs_plain ?_);refine thn hA λus s2 ⟨vs,H2,I2,r2,d2⟩=>?_
  obtain⟨v,d,ds,as,bs,xs,j,rfl,rd,hq,ra,f1,f2,hf,q2⟩:=d2;obtain⟨w,rfl,rw1⟩:=r2.one;obtain⟨z2,ce,n2,r3,e3⟩:=hq.is I2;have cr:=creps_of I2 ra f2 r3;obtain⟨hj,h1,h2⟩:=idx cr hf;have hsz:ce.toArray.size<=16777216:=by rw[X9,<-r3.length];exact z2
  exact call_meets F.slot_list_index ⟨_,e3,rfl⟩ F.entry_list_index (F.args_list_index_2 _ _) (SeqAt.list_indexAt pp ce.toArray n2 none #[] w (λy=>peq (dec s2.heap y) d) j hj ⋯ h1 h2) ⟨e3,eqs I2 rd rw1 f1 f2 cr,.int _,H2,I2.tok _,⟨_,rfl⟩,q2⟩
 ·cases r1;have hA:=ha aa a7 s1 σ H1 _ I1 q1;rw[hs]at hA ⊢;obtain⟨a8,r,ht,hz⟩:=I1.tuple ty;have hd0:=I1.tupleD ty;refine⟨"tuple","tuple.index",F.plainAttrs_tuple,F.slot_tuple_index,F.type_tuple_index,ht.typeIs,λa e2=>?_,?_⟩
  ·cases e2;exact hd0
  refine Calls.callWith_builtin (by show(false||(backTo aa (starEach [] X.env)).any (·.1))=false;rw[ax]<;>rfl) (Calls.evalArgs_plain ?_);refine thn hA λus s2 ⟨vs,H2,I2,r2,d2⟩=>?_
  obtain⟨v,d,ds,as,bs,xs,j,rfl,rd,hq,ra,f1,f2,hf,q2⟩:=d2;obtain⟨w,rfl,rw1⟩:=r2.one;obtain⟨ce,r3,ht2,km⟩:=I2.tuple hq;have cr:=creps_of I2 ra f2 r3;obtain⟨hj,h1,h2⟩:=idx cr hf;exact vzh (e:=λy=>peq (dec s2.heap y) d) ht2 (eqs I2 rd rw1 f1 f2 cr) hj h1 h2 ⟨.int _,H2,I2.tok _,⟨_,rfl⟩,q2⟩
theorem qvf{ah aa}(hu:X.A.units+64<cLine)(ha:QV X Z q a ea)(hb:QV X Z true b eb)(hK:autoParam (X.K=Z.K) Ŕ)
  (au:autoParam (attributeBase ea "index" X.env (eval ea X.env)=eval ea X.env) Ŕ)
  (c8:autoParam (((backTo aa (starEach [eb] X.env)).all (λx=>!x.1)&&(backToKw aa (keywordEach [] X.env)).all (λx=>x.1.isSome)
   && decide ([eb].length+([]:List Keyword).length+(if([]:List Keyword).isEmpty then 0 else 1)<30))=true) Ŕ)
  (aq:autoParam ((ah.endLine==aa.line)=true) Ŕ) (hs:autoParam (starEach [eb] X.env=(false,eval eb X.env)::starEach [] X.env) Ŕ) (ax:autoParam ((backTo aa (starEach [] X.env)).any (·.1)=false) Ŕ):
  QE X Z q (ZK a b) (.Call (.Attribute ea "index" ah) [eb] [] aa):=k7 (vj2 hu ha (qW hb v8 hs) au c8 aq hs ax) fun σ H Q aj=>ex8 aj λE L r m w hc xc k=>by
 refine kX m w (show bnd (a E) _=some r from hc) xc λE1 s h1 x L1 H1 e1 e2 m1 w1 ok fr sr st sm=>?_
 split at h1
 rotate_left
 ·grind
 rename_i hsq;rw [hK];have fin:∀{ds},(x.d=.lst ds\/x.d=.tup ds)->∀C,(∀H2,x.ok Z.K H2->∃xs bs,C H2 xs/\RepA Z.K H2 true ds xs bs)->tV Z true b σ H1 λv H2=>wwr Z.K C [v] H2 Q:=fun {ds} hx C hC=>by
  refine kX m1 w1 h1 (xc.step st) λE2 s2 h2 y L2 H2 e3 e4 m2 w2 gp ot ou b8 cx=>?_
  obtain⟨z,hz,rfl⟩:=wj h2;obtain⟨xs,bs,c1,c2⟩:=hC H2 (Jz ok fr b8 (cx rfl)).1;have key:∃j,y.d.flat 30=true/\D.flats 30 ds=true/\(ds.findIdx? λz=>peq z y.d)=some j/\z=(.dp,.int j):=by
   unfold pu2 XX at hz;rw[<-e2,<-e4]at hz;have om:(if y.d.flat 30&&D.flats 30 ds then(ds.findIdx? λz=>peq z y.d).map λ(j:Nat)=>D.int (j)else none).map (λd=>((Own.dp,d):Sd))=some z:=by
    rcases hx with hx|hx<;>(rw[hx]at hz;exact hz)
   split at om
   ·rename_i hf;rw[Bool.and_eq_true]at hf;cases hj:ds.findIdx? λz=>peq z y.d with|none=>rw[hj]at om;cases om|some j=>rw[hj]at om;exact⟨j,hf.1,hf.2,rfl,(oq9 om).symm⟩
   ·cases om
  obtain⟨j,f1,f2,f3,rfl⟩:=key;exact⟨y.v,y.d,ds,y.as,bs,xs,j,rfl,RepO.wk gp,c1,c2,f1,f2,f3,(k _ _ rfl ⟨.dp,.int j,.int j,[]⟩ L2 H2 rfl rfl m2 (w2.consPu (x:=⟨.dp,.int j,.int j,[]⟩) (show RepL Z.K H2 false (.int j) (.int j) []from xZ) rfl) (Q8 (x:=⟨.dp,.int j,.int j,[]⟩) (st.trans b8) (λb hb=>nomatch hb) rfl) λhq=>⟨(λhq=>jY (sm hq) (cx rfl)) hq,λ_ z=>(nomatch z)⟩)⟩
 have wkA:∀{ds xs bs H2},RepA Z.K H2 (x.o != .dp) ds xs bs->RepA Z.K H2 true ds xs bs:=fun {ds xs bs H2} r=>by
  cases ho:(x.o != .dp)with|true=>rw[ho]at r;exact r|false=>rw[ho]at r;exact r.wk
 cases hx:x.d with
 |lst ds=>
  obtain⟨l,xs,bs,ev,q3,r3,h3,_⟩:=items ok (.inl hx);have q3:LsR Z.K H1 l xs:=by rcases q3 with⟨_,z⟩|⟨z,_⟩;exact z;rw[hx]at z;cases z
  refine .inl ⟨l,xs,ev,q3,fin (.inl hx) _ λH2 gp=>?_⟩;obtain⟨l2,ys,cs,on,q4,r4,_⟩:=items gp (.inl hx);have:l2=l:=by have:=on.symm.trans ev;exact V.ref.inj this
  subst this;rcases q4 with⟨_,z⟩|⟨z,_⟩
  ·exact⟨ys,cs,z,wkA r4⟩
  ·grind
 |tup ds=>
  obtain⟨l,xs,bs,ev,q3,r3,h3,_⟩:=items ok (.inr hx);have q3:SqT Z.K H1 l xs:=by rcases q3 with⟨z,_⟩|⟨_,z⟩;rw[hx]at z;cases z;exact z
  refine .inr ⟨l,xs,ev,q3,fin (.inr hx) _ λH2 gp=>?_⟩;obtain⟨l2,ys,cs,on,q4,r4,_⟩:=items gp (.inr hx);have:l2=l:=by have:=on.symm.trans ev;exact V.ref.inj this
  subst this;rcases q4 with⟨z,_⟩|⟨_,z⟩
  ·grind
  ·exact⟨ys,cs,z,wkA r4⟩
 |_=>rw[<-e2,hx]at hsq;cases hsq
end
def ItE(S:Hp->List V->Prop):It:=⟨λi H=>∃xs x,S H xs/\xs[i]?=some x,
 λi H v H'=>∃T x,H T=none/\v=.ref T/\H'=upd H T (.tup [.int i,x])/\∀xs,S H xs->xs[i]?=some x,
 λi H=>∃xs,S H xs/\xs.length=i⟩
abbrev Ite(K:Frag)(l:Addr):It:=ItE (SqL K · l)
theorem vqs{P w K ca k1 pos}{e it l:Addr}{n:String}{S:Hp->List V->Prop}{IS:Heap->Array Value->Prop}(n1:e≠it)(n2:l≠e)
  (D:∀A:Around,A.handled=none->∀a8:Array Value,Draws P w A it [it,l] a8.size (λi v=>a8[i]?=some v) λi h=>(∃o,h.get? it=some o/\o.cls=.type n/\o.data=.fields #[.ref l,.int i 0])/\IS h a8)
  (G:∀(X:Cx) a7 (s:Shared) σ H,X.K=K->L2.Inv X a7 σ H s->∀xs,S H xs->(∃a8,Vals xs a8/\IS s.heap a8.toArray)/\∀zs,S H zs->zs=xs):
  Turn P w K (.Tuple ca k1 pos) (ItE S) [e,it] e (λi h=>(∃cy,IsEnum h e it i cy)/\∃o,h.get? it=some o/\o.cls=.type n/\o.data=.fields #[.ref l,.int i 0]) where
 mem:=by simp
 obj:=λi h st b hb=>by
  obtain⟨⟨cy,h1⟩,o4,e4,c4,d4⟩:=st;simp at hb;rcases hb with rfl|rfl
  ·exact⟨_,h1,λv z=>by cases z⟩
  ·exact⟨_,e4,λv z=>by rw[d4]at z;cases z⟩
 keep:=λi h h' st k=>by
  obtain⟨⟨cy,h1⟩,o4,e4,c4,d4⟩:=st;exact⟨⟨cy,k _ (by simp) _ h1⟩,o4,k _ (by simp) _ e4,c4,d4⟩
 item:=by
  intro X hP hw hK hc i a7 s σ H E I hf st hg;subst hP hw;obtain⟨xs,x,q1,hx⟩:=hg;obtain⟨⟨ff,lr,p1⟩,inj⟩:=G X a7 s σ H hK I xs q1;obtain⟨u1,ld,ru1⟩:=lr.get hx;obtain⟨⟨cy,t1⟩,t2⟩:=st;have hi:i<ff.toArray.size:=(List.getElem?_eq_some_iff.mp ld).1;refine wpAny_pyNext_enum_itemD (D X.A.in1 (by have:=I.ok.hd hc;simpa using this) ff.toArray) t1 ⟨t2,p1⟩ hi n1 (by simp only[Yc,Ys,or_false,not_or];exact⟨n1,n2.symm⟩) λu2 h1 tk hP2 g1 g2 gT gs gk=>?_
  have e2:u2=u1:=by
   have:ff[i]?=some u2:=by simpa using hP2
   rw[ld]at this;exact(oq9 this).symm
  subst e2;refine⟨_,rfl,wpAny_letOwnedTupleGo_enum (s:={s with heap:=h1,toks:=tk+1}) g1 λh2 f1 sb=>?_⟩;have fT:=I.fpOk (X8 _) (I.hok.fresh (X8 _));have nT:∀b∈[e,it],b≠s.heap.objs.size:=λb hb ee=>by
   obtain⟨o,eo,_⟩:∃o,s.heap.get? b=some o/\True:=by
    simp at hb;obtain⟨o4,e4,_⟩:=t2;rcases hb with rfl|rfl
    ·exact⟨_,t1,trivial⟩
    ·exact⟨_,e4,trivial⟩
   exact absurd (Xd eo) (ee▸Yu _)
  have kk:∀b o,b∉[e,it]->s.heap.get? b=some o->h2.get? b=some o:=λb o hb ee=>by
   simp at hb;exact(sb.2 b hb.1).trans (gk b o hb.1 hb.2 ee)
  have I1:L2.Inv X a7 σ H {s with heap:=h2,toks:=tk+1}:=jv4 [e,it] I kk hf;have I2:=kjf (a:=s.heap.objs.size) (o:=.tup [.int i,x]) I1 fT.1 fT.2.1 fT.2.2.2.1 fT.2.2.2.2.1 fT.2.2.2.2.2
   (show ObjOk X.prog X.w _ h2 _ (.tup [.int i,x])from⟨by show(2:Nat)<=sizeLine;decide,[.int i tk,u2],.cons ⟨_,rfl⟩ (.cons ru1 .nil),⟨_,(sb.2 _ λee=>nT e (by simp) ee.symm).trans gT,rfl,rfl,0,rfl⟩⟩)
  obtain⟨o4,e4,c4,d4⟩:=g2.1;exact⟨.ref s.heap.objs.size,_,I2,rfl,⟨_,x,fT.1,rfl,rfl,λzs rl=>by rw[inj zs rl];exact hx⟩,⟨⟨u2,f1⟩,o4,(sb.2 _ n1.symm).trans e4,c4,d4⟩,λb hb=>by rw[kq (nT b hb)];exact(hf b hb).1⟩
 done:=by
  intro X hP hw hK hc i a7 s σ H E I hf st hg;subst hP hw;obtain⟨xs,q1,hx⟩:=hg;obtain⟨⟨ff,lr,p1⟩,_⟩:=G X a7 s σ H hK I xs q1;obtain⟨⟨cy,t1⟩,t2⟩:=st;have hsz:ff.toArray.size=i:=by rw[X9,<-lr.length];exact hx
  refine wpAny_pyNext_enum_endD (D X.A.in1 (by have:=I.ok.hd hc;simpa using this) ff.toArray) t1 (hsz▸⟨t2,p1⟩) λh' kk=>⟨rfl,jv4 (t':=s.toks) [it] I (λb o hb ee=>kk b o (by simpa using hb) ee) λb hb=>hf b (by
   simp at hb ⊢;exact .inr hb)⟩
 self:=λ_ _ _ _ _ st h=>by obtain⟨⟨cy,h1⟩,_⟩:=st;exact wpAny_pyIter_enum h1 h
theorem qql{P w K ca k1 pos e it l}(n1:e≠it)(n2:l≠e)(n3:l≠it):Turn P w K (.Tuple ca k1 pos) (Ite K l) [e,it] e (λi h=>(∃cy,IsEnum h e it i cy)/\h.IsListIter it l i):=
 vqs (K:=K) (IS:=λh a8=>h.IsList l a8) n1 n2 (λA hh a8=>Draws.list hh it l n3 a8) λX a7 s σ H hK I xs q=>by
  subst hK;obtain⟨a8,rv,p,_⟩:=I.list q;exact⟨⟨a8,rv,p.isList⟩,λzs hz=>I.list_inj hz q⟩
abbrev wxx(K:Frag)(ta:TA):TI:=fun σ H R=>ta σ H λvs H1=>∃l,vs=[.ref l]/\(∃xs,SqL K H1 l xs/\(xs.length<=sizeLine->R (Ite K l) H1))
theorem kwp:bootBuiltins "enumerate"=some (.type "enumerate"):=boot_enumerate
section
variable {X:Cx}{Z:Fx0}{K:Frag}{pn:List Nat}{q qa qb:Bool}{a b c:Ex}{u:Ts}{tg e ea eb:Expr}{st:Stmt}{σ:L2.St}{H:Hp}{L:Ls}{E:En}{pos p p2 ia:Pos}{x:Str}{ca:List Expr}{k1:Nat}
theorem vvq K {ta:TA}(hg:Gl X "enumerate")(hm:X.mg "enumerate"=none)(ha:PA X [e] ta)(hK:autoParam (X.K=K) Ŕ)
  (hs:autoParam (starEach [e] X.env=[(false,eval e X.env)]) Ŕ):PI X (.Tuple ca k1 ia) (.Call (.Name "enumerate" p) [e] [] pos) (wxx K ta):=by
 subst hK;intro a7 s σ H R I h;refine Call_ (xW I hg hm kwp (Xx (thn (ha pos a7 s σ H _ I h) λus s1 ⟨vs,H1,I1,r1,q1⟩=>?_) (by rw[hs];rfl) rfl));obtain⟨l,rfl,xs,q1,q⟩:=q1;obtain⟨u1,rfl,e1⟩:=xK r1;cases e1;obtain⟨ff,lr,p1,iw⟩:=I1.list q1;have lt:l<s1.heap.objs.size:=by obtain⟨_,ee,_⟩:=p1.isList;exact Xd ee
 refine call_enumerate_list p1.isList λh' g1 g2 gs gk=>?_
 refine wpAny_pyIter_enum g1 ⟨_,[_,s1.heap.objs.size],_,_,H1,rfl,I1.kept (t':=s1.toks) gk,
  qql (Nat.succ_ne_self _) (Xj (Ym lt)) (Xj lt),⟨⟨_,g1⟩,g2⟩,λb hb=>?_,q iw⟩
 have dm:s1.heap.objs.size<=b:=by
  simp at hb;rcases hb with rfl|rfl<;>lia
 exact I1.fpOk dm (I1.hok.fresh dm)
theorem jx5:∀(ds:List D) (k:Nat),(zx k ds).length=ds.length
 |[],_=>rfl|d::ds,k=>by rw[zx,Xk,Xk,jx5 ds]
theorem kwe:∀(ds:List D) (k i:Nat),(zx k ds)[i]?=(ds[i]?).map λd=>.tup [.int ((k+i:Nat):Int),d]
 |[],_,_=>by simp[zx]|d::ds,k,0=>by simp[zx]
 |d::ds,k,i+1=>by
  rw[zx,List.getElem?_cons_succ,List.getElem?_cons_succ,kwe ds,show k+1+i=k+(i+1)from by lia]
theorem kz8:∀(xs ys:List D) (i:Nat),(qJ xs ys)[i]?=(xs[i]?).bind λa=>(ys[i]?).map λb=>.tup [a,b]
 |[],_,_=>by simp[qJ]|_::_,[],i=>by cases i<;>simp[qJ]|a::x,b::y,0=>by simp[qJ]|a::x,b::y,i+1=>by rw[qJ,List.getElem?_cons_succ,List.getElem?_cons_succ,List.getElem?_cons_succ,kz8 x y i]
theorem jzg:∀(xs ys:List D),(qJ xs ys).length=min xs.length ys.length
 |[],_=>by simp[qJ]|_::_,[]=>by simp[qJ]|a::x,b::y=>by rw[qJ,Xk,Xk,Xk,jzg x y];lia
theorem kzu{H2:Hp}{T:Addr}{d1 d2:D}{v1 v2:V}{b1 b2:List Addr}(hT:H2 T=none)(r1:RepL K H2 true d1 v1 b1)(r2:RepL K H2 true d2 v2 b2):RepL K (upd H2 T (.tup [v1,v2])) true (.tup [d1,d2]) (.ref T) (b1++b2):=by
 have sm:jJ H2 (upd H2 T (.tup [v1,v2])):=qY hT;refine⟨T,[v1,v2],rfl,.inl (.inl wQ),?_⟩;refine⟨v1,[v2],b1,b2,rfl,rfl,r1.kp (Kp.of_same sm),?_⟩;refine⟨v2,[],b2,[],rfl,by simp,r2.kp (Kp.of_same sm),?_⟩;exact⟨rfl,rfl⟩
theorem vqq{S:Hp->List V->Prop}{x:Sl}{es}(ag:∀H2,x.let.ok K H2->∃ys cs,S H2 ys/\RepA K H2 true es ys cs/\∀b∈cs,b∈x.as):Walks K (ItE S) [x.let] (zx 0 es):=by
 refine⟨λt ht=>by rw[aC ht];rfl,λi H2 hok hi=>?_,λH2 hok=>?_,λi H2 v H3 d hok hy gh=>?_⟩
 all_goals obtain⟨ys,cs,s1,s2,s3⟩:=ag H2 (hok _ (aB rfl))
 ·have hl:=s2.len;rw[jx5]at hi;exact⟨ys,ys[i]'⋯,s1,X5 ⋯⟩
 ·exact⟨ys,s1,by rw[jx5,s2.len]⟩
 ·obtain⟨T,x',hT,rfl,rfl,hy⟩:=hy;rw[kwe]at gh;cases n9:es[i]? with
  |none=>rw[n9]at gh;cases gh
  |some d0=>
   rw[n9]at gh;cases oq9 gh;obtain⟨v',bp,f1,f2,f3⟩:=s2.get n9;have:=hy ys s1;rw[f1]at this;cases oq9 this;have rp:=kzu (v1:=.int ((0+i:Nat):Int)) hT xZ f2;rw[show((0+i:Nat):Int)=i by lia]at rp ⊢;exact⟨⟨.no,_,.ref T,[]++bp⟩,rfl,rfl,rfl,qY hT,rp,λb hb=>⟨x.let,aB rfl,s3 b (f3 b (by simpa using hb))⟩⟩
theorem wjg(h:QE X Z q c e)(hg:Gl X "enumerate")(hm:X.mg "enumerate"=none)(hK:autoParam (X.K=Z.K) Ŕ)(hs:autoParam (starEach [e] X.env=[(false,eval e X.env)]) Ŕ):QI X Z q (.Tuple ca k1 ia) (wvx c) (.Call (.Name "enumerate" p) [e] [] pos):=λa7 s σ H R I aj=>ex8 aj λE L r m w hc xc k=>by
 refine(vvq Z.K hg hm (qW h v8 hs) hK hs) a7 s σ H R I (Ww m w (show bnd (c E) _=some r from hc) xc λE1 s h1 x L1 H1 e1 e2 m1 w1 st sm=>?_);obtain⟨ds,hd,rfl⟩:=wj h1;obtain⟨wT,sT⟩:=kza w1 st;cases hx:x.d with
 |lst es=>
  rw[<-e2,hx]at hd;cases oq9 hd;obtain⟨a,_,_,ev,_⟩:=items w1.head (.inl hx);have ag:=jwz (K:=Z.K) hx ev;obtain⟨xs,bs,q3,r3,_⟩:=ag H1 (zw w1.head);exact⟨a,by rw[ev],xs,q3,λae=>k _ _ rfl (Ite Z.K a) [x.let] L1 H1 m1 wT sT (by rw[jx5,r3.len];exact ae) (λhq=>(sm hq).1) (vqq ag)⟩
 |_=>rw[<-e2,hx]at hd;cases hd
theorem qve{b:Ex}(ha:QE X Z q a ea)(hb:QE X Z q b eb)(hg:Gl X "zip")(hm:X.mg "zip"=none)(hK:autoParam (X.K=Z.K) Ŕ)
  (hs:autoParam (starEach [ea,eb] X.env=[(false,eval ea X.env),(false,eval eb X.env)]) Ŕ) (mi:autoParam (starEach [eb] X.env=[(false,eval eb X.env)]) Ŕ)
  (hs3:autoParam (starEach [ea,eb] X.env=(false,eval ea X.env)::starEach [eb] X.env) Ŕ):QI X Z q (.Tuple ca k1 ia) (qwt a b) (.Call (.Name "zip" p) [ea,eb] [] pos):=λa7 s σ H R I aj=>ex8 aj λE L r m w hc xc k=>by
 refine(wk1 Z.K hg hm (qW ha (qW hb v8 mi) hs3) hK hs mi) a7 s σ H R I ?_;refine Ww m w (show bnd (a E) _=some r from hc) xc λE1 s h1 x L1 H1 e1 e2 m1 w1 st sm=>?_
 have s1:Step H L H1 L1:=st.trans Step.drop;refine Ww (q:=q) m1 w1.tail h1 (xc.step s1) λE2 s2 h2 y L2 H2 e3 e4 m2 w2 b8 cx=>?_
 have hh:=wqh (T:=[some x]) w1 b8 w2;have w3:World Z.K H2 (some x::some y::L2):=hh.1;have cg:Step H1 (some x::L1) H2 (some x::some y::L2):=hh.2;obtain⟨ds,hd,rfl⟩:=wj h2;have qh:=w3.head;have oky:=w3.tail.head;have wT:World Z.K H2 (L2++[x.let,y.let].map some):=by
  have wy:World Z.K H2 (some y.let::L2):=w3.tail.tail.consNo (zw oky) rfl λb hb=>w3.tail.apart b hb
  have wx:World Z.K H2 (some x.let::some y.let::L2):=wy.consNo (zw qh) rfl λb hb ho=>w3.apart b hb (by
   rw [jv]at ho ⊢;exact lr9 _ ((aA ho).elim (λz=>by rw[(QZ y).1]at z;exact nomatch z) id))
  exact World.comm (L:=[some x.let,some y.let]) wx
 have fm:Step H L H2 (some x::some y::L2):=st.trans cg;have sT:Step H L H2 (L2++[x.let,y.let].map some):=by
  refine⟨fm.keep,λb hb=>?_,λb hb=>?_⟩
  ·have:b∈j5 L2:=by simpa [QZ]using hb
   exact fm.own b (by rw[jv,jv];exact lr9 _ (lr9 _ this))
  ·have:b∈jx L2\/b∈x.as\/b∈y.as:=by simpa [QZ]using hb
   rcases this with z|z|z
   ·exact fm.frz b (by rw[k8,k8];exact lr9 _ (lr9 _ z))
   ·exact kkw fm b z
   ·rcases Sl.as_of z with z|z
    ·exact .inr (fm.own b (by rw[jv,jv];exact lr9 _ (ll9 _ z)))
    ·exact fm.frz b (by rw[k8,k8];exact lr9 _ (ll9 _ z))
 cases hx:x.d with
 | lst es=>
  cases hy:y.d with
  | lst fs=>
   rw [<-e2,<-e4,hx,hy]at hd;have hd:(if es.length<=big then some (qJ es fs)else none)=some ds:=hd
   split at hd
   rotate_left
   ·cases hd
   rename_i ae;have ae:es.length<=sizeLine:=ae;cases oq9 hd;obtain⟨l1,xs,bs,ev,q3,r3,h3,_⟩:=items qh (.inl hx);have q3:LsR Z.K H2 l1 xs:=by rcases q3 with⟨_,z⟩|⟨z,_⟩;exact z;rw[hx]at z;cases z
   obtain⟨l2,ys,cs,on,q4,r4,h4,_⟩:=items oky (.inl hy);have q4:LsR Z.K H2 l2 ys:=by rcases q4 with⟨_,z⟩|⟨z,_⟩;exact z;rw[hy]at z;cases z
   have ag1:=jwz (K:=Z.K) hx ev;have ag2:=jwz (K:=Z.K) hy on;refine⟨l1,l2,by rw[ev,on],⟨xs,q3.sq⟩,⟨ys,q4.sq⟩,k _ _ rfl (Itz Z.K l1 l2) [x.let,y.let] L2 H2 m2 wT sT (by rw[jzg];lia) (λhq=>jY (sm hq).1 (cx hq).1) ⟨λt ht=>?_,λi H3 hok hi=>?_,λH3 hok=>?_,λi H3 v H4 d hok hyl gh=>?_⟩⟩
   ·simp only[Yc,Ys,or_false]at ht;rcases ht with rfl|rfl<;>rfl
   ·obtain⟨us,cs1,a1,a2,_⟩:=ag1 H3 (hok _ (by simp));obtain⟨vs,cs2,b1,b2,_⟩:=ag2 H3 (hok _ (by simp));have hl:=a2.len;have nv:=b2.len;rw[jzg]at hi;exact⟨us,vs,us[i]'⋯,vs[i]'⋯,a1,b1,X5 ⋯,X5 ⋯⟩
   ·obtain⟨us,cs1,a1,a2,_⟩:=ag1 H3 (hok _ (by simp));obtain⟨vs,cs2,b1,b2,_⟩:=ag2 H3 (hok _ (by simp));have hl:=a2.len;have nv:=b2.len;exact⟨us,vs,a1,b1,by rw[jzg];lia⟩
   ·obtain⟨us,cs1,a1,a2,a3⟩:=ag1 H3 (hok _ (by simp));obtain⟨vs,cs2,b1,b2,b3⟩:=ag2 H3 (hok _ (by simp));obtain⟨T,x',y',hT,rfl,rfl,g1,g2⟩:=hyl;rw[kz8]at gh;cases he1:es[i]? with
    | none=>rw[he1]at gh;cases gh
    | some d1=>
     cases kt:fs[i]? with
     |none=>rw[he1,kt]at gh;cases gh
     |some d2=>
      rw[he1,kt]at gh;cases oq9 gh;obtain⟨v1,bs1,f1,f2,f3⟩:=a2.get he1;obtain⟨v2,bs2,j1,j2,j3⟩:=b2.get kt;have e5:v1=x':=by have:=g1 us a1;rw[f1]at this;exact oq9 this
      have e6:v2=y':=by have:=g2 vs b1;rw[j1]at this;exact oq9 this
      subst e5 e6;refine⟨⟨.no,_,.ref T,bs1++bs2⟩,rfl,rfl,rfl,qY hT,kzu hT f2 j2,λb hb=>?_⟩;rcases aA hb with z|z
      ·exact⟨x.let,by simp,a3 b (f3 b z)⟩
      ·exact⟨y.let,by simp,b3 b (j3 b z)⟩
  |_=>rw[<-e2,<-e4,hx,hy]at hd;cases hd
 |_=>rw[<-e2,hx]at hd;cases hd
end
section
variable {X:Cx}{Z:Fx0}{K:Frag}{pn:List Nat}{q qa qb:Bool}{a b c:Ex}{u:Ts}{tg e ea eb:Expr}{st:Stmt}{σ:L2.St}{H:Hp}{L:Ls}{E:En}{pos p p2 ia:Pos}{x:Str}{ca:List Expr}{k1:Nat}
theorem kwi{y:Sl}{ds:List D}(ok:y.ok K H)(hd:y.d=.lst ds)(ho:y.o=.dp):∃l xs bs,y.v=.ref l/\H l=some (.lst xs)/\y.as=l::bs/\y.own=l::bs/\RepA K H false ds xs bs:=by
 obtain⟨l,xs,bs,c1,c2,c3,c4,c5⟩:=kq4 ok hd (by rw[ho];exact λz=>nomatch z);rw[ho]at c5;exact⟨l,xs,bs,c1,c2,c3,by unfold Sl.own;rw[ho,c3],c5⟩
end
section
variable {X:Cx}{a7:LA9}{σ:L2.St}{H:Hp}{s:Shared}{a b:Addr}{es:List Ent}{A:Around}{E:VP9}{k:Kd}
mutual
theorem VV(I:Inv X a7 σ H s):∀{d v u},PuR X.K H d v->RelV v u->jw s.heap d u
 |.non,_,_,h,r=>by rw[h]at r;exact r|.int _,_,_,h,r=>by rw[h]at r;exact r
 |.tup ds,_,_,h,r=>by
  obtain⟨a,xs,rfl,q,ra⟩:=h;cases r;obtain⟨a8,rv,p,_⟩:=I.tuple q;exact⟨a,a8,rfl,p,purs_creps I ra rv⟩
 |.bl _,_,_,h,_=>h.elim|.str _,_,_,h,r=>by unfold PuR at h;rw[h.1]at r;exact r|.lst _,_,_,h,_=>h.elim|.dct _,_,_,h,_=>by unfold PuR at h;exact h.elim|.obj _ _,_,_,h,_=>h.elim
theorem purs_creps(I:Inv X a7 σ H s):∀{ds xs us},PuRs X.K H ds xs->Vals xs us->CReps s.heap ds us
 | [],_,_,h,r=>by unfold PuRs at h;rw[h]at r;cases r;rfl
 | d::ds,_,_,h,r=>by
  obtain⟨x,rr,rfl,h1,h2⟩:=h;cases r with
  |cons r1 r2=>
   exact⟨_,_,rfl,VV I h1 r1,purs_creps I h2 r2⟩
end
mutual
theorem kzx{K g}:∀{n d v as},jK n d=true->RepL K H g d v as->PuR K H d v
 |_,.non,_,_,_,h=>h.1|_,.int _,_,_,_,h=>by unfold RepL at h;exact h.1|0,.tup _,_,_,hk,_=>by cases hk
 |n+1,.tup ds,_,_,hk,h=>by
  unfold RepL at h;obtain⟨a,xs,e,q,ra⟩:=h;exact⟨a,xs,e,q,purs_of hk ra⟩
 |n,.bl _,_,_,hk,_=>by cases n<;>(unfold jK at hk;cases hk)|_,.str _,_,_,_,h=>by unfold RepL at h;exact⟨h.1,h.2.2⟩|n,.lst _,_,_,hk,_=>by cases n<;>(unfold jK at hk;cases hk)|n,.dct _,_,_,hk,_=>by cases n<;>(unfold jK at hk;cases hk)|n,.obj _ _,_,_,hk,_=>by cases n<;>(unfold jK at hk;cases hk)
theorem purs_of{K g}:∀{n ds xs as},keyDs n ds=true->RepA K H g ds xs as->PuRs K H ds xs
 |_,[],_,_,_,h=>h.1
 |n,d::ds,_,_,hk,h=>by
  unfold keyDs at hk;rw[Bool.and_eq_true]at hk;obtain⟨x,r,bs,cs,rfl,rfl,h1,h2⟩:=h;exact⟨x,r,rfl,kzx hk.1 h1,purs_of hk.2 h2⟩
end
theorem vq9{ep:Nat}(I:Inv X a7 σ H s)(h:H a=some (V6 a es ep))(hn:(es.map (·.1)).Nodup)(hk:∀x∈es,PuR X.K H x.1.1 (.ref x.2.1)):s.heap.DictOfH (Qw X.prog X.w) a es:=by
 obtain⟨⟨o,ds,h1,h2,h3,h4⟩,_⟩:=(show ObjOk X.prog X.w H s.heap a (V6 a es ep)from I.hok a _ h);exact⟨o,ds,ep,h1,h2,h3,h4,λx hx=>VV I (hk x hx) rfl,hn⟩
theorem vqg:∀(es:List Ent) (k:Kd),(atKey es k).isSome=decide (k.1∈es.map (·.1.1))
 | [],k=>by simp[atKey]
 | x::es,k=>by
  have ih:=vqg es k
  by_cases h:x.1=k
  ·have:k.1∈(x::es).map (·.1.1):=by rw[<-h];simp
   rw[Xf this];simp[atKey,List.find?_cons,h]
  ·have e1:atKey (x::es) k=atKey es k:=by simp[atKey,List.find?_cons,h]
   have e2:(k.1∈(x::es).map (·.1.1))↔k.1∈es.map (·.1.1):=by
    rw[List.map_cons,Yc];exact⟨λz=>z.elim (λq=>absurd (Subtype.ext q.symm) h) id,.inr⟩
   rw[e1,ih];exact decide_eq_decide.mpr e2.symm
theorem qqx(hu:A.units+64<cLine):(Qw X.prog X.w).room A.in1:=by show A.units+1+40<cLine;lia
theorem qxe{ks:List D}{vs:List V}{Q:VP9}(hu:A.units+64<cLine)(I:Inv X a7 σ H s)(d:DcN X.K H a ks vs)(hk:PuR X.K H k.1 (.ref b))(h:∀s',Inv X a7 σ H s'->Q (.bool (!decide (k.1∈ks))) s'):wpAny (model X.prog X.w) A (compareOp .NotIn (.ref b) (.ref a)) Q E s:=by
 obtain⟨es,ep,e,h1,h2,h3,rfl,h5,h6⟩:=d;refine wpAny_notIn_heap (knd:=Qw X.prog X.w) (qqx hu) (VV I hk rfl) h1 (vq9 I e h3 h5) ?_;rw[vqg];exact h _ (I.tok _)
end
def wzx(K:Frag)(iy:Bool):R2:=λx y H Q=>∃(k:Kd) (b a:Addr) (ks:List D) (vs:List V),x=.ref b/\y=.ref a/\PuR K H k.1 (.ref b)/\DcN K H a ks vs/\Q (.bl (if iy then !decide (k.1∈ks)else decide (k.1∈ks))) H
theorem vj7{X:Cx}{K:Frag}(hu:X.A.units+64<cLine)(hK:autoParam (X.K=K) Ŕ):OpR X (compareOp .NotIn) (wzx K true):=by
 subst hK;intro a7 s σ H x y u v Q I rx ry ⟨k,b,a,ks,vs,e1,e2,hk,hd,q⟩;subst e1 e2;cases rx;cases ry;exact qxe hu I hd hk λs' I'=>⟨.bl _,H,I',rfl,q⟩
theorem wqz{K:Frag}{H:Hp}{y:Sl}{a9:List (D×D)}(ok:y.ok K H)(hd:y.d=.dct a9)(hu:unm a9=true):∃a xs,y.v=.ref a/\DcN K H a (a9.map (·.1)) xs:=by
 have h:=RepO.wk ok;rw[hd]at h;unfold RepL at h;obtain⟨a,xs,bs,e,_,q,_⟩:=h;exact⟨a,xs,e,DcA.un q hu⟩
theorem kkd{K:Frag}{H:Hp}{x:Sl}(ok:x.ok K H)(hk:ww x.d=true):∃b,x.v=.ref b/\PuR K H x.d (.ref b):=by
 unfold ww at hk;rw[Bool.and_eq_true]at hk;have h:=kzx hk.1 (RepO.wk ok);cases hd:x.d with
 |tup ds=>
  rw[hd]at h;have h':=h;unfold PuR at h;obtain⟨a,xs,e,_⟩:=h;exact⟨a,e,e▸h'⟩
 |_=>rw[hd]at hk;cases hk.2
theorem qza{K:Frag}:Ad2 K (wzx K true) (pu2 V9):=by
 intro H x y s Q ox oy hf k;unfold pu2 V9 at hf;dsimp only at hf;cases hy:y.d with
 | dct a9=>
  rw[hy]at hf;dsimp only at hf
  by_cases hk:ww x.d=true/\unm a9=true
  ·rw[X6 hk]at hf;cases oq9 hf;obtain⟨a,xs,e,q⟩:=wqz oy hy hk.2;obtain⟨b,eb,pb⟩:=kkd ox hk.1;have su:jK 6 x.d=true:=by have hk:=hk.1;unfold ww at hk;rw[Bool.and_eq_true]at hk;exact hk.1
   exact⟨⟨x.d,su⟩,b,a,_,xs,eb,e,pb,q,k ⟨.dp,.bl _,.bl _,[]⟩ H rfl rfl wJ⟩
  ·rw[Xa hk]at hf;cases hf
 |_=>rw[hy]at hf;cases hf
theorem qz0(x y s:Sd)(h:pu2 V9 x y=some s):∃k,s.2=.bl k:=by
 unfold pu2 V9 at h;cases hy:y.2 with
 |dct a9=>
  rw[hy]at h;dsimp only at h
  by_cases hk:ww x.2=true/\unm a9=true
  ·rw[X6 hk]at h;cases oq9 h;exact⟨_,rfl⟩
  ·rw[Xa hk]at h;cases h
 |_=>rw[hy]at h;cases h
mutual
theorem qqz{K H}:∀{d v},PuR K H d v->RepL K H true d v []
 |.non,_,h=>⟨h,rfl⟩|.int _,_,h=>⟨h,rfl⟩
 |.tup ds,_,h=>by
  obtain⟨a,xs,e,s,r⟩:=h;exact⟨a,xs,e,s,rep_purs r⟩
 |.bl _,_,h=>h.elim|.str _,_,h=>by exact⟨h.1,rfl,h.2⟩|.lst _,_,h=>h.elim|.dct _,_,h=>by exact h.elim|.obj _ _,_,h=>h.elim
theorem rep_purs{K H}:∀{ds xs},PuRs K H ds xs->RepA K H true ds xs []
 |[],_,h=>by unfold PuRs at h;exact⟨h,rfl⟩
 |d::ds,_,h=>by
  obtain⟨x,r,e,h1,h2⟩:=h;exact⟨x,r,[],[],e,rfl,qqz h1,rep_purs h2⟩
end
abbrev dkI(kv:List (Int×Int)):List (Key×V):=kv.map λp=>(Sum.inl p.1,V.int p.2)
theorem vze kv k:xX (dkI kv) (Sum.inl k)=(vq kv k).map V.int:=by
 induction kv with
 | nil=>rfl
 | cons p r ih=>
  unfold xX vq at ih ⊢;rw[show dkI _=_::dkI r from rfl,List.find?_cons,List.find?_cons]
  by_cases h:p.1=k
  ·have h1:decide ((Sum.inl p.1:Key)=Sum.inl k)=true:=Xf (by rw[h]);have h2:=Xf h;simp only[h1,h2];rfl
  ·have h1:decide ((Sum.inl p.1:Key)=Sum.inl k)=false:=Xh λz=>h (Sum.inl.inj z)
   have h2:=Xh h;simp only[h1,h2];exact ih
theorem wjt kv (k v):z7 (dkI kv) (Sum.inl k) (V.int v)=dkI (J7 kv k v):=by
 have ha:((dkI kv).any λp=>decide (p.1=(Sum.inl k:Key)))=kv.any λp=>decide (p.1=k):=by
  rw[List.any_map]
  congr 1
  funext p;show decide ((Sum.inl p.1:Key)=Sum.inl k)=decide _;exact decide_eq_decide.mpr ⟨λz=>Sum.inl.inj z,λz=>by rw[z]⟩
 unfold z7 J7;rw[ha]
 by_cases h:(kv.any λp=>decide (p.1=k))=true
 ·rw[X6 h,X6 h];unfold dkI;rw[Xi,Xi];refine Yj λp _=>?_
  by_cases z:p.1=k
  ·grind
  ·grind
 ·rw[Xa h,Xa h];unfold dkI;rw[Xl];rfl
theorem kw5 : ∀{a9 kv},V7 a9 = some kv -> a9 = kv.map λp=>(D.int p.1,D.int p.2)
  | [],kv,h=>by cases oq9 h; rfl
  | (a,b)::r,kv,h=>by
    cases a with
    | int k=>
      cases b with
      | int v=>
        have h : (V7 r).map _ = some kv:= h;cases hr : V7 r with
        | none=>grind
        | some q=>
          rw[hr]at h;cases oq9 h;rw[List.map_cons,<-kw5 hr]
      |_=>cases h
    |_=>cases b <;> cases h
theorem kw4 : ∀kv,V7 (kv.map λp=>(D.int p.1,D.int p.2)) = some kv
  | []=>rfl
  | (a,b)::r=>by
    show(V7 _).map _ = _;rw[kw4 r]; rfl
theorem qjq kv:zY (x4 kv)=some kv:=kw4 kv
theorem kvg{K H g}:∀{kv:List (Int×Int)} {xs bs},RepP K H g (kv.map λp=>(D.int p.1,D.int p.2)) xs bs->xs=kv.map λp=>V.int p.2
 |[],_,_,h=>by
  unfold RepP at h;exact h.1
 |p::r,_,_,h=>by
  unfold RepP at h;obtain⟨y,rr,b1,b2,rfl,_,h1,h2⟩:=h;rw[h1.1,kvg h2,List.map_cons]
theorem kw3{K H g}:∀(kv:List (Int×Int)),RepP K H g (kv.map λp=>(D.int p.1,D.int p.2)) (kv.map λp=>V.int p.2) []
 |[]=>⟨rfl,rfl⟩
 |p::r=>by
  unfold RepP;exact⟨_,_,[],[],rfl,rfl,xZ,kw3 r⟩
theorem qw6{K H g}(kv:List (Int×Int)):RepP K H g (mkD::kv.map λp=>(D.int p.1,D.int p.2)) (V.non::kv.map λp=>V.int p.2) []:=by
 exact⟨_,_,[],[],rfl,rfl,⟨rfl,rfl⟩,kw3 kv⟩
theorem qjp:∀{a:List (Int×V)} {kv},(kv.map λp=>D.int p.1)=a.map (λp=>D.int p.1)->(kv.map λp=>V.int p.2)=a.map (·.2)->(a.map λp=>((Sum.inl p.1:Key),p.2))=dkI kv
 |[],[],_,_=>rfl|[],_::_,h,_=>by simp at h
 |p::a,q::kv,h,h'=>by
  rw[List.map_cons,List.map_cons]at h h';injection h with h1 h2;injection h' with h3 h4;injection h1 with h1;unfold dkI;rw[List.map_cons,List.map_cons,qjp h2 h4,<-h1,<-h3]
theorem qju{K H}{y:Sl}{kv}(ok:y.ok K H)(hd:zY y.d=some kv):∃a,y.v=.ref a/\H a=some (.dK (dkI kv))/\∃bs,y.as=a::bs:=by
 have h:=RepO.wk ok;cases hy:y.d with
 | dct a9=>
  rw [hy]at hd h;cases a9 with
  | nil=>cases hd
  | cons e a9=>
   obtain⟨a,b⟩:=e;cases a with
   | str m=>
    cases b with
    | non=>
     have e:=kw5 hd;subst e;obtain⟨a,xs,bs,ev,rp,qa,eas⟩:=h;rcases qa with⟨es,ep,_,_,_,_,g5,g6,_⟩|⟨kvn,mm,g1,g2,g3⟩
     ·exfalso;rw[List.map_cons]at g5;cases es with
      |nil=>cases g5
      |cons n es=>
       rw[List.map_cons]at g5;injection g5 with g5 _;have:=g6 n X4;rw[<-g5]at this;unfold PuR at this
       grind
     ·refine⟨a,ev,?_,bs,eas⟩;rw[g1]
      congr 2
      obtain⟨y1,rr,_,_,rfl,_,_,r2⟩:=rp;rw[List.map_cons,Xi]at g2;injection g2 with _ g2;injection g3 with _ g3;refine qjp g2 ?_
      rwa [<-(kvg r2)]
    |_=>cases hd
   |_=>cases b<;>cases hd
 |_=>rw[hy]at hd;cases hd
section
def wzw(iy:Bool):R2:=λx y H Q=>∃(k:Int) (a:Addr) (kv:List (Int×Int)),x=.int k/\y=.ref a/\H a=some (.dK (dkI kv))/\Q (.bl (if iy then !(vq kv k).isSome else(vq kv k).isSome)) H
theorem vqa{H a}{kv} k (e:H a=some (.dK (dkI kv))):DGet H a (.int k) ((vq kv k).map V.int):=by
 rw[<-vze];exact DGet.k (k:=Sum.inl k) e
theorem vj6{X}(hu:X.A.units+64<cLine):OpR X (compareOp .NotIn) (wzw true):=by
 intro a7 s σ H x y u v Q I rx ry ⟨k,a,kv,e1,e2,hd,q⟩;subst e1 e2;cases ry;refine vxa ⋯ I (vqa k hd) rx λs' I'=>⟨.bl _,H,I',rfl,?_⟩
 rwa [Option.isSome_map]
theorem qz9{K}:Ad2 K (wzw true) (pu2 Q0):=by
 intro H x y s Q ox oy hf k;unfold pu2 Q0 at hf;dsimp only at hf;cases hx:x.d with
 | int j=>
  rw[hx]at hf;cases hi:zY y.d with
  |none=>rw[hi]at hf;cases hf
  |some kv=>
   rw[hi]at hf;cases oq9 hf;obtain⟨a,e,q,_⟩:=qju oy hi;exact⟨j,a,kv,kz ox hx,e,q,k _ H rfl rfl wJ⟩
 |_=>rw[hx]at hf;cases hf
theorem qxz(x y s)(h:pu2 Q0 x y=some s):∃k,s.2=.bl k:=by
 unfold pu2 Q0 at h;cases hx:x.2 with
 |int j=>
  rw[hx]at h;cases hi:zY y.2 with|none=>rw[hi]at h;cases h|some kv=>rw[hi]at h;cases oq9 h;exact⟨_,rfl⟩
 |_=>rw[hx]at h;cases h
end
section
variable {X:Cx}{Z:Fx0}{pn:List Nat}{q qa:Bool}{a b c kc vc:Ex}{o ea eb ec ke ve:Expr}{pos bm aa:Pos}
theorem wx0(hu:X.A.units+64<cLine)(ha:QV X Z qa a ea)(hb:QV X Z true b eb)(hs:wvm eb):QV X Z qa (wvr a b) (.Subscript ea eb pos):=
 k7 (vvs ⋯ ha hb hs) fun σ H Q aj=>ex8 aj λE L r m w hc xc k=>by
  refine kX m w (hc) xc λE1 s h1 x L1 H1 e1 e2 m1 w1 ok fr sr st sm=>(kX m1 w1 h1 (xc.step st) λE2 s2 h2 y L2 H2 e3 e4 m2 w2 gp ot ou b8 cx=>?_)
  obtain⟨z,hz,rfl⟩:=wj h2;unfold wqn at hz;cases hy:s2.2 with
  | int j=>
   rw [hy]at hz;cases hi:zY s.2 with
   | none=>rw[hi]at hz;cases hz
   | some kv=>
    rw[hi]at hz;dsimp only at hz;cases hv:vq kv j with
    | none=>rw[hv]at hz;cases hz
    | some v=>
     rw[hv]at hz;cases oq9 hz;obtain⟨l,e,q,_⟩:=qju (Jz ok fr b8 (cx rfl)).1 (e2▸hi);refine⟨l,.int v,e,?_,?_⟩
     ·rw[kz gp (e4▸hy)];have:=vqa j q;rw[hv]at this;exact this
     ·exact k _ _ rfl ⟨.dp,.int v,.int v,[]⟩ L2 H2 rfl rfl m2 w2 (show RepL Z.K H2 false _ _ []from xZ) (λ_ hb=>nomatch hb) (λ_ hb=>nomatch hb) (st.trans b8) λhq=>jY (sm hq) (cx rfl)
  |_=>rw[hy]at hz;cases hz
theorem wjm:QE X Z true vxe (.Dict [] [] pos):=k7 vj3 fun σ H Q aj=>ex8 aj λE L r m w hc xc k=>by
 intro p hp;cases oq9 hc;have sm:jJ H (upd H p (.dK [])):=qY hp;refine k _ _ rfl ⟨.rt,x4 [],.ref p,[p]⟩ L _ rfl rfl m ?_ ?_ λ_=>⟨sm,λb hb=>?_⟩
 ·refine World.cons ⟨λt ht=>RepO.kp (w.ok t ht) (Kp.of_same sm),w.nd,w.ds⟩ ?_ ?_ ?_ ?_ ?_ ?_
  ·exact⟨p,_,[],rfl,qw6 [],.inr ⟨[],"",wQ,rfl,rfl⟩,rfl⟩
  ·simp[Sl.own]
  ·intro b hb ho;have:b=p:=by simpa [Sl.own]using hb
   subst this;exact w.own_some ho hp
  ·intro b hb ho;have:b=p:=by simpa [Sl.own]using hb
   subst this;exact w.frz_some ho hp
  ·intro b hb;simp[Sl.frz]at hb
  ·intro b _ hb;simp[Sl.frz]at hb
 ·refine⟨λb ob h _=>sm b ob h,λb hb=>?_,λb hb=>?_⟩
  ·rcases aA hb with z|z
   ·have:b=p:=by simpa [Sl.own]using z
    exact .inr (this▸hp)
   ·exact .inl z
  ·rcases aA hb with z|z
   ·simp[Sl.frz]at z
   ·exact .inl z
 ·have:b=p:=by simpa [Sl.own]using hb
  exact this▸hp
theorem wjh {i} (hu:X.A.units+64<cLine) (ho:PE X o (xj i)) (hk:QV X Z true kc ke) (hv:QE X Z q vc ve) (hs:autoParam (swapsWith ve (some (.Subscript o ke bm)) pos.line X.env=pure false) Ŕ):
  QS X Z pn (qzx i kc vc) (.Assign [.Subscript o ke bm] ve pos):=zq (vvn ⋯ ho hk hv hs) λD σ H aj=>ex7 aj λE L r m w hr k=>
 Wq m w hr k λE1 s1 h1 x L1 H1 e1 e2 m1 w1 iu _=>by
  by_cases hd:vwr E1[i]?=true
  ·rw [X6 hd]at h1;obtain ⟨s0,hd0⟩:∃s0,E1[i]?=some _:=by
    cases h0:E1[i]? with
    | none=>rw[h0]at hd;cases hd
    | some s0=>
     cases s0 with| none=>rw[h0]at hd;cases hd| some s0=>exact⟨s0,rfl⟩
   obtain ⟨y0,a1,a2,a3,a4⟩:=m1.get hd0;refine ⟨y0.v,a4,?_⟩;rcases jwy h1 with⟨E2,ky,oi,dv⟩|⟨E2,c,oi,rfl⟩
   ·refine ⟨E1,L1,_,m1,w1.tail,oi,(λ_ _ z=>by cases z),λE' s' z zk L2 H2 f1 f2 m2 w2 okz frz _ b8 sm=>?_⟩;injection z with z1 z2;subst z1 z2;cases hE:E2[i]? with
    | none=>rw[hE]at dv;cases dv
    | some s2=>
     cases s2 with
     | none=>rw[hE]at dv;cases dv
     | some s2=>
      obtain ⟨oo,dd⟩:=s2;rw [hE]at dv;cases oo with
      | no=>cases dv| dp=>cases dv
      | rt =>
       cases hkd:ky.2 with
       | int j=>
        cases hvd:s1.2 with
        | int vv=>
         rw [hkd,hvd]at dv;dsimp only at dv;cases hi:zY dd with
         | none=>rw[hi]at dv;cases dv
         | some kv=>
          rw [hi]at dv;dsimp only at dv
          by_cases hl:kv.length<big
          ·rw[X6 hl]at dv;cases oq9 dv;obtain⟨y,b1,b2,b3,b4⟩:=m2.get hE;have hyv:y.v=y0.v:=by rw[a4]at b4;exact(oq9 (oq9 b4)).symm
           obtain⟨w3,cg⟩:=wqh (T:=[some x]) w1 b8 w2;obtain⟨l,c1,c2,bs,c3⟩:=qju (w2.ok y (xJ b1)) (b3▸hi);refine⟨l,upd H2 l (.dK (dkI (J7 kv j vv))),hyv▸c1,?_,?_⟩
           ·rw[(kz okz (f2▸hkd)),(kz (w3.ok x X4) (e2▸hvd)),<-wjt];exact DPut.k (k:=Sum.inl j) c2 (by show(kv.map _).length<sizeLine;rw[X2];exact hl)
           ·have hlo:l∈y.own:=by unfold Sl.own;rw[b2,c3];simp
            obtain⟨w4,ja⟩:=World.writeAt (ob:=.dK (dkI (J7 kv j vv))) (T:=[some x]) w3 b1 hlo (y':=⟨.rt,x4 (J7 kv j vv),y.v,[l]⟩) ⟨l,_,[],c1,qw6 _,.inr ⟨(J7 kv j vv).map λp=>(p.1,V.int p.2),"",by rw[wQ,Xi];rfl,by rw[List.map_cons,Xi,Xi];rfl,by rw[Xi];rfl⟩,rfl⟩ (by simp[Sl.own]) (λa h=>by
             have:a=l:=by simpa [Sl.own]using h
             subst this;exact .inl hlo) (λa h=>by simp[Sl.frz]at h) (λa h z=>by simp[Sl.frz]at z)
            refine k σ _ _ Pn.refl ?_ w4 ((iu.trans cg).trans ja);have:=m2.set (x:=⟨.rt,x4 (J7 kv j vv),y.v,[l]⟩) i;rw[Jj b4]at this;exact this
          ·rw[Xa hl]at dv;cases dv
        |_=>rw[hkd,hvd]at dv;cases dv
       |_=>rw[hkd]at dv;cases dv
   ·exact⟨E1,L1,_,m1,w1.tail,oi,(λE' c' e C L' H' hm m' w' st=>by injection e with z1 z2;subst z1 z2;exact k C σ L' H' hm Pn.refl m' w' ((iu.trans Step.drop).trans st)),λE' s' z=>by cases z⟩
  ·rw[Xa hd]at h1;cases h1
end
end Q
namespace PySem
theorem qkd:typeLookup (.type "list") "keys"=pure none:=am_miss_of_fast (by decide +kernel)
theorem kql{prog w}{A:Around}{E:VP9}{s:Shared}{a:Addr}{o:Obj}{xs:Array Value}{k:Nat}{Q:Option Value->Shared->Prop}
  (hx:s.heap.get? a=some o) (hc:o.cls=.type "list") (fw:o.data=.seq xs k) (hd:o.dict=none) (hA:A.handled=none)
  (h:∀h' tk,(∀b ob,s.heap.get? b=some ob->h'.get? b=some ob)->Q none {s with heap:=h',toks:=tk}):
  wpAny (model prog w) A (getAttr? (.ref a) "keys") Q E s:=by
 obtain⟨c,dct,dat,sl⟩:=o;simp only at hc fw hd;subst hc fw hd;obtain⟨hp,g,d,tk,os⟩:=s;have hT:∀p9,(⟨hp,g,d,p9,os⟩:Shared).TypeIs (.ref a) "list":=λ_=>⟨_,hx,rfl⟩
 have f1:=sub_AttributeError;have f3:=F.slot_list_getattribute.lookup;have f4:=F.slot_list_getattribute.bind (.ref a);have f5:=am_list_getattr_none;unfold getAttr? getAttrBy? getAttrBy
 repeat (any_goals (first|assumption|exact hT _|((with_reducible show wpAny _ _ (call (Value.builtin "list.__getattribute__") _ _) _ _ _);refine call_meets F.slot_list_getattribute (hT _) am_entry_list_getattribute (F.args_list_getattribute_2 _ _) (meets_getattribute_miss_list a xs k sl "keys" _ qkd ⋯ ⋯) ⟨hx,hA,λh' p9 e hx'=>?_⟩)|wp_step))
 obtain⟨t',u',he⟩:=hx'.there;show wpAny _ _ (getattributeRaised _ _ _ _ _ _ _) _ _ _;unfold getattributeRaised
 repeat (any_goals (first|assumption|wp_step))
 exact h _ _ hx'.keeps
namespace F
theorem entry_dict_update_loop:entryFor table "dict.update.loop"=some Builtin.«dict.update.loop»:=entryFor_of_tree (by kernel_rfl)
theorem plain_dict_update_loop:plainId "dict.update.loop"=true:=by decide +kernel
end F
section
variable {prog:Program}{w:World}{A:Around}{R:Result->Shared->Prop}{I:Addr}{fp wr:List Addr}{G:Array GenState->Array GenState->Prop}{n:Nat}{P:Nat->Value->Prop}{St:Nat->Shared->Prop}{K:Type}[DecidableEq K]{knd:KeyKind prog w K}
theorem qkk{s T u v E Q}(h:s.heap.IsTuple T #[u,v])(hq:Q [u,v] s):wpAny (model prog w) A (Builtin.Dict.pairItems (.ref T)) Q E s:=by
 obtain⟨o,ho,hc,m,hd⟩:=h;have hT:s.TypeIs (.ref T) "tuple":=⟨o,ho,hc⟩;obtain⟨cls,dct,dat,sl⟩:=o;subst hc hd
 repeat (any_goals (first|assumption|wp_step))
end
end PySem
namespace Q
open PySem PySem.Spec PyProof.Rows L2 L3
theorem wx5{X Z q}:QA X Z q [] []:=Zw v8 fun σ H Q aj=>ex8 aj λE L r m w hc xc k=>by
 cases oq9 hc;exact k _ _ rfl [] L H rfl m w Step.refl λ_=>⟨λ_ _ z=>z,λ_ z=>(nomatch z)⟩
theorem wjf{X Z q c o e z ah aa}(ho:PE X o (tC (.str z)))(hc:QV X Z q c e)(hK:autoParam (X.K=Z.K) Ŕ)
  (au:autoParam (attributeBase o "join" X.env (eval o X.env)=eval o X.env) Ŕ)
  (c8:autoParam (((backTo aa (starEach [e] X.env)).all (λx=>!x.1)&&(backToKw aa (keywordEach [] X.env)).all (λx=>x.1.isSome)
   && decide ([e].length+([]:List Keyword).length+(if([]:List Keyword).isEmpty then 0 else 1)<30))=true) Ŕ)
  (aq:autoParam ((ah.endLine==aa.line)=true) Ŕ) (hs:autoParam (starEach [e] X.env=(false,eval e X.env)::starEach [] X.env) Ŕ) (ax:autoParam ((backTo aa (starEach [] X.env)).any (·.1)=false) Ŕ):
  QE X Z q (vk8 z c) (.Call (.Attribute o "join" ah) [e] [] aa):=
 k7 (vvv PySem.F.plainAttrs_str PySem.F.slot_str_join PySem.F.type_str_join vw9 ho (qW hc v8 hs) au c8 aq hs ax) fun σ H Q aj=>ex8 aj λE L r m w bj xc k=>by
  refine⟨?_,?_⟩
  ·rfl
  ·refine kX m w (bj) xc λE1 s h1 x L1 H1 e1 e2 m1 w1 ok fr sr st sm=>?_
   obtain⟨y,hz,rfl⟩:=wj h1;unfold qx7 at hz;cases hx:s.2 with
   | lst ds=>
    rw [hx]at hz;dsimp only at hz;cases hp:J9 ds with
    | none=>rw[hp]at hz;cases hz
    | some ys=>
     rw[hp]at hz;dsimp only at hz
     by_cases hl:(ys.map (·.length)).sum+ys.length*z.length<=100000
     ·rw[X6 hl]at hz;cases oq9 hz;obtain⟨a,xs,bs,ev,q1,ra⟩:=items ok (.inl (e2▸hx));have hq:SqL Z.K H1 a xs:=by
       rcases q1 with⟨_,t⟩|⟨t,_⟩
       ·exact t.sq
       ·grind
      have ex:=(kku hp ra.1).1;subst ex;have ae:(Txt.join z ys).length<=sizeLine:=joinOk_length (joinOk_of ⋯);exact⟨z,a,ys,rfl,by rw[ev],by rw[hK];exact hq,⋯,(k _ _ rfl _ L1 H1 rfl rfl m1 (w1.consPu (x:=⟨.dp,.str _,.str _,[]⟩) (show RepL Z.K H1 false _ _ []from VZ ae) rfl) (Q8 st (λb hb=>nomatch hb) rfl) λhq=>⟨sm hq,λ_ t=>(nomatch t)⟩)⟩
     ·rw[Xa hl]at hz;cases hz
   |_=>rw[hx]at hz;cases hz
section
variable {X:Cx}{Z:Fx0}{pn:List Nat}{q:Bool}{a b:Ex}{o e:Expr}{ah aa:Pos}
theorem wji(ha:QV X Z q a o)(hb:QV X Z true b e)(hK:autoParam (X.K=Z.K) Ŕ)
  (au:autoParam (attributeBase o "index" X.env (eval o X.env)=eval o X.env) Ŕ)
  (c8:autoParam (((backTo aa (starEach [e] X.env)).all (λx=>!x.1)&&(backToKw aa (keywordEach [] X.env)).all (λx=>x.1.isSome)
   && decide ([e].length+([]:List Keyword).length+(if([]:List Keyword).isEmpty then 0 else 1)<30))=true) Ŕ)
  (aq:autoParam ((ah.endLine==aa.line)=true) Ŕ) (hs:autoParam (starEach [e] X.env=(false,eval e X.env)::starEach [] X.env) Ŕ) (ax:autoParam ((backTo aa (starEach [] X.env)).any (·.1)=false) Ŕ):
  QE X Z q (vk9 a b) (.Call (.Attribute o "index" ah) [e] [] aa):=
 k7 (vvv PySem.F.plainAttrs_str PySem.F.slot_str_index PySem.F.type_str_index vwa ha (qW hb v8 hs) au c8 aq hs ax) fun σ H Q aj=>ex8 aj λE L r m w bj xc k=>by
  refine kX m w (bj) xc λE1 s h1 x L1 H1 e1 e2 m1 w1 ok fr sr st sm=>?_
  by_cases bw:qjm s.2=true
  ·rw [X6 bw]at h1;cases hx:s.2 with
   | str z=>
    have ev:=(wX ok (e2▸hx)).1;refine⟨by rw[ev];rfl,(kX m1 w1 h1 (xc.step st) λE2 s2 h2 y L2 H2 e3 e4 m2 w2 gp ot ou b8 cx=>?_)⟩;obtain⟨d,hz,rfl⟩:=wj h2;rw[hx]at hz;unfold qx8 at hz;cases hy:s2.2 with
    | str y'=>
     rw[hy]at hz;dsimp only at hz;cases ho:Builtin.Str.occurrences z y' 0 z.length 1 with
     |nil=>simp_all
     |cons i ab=>
      rw[ho]at hz;cases oq9 hz;exact⟨z,y',i,ab,ev,by rw[((wX gp (e4▸hy)).1)],ho,(k _ _ rfl _ L2 H2 rfl rfl m2 (w2.consPu (x:=⟨.dp,.int i,.int i,[]⟩) (show RepL Z.K H2 false _ _ []from xZ) rfl) (Q8 (st.trans b8) (λb hb=>nomatch hb) rfl) λhq=>⟨jY (sm hq) (cx rfl),λ_ t=>(nomatch t)⟩)⟩
    |_=>rw[hy]at hz;cases hz
   |_=>rw[hx]at bw;cases bw
  ·simp_all
end
theorem vvy{K H}{x:Sl}(ok:x.ok K H)(ht:zz x.sd=true)(nd:x.own.Nodup):∃cs,RepL K H false x.d x.v cs/\(∀a∈cs,a∈x.own)/\cs.Nodup:=by
 obtain⟨o,d,v,as⟩:=x;unfold zz at ht;rw [Bool.or_eq_true]at ht;rcases ht with ht|ht
 ·unfold kJ at ht;rw[Bool.or_eq_true]at ht;rcases ht with ht|ht
  ·have ho:o=.dp:=by
    cases o with|dp=>rfl|no=>cases ht|rt=>cases ht
   subst ho;exact⟨as,ok,λa h=>h,nd⟩
  ·obtain⟨_,r⟩:=RepL.pu (g':=false) (RepO.wk ok) ht;exact⟨[],r,λ_ h=>(nomatch h),Y7⟩
 ·rw[Bool.and_eq_true]at ht;have ho:o=.rt:=by
   have ht:(o==Own.rt)=true:=ht.1;cases o with|rt=>rfl|no=>cases ht|dp=>cases ht
  subst ho;cases d with
  | lst ds=>
   obtain⟨a,xs,bs,e,r,h,e2⟩:=(show RepR K H (.lst ds) v as from ok);obtain⟨_,r2⟩:=RepA.pu (g':=false) r ht.2;refine⟨[a],?_,λb hb=>?_,by simp⟩
   ·exact⟨a,xs,[],e,r2,.inl ⟨h,rfl⟩⟩
   ·rw[aC hb,e2];exact X4
  |_=>simp_all
noncomputable def PV(K:Frag)(H:Hp):List Nat->D->V->V->Prop
 |[],_,v,u=>u=v|n::p,.tup ds,v,u=>∃a xs x d,v=.ref a/\SqT K H a xs/\xs[n]?=some x/\(ds[n]?=some d/\xs.length=ds.length)/\PV K H p d x u|n::p,.lst ds,v,u=>∃a xs x d,v=.ref a/\H a=some (.lst xs)/\xs[n]?=some x/\(ds[n]?=some d/\xs.length=ds.length)/\PV K H p d x u|_::_,_,_,_=>False
section
variable {K:Frag}{H:Hp}
theorem PV.snoc:∀{p:List Nat} {n:Nat} {d:D} {v u:V},PV K H (p++[n]) d v u->∃d' w,PV K H p d v w/\PV K H [n] d' w u
 |[],n,d,v,u,h=>⟨d,v,rfl,h⟩
 |m::p,n,.tup ds,v,u,⟨a,xs,x,d,e,q,ex,ed,h⟩=>by
  obtain⟨d',w,h1,h2⟩:=PV.snoc (p:=p) h;exact⟨d',w,⟨a,xs,x,d,e,q,ex,ed,h1⟩,h2⟩
 |m::p,n,.lst ds,v,u,⟨a,xs,x,d,e,q,ex,ed,h⟩=>by
  obtain⟨d',w,h1,h2⟩:=PV.snoc (p:=p) h;exact⟨d',w,⟨a,xs,x,d,e,q,ex,ed,h1⟩,h2⟩
 |_::_,_,.non,_,_,h=>h.elim|_::_,_,.bl _,_,_,h=>h.elim|_::_,_,.int _,_,_,h=>h.elim|_::_,_,.str _,_,_,h=>h.elim|_::_,_,.dct _,_,_,h=>h.elim|_::_,_,.obj _ _,_,_,h=>h.elim
theorem PV.one{n:Nat}{d:D}{v u:V}(h:PV K H [n] d v u):∃a xs,v=.ref a/\(H a=some (.lst xs)\/SqT K H a xs)/\xs[n]?=some u:=by
 cases d with
 |tup ds=>
  obtain⟨a,xs,x,d,e,q,ex,ed,h⟩:=h;have h:u=x:=h;subst h;exact⟨a,xs,e,.inr q,ex⟩
 |lst ds=>
  obtain⟨a,xs,x,d,e,q,ex,ed,h⟩:=h;have h:u=x:=h;subst h;exact⟨a,xs,e,.inl q,ex⟩
 |_=>exact h.elim
structure Kx (H H':Hp)(as bs:List Addr):Prop where
 tup:∀a xs,H a=some (.tup xs)->H' a=some (.tup xs)
 frz:∀a o u,H a=some (.frz o u)->H' a=some (.frz o u)
 out:∀b∈as,b∉bs->∀ob,H b=some ob->H' b=some ob
theorem Kx.kp{H':Hp}{as bs cs:List Addr}(k:Kx H H' as bs)(h:∀b∈cs,b∈as/\b∉bs):Kp H H' cs:=⟨k.tup,k.frz,λa ha=>k.out a (h a ha).1 (h a ha).2⟩
theorem RepA.hole:∀{n:Nat} {ds:List D} {xs:List V} {as:List Addr} {dn:D},RepA K H false ds xs as->as.Nodup->ds[n]?=some dn->∃x bs,xs[n]?=some x/\RepL K H false dn x bs/\bs.Nodup/\(∀b∈bs,b∈as) /\
  ∀(H':Hp) (tz:D) (bp:List Addr),Kx H H' as bs->RepL K H' false tz x bp->bp.Nodup->(∀b∈as,b∉bs->b∉bp)->∃gc,RepA K H' false (ds.set n tz) xs gc/\gc.Nodup/\∀b∈gc,(b∈as/\b∉bs)\/b∈bp
 | _,[],_,_,_,_,_,e=>by simp at e
 | 0,d::ds,xs,as,dn,h,nd,e=>by
  have e:d=dn:=by simpa using e
  subst e;unfold RepA at h;obtain⟨x,r,bs,es,rfl,rfl,h1,h2⟩:=h;rw[Xb]at nd;refine⟨x,bs,rfl,h1,nd.1,λb hb=>ll9 _ hb,λH' tz bp kx r' ll hd=>?_⟩;have he:∀b∈es,b∈bs++es/\b∉bs:=λb hb=>⟨lr9 _ hb,λz=>nd.2.2 b z b hb rfl⟩
  refine⟨bp++es,?_,?_,λb hb=>?_⟩
  ·rw[List.set_cons_zero];unfold RepA;exact⟨x,r,bp,es,rfl,rfl,r',h2.kp (kx.kp he)⟩
  ·rw[Xb];refine⟨ll,nd.2.1,λa ha b hb i5=>?_⟩;subst i5;exact hd a (he a hb).1 (he a hb).2 ha
  ·rcases aA hb with z|z
   ·exact .inr z
   ·exact .inl (he b z)
 | n+1,d::ds,xs,as,dn,h,nd,e=>by
  unfold RepA at h;obtain⟨x,r,bs,es,rfl,rfl,h1,h2⟩:=h;rw[Xb]at nd;obtain⟨y,fs,q1,q2,q3,q4,q5⟩:=RepA.hole (n:=n) h2 nd.2.1 (by simpa using e);have hb:∀b∈bs,b∈bs++es/\b∉fs:=λb hb=>⟨ll9 _ hb,λz=>nd.2.2 b hb b (q4 b z) rfl⟩
  refine⟨y,fs,by simpa using q1,q2,q3,λb hb=>lr9 _ (q4 b hb),λH' tz bp kx r' ll hd=>?_⟩;obtain⟨gc,a1,a2,a3⟩:=q5 H' tz bp ⟨kx.tup,kx.frz,λb hb=>kx.out b (lr9 _ hb)⟩ r' ll (λb hb=>hd b (lr9 _ hb));refine⟨bs++gc,?_,?_,λb hb2=>?_⟩
  ·rw[List.set_cons_succ];unfold RepA;exact⟨x,r,bs,gc,rfl,rfl,h1.kp (kx.kp hb),a1⟩
  ·rw[Xb];refine⟨nd.1,a2,λa ha b hb2 i5=>?_⟩;subst i5;rcases a3 a hb2 with z|z
   ·exact nd.2.2 a ha a z.1 rfl
   ·exact hd a (hb a ha).1 (hb a ha).2 z
  ·rcases aA hb2 with z|z
   ·exact .inl (hb b z)
   ·exact(a3 b z).imp (λz=>⟨lr9 _ z.1,z.2⟩) id
theorem RepL.hole:∀{p:List Nat} {d d1:D} {v:V} {as:List Addr},RepL K H false d v as->as.Nodup->D.at p d=some d1->∃v1 gi,PV K H p d v v1/\RepL K H false d1 v1 gi/\gi.Nodup/\(∀b∈gi,b∈as) /\
  ∀ (H':Hp) (d':D) (bp:List Addr),Kx H H' as gi->RepL K H' false d' v1 bp->bp.Nodup->(∀b∈as,b∉gi->b∉bp)->∃gc,RepL K H' false (D.put d' p d) v gc/\gc.Nodup/\∀b∈gc,(b∈as/\b∉gi)\/b∈bp
 | [],d,d1,v,as,h,nd,e=>by
  cases oq9 (show some d=some d1 from e);exact⟨v,as,rfl,h,nd,λ_ h=>h,λH' d' bp kx r' ll hd=>⟨bp,r',ll,λb hb=>.inr hb⟩⟩
 | n::p,.tup ds,d1,v,as,h,nd,e=>by
  unfold D.at at e;cases hn:ds[n]? with
  | none=>rw[hn]at e;cases e
  | some dn=>
   rw[hn]at e;unfold RepL at h;obtain⟨a,xs,e1,sq,ra⟩:=h;obtain⟨x,bs,q1,q2,q3,q4,q5⟩:=RepA.hole ra nd hn;obtain⟨v1,gi,p1,p2,p3,p4,p5⟩:=RepL.hole (p:=p) q2 q3 e;refine⟨v1,gi,⟨a,xs,x,dn,e1,sq,q1,⟨hn,ra.len.symm⟩,p1⟩,p2,p3,λb hb=>q4 b (p4 b hb),λH' d' bp kx r' ll hd=>?_⟩;obtain⟨cs,c1,c2,c3⟩:=p5 H' d' bp ⟨kx.tup,kx.frz,λb hb=>kx.out b (q4 b hb)⟩ r' ll (λb hb=>hd b (q4 b hb));obtain⟨gc,a1,a2,a3⟩:=q5 H' _ cs ⟨kx.tup,kx.frz,λb hb hn=>kx.out b hb λz=>hn (p4 b z)⟩ c1 c2 (λb hb hn z=>by
    rcases c3 b z with z|z
    ·exact hn z.1
    ·exact hd b hb (λz=>hn (p4 b z)) z)
   refine⟨gc,?_,a2,λb hb=>?_⟩
   ·unfold D.put;rw[hn];dsimp only;unfold RepL;exact⟨a,xs,e1,Kp.tupT (as:=[]) ⟨kx.tup,kx.frz,λ_ h=>nomatch h⟩ sq,a1⟩
   ·rcases a3 b hb with z|z
    ·exact .inl ⟨z.1,λy=>z.2 (p4 b y)⟩
    ·exact(c3 b z).imp (λz=>⟨q4 b z.1,z.2⟩) id
 | n::p,.lst ds,d1,v,as,h,nd,e=>by
  unfold D.at at e;cases hn:ds[n]? with
  | none=>rw[hn]at e;cases e
  | some dn=>
   rw[hn]at e;unfold RepL at h;obtain⟨a,xs,fs,e1,ra,sq⟩:=h;rcases sq with⟨sq,rfl⟩|⟨z,_⟩
   rotate_left
   ·cases z
   rw[List.nodup_cons]at nd;obtain⟨x,bs,q1,q2,q3,q4,q5⟩:=RepA.hole ra nd.2 hn;obtain⟨v1,gi,p1,p2,p3,p4,p5⟩:=RepL.hole (p:=p) q2 q3 e;have ha1:a∉gi:=λz=>nd.1 (q4 a (p4 a z))
   refine⟨v1,gi,⟨a,xs,x,dn,e1,sq,q1,⟨hn,ra.len.symm⟩,p1⟩,p2,p3,λb hb=>lc9 _ (q4 b (p4 b hb)),λH' d' bp kx r' ll hd=>?_⟩;obtain⟨cs,c1,c2,c3⟩:=p5 H' d' bp ⟨kx.tup,kx.frz,λb hb=>kx.out b (lc9 _ (q4 b hb))⟩ r' ll (λb hb=>hd b (lc9 _ (q4 b hb)));obtain⟨gc,a1,a2,a3⟩:=q5 H' _ cs ⟨kx.tup,kx.frz,λb hb hn=>kx.out b (lc9 _ hb) λz=>hn (p4 b z)⟩ c1 c2 (λb hb hn z=>by
    rcases c3 b z with z|z
    ·exact hn z.1
    ·exact hd b (lc9 _ hb) (λz=>hn (p4 b z)) z)
   have h3:∀b∈gc,(b∈fs/\b∉gi)\/b∈bp:=λb hb=>by
    rcases a3 b hb with z|z
    ·exact .inl ⟨z.1,λy=>z.2 (p4 b y)⟩
    ·exact(c3 b z).imp (λz=>⟨q4 b z.1,z.2⟩) id
   refine⟨a::gc,?_,List.nodup_cons.mpr ⟨λz=>?_,a2⟩,λb hb=>?_⟩
   ·unfold D.put;rw[hn];dsimp only;unfold RepL;exact⟨a,xs,gc,e1,a1,.inl ⟨kx.out a X4 ha1 _ sq,rfl⟩⟩
   ·rcases h3 a z with z|z
    ·exact nd.1 z.1
    ·exact hd a X4 ha1 z
   ·rcases aD hb with rfl|hb
    ·exact .inl ⟨X4,ha1⟩
    ·exact(h3 b hb).imp (λz=>⟨lc9 _ z.1,z.2⟩) id
 |_::_,.non,_,_,_,_,_,e=>by cases e|_::_,.bl _,_,_,_,_,_,e=>by cases e|_::_,.int _,_,_,_,_,_,e=>by cases e|_::_,.str _,_,_,_,_,_,e=>by cases e|_::_,.dct _,_,_,_,_,_,e=>by cases e|_::_,.obj _ _,_,_,_,_,_,e=>by cases e
theorem vW{y:Sl}(h:y.o=.dp):y.own=y.as:=by unfold Sl.own;rw[h]
theorem World.hole{L:Ls}{y:Sl}{p:List Nat}{d1:D}(w:World K H (some y::L))(ho:y.o=.dp)(h:D.at p y.d=some d1):∃y1:Sl,y1.o=.dp/\y1.d=d1/\PV K H p y.d y.v y1.v/\World K H (some y1::L) /\
  ∀ (He:Hp) (Le:Ls) (z:Sl),World K He (some z::Le)->Step H (some y1::L) He (some z::Le)->z.o=.dp->z.v=y1.v->∃y':Sl,y'.o=.dp/\y'.d=D.put z.d p y.d/\y'.v=y.v/\World K He (some y'::Le)/\Step H (some y::L) He (some y'::Le):=by
 have ok:RepL K H false y.d y.v y.as:=by
  have:=w.ok y X4;unfold Sl.ok at this;rw[ho]at this;exact this
 have nd:=w.nd;rw [jv,vW ho,Xb]at nd;have ds:=w.ds;obtain⟨v1,gi,p1,p2,p3,p4,p5⟩:=RepL.hole ok nd.1 h;have al:∀b∈y.as,H b≠none:=λb hb z=>by
  rcases w.own_al (a:=b) (by rw[jv,vW ho];exact ll9 _ hb)with⟨_,q⟩|⟨_,q⟩|⟨_,q⟩<;>· rw[z]at q;cases q
 refine⟨⟨.dp,d1,v1,gi⟩,rfl,rfl,p1,⟨λx hx=>?_,?_,λa ha=>?_⟩,λHe Le z wz st zo zv=>?_⟩
 ·rcases aD hx with e|hx
  ·cases e;exact p2
  ·exact w.ok x (lc9 _ hx)
 ·rw[jv,Xb];exact⟨p3,nd.2.1,λa ha b hb=>nd.2.2 a (p4 a ha) b hb⟩
 ·have r0:a∈j5 (some y::L):=by
   rw[jv]at ha ⊢;rcases aA ha with ha|ha
   ·exact ll9 _ (by rw[vW ho];exact p4 a ha)
   ·exact lr9 _ ha
  have:=ds a r0;rw[k8]at this ⊢;intro q;rcases aA q with q|q
  ·cases q
  ·exact this (lr9 _ q)
 ·have okz:RepL K He false z.d v1 z.as:=by
   have:=wz.ok z X4;unfold Sl.ok at this;rw[zo,zv]at this;exact this
  have ndz:=wz.nd;rw[jv,vW zo,Xb]at ndz;have no1:∀b∈y.as,b∉gi->b∉j5 (some (⟨.dp,d1,v1,gi⟩:Sl)::L):=λb hb hn q=>by
   rw[jv]at q;rcases aA q with q|q
   ·exact hn q
   ·exact nd.2.2 b hb b q rfl
  have noz:∀b∈y.as,b∉gi->b∉j5 (some z::Le):=λb hb hn q=>by
   rcases st.own b q with q|q
   ·exact no1 b hb hn q
   ·exact al b hb q
  have nof:∀b∈y.as,b∉gi->b∉jx Le:=λb hb hn q=>by
   rcases st.frz b (by rw[k8];exact lr9 _ q)with q|q|q
   ·rw[k8]at q;rcases aA q with q|q
    ·cases q
    ·exact ds b (by rw[jv,vW ho];exact ll9 _ hb) (by rw[k8];exact lr9 _ q)
   ·exact no1 b hb hn q
   ·exact al b hb q
  have tupk:∀a xs,H a=some (.tup xs)->He a=some (.tup xs):=λa xs e=>st.keep a _ e λq=>by
   have q2:a∈j5 (some y::L):=by
    rw[jv]at q ⊢;exact List.mem_append.mpr ((aA q).imp (λq=>by rw[vW ho];exact p4 a q) id)
   rcases w.own_al q2 with⟨_,q⟩|⟨_,q⟩|⟨_,q⟩<;>· rw[e]at q;cases q
  have frzk:∀a o u,H a=some (.frz o u)->He a=some (.frz o u):=λa o u e=>st.keep a _ e λq=>by
   have q2:a∈j5 (some y::L):=by
    rw[jv]at q ⊢;exact List.mem_append.mpr ((aA q).imp (λq=>by rw[vW ho];exact p4 a q) id)
   rcases w.own_al q2 with⟨_,q⟩|⟨_,q⟩|⟨_,q⟩<;>· rw[e]at q;cases q
  obtain⟨gc,a1,a2,a3⟩:=p5 He z.d z.as ⟨tupk,frzk,λb hb hn ob e=>st.keep b ob e (no1 b hb hn)⟩ okz ndz.1 (λb hb hn q=>noz b hb hn (by rw[jv,vW zo];exact ll9 _ q));have sub:∀b∈j5 (some z::Le),b∈j5 (some y::L)\/H b=none:=λb hb=>(st.own b hb).imp (λq=>by
   rw[jv]at q ⊢;exact List.mem_append.mpr ((aA q).imp (λq=>by rw[vW ho];exact p4 b q) id)) id
  refine⟨⟨.dp,D.put z.d p y.d,y.v,gc⟩,rfl,rfl,rfl,⟨λx hx=>?_,?_,λa ha q=>?_⟩,⟨λa ob e hn=>st.keep a ob e λq=>hn ?_,λa ha=>?_,λa ha=>?_⟩⟩
  ·rcases aD hx with e|hx
   ·cases e;exact a1
   ·exact wz.ok x (lc9 _ hx)
  ·rw[jv,Xb];refine⟨a2,ndz.2.1,λa ha b hb i5=>?_⟩;subst i5;rcases a3 a ha with q|q
   ·exact noz a q.1 q.2 (by rw[jv];exact lr9 _ hb)
   ·exact ndz.2.2 a q a hb rfl
  ·have q:a∈jx Le:=by
    rw[k8]at q;rcases aA q with q|q
    ·cases q
    ·exact q
   rw[jv]at ha;have fz:a∈jx (some z::Le):=by rw[k8];exact lr9 _ q
   rcases aA ha with ha|ha
   ·rcases a3 a ha with r|r
    ·exact nof a r.1 r.2 q
    ·exact wz.ds a (by rw[jv,vW zo];exact ll9 _ r) fz
   ·exact wz.ds a (by rw[jv];exact lr9 _ ha) fz
  ·rw[jv]at q ⊢;exact List.mem_append.mpr ((aA q).imp (λq=>by rw[vW ho];exact p4 a q) id)
  ·rw[jv]at ha;rcases aA ha with ha|ha
   ·rcases a3 a ha with q|q
    ·exact .inl (by rw[jv,vW ho];exact ll9 _ q.1)
    ·exact sub a (by rw[jv,vW zo];exact ll9 _ q)
   ·exact sub a (by rw[jv];exact lr9 _ ha)
  ·have q:a∈jx Le:=by
    rw[k8]at ha;rcases aA ha with q|q
    ·cases q
    ·exact q
   rcases st.frz a (by rw[k8];exact lr9 _ q)with r|r|r
   ·refine .inl ?_;rw[k8]at r ⊢;rcases aA r with r|r
    ·cases r
    ·exact lr9 _ r
   ·refine .inr (.inl ?_);rw[jv]at r ⊢;exact List.mem_append.mpr ((aA r).imp (λq=>by rw[vW ho];exact p4 a q) id)
   ·exact .inr (.inr r)
end
abbrev tP(K:Frag)(i:Nat)(p:List Nat):TE:=fun σ H Q=>∃d v u,σ[i]?=some (some v)/\PV K H p d v u/\Q u H
theorem qz2{xs}{n:Nat}{x:V}(h:xs[n]?=some x):atI xs n=some x:=by
 have e:L2.ixN xs.length n=some n:=by
  unfold L2.ixN;simp[((List.getElem?_eq_some_iff.mp h).1)]
 unfold atI
 rwa [e]
section
variable {X:Cx}{Z:Fx0}{pn:List Nat}{q:Bool}{c:Ex}{e ep:Expr}{i:Nat}{p:List Nat}{pos:Pos}
theorem kj3 K (h:PE X e (xj i)):PE X e (tP K i []):=k7 h fun σ H Q ⟨d,v,u,hv,hu,q⟩=>by
 subst hu;exact⟨u,hv,q⟩
theorem jzm{K z j bm}(n:Nat)(h:PE X e (tP K i p))(bn:kqz (.Constant (.int z) j bm))(hK:autoParam (X.K=K) Ŕ)(hz:autoParam (z=n) Ŕ):PE X (.Subscript e (.Constant (.int z) j bm) pos) (tP K i (p++[n])):=
 k7 (wka (hK▸vq2) h vkp bn) fun σ H Q ⟨d,v,u,hv,hu,q⟩=>by
  subst hz;obtain⟨d',w,h1,h2⟩:=hu.snoc;obtain⟨a,xs,e1,sq,ex⟩:=h2.one;refine⟨d,v,w,hv,h1,?_⟩;rcases sq with sq|sq
  ·exact .inl ⟨a,xs,n,u,e1,rfl,.inl (.inl sq),qz2 ex,q⟩
  ·exact .inr (.inl ⟨a,xs,n,u,e1,rfl,sq,qz2 ex,q⟩)
theorem jzi{K H L y}(w:World K H L)(h:L[i]?=some (some y)):World K H (some y::L.set i none)/\Step H L H (some y::L.set i none):=by
 have wn:World K H (none::L):=⟨λy hy=>w.ok y (by simpa using hy),by simpa using w.nd,by simpa using w.ds⟩;have sn:Step H L H (none::L):=⟨λ_ _ z _=>z,λa z=>.inl (by simpa using z),λa z=>.inl (by simpa using z)⟩;exact⟨wn.perm (jvn h),sn.trans (Step.refl.perm (List.Perm.refl _) (jvn h))⟩
theorem World.clr{K H}{M:Ls}{y ds}(w:World K H (some y::M))(ho:y.o=.dp)(hd:y.d=.lst ds):∃l xs,y.v=.ref l/\H l=some (.lst xs) /\
  ∃z,z.o=.dp/\z.d=.lst []/\z.v=y.v/\World K (upd H l (.lst [])) (some z::M)/\Step H (some y::M) (upd H l (.lst [])) (some z::M):=by
 obtain⟨l,xs,bs,c1,c2,c3,c4,c5⟩:=kwi (w.ok y X4) hd ho;refine⟨l,xs,c1,c2,⟨.dp,.lst [],y.v,[l]⟩,rfl,rfl,rfl,World.write (T:=[]) w (c4▸X4) ?_ (by simp[Sl.own]) (λa ha=>.inl ?_) (λa ha=>nomatch ha) (λa ha z=>nomatch z)⟩
 ·exact⟨l,[],[],c1,⟨rfl,rfl⟩,.inl ⟨wQ,rfl⟩⟩
 ·rw[c4,aC ha];exact X4
theorem qqk{K H l xs}(h:H l=some (.lst xs)):tyV K "list" (.ref l) H:=.inl ⟨rfl,xs,.inl (.inl h)⟩
theorem xj0(hP:PE X ep (tP Z.K i p))(hK:autoParam (X.K=Z.K) Ŕ)(hm:MtR X "list.clear" kvk){ah aa c9}
  (au:autoParam (attributeBase ep "clear" X.env (eval ep X.env)=eval ep X.env) Ŕ) (aq:autoParam ((ah.endLine==aa.line)=true) Ŕ)
  (i7:autoParam (swapsWith (.Call (.Attribute ep "clear" ah) [] [] aa) none c9.line X.env=pure false) Ŕ):
  QS X Z pn (sPC i p) (.Expr (.Call (.Attribute ep "clear" ah) [] [] aa) c9):=
 zq (kj4 (kxb Z.K Z4 PySem.F.slot_list_clear PySem.F.type_list_clear hm hP au aq hK) i7) λDe σ H aj=>ex7 aj λE L r m w bj k=>by
 unfold sPC at bj
 split at bj
 rotate_left
 ·cases bj
 rename_i d hE
 split at bj
 rotate_left
 ·cases bj
 rename_i ds fi;cases oq9 bj;obtain⟨y,a1,a2,a3,a4⟩:=m.get hE;obtain⟨w0,s0⟩:=jzi w a1;obtain⟨y1,b1,b2,b3,b4,b5⟩:=w0.hole a2 (a3▸fi);obtain⟨l,xs,c1,c2,z,z1,z2,z3,z4,z5⟩:=World.clr b4 b1 b2;refine⟨y.d,y.v,y1.v,a4,b3,by rw[c1];exact qqk c2,?_⟩;obtain⟨y',g1,g2,g3,g4,g5⟩:=b5 _ _ z z4 z5 z1 z3;refine⟨l,xs,c1,rfl,c2,?_⟩;have mm:=W5 (i:=i) (s:=(.dp,Q.D.put _ p d)) (Kw i m) g1 (by rw[g2,z2,a3]);rw[g3,Jj a4,List.set_set]at mm;exact k σ _ _ Pn.refl mm g4.set (s0.trans (g5.trans Step.set))
theorem wxm{u}:∀{E σ} {L} j,Mt E σ L->Mt (E.set j none) (σ.set j u) (L.set j none):=by
 intro E σ L j m
 induction m generalizing j with
 |nil=>exact .nil
 |un m ih=>cases j with|zero=>exact .un m|succ j=>exact .un (ih j)
 |cons m ih=>cases j with|zero=>exact .un m|succ j=>exact .cons (ih j)
theorem World.out1{K H}{L} r (w:World K H L):World K H (L.set r none)/\Step H L H (L.set r none):=by
 cases h:L[r]? with
 | none=>
  rw[show L.set r none=L from List.set_eq_of_length_le (by simpa using h)];exact⟨w,Step.refl⟩
 | some q=>
  cases q with
  |none=>
   rw[Jj h];exact⟨w,Step.refl⟩
  |some y=>
   obtain⟨w1,s1⟩:=jzi w h;exact⟨w1.tail,s1.trans Step.drop⟩
theorem Wz(hc:QE X Z q c e):QE X Z q (K5 c) e:=k7 hc fun σ H Q aj=>ex8 aj λE L r m w hr xc k=>by
 rcases vK hr with⟨E1,s,h1,h2⟩|⟨E1,cc,h1,h2⟩
 ·refine⟨E,L,_,m,w,h1,(λ_ _ z=>by cases z),λE' s' z x L' H' e1 e2 m' w' st sm=>?_⟩;injection z with z1 z2;subst z1 z2
  split at h2
  rotate_left
  ·grind
  rename_i hown;cases oq9 h2;have xn:x.own.Nodup:=by
   have:=w'.nd;exact(List.nodup_append.mp this).1
  obtain⟨cs,rx,lq,n0⟩:=vvy w'.head (by unfold Sl.sd;rw[e1,e2];exact hown) xn;have nd:=w'.nd;rw[jv,Xb]at nd;refine k _ _ rfl ⟨.dp,x.d,x.v,cs⟩ L' H' rfl e2 m' ⟨λy hy=>?_,?_,λa ha=>?_⟩ ⟨st.keep,λa ha=>?_,λa ha=>?_⟩ λhq=>⟨(sm hq).1,λb hb=>(sm hq).2 b (lq b hb)⟩
  ·rcases aD hy with z|z
   ·cases z;exact rx
   ·exact w'.ok y (lc9 _ z)
  ·rw[jv,Xb];exact⟨n0,nd.2.1,λa ha b hb=>nd.2.2 a (lq a ha) b hb⟩
  ·have r0:a∈j5 (some x::L'):=by
    rw[jv]at ha ⊢;exact List.mem_append.mpr ((aA ha).imp (lq a) id)
   intro q2;rw[k8]at q2;exact w'.ds a r0 (lr9 _ ((aA q2).elim (λz=>nomatch z) id))
  ·refine st.own a ?_;rw[jv]at ha ⊢;exact List.mem_append.mpr ((aA ha).imp (lq a) id)
  ·refine st.frz a ?_;rw[k8]at ha ⊢;exact lr9 _ ((aA ha).elim (λz=>nomatch z) id)
 ·exact⟨E,L,_,m,w,h1,xc.map h2,λE' s' z=>by cases z⟩
end
end Q
namespace PySem
section
variable {prog:Program}{w:World}{A:Around}{E:VP9}{s:Shared}
def qzd(h:Heap)(d:Addr)(n:Nat):Prop:=∃o es ep,h.get? d=some o/\o.cls=.type "dict"/\o.data=.dict es ep/\es.size=n
theorem kjb(d)(hd:(d==sysModules)=false):
  MeetsIn prog w (Builtin.«dict.__len__» ⟨[.ref d],[]⟩) (λ_ R s=>∃n,qzd s.heap d n/\R (.ok (.ret (.int n s.toks))) {s with toks:=s.toks+1}):=
 .of_wp λA R s ⟨n,⟨o,es,ep,ho,hc,fw,hz⟩,h⟩=>by
  show wpAny _ _ (dictSize d >>= _) _ _ s;refine X0 (X0 (wpAny_dictEntries ho fw (X3 (X0 (wpAny_pendingCount_other hd (wpAny_ret_mkInt ?_))))));rw[hz];exact h
theorem kk0{d n}{Q:VP9}(hd:(d==sysModules)=false)(hm:qzd s.heap d n)(ir:(n:Int)<2 ^ 63)
  (h:Q (.int n (s.toks+1)) {s with toks:=s.toks+1+1}):wpAny (model prog w) A (Builtin.«len» ⟨[.ref d],[]⟩) (λfin s'=>∃r,fin=.done (.ret r)/\Q r s') E s:=by
 have ht:s.TypeIs (.ref d) "dict":=by obtain⟨o,es,ep,ho,hc,_⟩:=hm;exact⟨o,ho,hc⟩
 refine X0 (m:=callSpecial? _ _) (Yo ht F.slot_dict_len
  (call_meetsIn F.slot_dict_len ht F.entry_dict_len (F.args_dict_len_1 _) (kjb d hd) ⟨n,hm,?_⟩))
 show wpAny _ _ (if _>=2 ^ 63 then _ else _) _ _ _;rw[Xa ⋯];exact X0 (wpAny_mkInt (X3 ⟨_,rfl,h⟩))
theorem kk4{d n Q}(hd:(d==sysModules)=false)(hm:qzd s.heap d n)(ir:(n:Int)<2 ^ 63)
  (h:Q (.int n (s.toks+1)) {s with toks:=s.toks+1+1}):wpAny (model prog w) A (call (.builtin "len") [.ref d]) Q E s:=
 Calls.call_function_entry kind_len plain_len entry_len (args_len1 _) (kk0 hd hm ir h)
end
end PySem
namespace Q
open PySem PySem.Spec PyProof.Rows L2 L3
theorem qx2 {K H k}: ∀{a9 xs bs} {es : List Ent},RepP K H true a9 xs bs -> a9.map (·.1) = es.map (·.1.1) -> Vals xs (es.map (·.2.2)) -> D.pures (a9.map (·.2)) = true ->
    (∀ p,atKey es k = some p -> ∃d v,KQ a9 k.1 = some d /\ RelV v p.2 /\ RepL K H false d v [] /\ d.pure = true) /\ (atKey es k = none -> KQ a9 k.1 = none)
  | [],_,_,[],_,_,_,_=>⟨λp h=>(by cases h),λ_=>rfl⟩| [],_,_,_::_,_,h,_,_=>by cases h| _ :: _,_,_,[],_,h,_,_=>by cases h
  | (q,d)::a9,xs,bs,e::es,hr,hk,hv,hp=>by
    obtain⟨x,r,b1,c1,rfl,_,h1,h2⟩:= hr;injection hk with k1 k2;rw [List.map_cons]at hv hp;cases hv with
    | cons v1 v2=>
      unfold D.pures at hp;rw [Bool.and_eq_true]at hp;have k1 : q = e.1.1:= k1
      by_cases he : e.1 = k
      · have hq : q = k.1:= by rw[k1,he]
        have hg : KQ ((q,d)::a9) k.1 = some d:= by unfold KQ; rw[List.find?_cons_of_pos (by simp[hq])]; rfl
        have ha : atKey (e::es) k = some e.2:= by
          obtain⟨ek,ev⟩:= e;have he : ek = k:= he;simp[atKey,he]
        refine⟨λp hp'=> ?_,λhn=> ?_⟩
        · rw[ha]at hp'
          cases oq9 hp';exact⟨d,x,hg,v1,(RepL.pu (g':= false) h1 hp.1).2,hp.1⟩
        · grind
      · have hq : q≠k.1:= λz=>he (Subtype.ext (k1▸z))
        have hg : KQ ((q,d)::a9) k.1 = KQ a9 k.1:= by unfold KQ; rw[List.find?_cons_of_neg (by simp[hq])]
        have ha : atKey (e::es) k = atKey es k:= by
          simp[atKey,he]
        rw[hg,ha];exact(qx2 h2 k2 v2 hp.2)
end Q
namespace PySem
open Sem (wp)
section
variable {prog:Program}{w:World}{A:Around}{E:VP9}{s:Shared}
theorem jx6{R:Result->Shared->Prop}{r:Addr}{a b c:Int}{t u v:Tok}{n:Nat}(hh:A.handled=none)(hr:IsRange s.heap r a b c t u v)(cq:Builtin.Range.small a b c=true)
  (hn:Builtin.Range.rangeSize a b c=n) (ae:n<=2 ^ 24)
  (hR:∀h' tk ac c',(∀b o,s.heap.get? b=some o->h'.get? b=some o)->h'.get? s.heap.objs.size=some {cls:=.type "list",dict:=none,data:=.seq ac c',slots:=#[]}->ItemsOf (λi v=>∃t,v=.int (a+i*c) t) ac n->R (.ok (.ret (.ref s.heap.objs.size))) {s with heap:=h',toks:=tk}):
  codeAny (model prog w) A (.builtin "proto.collect" ⟨[.ref r],[]⟩) R s:=by
 refine Yi F.entry_proto_collect ?_;rw[Yr F.plain_proto_collect _];refine X0 (Ya ?_);refine X3 ⟨Z7 F.plain_list_iadd _,Yi F.entry_list_iadd ?_⟩;rw[Yr F.plain_list_iadd _];exact wpAny_extend_range (s:={s with heap:=s.heap.push {cls:=.type "list",data:=.seq ([]:List Value).toArray}}) hh (X1 _ hr) cq hn ae s.heap.objs.size _ 0 (Xe _ rfl) λh' tk bz c' hk gf dh=>hR h' tk bz c' (λb o e=>hk b o (Xj (Xd e)) (X1 _ e)) gf dh
theorem jwh{Q:List Value->Shared->Prop}{r:Addr}{a b c:Int}{t u v:Tok}{n:Nat}(hh:A.handled=none)(hr:IsRange s.heap r a b c t u v)(cq:Builtin.Range.small a b c=true)
  (hn:Builtin.Range.rangeSize a b c=n) (ae:n<=2 ^ 24)
  (hQ:∀h' tk ac,(∀b o,s.heap.get? b=some o->h'.get? b=some o)->ItemsOf (λi v=>∃t,v=.int (a+i*c) t) ac n->Q ac.toList {s with heap:=h',toks:=tk}):
  wpAny (model prog w) A (collect (.ref r)) Q E s:=by
 refine X0 (wpAny_runValue (jx6 hh hr cq hn ae λh' tk bz c' hk gf dh=>?_));refine X0 (wpAny_load gf ?_);exact X3 (hQ h' tk bz hk dh)
theorem jvo(r:Addr)(a b c:Int)(n:Nat)(cq:Builtin.Range.small a b c=true)(hn:Builtin.Range.rangeSize a b c=n)(ae:n<=2 ^ 24):
  Meets (Builtin.«tuple.__new__» ⟨[.type "tuple",.ref r],[]⟩)
   (λA R s=>A.handled=none/\(∃t u v,IsRange s.heap r a b c t u v)/\∀(h':Heap) (tk:Nat) (ac:Array Value),(∀b o,s.heap.get? b=some o->h'.get? b=some o)->ItemsOf (λi v=>∃t,v=.int (a+i*c) t) ac n ->
    R (.ok (.ret (.ref h'.objs.size))) {s with heap:=h'.push {cls:=.type "tuple",data:=.seq ac},toks:=tk}):=
 .of_wp λprog w A R s h=>by
  obtain⟨hh,⟨t,u,v,hr⟩,h⟩:=h;have gq:=sub_tuple_self;have hinit:=init_tuple_lookup;have hmh:=madeHere_tuple;have hT:s.TypeIs (.ref r) "range":=⟨_,hr,rfl⟩;have hh1:A.in1.handled=none:=hh
  wp_walk using Ze hT,jwh hh1 hr cq hn ae
  intro h' tk ac hk dh;show wpAny _ _ (Builtin.Tuple.tupleExact ac.toList.toArray >>= λv=>ret v) _ _ _;unfold Builtin.Tuple.tupleExact;refine X0 (Ya ?_ (show ac.toList.toArray.size<=sizeLine by simp only[Array.toArray_toList];rw[dh.1,Yp];lia));refine X3 ⟨_,rfl,?_⟩;have e:ac.toList.toArray=ac:=by simp
  rw[e];exact h h' tk ac hk dh
theorem jzf{Q:VP9}{r:Addr}{a b c:Int}{t u v:Tok}{n:Nat}(hh:A.handled=none)(hr:IsRange s.heap r a b c t u v)(cq:Builtin.Range.small a b c=true)(hn:Builtin.Range.rangeSize a b c=n)(ae:n<=2 ^ 24)
  (h:∀(h':Heap) tk ac,(∀b o,s.heap.get? b=some o->h'.get? b=some o)->ItemsOf (λi v=>∃t,v=.int (a+i*c) t) ac n->Q (.ref h'.objs.size) {s with heap:=h'.push {cls:=.type "tuple",data:=.seq ac},toks:=tk}):
  wpAny (model prog w) A (call (.type "tuple") [.ref r]) Q E s:=by
 refine callType_new F.called_tuple ⋯ (F.typeCall_tuple_1 _) (F.newCall_tuple_1 _) (λobj=>F.args_object_init_2 obj _) F.entry_tuple_new
  (jvo r a b c n cq hn ae) ⟨hh,⟨t,u,v,hr⟩,λh' tk ac hk dh=>⟨⟨_,Xe _ rfl,rfl⟩,?_⟩⟩
 exact h h' tk ac hk dh
end
end PySem
namespace Q
open PySem PySem.Spec PyProof.Rows L2 L3
section
variable {X:Cx}{Z:Fx0}{pn:List Nat}{q:Bool}{a b:Ex}{e ea:Expr}{p pos:Pos}
theorem wwu{p2 b9:Pos}(ha:QV X Z q a ea)(qc:X.mg "range"=none)(hml:X.mg "tuple"=none)(hc:autoParam (X.calm=true) Ŕ)(qi:autoParam (Gl X "range") Ŕ)(t9:autoParam (Gl X "tuple") Ŕ)
  (bw:autoParam (starEach [ea] X.env=(false,eval ea X.env)::starEach [] X.env) Ŕ) (bn:autoParam ((backTo b9 (starEach [] X.env)).any (·.1)=false) Ŕ)
  (jl:autoParam (starEach [.Call (.Name "range" p2) [ea] [] b9] X.env=(false,eval (.Call (.Name "range" p2) [ea] [] b9) X.env)::starEach [] X.env) Ŕ) (mr:autoParam ((backTo pos (starEach [] X.env)).any (·.1)=false) Ŕ):
  QE X Z q (wvz a) (.Call (.Name "tuple" p) [.Call (.Name "range" p2) [ea] [] b9] [] pos):=by
 intro a7 s σ H Q I ⟨E,L,r,m,w,bj,xc,k⟩;refine Yq (xW I t9 hml W2 ?_);refine Xx (thn (qW (vko ha qc qi bw bn) v8 jl pos a7 s σ H (λvs H1=>∃pp j,vs=[.ref pp]/\H1 pp=some (.rng 0 j)/\vX j=true/\j.toNat<=big/\∀l,H1 l=none->Q (.ref l) (upd H1 l (.tup ((List.range j.toNat).map λ(i:Nat)=>V.int (0+(i:Int)))))) I ?_) λus s1 ⟨vs,H1,I1,r1,pp,j,e,hp,h62,i9,q1⟩=>?_) jl mr
 ·refine kX m w (show bnd (a E) _=some r from bj) xc λE1 s h1 x L1 H1 e1 e2 m1 w1 ok fr sr st sm=>?_
  cases hx:s.2 with
  | int j=>
   rw[hx]at h1;dsimp only at h1
   split at h1
   ·rename_i hj;cases oq9 h1;refine⟨j,kz ok (e2.trans hx),λpp hpp=>⟨pp,j,rfl,wQ,hj.1,hj.2,λl hl=>?_⟩⟩;have s1:jJ H1 (upd H1 pp (.rng 0 j)):=qY hpp;have w2:World Z.K (upd H1 pp (.rng 0 j)) L1:=⟨λx hx=>RepO.kp (w1.ok x hx) (Kp.of_same s1),w1.nd,w1.ds⟩;have b8:=st.trans ⟨λb ob z _=>s1 b ob z,λb z=>.inl z,λb z=>.inl z⟩;have o:=W7 (K:=Z.K) (H:=upd H1 pp (.rng 0 j)) (fr:=[]) hl (qqy (List.range j.toNat)) (λ_ z=>(nomatch z));obtain⟨w3,cg⟩:=JZ w2 b8 o (λ_ z=>(nomatch z)) (λ_ z=>(nomatch z)) (λ_ z=>(nomatch z));exact k _ _ rfl ⟨.no,.tup (jZ 0 j),.ref l,[]⟩ L1 _ rfl rfl m1 (by simpa [jZ]using w3) (by simpa [jZ]using cg) λhq=>⟨jY (sm hq) (jY s1 o.same),λb hb=>nomatch hb⟩
   ·cases h1
  |_=>rw[hx]at h1;cases h1
 ·subst e;obtain⟨u,rfl,rx⟩:=r1.one;cases rx;obtain⟨t1,t2,t3,hg⟩:=(show ObjOk X.prog X.w H1 s1.heap pp (.rng 0 j)from I1.hok pp _ hp);obtain⟨j1,j2⟩:=jxf h62;have e2:Builtin.Range.rangeSize 0 j 1=((j.toNat:Nat):Int):=by rw[rangeSize_one];split<;>lia
  refine jzf (n:=j.toNat) (I1.ok.hd hc) (show IsRange s1.heap pp 0 j 1 t1 t2 t3 from hg) (small_one ⋯ ⋯ j1 j2) e2 (by unfold big at i9;lia) λh' tk bz kp gv=>?_
  obtain⟨hs,js⟩:=gv;have I2:=I1.kept (t':=tk) kp;have I3:=I2.laid (t':=tk) (λb o e=>X1 _ e) (X8 _) (show ObjOk X.prog X.w _ _ _ (.tup ((List.range j.toNat).map λ(i:Nat)=>V.int (0+(i:Int))))from⟨by rw[X2,Xv];exact i9,bz.toList,kzb hs js,by simpa using IsTupD.new h' bz⟩);exact⟨.ref h'.objs.size,_,I3,rfl,q1 _ (I2.hok.fresh (X8 _))⟩
end
theorem qwo{P w K mg mb CX k fa a fd x sp s₁ vs}{ns}
  (KX:K.In s₁.heap) (hns:s₁.heap.Ns mainGlobals mg) (hb:s₁.heap.Ns builtinsNs mb) (hbb:∀x:Str,x≠"__name__"->mb x=bootBuiltins x) (hlim:s₁.heap.NoLimit) (hg:s₁.gens=#[])
  (ha:s₁.heap.get? a=some {cls:=.type "list",data:=.seq vs.toArray}) (hi:IntsAre vs ns) (hl:ns.length<=sizeLine) (hr:Room k callerA)
  (F:∀base,K.In base->base.Ns mainGlobals mg->FnOk P w K mg base CX k fa fd [x] sp) (pz:∀s u,BindsTo s fd ⟨[u],[]⟩ [(x,u)])
  (mf:∀H,wzj H->LsR K H a (ns.map V.int)->sp [.ref a] H (λv _=>v=.bl true) λ_ _ _=>False)
  (hCX:∀H e s',CX [] H s₁ (λ_ _ _=>False) e s'->False):
  codeAny (model P w) callerA (.call (.ref fa) ⟨[.ref a],[]⟩) (λr s'=>r=.ok (.ret (.bool true))/\OldK s₁.heap s'.heap/\s'.os=s₁.os/\AllBare s'.gens) s₁:=by
 have rv:=kv2 hi;have qd:∀H,wzj H->LsR K H a (ns.map V.int)->HOk P w H s₁.heap->(∀b,H b≠none->b=a)->(H a≠none->K.lookup a=none) ->
   codeAny (model P w) callerA (.call (.ref fa) ⟨[.ref a],[]⟩) (λr s'=>r=.ok (.ret (.bool true))/\OldK s₁.heap s'.heap/\s'.os=s₁.os/\AllBare s'.gens) s₁:=by
  intro H hO hS hok hA hK;have ij:∀{b o},s₁.heap.get? b=some o->H b=none->(QY s₁.heap H).get? b=some o:=λe n=>vjm e n
  have pk:∀{b o es ep},s₁.heap.get? b=some o->o.data=.dict es ep->H b=none:=fun {b o es ep} e d=>by
   cases q:H b with| none=>rfl| some u=>grind
  have nsK:∀{b m},s₁.heap.Ns b m->(QY s₁.heap H).Ns b m:=fun {b m} ⟨o,es,ep,e,d,r⟩=>⟨o,es,ep,ij e (pk e d),d,r⟩
  have hKb:=λb o e=>ij (KX b o e) (by
   cases q:H b with
   | none=>rfl
   | some u=>
    have e':=hA b (by rw[q];simp);subst e';rw[hK ⋯]at e;cases e)
  have hM:Mod K mg (QY s₁.heap H):=⟨hKb,nsK hns,⟨mb,nsK hb,hbb⟩,let ⟨mc,h1,h2⟩:=hlim;⟨mc,nsK h1,h2⟩⟩;have e0:Env0 P w K mg _ callerA [] s₁ H:=⟨rfl,hM,λb o e=>vw5 e,Nat.le_of_eq (qx1 _ _),trivial,λb hb=>absurd (show b∈([]:List Addr)from hb) (by simp),hok,.of_eq hg⟩;refine codeAny_mono ((F _ hKb (nsK hns)).run callerA [] s₁ H _ [.ref a] [.ref a] _ _ hr e0 (pz s₁ _) (.cons rfl .nil) (mf H hO hS)) λr s' h=>?_
  cases r with
  | error e=>exact(hCX H e s' h).elim
  | ok fl=>
   cases fl with
   | next=>exact False.elim h| brk=>exact False.elim h| cont=>exact False.elim h
   | ret u=>
    obtain⟨v,H',os,bare,un,hok',r',q⟩:=h;subst q;obtain rfl:u=Value.bool true:=r';refine⟨rfl,OldK.of_keep λb o e=>?_,os,bare⟩;cases q:H b with
    | none=>exact un.keep b o e q (by intro z;exact absurd (show b∈([]:List Addr)from z) (by simp)) (by simp)
    | some u=>
     rcases hO b with z|⟨ob,xs,z⟩
     ·grind
     ·have z2:=un.frzs b ob _ z;obtain⟨e1,_⟩:=hok b _ z;obtain⟨e2,_⟩:=hok' b _ z2
      grind
 cases hk:K.lookup a with
 | some o=>
  have e:=KX a o hk;rw[ha]at e;cases e;refine qd (λ_=>none) (λ_=>.inl rfl) (.inr ⟨vs.toArray,_,hk,by rw[X9,hi.length];exact hl,by simpa using rv⟩) (λb u z=>by have z':(none)=some u:=z;cases z') (λb z=>absurd rfl z) λz=>absurd rfl z
 | none=>
  refine qd (λb=>if b=a then some (.frz {cls:=.type "list",data:=.seq vs.toArray} (.lst (ns.map V.int)))else none) (λb=>?_) (.inl (.inr ⟨{cls:=.type "list",data:=.seq vs.toArray},X6 rfl⟩)) (λb u z=>?_) (λb z=>?_) λ_=>hk
  ·by_cases hb:b=a
   ·exact .inr ⟨_,_,X6 hb⟩
   ·exact .inl (Xa hb)
  ·by_cases hb:b=a
   ·have z':=(X6 hb).symm.trans z;cases z';subst hb;exact⟨ha,by rw[X2];exact hl,vs,_,rv,ha⟩
   ·have z':=(Xa hb).symm.trans z;cases z'
  ·by_cases hb:b=a
   ·exact hb
   ·exact absurd (Xa hb) z
@[elab_as_elim] theorem xj9 {P:List Value->Prop} us (e:us.length=1)(h:∀a,P [a]):P us:=by
 cases us with|nil=>cases e|cons a us=>cases List.eq_nil_of_length_eq_zero (Nat.succ.inj e);exact h a
@[elab_as_elim] theorem xj8 {P:List Value->Prop} us (e:us.length=2)(h:∀a b,P [a,b]):P us:=by
 cases us with|nil=>cases e|cons a us=>exact xj9 us (Nat.succ.inj e) λb=>h a b
@[elab_as_elim] theorem xj7 {P:List Value->Prop} us (e:us.length=3)(h:∀a b c,P [a,b,c]):P us:=by
 cases us with|nil=>cases e|cons a us=>exact xj8 us (Nat.succ.inj e) λb c=>h a b c
@[elab_as_elim] theorem xj6 {P:List Value->Prop} us (e:us.length=4)(h:∀a b c d,P [a,b,c,d]):P us:=by
 cases us with|nil=>cases e|cons a us=>exact xj7 us (Nat.succ.inj e) λb c d=>h a b c d
@[elab_as_elim] theorem xj5 {P:List Value->Prop} us (e:us.length=5)(h:∀a b c d f,P [a,b,c,d,f]):P us:=by
 cases us with|nil=>cases e|cons a us=>exact xj6 us (Nat.succ.inj e) λb c d f=>h a b c d f
@[elab_as_elim] theorem len6 {P:List Value->Prop}(us:List Value)(e:us.length=6)(h:∀a b c d f g,P [a,b,c,d,f,g]):P us:=by
 cases us with|nil=>cases e|cons a us=>exact xj5 (P:=λl=>P (a::l)) us (Nat.succ.inj e) λb c d f g=>h a b c d f g
theorem jxg{K H g}:∀(ns:List Int),RepA K H g (ns.map D.int) (ns.map V.int) []
 |[]=>⟨rfl,rfl⟩
 |n::ns=>by
  unfold RepA;exact⟨_,_,[],[],rfl,rfl,xZ,jxg ns⟩
theorem wkz{K mg f H a}{ns:List Int}(h:∃E o,f [(.no,.lst (ns.map D.int))]=some (.ok E (o,.bl true)))(hs:LsR K H a (ns.map V.int))(hO:wzj H):
  spF K mg 1 f [.ref a] H (λv _=>v=.bl true) λ_ _ _=>False:=by
 obtain⟨E,o,h⟩:=h;have key:∃as,RepL K H true (.lst (ns.map D.int)) (.ref a) as/\(∀b∈as,False):=by
  rcases hs with(hs|⟨ob,hs⟩)|hs
  ·rcases hO a with z|⟨_,_,z⟩<;>(rw[hs]at z;cases z)
  ·exact⟨[],(⟨a,ns.map V.int,[],rfl,jxg ns,.inr ⟨rfl,.inl ⟨ob,hs⟩,rfl⟩⟩),λb hb=>nomatch hb⟩
  ·exact⟨[],(⟨a,ns.map V.int,[],rfl,jxg ns,.inr ⟨rfl,.inr hs,rfl⟩⟩),λb hb=>nomatch hb⟩
 obtain⟨as,r,hn⟩:=key;refine⟨[⟨.no,.lst _,.ref a,as⟩],_,rfl,rfl,?_,h,(λE' c z=>by cases z),λE' s z x H' e1 e2 w' st=>?_⟩
 ·exact⟨λx hx=>by rw[oq9 (aC hx)];exact r,by simp[Sl.own],λb hb=>by simp[Sl.own]at hb⟩
 ·injection z with z1 z2;subst z2;exact qvz w'.head e2
section
open PySem.W PySem.Calls
theorem walkQ{l:OpenLaw}{n k q kj XP YP d}{K:Params->Frag}{f}{x}
  (hn:l.most=some n) (hn2:n<=sizeLine) (hdf:d.params.defaults=[]) (hr:Room k callerA)
  (hY:∀w (h),YP w h->(K w.params).In h)
  (F:∀w (mg) (fa) (h),(K w.params).In h->h.Ns mainGlobals mg->mg d.name=some (.ref fa) ->
   ∃fd,(∀s (u),BindsTo s fd ⟨[u],[]⟩ [(x,u)])/\∀base,(K w.params).In base->base.Ns mainGlobals mg->FnOk l.prog w (K w.params) mg base (CXE l.prog w) k fa fd [x] (spF (K w.params) mg 1 f))
  (mf:∀(ns:List Int),ns.length<=n->(∀i∈ns,Builtin.Int.intBits i<=1048576)->∃E o,f [(.no,.lst (ns.map D.int))]=some (.ok E (o,.bl true))):
  WalkO q kj XP YP l.row.toRowW d [] (λf vs=>PySem.call f vs):=by
 intro w s0 s1 mg mb G Y fa o pm cd gj dV kV ho hd gr hD hmg hg args ci as lc hlay hrd qf hlo;obtain⟨a,vs,ns,rfl,rfl,hobj,rm,ae⟩:=Att.script_of hn lc qf;have KX:=hY w _ Y;obtain⟨fd,hb,hF⟩:=F w mg fa _ KX G.T.g hmg;refine enter_call (codeAny_mono (qwo KX G.T.g G.T.b G.T.builtins G.T.nolimit hg hobj rm (Yl ae hn2) hr hF hb (λH hO hS=>wkz (mf ns ae (kz4 hlay)) hS hO) (λ_ _ _ ⟨_,_,_,_,_,_,_,_,_,_,_,_,_,_,_,z⟩=>z)) λr s' hq=>?_);obtain⟨rfl,h2,h3,h4⟩:=hq;exact⟨.inl ⟨.bool true,.bool true,[],rfl,λ_=>rfl,.bool true,Att.post_true l _,λ_=>⟨List.Pairwise.nil,λ_ hm=>(nomatch hm)⟩⟩,h2,h3,h4⟩
end
section
variable {P:Program}{w:PySem.World}{K:Frag}{mg:Str->Option Value}{base h:Heap}{x:Str}{st:Stmt}{ps:List Str}{k:Nat}{sp:Sp}
noncomputable def Gf(K:Frag)(x:Str)(st:Stmt):Prop:=∃(f:Addr) (oc:Value) (od:Option Addr) (kV dc pm:Value) (an:Option Addr) (cd ct:Value) (sl:Array (Option Value)),nsIn K mainGlobals x=some (some (.ref f))/\K.lookup f=some ⟨oc,od,.func (PySem.W.fnOf x x (Q7 st) (K8 st) (k5 st) .none kV dc pm an cd ct),sl⟩/\PySem.W.codeIn K cd x=true/\PySem.W.keepIn K (.ref f)=true
theorem Gf.mk{f oc od kV dc pm an cd ct sl}(a:nsIn K mainGlobals x=some (some (.ref f)))(l:K.lookup f=some ⟨oc,od,.func (PySem.W.fnOf x x (Q7 st) (K8 st) (k5 st) .none kV dc pm an cd ct),sl⟩)(c:PySem.W.codeIn K cd x=true)(k:PySem.W.keepIn K (.ref f)=true):Gf K x st:=⟨f,oc,od,kV,dc,pm,an,cd,ct,sl,a,l,c,k⟩
theorem Gf.d(g:Gf K x st)(X:K.In h)(G:h.Ns mainGlobals mg)(ok:∀{f:Addr} {fd:FuncData},Fun K x x st f fd->FnOk P w K mg base (CXE P w) k f fd ps sp)
  (hb:∀(kV gj pm:Value) (an:Option Addr) (bd ct:Value) (us:List Value),us.length=ps.length->bindArgs (PySem.W.fnOf x x (Q7 st) (K8 st) (k5 st) .none kV gj pm an bd ct) ⟨us,[]⟩=pure (ps.zip us):=by
   intro _ _ _ _ _ _ us hl
   first
   |exact xj9 us hl λ_=>rfl|exact xj8 us hl λ_ _=>rfl|exact xj7 us hl λ_ _ _=>rfl|exact xj6 us hl λ_ _ _ _=>rfl|exact xj5 us hl λ_ _ _ _ _=>rfl
   |exact len6 us hl λ_ _ _ _ _ _=>rfl):kK P w K mg base k x ps sp:=by
 obtain⟨f,oc,od,kV,dc,pm,an,cd,ct,sl,a,l,c,kp⟩:=g;exact⟨f,_,ok (qx4 l c kp),(qx4 l c kp).binds hb,kp,PySem.W.mg_of X G a⟩
theorem Gf.law{fa:Addr}{y:Str}(g:Gf K "law" st)(X:K.In h)(G:h.Ns mainGlobals mg)(hfa:mg "law"=some (.ref fa))(ok:∀{base:Heap} {f:Addr} {fd:FuncData},Fun K "law" "law" st f fd->FnOk P w K mg base (CXE P w) k f fd [y] sp)
  (hb:∀(kV gj pm:Value) (an:Option Addr) (bd ct:Value) (s:Shared) (v:Value),BindsTo s (PySem.W.fnOf "law" "law" (Q7 st) (K8 st) (k5 st) .none kV gj pm an bd ct) ⟨[v],[]⟩ [(y,v)]:=by
   intros
   exact .of_eq rfl):
  ∃fd:FuncData,(∀(s:Shared) (v:Value),BindsTo s fd ⟨[v],[]⟩ [(y,v)])/\∀base:Heap,K.In base->base.Ns mainGlobals mg->FnOk P w K mg base (CXE P w) k fa fd [y] sp:=by
 obtain⟨f,oc,od,kV,dc,pm,an,cd,ct,sl,a,l,c,kp⟩:=g;have e:=hfa.symm.trans (PySem.W.mg_of X G a);cases e;exact⟨_,hb kV dc pm an cd ct,λbase _ _=>ok (qx4 l c kp)⟩
end
end Q
namespace Q
open PySem L2
theorem mkS{N P sc}(h1:autoParam (sc.kind=.function) Ŕ)(h2:autoParam (sc.isCoroutine=false) Ŕ)(h3:autoParam (sc.isGenerator=false) Ŕ)(h4:autoParam (N.Nodup) ŗ)(h5:autoParam (N.take P.length=P) Ŕ)(h6:autoParam (∀x∈P,sc.names.lookup x=some .local\/sc.names.lookup x=some .cell) ŗ)(h7:autoParam (∀y∈sc.names,y.2≠.free) ŗ):FnScope N P sc:=⟨h1,h2,h3,h4,h5,h6,h7⟩
end Q
namespace Q
open PySem PySem.Spec PyProof.Rows L2 L3
section
variable {X:Cx}{Z:Fx0}{pn:List Nat}{q qa:Bool}{a b c:Ex}{e ea eb:Expr}{pos p:Pos}
theorem kI{z j}:QE X Z true (cC (.int z)) (.Constant (.int z) j p):=q_C vkp λ_=>xZ
theorem ki{z j}:QV X Z true (vE (cC (.int z))) (.Constant (.int z) j p):=j4 kI
theorem kN{j}:QE X Z true (cC .non) (.Constant .none j p):=q_C wk7 λ_=>qv0
theorem kn{j}:QV X Z true (vE (cC .non)) (.Constant .none j p):=j4 kN
theorem kS{z j}(h:autoParam (z.length<=sizeLine) ŕ):QE X Z true (cC (.str z)) (.Constant (.str z) j p):=q_C vkn λ_=>VZ h
theorem vv(i:Nat){x:Str}(hN:autoParam (X.N[i]?=some x) Ŕ)(hv:autoParam (Vis X.env.scope x) ř)(hd:autoParam ((x==("__debug__":Str))=false) ŕ)
  (gr:autoParam ((x==("__classdict__":Str))=false) ŕ):QV X Z true (vV i) (.Name x pos):=q_vV (pv i hN hv hd gr)
theorem cv(i:Nat){x:Str}(hN:autoParam (X.N[i]?=some x) Ŕ)(hv:autoParam (Vis X.env.scope x) ř)(hd:autoParam ((x==("__debug__":Str))=false) ŕ)
  (gr:autoParam ((x==("__classdict__":Str))=false) ŕ):QE X Z true (cV i) (.Name x pos):=q_V (pv i hN hv hd gr)
theorem kx(ha:QV X Z qa a ea)(hb:QV X Z true b eb)(hs:kqz eb:=by exact λ_ _=>rfl)(hK:autoParam (X.K=Z.K) Ŕ):QV X Z qa (k6 a b) (.Subscript ea eb pos):=q_ix ha hb hs hK
theorem qA{i y bm}(hN:X.N.Nodup)(h:QE X Z q a ea)(hi:autoParam (X.N[i]?=some y) Ŕ)(hx:autoParam (Loc X.env.scope y) Ś)(hp:autoParam (i∉pn) ŕ)(hs:autoParam (swapsWith ea (some (.Name y bm)) pos.line X.env=pure false) Ŕ)(hf:autoParam (X.fn y=true\/X.env.scope.names.lookup y=some .local) Ř):
  QS X Z pn (jV i a) (.Assign [.Name y bm] ea pos):=wx2 hN hi hx h hp hs hf
theorem gn{i x}(hN:X.N.Nodup)(hi:autoParam (X.N[i]?=some x) Ŕ)(hx:autoParam (Loc X.env.scope x) Ś)(hf:autoParam (X.fn x=true\/X.env.scope.names.lookup x=some .local) Ř):PG X (.Name x pos) (Q3 i):=vx hN hi hx hf
theorem gN{i x}(hN:X.N.Nodup)(hi:autoParam (X.N[i]?=some x) Ŕ)(hx:autoParam (Loc X.env.scope x) Ś)(hf:autoParam (X.fn x=true\/X.env.scope.names.lookup x=some .local) Ř)(hp:autoParam (i∉pn) ŕ):QG X Z pn (.n i) (.Name x pos):=wvu (vx hN hi hx hf) hp
theorem qC{k m n x ps f cs es}(D:kK X.prog X.w X.K X.mg X.base k x ps (spF Z.K Z.mg n f))(hr:Room m X.A)(ha:QA X Z q cs (e::es))(g:x6 X Z.EX:=by exact V3)(dm:autoParam (k<=m) ŕ)(hn:autoParam (cs.length=n) Ŕ)(hg:autoParam (Gl X x) Ŕ)(fh:autoParam ((x==("__debug__":Str))=false) ŕ)
  (he:autoParam (starEach (e::es) X.env=(false,eval e X.env)::starEach es X.env) Ŕ) (bn:autoParam ((backTo pos (starEach es X.env)).any (·.1)=false) Ŕ):
  QE X Z q (k3 f cs) (.Call (.Name x p) (e::es) [] pos):=wjn D (hr.mono dm) g ha hn hg fh he bn
theorem qF{tg am:Expr}{ss:List Stmt}{it:Ev (List D)}{t:Tg}{B:Sm}(hi:QI X Z q tg it am)(hg:QG X Z pn t tg)(hb:QSs X Z pn B ss)(hp:PassesOwn (model X.prog X.w) X.A X.env X.xe:=by exact vw0 ⟨_,_,rfl,rfl⟩)(hc:autoParam (X.calm=true) Ŕ)(hs:autoParam (∀x,foldedSetIterable am X.env x=pure x) Ŗ):QS X Z pn (vJ it t B) (.For tg am ss [] pos):=wx1 hp hc hi hg hb hs
theorem oA(ha:QV X Z qa a ea)(hb:QV X Z true b eb)(hK:autoParam (X.K=Z.K) Ŕ):QE X Z qa (cF2 k4 a b) (.BinOp ea .Add eb pos):=q9 (wkm hK) wvl ha hb
theorem oX(ha:QV X Z qa a ea)(hb:QV X Z true b eb)(hK:autoParam (X.K=Z.K) Ŕ):QE X Z qa (cF2 wV a b) (.BinOp ea .Mult eb pos):=q9 (wkk hK) vxl ha hb
theorem oM(ha:QV X Z qa a ea)(hb:QV X Z true b eb):QE X Z qa (cF2 (pu2 kY) a b) (.BinOp ea .Mod eb pos):=q9 wki wvh ha hb
theorem qP{i:Nat}{x:Str}{ah aa xp:Pos}(h:QE X Z q c e)(hN:autoParam (X.N[i]?=some x) Ŕ)(hv:autoParam (Vis X.env.scope x) ř)(hd:autoParam ((x==("__debug__":Str))=false) ŕ)
  (gr:autoParam ((x==("__classdict__":Str))=false) ŕ) (au:autoParam (attributeBase (.Name x xp) "append" X.env (eval (.Name x xp) X.env)=eval (.Name x xp) X.env) Ŕ)
  (c8:autoParam (((backTo aa (starEach [e] X.env)).all (λx=>!x.1)&&(backToKw aa (keywordEach [] X.env)).all (λx=>x.1.isSome)
   && decide ([e].length+([]:List Keyword).length+(if([]:List Keyword).isEmpty then 0 else 1)<30))=true) Ŕ)
  (aq:autoParam ((ah.endLine==aa.line)=true) Ŕ) (hs:autoParam (starEach [e] X.env=(false,eval e X.env)::starEach [] X.env) Ŕ) (ax:autoParam ((backTo aa (starEach [] X.env)).any (·.1)=false) Ŕ) (hK:autoParam (X.K=Z.K) Ŕ)
  (i7:autoParam (swapsWith (.Call (.Attribute (.Name x xp) "append" ah) [e] [] aa) none pos.line X.env=pure false) Ŕ):
  QS X Z pn (wK wq i c) (.Expr (.Call (.Attribute (.Name x xp) "append" ah) [e] [] aa) pos):=wx3 (vkq Z.K Z4 PySem.F.slot_list_append PySem.F.type_list_append qw5 (pv i hN hv hd gr) (qW h v8 hs) au c8 aq hs ax hK) i7
theorem qL(ha:QV X Z q a ea)(hm:X.mg "len"=none)(hK:autoParam (X.K=Z.K) Ŕ)(hg:autoParam (Gl X "len") Ŕ)(he:autoParam (starEach [ea] X.env=(false,eval ea X.env)::starEach [] X.env) Ŕ)(bn:autoParam ((backTo pos (starEach [] X.env)).any (·.1)=false) Ŕ):QE X Z q (cF1 (pu1 qz) a) (.Call (.Name "len" p) [ea] [] pos):=YJ (hK▸vxd X.K) wvi ha hm vqd hg ⋯ ⋯ he bn
theorem qT(ha:QV X Z q a ea)(hm:X.mg "tuple"=none)(hK:autoParam (X.K=Z.K) Ŕ)(hg:autoParam (Gl X "tuple") Ŕ)(he:autoParam (starEach [ea] X.env=(false,eval ea X.env)::starEach [] X.env) Ŕ)(bn:autoParam ((backTo pos (starEach [] X.env)).any (·.1)=false) Ŕ):QE X Z q (cF1 XZ a) (.Call (.Name "tuple" p) [ea] [] pos):=wjc (qxt hK) vkb ha hm W2 hg ⋯ ⋯ he bn
variable {am dz tg:Expr}{dk:List Expr}{scope:Scope}{it:Ev (List D)}{tt:Tg}{u:Ts}
theorem qm(o:Own)(k:Nat)(R:List Nat)(m:Nat)(N:List Str)(hi:QI X Z q tg it am)
  (hg:N.Nodup->∀cl C s0 H0 fp,QG (lcE X scope N cl C s0 H0 fp Z.EX) Z ((List.range R.length).map (k + ·)) tt tg) (ht:∀cl C s0 H0 fp,PTs (lcE X scope N cl C s0 H0 fp Z.EX) dk (tT Z q u)) (he:∀cl C s0 H0 fp,QE (lcE X scope N cl C s0 H0 fp Z.EX) Z q c dz)
  (hN:autoParam (N.Nodup) ŗ) (gx:x6 X Z.EX:=by exact V3) (top:Jv X:=by exact⟨_,_,rfl,rfl⟩) (hR:autoParam (R.Nodup) ŕ) (hm:autoParam (X.N.length=m) Ŕ) (hr:autoParam (∀j∈R,j<m) ŕ) (hc:autoParam (X.calm=true) Ŕ) (hk:autoParam (scope.kind=.function) Ŕ) (jh:autoParam (Qk X.N X.env.scope scope N k R=true) Ŕ) (hs:autoParam (∀x,foldedSetIterable am X.env x=pure x) Ŗ):
  QE X Z q (cLC o k R it tt u c) (.ListComp dz [⟨tg,am,dk,0⟩] scope pos):=xj1 N hi (hg hN) ht he gx top hR (hm▸hr) hc hk jh hs
theorem qM{x:Str}{p':Pos}(o:Own)(k:Nat)(R:List Nat)(m:Nat)(N:List Str)(hi:QI X Z q (.Name x p') it am)(he:∀cl C s0 H0 fp,QE (lcE X scope N cl C s0 H0 fp Z.EX) Z q c dz)
  (hN:autoParam (N.Nodup) ŗ) (gx:x6 X Z.EX:=by exact V3) (top:Jv X:=by exact⟨_,_,rfl,rfl⟩) (hR:autoParam (R.Nodup) ŕ) (hm:autoParam (X.N.length=m) Ŕ) (hr:autoParam (∀j∈R,j<m) ŕ) (hc:autoParam (X.calm=true) Ŕ) (hk:autoParam (scope.kind=.function) Ŕ) (jh:autoParam (Qk X.N X.env.scope scope N k R=true) Ŕ) (hs:autoParam (∀x,foldedSetIterable am X.env x=pure x) Ŗ)
  (hg:N.Nodup->∀cl C s0 H0 fp,QG (lcE X scope N cl C s0 H0 fp Z.EX) Z ((List.range R.length).map (k + ·)) (.n 0) (.Name x p'):=by exact λh _ _ _ _ _=>wvu (vx (i:=0) h rfl (by trivial))):
  QE X Z q (cLC o k R it (.n 0) tYes c) (.ListComp dz [⟨.Name x p',am,[],0⟩] scope pos):=xj1 N hi (hg hN) (λ_ _ _ _ _=>Qz) he gx top hR (hm▸hr) hc hk jh hs
end
section
variable {X:Cx}{Z:Fx0}{pn:List Nat}{ep:Expr}{i:Nat}{p:List Nat}{pos:Pos}
theorem jzp{E:En}{σ:L2.St}{L:Ls}{r:Nat}(hE:E[r]?=some none)(hL:L[r]?=some none)(u:Option V)(h:Mt E σ L):Mt E (σ.set r u) L:=by
 have:=wxm (u:=u) r h;rw[Jj hE,Jj hL]at this;exact this
end
end Q
namespace Q
def ddI(ss:List Int):List Int:=ss.foldl (λl k=>if l.any (· == k)then l else l++[k]) []
def kwn(f:Fn)(cs:List Ex):Ex:=λE=>bnd (kQ cs E) λE xs=>match f (letAll xs)with
 |some (.ok _ y)=>if y.1=.dp then some (.ok E y)else none|some (.exc _ c)=>some (.exc E c)|none=>none
end Q
namespace Sw
open PySem PyProof.Rows
section
variable {prog:Program}{w:World}{A:Around}{E:VP9}{s:Shared}
def tx(w:World):Bool:=w.params.followText "set-order"
theorem vzp{h:Heap}{a o es es' ep t t'}(ho:h.get? a=some o)(hd:o.data=.set es ep t):(h.update a (Obj.putSet es' t')).get? a=some {o with data:=.set es' (ep+1) t' }:=by
 have:=Yd (Obj.putSet es' t') ho (by rw[putSet_of es' t' hd];rfl)
 rwa [putSet_of es' t' hd]at this
def fresh(w:World):Obj:={cls:=.type "set",dict:=none,data:=.set #[] 0 (.fresh 0 0 (!tx w))}
theorem made(a){Q₁}(h:Q₁ (.ref s.heap.objs.size) {s with heap:=s.heap.push (fresh w)}):
  codeAny (model prog w) A (.call (.builtin "set.__new__") ⟨[.type "set",a],[]⟩) (wants Q₁ E) s:=by
 refine codeAny_of_tree ?_;show wpAny _ A.in1 (do checkBuiltinCall "set.__new__" ⟨[.type "set",a],[]⟩;again (.builtin "set.__new__" ⟨[.type "set",a],[]⟩)) _ _ s;refine X0 (wpAny_of_eq (F.newCall_set_1 a) (X3 ⟨Z7 F.plain_set_new _,Yi F.entry_set_new ?_⟩));rw[Yr F.plain_set_new _];unfold Builtin.«set.__new__» Builtin.Frozenset.newClass;have gq:=sub_set_self;obtain⟨hp,g,d,tk,os⟩:=s;dsimp only
 wp_walk
 refine wpAny_askSetting (X3 ?_);dsimp only;simp only[newObj];exact X0 (wpAny_alloc (X3 (X3 h)))
end
theorem slot_next:Slot "set_iterator" "__next__" "set_iterator.__next__" :=
 .of (owner:="set_iterator") (n:="__next__") (by kernel_rfl) (by decide +kernel) (by decide +kernel) (by decide +kernel)
  (by first|exact .inl (by decide +kernel)|exact .inr (by decide +kernel)) (by rw[isSubtype_type];kernel_rfl)
theorem kv7:Slot "set_iterator" "__iter__" "set_iterator.__iter__" :=
 .of (owner:="set_iterator") (n:="__iter__") (by kernel_rfl) (by decide +kernel) (by decide +kernel) (by decide +kernel)
  (by first|exact .inl (by decide +kernel)|exact .inr (by decide +kernel)) (by rw[isSubtype_type];kernel_rfl)
theorem jw4:entryFor table "set_iterator.__next__"=some Builtin.«set_iterator.__next__»:=entryFor_of_tree (by kernel_rfl)
theorem qkx:entryFor table "set_iterator.__iter__"=some Builtin.«dict_keyiterator.__iter__»:=entryFor_alias (id':="dict_keyiterator.__iter__") (by kernel_rfl) rfl (by decide +kernel) (by kernel_rfl)
theorem qky:entryFor table "set.__iter__"=some Builtin.«frozenset.__iter__»:=entryFor_alias (id':="frozenset.__iter__") (by kernel_rfl) rfl (by decide +kernel) (by kernel_rfl)
theorem jx9(a):argsOk "set_iterator.__next__" ⟨[a],[]⟩:=by kernel_rfl
theorem qz3(a):argsOk "set_iterator.__iter__" ⟨[a],[]⟩:=by kernel_rfl
theorem qz4(a):argsOk "set.__iter__" ⟨[a],[]⟩:=by kernel_rfl
section
variable {prog:Program}{w:World}{A:Around}{E:VP9}{s:Shared}
theorem wv1{src n Q}(hn:n≠0)(h:∀i d,i<n->Q i {s with drawn:=d}):wpAny (model prog w) A (choose src n) Q E s:=
 λ_ _ _=>⟨hn,h _ _ (Nat.mod_lt _ (Nat.pos_of_ne_zero hn))⟩
theorem jxt{α:Type}:∀{l:List α} {i} (h),(l[i]::l.eraseIdx i).Perm l
 |a::l,0,h=>List.Perm.refl _
 |a::l,i+1,h=>by
  exact(List.Perm.swap a _ _).trans ((jxt (Nat.lt_of_succ_lt_succ h)).cons a)
theorem drawn{α}:∀n xs s {Q:List α->Shared->Prop},xs.length=n->(∀ys d,ys.Perm xs->Q ys {s with drawn:=d})->wpAny (model prog w) A (drawOrder n xs) Q E s
 | 0,xs,s,Q,hl,h=>by
  cases xs with|nil=>exact X3 (h [] s.drawn (.refl _))|cons=>cases hl
 | n+1,xs,s,Q,hl,h=>by
  cases xs with
  |nil=>cases hl
  |cons x xs=>
   unfold drawOrder;refine X0 (wv1 (by simp) λi d hi=>?_);rw[X5 hi];exact X0 (drawn n _ _ (by rw[List.length_eraseIdx,X6 hi];exact Nat.succ.inj hl) λys d' hp=>(X3 (h _ d' ((hp.cons _).trans (jxt hi)))))
theorem qvp{α}(f):∀n k (l) (out:Array α),l.length=n->(pickOrder.go f n k l out).toList.Perm (out.toList++l)
 |0,k,l,out,hl=>by
  cases l with|nil=>unfold pickOrder.go;simp|cons=>cases hl
 |n+1,k,l,out,hl=>by
  have hi:f k % l.length<l.length:=Nat.mod_lt _ ⋯;unfold pickOrder.go;rw[X5 hi];refine(qvp f n _ _ _ (by rw[List.length_eraseIdx,X6 hi];lia)).trans ?_;rw[Array.toList_push,Yb];exact(List.Perm.refl _).append (jxt hi)
theorem kvo{α} f (xs:Array α):(pickOrder f xs).toList.Perm xs.toList:=by
 exact qvp f _ 0 _ #[] (by simp)
end
section
variable {prog:Program}{w:World}{A:Around}{E:VP9}{s:Shared}
def It(h:Heap)(I a:Addr)(f:Value)(i n ep:Nat):Prop:=∃o,h.get? I=some o/\o.cls=.type "set_iterator"/\o.data=.fields #[f,.int i 0,.ref a,.int n 0,.int ep 0]
theorem It.at'{h h':Heap}{I a:Addr}{f:Value}{i n ep:Nat}(x:It h I a f i n ep)(e:∀o,h.get? I=some o->h'.get? I=some o):It h' I a f i n ep:=by
 obtain⟨o,ho,r⟩:=x;exact⟨o,e _ ho,r⟩
def Stn(h:Heap)(a:Addr)(n ep:Nat):Prop:=∃o es t,h.get? a=some o/\o.data=.set es ep t/\t.fits es.size=true/\es.size=n
theorem qqv{I a:Addr}{f:Value}{i n ep:Nat}{Q:VP9}(gv:It s.heap I a f i n ep)(h:Q (.ref I) s):wpAny (model prog w) A (pyIter (.ref I)) Q E s:=by
 obtain⟨o,ho,hc,hd⟩:=gv;have hT:s.TypeIs (.ref I) "set_iterator":=⟨o,ho,hc⟩;refine wpAny_pyIter_slot hT kv7 (Y1 kv7 hT qkx ?_ (qz3 _));exact X3 ⟨_,rfl,"set_iterator",_,hT,slot_next.lookup,h⟩
theorem wqb{I a:Addr}{sl nx i n ep:Nat}{v:Value}{Q:Option Value->Shared->Prop}(gv:It s.heap I a (.int sl 0) i n ep)(hs:Stn s.heap a n ep)
  (hN:∀(A':Around) (E':VP9) (R:Option (Value×Nat)->Shared->Prop),R (some (v,nx)) s->wpAny (model prog w) A' (setNext a sl i ep) R E' s)
  (hQ:∀h',It h' I a (.int nx 0) (i+1) n ep->Heap.SameBut I s.heap h'->Q (some v) {s with heap:=h' }):wpAny (model prog w) A (pyNext (.ref I)) Q E s:=by
 obtain⟨o,ho,hc,hd⟩:=gv;obtain⟨os,es,t,ic,b7,hf,hn⟩:=hs;have hT:s.TypeIs (.ref I) "set_iterator":=⟨o,ho,hc⟩;refine X0 (wpAny_attempt (Yo hT slot_next (Y1 slot_next hT jw4 ?_ (jx9 _))));show wpAny _ _ (fieldsOf _ >>= _) _ _ s;refine X0 (wpAny_fieldsOf ho hd ?_);refine X0 (wpAny_setEntries_of ic b7 hf ?_);rw[Xa (by rw[hn];simp)];show wpAny _ _ _ _ _ s;refine X0 (hN _ _ _ ?_);refine X0 (Z3 ho hd (by simp) ?_);have ig:=Obj.data_mapFields hd (·.setIfInBounds 0 (rawInt nx));have f8:=Yd _ ho (Obj.isFreed_of_fields ig);refine X0 (Z3 f8 ig (by simp) (X3 ⟨v,rfl,X3 (hQ _ ?_ ((Yt ..).trans (Yt ..)))⟩));have dy:=Obj.data_mapFields ig (·.setIfInBounds 1 (rawInt (i+1)));refine⟨_,Yd _ f8 (Obj.isFreed_of_fields dy),(Obj.cls_mapFields ..).trans ((Obj.cls_mapFields ..).trans hc),?_⟩;rw[dy];simp[rawInt]
theorem wqa{I a T:Addr}{i n ep:Nat}{v:Value}{pl:List Nat}{p:Nat}{Q:Option Value->Shared->Prop}(gv:It s.heap I a (.ref T) i n ep)(hs:Stn s.heap a n ep)(pd:∃o k,s.heap.get? T=some o/\o.data=.seq (pl.map λ(j:Nat)=>rawInt j).toArray k)
  (hp:pl[i]?=some p)
  (hN:∀(A':Around) (E':VP9) (R:VP9),R v s->wpAny (model prog w) A' (setNextDrawn a p ep) R E' s)
  (hQ:∀h',It h' I a (.ref T) (i+1) n ep->Heap.SameBut I s.heap h'->Q (some v) {s with heap:=h' }):wpAny (model prog w) A (pyNext (.ref I)) Q E s:=by
 obtain⟨o,ho,hc,hd⟩:=gv;obtain⟨os,es,t,ic,b7,hf,hn⟩:=hs;obtain⟨oT,kT,hoT,p8⟩:=pd;have hT:s.TypeIs (.ref I) "set_iterator":=⟨o,ho,hc⟩;refine X0 (wpAny_attempt (Yo hT slot_next (Y1 slot_next hT jw4 ?_ (jx9 _))));show wpAny _ _ (fieldsOf _ >>= _) _ _ s;refine X0 (wpAny_fieldsOf ho hd ?_);refine X0 (wpAny_setEntries_of ic b7 hf ?_);rw[Xa (by rw[hn];simp)];refine X0 (wpAny_seqItems hoT p8 ?_);have hg:(pl.map λ(j:Nat)=>rawInt j).toArray[((i:Int)).toNat]?=some (.int p 0):=by
  rw[Int.toNat_natCast,List.getElem?_toArray,Xn,hp];rfl
 dsimp only;rw[hg];show wpAny _ _ _ _ _ s;refine X0 (hN _ _ _ ?_);have dy:=Obj.data_mapFields hd (·.setIfInBounds 1 (rawInt (i+1)));refine X0 (Z3 ho hd (by simp) (X3 ⟨v,rfl,X3 (hQ _ ?_ (Yt ..))⟩));refine⟨_,Yd _ ho (Obj.isFreed_of_fields dy),(Obj.cls_mapFields ..).trans hc,?_⟩;rw[dy];simp[rawInt]
theorem wz5{I a:Addr}{sl i n ep:Nat}{Q:Option Value->Shared->Prop}(hh:A.handled=none)(gv:It s.heap I a (.int sl 0) i n ep)(hs:Stn s.heap a n ep)
  (hN:∀(A':Around) (E':VP9) (R:Option (Value×Nat)->Shared->Prop),R none s->wpAny (model prog w) A' (setNext a sl i ep) R E' s)
  (hQ:∀h',Heap.ExtBut I s.heap h'->Q none {s with heap:=h' }):wpAny (model prog w) A (pyNext (.ref I)) Q E s:=by
 obtain⟨o,ho,hc,hd⟩:=gv;obtain⟨os,es,t,ic,b7,hf,hn⟩:=hs;have hT:s.TypeIs (.ref I) "set_iterator":=⟨o,ho,hc⟩;refine X0 (wpAny_attempt (Yo (name:=Str.ofString "__next__") hT slot_next (Y1 slot_next hT jw4 ?_ (jx9 _))));show wpAny _ _ (fieldsOf (.ref I) >>= _) _ _ s;refine X0 (wpAny_fieldsOf ho hd ?_);refine X0 (wpAny_setEntries_of ic b7 hf ?_);rw[Xa (by rw[hn];simp)];show wpAny _ _ (setNext a ((sl:Int)).toNat ((i:Int)).toNat ((ep:Int)).toNat >>= _) _ _ s;refine X0 (hN _ _ _ ?_);refine X0 (Z3 ho hd (by simp) ?_);refine X0 ?_;refine X0 (m:=firstArgMember _ _) (wpAny_of_eq (a:=Value.none) (by first|rfl|(simp only[firstArgMember])) ?_);refine Ya ?_ (by size_fits);refine X0 (wpAny_handled ?_);rw[show A.in1.handled=none from hh];refine X0 (X3 (wpAny_throw ?_));refine X0 (wpAny_isInstance (T:="StopIteration") (b:=true) ⟨_,Xe _ rfl,rfl⟩ isSubtype_stop ?_);exact X3 (hQ _ (((Yt ..).extBut.push _).push _))
theorem wz4{I a T:Addr}{i n ep:Nat}{pl:List Nat}{Q:Option Value->Shared->Prop}(hh:A.handled=none)(gv:It s.heap I a (.ref T) i n ep)(hs:Stn s.heap a n ep)(pd:∃o k,s.heap.get? T=some o/\o.data=.seq (pl.map λ(j:Nat)=>rawInt j).toArray k)
  (hp:pl[i]?=none) (hQ:∀h',Heap.ExtBut I s.heap h'->Q none {s with heap:=h' }):wpAny (model prog w) A (pyNext (.ref I)) Q E s:=by
 obtain⟨o,ho,hc,hd⟩:=gv;obtain⟨os,es,t,ic,b7,hf,hn⟩:=hs;obtain⟨oT,kT,hoT,p8⟩:=pd;have hT:s.TypeIs (.ref I) "set_iterator":=⟨o,ho,hc⟩;refine X0 (wpAny_attempt (Yo (name:=Str.ofString "__next__") hT slot_next (Y1 slot_next hT jw4 ?_ (jx9 _))));show wpAny _ _ (fieldsOf (.ref I) >>= _) _ _ s;refine X0 (wpAny_fieldsOf ho hd ?_);refine X0 (wpAny_setEntries_of ic b7 hf ?_);rw[Xa (by rw[hn];simp)];refine X0 (wpAny_seqItems hoT p8 ?_);have hg:(pl.map λ(j:Nat)=>rawInt j).toArray[((i:Int)).toNat]?=none:=by
  rw[Int.toNat_natCast,List.getElem?_toArray,Xn,hp];rfl
 dsimp only;rw[hg];have ig:=Obj.data_mapFields hd (·.setIfInBounds 0 (rawInt 0));have f8:=Yd (Obj.mapFields (·.setIfInBounds 0 (rawInt 0))) ho (Obj.isFreed_of_fields ig);refine X0 (Z3 ho hd (by simp) ?_);refine X0 (Z3 f8 ig (by simp) ?_);refine X0 ?_;simp;refine X0 (m:=firstArgMember _ _) (wpAny_of_eq (a:=Value.none) (by first|rfl|(simp only[firstArgMember];rfl)) ?_);refine Ya ?_ (by size_fits);refine X0 (wpAny_handled ?_);rw[show A.in1.handled=none from hh];refine X0 (X3 (wpAny_throw ?_));refine X0 (wpAny_isInstance (T:="StopIteration") (b:=true) ⟨_,Xe _ rfl,rfl⟩ isSubtype_stop ?_);exact X3 (hQ _ ((((Yt ..).trans (Yt ..)).extBut.push _).push _))
end
section
variable {prog:Program}{w:World}{A:Around}{E:VP9}{s:Shared}
theorem qqf(hh:A.handled=none)(I a)(fb:a≠I){o es ep t}(hd:o.data=.set es ep t)(hf:t.fits es.size=true){ci:List Value}(hl:ci.length=es.size)(sl:Nat->Nat)
  (hN:∀i (s) (A') (E') (R),s.heap.get? a=some o->i<=es.size->R (ci[i]?.map λv=>(v,sl (i+1))) s->wpAny (model prog w) A' (setNext a (sl i) i ep) R E' s):
  Walks prog w A I [I,a] [I] es.size (λi v=>ci[i]?=some v) (λi h=>It h I a (.int (sl i) 0) i es.size ep/\h.get? a=some o) where
 sub:=λb hb=>by simp at hb;simp[hb]
 frame:=λ_ _ _ st hk=>⟨st.1.at' λo e=>hk I (by simp) o e,hk a (by simp) _ st.2⟩
 item:=λi s Q E hi st hQ=>by
  have hv:ci[i]?=some (ci[i]'⋯):=X5 _;exact wqb st.1 ⟨o,es,t,st.2,hd,hf,rfl⟩ (λA' E' R hR=>hN i s A' E' R st.2 (Nat.le_of_lt hi) (hv▸hR)) λh' np jb=>(hQ _ h' s.toks hv ⟨np,(jb.extBut a o fb st.2)⟩ λb o hb e=>jb.extBut b o (λh=>hb (by simp[h])) e)
 done:=λs Q E st hQ=>by
  refine wz5 hh st.1 ⟨o,es,t,st.2,hd,hf,rfl⟩ (λA' E' R hR=>hN es.size s A' E' R st.2 (X8 _) (by rw[Yk ⋯];exact hR)) λh' he=>?_
  exact hQ h' s.toks λb o hb e=>he b o (λh=>hb (by simp[h])) e
 self:=λ_ _ _ _ st hQ=>qqv st.1 hQ
theorem vqo(hh:A.handled=none)(I a T)(fb:a≠I)(hneT:T≠I){o oT es ep k t}(hd:o.data=.set es ep t)(hf:t.fits es.size=true){pl:List Nat}(hp:pl.Perm (List.range es.size))(p8:oT.data=.seq (pl.map λ(j:Nat)=>rawInt j).toArray k):
  Walks prog w A I [I,a,T] [I] es.size (λi v=>(pl.map λj=>(es.getD j (0,.none)).2)[i]?=some v) (λi h=>It h I a (.ref T) i es.size ep/\h.get? a=some o/\h.get? T=some oT) where
 sub:=λb hb=>by simp at hb;simp[hb]
 frame:=λ_ _ _ st hk=>⟨st.1.at' λo e=>hk I (by simp) o e,hk a (by simp) _ st.2.1,hk T (by simp) _ st.2.2⟩
 item:=λi s Q E hi st hQ=>by
  have ae:pl.length=es.size:=by rw[hp.length_eq,Xv]
  have hv:pl[i]?=some (pl[i]'⋯):=X5 _;have bh:pl[i]'⋯<es.size:=List.mem_range.mp (hp.mem_iff.mp (Xz _));refine wqa (v:=(es.getD (pl[i]'⋯) (0,.none)).2) st.1 ⟨o,es,t,st.2.1,hd,hf,rfl⟩ ⟨oT,k,st.2.2,p8⟩ hv (λA' E' R hR=>?_) λh' np jb=>?_
  ·refine X0 (Yg st.2.1 hd hf ?_);dsimp only;rw[Xa (by simp),Xg bh];refine X3 ?_;rw[Yw,Xg bh]at hR;exact hR
  ·exact hQ _ h' s.toks (by rw[Xn,hv];rfl) ⟨np,(jb.extBut a o fb st.2.1),(jb.extBut T oT hneT st.2.2)⟩ λb o hb e=>jb.extBut b o (λh=>hb (by simp[h])) e
 done:=λs Q E st hQ=>by
  have ae:pl.length=es.size:=by rw[hp.length_eq,Xv]
  refine wz4 hh st.1 ⟨o,es,t,st.2.1,hd,hf,rfl⟩ ⟨oT,k,st.2.2,p8⟩ (Yk ⋯) λh' he=>?_
  exact hQ h' s.toks λb o hb e=>he b o (λh=>hb (by simp[h])) e
 self:=λ_ _ _ _ st hQ=>qqv st.1 hQ
theorem qw2(m8:tx w=true){a o es ep t}(hd:o.data=.set es ep t)(hf:t.fits es.size=true):
  ∀i s (A') (E') R,s.heap.get? a=some o->i<=es.size->R (((pickOrder (w.params.setOrder a ep) es).toList.map (·.2))[i]?.map λv=>(v,0)) s->wpAny (model prog w) A' (setNext a 0 i ep) R E' s:=by
 intro i s A' E' R ho hi hR;refine X0 (Yg ho hd hf ?_);show wpAny _ _ (if tx w=true then _ else _) _ _ _;rw[X6 m8,Xa (by simp)];refine X0 (X0 (Yg ho hd hf ?_));show wpAny _ _ (if tx w=true then _ else _) _ _ _;rw[X6 m8];refine X0 (wpAny_askSetting (X3 (X3 ?_)));rw[Xn,Xr,Option.map_map]at hR;exact hR
end
section
variable {prog:Program}{w:World}{A:Around}{E:VP9}{s:Shared}
theorem qx5{t:SetTable}{n}(h:t.fits n=true):t.place.size=n:=by
 simp only[SetTable.fits,Bool.and_eq_true,beq_iff_eq]at h;exact h.1
theorem qqj{es:Array (Int×Value)}{pl:List Nat}(hp:pl.Perm (List.range es.size)):(pl.map λj=>(es.getD j (0,.none)).2).Perm (es.toList.map (·.2)):=by
 refine(hp.map _).trans (.of_eq ?_);apply List.ext_getElem
 ·simp
 ·intro i h1 h2;simp at h1;simp[h1]
end
section
variable {prog:Program}{w:World}{A:Around}{E:VP9}{s:Shared}
theorem vwx{a Q}(hT:s.TypeIs (.ref a) "set")(h:Q false s):wpAny (model prog w) A (Builtin.List.listLengthHint (.ref a)) Q E s:=by
 refine X0 (Z5 hT F.slot_set_len.lookup ?_);generalize me:_=id0
 wp_delta
 subst me;refine X0 (wpAny_isInstance hT sub_set_self ?_);refine wpAny_ite_split (λi5=>absurd i5 ⋯) (λ_=>?_);refine X0 (Ze hT ?_);exact X3 h
end
end Sw
namespace Q
open PySem PySem.Spec PyProof.Rows L2 L3 Sw
section
variable {X:Cx}{Z:Fx0}{K:Frag}{q:Bool}{a:Ex}{e ea:Expr}{σ:L2.St}{H:Hp}{pos p p2 b9:Pos}{x y:Str}{a7:LA9}{s:Shared}
theorem Inv.dr{d}(I:L2.Inv X a7 σ H s):L2.Inv X a7 σ H {s with drawn:=d}:=⟨I.ok,I.os,I.bare,I.base,I.loc,I.cell,I.free,I.freeC,I.pin,I.hok,I.len⟩
end
section
variable {X:Cx}{Z:Fx0}{K:Frag}{q:Bool}{a:Ex}{e ea:Expr}{σ:L2.St}{H:Hp}{pos p p2 b9:Pos}{x y:Str}{a7:LA9}{s:Shared}
theorem wqk(ns:List Int):∀i,i<=ns.length->firstMet (λi=>ns.getD i 0) i=(ns.take i).foldl step_dedup []
 |0,_=>rfl
 |i+1,h=>by
  rw[firstMet_succ,wqk ns i (Nat.le_of_succ_le h),List.take_succ,List.foldl_append,Yf,X5 h];rfl
end
end Q
namespace Q
open PySem PySem.Spec PyProof.Rows L2 L3
section
variable {X:Cx}{Z:Fx0}{K:Frag}{pn:List Nat}{q qa qb:Bool}{a b c:Ex}{u:Ts}{tg e ea eb:Expr}{st:Stmt}{σ:L2.St}{H:Hp}{L:Ls}{E:En}{pos p p2:Pos}{x:Str}
theorem qvg{k n:Nat}{ps:List Str}{f:Fn}{cs:List Ex}{es:List Expr}(D:kK X.prog X.w X.K X.mg X.base k x ps (spF Z.K Z.mg n f))(hr:Room k X.A)(g:x6 X Z.EX)(ha:QAV X Z cs (e::es))(hn:autoParam (cs.length=n) Ŕ)(hg:autoParam (Gl X x) Ŕ)(fh:autoParam ((x==("__debug__":Str))=false) ŕ)
  (he:autoParam (starEach (e::es) X.env=(false,eval e X.env)::starEach es X.env) Ŕ) (bn:autoParam ((backTo pos (starEach es X.env)).any (·.1)=false) Ŕ):
  QE X Z true (kwn f cs) (.Call (.Name x p) (e::es) [] pos):=k7 (qvs D hr g ha hg fh he bn) fun σ H Q aj=>ex8 aj λE L r m w hc xc kk=>by
 have hc:bnd (kQ cs E) _=some r:=hc;rcases vK hc with⟨E1,ys,h1,h2⟩|⟨E1,cc,h1,h2⟩
 rotate_left
 ·exact⟨E,L,_,m,w,h1,xc.map h2,λE' s' z=>by cases z⟩
 refine⟨E,L,_,m,w,h1,(λ_ _ z=>by cases z),λE' ys' z xs L1 H1 e1 m1 w1 ok1 st sm=>?_⟩;injection z with z1 z2;subst z1 z2;rw [Xq];have ae:xs.length=n:=by rw[<-hn,<-jx8 h1,<-e1,X2]
 cases hf:f (letAll ys)with
 | none=>rw[hf]at h2;cases h2
 | some fr=>
  rw [hf]at h2;have ev:xs.map Sl.v=(xs.map Sl.let).map Sl.v:=by rw[Xi];rfl
  have wl:World Z.K H1 ((xs.map Sl.let).map some):=by
   refine⟨λy hy=>?_,by rw[x3];exact Y7,λa ha=>by rw[x3]at ha;exact nomatch ha⟩;obtain⟨y',hy',e⟩:=aE hy;cases e;obtain⟨t,ht,rfl⟩:=aE hy';exact zw (ok1 t ht)
  rw [ev];refine⟨xs.map Sl.let,fr,rfl,by rw[X2];exact ae,wl,by rw[<-e1]at hf;rw[kxp];exact hf,λE' c ee C H' hm s'=>?_,λE' a ee y H' e2 e3 w' s'=>?_⟩
  ·subst ee;cases oq9 h2;have ix:jJ H1 H':=λb ob hb=>s'.keep b ob hb λz=>by rw[x3]at z;exact nomatch z
   exact xc _ _ rfl C L1 H' hm m1 ⟨λy hy=>RepO.kp (w1.ok y hy) (Kp.of_same ix),w1.nd,w1.ds⟩ (st.trans ⟨λb ob hb _=>ix b ob hb,λ_ h=>.inl h,λ_ h=>.inl h⟩)
  ·subst ee;dsimp only at h2
   split at h2
   ·rename_i hp;cases oq9 h2;have ix:jJ H1 H':=λb ob hb=>s'.keep b ob hb λz=>by rw[x3]at z;exact nomatch z
    have w2:World Z.K H' L1:=⟨λy hy=>RepO.kp (w1.ok y hy) (Kp.of_same ix),w1.nd,w1.ds⟩;have rn:y.o=.dp:=e2.trans hp;have nw:∀b∈y.own,H1 b=none:=λb hb=>by
     rcases s'.own b (by rw[jv];exact ll9 _ hb)with z|z
     ·rw[x3]at z;exact nomatch z
     ·exact z
    have fz:y.frz=[]:=by unfold Sl.frz;rw[rn]
    have nd:y.own.Nodup:=by have:=w'.nd;rw[jv,qvu,Xq]at this;exact this
    have b8:Step H L H' L1:=st.trans ⟨λb ob hb _=>ix b ob hb,λ_ h=>.inl h,λ_ h=>.inl h⟩;have w3:World Z.K H' (some y::L1):=w2.cons (w'.ok y X4) nd (λb hb hL=>w1.own_some hL (nw b hb)) (λb hb hL=>w1.frz_some hL (nw b hb)) (λb hb=>by rw[fz]at hb;cases hb) (λb hb hL=>by rw[fz]at hL;cases hL);have m5:∀b∈y.own,H b=none:=λb hb=>z9 sm (nw b hb)
    refine kk _ _ rfl y L1 H' e2 e3 m1 w3 ⟨b8.keep,λb hb=>?_,λb hb=>?_⟩ λ_=>⟨jY sm ix,λb hb=>m5 b hb⟩
    ·rw[jv]at hb;rcases aA hb with hb|hb
     ·exact .inr (m5 b hb)
     ·exact b8.own b hb
    ·rw[k8,fz]at hb;exact b8.frz b hb
   ·cases h2
end
end Q
namespace Q
open PySem
def QK(i:Nat)(c:Ex):Sm:=λE=>if vjj E[i]? then ofE (c E) λE x=>match E[i]?,x.2 with
 |some (some (o,.lst xs)),.lst ys=>if o=.no\/x.1=.no\/¬xs.length+ys.length<big then none else some (.nx (E.set i (some (.rt,.lst (xs++ys)))))|_,_=>none
 else none
end Q
namespace Q
open PySem PySem.Spec PyProof.Rows L2 L3
section
variable {X:Cx}{Z:Fx0}{K:Frag}{q:Bool}{a:Ex}{e:Expr}{p2 pos:Pos}
variable {pn:List Nat}{c:Ex}
theorem wjk {i o ah aa} (hb:PE X (.Call (.Attribute o "extend" ah) [e] [] aa) (tBM Z.K "list" qvb (xj i) (vqw (tQ Z q c) wwc))) (hs:autoParam (swapsWith (.Call (.Attribute o "extend" ah) [e] [] aa) none pos.line X.env=pure false) Ŕ):
  QS X Z pn (QK i c) (.Expr (.Call (.Attribute o "extend" ah) [e] [] aa) pos):=zq (kj4 hb hs) λD' σ H aj=>ex7 aj λE L r m w hc k=>by
 unfold QK at hc;cases h0:E[i]? with
 | none=>rw[h0]at hc;cases hc
 | some s0=>
  cases s0 with
  | none=>rw[h0]at hc;cases hc
  | some s0=>
   obtain ⟨o0,d0⟩:=s0;cases d0 with
   | lst ds0=>
    rw [h0,X6 (show vjj (some (some (o0,D.lst ds0)))=true from rfl)]at hc;obtain⟨x0,a1,a2,a3,a4⟩:=m.get h0;refine⟨x0.v,a4,vkx (w.ok x0 (xJ a1)) a3,(Wq m w hc k λE1 s h1 x L1 H1 e1 e2 m1 w1 st _=>?_)⟩;cases hE:E1[i]? with
    | none=>rw[hE]at h1;cases h1
    | some s1=>
     cases s1 with
     | none=>rw[hE]at h1;cases h1
     | some s1=>
      obtain⟨oo,dd⟩:=s1;rw [hE]at h1;cases dd with
      | lst ds=>
       obtain⟨so,sd⟩:=s;cases sd with
       | lst ys=>
        dsimp only at h1
        by_cases jd:oo=.no\/so=.no\/¬ds.length+ys.length<big
        ·rw[X6 jd]at h1;cases h1
        ·rw[Xa jd]at h1;cases oq9 h1;obtain⟨y,b1,b2,b3,b4⟩:=m1.get hE;have hv:y.v=x0.v:=by rw[a4]at b4;exact(oq9 (oq9 b4)).symm
         obtain⟨l,xs,bs,c1,c2,c3,c4,c5⟩:=kq4 (w1.ok y (lc9 _ (xJ b1))) b3 (by rw[b2];exact(λz=>jd (.inl z)));obtain⟨l2,zs,bs2,g1,g2,g3,g4,g5⟩:=kq4 w1.head e2 (by rw[e1];exact(λz=>jd (.inr (.inl z))));have ex0:=hv▸c1;rw[ex0];have oT:j5 [some x]=x.own:=by simp
         have fT:jx [some x]=x.frz:=by simp
         have wk:∀{b ds xs bs},RepA Z.K H1 b ds xs bs->RepA Z.K H1 true ds xs bs:=fun {b ds xs} {bs} h=>by
          cases b with|true=>exact h|false=>exact h.wk
         refine⟨l,l2,xs,zs,rfl,by rw[g1],c2,g2,?_,?_⟩
         ·have:=(wk c5).len;have:=(wk g5).len;have hb:big=sizeLine:=rfl;omega
         obtain⟨w3,s3⟩:=kx7 (o':=.rt) (ds':=ds++ys) (xs':=xs++zs) w1 b1 c2 c3 c4 c1 (RepA.app (wk g5) (wk c5)) (.inl ⟨rfl,λa ha=>(aA ha).imp id λz=>by rw[oT,fT];exact Sl.as_of (g3▸lc9 _ z)⟩);refine k σ _ _ Pn.refl ?_ w3 (st.trans s3);have:=m1.set (x:=⟨.rt,.lst (ds++ys),y.v,l::(bs++bs2)⟩) i;rw[Jj b4]at this;exact this
       |_=>cases h1
      |_=>grind
   |_=>rw[h0]at hc;cases hc
theorem wjl{i:Nat}{x:Str}{ah aa xp:Pos}(h:QE X Z q c e)(hN:autoParam (X.N[i]?=some x) Ŕ)(hv:autoParam (Vis X.env.scope x) ř)(hd:autoParam ((x==("__debug__":Str))=false) ŕ)
  (gr:autoParam ((x==("__classdict__":Str))=false) ŕ) (au:autoParam (attributeBase (.Name x xp) "extend" X.env (eval (.Name x xp) X.env)=eval (.Name x xp) X.env) Ŕ)
  (c8:autoParam (((backTo aa (starEach [e] X.env)).all (λx=>!x.1)&&(backToKw aa (keywordEach [] X.env)).all (λx=>x.1.isSome)
   && decide ([e].length+([]:List Keyword).length+(if([]:List Keyword).isEmpty then 0 else 1)<30))=true) Ŕ)
  (aq:autoParam ((ah.endLine==aa.line)=true) Ŕ) (hs:autoParam (starEach [e] X.env=(false,eval e X.env)::starEach [] X.env) Ŕ) (ax:autoParam ((backTo aa (starEach [] X.env)).any (·.1)=false) Ŕ) (hK:autoParam (X.K=Z.K) Ŕ)
  (i7:autoParam (swapsWith (.Call (.Attribute (.Name x xp) "extend" ah) [e] [] aa) none pos.line X.env=pure false) Ŕ):
  QS X Z pn (QK i c) (.Expr (.Call (.Attribute (.Name x xp) "extend" ah) [e] [] aa) pos):=wjk (vkq Z.K Z4 PySem.F.slot_list_extend PySem.F.type_list_extend qw4 (pv i hN hv hd gr) (qW h v8 hs) au c8 aq hs ax hK) i7
end
end Q
namespace Q
open PySem
def wqm:D->D->Option D:=λy x=>match y with
 |.dct a9=>if ww x=true/\unm a9=true/\D.pures (a9.map (·.2))=true then KQ a9 x else none|_=>none
def wvq(a b:Ex):Ex:=λE=>bnd (a E) λE x=>bnd (b E) λE y=>val E ((wqm x.2 y.2).map λd=>(.dp,d))
end Q
namespace Q
open PySem PySem.Spec PyProof.Rows L2 L3
abbrev vzl(K:Frag)(td ty:TE):TE:=fun σ H Q=>td σ H λx H1=>ty σ H1 λy H2=>∃(a b:Addr) (k:Kd) (es:List Ent) (ep:Nat) (v:V) (p:Addr×Value),x=.ref a/\y=.ref b/\H2 a=some (V6 a es ep)/\(es.map (·.1)).Nodup/\(∀x∈es,PuR K H2 x.1.1 (.ref x.2.1))/\PuR K H2 k.1 (.ref b)/\atKey es k=some p/\RelV v p.2/\Q v H2
section
variable {X:Cx}{Z:Fx0}{q qa:Bool}{a b:Ex}{td ty:TE}{o i ea eb:Expr}{pos:Pos}
theorem vj4(hu:X.A.units+64<cLine)(ho:PE X o td)(hi:PE X i ty)(hs:wvm i):PE X (.Subscript o i pos) (vzl X.K td ty):=by
 intro a7 s σ H Q I h;refine qqp PySem.F.slot_dict_getitem.lookup hs (thn (ho a7 s σ H _ I h) λu s1 ⟨x,H1,I1,rx,q1⟩=>thn (hi a7 s1 σ H1 _ I1 q1) λiv s2 ⟨y,H2,I2,ry,a,b,k,es,ep,v,p,ex,ey,d,hn,hks,hk,hp,rv,q2⟩=>?_);subst ex ey;obtain rfl:u=Value.ref a:=rx;obtain rfl:iv=Value.ref b:=ry;have dd:=vq9 I2 d hn hks;exact⟨dd.typeIs,wpAny_getItem_heap (qqx hu) (VV I2 hk rfl) dd hp ⟨v,H2,I2.tok _,rv,q2⟩⟩
theorem wwz(hu:X.A.units+64<cLine)(ha:QV X Z qa a ea)(hb:QV X Z true b eb)(hs:wvm eb)(hK:autoParam (X.K=Z.K) Ŕ):QV X Z qa (wvq a b) (.Subscript ea eb pos):=
 k7 (hK▸vj4 hu ha hb hs) fun σ H Q aj=>ex8 aj λE L r m w hc xc k=>by
  refine kX m w (hc) xc λE1 s h1 x L1 H1 e1 e2 m1 w1 ok fr sr st sm=>(kX m1 w1 h1 (xc.step st) λE2 s2 h2 y L2 H2 e3 e4 m2 w2 gp ot ou b8 cx=>?_)
  obtain⟨z,hz0,rfl⟩:=wj h2;obtain⟨d,hz,rfl⟩:=Option.map_eq_some_iff.mp hz0;unfold wqm at hz;cases hy:s.2 with
  | dct a9=>
   rw[hy]at hz;dsimp only at hz
   by_cases hc:ww s2.2=true/\unm a9=true/\D.pures (a9.map (·.2))=true
   ·rw[X6 hc]at hz;obtain⟨b,eb,pb⟩:=kkd gp (e4▸hc.1);have su:jK 6 y.d=true:=by
     have:ww y.d=true:=by rw[e4];exact hc.1
     unfold ww at this;rw[Bool.and_eq_true]at this;exact this.1
    have h:=RepO.wk (Jz ok fr b8 (cx rfl)).1;rw[e2,hy]at h;obtain⟨l,xs,bs,e,rp,dc,_⟩:=h;obtain⟨es,ep,d1,d2,d3,d4,d5,d6,d7⟩:=DcA.un dc hc.2.1;obtain⟨g1,g2⟩:=qx2 (k:=⟨y.d,su⟩) rp d5 d7 hc.2.2;have hyk:(⟨y.d,su⟩:Kd).1=s2.2:=e4;cases fi:atKey es ⟨y.d,su⟩with
    |none=>grind
    |some p=>
     obtain⟨d',v',q1,q2,q3,q4⟩:=g1 p fi;rw[hyk,hz]at q1;cases oq9 q1;exact⟨l,b,_,es,ep,v',p,e,eb,d1,d4,d6,pb,fi,q2,k _ _ rfl ⟨.dp,d,v',[]⟩ L2 H2 rfl rfl m2 w2 q3 (λ_ hb=>nomatch hb) (λ_ hb=>nomatch hb) (st.trans b8) λhq=>jY (sm hq) (cx rfl)⟩
   ·rw[Xa hc]at hz;cases hz
  |_=>rw[hy]at hz;cases hz
end
@[irreducible] noncomputable def ShE (X:Cx) (Z:Fx0) (q:Bool) (c:Ex) (e:Expr):Prop:=QE X Z q c e
@[irreducible] noncomputable def ShA (X:Cx) (Z:Fx0) (q:Bool) (cs:List Ex) (es:List Expr):Prop:=QA X Z q cs es
@[irreducible] noncomputable def ShS (X:Cx) (Z:Fx0) (pn:List Nat) (c:Sm) (st:Stmt):Prop:=QS X Z pn c st
@[irreducible] noncomputable def ShB (X:Cx) (Z:Fx0) (pn:List Nat) (c:Sm) (ss:List Stmt):Prop:=QSs X Z pn c ss
end Q
namespace Q
open PySem
def WJ:D->Option D:=λx=>match zY x with
 |some kv=>some (.int kv.length)|none=>none
end Q
namespace Srt
open PySem PySem.W PyProof.Rows
def Ev(key:Nat->Int)(n:Nat){α:Type}:KasT α->α->Prop
 |.ret a,b=>a=b|.ask i j k,b=>i<n/\j<n/\Ev key n (k (decide (key i<key j))) b
theorem Jk{key n α β f a}{b:β}:∀{t:KasT α},Ev key n t a->Ev key n (f a) b->Ev key n (t.bind f) b
 |.ret _,h,g=>by
  subst h;exact g
 |.ask _ _ _,h,g=>⟨h.1,h.2.1,Jk h.2.2 g⟩
section
variable {key:Nat->Int}{n:Nat}
structure Ok (n:Nat)(p:Array Nat):Prop where
 sz:p.size=n
 pm:p.toList.Perm (List.range n)
def K(key:Nat->Int)(p:Array Nat)(k:Nat):Int:=key (p.getD k 0)
theorem Ok.at{p}(h:Ok n p){k}(hk:k<n):p[k]?=some (p.getD k 0)/\p.getD k 0<n:=by
 have hs:=h.sz;have e:p[k]?=some (p.getD k 0):=by
  rw[Yw,Xg ⋯];rfl
 exact⟨e,(List.mem_range.mp (h.pm.mem_iff.mp (Array.mem_toList_iff.mpr (Array.mem_of_getElem? e))))⟩
variable (ji:∀i j,i<n->j<n->key i=key j->i=j)
include ji
omit ji in
omit ji in
theorem Ok.bubble{p}(h:Ok n p)(k d):Ok n (bubble p k d):=⟨by rw[bubble_size];exact h.sz,((bubble_perm p k d).toList).trans h.pm⟩
omit ji in
theorem Ok.mirror{p}(h:Ok n p)(i j d):Ok n (mirror p i j d):=⟨by rw[mirror_size];exact h.sz,((mirror_perm p i j d).toList).trans h.pm⟩
omit ji in
theorem XV{p q i j}(h:p[i]?=q[j]?):K key p i=K key q j:=by
 unfold K;rw[Yw,Yw,h]
end
section
variable {key:Nat->Int}{n:Nat}
def AscW(key:Nat->Int)(p:Array Nat)(m:Nat):Prop:=∀k,k+1<m->K key p k<=K key p (k+1)
def XY(key:Nat->Int)(p:Array Nat)(m:Nat):Prop:=∀k,k+1<m->K key p (k+1)<=K key p k
theorem AscW.le{p m}(h:AscW key p m):∀{i j},i<=j->j<m->K key p i<=K key p j
 | i,0,lf,_=>by grind
 | i,j+1,lf,hj=>by
  by_cases e:i=j+1
  ·subst e;exact Int.le_refl _
  ·have:=AscW.le h (i:=i) (j:=j) ⋯ ⋯;have:=h j hj;lia
theorem vxj{p}(h:Ok n p):∀f m,1<=m->m+f<=n->AscW key p m->∃m',Ev key n (kas_asc p f m) m'/\m<=m'/\m'<=m+f/\AscW key p m'/\(m'<m+f->K key p m'<K key p (m' - 1))
 | 0,m,h1,h2,ha=>⟨m,rfl,X8 _,X8 _,ha,λh=>absurd h ⋯⟩
 | f + 1,m,h1,h2,ha=>by
  have a1:=h.at (k:=m) ⋯;have a2:=h.at (k:=m - 1) ⋯
  by_cases hc:key (p.getD m 0)<key (p.getD (m - 1) 0)
  ·refine⟨m,⟨a1.2,a2.2,?_⟩,X8 _,⋯,ha,λ_=>hc⟩;rw[Xf hc];rfl
  ·obtain⟨m',e1,e2,e3,e4,e5⟩:=vxj h f (m+1) ⋯ ⋯ (λk hk=>by
    by_cases ly:k+1<m
    ·exact ha k ly
    ·have e:k=m - 1:=⋯
     subst e;have e':m - 1+1=m:=⋯
     have hc:¬K key p m<K key p _:=hc;lia)
   refine⟨m',⟨a1.2,a2.2,?_⟩,⋯,⋯,e4,λh=>e5 ⋯⟩
   rwa [Xh hc]
theorem kq1{p a b c}(hb:b<=p.size)(h:∀i,a<=i->i<b->K key p i=c) k:K key (kas_rev p a b) k=K key p k:=by
 have hr:=getElem?_mirror_all (i:=a) hb k
 by_cases hk:a<=k/\k<b
 ·rw[X6 hk]at hr;have:K key (kas_rev p a b) k=K key p _:=XV hr;rw[this,h k hk.1 hk.2,h _ ⋯ ⋯]
 ·rw[Xa hk]at hr;exact XV hr
theorem qjv:∀f {p} (m q),Ok n p->q+1<=m->m+f<=n->XY key p m->(∀i,m - (q+1)<=i->i<m->K key p i=K key p (m - 1)) ->
  ∃ p' m' q',Ev key n (kas_desc f p m q) (p',m',q')/\m<=m'/\m'<=m+f/\Ok n p'/\XY key p' m'/\∀i,m' - (q'+1)<=i->i<m'->K key p' i=K key p' (m' - 1)
 | 0,p,m,q,h,h1,h2,ha,hq=>⟨p,m,q,rfl,X8 _,X8 _,h,ha,hq⟩
 | f + 1,p,m,q,h,h1,h2,ha,hq=>by
  have a1:=h.at (k:=m) ⋯;have a2:=h.at (k:=m - 1) ⋯;have e':m - 1+1=m:=⋯
  by_cases hc:key (p.getD m 0)<key (p.getD (m - 1) 0)
  ·have hd:XY key p (m+1):=λk hk=>by
    by_cases ly:k+1<m
    ·exact ha k ly
    ·have e:k=m - 1:=⋯
     subst e;rw[e'];have hc:K key p m<K key p (m - 1):=hc;lia
   have one:∀p',∀i,m+1 - (0+1)<=i->i<m+1->K key p' i=K key p' (m+1 - 1):=λp' i i1 i2=>by
    have:i=m+1 - 1:=⋯
    rw[this]
   by_cases hq0:q>0
   ·have sm:=λk=>kq1 (key:=key) (p:=p) (a:=m - (q+1)) (b:=m) (c:=K key p (m - 1)) (by rw[h.sz];lia) hq k
    obtain⟨p',m',q',e1,e2,e3,e4,e5,e6⟩:=qjv f (m+1) 0 (h.mirror (m - (q+1)) m ((m - (m - (q+1))) / 2)) ⋯ ⋯ (λk hk=>by
     have s1:=sm k;have s2:=sm (k+1);unfold kas_rev at s1 s2;rw[s1,s2];exact hd k hk) (one _)
    refine⟨p',m',q',⟨a1.2,a2.2,?_⟩,⋯,⋯,e4,e5,e6⟩;rw[Xf hc];dsimp only;rw[X6 rfl,X6 hq0];exact e1
   ·obtain⟨p',m',q',e1,e2,e3,e4,e5,e6⟩:=qjv f (m+1) 0 h ⋯ ⋯ hd (one _);refine⟨p',m',q',⟨a1.2,a2.2,?_⟩,⋯,⋯,e4,e5,e6⟩;rw[Xf hc];dsimp only;rw[X6 rfl,Xa hq0];exact e1
  ·by_cases hd:key (p.getD (m - 1) 0)<key (p.getD m 0)
   ·refine⟨p,m,q,⟨a1.2,a2.2,?_⟩,X8 _,⋯,h,ha,hq⟩;rw[Xh hc];dsimp only;rw[Xa ⋯];refine⟨a2.2,a1.2,?_⟩;rw[Xf hd];rfl
   ·have eq:K key p m=K key p (m - 1):=by
     have hc:¬K key p m<K key p (m - 1):=hc;have hd:¬K key p (m - 1)<K key p m:=hd;lia
    obtain⟨p',m',q',e1,e2,e3,e4,e5,e6⟩:=qjv f (m+1) (q+1) h ⋯ ⋯ (λk hk=>by
     by_cases ly:k+1<m
     ·exact ha k ly
     ·have e:k=m - 1:=⋯
      subst e;rw[e',eq];exact Int.le_refl _) (λi i1 i2=>by
     show K key p i=K key p m
     by_cases e:i=m
     ·rw[e]
     ·rw[eq];exact hq i ⋯ ⋯)
    refine⟨p',m',q',⟨a1.2,a2.2,?_⟩,⋯,⋯,e4,e5,e6⟩;rw[Xh hc];dsimp only;rw[Xa ⋯];refine⟨a2.2,a1.2,?_⟩;rw[Xh hd];dsimp only;rw[Xa ⋯];exact e1
theorem kxa{p}(h:Ok n p){k}(hk:k<n)(ha:AscW key p k):∀f l r,l<=r->r<=k->r - l<=f->(∀i,i<l->K key p i<=K key p k)->(∀i,r<=i->i<k->K key p k<=K key p i) ->
  ∃ l',Ev key n (kas_place p k f l r) l'/\l'<=k/\(∀i,i<l'->K key p i<=K key p k)/\∀i,l'<=i->i<k->K key p k<=K key p i
 | 0,l,r,h1,h2,h3,h4,h5=>⟨l,rfl,⋯,h4,λi hi=>h5 i ⋯⟩
 | f + 1,l,r,h1,h2,h3,h4,h5=>by
  by_cases hlr:l>=r
  ·refine⟨l,?_,⋯,h4,λi hi=>h5 i ⋯⟩;unfold kas_place;rw[X6 hlr];rfl
  ·have a1:=h.at hk;have a2:=h.at (k:=(l+r) / 2) ⋯
   by_cases hc:key (p.getD k 0)<key (p.getD ((l+r) / 2) 0)
   ·obtain⟨l',e1,e2,e3,e4⟩:=kxa h hk ha f l ((l+r) / 2) ⋯ ⋯ ⋯ h4 (λi hi hik=>by
     have hc:K key p k<K key p ((l+r) / 2):=hc;have:=ha.le (i:=(l+r) / 2) (j:=i) hi hik;lia)
    refine⟨l',?_,e2,e3,e4⟩;unfold kas_place;rw[Xa hlr];refine⟨a1.2,a2.2,?_⟩
    rwa [Xf hc]
   ·obtain⟨l',e1,e2,e3,e4⟩:=kxa h hk ha f ((l+r) / 2+1) r ⋯ ⋯ ⋯ (λi hi=>by
     have hc:¬K key p k<K key p ((l+r) / 2):=hc;have:=ha.le (i:=i) (j:=(l+r) / 2) ⋯ ⋯;lia) h5
    refine⟨l',?_,e2,e3,e4⟩;unfold kas_place;rw[Xa hlr];refine⟨a1.2,a2.2,?_⟩
    rwa [Xh hc]
theorem wv7:∀f {p} (k),Ok n p->1<=k->k+f=n->AscW key p k->∃p',Ev key n (kas_bin f p k) p'/\Ok n p'/\AscW key p' n
 | 0,p,k,h,h1,h2,ha=>⟨p,rfl,h,by rw[<-h2];exact ha⟩
 | f + 1,p,k,h,h1,h2,ha=>by
  obtain⟨l,e1,e2,e3,e4⟩:=kxa h (k:=k) ⋯ ha k 0 k ⋯ ⋯ ⋯ (λi hi=>absurd hi ⋯) (λi hi hk=>absurd hi ⋯);have hb:=λi=>getElem?_bubble (xs:=p) (src:=k) (by rw[h.sz];lia) (k - l) ⋯ i
  have ek:k - (k - l)=l:=⋯
  rw [ek]at hb;obtain⟨p',g1,g2,g3⟩:=wv7 f (k+1) (h.bubble k (k - l)) ⋯ ⋯ (λi hi=>by
   have q:∀i,K key (PyProof.Rows.bubble p k (k - l)) i=if i=l then K key p k else if l<i/\i<=k then K key p (i - 1)else K key p i:=λi=>by
    have:=hb i
    by_cases c1:i=l
    ·rw[X6 c1]at this ⊢;exact XV this
    ·rw[Xa c1]at this ⊢
     by_cases c2:l<i/\i<=k
     ·rw[X6 c2]at this ⊢;exact XV this
     ·rw[Xa c2]at this ⊢;exact XV this
   rw [q i,q (i+1)]
   by_cases c1:i+1<l
   ·rw[Xa ⋯,Xa ⋯,Xa ⋯,Xa ⋯];exact ha i ⋯
   ·by_cases c2:i+1=l
    ·rw[Xa ⋯,Xa ⋯,X6 c2];exact e3 i ⋯
    ·by_cases c3:i=l
     ·rw[X6 c3,Xa ⋯,X6 ⋯];exact e4 _ ⋯ ⋯
     ·rw[Xa c3,X6 ⋯,Xa ⋯,X6 ⋯];exact ha.le ⋯ ⋯)
  exact⟨p',Jk e1 g1,g2,g3⟩
theorem vv8{p q}(hq:q<=p.size)(hd:XY key p q):AscW key (kas_rev p 0 q) q:=λk hk=>by
 have at':∀k,k<q->K key (kas_rev p 0 q) k=K key p (q - 1 - k):=λk hk=>XV (by
  have:=(λk=>getElem?_mirror_all (i:=0) hq k) k;rw[X6 ⋯]at this;rw[show q - 1 - k=0+q - 1 - k by lia];exact this)
 rw[at' k ⋯,at' _ hk,show q - 1 - k=q - 1 - (k+1)+1 by lia];exact hd _ ⋯
theorem vkr{p m}(h:Ok n p)(h1:1<=m)(h2:m+1<=n)(hd:XY key p (m+1)):∃m' p',Ev key n (kas_descPart m n p) (m',p')/\1<=m'/\m'<=n/\Ok n p'/\AscW key p' m':=by
 obtain⟨p',m',q',e1,e2,e3,e4,e5,e6⟩:=qjv (n - (m+1)) _ 0 h ⋯ ⋯ hd (λi i1 i2=>by
  have:i=m+1 - 1:=⋯
  rw[this])
 have tail:∀p2,Ok n p2->XY key p2 m'->∃m2 p3,Ev key n (kas_tail3 m' n p2) _/\1<=m2/\m2<=n/\Ok n p3/\AscW key p3 m2:=λp2 ho hd=>by
  obtain⟨m2,f1,f2,f3,f4,_⟩:=vxj (ho.mirror 0 m' ((m' - 0) / 2)) (n - m') m' ⋯ ⋯ (vv8 (q:=m') (by rw[ho.sz];lia) hd);exact⟨m2,kas_rev p2 0 m',Jk f1 rfl,⋯,⋯,ho.mirror 0 m' ((m' - 0) / 2),f4⟩
 by_cases hq0:q'>0
 ·have sm:=λk=>kq1 (key:=key) (p:=p') (a:=m' - (q'+1)) (b:=m') (c:=K key p' (m' - 1)) (by rw[e4.sz];lia) e6 k
  obtain⟨m2,p3,g1,g2⟩:=tail (kas_rev p' (m' - (q'+1)) m') (e4.mirror _ _ _) λk hk=>by rw[sm k,sm (k+1)];exact e5 k hk
  refine⟨m2,p3,Jk e1 ?_,g2⟩
  rwa [X6 hq0]
 ·obtain⟨m2,p3,g1,g2⟩:=tail p' e4 e5;refine⟨m2,p3,Jk e1 ?_,g2⟩
  rwa [Xa hq0]
theorem vzs(h2:2<=n):∃p,Ev key n (kas_sort n) p/\Ok n p/\AscW key p n:=by
 have h0:Ok n (List.range n).toArray:=⟨by simp,by simp⟩;generalize hp0:(List.range n).toArray=p0 at h0;have cnt:∃m p,Ev key n (kas_count n p0) (m,p)/\1<=m/\m<=n/\Ok n p/\AscW key p m:=by
  obtain⟨m,e1,e2,e3,e4,e5⟩:=vxj (key:=key) h0 (n - 1) 1 ⋯ ⋯ (λk hk=>absurd hk ⋯)
  by_cases hm:m=n
  ·refine⟨m,_,Jk e1 ?_,e2,⋯,h0,e4⟩;rw [X6 (by rw[hm];simp)];rfl
  ·have ib:¬(m==n)=true:=by simpa using hm
   have bh:=e5 ⋯
   by_cases h1:m>1
   ·by_cases hc:key (p0.getD 0 0)<key (p0.getD (m - 1) 0)
    ·refine⟨m,_,Jk e1 ?_,e2,⋯,h0,e4⟩;rw[Xa ib,X6 h1];refine⟨(h0.at ⋯).2,(h0.at ⋯).2,?_⟩;rw[Xf hc];rfl
    ·have kl:¬K key p0 0<K key p0 (m - 1):=hc;have same:∀i,0<=i->i<m->K key p0 i=K key p0 0:=λi _ hi=>by
      have x1:=e4.le (i:=0) (j:=i) ⋯ hi;have x2:=e4.le (i:=i) (j:=m - 1) ⋯ ⋯;lia
     have sm:=λk=>kq1 (key:=key) (p:=p0) (a:=0) (b:=m) (c:=K key p0 0) (by rw[h0.sz];lia) same k
     obtain⟨m',p',g1,g2⟩:=vkr (key:=key) (p:=kas_rev p0 0 m) (m:=m) (h0.mirror _ _ _) ⋯ ⋯ (λk hk=>by
      rw[sm k,sm (k+1)]
      by_cases ly:k+1<m
      ·rw[same k ⋯ ⋯,same (k+1) ⋯ ly];exact Int.le_refl _
      ·have e:k=m - 1:=⋯
       subst e;rw[show m - 1+1=m by lia];lia)
     refine⟨m',p',Jk e1 ?_,g2⟩;rw[Xa ib,X6 h1];refine⟨(h0.at ⋯).2,(h0.at ⋯).2,?_⟩;rw[Xh hc];dsimp only;rw[Xa ⋯];exact g1
   ·have e:m=1:=⋯
    subst e;obtain⟨m',p',g1,g2⟩:=vkr (key:=key) (p:=p0) (m:=1) h0 ⋯ ⋯ (λk hk=>by
     have:k=0:=⋯
     subst this;exact Int.le_of_lt bh)
    refine⟨m',p',Jk e1 ?_,g2⟩
    rwa [Xa ib,Xa h1]
 obtain⟨m,p,e1,e2,e3,e4,e5⟩:=cnt;rw[<-hp0]at e1
 by_cases hm:m<n
 ·obtain⟨p',g1,g2,g3⟩:=wv7 (n - m) m e4 e2 ⋯ e5;refine⟨p',Jk e1 ?_,g2,g3⟩;have:max m 1=m:=⋯
  grind
 ·refine⟨p,Jk e1 ?_,e4,by rw[show n=m by lia];exact e5⟩;show Ev key n (if m<n then kas_bin (n - max m 1) p (max m 1)else .ret p) p;rw[Xa hm];rfl
end
theorem wqs{key n α cmp Q a s}(hc:∀i j C,i<n->j<n->C (decide (key i<key j)) s->cmp i j C s):
  ∀{t:KasT α},Ev key n t a->Q a s->KasT.kasWp cmp t Q s
 |.ret _,h,g=>by
  subst h;exact g
 |.ask _ _ _,h,g=>hc _ _ _ h.1 h.2.1 (wqs hc h.2.2 g)
end Srt
namespace Q
open PySem PySem.Spec PyProof.Rows L2 L3
inductive F2 {α β:Type}(R:α->β->Prop):List α->List β->Prop
 |nil:F2 R [] []
 |cons {a:α} {b:β} {l:List α} {m:List β}:R a b->F2 R l m->F2 R (a::l) (b::m)
end Q
namespace Q
open PySem PySem.Spec PyProof.Rows L2 L3 Srt
theorem wqq{α β R}{f:Nat->α}{g:Nat->β}:∀{p:List Nat},(∀i∈p,R (f i) (g i))->F2 R (p.map f) (p.map g)
 |[],_=>.nil|i::p,h=>.cons (h i X4) (wqq λj hj=>h j (lc9 _ hj))
theorem wqr{α β R}{l:List α}{m:List β}(h:F2 R l m):l.length=m.length:=by
 induction h with|nil=>rfl|cons _ _ ih=>simp[ih]
theorem kzc:∀(as:List Addr),Vals (as.map V.ref) (as.map Value.ref)
 |[]=>.nil|a::as=>.cons rfl (kzc as)
end Q
namespace Q
open PySem PySem.Spec PyProof.Rows L2 L3
theorem wxq{kv}:∀{vs},KV (dkI kv) vs->vs.length=kv.length/\∀(i:Nat) k x,vs[i]?=some (k,x)->∃p,kv[i]?=some p/\k=Sum.inl p.1:=by
 induction kv with
 | nil=>intro vs h;cases h;exact⟨rfl,λi k x h=>by simp at h⟩
 | cons p r ih=>
  intro vs h;cases h with
  | cons h1 h2=>
   obtain⟨g1,g2⟩:=ih h2;refine⟨by simp[g1],λi k x e=>?_⟩;cases i with
   |zero=>
    cases oq9 e;exact⟨p,rfl,h1.1.symm⟩
   |succ i=>exact g2 i k x (by simpa using e)
def wj5:List V->Hp->VK->Prop:=λxs H Q=>∃(a:Addr) (kv:List (Int×Int)),xs=[.ref a]/\H a=some (.dK (dkI kv))/\Q (.int kv.length) H
theorem qxq{X}:CallR X (.builtin "len") wj5:=by
 rintro a7 s σ H xs us Q I r ⟨a,kv,rfl,hH,q⟩;obtain⟨u,rfl,rx⟩:=xK r;cases rx;obtain⟨hz,lo,vs,fj,o,es,ep,h1,h2,h3,h4,h5,h6⟩:=wqw I.hok hH;have hl:es.size=kv.length:=by
  have:=h5.length;rw[(wxq fj).1]at this;exact this
 have hz:kv.length<=sizeLine:=by simpa [dkI]using hz
 exact kk4 lo ⟨o,es,ep,h1,h2.1,h3,hl⟩ (by rw[Yp]at hz;lia) ⟨.int kv.length,H,I.tok _,⟨_,rfl⟩,q⟩
theorem vxm{K}:Ad1 K (λv H Q=>wj5 [v] H Q) (pu1 WJ):=by
 intro H x s Q ok hf k;have hf:(WJ x.d).map _=some s:=hf;unfold WJ at hf;cases hx:zY x.d with
 |none=>rw[hx]at hf;cases hf
 |some kv=>
  rw[hx]at hf;cases oq9 hf;obtain⟨a,ev,hH,_⟩:=qju ok hx;exact⟨a,kv,by rw[ev],hH,k _ H rfl rfl (jzo (λ_ _ h=>h) xZ)⟩
end Q
namespace Tb
open PySem PySem.SetTable
def it{α:Type}(f:α->α):Nat->α->α
 |0,a=>a|n+1,a=>it f n (f a)
theorem KY{α}(f):∀m n (a:α),it f (m+n) a=it f n (it f m a)
 |0,n,a=>by rw[Nat.zero_add];rfl|m+1,n,a=>by rw[Nat.succ_add];exact KY f m n _
theorem kxu{α} f n (a:α):it f (n+1) a=f (it f n a):=KY f n 1 a
def lp(mask:Nat)(q:Nat×Nat):Nat×Nat:=leap mask q.1 q.2
def f5(mask:Nat)(i:Nat):Nat:=(i*5+1) % (mask+1)
theorem vky(mask):∀k (q),(it (lp mask) k q).2=q.2 / 32 ^ k
 |0,q=>by rw[Nat.div_one];rfl
 |k+1,q=>by
  show(it _ k (lp mask q)).2=_;rw[vky mask k];show q.2 / 32 / 32 ^ k=_;rw[Nat.div_div_eq_div_mul,Nat.pow_succ,Nat.mul_comm]
theorem qwc(mask):∀k i,it (lp mask) k (i,0)=(it (f5 mask) k i,0)
 |0,i=>rfl
 |k+1,i=>by
  show it _ k (leap mask i 0)=_;have:leap mask i 0=(f5 mask i,0):=by unfold leap f5;simp
  rw[this,qwc mask k];rfl
def wY(mask:Nat):Prop:=mask=7\/mask=31\/mask=127
def W9(mask:Nat):Nat->Nat->List Nat
 |0,_=>[]|n+1,i=>i::W9 mask n (f5 mask i)
theorem kvr{mask}:∀{n i e},e∈W9 mask n i->∃k,k<n/\it (f5 mask) k i=e
 | n+1,i,e,h=>by
  rcases aD h with rfl|h
  ·exact⟨0,Nat.succ_pos _,rfl⟩
  ·obtain⟨k,hk,e⟩:=kvr h;exact⟨k+1,Nat.succ_lt_succ hk,e⟩
theorem vz7:(List.range 32).all (λe=>(W9 31 32 0).contains e)=true/\it (f5 31) 32 0=0:=by decide +kernel
theorem ww6:(List.range 8).all (λe=>(W9 7 8 0).contains e)=true/\it (f5 7) 8 0=0:=by decide +kernel
theorem vqn:(List.range 128).all (λe=>(W9 127 128 0).contains e)=true/\it (f5 127) 128 0=0:=by decide +kernel
theorem cyc{mask}(h:(List.range (mask+1)).all (λe=>(W9 mask (mask+1) 0).contains e)=true/\it (f5 mask) (mask+1) 0=0){i e}(hi:i<=mask)(he:e<=mask):∃k,k<=mask/\it (f5 mask) k i=e:=by
 obtain⟨h1,h2⟩:=h;rw[Xy]at h1;have g:∀e,e<=mask->∃k,k<mask+1/\it _ k 0=e:=λe he=>kvr (by simpa using h1 e (List.mem_range.mpr ⋯))
 obtain⟨a,ha,ea⟩:=g i hi;obtain⟨b,hb,eb⟩:=g e he
 by_cases i5:a<=b
 ·refine⟨b - a,⋯,?_⟩
  rwa [<-ea,<-KY,show a+_=b by lia]
 ·refine⟨mask+1 - a+b,⋯,?_⟩
  rwa [<-ea,<-KY,show a+_=mask+1+b by lia,KY,h2]
theorem cyc'{mask}(hm:wY mask){i e}(hi:i<=mask)(he:e<=mask):∃k,k<=mask/\it (f5 mask) k i=e:=by
 rcases hm with rfl|rfl|rfl
 ·exact cyc ww6 hi he
 ·exact cyc vz7 hi he
 ·exact cyc vqn hi he
theorem wv0{mask i b e}(hm:wY mask)(hi:i<=mask)(hb:b<2 ^ 64)(he:e<=mask):∃k,k<mask+15/\(it (lp mask) k (i,b)).1=e:=by
 have hp:(it (lp mask) 13 (i,b)).2=0:=by
  rw[vky];exact Nat.div_eq_of_lt (Xm hb ⋯)
 have hl:(it (lp mask) 13 (i,b)).1<=mask:=by
  show((it (lp mask) 12 _).1*5+1+(it (lp mask) 12 _).2 / 32) % _<=mask;have:=Nat.mod_lt ((it (lp mask) 12 (i,b)).1*5+1+(it (lp mask) 12 (i,b)).2 / 32) (show 0<mask+1 by lia);lia
 obtain⟨k,hk,e1⟩:=cyc' hm hl he;refine⟨13+k,⋯,?_⟩;rw[KY];have:it _ 13 _=((it _ 13 (i,b)).1,0):=Prod.ext rfl hp
 rwa [this,qwc]
noncomputable def adv(mask:Nat)(p:Probe):Probe:=
 if p.more>0 then {p with j:=p.j+1,more:=p.more - 1}else {p with j:=(leap mask p.i p.perturb).1,more:=runEnd mask (leap mask p.i p.perturb).1 - (leap mask p.i p.perturb).1,i:=(leap mask p.i p.perturb).1,perturb:=(leap mask p.i p.perturb).2}
theorem vqk(t:SetTable) p:t.advance p=adv t.mask p:=rfl
def rs(mask:Nat)(q:Nat×Nat):Probe:=⟨q.1,runEnd mask q.1 - q.1,q.1,q.2,none⟩
def st0(mask:Nat)(h:Int):Nat×Nat:=(bits h % (mask+1),bits h)
theorem len9(mask i):runEnd mask i - i<=9:=by unfold runEnd;split<;>lia
theorem kz6(mask)(q):∀r,r<=runEnd mask q.1 - q.1->it (adv mask) r (rs mask q)=⟨q.1+r,runEnd mask q.1 - q.1 - r,q.1,q.2,none⟩
 |0,_=>rfl
 |r+1,h=>by
  rw[kxu,kz6 mask q r ⋯];unfold adv
  grind
theorem kqw mask q:it (adv mask) (runEnd mask q.1 - q.1+1) (rs mask q)=rs mask (lp mask q):=by
 rw[kxu,kz6 mask q _ (X8 _)];unfold adv;rw[Xa ⋯];rfl
theorem vkh(mask):∀k (q),∃s,s<=10*k/\it (adv mask) s (rs mask q)=rs mask (it (lp mask) k q)
 |0,q=>⟨0,X8 _,rfl⟩
 |k+1,q=>by
  obtain⟨s,hs,e⟩:=vkh mask k _;refine⟨runEnd mask q.1 - q.1+1+s,by have:=len9 mask q.1;lia,?_⟩;rw[KY,kqw,e];rfl
def jq(mask:Nat)(h:Int)(m:Nat):Nat:=(it (adv mask) m (rs mask (st0 mask h))).j
theorem qz1 h:bits h<2 ^ 64:=by
 unfold bits
 grind
theorem qv3{mask}(hm:wY mask) h {e}(he:e<=mask):∃m,m<10*turns mask/\jq mask h m=e:=by
 have hi:(st0 mask h).1<=mask:=by
  have:=Nat.mod_lt (bits h) (show 0<mask+1 by lia);show bits h % _<=mask;lia
 obtain⟨k,hk,e1⟩:=wv0 hm hi (qz1 h) he;obtain⟨s,hs,e2⟩:=vkh mask k _;refine⟨s,by unfold turns;lia,?_⟩;unfold jq
 rwa [e2]
theorem wxo{P:Nat->Prop}:∀{N},(∃m,m<N/\P m)->∃M,M<N/\P M/\∀m,m<M->¬P m:=by
 rintro N ⟨m,hm,hp⟩
 induction m using Nat.strongRecOn with
 | _ m ih=>
  by_cases c:∃m',m'<m/\P m'
  ·obtain⟨m',h1,h2⟩:=c;exact ih m' h1 ⋯ h2
  ·exact⟨m,hm,hp,λm' h1 h2=>c ⟨m',h1,h2⟩⟩
theorem qku{mask}{oc:Nat->Prop}(hm:wY mask) h (hf:∃e,e<=mask/\¬oc e):∃M,M<10*turns mask/\¬oc (jq mask h M)/\∀m,m<M->oc (jq mask h m):=by
 obtain⟨e,he,hn⟩:=hf;obtain⟨m,h1,h2⟩:=qv3 hm h he;obtain⟨M,a,b,c⟩:=wxo (P:=λm=>¬oc (jq mask h m)) ⟨m,h1,by rw[h2];exact hn⟩;exact⟨M,a,b,λm hm=>Classical.not_not.mp (c m hm)⟩
theorem qvo:∀N (xs:List Nat),xs.length<N->∃j,j<N/\j∉xs
 | 0,_,h=>by grind
 | N + 1,xs,h=>by
  by_cases c:N∈xs
  ·have hl:(xs.filter (λx=>x != N)).length<N:=by
    have:(xs.filter (λx=>x != N)).length<xs.length:=by
     refine List.length_filter_lt_length_iff_exists.mpr ⟨N,c,by simp⟩
    lia
   obtain⟨j,h1,h2⟩:=qvo N _ hl;refine⟨j,⋯,λz=>h2 (List.mem_filter.mpr ⟨z,?_⟩)⟩;simp;lia
  ·exact⟨N,⋯,c⟩
theorem kw9{mask owner}:∀{fuel q j},layClean.free mask owner fuel q.1 q.2=some j ->
  ∃ m,(it (adv mask) m (rs mask q)).j=j/\(owner.getD j (some 0)).isNone=true/\∀m',m'<m->(owner.getD (it (adv mask) m' (rs mask q)).j (some 0)).isNone=false
 | 0,q,j,h=>by cases h
 | fuel+1,q,j,h=>by
  unfold layClean.free at h;have run:∀r,r<=runEnd mask q.1 - q.1->(it (adv mask) r (rs mask q)).j=q.1+r:=λr hr=>by rw[kz6 mask q r hr]
  have ny:runEnd mask q.1+1 - q.1=runEnd mask q.1 - q.1+1:=by
   have:q.1<=runEnd mask q.1:=by unfold runEnd;split<;>lia
   lia
  split at h
  ·rename_i k hk;cases oq9 h;obtain⟨h1,as,bs,h2,h3⟩:=List.find?_eq_some_iff_append.mp hk;have ly:k<runEnd mask q.1 - q.1+1:=by
    have:k∈List.range (runEnd mask q.1+1 - q.1):=List.mem_of_find?_eq_some hk;rw[ny]at this;exact List.mem_range.mp this
   refine⟨k,run k ⋯,h1,λm' ib=>?_⟩;rw[run m' ⋯];have hl:as.length=k:=by
    have e:(List.range (runEnd mask q.1+1 - q.1))[as.length]?=(as++k::bs)[as.length]?:=by rw[h2]
    rw[List.getElem?_append_right (X8 _),Nat.sub_self,List.getElem?_cons_zero]at e;have bh:as.length<runEnd mask q.1+1 - q.1:=by
     have:=congrArg List.length h2;rw[Xv,Y6,Xk]at this;lia
    rw[List.getElem?_range bh]at e;exact oq9 e
   have hm:m'∈as:=by
    have e:(List.range (runEnd mask q.1+1 - q.1))[m']?=(as++k::bs)[m']?:=by rw[h2]
    rw[Yh ⋯,List.getElem?_range ⋯]at e;exact Xs e.symm
   exact Bool.eq_false_iff.mpr λz=>by
    have:=h3 m' hm;rw[z]at this
    grind
  ·rename_i hk;rw[List.find?_eq_none]at hk;have h:layClean.free mask owner fuel (lp mask q).1 (lp mask q).2=some j:=h;obtain⟨m,h1,h2,h3⟩:=kw9 h;refine⟨runEnd mask q.1 - q.1+1+m,by rw[KY,kqw];exact h1,h2,λm' ib=>?_⟩
   by_cases c:m'<runEnd mask q.1 - q.1+1
   ·rw[run m' ⋯];exact Bool.eq_false_iff.mpr (hk m' (List.mem_range.mpr ⋯))
   ·have:=h3 (m' - (runEnd mask q.1 - q.1+1)) ⋯;rw[<-kqw,<-KY,show runEnd mask q.1 - q.1+1+(m' - (runEnd mask q.1 - q.1+1))=m' by lia]at this;exact this
theorem kwa{mask owner}:∀{fuel q},layClean.free mask owner fuel q.1 q.2=none->∀k,k<fuel->(owner.getD (it (lp mask) k q).1 (some 0)).isNone=false
 | fuel+1,q,h,k,hk=>by
  unfold layClean.free at h
  split at h
  ·cases h
  ·rename_i hn;rw[List.find?_eq_none]at hn;cases k with
   | zero=>
    have ny:0<runEnd mask q.1+1 - q.1:=by
     have:q.1<=runEnd mask q.1:=by unfold runEnd;split<;>lia
     lia
    exact Bool.eq_false_iff.mpr (hn 0 (List.mem_range.mpr ny))
   |succ k=>exact kwa h k ⋯
theorem vwz{mask owner}(hm:wY mask)(h)(hf:∃e,e<=mask/\(owner.getD e (some 0)).isNone=true):
  ∃j m,layClean.free mask owner (turns mask) (bits h % (mask+1)) (bits h)=some j/\jq mask h m=j/\(owner.getD j (some 0)).isNone=true/\∀m',m'<m->(owner.getD (jq mask h m') (some 0)).isNone=false:=by
 cases hj:layClean.free mask owner _ _ _ with
 | none=>
  obtain⟨e,he,hn⟩:=hf;have hi:bits h % (mask+1)<=mask:=by
   have:=Nat.mod_lt (bits h) (show 0<mask+1 by lia);lia
  obtain⟨k,hk,e1⟩:=wv0 hm hi (qz1 h) he;have:=kwa (q:=(bits h % _,bits h)) hj k (by unfold turns;lia);rw[e1,hn]at this
  grind
 |some j=>
  obtain⟨m,h1,h2,h3⟩:=kw9 (q:=(bits h % _,bits h)) hj;exact⟨j,m,rfl,h1,h2,h3⟩
theorem kqu(xs)(j)(hp:xs.toList.Pairwise (· < ·)):∀fuel lo hi,lo<=hi->hi<=xs.size->hi - lo<=fuel->(∀i (h),i<lo->xs[i]<j)->(∀i (h),hi<=i->j<=xs[i]) ->
  below.go xs j fuel lo hi<=xs.size/\(∀i (h),i<below.go xs j fuel lo hi->xs[i]<j)/\(∀i (h),below.go xs j fuel lo hi<=i->j<=xs[i])
 | 0,lo,hi,h1,h2,h3,h4,h5=>by
  have:lo=hi:=⋯
  subst this;exact⟨h2,h4,h5⟩
 | fuel+1,lo,hi,h1,h2,h3,h4,h5=>by
  unfold below.go
  by_cases hl:lo<hi
  ·rw[X6 hl];have hm:(lo+hi) / 2<xs.size:=⋯
   have mono:∀i k (hi) (hk:k<xs.size),i<k->xs[i]<xs[k]:=λi k hi hk hik=>by
    have:=List.pairwise_iff_getElem.mp hp i k (by simpa using hi) (by simpa using hk) hik
    simpa using this
   by_cases hc:xs.getD ((lo+hi) / 2) j<j
   ·rw[X6 hc];have kl:xs[(lo+hi) / 2]<j:=by simpa [Array.getD,hm]using hc
    refine kqu xs j hp fuel _ hi ⋯ h2 ⋯ (λi h ni=>?_) h5
    by_cases e:i=(lo+hi) / 2
    ·subst e;exact kl
    ·have:=mono i ((lo+hi) / 2) h hm ⋯;lia
   ·rw[Xa hc];have kl:j<=xs[(lo+hi) / 2]:=by
     have:¬xs[(lo+hi) / 2]<j:=by simpa [Array.getD,hm]using hc
     lia
    refine kqu xs j hp fuel lo _ ⋯ ⋯ ⋯ h4 (λi h ni=>?_)
    by_cases e:i=(lo+hi) / 2
    ·subst e;exact kl
    ·have:=mono ((lo+hi) / 2) i hm h ⋯;lia
  ·rw[Xa hl];have:lo=hi:=⋯
   subst this;exact⟨h2,h4,h5⟩
theorem kqt{xs} j (hp:xs.toList.Pairwise (· < ·)):below xs j<=xs.size/\(∀i h,i<below xs j->xs[i]<j)/\(∀i h,below xs j<=i->j<=xs[i]):=
 kqu xs j hp xs.size 0 xs.size ⋯ (X8 _) ⋯ (λi _ h=>absurd h ⋯) (λi h hi=>absurd h ⋯)
theorem qqt{t:SetTable}(hp:t.place.toList.Pairwise (· < ·))(hd:t.dummies=#[]) j:(∃i,t.slot j=.live i/\t.place[i]?=some j)\/(t.slot j=.empty/\j∉t.place.toList):=by
 unfold slot
 by_cases h:(t.place[below t.place j]? == some j)=true
 ·rw [X6 h];exact .inl ⟨_,rfl,by simpa using h⟩
 ·rw [Xa h,hd];have:has #[] j=false:=by
   unfold has;simp
  refine .inr ⟨rfl,λhj=>h ?_⟩;obtain⟨i,hi,e⟩:=List.mem_iff_getElem.mp hj;have hi:i<t.place.size:=by simpa using hi
  have e:t.place[i]=j:=by simpa using e
  obtain⟨b1,b2,b3⟩:=kqt j hp;have hb:below t.place j=i:=by
   by_cases c:i<below t.place j
   ·have:=b2 i hi c;lia
   ·by_cases c2:below t.place j<i
    ·have h1:=b3 _ ⋯ (X8 _);have h2:=List.pairwise_iff_getElem.mp hp _ i (by simp;lia) (by simpa using hi) c2
     grind
    ·lia
  rw[hb,Xg hi,e];simp
theorem jx1{α} xs p (x:α):(insertAt xs p x).toList=xs.toList.take p++x::xs.toList.drop p:=by
 unfold insertAt;simp[List.extract_eq_drop_take];exact List.take_of_length_le (by simp)
theorem kqj{α:Type} xs p (x:α):(xs.take p++x::xs.drop p).Perm (x::xs):=by
 refine List.perm_middle.trans (.of_eq ?_);rw[List.take_append_drop]
theorem wqe{xs j}(hp:xs.toList.Pairwise (· < ·))(hj:j∉xs.toList):(insertAt xs (below xs j) j).toList.Pairwise (· < ·):=by
 rw[jx1];obtain⟨b1,b2,b3⟩:=kqt j hp;have h1:∀a∈xs.toList.take (below xs j),a<j:=λa ha=>by
  obtain⟨i,hi,rfl⟩:=List.mem_iff_getElem.mp ha;rw[Y5]at hi;have:=b2 i (by simp at hi;lia) ⋯
  simpa using this
 have h2:∀a∈xs.toList.drop (below xs j),j<a:=λa ha=>by
  have hm:=List.mem_of_mem_drop ha;obtain⟨i,hi,rfl⟩:=List.mem_iff_getElem.mp ha;rw[List.length_drop]at hi;have:=b3 (below xs j+i) (by simp at hi;lia) ⋯;have e:(xs.toList.drop (below xs j))[i]=xs[below xs j+i]'(by simp at hi;lia):=by simp
  grind
 refine List.pairwise_append.mpr ⟨hp.sublist (List.take_sublist _ _),List.pairwise_cons.mpr ⟨h2,hp.sublist (List.drop_sublist _ _)⟩,λa ha b hb=>?_⟩;rcases aD hb with rfl|hb
 ·exact h1 a ha
 ·exact Nat.lt_trans (h1 a ha) (h2 b hb)
theorem vws{α β:Type}{xs:List α}{ys:List β} p x y (hl:xs.length=ys.length):((xs.take p++x::xs.drop p).zip (ys.take p++y::ys.drop p)).Perm ((x,y)::xs.zip ys):=by
 have hz:(xs.take p++x::xs.drop p).zip (ys.take p++y::ys.drop p)=(xs.zip ys).take p++(x,y)::(xs.zip ys).drop p:=by
  rw[List.zip_append (by rw[Y5,Y5,hl]),List.zip_cons_cons];unfold List.zip;rw[List.take_zipWith,List.drop_zipWith]
 rw[hz];exact kqj _ p _
abbrev Ent:=Int×Value
def Z(t:SetTable)(es:Array Ent):List (Nat×Ent):=t.place.toList.zip es.toList
structure TOk (t:SetTable)(es:Array Ent):Prop where
 m:wY t.mask
 d:t.dummies=#[]
 sz:t.place.size=es.size
 pw:t.place.toList.Pairwise (· < ·)
 le:∀j∈t.place.toList,j<=t.mask
 few:es.size*5<t.mask*3
 good:∀z∈Z t es,∃m,jq t.mask z.2.1 m=z.1/\∀m',m'<m->jq t.mask z.2.1 m'∈t.place.toList
theorem TOk.empty{t es}(h:TOk t es):∃e,e<=t.mask/\¬e∈t.place.toList:=by
 have hs:t.place.toList.length<t.mask+1:=by
  rw[X7,h.sz];have:=h.few;lia
 obtain⟨j,h1,h2⟩:=qvo _ _ hs;exact⟨j,⋯,h2⟩
def pr(mask:Nat)(h:Int)(m:Nat):Probe:=it (adv mask) m (rs mask (st0 mask h))
theorem kq2 mask h m:adv mask (pr mask h m)=pr mask h (m+1):=(kxu _ _ _).symm
theorem qj1(mask)(h):∀m,(pr mask h m).dummy=none
 |0=>rfl
 |m+1=>by
  rw[<-kq2];have:=qj1 mask h m;unfold adv
  split<;>exact this
theorem qj0{t es}(ok:TOk t es){g h M}(hM:jq t.mask h M∉t.place.toList)(hb:∀m,m<M->jq t.mask h m∈t.place.toList):
  ∀ F m,m<=M->M - m<F ->
   (probe.go t g h F (pr t.mask h m)=some (.empty (jq t.mask h M) none)/\∀m' i,m<=m'->m'<M->t.place[i]?=some (jq t.mask h m')->g i≠h) \/
   ∃ m' i,m<=m'/\m'<M/\t.place[i]?=some (jq t.mask h m')/\g i=h/\probe.go t g h F (pr t.mask h m)=some (.candidate (jq t.mask h m') i (pr t.mask h (m'+1)))/\∀jg i',m<=jg->jg<m'->t.place[i']?=some (jq t.mask h jg)->g i'≠h
 | 0,m,_,h2=>absurd h2 ⋯
 | F + 1,m,h1,h2=>by
  have hj:(pr t.mask h m).j=jq t.mask h m:=rfl;unfold probe.go;rw [hj];rcases qqt ok.pw ok.d (jq t.mask h m)with⟨i,e1,e2⟩|⟨e1,e2⟩
  ·rw [e1];dsimp only;have hmM:m<M:=by
    rcases Nat.lt_or_ge m M with c|c
    ·exact c
    ·have:m=M:=⋯
     subst this;exact absurd (Xs (Xr▸e2)) hM
   have uni:∀i',t.place[i']?=some (jq t.mask h m)->i'=i:=λi' e3=>by
    refine(List.getElem?_inj (by simpa using ((Array.getElem?_eq_some_iff.mp e3).1)) (ok.pw.imp λh=>Xj h)).mp ?_;rw[Xr,Xr,e3,e2]
   by_cases hg:g i=h
   ·rw[X6 (by simpa using hg),vqk,kq2];exact .inr ⟨m,i,X8 _,hmM,e2,hg,rfl,λjg i' a b=>absurd a ⋯⟩
   ·rw[Xa (by simpa using hg),vqk,kq2];rcases qj0 ok hM hb F (m+1) ⋯ ⋯with⟨q1,q2⟩|⟨m',i',q1,q2,q3,q4,q5,q6⟩
    ·refine .inl ⟨q1,λm' i' a b c=>?_⟩
     by_cases e:m'=m
     ·subst e
      rwa [uni i' c]
     ·exact q2 m' i' ⋯ b c
    ·refine .inr ⟨m',i',⋯,q2,q3,q4,q5,λjg i'' a b c=>?_⟩
     by_cases e:jg=m
     ·subst e
      rwa [uni i'' c]
     ·exact q6 jg i'' ⋯ b c
  ·rw[e1];dsimp only;have hmM:m=M:=by
    rcases Nat.lt_or_ge m M with c|c
    ·exact absurd (hb m c) e2
    ·lia
   subst hmM;rw[qj1];exact .inl ⟨rfl,λm' i a b=>absurd a ⋯⟩
theorem wjx(mask)(h):∀m,(pr mask h m).j+(pr mask h m).more<=mask
 | 0=>by
  show bits h % _+(runEnd mask (bits h % _) - bits h % _)<=mask;have:=Nat.mod_lt (bits h) (show 0<mask+1 by lia);unfold runEnd
  split<;>lia
 | m+1=>by
  have ih:=wjx mask h m;rw[<-kq2];unfold adv
  split
  ·grind
  ·have:(leap mask (pr mask h m).i (pr mask h m).perturb).1<=mask:=by
    unfold leap;have:=Nat.mod_lt ((pr mask h m).i*5+1+(pr mask h m).perturb / 32) (show 0<mask+1 by lia)
    grind
   unfold runEnd
   split<;>lia
theorem kxc mask h m:jq mask h m<=mask:=by
 have:=wjx mask h m;have e:jq mask h m=(pr mask h m).j:=rfl;lia
structure OInv (mask:Nat)(hs:List Int)(owner:Array (Option Nat))(xs:List Nat):Prop where
 sz:owner.size=mask+1
 iff:∀(j k:Nat),owner[j]?=some (some k)↔xs[k]?=some j
 good:∀(k j:Nat),xs[k]?=some j->∃m,jq mask (hs.getD k 0) m=j/\∀m',m'<m->jq mask (hs.getD k 0) m'∈xs
theorem vj5{mask hs owner xs}(hm:wY mask)(o:OInv mask hs owner xs)(hl:xs.length<mask)(h)(hh:hs.getD xs.length 0=h):
  ∃ j,layClean.free mask owner (turns mask) (bits h % (mask+1)) (bits h)=some j/\OInv mask hs (owner.setIfInBounds j (some xs.length)) (xs++[j]):=by
 have pc:∀j,j<=mask->(owner.getD j (some 0)).isNone=false->j∈xs:=λj hj hn=>by
  have kr:j<owner.size:=by rw[o.sz];lia
  cases e:owner[j]with
  | none=>simp[Array.getD,kr,e]at hn
  | some k=>
   have:=(o.iff j k).mp (by rw[Xg kr,e]);exact Xs this
 have hf:∃e,e<=mask/\(owner.getD e (some 0)).isNone=true:=by
  obtain⟨j,h1,h2⟩:=qvo (mask+1) xs ⋯;refine⟨j,⋯,?_⟩;cases hn:(owner.getD j (some 0)).isNone with| true=>rfl| false=>exact absurd (pc j ⋯ hn) h2
 obtain⟨j,m,h1,h2,h3,h4⟩:=vwz hm h hf;have hj:j<=mask:=by rw[<-h2];exact kxc mask h m
 have kr:j<owner.size:=by rw[o.sz];lia
 have hjn:owner[j]?=some none:=by
  rw [Xg kr];simp[Array.getD,kr]at h3;rw [h3]
 have hjx:j∉xs:=λz=>by
  obtain⟨k,hk⟩:=List.mem_iff_getElem?.mp z;rw [(o.iff j k).mpr hk]at hjn
  grind
 refine⟨j,h1,⟨by rw[Array.size_setIfInBounds];exact o.sz,λj' k=>?_,λk j' e=>?_⟩⟩
 ·rw [Array.getElem?_setIfInBounds]
  by_cases c:j=j'
  ·subst c;rw [X6 rfl,X6 kr];constructor
   ·intro e;have:xs.length=k:=by simpa using e
    subst this;simp
   ·intro e
    by_cases ck:k<xs.length
    ·rw[Yh ck]at e;exact absurd (Xs e) hjx
    ·have:k=xs.length:=by
      have:=(List.getElem?_eq_some_iff.mp e).1;simp at this;lia
     rw[this]
  ·rw [Xa c,o.iff];constructor
   ·intro e
    rwa [Yh (List.getElem?_eq_some_iff.mp e).1]
   ·intro e
    by_cases ck:k<xs.length
    ·rw[Yh ck]at e;exact e
    ·have:k=xs.length:=by
      have:=(List.getElem?_eq_some_iff.mp e).1;simp at this;lia
     subst this;have:j=j':=by simpa using e
     exact absurd this c
 ·by_cases ck:k<xs.length
  ·rw[Yh ck]at e;obtain⟨m,g1,g2⟩:=o.good k j' e;exact⟨m,g1,λm' ib=>ll9 _ (g2 m' ib)⟩
  ·have:k=xs.length:=by
    have:=(List.getElem?_eq_some_iff.mp e).1;simp at this;lia
   subst this;have:j=j':=by simpa using e
   subst this;rw[hh];exact⟨m,h2,λm' ib=>ll9 _ (pc _ (kxc mask h m') (h4 m' ib))⟩
theorem qji{mask hs}(hm:wY mask)(hl:hs.length<=mask):∀ab done (owner) (xs),hs=done++ab->xs.length=done.length->OInv mask hs owner xs ->
  ∃gb xs',ab.foldl (λac h=>do
   let (owner,k) <-ac
   let j <-layClean.free mask owner (turns mask) (bits h % (mask+1)) (bits h)
   pure (owner.setIfInBounds j (some k),k+1)) (some (owner,xs.length))=some (gb,hs.length)/\xs'.length=hs.length/\OInv mask hs gb xs'
 |[],done,owner,xs,h1,h2,o=>by
  rw[Xq]at h1;subst h1;exact⟨owner,xs,by rw[h2];rfl,h2,o⟩
 |h::ab,done,owner,xs,h1,h2,o=>by
  have ae:hs.length=done.length+(ab.length+1):=by rw[h1];simp
  obtain⟨j,e1,e2⟩:=vj5 hm o ⋯ h (by rw[h1,h2];simp);obtain⟨gb,xs',f1,f2,f3⟩:=qji hm hl ab (done++[h]) _ _ (by rw[h1];simp) (by simp[h2]) e2;refine⟨gb,xs',?_,f2,f3⟩;rw[Zb];rw[Y6]at f1;rw[<-f1]
  congr 1
  show(layClean.free mask owner _ _ _).bind _=_;rw[e1];rfl
theorem wky{mask hs}(hm:wY mask)(hl:hs.size<=mask):∃owner xs,layClean mask hs=some owner/\xs.length=hs.size/\OInv mask hs.toList owner xs:=by
 obtain⟨owner,xs,h1,h2,h3⟩:=qji (hs:=hs.toList) hm (by simpa using hl) hs.toList [] (Array.replicate (mask+1) none) [] rfl rfl
  ⟨by simp,λj k=>by simp[Array.getElem?_replicate],λk j e=>by simp at e⟩
 refine⟨owner,xs,?_,by simpa using h2,h3⟩;unfold layClean
 grind
theorem rng_getD{α:Type} l (d:α):(List.range l.length).map (λi=>l.getD i d)=l:=by
 refine List.ext_getElem? λi=>?_
 by_cases hi:i<l.length
 ·simp[hi]
 ·simp[Nat.le_of_not_lt hi]
def zJ(mask:Nat)(owner:Array (Option Nat)):List (Nat×Nat):=(List.range (mask+1)).filterMap λj=>(owner.getD j none).map (j,·)
theorem qjg{mask owner}(hs:owner.size=mask+1){j k}:(j,k)∈zJ mask owner↔owner[j]?=some (some k):=by
 unfold zJ;rw[List.mem_filterMap];constructor
 ·rintro ⟨j',h1,h2⟩;have h1:j'<owner.size:=by rw[hs];exact List.mem_range.mp h1
  cases e:owner.getD j' none with
  |none=>rw[e]at h2;cases h2
  |some k'=>
   rw[e]at h2;cases h2;rw[Xg h1];simp[Array.getD,h1]at e;rw[e]
 ·intro h;have hj:=(Array.getElem?_eq_some_iff.mp h).1;refine⟨j,List.mem_range.mpr (hs▸hj),?_⟩;have:owner.getD j none=some k:=by
   rw[Xg hj]at h;simp[Array.getD,hj];exact oq9 h
  rw[this];rfl
theorem kxm(owner:Array (Option Nat)):∀l:List Nat,l.Pairwise (· < ·)->((l.filterMap λj=>(owner.getD j none).map (j,·)).map (·.1)).Pairwise (· < ·)
 | [],_=>.nil
 | j :: l,h=>by
  obtain⟨h1,h2⟩:=List.pairwise_cons.mp h;rw [List.filterMap_cons]
  split
  ·exact kxm owner l h2
  ·rename_i b hb;refine List.pairwise_cons.mpr ⟨λa ha=>?_,kxm owner l h2⟩;obtain⟨p,hp,rfl⟩:=aE ha;obtain⟨j',kr,e⟩:=List.mem_filterMap.mp hp;cases e1:owner.getD j none with
   | none=>rw[e1]at hb;cases hb
   | some k=>
    rw[e1]at hb;cases oq9 hb;cases e2:owner.getD j' none with
    |none=>rw[e2]at e;cases e
    |some k'=>
     rw[e2]at e;cases oq9 e;exact h1 j' kr
theorem vw7{l:List Nat}{n}(h:l.Nodup)(hm:∀k,k∈l↔k<n):l.Perm (List.range n):=by
 refine(List.perm_ext_iff_of_nodup h List.nodup_range).mpr λk=>?_
 rw[hm,List.mem_range]
theorem vwl{mask}{es:Array Ent}(hm:wY mask)(hl:es.size*5<mask*3)(fg mv)(led plain):
  ∃ t2 d8,laid mask fg mv led plain (es.map (·.1))=some (t2,d8)/\t2.led=led/\t2.plain=plain/\(d8.filterMap (es[·]?)).toList.Perm es.toList/\TOk t2 (d8.filterMap (es[·]?)):=by
 obtain⟨owner,xs,h1,h2,o⟩:=wky (hs:=es.map (·.1)) hm (by rw[Array.size_map];lia);rw [Array.size_map]at h2;refine⟨_,_,by unfold laid;rw[h1];rfl,rfl,rfl,?_⟩;have hL:(List.range (mask+1)).filterMap (λj=>(owner.getD j none).map (j,·))=zJ mask owner:=rfl;rw [hL];have mem:=λj k=>(qjg o.sz).trans (o.iff j k)
 have pw:((zJ mask owner).map (·.1)).Pairwise (· < ·):=kxm owner _ List.pairwise_lt_range;have nd2:((zJ mask owner).map (·.2)).Nodup:=by
  rw[List.Nodup,Yn];rw[Yn]at pw;refine List.Pairwise.imp_of_mem (fun {p q} hp hq lt e=>?_) pw
  grind
 have pm:=vw7 nd2 λk=>by
  rw[List.mem_map];constructor
  ·rintro ⟨⟨j,k'⟩,hp,rfl⟩;have:=(List.getElem?_eq_some_iff.mp ((mem j k').mp hp)).1;show k'<es.size;lia
  ·intro hk;exact⟨(xs[k]'⋯,k),(mem _ k).mpr (X5 ⋯),rfl⟩
 have mh:∀p∈zJ mask owner,p.2<es.size:=λp hp=>by
  have:=(List.getElem?_eq_some_iff.mp ((mem p.1 p.2).mp hp)).1;lia
 have n9:((((zJ mask owner).map (·.2)).toArray).filterMap (es[·]?)).toList=(zJ mask owner).map λp=>es.getD p.2 (0,.none):=by
  rw[Array.toList_filterMap];have:∀l:List (Nat×Nat),(∀p∈l,p.2<es.size)->(l.map (·.2)).filterMap (es[·]?)=l.map λp=>es.getD p.2 (0,.none):=by
   intro l
   induction l with
   |nil=>intro _;rfl
   |cons p l ih=>
    intro hp;have h0:=hp p X4;rw[List.map_cons,List.filterMap_cons,List.map_cons,Xg h0,ih λq hq=>hp q (lc9 _ hq)];simp[Array.getD,h0]
  exact this _ mh
 have ef:((((zJ mask owner).map (·.2)).toArray).filterMap (es[·]?)).toList.Perm es.toList:=by
  rw[n9];have e1:(zJ mask owner).map (λp=>es.getD p.2 (0,.none))=((zJ mask owner).map (·.2)).map λk=>es.toList.getD k (0,.none):=by
   rw[Xi];refine Yj λp _=>?_
   simp[Yw]
  rw[e1];refine(pm.map _).trans (.of_eq ?_);have:=rng_getD es.toList ((0,.none):Ent);exact this
 have hsz:((((zJ mask owner).map (·.2)).toArray).filterMap (es[·]?)).size=es.size:=by
  rw[<-X7,ef.length_eq,X7]
 refine⟨ef,hm,rfl,?_,pw,λj hj=>?_,?_,λz hz=>?_⟩
 ·rw[<-X7 (xs:=Array.filterMap _ _),n9];simp
 ·obtain⟨⟨j',k⟩,hp,rfl⟩:=aE hj;have:=(Array.getElem?_eq_some_iff.mp ((qjg o.sz).mp hp)).1;rw[o.sz]at this;show j'<=mask;lia
 ·rwa [hsz]
 ·unfold Z at hz;rw[n9,List.zip_map',List.mem_map]at hz;obtain⟨⟨j,k⟩,hp,rfl⟩:=hz;have hk:=mh _ hp;obtain⟨m,g1,g2⟩:=o.good k j ((mem j k).mp hp);have eh:(es.map (·.1)).toList.getD k 0=(es.getD k (0,.none)).1:=by
   have hk:k<es.size:=hk;simp[Array.getD,hk]
  rw[eh]at g1 g2;refine⟨m,g1,λm' ib=>?_⟩;obtain⟨k',iz⟩:=List.mem_iff_getElem?.mp (g2 m' ib);exact List.mem_map.mpr ⟨_,(mem _ k').mpr iz,rfl⟩
theorem wjs{t:SetTable}(hd:t.dummies=#[]) j:t.put j=({t with place:=insertAt t.place (below t.place j) j},below t.place j):=by
 unfold put;rw[hd];have:has #[] j=false:=by unfold has;simp
 grind
theorem wjr{t es}(ok:TOk t es){h x M}(hM:jq t.mask h M∉t.place.toList)(hb:∀m,m<M->jq t.mask h m∈t.place.toList):
  (insertAt es (t.put (jq t.mask h M)).2 (h,x)).toList.Perm ((h,x)::es.toList)/\(t.put (jq t.mask h M)).1.mask=t.mask/\(t.put (jq t.mask h M)).1.led=t.led/\(t.put (jq t.mask h M)).1.plain=t.plain /\
   (t.put (jq t.mask h M)).1.fill=es.size+1/\(t.put (jq t.mask h M)).1.place.size=es.size+1/\∀pl,(es.size+1)*5<t.mask*3->TOk { (t.put (jq t.mask h M)).1 with plain:=pl} (insertAt es (t.put (jq t.mask h M)).2 (h,x)):=by
 rw[wjs ok.d];dsimp only;have hp:(insertAt es (below t.place (jq t.mask h M)) (h,x)).toList.Perm ((h,x)::es.toList):=by
  rw[jx1];exact kqj _ _ _
 have hpp:(insertAt t.place (below t.place (jq t.mask h M)) (jq t.mask h M)).toList.Perm (jq t.mask h M::t.place.toList):=by
  rw[jx1];exact kqj _ _ _
 have hsz:(insertAt es (below t.place (jq t.mask h M)) (h,x)).size=es.size+1:=by
  rw[<-X7,hp.length_eq,Xk,X7]
 have hpz:(insertAt t.place (below t.place (jq t.mask h M)) (jq t.mask h M)).size=es.size+1:=by
  rw[<-X7,hpp.length_eq,Xk,X7,ok.sz]
 refine⟨hp,rfl,rfl,rfl,?_,hpz,λpl hf=>⟨ok.m,ok.d,?_,wqe ok.pw hM,λj hj=>?_,?_,λz hz=>?_⟩⟩
 ·rw[ok.d];show _+0=_;rw[hpz]
 ·rw[hsz];exact hpz
 ·rcases aD (hpp.mem_iff.mp hj)with rfl|hj
  ·exact kxc _ _ _
  ·exact ok.le j hj
 ·rw[hsz];exact hf
 ·unfold Z at hz;rw[jx1,jx1]at hz;have hz:=(vws _ _ _ (by rw[X7,X7,ok.sz])).mem_iff.mp hz;rcases aD hz with rfl|hz
  ·exact⟨M,rfl,λm' ib=>hpp.mem_iff.mpr (lc9 _ (hb m' ib))⟩
  ·obtain⟨m,g1,g2⟩:=ok.good z hz;exact⟨m,g1,λm' ib=>hpp.mem_iff.mpr (lc9 _ (g2 m' ib))⟩
theorem grow{mask n}(hm:wY mask)(h1:n*5<mask*3)(h2:mask*3<=(n+1)*5)(hn:n+1<=70):wY (sizeAbove (grown (n+1)) - 1)/\(n+1)*5<(sizeAbove (grown (n+1)) - 1)*3/\sizeAbove (grown (n+1))<=128:=by
 rcases hm with rfl|rfl|rfl
 ·have:n=4:=⋯
  subst this;unfold wY;decide
 ·have:n=18:=⋯
  subst this;unfold wY;decide
 ·lia
theorem vjr{t es}(ok:TOk t es){h}{M i:Nat}{e}(hM:jq t.mask h M∉t.place.toList)(hi:es[i]?=some e)(he:e.1=h):∃m,m<M/\t.place[i]?=some (jq t.mask h m):=by
 have hip:i<t.place.size:=by rw[ok.sz];exact((Array.getElem?_eq_some_iff.mp hi).1)
 have hz:(t.place[i],e)∈Z t es:=by
  unfold Z;refine List.mem_iff_getElem?.mpr ⟨i,?_⟩;rw[List.getElem?_zip_eq_some];exact⟨by simp[hip],by simpa using hi⟩
 obtain⟨m,g1,g2⟩:=ok.good _ hz;rw[he]at g1 g2;refine⟨m,?_,by rw[Xg hip,g1]⟩;rcases Nat.lt_or_ge m M with c|c
 ·exact c
 ·rcases Nat.lt_or_ge M m with c2|c2
  ·exact absurd (g2 M c2) hM
  ·have:m=M:=⋯
   subst this;refine absurd ?_ hM;rw[g1];exact List.mem_iff_getElem.mpr ⟨i,by simpa using hip,by simp⟩
end Tb
namespace Tw
open PySem PyProof.Rows Tb Sw
section
variable {prog:Program}{w:World}{A:Around}{E:VP9}{s:Shared}{K:Type}[DecidableEq K]{knd:HeapKind prog w K}
structure KX (knd:HeapKind prog w K):Prop where
 keep:∀{h h':Heap} {k:K} {a:Addr},knd.is h k a->(∀b ob,h.get? b=some ob->ob.cls=.type "tuple"->h'.get? b=some ob)->knd.is h' k a
 cls:∀{A:Around} {E:VP9} {s:Shared} {k:K} {a:Addr} {Q:Bool->Shared->Prop},knd.is s.heap k a->Q false s->wpAny (model prog w) A (ofAClassStatement 8 (.ref a)) Q E s
theorem KX.keeps(X:KX knd){h h' k a d o}(hk:knd.is h k a)(ho:h.get? d=some o)(hc:o.cls=.type "set")(hs:Heap.SameBut d h h'):knd.is h' k a:=X.keep hk λb ob hb ht=>hs.extBut b ob (λz=>by
 rw[z,ho]at hb;cases hb;rw[hc]at ht;exact absurd ht ⋯) hb
abbrev ent(knd:HeapKind prog w K)(p:K×Addr):Int×Value:=(knd.hash p.1,.ref p.2)
structure OkT (knd:HeapKind prog w K)(h:Heap)(o:Obj)(es:Array (Int×Value))(ep:Nat)(t:SetTable)(ks:List (K×Addr)):Prop where
 ex:o.ExactSet
 d:o.data=.set es ep t
 el:es.toList=ks.map (ent knd)
 is:∀p∈ks,knd.is h p.1 p.2
 nd:(ks.map (·.1)).Nodup
 tb:TOk t es
 led:t.led=!tx w
theorem OkT.f{h o es ep t ks}(ok:OkT knd h o es ep t ks):t.fits es.size=true:=by
 unfold SetTable.fits SetTable.fill;rw[ok.tb.d,ok.tb.sz];have:=ok.tb.few;simp;lia
theorem OkT.sz{h o es ep t ks}(ok:OkT knd h o es ep t ks):es.size=ks.length:=by rw[<-X7,ok.el,X2]
theorem OkT.at{h o es ep t ks}(ok:OkT knd h o es ep t ks){i:Nat}{e}(hi:es[i]?=some e):∃p,ks[i]?=some p/\e=ent knd p:=by
 rw[<-Xr,ok.el,Xn]at hi;cases hk:ks[i]? with|none=>rw[hk]at hi;cases hi|some p=>rw[hk]at hi;exact⟨p,rfl,(oq9 hi).symm⟩
theorem vj9{t:SetTable}(hm:wY t.mask):t.gaveWay=false:=by
 unfold SetTable.gaveWay;rcases hm with e|e|e<;>rw[e]<;>rfl
theorem vv2(X:KX knd){b k}(hb:knd.is s.heap k b){Q}(h:Q false s):∀vs,(∀v∈vs,∃k' b',v=.ref b'/\knd.is s.heap k' b')->wpAny (model prog w) A (searchCouldBeSeen (.ref b) vs) Q E s:=by
 intro vs hv;refine X0 (Zg _ (λab r s'=>r.1=none/\s'=s/\∀v∈ab,∃k' b',v=.ref b'/\knd.is s.heap k' b') _ ?_ ?_ _ _ ⟨rfl,rfl,hv⟩)
 ·rintro v ab r s' ⟨hr,rfl,hv⟩;obtain⟨k',b',rfl,df⟩:=hv v X4;have ik:=λv hv'=>hv v (lc9 _ hv')
  dsimp only
  split
  ·exact X3 ⟨rfl,rfl,ik⟩
  ·exact X0 (knd.quiet hb (X0 (knd.quiet df (X0 (X.cls hb (X0 (X.cls df (X3 ⟨rfl,rfl,ik⟩))))))))
 ·rintro ⟨r1,r2⟩ s' ⟨hr,rfl,_⟩;subst hr;exact X3 h
end
theorem kzz{t}{es:Array (Int×Value)}(ok:TOk t es){g h M m}(hM:jq t.mask h M∉t.place.toList)(hb:∀m,m<M->jq t.mask h m∈t.place.toList)(hl:M<10*SetTable.turns t.mask){p}{r}
  (tw:t.probe g h p=r) (hp:p=pr t.mask h m) (hm:m<=M):
   (r=some (.empty (jq t.mask h M) none)/\∀m' i,m<=m'->m'<M->t.place[i]?=some (jq t.mask h m')->g i≠h) \/
   ∃m' i,m<=m'/\m'<M/\t.place[i]?=some (jq t.mask h m')/\g i=h/\r=some (.candidate (jq t.mask h m') i (pr t.mask h (m'+1)))/\∀jg i',m<=jg->jg<m'->t.place[i']?=some (jq t.mask h jg)->g i'≠h:=by
 subst hp tw;exact qj0 ok hM hb _ m hm ⋯
theorem qki{t}{es:Array (Int×Value)}(ok:TOk t es){g h M m}(hM:jq t.mask h M∉t.place.toList)(hb:∀m,m<M->jq t.mask h m∈t.place.toList)(hl:M<10*SetTable.turns t.mask){p}
  (hp:p=pr t.mask h m) (hm:m<=M):∃met,t.probe g h p=some met:=by
 rcases kzz ok hM hb hl rfl hp hm with⟨e1,_⟩|⟨m',i,_,_,_,_,e1,_⟩
 ·exact⟨_,e1⟩
 ·exact⟨_,e1⟩
theorem kj5{t:SetTable}(hp:t.place.toList.Pairwise (· < ·)){i j x:Nat}(h1:t.place[i]?=some x)(h2:t.place[j]?=some x):i=j:=by
 refine(List.getElem?_inj (by simpa using ((Array.getElem?_eq_some_iff.mp h1).1)) (hp.imp λh=>Xj h)).mp ?_;rw[Xr,Xr,h1,h2]
theorem kv8{t:SetTable}(hp:t.place.toList.Pairwise (· < ·))(hd:t.dummies=#[]){i j}(h:t.place[i]?=some j):t.slot j=.live i:=by
 rcases qqt hp hd j with⟨i',e1,e2⟩|⟨_,e2⟩
 ·rw[e1,kj5 hp e2 h]
 ·exact absurd (Xs (Xr▸h)) e2
theorem kzp{t:SetTable}:t.sameMemory t.moves t.mask=some true:=by
 unfold SetTable.sameMemory;rw[X6 (by simp)]
section
variable {prog:Program}{w:World}{A:Around}{E:VP9}{s:Shared}{K:Type}[DecidableEq K]{knd:HeapKind prog w K}
theorem kx3 (X:KX knd) (hr:knd.room A) {a b k o es ep t ks} (ho:s.heap.get? a=some o) (ok:OkT knd s.heap o es ep t ks) (hb:knd.is s.heap k b)
  {M} (hM:jq t.mask (knd.hash k) M∉t.place.toList) (hbf:∀m,m<M->jq t.mask (knd.hash k) m∈t.place.toList) (hl:M<10*SetTable.turns t.mask) {Q}
  (lb:k∈ks.map (·.1)->Q (.there none) s) (jd:k∉ks.map (·.1)->Q (.free (jq t.mask (knd.hash k) M) false) s):
  ∀ fuel m (ip),m<=M->M - m<fuel->ip.getD (t.probeStart (knd.hash k))=pr t.mask (knd.hash k) m ->
   (∀ (i:Nat) p,ks[i]?=some p->p.1=k->∃m',m<=m'/\m'<M/\t.place[i]?=some (jq t.mask (knd.hash k) m')) ->
   wpAny (model prog w) A (setSearchFrom a (.ref b) (knd.hash k) true fuel ip) Q E s:=by
 intro fuel
 induction fuel with
 | zero=>intro m ip h1 h2;lia
 | succ fuel ih=>
  intro m ip h1 h2 bw mh;unfold setSearchFrom;refine X0 (Yg ho ok.d ok.f ?_);dsimp only;rw [vj9 ok.tb.m];simp only[Bool.false_eq_true,if_false]
  split
  ·rename_i met tw;have hg:∀(i:Nat) (e:Int×Value),es[i]?=some e->(es[i]?.map (·.1)).getD 0=e.1:=λi e he=>by rw[he];rfl
   rcases kzz ok.tb hM hbf hl tw bw h1 with⟨e1,e2⟩|⟨m',i,q1,q2,q3,q4,q5,q6⟩
   ·cases oq9 e1;dsimp only;refine X3 (jd λhk=>?_);obtain⟨p,hp,rfl⟩:=aE hk;obtain⟨i,hi⟩:=List.mem_iff_getElem?.mp hp;obtain⟨m',a1,a2,a3⟩:=mh i p hi rfl;refine e2 m' i a1 a2 a3 ?_;have mt:es[i]?=some (ent knd p):=by rw[<-Xr,ok.el,Xn,hi];rfl
    exact hg i _ mt
   ·cases oq9 q5;dsimp only;have pq:i<es.size:=by rw[<-ok.tb.sz];exact(Array.getElem?_eq_some_iff.mp q3).1
    obtain⟨p,hp,he⟩:=ok.at (Xg pq);have hpk:=ok.is p (Xs hp)
    split
    ·refine X0 (vv2 X hb ?_ _ λv hv=>?_)
     ·rw [Xa ⋯];rw [Xg pq,he];dsimp only;refine X0 (Y4 (knd.eqBool hr hpk hb ?_));refine X0 (Yg ho ok.d ok.f ?_);dsimp only
      by_cases hk:p.1=k
      ·rw[Xf hk,X6 (show(true&&true)=true from rfl)];exact X3 (lb (List.mem_map.mpr ⟨p,Xs hp,hk⟩))
      ·rw[Xh hk,Xa ⋯,kzp];dsimp only;rw[X6 rfl,kv8 ok.tb.pw ok.tb.d q3];dsimp only;rw[Xg pq,he];dsimp only;refine X0 (wpAny_isSame_ref_self ?_);rw[X6 rfl];refine X0 (X3 ?_);dsimp only;rw[Xa ⋯];refine ih (m'+1) _ ⋯ ⋯ rfl λi2 p2 im kg=>?_
       obtain⟨m2,a1,a2,a3⟩:=mh i2 p2 im kg;refine⟨m2,?_,a2,a3⟩;rcases Nat.lt_or_ge m2 (m'+1)with c|c
       ·exfalso
        by_cases c2:m2=m'
        ·subst c2;have:=kj5 ok.tb.pw a3 q3;subst this;rw[hp]at im;cases oq9 im;exact hk kg
        ·refine q6 m2 i2 a1 ⋯ a3 ?_;have mt:es[i2]?=some (ent knd p2):=by rw[<-Xr,ok.el,Xn,im];rfl
         have this:_=knd.hash p2.1:=hg i2 _ mt;rw[kg]at this;exact this
       ·exact c
     ·obtain⟨e,he',rfl⟩:=aE hv;have he':e∈es.toList:=(Array.mem_toList_iff.mpr (Array.mem_filter.mp (Array.mem_toList_iff.mp he')).1);rw[ok.el]at he';obtain⟨p',hp',rfl⟩:=aE he';exact⟨p'.1,p'.2,rfl,ok.is p' hp'⟩
    ·rw [Xg pq,he];dsimp only;refine X0 (Y4 (knd.eqBool hr hpk hb ?_));refine X0 (Yg ho ok.d ok.f ?_);dsimp only
     by_cases hk:p.1=k
     ·rw[Xf hk,X6 (show(true&&true)=true from rfl)];exact X3 (lb (List.mem_map.mpr ⟨p,Xs hp,hk⟩))
     ·rw[Xh hk,Xa ⋯,kzp];dsimp only;rw[X6 rfl,kv8 ok.tb.pw ok.tb.d q3];dsimp only;rw[Xg pq,he];dsimp only;refine X0 (wpAny_isSame_ref_self ?_);rw[X6 rfl];refine X0 (X3 ?_);dsimp only;rw[Xa ⋯];refine ih (m'+1) _ ⋯ ⋯ rfl λi2 p2 im kg=>?_
      obtain⟨m2,a1,a2,a3⟩:=mh i2 p2 im kg;refine⟨m2,?_,a2,a3⟩;rcases Nat.lt_or_ge m2 (m'+1)with c|c
      ·exfalso
       by_cases c2:m2=m'
       ·subst c2;have:=kj5 ok.tb.pw a3 q3;subst this;rw[hp]at im;cases oq9 im;exact hk kg
       ·refine q6 m2 i2 a1 ⋯ a3 ?_;have mt:es[i2]?=some (ent knd p2):=by rw[<-Xr,ok.el,Xn,im];rfl
        have this:_=knd.hash p2.1:=hg i2 _ mt;rw[kg]at this;exact this
      ·exact c
  ·rename_i tw;exact(Exists.elim (qki ok.tb hM hbf hl bw h1) λmet hm=>tw met hm).elim
end
section
variable {prog:Program}{w:World}{A:Around}{E:VP9}{s:Shared}{K:Type}[DecidableEq K]{knd:HeapKind prog w K}
def HasT(knd:HeapKind prog w K)(h:Heap)(a:Addr)(ls:List K):Prop:=∃o es ep t ks,h.get? a=some o/\OkT knd h o es ep t ks/\(ks.map (·.1)).Perm ls
def ByV(knd:HeapKind prog w K):Prop:=∀{A:Around} {E:VP9} {s:Shared} {k:K} {a:Addr} {Q:Bool->Shared->Prop},knd.is s.heap k a->(∀b,Q b s)->wpAny (model prog w) A (hashByValue 8 (.ref a)) Q E s
theorem qwq{es ks}(h:es.Perm (ks.map (ent knd))):∃dg:List _,dg.Perm ks/\es=dg.map (ent knd):=by
 have:∀{es' es},es.Perm es'->∀ks,es'=ks.map (ent knd)->∃dg:List _,dg.Perm ks/\es=dg.map (ent knd):=by
  intro es' es h
  induction h with
  | nil=>intro ks e;exact⟨ks,.refl _,e⟩
  | cons x _ ih=>
   intro ks e;cases ks with
   | nil=>cases e
   | cons k ks=>
    injection e with e1 e2;obtain⟨dg,p1,p2⟩:=ih ks e2;exact⟨k::dg,p1.cons k,by rw[List.map_cons,p2,e1]⟩
  | swap x y l=>
   intro ks e;cases ks with
   | nil=>cases e
   | cons k ks=>
    cases ks with
    |nil=>cases e
    |cons k2 ks=>
     injection e with e1 e2;injection e2 with e2 e3;exact⟨k2::k::ks,.swap _ _ _,by rw[List.map_cons,List.map_cons,e1,e2,e3]⟩
  |trans _ _ ih1 ih2=>
   intro ks e;obtain⟨k1,p1,e1⟩:=ih2 ks e;obtain⟨k2,p2,e2⟩:=ih1 k1 e1;exact⟨k2,p2.trans p1,e2⟩
 exact this h ks rfl
theorem add(X:KX knd)(V:ByV knd)(hr:knd.room A){a b k ls Q}(hS:HasT knd s.heap a ls)(hb:knd.is s.heap k b)(hl:ls.length+1<=60)
  (h:∀bb h',Heap.SameBut a s.heap h'->HasT knd h' a (if k∈ls then ls else ls++[k])->Q bb {s with heap:=h' }):wpAny (model prog w) A (setAddHashed a (.ref b) (knd.hash k)) Q E s:=by
 obtain⟨o,es,ep,t,ks,ho,ok,hp⟩:=hS;have hsz:es.size=ls.length:=by rw[ok.sz,<-hp.length_eq,X2]
 obtain⟨M,m1,m2,m3⟩:=qku (oc:=λj=>j∈t.place.toList) ok.tb.m (knd.hash k) ok.tb.empty;have hmem:k∈ks.map (·.1)↔k∈ls:=hp.mem_iff;have hturn:10*SetTable.turns t.mask<=1420:=by
  unfold SetTable.turns;rcases ok.tb.m with e|e|e<;>rw[e]<;>decide
 unfold setAddHashed setAddHashedIn;refine Y4 (X0 (Yg ho ok.d ok.f ?_));dsimp only;rw [show byScan (.ref b) es=false from rfl];simp only[Bool.false_eq_true,if_false];unfold setSearch;refine X0 (kx3 X hr ho ok hb m2 m3 m1 (λhk=>?_) (λhk=>?_) 100000 0 none (Y8 _) ⋯ rfl λi p hi hpk=>?_)
 ·dsimp only;have iz:=hmem.mp hk;have:=h false s.heap (Heap.SameBut.refl a s.heap);rw [X6 iz]at this;exact X3 (this ⟨o,es,ep,t,ks,ho,ok,hp⟩)
 ·dsimp only;have iz:k∉ls:=λz=>hk (hmem.mpr z)
  rw [Xa iz]at h;refine X0 (Yg ho ok.d ok.f ?_);dsimp only;obtain⟨p1,p2,p3,p4,p5,p6,p7⟩:=wjr (x:=.ref b) ok.tb m2 m3;generalize t.put (jq t.mask (knd.hash k) M)=tp at p1 p2 p3 p4 p5 p6 p7 ⊢;obtain⟨t1,pl⟩:=tp;dsimp only at p1 p2 p3 p4 p5 p6 p7 ⊢;generalize hes1:SetTable.insertAt es pl (knd.hash k,Value.ref b)=cf at p1 p7 ⊢;have iw:cf.size=es.size+1:=by rw[<-X7,p1.length_eq,Xk,X7]
  have km:cf.size<=sizeLine:=by rw[Yp];lia
  obtain⟨oj,q1,q2⟩:=qwq (knd:=knd) (ks:=(k,b)::ks) (es:=cf.toList) (by rw[List.map_cons,<-ok.el];exact p1);have lx:(oj.map (·.1)).Perm (ls++[k]):=(q1.map (·.1)).trans (by
   rw [List.map_cons];exact(hp.cons k).trans (List.perm_append_singleton k ls).symm)
  have fk:(oj.map (·.1)).Nodup:=((q1.map (·.1)).nodup_iff).mpr (by
   rw [List.map_cons];exact List.nodup_cons.mpr ⟨hk,ok.nd⟩)
  have his:∀p∈oj,knd.is s.heap p.1 p.2:=λp hpp=>by
   rcases aD (q1.mem_iff.mp hpp)with rfl|hpp
   ·exact hb
   ·exact ok.is p hpp
  have fin:∀mo,wpAny (model prog w) A (do
    storeSet a cf (if mo=true then t1 else {t1 with plain:=false})
    if(!false&&(if mo=true then t1 else {t1 with plain:=false}).tooFull)=true then do
      setRelay a (SetTable.grown (es.size+1))
      pure true
     else pure true) Q E s:=λmo=>by
   obtain⟨pp,ht2⟩:∃pp,(if mo=true then t1 else {t1 with plain:=false})={t1 with plain:=pp}:=by
    cases mo
    ·exact⟨false,rfl⟩
    ·exact⟨t1.plain,rfl⟩
   rw[ht2];have f8:=vzp (es':=cf) (t':={t1 with plain:=pp}) ho ok.d;have fc:=Yt s.heap a (Obj.putSet cf {t1 with plain:=pp});refine X0 (wpAny_storeSet_of ho ok.d ?_ km);have qu:∀p∈oj,knd.is (s.heap.update a (Obj.putSet cf {t1 with plain:=pp})) p.1 p.2:=λp hpp=>X.keeps (his p hpp) ho ok.ex.1 fc
   by_cases hfull:({t1 with plain:=pp}:SetTable).tooFull=true
   ·rw[hfull,X6 (by rfl)];have e5:({t1 with plain:=pp}:SetTable).fill=es.size+1:=p5;have e6:({t1 with plain:=pp}:SetTable).mask=t.mask:=p2;have t7:t.mask*3<=(es.size+1)*5:=by
     unfold SetTable.tooFull at hfull;rw[e5,e6]at hfull
     simpa using hfull
    obtain⟨g1,g2,g3⟩:=grow ok.tb.m ok.tb.few t7 ⋯;obtain⟨t3,d8,r1,r2,r3,r4,r5⟩:=vwl (es:=cf) g1 (iw▸g2) ({t1 with plain:=pp}:SetTable).finger (({t1 with plain:=pp}:SetTable).movedTo (SetTable.sizeAbove (SetTable.grown (es.size+1)) - 1)) ({t1 with plain:=pp}:SetTable).led pp;have ir:({t1 with plain:=pp}:SetTable).fits cf.size=true:=by
     have e7:({t1 with plain:=pp}:SetTable).place.size=es.size+1:=p6;unfold SetTable.fits;rw[e5,e6,e7,iw];have:=ok.tb.few
     grind
    unfold setRelay;refine X0 (X0 (Yg (s:={s with heap:=s.heap.update a (Obj.putSet cf {t1 with plain:=pp})}) f8 rfl ir ?_));dsimp only;rw[Xa (by rw[Yp];lia)];have er:({t1 with plain:=pp}:SetTable).relaid (cf.map (·.1)) (SetTable.grown (es.size+1))=some (t3,d8):=r1;rw[er];refine X0 ?_;have rq:(d8.filterMap (cf[·]?)).size=cf.size:=by rw[<-X7,r4.length_eq,X7]
    show wpAny _ _ (ite (((d8.filterMap (cf[·]?)).size != cf.size)=true) _ _) _ _ _;rw[rq,Xa (by simp)];refine X3 ?_;dsimp only;have mi:=Yt (s.heap.update a (Obj.putSet cf {t1 with plain:=pp})) a (Obj.putSet (d8.filterMap (cf[·]?)) t3);refine wpAny_storeSet_of (s:={s with heap:=s.heap.update a (Obj.putSet cf {t1 with plain:=pp})}) f8 rfl ?_ (rq▸km);obtain⟨ks3,c1,c2⟩:=qwq (knd:=knd) (ks:=oj) (es:=(d8.filterMap (cf[·]?)).toList) (q2▸r4);refine X3 (h true _ (fc.trans mi) ⟨_,_,_,t3,ks3,vzp f8 rfl,⟨ok.ex,rfl,c2,λp hpp=>X.keeps (qu p (c1.mem_iff.mp hpp)) f8 ok.ex.1 mi,((c1.map (·.1)).nodup_iff).mpr fk,r5,r2.trans (p3.trans ok.led)⟩,(c1.map (·.1)).trans lx⟩)
   ·rw[Bool.eq_false_iff.mpr hfull,Xa ⋯];have c8:(es.size+1)*5<t.mask*3:=by
     have e5:({t1 with plain:=pp}:SetTable).fill=es.size+1:=p5;unfold SetTable.tooFull at hfull;rw[e5]at hfull;have e6:({t1 with plain:=pp}:SetTable).mask=t.mask:=p2;rw[e6]at hfull
     simpa using hfull
    exact X3 (h true _ fc ⟨_,cf,_,_,oj,f8,⟨ok.ex,rfl,q2,qu,fk,p7 pp c8,p3.trans ok.led⟩,lx⟩)
  split
  ·exact X0 (V hb λmo=>(fin mo))
  ·exact X0 (X3 (fin true))
 ·have mt:es[i]?=some (ent knd p):=by rw[<-Xr,ok.el,Xn,hi];rfl
  obtain⟨m',a1,a2⟩:=vjr ok.tb m2 mt (show knd.hash p.1=knd.hash k by rw[hpk]);exact⟨m',Y8 _,a1,a2⟩
end
section
variable {prog:Program}{w:World}{A:Around}{E:VP9}{s:Shared}{K:Type}[DecidableEq K]{knd:HeapKind prog w K}
def stepK(ls:List K)(k:K):List K:=if k∈ls then ls else ls++[k]
def ddK(ss:List K):List K:=ss.foldl stepK []
theorem vk0{ss:List K}{i x}(h:ss[i]?=some x):ddK (ss.take (i+1))=stepK (ddK (ss.take i)) x:=by
 unfold ddK;rw[List.take_succ,h,List.foldl_append];rfl
theorem vqc:∀(ss ls:List K),ls.length<=(ss.foldl stepK ls).length
 |[],ls=>X8 _
 |k::ss,ls=>by
  refine Yl ?_ (vqc ss _);unfold stepK
  split
  ·exact X8 _
  ·simp
theorem vx9(ss:List K) i:(ddK (ss.take i)).length<=(ddK ss).length:=by
 have:ddK ss=(ss.drop i).foldl stepK (ddK (ss.take i)):=by
  unfold ddK;rw[<-List.foldl_append,List.take_append_drop]
 rw[this];exact vqc _ _
theorem HasT.same(X:KX knd){h h' a ls}(x:HasT knd h a ls)(e:∀o,h.get? a=some o->h'.get? a=some o)(et:∀b ob,h.get? b=some ob->ob.cls=.type "tuple"->h'.get? b=some ob):HasT knd h' a ls:=by
 obtain⟨o,es,ep,t,ks,ho,r,hp⟩:=x;exact⟨o,es,ep,t,ks,e _ ho,⟨r.ex,r.d,r.el,λp hpp=>X.keep (r.is p hpp) et,r.nd,r.tb,r.led⟩,hp⟩
theorem loop(X:KX knd)(V:ByV knd)(hr:knd.room A.in1){R I fp wr G n P St}(W:WalksS prog w A.in1 I fp wr G n P St)(S)(mj:S∉fp)
  (rg:∀i s,St i s->∀b∈wr,∀ob,s.heap.get? b=some ob->ob.cls≠.type "tuple")
  {ss} (hn:ss.length=n) (hb:(ddK ss).length<=59):∀k i (s),n - i=k->i<=n->St i s->HasT knd s.heap S (ddK (ss.take i))->(∀i v,P i v->∃b x,v=.ref b/\ss[i]?=some x/\knd.is s.heap x b) ->
   (∀s',Moved (S::wr) G s s'->HasT knd s'.heap S (ddK ss)->R (.ok (.ret .none)) s')->codeAny (model prog w) A (.builtin "set.update.loop" ⟨[.ref S,.ref I],[]⟩) R s:=by
 have sy:=λh=>mj (W.sub _ h)
 have gq:∀b∈wr,b∈S::wr:=λb hb=>lc9 _ hb
 intro k
 induction k with
 | zero=>
  intro i s hk hi bw hS fv hR;cases(show i=n by lia);refine Yi F.entry_set_update_loop (X0 (W.done s _ _ bw λs' hm=>(X3 (hR s' (hm.mono gq) ?_))));rw[<-hn,List.take_length]at hS;exact hS.same X (λo e=>hm.heap S _ sy e) λb ob hb ht=>hm.heap b ob (λz=>rg _ _ bw b z ob hb ht) hb
 | succ k ih=>
  intro i s hk hi bw hS fv hR;refine Yi F.entry_set_update_loop ?_;show wpAny _ A.in1 (pyNext (.ref I) >>= _) _ _ s;refine X0 (W.item i s _ _ ⋯ bw λv s' hP o6 hm=>?_);have tm:=λb ob hb ht=>hm.heap b ob (λz=>rg _ _ bw b z ob hb ht) hb
  obtain⟨b,x,rfl,hx,dq⟩:=fv i v hP;have sv:=X.keep dq tm;have gf:=hS.same X (λo e=>hm.heap S _ sy e) tm;show wpAny _ A.in1 (holding [Value.ref b] (setAdd S (.ref b)) >>= _) _ _ s';refine X0 (Y4 ?_);unfold setAdd;refine Y4 (X0 (knd.pyHash hr sv ?_));have dm:(ddK (ss.take i)).length+1<=60:=by
   have:=vx9 ss i;lia
  have hset:∃o,s'.heap.get? S=some o/\o.cls=.type "set":=by
   obtain⟨o,es,ep,t,ks,ho,r,_⟩:=gf;exact⟨o,ho,r.ex.1⟩
  obtain⟨oS,hoS,hcS⟩:=hset;refine add (s:={s' with toks:=s'.toks+knd.draws x}) X V hr gf sv dm λbb h' a1 a2=>?_
  have a1:Heap.SameBut S s'.heap h':=a1;have a2:HasT knd h' S (stepK (ddK (ss.take i)) x):=a2;rw[<-vk0 hx]at a2;refine X3 ⟨Z7 F.plain_set_update_loop _,ih (i+1) _ ⋯ ⋯ (W.frame _ s' _ _ o6 (Nat.le_add_right _ _) λb hb o e=>?_) a2 (λi v hP=>?_) λjm mw n6=>?_⟩
  ·rw[a1.2 b (λh:b=S=>mj (h▸hb))];exact e
  ·obtain⟨b,x,rfl,hx,dq⟩:=fv i v hP;exact⟨b,x,rfl,hx,X.keeps (X.keep dq tm) hoS hcS a1⟩
  ·refine hR jm (Moved.trans W.gtrans ((hm.mono gq).then_heap (Nat.le_add_right _ _) λb o hb e=>?_) mw) n6;rw[a1.2 b (λh:b=S=>hb (h▸X4))];exact e
theorem qkt{h a}(e:h.get? a=some (fresh w)):HasT knd h a []:=
 ⟨_,#[],0,.fresh 0 0 _,[],e,⟨⟨rfl,rfl,rfl⟩,rfl,rfl,(λp hp=>nomatch hp),Y7,⟨.inl rfl,rfl,rfl,.nil,(λj hj=>(nomatch hj)),by show 0*5<7*3;decide,(λz hz=>(nomatch hz))⟩,rfl⟩,.refl _⟩
set_option maxHeartbeats 8000000 in
theorem qxp(X:KX knd)(V:ByV knd)(hr:knd.room A.in1.in1.in1){l:Addr}{items:Array Value}{ss:List K}{Q:VP9}(hh:A.handled=none)(hl:s.heap.IsList l items)(hn:ss.length=items.size)(hi:∀(i:Nat) v,items[i]?=some v->∃b x,v=.ref b/\ss[i]?=some x/\knd.is s.heap x b)(hb:(ddK ss).length<=59)
  (h:∀(h':Heap) (tk:Nat),HasT knd h' s.heap.objs.size (ddK ss)->(∀b o,b<s.heap.objs.size->s.heap.get? b=some o->h'.get? b=some o)->Q (.ref s.heap.objs.size) {s with heap:=h',toks:=tk}):
  wpAny (model prog w) A (call (.type "set") [.ref l]) Q E s:=by
 obtain⟨c,tl,hmro⟩:=F.called_set.mro;have hmade:=F.called_set.made;have gq:=F.called_set.sub;refine wpAny_call (codeAny_of_tree ?_);show wpAny _ _ (callAny (.type "set") _) _ _ _;refine X3 ⟨Code.quiet_builtin _ (by decide +kernel),Yi F.entry_type_call ?_⟩;rw [Around.under_plain (weight_type_call_type "set" [.ref l] []) rfl];have h1:=F.called_set.notType;have h2:=F.called_set.canCreate;have hct:=F.typeCall_set_1 (.ref l)
 repeat (any_goals (first|assumption|wp_step))
 refine codeAny_mono (made (.ref l) (E:=E) (Q₁:=λobj s₁=>obj=.ref s.heap.objs.size/\s₁={s with heap:=s.heap.push (fresh w)}) ⟨rfl,rfl⟩) λr s₁ hr=>?_
 cases r with
 | error e=>exact hr
 | ok fl=>
 cases fl with
 | ret obj=>
  obtain⟨rfl,rfl⟩:=hr;have hS:(s.heap.push (fresh w)).get? s.heap.objs.size=some (fresh w):=Xe _ rfl;have hT:Shared.TypeIs {s with heap:=s.heap.push (fresh w)} (.ref s.heap.objs.size) "set":=⟨_,hS,rfl⟩;have hli:=F.called_set.init.lookup;have hbi:=F.called_set.init.bind (.ref s.heap.objs.size)
  repeat (any_goals (first|assumption|wp_step))
  refine codeAny_mono (codeAny_call_builtin (R:=wants (λr s₂=>r=.none/\∃h' tk,s₂={s with heap:=h',toks:=tk}/\HasT knd h' s.heap.objs.size (ddK ss) /\
    (∀b o,b<s.heap.objs.size->s.heap.get? b=some o->h'.get? b=some o)) E) F.called_set.init.plain F.entry_set_init (check_set_init_1 hT ?_)) λr₂ s₂ hr₂=>?_
  ·obtain⟨ol,hol,cz,nl,hdl⟩:=hl;obtain⟨ocls,pj,odata,o7⟩:=ol;simp only at cz hdl;subst cz;subst hdl;have hol':(s.heap.push (fresh w)).get? l=some {cls:=.type "list",dict:=pj,data:=.seq items nl,slots:=o7}:=X1 _ hol;have hsls:=F.sub_list_set;have hslf:=F.sub_list_frozenset;have fb:(Value.type "list" == Value.type "dict")=false:=⋯
   have iq:(s.heap.push (fresh w)).IsList l items:=⟨_,hol',rfl,nl,rfl⟩;have rz:l<s.heap.objs.size:=Xd hol;have og:({cls:=.type "set",dict:=none,data:=.set #[] 0 (.fresh 0 0 (!tx w))}:Obj)=fresh w:=rfl;unfold Builtin.«set.__init__» noKeywords Builtin.Frozenset.updateFrom;generalize hPI:pyIter=PI
   wp_walk
   subst hPI;refine Zd iq ?_;refine X0 (wpAny_runValue ?_);have hh3:A.in1.in1.in1.handled=none:=by simp[hh]
   have hsz:(s.heap.push (fresh w)).objs.size=s.heap.objs.size+1:=Heap.size_push ..;refine loop X V hr ((Walks.list hh3 _ l (by rw[hsz];exact Xj (Ym rz)) items).toS) s.heap.objs.size (by rw[hsz];simp only[Yc,Ys,or_false,not_or];exact⟨Xj (Nat.lt_succ_self _),Nat.ne_of_gt rz⟩) (λi s bw b hbm ob dl=>?_) (ss:=ss) hn hb (items.size - 0) 0 _ ⋯ (Y8 _)
    ⟨⟨_,Xe _ rfl,rfl,rfl⟩,iq.push _⟩ ?_ (λi v hv=>?_) ?_
   ·rw[aC hbm]at dl;obtain⟨⟨o',ie,kl,_⟩,_⟩:=bw;rw[ie]at dl;cases dl;rw[kl];decide
   ·exact qkt (X1 _ hS)
   ·obtain⟨b,x,e1,e2,e3⟩:=hi i v hv;exact⟨b,x,e1,e2,X.keep e3 λb ob hb _=>X1 _ (X1 _ hb)⟩
   ·intro s' hm gf;obtain⟨h',g',d',p9,u4⟩:=s';have eg:g'=s.gens:=hm.gens;have ed:d'=s.drawn:=hm.drawn;have eo:u4=s.os:=hm.os;subst eg;subst ed;subst eo;show wpAny _ _ _ _ _ _;refine X3 ?_;show wpAny _ _ (ret Value.none) _ _ _;refine X3 ⟨rfl,h',p9,rfl,gf,λb o hb e=>?_⟩;exact hm.heap b o (by simp only[Yc,Ys,or_false,not_or];rw[hsz];exact⟨Xj hb,Xj (Ym hb)⟩) (X1 _ (X1 _ e))
  ·cases r₂ with
   | error e=>exact hr₂
   | ok fl₂=>
    cases fl₂ with
    |ret r=>
     obtain⟨rfl,h',tk,rfl,gf,iz⟩:=hr₂
     repeat (any_goals (first|assumption|wp_step))
     exact h _ _ gf iz
    |_=>exact hr₂.elim
 |_=>exact hr.elim
end
section
variable {prog:Program}{w:World}{A:Around}{E:VP9}{s:Shared}
structure IT (w:World)(o:Obj)(es:Array (Int×Value))(ep:Nat)(t:SetTable):Prop where
 c:o.cls=.type "set"
 d:o.data=.set es ep t
 f:t.fits es.size=true
 led:t.led=!tx w
 pw:t.place.toList.Pairwise (· < ·)
 z:es.size<=sizeLine
def slP(t:SetTable)(i:Nat):Nat:=if i=0 then 0 else t.place.getD (i - 1) 0+1
theorem vka{xs}(hp:xs.toList.Pairwise (· < ·)){i}(hi:i<=xs.size):SetTable.below xs (if i=0 then 0 else xs.getD (i - 1) 0+1)=i:=by
 obtain⟨b1,b2,b3⟩:=kqt (xs:=xs) (if i=0 then 0 else xs.getD (i - 1) 0+1) hp;generalize hb:SetTable.below xs (if i=0 then 0 else xs.getD (i - 1) 0+1)=b at b1 b2 b3
 by_cases h0:i=0
 ·subst h0;rcases Nat.eq_zero_or_pos b with c|c
  ·exact c
  ·have:=b2 0 ⋯ c;lia
 ·rw[Xa h0]at b2 b3;have hg:xs.getD (i - 1) 0=xs[i - 1]'⋯:=by simp[Array.getD,show i - 1<xs.size by lia]
  rw[hg]at b2 b3;rcases Nat.lt_trichotomy b i with c|c|c
  ·have:=b3 (i - 1) ⋯ ⋯;lia
  ·exact c
  ·have h1:=b2 i ⋯ c;have h2:=List.pairwise_iff_getElem.mp hp (i - 1) i (by simp;lia) (by simp;lia) ⋯;have h2:xs[i - 1]'⋯<xs[i]'⋯:=by simpa using h2
   lia
theorem qkp(m8:tx w=false){a o es ep t}(hk:IT w o es ep t)(bn:t.plain=false->¬1<es.size):
  ∀i s (A') (E') R,s.heap.get? a=some o->i<=es.size->R ((es.toList.map (·.2))[i]?.map λv=>(v,slP t (i+1))) s->wpAny (model prog w) A' (setNext a (slP t i) i ep) R E' s:=by
 intro i s A' E' R ho hi hR;have hsz:=qx5 hk.f;refine X0 (Yg ho hk.d hk.f ?_);show wpAny _ _ (if tx w=true then _ else _) _ _ _;rw[Xa ⋯];show wpAny _ _ (if(!t.plain&&decide (es.size>1))=true then _ else _) _ _ _;rw[Xa (by
  cases hp:t.plain with
  |true=>simp
  |false=>simpa using bn hp)]
 show wpAny _ _ ((if _=true then _ else pure ()) >>= _) _ _ _;rw[Xa (by rw[hk.led,m8];simp)];refine X3 ?_;have hbl:SetTable.below t.place (slP t i)=i:=vka hk.pw (hsz▸hi);rw[hbl]
 by_cases bh:i<es.size
 ·have rf:i<t.place.size:=by rw[hsz];exact bh
  rw[Xg bh,Xg rf];rw[Xn,Xr,Xg bh]at hR;have hs:slP t (i+1)=t.place[i]+1:=by unfold slP;simp[rf]
  rw[hs]at hR;exact hR
 ·rw[Array.getElem?_eq_none ⋯];rw[Yk (by rw[X2,X7];lia)]at hR;exact hR
theorem wqv{a o es ep t}(ho:s.heap.get? a=some o)(hk:IT w o es ep t){Q}(h:Q (!tx w&&(!t.plain&&decide (es.size>1))) s):wpAny (model prog w) A (setDrawn a) Q E s:=by
 exact X0 (Yg ho hk.d hk.f (X0 (X0 (wpAny_askSetting (X3 (X3 h))))))
theorem wxs{a o es ep t Q}(ho:s.heap.get? a=some o)(hk:IT w o es ep t)
  (h:∀h' (d) (I:Addr) (fp) (ci:List Value) (St),(∀b o,s.heap.get? b=some o->h'.get? b=some o)->s.heap.objs.size<=I->(∀b∈fp,b=a\/s.heap.objs.size<=b) ->
   (∀A',A'.handled=none->Walks prog w A' I fp [I] es.size (λi v=>ci[i]?=some v) St)->St 0 h'->ci.Perm (es.toList.map (·.2))->Q (.ref I) {s with heap:=h',drawn:=d}):wpAny (model prog w) A (pyIter (.ref a)) Q E s:=by
 have hT:s.TypeIs (.ref a) "set":=⟨o,ho,hk.c⟩;have lw:=Xd ho;refine wpAny_pyIter_slot hT F.slot_set_iter (Y1 F.slot_set_iter hT qky ?_ (qz4 _));unfold Builtin.«frozenset.__iter__» Builtin.Frozenset.slot0 slotArgs;simp only[List.isEmpty_nil,Bool.not_true,Bool.false_eq_true,↓reduceIte,bind_assoc,List.length_nil,bne_self_eq_false];refine X0 (X3 (X0 (X3 (X0 (X0 (wpAny_setEntries_of ho hk.d hk.f (X3 (X0 (wqv ho hk ?_)))))))))
 by_cases hdr:(!tx w&&(!t.plain&&decide (es.size>1)))=true
 ·rw [X6 hdr];refine X0 (drawn es.size _ s (by simp) λpl d hp=>(X0 (wpAny_newTuple (X0 (wpAny_setEpoch_of (X1 _ ho) hk.d hk.f ?_)) (hsz:=by rw[X2,hp.length_eq,Xv];exact hk.z))));refine X0 (Ya (X3 ⟨_,rfl,"set_iterator",_,⟨_,Xe _ rfl,rfl⟩,slot_next.lookup,?_⟩));have hsz:(s.heap.push (seqObj "tuple" (pl.map λ(i:Nat)=>rawInt i).toArray 0)).objs.size=s.heap.objs.size+1:=Heap.size_push ..;refine h _ d _ [_,a,s.heap.objs.size] (pl.map λj=>(es.getD j (0,.none)).2) _ (λb o e=>X1 _ (X1 _ e)) (hsz▸Nat.le_succ _) (λb hb=>?_)
   (λA' hh=>vqo hh _ a s.heap.objs.size (by rw[hsz];exact Xj (Ym lw)) (by rw[hsz];exact Xj (Nat.lt_succ_self _)) (o:=o) (oT:=seqObj "tuple" (pl.map λ(i:Nat)=>rawInt i).toArray 0) hk.d hk.f hp rfl)
   ⟨⟨_,Xe _ rfl,rfl,rfl⟩,X1 _ (X1 _ ho),X1 _ (Xe _ rfl)⟩ (qqj hp)
  rcases aD hb with rfl|hb
  ·exact .inr (hsz▸Nat.le_succ _)
  rcases aD hb with rfl|hb
  ·exact .inl rfl
  ·rw[aC hb];exact .inr (X8 _)
 ·rw [Xa hdr];refine X0 (X3 (X0 (wpAny_setEpoch_of ho hk.d hk.f (X0 (Ya (X3 ⟨_,rfl,"set_iterator",_,⟨_,Xe _ rfl,rfl⟩,slot_next.lookup,?_⟩))))));have hfp:∀b∈[s.heap.objs.size,a],b=a\/s.heap.objs.size<=b:=λb hb=>by
   rcases aD hb with rfl|hb
   ·exact .inr (X8 _)
   ·exact .inl (aC hb)
  cases m8:tx w with
  | true=>
   refine h _ s.drawn _ [_,a] ((pickOrder (w.params.setOrder a ep) es).toList.map (·.2)) _ (λb o e=>X1 _ e) (X8 _) hfp
    (λA' hh=>qqf hh _ a (Xj lw) (o:=o) hk.d hk.f (by rw[X2,(kvo _ es).length_eq,X7]) (λ_=>0) (qw2 m8 hk.d hk.f))
    ⟨⟨_,Xe _ rfl,rfl,rfl⟩,X1 _ ho⟩ ((kvo _ es).map _)
  | false=>
   refine h _ s.drawn _ [_,a] (es.toList.map (·.2)) _ (λb o e=>X1 _ e) (X8 _) hfp
    (λA' hh=>qqf hh _ a (Xj lw) (o:=o) hk.d hk.f (by simp) (slP t) (qkp m8 hk (by
     rw[m8]at hdr
     simpa using hdr)))
    ⟨⟨_,Xe _ rfl,rfl,rfl⟩,X1 _ ho⟩ (.refl _)
theorem vk3{a o es ep t Q}(hh:A.handled=none)(ho:s.heap.get? a=some o)(hk:IT w o es ep t)
  (h:∀h' (d) (tk) (vs),(∀b o,s.heap.get? b=some o->h'.get? b=some o)->s.heap.objs.size<h'.objs.size->vs.Perm (es.toList.map (·.2))->Q vs {s with heap:=h',drawn:=d,toks:=tk}):
  wpAny (model prog w) A (collect (.ref a)) Q E s:=by
 have lw:a<s.heap.objs.size:=Xd ho;unfold collect;refine X0 (wpAny_runValue (Yi F.entry_proto_collect ?_));rw[Yr F.plain_proto_collect _];show wpAny _ A.in1 (newList [] >>= λl=>again (.builtin "list.__iadd__" ⟨[l,.ref a],[]⟩)) _ _ s;refine X0 (Ya (X3 ⟨Z7 F.plain_list_iadd _,Yi F.entry_list_iadd ?_⟩));rw[Yr F.plain_list_iadd _];have f8:(s.heap.push {cls:=.type "list",data:=.seq ([]:List Value).toArray}).get? a=some o:=X1 _ ho;have hT1:Shared.TypeIs {s with heap:=s.heap.push {cls:=.type "list",data:=.seq ([]:List Value).toArray}} (.ref a) "set":=⟨o,f8,hk.c⟩;show wpAny _ A.in1 (Builtin.List.listExtendWith (.ref s.heap.objs.size) (.ref a) (.ref s.heap.objs.size)) _ _ _;unfold Builtin.List.listExtendWith;refine X0 (Ze hT1 ?_);have h1:Builtin.List.listSameRef (.ref s.heap.objs.size) (.ref a)=false:=by simp[Builtin.List.listSameRef];exact Nat.ne_of_gt lw
 have h2:(Value.type "set" == Value.type "list")=false:=⋯
 have h3:(Value.type "set" == Value.type "tuple")=false:=⋯
 simp only[h1,h2,h3,Bool.or_false,Bool.false_eq_true,if_false];refine X0 (wxs f8 hk λh' d I fp ci St cy hI hfp W st0 hv=>(X0 (Y4 (vwx ⟨o,cy _ _ f8,hk.c⟩ ?_))));show wpAny _ A.in1 (PySem.rule "list.extend.makes-room" >>= λ_=>Builtin.List.listTouch (.ref s.heap.objs.size) >>= λ_=>
  again (.builtin "list.extend.loop" ⟨[.ref s.heap.objs.size,.ref I,.ref s.heap.objs.size],[]⟩)) _ _ _
 refine X0 (wpAny_rule ?_);have hsz:(s.heap.push {cls:=.type "list",data:=.seq ([]:List Value).toArray}).objs.size=s.heap.objs.size+1:=Heap.size_push ..;have hI':s.heap.objs.size+1<=I:=by rw[<-hsz];exact hI
 have mj:s.heap.objs.size∉fp:=λhm=>by
  rcases hfp _ hm with e|e
  ·exact absurd e (Nat.ne_of_gt lw)
  ·grind
 have hS₁:h'.get? s.heap.objs.size=some {cls:=.type "list",data:=.seq ([]:List Value).toArray}:=cy _ _ (Xe _ rfl);refine X0 ?_;show wpAny _ A.in1 (updateSeq s.heap.objs.size (·.push .none) >>= λ_=>updateSeq s.heap.objs.size (·.pop)) _ _ _;refine X0 (wpAny_updateSeq hS₁ rfl ?_);have hS₂:=Yd (Obj.mapSeq (·.push Value.none)) hS₁ rfl;refine wpAny_updateSeq hS₂ rfl ?_;have pc:∀b o,b≠s.heap.objs.size->h'.get? b=some o->((h'.update s.heap.objs.size (Obj.mapSeq (·.push Value.none))).update s.heap.objs.size (Obj.mapSeq (·.pop))).get? b=some o:=
  λb o hb e=>(Z6 _ _ (Ne.symm hb)).trans ((Z6 _ _ (Ne.symm hb)).trans e)
 have WW:=W A.in1 hh;have ae:ci.length=es.size:=by rw[hv.length_eq,X2,X7]
 refine X3 ⟨Z7 F.plain_extend_loop _,codeAny_extend_loopS WW.toS hk.z _ mj _ es.size 0 _ _ _ rfl (Y8 _) (WW.frame 0 h' _ st0 λb hb o e=>pc b o (λe'=>mj (e'▸hb)) e) (Yd (Obj.mapSeq (·.pop)) hS₂ rfl) (ItemsOf.nil _) λs' bz c' hm gf dh=>?_⟩;show wpAny _ A (load s.heap.objs.size >>= _) _ _ s';refine X0 (wpAny_load gf ?_);have hac:bz.toList=ci:=by
  apply List.ext_getElem?;intro j
  by_cases hj:j<es.size
  ·have hj1:j<bz.size:=by rw[dh.1];exact hj
   rw[Xr,Xg hj1];exact(dh.2 j _ (Xg hj1)).symm
  ·rw[Yk (by rw[X7,dh.1];lia),Yk ⋯]
 refine X3 ?_;rw[hac,Moved.eq_with hm];refine h _ d _ ci (λb o e=>?_) (Xd gf) hv;have hb:b<s.heap.objs.size:=Xd e;have hbS:b≠s.heap.objs.size:=Xj hb;refine hm.heap b o (λhmem=>?_) (pc b o hbS (cy b o (X1 _ e)));rcases aD hmem with e'|hmem
 ·exact hbS e'
 ·rw[aC hmem]at hb;exact absurd hb (Nat.not_lt.mpr (Nat.le_of_succ_le hI'))
end
end Tw
namespace Tl
open Q
mutual
noncomputable def ltD:D->D->Option Bool
 |.int i,.int j=>some (decide (i<j))|.str x,.str y=>some (decide (x.cps.toList<y.cps.toList))|.tup xs,.tup ys=>ltDs xs ys|_,_=>none
noncomputable def ltDs:List D->List D->Option Bool
 |[],[]=>some false|[],_::_=>some true|_::_,[]=>some false|a::x,b::y=>if a=b then ltDs x y else ltD a b
end
def K9(a:D):List D->List D
 |[]=>[a]|b::r=>if ltD b a=some true then b::K9 a r else a::b::r
def z6:List D->List D
 |[]=>[]|a::r=>K9 a (z6 r)
def VY:D->Bool
 |.tup (.int _::_)=>true|_=>false
def okT(ds:List D):Bool:=ds.all (λd=>jK 6 d&&VY d)&&ds.all λa=>ds.all λb=>(ltD a b).isSome
def vw(l:List D)(d:D):List D:=if d∈l then l else l++[d]
def ddT(ds:List D):List D:=ds.foldl vw []
end Tl
namespace Q
open Tl
def W1:Sd->Option Sd:=λx=>match x.2 with
 |.lst ds=>if(ddT ds).length<=59/\okT ds=true then some (.rt,.lst (z6 (ddT ds)))else none|_=>none
end Q
namespace Tl
open PySem PyProof.Rows SeqAt
def V8(A:Around)(s:Shared)(y x:Value)(b:Bool):Prop:=
 ∀(prog:Program) (w:World) (E:VP9) (Q:VP9),Q (.bool b) s->wpAny (model prog w) A (richCompare .Lt y x) Q E s
inductive Lx (A:Around)(s:Shared):List Value->List Value->Bool->Prop
 |nn:Lx A s [] [] false
 |nc (y:Value) (ys:List Value):Lx A s [] (y::ys) true
 |cn (x:Value) (xs:List Value):Lx A s (x::xs) [] false
 |eq {x y:Value} {xs ys:List Value} {b:Bool}:EqAt A s x y true->Lx A s xs ys b->Lx A s (x::xs) (y::ys) b
 |lt {x y:Value} {xs ys:List Value} {b:Bool}:EqAt A s x y false->V8 A s x y b->Lx A s (x::xs) (y::ys) b
theorem vwe {prog:Program} {w:World} {A:Around} {s:Shared} {E:VP9} {xs ys:List Value} {k:Bool} (h:Lx A s xs ys k):∀{R:Option Fin×Unit->Shared->Prop},(R (some (.done (.ret (.bool k))),()) s)->(k=decide (xs.length<ys.length)->R (none,()) s) ->
  wpAny (model prog w) A (forIn (xs.zip ys) ((none,()):Option Fin×Unit) λx __s=>do
      let __do_lift <-eqBool x.fst x.snd
      if(!__do_lift)=true then do
        PySem.rule "tuple.compare.by-the-first-pair-that-differs"
        let __do_lift <-richCompare CmpOp.Lt x.fst x.snd
        let __do_lift <-ret __do_lift
        pure (ForInStep.done (some __do_lift,()))
       else pure (ForInStep.yield (none,()))) R E s:=by
 induction h with
 |nn=>intro R h1 h2;exact X3 (h2 rfl)|nc y ys=>intro R h1 h2;exact X3 (h2 (by simp))|cn x xs=>intro R h1 h2;exact X3 (h2 (by simp))
 |eq he _ ih=>
  intro R h1 h2;rw[List.zip_cons_cons,List.forIn_cons];refine X0 (X0 (he prog w _ _ ?_));refine X3 ?_;exact ih h1 λe=>h2 (by rw[e];simp)
 |lt he hl=>
  intro R h1 h2;rw[List.zip_cons_cons,List.forIn_cons];refine X0 (X0 (he prog w _ _ ?_));refine X0 (wpAny_rule (X0 (hl prog w _ _ ?_)));exact X0 (X3 (X3 (X3 h1)))
theorem qzj{prog:Program}{w:World}{A:Around}{s:Shared}{E:VP9}{l b:Addr}{items af:Array Value}{k:Bool}{Q:VP9}(hl:s.heap.IsTuple l items)(hb:s.heap.IsTuple b af)(h:Lx A s items.toList af.toList k)(hq:Q (.bool k) s):
  wpAny (model prog w) A (Builtin.«tuple.__lt__» ⟨[.ref l,.ref b],[]⟩) (λfin s'=>∃v,fin=.done (.ret v)/\Q v s') E s:=by
 have tyb:=hb.typeIs;obtain⟨ol,hol,cz,nl,hdl⟩:=hl;obtain⟨ob,dl,hcb,nb,fh⟩:=hb;show wpAny _ _ (isInstance _ _ >>= _) _ _ _;refine X0 (wpAny_isInstance tyb isSubtype_tuple_tuple ?_);refine X0 (wpAny_tupleItemsOf hol hdl (X0 (wpAny_tupleItemsOf dl fh ?_)));refine X0 (vwe h ?_ λe=>?_)
 ·exact X3 ⟨_,rfl,hq⟩
 ·refine X3 ⟨_,rfl,?_⟩;have:Builtin.Tuple.tupleCompareSizes CmpOp.Lt items.size af.size=.bool k:=by
   rw[e];rfl
  rw[this];exact hq
theorem qw9{A:Around}{s:Shared}{l b:Addr}{items af:Array Value}{k:Bool}(hl:s.heap.IsTuple l items)(hb:s.heap.IsTuple b af)(hu:A.units<cLine)(h:Lx A.in1 s items.toList af.toList k):V8 A s (.ref l) (.ref b) k:=λprog w E Q hq=>by
 have t1:=hl.typeIs;have t2:=hb.typeIs;exact richCompare_meets_room t1 t2 PySem.F.slot_tuple_lt PySem.F.entry_tuple_lt (PySem.F.args_tuple_lt_2 _ _)
  (Meets.of_wp (S:=λA R s=>s.heap.IsTuple l items/\s.heap.IsTuple b af/\Lx A.in1 s items.toList af.toList k/\R _ s) λprog w A R s hs=>qzj hs.1 hs.2.1 hs.2.2.1 hs.2.2.2) ⟨hl,hb,h,⟨(λx=>nomatch x),hq⟩⟩ hu
open Q
theorem vwf{A:Around}{s:Shared}(x y:Str)(t u:Tok):V8 A s (.str x t) (.str y u) (decide (x.cps.toList<y.cps.toList)):=λprog w E Q h=>PyProof.Rows.lt_str h
theorem lt_int{A:Around}{s:Shared}(i j:Int)(t u:Tok):V8 A s (.int i t) (.int j u) (decide (i<j)):=λprog w E Q h=>wpAny_lt_int h
theorem vwd{s:Shared}{A:Around}{n:Nat}(hu:A.units+2*n+1<cLine)(bh:∀(d d':D) (u w:Value) b,jK n d=true->jK n d'=true->jw s.heap d u->jw s.heap d' w->ltD d d'=some b->V8 A s u w b):∀(xs ys:List D) (us ku:List Value) b,keyDs n xs=true->keyDs n ys=true->CReps s.heap xs us->CReps s.heap ys ku->ltDs xs ys=some b->Lx A s us ku b:=by
 intro xs
 induction xs<;>intro ys us ku b kx ky q1 q2 h<;>cases ys<;>unfold CReps at q1 q2<;>unfold ltDs at h
 ·cases h;subst q1 q2;exact .nn
 ·obtain⟨u,r,rfl,_,_⟩:=q2;cases h;subst q1;exact .nc _ _
 ·obtain⟨u,r,rfl,_,_⟩:=q1;cases h;subst q2;exact .cn _ _
 ·rename_i x xs ihx y ys;obtain⟨u,r,rfl,g1,g2⟩:=q1;obtain⟨u',r',rfl,g3,g4⟩:=q2;unfold keyDs at kx ky;rw[Bool.and_eq_true]at kx ky;have he:=KK n (A:=A) (kqh kx.1) g1 g3 ⋯;rw[kqg kx.1 ky.1]at he
  by_cases e:x=y
  ·rw[X6 e]at h;rw[Xf e]at he;exact .eq he (ihx ys r r' b kx.2 ky.2 g2 g4 h)
  ·rw[Xa e]at h;rw[Xh e]at he;exact .lt he (bh _ _ _ _ _ kx.1 ky.1 g1 g3 h)
theorem xj4{s : Shared}: ∀n {d d' : D} {u w : Value} {A : Around} {b : Bool},jK n d = true -> jK n d' = true -> jw s.heap d u -> jw s.heap d' w -> A.units+2*n<cLine -> ltD d d' = some b -> V8 A s u w b:= by
  intro n
  induction n <;> intro d d' u w A b k1 k2 r1 r2 hu h <;> cases d <;> unfold jK at k1 <;> (try (cases k1; done)) <;> cases d' <;> unfold ltD at h <;> (try (cases h; done)) <;> unfold jw at r1 r2 <;> first
    |(obtain⟨t,rfl⟩:= r1; obtain⟨t',rfl⟩:= r2; cases h; first|exact lt_int _ _ _ _|exact vwf _ _ _ _)
    |skip
  rename_i n ih xs ys;obtain⟨a,us,rfl,h1,q1⟩:= r1;obtain⟨a',ku,rfl,h2,q2⟩:= r2;exact qw9 h1 h2 ⋯ (vwd ⋯ (λ_ _ _ _ _ a1 a2 a3 a4 a5=>ih a1 a2 a3 a4 ⋯ a5) xs ys us ku b k1 k2 q1 q2 h)
end Tl
namespace Tl
open Q
inductive Lv:D->D->Bool->Prop
 |int (i j:Int):Lv (.int i) (.int j) (decide (i<j))
 |str (x y:PySem.Str):Lv (.str x) (.str y) (decide (x.cps.toList<y.cps.toList))
 |tup {xs ys:List D} {k:Bool}:ltDs xs ys=some k->Lv (.tup xs) (.tup ys) k
theorem ltv{a b k}(h : ltD a b = some k): Lv a b k:= by
  cases a <;> (try (unfold ltD at h; cases h)) <;> cases b <;> unfold ltD at h <;> first
    |(cases h; done)
    |(cases h; constructor)
    |exact .tup h
structure Ord (n:Nat):Prop where
 a1:∀{a b:D},sizeOf a<n->ltD a b=some true->ltD b a=some false
 a2:∀{x y:List D},sizeOf x<n->ltDs x y=some true->ltDs y x=some false
 t1:∀{a b:D},sizeOf a<n->ltD a b=some false->a≠b->ltD b a=some true
 t2:∀{x y:List D},sizeOf x<n->ltDs x y=some false->x≠y->ltDs y x=some true
 r1:∀{a b c:D},sizeOf a<n->ltD a b=some true->ltD b c=some true->ltD a c=some true
 r2:∀{x y z:List D},sizeOf x<n->ltDs x y=some true->ltDs y z=some true->ltDs x z=some true
theorem ord (n): Ord n:= by
  induction n with
  | zero=>exact⟨nofun,nofun,nofun,nofun,nofun,nofun⟩
  | succ n ih=>
    refine⟨fun {a b} hs h=> ?_,fun {x y} hs h=> ?_,fun {a b} hs h ne=> ?_,fun {x y} hs h ne=> ?_,fun {a b c} hs h1 h2=> ?_,fun {x y z} hs h1 h2=> ?_⟩
    · generalize hk : true = k at h
      cases ltv h <;> unfold ltD
      · rw[Xh (by have:= Yx hk.symm; lia)]
      · rw[Xh (List.lt_asymm (Yx hk.symm))]
      · subst hk
        exact ih.a2 (by simp at hs; lia) ‹_›
    · cases x <;> cases y <;> unfold ltDs at h ⊢ <;> first
        | (cases h; done)
        | rfl
        | skip
      simp at hs
      split at h
      · rw[X6 (Eq.symm ‹_›)]
        exact ih.a2 ⋯ h
      · rw[Xa λz=> ‹¬_› z.symm]
        exact ih.a1 ⋯ h
    · generalize hk : false = k at h
      cases ltv h <;> unfold ltD
      · rename_i i j
        have : i≠j:= λz=>ne (by rw[z])
        rw[Xf ⋯]
      · rename_i x y
        have h1:= List.not_lt.mp (of_decide_eq_false hk.symm);rcases Decidable.em (y.cps.toList<x.cps.toList)with h2|h2
        · rw[Xf h2]
        · have:= List.le_antisymm (List.not_lt.mp h2) h1
          exact absurd (by cases x; cases y; cases Array.toList_inj.mp this; rfl) ne
      · subst hk
        exact ih.t2 (by simp at hs; lia) ‹_› λz=>ne (by rw[z])
    · cases x <;> cases y <;> unfold ltDs at h ⊢ <;> first
        | (cases h; done)
        | rfl
        | exact absurd rfl ne
        | skip
      simp at hs
      split at h
      · rename_i e
        rw[X6 e.symm];exact ih.t2 ⋯ h λz=>ne (by rw[e,z])
      · rename_i e
        rw[Xa λz=>e z.symm];exact ih.t1 ⋯ h e
    · generalize hk : true = k at h1
      cases ltv h1 <;> generalize hl : true = l at h2 <;> cases ltv h2 <;> unfold ltD
      · rw[Xf (by have:= Yx hk.symm; have:= Yx hl.symm; lia),<-hk]
      · rw[Xf (List.lt_trans (Yx hk.symm) (Yx hl.symm)),<-hk]
      · subst hk hl
        exact ih.r2 (by simp at hs; lia) ‹_› ‹_›
    · cases x <;> cases y <;> (try (unfold ltDs at h1; cases h1; done)) <;> cases z <;> unfold ltDs at h1 h2 ⊢ <;> first
        | (cases h2; done)
        | rfl
        | skip
      rename_i a x b y c z;simp at hs
      by_cases e1 : a = b
      · subst e1
        rw[X6 rfl]at h1
        split at h2
        · rw[X6 ‹_›]
          exact ih.r2 ⋯ h1 h2
        · rwa [Xa ‹_›]
      · rw[Xa e1]at h1
        by_cases e2 : b = c
        · rwa [<-e2,Xa e1]
        · rw[Xa e2]at h2
          rw[Xa λe=>by subst e; rw[ih.a1 ⋯ h1]at h2; cases h2];exact ih.r1 ⋯ h1 h2
theorem kqf{a b}(h:ltD a b=some true):ltD b a=some false:=(ord _).a1 (Nat.lt_succ_self _) h
theorem qje{a b}(h:ltD a b=some false)(ne:a≠b):ltD b a=some true:=(ord _).t1 (Nat.lt_succ_self _) h ne
theorem lt_trans{a b c}(h1:ltD a b=some true)(h2:ltD b c=some true):ltD a c=some true:=(ord _).r1 (Nat.lt_succ_self _) h1 h2
theorem wks a (h:ltD a a=some true):False:=by
 have:=kqf h
 grind
end Tl
namespace Tl
open PySem PySem.W PyProof.Rows Srt Q
abbrev Ls(a b:D):Prop:=ltD a b=some true
def Cmp(ds:List D):Prop:=∀a∈ds,∀b∈ds,∃k,ltD a b=some k
theorem kwl{ds}(h:Cmp ds){a b}(ha:a∈ds)(hb:b∈ds)(ne:a≠b):Ls a b\/Ls b a:=by
 obtain⟨k,hk⟩:=h a ha b hb;cases k with|true=>exact .inl hk|false=>exact .inr (qje hk ne)
theorem kwk{α:Type}{p q}:∀{l:List α},(∀a∈l,p a=true->q a=true)->(∃x∈l,q x=true/\p x=false)->l.countP p<l.countP q
 | [],_,h=>by grind
 | a::l,hi,h=>by
  have mono:=List.countP_mono_left λb hb hp=>hi b (lc9 _ hb) hp
  rw[List.countP_cons,List.countP_cons];obtain⟨x,hx,q1,q2⟩:=h;rcases aD hx with rfl|hx
  ·rw[X6 q1,Xa (by rw[q2];decide)];lia
  ·have:=kwk (λb hb hp=>hi b (lc9 _ hb) hp) ⟨x,hx,q1,q2⟩
   by_cases c:p a=true
   ·rw[X6 c,X6 ((hi a X4) c)];lia
   ·rw[Xa c]
    split<;>lia
def rk(ds:List D)(d:D):Int:=((ds.countP λe=>decide (Ls e d):Nat):Int)
theorem qzy{ds a b}(ha:a∈ds)(h:Ls a b):rk ds a<rk ds b:=by
 unfold rk;have:=kwk (q:=λe=>decide (Ls e b)) (λe _ he=>Xf (lt_trans (Yx he) h)) ⟨a,ha,Xf h,Xh (wks a)⟩;lia
theorem vv6{ds}(hc:Cmp ds){a b}(ha:a∈ds)(hb:b∈ds):ltD a b=some (decide (rk ds a<rk ds b)):=by
 obtain⟨k,hk⟩:=hc a ha b hb;rw[hk];cases k with
 | true=>rw[Xf (qzy ha hk)]
 | false=>
  rw[Xh]
  by_cases e:a=b
  ·grind
  ·have:=qzy hb (qje hk e);lia
theorem vzy{ds}(hc:Cmp ds){a b}(ha:a∈ds)(hb:b∈ds)(h:rk ds a=rk ds b):a=b:=by
 by_cases e:a=b
 ·exact e
 ·rcases kwl hc ha hb e with z|z
  ·have:=qzy ha z;lia
  ·have:=qzy hb z;lia
structure TT (h:Heap)(vs:List Value)(ds:List D):Prop where
 len:vs.length=ds.length
 at':∀(i:Nat) v d,vs[i]?=some v->ds[i]?=some d->∃b x r,v=.ref b/\d=.tup (.int x::r)/\jw h d v/\jK 6 d=true
theorem TT.tail{h v vs d ds}(t:TT h (v::vs) (d::ds)):TT h vs ds:=⟨by have:=t.len;simpa using this,λi v d e1 e2=>t.at' (i+1) v d (by simpa using e1) (by simpa using e2)⟩
theorem TT.kat{h}:∀{vs ds},TT h vs ds->∃fs,KatTups h vs fs/\fs.length=vs.length/\∀v∈fs,∃x t,v=Value.int x t
 |[],_,_=>⟨[],.nil,rfl,λv h=>nomatch h⟩
 |v::vs,d::ds,t=>by
  obtain⟨b,x,r,rfl,rfl,hr,hk⟩:=t.at' 0 v d rfl rfl;obtain⟨fs,g1,g2,g3⟩:=TT.kat t.tail;obtain⟨a,us,e,⟨ob,dl,hc,nn,gl⟩,hi⟩:=hr;cases e;obtain⟨u,rr,rfl,hu,_⟩:=hi;obtain⟨tk,rfl⟩:=hu;refine⟨.int x tk::fs,.cons dl hc gl rfl g1,by simp[g2],λv hv=>?_⟩;rcases aD hv with rfl|hv
  ·exact⟨_,_,rfl⟩
  ·exact g3 v hv
section
variable {prog:Program}{w:PySem.World}{A:Around}{E:VP9}{s:Shared}
theorem vkz{us ku b Q}(h:Lx A s us ku b)(hq:Q b s):∀{fin i},fin=decide (us.length<ku.length)->KatLex prog w A true fin Q (us.zip ku) (i+1) s:=by
 induction h<;>intro f i e
 ·rw[e];exact kat_nil hq
 ·rw[e];exact kat_nil (by simpa using hq)
 ·rw[e];exact kat_nil (by simpa using hq)
 ·rename_i he _ ih;exact kat_cons (he prog w _ _ (kat_yes (ih hq (by rw[e];simp))))
 ·rename_i he hl;exact kat_cons (he prog w _ _ (kat_no (kat_one _ _ (hl prog w _ _ hq))))
theorem wzf{vs ds i j C b}(hu:A.units+20<cLine)(t:TT s.heap vs ds) hi hj (hb:ltD (ds[i]'(by rw[<-t.len];exact hi)) (ds[j]'(by rw[<-t.len];exact hj))=some b)(h:C b s):kas_ask prog w A (tuples' true) vs i j C s:=by
 have li:i<ds.length:=by rw[<-t.len];exact hi
 have lj:j<ds.length:=by rw[<-t.len];exact hj
 unfold kas_ask;have ei:vs.getD i Value.none=vs[i]:=by simp[hi]
 have ej:vs.getD j Value.none=vs[j]:=by simp[hj]
 rw[ei,ej];obtain⟨b1,x1,r1,e1,f1,c1,k1⟩:=t.at' i _ _ (X5 hi) (X5 li);obtain⟨b2,x2,r2,e2,f2,c2,k2⟩:=t.at' j _ _ (X5 hj) (X5 lj);rw[f1,f2]at hb;rw[f1]at c1 k1;rw[f2]at c2 k2;rw[e1]at c1 ⊢;rw[e2]at c2 ⊢;obtain⟨a1,us1,q1,⟨o1,f8,hc1,n1,ig⟩,i1⟩:=c1;obtain⟨a2,us2,q2,⟨o2,ho2,lu,n2,dy⟩,i2⟩:=c2;cases q1;cases q2;unfold jK at k1 k2;obtain⟨u1,v1,rfl,p1,w1⟩:=i1;obtain⟨u2,v2,rfl,p2,w2⟩:=i2;have kd1:=k1;have kd2:=k2;unfold keyDs at kd1 kd2;rw[Bool.and_eq_true]at kd1 kd2;obtain⟨t1,rfl⟩:=p1;obtain⟨t2,rfl⟩:=p2;unfold ltD ltDs at hb;refine kat_lt f8 ig ho2 dy (kat_cons (wpAny_eqBool_int ?_))
 by_cases e:x1=x2
 ·subst e;rw[X6 rfl]at hb;rw[Z8];exact kat_yes (vkz (vwd (n:=5) ⋯ (λ_ _ _ _ _ a1 a2 a3 a4 a5=>xj4 5 a1 a2 a3 a4 ⋯ a5) r1 r2 v1 v2 b kd1.2 kd2.2 w1 w2 hb) h (by simp))
 ·rw[Xa (λz=>e (by injection z))]at hb;cases oq9 hb;rw[Zc e];exact kat_no (oneLt_int h)
end
theorem kji(a):∀r,(K9 a r).Perm (a::r)
 |[]=>.refl _
 |b::r=>by
  unfold K9
  split
  ·exact((kji a r).cons b).trans (.swap _ _ _)
  ·exact .refl _
theorem zZ:∀r,(z6 r).Perm r
 |[]=>.refl _|a::r=>(kji a _).trans ((zZ r).cons a)
theorem qwx{a}:∀{r},r.Pairwise Ls->a∉r->(∀b∈r,∃k,ltD b a=some k)->(K9 a r).Pairwise Ls
 | [],_,_,_=>List.pairwise_singleton _ _
 | b::r,hp,hn,hc=>by
  obtain⟨h1,h2⟩:=List.pairwise_cons.mp hp;unfold K9
  split
  ·rename_i hb;refine List.pairwise_cons.mpr ⟨λc hcm=>?_,qwx h2 (λz=>hn (lc9 _ z)) λc hcm=>hc c (lc9 _ hcm)⟩;rcases aD ((kji a r).mem_iff.mp hcm)with rfl|hcm
   ·exact hb
   ·exact h1 c hcm
  ·rename_i hb;have i5:Ls a b:=by
    obtain⟨k,hk⟩:=hc b X4;cases k with|true=>exact absurd hk hb|false=>exact qje hk λz=>hn (z▸X4)
   refine List.pairwise_cons.mpr ⟨λc hcm=>?_,hp⟩;rcases aD hcm with rfl|hcm
   ·exact i5
   ·exact lt_trans i5 (h1 c hcm)
theorem jzj:∀{ds},Cmp ds->ds.Nodup->(z6 ds).Pairwise Ls
 |[],_,_=>.nil
 |a::r,hc,hn=>by
  obtain⟨h1,h2⟩:=List.nodup_cons.mp hn;unfold z6;exact qwx (jzj (λx hx y hy=>hc x (lc9 _ hx) y (lc9 _ hy)) h2) (λz=>h1 ((zZ r).mem_iff.mp z)) λb hb=>hc b (lc9 _ ((zZ r).mem_iff.mp hb)) a X4
theorem kzl{ds p}(hc:Cmp ds)(hn:ds.Nodup)(hp:p.Perm ds)(h:p.Pairwise Ls):p=z6 ds:=
 List.Perm.eq_of_pairwise (λa b _ _ h1 h2=>by
  have h2:ltD b a=some true:=h2;rw[kqf h1]at h2;cases h2) h (jzj hc hn) (hp.trans (zZ ds).symm)
abbrev W0(s:Shared)(a:Addr)(vs:List Value):Shared:={s with heap:=((s.heap.update a (Obj.mapSeq λ_=>#[])).push (seqObj "tuple" vs.toArray 0)).push (seqObj "list" #[] 0)}
section
variable {prog:Program}{w:PySem.World}{A:Around}{E:VP9}{s:Shared}{vs:List Value}{ds:List D}{a:Addr}{n:Nat}{P:Fin->Shared->Prop}
theorem TT.keep{h h'}(t:TT h vs ds)(et:∀b ob,h.get? b=some ob->ob.cls=.type "tuple"->h'.get? b=some ob):TT h' vs ds:=⟨t.len,λi v d e1 e2=>by
 obtain⟨b,x,r,g1,g2,g3,g4⟩:=t.at' i v d e1 e2;exact⟨b,x,r,g1,g2,Zk (λb ob _ _ e c _=>et b ob e c) g4 g3,g4⟩⟩
theorem kjc{κ}{key:Nat->Int}{G:List Nat->Prop}(ho:s.heap.get? a=some (seqObj "list" vs.toArray n))(ql:vs.length<64)
  (hk:2<=vs.length->∀Q,Q κ (W0 s a vs)->wpAny (model prog w) A (keyKind' vs.toArray) Q E (W0 s a vs))
  (hask:∀i j (C),i<vs.length->j<vs.length->C (decide (key i<key j)) (W0 s a vs)->kas_ask prog w A κ vs i j C (W0 s a vs))
  (fin:∀p,p.Perm (List.range vs.length)->(p.map key).Pairwise (·<=·)->G p)
  (h:∀p,p.Perm (List.range vs.length)->G p->P (.done (.ret .none)) {s with heap:=sortedHeap s.heap a vs (p.map λi=>vs.getD i .none).toArray}):
  wpAny (model prog w) A (Builtin.«list.sort» ⟨[.ref a],[]⟩) P E s:=by
 rw[list_sort_plain];refine X0 (listItems_at ho rfl (X0 (listUpdate_at ho rfl ?_ (by rw[X9,Yp];lia) (Y8 _))));obtain⟨e1,f8⟩:∃e1,(s.heap.update a (Obj.mapSeq λ_=>#[])).get? a=some (seqObj "list" #[] e1):=⟨_,get?_update_seq ho (λ_=>#[])⟩;refine X0 (seqEpoch_at f8 rfl (X0 (wpAny_newTuple (X0 (wpAny_newList (Y4 ?_) (Y8 _))) (by show vs.length<=_;rw[Yp];lia))));have ho6:(((s.heap.update a (Obj.mapSeq λ_=>#[])).push (seqObj "tuple" vs.toArray 0)).push (seqObj "list" #[] 0)).get? a=some (seqObj "list" #[] e1):=X1 _ (X1 _ f8);dsimp only;have hsz:vs.toArray.size=vs.length:=by simp
 by_cases h2:vs.toArray.size<2
 ·rw[X6 h2,X6 h2];refine X0 (X3 (X0 (X3 ?_)));dsimp only;have es:(arrOf (SortSt.mk' general' (vs.toArray.zip vs.toArray) #[] 7 none)).map (·.2)=((List.range vs.length).map λi=>vs.getD i .none).toArray:=by
   apply Array.toList_inj.mp;refine List.ext_getElem? λi=>?_
   by_cases hi:i<vs.length
   ·simp[hi]
   ·simp[Nat.le_of_not_lt hi]
  rw[es];refine X0 (seqEpoch_at ho6 rfl (X0 (listUpdate_at ho6 rfl ?_ (Y8 _) (by rw[X9,X2,Xv,Yp];lia))));simp only[bne_self_eq_false,Bool.false_eq_true,if_false];refine X3 (h _ (.refl _) (fin _ (.refl _) ?_));rw[hsz]at h2;rcases(show vs.length=0\/vs.length=1 by lia)with e|e<;>rw[e]<;>simp[List.range_succ]
 ·rw[Xa h2,Xa h2];refine X0 (hk ⋯ _ ?_);obtain⟨p,q1,q2,q3⟩:=vzs (key:=key) (n:=vs.length) ⋯;refine X0 (wpAny_mono (kat_run (ks:=vs) (vs:=vs) (G:=λp' s'=>p'=p/\s'=(W0 s a vs))
   (Q:=λfq s'=>arrOf fq=p.map (kas_item (vs.toArray.zip vs.toArray))/\failedOf fq=none/\s'=(W0 s a vs))
   rfl ⋯ ql (λp' fq s' a1 a2 a3 a4=>⟨by rw[a2,a4.1],a3,a4.2⟩) (wqs (λi j C hi hj hC=>hask i j C hi hj hC) q1 ⟨rfl,rfl⟩)) ?_ λ_ _ e=>e)
  rintro ⟨⟨⟩,fq⟩ s' ⟨har,hf,rfl⟩;rw[kat_snds rfl har];refine X0 (seqEpoch_at ho6 rfl (X0 (listUpdate_at ho6 rfl ?_ (Y8 _) (by rw[X9,X2,X7,q2.sz,Yp];lia))));rw[hf];simp only[bne_self_eq_false,Bool.false_eq_true,if_false];refine X3 (h p.toList q2.pm (fin _ q2.pm ?_));rw[Yn];refine List.pairwise_iff_getElem.mpr λi j hi hj lf=>?_
  rw[X7,q2.sz]at hi hj;have:=q3.le (Nat.le_of_lt lf) hj;unfold Srt.K at this
  simpa [Array.getD,q2.sz,hi,hj]using this
theorem kxn(hu:A.units+20<cLine)(ho:s.heap.get? a=some (seqObj "list" vs.toArray n))(ht:TT s.heap vs ds)(hc:Cmp ds)(fk:ds.Nodup)(ql:vs.length<64)
  (h:∀p:List Nat,p.Perm (List.range vs.length)->(p.map λi=>ds.getD i .non)=z6 ds->P (.done (.ret .none)) {s with heap:=sortedHeap s.heap a vs (p.map λi=>vs.getD i .none).toArray}):
  wpAny (model prog w) A (Builtin.«list.sort» ⟨[.ref a],[]⟩) P E s:=by
 have tf:TT (((s.heap.update a (Obj.mapSeq λ_=>#[])).push (seqObj "tuple" vs.toArray 0)).push (seqObj "list" #[] 0)) vs ds:=ht.keep λb ob hb cz=>X1 _ (X1 _ (by
  rw[Z6 _ _ (λz=>by
   rw[<-z,ho]at hb;cases hb;exact absurd (show Value.type "list"=Value.type "tuple" from cz) ⋯)]
  exact hb))
 have hnn:=ht.len.symm;have gd:∀i (hi:i<vs.length),ds.getD i .non=ds[i]'⋯:=λi hi=>by simp[show i<ds.length by lia]
 have key:∀i j,i<vs.length->j<vs.length->rk ds (ds.getD i .non)=rk ds (ds.getD j .non)->i=j:=λi j hi hj e=>by
  rw[gd i hi,gd j hj]at e;have:=vzy hc (Xz _) (Xz _) e;exact(List.getElem?_inj ⋯ fk).mp (by rw[X5 ⋯,X5 ⋯,this])
 have fin:∀p:List Nat,p.Perm (List.range vs.length)->(p.map λi=>rk ds (ds.getD i .non)).Pairwise (·<=·)->(p.map λi=>ds.getD i .non)=z6 ds:=λp hp sw=>by
  have pp:(p.map λi=>ds.getD i .non).Perm ds:=by
   refine(hp.map _).trans (.of_eq ?_);rw[<-hnn];exact Tb.rng_getD ds .non
  refine kzl hc fk pp ?_;rw[Yn]at sw ⊢;refine List.Pairwise.imp_of_mem (fun {i j} hi hj le=>?_) (sw.and (hp.nodup_iff.mpr List.nodup_range));have hi:=List.mem_range.mp (hp.mem_iff.mp hi);have hj:=List.mem_range.mp (hp.mem_iff.mp hj);have:=vv6 hc (a:=ds.getD i .non) (b:=ds.getD j .non) (gd i hi▸Xz _) (gd j hj▸Xz _);have ne:=λe=>le.2 (key i j hi hj e)
  rw[Xf ⋯]at this;exact this
 refine kjc (κ:=tuples' true) (key:=λi=>rk ds (ds.getD i .non)) ho ql (λh2 Q hq=>?_) (λi j C hi hj hC=>wzf hu tf hi hj (by
    have:=vv6 hc (a:=ds.getD i .non) (b:=ds.getD j .non) (gd i hi▸Xz _) (gd j hj▸Xz _);rw[<-gd i hi,<-gd j hj];exact this) hC) fin h
 obtain⟨fs,g1,g2,g3⟩:=tf.kat;refine kat_kind (T:=.type "int") g1 ⋯ (λv hv=>?_) rfl ?_
 ·obtain⟨x,t,rfl⟩:=g3 v hv;exact .now
 have eb:(Value.type "int" != Value.type "tuple")=true:=⋯
 exact hq
end
end Tl
namespace Tl
open PySem PySem.W PyProof.Rows Srt Q Tw Tb
noncomputable def trP(prog:Program)(w:PySem.World)(Pd:D->Addr->Prop):HeapKind prog w Kd where
 is:=λh k a=>jw h k.1 (.ref a)/\Pd k.1 a
 hash:=λk=>Qj w k.1
 draws:=λk=>V0 k.1
 room:=λA=>A.units+40<cLine
 inj:=λhx hy=>(Qw prog w).inj hx.1 hy.1
 keeps:=λx ho hd hs=>⟨(Qw prog w).keeps x.1 ho hd hs,x.2⟩
 pyHash:=λhu hk h=>(Qw prog w).pyHash hu hk.1 h
 eqBool:=λhu hx hy h=>(Qw prog w).eqBool hu hx.1 hy.1 h
 quiet:=λhk h=>(Qw prog w).quiet hk.1 h
section
variable {prog:Program}{w:PySem.World}{A:Around}{E:VP9}{s:Shared}{Pd:D->Addr->Prop}
theorem wzb(n m){d u A s Q}(hm:n<=m)(hk:jK n d=true)(hr:jw s.heap d u)(h:Q false s):wpAny (model prog w) A (ofAClassStatement m u) Q E s:=by
 refine kxt (P:=λn u=>∀m Q,n<=m->Q false s->wpAny _ A (ofAClassStatement m u) Q E s) ?_ (λn a us ht hi m Q hm h=>?_) n hk hr m Q hm h
 ·rintro n u (rfl|⟨i,t,rfl⟩|⟨i,t,rfl⟩) m Q _ h<;>(unfold ofAClassStatement;exact X3 h)
 have ty:=ht.typeIs;obtain⟨ob,dl,cz,nn,gl⟩:=ht;cases m
 ·lia
 unfold ofAClassStatement;refine X0 (Ze ty ?_);dsimp only;refine X0 (X3 (X0 (wpAny_seqItems dl gl (X0 ?_))));rw[<-Array.forIn_toList];refine Zg _ (λab r s'=>r.1=none/\s'=s/\∀u∈ab,u∈us) _ ?_ ?_ _ _ ⟨rfl,rfl,λ_ h=>h⟩
 ·rintro v ab r s' ⟨hr,rfl,hu⟩;exact X0 (hi v (hu v X4) _ _ ⋯ (X3 ⟨rfl,rfl,λu h=>hu u (lc9 _ h)⟩))
 ·rintro ⟨r1,r2⟩ s' ⟨hz,rfl,_⟩;cases hz;exact X3 h
theorem wzc(n m){d u A s Q}(hm:n<=m)(hk:jK n d=true)(hr:jw s.heap d u)(h:∀b,Q b s):wpAny (model prog w) A (hashByValue m u) Q E s:=by
 refine kxt (P:=λn u=>∀m Q,n<=m->(∀b,Q b s)->wpAny _ A (hashByValue m u) Q E s) ?_ (λn a us ht hi m Q hm h=>?_) n hk hr m Q hm h
 ·rintro n u (rfl|⟨i,t,rfl⟩|⟨i,t,rfl⟩) m Q _ h<;>(unfold hashByValue;exact X3 (h _))
 have ty:=ht.typeIs;obtain⟨ob,dl,cz,nn,gl⟩:=ht;cases m
 ·lia
 refine X0 (Z5 ty F.slot_tuple_hash.lookup (X0 (wpAny_seqItems dl gl (X0 ?_))));rw[<-Array.forIn_toList];refine Zg _ (λab r s'=>s'=s/\∀u∈ab,u∈us) _ ?_ ?_ _ _ ⟨rfl,λ_ h=>h⟩
 ·rintro v ab r s' ⟨rfl,hu⟩;refine X0 (hi v (hu v X4) _ _ ⋯ λb=>?_);cases b
  ·exact X3 (X3 (h _))
  ·exact X3 ⟨rfl,λu h=>hu u (lc9 _ h)⟩
 ·rintro ⟨r1,r2⟩ s' ⟨rfl,_⟩;cases r1<;>exact X3 (h _)
theorem kindX:KX (trP prog w Pd):=⟨fun {_ _ k _} hk et=>⟨Zk (λb ob _ _ e c _=>et b ob e c) k.2 hk.1,hk.2⟩,fun {_ _ _ k _ _} hk h=>wzb 6 8 (by simp) k.2 hk.1 h⟩
theorem wxr:ByV (trP prog w Pd):=fun {_ _ _ k _ _} hk h=>wzc 6 8 (by simp) k.2 hk.1 h
theorem vqr{knd:HeapKind prog w Kd}:∀{vs ks},vs.Perm (ks.map λp=>Value.ref p.2)->∃dg:List (Kd×Addr),dg.Perm ks/\vs=dg.map λp=>Value.ref p.2:=by
 have:∀{vs' vs},vs.Perm vs'->∀ks,vs'=ks.map (λp=>Value.ref p.2)->∃dg:List (Kd×Addr),dg.Perm ks/\vs=dg.map λp=>Value.ref p.2:=by
  intro vs' vs h
  induction h with
  | nil=>intro ks e;exact⟨ks,.refl _,e⟩
  | cons x _ ih=>
   intro ks e;cases ks with
   | nil=>cases e
   | cons k ks=>
    injection e with e1 e2;obtain⟨dg,p1,p2⟩:=ih ks e2;exact⟨k::dg,p1.cons k,by rw[List.map_cons,p2,e1]⟩
  | swap x y l=>
   intro ks e;cases ks with
   | nil=>cases e
   | cons k ks=>
    cases ks with
    |nil=>cases e
    |cons k2 ks=>
     injection e with e1 e2;injection e2 with e2 e3;exact⟨k2::k::ks,.swap _ _ _,by rw[List.map_cons,List.map_cons,e1,e2,e3]⟩
  |trans _ _ ih1 ih2=>
   intro ks e;obtain⟨k1,p1,e1⟩:=ih2 ks e;obtain⟨k2,p2,e2⟩:=ih1 k1 e1;exact⟨k2,p2.trans p1,e2⟩
 intro vs ks h;exact this h ks rfl
theorem ww9{h}{ks:List (Kd×Addr)}(hk:∀p∈ks,jw h p.1.1 (.ref p.2))(hf:∀p∈ks,VY p.1.1=true):TT h (ks.map λp=>Value.ref p.2) (ks.map λp=>p.1.1):=⟨by simp,λi v d e1 e2=>by
 rw[Xn]at e1 e2;cases hp:ks[i]? with
 | none=>rw[hp]at e1;cases e1
 | some p=>
  rw[hp]at e1 e2;cases oq9 e1;cases oq9 e2;have hm:=Xs hp;have f:=hf p hm;have c:=hk p hm;have k:=p.1.2;have g:∀d,VY d=true->jw h d (.ref p.2)->jK 6 d=true->∃b x r,Value.ref p.2=.ref b/\d=.tup (.int x::r)/\jw h d _/\jK 6 d=true:=λd f c k=>by
   match d,f with
   |.tup (.int x::r),_=>exact⟨_,x,r,rfl,rfl,c,k⟩
  exact g _ f c k⟩
theorem kx1(hu:A.units+60<cLine){a ls Q}(hh:A.handled=none)(hS:HasT (trP prog w Pd) s.heap a ls)(hc:Cmp (ls.map (·.1)))(hf:∀k∈ls,VY k.1=true)(hl:ls.length<=59)
  (h:∀h' (d) (tk l e) (as),(∀b o,s.heap.get? b=some o->h'.get? b=some o)->s.heap.objs.size<=l->h'.get? l=some (seqObj "list" (as.map Value.ref).toArray e)->F2 (λa d=>Pd d a) as (z6 (ls.map (·.1)))->Q (.ref l) {s with heap:=h',drawn:=d,toks:=tk}):
  wpAny (model prog w) A (call (.builtin "sorted") [.ref a]) Q E s:=by
 obtain⟨o,es,ep,t,ks,ho,ok,hp⟩:=hS;have hsz:=ok.sz;have hkl:ks.length=ls.length:=by rw[<-hp.length_eq,X2]
 refine Calls.call_function_entry kind_sorted plain_sorted entry_sorted (args_sorted1 _) ?_;refine X0 (m:=checkCount "sorted" 1 1 _) (X3 ?_);refine X0 (vk3 (by simpa using hh) ho ⟨ok.ex.1,ok.d,ok.f,ok.led,ok.tb.pw,by rw[hsz,hkl,Yp];lia⟩ λh1 d tk vs cy hsz1 hv=>?_);have hv:vs.Perm (ks.map λp=>Value.ref p.2):=by
  rw[ok.el,Xi]at hv;exact hv
 obtain⟨dg,p1,rfl⟩:=vqr (knd:=trP prog w Pd) hv;have ae:(dg.map λp=>Value.ref p.2).length=ls.length:=by rw[X2,p1.length_eq,hkl]
 refine X0 (wpAny_newList ?_ (hsz:=by rw[ae,Yp];lia));have lm:(h1.push (seqObj "list" (dg.map λp=>Value.ref p.2).toArray 0)).get? h1.objs.size=some (seqObj "list" (dg.map λp=>Value.ref p.2).toArray 0):=Xe _ rfl;have ef:(dg.map λp=>p.1.1).Perm (ls.map (·.1)):=by
  have:=((p1.map (·.1)).trans hp).map (·.1);rw[Xi]at this;exact this
 have hmem:=λp hpp=>hp.mem_iff.mp (List.mem_map.mpr ⟨p,p1.mem_iff.mp hpp,rfl⟩)
 have hcm:=λx hx y hy=>hc x (ef.mem_iff.mp hx) y (ef.mem_iff.mp hy)
 have qe:(ls.map (·.1)).Nodup:=by
  have n1:=hp.nodup_iff.mp ok.nd;exact List.pairwise_map.mpr (n1.imp λfb z=>fb (Subtype.ext z))
 have fk:=ef.nodup_iff.mpr qe;have his:=λp hpp=>ok.is p (p1.mem_iff.mp hpp)
 have up:∀b ob,s.heap.get? b=some ob->(h1.push (seqObj "list" (dg.map λp=>Value.ref p.2).toArray 0)).get? b=some ob:=λb ob e=>X1 _ (cy b ob e)
 have ht:=ww9 (λp hpp=>Zk (λb ob _ _ e _ _=>up b ob e) p.1.2 (his p hpp).1) λp hpp=>hf _ (hmem p hpp)
 refine X0 (Y4 (Y1 slot_list_sort ⟨_,lm,rfl⟩ entry_list_sort (kxn ⋯ lm ht hcm fk (by rw[ae];lia) λp hpm hps=>⟨_,rfl,?_⟩) (args_list_sort _)));obtain⟨e,he⟩:=sortedHeap_at (out:=(p.map λi=>(dg.map λp=>Value.ref p.2).getD i .none).toArray) lm;have qt:∀i∈p,i<dg.length:=λi hi=>by
  have:=List.mem_range.mp (hpm.mem_iff.mp hi);rw[X2]at this;exact this
 have ev:(p.map λi=>(dg.map λp=>Value.ref p.2).getD i .none)=(p.map λi=>(dg.map (·.2)).getD i 0).map Value.ref:=by
  rw[Xi];refine Yj λi hi=>?_
  have:=qt i hi;simp[this]
 rw[ev]at he;refine X3 ⟨_,rfl,h _ d tk _ e (p.map λi=>(dg.map (·.2)).getD i 0) (λb o q=>?_) (Nat.le_of_lt hsz1) (by rw[ev];exact he) ?_⟩
 ·have hb:=Xd (cy b o q);rw[sortedHeap_old (Xj hb) (by rw[size_push'];exact Ym hb)];exact X1 _ (cy b o q)
 ·have e2:z6 (ls.map (·.1))=p.map λi=>(dg.map λp=>p.1.1).getD i .non:=by
   rw[hps];exact(kzl hc qe ((zZ _).trans ef) (jzj hcm fk)).symm
  rw[e2];refine wqq λi hi=>?_
  have hi:=qt i hi;have:=(his dg[i] (Xz hi)).2
  simpa [hi]using this
end
end Tl
namespace Q
open PySem PySem.Spec PyProof.Rows L2 L3 Sw Tw Tl
theorem vku{ds}(h:okT ds=true):(∀d∈ds,jK 6 d=true/\VY d=true)/\Cmp ds:=by
 unfold okT at h;rw[Bool.and_eq_true,Xy,Xy]at h;refine⟨λd hd=>by have:=h.1 d hd;rw[Bool.and_eq_true]at this;exact this,λa ha b hb=>?_⟩;have:=h.2 a ha;rw[Xy]at this;exact Option.isSome_iff_exists.mp (this b hb)
theorem wq6:∀{ds},(∀d∈ds,jK 6 d=true)->∃ss:List Kd,ss.map (·.1)=ds
 |[],_=>⟨[],rfl⟩
 |d::ds,h=>by
  obtain⟨ss,e⟩:=wq6 λd hd=>h d (lc9 _ hd)
  exact⟨⟨d,h d X4⟩::ss,congrArg _ e⟩
theorem qxh:∀(ss ls:List Kd),(ss.foldl Tw.stepK ls).map (·.1)=(ss.map (·.1)).foldl vw (ls.map (·.1))
 | [],_=>rfl
 | k::ss,ls=>by
  rw[Zb,List.map_cons,Zb,qxh ss];unfold Tw.stepK vw;have:k∈ls↔k.1∈ls.map _:=⟨λh=>List.mem_map.mpr ⟨k,h,rfl⟩,λh=>by
   obtain⟨k',h1,h2⟩:=aE h;rw[<-Subtype.ext h2];exact h1⟩
  by_cases c:k∈ls
  ·rw[X6 c,X6 (this.mp c)]
  ·rw[Xa c,Xa λz=>c (this.mpr z)];simp
theorem wqy(ss:List Kd):(ddK ss).map (·.1)=ddT (ss.map (·.1)):=qxh ss []
theorem W8:∀(ds ls:List D) {d},d∈ds.foldl vw ls->d∈ls\/d∈ds
 | [],ls,d,h=>.inl h
 | a::ds,ls,d,h=>by
  rcases W8 ds _ h with h|h
  ·unfold vw at h
   split at h
   ·exact .inl h
   ·grind
  ·exact .inr (lc9 _ h)
section
variable {X:Cx}{Z:Fx0}{K:Frag}{q:Bool}{a:Ex}{e ea:Expr}{σ:L2.St}{H:Hp}{pos p p2 b9:Pos}{a7:LA9}{s:Shared}
theorem qv1:∀{as ds},F2 (λa d=>PuR K H d (V.ref a)) as ds->RepA K H true ds (as.map V.ref) []
 |_,_,.nil=>⟨rfl,rfl⟩
 |_,_,.cons h r=>by
  unfold RepA;exact⟨_,_,[],[],rfl,rfl,qqz h,qv1 r⟩
theorem qqm(I:L2.Inv X a7 σ H s):∀{ds zs us bs},RepA X.K H true ds zs bs->Vals zs us->(∀d∈ds,jK 6 d=true/\VY d=true) ->
  us.length=ds.length/\∀(i:Nat) u,us[i]?=some u->∃b d,u=.ref b/\ds[i]?=some d/\jw s.heap d (.ref b)/\PuR X.K H d (V.ref b)
 | [],_,_,_,r,v,_=>by
  obtain⟨rfl,_⟩:=r;cases v;exact⟨rfl,λi u h=>by simp at h⟩
 | d :: ds,_,_,_,r,v,hk=>by
  obtain⟨z,r',b1,b2,rfl,_,r1,r2⟩:=r;cases v with
  | cons h1 h2=>
   obtain⟨g1,g2⟩:=qqm I r2 h2 λd hd=>hk d (lc9 _ hd)
   obtain⟨k1,k2⟩:=hk d X4;have pu:=kzx k1 r1;refine⟨by simp[g1],λi u' hu=>?_⟩;cases i with
   | zero=>
    cases oq9 hu;have cr:=VV I pu h1
    match d,k2 with
    |.tup _,_=>
     have pu':=pu;obtain⟨a,xs,rfl,_,_⟩:=pu';cases h1;exact⟨a,_,rfl,rfl,cr,pu⟩
   |succ i=>exact g2 i u' (by simpa using hu)
noncomputable def wwp(K:Frag):List V->Hp->VK->Prop:=λxs H Q=>∃(p:Addr) (zs:List V) (ds:List D) (bs:List Addr),xs=[.ref p]/\SqL K H p zs/\RepA K H true ds zs bs/\(ddT ds).length<=59/\okT ds=true/\∀l my,H l=none->RepA K H true (z6 (ddT ds)) my []->Q (.ref l) (upd H l (.lst my))
theorem wk5{t}(hc:X.calm=true)(hu:X.A.units+64<cLine)(hg:Gl X "sorted")(hm:X.mg "sorted"=none)(js:Gl X "set")(sk:X.mg "set"=none)(ha:PE X e t)(he:autoParam (starEach [e] X.env=(false,eval e X.env)::starEach [] X.env) Ŕ):
  PE X (.Call (.Name "sorted" p) [.Call (.Name "set" p2) [e] [] b9] [] pos) (fun σ H Q=>t σ H λv H1=>wwp X.K [v] H1 Q):=by
 intro a7 s σ H Q I h;refine Yq (xW I hg hm (u:=.builtin "sorted") (by decide +kernel) (PyProof.Rows.callWith_builtin1 ?_ rfl rfl) ⋯ ⋯);show wpAny _ _ (spliced ((false,eval (.Call (.Name "set" p2) [e] [] b9) X.env)::[])) _ _ s;refine Calls.spliced_cons (Yq (xW I js sk (u:=.type "set") (by decide +kernel) (Xx (thn (qW ha v8 he b9 a7 s σ H (λvs H1=>wwp X.K vs H1 Q) I ?_) λus s1 hz=>?_) he rfl) ⋯ ⋯))
 ·exact h
 obtain⟨vs,H1,I1,r1,q1⟩:=hz;obtain⟨b,zs,ds,bs,rfl,hq,rA,hl,hok,q⟩:=q1;obtain⟨u,rfl,rx⟩:=xK r1;cases rx;obtain⟨a8,r',pl,hz⟩:=I1.list hq;obtain⟨kf,cm⟩:=vku hok;obtain⟨ln,at'⟩:=qqm I1 rA r' kf;obtain⟨ss,hss⟩:=wq6 λd hd=>(kf d hd).1
 have o8:ss.length=ds.length:=by rw[<-hss,X2]
 have u1:=L3.in1_units X.A;have u2:=L3.in1_units X.A.in1;have u3:=L3.in1_units X.A.in1.in1;have rh:(ddK ss).map (·.1)=ddT ds:=by rw[wqy,hss]
 have ae:(ddK ss).length<=59:=by rw[<-X2 (f:=(·.1)),rh];exact hl
 refine qxp (knd:=trP X.prog X.w λd a=>PuR X.K H1 d (V.ref a)) kindX wxr (show X.A.in1.in1.in1.units+40<cLine by lia) (I1.ok.hd hc) pl.isList (ss:=ss) (by rw[X9,ln,o8]) (λi v hv=>?_) ae λh' tk hS cy=>?_
 ·obtain⟨b',d,e1,e2,e3,e4⟩:=at' i v (by simpa using hv);have hi:i<ss.length:=by rw[o8];exact(List.getElem?_eq_some_iff.mp e2).1
  refine⟨b',ss[i],e1,X5 hi,?_⟩;have ed:(ss[i]).1=d:=by
   have:(ss.map (·.1))[i]?=some (ss[i]).1:=by rw[Xn,X5 hi];rfl
   rw[hss,e2]at this;exact(oq9 this).symm
  show jw s1.heap (ss[i]).1 (.ref b')/\PuR X.K H1 (ss[i]).1 (V.ref b');rw[ed];exact⟨e3,e4⟩
 ·have sub:∀d∈ddT ds,d∈ds:=λd hd=>(W8 ds [] hd).elim (λz=>nomatch z) id
  refine Calls.spliced_nil (kx1 ⋯ (I1.ok.hd hc) hS (by rw[rh];exact λx hx y hy=>cm x (sub x hx) y (sub y hy)) (λk hk=>(kf k.1 (sub k.1 (rh▸List.mem_map.mpr ⟨k,hk,rfl⟩))).2) ae λh2 d tk2 l e2 as nr nv t9 hF=>?_);rw[rh]at hF;have I2:L2.Inv X a7 σ H1 {s1 with heap:=h',toks:=tk}:=I1.kept λb u q=>cy b u (Xd q) q
  have km:as.length<=sizeLine:=by
   have e3:=wqr hF;rw[(zZ _).length_eq,<-rh,X2]at e3;rw[Yp];lia
  exact⟨.ref l,_,Inv.dr (I2.laid (t':=tk2) (o:=.lst (as.map V.ref)) nr nv (⟨by rw[X2];exact km,as.map Value.ref,e2,kzc as,t9⟩)),rfl,q l (as.map V.ref) (I2.hok.fresh nv) (qv1 (K:=X.K) (H:=H1) hF)⟩
theorem wvf:Ad1 K (λv H Q=>wwp K [v] H Q) W1:=by
 intro H x s Q ok hf k;unfold W1 at hf;dsimp only at hf;cases hx:x.d with
 | lst ds=>
  rw[hx]at hf;dsimp only at hf
  split at hf
  ·rename_i n0;cases oq9 hf;obtain⟨l,xs,bs,ev,q3,r3,_⟩:=items ok (.inl hx);have q3:LsR K H l xs:=by rcases q3 with⟨_,z⟩|⟨z,_⟩;exact z;rw[hx]at z;cases z
   have r4:RepA K H true ds xs bs:=by
    cases ho:(x.o != .dp)with|true=>rw[ho]at r3;exact r3|false=>rw[ho]at r3;exact r3.wk
   exact⟨l,xs,ds,bs,by rw[ev],x9 q3,r4,n0.1,n0.2,λp my hp rp=>k _ _ rfl rfl (J4 hp rp λb hb=>nomatch hb)⟩
  ·cases hf
 |_=>rw[hx]at hf;cases hf
end
section
variable {X:Cx}{Z:Fx0}{K:Frag}{q:Bool}{a:Ex}{e ea:Expr}{σ:L2.St}{H:Hp}{pos p p2 b9:Pos}{a7:LA9}{s:Shared}
theorem wwv(hK:X.K=Z.K)(hc:X.calm=true)(hu:X.A.units+64<cLine)(ha:QV X Z q a ea)(hm:X.mg "sorted"=none)(sk:X.mg "set"=none)(hg:autoParam (Gl X "sorted") Ŕ)(js:autoParam (Gl X "set") Ŕ)(he:autoParam (starEach [ea] X.env=(false,eval ea X.env)::starEach [] X.env) Ŕ):
  QE X Z q (cF1 W1 a) (.Call (.Name "sorted" p) [.Call (.Name "set" p2) [ea] [] b9] [] pos):=
 k7 (wk5 hc hu hg hm js sk ha (he:=he)) fun σ H Q h=>by
  have:=jxb wvf h
  rwa [hK]
end
end Q
namespace Q
open PySem
def VW:Sd->Option Int->Option Int->Option Sd:=λx lo hi=>match x.2 with
 |.tup ds=>if kj x=true/\xz ds.length 0 lo=0/\xz ds.length ds.length hi=ds.length then some (.no,.tup ds)else fSl x lo hi|_=>fSl x lo hi
def ww0(a:Ex)(lo hi:Option Ex):Ex:=λE=>bnd (a E) λE x=>bnd (J6 lo E) λE l=>bnd (J6 hi E) λE h=>val E (VW x l h)
def prT:List D->Option (List (D×Int))
 |[]=>some []|.tup [k,.int v]::r=>if ww k=true then(prT r).map ((k,v):: ·)else none|_=>none
def kwc:Sd->Option Sd:=λx=>match x.2 with
 |.lst ds=>(match prT ds with
  |some ps=>if ps.length<big/\(ps.map (·.1)).Nodup then some (.rt,.dct (ps.map λp=>(p.1,.int p.2)))else none
  |none=>none)
 |_=>none
def Vx:D->Option D:=λx=>match x with
 |.lst ds=>(match zW ds with
  |some ns=>if ns.length<4000 then some (.int (ddI ns).length)else none
  |none=>none)
 |_=>none
end Q
namespace HT
open PySem PySem.Spec PyProof.Rows L2
section
variable {prog:Program}{w:World}{A:Around}{E:VP9}{s:Shared}
theorem getItem_tuple_whole{t sl:Addr}{items:Array Value}{vl vu:Value}{lo hi:Option Int}{Q:VP9}(ht:IsTup s.heap t items)(hs:s.heap.IsSliceOf sl vl vu .none)(pl:IsPart vl lo)(pu:IsPart vu hi)
  (hw:sIx items.size 0 lo=0/\sIx items.size items.size hi=items.size) (h:Q (.ref t) s):wpAny (model prog w) A (getItem (.ref t) (.ref sl)) Q E s:=by
 obtain⟨os,ic,lq,b7⟩:=id hs;have hTs:s.TypeIs (.ref sl) "slice":=⟨os,ic,lq⟩;unfold getItem
 try with_reducible refine Y4 ?_
 first|refine X0 (X3 ?_)|skip
 refine X0 (wpAny_sequenceKey ht.typeIs ⋯ ?_);refine X0 (Yo (name:=Str.ofString "__getitem__") ht.typeIs Z1
  (Y1 Z1 ht.typeIs entry_tuple_getitem ?_ (args_tuple_getitem _ _)))
 show wpAny _ _ (Builtin.Tuple.tupleItemsOf (.ref t) >>= _) _ _ s;refine X0 (tupleItemsOf_ ht ?_);refine X0 (Ze hTs ?_);rw[X6 ⋯];refine X0 (jva hs pl pu ?_);have lb:((((sIx items.size 0 lo:Nat):Int)==0&&(1:Int)==1&&(sIx items.size items.size hi - sIx items.size 0 lo)==items.size)=true):=by
  rw[hw.1,hw.2];simp
 show wpAny _ _ (if(((sIx items.size 0 lo:Nat):Int)==0&&(1:Int)==1&&(sIx items.size items.size hi - sIx items.size 0 lo)==items.size)=true then _ else _) _ _ s;rw[X6 lb];refine X0 ?_;unfold Builtin.Tuple.tupleIsExact;refine X0 (Ze ht.typeIs ?_);refine X3 ?_;rw[X6 ⋯];exact X0 (wpAny_rule (X3 ⟨_,rfl,X3 h⟩))
end
end HT
namespace Q
open PySem PySem.Spec PyProof.Rows L2 L3
section
variable {X:Cx}{Z:Fx0}{K:Frag}{q:Bool}{a:Ex}{ea:Expr}{pos p2:Pos}{H:Hp}
def wzn(K:Frag):V->Option Int->Option Int->Hp->VK->Prop:=λx lo hi H Q=>(∃a xs,x=.ref a/\SqT K H a xs/\(HT.sIx xs.length 0 lo=0/\HT.sIx xs.length xs.length hi=xs.length)/\Q (.ref a) H)\/qv6 K x lo hi H Q
theorem slW(K:Frag)(hK:autoParam (X.K=K) Ŕ):SlR X (wzn K):=by
 subst hK;intro a7 s σ H x v vl vu lo hi sl Q I rx hs pl pu h;rcases h with⟨a,xs,rfl,hx,hw,q⟩|h
 ·cases rx;obtain⟨a8,r,ht,hz⟩:=I.tuple hx;have ae:a8.toArray.size=xs.length:=by rw[X9];exact r.length.symm
  refine⟨"tuple",_,PyProof.Rows.slot_tuple_getitem.lookup,ht.typeIs,?_⟩;exact HT.getItem_tuple_whole ht hs pl pu (by rw[ae];exact hw) ⟨.ref a,H,I,rfl,q⟩
 ·exact vzw X.K rfl a7 s σ H x v vl vu lo hi sl Q I rx hs pl pu h
theorem qzr{x:Sl}{s:Sd}{lo hi:Option Int}{Q:VK}(ok:x.ok K H)(hf:VW (x.o,x.d) lo hi=some s)(k:∀(z:Sl) H',z.o=s.1->z.d=s.2->Out K H H' z x.frz->Q z.v H'):wzn K x.v lo hi H Q:=by
 unfold VW at hf
 split at hf
 ·rename_i ds hx;have hx:x.d=.tup ds:=hx
  split at hf
  ·rename_i hc;cases oq9 hf;obtain⟨l,xs,bs,ev,q3,r3,h3⟩:=xw ok (.inr hx) hc.1;have q3:SqT K H l xs:=by rcases q3 with⟨z,_⟩|⟨_,z⟩;rw[hx]at z;cases z;exact z
   refine .inl ⟨l,xs,ev,q3,?_,?_⟩
   ·rw[vki,vki,<-r3.len];exact hc.2
   ·refine k ⟨.no,.tup ds,.ref l,bs⟩ H rfl rfl ⟨x5,?_,(λb hb=>nomatch hb),Y7,h3⟩;show RepL K H true _ _ _;unfold RepL;exact⟨l,xs,rfl,q3,r3⟩
  ·exact .inr (kx2 ok hf k)
 ·exact .inr (kx2 ok hf k)
theorem www{lo hi:Option Ex}{pi rj:Option Expr}(ha:QV X Z q a ea)(hl:PO X pi (tPo Z lo))(hh:PO X rj (tPo Z hi))(hK:autoParam (X.K=Z.K) Ŕ):QE X Z q (ww0 a lo hi) (.Subscript ea (.Slice pi rj none p2) pos):=
 k7 (qj3 (slW Z.K hK) ha hl hh) fun σ H Q aj=>ex8 aj λE L r m w hc xc k=>by
  refine kX m w (show bnd (a E) _=some r from hc) xc λE1 s h1 x L1 H1 e1 e2 m1 w1 ok fr sr st sm=>?_
  refine kq3 m1 w1 h1 (xc.step st) λE2 l h2 L2 H2 m2 w2 b8 cx=>?_
  refine kq3 m2 w2 h2 (xc.step (st.trans b8)) λE3 u h3 L3 H3 m3 w3 cg r9=>?_
  obtain⟨z,hz,rfl⟩:=wj h3;have k1:=Jz ok fr b8 cx;have k2:=Jz k1.1 k1.2 cg r9;refine qzr k2.1 (by rw[e1,e2];exact hz) λy H' ho hd o=>?_
  obtain⟨w4,ja⟩:=JZ w3 ((st.trans b8).trans cg) o k2.2 (λb hb=>k2.1.some (Sl.frz_as hb)) (W6 sr λb hb=>Sl.frz_as hb);have ko:q=true->jJ H H3:=λhq=>jY (sm hq) (jY cx r9)
  exact k _ _ rfl y L3 H' ho hd m3 w4 ja λhq=>⟨jY (ko hq) o.same,λb hb=>z9 (ko hq) (o.new b hb)⟩
end
end Q
namespace Tw
open PySem PyProof.Rows Tb Sw
section
variable {prog:Program}{w:World}{A:Around}{R:Result->Shared->Prop}{I:Addr}{fp wr:List Addr}{G:Array GenState->Array GenState->Prop}{n:Nat}{P:Nat->Value->Prop}{St:Nat->Shared->Prop}{K:Type}[DecidableEq K]{knd:HeapKind prog w K}
theorem jxv(X:KX knd){h h':Heap}{a:Addr}{xs:List _}(x:h.DictOfH knd a xs)(e:∀o,h.get? a=some o->h'.get? a=some o)(et:∀b ob,h.get? b=some ob->ob.cls=.type "tuple"->h'.get? b=some ob):h'.DictOfH knd a xs:=by
 obtain⟨o,es,ep,ho,h1,h2,h3,h4,h5⟩:=x;exact⟨o,es,ep,e _ ho,h1,h2,h3,λp hp=>X.keep (h4 p hp) et,h5⟩
theorem qq4{more:List _}(fk:(more.map (·.1)).Nodup){i:Nat}{p:K×Addr×Value}(h:more[i]?=some p):atKey (more.take i) p.1=none:=by
 refine atKey_none_of_get λj q hj=>?_
 have hl:=(List.getElem?_eq_some_iff.mp hj).1;rw[Y5]at hl;rw[List.getElem?_take,X6 ⋯]at hj;have:=idxH_unique fk hj (by rw[h]);lia
theorem jx7(X:KX knd)(hr:knd.room A.in1)(W:WalksS prog w A.in1 I fp wr G n P St)(S:Addr)(mj:S∉fp)(rg:∀i s,St i s->∀b∈wr,∀ob,s.heap.get? b=some ob->ob.cls≠.type "tuple"){more:List (K×Addr×Value)}(hn:more.length=n)(fk:(more.map (·.1)).Nodup)(hz:n<=sizeLine):
  ∀ (k i:Nat) (c:Tok) (s:Shared),n - i=k->i<=n->St i s->s.heap.DictOfH knd S (more.take i) ->
   (∀i v,P i v->∃T u x k,v=.ref T/\s.heap.IsTuple T #[.ref u,x]/\more[i]?=some (k,u,x)/\knd.is s.heap k u) ->
   (∀s',Moved (S::wr) G s s'->s'.heap.DictOfH knd S more->R (.ok (.ret .none)) s') ->
   codeAny (model prog w) A (.builtin "dict.update.loop" ⟨[.ref S,.ref I,.int i c,.none],[]⟩) R s:=by
 have sy:S∉wr:=λh=>mj (W.sub _ h)
 have gq:∀b∈wr,b∈S::wr:=λb hb=>lc9 _ hb
 intro k
 induction k with
 | zero=>
  intro i c s hk hi bw hS fv hR;have mh:i=n:=⋯
  subst mh;refine Yi F.entry_dict_update_loop ?_;rw[Yr F.plain_dict_update_loop _];show wpAny _ A.in1 (pyNext (.ref I) >>= _) _ _ s;refine X0 (W.done s _ _ bw λs' hm=>?_);show wpAny _ A.in1 (Builtin.Dict.addKeywords S [] >>= _) _ _ s';refine X0 (X3 (X3 (hR s' (hm.mono gq) ?_)));rw[<-hn,List.take_length]at hS;exact jxv X hS (λo e=>hm.heap S _ sy e) λb ob hb ht=>hm.heap b ob (λz=>rg _ _ bw b z ob hb ht) hb
 | succ k ih=>
  intro i c s hk hi bw hS fv hR;have bh:i<n:=⋯
  refine Yi F.entry_dict_update_loop ?_;rw[Yr F.plain_dict_update_loop _];show wpAny _ A.in1 (pyNext (.ref I) >>= _) _ _ s;refine X0 (W.item i s _ _ bh bw λv s' hP o6 hm=>?_);have tm:∀b ob,s.heap.get? b=some ob->ob.cls=.type "tuple"->s'.heap.get? b=some ob:=λb ob hb ht=>hm.heap b ob (λz=>rg _ _ bw b z ob hb ht) hb
  have tup:∀{h h':Heap} {T:Addr} {xs:Array Value},(∀b ob,h.get? b=some ob->ob.cls=.type "tuple"->h'.get? b=some ob)->h.IsTuple T xs->h'.IsTuple T xs:=λet ⟨o,ho,hc,ab⟩=>⟨o,et _ _ ho hc,hc,ab⟩
  obtain⟨T,u,x,kk,rfl,hT,hmo,mz⟩:=fv i v hP;have gf:s'.heap.DictOfH knd S (more.take i):=jxv X hS (λo e=>hm.heap S _ sy e) tm;have pd:s'.heap.IsTuple T #[.ref u,x]:=tup tm hT;have sf:knd.is s'.heap kk u:=X.keep mz tm;have dm:(more.take i).length<=sizeLine:=by rw[Y5];lia
  obtain⟨oS,esS,epS,hoS,hcS,hdS,_⟩:=id gf;show wpAny _ A.in1 (holding [Value.ref T] _ >>= _) _ _ s';refine X0 (Y4 (X0 (wpAny_tryCatch (qkk pd ?_))));show wpAny _ A.in1 (holding [Value.ref u,x] (dictSet S (.ref u) x)) _ _ s';refine Y4 (wpAny_dictSet_heap (hsz:=dm) hr sf gf λh' tq jb=>?_);have dy:h'.DictOfH knd S (more.take (i+1)):=by
   rw[storedH_new (qq4 fk hmo)]at tq;rw[List.take_succ,hmo];exact tq
  have tm2:∀b ob,s'.heap.get? b=some ob->ob.cls=.type "tuple"->h'.get? b=some ob:=λb ob hb ht=>by
   have hbS:b≠S:=λz=>by
    subst z;rw[hoS]at hb;cases hb;rw[hcS.1]at ht;exact absurd ht ⋯
   rw[jb.2 b hbS];exact hb
  refine X3 ⟨Z7 F.plain_dict_update_loop _,?_⟩;show codeAny _ _ (.builtin "dict.update.loop" ⟨[.ref S,.ref I,.int ((i+1:Nat):Int) 0,.none],[]⟩) R _;refine ih (i+1) 0 _ ⋯ bh (W.frame _ s' _ _ o6 (Nat.le_add_right _ _) λb hb o e=>?_) dy (λj v hv=>?_) λjm mw n6=>?_
  ·rw[jb.2 b (λh:b=S=>mj (by rw[<-h];exact hb))];exact e
  ·obtain⟨T,u,x,k,e1,e2,e3,e4⟩:=fv j v hv;exact⟨T,u,x,k,e1,tup tm2 (tup tm e2),e3,X.keep (X.keep e4 tm) tm2⟩
  ·refine hR jm (Moved.trans W.gtrans ((hm.mono gq).then_heap (Nat.le_add_right _ _) λb o hb e=>?_) mw) n6;rw[jb.2 b (λh:b=S=>hb (by rw[h];exact X4))];exact e
theorem call_dict_listH(X:KX knd)(hr:knd.room A.in1.in1){E:VP9}{s:Shared}{l:Addr}{items:Array Value}{more:List (K×Addr×Value)}{o:Obj}{m:Nat}{Q:VP9}
  (hh:A.handled=none) (ho:s.heap.get? l=some o) (hc:o.cls=.type "list") (fw:o.data=.seq items m) (hd:o.dict=none) (hn:more.length=items.size) (fk:(more.map (·.1)).Nodup) (hz:items.size<=sizeLine)
  (fv:∀(i:Nat) (v:Value),items[i]?=some v->∃T u x k,v=.ref T/\s.heap.IsTuple T #[.ref u,x]/\more[i]?=some (k,u,x)/\knd.is s.heap k u)
  (h:∀(h':Heap) (tk:Nat),h'.DictOfH knd s.heap.objs.size more->(∀b o,b<s.heap.objs.size->s.heap.get? b=some o->h'.get? b=some o)->Q (.ref s.heap.objs.size) {s with heap:=h',toks:=tk}):
  wpAny (model prog w) A (call (.type "dict") [.ref l]) Q E s:=by
 refine callType_codes (Q₁:=λobj s₁=>obj=Value.ref s.heap.objs.size/\s₁={s with heap:=s.heap.push {cls:=Value.type "dict",data:=Data.dict #[]}}) F.kt_called_dict (F.kt_typeCall_dict_1 _) F.entry_dict_init (kt_code_dict_new _ ⟨rfl,rfl⟩) ?_;rintro obj s₁ ⟨rfl,rfl⟩;have fu:(s.heap.push {cls:=.type "dict",data:=.dict #[]}).DictOfH knd s.heap.objs.size []:=Heap.DictOfH.new s.heap;have ie:(s.heap.push {cls:=.type "dict",data:=.dict #[]}).get? l=some o:=X1 _ ho;have hT:Shared.TypeIs {s with heap:=s.heap.push {cls:=.type "dict",data:=.dict #[]}} (.ref l) "list":=⟨_,ie,hc⟩;have rz:=Xd ho;refine⟨fu.typeIs,F.args_dict_init_2 _ _,?_⟩;refine X0 ?_;unfold Builtin.Dict.selfAndRest;refine X0 (wpAny_notOrdered_dict fu.typeIs ?_);refine X3 ?_;show wpAny _ _ (Builtin.Dict.updateFrom "dict.__init__" s.heap.objs.size (.ref l) [] .none) _ _ _;refine X0 (Ze hT ?_);rw[X6 ⋯];refine X0 (kql ie hc fw hd (by simp[hh]) λh' tk hk=>?_);have hkS:∀b q,s.heap.get? b=some q->h'.get? b=some q:=λb q e=>hk b q (X1 _ e)
 have iq:h'.IsList l items:=⟨o,hkS _ _ ho,hc,m,fw⟩;have hS1:h'.DictOfH knd s.heap.objs.size []:=by
  obtain⟨q,es,ep,hq,h1,h2,h3,_,h5⟩:=fu;exact⟨q,es,ep,hk _ _ hq,h1,h2,h3,(λp hp=>nomatch hp),h5⟩
 have nt:s.heap.objs.size<h'.objs.size:=by
  obtain⟨q,es,ep,hq,ab⟩:=hS1;exact Xd hq
 refine X0 (wpAny_rule (X0 (Zd iq ?_)));refine X3 ⟨Z7 F.plain_dict_update_loop _,?_⟩;have hneI:l≠h'.objs.size:=Xj (Nat.lt_trans rz nt);refine jx7 (A:=A.in1) X hr ((Walks.list (A:=A.in1.in1) (by simp[hh]) h'.objs.size l hneI items).toS) s.heap.objs.size ?_ (λi s bw b hb ob dl=>?_) hn fk hz (items.size - 0) 0 0 _ ⋯ (Y8 _)
  ⟨⟨_,Xe _ rfl,rfl,rfl⟩,iq.push _⟩ ?_ (λi v hv=>?_) λs' hm gf=>?_
 ·simp only[Yc,Ys,or_false,not_or];exact⟨Xj nt,Nat.ne_of_gt rz⟩
 ·rw[aC hb]at dl;obtain⟨⟨o',ie,kl,_⟩,_⟩:=bw
  grind
 ·exact jxv X hS1 (λo e=>X1 _ e) λb ob hb _=>X1 _ hb
 ·obtain⟨T,u,x,k,e1,e2,e3,e4⟩:=fv i v hv;obtain⟨q,hq,lu,ab⟩:=e2;exact⟨T,u,x,k,e1,⟨q,X1 _ (hkS _ _ hq),lu,ab⟩,e3,X.keep e4 λb ob hb _=>X1 _ (hkS b ob hb)⟩
 ·obtain⟨h2,g',d',p9,u4⟩:=s';have eg:g'=s.gens:=hm.gens;have ed:d'=s.drawn:=hm.drawn;have eo:u4=s.os:=hm.os;subst eg;subst ed;subst eo;refine⟨rfl,h h2 p9 gf λb q hb e=>?_⟩;refine hm.heap b q ?_ (X1 _ (hkS b q e));simp only[Yc,Ys,or_false,not_or];exact⟨Xj hb,Xj (Nat.lt_trans hb nt)⟩
end
end Tw
namespace Q
open PySem PySem.Spec PyProof.Rows L2 L3
noncomputable def vkj(K:Frag):List V->Hp->VK->Prop:=λxs H Q=>∃(a:Addr) (ts:List V) (ps:List (Kd×Addr×Int)),xs=[.ref a]/\SqL K H a ts/\ts.length=ps.length /\
 (∀i (h:i<ps.length),∃T,ts[i]?=some (.ref T)/\SqT K H T [.ref ps[i].2.1,.int ps[i].2.2]/\PuR K H ps[i].1.1 (.ref ps[i].2.1))/\ps.length<big/\(ps.map (·.1)).Nodup /\
 ∀l es ep,H l=none->(l==sysModules)=false->es.map (λe=>(e.1,e.2.1))=ps.map (λp=>(p.1,p.2.1))->Vals (ps.map λp=>V.int p.2.2) (es.map (·.2.2))->Q (.ref l) (upd H l (V6 l es ep))
theorem qjc{X:Cx}{a7:LA9}{σ:L2.St}{H:Hp}{s:Shared}(I:Inv X a7 σ H s):∀(ps:List (Kd×Addr×Int)) (ts:List V) (a8:List Value),ts.length=ps.length ->
  (∀ i (h:i<ps.length),∃T,ts[i]?=some (.ref T)/\SqT X.K H T [.ref ps[i].2.1,.int ps[i].2.2]/\PuR X.K H ps[i].1.1 (.ref ps[i].2.1))->Vals ts a8 ->
  ∃ more:List Ent,more.length=a8.length/\more.map (λe=>(e.1,e.2.1))=ps.map (λp=>(p.1,p.2.1))/\Vals (ps.map λp=>V.int p.2.2) (more.map (·.2.2))/\∀(i:Nat) (v:Value),a8[i]?=some v->∃T u x k,v=.ref T/\s.heap.IsTuple T #[.ref u,x]/\more[i]?=some (k,u,x)/\jw s.heap k.1 (.ref u)
 | [],ts,a8,hl,_,hv=>by
  cases ts with| nil=>cases hv;exact⟨[],rfl,rfl,.nil,λi v h=>by simp at h⟩| cons=>cases hl
 | p :: ps,t::ts,_,hl,hp,hv=>by
  cases hv with
  | cons h1 h2=>
   rename_i u us;obtain⟨T,e1,e2,e3⟩:=hp 0 (by simp);have e1:t=.ref T:=by simpa using e1
   subst e1;cases h1;obtain⟨ii,rv,tp,_⟩:=I.tuple e2;obtain⟨u2,rfl,r2⟩:∃u2,ii=[.ref p.2.1,u2]/\RelV (.int p.2.2) u2:=by
    cases rv with
    |cons a b=>
     cases b with|cons c d=>cases d;cases a;exact⟨_,rfl,c⟩
   obtain⟨more,m1,m2,m3,m4⟩:=qjc I ps ts us (by simpa using hl) (λi h=>by
    obtain⟨T,a,b⟩:=hp (i+1) (by simp_all);exact⟨T,by simpa using a,by simpa using b⟩) h2
   refine⟨(p.1,p.2.1,u2)::more,by rw[Xk,Xk,m1],by rw[List.map_cons,List.map_cons,m2],.cons r2 m3,λi v h=>?_⟩;cases i with
   |zero=>
    have h:Value.ref T=v:=by simpa using h
    subst h;exact⟨T,p.2.1,u2,p.1,rfl,tp,rfl,VV I e3 rfl⟩
   |succ i=>exact m4 i v (by simpa using h)
theorem qq3{X:Cx}{K:Frag}(hu:X.A.units+64<cLine)(hc:autoParam (X.calm=true) Ŕ)(hK:autoParam (X.K=K) Ŕ):CallR X (.type "dict") (vkj K):=by
 subst hK;intro a7 s σ H xs us Q I r h;obtain⟨a,ts,ps,rfl,hq,hl,hp,hb,fk,q⟩:=h;obtain⟨u,rfl,rx⟩:=xK r;cases rx;obtain⟨a8,rv,⟨o,n,ho,cz,hd,fw⟩,hz⟩:=I.list hq;obtain⟨more,m1,m2,m3,m4⟩:=qjc I ps ts a8 hl hp rv;have hk:more.map (·.1)=ps.map (·.1):=by
  have:=congrArg (List.map Prod.fst) m2
  rwa [Xi,Xi]at this
 have u2:=L3.in1_units X.A.in1;refine Tw.call_dict_listH (knd:=Tl.trP X.prog X.w λ_ _=>True) Tl.kindX (show X.A.in1.in1.units+40<cLine by lia) (I.ok.hd hc) ho cz fw hd (by rw[m1];simp) (by simp_all) (by rw[X9,<-rv.length];exact hz) (λi v hv=>?_) λh' tk dd kp=>?_
 ·obtain⟨T,u,x,k,f1,f2,f3,f4⟩:=m4 i v (by simpa using hv);exact⟨T,u,x,k,f1,f2,f3,f4,Zi⟩
 have i9:=I.big;obtain⟨q',ds,ep,hq',g2,g3,g4,_,_⟩:=dd;refine⟨.ref s.heap.objs.size,_,I.laid (o:=V6 s.heap.objs.size more ep) (t':=tk) (λb ob e=>kp b ob (Xd e) e) (X8 _) ⟨⟨q',ds,hq',g2,g3,g4⟩,⟨q',hq'⟩,λh1 h2 ⟨o,ds,a1,a2⟩ k=>⟨o,ds,k o a1,a2⟩⟩,rfl,q _ more ep (I.hok.fresh (X8 _)) (Zc (Nat.ne_of_gt i9)) m2 m3⟩
theorem wv9{K:Frag}{H:Hp}{g:Bool}:∀{ds:List D} {ps:List (D×Int)} {xs:List V} {bs:List Addr},prT ds=some ps->RepA K H g ds xs bs->∃qs:List (Kd×Addr×Int),qs.map (λq=>(q.1.1,q.2.2))=ps/\xs.length=qs.length /\
  ∀ i (h:i<qs.length),∃T,xs[i]?=some (.ref T)/\SqT K H T [.ref qs[i].2.1,.int qs[i].2.2]/\PuR K H qs[i].1.1 (.ref qs[i].2.1):=by
 intro ds
 induction ds with
 | nil=>
  intro ps xs bs h r;cases oq9 h;rw [r.1];exact⟨[],rfl,rfl,λi h=>absurd h (Nat.not_lt_zero _)⟩
 | cons d ds ih=>
  intro ps xs bs h r;unfold prT at h
  split at h
  ·simp_all
  ·rename_i k v r' e;injection e with e1 e2;subst e1 e2
   split at h
   rotate_left
   ·cases h
   rename_i hk;cases hr:prT ds with
   | none=>simp_all
   | some q=>
    rw[hr]at h;cases oq9 h;obtain⟨x,rr,b1,b2,rfl,rfl,r1,r2⟩:=r;obtain⟨qs,q1,q2,q3⟩:=ih hr r2;obtain⟨T,ys,rfl,sq,ra⟩:=r1;unfold RepA at ra;obtain⟨y1,_,c1,c2,rfl,rfl,f1,f2⟩:=ra;obtain⟨y2,_,_,_,rfl,rfl,f3,f4⟩:=f2;unfold RepA at f4;obtain⟨rfl,rfl⟩:=f4;obtain⟨rfl,rfl⟩:=f3;have iz:=hk;unfold ww at iz;rw[Bool.and_eq_true]at iz;have hp:=kzx iz.1 f1;obtain⟨b,rfl⟩:∃b,y1=.ref b:=by
     cases k with|tup es=>unfold RepL at f1;obtain⟨a,_,e,_⟩:=f1;exact⟨a,e⟩|_=>cases iz.2
    refine⟨(⟨k,iz.1⟩,b,v)::qs,by rw[List.map_cons,q1],by rw[Xk,Xk,q2],λi hi=>?_⟩;cases i with|zero=>exact⟨T,rfl,sq,hp⟩|succ i=>exact q3 i _
  ·cases h
theorem kvf{K:Frag}{H:Hp}:∀(qs:List (Kd×Addr×Int)),RepP K H true (qs.map λq=>(q.1.1,D.int q.2.2)) (qs.map λq=>V.int q.2.2) []
 |[]=>by exact⟨rfl,rfl⟩
 |q::qs=>by
  unfold RepP;exact⟨_,_,[],[],rfl,rfl,by exact⟨rfl,rfl⟩,kvf qs⟩
theorem vke{K:Frag}:Ad1 K (λv H Q=>vkj K [v] H Q) kwc:=by
 intro H x s Q ok hf k;unfold kwc at hf
 split at hf
 rotate_left
 ·cases hf
 rename_i ds hx
 split at hf
 rotate_left
 ·cases hf
 rename_i ps hp
 split at hf
 rotate_left
 ·cases hf
 rename_i hc;cases oq9 hf;obtain⟨a,xs,bs,ev,q1,ra,_⟩:=items ok (.inl hx);have hq:SqL K H a xs:=by
  rcases q1 with⟨_,z⟩|⟨z,_⟩
  ·exact z.sq
  ·grind
 obtain⟨qs,e1,e2,e3⟩:=wv9 hp ra;subst e1;have fk:(qs.map (·.1)).Nodup:=by
  have:=hc.2;rw[Xi]at this;rw[List.nodup_iff_pairwise_ne,Yn]at this ⊢;exact this.imp λh e=>h (congrArg Subtype.val e)
 refine⟨a,xs,qs,by rw[ev],hq,e2,e3,by have:=hc.1;rwa [X2]at this,fk,λl es ep hl hs m1 m2=>k ⟨.rt,.dct _,.ref l,[l]⟩ _ rfl rfl ⟨qY hl,?_,λb hb=>?_,by simp[Sl.own],λb hb=>by simp[Sl.frz]at hb⟩⟩
 ·have sm:jJ H (upd H l (V6 l es ep)):=qY hl;have hk:es.map (·.1)=qs.map (·.1):=by
   have:=congrArg (List.map Prod.fst) m1
   rwa [Xi,Xi]at this
  have hel:es.length=qs.length:=by have:=congrArg List.length m1;simpa using this
  refine⟨l,qs.map _,[],rfl,?_,.inl ⟨es,ep,wQ,hs,?_,by rw[hk];exact fk,?_,λe he=>?_,m2⟩,rfl⟩
  ·rw[Xi];exact kvf qs
  ·have:=hc.1;rw[X2]at this;rw[hel];exact Nat.le_of_lt this
  ·rw[Xi,Xi];have:=congrArg (List.map λk:Kd=>k.1) hk;rw[Xi,Xi]at this;exact this.symm
  ·obtain⟨i,hi,rfl⟩:=List.getElem_of_mem he;obtain⟨T,_,_,hp3⟩:=e3 i _;have g:(es.map (λe=>(e.1,e.2.1)))[i]?=(qs.map (λp=>(p.1,p.2.1)))[i]?:=by rw[m1]
   rw[Xn,Xn,X5 hi,X5 ⋯]at g;have g:=oq9 g;have g1:=congrArg Prod.fst g;have g2:es[i].2.1=(qs[i]'_).2.1:=congrArg Prod.snd g;rw[g1,g2];exact PuR.kp (as:=[]) (Kp.of_same sm) hp3
 ·have:b=l:=by simpa [Sl.own]using hb
  simp_all
end Q
namespace Q
open PySem PySem.Spec PyProof.Rows L2 L3 Sw
section
variable {X:Cx}{Z:Fx0}{K:Frag}{q:Bool}{a:Ex}{e ea:Expr}{σ:L2.St}{H:Hp}{pos p p2 b9:Pos}{x y:Str}{a7:LA9}{s:Shared}
def rLI(K:Frag):List V->Hp->VK->Prop:=λxs H Q=>∃p ns,xs=[.ref p]/\SqL K H p (ns.map V.int)/\ns.length<4000/\Q (.int (ddI ns).length) H
theorem qq6:Ad1 K (λv H Q=>rLI K [v] H Q) (pu1 Vx):=by
 intro H x s Q ok hf k;unfold pu1 Vx at hf;dsimp only at hf;cases hx:x.d with
 | lst ds=>
  rw[hx]at hf;dsimp only at hf;obtain⟨l,xs,bs,ev,q3,r3,_⟩:=items ok (.inl hx);have q3:LsR K H l xs:=by rcases q3 with⟨_,z⟩|⟨z,_⟩;exact z;rw[hx]at z;cases z
  cases hi:zW ds with
  | none=>rw[hi]at hf;cases hf
  | some ss=>
   rw[hi]at hf;dsimp only at hf
   split at hf
   ·rename_i hl;cases oq9 hf;have e1:=kqi hi r3;subst e1;exact⟨l,ss,by rw[ev],x9 q3,hl,k ⟨.dp,.int _,.int _,[]⟩ H rfl rfl Wx⟩
   ·cases hf
 |_=>rw[hx]at hf;cases hf
theorem kvm(hK:X.K=Z.K)(hc:X.calm=true)(ha:QV X Z q a ea)(hm:X.mg "len"=none)(sk:X.mg "set"=none)(hg:autoParam (Gl X "len") Ŕ)(js:autoParam (Gl X "set") Ŕ)(he:autoParam (starEach [ea] X.env=(false,eval ea X.env)::starEach [] X.env) Ŕ):
  QE X Z q (cF1 (pu1 Vx) a) (.Call (.Name "len" p) [.Call (.Name "set" p2) [ea] [] b9] [] pos):=
 k7 (t:=fun σ H Q=>tV Z q a σ H λv H1=>rLI X.K [v] H1 Q) (by
 intro a7 s σ H Q I h;refine Yq (xW I hg hm (u:=.builtin "len") rfl ?_ ⋯ ⋯);refine PyProof.Rows.callWith_builtin1 ?_ rfl rfl;show wpAny _ _ (spliced ((false,eval (.Call (.Name "set" p2) [ea] [] b9) X.env)::[])) _ _ s;refine Calls.spliced_cons ?_;refine Yq (xW I js sk (u:=.type "set") rfl ?_ ⋯ ⋯);refine Xx (thn (qW ha v8 he b9 a7 s σ H (λvs H1=>rLI X.K vs H1 Q) I h) λus s1 ⟨vs,H1,I1,r1,q1⟩=>?_) he rfl;obtain⟨b,ss,rfl,hq,hl,q⟩:=q1;obtain⟨u,rfl,rx⟩:=xK r1;cases rx;obtain⟨a8,r',pl,hz⟩:=I1.list hq;have ae:=r'.length;rw[X2]at ae hz;refine PySem.call_set_list (ns:=ss) (I1.ok.hd hc) pl.isList (by simpa using kkg r') (by simp;unfold scanBound;lia) λh' tk hS cy=>?_
 have I2:L2.Inv X a7 σ H1 {s1 with heap:=h',toks:=tk}:=I1.kept λb u q=>cy b u (Xd q) q
 obtain⟨o,es,ep,t,ho,hex,hd,hel,hmem,hb,hf,hn⟩:=hS;have hn2:es.size=(ddI ss).length:=by
  rw[hn,show a8.toArray.size=ss.length by simp;lia,wqk ss _ (X8 _),List.take_length];rfl
 refine Calls.spliced_nil (call_len_set ho hex hd hf (by unfold scanBound at hb;lia) ?_);exact⟨.int (ddI ss).length,H1,I2.kept (h':=h') λb u q=>q,by rw[hn2];exact⟨_,rfl⟩,q⟩) fun σ H Q h=>by
  have:=jxb (r:=λv H Q=>rLI Z.K [v] H Q) qq6 h;rw[hK];exact this
end
end Q
namespace Tl
open PySem PyProof.Rows SeqAt MeetsSeq MeetsSeq2 MeetsSeq3
theorem qwa(l b)(items af)(n n2)(dd dd2)(sl jr:Array (Option Value))(kk:Bool)(k:Nat):
  ∀ i:Nat,items.size - i=k->i<=items.size->i<=af.size->Meets (Builtin.«list.__eq__.loop» ⟨[.ref l,.ref b,rawInt i,rawInt 0],[]⟩)
   (λA R s=>s.heap.get? l=some {cls:=.type "list",dict:=dd,data:=.seq items n,slots:=sl}/\s.heap.get? b=some {cls:=.type "list",dict:=dd2,data:=.seq af n2,slots:=jr} /\
    Lx A.in1 s (items.toList.drop i) (af.toList.drop i) kk/\R (.ok (.ret (.bool kk))) s):=by
 induction k with
 | zero=>
  intro i hk h1 h2 prog w A R s h;obtain⟨hp,g,d,tk,os⟩:=s;obtain⟨hl,hb,he,h⟩:=h
  wp_walk using Xu hl,Xu hb
  have r6:items[((i:Nat):Int).toNat]?=none:=by simp;omega
  rw [r6]
  wp_walk using Xu hl,Xu hb
  show R (.ok (.ret (.bool (decide (items.size<af.size))))) _;have hd:items.toList.drop i=[]:=List.drop_eq_nil_of_le (by rw[X7];omega);rw [hd]at he;have:kk=decide (items.size<af.size):=by
   generalize kt:af.toList.drop i=ys at he;cases he with
   | nn=>
    have:=List.drop_eq_nil_iff.mp kt;rw[X7]at this;rw[Xh (by omega)]
   | nc y ys=>
    have:i<af.toList.length:=by
     rcases Nat.lt_or_ge i af.toList.length with h'|h'
     ·exact h'
     ·rw[List.drop_eq_nil_of_le h']at kt;cases kt
    rw[X7]at this;rw[Xf (by omega)]
  rw [<-this];exact h
 | succ k ih=>
  intro i hk h1 h2 prog w A R s h;obtain⟨hp,g,d,tk,os⟩:=s;obtain⟨hl,hb,he,h⟩:=h
  wp_walk using Xu hl,Xu hb
  have bh:i<items.size:=by omega
  have r6:items[((i:Nat):Int).toNat]?=some items[i]:=by simp[bh]
  have hd:items.toList.drop i=items[i]::items.toList.drop (i+1):=by simp[Z2,bh]
  have hc:((i:Int)+1)=((i+1:Nat):Int):=by push_cast;rfl
  by_cases hlt2:i<af.size
  ·have im:af[((i:Nat):Int).toNat]?=some af[i]:=by simp[hlt2]
   have dy:af.toList.drop i=af[i]::af.toList.drop (i+1):=by simp[Z2,hlt2]
   rw[hd,dy]at he;rw[r6,im];cases he with
   | eq e1 e2=>
    refine X0 (e1 prog w _ _ ?_)
    wp_walk
    rw[hc];exact⟨Z7 plain_eq_loop _,Yi entry_eq_loop (by
     rw[Yr plain_eq_loop _];exact ih (i+1) (by omega) (by omega) (by omega) prog w A R _ ⟨hl,hb,e2,h⟩)⟩
   |lt e1 e2=>
    refine X0 (e1 prog w _ _ ?_)
    wp_walk using Xu hl,Xu hb
    rw[r6,im];refine X0 (e2 prog w _ _ ?_)
    wp_walk
    exact h
  ·have im:af[((i:Nat):Int).toNat]?=none:=by simp;omega
   have dy:af.toList.drop i=[]:=List.drop_eq_nil_of_le (by rw[X7];omega);rw[hd,dy]at he;rw[r6,im]
   wp_walk using Xu hl,Xu hb
   show R (.ok (.ret (.bool (decide (items.size<af.size))))) _;cases he;rw[Xh (by omega)];exact h
theorem qwe(l b)(items af)(n n2)(dd dd2)(sl jr)(kk):
  Meets (Builtin.«list.__lt__» ⟨[.ref l,.ref b],[]⟩)
   (λA R s=>s.heap.get? l=some {cls:=.type "list",dict:=dd,data:=.seq items n,slots:=sl}/\s.heap.get? b=some {cls:=.type "list",dict:=dd2,data:=.seq af n2,slots:=jr} /\
    Lx A.in1 s items.toList af.toList kk/\R (.ok (.ret (.bool kk))) s):=by
 intro prog w A R s h;obtain⟨hp,g,d,tk,os⟩:=s;obtain⟨hl,hb,he,h⟩:=h;have f3:=AutoSeq1.sub_list_list
 wp_walk using Xu hl,Xu hb
 exact⟨Z7 plain_eq_loop _,Yi entry_eq_loop (by
  exact qwa l b items af n n2 dd dd2 sl jr kk _ 0 rfl (Y8 _) (Y8 _) prog w A R _ ⟨hl,hb,by simpa using he,h⟩)⟩
theorem vjd{A:Around}{s:Shared}{l b:Addr}{items af:Array Value}{k:Bool}(hl:s.heap.IsList l items)(hb:s.heap.IsList b af)(hu:A.units<cLine)(h:Lx A.in1 s items.toList af.toList k):V8 A s (.ref l) (.ref b) k:=λprog w E Q hq=>by
 have t1:=hl.typeIs;have t2:=hb.typeIs;obtain⟨⟨c1,d1,da1,s1⟩,f8,hc1,ig⟩:=hl;obtain⟨⟨c2,d2,da2,s2⟩,ho2,lu,dy⟩:=hb;obtain⟨n1,ig⟩:=ig;obtain⟨n2,dy⟩:=dy;cases hc1;cases ig;cases lu;cases dy;exact richCompare_meets_room (op:=.Lt) t1 t2 PySem.F.slot_list_lt PySem.F.entry_list_lt (PySem.F.args_list_lt_2 _ _) (qwe l b items af n1 n2 d1 d2 s1 s2 k) ⟨f8,ho2,h,⟨(λx=>nomatch x),hq⟩⟩ hu
end Tl
namespace Tl
open Q
def ZQ:D->Bool
 |.lst xs=>keyDs 5 xs|_=>false
end Tl
namespace Tl
open PySem PySem.W PyProof.Rows Srt Q
theorem qq1{h h'}(et:∀b ob,h.get? b=some ob->h'.get? b=some ob){d u}(k:ZQ d=true)(r:jw h d u):jw h' d u:=by
 cases d<;>first|(unfold ZQ at k;cases k)|skip
 unfold jw at r ⊢;obtain⟨a,us,e,⟨ob,dl,hc,gl⟩,hi⟩:=r;exact⟨a,us,e,⟨ob,et a ob dl,hc,gl⟩,creps_keep (λb ob _ _ hb _ _=>et b ob hb) k hi⟩
end Tl
namespace Q
open PySem PySem.Spec PyProof.Rows L2 L3 Sw Tw Tl
section
variable {X:Cx}{Z:Fx0}{K:Frag}{σ:L2.St}{H:Hp}{a7:LA9}{s:Shared}
theorem qv2{g}:∀{ds zs bs},RepA K H g ds zs bs->zs.length=ds.length/\∀i,i<ds.length->∃cs,RepL K H g (ds.getD i .non) (zs.getD i .non) cs/\∀b∈cs,b∈bs
 | [],zs,bs,r=>by
  obtain⟨rfl,_⟩:=r;exact⟨rfl,λi hi=>absurd hi (Nat.not_lt_zero _)⟩
 | d::ds,zs,bs,r=>by
  obtain⟨z,r',b1,b2,rfl,rfl,r1,r2⟩:=r;obtain⟨g1,g2⟩:=qv2 r2;refine⟨by simp[g1],λi hi=>?_⟩;cases i with
  |zero=>exact⟨b1,r1,λb hb=>ll9 _ hb⟩
  |succ i=>
   obtain⟨cs,h1,h2⟩:=g2 i (by simpa using hi);exact⟨cs,by simpa using h1,λb hb=>lr9 _ (h2 b hb)⟩
theorem kvh{g}{ds:List D}{zs:List V}{bs:List Addr}(h:∀i,i<ds.length->∃cs,RepL K H g (ds.getD i .non) (zs.getD i .non) cs/\∀b∈cs,b∈bs):∀p:List Nat,(∀i∈p,i<ds.length)->∃cs,RepA K H g (p.map λi=>ds.getD i .non) (p.map λi=>zs.getD i .non) cs/\∀b∈cs,b∈bs
 |[],_=>⟨[],⟨rfl,rfl⟩,λ_ z=>nomatch z⟩
 |i::p,hp=>by
  obtain⟨c1,e1,e2⟩:=h i (hp i X4);obtain⟨c2,f1,f2⟩:=kvh h p λj hj=>hp j (lc9 _ hj)
  refine⟨c1++c2,⟨_,_,c1,c2,rfl,rfl,e1,f1⟩,λb hb=>?_⟩;rcases aA hb with z|z
  ·exact e2 b z
  ·exact f2 b z
theorem kw2{d}(h:ZQ d=true):d.flat 6=true:=by
 cases d<;>first|(unfold ZQ at h;cases h)|skip
 unfold D.flat;exact keys_flat h
end
end Q
namespace Tl
open Q
def toP:D->D
 |.tup [.int n,.lst xs]=>.tup [.int n,.tup xs]|d=>d
def zQ:D->Bool
 |.tup [.int _,.lst xs]=>keyDs 5 xs|_=>false
def ltP(a b:D):Option Bool:=ltD (toP a) (toP b)
def YK(a:D):List D->List D
 |[]=>[a]|b::r=>if ltP b a=some true then b::YK a r else a::b::r
def JJ:List D->List D
 |[]=>[]|a::r=>YK a (JJ r)
def WY(ds:List D):Bool:=ds.all zQ&&ds.all λa=>ds.all λb=>(ltP a b).isSome
end Tl
namespace Q
open Tl
def Zv:Sd->Option Sd:=λx=>match x.2 with
 |.lst ds=>if kj x=true/\ds.length<64/\WY ds=true then some (.rt,.lst (JJ ds))else none|_=>none
def JX:D->Bool
 |.lst _=>true|_=>false
def Vj:Nat->Nat->D->Option D
 |0,_,d=>some d
 |n+1,k,d=>match D.at [k] d with
  |some (.tup [_,_,.lst es])=>if es.all JX=true then Vj n (k+1) (D.put (.lst []) [k,2] d)else none|_=>none
noncomputable def kvd(i r1 r2 r3 s:Nat)(p:List Nat):Sm:=λE=>match E[i]? with
 | some (some (.dp,d))=>(match D.at p d with
  |some (.lst ds)=>if r1<E.length/\r2<E.length/\r3<E.length/\s<E.length then(match Vj ds.length 0 (.lst ds)with
   |some d1=>some (.nx ((((((E.set i none).set r1 none).set r2 none).set r3 none).set s none).set i (some (.dp,D.put d1 p d))))
   |none=>none)else none
  |_=>none)
 |_=>none
def kvc(i s:Nat)(p:List Nat):Sm:=λE=>match E[i]? with
 |some (some (.dp,d))=>(match D.at p d with
  |some (.lst ds)=>if s<E.length/\ds.all JX=true then some (.nx ((E.set i none).set s none))else none
  |_=>none)
 |_=>none
end Q
namespace Tl
open PySem PySem.W PyProof.Rows Srt Q
theorem JW{a b}(ha:zQ a=true)(hb:zQ b=true):ltP a b=ltD (toP a) (toP b):=rfl
theorem V2{d}(h:zQ d=true):∃n xs,d=.tup [.int n,.lst xs]/\keyDs 5 xs=true:=by
 unfold zQ at h
 split at h
 ·exact⟨_,_,rfl,h⟩
 ·cases h
theorem vqv{a b}(ha:zQ a=true)(hb:zQ b=true)(h:toP a=toP b):a=b:=by
 obtain⟨n,xs,rfl,_⟩:=V2 ha;obtain⟨m,ys,rfl,_⟩:=V2 hb;injection h with h;injection h with h1 h;injection h with h2 _;injection h2 with h2;rw[h1,h2]
structure CmpP (ds:List D):Prop where
 k:∀d∈ds,zQ d=true
 c:∀a∈ds,∀b∈ds,∃k,ltP a b=some k
theorem wkq{ds}(h:WY ds=true):CmpP ds:=by
 unfold WY at h;rw[Bool.and_eq_true,Xy,Xy]at h;refine⟨h.1,λa ha b hb=>?_⟩;have:=List.all_eq_true.mp (h.2 a ha) b hb;exact Option.isSome_iff_exists.mp this
theorem CmpP.cmp{ds}(h:CmpP ds):Cmp (ds.map toP):=λa ha b hb=>by
 obtain⟨x,hx,rfl⟩:=aE ha;obtain⟨y,hy,rfl⟩:=aE hb;rw[<-JW (h.k x hx) (h.k y hy)];exact h.c x hx y hy
abbrev LeP(a b:D):Prop:=ltP b a≠some true
theorem jxr(a):∀r,(YK a r).Perm (a::r)
 |[]=>.refl _
 |b::r=>by
  unfold YK
  split
  ·exact((jxr a r).cons b).trans (.swap _ _ _)
  ·exact .refl _
theorem jv1:∀r,(JJ r).Perm r
 |[]=>.refl _|a::r=>(jxr a _).trans ((jv1 r).cons a)
theorem qwj{ds}(h:CmpP ds){a b c}(ha:a∈ds)(hb:b∈ds)(hc:c∈ds)(h1:LeP a b)(h2:LeP b c):LeP a c:=λz=>by
 unfold LeP at h1 h2;rw[JW (h.k _ hb) (h.k _ ha)]at h1;rw[JW (h.k _ hc) (h.k _ hb)]at h2;rw[JW (h.k _ hc) (h.k _ ha)]at z;obtain⟨k,hk⟩:=h.c c hc b hb;rw[JW (h.k _ hc) (h.k _ hb)]at hk;cases k with
 |true=>exact h2 hk
 |false=>
  by_cases e:toP c=toP b
  ·rw[e]at z;exact h1 z
  ·exact h1 (lt_trans (qje hk e) z)
theorem qjo{ds}(h:CmpP ds){a}(ha:a∈ds):∀{r},(∀b∈r,b∈ds)->r.Pairwise LeP->(YK a r).Pairwise LeP
 | [],_,_=>List.pairwise_singleton _ _
 | b::r,hr,hp=>by
  obtain⟨h1,h2⟩:=List.pairwise_cons.mp hp;have hb:=hr b X4;unfold YK
  split
  ·rename_i hl;refine List.pairwise_cons.mpr ⟨λc hc=>?_,qjo h ha (λx hx=>hr x (lc9 _ hx)) h2⟩;rcases aD ((jxr a r).mem_iff.mp hc)with rfl|hc
   ·intro z;rw[JW (h.k _ hb) (h.k _ ha)]at hl;rw[JW (h.k _ ha) (h.k _ hb),kqf hl]at z
    grind
   ·exact h1 c hc
  ·rename_i hl;refine List.pairwise_cons.mpr ⟨λc hc=>?_,hp⟩;rcases aD hc with rfl|hc
   ·exact hl
   ·exact qwj h ha hb (hr c (lc9 _ hc)) hl (h1 c hc)
theorem kv5{ds}(h:CmpP ds):∀{r},(∀b∈r,b∈ds)->(JJ r).Pairwise LeP
 |[],_=>.nil
 |a::r,hr=>by
  unfold JJ;exact qjo h (hr a X4) (λb hb=>hr b (lc9 _ ((jv1 r).mem_iff.mp hb))) (kv5 h λb hb=>hr b (lc9 _ hb))
theorem kv6{ds p}(h:CmpP ds)(hp:p.Perm ds)(hw:p.Pairwise LeP):p=JJ ds:=
 List.Perm.eq_of_pairwise (λa b ha hb h1 h2=>by
  have ha:=hp.mem_iff.mp ha;have hb:=(jv1 ds).mem_iff.mp hb;have ka:=h.k _ ha;have kb:=h.k _ hb;unfold LeP at h1 h2;rw[JW kb ka]at h1;rw[JW ka kb]at h2
  by_cases e:toP a=toP b
  ·exact vqv ka kb e
  ·rcases kwl h.cmp (List.mem_map.mpr ⟨a,ha,rfl⟩) (List.mem_map.mpr ⟨b,hb,rfl⟩) e with z|z
   ·exact absurd z h2
   ·exact absurd z h1) hw (kv5 h λ_ z=>z) (hp.trans (jv1 ds).symm)
structure LP (h:Heap)(vs:List Value)(ds:List D):Prop where
 len:vs.length=ds.length
 at':∀(i:Nat) v d,vs[i]?=some v->ds[i]?=some d->jw h d v/\zQ d=true
theorem qq0{h h'}(et:∀b ob,h.get? b=some ob->h'.get? b=some ob){d u}(k:zQ d=true)(r:jw h d u):jw h' d u:=by
 obtain⟨n,xs,rfl,hk⟩:=V2 k;obtain⟨a,us,e,⟨ob,dl,hc,gl⟩,u1,r1,rfl,h1,u2,r2,rfl,h2,h3⟩:=r;exact⟨a,_,e,⟨ob,et a ob dl,hc,gl⟩,u1,_,rfl,h1,u2,_,rfl,qq1 et (show ZQ (.lst xs)=true from hk) h2,h3⟩
theorem LP.keep{h h' vs ds}(t:LP h vs ds)(et:∀b ob,h.get? b=some ob->h'.get? b=some ob):LP h' vs ds:=⟨t.len,λi v d e1 e2=>by
 obtain⟨g1,g2⟩:=t.at' i v d e1 e2;exact⟨qq0 et g2 g1,g2⟩⟩
theorem LP.tail{h v vs d ds}(t:LP h (v::vs) (d::ds)):LP h vs ds:=⟨by have:=t.len;simpa using this,λi v d e1 e2=>t.at' (i+1) v d e1 e2⟩
theorem LP.kat{h}:∀{vs ds},LP h vs ds->∃fs,KatTups h vs fs/\fs.length=vs.length/\∀v∈fs,∃x t,v=Value.int x t
 |[],_,_=>⟨[],.nil,rfl,λv h=>nomatch h⟩|v::vs,[],t=>by have:=t.len;simp at this
 |v::vs,d::ds,t=>by
  obtain⟨hr,hk⟩:=t.at' 0 v d rfl rfl;obtain⟨n,xs,rfl,_⟩:=V2 hk;obtain⟨fs,g1,g2,g3⟩:=LP.kat t.tail;obtain⟨a,us,rfl,⟨ob,dl,hc,nn,gl⟩,hi⟩:=hr;obtain⟨u,rr,rfl,hu,_⟩:=hi;obtain⟨tk,rfl⟩:=hu;refine⟨.int n tk::fs,.cons dl hc gl rfl g1,by simp[g2],λv hv=>?_⟩;rcases aD hv with rfl|hv
  ·exact⟨_,_,rfl⟩
  ·exact g3 v hv
section
variable {prog:Program}{w:PySem.World}{A:Around}{E:VP9}{s:Shared}
theorem wzg{vs ds i j C b}(hu:A.units+20<cLine)(t:LP s.heap vs ds) hi hj (hb:ltP (ds[i]'(by rw[<-t.len];exact hi)) (ds[j]'(by rw[<-t.len];exact hj))=some b)(h:C b s):kas_ask prog w A (tuples' true) vs i j C s:=by
 have li:i<ds.length:=by rw[<-t.len];exact hi
 have lj:j<ds.length:=by rw[<-t.len];exact hj
 unfold kas_ask;have ei:vs.getD i Value.none=vs[i]:=by simp[hi]
 have ej:vs.getD j Value.none=vs[j]:=by simp[hj]
 rw[ei,ej];obtain⟨c1,k1⟩:=t.at' i _ _ (X5 hi) (X5 li);obtain⟨c2,k2⟩:=t.at' j _ _ (X5 hj) (X5 lj);obtain⟨x1,r1,f1,q1⟩:=V2 k1;obtain⟨x2,r2,f2,q2⟩:=V2 k2;rw[f1,f2]at hb;rw[f1]at c1;rw[f2]at c2;obtain⟨a1,us1,e1,⟨o1,f8,hc1,n1,ig⟩,u1,v1,rfl,p1,w1,z1,rfl,m1,m1'⟩:=c1;obtain⟨a2,us2,e2,⟨o2,ho2,lu,n2,dy⟩,u2,v2,rfl,p2,w2,z2,rfl,m2,m2'⟩:=c2;cases(show z1=[]from m1');cases(show z2=[]from m2');rw[e1,e2];obtain⟨t1,rfl⟩:=p1;obtain⟨t2,rfl⟩:=p2;refine kat_lt f8 ig ho2 dy (kat_cons (wpAny_eqBool_int ?_));unfold ltP toP ltD ltDs at hb
 by_cases e:x1=x2
 ·subst e;rw[X6 rfl]at hb;rw[Z8];refine kat_yes (vkz (b:=b) ?_ h (by simp));have he:=KK 6 (A:=A) (kw2 (d:=.lst r1) q1) m1 m2 ⋯;rw[show peq (.lst r1) (.lst r2)=decide (r1=r2)from keys_peq q1 q2]at he;unfold ltDs at hb
  by_cases e:r1=r2
  ·subst e;rw[X6 rfl]at hb;cases oq9 hb;rw[Xf rfl]at he;exact .eq he .nn
  ·rw[Xa (λz=>e (by injection z))]at hb;rw[Xh e]at he;obtain⟨l1,vs1,rfl,g1,i1⟩:=m1;obtain⟨l2,vs2,rfl,g2,i2⟩:=m2;exact .lt he (vjd g1 g2 ⋯ (vwd ⋯ (λ_ _ _ _ _ a1 a2 a3 a4 a5=>xj4 5 a1 a2 a3 a4 ⋯ a5) _ _ _ _ _ q1 q2 i1 i2 hb))
 ·rw[Xa (λz=>e (by injection z))]at hb;cases oq9 hb;rw[Zc e];exact kat_no (oneLt_int h)
end
section
variable {prog:Program}{w:PySem.World}{A:Around}{E:VP9}{s:Shared}{vs:List Value}{ds:List D}{a:Addr}{n:Nat}{P:Fin->Shared->Prop}
theorem kxo{h0}(hu:A.units+20<cLine)(ho:s.heap.get? a=some (seqObj "list" vs.toArray n))(ht:LP h0 vs ds)(h0k:∀b ob,h0.get? b=some ob->b≠a/\s.heap.get? b=some ob)(hc:CmpP ds)(ql:vs.length<64)
  (h:∀p:List Nat,p.Perm (List.range vs.length)->(p.map λi=>ds.getD i .non)=JJ ds->P (.done (.ret .none)) {s with heap:=sortedHeap s.heap a vs (p.map λi=>vs.getD i .none).toArray}):
  wpAny (model prog w) A (Builtin.«list.sort» ⟨[.ref a],[]⟩) P E s:=by
 have tf:LP (((s.heap.update a (Obj.mapSeq λ_=>#[])).push (seqObj "tuple" vs.toArray 0)).push (seqObj "list" #[] 0)) vs ds:=ht.keep λb ob hb=>X1 _ (X1 _ (by
  rw[Z6 _ _ (h0k b ob hb).1.symm];exact(h0k b ob hb).2))
 have hnn:=ht.len.symm;have gd:∀i (hi:i<vs.length),ds.getD i .non=ds[i]'⋯:=λi hi=>by simp[show i<ds.length by lia]
 have gm:∀i,i<vs.length->ds.getD i .non∈ds:=λi hi=>by rw[gd i hi];exact Xz _
 have rki:∀i j,i<vs.length->j<vs.length->ltP _ _=some _:=λi j hi hj=>by
  rw[JW (hc.k _ (gm i hi)) (hc.k _ (gm j hj))];exact vv6 hc.cmp (List.mem_map.mpr ⟨_,gm i hi,rfl⟩) (List.mem_map.mpr ⟨_,gm j hj,rfl⟩)
 have fin:∀p:List Nat,p.Perm (List.range vs.length)->(p.map λi=>rk (ds.map toP) (toP (ds.getD i .non))).Pairwise (·<=·)->_=JJ ds:=λp hp sw=>by
  have pp:(p.map λi=>ds.getD i .non).Perm ds:=by
   refine(hp.map _).trans (.of_eq ?_);rw[<-hnn];exact Tb.rng_getD ds .non
  refine kv6 hc pp ?_;rw[Yn]at sw ⊢;refine List.Pairwise.imp_of_mem (fun {i j} hi hj le=>?_) sw;have hi:=List.mem_range.mp (hp.mem_iff.mp hi);have hj:=List.mem_range.mp (hp.mem_iff.mp hj);unfold LeP;rw[rki j i hj hi,Xh ⋯];simp
 refine kjc (κ:=tuples' true) (key:=λi=>rk (ds.map toP) (toP (ds.getD i .non))) ho ql (λh2 Q hq=>?_) (λi j C hi hj hC=>wzg hu tf hi hj (by
    have:=rki i j hi hj;rw[<-gd i hi,<-gd j hj];exact this) hC) fin h
 obtain⟨fs,g1,g2,g3⟩:=tf.kat;refine kat_kind (T:=.type "int") g1 ⋯ (λv hv=>?_) rfl ?_
 ·obtain⟨x,t,rfl⟩:=g3 v hv;exact .now
 have eb:(Value.type "int" != Value.type "tuple")=true:=⋯
 exact hq
end
end Tl
namespace Q
open PySem PySem.Spec PyProof.Rows L2 L3 Sw Tw Tl
section
variable {X:Cx}{Z:Fx0}{K:Frag}{σ:L2.St}{H:Hp}{a7:LA9}{s:Shared}
theorem qwv{d}(h:zQ d=true):d.flat 7=true:=by
 obtain⟨n,xs,rfl,k⟩:=V2 h;have:(D.lst xs).flat 6=true:=kw2 (d:=.lst xs) k;simp[D.flat,D.flats]at this ⊢;exact this
noncomputable def rSP(K:Frag):List V->Hp->VK->Prop:=λxs H Q=>∃(p:Addr) (zs:List V) (ds:List D) (bs:List Addr),xs=[.ref p]/\SqL K H p zs/\RepA K H true ds zs bs/\(ds.length<64/\WY ds=true)/\∀l my bp,H l=none->RepA K H true (JJ ds) my bp->(∀b∈bp,b∈bs)->Q (.ref l) (upd H l (.lst my))
theorem qq2(hu:X.A.units+64<cLine):CallR X (.builtin "sorted") (rSP X.K):=by
 intro a7 s σ H xs us Q I r h;obtain⟨b,zs,ds,bs,rfl,hq,rA,⟨hl,hok⟩,q⟩:=h;obtain⟨u,rfl,rx⟩:=xK r;cases rx;obtain⟨a8,r',pl,hz⟩:=I.list hq;have cm:=wkq hok;obtain⟨zl,at'⟩:=qv2 rA;have ln:a8.length=ds.length:=by rw[<-r'.length];exact zl
 have ht:LP s.heap a8 ds:=⟨ln,λi v d e1 e2=>by
  have k:=cm.k d (Xs e2);have hi:=(List.getElem?_eq_some_iff.mp e2).1;obtain⟨cs,g1,_⟩:=at' i hi;have iw:i<zs.length:=by rw[zl];exact hi
  obtain⟨u,ld,hu2⟩:=r'.get (X5 iw);rw[e1]at ld;cases oq9 ld;have ed:ds.getD i .non=d:=by rw[Yf,e2];rfl
  have ez:zs.getD i .non=zs[i]:=by simp[iw]
  rw[ed,ez]at g1;exact⟨Q1 I g1 (qwv k) hu2,k⟩⟩
 refine Calls.call_function_entry kind_sorted plain_sorted entry_sorted (args_sorted1 _) ?_;refine X0 (m:=checkCount "sorted" 1 1 _) (X3 ?_);refine X0 (collect_list pl.isList ?_ (by rw[ln,Yp];lia));refine X0 (wpAny_newList ?_ (by rw[ln,Yp];lia));have hsz:((s.heap.push (seqObj "list" #[] 0)).update s.heap.objs.size (Obj.mapSeq (·++a8.toArray))).objs.size=s.heap.objs.size+1:=by
  rw[Heap.size_update,size_push']
 obtain⟨hS,hSe⟩:∃hS,((s.heap.push (seqObj "list" #[] 0)).update s.heap.objs.size (Obj.mapSeq (·++a8.toArray))).push (seqObj "list" a8.toArray 0)=hS:=⟨_,rfl⟩;have lm:hS.get? (s.heap.objs.size+1)=some (seqObj "list" a8.toArray 0):=by
  rw[<-hSe,<-hsz];exact Xe _ rfl
 have keep:∀b o,s.heap.get? b=some o->hS.get? b=some o:=λb o q=>by
  have bh:=Xd q;rw[<-hSe,Heap.get?_push_ne _ _ _ (by rw[hsz];exact Xj (Ym bh)),Yz _ _ _ _ (Xj bh),Heap.get?_push_ne _ _ _ (Xj bh)];exact q
 have hzz:hS.objs.size=s.heap.objs.size+2:=by rw[<-hSe,Heap.size_push,hsz]
 rw[hsz,hSe];refine X0 (Y4 (Y1 slot_list_sort ⟨_,lm,rfl⟩ entry_list_sort (kxo ⋯ lm ht (λb ob hb=>⟨Xj (Ym (Xd hb)),keep b ob hb⟩) cm (by rw[ln];exact hl) λp hpm hps=>⟨_,rfl,?_⟩) (args_list_sort _)));obtain⟨e,he⟩:=sortedHeap_at (out:=(p.map λi=>a8.getD i .none).toArray) lm;have qt:∀i∈p,i<a8.length:=λi hi=>List.mem_range.mp (hpm.mem_iff.mp hi)
 obtain⟨cs,c1,c2⟩:=kvh at' p λi hi=>by rw[<-ln];exact qt i hi
 rw[hps]at c1;have hv:Vals (p.map λi=>zs.getD i .non) (p.map λi=>a8.getD i .none):=kkq (by simp) λi x u e1 e2=>by
  rw[Xn]at e1 e2;cases hp:p[i]? with
  |none=>grind
  |some j=>
   rw[hp]at e1 e2;have hj:=qt j (Xs hp);have iw:j<zs.length:=⋯
   obtain⟨u,ld,hu2⟩:=r'.get (X5 iw);have e3:a8.getD j .none=u:=by rw[Yf,ld];rfl
   have e4:zs.getD j .non=zs[j]:=by simp[iw]
   grind
 have nr:∀b o,s.heap.get? b=some o->(sortedHeap hS (s.heap.objs.size+1) a8 (p.map λi=>a8.getD i .none).toArray).get? b=some o:=λb o q=>by
  have hb:=Xd q;rw[sortedHeap_old (Xj (Ym hb)) (by rw[hzz];exact Ym (Ym hb))];exact keep b o q
 refine X3 ⟨_,rfl,⟨.ref (s.heap.objs.size+1),_,I.laid (t':=s.toks) (o:=.lst (p.map λi=>zs.getD i .non)) nr (Nat.le_succ _) ?_,rfl,q _ _ _ (I.hok.fresh (Nat.le_succ _)) c1 c2⟩⟩;refine⟨?_,(p.map λi=>a8.getD i .none),e,hv,he⟩;rw[X2,hpm.length_eq,Xv,ln,Yp];lia
theorem wzh:Ad1 K (λv H Q=>rSP K [v] H Q) Zv:=by
 intro H x s Q ok hf k;unfold Zv at hf;dsimp only at hf;cases hx:x.d with
 | lst ds=>
  rw[hx]at hf;dsimp only at hf
  split at hf
  ·rename_i n0;cases oq9 hf;obtain⟨l,xs,bs,ev,q3,r3,h3⟩:=xw ok (.inl hx) (hx▸n0.1);have q3:LsR K H l xs:=by rcases q3 with⟨_,z⟩|⟨z,_⟩;exact z;rw[hx]at z;cases z
   exact⟨l,xs,ds,bs,by rw[ev],x9 q3,r3,n0.2,λp my bp hp rp hb=>k _ _ rfl rfl (J4 hp rp λb df=>h3 b (hb b df))⟩
  ·cases hf
 |_=>rw[hx]at hf;cases hf
theorem qxu(hu:X.A.units+64<cLine) K (hK:autoParam (X.K=K) Ŕ):CallR X (.builtin "sorted") (rSP K):=by subst hK;exact qq2 hu
end
end Q
namespace Q
open PySem PySem.Spec PyProof.Rows L2 L3
section
variable {X:Cx}{Z:Fx0}{pn:List Nat}{ep:Expr}{i:Nat}{p:List Nat}{pos:Pos}
noncomputable def wwg(K:Frag)(rc:Nat)(p:List Nat)(s:Nat):TS:=λDe σ H=>∃(E0:En) (L0:Ls) (y:Sl) (es:List Q.D) (d0:Q.D) (v0:V),Mt E0 σ L0/\E0[s]?=some none/\L0[s]?=some none/\World K H (some y::L0)/\y.o=.dp/\y.d=.lst es/\es.all JX=true/\σ[rc]?=some (some v0)/\PV K H p d0 v0 y.v/\s < σ.length /\
 ∀ σ' H' (z:Sl) (es':List Q.D),Mt E0 σ' L0->World K H' (some z::L0)->z.o=.dp->z.d=.lst es'->z.v=y.v->Step H (some y::L0) H' (some z::L0)->(∀n,n≠s->σ'[n]?=σ[n]?)->σ'.length=σ.length->De.nx σ' H'
theorem vxk{es:List Q.D}(h:es.all JX=true)(k):(es.set k (.lst [])).all JX=true:=by
 rw[Xy]at h ⊢;intro x hx;rcases List.mem_or_eq_of_mem_set hx with hx|rfl
 ·exact h x hx
 ·rfl
theorem vks{rc s:Nat}{tg es:Expr}(hp:PassesOwn (model X.prog X.w) X.A X.env X.xe)(hcm:X.calm=true)(hP:PE X ep (tP Z.K rc p))(hg:PG X tg (Q3 s))(hS:PE X es (xj s))(hK:autoParam (X.K=Z.K) Ŕ)(hm:MtR X "list.clear" kvk){ah aa c9 jn:Pos}
  (au:autoParam (attributeBase es "clear" X.env (eval es X.env)=eval es X.env) Ŕ) (aq:autoParam ((ah.endLine==aa.line)=true) Ŕ)
  (i7:autoParam (swapsWith (.Call (.Attribute es "clear" ah) [] [] aa) none c9.line X.env=pure false) Ŕ) (ph:autoParam (∀x,foldedSetIterable ep X.env x=pure x) Ŗ):
  PS X (.For tg ep [.Expr (.Call (.Attribute es "clear" ah) [] [] aa) c9] [] jn) (wwg Z.K rc p s):=
 zq (qvm hp hcm (qvr hP) hg (kx8 (kj4 (kxb Z.K Z4 PySem.F.slot_list_clear PySem.F.type_list_clear hm hS au aq hK) i7)) ph) λDe σ H hz=>by
 obtain⟨E0,L0,y,md,d0,v0,m0,hE,hL,w0,y1,y2,y3,hs0,hpv,o8,k⟩:=hz;obtain⟨l,xs0,bs,c1,c2,_,_,c5⟩:=kwi (w0.ok y X4) y2 y1;refine⟨d0,v0,y.v,hs0,hpv,l,c1,⟨xs0,.inl (.inl c2)⟩,?_⟩;refine⟨λk0 n σ1 H1=>∃(z:Sl) (cf:List Q.D),k0<=md.length/\n=md.length - k0/\Mt E0 σ1 L0/\World Z.K H1 (some z::L0)/\z.o=.dp/\z.d=.lst cf/\z.v=y.v/\Step H (some y::L0) H1 (some z::L0)/\cf.all JX=true/\cf.length=md.length/\(∀n,n≠s->σ1[n]?=σ[n]?)/\σ1.length=σ.length,
  ⟨_,y,md,Y8 _,rfl,m0,w0,y1,y2,rfl,Step.refl,y3,rfl,λ_ _=>rfl,rfl⟩,?_⟩
 rintro k0 n σ1 H1 ⟨z,cw,hk,rfl,m1,w1,z1,z2,z3,iu,en,iq,fc,hσl⟩;obtain⟨l',xs,bp,d1,d2,_,_,d5⟩:=kwi (w1.ok z X4) z2 z1;have hll:l'=l:=by rw[z3,c1]at d1;exact(V.ref.inj d1).symm
 subst hll;have hxl:xs.length=md.length:=by rw[<-d5.len,iq]
 by_cases bh:k0<md.length
 ·refine .inr ⟨⟨xs,xs[k0]'⋯,.inl (.inl d2),X5 _⟩,fun σ2 H2=>∃m',m'<md.length - k0/\_,fun σ' H' h=>h,λx H' hy=>?_⟩;obtain⟨rfl,hyx⟩:=hy;have hx:xs[k0]?=some x:=hyx xs (.inl (.inl d2));have hd:∃cf,cw[k0]?=some (.lst cf):=by
   have oi:k0<cw.length:=⋯
   have:=List.all_eq_true.mp en _ (Xz oi);unfold JX at this
   split at this
   ·rename_i e1 he;exact⟨e1,by rw[X5 oi,he]⟩
   ·cases this
  obtain⟨cf,oq⟩:=hd;have mx:Q.D.at [k0] (.lst cw)=some (.lst cf):=by
   show(match cw[k0]? with|some d=>Q.D.at [] d|none=>none)=_;rw[oq];rfl
  have b6:Q.D.put (.lst []) [k0] (.lst cw)=.lst (cw.set k0 (.lst [])):=by
   show(match cw[k0]? with|some d=>Q.D.lst (cw.set k0 (Q.D.put (.lst []) [] d))|none=>_)=_;rw[oq];rfl
  obtain⟨y2',g1,g2,g3,g4,g5⟩:=w1.hole z1 (by rw[z2];exact mx);rw[z2]at g3;obtain⟨la,xs2,x2,dx,t1,t2,t3,⟨t4,_⟩,t5⟩:=g3;have u1:la=l':=by rw[d1]at t1;exact(V.ref.inj t1).symm
  subst u1;have u2:xs2=xs:=by rw[d2]at t2;cases t2;rfl
  subst u2;have u3:x2=x:=by rw[hx]at t3;exact(oq9 t3).symm
  subst u3;have t5:y2'.v=x2:=t5;obtain⟨l3,xs3,j1,j2,zn,n1,n2,n3,n4,n5⟩:=World.clr g4 g1 g2;obtain⟨z',o1,o2,o3,o4,o5⟩:=g5 _ _ zn n4 n5 n1 n3;have sg:(σ1.set s (some x2))[s]?=some (some x2):=Y3 ⋯;refine⟨x2,sg,by rw[<-t5,j1];exact qqk j2,l3,xs3,by rw[<-t5];exact j1,rfl,j2,?_⟩;exact⟨md.length - (k0+1),⋯,z',cw.set k0 (.lst []),⋯,rfl,jzp hE hL _ m1,o4,o1,by rw[o2,n2,z2];exact b6,o3.trans z3,iu.trans o5,vxk en _,by rw[Z0];exact iq,λn hn=>by rw[Xw hn.symm];exact fc n hn,by rw[Z0];exact hσl⟩
 ·refine .inl ⟨⟨xs,.inl (.inl d2),⋯⟩,?_⟩;exact k σ1 H1 z cw m1 w1 z1 z2 z3 iu fc hσl
theorem vvd{s:Nat}{tg es:Expr}(hp:PassesOwn (model X.prog X.w) X.A X.env X.xe)(hcm:X.calm=true)(hP:PE X ep (tP Z.K i p))(hg:PG X tg (Q3 s))(hS:PE X es (xj s))(hK:autoParam (X.K=Z.K) Ŕ)(hm:MtR X "list.clear" kvk){ah aa c9 jn:Pos}
  (hs:autoParam (s≠i) ŕ) (hpn:autoParam (s∉pn) ŕ)
  (au:autoParam (attributeBase es "clear" X.env (eval es X.env)=eval es X.env) Ŕ) (aq:autoParam ((ah.endLine==aa.line)=true) Ŕ)
  (i7:autoParam (swapsWith (.Call (.Attribute es "clear" ah) [] [] aa) none c9.line X.env=pure false) Ŕ) (ph:autoParam (∀x,foldedSetIterable ep X.env x=pure x) Ŗ):
  QS X Z pn (kvc i s p) (.For tg ep [.Expr (.Call (.Attribute es "clear" ah) [] [] aa) c9] [] jn):=
 zq (vks hp hcm hP hg hS hK hm au aq i7 ph) λDe σ H aj=>ex7 aj λE L rr m w bj k=>by
 unfold kvc at bj
 split at bj
 rotate_left
 ·cases bj
 rename_i d hE
 split at bj
 rotate_left
 ·cases bj
 rename_i ds fi
 split at bj
 rotate_left
 ·cases bj
 rename_i hrE;cases oq9 bj;obtain⟨y,a1,a2,a3,a4⟩:=m.get hE;obtain⟨w0,s0⟩:=jzi w a1;obtain⟨wa,sa⟩:=World.out1 s w0.tail;obtain⟨w0,s0'⟩:=wqh (T:=[some y]) w0 sa wa;have s0:=s0.trans s0';have ml:=m.len;obtain⟨y1,b1,b2,b3,b4,b5⟩:=World.hole w0 a2 (by rw[a3];exact fi);refine⟨(E.set i none).set s none,(L.set i none).set s none,y1,ds,y.d,y.v,Kw s (Kw i m),Y3 (by simpa using hrE.1),Y3 (by simp;lia),b4,b1,b2,hrE.2,a4,b3,by rw[<-ml.1];exact hrE.1,fun σ' H' z es' m1 w1 z1 z2 z3 iu hn hl=>?_⟩;obtain⟨y',g1,g2,g3,g4,g5⟩:=b5 _ _ z w1 iu z1 z3;have hLi:((L.set i none).set s none)[i]?=some none:=by
  rw[Xw hs,Y3];have:=List.getElem?_eq_some_iff.mp hE;have:=this.1;lia
 obtain⟨wz,sz⟩:=World.out1 i (g4.set (i:=i));rw[List.set_set,Jj hLi]at wz sz;exact k σ' _ _ (λq hq=>hn q λe=>hpn (e▸hq)) m1 wz (s0.trans (g5.trans (Step.set.trans sz)))
theorem vve{r1 r2 r3 s:Nat}{tg es ec oe tg2:Expr}(hp:PassesOwn (model X.prog X.w) X.A X.env X.xe)(hcm:X.calm=true)(hP:PE X ep (tP Z.K i p))(hg:PG X tg (wvy Z.K 3 (gNs [r1,r2,r3])))(hC:PE X ec (xj r3))(js:PG X tg2 (Q3 s))(hS:PE X es (xj s))(hC2:PE X oe (xj r3))(hK:autoParam (X.K=Z.K) Ŕ)(hm:MtR X "list.clear" kvk){ah aa c9 jn kh jy ma tu:Pos}
  (h1:autoParam (r1≠i) ŕ) (h2:autoParam (r2≠i) ŕ) (h3:autoParam (r3≠i) ŕ) (h4:autoParam (s≠i) ŕ) (h5:autoParam (r3≠s) ŕ) (hpn1:autoParam (r1∉pn) ŕ) (hpn2:autoParam (r2∉pn) ŕ) (hpn3:autoParam (r3∉pn) ŕ) (hpn4:autoParam (s∉pn) ŕ)
  (au:autoParam (attributeBase es "clear" X.env (eval es X.env)=eval es X.env) Ŕ) (aq:autoParam ((ah.endLine==aa.line)=true) Ŕ)
  (i7:autoParam (swapsWith (.Call (.Attribute es "clear" ah) [] [] aa) none c9.line X.env=pure false) Ŕ) (ph:autoParam (∀x,foldedSetIterable ep X.env x=pure x) Ŗ)
  (mq:autoParam (attributeBase oe "clear" X.env (eval oe X.env)=eval oe X.env) Ŕ) (nu:autoParam ((kh.endLine==jy.line)=true) Ŕ)
  (hsw2:autoParam (swapsWith (.Call (.Attribute oe "clear" kh) [] [] jy) none ma.line X.env=pure false) Ŕ) (hfs2:autoParam (∀x,foldedSetIterable ec X.env x=pure x) Ŗ):
  QS X Z pn (kvd i r1 r2 r3 s p) (.For tg ep [.For tg2 ec [.Expr (.Call (.Attribute es "clear" ah) [] [] aa) c9] [] tu,.Expr (.Call (.Attribute oe "clear" kh) [] [] jy) ma] [] jn):=
 zq (qvm hp hcm (qvr hP) hg (kzy (vks (Z:=Z) (p:=[]) hp hcm (kj3 Z.K hC) js hS hK hm au aq i7 hfs2) (kx8 (kj4 (kxb Z.K Z4 PySem.F.slot_list_clear PySem.F.type_list_clear hm hC2 mq nu hK) hsw2))) ph) λDe σ H aj=>ex7 aj λE L rr m w bj k=>by
 unfold kvd at bj
 split at bj
 rotate_left
 ·cases bj
 rename_i d hE
 split at bj
 rotate_left
 ·cases bj
 rename_i ds fi
 split at bj
 rotate_left
 ·cases bj
 rename_i hrE;obtain⟨q1,q2,q3,q4⟩:=hrE
 split at bj
 rotate_left
 ·cases bj
 rename_i de hea;cases oq9 bj;obtain⟨y,a1,a2,a3,a4⟩:=m.get hE;obtain⟨w0,s0⟩:=jzi w a1;have m0:=Kw s (Kw r3 (Kw r2 (Kw r1 (Kw i m))));obtain⟨wa,sa⟩:=World.out1 r1 w0.tail;obtain⟨wb,sb⟩:=World.out1 r2 wa;obtain⟨wc,sc⟩:=World.out1 r3 wb;obtain⟨wd,sd⟩:=World.out1 s wc;obtain⟨w0,s0'⟩:=wqh (T:=[some y]) w0 (((sa.trans sb).trans sc).trans sd) wd;have s0:=s0.trans s0';have ml:=m.len;have stay:∀{α:Type} {l:List (Option α)} {n c:Nat},l[n]?=some none->(l.set c none)[n]?=some none:=fun {α l n c} h=>by
  by_cases e:c=n
  ·rw[e,Y3 (List.getElem?_eq_some_iff.mp h).1]
  ·rw[Xw e,h]
 have gy:∀{α:Type} {l:List (Option α)} {n:Nat},n<l.length->(l.set n none)[n]?=some none:=fun {α l n} h=>Y3 h
 have e1:(((((E.set i none).set r1 none).set r2 none).set r3 none).set s none)[r1]?=some none:=stay (stay (stay (gy (by simpa using q1))));have e2:(((((E.set i none).set r1 none).set r2 none).set r3 none).set s none)[r2]?=some none:=stay (stay (gy (by simpa using q2)));have e3:(((((E.set i none).set r1 none).set r2 none).set r3 none).set s none)[r3]?=some none:=stay (gy (by simpa using q3));have e4:(((((E.set i none).set r1 none).set r2 none).set r3 none).set s none)[s]?=some none:=gy (by simpa using q4);have f1:(((((L.set i none).set r1 none).set r2 none).set r3 none).set s none)[r1]?=some none:=stay (stay (stay (gy (by simp;lia))));have f2:(((((L.set i none).set r1 none).set r2 none).set r3 none).set s none)[r2]?=some none:=stay (stay (gy (by simp;lia)));have f3:(((((L.set i none).set r1 none).set r2 none).set r3 none).set s none)[r3]?=some none:=stay (gy (by simp;lia));have f4:(((((L.set i none).set r1 none).set r2 none).set r3 none).set s none)[s]?=some none:=gy (by simp;lia);generalize hL0:((((L.set i none).set r1 none).set r2 none).set r3 none).set s none=L0 at *;generalize hE0:((((E.set i none).set r1 none).set r2 none).set r3 none).set s none=E0 at *;obtain⟨y1,b1,b2,b3,b4,b5⟩:=World.hole w0 a2 (by rw[a3];exact fi);obtain⟨l,xs0,bs,c1,c2,_,_,c5⟩:=kwi (b4.ok y1 X4) b2 b1;refine⟨y.d,y.v,y1.v,a4,b3,l,c1,⟨xs0,.inl (.inl c2)⟩,?_⟩;refine⟨λk0 n σ1 H1=>∃(z:Sl) (cw:List Q.D),k0<=ds.length/\n=ds.length - k0/\Mt E0 σ1 L0/\World Z.K H1 (some z::L0)/\z.o=.dp/\z.d=.lst cw/\z.v=y1.v/\Step H (some y1::L0) H1 (some z::L0)/\Vj (ds.length - k0) k0 (.lst cw)=some de/\cw.length=ds.length/\σ1[i]?=some (some y.v)/\Pn pn σ σ1/\σ1.length=σ.length,
  ⟨_,y1,ds,Y8 _,rfl,m0,b4,b1,b2,rfl,Step.refl,hea,rfl,a4,Pn.refl,rfl⟩,?_⟩
 rintro k0 n σ1 H1 ⟨z,cw,hk,rfl,m1,w1,z1,z2,z3,iu,hea1,iq,fc,hpn,hσl⟩;obtain⟨l',xs,bp,d1,d2,_,_,d5⟩:=kwi (w1.ok z X4) z2 z1;have hll:l'=l:=by rw[z3,c1]at d1;exact(V.ref.inj d1).symm
 subst hll;have hxl:xs.length=ds.length:=by rw[<-d5.len,iq]
 by_cases bh:k0<ds.length
 ·refine .inr ⟨⟨xs,xs[k0]'⋯,.inl (.inl d2),X5 _⟩,fun σ2 H2=>∃m',m'<ds.length - k0/\_,fun σ' H' h=>h,λx H' hy=>?_⟩;obtain⟨rfl,hyx⟩:=hy;have hx:xs[k0]?=some x:=hyx xs (.inl (.inl d2));obtain⟨n,hn⟩:∃n,ds.length - k0=n+1:=⟨ds.length - k0 - 1,⋯⟩;rw[hn]at hea1;unfold Vj at hea1
  split at hea1
  rotate_left
  ·cases hea1
  rename_i da db cf hat2
  split at hea1
  rotate_left
  ·cases hea1
  rename_i en;have oq:cw[k0]?=some (.tup [da,db,.lst cf]):=by
   have:(match cw[k0]? with|some d=>Q.D.at [] d|none=>none)=some (.tup [da,db,.lst cf]):=hat2
   split at this
   ·rename_i d' tq;rw[tq];exact this
   ·cases this
  have mx:Q.D.at [k0,2] (.lst cw)=some (.lst cf):=by
   show(match cw[k0]? with|some d=>Q.D.at [2] d|none=>none)=_;rw[oq];rfl
  have b6:Q.D.put (.lst []) [k0,2] (.lst cw)=.lst (cw.set k0 (.tup [da,db,.lst []])):=by
   show(match cw[k0]? with|some d=>Q.D.lst (cw.set k0 (Q.D.put (.lst []) [2] d))|none=>_)=_;rw[oq];rfl
  obtain⟨y2,g1,g2,g3,g4,g5⟩:=w1.hole z1 (by rw[z2];exact mx);rw[z2]at g3;obtain⟨la,xs2,x2,dx,t1,t2,t3,⟨t4,_⟩,t5⟩:=g3;have u1:la=l':=by rw[d1]at t1;exact(V.ref.inj t1).symm
  subst u1;have u2:xs2=xs:=by rw[d2]at t2;cases t2;rfl
  subst u2;have u3:x2=x:=by rw[hx]at t3;exact(oq9 t3).symm
  subst u3;rw[oq]at t4;cases oq9 t4;obtain⟨jc,us,u,du,v1,v2,v3,⟨_,v4⟩,v5⟩:=t5;have v4:us.length=3:=v4;have v5:y2.v=u:=v5;obtain⟨ua,ub,uc,rfl⟩:∃a b c,us=[a,b,c]:=by
   match us,v4 with
   |[a,b,c],_=>exact⟨a,b,c,rfl⟩
  have v3:uc=u:=oq9 v3;subst v3;have sg:((((σ1.set r1 (some ua)).set r2 (some ub)).set r3 (some uc)))[r3]?=some (some uc):=Y3 (by simp;lia);refine⟨jc,[ua,ub,uc],v1,.inl v2,rfl,?_⟩;refine⟨ua,_,rfl,ub,_,rfl,uc,_,rfl,rfl,?_⟩;refine⟨E0,L0,y2,cf,.non,uc,jzp e3 f3 _ (jzp e2 f2 _ (jzp e1 f1 _ m1)),e4,f4,g4,g1,g2,en,sg,v5,by simp;lia,fun σ3 H3 z3' es3 m3 w3 t1 t2 t3 cg hn3 hl3=>?_⟩;obtain⟨l3,xs3,j1,j2,zn,n1,n2,n3,n4,n5⟩:=World.clr w3 t1 t2;obtain⟨z',o1,o2,o3,o4,o5⟩:=g5 _ _ zn n4 (cg.trans n5) n1 (n3.trans t3);have sg3:σ3[r3]?=some (some uc):=(hn3 r3 h5).trans sg;have ej:uc=.ref l3:=by rw[<-v5,<-t3];exact j1
  refine⟨uc,sg3,by rw[ej];exact qqk j2,l3,xs3,ej,rfl,j2,?_⟩;refine⟨ds.length - (k0+1),⋯,z',cw.set k0 (.tup [da,db,.lst []]),⋯,rfl,m3,o4,o1,by rw[o2,n2,z2];exact b6,o3.trans z3,iu.trans o5,?_,by rw[Z0];exact iq,?_,?_,by rw[hl3];simp;exact hσl⟩
  ·rw[show ds.length - (k0+1)=n by lia,<-b6];exact hea1
  ·rw[hn3 i h4.symm,Xw h3,Xw h2,Xw h1];exact fc
  ·exact(((hpn.set hpn1).set hpn2).set hpn3).trans λq hq=>hn3 q λe=>hpn4 (e▸hq)
 ·have dv:k0=ds.length:=⋯
  refine .inl ⟨⟨xs,.inl (.inl d2),⋯⟩,?_⟩;rw[dv,Nat.sub_self]at hea1;unfold Vj at hea1;cases oq9 hea1;obtain⟨y',g1,g2,g3,g4,g5⟩:=b5 _ _ z w1 iu z1 z3;have mm:=W5 (i:=i) (x:=y') (s:=(.dp,Q.D.put (.lst cw) p d)) m1 g1 (by rw[g2,z2,a3]);rw[g3,Jj fc]at mm;exact k σ1 _ _ hpn mm g4.set (s0.trans (g5.trans Step.set))
end
end Q
namespace Q
open PySem
theorem wkt n (h:300<=n):10 ^ 70<2 ^ n:=Xm (show 10 ^ 70<2 ^ 240 by decide) (Nat.pow_le_pow_right ⋯ ⋯)
theorem mul_l{o1 o2 a b}(h1:-18446744073709551616<a)(h2:a<18446744073709551616):XW (o1,.int a) (o2,.int b)=some (.dp,.int (a*b)):=by
 have:K7 a b=true:=by
  have:Zz a=true:=by unfold Zz;rw[Xf (show -_<a by lia),Xf (show a<2 ^ 64 by lia)];rfl
  unfold K7;rw[this];rfl
 show(if K7 a b=true then _ else _)=_;rw[X6 this]
theorem vw8{o1 o2 a b}(ha:a.natAbs.log2<2000000)(hb:b.natAbs.log2<2000000):XW (o1,.int a) (o2,.int b)=some (.dp,.int (a*b)):=by
 have:K7 a b=true:=by unfold K7;rw[Xf ha,Xf hb];simp
 show(if K7 a b=true then _ else _)=_;rw[X6 this]
theorem add_i{o1 o2:Own}{a b:Int}:k4 (o1,.int a) (o2,.int b)=some (.dp,.int (a+b)):=rfl
theorem sub_i{a b:Int}:XQ (.int a) (.int b)=some (.int (a - b)):=rfl
theorem div_i{a b}(h:0<b)(h2:b<10 ^ 70):xq (.int a) (.int b)=some (.int (a / b)):=by
 have hb:b.natAbs.log2<9000:=by
  exact(Nat.log2_lt ⋯).mpr (Nat.lt_trans (show b.natAbs<10 ^ 70 by lia) (wkt 9000 (by simp)))
 show(if 0<b/\b.natAbs.log2<9000 then some _ else none).map _=_;rw[X6 ⟨h,hb⟩];rfl
theorem mod_i{a b}(h:0<b):kY (.int a) (.int b)=some (.int (a % b)):=by
 show(if 0<b then some _ else none).map _=_;rw[X6 h];rfl
theorem pow_i{a b}(h1:0<=b)(h2:b<=1000)(h3:-1000000<a)(h4:a<1000000):Q9 (.int a) (.int b)=some (.int (a ^ b.toNat)):=by
 show(if 0<=b/\b<=1000000/\a.natAbs<2 ^ 64 then some _ else none).map _=_;rw[X6 ⟨h1,⋯,⋯⟩];rfl
theorem wz2{a b}:fEq (.int a) (.int b)=some (.bl (a==b)):=rfl
theorem lt_ii{a b}:fLt (.int a) (.int b)=some (.bl (decide (a<b))):=rfl
theorem gt_ii{a b:Int}:fGt (.int a) (.int b)=some (.bl (decide (b<a))):=rfl
theorem le_ii{a b}:fLe (.int a) (.int b)=some (.bl (decide (a<=b))):=rfl
theorem wvw{xs i d}(h0:0<=i)(h:xs[i.toNat]?=some d):kw (.lst xs) (.int i)=some d:=by
 show((ixN xs.length i).bind λj=>xs[j]?)=some d;have hl:=(List.getElem?_eq_some_iff.mp h).1;unfold ixN
 rwa [X6 h0,X6 ⋯]
theorem len_l{xs:List D}:qz (.lst xs)=some (.int xs.length):=rfl
theorem len_t{xs:List D}:qz (.tup xs)=some (.int xs.length):=rfl
theorem vzg{o xs}(h:o≠.dp):XZ (o,.lst xs)=some (.no,.tup xs):=by
 show(if kj _ then _ else _)=_;rw[X6 (by cases o<;>simp_all [kj])]
abbrev XP:=Str->Prop
theorem nd{α}{a b:α}(h:a=b):a=b:=h
@[irreducible] noncomputable def Eo {α:Type} (m:Option (Res α)) (P:En->α->Prop) (X:XP):Prop:=match m with
 |some (.ok E a)=>P E a|some (.exc _ c)=>X c|none=>False
@[irreducible] noncomputable def Vo {α:Type} (m:Option α) (P:α->Prop):Prop:=match m with
 |some a=>P a|none=>False
@[irreducible] noncomputable def Oo (f:Fn) (xs:List Sd) (P:Sd->Prop) (X:XP):Prop:=match f xs with
 |some (.ok _ y)=>P y|some (.exc _ c)=>X c|none=>False
@[irreducible] noncomputable def Po (r:Option Fl) (N C:En->Prop) (R:Sd->Prop) (X:XP):Prop:=match r with
 |some (.nx E)=>N E|some (.ct E)=>C E|some (.rt _ x)=>R x|some (.xc _ c)=>X c|_=>False
abbrev noX:XP:=λ_=>False
section
variable {α β:Type}{P:En->α->Prop}{X:XP}{N C:En->Prop}{R:Sd->Prop}{E:En}
theorem Qx{a}:Eo (some (.ok E a)) P X=P E a:=nd (by ac_rfl)
theorem kxz:Eo none P X=False:=nd (by ac_rfl)
theorem jz{m}{f:En->β->Option _}:Eo (bnd m f) P X=Eo m (λE a=>Eo (f E a) P X) X:=by
 cases m with|none=>ac_rfl|some r=>cases r<;>ac_rfl
theorem vo_some{a}{P:α->Prop}:Vo (some a) P=P a:=nd (by ac_rfl)
theorem vo_map{x}{f:β->α}{P}:Vo (x.map f) P=Vo x (λa=>P (f a)):=by cases x<;>ac_rfl
theorem vY{x}:Eo (val E x) P X=Vo x (P E):=by cases x<;>ac_rfl
theorem qvn{E}:Po (some (.nx E)) N C R X=N E:=nd (by ac_rfl)
theorem Q5{m}{f:En->α->Option Fl}:Po (ofE m f) N C R X=Eo m (λE a=>Po (f E a) N C R X) X:=by
 cases m with|none=>ac_rfl|some r=>cases r<;>ac_rfl
theorem wk0{a b}:Po (j7 a b E) N C R X=Po (a E) (λE=>Po (b E) N C R X) C R X:=by
 unfold j7 Po;cases a E with|none=>ac_rfl|some r=>cases r<;>ac_rfl
theorem Eo.mono{m P'}(h:Eo m P X)(k:∀E a,P E a->P' E a):Eo m P' X:=by
 cases m with
 |none=>exists h
 |some r=>cases r with|ok E a=>exists k E a h|exc E c=>exists h
theorem Oo.mono{f xs P P'}(h:Oo f xs P X)(k:∀y,P y->P' y):Oo f xs P' X:=by
 unfold Oo at h ⊢;cases hf:f xs with
 |none=>simp_all
 |some r=>rw[hf]at h;cases r with|ok E a=>exists k a h|exc E c=>simp_all
theorem Oo.out{f xs P}(h:Oo f xs P noX):∃E y,f xs=some (.ok E y)/\P y:=by
 unfold Oo at h;cases hf:f xs with
 |none=>simp_all
 |some r=>rw[hf]at h;cases r with|ok E a=>with_unfolding_all exact⟨E,a,rfl,h⟩|exc E c=>exists (h).elim
theorem v7{n b xs P}(h:Po (b (xs.map some++List.replicate (n - xs.length) none)) (λ_=>P (.dp,.non)) (λ_=>False) P X):Oo (fn n b) xs P X:=by
 unfold Oo fn;unfold Po at h;cases hb:b _ with|none=>simp_all|some r=>rw[hb]at h;cases r<;>exists h
theorem vx1{f cs P}:Eo (k3 f cs E) P X=Eo (kQ cs E) (λE xs=>Oo f (letAll xs) (P E) X) X:=by
 unfold k3;rw[jz]
 congr 1
 funext E xs;unfold Oo;cases f _ with|none=>ac_rfl|some r=>cases r<;>ac_rfl
theorem vjt{f:Fn}{cs:List Ex}{P:En->Sd->Prop}:Eo (ZW f cs E) P X=Eo (kQ cs E) (λE xs=>Oo f (letAll xs) (λy=>y.2.pure=true/\P E (.dp,y.2)) X) X:=by
 unfold ZW;rw[jz]
 congr 1
 funext E xs;unfold Oo;cases f _ with
 | none=>ac_rfl
 | some r=>
  cases r with
  |exc=>ac_rfl
  |ok E1 y=>
   dsimp only
   by_cases hp:y.2.pure=true
   ·rw[X6 hp];with_unfolding_all exact propext ⟨λh=>⟨hp,h⟩,λh=>h.2⟩
   ·rw[Xa hp];with_unfolding_all exact propext ⟨λh=>(h).elim,λh=>hp h.1⟩
def xje(d:D){α:Type}(a b:Option α):Option α:=match d with
 |.bl k=>if k=true then a else b|_=>none
theorem vxf(a b:Ex):wv3 a b E=bnd (a E) λE x=>xje x.2 (b E) (some (.ok E (.dp,.bl false))):=by
 unfold wv3 xje
 congr 1
 funext E x;cases x.2 with|bl k=>cases k<;>ac_rfl|_=>ac_rfl
theorem kx9{tg b}(I:En->List D->Prop)(hs:∀E d ds,I E (d::ds)->Vo (tg.put d E) λE1=>Po (b E1) (λE2=>I E2 ds) (λE2=>I E2 ds) R X)(h1:∀E,I E []->N E):∀ds E,I E ds->Po (JK tg b ds E) N C R X
 | [],E,h=>by exists h1 E h
 | d::ds,E,h=>by
  have h2:=hs E d ds h;unfold JK;cases hp:tg.put d E with
  | none=>rw[hp]at h2;exists (h2).elim
  | some E1=>
   rw[hp]at h2;have h2:Po (b E1) (λE2=>I E2 ds) (λE2=>I E2 ds) R X:=by exists h2
   dsimp only;cases hb:b E1 with
   |none=>rw[hb]at h2;exists (h2).elim
   |some r=>
    rw[hb]at h2;cases r with|nx E2=>exists kx9 I hs h1 ds E2 h2|ct E2=>exists kx9 I hs h1 ds E2 h2|rt E2 x=>exists h2|xc E2 c=>exists h2|bk E2=>exists (h2).elim
theorem xY{it tg}{b} I (h0:Eo (it E) I X)(hs:∀E d ds,I E (d::ds)->Vo (tg.put d E) λE1=>Po (b E1) (λE2=>I E2 ds) (λE2=>I E2 ds) R X)(h1:∀E,I E []->N E):Po (vJ it tg b E) N C R X:=by
 show Po (ofE _ λE ds=>JK tg b ds E) N C R X;rw[Q5]
 exists h0.mono λE ds h=>kx9 I hs h1 ds E h
theorem qx9{tg t c P}(J:En->List D->List Sd->Prop)(hs:∀B d ds ac,J B (d::ds) ac->Vo (tg.put d B) λB1=>Eo (t B1) (λB2 k=>if k=true then Eo (c B2) (λB3 y=>J B3 ds (ac++[y])) X else J B2 ds ac) X)(h1:∀B ac,J B [] ac->P B ac):∀ds B ac,J B ds ac->Eo (lcL tg t c ds B ac) P X
 | [],B,ac,h=>by exists h1 B ac h
 | d::ds,B,ac,h=>by
  have h2:=hs B d ds ac h;unfold lcL;cases hp:tg.put d B with
  | none=>rw[hp]at h2;exists (h2).elim
  | some B1=>
   rw[hp]at h2;have h2:Eo (t B1) (λB2 k=>if k=true then Eo (c B2) (λB3 y=>J B3 ds (ac++[y])) X else J B2 ds ac) X:=by exists h2
   rw[jz];refine h2.mono λB2 k h3=>?_
   cases k with
   |false=>exists qx9 J hs h1 ds B2 ac h3
   |true=>
    show Eo (bnd _ _) P X;rw[jz]
    exists Eo.mono h3 λB3 y h4=>qx9 J hs h1 ds B3 _ h4
theorem K0{o k r it tg t c P}(J:En->En->List D->List Sd->Prop)(h0:Eo (it E) (λE1 ds=>J E1 (Vz k r E1) ds []) X)
  (hs:∀E1 B d ds ac,J E1 B (d::ds) ac->Vo (tg.put d B) λB1=>Eo (t B1) (λB2 k=>if k=true then Eo (c B2) (λB3 y=>J E1 B3 ds (ac++[y])) X else J E1 B2 ds ac) X) (h1:∀E1 B ac,J E1 B [] ac->Eo (mkL o (JV k r B E1) ac) P X):Eo (cLC o k r it tg t c E) P X:=by
 unfold cLC;rw[jz];refine h0.mono λE1 ds hJ=>?_
 have:=qx9 _ (hs E1) (h1 E1) ds _ _ hJ;cases hl:lcL tg t c ds _ []with|none=>rw[hl]at this;exists (this).elim|some q=>rw[hl]at this;cases q<;>exists this
end
theorem mulT_i{o1 a y}:wV (o1,.int a) y=XW (o1,.int a) y:=by
 unfold wV;ac_rfl
def sl(q:Option (Option Sd)):Option Sd:=match q with
 |some (some x)=>some x|_=>none
theorem sl_some{x}:sl (some (some x))=some x:=nd (by ac_rfl)
def xjd(d:D)(a b:Prop):Prop:=match d with
 |.bl k=>if k=true then a else b|_=>False
theorem andP_bl{k a b}:xjd (.bl k) a b=if k=true then a else b:=nd (by ac_rfl)
def Wo{α:Type}(m:Option α)(E:En)(P:En->α->Prop):Prop:=Vo m (P E)
theorem wo_some{α a E}{P:En->α->Prop}:Wo (some a) E P=P E a:=vo_some
theorem wo_map{α β x}{f:β->α}{E P}:Wo (x.map f) E P=Wo x E (λE a=>P E (f a)):=vo_map
def Oe(f:Fn)(xs:List Sd)(E:En)(P:En->Sd->Prop)(X:XP):Prop:=Oo f xs (P E) X
def intP(d:D)(P:Int->Prop):Prop:=match d with
 |.int i=>P i|_=>False
def Ie(d:D)(E:En)(P:En->Int->Prop):Prop:=intP d (P E)
theorem ie_i{i E P}:Ie (.int i) E P=P E i:=nd (by ac_rfl)
section
variable {P:En->Sd->Prop}{T:En->Bool->Prop}{X:XP}{N C:En->Prop}{R:Sd->Prop}{E:En}{e:Option Sd}{a b c:Ex}{t u:Ts}{i:Nat}
theorem w_seq{a b}:Po (j7 a b (e::E)) N C R X=Po (a (e::E)) (λE=>Po (b E) N C R X) C R X:=wk0
theorem w_asg:Po (jV i c (e::E)) N C R X=Eo (c (e::E)) (λE x=>N (E.set i (some x))) X:=by unfold jV;rw[Q5];ac_rfl
theorem w_ret:Po (jW c (e::E)) N C R X=Eo (c (e::E)) (λ_ x=>R x) X:=by unfold jW;rw[Q5];ac_rfl
theorem w_pass:Po (kZ (e::E)) N C R X=N (e::E):=nd (by ac_rfl)
theorem w_if{a b}:Po (sIf t a b (e::E)) N C R X=Eo (t (e::E)) (λE k=>if k=true then Po (a E) N C R X else Po (b E) N C R X) X:=by
 unfold sIf;rw[Q5];congr 1;funext E k;cases k<;>ac_rfl
theorem w_vV:Eo (vV i (e::E)) P X=Wo (sl (e::E)[i]?) (e::E) P:=by
 unfold vV Wo;cases(e::E)[i]? with|none=>ac_rfl|some q=>cases q<;>ac_rfl
theorem w_cV:Eo (cV i (e::E)) P X=Wo (sl (e::E)[i]?) (e::E) (λE x=>P (E.set i (some (.no,x.2))) (.no,x.2)):=by
 unfold cV Wo;cases(e::E)[i]? with|none=>ac_rfl|some q=>cases q<;>ac_rfl
theorem w_cMv:Eo (cMv i (e::E)) P X=Wo (sl (e::E)[i]?) (e::E) (λE x=>P (E.set i none) x):=by
 unfold cMv Wo;cases(e::E)[i]? with|none=>ac_rfl|some q=>cases q<;>ac_rfl
theorem w_cC{d}:Eo (cC d (e::E)) P X=P (e::E) (.dp,d):=nd (by ac_rfl)
theorem w_vE:Eo (vE c (e::E)) P X=Eo (c (e::E)) (λE x=>P E (.no,x.2)) X:=by unfold vE;rw[jz];ac_rfl
theorem w_cH:Eo (cH c (e::E)) P X=Eo (c (e::E)) (λE x=>if x.1=.no then P E (.no,x.2)else if x.2.pure=true then P E (.dp,x.2)else False) X:=by
 unfold cH;rw[jz]
 congr 1
 funext E x
 by_cases h:x.1=.no
 ·rw[X6 h,X6 h];ac_rfl
 ·rw[Xa h,Xa h]
  by_cases h2:x.2.pure=true
  ·rw[X6 h2,X6 h2];ac_rfl
  ·rw[Xa h2,Xa h2];ac_rfl
theorem w_f1{f}:Eo (cF1 f a (e::E)) P X=Eo (a (e::E)) (λE x=>Wo (f x) E P) X:=by
 unfold cF1;rw[jz];congr 1;funext E x;exact vY
theorem w_f2{f}:Eo (cF2 f a b (e::E)) P X=Eo (a (e::E)) (λE x=>Eo (b E) (λE y=>Wo (f x y) E P) X) X:=by
 unfold cF2;rw[jz];congr 1;funext E x;rw[jz];congr 1;funext E y;exact vY
theorem w_ix:Eo (k6 a b (e::E)) P X=Eo (a (e::E)) (λE x=>Eo (b E) (λE y=>Wo (kw x.2 y.2) E (λE d=>P E (sub x.1,d))) X) X:=by
 unfold k6;rw[jz];congr 1;funext E x;rw[jz];congr 1;funext E y;rw[vY];exact vo_map
theorem w_tE:Eo (tE c (e::E)) T X=Eo (c (e::E)) (λE x=>Wo (truth x.2) E T) X:=by
 unfold tE;rw[jz];congr 1;funext E x;exact vY
theorem w_tEQ:Eo (tEQ c (e::E)) T X=Eo (c (e::E)) (λE x=>Wo (truthQ x.2) E T) X:=by
 unfold tEQ;rw[jz];congr 1;funext E x;exact vY
theorem w_tNot:Eo (tNot t (e::E)) T X=Eo (t (e::E)) (λE k=>T E (!k)) X:=by unfold tNot;rw[jz];ac_rfl
theorem w_tOr:Eo (tOr t u (e::E)) T X=Eo (t (e::E)) (λE k=>if k=true then T E true else Eo (u E) T X) X:=by
 unfold tOr;rw[jz];congr 1;funext E k;cases k<;>ac_rfl
theorem w_tYes:Eo (tYes (e::E)) T X=T (e::E) true:=nd (by ac_rfl)
theorem w_cAnd:Eo (wv3 a b (e::E)) P X=Eo (a (e::E)) (λE x=>xjd x.2 (Eo (b E) P X) (P E (.dp,.bl false))) X:=by
 rw[vxf,jz];congr 1;funext E x;cases x.2 with|bl k=>cases k<;>ac_rfl|_=>ac_rfl
theorem w_cNotQ:Eo (vk7 c (e::E)) P X=Eo (c (e::E)) (λE x=>Wo (truthQ x.2) E (λE k=>P E (.dp,.bl (!k)))) X:=by
 unfold vk7;rw[jz];congr 1;funext E x;rw[vY];exact vo_map
theorem w_call{f cs}:Eo (k3 f cs (e::E)) P X=Eo (kQ cs (e::E)) (λE xs=>Oe f (letAll xs) E P X) X:=by exists vx1
theorem w_callB{f:Fn}{cs:List Ex}:Eo (ZW f cs (e::E)) P X=Eo (kQ cs (e::E)) (λE xs=>Oe f (letAll xs) E (λE y=>y.2.pure=true/\P E (.dp,y.2)) X) X:=by exists vjt
theorem w_partN{P}:Eo (J6 none (e::E)) P X=P (e::E) none:=nd (by ac_rfl)
theorem w_partS{P}:Eo (J6 (some c) (e::E)) P X=Eo (c (e::E)) (λE x=>Ie x.2 E (λE i=>P E (some i))) X:=by
 show Eo (bnd _ _) P X=_;rw[jz];congr 1;funext E x;cases x.2<;>ac_rfl
theorem w_sl{lo hi}:Eo (cSl a lo hi (e::E)) P X=Eo (a (e::E)) (λE x=>Eo (J6 lo E) (λE l=>Eo (J6 hi E) (λE h=>Wo (fSl x l h) E P) X) X) X:=by
 unfold cSl;rw[jz];congr 1;funext E x;rw[jz];congr 1;funext E l;rw[jz];congr 1;funext E h;exact vY
theorem w_idx:Eo (ZK a b (e::E)) P X=Eo (a (e::E)) (λE x=>if isSq x.2=true then Eo (b E) (λE y=>Wo (XX x.2 y.2) E (λE d=>P E (.dp,d))) X else False) X:=by
 unfold ZK;rw[jz];congr 1;funext E x;cases isSq x.2 with
 |false=>ac_rfl
 |true=>
  show Eo (bnd _ _) P X=_;rw[jz]
  congr 1;funext E y;rw[vY];exact vo_map
theorem w_itS{P}:Eo (itS c (e::E)) P X=Eo (c (e::E)) (λE x=>Wo (seqOf x.2) E P) X:=by
 unfold itS;rw[jz]
 congr 1
 funext E x;exact vY
theorem w_itEn{P}:Eo (wvx c (e::E)) P X=Eo (c (e::E)) (λE x=>Wo (lstOf x.2) E (λE ds=>P E (zx 0 ds))) X:=by
 unfold wvx;rw[jz]
 congr 1
 funext E x;rw[vY];exact vo_map
end
theorem args_nil{e}{E:En}{P X}:Eo (kQ [] (e::E)) P X=P (e::E) []:=nd (by ac_rfl)
theorem args_cons{e}{E:En}{c cs P X}:Eo (kQ (c::cs) (e::E)) P X=Eo (c (e::E)) (λE x=>Eo (kQ cs E) (λE xs=>P E (x::xs)) X) X:=by
 show Eo (bnd _ λE x=>bnd _ λE xs=>some _) P X=_;rw[jz]
 congr 1
 funext E x;rw[jz]
 ac_rfl
theorem eo_tup{e}{E:En}{cs P X}:Eo (qZ .no cs (e::E)) P X=Eo (kQ cs (e::E)) (λE xs=>P E (.no,.tup (xs.map (·.2)))) X:=by
 unfold qZ;rw[jz]
 ac_rfl
theorem eo_lst{e}{E:En}{cs P X}:Eo (qk .rt cs (e::E)) P X=Eo (kQ cs (e::E)) (λE xs=>P E (.rt,.lst (xs.map (·.2)))) X:=by
 unfold qk;rw[jz]
 ac_rfl
theorem WX{c E P X}(h:Eo (c E) (λE x=>∃n,x.2=.int n/\n<=1000/\-1000<=n/\P E (jZ 0 n)) X):Eo (xv c E) P X:=by
 unfold xv;rw[jz];refine h.mono ?_;rintro E ⟨o,d⟩ ⟨n,rfl,h1,h2,h3⟩;have:vX n=true:=by unfold vX;rw[Xf ⋯,Xf ⋯];ac_rfl
 show Eo (if vX n=true/\n.toNat<=big then _ else _) P X;rw[X6 ⟨this,by unfold big;lia⟩]
 exists h3
theorem vqh{i:Nat}{c}{E:En}{o xs N C R X}(h0:E[i]?=some (some (o,.lst xs)))
  (h:Eo (c E) (λE1 x=>∃o ys,E1[i]?=some (some (o,.lst ys))/\o≠.no/\ys.length<10000/\N (E1.set i (some (if o=.dp/\kJ x then .dp else .rt,.lst (ys++[x.2]))))) X):Po (wK wq i c E) N C R X:=by
 unfold wK;rw[h0,X6 (show vjj _=true from rfl),Q5];refine h.mono ?_;rintro E1 x ⟨o,ys,h1,h2,h3,h4⟩;rw[h1];dsimp only;have hg:wq ys x.2=some (ys++[x.2]):=by unfold wq;rw[X6 (by unfold big;lia)]
 rw[Xa h2,hg]
 exists h4
theorem KJ{i:Nat}{c}{E:En}{xs N C R X}(h0:E[i]?=some (some (.rt,.lst xs)))
  (h:Eo (c E) (λE1 x=>∃ys,E1[i]?=some (some (.rt,.lst ys))/\ys.length<10000/\N (E1.set i (some (.rt,.lst (ys++[x.2]))))) X):Po (wK wq i c E) N C R X:=
 vqh h0 (h.mono λE1 x ⟨ys,h1,h2,h3⟩=>⟨.rt,ys,h1,⋯,h2,by rw[];exists h3⟩)
theorem rng_ok{n}(h1:-1000<=n)(h2:n<=1000):(vX n=true/\n.toNat<=big)=True:=by
 have:vX n=true:=by unfold vX;rw[Xf ⋯,Xf ⋯];ac_rfl
 with_unfolding_all exact eq_true ⟨this,by unfold big;lia⟩
theorem kqo{α p}[Decidable p]{a}{P:En->α->Prop}{X}:Eo (if p then a else none) P X=(p/\Eo a P X):=by
 by_cases h:p
 ·simp_all
 ·rw[Xa h];with_unfolding_all exact propext ⟨λz=>z.elim,λz=>h z.1⟩
theorem w_R1{c e}{E:En}{P X}:Eo (xv c (e::E)) P X=Eo (c (e::E)) (λE x=>Ie x.2 E λE n=>(vX n=true/\n.toNat<=big)/\P E (jZ 0 n)) X:=by
 unfold xv;rw[jz];congr 1;funext E x;cases x.2 with|int n=>exists kqo|_=>ac_rfl
theorem w_LR1{c e}{E:En}{P X}:Eo (ww1 c (e::E)) P X=Eo (c (e::E)) (λE x=>Ie x.2 E λE n=>(vX n=true/\n.toNat<=big)/\P E (.rt,.lst (jZ 0 n))) X:=by
 unfold ww1;rw[jz];congr 1;funext E x;cases x.2 with|int n=>exists kqo|_=>ac_rfl
theorem lst_dp0{e:Option Sd}{E:En}{P:En->Sd->Prop}{X:XP}:Eo (qk .dp [] (e::E)) P X=P (e::E) (.dp,.lst []):=nd (by ac_rfl)
theorem vkw{E:En}{ys:List Sd}{P:En->Sd->Prop}{X:XP}(h:ys.all kJ=true):Eo (mkL .dp E ys) P X=P E (.dp,.lst (ys.map (·.2))):=by
 unfold mkL;rw[X6 h];ac_rfl
theorem vqz{o:Own}{xs:List D}{lo hi:Option Int}(h:o≠.dp):fSl (o,.lst xs) lo hi=some (.rt,.lst (Q2 xs lo hi)):=by
 show(if kj _ then _ else _)=_;rw[X6 (by cases o<;>simp_all [kj])]
theorem sub_no:sub .no=.no:=nd (by ac_rfl)
theorem sub_rt:sub .rt=.no:=nd (by ac_rfl)
theorem sub_dp:sub .dp=.dp:=nd (by ac_rfl)
theorem Oo.use{ι f xs}{g:ι->Sd}{S:ι->Prop}{E P X}(h:Oo f xs (λy=>∃i,y=g i/\S i) X)(k:∀i,S i->P E (g i)):Oe f xs E P X:=h.mono λy ⟨i,e,s⟩=>e▸k i s
theorem Oo.via{f xs S E P X}(h:Oo f xs S X)(k:∀y,S y->P E y):Oe f xs E P X:=h.mono k
theorem vZ{E ys P X}:Eo (mkL .rt E ys) P X=P E (.rt,.lst (ys.map (·.2))):=nd (by ac_rfl)
theorem w_zip{c d:Ex}{e:Option Sd}{E:En}{P:En->List D->Prop}{X:XP}:Eo (qwt c d (e::E)) P X=Eo (c (e::E)) (λE x=>Eo (d E) (λE y=>Wo ((lstOf x.2).bind λxs=>(lstOf y.2).bind λys=>if xs.length<=big then some (qJ xs ys)else none) E P) X) X:=by
 unfold qwt;rw[jz];congr 1;funext E x;rw[jz];congr 1;funext E y;exact vY
section
variable {a b c kc vc:Ex}{e:Option Sd}{E:En}{X:XP}{N C:En->Prop}{R:Sd->Prop}{P:En->Sd->Prop}
theorem vzb:Eo (wvr a b (e::E)) P X=Eo (a (e::E)) (λE x=>Eo (b E) (λE y=>Wo (wqn x.2 y.2) E (λE d=>P E (.dp,d))) X) X:=by
 unfold wvr;rw[jz];congr 1;funext E x;rw[jz];congr 1;funext E y;rw[vY];exact vo_map
theorem vza{z}:Eo (vk8 z c (e::E)) P X=Eo (c (e::E)) (λE x=>Wo (qx7 z x.2) E (λE d=>P E (.dp,d))) X:=by
 unfold vk8;rw[jz];congr 1;funext E x;rw[vY];exact vo_map
theorem vzd:Eo (vxe (e::E)) P X=P (e::E) (.rt,x4 []):=nd (by ac_rfl)
theorem vwo{i:Nat}(h:Eo (vc E) (λE1 v=>vwr E1[i]?=true/\Eo (kc E1) (λE2 k=>∃(kv:List _) (x y:Int),E2[i]?=some (some (.rt,x4 kv))/\k.2=.int x/\v.2=.int y/\kv.length<10000/\N (E2.set i (some (.rt,x4 (J7 kv x y))))) X) X):Po (qzx i kc vc E) N C R X:=by
 unfold qzx;rw[Q5];refine h.mono ?_;rintro E1 v ⟨e1,h1⟩;rw[X6 e1,Q5];refine h1.mono ?_;rintro E2 k ⟨kv,x,y,e2,hk,hv,hl,h4⟩;rw[e2,hk,hv];dsimp only;rw[qjq];dsimp only
 rwa [X6 (by unfold big;lia),qvn]
end
theorem wq8{k v kv}(h:vq kv k=some v):wqn (x4 kv) (.int k)=some (.int v):=by
 unfold wqn;rw[qjq];dsimp only;rw[h];rfl
section
variable {a b c kc vc:Ex}{e:Option Sd}{E:En}{X:XP}{N C:En->Prop}{R:Sd->Prop}{P:En->Sd->Prop}
theorem vzc:Eo (vk9 a b (e::E)) P X=Eo (a (e::E)) (λE x=>qjm x.2=true/\Eo (b E) (λE y=>Wo (qx8 x.2 y.2) E (λE d=>P E (.dp,d))) X) X:=by
 unfold vk9;rw[jz];congr 1;funext E x;rw[kqo];congr 1;rw[jz];congr 1;funext E y;rw[vY];exact vo_map
end
section
variable {a b c:Ex}{cs:List Ex}{e:Option Sd}{E:En}{X:XP}{N C:En->Prop}{R:Sd->Prop}{P:En->Sd->Prop}{i r:Nat}{p:List Nat}{d:D}{ds:List D}
theorem WK:Eo (K5 c (e::E)) P X=Eo (c (e::E)) (λE x=>zz x=true/\P E (.dp,x.2)) X:=by
 unfold K5;rw[jz];congr 1;funext E x;rw[kqo,Qx]
theorem wke(h0:E[i]?=some (some (.dp,d)))(fi:D.at p d=some (.lst ds))(h:N (E.set i (some (.dp,D.put (.lst []) p d)))):Po (sPC i p E) N C R X:=by
 unfold sPC;rw[h0];dsimp only;rw[fi];dsimp only;rw[qvn];exact h
end
end Q
local macro_rules
 | `(tactic| simp![$ts,*])=>`(tactic| simp(config:={maxSteps:=1000000,failIfUnchanged:=false,implicitDefEqProofs:=true}) (disch:=lia) only[↓Q.w_seq,↓Q.w_asg,↓Q.w_ret,↓Q.w_pass,↓Q.w_if,↓Q.w_vV,↓Q.w_cV,↓Q.w_cMv,↓Q.w_cC,↓Q.w_vE,↓Q.w_cH,↓Q.w_f1,↓Q.w_f2,↓Q.w_ix,↓Q.w_tE,↓Q.w_tEQ,↓Q.w_tNot,↓Q.w_tOr,↓Q.w_tYes,↓Q.w_cAnd,↓Q.w_cNotQ,↓Q.w_call,↓Q.w_callB,↓Q.w_partN,↓Q.w_partS,↓Q.w_sl,↓Q.w_idx,↓Q.w_itS,↓Q.w_itEn,↓Q.w_zip,↓Q.w_R1,↓Q.w_LR1,Q.rng_ok,true_and,Q.lst_dp0,↓Q.ie_i,Q.isSq,Q.sl_some,↓Q.andP_bl,↓Q.vo_some,↓Q.vo_map,↓Q.wo_some,↓Q.wo_map,↓Q.args_nil,↓Q.args_cons,↓Q.eo_tup,↓Q.eo_lst,Q.letAll,Q.pu2,Q.pu1,Q.f2First,Q.fIsNon,Q.isNon,List.map_cons,List.map_nil,List.cons_append,List.nil_append,Xk,List.length_nil,X2,Nat.reduceAdd,Nat.reduceSub,List.replicate,List.set_cons_zero,List.set_cons_succ,List.getElem?_cons_zero,List.getElem?_cons_succ,Q.len_l,Q.len_t,Q.lt_ii,Q.gt_ii,Q.le_ii,Q.add_i,Q.sub_i,Q.div_i,Q.mod_i,Q.pow_i,Q.mulT_i,Q.mul_l,Option.map_some,Q.truth,Q.truthQ,Q.D.pure,↓reduceIte,if_true,if_false,ite_true,ite_false,Q.sub_no,Q.sub_rt,Q.sub_dp,Bool.false_eq_true,reduceCtorEq,Bool.not_true,Bool.not_false,Q.Tg.put,Q.setAll,Q.seqOf,Q.lstOf,$ts,*])
namespace C
open Q PySem
abbrev most:Int:=1000*10 ^ 64
abbrev iL(ns:List Int):D:=.lst (ns.map D.int)
def Each(G:D->Sd->Prop):List D->List Sd->Prop
 |[],[]=>True|d::ds,y::ys=>G d y/\Each G ds ys|_,_=>False
theorem Each.snoc{G d y}(h:G d y):∀{ds ys},Each G ds ys->Each G (ds++[d]) (ys++[y])
 |[],[],_=>⟨h,trivial⟩|_::_,_::_,r=>⟨r.1,Each.snoc h r.2⟩
theorem Kk{X E o}{r:List Nat}{it c P}(ab:En) G (h0:Eo (it E) (λE1 ds=>r.map (at' E1)=ab/\(∀d∈ds,Eo (c (some (.no,d)::ab)) (λB y=>(∃q,B=q::ab)/\G d y) X)/\∀ys,Each G ds ys->Eo (mkL o (back r ab (clr r E1)) ys) P X) X):Eo (cLC o 1 r it (.n 0) tYes c E) P X:=by
 refine K0 (λE1 B ds2 ac=>∃ds cw q,ds=cw++ds2/\B=q::ab/\Each G cw ac/\(∀d∈ds,Eo (c (some (.no,d)::ab)) (λB y=>(∃q,B=q::ab)/\G d y) X)/\∀ys,Each G ds ys->Eo (mkL o (back r ab (clr r E1)) ys) P X) ?_ ?_ ?_
 ·refine h0.mono λE1 ds ⟨h1,h2,h3⟩=>⟨ds,[],none,rfl,by rw[<-h1];rfl,trivial,h2,h3⟩
 ·rintro E1 B d ds2 ac ⟨ds,cw,q,e,rfl,hE,h2,h3⟩;have hp:(Tg.n 0).put d (q::ab)=some (some _::ab):=rfl;rw[hp,vo_some,show tYes _=some _ from rfl,Qx];refine(h2 d (by rw[e];simp)).mono ?_;rintro B y ⟨⟨q',rfl⟩,hG⟩;exact⟨ds,cw++[d],q',by rw[e];simp,rfl,hE.snoc hG,h2,h3⟩
 ·rintro E1 B ac ⟨ds,cw,q,e,rfl,hE,h2,h3⟩;rw[Xq]at e;subst e;exact h3 ac hE
theorem qv4{n}:jZ n n=[]:=by unfold jZ;rw[Int.sub_self];rfl
theorem kk9{k n}(h:k<n):jZ k n=.int k::jZ (k+1) n:=by
 unfold jZ;have:(n - k).toNat=(n - (k+1)).toNat+1:=by
  obtain⟨m,hm⟩:=Yv (show 0<=n - (k+1)by lia);rw[hm,show n - k=(m+1:Nat)by lia];rfl
 rw[this,List.range_succ_eq_map,List.map_cons,Xi]
 congr 1
 ·simp
 ·apply Yj;intro i _
  grind
theorem YV{k n d ds}(hk:k<=n)(h:d::ds=jZ k n):k<n/\d=.int k/\ds=jZ (k+1) n:=by
 by_cases hl:k<n
 ·rw[kk9 hl]at h;injection h with h1 h2;exact⟨hl,h1,h2⟩
 ·have:k=n:=⋯
  subst this;rw[qv4]at h
  grind
theorem kvi{k n}(hk:k<=n)(h:[]=jZ k n):k=n:=by
 by_cases hl:k<n
 ·rw[kk9 hl]at h;cases h
 ·lia
theorem kxl{k n d}(h:d∈jZ k n):∃i,k<=i/\i<n/\d=.int i:=by
 obtain⟨j,hj,rfl⟩:=aE h;have:=List.mem_range.mp hj;exact⟨k+j,⋯,⋯,rfl⟩
theorem qz7{o1 o2 a b}(h:a.cps.size+b.cps.size<=10000):k4 (o1,.str a) (o2,.str b)=some (.dp,.str (a++b)):=by
 show(if a.cps.size+b.cps.size<=big then _ else _)=_;rw[X6 (by unfold big;lia)]
theorem qzs(a b:Str):(a++b).cps.size=a.cps.size+b.cps.size:=by
 exact Array.size_append
theorem kx0:∀ss,J9 (ss.map D.str)=some ss
 |[]=>rfl|s::ss=>by rw[List.map_cons,J9,kx0 ss];rfl
theorem qzm{o:Own}{ss:List Str}(h:ss.length<64):ZV (o,.lst (ss.map D.str))=some (.rt,.lst ((K3 ss).map D.str)):=by
 unfold ZV;dsimp only;rw[kx0];dsimp only;rw[X6 h]
theorem qjn(a):∀r,(Kq a r).length=r.length+1
 |[]=>rfl|b::r=>by unfold Kq;split<;>simp[qjn a r]
theorem jzv:∀r,(K3 r).length=r.length
 |[]=>rfl|a::r=>by rw[K3,qjn,jzv r];rfl
abbrev sL(ss:List Str):D:=.lst (ss.map D.str)
theorem zK{n}:∀{ks},(∀k∈ks,k.flat n=true)->D.flats n ks=true
 |[],_=>by cases n<;>simp[D.flats]|k::ks,h=>by rw[D.flats,h k X4,zK λe he=>h e (lc9 _ he)];rfl
mutual
theorem Wj:∀{n} (d),d.flat n=true->peq d d=true
 |n,.non,_=>by simp[peq]|n,.bl b,_=>by simp[peq]|n,.int b,_=>by simp[peq]|n,.str b,_=>by simp[peq]|0,.lst xs,h=>by simp[D.flat]at h|n+1,.tup xs,h=>peqs_refl xs (by simpa [D.flat]using h)|n+1,.lst xs,h=>peqs_refl xs (by simpa [D.flat]using h)|n,.dct _,h=>by cases n<;>simp[D.flat]at h|n,.obj _ _,h=>by cases n<;>simp[D.flat]at h
theorem peqs_refl:∀{n} ds,D.flats n ds=true->peqs ds ds=true
 |_,[],_=>by simp[peqs]
 |n,d::ds,h=>by
  rw[D.flats,Bool.and_eq_true]at h;rw[peqs,Wj d h.1,peqs_refl ds h.2];rfl
end
theorem vx0{d}(h:d.flat 40=true):fEq d d=some (.bl true):=by unfold fEq;rw[h,Wj d h];rfl
theorem qw3{d:D}(h:d.flat 40=true):fNe d d=some (.bl false):=by unfold fNe;rw[h,Wj d h];rfl
theorem p0(a b:D):kw (.tup [a,b]) (.int 0)=some a:=rfl
theorem p1(a b:D):kw (.tup [a,b]) (.int 1)=some b:=rfl
theorem t0(a b c:D):kw (.tup [a,b,c]) (.int 0)=some a:=rfl
theorem t1(a b c):kw (.tup [a,b,c]) (.int 1)=some b:=rfl
theorem t2(a b c):kw (.tup [a,b,c]) (.int 2)=some c:=rfl
theorem Kz{G h}(hG:∀d y,G d y->y.2=h d):∀{ds ys},Each G ds ys->ys.map (·.2)=ds.map h
 |[],[],_=>rfl|d::ds,y::ys,r=>by rw[List.map_cons,List.map_cons,hG d y r.1,Kz hG r.2]
abbrev V5(ss:List Str)(rs:List D):D:=.tup [sL ss,.lst rs]
theorem vx3{G:D->Sd->Prop}(hG:∀d y,G d y->y.2=d){ds:List D}{ys:List Sd}(h:Each G ds ys):ys.map (·.2)=ds:=by
 rw[Kz (h:=id) hG h,List.map_id]
theorem qwf{o xs}(h:o≠.dp):XJ (o,.lst xs)=some (.rt,.lst xs):=by
 show(if kj _ then _ else _)=_;rw[X6 (by cases o<;>simp_all [kj])]
theorem in_s{z ss}:KZ (.str z) (sL ss)=some (.bl (ss.any λw=>w==z)):=by
 show(if(D.str z).flat 30&&D.flats 30 _ then some _ else none)=_;rw[zK (λk hk=>by obtain⟨w,_,rfl⟩:=aE hk;rfl),List.any_map];rfl
theorem in_i{p ks}:KZ (.int p) (iL ks)=some (.bl (ks.any λw=>w==p)):=by
 show(if(D.int p).flat 30&&D.flats 30 _ then some _ else none)=_;rw[zK (λk hk=>by obtain⟨w,_,rfl⟩:=aE hk;rfl),List.any_map];rfl
theorem qz5{p}{ks:List Int}:(ks.any λw=>w==p)=decide (p∈ks):=by
 rw[Bool.eq_iff_iff];simp
theorem kxy{α:Type}{p}:∀{l:List α},l.any p=true->l.findIdx? p=some (l.findIdx p)
 | [],h=>by cases h
 | a::l,h=>by
  rw[List.findIdx?_cons,List.findIdx_cons];cases hp:p a with
  |true=>simp
  |false=>
   rw[List.any_cons,hp]at h;rw[kxy h];simp
theorem wvc{a b}(hl:a.length+b.length<=10000):k4 (.no,.tup a) (.no,.tup b)=some (.no,.tup (a++b)):=by
 show(if a.length+b.length<=big/\kj _/\kj _ then _ else _)=_;rw[X6 ⟨by unfold big;lia,rfl,rfl⟩]
noncomputable section
end
abbrev rwD(ws:List (Str×Int)):List D:=ws.map λw=>.tup [.str w.1,.int w.2]
noncomputable section
end
end C
namespace B
open Q PySem C
theorem eqi{a b k}(h:(a==b)=k):fEq (.int a) (.int b)=some (.bl k):=by rw[<-h];rfl
end B
namespace B
open PySem Q
def m__law_cell_at:Fn:=fn 2
  (j7 (sIf (tE (cF2 (pu2 fLt) (vV 1) (vE (cF1 (pu1 qz) (vV 0))))) (jW (cH (k6 (vV 0) (vV 1)))) kZ)
  (jW (cC (.int 0))))
end B
namespace B
open Q PySem C
def cellAt(ns:List Int)(k:Nat):Int:=ns.getD k 0
theorem cell_ok ns (k:Nat)(hn:ns.length<=10000):Oo m__law_cell_at [(.no,iL ns),(.no,.int k)] (λy=>∃o',y=(o',.int (cellAt ns k))/\True) noX:=by
 refine v7 ?_;simp![]
 by_cases h:(k:Int)<ns.length
 ·have hx:kw (iL ns) (.int k)=some (.int (cellAt ns k)):=by
   refine wvw ⋯ ?_;unfold cellAt;rw[Int.toNat_natCast,Xn,X5 ⋯,Yf,X5 ⋯];rfl
  have hd:=Xf h;rw[X6 hd];simp![hx];exact⟨_,rfl,trivial⟩
 ·have hd:¬decide ((k:Int)<ns.length)=true:=by rw[Xh h];decide
  rw[Xa hd];refine⟨.dp,?_,trivial⟩;rw[show cellAt ns k=0 by unfold cellAt;rw[Yf,Yk ⋯];rfl]
theorem kzj:∀{ps:List Str},(∀p∈ps,p.length=1)->(ps.map (·.length)).sum=ps.length
 |[],_=>rfl|p::ps,h=>by rw[List.map_cons,List.sum_cons,h p X4,kzj λq hq=>h q (lc9 _ hq),Xk];lia
theorem sl_s{o z lo hi}(h:z.cps.size<=100):fSl (o,.str z) lo hi=some (.dp,.str (Txt.slice z lo hi)):=by
 have hl:=Txt.slice_le z lo hi;have h:z.length<=100:=h;show(if(Txt.slice z lo hi).length<=big then _ else none)=_;rw[X6 (by unfold big;lia)]
end B
namespace A
open PySem Q
noncomputable def m__law_mixed:Fn:=fn 3
  (j7 (sIf (tE (cF2 (pu2 fEq) (vE (cF2 (pu2 kY) (vV 0) (C9 2))) (C9 0))) (jW (cF2 (pu2 xq) (vV 0) (vE (cF2 (pu2 wz0) (C9 2) (vE (cF2 wV (C9 8) (vV 1))))))) kZ)
  (j7 (jV 2 (cF2 (pu2 kY) (vE (cF2 wV (vE (cF2 k4 (vE (cF2 k4 (vE (cF2 (pu2 kY) (vV 0) (C9 2147483647))) (vE (cF2 wV (C9 69621) (vV 1))))) (C9 7919))) (C9 48271))) (C9 2147483647)))
  (j7 (jV 2 (cF2 (pu2 kY) (vE (cF2 wV (vV 2) (vV 2))) (C9 2147483629)))
  (jW (cF2 (pu2 kY) (vE (cF2 k4 (vE (cF2 wV (vV 2) (vV 2))) (vE (cF2 wV (C9 16807) (vV 1))))) (C9 2147483587))))))
noncomputable def m__law_words:Fn:=fn 9
  (j7 (jV 2 (cC (.str "abcdefghijklmnopqrstuvwxyz")))
  (j7 (jV 3 (vk8 "" (vE (cLC .rt 1 [2,0] (xv (C9 8)) (.n 0) tYes (cH (k6 (vV 1) (vE (cF2 (pu2 kY) (vE (k3 m__law_mixed [(cV 2),(cV 0)])) (C9 26)))))))))
  (j7 (sIf (tE (cF2 (pu2 fEq) (vE (cF2 (pu2 kY) (vV 0) (C9 3))) (C9 1))) (jW (cLC .rt 1 [3,0] (xv (vV 1)) (.n 0) tYes (cSl (vV 1) none (some (vE (cF2 k4 (C9 1) (vE (cF2 (pu2 kY) (vE (cF2 k4 (vV 0) (vE (cF2 (pu2 xq) (vV 2) (C9 3))))) (C9 8))))))))) kZ)
  (j7 (jV 4 (cF2 k4 (C9 1) (vE (cF2 (pu2 kY) (vE (cF2 (pu2 xq) (vV 0) (C9 3))) (C9 8)))))
  (j7 (jV 5 (cF2 (pu2 kY) (vE (cF2 (pu2 xq) (vV 0) (C9 24))) (vV 4)))
  (j7 (jV 6 (qk .rt []))
  (j7 (vJ (xv (vV 1)) (.n 7) (j7 (jV 8 (cF2 (pu2 kY) (vE (cF2 k4 (vE (vk9 (vV 2) (k6 (vV 3) (vV 5)))) (vE (cF2 wV (vV 7) (vE (cF2 k4 (C9 1) (vE (cF2 (pu2 kY) (vE (cF2 (pu2 xq) (vV 0) (C9 192))) (C9 5))))))))) (C9 26)))
  (wK wq 6 (cF2 k4 (vE (cF2 k4 (vE (cSl (vV 3) none (some (vV 5)))) (k6 (vV 2) (vV 8)))) (vE (cSl (vV 3) (some (vE (cF2 k4 (vV 5) (C9 1)))) (some (vV 4))))))))
  (jW (cMv 6)))))))))
noncomputable def m__law_number:Fn:=fn 1
  (j7 (sIf (tE (cF2 (pu2 fEq) (vE (cF2 (pu2 kY) (vV 0) (C9 3))) (C9 0))) (jW (cF2 (pu2 XQ) (vE (cF2 (pu2 kY) (vE (cF2 (pu2 xq) (vV 0) (C9 3))) (C9 19))) (C9 9))) kZ)
  (jW (cF2 k4 (vE (cF2 (pu2 XQ) (vE (cF2 (pu2 kY) (vE (cF2 wV (vV 0) (vE (cF2 (pu2 Q9) (C9 7919) (C9 15))))) (vE (cF2 (pu2 XQ) (vE (cF2 wV (C9 2) (vE (cF2 (pu2 Q9) (C9 10) (C9 60))))) (C9 1))))) (vE (cF2 (pu2 Q9) (C9 10) (C9 60))))) (C9 1))))
end A
namespace A
open Q PySem C B
theorem wjz{n}(h:n<=8000):((2:Int)*2 ^ n).natAbs.log2<9000:=by
 have e:((2:Int)*2 ^ n).natAbs=2 ^ (n+1):=by
  rw[Int.natAbs_mul,Nat.mul_comm];rfl
 rw[e,Nat.log2_two_pow];lia
theorem wwl{n}(h0:0<=n)(h1:n<=8000):wz0 (.int 2) (.int n)=some (.int (2*2 ^ n.toNat)):=by
 show(if 0<=n/\n<=1000000/\(2:Int).natAbs<2 ^ 64 then some _ else none).map D.int=_;rw[X6 ⟨h0,⋯,⋯⟩];rfl
theorem wz7{c n:Int}(h1:n<=8000):xq (.int c) (.int (2*2 ^ n.toNat))=some (.int (c / (2*2 ^ n.toNat))):=by
 show(if 0<2*2 ^ n.toNat/\((2:Int)*2 ^ n.toNat).natAbs.log2<9000 then some _ else none).map D.int=_;rw[X6 ⟨Int.mul_pos ⋯ (Int.pow_pos ⋯),wjz ⋯⟩];rfl
theorem mixed_ok(c k)(h0:0<=k)(h1:k<=100):Oo m__law_mixed [(.no,.int c),(.no,.int k)] (λy=>∃v,y=(.dp,.int v)/\True) noX:=by
 refine v7 ?_
 by_cases h:c % 2=0
 ·have hd:(c % 2==0)=true:=by simp[h]
  simp![eqi hd,wwl (n:=8*k) ⋯ ⋯,wz7 (c:=c) (n:=8*k) ⋯];exact⟨_,rfl,trivial⟩
 ·have hd:(c % 2==0)=false:=Zc h;have m0:=Y9 c (show(2147483647:Int)≠0 by decide);have m1:=Y0 c (show(0:Int)<2147483647 by decide);generalize hu:c % 2147483647=u at m0 m1;simp![eqi hd,hu,(mul_l (o1:=.no) (o2:=.no) (a:=u+69621*k+7919) (b:=48271) ⋯ ⋯)]
  grind
def Sh(c:Int):Prop:=c.natAbs.log2<1100000
theorem number_ok c (hc:Sh c):Oo m__law_number [(.no,.int c)] (λy=>∃v,y=(.dp,.int v)/\True) noX:=by
 have hp:((10:Int) ^ (Int.toNat 60))=10 ^ 60:=rfl;have kg:((7919:Int) ^ (Int.toNat 15))=7919 ^ 15:=rfl;refine v7 ?_
 by_cases h:c % 3=0
 ·have hd:(c % 3==0)=true:=by simp[h]
  simp![eqi hd];exact⟨_,rfl,trivial⟩
 ·have hd:(c % 3==0)=false:=Zc h;have hm:kY (.int (c*7919 ^ 15)) (.int (2*10 ^ 60 - 1))=some (.int (c*7919 ^ 15 % (2*10 ^ 60 - 1))):=mod_i ⋯;simp![eqi hd,hp,kg,(vw8 (o1:=.no) (o2:=.no) (a:=c) (b:=7919 ^ 15) (by unfold Sh at hc;lia) ⋯),hm];exact⟨_,rfl,trivial⟩
abbrev AZ:Str:="abcdefghijklmnopqrstuvwxyz"
theorem az_found:∀ch∈AZ.cps.toList,∃i:Nat,qx8 (.str AZ) (.str ⟨#[ch]⟩)=some (.int i):=by
 have h:∀ch∈AZ.cps.toList,(Builtin.Str.occurrences AZ ⟨#[ch]⟩ 0 AZ.length 1).isEmpty=false:=by decide +kernel
 intro ch hc;have:=h ch hc;unfold qx8;dsimp only;cases e:Builtin.Str.occurrences AZ _ 0 AZ.length 1 with|nil=>rw[e]at this;cases this|cons i r=>exact⟨i,rfl⟩
theorem ix_strM z i (h0:0<=i)(h1:i<z.cps.size):∃c∈z.cps.toList,kw (.str z) (.int i)=some (.str ⟨#[c]⟩):=by
 have:i.toNat<z.cps.toList.length:=by rw[X7];lia
 refine⟨z.cps.toList[i.toNat],Xz _,?_⟩;show((Q.ixN z.cps.size i).bind λj=>(z.cps.toList[j]?).map λc=>D.str ⟨#[c]⟩)=_;unfold Q.ixN;rw[X6 h0,X6 h1];show((z.cps.toList[i.toNat]?).map λc=>D.str ⟨#[c]⟩)=_;rw[X5 this];rfl
theorem list_app(a b:Str):(a++b).cps.toList=a.cps.toList++b.cps.toList:=by
 exact Array.toList_append
theorem qjk{L:List Nat}:∀{ps},(∀p∈ps,∃c∈L,p=⟨#[c]⟩)->(Str.join "" ps).cps.toList.length=ps.length/\∀c∈(Str.join "" ps).cps.toList,c∈L
 | [],_=>⟨rfl,λc h=>absurd h (by simp[Str.join,Str.empty])⟩
 | [x],h=>by
  obtain⟨c,hc,rfl⟩:=h x X4;refine⟨rfl,λd hd=>?_⟩;have:d=c:=by simpa [Str.join]using hd
  rw[this];exact hc
 | x::y::r,h=>by
  obtain⟨c,hc,rfl⟩:=h x X4;obtain⟨i1,i2⟩:=qjk λp hp=>h p (lc9 _ hp)
  have e:(Str.join "" ((⟨#[c]⟩:Str)::y::r)).cps.toList=c::(Str.join "" (y::r)).cps.toList:=by
   show(_++""++Str.join "" _).cps.toList=_;rw[list_app];rfl
  rw[e];refine⟨by rw[Xk,i1];rfl,λd hd=>?_⟩;rcases aD hd with rfl|hd
  ·exact hc
  ·exact i2 d hd
theorem each_one{L:List Nat}{G}(hG:∀d y,G d y->∃c∈L,y.2=.str ⟨#[c]⟩):∀{ds ys},Each G ds ys->∃ps:List Str,ys.map (·.2)=ps.map D.str/\ps.length=ds.length/\∀p∈ps,∃c∈L,p=⟨#[c]⟩
 |[],[],_=>⟨[],rfl,rfl,λ_ h=>nomatch h⟩
 |d::ds,y::ys,r=>by
  obtain⟨i,hi,e⟩:=hG d y r.1;obtain⟨ps,h1,h2,h3⟩:=each_one hG r.2;exact⟨⟨#[i]⟩::ps,by simp[e,h1],by simp[h2],λp hp=>(aD hp).elim (λz=>z▸⟨i,hi,rfl⟩) (h3 p)⟩
theorem join_az{ps:List Str}(h:∀p∈ps,∃c∈AZ.cps.toList,p=⟨#[c]⟩)(h1:ps.length<=100):∃z,qx7 "" (.lst (ps.map D.str))=some (.str z)/\z.cps.size=ps.length/\∀c∈z.cps.toList,c∈AZ.cps.toList:=by
 have hz:("":Str).length=0:=rfl;obtain⟨j1,j2⟩:=qjk h;refine⟨Txt.join "" ps,?_,?_,?_⟩
 ·unfold qx7;dsimp only;rw[kx0];dsimp only;rw[X6 (by rw[(kzj λp hp=>by obtain⟨c,_,rfl⟩:=h p hp;rfl),hz];lia)]
 ·unfold Txt.join;rw[StrLaws.glued_eq_join,<-j1,X7]
 ·unfold Txt.join
  rwa [StrLaws.glued_eq_join]
end A
namespace F
open Q PySem C
theorem nin_il{p ks}:wW (.int p) (iL ks)=some (.bl (!decide (p∈ks))):=by
 have h:=in_i (p:=p) (ks:=ks);rw[qz5]at h;have h:fIn _ (iL ks)=some _:=h;show(fIn _ _).bind _=_;rw[h];rfl
theorem idx_il{p ks}(h:(ks.any λw=>w==p)=true):XX (iL ks) (.int p)=some (.int (ks.findIdx λw=>w==p:Nat)):=by
 show(if(D.int p).flat 30&&D.flats 30 _ then((ks.map D.int).findIdx? λw=>peq w _).map λ(j:Nat)=>D.int j else none)=_;rw[zK (λk hk=>by obtain⟨w,_,rfl⟩:=aE hk;rfl),List.findIdx?_map];have:ks.findIdx? ((λw=>peq w (.int p))∘D.int)=ks.findIdx? λw=>w==p:=rfl
 rw[this,kxy h];rfl
end F
namespace Kp
open Q PySem C
theorem bk(E:En):back [] [] (clr [] E)=E:=rfl
end Kp
namespace U
open Q PySem C B
theorem qjw:∀(l ac:List Int),ac.Nodup->(l.foldl (λl k=>if l.any (· == k)then l else l++[k]) ac).Nodup/\∀x,x∈l.foldl (λl k=>if l.any (· == k)then l else l++[k]) ac↔x∈ac\/x∈l
 | [],ac,h=>⟨h,λx=>by simp⟩
 | a::l,ac,h=>by
  rw[Zb]
  by_cases ha:a∈ac
  ·rw[X6 (qz5▸Xf ha)];obtain⟨h1,h2⟩:=qjw l ac h;refine⟨h1,λx=>?_⟩;rw[h2,Yc];constructor
   ·grind
   ·grind
  ·rw[Xa (by simpa using ha)];obtain⟨h1,h2⟩:=qjw l (ac++[a]) (List.nodup_append.mpr ⟨h,by simp,λx hx y hy e=>by rw[aC hy]at e;exact ha (e▸hx)⟩);refine⟨h1,λx=>?_⟩;rw[h2,List.mem_append,List.mem_singleton,Yc];constructor
   ·grind
   ·grind
theorem ddI_nd l:(ddI l).Nodup:=(qjw l [] Y7).1
theorem ddI_mem{l x}:x∈ddI l↔x∈l:=by
 have:=(qjw l [] Y7).2 x;rw[show x∈ddI l↔_ from this];simp
theorem ints_is:∀l,zW (l.map D.int)=some l
 |[]=>rfl
 |a::l=>by
  rw[List.map_cons,zW,ints_is l];rfl
end U
namespace V
open Q PySem C
def m_shape_of:Fn:=fn 5
  (j7 (jV 1 vxe)
  (j7 (jV 2 (qk .rt []))
  (j7 (vJ (itS (cV 0)) (.t [3,4]) (j7 (sIf (tE (cF2 (pu2 Q0) (vV 4) (vV 1))) (qzx 1 (vV 4) (cF1 (pu1 WJ) (vV 1))) kZ)
  (wK wq 2 (qZ .no [(cV 3),(cH (wvr (vV 1) (vV 4)))]))))
  (jW (cMv 2)))))
def m_names_in:Fn:=fn 1
  (jW (cF1 (pu1 Vx) (vE (cLC .rt 2 [] (itS (cV 0)) (.t [0,1]) tYes (cV 1)))))
def m_case_to:Fn:=fn 2
  (j7 (sIf (tE (cF2 (pu2 V9) (vV 0) (vV 1))) (jW (cC .non)) kZ)
  (jW (qZ .no [(cH (wvq (vV 1) (vV 0))),(wvz (vE (k3 m_names_in [(cV 0)])))])))
def m_signs_in:Fn:=fn 3
  (j7 (jV 1 (qk .rt []))
  (j7 (vJ (itS (cV 0)) (.n 2) (QK 1 (cLC .rt 2 [] (itS (cV 2)) (.t [0,1]) tYes (cV 0))))
  (jW (cMv 1))))
noncomputable def m_beginnings_of:Fn:=fn 3
  (j7 (jV 1 (qk .rt [(qZ .no [(cC (.int 0)),(qZ .no [])])]))
  (j7 (vJ (itS (cV 0)) (.n 2) (QK 1 (cLC .rt 1 [2] (xv (vE (cF2 k4 (vE (cF1 (pu1 qz) (vV 2))) (C9 1)))) (.n 0) tYes (qZ .no [(cV 0),(ww0 (vV 1) none (some (vV 0)))]))))
  (jW (cLC .rt 2 [] (itS (cF1 W1 (vV 1))) (.t [0,1]) tYes (cV 1)))))
theorem vje{l}(h:l.length<4000):Vx (.lst (l.map D.int))=some (.int (ddI l).length):=by
 unfold Vx;dsimp only;rw[U.ints_is];exact X6 h
theorem Q6 a x:ddI (a++[x])=if x∈ddI a then ddI a else ddI a++[x]:=by
 unfold ddI;rw[List.foldl_append,Zb,List.foldl_nil]
 by_cases h:x∈a.foldl (λl k=>if l.any (· == k)then l else l++[k]) []
 ·rw[X6 h,X6 (by simpa using h)]
 ·rw[Xa h,Xa (by simpa using h)]
theorem qxf:∀b a (x),x∈ddI a\/x∈b->x∈ddI (a++b)
 |[],a,x,h=>by grind
 |y::b,a,x,h=>by
  rw[show a++y::b=(a++[y])++b by simp];refine qxf b _ x ?_;rw[Q6];rcases h with h|h
  ·grind
  ·grind
def idx(S:List Int)(n:Int):Int:=(S.idxOf n:Nat)
def kvS(S:List Int):List (Int×Int):=S.zipIdx.map λp=>(p.1,(p.2:Int))
theorem vjh S x:kvS (S++[x])=kvS S++[(x,(S.length:Int))]:=by
 unfold kvS;rw[List.zipIdx_append];simp
theorem qwp S:(kvS S).length=S.length:=by unfold kvS;simp
theorem kzd(n):∀(S:List Int) (k),vq ((S.zipIdx k).map λp=>(p.1,(p.2:Int))) n=if n∈S then some ((S.idxOf n+k:Nat):Int)else none
 | [],k=>rfl
 | x::S,k=>by
  rw[List.zipIdx_cons,List.map_cons];unfold vq;rw[List.find?_cons]
  by_cases e:x=n
  ·subst e;simp
  ·have:=kzd n S (k+1);unfold vq at this;rw[Xh e,this]
   by_cases hm:n∈S
   ·rw[X6 hm,X6 (lc9 _ hm),List.idxOf_cons,Zc e];simp;lia
   ·rw[Xa hm,Xa (by simp[hm,Ne.symm e])]
theorem kkr S n:vq (kvS S) n=if n∈S then some (idx S n)else none:=kzd n S 0
theorem vvi{S x}(h:x∉S):J7 (kvS S) x S.length=kvS (S++[x]):=by
 have hv:=kkr S x;rw[Xa h]at hv;unfold J7;rw[Xa ?_,vjh];intro ha;rw[List.any_eq_true]at ha;obtain⟨p,hp,e⟩:=ha;unfold vq at hv;rw[Option.map_eq_none_iff,List.find?_eq_none]at hv;exact hv p hp e
theorem vww{S x n}(h:n∈S):idx (S++[x]) n=idx S n:=by
 unfold idx;rw[List.idxOf_append,X6 h]
abbrev ns2(ws:List (Str×Int)):List Int:=ws.map (·.2)
def shW(ws:List (Str×Int)):List (Str×Int):=ws.map λw=>(w.1,idx (ddI (ns2 ws)) w.2)
theorem jzw ws:(shW ws).length=ws.length:=by unfold shW;rw[X2]
theorem qj8{k kv}:Q0 (.int k) (x4 kv)=some (.bl (!(vq kv k).isSome)):=by
 unfold Q0;rw[qjq]
theorem wku{kv}:WJ (x4 kv)=some (.int kv.length):=by
 unfold WJ;rw[qjq]
theorem vqb b:∀a,(ddI (a++b)).length<=(ddI a).length+b.length:=by
 induction b with
 | nil=>intro a;rw[Xq];exact X8 _
 | cons y b ih=>
  intro a;rw[show a++y::b=(a++[y])++b by simp];have e:(ddI (a++[y])).length<=(ddI a).length+1:=by
   rw[Q6]
   split
   ·lia
   ·simp
  grind
theorem jzk f w:rwD (shW (f++[w]))=rwD (shW f)++[.tup [.str w.1,.int (idx (ddI (ns2 f++[w.2])) w.2)]]:=by
 have hn:ns2 (f++[w])=ns2 f++[w.2]:=by simp
 unfold shW;rw[hn,Xl];unfold rwD;rw[Xl]
 congr 1
 refine congrArg (List.map _) (Yj λa ha=>?_);have hm:a.2∈ddI (ns2 f):=qxf (ns2 f) [] a.2 (.inr (List.mem_map.mpr ⟨a,ha,rfl⟩));rw[Q6]
 split
 ·rfl
 ·rw[vww hm]
theorem qzv(ws)(hw:ws.length<=1000):Oo m_shape_of [(.no,.lst (rwD ws))] (λy=>y=(.rt,.lst (rwD (shW ws)))) noX:=by
 unfold m_shape_of;refine v7 ?_;simp![↓vzd];refine xY (λE ab=>∃(f1 f2:List (Str×Int)) (l3 l4:Option Sd),E=[some (.no,.lst (rwD ws)),some (.rt,x4 (kvS (ddI (ns2 f1)))),some (.rt,.lst (rwD (shW f1))),l3,l4]/\ws=f1++f2/\ab=rwD f2) ?_ ?_ ?_
 ·simp![];exact⟨[],ws,_,_,rfl,rfl,rfl⟩
 ·rintro E d ds ⟨f1,f2,l3,l4,rfl,hf,hr⟩;cases f2 with
  | nil=>cases hr
  | cons w f2=>
   have hr:d::ds=.tup [.str w.1,.int w.2]::rwD f2:=hr;injection hr with e1 e2;subst e1 e2;have ae:f1.length+(f2.length+1)=ws.length:=by rw[hf];simp
   have hn:ns2 (f1++[w])=ns2 f1++[w.2]:=by simp
   have h8:=Q6 (ns2 f1) w.2
   by_cases hm:w.2∈ddI (ns2 f1)
   ·rw[X6 hm]at h8;have hv:vq (kvS (ddI (ns2 f1))) w.2=some (idx (ddI (ns2 f1)) w.2):=by rw[kkr,X6 hm]
    have i6:Q0 (.int w.2) (x4 (kvS (ddI (ns2 f1))))=some (.bl false):=by rw[qj8,hv];rfl
    simp![i6];refine KJ rfl ?_;simp![↓vzb,wq8 hv];refine⟨_,rfl,by rw[X2,jzw];lia,f1++[w],f2,some (.no,.str w.1),some (.no,.int w.2),?_,by rw[hf];simp,rfl⟩;rw[jzk,hn,h8]
   ·rw[Xa hm]at h8;have hv:vq (kvS (ddI (ns2 f1))) w.2=none:=by rw[kkr,Xa hm]
    have i6:Q0 (.int w.2) (x4 (kvS (ddI (ns2 f1))))=some (.bl true):=by rw[qj8,hv];rfl
    have hv2:vq (kvS (ddI (ns2 f1)++[w.2])) w.2=some (idx (ddI (ns2 f1)++[w.2]) w.2):=by rw[kkr,X6 (by simp)]
    simp![i6];refine vwo ?_;simp![wku];refine⟨rfl,?_⟩;simp![];refine⟨_,_,_,rfl,rfl,rfl,?_,?_⟩
    ·rw[qwp];have:=vqb (ns2 f1) [];rw[List.nil_append,X2]at this;have e:(ddI []).length=0:=rfl;lia
    rw[qwp,vvi hm];simp![];refine KJ rfl ?_;simp![↓vzb,wq8 hv2];refine⟨_,rfl,by rw[X2,jzw];lia,f1++[w],f2,some (.no,.str w.1),some (.no,.int w.2),?_,by rw[hf];simp,rfl⟩;rw[jzk,hn,h8]
 ·rintro E ⟨f1,f2,l3,l4,rfl,hf,hr⟩;have hf2:f2=[]:=by cases f2 with|nil=>rfl|cons=>cases hr
  subst hf2;rw[Xq]at hf;subst hf;simp![]
theorem vq6{i:Nat}{c:Ex}{E:En}{xs N Cc R X}(h0:E[i]?=some (some (.rt,.lst xs)))(h:Eo (c E) (λE1 x=>∃ys zs,E1[i]?=some (some (.rt,.lst ys))/\x=(.rt,.lst zs)/\ys.length+zs.length<big/\N (E1.set i (some (.rt,.lst (ys++zs))))) X):Po (QK i c E) N Cc R X:=by
 unfold QK;rw[h0];show Po (if true=true then _ else _) N Cc R X;rw[X6 rfl,Q5];refine h.mono ?_;rintro E1 x ⟨ys,zs,h1,rfl,hb,hN⟩;rw[h1];dsimp only
 rwa [Xa (λz=>by rcases z with z|z|z;cases z;cases z;exact z hb),qvn]
theorem ww7{a lo hi e}{E:En}{P X}:Eo (ww0 a lo hi (e::E)) P X=Eo (a (e::E)) (λE x=>Eo (J6 lo E) (λE l=>Eo (J6 hi E) (λE h=>Wo (VW x l h) E P) X) X) X:=by
 unfold ww0;rw[jz];congr 1;funext E x;rw[jz];congr 1;funext E l;rw[jz];congr 1;funext E h;exact vY
abbrev Sh:=List (Str×Int)
abbrev tD(s:Sh):D:=.tup (rwD s)
def nk(s:Sh):Nat:=(ddI (ns2 s)).length
theorem qqw:∀{a b:Sh},rwD a=rwD b->a=b:=by
 intro a
 induction a with
 |nil=>intro b h;cases b with|nil=>rfl|cons=>cases h
 |cons x a ih=>
  intro b h;cases b with|nil=>cases h|cons y b=>grind
theorem kzi{a b}(h:tD a=tD b):a=b:=qqw (D.tup.inj h)
theorem kja{s d}(hd:d=tD s\/d=.lst (rwD s))(hl:s.length<=1000):Oo m_names_in [(.no,d)] (λy=>∃o,y=(o,.int (nk s))/\True) noX:=by
 rcases hd with rfl|rfl
 all_goals
  refine v7 ?_;simp![];refine K0 (λE1 B ds ac=>∃(q0 q1:Option Sd) (s1 s2:Sh),B=[q0,q1]/\ds=rwD s2/\s=s1++s2/\ac.map (·.2)=(ns2 s1).map D.int) ?_ ?_ ?_
  ·simp![];exact⟨_,_,[],s,rfl,rfl,rfl,rfl⟩
  ·rintro E1 B d ds ac ⟨q0,q1,s1,s2,rfl,b7,hs,ha⟩;cases s2 with
   |nil=>cases b7
   |cons w s2=>
    injection b7 with e1 e2;subst e1 e2;simp![];exact⟨_,_,s1++[w],s2,rfl,rfl,by rw[hs];simp,by rw[Xl,ha];simp⟩
  ·rintro E1 B ac ⟨q0,q1,s1,s2,rfl,b7,hs,ha⟩;have:s2=[]:=by cases s2 with|nil=>rfl|cons=>cases b7
   subst this;rw[Xq]at hs;subst hs;rw[vZ,ha];simp![vje (l:=ns2 s) (by rw[X2];lia)];exact⟨_,rfl,trivial⟩
theorem names_ok s (hl:s.length<=1000):Oo m_names_in [(.no,tD s)] (λy=>∃o,y=(o,.int (nk s))/\True) noX:=kja (.inl rfl) hl
end V
namespace V
open Q PySem C Tl
abbrev pD(s:Sh):D:=.tup [.int s.length,tD s]
def pre(s:Sh):List Sh:=(List.range (s.length+1)).map s.take
def qx(shs:List Sh):List Sh:=[]::shs.flatMap pre
theorem qj5{a b}(h:pD a=pD b):a=b:=by
 simp at h;exact qqw h.2
theorem kq0(n:Nat):jZ 0 n=(List.range n).map λ(k:Nat)=>D.int k:=by
 exact Yj λk _=>by rw[Int.zero_add]
theorem qzq{s}{e:Nat}(h:e<=s.length):VW (.no,tD s) none (some e)=some (.no,tD (s.take e)):=by
 have hl:(rwD s).length=s.length:=X2 _;have h1:xz (rwD s).length 0 none=0:=rfl;have h2:xz (rwD s).length (rwD s).length (some e)=e:=by
  unfold xz;dsimp only;rw[Xa ⋯,hl];simp;lia
 unfold VW;dsimp only
 by_cases he:e=s.length
 ·subst he;rw[X6 ⟨rfl,h1,by rw[h2,hl]⟩,List.take_length]
 ·rw[Xa (λz=>he (by have:=z.2.2;rw[h2,hl]at this;exact this))];unfold fSl;dsimp only;rw[X6 ⟨rfl,λz=>he (by have:=z.2;rw[h2,hl]at this;exact this)⟩];unfold Q2;rw[h1,h2,List.drop_zero,Nat.sub_zero,show(rwD s).take e=rwD _ from List.map_take.symm]
theorem vwg:∀(a b:Sh),(ltDs (rwD a) (rwD b)).isSome=true:=by
 intro a
 induction a with
 | nil=>intro b;cases b<;>rfl
 | cons x a ih=>
  intro b;cases b with
  | nil=>rfl
  | cons y b=>
   show(ltDs (.tup [.str x.1,.int x.2]::rwD a) (.tup [.str y.1,.int y.2]::rwD b)).isSome=true;unfold ltDs
   split
   ·exact ih b
   ·unfold ltD ltDs
    split
    ·unfold ltDs
     split
     ·rfl
     ·rfl
    ·rfl
theorem vvx(a b):(ltD (pD a) (pD b)).isSome=true:=by
 unfold ltD ltDs
 split
 ·unfold ltDs
  split
  ·rfl
  ·exact vwg a b
 ·rfl
theorem vq1{n}:∀s:Sh,keyDs (n+1) (rwD s)=true:=by
 intro s
 induction s with
 |nil=>rfl
 |cons x s ih=>
  show(jK _ _&&keyDs _ _)=true;rw[ih];simp[keyDs,jK]
theorem Wk s:ww (tD s)=true:=by
 show(jK 6 _&&true)=true;unfold jK;rw[vq1];rfl
theorem qvy(L:List Sh):okT (L.map pD)=true:=by
 unfold okT;rw[Bool.and_eq_true,Xy,Xy];refine⟨λd hd=>?_,λd hd=>List.all_eq_true.mpr λe he=>?_⟩
 ·obtain⟨s,_,rfl⟩:=aE hd;simp only[jK,keyDs];rw[vq1];rfl
 ·obtain⟨s,_,rfl⟩:=aE hd;obtain⟨t,_,rfl⟩:=aE he;exact vvx s t
theorem vjz:∀(ds ls:List D),ls.Nodup->(ds.foldl vw ls).Nodup:=by
 intro ds
 induction ds with
 | nil=>exact λls h=>h
 | cons d ds ih=>
  intro ls h;refine ih _ ?_;unfold vw
  split
  ·exact h
  ·rename_i hn;exact List.nodup_append.mpr ⟨h,by simp,λa ha b hb e=>hn (by rw[List.mem_singleton]at hb;rw[<-hb,<-e];exact ha)⟩
theorem qxg:∀(ds ls:List D) {d},d∈ls\/d∈ds->d∈ds.foldl vw ls:=by
 intro ds
 induction ds with
 |nil=>grind
 |cons a ds ih=>
  intro ls d h;refine ih _ ?_;unfold vw;rcases h with h|h
  ·grind
  ·grind
theorem vx8:∀(ds ls:List D),(ds.foldl vw ls).length<=ls.length+ds.length:=by
 intro ds
 induction ds with
 | nil=>intro ls;simp
 | cons d ds ih=>
  intro ls;refine Yl (ih _) ?_;have:(vw ls d).length<=ls.length+1:=by
   unfold vw
   split
   ·lia
   ·simp
  rw[Xk];lia
theorem qzk:∀(shs:List Sh) ls,pD []∈ls->(∀s∈shs,s.length<=5)->(((shs.flatMap pre).map pD).foldl vw ls).length<=ls.length+5*shs.length:=by
 intro shs
 induction shs with
 | nil=>intro ls _ _;simp
 | cons s shs ih=>
  intro ls h0 hl;rw[Zf,Xl,List.foldl_append];have e:(pre s).map pD=pD []::((List.range s.length).map λi=>pD (s.take (i+1))):=by
   unfold pre;rw[List.range_succ_eq_map,List.map_cons,List.map_cons,Xi,Xi];rfl
  have h1:(((pre s).map pD).foldl vw ls).length<=ls.length+5:=by
   rw[e,Zb,show vw ls _=ls from X6 h0];have:=vx8 ((List.range s.length).map λi=>pD (s.take (i+1))) ls;rw[X2,Xv]at this;have:=hl s X4;lia
  have:=ih (((pre s).map pD).foldl vw ls) (qxg _ _ (.inl h0)) λt ht=>hl t (lc9 _ ht)
  rw[Xk];lia
theorem qj6(b:Sh)(h:b≠[]):ltD (pD []) (pD b)=some true/\ltD (pD b) (pD [])=some false:=by
 have hl:=List.length_pos_iff.mpr h;have ne:∀{x y},x≠y->D.int x≠D.int y:=λh e=>h (D.int.inj e)
 constructor
 ·unfold ltD ltDs;rw[Xa (ne (by simp;lia))];show some (decide ((0:Int)<b.length))=_;rw[Xf ⋯]
 ·unfold ltD ltDs;rw[Xa (ne (by simp;lia))];show some (decide (_<0))=_;rw[Xh ⋯]
theorem qk9:∀l,(∀d∈l,∃x,d=pD x)->l.Nodup->pD []∈l->∃t,z6 l=pD []::t:=by
 intro l
 induction l with
 | nil=>grind
 | cons a r ih=>
  intro ha nd h0;rw[List.nodup_cons]at nd;obtain⟨x,rfl⟩:=ha a X4;show ∃t,K9 _ _=pD []::t
  by_cases hx:x=[]
  ·subst hx;cases hs:z6 r with
   |nil=>exact⟨[],rfl⟩
   |cons b t=>
    have hb:=(zZ r).mem_iff.mp (hs▸X4);obtain⟨y,rfl⟩:=ha b (lc9 _ hb);have hy:y≠[]:=λz=>nd.1 (z▸hb)
    unfold K9;rw[Xa (by rw[(qj6 y hy).2];decide)];exact⟨_,rfl⟩
  ·have h1:pD []∈r:=(aD h0).resolve_left λz=>hx (qj5 z).symm
   obtain⟨t,e⟩:=ih (λd hd=>ha d (lc9 _ hd)) nd.2 h1;rw[e];unfold K9;rw[X6 (qj6 x hx).1];exact⟨_,rfl⟩
theorem vwb:∀{l},(∀d∈l,∃x,d=pD x)->∃xs:List Sh,l=xs.map pD:=by
 intro l
 induction l with
 |nil=>exact λ_=>⟨[],rfl⟩
 |cons a r ih=>
  intro h;obtain⟨x,rfl⟩:=h a X4;obtain⟨xs,rfl⟩:=ih λd hd=>h d (lc9 _ hd)
  exact⟨x::xs,rfl⟩
structure Beg (shs bs:List Sh):Prop where
 nd:bs.Nodup
 hd:bs[0]?=some []
 mem:∀x,x∈bs↔x∈qx shs
 len:bs.length<=59
 pw:(bs.map pD).Pairwise Ls
theorem wv8{shs}(hl:shs.length<=11)(h5:∀s∈shs,s.length<=5):∃bs,(∀o,W1 (o,.lst ((qx shs).map pD))=some (.rt,.lst (bs.map pD)))/\Beg shs bs:=by
 have en:∀d∈ddT ((qx shs).map pD),∃x,d=pD x:=λd hd=>by
  rcases W8 _ _ hd with z|z
  ·exact nomatch z
  ·grind
 have hn:(ddT ((qx shs).map pD)).Nodup:=vjz _ [] Y7;have h0:pD []∈ddT ((qx shs).map pD):=qxg _ _ (.inr X4);have ae:(ddT ((qx shs).map pD)).length<=59:=by
  have:=qzk shs [pD []] X4 h5;have e:ddT ((qx shs).map pD)=((shs.flatMap pre).map pD).foldl vw [pD []]:=rfl;rw[e];rw[Za]at this;lia
 obtain⟨bs,hb⟩:=vwb (λd hd=>en d ((zZ _).mem_iff.mp hd));obtain⟨t,ht⟩:=qk9 _ en hn h0;have hcm:Cmp (ddT _):=λa ha b hb=>(vku (qvy (qx shs))).2 a ((W8 _ _ ha).resolve_left λz=>nomatch z) b ((W8 _ _ hb).resolve_left λz=>nomatch z)
 refine⟨bs,λo=>?_,?_,?_,λx=>?_,?_,by rw[<-hb];exact jzj hcm hn⟩
 ·unfold W1;dsimp only;rw[X6 ⟨ae,qvy _⟩,hb]
 ·have:(bs.map pD).Nodup:=by rw[<-hb];exact(zZ _).nodup_iff.mpr hn
  rw[List.nodup_iff_pairwise_ne,Yn]at this;exact this.imp λh e=>h (by rw[e])
 ·rw[hb]at ht;cases bs with
  | nil=>cases ht
  | cons b bs=>
   injection ht with e _;rw[qj5 e];rfl
 ·have:x∈bs↔pD x∈bs.map pD:=⟨λh=>List.mem_map.mpr ⟨x,h,rfl⟩,λh=>by obtain⟨y,hy,e⟩:=aE h;rw[<-qj5 e];exact hy⟩;rw[this,<-hb,(zZ _).mem_iff];constructor
  ·intro h;rcases W8 _ _ h with z|z
   ·grind
   ·obtain⟨y,hy,e⟩:=aE z
    rwa [<-qj5 e]
  ·exact λh=>qxg _ _ (.inr (List.mem_map.mpr ⟨x,h,rfl⟩))
 ·have:=congrArg List.length hb;rw[X2,(zZ _).length_eq]at this;lia
theorem kqv{shs}(hl:shs.length<=11)(h5:∀s∈shs,s.length<=5):Oo m_beginnings_of [(.no,.lst (shs.map tD))] (λy=>∃bs,y=(.rt,.lst (bs.map tD))/\Beg shs bs) noX:=by
 have tl:∀f,(∀s∈f,s.length<=5)->(qx f).length<=1+6*f.length:=by
  intro f
  induction f with
  | nil=>intro _;decide
  | cons s f ih=>
   intro h;have h1:=h s X4;have h2:=ih λt ht=>h t (lc9 _ ht)
   unfold qx at h2 ⊢;rw[Xk]at h2 ⊢;rw[Zf,Y6,Xk];have:(pre s).length=s.length+1:=by unfold pre;rw[X2,Xv]
   lia
 obtain⟨bs,hs,hB⟩:=wv8 hl h5;unfold m_beginnings_of;refine v7 ?_;simp![];refine xY (λE ab=>∃(f1 f2:List Sh) (l2:Option Sd),E=[some (.no,.lst (shs.map tD)),some (.rt,.lst ((qx f1).map pD)),l2]/\shs=f1++f2/\ab=f2.map tD) ?_ ?_ ?_
 ·simp![];exact⟨[],shs,_,rfl,rfl,rfl⟩
 ·rintro E d ds ⟨f1,f2,l2,rfl,hf,hr⟩;cases f2 with
  | nil=>cases hr
  | cons s f2=>
   injection hr with e1 e2;subst e1 e2;have hs5:s.length<=5:=h5 s (by rw[hf];simp);have hf1:=tl f1 λt ht=>h5 t (by rw[hf];simp[ht])
   have hfl:f1.length<=11:=by have:=congrArg List.length hf;simp at this;lia
   simp![];refine vq6 rfl (Kk [some (.no,tD s)] (λd y=>y.2=match d with|.int e=>pD (s.take e.toNat)|_=>.non) (WX ?_));have hln:qz (tD s)=some (.int s.length):=by show some (D.int ((rwD s).length:Nat))=_;rw[X2]
   simp![hln];refine⟨s.length+1,rfl,⋯,⋯,rfl,λd hd=>?_,λys hy=>?_⟩
   ·obtain⟨i,i0,i1,rfl⟩:=kxl hd;obtain⟨e,rfl⟩:=Yv i0;have dm:((s.take e).length:Int)=e:=by rw[Y5];lia
    simp![ww7,(qzq (s:=s) (e:=e) ⋯)];refine⟨⟨_,rfl⟩,?_⟩;show D.tup [.int e,tD (s.take e)]=D.tup [.int (s.take e).length,tD (s.take e)];rw[dm]
   ·have e1:(jZ 0 ((s.length:Int)+1)).map (λd=>match d with|.int e=>pD (s.take e.toNat)|_=>.non)=(pre s).map pD:=by
     rw[show(s.length:Int)+1=((s.length+1:Nat):Int)by lia,kq0,Xi];unfold pre;rw[Xi];exact Yj λk _=>by simp
    rw[vZ,Kz (h:=λd=>match d with|.int e=>pD (s.take e.toNat)|_=>.non) (λ_ _ h=>h) hy,e1];simp only[back,clr,at',List.map_cons,List.map_nil,List.set_cons_zero,List.set_cons_succ];have e2:qx (f1++[s])=qx f1++pre s:=by unfold qx;rw[List.flatMap_append];simp
    refine⟨_,_,rfl,rfl,?_,f1++[s],f2,some (.no,tD s),by rw[e2,Xl],by rw[hf];simp,rfl⟩;rw[X2,X2];have:(pre s).length=s.length+1:=by unfold pre;rw[X2,Xv]
    unfold big;lia
 ·rintro E ⟨f1,f2,l2,rfl,hf,hr⟩;have:f2=[]:=by cases f2 with|nil=>rfl|cons=>cases hr
  subst this;rw[Xq]at hf;subst hf;simp![];refine K0 (λE1 B ds ac=>∃(q0 q1:Option Sd) (s1 s2:List Sh),B=[q0,q1]/\ds=s2.map pD/\bs=s1++s2/\ac.map (·.2)=s1.map tD) ?_ ?_ ?_
  ·simp![hs];exact⟨_,_,[],bs,rfl,rfl,rfl,rfl⟩
  ·rintro E1 B d ds ac ⟨q0,q1,s1,s2,rfl,b7,hb,ha⟩;cases s2 with
   |nil=>cases b7
   |cons x s2=>
    injection b7 with e1 e2;subst e1 e2;simp![];exact⟨_,_,s1++[x],s2,rfl,rfl,by rw[hb];simp,by rw[Xl,ha];simp⟩
  ·rintro E1 B ac ⟨q0,q1,s1,s2,rfl,b7,hb,ha⟩;have:s2=[]:=by cases s2 with|nil=>rfl|cons=>cases b7
   subst this;rw[Xq]at hb;subst hb;rw[vZ,ha];exact⟨bs,rfl,hB⟩
def dctB(bs:List Sh):D:=.dct (bs.zipIdx.map λp=>(tD p.1,.int p.2))
theorem wjy:∀l:List (Sh×Nat),prT (l.map λp=>D.tup [tD p.1,.int p.2])=some (l.map λp=>(tD p.1,(p.2:Int))):=by
 intro l
 induction l with
 |nil=>rfl
 |cons p l ih=>
  rw[List.map_cons];unfold prT;rw[X6 (Wk p.1),ih];rfl
theorem qqb(bs:List Sh):bs.zipIdx.map (λp=>tD p.1)=bs.map tD:=by
 rw[show(λp:Sh×Nat=>tD p.1)=tD∘Prod.fst from rfl,<-Xi,List.zipIdx_map_fst]
theorem vx7{o bs}(hn:bs.Nodup)(hl:bs.length<=59):kwc (o,.lst (bs.zipIdx.map λp=>D.tup [tD p.1,.int p.2]))=some (.rt,dctB bs):=by
 have hc:(bs.zipIdx.map λp:Sh×Nat=>(tD p.1,(p.2:Int))).length<big/\((bs.zipIdx.map λp:Sh×Nat=>(tD p.1,(p.2:Int))).map (·.1)).Nodup:=by
  refine⟨by rw[X2,List.length_zipIdx];unfold big;lia,?_⟩;rw[Xi];show(bs.zipIdx.map λp=>tD p.1).Nodup;rw[qqb,List.nodup_iff_pairwise_ne,Yn];exact(List.nodup_iff_pairwise_ne.mp hn).imp λh e=>h (kzi e)
 unfold kwc;dsimp only;rw[wjy];dsimp only;rw[X6 hc,Xi];rfl
theorem vzf(bs:List Sh):unm (bs.zipIdx.map λp=>(tD p.1,D.int p.2))=true:=by
 cases bs with|nil=>rfl|cons=>rfl
theorem wxn{bs:List Sh}{x}:tD x∈(bs.zipIdx.map λp=>(tD p.1,D.int p.2)).map (·.1)↔x∈bs:=by
 rw[Xi];show tD x∈bs.zipIdx.map (λp=>tD p.1)↔_;rw[qqb];exact⟨λh=>by obtain⟨y,hy,e⟩:=aE h;rw[<-kzi e];exact hy,λh=>List.mem_map.mpr ⟨x,h,rfl⟩⟩
theorem vw6{bs x}:V9 (tD x) (dctB bs)=some (.bl (!decide (x∈bs))):=by
 unfold V9 dctB;dsimp only;rw[X6 ⟨Wk x,vzf bs⟩]
 congr 3
 exact decide_eq_decide.mpr wxn
theorem vjp x:∀(bs:List Sh) k,x∈bs->((bs.zipIdx k).map λp=>(tD p.1,D.int p.2)).find? (λe=>decide (e.1=tD x))=some (tD x,.int ((bs.idxOf x+k:Nat):Int)):=by
 intro bs
 induction bs with
 | nil=>exact λk h=>nomatch h
 | cons b bs ih=>
  intro k h;rw[List.zipIdx_cons,List.map_cons,List.find?_cons]
  by_cases e:b=x
  ·subst e;simp
  ·rw[Xh λz=>e (kzi z),ih _ ((aD h).resolve_left λz=>e z.symm),List.idxOf_cons,Zc e];simp;lia
theorem ix_B{bs x}(h:x∈bs):wqm (dctB bs) (tD x)=some (.int (bs.idxOf x:Nat)):=by
 have hp:D.pures ((bs.zipIdx.map λp=>(tD p.1,D.int p.2)).map (·.2))=true:=by
  rw[Xi];exact D.pures_map _ _ λ_ _=>rfl
 unfold wqm dctB;dsimp only;rw[X6 ⟨Wk x,vzf bs,hp⟩];unfold KQ;rw[vjp x bs 0 h];rfl
def v9(bs:List Sh)(x:Sh):D:=if x∈bs then .tup [.int (bs.idxOf x:Nat),.tup ((List.range (nk x)).map λ(k:Nat)=>D.int k)]else .non
theorem ww8{a b e}{E:En}{P X}:Eo (wvq a b (e::E)) P X=Eo (a (e::E)) (λE x=>Eo (b E) (λE y=>Wo (wqm x.2 y.2) E (λE d=>P E (.dp,d))) X) X:=by
 unfold wvq;rw[jz];congr 1;funext E x;rw[jz];congr 1;funext E y;rw[vY];exact vo_map
theorem wwa{c E P X}(h:Eo (c E) (λE x=>∃n:Nat,x.2=.int n/\n<=1000/\P E (.no,.tup ((List.range n).map λ(k:Nat)=>D.int k))) X):Eo (wvz c E) P X:=by
 unfold wvz;rw[jz];refine h.mono ?_;rintro E x ⟨n,e,hn,hP⟩;rw[e];dsimp only
 rwa [X6 ⟨by unfold vX;simp;lia,by unfold big;simp;lia⟩,Qx,kq0]
theorem YZ x:nk x<=x.length:=by
 have:=vqb (ns2 x) [];rw[List.nil_append,X2]at this;have e:(ddI []).length=0:=rfl;unfold nk;lia
theorem case_ok{bs x}(hl:x.length<=1000):Oo m_case_to [(.no,tD x),(.no,dctB bs)] (λy=>∃o,y=(o,v9 bs x)/\True) noX:=by
 refine v7 ?_;have hn:=vw6 (bs:=bs) (x:=x)
 by_cases h:x∈bs
 ·rw[Xf h]at hn;have hn:=hn;simp![hn,↓ww8,ix_B h];refine wwa ?_;simp![];refine(names_ok x hl).use ?_;intro o _;refine⟨nk x,rfl,by have:=YZ x;lia,?_⟩;simp![];exact⟨.no,by unfold v9;rw[X6 h],trivial⟩
 ·rw[Xh h]at hn;have hn:=hn;simp![hn];exact⟨_,by unfold v9;rw[Xa h],trivial⟩
abbrev lD(s:Sh):D:=.lst (rwD s)
theorem vkm(a b):peq (tD a) (tD b)=decide (a=b):=by
 have ka:jK 6 (tD a)=true:=by have:=Wk a;unfold ww at this;rw[Bool.and_eq_true]at this;exact this.1
 have kb:jK 6 (tD b)=true:=by have:=Wk b;unfold ww at this;rw[Bool.and_eq_true]at this;exact this.1
 rw[kqg ka kb];exact decide_eq_decide.mpr ⟨kzi,λe=>by rw[e]⟩
theorem vqi x:∀K:List Sh,((K.map tD).any λz=>peq z (tD x))=decide (x∈K):=by
 intro K
 induction K with
 |nil=>simp
 |cons k K ih=>
  rw[List.map_cons,List.any_cons,ih,vkm]
  grind
theorem V1{n}(s:Sh):D.flats (n+1) (rwD s)=true:=zK λd hd=>by
 obtain⟨w,_,rfl⟩:=aE hd;cases n<;>rfl
theorem wxu{x}{K:List Sh}:KZ (tD x) (.lst (K.map tD))=some (.bl (decide (x∈K))):=by
 have f1:(tD x).flat 30=true:=V1 x;have f2:D.flats 30 (K.map tD)=true:=zK λd hd=>by obtain⟨s,_,rfl⟩:=aE hd;exact V1 s
 show(if(tD x).flat 30&&D.flats 30 _ then some _ else none)=_;rw[f1,f2,vqi];rfl
theorem wvb x (K:List Sh):((K.map lD).any λz=>peq z (lD x))=decide (x∈K):=by
 rw[<-vqi,List.any_map,List.any_map];rfl
theorem wqf{x}{K:List Sh}:KZ (lD x) (.lst (K.map lD))=some (.bl (decide (x∈K))):=by
 have f1:(lD x).flat 30=true:=V1 x;have f2:D.flats 30 (K.map lD)=true:=zK λd hd=>by obtain⟨s,_,rfl⟩:=aE hd;exact V1 s
 show(if(lD x).flat 30&&D.flats 30 _ then some _ else none)=_;rw[f1,f2,wvb];rfl
def JY(bs:List Sh)(ss:List Str)(b:Sh):List D:=ss.map λz=>.lst ((List.range (nk b+1)).map λ(k:Nat)=>v9 bs (b++[(z,(k:Int))]))
theorem wvd{b z k}(h:b.length<=1000):k4 (.no,tD b) (.no,.tup [.tup [.str z,.int k]])=some (.no,tD (b++[(z,k)])):=by
 have:=wvc (a:=rwD b) (b:=[.tup [.str z,.int k]]) (by rw[X2,Za];lia)
 grind
theorem qzt{shs:List Sh}(hl:shs.length<=11)(h5:∀s∈shs,s.length<=5):Oo m_signs_in [(.no,.lst (shs.map tD))] (λy=>∃_:Unit,y=(.rt,sL (shs.flatMap λs=>s.map (·.1)))/\True) noX:=by
 refine v7 ?_;simp![];refine xY (λE ab=>∃(f1 f2:List Sh) (l2:Option Sd),E=[some (.no,.lst (shs.map tD)),some (.rt,sL (f1.flatMap λs=>s.map (·.1))),l2]/\shs=f1++f2/\ab=f2.map tD) ?_ ?_ ?_
 ·simp![];exact⟨[],shs,_,rfl,rfl,rfl⟩
 ·rintro E d ds ⟨f1,f2,l2,rfl,hf,hr⟩;cases f2 with
  | nil=>cases hr
  | cons s f2=>
   injection hr with e1 e2;subst e1 e2;have hs5:=h5 s (by rw[hf];simp);have hfl:f1.length<=11:=by have:=congrArg List.length hf;simp at this;lia
   have tl:∀f:List Sh,(∀s∈f,s.length<=5)->(f.flatMap λs=>s.map (·.1)).length<=5*f.length:=by
    intro f
    induction f with
    |nil=>intro _;simp
    |cons s f ih=>
     intro h;have h1:=h s X4;have h2:=ih λt ht=>h t (lc9 _ ht)
     rw[Zf,Y6,Xk,X2];lia
   have hf1:=tl f1 λt ht=>h5 t (by rw[hf];simp[ht])
   simp![];refine vq6 rfl (K0 (λE1 B ds ac=>E1=[some (.no,.lst (shs.map tD)),some (.rt,sL (f1.flatMap λs=>s.map (·.1))),some (.no,tD s)]/\∃(q0 q1:Option Sd) (s1 s2:Sh),B=[q0,q1]/\ds=rwD s2/\s=s1++s2/\ac.map (·.2)=(s1.map (·.1)).map D.str) ?_ ?_ ?_)
   ·simp![];exact⟨_,_,[],s,rfl,rfl,rfl,rfl⟩
   ·rintro E1 B d ds ac ⟨rfl,q0,q1,s1,s2,rfl,b7,hs,ha⟩;cases s2 with
    |nil=>cases b7
    |cons w s2=>
     injection b7 with e1 e2;subst e1 e2;simp![];exact⟨_,_,s1++[w],s2,rfl,rfl,by rw[hs];simp,by rw[Xl,ha];simp⟩
   ·rintro E1 B ac ⟨rfl,q0,q1,s1,s2,rfl,b7,hs,ha⟩;have:s2=[]:=by cases s2 with|nil=>rfl|cons=>cases b7
    subst this;rw[Xq]at hs;subst hs;rw[vZ,ha];have e2:((f1++[s]).flatMap λs=>s.map (·.1))=(f1.flatMap λs=>s.map (·.1))++s.map (·.1):=by rw[List.flatMap_append];simp
    have e3:∀A B,sL (A++B)=.lst (A.map D.str++B.map D.str):=λA B=>by rw[sL,Xl]
    refine⟨_,_,rfl,rfl,?_,f1++[s],f2,some (.no,tD s),by rw[e2,e3];rfl,by rw[hf];simp,rfl⟩;rw[X2,X2,X2];unfold big;lia
 ·rintro E ⟨f1,f2,l2,rfl,hf,hr⟩;have:f2=[]:=by cases f2 with|nil=>rfl|cons=>cases hr
  subst this;rw[Xq]at hf;subst hf;simp![]
  first|trivial|exact⟨(),trivial⟩|exact⟨(),rfl,trivial⟩
theorem qz6:∀ds:List D,wqp (.lst (ds.map λ_=>D.bl true))=some (.bl true):=by
 have h:∀ds:List D,bls (ds.map λ_=>D.bl true)=some (ds.map λ_=>true):=by
  intro ds
  induction ds with|nil=>rfl|cons d ds ih=>rw[List.map_cons,bls,ih];rfl
 intro ds;show(bls _).map _=_;rw[h];simp
def J3(shs bs:List Sh)(ss:List Str)(b:Sh):D:=.tup [.int (nk b),.bl (decide (b∈shs)),.lst (JY bs ss b)]
theorem vx2(bs:List Sh):∀k,zx k (bs.map tD)=(bs.zipIdx k).map λp=>.tup [.int p.2,tD p.1]:=by
 induction bs with
 |nil=>intro k;rfl
 |cons b bs ih=>
  intro k;rw[List.map_cons,zx,ih];rfl
theorem wz9{a x}(h:x∈a):x∈ddI a:=qxf a [] x (.inr h)
theorem vv0(f:Sh)(x:Str×Int):shW (f++[x])=shW f++[(x.1,idx (ddI (ns2 f++[x.2])) x.2)]:=qqw (by rw[jzk,rwD,rwD,Xl];rfl)
theorem vwv{S x}(h:x∉S):idx (S++[x]) x=S.length:=by
 unfold idx;rw[List.idxOf_append,Xa h];simp
theorem vv7{P:Sh->Prop}(h0:P [])(h1:∀f x,P f->P (f++[x])) w:P w:=by
 have:∀r:Sh,P r.reverse:=by
  intro r
  induction r with|nil=>exact h0|cons x r ih=>rw[List.reverse_cons];exact h1 _ x ih
 have e:=this w.reverse
 rwa [List.reverse_reverse]at e
theorem wz8(w:Sh):ddI (ns2 (shW w))=(List.range (ddI (ns2 w)).length).map λ(k:Nat)=>(k:Int):=by
 refine vv7 (P:=λw=>ddI (ns2 _)=(List.range (ddI _).length).map λ(k:Nat)=>(k:Int)) rfl (λf x ih=>?_) w
 ·have e1:ns2 (shW (f++[x]))=ns2 (shW f)++[idx (ddI (ns2 f++[x.2])) x.2]:=by rw[vv0,ns2,Xl];rfl
  have e2:ns2 (f++[x])=ns2 f++[x.2]:=by rw[ns2,Xl];rfl
  rw[e1,e2,Q6,ih]
  by_cases h:x.2∈ddI (ns2 f)
  ·have e3:ddI (ns2 f++[x.2])=ddI (ns2 f):=by rw[Q6,X6 h]
   rw[e3,X6];exact List.mem_map.mpr ⟨(ddI _).idxOf x.2,List.mem_range.mpr (List.idxOf_lt_length_of_mem h),rfl⟩
  ·have e3:ddI (ns2 f++[x.2])=ddI (ns2 f)++[x.2]:=by rw[Q6,Xa h]
   rw[e3,vwv h,Xa,Y6,Za,List.range_succ,Xl]
   ·rfl
   ·intro z;obtain⟨k,hk,e⟩:=aE z;have:=List.mem_range.mp hk;lia
theorem wxk(w:Sh):nk (shW w)=(ddI (ns2 w)).length:=by unfold nk;rw[wz8,X2,Xv]
end V
namespace W3
open Q PySem C
abbrev AZ:Str:="abcdefghijklmnopqrstuvwxyz"
def Sg(z:Str):Prop:=1<=z.cps.size/\z.cps.size<=8/\∀c∈z.cps.toList,c∈AZ.cps.toList
theorem kvx{n:Nat}{f:Nat->Str}(h:∀i j,i<j->j<n->f i≠f j):((List.range n).map f).Nodup:=by
 unfold List.Nodup;rw[Yn];exact List.pairwise_lt_range.imp_of_mem λ_ hj bh=>h _ _ bh (List.mem_range.mp hj)
theorem vzt{z:Str}{j:Int}(h0:0<=j)(h1:j<=z.cps.size):(Txt.slice z none (some j)).cps.toList=z.cps.toList.take j.toNat:=by
 have:=StrLaws.sliceText_to (x:=z) (j:=j) ⟨h0,by rw[X7];exact h1⟩;rw[show Txt.slice z none (some j)=StrLaws.sliceText z none (some j)from rfl,this];simp
theorem vzv{z:Str}{i j:Int}(h0:0<=i)(lf:i<=j)(h1:j<=z.cps.size):(Txt.slice z (some i) (some j)).cps.toList=(z.cps.toList.drop i.toNat).take (j - i).toNat:=by
 have:=StrLaws.sliceText_plain (x:=z) (i:=i) (j:=j) ⟨h0,lf,by rw[X7];exact h1⟩;rw[show Txt.slice z (some i) (some j)=StrLaws.sliceText z (some i) (some j)from rfl,this]
def chr(t:Int):Nat:=AZ.cps.toList.getD t.toNat 0
theorem wq9{t:Int}(h0:0<=t)(h1:t<26):kw (.str AZ) (.int t)=some (.str ⟨#[chr t]⟩)/\chr t∈AZ.cps.toList:=by
 have hl:AZ.cps.toList.length=26:=by decide +kernel
 have hs:AZ.cps.size=26:=by decide +kernel
 have e:AZ.cps.toList[t.toNat]?=some (chr t):=by
  unfold chr;rw[Yf,X5 ⋯];rfl
 refine⟨?_,Xs e⟩;show((Q.ixN AZ.cps.size t).bind λj=>(AZ.cps.toList[j]?).map λc=>D.str ⟨#[c]⟩)=_;unfold Q.ixN;rw[X6 h0,X6 ⋯];show((AZ.cps.toList[t.toNat]?).map λc=>D.str ⟨#[c]⟩)=_;rw[e];rfl
theorem vxb{t u:Int}(h0:0<=t)(h1:t<26)(g0:0<=u)(g1:u<26)(e:chr t=chr u):t=u:=by
 have h:∀i:Fin 26,∀j:Fin 26,AZ.cps.toList.getD i 0=AZ.cps.toList.getD j 0->i=j:=by decide +kernel
 have:=h ⟨t.toNat,⋯⟩ ⟨u.toNat,⋯⟩ e;have:=congrArg Fin.val this;have:t.toNat=u.toNat:=this;lia
def wdA(z:Str)(c:Int)(k:Nat):Str:=Txt.slice z none (some (1+((k:Int)+c / 3) % 8))
theorem qqd{z:Str}{c:Int}(hz:z.cps.size=8)(hl:∀x∈z.cps.toList,x∈AZ.cps.toList)(k:Nat):Sg (wdA z c k)/\((wdA z c k).cps.size:Int)=1+((k:Int)+c / 3) % 8:=by
 have t0:=Y9 ((k:Int)+c / 3) (show(8:Int)≠0 by decide);have t1:=Y0 ((k:Int)+c / 3) (show(0:Int)<8 by decide);have e:=vzt (z:=z) (j:=1+((k:Int)+c / 3) % 8) ⋯ ⋯;have hs:((wdA z c k).cps.size:Int)=1+((k:Int)+c / 3) % 8:=by
  unfold wdA;rw[<-X7,e,Y5,X7];lia
 refine⟨⟨⋯,⋯,λx hx=>hl x ?_⟩,hs⟩;unfold wdA at hx;rw[e]at hx;exact List.mem_of_mem_take hx
theorem qqe{z:Str}{c:Int}(hz:z.cps.size=8)(hl:∀x∈z.cps.toList,x∈AZ.cps.toList){n:Nat}(hn:n<=3):((List.range n).map (wdA z c)).Nodup:=kvx λi j lf hj e=>by
 have h1:=(qqd (c:=c) hz hl i).2;have h2:=(qqd (c:=c) hz hl j).2;rw[e]at h1;lia
def wdB(w1 w2:Str)(ii s:Int)(k:Nat):Str:=w1++⟨#[chr ((ii+(k:Int)*s) % 26)]⟩++w2
theorem jzh(w1 w2:Str)(ii s:Int)(k:Nat):(wdB w1 w2 ii s k).cps.toList=w1.cps.toList++(chr ((ii+(k:Int)*s) % 26)::w2.cps.toList):=by
 unfold wdB;rw[A.list_app,A.list_app,Yb];rfl
theorem vz8{w1 w2:Str}{ii s:Int}(hs:w1.cps.size+w2.cps.size<=7)(h1:∀x∈w1.cps.toList,x∈AZ.cps.toList)(h2:∀x∈w2.cps.toList,x∈AZ.cps.toList)(k:Nat):Sg (wdB w1 w2 ii s k):=by
 have t0:=Y9 (ii+(k:Int)*s) (show(26:Int)≠0 by decide);have t1:=Y0 (ii+(k:Int)*s) (show(0:Int)<26 by decide);have hz:(wdB w1 w2 ii s k).cps.size=w1.cps.size+w2.cps.size+1:=by
  rw[<-X7,jzh,Y6,Xk,X7,X7];lia
 refine⟨⋯,⋯,λx hx=>?_⟩;rw[jzh]at hx;rcases aA hx with hx|hx
 ·exact h1 x hx
 ·rcases aD hx with rfl|hx
  ·exact(wq9 t0 t1).2
  ·exact h2 x hx
theorem qqc{w1 w2:Str}{ii s:Int}(s1:1<=s)(s5:s<=5){n:Nat}(hn:n<=3):((List.range n).map (wdB w1 w2 ii s)).Nodup:=kvx λi j lf hj e=>by
 have e:(wdB w1 w2 ii s i).cps.toList=(wdB w1 w2 ii s j).cps.toList:=by rw[e]
 rw[jzh,jzh]at e;have e:=List.append_cancel_left e;injection e with e _;have b:=λk:Nat=>Y9 (ii+(k:Int)*s) (show(26:Int)≠0 by decide)
 have d:=λk:Nat=>Y0 (ii+(k:Int)*s) (show(0:Int)<26 by decide)
 have e:=vxb (b i) (d i) (b j) (d j) e;have hi:i=0\/i=1:=⋯
 have hj:j=1\/j=2:=⋯
 rcases hi with rfl|rfl<;>rcases hj with rfl|rfl<;>lia
def hW(f:Nat->Str):D->D
 |.int k=>.str (f k.toNat)|d=>d
theorem qkz{G:D->Sd->Prop}{f:Nat->Str}{n:Int}{ys:List Sd}(hG:∀d y,G d y->y.2=hW f d)(h:Each G (jZ 0 n) ys):ys.map (·.2)=((List.range n.toNat).map f).map D.str:=by
 rw[Kz (h:=hW f) hG h];unfold jZ;rw[Xi,Xi,Int.sub_zero]
 congr 1
 funext k;show D.str (f (0+(k:Int)).toNat)=_;rw[show(0+(k:Int)).toNat=k by lia];rfl
theorem words2(c i8:Int)(h0:1<=i8)(h1:i8<=3):Oo A.m__law_words [(.no,.int c),(.no,.int i8)] (λy=>∃l,y=(.rt,sL l)/\(l.length:Int)=i8/\l.Nodup/\∀z∈l,Sg z) noX:=by
 unfold A.m__law_words;refine v7 ?_;simp![↓vza];refine Kk [some (.dp,.str AZ),some (.no,.int c)] (λ_ y=>∃ch∈AZ.cps.toList,y.2=.str ⟨#[ch]⟩) ?_;simp![];refine⟨rfl,λd hd=>?_,λys hys=>?_⟩
 ·obtain⟨j,j0,j1,rfl⟩:=kxl hd;simp![];refine(A.mixed_ok c j j0 ⋯).use ?_;intro v _;have t0:=Y9 v (show(26:Int)≠0 by decide);have t1:=Y0 v (show(0:Int)<26 by decide);obtain⟨ch,f7,hc⟩:=A.ix_strM AZ (v % 26) t0 t1;simp![hc];exact⟨⟨_,rfl⟩,ch,f7,rfl⟩
 obtain⟨ps,g1,g2,g3⟩:=A.each_one (λd y h=>h) hys;have bn:ps.length=8:=by rw[g2];rfl
 obtain⟨z,hz,z0,z1⟩:=A.join_az g3 ⋯;rw [vZ,g1];simp only[back,clr,at',List.map_cons,List.map_nil,List.set_cons_zero,List.set_cons_succ];have zs:z.cps.size<=100:=⋯
 have z8:z.cps.size=8:=⋯
 by_cases h3:c % 3=1
 ·have hd:fEq (.int (c % 3)) (.int 1)=some (.bl true):=by rw[h3];rfl
  simp![hz,hd];refine Kk [some (.dp,.str z),some (.no,.int c)] (λd y=>y.2=hW (wdA z c) d) ?_;simp![];refine⟨rfl,λd hd=>?_,λys hys=>?_⟩
  ·obtain⟨j,j0,j1,rfl⟩:=kxl hd;have s1:=B.sl_s (o:=.no) (z:=z) (lo:=none) (hi:=some (1+(j+c / 3) % 8)) zs;have s1':=B.sl_s (o:=.dp) (z:=z) (lo:=none) (hi:=some (1+(j+c / 3) % 8)) zs;simp![s1,s1'];refine⟨⟨_,rfl⟩,?_⟩;show _=D.str (wdA z c j.toNat);unfold wdA;rw[show((j.toNat:Nat):Int)=j by lia]
  ·rw[vZ,qkz (λ_ _ h=>h) hys];exact⟨_,rfl,by rw[X2,Xv];lia,qqe z8 z1 ⋯,λw hw=>by
    obtain⟨k,_,rfl⟩:=aE hw;exact(qqd z8 z1 k).1⟩
 ·have hd:fEq (.int (c % 3)) (.int 1)=some (.bl false):=by rw[wz2];simp[h3]
  have a0:=Y9 (c / 3) (show(8:Int)≠0 by decide);have a1:=Y0 (c / 3) (show(0:Int)<8 by decide);have b0:=Y9 (c / 24) (show 1+c / 3 % 8≠0 by lia);have b1:=Y0 (c / 24) (show 0<1+c / 3 % 8 by lia);simp![hz,hd,mod_i (a:=c / 24) (b:=1+c / 3 % 8) ⋯];generalize c / 24 % (1+c / 3 % 8)=jc at b0 b1;obtain⟨lg,hlg⟩:∃lg,lg=1+c / 3 % 8:=⟨_,rfl⟩;rw[<-hlg]at b1 ⊢;have c0:=Y9 (c / 192) (show(5:Int)≠0 by decide);have c1:=Y0 (c / 192) (show(0:Int)<5 by decide);obtain⟨ch,f7,hix⟩:=A.ix_strM z jc b0 ⋯;obtain⟨ii,hii⟩:=A.az_found ch (z1 ch f7);have e1:=vzt (z:=z) (j:=jc) b0 ⋯;have e2:=vzv (z:=z) (i:=jc+1) (j:=lg) ⋯ ⋯ ⋯;have s1:=λo=>B.sl_s (o:=o) (z:=z) (lo:=none) (hi:=some jc) zs
  have s2:=λo=>B.sl_s (o:=o) (z:=z) (lo:=some (jc+1)) (hi:=some lg) zs
  generalize Txt.slice z none (some jc)=w1 at e1 s1;generalize Txt.slice z (some (jc+1)) (some lg)=w2 at e2 s2;have n1:(w1.cps.size:Int)=jc:=by rw[<-X7,e1,Y5,X7];lia
  have n2:(w2.cps.size:Int)=lg - (jc+1):=by rw[<-X7,e2,Y5,List.length_drop,X7];lia
  have v1:∀x∈w1.cps.toList,x∈AZ.cps.toList:=λx hx=>z1 x (by rw[e1]at hx;exact List.mem_of_mem_take hx)
  have v2:∀x∈w2.cps.toList,x∈AZ.cps.toList:=λx hx=>z1 x (by rw[e2]at hx;exact List.mem_of_mem_drop (List.mem_of_mem_take hx))
  refine xY (λE ab=>∃(j:Nat) (l7 l8:Option Sd) (o2 o3 o4 o5:Own),E=[some (.no,.int c),some (.no,.int i8),some (o2,.str AZ),some (o3,.str z),some (o4,.int lg),some (o5,.int jc),some (.rt,sL ((List.range j).map (wdB w1 w2 ii (1+c / 192 % 5)))),l7,l8]/\(j:Int)<=i8/\ab=jZ j i8) ?_ ?_ ?_
  ·simp![];exact⟨0,_,_,_,_,_,_,rfl,⋯,rfl⟩
  ·rintro E d ds ⟨j,l7,l8,o2,o3,o4,o5,rfl,j1,hr⟩;obtain⟨hj,rfl,rfl⟩:=YV j1 hr;have m1:=mul_l (o1:=.no) (o2:=.no) (a:=(j:Int)) (b:=1+c / 192 % 5) ⋯ ⋯;have t0:=Y9 ((ii:Int)+j*(1+c / 192 % 5)) (show(26:Int)≠0 by decide);have t1:=Y0 ((ii:Int)+j*(1+c / 192 % 5)) (show(0:Int)<26 by decide);simp![↓vzc,hix,hii,m1,show qjm (.str AZ)=true from rfl];have hx:=(wq9 t0 t1).1;have fc:((⟨#[chr (((ii:Int)+j*(1+c / 192 % 5)) % 26)]⟩:Str).cps.size)=1:=rfl;have a1:=qz7 (o1:=.no) (o2:=.no) (a:=w1) (b:=⟨#[chr (((ii:Int)+j*(1+c / 192 % 5)) % 26)]⟩) (by rw[fc];lia);have a2:=qz7 (o1:=.no) (o2:=.no) (a:=w1++⟨#[chr (((ii:Int)+j*(1+c / 192 % 5)) % 26)]⟩) (b:=w2) (by rw[qzs,fc];lia);have a1':=qz7 (o1:=.no) (o2:=sub o2) (a:=w1) (b:=⟨#[chr (((ii:Int)+j*(1+c / 192 % 5)) % 26)]⟩) (by rw[fc];lia);refine KJ rfl ?_;simp![s1,s2,hx,a1,a2,a1'];refine⟨_,rfl,by rw[X2,X2,Xv];lia,?_⟩;rw[show((List.range j).map (wdB w1 w2 ii (1+c / 192 % 5))).map D.str++[D.str (w1++⟨#[chr (((ii:Int)+j*(1+c / 192 % 5)) % 26)]⟩++w2)]=((List.range (j+1)).map (wdB w1 w2 ii (1+c / 192 % 5))).map D.str by rw[List.range_succ,Xl,Xl];rfl];exact⟨j+1,_,_,_,_,_,_,rfl,⋯,by rw[show((j:Int)+1)=((j+1:Nat):Int)by lia]⟩
  ·rintro E ⟨j,l7,l8,o2,o3,o4,o5,rfl,j1,hr⟩;have:=kvi j1 hr;simp![];exact⟨_,rfl,by rw[X2,Xv];lia,qqc ⋯ ⋯ ⋯,λw hw=>by
    obtain⟨k,_,rfl⟩:=aE hw;exact vz8 ⋯ v1 v2 k⟩
end W3
namespace Nk70
open PySem Q
def m_shape_of : Fn:= V.m_shape_of
def m_beginnings_of : Fn:= V.m_beginnings_of
def m_names_in : Fn:= V.m_names_in
def m_case_to : Fn:= V.m_case_to
noncomputable def jqw:Fn:=fn 6
  (j7 (jV 3 (ww1 (vE (cF2 k4 (vE (k3 m_names_in [(cV 0)])) (C9 1)))))
  (j7 (jV 4 (qk .dp []))
  (j7 (vJ (itS (cV 1)) (.n 5) (wK wq 4 (K5 (cLC .rt 1 [0,5,2] (itS (cV 3)) (.n 0) tYes (k3 m_case_to [(cF2 k4 (vV 1) (vE (qZ .no [(qZ .no [(cV 2),(cV 0)])]))),(cV 3)])))))
  (jW (cMv 4)))))
def m_signs_in : Fn:= V.m_signs_in
noncomputable def Vq:Fn:=fn 5
  (j7 (jV 2 (cLC .rt 1 [] (itS (cV 1)) (.n 0) tYes (cF1 XZ (vE (k3 m_shape_of [(cV 0)])))))
  (j7 (sIf (tNot (tEQ (vE (cF1 (pu1 wqp) (vE (cLC .rt 1 [0] (itS (k3 m_signs_in [(cV 2)])) (.n 0) tYes (cF2 (pu2 KZ) (vV 0) (vV 1)))))))) vv4 kZ)
  (j7 (sIf (tNot (tEQ (vE (cF1 (pu1 wqp) (vE (cLC .rt 1 [] (itS (cV 2)) (.n 0) tYes (cF2 (pu2 fLe) (vE (k3 m_names_in [(cV 0)])) (C9 3)))))))) vv4 kZ)
  (j7 (jV 3 (k3 m_beginnings_of [(cV 2)]))
  (j7 (jV 4 (cF1 kwc (vE (cLC .rt 2 [] (wvx (cV 3)) (.t [0,1]) tYes (qZ .no [(cV 1),(cV 0)])))))
  (jW (qZ .dp [(K5 (cF1 XJ (vV 0))),(cLC .dp 1 [2,0,4] (itS (cV 3)) (.n 0) tYes (qZ .dp [(K5 (k3 m_names_in [(cV 0)])),(cF2 (pu2 KZ) (vV 0) (vV 1)),(K5 (k3 jqw [(cV 0),(cV 2),(cV 3)]))]))])))))))
def m__law_cell_at : Fn:= B.m__law_cell_at
def m__law_mixed : Fn:= A.m__law_mixed
def m__law_words : Fn:= A.m__law_words
def m__law_number : Fn:= A.m__law_number
def QJ:Fn:=fn 1
  (jW (wv3 (vE (cF1 (pu1 (kW "int")) (vV 0))) (vk7 (vE (cF1 (pu1 (kW "bool")) (vV 0))))))
def jkx:Fn:=fn 5
  (j7 (jV 1 (qk .rt []))
  (j7 (jV 2 (qk .rt []))
  (j7 (vJ (itS (cV 0)) (.t [3,4]) (j7 (sIf (tE (cF2 (pu2 wW) (vV 4) (vV 1))) (wK wq 1 (cV 4)) kZ)
  (wK wq 2 (qZ .no [(cV 3),(ZK (vV 1) (vV 4))]))))
  (jW (cMv 2)))))
def ZJ:Fn:=fn 1
  (jW (cF1 ZV (vE (k3 m__law_words [(cF2 (pu2 xq) (vV 0) (C9 4)),(cF2 k4 (C9 1) (vE (cF2 (pu2 kY) (vV 0) (C9 3))))]))))
noncomputable def Zx:Fn:=fn 14
  (j7 (jV 4 (k3 m__law_cell_at [(cV 0),(cV 1)]))
  (j7 (jV 5 (k3 m__law_number [(k3 m__law_cell_at [(cV 0),(cF2 k4 (vV 1) (C9 1))])]))
  (j7 (jV 6 (qk .rt [(cV 5),(cF2 k4 (vE (cF2 (pu2 xq) (vV 5) (C9 2))) (vE (cF2 (pu2 Q9) (C9 10) (C9 59)))),(cF2 (pu2 XQ) (vE (cF2 (pu2 xq) (vV 5) (C9 2))) (vE (cF2 (pu2 Q9) (C9 10) (C9 59))))]))
  (j7 (jV 7 (qk .rt []))
  (j7 (vJ (xv (vE (cF2 (pu2 kY) (vV 4) (vE (cF2 k4 (vV 3) (C9 1)))))) (.n 8) (j7 (jV 9 (k3 m__law_mixed [(k3 m__law_cell_at [(cV 0),(cF2 k4 (vE (cF2 k4 (vV 1) (C9 2))) (vV 8))]),(cC (.int 0))]))
  (j7 (jV 10 (qk .rt []))
  (j7 (jV 11 (cF2 (pu2 kY) (vV 9) (C9 6)))
  (j7 (vJ (xv (vV 11)) (.n 12) (j7 (jV 13 (cF2 (pu2 xq) (vV 9) (k6 (vE (qk .rt [(cC (.int 6)),(cC (.int 54)),(cC (.int 486)),(cC (.int 4374)),(cC (.int 39366))])) (vV 12))))
  (wK wq 10 (qZ .no [(cH (k6 (vV 2) (vE (cF2 (pu2 kY) (vV 13) (vE (cF1 (pu1 qz) (vV 2))))))),(cH (k6 (vV 6) (vE (cF2 (pu2 kY) (vE (cF2 (pu2 xq) (vV 13) (C9 3))) (C9 3)))))]))))
  (wK wq 7 (cV 10)))))))
  (jW (cMv 7)))))))
noncomputable def jjs:Fn:=fn 4
  (j7 (jV 1 (qk .rt [(qk .rt [])]))
  (j7 (vJ (itS (cV 0)) (.n 2) (vJ (xv (vE (cF1 (pu1 qz) (vV 2)))) (.n 3) (sIf (tE (cF2 (pu2 wW) (vE (cSl (vV 2) none (some (vE (cF2 k4 (vV 3) (C9 1)))))) (vV 1))) (wK wq 1 (cSl (vV 2) none (some (vE (cF2 k4 (vV 3) (C9 1)))))) kZ)))
  (jW (cLC .rt 2 [] (itS (cF1 Zv (vE (cLC .rt 1 [] (itS (cV 1)) (.n 0) tYes (qZ .no [(cF1 (pu1 qz) (vV 0)),(cV 0)]))))) (.t [0,1]) tYes (cV 1)))))
def ZZ : Fn:= V.m_names_in
noncomputable def ZY:Fn:=fn 3
  (j7 (sIf (tE (cF2 (pu2 wW) (vV 1) (vV 2))) (jW (cF2 (f2First fIsNon) (vV 0) (vE (cC .non)))) kZ)
  (j7 (sIf (tOr (tNot (tEQ (vE (cF1 (pu1 (kW "tuple")) (vV 0))))) (tOr (tE (cF2 (pu2 fNe) (vE (cF1 (pu1 qz) (vV 0))) (C9 2))) (tOr (tNot (tEQ (vE (k3 QJ [(cH (k6 (vV 0) (C9 0)))])))) (tNot (tEQ (vE (cF1 (pu1 (kW "tuple")) (k6 (vV 0) (C9 1))))))))) (jW (cC (.bl false))) kZ)
  (j7 (sIf (tE (cF2 (pu2 fGt) (vE (cF1 (pu1 qz) (vE (cLC .rt 1 [] (itS (cH (k6 (vV 0) (C9 1)))) (.n 0) (tNot (tEQ (vE (k3 QJ [(cV 0)])))) (cV 0))))) (C9 0))) (jW (cC (.bl false))) kZ)
  (jW (cF2 (pu2 fEq) (vV 0) (vE (qZ .no [(ZK (vV 2) (vV 1)),(cF1 XZ (vE (cLC .rt 1 [] (xv (vE (k3 ZZ [(cV 1)]))) (.n 0) tYes (cV 0))))])))))))
noncomputable def jk8:Fn:=fn 8
  (j7 (sIf (tOr (tNot (tEQ (vE (cF1 (pu1 (kW "tuple")) (vV 0))))) (tOr (tE (cF2 (pu2 fNe) (vE (cF1 (pu1 qz) (vV 0))) (C9 3))) (tOr (tNot (tEQ (vE (k3 QJ [(cH (k6 (vV 0) (C9 0)))])))) (tE (cF2 (pu2 fNe) (k6 (vV 0) (C9 0)) (vE (k3 ZZ [(cV 1)]))))))) (jW (cC (.bl false))) kZ)
  (j7 (sIf (tOr (tNot (tEQ (vE (cF1 (pu1 (kW "bool")) (k6 (vV 0) (C9 1)))))) (tE (cF2 (pu2 fNe) (k6 (vV 0) (C9 1)) (vE (cF2 (pu2 KZ) (vV 1) (vV 3)))))) (jW (cC (.bl false))) kZ)
  (j7 (sIf (tOr (tNot (tEQ (vE (cF1 (pu1 (kW "list")) (k6 (vV 0) (C9 2)))))) (tE (cF2 (pu2 fNe) (vE (cF1 (pu1 qz) (k6 (vV 0) (C9 2)))) (vE (cF1 (pu1 qz) (vV 4)))))) (jW (cC (.bl false))) kZ)
  (j7 (vJ (qwt (cV 4) (cH (k6 (vV 0) (C9 2)))) (.t [5,6]) (j7 (sIf (tOr (tNot (tEQ (vE (cF1 (pu1 (kW "list")) (vV 6))))) (tE (cF2 (pu2 fNe) (vE (cF1 (pu1 qz) (vV 6))) (vE (cF2 k4 (k6 (vV 0) (C9 0)) (C9 1)))))) (jW (cC (.bl false))) kZ)
  (vJ (xv (vE (cF1 (pu1 qz) (vV 6)))) (.n 7) (sIf (tNot (tEQ (vE (k3 ZY [(cH (k6 (vV 6) (vV 7))),(cF2 k4 (vV 1) (vE (qk .rt [(qZ .no [(cV 5),(cV 7)])]))),(cV 2)])))) (jW (cC (.bl false))) kZ))))
  (jW (cC (.bl true)))))))
noncomputable def WV:Fn:=fn 6
  (j7 (jV 3 (k3 jjs [(cV 2)]))
  (j7 (sIf (tOr (tNot (tEQ (vE (cF1 (pu1 (kW "tuple")) (vV 0))))) (tOr (tE (cF2 (pu2 fNe) (vE (cF1 (pu1 qz) (vV 0))) (C9 2))) (tOr (tNot (tEQ (vE (cF1 (pu1 (kW "list")) (k6 (vV 0) (C9 0)))))) (tE (cF2 (pu2 fNe) (k6 (vV 0) (C9 0)) (vV 1)))))) (jW (cC (.bl false))) kZ)
  (j7 (sIf (tOr (tNot (tEQ (vE (cF1 (pu1 (kW "list")) (k6 (vV 0) (C9 1)))))) (tE (cF2 (pu2 fNe) (vE (cF1 (pu1 qz) (k6 (vV 0) (C9 1)))) (vE (cF1 (pu1 qz) (vV 3)))))) (jW (cC (.bl false))) kZ)
  (j7 (vJ (qwt (cH (k6 (vV 0) (C9 1))) (cV 3)) (.t [4,5]) (sIf (tNot (tEQ (vE (k3 jk8 [(cV 4),(cV 5),(cV 3),(cV 2),(cV 1)])))) (jW (cC (.bl false))) kZ))
  (jW (cC (.bl true)))))))
noncomputable def m_law:Fn:=fn 12
  (j7 (jV 1 (k3 ZJ [(k3 m__law_cell_at [(cV 0),(cC (.int 0))])]))
  (j7 (jV 2 (k3 Zx [(cV 0),(cC (.int 1)),(cV 1),(cC (.int 10))]))
  (j7 (jV 3 (cLC .rt 1 [] (itS (cV 2)) (.n 0) tYes (k3 jkx [(cV 0)])))
  (j7 (jV 4 (qk .dp [(K5 (cF1 XJ (vV 1))),(cLC .dp 1 [] (itS (cV 2)) (.n 0) tYes (K5 (cF1 XJ (vV 0))))]))
  (j7 (jV 5 (kwn Vq [(k6 (vV 4) (C9 0)),(k6 (vV 4) (C9 1))]))
  (j7 (sIf (tOr (tNot (tEQ (vE (ZW WV [(vV 5),(vV 1),(vV 3)])))) (tE (cF2 (pu2 fNe) (vV 4) (vE (qk .rt [(cV 1),(cV 2)]))))) (jW (cC (.bl false))) kZ)
  (j7 (kvd 5 6 7 8 9 [1])
  (j7 (sPC 5 [0])
  (j7 (jV 10 (kwn Vq [(k6 (vV 4) (C9 0)),(k6 (vV 4) (C9 1))]))
  (j7 (sPC 4 [0])
  (j7 (kvc 4 11 [1])
  (jW (k3 WV [(cV 10),(cV 1),(cV 3)])))))))))))))
end Nk70
namespace Nk70
open Q PySem C V
theorem vq8:m__law_cell_at=B.m__law_cell_at:=rfl
theorem vx5:m__law_mixed=A.m__law_mixed:=rfl
theorem vx4:m__law_words=A.m__law_words:=rfl
theorem vjw:m__law_number=A.m__law_number:=rfl
theorem qzu(c:Int):Oo ZJ [(.no,.int c)] (λy=>∃ss,y=(.rt,sL ss)/\1<=ss.length/\ss.length<=3/\∀z∈ss,z.cps.size<=8) noX:=by
 have m0:=Y9 c (show(3:Int)≠0 by decide);have m1:=Y0 c (show(0:Int)<3 by decide);unfold ZJ;refine v7 ?_;rw[vx4];simp![mod_i (a:=c) (b:=3) ⋯,div_i (a:=c) (b:=4) ⋯ ⋯];refine(W3.words2 (c / 4) (1+c % 3) ⋯ ⋯).use ?_;rintro ss ⟨hl,_,hg⟩;simp![qzm (o:=.no) (ss:=ss) ⋯];exact⟨K3 ss,rfl,by rw[jzv];lia,by rw[jzv];lia,λz hz=>(hg z ((jqr ss).mem_iff.mp hz)).2.1⟩
theorem qzw(w:Sh)(hw:w.length<=1000):Oo jkx [(.no,lD w)] (λy=>y=(.rt,lD (shW w))) noX:=by
 unfold jkx;refine v7 ?_;simp![];refine xY (λE ab=>∃(f1 f2:Sh) (l3 l4:Option Sd),E=[some (.no,lD w),some (.rt,iL (ddI (ns2 f1))),some (.rt,lD (shW f1)),l3,l4]/\w=f1++f2/\ab=rwD f2) ?_ ?_ ?_
 ·simp![];exact⟨[],w,_,_,rfl,rfl,rfl⟩
 ·rintro E d ds ⟨f1,f2,l3,l4,rfl,hf,hr⟩;cases f2 with
  | nil=>cases hr
  | cons x f2=>
   injection hr with e1 e2;subst e1 e2;have ae:f1.length+(f2.length+1)=w.length:=by rw[hf];simp
   have hnk:=YZ f1;have hn:ns2 (f1++[x])=ns2 f1++[x.2]:=by rw[ns2,Xl];rfl
   have h8:=Q6 (ns2 f1) x.2;have fin:∀K:List Int,ddI (ns2 (f1++[x]))=K->XX (iL K) (.int x.2)=some (.int (idx K x.2)):=λK hK=>by
    have hm:x.2∈K:=by rw[<-hK];exact wz9 (List.mem_map.mpr ⟨x,by simp,rfl⟩)
    rw[F.idx_il (List.any_eq_true.mpr ⟨x.2,hm,Z8 _⟩)];rfl
   have nj:(rwD (shW f1)).length<=1000:=by rw[X2,jzw];lia
   have esh:∀K:List Int,ddI (ns2 (f1++[x]))=K->rwD (shW f1)++[.tup [.str x.1,.int (idx K x.2)]]=rwD (shW (f1++[x])):=λK hK=>by rw[jzk,<-hn,hK]
   by_cases hm:x.2∈ddI (ns2 f1)
   ·rw[X6 hm]at h8;rw[<-hn]at h8;have i6:wW (.int x.2) (iL (ddI (ns2 f1)))=some (.bl false):=by rw[F.nin_il,Xf hm];rfl
    simp![i6];refine KJ rfl ?_;simp![fin _ h8];exact⟨_,rfl,⋯,f1++[x],f2,_,_,by rw[esh _ h8,h8],by rw[hf];simp,rfl⟩
   ·rw[Xa hm]at h8;rw[<-hn]at h8;have i6:wW (.int x.2) (iL (ddI (ns2 f1)))=some (.bl true):=by rw[F.nin_il,Xh hm];rfl
    have hap:(ddI (ns2 f1)).map D.int++[D.int x.2]=(ddI (ns2 f1)++[x.2]).map D.int:=by rw[Xl];rfl
    simp![i6];refine KJ rfl ?_;simp![];refine⟨_,rfl,by rw[X2];unfold nk at hnk;lia,?_⟩;rw[hap];simp![];refine KJ rfl ?_;simp![fin _ h8];exact⟨_,rfl,⋯,f1++[x],f2,_,_,by rw[esh _ h8,h8],by rw[hf];simp,rfl⟩
 ·rintro E ⟨f1,f2,l3,l4,rfl,hf,hr⟩;have:f2=[]:=by cases f2 with|nil=>rfl|cons=>cases hr
  subst this;rw[Xq]at hf;subst hf;simp![]
theorem wkr:∀(l m:List Int),l.Nodup->(∀x∈l,x∈m)->l.length<=m.length:=by
 intro l
 induction l with
 |nil=>intro m _ _;exact Y8 _
 |cons a l ih=>
  intro m hn hs;rw[List.nodup_cons]at hn;have ha:=hs a X4;have:=ih (m.erase a) hn.2 λx hx=>(List.mem_erase_of_ne (show x≠a from λe=>hn.1 (e▸hx))).mpr (hs x (lc9 _ hx))
  rw[List.length_erase_of_mem ha]at this;have h1:0<m.length:=List.length_pos_of_mem ha;rw[Xk];lia
theorem vxc{ns:List Int}(hb:∀i∈ns,Builtin.Int.intBits i<=1048576)(k:Nat):(B.cellAt ns k).natAbs.log2<=1048576:=by
 unfold B.cellAt;rw[Yf]
 by_cases h:k<ns.length
 ·rw[X5 h];have:=hb _ (Xz h);show(ns[k]).natAbs.log2<=1048576;unfold Builtin.Int.intBits at this
  split at this
  ·rename_i e;have:ns[k].natAbs=0:=by simpa using e
   rw[this];decide
  ·omega
 ·rw[Yk (by omega)];decide
theorem vv1{ns:List Int}(hb:∀i∈ns,Builtin.Int.intBits i<=1048576)(k:Nat):A.Sh (B.cellAt ns k):=by
 have:=vxc hb k;unfold A.Sh;omega
structure Tab (ss:List Str)(ak:List Sh):Prop where
 len:ak.length<=10
 l5:∀w∈ak,w.length<=5
 sg:∀w∈ak,∀p∈w,p.1∈ss
 nm:∀w∈ak,∃P:List Int,P.length=3/\∀p∈w,p.2∈P
theorem Tab.n3{ss:List Str}{ak:List Sh}(h:Tab ss ak):∀w∈ak,nk (shW w)<=3:=λw hw=>by
 obtain⟨P,hP,h2⟩:=h.nm w hw;rw[wxk,<-hP];exact wkr _ _ (U.ddI_nd _) λx hx=>by
  obtain⟨p,hp,rfl⟩:=aE (U.ddI_mem.mp hx);exact h2 p hp
theorem qzl(ns:List Int)(hn:ns.length<=63)(hb:∀i∈ns,Builtin.Int.intBits i<=1048576){ss:List Str}(h1:1<=ss.length)(h3:ss.length<=3):
  Oo Zx [(.no,iL ns),(.no,.int 1),(.no,sL ss),(.no,.int 10)] (λy=>∃ak,y=(.rt,.lst (ak.map lD))/\Tab ss ak) noX:=by
 have cel:∀k:Nat,Oo B.m__law_cell_at [(.no,iL ns),(.no,.int k)] (λy=>∃o':Own,y=(o',.int (B.cellAt ns k))/\True) noX:=λk=>B.cell_ok ns k ⋯
 have p59:Q9 (.int 10) (.int 59)=some (.int (10 ^ 59)):=rfl;unfold Zx;simp only[vq8,vx5,vjw];refine v7 ?_;simp![];refine(cel 1).use ?_;intro _ _;simp![];refine(cel 2).use ?_;intro _ _;simp![];refine(A.number_ok _ (vv1 hb 2)).use ?_;intro one _;generalize B.cellAt ns 1=hd;simp![p59];obtain⟨P,hP,hPl⟩:∃P:List Int,[D.int one,D.int (one / 2+10 ^ 59),D.int (one / 2 - 10 ^ 59)]=P.map D.int/\P.length=3:=⟨[one,one / 2+10 ^ 59,one / 2 - 10 ^ 59],rfl,rfl⟩;rw [hP];have q0:=Y9 hd (show(11:Int)≠0 by decide);have q1:=Y0 hd (show(0:Int)<11 by decide);have hmh:kY (.int hd) (.int (10+1))=some (.int (hd % 11)):=mod_i ⋯;obtain⟨N,hN⟩:=Yv q0;rw [hN]at hmh q1;have hpx:∀i:Int,0<=i->i<3->∃v∈P,kw (.lst (P.map D.int)) (.int i)=some (.int v):=λi i0 i1=>by
  have hl:i.toNat<P.length:=⋯
  exact⟨P[i.toNat],Xz _,wvw i0 (by rw[Xn,X5 hl];rfl)⟩
 have hsx:∀i:Int,0<=i->i<ss.length->∃z∈ss,kw (sL ss) (.int i)=some (.str z):=λi i0 i1=>by
  have hl:i.toNat<ss.length:=⋯
  exact⟨ss[i.toNat],Xz _,wvw i0 (by rw[Xn,X5 hl];rfl)⟩
 have dq:∀i:Int,0<=i->i<5->∃v:Int,0<v/\v<100000/\kw (.lst [.int 6,.int 54,.int 486,.int 4374,.int 39366]) (.int i)=some (.int v):=λi i0 i1=>by
  rcases(show i=0\/i=1\/i=2\/i=3\/i=4 by lia)with rfl|rfl|rfl|rfl|rfl<;>exact⟨_,⋯,⋯,rfl⟩
 refine xY (λE ab=>∃(k:Int) (ak:List Sh) (o1 o4 o5:Own) (d4 d5:D) (l8 l9 l10 l11 n8 ng:Option Sd),E=[some (.no,iL ns),some (o1,.int 1),some (.no,sL ss),some (.no,.int 10),some (o4,d4),some (o5,d5),some (.rt,.lst (P.map D.int)),some (.rt,.lst (ak.map lD)),l8,l9,l10,l11,n8,ng]/\0<=k/\k<=N/\ab=jZ k N/\(ak.length:Int)=k/\Tab ss ak) ?_ ?_ ?_
 ·refine WX ?_;simp![hmh];exact⟨N,rfl,⋯,⋯,0,[],_,_,_,_,_,_,_,_,_,_,_,rfl,⋯,⋯,rfl,rfl,⟨⋯,(λ_ h=>nomatch h),(λ_ h=>nomatch h),λ_ h=>nomatch h⟩⟩
 ·rintro E d ds ⟨k,ak,o1,o4,o5,d4,d5,l8,l9,l10,l11,n8,ng,rfl,k0,k1,hr,ny,hT⟩;obtain⟨hk,rfl,rfl⟩:=YV k1 hr;obtain⟨kn,rfl⟩:=Yv k0;simp![];have c3:=cel (3+kn);rw[show((3+kn:Nat):Int)=1+2+(kn:Int)by lia]at c3;refine c3.use ?_;intro _ _;simp![];refine(A.mixed_ok _ 0 ⋯ ⋯).use ?_;intro v _;have v0:=Y9 v (show(6:Int)≠0 by decide);have v1:=Y0 v (show(0:Int)<6 by decide);simp![mod_i (a:=v) (b:=6) ⋯];refine xY (λE ab=>∃(j:Int) (w:Sh) (o9 o11:Own) (n8 ng:Option Sd),E=[some (.no,iL ns),some (o1,.int 1),some (.no,sL ss),some (.no,.int 10),some (o4,d4),some (o5,d5),some (.rt,.lst (P.map D.int)),some (.rt,.lst (ak.map lD)),some (.no,.int kn),some (o9,.int v),some (.rt,lD w),some (o11,.int (v % 6)),n8,ng]/\0<=j/\j<=v % 6/\ab=jZ j (v % 6)/\(w.length:Int)=j/\(∀p∈w,p.1∈ss)/\∀p∈w,p.2∈P) ?_ ?_ ?_
  ·refine WX ?_;simp![];exact⟨v % 6,rfl,⋯,⋯,0,[],_,_,_,_,rfl,⋯,⋯,rfl,rfl,(λ_ h=>nomatch h),λ_ h=>nomatch h⟩
  ·rintro E d ds ⟨j,w,o9,o11,n8,ng,rfl,j0,j1,hr,qf,hw1,hw2⟩;obtain⟨hj,rfl,rfl⟩:=YV j1 hr;obtain⟨b,b0,b1,hbb⟩:=dq j j0 ⋯;simp![hbb,div_i (a:=v) (b:=b) b0 ⋯];refine KJ rfl ?_;have t0:=Y9 (v / b) (show(ss.length:Int)≠0 by lia);have t1:=Y0 (v / b) (show(0:Int)<ss.length by lia);have u0:=Y9 (v / b / 3) (show(3:Int)≠0 by decide);have u1:=Y0 (v / b / 3) (show(0:Int)<3 by decide);obtain⟨z,hz,ez⟩:=hsx _ t0 t1;obtain⟨x,hx,ex⟩:=hpx _ u0 u1;simp![mod_i (a:=v / b) (b:=ss.length) ⋯,ez,div_i (a:=v / b) (b:=3) ⋯ ⋯,mod_i (a:=v / b / 3) (b:=3) ⋯,ex];refine⟨_,rfl,by rw[X2];lia,j+1,w++[(z,x)],_,_,_,_,by rw[show lD (w++[(z,x)])=.lst (rwD w++[.tup [.str z,.int x]])by rw[lD,rwD,Xl];rfl],⋯,⋯,rfl,by simp;lia,λp hp=>?_,λp hp=>?_⟩
   ·rcases aA hp with q|q
    ·exact hw1 p q
    ·rw[aC q];exact hz
   ·rcases aA hp with q|q
    ·exact hw2 p q
    ·rw[aC q];exact hx
  ·rintro E ⟨j,w,o9,o11,n8,ng,rfl,j0,j1,hr,qf,hw1,hw2⟩;refine KJ rfl ?_;simp![];refine⟨_,rfl,by rw[X2];lia,kn+1,ak++[w],_,_,_,_,_,_,_,_,_,_,_,by rw[Xl];rfl,⋯,⋯,rfl,by simp;lia,?_⟩;refine⟨by simp;lia,λy hy=>?_,λy hy=>?_,λy hy=>?_⟩
   all_goals
    rcases aA hy with q|q
   ·exact hT.l5 y q
   ·rw[aC q];lia
   ·exact hT.sg y q
   ·rw[aC q];exact hw1
   ·exact hT.nm y q
   ·rw[aC q];exact⟨P,hPl,hw2⟩
 ·rintro E ⟨k,ak,o1,o4,o5,d4,d5,l8,l9,l10,l11,n8,ng,rfl,k0,k1,hr,ny,hT⟩;simp![];exact⟨ak,rfl,hT⟩
end Nk70
namespace Nk70
open Q PySem C V Tl
theorem qxc:m_names_in=V.m_names_in:=rfl
theorem wqt:m_case_to=V.m_case_to:=rfl
theorem qxb:m_shape_of=V.m_shape_of:=rfl
theorem qxa:m_signs_in=V.m_signs_in:=rfl
theorem wqu:m_beginnings_of=V.m_beginnings_of:=rfl
theorem qvv{xs:List D}(h:D.pures xs=true):zz (.rt,.lst xs)=true:=by
 unfold zz;show(kJ (.rt,.lst xs)||(Own.rt==Own.rt&&D.pures xs))=true;rw[h];simp
theorem wva{i:Nat}{c:Ex}{E:En}{xs:List D}{N C:En->Prop}{R:Sd->Prop}{X:XP}(h0:E[i]?=some (some (.dp,.lst xs)))
  (h:Eo (c E) (λE1 x=>∃ys,E1[i]?=some (some (.dp,.lst ys))/\ys.length<10000/\x.1=.dp/\N (E1.set i (some (.dp,.lst (ys++[x.2]))))) X):Po (wK wq i c E) N C R X:=
 vqh h0 (h.mono λE1 x ⟨ys,h1,h2,h3,h4⟩=>⟨.dp,ys,h1,⋯,h2,by rw[X6 ⟨rfl,by unfold kJ;rw[h3];rfl⟩];exists h4⟩)
section
variable {e:Option Sd}{E:En}{P:En->Sd->Prop}{X:XP}
theorem qqg{cs:List Ex}:Eo (qZ .dp cs (e::E)) P X=Eo (kQ cs (e::E)) (λE xs=>xs.all kJ=true/\P E (.dp,.tup (xs.map (·.2)))) X:=by
 unfold qZ;rw[jz]
 congr 1
 funext E xs;rw[X6 rfl]
 by_cases h:xs.all kJ=true
 ·rw[X6 h,Qx];exact propext ⟨λz=>⟨h,z⟩,λz=>z.2⟩
 ·rw[Xa h,kxz];exact propext ⟨λz=>z.elim,λz=>absurd z.1 h⟩
theorem vz9{cs:List Ex}:Eo (qk .dp cs (e::E)) P X=Eo (kQ cs (e::E)) (λE xs=>xs.all kJ=true/\P E (.dp,.lst (xs.map (·.2)))) X:=by
 unfold qk;rw[jz]
 congr 1
 funext E xs;rw[X6 rfl]
 by_cases h:xs.all kJ=true
 ·rw[X6 h,Qx];exact propext ⟨λz=>⟨h,z⟩,λz=>z.2⟩
 ·rw[Xa h,kxz];exact propext ⟨λz=>z.elim,λz=>absurd z.1 h⟩
end
theorem vkt{ss:List Str}:zz (.rt,sL ss)=true:=qvv (D.pures_map _ _ λ_ _=>rfl)
theorem wxa{o:Own}{n:Int}:zz (o,.int n)=true:=by simp[zz,kJ,D.pure]
theorem vW{d:D}:zz (.dp,d)=true:=by simp[zz,kJ]
theorem qvi(bs:List Sh)(x:Sh):(v9 bs x).pure=true:=by
 unfold v9
 split
 ·have:D.pures ((List.range (nk x)).map λ(k:Nat)=>D.int k)=true:=D.pures_map _ _ λ_ _=>rfl
  simp[D.pure,D.pures,this]
 ·rfl
theorem qqr{bs ss b}(hb:b.length<=10)(hs:ss.length<=3):Oo jqw [(.no,tD b),(.no,sL ss),(.no,V.dctB bs)] (λy=>∃_:Unit,y=(.dp,.lst (JY bs ss b))/\True) noX:=by
 have hn:=YZ b;unfold jqw;simp only[qxc,wqt];refine v7 ?_;simp![];refine(names_ok b ⋯).use ?_;intro _ _;simp![];rw [show(nk b)+1=((nk b+1:Nat):Int)by lia,kq0];refine xY (λE ab=>∃(o1 o2 o3:Own) (d1:D) (s1 s2:List Str) (l5:Option Sd),E=[some (.no,tD b),some (o1,d1),some (.no,V.dctB bs),some (o3,.lst ((List.range (nk b+1)).map λ(k:Nat)=>D.int k)),some (.dp,.lst (JY bs s1 b)),l5]/\ss=s1++s2/\ab=s2.map D.str) ?_ ?_ ?_
 ·simp![];exact⟨_,.no,_,_,[],ss,_,rfl,rfl,rfl⟩
 ·rintro E d ds ⟨o1,o2,o3,d1,s1,s2,l5,rfl,he,hr⟩;cases s2 with
  | nil=>cases hr
  | cons z s2=>
   injection hr with e1 e2;subst e1 e2;have iq:s1.length<=3:=by have:=congrArg List.length he;simp at this;lia
   simp![];refine wva rfl ?_;rw[WK];refine(Kk [some (.no,tD b),some (.no,.str z),some (.no,V.dctB bs)] (λd y=>y.2=match d with|.int k=>v9 bs (b++[(z,k)])|_=>.non) ?_);simp![];refine⟨rfl,λd hd=>?_,λys hy=>?_⟩
   ·obtain⟨k,_,rfl⟩:=aE hd;simp![wvd (b:=b) (z:=z) (k:=k) ⋯];refine(V.case_ok (bs:=bs) (x:=b++[(z,(k:Int))]) (by simp;lia)).use ?_;intro _ _;exact⟨⟨_,rfl⟩,rfl⟩
   ·rw[vZ,Kz (h:=λd=>match d with|.int k=>v9 bs (b++[(z,k)])|_=>.non) (λ_ _ h=>h) hy,Xi];simp only[back,clr,at',List.map_cons,List.map_nil,List.set_cons_zero,List.set_cons_succ];have e4:JY bs (s1++[z]) b=JY bs s1 b++[.lst ((List.range (nk b+1)).map λ(k:Nat)=>v9 bs (b++[(z,(k:Int))]))]:=by unfold JY;rw[Xl];rfl
    exact⟨qvv (D.pures_map _ _ λ_ _=>qvi _ _),_,rfl,by unfold JY;rw[X2];lia,o1,.no,.no,d1,s1++[z],s2,some (.no,.str z),by rw[e4];rfl,by rw[he];simp,rfl⟩
 ·rintro E ⟨o1,o2,o3,d1,s1,s2,l5,rfl,he,hr⟩;have:s2=[]:=by cases s2 with|nil=>rfl|cons=>cases hr
  subst this;rw[Xq]at he;subst he;simp![]
  first|trivial|exact⟨(),trivial⟩|exact⟨(),rfl,trivial⟩
theorem jz2{ss}{ak:List Sh}(hs:ss.length<=3)(hl:ak.length<=11)(h5:∀w∈ak,w.length<=5)(hsg:∀w∈ak,∀p∈w,p.1∈ss)(h3:∀w∈ak,nk (shW w)<=3):
  Oo Vq [(.no,sL ss),(.no,.lst (ak.map lD))] (λy=>∃bs,y=(.dp,V5 ss (bs.map (J3 (ak.map shW) bs ss)))/\Beg (ak.map shW) bs) noX:=by
 have mn:∀s∈ak.map shW,s.length<=5:=λs hs=>by obtain⟨w,hw,rfl⟩:=aE hs;rw[jzw];exact h5 w hw
 have nj:(ak.map shW).length<=11:=by rw[X2];exact hl
 have shg:∀s∈ak.map shW,∀p∈s,p.1∈ss:=λs hs p hp=>by
  obtain⟨w,hw,rfl⟩:=aE hs;unfold shW at hp;obtain⟨q,hq,rfl⟩:=aE hp;exact hsg w hw q hq
 have sh3:∀s∈ak.map shW,nk s<=3:=λs hs=>by obtain⟨w,hw,rfl⟩:=aE hs;exact h3 w hw
 unfold Vq;simp only[qxc,qxb,qxa,wqu];refine v7 ?_;simp![];refine K0 (λE1 B ds ac=>E1=[some (.no,sL ss),some (.no,.lst (ak.map lD)),none,none,none]/\∃(q0:Option Sd) (r1 r2:List Sh),B=[q0]/\ds=r2.map lD/\ak=r1++r2/\ac.map (·.2)=(r1.map shW).map tD) ?_ ?_ ?_
 ·simp![];exact⟨_,[],ak,rfl,rfl,rfl,rfl⟩
 ·rintro E1 B d ds ac ⟨rfl,q0,r1,r2,rfl,b7,hr,ha⟩;cases r2 with
  |nil=>cases b7
  |cons w r2=>
   injection b7 with e1 e2;subst e1 e2;have hw:=h5 w (by rw[hr];simp);simp![];refine(qzv w ⋯).via ?_;rintro _ rfl;simp![vzg (o:=.no) (xs:=rwD (shW w)) ⋯];exact⟨_,r1++[w],r2,rfl,rfl,by rw[hr];simp,by rw[Xl,ha];simp⟩
 rintro E1 B ac ⟨rfl,q0,r1,r2,rfl,b7,hr,ha⟩;have:r2=[]:=by cases r2 with|nil=>rfl|cons=>cases b7
 subst this;rw[Xq]at hr;subst hr;rw[vZ,ha];simp only[JV,back,clr,at',List.drop,List.map_cons,List.map_nil,List.set_cons_zero,List.set_cons_succ];generalize hS:ak.map shW=shs at mn nj shg sh3;simp![];refine Kk [some (.no,sL ss)] (λ_ y=>y.2=.bl true) ?_;simp![];refine(qzt nj mn).use ?_;intro _ _;simp![];refine⟨rfl,λd hd=>?_,λys hy=>?_⟩
 ·obtain⟨z,hz,rfl⟩:=aE hd;obtain⟨s,fc,hz⟩:=List.mem_flatMap.mp hz;obtain⟨p,hp,rfl⟩:=aE hz;have:(ss.any λw=>w==p.1)=true:=List.any_eq_true.mpr ⟨p.1,shg s fc p hp,Z8 _⟩;simp![in_s,this];exact⟨⟨_,rfl⟩,trivial⟩
 rw[vZ,Kz (h:=λ_=>.bl true) (λ_ _ h=>h) hy];simp only[back,clr,at',List.map_cons,List.map_nil,List.set_cons_zero,List.set_cons_succ];simp![qz6];refine Kk [] (λ_ y=>y.2=.bl true) ?_;simp![];refine⟨λd hd=>?_,λys hy=>?_⟩
 ·obtain⟨s,fc,rfl⟩:=aE hd;simp![];refine(names_ok s (by have:=mn s fc;lia)).use ?_;intro _ _;have:fLe (.int (nk s)) (.int 3)=some (.bl true):=by rw[le_ii,Xf (by have:=sh3 s fc;lia)]
  simp![this];exact⟨⟨_,rfl⟩,trivial⟩
 rw[vZ,Kz (h:=λ_=>.bl true) (λ_ _ h=>h) hy];simp only[back,clr];simp![qz6];refine(kqv nj mn).use ?_;intro bs hB;simp![];refine K0 (λE1 B ds ac=>E1=[some (.no,sL ss),some (.no,.lst (ak.map lD)),some (.no,.lst (shs.map tD)),some (.no,.lst (bs.map tD)),none]/\∃(q0 q1:Option Sd) (r1 r2:List (Sh×Nat)),B=[q0,q1]/\ds=(r2.map λp=>.tup [.int p.2,tD p.1])/\bs.zipIdx=r1++r2/\ac.map (·.2)=r1.map λp=>.tup [tD p.1,.int p.2]) ?_ ?_ ?_
 ·simp![↓w_itEn,vx2];exact⟨_,_,[],bs.zipIdx,rfl,rfl,rfl,rfl⟩
 ·rintro E1 B d ds ac ⟨rfl,q0,q1,r1,r2,rfl,b7,hr,ha⟩;cases r2 with
  |nil=>cases b7
  |cons p r2=>
   injection b7 with e1 e2;subst e1 e2;simp![];exact⟨_,_,r1++[p],r2,rfl,rfl,by rw[hr];simp,by rw[Xl,ha];simp⟩
 rintro E1 B ac ⟨rfl,q0,q1,r1,r2,rfl,hds2,hr,r0⟩;have:r2=[]:=by cases r2 with|nil=>rfl|cons=>cases hds2
 subst this;rw[Xq]at hr;subst hr;rw[vZ,r0];simp only[JV,back,clr,at',List.drop,List.map_cons,List.map_nil,List.set_cons_zero,List.set_cons_succ];have hbs5:∀b∈bs,b.length<=5:=λb hb=>by
  have:=(hB.mem b).mp hb;rcases aD this with rfl|h
  ·simp
  ·obtain⟨s,fc,h⟩:=List.mem_flatMap.mp h;unfold pre at h;obtain⟨k,_,rfl⟩:=aE h;rw[Y5];have:=mn s fc;lia
 simp![vx7 (o:=.no) hB.nd hB.len,qwf (o:=.no) (xs:=ss.map D.str) ⋯,↓qqg,↓WK,vkt];refine K0 (λE1 B ds ac=>∃(q0:Option Sd) (o1 o2 o3:Own) (r1 r2:List Sh),B=[q0,some (o1,.lst (shs.map tD)),some (o2,sL ss),some (o3,V.dctB bs)]/\ds=r2.map tD/\bs=r1++r2/\ac=r1.map λb=>(Own.dp,J3 shs bs ss b)) ?_ ?_ ?_
 ·simp![];exact⟨_,_,_,_,[],bs,rfl,rfl,rfl,rfl⟩
 ·rintro E1 B d ds ac ⟨q0,o1,o2,o3,r1,r2,rfl,b7,hr,rfl⟩;cases r2 with
  |nil=>cases b7
  |cons b r2=>
   injection b7 with e1 e2;subst e1 e2;have hb5:=hbs5 b (by rw[hr];simp);simp![↓qqg,↓WK];refine(V.names_ok b ⋯).use ?_;intro _ _;simp![wxu,wxa,↓qqg,↓WK];refine(qqr (bs:=bs) (ss:=ss) (b:=b) ⋯ hs).use ?_;intro _ _;simp![vW];refine⟨rfl,_,_,_,_,r1++[b],r2,rfl,rfl,by rw[hr];simp,by rw[Xl];simp[J3]⟩
 ·rintro E1 B ac ⟨q0,o1,o2,o3,r1,r2,rfl,b7,hr,rfl⟩;have:r2=[]:=by cases r2 with|nil=>rfl|cons=>cases b7
  subst this;rw[Xq]at hr;subst hr;rw[vkw (by simp[kJ]),Xi];unfold kQ;rw[Qx];exact⟨rfl,bs,rfl,hB⟩
theorem vq7:ZZ=V.m_names_in:=rfl
theorem vk1{s:Sh}{e:Nat}(h:e<=s.length):Q2 (rwD s) none (some (e:Int))=rwD (s.take e):=by
 have hl:(rwD s).length=s.length:=X2 _;have h1:xz (rwD s).length 0 none=0:=rfl;have h2:xz (rwD s).length (rwD s).length (some (e:Int))=e:=by
  unfold xz;dsimp only;rw[Xa ⋯,hl];simp;lia
 unfold Q2;rw[h1,h2,List.drop_zero,Nat.sub_zero,show(rwD s).take e=rwD _ from List.map_take.symm]
theorem qjb{x:Sh}{K:List Sh}:wW (lD x) (.lst (K.map lD))=some (.bl (!decide (x∈K))):=by
 have h:fIn (lD x) (.lst (K.map lD))=some _:=wqf (x:=x) (K:=K);show(fIn _ _).bind _=_;rw[h];rfl
abbrev pL(s:Sh):D:=.tup [.int s.length,lD s]
theorem wq1(s:Sh):zQ (pL s)=true:=by
 have:=Wk s;unfold ww at this;rw[Bool.and_eq_true]at this;exact this.1
theorem vqy{K bs shs:List Sh}(hB:Beg shs bs)(hn:K.Nodup)(hm:∀x,x∈K↔x∈qx shs):JJ (K.map pL)=bs.map pL:=by
 have hc:CmpP (K.map pL):=⟨λd hd=>by obtain⟨s,_,rfl⟩:=aE hd;exact wq1 s,λa ha b hb=>by
  obtain⟨s,_,rfl⟩:=aE ha;obtain⟨t,_,rfl⟩:=aE hb;exact Option.isSome_iff_exists.mp (vvx s t)⟩
 refine(kv6 hc ?_ ?_).symm
 ·refine List.Perm.map _ ((List.perm_ext_iff_of_nodup hB.nd hn).mpr λx=>by rw[hB.mem,hm])
 ·have:=hB.pw;rw[Yn]at this ⊢;exact this.imp fun {a b} h z=>by
   have z:ltD (pD b) (pD a)=some true:=z;rw[kqf h]at z;cases z
theorem wxg(K:List Sh):WY (K.map pL)=true:=by
 unfold WY;rw[Bool.and_eq_true,Xy,Xy];refine⟨λd hd=>by obtain⟨s,_,rfl⟩:=aE hd;exact wq1 s,λa ha=>List.all_eq_true.mpr λb hb=>?_⟩;obtain⟨s,_,rfl⟩:=aE ha;obtain⟨t,_,rfl⟩:=aE hb;exact vvx s t
theorem vjf{K:List Sh}{shs bs:List Sh}(hB:Beg shs bs)(hn:K.Nodup)(hm:∀x,x∈K↔x∈qx shs):K.length<=59:=by
 have:K.Perm bs:=(List.perm_ext_iff_of_nodup hn hB.nd).mpr λx=>by rw[hB.mem,hm]
 rw[this.length_eq];exact hB.len
theorem vxi{shs bs:List Sh}(hB:Beg shs bs)(hl:shs.length<=11)(h5:∀s∈shs,s.length<=5):Oo jjs [(.no,.lst (shs.map lD))] (λy=>y=(.rt,.lst (bs.map lD))) noX:=by
 unfold jjs;refine v7 ?_;simp![];refine xY (λE ab=>∃(f1 f2 K:List Sh) (l2 l3:Option Sd),E=[some (.no,.lst (shs.map lD)),some (.rt,.lst (K.map lD)),l2,l3]/\shs=f1++f2/\ab=f2.map lD/\K.Nodup/\(∀x,x∈K↔x∈qx f1)/\K.length<=1+5*f1.length) ?_ ?_ ?_
 ·simp![];exact⟨[],shs,[[]],_,_,rfl,rfl,rfl,by simp,λx=>by simp[qx],by simp⟩
 ·rintro E d ds ⟨f1,f2,K,l2,l3,rfl,hf,hr,hn,hm,hK⟩;cases f2 with
  | nil=>cases hr
  | cons s f2=>
   injection hr with e1 e2;subst e1 e2;have hs5:=h5 s (by rw[hf];simp);have hfl:f1.length<=11:=by have:=congrArg List.length hf;simp at this;lia
   simp![];refine xY (λE ab=>∃(k:Int) (K:List Sh) (l3:Option Sd),E=[some (.no,.lst (shs.map lD)),some (.rt,.lst (K.map lD)),some (.no,lD s),l3]/\0<=k/\k<=s.length/\ab=jZ k s.length/\K.Nodup/\(∀x,x∈K↔x∈qx f1\/∃e:Nat,(e:Int)<=k/\x=s.take e)/\K.length<=1+5*f1.length+k) ?_ ?_ ?_
   ·refine WX ?_;simp![];refine⟨_,rfl,⋯,⋯,0,K,_,rfl,⋯,⋯,by simp,hn,λx=>?_,⋯⟩;rw [hm];refine⟨.inl,λh=>?_⟩;rcases h with h|⟨e,he,rfl⟩
    ·exact h
    ·rw[show e=0 by lia];simp[qx]
   ·rintro E d ds ⟨k,K,l3,rfl,k0,k1,hr,hn,hm,hK⟩;obtain⟨hk,rfl,rfl⟩:=YV k1 hr;obtain⟨kn,rfl⟩:=Yv k0;have hc:Q2 (rwD s) none (some ((kn:Int)+1))=rwD (s.take (kn+1)):=vk1 (e:=kn+1) ⋯;have up:∀{x:Sh},(x∈qx f1\/∃e:Nat,(e:Int)<=(kn:Int)+1/\x=s.take e)↔(x∈K\/x=s.take (kn+1)):=fun {x}=>by
     rw[hm];refine⟨?_,?_⟩
     ·rintro (h|⟨e,he,rfl⟩)
      ·exact .inl (.inl h)
      ·by_cases h:e=kn+1
       ·rw[h];exact .inr rfl
       ·exact .inl (.inr ⟨e,⋯,rfl⟩)
     ·rintro ((h|⟨e,he,rfl⟩)|rfl)
      ·exact .inl h
      ·exact .inr ⟨e,⋯,rfl⟩
      ·exact .inr ⟨kn+1,⋯,rfl⟩
    by_cases hx:s.take (kn+1)∈K
    ·have i6:wW (.lst (rwD (s.take (kn+1)))) (.lst (K.map lD))=some (.bl false):=by rw[qjb,Xf hx];rfl
     simp![vqz (o:=.no) (xs:=rwD s) ⋯,hc,i6];exact⟨kn+1,K,_,rfl,⋯,⋯,rfl,hn,λx=>by rw[up];grind,⋯⟩
    ·have i6:wW (.lst (rwD (s.take (kn+1)))) (.lst (K.map lD))=some (.bl true):=by rw[qjb,Xh hx];rfl
     simp![vqz (o:=.no) (xs:=rwD s) ⋯,hc,i6];refine KJ rfl ?_;simp![vqz (o:=.no) (xs:=rwD s) ⋯,hc];refine⟨_,rfl,by rw[X2];lia,kn+1,K++[s.take (kn+1)],_,by rw[Xl];rfl,⋯,⋯,rfl,?_,λx=>by rw[up];simp,by simp;lia⟩;rw[Xb];exact⟨hn,by simp,λa ha b hb e=>hx (by rw[<-aC hb,<-e];exact ha)⟩
   ·rintro E ⟨k,K,l3,rfl,k0,k1,hr,hn,hm,hK⟩;have hk:=kvi k1 hr;subst hk;refine⟨f1++[s],f2,K,_,_,rfl,by rw[hf];simp,rfl,hn,λx=>?_,by rw[Y6,Za];lia⟩;rw[hm];unfold qx;rw[List.flatMap_append,Yc,Yc,List.mem_append];have:x∈([s]:List Sh).flatMap pre↔∃e:Nat,(e:Int)<=(s.length:Nat)/\x=s.take e:=by
     rw[List.mem_flatMap];unfold pre;refine⟨?_,?_⟩
     ·rintro ⟨t,ht,h⟩;rw[aC ht]at h;obtain⟨e,he,rfl⟩:=aE h;exact⟨e,by have:=List.mem_range.mp he;lia,rfl⟩
     ·rintro ⟨e,he,rfl⟩;exact⟨s,aB rfl,List.mem_map.mpr ⟨e,List.mem_range.mpr ⋯,rfl⟩⟩
    rw[this]
    grind
 ·rintro E ⟨f1,f2,K,l2,l3,rfl,hf,hr,hn,hm,hK⟩;have:f2=[]:=by cases f2 with|nil=>rfl|cons=>cases hr
  subst this;rw[Xq]at hf;subst hf;have hk59:=vjf hB hn hm;have hs:Zv (.no,.lst (K.map pL))=some (.rt,.lst (bs.map pL)):=by
   unfold Zv;dsimp only;rw[X6 ⟨rfl,by rw[X2];lia,wxg K⟩,vqy hB hn hm]
  simp![];refine K0 (λE1 B ds ac=>∃(q0 q1:Option Sd) (r1 r2:List Sh),B=[q0,q1]/\ds=r2.map pL/\bs=r1++r2/\ac.map (·.2)=r1.map lD) ?_ ?_ ?_
  ·simp![];refine Kk [] (λd y=>y.2=match d with|.lst xs=>.tup [.int xs.length,.lst xs]|_=>.non) ?_;simp![];refine⟨λd hd=>?_,λys hy=>?_⟩
   ·obtain⟨s,_,rfl⟩:=aE hd;simp![];exact⟨⟨_,rfl⟩,trivial⟩
   rw[vZ,Kz (h:=λd=>match d with|.lst xs=>.tup [.int xs.length,.lst xs]|_=>.non) (λ_ _ h=>h) hy,Xi];simp only[back,clr];have e:K.map ((λd=>match d with|.lst xs=>.tup [.int xs.length,.lst xs]|_=>.non)∘lD)=K.map pL:=Yj λs _=>by
    show D.tup [.int ((rwD s).length:Nat),_]=_;rw[X2]
   rw[e];simp![hs];exact⟨_,_,[],bs,rfl,rfl,rfl,rfl⟩
  ·rintro E1 B d ds ac ⟨q0,q1,r1,r2,rfl,b7,hr,ha⟩;cases r2 with
   |nil=>cases b7
   |cons b r2=>
    injection b7 with e1 e2;subst e1 e2;simp![];exact⟨_,_,r1++[b],r2,rfl,rfl,by rw[hr];simp,by rw[Xl,ha];simp⟩
  ·rintro E1 B ac ⟨q0,q1,r1,r2,rfl,b7,hr,ha⟩;have:r2=[]:=by cases r2 with|nil=>rfl|cons=>cases b7
   subst this;rw[Xq]at hr;subst hr;rw[vZ,ha]
theorem wqg{x:Sh}{bs:List Sh}(h:x∈bs):XX (.lst (bs.map lD)) (lD x)=some (.int (bs.idxOf x:Nat)):=by
 have f1:(lD x).flat 30=true:=V1 x;have f2:D.flats 30 (bs.map lD)=true:=zK λd hd=>by obtain⟨s,_,rfl⟩:=aE hd;exact V1 s
 show(if(lD x).flat 30&&D.flats 30 _ then((bs.map lD).findIdx? λw=>peq w _).map λ(j:Nat)=>D.int j else none)=_;rw[f1,f2,List.findIdx?_map];have:((λw=>peq w (lD x))∘lD)=λw=>w==x:=funext λw=>by
  show peq (tD w) (tD x)=_;rw[vkm];exact Bool.eq_iff_iff.mpr (by simp)
 rw[this,kxy (p:=λw=>w==x) (List.any_eq_true.mpr ⟨x,h,Z8 x⟩)];rfl
theorem kwz(o:Own)(n:Int):Oo QJ [(o,.int n)] (λy=>∃_:Unit,y=(.dp,.bl true)/\True) noX:=by
 have h1:kW "int" (.int n)=some (.bl true):=rfl;have h2:kW "bool" (.int n)=some (.bl false):=rfl;unfold QJ;refine v7 ?_;simp![h1,h2]
 first|trivial|exact⟨(),trivial⟩|exact⟨(),rfl,trivial⟩
theorem vwq{bs:List Sh}{x:Sh}(hx:x.length<=10):Oo ZY [(.no,v9 bs x),(.no,lD x),(.no,.lst (bs.map lD))] (λy=>y.2=.bl true) noX:=by
 have hk:=YZ x;unfold ZY;simp only[vq7];refine v7 ?_
 by_cases h:x∈bs
 ·have hc:v9 bs x=.tup [.int (bs.idxOf x:Nat),.tup ((List.range (nk x)).map λ(k:Nat)=>D.int k)]:=by unfold v9;rw[X6 h]
  rw[hc];have i6:wW (.lst (rwD x)) (.lst (bs.map lD))=some (.bl false):=by rw[qjb,Xf h];rfl
  generalize hm:(List.range (nk x)).map (λ(k:Nat)=>D.int k)=ms;generalize hi:((bs.idxOf x:Nat):Int)=i;have i1:kW "tuple" (.tup [.int i,.tup ms])=some (.bl true):=rfl;have i2:kW "tuple" (.tup ms)=some (.bl true):=rfl;have x0:kw (.tup [.int i,.tup ms]) (.int 0)=some (.int i):=rfl;have x1:kw (.tup [.int i,.tup ms]) (.int 1)=some (.tup ms):=rfl;have n2:fNe (.int ((2:Nat):Int)) (.int 2)=some (.bl false):=rfl;simp![i6,i1,x0,n2];refine(kwz .no i).use ?_;intro _ _;simp![x1,i2];have hms:∀d∈ms,∃k:Int,d=.int k:=λd hd=>by rw[<-hm]at hd;obtain⟨k,_,rfl⟩:=aE hd;exact⟨_,rfl⟩
  refine K0 (λE1 B ds ac=>E1=[some (.no,.tup [.int i,.tup ms]),some (.no,lD x),some (.no,.lst (bs.map lD))]/\(∃q0:Option Sd,B=[q0])/\(∀d∈ds,d∈ms)/\ac=[]) ?_ ?_ ?_
  ·simp![x1];exact⟨⟨_,rfl⟩,λd hd=>hd,trivial⟩
  ·rintro E1 B d ds ac ⟨rfl,⟨q0,rfl⟩,b7,rfl⟩;obtain⟨k,rfl⟩:=hms d (b7 d X4);simp![];refine(kwz .no k).use ?_;intro _ _;simp![];exact⟨⟨_,rfl⟩,λd hd=>b7 d (lc9 _ hd),trivial⟩
  rintro E1 B ac ⟨rfl,⟨q0,rfl⟩,_,rfl⟩;rw[vZ];simp only[JV,back,clr,at',List.drop,List.map_cons,List.map_nil,List.set_cons_zero,List.set_cons_succ];have g0:fGt (.int ((0:Nat):Int)) (.int 0)=some (.bl false):=rfl;simp![g0,wqg h];refine Kk [] (λd y=>y.2=d) ?_;refine WX ?_;simp![];refine(kja (.inr rfl) ⋯).use ?_;intro _ _;simp![];refine⟨_,rfl,⋯,⋯,λd hd=>⟨⟨_,rfl⟩,trivial⟩,λys hy=>?_⟩;rw[vZ,Kz (h:=λd=>d) (λ_ _ h=>h) hy,List.map_id',kq0,hm,hi];have ft:D.flats 38 ms=true:=zK λd hd=>by obtain⟨k,rfl⟩:=hms d hd;rfl
  have fe:fEq (.tup [.int i,.tup ms]) (.tup [.int i,.tup ms])=some (.bl true):=vx0 (by simp[D.flat,D.flats,ft]);simp only[back,clr];simp![vzg (o:=.no) (xs:=ms) ⋯,fe]
 ·have hc:v9 bs x=.non:=by unfold v9;rw[Xa h]
  have i6:wW (.lst (rwD x)) (.lst (bs.map lD))=some (.bl true):=by rw[qjb,Xh h];rfl
  rw[hc];simp![i6]
theorem vja{a b:Int}(h:a=b):fNe (.int a) (.int b)=some (.bl false):=by
 subst h;show some (D.bl (!(a==a)))=_;rw[Z8];rfl
theorem wve{b:Sh}{z:Str}{k:Int}(h:b.length<=5):k4 (.no,lD b) (.no,.lst [.tup [.str z,.int k]])=some (.rt,lD (b++[(z,k)])):=by
 show(if(rwD b).length+1<=big/\kj (.no,.lst _)/\kj (.no,.lst _)then some (Own.rt,D.lst (rwD b++_))else none)=_;rw[X6 ⟨by rw[X2];unfold big;lia,rfl,rfl⟩,lD,show rwD (b++[(z,k)])=rwD b++[.tup [.str z,.int k]]by rw[rwD,Xl];rfl]
theorem vz6(ss:List Str)(f:Str->D):qJ (ss.map D.str) (ss.map f)=ss.map λz=>.tup [.str z,f z]:=by
 induction ss with|nil=>rfl|cons z ss ih=>rw[List.map_cons,List.map_cons,qJ,ih];rfl
theorem vwp{shs bs:List Sh}{ss:List Str}{b:Sh}(hb:b.length<=5)(hs:ss.length<=3):Oo jk8 [(.no,J3 shs bs ss b),(.no,lD b),(.no,.lst (bs.map lD)),(.no,.lst (shs.map lD)),(.no,sL ss)] (λy=>y.2=.bl true) noX:=by
 have hk:=YZ b;unfold jk8;simp only[vq7];refine v7 ?_;unfold J3;generalize hS:JY bs ss b=st;have o8:st.length=ss.length:=by rw[<-hS];unfold JY;rw[X2]
 have i1:kW "tuple" (.tup [.int (nk b),.bl (decide (b∈shs)),.lst st])=some (.bl true):=rfl;have x0:kw (.tup [.int (nk b),.bl (decide (b∈shs)),.lst st]) (.int 0)=some (.int (nk b)):=rfl;have x1:kw (.tup [.int (nk b),.bl (decide (b∈shs)),.lst st]) (.int 1)=some (.bl (decide (b∈shs))):=rfl;have x2:kw (.tup [.int (nk b),.bl (decide (b∈shs)),.lst st]) (.int 2)=some (.lst st):=rfl;have n3:fNe (.int ((3:Nat):Int)) (.int 3)=some (.bl false):=rfl;have i2:kW "bool" (.bl (decide (b∈shs)))=some (.bl true):=rfl;have i3:kW "list" (.lst st)=some (.bl true):=rfl;have nb:fNe (.bl (decide (b∈shs))) (.bl (decide (b∈shs)))=some (.bl false):=by
  show some (D.bl (!(_==_)))=_;rw [Z8];rfl
 simp![i1,x0,n3];refine(kwz .no (nk b)).use ?_;intro _ _;simp![x0];refine(kja (.inr rfl) ⋯).use ?_;intro _ _;simp![vja (a:=nk b) rfl,x1,i2,wqf (x:=b) (K:=shs),nb,x2,i3,vja (a:=(st.length:Int)) (b:=(ss.length:Int)) (by rw[o8])];have hz:((some (ss.map D.str)).bind λxs=>(some st).bind λys=>if xs.length<=big then some (qJ xs ys)else none)=some (ss.map λz=>.tup [.str z,.lst ((List.range (nk b+1)).map λ(k:Nat)=>v9 bs (b++[(z,(k:Int))]))]):=by
  show(if(ss.map D.str).length<=big then some (qJ (ss.map D.str) st)else none)=_;rw [X6 (by rw[X2];unfold big;lia),<-hS];unfold JY;rw [vz6]
 refine xY (λE ab=>∃(s1 s2:List Str) (l5 l6 l7:Option Sd),E=[some (.no,.tup [.int (nk b),.bl (decide (b∈shs)),.lst st]),some (.no,lD b),some (.no,.lst (bs.map lD)),some (.no,.lst (shs.map lD)),some (.no,sL ss),l5,l6,l7]/\ss=s1++s2/\ab=s2.map λz=>.tup [.str z,.lst ((List.range (nk b+1)).map λ(k:Nat)=>v9 bs (b++[(z,(k:Int))]))]) ?_ ?_ ?_
 ·simp![x2,↓w_zip];rw [hz];simp![];exact⟨[],ss,_,_,_,rfl,rfl,rfl⟩
 ·rintro E d ds ⟨s1,s2,l5,l6,l7,rfl,he,hr⟩;cases s2 with
  | nil=>cases hr
  | cons z s2=>
   injection hr with e1 e2;have e1:d=.tup [.str z,.lst ((List.range (nk b+1)).map λ(k:Nat)=>v9 bs (b++[(z,(k:Int))]))]:=e1;subst e1 e2;generalize hC:(List.range (nk b+1)).map (λ(k:Nat)=>v9 bs (b++[(z,(k:Int))]))=cs;have cz:cs.length=nk b+1:=by rw[<-hC,X2,Xv]
   have i4:kW "list" (.lst cs)=some (.bl true):=rfl;simp![i4,x0,vja (a:=(cs.length:Int)) (b:=(nk b:Int)+1) (by rw[cz];lia)];refine xY (λE ab=>∃(k:Int) (l7:Option Sd),E=[some (.no,.tup [.int (nk b),.bl (decide (b∈shs)),.lst st]),some (.no,lD b),some (.no,.lst (bs.map lD)),some (.no,.lst (shs.map lD)),some (.no,sL ss),some (.no,.str z),some (.no,.lst cs),l7]/\0<=k/\k<=cs.length/\ab=jZ k cs.length) ?_ ?_ ?_
   ·refine WX ?_;simp![];exact⟨_,rfl,⋯,⋯,0,_,rfl,⋯,⋯,rfl⟩
   ·rintro E d ds ⟨k,l7,rfl,k0,k1,hr⟩;obtain⟨dv,rfl,rfl⟩:=YV k1 hr;obtain⟨kn,rfl⟩:=Yv k0;have xk:kw (.lst cs) (.int (kn:Int))=some (v9 bs (b++[(z,(kn:Int))])):=wvw k0 (by
     rw[<-hC,Xn,show((kn:Nat):Int).toNat=kn by lia,List.getElem?_range ⋯];rfl)
    simp![xk,wve (z:=z) (k:=kn) hb];refine(vwq (bs:=bs) (x:=b++[(z,(kn:Int))]) (by simp;lia)).via ?_;rintro ⟨o,d⟩ h;cases(show d=.bl true from h);simp![];exact⟨_,_,rfl,⋯,⋯,rfl⟩
   ·rintro E ⟨k,l7,rfl,k0,k1,hr⟩;exact⟨s1++[z],s2,_,_,_,rfl,by rw[he];simp,rfl⟩
 ·rintro E ⟨s1,s2,l5,l6,l7,rfl,he,hr⟩;simp![]
section
variable {e:Option Sd}{E:En}{P:En->Sd->Prop}{X:XP}
theorem qqh{f:Fn}{cs:List Ex}:Eo (kwn f cs (e::E)) P X=Eo (kQ cs (e::E)) (λE xs=>Oe f (letAll xs) E (λE y=>y.1=.dp/\P E y) X) X:=by
 unfold kwn;rw [jz]
 congr 1
 funext E xs;unfold Oe Oo;cases f (letAll xs)with
 | none=>ac_rfl
 | some r=>
  cases r with
  | exc E c=>ac_rfl
  | ok E y=>
   dsimp only
   by_cases h:y.1=.dp
   ·rw[X6 h,Qx]
    with_unfolding_all exact propext ⟨λz=>⟨h,z⟩,λz=>z.2⟩
   ·rw[Xa h,kxz]
    with_unfolding_all exact propext ⟨λz=>z.elim,λz=>absurd z.1 h⟩
end
theorem kwg:∀(n k:Nat) (rs:List D),k+n=rs.length->(∀j,k<=j->j<rs.length->∃a b l,rs[j]?=some (.tup [a,b,.lst l])/\l.all JX=true)->∃ow,Vj n k (.lst rs)=some (.lst ow)
 | 0,_,rs,_,_=>⟨rs,rfl⟩
 | n+1,k,rs,hk,hs=>by
  have bh:k<rs.length:=⋯
  obtain⟨a,b,l,hg,ha⟩:=hs k (X8 _) bh;have fi:D.at [k] (.lst rs)=some (.tup [a,b,.lst l]):=by
   show(match rs[k]? with|some d=>D.at [] d|none=>none)=_;rw[hg];rfl
  have b6:D.put (.lst []) [k,2] (.lst rs)=.lst (rs.set k (.tup [a,b,.lst []])):=by
   show(match rs[k]? with|some d=>Q.D.lst (rs.set k (D.put (.lst []) [2] d))|none=>_)=_;rw[hg];rfl
  unfold Vj;rw[fi];dsimp only;rw[X6 ha,b6];refine kwg n (k+1) (rs.set k _) (by rw[Z0];lia) λj hj hj2=>?_
  rw[Z0]at hj2;obtain⟨a',b',l',e,e'⟩:=hs j ⋯ hj2;exact⟨a',b',l',by rw[Xw ⋯];exact e,e'⟩
theorem vjv{E:En}{i r1 r2 r3 s:Nat}{p:List Nat}{d:D}{rs:List D}{N C:En->Prop}{R:Sd->Prop}{X:XP}(h0:E[i]?=some (some (.dp,d)))(fi:D.at p d=some (.lst rs))(h1:r1<E.length)(h2:r2<E.length)(h3:r3<E.length)(h4:s<E.length)(hs:∀x∈rs,∃a b l,x=.tup [a,b,.lst l]/\l.all JX=true)
  (h:∀ow,N ((((((E.set i none).set r1 none).set r2 none).set r3 none).set s none).set i (some (.dp,D.put (.lst ow) p d)))):Po (kvd i r1 r2 r3 s p E) N C R X:=by
 obtain⟨ow,he⟩:=kwg rs.length 0 rs ⋯ λj _ hj=>by
  obtain⟨a,b,l,e,e'⟩:=hs rs[j] (Xz _);exact⟨a,b,l,by rw[X5 hj,e],e'⟩
 unfold kvd;rw[h0];dsimp only;rw[fi];dsimp only;rw[X6 ⟨h1,h2,h3,h4⟩,he];dsimp only;rw[qvn];exact h ow
theorem vju{E:En}{i s:Nat}{p:List Nat}{d:D}{ds:List D}{N C:En->Prop}{R:Sd->Prop}{X:XP}(h0:E[i]?=some (some (.dp,d)))(fi:D.at p d=some (.lst ds))(h1:s<E.length)(h2:ds.all JX=true)(h:N ((E.set i none).set s none)):Po (kvc i s p E) N C R X:=by
 unfold kvc;rw[h0];dsimp only;rw[fi];dsimp only;rw[X6 ⟨h1,h2⟩,qvn];exact h
theorem vz5(f:Sh->D)(bs:List Sh):qJ (bs.map f) (bs.map lD)=bs.map λb=>.tup [f b,lD b]:=by
 induction bs with|nil=>rfl|cons z ss ih=>rw[List.map_cons,List.map_cons,qJ,ih];rfl
theorem kzr{shs bs:List Sh}{ss:List Str}(hB:Beg shs bs)(hl:shs.length<=11)(h5:∀s∈shs,s.length<=5)(hs:ss.length<=3):Oo WV [(.no,V5 ss (bs.map (J3 shs bs ss))),(.no,sL ss),(.no,.lst (shs.map lD))] (λy=>y.2=.bl true) noX:=by
 unfold WV;refine v7 ?_;have hbl:=hB.len;have hb5:∀b∈bs,b.length<=5:=λb hb=>by
  have:=(hB.mem b).mp hb;rcases aD this with rfl|h
  ·simp
  ·obtain⟨s,fc,h⟩:=List.mem_flatMap.mp h;unfold pre at h;obtain⟨k,_,rfl⟩:=aE h;rw[Y5];have:=h5 s fc;lia
 generalize hR:bs.map (J3 shs bs ss)=rs;have ny:rs.length=bs.length:=by rw[<-hR,X2]
 have i1:kW "tuple" (V5 ss rs)=some (.bl true):=rfl;have x0:kw (V5 ss rs) (.int 0)=some (sL ss):=rfl;have x1:kw (V5 ss rs) (.int 1)=some (.lst rs):=rfl;have l2:qz (V5 ss rs)=some (.int 2):=rfl;have n2:fNe (.int 2) (.int 2)=some (.bl false):=rfl;have i2:kW "list" (sL ss)=some (.bl true):=rfl;have i3:kW "list" (.lst rs)=some (.bl true):=rfl;have ns:fNe (sL ss) (sL ss)=some (.bl false):=qw3 (zK λd hd=>by obtain⟨w,_,rfl⟩:=aE hd;rfl);simp![];refine(vxi hB hl h5).via ?_;rintro _ rfl;simp![i1,l2,n2,x0,i2,ns,x1,i3,vja (a:=(rs.length:Int)) (b:=(bs.length:Int)) (by rw[ny])];have hz:((some rs).bind λxs=>(some (bs.map lD)).bind λys=>if xs.length<=big then some (qJ xs ys)else none)=some (bs.map λb=>.tup [J3 shs bs ss b,lD b]):=by
  show(if rs.length<=big then some (qJ rs (bs.map lD))else none)=_;rw[X6 (by unfold big;lia),<-hR,vz5]
 refine xY (λE ab=>∃(b1 b2:List Sh) (l4 l5:Option Sd),E=[some (.no,V5 ss rs),some (.no,sL ss),some (.no,.lst (shs.map lD)),some (.no,.lst (bs.map lD)),l4,l5]/\bs=b1++b2/\ab=b2.map λb=>.tup [J3 shs bs ss b,lD b]) ?_ ?_ ?_
 ·simp![x1,↓w_zip];rw[hz];simp![];exact⟨[],bs,_,_,rfl,rfl,rfl⟩
 ·rintro E d ds ⟨b1,b2,l4,l5,rfl,he,hr⟩;cases b2 with
  |nil=>cases hr
  |cons b b2=>
   injection hr with e1 e2;have e1:d=.tup [J3 shs bs ss b,lD b]:=e1;subst e1 e2;simp![];refine(vwp (shs:=shs) (bs:=bs) (ss:=ss) (b:=b) (hb5 b (by rw[he];simp)) hs).via ?_;rintro ⟨o,d⟩ h;cases(show d=.bl true from h);simp![];exact⟨b1++[b],b2,_,_,rfl,by rw[he];simp,rfl⟩
 ·rintro E ⟨b1,b2,l4,l5,rfl,he,hr⟩;simp![]
theorem wkg{w:Sh}:zz (.rt,.lst (rwD w))=true:=qvv (D.pures_map _ _ λp _=>rfl)
theorem vqj:∀{ds:List D} {ys:List Sd},Each (λd y=>y=(Own.dp,d)) ds ys->ys.all kJ=true
 |[],[],_=>rfl|[],_::_,h=>by cases h|_::_,[],h=>by cases h
 |d::ds,y::ys,⟨h,r⟩=>by
  rw[h,List.all_cons,vqj r];rfl
theorem wq0(ns:List Int)(hn:ns.length<=63)(hb:∀i∈ns,Builtin.Int.intBits i<=1048576):Oo m_law [(.no,iL ns)] (λy=>y.2=.bl true) noX:=by
 unfold m_law;rw[vq8];refine v7 ?_;simp![];refine(B.cell_ok ns 0 ⋯).use ?_;intro _ _;simp![];refine(qzu _).use ?_;rintro ss ⟨h1,h3,hs⟩;simp![];refine(qzl ns hn hb h1 h3).use ?_;intro ak hT;have hl:=hT.len;simp![];refine K0 (λE1 B ds ac=>E1=[some (.no,iL ns),some (.no,sL ss),some (.no,.lst (ak.map lD)),none,none,none,none,none,none,none,none,none]/\∃(q0:Option Sd) (r1 r2:List Sh),B=[q0]/\ds=r2.map lD/\ak=r1++r2/\ac.map (·.2)=(r1.map shW).map lD) ?_ ?_ ?_
 ·simp![];exact⟨_,[],ak,rfl,rfl,rfl,rfl⟩
 ·rintro E1 B d ds ac ⟨rfl,q0,r1,r2,rfl,b7,hr,ha⟩;cases r2 with
  |nil=>cases b7
  |cons w r2=>
   injection b7 with e1 e2;subst e1 e2;have hw:=hT.l5 w (by rw[hr];simp);simp![];refine(qzw w ⋯).via ?_;rintro _ rfl;exact⟨_,r1++[w],r2,rfl,rfl,by rw[hr];simp,by rw[Xl,ha];simp⟩
 rintro E1 B ac ⟨rfl,q0,r1,r2,rfl,b7,hr,ha⟩;have:r2=[]:=by cases r2 with|nil=>rfl|cons=>cases b7
 subst this;rw[Xq]at hr;subst hr;rw[vZ,ha];simp only[JV,back,clr,at',List.drop,List.map_cons,List.map_nil,List.set_cons_zero,List.set_cons_succ];simp![↓vz9,↓WK,qwf (o:=.no) (xs:=ss.map D.str) ⋯,vkt];refine Kk [] (λd y=>y=(.dp,d)) ?_;simp![];refine⟨λd hd=>?_,λys hy=>?_⟩
 ·obtain⟨w,_,rfl⟩:=aE hd;simp![↓WK,qwf (o:=.no) (xs:=rwD w) ⋯,wkg];exact⟨⟨_,rfl⟩,trivial⟩
 rw[vkw (vqj hy),vx3 (λd y h=>by rw[h]) hy];simp only[back,clr];have x0:kw (.lst [sL ss,.lst (ak.map lD)]) (.int 0)=some (sL ss):=rfl;have x1:kw (.lst [sL ss,.lst (ak.map lD)]) (.int 1)=some (.lst (ak.map lD)):=rfl;have mn:∀s∈ak.map shW,s.length<=5:=λs hs=>by obtain⟨w,hw,rfl⟩:=aE hs;rw[jzw];exact hT.l5 w hw
 have nj:(ak.map shW).length<=11:=by rw[X2];lia
 have nh:fNe (.lst [sL ss,.lst (ak.map lD)]) (.lst [sL ss,.lst (ak.map lD)])=some (.bl false):=qw3 (by
  have a1:D.flats 38 (ss.map D.str)=true:=zK λd hd=>by obtain⟨w,_,rfl⟩:=aE hd;rfl
  have a2:D.flats 38 (ak.map lD)=true:=zK λd hd=>by obtain⟨w,_,rfl⟩:=aE hd;exact V1 w
  simp[D.flat,D.flats,a1,a2])
 unfold kQ;rw[Qx];refine⟨rfl,?_⟩;simp![↓qqh,x0,x1];refine(jz2 h3 ⋯ hT.l5 hT.sg hT.n3).use ?_;intro bs hB;simp![];refine(kzr hB nj mn h3).via ?_;rintro ⟨o,d⟩ h;cases(show d=.bl true from h);simp![nh];refine vjv (p:=[1]) (rs:=bs.map (J3 (ak.map shW) bs ss)) rfl rfl (by simp) (by simp) (by simp) (by simp) (λx hx=>?_) λow=>?_
 ·obtain⟨b,_,rfl⟩:=aE hx;refine⟨_,_,_,rfl,List.all_eq_true.mpr λd hd=>?_⟩;obtain⟨z,_,rfl⟩:=aE hd;rfl
 simp![];refine wke (p:=[0]) (ds:=ss.map D.str) rfl rfl ?_;simp![↓qqh,x0,x1];refine(jz2 h3 ⋯ hT.l5 hT.sg hT.n3).use ?_;intro bs2 hB2;simp![];refine wke (p:=[0]) (ds:=ss.map D.str) rfl rfl ?_;simp![];refine vju (p:=[1]) (ds:=ak.map lD) rfl rfl (by simp) (List.all_eq_true.mpr λd hd=>by obtain⟨w,_,rfl⟩:=aE hd;rfl) ?_;simp![];refine(kzr hB2 nj mn h3).via ?_;rintro ⟨o,d⟩ h;exact h
theorem law_true(ns:List Int)(hl:ns.length<=63)(hb:∀i∈ns,Builtin.Int.intBits i<=1048576):∃E o,m_law [(.no,.lst (ns.map D.int))]=some (.ok E (o,.bl true)):=by
 obtain⟨E,⟨o,d⟩,h,hd⟩:=(wq0 ns hl hb).out;have hd:d=.bl true:=hd;subst hd;exact⟨E,o,h⟩
end Nk70
namespace Nk70
open PySem L2 L3 Q
def top(i:Nat):Stmt:=PySem.Challenge.pw_freshrooms_k70_rooms_of_a_table.main.body.getD i (.Pass ⟨0,0,0,0⟩)
abbrev jxj:Stmt:=top 5
abbrev jqb:Stmt:=top 11
abbrev jxl:Stmt:=top 10
abbrev kj0:Stmt:=top 13
abbrev jxh:Stmt:=top 12
abbrev jxi:Stmt:=top 9
abbrev jxk:Stmt:=top 8
abbrev jqp:Stmt:=top 15
abbrev jvk:Stmt:=top 16
abbrev jve:Stmt:=top 17
abbrev jv2:Stmt:=top 18
abbrev jvf:Stmt:=top 19
abbrev jvi:Stmt:=top 20
abbrev jvh:Stmt:=top 21
abbrev jvg:Stmt:=top 22
abbrev jkr:Stmt:=top 23
abbrev jwj:Stmt:=top 24
abbrev jqo:Stmt:=top 25
abbrev jqn:Stmt:=top 26
abbrev jvj:Stmt:=top 27
abbrev vv3:Stmt:=top 28
theorem sc_shape_of:FnScope ["row","numbers","shape","sign","name"] ["row"] (k5 jxj):=mkS
theorem sc_beginnings_of:FnScope ["shapes","told","shape"] ["shapes"] (k5 jqb):=mkS
theorem kx4:FnScope ["shape"] ["shape"] (k5 jxl):=mkS
theorem qkb:FnScope ["shape","numbers"] ["shape","numbers"] (k5 kj0):=mkS
theorem sc_steps_at:FnScope ["shape","signs","numbers","names","steps","sign"] ["shape","signs","numbers"] (k5 jxh):=mkS
theorem sc_signs_in:FnScope ["shapes","signs","shape"] ["shapes"] (k5 jxi):=mkS
theorem sc_plain_by:FnScope ["signs","table","shapes","beginnings","numbers"] ["signs","table"] (k5 jxk):=mkS
theorem jzz:FnScope ["_law_script","_law_k"] ["_law_script","_law_k"] (k5 jqp):=mkS
theorem sc__law_mixed:FnScope ["_law_cell","_law_k","_law_number_here"] ["_law_cell","_law_k"] (k5 jvk):=mkS
theorem sc__law_words:FnScope ["_law_cell","_law_many_here","_law_letters","_law_word","_law_long","_law_at","_law_some","_law_k","_law_turn"] ["_law_cell","_law_many_here"] (k5 jve):=mkS
theorem kjx:FnScope ["_law_cell"] ["_law_cell"] (k5 jv2):=mkS
theorem kky:FnScope ["_law_found"] ["_law_found"] (k5 jvf):=mkS
theorem sc__law_shape:FnScope ["_law_row","_law_known","_law_found","_law_sign","_law_name"] ["_law_row"] (k5 jvi):=mkS
theorem kkz:FnScope ["_law_cell"] ["_law_cell"] (k5 jvh):=mkS
theorem sc__law_table:FnScope ["_law_script","_law_start","_law_signs_here","_law_most","_law_head","_law_one","_law_pool","_law_table_here","_law_k","_law_number_here","_law_row","_law_many_here","_law_j","_law_part"] ["_law_script","_law_start","_law_signs_here","_law_most"] (k5 jvg):=mkS
theorem sc__law_beginnings:FnScope ["_law_shapes","_law_some","_law_shape_here","_law_k"] ["_law_shapes"] (k5 jkr):=mkS
theorem kva:FnScope ["_law_shape_here"] ["_law_shape_here"] (k5 jwj):=mkS
theorem jzy:FnScope ["_law_found","_law_longer","_law_order"] ["_law_found","_law_longer","_law_order"] (k5 jqo):=mkS
theorem sc__law_is_room:FnScope ["_law_found","_law_shape_here","_law_order","_law_shapes","_law_signs_here","_law_sign","_law_cases","_law_name"] ["_law_found","_law_shape_here","_law_order","_law_shapes","_law_signs_here"] (k5 jqn):=mkS
theorem sc__law_right:FnScope ["_law_found","_law_signs_here","_law_shapes","_law_order","_law_room","_law_shape_here"] ["_law_found","_law_signs_here","_law_shapes"] (k5 jvj):=mkS
theorem sc_law:FnScope ["_law_script","_law_signs_here","_law_table_here","_law_shapes","_law_handed","_law_found","_law_keepers","_law_good","_law_steps","_law_cases","_law_again","_law_row"] ["_law_script"] (k5 vv3):=mkS
structure Txt (K:Frag)(mg:Str->Option Value):Prop where
 b_all:mg "all"=none
 b_bool:mg "bool"=none
 b_dict:mg "dict"=none
 b_enumerate:mg "enumerate"=none
 b_int:mg "int"=none
 b_isinstance:mg "isinstance"=none
 b_len:mg "len"=none
 b_list:mg "list"=none
 b_range:mg "range"=none
 b_set:mg "set"=none
 b_sorted:mg "sorted"=none
 b_tuple:mg "tuple"=none
 b_zip:mg "zip"=none
 c_MOST_NAMES:Cst mg "MOST_NAMES" (V.int (3))
section
variable (P:Program)(w:PySem.World)(K:Frag)(mg:Str->Option Value)(base:Heap)
abbrev kko:=kK P w K mg base 1 "shape_of" ["row"] (spF K mg 1 m_shape_of)
abbrev jvv:=kK P w K mg base 1 "beginnings_of" ["shapes"] (spF K mg 1 m_beginnings_of)
abbrev jw6:=kK P w K mg base 1 "names_in" ["shape"] (spF K mg 1 m_names_in)
abbrev kww:=kK P w K mg base 2 "case_to" ["shape","numbers"] (spF K mg 2 m_case_to)
abbrev kkm:=kK P w K mg base 3 "steps_at" ["shape","signs","numbers"] (spF K mg 3 jqw)
abbrev kkn:=kK P w K mg base 1 "signs_in" ["shapes"] (spF K mg 1 m_signs_in)
abbrev kkp:=kK P w K mg base 4 "plain_by" ["signs","table"] (spF K mg 2 Vq)
abbrev jqq:=kK P w K mg base 1 "_law_cell_at" ["_law_script","_law_k"] (spF K mg 2 m__law_cell_at)
abbrev jvx:=kK P w K mg base 1 "_law_mixed" ["_law_cell","_law_k"] (spF K mg 2 m__law_mixed)
abbrev jz3:=kK P w K mg base 2 "_law_words" ["_law_cell","_law_many_here"] (spF K mg 2 m__law_words)
abbrev jxc:=kK P w K mg base 1 "_law_number" ["_law_cell"] (spF K mg 1 m__law_number)
abbrev jvw:=kK P w K mg base 1 "_law_whole" ["_law_found"] (spF K mg 1 QJ)
abbrev jz6:=kK P w K mg base 1 "_law_shape" ["_law_row"] (spF K mg 1 jkx)
abbrev jz5:=kK P w K mg base 3 "_law_signs" ["_law_cell"] (spF K mg 1 ZJ)
abbrev jz4:=kK P w K mg base 2 "_law_table" ["_law_script","_law_start","_law_signs_here","_law_most"] (spF K mg 4 Zx)
abbrev jqz:=kK P w K mg base 1 "_law_beginnings" ["_law_shapes"] (spF K mg 1 jjs)
abbrev jwp:=kK P w K mg base 1 "_law_many" ["_law_shape_here"] (spF K mg 1 ZZ)
abbrev jwg:=kK P w K mg base 2 "_law_is_case" ["_law_found","_law_longer","_law_order"] (spF K mg 3 ZY)
abbrev jwf:=kK P w K mg base 3 "_law_is_room" ["_law_found","_law_shape_here","_law_order","_law_shapes","_law_signs_here"] (spF K mg 5 jk8)
abbrev jz7:=kK P w K mg base 4 "_law_right" ["_law_found","_law_signs_here","_law_shapes"] (spF K mg 3 WV)
end
section
variable {P:Program}{w:PySem.World}{K:Frag}{mg:Str->Option Value}{base:Heap}{f:Addr}{fd:FuncData}
theorem kxg(T:Txt K mg)  (F:Fun K "shape_of" "shape_of" jxj f fd):FnOk P w K mg base (CXE P w) 1 f fd ["row"] (spF K mg 1 m_shape_of):=
 qK F sc_shape_of (qQ rfl) λbd A outer s H vs Q E hr h=>have nd:=sc_shape_of.nd;qV rfl
  (j8 (qA nd wjm) (j8 (qA nd (wv (o:=.rt) j9)) (j8 (qF (qX (cv 0)) (K4 (is:=[3,4]) (Jw K (t:=gNs [3,4]) (n:=2) (qj (gn nd) (qj (gn nd) J0)))) (j8 (qw (v6 (vj6 hr.units) qz9 (vv 4) (vv 1) (by rfl) qxz) (jk (wjh (i:=1) hr.units (pv 1) (vv 4) (YJ qxq vxm (vv 1) T.b_len vqd))) qv) (jk (qP (wZ (o:=.no) (j6 (cv 3) (j6 (zj (wx0 hr.units (vv 1) (vv 4) (λ_ _=>rfl))) j9))))))) (jk (jX (WZ (pv 2))))))) h
theorem jza(T:Txt K mg)  (F:Fun K "beginnings_of" "beginnings_of" jqb f fd):FnOk P w K mg base (CXE P w) 1 f fd ["shapes"] (spF K mg 1 m_beginnings_of):=
 qK F sc_beginnings_of (qQ rfl) λbd A outer s H vs Q E hr h=>have nd:=sc_beginnings_of.nd;qV rfl
  (j8 (qA nd (wv (o:=.rt) (j6 (wZ (o:=.no) (j6 kI (j6 (wZ (o:=.no) j9) j9))) j9))) (j8 (qF (qX (cv 0)) (gN nd) (jk (wjl (i:=1) (qM .rt 1 [2] 3 ["end","shape"] (KW (j4 (oA (j4 (qL (vv 2) T.b_len)) ki)) rfl T.b_range) (λ_ _ _ _ _=>(wZ (o:=.no) (j6 (cv 0) (j6 (www (vv 1) qvd (QX (vv 0))) j9)))))))) (jk (jX (qm .rt 2 [] 3 ["size","shape"] (qX (wwv rfl rfl hr.units (vv 1) T.b_sorted T.b_set)) (λhN _ _ _ _ _=>(K4 (is:=[0,1]) (Jw K (t:=gNs [0,1]) (n:=2) (qj (vx (i:=0) hN rfl (by trivial)) (qj (vx (i:=1) hN rfl (by trivial)) J0))))) (λ_ _ _ _ _=>Qz) (λ_ _ _ _ _=>(cv 1))))))) h
theorem kxi(T:Txt K mg)  (F:Fun K "names_in" "names_in" jxl f fd):FnOk P w K mg base (CXE P w) 1 f fd ["shape"] (spF K mg 1 m_names_in):=
 qK F kx4 (qQ rfl) λbd A outer s H vs Q E hr h=>qV rfl
  (jk (jX (kvm rfl rfl (j4 (qm .rt 2 [] 1 ["sign","name"] (qX (cv 0)) (λhN _ _ _ _ _=>(K4 (is:=[0,1]) (Jw K (t:=gNs [0,1]) (n:=2) (qj (vx (i:=0) hN rfl (by trivial)) (qj (vx (i:=1) hN rfl (by trivial)) J0))))) (λ_ _ _ _ _=>Qz) (λ_ _ _ _ _=>(cv 1)))) T.b_len T.b_set))) h
theorem qko(T:Txt K mg)(ao:jw6 P w K mg base)(F:Fun K "case_to" "case_to" kj0 f fd):FnOk P w K mg base (CXE P w) 2 f fd ["shape","numbers"] (spF K mg 2 m_case_to):=
 qK F qkb (qQ rfl) λbd A outer s H vs Q E hr h=>qV rfl
  (j8 (qw (v6 (vj7 hr.units) qza (vv 0) (vv 1) (by rfl) qz0) (jk (jX kN)) qv) (jk (jX (wZ (o:=.no) (j6 (zj (wwz hr.units (vv 1) (vv 0) (λ_ _=>rfl))) (j6 (wwu (j4 (qC ao hr (j6 (cv 0) j9))) T.b_range T.b_tuple) j9)))))) h
theorem kxe(T:Txt K mg)(ao:jw6 P w K mg base)(dj:kww P w K mg base)(F:Fun K "steps_at" "steps_at" jxh f fd):FnOk P w K mg base (CXE P w) 3 f fd ["shape","signs","numbers"] (spF K mg 3 jqw):=
 qK F sc_steps_at (qQ rfl) λbd A outer s H vs Q E hr h=>have nd:=sc_steps_at.nd;qV rfl
  (j8 (qA nd (wwy (j4 (oA (j4 (qC ao hr (j6 (cv 0) j9))) ki)) T.b_range T.b_list)) (j8 (qA nd (wv (o:=.dp) j9)) (j8 (qF (qX (cv 1)) (gN nd) (jk (qP (Wz (qM .rt 1 [0,5,2] 6 ["name","shape","sign","numbers"] (qX (cv 3)) (λ_ _ _ _ _=>(qC dj hr (j6 (oA (vv 1) (j4 (wZ (o:=.no) (j6 (wZ (o:=.no) (j6 (cv 2) (j6 (cv 0) j9))) j9)))) (j6 (cv 3) j9))))))))) (jk (jX (WZ (pv 4))))))) h
theorem kxf(T:Txt K mg)  (F:Fun K "signs_in" "signs_in" jxi f fd):FnOk P w K mg base (CXE P w) 1 f fd ["shapes"] (spF K mg 1 m_signs_in):=
 qK F sc_signs_in (qQ rfl) λbd A outer s H vs Q E hr h=>have nd:=sc_signs_in.nd;qV rfl
  (j8 (qA nd (wv (o:=.rt) j9)) (j8 (qF (qX (cv 0)) (gN nd) (jk (wjl (i:=1) (qm .rt 2 [] 3 ["sign","name"] (qX (cv 2)) (λhN _ _ _ _ _=>(K4 (is:=[0,1]) (Jw K (t:=gNs [0,1]) (n:=2) (qj (vx (i:=0) hN rfl (by trivial)) (qj (vx (i:=1) hN rfl (by trivial)) J0))))) (λ_ _ _ _ _=>Qz) (λ_ _ _ _ _=>(cv 0)))))) (jk (jX (WZ (pv 1)))))) h
theorem kxh(T:Txt K mg)(ba:jvv P w K mg base)(cj:kko P w K mg base)(ao:jw6 P w K mg base)(cp:kkm P w K mg base)(cu:kkn P w K mg base)(F:Fun K "plain_by" "plain_by" jxk f fd):FnOk P w K mg base (CXE P w) 4 f fd ["signs","table"] (spF K mg 2 Vq):=
 qK F sc_plain_by (qQ rfl) λbd A outer s H vs Q E hr h=>have nd:=sc_plain_by.nd;qV rfl
  (j8 (qA nd (qM .rt 1 [] 5 ["row"] (qX (cv 1)) (λ_ _ _ _ _=>(qT (j4 (qC cj hr (j6 (cv 0) j9))) T.b_tuple)))) (j8 (qw (vQ (vz (j4 (YJ (qxv K) vqm (j4 (qM .rt 1 [0] 5 ["sign","signs"] (qX (qC cu hr (j6 (cv 2) j9))) (λ_ _ _ _ _=>(Vv (vw4 hr.units) vxn (vv 0) (vv 1) (by rfl))))) T.b_all vqe)))) (jk vkk) qv) (j8 (qw (vQ (vz (j4 (YJ (qxv K) vqm (j4 (qM .rt 1 [] 5 ["shape"] (qX (cv 2)) (λ_ _ _ _ _=>(Vv wxd (vxo (g:=λa b=>decide (a<=b))) (j4 (qC ao hr (j6 (cv 0) j9))) (j4 (q_C (wkb T.c_MOST_NAMES) (λ_=>xZ))) (vk _))))) T.b_all vqe)))) (jk vkk) qv) (j8 (qA nd (qC ba hr (j6 (cv 2) j9))) (j8 (qA nd (wjc (qq3 hr.units) vke (j4 (qm .rt 2 [] 5 ["number","shape"] (wjg (cv 3) rfl T.b_enumerate) (λhN _ _ _ _ _=>(K4 (is:=[0,1]) (Jw K (t:=gNs [0,1]) (n:=2) (qj (vx (i:=0) hN rfl (by trivial)) (qj (vx (i:=1) hN rfl (by trivial)) J0))))) (λ_ _ _ _ _=>Qz) (λ_ _ _ _ _=>(wZ (o:=.no) (j6 (cv 1) (j6 (cv 0) j9)))))) T.b_dict vxg)) (jk (jX (wZ (o:=.dp) (q:=false) (j6 (QE.weak (Wz (wjc (kqq K) kz7 (vv 0) T.b_list Q4))) (j6 (QE.weak (qM .dp 1 [2,0,4] 5 ["shape","shapes","signs","numbers"] (qX (cv 3)) (λ_ _ _ _ _=>(wZ (o:=.dp) (j6 (Wz (qC ao hr (j6 (cv 0) j9))) (j6 (Vv (vw4 hr.units) vxn (vv 0) (vv 1) (by rfl)) (j6 (Wz (qC cp hr (j6 (cv 0) (j6 (cv 2) (j6 (cv 3) j9))))) j9))))))) wx5)))))))))) h
theorem kj8(T:Txt K mg)  (F:Fun K "_law_cell_at" "_law_cell_at" jqp f fd):FnOk P w K mg base (CXE P w) 1 f fd ["_law_script","_law_k"] (spF K mg 2 m__law_cell_at):=
 qK F jzz (qQ rfl) λbd A outer s H vs Q E hr h=>qV rfl
  (j8 (qw (v6 wxc (vxo (g:=λa b=>decide (a<b))) (vv 1) (j4 (qL (vv 0) T.b_len)) (vk _) wv6) (jk (jX (zj (kx (vv 0) (vv 1))))) qv) (jk (jX kI))) h
theorem kqc(T:Txt K mg)  (F:Fun K "_law_mixed" "_law_mixed" jvk f fd):FnOk P w K mg base (CXE P w) 1 f fd ["_law_cell","_law_k"] (spF K mg 2 m__law_mixed):=
 qK F sc__law_mixed (qQ rfl) λbd A outer s H vs Q E hr h=>have nd:=sc__law_mixed.nd;qV rfl
  (j8 (qw (v6 (vj8 hr.units) vkd (j4 (oM (vv 0) ki)) ki (vk _) vxh) (jk (jX (q9 zX J8 (vv 0) (j4 (q9 wkh wvg ki (j4 (oX ki (vv 1)))))))) qv) (j8 (qA nd (oM (j4 (oX (j4 (oA (j4 (oA (j4 (oM (vv 0) ki)) (j4 (oX ki (vv 1))))) ki)) ki)) ki)) (j8 (qA nd (oM (j4 (oX (vv 2) (vv 2))) ki)) (jk (jX (oM (j4 (oA (j4 (oX (vv 2) (vv 2))) (j4 (oX ki (vv 1))))) ki)))))) h
theorem kq6(T:Txt K mg)(aw:jvx P w K mg base)(F:Fun K "_law_words" "_law_words" jve f fd):FnOk P w K mg base (CXE P w) 2 f fd ["_law_cell","_law_many_here"] (spF K mg 2 m__law_words):=
 qK F sc__law_words (qQ rfl) λbd A outer s H vs Q E hr h=>have nd:=sc__law_words.nd;qV rfl
  (j8 (qA nd kS) (j8 (qA nd (wjf vkn (j4 (qM .rt 1 [2,0] 9 ["_law_j","_law_letters","_law_cell"] (KW ki rfl T.b_range) (λ_ _ _ _ _=>(zj (kx (vv 1) (j4 (oM (j4 (qC aw hr (j6 (cv 2) (j6 (cv 0) j9)))) ki))))))))) (j8 (qw (v6 (vj8 hr.units) vkd (j4 (oM (vv 0) ki)) ki (vk _) vxh) (jk (jX (qM .rt 1 [3,0] 9 ["_law_k","_law_word","_law_cell"] (KW (vv 1) rfl T.b_range) (λ_ _ _ _ _=>(wjd (vv 1) qvd (QX (j4 (oA ki (j4 (oM (j4 (oA (vv 0) (j4 (q9 zX J8 (vv 2) ki)))) ki)))))))))) qv) (j8 (qA nd (oA ki (j4 (oM (j4 (q9 zX J8 (vv 0) ki)) ki)))) (j8 (qA nd (oM (j4 (q9 zX J8 (vv 0) ki)) (vv 4))) (j8 (qA nd (wv (o:=.rt) j9)) (j8 (qF (KW (vv 1) rfl T.b_range) (gN nd) (j8 (qA nd (oM (j4 (oA (j4 (wji (vv 2) (kx (vv 3) (vv 5)))) (j4 (oX (vv 7) (j4 (oA ki (j4 (oM (j4 (q9 zX J8 (vv 0) ki)) ki)))))))) ki)) (jk (qP (oA (j4 (oA (j4 (wjd (vv 3) qvd (QX (vv 5)))) (kx (vv 2) (vv 8)))) (j4 (wjd (vv 3) (QX (j4 (oA (vv 5) ki))) (QX (vv 4))))))))) (jk (jX (WZ (pv 6))))))))))) h
theorem kjz(T:Txt K mg)  (F:Fun K "_law_number" "_law_number" jv2 f fd):FnOk P w K mg base (CXE P w) 1 f fd ["_law_cell"] (spF K mg 1 m__law_number):=
 qK F kjx (qQ rfl) λbd A outer s H vs Q E hr h=>qV rfl
  (j8 (qw (v6 (vj8 hr.units) vkd (j4 (oM (vv 0) ki)) ki (vk _) vxh) (jk (jX (q9 qj7 qk0 (j4 (oM (j4 (q9 zX J8 (vv 0) ki)) ki)) ki))) qv) (jk (jX (oA (j4 (q9 qj7 qk0 (j4 (oM (j4 (oX (vv 0) (j4 (q9 YX kwv ki ki)))) (j4 (q9 qj7 qk0 (j4 (oX ki (j4 (q9 YX kwv ki ki)))) ki)))) (j4 (q9 YX kwv ki ki)))) ki)))) h
theorem kq7(T:Txt K mg)  (F:Fun K "_law_whole" "_law_whole" jvf f fd):FnOk P w K mg base (CXE P w) 1 f fd ["_law_found"] (spF K mg 1 QJ):=
 qK F kky (qQ rfl) λbd A outer s H vs Q E hr h=>qV rfl
  (jk (jX (wx4 (j4 (J5 (vv 0) T.b_isinstance T.b_int wv5 rfl)) (wje (wwx (j4 (J5 (vv 0) T.b_isinstance T.b_bool qxx rfl))))))) h
theorem kqa(T:Txt K mg)  (F:Fun K "_law_shape" "_law_shape" jvi f fd):FnOk P w K mg base (CXE P w) 1 f fd ["_law_row"] (spF K mg 1 jkx):=
 qK F sc__law_shape (qQ rfl) λbd A outer s H vs Q E hr h=>have nd:=sc__law_shape.nd;qV rfl
  (j8 (qA nd (wv (o:=.rt) j9)) (j8 (qA nd (wv (o:=.rt) j9)) (j8 (qF (qX (cv 0)) (K4 (is:=[3,4]) (Jw K (t:=gNs [3,4]) (n:=2) (qj (gn nd) (qj (gn nd) J0)))) (j8 (qw (v6 (kq5 hr.units) kqx (vv 4) (vv 1) (by rfl) kqs) (jk (qP (cv 4))) qv) (jk (qP (wZ (o:=.no) (j6 (cv 3) (j6 (qvf hr.units (vv 1) (vv 4)) j9))))))) (jk (jX (WZ (pv 2))))))) h
theorem kq9(T:Txt K mg)(bt:jz3 P w K mg base)(F:Fun K "_law_signs" "_law_signs" jvh f fd):FnOk P w K mg base (CXE P w) 3 f fd ["_law_cell"] (spF K mg 1 ZJ):=
 qK F kkz (qQ rfl) λbd A outer s H vs Q E hr h=>qV rfl
  (jk (jX (YJ (kz3 rfl) qz8 (j4 (qC bt hr (j6 (q9 zX J8 (vv 0) ki) (j6 (oA ki (j4 (oM (vv 0) ki))) j9)))) T.b_sorted qxw))) h
theorem kq8(T:Txt K mg)(ai:jqq P w K mg base)(bi:jxc P w K mg base)(aw:jvx P w K mg base)(F:Fun K "_law_table" "_law_table" jvg f fd):FnOk P w K mg base (CXE P w) 2 f fd ["_law_script","_law_start","_law_signs_here","_law_most"] (spF K mg 4 Zx):=
 qK F sc__law_table (qQ rfl) λbd A outer s H vs Q E hr h=>have nd:=sc__law_table.nd;qV rfl
  (j8 (qA nd (qC ai hr (j6 (cv 0) (j6 (cv 1) j9)))) (j8 (qA nd (qC bi hr (j6 (qC ai hr (j6 (cv 0) (j6 (oA (vv 1) ki) j9))) j9))) (j8 (qA nd (wv (o:=.rt) (j6 (cv 5) (j6 (oA (j4 (q9 zX J8 (vv 5) ki)) (j4 (q9 YX kwv ki ki))) (j6 (q9 qj7 qk0 (j4 (q9 zX J8 (vv 5) ki)) (j4 (q9 YX kwv ki ki))) j9))))) (j8 (qA nd (wv (o:=.rt) j9)) (j8 (qF (KW (j4 (oM (vv 4) (j4 (oA (vv 3) ki)))) rfl T.b_range) (gN nd) (j8 (qA nd (qC aw hr (j6 (qC ai hr (j6 (cv 0) (j6 (oA (j4 (oA (vv 1) ki)) (vv 8)) j9))) (j6 kI j9)))) (j8 (qA nd (wv (o:=.rt) j9)) (j8 (qA nd (oM (vv 9) ki)) (j8 (qF (KW (vv 11) rfl T.b_range) (gN nd) (j8 (qA nd (q9 zX J8 (vv 9) (kx (j4 (wv (o:=.rt) (j6 kI (j6 kI (j6 kI (j6 kI (j6 kI j9))))))) (vv 12)))) (jk (qP (wZ (o:=.no) (j6 (zj (kx (vv 2) (j4 (oM (vv 13) (j4 (qL (vv 2) T.b_len)))))) (j6 (zj (kx (vv 6) (j4 (oM (j4 (q9 zX J8 (vv 13) ki)) ki)))) j9))))))) (jk (qP (cv 10)))))))) (jk (jX (WZ (pv 7))))))))) h
theorem jwx(T:Txt K mg)  (F:Fun K "_law_beginnings" "_law_beginnings" jkr f fd):FnOk P w K mg base (CXE P w) 1 f fd ["_law_shapes"] (spF K mg 1 jjs):=
 qK F sc__law_beginnings (qQ rfl) λbd A outer s H vs Q E hr h=>have nd:=sc__law_beginnings.nd;qV rfl
  (j8 (qA nd (wv (o:=.rt) (j6 (wv (o:=.rt) j9) j9))) (j8 (qF (qX (cv 0)) (gN nd) (jk (qF (KW (j4 (qL (vv 2) T.b_len)) rfl T.b_range) (gN nd) (jk (qw (v6 (kq5 hr.units) kqx (j4 (wjd (vv 2) qvd (QX (j4 (oA (vv 3) ki))))) (vv 1) (by rfl) kqs) (jk (qP (wjd (vv 2) qvd (QX (j4 (oA (vv 3) ki)))))) qv))))) (jk (jX (qm .rt 2 [] 4 ["_law_size","_law_shape_here"] (qX (YJ (qxu hr.units K) wzh (j4 (qM .rt 1 [] 4 ["_law_shape_here"] (qX (cv 1)) (λ_ _ _ _ _=>(wZ (o:=.no) (j6 (qL (vv 0) T.b_len) (j6 (cv 0) j9)))))) T.b_sorted (by decide +kernel))) (λhN _ _ _ _ _=>(K4 (is:=[0,1]) (Jw K (t:=gNs [0,1]) (n:=2) (qj (vx (i:=0) hN rfl (by trivial)) (qj (vx (i:=1) hN rfl (by trivial)) J0))))) (λ_ _ _ _ _=>Qz) (λ_ _ _ _ _=>(cv 1))))))) h
theorem kvv(T:Txt K mg)  (F:Fun K "_law_many" "_law_many" jwj f fd):FnOk P w K mg base (CXE P w) 1 f fd ["_law_shape_here"] (spF K mg 1 ZZ):=
 qK F kva (qQ rfl) λbd A outer s H vs Q E hr h=>qV rfl
  (jk (jX (kvm rfl rfl (j4 (qm .rt 2 [] 1 ["_law_sign","_law_name"] (qX (cv 0)) (λhN _ _ _ _ _=>(K4 (is:=[0,1]) (Jw K (t:=gNs [0,1]) (n:=2) (qj (vx (i:=0) hN rfl (by trivial)) (qj (vx (i:=1) hN rfl (by trivial)) J0))))) (λ_ _ _ _ _=>Qz) (λ_ _ _ _ _=>(cv 1)))) T.b_len T.b_set))) h
theorem kj7(T:Txt K mg)(av:jvw P w K mg base)(ay:jwp P w K mg base)(F:Fun K "_law_is_case" "_law_is_case" jqo f fd):FnOk P w K mg base (CXE P w) 2 f fd ["_law_found","_law_longer","_law_order"] (spF K mg 3 ZY):=
 qK F jzy (qQ rfl) λbd A outer s H vs Q E hr h=>qV rfl
  (j8 (qw (v6 (kq5 hr.units) kqx (vv 1) (vv 2) (by rfl) kqs) (jk (jX (Vv wkj wvk (vv 0) kn (vk _)))) qv) (j8 (qw (QW.pt (xQ (vQ (vz (j4 (J5 (vv 0) T.b_isinstance T.b_tuple W2 rfl)))) (xQ (v6 (K2 hr.units) JQ (j4 (qL (vv 0) T.b_len)) ki (vk _) K1) (xQ (vQ (vz (j4 (qC av hr (j6 (zj (kx (vv 0) ki)) j9))))) (Qv (vQ (vz (j4 (J5 (kx (vv 0) ki) T.b_isinstance T.b_tuple W2 rfl))))))))) (jk (jX (q_C xV (λ_=>xx)))) qv) (j8 (qw (v6 wxe (vxo (g:=λa b=>decide (b<a))) (j4 (qL (j4 (qm .rt 1 [] 3 ["_law_fill"] (qX (zj (kx (vv 0) ki))) (λhN _ _ _ _ _=>(wvu (vx (i:=0) hN rfl (by trivial)))) (λ_ _ _ _ _=>(wwt (vQ (vz (j4 (qC av hr (j6 (cv 0) j9))))))) (λ_ _ _ _ _=>(cv 0)))) T.b_len)) ki (vk _) wv6) (jk (jX (q_C xV (λ_=>xx)))) qv) (jk (jX (Vv (vj8 hr.units) vkd (vv 0) (j4 (wZ (o:=.no) (j6 (qvf hr.units (vv 2) (vv 1)) (j6 (qT (j4 (qM .rt 1 [] 3 ["_law_k"] (KW (j4 (qC ay hr (j6 (cv 1) j9))) rfl T.b_range) (λ_ _ _ _ _=>(cv 0)))) T.b_tuple) j9)))) (vk _))))))) h
theorem kj6(T:Txt K mg)(av:jvw P w K mg base)(ay:jwp P w K mg base)(be:jwg P w K mg base)(F:Fun K "_law_is_room" "_law_is_room" jqn f fd):FnOk P w K mg base (CXE P w) 3 f fd ["_law_found","_law_shape_here","_law_order","_law_shapes","_law_signs_here"] (spF K mg 5 jk8):=
 qK F sc__law_is_room (qQ rfl) λbd A outer s H vs Q E hr h=>have nd:=sc__law_is_room.nd;qV rfl
  (j8 (qw (QW.pt (xQ (vQ (vz (j4 (J5 (vv 0) T.b_isinstance T.b_tuple W2 rfl)))) (xQ (v6 (K2 hr.units) JQ (j4 (qL (vv 0) T.b_len)) ki (vk _) K1) (xQ (vQ (vz (j4 (qC av hr (j6 (zj (kx (vv 0) ki)) j9))))) (Qv (v6 (K2 hr.units) JQ (kx (vv 0) ki) (j4 (qC ay hr (j6 (cv 1) j9))) (vk _) K1)))))) (jk (jX (q_C xV (λ_=>xx)))) qv) (j8 (qw (QW.pt (xQ (vQ (vz (j4 (J5 (kx (vv 0) ki) T.b_isinstance T.b_bool qxx rfl)))) (Qv (v6 (K2 hr.units) JQ (kx (vv 0) ki) (j4 (Vv (vw4 hr.units) vxn (vv 1) (vv 3) (by rfl))) (vk _) K1)))) (jk (jX (q_C xV (λ_=>xx)))) qv) (j8 (qw (QW.pt (xQ (vQ (vz (j4 (J5 (kx (vv 0) ki) T.b_isinstance T.b_list Q4 rfl)))) (Qv (v6 (K2 hr.units) JQ (j4 (qL (kx (vv 0) ki) T.b_len)) (j4 (qL (vv 4) T.b_len)) (vk _) K1)))) (jk (jX (q_C xV (λ_=>xx)))) qv) (j8 (qF (qve (cv 4) (zj (kx (vv 0) ki)) rfl T.b_zip) (K4 (is:=[5,6]) (Jw K (t:=gNs [5,6]) (n:=2) (qj (gn nd) (qj (gn nd) J0)))) (j8 (qw (QW.pt (xQ (vQ (vz (j4 (J5 (vv 6) T.b_isinstance T.b_list Q4 rfl)))) (Qv (v6 (K2 hr.units) JQ (j4 (qL (vv 6) T.b_len)) (j4 (oA (kx (vv 0) ki) ki)) (vk _) K1)))) (jk (jX (q_C xV (λ_=>xx)))) qv) (jk (qF (KW (j4 (qL (vv 6) T.b_len)) rfl T.b_range) (gN nd) (jk (qw (vQ (vz (j4 (qC be hr (j6 (zj (kx (vv 6) (vv 7))) (j6 (oA (vv 1) (j4 (wv (o:=.rt) (j6 (wZ (o:=.no) (j6 (cv 5) (j6 (cv 7) j9))) j9)))) (j6 (cv 2) j9))))))) (jk (jX (q_C xV (λ_=>xx)))) qv)))))) (jk (jX (q_C xV (λ_=>xx)))))))) h
theorem kqb(T:Txt K mg)(az:jqz P w K mg base)(bf:jwf P w K mg base)(F:Fun K "_law_right" "_law_right" jvj f fd):FnOk P w K mg base (CXE P w) 4 f fd ["_law_found","_law_signs_here","_law_shapes"] (spF K mg 3 WV):=
 qK F sc__law_right (qQ rfl) λbd A outer s H vs Q E hr h=>have nd:=sc__law_right.nd;qV rfl
  (j8 (qA nd (qC az hr (j6 (cv 2) j9))) (j8 (qw (QW.pt (xQ (vQ (vz (j4 (J5 (vv 0) T.b_isinstance T.b_tuple W2 rfl)))) (xQ (v6 (K2 hr.units) JQ (j4 (qL (vv 0) T.b_len)) ki (vk _) K1) (xQ (vQ (vz (j4 (J5 (kx (vv 0) ki) T.b_isinstance T.b_list Q4 rfl)))) (Qv (v6 (K2 hr.units) JQ (kx (vv 0) ki) (vv 1) (vk _) K1)))))) (jk (jX (q_C xV (λ_=>xx)))) qv) (j8 (qw (QW.pt (xQ (vQ (vz (j4 (J5 (kx (vv 0) ki) T.b_isinstance T.b_list Q4 rfl)))) (Qv (v6 (K2 hr.units) JQ (j4 (qL (kx (vv 0) ki) T.b_len)) (j4 (qL (vv 3) T.b_len)) (vk _) K1)))) (jk (jX (q_C xV (λ_=>xx)))) qv) (j8 (qF (qve (zj (kx (vv 0) ki)) (cv 3) rfl T.b_zip) (K4 (is:=[4,5]) (Jw K (t:=gNs [4,5]) (n:=2) (qj (gn nd) (qj (gn nd) J0)))) (jk (qw (vQ (vz (j4 (qC bf hr (j6 (cv 4) (j6 (cv 5) (j6 (cv 3) (j6 (cv 2) (j6 (cv 1) j9))))))))) (jk (jX (q_C xV (λ_=>xx)))) qv))) (jk (jX (q_C xV (λ_=>xx)))))))) h
theorem wkn(T:Txt K mg)(br:jz5 P w K mg base)(bv:jz4 P w K mg base)(bq:kkp P w K mg base)(bc:jz7 P w K mg base)(ai:jqq P w K mg base)(bu:jz6 P w K mg base)(F:Fun K "law" "law" vv3 f fd):FnOk P w K mg base (CXE P w) 5 f fd ["_law_script"] (spF K mg 1 m_law):=
 qK F sc_law (qQ rfl) λbd A outer s H vs Q E hr h=>have nd:=sc_law.nd;qV rfl
  (j8 (qA nd (qC br hr (j6 (qC ai hr (j6 (cv 0) (j6 kI j9))) j9))) (j8 (qA nd (qC bv hr (j6 (cv 0) (j6 kI (j6 (cv 1) (j6 kI j9)))))) (j8 (vvc (i:=3) (o:=.rt) (k:=1) (R:=[]) ["_law_row"] nd rfl (by trivial) (qX (cv 2)) (λ_ _ _ _ _=>(wvu (vx (i:=0) (show(["_law_row"]:List Str).Nodup by decide +kernel) rfl (by trivial)))) (λ_ _ _ _ _=>Qz) (λ_ _ _ _ _=>(qC bu hr (j6 (cv 0) j9))) V3 ⟨_,_,rfl,rfl⟩ ⋯ (show ∀j∈([]:List Nat) ,j<12 by decide)) (j8 (qA nd (wv (o:=.dp) (j6 (Wz (wjc (kqq K) kz7 (vv 1) T.b_list Q4)) (j6 (qM .dp 1 [] 12 ["_law_row"] (qX (cv 2)) (λ_ _ _ _ _=>(Wz (wjc (kqq K) kz7 (vv 0) T.b_list Q4)))) j9)))) (j8 (qA nd (qvg bq (hr.mono ⋯) V3 (V4 (kx (vv 4) ki) (V4 (kx (vv 4) ki) vvg)))) (j8 (qw (QW.pt (xQ (vQ (vz (j4 (vvf bc (hr.mono ⋯) V3 (V4 (vv 5) (V4 (vv 1) (V4 (vv 3) vvg))))))) (Qv (v6 (K2 hr.units) JQ (vv 4) (j4 (wv (o:=.rt) (j6 (cv 1) (j6 (cv 2) j9)))) (vk _) K1)))) (jk (jX (q_C xV (λ_=>xx)))) qv) (j8 (vve (i:=5) (r1:=6) (r2:=7) (r3:=8) (s:=9) (p:=[1]) (vw0 ⟨_,_,rfl,rfl⟩) rfl (jzm 1 (kj3 K (pv 5)) (λ_ _=>rfl)) (Jw K (t:=gNs [6,7,8]) (n:=3) (qj (gn nd) (qj (gn nd) (qj (gn nd) J0)))) (pv 8) (gn nd) (pv 9) (pv 8) rfl jzq) (j8 (xj0 (i:=5) (p:=[0]) (jzm 0 (kj3 K (pv 5)) (λ_ _=>rfl)) rfl jzq) (j8 (qA nd (qvg bq (hr.mono ⋯) V3 (V4 (kx (vv 4) ki) (V4 (kx (vv 4) ki) vvg)))) (j8 (xj0 (i:=4) (p:=[0]) (jzm 0 (kj3 K (pv 4)) (λ_ _=>rfl)) rfl jzq) (j8 (vvd (i:=4) (s:=11) (p:=[1]) (vw0 ⟨_,_,rfl,rfl⟩) rfl (jzm 1 (kj3 K (pv 4)) (λ_ _=>rfl)) (gn nd) (pv 11) rfl jzq) (jk (jX (qC bc hr (j6 (cv 10) (j6 (cv 1) (j6 (cv 3) j9))))))))))))))))) h
end
theorem all_mk{l:PySem.W.OpenLaw}{w:PySem.World}{K:Frag}{h:Heap}{mg:Str->Option Value}{fa:Addr}(X:K.In h)(G:h.Ns mainGlobals mg)(hfa:mg "law"=some (.ref fa)){d9:Value}
  (g0:Gf K "shape_of" jxj)
  (g1:Gf K "beginnings_of" jqb)
  (g2:Gf K "names_in" jxl)
  (g3:Gf K "case_to" kj0)
  (g4:Gf K "steps_at" jxh)
  (g5:Gf K "signs_in" jxi)
  (g6:Gf K "plain_by" jxk)
  (g7:Gf K "_law_cell_at" jqp)
  (g8:Gf K "_law_mixed" jvk)
  (g9:Gf K "_law_words" jve)
  (g10:Gf K "_law_number" jv2)
  (g11:Gf K "_law_whole" jvf)
  (g12:Gf K "_law_shape" jvi)
  (g13:Gf K "_law_signs" jvh)
  (g14:Gf K "_law_table" jvg)
  (g15:Gf K "_law_beginnings" jkr)
  (g16:Gf K "_law_many" jwj)
  (g17:Gf K "_law_is_case" jqo)
  (g18:Gf K "_law_is_room" jqn)
  (g19:Gf K "_law_right" jvj)
  (g20:Gf K "law" vv3)
  (q_MOST_NAMES:nsIn K mainGlobals "MOST_NAMES"=some (some d9)) (r_MOST_NAMES:RelV (V.int (3)) d9)
  (z_all:nsIn K mainGlobals "all"=some none)
  (z_bool:nsIn K mainGlobals "bool"=some none)
  (z_dict:nsIn K mainGlobals "dict"=some none)
  (z_enumerate:nsIn K mainGlobals "enumerate"=some none)
  (z_int:nsIn K mainGlobals "int"=some none)
  (z_isinstance:nsIn K mainGlobals "isinstance"=some none)
  (z_len:nsIn K mainGlobals "len"=some none)
  (z_list:nsIn K mainGlobals "list"=some none)
  (z_range:nsIn K mainGlobals "range"=some none)
  (z_set:nsIn K mainGlobals "set"=some none)
  (z_sorted:nsIn K mainGlobals "sorted"=some none)
  (z_tuple:nsIn K mainGlobals "tuple"=some none)
  (z_zip:nsIn K mainGlobals "zip"=some none)
  : ∃fd:FuncData,(∀(s:Shared) (v:Value),BindsTo s fd ⟨[v],[]⟩ [("_law_script",v)])/\∀base:Heap,K.In base->base.Ns mainGlobals mg->FnOk l.prog w K mg base (CXE l.prog w) 5 fa fd ["_law_script"] (spF K mg 1 m_law):=by
 have T:Txt K mg:=⟨Y2 X G z_all,Y2 X G z_bool,Y2 X G z_dict,Y2 X G z_enumerate,Y2 X G z_int,Y2 X G z_isinstance,Y2 X G z_len,Y2 X G z_list,Y2 X G z_range,Y2 X G z_set,Y2 X G z_sorted,Y2 X G z_tuple,Y2 X G z_zip,⟨_,PySem.W.mg_of X G q_MOST_NAMES,r_MOST_NAMES⟩⟩;refine g20.law X G hfa fun {base _ _} F=>?_
 have cj:kko l.prog w K mg base:=g0.d X G (kxg T );have ba:jvv l.prog w K mg base:=g1.d X G (jza T );have ao:jw6 l.prog w K mg base:=g2.d X G (kxi T );have dj:kww l.prog w K mg base:=g3.d X G (qko T ao);have cp:kkm l.prog w K mg base:=g4.d X G (kxe T ao dj);have cu:kkn l.prog w K mg base:=g5.d X G (kxf T );have bq:kkp l.prog w K mg base:=g6.d X G (kxh T ba cj ao cp cu);have ai:jqq l.prog w K mg base:=g7.d X G (kj8 T );have aw:jvx l.prog w K mg base:=g8.d X G (kqc T );have bt:jz3 l.prog w K mg base:=g9.d X G (kq6 T aw);have bi:jxc l.prog w K mg base:=g10.d X G (kjz T );have av:jvw l.prog w K mg base:=g11.d X G (kq7 T );have bu:jz6 l.prog w K mg base:=g12.d X G (kqa T );have br:jz5 l.prog w K mg base:=g13.d X G (kq9 T bt);have bv:jz4 l.prog w K mg base:=g14.d X G (kq8 T ai bi aw);have az:jqz l.prog w K mg base:=g15.d X G (jwx T );have ay:jwp l.prog w K mg base:=g16.d X G (kvv T );have be:jwg l.prog w K mg base:=g17.d X G (kj7 T av ay);have bf:jwf l.prog w K mg base:=g18.d X G (kj6 T av ay be);have bc:jz7 l.prog w K mg base:=g19.d X G (kqb T az bf);exact wkn T br bv bq bc ai bu F
end Nk70
namespace PySem.W.Fast
def tw295618027559816652:=()
def tw16863859220901724016:=()
def tw4246604487314303718:=()
def tw2724041695104833736:=()
def tw9909244011809337015:=()
def tw3528047550777834446:=()
def tw15965422583593658731:=()
def tw160914209792441822:=()
def tw1172790170478514863:=()
def tw1688075284694350354:=()
def tw15751973283491542640:=()
def tw1984229530599713861:=()
def tw17705678858901496749:=()
def tw917733804238170007:=()
def tw6598605554094657358:=()
def tw14791897620791354464:=()
def tw3713378328823445277:=()
def tw7035333784658636055:=()
def tw7399797092498330222:=()
def tw6139168315620866230:=()
def tw17488875481289961026:=()
def tw3378286815640077768:=()
def tw17711411672099665058:=()
def tw5244137656505966114:=()
def tw11066328684734634480:=()
def tw10841884690193382666:=()
def tw16604822320401056336:=()
def tw1388041742486117249:=()
def tw14327550147994986222:=()
def tw1289835256263380710:=()
def tw13259939537417514424:=()
def tw10261958344058790732:=()
def tw18202156889175200543:=()
def tw2772048812911544114:=()
def tw4487202441844272856:=()
def tw1819966872282544458:=()
def tw11165166640121381969:=()
def tw610237531682315522:=()
def tw6384321408154159877:=()
def tw5595181416539966620:=()
def tw7701309586725976668:=()
def tw14492289381393006:=()
def tw7176768926179799459:=()
def tw11276071988153923588:=()
def tw13168028353754995352:=()
def tw14302307149365001452:=()
def tw12815131376822236806:=()
def tw9894992028492270152:=()
def tw16561258118282211720:=()
def tw14739448849917632251:=()
def tw8539931971710159363:=()
def tw10804127870593675335:=()
def tw11044241889206998939:=()
def tw18278107592583754523:=()
def tw11929837916122462232:=()
def tw17697974456895907760:=()
def tw4602833710970987318:=()
def tw13760860899405090255:=()
def tw13323126799333211871:=()
def tw6213395251892362067:=()
def tw5149942398620809417:=()
def tw16082497821565375031:=()
def tw14865633221440146862:=()
def tw17915378526144562784:=()
def tw15336249840270036463:=()
def tw16514633525163382197:=()
def tw12413946991742359855:=()
def tw4696042940717208195:=()
def tw7430557982522992800:=()
def tw8188173574419005410:=()
def tw11506516158122340793:=()
def tw17769848480579575331:=()
def tw1267841780725466287:=()
end PySem.W.Fast
open PySem PySem.W PyProof.Rows
set_option maxRecDepth 100000 in
set_option maxHeartbeats 0 in
theorem PySem.Challenge.cw_freshrooms_k70_rooms_of_a_table_holds : PySem.Challenge.rw_freshrooms_k70_rooms_of_a_table.Holds := by
 w_on;o_law;k_head;(case hw=>w_witness2)
 k_fill
 refine Q.walkQ (l:=PySem.Challenge.rw_freshrooms_k70_rooms_of_a_table) (n:=63) (k:=5) (x:="_law_script") (f:=Nk70.m_law) rfl ⋯ rfl ⟨rfl,⋯,⋯,rfl⟩ (fun w h Y=>PySem.W.kIn_of Y) ?F Nk70.law_true
 case F =>
  intro w mg fa h KX G hmg
  refine' Nk70.all_mk KX G hmg ?_ ?_ ?_ ?_ ?_ ?_ ?_ ?_ ?_ ?_ ?_ ?_ ?_ ?_ ?_ ?_ ?_ ?_ ?_ ?_ ?_ ?q_MOST_NAMES ?r_MOST_NAMES ?z_all ?z_bool ?z_dict ?z_enumerate ?z_int ?z_isinstance ?z_len ?z_list ?z_range ?z_set ?z_sorted ?z_tuple ?z_zip
  all_goals try (refine' Q.Gf.mk ?a ?b ?c ?d;(case a=>k_is);(case b=>k_is);(case c=>k_is);(case d=>k_is))
  (case q_MOST_NAMES=>k_is)
  (case r_MOST_NAMES=>exact ⟨_,rfl⟩)
  (case z_all=>k_is)
  (case z_bool=>k_is)
  (case z_dict=>k_is)
  (case z_enumerate=>k_is)
  (case z_int=>k_is)
  (case z_isinstance=>k_is)
  (case z_len=>k_is)
  (case z_list=>k_is)
  (case z_range=>k_is)
  (case z_set=>k_is)
  (case z_sorted=>k_is)
  (case z_tuple=>k_is)
  (case z_zip=>k_is)
