import PyProof.Rows.All
import Wide.All
import OpenK.AllK
import Wide.FinOn
import Lean
import PySem.Challenge.RW_freshrooms_k42_whole_alike_or_apart
open PySem.W(Frag kitOne nsIn findIn)
set_option Elab.async false
set_option linter.all false
set_option bootstrap.genMatcherCode false
set_option compiler.extract_closed false
set_option maxRecDepth 100000
set_option tactic.hygienic false
local macro_rules|`(#[$a,*])=>`(⟨$a,*⟩)
local macro_rules|`(⋯)=>`(by first|decide|lia)
local macro_rules|`(tactic|ac_rfl)=>`(tactic|with_unfolding_all rfl)
local macro_rules|`(tactic|exists$e)=>`(tactic|with_unfolding_all exact$e)
abbrev VP9:=PySem.Value->PySem.Shared->Prop
abbrev LA9:=List (PySem.Addr×PySem.Obj)
abbrev Kq9(k:List Int):=∀p∈k,0<=p/\p<=3
theorem aA{α}{a:α}{s t:List α}:a∈s++t->a∈s∨a∈t:=List.mem_append.mp
theorem aB{α}{a b:α}:a=b->a∈[b]:=List.mem_singleton.mpr
theorem aC{α}{a b:α}:a∈[b]->a=b:=List.mem_singleton.mp
theorem aD{α}{a b:α}{l:List α}:a∈b::l->a=b∨a∈l:=List.mem_cons.mp
theorem aE{α β}{f:α->β}{l:List α}{b:β}:b∈l.map f->∃a,a∈l∧f a=b:=List.mem_map.mp
def Ŕq(_:True:=by rfl):True:=trivial
def Ŕq.z:True:=trivial
open Ŕq renaming _auto_1→Ŕ
def ŕq(_:True:=by decide):True:=trivial
def ŕq.z:True:=trivial
open ŕq renaming _auto_1→ŕ
def Ŗq(_:True:=by intro _;rfl):True:=trivial
def Ŗq.z:True:=trivial
open Ŗq renaming _auto_1→Ŗ
def ŗq(_:True:=by decide +kernel):True:=trivial
def ŗq.z:True:=trivial
open ŗq renaming _auto_1→ŗ
def Řq(_:True:=by first|exact .inl rfl|exact .inr rfl|assumption):True:=trivial
def Řq.z:True:=trivial
open Řq renaming _auto_1→Ř
def řq(_:True:=by first|exact Or.inl rfl|exact Or.inr (Or.inl rfl)|exact Or.inr (Or.inr rfl)):True:=trivial
def řq.z:True:=trivial
open řq renaming _auto_1→ř
def Śq(_:True:=by first|exact Or.inl rfl|exact Or.inr rfl):True:=trivial
def Śq.z:True:=trivial
open Śq renaming _auto_1→Ś
def śq(_:True:=by first|exact .inl rfl|exact .inr rfl):True:=trivial
def śq.z:True:=trivial
open śq renaming _auto_1→ś
theorem oq9{α : Type _}{a b : α}(h:some a=some b):a=b:=Option.some.inj h
theorem lr9{α : Type _}{a : α}{b : List α}(c : List α)(h:a ∈ b):a ∈ c ++ b:=List.mem_append_right c h
theorem ll9{α : Type _}{a : α}{b : List α}(c : List α)(h:a ∈ b):a ∈ b ++ c:=List.mem_append_left c h
theorem lc9{α : Type _}{a : α}{l : List α}(b : α)(h:a ∈ l):a ∈ b::l:=List.mem_cons_of_mem b h
section
open PySem PySem.Spec PyProof.Rows
theorem X0:type_of% @wpAny_bind:=@wpAny_bind
theorem X1:type_of% @List.getElem?_eq_getElem:=@List.getElem?_eq_getElem
theorem X2:type_of% @Heap.get?_push_of_some:=@Heap.get?_push_of_some
theorem X3:type_of% @List.length_map:=@List.length_map
theorem X4:type_of% @List.getD_eq_getElem?_getD:=@List.getD_eq_getElem?_getD
theorem X5:type_of% @List.mem_cons_self:=@List.mem_cons_self
theorem X6:type_of% @wpAny_pure:=@wpAny_pure
theorem X7:type_of% @List.map_append:=@List.map_append
theorem X8:type_of% @List.size_toArray:=@List.size_toArray
theorem X9:type_of% @Heap.get?_push_size:=@Heap.get?_push_size
theorem Xa:type_of% @Nat.le_refl:=@Nat.le_refl
theorem Xb:type_of% @decide_eq_true:=@decide_eq_true
theorem Xd:type_of% @if_pos:=@if_pos
theorem Xe:type_of% @Heap.lt_size:=@Heap.lt_size
theorem Xf:type_of% @List.length_append:=@List.length_append
theorem Xg:type_of% @List.getElem?_map:=@List.getElem?_map
theorem Xh:type_of% @List.nodup_append:=@List.nodup_append
theorem Xi:type_of% @if_neg:=@if_neg
theorem Xj:type_of% @List.map_map:=@List.map_map
theorem Xk:type_of% @Nat.ne_of_lt:=@Nat.ne_of_lt
theorem Xl:type_of% @decide_eq_false:=@decide_eq_false
theorem Xm:type_of% @List.length_cons:=@List.length_cons
theorem Xn:type_of% @List.getElem_mem:=@List.getElem_mem
theorem Xp:type_of% @Nat.lt_of_lt_of_le:=@Nat.lt_of_lt_of_le
def Xq:type_of% @List.append_assoc:=@List.append_assoc
theorem Xr:type_of% @List.nodup_nil:=@List.nodup_nil
theorem Xs:type_of% @List.append_nil:=@List.append_nil
theorem Xu:type_of% @beq_false_of_ne:=@beq_false_of_ne
theorem Xv:type_of% @PySem.W.mg_none_of:=@PySem.W.mg_none_of
theorem Xw:type_of% @List.getElem?_append_left:=@List.getElem?_append_left
theorem Xx:type_of% @Int.emod_lt_of_pos:=@Int.emod_lt_of_pos
theorem Xy:type_of% @List.mem_map_of_mem:=@List.mem_map_of_mem
theorem Xz:type_of% @Heap.get?_update_self:=@Heap.get?_update_self
theorem Y0:type_of% @List.getElem?_eq_none:=@List.getElem?_eq_none
theorem Y1:type_of% @PyProof.Rows.callWith_type1:=@PyProof.Rows.callWith_type1
theorem Y2:type_of% @Int.toNat_natCast:=@Int.toNat_natCast
theorem Y3:type_of% @wpAny_call_entry:=@wpAny_call_entry
theorem Y4:type_of% @List.length_singleton:=@List.length_singleton
theorem Y5:type_of% @Array.length_toList:=@Array.length_toList
theorem Y6:type_of% @Nat.zero_le:=@Nat.zero_le
theorem Y7:type_of% @List.not_mem_nil:=@List.not_mem_nil
theorem Y8:type_of% @List.length_range:=@List.length_range
theorem Y9:type_of% @Int.emod_nonneg:=@Int.emod_nonneg
theorem Ya:type_of% @wpAny_holding:=@wpAny_holding
theorem Yb:type_of% @List.map_congr_left:=@List.map_congr_left
theorem Yc:type_of% @Heap.SameBut.update:=@Heap.SameBut.update
theorem Yd:type_of% @wpAny_newObj_type:=@wpAny_newObj_type
theorem Ye:type_of% @Nat.le_trans:=@Nat.le_trans
theorem Yf:type_of% @PySem.W.kia_one:=@PySem.W.kia_one
theorem Yg:type_of% @wpAny_callSpecial?_slot:=@wpAny_callSpecial?_slot
theorem Yh:type_of% @List.filter_cons_of_pos:=@List.filter_cons_of_pos
theorem Yi:type_of% @Heap.get?_none_of_le:=@Heap.get?_none_of_le
theorem Yj:type_of% @List.filter_append:=@List.filter_append
theorem Yk:type_of% @List.filter_cons_of_neg:=@List.filter_cons_of_neg
theorem Yl:type_of% @List.getElem?_append_right:=@List.getElem?_append_right
theorem Ym:type_of% @Nat.lt_irrefl:=@Nat.lt_irrefl
theorem Yn:type_of% @List.getElem_of_mem:=@List.getElem_of_mem
theorem Yo:type_of% @of_decide_eq_true:=@of_decide_eq_true
theorem Yp:type_of% @Array.getElem?_toList:=@Array.getElem?_toList
def Yq:type_of% @List.mem_cons:=@List.mem_cons
theorem Yr:type_of% @wpAny_setField:=@wpAny_setField
theorem Ys:type_of% @List.length_take:=@List.length_take
theorem Yt:type_of% @Option.isSome_map:=@Option.isSome_map
theorem Yu:type_of% @List.findIdx_lt_length_of_exists:=@List.findIdx_lt_length_of_exists
theorem Yv:type_of% @PySem.mem_of_lookup:=@PySem.mem_of_lookup
theorem Yw:type_of% @wpAny_field:=@wpAny_field
theorem Yx:type_of% @List.foldl_cons:=@List.foldl_cons
theorem Yy:type_of% @wpAny_specialOf:=@wpAny_specialOf
theorem Yz:type_of% @Array.getElem?_eq_getElem:=@Array.getElem?_eq_getElem
theorem Z0:type_of% @wpAny_Call_Name_kw:=@wpAny_Call_Name_kw
theorem Z1:type_of% @List.getElem?_set_ne:=@List.getElem?_set_ne
theorem Z2:type_of% @Nat.lt_succ_of_lt:=@Nat.lt_succ_of_lt
theorem Z3:type_of% @List.nodup_cons:=@List.nodup_cons
theorem Z4:type_of% @codeAny_builtin:=@codeAny_builtin
theorem Z5:type_of% @Heap.get?_update_ne:=@Heap.get?_update_ne
theorem Z6:type_of% @Heap.get?_update_other:=@Heap.get?_update_other
theorem Z7:type_of% @List.all_eq_true:=@List.all_eq_true
theorem Z8:type_of% @Heap.size_push:=@Heap.size_push
theorem Z9:type_of% @Obj.data_mapFields:=@Obj.data_mapFields
theorem Za:type_of% @List.map_inj_right:=@List.map_inj_right
theorem Zb:type_of% @List.length_replicate:=@List.length_replicate
theorem Zc:type_of% @Obj.isFreed_of_fields:=@Obj.isFreed_of_fields
theorem Zd:type_of% @wpAny_passesOwn:=@wpAny_passesOwn
theorem Ze:type_of% @wpAny_truthy_bool:=@wpAny_truthy_bool
theorem Zf:type_of% @wpAny_pyIter_list:=@wpAny_pyIter_list
theorem Zg:type_of% @wpAny_setState_of:=@wpAny_setState_of
theorem Zh:type_of% @True.intro:=@True.intro
theorem Zi:type_of% @List.any_cons:=@List.any_cons
theorem Zj:type_of% @PySem.W.mg_of:=@PySem.W.mg_of
theorem Zk:type_of% @wpAny_seqItems:=@wpAny_seqItems
theorem Zl:type_of% @Nat.ne_of_gt:=@Nat.ne_of_gt
theorem Zm:type_of% @wpAny_rule:=@wpAny_rule
end
noncomputable section
namespace L2
open PySem PySem.Spec PyProof.Rows
abbrev Key:=Sum Int Str
def ZV:Key->Value->Bool
 |.inl k,v=>Value.isInt k v|.inr x,v=>Value.isStrOf x v
def keyH(w:World):Key->Int
 |.inl k=>hashInt k|.inr x=>hashStr w x
theorem Q4:∀{k v},ZV k v=true->(∃i t,k=Sum.inl i/\v=Value.int i t)\/(∃x t,k=Sum.inr x/\v=Value.str x t)
 |.inl i,v,h=>by
  obtain⟨t,e⟩:=Value.isInt_shape h;exact .inl #[i,t,rfl,e]
 |.inr x,v,h=>by
  obtain⟨t,e⟩:=Value.isStrOf_shape h;exact .inr #[x,t,rfl,e]
theorem vjs i t:ZV (.inl i) (.int i t)=true:=by simp[ZV,Value.isInt]
theorem vjr x t:ZV (.inr x) (.str x t)=true:=by simp[ZV,Value.isStrOf]
theorem xj3(a b):decide ((Sum.inl a:Key)=Sum.inl b)=(a==b):=by
 by_cases e:a=b
 ·subst e;simp
 ·grind
theorem wzz(a b):decide ((Sum.inr a:Key)=Sum.inr b)=decide (a=b):=by
 by_cases e:a=b
 ·subst e;simp
 ·grind
theorem xj2 a b:decide ((Sum.inl a:Key)=Sum.inr b)=false:=Xl (λq=>nomatch q)
theorem xj0 a b:decide ((Sum.inr a:Key)=Sum.inl b)=false:=Xl (λq=>nomatch q)
noncomputable def xj(prog:Program)(w:World):PySem.KeyKind prog w Key where
 is:=ZV
 hash:=keyH w
 inj:=λv a b ha hb=>by
  rcases Q4 ha with⟨i,t,rfl,rfl⟩|⟨x,t,rfl,rfl⟩
  ·rcases Q4 hb with⟨j,u,rfl,e⟩|⟨y,u,rfl,e⟩
   ·injection e with e1 _;rw[e1]
   ·exact nomatch e
  ·rcases Q4 hb with⟨j,u,rfl,e⟩|⟨y,u,rfl,e⟩
   ·exact nomatch e
   ·injection e with e1 _;rw[e1]
 byValue:=λk v h=>by
  rcases Q4 h with⟨i,t,rfl,rfl⟩|⟨x,t,rfl,rfl⟩<;>rfl
 pyHash:=λhv h=>by
  rcases Q4 hv with⟨i,t,rfl,rfl⟩|⟨x,t,rfl,rfl⟩
  ·exact wpAny_pyHash_int h
  ·exact wpAny_pyHash_str h
 eqBool:=λhu hv h=>by
  rcases Q4 hu with⟨i,t,rfl,rfl⟩|⟨x,t,rfl,rfl⟩
  ·rcases Q4 hv with⟨j,u,rfl,rfl⟩|⟨y,u,rfl,rfl⟩
   ·rw[xj3]at h;exact wpAny_eqBool_int h
   ·rw[xj2]at h;exact SeqAt.EqAt.int_str i t y u _ _ _ _ h
  ·rcases Q4 hv with⟨j,u,rfl,rfl⟩|⟨y,u,rfl,rfl⟩
   ·rw[xj0]at h;exact SeqAt.EqAt.str_int x t j u _ _ _ _ h
   ·rw[wzz]at h;exact wpAny_eqBool_str h
 «strs»:=λk x t v h=>by
  rcases Q4 h with⟨i,u,rfl,e⟩|⟨y,u,rfl,e⟩
  ·exact nomatch e
  ·injection e with e1 _;subst e1;cases v<;>rfl
theorem qjq prog w i t:(xj prog w).is (.inl i) (.int i t)=true:=vjs i t
theorem qjp prog w x t:(xj prog w).is (.inr x) (.str x t)=true:=vjr x t
inductive V where
 |non|bl (b:Bool)|int (i:Int)|str (x:Str)|byt (b:Array UInt8)|flt (b:UInt64)|ref (a:Addr)|ty (n:String)
 deriving DecidableEq
def RelV:V->Value->Prop
 |.non,u=>u=Value.none|.bl b,u=>u=Value.bool b|.int i,u=>∃t,u=Value.int i t|.str x,u=>∃t,u=Value.str x t|.byt b,u=>∃t,u=Value.bytes b t|.flt b,u=>∃t,u=Value.float b t|.ref a,u=>u=Value.ref a|.ty n,u=>u=Value.type n
abbrev Vals:List V->List Value->Prop:=Paired RelV
theorem Vals.length{xs us}(r:Vals xs us):xs.length=us.length:=Paired.length r
theorem Vals.get:∀{xs us} {i:Nat} {x},Vals xs us->xs[i]?=some x->∃u,us[i]?=some u/\RelV x u
 |_,_,_,_,.nil,e=>by simp at e|_,_,0,_,.cons r _,e=>by simp at e;subst e;exact#[_,rfl,r]
 |_,_,i+1,x,.cons _ t,e=>by
  obtain⟨u,h1,h2⟩:=Vals.get t (by simpa using e);exact#[u,by simpa using h1,h2]
theorem Vals.set{x u}(r:RelV x u):∀{xs us} (i),Vals xs us->Vals (xs.set i x) (us.set i u)
 |_,_,_,.nil=>.nil|_,_,0,.cons _ t=>.cons r t|_,_,i+1,.cons q t=>.cons q (Vals.set r i t)
theorem Vals.append:∀{xs ys us ws},Vals xs us->Vals ys ws->Vals (xs++ys) (us++ws)
 |_,_,_,_,.nil,s=>s|_,_,_,_,.cons r t,s=>.cons r (Vals.append t s)
theorem Vals.take:∀{xs us} (n),Vals xs us->Vals (xs.take n) (us.take n)
 |_,_,0,_=>.nil|_,_,_+1,.nil=>.nil|_,_,n+1,.cons r t=>.cons r (Vals.take n t)
theorem Vals.drop:∀{xs us} (n),Vals xs us->Vals (xs.drop n) (us.drop n)
 |_,_,0,r=>r|_,_,_+1,.nil=>.nil|_,_,n+1,.cons _ t=>Vals.drop n t
def RelO:Option V->Option Value->Prop
 |some v,some u=>RelV v u|none,none=>True|_,_=>False
def KV{κ:Type}:List (κ×V)->List (κ×Value)->Prop:=Paired λ(p:κ×V) (q:κ×Value)=>p.1=q.1/\RelV p.2 q.2
def kV:Key->V
 |.inl i=>.int i|.inr x=>.str x
inductive HO where
 |lst (xs:List V)
 |tup (xs:List V)
 |dK (kvs:List (Key×V))|dT (kvs:List (List Key×V))
 |set (S:Int->Bool) (n:Nat)
 |ins (C dx:Addr) (fs:List (Str×V))
 |own (x:Addr)
 |xd (fs:List (Str×V))
 |met (f x:Addr)
 |rng (lo hi:Int)
 |frz (o:Obj) (u:HO)
 |tbl (ps:Array Value)
 |ext (φ:World->Heap->Prop)
abbrev Hp:=Addr->Option HO
def IsTupD(h:Heap)(a:Addr)(items:Array Value):Prop:=∃o,h.get? a=some o/\o.cls=.type "tuple"/\o.dict=none/\∃n,o.data=.seq items n
theorem IsTupD.tup{h a items}(p:IsTupD h a items):IsTup h a items:=by
 obtain⟨o,e,c,_,n,d⟩:=p;exact⟨o,e,c,n,d⟩
theorem IsTupD.new(h:Heap) xs:IsTupD (h.push {cls:=.type "tuple",data:=.seq xs}) h.objs.size xs:=⟨_,X9 _ rfl,rfl,rfl,0,rfl⟩
def upd(H:Hp)(a:Addr)(o:HO):Hp:=λb=>if b=a then some o else H b
theorem wW{H a o}:upd H a o a=some o:=by unfold upd;rw[Xd rfl]
theorem qQ{H a b o}(h:b≠a):upd H a o b=H b:=by unfold upd;rw[Xi h]
theorem xvn{H:Hp}{a b o u}(h:H a=some o)(h':H b=some u)(d:o≠u):a≠b:=by
 intro e;subst e;rw[h]at h';exact d (oq9 h')
theorem Jx{H:Hp}{a b o}(h:H a=some o)(h':H b=none):a≠b:=by
 grind
section
variable (P:Program)(w:World)
noncomputable def ObjOk(H : Hp)(h : Heap)(a : Addr): HO -> Prop
  |.lst xs=>xs.length<=sizeLine /\ ∃(ac : List Value) (n : Nat),Vals xs ac /\ h.get? a = some {cls:= .type "list",data:= .seq ac.toArray n}|.tup xs=>xs.length<=sizeLine /\ ∃ac : List Value,Vals xs ac /\ IsTupD h a ac.toArray|.dK kvs=>kvs.length<=sizeLine /\ (a==sysModules) = false /\ ∃vs,KV kvs vs /\ h.DictOf (xj P w) a vs
  |.dT kvs=>kvs.length<=sizeLine /\ (a==sysModules) = false /\ ∃xs : List (List Key × Addr × Value),
      Paired (λ(p : List Key × V) (q : List Key × Addr × Value)=>p.1 = q.1 /\ H q.2.1 = some (.tup (p.1.map kV)) /\ RelV p.2 q.2.2) kvs xs /\
      ∃o es ep,h.get? a = some o /\ o.ExactDict /\ o.data = .dict es ep /\ es.toList = xs.map (entryOfKey (tupleKind (xj P w))) /\ (xs.map (·.1)).Nodup
  |.set S n=>h.SetOf (intKind P w) a S n
  |.ins C dx fs=>H dx = some (.own a) /\ fs.length<=1000 /\ dx≠a /\ h.get? a = some (PySem.W.instObj C dx) /\
      ∃mA,h.Ns1 dx mA /\ (∀f,RelO (fs.lookup f) (mA f)) /\ PySem.Within mA (fs.map (·.1))
  |.own _=> ∃o,h.get? a = some o|.xd fs=> ∃mA,h.Ns1 a mA /\ ∀f,RelO (fs.lookup f) (mA f)|.rng lo hi=> ∃t u v,h.get? a = some {cls:= .type "range",data:= .fields (List.toArray [.int lo t,.int hi u,.int 1 v])}|.frz o u=>h.get? a = some o /\ ObjOk H h a u|.tbl ps=>h.get? a = some {cls:= .none,data:= .fields ps}|.met f x=>h.get? a = some (PySem.W.methodObj (.ref f) (.ref x))|.ext φ=>φ w h /\ (∃o,h.get? a = some o) /\ ∀h1 h2 : Heap,φ w h1 -> (∀o,h1.get? a = some o -> h2.get? a = some o) -> φ w h2
def HOk(H:Hp)(h:Heap):Prop:=∀a o,H a=some o->ObjOk P w H h a o
end
section
variable {P:Program}{w:World}{H H':Hp}{h h':Heap}{a:Addr}{o:HO}
theorem ObjOk.lt(x:ObjOk P w H h a o):a<h.objs.size:=by
 cases o with|lst xs=>obtain⟨_,_,_,_,e⟩:=x;exact Xe e|tup xs=>obtain⟨_,_,_,p⟩:=x;exact p.tup.lt|dK kvs=>obtain⟨_,_,_,_,o,_,_,e,_⟩:=x;exact Xe e|dT kvs=>obtain⟨_,_,_,_,o,_,_,e,_⟩:=x;exact Xe e|set S n=>obtain⟨o,_,_,_,e,_⟩:=x;exact Xe e|ins C dx fs=>obtain⟨_,_,_,e,_⟩:=x;exact Xe e|own y=>obtain⟨_,e⟩:=x;exact Xe e|xd fs=>obtain⟨_,⟨_,_,_,e,_⟩,_⟩:=x;exact Xe e|rng lo hi=>obtain⟨_,_,_,e⟩:=x;exact Xe e|frz ob u=>obtain⟨e,_⟩:=x;exact Xe e|tbl ps=>exact Xe (x)|met f y=>exact Xe (x)|ext φ=>obtain⟨_,⟨_,e⟩,_⟩:=x;exact Xe e
theorem Paired.mapP{α β F G}:∀{l₁:List α} {l₂:List β},Paired F l₁ l₂->(∀a b,F a b->G a b)->Paired G l₁ l₂
 |_,_,.nil,_=>.nil|_,_,.cons r t,f=>.cons (f _ _ r) (Paired.mapP t f)
theorem ObjOk.stay(x:ObjOk P w H h a o)(k:∀b u,(b=a\/H b=some (.own a))->h.get? b=some u->h'.get? b=some u)
  (ho:∀b,H b=some (.own a)->H' b=some (.own a)) (ht:∀b xs,H b=some (.tup xs)->H' b=some (.tup xs)):ObjOk P w H' h' a o:=by
 induction o with
 |lst xs=>obtain⟨z,ac,n,r,e⟩:=x;exact#[z,ac,n,r,k _ _ (.inl rfl) e]|tup xs=>obtain⟨z,ac,r,ob,e,c⟩:=x;exact#[z,ac,r,ob,k _ _ (.inl rfl) e,c]|dK kvs=>obtain⟨z,y,vs,r,ob,es,ep,e,c⟩:=x;exact#[z,y,vs,r,ob,es,ep,k _ _ (.inl rfl) e,c]
 |dT kvs=>
  obtain⟨z,y,xs,r,ob,es,ep,e,c⟩:=x;exact#[z,y,xs,Paired.mapP r λp q z=>#[z.1,ht _ _ z.2.1,z.2.2],ob,es,ep,k _ _ (.inl rfl) e,c]
 |set S n=>obtain⟨ob,es,ep,t,e,c⟩:=x;exact#[ob,es,ep,t,k _ _ (.inl rfl) e,c]
 |ins C dx fs=>
  obtain⟨d,z,ne,e,mA,⟨od,es,ep,e2,c⟩,r⟩:=x;exact#[ho _ d,z,ne,k _ _ (.inl rfl) e,mA,#[od,es,ep,k _ _ (.inr d) e2,c],r]
 |own y=>obtain⟨ob,e⟩:=x;exact#[ob,k _ _ (.inl rfl) e]|xd fs=>obtain⟨mA,⟨od,es,ep,e,c⟩,r⟩:=x;exact#[mA,#[od,es,ep,k _ _ (.inl rfl) e,c],r]|rng lo hi=>obtain⟨t,u,v,e⟩:=x;exact#[t,u,v,k _ _ (.inl rfl) e]|frz ob u ih=>obtain⟨e,q⟩:=x;exact#[k _ _ (.inl rfl) e,ih q]
 |tbl ps=>
  have e:h.get? a=some {cls:=.none,data:=.fields ps}:=x;exact k a _ (.inl rfl) e
 |met f y=>
  have e:=x;exact k a _ (.inl rfl) e
 |ext φ=>obtain⟨p,⟨o,e⟩,st⟩:=x;exact#[st _ _ p λo q=>k _ _ (.inl rfl) q,#[o,k _ _ (.inl rfl) e],st]
theorem HOk.lt(x:HOk P w H h)(e:H a=some o):a<h.objs.size:=(x a o e).lt
theorem HOk.fresh(x:HOk P w H h)(e:h.objs.size<=a):H a=none:=by
 cases q:H a with|none=>rfl|some u=>exact absurd (Xp (x.lt q) e) (Ym _)
theorem HOk.kept(x:HOk P w H h)(k:∀b u,h.get? b=some u->h'.get? b=some u):HOk P w H h':=λa o e=>
 (x a o e).stay (λb u _ q=>k b u q) (λ_ q=>q) λ_ _ q=>q
theorem HOk.laid(x:HOk P w H h)(k:∀b u,h.get? b=some u->h'.get? b=some u)(hp:h.objs.size<=a)(new:ObjOk P w (upd H a o) h' a o):HOk P w (upd H a o) h':=λb u e=>by
 have hn:=x.fresh hp
 by_cases hb:b=a
 ·subst hb;rw[wW]at e;cases e;exact new
 ·rw[qQ hb]at e;exact(x b u e).stay (λc v _ q=>k c v q) (λc q=>by rw[qQ (Jx q hn)];exact q) λc xs q=>by rw[qQ (Jx q hn)];exact q
end
def Rd(H:Hp)(a:Addr)(u:HO):Prop:=H a=some u\/∃o,H a=some (.frz o u)
theorem Rd.ok{P w H h a u}(r:Rd H a u)(x:HOk P w H h):ObjOk P w H h a u:=by
 rcases r with r|⟨o,r⟩
 ·exact x a u r
 ·obtain⟨_,q⟩:=x a _ r;exact q
def Mut:Option HO->Prop
 |some (.lst _)=>True|some (.dK _)=>True|some (.dT _)=>True|some (.set _ _)=>True|some (.ins _ _ _)=>True|some (.ext _)=>True|_=>False
section
variable {P:Program}{w:World}{H:Hp}{h h':Heap}{x e:Addr}{o':HO}
theorem HOk.write(ok:HOk P w H h)(mu:Mut (H x))(he:e=x\/H e=some (.own x))(k:∀b u,b≠e->h.get? b=some u->h'.get? b=some u)(ul:∃u,h'.get? e=some u)
  (new:ObjOk P w (upd H x o') h' x o'):HOk P w (upd H x o') h':=λb u q=>by
 have nown:∀c y,H c=some (.own y)->c≠x:=λc y r z=>by subst z;rw[r]at mu;exact mu
 have ntup:∀c xs,H c=some (.tup xs)->c≠x:=λc xs r z=>by subst z;rw[r]at mu;exact mu
 by_cases hb:b=x
 ·subst hb;rw[wW]at q;cases q;exact new
 ·rw[qQ hb]at q
  by_cases hbe:b=e
  ·have q':H b=some (.own x):=by
    rcases he with z|z
    ·exact absurd (hbe.trans z) hb
    ·rw[hbe];exact z
   rw[q]at q';cases q';obtain⟨v,hv⟩:=ul;exact#[v,by rw[hbe];exact hv]
  ·refine(ok b u q).stay (λc v hc r=>k c v ?_ r) (λc r=>by rw[qQ (nown c b r)];exact r) λc xs r=>by rw[qQ (ntup c xs r)];exact r
   rcases hc with rfl|hc
   ·exact hbe
   ·grind
end
structure Un (fs ex:List Addr)(H H':Hp)(h h':Heap):Prop where
 keep:∀b o,h.get? b=some o->H b=none->b∉fs->b∉ex->h'.get? b=some o
 slot:∀b o,h.get? b=some o->H b=none->b∈fs->b∉ex->∃sl,h'.get? b=some {o with slots:=sl}
 free:∀b o,h.get? b=some o->H b=none->b∉ex->H' b=none
 there:∀b o,h.get? b=some o->b∉ex->∃o',h'.get? b=some o'
 tups:∀b xs,H b=some (.tup xs)->H' b=some (.tup xs)
 frzs:∀b o u,H b=some (.frz o u)->H' b=some (.frz o u)
 tbls:∀b ps,H b=some (.tbl ps)->∃more,H' b=some (.tbl (ps++more))
section
variable {fs fs' ex ex':List Addr}{H H1 H2:Hp}{h h1 h2 h':Heap}{a x e:Addr}{o:HO}
theorem Un.any(u:Un fs ex H H1 h h1){b ob}(q:h.get? b=some ob)(n:H b=none)(hx:b∉ex):∃sl,h1.get? b=some {ob with slots:=sl}:=by
 by_cases hb:b∈fs
 ·exact u.slot b ob q n hb hx
 ·exact#[ob.slots,u.keep b ob q n hb hx]
theorem Un.kept(k:∀b u,h.get? b=some u->h'.get? b=some u):Un fs ex H H h h':=
 #[λb ob q _ _ _=>k b ob q,λb ob q _ _ _=>#[ob.slots,k b ob q],λ_ _ _ n _=>n,λb ob q _=>#[ob,k b ob q],λ_ _ q=>q,λ_ _ _ q=>q,λ_ ps q=>#[(List.toArray []),by rw[q];simp]]
theorem Un.refl:Un fs ex H H h h:=Un.kept λ_ _ q=>q
theorem Un.laid(k:∀b u,h.get? b=some u->h'.get? b=some u)(hp:h.objs.size<=a)(hn:H a=none):Un fs ex H (upd H a o) h h' where
 keep:=λb u q _ _ _=>k b u q
 slot:=λb u q _ _ _=>#[u.slots,k b u q]
 free:=λb u q n _=>by rw[qQ (Xk (Xp (Xe q) hp))];exact n
 there:=λb u q _=>#[u,k b u q]
 tups:=λb xs q=>by rw[qQ (Jx q hn)];exact q
 frzs:=λb u xs q=>by rw[qQ (Jx q hn)];exact q
 tbls:=λb ps q=>#[(List.toArray []),by rw[qQ (Jx q hn),q];simp]
theorem Un.write(mu:Mut (H x))(he:e=x\/H e=some (.own x))(k:∀b u,b≠e->h.get? b=some u->h'.get? b=some u)(ul:∃u,h'.get? e=some u):Un fs ex H (upd H x o) h h':=by
 have hx:∀b,H b=none->b≠x:=λb n z=>by subst z;rw[n]at mu;exact mu
 have hb:∀b,H b=none->b≠e:=λb n z=>by
  subst z;rcases he with r|r
  ·exact hx b n r
  ·grind
 have hm:∀b u,H b=some u->¬Mut (some u)->b≠x:=λb u q nm z=>by subst z;rw[q]at mu;exact nm mu
 refine#[λb u q n _ _=>k b u (hb b n) q,λb u q n _ _=>#[u.slots,k b u (hb b n) q],λb u q n _=>by rw[qQ (hx b n)];exact n,λb u q _=>?_,
  λb xs q=>by rw[qQ (hm b _ q λz=>z)];exact q,λb u xs q=>by rw[qQ (hm b _ q λz=>z)];exact q,λb ps q=>#[(List.toArray []),by rw[qQ (hm b _ q λz=>z),q];simp]]
 by_cases hbe:b=e
 ·grind
 ·exact#[u,k b u hbe q]
end
def trk(h:Heap)(H:Hp):List Addr:=(List.range h.objs.size).filter λa=>(H a).isSome
def W8(h:Heap)(H:Hp):Heap:=PySem.W.hideAll h (trk h H)
theorem vk3 h H:(W8 h H).objs.size=h.objs.size:=PySem.W.hideAll_size _ _
theorem vwr{h H b o}(e:h.get? b=some o)(n:H b=none):(W8 h H).get? b=some o:=
 PySem.W.hideAll_get _ e λhm=>by
  have q:=(List.mem_filter.mp hm).2;rw[n]at q;simp at q
theorem wky{h H b o}(e:(W8 h H).get? b=some o):h.get? b=some o/\H b=none:=by
 have e':=PySem.W.of_hideAll _ e;refine#[e',?_];cases q:H b with
 |none=>rfl
 |some x=>
  have hm:b∈trk h H:=List.mem_filter.mpr #[List.mem_range.mpr (Xe e'),by simp[q]];have z:(W8 h H).get? b=none:=PySem.W.hideAll_none _ hm
  grind
structure Mod (K:Frag)(mg:Str->Option Value)(base:Heap):Prop where
 kin:K.In base
 glob:base.Ns mainGlobals mg
 blt:∃mb,base.Ns builtinsNs mb/\∀x:Str,x≠"__name__"->mb x=bootBuiltins x
 nolimit:base.NoLimit
structure Cx where
 prog:Program
 w:World
 K:Frag
 mg:Str->Option Value
 base:Heap
 A:Around
 N:List Str
 s₀:Shared
 H₀:Hp
 env:Env
 outer:List Env
 stack:List Env
 ex:List Addr
 fn:Str->Bool
 calm:Bool
 pn:LA9
 xe:VP9
def frs(l:List Env):List Addr:=l.filterMap (·.frame)
abbrev Cx.fs(X:Cx):List Addr:=frs X.outer
def Vis(sc:Scope)(x:Str):Prop:=sc.names.lookup x=some .local\/sc.names.lookup x=some .cell\/sc.names.lookup x=some .free
def Loc(sc:Scope)(x:Str):Prop:=sc.names.lookup x=some .local\/sc.names.lookup x=some .cell
def Look(env:Env)(h:Heap)(m:Str->Option Value)(x:Str)(u:Value):Prop:=
 (env.kindOf x=some .local/\m x=some u)\/((env.kindOf x=some .cell\/env.kindOf x=some .free)/\∃c,env.cells.lookup x=some c/\h.IsCell c (some u))
structure Cx.Ok (X:Cx):Prop where
 mod:Mod X.K X.mg X.base
 kind:X.env.scope.kind=.function
 glob:X.env.globals=mainGlobals
 blt:X.env.builtins=builtinsNs
 above:X.s₀.heap.objs.size<=X.env.locals
 inj:∀x y c,X.env.cells.lookup x=some c->X.env.cells.lookup y=some c->x=y
 has:∀x,(X.env.kindOf x=some .cell\/X.env.kindOf x=some .free)->∃c,X.env.cells.lookup x=some c
 cab:∀x c,X.fn x=true->X.env.cells.lookup x=some c->X.s₀.heap.objs.size<=c
 hd:X.calm=true->X.A.handled=none
 frames:X.A.frames=some X.stack
 stk:X.stack=X.outer\/(X.stack=X.env::X.outer/\X.env.frame=some X.env.locals)
 exf:∀b∈X.ex,b≠X.env.locals/\∀x c,X.env.cells.lookup x=some c->c≠b
 bs:∀b o,X.base.get? b=some o->X.s₀.heap.get? b=some o/\X.H₀ b=none
 bsz:X.base.objs.size<=X.s₀.heap.objs.size
 noex:∀b o,X.base.get? b=some o->b∉X.ex
 exfs:∀b∈X.ex,b∉X.fs
 funs:X.s₀.heap.FunFrames X.base X.outer
 frf:∀b∈X.fs,X.H₀ b=none
structure Inv (X:Cx)(a8:LA9)(σ:List (Option V))(H:Hp)(s:Shared):Prop where
 ok:X.Ok
 os:s.os=X.s₀.os
 bare:AllBare s.gens
 base:Un X.fs X.ex X.H₀ H X.s₀.heap s.heap
 loc:∃m,s.heap.Ns X.env.locals m/\∀(i:Nat) (x:Str) (v:V),X.N[i]?=some x->σ[i]?=some (some v)->Vis X.env.scope x->∃u,RelV v u/\Look X.env s.heap m x u
 cell:∀x c,X.env.cells.lookup x=some c->∃v,s.heap.IsCell c v
 free:H X.env.locals=none
 freeC:∀x c,X.env.cells.lookup x=some c->H c=none
 pin:∀p∈X.pn++a8,s.heap.get? p.1=some p.2/\H p.1=none/\p.1≠X.env.locals/\p.1∉X.fs/\∀v,p.2.data≠.cell v
 hok:HOk X.prog X.w H s.heap
 len:σ.length=X.N.length
section
variable {X:Cx}{a8:LA9}{σ:List (Option V)}{H H':Hp}{s:Shared}{h':Heap}
theorem Cx.Ok.nofr(ok:X.Ok){b o}(e:X.base.get? b=some o):b∉X.fs:=λhb=>by
 have:=(ok.funs.mem hb).1
 grind
theorem Inv.bs(I:Inv X a8 σ H s):∀b o,X.base.get? b=some o->s.heap.get? b=some o/\H b=none:=λb o e=>
 #[I.base.keep b o (I.ok.bs b o e).1 (I.ok.bs b o e).2 (I.ok.nofr e) (I.ok.noex b o e),I.base.free b o (I.ok.bs b o e).1 (I.ok.bs b o e).2 (I.ok.noex b o e)]
theorem Inv.bk(I:Inv X a8 σ H s):∀b o,X.base.get? b=some o->s.heap.get? b=some o:=λb o e=>(I.bs b o e).1
theorem Inv.mod(I:Inv X a8 σ H s):Mod X.K X.mg X.base:=I.ok.mod
theorem Inv.kIn(I:Inv X a8 σ H s):X.K.In s.heap:=I.ok.mod.kin.keeps I.bk
theorem Inv.lt(I:Inv X a8 σ H s):X.env.locals<s.heap.objs.size:=let ⟨_,hn,_⟩:=I.loc;hn.lt
theorem Inv.sz(I:Inv X a8 σ H s):X.s₀.heap.objs.size<=s.heap.objs.size:=Ye I.ok.above (Nat.le_of_lt I.lt)
theorem Inv.nofs(I:Inv X a8 σ H s){a:Addr}(h:s.heap.objs.size<=a):a∉X.fs:=λhb=>by
 obtain⟨_,o,ho,_⟩:=I.ok.funs.mem hb;exact absurd (Xp (Xe ho) (Ye I.sz h)) (Ym _)
theorem Inv.cne(I:Inv X a8 σ H s):∀x c,X.env.cells.lookup x=some c->c≠X.env.locals:=λx c e z=>by
 obtain⟨v,o,ho,hd⟩:=I.cell x c e;obtain⟨m,⟨o',es,ep,ko,rh,_⟩,_⟩:=I.loc
 grind
theorem Inv.funs(I:Inv X a8 σ H s):s.heap.FunFrames X.base X.outer:=by
 have all:∀l,(∀b∈frs l,b∈X.fs)->X.s₀.heap.FunFrames X.base l->s.heap.FunFrames X.base l:=by
  intro l
  induction l with
  |nil=>intro _ _;trivial
  |cons env r ih=>
   rintro hs ⟨hk,⟨L,o,hf,hn,ho,hd⟩,hr⟩;have hL:=hs L (by unfold frs;rw[List.filterMap_cons,hf];exact X5);obtain⟨sl,e⟩:=I.base.slot L o ho (I.ok.frf L hL) hL λz=>I.ok.exfs L z hL
   exact#[hk,#[L,_,hf,hn,e,hd],ih (λb hb=>hs b (by unfold frs;rw[List.filterMap_cons,hf];exact lc9 _ hb)) hr]
 exact all X.outer (λ_ hb=>hb) I.ok.funs
theorem Inv.stack(I:Inv X a8 σ H s):s.heap.FunFrames X.base X.stack:=by
 rcases I.ok.stk with e|⟨e,hf⟩
 ·rw[e];exact I.funs
 ·rw[e];obtain⟨m,hn,_⟩:=I.loc;exact .cons (by rw[I.ok.kind];decide) hf hn (Yi (Ye I.ok.bsz I.ok.above)) I.funs
theorem Inv.stkSub(I:Inv X a8 σ H s):∀b∈frs X.stack,b∈X.env.locals::X.fs:=λb hb=>by
 rcases I.ok.stk with e|⟨e,hf⟩
 ·rw[e]at hb;exact lc9 _ hb
 ·rw[e]at hb;unfold frs at hb;rw[List.filterMap_cons,hf]at hb;exact hb
theorem Inv.stkFree(I:Inv X a8 σ H s):∀b∈frs X.stack,H b=none:=λb hb=>by
 rcases aD (I.stkSub b hb)with e|hb
 ·rw[e];exact I.free
 ·obtain⟨_,o,ho,_⟩:=I.ok.funs.mem hb;exact I.base.free b o ho (I.ok.frf b hb) λz=>I.ok.exfs b z hb
theorem Inv.step{g' t' d'}{ch:List Addr}(I:Inv X a8 σ H s)
  (mn:∀b∈ch,(b∈X.ex\/X.s₀.heap.get? b=none)/\b≠X.env.locals/\(∀x c,X.env.cells.lookup x=some c->c≠b)/\∀p∈X.pn++a8,p.1≠b)
  (keep:∀b o,b≠X.env.locals->b∉X.fs->b∉ch->s.heap.get? b=some o->H b=none->h'.get? b=some o)
  (slot:∀b o,b≠X.env.locals->b∈X.fs->b∉ch->s.heap.get? b=some o->H b=none->∃sl,h'.get? b=some {o with slots:=sl}) (free:∀b o,b∉ch->s.heap.get? b=some o->H b=none->H' b=none)
  (there:∀b o,b∉ch->s.heap.get? b=some o->∃o',h'.get? b=some o')
  (tups:∀b xs,H b=some (.tup xs)->H' b=some (.tup xs)) (frzs:∀b o u,H b=some (.frz o u)->H' b=some (.frz o u)) (tbls:∀b ps,H b=some (.tbl ps)->∃more,H' b=some (.tbl (ps++more)))
  (ns:∀m,s.heap.Ns X.env.locals m->h'.Ns X.env.locals m) (hok:HOk X.prog X.w H' h') (hg:AllBare g'):
  Inv X a8 σ H' {s with heap:=h',gens:=g',drawn:=d',toks:=t' }:=by
 have neL:∀b o,X.s₀.heap.get? b=some o->b≠X.env.locals:=λb o e=>Xk (Xp (Xe e) I.ok.above)
 have neC:∀b o,X.s₀.heap.get? b=some o->b∉X.ex->b∉ch:=λb o e hx hb=>by
  rcases(mn b hb).1 with z|z
  ·exact hx z
  ·rw[z]at e;cases e
 have oj:∀x c,X.env.cells.lookup x=some c->∀v,s.heap.IsCell c v->h'.IsCell c v:=λx c e v hz=>by
  obtain⟨o,ho,hd⟩:=hz;have vt:=λz=>(mn c z).2.2.1 x c e rfl
  by_cases hc:c∈X.fs
  ·obtain⟨sl,q⟩:=slot c o (I.cne x c e) hc vt ho (I.freeC x c e);exact#[_,q,hd]
  ·exact#[o,keep c o (I.cne x c e) hc vt ho (I.freeC x c e),hd]
 refine#[I.ok,I.os,hg,#[λb o e n hb hx=>?_,λb o e n hb hx=>?_,λb o e n hx=>?_,λb o e hx=>?_,λb xs e=>tups b xs (I.base.tups b xs e),λb o xs e=>frzs b o xs (I.base.frzs b o xs e),λb ps e=>?_],?_,λx c e=>?_,?_,λx c e=>?_,λp hp=>?_,hok,I.len]
 ·exact keep b o (neL b o e) hb (neC b o e hx) (I.base.keep b o e n hb hx) (I.base.free b o e n hx)
 ·obtain⟨sl,e1⟩:=I.base.slot b o e n hb hx;obtain⟨sl',e2⟩:=slot b _ (neL b o e) hb (neC b o e hx) e1 (I.base.free b o e n hx);exact#[sl',e2]
 ·obtain⟨o',e1⟩:=I.base.there b o e hx;exact free b o' (neC b o e hx) e1 (I.base.free b o e n hx)
 ·obtain⟨o',e1⟩:=I.base.there b o e hx;exact there b o' (neC b o e hx) e1
 ·obtain _:=I.base.tbls b ps e
  grind
 ·obtain⟨m,hn,hl⟩:=I.loc;refine#[m,ns m hn,λi x v e1 e2 e3=>?_];obtain⟨u,r,l⟩:=hl i x v e1 e2 e3;refine#[u,r,?_];rcases l with l|⟨k,c,e,z⟩
  ·exact .inl l
  ·exact .inr #[k,c,e,oj x c e _ z]
 ·obtain⟨v,z⟩:=I.cell x c e;exact#[v,oj x c e v z]
 ·obtain⟨m,⟨o,_,_,ho,_⟩,_⟩:=I.loc;exact free _ o (λz=>(mn _ z).2.1 rfl) ho I.free
 ·obtain⟨v,o,ho,hd⟩:=I.cell x c e;exact free c o (λz=>(mn c z).2.2.1 x c e rfl) ho (I.freeC x c e)
 ·obtain⟨e,n,ne,nf,d⟩:=I.pin p hp;have vt:=λz=>(mn p.1 z).2.2.2 p hp rfl
  exact#[keep p.1 p.2 ne nf vt e n,free p.1 p.2 vt e n,ne,nf,d]
theorem Inv.un{t'}(I:Inv X a8 σ H s)(u:Un X.fs [] H H' s.heap h')(hok:HOk X.prog X.w H' h'):Inv X a8 σ H' {s with heap:=h',toks:=t' }:=by
 obtain⟨m,⟨o,es,ep,ho,r⟩,_⟩:=id I.loc;obtain⟨sl,hL⟩:=u.any ho I.free (by simp);exact I.step (g':=s.gens) (d':=s.drawn) (ch:=[]) (λ_ z=>nomatch z) (λb o _ hb _ e n=>u.keep b o e n hb (by simp)) (λb o _ hb _ e n=>u.slot b o e n hb (by simp)) (λb o _ e n=>u.free b o e n (by simp)) (λb o _ e=>u.there b o e (by simp)) u.tups u.frzs u.tbls (λm' hm=>by
  obtain⟨o',es',ep',ko,r'⟩:=hm;rw[ho]at ko;cases ko;exact#[_,es',ep',hL,r']) hok I.bare
theorem Inv.call{g' t' d' ch}(I:Inv X a8 σ H s)(u:Un (frs X.stack) ch H H' s.heap h')(hok:HOk X.prog X.w H' h')(hg:AllBare g')
  (mn:∀b∈ch,(b∈X.ex\/X.s₀.heap.get? b=none)/\b≠X.env.locals/\(∀x c,X.env.cells.lookup x=some c->c≠b)/\∀p∈X.pn++a8,p.1≠b):
  Inv X a8 σ H' {s with heap:=h',gens:=g',drawn:=d',toks:=t' }:=by
 obtain⟨m,⟨o,es,ep,ho,r⟩,_⟩:=id I.loc;obtain⟨sl,hL⟩:=u.any ho I.free λz=>(mn _ z).2.1 rfl
 exact I.step mn (λb o hL hb hc e n=>u.keep b o e n (λz=>(aD (I.stkSub b z)).elim hL hb) hc) (λb o _ _ hc e n=>u.any e n hc) (λb o hc e n=>u.free b o e n hc) (λb o hc e=>u.there b o e hc) u.tups u.frzs u.tbls (λm' hm=>by
  obtain⟨o',es',ep',ko,r'⟩:=hm;rw[ho]at ko;cases ko;exact#[_,es',ep',hL,r']) hok hg
theorem Inv.turned{t' it}(I:Inv X a8 σ H s)(k:∀b o,b≠it->s.heap.get? b=some o->h'.get? b=some o)(hn:H it=none)(hL:it≠X.env.locals)
  (h1:it∈X.ex\/X.s₀.heap.objs.size<=it) (h2:∀x c,X.env.cells.lookup x=some c->c≠it) (h3:∀p∈X.pn++a8,p.1≠it):Inv X a8 σ H {s with heap:=h',toks:=t' }:=by
 have ut:∀b u,H b=some u->b≠it:=λb u e z=>by rw[z,hn]at e;cases e
 refine I.step (g':=s.gens) (d':=s.drawn) (ch:=[it]) (λb hb=>?_) (λb o _ _ hc e _=>k b o (λz=>hc (by simp[z])) e) (λb o _ _ hc e _=>#[o.slots,k b o (λz=>hc (by simp[z])) e]) (λ_ _ _ _ n=>n)
  (λb o hc e=>#[o,k b o (λz=>hc (by simp[z])) e]) (λ_ _ e=>e) (λ_ _ _ e=>e) (λb ps e=>#[(List.toArray []),by rw[e];simp]) (λm hm=>?_) (λb u e=>?_) I.bare
 ·have e:b=it:=by simpa using hb
  subst e;exact#[h1.imp id λz=>Yi z,hL,h2,h3]
 ·obtain⟨o,es,ep,ho,r⟩:=hm;exact#[o,es,ep,k _ o (Ne.symm hL) ho,r]
 ·refine(I.hok b u e).stay (λc v hc q=>k c v ?_ q) (λ_ q=>q) λ_ _ q=>q
  rcases hc with z|z
  ·rw[z];exact ut b u e
  ·exact ut c _ z
theorem Inv.tok(I:Inv X a8 σ H s) t:Inv X a8 σ H {s with toks:=t}:=I.un (h':=s.heap) (t':=t) Un.refl I.hok
theorem Inv.kept{t'}(I:Inv X a8 σ H s)(k:∀b u,s.heap.get? b=some u->h'.get? b=some u):Inv X a8 σ H {s with heap:=h',toks:=t' }:=I.un (Un.kept k) (I.hok.kept k)
theorem Inv.laid{a:Addr}{o t'}(I:Inv X a8 σ H s)(k:∀b u,s.heap.get? b=some u->h'.get? b=some u)(hp:s.heap.objs.size<=a)(new:ObjOk X.prog X.w (upd H a o) h' a o):
  Inv X a8 σ (upd H a o) {s with heap:=h',toks:=t' }:=I.un (Un.laid k hp (I.hok.fresh hp)) (I.hok.laid k hp new)
theorem Inv.write{x e o t'}(I:Inv X a8 σ H s)(mu:Mut (H x))(he:e=x\/H e=some (.own x))(k:∀b u,b≠e->s.heap.get? b=some u->h'.get? b=some u)(ul:∃u,h'.get? e=some u)
  (new:ObjOk X.prog X.w (upd H x o) h' x o):Inv X a8 σ (upd H x o) {s with heap:=h',toks:=t' }:=I.un (Un.write mu he k ul) (I.hok.write mu he k ul new)
theorem Inv.pins_of{db}(I:Inv X a8 σ H s)(h:∀p∈db,s.heap.get? p.1=some p.2/\H p.1=none/\p.1≠X.env.locals/\p.1∉X.fs/\∀v,p.2.data≠.cell v):Inv X db σ H s:=
 #[I.ok,I.os,I.bare,I.base,I.loc,I.cell,I.free,I.freeC,λp hp=>(aA hp).elim (λz=>I.pin p (ll9 _ z)) (h p),I.hok,I.len]
theorem qqd{N:List Str}(hN:N.Nodup){i j:Nat}{x}(a:N[i]?=some x)(b:N[j]?=some x):i=j:=by
 obtain⟨h1,e1⟩:=List.getElem?_eq_some_iff.mp a;obtain⟨h2,e2⟩:=List.getElem?_eq_some_iff.mp b;exact(List.getElem_inj hN).mp (e1.trans e2.symm)
theorem qx5{M A E i x v u Q}(I:Inv X a8 σ H s)(hN:X.N.Nodup)(hi:X.N[i]?=some x)(hx:Loc X.env.scope x)(r:RelV v u)
  (h:∀s',Inv X a8 (σ.set i (some v)) H s'->(∃a,Heap.SameBut a s.heap s'.heap/\(a=X.env.locals\/X.env.cells.lookup x=some a))->Q () s') (hf:autoParam (X.fn x=true\/X.env.scope.names.lookup x=some .local) Ř):wpAny M A (storeName X.env x u) Q E s:=by
 obtain⟨m,hn,hl⟩:=id I.loc;have hcls:(X.env.scope.kind == .class||(X.env.scope.kind == .module&&X.env.locals != X.env.globals))=false:=by rw[I.ok.kind];rfl
 have hiσ:i < σ.length:=by rw[I.len];exact(List.getElem?_eq_some_iff.mp hi).1
 have cne:=I.cne;have jp:∀{a h'},(∃o,s.heap.get? a=some o/\H a=none)->Heap.SameBut a s.heap h'->HOk X.prog X.w H h':=fun {a h'} ha hs b ob e=>by
  refine(I.hok b ob e).stay (λc w' hc q=>(hs.2 c ?_).trans q) (λ_ q=>q) λ_ _ q=>q
  rintro rfl;rcases hc with rfl|hc
  ·grind
  ·grind
 rcases hx with hk|hk
 ·refine wpAny_storeName_local hk hn (λh' wb hs=>?_) hcls;obtain⟨oL,_,_,ux,_⟩:=id hn;refine h _ #[I.ok,I.os,I.bare,#[λb o e n hb hx=>?_,λb o e n hb hx=>?_,I.base.free,λb o e hx=>?_,I.base.tups,I.base.frzs,I.base.tbls],#[_,wb,λj y v' e1 e2 e3=>?_],λy c e=>?_,I.free,I.freeC,λp hp=>?_,jp #[oL,ux,I.free] hs,by simpa using I.len] #[_,hs,.inl rfl]
  ·exact(hs.2 b (Xk (Xp (Xe e) I.ok.above))).trans (I.base.keep b o e n hb hx)
  ·obtain⟨sl,e1⟩:=I.base.slot b o e n hb hx;exact#[sl,(hs.2 b (Xk (Xp (Xe e) I.ok.above))).trans e1]
  ·obtain⟨o',e1⟩:=I.base.there b o e hx;exact#[o',(hs.2 b (Xk (Xp (Xe e) I.ok.above))).trans e1]
  ·by_cases hj:j=i
   ·subst hj;rw[hi]at e1;cases e1;rw[List.getElem?_set_self hiσ]at e2;cases e2;exact#[u,r,.inl #[hk,by simp]]
   ·rw[Z1 (Ne.symm hj)]at e2;obtain⟨u',r',q⟩:=hl j y v' e1 e2 e3;refine#[u',r',?_];rcases q with⟨k,e⟩|⟨k,c,e,z⟩
    ·refine .inl #[k,?_];have:y≠x:=λe=>hj (qqd hN e1 (e▸hi))
     simp[this,e]
    ·exact .inr #[k,c,e,z.sameBut hs (cne y c e)]
  ·obtain⟨w',z⟩:=I.cell y c e;exact#[w',z.sameBut hs (cne y c e)]
  ·obtain⟨e,n,ne,nf,d⟩:=I.pin p hp;exact#[(hs.2 p.1 ne).trans e,n,ne,nf,d]
 ·have hfn:X.fn x=true:=by
   rcases hf with z|z
   ·exact z
   ·grind
  obtain⟨c,hc⟩:=I.ok.has x (.inl hk);obtain⟨w',z⟩:=I.cell x c hc;refine wpAny_storeName_cell I.ok.kind hk hc z (λh' kr hs=>?_);obtain⟨oc,hoc,hocd⟩:=id z;refine h {s with heap:=h' } #[I.ok,I.os,I.bare,#[λb o e n hb hx=>?_,λb o e n hb hx=>?_,I.base.free,λb o e hx=>?_,I.base.tups,I.base.frzs,I.base.tbls],#[m,hn.sameBut hs (Ne.symm (cne x c hc)),λj y v' e1 e2 e3=>?_],λy c' e=>?_,I.free,I.freeC,λp hp=>?_,jp #[oc,hoc,I.freeC x c hc] hs,by simpa using I.len] #[c,hs,.inr hc]
  ·exact(hs.2 b (Xk (Xp (Xe e) (I.ok.cab x c hfn hc)))).trans (I.base.keep b o e n hb hx)
  ·obtain⟨sl,e1⟩:=I.base.slot b o e n hb hx;exact#[sl,(hs.2 b (Xk (Xp (Xe e) (I.ok.cab x c hfn hc)))).trans e1]
  ·obtain⟨o',e1⟩:=I.base.there b o e hx;exact#[o',(hs.2 b (Xk (Xp (Xe e) (I.ok.cab x c hfn hc)))).trans e1]
  ·by_cases hj:j=i
   ·subst hj;rw[hi]at e1;cases e1;rw[List.getElem?_set_self hiσ]at e2;cases e2;exact#[u,r,.inr #[.inl hk,c,hc,kr]]
   ·rw[Z1 (Ne.symm hj)]at e2;obtain⟨u',r',q⟩:=hl j y v' e1 e2 e3;refine#[u',r',?_];rcases q with q|⟨k,c',e,z'⟩
    ·exact .inl q
    ·refine .inr #[k,c',e,z'.sameBut hs ?_];rintro rfl;exact hj (qqd hN e1 (I.ok.inj _ _ _ e hc▸hi))
  ·by_cases js:c'=c
   ·subst js;exact#[_,kr]
   ·obtain⟨w2,z2⟩:=I.cell y c' e;exact#[w2,z2.sameBut hs js]
  ·obtain⟨e,n,ne,nf,d⟩:=I.pin p hp;refine#[(hs.2 p.1 ?_).trans e,n,ne,nf,d];intro q;rw[q,hoc]at e;have q':oc=p.2:=oq9 e;exact d w' (q'▸hocd)
theorem jzx{M A E i x v u Q}(I:Inv X a8 σ H s)(hN:X.N.Nodup)(hi:X.N[i]?=some x)(hx:Loc X.env.scope x)(r:RelV v u)
  (h:∀s',Inv X a8 (σ.set i (some v)) H s'->Q () s') (hf:autoParam (X.fn x=true\/X.env.scope.names.lookup x=some .local) Ř):wpAny M A (storeName X.env x u) Q E s:=
 qx5 I hN hi hx r (λs' I' _=>h s' I') hf
theorem Inv.call'{s' ch}(I:Inv X a8 σ H s)(ho:s'.os=s.os)(u:Un (frs X.stack) ch H H' s.heap s'.heap)(hok:HOk X.prog X.w H' s'.heap)(hg:AllBare s'.gens)
  (mn:∀b∈ch,(b∈X.ex\/X.s₀.heap.get? b=none)/\b≠X.env.locals/\(∀x c,X.env.cells.lookup x=some c->c≠b)/\∀p∈X.pn++a8,p.1≠b):Inv X a8 σ H' s':=by
 obtain⟨h',g',d',t',o'⟩:=s';subst ho;exact I.call (g':=g') (t':=t') (d':=d') u hok hg mn
end
abbrev XK:=Value->Option Addr->Hp->Prop
abbrev St:=List (Option V)
abbrev VK:=V->Hp->Prop
abbrev TE:=St->Hp->VK->Prop
abbrev TT:=St->Hp->(Bool->Hp->Prop)->Prop
abbrev TA:=St->Hp->(List V->Hp->Prop)->Prop
structure Ends where
 nx:St->Hp->Prop
 rt:VK
 bk:St->Hp->Prop:=λ_ _=>False
 ct:St->Hp->Prop:=λ_ _=>False
abbrev TS:=Ends->St->Hp->Prop
def EP(X:Cx)(a8:LA9)(σ:St)(Q:VK)(u:Value)(s':Shared):Prop:=∃v H',Inv X a8 σ H' s'/\RelV v u/\Q v H'
def TP(X:Cx)(a8:LA9)(σ:St)(Q:Bool->Hp->Prop)(b:Bool)(s':Shared):Prop:=∃H',Inv X a8 σ H' s'/\Q b H'
def AP(X:Cx)(a8:LA9)(σ:St)(Q:List V->Hp->Prop)(us:List Value)(s':Shared):Prop:=∃vs H',Inv X a8 σ H' s'/\Vals vs us/\Q vs H'
set_option tactic.hygienic true in
noncomputable def SP(X:Cx)(a8:LA9)(D:Ends)(f:Flow)(s':Shared):Prop:=
 match f with
 |.next=>∃ σ' H',Inv X a8 σ' H' s'/\D.nx σ' H'|.brk=>∃ σ' H',Inv X a8 σ' H' s'/\D.bk σ' H'|.cont=>∃ σ' H',Inv X a8 σ' H' s'/\D.ct σ' H'|.ret u=>∃v σ' H',Inv X a8 σ' H' s'/\RelV v u/\D.rt v H'
def PE(X:Cx)(e:Expr)(t:TE):Prop:=
 ∀(a8:LA9) (s:Shared) (σ:St) (H:Hp) (Q:VK),Inv X a8 σ H s->t σ H Q->wpAny (model X.prog X.w) X.A (eval e X.env) (EP X a8 σ Q) X.xe s
def PT(X:Cx)(e:Expr)(t:TT):Prop:=
 ∀(a8:LA9) (s:Shared) (σ:St) (H:Hp) (Q:Bool->Hp->Prop),Inv X a8 σ H s->t σ H Q->wpAny (model X.prog X.w) X.A (isTrue e X.env (eval e X.env)) (TP X a8 σ Q) X.xe s
def PW(X:Cx)(e:Expr)(t:TT):Prop:=
 ∀(gf:Sem Value) (a8:LA9) (s:Shared) (σ:St) (H:Hp) (Q:Bool->Hp->Prop),Inv X a8 σ H s->t σ H Q->wpAny (model X.prog X.w) X.A (isTrue e X.env gf) (TP X a8 σ Q) X.xe s
theorem PW.pt{X e t}(h:PW X e t):PT X e t:=h _
def PA(X:Cx)(es:List Expr)(t:TA):Prop:=
 ∀(pos:Pos) (a8:LA9) (s:Shared) (σ:St) (H:Hp) (Q:List V->Hp->Prop),Inv X a8 σ H s->t σ H Q->wpAny (model X.prog X.w) X.A (spliced (backTo pos (starEach es X.env))) (AP X a8 σ Q) X.xe s
def PS(X:Cx)(st:Stmt)(t:TS):Prop:=
 ∀(a8:LA9) (s:Shared) (σ:St) (H:Hp) (D:Ends),Inv X a8 σ H s->t D σ H->wpAny (model X.prog X.w) X.A (exec st X.env) (SP X a8 D) X.xe s
def PSs(X:Cx)(st:List Stmt)(t:TS):Prop:=
 ∀(a8:LA9) (s:Shared) (σ:St) (H:Hp) (D:Ends),Inv X a8 σ H s->t D σ H->wpAny (model X.prog X.w) X.A (execs st X.env) (SP X a8 D) X.xe s
theorem thn{α t}{Q Q':α->Shared->Prop}{M A E s}(h:wpAny M A t Q E s)(hQ:∀a s,Q a s->Q' a s):wpAny M A t Q' E s:=wpAny_mono h hQ λ_ _ x=>x
section
variable {X:Cx}
abbrev zJ(i:Nat):TE:=fun σ H Q=>∃v,σ[i]?=some (some v)/\Q v H
abbrev tC(v:V):TE:=λ_ H Q=>Q v H
abbrev _root_.Abd(x:Str):Prop:=(x==("__debug__":Str))=false
theorem wxx{i x pos}(hN:X.N[i]?=some x)(hv:Vis X.env.scope x)(hd:autoParam (Abd x) ŕ)(ik:autoParam ((x==("__classdict__":Str))=false) ŕ):PE X (.Name x pos) (zJ i):=by
 rintro a8 s σ H Q I ⟨v,e,h⟩;obtain⟨m,hn,hl⟩:=I.loc;obtain⟨u,r,l⟩:=hl i x v hN e hv;have fin:EP X a8 σ Q u s:=#[v,H,I,r,h];rcases l with⟨hk,hm⟩|⟨hk,c,hc,hcell⟩
 ·exact wpAny_Name (wpAny_loadName_local I.ok.kind hk hn hm fin) hd
 ·rcases hk with hk|hk
  ·exact wpAny_Name (wpAny_loadName_cell I.ok.kind hk hc hcell fin) hd
  ·exact wpAny_Name (wpAny_loadName_free I.ok.kind hk hc hcell fin ik) hd
theorem wz4{i j pos}:PE X (.Constant (.int i) j pos) (tC (.int i)):=λ_ _ _ H _ I h=>wpAny_Constant_int #[.int i,H,I.tok _,#[_,rfl],h]
theorem xvf{b j pos}:PE X (.Constant (.bool b) j pos) (tC (.bl b)):=λ_ _ _ H _ I h=>Constant_bool #[.bl b,H,I,rfl,h]
theorem wz2{j pos}:PE X (.Constant .none j pos) (tC .non):=λ_ _ _ H _ I h=>Constant_none #[.non,H,I,rfl,h]
theorem vzg{x j pos}:PE X (.Constant (.str x) j pos) (tC (.str x)):=λ_ _ _ H _ I h=>Calls.Constant_str #[.str x,H,I.tok _,#[_,rfl],h]
def Gl(X:Cx)(x:Str):Prop:=X.env.kindOf x=some .globalImplicit
theorem vjk{E a8 s}{σ:St}{H x u pos Q}(I:Inv X a8 σ H s)(hg:Gl X x)(hm:X.mg x=some u)(h:Q u s)
  (hd:autoParam (Abd x) ŕ):wpAny (model X.prog X.w) X.A (eval (.Name x pos) X.env) Q E s:=
 Calls.Name_function_global I.ok.kind hg (Calls.loadGlobal_global (I.ok.glob▸I.mod.glob.keeps I.bk) hm h) hd
theorem J6{E a8 s}{σ:St}{H x u pos Q}(I:Inv X a8 σ H s)(hg:Gl X x)(hm:X.mg x=none)(hv:bootBuiltins x=some u)(h:Q u s)
  (hn:autoParam (x≠"__name__") ŕ) (hd:autoParam (Abd x) ŕ):wpAny (model X.prog X.w) X.A (eval (.Name x pos) X.env) Q E s:=by
 obtain⟨mb,h1,h2⟩:=I.mod.blt;exact Calls.Name_function_global I.ok.kind hg (Calls.loadGlobal_builtin (I.ok.glob▸I.mod.glob.keeps I.bk) hm (I.ok.blt▸h1.keeps I.bk) ((h2 x hn).trans hv) h) hd
theorem wkl{x v u pos}(hg:Gl X x)(hm:X.mg x=some u)(r:RelV v u)(hd:autoParam (Abd x) ŕ):PE X (.Name x pos) (tC v):=
 λ_ _ _ H _ I h=>vjk I hg hm #[v,H,I,r,h] hd
theorem wkq{x v u pos}(hg:Gl X x)(hm:X.mg x=none)(hv:bootBuiltins x=some u)(r:RelV v u)(hn:autoParam (x≠"__name__") ŕ)(hd:autoParam (Abd x) ŕ):PE X (.Name x pos) (tC v):=
 λ_ _ _ H _ I h=>J6 I hg hm hv #[v,H,I,r,h] hn hd
variable {a b:Expr}{ta tb:TE}{pos:Pos}
variable {tA tB':TT}{ab:List Expr}
abbrev tAnd(t u:TT):TT:=fun σ H Q=>t σ H λc H1=>if c=true then u σ H1 Q else Q false H1
abbrev tOr(t u:TT):TT:=fun σ H Q=>t σ H λc H1=>if c=true then Q true H1 else u σ H1 Q
abbrev tNot(t:TT):TT:=fun σ H Q=>t σ H λc H1=>Q (!c) H1
theorem wk4(ha:PT X a tA):PW X (.BoolOp .And [a] pos) tA:=by
 intro wh a8 s σ H Q I h;refine isTrue_and (thn (ha a8 s σ H Q I h) λc s1 e=>?_);cases c with|true=>exact isTrue_and_nil e|false=>exact e
theorem wxk(ha:PT X a tA):PW X (.BoolOp .Or [a] pos) tA:=by
 intro wh a8 s σ H Q I h;refine isTrue_or (thn (ha a8 s σ H Q I h) λc s1 e=>?_);cases c with|false=>exact isTrue_or_nil e|true=>exact e
theorem wxl(ha:PT X a tA)(hb:PW X (.BoolOp .And (b::ab) pos) tB'):PW X (.BoolOp .And (a::b::ab) pos) (tAnd tA tB'):=by
 intro wh a8 s σ H Q I h;refine isTrue_and (thn (ha a8 s σ H _ I h) λc s1 hz=>?_);obtain⟨H1,I1,q1⟩:=hz;cases c with|true=>exact hb wh a8 s1 σ H1 Q I1 q1|false=>exact#[H1,I1,q1]
theorem xva(ha:PT X a tA)(hb:PW X (.BoolOp .Or (b::ab) pos) tB'):PW X (.BoolOp .Or (a::b::ab) pos) (tOr tA tB'):=by
 intro wh a8 s σ H Q I h;refine isTrue_or (thn (ha a8 s σ H _ I h) λc s1 hz=>?_);obtain⟨H1,I1,q1⟩:=hz;cases c with|true=>exact#[H1,I1,q1]|false=>exact hb wh a8 s1 σ H1 Q I1 q1
theorem wxm(ha:PT X a tA):PT X (.UnaryOp .Not a pos) (tNot tA):=by
 intro a8 s σ H Q I h;exact isTrue_not (ha a8 s σ H _ I h)
abbrev xqm(ta tb:TE):TE:=fun σ H Q=>ta σ H λx H1=>∃c,x=.bl c/\if c=true then tb σ H1 Q else Q (.bl false) H1
theorem wz1{op t}(h:PE X a t):PE X (.BoolOp op [a] pos) t:=λa8 s σ H Q I hw=>BoolOp_one (h a8 s σ H Q I hw)
theorem wz7(ha:PE X a ta)(hb:PE X (.BoolOp .And (b::ab) pos) tb):PE X (.BoolOp .And (a::b::ab) pos) (xqm ta tb):=by
 intro a8 s σ H Q I h;refine BoolOp_and (thn (ha a8 s σ H _ I h) λv s1 hz=>?_);obtain⟨x,H1,I1,r1,q1⟩:=hz;obtain⟨c,rfl,q1⟩:=q1;cases r1;refine Ze ?_;cases c with|true=>exact hb a8 s1 σ H1 Q I1 q1|false=>exact#[.bl false,H1,I1,rfl,q1]
abbrev tIf(t:TT)(ta tb:TE):TE:=fun σ H Q=>t σ H λc H1=>if c=true then ta σ H1 Q else tb σ H1 Q
theorem vw3{c}(hc:PT X c tA)(ha:PE X a ta)(hb:PE X b tb):PE X (.IfExp c a b pos) (tIf tA ta tb):=by
 intro a8 s σ H Q I h;refine wpAny_IfExp (thn (hc a8 s σ H _ I h) λd s1 hz=>?_);obtain⟨H1,I1,q1⟩:=hz;cases d with|true=>exact ha a8 s1 σ H1 Q I1 q1|false=>exact hb a8 s1 σ H1 Q I1 q1
end
def SqL(K:Frag)(H:Hp)(a:Addr)(xs:List V):Prop:=
 Rd H a (.lst xs) \/
  ∃(o:Obj) (ac:Array Value) (n:Nat),K.lookup a=some o/\o.cls=.type "list"/\o.dict=none/\o.data=.seq ac n/\ac.size<=sizeLine/\Vals xs ac.toList
def SqT(K:Frag)(H:Hp)(a:Addr)(xs:List V):Prop:=
 Rd H a (.tup xs) \/
  ∃(o:Obj) (ac:Array Value) (n:Nat),K.lookup a=some o/\o.cls=.type "tuple"/\o.dict=none/\o.data=.seq ac n/\ac.size<=sizeLine/\Vals xs ac.toList
def absV:Value->Option V
 |.none=>some .non|.bool b=>some (.bl b)|.int i _=>some (.int i)|.str x _=>some (.str x)|.bytes b _=>some (.byt b)|.float b _=>some (.flt b)|.ref a=>some (.ref a)|.type n=>some (.ty n)|_=>none
theorem RelV.abs{x u}(r:RelV x u):absV u=some x:=by
 cases x with|non=>cases r;rfl|bl _=>cases r;rfl|int _=>obtain⟨t,rfl⟩:=r;rfl|str _=>obtain⟨t,rfl⟩:=r;rfl|byt _=>obtain⟨t,rfl⟩:=r;rfl|flt _=>obtain⟨t,rfl⟩:=r;rfl|ref _=>cases r;rfl|ty _=>cases r;rfl
theorem RelV.inj{x y u}(r:RelV x u)(q:RelV y u):x=y:=oq9 (r.abs.symm.trans q.abs)
theorem Vals.inj:∀{xs ys us},Vals xs us->Vals ys us->xs=ys
 |_,_,_,.nil,.nil=>rfl|_,_,_,.cons r t,.cons r' t'=>by rw[r.inj r',Vals.inj t t']
section
variable {X:Cx}{a8:LA9}{σ:St}{H:Hp}{s:Shared}{a:Addr}{xs ys:List V}
theorem SqL.of{K}(h:H a=some (.lst xs)):SqL K H a xs:=.inl (.inl h)
theorem SqT.of{K}(h:H a=some (.tup xs)):SqT K H a xs:=.inl (.inl h)
theorem Inv.list(I:Inv X a8 σ H s)(h:SqL X.K H a xs):∃ac,Vals xs ac/\PlainL s.heap a ac.toArray/\xs.length<=sizeLine:=by
 rcases h with h|⟨o,ac,n,hk,hc,hd,hs,hz,r⟩
 ·obtain⟨z,ac,n,r,e⟩:=h.ok I.hok;exact#[ac,r,#[_,n,e,rfl,rfl,rfl],z]
 ·refine#[ac.toList,r,#[o,n,I.kIn a o hk,hc,hd,by simpa using hs],?_];have e:=r.length;simp at e;lia
theorem Inv.tuple(I:Inv X a8 σ H s)(h:SqT X.K H a xs):∃ac,Vals xs ac/\IsTup s.heap a ac.toArray/\xs.length<=sizeLine:=by
 rcases h with h|⟨o,ac,n,hk,hc,_,hs,hz,r⟩
 ·obtain⟨z,ac,r,p⟩:=h.ok I.hok;exact#[ac,r,p.tup,z]
 ·refine#[ac.toList,r,#[o,I.kIn a o hk,hc,n,by simpa using hs],?_];have e:=r.length;simp at e;lia
theorem Inv.tupleD(I:Inv X a8 σ H s)(h:SqT X.K H a xs):∃o,s.heap.get? a=some o/\o.dict=none:=by
 rcases h with h|⟨o,ac,n,hk,hc,hd,hs,hz,r⟩
 ·obtain⟨z,ac,r,o,e,_,d,_⟩:=h.ok I.hok;exact#[o,e,d]
 ·exact#[o,I.kIn a o hk,hd]
theorem Inv.list_inj(I:Inv X a8 σ H s)(h:SqL X.K H a xs)(h':SqL X.K H a ys):xs=ys:=by
 obtain⟨ac,r,⟨o,n,e,_,_,d⟩,_⟩:=I.list h;obtain⟨its',r',⟨o',n',e',_,_,d'⟩,_⟩:=I.list h';rw[e]at e';cases e';rw[d]at d';injection d' with d1 _;have:ac=its':=by simpa using congrArg Array.toList d1
 subst this;exact r.inj r'
theorem Inv.tuple_inj(I:Inv X a8 σ H s)(h:SqT X.K H a xs)(h':SqT X.K H a ys):xs=ys:=by
 obtain⟨ac,r,⟨o,e,_,n,d⟩,_⟩:=I.tuple h;obtain⟨its',r',⟨o',e',_,n',d'⟩,_⟩:=I.tuple h';rw[e]at e';cases e';rw[d]at d';injection d' with d1 _;have:ac=its':=by simpa using congrArg Array.toList d1
 subst this;exact r.inj r'
end
abbrev Cx.wish(X:Cx)(E:VP9):Cx:={X with xe:=E}
theorem Cx.Ok.wish{X:Cx}(ok:X.Ok) E:(X.wish E).Ok:=
 #[ok.mod,ok.kind,ok.glob,ok.blt,ok.above,ok.inj,ok.has,ok.cab,ok.hd,ok.frames,ok.stk,ok.exf,ok.bs,ok.bsz,ok.noex,ok.exfs,ok.funs,ok.frf]
theorem Cx.Ok.unwish{X:Cx}{E}(ok:(X.wish E).Ok):X.Ok:=
 #[ok.mod,ok.kind,ok.glob,ok.blt,ok.above,ok.inj,ok.has,ok.cab,ok.hd,ok.frames,ok.stk,ok.exf,ok.bs,ok.bsz,ok.noex,ok.exfs,ok.funs,ok.frf]
section
variable {X:Cx}{a8:LA9}{σ:St}{H:Hp}{s:Shared}{E:VP9}
theorem Inv.wish(I:Inv X a8 σ H s) E:Inv (X.wish E) a8 σ H s:=#[I.ok.wish E,I.os,I.bare,I.base,I.loc,I.cell,I.free,I.freeC,I.pin,I.hok,I.len]
theorem Inv.unwish(I:Inv (X.wish E) a8 σ H s):Inv X a8 σ H s:=#[I.ok.unwish,I.os,I.bare,I.base,I.loc,I.cell,I.free,I.freeC,I.pin,I.hok,I.len]
set_option tactic.hygienic true in
theorem SP.unwish{D f s'}(h:SP (X.wish E) a8 D f s'):SP X a8 D f s':=by
 cases f with|next=>obtain⟨σ',H',I,q⟩:=h;exact#[σ',H',I.unwish,q]|brk=>obtain⟨σ',H',I,q⟩:=h;exact#[σ',H',I.unwish,q]|cont=>obtain⟨σ',H',I,q⟩:=h;exact#[σ',H',I.unwish,q]|ret u=>obtain⟨v,σ',H',I,r,q⟩:=h;exact#[v,σ',H',I.unwish,r,q]
end
section
variable {X:Cx}{st:Stmt}{ab:List Stmt}{t u:TS}{e:Expr}{te:TE}{pos:Pos}
abbrev xqg:TS:=λD σ H=>D.nx σ H
abbrev tSeq(t u:TS):TS:=λD σ H=>t {D with nx:=u D} σ H
theorem wkd:PSs X [] xqg:=λ_ _ σ H _ I h=>wpAny_execs_nil #[σ,H,I,h]
set_option tactic.hygienic true in
theorem vvx(h1:PS X st t)(h2:PSs X ab u):PSs X (st::ab) (tSeq t u):=by
 intro a8 s σ H D I h;refine wpAny_execs_cons (thn (h1 a8 s σ H {D with nx:=u D} I h) λf s1 q=>?_);cases f with
 |next=>
  obtain⟨σ',H',I',q⟩:=q;exact h2 a8 s1 σ' H' D I' q
 |ret v=>exact q|brk=>exact q|cont=>exact q
set_option tactic.hygienic true in
theorem wkc(h1:PS X st t):PSs X [st] t:=by
 intro a8 s σ H D I h;refine wpAny_execs_cons (thn (h1 a8 s σ H D I h) λf s1 q=>?_);cases f with|next=>exact wpAny_execs_nil q|ret v=>exact q|brk=>exact q|cont=>exact q
theorem Inv.quiet{a8}{σ:St}{H s}(I:Inv X a8 σ H s):interactive X.env=false:=by simp[interactive,I.ok.kind]
abbrev xqi(te:TE):TS:=λD σ H=>te σ H λ_ H1=>D.nx σ H1
theorem wke(he:PE X e te)(hs:autoParam (swapsWith e none pos.line X.env=pure false) Ŕ):PS X (.Expr e pos) (xqi te):=by
 intro a8 s σ H D I h;exact wpAny_Expr_any (thn (he a8 s σ H _ I h) λv s1 hz=>by obtain⟨x,H1,I1,r1,q1⟩:=hz;exact#[σ,H1,I1,q1]) I.quiet hs
abbrev tRet(te:TE):TS:=λD σ H=>te σ H D.rt
theorem wxo(he:PE X e te):PS X (.Return (some e) pos) (tRet te):=by
 intro a8 s σ H D I h;exact wpAny_Return_some (thn (he a8 s σ H _ I h) λv s1 hz=>by obtain⟨x,H1,I1,r1,q1⟩:=hz;exact#[x,σ,H1,I1,r1,q1])
abbrev tIfS(c:TT)(t u:TS):TS:=λD σ H=>c σ H λb H1=>if b=true then t D σ H1 else u D σ H1
theorem xvb{c a b tc}(hc:PT X c tc)(ha:PSs X a t)(hb:PSs X b u):PS X (.If c a b pos) (tIfS tc t u):=by
 intro a8 s σ H D I h;refine wpAny_If (thn (hc a8 s σ H _ I h) λd s1 hz=>?_);obtain⟨H1,I1,q1⟩:=hz;cases d with|true=>exact ha a8 s1 σ H1 D I1 q1|false=>exact hb a8 s1 σ H1 D I1 q1
end
abbrev TG:=V->St->Hp->(St->Hp->Prop)->Prop
abbrev TGs:=List V->St->Hp->(St->Hp->Prop)->Prop
def PG(X:Cx)(fw:Expr)(t:TG):Prop:=
 ∀(a8:LA9) (s:Shared) (σ:St) (H:Hp) (v:V) (u:Value) (Q:St->Hp->Prop),Inv X a8 σ H s->RelV v u->t v σ H Q ->
  wpAny (model X.prog X.w) X.A (assign fw X.env u) (λ_ s'=>∃ σ' H',Inv X a8 σ' H' s'/\Q σ' H') X.xe s
noncomputable def PGs(X:Cx)(ts:List Expr)(t:TGs):Prop:=
 ∀(a8:LA9) (s:Shared) (σ:St) (H:Hp) (vs:List V) (us:List Value) (Q:St->Hp->Prop),Inv X a8 σ H s->Vals vs us->t vs σ H Q ->
  wpAny (model X.prog X.w) X.A (assignInOrder ((assignEach ts X.env).map (·.2)) us) (λ_ s'=>∃ σ' H',Inv X a8 σ' H' s'/\Q σ' H') X.xe s
abbrev xwj:=V->V->V->Hp->(Hp->Prop)->Prop
noncomputable def xxh(X:Cx)(t:xwj):Prop:=
 ∀(a8:LA9) (s:Shared) (σ:St) (H:Hp) (o i v:V) (ov iv u:Value) (Q:Hp->Prop),Inv X a8 σ H s->RelV o ov->RelV i iv->RelV v u->t o i v H Q ->
  wpAny (model X.prog X.w) X.A (setItem ov iv u) (λ_ s'=>∃H',Inv X a8 σ H' s'/\Q H') X.xe s
abbrev TIp:=V->V->Hp->VK->Prop
def PIp(X:Cx)(op:Operator)(t:TIp):Prop:=
 ∀(a8:LA9) (s:Shared) (σ:St) (H:Hp) (x y:V) (v u:Value) (Q:VK),Inv X a8 σ H s->RelV x v->RelV y u->t x y H Q ->
  wpAny (model X.prog X.w) X.A (inplaceOp op v u) (EP X a8 σ Q) X.xe s
section
variable {X:Cx}{pos:Pos}
abbrev vkb(i:Nat):TG:=λv σ H Q=>Q (σ.set i (some v)) H
theorem qjd{i x}(hN:X.N.Nodup)(hi:X.N[i]?=some x)(hx:Loc X.env.scope x)(hf:autoParam (X.fn x=true\/X.env.scope.names.lookup x=some .local) Ř):PG X (.Name x pos) (vkb i):=by
 intro a8 s σ H v u Q I r h;exact wpAny_assign_Name (jzx I hN hi hx r (λs' I'=>#[_,H,I',h]) hf)
abbrev xx9:TGs:=λvs σ H Q=>vs=[]/\Q σ H
abbrev xjl(t:TG)(u:TGs):TGs:=λvs σ H Q=>∃v r,vs=v::r/\t v σ H fun σ' H'=>u r σ' H' Q
theorem z4:PGs X [] xx9:=by
 rintro a8 s σ H vs us Q I r ⟨e,h⟩;subst e;exact assignInOrder_nil #[σ,H,I,h]
theorem qw{e es t u}(h1:PG X e t)(h2:PGs X es u)
  (hs:autoParam ((assignEach (e::es) X.env).map (·.2)=assign e X.env::(assignEach es X.env).map (·.2)) Ŕ):PGs X (e::es) (xjl t u):=by
 rintro a8 s σ H vs us Q I r ⟨v,vr,e1,h⟩;subst e1;cases r with
 |cons r rr=>
  rw[hs];exact assignInOrder_cons (thn (h1 a8 s σ H _ _ _ I r h) λ_ s1 hz=>by obtain⟨σ1,H1,I1,q1⟩:=hz;exact(h2 a8 s1 σ1 H1 _ _ Q I1 rr q1))
abbrev gSub(to ti:TE)(t:xwj):TG:=λv σ H Q=>to σ H λo H1=>ti σ H1 λi H2=>t o i v H2 λH3=>Q σ H3
theorem wxv{o i:Expr}{to ti:TE}{t:xwj}(ho:PE X o to)(hi:PE X i ti)(hs:xxh X t)
  (ha:autoParam (∀v,assign (.Subscript o i pos) X.env v=(do
   let ov <-holding [v] (eval o X.env)
   let iv <-holding [v,ov] (eval i X.env)
   standAt pos
   holding [v,ov,iv] (setItem ov iv v)
   release [v,ov,iv] [])) Ŗ):PG X (.Subscript o i pos) (gSub to ti t):=by
 intro a8 s σ H v u Q I r h;rw[ha];refine X0 (Ya (thn (ho a8 s σ H _ I h) λov s1 hz=>?_));obtain⟨x,H1,I1,r1,q1⟩:=hz;refine X0 (Ya (thn (hi a8 s1 σ H1 _ I1 q1) λiv s2 hz=>?_));obtain⟨y,H2,I2,r2,q2⟩:=hz;refine X0 (wpAny_standAt (X0 (Ya (thn (hs a8 s2 σ H2 x y v ov iv u _ I2 r1 r2 r q2) λ_ s3 hz=>?_))));obtain⟨H3,I3,q3⟩:=hz;exact wpAny_release #[σ,H3,I3,q3]
abbrev xwp(te:TE)(g:TG):TS:=λD σ H=>te σ H λx H1=>g x σ H1 D.nx
theorem vz9{tg e te g}(he:PE X e te)(hg:PG X tg g)(hs:autoParam (swapsWithSole [tg] e pos.line X.env=pure false) Ŕ)(hw:autoParam (swappedStores [tg] e X.env=pure none) Ŕ)
  (h1:autoParam ((assignEach [tg] X.env).map (·.2)=[assign tg X.env]) Ŕ):PS X (.Assign [tg] e pos) (xwp te g):=by
 intro a8 s σ H D I h;refine wpAny_Assign_stores (thn (he a8 s σ H _ I h) λv s1 hz=>?_) hs hw;obtain⟨x,H1,I1,r1,q1⟩:=hz;rw[h1];exact thn (hg a8 s1 σ H1 x v _ I1 r1 q1) λ_ s2 q=>q
theorem wxn{i x e te bc}(hN:X.N.Nodup)(hi:X.N[i]?=some x)(hx:Loc X.env.scope x)(he:PE X e te)(hs:autoParam (swapsWith e (some (.Name x bc)) pos.line X.env=pure false) Ŕ)(hf:autoParam (X.fn x=true\/X.env.scope.names.lookup x=some .local) Ř):
  PS X (.Assign [.Name x bc] e pos) (xwp te (vkb i)):=by
 intro a8 s σ H D I h;exact wpAny_Assign_Name (thn (he a8 s σ H _ I h) λv s1 hz=>by obtain⟨y,H1,I1,r1,q1⟩:=hz;exact(jzx I1 hN hi hx r1 (λs2 I2=>#[_,H1,I2,q1]) hf)) hs
abbrev tAug(i:Nat)(te:TE)(ti:TIp):TS:=λD σ H=>∃x,σ[i]?=some (some x)/\te σ H λy H1=>ti x y H1 λz H2=>D.nx (σ.set i (some z)) H2
set_option tactic.hygienic true in
theorem wxq{i:Nat}{x:Str}{e:Expr}{te:TE}{op:Operator}{ti:TIp}{bc:Pos}(hN:X.N.Nodup)(hi:X.N[i]?=some x)(hx:Loc X.env.scope x)(he:PE X e te)(ho:PIp X op ti)(hf:autoParam (X.fn x=true\/X.env.scope.names.lookup x=some .local) Ř):
  PS X (.AugAssign (.Name x bc) op e pos) (tAug i te ti):=by
 intro a8 s σ H D I h;obtain⟨v,e1,h⟩:=h;obtain⟨m,hn,hl⟩:=I.loc;have vis:Vis X.env.scope x:=by rcases hx with k|k;exact .inl k;exact .inr (.inl k)
 obtain⟨u,r,l⟩:=hl i x v hi e1 vis;refine wpAny_AugAssign_Name ?_;have go:wpAny (model X.prog X.w) X.A (eval e X.env) (λw s₂=>wpAny (model X.prog X.w) X.A (inplaceOp op u w) (λr s₃=>wpAny (model X.prog X.w) X.A (storeName X.env x r) (λ_=>SP X a8 D .next) X.xe s₃) X.xe s₂) X.xe s:=by
  refine thn (he a8 s σ H _ I h) λw s1 #[y,H1,I1,r1,q1]=>?_
  refine thn (ho a8 s1 σ H1 v y u w _ I1 r r1 q1) λz s2 #[zv,H2,I2,r2,q2]=>?_
  exact jzx I2 hN hi hx r2 (λs3 I3=>#[_,H2,I3,q2]) hf
 rcases l with⟨hk,hm⟩|⟨hk,c,hc,hcell⟩
 ·exact wpAny_loadName_local I.ok.kind hk hn hm go
 ·rcases hk with hk|hk
  ·exact wpAny_loadName_cell I.ok.kind hk hc hcell go
  ·rcases hx with k|k
   ·have:X.env.scope.names.lookup x=some .free:=hk;rw[k]at this;cases this
   ·have:X.env.scope.names.lookup x=some .free:=hk;rw[k]at this;cases this
def ipI(f:Int->Int->Int):TIp:=λx y H Q=>∃i j,x=.int i/\y=.int j/\Q (.int (f i j)) H
theorem vzr:PIp X .Add (ipI λi j=>i+j):=by
 intro a8 s σ H x y v u Q I r1 r2 h;obtain⟨i,j,e1,e2,q⟩:=h;subst e1;subst e2;obtain⟨t,rfl⟩:=r1;obtain⟨t',rfl⟩:=r2;exact iadd_int #[.int _,H,I.tok _,#[_,rfl],q]
end
section
variable {X:Cx}{pos:Pos}
abbrev ww6(c:TT)(tb:TS):TS:=λD σ H=>∃W:Nat->St->Hp->Prop,(∃m,W m σ H)/\∀m σ H,W m σ H ->
 c σ H λb H1=>if b=true then ∃N:St->Hp->Prop,(∀ σ' H',N σ' H'->∃m',m'<m/\W m' σ' H')/\tb {D with nx:=N,ct:=N,bk:=D.nx} σ H1 else D.nx σ H1
set_option tactic.hygienic true in
theorem vvy{c:Expr}{body:List Stmt}{tc:TT}{tb:TS}(hp:PassesOwn (model X.prog X.w) X.A X.env X.xe)(hc:PT X c tc)(hb:PSs X body tb):PS X (.While c body [] pos) (ww6 tc tb):=by
 intro a8 s σ H D I h;obtain⟨W,⟨m0,w0⟩,gb⟩:=h;refine wpAny_While (codeAny_whileLoop (λn s'=>∃ σ' H',Inv X a8 σ' H' s'/\W n σ' H') ?_ m0 #[σ,H,I,w0]);rintro n s1 ⟨σ1,H1,I1,w1⟩;refine Zd hp (thn (hc a8 s1 σ1 H1 _ I1 (gb n σ1 H1 w1)) λb s2 hz=>?_);obtain⟨H2,I2,q2⟩:=hz;cases b with
 | true=>
  obtain⟨N,hN,q2⟩:=q2;rw[Xd rfl];refine Zd hp (thn (hb a8 s2 σ1 H2 _ I2 q2) λf s3 q3=>?_);cases f with
  |next=>
   obtain⟨σ3,H3,I3,n3⟩:=q3;obtain⟨m',hm,w3⟩:=hN σ3 H3 n3;exact#[m',hm,σ3,H3,I3,w3]
  |cont=>
   obtain⟨σ3,H3,I3,n3⟩:=q3;obtain⟨m',hm,w3⟩:=hN σ3 H3 n3;exact#[m',hm,σ3,H3,I3,w3]
  |brk=>exact q3|ret v=>exact q3
 |false=>
  rw[Xi Bool.false_ne_true];exact wpAny_execs_nil #[σ1,H2,I2,q2]
end
structure It where
 go:Nat->Hp->Prop
 yld:Nat->Hp->V->Hp->Prop
 stop:Nat->Hp->Prop
def wZ(X:Cx)(a8:LA9)(H:Hp)(b:Addr):Prop:=
 H b=none/\b≠X.env.locals/\b∉X.fs/\(b∈X.ex\/X.s₀.heap.objs.size<=b)/\(∀x c,X.env.cells.lookup x=some c->c≠b)/\∀p∈X.pn++a8,p.1≠b
theorem Inv.fpOk{X a8}{σ:St}{H H' s}{b:Addr}(I:Inv X a8 σ H s)(hb:s.heap.objs.size<=b)(hn:H' b=none):wZ X a8 H' b:=by
 refine#[hn,Zl (Xp I.lt hb),I.nofs hb,.inr (Ye I.sz hb),λx c e z=>?_,λp hp z=>?_]
 ·obtain⟨v,q⟩:=I.cell x c e;exact absurd (Xp q.lt (z▸hb)) (Ym _)
 ·exact absurd (Xp (Xe (I.pin p hp).1) (z▸hb)) (Ym _)
structure Turn (P:Program)(w:World)(K:Frag)(tg:Expr)(J:It)(fp:List Addr)(it:Addr)(tn:Nat->Heap->Prop):Prop where
 mem:it∈fp
 obj:∀i h,tn i h->∀b∈fp,∃o,h.get? b=some o/\∀v,o.data≠.cell v
 keep:∀i h h',tn i h->(∀b∈fp,∀o,h.get? b=some o->h'.get? b=some o)->tn i h'
 item:∀(X:Cx),X.prog=P->X.w=w->X.K=K->X.calm=true->∀(i:Nat) (a8:LA9) (s:Shared) (σ:St) (H:Hp) (E:VP9),Inv X a8 σ H s->(∀b∈fp,wZ X a8 H b)->tn i s.heap->J.go i H ->
  wpAny (model P w) X.A (pyNext (.ref it)) (λr s1=>∃u,r=some u /\
   wpAny (model P w) X.A (letOwnedTupleGo tg (.ref it) u) (λ_ s2=>∃x H',Inv X a8 σ H' s2/\RelV x u/\J.yld i H x H'/\tn (i+1) s2.heap/\∀b∈fp,H' b=none) E s1) E s
 done:∀(X:Cx),X.prog=P->X.w=w->X.K=K->X.calm=true->∀(i:Nat) (a8:LA9) (s:Shared) (σ:St) (H:Hp) (E:VP9),Inv X a8 σ H s->(∀b∈fp,wZ X a8 H b)->tn i s.heap->J.stop i H ->
  wpAny (model P w) X.A (pyNext (.ref it)) (λr s1=>r=none/\Inv X a8 σ H s1) E s
 self:∀(A:Around) (i:Nat) (s:Shared) (Q:VP9) (E:VP9),tn i s.heap->Q (.ref it) s->wpAny (model P w) A (pyIter (.ref it)) Q E s
abbrev TI:=St->Hp->(It->Hp->Prop)->Prop
noncomputable def PIE(X:Cx)(a8:LA9)(σ:St)(tg:Expr)(R:It->Hp->Prop)(itv:Value)(s2:Shared):Prop:=
 ∃(it:Addr) (fp:List Addr) (tn:Nat->Heap->Prop) (J:It) (H':Hp),itv=.ref it/\Inv X a8 σ H' s2/\Turn X.prog X.w X.K tg J fp it tn/\tn 0 s2.heap/\(∀b∈fp,wZ X a8 H' b)/\R J H'
def PI(X:Cx)(tg ay:Expr)(wi:TI):Prop:=
 ∀(a8:LA9) (s:Shared) (σ:St) (H:Hp) (R:It->Hp->Prop),Inv X a8 σ H s->wi σ H R ->
  wpAny (model X.prog X.w) X.A (eval ay X.env) (λv s1=>wpAny (model X.prog X.w) X.A (pyIter v) (PIE X a8 σ tg R) X.xe s1) X.xe s
theorem vww {M A E s tg it u o n vs Q} (ho : s.heap.get? it = some o) (hc : o.cls = .type n) (hd : o.data = .fields vs)
    (hn : ["enumerate", "zip", "dict_itemiterator", "dict_reverseitemiterator", "odict_iterator", "itertools.zip_longest", "itertools.pairwise"].contains n = false) (hQ : Q () s): wpAny M A (letOwnedTupleGo tg (.ref it) u) Q E s:= by
  cases tg <;> first
    |exact X6 hQ
    |(cases u <;> first
        |exact X6 hQ
        | (refine X0 (wpAny_load ho ?_)
           rw[hc,hd];show wpAny M A (if _ = true then _ else _) Q E s;rw[Xi (by grind)];exact X6 hQ))
def Itl(K:Frag)(a:Addr):It:=
 ⟨λi H=>∃xs x,SqL K H a xs/\xs[i]?=some x,λi H x H'=>H'=H/\∀xs,SqL K H a xs->xs[i]?=some x,λi H=>∃xs,SqL K H a xs/\xs.length<=i⟩
def Itt(K:Frag)(a:Addr):It:=
 ⟨λi H=>∃xs x,SqT K H a xs/\xs[i]?=some x,λi H x H'=>H'=H/\∀xs,SqT K H a xs->xs[i]?=some x,λi H=>∃xs,SqT K H a xs/\xs.length<=i⟩
def Itr(lo:Int)(n:Nat):It:=⟨λi _=>i<n,λi H x H'=>H'=H/\x=.int (lo+i),λi _=>n<=i⟩
theorem qwx{P w K tg}(a it):Turn P w K tg (Itl K a) [it] it (λi h=>h.IsListIter it a i) where
 mem:=by simp
 obj:=λi h st b hb=>by
  have e:b=it:=by simpa using hb
  subst e;obtain⟨o,e,c,d⟩:=st;exact#[o,e,λv z=>by rw[d]at z;cases z]
 keep:=λi h h' st k=>st.at λo e=>k it (by simp) o e
 item:=by
  intro X hP hw hK hc i a8 s σ H E I hf st hg;subst hP hw hK;obtain⟨xs,x,hq,hx⟩:=hg;obtain⟨ac,rv,p,hz⟩:=I.list hq;obtain⟨u,hu,ru⟩:=rv.get hx;obtain⟨f0,f1,f2,f3,f4,f5⟩:=hf it (by simp);refine wpAny_pyNext_list_item st p.isList (by simpa using hu) λh' gi sb=>?_
  have I1:Inv X a8 σ H {s with heap:=h' }:=I.turned (t':=s.toks) (λb o hb e=>(sb.2 b hb).trans e) f0 f1 f3 f4 f5;obtain⟨o,e,c,d⟩:=id gi;exact#[u,rfl,vww e c d ⋯ #[x,H,I1,ru,#[rfl,λys hy=>by rw[I.list_inj hy hq];exact hx],gi,λb hb=>(hf b hb).1]]
 done:=by
  intro X hP hw hK hc i a8 s σ H E I hf st hg;subst hP hw hK;obtain⟨xs,hq,hx⟩:=hg;obtain⟨ac,rv,p,hz⟩:=I.list hq;obtain⟨f0,f1,f2,f3,f4,f5⟩:=hf it (by simp);have hl:=rv.length;exact wpAny_pyNext_list_end (I.ok.hd hc) st p.isList (by simp;lia) λh' eb=>#[rfl,I.turned (t':=s.toks) (λb o hb e=>eb b o hb e) f0 f1 f3 f4 f5]
 self:=λ_ _ _ _ _ st h=>wpAny_pyIter_listiter st h
theorem qv6{P w K tg}(a it):Turn P w K tg (Itt K a) [it] it (λi h=>h.IsTupleIter it a i) where
 mem:=by simp
 obj:=λi h st b hb=>by
  have e:b=it:=by simpa using hb
  subst e;obtain⟨o,e,c,d⟩:=st;exact#[o,e,λv z=>by rw[d]at z;cases z]
 keep:=λi h h' st k=>st.at λo e=>k it (by simp) o e
 item:=by
  intro X hP hw hK hc i a8 s σ H E I hf st hg;subst hP hw hK;obtain⟨xs,x,hq,hx⟩:=hg;obtain⟨ac,rv,p,hz⟩:=I.tuple hq;obtain⟨u,hu,ru⟩:=rv.get hx;obtain⟨f0,f1,f2,f3,f4,f5⟩:=hf it (by simp);refine wpAny_pyNext_tuple_item st (p) (x:=u) (by simpa using hu) λh' gi sb=>?_
  have I1:Inv X a8 σ H {s with heap:=h' }:=I.turned (t':=s.toks) (λb o hb e=>(sb.2 b hb).trans e) f0 f1 f3 f4 f5;obtain⟨o,e,c,d⟩:=id gi;exact#[u,rfl,vww e c d ⋯ #[x,H,I1,ru,#[rfl,λys hy=>by rw[I.tuple_inj hy hq];exact hx],gi,λb hb=>(hf b hb).1]]
 done:=by
  intro X hP hw hK hc i a8 s σ H E I hf st hg;subst hP hw hK;obtain⟨xs,hq,hx⟩:=hg;obtain⟨ac,rv,p,hz⟩:=I.tuple hq;obtain⟨f0,f1,f2,f3,f4,f5⟩:=hf it (by simp);have hl:=rv.length;exact wpAny_pyNext_tuple_end (I.ok.hd hc) st (p) (by simp;lia) λh' eb=>#[rfl,I.turned (t':=s.toks) (λb o hb e=>eb b o hb e) f0 f1 f3 f4 f5]
 self:=λ_ _ _ _ _ st h=>wpAny_pyIter_tupleiter st h
theorem qv7{P w K tg}(it)(lo)(n):Turn P w K tg (Itr lo n) [it] it (λi h=>IsRangeIter h it (lo+(i)*1) ((n) - (i)) 1) where
 mem:=by simp
 obj:=λi h st b hb=>by
  have e:b=it:=by simpa using hb
  subst e;exact#[_,st,λv z=>by
   cases z]
 keep:=λi h h' st k=>k it (by simp) _ st
 item:=by
  intro X hP hw hK hc i a8 s σ H E I hf st hg;subst hP hw hK;obtain⟨f0,f1,f2,f3,f4,f5⟩:=hf it (by simp);refine(Walks.range (prog:=X.prog) (w:=X.w) (I.ok.hd hc) it lo 1 n).item i s _ _ hg st λv h' tk hv gi kk=>?_
  obtain⟨t,rfl⟩:=hv;have I1:Inv X a8 σ H {s with heap:=h',toks:=tk}:=I.turned (λb o hb e=>kk b o (by simpa using hb) e) f0 f1 f3 f4 f5;refine#[_,rfl,vww gi rfl rfl ⋯ #[.int _,H,I1,#[t,?_],#[rfl,rfl],gi,λb hb=>(hf b hb).1]];rw[Int.mul_one]
 done:=by
  intro X hP hw hK hc i a8 s σ H E I hf st hg;obtain⟨f0,f1,f2,f3,f4,f5⟩:=hf it (by simp);exact wpAny_pyNext_range_end (I.ok.hd hc) st (by have:n<=i:=hg;lia) λh' eb=>#[rfl,I.turned (t':=s.toks) (λb o hb e=>eb b o hb e) f0 f1 f3 f4 f5]
 self:=λ_ _ _ _ _ st h=>wpAny_pyIter_rangeiter st h
section
variable {X:Cx}{tg:Expr}
theorem vvm{a8}{σ:St}{H s R E lo hi t u v tk}(I:Inv X a8 σ H s)(h1:-(2 ^ 62)<=lo)(h2:lo<2 ^ 62)(h3:-(2 ^ 62)<=hi)(h4:hi<2 ^ 62)
  (q:R (Itr lo (hi - lo).toNat) H):wpAny (model X.prog X.w) X.A (pyIter (.ref s.heap.objs.size)) (PIE X a8 σ tg R) E {s with heap:=s.heap.push {cls:=.type "range",data:=.fields (List.toArray [.int lo t,.int hi u,.int 1 v])},toks:=tk}:=by
 refine wpAny_pyIter_range (IsRange.new ..) (small_one h1 h2 h3 h4) ?_;have I1:Inv X a8 σ H {s with heap:=s.heap.push {cls:=.type "range",data:=.fields (List.toArray [.int lo t,.int hi u,.int 1 v])},toks:=tk}:=I.kept λb o e=>X2 _ e
 refine#[(s.heap.push {cls:=.type "range",data:=.fields (List.toArray [.int lo t,.int hi u,.int 1 v])}).objs.size,[(s.heap.push {cls:=.type "range",data:=.fields (List.toArray [.int lo t,.int hi u,.int 1 v])}).objs.size],_,_,H,rfl,
  I1.kept (t':=tk) λb o e=>X2 _ e,qv7 _ lo (hi - lo).toNat,?_,λb hb=>?_,q]
 ·have e1:lo+((0:Nat):Int)*1=lo:=by simp
  have e2:(((hi - lo).toNat:Nat):Int) - ((0:Nat):Int)=Builtin.Range.rangeSize lo hi 1:=by rw[rangeSize_one];split<;>lia
  rw[e1,e2];exact X9 _ rfl
 ·have e:b=(s.heap.push {cls:=.type "range",data:=.fields (List.toArray [.int lo t,.int hi u,.int 1 v])}).objs.size:=by simpa using hb
  subst e;exact I1.fpOk (Xa _) (I1.hok.fresh (Xa _))
abbrev xvw(ta:TA):TI:=fun σ H R=>ta σ H λvs H1=>∃j:Int,vs=[.int j]/\-(2 ^ 62)<=j/\j<2 ^ 62/\R (Itr 0 j.toNat) H1
theorem qzo{a ta p pos}(hg:Gl X "range")(hm:X.mg "range"=none)(ha:PA X [a] ta)(hs:autoParam (starEach [a] X.env=[(false,eval a X.env)]) Ŕ):PI X tg (.Call (.Name "range" p) [a] [] pos) (xvw ta):=by
 intro a8 s σ H R I h;refine Call_ (J6 I hg hm boot_range (Y1 (thn (ha pos a8 s σ H _ I h) λus s1 hz=>?_) hs rfl));obtain⟨vs,H1,I1,r1,q1⟩:=hz;obtain⟨j,e,q1,q2,q⟩:=q1;subst e;cases r1 with
 |cons r rr=>
  cases rr;obtain⟨t,rfl⟩:=r;exact call_range_1 (vvm I1 ⋯ ⋯ q1 q2 (by simpa using q))
abbrev tFor(wi:TI)(g:TG)(tb:TS):TS:=λD σ H=>wi σ H λJ H1=>∃W:Nat->Nat->St->Hp->Prop,(∃m,W 0 m σ H1)/\∀i m σ H,W i m σ H ->
 (J.stop i H/\D.nx σ H)\/(J.go i H/\∃N:St->Hp->Prop,(∀ σ' H',N σ' H'->∃m',m'<m/\W (i+1) m' σ' H')/\∀x H',J.yld i H x H'->g x σ H' fun σ2 H2=>tb {D with nx:=N,ct:=N,bk:=D.nx} σ2 H2)
def Qw(fp:List Addr)(h:Heap):LA9:=fp.filterMap λb=>(h.get? b).map λo=>(b,o)
theorem jzc{fp h b o}(hb:b∈fp)(e:h.get? b=some o):(b,o)∈Qw fp h:=List.mem_filterMap.mpr #[b,hb,by rw[e];rfl]
theorem kxg{fp h p}(hp:p∈Qw fp h):p.1∈fp/\h.get? p.1=some p.2:=by
 obtain⟨b,hb,e⟩:=List.mem_filterMap.mp hp;cases q:h.get? b with
 |none=>rw[q]at e;cases e
 |some o=>
  rw[q]at e;have e':=oq9 e;subst e';exact#[hb,q]
theorem Inv.pinned{a8}{σ:St}{H s fp}(I:Inv X a8 σ H s)(hf:∀b∈fp,wZ X a8 H b)(ho:∀b∈fp,∃o,s.heap.get? b=some o/\∀v,o.data≠.cell v):Inv X (a8++Qw fp s.heap) σ H s:=
 I.pins_of λp hp=>(aA hp).elim (λz=>I.pin p (lr9 _ z)) λz=>by
  obtain⟨hb,e⟩:=kxg z;obtain⟨f0,f1,f2,_⟩:=hf p.1 hb;obtain⟨o,e',d⟩:=ho p.1 hb;rw[e]at e';cases e';exact#[e,f0,f1,f2,d]
theorem Inv.unpinned{a8 pl}{σ:St}{H s}(I:Inv X (a8++pl) σ H s):Inv X a8 σ H s:=I.pins_of λp hp=>I.pin p (lr9 _ (ll9 _ hp))
set_option tactic.hygienic true in
theorem wxp{ay:Expr}{body:List Stmt}{wi:TI}{g:TG}{tb:TS}{pos:Pos}(hp:PassesOwn (model X.prog X.w) X.A X.env X.xe)(hc:X.calm=true)(hi:PI X tg ay wi)(hg:PG X tg g)(hb:PSs X body tb)
  (hs:autoParam (∀x,foldedSetIterable ay X.env x=pure x) Ŗ):PS X (.For tg ay body [] pos) (tFor wi g tb):=by
 intro a8 s σ H D I h;refine wpAny_For (thn (hi a8 s σ H _ I h) λv s1 h1=>thn h1 λitv s2 h2=>?_) hs;obtain⟨it,fp,tn,J,H2,e,I2,T,ca,f2,W,⟨m0,w0⟩,gb⟩:=h2;subst e;have je:∀{H':Hp},(∀b∈fp,H' b=none)->∀b∈fp,wZ X a8 H' b:=λhn b hb=>#[hn b hb,(f2 b hb).2]
 refine codeAny_forLoop_any (λn s'=>∃i σ' H',Inv X a8 σ' H' s'/\tn i s'.heap/\(∀b∈fp,H' b=none)/\W i n σ' H') ?_ m0 #[0,σ,H2,I2,ca,λb hb=>(f2 b hb).1,w0];rintro n s3 ⟨i,σ3,H3,I3,dy,oq,w3⟩;rcases gb i n σ3 H3 w3 with⟨stop,qn⟩|⟨go,N,hN,step⟩
 ·refine Zd hp (thn (T.done X rfl rfl rfl hc i a8 s3 σ3 H3 X.xe I3 (je oq) dy stop) λr s4 #[hr,I4]=>?_);subst hr;exact wpAny_execs_nil #[σ3,H3,I4,qn]
 ·refine Zd hp (thn (T.item X rfl rfl rfl hc i a8 s3 σ3 H3 X.xe I3 (je oq) dy go) λr s4 #[u,hr,h4]=>?_);subst hr;refine Zd hp (thn h4 λ_ s5 #[x,H5,I5,r5,y5,ng,fr5]=>?_);have I5':=I5.pinned (je fr5) (T.obj _ _ ng);refine Zd hp (thn (hg _ s5 σ3 H5 x u _ I5' r5 (step x H5 y5)) λ_ s6 #[σ6,H6,I6,q6]=>?_);refine Zd hp (thn (hb _ s6 σ6 H6 _ I6 q6) λf s7 q7=>?_);have again:∀{σ7:St} {H7:Hp},Inv X (a8++Qw fp s5.heap) σ7 H7 s7->N σ7 H7->∃m,m<n/\∃i σ' H',Inv X a8 σ' H' s7/\tn i s7.heap/\(∀b∈fp,H' b=none)/\W i m σ' H':=fun {σ7 H7} I7 n7=>by
   obtain⟨m',hm,w7⟩:=hN σ7 H7 n7;refine#[m',hm,i+1,σ7,H7,I7.unpinned,T.keep _ _ _ ng λb hb o e=>(I7.pin (b,o) (lr9 _ (lr9 _ (jzc hb e)))).1,λb hb=>?_,w7];obtain⟨o,e,d⟩:=T.obj _ _ ng b hb;exact(I7.pin (b,o) (lr9 _ (lr9 _ (jzc hb e)))).2.1
  cases f with|next=>obtain⟨σ7,H7,I7,n7⟩:=q7;exact again I7 n7|cont=>obtain⟨σ7,H7,I7,n7⟩:=q7;exact again I7 n7|brk=>obtain⟨σ7,H7,I7,q7⟩:=q7;exact#[σ7,H7,I7.unpinned,q7]|ret v=>obtain⟨x7,σ7,H7,I7,r7,q7⟩:=q7;exact#[x7,σ7,H7,I7.unpinned,r7,q7]
end
abbrev R2:=V->V->Hp->VK->Prop
def OpR(X:Cx)(f:Value->Value->Sem Value)(r:R2):Prop:=
 ∀(a8:LA9) (s:Shared) (σ:St) (H:Hp) (x y:V) (v u:Value) (Q:VK),Inv X a8 σ H s->RelV x v->RelV y u->r x y H Q ->
  wpAny (model X.prog X.w) X.A (f v u) (EP X a8 σ Q) X.xe s
def UnR(X:Cx)(f:Value->Sem Value)(r:V->Hp->VK->Prop):Prop:=
 ∀(a8:LA9) (s:Shared) (σ:St) (H:Hp) (x:V) (v:Value) (Q:VK),Inv X a8 σ H s->RelV x v->r x H Q ->
  wpAny (model X.prog X.w) X.A (f v) (EP X a8 σ Q) X.xe s
def CallR(X:Cx)(f:Value)(r:List V->Hp->VK->Prop):Prop:=
 ∀(a8:LA9) (s:Shared) (σ:St) (H:Hp) (xs:List V) (us:List Value) (Q:VK),Inv X a8 σ H s->Vals xs us->r xs H Q ->
  wpAny (model X.prog X.w) X.A (call f us) (EP X a8 σ Q) X.xe s
def TruR(X:Cx)(r:V->Hp->(Bool->Hp->Prop)->Prop):Prop:=
 ∀(a8:LA9) (s:Shared) (σ:St) (H:Hp) (x:V) (v:Value) (Q:Bool->Hp->Prop),Inv X a8 σ H s->RelV x v->r x H Q ->
  wpAny (model X.prog X.w) X.A (truthy v) (TP X a8 σ Q) X.xe s
abbrev tOp(r:R2)(ta tb:TE):TE:=fun σ H Q=>ta σ H λx H1=>tb σ H1 λy H2=>r x y H2 Q
abbrev tUn(r:V->Hp->VK->Prop)(ta:TE):TE:=fun σ H Q=>ta σ H λx H1=>r x H1 Q
def rI(C:Int->Int->Prop)(g:Int->Int->V):R2:=λx y H Q=>∃i j,x=.int i/\y=.int j/\C i j/\Q (g i j) H
def rI0(g:Int->Int->V):R2:=λx y H Q=>∃i j,x=.int i/\y=.int j/\Q (g i j) H
def rU(g:Int->V):V->Hp->VK->Prop:=λx H Q=>∃i,x=.int i/\Q (g i) H
section
variable {X:Cx}{a b c:Expr}{ta tb tc:TE}{pos:Pos}
theorem xwe(ha:PE X a ta)(hb:PE X b tb){a8 s}{σ:St}{H}{R:V->V->Hp->Prop}(I:Inv X a8 σ H s)
  (h:ta σ H λx H1=>tb σ H1 λy H2=>R x y H2) {Q} {f:Value->Value->Sem Value}
  (hf:∀v u s2 x y H2,Inv X a8 σ H2 s2->RelV x v->RelV y u->R x y H2->wpAny (model X.prog X.w) X.A (f v u) Q X.xe s2):
  wpAny (model X.prog X.w) X.A (eval a X.env) (λv s₁=>wpAny (model X.prog X.w) X.A (eval b X.env) (λu s₂=>wpAny (model X.prog X.w) X.A (f v u) Q X.xe s₂) X.xe s₁) X.xe s:=by
 exact thn (ha a8 s σ H _ I h) λv s1 #[x,H1,I1,r1,q1]=>(thn (hb a8 s1 σ H1 _ I1 q1) λu s2 #[y,H2,I2,r2,q2]=>(hf v u s2 x y H2 I2 r1 r2 q2))
theorem xvd{op r}(ho:OpR X (binaryOp op) r)(ha:PE X a ta)(hb:PE X b tb):PE X (.BinOp a op b pos) (tOp r ta tb):=by
 intro a8 s σ H Q I h;exact wpAny_BinOp (xwe ha hb I h λv u s2 x y H2 I2 rx ry q=>ho a8 s2 σ H2 x y v u Q I2 rx ry q)
theorem xvc{op r}(ho:UnR X (unaryOp op) r)(ha:PE X a ta):PE X (.UnaryOp op a pos) (tUn r ta):=by
 intro a8 s σ H Q I h;exact UnaryOp_ (thn (ha a8 s σ H _ I h) λv s1 hz=>by obtain⟨x,H1,I1,r1,q1⟩:=hz;exact ho a8 s1 σ H1 x v Q I1 r1 q1)
theorem opI{f C}{g:Int->Int->Int}
  (rule:∀i j (t u) s Q E,C i j->Q (.int (g i j) s.toks) {s with toks:=s.toks+1}->wpAny (model X.prog X.w) X.A (f (.int i t) (.int j u)) Q E s):
  OpR X f (rI C λi j=>.int (g i j)):=by
 rintro a8 s σ H x y v u Q I rx ry ⟨i,j,rfl,rfl,hc,q⟩;obtain⟨t,rfl⟩:=rx;obtain⟨t',rfl⟩:=ry;exact rule i j t t' s _ _ hc #[.int _,H,I.tok _,#[_,rfl],q]
theorem xx4{f}{g:Int->Int->Int}
  (rule:∀i j (t u) s Q E,Q (.int (g i j) s.toks) {s with toks:=s.toks+1}->wpAny (model X.prog X.w) X.A (f (.int i t) (.int j u)) Q E s):
  OpR X f (rI0 λi j=>.int (g i j)):=by
 rintro a8 s σ H x y v u Q I rx ry ⟨i,j,rfl,rfl,q⟩;obtain⟨t,rfl⟩:=rx;obtain⟨t',rfl⟩:=ry;exact rule i j t t' s _ _ #[.int _,H,I.tok _,#[_,rfl],q]
theorem xq0{f}{g:Int->Int->Bool}
  (rule:∀i j (t u) (s) (Q) (E),Q (.bool (g i j)) s->wpAny (model X.prog X.w) X.A (f (.int i t) (.int j u)) Q E s):
  OpR X f (rI0 λi j=>.bl (g i j)):=by
 rintro a8 s σ H x y v u Q I rx ry ⟨i,j,rfl,rfl,q⟩;obtain⟨t,rfl⟩:=rx;obtain⟨t',rfl⟩:=ry;exact rule i j t t' s _ _ #[.bl _,H,I,rfl,q]
theorem op_add:OpR X (binaryOp .Add) (rI0 λi j=>.int (i+j)):=xx4 λ_ _ _ _ _ _ _ q=>add_int q
theorem kx8:OpR X (binaryOp .Sub) (rI0 λi j=>.int (i - j)):=xx4 λ_ _ _ _ _ _ _ q=>sub_int q
theorem wzc:OpR X (binaryOp .Mod) (rI (λ_ j=>0<j) λi j=>.int (i % j)):=opI λi j _ _ _ _ _ hc q=>by
 exact mod_int' ⋯ (by rw[Int.fmod_eq_emod_of_nonneg i ⋯];exact q)
theorem unI{f}{g:Int->Int}
  (rule:∀i t s Q E,Q (.int (g i) s.toks) {s with toks:=s.toks+1}->wpAny (model X.prog X.w) X.A (f (.int i t)) Q E s):
  UnR X f (rU λi=>.int (g i)):=by
 rintro a8 s σ H x v Q I rx ⟨i,rfl,q⟩;obtain⟨t,rfl⟩:=rx;exact rule i t s _ _ #[.int _,H,I.tok _,#[_,rfl],q]
theorem ww3:UnR X (unaryOp .USub) (rU λi=>.int (-i)):=unI λ_ _ _ _ _ q=>neg_int q
end
section
variable {X:Cx}{a b c:Expr}{ta tb tc:TE}{pos:Pos}
theorem vkk{a8}{σ:St}{H s Q k k'}(I:Inv X a8 σ H s)(q:Q (.bl k) H)(e:k=k'):EP X a8 σ Q (.bool k') s:=by
 subst e;exact#[.bl k,H,I,rfl,q]
theorem wkv:OpR X (compareOp .Lt) (rI0 λi j=>.bl (decide (i<j))):=xq0 λ_ _ _ _ _ _ _ q=>lt_int q
theorem W9:OpR X (compareOp .LtE) (rI0 λi j=>.bl (decide (i<=j))):=xq0 λ_ _ _ _ _ _ _ q=>le_int q
theorem xvh:OpR X (compareOp .Gt) (rI0 λi j=>.bl (decide (j<i))):=xq0 λ_ _ _ _ _ _ _ q=>gt_int q
theorem xvi:OpR X (compareOp .GtE) (rI0 λi j=>.bl (decide (j<=i))):=xq0 λ_ _ _ _ _ _ _ q=>ge_int q
theorem qzw:OpR X (compareOp .In) (λx y H Q=>∃i j,x=.str i/\y=.str j/\Q (.bl (!(Builtin.Str.occurrences j i 0 j.length 1).isEmpty)) H):=by
 rintro a8 s σ H x y v u Q I rx ry ⟨i,j,rfl,rfl,q⟩;obtain⟨t,rfl⟩:=rx;obtain⟨t',rfl⟩:=ry;exact in_str (vkk I q rfl)
theorem wzd:OpR X (compareOp .Is) (λx y H Q=>y=.non/\Q (.bl (decide (x=.non))) H):=by
 rintro a8 s σ H x y v u Q I rx ry ⟨rfl,q⟩;cases ry;refine is_none_gen (vkk I q ?_);cases x<;>first
  |(obtain⟨t,rfl⟩:=rx;rfl)
theorem wku:OpR X (compareOp .IsNot) (λx y H Q=>y=.non/\Q (.bl (!decide (x=.non))) H):=by
 rintro a8 s σ H x y v u Q I rx ry ⟨rfl,q⟩;cases ry;refine isnot_none_gen (vkk I q ?_);cases x<;>first
  |(obtain⟨t,rfl⟩:=rx;rfl)
theorem OpR.or{f r r'}(h:OpR X f r)(h':OpR X f r'):OpR X f (λx y H Q=>r x y H Q\/r' x y H Q):=by
 intro a8 s σ H x y v u Q I rx ry q;rcases q with q|q
 ·exact h a8 s σ H x y v u Q I rx ry q
 ·exact h' a8 s σ H x y v u Q I rx ry q
theorem z5 b {op}(h:autoParam (op≠.In) ŕ)(h2:autoParam (op≠.NotIn) ŕ):behindInMarks op b=false:=by
 have e1:(op==CmpOp.In)=false:=by cases op<;>first|rfl|exact absurd rfl h
 have e2:(op==CmpOp.NotIn)=false:=by cases op<;>first|rfl|exact absurd rfl h2
 cases b<;>simp[behindInMarks,e1,e2]
theorem wkp{op r}(ho:OpR X (compareOp op) r)(ha:PE X a ta)(hb:PE X b tb)(hm:behindInMarks op b=false):PE X (.Compare a [op] [b] pos) (tOp r ta tb):=by
 intro a8 s σ H Q I h;exact wpAny_Compare1 (xwe ha hb I h λv u s2 x y H2 I2 rx ry q=>ho a8 s2 σ H2 x y v u Q I2 rx ry q) hm
abbrev ww7(t:TE):TT:=fun σ H Q=>t σ H λx H'=>∃k,x=.bl k/\Q k H'
theorem wkb{op r}(ho:OpR X (compareOp op) r)(ha:PE X a ta)(hb:PE X b tb)(hm:behindInMarks op b=false):PT X (.Compare a [op] [b] pos) (ww7 (tOp r ta tb)):=by
 intro a8 s σ H Q I h;refine wpAny_isTrue_Compare1 (thn (ha a8 s σ H _ I h) λv s1 #[x,H1,I1,r1,q1]=>thn (hb a8 s1 σ H1 _ I1 q1) λu s2 #[y,H2,I2,r2,q2]=>
  thn (ho a8 s2 σ H2 x y v u _ I2 r1 r2 q2) λc s3 #[z,H3,I3,r3,k,e,q3]=>?_) hm
 subst e;cases r3;exact Ze #[H3,I3,q3]
abbrev vxt(r r':R2)(ta tb tc:TE):TE:=fun σ H Q=>ta σ H λx H1=>tb σ H1 λy H2=>r x y H2 λz H3=>∃k,z=.bl k /\
 (if k=true then tc σ H3 λw' H4=>r' y w' H4 Q else Q (.bl false) H3)
theorem vvw{op op' r r'}(ho:OpR X (compareOp op) r)(ko:OpR X (compareOp op') r')(ha:PE X a ta)(hb:PE X b tb)(hc:PE X c tc)
  (hm:lastMarks [op,op'] [b,c]=false:=by ac_rfl):PT X (.Compare a [op,op'] [b,c] pos) (ww7 (vxt r r' ta tb tc)):=by
 intro a8 s σ H Q I h;refine isTrue_chain (thn (ha a8 s σ H _ I h) λv s1 #[x,H1,I1,r1,q1]=>test_link (thn (hb a8 s1 σ H1 _ I1 q1) λu s2 #[y,H2,I2,r2,q2]=>
  thn (ho a8 s2 σ H2 x y v u _ I2 r1 r2 q2) λd s3 #[z,H3,I3,r3,k,e,q3]=>?_)) hm
 subst e;cases r3;refine Ze ?_;cases k with
 |false=>
  obtain⟨k',e',q'⟩:=q3;cases e';exact ite_ff #[H3,I3,q']
 |true=>
  refine ite_tt (test_last (thn (hc a8 s3 σ H3 _ I3 q3) λw' s4 #[z',H4,I4,r4,q4]=>thn (ko a8 s4 σ H4 y z' u w' _ I4 r2 r4 q4) λd' s5 #[z2,H5,I5,r5,k2,e2,q5]=>?_));subst e2;cases r5;exact Ze #[H5,I5,q5]
noncomputable def xq7(K:Frag)(x:V)(H:Hp)(k:Bool):Prop:=
 match x with
 |.non=>k=false|.bl b=>k=b|.int i=>k=(i != 0)|.str y=>y.length<=sizeLine/\k=((y.length:Int) != 0)|.byt y=>y.size<=sizeLine/\k=((y.size:Int) != 0)|.ref p=>(∃xs,SqL K H p xs/\k=!xs.isEmpty)\/(∃xs,SqT K H p xs/\k=!xs.isEmpty)\/∃kvs,H p=some (.dK kvs)/\k=!kvs.isEmpty|_=>False
theorem qvw{κ kvs}{vs:List (κ×Value)}(r:KV kvs vs):(!vs.isEmpty)=!kvs.isEmpty:=by
 cases r<;>rfl
theorem kqg{xs ac}(r:Vals xs ac):(!ac.toArray.isEmpty)=!xs.isEmpty:=by
 cases r<;>simp
theorem Wj:(sizeLine)<2 ^ 63:=⋯
theorem vxr:TruR X (λx H Q=>∃k,xq7 X.K x H k/\Q k H):=by
 rintro a8 s σ H x v Q I rx ⟨k,e,q⟩;have hl:=Wj;have hs:sizeLine=16777216:=sizeLine_eq;cases x with
 | non=>
  cases rx;have e':k=false:=e;subst e';exact truthy_none #[H,I,q]
 | bl b=>
  cases rx;have e':k=b:=e;subst e';exact Ze #[H,I,q]
 | int i=>
  obtain⟨t,rfl⟩:=rx;have e':k=(i != 0):=e;subst e';exact PySem.P.truthy_int #[H,I,q]
 | str y=>
  obtain⟨t,rfl⟩:=rx;obtain⟨hy,e'⟩:y.length<=sizeLine/\k=((y.length:Int) != 0):=e;subst e';exact PySem.P.truthy_str ⋯ #[H,I.tok _,q]
 | byt y=>
  obtain⟨t,rfl⟩:=rx;obtain⟨hy,e'⟩:y.size<=sizeLine/\k=((y.size:Int) != 0):=e;subst e';exact PySem.W.truthy_bytes ⋯ #[H,I.tok _,q]
 | ref p=>
  cases rx;have e':(∃xs,SqL X.K H p xs/\k=!xs.isEmpty)\/(∃xs,SqT X.K H p xs/\k=!xs.isEmpty)\/∃kvs,H p=some (.dK kvs)/\k=!kvs.isEmpty:=e;rcases e' with⟨xs,hx,e'⟩|⟨xs,hx,e'⟩|⟨kvs,hx,e'⟩
  ·subst e';obtain⟨ac,r,pl,hz⟩:=I.list hx;have ai:=r.length;exact wpAny_truthy_list pl.isList (by simp only[X8];lia) #[H,I.tok _,by rw[kqg r];exact q]
  ·subst e';obtain⟨ac,r,pl,hz⟩:=I.tuple hx;have ai:=r.length;exact truthy_tuple pl (by simp only[X8];lia) #[H,I.tok _,by rw[kqg r];exact q]
  ·subst e';obtain⟨hz,hS,vs,r,m⟩:kvs.length<=sizeLine/\(p==sysModules)=false/\∃vs,KV kvs vs/\s.heap.DictOf (xj X.prog X.w) p vs:=I.hok p _ hx;have ai:kvs.length=vs.length:=Paired.length r;exact wpAny_truthy_dict hS m ⋯ #[H,I.tok _,by rw[qvw r];exact q]
 |_=>exact(show False from e).elim
theorem vvv(ha:PE X a ta)(he:∀gf,isTrue a X.env gf=(do let v <-gf;standAt a.pos;holding [v] (truthy v))):
  PT X a (fun σ H Q=>ta σ H λx H'=>∃k,xq7 X.K x H' k/\Q k H'):=by
 intro a8 s σ H Q I h;exact isTrue_plain (thn (ha a8 s σ H _ I h) λv s1 hz=>by obtain⟨x,H1,I1,r1,q1⟩:=hz;exact vxr a8 s1 σ H1 x v Q I1 r1 q1) (he _)
theorem op_add_str:OpR X (binaryOp .Add) (λx y H Q=>∃i j,x=.str i/\y=.str j/\i.length+j.length<=sizeLine/\Q (.str (i++j)) H):=by
 rintro a8 s σ H x y v u Q I rx ry ⟨i,j,rfl,rfl,hz,q⟩;obtain⟨t,rfl⟩:=rx;obtain⟨t',rfl⟩:=ry;exact add_str (λt' tk=>#[.str (i++j),H,I.tok _,#[_,rfl],q]) hz
theorem xv{x us}(r:Vals [x] us):∃u,us=[u]/\RelV x u:=by
 cases r with|cons r1 r2=>cases r2;exact#[_,rfl,r1]
theorem vv2{x y us}(r:Vals [x,y] us):∃u w',us=[u,w']/\RelV x u/\RelV y w':=by
 cases r with
 |cons r1 r2=>
  cases r2 with|cons r3 r4=>cases r4;exact#[_,_,rfl,r1,r3]
theorem vq5(hc:X.calm=true):CallR X (.builtin "min") (λxs H Q=>∃i j,xs=[.int i,.int j]/\Q (.int (if j<i then j else i)) H):=by
 intro a8 s σ H xs us Q I r h;obtain⟨i,j,rfl,q⟩:=h;obtain⟨u,w',rfl,⟨t,rfl⟩,⟨t',rfl⟩⟩:=vv2 r;refine min_two_ints (I.ok.hd hc) λh' tk k=>#[_,H,I.kept k,?_,q]
 by_cases hj:j<i
 ·rw[Xd hj,Xd hj];exact#[_,rfl]
 ·rw[Xi hj,Xi hj];exact#[_,rfl]
theorem vqa:CallR X (.type "int") (λxs H Q=>(∃i,xs=[.int i]/\Q (.int i) H)\/∃k,xs=[.bl k]/\Q (.int (if k then 1 else 0)) H):=by
 intro a8 s σ H xs us Q I r h;rcases h with⟨i,rfl,q⟩|⟨k,rfl,q⟩
 ·obtain⟨u,rfl,t,rfl⟩:=xv r;exact call_int_int #[.int i,H,I,#[_,rfl],q]
 ·obtain⟨u,rfl,r1⟩:=xv r;cases r1;exact call_int_bool #[.int _,H,I.tok _,#[_,rfl],q]
end
structure ObjM (h:Heap)(x dx C:Addr)(mA:Str->Option Value):Prop where
 obj:h.get? x=some (PySem.W.instObj C dx)
 ns:h.Ns1 dx mA
 ne:dx≠x
set_option tactic.hygienic true in
theorem vjd{h:Heap}{dx mA}(n:h.Ns1 dx mA):∃od,h.get? dx=some od/\∀name,PySem.W.lookIn name od=some (mA name):=by
 obtain⟨o,es,ep,ho,hd,hk,_,hm⟩:=n;refine#[o,ho,λname=>?_];have e:=hm name;unfold nsFind findBy at e;rw[<-Array.find?_toList]at e;unfold PySem.W.lookIn;rw[hd];dsimp only
 split
 ·rename_i y q;rw[q]at e;exact congrArg some e
 ·rename_i q;have a:es.toList.any (·.refKey)=false:=by
   rw[List.any_eq_false];intro y hy;obtain⟨z,t,kg⟩:=hk y (Array.mem_toList_iff.mp hy);simp[DictEntry.refKey,kg]
  grind
theorem ObjM.look{h x dx C mA}(I:ObjM h x dx C mA):∃od,PySem.W.InstAt h x (PySem.W.instObj C dx) C (some od)/\∀name,PySem.W.lookIn name od=some (mA name):=
 let ⟨od,ho,hl⟩:=vjd I.ns
 #[od,#[I.obj,rfl,rfl,ho],hl]
theorem RelO.some_of{v o}(r:RelO (some v) o):∃u,o=some u/\RelV v u:=by
 cases o with|none=>exact(r).elim|some u=>exact#[u,rfl,r]
section
variable {P:Program}{w:World}{H H':Hp}{h h':Heap}{a C dx:Addr}{fs fs':List (Str×V)}
theorem wqg(hok:HOk P w H h)(e:H a=some (.ins C dx fs)):∃mA,ObjM h a dx C mA/\(∀f,RelO (fs.lookup f) (mA f))/\PySem.Within mA (fs.map (·.1))/\fs.length<=1000/\H dx=some (.own a):=by
 obtain⟨d,z,ne,ob,mA,n,r,q⟩:=(hok a _ e);exact#[mA,#[ob,n,ne],r,q,z,d]
end
structure Cls (K:Frag)(C:Addr):Prop where
 pg:PySem.W.plainGet K C Str.empty=true
 hd:PySem.W.hasDictIn K C=true
 po:PySem.W.plainOver K C=true
 sa:findIn K (.ref C) "__setattr__"=some (some (.builtin "object.__setattr__"))
theorem Cls.get{K C}(c:Cls K C) f:PySem.W.plainGet K C f=true:=c.pg
section
variable {X:Cx}{a8:LA9}{σ:St}{H:Hp}{s:Shared}{A:Around}{E:VP9}{Q:VP9}{c:Value}{b:Bool}
inductive TyOf (K:Frag)(H:Hp):V->Value->Prop where
 | non:TyOf K H .non (.type "NoneType")
 | bl (x:Bool):TyOf K H (.bl x) (.type "bool")
 | int (i:Int):TyOf K H (.int i) (.type "int")
 | str (x:Str):TyOf K H (.str x) (.type "str")
 | flt (x:UInt64):TyOf K H (.flt x) (.type "float")
 | lst {a:Addr} {xs:List V} (e:H a=some (.lst xs)):TyOf K H (.ref a) (.type "list")
 | frz {a:Addr} {o:Obj} {xs:List V} (e:H a=some (.frz o (.lst xs))):TyOf K H (.ref a) (.type "list")
 | tup {a:Addr} {xs:List V} (e:H a=some (.tup xs)):TyOf K H (.ref a) (.type "tuple")
 | dK {a:Addr} {kvs:List (Key×V)} (e:H a=some (.dK kvs)):TyOf K H (.ref a) (.type "dict")
 | dT {a:Addr} {kvs:List (List Key×V)} (e:H a=some (.dT kvs)):TyOf K H (.ref a) (.type "dict")
 | ins {a C dx:Addr} {fs:List (Str×V)} (e:H a=some (.ins C dx fs)) (cl:Cls K C) (ha:findIn K (.ref C) "__class__"=some (some (.builtin "object.__class__")))
   (hn:PySem.W.specialIn K (.builtin "object.__class__") "__get__"=some (some (.builtin "getset_descriptor.__get__"))) (pe:PySem.W.takesIn K (.builtin "object.__class__")=some true)
   (hm:PySem.W.mroIn K C (.type "object")=some true):TyOf K H (.ref a) (.ref C)
theorem vjv{x u t}(I:Inv X a8 σ H s)(rx:RelV x u)(ty:TyOf X.K H x t)(e:kitOne X.K t c=some b)(h:∀tk,Q (.bool b) {s with toks:=tk}):
  wpAny (model X.prog X.w) A (call (.builtin "isinstance") [u,c]) Q E s:=by
 cases ty with
 |non=>cases(rx);exact Yf PySem.W.kitx_none I.kIn Zh e (λz=>nomatch z) h|bl y=>cases(rx);exact Yf PySem.W.kitx_bool I.kIn Zh e (λz=>nomatch z) h|int i=>obtain⟨t,q⟩:=(rx);cases q;exact Yf PySem.W.kitx_int I.kIn Zh e (λz=>nomatch z) h|str y=>obtain⟨t,q⟩:=(rx);cases q;exact Yf PySem.W.kitx_str I.kIn Zh e (λz=>nomatch z) h|flt y=>obtain⟨t,q⟩:=(rx);cases q;exact Yf PySem.W.kitx_float I.kIn Zh e (λz=>nomatch z) h
 |@lst a xs ea=>
  cases(show u=Value.ref a from rx);obtain⟨_,_,n,_,h1⟩:=(I.hok a _ ea);exact Yf PySem.W.kitx_list I.kIn #[_,h1,rfl] e (λz=>nomatch z) h
 |@frz a ob xs ea=>
  cases(rx);obtain⟨_,_,_,n,_,h1⟩:=(I.hok a _ ea);exact Yf PySem.W.kitx_list I.kIn #[_,h1,rfl] e (λz=>nomatch z) h
 |@tup a xs ea=>
  cases(show u=Value.ref a from rx);obtain⟨_,_,_,p⟩:=(I.hok a _ ea);obtain⟨o,h1,h2,_⟩:=p;exact Yf PySem.W.kitx_tuple I.kIn #[o,h1,h2] e (λz=>nomatch z) h
 |@dK a kvs ea=>
  cases(show u=Value.ref a from rx);obtain⟨_,_,vs,_,p⟩:=(I.hok a _ ea);obtain⟨o,es,ep,h1,h2,_⟩:=p;exact Yf PySem.W.kitx_dict I.kIn #[o,h1,h2.1] e (λz=>nomatch z) h
 |@dT a kvs ea=>
  cases(show u=Value.ref a from rx);obtain⟨_,_,xs,_,o,es,ep,h1,h2,_⟩:=(I.hok a _ ea);exact Yf PySem.W.kitx_dict I.kIn #[o,h1,h2.1] e (λz=>nomatch z) h
 |@ins a C dx fs ea cl ha hn pe hm=>
  cases(rx);obtain⟨mA,O,_⟩:=wqg I.hok ea;obtain⟨od,J,_⟩:=O.look;exact Yf (PySem.W.kitx_own (cl.get _) cl.hd ha hn pe hm) I.kIn J e (λz=>nomatch z) h
end
structure Room (k:Nat)(A:Around):Prop where
 hd:A.handled=none
 dp:A.depth+3*k+5<recursionLimit
 un:A.units+16*k+200<cLine
 gd:A.guards=some []
theorem Room.mono{j k A}(r:Room k A)(h:j<=k):Room j A:=#[r.hd,by have:=r.dp;lia,by have:=r.un;lia,r.gd]
theorem Room.deeper{k A}(r:Room (k+1) A) env:Room k (A.deeper env):=
 #[r.hd,by have:=r.dp;show A.depth+1+3*k+5<_;lia,by have:=r.un;show A.units+3+16*k+200<_;lia,r.gd]
theorem Room.depth{k A}(r:Room k A):A.depth<recursionLimit:=by have:=r.dp;lia
theorem Room.units{k A}(r:Room k A):A.units+64<cLine:=by have:=r.un;lia
abbrev xqf:TA:=λ_ H Q=>Q [] H
abbrev wjk(ta:TE)(tr:TA):TA:=fun σ H Q=>ta σ H λx H1=>tr σ H1 λxs H2=>Q (x::xs) H2
section
variable {X:Cx}{e:Expr}{es:List Expr}{te:TE}{t:TA}{pos:Pos}
theorem wQ:PA X [] xqf:=λ_ _ _ _ H Q I h=>Calls.spliced_nil #[[],H,I,.nil,h]
abbrev _root_.Abs(e:Expr)(es:List Expr)(X:Cx):Prop:=starEach (e::es) X.env=(false,eval e X.env)::starEach es X.env
theorem vZ(ha:PE X e te)(hr:PA X es t)(hs:autoParam (Abs e es X) Ŕ):PA X (e::es) (wjk te t):=by
 intro pos a8 s σ H Q I h;rw[hs];exact Calls.spliced_cons (thn (ha a8 s σ H _ I h) λu s1 hz=>by obtain⟨x,H1,I1,r1,q1⟩:=hz;exact(thn (hr pos a8 s1 σ H1 _ I1 q1) λus s2 hz=>by obtain⟨xs,H2,I2,r2,q2⟩:=hz;exact#[x::xs,H2,I2,.cons r1 r2,q2]))
abbrev tTup(t:TA):TE:=fun σ H Q=>t σ H λxs H1=>xs.length<=sizeLine/\∀p,H1 p=none->Q (.ref p) (upd H1 p (.tup xs))
abbrev tLst(t:TA):TE:=fun σ H Q=>t σ H λxs H1=>xs.length<=sizeLine/\∀p,H1 p=none->Q (.ref p) (upd H1 p (.lst xs))
theorem wxy{x1}(h:PA X es t):PE X (.Tuple es x1 pos) (tTup t):=by
 intro a8 s σ H Q I hq;refine wpAny_Tuple_spliced (thn (h pos a8 s σ H _ I hq) λus s1 #[xs,H1,I1,r,z,q]=>#[by rw[<-r.length];exact z,(#[.ref s1.heap.objs.size,upd H1 s1.heap.objs.size _,I1.laid (t':=s1.toks) (λb u e=>X2 _ e) (Xa _) ?_,rfl,q _ (I1.hok.fresh (Xa _))])]);exact#[z,us,r,#[_,X9 _ rfl,rfl,rfl,_,rfl]]
theorem wz3(h:PA X es t):PE X (.List es pos) (tLst t):=by
 intro a8 s σ H Q I hq;refine wpAny_List_spliced (thn (h pos a8 s σ H _ I hq) λus s1 #[xs,H1,I1,r,z,q]=>#[by rw[<-r.length];exact z,(#[.ref s1.heap.objs.size,upd H1 s1.heap.objs.size _,I1.laid (t':=s1.toks) (λb u e=>X2 _ e) (Xa _) ?_,rfl,q _ (I1.hok.fresh (Xa _))])]);exact#[z,us,0,r,X9 _ rfl]
end
abbrev Sp:=List V->Hp->VK->XK->Prop
abbrev CXT:=List Env->Hp->Shared->XK->Value->Shared->Prop
structure Env0 (P:Program)(w:World)(K:Frag)(mg:Str->Option Value)(base:Heap)(A:Around)(outer:List Env)(s:Shared)(H:Hp):Prop where
 frames:A.frames=some outer
 mod:Mod K mg base
 bs:∀b o,base.get? b=some o->s.heap.get? b=some o/\H b=none
 bsz:base.objs.size<=s.heap.objs.size
 funs:s.heap.FunFrames base outer
 frf:∀b∈frs outer,H b=none
 hok:HOk P w H s.heap
 bare:AllBare s.gens
def CE(outer:List Env)(P:Program)(w:World)(H:Hp)(s:Shared)(Q:VK)(u:Value)(s':Shared):Prop:=
 ∃v H',s'.os=s.os/\AllBare s'.gens/\Un (frs outer) [] H H' s.heap s'.heap/\HOk P w H' s'.heap/\RelV v u/\Q v H'
def CR(CX:CXT)(outer:List Env)(P:Program)(w:World)(H:Hp)(s:Shared)(Q:VK)(E:XK)(r:Result)(s':Shared):Prop:=
 match r with
 |.ok (.ret u)=>CE outer P w H s Q u s'|.ok _=>False|.error e=>CX outer H s E e s'
structure FnOk (P:Program)(w:World)(K:Frag)(mg:Str->Option Value)(base:Heap)(CX:CXT)(k:Nat)(f:Addr)(fd:FuncData)(ps:List Str)(sp:Sp):Prop where
 len:∀vs H Q E,sp vs H Q E->vs.length=ps.length
 run:∀(A:Around) (outer:List Env) (s:Shared) (H:Hp) (args:Args) (us:List Value) (vs:List V) (Q:VK) (E:XK),Room k A->Env0 P w K mg base A outer s H->BindsTo s fd args (ps.zip us)->Vals vs us->sp vs H Q E ->
  codeAny (model P w) A (.call (.ref f) args) (CR CX outer P w H s Q E) s
section
variable {X:Cx}{a8:LA9}{σ:St}{H:Hp}{s s':Shared}
theorem Inv.env0(I:Inv X a8 σ H s):Env0 X.prog X.w X.K X.mg X.base X.A X.stack s H:=
 #[I.ok.frames,I.ok.mod,I.bs,Ye I.ok.bsz I.sz,I.stack,I.stkFree,I.hok,I.bare]
theorem Inv.after{Q u}(I:Inv X a8 σ H s)(h:CE X.stack X.prog X.w H s Q u s'):EP X a8 σ Q u s':=by
 obtain⟨v,H',os,bare,un,hok,r,q⟩:=h;obtain⟨hh,g,d,t,qr⟩:=s';obtain rfl:qr=s.os:=os;exact#[v,H',I.call (h':=hh) (g':=g) (d':=d) (t':=t) un hok bare (λb z=>absurd z (by simp)),r,q]
end
abbrev wjl(sp:Sp)(rj:List V)(E:XK)(t:TA):TE:=fun σ H Q=>t σ H λvs H1=>sp (vs++rj) H1 Q E
def Binds(K:Frag)(fd:FuncData)(ps:List Str)(ds:List Value):Prop:=
 ∀(s:Shared) (us:List Value),K.In s.heap->(us++ds).length=ps.length->BindsTo s fd #[us,[]] (ps.zip (us++ds))
theorem Binds.all{K fd ps}(h:∀us,us.length=ps.length->bindArgs fd #[us,[]]=pure (ps.zip us)):Binds K fd ps []:=λs us _ hl=>by
 rw[Xs]at hl ⊢;exact .of_eq (h us hl)
def vqt(CX:CXT)(X:Cx)(E:XK):Prop:=∀(a8:LA9) (σ:St) (H:Hp) (s:Shared) (e:Value) (s':Shared),Inv X a8 σ H s->CX X.stack H s E e s'->X.xe e s'
section
variable {X:Cx}{CX:CXT}{k:Nat}{f C:Addr}{fd:FuncData}{ps:List Str}{sp:Sp}{rj:List V}{ds:List Value}{E:XK}{x m:Str}{p pos apos:Pos}{e o:Expr}{es:List Expr}{ta:TE}{t:TA}
set_option tactic.hygienic true in
theorem wwj{a8}{σ:St}{H s Q us vs}(F:FnOk X.prog X.w X.K X.mg X.base CX k f fd ps sp)(hr:Room k X.A)(hb:Binds X.K fd ps ds)(hd:Vals rj ds)(hx:vqt CX X E)
  (I:Inv X a8 σ H s) (r:Vals vs us) (h:sp (vs++rj) H Q E):wpAny (model X.prog X.w) X.A (call (.ref f) us) (EP X a8 σ Q) X.xe s:=by
 have r2:=r.append hd;have hl:(us++ds).length=ps.length:=by rw[<-r2.length];exact F.len _ _ _ _ h
 refine wpAny_call (codeAny_mono (F.run X.A X.stack s H _ _ _ Q E hr I.env0 (hb s us I.kIn hl) r2 h) λr s' hq=>?_);cases r with
 |error e=>exact hx a8 σ H s e s' I hq
 |ok fl=>
  cases fl with|ret u=>exact I.after hq|next=>exact False.elim hq|brk=>exact False.elim hq|cont=>exact False.elim hq
abbrev _root_.Abb(p:Pos)(es:List Expr)(X:Cx):Prop:=(backTo p (starEach es X.env)).any (·.1)=false
theorem qzq(F:FnOk X.prog X.w X.K X.mg X.base CX k f fd ps sp)(hr:Room k X.A)(hg:Gl X x)(hm:X.mg x=some (.ref f))(hk:PySem.W.keepIn X.K (.ref f)=true)(hb:Binds X.K fd ps ds)(hd:Vals rj ds)(hx:vqt CX X E)
  (ha:PA X (e::es) t) (fk:autoParam (Abd x) ŕ) (he:autoParam (Abs e es X) Ŕ) (bv:autoParam (Abb pos es X) Ŕ):
  PE X (.Call (.Name x p) (e::es) [] pos) (wjl sp rj E t):=by
 intro a8 s σ H Q I h;exact Z0 (vjk I hg hm (PySem.W.callWith_K I.ok.mod.kin hk (thn (ha pos a8 s σ H _ I h) λus s1 hz=>by obtain⟨vs,H1,I1,r,q⟩:=hz;exact#[I1.kIn,(wwj F hr hb hd hx I1 r q)]) he bv) fk)
end
structure FnScope (N P:List Str)(sc:Scope):Prop where
 kind:sc.kind=.function
 co:sc.isCoroutine=false
 gen:sc.isGenerator=false
 nd:N.Nodup
 pre:N.take P.length=P
 par:∀x∈P,sc.names.lookup x=some .local\/sc.names.lookup x=some .cell
 nofree:∀y∈sc.names,y.2≠.free
theorem kzh{kindOf x}: ∀{binds m},(∀v,(x,v)∉binds) -> bindL kindOf binds m x = m x
  | [],_,_=>rfl
  | (n,v)::r,m,h=>by
    unfold bindL;rw[kzh λw hw=>h w (lc9 _ hw)]
    split
    · have : x≠n:= by rintro rfl; exact h v X5
      simp[this]
    · rfl
theorem kzj{kindOf x}: ∀{binds m},(∀v,(x,v)∉binds) -> bindC kindOf binds m x = m x
  | [],_,_=>rfl
  | (n,v)::r,m,h=>by
    unfold bindC;rw[kzj λw hw=>h w (lc9 _ hw)]
    split
    · rfl
    · have : x≠n:= by rintro rfl; exact h v X5
      simp[this]
theorem kzi{kindOf x v}:∀{P:List Str} {vs} {i:Nat} {m},P.Nodup->P[i]?=some x->vs[i]?=some v->kindOf x=some .local ->
  bindL kindOf (P.zip vs) m x=some v
 |[],_,_,_,_,h,_,_=>by simp at h
 |p::P,w::vs,0,m,nd,h1,h2,hk=>by
  simp at h1 h2;subst h1;subst h2;show bindL kindOf (_::P.zip vs) m p=_;unfold bindL;rw[kzh λv hv=>(List.nodup_cons.mp nd).1 (List.of_mem_zip hv).1,Xd hk];simp
 |p::P,w::vs,i+1,m,nd,h1,h2,hk=>by
  unfold bindL;exact kzi (List.nodup_cons.mp nd).2 (by simpa using h1) (by simpa using h2) hk
theorem kzk{kindOf x v}:∀{P:List Str} {vs} {i:Nat} {m},P.Nodup->P[i]?=some x->vs[i]?=some v->kindOf x≠some .local ->
  bindC kindOf (P.zip vs) m x=some v
 |[],_,_,_,_,h,_,_=>by simp at h
 |p::P,w::vs,0,m,nd,h1,h2,hk=>by
  simp at h1 h2;subst h1;subst h2;show bindC kindOf (_::P.zip vs) m p=_;unfold bindC;rw[kzj λv hv=>(List.nodup_cons.mp nd).1 (List.of_mem_zip hv).1,Xi hk];simp
 |p::P,w::vs,i+1,m,nd,h1,h2,hk=>by
  unfold bindC;exact kzk (List.nodup_cons.mp nd).2 (by simpa using h1) (by simpa using h2) hk
def start(N:List Str)(vs:List V):St:=vs.map some++List.replicate (N.length - vs.length) none
noncomputable def J8(CX:CXT)(P:Program)(w:World)(K:Frag)(mg:Str->Option Value)(base:Heap)(N:List Str)(qual:Str)(scope:Scope)(f:Addr)(cd:Value)(A:Around)(outer:List Env)(s:Shared)(H:Hp)(E:XK):Cx where
 prog:=P
 w:=w
 K:=K
 mg:=mg
 base:=base
 A:=A.deeper (envOfC qual scope s.heap.objs.size f cd)
 N:=N
 s₀:=s
 H₀:=H
 env:=envOfC qual scope s.heap.objs.size f cd
 outer:=outer
 stack:=envOfC qual scope s.heap.objs.size f cd::outer
 ex:=[]
 calm:=true
 fn:=λ_=>true
 pn:=[]
 xe:=λe s'=>wpAny (model P w) (A.deeper (envOfC qual scope s.heap.objs.size f cd)) (leaving (envOfC qual scope s.heap.objs.size f cd) e) (λ_ kf=>CX outer H s E e kf) (λe' kf=>CX outer H s E e' kf) s'
theorem qv0{sc:Scope}{n x}(h:sc.names.lookup x=some .cell):∃c,(cellsFrom n sc.names []).lookup x=some c:=by
 exact Option.isSome_iff_exists.mp (PySem.W.cellsFrom_some sc.names n [] (.inl h))
theorem vjx{CX P w K mg base N ps qual scope f cd A outer s s1 H E us}{vs}
  (S:FnScope N ps scope) (hd:A.handled=none) (e0:Env0 P w K mg base A outer s H) (hl:vs.length=ps.length) (r:Vals vs us)
  (x:InCallC s s.heap.objs.size (bindL (envOfC qual scope s.heap.objs.size f cd).kindOf (ps.zip us) λ_=>none) (cellsFrom (s.heap.objs.size+1) scope.names []) (bindC (envOfC qual scope s.heap.objs.size f cd).kindOf (ps.zip us) λ_=>none) s1):
  Inv (J8 CX P w K mg base N qual scope f cd A outer s H E) [] (start N vs) H s1:=by
 have bv:ps.length<=N.length:=by have:=congrArg List.length S.pre;rw[Ys]at this;lia
 obtain⟨h1,tk,rfl,hk⟩:=x.done;have ub:∀b,b∉(J8 CX P w K mg base N qual scope f cd A outer s H E).ex:=λb z=>absurd (show b∈([]:List Addr)from z) (by simp)
 refine#[#[e0.mod,S.kind,rfl,rfl,Xa _,λy z c h1 h2=>?_,λy hy=>?_,λy c _ h=>?_,λ_=>hd,Around.frames_deeper e0.frames,.inr #[rfl,rfl],λb z=>absurd z (ub b),e0.bs,e0.bsz,λb _ _=>ub b,λb z=>absurd z (ub b),e0.funs,e0.frf],
  rfl,e0.bare,Un.kept hk,#[_,x.toInCall.ns,λi y v h1 h2 h3=>?_],λy c h=>#[_,x.cell y c h],e0.hok.fresh (Xa _),λy c h=>?_,λp hp=>absurd (show p∈([]:List _)from hp) (by simp),e0.hok.kept hk,?_]
 ·exact name_of_addr x.apart (Yv h1) (Yv h2)
 ·rcases hy with hy|hy
  ·exact qv0 hy
  ·exact absurd rfl (S.nofree _ (Yv hy))
 ·exact Nat.le_of_lt (x.above y c (Yv h))
 ·have hi:i<vs.length:=by
   unfold start at h2
   by_cases hi:i<vs.length
   ·exact hi
   ·rw[Yl (by simpa using hi),List.getElem?_replicate]at h2
    split at h2<;>cases h2
  have ha:vs[i]?=some v:=by
   unfold start at h2;rw[Xw (by simpa using hi),Xg]at h2;cases e:vs[i]? with|none=>rw[e]at h2;cases h2|some a=>rw[e]at h2;cases h2;rfl
  obtain⟨u,hu,rv⟩:=r.get ha;have hp:ps[i]?=some y:=by
   rw[<-S.pre,List.getElem?_take_of_lt ⋯];exact h1
  have ndP:ps.Nodup:=by rw[<-S.pre];exact S.nd.sublist (List.take_sublist _ _)
  refine#[u,rv,?_];rcases S.par y (List.mem_of_getElem? hp)with k|k
  ·exact .inl #[k,kzi ndP hp hu k]
  ·obtain⟨c,e⟩:=qv0 k;refine .inr #[.inl k,c,e,?_];have q:=x.cell y c e;rw[kzk ndP hp hu (by show scope.names.lookup y≠_;rw[k];decide)]at q;exact q
 ·exact e0.hok.fresh (Nat.le_of_lt (x.above y c (Yv h)))
 ·unfold start;show _=N.length;rw[Xf,X3,Zb];lia
set_option tactic.hygienic true in
theorem xjm{CX P w K mg base k f name qual params body scope dV kV gu pm cj ct oc}{an od}
  {m8 N ps sp} (lk:K.lookup f=some #[oc,od,.func (PySem.W.fnOf name qual params body scope dV kV gu pm an cj ct),m8]) (ik:PySem.W.codeIn K cj qual=true) (S:FnScope N ps scope)
  (len:∀vs H Q E,sp vs H Q E->vs.length=ps.length)
  (iq:∀A (outer) (s) (H) (vs) (Q) (E),Room k (A.deeper (envOfC qual scope s.heap.objs.size f cj))->sp vs H Q E ->
   ∃t,PSs (J8 CX P w K mg base N qual scope f cj A outer s H E) body t/\t {nx:=λ_ H'=>Q .non H',rt:=Q} (start N vs) H):
  FnOk P w K mg base CX (k+1) f (PySem.W.fnOf name qual params body scope dV kV gu pm an cj ct) ps sp:=by
 refine#[len,λA outer s H args us vs Q E hr e0 hb r mv=>?_];have KX:=e0.mod.kin.keeps λb o e=>(e0.bs b o e).1
 have uv:∀y∈ps.zip us,scope.names.lookup y.1=some .local\/(scope.names.lookup y.1=some .cell/\((cellsFrom (s.heap.objs.size+1) scope.names []).lookup y.1).isSome=true):=λhz hy=>by
  obtain⟨n,v⟩:=hz;rcases S.par n (List.of_mem_zip hy).1 with q|q
  ·exact .inl q
  ·exact .inr #[q,PySem.W.cellsFrom_some _ _ _ (.inl q)]
 refine codeAny_call_function hr.depth (KX _ _ lk) rfl S.co S.gen rfl (PySem.W.codeRec_of KX ik) (hb _ _ _ _ (wpAny_newFunctionEnv_cells S.kind uv λenv he s1 x=>?_));subst he;refine#[(e0.mod.nolimit.keeps λb o e=>(e0.bs b o e).1).keeps x.toInCall.keep,codeAny_func ?_];obtain⟨t,ht,hq⟩:=iq A outer s H vs Q E (hr.deeper _) mv;have I:Inv (J8 CX P w K mg base N qual scope f cj A outer s H E) [] _ H s1:=vjx S hr.hd e0 (len _ _ _ _ mv) r x;refine wpAny_mono (ht [] s1 _ H _ I hq) (λfl s' hs=>?_) λe s' hs=>hs
 have fin:∀{σ' H' v u},Inv (J8 CX P w K mg base N qual scope f cj A outer s H E) [] σ' H' s'->RelV v u->Q v H'->CE outer P w H s Q u s':=
  fun {σ' H' v u} J rv q=>#[v,H',J.os,J.bare,J.base,J.hok,rv,q]
 cases fl with
 |ret u=>
  obtain⟨v,σ',H',J,rv,q⟩:=hs;exact fin J rv q
 |next=>
  obtain⟨σ',H',J,q⟩:=hs;exact fin (v:=V.non) J rfl q
 |brk=>
  obtain⟨_,_,_,q⟩:=hs;exact False.elim q
 |cont=>
  obtain⟨_,_,_,q⟩:=hs;exact False.elim q
section
variable {X:Cx}{x:Str}{p pos:Pos}{e:Expr}{es:List Expr}{t:TA}{id T:String}{r:List V->Hp->VK->Prop}
abbrev tCB(r:List V->Hp->VK->Prop)(t:TA):TE:=fun σ H Q=>t σ H λvs H1=>r vs H1 Q
theorem kve(hc:CallR X (.builtin id) r)(hg:Gl X x)(hm:X.mg x=none)(hv:bootBuiltins x=some (.builtin id))(ha:PA X (e::es) t)(hn:autoParam (x≠"__name__") ŕ)(fk:autoParam (Abd x) ŕ)
  (he:autoParam (Abs e es X) Ŕ) (bv:autoParam (Abb pos es X) Ŕ):PE X (.Call (.Name x p) (e::es) [] pos) (tCB r t):=by
 intro a8 s σ H Q I h;exact Z0 (J6 I hg hm hv (PyProof.Rows.callWith_builtin1 (thn (ha pos a8 s σ H _ I h) λus s1 hz=>by obtain⟨vs,H1,I1,r1,q1⟩:=hz;exact hc a8 s1 σ H1 vs us Q I1 r1 q1) he bv) hn fk)
theorem qzp(hc:CallR X (.type T) r)(hg:Gl X x)(hm:X.mg x=none)(hv:bootBuiltins x=some (.type T))(ha:PA X (e::es) t)(hn:autoParam (x≠"__name__") ŕ)(fk:autoParam (Abd x) ŕ)
  (he:autoParam (Abs e es X) Ŕ) (bv:autoParam (Abb pos es X) Ŕ):PE X (.Call (.Name x p) (e::es) [] pos) (tCB r t):=by
 intro a8 s σ H Q I h;exact Z0 (J6 I hg hm hv (Y1 (thn (ha pos a8 s σ H _ I h) λus s1 hz=>by obtain⟨vs,H1,I1,r1,q1⟩:=hz;exact hc a8 s1 σ H1 vs us Q I1 r1 q1) he bv) hn fk)
end
end L2
namespace HT
open PySem PyProof.Rows
section
variable {prog:Program}{w:World}{A:Around}{E:VP9}{s:Shared}
theorem cat_tup{t b vs ws Q}(ht:IsTup s.heap t vs.toArray)(hb:IsTup s.heap b ws.toArray)(hv:vs≠[])
  (h1:ws=[]->Q (.ref t) s) (h2:ws≠[]->Q (.ref s.heap.objs.size) {s with heap:=s.heap.push {cls:=.type "tuple",data:=.seq (vs++ws).toArray}})
  (hsz:vs.length+ws.length<=sizeLine):wpAny (model prog w) A (binaryOp .Add (.ref t) (.ref b)) Q E s:=by
 obtain⟨⟨cls,dd,data,sl⟩,ho,hc,n,hd⟩:=id ht;obtain⟨⟨cls2,dd2,data2,ni⟩,jg,nt,n2,ji⟩:=id hb;subst hc hd nt ji;have e:vs.toArray++ws.toArray=(vs++ws).toArray:=by simp
 by_cases hw:ws=[]
 ·exact concat_meets #[_,ho,rfl] #[_,jg,rfl] noFill_tuple_add seq_tuple_add PySem.F.slot_tuple_add PySem.F.entry_tuple_add (PySem.F.args_tuple_add_2 _ _)
   (tuple_addW1 t b vs.toArray ws.toArray n n2 dd dd2 sl ni (by simpa using hv) (by simp[hw])) #[ho,jg,h1 hw]
 ·refine concat_meets #[_,ho,rfl] #[_,jg,rfl] noFill_tuple_add seq_tuple_add PySem.F.slot_tuple_add PySem.F.entry_tuple_add (PySem.F.args_tuple_add_2 _ _)
   (tuple_addW2 t b vs.toArray ws.toArray n n2 dd dd2 sl ni (by simpa using hv) (by simpa using hw) (hsz)) #[ho,jg,?_]
  rw[e];exact h2 hw
def sIx(n d:Nat):Option Int->Nat
 |none=>d|some v=>if v<0 then(v+(n:Int)).toNat else min v.toNat n
theorem vq4 v (n d:Nat):(if v<0 then max (v+(n:Int)) 0 else min v n)=((sIx n d (some v):Nat):Int):=by
 show _=(((if v<0 then(v+n).toNat else min v.toNat n):Nat):Int)
 by_cases hv:v<0
 ·simp only[Xd hv];lia
 ·grind
theorem qwb(lo hi)(n:Nat):Builtin.Slice.sliceAdjust lo hi 1 n=(((sIx n 0 lo:Nat):Int),((sIx n n hi):Int)):=by
 have h1:¬((1:Int)<0):=⋯
 unfold Builtin.Slice.sliceAdjust;refine Prod.ext ?_ ?_
 ·cases lo with|none=>rfl|some v=>exact vq4 v n 0
 ·cases hi with|none=>rfl|some v=>exact vq4 v n n
theorem qvi(i j:Nat):Builtin.Slice.slicePlaces i j 1=j - i:=by
 unfold Builtin.Slice.slicePlaces;have h1:1>0:=⋯
 simp
 split<;>lia
theorem kq3{v o Q}(p:IsPart v o)(h:Q o s):wpAny (model prog w) A (Builtin.Slice.slicePartIndex v) Q E s:=by
 cases p with|none=>exact slicePart_none h|int i t=>exact slicePart_int h
theorem jzs{sl vl vu lo hi n}{Q:Int×Int×Nat->Shared->Prop}(hs:s.heap.IsSliceOf sl vl vu .none)(pl:IsPart vl lo)(pu:IsPart vu hi)
  (h:Q (((sIx n 0 lo:Nat):Int),1,sIx n n hi - sIx n 0 lo) s):wpAny (model prog w) A (Builtin.Slice.sliceApplied (.ref sl) (pure n)) Q E s:=by
 obtain⟨os,jt,lh,bj⟩:=id hs;refine X0 (X0 (Yw jt bj (x:=vl) rfl (X0 (Yw jt bj (x:=vu) rfl (X0 (Yw jt bj (x:=.none) rfl (X6 (X0 (slicePart_none (X0 (kq3 pl (X0 (kq3 pu (X0 (X6 ?_)))))))))))))));show wpAny _ _ (match Builtin.Slice.sliceAdjust lo hi 1 n with|(lo,hi)=>pure (lo,_,Builtin.Slice.slicePlaces lo hi 1)) _ _ s;rw[qwb lo hi n];show wpAny _ _ (pure _) _ _ s;rw[qvi];exact X6 h
theorem vw0(xs:Array Value)(i k:Nat):((List.range k).filterMap λ(m:Nat)=>xs[(i+(m:Int)*1).toNat]?).toArray=((xs.toList.drop i).take k).toArray:=by
 have e:(λ(m:Nat)=>xs[(i+(m:Int)*1).toNat]?)=λm=>xs[i+m]?:=by
  funext m;have:(i+(m:Int)*1).toNat=i+m:=⋯
  rw[this]
 rw[e];have:=pick_run xs i k;rw[List.filterMap_map]at this;have e2:(_∘λx=>i+x)=λm=>xs[i+m]?:=rfl
 rw[e2]at this;rw[this]
theorem getItem_tuple_cut{t sl items vl vu lo hi Q}(ht:IsTup s.heap t items)(hs:s.heap.IsSliceOf sl vl vu .none)(pl:IsPart vl lo)(pu:IsPart vu hi)
  (hw:¬(sIx items.size 0 lo=0/\sIx items.size items.size hi=items.size))
  (h:Q (.ref s.heap.objs.size) {s with heap:=s.heap.push {cls:=.type "tuple",data:=.seq ((items.toList.drop (sIx items.size 0 lo)).take (sIx items.size items.size hi - sIx items.size 0 lo)).toArray}})
  (hsz:items.size<=sizeLine):wpAny (model prog w) A (getItem (.ref t) (.ref sl)) Q E s:=by
 have lx:sizeOk (.seq ((items.toList.drop (sIx items.size 0 lo)).take (sIx items.size items.size hi - sIx items.size 0 lo)).toArray):=by
  show((items.toList.drop _).take _).toArray.size<=sizeLine;rw[X8,Ys,List.length_drop,Y5];lia
 obtain⟨os,jt,lh,bj⟩:=id hs;have hTs:s.TypeIs (.ref sl) "slice":=#[os,jt,lh];unfold getItem
 try with_reducible refine Ya ?_
 refine X0 (wpAny_sequenceKey ht.typeIs ⋯ ?_);refine X0 (Yg ht.typeIs PyProof.Rows.slot_tuple_getitem
  (Y3 PyProof.Rows.slot_tuple_getitem ht.typeIs entry_tuple_getitem ?_ (args_tuple_getitem _ _)))
 show wpAny _ _ (Builtin.Tuple.tupleItemsOf _ >>= _) _ _ s;refine X0 (tupleItemsOf_ ht (X0 (wpAny_typeOf hTs (X0 (jzs hs pl pu ?_)))));have jr:¬((((sIx items.size 0 lo:Nat):Int)==0&&(1:Int)==1&&(sIx items.size items.size hi - sIx items.size 0 lo)==items.size)=true):=by
  grind
 show wpAny _ _ (if _=true then _ else _) _ _ s;rw[Xi jr,vw0]
 first
  |exact X0 (Yd (X0 (X6 (X6 ⟨_,rfl,X6 h⟩))) lx)
end
end HT
namespace L2
open PySem PySem.Spec PyProof.Rows
abbrev TO:=St->Hp->(Option Int->Hp->Prop)->Prop
def PO(X:Cx)(e:Option Expr)(t:TO):Prop:=
 ∀(a8:LA9) (s:Shared) (σ:St) (H:Hp) (Q:Option Int->Hp->Prop),Inv X a8 σ H s->t σ H Q ->
  wpAny (model X.prog X.w) X.A (evalPart e X.env) (λu s'=>∃o H',Inv X a8 σ H' s'/\IsPart u o/\Q o H') X.xe s
abbrev qx1:TO:=λ_ H Q=>Q none H
abbrev ww8(t:TE):TO:=fun σ H Q=>t σ H λx H1=>∃i,x=.int i/\Q (some i) H1
section
variable {X:Cx}{e:Expr}{te:TE}{lo hi:Option Expr}{tl th:TO}{pos p2:Pos}
theorem wkh:PO X none qx1:=by
 intro a8 s σ H Q I h;exact X6 #[none,H,I,.none,h]
theorem wkg(h:PE X e te):PO X (some e) (ww8 te):=by
 intro a8 s σ H Q I hw;refine thn (h a8 s σ H _ I hw) λu s1 hz=>?_
 obtain⟨x,H1,I1,r1,q1⟩:=hz;obtain⟨i,rfl,q⟩:=q1;obtain⟨t,rfl⟩:=r1;exact#[some i,H1,I1,.int i t,q]
noncomputable def SlR(X:Cx)(r:V->Option Int->Option Int->Hp->VK->Prop):Prop:=
 ∀(a8:LA9) (s:Shared) (σ:St) (H:Hp) (x:V) (v vl vu:Value) (lo hi:Option Int) (sl:Addr) (Q:VK),Inv X a8 σ H s->RelV x v->s.heap.IsSliceOf sl vl vu .none->IsPart vl lo->IsPart vu hi->r x lo hi H Q ->
  ∃T id,typeLookup (.type T) "__getitem__"=pure (some (.builtin id))/\s.TypeIs v T/\wpAny (model X.prog X.w) X.A (getItem v (.ref sl)) (EP X a8 σ Q) X.xe s
theorem SlR.or{r r'}(h:SlR X r)(h':SlR X r'):SlR X (λx lo hi H Q=>r x lo hi H Q\/r' x lo hi H Q):=by
 intro a8 s σ H x v vl vu lo hi sl Q I rx hs pl pu q;rcases q with q|q
 ·exact h a8 s σ H x v vl vu lo hi sl Q I rx hs pl pu q
 ·exact h' a8 s σ H x v vl vu lo hi sl Q I rx hs pl pu q
abbrev tSl(r:V->Option Int->Option Int->Hp->VK->Prop)(te:TE)(tl th:TO):TE:=fun σ H Q=>te σ H λx H1=>tl σ H1 λl H2=>th σ H2 λu H3=>r x l u H3 Q
theorem vw1{r}(hr:SlR X r)(he:PE X e te)(hl:PO X lo tl)(hu:PO X hi th):PE X (.Subscript e (.Slice lo hi none p2) pos) (tSl r te tl th):=by
 intro a8 s σ H Q I h;refine Subscript_ (thn (he a8 s σ H _ I h) λv s1 #[x,H1,I1,r1,q1]=>(wpAny_Slice (thn (hl a8 s1 σ H1 _ I1 q1) λvl s2 #[l,H2,I2,pl,q2]=>thn (hu a8 s2 σ H2 _ I2 q2) λvu s3 #[u,H3,I3,pu,q3]=>(X6 ?_))));have I4:Inv X a8 σ H3 {s3 with heap:=s3.heap.push {cls:=.type "slice",data:=.fields (List.toArray [vl,vu,.none])}}:=I3.kept (t':=s3.toks) λb ob q=>X2 _ q
 obtain⟨T,id,hT,ht,hg⟩:=hr a8 {s3 with heap:=s3.heap.push {cls:=.type "slice",data:=.fields (List.toArray [vl,vu,.none])}} σ H3 x v vl vu l u s3.heap.objs.size Q I4 r1 (Heap.IsSliceOf.new ..) pl pu q3;exact tail_any ht hT hg (by ac_rfl)
def XQ(xs:List V)(lo hi:Option Int):List V:=(xs.drop (HT.sIx xs.length 0 lo)).take (HT.sIx xs.length xs.length hi - HT.sIx xs.length 0 lo)
theorem kkf xs (lo hi):(XQ xs lo hi).length<=xs.length:=by
 unfold XQ;rw[Ys,List.length_drop];lia
def xwr(K:Frag):V->Option Int->Option Int->Hp->VK->Prop:=λx lo hi H Q=>∃a xs,x=.ref a/\SqT K H a xs /\
 ¬(HT.sIx xs.length 0 lo=0/\HT.sIx xs.length xs.length hi=xs.length)/\∀p,H p=none->Q (.ref p) (upd H p (.tup (XQ xs lo hi)))
theorem sl_tup:SlR X (xwr X.K):=by
 rintro a8 s σ H x v vl vu lo hi sl Q I rx hs pl pu ⟨a,xs,rfl,hx,hw,q⟩;cases rx;obtain⟨ac,r,ht,hz⟩:=I.tuple hx;have ai:ac.toArray.size=xs.length:=r.length.symm;refine#["tuple",_,PyProof.Rows.slot_tuple_getitem.lookup,ht.typeIs,(HT.getItem_tuple_cut ht hs pl pu (ai▸hw) ?_ (ai▸hz))];rw[ai];refine#[.ref s.heap.objs.size,_,I.laid (t':=s.toks) (λb ob q=>X2 _ q) (Xa _) ?_,rfl,q _ (I.hok.fresh (Xa _))];exact#[Ye (kkf xs lo hi) hz,_,(r.drop _).take _,IsTupD.new _ _]
def wwz(K:Frag):R2:=λx y H Q=>∃a b xs ys,x=.ref a/\y=.ref b/\SqT K H a xs/\SqT K H b ys/\xs≠[]/\xs.length+ys.length<=sizeLine /\
 (ys=[]->Q (.ref a) H)/\(ys≠[]->∀p,H p=none->Q (.ref p) (upd H p (.tup (xs++ys))))
theorem Vals.nil_iff{xs us}(r:Vals xs us):us=[]↔xs=[]:=by
 cases r with|nil=>simp|cons _ _=>simp
theorem wkw:OpR X (binaryOp .Add) (wwz X.K):=by
 rintro a8 s σ H x y v u Q I rx ry ⟨a,b,xs,ys,rfl,rfl,ha,hb,hx,hz,q1,q2⟩;cases rx;cases ry;obtain⟨ac,r1,p1,_⟩:=I.tuple ha;obtain⟨i6,r2,p2,_⟩:=I.tuple hb;refine HT.cat_tup p1 p2 (λz=>hx (r1.nil_iff.mp z)) (λz=>#[.ref a,H,I,rfl,q1 (r2.nil_iff.mp z)]) (λz=>(#[.ref s.heap.objs.size,_,I.laid (t':=s.toks) (λb ob q=>X2 _ q) (Xa _) ?_,rfl,q2 (λw=>z (r2.nil_iff.mpr w)) _ (I.hok.fresh (Xa _))])) (by rw[<-r1.length,<-r2.length];exact hz);exact#[by rw[Xf];exact hz,_,r1.append r2,IsTupD.new _ _]
end
def ixN(n:Nat)(i:Int):Option Nat:=if 0<=i then(if i<n then some i.toNat else none)else if -(n:Int)<=i then some (i+n).toNat else none
def atI{α:Type}(xs:List α)(i:Int):Option α:=(ixN xs.length i).bind λj=>xs[j]?
theorem qjw{n i j}(h:ixN n i=some j):seqIndex? i n=some j/\j<n/\-n<=i/\i<n:=by
 unfold ixN at h
 by_cases h0:0<=i
 ·rw[Xd h0]at h
  by_cases h1:i<n
  ·rw[Xd h1]at h;exact#[by rw[seqIndex_of h0 h1,(oq9 h)],⋯,⋯,h1]
  ·rw[Xi h1]at h;cases h
 ·rw[Xi h0]at h
  by_cases h1:-n<=i
  ·rw[Xd h1]at h;exact#[by rw[seqIndex_neg ⋯ h1,(oq9 h)],⋯,h1,⋯]
  ·rw[Xi h1]at h;cases h
theorem qke{α xs i}{v:α}(h:atI xs i=some v):∃j,seqIndex? i xs.length=some j/\xs[j]?=some v/\j<xs.length/\-(xs.length:Int)<=i/\i<xs.length:=by
 unfold atI at h;cases e:ixN xs.length i with
 |none=>rw[e]at h;cases h
 |some j=>
  rw[e]at h;obtain⟨h1,h2,h3,h4⟩:=qjw e;exact#[j,h1,h,h2,h3,h4]
def qkh(b:Expr):Prop:=∀o i,subscripted b false o i=operate [o,i] (getItem o i)
noncomputable def IxR(X:Cx)(r:R2):Prop:=
 ∀(bh slice:Expr) (a8:LA9) (s:Shared) (σ:St) (H:Hp) (x y:V) (v u:Value) (Q:VK),Inv X a8 σ H s->RelV x v->RelV y u->r x y H Q ->
  subscripted slice false v u=operate [v,u] (getItem v u)->wpAny (model X.prog X.w) X.A (subscriptTail bh slice v u) (EP X a8 σ Q) X.xe s
noncomputable def MtR(X:Cx)(id:String)(r:V->List V->Hp->VK->Prop):Prop:=
 ∀(a8:LA9) (s:Shared) (σ:St) (H:Hp) (x:V) (xs:List V) (v:Value) (us:List Value) (Q:VK),Inv X a8 σ H s->RelV x v->Vals xs us->r x xs H Q ->
  wpAny (model X.prog X.w) X.A (call (.builtin id) (v::us)) (EP X a8 σ Q) X.xe s
section
variable {X:Cx}{a b:Expr}{ta tb:TE}{pos:Pos}
theorem IxR.or{r r'}(h:IxR X r)(h':IxR X r'):IxR X (λx y H Q=>r x y H Q\/r' x y H Q):=by
 intro bh slice a8 s σ H x y v u Q I rx ry q hs;rcases q with q|q
 ·exact h bh slice a8 s σ H x y v u Q I rx ry q hs
 ·exact h' bh slice a8 s σ H x y v u Q I rx ry q hs
theorem xve{r}(hr:IxR X r)(ha:PE X a ta)(hb:PE X b tb)(hs:qkh b):PE X (.Subscript a b pos) (tOp r ta tb):=by
 intro a8 s σ H Q I h;exact Subscript_ (xwe ha hb I h λv u s2 x y H2 I2 rx ry q=>hr a b a8 s2 σ H2 x y v u Q I2 rx ry q (hs _ _))
def xwy(K:Frag):R2:=λx y H Q=>∃p xs i v,x=.ref p/\y=.int i/\SqL K H p xs/\atI xs i=some v/\Q v H
def xww(K:Frag):R2:=λx y H Q=>∃p xs i v,x=.ref p/\y=.int i/\SqT K H p xs/\atI xs i=some v/\Q v H
def xwx:R2:=λx y H Q=>∃z i c,x=.str z/\y=.int i/\z.length<=sizeLine/\atI z.cps.toList i=some c/\Q (.str #[(List.toArray [c])]) H
theorem ix_list:IxR X (xwy X.K):=by
 intro bh slice a8 s σ H x y v u Q I rx ry h hs;obtain⟨p,xs,i,z,rfl,rfl,hq,he,q⟩:=h;cases rx;obtain⟨t,rfl⟩:=ry;obtain⟨ac,r,pl,hz⟩:=I.list hq;obtain⟨j,h1,h2,h3,h4,h5⟩:=qke he;obtain⟨w,ew,ja⟩:=r.get h2;have hl:=r.length;have hn:=Wj;have fin:EP X a8 σ Q w s:=#[z,H,I,ja,q]
 by_cases h0:0<=i
 ·have hj:i.toNat=j:=by
   rw[seqIndex_of h0 h5]at h1;exact oq9 h1
  exact item_listR pl.isList h0 ⋯ (by rw[hj];simpa using ew) fin hs
 ·have hj:(i+(ac.toArray.size:Int)).toNat=j:=by
   rw[seqIndex_neg ⋯ h4]at h1;rw[X8,<-hl];exact oq9 h1
  exact subscriptTail_builtinR pl.isList.typeIs slot_list_getitem.lookup
   (wpAny_getItem_list_neg pl.isList ⋯ (by rw[X8]<;>lia) ⋯ (by rw[hj];simpa using ew) #[rfl,fin]) hs
theorem ix_tup:IxR X (xww X.K):=by
 intro bh slice a8 s σ H x y v u Q I rx ry h hs;obtain⟨p,xs,i,z,rfl,rfl,hq,he,q⟩:=h;cases rx;obtain⟨t,rfl⟩:=ry;obtain⟨ac,r,pl,hz⟩:=I.tuple hq;obtain⟨j,h1,h2,h3,h4,h5⟩:=qke he;obtain⟨w,ew,ja⟩:=r.get h2;have hn:=Wj;have fin:EP X a8 σ Q w s:=#[z,H,I,ja,q];exact subscriptTail_builtinR pl.typeIs slot_tuple_getitem.lookup
  (getItem_tuple pl ⋯ ⋯ (by rw[X8,<-r.length];exact h1) (by simpa using ew) #[rfl,fin]) hs
theorem qqm:IxR X xwx:=by
 intro bh slice a8 s σ H x y v u Q I rx ry h hs;obtain⟨z,i,c,rfl,rfl,hz,he,q⟩:=h;obtain⟨t,rfl⟩:=rx;obtain⟨t',rfl⟩:=ry;obtain⟨j,h1,h2,h3,h4,h5⟩:=qke he;have hl:z.cps.toList.length=z.length:=by simp[Str.length]
 rw[hl]at h1 h4 h5;have hn:=Wj;exact tail_any (typeIs_str s z t) slot_str_getitem.lookup (getItem_str (c:=c) (by
  have e1:decide (i < -(2 ^ 63:Int))=false:=Xl ⋯;have e2:decide (i>=2 ^ 63)=false:=Xl ⋯;rw[e1,e2,Bool.or_false]) (by rw[h1];simpa using h2) #[.str #[(List.toArray [c])],H,I.tok _,#[_,rfl],q]) hs
def rIx(K:Frag):R2:=λx y H Q=>xwy K x y H Q\/xww K x y H Q\/xwx x y H Q
theorem xj4:IxR X (rIx X.K):=ix_list.or (ix_tup.or qqm)
theorem qvt(ac:List Value)(n j) u:Obj.mapSeq (·.setIfInBounds j u) {cls:=.type "list",data:=.seq ac.toArray n}={cls:=.type "list",data:=.seq (ac.set j u).toArray n}:=by
 simp[Obj.mapSeq]
theorem Inv.lst{a8}{σ:St}{H s p xs}(I:Inv X a8 σ H s)(h:H p=some (.lst xs)):
  ∃(ac:List Value) (n:Nat),Vals xs ac/\s.heap.get? p=some {cls:=.type "list",data:=.seq ac.toArray n}/\xs.length<=sizeLine:=by
 obtain⟨z,ac,n,r,e⟩:=I.hok p _ h;exact#[ac,n,r,e,z]
theorem Inv.lstUpd{a8}{σ:St}{H s p xs ys}{ac its':List Value}{n n' f}(I:Inv X a8 σ H s)(h:H p=some (.lst xs))
  (ho:s.heap.get? p=some {cls:=.type "list",data:=.seq ac.toArray n}) (hf:f {cls:=.type "list",data:=.seq ac.toArray n}={cls:=.type "list",data:=.seq its'.toArray n' }) (r:Vals ys its') (hz:ys.length<=sizeLine) t :
  Inv X a8 σ (upd H p (.lst ys)) {s with heap:=s.heap.update p f,toks:=t}:=by
 have e:(s.heap.update p f).get? p=some {cls:=.type "list",data:=.seq its'.toArray n' }:=by
  rw[Xz f ho (by rw[hf]<;>rfl),hf]
 refine I.write (by rw[h];trivial) (.inl rfl) (λb u hb q=>(Z6 _ _ (Ne.symm hb)).trans q) #[_,e] ?_;exact#[hz,its',n',r,e]
def wwr:V->V->V->Hp->(Hp->Prop)->Prop:=λo i v H Q=>∃p xs k j,o=.ref p/\i=.int k/\H p=some (.lst xs)/\ixN xs.length k=some j/\Q (upd H p (.lst (xs.set j v)))
theorem vvd:xxh X wwr:=by
 rintro a8 s σ H o i v ov iv u Q I ro ri rv ⟨p,xs,k,j,rfl,rfl,hp,hj,q⟩;cases ro;obtain⟨t,rfl⟩:=ri;obtain⟨ac,n,r,ho,hz⟩:=I.lst hp;obtain⟨h1,h2,h3,h4⟩:=qjw hj;have hl:=r.length;have hn:=Wj;have I':Inv X a8 σ _ {s with heap:=s.heap.update p _}:=
  I.lstUpd hp ho (qvt ac n j u) (r.set rv j) (by rw[List.length_set];exact hz) s.toks
 by_cases h0:0<=k
 ·have hk:k.toNat=j:=by
   rw[seqIndex_of h0 h4]at h1;exact oq9 h1
  exact PySem.W.ki_setAt ho h0 ⋯ (by rw[X8,<-hl];exact h4) (hk▸#[_,I',q])
 ·have hk:(k+(ac.toArray.size:Int)).toNat=j:=by
   rw[seqIndex_neg ⋯ h3]at h1;rw[X8,<-hl];exact oq9 h1
  exact PySem.W.ki_setBack ho ⋯ (by rw[X8,<-hl];exact h3) ⋯ (hk▸#[_,I',q])
theorem kwq(lo hi) n:(sliceBounds lo hi none n).1=((HT.sIx n 0 lo:Nat):Int)/\(sliceBounds lo hi none n).2.1=((HT.sIx n n hi:Nat):Int)/\(sliceBounds lo hi none n).2.2=1:=by
 refine#[?_,?_,rfl]
 ·cases lo with
  |none=>simp[sliceBounds,HT.sIx]
  |some i=>
   simp only[sliceBounds,HT.sIx,Option.getD_none,show(1:Int)>0 by decide,if_true]
   by_cases h:i<0
   ·simp only[h,if_true]<;>lia
   ·simp only[h,if_false]<;>lia
 ·cases hi with
  |none=>simp[sliceBounds,HT.sIx]
  |some i=>
   simp only[sliceBounds,HT.sIx,Option.getD_none,show(1:Int)>0 by decide,if_true]
   by_cases h:i<0
   ·simp only[h,if_true]<;>lia
   ·simp only[h,if_false]<;>lia
theorem kv1(ac:List Value)(lo hi):slicePick ac.toArray lo hi none=((ac.drop (HT.sIx ac.length 0 lo)).take (HT.sIx ac.length ac.length hi - HT.sIx ac.length 0 lo)).toArray:=by
 obtain⟨h1,h2,h3⟩:=kwq lo hi ac.toArray.size;unfold slicePick;rw[h1,h2,h3];simp only[sliceRange_one,pick_run]<;>rfl
def xwt(K:Frag):V->Option Int->Option Int->Hp->VK->Prop:=λx lo hi H Q=>∃a xs,x=.ref a/\SqL K H a xs/\∀p,H p=none->Q (.ref p) (upd H p (.lst (XQ xs lo hi)))
theorem sl_list:SlR X (xwt X.K):=by
 rintro a8 s σ H x v vl vu lo hi sl Q I rx hs pl pu ⟨a,xs,rfl,hx,q⟩;cases rx;obtain⟨ac,r,ht,hz⟩:=I.list hx;have ai:=r.length;refine#["list",_,slot_list_getitem.lookup,ht.isList.typeIs,(wpAny_getItem_list_slice ht.isList hs pl pu .none (by simp) ?_ (by simp_all))];rw[kv1,<-ai];refine#[.ref s.heap.objs.size,_,I.laid (t':=s.toks) (λb ob q=>X2 _ q) (Xa _) ?_,rfl,q _ (I.hok.fresh (Xa _))];exact#[Ye (kkf xs lo hi) hz,_,0,(r.drop _).take _,X9 _ rfl]
theorem kx9:OpR X (compareOp .NotIn) (λx y H Q=>∃i j,x=.str i/\y=.str j/\Q (.bl (!(!(Builtin.Str.occurrences j i 0 j.length 1).isEmpty))) H):=by
 rintro a8 s σ H x y v u Q I rx ry ⟨i,j,rfl,rfl,q⟩;obtain⟨t,rfl⟩:=rx;obtain⟨t',rfl⟩:=ry;exact notIn_str #[.bl _,H,I,rfl,q]
theorem call_len_seq:CallR X (.builtin "len") (λxs H Q=>∃p ys,xs=[.ref p]/\(SqL X.K H p ys\/SqT X.K H p ys)/\Q (.int ys.length) H):=by
 rintro a8 s σ H xs us Q I r ⟨p,ys,rfl,hq,q⟩;obtain⟨u,rfl,rx⟩:=xv r;cases rx;have hn:=Wj;rcases hq with hq|hq
 ·obtain⟨ac,r',pl,hz⟩:=I.list hq;have ai:=r'.length;exact Calls.call_len_list pl.isList (by simp only[X8]<;>lia) #[.int ys.length,H,I.tok _,#[s.toks+1,by rw[X8,ai]],q]
 ·obtain⟨ac,r',pl,hz⟩:=I.tuple hq;have ai:=r'.length;exact len_tuple pl (by simp only[X8]<;>lia) #[.int ys.length,H,I.tok _,#[s.toks+1,by rw[X8,ai]],q]
theorem call_len_str:CallR X (.builtin "len") (λxs H Q=>∃z,xs=[.str z]/\z.length<=sizeLine/\Q (.int z.length) H):=by
 rintro a8 s σ H xs us Q I r ⟨z,rfl,hz,q⟩;obtain⟨u,rfl,t,rfl⟩:=xv r;have hn:=Wj;exact len_str ⋯ #[.int z.length,H,I.tok _,#[_,rfl],q]
theorem CallR.or{f r r'}(h:CallR X f r)(h':CallR X f r'):CallR X f (λxs H Q=>r xs H Q\/r' xs H Q):=by
 intro a8 s σ H xs us Q I rs q;rcases q with q|q
 ·exact h a8 s σ H xs us Q I rs q
 ·exact h' a8 s σ H xs us Q I rs q
theorem kzd:CallR X (.type "list") (λxs H Q=>∃p ys,xs=[.ref p]/\(SqL X.K H p ys\/SqT X.K H p ys)/\∀l,H l=none->Q (.ref l) (upd H l (.lst ys))):=by
 rintro a8 s σ H xs us Q I r ⟨p,ys,rfl,hq,q⟩;obtain⟨u,rfl,rx⟩:=xv r;cases rx;have fin:∀ac,Vals ys ac->ys.length<=sizeLine->∀h' (c'),_ ->
   h'.get? s.heap.objs.size=some {cls:=.type "list",dict:=none,data:=.seq ac.toArray c',slots:=(List.toArray [])}->EP X a8 σ Q _ {s with heap:=h' }:=λac r' hz h' c' kp e=>
  #[.ref s.heap.objs.size,_,I.laid (t':=s.toks) kp (Xa _) (show ObjOk X.prog X.w _ h' _ (.lst ys)from#[hz,ac,c',r',e]),rfl,q _ (I.hok.fresh (Xa _))]
 rcases hq with hq|hq
 ·obtain⟨ac,r',pl,hz⟩:=I.list hq;have ai:=r'.length;obtain⟨o,ho,hc,n,hd⟩:=pl.isList;exact call_list_seq p (.inl rfl) ho hc hd (λh' c' kp e=>fin ac r' hz h' c' kp e) (by simp only[X8]<;>lia)
 ·obtain⟨ac,r',pl,hz⟩:=I.tuple hq;have ai:=r'.length;obtain⟨o,ho,hc,n,hd⟩:=pl;exact call_list_seq p (.inr rfl) ho hc hd (λh' c' kp e=>fin ac r' hz h' c' kp e) (by simp only[X8]<;>lia)
theorem kwa:CallR X (.type "tuple") (λxs H Q=>∃p ys,xs=[.ref p]/\((SqL X.K H p ys/\∀l,H l=none->Q (.ref l) (upd H l (.tup ys)))\/(SqT X.K H p ys/\Q (.ref p) H))):=by
 rintro a8 s σ H xs us Q I r ⟨p,ys,rfl,h⟩;obtain⟨u,rfl,rx⟩:=xv r;cases rx;rcases h with⟨hq,q⟩|⟨hq,q⟩
 ·obtain⟨ac,r',pl,hz⟩:=I.list hq;have ai:=r'.length;refine call_tuple_list pl.isList (λh' kp=>?_) (by simp_all);have I1:Inv X a8 σ H {s with heap:=h' }:=I.kept (t':=s.toks) kp;have I2:Inv X a8 σ _ {s with heap:=h'.push {cls:=.type "tuple",data:=.seq ac.toArray}}:=
   I1.laid (t':=s.toks) (λb o e=>X2 _ e) (Xa _) (show ObjOk X.prog X.w _ _ _ (.tup ys)from#[hz,ac,r',IsTupD.new _ _])
  exact#[.ref h'.objs.size,_,I2,rfl,q _ (I1.hok.fresh (Xa _))]
 ·obtain⟨ac,r',pl,hz⟩:=I.tuple hq;exact call_tuple_same pl #[.ref p,H,I,rfl,q]
noncomputable def tyV(K : Frag)(T : String)(x : V)(H : Hp): Prop:= match x with
  |.str _=>T = "str"|.int _=>T = "int"
  |.ref p=>(T = "list" /\ ∃xs,SqL K H p xs) \/ (T = "tuple" /\ ∃o,K.lookup p = some o /\ o.cls = .type "tuple" /\ o.dict = none) \/
      (T = "dict" /\ ((∃kvs,H p = some (.dK kvs)) \/ ∃kvs,H p = some (.dT kvs))) \/ (T = "set" /\ ∃S n,H p = some (.set S n))
  |_=>False
theorem ww4{a8}{σ:St}{H s T x v}(I:Inv X a8 σ H s)(r:RelV x v)(ty:tyV X.K T x H):
  s.TypeIs v T/\∀a,v=.ref a->∃ob,s.heap.get? a=some ob/\ob.dict=none:=by
 cases x with
 | str z=>
  obtain⟨t,rfl⟩:=r;cases(ty);exact#[typeIs_str s z t,λ_ e=>nomatch e]
 | int i=>
  obtain⟨t,rfl⟩:=r;cases(ty);exact#[typeIs_int s i t,λ_ e=>nomatch e]
 | ref p=>
  cases r;rcases ty with⟨rfl,xs,hq⟩|⟨rfl,o,hk,hc,hd⟩|⟨rfl,hk⟩|⟨rfl,S,n,hk⟩
  ·obtain⟨ac,_,pl,_⟩:=I.list hq;refine#[pl.isList.typeIs,λa e=>?_];cases e;obtain⟨o,n,e,c,hd,_⟩:=pl;exact#[o,e,hd]
  ·refine#[#[o,I.kIn p o hk,hc],λa e=>?_];cases e;exact#[o,I.kIn _ o hk,hd]
  ·have z:∃o,s.heap.get? p=some o/\o.ExactDict:=by
    rcases hk with⟨kvs,hk⟩|⟨kvs,hk⟩
    ·obtain⟨_,_,_,_,o,_,_,e,ex,_⟩:=I.hok p _ hk;exact#[o,e,ex]
    ·obtain⟨_,_,_,_,o,_,_,e,ex,_⟩:=I.hok p _ hk;exact#[o,e,ex]
   obtain⟨o,e,ex⟩:=z;refine#[#[o,e,ex.1],λa e2=>?_];cases e2;exact#[o,e,ex.2.1]
  ·obtain⟨o,_,_,_,e,ex,_⟩:=I.hok p _ hk;refine#[#[o,e,ex.1],λa e2=>?_];cases e2;exact#[o,e,ex.2.1]
 |_=>exact False.elim ty
abbrev tBM(K:Frag)(T:String)(r:V->List V->Hp->VK->Prop)(to:TE)(t:TA):TE:=fun σ H Q=>to σ H λx H1=>tyV K T x H1/\t σ H1 λxs H2=>r x xs H2 Q
variable {o e:Expr}{es:List Expr}{to:TE}{t:TA}{name:Str}{apos aj:Pos}{T id:String}{r:V->List V->Hp->VK->Prop}
abbrev _root_.Abe(p q:Pos):Prop:=(p.endLine==q.line)=true
theorem wz6(pa:PlainAttrs T)(slot:Slot T name id)(um:typeOf (.builtin id)=pure (.type "method_descriptor"))(hm:MtR X id r)(ho:PE X o to)(ha:PA X (e::es) t)
  (dg:autoParam (attributeBase o name X.env (eval o X.env)=eval o X.env) Ŕ)
  (fy:autoParam (((backTo aj (starEach (e::es) X.env)).all (λx=>!x.1)&&(backToKw aj (keywordEach [] X.env)).all (λx=>x.1.isSome)
   && decide ((e::es).length+([]:List Keyword).length+(if([]:List Keyword).isEmpty then 0 else 1)<30))=true) Ŕ)
  (da:autoParam (Abe apos aj) Ŕ) (hs:autoParam (Abs e es X) Ŕ) (bq:autoParam (Abb aj es X) Ŕ):
  PE X (.Call (.Attribute o name apos) (e::es) [] aj) (tBM X.K T r to t):=by
 intro a8 s σ H Q I h;refine wpAny_Call_method_late dg fy da rfl (thn (ho a8 s σ H _ I h) λv s1 hz=>?_);obtain⟨x,H1,I1,r1,ty,q1⟩:=hz;obtain⟨h1,h2⟩:=ww4 I1 r1 ty;refine#[T,id,pa,slot,um,h1,h2,?_];have hA:=ha aj a8 s1 σ H1 _ I1 q1;rw[hs]at hA ⊢;exact Calls.callWith_builtin (by show(false||(backTo aj _).any _)=false;rw[bq]<;>rfl) (Calls.evalArgs_plain (thn hA λus s2 hz=>by obtain⟨vs,H2,I2,r2,q2⟩:=hz;exact hm a8 s2 σ H2 x vs v us Q I2 r1 r2 q2))
end
noncomputable def MtM(X:Cx)(id:String)(r:V->List V->Hp->VK->Prop):Prop:=
 ∀(a8:LA9) (s:Shared) (σ:St) (H:Hp) (x:V) (xs:List V) (v:Value) (us:List Value) (Q:VK),Inv X a8 σ H s->RelV x v->Vals xs us->r x xs H Q ->
  wpAny (model X.prog X.w) X.A (call (.builtin id) (v::us)) (EP X a8 σ Q) X.xe s
theorem Vals.one:∀{x us},Vals [x] us->∃u,us=[u]/\RelV x u:=by
 intro x us h;cases h with|cons r h=>cases h;exact#[_,rfl,r]
theorem Vals.eraseIdx:∀{xs us} (i),Vals xs us->Vals (xs.eraseIdx i) (us.eraseIdx i)
 |_,_,_,.nil=>.nil|_,_,0,.cons _ t=>t|_,_,i+1,.cons r t=>.cons r (Vals.eraseIdx i t)
theorem Vals.rep{xs us}(h:Vals xs us):∀k,Vals (List.replicate k xs).flatten (List.replicate k us).flatten
 |0=>.nil
 |k+1=>by
  exact Vals.append h (Vals.rep h k)
theorem kxl{α:Type}:∀(l:List α) (i),(l.eraseIdx i).length<=l.length
 |[],_=>Xa _|_::_,0=>Nat.le_succ _|_::r,i+1=>Nat.succ_le_succ (kxl r i)
theorem kk9(ac):∀k (af:List Value),
  List.foldl (λx1 x2=>x1++x2) af.toArray (List.replicate k ac.toArray)=(af++(List.replicate k ac).flatten).toArray
 | 0,af=>by simp
 | k+1,af=>by
  have e:af.toArray++ac.toArray=(af++ac).toArray:=by simp
  have e2:(af++ac)++(List.replicate k ac).flatten=af++(List.replicate (k+1) ac).flatten:=by
   rw[List.replicate_succ,List.flatten_cons,Xq]
  rw[<-e2,<-kk9 ac k _,<-e,List.replicate_succ,Yx]
section
variable {X:Cx}{a8:LA9}{σ:St}{H:Hp}{s:Shared}{l b:Addr}{xs ys zs:List V}
theorem Inv.lset{ac its':List Value}{n f t'}(I:Inv X a8 σ H s)(hH:H l=some (.lst xs))
  (e:s.heap.get? l=some {cls:=.type "list",data:=.seq ac.toArray n}) (hf:f ac.toArray=its'.toArray) (hv:Vals ys its') (hz:ys.length<=sizeLine):
  Inv X a8 σ (upd H l (.lst ys)) {s with heap:=s.heap.update l (Obj.mapSeq f),toks:=t' }:=by
 have q:=PySem.IsL.update e f;rw[hf]at q;refine I.write (hH▸trivial) (.inl rfl) (λb' u hb hu=>(Z6 s.heap _ (Ne.symm hb)).trans hu) #[_,q] ?_;exact#[hz,its',_,hv,q]
theorem Inv.lnew{ac t'}(I:Inv X a8 σ H s)(hv:Vals ys ac)(hz:ys.length<=sizeLine):
  Inv X a8 σ (upd H s.heap.objs.size (.lst ys)) {s with heap:=s.heap.push {cls:=.type "list",data:=.seq ac.toArray},toks:=t' }:=
 I.laid (λ_ _ q=>X2 _ q) (Xa _) #[hz,ac,0,hv,X9 _ rfl]
theorem Inv.fresh(I:Inv X a8 σ H s):H s.heap.objs.size=none:=I.hok.fresh (Xa _)
theorem Inv.lstM(I:Inv X a8 σ H s)(hH:H l=some (.lst xs)):xs.length<=sizeLine/\∃(ac:List Value) (n:Nat),Vals xs ac/\xs.length=ac.length/\s.heap.get? l=some {cls:=.type "list",data:=.seq ac.toArray n}:=by
 obtain⟨z,ac,n,r,e⟩:=I.hok l _ hH;exact#[z,ac,n,r,r.length,e]
theorem vwb{n}(h:n<=sizeLine):Builtin.List.listTooLong n=false:=by
 unfold Builtin.List.listTooLong
 simp_all
end
section
variable {X:Cx}
def qz4:V->List V->Hp->VK->Prop:=λx vs H Q=>∃l xs y,x=.ref l/\vs=[y]/\H l=some (.lst xs)/\xs.length<sizeLine/\Q .non (upd H l (.lst (xs++[y])))
theorem vj5:MtM X "list.append" qz4:=by
 rintro a8 s σ H x vs v us Q I rx rv ⟨l,xs,y,rfl,rfl,hH,hz,q⟩;cases rx;obtain⟨u,rfl,ru⟩:=rv.one;obtain⟨z,ac,n,r,hl,e⟩:=I.lstM hH;refine call_meets F.slot_list_append #[_,e,rfl] F.entry_list_append (F.args_list_append_2 _ _) (PySem.list_append l ac.toArray n u (by simp_all)) #[e,(#[.non,_,I.lset (its':=ac++[u]) hH e (by simp) (r.append (.cons ru .nil)) ?_,rfl,q])];rw[Xf,Y4];lia
def vz0:V->List V->Hp->VK->Prop:=λx vs H Q=>∃l xs i k y,x=.ref l/\vs=[.int i]/\H l=some (.lst xs)/\-(2 ^ 63)<=i/\i<2 ^ 63/\seqIndex? i xs.length=some k/\xs[k]?=some y/\Q y (upd H l (.lst (xs.eraseIdx k)))
theorem qqe:MtM X "list.pop" vz0:=by
 rintro a8 s σ H x vs v us Q I rx rv ⟨l,xs,i,k,y,rfl,rfl,hH,h1,h2,hk,hy,q⟩;cases rx;obtain⟨u,rfl,ru⟩:=rv.one;obtain⟨t,rfl⟩:=ru;obtain⟨z,ac,n,r,hl,e⟩:=I.lstM hH;obtain⟨w,hw,ja⟩:=r.get hy;refine call_meets F.slot_list_pop #[_,e,rfl] F.entry_list_pop (F.args_list_pop_2 _ _)
  (MeetsSeq.list_pop_at l ac.toArray n i t k w (fitsIndex_both h1 h2) (by rw[X8,<-hl];exact hk) (Yp▸hw) (by rw[X8];lia)) #[e,?_]
 refine#[y,_,I.lset (its':=ac.eraseIdx k) hH e ?_ (r.eraseIdx k) ?_,ja,q]
 ·show ac.toArray.eraseIdxIfInBounds k=(ac.eraseIdx k).toArray;rw[List.eraseIdxIfInBounds_toArray]
 ·have:=kxl xs k;lia
theorem vjh{α:Type}(xs:List α) k:(List.replicate k xs).flatten.length=k*xs.length:=by
 induction k with|zero=>simp|succ k ih=>simp_all
end
end L2
namespace Att
open PySem PySem.W PySem.Calls PyProof.Rows
theorem kk5{P h}:∀ns vs,WellAll P h vs (ns.map WData.int)->IntsAre vs ns:=by
 intro ns
 induction ns with
 | nil=>
  intro vs w;cases w;exact .nil
 | cons n ns ih=>
  intro vs w;cases w with
  |cons a b=>
   cases a;exact .cons _ _ (ih _ b)
theorem script_of{l:OpenLaw}{n}(hn:l.most=some n){P h args}{de}
  (my:l.row.toRowW.claim.pre args=true) (se:WellAll P h de args):
  ∃a vs ns,de=[Value.ref a]/\args=[WData.list (ns.map WData.int)]/\h.get? a=some {cls:=.type "list",data:=.seq vs.toArray}/\IntsAre vs ns/\ns.length<=n:=by
 have f7:WShape.hasAll [] args [.list .int]=true:=(pre_splitW my).1;have hc:l.pre.holds [] {args:=args}=true:=(pre_splitW my).2;obtain⟨d,r,rfl,h1,h2⟩:=hasAllW_cons f7;obtain rfl:=hasAllW_nil h2;obtain⟨xs,rfl,h3⟩:=hasW_list h1;obtain⟨ns,rfl⟩:=items_int h3;have ai:ns.length<=n:=by
  unfold OpenLaw.pre at hc;have h4:(WTm.not (.lt (.lit (.int n)) (.len (.arg 0)))).holds [] {args:=[.list (ns.map .int)]}=true:=by
   have h4:=(holds_andW hc).1;rw[hn]at h4;exact h4
  have h5:=condW_of h4 (w_not (w_lt w_lit (w_len_list (w_arg rfl))))
  grind
 cases se with
 |cons w1 w2=>
  cases w2;cases w1 with|list ho lq=>exact#[_,_,ns,rfl,rfl,ho,kk5 ns _ lq,ai]
theorem post_true(l:OpenLaw) args:l.row.toRowW.claim.post args (.bool true) args=true:=
 postW_of
  (show WShape.has [] _ .bool=true by first|rfl|decide|simp[WShape.armsAll])
  (w_eq_bool (w_res rfl) w_lit) rfl
end Att
namespace L2
open PySem PySem.Spec PyProof.Rows
def xwk(H:Hp):Prop:=∀b,H b=none\/∃o xs,H b=some (.frz o (.lst xs))
def vQ(s:Stmt):Arguments:=match s with
 |.FunctionDef _ a _ _ _ _ _ _ _ _=>a|_=>{posonlyargs:=[],args:=[],vararg:=none,kwonlyargs:=[],kw_defaults:=[],kwarg:=none,defaults:=[]}
def z3(s:Stmt):List Stmt:=match s with
 |.FunctionDef _ _ b _ _ _ _ _ _ _=>b|_=>[]
def jV(s:Stmt):Scope:=match s with
 |.FunctionDef _ _ _ _ _ _ sc _ _ _=>sc|_=>{kind:=.function,names:=[],isGenerator:=false,isCoroutine:=false}
structure Fun (K:Frag)(x qual:Str)(st:Stmt)(f:Addr)(fd:FuncData):Prop where
 ex:∃(oc:Value) (od:Option Addr) (kV gu pm:Value) (an:Option Addr) (cj ct:Value) (m8:Array (Option Value)),
  fd=PySem.W.fnOf x qual (vQ st) (z3 st) (jV st) .none kV gu pm an cj ct/\K.lookup f=some #[oc,od,.func fd,m8]/\PySem.W.codeIn K cj qual=true
 kp:PySem.W.keepIn K (.ref f)=true
section
variable {P:Program}{w:World}{K:Frag}{mg:Str->Option Value}{base:Heap}
theorem Fun.binds{x qual st f fd ps}(F:Fun K x qual st f fd)
  (h:∀kV gu pm an (cj ct) us,us.length=ps.length->bindArgs (PySem.W.fnOf x qual (vQ st) (z3 st) (jV st) .none kV gu pm an cj ct) #[us,[]]=pure (ps.zip us)):Binds K fd ps []:=by
 obtain⟨oc,od,kV,gu,pm,an,cj,ct,m8,rfl,lk,ik⟩:=F.ex;exact .all (h kV gu pm an cj ct)
theorem vkc{x qual st f oc od an m8 kV gu pm cj ct}(l:K.lookup f=some #[oc,od,.func (PySem.W.fnOf x qual (vQ st) (z3 st) (jV st) .none kV gu pm an cj ct),m8])
  (c:PySem.W.codeIn K cj qual=true) (k:PySem.W.keepIn K (.ref f)=true):Fun K x qual st f (PySem.W.fnOf x qual (vQ st) (z3 st) (jV st) .none kV gu pm an cj ct):=#[#[oc,od,kV,gu,pm,an,cj,ct,m8,rfl,l,c],k]
end
section
variable {X:Cx}
theorem pv(i:Nat){x:Str}{pos:Pos}(hN:autoParam (X.N[i]?=some x) Ŕ)(hv:autoParam (Vis X.env.scope x) ř)(hd:autoParam (Abd x) ŕ)
  (ik:autoParam ((x==("__classdict__":Str))=false) ŕ):PE X (.Name x pos) (zJ i):=wxx hN hv hd ik
end
def kw(H H':Hp):Prop:=∀b o,H b=some o->H' b=some o
section
variable {κ:Type}[DecidableEq κ]
def zV(kvs:List (κ×V))(k:κ):Option V:=(kvs.find? λkv=>decide (kv.1=k)).map (·.2)
def x8(kvs:List (κ×V))(k:κ)(v:V):List (κ×V):=
 if(kvs.any λkv=>decide (kv.1=k))=true then kvs.map (λkv=>if kv.1=k then(kv.1,v)else kv)else kvs++[(k,v)]
theorem kqw{p r}{k:κ}(e:p.1=k):zV (p::r) k=some p.2:=by simp[zV,e]
theorem kqx{p r}{k:κ}(e:¬p.1=k):zV (p::r) k=zV r k:=by simp[zV,e]
theorem qkk(k):∀kvs:List (κ×V),(kvs.any λkv=>decide (kv.1=k))=(zV kvs k).isSome
 |[]=>rfl
 |p::r=>by
  rw[Zi]
  by_cases e:p.1=k
  ·simp only[kqw e,Xb e,Bool.true_or,Option.isSome_some]
  ·rw[kqx e,Xl e];exact qkk k r
theorem kk2 kvs (k:κ) v:(x8 kvs k v).length<=kvs.length+1:=by
 unfold x8
 split
 ·rw[X3];lia
 ·simp_all
theorem RelO.isSome_eq{o u}(r:RelO o u):o.isSome=u.isSome:=by
 cases o with
 |none=>cases u with|none=>rfl|some _=>exact(r).elim
 |some _=>cases u with|none=>exact(r).elim|some _=>rfl
theorem RelO.getD{o u d d'}(r:RelO o u)(rd:RelV d d'):RelV (o.getD d) (u.getD d'):=by
 cases o with
 |none=>cases u with|none=>exact rd|some _=>exact(show False from r).elim
 |some _=>cases u with|none=>exact(show False from r).elim|some _=>exact r
theorem KV.val{kvs vs}(r:KV kvs vs)(k:κ):RelO (zV kvs k) (valueAt vs k):=by
 induction r with
 | nil=>exact Zh
 | @cons p q ps qs h t ih=>
  obtain⟨h1,h2⟩:=h
  by_cases e:p.1=k
  ·have e':q.1=k:=h1.symm.trans e;have b:valueAt (q::qs) k=some q.2:=by simp[valueAt,e']
   rw[kqw e,b];exact h2
  ·have e':¬q.1=k:=λz=>e (h1.trans z)
   have b:valueAt (q::qs) k=valueAt qs k:=by simp[valueAt,e']
   rw[kqx e,b];exact ih
theorem KV.any{kvs vs}(r:KV kvs vs)(k:κ):(kvs.any λkv=>decide (kv.1=k))=vs.any λkv=>decide (kv.1=k):=by
 induction r with|nil=>rfl|cons h t ih=>simp_all
theorem KV.repl{kvs vs}(r:KV kvs vs)(k:κ){y u}(ry:RelV y u):
  KV (kvs.map λkv=>if kv.1=k then(kv.1,y)else kv) (vs.map λkv=>if kv.1=k then(kv.1,u)else kv):=by
 induction r with
 |nil=>exact .nil
 |@cons p q ps qs h t ih=>
  rw[List.map_cons,List.map_cons];refine .cons ?_ ih;obtain⟨h1,h2⟩:=h
  by_cases e:p.1=k
  ·rw[Xd e,Xd (h1.symm.trans e)];exact#[h1,ry]
  ·rw[Xi e,Xi (λz=>e (h1.trans z))];exact#[h1,h2]
theorem KV.put{kvs vs}(r:KV kvs vs)(k:κ){y u}(ry:RelV y u):KV (x8 kvs k y) (stored vs k u):=by
 unfold x8 stored;rw[r.any k]
 by_cases e:(vs.any λkv=>decide (kv.1=k))=true
 ·rw[Xd e,Xd e];exact r.repl k ry
 ·rw[Xi e,Xi e];exact Paired.snoc r #[rfl,ry]
theorem KV.length{kvs}{vs:List (κ×Value)}(r:KV kvs vs):kvs.length=vs.length:=Paired.length r
end
theorem V6{P w k u}(r:RelV (kV k) u):(xj P w).is k u=true:=by
 cases k with|inl i=>obtain⟨t,e⟩:=(r);subst e;exact qjq P w i t|inr x=>obtain⟨t,e⟩:=(r);subst e;exact qjp P w x t
theorem kxp{P w}:∀{ks us},Vals (ks.map kV) us->ItemsAre (xj P w) ks us
 |[],_,r=>by cases r;exact .nil
 |k::ks,_,r=>by
  cases r with|cons h t=>exact .cons (V6 h) (kxp t)
abbrev KT(H:Hp):List (List Key×V)->List (List Key×Addr×Value)->Prop:=Paired λp q=>p.1=q.1/\H q.2.1=some (.tup (p.1.map kV))/\RelV p.2 q.2.2
theorem KT.val{H kvs xs}(r:KT H kvs xs) k:RelO (zV kvs k) ((atKey xs k).map (·.2)):=by
 induction r with
 | nil=>exact Zh
 | @cons p q ps qs h t ih=>
  obtain⟨h1,_,h2⟩:=h
  by_cases e:p.1=k
  ·have e':q.1=k:=h1.symm.trans e;have b:atKey (q::qs) k=some q.2:=by simp[atKey,e']
   rw[kqw e,b];exact h2
  ·have e':¬q.1=k:=λz=>e (h1.trans z)
   have b:atKey (q::qs) k=atKey qs k:=by simp[atKey,e']
   rw[kqx e,b];exact ih
theorem KT.repl{H kvs xs}(r:KT H kvs xs)(k){y u}(ry:RelV y u):
  KT H (kvs.map λkv=>if kv.1=k then(kv.1,y)else kv) (xs.map (putAt k u)):=by
 induction r with
 |nil=>exact .nil
 |@cons p q ps qs h t ih=>
  rw[List.map_cons];refine .cons ?_ ih;obtain⟨h1,h2,h3⟩:=h;unfold putAt
  by_cases e:p.1=k
  ·rw[Xd e,Xd (h1.symm.trans e)];exact#[h1,h2,ry]
  ·rw[Xi e,Xi (λz=>e (h1.trans z))];exact#[h1,h2,h3]
theorem KT.put{H kvs xs}(r:KT H kvs xs)(k){b y u}(hb:H b=some (.tup (k.map kV)))(ry:RelV y u):
  KT H (x8 kvs k y) (storedH xs k b u):=by
 have e:(kvs.any λkv=>decide (kv.1=k))=(atKey xs k).isSome:=by
  rw[qkk,(r.val k).isSome_eq,Yt]
 unfold x8 storedH;rw[e]
 by_cases q:(atKey xs k).isSome=true
 ·rw[Xd q,Xd q];exact r.repl k ry
 ·rw[Xi q,Xi q];exact Paired.snoc r #[rfl,hb,ry]
theorem KT.keeps{H H' kvs xs}(r:KT H kvs xs)(ht:∀b ys,H b=some (.tup ys)->H' b=some (.tup ys)):KT H' kvs xs:=
 Paired.mapP r λ_ _ z=>#[z.1,ht _ _ z.2.1,z.2.2]
section
variable {P:Program}{w:World}{H:Hp}{h:Heap}{a:Addr}
theorem vvl{u}(ok:HOk P w H h)(e:Rd H a u):ObjOk P w H h a u:=e.ok ok
theorem Qv{kvs}(ok:HOk P w H h)(e:Rd H a (.dK kvs)):kvs.length<=sizeLine/\(a==sysModules)=false/\∃vs,KV kvs vs/\h.DictOf (xj P w) a vs:=
 show ObjOk P w H h a _ from vvl ok e
theorem wqv{kvs}(ok:HOk P w H h)(e:H a=some (.dK kvs)):kvs.length<=sizeLine/\(a==sysModules)=false/\∃vs,KV kvs vs/\h.DictOf (xj P w) a vs:=Qv ok (.inl e)
theorem WK{ks}(ok:HOk P w H h)(e:H a=some (.tup (ks.map kV))):(tupleKind (xj P w)).is h ks a:=by
 obtain⟨_,ac,r,o,h1,h2,_,n,h3⟩:=(ok a _ e);exact#[o,ac.toArray,n,h1,h2,h3,by simpa using kxp r]
theorem VQ{kvs}(ok:HOk P w H h)(e:Rd H a (.dT kvs)):kvs.length<=sizeLine/\(a==sysModules)=false /\
  ∃ xs,KT H kvs xs/\h.DictOfH (tupleKind (xj P w)) a xs:=by
 obtain⟨z,y,xs,r,o,es,ep,h1,h2,h3,h4,h5⟩:=(vvl ok e);refine#[z,y,xs,r,o,es,ep,h1,h2,h3,h4,λx hx=>?_,h5];have all:∀{l m},KT H l m->∀x∈m,(tupleKind (xj P w)).is h x.1 x.2.1:=by
  intro l m q
  induction q with
  | nil=>simp_all
  | @cons p q ps qs hq t ih=>
   intro x hx;rcases aD hx with e|hx
   ·subst e;exact WK ok (by simp_all)
   ·exact ih x hx
 exact all r x hx
theorem xw9{kvs}(ok:HOk P w H h)(e:H a=some (.dT kvs)):kvs.length<=sizeLine/\(a==sysModules)=false /\
  ∃xs,KT H kvs xs/\h.DictOfH (tupleKind (xj P w)) a xs:=VQ ok (.inl e)
end
def DGet(H:Hp)(a:Addr)(y:V)(r:Option V):Prop:=
 (∃kvs k,Rd H a (.dK kvs)/\y=kV k/\r=zV kvs k)\/∃kvs k b,Rd H a (.dT kvs)/\y=.ref b/\H b=some (.tup (k.map kV))/\r=zV kvs k
def DPut(H:Hp)(a:Addr)(y v:V)(H':Hp):Prop:=
 (∃kvs k,H a=some (.dK kvs)/\y=kV k/\kvs.length<sizeLine/\H'=upd H a (.dK (x8 kvs k v))) \/
 ∃kvs k b,H a=some (.dT kvs)/\y=.ref b/\H b=some (.tup (k.map kV))/\kvs.length<sizeLine/\H'=upd H a (.dT (x8 kvs k v))
theorem DGet.k{H a kvs k}(e:H a=some (.dK kvs)):DGet H a (kV k) (zV kvs k):=.inl #[kvs,k,.inl e,rfl,rfl]
theorem DPut.k{H a kvs k v}(e:H a=some (.dK kvs))(hl:kvs.length<sizeLine):DPut H a (kV k) v (upd H a (.dK (x8 kvs k v))):=.inl #[kvs,k,e,rfl,hl,rfl]
section
variable {X:Cx}{a8:LA9}{σ:St}{H:Hp}{s:Shared}{a:Addr}{y v:V}{u r:Value}{o:Option V}{A:Around}{E:VP9}
theorem Inv.big(I:Inv X a8 σ H s):sysModules<s.heap.objs.size:=by
 exact Nat.lt_trans ⋯ ((I.mod.glob.keeps I.bk).lt)
theorem vq0{Q}(hu:A.units+1<cLine)(I:Inv X a8 σ H s)(g:DGet H a y (some v))(ry:RelV y u)(h:∀w' s',Inv X a8 σ H s'->RelV v w'->Q w' s'):
  wpAny (model X.prog X.w) A (getItem (.ref a) u) Q E s:=by
 rcases g with⟨kvs,k,e,ey,l⟩|⟨kvs,k,b,e,ey,eb,l⟩
 ·subst ey;obtain⟨z,hd,vs,dm,dd⟩:=Qv I.hok e;obtain⟨w',hw,ja⟩:=RelO.some_of (l▸dm.val k);exact wpAny_getItem_of (V6 ry) dd.mapOf hw (h w' _ (I.tok _) ja)
 ·subst ey;cases(ry);obtain⟨z,hd,xs,dm,dd⟩:=VQ I.hok e;obtain⟨w',hw,ja⟩:=RelO.some_of (l▸dm.val k);obtain⟨p,hp,hp2⟩:=Option.map_eq_some_iff.mp hw;refine wpAny_getItem_heap (tupleKind_room_in1 hu) (WK I.hok eb) dd hp ?_;rw[hp2];exact h w' _ (I.tok _) ja
theorem d_in{Q}(hu:A.units+1<cLine)(I:Inv X a8 σ H s)(g:DGet H a y o)(ry:RelV y u)(h:∀s',Inv X a8 σ H s'->Q (.bool o.isSome) s'):
  wpAny (model X.prog X.w) A (compareOp .In u (.ref a)) Q E s:=by
 rcases g with⟨kvs,k,e,ey,l⟩|⟨kvs,k,b,e,ey,eb,l⟩
 ·subst ey;obtain⟨z,hd,vs,dm,dd⟩:=Qv I.hok e;refine wpAny_in_of (V6 ry) hd dd.mapOf ?_;rw[<-(dm.val k).isSome_eq,<-l];exact h _ (I.tok _)
 ·subst ey;cases(show u=Value.ref b from ry);obtain⟨z,hd,xs,dm,dd⟩:=VQ I.hok e;refine wpAny_in_heap (tupleKind_room_in1 hu) (WK I.hok eb) hd dd ?_;have q:=(dm.val k).isSome_eq;rw[Yt]at q;rw[<-q,<-l];exact h _ (I.tok _)
theorem wqy{Q}(hu:A.units+1<cLine)(I:Inv X a8 σ H s)(g:DGet H a y o)(ry:RelV y u)(h:∀s',Inv X a8 σ H s'->Q (.bool (!o.isSome)) s'):
  wpAny (model X.prog X.w) A (compareOp .NotIn u (.ref a)) Q E s:=by
 rcases g with⟨kvs,k,e,ey,l⟩|⟨kvs,k,b,e,ey,eb,l⟩
 ·subst ey;obtain⟨z,hd,vs,dm,dd⟩:=Qv I.hok e;refine wpAny_notIn_of (V6 ry) hd dd.mapOf ?_;rw[<-(dm.val k).isSome_eq,<-l];exact h _ (I.tok _)
 ·subst ey;cases(ry);obtain⟨z,hd,xs,dm,dd⟩:=VQ I.hok e;refine wpAny_notIn_heap (tupleKind_room_in1 hu) (WK I.hok eb) hd dd ?_;have q:=(dm.val k).isSome_eq;rw[Yt]at q;rw[<-q,<-l];exact h _ (I.tok _)
theorem kw9{h' t' ob}(I:Inv X a8 σ H s)(mu:Mut (H a))(hs:Heap.SameBut a s.heap h')(he:∃q,h'.get? a=some q)(new:ObjOk X.prog X.w (upd H a ob) h' a ob):
  Inv X a8 σ (upd H a ob) {s with heap:=h',toks:=t' }:=
 I.write mu (.inl rfl) (λb q hb z=>(hs.2 b hb).trans z) he new
theorem vzy{P w H' h' kvs vs}(z:kvs.length<=sizeLine)(hd:(a==sysModules)=false)(dm:KV kvs vs)(dd:h'.DictOf (xj P w) a vs):
  ObjOk P w H' h' a (.dK kvs):=#[z,hd,vs,dm,dd]
theorem vkz{H' Q}(hu:A.units+1<cLine)(I:Inv X a8 σ H s)(g:DPut H a y v H')(ry:RelV y u)(rv:RelV v r)(h:∀s',Inv X a8 σ H' s'->Q () s'):
  wpAny (model X.prog X.w) A (setItem (.ref a) u r) Q E s:=by
 rcases g with⟨kvs,k,e,ey,l,eH⟩|⟨kvs,k,b,e,ey,eb,l,eH⟩
 ·subst ey eH;obtain⟨z,hd,vs,dm,dd⟩:=wqv I.hok e;have hz:vs.length<=sizeLine:=by rw[<-dm.length];exact z
  have hl:(x8 kvs k v).length<=sizeLine:=by have:=kk2 kvs k v;lia
  refine wpAny_setItem_pairs (V6 ry) dd λh' dd' hs=>h _ ?_
  have he:∃q,h'.get? a=some q:=let ⟨q,_,_,hq,_⟩:=dd';#[q,hq]
  exact kw9 I (e▸Zh) hs he (vzy hl hd (dm.put k rv) dd')
 ·subst ey eH;cases(ry);obtain⟨z,hd,xs,dm,dd⟩:=xw9 I.hok e;have hz:xs.length<=sizeLine:=by rw[<-Paired.length dm];exact z
  have hl:(x8 kvs k v).length<=sizeLine:=by have:=kk2 kvs k v;lia
  refine wpAny_setItem_heap (tupleKind_room_in1 hu) (WK I.hok eb) dd λh' dd' hs=>h _ ?_
  obtain⟨q,es,ep,hq,h2,h3,h4,_,h5⟩:=dd';refine kw9 I (e▸Zh) hs #[q,hq] #[hl,hd,_,(dm.put k eb rv).keeps λc ys ec=>?_,q,es,ep,hq,h2,h3,h4,h5]
  rwa [qQ (xvn ec e (λz=>nomatch z))]
end
section
variable {X:Cx}{a8:LA9}{σ:St}{H:Hp}{s:Shared}{a:Addr}{kvs:List (Key×V)}{k:Key}{u:Value}{A:Around}{E:VP9}
theorem xwa{Q}(I:Inv X a8 σ H s)(e:Rd H a (.dK kvs))(h:∀t s',Inv X a8 σ H s'->Q (.int kvs.length t) s'):wpAny (model X.prog X.w) A (call (.builtin "len") [.ref a]) Q E s:=by
 obtain⟨z,hd,vs,dm,dd⟩:=Qv I.hok e;refine call_len_dict hd dd (by rw[<-dm.length];rw[sizeLine_eq]at z;lia) ?_;rw[<-dm.length];exact h _ _ (I.tok _)
end
def xkn(i:Expr):Prop:=∀ov iv,subscripted i false ov iv=operate [ov,iv] (getItem ov iv)
theorem qx2{prog w A E s env bh slice pos T id}{Q}
  (hl:typeLookup (.type T) "__getitem__"=pure (some (.builtin id))) (hs:xkn slice)
  (h:wpAny (model prog w) A (eval bh env) (λo s₁=>wpAny (model prog w) A (eval slice env) (λi s₂=>s₂.TypeIs o T/\wpAny (model prog w) A (getItem o i) Q E s₂) E s₁) E s):
  wpAny (model prog w) A (eval (.Subscript bh slice pos) env) Q E s:=by
 refine Subscript_ (wpAny_mono h (λo s₁ h₁=>wpAny_mono h₁ (λi s₂ h₂=>?_) λ_ _ x=>x) λ_ _ x=>x);obtain⟨hT,h₂⟩:=h₂;refine X0 ?_;rw[getitemInPython_of_ne hT.not_modules];refine X0 (Yy hT hl ?_);have fin:wpAny (model prog w) A (subscripted slice false o i) (λr s₃=>wpAny (model prog w) A (letTemporaryGo bh o r >>= λ_=>pure r) Q E s₃) E s₂:=by
  rw[hs o i];exact wpAny_operating (wpAny_mono h₂ (λr s₃ h₃=>X0 (wpAny_letTemporaryGo (X6 h₃))) λ_ _ x=>x)
 first
  |exact X6 (X0 fin)
theorem qk7{X a8}{σ:St}{H s a y o}(I:Inv X a8 σ H s)(g:DGet H a y o):s.TypeIs (.ref a) "dict":=by
 rcases g with⟨kvs,k,e,_,_⟩|⟨kvs,k,b,e,_,_,_⟩
 ·obtain⟨_,_,vs,_,dd⟩:=Qv I.hok e;exact dd.typeIs
 ·obtain⟨_,_,xs,_,dd⟩:=VQ I.hok e;exact dd.typeIs
abbrev xql(td ty:TE):TE:=fun σ H Q=>td σ H λx H1=>ty σ H1 λy H2=>∃a v,x=.ref a/\DGet H2 a y (some v)/\Q v H2
abbrev xqr(td ty tv:TE):TS:=λD σ H=>tv σ H λv H1=>td σ H1 λx H2=>ty σ H2 λy H3=>∃a H4,x=.ref a/\DPut H3 a y v H4/\D.nx σ H4
section
variable {X:Cx}{o i e bh:Expr}{pos bc jc:Pos}{td ty tv:TE}
theorem wko(hu:X.A.units+1<cLine)(ho:PE X o td)(hi:PE X i ty)(hs:xkn i):PE X (.Subscript o i pos) (xql td ty):=by
 intro a8 s σ H Q I h;refine qx2 PySem.F.slot_dict_getitem.lookup hs (thn (ho a8 s σ H _ I h) λu s1 #[x,H1,I1,rx,q1]=>thn (hi a8 s1 σ H1 _ I1 q1) λiv s2 hz=>?_);obtain⟨y,H2,I2,ry,a,v,ex,g,q2⟩:=hz;subst ex;obtain rfl:u=Value.ref a:=rx;exact#[qk7 I2 g,vq0 hu I2 g ry λw' s3 I3 ja=>#[v,H2,I3,ja,q2]]
theorem qzh(hu:X.A.units+1<cLine)(ho:PE X o td)(hi:PE X i ty)(hv:PE X bh tv)(hs:swapsWith bh (some (.Subscript o i bc)) pos.line X.env=pure false):
  PS X (.Assign [.Subscript o i bc] bh pos) (xqr td ty tv):=by
 intro a8 s σ H D I h;refine wpAny_Assign_Subscript (thn (hv a8 s σ H _ I h) λr s1 #[v,H1,I1,rv,q1]=>thn (ho a8 s1 σ H1 _ I1 q1) λu s2 #[x,H2,I2,rx,q2]=>thn (hi a8 s2 σ H2 _ I2 q2) λiv s3 hz=>?_) hs;obtain⟨y,H3,I3,ry,a,H4,ex,g,q3⟩:=hz;subst ex;obtain rfl:u=Value.ref a:=rx;exact vkz hu I3 g ry rv λs4 I4=>#[σ,H4,I4,q3]
end
theorem vx4{P w H}(h:Heap)(hb:sysModules<h.objs.size):ObjOk P w H (h.push {cls:=.type "dict",data:=.dict (List.toArray [])}) h.objs.size (.dK []):=
 #[Y6 _,beq_eq_false_iff_ne.mpr (Ne.symm (Xk hb)),[],.nil,Heap.DictOf.new h]
abbrev ww9:TE:=λ_ H Q=>∀p,H p=none->Q (.ref p) (upd H p (.dK []))
section
variable {X:Cx}{pos:Pos}
theorem qq8:PE X (.Dict [] [] pos) ww9:=λa8 s σ H Q I h=>
 wpAny_Dict_empty #[.ref s.heap.objs.size,_,I.laid (t':=s.toks) (λ_ _ q=>X2 _ q) (Xa _) (vx4 s.heap I.big),rfl,h _ (I.hok.fresh (Xa _))]
end
def vxs:List (TE×TE)->St->Hp->(List (V×V)->Hp->Prop)->Prop
 |[],_,H,Q=>Q [] H|(tk,tv)::r,σ,H,Q=>tk σ H λx H1=>tv σ H1 λy H2=>vxs r σ H2 λps H3=>Q ((x,y)::ps) H3
abbrev VV:List (V×V)->List (Value×Value)->Prop:=Paired λp q=>RelV p.1 q.1/\RelV p.2 q.2
noncomputable def PPs(X:Cx)(pos:Pos)(keys:List (Option Expr))(pd:List Expr)(trs:List (TE×TE)):Prop:=
 ∀(a8:LA9) (s:Shared) (σ:St) (H:Hp) (Q:List (V×V)->Hp->Prop),Inv X a8 σ H s->vxs trs σ H Q ->
  wpAny (model X.prog X.w) X.A (evalPairs (pairTrees keys pd X.env pos)) (λvs s'=>∃ps H',Inv X a8 σ H' s'/\VV ps vs/\Q ps H') X.xe s
theorem wkf{X:Cx}{pos:Pos}:PPs X pos [] [] []:=λa8 s σ H Q I h=>pairTrees_nil_walk #[[],H,I,.nil,h]
theorem vvz{X:Cx}{pos:Pos}{k v:Expr}{ks:List (Option Expr)}{vs:List Expr}{tk tv:TE}{trs:List (TE×TE)}(hk:PE X k tk)(hv:PE X v tv)(hr:PPs X pos ks vs trs):
  PPs X pos (some k::ks) (v::vs) ((tk,tv)::trs):=λa8 s σ H Q I h=>
 pairTrees_cons_walk (thn (hk a8 s σ H _ I h) λu s1 #[x,H1,I1,rx,q1]=>thn (hv a8 s1 σ H1 _ I1 q1) λw2 s2 hz=>by
  obtain⟨y,H2,I2,ry,q2⟩:=hz;exact thn (hr a8 s2 σ H2 _ I2 q2) λws s3 hz=>by obtain⟨ps,H3,I3,dm,q3⟩:=hz;exact#[(x,y)::ps,H3,I3,.cons #[rx,ry] dm,q3])
structure M2 (X:Cx)(o:Expr)(m:Str)(apos:Pos)(e f:Expr)(aj:Pos):Prop where
 base:attributeBase o m X.env (eval o X.env)=eval o X.env
 few:((backTo aj (starEach [e,f] X.env)).all (λx=>!x.1)&&(backToKw aj (keywordEach [] X.env)).all (λx=>x.1.isSome)
  && decide (([e,f]:List Expr).length+([]:List Keyword).length+(if([]:List Keyword).isEmpty then 0 else 1)<30))=true
 line:(apos.endLine==aj.line)=true
 trees:backTo aj (starEach [e,f] X.env)=[(false,eval e X.env),(false,eval f X.env)]
def IsD(H:Hp)(a:Addr):Prop:=(∃kvs,Rd H a (.dK kvs))\/∃kvs,Rd H a (.dT kvs)
theorem xjc{X a8}{σ:St}{H s a}(I:Inv X a8 σ H s)(d:IsD H a):
  s.TypeIs (.ref a) "dict"/\(∀b,Value.ref a=.ref b->∃ob,s.heap.get? b=some ob/\ob.dict=none)/\(a==sysModules)=false:=by
 rcases d with⟨kvs,e⟩|⟨kvs,e⟩
 ·obtain⟨_,hd,vs,_,dd⟩:=Qv I.hok e;refine#[dd.typeIs,λb q=>?_,hd];cases q;obtain⟨ob,_,_,h1,h2,_⟩:=dd;exact#[ob,h1,h2.2.1]
 ·obtain⟨_,hd,xs,_,dd⟩:=VQ I.hok e;refine#[dd.typeIs,λb q=>?_,hd];cases q;obtain⟨ob,_,_,h1,h2,_⟩:=dd;exact#[ob,h1,h2.2.1]
section
variable {X:Cx}{a8:LA9}{σ:St}{H:Hp}{s:Shared}{a:Addr}{y d:V}{u r:Value}{o:Option V}{A:Around}{E:VP9}
theorem xjw{Q}(hu:A.units+1<cLine)(I:Inv X a8 σ H s)(g:DGet H a y o)(ry:RelV y u)(rd:RelV d r)(h:∀w' s',Inv X a8 σ H s'->RelV (o.getD d) w'->Q w' s'):
  wpAny (model X.prog X.w) A (call (.builtin "dict.get") [.ref a,u,r]) Q E s:=by
 rcases g with⟨kvs,k,e,ey,l⟩|⟨kvs,k,b,e,ey,eb,l⟩
 ·subst ey;obtain⟨z,hd,vs,dm,dd⟩:=Qv I.hok e;refine call_meetsIn PySem.F.slot_dict_get dd.typeIs PySem.F.entry_dict_get (PySem.F.args_dict_get_3 _ _ _) (meets_dict_get_default (xj X.prog X.w) a (V6 ry) hd r) #[_,dd.mapOf,h _ _ (I.tok _) ?_];rw[l];exact(dm.val k).getD rd
 ·subst ey;cases(show u=Value.ref b from ry);obtain⟨z,hd,xs,dm,dd⟩:=VQ I.hok e;refine call_meetsIn PySem.F.slot_dict_get dd.typeIs PySem.F.entry_dict_get (PySem.F.args_dict_get_3 _ _ _) (meetsH_dict_get_default (tupleKind (xj X.prog X.w)) a b hd r) #[tupleKind_room_in1 hu,k,xs,WK I.hok eb,dd,h _ _ (I.tok _) ?_];rw[l];exact(dm.val k).getD rd
end
abbrev wwb(td ty tx:TE):TE:=fun σ H Q=>td σ H λx H1=>∃a,x=.ref a/\IsD H1 a/\ty σ H1 λy H2=>tx σ H2 λz H3=>∃o,DGet H3 a y o/\Q (o.getD z) H3
section
variable {X:Cx}{o e f:Expr}{apos aj:Pos}{td ty tx:TE}
theorem vw5(hu:X.A.units+1<cLine)(ho:PE X o td)(he:PE X e ty)(hf:PE X f tx)(m:M2 X o "get" apos e f aj):PE X (.Call (.Attribute o "get" apos) [e,f] [] aj) (wwb td ty tx):=by
 intro a8 s σ H Q I h;refine wpAny_Call_method m.base m.few m.line PySem.F.plainAttrs_dict PySem.F.slot_dict_get PySem.F.type_dict_get (thn (ho a8 s σ H _ I h) λu s1 hz=>?_);obtain⟨x,H1,I1,rx,a,ex,d,q1⟩:=hz;subst ex;obtain rfl:u=Value.ref a:=rx;obtain⟨t1,t2,_⟩:=xjc I1 d;refine#[t1,t2,?_];rw[m.trees];refine Calls.callWith_builtin rfl (Calls.evalArgs_plain (Calls.spliced_cons (thn (he a8 s1 σ H1 _ I1 q1) λiv s2 #[y,H2,I2,ry,q2]=>
  Calls.spliced_cons (thn (hf a8 s2 σ H2 _ I2 q2) λfv s3 #[z,H3,I3,rz,ov,g,q3]=>Calls.spliced_nil ?_))))
 exact xjw hu I3 g ry rz λw' s4 I4 ja=>#[_,H3,I4,ja,q3]
end
section
variable {X:Cx}
theorem vq7:CallR X (.builtin "len") (λxs H Q=>∃a kvs,xs=[V.ref a]/\H a=some (.dK kvs)/\Q (.int kvs.length) H):=by
 rintro a8 s σ H xs us Q I r ⟨a,kvs,rfl,ha,q⟩;obtain⟨u,rfl,ru⟩:=xv r;cases ru;exact xwa I (.inl ha) λt s' I'=>#[.int kvs.length,H,I',#[t,rfl],q]
end
end L2
set_option maxHeartbeats 4000000
namespace L3
open PySem PySem.Spec PyProof.Rows L2
abbrev vjl(ff:List Expr)(env:Env):Sem Bool:=
 forIn ff true λc r=>if r=true then do let ok <-isTrue c env (eval c env);pure (ForInStep.yield ok)else pure (ForInStep.yield r)
theorem jwh (env): ∀(l : List (Str × NameKind)) (cs),(∀y ∈ l,y.2 = .free -> ∃c,env.cells.lookup y.1 = some c) ->
    (∀x c,cs.lookup x = some c -> env.cells.lookup x = some c) ->
    ∃ cl,(forIn l cs (λx r=>if(x.2==NameKind.free) = true then do let a <-cellOf env x.1; pure (ForInStep.yield ((x.1,a)::r))else pure (ForInStep.yield r)): Sem (List (Str × Addr))) = pure cl /\
      (∀x c,cl.lookup x = some c -> env.cells.lookup x = some c) /\ (∀x c,cs.lookup x = some c -> ∃c',cl.lookup x = some c') /\ ∀y ∈ l,y.2 = .free -> ∃c,cl.lookup y.1 = some c
  | [],cs,_,hs=>#[cs,rfl,hs,λx c h=>#[c,h],λ_ h=>nomatch h]
  | (n,k)::r,cs,hl,hs=>by
    by_cases hk : k = .free
    · subst hk
      obtain⟨c,hc⟩:= hl _ X5 rfl;have lb : ∀x d,((n,c)::cs).lookup x = some d -> env.cells.lookup x = some d:= λx d h=>by
        rw[List.lookup_cons]at h;cases hx : x==n with| true=>simp_all| false=>rw[hx]at h; exact hs x d h
      obtain⟨cl,e,a,b,d⟩:= jwh env r _ (λy hy=>hl y (lc9 _ hy)) lb;refine#[cl,?_,a,λx c' h=> ?_,λy hy hf=> ?_]
      · rw[List.forIn_cons]
        have q : cellOf env n = pure c:= by unfold cellOf; rw[hc]
        simp only[q];exact e
      · cases hx : x==n with| true=>exact b x c (by rw[List.lookup_cons,hx])| false=>exact b x c' (by rw[List.lookup_cons,hx]; exact h)
      · rcases aD hy with z|z
        · simp_all
        · exact d y z hf
    · obtain⟨cl,e,a,b,d⟩:= jwh env r cs (λy hy=>hl y (lc9 _ hy)) hs
      refine#[cl,?_,a,b,λy hy hf=> ?_]
      · rw[List.forIn_cons]
        have q : (k==NameKind.free) = false:= by simpa using hk
        simp only[q];exact e
      · rcases aD hy with z|z
        · subst z
          exact absurd hf hk
        · exact d y z hf
theorem kqm{scope env}(h:∀y∈scope.names,y.2=.free->∃c,env.cells.lookup y.1=some c):
  ∃cl,closureFor scope env=pure cl/\(∀x c,cl.lookup x=some c->env.cells.lookup x=some c)/\∀y∈scope.names,y.2=.free->∃c,cl.lookup y.1=some c:=by
 obtain⟨cl,e,a,_,d⟩:=jwh env scope.names [] h (λx c h=>nomatch h);refine#[cl,?_,a,d];unfold closureFor
 grind
def lcX(X:Cx)(scope:Scope)(N:List Str)(cl:List (Str×Addr))(C:Addr)(s0:Shared)(H0:Hp)(fp:List Addr):Cx:=
 {X with N:=N,s₀:=s0,H₀:=H0,env:=compEnvC scope cl C X.env,outer:=X.stack,ex:=fp,fn:=λ_=>false,pn:=[],xe:=λ_ _=>False}
def JW(k:Nat)(R:List Nat)(σ:L2.St):L2.St:=List.replicate k none++R.map λj=>(σ[j]?).join
structure LcOk (X:Cx)(scope:Scope)(N:List Str)(k:Nat)(R:List Nat):Prop where
 kind:scope.kind=.function
 nocell:∀y∈scope.names,y.2≠.cell
 names:∀y∈scope.names,y.2=.local->scope.names.lookup y.1=some .local
 caps:∀y∈scope.names,y.2=.free->X.env.kindOf y.1=some .cell\/X.env.kindOf y.1=some .free
 len:N.length=k+R.length
 outs:∀i j x,R[i]?=some j->N[k+i]?=some x->X.N[j]?=some x/\scope.names.lookup x=some .free
noncomputable def KW(XN:List Str)(sc scope:Scope)(N:List Str)(k:Nat)(R:List Nat):Bool:=
 scope.names.all (λy=>y.2 != .cell)&&scope.names.all (λy=>y.2 != .local||scope.names.lookup y.1==some .local) &&
 scope.names.all (λy=>y.2 != .free||(sc.names.lookup y.1==some .cell||sc.names.lookup y.1==some .free)) &&
 (N.length==k+R.length)&&(R.zip (N.drop k)).all (λp=>XN[p.1]? == some p.2&&scope.names.lookup p.2==some .free)
theorem qqi{X scope N k R}(hk:scope.kind=.function)(h:KW X.N X.env.scope scope N k R=true):LcOk X scope N k R:=by
 unfold KW at h;simp only[Bool.and_eq_true,Z7,bne_iff_ne,Bool.or_eq_true,beq_iff_eq]at h;obtain⟨⟨⟨⟨h1,h2⟩,h3⟩,h4⟩,h5⟩:=h;refine#[hk,λy hy=>h1 y hy,λy hy e=>(h2 y hy).resolve_left (λz=>z e),λy hy e=>(h3 y hy).resolve_left (λz=>z e),h4,λi j x e1 e2=>?_];have m:(j,x)∈R.zip (N.drop k):=by
  refine List.mem_of_getElem? (i:=i) ?_;rw[List.getElem?_zip_eq_some]
  simp_all
 exact h5 _ m
theorem jkm {env : Env} {x q}: ∀{names : List (Str × NameKind)},(names.map λ(n,k)=>if(k==NameKind.free&&env.scope.kind == .function&&env.kindOf n==some .cell)then(n,NameKind.cell)else(n,k)).lookup x = some q ->
    (x,q) ∈ names \/ (q = .cell /\ (x,NameKind.free) ∈ names)
  | [],h=>nomatch h
  | (n,k)::r,h=>by
    have h : List.lookup x ((if _ = true then _ else _)::_) = some q:= h
    by_cases hc : (k==NameKind.free&&env.scope.kind == .function&&env.kindOf n==some .cell) = true
    · rw[Xd hc,List.lookup_cons]at h
      cases hx : x==n with
      | true=>simp_all
      | false=>
        rw[hx]at h;rcases jkm h with z|⟨z,y⟩
        · exact .inl (lc9 _ z)
        · exact .inr #[z,lc9 _ y]
    · rw[Xi hc,List.lookup_cons]at h
      cases hx : x==n with
      | true=>simp_all
      | false=>
        rw[hx]at h;rcases jkm h with z|⟨z,y⟩
        · exact .inl (lc9 _ z)
        · exact .inr #[z,lc9 _ y]
section
variable {X:Cx}{a8:LA9}{σ:L2.St}{H:Hp}{s:Shared}
theorem wzt{scope N k R cl C}(sc:LcOk X scope N k R)(ci:∀y∈scope.names,y.2=.free->∃c,cl.lookup y.1=some c)
  {x} (h:(compEnvC scope cl C X.env).kindOf x=some .cell\/(compEnvC scope cl C X.env).kindOf x=some .free):∃c,cl.lookup x=some c:=by
 rcases h with h|h
 ·rcases jkm h with z|⟨_,z⟩
  ·exact absurd rfl (sc.nocell _ z)
  ·exact ci _ z rfl
 ·rcases jkm h with z|⟨z,_⟩
  ·exact ci _ z rfl
  ·cases z
theorem wzu{scope N k R cl}{C:Addr}{fp}(I:Inv X a8 σ H s)(sc:LcOk X scope N k R)(hf:∀b∈fp,wZ X a8 H b)(ho:∀b∈fp,∃o,s.heap.get? b=some o)
  (hC:s.heap.objs.size<=C) (dv:∀x c,cl.lookup x=some c->X.env.cells.lookup x=some c) (ci:∀y∈scope.names,y.2=.free->∃c,cl.lookup y.1=some c):(lcX X scope N cl C s H fp).Ok where
 mod:=I.ok.mod
 kind:=sc.kind
 glob:=I.ok.glob
 blt:=I.ok.blt
 above:=hC
 inj:=λx y c h1 h2=>I.ok.inj x y c (dv _ _ h1) (dv _ _ h2)
 has:=λx h=>wzt sc ci h
 cab:=λx c h=>by cases h
 hd:=I.ok.hd
 frames:=I.ok.frames
 stk:=.inl rfl
 exf:=λb hb=>by
  obtain⟨o,e⟩:=ho b hb;exact#[Xk (Xp (Xe e) hC),λx c h=>(hf b hb).2.2.2.2.1 x c (dv x c h)]
 bs:=λb o e=>I.bs b o e
 bsz:=Ye I.ok.bsz I.sz
 noex:=λb o e hb=>by
  rcases(hf b hb).2.2.2.1 with z|z
  ·exact I.ok.noex b o e z
  ·exact absurd (Xp (Xe e) (Ye I.ok.bsz z)) (Ym _)
 exfs:=λb hb hs=>by
  rcases aD (I.stkSub b hs)with z|z
  ·exact(hf b hb).2.1 z
  ·exact(hf b hb).2.2.1 z
 funs:=I.stack
 frf:=I.stkFree
theorem wwg(I:Inv X a8 σ H s){a:Addr}(h:s.heap.objs.size<=a):a∉frs X.stack:=λz=>by
 rcases aD (I.stkSub a z)with e|e
 ·subst e;exact absurd (Xp I.lt h) (Ym _)
 ·exact I.nofs h e
theorem wq5 {scope N k R cl} {C D:Addr} {fp h1 t m oD} (I:Inv X a8 σ H s) (sc:LcOk X scope N k R)
  (hf:∀ b∈fp,wZ X a8 H b) (ho:∀b∈fp,∃o,s.heap.get? b=some o)
  (hC:s.heap.objs.size<=C) (hD:s.heap.objs.size<=D) (qy:D≠C) (dv:∀x c,cl.lookup x=some c->X.env.cells.lookup x=some c) (ci:∀y∈scope.names,y.2=.free->∃c,cl.lookup y.1=some c)
  (eh:∀ b o,s.heap.get? b=some o->h1.get? b=some o) (hn:h1.Ns C m) (eD:h1.get? D=some oD) (dD:∀v,oD.data≠.cell v):
  Inv (lcX X scope N cl C s H fp) [(D,oD)] (JW k R σ) H {s with heap:=h1,toks:=t} where
 ok:=wzu I sc hf ho hC dv ci
 os:=rfl
 bare:=I.bare
 base:=Un.kept eh
 loc:=#[m,hn,λi x v e1 e2 vis=>by
  obtain⟨mX,hnX,hl⟩:=I.loc;unfold JW at e2
  by_cases hi:i<k
  ·rw [Xw (by simp_all),List.getElem?_replicate,Xd hi]at e2
   grind
  ·have hk:k<=i:=Nat.le_of_not_lt hi;rw [Yl (Zb▸hk),Zb,Xg]at e2;cases er:R[i - k]? with
   | none=>simp_all
   | some j=>
    rw [er]at e2;have ej:(σ[j]?).join=some v:=by simpa using e2
    have ej':σ[j]?=some (some v):=by
     cases q:σ[j]? with| none=>rw[q]at ej;cases ej| some z=>simp_all
    obtain⟨o1,o2⟩:=sc.outs _ j x er (by rw[show k+(i - k)=i by lia];exact e1);have cap:=sc.caps (x,.free) (Yv o2) rfl;have visX:Vis X.env.scope x:=cap.elim (λz=>.inr (.inl z)) λz=>.inr (.inr z)
    obtain⟨u,ru,q⟩:=hl j x v o1 ej' visX;refine#[u,ru,?_];rcases q with⟨q,_⟩|⟨_,c,ec,hc⟩
    ·simp_all
    ·obtain⟨c',ec'⟩:=ci (x,.free) (Yv o2) rfl;have e:=oq9 ((dv x c' ec').symm.trans ec);subst e;refine .inr #[?_,c',ec',?_]
     ·rcases vis with z|z|z
      ·rcases jkm (env:=X.env) (names:=scope.names) z with y|⟨y,_⟩
       ·have y':=sc.names _ y rfl
        grind
       ·cases y
      ·exact .inl z
      ·exact .inr z
     ·obtain⟨o,h1,h2⟩:=hc;exact#[o,eh _ _ h1,h2]]
 cell:=λx c h=>by
  obtain⟨v,o,h1,h2⟩:=I.cell x c (dv x c h);exact#[v,o,eh _ _ h1,h2]
 free:=I.hok.fresh hC
 freeC:=λx c h=>I.freeC x c (dv x c h)
 pin:=λp hp=>by
  have e:p=(D,oD):=by
   have hp:p∈([]++[(D,oD)]:LA9):=hp
   simpa using hp
  subst e;exact#[eD,I.hok.fresh hD,qy,wwg I hD,dD]
 hok:=I.hok.kept eh
 len:=by
  show(JW k R σ).length=N.length;unfold JW;rw[sc.len,Xf,Zb,X3]
theorem kk4{a o}(I:Inv X a8 σ H s)(hn:H a=none)(hL:a≠X.env.locals)(h1:a∈X.ex\/X.s₀.heap.objs.size<=a)(h2:∀x c,X.env.cells.lookup x=some c->c≠a)(h3:∀p∈X.pn++a8,p.1≠a)
  (new:ObjOk X.prog X.w (upd H a o) s.heap a o):Inv X a8 σ (upd H a o) s:=by
 have hok:HOk X.prog X.w (upd H a o) s.heap:=λb u e=>by
  by_cases hb:b=a
  ·subst hb;rw[wW]at e;cases e;exact new
  ·rw[qQ hb]at e;exact(I.hok b u e).stay (λ_ _ _ q=>q) (λc q=>by rw[qQ (Jx q hn)];exact q) λc xs q=>by rw[qQ (Jx q hn)];exact q
 have na:∀b,b∉[a]->b≠a:=λb hb z=>hb (z▸aB rfl)
 exact I.step (h':=s.heap) (H':=upd H a o) (g':=s.gens) (t':=s.toks) (d':=s.drawn)
  (λb hb=>by rw[aC hb];exact#[h1.imp id λz=>Yi z,hL,h2,h3]) (λb o _ _ _ e _=>e) (λb o _ _ _ e _=>#[o.slots,e]) (λb o hb _ q=>by rw[qQ (na b hb)];exact q)
  (λb o _ e=>#[o,e]) (λb xs q=>by rw[qQ (Jx q hn)];exact q) (λb o u q=>by rw[qQ (Jx q hn)];exact q) (λb ps q=>#[(List.toArray []),by rw[qQ (Jx q hn),q];simp])
  (λm hm=>hm) hok I.bare
end
def PTs(X:Cx)(ff:List Expr)(t:TT):Prop:=
 ∀(a8:LA9) (s:Shared) (σ:L2.St) (H:Hp) (Q:Bool->Hp->Prop),Inv X a8 σ H s->t σ H Q->wpAny (model X.prog X.w) X.A (vjl ff X.env) (TP X a8 σ Q) X.xe s
abbrev tYes:TT:=λ_ H Q=>Q true H
theorem wka{X}:PTs X [] tYes:=λ_ _ _ H _ I h=>wpAny_tests_nil #[H,I,h]
theorem wk9{X c t}(hc:PT X c t):PTs X [c] t:=λa8 s σ H Q I h=>wpAny_tests_one (hc a8 s σ H Q I h)
noncomputable def LcW(g:TG)(tt:TT)(te:TE)(Q:VK)(J:It)(W:Nat->Nat->List V->L2.St->Hp->Prop):Prop:=∀i m ys σ H,W i m ys σ H ->
 (J.stop i H/\ys.length<=sizeLine/\∀p,H p=none->Q (.ref p) (upd H p (.lst ys))) \/
 (J.go i H/\∀x H1,J.yld i H x H1->g x σ H1 fun σ2 H2=>∃(Ny:VK) (Nn:Hp->Prop),(∀y H4,Ny y H4->ys.length<=sizeLine/\∃m',m'<m/\W (i+1) m' (ys++[y]) σ2 H4) /\
  (∀H4,Nn H4->∃m',m'<m/\W (i+1) m' ys σ2 H4)/\tt σ2 H2 λb H3=>if b=true then te σ2 H3 Ny else Nn H3)
abbrev tLC(wi:TI)(g:TG)(tt:TT)(te:TE)(k:Nat)(R:List Nat):TE:=fun σ H Q=>wi σ H λJ H1=>
 ∃W:Nat->Nat->List V->L2.St->Hp->Prop,(∃m,W 0 m [] (JW k R σ) H1)/\LcW g tt te Q J W
abbrev Zw(ac:List Value)(n:Nat):Obj:={cls:=.type "list",data:=.seq ac.toArray n}
section
variable {X:Cx}
theorem op_mulI:OpR X (binaryOp .Mult) (rI IntMulOk λi j=>.int (i*j)):=opI λ_ _ _ _ _ _ _ hc q=>mul_int q hc
def xko(_i j:Int):Prop:=0<j/\j.natAbs.log2<9000
theorem vw8:OpR X (binaryOp .FloorDiv) (rI xko λi j=>.int (i / j)):=opI λi j _ _ _ _ _ hc q=>by
 have h1:=hc.1;exact floordiv_int ⋯ (by rw[Int.fdiv_eq_ediv_of_nonneg i ⋯];exact q) (.inl (PyProof.noPylong_of_log2 hc.2))
def kinds:List String:=["NoneType","bool","int","str","list","tuple","dict"]
def xj9(T U:String):Bool:=T==U||(T == "bool" && U == "int")
theorem qju{K T U}(hT:T∈kinds)(hU:U∈kinds.tail):kitOne K (.type T) (.type U)=some (xj9 T U):=by
 simp only[kinds,List.tail_cons,Yq,Y7,or_false]at hT hU;rcases hT with rfl|rfl|rfl|rfl|rfl|rfl|rfl<;>rcases hU with rfl|rfl|rfl|rfl|rfl|rfl<;>ac_rfl
def xwz(K:Frag):List V->Hp->VK->Prop:=λxs H Q=>∃x T U,xs=[x,.ty U]/\TyOf K H x (.type T)/\T∈kinds/\U∈kinds.tail/\Q (.bl (xj9 T U)) H
theorem vxa:CallR X (.builtin "isinstance") (xwz X.K):=by
 rintro a8 s σ H xs us Q I r ⟨x,T,U,rfl,ty,hT,hU,q⟩;obtain⟨u,w',rfl,r1,r2⟩:=vv2 r;cases(r2);exact vjv I r1 ty (qju hT hU) λtk=>#[.bl _,H,I.tok _,rfl,q]
theorem wj6:∀{bs:List Bool} {ac} {i:Nat} {v},Vals (bs.map V.bl) ac->ac[i]?=some v->∃b,bs[i]?=some b/\v=.bool b
 |[],_,_,_,.nil,e=>by simp_all
 |b::bs,_,0,v,.cons r _,e=>by
  simp at e;subst e;exact#[b,rfl,r]
 |b::bs,_,i+1,v,.cons _ t,e=>by
  obtain⟨b',e1,e2⟩:=wj6 t (by simpa using e);exact#[b',by simpa using e1,e2]
theorem kwz(bs:List Bool):((List.range bs.length).all λi=>(bs[i]?).getD true)=bs.all id:=by
 rw[Bool.eq_iff_iff,Z7,Z7];constructor
 ·intro h b hb;obtain⟨i,hi,e⟩:=Yn hb;have:=h i (List.mem_range.mpr hi);rw[X1 hi,e]at this;exact this
 ·intro h i hi;have jh:=List.mem_range.mp hi;rw[X1 jh];exact h _ (Xn jh)
def xv0(K:Frag):List V->Hp->VK->Prop:=λxs H Q=>∃(p:Addr) (bs:List Bool),xs=[.ref p]/\SqL K H p (bs.map V.bl)/\Q (.bl (bs.all id)) H
theorem vxb(hc:X.calm=true):CallR X (.builtin "all") (xv0 X.K):=by
 rintro a8 s σ H xs us Q I r ⟨p,bs,rfl,hq,q⟩;obtain⟨u,rfl,ru⟩:=xv r;cases ru;obtain⟨ac,rv,pl,hz⟩:=I.list hq;have hl:=pl.isList;have cz:p<s.heap.objs.size:=by obtain⟨_,e,_⟩:=hl;exact Xe e
 have ai:bs.length=ac.length:=by rw[<-rv.length,X3]
 refine call_all_walk (Zf hl ?_);refine#[s.heap.objs.size,[s.heap.objs.size,p],[s.heap.objs.size],ac.toArray.size,_,_,λi=>(bs[i]?).getD true,rfl,Walks.list (A:=X.A.in1) (I.ok.hd hc) _ p (Xk cz) ac.toArray,
  #[#[_,X9 _ rfl,rfl,rfl],hl.push _],λi v s' Q' E' hP hQ=>?_,λh' tk hk=>?_]
 ·obtain⟨b,e,rfl⟩:=wj6 rv (by simpa using hP);simp only[e]at hQ;exact Ze hQ
 ·have e:((List.range ac.toArray.size).all λi=>(bs[i]?).getD true)=bs.all id:=by
   rw[X8,<-ai];exact kwz bs
  rw[e];refine#[.bl _,H,I.kept (t':=tk) (h':=h') λb o e=>hk b o (λz=>?_) (X2 _ e),rfl,q];exact absurd (Xe e) (aC z▸Ym _)
def Its(x:Str):It:=#[λi _=>i<x.cps.size,λi H v H'=>H'=H/\∃c,x.cps[i]?=some c/\v=.str #[(List.toArray [c])],λi _=>i=x.cps.size]
theorem qkm{P w K tg x t it}{ty}
  (W:∀A',A'.handled=none->Walks P w A' it [it] [it] x.cps.size (SignAt x) (λi h=>h.IsStrIter it ty x t i))
  (tu:∀A (i) (s) (Q) (E),s.heap.IsStrIter it ty x t i->Q (.ref it) s->wpAny (model P w) A (pyIter (.ref it)) Q E s)
  (um:["enumerate","zip","dict_itemiterator","dict_reverseitemiterator","odict_iterator","itertools.zip_longest","itertools.pairwise"].contains ty=false):
  Turn P w K tg (Its x) [it] it (λi h=>h.IsStrIter it ty x t i) where
 mem:=by simp
 obj:=λi h st b hb=>by
  have e:b=it:=by simpa using hb
  obtain⟨o,e,c,d⟩:=st
  simp_all
 keep:=λi h h' st k=>by
  obtain⟨o,e,r⟩:=st;exact#[o,k it (by simp) o e,r]
 item:=by
  intro X hP hw hK hc i a8 s σ H E I hf st hg;subst hP hw hK;obtain⟨f0,f1,f2,f3,f4,f5⟩:=hf it (by simp);refine(W X.A (I.ok.hd hc)).item i s _ _ hg st λv h' tk hv gi kk=>?_
  obtain⟨c,u,js,rfl⟩:=hv;have I1:Inv X a8 σ H {s with heap:=h',toks:=tk}:=I.turned (λb o hb e=>kk b o (by simpa using hb) e) f0 f1 f3 f4 f5;obtain⟨o,e,c1,d⟩:=id gi;exact#[_,rfl,vww e c1 d um #[.str #[(List.toArray [c])],H,I1,#[u,rfl],#[rfl,c,js,rfl],gi,λb hb=>(hf b hb).1]]
 done:=by
  intro X hP hw hK hc i a8 s σ H E I hf st hg;subst hP hw hK;obtain⟨f0,f1,f2,f3,f4,f5⟩:=hf it (by simp);subst hg;exact(W X.A (I.ok.hd hc)).done s _ _ st λh' tk kk=>#[rfl,I.turned (λb o hb e=>kk b o (by simpa using hb) e) f0 f1 f3 f4 f5]
 self:=λA i s Q E st hQ=>tu A i s Q E st hQ
def xws:V->Option Int->Option Int->Hp->VK->Prop:=λx lo hi H Q=>∃z,x=.str z/\z.length<=sizeLine/\Q (.str (Txt.slice z lo hi)) H
theorem wwi:SlR X xws:=by
 rintro a8 s σ H x v vl vu lo hi sl Q I rx hs pl pu ⟨z,rfl,hz,q⟩;obtain⟨t,rfl⟩:=rx;refine#["str",_,F.slot_str_getitem.lookup,typeIs_str _ _ _,?_];have fin:∀t' k,EP X a8 σ Q _ {s with toks:=k}:=λt' k=>#[.str _,H,I.tok k,#[t',rfl],q]
 have gw:(Txt.slice z lo hi).length<=sizeLine:=Ye (Txt.slice_le z _ _) hz;cases pl with
 |none=>cases pu with|none=>exact wpAny_getItem_str_slice (l:=none) (u:=none) (st:=none) hs rfl (post_val_or_str #[gw,fin])|int j tj=>exact wpAny_getItem_str_slice (l:=none) (u:=some (j,tj)) (st:=none) hs rfl (post_val_or_str #[gw,fin])
 |int i ti=>cases pu with|none=>exact wpAny_getItem_str_slice (l:=some (i,ti)) (u:=none) (st:=none) hs rfl (post_val_or_str #[gw,fin])|int j tj=>exact wpAny_getItem_str_slice (l:=some (i,ti)) (u:=some (j,tj)) (st:=none) hs rfl (post_val_or_str #[gw,fin])
def wwt:R2:=λx y H Q=>∃z n,x=.str z/\y=.int n/\(z.length<=1024/\n<=1024/\-1024<=n)/\Q (.str (Txt.mul z n)) H
theorem wkt:OpR X (binaryOp .Mult) wwt:=by
 rintro a8 s σ H x y v u Q I rx ry ⟨z,n,rfl,rfl,⟨h1,h2,h3⟩,q⟩;obtain⟨t,rfl⟩:=rx;obtain⟨t',rfl⟩:=ry;exact SB.mul (mulOk_of 1024 1024 h1 h2 ⋯ (by simp) (by simp)) λt' k=>#[.str _,H,I.tok k,#[t',rfl],q]
theorem qkq:∀{ys ac},Vals (ys.map V.str) ac->StrsAre ac ys
 |[],_,.nil=>.nil|_::_,_,.cons #[t,e] r=>by subst e;exact .cons _ t (qkq r)
def xqy(K:Frag):V->List V->Hp->VK->Prop:=λx vs H Q=>∃z p ys,x=.str z/\vs=[.ref p]/\SqL K H p (ys.map V.str)/\(ys.map (·.length)).sum+ys.length*z.length<=16777216/\Q (.str (Txt.join z ys)) H
theorem wq0:MtR X "str.join" (xqy X.K):=by
 rintro a8 s σ H x xs v us Q I rx rv ⟨z,p,ys,rfl,rfl,hq,hok,q⟩;obtain⟨t,rfl⟩:=rx;obtain⟨u,rfl,ru⟩:=rv.one;cases ru;obtain⟨ac,rs,pl,hz⟩:=I.list hq;exact join_list pl.isList (qkq rs) hok λt' k=>#[.str _,H,I.tok k,#[t',rfl],q]
def vxz(K:Frag):V->Option Int->Option Int->Hp->VK->Prop:=λx lo hi H Q=>xwt K x lo hi H Q\/xwr K x lo hi H Q\/xws x lo hi H Q
theorem xqq K (hK:autoParam (X.K=K) Ŕ):SlR X (vxz K):=by subst hK;exact sl_list.or (sl_tup.or wwi)
def qxz(K:Frag):List V->Hp->VK->Prop:=λxs H Q=>(∃p ys,xs=[.ref p]/\(SqL K H p ys\/SqT K H p ys)/\Q (.int ys.length) H)\/(∃z,xs=[.str z]/\z.length<=sizeLine/\Q (.int z.length) H)\/(∃a kvs,xs=[V.ref a]/\H a=some (.dK kvs)/\Q (.int kvs.length) H)
theorem wv0 K (hK:autoParam (X.K=K) Ŕ):CallR X (.builtin "len") (qxz K):=by subst hK;exact call_len_seq.or (call_len_str.or vq7)
theorem vqc:CallR X (.type "int") (λxs H Q=>(∃i,xs=[.int i]/\Q (.int i) H)\/∃k,xs=[.bl k]/\Q (.int (if k then 1 else 0)) H):=vqa
theorem wv1 K (hK:autoParam (X.K=K) Ŕ)(hc:autoParam (X.calm=true) Ŕ):CallR X (.builtin "all") (xv0 K):=by subst hK;exact vxb hc
theorem qzr(K){o e es T name id r to t}{apos aj}
  (pa:PlainAttrs T) (slot:Slot T name id) (um:typeOf (.builtin id)=pure (.type "method_descriptor")) (hm:MtR X id r) (ho:PE X o to) (ha:PA X (e::es) t)
  (dg:autoParam (attributeBase o name X.env (eval o X.env)=eval o X.env) Ŕ)
  (fy:autoParam (((backTo aj (starEach (e::es) X.env)).all (λx=>!x.1)&&(backToKw aj (keywordEach [] X.env)).all (λx=>x.1.isSome)
   && decide ((e::es).length+([]:List Keyword).length+(if([]:List Keyword).isEmpty then 0 else 1)<30))=true) Ŕ)
  (da:autoParam (Abe apos aj) Ŕ) (hs:autoParam (Abs e es X) Ŕ) (bq:autoParam (Abb aj es X) Ŕ) (hK:autoParam (X.K=K) Ŕ):
  PE X (.Call (.Attribute o name apos) (e::es) [] aj) (tBM K T r to t):=by subst hK;exact wz6 pa slot um hm ho ha dg fy da hs bq
theorem wj5:bootBuiltins "len"=some (.builtin "len"):=by decide +kernel
theorem kwd:bootBuiltins "isinstance"=some (.builtin "isinstance"):=by decide +kernel
theorem xk3:bootBuiltins "all"=some (.builtin "all"):=by decide +kernel
theorem xk2:bootBuiltins "max"=some (.builtin "max"):=by decide +kernel
theorem xk1:bootBuiltins "min"=some (.builtin "min"):=by decide +kernel
theorem YJ:bootBuiltins "int"=some (.type "int"):=by decide +kernel
theorem xk0:bootBuiltins "str"=some (.type "str"):=by decide +kernel
theorem wv6:bootBuiltins "bool"=some (.type "bool"):=by decide +kernel
theorem V0:bootBuiltins "list"=some (.type "list"):=by decide +kernel
theorem ZQ:bootBuiltins "tuple"=some (.type "tuple"):=by decide +kernel
theorem wv5:bootBuiltins "dict"=some (.type "dict"):=by decide +kernel
end
def Cst(mg:Str->Option Value)(x:Str)(v:V):Prop:=∃u,mg x=some u/\RelV v u
section
variable {X:Cx}{x:Str}{p pos:Pos}{e:Expr}{es:List Expr}{t:TA}{ps:List Str}{sp:Sp}{k:Nat}{v:V}
theorem VX(c:Cst X.mg x v)(hg:autoParam (Gl X x) Ŕ)(hd:autoParam (Abd x) ŕ):PE X (.Name x pos) (tC v):=by
 obtain⟨u,m,r⟩:=c;exact wkl hg m r hd
end
theorem qv2:∀{ns:List Int} {m},PySem.W.WData.weightAll (ns.map PySem.W.WData.int)<=m->∀n∈ns,Builtin.Int.intBits n<=m
 | [],_,_,_,h=>nomatch h
 | a::r,m,h,n,hn=>by
  have h':(if a==0 then 0 else a.natAbs.log2+1)+1+PySem.W.WData.weightAll _<=m:=h;rcases aD hn with z|z
  ·subst z;have e:Builtin.Int.intBits n=(if n==0 then 0 else n.natAbs.log2+1):=rfl
   grind
  ·exact qv2 ⋯ n z
theorem qkd{ns:List Int}(h:PySem.W.WData.layableAll [PySem.W.WData.list (ns.map PySem.W.WData.int)]=true):∀n∈ns,Builtin.Int.intBits n<=1048576:=by
 have h1:=(PySem.W.layW_cons h).1;unfold PySem.W.WData.layable at h1;simp at h1;have h2:PySem.W.WData.weightAll _<=2 ^ 20:=h1.2;exact qv2 (by simpa using h2)
section
variable {X:Cx}
def qxy(K:Frag):List V->Hp->VK->Prop:=λxs H Q=>∃p ys,xs=[.ref p]/\(SqL K H p ys\/SqT K H p ys)/\∀l,H l=none->Q (.ref l) (upd H l (.lst ys))
theorem kwc K (hK:autoParam (X.K=K) Ŕ):CallR X (.type "list") (qxy K):=by subst hK;exact kzd
end
section
variable {X:Cx}{a8:LA9}{σ:L2.St}{H:Hp}{s:Shared}
theorem jxb{t' h'}(fp:List Addr)(I:Inv X a8 σ H s)(k:∀b o,b∉fp->s.heap.get? b=some o->h'.get? b=some o)(hf:∀b∈fp,wZ X a8 H b):Inv X a8 σ H {s with heap:=h',toks:=t' }:=by
 have ut:∀b u,H b=some u->b∉fp:=λb u e z=>by rw[(hf b z).1]at e;cases e
 refine I.step (g':=s.gens) (d':=s.drawn) (λb hb=>?_) (λb o _ _ hc e _=>k b o hc e) (λb o _ _ hc e _=>#[o.slots,k b o hc e]) (λ_ _ _ _ n=>n)
  (λb o hc e=>#[o,k b o hc e]) (λ_ _ e=>e) (λ_ _ _ e=>e) (λb ps e=>#[(List.toArray []),by rw[e];simp]) (λm hm=>?_) (λb u e=>?_) I.bare
 ·obtain⟨_,f1,_,f3,f4,f5⟩:=hf b hb;exact#[f3.imp id λz=>Yi z,f1,f4,f5]
 ·obtain⟨o,es,ep,ho,r⟩:=hm;exact#[o,es,ep,k _ o (λz=>(hf _ z).2.1 rfl) ho,r]
 ·refine(I.hok b u e).stay (λc v hc q=>k c v ?_ q) (λ_ q=>q) λ_ _ q=>q
  rcases hc with z|z
  ·rw[z];exact ut b u e
  ·exact ut c _ z
end
section
variable {X:Cx}
def qz0:List V->Hp->VK->Prop:=λxs H Q=>(∃i,xs=[.int i]/\Q (.int i) H)\/(∃k,xs=[.bl k]/\Q (.int (if k then 1 else 0)) H)\/∃(x:Str) (n:Int),xs=[.str x]/\PySem.intText? x=some n/\x.length<=640/\Q (.int n) H
theorem jwi:CallR X (.type "int") qz0:=by
 intro a8 s σ H xs us Q I r h;rcases h with h|h|⟨x,n,rfl,hx,hl,q⟩
 ·exact vqc a8 s σ H xs us Q I r (.inl h)
 ·exact vqc a8 s σ H xs us Q I r (.inr h)
 ·obtain⟨u,rfl,t,rfl⟩:=xv r;exact PySem.W.KIN.call_text hx hl #[.int n,H,I.tok _,#[_,rfl],q]
end
theorem kjz{e env env0}(h:env.frame=env0.frame):noteFrame e env=noteFrame e env0:=by
 unfold noteFrame PySem.frameOf;rw[h]
structure Fl0 (h:Heap)(x:Addr)(C:Value)(vs:Array Value):Prop where
 ob:h.get? x=some {cls:=C,data:=.fields vs}
 sz:1<vs.size
structure FlT (h:Heap)(x T:Addr)(C:Value)(fl:Value):Prop where
 ex:∃vs,h.get? x=some {cls:=C,data:=.fields vs}/\vs[1]?=some (.ref T)
 tb:∃oT ts,h.get? T=some oT/\oT.data=.fields ts/\ts[3]?=some fl
 ne:T≠x
structure Chg (fs ch:List Addr)(h h':Heap):Prop where
 keep:∀b o,h.get? b=some o->b∉fs->b∉ch->h'.get? b=some o
 slot:∀b o,h.get? b=some o->b∉ch->∃sl,h'.get? b=some {cls:=o.cls,dict:=o.dict,data:=o.data,slots:=sl}
 size:h.objs.size<=h'.objs.size
theorem Chg.trans{fs ch ch' h h1 h2}(a:Chg fs ch h h1)(b:Chg fs ch' h1 h2)(hc:∀x∈ch',x∈ch\/h.get? x=none):Chg fs ch h h2 where
 keep:=λx o e h1 h2=>b.keep x o (a.keep x o e h1 h2) h1 λz=>(hc x z).elim h2 λq=>by rw[q]at e;cases e
 slot:=λx o e hn=>by
  obtain⟨sl,e1⟩:=a.slot x o e hn;obtain⟨ni,e2⟩:=b.slot x _ e1 λz=>(hc x z).elim hn λq=>by rw[q]at e;cases e
  exact#[ni,e2]
 size:=Ye a.size b.size
theorem Chg.mono{fs ch ch' h h1}(a:Chg fs ch h h1)(hc:∀x∈ch,x∈ch'):Chg fs ch' h h1:=#[λb o e h1 h2=>a.keep b o e h1 λz=>h2 (hc b z),λb o e h2=>a.slot b o e λz=>h2 (hc b z),a.size]
theorem Chg.of_upd{fs h a f}: Chg fs [a] h (h.update a f):=
  #[λb o e _ hn=>by rw[Z5 _ _ _ _ (λz=>hn (aB z))]; exact e,
   λb o e hn=>#[o.slots,by rw[Z5 _ _ _ _ (λz=>hn (aB z))]; exact e],by rw[Heap.size_update]; exact Xa _]
theorem Chg.of_push{fs h o}:Chg fs [] h (h.push o):=
 #[λb o e _ _=>X2 _ e,λb o e _=>#[o.slots,X2 _ e],by rw[Z8];lia]
theorem Chg.of_slots{fs h h'}(s:Heap.SlotsOnly fs h h'):Chg fs [] h h':=
 #[λb o e hn _=>(s.2.1 b hn).trans e,λb o e _=>s.2.2 b o e,by rw[s.1];exact Xa _]
theorem Chg.refl{fs ch h}:Chg fs ch h h:=#[λ_ _ e _ _=>e,λb o e _=>#[o.slots,e],Xa _]
section
variable {M:Model}{A:Around}{E:VP9}{s:Shared}{base:Heap}{env:Env}{outer:List Env}{L x T:Addr}{C fl:Value}
theorem kz4{head hadNext vs Q}(hA:A.frames=some (env::outer))(hF:s.heap.FunFrames base (env::outer))(hL:env.frame=some L)(ho:Fl0 s.heap x C vs)
  (h:∀h' T',Chg (frs (env::outer)) [x] s.heap h'->s.heap.objs.size<=T'->FlT h' x T' C (rawInt ↑L)->Q () {s with heap:=h' }):
  wpAny M A (do
   let a <-PySem.frameOf env
   let pl <-entryPlaceOf L hadNext
   let b <-EntryCells.newEntry head a Value.none (rawInt ↑L) Value.none pl
   setField (Value.ref x) 1 b) Q E s:=by
 refine X0 (wpAny_frameOf_fun hA hF hL λh1 s1=>?_);have hx:x∉frs _:=λz=>by
  obtain⟨_,o,e,hn⟩:=hF.mem z;rw[ho.ob]at e;cases e;exact hn _ rfl
 have o1:h1.get? x=some {cls:=C,data:=.fields vs}:=(s1.2.1 x hx).trans ho.ob;have fin:∀pl,IsPlace pl->wpAny M A (do
   let b <-EntryCells.newEntry head _ Value.none _ Value.none pl
   setField _ 1 b) Q E {s with heap:=h1}:=λpl bv=>by
  refine X0 ?_;unfold EntryCells.newEntry newFields;have har:([head,Value.ref L,Value.none,rawInt ↑L,Value.none]++if pl.isEmpty=true then List.replicate 6 Value.none else pl).toArray[3]?=some (rawInt ↑L):=by simp
  have hsz:([head,Value.ref L,Value.none,rawInt ↑L,Value.none]++if pl.isEmpty=true then List.replicate 6 Value.none else pl).toArray.size<=sizeLine+2:=by
   rcases bv with rfl|⟨_,_,_,_,_,_,_,rfl⟩<;>simp<;>decide
  generalize ([head,Value.ref L,Value.none,rawInt ↑L,Value.none]++if pl.isEmpty=true then List.replicate 6 Value.none else pl).toArray=ar at har hsz;refine Yd ?_ hsz;have o2:(h1.push {cls:=.type "traceback",data:=.fields ar}).get? x=some {cls:=C,data:=.fields vs}:=X2 _ o1;refine Yr o2 rfl ho.sz ?_;have br:h1.objs.size≠x:=λe=>absurd (Xe o1) (e▸Ym _)
  have o3:((h1.push {cls:=.type "traceback",data:=.fields ar}).update x (Obj.mapFields λy=>y.setIfInBounds 1 (.ref h1.objs.size))).get? h1.objs.size=some {cls:=.type "traceback",data:=.fields ar}:=by
   rw[Z5 _ _ _ _ br];exact X9 _ rfl
  refine h _ h1.objs.size (((Chg.of_slots s1).mono (λ_ z=>nomatch z)).trans ((Chg.of_push.mono λ_ z=>nomatch z).trans Chg.of_upd λy hy=>.inl hy) λy hy=>.inl hy) (s1.1▸Xa _) #[#[vs.setIfInBounds 1 _,?_,Array.getElem?_setIfInBounds_self_of_lt ho.sz],#[_,_,o3,rfl,har],br];exact Xz _ o2 rfl
 exact X0 (wpAny_entryPlaceOf λpl bv=>fin pl bv)
theorem xvm{vs Q}(hA:A.frames=some (env::outer))(hF:s.heap.FunFrames base (env::outer))(hL:env.frame=some L)(ho:Fl0 s.heap x C vs)(hv:vs[1]?=some .none)
  (h:∀h' T',Chg (frs (env::outer)) [x] s.heap h'->s.heap.objs.size<=T'->FlT h' x T' C (rawInt ↑L)->Q () {s with heap:=h' }):wpAny M A (noteFrame (.ref x) env) Q E s:=by
 unfold noteFrame;rw[hL];exact X0 (Yw ho.ob rfl hv (kz4 hA hF hL ho h))
theorem upd3{T oT ts v}{h:Heap}(e:h.get? T=some oT)(ed:oT.data=.fields ts)(h3:3<ts.size):
  ∃o' ts',(h.update T (Obj.mapFields λy=>y.setIfInBounds 3 v)).get? T=some o'/\o'.data=.fields ts'/\ts'[3]?=some v:=by
 obtain⟨c,d,dt,sl⟩:=oT;cases(ed);exact#[_,ts.setIfInBounds 3 v,Xz _ e rfl,rfl,Array.getElem?_setIfInBounds_self_of_lt h3]
theorem xvl{Q}(hA:A.frames=some (env::outer))(hF:s.heap.FunFrames base (env::outer))(hL:env.frame=some L)(f:FlT s.heap x T C fl)
  (h:∀h' T',Chg (frs (env::outer)) [x,T] s.heap h'->(s.heap.objs.size<=T'\/T'=T)->FlT h' x T' C (rawInt ↑L)->Q () {s with heap:=h' }):wpAny M A (noteFrame (.ref x) env) Q E s:=by
 obtain⟨⟨vs,e1,v1⟩,⟨oT,ts,e2,d2,v2⟩,br⟩:=f;have h3:3<ts.size:=by
  rw[Array.getElem?_eq_some_iff]at v2;exact v2.1
 have h1:1<vs.size:=by
  rw[Array.getElem?_eq_some_iff]at v1;exact v1.1
 unfold noteFrame;rw[hL];refine X0 (Yw e1 rfl v1 (X0 (Yw e2 d2 v2 ?_)))
 by_cases hf:(fl==rawInt ↑L)=true
 ·rw[Xd hf];have e:=eq_of_beq hf;subst e;exact X6 (h s.heap T Chg.refl (.inr rfl) #[#[vs,e1,v1],#[oT,ts,e2,d2,v2],br])
 ·rw[Xi hf];refine X0 (Yr e2 d2 h3 ?_);have c1:Chg (frs (env::outer)) [x,T] s.heap (s.heap.update T (Obj.mapFields λy=>y.setIfInBounds 3 Value.none)):=Chg.of_upd.mono λy hy=>by
   grind
  have e1':(s.heap.update T (Obj.mapFields λy=>y.setIfInBounds 3 Value.none)).get? x=some {cls:=C,data:=.fields vs}:=by
   rw[Z5 _ _ _ _ br.symm];exact e1
  have hF':(s.heap.update T (Obj.mapFields λy=>y.setIfInBounds 3 Value.none)).FunFrames base (env::outer):=by
   refine hF.of_keeps λb o e hn=>#[o,?_,rfl]
   rw[Z5 _ _ _ _ λz=>?_]
   ·exact e
   ·grind
  refine kz4 hA hF' hL #[e1',h1] λh' T' c2 hs f'=>(h h' T' (c1.trans (c2.mono (ch':=[x,T]) λy hy=>by rw[aC hy];simp) λy hy=>.inl hy) (.inl ?_) f')
  rw[Heap.size_update]at hs;exact hs
theorem xjn{Q fr}(f:FlT s.heap x T C fl)(h:∀h',Chg (frs outer) [x,T] s.heap h'->FlT h' x T C (fr.elim Value.none λf=>rawInt ↑f)->Q () {s with heap:=h' }):wpAny M A (setFlight (.ref x) fr) Q E s:=by
 obtain⟨⟨vs,e1,v1⟩,⟨oT,ts,e2,d2,v2⟩,br⟩:=f;have h3:3<ts.size:=by
  rw[Array.getElem?_eq_some_iff]at v2;exact v2.1
 refine X0 (Yw e1 rfl v1 (Yr e2 d2 h3 (h _ (Chg.of_upd.mono λy hy=>by rw[aC hy];simp) #[#[vs,?_,v1],upd3 e2 d2 h3,br])))
 rwa [Z5 _ _ _ _ br.symm]
end
structure XCls (K:Frag)(C:Addr):Prop where
 ga:findIn K (.ref C) "__getattribute__"=some (some (.builtin "BaseException.__getattribute__"))
 gt:findIn K (.ref C) "__getattr__"=some none
 fo:PySem.W.findObj K C none "__class__"=some (.bind (.builtin "getset_descriptor.__get__") (.builtin "object.__class__"))
 ob:PySem.W.mroIn K C (.type "object")=some true
 bx:PySem.W.mroIn K C (.type "BaseException")=some true
 cl:(PySem.W.clsIn K C).isSome=true
def FpX(X:Cx)(a8:LA9)(H:Hp)(b:Addr):Prop:=
 H b=none/\b≠X.env.locals/\b∉X.fs/\(b∈X.ex\/X.s₀.heap.get? b=none)/\(∀x c,X.env.cells.lookup x=some c->c≠b)/\∀p∈X.pn++a8,p.1≠b
section
variable {X:Cx}{a8:LA9}{σ:L2.St}{H:Hp}{s:Shared}
theorem fpX{H' b}(I:Inv X a8 σ H s)(hb:s.heap.get? b=none)(hn:H' b=none):FpX X a8 H' b:=by
 refine#[hn,λz=>?_,λz=>?_,?_,λx c e z=>?_,λp hp z=>?_]
 ·obtain⟨m,⟨o,_,_,ho,_⟩,_⟩:=I.loc
  grind
 ·obtain⟨_,o,e,_⟩:=I.ok.funs.mem z
  by_cases hx:b∈X.ex
  ·exact I.ok.exfs b hx z
  ·obtain _:=I.base.there b o e hx
   grind
 ·by_cases hx:b∈X.ex
  ·exact .inl hx
  ·cases e:X.s₀.heap.get? b with
   |none=>exact .inr rfl
   |some o=>
    obtain⟨o',e'⟩:=I.base.there b o e hx
    grind
 ·obtain⟨v,o,ho,_⟩:=I.cell x c e
  grind
 ·have:=(I.pin p hp).1
  grind
theorem FpX.of{b}(h:wZ X a8 H b):FpX X a8 H b:=#[h.1,h.2.1,h.2.2.1,h.2.2.2.1.imp id λz=>Yi z,h.2.2.2.2]
theorem qjy{h' ch}(I:Inv X a8 σ H s)(c:Chg (frs X.stack) ch s.heap h')(hf:∀b∈ch,FpX X a8 H b):Inv X a8 σ H {s with heap:=h' }:=by
 refine I.call (g':=s.gens) (t':=s.toks) (d':=s.drawn) #[λb o e _ h1 h2=>c.keep b o e h1 h2,λb o e _ _ h2=>c.slot b o e h2,λ_ _ _ n _=>n,λb o e h2=>?_,λ_ _ e=>e,λ_ _ _ e=>e,λ_ _ e=>#[(List.toArray []),by rw[e];simp]] (λb u e=>?_) I.bare λb hb=>?_
 ·obtain⟨sl,q⟩:=c.slot b o e h2;exact#[_,q]
 ·have no:∀d v,H d=some v->d∉frs X.stack/\d∉ch:=λd v e=>#[λz=>(by rw[I.stkFree d z]at e;cases e),λz=>(by rw[(hf d z).1]at e;cases e)]
  refine(I.hok b u e).stay (λd v hc q=>?_) (λ_ q=>q) λ_ _ q=>q
  rcases hc with z|z
  ·rw[z]at q ⊢;exact c.keep b v q (no b u e).1 (no b u e).2
  ·exact c.keep d v q (no d _ z).1 (no d _ z).2
 ·obtain⟨_,f1,_,f3,f4,f5⟩:=hf b hb;exact#[f3,f1,f4,f5]
end
structure Fx (X:Cx)(a8:LA9)(H:Hp)(h:Heap)(x:Addr)(C:Value):Prop where
 fp:FpX X a8 H x
 st:(∃vs,Fl0 h x C vs/\vs[1]?=some .none)\/∃T fl,FlT h x T C fl/\FpX X a8 H T
structure Xt (X:Cx)(a8:LA9)(σ:L2.St)(H:Hp)(x T:Addr)(C fl:Value)(s:Shared):Prop where
 inv:Inv X a8 σ H s
 fx:FpX X a8 H x
 fT:FpX X a8 H T
 f:FlT s.heap x T C fl
theorem Xt.to{X a8 σ H x T C fl s}(h:Xt X a8 σ H x T C fl s):Fx X a8 H s.heap x C:=#[h.fx,.inr #[T,fl,h.f,h.fT]]
def Xo(X:Cx)(E:XK)(e:Value)(s:Shared):Prop:=∃a8 σ H x C,e=.ref x/\Inv X a8 σ H s/\Fx X a8 H s.heap x C/\E C none H
def xz(X:Cx)(E:XK):Prop:=∀a8 σ H s x C,Inv X a8 σ H s->Fx X a8 H s.heap x C->E C none H->X.xe (.ref x) s
abbrev Cx.ex'(X:Cx)(E:XK):Cx:=X.wish (Xo X E)
theorem K9{X E}:xz (Cx.ex' X E) E:=λa8 σ H s x C I f q=>#[a8,σ,H,x,C,rfl,I.unwish,#[f.fp,f.st],q]
def JK(X:Cx):Prop:=∃env0 out,X.stack=env0::out/\X.env.frame=env0.frame
section
variable {X:Cx}{a8:LA9}{σ:L2.St}{H:Hp}{s:Shared}{M:Model}{E':VP9}{x T:Addr}{C fl:Value}
theorem qzz{A Q}(top:JK X)(hA:A.frames=X.A.frames)(I:Inv X a8 σ H s)(f:Fx X a8 H s.heap x C)(h:∀L T s',X.env.frame=some L->Xt X a8 σ H x T C (rawInt ↑L) s'->Q () s'):
  wpAny M A (noteFrame (.ref x) X.env) Q E' s:=by
 obtain⟨env0,out,e1,e2⟩:=top;have hF:=I.stack;have rq:A.frames=some (env0::out):=by rw[hA,I.ok.frames,e1]
 rw[e1]at hF;obtain⟨_,⟨L,o,hL,_⟩,_⟩:=id hF;rw[kjz e2];have vm:=e2.trans hL;rcases f.st with⟨vs,f0,hv⟩|⟨T,fl,fT,pT⟩
 ·refine xvm rq hF hL f0 hv λh' T' c hs o8=>h L T' _ vm #[?_,f.fp,fpX I (Yi hs) (I.hok.fresh hs),o8]
  rw[<-e1]at c;exact qjy I c λb hb=>by rw[aC hb];exact f.fp
 ·refine xvl rq hF hL fT λh' T' c hs o8=>?_
  rw[<-e1]at c;refine h L T' _ vm #[qjy I c λb hb=>?_,f.fp,?_,o8]
  ·simp only[Yq,Y7,or_false]at hb;rcases hb with rfl|rfl
   ·exact f.fp
   ·exact pT
  ·rcases hs with hs|hs
   ·exact fpX I (Yi hs) (I.hok.fresh hs)
   ·rw[hs];exact pT
theorem kw6{A Q fr}(t:Xt X a8 σ H x T C fl s)(h:∀s',Xt X a8 σ H x T C (fr.elim Value.none λf=>rawInt ↑f) s'->Q () s'):wpAny M A (setFlight (.ref x) fr) Q E' s:=by
 refine xjn t.f λh' c o8=>h _ #[qjy t.inv c λb hb=>?_,t.fx,t.fT,o8]
 simp at hb;rcases hb with rfl|rfl
 ·exact t.fx
 ·exact t.fT
theorem wz8{α A what mj Q}(t:Xt X a8 σ H x T C fl s)(h:∀s' o8,Xt X a8 σ H x T C o8 s'->E' (.ref x) s'):wpAny M A (PySem.passOn what (.ref x) mj:Sem α) Q E' s:=by
 obtain⟨vs,e1,v1⟩:=t.f.ex;exact X0 (Yw e1 rfl v1 (X0 (kw6 t λs' t'=>(wpAny_throw (h s' _ t')))))
theorem vw7{E}(top:JK X):PassesOwn M X.A X.env (Xo X E):=by
 rintro e s' ⟨a8,σ,H,x,C,rfl,I,f,q⟩;refine qzz top rfl I f λL T s1 _ t=>?_
 obtain⟨vs,e1,v1⟩:=t.f.ex;exact X0 (Yw e1 rfl v1 (kw6 t λs2 t2=>#[a8,σ,H,x,C,rfl,t2.inv,t2.to,q]))
end
def CXE(P:Program)(w:World):CXT:=λouter H s E e s'=>∃x T C fl H',e=.ref x/\s'.os=s.os/\AllBare s'.gens/\Un (frs outer) [] H H' s.heap s'.heap/\HOk P w H' s'.heap /\
 s.heap.get? x=none/\s.heap.get? T=none/\H' x=none/\H' T=none/\FlT s'.heap x T C fl/\E C none H'
theorem wz9{X E}(g:xz X E):vqt (CXE X.prog X.w) X E:=by
 rintro a8 σ H s e s' I ⟨x,T,C,fl,H',rfl,os,bare,un,hok,hx,hT,nx,nT,f,q⟩;refine g a8 σ H' s' x C (I.call' os un hok bare λb hb=>nomatch hb) #[fpX I hx nx,.inr #[T,fl,f,fpX I hT nT]] q
theorem wjh{CX P w K mg base N qual scope f cd A outer s H E}:
  JK (J8 CX P w K mg base N qual scope f cd A outer s H E):=#[_,_,rfl,rfl]
theorem kxm{P w K mg base N qual scope f cd A outer s H E e}{s'}
  (h:Xo (J8 (CXE P w) P w K mg base N qual scope f cd A outer s H E) E e s'):(J8 (CXE P w) P w K mg base N qual scope f cd A outer s H E).xe e s':=by
 obtain⟨a8,σ,H',x,C,rfl,I,fx,q⟩:=h;show wpAny _ _ _ _ _ s';refine X0 (qzz wjh rfl I fx λL T s1 _ t=>(kw6 t λs2 t2=>?_));have ge:∀b,FpX (J8 (CXE P w) P w K mg base N qual scope f cd A outer s H E) a8 H' b->s.heap.get? b=none:=λb hb=>hb.2.2.2.1.elim (λz=>nomatch z) λz=>z
 exact#[x,T,C,_,H',rfl,t2.inv.os,t2.inv.bare,t2.inv.base,t2.inv.hok,ge x t2.fx,ge T t2.fT,t2.fx.1,t2.fT.1,t2.f,q]
section
variable {P:Program}{w:World}{K:Frag}{mg:Str->Option Value}{base:Heap}
theorem vqu{x qual st f fd N ps k sp}(F:Fun K x qual st f fd)(S:FnScope N ps (jV st))(len:∀vs H Q E,sp vs H Q E->vs.length=ps.length)
  (iq:∀cj (A) (outer) (s) (H) (vs) (Q) (E),Room k (A.deeper (envOfC qual (jV st) s.heap.objs.size f cj))->sp vs H Q E ->
   ∃t,PSs (Cx.ex' (J8 (CXE P w) P w K mg base N qual (jV st) f cj A outer s H E) E) (z3 st) t/\t {nx:=λ_ H'=>Q .non H',rt:=Q} (L2.start N vs) H):FnOk P w K mg base (CXE P w) (k+1) f fd ps sp:=by
 obtain⟨oc,od,kV,gu,pm,an,cj,ct,m8,rfl,lk,ik⟩:=F.ex;refine xjm lk ik S len λA outer s H vs Q E hr mv=>?_
 obtain⟨t,h,q⟩:=iq cj A outer s H vs Q E hr mv;exact#[t,λa8 s' σ H' D I hw=>wpAny_mono (h a8 s' σ H' D (I.wish _) hw) (λf kf z=>z.unwish) λe kf z=>kxm z,q]
def k8(P:Program)(w:World)(K:Frag)(mg:Str->Option Value)(base:Heap)(k:Nat)(x:Str)(ps:List Str)(sp:Sp):Prop:=
 ∃(f:Addr) (fd:FuncData),FnOk P w K mg base (CXE P w) k f fd ps sp/\Binds K fd ps []/\PySem.W.keepIn K (.ref f)=true/\mg x=some (.ref f)
end
section
variable {X:Cx}{x:Str}{p pos:Pos}{e:Expr}{es:List Expr}{t:TA}{ps:List Str}{sp:Sp}{k:Nat}{v:V}{E:XK}
theorem vzi(D:k8 X.prog X.w X.K X.mg X.base k x ps sp)(hr:Room k X.A)(g:xz X E)(ha:PA X (e::es) t)(hg:autoParam (Gl X x) Ŕ)(fk:autoParam (Abd x) ŕ)
  (he:autoParam (Abs e es X) Ŕ) (bv:autoParam (Abb pos es X) Ŕ):
  PE X (.Call (.Name x p) (e::es) [] pos) (wjl sp [] E t):=by
 obtain⟨f,fd,F,b,kp,m⟩:=D;exact qzq F hr hg m kp b .nil (wz9 g) ha fk he bv
end
abbrev lcE(X:Cx)(scope:Scope)(N:List Str)(cl:List (Str×Addr))(C:Addr)(s0:Shared)(H0:Hp)(fp:List Addr)(EX:XK):Cx:=Cx.ex' (lcX X scope N cl C s0 H0 fp) EX
section
variable {prog:Program}{w:World}{A:Around}{R:Result->Shared->Prop}{s:Shared}
set_option tactic.hygienic true in
theorem wq7{fu fw ay ff scope pos it af env}(Ex)(I:Nat->Shared->Prop)
  (gb:∀n s,I n s->wpAny (model prog w) A (pyNext it) (λr s1=>match r with
   | none=>R (.ok .next) s1
   | some v=>wpAny (model prog w) A (letOwnedTupleGo fw it v) (λ_ s2=>wpAny (model prog w) A (assign fw env v) (λ_ s3=>
     wpAny (model prog w) A (vjl ff env) (λok s4=>
      if ok=true then
       wpAny (model prog w) A (eval fu env) (λx s5=>wpAny (model prog w) A (call (.builtin "list.append") [af,x]) (λ_ s6=>∃m,m<n/\I m s6) Ex s5) Ex s4
      else ∃m,m<n/\I m s4) Ex s3) Ex s2) Ex s1) Ex s)
  (hx:∀e s,Ex e s->notedBy (model prog w) A env (λe s'=>R (.error e) s') e s) n (h:I n s):codeAny (model prog w) A (.compLoop (.ListComp fu [#[fw,ay,ff,0]] scope pos) 0 it af env) R s:=by
 refine codeAny_loop rfl I (λn s hI=>(wpAny_noted ?_)) n h;rw[compTurn_list];refine wpAny_mono (X0 (wpAny_standAt (X0 (thn (gb n s hI) λr s1 h1=>?_)))) (λ_ _ q=>q) (λe s q=>?_)
 rotate_left
 ·exact hx e s q
 cases r with
 |none=>exact X6 h1
 |some v=>
  refine X0 (thn h1 λ_ s2 h2=>(X0 (thn h2 λ_ s3 h3=>(X0 (thn h3 λok s4 h4=>?_)))));cases ok with|false=>exact X6 #[rfl,h4]|true=>exact X0 (X0 (thn h4 λx s5 h5=>X0 (thn h5 λ_ s6 h6=>X6 (X6 #[rfl,h6]))))
end
section
variable {X:Cx}{tg ay fu:Expr}{ff:List Expr}{scope:Scope}{N:List Str}{k:Nat}{R:List Nat}{g:TG}{tt:TT}{te:TE}{pos:Pos}
theorem vzp{EX a8 db}{σ σ':L2.St}{H2 H' s2 s' fp cl}{C x T:Addr}{Cc fl Q af use}(gx:xz X EX)
  (I2:Inv X a8 σ H2 s2) (f2:∀b∈fp,wZ X a8 H2 b) (hC:s2.heap.objs.size<=C) (t:Xt (lcX X scope N cl C s2 H2 fp) db σ' H' x T Cc fl s') (q:EX Cc none H'):
  compPost (model X.prog X.w) X.A X.xe use Q af C (.error (.ref x)) s':=by
 obtain⟨m,hn,_⟩:=t.inv.loc;refine#[m,hn,λh' sb mj _=>?_];have fC:=I2.fpOk hC t.inv.free;have J2:Inv X a8 σ H' {s' with heap:=h',toks:=s'.toks}:=(I2.call' t.inv.os t.inv.base t.inv.hok t.inv.bare λb hb=>#[((f2 b hb).2.2.2.1.imp id λz=>Yi z),(f2 b hb).2.1,(f2 b hb).2.2.2.2.1,(f2 b hb).2.2.2.2.2]).turned (λb o hb e=>(sb.2 b hb).trans e) fC.1 fC.2.1 fC.2.2.2.1 fC.2.2.2.2.1 fC.2.2.2.2.2;have fp':∀b,FpX (lcX X scope N cl C s2 H2 fp) db H' b->FpX X a8 H' b:=λb hb=>by
  rcases hb.2.2.2.1 with z|z
  ·exact#[hb.1,(FpX.of (f2 b z)).2]
  ·exact fpX I2 z hb.1
 have nx:=t.fx.2.1;have nT:=t.fT.2.1;have f:FlT h' x T Cc fl:=by
  obtain⟨⟨vs,e1,v1⟩,⟨oT,ts,e2,d2,v2⟩,br⟩:=t.f;exact#[#[vs,(sb.2 x nx).trans e1,v1],#[oT,ts,(sb.2 T nT).trans e2,d2,v2],br]
 refine wz8 #[J2,fp' x t.fx,fp' T t.fT,f] λs3 o8 t3=>gx a8 σ H' s3 x Cc t3.inv t3.to q
set_option tactic.hygienic true in
theorem kxo{EX a8}{σ:L2.St}{H2 s2 it fp tn J Q W cl}{E}
  {RR:Value->Addr->Result->Shared->Prop} (hc:X.calm=true) (top:JK X) (sc:LcOk X scope N k R)
  (dv:∀x c,cl.lookup x=some c->X.env.cells.lookup x=some c) (ci:∀y∈scope.names,y.2=.free->∃c,cl.lookup y.1=some c)
  (hg:∀C s0 H0 fp,PG (lcE X scope N cl C s0 H0 fp EX) tg g) (ht:∀C s0 H0 fp,PTs (lcE X scope N cl C s0 H0 fp EX) ff tt) (he:∀C s0 H0 fp,PE (lcE X scope N cl C s0 H0 fp EX) fu te)
  (I2:Inv X a8 σ H2 s2) (T:Turn X.prog X.w X.K tg J fp it tn) (ca:tn 0 s2.heap) (f2:∀b∈fp,wZ X a8 H2 b) (w0:∃m,W 0 m [] (JW k R σ) H2) (gb:LcW g tt te Q J W)
  (hRR:∀D C oC m ys H' s',Inv X (a8++[(C,oC)]) σ (upd H' D (.lst ys)) s'->s'.heap.get? C=some oC->s'.heap.Ns C m->wZ X a8 (upd H' D (.lst ys)) C->Q (.ref D) (upd H' D (.lst ys))->RR (.ref D) C (.ok .next) s')
  (hER:∀D C s' db σ' H' x T Cc fl,s2.heap.objs.size<=C->Xt (lcX X scope N cl C s2 H2 fp) db σ' H' x T Cc fl s'->EX Cc none H'->RR (.ref D) C (.error (.ref x)) s'):
  wpAny (model X.prog X.w) X.A (newList []) (λaf s3=>wpAny (model X.prog X.w) X.A (newFunctionEnv scope X.env.globals cl [] X.env.qual none .none (some X.env)) (λmj s4=>
   codeAny (model X.prog X.w) X.A (.compStart (.ListComp fu [#[tg,ay,ff,0]] scope pos) 0 (.ref it) af {mj with scope:=relabel scope X.env}) (RR af mj.locals) s4) E s3) E s2:=by
 have tw:∀b∈fp,∃o,s2.heap.get? b=some o:=λb hb=>let ⟨o,e,_⟩:=T.obj 0 _ ca b hb;#[o,e]
 refine Yd (wpAny_newFunctionEnv sc.nocell (by intro y hy;simp at hy) (λh1 lf sb1=>?_) sc.kind);generalize eH:s2.heap.push {cls:=.type "list",dict:=none,data:=.seq ([]:List Value).toArray}=Hx at lf sb1 ⊢;have eC:Hx.objs.size=s2.heap.objs.size+1:=by rw[<-eH,Z8]
 generalize eD:s2.heap.objs.size=D at eC;generalize eC':Hx.objs.size=C at lf sb1 eC ⊢;have qy:D≠C:=⋯
 have hC:s2.heap.objs.size<=C:=⋯
 have hD:s2.heap.objs.size<=D:=⋯
 have eh:=λb o e=>by
  exact sb1.extBut b o (Xk (Xp (Xe e) hC)) (X2 _ (eH▸X2 _ e))
 have accD:h1.get? D=some (Zw [] 0):=by
  refine sb1.extBut _ _ qy (X2 _ ?_);rw [<-eH,<-eD];exact X9 _ rfl
 have below:∀b∈fp,b≠D/\b≠C:=λb hb=>by
  obtain⟨o,e⟩:=tw b hb;exact#[Xk (Xp (Xe e) hD),Xk (Xp (Xe e) hC)]
 have je:∀{H' oD},(∀b∈fp,H' b=none)->∀b∈fp,wZ (lcE X scope N cl C s2 H2 fp EX) [(D,oD)] H' b:=fun {H' oD} hn b hb=>by
  obtain⟨_,f1,f3,f4,f5,f6⟩:=f2 b hb;refine#[hn b hb,(below b hb).2,λz=>?_,.inl hb,λx c h=>f5 x c (dv x c h),λp hp=>?_]
  ·rcases aD (I2.stkSub b z)with y|y
   ·exact f1 y
   ·exact f3 y
  ·have e:p=(D,oD):=by
    have hp:p∈([]++[(D,oD)]:LA9):=hp
    simpa using hp
   rw [e];exact(below b hb).1.symm
 have loop:∀s3,s3={s2 with heap:=h1,toks:=s2.toks+([]:List (Str×Value)).length} ->
   codeAny (model X.prog X.w) X.A (.compLoop (.ListComp fu [#[tg,ay,ff,0]] scope pos) 0 (.ref it) (.ref D) (compEnvC scope cl C X.env)) (RR (.ref D) C) s3:=by
  rintro s3 rfl;obtain⟨m0,w0⟩:=w0;have hxx:∀e s,Xo (lcX X scope N cl C s2 H2 fp) EX e s->notedBy (model X.prog X.w) X.A (compEnvC scope cl C X.env) (λe s'=>RR (.ref D) C (.error e) s') e s:=by
   rintro e s ⟨db,σ',H',x,Cc,rfl,I',f',q'⟩;exact qzz (X:=lcX X scope N cl C s2 H2 fp) top rfl I' f' λL T s1 _ t=>hER D C s1 db σ' H' x T Cc _ hC t q'
  refine wq7 (Xo (lcX X scope N cl C s2 H2 fp) EX) (λn s'=>∃i ys ac nn σ' H',Inv (lcE X scope N cl C s2 H2 fp EX) [(D,Zw ac nn)] σ' H' s'/\Vals ys ac/\tn i s'.heap/\(∀b∈fp,H' b=none)/\W i n ys σ' H') ?_ hxx m0
   #[0,[],[],0,_,H2,(wq5 I2 sc f2 tw hC hD qy dv ci eh lf accD (λv z=>by cases z)).wish _,.nil,T.keep _ _ _ ca (λb hb o e=>eh b o e),λb hb=>(f2 b hb).1,w0]
  rintro n s3 ⟨i,ys,ac,nn,σ3,H3,I3,rv,dy,oq,w3⟩;rcases gb i n ys σ3 H3 w3 with⟨stop,hz,qn⟩|⟨go,step⟩
  ·refine thn (T.done (lcE X scope N cl C s2 H2 fp EX) rfl rfl rfl hc i _ s3 σ3 H3 _ I3 (je oq) dy stop) λr s4 hz=>?_
   obtain⟨hr,I4⟩:=hz;subst hr;show RR (.ref D) C (.ok .next) s4;have hD4:=I4.pin (D,Zw ac nn) (by show _∈([]++[(D,Zw ac nn)]:LA9);simp);have fD:=I2.fpOk hD hD4.2.1;have fC:=I2.fpOk hC I4.free;have J2:Inv X a8 σ (upd H3 D (.lst ys)) s4:=kk4 (I2.call' I4.os I4.base I4.hok I4.bare λb hb=>#[((f2 b hb).2.2.2.1.imp id λz=>Yi z),(f2 b hb).2.1,(f2 b hb).2.2.2.2.1,(f2 b hb).2.2.2.2.2]) hD4.2.1 fD.2.1 fD.2.2.2.1 fD.2.2.2.2.1 fD.2.2.2.2.2 #[hz,ac,nn,rv,hD4.1];obtain⟨mC,nC,_⟩:=I4.loc;obtain⟨oC,es,ep,hoC,hdC,u5⟩:=id nC;have fC':wZ X a8 (upd H3 D (.lst ys)) C:=#[by rw[qQ qy.symm];exact fC.1,fC.2];refine hRR D C oC mC ys H3 s4 (J2.pins_of λp hp=>?_) hoC nC fC' (qn D hD4.2.1);rcases aA hp with z|z
   ·exact J2.pin p (lr9 _ z)
   ·rw[aC z];exact#[hoC,fC'.1,fC'.2.1,fC'.2.2.1,λv y=>by rw[hdC]at y;cases y]
  ·refine thn (T.item (lcE X scope N cl C s2 H2 fp EX) rfl rfl rfl hc i _ s3 σ3 H3 _ I3 (je oq) dy go) λr s4 hz=>?_
   obtain⟨u,hr,h4⟩:=hz;subst hr;refine thn h4 λ_ s5 hz=>?_
   obtain⟨x,H5,I5,r5,y5,ng,fr5⟩:=hz;have jl:∀{σ' H' s' pl},Inv (lcE X scope N cl C s2 H2 fp EX) (pl++Qw fp s5.heap) σ' H' s'->tn (i+1) s'.heap/\∀b∈fp,H' b=none:=fun {σ' H' s' pl} I'=>by
    have q:∀b∈fp,∀o,s5.heap.get? b=some o->s'.heap.get? b=some o/\H' b=none:=λb hb o e=>by
     obtain⟨a1,a2,_⟩:=I'.pin (b,o) (lr9 _ (lr9 _ (jzc hb e)));exact#[a1,a2]
    refine#[T.keep _ _ _ ng λb hb o e=>(q b hb o e).1,λb hb=>?_];obtain⟨o,e,_⟩:=T.obj _ _ ng b hb;exact(q b hb o e).2
   refine thn (hg C s2 H2 fp _ s5 σ3 H5 x u _ (I5.pinned (je fr5) (T.obj _ _ ng)) r5 (step x H5 y5)) λ_ s6 #[σ6,H6,I6,Ny,Nn,hNy,hNn,q6]=>(thn (ht C s2 H2 fp _ s6 σ6 H6 _ I6 q6) λok s7 hz=>?_)
   obtain⟨H7,I7,q7⟩:=hz;cases ok with
   | false=>
    obtain⟨m',hm,w7⟩:=hNn _ q7;exact#[m',hm,i+1,ys,ac,nn,σ6,H7,I7.unpinned,rv,(jl I7).1,(jl I7).2,w7]
   | true=>
    refine thn (he C s2 H2 fp _ s7 σ6 H7 _ I7 q7) λu8 s8 hz=>?_
    obtain⟨y,H8,I8,r8,q8⟩:=hz;obtain⟨hz,m',hm,w8⟩:=hNy _ _ q8;have pD:=I8.pin (D,Zw ac nn) (lr9 _ (ll9 _ (aB rfl)));have ai:=rv.length;refine append_at (hsz:=by rw[X8];lia) pD.1 λh9 sb9 e9=>?_
    have I9:Inv (lcE X scope N cl C s2 H2 fp EX) ([]++Qw fp s5.heap) σ6 H8 {s8 with heap:=h9,toks:=s8.toks}:=(I8.pins_of λp hp=>I8.pin p (lr9 _ (lr9 _ hp))).turned (it:=D) (λb o hb e=>(sb9.2 b hb).trans e) pD.2.1 qy (.inr hD)
     (λx c h z=>by
      obtain⟨v,q⟩:=I2.cell x c (dv x c h);exact absurd (Xp q.lt (z▸hD)) (Ym _))
     (λp hp z=>by
      have hp:p∈([]++([]++Qw fp s5.heap):LA9):=hp;have hp:p∈Qw fp s5.heap:=by simpa using hp
      exact(below p.1 (kxg hp).1).1 z)
    have e9':h9.get? D=some (Zw (ac++[u8]) (nn+1)):=by rw[e9];simp[List.push_toArray]
    refine#[m',hm,i+1,ys++[y],ac++[u8],nn+1,σ6,H8,I9.pins_of λp hp=>?_,rv.append (.cons r8 .nil),(jl I9).1,(jl I9).2,w8];rw[aC hp];exact#[e9',pD.2.1,pD.2.2.1,pD.2.2.2.1,λv z=>by cases z]
 exact codeAny_compStart_list (loop _ rfl) (T.self _ 0 _ _ _ (T.keep _ _ _ ca λb hb o e=>eh b o e) (loop _ rfl))
theorem vzh{EX wi}(N)(k)(R)(hi:PI X tg ay wi)
  (hg:∀cl C s0 H0 fp,PG (lcE X scope N cl C s0 H0 fp EX) tg g) (ht:∀cl C s0 H0 fp,PTs (lcE X scope N cl C s0 H0 fp EX) ff tt) (he:∀cl C s0 H0 fp,PE (lcE X scope N cl C s0 H0 fp EX) fu te)
  (gx:xz X EX) (top:JK X) (hc:autoParam (X.calm=true) Ŕ) (hk:autoParam (scope.kind=.function) Ŕ) (ku:autoParam (KW X.N X.env.scope scope N k R=true) Ŕ) (hs:autoParam (∀x,foldedSetIterable ay X.env x=pure x) Ŗ):
  PE X (.ListComp fu [#[tg,ay,ff,0]] scope pos) (tLC wi g tt te k R):=by
 intro a8 s σ H Q I h;have sc:=qqi hk ku;obtain⟨cl,mf,dv,ci⟩:=kqm λy hy e=>I.ok.has y.1 (sc.caps y hy e)
 refine wpAny_comprehension_free rfl hs mf sc.kind sc.names (thn (hi a8 s σ H _ I h) λv s1 h1=>thn h1 λitv s2 h2=>?_);obtain⟨it,fp,tn,J,H2,e,I2,T,ca,f2,W,w0,gb⟩:=h2;subst e;refine kxo hc top sc dv ci (hg cl) (ht cl) (he cl) I2 T ca f2 w0 gb ?_ ?_
 rotate_left
 ·intro D C s' db σ' H' x T Cc fl hC t q;exact vzp gx I2 f2 hC t q
 intro D C oC m ys H' s' I' _ nC fC q;exact#[m,nC,λh' sb=>#[.ref D,_,I'.unpinned.turned (t':=s'.toks) (λb o hb e=>(sb.2 b hb).trans e) fC.1 fC.2.1 fC.2.2.2.1 fC.2.2.2.2.1 fC.2.2.2.2.2,rfl,q]]
end
structure ExAt (K:Frag)(x:Addr)(ox:Obj)(C:Addr):Prop where
 cls:ox.cls=.ref C
 no:PySem.W.notCls ox=true
 di:ox.dict=none
 xc:XCls K C
end L3
namespace Q
open PySem
inductive D where
 |non|bl (b:Bool)|int (i:Int)|str (z:Str)|tup (xs:List D)|lst (xs:List D)|dct (kvs:List (D×D))|obj (c:Str) (fs:List (Str×D))
instance:DecidableEq D:=λa b=>Classical.propDecidable (a=b)
instance:Inhabited D:=#[.non]
mutual
noncomputable def D.pure:D->Bool
 |.tup xs=>D.pures xs|.lst _=>false|.dct _=>false|.obj _ _=>false|_=>true
noncomputable def D.pures:List D->Bool
 |[]=>true|a::x=>D.pure a&&D.pures x
end
theorem D.pures_all:∀xs,D.pures xs=xs.all D.pure
 |[]=>by simp[D.pures]|a::x=>by rw[D.pures,List.all_cons,D.pures_all x]
@[simp] theorem D.pures_map {α:Type} f (xs:List α)(h:∀x∈xs,(f x).pure=true):D.pures (xs.map f)=true:=by
 rw[D.pures_all,Z7];intro d hd;obtain⟨x,hx,rfl⟩:=aE hd;exact h x hx
mutual
noncomputable def peq:D->D->Bool
 |.non,.non=>true|.bl a,.bl b=>a==b|.bl a,.int b=>(if a then 1 else 0)==b|.int a,.bl b=>a==(if b then 1 else 0)|.int a,.int b=>a==b|.str a,.str b=>a==b|.lst as,.lst bs=>peqs as bs|.tup as,.tup bs=>peqs as bs|_,_=>false
noncomputable def peqs:List D->List D->Bool
 |[],[]=>true|a::as,b::bs=>peq a b&&peqs as bs|_,_=>false
end
mutual
noncomputable def D.flat:Nat->D->Bool
 |0,.tup _=>false|0,.lst _=>false|n+1,.tup xs=>D.flats n xs|n+1,.lst xs=>D.flats n xs|_,.dct _=>false|_,.obj _ _=>false|_,_=>true
noncomputable def D.flats:Nat->List D->Bool
 |_,[]=>true|n,a::x=>D.flat n a&&D.flats n x
end
mutual
noncomputable def qx:Nat->D->Bool
 |_,.non=>true|_,.int _=>true|_,.str _=>true|n+1,.tup xs=>keyDs n xs|_,_=>false
noncomputable def keyDs:Nat->List D->Bool
 |_,[]=>true|n,a::x=>qx n a&&keyDs n x
end
def unm : List (D × D) -> Bool
  |(.str _,_)::_=>false|_=>true
inductive Own where
 |no|rt|dp
 deriving DecidableEq
abbrev Sd:=Own×D
abbrev En:=List (Option Sd)
inductive Res (α:Type) where
 |ok (E:En) (a:α)
 |exc (E:En) (c:Str)
abbrev Ev(α:Type):=En->Option (Res α)
abbrev Ex:=Ev Sd
def bnd{α β:Type}(m:Option (Res α))(f:En->α->Option (Res β)):Option (Res β):=
 match m with
 |some (.ok E a)=>f E a|some (.exc E c)=>some (.exc E c)|none=>none
@[simp] theorem xxe {α β:Type}(E:En)(a:α)(f:En->α->Option (Res β)):bnd (some (.ok E a)) f=f E a:=rfl
@[simp] theorem xwb {α β:Type}(E:En)(c:Str)(f:En->α->Option (Res β)):bnd (some (.exc E c)) f=some (.exc E c):=rfl
@[simp] theorem xq6 {α β:Type}(f:En->α->Option (Res β)):bnd none f=none:=rfl
def val{α:Type}(E:En)(x:Option α):Option (Res α):=x.map (Res.ok E)
@[simp] theorem xkp {α:Type}(E:En)(x:α):val E (some x)=some (.ok E x):=rfl
@[simp] theorem xkq {α:Type}(E:En):val E (none:Option α)=none:=rfl
def cC(d:D):Ex:=λE=>some (.ok E (.dp,d))
def cV(i:Nat):Ex:=λE=>match E[i]? with
 |some (some (_,d))=>some (.ok (E.set i (some (.no,d))) (.no,d))|_=>none
def cMv(i:Nat):Ex:=λE=>match E[i]? with
 |some (some x)=>some (.ok (E.set i none) x)|_=>none
def vV(i:Nat):Ex:=λE=>match E[i]? with
 |some (some x)=>some (.ok E x)|_=>none
def vE(c:Ex):Ex:=λE=>bnd (c E) λE x=>some (.ok E (.no,x.2))
abbrev C9(z:Int):Ex:=vE (cC (.int z))
def cH(v:Ex):Ex:=λE=>bnd (v E) λE x=>if x.1=.no then some (.ok E (.no,x.2))else if x.2.pure then some (.ok E (.dp,x.2))else none
def cF1(f:Sd->Option Sd)(a:Ex):Ex:=λE=>bnd (a E) λE x=>val E (f x)
def cF2(f:Sd->Sd->Option Sd)(a b:Ex):Ex:=λE=>bnd (a E) λE x=>bnd (b E) λE y=>val E (f x y)
def pu1(f:D->Option D):Sd->Option Sd:=λx=>(f x.2).map λd=>(.dp,d)
def pu2(f:D->D->Option D):Sd->Sd->Option Sd:=λx y=>(f x.2 y.2).map λd=>(.dp,d)
def xx6:D->List D
 |.lst xs=>xs|.tup xs=>xs|.dct kvs=>kvs.map (·.2)|_=>[]
def qV(x:Sd):Bool:=x.1 != .dp||D.pures (xx6 x.2)
def sub:Own->Own
 |.dp=>.dp|_=>.no
def ixN(n:Nat)(i:Int):Option Nat:=if 0<=i then(if i<n then some i.toNat else none)else if -(n:Int)<=i then some (i+n).toNat else none
noncomputable def ixD:D->D->Option D
 |.lst xs,.int i=>(ixN xs.length i).bind λj=>xs[j]?|.tup xs,.int i=>(ixN xs.length i).bind λj=>xs[j]?|.str z,.int i=>(ixN z.cps.size i).bind λj=>(z.cps.toList[j]?).map λc=>.str #[(List.toArray [c])]|.dct kvs,k=>(kvs.find? λe=>decide (e.1=k)).map (·.2)|_,_=>none
def big:Nat:=16777216
def i2(f:Int->Int->Option Int):D->D->Option D
 |.int a,.int b=>(f a b).map .int|_,_=>none
def c2(f:Int->Int->Bool):D->D->Option D
 |.int a,.int b=>some (.bl (f a b))|_,_=>none
def qxh(a:Int):Bool:=decide (-(2 ^ 64)<a)&&decide (a<2 ^ 64)
noncomputable def jX:Sd->Sd->Option Sd:=λx y=>match x.2,y.2 with
 |.int a,.int b=>some (.dp,.int (a+b))|.str a,.str b=>if a.cps.size+b.cps.size<=big then some (.dp,.str (a++b))else none|.lst a,.lst b=>if a.length+b.length<=big/\qV x/\qV y then some (.rt,.lst (a++b))else none|.tup a,.tup b=>if a.length+b.length<=big/\qV x/\qV y then some (.no,.tup (a++b))else none|_,_=>none
def Zq(a b:Int):Bool:=qxh a||qxh b||(decide (a.natAbs.log2<2000000)&&decide (b.natAbs.log2<2000000))
noncomputable def xjp:Sd->Sd->Option Sd:=λx y=>match x.2,y.2 with
 |.int a,.int b=>if Zq a b then some (.dp,.int (a*b))else none|.lst a,.int k=>if -(2 ^ 63)<=k/\k<2 ^ 63/\a.length*k.toNat<=big/\qV x then some (.rt,.lst (List.replicate k.toNat a).flatten)else none|.str z,.int n=>if(z.cps.size<=1024/\n<=1024/\-1024<=n)/\(Txt.mul z n).cps.size<=big then some (.dp,.str (Txt.mul z n))else none|_,_=>none
def Wq:D->D->Option D:=i2 λa b=>some (a - b)
def vz:D->D->Option D:=i2 λa b=>if 0<b/\b.natAbs.log2<9000 then some (a / b)else none
def kJ:D->D->Option D:=i2 λa b=>if 0<b then some (a % b)else none
def fEq:D->D->Option D:=λa b=>if a.flat 40&&b.flat 40 then some (.bl (peq a b))else none
def fNe:D->D->Option D:=λa b=>if a.flat 40&&b.flat 40 then some (.bl (!peq a b))else none
def isNon:D->Bool
 |.non=>true|_=>false
def fLt:D->D->Option D:=c2 λa b=>decide (a<b)
def fLe:D->D->Option D:=c2 λa b=>decide (a<=b)
def fGt:D->D->Option D:=c2 λa b=>decide (b<a)
def fGe:D->D->Option D:=c2 λa b=>decide (b<=a)
def zx:D->Option D
 |.int a=>some (.int (-a))|_=>none
def xw4(a b:Str):Bool:=!(Builtin.Str.occurrences b a 0 b.length 1).isEmpty
noncomputable def fIn:D->D->Option D:=λx y=>match y with
 |.lst ys=>if x.flat 30&&D.flats 30 ys then some (.bl (ys.any λz=>peq z x))else none|.tup ys=>if x.flat 30&&D.flats 30 ys then some (.bl (ys.any λz=>peq z x))else none
 |.str b=>(match x with
  |.str a=>some (.bl (xw4 a b))
  |_=>none)
 |.dct kvs=>some (.bl (kvs.any λe=>decide (e.1=x)))|_=>none
def W6:D->D->Option D:=λx y=>(fIn x y).bind λd=>match d with
 |.bl k=>some (.bl (!k))|_=>none
def kz:D->Option D
 |.lst xs=>some (.int xs.length)|.tup xs=>some (.int xs.length)|.str z=>some (.int z.length)|_=>none
def kind:D->String
 |.non=>"NoneType"|.bl _=>"bool"|.int _=>"int"|.str _=>"str"|.tup _=>"tuple"|.lst _=>"list"|.dct _=>"dict"|.obj _ _=>""
def isaK(t u:String):Bool:=t==u||(t == "bool" && u == "int")
def vk(u:String):D->Option D:=λd=>match d with
 |.obj _ _=>none|.dct _=>none|_=>some (.bl (isaK (kind d) u))
def fIsNon:D->Option D:=λd=>some (.bl (isNon d))
def fNotNon:D->Option D:=λd=>some (.bl (!isNon d))
abbrev Ts:=Ev Bool
def truth:D->Option Bool
 |.bl b=>some b|.non=>some false|.int i=>some (i != 0)|.str z=>some (z.cps.size != 0)|.lst xs=>some (!xs.isEmpty)|.tup xs=>some (!xs.isEmpty)|.dct xs=>some (!xs.isEmpty)|.obj _ _=>none
def tE(c:Ex):Ts:=λE=>bnd (c E) λE x=>val E (truth x.2)
def tAnd(a b:Ts):Ts:=λE=>bnd (a E) λE x=>if x then b E else some (.ok E false)
def tOr(a b:Ts):Ts:=λE=>bnd (a E) λE x=>if x then some (.ok E true)else b E
def tNot(a:Ts):Ts:=λE=>bnd (a E) λE x=>some (.ok E (!x))
def tYes:Ts:=λE=>some (.ok E true)
def cIf(t:Ts)(a b:Ex):Ex:=λE=>bnd (t E) λE x=>if x then a E else b E
def Qq(a b:Ex):Ex:=λE=>bnd (a E) λE x=>match x.2 with
 |.bl true=>b E|.bl false=>some (.ok E (.dp,.bl false))|_=>none
def zX:D->D->Option D:=λx y=>match y with
 |.dct _=>none|_=>fIn x y
def zW:D->D->Option D:=λx y=>match y with
 |.dct _=>none|_=>W6 x y
def f2First(f:D->Option D):Sd->Sd->Option Sd:=λx y=>if isNon y.2 then(f x.2).map λd=>(.dp,d)else none
def jW:D->D->Option D:=λx y=>match x with
 |.dct _=>none|_=>ixD x y
def j9(a b:Ex):Ex:=λE=>bnd (a E) λE x=>bnd (b E) λE y=>val E ((jW x.2 y.2).map λd=>(sub x.1,d))
def truthQ:D->Option Bool:=λd=>match d with
 |.dct _=>none|_=>truth d
def tEQ(c:Ex):Ts:=λE=>bnd (c E) λE x=>val E (truthQ x.2)
def Wx(c:Ex):Ex:=λE=>bnd (c E) λE x=>val E ((truthQ x.2).map λk=>(.dp,.bl (!k)))
def vY:List Ex->Ev (List Sd)
 |[],E=>some (.ok E [])|c::cs,E=>bnd (c E) λE x=>bnd (vY cs E) λE xs=>some (.ok E (x::xs))
def zK(x:Sd):Bool:=x.1 == .dp||x.2.pure
def kq(o:Own)(cs:List Ex):Ex:=λE=>bnd (vY cs E) λE xs=>if o=.dp then(if xs.all zK then some (.ok E (.dp,.lst (xs.map (·.2))))else none)else some (.ok E (.rt,.lst (xs.map (·.2))))
def kY(o:Own)(cs:List Ex):Ex:=λE=>bnd (vY cs E) λE xs=>if o=.dp then(if xs.all zK then some (.ok E (.dp,.tup (xs.map (·.2))))else none)else some (.ok E (.no,.tup (xs.map (·.2))))
inductive Fl where
 |nx (E:En)|rt (E:En) (x:Sd)|ct (E:En)|bk (E:En)|xc (E:En) (c:Str)
abbrev Sm:=En->Option Fl
def ofE{α:Type}(m:Option (Res α))(f:En->α->Option Fl):Option Fl:=
 match m with
 |some (.ok E a)=>f E a|some (.exc E c)=>some (.xc E c)|none=>none
@[simp] theorem xx5 {α:Type}(E:En)(a:α)(f:En->α->Option Fl):ofE (some (.ok E a)) f=f E a:=rfl
@[simp] theorem xvk {α:Type}(E:En)(c:Str)(f:En->α->Option Fl):ofE (some (.exc E c)) f=some (.xc E c):=rfl
@[simp] theorem xq1 {α:Type}(f:En->α->Option Fl):ofE none f=none:=rfl
def j7(a b:Sm):Sm:=λE=>match a E with
 |some (.nx E)=>b E|r=>r
def k4:Sm:=λE=>some (.nx E)
def jv(i:Nat)(c:Ex):Sm:=λE=>ofE (c E) λE x=>some (.nx (E.set i (some x)))
def jJ(c:Ex):Sm:=λE=>ofE (c E) λE x=>some (.rt E x)
def sIf(t:Ts)(a b:Sm):Sm:=λE=>ofE (t E) λE x=>if x then a E else b E
inductive Tg where
 |n (i:Nat)|t (ts:List Nat)
def setAll:List Nat->List D->En->Option En
 |[],[],E=>some E|i::is,d::ds,E=>setAll is ds (E.set i (some (.no,d)))|_,_,_=>none
def Tg.put:Tg->D->En->Option En
 |.n i,d,E=>some (E.set i (some (.no,d)))|.t is,.tup ds,E=>setAll is ds E|.t is,.lst ds,E=>setAll is ds E|.t _,_,_=>none
def QQ(is:List Nat)(c:Ex):Sm:=λE=>ofE (c E) λE x=>(Tg.put (.t is) x.2 E).map .nx
def KQ(tg:Tg)(b:Sm):List D->En->Option Fl
 | [],E=>some (.nx E)
 | d::ds,E=>match tg.put d E with
  |none=>none
  |some E=>match b E with
   |some (.nx E)=>KQ tg b ds E|some (.ct E)=>KQ tg b ds E|some (.bk E)=>some (.nx E)|r=>r
def kW(it:Ev (List D))(tg:Tg)(b:Sm):Sm:=λE=>ofE (it E) λE ds=>KQ tg b ds E
def whF(t:Ts)(b:Sm)(f:Sm):Sm:=λE=>match t E with
 |some (.ok E true)=>(match b E with
  |some (.nx E)=>f E|some (.ct E)=>f E|some (.bk E)=>some (.nx E)
  |r=>r)
 |some (.ok E false)=>some (.nx E)|some (.exc E c)=>some (.xc E c)|none=>none
def whN(t:Ts)(b:Sm):Nat->Sm
 |0=>λ_=>none|n+1=>whF t b (whN t b n)
open Classical in
def Jz(t:Ts)(b:Sm):Sm:=λE=>if h:∃n r,whN t b n E=some r then some h.choose_spec.choose else none
set_option tactic.hygienic true in
theorem kzy{t b E r}(h:Jz t b E=some r):∃n,whN t b n E=some r:=by
 unfold Jz at h
 split at h
 ·rename_i h2;exact#[_,h▸h2.choose_spec.choose_spec]
 ·cases h
theorem qwl{t b}(E):(∃E2,∀g,whF t b g E=g E2)\/∃q,∀g,whF t b g E=q:=by
 unfold whF;cases t E with
 | none=>exact .inr #[_,λ_=>rfl]
 | some r=>
  cases r with
  | exc=>exact .inr #[_,λ_=>rfl]
  | ok E1 k=>
   cases k with
   |false=>exact .inr #[_,λ_=>rfl]
   |true=>
    dsimp only;cases b E1 with|none=>exact .inr #[_,λ_=>rfl]|some f=>cases f<;>first|exact .inl #[_,λ_=>rfl]|exact .inr #[_,λ_=>rfl]
theorem wvt{t b}:∀{n E r},whN t b n E=some r->whN t b (n+1) E=some r
 |n+1,E,r,h=>by
  rcases qwl (t:=t) (b:=b) E with⟨E2,e⟩|⟨q,e⟩
  ·exact(e _).trans (wvt ((e _).symm.trans h))
  ·exact(e _).trans ((e _).symm.trans h)
theorem qwk{t b n E r}(h:whN t b n E=some r):∀k,whN t b (n+k) E=some r
 |0=>h|k+1=>wvt (qwk h k)
theorem kqt{t b n E r}(h:whN t b n E=some r):Jz t b E=some r:=by
 have h2:∃n r,whN t b n E=some r:=#[n,r,h];unfold Jz;rw[dif_pos h2];have a:=qwk h2.choose_spec.choose_spec n;have b:=qwk h h2.choose;rw[Nat.add_comm]at b;exact a.symm.trans b
theorem vv0 {t b} (E): Jz t b E = whF t b (Jz t b) E:= by
  refine Option.ext λr=>#[λh=> ?_,λh=> ?_]
  · obtain⟨n,h⟩:= kzy h
    cases n with
    | zero=>cases h
    | succ n => rcases qwl (t:= t) (b:= b) E with⟨E2,e⟩|⟨q,e⟩
                · exact(e _).trans (kqt ((e _).symm.trans h))
                · exact(e _).trans ((e _).symm.trans h)
  · rcases qwl (t:= t) (b:= b) E with⟨E2,e⟩|⟨q,e⟩
    · obtain⟨n,h⟩:= kzy ((e _).symm.trans h)
      exact kqt (n:= n+1) ((e _).trans h)
    · exact kqt (n:= 1) ((e _).trans ((e _).symm.trans h))
def at'{α:Type}(L:List (Option α))(j:Nat):Option α:=(L[j]?).join
def clr{α:Type}:List Nat->List (Option α)->List (Option α)
 |[],L=>L|j::R,L=>clr R (L.set j none)
def back{α:Type}:List Nat->List (Option α)->List (Option α)->List (Option α)
 |j::R,q::B,L=>back R B (L.set j q)|_,_,L=>L
def Wz(k:Nat)(R:List Nat)(E:En):En:=List.replicate k none++R.map (at' E)
def JJ(k:Nat)(R:List Nat)(B E:En):En:=back R (B.drop k) (clr R E)
def lcL(tg:Tg)(t:Ts)(c:Ex):List D->En->List Sd->Option (Res (List Sd))
 |[],B,af=>some (.ok B af)
 |d::ds,B,af=>match tg.put d B with
  |none=>none|some B=>bnd (t B) λB x=>if x then bnd (c B) λB y=>lcL tg t c ds B (af++[y])else lcL tg t c ds B af
def mkL(o:Own)(E:En)(xs:List Sd):Option (Res Sd):=
 if o=.dp then(if xs.all zK then some (.ok E (.dp,.lst (xs.map (·.2))))else none)else some (.ok E (.rt,.lst (xs.map (·.2))))
def cLC(o:Own)(k:Nat)(R:List Nat)(it:Ev (List D))(tg:Tg)(t:Ts)(c:Ex):Ex:=λE=>bnd (it E) λE ds=>
 match lcL tg t c ds (Wz k R E) []with
 |some (.ok B xs)=>mkL o (JJ k R B E) xs|some (.exc B e)=>some (.exc (JJ k R B E) e)|none=>none
def V4:Option (Option Sd)->Bool
 |some (some (_,.lst _))=>true|_=>false
def W4(g0:Option (Option Sd)->Bool)(g:Sd->D->D->Option D)(i:Nat)(kc vc:Ex):Sm:=λE=>ofE (vc E) λE v=>if g0 E[i]?=true then ofE (kc E) λE k=>(match E[i]? with
 |some (some s)=>(g s k.2 v.2).map λd=>.nx (E.set i (some (.rt,d)))
 |_=>none)else none
noncomputable def v4(f:List D->D->Option (List D))(i:Nat)(c:Ex):Sm:=λE=>if V4 E[i]? then ofE (c E) λE x=>match E[i]? with
 |some (some (o,.lst xs))=>if o=.no then none else(match f xs x.2 with
  |some ys=>some (.nx (E.set i (some (if o=.dp/\zK x then .dp else .rt,.lst ys))))
  |none=>none)
 |_=>none
 else none
def v3:List D->D->Option (List D):=λxs d=>if xs.length<big then some (xs++[d])else none
def J7:D->Option D
 |.int i=>some (.int i)|.bl k=>some (.int (if k then 1 else 0))|.str z=>if z.length<=640 then(PySem.intText? z).map .int else none|_=>none
def W0:Sd->Option Sd:=λx=>match x.2 with
 |.lst xs=>if qV x then some (.rt,.lst xs)else none|.tup xs=>if qV x then some (.rt,.lst xs)else none|_=>none
def z8:Sd->Option Sd:=λx=>match x.2 with
 |.lst xs=>if qV x then some (.no,.tup xs)else none|.tup xs=>if qV x then some (.no,.tup xs)else none|_=>none
def xxb:D->D->Option D:=i2 λa b=>some (if b<a then b else a)
def bls:List D->Option (List Bool)
 |[]=>some []|.bl b::ds=>(bls ds).map (b :: ·)|_=>none
def xq4:D->Option D
 |.lst ds=>(bls ds).map λbs=>.bl (bs.all id)|_=>none
def seqOf:D->Option (List D)
 |.lst xs=>some xs|.tup xs=>some xs|.str z=>if z.cps.size<=big then some (z.cps.toList.map λc=>.str #[(List.toArray [c])])else none|_=>none
def itS(c:Ex):Ev (List D):=λE=>bnd (c E) λE x=>val E (seqOf x.2)
def z6(i:Int):Bool:=decide (-(2 ^ 62)<=i)&&decide (i<2 ^ 62)
def k6(lo hi:Int):List D:=(List.range (hi - lo).toNat).map λ(k:Nat)=>.int (lo+(k:Int))
def wv(c:Ex):Ev (List D):=λE=>bnd (c E) λE x=>match x.2 with
 |.int j=>if z6 j/\j.toNat<=big then some (.ok E (k6 0 j))else none|_=>none
def QZ(c:Ex):Ex:=λE=>bnd (c E) λE x=>match x.2 with
 |.int j=>if z6 j/\j.toNat<=big then some (.ok E (.rt,.lst (k6 0 j)))else none|_=>none
abbrev Fn:=List Sd->Option (Res Sd)
def fn(n:Nat)(b:Sm):Fn:=λxs=>match b (xs.map some++List.replicate (n - xs.length) none)with
 |some (.rt E x)=>some (.ok E x)|some (.nx E)=>some (.ok E (.dp,.non))|some (.xc E c)=>some (.exc E c)|_=>none
def letAll(xs:List Sd):List Sd:=xs.map λx=>(.no,x.2)
def jx(f:Fn)(cs:List Ex):Ex:=λE=>bnd (vY cs E) λE xs=>match f (letAll xs)with
 |some (.ok _ y)=>some (.ok E y)|some (.exc _ c)=>some (.exc E c)|none=>none
end Q
namespace Q
open PySem PySem.Spec PyProof.Rows L2 L3
mutual
noncomputable def V7(w:PySem.World):D->Int
 |.int i=>hashInt i|.str z=>hashStr w z|.tup xs=>reduceHash (Builtin.Tuple.tupleHashOf (hashDs w xs))|_=>4238894112
noncomputable def hashDs(w:PySem.World):List D->List Int
 |[]=>[]|a::x=>V7 w a::hashDs w x
end
def Kd:Type:={d:D // qx 6 d=true}
instance:DecidableEq Kd:=λa b=>Classical.propDecidable (a=b)
abbrev Ent:=Kd×Addr×Value
def qW(a:Addr)(es:List Ent)(ep:Nat):HO:=.ext λw h=>∃o ds,h.get? a=some o/\o.ExactDict/\o.data=.dict ds ep/\ds.toList=es.map λx=>(#[V7 w x.1.1,.ref x.2.1,x.2.2]:DictEntry)
mutual
noncomputable def PuR(K:Frag)(H:Hp):D->V->Prop
 |.non,v=>v=.non|.int i,v=>v=.int i|.str z,v=>v=.str z/\z.length<=sizeLine|.tup ds,v=>∃a xs,v=.ref a/\SqT K H a xs/\PuRs K H ds xs|_,_=>False
noncomputable def PuRs(K:Frag)(H:Hp):List D->List V->Prop
 |[],xs=>xs=[]|d::ds,xs=>∃x r,xs=x::r/\PuR K H d x/\PuRs K H ds r
end
def DcN(K:Frag)(H:Hp)(a:Addr)(ks:List D)(vs:List V):Prop:=∃(es:List Ent) (ep:Nat),H a=some (qW a es ep)/\(a==sysModules)=false/\es.length<=sizeLine/\(es.map (·.1)).Nodup/\ks=es.map (·.1.1)/\(∀x∈es,PuR K H x.1.1 (.ref x.2.1))/\Vals vs (es.map (·.2.2))
def DcI(H:Hp)(a:Addr)(ks:List D)(vs:List V):Prop:=∃(kv:List (Int×V)) (m:Str),H a=some (.dK (kv.map λp=>(Sum.inl p.1,p.2)))/\ks=.str m::kv.map (λp=>D.int p.1)/\vs=.non::kv.map (·.2)
def DcA(K:Frag)(H:Hp)(a:Addr)(ks:List D)(vs:List V):Prop:=DcN K H a ks vs\/DcI H a ks vs
theorem DcA.un{K H a kvs vs}(h:DcA K H a (kvs.map (·.1)) vs)(hu:unm kvs=true):DcN K H a (kvs.map (·.1)) vs:=by
 rcases h with h|⟨kv,m,_,h,_⟩
 ·exact h
 ·cases kvs with
  |nil=>cases h
  |cons p r=>
   obtain⟨k,d⟩:=p;injection h with h1 _;subst h1;cases hu
def xxi(K:Frag)(a:Addr)(xs:List V):Prop:=∃(ac:Array Value) (n:Nat),K.lookup a=some {cls:=.type "list",data:=.seq ac n}/\ac.size<=sizeLine/\Vals xs ac.toList
def xqa(K:Frag)(H:Hp)(a:Addr)(xs:List V):Prop:=(∃o,H a=some (.frz o (.lst xs)))\/xxi K a xs
def LsR(K:Frag)(H:Hp)(a:Addr)(xs:List V):Prop:=Rd H a (.lst xs)\/xxi K a xs
theorem LsR.of{K H a xs}(h:xqa K H a xs):LsR K H a xs:=h.imp .inr id
theorem LsR.sq{K H a xs}(h:LsR K H a xs):SqL K H a xs:=by
 rcases h with h|⟨ac,n,h1,h2,h3⟩
 ·exact .inl h
 ·exact .inr #[_,ac,n,h1,rfl,rfl,rfl,h2,h3]
theorem LsR.is{X a8}{σ:L2.St}{H s a xs}(I:L2.Inv X a8 σ H s)(h:LsR X.K H a xs):xs.length<=sizeLine/\∃(ac:List Value) (n:Nat),Vals xs ac/\s.heap.get? a=some {cls:=.type "list",data:=.seq ac.toArray n}:=by
 rcases h with h|⟨ac,n,h1,h2,h3⟩
 ·obtain⟨z,ac,n,r,e⟩:=h.ok I.hok;exact#[z,ac,n,r,e]
 ·have hl:=h3.length;simp at hl;exact#[⋯,ac.toList,n,h3,by simpa using I.kIn a _ h1]
def ExD(K:Frag)(H:Hp)(c:Str)(v:V):Prop:=∃x o C,v=.ref x/\H x=some (.frz o (.ext λ_ _=>True))/\ExAt K x o C/\nsIn K mainGlobals c=some (some (.ref C))
mutual
noncomputable def RepL(K:Frag)(H:Hp)(g:Bool):D->V->List Addr->Prop
 |.non,v,as=>v=.non/\as=[]|.bl b,v,as=>v=.bl b/\as=[]|.int i,v,as=>v=.int i/\as=[]|.str z,v,as=>v=.str z/\as=[]/\z.length<=sizeLine|.tup ds,v,as=>∃a xs,v=.ref a/\SqT K H a xs/\RepA K H g ds xs as|.lst ds,v,as=>∃a xs bs,v=.ref a/\RepA K H g ds xs bs/\((H a=some (.lst xs)/\as=a::bs)\/(g=true/\xqa K H a xs/\as=bs))|.dct kvs,v,as=>∃a xs bs,v=.ref a/\RepP K H g kvs xs bs/\DcA K H a (kvs.map (·.1)) xs/\as=a::bs|.obj c _,v,as=>as=[]/\ExD K H c v
noncomputable def RepA(K:Frag)(H:Hp)(g:Bool):List D->List V->List Addr->Prop
 |[],xs,as=>xs=[]/\as=[]|d::ds,xs,as=>∃x r bs cs,xs=x::r/\as=bs++cs/\RepL K H g d x bs/\RepA K H g ds r cs
noncomputable def RepP(K:Frag)(H:Hp)(g:Bool):List (D×D)->List V->List Addr->Prop
 |[],xs,as=>xs=[]/\as=[]|(_,d)::ds,xs,as=>∃x r bs cs,xs=x::r/\as=bs++cs/\RepL K H g d x bs/\RepP K H g ds r cs
end
def RepR(K:Frag)(H:Hp):D->V->List Addr->Prop
 |.lst ds,v,as=>∃a xs bs,v=.ref a/\RepA K H true ds xs bs/\H a=some (.lst xs)/\as=a::bs|.dct kvs,v,as=>∃a xs bs,v=.ref a/\RepP K H true kvs xs bs/\DcA K H a (kvs.map (·.1)) xs/\as=a::bs|_,_,_=>False
def RepO(K:Frag)(H:Hp):Own->D->V->List Addr->Prop
 |.no=>RepL K H true|.rt=>RepR K H|.dp=>RepL K H false
section
variable {K:Frag}{H H':Hp}
def Kp(H H':Hp)(as:List Addr):Prop:=(∀a xs,H a=some (.tup xs)->H' a=some (.tup xs))/\(∀a o u,H a=some (.frz o u)->H' a=some (.frz o u))/\∀a∈as,∀ob,H a=some ob->H' a=some ob
theorem Kp.left{as bs}(k:Kp H H' (as++bs)):Kp H H' as:=#[k.1,k.2.1,λa ha=>k.2.2 a (ll9 _ ha)]
theorem Kp.right{as bs}(k:Kp H H' (as++bs)):Kp H H' bs:=#[k.1,k.2.1,λa ha=>k.2.2 a (lr9 _ ha)]
theorem Kp.tail{a bs}(k:Kp H H' (a::bs)):Kp H H' bs:=#[k.1,k.2.1,λb hb=>k.2.2 b (lc9 _ hb)]
theorem Kp.tupT{as a xs}(k:Kp H H' as)(h:SqT K H a xs):SqT K H' a xs:=by
 rcases h with(h|⟨o,h⟩)|h
 ·exact .inl (.inl (k.1 a xs h))
 ·exact .inl (.inr #[o,k.2.1 a o _ h])
 ·exact .inr h
theorem Kp.frzL{as a xs}(k:Kp H H' as)(h:xqa K H a xs):xqa K H' a xs:=by
 rcases h with⟨o,h⟩|h
 ·exact .inl #[o,k.2.1 a o _ h]
 ·exact .inr h
mutual
theorem PuR.kp{as}(k:Kp H H' as):∀{d v},PuR K H d v->PuR K H' d v
 |.non,_,h=>h|.int _,_,h=>h
 |.tup ds,_,h=>by
  obtain⟨a,xs,e,s,r⟩:=h;exact#[a,xs,e,k.tupT s,PuRs.kp k r]
 |.bl _,_,h=>h.elim|.str _,_,h=>by unfold PuR at h ⊢;exact h|.lst _,_,h=>h.elim|.dct _,_,h=>h.elim|.obj _ _,_,h=>h.elim
theorem PuRs.kp{as}(k:Kp H H' as):∀{ds xs},PuRs K H ds xs->PuRs K H' ds xs
 |[],_,h=>by unfold PuRs at h ⊢;exact h
 |d::ds,_,h=>by
  obtain⟨x,r,e,h1,h2⟩:=h;exact#[x,r,e,PuR.kp k h1,PuRs.kp k h2]
end
theorem Kp.dcn{a bs ks vs}(k:Kp H H' (a::bs))(h:DcN K H a ks vs):DcN K H' a ks vs:=by
 obtain⟨es,ep,e,h1,h2,h3,h4,h5,h6⟩:=h;exact#[es,ep,k.2.2 a X5 _ e,h1,h2,h3,h4,λx hx=>PuR.kp k (h5 x hx),h6]
theorem Kp.dca{a bs ks vs}(k:Kp H H' (a::bs))(h:DcA K H a ks vs):DcA K H' a ks vs:=by
 rcases h with h|⟨kv,m,e,h⟩
 ·exact .inl (k.dcn h)
 ·exact .inr #[kv,m,k.2.2 a X5 _ e,h]
theorem Kp.of_same{as}(s:kw H H'):Kp H H' as:=#[λa xs h=>s a _ h,λa o u h=>s a _ h,λa _ ob h=>s a ob h]
mutual
theorem RepL.kp{g}:∀{d v as},RepL K H g d v as->Kp H H' as->RepL K H' g d v as
 | .non,_,_,h,_=>h| .bl _,_,_,h,_=>h| .int _,_,_,h,_=>h| .str _,_,_,h,_=>by unfold RepL at h ⊢;exact h
 | .tup ds,_,_,h,k=>by
  obtain⟨a,xs,e,s,r⟩:=h;exact#[a,xs,e,k.tupT s,RepA.kp r k]
 | .lst ds,_,_,h,k=>by
  obtain⟨a,xs,bs,e,r,q⟩:=h;refine#[a,xs,bs,e,?_,?_]
  ·rcases q with⟨_,rfl⟩|⟨_,_,rfl⟩
   ·exact RepA.kp r k.tail
   ·exact RepA.kp r k
  ·rcases q with⟨h1,rfl⟩|⟨hg,h1,rfl⟩
   ·exact .inl #[k.2.2 a X5 _ h1,rfl]
   ·exact .inr #[hg,k.frzL h1,rfl]
 |.dct kvs,_,_,h,k=>by
  obtain⟨a,xs,bs,e,r,q,rfl⟩:=h;exact#[a,xs,bs,e,RepP.kp r k.tail,k.dca q,rfl]
 |.obj _ _,_,_,h,k=>by
  obtain⟨e,x,o,C,h1,h2,h3⟩:=h;exact#[e,x,o,C,h1,k.2.1 _ _ _ h2,h3]
theorem RepA.kp{g}:∀{ds xs as},RepA K H g ds xs as->Kp H H' as->RepA K H' g ds xs as
 |[],_,_,h,_=>by unfold RepA at h ⊢;exact h
 |d::ds,_,_,h,k=>by
  obtain⟨x,r,bs,cs,e1,rfl,h1,h2⟩:=h;exact#[x,r,bs,cs,e1,rfl,RepL.kp h1 k.left,RepA.kp h2 k.right]
theorem RepP.kp{g}:∀{ds xs as},RepP K H g ds xs as->Kp H H' as->RepP K H' g ds xs as
 |[],_,_,h,_=>by unfold RepP at h ⊢;exact h
 |_::ds,_,_,h,k=>by
  obtain⟨x,r,bs,cs,e1,rfl,h1,h2⟩:=h;exact#[x,r,bs,cs,e1,rfl,RepL.kp h1 k.left,RepP.kp h2 k.right]
end
mutual
theorem RepL.wk:∀{d v as},RepL K H false d v as->RepL K H true d v as
 |.non,_,_,h=>h|.bl _,_,_,h=>h|.int _,_,_,h=>h|.str _,_,_,h=>by unfold RepL at h ⊢;exact h
 |.tup ds,_,_,h=>by
  obtain⟨a,xs,e,s,r⟩:=h;exact#[a,xs,e,s,RepA.wk r]
 |.lst ds,_,_,h=>by
  obtain⟨a,xs,bs,e,r,q⟩:=h;refine#[a,xs,bs,e,RepA.wk r,?_];rcases q with q|⟨z,_⟩
  ·exact .inl q
  ·grind
 |.dct kvs,_,_,h=>by
  obtain⟨a,xs,bs,e,r,q,z⟩:=h;exact#[a,xs,bs,e,RepP.wk r,q,z]
 |.obj _ _,_,_,h=>h
theorem RepA.wk:∀{ds xs as},RepA K H false ds xs as->RepA K H true ds xs as
 |[],_,_,h=>h
 |d::ds,_,_,h=>by
  obtain⟨x,r,bs,cs,e1,e2,h1,h2⟩:=h;exact#[x,r,bs,cs,e1,e2,RepL.wk h1,RepA.wk h2]
theorem RepP.wk:∀{ds xs as},RepP K H false ds xs as->RepP K H true ds xs as
 |[],_,_,h=>h
 |_::ds,_,_,h=>by
  obtain⟨x,r,bs,cs,e1,e2,h1,h2⟩:=h;exact#[x,r,bs,cs,e1,e2,RepL.wk h1,RepP.wk h2]
end
mutual
theorem RepL.al{g}:∀{d v as},RepL K H g d v as->∀a∈as,(∃xs,H a=some (.lst xs))\/(∃ φ,H a=some (.ext φ))\/∃kvs,H a=some (.dK kvs)
 | .non,_,_,h=>by rw[h.2];exact λ_ z=>nomatch z| .bl _,_,_,h=>by rw[h.2];exact λ_ z=>nomatch z| .int _,_,_,h=>by rw[h.2];exact λ_ z=>nomatch z| .str _,_,_,h=>by rw[h.2.1];exact λ_ z=>nomatch z
 | .tup ds,_,_,h=>by
  obtain⟨a,xs,e,s,r⟩:=h;exact RepA.al r
 | .lst ds,_,_,h=>by
  obtain⟨a,xs,bs,e,r,q⟩:=h;rcases q with⟨h1,rfl⟩|⟨_,_,rfl⟩
  ·intro b hb;rcases aD hb with rfl|hb
   ·exact .inl #[_,h1]
   ·exact RepA.al r b hb
  ·exact RepA.al r
 | .dct kvs,_,_,h=>by
  obtain⟨a,xs,bs,e,r,q,rfl⟩:=h;intro b hb;rcases aD hb with rfl|hb
  ·rcases q with⟨es,ep,q,_⟩|⟨kv,m,q,_⟩
   ·exact .inr (.inl #[_,q])
   ·exact .inr (.inr #[_,q])
  ·exact RepP.al r b hb
 |.obj _ _,_,_,h=>by rw[h.1];exact λ_ z=>nomatch z
theorem RepA.al{g}:∀{ds xs as},RepA K H g ds xs as->∀a∈as,(∃xs,H a=some (.lst xs))\/(∃ φ,H a=some (.ext φ))\/∃kvs,H a=some (.dK kvs)
 |[],_,_,h=>by rw[h.2];exact λ_ z=>nomatch z
 |d::ds,_,_,h=>by
  obtain⟨x,r,bs,cs,e1,rfl,h1,h2⟩:=h;intro a ha;rcases aA ha with ha|ha
  ·exact RepL.al h1 a ha
  ·exact RepA.al h2 a ha
theorem RepP.al{g}:∀{ds xs as},RepP K H g ds xs as->∀a∈as,(∃xs,H a=some (.lst xs))\/(∃ φ,H a=some (.ext φ))\/∃kvs,H a=some (.dK kvs)
 |[],_,_,h=>by rw[h.2];exact λ_ z=>nomatch z
 |_::ds,_,_,h=>by
  obtain⟨x,r,bs,cs,e1,rfl,h1,h2⟩:=h;intro a ha;rcases aA ha with ha|ha
  ·exact RepL.al h1 a ha
  ·exact RepP.al h2 a ha
end
mutual
theorem RepL.pu{g g'}:∀{d v as},RepL K H g d v as->d.pure=true->as=[]/\RepL K H g' d v []
 |.non,_,_,h,_=>#[h.2,h.1,rfl]|.bl _,_,_,h,_=>#[h.2,h.1,rfl]|.int _,_,_,h,_=>#[h.2,h.1,rfl]|.str _,_,_,h,_=>#[h.2.1,h.1,rfl,h.2.2]
 |.tup ds,_,_,h,p=>by
  obtain⟨a,xs,e,s,r⟩:=h;obtain⟨z,r'⟩:=RepA.pu (g':=g') r (p);exact#[z,a,xs,e,s,r']
 |.lst ds,_,_,h,p=>by cases p|.dct ds,_,_,h,p=>by cases p|.obj _ _,_,_,h,p=>by unfold D.pure at p;cases p
theorem RepA.pu{g g'}:∀{ds xs as},RepA K H g ds xs as->D.pures ds=true->as=[]/\RepA K H g' ds xs []
 |[],_,_,h,_=>#[h.2,h.1,rfl]
 |d::ds,_,_,h,p=>by
  unfold D.pures at p;rw[Bool.and_eq_true]at p;obtain⟨x,r,bs,cs,e1,rfl,h1,h2⟩:=h;obtain⟨rfl,q1⟩:=RepL.pu (g':=g') h1 p.1;obtain⟨rfl,q2⟩:=RepA.pu (g':=g') h2 p.2;exact#[rfl,x,r,[],[],e1,rfl,q1,q2]
end
theorem RepR.wk{d v as}(h:RepR K H d v as):RepL K H true d v as:=by
 cases d<;>first|exact False.elim h|skip
 all_goals
  obtain⟨a,xs,bs,e,r,q,z⟩:=h
  first|exact#[a,xs,bs,e,r,.inl #[q,z]]|exact#[a,xs,bs,e,r,q,z]
theorem RepR.kp{d v as}(h:RepR K H d v as)(k:Kp H H' as):RepR K H' d v as:=by
 cases d<;>first|exact False.elim h|skip
 all_goals
  obtain⟨a,xs,bs,e,r,q,rfl⟩:=h
  first|exact#[a,xs,bs,e,r.kp k.tail,k.2.2 a X5 _ q,rfl]|exact#[a,xs,bs,e,r.kp k.tail,k.dca q,rfl]
theorem RepO.wk:∀{o d v as},RepO K H o d v as->RepL K H true d v as
 |.no,_,_,_,h=>h|.rt,_,_,_,h=>RepR.wk h|.dp,_,_,_,h=>RepL.wk h
theorem RepO.kp:∀{o d v as},RepO K H o d v as->Kp H H' as->RepO K H' o d v as
 |.no,_,_,_,h,k=>RepL.kp h k|.rt,_,_,_,h,k=>RepR.kp h k|.dp,_,_,_,h,k=>RepL.kp h k
end
structure Sl where
 o:Own
 d:D
 v:V
 as:List Addr
def Sl.own(x:Sl):List Addr:=match x.o with
 |.no=>[]|.rt=>x.as.take 1|.dp=>x.as
def Sl.frz(x:Sl):List Addr:=match x.o with
 |.no=>x.as|.rt=>x.as.drop 1|.dp=>[]
theorem Sl.parts(x:Sl):x.own++x.frz=x.as:=by
 unfold Sl.own Sl.frz;cases x.o with|no=>rfl|rt=>exact List.take_append_drop 1 x.as|dp=>exact Xs _
theorem Sl.own_as{x:Sl}{a}(h:a∈x.own):a∈x.as:=by rw[<-x.parts];exact ll9 _ h
theorem Sl.frz_as{x:Sl}{a}(h:a∈x.frz):a∈x.as:=by rw[<-x.parts];exact lr9 _ h
theorem Sl.as_of{x:Sl}{a}(h:a∈x.as):a∈x.own\/a∈x.frz:=by rw[<-x.parts]at h;exact aA h
def Sl.let(x:Sl):Sl:={x with o:=.no}
abbrev Ls:=List (Option Sl)
def jw(L:Ls):List Addr:=L.flatMap λx=>x.elim [] Sl.own
def k5(L:Ls):List Addr:=L.flatMap λx=>x.elim [] Sl.frz
@[simp] theorem wzb:jw []=[]:=rfl
@[simp] theorem wvn:k5 []=[]:=rfl
@[simp] theorem v8 x (L:Ls):jw (some x::L)=x.own++jw L:=by simp[jw]
@[simp] theorem Q3 x (L:Ls):k5 (some x::L)=x.frz++k5 L:=by simp[k5]
@[simp] theorem qvl (L:Ls):jw (none::L)=jw L:=by simp[jw]
@[simp] theorem qk2 (L:Ls):k5 (none::L)=k5 L:=by simp[k5]
@[simp] theorem k9 (L T):jw (L++T)=jw L++jw T:=by simp[jw]
@[simp] theorem v5 (L T):k5 (L++T)=k5 L++k5 T:=by simp[k5]
theorem mem_owned{L a}:a∈jw L↔∃x,some x∈L/\a∈x.own:=by
 unfold jw;rw[List.mem_flatMap];constructor
 ·rintro ⟨y,hy,h⟩;cases y with|none=>simp_all|some x=>exact#[x,hy,h]
 ·rintro ⟨x,hx,h⟩;exact#[some x,hx,h]
theorem mem_frozen{L a}:a∈k5 L↔∃x,some x∈L/\a∈x.frz:=by
 unfold k5;rw[List.mem_flatMap];constructor
 ·rintro ⟨y,hy,h⟩;cases y with|none=>simp_all|some x=>exact#[x,hy,h]
 ·rintro ⟨x,hx,h⟩;exact#[some x,hx,h]
def Sl.ok(K:Frag)(H:Hp)(x:Sl):Prop:=RepO K H x.o x.d x.v x.as
theorem Sl.ok.al{K H}{x:Sl}(h:x.ok K H):∀a∈x.as,(∃xs,H a=some (.lst xs))\/(∃ φ,H a=some (.ext φ))\/∃kvs,H a=some (.dK kvs):=(RepO.wk h).al
theorem Sl.ok.some{K H}{x:Sl}(h:x.ok K H){a}(ha:a∈x.as):H a≠none:=λz=>by
 rcases h.al a ha with⟨xs,e⟩|⟨xs,e⟩|⟨xs,e⟩<;>(rw[z]at e;cases e)
structure World (K:Frag)(H:Hp)(L:Ls):Prop where
 ok:∀x,some x∈L->x.ok K H
 nd:(jw L).Nodup
 ds:∀a∈jw L,a∉k5 L
structure Step (H:Hp)(L:Ls)(H':Hp)(L':Ls):Prop where
 keep:∀a ob,H a=some ob->a∉jw L->H' a=some ob
 own:∀a∈jw L',a∈jw L\/H a=none
 frz:∀a∈k5 L',a∈k5 L\/a∈jw L\/H a=none
section
variable {K:Frag}{H H1 H2 H':Hp}{L L1 L2' L' T:Ls}{x y:Sl}
theorem World.own_al(w:World K H L){a}(h:a∈jw L):(∃xs,H a=some (.lst xs))\/(∃ φ,H a=some (.ext φ))\/∃kvs,H a=some (.dK kvs):=by
 obtain⟨x,hx,ha⟩:=mem_owned.mp h;exact(w.ok x hx).al a (Sl.own_as ha)
theorem World.own_some(w:World K H L){a}(h:a∈jw L):H a≠none:=by
 obtain⟨x,hx,ha⟩:=mem_owned.mp h;exact(w.ok x hx).some (Sl.own_as ha)
theorem World.frz_some(w:World K H L){a}(h:a∈k5 L):H a≠none:=by
 obtain⟨x,hx,ha⟩:=mem_frozen.mp h;exact(w.ok x hx).some (Sl.frz_as ha)
theorem Step.refl:Step H L H L:=#[λ_ _ h _=>h,λ_ h=>.inl h,λ_ h=>.inl h]
theorem Step.trans(a:Step H L H1 L1)(b:Step H1 L1 H2 L2'):Step H L H2 L2' where
 keep:=λc ob h hn=>b.keep c ob (a.keep c ob h hn) λz=>(a.own c z).elim hn λe=>by rw[h]at e;cases e
 own:=λc hc=>by
  rcases b.own c hc with z|z
  ·exact a.own c z
  ·by_cases h:c∈jw L
   ·exact .inl h
   ·refine .inr ?_;cases e:H c with|none=>rfl|some ob=>rw[a.keep c ob e h]at z;cases z
 frz:=λc hc=>by
  rcases b.frz c hc with z|z|z
  ·exact a.frz c z
  ·exact .inr (a.own c z)
  ·by_cases h:c∈jw L
   ·exact .inr (.inl h)
   ·refine .inr (.inr ?_);cases e:H c with|none=>rfl|some ob=>rw[a.keep c ob e h]at z;cases z
theorem Step.kp(a:Step H L H' L')(w:World K H L){as}(h:∀b∈as,b∉jw L):Kp H H' as:=by
 have no:∀b ob,H b=some ob->(∀xs,ob≠.lst xs)->(∀ φ,ob≠.ext φ)->(∀kvs,ob≠.dK kvs)->H' b=some ob:=λb ob e h1 h2 h3=>a.keep b ob e λz=>by
  rcases w.own_al z with _|_|_
  ·grind
  ·grind
  ·grind
 exact#[λb xs e=>no b _ e (λ_ z=>(nomatch z)) (λ_ z=>(nomatch z)) (λ_ z=>(nomatch z)),λb o u e=>no b _ e (λ_ z=>(nomatch z)) (λ_ z=>(nomatch z)) (λ_ z=>(nomatch z)),λb hb ob e=>a.keep b ob e (h b hb)]
theorem Step.frame(a:Step H L H' L')(w:World K H (L++T))(w':World K H' L')(wL:World K H L):World K H' (L'++T):=by
 have nd:=w.nd;rw [k9,Xh]at nd;have dis:=λb hb hT=>nd.2.2 b hb b hT rfl
 have lc:=λx hx=>w.ok x (lr9 _ hx)
 have nT:∀x,some x∈T->∀b∈x.as,b∉jw L:=λx hx b hb hL=>by
  rcases Sl.as_of hb with z|z
  ·exact dis b hL (mem_owned.mpr #[x,hx,z])
  ·refine w.ds b (by rw[k9];exact ll9 _ hL) ?_;rw[v5];exact lr9 _ (mem_frozen.mpr #[x,hx,z])
 refine#[λx hx=>?_,?_,λb hb=>?_]
 ·rcases aA hx with hx|hx
  ·exact w'.ok x hx
  ·exact(lc x hx).kp (a.kp wL (nT x hx))
 ·rw[k9,Xh];refine#[w'.nd,nd.2.1,λb hb c hc e=>?_];subst e;obtain⟨x,hx,lj⟩:=mem_owned.mp hc;rcases a.own b hb with z|z
  ·exact dis b z hc
  ·exact(lc x hx).some (Sl.own_as lj) z
 ·rw[k9]at hb;rw[v5];intro hf;rcases aA hb with hb|hb
  ·rcases aA hf with hf|hf
   ·exact w'.ds b hb hf
   ·obtain⟨x,hx,lj⟩:=mem_frozen.mp hf;rcases a.own b hb with z|z
    ·exact nT x hx b (Sl.frz_as lj) z
    ·exact(lc x hx).some (Sl.frz_as lj) z
  ·rcases aA hf with hf|hf
   ·obtain⟨x,hx,lj⟩:=mem_owned.mp hb;rcases a.frz b hf with z|z|z
    ·exact w.ds b (by rw[k9];exact lr9 _ hb) (by rw[v5];exact ll9 _ z)
    ·exact dis b z hb
    ·exact(lc x hx).some (Sl.own_as lj) z
   ·exact w.ds b (by rw[k9];exact lr9 _ hb) (by rw[v5];exact lr9 _ hf)
theorem World.left(w:World K H (L++T)):World K H L:=by
 have nd:=w.nd;rw[k9,Xh]at nd;exact#[λx hx=>w.ok x (ll9 _ hx),nd.1,λa ha hf=>w.ds a (by rw[k9];exact ll9 _ ha) (by rw[v5];exact ll9 _ hf)]
theorem World.right(w:World K H (L++T)):World K H T:=by
 have nd:=w.nd;rw[k9,Xh]at nd;exact#[λx hx=>w.ok x (lr9 _ hx),nd.2.1,λa ha hf=>w.ds a (by rw[k9];exact lr9 _ ha) (by rw[v5];exact lr9 _ hf)]
theorem World.comm(w:World K H (L++T)):World K H (T++L):=by
 refine#[λx hx=>w.ok x ?_,?_,λa ha hf=>w.ds a ?_ ?_]
 ·grind
 ·have nd:=w.nd;rw[k9,Xh]at nd ⊢;exact#[nd.2.1,nd.1,λa ha b hb e=>nd.2.2 b hb a ha e.symm]
 ·rw[k9]at ha ⊢;rcases aA ha with h|h
  ·exact lr9 _ h
  ·exact ll9 _ h
 ·rw[v5]at hf ⊢;rcases aA hf with h|h
  ·exact lr9 _ h
  ·exact ll9 _ h
theorem World.tail{q}(w:World K H (q::L)):World K H L:=World.right (L:=[q]) w
theorem World.head(w:World K H (some x::L)):x.ok K H:=w.ok x X5
theorem World.apart(w:World K H (some x::L)):∀a∈x.as,a∉jw L:=λa ha hL=>by
 rcases Sl.as_of ha with z|z
 ·have nd:=w.nd;rw[v8,Xh]at nd;exact nd.2.2 a z a hL rfl
 ·exact w.ds a (lr9 _ hL) (ll9 _ z)
theorem World.cons(w:World K H L)(h:x.ok K H)(n:x.own.Nodup)(h1:∀a∈x.own,a∉jw L)(h2:∀a∈x.own,a∉k5 L)(h3:∀a∈x.frz,a∉jw L)(h4:∀a∈x.own,a∉x.frz):World K H (some x::L):=by
 refine#[λy hy=>?_,?_,λa ha hf=>?_]
 ·rcases aD hy with z|z
  ·grind
  ·exact w.ok y z
 ·rw[v8,Xh];exact#[n,w.nd,λa ha b hb e=>by subst e;exact h1 a ha hb]
 ·rcases aA ha with ha|ha
  ·simp_all
  ·rcases aA hf with hf|hf
   ·exact h3 a hf ha
   ·exact w.ds a ha hf
theorem World.consNo(w:World K H L)(h:x.ok K H)(ho:x.o=.no)(h3:∀a∈x.as,a∉jw L):World K H (some x::L):=by
 have e1:x.own=[]:=by unfold Sl.own;rw[ho]
 have e2:x.frz=x.as:=by unfold Sl.frz;rw[ho]
 exact w.cons h (by simp_all) (e1▸λ_ z=>nomatch z) (by simp_all) (e2▸h3) (by simp_all)
theorem World.consPu(w:World K H L)(h:x.ok K H)(e:x.as=[]):World K H (some x::L):=by
 have e1:∀a,a∉x.own:=λa ha=>by have:=Sl.own_as ha;rw[e]at this;exact nomatch this
 have e2:∀a,a∉x.frz:=λa ha=>by have:=Sl.frz_as ha;rw[e]at this;exact nomatch this
 have e3:=List.eq_nil_iff_forall_not_mem.mpr e1;exact w.cons h (by simp_all) (λa z=>absurd z (e1 a)) (λa z=>absurd z (e1 a)) (λa z=>absurd z (e2 a)) (λa z=>absurd z (e1 a))
theorem jqt{L:Ls}{i q}(h:some y∈L.set i q):q=some y\/some y∈L:=by
 rcases List.mem_or_eq_of_mem_set h with z|z
 ·exact .inr z
 ·exact .inl z.symm
theorem XW{i a}(h:a∈jw (L.set i (some x))):a∈x.own\/a∈jw L:=by
 obtain⟨y,hy,ha⟩:=mem_owned.mp h;rcases jqt hy with z|z
 ·grind
 ·exact .inr (mem_owned.mpr #[y,z,ha])
theorem jko{i a}(h:a∈k5 (L.set i (some x))):a∈x.frz\/a∈k5 L:=by
 obtain⟨y,hy,ha⟩:=mem_frozen.mp h;rcases jqt hy with z|z
 ·grind
 ·exact .inr (mem_frozen.mpr #[y,z,ha])
theorem jqm:∀{L i},(x.own++jw L).Nodup->(jw (L.set i (some x))).Nodup
 |[],_,h=>by simp
 |q::L,0,h=>by
  rw[List.set_cons_zero,v8];have e:jw (q::L)=q.elim [] Sl.own++jw L:=by simp[jw]
  rw[e,Xh]at h;obtain⟨h1,h2,h3⟩:=h;rw[Xh]at h2 ⊢;exact#[h1,h2.2.1,λa ha b hb=>h3 a ha b (lr9 _ hb)]
 |q::L,i+1,h=>by
  rw[List.set_cons_succ];have e:∀M,jw (q::M)=q.elim [] Sl.own++jw M:=λM=>by simp[jw]
  rw[e]at h ⊢;rw[Xh]at h;obtain⟨h1,h2,h3⟩:=h;rw[Xh]at h2;rw[Xh];refine#[h2.1,jqm (by rw[Xh];exact#[h1,h2.2.1,λa ha b hb=>h3 a ha b (lr9 _ hb)]),λa ha b hb e=>?_];subst e;rcases XW hb with z|z
  ·exact h3 a z a (ll9 _ ha) rfl
  ·exact h2.2.2 a ha a z rfl
theorem World.set{i}(w:World K H (some x::L)):World K H (L.set i (some x)):=by
 refine#[λy hy=>?_,jqm (by have:=w.nd;rwa [v8]at this),λa ha hf=>?_]
 ·rcases jqt hy with z|z
  ·cases z;exact w.head
  ·exact w.ok y (lc9 _ z)
 ·refine w.ds a ?_ ?_
  ·rw[v8];exact List.mem_append.mpr (XW ha)
  ·rw[Q3];exact List.mem_append.mpr (jko hf)
theorem Step.set{i}:Step H (some x::L) H (L.set i (some x)) where
 keep:=λ_ _ h _=>h
 own:=λa ha=>.inl (List.mem_append.mpr (XW ha))
 frz:=λa ha=>.inl (List.mem_append.mpr (jko ha))
theorem Step.drop{q}:Step H (q::L) H L where
 keep:=λ_ _ h _=>h
 own:=λa ha=>.inl (by rw[show(q::L:Ls)=[q]++L from rfl];exact lr9 _ ha)
 frz:=λa ha=>.inl (by rw[show(q::L:Ls)=[q]++L from rfl];exact lr9 _ ha)
theorem vJ{i:Nat}(h:L[i]?=some (some x)):some x∈L:=List.mem_of_getElem? h
theorem vjf(x:Sl):x.let.own=[]/\x.let.frz=x.as/\x.let.as=x.as:=#[rfl,rfl,rfl]
theorem kx7{i a}(h:a∈jw (L.set i (some x.let))):a∈jw L:=by
 rcases XW h with z|z
 ·exact nomatch z
 ·exact z
theorem qjs:∀{L i},(jw L).Nodup->(∀a∈jw L,a∉k5 L)->L[i]?=some (some x)->∀a∈x.as,a∉jw (L.set i (some x.let))
 | [],_,_,_,h,_,_=>by simp_all
 | q::L,0,nd,ds,h,a,ha=>by
  have e:q=some x:=by simpa using h
  subst e;intro hm;rcases Sl.as_of ha with z|z
  ·rw[v8,Xh]at nd;exact nd.2.2 a z a hm rfl
  ·exact ds a (lr9 _ hm) (ll9 _ z)
 | q::L,i+1,nd,ds,h,a,ha=>by
  have e:∀M,jw (q::M)=q.elim [] Sl.own++jw M:=λM=>by simp[jw]
  have f:k5 (q::L)=q.elim [] Sl.frz++k5 L:=by simp[k5]
  intro hm;rw[e,Xh]at nd;rcases aA hm with hm|hm
  ·rcases Sl.as_of ha with z|z
   ·exact nd.2.2 a hm a (mem_owned.mpr #[x,vJ h,z]) rfl
   ·exact ds a (ll9 _ hm) (by rw[f];exact lr9 _ (mem_frozen.mpr #[x,vJ h,z]))
  ·exact qjs nd.2.1 (λb hb hf=>ds b (lr9 _ hb) (f▸lr9 _ hf)) h a ha hm
def Jq(h:x.ok K H):x.let.ok K H:=RepO.wk h
theorem World.let{i}(w:World K H L)(h:L[i]?=some (some x)):World K H (L.set i (some x.let)):=by
 refine#[λy hy=>?_,jqm ((vjf x).1▸w.nd),λa ha hf=>?_]
 ·rcases jqt hy with z|z
  ·cases z;exact Jq (w.ok x (vJ h))
  ·exact w.ok y z
 ·rcases jko hf with z|z
  ·exact(qjs w.nd w.ds h) a z ha
  ·exact w.ds a (kx7 ha) z
theorem World.read{i}(w:World K H L)(h:L[i]?=some (some x)):World K H (some x.let::L.set i (some x.let)):=
 (w.let h).consNo (Jq (w.ok x (vJ h))) rfl (qjs (x:=x) w.nd w.ds h)
theorem Step.read{i}(h:L[i]?=some (some x)):Step H L H (some x.let::L.set i (some x.let)) where
 keep:=λ_ _ h _=>h
 own:=λa ha=>.inl (kx7 ha)
 frz:=λa ha=>by
  have hx:=vJ h;have q:∀a∈x.as,a∈k5 L\/a∈jw L\/H a=none:=λa ha=>by
   rcases Sl.as_of ha with z|z
   ·exact .inr (.inl (mem_owned.mpr #[x,hx,z]))
   ·exact .inl (mem_frozen.mpr #[x,hx,z])
  rcases aA ha with z|z
  ·exact q a z
  ·rcases jko z with z|z
   ·exact q a z
   ·exact .inl z
end
inductive Mt:En->L2.St->Ls->Prop
 |nil:Mt [] [] []
 |un {E:En} {σ:L2.St} {L:Ls} {y:Option V}:Mt E σ L->Mt (none::E) (y :: σ) (none::L)
 |cons {E:En} {σ:L2.St} {L:Ls} {x:Sl}:Mt E σ L->Mt (some (x.o,x.d)::E) (some x.v :: σ) (some x::L)
theorem Mt.get:∀{E σ L} {i:Nat} {o d},Mt E σ L->E[i]?=some (some (o,d))->∃x,L[i]?=some (some x)/\x.o=o/\x.d=d/\σ[i]?=some (some x.v)
 |_,_,_,_,_,_,.nil,h=>by simp_all|_,_,_,0,_,_,.un _,h=>by simp_all|_,_,_,i+1,_,_,.un m,h=>by simpa using m.get (by simpa using h)
 |_,_,_,0,_,_,.cons (x:=x) m,h=>by
  simp at h;exact#[x,by simp,h.1,h.2,by simp]
 |_,_,_,i+1,_,_,.cons m,h=>by simpa using m.get (by simpa using h)
theorem Mt.set{x}:∀{E σ L} (i),Mt E σ L->Mt (E.set i (some (x.o,x.d))) (σ.set i (some x.v)) (L.set i (some x))
 |_,_,_,_,.nil=>.nil|_,_,_,0,.un m=>.cons m|_,_,_,i+1,.un m=>.un (m.set i)|_,_,_,0,.cons m=>.cons m|_,_,_,i+1,.cons m=>.cons (m.set i)
theorem Mt.let{x}:∀{E σ L i},Mt E σ L->L[i]?=some (some x)->Mt (E.set i (some (.no,x.d))) σ (L.set i (some x.let))
 |_,_,_,_,.nil,h=>by simp_all|_,_,_,i+1,.un m,h=>.un (m.let (by simpa using h))
 |_,_,_,0,.cons (x:=y) m,h=>by
  have e:y=x:=by simpa using h
  subst e;exact .cons (x:=y.let) m
 |_,_,_,i+1,.cons m,h=>.cons (m.let (by simpa using h))
theorem Mt.len:∀{E σ L},Mt E σ L->E.length=σ.length/\L.length=σ.length
 |_,_,_,.nil=>#[rfl,rfl]|_,_,_,.un m=>by simp[m.len]|_,_,_,.cons m=>by simp[m.len]
def sls(L:Ls):List Sl:=L.filterMap id
theorem Kx L:jw L=(sls L).flatMap Sl.own:=by
 induction L with
 |nil=>rfl
 |cons q L ih=>
  cases q with|none=>rw[qvl,ih];rfl|some x=>rw[v8,ih];rfl
theorem QX L:k5 L=(sls L).flatMap Sl.frz:=by
 induction L with
 |nil=>rfl
 |cons q L ih=>
  cases q with|none=>rw[qk2,ih];rfl|some x=>rw[Q3,ih];rfl
theorem mem_sls{L x}:x∈sls L↔some x∈L:=by simp[sls]
@[simp] theorem Vq (L T):sls (L++T)=sls L++sls T:=by simp[sls]
@[simp] theorem vvb (L:Ls):sls (none::L)=sls L:=rfl
@[simp] theorem xku (x:Sl)(L:Ls):sls (some x::L)=x::sls L:=rfl
@[simp] theorem xqo:sls []=[]:=rfl
@[simp] theorem xqp T:sls (T.map some)=T:=by simp[sls]
@[simp] theorem xqn k:sls (List.replicate k none)=[]:=by
 induction k with|zero=>rfl|succ k ih=>rw[List.replicate_succ,vvb,ih]
theorem jqi{α β:Type}(f:α->List β){l l':List α}(h:l.Sublist l'):(l.flatMap f).Sublist (l'.flatMap f):=by
 induction h with|slnil=>exact List.Sublist.refl _|cons a _ ih=>rw[List.flatMap_cons];exact List.Sublist.trans ih (List.sublist_append_right _ _)|cons_cons a _ ih=>rw[List.flatMap_cons];exact List.Sublist.append (List.Sublist.refl _) ih
section
variable {K:Frag}{H H':Hp}{L L' M M':Ls}
theorem World.same(w:World K H L)(p:(sls L).Perm (sls L')):World K H L':=by
 have po:(jw L).Perm (jw L'):=by rw[Kx,Kx];exact p.flatMap_right _
 have pf:(k5 L).Perm (k5 L'):=by rw[QX,QX];exact p.flatMap_right _
 exact#[λx hx=>w.ok x (mem_sls.mp (p.mem_iff.mpr (mem_sls.mpr hx))),po.nodup_iff.mp w.nd,λa ha hf=>w.ds a (po.mem_iff.mpr ha) (pf.mem_iff.mpr hf)]
theorem Step.same(s:Step H L H' L')(p:(sls L).Perm (sls M))(p':(sls L').Perm (sls M')):Step H M H' M':=by
 have po:(jw L).Perm (jw M):=by rw[Kx,Kx];exact p.flatMap_right _
 have pf:(k5 L).Perm (k5 M):=by rw[QX,QX];exact p.flatMap_right _
 have po':(jw L').Perm (jw M'):=by rw[Kx,Kx];exact p'.flatMap_right _
 have pf':(k5 L').Perm (k5 M'):=by rw[QX,QX];exact p'.flatMap_right _
 exact#[λa ob h hn=>s.keep a ob h λz=>hn (po.mem_iff.mp z),λa ha=>(s.own a (po'.mem_iff.mpr ha)).imp (λz=>po.mem_iff.mp z) id,
  λa ha=>(s.frz a (pf'.mem_iff.mpr ha)).imp (λz=>pf.mem_iff.mp z) λz=>z.imp (λz=>po.mem_iff.mp z) id]
theorem World.sub(w:World K H L)(p:(sls L').Sublist (sls L)):World K H L':=by
 refine#[λx hx=>w.ok x (mem_sls.mp (p.subset (mem_sls.mpr hx))),?_,λa ha hf=>w.ds a ?_ ?_]
 ·have:=w.nd;rw[Kx]at this ⊢;exact(jqi _ p).nodup this
 ·rw[Kx]at ha ⊢;exact(jqi _ p).subset ha
 ·rw[QX]at hf ⊢;exact(jqi _ p).subset hf
theorem Step.sub(s:Step H L H' L')(p:(sls M).Sublist (sls L')):Step H L H' M:=by
 refine#[s.keep,λa ha=>s.own a ?_,λa ha=>s.frz a ?_]
 ·rw[Kx]at ha ⊢;exact(jqi _ p).subset ha
 ·rw[QX]at ha ⊢;exact(jqi _ p).subset ha
end
theorem jxm:∀{L:Ls} {j},(sls (at' L j::L.set j none)).Perm (sls L)
 | [],j=>by simp[at']
 | q::L,0=>by
  cases q with|none=>simp[at']|some x=>simp[at']
 | q::L,j+1=>by
  have ih:=jxm (L:=L) (j:=j);have e:at' (q::L) (j+1)=at' L j:=by simp[at']
  rw[e];have e2:∀a b M,(sls (a::b::M)).Perm (sls (b::a::M)):=λa b M=>by
   cases a<;>cases b<;>simp[sls]
   exact List.Perm.swap ..
  refine(e2 _ _ _).trans ?_;cases q with|none=>simpa [sls]using ih|some y=>simpa [sls]using ih
theorem qqz:∀{R} {L:Ls},R.Nodup->(sls (R.map (at' L)++clr R L)).Perm (sls L)
 | [],L,_=>by simp[clr]
 | j::R,L,h=>by
  rw[Z3]at h;have e:R.map (at' L)=R.map (at' (L.set j none)):=by
   apply Yb;intro i hi;have:j≠i:=λe=>h.1 (e▸hi)
   unfold at';rw[Z1 this]
  rw[List.map_cons,clr,e];have ih:=qqz (L:=L.set j none) h.2;refine List.Perm.trans ?_ (jxm (j:=j));cases hq:at' L j with|none=>simpa [sls]using ih|some x=>simpa [sls]using ih
theorem vq2{α}:∀{R} {L:List (Option α)},(clr R L).length=L.length
 |[],_=>rfl|j::R,L=>by rw[clr,vq2,List.length_set]
theorem vq3{α}:∀{R} {L:List (Option α)} {j},j∈R->at' (clr R L) j=none
 | [],_,_,h=>by grind
 | i :: R,L,j,h=>by
  rw [clr]
  by_cases hR:j∈R
  ·exact vq3 hR
  ·have e:j=i:=by simpa [hR]using h
   subst e;have gen:∀{R} {M:List (Option α)},j∉R->at' (clr R M) j=at' M j:=by
    intro R
    induction R with
    |nil=>intro M _;rfl
    |cons r R ih=>
     intro M h;rw[Yq,not_or]at h;rw[clr,ih h.2];unfold at';rw[Z1 (Ne.symm h.1)]
   rw[gen hR];unfold at'
   by_cases hl:j<L.length
   ·rw[List.getElem?_set_self hl];rfl
   ·rw[List.set_eq_of_length_le ⋯,Y0 ⋯];rfl
theorem kzl:∀{R} {B L:Ls},R.Nodup->(∀j∈R,at' L j=none)->(∀j∈R,j<L.length)->B.length=R.length->(sls (back R B L)).Perm (sls (B++L))
 | [],B,L,_,_,_,hl=>by
  have:B=[]:=by simpa using hl
  subst this;simp [back]
 | j :: R,q::B,L,hn,hz,hr,hl=>by
  rw [Z3]at hn;have ih:=kzl (L:=L.set j q) hn.2 (λi hi=>by
   have:j≠i:=λe=>hn.1 (e▸hi)
   unfold at';rw [Z1 this];exact hz i (lc9 _ hi)) (λi hi=>by rw[List.length_set];exact hr i (lc9 _ hi)) (by simpa using hl)
  refine ih.trans ?_;have sp:∀{M i},at' M i=none->i<M.length->(sls (M.set i q)).Perm (sls (q::M)):=by
   intro M
   induction M with
   | nil=>intro i _ h;simp at h
   | cons r M ihM=>
    intro i h1 h2;cases i with
    | zero=>
     have:r=none:=by simpa [at']using h1
     subst this;cases q<;>simp[sls]
    | succ i=>
     have:=ihM (by simpa [at']using h1) (by simpa using h2);cases r with
     | none=>cases q<;>simpa [sls]using this
     | some y=>
      cases q with
      |none=>simpa [sls]using this
      |some x=>
       exact(this.cons y).trans (List.Perm.swap ..)
  rw[Vq];have h2:(sls B++sls _).Perm _:=(sp (hz j X5) (hr j X5)).append_left _;refine h2.trans ?_;cases q with
  |none=>simp
  |some x=>
   simp only[Vq];exact List.perm_middle
section
variable {K:Frag}{H H1 H2 H':Hp}{L L1 L' T:Ls}{x y:Sl}
theorem ZW(p:L.Perm L'):(jw L).Perm (jw L'):=p.flatMap_right _
theorem jxc(p:L.Perm L'):(k5 L).Perm (k5 L'):=p.flatMap_right _
theorem World.perm(w:World K H L)(p:L.Perm L'):World K H L':=
 #[λx hx=>w.ok x (p.mem_iff.mpr hx),(ZW p).nodup_iff.mp w.nd,λa ha hf=>w.ds a ((ZW p).mem_iff.mpr ha) ((jxc p).mem_iff.mpr hf)]
theorem Step.perm(s : Step H L H' L'){M M' : Ls}(p : L.Perm M)(p' : L'.Perm M'): Step H M H' M':=
  #[λa ob h hn=>s.keep a ob h λz=>hn ((ZW p).mem_iff.mp z),
   λa ha=>(s.own a ((ZW p').mem_iff.mpr ha)).imp (λz=>(ZW p).mem_iff.mp z) id,
   λa ha=>(s.frz a ((jxc p').mem_iff.mpr ha)).imp (λz=>(jxc p).mem_iff.mp z) λz=>z.imp (λz=>(ZW p).mem_iff.mp z) id]
theorem Step.frm(s:Step H L H' L'):Step H (L++T) H' (L'++T) where
 keep:=λa ob h hn=>s.keep a ob h λz=>hn (by rw[k9];exact ll9 _ z)
 own:=λa ha=>by
  rw[k9]at ha ⊢;rcases aA ha with z|z
  ·exact(s.own a z).imp (ll9 _) id
  ·exact .inl (lr9 _ z)
 frz:=λa ha=>by
  rw[v5]at ha ⊢;rw[k9];rcases aA ha with z|z
  ·exact(s.frz a z).imp (ll9 _) λz=>z.imp (ll9 _) id
  ·exact .inl (lr9 _ z)
theorem xq2(w:World K H (T++L))(s:Step H L H' L')(w':World K H' L'):World K H' (T++L')/\Step H (T++L) H' (T++L'):=by
 have w1:=w.comm;exact#[(s.frame w1 w' w1.left).comm,s.frm.perm List.perm_append_comm List.perm_append_comm]
end
theorem ex8{α β γ:Type}{P:Prop}{a b c d e:α->β->γ->Prop}(h:∃x y z,a x y z/\b x y z/\c x y z/\d x y z/\e x y z)(f:∀x y z,a x y z->b x y z->c x y z->d x y z->e x y z->P):P:=
 h.elim λx h=>h.elim λy h=>h.elim λz h=>f x y z h.1 h.2.1 h.2.2.1 h.2.2.2.1 h.2.2.2.2
theorem ex7{α β γ:Type}{P:Prop}{a b c d:α->β->γ->Prop}(h:∃x y z,a x y z/\b x y z/\c x y z/\d x y z)(f:∀x y z,a x y z->b x y z->c x y z->d x y z->P):P:=
 h.elim λx h=>h.elim λy h=>h.elim λz h=>f x y z h.1 h.2.1 h.2.2.1 h.2.2.2
theorem q9{X e t t'}(h:PE X e t)(w:∀ σ H Q,t' σ H Q->t σ H Q):PE X e t':=λa8 s σ H Q I q=>h a8 s σ H Q I (w σ H Q q)
theorem qq4{X e t t'}(h:PT X e t)(w:∀ σ H Q,t' σ H Q->t σ H Q):PT X e t':=λa8 s σ H Q I q=>h a8 s σ H Q I (w σ H Q q)
theorem JY{X e t t'}(h:PS X e t)(w:∀D σ H,t' D σ H->t D σ H):PS X e t':=λa8 s σ H D I q=>h a8 s σ H D I (w D σ H q)
theorem qzf{X e t t'}(h:PSs X e t)(w:∀D σ H,t' D σ H->t D σ H):PSs X e t':=λa8 s σ H D I q=>h a8 s σ H D I (w D σ H q)
structure Fx0 where
 K:Frag
 mg:Str->Option Value
 EX:XK
def Xc{α:Type}(Z:Fx0)(σ:L2.St)(H:Hp)(L:Ls)(r:Res α):Prop:=∀E' c,r=.exc E' c->∀C L' H',Z.mg c=some (.ref C)->Mt E' σ L'->World Z.K H' L'->Step H L H' L'->Z.EX (.ref C) none H'
theorem Xc.step{α Z σ H H1 L L1}{r:Res α}(x:Xc Z σ H L r)(s:Step H L H1 L1):Xc Z σ H1 L1 r:=λE' c e C L' H' hm m w s'=>x E' c e C L' H' hm m w (s.trans s')
theorem Xc.map{α β Z σ H L}{r:Res α}{E' c}(x:Xc Z σ H L r)(e:r=.exc E' c):Xc Z σ H L (.exc E' c:Res β):=λE1 c1 e1=>by
 injection e1 with h1 h2;subst h1 h2;exact x _ _ e
noncomputable def tQ(Z:Fx0)(q:Bool)(c:Ex):TE:=fun σ H Q=>∃E L r,Mt E σ L/\World Z.K H L/\c E=some r/\Xc Z σ H L r /\
 ∀E' a,r=.ok E' a->∀(x:Sl) L' H',x.o=a.1->x.d=a.2->Mt E' σ L'->World Z.K H' (some x::L')->Step H L H' (some x::L')->(q=true->kw H H'/\∀b∈x.own,H b=none)->Q x.v H'
def Src(H:Hp)(L:Ls)(as:List Addr):Prop:=∀b∈as,b∈k5 L\/b∈jw L\/H b=none
theorem Src.back{H H1 L L1 as}(h:Src H1 L1 as)(s:Step H L H1 L1):Src H L as:=λb hb=>by
 rcases h b hb with z|z|z
 ·exact s.frz b z
 ·exact .inr (s.own b z)
 ·by_cases ho:b∈jw L
  ·exact .inr (.inl ho)
  ·refine .inr (.inr ?_);cases e:H b with|none=>rfl|some ob=>rw[s.keep b ob e ho]at z;cases z
noncomputable def tV(Z:Fx0)(q:Bool)(c:Ex):TE:=fun σ H Q=>∃E L r,Mt E σ L/\World Z.K H L/\c E=some r/\Xc Z σ H L r /\
 ∀E' a,r=.ok E' a->∀(x:Sl) L' H',x.o=a.1->x.d=a.2->Mt E' σ L'->World Z.K H' L'->x.ok Z.K H'->(∀b∈x.frz,b∉jw L')->Src H L x.as->Step H L H' L'->(q=true->kw H H')->Q x.v H'
def QE(X:Cx)(Z:Fx0)(q:Bool)(c:Ex)(e:Expr):Prop:=PE X e (tQ Z q c)
def QV(X:Cx)(Z:Fx0)(q:Bool)(c:Ex)(e:Expr):Prop:=PE X e (tV Z q c)
section
variable {X:Cx}{Z:Fx0}{q qa qb:Bool}{a b c:Ex}{e ea eb:Expr}{pos:Pos}{α:Type}{σ:L2.St}{H:Hp}{L:Ls}{E:En}
theorem wx{β m}{F:En->α->Option _}{r:Res β}(h:bnd m F=some r):(∃E1 x,m=some (.ok E1 x)/\F E1 x=some r)\/∃E1 c,m=some (.exc E1 c)/\r=.exc E1 c:=by
 cases m with
 |none=>cases h
 |some q=>
  cases q with|ok E1 x=>exact .inl #[E1,x,rfl,h]|exc E1 c=>exact .inr #[E1,c,rfl,(oq9 h).symm]
theorem Vx{F}{r:Res α}{G}(m:Mt E σ L)(w:World Z.K H L)(h:bnd (a E) F=some r)(xc:Xc Z σ H L r)
  (k:∀E1 s,F E1 s=some r->∀x L1 H1,x.o=s.1->x.d=s.2->Mt E1 σ L1->World Z.K H1 (some x::L1)->Step H L H1 (some x::L1)->(q=true->kw H H1/\∀b∈x.own,H b=none)->G x.v H1):tQ Z q a σ H G:=by
 rcases wx h with⟨E1,s,h1,h2⟩|⟨E1,c,h1,h2⟩
 ·exact#[E,L,_,m,w,h1,(λ_ _ z=>by cases z),λE' s' z x L' H' e1 e2 m' w' st sm=>by
   injection z with z1 z2;subst z1 z2;exact k _ _ h2 x L' H' e1 e2 m' w' st sm]
 ·exact#[E,L,_,m,w,h1,xc.map h2,λE' s' z=>by cases z]
theorem qY{F}{r:Res α}{G}(m:Mt E σ L)(w:World Z.K H L)(h:bnd (a E) F=some r)(xc:Xc Z σ H L r)
  (k:∀E1 s,F E1 s=some r->∀(x:Sl) L1 H1,x.o=s.1->x.d=s.2->Mt E1 σ L1->World Z.K H1 L1->x.ok Z.K H1->(∀b∈x.frz,b∉jw L1)->Src H L x.as->Step H L H1 L1->(q=true->kw H H1)->G x.v H1):tV Z q a σ H G:=by
 rcases wx h with⟨E1,s,h1,h2⟩|⟨E1,c,h1,h2⟩
 ·exact#[E,L,_,m,w,h1,(λ_ _ z=>by cases z),λE' s' z x L' H' e1 e2 m' w' ok fr sr st sm=>by
   injection z with z1 z2;subst z1 z2;exact k _ _ h2 x L' H' e1 e2 m' w' ok fr sr st sm]
 ·exact#[E,L,_,m,w,h1,xc.map h2,λE' s' z=>by cases z]
theorem K8{x:Sl}{K H1 H2 L1 L2'}(ok:x.ok K H1)(fr:∀b∈x.frz,b∉jw L1)(st:Step H1 L1 H2 L2')(sm:kw H1 H2):x.ok K H2/\∀b∈x.frz,b∉jw L2':=
 #[RepO.kp ok (Kp.of_same sm),λb hb ho=>(st.own b ho).elim (fr b hb) λz=>ok.some (Sl.frz_as hb) z]
theorem xw{x}{r:Res α}(h:val E x=some r):∃y,x=some y/\r=.ok E y:=by
 cases x with|none=>cases h|some y=>exact#[y,rfl,(oq9 h).symm]
theorem QE.weak(h:QE X Z true c e):QE X Z q c e:=q9 h fun σ H Q ao=>ex8 ao λE L r m w hc xc k=>#[E,L,r,m,w,hc,xc,λE' s z x L' H' e1 e2 m' w' st sm=>k E' s z x L' H' e1 e2 m' w' st λ_=>sm rfl]
theorem kv0{x H1}{L1:Ls}(st:Step H L H1 (some x::L1)):Src H L x.as:=λb hb=>by
 rcases Sl.as_of hb with z|z
 ·exact .inr (st.own b (ll9 _ z))
 ·exact st.frz b (ll9 _ z)
theorem j6(h:QE X Z q c e):QV X Z q (vE c) e:=q9 h fun σ H Q ao=>ex8 ao λE L r m w hc xc k=>
 Vx m w hc xc λE1 s h1 x L1 H1 e1 e2 m1 w1 st sm=>by
  cases oq9 h1;exact k _ _ rfl x.let L1 H1 rfl e2 m1 w1.tail (Jq w1.head) (λb hb=>w1.apart b hb) (kv0 (x:=x) st) (st.trans Step.drop) λhq=>(sm hq).1
theorem Kk{x H1 L1}(st:Step H L H1 L1)(sr:Src H L x.as)(ho:x.own=[]):Step H L H1 (some x::L1) where
 keep:=st.keep
 own:=λb hb=>by rw[v8,ho]at hb;exact st.own b hb
 frz:=λb hb=>by
  rcases aA hb with z|z
  ·exact sr b (Sl.frz_as z)
  ·exact st.frz b z
theorem qzt{x:Sl}(h:x.o=.no):x.own=[]:=by unfold Sl.own;rw[h]
theorem kxw{x:Sl}(h:x.o=.no):x.frz=x.as:=by unfold Sl.frz;rw[h]
theorem wkr{x:Sl}(h:x.as=[]):x.own=[]:=List.eq_nil_iff_forall_not_mem.mpr λa ha=>by have:=Sl.own_as ha;rw[h]at this;exact nomatch this
theorem jz(h:QV X Z q c e):QE X Z q (cH c) e:=q9 h fun σ H Q ao=>ex8 ao λE L r m w hc xc k=>
 qY m w hc xc λE1 s h1 x L1 H1 e1 e2 m1 w1 ok fr sr st sm=>by
  by_cases ho:s.1=.no
  ·rw[Xd ho]at h1;cases oq9 h1;have eo:=e1.trans ho;exact k _ _ rfl x L1 H1 eo e2 m1 (w1.consNo ok eo λb hb=>fr b (kxw eo▸hb)) (Kk st sr (qzt eo)) λhq=>#[sm hq,by rw[qzt eo];exact λ_ z=>(nomatch z)]
  ·rw[Xi ho]at h1
   by_cases hp:s.2.pure=true
   ·rw[Xd hp]at h1;cases oq9 h1;obtain⟨z,rp⟩:=RepL.pu (g':=false) (RepO.wk ok) (by simp_all);exact k _ _ rfl #[.dp,x.d,x.v,[]] L1 H1 rfl e2 m1 (w1.consPu rp rfl) (Kk st (λb hb=>nomatch hb) rfl) λhq=>#[sm hq,λ_ z=>(nomatch z)]
   ·simp_all
theorem q_C{d v}(h:PE X e (tC v))(hr:∀H,RepL Z.K H false d v []):QE X Z true (cC d) e:=q9 h fun σ H Q ao=>ex8 ao λE L r m w hc xc k=>by
 cases oq9 hc;exact k _ _ rfl #[.dp,d,v,[]] L H rfl rfl m (w.consPu (hr H) rfl) (Kk Step.refl (λb hb=>nomatch hb) rfl) λ_=>#[λ_ _ z=>z,λ_ z=>(nomatch z)]
set_option tactic.hygienic true in
theorem q_V{i}(h:PE X e (zJ i)):QE X Z true (cV i) e:=q9 h fun σ H Q ao=>ex8 ao λE L r m w hc xc k=>by
 unfold cV at hc
 split at hc
 ·rename_i o d hE;cases oq9 hc;obtain⟨x,h1,h2,h3,h4⟩:=m.get hE;refine#[x.v,h4,k _ _ rfl x.let _ H rfl h3 ?_ (w.read h1) (Step.read h1) λ_=>#[λ_ _ z=>z,λ_ z=>(nomatch z)]];have:=m.let h1
  rwa [h3]at this
 ·cases hc
theorem wkz:∀{E σ} {L} j,Mt E σ L->Mt (E.set j none) σ (L.set j none):=by
 intro E σ L j m
 induction m generalizing j with
 |nil=>exact .nil
 |un m ih=>cases j with|zero=>exact .un m|succ j=>exact .un (ih j)
 |cons m ih=>cases j with|zero=>exact .un m|succ j=>exact .cons (ih j)
theorem kjo{x}:∀{L:Ls} {i},L[i]?=some (some x)->(none::L).Perm (some x::L.set i none)
 |[],_,h=>by simp_all
 |q::L,0,h=>by
  have e:q=some x:=by simpa using h
  subst e;exact List.Perm.swap ..
 |q::L,i+1,h=>by
  have:=kjo (by simpa using h);exact(List.Perm.swap ..).trans ((this.cons q).trans (List.Perm.swap ..))
set_option tactic.hygienic true in
theorem YZ{i}(h:PE X e (zJ i)):QE X Z false (cMv i) e:=q9 h fun σ H Q ao=>ex8 ao λE L r m w hc xc k=>by
 unfold cMv at hc
 split at hc
 ·rename_i s hE;cases oq9 hc;obtain⟨x,h1,h2,h3,h4⟩:=m.get hE;have wn:World Z.K H (none::L):=#[λy hy=>w.ok y (by simp_all),by simpa using w.nd,by simpa using w.ds];have sn:Step H L H (none::L):=#[λ_ _ z _=>z,λa z=>.inl (by simp_all),λa z=>.inl (by simp_all)];exact#[x.v,h4,k _ _ rfl x _ H h2 h3 (wkz i m) (wn.perm (kjo h1)) (sn.trans (Step.refl.perm (List.Perm.refl _) (kjo h1))) λz=>(nomatch z)]
 ·cases hc
set_option tactic.hygienic true in
theorem q_vV{i}(h:PE X e (zJ i)):QV X Z true (vV i) e:=q9 h fun σ H Q ao=>ex8 ao λE L r m w hc xc k=>by
 unfold vV at hc
 split at hc
 ·rename_i s hE;cases oq9 hc;obtain⟨x,h1,h2,h3,h4⟩:=m.get hE;have hx:=vJ h1;refine#[x.v,h4,k _ _ rfl x L H h2 h3 m w (w.ok x hx) (λb hb ho=>w.ds b ho (mem_frozen.mpr #[x,hx,hb])) (λb hb=>?_) Step.refl λ_=>λ_ _ z=>z];rcases Sl.as_of hb with z|z
  ·exact .inr (.inl (mem_owned.mpr #[x,hx,z]))
  ·exact .inl (mem_frozen.mpr #[x,hx,z])
 ·cases hc
structure Out (K:Frag)(H H':Hp)(z:Sl)(fr:List Addr):Prop where
 same:kw H H'
 ok:z.ok K H'
 new:∀b∈z.own,H b=none
 nd:z.own.Nodup
 fr:∀b∈z.frz,b∈fr
def Ad1(K:Frag)(r:V->Hp->VK->Prop)(f:Sd->Option Sd):Prop:=∀(H:Hp) (x:Sl) (s:Sd) (Q:VK),x.ok K H->f (x.o,x.d)=some s->(∀(z:Sl) H',z.o=s.1->z.d=s.2->Out K H H' z x.frz->Q z.v H')->r x.v H Q
def Ad2(K:Frag)(r:R2)(f:Sd->Sd->Option Sd):Prop:=∀(H:Hp) (x y:Sl) (s:Sd) (Q:VK),x.ok K H->y.ok K H->f (x.o,x.d) (y.o,y.d)=some s->(∀(z:Sl) H',z.o=s.1->z.d=s.2->Out K H H' z (x.frz++y.frz)->Q z.v H')->r x.v y.v H Q
theorem kj1{K H H' d v fr}(s:kw H H')(r:RepL K H' false d v []):Out K H H' #[.dp,d,v,[]] fr:=#[s,r,λ_ h=>(nomatch h),Xr,λ_ h=>(nomatch h)]
theorem xQ{H}:kw H H:=λ_ _ z=>z
theorem kK{H H1 H2}(a:kw H H1)(b:kw H1 H2):kw H H2:=λc ob h=>b c ob (a c ob h)
theorem Kz{z fr H1 H2 L1}(w:World Z.K H1 L1)(st:Step H L H1 L1)(o:Out Z.K H1 H2 z fr)(ap:∀b∈fr,b∉jw L1)(al:∀b∈fr,H1 b≠none)(sr:Src H L fr):
  World Z.K H2 (some z::L1)/\Step H L H2 (some z::L1):=by
 have w2:World Z.K H2 L1:=#[λx hx=>RepO.kp (w.ok x hx) (Kp.of_same o.same),w.nd,w.ds];refine#[w2.cons o.ok o.nd (λb hb ho=>w.own_some ho (o.new b hb)) (λb hb hf=>w.frz_some hf (o.new b hb)) (λb hb=>ap b (o.fr b hb)) (λb hb hf=>al b (o.fr b hf) (o.new b hb)),(#[λb ob h hn=>o.same b ob (st.keep b ob h hn),λb hb=>?_,λb hb=>?_])]
 ·rcases aA hb with z|z
  ·by_cases ho:b∈jw L
   ·exact .inl ho
   ·refine .inr ?_;cases e:H b with|none=>rfl|some ob=>have:=o.new b z;rw[st.keep b ob e ho]at this;cases this
  ·exact st.own b z
 ·rcases aA hb with z|z
  ·exact sr b (o.fr b z)
  ·exact st.frz b z
theorem V3{as bs}(h:Src H L as)(hb:∀b∈bs,b∈as):Src H L bs:=λb z=>h b (hb b z)
theorem qx8{as bs}(h:Src H L as)(h':Src H L bs):Src H L (as++bs):=λb z=>(aA z).elim (h b) (h' b)
theorem Jj{H H1 b}(s:kw H H1)(h:H1 b=none):H b=none:=by
 cases e:H b with|none=>rfl|some ob=>rw[s b ob e]at h;cases h
theorem Zz{r f}(ad:Ad1 Z.K r f){Q}(h:tQ Z q (cF1 f a) σ H Q):tUn r (tV Z q a) σ H Q:=by
 obtain⟨E,L,R,m,w,hc,xc,k⟩:=h;refine qY m w hc xc λE1 s h1 x L1 H1 e1 e2 m1 w1 ok fr sr st sm=>?_
 obtain⟨z,hz,rfl⟩:=xw h1;refine ad H1 x z Q ok (by simp_all) λy H' ho hd o=>?_
 obtain⟨w3,dy⟩:=Kz w1 st o fr (λb hb=>ok.some (Sl.frz_as hb)) (V3 sr λb hb=>Sl.frz_as hb);exact k _ _ rfl y L1 H' ho hd m1 w3 dy λhq=>#[kK (sm hq) o.same,λb hb=>Jj (sm hq) (o.new b hb)]
theorem kj9{r f}(ad:Ad2 Z.K r f){Q}(h:tQ Z qa (cF2 f a b) σ H Q):tOp r (tV Z qa a) (tV Z true b) σ H Q:=by
 obtain⟨E,L,R,m,w,hc,xc,k⟩:=h;refine qY m w hc xc λE1 s h1 x L1 H1 e1 e2 m1 w1 ok fr sr st sm=>(qY m1 w1 h1 (xc.step st) λE2 s2 h2 y L2 H2 e3 e4 m2 w2 gj nw nu ca dl=>?_)
 obtain⟨z,hz,rfl⟩:=xw h2;have kx:=K8 ok fr ca (dl rfl);refine ad H2 x y z Q kx.1 gj (by simp_all) λy' H' ho hd o=>?_
 obtain⟨w3,dy⟩:=Kz w2 (st.trans ca) o (λb hb=>(aA hb).elim (kx.2 b) (nw b)) (λb hb=>(aA hb).elim (λz=>kx.1.some (Sl.frz_as z)) λz=>gj.some (Sl.frz_as z))
  (qx8 (V3 sr λb hb=>Sl.frz_as hb) (V3 (nu.back st) λb hb=>Sl.frz_as hb))
 exact k _ _ rfl y' L2 H' ho hd m2 w3 dy λhq=>#[kK (sm hq) (kK (dl rfl) o.same),λb hb=>Jj (kK (sm hq) (dl rfl)) (o.new b hb)]
theorem Kv{op r f}(ho:OpR X (binaryOp op) r)(ad:Ad2 Z.K r f)(ha:QV X Z qa a ea)(hb:QV X Z true b eb):QE X Z qa (cF2 f a b) (.BinOp ea op eb pos):=
 q9 (xvd ho ha hb) fun σ H Q h=>kj9 ad h
theorem Vv{op r f}(ho:OpR X (compareOp op) r)(ad:Ad2 Z.K r f)(ha:QV X Z qa a ea)(hb:QV X Z true b eb)(hm:behindInMarks op eb=false):QE X Z qa (cF2 f a b) (.Compare ea [op] [eb] pos):=
 q9 (wkp ho ha hb hm) fun σ H Q h=>kj9 ad h
theorem q_un{op r f}(ho:UnR X (unaryOp op) r)(ad:Ad1 Z.K r f)(ha:QV X Z q a ea):QE X Z q (cF1 f a) (.UnaryOp op ea pos):=
 q9 (xvc ho ha) fun σ H Q h=>Zz ad h
theorem RepA.get{K H g}:∀{ds xs as} {i:Nat} {d},RepA K H g ds xs as->ds[i]?=some d->∃v bs,xs[i]?=some v/\RepL K H g d v bs/\∀b∈bs,b∈as
 | [],_,_,_,_,_,e=>by simp_all
 | d::ds,_,_,i,d',h,e=>by
  obtain⟨x,r,bs,cs,rfl,rfl,h1,h2⟩:=h;cases i with
  |zero=>
   have e:d=d':=by simpa using e
   subst e;exact#[x,bs,by simp,h1,λb hb=>ll9 _ hb]
  |succ i=>
   obtain⟨v,f8,e1,e2,e3⟩:=RepA.get h2 (by simpa using e);exact#[v,f8,by simpa using e1,e2,λb hb=>lr9 _ (e3 b hb)]
theorem RepA.len{K H g}:∀{ds xs as},RepA K H g ds xs as->ds.length=xs.length
 |[],_,_,h=>by rw[h.1];rfl
 |d::ds,_,_,h=>by
  obtain⟨x,r,bs,cs,rfl,rfl,h1,h2⟩:=h;simp[RepA.len h2]
theorem items{K H}{x:Sl}{ds}(ok:x.ok K H)(h:x.d=.lst ds\/x.d=.tup ds):∃a xs bs,x.v=.ref a/\((x.d=.lst ds/\LsR K H a xs)\/(x.d=.tup ds/\SqT K H a xs))/\RepA K H (x.o != .dp) ds xs bs/\(∀b∈bs,b∈x.as)/\(x.o≠.dp->∀b∈bs,b∈x.frz):=by
 obtain⟨o,d,v,as⟩:=x;rcases h with rfl|rfl
 ·cases o with
  |no=>
   have ok:RepL K H true _ v as:=ok;obtain⟨a,xs,bs,rfl,r,q⟩:=ok;rcases q with⟨q,rfl⟩|⟨_,q,rfl⟩
   ·exact#[a,xs,bs,rfl,.inl #[rfl,.inl (.inl q)],r,λb hb=>lc9 _ hb,λ_ b hb=>lc9 _ hb]
   ·exact#[a,xs,as,rfl,.inl #[rfl,.of q],r,λb hb=>hb,λ_ b hb=>hb]
  |rt=>
   obtain⟨a,xs,bs,rfl,r,q,rfl⟩:=(ok);exact#[a,xs,bs,rfl,.inl #[rfl,.inl (.inl q)],r,λb hb=>lc9 _ hb,λ_ b hb=>by simpa [Sl.frz]using hb]
  |dp=>
   have ok:RepL K H false _ v as:=ok;obtain⟨a,xs,bs,rfl,r,q⟩:=ok;rcases q with⟨q,rfl⟩|⟨z,_⟩
   ·exact#[a,xs,bs,rfl,.inl #[rfl,.inl (.inl q)],r,λb hb=>lc9 _ hb,λz=>absurd rfl z]
   ·grind
 ·cases o with
  |no=>
   obtain⟨a,xs,rfl,q,r⟩:=ok;exact#[a,xs,as,rfl,.inr #[rfl,q],r,λb hb=>hb,λ_ b hb=>hb]
  |rt=>exact(ok).elim
  |dp=>
   obtain⟨a,xs,rfl,q,r⟩:=ok;exact#[a,xs,as,rfl,.inr #[rfl,q],r,λb hb=>hb,λz=>absurd rfl z]
theorem zQ{K H}{x:Sl}{ds}(ok:x.ok K H)(h:x.d=.lst ds\/x.d=.tup ds)(hl:qV (x.o,x.d)=true):∃a xs bs,x.v=.ref a/\((x.d=.lst ds/\LsR K H a xs)\/(x.d=.tup ds/\SqT K H a xs))/\RepA K H true ds xs bs/\(∀b∈bs,b∈x.frz):=by
 obtain⟨a,xs,bs,e,q,r,h1,h2⟩:=items ok h
 by_cases ho:x.o=.dp
 ·have hp:D.pures ds=true:=by
   unfold qV at hl;rw[show(x.o,x.d).1=Own.dp from ho]at hl;have:xx6 x.d=ds:=by rcases h with h|h<;>rw[h]<;>rfl
   simpa [this]using hl
  obtain⟨rfl,r'⟩:=RepA.pu (g':=true) r hp;exact#[a,xs,[],e,q,r',λ_ z=>nomatch z]
 ·have:(x.o != Own.dp)=true:=by simpa using ho
  rw[this]at r;exact#[a,xs,bs,e,q,r,h2 ho]
end
section
variable {K:Frag}{H:Hp}{x y:Sl}
theorem kQ{i}(ok:x.ok K H)(h:x.d=.int i):x.v=.int i:=by
 have:=RepO.wk ok;rw[h]at this;exact this.1
theorem Q0{i}(ok:x.ok K H)(h:x.d=.bl i):x.v=.bl i:=by
 have:=RepO.wk ok;rw[h]at this;exact this.1
theorem vzk(ok:x.ok K H)(h:x.d=.non):x.v=.non:=by
 have:=RepO.wk ok;rw[h]at this;exact this.1
theorem z9{z}(ok:x.ok K H)(h:x.d=.str z):x.v=.str z/\z.length<=sizeLine:=by
 have:=RepO.wk ok;rw[h]at this;exact#[this.1,this.2.2]
theorem vK{i g}:RepL K H g (.int i) (.int i) []:=#[rfl,rfl]
theorem qxu{i g}:RepL K H g (.bl i) (.bl i) []:=#[rfl,rfl]
theorem qxt{g}:RepL K H g .non .non []:=#[rfl,rfl]
theorem XX{z g}(h:z.length<=sizeLine):RepL K H g (.str z) (.str z) []:=#[rfl,rfl,h]
theorem Jw{i fr}:Out K H H #[.dp,.int i,.int i,[]] fr:=kj1 xQ vK
theorem wK{i fr}:Out K H H #[.dp,.bl i,.bl i,[]] fr:=kj1 xQ qxu
theorem xvg{z fr}(h:z.length<=sizeLine):Out K H H #[.dp,.str z,.str z,[]] fr:=kj1 xQ (XX h)
set_option tactic.hygienic true in
theorem xki{C}{g:Int->Int->Int}{f}(h:∀i j k,f i j=some k->C i j/\k=g i j):Ad2 K (rI C λi j=>.int (g i j)) (pu2 (i2 f)):=by
 intro H x y s Q ox oy hf k;unfold pu2 i2 at hf;dsimp only at hf
 split at hf
 ·rename_i i j e1 e2;cases hk:f i j with
  |none=>rw[hk]at hf;cases hf
  |some n=>
   rw[hk]at hf;cases oq9 hf;obtain⟨hc,rfl⟩:=h i j n hk;exact#[i,j,kQ ox e1,kQ oy e2,hc,k _ H rfl rfl Jw]
 ·cases hf
set_option tactic.hygienic true in
theorem xwh{g:Int->Int->Int}{f}(h:∀i j,f i j=some (g i j)):Ad2 K (rI0 λi j=>.int (g i j)) (pu2 (i2 f)):=by
 intro H x y s Q ox oy hf k;unfold pu2 i2 at hf;dsimp only at hf
 split at hf
 ·rename_i i j e1 e2;rw[h]at hf;cases oq9 hf;exact#[i,j,kQ ox e1,kQ oy e2,k _ H rfl rfl Jw]
 ·cases hf
set_option tactic.hygienic true in
theorem J9{g}:Ad2 K (rI0 λi j=>.bl (g i j)) (pu2 (c2 g)):=by
 intro H x y s Q ox oy hf k;unfold pu2 c2 at hf;dsimp only at hf
 split at hf
 ·rename_i i j e1 e2;cases oq9 hf;exact#[i,j,kQ ox e1,kQ oy e2,k _ H rfl rfl wK]
 ·cases hf
theorem kzn:Ad2 K (rI0 λi j=>.int (i - j)) (pu2 Wq):=xwh λ_ _=>rfl
set_option tactic.hygienic true in
theorem xkk:Ad2 K (rI xko λi j=>.int (i / j)) (pu2 vz):=xki λi j k h=>by
 split at h
 ·rename_i c;exact#[c,(oq9 h).symm]
 ·grind
set_option tactic.hygienic true in
theorem xkd:Ad2 K (rI (λ_ j=>0<j) λi j=>.int (i % j)) (pu2 kJ):=xki λi j k h=>by
 split at h
 ·rename_i c;exact#[c,(oq9 h).symm]
 ·grind
end
def wx0(K:Frag):R2:=λx y H Q=>∃l b xs zs,x=.ref l/\y=.ref b/\LsR K H l xs/\LsR K H b zs/\xs.length+zs.length<=sizeLine/\∀p,H p=none->Q (.ref p) (upd H p (.lst (xs++zs)))
theorem op_catL{X}:OpR X (binaryOp .Add) (wx0 X.K):=by
 rintro a8 s σ H x y v u Q I rx ry ⟨l,b,xs,zs,rfl,rfl,hH,hB,hz,q⟩;cases rx;cases ry;obtain⟨z,ac,n,r,e⟩:=hH.is I;obtain⟨z2,i6,n2,r2,e2⟩:=hB.is I;have hl:=r.length;have hl2:=r2.length;refine PySem.P.add_list e e2 ?_ (by rw[X8,X8];lia);have ea:ac.toArray++i6.toArray=(ac++i6).toArray:=by simp
 rw[ea];exact#[.ref _,_,I.lnew (t':=s.toks) (r.append r2) (by rw[Xf];lia),rfl,q _ I.fresh]
def wx1(K:Frag):R2:=λx y H Q=>∃a b ys,x=.ref a/\y=.ref b/\SqT K H a []/\SqT K H b ys/\Q (.ref b) H
theorem op_catE{X}:OpR X (binaryOp .Add) (wx1 X.K):=by
 rintro a8 s σ H x y v u Q I rx ry ⟨a,b,ys,rfl,rfl,ha,hb,q⟩;cases rx;cases ry;obtain⟨ac,r1,p1,_⟩:=I.tuple ha;obtain⟨i6,r2,p2,_⟩:=I.tuple hb;obtain⟨⟨cls,dd,data,sl⟩,ho,hc,n,hd⟩:=id p1;obtain⟨⟨cls2,dd2,data2,ni⟩,jg,nt,n2,ji⟩:=id p2;subst hc hd nt ji;have e:=r1.nil_iff.mpr rfl;subst e;exact concat_meets #[_,ho,rfl] #[_,jg,rfl] noFill_tuple_add seq_tuple_add PySem.F.slot_tuple_add PySem.F.entry_tuple_add (PySem.F.args_tuple_add_2 _ _)
   (tuple_addW0 a b [].toArray i6.toArray n n2 dd dd2 sl ni (by simp)) #[ho,jg,#[.ref b,H,I,rfl,q]]
def wx2(K:Frag):R2:=λx y H Q=>rI0 (λi j=>.int (i+j)) x y H Q\/(∃i j,x=.str i/\y=.str j/\i.length+j.length<=sizeLine/\Q (.str (i++j)) H)\/wx0 K x y H Q\/wx1 K x y H Q\/wwz K x y H Q
theorem wzi{X K}(hK:X.K=K):OpR X (binaryOp .Add) (wx2 K):=by subst hK;exact op_add.or (op_add_str.or (op_catL.or (op_catE.or wkw)))
theorem RepA.app{K H g ds' xs' f8}(h':RepA K H g ds' xs' f8):∀{ds xs as},RepA K H g ds xs as->RepA K H g (ds++ds') (xs++xs') (as++f8)
 |[],_,_,h=>by rw[h.1,h.2];exact h'
 |d::ds,_,_,h=>by
  obtain⟨x,r,bs,cs,rfl,rfl,h1,h2⟩:=h;rw[List.cons_append];exact#[x,r++xs',bs,cs++f8,rfl,by rw[Xq],h1,RepA.app h' h2]
theorem x5{H p o}(h:H p=none):kw H (upd H p o):=λb u q=>by rw[qQ (Jx q h)];exact q
theorem K6{K H p ds xs bs fr}(hp:H p=none)(r:RepA K H true ds xs bs)(hb:∀b∈bs,b∈fr):Out K H (upd H p (.lst xs)) #[.rt,.lst ds,.ref p,p::bs] fr:=by
 refine#[x5 hp,#[p,xs,bs,rfl,r.kp (Kp.of_same (x5 hp)),wW,rfl],λb hb=>?_,?_,λb ft=>hb b (by simpa [Sl.frz]using ft)]
 ·have:b=p:=by simpa [Sl.own]using hb
  rw[this];exact hp
 ·simp[Sl.own]
theorem kjq{K H p ds xs bs fr}(hp:H p=none)(r:RepA K H true ds xs bs)(hb:∀b∈bs,b∈fr):Out K H (upd H p (.tup xs)) #[.no,.tup ds,.ref p,bs] fr:=by
 refine#[x5 hp,?_,λb hb=>(nomatch hb),Xr,λb ft=>hb b ft];show RepL K _ true _ _ bs;exact#[p,xs,rfl,SqT.of wW,r.kp (Kp.of_same (x5 hp))]
set_option tactic.hygienic true in
theorem xkm{K}:Ad2 K (wx2 K) jX:=by
 intro H x y s Q ox oy hf k;unfold jX at hf;dsimp only at hf
 split at hf
 ·rename_i i j e1 e2;cases oq9 hf;exact .inl #[i,j,kQ ox e1,kQ oy e2,k _ H rfl rfl Jw]
 ·rename_i i j e1 e2
  split at hf
  ·rename_i hl;cases oq9 hf;have hl':(i++j).length<=sizeLine:=by rw[strLen_append];exact hl
   exact .inr (.inl #[i,j,(z9 ox e1).1,(z9 oy e2).1,hl,k _ H rfl rfl (xvg hl')])
  ·cases hf
 ·rename_i i j e1 e2
  split at hf
  ·rename_i hl;cases oq9 hf;obtain⟨a,xs,bs,e3,q3,r3,h3⟩:=zQ ox (.inl e1) hl.2.1;obtain⟨b,ys,cs,e4,q4,r4,h4⟩:=zQ oy (.inl e2) hl.2.2;have q3:LsR K H a xs:=by rcases q3 with⟨_,z⟩|⟨z,_⟩;exact z;rw[e1]at z;cases z
   have q4:LsR K H b ys:=by rcases q4 with⟨_,z⟩|⟨z,_⟩;exact z;rw[e2]at z;cases z
   exact .inr (.inr (.inl #[a,b,xs,ys,e3,e4,q3,q4,by rw[<-r3.len,<-r4.len];exact hl.1,λp hp=>(k _ _ rfl rfl (K6 hp (r4.app r3) λb hb=>(aA hb).elim (λz=>ll9 _ (h3 b z)) λz=>lr9 _ (h4 b z)))]))
  ·cases hf
 ·rename_i i j e1 e2
  split at hf
  ·rename_i hl;cases oq9 hf;obtain⟨a,xs,bs,e3,q3,r3,h3⟩:=zQ ox (.inr e1) hl.2.1;obtain⟨b,ys,cs,e4,q4,r4,h4⟩:=zQ oy (.inr e2) hl.2.2;have q3:SqT K H a xs:=by rcases q3 with⟨z,_⟩|⟨_,z⟩;rw[e1]at z;cases z;exact z
   have q4:SqT K H b ys:=by rcases q4 with⟨z,_⟩|⟨_,z⟩;rw[e2]at z;cases z;exact z
   have ap:=r4.app r3;have rq:=λb hb=>(aA hb).elim (λz=>ll9 _ (h3 b z)) λz=>lr9 _ (h4 b z)
   have same:∀c zs,zs=xs++ys->SqT K H c zs->Q (.ref c) H:=λc zs e hq=>by
    refine k #[.no,.tup _,.ref c,bs++cs] H rfl rfl #[xQ,?_,λb hb=>(nomatch hb),Xr,rq];show RepL K H true _ _ _;exact#[c,zs,rfl,hq,by rw[e];exact ap]
   by_cases hx:xs=[]
   ·subst hx;exact .inr (.inr (.inr (.inl #[a,b,ys,e3,e4,q3,q4,same b ys rfl q4])))
   ·refine .inr (.inr (.inr (.inr #[a,b,xs,ys,e3,e4,q3,q4,hx,by rw[<-r3.len,<-r4.len];exact hl.1,λhy=>?_,λhy p hp=>?_])))
    ·exact same a xs (by rw[hy,Xs]) q3
    ·exact k _ _ rfl rfl (kjq hp ap rq)
  ·cases hf
 ·cases hf
def tT(Z:Fx0)(q:Bool)(c:Ts):TT:=fun σ H Q=>∃E L r,Mt E σ L/\World Z.K H L/\c E=some r/\Xc Z σ H L r /\
 ∀E' k,r=.ok E' k->∀L' H',Mt E' σ L'->World Z.K H' L'->Step H L H' L'->(q=true->kw H H')->Q k H'
def QT(X:Cx)(Z:Fx0)(q:Bool)(c:Ts)(e:Expr):Prop:=PT X e (tT Z q c)
def QW(X:Cx)(Z:Fx0)(q:Bool)(c:Ts)(e:Expr):Prop:=PW X e (tT Z q c)
section
variable {X:Cx}{Z:Fx0}{q qa qb:Bool}{a b c:Ex}{u v:Ts}{e ea eb:Expr}{es:List Expr}{pos:Pos}{α β:Type}{σ:L2.St}{H:Hp}{L:Ls}{E:En}
theorem vz5{e t t'}(h:PW X e t)(w:∀ σ H Q,t' σ H Q->t σ H Q):PW X e t':=λwh a8 s σ H Q I q=>h wh a8 s σ H Q I (w σ H Q q)
theorem vv7{F}{r:Res α}{G}(m:Mt E σ L)(w:World Z.K H L)(h:bnd (u E) F=some r)(xc:Xc Z σ H L r)
  (k:∀E1 s,F E1 s=some r->∀L1 H1,Mt E1 σ L1->World Z.K H1 L1->Step H L H1 L1->(q=true->kw H H1)->G s H1):tT Z q u σ H G:=by
 rcases wx h with⟨E1,s,h1,h2⟩|⟨E1,c,h1,h2⟩
 ·exact#[E,L,_,m,w,h1,(λ_ _ z=>by cases z),λE' s' z L' H' m' w' st sm=>by
   injection z with z1 z2;subst z1 z2;exact k _ _ h2 L' H' m' w' st sm]
 ·exact#[E,L,_,m,w,h1,xc.map h2,λE' s' z=>by cases z]
theorem qj9(ha:QT X Z q u ea):QW X Z q u (.BoolOp .And [ea] pos):=wk4 ha
theorem J0(ha:QT X Z q u ea):QW X Z q u (.BoolOp .Or [ea] pos):=wxk ha
theorem qz6(ha:QT X Z q u ea)(hb:QW X Z q v (.BoolOp .And (eb::es) pos)):QW X Z q (Q.tAnd u v) (.BoolOp .And (ea::eb::es) pos):=
 vz5 (wxl ha hb) fun σ H Q ao=>ex8 ao λE L r m w hc xc k=>vv7 m w hc xc λE1 s h1 L1 H1 m1 w1 st sm=>by
  cases s with
  |true=>
   exact#[E1,L1,r,m1,w1,h1,xc.step st,λE' k' z L' H' m' w' gi lm=>k E' k' z L' H' m' w' (st.trans gi) λhq=>kK (sm hq) (lm hq)]
  |false=>grind
theorem x4(ha:QT X Z q u ea)(hb:QW X Z q v (.BoolOp .Or (eb::es) pos)):QW X Z q (Q.tOr u v) (.BoolOp .Or (ea::eb::es) pos):=
 vz5 (xva ha hb) fun σ H Q ao=>ex8 ao λE L r m w hc xc k=>vv7 m w hc xc λE1 s h1 L1 H1 m1 w1 st sm=>by
  cases s with
  |false=>
   exact#[E1,L1,r,m1,w1,h1,xc.step st,λE' k' z L' H' m' w' gi lm=>k E' k' z L' H' m' w' (st.trans gi) λhq=>kK (sm hq) (lm hq)]
  |true=>grind
theorem QW.pt(h:QW X Z q u e):QT X Z q u e:=PW.pt h
theorem vx(ha:QT X Z q u ea):QT X Z q (Q.tNot u) (.UnaryOp .Not ea pos):=
 qq4 (wxm ha) fun σ H Q ao=>ex8 ao λE L r m w hc xc k=>vv7 m w hc xc λE1 s h1 L1 H1 m1 w1 st sm=>by
  cases oq9 h1;exact k _ _ rfl L1 H1 m1 w1 st sm
theorem vq{op r f}(ho:OpR X (compareOp op) r)(ad:Ad2 Z.K r f)(ha:QV X Z qa a ea)(hb:QV X Z true b eb)(hm:behindInMarks op eb=false)(hf:∀x y s,f x y=some s->∃k,s.2=.bl k):QT X Z qa (Q.tE (cF2 f a b)) (.Compare ea [op] [eb] pos):=
 qq4 (wkb ho ha hb hm) fun σ H Q ao=>ex8 ao λE L r m w hc xc k=>by
  refine kj9 ad ?_;rcases wx hc with⟨E1,s,h1,h2⟩|⟨E1,c,h1,h2⟩
  ·refine#[E,L,_,m,w,h1,(λ_ _ z=>by cases z),λE' s' z x L' H' e1 e2 m' w' st sm=>?_];injection z with z1 z2;subst z1 z2;obtain⟨kk,hk⟩:∃k,s.2=.bl k:=by
    rcases wx h1 with⟨E2,s2,h3,h4⟩|⟨_,_,_,z⟩
    ·rcases wx h4 with⟨E3,s3,h5,h6⟩|⟨_,_,_,z⟩
     ·obtain⟨y,hy,z⟩:=xw h6;cases z;exact hf _ _ _ hy
     ·cases z
    ·cases z
   rw[hk]at h2;cases oq9 h2;exact#[kk,Q0 w'.head (e2.trans hk),k _ _ rfl L' H' m' w'.tail (st.trans Step.drop) λhq=>(sm hq).1]
  ·exact#[E,L,_,m,w,h1,xc.map h2,λE' s' z=>by cases z]
end
def Pn(pn:List Nat)(σ σ':L2.St):Prop:=∀p∈pn,σ'[p]?=σ[p]?
theorem Pn.refl{pn σ}:Pn pn σ σ:=λ_ _=>rfl
theorem Pn.trans{pn σ σ1 σ2}(a:Pn pn σ σ1)(b:Pn pn σ1 σ2):Pn pn σ σ2:=λp hp=>(b p hp).trans (a p hp)
theorem Pn.set{pn σ σ1 i y}(a:Pn pn σ σ1)(h:i∉pn):Pn pn σ (σ1.set i y):=λp hp=>by
 have:i≠p:=λe=>h (e▸hp)
 rw[Z1 this];exact a p hp
noncomputable def FlP(Z:Fx0)(pn:List Nat)(D:Ends)(σ:L2.St)(H:Hp)(L:Ls):Fl->Prop
 |.nx E'=>∀ σ' L' H',Pn pn σ σ'->Mt E' σ' L'->World Z.K H' L'->Step H L H' L'->D.nx σ' H'|.ct E'=>∀ σ' L' H',Pn pn σ σ'->Mt E' σ' L'->World Z.K H' L'->Step H L H' L'->D.ct σ' H'|.bk E'=>∀ σ' L' H',Pn pn σ σ'->Mt E' σ' L'->World Z.K H' L'->Step H L H' L'->D.bk σ' H'|.rt E' a=>∀(x:Sl) σ' L' H',x.o=a.1->x.d=a.2->Pn pn σ σ'->Mt E' σ' L'->World Z.K H' (some x::L')->Step H L H' (some x::L')->D.rt x.v H'|.xc E' c=>∀C σ' L' H',Z.mg c=some (.ref C)->Pn pn σ σ'->Mt E' σ' L'->World Z.K H' L'->Step H L H' L'->Z.EX (.ref C) none H'
theorem FlP.step{Z pn D σ σ1 H H1 L L1 r}(k:FlP Z pn D σ H L r)(s:Step H L H1 L1)(p:Pn pn σ σ1):FlP Z pn D σ1 H1 L1 r:=by
 cases r with|nx E'=>exact fun σ' L' H' p' m w s'=>k σ' L' H' (p.trans p') m w (s.trans s')|ct E'=>exact fun σ' L' H' p' m w s'=>k σ' L' H' (p.trans p') m w (s.trans s')|bk E'=>exact fun σ' L' H' p' m w s'=>k σ' L' H' (p.trans p') m w (s.trans s')|rt E' a=>exact λx σ' L' H' e1 e2 p' m w s'=>k x σ' L' H' e1 e2 (p.trans p') m w (s.trans s')|xc E' c=>exact λC σ' L' H' hm p' m w s'=>k C σ' L' H' hm (p.trans p') m w (s.trans s')
theorem FlP.xc{α Z pn D σ H L E' c}(k:FlP Z pn D σ H L (.xc E' c)):Xc Z σ H L (.exc E' c:Res α):=λE1 c1 e C L' H' hm m w s=>by
 injection e with h1 h2;subst h1 h2;exact k C σ L' H' hm Pn.refl m w s
def tS(Z:Fx0)(pn:List Nat)(c:Sm):TS:=λD σ H=>∃E L r,Mt E σ L/\World Z.K H L/\c E=some r/\FlP Z pn D σ H L r
def QS(X:Cx)(Z:Fx0)(pn:List Nat)(c:Sm)(st:Stmt):Prop:=PS X st (tS Z pn c)
def QSs(X:Cx)(Z:Fx0)(pn:List Nat)(c:Sm)(st:List Stmt):Prop:=PSs X st (tS Z pn c)
section
variable {X:Cx}{Z:Fx0}{pn:List Nat}{q qa qb:Bool}{a b c:Ex}{u v:Ts}{A B:Sm}{e ea eb:Expr}{st:Stmt}{ss tt:List Stmt}{pos:Pos}{α:Type}{σ:L2.St}{H:Hp}{L:Ls}{E:En}{D:Ends}
theorem jxr{m}{F:En->α->Option Fl}{r}(h:ofE m F=some r):(∃E1 x,m=some (.ok E1 x)/\F E1 x=some r)\/∃E1 c,m=some (.exc E1 c)/\r=.xc E1 c:=by
 cases m with
 |none=>cases h
 |some q=>
  cases q with|ok E1 x=>exact .inl #[E1,x,rfl,h]|exc E1 c=>exact .inr #[E1,c,rfl,(oq9 h).symm]
theorem W3{F r G}(m:Mt E σ L)(w:World Z.K H L)(h:ofE (a E) F=some r)(k:FlP Z pn D σ H L r)
  (g:∀E1 s,F E1 s=some r->∀x L1 H1,x.o=s.1->x.d=s.2->Mt E1 σ L1->World Z.K H1 (some x::L1)->Step H L H1 (some x::L1)->(q=true->kw H H1/\∀b∈x.own,H b=none)->G x.v H1):tQ Z q a σ H G:=by
 rcases jxr h with⟨E1,s,h1,h2⟩|⟨E1,c,h1,rfl⟩
 ·exact#[E,L,_,m,w,h1,(λ_ _ z=>by cases z),λE' s' z x L' H' e1 e2 m' w' st sm=>by
   injection z with z1 z2;subst z1 z2;exact g _ _ h2 x L' H' e1 e2 m' w' st sm]
 ·exact#[E,L,_,m,w,h1,k.xc,λE' s' z=>by cases z]
theorem wwh{F r G}(m:Mt E σ L)(w:World Z.K H L)(h:ofE (u E) F=some r)(k:FlP Z pn D σ H L r)
  (g:∀E1 s,F E1 s=some r->∀L1 H1,Mt E1 σ L1->World Z.K H1 L1->Step H L H1 L1->G s H1):tT Z q u σ H G:=by
 rcases jxr h with⟨E1,s,h1,h2⟩|⟨E1,c,h1,rfl⟩
 ·exact#[E,L,_,m,w,h1,(λ_ _ z=>by cases z),λE' s' z L' H' m' w' st sm=>by
   injection z with z1 z2;subst z1 z2;exact g _ _ h2 L' H' m' w' st]
 ·exact#[E,L,_,m,w,h1,k.xc,λE' s' z=>by cases z]
theorem xv2:QSs X Z pn k4 []:=qzf wkd λD σ H ao=>ex7 ao λE L r m w hc k=>by
 cases oq9 hc;exact k σ L H Pn.refl m w Step.refl
theorem j8(h1:QS X Z pn A st)(h2:QSs X Z pn B ss):QSs X Z pn (j7 A B) (st::ss):=qzf (vvx h1 h2) λD σ H ao=>ex7 ao λE L r m w hc k=>by
 unfold j7 at hc;cases ha:A E with
 |none=>rw[ha]at hc;cases hc
 |some f=>
  rw[ha]at hc;cases f with|nx E1=>exact#[E,L,_,m,w,ha,fun σ' L' H' p m' w' s=>#[E1,L',r,m',w',hc,k.step s p]]|ct E1=>cases oq9 hc;exact#[E,L,_,m,w,ha,k]|bk E1=>cases oq9 hc;exact#[E,L,_,m,w,ha,k]|rt E1 x=>cases oq9 hc;exact#[E,L,_,m,w,ha,k]|xc E1 x=>cases oq9 hc;exact#[E,L,_,m,w,ha,k]
theorem k3(h1:QS X Z pn A st):QSs X Z pn A [st]:=wkc h1
theorem xv1(h:QE X Z q a ea):QS X Z pn (jJ a) (.Return (some ea) pos):=JY (wxo h) λD σ H ao=>ex7 ao λE L r m w hc k=>
 W3 m w hc k λE1 s h1 x L1 H1 e1 e2 m1 w1 st _=>by
  cases oq9 h1;exact k x σ L1 H1 e1 e2 Pn.refl m1 w1 st
theorem xx3(hc:QT X Z q u e)(ha:QSs X Z pn A ss)(hb:QSs X Z pn B tt):QS X Z pn (sIf u A B) (.If e ss tt pos):=JY (xvb hc ha hb) λD σ H ao=>ex7 ao λE L r m w hc k=>
 wwh m w hc k λE1 s h1 L1 H1 m1 w1 st=>by
  cases s with|true=>rw[Xd rfl]at h1 ⊢;exact#[E1,L1,r,m1,w1,h1,k.step st Pn.refl]|false=>rw[Xi ⋯]at h1 ⊢;exact#[E1,L1,r,m1,w1,h1,k.step st Pn.refl]
theorem kxj{x i s}(m:Mt E σ L)(e1:x.o=s.1)(e2:x.d=s.2):Mt (E.set i (some s)) (σ.set i (some x.v)) (L.set i (some x)):=by
 have:=m.set (x:=x) i;rw[e1,e2]at this;exact this
theorem xv7{i y bc}(hN:X.N.Nodup)(hi:X.N[i]?=some y)(hx:Loc X.env.scope y)(h:QE X Z q a ea)(hp:autoParam (i∉pn) ŕ)(hs:autoParam (swapsWith ea (some (.Name y bc)) pos.line X.env=pure false) Ŕ)(hf:autoParam (X.fn y=true\/X.env.scope.names.lookup y=some .local) Ř):
  QS X Z pn (jv i a) (.Assign [.Name y bc] ea pos):=JY (wxn hN hi hx h hs hf) λD σ H ao=>ex7 ao λE L r m w hc k=>
 W3 m w hc k λE1 s h1 x L1 H1 e1 e2 m1 w1 st _=>by
  cases oq9 h1;exact k _ _ H1 (Pn.refl.set hp) (kxj m1 e1 e2) w1.set (st.trans Step.set)
theorem wxj{i y bc}(hp:i∉pn)(h:PS X (.Assign [.Name y bc] ea pos) (λD σ H=>tQ Z q a σ H λv H1=>D.nx (σ.set i (some v)) H1)):
  QS X Z pn (jv i a) (.Assign [.Name y bc] ea pos):=JY h λD σ H ao=>ex7 ao λE L r m w hc k=>
 W3 m w hc k λE1 s h1 x L1 H1 e1 e2 m1 w1 st _=>by
  cases oq9 h1;exact k _ _ H1 (Pn.refl.set hp) (kxj m1 e1 e2) w1.set (st.trans Step.set)
theorem qj8(hp:PassesOwn (model X.prog X.w) X.A X.env X.xe)(hc:QT X Z q u e)(hb:QSs X Z pn B ss):QS X Z pn (Jz u B) (.While e ss [] pos):=JY (vvy hp hc hb) λD σ H ao=>ex7 ao λE L r m w hr k=>by
 obtain⟨n0,hn⟩:=kzy hr;refine#[λn σ1 H1=>∃E1 L1,Mt E1 σ1 L1/\World Z.K H1 L1/\whN u B n E1=some r/\Step H L H1 L1/\Pn pn σ σ1,#[n0,E,L,m,w,hn,Step.refl,Pn.refl],?_];rintro n σ1 H1 ⟨E1,L1,m1,w1,h1,jn,p1⟩;cases n with
 | zero=>cases h1
 | succ n=>
  have k1:=k.step jn p1;unfold whN whF at h1;cases ht:u E1 with
  | none=>rw[ht]at h1;cases h1
  | some f=>
   rw [ht]at h1;cases f with
   | exc E2 c=>
    cases oq9 h1;exact#[E1,L1,_,m1,w1,ht,k1.xc,λE' s' z=>by cases z]
   | ok E2 kk=>
    refine#[E1,L1,_,m1,w1,ht,(λ_ _ z=>by cases z),λE' s' z L' H' m' w' st sm=>?_];injection z with z1 z2;subst z1 z2;cases kk with
    | false=>
     rw[Xi ⋯];cases oq9 h1;exact k1 σ1 L' H' Pn.refl m' w' st
    | true=>
     rw[Xd rfl];dsimp only at h1;refine#[fun σ2 H2=>∃E2 L2,Mt E2 σ2 L2/\World Z.K H2 L2/\whN u B n E2=some r/\Step H L H2 L2/\Pn pn σ σ2,fun σ2 H2 h2=>#[n,by omega,h2],?_];cases hB:B E2 with
     |none=>rw[hB]at h1;cases h1
     |some g=>
      rw[hB]at h1;have k2:=k1.step st Pn.refl;refine#[E2,L',g,m',w',hB,?_];cases g with|nx E3=>exact fun σ3 L3 H3 p3 m3 w3 s3=>#[E3,L3,m3,w3,h1,jn.trans (st.trans s3),p1.trans p3]|ct E3=>exact fun σ3 L3 H3 p3 m3 w3 s3=>#[E3,L3,m3,w3,h1,jn.trans (st.trans s3),p1.trans p3]|bk E3=>cases oq9 h1;exact k2|rt E3 x=>cases oq9 h1;exact k2|xc E3 c=>cases oq9 h1;exact k2
end
structure Walks (K:Frag)(J:It)(T:List Sl)(ds:List D):Prop where
 no:∀t∈T,t.o=.no
 go:∀i H,(∀t∈T,t.ok K H)->i<ds.length->J.go i H
 stop:∀H,(∀t∈T,t.ok K H)->J.stop ds.length H
 yld:∀i H v H' d,(∀t∈T,t.ok K H)->J.yld i H v H'->ds[i]?=some d->∃z:Sl,z.o=.no/\z.d=d/\z.v=v/\kw H H'/\z.ok K H'/\∀b∈z.as,∃t∈T,b∈t.as
noncomputable def tI(Z:Fx0)(q:Bool)(it:Ev (List D)):TI:=fun σ H R=>∃E L r,Mt E σ L/\World Z.K H L/\it E=some r/\Xc Z σ H L r /\
 ∀E' ds,r=.ok E' ds->∀J T L' H',Mt E' σ L'->World Z.K H' (L'++T.map some)->Step H L H' (L'++T.map some)->ds.length<=sizeLine->(q=true->kw H H')->Walks Z.K J T ds->R J H'
def QI(X:Cx)(Z:Fx0)(q:Bool)(tg:Expr)(it:Ev (List D))(e:Expr):Prop:=PI X tg e (tI Z q it)
def xwm(K:Frag)(H0:Hp)(T:List Sl)(H:Hp):Prop:=(∀t∈T,t.ok K H)/\∀t∈T,Kp H0 H t.as
structure WalksD (K:Frag)(H0:Hp)(J:It)(T:List Sl)(ds:List D):Prop where
 no:∀t∈T,t.o=.no
 go:∀i H,xwm K H0 T H->i<ds.length->J.go i H
 stop:∀H,xwm K H0 T H->J.stop ds.length H
 yld:∀i H v H' d,xwm K H0 T H->J.yld i H v H'->ds[i]?=some d->∃z:Sl,z.o=.no/\z.d=d/\z.v=v/\kw H H'/\z.ok K H'/\∀b∈z.as,∃t∈T,b∈t.as
theorem Walks.D{K H0 J T ds}(h:Walks K J T ds):WalksD K H0 J T ds:=#[h.no,λi H o=>h.go i H o.1,λH o=>h.stop H o.1,λi H v H' d o=>h.yld i H v H' d o.1]
noncomputable def tID(Z:Fx0)(q:Bool)(it:Ev (List D)):TI:=fun σ H R=>∃E L r,Mt E σ L/\World Z.K H L/\it E=some r/\Xc Z σ H L r /\
 ∀E' ds,r=.ok E' ds->∀J T L' H',Mt E' σ L'->World Z.K H' (L'++T.map some)->Step H L H' (L'++T.map some)->ds.length<=sizeLine->(q=true->kw H H')->WalksD Z.K H' J T ds->R J H'
def QID(X:Cx)(Z:Fx0)(q:Bool)(tg:Expr)(it:Ev (List D))(e:Expr):Prop:=PI X tg e (tID Z q it)
theorem QI.D{X Z q tg it e}(h:QI X Z q tg it e):QID X Z q tg it e:=λa8 s σ H R I hz=>h a8 s σ H R I (by
 obtain⟨E,L,r,m,w,e,x,k⟩:=hz;exact#[E,L,r,m,w,e,x,λE' ds z J T L' H' m' w' st hl sm wk=>k E' ds z J T L' H' m' w' st hl sm wk.D])
structure WalksS (K:Frag)(q:Bool)(H0:Hp)(J:It)(T:List Sl)(ds:List D):Prop where
 no:∀t∈T,t.o=.no
 go:∀i H,(∀t∈T,t.ok K H)->(q=true->kw H0 H)->i<ds.length->J.go i H
 stop:∀H,(∀t∈T,t.ok K H)->(q=true->kw H0 H)->J.stop ds.length H
 yld:∀i H v H' d,(∀t∈T,t.ok K H)->(q=true->kw H0 H)->J.yld i H v H'->ds[i]?=some d->∃z:Sl,z.o=.no/\z.d=d/\z.v=v/\kw H H'/\z.ok K H'/\∀b∈z.as,∃t∈T,b∈t.as
theorem wje{K q H0 J T ds}(h:Walks K J T ds):WalksS K q H0 J T ds:=#[h.no,λi H o _=>h.go i H o,λH o _=>h.stop H o,λi H v H' d o _=>h.yld i H v H' d o]
noncomputable def tIS(Z:Fx0)(q:Bool)(it:Ev (List D)):TI:=fun σ H R=>∃E L r,Mt E σ L/\World Z.K H L/\it E=some r/\Xc Z σ H L r /\
 ∀E' ds,r=.ok E' ds->∀J T L' H',Mt E' σ L'->World Z.K H' (L'++T.map some)->Step H L H' (L'++T.map some)->ds.length<=sizeLine->(q=true->kw H H')->WalksS Z.K q H J T ds->R J H'
def QIS(X:Cx)(Z:Fx0)(q:Bool)(tg:Expr)(it:Ev (List D))(e:Expr):Prop:=PI X tg e (tIS Z q it)
theorem xx1{X Z q tg it e}(h:QI X Z q tg it e):QIS X Z q tg it e:=λa8 s σ H R I hz=>h a8 s σ H R I (by
 obtain⟨E,L,r,m,w,e,x,k⟩:=hz;exact#[E,L,r,m,w,e,x,λE' ds z J T L' H' m' w' st hl sm wk=>k E' ds z J T L' H' m' w' st hl sm (wje wk)])
def tG(Z:Fx0)(pn:List Nat)(tg:Tg):TG:=λv σ H Q=>∃(E:En) (L:Ls) (z:Sl) (E':En),Mt E σ L/\World Z.K H (some z::L)/\z.o=.no/\z.v=v/\tg.put z.d E=some E' /\
 ∀ σ' L',Pn pn σ σ'->Mt E' σ' L'->World Z.K H L'->Step H (some z::L) H L'->Q σ' H
def QG(X:Cx)(Z:Fx0)(pn:List Nat)(tg:Tg)(e:Expr):Prop:=PG X e (tG Z pn tg)
section
variable {X:Cx}{Z:Fx0}{pn:List Nat}{e:Expr}{σ:L2.St}{H:Hp}{L:Ls}{E:En}
theorem vzf{t t'}(h:PG X e t)(w:∀v σ H Q,t' v σ H Q->t v σ H Q):PG X e t':=λa8 s σ H x v Q I r q=>h a8 s σ H x v Q I r (w x σ H Q q)
theorem YX{i}(h:PG X e (vkb i))(hp:autoParam (i∉pn) ŕ):QG X Z pn (.n i) e:=vzf h λv σ H Q hz=>by
 obtain⟨E,L,z,E',m,w,ho,hv,cb,k⟩:=hz;cases oq9 cb;rw[<-hv];exact k _ _ (Pn.refl.set hp) (kxj m ho rfl) w.set Step.set
def gNs:List Nat->TGs
 |[]=>xx9|i::is=>xjl (vkb i) (gNs is)
theorem vka{Q M σ0}:∀{is ds xs bs E L σ E'},Mt E σ L->World Z.K H L->RepA Z.K H true ds xs bs->(∀b∈bs,b∉jw L)->(∀b∈bs,b∈k5 M)->Step H M H L->Pn pn σ0 σ ->
  setAll is ds E=some E'->(∀i∈is,i∉pn)->(∀ σ' L',Pn pn σ0 σ'->Mt E' σ' L'->World Z.K H L'->Step H M H L'->Q σ' H)->gNs is xs σ H Q
 | [],[],xs,bs,E,L,σ,E',m,w,r,_,_,st,p,e,_,k=>by
  cases oq9 e;exact#[r.1,k σ L p m w st]
 | [],_::_,_,_,_,_,_,_,_,_,_,_,_,_,_,e,_,_=>by cases e| _::_,[],_,_,_,_,_,_,_,_,_,_,_,_,_,e,_,_=>by cases e
 | i::is,d::ds,xs,bs,E,L,σ,E',m,w,r,hb,hf,st,p,e,hi,k=>by
  obtain⟨x,rr,cs,es,rfl,rfl,h1,h2⟩:=r;have s1:Step H M H (L.set i (some #[.no,d,x,cs])):=by
   refine#[λ_ _ h _=>h,λa ha=>?_,λa ha=>?_]
   ·rcases XW ha with z|z
    ·exact nomatch z
    ·exact st.own a z
   ·rcases jko ha with z|z
    ·exact .inl (hf a (ll9 _ z))
    ·exact st.frz a z
  exact#[x,rr,rfl,vka (kxj (x:=#[.no,d,x,cs]) m rfl rfl) (w.consNo (x:=#[.no,d,x,cs]) h1 rfl λb ft=>hb b (ll9 _ ft)).set h2 (λb ft ho=>by
   rcases XW ho with z|z
   ·exact nomatch z
   ·exact hb b (lr9 _ ft) z) (λb ft=>hf b (lr9 _ ft)) s1 (p.set (hi i X5)) e (λj hj=>hi j (lc9 _ hj)) k]
theorem kq4:∀{is ds E E'},setAll is ds E=some E'->is.length=ds.length
 |[],[],_,_,_=>rfl|i::is,d::ds,E,E',e=>by rw[Xm,Xm,kq4 (E:=E.set i _) e]
def xvz(K:Frag)(n:Nat)(t:TGs):TG:=λv σ H Q=>∃a xs,v=.ref a/\(SqT K H a xs\/SqL K H a xs)/\xs.length=n/\t xs σ H Q
section
variable {prog:Program}{w:PySem.World}{A:Around}{E':VP9}
theorem kz6{it t items}(br:t≠it):∀n i (s) (Q),s.heap.IsListIter it t i->s.heap.IsList t items->i+n<=items.size ->
  (∀h',h'.IsListIter it t (i+n)->Heap.SameBut it s.heap h'->Q ((items.toList.drop i).take n) {s with heap:=h' })->wpAny (model prog w) A (draw (.ref it) n) Q E' s
 | 0,i,s,Q,fq,_,_,hQ=>by
  exact X6 (by simpa using hQ s.heap fq (Heap.SameBut.refl ..))
 | n+1,i,s,Q,fq,ht,gw,hQ=>by
  have cz:i<items.size:=by omega
  refine X0 (wpAny_pyNext_list_item fq ht (x:=items[i]) (by simp) λh₁ qo t9=>?_);have ht₁:h₁.IsList t items:=by
   obtain⟨o,ho,r⟩:=ht;exact#[o,(t9.2 t br).trans ho,r]
  refine X0 (Ya (kz6 br n _ _ _ qo ht₁ (by omega) λh₂ hit₂ hs₂=>X6 ?_));have hd:items.toList.drop i=items[i]::items.toList.drop (i+1):=by simp[List.drop_eq_getElem_cons,cz]
  have:=hQ h₂ ⋯ (t9.trans hs₂)
  simp_all
theorem jzr{s t items Q}(hh:A.handled=none)(ht:s.heap.IsList t items)
  (hQ:∀h',Heap.ExtBut s.heap.objs.size s.heap h'->Q items.toList {s with heap:=h' }):wpAny (model prog w) A (unpackItems (.ref t) items.size none) Q E' s:=by
 have cz:t≠s.heap.objs.size:=by obtain⟨o,ho,_⟩:=ht;exact Xk (Xe ho)
 refine X0 (X0 (Yy ht.typeIs slot_list_iter.lookup (X6 (X0 (Ya (Zf ht ?_))))));have ht0:∀o,(s.heap.push o).IsList t items:=λo=>by
  obtain⟨ob,ho,r⟩:=ht;exact#[ob,X2 _ ho,r]
 refine X0 (Ya (kz6 cz items.size 0 _ _ #[_,X9 _ rfl,rfl,rfl] (ht0 _) (by simp) λh₁ qo t9=>?_));have lq:List.take items.size (List.drop 0 items.toList)=items.toList:=by
  rw[List.drop_zero];exact List.take_of_length_le (by simp)
 rw[lq,Xi (by simp)];have ht₁:h₁.IsList t items:=by
  obtain⟨o,ho,r⟩:=ht0 _;exact#[o,(t9.2 t cz).trans ho,r]
 exact X0 (Ya (wpAny_pyNext_list_end hh qo ht₁ (by simp) λh₂ he₂=>(X6 (hQ h₂ λb o hb e=>he₂ b o hb (t9.extBut b o hb (X2 _ e))))))
theorem jzg{s env dk x1 pos t items Q}(hh:A.handled=none)(ht:s.heap.IsList t items)
  (hn:(assignEach dk env).length=items.size) (tz:(assignEach dk env).findIdx? (·.1)=none)
  (h:∀h',Heap.ExtBut s.heap.objs.size s.heap h'->wpAny (model prog w) A (assignInOrder ((assignEach dk env).map (·.2)) items.toList) Q E' {s with heap:=h' }):
  wpAny (model prog w) A (assign (.Tuple dk x1 pos) env (.ref t)) Q E' s:=by
 refine X0 (wpAny_standAt ?_);unfold unpack;rw[hn,tz];exact X0 (Ya (jzr hh ht h))
end
theorem zq K {es k t n pos}(h:PGs X es t)(hc:autoParam (X.calm=true) Ŕ)(hK:autoParam (X.K=K) Ŕ)
  (hn:autoParam ((assignEach es X.env).length=n) Ŕ) (bg:autoParam ((assignEach es X.env).findIdx? (·.1)=none) Ŕ):PG X (.Tuple es k pos) (xvz K n t):=by
 subst hK;rintro a8 s σ H v u Q I r ⟨a,xs,e1,hq,hl,hw⟩;subst e1;cases r;rcases hq with hq|hq
 ·obtain⟨ac,rv,ht,hz⟩:=I.tuple hq;refine assign_Tuple_tuple (I.ok.hd hc) ht (by simp[hn,<-hl,rv.length]) bg λh' hx=>?_
  have I1:L2.Inv X a8 σ H {s with heap:=h' }:=I.kept (t':=s.toks) λb o e=>hx b o (Xk (Xe e)) e
  exact h a8 _ σ H xs _ Q I1 (by simp_all) hw
 ·obtain⟨ac,rv,ht,hz⟩:=I.list hq;refine jzg (I.ok.hd hc) ht.isList (by simp[hn,<-hl,rv.length]) bg λh' hx=>?_
  have I1:L2.Inv X a8 σ H {s with heap:=h' }:=I.kept (t':=s.toks) λb o e=>hx b o (Xk (Xe e)) e
  exact h a8 _ σ H xs _ Q I1 (by simpa using rv) hw
theorem zj{is}(h:PG X e (xvz Z.K is.length (gNs is)))(hp:autoParam (∀i∈is,i∉pn) ŕ):QG X Z pn (.t is) e:=vzf h λv σ H Q hz=>by
 obtain⟨E,L,z,E',m,w,ho,hv,cb,k⟩:=hz;have fin:∀ds,_->setAll is ds E=some E'->xvz Z.K is.length (gNs is) v σ H Q:=λds hd cb=>by
  obtain⟨a,xs,bs,e1,q1,r,h1,h2⟩:=items w.head hd;rw[ho]at r;refine#[a,xs,hv.symm.trans e1,?_,by rw[kq4 cb,r.len],vka m w.tail r (λb hb=>w.apart b (h1 b hb)) (λb hb=>?_) Step.drop Pn.refl cb hp k]
  ·rcases q1 with⟨_,z'⟩|⟨_,z'⟩
   ·exact .inr z'.sq
   ·exact .inl z'
  ·rw[Q3,kxw ho];exact ll9 _ (h1 b hb)
 cases hd:z.d with|tup ds=>rw[hd]at cb;exact fin ds (.inr hd) cb|lst ds=>rw[hd]at cb;exact fin ds (.inl hd) cb|_=>rw[hd]at cb;cases cb
theorem kx0{is q c ea tg pos}(h:QE X Z q c ea)(hg:QG X Z pn (.t is) tg)(hs:autoParam (swapsWithSole [tg] ea pos.line X.env=pure false) Ŕ)(hw:autoParam (swappedStores [tg] ea X.env=pure none) Ŕ)(h1:autoParam ((assignEach [tg] X.env).map (·.2)=[assign tg X.env]) Ŕ):
  QS X Z pn (QQ is c) (.Assign [tg] ea pos):=JY (vz9 h hg hs hw h1) λD σ H ao=>ex7 ao λE L r m w hc k=>
 W3 m w (hc) k λE1 s h1 x L1 H1 e1 e2 m1 w1 st _=>by
  cases hp:Tg.put _ s.2 E1 with
  |none=>rw[hp]at h1;cases h1
  |some E2=>
   rw[hp]at h1;cases oq9 h1;exact#[E1,L1,x.let,E2,m1,(w1.tail.consNo (Jq w1.head) rfl λb hb=>w1.apart b hb),rfl,rfl,by rw[show x.let.d=s.2 from e2];exact hp,fun σ' L' p m' w' s'=>k σ' L' H1 p m' w' ((Kk (x:=x.let) (st.trans Step.drop) (kv0 (x:=x) st) rfl).trans s')]
end
section
variable {X:Cx}{Z:Fx0}{pn:List Nat}{q:Bool}{tg ay:Expr}{it:Ev (List D)}{t:Tg}{B:Sm}{ss:List Stmt}{pos:Pos}{σ:L2.St}{H:Hp}{L:Ls}{E:En}
theorem kqe{K}{T:List Sl}{H1 H2 L1 z}(w:World K H1 (L1++T.map some))(hT:∀t∈T,t.o=.no)(sm:kw H1 H2)(ok:z.ok K H2)(ho:z.o=.no)(hz:∀b∈z.as,∃t∈T,b∈t.as):
  World K H2 ((some z::L1)++T.map some)/\Step H1 (L1++T.map some) H2 ((some z::L1)++T.map some):=by
 have w2:World K H2 _:=#[λx hx=>RepO.kp (w.ok x hx) (Kp.of_same sm),w.nd,w.ds];have hf:∀b∈z.as,b∈k5 (L1++T.map some):=λb hb=>by
  obtain⟨t,ht,hbt⟩:=hz b hb;rw[v5];exact lr9 _ (mem_frozen.mpr #[t,Xy ht,by rw[kxw (hT t ht)];exact hbt])
 refine#[w2.consNo ok ho λb hb hL=>w2.ds b hL (hf b hb),λa ob h _=>sm a ob h,λa ha=>?_,λa ha=>?_]
 ·rw[List.cons_append,v8,qzt ho]at ha;exact .inl ha
 ·rw[List.cons_append,Q3,kxw ho]at ha;rcases aA ha with q|q
  ·exact .inl (hf a q)
  ·exact .inl q
theorem stay{K T L1 L2 H1 H2}(w:World K H1 (L1++T))(s:Step H1 L1 H2 L2)(w2:World K H2 L2):World K H2 (L2++T)/\Step H1 (L1++T) H2 (L2++T):=#[s.frame w w2 w.left,s.frm]
theorem Step.dropT{T H1 L1}:Step H1 (L1++T) H1 L1:=#[λ_ _ h _=>h,λa ha=>.inl (by rw[k9];exact ll9 _ ha),λa ha=>.inl (by rw[v5];exact ll9 _ ha)]
theorem Kp.trans{H H1 H2 as}(a:Kp H H1 as)(b:Kp H1 H2 as):Kp H H2 as:=#[λc xs e=>b.1 c xs (a.1 c xs e),λc o u e=>b.2.1 c o u (a.2.1 c o u e),λc hc ob e=>b.2.2 c hc ob (a.2.2 c hc ob e)]
theorem qq6{K H2 H3 L2 L3}{T:List Sl}(w:World K H2 (L2++T.map some))(hT:∀t∈T,t.o=.no)(s:Step H2 L2 H3 L3){H0}(h:∀t∈T,Kp H0 H2 t.as):∀t∈T,Kp H0 H3 t.as:=λt ht=>
 (h t ht).trans (s.kp w.left λb hb z=>w.ds b (by rw[k9];exact ll9 _ z) (by
  rw[v5];exact lr9 _ (mem_frozen.mpr #[t,Xy ht,by rw[kxw (hT t ht)];exact hb])))
theorem wxa(hp:PassesOwn (model X.prog X.w) X.A X.env X.xe)(hc:X.calm=true)(hi:QID X Z q tg it ay)(hg:QG X Z pn t tg)(hb:QSs X Z pn B ss)(hs:autoParam (∀x,foldedSetIterable ay X.env x=pure x) Ŗ):QS X Z pn (kW it t B) (.For tg ay ss [] pos):=JY (wxp hp hc hi hg hb hs) λD σ H ao=>ex7 ao λE L r m w hr k=>by
 rcases jxr hr with⟨E1,ds,h1,h2⟩|⟨E1,c,h1,rfl⟩
 rotate_left
 ·exact#[E,L,_,m,w,h1,k.xc,λE' s' z=>by cases z]
 refine#[E,L,_,m,w,h1,(λ_ _ z=>by cases z),λE' ds' z J T L' H' m' w' st hz _ wk=>?_];injection z with z1 z2;subst z1 z2;have lc:∀{H2 L2},World Z.K H2 (L2++T.map some)->∀t∈T,t.ok Z.K H2:=λw2 t ht=>w2.ok t (lr9 _ (Xy ht))
 refine#[λi n σ1 H1=>∃E1 L1,Mt E1 σ1 L1/\World Z.K H1 (L1++T.map some)/\Step H L H1 (L1++T.map some)/\Pn pn σ σ1/\KQ t B (ds.drop i) E1=some r/\i<=ds.length/\n=ds.length - i/\∀t∈T,Kp H' H1 t.as,#[_,E1,L',m',w',st,Pn.refl,h2,Y6 _,rfl,λ_ _=>Kp.of_same xQ],?_];rintro i n σ1 H1 ⟨E1,L1,m1,w1,jn,p1,f1,hi,rfl,a8⟩
 by_cases cz:i<ds.length
 ·have hd:ds.drop i=ds[i]::ds.drop _:=List.drop_eq_getElem_cons cz;rw [hd]at f1;unfold KQ at f1;cases cb:t.put ds[i] E1 with
  | none=>rw[cb]at f1;cases f1
  | some E2=>
   rw[cb]at f1;dsimp only at f1;refine .inr #[wk.go i H1 #[lc w1,a8] cz,fun σ2 H2=>∃E2 L2,Mt E2 σ2 L2/\World Z.K H2 _/\Step H L H2 _/\Pn pn σ σ2/\KQ t B _ E2=some r/\∀t∈T,Kp H' H2 t.as,fun σ2 H2 hz=>by obtain⟨E2,L2,a1,a2,a3,a4,a5,a6⟩:=hz;exact#[ds.length - _,by omega,E2,L2,a1,a2,a3,a4,a5,cz,rfl,a6],λv H2 hy=>?_];obtain⟨z,zo,zd,zv,sm,u9,zas⟩:=wk.yld i H1 v H2 ds[i] #[lc w1,a8] hy (X1 cz);obtain⟨wz,sz⟩:=kqe w1 wk.no sm u9 zo zas;refine#[E1,L1,z,E2,m1,wz.left,zo,zv,by rw[zd];exact cb,fun σ2 L2 p2 m2 w2 ca=>?_];obtain⟨w3,dy⟩:=stay wz ca w2;have gy:=jn.trans (sz.trans dy);have ou:=λt ht=>(a8 t ht).trans (Kp.of_same sm)
   cases hB:B E2 with
   | none=>rw[hB]at f1;cases f1
   | some g=>
    rw[hB]at f1;refine#[E2,L2,g,m2,w2,hB,?_];cases g with
    |nx E3=>
     intro σ3 L3 H3 p3 m3 w4 s3;obtain⟨w5,s5⟩:=stay w3 s3 w4;exact#[E3,L3,m3,w5,gy.trans s5,(p1.trans p2).trans p3,f1,qq6 w3 wk.no s3 ou]
    |ct E3=>
     intro σ3 L3 H3 p3 m3 w4 s3;obtain⟨w5,s5⟩:=stay w3 s3 w4;exact#[E3,L3,m3,w5,gy.trans s5,(p1.trans p2).trans p3,f1,qq6 w3 wk.no s3 ou]
    |bk E3=>
     have e:=oq9 f1;subst e;intro σ3 L3 H3 p3 m3 w4 s3;exact k σ3 L3 H3 ((p1.trans p2).trans p3) m3 w4 ((gy.trans Step.dropT).trans s3)
    |rt E3 x=>
     have e:=oq9 f1;subst e;intro y σ3 L3 H3 e1 e2 p3 m3 w4 s3;exact k y σ3 L3 H3 e1 e2 ((p1.trans p2).trans p3) m3 w4 ((gy.trans Step.dropT).trans s3)
    |xc E3 c=>
     have e:=oq9 f1;subst e;intro C σ3 L3 H3 hm p3 m3 w4 s3;exact k C σ3 L3 H3 hm ((p1.trans p2).trans p3) m3 w4 ((gy.trans Step.dropT).trans s3)
 ·have e:i=ds.length:=by omega
  subst e;rw[List.drop_length]at f1;cases oq9 f1;exact .inl #[wk.stop H1 #[lc w1,a8],k σ1 L1 H1 p1 m1 w1.left (jn.trans Step.dropT)]
theorem xv6(hp:PassesOwn (model X.prog X.w) X.A X.env X.xe)(hc:X.calm=true)(hi:QI X Z q tg it ay)(hg:QG X Z pn t tg)(hb:QSs X Z pn B ss)(hs:autoParam (∀x,foldedSetIterable ay X.env x=pure x) Ŗ):QS X Z pn (kW it t B) (.For tg ay ss [] pos):=wxa hp hc hi.D hg hb hs
end
mutual
noncomputable def qz(h:Heap):D->Value->Prop
 |.non,u=>u=.none|.bl b,u=>u=.bool b|.int i,u=>∃t,u=.int i t|.str z,u=>∃t,u=.str z t|.tup ds,u=>∃a us,u=.ref a/\h.IsTuple a us.toArray/\CReps h ds us|.lst ds,u=>∃a us,u=.ref a/\h.IsList a us.toArray/\CReps h ds us|.dct _,_=>False|.obj _ _,_=>False
noncomputable def CReps(h:Heap):List D->List Value->Prop
 |[],us=>us=[]|d::ds,us=>∃u r,us=u::r/\qz h d u/\CReps h ds r
end
theorem qqu{n k}:D.flat n (.dct k)=false:=by cases n<;>simp[D.flat]
theorem qqt{n c k}:D.flat n (.obj c k)=false:=by cases n<;>simp[D.flat]
section
variable {X:Cx}{a8:LA9}{σ:L2.St}{H:Hp}{s:Shared}
mutual
theorem Q8(I:Inv X a8 σ H s){g}:∀{n d v as u},RepL X.K H g d v as->d.flat n=true->RelV v u->qz s.heap d u
 | _,.non,_,_,_,h,_,r=>by
  unfold RepL at h;rw[h.1]at r;exact r
 | _,.bl _,_,_,_,h,_,r=>by
  unfold RepL at h;rw[h.1]at r;exact r
 | _,.int _,_,_,_,h,_,r=>by
  unfold RepL at h;rw[h.1]at r;exact r
 | _,.str _,_,_,_,h,_,r=>by
  unfold RepL at h;rw[h.1]at r;unfold qz;exact r
 | 0,.tup ds,_,_,_,h,f,r=>by cases f
 | n+1,.tup ds,_,_,_,h,f,r=>by
  obtain⟨a,xs,rfl,q,ra⟩:=h;cases r;obtain⟨ac,rv,p,_⟩:=I.tuple q;exact#[a,ac,rfl,p,creps_of I ra f rv]
 | 0,.lst ds,_,_,_,h,f,r=>by cases f
 | n+1,.lst ds,_,_,_,h,f,r=>by
  obtain⟨a,xs,bs,rfl,ra,q⟩:=h;cases r;have q':SqL X.K H a xs:=by
   rcases q with⟨q,_⟩|⟨_,q,_⟩
   ·exact SqL.of q
   ·exact(LsR.of q).sq
  obtain⟨ac,rv,p,_⟩:=I.list q';exact#[a,ac,rfl,p.isList,creps_of I ra f rv]
 |_,.dct _,_,_,_,h,f,r=>by rw[qqu]at f;cases f|_,.obj _ _,_,_,_,h,f,r=>by rw[qqt]at f;cases f
theorem creps_of(I:Inv X a8 σ H s){g}:∀{n ds xs as us},RepA X.K H g ds xs as->D.flats n ds=true->Vals xs us->CReps s.heap ds us
 | _,[],_,_,_,h,_,r=>by
  rw[h.1]at r;cases r;unfold CReps;rfl
 | n,d::ds,_,_,_,h,f,r=>by
  unfold D.flats at f;rw[Bool.and_eq_true]at f;obtain⟨x,rr,bs,cs,rfl,rfl,h1,h2⟩:=h;cases r with
  |cons r1 r2=>
   exact#[_,_,rfl,Q8 I h1 f.1 r1,creps_of I h2 f.2 r2]
end
end
theorem CReps.len{h}:∀{ds us},CReps h ds us->ds.length=us.length
 |[],_,r=>by rw[r];rfl
 |d::ds,_,r=>by
  obtain⟨u,rr,rfl,_,h2⟩:=r;simp[CReps.len h2]
theorem CReps.get{h}:∀{ds us} {j:Nat} {d},CReps h ds us->ds[j]?=some d->∃u,us[j]?=some u/\qz h d u
 | [],_,_,_,_,e=>by simp_all
 | d::ds,_,j,d',r,e=>by
  obtain⟨u,rr,rfl,h1,h2⟩:=r;cases j with
  |zero=>simp_all
  |succ j=>
   obtain _:=CReps.get h2 (by simpa using e)
   simp_all
theorem wjg{h:Heap}{a x y}(p:h.IsTuple a x)(q:h.IsTuple a y):x=y:=by
 obtain⟨o,h1,_,n,h2⟩:=p;obtain⟨o',h3,_,n',h4⟩:=q
 grind
theorem wq2{h:Heap}{a x y}(p:h.IsList a x)(q:h.IsList a y):x=y:=by
 obtain⟨o,h1,_,n,h2⟩:=p;obtain⟨o',h3,_,n',h4⟩:=q
 grind
theorem vjc{h:Heap}{a x y}(p:h.IsList a x)(q:h.IsTuple a y):False:=by
 obtain⟨o,h1,h2,_⟩:=p;obtain⟨o',h3,h4,_⟩:=q
 grind
inductive Cv (h:Heap):D->Value->Prop
 |non:Cv h .non .none
 |bl (b:Bool):Cv h (.bl b) (.bool b)
 |int (i:Int) (t:_):Cv h (.int i) (.int i t)
 |str (z:Str) (t:_):Cv h (.str z) (.str z t)
 |lst {ds:List D} {a:Addr} {us:List Value} (p:h.IsList a us.toArray) (q:CReps h ds us):Cv h (.lst ds) (.ref a)
 |tup {ds:List D} {a:Addr} {us:List Value} (p:h.IsTuple a us.toArray) (q:CReps h ds us):Cv h (.tup ds) (.ref a)
theorem crv{h d u}(r:qz h d u):Cv h d u:=by
 cases d<;>unfold qz at r
 all_goals first|exact r.elim|(subst r;constructor)|(obtain⟨_,rfl⟩:=r;constructor)|(obtain⟨_,_,rfl,p,q⟩:=r;first|exact .lst p q|exact .tup p q)
set_option tactic.hygienic true in
mutual
theorem kj6{h d d' u}(a:qz h d u)(b:qz h d' u):d=d':=by
 cases d<;>cases crv a<;>cases crv b<;>try rfl
 ·exact(vjc ‹_› ‹_›).elim
 ·rename_i p r _ _ r' p';cases Array.mk.inj (wjg p p');rw[creps_inj r r']
 ·rename_i p r _ _ r' p';cases Array.mk.inj (wq2 p p');rw[creps_inj r r']
 ·exact(vjc ‹_› ‹_›).elim
theorem creps_inj{h}:∀{ds ds' us},CReps h ds us->CReps h ds' us->ds=ds'
 | [],ds',us,a,b=>by
  unfold CReps at a;subst a;cases ds' with|nil=>rfl|cons d ds=>unfold CReps at b;obtain⟨_,_,e,_⟩:=b;cases e
 | d::ds,ds',us,a,b=>by
  unfold CReps at a;obtain⟨u,r,rfl,h1,h2⟩:=a;cases ds' with
  |nil=>unfold CReps at b;cases b
  |cons d' ds'=>
   obtain⟨u',r',e,h3,h4⟩:=b;cases e;rw[kj6 h1 h3,creps_inj h2 h4]
end
mutual
theorem WQ:∀{n d},d.flat n=true->peq d d=true
 |_,.non,_=>by rfl|_,.bl b,_=>by unfold peq;simp|_,.int b,_=>by unfold peq;simp|_,.str b,_=>by unfold peq;simp|n+1,.tup ds,f=>peqs_refl f|n+1,.lst ds,f=>peqs_refl f|_,.dct _,f=>by rw[qqu]at f;cases f|_,.obj _ _,f=>by rw[qqt]at f;cases f
theorem peqs_refl:∀{n d},D.flats n d=true->peqs d d=true
 |_,[],_=>by rfl
 |n,d::ds,f=>by
  unfold D.flats at f;rw[Bool.and_eq_true]at f;unfold peqs;rw[WQ f.1,peqs_refl f.2];rfl
end
theorem jxu:∀{n ds} {j:Nat} {d},D.flats n ds=true->ds[j]?=some d->d.flat n=true
 |_,[],_,_,_,e=>by simp_all
 |n,d::ds,j,d',f,e=>by
  unfold D.flats at f;rw[Bool.and_eq_true]at f;cases j with|zero=>simp_all|succ j=>exact jxu f.2 (by simpa using e)
def pAt(as bs:List D)(j:Nat):Bool:=match as[j]?,bs[j]? with
 |some a,some b=>peq a b|_,_=>true
theorem jwo:∀as bs,as.length=bs.length->(List.range as.length).all (pAt as bs)=peqs as bs
 |[],[],_=>by rfl
 |a::as,b::bs,h=>by
  rw[Xm,List.range_succ_eq_map,List.all_cons,List.all_map];unfold peqs;rw[<-(jwo as bs (by simpa using h))];rfl
theorem kj0:∀as bs,as.length≠bs.length->peqs as bs=false
 |[],[],h=>by simp_all
 |a::as,b::bs,h=>by
  unfold peqs;rw[kj0 as bs (by simpa using h),Bool.and_false]
 |[],_::_,_=>by rfl|_::_,[],_=>by rfl
theorem qkn(as bs):((List.range (min as.length bs.length)).all (pAt as bs)&&as.length==bs.length)=peqs as bs:=by
 by_cases e:as.length=bs.length
 ·rw[<-e,Nat.min_self,jwo as bs e];simp[e]
 ·rw[kj0 as bs e]
  grind
section
variable {s:Shared}
theorem qje{as bs us ws A}(ra:CReps s.heap as us)(rb:CReps s.heap bs ws)
  (h:∀(j:Nat) (d d') (u w),as[j]?=some d->bs[j]?=some d'->qz s.heap d u->qz s.heap d' w->SeqAt.EqAt A s u w (peq d d')):
  ∀j h1 (h2:j<ws.toArray.size),SeqAt.EqAt A s us.toArray[j] ws.toArray[j] (pAt as bs j):=λj h1 h2=>by
 have l1:=ra.len;have l2:=rb.len;simp at h1 h2;have ha:j<as.length:=⋯
 have hb:j<bs.length:=⋯
 obtain⟨u,eu,ru⟩:=ra.get (X1 ha);obtain⟨w,ew,ja⟩:=rb.get (X1 hb);have e1:us.toArray[j]=u:=by
  simp_all
 have e2:ws.toArray[j]=w:=by
  simp_all
 have e3:pAt as bs j=peq as[j] bs[j]:=by
  unfold pAt;rw[X1 ha,X1 hb]
 rw[e1,e2,e3];exact h j _ _ u w (X1 ha) (X1 hb) ru ja
set_option tactic.hygienic true in
theorem wwq{A d d' u w}(hu:A.units<cLine)(r:qz s.heap d u)(r':qz s.heap d' w)
  (el:∀as bs (us ws),(d=.lst as\/d=.tup as)->(d'=.lst bs\/d'=.tup bs)->CReps s.heap as us->CReps s.heap bs ws->∀j (h1) (h2:j<ws.toArray.size),SeqAt.EqAt A.in1 s us.toArray[j] ws.toArray[j] (pAt as bs j)):
  SeqAt.RcAt A s u w (peq d d'):=by
 cases crv r<;>cases crv r'<;>unfold peq
 ·exact SeqAt.RcAt.none_none
 ·exact SeqAt.RcAt.none_bool _
 ·exact SeqAt.RcAt.none_int _ _
 ·exact SeqAt.RcAt.none_str _ _
 ·exact SeqAt.RcAt.none_list ‹_› hu
 ·exact SeqAt.RcAt.none_tuple ‹_› hu
 ·exact SeqAt.RcAt.bool_none _
 ·exact SeqAt.RcAt.bool_bool _ _
 ·exact SeqAt.RcAt.bool_int _ _ _
 ·exact SeqAt.RcAt.bool_str _ _ _
 ·exact SeqAt.RcAt.bool_list _ ‹_› hu
 ·exact SeqAt.RcAt.bool_tuple _ ‹_› hu
 ·exact SeqAt.RcAt.int_none _ _
 ·exact SeqAt.RcAt.int_bool _ _ _
 ·exact SeqAt.RcAt.int_int _ _ _ _
 ·exact SeqAt.RcAt.int_str _ _ _ _
 ·exact SeqAt.RcAt.int_list _ _ ‹_› hu
 ·exact SeqAt.RcAt.int_tuple _ _ ‹_› hu
 ·exact SeqAt.RcAt.str_none _ _
 ·exact SeqAt.RcAt.str_bool _ _ _
 ·exact SeqAt.RcAt.str_int _ _ _ _
 ·exact SeqAt.RcAt.str_str _ _ _ _
 ·exact SeqAt.RcAt.str_list _ _ ‹_› hu
 ·exact SeqAt.RcAt.str_tuple _ _ ‹_› hu
 ·exact SeqAt.RcAt.list_none ‹_› hu
 ·exact SeqAt.RcAt.list_bool _ ‹_› hu
 ·exact SeqAt.RcAt.list_int _ _ ‹_› hu
 ·exact SeqAt.RcAt.list_str _ _ ‹_› hu
 ·rename_i as a us p ra bs b ws p' rb;have l1:=ra.len;have l2:=rb.len
  by_cases hl:as.length=bs.length
  ·rw[<-jwo as bs hl];have z:=SeqAt.RcAt.lists (A:=A) (s:=s) (e:=pAt as bs) p p' (by simp only[X8];lia) hu (el as bs us ws (.inl rfl) (.inl rfl) ra rb);rw[X8,<-l1]at z;exact z
  ·rw[kj0 as bs hl];exact SeqAt.RcAt.lists_lengths p p' (by simp only[X8,bne_iff_ne];lia) hu
 ·exact SeqAt.RcAt.list_tuple ‹_› ‹_› hu
 ·exact SeqAt.RcAt.tuple_none ‹_› hu
 ·exact SeqAt.RcAt.tuple_bool _ ‹_› hu
 ·exact SeqAt.RcAt.tuple_int _ _ ‹_› hu
 ·exact SeqAt.RcAt.tuple_str _ _ ‹_› hu
 ·exact SeqAt.RcAt.tuple_list ‹_› ‹_› hu
 ·rename_i as a us p ra bs b ws p' rb;rw[<-qkn as bs];have z:=SeqAt.RcAt.tuples (A:=A) (s:=s) (e:=pAt as bs) p p' hu (el as bs us ws (.inr rfl) (.inr rfl) ra rb);rw[X8,X8,<-ra.len,<-rb.len]at z;exact z
set_option tactic.hygienic true in
theorem xqv{A d d' u w}(hu:A.units<cLine)(r:qz s.heap d u)(r':qz s.heap d' w)
  (el:∀as bs (us ws),(d=.lst as\/d=.tup as)->(d'=.lst bs\/d'=.tup bs)->CReps s.heap as us->CReps s.heap bs ws->∀j (h1) (h2:j<ws.toArray.size),SeqAt.EqAt A.in1 s us.toArray[j] ws.toArray[j] (pAt as bs j)):
  SeqAt.RcNeAt A s u w (!peq d d'):=by
 cases crv r<;>cases crv r'<;>unfold peq
 ·exact SeqAt.RcNeAt.none_none
 ·exact SeqAt.RcNeAt.none_bool _
 ·exact SeqAt.RcNeAt.none_int _ _
 ·exact SeqAt.RcNeAt.none_str _ _
 ·exact SeqAt.RcNeAt.none_list ‹_› hu
 ·exact SeqAt.RcNeAt.none_tuple ‹_› hu
 ·exact SeqAt.RcNeAt.bool_none _
 ·exact SeqAt.RcNeAt.bool_bool _ _
 ·exact SeqAt.RcNeAt.bool_int _ _ _
 ·exact SeqAt.RcNeAt.bool_str _ _ _
 ·exact SeqAt.RcNeAt.bool_list _ ‹_› hu
 ·exact SeqAt.RcNeAt.bool_tuple _ ‹_› hu
 ·exact SeqAt.RcNeAt.int_none _ _
 ·exact SeqAt.RcNeAt.int_bool _ _ _
 ·exact SeqAt.RcNeAt.int_int _ _ _ _
 ·exact SeqAt.RcNeAt.int_str _ _ _ _
 ·exact SeqAt.RcNeAt.int_list _ _ ‹_› hu
 ·exact SeqAt.RcNeAt.int_tuple _ _ ‹_› hu
 ·exact SeqAt.RcNeAt.str_none _ _
 ·exact SeqAt.RcNeAt.str_bool _ _ _
 ·exact SeqAt.RcNeAt.str_int _ _ _ _
 ·exact SeqAt.RcNeAt.str_str _ _ _ _
 ·exact SeqAt.RcNeAt.str_list _ _ ‹_› hu
 ·exact SeqAt.RcNeAt.str_tuple _ _ ‹_› hu
 ·exact SeqAt.RcNeAt.list_none ‹_› hu
 ·exact SeqAt.RcNeAt.list_bool _ ‹_› hu
 ·exact SeqAt.RcNeAt.list_int _ _ ‹_› hu
 ·exact SeqAt.RcNeAt.list_str _ _ ‹_› hu
 ·rename_i as a us p ra bs b ws p' rb;have l1:=ra.len;have l2:=rb.len
  by_cases hl:as.length=bs.length
  ·rw[<-jwo as bs hl];have z:=SeqAt.RcNeAt.lists (A:=A) (s:=s) (e:=pAt as bs) p p' (by simp only[X8];lia) hu (el as bs us ws (.inl rfl) (.inl rfl) ra rb);rw[X8,<-l1]at z;exact z
  ·rw[kj0 as bs hl];exact SeqAt.RcNeAt.lists_lengths p p' (by simp only[X8,bne_iff_ne];lia) hu
 ·exact SeqAt.RcNeAt.list_tuple ‹_› ‹_› hu
 ·exact SeqAt.RcNeAt.tuple_none ‹_› hu
 ·exact SeqAt.RcNeAt.tuple_bool _ ‹_› hu
 ·exact SeqAt.RcNeAt.tuple_int _ _ ‹_› hu
 ·exact SeqAt.RcNeAt.tuple_str _ _ ‹_› hu
 ·exact SeqAt.RcNeAt.tuple_list ‹_› ‹_› hu
 ·rename_i as a us p ra bs b ws p' rb;rw[<-qkn as bs];have z:=SeqAt.RcNeAt.tuples (A:=A) (s:=s) (e:=pAt as bs) p p' hu (el as bs us ws (.inr rfl) (.inr rfl) ra rb);rw[X8,X8,<-ra.len,<-rb.len]at z;exact z
theorem kw7{A a a' b}(ny:Value.ref a=Value.ref a'->b=true)(rc:SeqAt.RcAt A s (.ref a) (.ref a') b):SeqAt.EqAt A s (.ref a) (.ref a') b:=by
 by_cases e:a=a'
 ·subst e;rw[ny rfl];exact SeqAt.EqAt.same _
 ·exact SeqAt.EqAt.of_refs e rc
theorem xw5{A d d' u w}(hu:A.units<cLine)(r:qz s.heap d u)(r':qz s.heap d' w)(ny:u=w->peq d d'=true)(rc:SeqAt.RcAt A s u w (peq d d')):SeqAt.EqAt A s u w (peq d d'):=by
 cases crv r<;>cases crv r'<;>try unfold peq
 ·exact SeqAt.EqAt.same _
 ·exact SeqAt.EqAt.none_bool _
 ·exact SeqAt.EqAt.none_int _ _
 ·exact SeqAt.EqAt.none_str _ _
 ·exact SeqAt.EqAt.none_list ‹_› hu
 ·exact SeqAt.EqAt.none_tuple ‹_› hu
 ·exact SeqAt.EqAt.bool_none _
 ·exact SeqAt.EqAt.bool_bool _ _
 ·exact SeqAt.EqAt.bool_int _ _ _
 ·exact SeqAt.EqAt.bool_str _ _ _
 ·exact SeqAt.EqAt.bool_list _ ‹_› hu
 ·exact SeqAt.EqAt.bool_tuple _ ‹_› hu
 ·exact SeqAt.EqAt.int_none _ _
 ·exact SeqAt.EqAt.int_bool _ _ _
 ·exact SeqAt.EqAt.int_int _ _ _ _
 ·exact SeqAt.EqAt.int_str _ _ _ _
 ·exact SeqAt.EqAt.int_list _ _ ‹_› hu
 ·exact SeqAt.EqAt.int_tuple _ _ ‹_› hu
 ·exact SeqAt.EqAt.str_none _ _
 ·exact SeqAt.EqAt.str_bool _ _ _
 ·exact SeqAt.EqAt.str_int _ _ _ _
 ·exact SeqAt.EqAt.str_str _ _ _ _
 ·exact SeqAt.EqAt.str_list _ _ ‹_› hu
 ·exact SeqAt.EqAt.str_tuple _ _ ‹_› hu
 ·exact SeqAt.EqAt.list_none ‹_› hu
 ·exact SeqAt.EqAt.list_bool _ ‹_› hu
 ·exact SeqAt.EqAt.list_int _ _ ‹_› hu
 ·exact SeqAt.EqAt.list_str _ _ ‹_› hu
 ·exact kw7 ny rc
 ·exact kw7 ny rc
 ·exact SeqAt.EqAt.tuple_none ‹_› hu
 ·exact SeqAt.EqAt.tuple_bool _ ‹_› hu
 ·exact SeqAt.EqAt.tuple_int _ _ ‹_› hu
 ·exact SeqAt.EqAt.tuple_str _ _ ‹_› hu
 ·exact kw7 ny rc
 ·exact kw7 ny rc
theorem Vj:∀n {d d' u w A},d.flat n=true->qz s.heap d u->qz s.heap d' w->A.units+n<cLine->SeqAt.EqAt A s u w (peq d d')
 | n,d,d',u,w,A,f,r,r',hu=>by
  refine xw5 ⋯ r r' (λe=>?_) (wwq ⋯ r r' λas bs us ws h1 h2 ra rb=>?_)
  rotate_left
  ·cases n with
   |zero=>rcases h1 with rfl|rfl<;>(unfold D.flat at f;cases f)
   |succ n=>
    have fs:D.flats n as=true:=by rcases h1 with rfl|rfl<;>(unfold D.flat at f;exact f)
    exact qje ra rb λj d d' u w e1 e2 q1 q2=>Vj n (jxu fs e1) q1 q2 ⋯
  ·subst e;rw[kj6 r' r];exact WQ f
end
section
variable {X:Cx}{Z:Fx0}{K:Frag}
def xx0(K:Frag):R2:=λx y H Q=>∃d d' as bs,RepL K H true d x as/\RepL K H true d' y bs/\d.flat 40=true/\d'.flat 40=true/\Q (.bl (peq d d')) H
def xwv(K:Frag):R2:=λx y H Q=>∃d d' as bs,RepL K H true d x as/\RepL K H true d' y bs/\d.flat 40=true/\d'.flat 40=true/\Q (.bl (!peq d d')) H
theorem wzh(hu:X.A.units+64<cLine)(hK:autoParam (X.K=K) Ŕ):OpR X (compareOp .Eq) (xx0 K):=by
 subst hK;rintro a8 s σ H x y v u Q I rx ry ⟨d,d',as,bs,h1,h2,f1,f2,q⟩;refine wwq ⋯ (Q8 I h1 f1 rx) (Q8 I h2 f2 ry) (λas bs us ws e1 e2 ra rb=>qje ra rb λj d d' u w e3 e4 q1 q2=>?_) _ _ _ _ #[.bl _,H,I,rfl,q];have fs:D.flats 39 as=true:=by rcases e1 with rfl|rfl<;>(unfold D.flat at f1;exact f1)
 exact Vj 39 (jxu fs e3) q1 q2 ⋯
theorem vwa(hu:X.A.units+64<cLine)(hK:autoParam (X.K=K) Ŕ):OpR X (compareOp .NotEq) (xwv K):=by
 subst hK;rintro a8 s σ H x y v u Q I rx ry ⟨d,d',as,bs,h1,h2,f1,f2,q⟩;refine xqv ⋯ (Q8 I h1 f1 rx) (Q8 I h2 f2 ry) (λas bs us ws e1 e2 ra rb=>qje ra rb λj d d' u w e3 e4 q1 q2=>?_) _ _ _ _ #[.bl _,H,I,rfl,q];have fs:D.flats 39 as=true:=by rcases e1 with rfl|rfl<;>(unfold D.flat at f1;exact f1)
 exact Vj 39 (jxu fs e3) q1 q2 ⋯
theorem xkj:Ad2 K (xx0 K) (pu2 fEq):=by
 intro H x y s Q ox oy hf k;unfold pu2 fEq at hf
 by_cases hc:(x.d.flat 40&&y.d.flat 40)=true
 ·rw[Xd hc]at hf;rw[Bool.and_eq_true]at hc;cases oq9 hf;exact#[x.d,y.d,x.as,y.as,RepO.wk ox,RepO.wk oy,hc.1,hc.2,k _ H rfl rfl wK]
 ·simp_all
theorem vxj:Ad2 K (xwv K) (pu2 fNe):=by
 intro H x y s Q ox oy hf k;unfold pu2 fNe at hf
 by_cases hc:(x.d.flat 40&&y.d.flat 40)=true
 ·rw[Xd hc]at hf;rw[Bool.and_eq_true]at hc;cases oq9 hf;exact#[x.d,y.d,x.as,y.as,RepO.wk ox,RepO.wk oy,hc.1,hc.2,k _ H rfl rfl wK]
 ·simp_all
end
mutual
noncomputable def WX:D->Nat
 |.tup xs=>drwDs xs+1|_=>1
noncomputable def drwDs:List D->Nat
 |[]=>0|a::x=>WX a+drwDs x
end
mutual
theorem qql{n:Nat}{d:D}(h:qx n d=true):d.flat n=true:=by
 cases d<;>cases n<;>unfold qx at h<;>first|rfl|(cases h)|skip
 exact keys_flat h
theorem keys_flat{n:Nat}{ds:List D}(h:keyDs n ds=true):D.flats n ds=true:=by
 cases ds<;>unfold keyDs at h<;>unfold D.flats
 ·rfl
 rw[Bool.and_eq_true]at h;rw[qql h.1,keys_flat h.2];rfl
end
mutual
theorem vjq{n m:Nat}{a b:D}(ha:qx n a=true)(hb:qx m b=true):peq a b=decide (a=b):=by
 cases a<;>first|(cases n<;>(unfold qx at ha;cases ha);done)|(cases b<;>first|(cases m<;>(unfold qx at hb;cases hb);done)|(simp[peq];done)|(simp[peq];first|rfl|exact Bool.beq_eq_decide_eq _ _)|skip)
 cases n<;>cases m<;>unfold qx at ha hb<;>first|(cases ha)|(cases hb)|simpa [peq]using keys_peq ha hb
theorem keys_peq{n m:Nat}{a b:List D}(ha:keyDs n a=true)(hb:keyDs m b=true):peqs a b=decide (a=b):=by
 cases a<;>cases b<;>unfold keyDs at ha hb<;>simp[peqs]
 rw[Bool.and_eq_true]at ha hb;rw[vjq ha.1 hb.1,keys_peq ha.2 hb.2]
end
set_option tactic.hygienic true in
theorem vq1{h:Heap}{n:Nat}:∀{ds:List D} {us:List Value},keyDs n ds=true->CReps h ds us->∀u∈us,∃d,qx n d=true/\qz h d u:=by
 intro ds
 induction ds<;>intro us hk r u hu<;>unfold CReps at r
 ·subst r;cases hu
 ·rename_i ih;obtain⟨v,r,rfl,h1,h2⟩:=r;unfold keyDs at hk;rw[Bool.and_eq_true]at hk;rcases aD hu with rfl|hu
  ·exact#[_,hk.1,h1]
  ·exact ih hk.2 h2 u hu
set_option tactic.hygienic true in
theorem wq9{h : Heap}{P : Nat -> Value -> Prop}(b : ∀n u,(u = .none \/ (∃i t,u = .int i t) \/ ∃x t,u = .str x t) -> P n u)(st : ∀n a (us : List Value),h.IsTuple a us.toArray -> (∀u ∈ us,P n u) -> P (n+1) (.ref a)): ∀n {d : D} {u : Value},qx n d = true -> qz h d u -> P n u:= by
  intro n
  induction n <;> intro d u hk hr <;> cases crv hr <;> unfold qx at hk <;> first
    |(cases hk; done)
    |exact b _ _ (.inl rfl)
    |exact b _ _ (.inr (.inl ⟨_,_,rfl⟩))
    |exact b _ _ (.inr (.inr ⟨_,_,rfl⟩))
    |skip
  rename_i ih _ _ _ p q;refine st _ _ _ p λu hu=> ?_
  obtain⟨d,k,r⟩:= vq1 hk q u hu;exact ih k r
section
variable {prog:Program}{w:PySem.World}{A:Around}{E:VP9}{s:Shared}
theorem vwu{Q:Int->Shared->Prop}(h:Q 4238894112 {s with toks:=s.toks+1}):wpAny (model prog w) A (pyHash .none) Q E s:=by
 have ty:s.TypeIs Value.none "NoneType":=rfl;unfold pyHash;refine X0 ?_;refine X6 (X0 (Yy ty F.slot_NoneType_hash.lookup ?_));show wpAny _ _ (callSpecialIfBoundUnlessNone? Value.none "__hash__" _ >>= _) Q E s;refine X0 (wpAny_callSpecialIfBoundUnlessNone?_slot ty F.slot_NoneType_hash (Y3 F.slot_NoneType_hash ty F.entry_NoneType_hash ?_ (F.args_NoneType_hash_1 _)));refine wpAny_ret_mkInt ?_;show wpAny _ _ (if(decide (-(2:Int) ^ 63<=(4238894112:Int))&&decide ((4238894112:Int)<2 ^ 63))=true then _ else _) Q E _;rw[Xd ⋯];exact X6 h
theorem kk8{d:D}:∀ds:List D,hashDs w (ds++[d])=hashDs w ds++[V7 w d]
 |[]=>by simp[hashDs]|a::x=>by rw[List.cons_append,hashDs,kk8 x];rfl
theorem kqk{d:D}:∀ds:List D,drwDs (ds++[d])=drwDs ds+WX d
 |[]=>by simp[drwDs]|a::x=>by rw[List.cons_append,drwDs,drwDs,kqk x];lia
set_option tactic.hygienic true in
theorem xji:∀(n:Nat) {d:D} {u:Value} {A:Around} {s:Shared} {Q:Int->Shared->Prop},qx n d=true->qz s.heap d u->A.units+4*n<cLine->Q (V7 w d) {s with toks:=s.toks+WX d}->wpAny (model prog w) A (pyHash u) Q E s:=by
 intro n
 induction n<;>intro d u A s Q hk hr hu h<;>cases crv hr<;>unfold qx at hk<;>first|(cases hk;done)|((with_reducible refine vwu ?_);exact h)|((with_reducible refine wpAny_pyHash_int ?_);exact h)|((with_reducible refine wpAny_pyHash_str ?_);exact h)|skip
 rename_i n ih ds a us ht hi;have ty:=ht.typeIs;obtain⟨ob,vn,dv,nn,sk⟩:=ht;unfold pyHash;unfold pyHashByItsType;refine X0 (wpAny_cRoomFor_or (.inr ⋯) ?_);refine X0 (Yy ty F.slot_tuple_hash.lookup ?_);show wpAny _ _ (if(some (Value.builtin "tuple.__hash__")==some Value.none)=true then _ else _) Q E s;rw [Xi (show ¬(some (Value.builtin "tuple.__hash__")==some Value.none)=true by rw[beq_builtin_none];exact Bool.false_ne_true)];refine X0 (Yy ty F.slot_tuple_hash.lookup ?_);show wpAny _ _ (callSpecialIfBoundUnlessNone? (Value.ref a) "__hash__" _ >>= _) Q E s;refine X0 (wpAny_callSpecialIfBoundUnlessNone?_slot ty F.slot_tuple_hash (Y3 F.slot_tuple_hash ty F.entry_tuple_hash ?_ (F.args_tuple_hash_1 _)));show wpAny _ _ (Builtin.Tuple.tupleItemsOf (Value.ref a) >>= _) _ _ s;refine X0 (wpAny_tupleItemsOf vn sk ?_);refine X0 ?_;rw [<-Array.forIn_toList];refine wpAny_forIn_list _ (λab (b:Array Int) s'=>∃pre post,ds=pre++post/\keyDs n post=true/\CReps s.heap post ab/\b.toList=hashDs w pre/\s'={s with toks:=s.toks+drwDs pre}) _ ?_ ?_ _ _ #[[],ds,rfl,hk,hi,rfl,rfl]
 ·rintro x ab b s' ⟨pre,post,rfl,mx,hl,hb,rfl⟩;cases post with
  | nil=>unfold CReps at hl;cases hl
  | cons d post=>
   unfold CReps at hl;obtain⟨u1,r1,e1,h1,h2⟩:=hl;injection e1 with e1 e2;subst e1 e2;unfold keyDs at mx;rw[Bool.and_eq_true]at mx;have ru:A.in1.units+4*n<cLine:=by show A.units+1+4*n<cLine;lia
   have fin:∃p q,pre++d::post=p++q/\keyDs n q=true/\CReps s.heap q ab/\(b.push (V7 w d)).toList=hashDs w p/\({s with toks:=s.toks+drwDs pre+WX d}:Shared)={s with toks:=s.toks+drwDs p}:=
    #[pre++[d],post,by simp,mx.2,h2,by rw[kk8,<-hb];simp,by rw[kqk,Nat.add_assoc]]
   refine X0 (ih mx.1 h1 ru ?_)
   first
    |exact X6 fin
    |exact X0 (X6 (X6 fin))
 ·rintro b s' ⟨pre,post,rfl,mx,hl,hb,rfl⟩;have:post=[]:=by
   cases post with|nil=>rfl|cons d post=>unfold CReps at hl;obtain⟨_,_,z,_⟩:=hl;cases z
  subst this;rw[Xs]at h;show wpAny _ _ (retInt (Builtin.Tuple.tupleHashOf b.toList)) _ _ _;rw[hb];refine wpAny_ret_mkInt ?_;generalize hv:Builtin.Tuple.tupleHashOf (hashDs w pre)=v;have h:Q (reduceHash v) {s with toks:=s.toks+drwDs pre+1}:=by rw[<-hv];unfold V7 WX at h;rw[Nat.add_assoc];exact h
  show wpAny _ _ (if(decide (-(2:Int) ^ 63<=v)&&decide (v<2 ^ 63))=true then _ else _) Q E _;unfold reduceHash at h
  by_cases hq:(decide (-(2:Int) ^ 63<=v)&&decide (v<2 ^ 63))=true
  ·rw[Xd hq]at h ⊢;exact X6 h
  ·rw[Xi hq]at h ⊢;exact X0 (Zm (X6 h))
theorem wjz(n m:Nat){d:D}{u:Value}{A:Around}{s:Shared}{Q:Bool->Shared->Prop}(hm:n<=m)(hk:qx n d=true)(hr:qz s.heap d u)(h:Q true s):wpAny (model prog w) A (eqIsQuiet m u) Q E s:=by
 refine wq9 (P:=λn u=>∀m (Q:Bool->Shared->Prop),n<=m->Q true s->wpAny (model prog w) A (eqIsQuiet m u) Q E s) ?_ (λn a us ht hi m Q hm h=>?_) n hk hr m Q hm h
 ·rintro n u (rfl|⟨i,t,rfl⟩|⟨i,t,rfl⟩) m Q _ h<;>(rw[eqIsQuiet_byValue m rfl];exact X6 h)
 have ty:=ht.typeIs;obtain⟨ob,vn,dv,nn,sk⟩:=ht;cases m
 ·lia
 unfold eqIsQuiet;refine X0 (Yy ty F.slot_tuple_eq.lookup ?_);show wpAny _ _ (isInstance (Value.ref a) (.type "tuple") >>= _) _ _ s;refine X0 (wpAny_isInstance ty isSubtype_tuple_tuple ?_);simp only[Bool.not_true,Bool.false_eq_true,if_false];refine X0 (Zk vn sk (X0 ?_));show wpAny _ _ (forIn us.toArray _ _) _ _ s;rw[<-Array.forIn_toList];refine wpAny_forIn_list _ (λab r s'=>r.1=none/\s'=s/\∀u∈ab,u∈us) _ ?_ ?_ _ _ #[rfl,rfl,λ_ h=>h]
 ·rintro v ab r s' ⟨hr,rfl,hu⟩;refine X0 (hi v (hu v X5) _ _ ⋯ ?_);simp only[Bool.not_true,Bool.false_eq_true,if_false];exact X6 #[rfl,rfl,λu h=>hu u (lc9 _ h)]
 ·rintro ⟨r1,r2⟩ s' ⟨hz,rfl,_⟩;cases hz;exact X6 h
end
mutual
theorem kzb{h h':Heap}(et:∀b ob us n,h.get? b=some ob->ob.cls=.type "tuple"->ob.data=.seq us n->h'.get? b=some ob){n:Nat}{d:D}{u:Value}(hk:qx n d=true)(r:qz h d u):qz h' d u:=by
 cases d<;>cases n<;>unfold qx at hk<;>unfold qz at r ⊢<;>first|exact r|(cases hk;done)|skip
 obtain⟨a,us,e,⟨ob,vn,hc,nn,sk⟩,hi⟩:=r;exact#[a,us,e,#[ob,et a ob _ _ vn hc sk,hc,nn,sk],creps_keep et hk hi]
theorem creps_keep{h h':Heap}(et:∀b ob us n,h.get? b=some ob->ob.cls=.type "tuple"->ob.data=.seq us n->h'.get? b=some ob){n:Nat}{ds:List D}{us:List Value}(hk:keyDs n ds=true)(r:CReps h ds us):CReps h' ds us:=by
 cases ds<;>unfold CReps at r ⊢
 ·exact r
 unfold keyDs at hk;rw[Bool.and_eq_true]at hk;obtain⟨u,rr,e,h1,h2⟩:=r;exact#[u,rr,e,kzb et hk.1 h1,creps_keep et hk.2 h2]
end
noncomputable def kwm(prog:Program)(w:PySem.World):HeapKind prog w Kd where
 is:=λh k a=>qz h k.1 (.ref a)
 hash:=λk=>V7 w k.1
 draws:=λk=>WX k.1
 room:=λA=>A.units+40<cLine
 inj:=λhx hy=>Subtype.ext (kj6 hx hy)
 keeps:=fun {h h' k a d o es ep} x ho hd hs=>kzb (λb ob us n e _ z=>(hs.2 b (by rintro rfl;rw[ho]at e;cases e;rw[hd]at z;cases z)).trans e) k.2 x
 pyHash:=fun {A E s k a Q} hu hk h=>xji 6 k.2 hk (Nat.lt_of_le_of_lt (Nat.add_le_add_left ⋯ _) hu) h
 eqBool:=fun {A E s x y a b Q} hu hx hy h=>by
  have e:peq x.1 y.1=decide (x=y):=by
   rw[vjq x.2 y.2]
   by_cases z:x=y
   ·rw[Xb z,Xb (congrArg Subtype.val z)]
   ·rw[Xl z,Xl λq=>z (Subtype.ext q)]
  have:=Vj (s:=s) 6 (A:=A) (qql x.2) hx hy (Nat.lt_of_le_of_lt (Nat.add_le_add_left ⋯ _) hu);rw[e]at this;exact this prog w E Q h
 quiet:=fun {A E s k a Q} hk h=>wjz 6 8 ⋯ k.2 hk h
abbrev Sl.sd(x:Sl):Sd:=(x.o,x.d)
noncomputable def tA(Z:Fx0)(q:Bool)(cs:List Ex):TA:=fun σ H Q=>∃E L r,Mt E σ L/\World Z.K H L/\vY cs E=some r/\Xc Z σ H L r /\
 ∀E' ys,r=.ok E' ys->∀(xs:List Sl) L' H',xs.map Sl.sd=ys->Mt E' σ L'->World Z.K H' (xs.map some++L')->Step H L H' (xs.map some++L')->(q=true->kw H H'/\∀b∈jw (xs.map some),H b=none)->Q (xs.map Sl.v) H'
def QA(X:Cx)(Z:Fx0)(q:Bool)(cs:List Ex)(es:List Expr):Prop:=PA X es (tA Z q cs)
theorem kx6{X es t t'}(h:PA X es t)(w:∀ σ H Q,t' σ H Q->t σ H Q):PA X es t':=λpos a8 s σ H Q I q=>h pos a8 s σ H Q I (w σ H Q q)
section
variable {X:Cx}{Z:Fx0}{pn:List Nat}{q:Bool}{c:Ex}{cs:List Ex}{e:Expr}{es:List Expr}{pos:Pos}{σ:L2.St}{H:Hp}{L:Ls}{E:En}
theorem jk:QA X Z true [] []:=kx6 wQ fun σ H Q ao=>ex8 ao λE L r m w hc xc k=>by
 cases oq9 hc;exact k _ _ rfl [] L H rfl m w Step.refl λ_=>#[λ_ _ z=>z,λ_ z=>(nomatch z)]
theorem j5(h:QE X Z q c e)(hs:QA X Z q cs es)(bg:autoParam (Abs e es X) Ŕ):QA X Z q (c::cs) (e::es):=
 kx6 (vZ h hs bg) fun σ H Q ao=>ex8 ao λE L r m w hc xc k=>by
  refine Vx m w (hc) xc λE1 s h1 x L1 H1 e1 e2 m1 w1 st sm=>?_
  rcases wx h1 with⟨E2,ys,h2,h3⟩|⟨E2,cc,h2,h3⟩
  ·cases oq9 h3;refine#[E1,L1,_,m1,w1.tail,h2,(λ_ _ z=>by cases z),λE' ys' z xs L2 H2 e3 m2 w2 ca dl=>?_];injection z with z1 z2;subst z1 z2;obtain⟨w3,dy⟩:=xq2 (T:=[some x]) w1 ca w2;refine k _ _ rfl (x::xs) L2 H2 (by rw[List.map_cons,e3];simp[Sl.sd,e1,e2]) m2 w3 (st.trans dy) λhq=>?_
   obtain⟨a1,a2⟩:=sm hq;obtain⟨b1,b2⟩:=dl hq;refine#[kK a1 b1,λb hb=>?_];rcases aA hb with z|z
   ·exact a2 b z
   ·exact Jj a1 (b2 b z)
  ·exact#[E1,L1,_,m1,w1.tail,h2,(xc.step (st.trans Step.drop)).map h3,λE' s' z=>by cases z]
end
section
variable {X:Cx}{Z:Fx0}{q:Bool}{cs:List Ex}{es:List Expr}{pos:Pos}{σ:L2.St}{H:Hp}{L:Ls}{E:En}{α:Type}
theorem kkh:∀{cs E E' ys},vY cs E=some (.ok E' ys)->ys.length=cs.length
 | [],E,E',ys,h=>by cases oq9 h;rfl
 | c::cs,E,E',ys,h=>by
  rcases wx (h)with⟨E1,x,h1,h2⟩|⟨_,_,_,z⟩
  ·rcases wx h2 with⟨E2,xs,h3,h4⟩|⟨_,_,_,z⟩
   ·cases oq9 h4;rw[Xm,Xm,kkh h3]
   ·cases z
  ·cases z
theorem vxm{F}{r:Res α}{G}(m:Mt E σ L)(w:World Z.K H L)(h:bnd (vY cs E) F=some r)(xc:Xc Z σ H L r)
  (k:∀E1 ys,F E1 ys=some r->ys.length=cs.length->∀(xs:List Sl) L1 H1,xs.map Sl.sd=ys->Mt E1 σ L1->World Z.K H1 (xs.map some++L1)->Step H L H1 (xs.map some++L1)->(q=true->kw H H1/\∀b∈jw (xs.map some),H b=none)->G (xs.map Sl.v) H1):tA Z q cs σ H G:=by
 rcases wx h with⟨E1,s,h1,h2⟩|⟨E1,c,h1,h2⟩
 ·exact#[E,L,_,m,w,h1,(λ_ _ z=>by cases z),λE' s' z xs L' H' e1 m' w' st sm=>by
   injection z with z1 z2;subst z1 z2;exact k _ _ h2 (kkh h1) xs L' H' e1 m' w' st sm]
 ·exact#[E,L,_,m,w,h1,xc.map h2,λE' s' z=>by cases z]
theorem jzd{K H}(g):∀{xs:List Sl},(∀x∈xs,x.ok K H)->(g=false->∀x∈xs,zK x.sd=true)->∃bs,RepA K H g (xs.map Sl.d) (xs.map Sl.v) bs/\(∀b∈bs,∃x∈xs,b∈x.as)/\(g=false->bs=jw (xs.map some))/\(g=true->bs=xs.flatMap Sl.as)
 | [],_,_=>#[[],#[rfl,rfl],λ_ h=>(nomatch h),λ_=>rfl,λ_=>rfl]
 | x :: xs,h,ht=>by
  obtain⟨bs,r,hb,ho,hg⟩:=jzd g (λy hy=>h y (lc9 _ hy)) λhg y hy=>ht hg y (lc9 _ hy)
  have hx:=h x X5;have iw:∃cs,RepL K H g x.d x.v cs/\(∀b∈cs,b∈x.as)/\(g=false->cs=x.own)/\(g=true->cs=x.as):=by
   cases g with
   | true=>exact#[x.as,RepO.wk hx,λb hb=>hb,(λz=>by cases z),λ_=>rfl]
   | false=>
    by_cases ho:x.o=.dp
    ·refine#[x.as,?_,λb hb=>hb,λ_=>?_,λz=>by cases z]
     ·have:=hx;unfold Sl.ok at this;rw[ho]at this;exact this
     ·unfold Sl.own;rw[ho]
    ·have hp:x.d.pure=true:=by
      rcases Bool.or_eq_true_iff.mp (ht rfl x X5)with z|z
      ·simp_all
      ·exact z
     obtain⟨z,rp⟩:=RepL.pu (g':=false) (RepO.wk hx) hp;exact#[[],rp,λ_ h=>(nomatch h),λ_=>(wkr z).symm,λz=>by cases z]
  obtain⟨cs,r1,h1,h2,h3⟩:=iw;refine#[cs++bs,?_,λb ft=>?_,λwg=>?_,λwg=>?_]
  ·exact#[x.v,xs.map Sl.v,cs,bs,rfl,rfl,r1,r]
  ·rcases aA ft with z|z
   ·exact#[x,X5,h1 b z]
   ·simp_all
  ·rw[List.map_cons,v8,h2 wg,ho wg]
  ·rw[List.flatMap_cons,h3 wg,hg wg]
theorem vjb{K H H' d}{o:Own}{v ps}{xs:List Sl}{L}(w:World K H (xs.map some++L))(out:∀bs,RepA K H true (xs.map Sl.d) (xs.map Sl.v) bs->Out K H H' #[o,d,v,ps++bs] bs):
  ∃bs,World K H' (some #[o,d,v,ps++bs]::L)/\Step H (xs.map some++L) H' (some #[o,d,v,ps++bs]::L):=by
 obtain⟨bs,r,hb,_,_⟩:=jzd true (λx hx=>w.ok x (ll9 _ (Xy hx))) (λz=>by cases z);have ap:∀b∈bs,b∉jw L:=λb ft hL=>by
  obtain⟨x,hx,lj⟩:=hb b ft;rcases Sl.as_of lj with z|z
  ·have nd:=w.nd;rw[k9,Xh]at nd;exact nd.2.2 b (mem_owned.mpr #[x,Xy hx,z]) b hL rfl
  ·exact w.ds b (by rw[k9];exact lr9 _ hL) (by rw[v5];exact ll9 _ (mem_frozen.mpr #[x,Xy hx,z]))
 have al:∀b∈bs,H b≠none:=λb ft=>by
  obtain⟨x,hx,lj⟩:=hb b ft;exact(w.ok x (ll9 _ (Xy hx))).some lj
 have sr:Src H (xs.map some++L) bs:=λb ft=>by
  obtain⟨x,hx,lj⟩:=hb b ft;rcases Sl.as_of lj with z|z
  ·exact .inr (.inl (by rw[k9];exact ll9 _ (mem_owned.mpr #[x,Xy hx,z])))
  ·exact .inl (by rw[v5];exact ll9 _ (mem_frozen.mpr #[x,Xy hx,z]))
 have st:Step H (xs.map some++L) H L:=#[λ_ _ h _=>h,λa ha=>.inl (by rw[k9];exact lr9 _ ha),λa ha=>.inl (by rw[v5];exact lr9 _ ha)];exact#[bs,Kz (Z:=#[K,λ_=>none,λ_ _ _=>True]) w.right st (out bs r) ap al sr]
theorem vwi{K H p}{xs:List Sl}{L}(w:World K H (xs.map some++L))(hp:H p=none):
  ∃bs,World K (upd H p (.lst (xs.map Sl.v))) (some #[.rt,.lst (xs.map Sl.d),.ref p,p::bs]::L)/\Step H (xs.map some++L) (upd H p (.lst (xs.map Sl.v))) (some #[.rt,.lst (xs.map Sl.d),.ref p,p::bs]::L):=
 vjb (ps:=[p]) w λ_ r=>K6 hp r λ_ h=>h
theorem vwh{K H p}{xs:List Sl}{L}(w:World K H (xs.map some++L))(hp:H p=none):
  ∃bs,World K (upd H p (.tup (xs.map Sl.v))) (some #[.no,.tup (xs.map Sl.d),.ref p,bs]::L)/\Step H (xs.map some++L) (upd H p (.tup (xs.map Sl.v))) (some #[.no,.tup (xs.map Sl.d),.ref p,bs]::L):=
 vjb (ps:=[]) w λ_ r=>kjq hp r λ_ h=>h
theorem vja{K H H'}{xs:List Sl}{L d v ps}(w:World K H (xs.map some++L))(ht:∀x∈xs,zK x.sd=true)(hp:∀b∈ps,H b=none)(nd:ps.Nodup)(sm:kw H H')
  (rep:∀bs,RepA K H false (xs.map Sl.d) (xs.map Sl.v) bs->RepL K H' false d v (ps++bs)):
  World K H' (some #[.dp,d,v,ps++jw (xs.map some)]::L)/\Step H (xs.map some++L) H' (some #[.dp,d,v,ps++jw (xs.map some)]::L):=by
 obtain⟨bs,r,hb,ho,_⟩:=jzd false (λx hx=>w.ok x (ll9 _ (Xy hx))) (λ_=>ht);have e:=ho rfl;subst e;have w2:World K H' _:=#[λx hx=>RepO.kp (w.ok x hx) (Kp.of_same sm),w.nd,w.ds];have ndx:=w.nd;rw[k9,Xh]at ndx;have al:∀b∈jw _,H b≠none:=λb hb=>w.own_some (by rw[k9];exact ll9 _ hb)
 refine#[w2.right.cons (rep _ r) ?_ (λa ha hL=>?_) (λa ha hf=>?_) (λa ha=>(nomatch ha)) (λa ha=>λz=>(nomatch z)),#[λa ob h _=>sm a ob h,λa ha=>?_,λa ha=>?_]]
 ·show(ps++jw _).Nodup;rw[Xh];exact#[nd,ndx.1,λa ha b hb e=>by subst e;exact al a hb (hp a ha)]
 ·rcases aA (ha)with z|z
  ·exact w.own_some (by rw[k9];exact lr9 _ hL) (hp a z)
  ·exact ndx.2.2 a z a hL rfl
 ·rcases aA (ha)with z|z
  ·exact w.frz_some (by rw[v5];exact lr9 _ hf) (hp a z)
  ·exact w.ds a (by rw[k9];exact ll9 _ z) (by rw[v5];exact lr9 _ hf)
 ·rw[v8]at ha;rcases aA ha with z|z
  ·rcases aA (z)with y|y
   ·exact .inr (hp a y)
   ·exact .inl (by rw[k9];exact ll9 _ y)
  ·simp_all
 ·exact .inl (by rw[v5];exact lr9 _ ha)
theorem xkw{xs:List Sl}{ys}(h:xs.map Sl.sd=ys):xs.map Sl.d=ys.map (·.2):=by rw[<-h,Xj];rfl
theorem qku{xs:List Sl}{ys}(h:xs.map Sl.sd=ys)(ht:ys.all zK=true):∀x∈xs,zK x.sd=true:=λx hx=>by
 rw[<-h,List.all_map,Z7]at ht;exact ht x hx
theorem qqf{o}{xs:List Sl}{ys E' r L' H1}{Q:VK}{Hq Lq}(h:mkL o E' ys=some r)(e:xs.map Sl.sd=ys)(w:World Z.K H1 (xs.map some++L'))(st:Step Hq Lq H1 (xs.map some++L'))(sm:q=true->kw Hq H1/\∀b∈jw (xs.map some),Hq b=none)
  (k:∀E'' a,r=.ok E'' a->∀x L'' H',x.o=a.1->x.d=a.2->Mt E'' σ L''->World Z.K H' (some x::L'')->Step Hq Lq H' (some x::L'')->(q=true->kw Hq H'/\∀b∈x.own,Hq b=none)->Q x.v H') (m:Mt E' σ L'):
  ∀ p,H1 p=none->Q (.ref p) (upd H1 p (.lst (xs.map Sl.v))):=by
 intro p hp;unfold mkL at h
 by_cases ho:o=.dp
 ·rw[Xd ho]at h
  by_cases ht:ys.all zK=true
  ·rw[Xd ht]at h;cases oq9 h;obtain⟨w2,s2⟩:=vja (d:=.lst _) w (qku e ht) (λb hb=>by rw[aC hb];exact hp) (by simp) (x5 hp) (λbs r=>by
    exact#[p,_,bs,rfl,r.kp (Kp.of_same (x5 hp)),.inl #[wW,rfl]])
   refine k _ _ rfl _ L' _ rfl (by rw[xkw e]) m w2 (st.trans s2) λhq=>#[kK (sm hq).1 (x5 hp),λb hb=>?_]
   rcases aA (hb)with z|z
   ·rw[aC z];exact Jj (sm hq).1 hp
   ·exact(sm hq).2 b z
  ·simp_all
 ·rw[Xi ho]at h;cases oq9 h;obtain⟨bs,w2,s2⟩:=vwi w hp;refine k _ _ rfl _ L' _ rfl (by rw[xkw e]) m w2 (st.trans s2) λhq=>#[kK (sm hq).1 (x5 hp),λb hb=>?_]
  have:b=p:=by simpa [Sl.own]using hb
  rw[this];exact Jj (sm hq).1 hp
theorem wwc{xs:List Sl}{ys n}(h:xs.map Sl.sd=ys)(hl:ys.length=n)(hz:n<=1000):(xs.map Sl.v).length<=sizeLine:=by
 have:xs.length=n:=by rw[<-hl,<-h,X3]
 rw[X3,this];exact Ye hz ⋯
theorem ww{o}(h:QA X Z q cs es)(hz:autoParam (cs.length<=1000) ŕ):QE X Z q (kq o cs) (.List es pos):=q9 (wz3 h) fun σ H Q ao=>ex8 ao λE L r m w hc xc k=>
 vxm m w (hc) xc λE1 ys h1 hl xs L1 H1 e1 m1 w1 st sm=>#[wwc e1 hl hz,qqf (E':=E1) (h1) e1 w1 st sm k m1]
theorem qk{o x1}(h:QA X Z q cs es)(hz:autoParam (cs.length<=1000) ŕ):QE X Z q (kY o cs) (.Tuple es x1 pos):=q9 (wxy h) fun σ H Q ao=>ex8 ao λE L r m w hc xc k=>
 vxm m w (hc) xc λE1 ys h1 hl xs L1 H1 e1 m1 w1 st sm=>#[wwc e1 hl hz,λp hp=>by
  by_cases ho:o=.dp
  ·rw[Xd ho]at h1
   by_cases ht:ys.all zK=true
   ·rw[Xd ht]at h1;cases oq9 h1;obtain⟨w2,s2⟩:=vja (d:=.tup _) (ps:=[]) w1 (qku e1 ht) (λb hb=>(nomatch hb)) (by simp) (x5 hp) (λbs r=>by
     exact#[p,_,rfl,SqT.of wW,r.kp (Kp.of_same (x5 hp))])
    exact k _ _ rfl _ L1 _ rfl (by rw[xkw e1]) m1 w2 (st.trans s2) λhq=>#[kK (sm hq).1 (x5 hp),λb hb=>(sm hq).2 b hb]
   ·simp_all
  ·rw[Xi ho]at h1;cases oq9 h1;obtain⟨bs,w2,s2⟩:=vwh w1 hp;exact k _ _ rfl _ L1 _ rfl (by rw[xkw e1]) m1 w2 (st.trans s2) λhq=>#[kK (sm hq).1 (x5 hp),λb hb=>(nomatch hb)]]
end
noncomputable def spF(K:Frag)(mg:Str->Option Value)(n:Nat)(f:Fn):Sp:=λvs H Q E=>∃(xs:List Sl) (r:Res Sd),vs=xs.map Sl.v/\xs.length=n/\World K H (xs.map some)/\f (xs.map Sl.sd)=some r /\
 (∀E' c,r=.exc E' c->∀C H',mg c=some (.ref C)->Step H (xs.map some) H' []->E (.ref C) none H') /\
 ∀E' a,r=.ok E' a->∀(x:Sl) H',x.o=a.1->x.d=a.2->World K H' [some x]->Step H (xs.map some) H' [some x]->Q x.v H'
theorem qj1{K mg n f}{ps:List Str}(hn:ps.length=n):∀vs H Q E,spF K mg n f vs H Q E->vs.length=ps.length:=λvs H Q E hz=>by obtain⟨xs,r,e,hl,_⟩:=hz;rw[e,X3,hl,hn]
theorem kvw:∀(xs:List Sl) (k),Mt (xs.map (λx=>some x.sd)++List.replicate k none) (xs.map (λx=>some x.v)++List.replicate k none) (xs.map some++List.replicate k none)
 |[],0=>.nil
 |[],k+1=>by
  exact .un (kvw [] k)
 |x::xs,k=>.cons (kvw xs k)
theorem vkg{X K mg N n nn B body H vs Q E}(hN:N.length=nn)(t:QSs X #[K,mg,E] [] B body)(h:spF K mg n (fn nn B) vs H Q E):
  ∃t,PSs X body t/\t {nx:=λ_ H'=>Q .non H',rt:=Q} (L2.start N vs) H:=by
 refine#[_,t,?_];obtain⟨xs,r,rfl,hl,w,hf,hx,hk⟩:=h;unfold fn at hf;rw[X3,Xj]at hf;have e1:L2.start N (xs.map Sl.v)=xs.map (λx=>some x.v)++List.replicate (nn - xs.length) none:=by
  unfold L2.start;rw[Xj,X3,hN];rfl
 have wL:World K H (xs.map some++List.replicate (nn - xs.length) none):=w.same (by simp);have sL:Step H (xs.map some) H (xs.map some++List.replicate (nn - xs.length) none):=Step.refl.same (List.Perm.refl _) (by simp);cases hB:B _ with
 | none=>rw[show(some∘Sl.sd)=(λx:Sl=>some x.sd)from rfl,hB]at hf;cases hf
 | some g=>
  rw[show(some∘Sl.sd)=(λx:Sl=>some x.sd)from rfl,hB]at hf;refine#[_,_,g,e1▸(kvw xs _),wL,hB,?_];cases g with
  |nx E1=>
   cases oq9 hf;intro σ' L' H' _ m' w' s';exact hk _ _ rfl _ H' rfl rfl (World.consPu (x:=#[.dp,.non,.non,[]]) #[λ_ z=>(nomatch z),Xr,λ_ z=>(nomatch z)] (show RepL K H' false .non .non []from qxt) rfl) (Kk ((sL.trans s').sub (by simp)) (λb hb=>(nomatch hb)) rfl)
  |rt E1 a=>
   cases oq9 hf;intro x σ' L' H' e2 e3 _ m' w' s';exact hk _ _ rfl x H' e2 e3 (w'.sub (by simp)) ((sL.trans s').sub (by simp))
  |xc E1 c=>
   cases oq9 hf;intro C σ' L' H' hm _ m' w' s';exact hx _ _ rfl C H' hm ((sL.trans s').sub (by simp))
  |ct E1=>cases hf|bk E1=>cases hf
section
variable {X:Cx}{Z:Fx0}{q:Bool}{cs:List Ex}{e:Expr}{es:List Expr}{pos p:Pos}{x:Str}{ps:List Str}{k n:Nat}{f:Fn}
theorem K4:∀xs:List Sl,jw ((xs.map Sl.let).map some)=[]
 |[]=>rfl|x::xs=>by rw[List.map_cons,List.map_cons,v8,K4 xs];rfl
theorem jxd:∀xs:List Sl,k5 ((xs.map Sl.let).map some)=xs.flatMap Sl.as
 |[]=>rfl|x::xs=>by rw[List.map_cons,List.map_cons,Q3,jxd xs];rfl
theorem vje(xs:List Sl):(xs.map Sl.let).map Sl.sd=letAll (xs.map Sl.sd):=by
 unfold letAll;rw[Xj,Xj];rfl
theorem kq1{K H}{xs:List Sl}{L}(w:World K H (xs.map some++L)):World K H ((xs.map Sl.let).map some++L)/\Step H (xs.map some++L) H ((xs.map Sl.let).map some++L):=by
 have nd:=w.nd;rw[k9,Xh]at nd;have cl:∀a∈xs.flatMap Sl.as,a∈jw _\/a∈k5 _:=λa ha=>by
  obtain⟨x,hx,hax⟩:=List.mem_flatMap.mp ha;exact(Sl.as_of hax).imp (λz=>mem_owned.mpr #[x,Xy hx,z]) λz=>mem_frozen.mpr #[x,Xy hx,z]
 refine#[#[λx hx=>?_,by rw[k9,K4];exact nd.2.1,λa ha hf=>?_],λ_ _ h _=>h,λa ha=>?_,λa ha=>?_]
 ·rcases aA hx with hx|hx
  ·obtain⟨y,hy,e⟩:=aE hx;cases e;obtain⟨z,hz,rfl⟩:=aE hy;exact Jq (w.ok z (ll9 _ (Xy hz)))
  ·exact w.ok x (lr9 _ hx)
 ·rw[k9,K4]at ha;rw[v5,jxd]at hf;rcases aA hf with z|z
  ·rcases cl a z with z|z
   ·exact nd.2.2 a z a ha rfl
   ·exact w.ds a (by simp_all) (by simp_all)
  ·exact w.ds a (by simp_all) (by simp_all)
 ·rw[k9,K4]at ha
  simp_all
 ·rw[v5,jxd]at ha;rw[v5,k9];rcases aA ha with z|z
  ·rcases cl a z with z|z
   ·exact .inr (.inl (ll9 _ z))
   ·exact .inl (ll9 _ z)
  ·exact .inl (lr9 _ z)
theorem wxf(D:k8 X.prog X.w X.K X.mg X.base k x ps (spF Z.K Z.mg n f))(hr:Room k X.A)(g:xz X Z.EX)(ha:QA X Z q cs (e::es))(hn:autoParam (cs.length=n) Ŕ)(hg:autoParam (Gl X x) Ŕ)(fk:autoParam (Abd x) ŕ)
  (he:autoParam (Abs e es X) Ŕ) (bv:autoParam (Abb pos es X) Ŕ):
  QE X Z q (jx f cs) (.Call (.Name x p) (e::es) [] pos):=q9 (vzi D hr g ha hg fk he bv) fun σ H Q ao=>ex8 ao λE L r m w hc xc kk=>
 vxm m w (hc) xc λE1 ys h1 hl xs L1 H1 e1 m1 w1 st sm=>by
  rw [Xs];have ai:xs.length=n:=by rw[<-hn,<-hl,<-e1,X3]
  cases hf:f (letAll ys)with
  | none=>simp_all
  | some fr=>
   rw[hf]at h1;obtain⟨wl,sl⟩:=kq1 w1;have ev:xs.map Sl.v=(xs.map Sl.let).map Sl.v:=by rw[Xj];rfl
   rw[ev];refine#[xs.map Sl.let,fr,rfl,by rw[X3];exact ai,wl.left,by rw[<-e1]at hf;rw[vje];exact hf,λE' c ee C H' hm s'=>?_,λE' a ee y H' e2 e3 w' s'=>?_]
   ·subst ee;cases oq9 h1;obtain⟨w2,s2⟩:=stay wl s' #[λ_ z=>(nomatch z),Xr,λ_ z=>(nomatch z)];exact xc _ _ rfl C L1 H' hm m1 w2 ((st.trans sl).trans s2)
   ·subst ee;cases oq9 h1;obtain⟨w2,s2⟩:=stay wl s' w';refine kk _ _ rfl y L1 H' e2 e3 m1 w2 ((st.trans sl).trans s2) λhq=>?_
    obtain⟨a1,a2⟩:=sm hq;refine#[λb ob hb=>s'.keep b ob (a1 b ob hb) λz=>?_,λb hb=>?_]
    ·rw[K4]at z;exact nomatch z
    ·rcases s'.own b (ll9 _ hb)with z|z
     ·rw[K4]at z;exact nomatch z
     ·exact Jj a1 z
end
def wwu(K:Frag):R2:=λx y H Q=>∃l k xs,x=.ref l/\y=.int k/\LsR K H l xs/\-(2 ^ 63)<=k/\k<2 ^ 63/\xs.length*k.toNat<=sizeLine /\
 ∀p,H p=none->Q (.ref p) (upd H p (.lst (List.replicate k.toNat xs).flatten))
theorem op_repR{X}:OpR X (binaryOp .Mult) (wwu X.K):=by
 rintro a8 s σ H x y v u Q I rx ry ⟨l,k,xs,rfl,rfl,hH,h1,h2,hz,q⟩;cases rx;obtain⟨t,rfl⟩:=ry;obtain⟨z,ac,n,r,e⟩:=hH.is I;have ai:ac.toArray.size*k.toNat<=sizeLine:=by rw[X8,<-r.length];exact hz
 have hcap:¬ac.toArray.size*k.toNat>(2 ^ 63 - 1) / 8:=by
  have:sizeLine<=(2 ^ 63 - 1) / 8:=⋯
  lia
 have n9:¬(!Builtin.List.listFitsIndex k)=true:=by
  rw[fitsIndex_both h1 h2];exact Bool.false_ne_true
 have sy:¬Builtin.List.listTooLong (ac.toArray.size*k.toNat)=true:=by
  rw[vwb ai];exact Bool.false_ne_true
 have eq:List.foldl (λx1 x2=>x1++x2) (List.toArray []) (List.replicate (if ac.toArray.isEmpty=true then 0 else k.toNat) ac.toArray)=(List.replicate k.toNat ac).flatten.toArray:=by
  have f0:∀m,List.foldl (λx1 x2=>x1++x2) (List.toArray []) (List.replicate m ac.toArray)=(List.replicate m ac).flatten.toArray:=λm=>by
   have:=kk9 ac m []
   simp_all
  cases ac with|nil=>simp|cons a r'=>simp_all
 refine wpAny_binaryOp_repeat_ref ⋯ #[_,e,rfl] (λs'=>typeIs_int s' k t) noFill_list_mul F.fills_int_mul F.slot_int_rmul repeat_list F.slot_int_index.lookup
  (call_meets F.slot_int_rmul (typeIs_int s k t) F.entry_int_rmul (F.args_int_rmul_2 _ _) (int___rmul___int_list k t l ac.toArray n)
   #[e,rfl,#[_,e,rfl],call_meets F.slot_list_mul #[_,e,rfl] F.entry_list_mul (F.args_list_mul_2 _ _) (AutoListH.list___mul___list_int_3 l ac.toArray n k t n9 hcap sy) #[e,?_]])
 rw[eq];exact#[.ref _,_,I.lnew (t':=s.toks) (r.rep k.toNat) (by rw[vjh,Nat.mul_comm];exact hz),rfl,q _ I.fresh]
def wjy(K:Frag):R2:=λx y H Q=>rI IntMulOk (λi j=>.int (i*j)) x y H Q\/wwu K x y H Q\/wwt x y H Q
theorem wzf{X K}(hK:autoParam (X.K=K) Ŕ):OpR X (binaryOp .Mult) (wjy K):=by subst hK;exact op_mulI.or (op_repR.or wkt)
theorem qqh{a}(h:a.natAbs.log2<2000000):Builtin.Int.intBits a<=2000000:=by
 unfold Builtin.Int.intBits
 split
 ·simp_all
 ·omega
theorem mulOk_of{a b}(h:Zq a b=true):IntMulOk a b:=by
 unfold Zq qxh at h;simp at h;rcases h with(h|h)|h
 ·exact .of_left (intBits_le_64 h.1 h.2)
 ·exact .of_right (intBits_le_64 h.1 h.2)
 ·have h1:=qqh h.1;have h2:=qqh h.2;unfold IntMulOk Builtin.Int.intTooBig;have e:2 ^ 27=134217728:=⋯
  have hb:bitsLine=134217728:=e
  grind
theorem RepA.reps{K H ds xs bs}(h:RepA K H true ds xs bs):∀k,∃cs,RepA K H true (List.replicate k ds).flatten (List.replicate k xs).flatten cs/\∀b∈cs,b∈bs
 |0=>#[[],by simp only[List.replicate_zero,List.flatten_nil];unfold RepA;exact#[rfl,rfl],λ_ z=>(nomatch z)]
 |k+1=>by
  obtain⟨cs,r,hc⟩:=RepA.reps h k;exact#[bs++cs,r.app h,λb hb=>(aA hb).elim id (hc b)]
set_option tactic.hygienic true in
theorem wjb{K}:Ad2 K (wjy K) xjp:=by
 intro H x y s Q ox oy hf k;unfold xjp at hf;dsimp only at hf
 split at hf
 ·rename_i i j e1 e2
  split at hf
  ·rename_i hm;cases oq9 hf;exact .inl #[i,j,kQ ox e1,kQ oy e2,mulOk_of hm,k _ H rfl rfl Jw]
  ·cases hf
 ·rename_i a n e1 e2
  split at hf
  ·rename_i hc;cases oq9 hf;obtain⟨l,xs,bs,e3,q3,r3,h3⟩:=zQ ox (.inl e1) hc.2.2.2;have q3:LsR K H l xs:=by rcases q3 with⟨_,z⟩|⟨z,_⟩;exact z;rw[e1]at z;cases z
   obtain⟨cs,r4,h4⟩:=r3.reps n.toNat;exact .inr (.inl #[l,n,xs,e3,kQ oy e2,q3,hc.1,hc.2.1,by rw[<-r3.len];exact hc.2.2.1,λp hp=>(k _ _ rfl rfl (K6 hp r4 λb hb=>ll9 _ (h3 b (h4 b hb))))])
  ·cases hf
 ·rename_i z n e1 e2
  split at hf
  ·rename_i hc;cases oq9 hf;exact .inr (.inr #[z,n,(z9 ox e1).1,kQ oy e2,hc.1,k _ H rfl rfl (xvg hc.2)])
  ·cases hf
 ·cases hf
def dec(h:Heap)(u:Value):D:=open Classical in if e:∃d,qz h d u then e.choose else .non
theorem kza{h u d}(r:qz h d u):dec h u=d:=by
 unfold dec;have e:∃d,qz h d u:=#[d,r];rw[dif_pos e];exact kj6 e.choose_spec r
theorem kki{h d}:∀{ds us},CReps h ds us->us.any (λu=>peq (dec h u) d)=ds.any λz=>peq z d
 |[],_,r=>by rw[r];rfl
 |z::ds,_,r=>by
  obtain⟨u,rr,rfl,h1,h2⟩:=r;rw[Zi,Zi,kza h1,kki h2]
theorem kj4{h}:∀{ds us u},CReps h ds us->u∈us->∃d∈ds,qz h d u
 | [],_,_,r,hu=>by rw[r]at hu;cases hu
 | z::ds,_,u,r,hu=>by
  obtain⟨u',rr,rfl,h1,h2⟩:=r;rcases aD hu with rfl|hu
  ·exact#[z,X5,h1]
  ·obtain⟨d,hd,c⟩:=kj4 h2 hu;exact#[d,lc9 _ hd,c]
theorem jxt:∀{n ds d},D.flats n ds=true->d∈ds->d.flat n=true
 |_,[],_,_,h=>by grind
 |n,z::ds,d,f,h=>by
  unfold D.flats at f;rw[Bool.and_eq_true]at f;rcases aD h with rfl|h
  ·exact f.1
  ·exact jxt f.2 h
section
variable {X:Cx}{Z:Fx0}{K:Frag}{q qa qb:Bool}{a b c:Ex}{u v:Ts}{e ea eb:Expr}{es:List Expr}{pos p:Pos}{σ:L2.St}{H:Hp}{L:Ls}{E:En}
def qz2(K:Frag)(km:Bool):R2:=λx y H Q=>∃d ds as bs p xs,RepL K H true d x as/\y=.ref p/\(SqL K H p xs\/SqT K H p xs)/\RepA K H true ds xs bs/\d.flat 30=true/\D.flats 30 ds=true/\Q (.bl (if km then !(ds.any λz=>peq z d)else ds.any λz=>peq z d)) H
theorem wkx(hu:X.A.units+64<cLine):OpR X (compareOp .In) (qz2 X.K false):=by
 rintro a8 s σ H x y v u Q I rx ry ⟨d,ds,as,bs,p,xs,h1,rfl,hq,ra,f1,f2,q⟩;cases ry;have he:∀{us},CReps s.heap ds us->∀w,w∈us.toArray->SeqAt.EqAt X.A.in1 s w v (peq (dec s.heap w) d):=fun {us} cr w hw=>by
  obtain⟨d',hd,c⟩:=kj4 cr (by simpa using hw);rw[kza c];exact Vj 30 (jxt f2 hd) c (Q8 I h1 f1 rx) (by grind)
 rcases hq with hq|hq
 ·obtain⟨ac,r,pl,hz⟩:=I.list hq;have cr:=creps_of I ra f2 r;refine SeqAt.in_listAt _ pl.isList (he cr) #[.bl _,H,I,rfl,?_]
  rwa [List.any_toArray,kki cr]
 ·obtain⟨ac,r,pl,hz⟩:=I.tuple hq;have cr:=creps_of I ra f2 r;refine SeqAt.in_tupleAt _ pl (he cr) #[.bl _,H,I,rfl,?_]
  rwa [List.any_toArray,kki cr]
theorem qvm(hu:X.A.units+64<cLine):OpR X (compareOp .NotIn) (qz2 X.K true):=by
 rintro a8 s σ H x y v u Q I rx ry ⟨d,ds,as,bs,p,xs,h1,rfl,hq,ra,f1,f2,q⟩;cases ry;have he:∀{us},CReps s.heap ds us->∀w,w∈us.toArray->SeqAt.EqAt X.A.in1 s w v (peq (dec s.heap w) d):=fun {us} cr w hw=>by
  obtain⟨d',hd,c⟩:=kj4 cr (by simpa using hw);rw[kza c];exact Vj 30 (jxt f2 hd) c (Q8 I h1 f1 rx) (by grind)
 rcases hq with hq|hq
 ·obtain⟨ac,r,pl,hz⟩:=I.list hq;have cr:=creps_of I ra f2 r;refine SeqAt.notIn_listAt _ pl.isList (he cr) #[.bl _,H,I,rfl,?_]
  rwa [List.any_toArray,kki cr]
 ·obtain⟨ac,r,pl,hz⟩:=I.tuple hq;have cr:=creps_of I ra f2 r;refine SeqAt.notIn_tupleAt _ pl (he cr) #[.bl _,H,I,rfl,?_]
  rwa [List.any_toArray,kki cr]
def qz1(km:Bool):R2:=λx y H Q=>∃i j,x=.str i/\y=.str j/\Q (.bl (if km then !xw4 i j else xw4 i j)) H
theorem opInStr:OpR X (compareOp .In) (qz1 false):=λa8 s σ H x y v u Q I rx ry hz=>by obtain⟨i,j,e1,e2,q⟩:=hz;exact qzw a8 s σ H x y v u Q I rx ry #[i,j,e1,e2,q]
theorem opNotInStr:OpR X (compareOp .NotIn) (qz1 true):=λa8 s σ H x y v u Q I rx ry hz=>by obtain⟨i,j,e1,e2,q⟩:=hz;exact kx9 a8 s σ H x y v u Q I rx ry #[i,j,e1,e2,q]
def wwy(K:Frag)(km:Bool):R2:=λx y H Q=>qz1 km x y H Q\/qz2 K km x y H Q
theorem qzx(hu:X.A.units+64<cLine)(hK:autoParam (X.K=K) Ŕ):OpR X (compareOp .In) (wwy K false):=by subst hK;exact opInStr.or (wkx hu)
theorem kj2(hu:X.A.units+64<cLine)(hK:autoParam (X.K=K) Ŕ):OpR X (compareOp .NotIn) (wwy K true):=by subst hK;exact opNotInStr.or (qvm hu)
theorem JV{H l xs}(h:LsR K H l xs):SqL K H l xs:=h.sq
theorem kw2{x y:Sl}{ys}{km:Bool}{Q}(ox:x.ok K H)(oy:y.ok K H)(hy:y.d=.lst ys\/y.d=.tup ys)(hc:(x.d.flat 30&&D.flats 30 ys)=true)
  (k:Q (.bl (if km then !(ys.any λz=>peq z x.d)else ys.any λz=>peq z x.d)) H):wwy K km x.v y.v H Q:=by
 rw[Bool.and_eq_true]at hc;obtain⟨l,xs,bs,e3,q3,r3,_⟩:=items oy hy;have r3':RepA K H true ys xs bs:=by
  cases ho:(y.o != .dp)with|true=>rw[ho]at r3;exact r3|false=>rw[ho]at r3;exact r3.wk
 refine .inr #[x.d,ys,x.as,bs,l,xs,RepO.wk ox,e3,?_,r3',hc.1,hc.2,k];rcases q3 with⟨_,z⟩|⟨_,z⟩
 ·exact .inl (JV z)
 ·exact .inr z
set_option tactic.hygienic true in
theorem vqq:Ad2 K (wwy K false) (pu2 zX):=by
 intro H x y s Q ox oy hf k;unfold pu2 zX fIn at hf;dsimp only at hf;cases hy:y.d with
 | lst ys=>
  rw[hy]at hf;dsimp only at hf
  split at hf
  ·rename_i hc;cases oq9 hf;exact kw2 ox oy (.inl hy) hc (k _ H rfl rfl wK)
  ·cases hf
 | tup ys=>
  rw[hy]at hf;dsimp only at hf
  split at hf
  ·rename_i hc;cases oq9 hf;exact kw2 ox oy (.inr hy) hc (k _ H rfl rfl wK)
  ·cases hf
 | str b=>
  rw[hy]at hf;dsimp only at hf
  split at hf
  ·rename_i a hx;cases oq9 hf;exact .inl #[a,b,(z9 ox hx).1,(z9 oy hy).1,k _ H rfl rfl wK]
  ·cases hf
 |_=>simp_all
set_option tactic.hygienic true in
theorem kj8:Ad2 K (wwy K true) (pu2 zW):=by
 intro H x y s Q ox oy hf k;unfold pu2 zW W6 fIn at hf;dsimp only at hf;cases hy:y.d with
 | lst ys=>
  rw[hy]at hf;dsimp only at hf
  split at hf
  ·rename_i hc;cases oq9 hf;exact kw2 ox oy (.inl hy) hc (k _ H rfl rfl wK)
  ·cases hf
 | tup ys=>
  rw[hy]at hf;dsimp only at hf
  split at hf
  ·rename_i hc;cases oq9 hf;exact kw2 ox oy (.inr hy) hc (k _ H rfl rfl wK)
  ·cases hf
 | str b=>
  rw[hy]at hf;dsimp only at hf
  split at hf
  ·rename_i a hx;cases oq9 hf;exact .inl #[a,b,(z9 ox hx).1,(z9 oy hy).1,k _ H rfl rfl wK]
  ·cases hf
 |_=>rw[hy]at hf;cases hf
theorem jzy{g d v as}(h:RepL K H g d v as):decide (v=.non)=isNon d:=by
 cases d with|non=>unfold RepL at h;rw[h.1];rfl|bl _=>unfold RepL at h;rw[h.1];rfl|int _=>unfold RepL at h;rw[h.1];rfl|str _=>unfold RepL at h;rw[h.1];rfl|tup _=>unfold RepL at h;obtain⟨a,xs,e,_⟩:=h;rw[e];rfl|lst _=>unfold RepL at h;obtain⟨a,xs,bs,e,_⟩:=h;rw[e];rfl|dct _=>unfold RepL at h;obtain⟨a,xs,bs,e,_⟩:=h;rw[e];rfl|obj _ _=>unfold RepL at h;obtain⟨_,x,o,C,e,_⟩:=h;rw[e];rfl
set_option tactic.hygienic true in
theorem xkg:Ad2 K (λx y H Q=>y=.non/\Q (.bl (decide (x=.non))) H) (f2First fIsNon):=by
 intro H x y s Q ox oy hf k;unfold f2First fIsNon at hf
 split at hf
 ·rename_i hy;cases oq9 hf;have e:=jzy (RepO.wk oy);rw[hy]at e;refine#[Yo e,?_];rw[jzy (RepO.wk ox)];exact k _ H rfl rfl wK
 ·grind
set_option tactic.hygienic true in
theorem wva:Ad2 K (λx y H Q=>y=.non/\Q (.bl (!decide (x=.non))) H) (f2First fNotNon):=by
 intro H x y s Q ox oy hf k;unfold f2First fNotNon at hf
 split at hf
 ·rename_i hy;cases oq9 hf;have e:=jzy (RepO.wk oy);rw[hy]at e;refine#[Yo e,?_];rw[jzy (RepO.wk ox)];exact k _ H rfl rfl wK
 ·grind
set_option tactic.hygienic true in
theorem xkc:Ad1 K (rU λi=>.int (-i)) (pu1 zx):=by
 intro H x s Q ox hf k;unfold pu1 zx at hf
 split at hf
 ·rename_i i e;cases oq9 hf;exact#[i,kQ ox e,k _ H rfl rfl Jw]
 ·cases hf
theorem vjt n i:_root_.Q.ixN n i=L2.ixN n i:=rfl
theorem wqc{x y:Sl}{d Q}(ox:x.ok K H)(oy:y.ok K H)(hf:jW x.d y.d=some d)(k:∀z:Sl,z.o=sub x.o->z.d=d->z.ok K H->(∀b∈z.frz,b∈x.frz)->(∀b∈z.as,b∈x.as)->Q z.v H):rIx K x.v y.v H Q:=by
 have seq:∀ds,(x.d=.lst ds\/x.d=.tup ds)->∀i,y.d=.int i->((_root_.Q.ixN ds.length i).bind λj=>ds[j]?)=some d->rIx K x.v y.v H Q:=by
  intro ds hx i hy hd;obtain⟨l,xs,bs,e3,q3,r3,h3,h4⟩:=items ox hx;cases hj:_root_.Q.ixN ds.length i with
  | none=>grind
  | some j=>
   rw [hj]at hd;obtain⟨v,cs,e4,r4,h5⟩:=r3.get (hd);have ie:atI xs i=some v:=by
    unfold atI
    rwa [<-r3.len,<-vjt,hj]
   have fin:Q v H:=by
    cases ho:x.o with
    | dp=>
     rw[ho]at r4;exact k #[.dp,d,v,cs] (by rw[ho];rfl) rfl r4 (λb hb=>(nomatch hb)) λb hb=>h3 b (h5 b hb)
    | no=>
     rw[ho]at r4;exact k #[.no,d,v,cs] (by rw[ho];rfl) rfl r4 (λb hb=>h4 ⋯ b (h5 b hb)) λb hb=>h3 b (h5 b hb)
    | rt=>
     rw[ho]at r4;exact k #[.no,d,v,cs] (by rw[ho];rfl) rfl r4 (λb hb=>h4 ⋯ b (h5 b hb)) λb hb=>h3 b (h5 b hb)
   rcases q3 with⟨_,z⟩|⟨_,z⟩
   ·exact .inl #[l,xs,i,v,e3,kQ oy hy,JV z,ie,fin]
   ·exact .inr (.inl #[l,xs,i,v,e3,kQ oy hy,z,ie,fin])
 unfold jW at hf;cases hx:x.d with
 | lst ds=>
  rw [hx]at hf;cases hy:y.d with| int i=>rw[hy]at hf;exact seq ds (.inl hx) i hy hf| _=>rw[hy]at hf;cases hf
 | tup ds=>
  rw [hx]at hf;cases hy:y.d with| int i=>rw[hy]at hf;exact seq ds (.inr hx) i hy hf| _=>rw[hy]at hf;cases hf
 | str z=>
  rw [hx]at hf;cases hy:y.d with
  | int i=>
   rw [hy]at hf;have hf:((_root_.Q.ixN z.cps.size i).bind λj=>(z.cps.toList[j]?).map λc=>D.str #[(List.toArray [c])])=some d:=hf;cases hj:_root_.Q.ixN z.cps.size i with
   | none=>grind
   | some j=>
    rw[hj]at hf;cases hc:z.cps.toList[j]? with
    | none=>rw[Option.bind_some,hc]at hf;cases hf
    | some c=>
     rw[Option.bind_some,hc]at hf;cases oq9 hf;have ie:atI z.cps.toList i=some c:=by
      unfold atI
      rwa [Y5,<-vjt,hj]
     obtain⟨e1,hz⟩:=z9 ox hx;refine .inr (.inr #[z,i,c,e1,kQ oy hy,hz,ie,?_]);have rp:∀g,RepL K H g _ (.str #[(List.toArray [c])]) []:=λg=>XX (show 1<=sizeLine by decide)
     cases ho:x.o with|dp=>exact k #[.dp,.str #[(List.toArray [c])],.str #[(List.toArray [c])],[]] (by rw[ho];rfl) rfl (rp false) (λb hb=>(nomatch hb)) λb hb=>(nomatch hb)|no=>exact k #[.no,.str #[(List.toArray [c])],.str #[(List.toArray [c])],[]] (by rw[ho];rfl) rfl (rp true) (λb hb=>(nomatch hb)) λb hb=>(nomatch hb)|rt=>exact k #[.no,.str #[(List.toArray [c])],.str #[(List.toArray [c])],[]] (by rw[ho];rfl) rfl (rp true) (λb hb=>(nomatch hb)) λb hb=>(nomatch hb)
  |_=>rw[hy]at hf;cases hf
 |non=>rw[hx]at hf;cases hf|bl _=>rw[hx]at hf;cases hf|int _=>rw[hx]at hf;cases hf|dct _=>simp_all|obj _ _=>rw[hx]at hf;cases hf
theorem q_ix(ha:QV X Z qa a ea)(hb:QV X Z true b eb)(hs:qkh eb)(hK:autoParam (X.K=Z.K) Ŕ):QV X Z qa (j9 a b) (.Subscript ea eb pos):=
 q9 (xve (hK▸xj4) ha hb hs) fun σ H Q ao=>ex8 ao λE L r m w hc xc k=>by
  refine qY m w (hc) xc λE1 s h1 x L1 H1 e1 e2 m1 w1 ok fr sr st sm=>(qY m1 w1 h1 (xc.step st) λE2 s2 h2 y L2 H2 e3 e4 m2 w2 gj nw nu ca dl=>?_)
  obtain⟨z,hz,rfl⟩:=xw h2;cases hf:jW s.2 s2.2 with
  |none=>simp_all
  |some d=>
   rw[hf]at hz;cases oq9 hz;have kx:=K8 ok fr ca (dl rfl);exact wqc kx.1 gj (by rw[e2,e4];exact hf) λz zo zd u9 zf za=>k _ _ rfl z L2 H2 (by simp_all) zd m2 w2 u9 (λb hb=>kx.2 b (zf b hb)) (V3 sr za) (st.trans ca) λhq=>kK (sm hq) (dl rfl)
theorem Q6(ht:QT X Z q u e)(ha:QE X Z q a ea)(hb:QE X Z q b eb):QE X Z q (cIf u a b) (.IfExp e ea eb pos):=q9 (vw3 ht ha hb) fun σ H Q ao=>ex8 ao λE L r m w hc xc k=>
 vv7 m w (hc) xc λE1 s h1 L1 H1 m1 w1 st sm=>by
  have fin:∀{c},c E1=some r->tQ Z q c σ H1 Q:=λhc=>#[E1,L1,r,m1,w1,hc,xc.step st,λE' a z x L' H' e1 e2 m' w' gi lm=>k E' a z x L' H' e1 e2 m' w' (st.trans gi) λhq=>#[kK (sm hq) (lm hq).1,λb hb=>Jj (sm hq) ((lm hq).2 b hb)]]
  cases s with|true=>simp_all|false=>rw[Xi (by simp)]at h1 ⊢;exact fin h1
theorem qq1{op}(h:QE X Z q a ea):QE X Z q a (.BoolOp op [ea] pos):=wz1 h
theorem vvp(ha:QV X Z q a ea)(hb:QE X Z q b (.BoolOp .And (eb::es) pos)):QE X Z q (Qq a b) (.BoolOp .And (ea::eb::es) pos):=q9 (wz7 ha hb) fun σ H Q ao=>ex8 ao λE L r m w hc xc k=>
 qY m w (hc) xc λE1 s h1 x L1 H1 e1 e2 m1 w1 ok fr sr st sm=>by
  cases hs:s.2 with
  | bl kk=>
   rw[hs]at h1;refine#[kk,Q0 ok (e2.trans hs),?_];cases kk with
   |true=>
    exact#[E1,L1,r,m1,w1,h1,xc.step st,λE' a z x L' H' e1 e2 m' w' gi lm=>k E' a z x L' H' e1 e2 m' w' (st.trans gi) λhq=>#[kK (sm hq) (lm hq).1,λb hb=>Jj (sm hq) ((lm hq).2 b hb)]]
   |false=>
    cases oq9 h1;obtain⟨w3,dy⟩:=Kz w1 st (wK (fr:=[])) (λ_ z=>(nomatch z)) (λ_ z=>(nomatch z)) (λ_ z=>(nomatch z));exact k _ _ rfl _ L1 H1 rfl rfl m1 w3 dy λhq=>#[sm hq,λ_ z=>(nomatch z)]
  |_=>rw[hs]at h1;cases h1
theorem xwo{x:Sl}{k}(ok:x.ok K H)(h:truth x.d=some k)(hd:∀kvs,x.d≠.dct kvs):xq7 K x.v H k:=by
 cases hx:x.d with
 |non=>rw[hx]at h;rw[vzk ok hx];exact(oq9 h).symm|bl b=>rw[hx]at h;rw[Q0 ok hx];exact(oq9 h).symm|int i=>rw[hx]at h;rw[kQ ok hx];exact(oq9 h).symm
 |str z=>
  rw[hx]at h;obtain⟨e,hz⟩:=z9 ok hx;rw[e];refine#[hz,?_];rw[<-oq9 h];show _=(((z.cps.size:Nat):Int) != 0);rw[Bool.eq_iff_iff];simp
 |lst ds=>
  rw[hx]at h;obtain⟨a,xs,bs,e,q,r,_⟩:=items ok (.inl hx);rw[e];have q':LsR K H a xs:=by rcases q with⟨_,z⟩|⟨z,_⟩;exact z;rw[hx]at z;cases z
  refine .inl #[xs,JV q',?_];rw[<-oq9 h];have:=r.len;cases ds<;>cases xs<;>simp_all
 |tup ds=>
  rw[hx]at h;obtain⟨a,xs,bs,e,q,r,_⟩:=items ok (.inr hx);rw[e];have q':SqT K H a xs:=by rcases q with⟨z,_⟩|⟨_,z⟩;rw[hx]at z;cases z;exact z
  refine .inr (.inl #[xs,q',?_]);rw[<-oq9 h];have:=r.len;cases ds<;>cases xs<;>simp_all
 |dct kvs=>exact absurd hx (hd kvs)|obj c f=>rw[hx]at h;cases h
theorem kwl{d k}(h:truthQ d=some k):truth d=some k/\∀kvs,d≠.dct kvs:=by
 cases d<;>first|exact#[h,λ_ z=>nomatch z]|cases h
theorem vX(h:QV X Z q a ea)(he:autoParam (∀gf,isTrue ea X.env gf=(do let v <-gf;standAt ea.pos;holding [v] (truthy v))) Ŗ)(hK:autoParam (X.K=Z.K) Ŕ):QT X Z q (tEQ a) ea:=qq4 (vvv h he) fun σ H Q ao=>ex8 ao λE L r m w hc xc k=>
 qY m w (show bnd (a E) _=some r from hc) xc λE1 s h1 x L1 H1 e1 e2 m1 w1 ok fr sr st sm=>by
  obtain⟨kk,hk,rfl⟩:=xw h1;obtain⟨h2,h3⟩:=kwl hk;exact#[kk,hK▸xwo ok (by rw[e2];exact h2) (by rw[e2];exact h3),k _ _ rfl L1 H1 m1 w1 st sm]
theorem wk2(h:QV X Z q a ea)(hK:autoParam (X.K=Z.K) Ŕ):QE X Z q (Wx a) (.UnaryOp .Not ea pos):=by
 intro a8 s σ H Q I ⟨E,L,r,m,w,hc,xc,k⟩;refine UnaryOp_ (thn (h a8 s σ H _ I (qY (G:=λv H1=>∃kk,xq7 X.K v H1 kk/\Q (.bl (!kk)) H1) m w (hc) xc λE1 s h1 x L1 H1 e1 e2 m1 w1 ok fr sr st sm=>?_)) λv s1 #[x,H1,I1,r1,kk,t1,q1]=>?_)
 ·obtain⟨y,hy,rfl⟩:=xw h1;cases hk:truthQ s.2 with
  |none=>simp_all
  |some kk=>
   rw[hk]at hy;cases oq9 hy;obtain⟨h2,h3⟩:=kwl hk;refine#[kk,hK▸xwo ok (by rw[e2];exact h2) (by rw[e2];exact h3),?_];obtain⟨w3,dy⟩:=Kz w1 st (wK (fr:=[])) (λ_ z=>(nomatch z)) (λ_ z=>(nomatch z)) (λ_ z=>(nomatch z));exact k _ _ rfl _ L1 H1 rfl rfl m1 w3 dy λhq=>#[sm hq,λ_ z=>(nomatch z)]
 ·exact not_of (thn (vxr a8 s1 σ H1 x v _ I1 r1 #[kk,t1,q1]) λc s2 hz=>by obtain⟨H2,I2,q2⟩:=hz;exact#[.bl _,H2,I2,rfl,q2])
end
theorem jxv{α:Type}:∀{L i} {q:α},L[i]?=some q->∃A B,L=A++q::B/\∀q',L.set i q'=A++q'::B
 |[],_,_,h=>by simp at h
 |a::L,0,q,h=>by
  have e:a=q:=by simpa using h
  subst e;exact#[[],L,rfl,λ_=>rfl]
 |a::L,i+1,q,h=>by
  obtain⟨A,B,e,f⟩:=jxv (by simpa using h);exact#[a::A,B,by rw[e];rfl,λq'=>by rw[List.set_cons_succ,f];rfl]
section
variable {K:Frag}{H:Hp}{M T L:Ls}{y y':Sl}{l:Addr}{ob:HO}
theorem World.write(w:World K H (some y::(T++M)))(hl:l∈y.own)(ok':y'.ok K (upd H l ob))(nd:y'.own.Nodup)(h1:∀a∈y'.own,a∈y.own\/a∈jw T)(h2:∀a∈y'.frz,a∈y.as\/a∈jw T\/a∈k5 T)(h3:∀a∈y'.own,a∉y'.frz):
  World K (upd H l ob) (some y'::M)/\Step H (some y::(T++M)) (upd H l ob) (some y'::M):=by
 have wn:=w.nd;rw [v8,k9,Xh,Xh]at wn;obtain⟨n1,⟨n2,n3,n4⟩,n5⟩:=wn;have oy:l∈jw (some y::(T++M)):=ll9 _ hl;have la:=w.own_al oy;have ds:∀a,(a∈y.own\/a∈jw T\/a∈jw M)->¬(a∈y.frz\/a∈k5 T\/a∈k5 M):=λa ha hf=>by
  refine w.ds a ?_ ?_
  ·rw[v8,k9];rcases ha with z|z|z
   ·exact ll9 _ z
   ·exact lr9 _ (ll9 _ z)
   ·exact lr9 _ (lr9 _ z)
  ·rw[Q3,v5];rcases hf with z|z|z
   ·exact ll9 _ z
   ·exact lr9 _ (ll9 _ z)
   ·exact lr9 _ (lr9 _ z)
 have noM:∀z,some z∈M->l∉z.as:=λz hz ha=>by
  rcases Sl.as_of ha with q|q
  ·exact n5 l hl l (lr9 _ (mem_owned.mpr #[z,hz,q])) rfl
  ·exact ds l (.inl hl) (.inr (.inr (mem_frozen.mpr #[z,hz,q])))
 have ke:∀a o,H a=some o->a≠l->upd H l ob a=some o:=λa o e ne=>by rw[qQ ne];exact e
 have kp:∀as,l∉as->Kp H _ as:=λas hn=>by
  refine#[λa xs e=>ke a _ e λz=>?_,λa o u e=>ke a _ e λz=>?_,λa ha o e=>ke a o e λz=>hn (z▸ha)]
  ·grind
  ·subst z;rcases la with⟨_,q⟩|⟨_,q⟩|⟨_,q⟩<;>(rw[e]at q;cases q)
 have wM:World K (upd H l ob) M:=by
  have w1:=w.tail.right;exact#[λz hz=>RepO.kp (w1.ok z hz) (kp _ (noM z hz)),w1.nd,w1.ds]
 refine#[wM.cons ok' nd (λa ha hM=>?_) (λa ha hM=>?_) (λa ha hM=>?_) h3,λa o e hn=>ke a o e λz=>hn (z▸oy),λa ha=>?_,λa ha=>?_]
 ·rcases h1 a ha with z|z
  ·exact n5 a z a (lr9 _ hM) rfl
  ·exact n4 a z a hM rfl
 ·rcases h1 a ha with z|z
  ·exact ds a (.inl z) (.inr (.inr hM))
  ·exact ds a (.inr (.inl z)) (.inr (.inr hM))
 ·rcases h2 a ha with z|z|z
  ·rcases Sl.as_of z with z|z
   ·exact n5 a z a (lr9 _ hM) rfl
   ·exact ds a (.inr (.inr hM)) (.inl z)
  ·exact n4 a z a hM rfl
  ·exact ds a (.inr (.inr hM)) (.inr (.inl z))
 ·rw[v8,k9];rcases aA ha with z|z
  ·rcases h1 a z with z|z
   ·exact .inl (ll9 _ z)
   ·exact .inl (lr9 _ (ll9 _ z))
  ·exact .inl (lr9 _ (lr9 _ z))
 ·rw[v8,k9,Q3,v5];rcases aA ha with z|z
  ·rcases h2 a z with z|z|z
   ·rcases Sl.as_of z with z|z
    ·exact .inr (.inl (ll9 _ z))
    ·exact .inl (ll9 _ z)
   ·exact .inr (.inl (lr9 _ (ll9 _ z)))
   ·exact .inl (lr9 _ (ll9 _ z))
  ·exact .inl (lr9 _ (lr9 _ z))
theorem World.writeAt{i}(w:World K H (T++L))(hy:L[i]?=some (some y))(hl:l∈y.own)(ok':y'.ok K (upd H l ob))(nd:y'.own.Nodup)(h1:∀a∈y'.own,a∈y.own\/a∈jw T)(h2:∀a∈y'.frz,a∈y.as\/a∈jw T\/a∈k5 T)(h3:∀a∈y'.own,a∉y'.frz):
  World K (upd H l ob) (L.set i (some y'))/\Step H (T++L) (upd H l ob) (L.set i (some y')):=by
 obtain⟨A,B,e,f⟩:=jxv hy;rw[f];subst e;have p:(T++(A++some y::B)).Perm (some y::(T++(A++B))):=by
  refine(List.Perm.append_left T (List.perm_middle)).trans List.perm_middle
 obtain⟨w2,s2⟩:=World.write (w.perm p) hl ok' nd h1 h2 h3;exact#[w2.perm List.perm_middle.symm,s2.perm p.symm List.perm_middle.symm]
end
theorem RepA.snoc{K H g d x cs}(h:RepL K H g d x cs){ds xs bs}(r:RepA K H g ds xs bs):RepA K H g (ds++[d]) (xs++[x]) (bs++cs):=by
 refine RepA.app ?_ r;exact#[x,[],cs,[],rfl,by simp,h,by unfold RepA;exact#[rfl,rfl]]
theorem qjh{K H}{y:Sl}{ds}(ok:y.ok K H)(hd:y.d=.lst ds)(ho:y.o≠.no):∃l xs bs,y.v=.ref l/\H l=some (.lst xs)/\y.as=l::bs/\l∈y.own/\RepA K H (y.o != .dp) ds xs bs:=by
 obtain⟨o,d,v,as⟩:=y;dsimp only at hd ho;subst hd;cases o with
 |no=>exact absurd rfl ho
 |rt=>
  obtain⟨a,xs,bs,rfl,r,q,rfl⟩:=(ok);exact#[a,xs,bs,rfl,q,rfl,by simp[Sl.own],r]
 |dp=>
  have ok:RepL K H false _ v as:=ok;obtain⟨a,xs,bs,rfl,r,q⟩:=ok;rcases q with⟨q,rfl⟩|⟨z,_⟩
  ·exact#[a,xs,bs,rfl,q,rfl,by simp[Sl.own],r]
  ·grind
theorem kvc{K H T L i y l xs xs' bs cs o' ds'}(w:World K H (T++L))(hy:L[i]?=some (some y))(hH:H l=some (.lst xs))(ha:y.as=l::bs)(hl:l∈y.own)(hv:y.v=.ref l)
  (r:RepA K H (o' != .dp) ds' xs' cs) (hc:(o'=.rt/\∀a∈cs,a∈bs\/a∈jw T\/a∈k5 T)\/(o'=.dp/\y.o=.dp/\cs.Nodup/\∀a∈cs,a∈bs\/a∈jw T)):
  World K (upd H l (.lst xs')) (L.set i (some #[o',.lst ds',y.v,l::cs]))/\Step H (T++L) (upd H l (.lst xs')) (L.set i (some #[o',.lst ds',y.v,l::cs])):=by
 have oL:=mem_owned.mpr #[y,vJ hy,hl];have oy:l∈jw (T++L):=by rw[k9];exact lr9 _ oL
 have nd:=w.nd;rw [k9,Xh]at nd;have nT:=λz=>nd.2.2 l z l oL rfl
 have yn:y.own.Nodup:=by
  obtain⟨A,B,e,_⟩:=jxv hy;have:=nd.2.1;rw[e,k9,Xh]at this;exact(List.nodup_append.mp this.2.1).1
 have nb:l∉bs:=λz=>by
  cases ho:y.o with
  | no=>unfold Sl.own at hl;rw[ho]at hl;exact nomatch hl
  | rt=>
   have:l∈y.frz:=by unfold Sl.frz;rw[ho,ha];exact z
   exact w.ds l oy (by rw[v5];exact lr9 _ (mem_frozen.mpr #[y,vJ hy,this]))
  | dp=>
   unfold Sl.own at yn;rw[ho,ha]at yn;exact(List.nodup_cons.mp yn).1 z
 have nc:l∉cs:=λz=>by
  rcases hc with⟨_,hc⟩|⟨_,_,_,hc⟩
  ·rcases hc l z with q|q|q
   ·exact nb q
   ·exact nT q
   ·exact(λz=>w.ds l oy (by rw[v5];exact ll9 _ z)) q
  ·rcases hc l z with q|q
   ·exact nb q
   ·exact nT q
 have kp:Kp H (upd H l (.lst xs')) cs:=by
  have k2:∀a o,H a=some o->a≠l->upd H l (.lst xs') a=some o:=λa o e ne=>by rw[qQ ne];exact e
  refine#[λa zs e=>k2 a _ e λz=>?_,λa o u e=>k2 a _ e λz=>?_,λa ha o e=>k2 a o e λz=>nc (z▸ha)]
  ·grind
  ·grind
 have r':=r.kp kp;rcases hc with⟨rfl,hc⟩|⟨rfl,uy,hnd,hc⟩
 ·refine World.writeAt w hy hl (y':=_) #[l,xs',cs,hv,r',wW,rfl] (by simp[Sl.own]) (λa h=>?_) (λa h=>?_) (λa h z=>?_)
  ·have:a=l:=by simpa [Sl.own]using h
   grind
  ·rcases hc a (by simpa [Sl.frz]using h)with q|q
   ·exact .inl (ha▸lc9 _ q)
   ·exact .inr q
  ·have:a=l:=by simpa [Sl.own]using h
   subst this;exact nc (by simpa [Sl.frz]using z)
 ·have oa:y.own=y.as:=by unfold Sl.own;rw[uy]
  refine World.writeAt w hy hl (y':=_) ?_ (List.nodup_cons.mpr #[nc,hnd]) (λa h=>?_) (λa h=>(nomatch h)) (λa h z=>(nomatch z))
  ·show RepL K _ false _ y.v _;exact#[l,xs',cs,hv,r',.inl #[wW,rfl]]
  ·rcases aD (h)with q|q
   ·grind
   ·rcases hc a q with q|q
    ·exact .inl (by rw[oa,ha];exact lc9 _ q)
    ·exact .inr q
section
variable {X:Cx}{Z:Fx0}{pn:List Nat}{q:Bool}{c:Ex}{e:Expr}{σ:L2.St}{H:Hp}{L:Ls}{E:En}
theorem vzn{K}{x:Sl}{ds}(ok:x.ok K H)(hd:x.d=.lst ds):tyV K "list" x.v H:=by
 obtain⟨a,xs,bs,e1,q1,_⟩:=items ok (.inl hd);rw[e1];rcases q1 with⟨_,z⟩|⟨z,_⟩
 ·exact .inl #[rfl,xs,z.sq]
 ·grind
theorem xvy{K}{x:Sl}(ok:x.ok K H) b (hb:b=false->zK x.sd=true):∃cs,RepL K H b x.d x.v cs/\(∀a∈cs,a∈x.as)/\(b=false->∀a∈cs,a∈x.own)/\(b=false->x.own.Nodup->cs.Nodup):=by
 cases b with
 | true=>exact#[x.as,RepO.wk ok,λ_ h=>h,(λz=>by cases z),(λz=>by cases z)]
 | false=>
  by_cases ho:x.o=.dp
  ·have e:x.own=x.as:=by unfold Sl.own;rw[ho]
   refine#[x.as,?_,λ_ h=>h,λ_ a h=>by rw[e];exact h,λ_ n=>by rw[e]at n;exact n];have:=ok;unfold Sl.ok at this;rw[ho]at this;exact this
  ·have hp:x.d.pure=true:=by
    rcases Bool.or_eq_true_iff.mp (hb rfl)with z|z
    ·exact absurd (by simpa using z) ho
    ·exact z
   obtain⟨z,rp⟩:=RepL.pu (g':=false) (RepO.wk ok) hp;exact#[[],rp,λ_ h=>(nomatch h),λ_ _ h=>(nomatch h),λ_ _=>Xr]
theorem jxl{α:Type}{l:List α}{i x}(h:l[i]?=some x):l.set i x=l:=by
 obtain⟨h1,h2⟩:=List.getElem?_eq_some_iff.mp h;rw[<-h2];simp
theorem mut1 {D' f i r} {G:V->V->Hp->Prop} (m:Mt E σ L) (w:World Z.K H L) (hc:v4 f i c E=some r) (k:FlP Z pn D' σ H L r)
  (g:∀ l (x) (xs) (ds ds') (d) (bs cs) (H1) (gg),f ds d=some ds'->H1 l=some (.lst xs)->RepA Z.K H1 gg ds xs bs->RepL Z.K H1 gg d x cs ->
   (∀ xs' es,RepA Z.K H1 gg ds' xs' es->(∀a∈es,a∈bs\/a∈cs)->((bs++cs).Nodup->es.Nodup)->D'.nx σ (upd H1 l (.lst xs')))->G (.ref l) x H1):
  ∃ v,σ[i]?=some (some v)/\tyV Z.K "list" v H/\tQ Z q c σ H (G v):=by
 unfold v4 at hc;cases h0:E[i]? with
 | none=>rw[h0]at hc;cases hc
 | some s0 =>
  cases s0 with
  | none=>rw[h0]at hc;cases hc
  | some s0=>
   obtain ⟨o0,d0⟩:=s0;cases d0 with
   | lst ds0=>
    rw [h0]at hc;obtain ⟨x0,a1,a2,a3,a4⟩:=m.get h0;refine #[x0.v,a4,vzn (w.ok x0 (vJ a1)) a3,(W3 m w hc k λE1 s h1 x L1 H1 e1 e2 m1 w1 st _=>?_)];cases hE:E1[i]? with
    | none=>rw[hE]at h1;cases h1
    | some s1=>
     cases s1 with
     | none=>rw[hE]at h1;cases h1
     | some s1=>
      obtain⟨oo,dd⟩:=s1;rw [hE]at h1;cases dd with
      | lst ds=>
       dsimp only at h1
       by_cases jr:oo=.no
       ·rw [Xd jr]at h1;cases h1
       ·rw [Xi jr]at h1;cases hfd:f ds s.2 with
        | none=>rw[hfd]at h1;cases h1
        | some ds'=>
         rw[hfd]at h1;obtain⟨y,b1,b2,b3,b4⟩:=m1.get hE;have hv:y.v=x0.v:=by rw[a4]at b4;exact(oq9 (oq9 b4)).symm
         obtain⟨l,xs,bs,c1,c2,c3,c4,c5⟩:=qjh (w1.ok y (lc9 _ (vJ b1))) b3 (b2▸jr);have ex0:=hv▸c1;rw[ex0];have wT:=w1;have nr:=w1.head;have nd:=w1.nd;rw[v8,Xh]at nd;have oT:jw [some x]=x.own:=by simp
         have fT:k5 [some x]=x.frz:=by simp
         by_cases hd:oo=.dp/\zK s=true
         ·rw[Xd hd]at h1;cases oq9 h1;have hyo:=b2.trans hd.1;rw[hyo]at c5;obtain⟨cs,r1,h3,h4,h5⟩:=xvy nr false λ_=>by rw[show x.sd=s from by simp[Sl.sd,e1,e2]];exact hd.2
          refine g l x.v xs ds ds' s.2 bs cs H1 false hfd c2 c5 (e2▸r1) λxs' es re he hn=>?_
          have ynd:(bs++cs).Nodup:=by
           have yo:y.own=l::bs:=by unfold Sl.own;rw[hyo,c3]
           obtain⟨A,B,e,_⟩:=jxv b1;have q:=nd.2.1;rw[e,k9,v8,Xh]at q;have q2:=(List.nodup_append.mp q.2.1).1;rw[yo]at q2;rw[Xh];refine#[(List.nodup_cons.mp q2).2,h5 rfl nd.1,λa ha b hb va=>?_];subst va;exact nd.2.2 a (h4 rfl a hb) a (mem_owned.mpr #[y,vJ b1,by rw[yo];exact lc9 _ ha]) rfl
          obtain⟨w3,s3⟩:=kvc (o':=.dp) (ds':=ds') (xs':=xs') wT b1 c2 c3 c4 c1 re (.inr #[rfl,hyo,hn ynd,λa ha=>(he a ha).imp id λz=>by rw[oT];exact h4 rfl a z]);refine k σ _ _ Pn.refl ?_ w3 (st.trans s3);have:=m1.set (x:=#[.dp,.lst ds',y.v,l::es]) i;rw[jxl b4]at this;exact this
         ·rw[Xi hd]at h1;cases oq9 h1;have c6:RepA Z.K H1 true ds xs bs:=by
           cases hb:(y.o != .dp)with|true=>rw[hb]at c5;exact c5|false=>rw[hb]at c5;exact c5.wk
          refine g l x.v xs ds ds' s.2 bs x.as H1 true hfd c2 c6 (e2▸RepO.wk nr) λxs' es re he hn=>?_
          obtain⟨w3,s3⟩:=kvc (o':=.rt) (ds':=ds') (xs':=xs') wT b1 c2 c3 c4 c1 re (.inl #[rfl,λa ha=>(he a ha).imp id λz=>by rw[oT,fT];exact Sl.as_of z]);refine k σ _ _ Pn.refl ?_ w3 (st.trans s3);have:=m1.set (x:=#[.rt,.lst ds',y.v,l::es]) i;rw[jxl b4]at this;exact this
      |_=>cases h1
   |_=>rw[h0]at hc;cases hc
theorem xv8{i o apos aj pos}(hb:PE X (.Call (.Attribute o "append" apos) [e] [] aj) (tBM Z.K "list" qz4 (zJ i) (wjk (tQ Z q c) xqf)))(hs:autoParam (swapsWith (.Call (.Attribute o "append" apos) [e] [] aj) none pos.line X.env=pure false) Ŕ):
  QS X Z pn (v4 v3 i c) (.Expr (.Call (.Attribute o "append" apos) [e] [] aj) pos):=JY (wke hb hs) λD σ H ao=>ex7 ao λE L r m w hc k=>
 mut1 m w hc k λl x xs ds ds' d bs cs H1 gg hf hH ra rx fin=>by
  unfold v3 at hf
  by_cases hl:ds.length<big
  ·rw[Xd hl]at hf;cases oq9 hf;exact#[l,xs,x,rfl,rfl,hH,by rw[<-ra.len];exact hl,fin _ _ (RepA.snoc rx ra) (λa ha=>aA ha) λh=>h]
  ·rw[Xi hl]at hf;cases hf
end
section
variable {X:Cx}{Z:Fx0}{pn:List Nat}{q:Bool}{kc vc:Ex}{e ke ve:Expr}{st:Stmt}
theorem qz9{d:D}{o:Own}{ob:Addr->HO}{C:Addr->Prop}(h:PE X e λ_ H Q=>∀p,H p=none->C p->Q (.ref p) (upd H p (ob p)))(ho:o≠.no)(ok:∀H p,C p->Sl.ok Z.K (upd H p (ob p)) #[o,d,.ref p,[p]]):QE X Z true (λE=>some (.ok E (o,d))) e:=q9 h fun σ H Q ao=>ex8 ao λE L r m w hc xc k=>by
 intro p hp hs;cases oq9 hc;have out:Out Z.K H (upd H p (ob p)) #[o,d,.ref p,[p]] []:=by
  refine#[x5 hp,ok H p hs,λb hb=>?_,?_,λb hb=>?_]<;>cases o<;>simp_all [Sl.own,Sl.frz]
 obtain⟨w2,s2⟩:=Kz w Step.refl out (λ_ z=>nomatch z) (λ_ z=>nomatch z) (λ_ z=>nomatch z);exact k _ _ rfl #[o,d,.ref p,[p]] L _ rfl rfl m w2 s2 λ_=>#[out.same,out.new]
set_option tactic.hygienic true in
theorem vvn{g0 g}{i:Nat}{W:V->V->V->Hp->(Hp->Prop)->Prop}(hp:PS X st λD σ H=>tQ Z q vc σ H λv H1=>zJ i σ H1 λo H2=>tV Z true kc σ H2 λy H3=>W o y v H3 λH4=>D.nx σ H4)(hg:g0 none=false/\g0 (some none)=false)
  (spec:∀{H L} {y x z:Sl} {d} {C:Hp->Prop},L[i]?=some (some y)->World Z.K H (some x::L)->z.ok Z.K H->g (y.o,y.d) z.d x.d=some d->(∀H' as,World Z.K H' (L.set i (some #[.rt,d,y.v,as]))->Step H (some x::L) H' (L.set i (some #[.rt,d,y.v,as]))->C H')->W y.v z.v x.v H C):
  QS X Z pn (W4 g0 g i kc vc) st:=JY hp λD σ H ao=>ex7 ao λE L r m w hr k=>
 W3 m w hr k λE1 s1 h1 x L1 H1 e1 e2 m1 w1 jn _=>by
  split at h1
  ·rename_i hd
   match h0:E1[i]? with
   |none=>rw[h0,hg.1]at hd;cases hd|some none=>rw[h0,hg.2]at hd;cases hd
   |some (some s0)=>
   obtain⟨y0,a1,a2,a3,a4⟩:=m1.get h0;refine#[y0.v,a4,?_];rcases jxr h1 with⟨E2,ky,hk1,nv⟩|⟨E2,c,hk1,rfl⟩
   ·refine#[E1,L1,_,m1,w1.tail,hk1,(λ_ _ z=>by cases z),λE' s' z zk L2 H2 f1 f2 m2 w2 nh frz _ ca sm=>?_];injection z with z1 z2;subst z1 z2
    match hE:E2[i]? with
    |none=>rw[hE]at nv;cases nv|some none=>rw[hE]at nv;cases nv
    |some (some s2)=>
    rw[hE]at nv;obtain⟨d,dw,rfl⟩:=Option.map_eq_some_iff.mp nv;obtain⟨y,b1,b2,b3,b4⟩:=m2.get hE;have hyv:y.v=y0.v:=by rw[a4]at b4;exact(oq9 (oq9 b4)).symm
    obtain⟨w3,dy⟩:=xq2 (T:=[some x]) w1 ca w2;rw[<-hyv];refine spec (d:=d) b1 w3 nh (by rw[b2,b3,f2,e2];exact dw) λH' as w4 gy=>k σ _ _ Pn.refl ?_ w4 ((jn.trans dy).trans gy)
    have:=m2.set (x:=#[.rt,d,y.v,as]) i;rw[jxl b4]at this;exact this
   ·exact#[E1,L1,_,m1,w1.tail,hk1,(λE' c' e C L' H' hm m' w' st=>by injection e with z1 z2;subst z1 z2;exact k C σ L' H' hm Pn.refl m' w' ((jn.trans Step.drop).trans st)),λE' s' z=>by cases z]
  ·cases h1
end
section
variable {X:Cx}{Z:Fx0}{pn:List Nat}{q:Bool}{a b c:Ex}{tg e ea eb:Expr}{σ:L2.St}{H:Hp}{L:Ls}{E:En}{pos p:Pos}
theorem wwd{a8 H1 s1 x t R}(I1:L2.Inv X a8 σ H1 s1)(q:R (Its x) H1):wpAny (model X.prog X.w) X.A (pyIter (.str x t)) (PIE X a8 σ tg R) X.xe s1:=by
 have fp:∀b∈[s1.heap.objs.size],wZ X a8 H1 b:=λb hb=>by
  have e:b=s1.heap.objs.size:=by simpa using hb
  subst e;exact I1.fpOk (Xa _) (I1.hok.fresh (Xa _))
 cases ha:x.cps.all _
 ·exact wpAny_pyIter_wide ha #[s1.heap.objs.size,[s1.heap.objs.size],_,_,H1,rfl,I1.kept (t':=s1.toks) λb o e=>X2 _ e,qkm (λA' hA=>PySem.Walks.strWide hA _ x t) (λ_ _ _ _ _ st h=>wpAny_pyIter_striter_wide st h) ⋯,#[_,X9 _ rfl,rfl,rfl],fp,q]
 ·exact wpAny_pyIter_ascii ha #[s1.heap.objs.size,[s1.heap.objs.size],_,_,H1,rfl,I1.kept (t':=s1.toks) λb o e=>X2 _ e,qkm (λA' hA=>PySem.Walks.strAscii hA _ x t) (λ_ _ _ _ _ st h=>wpAny_pyIter_striter_ascii st h) ⋯,#[_,X9 _ rfl,rfl,rfl],fp,q]
theorem wzl{K}{H} c:Sl.ok K H #[.no,.str #[(List.toArray [c])],.str #[(List.toArray [c])],[]]:=by
 show RepL K H true _ _ _;exact XX (show 1<=sizeLine by decide)
theorem wzk{K}{H} i:Sl.ok K H #[.no,.int i,.int i,[]]:=by
 show RepL K H true _ _ _;exact vK
def iAny(K:Frag)(tl:TE):TI:=fun σ H R=>tl σ H λx H1=>(∃a xs,x=.ref a/\SqL K H1 a xs/\(xs.length<=sizeLine->R (Itl K a) H1))\/(∃a xs,x=.ref a/\SqT K H1 a xs/\(xs.length<=sizeLine->R (Itt K a) H1))\/∃z,x=.str z/\R (Its z) H1
theorem vze{l tl}(hl:PE X l tl):PI X tg l (iAny X.K tl):=by
 intro a8 s σ H R I h;refine thn (hl a8 s σ H _ I h) λv s1 hz=>?_
 obtain⟨x,H1,I1,r1,q1⟩:=hz;rcases q1 with⟨a,xs,rfl,hq,q⟩|⟨a,xs,rfl,hq,q⟩|⟨z,rfl,q⟩
 ·cases r1;obtain⟨ac,rv,p,hz⟩:=I1.list hq;refine Zf p.isList (#[s1.heap.objs.size,[s1.heap.objs.size],_,_,H1,rfl,I1.kept (t':=s1.toks) λb o e=>X2 _ e,qwx a _,#[_,X9 _ rfl,rfl,rfl],λb hb=>?_,q hz]);have e:b=s1.heap.objs.size:=by simpa using hb
  subst e;exact I1.fpOk (Xa _) (I1.hok.fresh (Xa _))
 ·cases r1;obtain⟨ac,rv,p,hz⟩:=I1.tuple hq;refine wpAny_pyIter_tuple (p) (#[s1.heap.objs.size,[s1.heap.objs.size],_,_,H1,rfl,I1.kept (t':=s1.toks) λb o e=>X2 _ e,qv6 a _,#[_,X9 _ rfl,rfl,rfl],λb hb=>?_,q hz]);have e:b=s1.heap.objs.size:=by simpa using hb
  subst e;exact I1.fpOk (Xa _) (I1.hok.fresh (Xa _))
 ·obtain⟨t,rfl⟩:=r1;exact wwd I1 q
theorem kxk{K}{x:Sl}{es l}(hx:x.d=.lst es)(ev:x.v=.ref l):∀H2,x.let.ok K H2->∃ys cs,SqL K H2 l ys/\RepA K H2 true es ys cs/\∀b∈cs,b∈x.as:=λH2 hok=>by
 obtain⟨a',ys,cs,uc,q4,r4,h4,_⟩:=items hok (.inl hx);cases V.ref.inj (uc.symm.trans ev);rcases q4 with⟨_,z⟩|⟨z,_⟩
 ·exact#[ys,cs,z.sq,r4,h4]
 ·rw[show x.let.d=D.lst es from hx]at z;cases z
theorem kwk{K}{x:Sl}{es l}(hx:x.d=.tup es)(ev:x.v=.ref l):∀H2,x.let.ok K H2->∃ys cs,SqT K H2 l ys/\RepA K H2 true es ys cs/\∀b∈cs,b∈x.as:=λH2 hok=>by
 obtain⟨a',ys,cs,uc,q4,r4,h4,_⟩:=items hok (.inr hx);cases V.ref.inj (uc.symm.trans ev);rcases q4 with⟨z,_⟩|⟨_,z⟩
 ·rw[show x.let.d=D.tup es from hx]at z;cases z
 ·exact#[ys,cs,z,r4,h4]
theorem kqu{K H1 x L1}(w1:World K H1 (some x::L1))(st:Step H L H1 (some x::L1)):World K H1 (L1++[x.let].map some)/\Step H L H1 (L1++[x.let].map some):=by
 refine#[World.comm (w1.tail.consNo (Jq w1.head) rfl λb hb=>w1.apart b hb),st.keep,λb hb=>?_,λb hb=>?_]
 ·have:b∈jw L1:=by simpa [vjf]using hb
  exact st.own b (lr9 _ this)
 ·have:b∈k5 L1\/b∈x.as:=by simpa [vjf]using hb
  rcases this with z|z
  ·exact st.frz b (lr9 _ z)
  ·exact kv0 st b z
abbrev ItS(S:Hp->List V->Prop):It:=#[λi H=>∃xs x,S H xs/\xs[i]?=some x,λi H x H'=>H'=H/\∀xs,S H xs->xs[i]?=some x,λi H=>∃xs,S H xs/\xs.length<=i]
theorem qki{K S}{x:Sl}{es}(ag:∀H2,x.let.ok K H2->∃ys cs,S H2 ys/\RepA K H2 true es ys cs/\∀b∈cs,b∈x.as):Walks K (ItS S) [x.let] es:=by
 refine#[λt ht=>by rw[aC ht];rfl,λi H2 hok hi=>?_,λH2 hok=>?_,λi H2 v H3 d hok hy iz=>?_]
 all_goals obtain⟨ys,cs,s1,s2,s3⟩:=ag H2 (hok _ (aB rfl))
 ·have hl:=s2.len;exact#[ys,ys[i]'_,s1,X1 ⋯]
 ·exact#[ys,s1,by rw[s2.len];exact Xa _]
 ·obtain⟨rfl,hy⟩:=hy;obtain⟨v',f8,f1,f2,f3⟩:=s2.get iz;have:=hy ys s1;rw[f1]at this;cases oq9 this;exact#[#[.no,d,v,f8],rfl,rfl,rfl,xQ,f2,λb hb=>#[x.let,aB rfl,s3 b (f3 b hb)]]
set_option tactic.hygienic true in
theorem v7(h:QE X Z q c e)(hK:autoParam (X.K=Z.K) Ŕ):QI X Z q tg (itS c) e:=λa8 s σ H R I ao=>ex8 ao λE L r m w hc xc k=>by
 refine(hK▸vze h) a8 s σ H R I (Vx m w (hc) xc λE1 s h1 x L1 H1 e1 e2 m1 w1 st sm=>?_);obtain⟨ds,hd,rfl⟩:=xw h1;have ok:=w1.head;obtain⟨wT,sT⟩:=kqu w1 st;cases hx:x.d with
 | lst es=>
  rw[<-e2,hx]at hd;cases oq9 hd;obtain⟨a,_,_,ev,_⟩:=items ok (.inl hx);have ag:=kxk (K:=Z.K) hx ev;obtain⟨xs,bs,q3,r3,_⟩:=ag H1 (Jq ok);exact .inl #[a,xs,ev,q3,λai=>k _ _ rfl _ [x.let] L1 H1 m1 wT sT (r3.len▸ai) (λhq=>(sm hq).1) (qki ag)]
 | tup es=>
  rw[<-e2,hx]at hd;cases oq9 hd;obtain⟨a,_,_,ev,_⟩:=items ok (.inr hx);have ag:=kwk (K:=Z.K) hx ev;obtain⟨xs,bs,q3,r3,_⟩:=ag H1 (Jq ok);exact .inr (.inl #[a,xs,ev,q3,λai=>k _ _ rfl _ [x.let] L1 H1 m1 wT sT (r3.len▸ai) (λhq=>(sm hq).1) (qki ag)])
 | str z=>
  rw[<-e2,hx]at hd;have hd:(if z.cps.size<=big then some _ else none)=some ds:=hd
  split at hd
  ·rename_i hz;cases oq9 hd;refine .inr (.inr #[z,(z9 ok hx).1,k _ _ rfl _ [] L1 H1 m1 (by simpa using w1.tail) (by simpa using (st.trans Step.drop)) (by rw[X3];exact hz) (λhq=>(sm hq).1) #[λt ht=>(nomatch ht),λi H2 _ hi=>?_,λH2 _=>?_,λi H2 v H3 d _ hy iz=>?_]])
   ·show i<z.cps.size
    simp_all
   ·show(z.cps.toList.map λc=>D.str #[(List.toArray [c])]).length=z.cps.size;simp
   ·obtain⟨e3,cc,hc,rfl⟩:=hy;subst e3;rw[Xg,Yp,hc]at iz;cases oq9 iz;exact#[_,rfl,rfl,rfl,xQ,wzl cc,λb hb=>(nomatch hb)]
  ·cases hd
 |_=>rw[<-e2,hx]at hd;cases hd
theorem qv4{K}(lo hi):Walks K (Itr lo (hi - lo).toNat) [] (k6 lo hi):=by
 have hl:(k6 lo hi).length=(hi - lo).toNat:=by simp[k6]
 refine#[λt ht=>(nomatch ht),λi H _ jh=>by rw[hl]at jh;exact jh,λH _=>by rw[hl];exact Xa _,λi H v H' d _ hy hd=>?_];obtain⟨e,rfl⟩:=hy;subst e;unfold k6 at hd;rw[Xg]at hd;cases hr:(List.range (hi - lo).toNat)[i]? with
 | none=>simp_all
 | some j=>
  rw[hr]at hd;have:j=i:=by
   obtain⟨_,h2⟩:=List.getElem?_eq_some_iff.mp hr
   simpa using h2.symm
  subst this;cases oq9 hd;exact#[_,rfl,rfl,rfl,xQ,wzk _,λb hb=>(nomatch hb)]
theorem jz0{i}(h:z6 i=true):-(2 ^ 62)<=i/\i<2 ^ 62:=by
 unfold z6 at h
 simpa using h
set_option tactic.hygienic true in
theorem xq(ha:QV X Z q a ea)(hg:Gl X "range")(hm:X.mg "range"=none)(bg:autoParam (starEach [ea] X.env=[(false,eval ea X.env)]) Ŕ):QI X Z q tg (wv a) (.Call (.Name "range" p) [ea] [] pos):=λa8 s σ H R I ao=>ex8 ao λE L r m w hc xc k=>by
 refine(qzo hg hm (vZ ha wQ bg) bg) a8 s σ H R I (qY m w (hc) xc λE1 s h1 x L1 H1 e1 e2 m1 w1 ok fr sr st sm=>?_);cases hx:s.2 with
 | int j=>
  rw[hx]at h1;dsimp only at h1
  split at h1
  ·rename_i hj;cases oq9 h1;obtain⟨j1,j2⟩:=jz0 hj.1;refine#[j,by rw[(kQ ok (e2.trans hx))],j1,j2,?_];have wk:=qv4 (K:=Z.K) 0 j;rw[Int.sub_zero]at wk;exact k _ _ rfl _ [] L1 H1 m1 (by simp_all) (by simp_all) (by simp only[k6,X3,Y8,Int.sub_zero];exact hj.2) sm wk
  ·grind
 |_=>simp_all
theorem Mt.clr:∀{R E L},Mt E σ L->Mt (Q.clr R E) σ (Q.clr R L)
 | [],_,_,m=>m
 | j::R,E,L,m=>by
  have un:∀{E σ} {L} j,Mt E σ L->Mt (E.set j none) σ (L.set j none):=by
   intro E σ L j m
   induction m generalizing j with
   |nil=>exact .nil
   |un m ih=>cases j with|zero=>exact .un m|succ j=>exact .un (ih j)
   |cons m ih=>cases j with|zero=>exact .un m|succ j=>exact .cons (ih j)
  show Mt (Q.clr R _) σ _;exact Mt.clr (un j m)
theorem Mt.drop:∀{E σ L} (k),Mt E σ L->Mt (E.drop k) (σ.drop k) (L.drop k)
 |_,_,_,0,m=>m|_,_,_,k+1,.nil=>.nil|_,_,_,k+1,.un m=>m.drop k|_,_,_,k+1,.cons m=>m.drop k
theorem Mt.none_at:∀{E σ L} {j:Nat},Mt E σ L->E[j]?=some none->L[j]?=some none
 |_,_,_,_,.nil,h=>by simp_all|_,_,_,0,.un _,_=>by simp|_,_,_,j+1,.un m,h=>by simpa using m.none_at (by simpa using h)|_,_,_,j+1,.cons m,h=>by simpa using m.none_at (by simpa using h)
theorem Mt.pick:∀{R:List Nat},Mt E σ L->Mt (R.map (at' E)) (R.map (at' σ)) (R.map (at' L))
 | [],_=>.nil
 | j::R,m=>by
  rw[List.map_cons,List.map_cons,List.map_cons];cases hE:E[j]? with
  | none=>
   have hl:=m.len;have:L[j]?=none:=by rw[List.getElem?_eq_none_iff]at hE ⊢;lia
   rw[show at' E j=none from by unfold at';rw[hE];rfl,show at' L j=none from by unfold at';rw[this];rfl];exact .un m.pick
  | some s=>
   cases s with
   |none=>
    have:L[j]?=some none:=m.none_at hE;rw[show at' E j=none from by unfold at';rw[hE];rfl,show at' L j=none from by unfold at';rw[this];rfl];exact .un m.pick
   |some s=>
    obtain⟨x,h1,h2,h3,h4⟩:=m.get hE;rw[show at' E j=some (x.o,x.d)from by unfold at';rw[hE,h2,h3];rfl,show at' L j=some x from by unfold at';rw[h1];rfl,show at' σ j=some x.v from by unfold at';rw[h4];rfl];exact .cons m.pick
theorem Mt.rep:∀{k},Mt E σ L->Mt (List.replicate k none++E) (List.replicate k none++σ) (List.replicate k none++L)
 |0,m=>by simp_all
 |k+1,m=>by
  exact .un m.rep
theorem Mt.back:∀{R B τ M E L},Mt E σ L->Mt B τ M->(∀(i j:Nat) (v),R[i]?=some j->τ[i]?=some (some v)->σ[j]?=some (some v))->Mt (Q.back R B E) σ (Q.back R M L)
 | [],B,τ,M,E,L,m,_,_=>by simpa [Q.back]using m| j::R,_,_,_,E,L,m,.nil,_=>by simpa [Q.back]using m
 | j::R,_,_,_,E,L,m,.un mB,h=>by
  have un:∀{E σ} {L} j,Mt E σ L->Mt (E.set j none) σ (L.set j none):=by
   intro E σ L j m
   induction m generalizing j with
   |nil=>exact .nil
   |un m ih=>cases j with|zero=>exact .un m|succ j=>exact .un (ih j)
   |cons m ih=>cases j with|zero=>exact .un m|succ j=>exact .cons (ih j)
  show Mt _ σ (Q.back R _ _);exact Mt.back (un j m) mB λi jj v e1 e2=>h (i+1) jj v (by simpa using e1) (by simpa using e2)
 |j::R,_,_,_,E,L,m,.cons (x:=x) mB,h=>by
  have m1:=m.set (x:=x) j;rw[jxl (h 0 j x.v (by simp) (by simp))]at m1;show Mt _ σ (Q.back R _ _);exact Mt.back m1 mB λi jj v e1 e2=>h (i+1) jj v (by simpa using e1) (by simpa using e2)
section
variable {ay fu:Expr}{ff:List Expr}{scope:Scope}{N:List Str}{k:Nat}{R:List Nat}{it:Ev (List D)}{tt:Tg}{u:Ts}{o:Own}{q1 q2:Bool}
theorem wq6:JW k R σ=List.replicate k none++R.map (at' σ):=rfl
theorem xvq{K M}(hR:R.Nodup)(w:World K H (L++M)):World K H ((List.replicate k none++R.map (at' L))++(Q.clr R L++M))/\Step H (L++M) H ((List.replicate k none++R.map (at' L))++(Q.clr R L++M)):=by
 have p:(sls (L++M)).Perm (sls ((List.replicate k none++R.map (at' L))++(Q.clr R L++M))):=by
  have:=qqz (L:=L) hR;rw[Vq]at this;simp;rw[<-Xq];exact(this.append_right _).symm
 exact#[w.same p,Step.refl.same (List.Perm.refl _) p]
theorem wzs{K B M H2}(hR:R.Nodup)(hr:∀j∈R,j<L.length)(hB:B.length=k+R.length)(w:World K H2 (B++(Q.clr R L++M))):World K H2 (Q.back R (B.drop k) (Q.clr R L)++M)/\Step H2 (B++(Q.clr R L++M)) H2 (Q.back R (B.drop k) (Q.clr R L)++M):=by
 have p2:(sls (Q.back R (B.drop k) (Q.clr R L)++M)).Perm (sls (B.drop k++(Q.clr R L++M))):=by
  rw[Vq,<-Xq,Vq _];exact(kzl hR (λj hj=>vq3 hj) (λj hj=>by rw[vq2];exact hr j hj) (by simp_all)).append_right _
 have sub:(sls (B.drop k++(Q.clr R L++M))).Sublist (sls (B++(Q.clr R L++M))):=by
  rw[Vq,Vq B];exact List.Sublist.append ((List.drop_sublist k B).filterMap _) (List.Sublist.refl _)
 exact#[(w.sub sub).same p2.symm,(Step.refl.sub sub).same (List.Perm.refl _) p2.symm]
theorem kje:∀{is es E E'},setAll is es E=some E'->E'.length=E.length
 |[],[],_,_,h=>by cases oq9 h;rfl|i::is,d::es,E,E',h=>by rw[kje (E:=E.set i _) h,List.length_set]
theorem wk6{t:Tg}{d E E'}(h:t.put d E=some E'):E'.length=E.length:=by
 cases t with
 |n i=>cases oq9 h;rw[List.length_set]
 |t is=>
  cases d with|tup es=>exact kje (h)|lst es=>exact kje (h)|_=>cases h
theorem qjt{nN Q}(hσ:σ.length=nN)(hR:R.Nodup)(hr:∀j∈R,j<nN)(h:tQ Z q (cLC o k R it tt u c) σ H Q):tLC (tIS Z q it) (tG Z ((List.range R.length).map (k + ·)) tt) (tT Z q u) (tQ Z q c) k R σ H Q:=by
 obtain⟨E,L,r,m,w,js,xc,kk⟩:=h;have js:bnd (it E) (λE ds=>match lcL tt u c ds (Wz k R E) []with
  | some (.ok B xs)=>mkL o (JJ k R B E) xs| some (.exc B e)=>some (.exc (JJ k R B E) e)
  | none=>none)=some r:=js
 rcases wx js with⟨E1,ds,h1,h2⟩|⟨E1,cc,h1,h2⟩
 rotate_left
 ·exact#[E,L,_,m,w,h1,xc.map h2,λE' s' z=>by cases z]
 refine#[E,L,_,m,w,h1,(λ_ _ z=>by cases z),λE' ds' z J T L1 H1 m1 w1 st hz sm wk=>?_];injection z with z1 z2;subst z1 z2;have hL1:∀j∈R,j<L1.length:=λj hj=>by have:=m1.len;have:=hr j hj;lia
 obtain⟨wB,sB⟩:=xvq (k:=k) hR w1;cases hrB:lcL tt u c ds (Wz k R E1) []with
 | none=>simp_all
 | some rB=>
  rw [hrB]at h2;have lc:∀{H2 A B},World Z.K H2 (A++(B++(_root_.Q.clr R L1++T.map some)))->∀t∈T,t.ok Z.K H2:=λw2 t ht=>w2.ok t (lr9 _ (lr9 _ (lr9 _ (Xy ht))))
  have mB0:Mt (Wz k R E1) (JW k R σ) (List.replicate k none++R.map (at' L1)):=(m1.pick (R:=R)).rep;have vd:∀{B LB τ H2 A},Mt B τ LB->τ.length=k+R.length->Pn ((List.range R.length).map (k + ·)) (JW k R σ) τ->World Z.K H2 (LB++(A++(_root_.Q.clr R L1++T.map some))) ->
    Mt (JJ k R B E1) σ (_root_.Q.back R (LB.drop k) (_root_.Q.clr R L1))/\World Z.K H2 (A++_root_.Q.back R (LB.drop k) (_root_.Q.clr R L1))/\Step H2 (LB++(A++(_root_.Q.clr R L1++T.map some))) H2 (A++_root_.Q.back R (LB.drop k) (_root_.Q.clr R L1)):=fun {B LB τ H2 A} mB lB pB wB2=>by
   have hl:LB.length=k+R.length:=by rw[mB.len.2];exact lB
   have pm:(LB++(A++(_root_.Q.clr R L1++T.map some))).Perm (LB++(_root_.Q.clr R L1++(A++T.map some))):=by
    refine List.Perm.append_left _ ?_;rw [<-Xq,<-Xq];exact List.Perm.append_right _ List.perm_append_comm
   obtain⟨w3,s3⟩:=wzs (k:=k) hR hL1 hl (wB2.perm pm);have ui:(_root_.Q.back R (LB.drop k) (_root_.Q.clr R L1)++(A++T.map some)).Perm ((A++_root_.Q.back R (LB.drop k) (_root_.Q.clr R L1))++T.map some):=by
    rw [<-Xq];exact List.Perm.append_right _ List.perm_append_comm
   refine#[(Mt.back (m1.clr) (mB.drop k) λi j v e1 e2=>?_),(w3.perm ui).left,(s3.perm pm.symm ui).trans Step.dropT];have hi:=(List.getElem?_eq_some_iff.mp e1).1;rw [List.getElem?_drop,(pB (k+i) (List.mem_map.mpr #[i,List.mem_range.mpr hi,rfl])),wq6,Yl (by simp),Zb,show k+i - k=i from by lia,Xg,e1]at e2;have e4:at' σ j=some v:=by simpa using e2
   unfold at' at e4;cases hh:σ[j]? with| none=>simp_all| some s=>simp_all
  refine#[λi n ys τ H2=>∃(B:En) (LB:Ls) (af:List Sl),Mt B τ LB/\τ.length=k+R.length/\Pn ((List.range R.length).map (k + ·)) (JW k R σ) τ/\World Z.K H2 (LB++(af.map some++(_root_.Q.clr R L1++T.map some)))/\Step H L H2 (LB++(af.map some++(_root_.Q.clr R L1++T.map some))) /\
   ys=af.map Sl.v/\lcL tt u c (ds.drop i) B (af.map Sl.sd)=some rB/\i<=ds.length/\af.length<=i/\n=ds.length - i/\(q=true->kw H H2/\∀b∈jw (af.map some),H b=none),#[_,Wz k R E1,_,[],mB0,by simp[JW],Pn.refl,wB,st.trans sB,rfl,hrB,Y6 _,Y6 _,rfl,λhq=>#[sm hq,λ_ z=>(nomatch z)]],?_]
  rintro i n ys τ H2 ⟨B,LB,af,mB,lB,pB,wB2,sB2,rfl,f1,hi,az,rfl,smB⟩
  by_cases cz:i<ds.length
  rotate_left
  ·have e:i=ds.length:=⋯
   subst e;rw [List.drop_length]at f1;cases oq9 f1;obtain⟨m3,w3,s3⟩:=vd mB lB pB wB2;exact .inl #[wk.stop H2 (lc wB2) (λhq=>(smB hq).1),by rw[X3];lia,(qqf (σ:=σ) (Q:=Q) (o:=o) (xs:=af) h2 rfl w3 (sB2.trans s3) smB kk m3)]
  ·have hd:ds.drop i=ds[i]::ds.drop (i+1):=List.drop_eq_getElem_cons cz;rw [hd]at f1;unfold lcL at f1;cases cb:tt.put ds[i] B with
   | none=>rw[cb]at f1;cases f1
   | some B2=>
    rw [cb]at f1;dsimp only at f1;refine .inr #[wk.go i H2 (lc wB2) (λhq=>(smB hq).1) cz,λv H3 hy=>?_];obtain⟨z,zo,zd,zv,smz,u9,zas⟩:=wk.yld i H2 v H3 ds[i] (lc wB2) (λhq=>(smB hq).1) hy (X1 cz);have pm:(LB++(af.map some++(_root_.Q.clr R L1++T.map some))).Perm ((LB++(af.map some++_root_.Q.clr R L1))++T.map some):=by
     rw[<-Xq (af.map some),<-Xq]
    obtain⟨wz,sz⟩:=kqe (wB2.perm pm) wk.no smz u9 zo zas;have wz':World Z.K H3 ((some z::LB)++(af.map some++(_root_.Q.clr R L1++T.map some))):=wz.perm (by
     rw[List.cons_append,List.cons_append];exact List.Perm.cons _ pm.symm)
    have sz':Step H2 (LB++(af.map some++(_root_.Q.clr R L1++T.map some))) H3 ((some z::LB)++(af.map some++(_root_.Q.clr R L1++T.map some))):=sz.perm pm.symm (by
     rw[List.cons_append,List.cons_append];exact List.Perm.cons _ pm.symm)
    refine#[B,LB,z,B2,mB,wz'.left,zo,zv,by rw[zd];exact cb,fun τ2 LB2 p2 mB2 wB3 sB3=>?_];obtain⟨w4,s4⟩:=stay wz' sB3 wB3;have lB2:τ2.length=k+R.length:=by
     have h1:=mB2.len.1;have h2:=mB.len.1;have h3:=wk6 cb;lia
    have p3:=pB.trans p2;have ua:Step H L H3 (LB2++(af.map some++(_root_.Q.clr R L1++T.map some))):=sB2.trans (sz'.trans s4);have io:q=true->kw H H3/\∀b∈jw (af.map some),H b=none:=λhq=>#[kK (smB hq).1 smz,(smB hq).2]
    refine#[λy H5=>∃(B:En) (LB:Ls) (f9:List Sl),Mt B τ2 LB/\World Z.K H5 (LB++(f9.map some++(_root_.Q.clr R L1++T.map some)))/\Step H L H5 (LB++(f9.map some++(_root_.Q.clr R L1++T.map some)))/\af.map Sl.v++[y]=f9.map Sl.v/\f9.length=af.length+1/\lcL tt u c (ds.drop (i+1)) B (f9.map Sl.sd)=some rB/\(q=true->kw H H5/\∀b∈jw (f9.map some),H b=none),
     λH5=>∃B LB,Mt B τ2 LB/\World Z.K H5 (LB++(af.map some++(_root_.Q.clr R L1++T.map some)))/\Step H L H5 (LB++(af.map some++(_root_.Q.clr R L1++T.map some)))/\lcL tt u c (ds.drop (i+1)) B (af.map Sl.sd)=some rB/\(q=true->kw H H5/\∀b∈jw (af.map some),H b=none),
     λy H5 hz=>by obtain⟨B5,LB5,acc5,c1,c2,c3,c4,c5,c6,c7⟩:=hz;exact#[by rw[X3];lia,ds.length - (i+1),⋯,B5,LB5,acc5,c1,lB2,p3,c2,c3,c4,c6,cz,⋯,rfl,c7],
     λH5 hz=>by obtain⟨B5,LB5,c1,c2,c3,c6,c7⟩:=hz;exact#[ds.length - (i+1),⋯,B5,LB5,af,c1,lB2,p3,c2,c3,rfl,c6,cz,⋯,rfl,c7],?_]
    have xcB:∀{α H6 L6 B6 cc A},rB=.exc B6 cc->World Z.K H6 (L6++(A++(_root_.Q.clr R L1++T.map some)))->Step H L H6 (L6++(A++(_root_.Q.clr R L1++T.map some)))->Xc Z τ2 H6 L6 (.exc B6 cc:Res α):=fun {α H6 L6 B6 cc A} er w6 s6 E7 c7 e7 C L7 H7 hm m7 w7 s7=>by
     injection e7 with e8 e9;subst e8 e9;subst er;cases oq9 h2;obtain⟨w8,s8⟩:=stay w6 s7 w7;obtain⟨m9,w9,s9⟩:=vd m7 lB2 p3 w8;exact xc _ _ rfl C _ H7 hm m9 w9.right ((s6.trans (s8.trans s9)).trans #[λ_ _ h _=>h,λa ha=>.inl (by rw[k9];exact lr9 _ ha),λa ha=>.inl (by rw[v5];exact lr9 _ ha)])
    rcases wx f1 with⟨B4,kb,g1,g2⟩|⟨B4,cc,g1,g2⟩
    rotate_left
    ·exact#[B2,LB2,_,mB2,wB3,g1,xcB g2 w4 ua,λE' s' z=>by cases z]
    refine#[B2,LB2,_,mB2,wB3,g1,(λ_ _ z=>by cases z),λE' s' z LB4 H4 mB4 wB4 sB4 pw=>?_];injection z with z1 z2;subst z1 z2;obtain⟨w5,s5⟩:=stay w4 sB4 wB4;have lv:=ua.trans s5;cases kb with
    | false=>
     rw[Xi ⋯]at g2 ⊢;exact#[B4,LB4,mB4,w5,lv,g2,λhq=>#[kK (io hq).1 (pw hq),(io hq).2]]
    | true=>
     rw[Xd rfl]at g2 ⊢;rcases wx g2 with⟨B6,y,g3,g4⟩|⟨B6,cc,g3,g4⟩
     rotate_left
     ·exact#[B4,LB4,_,mB4,wB4,g3,xcB g4 w5 lv,λE' s' z=>by cases z]
     refine#[B4,LB4,_,mB4,wB4,g3,(λ_ _ z=>by cases z),λE' s' z x LB6 H6 ex ey mB6 wB6 sB6 sm6=>?_];injection z with z1 z2;subst z1 z2;obtain⟨w7,s7⟩:=stay w5 sB6 wB6;have pm3:((some x::LB6)++(af.map some++(_root_.Q.clr R L1++T.map some))).Perm (LB6++((af++[x]).map some++(_root_.Q.clr R L1++T.map some))):=by
      rw[X7,List.cons_append];have:(LB6++(af.map some++[x].map some++(_root_.Q.clr R L1++T.map some)))=(LB6++af.map some)++some x::(_root_.Q.clr R L1++T.map some):=by simp
      rw[this];refine List.Perm.trans ?_ List.perm_middle.symm;rw[Xq]
     refine#[B6,LB6,af++[x],mB6,w7.perm pm3,(lv.trans s7).perm (List.Perm.refl _) pm3,by simp,by simp,?_,λhq=>#[kK (io hq).1 (kK (pw hq) (sm6 hq).1),λb hb=>?_]]
     ·rwa [X7,show[x].map Sl.sd=[y]from by simp[Sl.sd,ex,ey]]
     ·rw[X7,k9]at hb;rcases aA hb with hb|hb
      ·exact(io hq).2 b hb
      ·have hb:b∈x.own:=by simpa using hb
       exact Jj (kK (io hq).1 (pw hq)) ((sm6 hq).2 b hb)
theorem xx2(N)(hi:QI X Z q tg it ay)
  (hg:∀cl C s0 H0 fp,QG (lcE X scope N cl C s0 H0 fp Z.EX) Z ((List.range R.length).map (k + ·)) tt tg) (ht:∀cl C s0 H0 fp,PTs (lcE X scope N cl C s0 H0 fp Z.EX) ff (tT Z q u)) (he:∀cl C s0 H0 fp,QE (lcE X scope N cl C s0 H0 fp Z.EX) Z q c fu)
  (gx:xz X Z.EX) (top:JK X) (hR:R.Nodup) (hr:∀j∈R,j<X.N.length) (hc:autoParam (X.calm=true) Ŕ) (hk:autoParam (scope.kind=.function) Ŕ) (ku:autoParam (KW X.N X.env.scope scope N k R=true) Ŕ) (hs:autoParam (∀x,foldedSetIterable ay X.env x=pure x) Ŗ):
  QE X Z q (cLC o k R it tt u c) (.ListComp fu [#[tg,ay,ff,0]] scope pos):=λa8 s σ H Q I hw=>
 vzh N k R (xx1 hi) hg ht he gx top hc hk ku hs a8 s σ H Q I (qjt I.len hR hr hw)
theorem xv3(N)(hi:QIS X Z q tg it ay)
  (hg:∀cl C s0 H0 fp,QG (lcE X scope N cl C s0 H0 fp Z.EX) Z ((List.range R.length).map (k + ·)) tt tg) (ht:∀cl C s0 H0 fp,PTs (lcE X scope N cl C s0 H0 fp Z.EX) ff (tT Z q u)) (he:∀cl C s0 H0 fp,QE (lcE X scope N cl C s0 H0 fp Z.EX) Z q c fu)
  (gx:xz X Z.EX) (top:JK X) (hR:R.Nodup) (hr:∀j∈R,j<X.N.length) (hc:autoParam (X.calm=true) Ŕ) (hk:autoParam (scope.kind=.function) Ŕ) (ku:autoParam (KW X.N X.env.scope scope N k R=true) Ŕ) (hs:autoParam (∀x,foldedSetIterable ay X.env x=pure x) Ŗ):
  QE X Z q (cLC o k R it tt u c) (.ListComp fu [#[tg,ay,ff,0]] scope pos):=λa8 s σ H Q I hw=>
 vzh N k R hi hg ht he gx top hc hk ku hs a8 s σ H Q I (qjt I.len hR hr hw)
theorem qzg{EX wi g tte te i y py spos}(N)(k)(R)(hN:X.N.Nodup)(hy:X.N[i]?=some y)(hx:Loc X.env.scope y)(hi:PI X tg ay wi)
  (hg:∀cl C s0 H0 fp,PG (lcE X scope N cl C s0 H0 fp EX) tg g) (ht:∀cl C s0 H0 fp,PTs (lcE X scope N cl C s0 H0 fp EX) ff tte) (he:∀cl C s0 H0 fp,PE (lcE X scope N cl C s0 H0 fp EX) fu te) (gx:xz X EX) (top:JK X)
  (tm:autoParam (swapsWith (.ListComp fu [#[tg,ay,ff,0]] scope pos) (some (.Name y py)) spos.line X.env=pure true) Ŕ)
  (hc:autoParam (X.calm=true) Ŕ) (hk:autoParam (scope.kind=.function) Ŕ) (ku:autoParam (KW X.N X.env.scope scope N k R=true) Ŕ) (hs:autoParam (∀x,foldedSetIterable ay X.env x=pure x) Ŗ)
  (hf:autoParam (X.fn y=true\/X.env.scope.names.lookup y=some .local) ś):
  PS X (.Assign [.Name y py] (.ListComp fu [#[tg,ay,ff,0]] scope pos) spos) (λD σ H=>tLC wi g tte te k R σ H λv H1=>D.nx (σ.set i (some v)) H1):=by
 intro a8 s σ H D I h;have sc:=qqi hk ku;obtain⟨cl,mf,dv,ci⟩:=kqm λy hy e=>I.ok.has y.1 (sc.caps y hy e)
 rw[exec_Assign_Name_used _ _ _ _ tm];refine X0 (wpAny_standAt (X0 ?_));refine X0 (thn (wpAny_comprehension_free rfl hs mf sc.kind sc.names
  (thn (hi a8 s σ H _ I h) λv s1 h1=>thn h1 λitv s2 h2=>?_)) λ_ s' hq=>X6 (X6 hq))
 obtain⟨it,fp,tn,J,H2,e,I2,T,ca,f2,W,w0,gb⟩:=h2;subst e;refine kxo hc top sc dv ci (hg cl) (ht cl) (he cl) I2 T ca f2 w0 gb ?_ ?_
 rotate_left
 ·intro D' C s' db σ' H' x T Cc fl hC t q;exact vzp gx I2 f2 hC t q
 intro L C oC m ys H' s' I' eC nC fC q;refine wpAny_assign_Name (jzx I' hN hy hx (v:=.ref L) rfl (λkf I''=>?_) hf);have pC:=I''.pin _ (lr9 _ (lr9 _ (aB rfl)));refine#[m,nC.at' λo e=>?_,λh' sb=>#[_,_,I''.unpinned.turned (t':=kf.toks) (λb o hb e=>(sb.2 b hb).trans e) fC.1 fC.2.1 fC.2.2.2.1 fC.2.2.2.2.1 fC.2.2.2.2.2,q]]
 grind
theorem qja{i y py spos}(N)(hN:X.N.Nodup)(hy:X.N[i]?=some y)(hx:Loc X.env.scope y)(hi:QI X Z q tg it ay)
  (hg:∀cl C s0 H0 fp,QG (lcE X scope N cl C s0 H0 fp Z.EX) Z ((List.range R.length).map (k + ·)) tt tg) (ht:∀cl C s0 H0 fp,PTs (lcE X scope N cl C s0 H0 fp Z.EX) ff (tT Z q u)) (he:∀cl C s0 H0 fp,QE (lcE X scope N cl C s0 H0 fp Z.EX) Z q c fu)
  (gx:xz X Z.EX) (top:JK X) (hR:R.Nodup) (hr:∀j∈R,j<X.N.length) (hp:autoParam (i∉pn) ŕ)
  (tm:autoParam (swapsWith (.ListComp fu [#[tg,ay,ff,0]] scope pos) (some (.Name y py)) spos.line X.env=pure true) Ŕ)
  (hc:autoParam (X.calm=true) Ŕ) (hk:autoParam (scope.kind=.function) Ŕ) (ku:autoParam (KW X.N X.env.scope scope N k R=true) Ŕ) (hs:autoParam (∀x,foldedSetIterable ay X.env x=pure x) Ŗ)
  (hf:autoParam (X.fn y=true\/X.env.scope.names.lookup y=some .local) ś):
  QS X Z pn (jv i (cLC o k R it tt u c)) (.Assign [.Name y py] (.ListComp fu [#[tg,ay,ff,0]] scope pos) spos):=
 wxj hp λa8 s σ H D I hw=>qzg N k R hN hy hx (xx1 hi) hg ht he gx top tm hc hk ku hs hf a8 s σ H D I (qjt I.len hR hr hw)
end
end
section
variable {X:Cx}{Z:Fx0}{K:Frag}{pn:List Nat}{q qa qb:Bool}{a b c:Ex}{u:Ts}{tg e ea eb:Expr}{σ:L2.St}{H:Hp}{L:Ls}{E:En}{pos p:Pos}{x:Str}{id T:String}{r:List V->Hp->VK->Prop}{f:Sd->Option Sd}{g:Sd->Sd->Option Sd}
theorem wx3:PTs X [] (tT Z q _root_.Q.tYes):=λa8 s σ H Q I ao=>ex8 ao λE L r m w hc xc k=>by
 cases oq9 hc;exact wka a8 s σ H Q I (k _ _ rfl L H m w Step.refl λ_=>xQ)
theorem YV(h:QT X Z q u e):PTs X [e] (tT Z q u):=wk9 h
theorem xkz(hc:CallR X (.builtin id) r)(ad:Ad1 Z.K (λv H Q=>r [v] H Q) f)(ha:QV X Z q a ea)(hm:X.mg x=none)(hv:bootBuiltins x=some (.builtin id))(hg:autoParam (Gl X x) Ŕ)(hn:autoParam (x≠"__name__") ŕ)(fk:autoParam (Abd x) ŕ)
  (he:autoParam (Abs ea [] X) Ŕ) (bv:autoParam (Abb pos [] X) Ŕ):QE X Z q (cF1 f a) (.Call (.Name x p) [ea] [] pos):=
 q9 (kve hc hg hm hv (vZ ha wQ he) hn fk he bv) fun σ H Q h=>Zz ad h
theorem Jv(hc:CallR X (.type T) r)(ad:Ad1 Z.K (λv H Q=>r [v] H Q) f)(ha:QV X Z q a ea)(hm:X.mg x=none)(hv:bootBuiltins x=some (.type T))(hg:autoParam (Gl X x) Ŕ)(hn:autoParam (x≠"__name__") ŕ)(fk:autoParam (Abd x) ŕ)
  (he:autoParam (Abs ea [] X) Ŕ) (bv:autoParam (Abb pos [] X) Ŕ):QE X Z q (cF1 f a) (.Call (.Name x p) [ea] [] pos):=
 q9 (qzp hc hg hm hv (vZ ha wQ he) hn fk he bv) fun σ H Q h=>Zz ad h
theorem q_b2(hc:CallR X (.builtin id) r)(ad:Ad2 Z.K (λv w H Q=>r [v,w] H Q) g)(ha:QV X Z q a ea)(hb:QV X Z true b eb)(hm:X.mg x=none)(hv:bootBuiltins x=some (.builtin id))(hg:autoParam (Gl X x) Ŕ)(hn:autoParam (x≠"__name__") ŕ)(fk:autoParam (Abd x) ŕ)
  (he:autoParam (starEach [ea,eb] X.env=(false,eval ea X.env)::starEach [eb] X.env) Ŕ) (he2:autoParam (Abs eb [] X) Ŕ) (bv:autoParam ((backTo pos (starEach [eb] X.env)).any (·.1)=false) Ŕ):QE X Z q (cF2 g a b) (.Call (.Name x p) [ea,eb] [] pos):=
 q9 (kve hc hg hm hv (vZ ha (vZ hb wQ he2) he) hn fk he bv) fun σ H Q h=>kj9 ad h
theorem xke:Ad1 K (λv H Q=>qxz K [v] H Q) (pu1 kz):=by
 intro H x s Q ok hf k;unfold pu1 at hf;have fin:∀n,kz x.d=some (.int n)->Q (.int n) H:=λn e=>by
  rw[e]at hf;cases oq9 hf;exact k _ H rfl rfl Jw
 cases hx:x.d with
 |lst ds=>
  obtain⟨l,xs,bs,e,q,r,_⟩:=items ok (.inl hx);refine .inl #[l,xs,by rw[e],?_,by rw[<-r.len];exact fin ds.length (by rw[hx];rfl)];rcases q with⟨_,z⟩|⟨_,z⟩
  ·exact .inl (JV z)
  ·exact .inr z
 |tup ds=>
  obtain⟨l,xs,bs,e,q,r,_⟩:=items ok (.inr hx);refine .inl #[l,xs,by rw[e],?_,by rw[<-r.len];exact fin ds.length (by rw[hx];rfl)];rcases q with⟨_,z⟩|⟨_,z⟩
  ·exact .inl (JV z)
  ·exact .inr z
 |str z=>
  obtain⟨e,hz⟩:=z9 ok hx;exact .inr (.inl #[z,by rw[e],hz,fin z.length (by rw[hx];rfl)])
 |_=>rw[hx]at hf;cases hf
def wwx(K:Frag):List V->Hp->VK->Prop:=λxs H Q=>xwz K xs H Q\/(∃p ys U,xs=[.ref p,.ty U]/\SqT K H p ys/\U∈kinds.tail/\Q (.bl (xj9 "tuple" U)) H)\/∃p ys U,xs=[.ref p,.ty U]/\SqL K H p ys/\U∈kinds.tail/\Q (.bl (xj9 "list" U)) H
theorem vq9(hK:autoParam (X.K=K) Ŕ):CallR X (.builtin "isinstance") (wwx K):=by
 subst hK;intro a8 s σ H xs us Q I r h;rcases h with h|⟨p,ys,U,rfl,hq,hU,q⟩|⟨p,ys,U,rfl,hq,hU,q⟩
 ·exact vxa a8 s σ H xs us Q I r h
 ·obtain⟨u,w',rfl,r1,r2⟩:=vv2 r;cases(show w'=Value.type U from r2);cases r1;obtain⟨ac,_,⟨o,h1,h2,_⟩,_⟩:=I.tuple hq;exact Yf PySem.W.kitx_tuple I.kIn #[o,h1,h2] (qju ⋯ hU) (λz=>nomatch z) λtk=>#[.bl _,H,I.tok _,rfl,q]
 ·obtain⟨u,w',rfl,r1,r2⟩:=vv2 r;cases(show w'=Value.type U from r2);cases r1;obtain⟨ac,_,⟨o,n,h1,h2,_⟩,_⟩:=I.list hq;exact Yf PySem.W.kitx_list I.kIn #[o,h1,h2] (qju ⋯ hU) (λz=>nomatch z) λtk=>#[.bl _,H,I.tok _,rfl,q]
theorem xkf{U}(hU:U∈kinds.tail):Ad1 K (λv H Q=>wwx K [v,.ty U] H Q) (pu1 (vk U)):=by
 intro H x s Q ok hf k;unfold pu1 vk at hf;have fin:∀T,kind x.d=T->(∀c f,x.d≠.obj c f)->Q (.bl (xj9 T U)) H:=λT e ho=>by
  cases hx:x.d with
  |obj c f=>exact absurd hx (ho c f)|dct kvs=>simp_all
  |_=>
   rw[hx]at hf;cases oq9 hf;rw[<-e,hx];exact k _ H rfl rfl wK
 cases hx:x.d with
 |non=>exact .inl #[x.v,"NoneType",U,rfl,by rw[vzk ok hx];exact .non,⋯,hU,fin _ (by rw[hx];rfl) (by simp_all)]|bl k=>exact .inl #[x.v,"bool",U,rfl,by rw[Q0 ok hx];exact .bl _,⋯,hU,fin _ (by rw[hx];rfl) (hx▸λ_ _ z=>nomatch z)]|int k=>exact .inl #[x.v,"int",U,rfl,by rw[kQ ok hx];exact .int _,⋯,hU,fin _ (by rw[hx];rfl) (hx▸λ_ _ z=>nomatch z)]|str k=>exact .inl #[x.v,"str",U,rfl,by rw[(z9 ok hx).1];exact .str _,⋯,hU,fin _ (by rw[hx];rfl) (hx▸λ_ _ z=>nomatch z)]
 |lst ds=>
  obtain⟨l,xs,bs,e,q,r,_⟩:=items ok (.inl hx);have f:=fin "list" (by rw[hx];rfl) (hx▸λ_ _ z=>nomatch z);rcases q with⟨_,z⟩|⟨z,_⟩
  ·exact .inr (.inr #[l,xs,U,by rw[e],z.sq,hU,f])
  ·simp_all
 |tup ds=>
  obtain⟨l,xs,bs,e,q,r,_⟩:=items ok (.inr hx);have f:=fin "tuple" (by rw[hx];rfl) (hx▸λ_ _ z=>nomatch z);rcases q with⟨z,_⟩|⟨_,z⟩
  ·simp_all
  ·exact .inr (.inl #[l,xs,U,by rw[e],z,hU,f])
 |dct kvs=>simp_all|obj c f=>simp_all
theorem K7{U y p2}(ha:QV X Z q a ea)(hm:X.mg "isinstance"=none)(hmy:X.mg y=none)(hy:bootBuiltins y=some (.type U))(hK:X.K=Z.K)(hU:autoParam (U∈kinds.tail) ŕ)(hg:autoParam (Gl X "isinstance") Ŕ)(hgy:autoParam (Gl X y) Ŕ)(hny:autoParam (y≠"__name__") ŕ)(hdy:autoParam (Abd y) ŕ)
  (he:autoParam (starEach [ea,.Name y p2] X.env=(false,eval ea X.env)::starEach [.Name y p2] X.env) Ŕ) (he2:autoParam (starEach [.Name y p2] X.env=(false,eval (.Name y p2) X.env)::starEach [] X.env) Ŕ) (bv:autoParam ((backTo pos (starEach [.Name y p2] X.env)).any (·.1)=false) Ŕ):
  QE X Z q (cF1 (pu1 (vk U)) a) (.Call (.Name "isinstance" p) [ea,.Name y p2] [] pos):=
 q9 (kve (vq9 hK) hg hm kwd (vZ ha (vZ (wkq (v:=.ty U) hgy hmy hy rfl hny hdy) wQ he2) he) ⋯ ⋯ he bv) fun σ H Q h=>Zz (xkf hU) h
set_option tactic.hygienic true in
theorem kzp:Ad1 K (λv H Q=>qz0 [v] H Q) (pu1 J7):=by
 intro H x s Q ok hf k;unfold pu1 J7 at hf;dsimp only at hf
 split at hf
 ·rename_i i e;cases oq9 hf;exact .inl #[i,by rw[kQ ok e],k _ H rfl rfl Jw]
 ·rename_i i e;cases oq9 hf;exact .inr (.inl #[i,by rw[Q0 ok e],k _ H rfl rfl Jw])
 ·rename_i z e
  split at hf
  ·rename_i hz;cases ht:PySem.intText? z with
   |none=>grind
   |some n=>
    rw[ht]at hf;cases oq9 hf;exact .inr (.inr #[z,n,by rw[(z9 ok e).1],ht,hz,k _ H rfl rfl Jw])
  ·grind
 ·grind
set_option tactic.hygienic true in
theorem qkf:Ad1 K (λv H Q=>qxy K [v] H Q) W0:=by
 intro H x s Q ok hf k;unfold W0 at hf;dsimp only at hf
 split at hf
 ·rename_i ds e
  split at hf
  ·rename_i hl;cases oq9 hf;obtain⟨l,xs,bs,ev,q3,r3,h3⟩:=zQ ok (.inl e) hl;have q3:LsR K H l xs:=by rcases q3 with⟨_,z⟩|⟨z,_⟩;exact z;rw[e]at z;cases z
   exact#[l,xs,by rw[ev],.inl (JV q3),λp hp=>k _ _ rfl rfl (K6 hp r3 h3)]
  ·cases hf
 ·rename_i ds e
  split at hf
  ·rename_i hl;cases oq9 hf;obtain⟨l,xs,bs,ev,q3,r3,h3⟩:=zQ ok (.inr e) hl;have q3:SqT K H l xs:=by rcases q3 with⟨z,_⟩|⟨_,z⟩;rw[e]at z;cases z;exact z
   exact#[l,xs,by rw[ev],.inr q3,λp hp=>k _ _ rfl rfl (K6 hp r3 h3)]
  ·cases hf
 ·cases hf
def qq0(K:Frag):List V->Hp->VK->Prop:=λxs H Q=>∃p ys,xs=[.ref p]/\((SqL K H p ys/\∀l,H l=none->Q (.ref l) (upd H l (.tup ys)))\/(SqT K H p ys/\Q (.ref p) H))
theorem vqb(hK:X.K=K):CallR X (.type "tuple") (qq0 K):=by subst hK;exact kwa
set_option tactic.hygienic true in
theorem vxi:Ad1 K (λv H Q=>qq0 K [v] H Q) z8:=by
 intro H x s Q ok hf k;unfold z8 at hf;dsimp only at hf
 split at hf
 ·rename_i ds e
  split at hf
  ·rename_i hl;cases oq9 hf;obtain⟨l,xs,bs,ev,q3,r3,h3⟩:=zQ ok (.inl e) hl;have q3:LsR K H l xs:=by rcases q3 with⟨_,z⟩|⟨z,_⟩;exact z;rw[e]at z;cases z
   exact#[l,xs,by rw[ev],.inl #[JV q3,λp hp=>k _ _ rfl rfl (kjq hp r3 h3)]]
  ·cases hf
 ·rename_i ds e
  split at hf
  ·rename_i hl;cases oq9 hf;obtain⟨l,xs,bs,ev,q3,r3,h3⟩:=zQ ok (.inr e) hl;have q3:SqT K H l xs:=by rcases q3 with⟨z,_⟩|⟨_,z⟩;rw[e]at z;cases z;exact z
   exact#[l,xs,by rw[ev],.inr #[q3,k #[.no,.tup ds,.ref l,bs] H rfl rfl #[xQ,(#[l,xs,rfl,q3,r3]),λb hb=>(nomatch hb),Xr,λb hb=>h3 b hb]]]
  ·cases hf
 ·cases hf
set_option tactic.hygienic true in
theorem xwg{h:Int->Int->Int}{f}(hh:∀i j,f i j=some (h i j)):Ad2 K (λv w H Q=>(λxs H Q=>∃i j,xs=[.int i,.int j]/\Q (.int (h i j)) H:List V->Hp->VK->Prop) [v,w] H Q) (pu2 (i2 f)):=by
 intro H x y s Q ox oy hf k;unfold pu2 i2 at hf;dsimp only at hf
 split at hf
 ·rename_i i j e1 e2;rw[hh]at hf;cases oq9 hf;exact#[i,j,by rw[kQ ox e1,kQ oy e2],k _ H rfl rfl Jw]
 ·cases hf
theorem vqg{g}:∀{ds bs xs as},bls ds=some bs->RepA K H g ds xs as->xs=bs.map V.bl
 | [],bs,xs,as,h,r=>by
  cases oq9 h;exact r.1
 | d::ds,bs,xs,as,h,r=>by
  cases d with
  | bl b=>
   unfold bls at h;cases hb:bls ds with
   |none=>grind
   |some f8=>
    rw[hb]at h;cases oq9 h;obtain⟨x,rr,c1,c2,rfl,rfl,h1,h2⟩:=r;rw[h1.1,vqg hb h2];rfl
  |_=>unfold bls at h;cases h
set_option tactic.hygienic true in
theorem xkl:Ad1 K (λv H Q=>xv0 K [v] H Q) (pu1 xq4):=by
 intro H x s Q ok hf k;unfold pu1 xq4 at hf;dsimp only at hf
 split at hf
 ·rename_i ds e;cases hb:bls ds with
  |none=>simp_all
  |some bs=>
   rw[hb]at hf;cases oq9 hf;obtain⟨l,xs,cs,ev,q3,r3,_⟩:=items ok (.inl e);have q3:LsR K H l xs:=by rcases q3 with⟨_,z⟩|⟨z,_⟩;exact z;rw[e]at z;cases z
   exact#[l,bs,by rw[ev],by rw[<-vqg hb r3];exact JV q3,k _ H rfl rfl wK]
 ·cases hf
theorem Qk{g}:∀x y s,pu2 (c2 g) x y=some s->∃k,s.2=.bl k:=by
 intro x y s h;unfold pu2 c2 at h
 split at h
 ·grind
 ·grind
theorem xwd:∀x y s,pu2 fEq x y=some s->∃k,s.2=.bl k:=by
 intro x y s h;unfold pu2 fEq at h
 split at h
 ·grind
 ·grind
theorem xwc:∀x y s,pu2 fNe x y=some s->∃k,s.2=.bl k:=by
 intro x y s h;unfold pu2 fNe at h
 split at h
 ·grind
 ·grind
theorem vzv{x y d}(h:fIn x y=some d):∃k,d=.bl k:=by
 unfold fIn at h
 split at h
 ·split at h
  ·grind
  ·grind
 ·grind
 ·split at h
  ·grind
  ·grind
 ·grind
 ·grind
theorem vqi:∀x y s,pu2 zX x y=some s->∃k,s.2=.bl k:=by
 intro x y s h;unfold pu2 zX at h
 split at h
 ·grind
 ·cases hf:fIn x.2 y.2 with
  |none=>grind
  |some d=>
   rw[hf]at h;cases oq9 h;exact vzv hf
theorem kj7:∀x y s,pu2 zW x y=some s->∃k,s.2=.bl k:=by
 intro x y s h;unfold pu2 zW W6 at h
 split at h
 ·grind
 ·cases hf:fIn x.2 y.2 with
  |none=>rw[hf]at h;cases h
  |some d=>
   obtain⟨k,rfl⟩:=vzv hf;rw[hf]at h;cases oq9 h;exact#[_,rfl]
theorem xk4:∀x y s,f2First fIsNon x y=some s->∃k,s.2=.bl k:=by
 intro x y s h;unfold f2First fIsNon at h
 split at h
 ·grind
 ·grind
theorem wv8:∀x y s,f2First fNotNon x y=some s->∃k,s.2=.bl k:=by
 intro x y s h;unfold f2First fNotNon at h
 split at h
 ·grind
 ·grind
theorem kqv:∀{xs us},xs.length=us.length->(∀(i:Nat) (x) (u),xs[i]?=some x->us[i]?=some u->RelV x u)->Vals xs us
 |[],[],_,_=>.nil|[],_::_,h,_=>by simp_all|x::xs,u::us,h,f=>.cons (f 0 x u (by simp) (by simp)) (kqv (by simpa using h) λi x u e1 e2=>f (i+1) x u (by simpa using e1) (by simpa using e2))
theorem wxz{p2 bp}(ha:QV X Z q a ea)(oz:X.mg "range"=none)(p8:Gl X "range")(bg:starEach [ea] X.env=(false,eval ea X.env)::starEach [] X.env)(bv:(backTo bp (starEach [] X.env)).any (·.1)=false):PE X (.Call (.Name "range" p2) [ea] [] bp) (fun σ H Q=>tV Z q a σ H λv H1=>∃j,v=.int j/\∀pp,H1 pp=none->Q (.ref pp) (upd H1 pp (.rng 0 j))):=by
 intro a8 s σ H Q I h;refine Call_ (J6 I p8 oz boot_range (Y1 (thn (vZ ha wQ bg bp a8 s σ H (λvs H1=>∃j,vs=[.int j]/\∀pp,H1 pp=none->Q (.ref pp) (upd H1 pp (.rng 0 j))) I ?_) λus s1 #[vs,H1,I1,r1,j,e,q1]=>?_) bg bv))
 ·grind
 ·subst e;obtain⟨u,rfl,t,rfl⟩:=r1.one;refine call_range_1 #[.ref s1.heap.objs.size,_,I1.laid (o:=.rng 0 j) (λb o e=>X2 _ e) (Xa _) #[_,_,_,X9 _ rfl],rfl,q1 _ I1.fresh]
theorem wjv{K H}(ns:List Nat):RepA K H true (ns.map λ(i:Nat)=>D.int (0+i)) (ns.map λ(i:Nat)=>V.int (0+i)) []:=by
 induction ns with
 |nil=>unfold RepA;exact#[rfl,rfl]
 |cons i ns ih=>
  exact#[_,_,[],[],rfl,rfl,vK,ih]
theorem vv1{n}{af:Array Value}(hs:af.size=n)(hg:∀(i:Nat) u,af[i]?=some u->∃t,u=.int (0+i*1) t):Vals ((List.range n).map λ(i:Nat)=>V.int (0+i)) af.toList:=kqv (by simp[hs]) λi x u ex eu=>by
 rw[Yp]at eu;obtain⟨t,rfl⟩:=hg i u eu;rw[Xg]at ex;obtain⟨m,hr,rfl⟩:=Option.map_eq_some_iff.mp ex;obtain⟨_,h2⟩:=List.getElem?_eq_some_iff.mp hr;rw[List.getElem_range]at h2;subst h2;exact#[t,by rw[Int.mul_one]]
set_option tactic.hygienic true in
theorem qza{p2 bp}(ha:QV X Z q a ea)(oz:X.mg "range"=none)(vf:X.mg "list"=none)(hc:autoParam (X.calm=true) Ŕ)(p8:autoParam (Gl X "range") Ŕ)(so:autoParam (Gl X "list") Ŕ)
  (bg:autoParam (Abs ea [] X) Ŕ) (bv:autoParam (Abb bp [] X) Ŕ)
  (jf:autoParam (starEach [.Call (.Name "range" p2) [ea] [] bp] X.env=(false,eval (.Call (.Name "range" p2) [ea] [] bp) X.env)::starEach [] X.env) Ŕ) (lu:autoParam (Abb pos [] X) Ŕ):
  QE X Z q (QZ a) (.Call (.Name "list" p) [.Call (.Name "range" p2) [ea] [] bp] [] pos):=by
 intro a8 s σ H Q I ⟨E,L,r,m,w,js,xc,k⟩;refine Z0 (J6 I so vf V0 (Y1 (thn (vZ (wxz ha oz p8 bg bv) wQ jf pos a8 s σ H (λvs H1=>∃pp j,vs=[.ref pp]/\H1 pp=some (.rng 0 j)/\z6 j=true/\j.toNat<=big/\∀l,H1 l=none->Q (.ref l) (upd H1 l (.lst ((List.range j.toNat).map λ(i:Nat)=>V.int (0+(i)))))) I ?_) λus s1 #[vs,H1,I1,r1,pp,j,e,hp,h62,qg,q1]=>?_) jf lu))
 ·refine qY m w (js) xc λE1 s h1 x L1 H1 e1 e2 m1 w1 ok fr sr st sm=>?_
  cases hx:s.2 with
  | int j=>
   rw[hx]at h1;dsimp only at h1
   split at h1
   ·rename_i hj;cases oq9 h1;refine#[j,kQ ok (e2.trans hx),λpp hpp=>#[pp,j,rfl,wW,hj.1,hj.2,λl hl=>?_]];have s1:kw H1 (upd H1 pp (.rng 0 j)):=x5 hpp;have w2:World Z.K _ L1:=#[λx hx=>RepO.kp (w1.ok x hx) (Kp.of_same s1),w1.nd,w1.ds];have o:=K6 (K:=Z.K) (fr:=[]) hl (wjv (List.range j.toNat)) (λ_ z=>(nomatch z));obtain⟨w3,dy⟩:=Kz w2 (st.trans #[λb ob z _=>s1 b ob z,λb z=>.inl z,λb z=>.inl z]) o (λ_ z=>(nomatch z)) (λ_ z=>(nomatch z)) (λ_ z=>(nomatch z));refine k _ _ rfl #[.rt,.lst _,.ref l,[l]] L1 _ rfl rfl m1 (by simpa [k6]using w3) (by simpa [k6]using dy) λhq=>#[kK (sm hq) (kK s1 o.same),λb hb=>?_]
    have:b=l:=by simpa [Sl.own]using hb
    subst this;exact Jj (kK (sm hq) s1) hl
   ·cases h1
  |_=>rw[hx]at h1;cases h1
 ·subst e;obtain⟨u,rfl,rx⟩:=r1.one;cases rx;obtain⟨t1,t2,t3,hg⟩:=(I1.hok pp _ hp);obtain⟨j1,j2⟩:=jz0 h62;have e2:Builtin.Range.rangeSize 0 j 1=((j.toNat:Nat):Int):=by rw[rangeSize_one];split<;>lia
  refine call_list_range (I1.ok.hd hc) (hg) (small_one ⋯ ⋯ j1 j2) e2 qg λh' tk f9 c' kp e4 fq=>?_
  obtain⟨hs,ud⟩:=fq;refine#[.ref s1.heap.objs.size,_,I1.laid (o:=.lst _) (t':=tk) kp (Xa _) #[by rw[X3,Y8];exact qg,f9.toList,c',vv1 hs ud,by simpa using e4],rfl,q1 _ I1.fresh]
end
end Q
namespace Q
open PySem
def qxm:Sm:=λ_=>none
def V8(n d:Nat):Option Int->Nat
 |none=>d|some v=>if v<0 then(v+(n:Int)).toNat else min v.toNat n
def J3(xs:List D)(lo hi:Option Int):List D:=(xs.drop (V8 xs.length 0 lo)).take (V8 xs.length xs.length hi - V8 xs.length 0 lo)
noncomputable def fSl:Sd->Option Int->Option Int->Option Sd:=λx lo hi=>match x.2 with
 |.lst xs=>if qV x then some (.rt,.lst (J3 xs lo hi))else none|.tup xs=>if qV x/\¬(V8 xs.length 0 lo=0/\V8 xs.length xs.length hi=xs.length)then some (.no,.tup (J3 xs lo hi))else none|.str z=>if(Txt.slice z lo hi).length<=big then some (.dp,.str (Txt.slice z lo hi))else none|_=>none
def W1:Option Ex->Ev (Option Int)
 |none,E=>some (.ok E none)
 |some c,E=>bnd (c E) λE x=>match x.2 with
  |.int i=>some (.ok E (some i))|_=>none
def cSl(a:Ex)(lo hi:Option Ex):Ex:=λE=>bnd (a E) λE x=>bnd (W1 lo E) λE l=>bnd (W1 hi E) λE h=>val E (fSl x l h)
def xK:Nat->List D->List D
 |_,[]=>[]|k,d::ds=>.tup [.int k,d]::xK (k+1) ds
def lstOf:D->Option (List D)
 |.lst xs=>some xs|_=>none
def xj8(c:Ex):Ev (List D):=λE=>bnd (c E) λE x=>val E ((lstOf x.2).map (xK 0))
def JQ:List D->Option (List Str)
 |[]=>some []|.str z::ds=>(JQ ds).map (z :: ·)|_=>none
def KK:List D->Option (List Int)
 |[]=>some []|.int z::ds=>(KK ds).map (z :: ·)|_=>none
def zZ(a:Str):List Str->List Str
 |[]=>[a]|b::r=>if Spec.ltCps b.cps.toList a.cps.toList then b::zZ a r else a::b::r
def xk:List Str->List Str
 |[]=>[]|a::r=>zZ a (xk r)
noncomputable def kz1:D->D->Option D:=λxs x=>match xs with
 |.lst ys=>if x.flat 30&&D.flats 30 ys then(ys.findIdx? λz=>peq z x).map λ(j:Nat)=>D.int (j:Int)else none|.tup ys=>if x.flat 30&&D.flats 30 ys then(ys.findIdx? λz=>peq z x).map λ(j:Nat)=>D.int (j:Int)else none|_=>none
def isSq:D->Bool
 |.lst _=>true|.tup _=>true|_=>false
def Kj(a b:Ex):Ex:=λE=>bnd (a E) λE x=>if isSq x.2 then bnd (b E) λE y=>val E (pu2 kz1 x y)else none
noncomputable def XV(i:Nat)(c:Ex):Ex:=λE=>if V4 E[i]? then bnd (c E) λE x=>match E[i]?,x.2 with
 | some (some (o,.lst xs)),.int k=>if o=.no then none else(match ixN xs.length k with
  |some j=>(match xs[j]? with
   |some d=>if d.pure&&z6 k then some (.ok (E.set i (some (o,.lst (xs.eraseIdx j)))) (.dp,d))else none
   |none=>none)
  |none=>none)
 |_,_=>none
 else none
def ZY(f:Fn)(cs:List Ex):Ex:=λE=>bnd (vY cs E) λE xs=>match f (letAll xs)with
 |some (.ok _ y)=>if y.2.pure then some (.ok E (.dp,y.2))else none|some (.exc _ c)=>some (.exc E c)|none=>none
def J1:Sd->Sd->Option Sd:=λx y=>match x.2,y.2 with
 |.tup a,.int k=>if -(2 ^ 63)<=k/\k<2 ^ 63/\a.length*k.toNat<=big/\qV x then some (.no,.tup (List.replicate k.toNat a).flatten)else none|_,_=>xjp x y
def W7(f g:D->D->Option D)(a b c:Ex):Ex:=λE=>bnd (a E) λE x=>bnd (b E) λE y=>match f x.2 y.2 with
 |some (.bl true)=>bnd (c E) λE z=>val E ((g y.2 z.2).map λd=>(.dp,d))|some (.bl false)=>some (.ok E (.dp,.bl false))|_=>none
def xvu:D->Bool
 |.tup _=>true|_=>false
def qZ(x:D):Bool:=qx 6 x&&xvu x
def Q9:D->D->Option D:=λx y=>match y with
 |.dct kvs=>if qZ x=true/\unm kvs=true then some (.bl (decide (x∈kvs.map (·.1))))else none|_=>none
def Qz:D->D->Option D:=λx y=>match y with
 |.dct kvs=>if qZ x=true/\unm kvs=true then some (.bl (!decide (x∈kvs.map (·.1))))else none|_=>none
def wv3:Ex:=λE=>some (.ok E (.rt,.dct []))
def Kw(kvs:List (D×D))(k v:D):List (D×D):=if k∈kvs.map (·.1)then kvs.map λe=>if e.1=k then(k,v)else e else kvs++[(k,v)]
def vjw:Option (Option Sd)->Bool
 |some (some (.rt,.dct _))=>true|_=>false
def wql : Sd -> D -> D -> Option D:= λs k v=>match s with
  |(.rt,.dct kvs)=>if qZ k = true /\ kvs.length<big /\ unm kvs = true then some (.dct (Kw kvs k v))else none|_=>none
def vve:Nat->Ex->Ex->Sm:=W4 vjw wql
def vxf(kc vc:Ex):Ex:=λE=>bnd (kc E) λE k=>bnd (vc E) λE v=>if qZ k.2=true then some (.ok E (.rt,.dct [(k.2,v.2)]))else none
def xw0 : Sd -> D -> D -> Option D:= λs k v=>match s,k with
  |(o,.lst xs),.int j=>if o = .no then none else(ixN xs.length j).map λn=>.lst (xs.set n v)|_,_=>none
def ZX:Nat->Ex->Ex->Sm:=W4 V4 xw0
def YQ(f:Int->Int->Int)(i:Nat)(c:Ex):Sm:=λE=>match E[i]? with
 |some (some (_,.int a))=>ofE (c E) λE x=>(match x.2 with
  |.int b=>some (.nx (E.set i (some (.dp,.int (f a b)))))
  |_=>none)
 |_=>none
def mkD:D×D:=(.str "",.non)
def wj(kv:List (Int×Int)):D:=.dct (mkD::kv.map λp=>(.int p.1,.int p.2))
def XJ : List (D × D) -> Option (List (Int × Int))
  |[]=>some []|(.int k,.int v)::r=>(XJ r).map ((k,v):: ·)|_=>none
def Jk:D->Option (List (Int×Int)):=λd=>match d with
 |.dct ((.str _,.non)::kvs)=>XJ kvs|_=>none
def jQ(kv:List (Int×Int))(k:Int):Option Int:=(kv.find? λp=>decide (p.1=k)).map (·.2)
def qX(kv:List (Int×Int))(k v:Int):List (Int×Int):=if(kv.any λp=>decide (p.1=k))=true then kv.map (λp=>if p.1=k then(p.1,v)else p)else kv++[(k,v)]
def wv2:Ex:=λE=>some (.ok E (.rt,wj []))
def Vz:D->D->Option D:=λx y=>match x,Jk y with
 |.int k,some kv=>some (.bl (jQ kv k).isSome)|_,_=>none
def kka:D->D->Option D:=λx y=>match x,Jk y with
 |.int k,some kv=>some (.bl (!(jQ kv k).isSome))|_,_=>none
def xjq:D->D->Option D:=λy x=>match x,Jk y with
 |.int k,some kv=>(jQ kv k).map .int|_,_=>none
def xkr(a b:Ex):Ex:=λE=>bnd (a E) λE x=>bnd (b E) λE y=>val E ((xjq x.2 y.2).map λd=>(.dp,d))
def vko:D->D->D->Option D:=λy x e=>match x,e,Jk y with
 |.int k,.int z,some kv=>some (.int ((jQ kv k).getD z))|_,_,_=>none
def xjd(d:D):Bool:=(Jk d).isSome
def vv4(a b c:Ex):Ex:=λE=>bnd (a E) λE x=>if xjd x.2=true then bnd (b E) λE y=>bnd (c E) λE z=>val E ((vko x.2 y.2 z.2).map λd=>(.dp,d))else none
def wqk : Sd -> D -> D -> Option D:= λs k v=>match s,k,v with
  |(.rt,d),.int a,.int b=>(Jk d).bind λkv=>if kv.length<big then some (wj (qX kv a b))else none|_,_,_=>none
def wjr:Nat->Ex->Ex->Sm:=W4 vjw wqk
def V2:List D->Option (List (Int×Int))
 |[]=>some []|.tup [.int a,.int b]::r=>(V2 r).map ((a,b):: ·)|_=>none
def ZK:Sd->Option Sd:=λx=>match x.2 with
 |.lst ds=>(match V2 ds with
  |some ps=>if ps.length<big then some (.rt,wj (ps.foldl (λkv p=>qX kv p.1 p.2) []))else none
  |none=>none)
 |_=>none
def vkn(z:Str):D->Option D:=λd=>match d with
 |.lst ds=>(match JQ ds with
  |some ys=>if(ys.map (·.length)).sum+ys.length*z.length<=100000 then some (.str (Txt.join z ys))else none
  |none=>none)
 |_=>none
def vxd(z:Str)(c:Ex):Ex:=λE=>bnd (c E) λE x=>val E ((vkn z x.2).map λd=>(.dp,d))
def vv6:D->Option (List D)
 |.tup xs=>some xs|_=>none
def vju(c:Ex):Ev (List D):=λE=>bnd (c E) λE x=>val E ((vv6 x.2).map (xK 0))
def itV(i:Nat):Ev (List D):=λE=>match E[i]? with
 |some (some (_,.lst ds))=>if D.pures ds=true then some (.ok E ds)else none|_=>none
def xZ(kvs:List (D×D))(k:D):Option D:=(kvs.find? λp=>decide (p.1=k)).map (·.2)
end Q
namespace Q
open PySem PySem.Spec PyProof.Rows L2 L3
section
variable {X:Cx}{Z:Fx0}{K:Frag}{pn:List Nat}{q qa qb:Bool}{a b c:Ex}{u:Ts}{tg e ea eb:Expr}{st:Stmt}{σ:L2.St}{H:Hp}{L:Ls}{E:En}{pos p p2:Pos}{x:Str}
theorem vz2:QS X Z pn qxm st:=λa8 s σ H D I ao=>ex7 ao λE L r m w hc k=>by cases hc
theorem kk6(a):∀r,(zZ a r).Perm (a::r)
 |[]=>List.Perm.refl _
 |b::r=>by
  unfold zZ
  split
  ·exact((kk6 a r).cons b).trans (List.Perm.swap ..)
  ·simp_all
theorem jwn:∀r,(xk r).Perm r
 |[]=>List.Perm.refl _|a::r=>(kk6 a _).trans ((jwn r).cons a)
def leS(a b:Str):Prop:=Spec.ltCps b.cps.toList a.cps.toList=false
theorem leS_iff{a b}:leS a b↔a.cps.toList<=b.cps.toList:=by
 unfold leS;rw[ltCps_eq,decide_eq_false_iff_not,List.not_lt]
theorem kxn{a b c}(h:leS a b)(h':leS b c):leS a c:=leS_iff.mpr (List.le_trans (leS_iff.mp h) (leS_iff.mp h'))
theorem vwm{a b}(h:leS a b)(h':leS b a):a=b:=by
 have:=List.le_antisymm (leS_iff.mp h) (leS_iff.mp h');cases a
 simp_all
theorem vjj{a b}(h:¬leS a b):leS b a:=by
 rw[leS_iff]at h ⊢;exact List.le_of_lt (List.not_le.mp h)
theorem kww:∀{a r},risingS a r=true->(a::r).Pairwise leS
 |a,[],_=>by simp
 |a,b::r,h=>by
  have h:(!_&&risingS b r)=true:=h;rw[Bool.and_eq_true,Bool.not_eq_true']at h;have ih:=kww h.2;refine List.pairwise_cons.mpr #[λc hc=>?_,ih];rcases aD hc with rfl|hc
  ·exact h.1
  ·exact kxn h.1 ((List.pairwise_cons.mp ih).1 c hc)
theorem qx9{r}(h:sortedS r=true):r.Pairwise leS:=by
 cases r with|nil=>exact .nil|cons a r=>exact kww h
theorem vk0{a}:∀{r},r.Pairwise leS->(zZ a r).Pairwise leS
 | [],_=>by simp[zZ]
 | b::r,h=>by
  rw[List.pairwise_cons]at h;unfold zZ
  by_cases hl:Spec.ltCps b.cps.toList a.cps.toList=true
  ·rw[Xd hl];refine List.pairwise_cons.mpr #[λc hc=>?_,vk0 h.2];rcases aD ((kk6 a r).mem_iff.mp hc)with rfl|hc
   ·exact vjj (by unfold leS;rw[hl];exact λz=>nomatch z)
   ·simp_all
  ·rw[Xi hl];have va:leS a b:=Bool.eq_false_iff.mpr hl;refine List.pairwise_cons.mpr #[λc hc=>?_,List.pairwise_cons.mpr h];rcases aD hc with rfl|hc
   ·simp_all
   ·exact kxn va (h.1 c hc)
theorem qkr:∀{r},(xk r).Pairwise leS
 |[]=>.nil|a::r=>vk0 qkr
theorem vv9{r s}(p:s.Perm r)(h:sortedS s=true):s=xk r:=
 List.Perm.eq_of_pairwise (λa b _ _ h1 h2=>vwm h1 h2) (qx9 h) qkr (p.trans (jwn r).symm)
theorem qvb{ns}:∀{us},Vals (ns.map V.str) us->StrsAre us ns:=by
 induction ns with
 | nil=>intro us r;cases r;exact .nil
 | cons n ns ih=>
  intro us r;cases r with
  |cons r1 r2=>
   obtain⟨t,e⟩:=r1;subst e;exact .cons n t (ih r2)
theorem qwp{us ns}(h:StrsAre us ns):Vals (ns.map V.str) us:=by
 induction h with|nil=>exact .nil|cons y t _ ih=>exact .cons #[t,rfl] ih
theorem qwr{us ns}(h:IntsAre us ns):Vals (ns.map V.int) us:=by
 induction h with|nil=>exact .nil|cons y t _ ih=>exact .cons #[t,rfl] ih
theorem kqy{g}:∀{ds bs xs as},JQ ds=some bs->RepA K H g ds xs as->xs=bs.map V.str/\∀z∈bs,z.length<=sizeLine
 | [],bs,xs,as,h,r=>by
  cases oq9 h;unfold RepA at r
  simp_all
 | d::ds,bs,xs,as,h,r=>by
  cases d with
  | str b=>
   unfold JQ at h;cases hb:JQ ds with
   |none=>grind
   |some f8=>
    rw[hb]at h;cases oq9 h;obtain⟨x,rr,c1,c2,rfl,rfl,h1,h2⟩:=r;unfold RepL at h1;obtain _:=kqy hb h2
    simp_all
  |_=>unfold JQ at h;cases h
theorem qqn{g}:∀{ds bs xs as},KK ds=some bs->RepA K H g ds xs as->xs=bs.map V.int
 | [],bs,xs,as,h,r=>by
  cases oq9 h;exact r.1
 | d::ds,bs,xs,as,h,r=>by
  cases d with
  | int b=>
   unfold KK at h;cases hb:KK ds with
   |none=>grind
   |some f8=>
    rw[hb]at h;cases oq9 h;obtain⟨x,rr,c1,c2,rfl,rfl,h1,h2⟩:=r;rw[h1.1,qqn hb h2];rfl
  |_=>unfold KK at h;cases h
theorem qkv{g}:∀{bs:List Str},(∀z∈bs,z.length<=sizeLine)->RepA K H g (bs.map D.str) (bs.map V.str) []
 |[],_=>#[rfl,rfl]
 |b::bs,h=>by
  exact#[_,_,[],[],rfl,rfl,XX (h b X5),qkv λz hz=>h z (lc9 _ hz)]
theorem qkw{g}:∀{bs:List Int},RepA K H g (bs.map D.int) (bs.map V.int) []
 |[]=>#[rfl,rfl]
 |b::bs=>by
  exact#[_,_,[],[],rfl,rfl,vK,qkw]
def tPo(Z:Fx0):Option Ex->TO
 |none=>qx1|some c=>ww8 (tV Z true c)
theorem qz8:PO X none (tPo Z none):=wkh
theorem Q5(h:QV X Z true c e):PO X (some e) (tPo Z (some c)):=wkg h
theorem qzl{α co F}{r:Res α}{G}(m:Mt E σ L)(w:World Z.K H L)(h:bnd (W1 co E) F=some r)(xc:Xc Z σ H L r)
  (k:∀E1 l,F E1 l=some r->∀L1 H1,Mt E1 σ L1->World Z.K H1 L1->Step H L H1 L1->kw H H1->G l H1):tPo Z co σ H G:=by
 cases co with
 | none=>exact k E none h L H m w Step.refl xQ
 | some c=>
  have h:bnd (bnd (c E) λE x=>match x.2 with|.int i=>some _|_=>none) F=some r:=h;have h':bnd (c E) (λE x=>bnd (match x.2 with|.int i=>some (.ok E (some i))|_=>none) F)=some r:=by
   cases hc:c E with|none=>rw[hc]at h;exact h|some y=>rw[hc]at h;cases y<;>exact h
  show tV Z true c σ H λx H1=>∃i,x=.int i/\G (some i) H1
  refine qY m w h' xc λE1 s h1 x L1 H1 e1 e2 m1 w1 ok fr sr st sm=>?_
  cases hs:s.2 with
  |int i=>
   rw[hs]at h1;exact#[i,kQ ok (e2.trans hs),k E1 _ h1 L1 H1 m1 w1 st (sm rfl)]
  |_=>rw[hs]at h1;cases h1
theorem RepA.drop{K H g}:∀n {ds xs as},RepA K H g ds xs as->∃bs,RepA K H g (ds.drop n) (xs.drop n) bs/\∀b∈bs,b∈as
 |0,ds,xs,as,h=>#[as,h,λ_ h=>h]
 |n+1,[],xs,as,h=>by
  obtain⟨rfl,rfl⟩:=h;exact#[[],#[rfl,rfl],λ_ h=>h]
 |n+1,d::ds,xs,as,h=>by
  obtain⟨x,r,bs,cs,rfl,rfl,h1,h2⟩:=h;obtain⟨es,r2,hb⟩:=RepA.drop n h2;exact#[es,r2,λb h=>lr9 _ (hb b h)]
theorem RepA.take{K H g}:∀n {ds xs as},RepA K H g ds xs as->∃bs,RepA K H g (ds.take n) (xs.take n) bs/\∀b∈bs,b∈as
 |0,ds,xs,as,h=>#[[],#[rfl,rfl],λ_ h=>nomatch h]
 |n+1,[],xs,as,h=>by
  obtain⟨rfl,rfl⟩:=h;exact#[[],#[rfl,rfl],λ_ h=>h]
 |n+1,d::ds,xs,as,h=>by
  obtain⟨x,r,bs,cs,rfl,rfl,h1,h2⟩:=h;obtain⟨es,r2,hb⟩:=RepA.take n h2;exact#[bs++es,(#[x,r.take n,bs,es,rfl,rfl,h1,r2]),λb h=>(aA h).elim (λz=>ll9 _ z) λz=>lr9 _ (hb b z)]
theorem RepA.cut{K H g ds xs as}(h:RepA K H g ds xs as)(lo hi):∃bs,RepA K H g (J3 ds lo hi) (XQ xs lo hi) bs/\∀b∈bs,b∈as:=by
 unfold J3 XQ;rw[<-h.len];obtain⟨bs,r,hb⟩:=h.drop _;obtain⟨cs,r2,hc⟩:=r.take _;exact#[cs,r2,λb h=>hb b (hc b h)]
set_option tactic.hygienic true in
theorem wjm{x:Sl}{s lo hi Q}(ok:x.ok K H)(hf:fSl (x.o,x.d) lo hi=some s)(k:∀z H',z.o=s.1->z.d=s.2->Out K H H' z x.frz->Q z.v H'):vxz K x.v lo hi H Q:=by
 unfold fSl at hf;cases hx:x.d with
 | lst ds=>
  rw[hx]at hf;dsimp only at hf
  split at hf
  ·rename_i hl;cases oq9 hf;obtain⟨l,xs,bs,ev,q3,r3,h3⟩:=zQ ok (.inl hx) (hx▸hl);have q3:LsR K H l xs:=by rcases q3 with⟨_,z⟩|⟨z,_⟩;exact z;rw[hx]at z;cases z
   obtain⟨cs,r4,h4⟩:=r3.cut lo hi;exact .inl #[l,xs,ev,JV q3,λp hp=>k _ _ rfl rfl (K6 hp r4 λb hb=>h3 b (h4 b hb))]
  ·cases hf
 | tup ds=>
  rw[hx]at hf;dsimp only at hf
  split at hf
  ·rename_i hl;cases oq9 hf;obtain⟨l,xs,bs,ev,q3,r3,h3⟩:=zQ ok (.inr hx) (hx▸hl.1);have q3:SqT K H l xs:=by rcases q3 with⟨z,_⟩|⟨_,z⟩;rw[hx]at z;cases z;exact z
   obtain⟨cs,r4,h4⟩:=r3.cut lo hi;refine .inr (.inl #[l,xs,ev,q3,?_,λp hp=>k _ _ rfl rfl (kjq hp r4 λb hb=>h3 b (h4 b hb))]);rw[<-r3.len];exact hl.2
  ·cases hf
 | str z=>
  rw[hx]at hf;dsimp only at hf
  split at hf
  ·rename_i hl;cases oq9 hf;obtain⟨e,hz⟩:=z9 ok hx;exact .inr (.inr #[z,e,hz,k _ H rfl rfl (xvg hl)])
  ·cases hf
 |_=>simp_all
theorem VJ{lo hi elo ehi}(ha:QV X Z q a ea)(hl:PO X elo (tPo Z lo))(hh:PO X ehi (tPo Z hi))(hK:autoParam (X.K=Z.K) Ŕ):QE X Z q (cSl a lo hi) (.Subscript ea (.Slice elo ehi none p2) pos):=
 q9 (vw1 (xqq Z.K hK) ha hl hh) fun σ H Q ao=>ex8 ao λE L r m w hc xc k=>by
  refine qY m w (hc) xc λE1 s h1 x L1 H1 e1 e2 m1 w1 ok fr sr st sm=>(qzl m1 w1 h1 (xc.step st) λE2 l h2 L2 H2 m2 w2 ca dl=>(qzl m2 w2 h2 (xc.step (st.trans ca)) λE3 u h3 L3 H3 m3 w3 dy on=>?_))
  obtain⟨z,hz,rfl⟩:=xw h3;have k1:=K8 ok fr ca dl;have k2:=K8 k1.1 k1.2 dy on;refine wjm k2.1 (by rw[e1,e2];exact hz) λy H' ho hd o=>?_
  obtain⟨w4,gy⟩:=Kz w3 ((st.trans ca).trans dy) o k2.2 (λb hb=>k2.1.some (Sl.frz_as hb)) (V3 sr λb hb=>Sl.frz_as hb);have lm:=λhq=>kK (sm hq) (kK dl on)
  exact k _ _ rfl y L3 H' ho hd m3 w4 gy λhq=>#[kK (lm hq) o.same,λb hb=>Jj (lm hq) (o.new b hb)]
def tAV(Z:Fx0)(cs:List Ex):TA:=fun σ H Q=>∃E L r,Mt E σ L/\World Z.K H L/\vY cs E=some r/\Xc Z σ H L r /\
 ∀E' ys,r=.ok E' ys->∀(xs:List Sl) L' H',xs.map Sl.sd=ys->Mt E' σ L'->World Z.K H' L'->(∀x∈xs,x.ok Z.K H')->Step H L H' L'->kw H H'->Q (xs.map Sl.v) H'
def QAV(X:Cx)(Z:Fx0)(cs:List Ex)(es:List Expr):Prop:=PA X es (tAV Z cs)
theorem wxh:QAV X Z [] []:=kx6 wQ fun σ H Q ao=>ex8 ao λE L r m w hc xc k=>by
 cases oq9 hc;exact k _ _ rfl [] L H rfl m w (λ_ z=>nomatch z) Step.refl xQ
theorem YK{cs es}(h:QV X Z true c e)(hs:QAV X Z cs es)(bg:autoParam (Abs e es X) Ŕ):QAV X Z (c::cs) (e::es):=
 kx6 (vZ h hs bg) fun σ H Q ao=>ex8 ao λE L r m w hc xc k=>by
  refine qY m w (hc) xc λE1 s h1 x L1 H1 e1 e2 m1 w1 ok fr sr st sm=>?_
  rcases wx h1 with⟨E2,ys,h2,h3⟩|⟨E2,cc,h2,h3⟩
  ·cases oq9 h3;refine#[E1,L1,_,m1,w1,h2,(λ_ _ z=>by cases z),λE' ys' z xs L2 H2 e3 m2 w2 gj ca dl=>?_];injection z with z1 z2;subst z1 z2;refine k _ _ rfl (x::xs) L2 H2 (by rw[List.map_cons,e3];simp[Sl.sd,e1,e2]) m2 w2 (λy hy=>?_) (st.trans ca) (kK (sm rfl) dl);rcases aD hy with rfl|hy
   ·exact(K8 ok fr ca dl).1
   ·exact gj y hy
  ·exact#[E1,L1,_,m1,w1,h2,(xc.step st).map h3,λE' s' z=>by cases z]
set_option tactic.hygienic true in
theorem qzc{k n ps f cs es}(D:k8 X.prog X.w X.K X.mg X.base k x ps (spF Z.K Z.mg n f))(hr:Room k X.A)(g:xz X Z.EX)(ha:QAV X Z cs (e::es))(hn:autoParam (cs.length=n) Ŕ)(hg:autoParam (Gl X x) Ŕ)(fk:autoParam (Abd x) ŕ)
  (he:autoParam (Abs e es X) Ŕ) (bv:autoParam (Abb pos es X) Ŕ):
  QE X Z true (ZY f cs) (.Call (.Name x p) (e::es) [] pos):=q9 (vzi D hr g ha hg fk he bv) fun σ H Q ao=>ex8 ao λE L r m w hc xc kk=>by
 rcases wx hc with⟨E1,ys,h1,h2⟩|⟨E1,cc,h1,h2⟩
 rotate_left
 ·exact#[E,L,_,m,w,h1,xc.map h2,λE' s' z=>by cases z]
 refine#[E,L,_,m,w,h1,(λ_ _ z=>by cases z),λE' ys' z xs L1 H1 e1 m1 w1 ok1 st sm=>?_];injection z with z1 z2;subst z1 z2;rw [Xs];have ai:xs.length=n:=by rw[<-hn,<-kkh h1,<-e1,X3]
 cases hf:f _ with
 | none=>rw[hf]at h2;cases h2
 | some fr=>
  rw[hf]at h2;have ev:xs.map Sl.v=(xs.map Sl.let).map Sl.v:=by rw[Xj];rfl
  have wl:World Z.K H1 ((xs.map Sl.let).map some):=by
   refine#[λy hy=>?_,by rw[K4];exact Xr,λa ha=>by rw[K4]at ha;exact nomatch ha];obtain⟨y',hy',e⟩:=aE hy;cases e;obtain⟨t,ht,rfl⟩:=aE hy';exact Jq (ok1 t ht)
  rw[ev];refine#[xs.map Sl.let,fr,rfl,by rw[X3];exact ai,wl,by rw[<-e1]at hf;rw[vje];exact hf,λE' c ee C H' hm s'=>?_,λE' a ee y H' e2 e3 w' s'=>?_]
  ·subst ee;cases oq9 h2;have li:=λb ob hb=>s'.keep b ob hb λz=>by rw[K4]at z;exact nomatch z
   exact xc _ _ rfl C L1 H' hm m1 #[λy hy=>RepO.kp (w1.ok y hy) (Kp.of_same li),w1.nd,w1.ds] (st.trans #[λb ob hb _=>li b ob hb,λ_ h=>.inl h,λ_ h=>.inl h])
  ·subst ee;dsimp only at h2
   split at h2
   ·rename_i hp;cases oq9 h2;have li:=λb ob hb=>s'.keep b ob hb λz=>by rw[K4]at z;exact nomatch z
    have w2:World Z.K H' L1:=#[λy hy=>RepO.kp (w1.ok y hy) (Kp.of_same li),w1.nd,w1.ds];obtain⟨z,rp⟩:=RepL.pu (g':=false) (RepO.wk (w'.ok y X5)) (e3▸hp);exact kk _ _ rfl #[.dp,y.d,y.v,[]] L1 H' rfl e3 m1 (w2.consPu rp rfl) (Kk (st.trans #[λb ob hb _=>li b ob hb,λ_ h=>.inl h,λ_ h=>.inl h]) (λb hb=>nomatch hb) rfl) λ_=>#[kK sm li,λ_ z=>(nomatch z)]
   ·cases h2
end
theorem ww5{prog w A E s t items x}{e:Value->Bool}{j}{Q}
  (ht:IsTup s.heap t items) (he:∀y∈items,SeqAt.EqAt A.in1 s y x (e y)) (hj) (h1:e items[j]=true) (h2:∀m (hm:m<items.size),m<j->e items[m]=false)
  (h:Q (.int j s.toks) {s with toks:=s.toks+1}):wpAny (model prog w) A (call (.builtin "tuple.index") [.ref t,x]) Q E s:=by
 refine Y3 PySem.F.slot_tuple_index ht.typeIs PySem.F.entry_tuple_index ?_ (PySem.F.args_tuple_index_2 _ _);show wpAny _ _ (Builtin.Tuple.tupleItemsOf _ >>= _) _ _ s;refine X0 (tupleItemsOf_ ht ?_);dsimp only;refine X0 (X6 (X0 (X6 ?_)));rw[Std.Legacy.Range.forIn_eq_forIn_range'];refine X0 (wpAny_forIn_list _ (λab b s'=>b=_/\s'=s/\∃k,k<=j/\ab=List.range' k (items.size - k)) _ ?_ ?_ _ _ #[rfl,rfl,0,Y6 _,?_])
 ·rintro i ab b s' ⟨rfl,rfl,k,hk,hr⟩;obtain⟨n,hn⟩:∃n,items.size - k=n+1:=#[items.size - k - 1,⋯];rw[hn]at hr;injection hr with hi u5;subst hi;have hi:i<items.size:=⋯
  rw[show items[i]?=some items[i]from Yz hi];refine X0 (he items[i] (Array.getElem_mem hi) _ _ _ _ ?_)
  by_cases mw:i=j
  ·subst mw;rw[h1];exact X0 (X0 (wpAny_mkInt (X6 (X6 (X6 #[_,rfl,h])))))
  ·rw[h2 i hi ⋯];refine X6 #[rfl,rfl,i+1,⋯,?_]
   grind
 ·rintro b s' ⟨rfl,rfl,k,hk,hr⟩
  grind
 ·simp
theorem xqt{prog w A E s l items k t}{Q}
  (ht:IsTup s.heap l items) (h:Q .notImplemented s):wpAny (model prog w) A (call (.builtin "int.__rmul__") [.int k t,.ref l]) Q E s:=by
 refine Y3 PySem.F.slot_int_rmul (typeIs_int s k t) PySem.F.entry_int_rmul ?_ (PySem.F.args_int_rmul_2 _ _);obtain⟨o,e,c,n,hd⟩:=ht;show wpAny _ _ (asInt? _ >>= _) _ _ s;refine X0 (X0 (wpAny_load e ?_));rw[hd];exact X6 (X0 (Zm (X6 #[_,rfl,h])))
theorem mulT{prog w A E s l items k t}{Q}
  (ht:IsTup s.heap l items) (h1:-(2 ^ 63)<=k) (h2:k<2 ^ 63) (hz:items.size*k.toNat<=sizeLine)
  (wf:(items.isEmpty=true\/k=1)->Q (.ref l) s)
  (hsz:(List.foldl (λx1 x2=>x1++x2) (List.toArray []) (List.replicate k.toNat items)).size<=sizeLine)
  (eq:Q (.ref s.heap.objs.size) {s with heap:=s.heap.push {cls:=.type "tuple",data:=.seq (List.foldl (λx1 x2=>x1++x2) (List.toArray []) (List.replicate k.toNat items))}})
  : wpAny (model prog w) A (call (.builtin "tuple.__mul__") [.ref l,.int k t]) Q E s:=by
 refine Y3 PySem.F.slot_tuple_mul ht.typeIs PySem.F.entry_tuple_mul ?_ (PySem.F.args_tuple_mul_2 _ _);show wpAny _ _ (if _=true then _ else _) _ _ s;rw[Xi ⋯];refine X0 (tupleItemsOf_ ht ?_)
 by_cases hs:(items.isEmpty||k==1)=true
 ·rw[Xd hs];refine X0 (X0 (wpAny_typeOf ht.typeIs (X6 (X0 (Zm (X6 #[_,rfl,wf ?_]))))))
  simpa using hs
 ·rw[Xi hs];have br:items.isEmpty=false:=by
   grind
  have hm:((items.size:Int)*k)<=sizeLine\/k<=0:=by
   by_cases hk:k<=0
   ·exact .inr hk
   ·grind
  dsimp only
  by_cases hk:k<=0
  ·rw[Xd (by simp[hk])];have e:k.toNat=0:=⋯
   rw[e]at eq;exact X0 (Yd (X6 #[_,rfl,eq]) (Y6 _))
  ·rw[Xi (by simp[hk,br])];have hm:=hm.resolve_right hk;have gq:(sizeLine:Int)=16777216:=⋯
   rw[Xi ⋯,Xi (by unfold Builtin.Tuple.tupleTooMany;lia)];exact X0 (Yd (X6 #[_,rfl,eq]) hsz)
section
variable {X:Cx}{Z:Fx0}{K:Frag}{pn:List Nat}{q qa qb:Bool}{a b c:Ex}{u:Ts}{tg e ea eb:Expr}{st:Stmt}{σ:L2.St}{H:Hp}{L:Ls}{E:En}{pos p p2:Pos}{x:Str}
def wws(K:Frag):R2:=λx y H Q=>∃l k xs,x=.ref l/\y=.int k/\SqT K H l xs/\-(2 ^ 63)<=k/\k<2 ^ 63/\xs.length*k.toNat<=sizeLine/\((xs=[]\/k=1)->Q (.ref l) H)/\∀p,H p=none->Q (.ref p) (upd H p (.tup (List.replicate k.toNat xs).flatten))
theorem op_repT:OpR X (binaryOp .Mult) (wws X.K):=by
 rintro a8 s σ H x y v u Q I rx ry ⟨l,k,xs,rfl,rfl,hq,h1,h2,hz,q1,q2⟩;cases rx;obtain⟨t,rfl⟩:=ry;obtain⟨ac,r,ht,hl⟩:=I.tuple hq;have ai:=r.length;have f0:List.foldl (λx1 x2=>x1++x2) (List.toArray []) (List.replicate k.toNat ac.toArray)=(List.replicate k.toNat ac).flatten.toArray:=by
  have:=kk9 ac k.toNat [];exact this
 have hz2:(List.replicate k.toNat xs).flatten.length<=sizeLine:=by rw[vjh,Nat.mul_comm];exact hz
 refine wpAny_binaryOp_repeat_ref ⋯ ht.typeIs (λs'=>typeIs_int s' k t) rfl F.fills_int_mul F.slot_int_rmul (rfl) F.slot_int_index.lookup
  (xqt ht #[rfl,ht.typeIs,mulT ht h1 h2 (by rw[X8,<-ai];exact hz) (λhs=>?_) ?_ ?_])
 ·refine#[.ref l,H,I,rfl,q1 ?_];rcases hs with hs|hs
  ·grind
  ·exact .inr hs
 ·rwa [f0,X8,<-(r.rep k.toNat).length]
 ·rw[f0];exact#[.ref _,_,I.laid (t':=s.toks) (o:=.tup _) (λb o e=>X2 _ e) (Xa _) #[hz2,_,r.rep k.toNat,IsTupD.new _ _],rfl,q2 _ (I.hok.fresh (Xa _))]
def wwv(K:Frag):R2:=λx y H Q=>wws K x y H Q\/wjy K x y H Q
theorem wze(hK:autoParam (X.K=K) Ŕ):OpR X (binaryOp .Mult) (wwv K):=by subst hK;exact op_repT.or wzf
set_option tactic.hygienic true in
theorem wvb:Ad2 K (wwv K) J1:=by
 intro H x y s Q ox oy hf k;cases hx:x.d with
 | tup ds=>
  cases hy:y.d with
  | int n=>
   unfold J1 at hf;rw [hx,hy]at hf;dsimp only at hf
   split at hf
   ·rename_i hc;cases oq9 hf;obtain⟨l,xs,bs,e3,q3,r3,h3⟩:=zQ ox (.inr hx) (hx▸hc.2.2.2);have q3:SqT K H l xs:=by rcases q3 with⟨z,_⟩|⟨_,z⟩;rw[hx]at z;cases z;exact z
    obtain⟨cs,r4,h4⟩:=r3.reps n.toNat;refine .inl #[l,n,xs,e3,kQ oy hy,q3,hc.1,hc.2.1,by rw[<-r3.len];exact hc.2.2.1,λhs=>?_,λp hp=>?_]
    ·refine k #[.no,.tup _,.ref l,cs] H rfl rfl #[xQ,(#[l,xs,rfl,q3,?_]),λb hb=>(nomatch hb),Xr,λb hb=>ll9 _ (h3 b (h4 b hb))];have e:(List.replicate n.toNat xs).flatten=xs:=by
      rcases hs with hs|hs
      ·subst hs;simp
      ·subst hs;simp
     rw[e]at r4;exact r4
    ·exact k _ _ rfl rfl (kjq hp r4 λb hb=>ll9 _ (h3 b (h4 b hb)))
   ·grind
  |_=>
   refine .inr (wjb H x y s Q ox oy ?_ k);rw[hx,hy]at hf;rw[hx];exact hf
 |_=>
  refine .inr (wjb H x y s Q ox oy ?_ k);unfold J1 at hf;rw[hx]at hf;rw[hx];exact hf
theorem vj9{h}:∀{ds us},CReps h ds us->us.map (dec h)=ds
 |[],_,r=>by rw[r];rfl
 |z::ds,_,r=>by
  obtain⟨u,rr,rfl,h1,h2⟩:=r;rw[List.map_cons,kza h1,vj9 h2]
def xqz(K:Frag)(C:Hp->List V->Prop):List V->Hp->VK->Prop:=λvs H Q=>∃v d ds as bs xs j,vs=[v]/\RepL K H true d v as/\C H xs/\RepA K H true ds xs bs/\d.flat 30=true/\D.flats 30 ds=true/\(ds.findIdx? λz=>peq z d)=some j/\Q (.int j) H
theorem vw2{o to t apos aj}(hu:X.A.units+64<cLine)(ho:PE X o to)(ha:PA X [e] t)
  (dg:autoParam (attributeBase o "index" X.env (eval o X.env)=eval o X.env) Ŕ)
  (fy:autoParam (((backTo aj (starEach [e] X.env)).all (λx=>!x.1)&&(backToKw aj (keywordEach [] X.env)).all (λx=>x.1.isSome)
   && decide ([e].length+([]:List Keyword).length+(if([]:List Keyword).isEmpty then 0 else 1)<30))=true) Ŕ)
  (da:autoParam (Abe apos aj) Ŕ) (hs:autoParam (Abs e [] X) Ŕ) (bq:autoParam (Abb aj [] X) Ŕ):
  PE X (.Call (.Attribute o "index" apos) [e] [] aj) (fun σ H Q=>to σ H λx H1=>(∃p xs,x=.ref p/\LsR X.K H1 p xs/\t σ H1 λvs H2=>xqz X.K (λH xs=>LsR X.K H p xs) vs H2 Q)\/∃p xs,x=.ref p/\SqT X.K H1 p xs/\t σ H1 λvs H2=>xqz X.K (λH xs=>SqT X.K H p xs) vs H2 Q):=by
 intro a8 s σ H Q I h;refine wpAny_Call_method_late dg fy da rfl (thn (ho a8 s σ H _ I h) λv s1 hz=>?_);obtain⟨x,H1,I1,r1,qq⟩:=hz;have eqs:∀{s2 H2 d v as w us ds},L2.Inv X a8 σ H2 s2->RepL X.K H2 true d v as->RelV v w->d.flat 30=true->D.flats 30 ds=true->CReps s2.heap ds us->∀y∈us.toArray,SeqAt.EqAt X.A.in1 s2 y w (peq (dec s2.heap y) d):=fun {s2 H2 d v as w us ds} I2 rd rw f1 f2 cr y hy=>by
  obtain⟨d',hd,c⟩:=kj4 cr (by simpa using hy);rw[kza c];exact Vj 30 (jxt f2 hd) c (Q8 I2 rd f1 rw) ⋯
 have idx:∀{h ds us d j},CReps h ds us->(ds.findIdx? λz=>peq z d)=some j->∃hj,peq (dec h us.toArray[j]) d=true/\∀m hm,m<j->peq (dec h us.toArray[m]) d=false:=fun {h ds us d j} cr hf=>by
  have e:=vj9 cr;subst e;rw[List.findIdx?_eq_some_iff_getElem]at hf;obtain⟨hj,h1,h2⟩:=hf;have hj':j<us.length:=by simpa using hj
  refine#[by simpa using hj',by simpa using h1,λm hm hmj=>?_];have:=h2 m hmj
  simpa using this
 rcases qq with⟨pp,zs,rfl,ty,q1⟩|⟨pp,zs,rfl,ty,q1⟩
 ·cases r1;have hA:=ha aj a8 s1 σ H1 _ I1 q1;rw[hs]at hA ⊢;obtain⟨z,ac,n,r,e0⟩:=ty.is I1;refine#["list","list.index",F.plainAttrs_list,F.slot_list_index,F.type_list_index,#[_,e0,rfl],λa e2=>?_,?_]
  ·cases e2;exact#[_,e0,rfl]
  refine Calls.callWith_builtin (by show(false||(backTo aj _).any _)=false;rw[bq]<;>rfl) (Calls.evalArgs_plain (thn hA λus s2 #[vs,H2,I2,r2,d2]=>?_));obtain⟨v,d,ds,as,bs,xs,j,rfl,rd,hq,ra,f1,f2,hf,q2⟩:=d2;obtain⟨w,rfl,rw1⟩:=r2.one;obtain⟨z2,i6,n2,r3,e3⟩:=hq.is I2;have cr:=creps_of I2 ra f2 r3;obtain⟨hj,h1,h2⟩:=idx cr hf;have hsz:i6.toArray.size<=16777216:=by rw[X8,<-r3.length];exact z2
  exact call_meets F.slot_list_index #[_,e3,rfl] F.entry_list_index (F.args_list_index_2 _ _) (SeqAt.list_indexAt pp i6.toArray n2 none (List.toArray []) w (λy=>peq (dec s2.heap y) d) j hj ⋯ h1 h2) #[e3,eqs I2 rd rw1 f1 f2 cr,.int _,H2,I2.tok _,#[_,rfl],q2]
 ·cases r1;have hA:=ha aj a8 s1 σ H1 _ I1 q1;rw[hs]at hA ⊢;obtain⟨ac,r,ht,hz⟩:=I1.tuple ty;refine#["tuple","tuple.index",F.plainAttrs_tuple,F.slot_tuple_index,F.type_tuple_index,ht.typeIs,λa e2=>?_,?_]
  ·cases e2;exact(I1.tupleD ty)
  refine Calls.callWith_builtin (by show(false||(backTo aj (starEach [] X.env)).any (·.1))=false;rw[bq]<;>rfl) (Calls.evalArgs_plain (thn hA λus s2 #[vs,H2,I2,r2,d2]=>?_));obtain⟨v,d,ds,as,bs,xs,j,rfl,rd,hq,ra,f1,f2,hf,q2⟩:=d2;obtain⟨w,rfl,rw1⟩:=r2.one;obtain⟨i6,r3,ht2,hz2⟩:=I2.tuple hq;have cr:=creps_of I2 ra f2 r3;obtain⟨hj,h1,h2⟩:=idx cr hf;exact ww5 (e:=λy=>peq (dec s2.heap y) d) ht2 (eqs I2 rd rw1 f1 f2 cr) hj h1 h2 #[.int _,H2,I2.tok _,#[_,rfl],q2]
set_option tactic.hygienic true in
theorem WY{apos aj}(hu:X.A.units+64<cLine)(ha:QV X Z q a ea)(hb:QV X Z true b eb)(hK:autoParam (X.K=Z.K) Ŕ)
  (dg:autoParam (attributeBase ea "index" X.env (eval ea X.env)=eval ea X.env) Ŕ)
  (fy:autoParam (((backTo aj (starEach [eb] X.env)).all (λx=>!x.1)&&(backToKw aj (keywordEach [] X.env)).all (λx=>x.1.isSome)
   && decide ([eb].length+([]:List Keyword).length+(if([]:List Keyword).isEmpty then 0 else 1)<30))=true) Ŕ)
  (da:autoParam (Abe apos aj) Ŕ) (hs:autoParam (Abs eb [] X) Ŕ) (bq:autoParam (Abb aj [] X) Ŕ):
  QE X Z q (Kj a b) (.Call (.Attribute ea "index" apos) [eb] [] aj):=q9 (vw2 hu ha (vZ hb wQ hs) dg fy da hs bq) fun σ H Q ao=>ex8 ao λE L r m w hc xc k=>by
 refine qY m w (hc) xc λE1 s h1 x L1 H1 e1 e2 m1 w1 ok fr sr st sm=>?_
 split at h1
 rotate_left
 ·grind
 rename_i hsq;rw [hK];have fin:∀{ds},(x.d=.lst ds\/x.d=.tup ds)->∀C,(∀H2,x.ok Z.K H2->∃xs bs,C H2 xs/\RepA Z.K H2 true ds xs bs)->tV Z true b σ H1 λv H2=>xqz Z.K C [v] H2 Q:=fun {ds} hx C hC=>by
  refine qY m1 w1 h1 (xc.step st) λE2 s2 h2 y L2 H2 e3 e4 m2 w2 gj nw nu ca dl=>?_
  obtain⟨z,hz,rfl⟩:=xw h2;obtain⟨xs,bs,c1,c2⟩:=hC H2 (K8 ok fr ca (dl rfl)).1;have iw:∃j,y.d.flat 30=true/\D.flats 30 ds=true/\(ds.findIdx? λz=>peq z y.d)=some j/\z=(.dp,.int j):=by
   unfold pu2 kz1 at hz;rw[<-e2,<-e4]at hz;have iu:(if y.d.flat 30&&D.flats 30 ds then(ds.findIdx? λz=>peq z y.d).map λ(j:Nat)=>D.int (j)else none).map (λd=>((Own.dp,d):Sd))=some z:=by
    rcases hx with hx|hx<;>(rw[hx]at hz;exact hz)
   split at iu
   ·rename_i hf;rw[Bool.and_eq_true]at hf;cases hj:ds.findIdx? λz=>peq z y.d with|none=>rw[hj]at iu;cases iu|some j=>rw[hj]at iu;exact#[j,hf.1,hf.2,rfl,(oq9 iu).symm]
   ·cases iu
  obtain⟨j,f1,f2,f3,rfl⟩:=iw;exact#[y.v,y.d,ds,y.as,bs,xs,j,rfl,RepO.wk gj,c1,c2,f1,f2,f3,(k _ _ rfl _ L2 H2 rfl rfl m2 (w2.consPu (x:=#[.dp,.int j,.int j,[]]) (show RepL Z.K H2 false _ _ []from vK) rfl) (Kk (st.trans ca) (λb hb=>nomatch hb) rfl) λhq=>#[(λhq=>kK (sm hq) (dl rfl)) hq,λ_ z=>(nomatch z)])]
 have wkA:∀{ds xs bs H2},RepA Z.K H2 (x.o != .dp) ds xs bs->RepA Z.K H2 true ds xs bs:=fun {ds xs bs H2} r=>by
  cases ho:(x.o != .dp)with|true=>rw[ho]at r;exact r|false=>rw[ho]at r;exact r.wk
 cases hx:x.d with
 |lst ds=>
  obtain⟨l,xs,bs,ev,q3,r3,h3,_⟩:=items ok (.inl hx);have q3:LsR Z.K H1 l xs:=by rcases q3 with⟨_,z⟩|⟨z,_⟩;exact z;rw[hx]at z;cases z
  refine .inl #[l,xs,ev,q3,fin (.inl hx) _ λH2 gj=>?_];obtain⟨l2,ys,cs,ev2,q4,r4,_⟩:=items gj (.inl hx);have:l2=l:=by have:=ev2.symm.trans ev;exact V.ref.inj this
  subst this;rcases q4 with⟨_,z⟩|⟨z,_⟩
  ·exact#[ys,cs,z,wkA r4]
  ·grind
 |tup ds=>
  obtain⟨l,xs,bs,ev,q3,r3,h3,_⟩:=items ok (.inr hx);have q3:SqT Z.K H1 l xs:=by rcases q3 with⟨z,_⟩|⟨_,z⟩;rw[hx]at z;cases z;exact z
  refine .inr #[l,xs,ev,q3,fin (.inr hx) _ λH2 gj=>?_];obtain⟨l2,ys,cs,ev2,q4,r4,_⟩:=items gj (.inr hx);have:l2=l:=by have:=ev2.symm.trans ev;exact V.ref.inj this
  subst this;rcases q4 with⟨z,_⟩|⟨_,z⟩
  ·grind
  ·exact#[ys,cs,z,wkA r4]
 |_=>rw[<-e2,hx]at hsq;cases hsq
end
def ItE(S:Hp->List V->Prop):It:=#[λi H=>∃xs x,S H xs/\xs[i]?=some x,
 λi H v H'=>∃T x,H T=none/\v=.ref T/\H'=upd H T (.tup [.int i,x])/\∀xs,S H xs->xs[i]?=some x,
 λi H=>∃xs,S H xs/\xs.length=i]
abbrev Ite(K:Frag)(l:Addr):It:=ItE (SqL K · l)
theorem qwz{P w K dk k1 pos}{e it l:Addr}{n:String}{S:Hp->List V->Prop}{IS:Heap->Array Value->Prop}(n1:e≠it)(n2:l≠e)
  (D:∀A:Around,A.handled=none->∀ac:Array Value,Draws P w A it [it,l] ac.size (λi v=>ac[i]?=some v) λi h=>(∃o,h.get? it=some o/\o.cls=.type n/\o.data=.fields (List.toArray [.ref l,.int i 0]))/\IS h ac)
  (G:∀(X:Cx) a8 (s:Shared) σ H,X.K=K->L2.Inv X a8 σ H s->∀xs,S H xs->(∃ac,Vals xs ac/\IS s.heap ac.toArray)/\∀zs,S H zs->zs=xs):
  Turn P w K (.Tuple dk k1 pos) (ItE S) [e,it] e (λi h=>(∃eh,IsEnum h e it i eh)/\∃o,h.get? it=some o/\o.cls=.type n/\o.data=.fields (List.toArray [.ref l,.int i 0])) where
 mem:=by simp
 obj:=λi h st b hb=>by
  obtain⟨⟨eh,h1⟩,o4,e4,c4,d4⟩:=st;simp at hb;rcases hb with rfl|rfl
  ·exact#[_,h1,λv z=>by cases z]
  ·exact#[_,e4,λv z=>by rw[d4]at z;cases z]
 keep:=λi h h' st k=>by
  obtain⟨⟨eh,h1⟩,o4,e4,c4,d4⟩:=st;exact#[#[eh,k _ (by simp) _ h1],o4,k _ (by simp) _ e4,c4,d4]
 item:=by
  intro X hP hw hK hc i a8 s σ H E I hf st hg;subst hP hw;obtain⟨xs,x,q1,hx⟩:=hg;obtain⟨⟨ir,sv,p1⟩,inj⟩:=G X a8 s σ H hK I xs q1;obtain⟨u1,hu1,ru1⟩:=sv.get hx;obtain⟨⟨eh,t1⟩,t2⟩:=st;have hi:i<ir.toArray.size:=(List.getElem?_eq_some_iff.mp hu1).1;refine wpAny_pyNext_enum_itemD (D X.A.in1 (by have:=I.ok.hd hc;simpa using this) ir.toArray) t1 #[t2,p1] hi n1 (by simp only[Yq,Y7,or_false,not_or];exact#[n1,n2.symm]) λu2 h1 tk hP2 g1 g2 gT gs gk=>?_
  have e2:u2=u1:=by
   have:ir[i]?=some u2:=by simpa using hP2
   rw[hu1]at this;exact(oq9 this).symm
  subst e2;refine#[_,rfl,wpAny_letOwnedTupleGo_enum (s:={s with heap:=h1,toks:=tk+1}) g1 λh2 f1 sb=>?_];have fT:=I.fpOk (Xa _) (I.hok.fresh (Xa _));have nT:∀b∈[e,it],b≠s.heap.objs.size:=λb hb ee=>by
   obtain⟨o,eo,_⟩:∃o,s.heap.get? b=some o/\True:=by
    simp at hb;obtain⟨o4,e4,_⟩:=t2;rcases hb with rfl|rfl
    ·exact#[_,t1,trivial]
    ·exact#[_,e4,trivial]
   exact absurd (Xe eo) (ee▸Ym _)
  have kk:∀b o,b∉[e,it]->s.heap.get? b=some o->h2.get? b=some o:=λb o hb ee=>by
   simp at hb;exact(sb.2 b hb.1).trans (gk b o hb.1 hb.2 ee)
  have I1:L2.Inv X a8 σ H {s with heap:=h2,toks:=tk+1}:=jxb [e,it] I kk hf;have I2:=kk4 (a:=s.heap.objs.size) (o:=.tup [.int i,x]) I1 fT.1 fT.2.1 fT.2.2.2.1 fT.2.2.2.2.1 fT.2.2.2.2.2
   (show ObjOk X.prog X.w _ h2 _ (.tup [.int i,x])from#[by show(2:Nat)<=sizeLine;decide,[.int i tk,u2],.cons #[_,rfl] (.cons ru1 .nil),#[_,(sb.2 _ λee=>nT e (by simp) ee.symm).trans gT,rfl,rfl,0,rfl]])
  obtain⟨o4,e4,c4,d4⟩:=g2.1;exact#[.ref s.heap.objs.size,_,I2,rfl,#[_,x,fT.1,rfl,rfl,λzs hzs=>by rw[inj zs hzs];exact hx],#[#[u2,f1],o4,(sb.2 _ n1.symm).trans e4,c4,d4],λb hb=>by rw[qQ (nT b hb)];exact(hf b hb).1]
 done:=by
  intro X hP hw hK hc i a8 s σ H E I hf st hg;subst hP hw;obtain⟨xs,q1,hx⟩:=hg;obtain⟨⟨ir,sv,p1⟩,_⟩:=G X a8 s σ H hK I xs q1;obtain⟨⟨eh,t1⟩,t2⟩:=st;have hsz:ir.toArray.size=i:=by rw[X8,<-sv.length];exact hx
  refine wpAny_pyNext_enum_endD (D X.A.in1 (by have:=I.ok.hd hc;simpa using this) ir.toArray) t1 (hsz▸#[t2,p1]) λh' kk=>#[rfl,jxb (t':=s.toks) [it] I (λb o hb ee=>kk b o (by simpa using hb) ee) λb hb=>hf b (by
   simp at hb ⊢;exact .inr hb)]
 self:=λ_ _ _ _ _ st h=>by obtain⟨⟨eh,h1⟩,_⟩:=st;exact wpAny_pyIter_enum h1 h
theorem qwy{P w K dk k1 pos e it l}(n1:e≠it)(n2:l≠e)(n3:l≠it):Turn P w K (.Tuple dk k1 pos) (Ite K l) [e,it] e (λi h=>(∃eh,IsEnum h e it i eh)/\h.IsListIter it l i):=
 qwz (K:=K) (IS:=λh ac=>h.IsList l ac) n1 n2 (λA hh ac=>Draws.list hh it l n3 ac) λX a8 s σ H hK I xs q=>by
  subst hK;obtain⟨ac,rv,p,_⟩:=I.list q;exact#[#[ac,rv,p.isList],λzs hz=>I.list_inj hz q]
abbrev xvx(K:Frag)(ta:TA):TI:=fun σ H R=>ta σ H λvs H1=>∃l,vs=[.ref l]/\(∃xs,SqL K H1 l xs/\(xs.length<=sizeLine->R (Ite K l) H1))
theorem jzn:bootBuiltins "enumerate"=some (.type "enumerate"):=boot_enumerate
section
variable {X:Cx}{Z:Fx0}{K:Frag}{pn:List Nat}{q qa qb:Bool}{a b c:Ex}{u:Ts}{tg e ea eb:Expr}{st:Stmt}{σ:L2.St}{H:Hp}{L:Ls}{E:En}{pos p p2 jc:Pos}{x:Str}{dk:List Expr}{k1:Nat}
theorem wkj K {ta:TA}(hg:Gl X "enumerate")(hm:X.mg "enumerate"=none)(ha:PA X [e] ta)(hK:autoParam (X.K=K) Ŕ)
  (hs:autoParam (starEach [e] X.env=[(false,eval e X.env)]) Ŕ):PI X (.Tuple dk k1 jc) (.Call (.Name "enumerate" p) [e] [] pos) (xvx K ta):=by
 subst hK;intro a8 s σ H R I h;refine Call_ (J6 I hg hm jzn (Y1 (thn (ha pos a8 s σ H _ I h) λus s1 hz=>?_) (by rw[hs];rfl) rfl));obtain⟨vs,H1,I1,r1,q1⟩:=hz;obtain⟨l,rfl,xs,q1,q⟩:=q1;obtain⟨u1,rfl,e1⟩:=xv r1;cases e1;obtain⟨ir,sv,p1,sf⟩:=I1.list q1;have lt:l<s1.heap.objs.size:=by obtain⟨_,ee,_⟩:=p1.isList;exact Xe ee
 refine call_enumerate_list p1.isList λh' g1 g2 gs gk=>?_
 refine wpAny_pyIter_enum g1 #[_,[_,s1.heap.objs.size],_,_,H1,rfl,I1.kept (t':=s1.toks) gk,
  qwy (Nat.succ_ne_self _) (Xk (Z2 lt)) (Xk lt),#[#[_,g1],g2],λb hb=>?_,q sf]
 have gw:s1.heap.objs.size<=b:=by
  simp at hb;rcases hb with rfl|rfl<;>lia
 exact I1.fpOk gw (I1.hok.fresh gw)
theorem jwf:∀(ds:List D) (k:Nat),(xK k ds).length=ds.length
 |[],_=>rfl|d::ds,k=>by rw[xK,Xm,Xm,jwf ds]
theorem kz3:∀(ds:List D) (k i:Nat),(xK k ds)[i]?=(ds[i]?).map λd=>.tup [.int ((k+i:Nat):Int),d]
 |[],_,_=>by simp[xK]|d::ds,k,0=>by simp[xK]
 |d::ds,k,i+1=>by
  rw[xK,List.getElem?_cons_succ,List.getElem?_cons_succ,kz3 ds,show k+1+i=k+(i+1)from by lia]
theorem vvh{H2:Hp}{T:Addr}{d1 d2:D}{v1 v2:V}{b1 b2:List Addr}(hT:H2 T=none)(r1:RepL K H2 true d1 v1 b1)(r2:RepL K H2 true d2 v2 b2):RepL K (upd H2 T (.tup [v1,v2])) true (.tup [d1,d2]) (.ref T) (b1++b2):=by
 have sm:kw H2 (upd H2 T (.tup [v1,v2])):=x5 hT;refine#[T,[v1,v2],rfl,.inl (.inl wW),?_];refine#[v1,[v2],b1,b2,rfl,rfl,r1.kp (Kp.of_same sm),?_];refine#[v2,[],b2,[],rfl,by simp,r2.kp (Kp.of_same sm),?_];exact#[rfl,rfl]
theorem qwn{S:Hp->List V->Prop}{x:Sl}{es}(ag:∀H2,x.let.ok K H2->∃ys cs,S H2 ys/\RepA K H2 true es ys cs/\∀b∈cs,b∈x.as):Walks K (ItE S) [x.let] (xK 0 es):=by
 refine#[λt ht=>by rw[aC ht];rfl,λi H2 hok hi=>?_,λH2 hok=>?_,λi H2 v H3 d hok hy iz=>?_]
 all_goals obtain⟨ys,cs,s1,s2,s3⟩:=ag H2 (hok _ (aB rfl))
 ·have hl:=s2.len;rw[jwf]at hi;exact#[ys,ys[i]'⋯,s1,X1 ⋯]
 ·exact#[ys,s1,by rw[jwf,s2.len]]
 ·obtain⟨T,x',hT,rfl,rfl,hy⟩:=hy;rw[kz3]at iz;cases hes:es[i]? with
  |none=>rw[hes]at iz;cases iz
  |some d0=>
   rw[hes]at iz;cases oq9 iz;obtain⟨v',f8,f1,f2,f3⟩:=s2.get hes;have:=hy ys s1;rw[f1]at this;cases oq9 this;have rp:=vvh (v1:=.int ((0+i:Nat):Int)) hT vK f2;rw[show((0+i:Nat):Int)=i by lia]at rp ⊢;exact#[#[.no,_,.ref T,[]++f8],rfl,rfl,rfl,x5 hT,rp,λb hb=>#[x.let,aB rfl,s3 b (f3 b (by simpa using hb))]]
theorem vz3(h:QE X Z q c e)(hg:Gl X "enumerate")(hm:X.mg "enumerate"=none)(hK:autoParam (X.K=Z.K) Ŕ)(hs:autoParam (starEach [e] X.env=[(false,eval e X.env)]) Ŕ):QI X Z q (.Tuple dk k1 jc) (xj8 c) (.Call (.Name "enumerate" p) [e] [] pos):=λa8 s σ H R I ao=>ex8 ao λE L r m w hc xc k=>by
 refine(wkj Z.K hg hm (vZ h wQ hs) hK hs) a8 s σ H R I (Vx m w (show bnd (c E) _=some r from hc) xc λE1 s h1 x L1 H1 e1 e2 m1 w1 st sm=>?_);obtain⟨ds,hd,rfl⟩:=xw h1;obtain⟨wT,sT⟩:=kqu w1 st;cases hx:x.d with
 |lst es=>
  rw[<-e2,hx]at hd;cases oq9 hd;obtain⟨a,_,_,ev,_⟩:=items w1.head (.inl hx);have ag:=kxk (K:=Z.K) hx ev;obtain⟨xs,bs,q3,r3,_⟩:=ag H1 (Jq w1.head);exact#[a,by rw[ev],xs,q3,λai=>k _ _ rfl (Ite Z.K a) [x.let] L1 H1 m1 wT sT (by rw[jwf,r3.len];exact ai) (λhq=>(sm hq).1) (qwn ag)]
 |_=>rw[<-e2,hx]at hd;cases hd
end
theorem RepA.erase{K H g}:∀{j ds xs as},RepA K H g ds xs as->∃bs,RepA K H g (ds.eraseIdx j) (xs.eraseIdx j) bs/\bs.Sublist as
 |j,[],xs,as,h=>by
  obtain⟨rfl,rfl⟩:=h;exact#[[],#[rfl,rfl],List.Sublist.refl _]
 |0,d::ds,xs,as,h=>by
  obtain⟨x,r,bs,cs,rfl,rfl,h1,h2⟩:=h;exact#[cs,h2,List.sublist_append_right _ _]
 |j+1,d::ds,xs,as,h=>by
  obtain⟨x,r,bs,cs,rfl,rfl,h1,h2⟩:=h;obtain⟨es,r2,hs⟩:=RepA.erase h2;refine#[bs++es,?_,List.Sublist.append (List.Sublist.refl _) hs];unfold RepA;exact#[x,r.eraseIdx j,bs,es,rfl,rfl,h1,r2]
theorem xj5{n i j}(h:_root_.Q.ixN n i=some j):seqIndex? i n=some j/\j<n/\-n<=i/\i<n:=by
 have e:L2.ixN n i=some j:=by
  unfold _root_.Q.ixN at h;unfold L2.ixN
  by_cases h0:0<=i
  ·exact h
  ·rw[Xi h0]at h ⊢;exact h
 exact qjw e
section
variable {X:Cx}{Z:Fx0}{K:Frag}{pn:List Nat}{q qa qb:Bool}{a b c:Ex}{u:Ts}{tg e ea eb:Expr}{st:Stmt}{σ:L2.St}{H:Hp}{L:Ls}{E:En}{pos p p2 jc:Pos}{x:Str}{dk:List Expr}{k1:Nat}
set_option tactic.hygienic true in
theorem wx5 {i o apos aj} (hb:PE X (.Call (.Attribute o "pop" apos) [e] [] aj) (tBM Z.K "list" vz0 (zJ i) (wjk (tV Z q c) xqf))):QE X Z false (XV i c) (.Call (.Attribute o "pop" apos) [e] [] aj):=q9 hb fun σ H Q ao=>ex8 ao λE L r m w hc xc k=>by
 unfold XV at hc;cases h0:E[i]? with
 | none=>rw [h0]at hc;cases hc
 | some s0 =>
  cases s0 with
  | none=>rw [h0]at hc;cases hc
  | some s0 =>
   obtain ⟨o0,d0⟩:=s0;cases d0 with
   | lst ds0 =>
    rw [h0,Xd (show V4 (some (some (o0,D.lst ds0)))=true from rfl)]at hc;obtain ⟨x0,a1,a2,a3,a4⟩:=m.get h0;refine #[x0.v,a4,vzn (w.ok x0 (vJ a1)) a3,(qY m w hc xc λE1 s h1 x L1 H1 e1 e2 m1 w1 nr fr sr st sm=>?_)];cases hE:E1[i]? with
    | none=>rw[hE]at h1;cases h1
    | some s1=>
     cases s1 with
     | none=>rw[hE]at h1;cases h1
     | some s1=>
      obtain ⟨oo,dd⟩:=s1;rw [hE]at h1;cases dd with
      | lst ds=>
       cases hs:s.2 with
       | int kk=>
        rw [hs]at h1;dsimp only at h1
        by_cases jr:oo=.no
        ·rw [Xd jr]at h1;cases h1
        ·rw [Xi jr]at h1;cases hj:_root_.Q.ixN ds.length kk with
         | none=>rw[hj]at h1;cases h1
         | some j=>
          rw [hj]at h1;dsimp only at h1;cases hd:ds[j]? with
          | none=>rw[hd]at h1;cases h1
          | some d=>
           rw[hd]at h1;dsimp only at h1
           split at h1
           rotate_left
           ·cases h1
           rename_i hp;rw[Bool.and_eq_true]at hp;obtain⟨hp,hsm⟩:=hp;obtain⟨li,dl⟩:=jz0 hsm;cases oq9 h1;obtain⟨y,b1,b2,b3,b4⟩:=m1.get hE;have hv:y.v=x0.v:=by rw[a4]at b4;exact(oq9 (oq9 b4)).symm
           obtain⟨l,xs,bs,c1,c2,c3,c4,c5⟩:=qjh (w1.ok y (vJ b1)) b3 (b2▸jr);have ex0:x0.v=.ref l:=hv▸c1;rw[ex0];obtain⟨vv,f8,f1,f2,f3⟩:=c5.get hd;obtain⟨g1,g2,g3,g4⟩:=xj5 hj;have qg:(2:Int) ^ 63=9223372036854775808:=⋯
           obtain⟨_,rp⟩:=RepL.pu (g':=false) f2 hp;obtain⟨cs,r6,ei⟩:=c5.erase (j:=j);refine#[l,xs,kk,j,vv,rfl,by rw[kQ nr (e2.trans hs)],c2,?_,?_,by rw[<-c5.len];exact g1,f1,?_]
           ·have:(2:Int) ^ 62=4611686018427387904:=⋯
            omega
           ·have:(2:Int) ^ 62=4611686018427387904:=⋯
            omega
           have yn:y.own.Nodup:=by
            obtain⟨A,B,e,_⟩:=jxv b1;have:=w1.nd;rw[e,k9,v8,Xh]at this;exact(List.nodup_append.mp this.2.1).1
           have hoo:y.o=.rt\/y.o=.dp:=by
            rw[b2];cases oo with|no=>exact absurd rfl jr|rt=>exact .inl rfl|dp=>exact .inr rfl
           obtain⟨w3,s3⟩:=kvc (T:=[]) (o':=y.o) (ds':=ds.eraseIdx j) (xs':=xs.eraseIdx j) (by simpa using w1) b1 c2 c3 c4 c1 r6 (by
            rcases hoo with hoo|hoo
            ·exact .inl #[hoo,λa ha=>.inl (ei.subset ha)]
            ·refine .inr #[hoo,hoo,?_,λa ha=>.inl (ei.subset ha)];unfold Sl.own at yn;rw[hoo,c3]at yn;exact ei.nodup (List.nodup_cons.mp yn).2)
           have ke:∀a o,H1 a=some o->a≠l->upd H1 l (.lst (xs.eraseIdx j)) a=some o:=λa o e ne=>by rw[qQ ne];exact e
           have rp2:RepL Z.K (upd H1 l (.lst (xs.eraseIdx j))) false d vv []:=by
            refine rp.kp #[λa zs e=>ke a _ e λz=>?_,λa o u e=>ke a _ e λz=>?_,λa ha=>nomatch ha]
            ·subst z;rw[c2]at e;cases e
            ·subst z;rw[c2]at e;cases e
           have mm:=m1.set (x:=#[y.o,.lst (ds.eraseIdx j),y.v,l::cs]) i;rw[jxl b4]at mm;refine k _ _ rfl #[.dp,d,vv,[]] _ _ rfl rfl (b2▸mm) (w3.consPu rp2 rfl) (Kk (x:=#[.dp,d,vv,[]]) (st.trans (by simpa using s3)) (λb hb=>nomatch hb) rfl) λz=>nomatch z
       |_=>rw[hs]at h1;cases h1
      |_=>cases h1
   |_=>rw[h0]at hc;cases hc
end
section
variable {X:Cx}{Z:Fx0}{q:Bool}{a b c:Ex}{ea eb ec:Expr}{σ:L2.St}{H:Hp}{pos:Pos}
theorem qw5{r r' f g}(ad:Ad2 Z.K r (pu2 f))(ad':Ad2 Z.K r' (pu2 g)){Q}(h:tQ Z q (W7 f g a b c) σ H Q):vxt r r' (tV Z q a) (tV Z true b) (tV Z true c) σ H Q:=by
 obtain⟨E,L,R,m,w,hc,xc,k⟩:=h;refine qY m w hc xc λE1 s h1 x L1 H1 e1 e2 m1 w1 ok fr sr st sm=>(qY m1 w1 h1 (xc.step st) λE2 s2 h2 y L2 H2 e3 e4 m2 w2 gj nw nu ca dl=>?_)
 cases hf:f s.2 s2.2 with
 | none=>rw[hf]at h2;cases h2
 | some d=>
  rw [hf]at h2;cases d with
  | bl kb=>
   refine ad H2 x y _ _ (K8 ok fr ca (dl rfl)).1 gj (by show(f x.d y.d).map _=_;rw[e2,e4,hf];rfl) λz H' zo zd o=>(#[kb,Q0 o.ok zd,?_])
   have w3:World Z.K H' L2:=#[λt ht=>RepO.kp (w2.ok t ht) (Kp.of_same o.same),w2.nd,w2.ds];have dy:=(st.trans ca).trans #[λb ob h _=>o.same b ob h,λ_ h=>.inl h,λ_ h=>.inl h];have on:=λhq=>kK (sm hq) (kK (dl rfl) o.same)
   cases kb with
   | false=>
    cases oq9 h2;exact k _ _ rfl _ L2 H' rfl rfl m2 (w3.consPu (x:=#[.dp,.bl false,.bl false,[]]) (show RepL Z.K H' false _ _ []from qxu) rfl) (Kk dy (λb hb=>nomatch hb) rfl) λhq=>#[on hq,λ_ z=>(nomatch z)]
   | true=>
    rw[Xd rfl];refine qY m2 w3 h2 (xc.step dy) λE3 s3 h3 v L3 H3 e5 e6 m3 w4 ok3 oq sr3 gy pw=>?_
    obtain⟨zz,hz,rfl⟩:=xw h3;have ky:=K8 (RepO.kp gj (Kp.of_same o.same)) nw gy (pw rfl);refine ad' H3 y v zz Q ky.1 ok3 (by show(g y.d v.d).map _=_;rw[e4,e6];exact hz) λt H5 to td ot=>?_
    obtain⟨w5,ng⟩:=Kz w4 (dy.trans gy) ot (λb hb=>(aA hb).elim (ky.2 b) (oq b)) (λb hb=>(aA hb).elim (λz=>ky.1.some (Sl.frz_as z)) λz=>ok3.some (Sl.frz_as z))
     (qx8 (V3 (nu.back st) λb hb=>Sl.frz_as hb) (V3 (sr3.back dy) λb hb=>Sl.frz_as hb))
    exact k _ _ rfl t L3 H5 to td m3 w5 ng λhq=>#[kK (on hq) (kK (pw rfl) ot.same),λb hb=>Jj (kK (on hq) (pw rfl)) (ot.new b hb)]
  |_=>cases h2
theorem kva {op op' r r' f g} (ho:OpR X (compareOp op) r) (ad:Ad2 Z.K r (pu2 f)) (ko:OpR X (compareOp op') r') (ad':Ad2 Z.K r' (pu2 g)) (ha:QV X Z q a ea) (hb:QV X Z true b eb) (hc:QV X Z true c ec) (hg:∀x y s,pu2 g x y=some s->∃k,s.2=.bl k)
  (hm:lastMarks [op,op'] [eb,ec]=false:=by ac_rfl):QT X Z q (_root_.Q.tE (W7 f g a b c)) (.Compare ea [op,op'] [eb,ec] pos):=
 qq4 (vvw ho ko ha hb hc hm) fun σ H Q ao=>ex8 ao λE L r m w js xc k=>by
  refine qw5 ad ad' ?_;rcases wx js with⟨E1,s,h1,h2⟩|⟨E1,cx,h1,h2⟩
  ·refine#[E,L,_,m,w,h1,(λ_ _ z=>by cases z),λE' s' z x L' H' e1 e2 m' w' st sm=>?_];injection z with z1 z2;subst z1 z2;obtain⟨kk,hk⟩:∃k,s.2=.bl k:=by
    rcases wx h1 with⟨E2,s2,h3,h4⟩|⟨_,_,_,z⟩
    ·rcases wx h4 with⟨E3,s3,h5,h6⟩|⟨_,_,_,z⟩
     ·split at h6
      ·rcases wx h6 with⟨E4,s4,h7,h8⟩|⟨_,_,_,z⟩
       ·obtain⟨y,hy,z⟩:=xw h8;cases z;exact hg s3 s4 _ hy
       ·cases z
      ·grind
      ·grind
     ·cases z
    ·cases z
   rw[hk]at h2;cases oq9 h2;exact#[kk,Q0 w'.head (e2.trans hk),k _ _ rfl L' H' m' w'.tail (st.trans Step.drop) λhq=>(sm hq).1]
  ·exact#[E,L,_,m,w,h1,xc.map h2,λE' s' z=>by cases z]
end
section
variable {X:Cx}{a8:LA9}{σ:L2.St}{H:Hp}{s:Shared}{a b:Addr}{es:List Ent}{A:Around}{E:VP9}{k:Kd}
mutual
theorem VY(I:Inv X a8 σ H s):∀{d v u},PuR X.K H d v->RelV v u->qz s.heap d u
 |.non,_,_,h,r=>by rw[h]at r;exact r|.int _,_,_,h,r=>by rw[h]at r;exact r
 |.tup ds,_,_,h,r=>by
  obtain⟨a,xs,rfl,q,ra⟩:=h;cases r;obtain⟨ac,rv,p,_⟩:=I.tuple q;exact#[a,ac,rfl,p,purs_creps I ra rv]
 |.bl _,_,_,h,_=>h.elim|.str _,_,_,h,r=>by unfold PuR at h;rw[h.1]at r;exact r|.lst _,_,_,h,_=>h.elim|.dct _,_,_,h,_=>by unfold PuR at h;exact h.elim|.obj _ _,_,_,h,_=>h.elim
theorem purs_creps(I:Inv X a8 σ H s):∀{ds xs us},PuRs X.K H ds xs->Vals xs us->CReps s.heap ds us
 | [],_,_,h,r=>by unfold PuRs at h;rw[h]at r;cases r;rfl
 | d::ds,_,_,h,r=>by
  obtain⟨x,rr,rfl,h1,h2⟩:=h;cases r with
  |cons r1 r2=>
   exact#[_,_,rfl,VY I h1 r1,purs_creps I h2 r2]
end
mutual
theorem vz8{K g}:∀{n d v as},qx n d=true->RepL K H g d v as->PuR K H d v
 |_,.non,_,_,_,h=>h.1|_,.int _,_,_,_,h=>by unfold RepL at h;exact h.1|0,.tup _,_,_,hk,_=>by cases hk
 |n+1,.tup ds,_,_,hk,h=>by
  unfold RepL at h;obtain⟨a,xs,e,q,ra⟩:=h;exact#[a,xs,e,q,purs_of hk ra]
 |n,.bl _,_,_,hk,_=>by cases n<;>(unfold qx at hk;cases hk)|_,.str _,_,_,_,h=>by unfold RepL at h;exact#[h.1,h.2.2]|n,.lst _,_,_,hk,_=>by cases n<;>(unfold qx at hk;cases hk)|n,.dct _,_,_,hk,_=>by cases n<;>(unfold qx at hk;cases hk)|n,.obj _ _,_,_,hk,_=>by cases n<;>(unfold qx at hk;cases hk)
theorem purs_of{K g}:∀{n ds xs as},keyDs n ds=true->RepA K H g ds xs as->PuRs K H ds xs
 |_,[],_,_,_,h=>h.1
 |n,d::ds,_,_,hk,h=>by
  unfold keyDs at hk;rw[Bool.and_eq_true]at hk;obtain⟨x,r,bs,cs,rfl,rfl,h1,h2⟩:=h;exact#[x,r,rfl,vz8 hk.1 h1,purs_of hk.2 h2]
end
theorem kz9{ep:Nat}(I:Inv X a8 σ H s)(h:H a=some (qW a es ep))(hn:(es.map (·.1)).Nodup)(hk:∀x∈es,PuR X.K H x.1.1 (.ref x.2.1)):s.heap.DictOfH (kwm X.prog X.w) a es:=by
 obtain⟨⟨o,ds,h1,h2,h3,h4⟩,_⟩:=(show ObjOk X.prog X.w H s.heap a (qW a es ep)from I.hok a _ h);exact#[o,ds,ep,h1,h2,h3,h4,λx hx=>VY I (hk x hx) rfl,hn]
theorem qv3:∀(es:List Ent) (k:Kd),(atKey es k).isSome=decide (k.1∈es.map (·.1.1))
 | [],k=>by simp[atKey]
 | x::es,k=>by
  have ih:=qv3 es k
  by_cases h:x.1=k
  ·have:k.1∈(x::es).map (·.1.1):=by rw[<-h];simp
   rw[Xb this];simp[atKey,List.find?_cons,h]
  ·have e1:atKey (x::es) k=atKey es k:=by simp[atKey,List.find?_cons,h]
   have e2:(k.1∈(x::es).map (·.1.1))↔k.1∈es.map (·.1.1):=by
    rw[List.map_cons,Yq];exact#[λz=>z.elim (λq=>absurd (Subtype.ext q.symm) h) id,.inr]
   rw[e1,ih];exact decide_eq_decide.mpr e2.symm
theorem kv8(hu:A.units+64<cLine):(kwm X.prog X.w).room A.in1:=by show A.units+1+40<cLine;lia
theorem xjt{ks:List D}{vs:List V}{Q:VP9}(hu:A.units+64<cLine)(I:Inv X a8 σ H s)(d:DcN X.K H a ks vs)(hk:PuR X.K H k.1 (.ref b))(h:∀s',Inv X a8 σ H s'->Q (.bool (decide (k.1∈ks))) s'):wpAny (model X.prog X.w) A (compareOp .In (.ref b) (.ref a)) Q E s:=by
 obtain⟨es,ep,e,h1,h2,h3,rfl,h5,h6⟩:=d;refine wpAny_in_heap (knd:=kwm X.prog X.w) (kv8 hu) (VY I hk rfl) h1 (kz9 I e h3 h5) ?_;rw[qv3];exact h _ (I.tok _)
theorem vkw{ks:List D}{vs:List V}{Q:VP9}(hu:A.units+64<cLine)(I:Inv X a8 σ H s)(d:DcN X.K H a ks vs)(hk:PuR X.K H k.1 (.ref b))(h:∀s',Inv X a8 σ H s'->Q (.bool (!decide (k.1∈ks))) s'):wpAny (model X.prog X.w) A (compareOp .NotIn (.ref b) (.ref a)) Q E s:=by
 obtain⟨es,ep,e,h1,h2,h3,rfl,h5,h6⟩:=d;refine wpAny_notIn_heap (knd:=kwm X.prog X.w) (kv8 hu) (VY I hk rfl) h1 (kz9 I e h3 h5) ?_;rw[qv3];exact h _ (I.tok _)
end
def xky(K:Frag)(km:Bool):R2:=λx y H Q=>∃(k:Kd) (b a:Addr) (ks:List D) (vs:List V),x=.ref b/\y=.ref a/\PuR K H k.1 (.ref b)/\DcN K H a ks vs/\Q (.bl (if km then !decide (k.1∈ks)else decide (k.1∈ks))) H
theorem wzg{X:Cx}{K:Frag}(hu:X.A.units+64<cLine)(hK:autoParam (X.K=K) Ŕ):OpR X (compareOp .In) (xky K false):=by
 subst hK;intro a8 s σ H x y u v Q I rx ry ⟨k,b,a,ks,vs,e1,e2,hk,hd,q⟩;subst e1 e2;cases rx;cases ry;exact xjt hu I hd hk λs' I'=>#[.bl _,H,I',rfl,q]
theorem qqb{X:Cx}{K:Frag}(hu:X.A.units+64<cLine)(hK:autoParam (X.K=K) Ŕ):OpR X (compareOp .NotIn) (xky K true):=by
 subst hK;intro a8 s σ H x y u v Q I rx ry ⟨k,b,a,ks,vs,e1,e2,hk,hd,q⟩;subst e1 e2;cases rx;cases ry;exact vkw hu I hd hk λs' I'=>#[.bl _,H,I',rfl,q]
theorem wj1{K:Frag}{H:Hp}{y:Sl}{kvs:List (D×D)}(ok:y.ok K H)(hd:y.d=.dct kvs)(hu:unm kvs=true):∃a xs,y.v=.ref a/\DcN K H a (kvs.map (·.1)) xs:=by
 have h:=RepO.wk ok;rw[hd]at h;unfold RepL at h;obtain⟨a,xs,bs,e,_,q,_⟩:=h;exact#[a,xs,e,DcA.un q hu]
theorem jva{K:Frag}{H:Hp}{x:Sl}(ok:x.ok K H)(hk:qZ x.d=true):∃b,x.v=.ref b/\PuR K H x.d (.ref b):=by
 unfold qZ at hk;rw[Bool.and_eq_true]at hk;have h:=vz8 hk.1 (RepO.wk ok);cases hd:x.d with
 |tup ds=>
  rw[hd]at h;have h':=h;unfold PuR at h;obtain⟨a,xs,e,_⟩:=h;exact#[a,e,e▸h']
 |_=>rw[hd]at hk;cases hk.2
theorem wjc{K:Frag}:Ad2 K (xky K false) (pu2 Q9):=by
 intro H x y s Q ox oy hf k;unfold pu2 Q9 at hf;dsimp only at hf;cases hy:y.d with
 | dct kvs=>
  rw[hy]at hf;dsimp only at hf
  by_cases hk:qZ x.d=true/\unm kvs=true
  ·rw[Xd hk]at hf;cases oq9 hf;obtain⟨a,xs,e,q⟩:=wj1 oy hy hk.2;obtain⟨b,eb,pb⟩:=jva ox hk.1;have kt:qx 6 x.d=true:=by have hk:=hk.1;unfold qZ at hk;rw[Bool.and_eq_true]at hk;exact hk.1
   exact#[#[x.d,kt],b,a,_,xs,eb,e,pb,q,k #[.dp,.bl _,.bl _,[]] H rfl rfl wK]
  ·rw[Xi hk]at hf;cases hf
 |_=>rw[hy]at hf;cases hf
theorem kzo{K:Frag}:Ad2 K (xky K true) (pu2 Qz):=by
 intro H x y s Q ox oy hf k;unfold pu2 Qz at hf;dsimp only at hf;cases hy:y.d with
 | dct kvs=>
  rw[hy]at hf;dsimp only at hf
  by_cases hk:qZ x.d=true/\unm kvs=true
  ·rw[Xd hk]at hf;cases oq9 hf;obtain⟨a,xs,e,q⟩:=wj1 oy hy hk.2;obtain⟨b,eb,pb⟩:=jva ox hk.1;have kt:qx 6 x.d=true:=by have hk:=hk.1;unfold qZ at hk;rw[Bool.and_eq_true]at hk;exact hk.1
   exact#[#[x.d,kt],b,a,_,xs,eb,e,pb,q,k #[.dp,.bl _,.bl _,[]] H rfl rfl wK]
  ·rw[Xi hk]at hf;cases hf
 |_=>rw[hy]at hf;cases hf
theorem xk6(x y s:Sd)(h:pu2 Q9 x y=some s):∃k,s.2=.bl k:=by
 unfold pu2 Q9 at h;cases hy:y.2 with
 |dct kvs=>
  rw[hy]at h;dsimp only at h
  by_cases hk:qZ x.2=true/\unm kvs=true
  ·rw[Xd hk]at h;cases oq9 h;exact#[_,rfl]
  ·rw[Xi hk]at h;cases h
 |_=>rw[hy]at h;cases h
theorem kzf(x y s:Sd)(h:pu2 Qz x y=some s):∃k,s.2=.bl k:=by
 unfold pu2 Qz at h;cases hy:y.2 with
 |dct kvs=>
  rw[hy]at h;dsimp only at h
  by_cases hk:qZ x.2=true/\unm kvs=true
  ·rw[Xd hk]at h;cases oq9 h;exact#[_,rfl]
  ·rw[Xi hk]at h;cases h
 |_=>rw[hy]at h;cases h
theorem vkx{P:Program}{w:PySem.World}{H:Hp}(h:Heap):ObjOk P w H (h.push {cls:=.type "dict",data:=.dict (List.toArray [])}) h.objs.size (qW h.objs.size [] 0):=
 #[#[_,(List.toArray []),X9 _ rfl,#[rfl,rfl,rfl],rfl,rfl],#[_,X9 _ rfl],λh1 h2 hz k=>by obtain⟨o,ds,a1,a2⟩:=hz;exact#[o,ds,k o a1,a2]]
abbrev xqk:TE:=λ_ H Q=>∀p,H p=none->(p==sysModules)=false->Q (.ref p) (upd H p (qW p [] 0))
theorem wkn{X:Cx}{pos:Pos}:PE X (.Dict [] [] pos) xqk:=λa8 s σ H Q I h=>
 wpAny_Dict_empty #[.ref s.heap.objs.size,_,I.laid (a:=s.heap.objs.size) (o:=qW s.heap.objs.size [] 0) (t':=s.toks) (λ_ _ q=>X2 _ q) (Xa _) (vkx s.heap),rfl,h _ (I.hok.fresh (Xa _)) (by
  have:=I.big;exact Xu (Zl this))]
theorem vvi{K H p}(hs:(p==sysModules)=false){g}:RepL K (upd H p (qW p [] 0)) g (.dct []) (.ref p) [p]:=
 #[p,[],[],rfl,by unfold RepP;exact#[rfl,rfl],.inl #[[],0,wW,hs,Y6 _,Xr,rfl,λ_ z=>absurd z Y7,Paired.nil],rfl]
theorem wxe{X:Cx}{Z:Fx0}{pos:Pos}:QE X Z true wv3 (.Dict [] [] pos):=qz9 (C:=λp=>(p==sysModules)=false) wkn ⋯ λ_ _ hs=>vvi hs
section
variable {K:Frag}{H:Hp}{g:Bool}{k:Kd}{b:Addr}{d:D}{x:V}{r:Value}{cs:List Addr}
theorem qxs (hx : RepL K H g d x cs) (hr : RelV x r): ∀{kvs xs bs} {es : List Ent},RepP K H g kvs xs bs -> kvs.map (·.1) = es.map (·.1.1) -> Vals xs (es.map (·.2.2)) ->
    ∃ xs' f8,RepP K H g (kvs.map λe=>if e.1 = k.1 then(k.1,d)else e) xs' f8 /\ Vals xs' ((es.map (putAt k r)).map (·.2.2)) /\ ∀a ∈ f8,a ∈ bs \/ a ∈ cs
  | [],_,_,[],h,_,_=>#[[],[],#[rfl,rfl],Paired.nil,λ_ z=>nomatch z]| [],_,_,_::_,_,h,_=>by simp at h| _ :: _,_,_,[],_,h,_=>by simp at h
  | (q,e)::kvs,_,_,n::es,h,hk,hv=>by
    obtain⟨y,rr,b1,b2,rfl,rfl,h1,h2⟩:= h;injection hk with k1 k2;cases hv with
    | cons v1 v2=>
      obtain⟨xs',f8,i1,i2,i3⟩:= qxs hx hr h2 k2 v2
      by_cases hq : q = k.1
      · have hn : n.1 = k:= Subtype.ext (hq▸k1.symm)
        refine#[x::xs',cs ++ f8,?_,?_,λa ha=> ?_]
        · rw[List.map_cons,Xd hq]
          exact#[x,xs',cs,f8,rfl,rfl,hx,i1]
        · refine .cons ?_ i2
          unfold putAt
          rwa [Xd hn]
        · rcases aA ha with z|z
          · exact .inr z
          · exact(i3 a z).imp (lr9 _) id
      · have hn : ¬n.1 = k:= λz=>hq (z▸k1)
        refine#[y::xs',b1 ++ f8,?_,?_,λa ha=> ?_]
        · rw[List.map_cons,Xi hq]
          exact#[y,xs',b1,f8,rfl,rfl,h1,i1]
        · refine .cons ?_ i2
          unfold putAt
          rwa [Xi hn]
        · rcases aA ha with z|z
          · exact .inl (ll9 _ z)
          · exact(i3 a z).imp (lr9 _) id
theorem kwx{q}(hx : RepL K H g d x cs): ∀{kvs xs bs},RepP K H g kvs xs bs -> RepP K H g (kvs ++ [(q,d)]) (xs ++ [x]) (bs ++ cs)
  | [],_,_,h=>by
    obtain⟨rfl,rfl⟩:= h;unfold RepP;exact#[x,[],cs,[],rfl,by simp,hx,by unfold RepP; exact#[rfl,rfl]]
  | (p,e)::kvs,_,_,h=>by
    obtain⟨y,rr,b1,b2,rfl,rfl,h1,h2⟩:= h;unfold RepP;exact#[y,rr ++ [x],b1,b2 ++ cs,rfl,by rw[Xq],h1,kwx hx h2]
theorem kwj:∀{xs us},Vals xs us->RelV x r->Vals (xs++[x]) (us++[r])
 |_,_,.nil,h=>.cons h .nil|_,_,.cons a t,h=>.cons a (kwj t h)
theorem wk5{kvs xs bs}{es:List Ent}(hx:RepL K H g d x cs)(hr:RelV x r)(h:RepP K H g kvs xs bs)(hk:kvs.map (·.1)=es.map (·.1.1))(hv:Vals xs (es.map (·.2.2)))(hn:(es.map (·.1)).Nodup)(hp:∀n∈es,PuR K H n.1.1 (.ref n.2.1))(hb:PuR K H k.1 (.ref b)):
  ∃ xs' f8,RepP K H g (Kw kvs k.1 d) xs' f8/\(Kw kvs k.1 d).map (·.1)=(storedH es k b r).map (·.1.1)/\Vals xs' ((storedH es k b r).map (·.2.2))/\((storedH es k b r).map (·.1)).Nodup/\(∀n∈storedH es k b r,PuR K H n.1.1 (.ref n.2.1))/\(storedH es k b r).length<=es.length+1/\∀a∈f8,a∈bs\/a∈cs:=by
 have hm:=qv3 es k;rw [<-hk]at hm;cases ha:atKey es k with
 | some p=>
  rw[ha]at hm;have fm:=Yo hm.symm;rw[storedH_old ha];unfold Kw;rw[Xd fm];obtain⟨xs',f8,i1,i2,i3⟩:=qxs hx hr h hk hv;refine#[xs',f8,i1,?_,i2,by rw[keys_map_putAt];exact hn,λn wb=>?_,by rw[X3];omega,i3]
  ·have e1:(es.map (putAt k r)).map (·.1.1)=es.map (·.1.1):=by
    rw[Xj];refine Yb λn _=>?_
    show(putAt k r n).1.1=n.1.1;unfold putAt
    by_cases z:n.1=k
    ·rw[Xd z]
    ·rw[Xi z]
   rw[e1,<-hk,Xj];refine Yb λe _=>?_
   show(if e.1=k.1 then _ else e).1=e.1
   by_cases z:e.1=k.1
   ·rw[Xd z];exact z.symm
   ·rw[Xi z]
  ·obtain⟨m,sg,rfl⟩:=aE wb;have:=hp m sg;unfold putAt
   by_cases z:m.1=k
   ·rw[Xd z];exact this
   ·rw[Xi z];exact this
 | none=>
  rw[ha]at hm;have fm:=of_decide_eq_false hm.symm;rw[storedH_new ha];unfold Kw;rw[Xi fm];refine#[xs++[x],bs++cs,kwx hx h,by rw[X7,X7,hk];rfl,by rw[X7];exact kwj hv hr,?_,λn wb=>?_,by simp,λa z=>aA z]
  ·rw[X7,Xh];refine#[hn,by simp,λp oh q hq e=>?_]
   grind
  ·rcases aA wb with z|z
   ·exact hp n z
   ·rw[aC z];exact hb
end
section
variable {X:Cx}{a8:LA9}{σ:L2.St}{H:Hp}{s:Shared}{a b:Addr}{es:List Ent}{A:Around}{E:VP9}{k:Kd}{r:Value}
theorem wqw{ep Q}(hu:A.units+64<cLine)(I:Inv X a8 σ H s)(e:H a=some (qW a es ep))(h2:es.length<=sizeLine)(h3:(es.map (·.1)).Nodup)(h5:∀x∈es,PuR X.K H x.1.1 (.ref x.2.1))(hk:PuR X.K H k.1 (.ref b))
  (h:∀ep' s',Inv X a8 σ (upd H a (qW a (storedH es k b r) ep')) s'->Q () s'):wpAny (model X.prog X.w) A (setItem (.ref a) (.ref b) r) Q E s:=by
 refine wpAny_setItem_heap (hsz:=h2) (kv8 hu) (VY I hk rfl) (kz9 I e h3 h5) λh' dd hs=>?_
 obtain⟨q,ds,ep',hq,g2,g3,g4,_,_⟩:=dd;exact h ep' _ (kw9 I (e▸Zh) hs #[q,hq] #[#[q,ds,hq,g2,g3,g4],#[q,hq],λh1 h2 #[o,ds,a1,a2] k=>#[o,ds,k o a1,a2]])
end
theorem qze{K H T L i y l es es' ep ep' xs' bs cs kvs'}(w:World K H (T++L))(hy:L[i]?=some (some y))(hH:H l=some (qW l es ep))(ho:y.o=.rt)(ha:y.as=l::bs)(hv:y.v=.ref l)
  (r:RepP K H true kvs' xs' cs) (hc:∀a∈cs,a∈bs\/a∈jw T\/a∈k5 T) (hs:(l==sysModules)=false) (h2:es'.length<=sizeLine) (h3:(es'.map (·.1)).Nodup) (h4:kvs'.map (·.1)=es'.map (·.1.1)) (h5:∀n∈es',PuR K H n.1.1 (.ref n.2.1)) (h6:Vals xs' (es'.map (·.2.2))):
  World K (upd H l (qW l es' ep')) (L.set i (some #[.rt,.dct kvs',y.v,l::cs]))/\Step H (T++L) (upd H l (qW l es' ep')) (L.set i (some #[.rt,.dct kvs',y.v,l::cs])):=by
 have hl:l∈y.own:=by unfold Sl.own;rw[ho,ha];simp
 have oL:=mem_owned.mpr #[y,vJ hy,hl];have oy:l∈jw (T++L):=by rw[k9];exact lr9 _ oL
 have nd:=w.nd;rw[k9,Xh]at nd;have nb:l∉bs:=λz=>by
  have:l∈y.frz:=by unfold Sl.frz;rw[ho,ha];exact z
  exact w.ds l oy (by rw[v5];exact lr9 _ (mem_frozen.mpr #[y,vJ hy,this]))
 have nc:l∉cs:=λz=>by
  rcases hc l z with q|q|q
  ·exact nb q
  ·exact(λz=>nd.2.2 l z l oL rfl) q
  ·exact(λz=>w.ds l oy (by rw[v5];exact ll9 _ z)) q
 have kp:Kp H (upd H l (qW l es' ep')) cs:=by
  have k2:∀a o,H a=some o->a≠l->upd H l (qW l es' ep') a=some o:=λa o e ne=>by rw[qQ ne];exact e
  refine#[λa zs e=>k2 a _ e λz=>?_,λa o u e=>k2 a _ e λz=>?_,λa ha o e=>k2 a o e λz=>nc (z▸ha)]
  ·subst z;rw[hH]at e;cases e
  ·subst z;rw[hH]at e;cases e
 refine World.writeAt w hy hl (y':=_) #[l,xs',cs,hv,r.kp kp,.inl #[es',ep',wW,hs,h2,h3,h4,λn hn=>PuR.kp kp (h5 n hn),h6],rfl] (by simp[Sl.own]) (λa h=>?_) (λa h=>?_) (λa h z=>?_)
 ·have:a=l:=by simpa [Sl.own]using h
  grind
 ·rcases hc a (by simpa [Sl.frz]using h)with q|q
  ·exact .inl (ha▸lc9 _ q)
  ·exact .inr q
 ·have:a=l:=by simpa [Sl.own]using h
  subst this;exact nc (by simpa [Sl.frz]using z)
abbrev xwn(K:Frag):V->V->V->Hp->(Hp->Prop)->Prop:=λx y v H C=>∃a b k es ep,x=.ref a/\y=.ref b/\H a=some (qW a es ep)/\es.length<=sizeLine/\(es.map (·.1)).Nodup/\(∀n∈es,PuR K H n.1.1 (.ref n.2.1))/\PuR K H k.1 (.ref b)/\∀r ep',RelV v r->C (upd H a (qW a (storedH es k b r) ep'))
abbrev wjs(K:Frag)(td ty tv:TE):TS:=λD σ H=>tv σ H λv H1=>td σ H1 λx H2=>ty σ H2 λy H3=>xwn K x y v H3 λH4=>D.nx σ H4
theorem qzi{X o i bh td ty tv pos bc}(hu:X.A.units+64<cLine)(ho:PE X o td)(hi:PE X i ty)(hv:PE X bh tv)(hs:swapsWith bh (some (.Subscript o i bc)) pos.line X.env=pure false):
  PS X (.Assign [.Subscript o i bc] bh pos) (wjs X.K td ty tv):=by
 intro a8 s σ H D I h;refine wpAny_Assign_Subscript (thn (hv a8 s σ H _ I h) λr s1 mq=>?_) hs;obtain⟨v,H1,I1,rv,q1⟩:=mq;refine thn (ho a8 s1 σ H1 _ I1 q1) λu s2 om=>?_
 obtain⟨x,H2,I2,rx,q2⟩:=om;refine thn (hi a8 s2 σ H2 _ I2 q2) λiv s3 hq3=>?_
 obtain⟨y,H3,I3,ry,a,b,k,es,ep,ex,ey,e,h2,h3,h5,hk,q3⟩:=hq3;subst ex ey;obtain rfl:u=Value.ref a:=rx;obtain rfl:iv=Value.ref b:=ry;exact wqw hu I3 e h2 h3 h5 hk λep' s4 I4=>#[σ,_,I4,q3 r ep' rv]
section
variable {X:Cx}{Z:Fx0}{pn:List Nat}{q:Bool}{kc vc:Ex}{o ke ve:Expr}{pos bc:Pos}
set_option tactic.hygienic true in
theorem vz4{i}(hu:X.A.units+64<cLine)(hK:X.K=Z.K)(ho:PE X o (zJ i))(hk:QV X Z true kc ke)(hv:QE X Z q vc ve)(hs:autoParam (swapsWith ve (some (.Subscript o ke bc)) pos.line X.env=pure false) Ŕ):
  QS X Z pn (vve i kc vc) (.Assign [.Subscript o ke bc] ve pos):=vvn (W:=xwn X.K) (qzi hu ho hk hv hs) #[rfl,rfl] fun {H L y x z d} {C} hy w nh dw k=>by
 obtain⟨yo,yd,yv,yas⟩:=y;unfold wql at dw
 split at dw
 ·rename_i kvs heq;injection heq with h1 h2;subst h1 h2
  split at dw
  ·rename_i hc;cases oq9 dw;obtain⟨a,xs,bs,e4,rp,q4,e5⟩:=w.tail.ok _ (vJ hy);obtain⟨es,ep,g1,g2,g3,g4,g5,g6,g7⟩:=DcA.un q4 hc.2.2;obtain⟨b,eb,pb⟩:=jva nh hc.1;have kt:qx 6 z.d=true:=by have:=hc.1;unfold qZ at this;rw[Bool.and_eq_true]at this;exact this.1
   have ai:es.length<sizeLine:=by
    have:=congrArg List.length g5;rw[X3,X3]at this;rw[<-this];exact hc.2.1
   refine#[a,b,#[z.d,kt],es,ep,e4,eb,g1,g3,g4,by rw[hK];exact g6,by rw[hK];exact pb,λrr ep' hrr=>?_];obtain⟨xs',f8,p1,p2,p3,p4,p5,p6,p7⟩:=wk5 (k:=#[z.d,kt]) (RepO.wk (w.ok x X5)) hrr rp g5 g7 g4 g6 pb;obtain⟨w4,gy⟩:=qze (T:=[some x]) (ep':=ep') w hy g1 rfl e5 e4 p1 (λc kr=>(p7 c kr).imp id λz=>by
    rcases Sl.as_of z with z|z
    ·exact .inl (by simpa using z)
    ·exact .inr (by simpa using z)) g2 (by omega) p4 p2 p5 p3
   exact k _ _ w4 gy
  ·cases dw
 ·cases dw
end
def xjk(K:Frag)(p:Addr)(Q:VK)(ps:List (V×V))(H2:Hp):Prop:=∃x y,ps=[(x,y)]/\H2 p=some (qW p [] 0)/\∃(b:Addr) (kd:Kd),x=.ref b/\PuR K H2 kd.1 (.ref b)/\∀r ep',RelV y r->Q (.ref p) (upd H2 p (qW p [(kd,b,r)] ep'))
abbrev xqj(K:Frag)(tk tv:TE):TE:=fun σ H Q=>∀p,H p=none->(p==sysModules)=false->tk σ (upd H p (qW p [] 0)) λx H1=>tv σ H1 λy H2=>xjk K p Q [(x,y)] H2
theorem wkm{X:Cx}{K:Frag}{pos:Pos}{k v:Expr}{tk tv:TE}(hu:X.A.units+64<cLine)(hk:PE X k tk)(hv:PE X v tv)(hK:autoParam (X.K=K) Ŕ):PE X (.Dict [some k] [v] pos) (xqj K tk tv):=by
 subst hK;intro a8 s σ H Q I h;have hn:=I.hok.fresh (Xa s.heap.objs.size);have I1:=I.laid (a:=s.heap.objs.size) (o:=qW s.heap.objs.size [] 0) (h':=s.heap.push {cls:=.type "dict",data:=.dict (List.toArray [])}) (t':=s.toks) (λ_ _ q=>X2 _ q) (Xa _) (vkx s.heap);refine wpAny_Dict_any rfl rfl (by simp) (by simp) (thn (vvz hk hv wkf a8 _ σ _ (xjk X.K s.heap.objs.size Q) I1 (h _ hn (Xu (Zl I.big)))) λvs s2 hz=>?_);obtain⟨ps,H2,I2,dm,x,y,ep,e,b,kd,ex,pk,q⟩:=hz;subst ep ex;cases dm with
 |@cons p1 p2 t1 t2 h1 h2=>
  cases h2;obtain⟨u,r⟩:=p2;obtain rfl:u=Value.ref b:=h1.1;have h1:RelV y r:=h1.2;unfold storeAll;rw[List.forIn_cons];refine X0 (X0 (wpAny_dictSet_heap (knd:=kwm X.prog X.w) (xs:=[]) (k:=kd) (by show X.A.units+40<cLine;lia) (VY I2 pk rfl) (kz9 I2 e Xr (λ_ z=>absurd z Y7)) (λh' dd hs=>X6 ?_) (Y6 _)));show wpAny (model X.prog X.w) X.A (forIn [] PUnit.unit _) _ _ _;rw[List.forIn_nil];refine X6 ?_;obtain⟨o,ds,ep',hq,g2,g3,g4,_,_⟩:=dd;exact#[.ref s.heap.objs.size,_,kw9 (ob:=qW s.heap.objs.size [(kd,b,r)] ep') I2 (by rw[e];exact Zh) hs #[o,hq] #[#[o,ds,hq,g2,g3,g4],#[o,hq],λh1 h2 hz k=>by obtain⟨o,ds,a1,a2⟩:=hz;exact#[o,ds,k o a1,a2]],rfl,q r ep' h1]
section
variable {X:Cx}{Z:Fx0}{q:Bool}{kc vc:Ex}{ke ve:Expr}{pos:Pos}
theorem wxd(hu:X.A.units+64<cLine)(hk:QE X Z q kc ke)(hv:QE X Z q vc ve)(hK:autoParam (X.K=Z.K) Ŕ):QE X Z q (vxf kc vc) (.Dict [some ke] [ve] pos):=q9 (wkm hu hk hv hK) fun σ H Q ao=>ex8 ao λE L r m w hc xc k=>by
 intro p hp hs;have rg:kw H (upd H p (qW p [] 0)):=x5 hp;have st0:Step H L (upd H p (qW p [] 0)) L:=#[λb ob h _=>rg b ob h,λ_ h=>.inl h,λ_ h=>.inl h];have nL:p∉jw L:=λz=>w.own_some z hp
 have nF:p∉k5 L:=λz=>w.frz_some z hp
 have w0:World Z.K (upd H p (qW p [] 0)) L:=#[λt ht=>RepO.kp (w.ok t ht) (Kp.of_same rg),w.nd,w.ds];have wd:World Z.K (upd H p (qW p [] 0)) ([some #[.rt,.dct [],.ref p,[p]]]++L):=by
  refine World.cons w0 #[p,[],[],rfl,by unfold RepP;exact#[rfl,rfl],.inl #[[],0,wW,hs,Y6 _,Xr,rfl,λ_ z=>absurd z Y7,Paired.nil],rfl] (by simp[Sl.own]) (λb hb ho=>?_) (λb hb ho=>?_) (λb hb=>by simp[Sl.frz]at hb) (λb _ hb=>by simp[Sl.frz]at hb)
  ·have:b=p:=by simpa [Sl.own]using hb
   exact nL (this▸ho)
  ·have:b=p:=by simpa [Sl.own]using hb
   exact nF (this▸ho)
 refine Vx m w0 (show bnd (kc E) _=some r from hc) (xc.step st0) λE1 s1 h1 x L1 H1 e1 e2 m1 w1 jn li=>?_
 obtain⟨wd1,sd1⟩:=xq2 wd jn w1;have s1':Step H L H1 L1:=(st0.trans jn).trans Step.drop;refine Vx m1 w1.tail (show bnd (vc E1) _=some r from h1) (xc.step s1') λE2 s2 h2 y L2 H2 e3 e4 m2 w2 ca dl=>?_
 have pm:(([some #[.rt,.dct [],.ref p,[p]]]:Ls)++(some x::L1)).Perm (([some x,some #[.rt,.dct [],.ref p,[p]]]:Ls)++L1):=List.Perm.swap _ _ _;obtain⟨wd2,sd2⟩:=xq2 (wd1.perm pm) ca w2;have ui:(([some x,some #[.rt,.dct [],.ref p,[p]]]:Ls)++(some y::L2)).Perm (([some x,some y]:Ls)++(some #[.rt,.dct [],.ref p,[p]]::L2)):=List.Perm.cons _ (List.Perm.swap _ _ _);have w3:=wd2.perm ui;have dy:Step (upd H p (qW p [] 0)) ([some #[.rt,.dct [],.ref p,[p]]]++L) H2 ([some x,some y]++(some #[.rt,.dct [],.ref p,[p]]::L2)):=(sd1.perm (List.Perm.refl _) pm).trans (sd2.perm (List.Perm.refl _) ui)
 by_cases hkt:qZ s1.2=true
 ·rw [Xd hkt]at h2;cases oq9 h2;have nr:x.ok Z.K H2:=w3.ok x (by simp);have hkz:qZ x.d=true:=by rw[e2];exact hkt
  obtain⟨b,eb,pb⟩:=jva nr hkz;have kt:qx 6 x.d=true:=by unfold qZ at hkz;rw[Bool.and_eq_true]at hkz;exact hkz.1
  obtain⟨a,xs0,bs0,ea,_,q4,_⟩:=(show RepR Z.K H2 (.dct []) (.ref p) [p]from w3.ok #[.rt,.dct [],.ref p,[p]] (by simp));obtain⟨es,ep,g1,_⟩:=DcA.un (kvs:=[]) q4 rfl;have hH2:H2 p=some (qW p [] 0):=by
   have n1:p∉jw (some x::L1):=λz=>by
    rcases jn.own p z with z|z
    ·exact nL z
    ·rw[wW]at z;cases z
   have hH1:H1 p=some (qW p [] 0):=jn.keep p _ wW nL;exact ca.keep p _ hH1 λz=>n1 (by rw[v8];exact lr9 _ z)
  have rv:RepL Z.K H2 true s2.2 y.v y.as:=by rw[<-e4];exact RepO.wk (w3.ok y (by simp))
  refine#[x.v,y.v,rfl,hH2,b,#[x.d,kt],eb,pb,λrr ep' hrr=>?_];obtain⟨w4,gy⟩:=qze (ep':=ep') (es':=[(#[x.d,kt],b,rr)]) (xs':=[y.v]) (cs:=y.as) (kvs':=[(x.d,s2.2)]) (bs:=[]) (i:=0) (y:=#[.rt,.dct [],.ref p,[p]]) w3 rfl hH2 rfl rfl rfl
   (by unfold RepP;exact#[y.v,[],y.as,[],rfl,by simp,rv,by unfold RepP;exact#[rfl,rfl]])
   (λc kr=>.inr (by
    rcases Sl.as_of kr with z|z
    ·exact .inl (by simpa using .inr z)
    ·exact .inr (by simpa using .inr z))) hs (by show(1:Nat)<=sizeLine;decide) (List.nodup_cons.mpr #[Y7,Xr]) rfl (λn hn=>by rw[aC hn];exact pb) (.cons hrr .nil)
  have stA:Step (upd H p (qW p [] 0)) ([some #[.rt,.dct [],.ref p,[p]]]++L) _ _:=dy.trans gy;refine k _ _ rfl #[.rt,.dct [(x.d,s2.2)],.ref p,p::y.as] L2 _ rfl (congrArg (λd=>D.dct [(d,s2.2)]) e2) m2 w4 ?_ λhq=>?_
  ·refine#[λc ob h hn=>stA.keep c ob (rg c ob h) λz=>?_,λc kr=>?_,λc kr=>?_]
   ·rw[List.singleton_append,v8]at z;rcases aA z with z|z
    ·have:c=p:=by simpa [Sl.own]using z
     rw[this,hp]at h;cases h
    ·exact hn z
   ·rcases stA.own c kr with z|z
    ·rw[List.singleton_append,v8]at z;rcases aA z with z|z
     ·have:c=p:=by simpa [Sl.own]using z
      exact .inr (this▸hp)
     ·exact .inl z
    ·exact .inr (by
      cases hc0:H c with
      |none=>rfl
      |some ob=>rw[rg c ob hc0]at z;cases z)
   ·have hcp:c=p->H c=none:=λz=>z▸hp
    rcases stA.frz c kr with z|z|z
    ·rw[List.singleton_append,Q3]at z;rcases aA z with z|z
     ·simp[Sl.frz]at z
     ·exact .inl z
    ·rw[List.singleton_append,v8]at z;rcases aA z with z|z
     ·have:c=p:=by simpa [Sl.own]using z
      exact .inr (.inr (this▸hp))
     ·exact .inr (.inl z)
    ·exact .inr (.inr (by
      cases hc0:H c with
      |none=>rfl
      |some ob=>rw[rg c ob hc0]at z;cases z))
  ·refine#[λc ob h=>?_,λc kr=>?_]
   ·have br:c≠p:=λz=>by rw[z,hp]at h;cases h
    rw[qQ br];exact(dl hq).1 c ob ((li hq).1 c ob (rg c ob h))
   ·have:c=p:=by simpa [Sl.own]using kr
    exact this▸hp
 ·rw[Xi hkt]at h2;cases h2
end
theorem RepA.put{K H g d x cs}(hx:RepL K H g d x cs):∀{ds xs bs} (n),RepA K H g ds xs bs->∃es,RepA K H g (ds.set n d) (xs.set n x) es/\∀a∈es,a∈bs\/a∈cs
 | [],_,bs,n,h=>by
  have h0:=h;obtain⟨rfl,rfl⟩:=h0;exact#[[],by simpa using h,λ_ z=>nomatch z]
 | e::ds,_,_,n,h=>by
  obtain⟨y,r,b1,b2,rfl,rfl,h1,h2⟩:=h;cases n with
  | zero=>
   refine#[cs++b2,?_,λa ha=>?_]
   ·unfold RepA;exact#[x,r,cs,b2,rfl,rfl,hx,h2]
   ·rcases aA ha with z|z
    ·exact .inr z
    ·exact .inl (lr9 _ z)
  | succ n=>
   obtain⟨es,i1,i2⟩:=RepA.put hx n h2;refine#[b1++es,?_,λa ha=>?_]
   ·unfold RepA;exact#[y,r.set n x,b1,es,rfl,rfl,h1,i1]
   ·rcases aA ha with z|z
    ·exact .inl (ll9 _ z)
    ·exact(i2 a z).imp (lr9 _) id
section
variable {X:Cx}{Z:Fx0}{pn:List Nat}{q:Bool}{kc vc:Ex}{o ke ve:Expr}{pos bc:Pos}
set_option tactic.hygienic true in
theorem wk1{i}(ho:PE X o (zJ i))(hk:QV X Z true kc ke)(hv:QE X Z q vc ve)(hs:autoParam (swapsWithSole [.Subscript o ke bc] ve pos.line X.env=pure false) Ŕ)(hw:autoParam (swappedStores [.Subscript o ke bc] ve X.env=pure none) Ŕ)
  (h1:autoParam ((assignEach [.Subscript o ke bc] X.env).map (·.2)=[assign (.Subscript o ke bc) X.env]) Ŕ)
  (ha:autoParam (∀v,assign (.Subscript o ke bc) X.env v=(do
   let ov <-holding [v] (eval o X.env)
   let iv <-holding [v,ov] (eval ke X.env)
   standAt bc
   holding [v,ov,iv] (setItem ov iv v)
   release [v,ov,iv] [])) Ŗ):
  QS X Z pn (ZX i kc vc) (.Assign [.Subscript o ke bc] ve pos):=vvn (W:=wwr) (vz9 hv (wxv ho hk vvd ha) hs hw h1) #[rfl,rfl] fun {H L y x z d} {C} hy w nh dw k=>by
 unfold xw0 at dw
 split at dw
 ·rename_i o xs j heq hz;injection heq with h2 h3
  split at dw
  ·cases dw
  ·rename_i jr;obtain⟨n,hj,rfl⟩:=Option.map_eq_some_iff.mp dw;obtain⟨l,vs,bs,c1,c2,c3,c4,c5⟩:=qjh (w.tail.ok y (vJ hy)) h3 (h2▸jr);have c6:RepA Z.K H true xs vs bs:=by
    cases hb:(y.o != .dp)with|true=>rw[hb]at c5;exact c5|false=>rw[hb]at c5;exact c5.wk
   obtain⟨es,g1,g2⟩:=RepA.put (RepO.wk (w.ok x X5)) n c6;obtain⟨w4,gy⟩:=kvc (T:=[some x]) (o':=.rt) (ds':=xs.set n x.d) (xs':=vs.set n x.v) w hy c2 c3 c4 c1 g1 (.inl #[rfl,λa ha=>(g2 a ha).imp id λz=>by
    rcases Sl.as_of z with z|z
    ·exact .inl (by simpa using z)
    ·exact .inr (by simpa using z)])
   exact#[l,vs,j,n,c1,kQ nh hz,c2,by rw[<-c6.len,<-vjt];exact hj,k _ _ w4 gy]
 ·cases dw
theorem wxi{i:Nat}{y:Str}{op:Operator}{f:Int->Int->Int}(hN:X.N.Nodup)(hi:X.N[i]?=some y)(hx:Loc X.env.scope y)(ho:PIp X op (ipI f))(h:QE X Z q vc ve)(hp:autoParam (i∉pn) ŕ)(hf:autoParam (X.fn y=true\/X.env.scope.names.lookup y=some .local) Ř):
  QS X Z pn (YQ f i vc) (.AugAssign (.Name y bc) op ve pos):=JY (wxq hN hi hx h ho hf) λD σ H ao=>ex7 ao λE L r m w hr k=>by
 unfold YQ at hr;cases hE:E[i]? with
 | none=>rw[hE]at hr;cases hr
 | some s0=>
  cases s0 with
  | none=>rw[hE]at hr;cases hr
  | some s0=>
   obtain⟨oo,dd⟩:=s0;rw [hE]at hr;cases dd with
   | int a=>
    dsimp only at hr;obtain⟨x0,a1,a2,a3,a4⟩:=m.get hE;have ha:x0.v=.int a:=kQ (w.ok x0 (vJ a1)) a3;refine#[x0.v,a4,?_];refine W3 m w hr k λE1 s h1 x L1 H1 e1 e2 m1 w1 st _=>?_
    cases hs:s.2 with
    | int b=>
     rw[hs]at h1;cases oq9 h1;refine#[a,b,ha,kQ w1.head (by rw[e2];exact hs),?_];have w2:World Z.K H1 (some #[.dp,.int (f a b),.int (f a b),[]]::L1):=w1.tail.cons (show RepL Z.K H1 false (.int (f a b)) (.int (f a b)) []from vK) Xr (λ_ z=>nomatch z) (λ_ z=>nomatch z) (λ_ z=>nomatch z) (λ_ z=>nomatch z);have s2:Step H L H1 (some #[.dp,.int (f a b),.int (f a b),[]]::L1):=by
      refine#[st.keep,λb hb=>st.own b ?_,λb hb=>st.frz b ?_]
      ·rw[v8]at hb ⊢;rcases aA hb with z|z
       ·exact nomatch z
       ·exact lr9 _ z
      ·rw[Q3]at hb ⊢;rcases aA hb with z|z
       ·exact nomatch z
       ·exact lr9 _ z
     exact k (σ.set i (some (.int (f a b)))) (L1.set i (some #[.dp,.int (f a b),.int (f a b),[]])) H1 (Pn.refl.set hp) (kxj (x:=#[.dp,.int (f a b),.int (f a b),[]]) m1 rfl rfl) w2.set (s2.trans Step.set)
    |_=>rw[hs]at h1;cases h1
   |_=>cases hr
end
abbrev dkI(kv:List (Int×Int)):List (Key×V):=kv.map λp=>(Sum.inl p.1,V.int p.2)
theorem ww1 kv k:zV (dkI kv) (Sum.inl k)=(jQ kv k).map V.int:=by
 induction kv with
 | nil=>rfl
 | cons p r ih=>
  unfold zV jQ at ih ⊢;rw[show dkI _=_::dkI r from rfl,List.find?_cons,List.find?_cons]
  by_cases h:p.1=k
  ·have h1:decide ((Sum.inl p.1:Key)=Sum.inl k)=true:=Xb (by rw[h]);have h2:=Xb h;simp only[h1,h2];rfl
  ·have h1:decide ((Sum.inl p.1:Key)=Sum.inl k)=false:=Xl λz=>h (Sum.inl.inj z)
   have h2:=Xl h;simp only[h1,h2];exact ih
theorem vz6 kv (k v):x8 (dkI kv) (Sum.inl k) (V.int v)=dkI (qX kv k v):=by
 have ha:((dkI kv).any λp=>decide (p.1=(Sum.inl k:Key)))=kv.any λp=>decide (p.1=k):=by
  rw[List.any_map]
  congr 1
  funext p;show decide ((Sum.inl p.1:Key)=Sum.inl k)=decide _;exact decide_eq_decide.mpr #[λz=>Sum.inl.inj z,λz=>by rw[z]]
 unfold x8 qX;rw[ha]
 by_cases h:(kv.any λp=>decide (p.1=k))=true
 ·rw[Xd h,Xd h];unfold dkI;rw[Xj,Xj];refine Yb λp _=>?_
  by_cases z:p.1=k
  ·grind
  ·grind
 ·rw[Xi h,Xi h];unfold dkI;rw[X7];rfl
theorem vjz:∀{kvs kv},XJ kvs=some kv->kvs=kv.map λp=>(D.int p.1,D.int p.2):=by
 intro kvs
 induction kvs with
 |nil=>intro kv h;cases oq9 h;rfl
 |cons e r ih=>
  intro kv h;obtain⟨a,b⟩:=e;cases a<;>first|(cases h;done)|(cases b<;>first|(cases h;done)|skip)
  obtain⟨q,hq,rfl⟩:=Option.map_eq_some_iff.mp (show(XJ r).map _=some kv from h);rw[List.map_cons,<-ih hq]
theorem kxr:∀kv,XJ (kv.map λp=>(D.int p.1,D.int p.2))=some kv
 |[]=>rfl
 |_::r=>by
  show(XJ _).map _=_;rw[kxr r];rfl
theorem WZ kv:Jk (wj kv)=some kv:=kxr kv
theorem kwy{K H g}:∀{kv:List (Int×Int)} {xs bs},RepP K H g (kv.map λp=>(D.int p.1,D.int p.2)) xs bs->xs=kv.map λp=>V.int p.2
 |[],_,_,h=>by
  exact h.1
 |p::r,_,_,h=>by
  obtain⟨y,rr,b1,b2,rfl,_,h1,h2⟩:=h;rw[h1.1,kwy h2,List.map_cons]
theorem kxq{K H g}:∀(kv:List (Int×Int)),RepP K H g (kv.map λp=>(D.int p.1,D.int p.2)) (kv.map λp=>V.int p.2) []
 |[]=>#[rfl,rfl]
 |p::r=>by
  exact#[_,_,[],[],rfl,rfl,vK,kxq r]
theorem vj6{K H g}(kv:List (Int×Int)):RepP K H g (mkD::kv.map λp=>(D.int p.1,D.int p.2)) (V.non::kv.map λp=>V.int p.2) []:=by
 exact#[_,_,[],[],rfl,rfl,#[rfl,rfl],kxq kv]
theorem qkx{K H}{p} kv:RepR K (upd H p (.dK (dkI kv))) (wj kv) (.ref p) [p]:=
 #[p,_,[],rfl,vj6 _,.inr #[kv.map λp=>(p.1,V.int p.2),"",by rw[wW,Xj];rfl,by rw[List.map_cons,Xj,Xj];rfl,by rw[Xj];rfl],rfl]
abbrev wDK:V->V->V->Hp->(Hp->Prop)->Prop:=λx y v H C=>∃a H4,x=.ref a/\DPut H a y v H4/\C H4
theorem vz7{K H L}{i:Nat}{y x:Sl}{zv kvs kvs' d}{j:Int}{v}{C:Hp->Prop}(hy:L[i]?=some (some y))(w:World K H (some x::L))(ho:y.o=.rt)(h:∃a,y.v=.ref a/\H a=some (.dK kvs)/\∃bs,y.as=a::bs)(hz:zv=.int j)(hx:x.v=v)(hp:x8 kvs (.inl j) v=kvs')(hl:kvs.length<sizeLine)
  (rep:∀{H p},RepR K (upd H p (.dK kvs')) d (.ref p) [p]) (k:∀H' as,World K H' (L.set i (some #[.rt,d,y.v,as]))->Step H (some x::L) H' (L.set i (some #[.rt,d,y.v,as]))->C H'):wDK y.v zv x.v H C:=by
 obtain⟨l,c1,c2,bs,c3⟩:=h;subst hz hx hp;have hlo:l∈y.own:=by unfold Sl.own;rw[ho,c3];simp
 obtain⟨w4,gy⟩:=World.writeAt (T:=[some x]) (ob:=.dK (x8 kvs (.inl j) x.v)) (y':=#[.rt,d,y.v,[l]]) w hy hlo (by rw[c1];exact rep) (by simp[Sl.own]) (λa h=>by simp_all [Sl.own]) (λa h=>by simp[Sl.frz]at h) (λa h z=>by simp[Sl.frz]at z);exact#[l,_,c1,DPut.k (k:=Sum.inl j) c2 hl,k _ _ w4 gy]
theorem qqp:∀{a:List (Int×V)} {kv},(kv.map λp=>D.int p.1)=a.map (λp=>D.int p.1)->(kv.map λp=>V.int p.2)=a.map (·.2)->(a.map λp=>((Sum.inl p.1:Key),p.2))=dkI kv
 |[],[],_,_=>rfl|[],_::_,h,_=>by simp at h
 |p::a,q::kv,h,h'=>by
  rw[List.map_cons,List.map_cons]at h h';injection h with h1 h2;injection h' with h3 h4;injection h1 with h1;unfold dkI;rw[List.map_cons,List.map_cons,qqp h2 h4,<-h1,<-h3]
theorem kz7{K H}{y:Sl}{kv}(ok:y.ok K H)(hd:Jk y.d=some kv):∃a,y.v=.ref a/\H a=some (.dK (dkI kv))/\∃bs,y.as=a::bs:=by
 have h:=RepO.wk ok;cases hy:y.d with
 | dct kvs=>
  rw [hy]at hd h;cases kvs with
  | nil=>cases hd
  | cons e kvs=>
   obtain⟨a,b⟩:=e;cases a with
   | str m=>
    cases b with
    | non=>
     have e:=vjz hd;subst e;obtain⟨a,xs,bs,ev,rp,qa,eas⟩:=h;rcases qa with⟨es,ep,_,_,_,_,g5,g6,_⟩|⟨kvn,mm,g1,g2,g3⟩
     ·exfalso;rw[List.map_cons]at g5;cases es with
      |nil=>cases g5
      |cons n es=>
       rw[List.map_cons]at g5;injection g5 with g5 _;have:=g6 n X5;rw[<-g5]at this;unfold PuR at this
       grind
     ·refine#[a,ev,?_,bs,eas];rw[g1]
      congr 2
      obtain⟨y1,rr,_,_,rfl,_,_,r2⟩:=rp;rw[List.map_cons,Xj]at g2;injection g2 with _ g2;injection g3 with _ g3;refine qqp g2 ?_
      rwa [<-(kwy r2)]
    |_=>cases hd
   |_=>cases b<;>cases hd
 |_=>rw[hy]at hd;cases hd
section
def xkx(km:Bool):R2:=λx y H Q=>∃(k:Int) (a:Addr) (kv:List (Int×Int)),x=.int k/\y=.ref a/\H a=some (.dK (dkI kv))/\Q (.bl (if km then !(jQ kv k).isSome else(jQ kv k).isSome)) H
theorem qqy{H a}{kv} k (e:H a=some (.dK (dkI kv))):DGet H a (.int k) ((jQ kv k).map V.int):=by
 rw[<-ww1];exact DGet.k (k:=Sum.inl k) e
theorem xvj{X}(hu:X.A.units+64<cLine):OpR X (compareOp .In) (xkx false):=by
 intro a8 s σ H x y u v Q I rx ry ⟨k,a,kv,e1,e2,hd,q⟩;subst e1 e2;cases ry;refine d_in ⋯ I (qqy k hd) rx λs' I'=>#[.bl _,H,I',rfl,?_]
 rwa [Yt]
theorem vw9{X}(hu:X.A.units+64<cLine):OpR X (compareOp .NotIn) (xkx true):=by
 intro a8 s σ H x y u v Q I rx ry ⟨k,a,kv,e1,e2,hd,q⟩;subst e1 e2;cases ry;refine wqy ⋯ I (qqy k hd) rx λs' I'=>#[.bl _,H,I',rfl,?_]
 rwa [Yt]
theorem xkh{K}:Ad2 K (xkx false) (pu2 Vz):=by
 intro H x y s Q ox oy hf k;unfold pu2 Vz at hf;dsimp only at hf;cases hx:x.d with
 | int j=>
  rw[hx]at hf;cases hi:Jk y.d with
  |none=>rw[hi]at hf;cases hf
  |some kv=>
   rw[hi]at hf;cases oq9 hf;obtain⟨a,e,q,_⟩:=kz7 oy hi;exact#[j,a,kv,kQ ox hx,e,q,k _ H rfl rfl wK]
 |_=>rw[hx]at hf;cases hf
theorem vqp{K}:Ad2 K (xkx true) (pu2 kka):=by
 intro H x y s Q ox oy hf k;unfold pu2 kka at hf;dsimp only at hf;cases hx:x.d with
 | int j=>
  rw[hx]at hf;cases hi:Jk y.d with
  |none=>rw[hi]at hf;cases hf
  |some kv=>
   rw[hi]at hf;cases oq9 hf;obtain⟨a,e,q,_⟩:=kz7 oy hi;exact#[j,a,kv,kQ ox hx,e,q,k _ H rfl rfl wK]
 |_=>rw[hx]at hf;cases hf
theorem xk5(x y s)(h:pu2 Vz x y=some s):∃k,s.2=.bl k:=by
 unfold pu2 Vz at h;cases hx:x.2 with
 |int j=>
  rw[hx]at h;cases hi:Jk y.2 with|none=>rw[hi]at h;cases h|some kv=>rw[hi]at h;cases oq9 h;exact#[_,rfl]
 |_=>rw[hx]at h;cases h
end
section
variable {X:Cx}{Z:Fx0}{pn:List Nat}{q qa:Bool}{a b c kc vc:Ex}{o ea eb ec ke ve:Expr}{pos bc aj:Pos}
theorem xv4(hu:X.A.units+64<cLine)(ha:QV X Z qa a ea)(hb:QV X Z true b eb)(hs:xkn eb):QV X Z qa (xkr a b) (.Subscript ea eb pos):=
 q9 (wko ⋯ ha hb hs) fun σ H Q ao=>ex8 ao λE L r m w hc xc k=>by
  refine qY m w (hc) xc λE1 s h1 x L1 H1 e1 e2 m1 w1 ok fr sr st sm=>(qY m1 w1 h1 (xc.step st) λE2 s2 h2 y L2 H2 e3 e4 m2 w2 gj nw nu ca dl=>?_)
  obtain⟨z,hz,rfl⟩:=xw h2;unfold xjq at hz;cases hy:s2.2 with
  | int j=>
   rw [hy]at hz;cases hi:Jk s.2 with
   | none=>rw[hi]at hz;cases hz
   | some kv=>
    rw[hi]at hz;dsimp only at hz;cases hv:jQ kv j with
    | none=>rw[hv]at hz;cases hz
    | some v=>
     rw[hv]at hz;cases oq9 hz;obtain⟨l,e,q,_⟩:=kz7 (K8 ok fr ca (dl rfl)).1 (e2▸hi);refine#[l,.int v,e,?_,?_]
     ·rw[kQ gj (e4▸hy)];have:=qqy j q;rw[hv]at this;exact this
     ·exact k _ _ rfl #[.dp,.int v,.int v,[]] L2 H2 rfl rfl m2 w2 (show RepL Z.K H2 false _ _ []from vK) (λ_ hb=>nomatch hb) (λ_ hb=>nomatch hb) (st.trans ca) λhq=>kK (sm hq) (dl rfl)
  |_=>rw[hy]at hz;cases hz
theorem wxb:QE X Z true wv2 (.Dict [] [] pos):=qz9 (C:=λ_=>True) (ob:=λ_=>.dK []) (q9 qq8 λ_ _ _ h p hp=>h p hp trivial) ⋯ λ_ p _=>qkx (p:=p) []
theorem qq3 kv (k v):(qX kv k v).length<=kv.length+1:=by
 unfold qX
 split
 ·rw[X3];lia
 ·rw[Xf];simp
set_option tactic.hygienic true in
theorem wx8{i}(hu:X.A.units+64<cLine)(ho:PE X o (zJ i))(hk:QV X Z true kc ke)(hv:QE X Z q vc ve)(hs:autoParam (swapsWith ve (some (.Subscript o ke bc)) pos.line X.env=pure false) Ŕ):
  QS X Z pn (wjr i kc vc) (.Assign [.Subscript o ke bc] ve pos):=vvn (W:=wDK) (qzh ⋯ ho hk hv hs) #[rfl,rfl] fun {H L y x z d} {C} hy w nh dw k=>by
 unfold wqk at dw
 split at dw
 ·rename_i heq hz hx;injection heq with h2 h3;obtain⟨kv,hi,dw⟩:=Option.bind_eq_some_iff.mp dw
  split at dw
  ·rename_i hl;cases oq9 dw;refine vz7 hy w h2 (kz7 (w.tail.ok y (vJ hy)) (h3▸hi)) (kQ nh hz) (kQ (w.ok x X5) hx) (vz6 _ _ _) (by show(kv.map _).length<sizeLine;rw[X3];exact hl) (qkx _) k
  ·cases dw
 ·cases dw
theorem wx9{apos}(hu:X.A.units+64<cLine)(ha:QV X Z qa a ea)(hb:QV X Z true b eb)(hc:QV X Z true c ec)(hm:M2 X ea "get" apos eb ec aj:=by exact#[rfl,rfl,rfl,rfl]):QV X Z qa (vv4 a b c) (.Call (.Attribute ea "get" apos) [eb,ec] [] aj):=
 q9 (vw5 ⋯ ha hb hc hm) fun σ H Q ao=>ex8 ao λE L r m w hc xc k=>by
  refine qY m w (hc) xc λE1 s h1 x L1 H1 e1 e2 m1 w1 ok fr sr st sm=>?_
  by_cases hI:xjd s.2=true
  ·rw [Xd hI]at h1;obtain⟨kv,hi⟩:=Option.isSome_iff_exists.mp hI;obtain⟨l,el,ql,_⟩:=kz7 ok (e2▸hi);refine#[l,el,.inl #[_,.inl ql],(qY m1 w1 h1 (xc.step st) λE2 s2 h2 y L2 H2 e3 e4 m2 w2 gj nw nu ca dl=>(qY m2 w2 h2 (xc.step (st.trans ca)) λE3 s3 h3 t L3 H3 e5 e6 m3 w3 ok3 oq sr3 dy on=>?_))];obtain⟨z,hz,rfl⟩:=xw h3;have s13:=kK (dl rfl) (on rfl);unfold vko at hz;cases hy:s2.2 with
   | int j=>
    cases ht:s3.2 with
    | int d=>
     rw[hy,ht,hi]at hz;cases oq9 hz;refine#[_,by rw[(kQ gj (e4▸hy))];exact qqy j (s13 _ _ ql),?_];have e7:((jQ kv j).map V.int).getD t.v=.int ((jQ kv j).getD d):=by
      rw[(kQ ok3 (e6▸ht))];cases jQ kv j<;>rfl
     rw[e7];exact k _ _ rfl #[.dp,.int _,.int _,[]] L3 H3 rfl rfl m3 w3 (show RepL Z.K H3 false _ _ []from vK) (λ_ hb=>nomatch hb) (λ_ hb=>nomatch hb) ((st.trans ca).trans dy) λhq=>kK (sm hq) s13
    |_=>rw[hy,ht]at hz;cases hz
   |_=>rw[hy]at hz;cases hz
  ·grind
end
end Q
namespace PySem
theorem qvf:typeLookup (.type "list") "keys"=pure none:=am_miss_of_fast (by decide +kernel)
theorem kw5{prog w A E s a o xs k}{Q:Option Value->Shared->Prop}
  (hx:s.heap.get? a=some o) (hc:o.cls=.type "list") (ib:o.data=.seq xs k) (hd:o.dict=none) (hA:A.handled=none)
  (h:∀h' tk,(∀b ob,s.heap.get? b=some ob->h'.get? b=some ob)->Q none {s with heap:=h',toks:=tk}):
  wpAny (model prog w) A (getAttr? (.ref a) "keys") Q E s:=by
 obtain⟨c,dct,dat,sl⟩:=o;simp only at hc ib hd;subst hc ib hd;obtain⟨hp,g,d,tk,os⟩:=s;have hT:∀oi,(#[hp,g,d,oi,os]:Shared).TypeIs (.ref a) "list":=λ_=>#[_,hx,rfl]
 have f1:=sub_AttributeError;have f3:=F.slot_list_getattribute.lookup;have f4:=F.slot_list_getattribute.bind (.ref a);have f5:=am_list_getattr_none;unfold getAttr? getAttrBy? getAttrBy
 repeat (any_goals (first|assumption|exact hT _|((with_reducible show wpAny _ _ (call (Value.builtin "list.__getattribute__") _ _) _ _ _);refine call_meets F.slot_list_getattribute (hT _) am_entry_list_getattribute (F.args_list_getattribute_2 _ _) (meets_getattribute_miss_list a xs k sl "keys" _ qvf ⋯ ⋯) #[hx,hA,λh' oi e hx'=>?_])|wp_step))
 obtain⟨t',u',he⟩:=hx'.there;show wpAny _ _ (getattributeRaised _ _ _ _ _ _ _) _ _ _;unfold getattributeRaised
 repeat (any_goals (first|assumption|wp_step))
 exact h _ _ hx'.keeps
namespace F
theorem entry_dict_update_loop:entryFor table "dict.update.loop"=some Builtin.«dict.update.loop»:=entryFor_of_tree (by kernel_rfl)
theorem plain_dict_update_loop:plainId "dict.update.loop"=true:=by decide +kernel
end F
section
variable {prog:Program}{w:World}{A:Around}{R:Result->Shared->Prop}{I:Addr}{fp wr:List Addr}{G:Array GenState->Array GenState->Prop}{n:Nat}{P:Nat->Value->Prop}{St:Nat->Shared->Prop}{K:Type}[DecidableEq K]{knd:KeyKind prog w K}
theorem qvk{s T u v E Q}(h:s.heap.IsTuple T (List.toArray [u,v]))(hq:Q [u,v] s):wpAny (model prog w) A (Builtin.Dict.pairItems (.ref T)) Q E s:=by
 obtain⟨o,ho,hc,m,hd⟩:=h;obtain⟨cls,dct,dat,sl⟩:=o;subst hc hd
 repeat (any_goals (first|assumption|wp_step))
theorem jzf(W:WalksS prog w A.in1 I fp wr G n P St)(S)(nz:S∉fp){h₀:Heap}{more}(hn:more.length=n)(hz:n<=sizeLine)
  (i9:∀i v,P i v->∃T u x k,v=.ref T/\T∉S::wr/\h₀.IsTuple T (List.toArray [u,x])/\more[i]?=some (k,x)/\knd.is k u=true):
  ∀k i (c) (s),n - i=k->i<=n->St i s->(∀b o,b∉S::wr->h₀.get? b=some o->s.heap.get? b=some o) ->
   s.heap.DictOf knd S (merged [] (more.take i)) ->
   (∀s',Moved (S::wr) G s s'->s'.heap.DictOf knd S (merged [] more)->R (.ok (.ret .none)) s') ->
   codeAny (model prog w) A (.builtin "dict.update.loop" #[[.ref S,.ref I,.int i c,.none],[]]) R s:=by
 have vg:=λh=>nz (W.sub _ h)
 have ei:∀b∈wr,b∈S::wr:=λb hb=>lc9 _ hb
 intro k
 induction k with
 | zero=>
  intro i c s hk hi bg hh hS hR;have fm:i=n:=⋯
  subst fm;refine Z4 F.entry_dict_update_loop (X0 (W.done s _ _ bg λs' hm=>(X0 (X6 (X6 (hR s' (hm.mono ei) ?_))))));rw[<-hn,List.take_length]at hS;obtain⟨o,es,ep,ho,ab⟩:=hS;exact#[o,es,ep,hm.heap S _ vg ho,ab]
 | succ k ih=>
  intro i c s hk hi bg hh hS hR;have cz:i<n:=⋯
  refine Z4 F.entry_dict_update_loop (X0 (W.item i s _ _ cz bg λv s' hP pi hm=>?_));obtain⟨T,u,x,kk,rfl,hTn,hT,hmo,kg⟩:=i9 i v hP;have ld:s'.heap.DictOf knd S (merged [] (more.take i)):=by
   obtain⟨o,es,ep,ho,ab⟩:=hS;exact#[o,es,ep,hm.heap S _ vg ho,ab]
  have ur:s'.heap.IsTuple T (List.toArray [u,x]):=by
   obtain⟨o,ho,ab⟩:=hT;exact#[o,hm.heap T o (λz=>hTn (lc9 _ z)) (hh T o hTn ho),ab]
  have gw:(merged [] (more.take i)).length<=sizeLine:=by
   have e1:=merged_length_le ([]:List _) (more.take i);have e2:(more.take i).length<=more.length:=by rw[Ys];lia
   have e3:([]:List (K×Value)).length=0:=rfl;lia
  refine X0 (Ya (X0 (wpAny_tryCatch (qvk ur (Ya (wpAny_dictSet_pairs kg ld λh' rh lb=>(X6 #[plainId_quiet F.plain_dict_update_loop _,(ih (i+1) 0 _ ⋯ cz (W.frame _ s' _ _ pi (Nat.le_succ _) λb hb o e=>?_) (λb o hb e=>?_) (by rw[merged_take_succ [] more i _ hmo];exact rh) λkf qp p9=>?_)])))))))
  ·rw[lb.2 b (λh:b=S=>nz (h▸hb))];exact e
  ·have hbS:b≠S:=λz=>hb (z▸X5)
   rw[lb.2 b hbS];exact hm.heap b o (λz=>hb (lc9 _ z)) (hh b o hb e)
  ·refine hR kf (Moved.trans W.gtrans ((hm.mono ei).then_heap (Nat.le_succ _) λb o hb e=>?_) qp) p9;rw[lb.2 b (λh:b=S=>hb (h▸X5))];exact e
theorem kky{E s l items more o m}{Q}
  (hh:A.handled=none) (ho:s.heap.get? l=some o) (hc:o.cls=.type "list") (ib:o.data=.seq items m) (hd:o.dict=none) (hn:more.length=items.size) (hz:items.size<=sizeLine)
  (i9:∀(i:Nat) (v),items[i]?=some v->∃T u x k,v=.ref T/\s.heap.IsTuple T (List.toArray [u,x])/\more[i]?=some (k,x)/\knd.is k u=true)
  (h:∀h' (tk),h'.DictOf knd s.heap.objs.size (merged [] more)->(∀b o,b<s.heap.objs.size->s.heap.get? b=some o->h'.get? b=some o)->Q (.ref s.heap.objs.size) {s with heap:=h',toks:=tk}):
  wpAny (model prog w) A (call (.type "dict") [.ref l]) Q E s:=by
 refine callType_codes (Q₁:=λobj s₁=>obj=Value.ref s.heap.objs.size/\s₁={s with heap:=s.heap.push {cls:=Value.type "dict",data:=Data.dict (List.toArray [])}}) F.kt_called_dict (F.kt_typeCall_dict_1 _) F.entry_dict_init (kt_code_dict_new _ #[rfl,rfl]) ?_;rintro obj s₁ ⟨rfl,rfl⟩;have eq:(s.heap.push {cls:=.type "dict",data:=.dict (List.toArray [])}).DictOf knd s.heap.objs.size []:=Heap.DictOf.new s.heap;have ko:(s.heap.push {cls:=.type "dict",data:=.dict (List.toArray [])}).get? l=some o:=X2 _ ho;have hT:Shared.TypeIs {s with heap:=s.heap.push {cls:=.type "dict",data:=.dict (List.toArray [])}} (.ref l) "list":=#[_,ko,hc];have we:=Xe ho;refine#[eq.typeIs,F.args_dict_init_2 _ _,(X0 (X0 (wpAny_notOrdered_dict eq.typeIs (X6 (X0 (wpAny_typeOf hT (X0 (kw5 ko hc ib hd (by simp[hh]) λh' tk hk=>?_))))))))];have hkS:=λb q e=>hk b q (X2 _ e)
 have im:h'.IsList l items:=#[o,hkS _ _ ho,hc,m,ib];have hS1:h'.DictOf knd s.heap.objs.size []:=by
  obtain⟨q,es,ep,hq,ab⟩:=eq;exact#[q,es,ep,hk _ _ hq,ab]
 have nk:s.heap.objs.size<h'.objs.size:=by
  obtain⟨q,es,ep,hq,ab⟩:=hS1;exact Xe hq
 refine X0 (Zm (X0 (Zf im (X6 #[plainId_quiet F.plain_dict_update_loop _,?_]))));refine jzf (h₀:=s.heap) ((Walks.list (by simp[hh]) h'.objs.size l (Xk (Nat.lt_trans we nk)) items).toS) s.heap.objs.size ?_ hn hz (λi v hv=>?_) (items.size - 0) 0 0 _ ⋯ (Y6 _)
  #[#[_,X9 _ rfl,rfl,rfl],im.push _] (λb q hb e=>X2 _ (hkS b q e)) (hS1.push _) λs' hm ld=>?_
 ·simp only[Yq,Y7,or_false,not_or];exact#[Xk nk,Zl we]
 ·obtain⟨T,u,x,k,e1,e2,e3,e4⟩:=i9 i v hv;refine#[T,u,x,k,e1,?_,e2,e3,e4];obtain⟨q,hq,_⟩:=e2;have:=Xe hq;simp;exact#[Xk this,Xk (Nat.lt_trans this nk)]
 ·obtain⟨h2,g',d',oi,qr⟩:=s';have eg:g'=s.gens:=hm.gens;have ed:d'=s.drawn:=hm.drawn;have eo:qr=s.os:=hm.os;subst eg;subst ed;subst eo;refine#[rfl,h h2 oi ld λb q hb e=>(hm.heap b q ?_ (X2 _ (hkS b q e)))];simp;exact#[Xk hb,Xk (Nat.lt_trans hb nk)]
end
end PySem
namespace Q
open PySem PySem.Spec PyProof.Rows L2 L3
noncomputable def qz3(K:Frag):List V->Hp->VK->Prop:=λxs H Q=>∃(a:Addr) (ts:List V) (ps:List (Int×Int)),xs=[.ref a]/\SqL K H a ts/\ts.length=ps.length /\
 (∀i (h:i<ps.length),∃T,ts[i]?=some (.ref T)/\SqT K H T [.int ps[i].1,.int ps[i].2])/\ps.length<big/\∀l,H l=none->Q (.ref l) (upd H l (.dK (dkI (ps.foldl (λkv p=>qX kv p.1 p.2) []))))
theorem kxx:∀(ps kv:List (Int×Int)),(ps.foldl (λkv p=>qX kv p.1 p.2) kv).length<=kv.length+ps.length
 |[],kv=>by simp
 |p::ps,kv=>by
  rw[Yx,Xm];have:=kxx ps (qX kv p.1 p.2);have:=qq3 kv p.1 p.2;lia
set_option tactic.hygienic true in
theorem vkf:∀ps (more) (kv) (vs),KV (dkI ps) more->KV (dkI kv) vs->KV (dkI (ps.foldl (λkv p=>qX kv p.1 p.2) kv)) (more.foldl (λaf kv=>stored af kv.1 kv.2) vs)
 | [],_,kv,vs,h,h'=>by cases h;exact h'
 | p::ps,_,kv,vs,h,h'=>by
  cases h with
  |cons h1 h2=>
   rename_i m more;obtain⟨k,x⟩:=m;obtain⟨e,rx⟩:=h1;subst e;refine vkf ps more _ _ h2 ?_;rw[<-vz6];exact KV.put h' _ rx
set_option tactic.hygienic true in
theorem vj7{X a8}{σ:L2.St}{H s}(I:Inv X a8 σ H s):∀ps (ts) (ac),ts.length=ps.length ->
  (∀ i (h:i<ps.length),∃T,ts[i]?=some (.ref T)/\SqT X.K H T [.int ps[i].1,.int ps[i].2])->Vals ts ac ->
  ∃ more,more.length=ac.length/\KV (dkI ps) more/\∀(i:Nat) (v),ac[i]?=some v->∃T u x k,v=.ref T/\s.heap.IsTuple T (List.toArray [u,x])/\more[i]?=some (k,x)/\(xj X.prog X.w).is k u=true
 | [],ts,ac,hl,_,hv=>by
  cases ts with| nil=>cases hv;exact#[[],rfl,.nil,λi v h=>by simp at h]| cons=>cases hl
 | p :: ps,t::ts,_,hl,hp,hv=>by
  cases hv with
  | cons h1 h2=>
   rename_i u us;obtain⟨T,e1,e2⟩:=hp 0 (by simp);have e1:t=.ref T:=by simpa using e1
   subst e1;cases h1;obtain⟨ii,rv,tp,_⟩:=I.tuple e2;obtain⟨u1,u2,rfl,r1,r2⟩:∃u1 u2,ii=[u1,u2]/\RelV (.int p.1) u1/\RelV (.int p.2) u2:=by
    cases rv with
    |cons a b=>
     cases b with|cons c d=>cases d;exact#[_,_,rfl,a,c]
   obtain⟨more,m1,m2,m3⟩:=vj7 I ps ts us (by simpa using hl) (λi h=>by
    obtain⟨T,a,b⟩:=hp (i+1) (by simpa using h);exact#[T,by simpa using a,by simpa using b]) h2
   refine#[(Sum.inl p.1,u2)::more,by rw[Xm,Xm,m1],.cons #[rfl,r2] m2,λi v h=>?_];cases i with
   |zero=>
    have h:Value.ref T=v:=by simpa using h
    subst h;exact#[T,u1,u2,Sum.inl p.1,rfl,tp,rfl,V6 r1]
   |succ i=>exact m3 i v (by simpa using h)
theorem qw8{X}(hc:autoParam (X.calm=true) Ŕ):CallR X (.type "dict") (qz3 X.K):=by
 rintro a8 s σ H xs us Q I r ⟨a,ts,ps,rfl,hq,hl,hp,hb,q⟩;obtain⟨u,rfl,rx⟩:=xv r;cases rx;obtain⟨ac,rv,⟨o,n,ho,dv,hd,ib⟩,hz⟩:=I.list hq;obtain⟨more,m1,m2,m3⟩:=vj7 I ps ts ac hl hp rv;refine kky (I.ok.hd hc) ho dv ib hd (by rw[m1];simp) (by rw[X8,<-rv.length];exact hz) (λi v hv=>m3 i v (by simpa using hv)) λh' tk dd kp=>(#[.ref s.heap.objs.size,_,I.laid (t':=tk) (λb ob e=>kp b ob (Xe e) e) (Xa _) (vzy ?_ (Xu (Zl I.big)) (vkf ps more [] [] m2 .nil) dd),rfl,q _ (I.hok.fresh (Xa _))])
 rw[X3];have:=kxx ps []
 grind
theorem qzk:∀{ds ps},V2 ds=some ps->ds=ps.map λp=>D.tup [.int p.1,.int p.2]
 | [],ps,h=>by cases oq9 h;rfl
 | .tup [.int a,.int b]::r,ps,h=>by
  have h:(V2 r).map _=some ps:=h;cases hr:V2 r with
  |none=>grind
  |some q=>
   rw[hr]at h;cases oq9 h;rw[List.map_cons,<-qzk hr]
theorem qzj:∀ps,V2 (ps.map λp=>D.tup [.int p.1,.int p.2])=some ps
 |[]=>rfl
 |_::r=>by
  show(V2 _).map _=_;rw[qzj r];rfl
theorem vxl{K}:Ad1 K (λv H Q=>qz3 K [v] H Q) ZK:=by
 intro H x s Q ok hf k;unfold ZK at hf;cases hx:x.d with
 | lst ds=>
  rw [show(x.o,x.d).2=D.lst ds from hx]at hf;dsimp only at hf;cases hp:V2 ds with
  | none=>rw[hp]at hf;cases hf
  | some ps=>
   rw[hp]at hf;dsimp only at hf
   by_cases hl:ps.length<big
   ·rw[Xd hl]at hf;cases oq9 hf;have e:=qzk hp;subst e;obtain⟨a,xs,bs,ev,q1,ra⟩:=items ok (.inl hx);have hq:SqL K H a xs:=by
     rcases q1 with⟨_,z⟩|⟨z,_⟩
     ·exact z.sq
     ·grind
    refine#[a,xs,ps,by rw[ev],hq,by rw[<-ra.1.len,X3],λi hi=>?_,hl,λl hl'=>k #[.rt,wj _,.ref l,[l]] _ rfl rfl #[x5 hl',#[l,_,[],rfl,vj6 _,.inr #[(ps.foldl (λkv p=>qX kv p.1 p.2) []).map λp=>(p.1,V.int p.2),"",by rw[wW,Xj];rfl,by rw[List.map_cons,Xj,Xj];rfl,by rw[Xj];rfl],rfl],λb hb=>?_,by simp[Sl.own],λb hb=>?_]]
    ·obtain⟨v,cs,g1,g2,_⟩:=RepA.get ra.1 (by rw[Xg,X1 hi];rfl);obtain⟨T,ys,e1,e2,e3⟩:=g2;refine#[T,by rw[g1,e1],?_];obtain⟨y1,r1,_,_,rfl,_,f1,f2⟩:=e3;obtain⟨y2,r2,_,_,rfl,_,f3,f4⟩:=f2;obtain⟨rfl,_⟩:=f4;rw[f1.1,f3.1]at e2;exact e2
    ·have:b=l:=by simpa [Sl.own]using hb
     exact this▸hl'
    ·simp[Sl.frz]at hb
   ·rw[Xi hl]at hf;cases hf
 |_=>rw[show(x.o,x.d).2=_ from hx]at hf;cases hf
theorem vqd{X} K (hK:autoParam (X.K=K) Ŕ)(hc:autoParam (X.calm=true) Ŕ):CallR X (.type "dict") (qz3 K):=by subst hK;exact qw8 hc
theorem xv9{X Z q}:QA X Z q [] []:=kx6 wQ fun σ H Q ao=>ex8 ao λE L r m w hc xc k=>by
 cases oq9 hc;exact k _ _ rfl [] L H rfl m w Step.refl λ_=>#[λ_ _ z=>z,λ_ z=>(nomatch z)]
theorem wx6{X Z q c o e z apos aj}(ho:PE X o (tC (.str z)))(hc:QV X Z q c e)(hK:autoParam (X.K=Z.K) Ŕ)
  (dg:autoParam (attributeBase o "join" X.env (eval o X.env)=eval o X.env) Ŕ)
  (fy:autoParam (((backTo aj (starEach [e] X.env)).all (λx=>!x.1)&&(backToKw aj (keywordEach [] X.env)).all (λx=>x.1.isSome)
   && decide ([e].length+([]:List Keyword).length+(if([]:List Keyword).isEmpty then 0 else 1)<30))=true) Ŕ)
  (da:autoParam (Abe apos aj) Ŕ) (hs:autoParam (Abs e [] X) Ŕ) (bq:autoParam (Abb aj [] X) Ŕ):
  QE X Z q (vxd z c) (.Call (.Attribute o "join" apos) [e] [] aj):=
 q9 (wz6 PySem.F.plainAttrs_str PySem.F.slot_str_join PySem.F.type_str_join wq0 ho (vZ hc wQ hs) dg fy da hs bq) fun σ H Q ao=>ex8 ao λE L r m w js xc k=>by
  refine#[?_,?_]
  ·rfl
  ·refine qY m w (js) xc λE1 s h1 x L1 H1 e1 e2 m1 w1 ok fr sr st sm=>?_
   obtain⟨y,hz,rfl⟩:=xw h1;unfold vkn at hz;cases hx:s.2 with
   | lst ds=>
    rw [hx]at hz;dsimp only at hz;cases hp:JQ ds with
    | none=>rw[hp]at hz;cases hz
    | some ys=>
     rw[hp]at hz;dsimp only at hz
     by_cases hl:(ys.map (·.length)).sum+ys.length*z.length<=100000
     ·rw[Xd hl]at hz;cases oq9 hz;obtain⟨a,xs,bs,ev,q1,ra⟩:=items ok (.inl (e2▸hx));have hq:SqL Z.K H1 a xs:=by
       rcases q1 with⟨_,t⟩|⟨t,_⟩
       ·exact t.sq
       ·grind
      have ex:=(kqy hp ra.1).1;subst ex;have ai:(Txt.join z ys).length<=sizeLine:=joinOk_length (joinOk_of ⋯);exact#[z,a,ys,rfl,by rw[ev],by rw[hK];exact hq,⋯,(k _ _ rfl _ L1 H1 rfl rfl m1 (w1.consPu (x:=#[.dp,.str _,.str _,[]]) (show RepL Z.K H1 false _ _ []from XX ai) rfl) (Kk st (λb hb=>nomatch hb) rfl) λhq=>#[sm hq,λ_ t=>(nomatch t)])]
     ·rw[Xi hl]at hz;cases hz
   |_=>rw[hx]at hz;cases hz
end Q
namespace PySem
section
variable {prog:Program}{w:World}{A:Around}{E:VP9}{s:Shared}
theorem vkr(hh:A.handled=none)(it t)(br:t≠it)(items):Draws prog w A it [it,t] items.size (λi v=>items[i]?=some v) (λi h=>h.IsTupleIter it t i/\h.IsTuple t items) where
 live:=λ_ _ st=>let ⟨o,ho,_⟩:=st.1;#[o,ho]
 frame:=λ_ _ _ st hk=>by
  obtain⟨⟨o,ho,r⟩,o2,jg,r2⟩:=st;exact#[#[o,hk it (by simp) o ho,r],o2,hk t (by simp) o2 jg,r2]
 item:=λi s Q E hi st hQ=>by
  obtain⟨fq,ht⟩:=st;obtain⟨o,ho,hc,hd⟩:=id fq;obtain⟨o2,jg,nt,n2,ji⟩:=id ht;have hx:items[i]?=some items[i]:=by simp[hi]
  refine X0 (Yg (name:=Str.ofString "__next__") fq.typeIs F.slot_tuple_iterator_next (Y3 F.slot_tuple_iterator_next fq.typeIs F.entry_tuple_iterator_next ?_ (F.args_tuple_iterator_next_1 _)));show wpAny _ _ (field (.ref it) 0 >>= _) _ _ s;refine X0 (Yw ho hd (x:=.ref t) rfl (X0 (Yw ho hd (x:=.int i 0) rfl (X0 (Zk jg ji ?_)))));simp only[Y2,hx];refine X0 (Yr ho hd (by simp) (X6 #[items[i],rfl,X6 (hQ _ _ s.toks hx #[#[_,Xz _ ho (Zc (Z9 hd _)),(Obj.cls_mapFields ..).trans hc,by rw[Z9 hd];simp[rawInt]],o2,(Z6 _ _ (Ne.symm br)).trans jg,nt,n2,ji] (Yc ..))]))
 done:=λs Q E st hE=>by
  obtain⟨fq,ht⟩:=st;obtain⟨o,ho,hc,hd⟩:=id fq;obtain⟨o2,jg,nt,n2,ji⟩:=id ht;have hx:items[items.size]?=none:=by simp
  refine X0 (Yg (name:=Str.ofString "__next__") fq.typeIs F.slot_tuple_iterator_next (Y3 F.slot_tuple_iterator_next fq.typeIs F.entry_tuple_iterator_next ?_ (F.args_tuple_iterator_next_1 _)));show wpAny _ _ (field (.ref it) 0 >>= _) _ _ s;refine X0 (Yw ho hd (x:=.ref t) rfl ?_);rw[Xi (show ¬((Value.ref t==Value.none)=true)from Bool.false_ne_true)];show wpAny _ _ (field (.ref it) 1 >>= _) _ _ s;refine X0 (Yw ho hd (x:=.int items.size 0) rfl ?_);show wpAny _ _ (seqItems? (.ref t) >>= _) _ _ s;refine X0 (Zk jg ji ?_);simp only[Y2,hx];refine X0 (Zm (X0 (Yr ho hd (by simp) ?_)));show wpAny _ _ (newExc (.type "StopIteration") [] >>= _) _ _ _;refine X0 ?_;simp only[newExc,newTuple];refine X0 (Yd (X0 (m:=firstArgMember _ _) (wpAny_of_eq (a:=Value.none) (by first|rfl|(simp only[firstArgMember];rfl)) (Yd ?_ (by size_fits)))) (by size_fits));simp only[raiseNew];refine X0 (wpAny_handled ?_)
  first|rw[show A.in1.handled=none from hh]|rw[hh]
  exact X0 (X6 (wpAny_throw (hE _ _ (((Yc ..).extBut.push _).push _) #[_,X9 _ rfl,rfl])))
set_option tactic.hygienic true in
theorem wqs(t)(items)(n:Nat)(dct:Option Addr)(sl:Array (Option Value)):
  Meets (Builtin.«enumerate.__new__» #[[.type "enumerate",.ref t],[]]) (λ_ R s=>s.heap.get? t=some {cls:=.type "tuple",dict:=dct,data:=.seq items n,slots:=sl} /\
   R (.ok (.ret (.ref (s.heap.push {cls:=.type "tuple_iterator",data:=.fields (List.toArray [.ref t,.int 0 0])}).objs.size)))
    {s with heap:=(s.heap.push {cls:=.type "tuple_iterator",data:=.fields (List.toArray [.ref t,.int 0 0])}).push {cls:=.type "enumerate",data:=.fields (List.toArray [.none,.bool false,.ref s.heap.objs.size,rawInt 0,.none,.none])}}):=
 .of_wp λprog w A R s h=>by
  obtain⟨hp,g,d,tk,os⟩:=s;obtain⟨hl,h⟩:=h;have ei:=sub_enumerate;have hL:Heap.IsTuple (Shared.heap #[hp,g,d,tk,os]) t items:=#[_,hl,rfl,n,rfl]
  wp_walk using AutoSeq1.wpAny_loadPart' hl
  refine wpAny_stack_any λst=>X6 ?_
  split
  ·rename_i c _ _ _ _ _;cases(c==Value.type "enumerate") <;>
   ·wp_walk using AutoSeq1.wpAny_loadPart' hl,wpAny_pyIter_tuple hL
    exact#[_,rfl,h]
  ·wp_walk using AutoSeq1.wpAny_loadPart' hl,wpAny_pyIter_tuple hL
   exact#[_,rfl,h]
theorem vx0{t items Q}(hL:s.heap.IsTuple t items)
  (h:∀h',IsEnum h' (s.heap.objs.size+1) s.heap.objs.size 0 .none->h'.IsTupleIter s.heap.objs.size t 0->h'.objs.size=s.heap.objs.size+2 ->
   (∀b o,s.heap.get? b=some o->h'.get? b=some o)->Q (.ref (s.heap.objs.size+1)) {s with heap:=h' }):
  wpAny (model prog w) A (call (.type "enumerate") [.ref t]) Q E s:=by
 obtain⟨⟨c,dct,dt,sl⟩,hl,hc,n,hd⟩:=hL;subst hc hd;refine callType_new F.called_enumerate ⋯ (F.typeCall_enumerate_1 _) (F.newCall_enumerate_1 _) (λobj=>F.args_object_init_2 obj _) F.entry_enumerate_new (wqs t items n dct sl) #[hl,?_];have hz:(s.heap.push {cls:=.type "tuple_iterator",data:=.fields (List.toArray [.ref t,.int 0 0])}).objs.size=s.heap.objs.size+1:=Z8 ..;rw[hz];have he:IsEnum ((s.heap.push {cls:=.type "tuple_iterator",data:=.fields (List.toArray [.ref t,.int 0 0])}).push {cls:=.type "enumerate",data:=.fields (List.toArray [.none,.bool false,.ref s.heap.objs.size,rawInt 0,.none,.none])}) (s.heap.objs.size+1) s.heap.objs.size 0 .none:=by
  have:=X9 (s.heap.push {cls:=.type "tuple_iterator",data:=.fields (List.toArray [.ref t,.int 0 0])}) (o:={cls:=.type "enumerate",data:=.fields (List.toArray [.none,.bool false,.ref s.heap.objs.size,rawInt 0,.none,.none])}) rfl;rw[hz]at this;exact this
 exact#[#[_,he,rfl],h _ he #[_,X2 _ (X9 _ rfl),rfl,rfl] (by rw[Z8,hz]) λb o x=>X2 _ (X2 _ x)]
end
end PySem
namespace Q
open PySem PySem.Spec PyProof.Rows L2 L3
abbrev ItT(K:Frag)(l:Addr):It:=ItE (SqT K · l)
theorem vv5{P w K dk k1 pos e it l}(n1:e≠it)(n2:l≠e)(n3:l≠it):Turn P w K (.Tuple dk k1 pos) (ItT K l) [e,it] e (λi h=>(∃eh,IsEnum h e it i eh)/\h.IsTupleIter it l i):=
 qwz (K:=K) (IS:=λh ac=>h.IsTuple l ac) n1 n2 (λA hh ac=>vkr hh it l n3 ac) λX a8 s σ H hK I xs q=>by
  subst hK;obtain⟨ac,rv,p,_⟩:=I.tuple q;exact#[#[ac,rv,p],λzs hz=>I.tuple_inj hz q]
abbrev iEnT(K:Frag)(ta:TA):TI:=fun σ H R=>ta σ H λvs H1=>∃l,vs=[.ref l]/\(∃xs,SqT K H1 l xs/\(xs.length<=sizeLine->R (ItT K l) H1))
section
variable {X:Cx}{Z:Fx0}{K:Frag}{pn:List Nat}{q:Bool}{c:Ex}{e:Expr}{σ:L2.St}{H:Hp}{L:Ls}{E:En}{pos p jc:Pos}{dk:List Expr}{k1:Nat}
theorem wxu K {ta}(hg:Gl X "enumerate")(hm:X.mg "enumerate"=none)(ha:PA X [e] ta)(hK:autoParam (X.K=K) Ŕ)
  (hs:autoParam (starEach [e] X.env=[(false,eval e X.env)]) Ŕ):PI X (.Tuple dk k1 jc) (.Call (.Name "enumerate" p) [e] [] pos) (iEnT K ta):=by
 subst hK;intro a8 s σ H R I h;refine Call_ (J6 I hg hm jzn (Y1 (thn (ha pos a8 s σ H _ I h) λus s1 hz=>?_) (by rw[hs];rfl) rfl));obtain⟨vs,H1,I1,r1,q1⟩:=hz;obtain⟨l,rfl,xs,q1,q⟩:=q1;obtain⟨u1,rfl,e1⟩:=xv r1;cases e1;obtain⟨ir,sv,p1,sf⟩:=I1.tuple q1;have lt:l<s1.heap.objs.size:=by obtain⟨_,ee,_⟩:=p1;exact Xe ee
 refine vx0 p1 λh' g1 g2 gs gk=>?_
 refine wpAny_pyIter_enum g1 #[_,[_,s1.heap.objs.size],_,_,H1,rfl,I1.kept (t':=s1.toks) gk,
  vv5 (Nat.succ_ne_self _) (Xk (Z2 lt)) (Xk lt),#[#[_,g1],g2],λb hb=>?_,q sf]
 have gw:s1.heap.objs.size<=b:=by
  simp at hb;rcases hb with rfl|rfl<;>lia
 exact I1.fpOk gw (I1.hok.fresh gw)
theorem qzb(h:QE X Z q c e)(hg:Gl X "enumerate")(hm:X.mg "enumerate"=none)(hK:autoParam (X.K=Z.K) Ŕ)(hs:autoParam (starEach [e] X.env=[(false,eval e X.env)]) Ŕ):QI X Z q (.Tuple dk k1 jc) (vju c) (.Call (.Name "enumerate" p) [e] [] pos):=λa8 s σ H R I ao=>ex8 ao λE L r m w hc xc k=>by
 refine(wxu Z.K hg hm (vZ h wQ hs) hK hs) a8 s σ H R I (Vx m w (show bnd (c E) _=some r from hc) xc λE1 s h1 x L1 H1 e1 e2 m1 w1 st sm=>?_);obtain⟨ds,hd,rfl⟩:=xw h1;obtain⟨wT,sT⟩:=kqu w1 st;cases hx:x.d with
 |tup es=>
  rw[<-e2,hx]at hd;cases oq9 hd;obtain⟨a,_,_,ev,_⟩:=items w1.head (.inr hx);have ag:=kwk (K:=Z.K) hx ev;obtain⟨xs,bs,q3,r3,_⟩:=ag H1 (Jq w1.head);exact#[a,by rw[ev],xs,q3,λai=>k _ _ rfl (ItT Z.K a) [x.let] L1 H1 m1 wT sT (by rw[jwf,r3.len];exact ai) (λhq=>(sm hq).1) (qwn ag)]
 |_=>rw[<-e2,hx]at hd;cases hd
end
theorem kx3:∀{ds} {i:Nat} {d},D.pures ds=true->ds[i]?=some d->d.pure=true
 |[],_,_,_,h=>by simp at h
 |a::ds,0,d,h,e=>by
  have e:a=d:=by simpa using e
  subst e;unfold D.pures at h;rw[Bool.and_eq_true]at h;exact h.1
 |a::ds,i+1,d,h,e=>by
  unfold D.pures at h;rw[Bool.and_eq_true]at h;exact kx3 h.2 (by simpa using e)
theorem xv5{X Z tg e i}(h:PE X e (zJ i))(hK:autoParam (X.K=Z.K) Ŕ):QIS X Z true tg (itV i) e:=λa8 s σ H R I ao=>ex8 ao λE L r m w hc xc k=>by
 refine(hK▸vze h) a8 s σ H R I ?_;unfold itV at hc;cases hE:E[i]? with
 | none=>rw[hE]at hc;cases hc
 | some s0=>
  cases s0 with
  | none=>rw[hE]at hc;cases hc
  | some s0=>
   obtain⟨oo,dd⟩:=s0;rw [hE]at hc;cases dd with
   | lst ds=>
    dsimp only at hc
    by_cases hp:D.pures ds=true
    ·rw[Xd hp]at hc;cases oq9 hc;obtain⟨x,a1,a2,a3,a4⟩:=m.get hE;have nr:=w.ok x (vJ a1);obtain⟨a,xs,bs,ev,q3,r3,h3,_⟩:=items nr (.inl a3);have q3:LsR Z.K H a xs:=by rcases q3 with⟨_,z⟩|⟨z,_⟩;exact z;rw[a3]at z;cases z
     have again:∀H2,kw H H2->∃g ys cs,SqL Z.K H2 a ys/\RepA Z.K H2 g ds ys cs:=λH2 hs=>by
      obtain⟨a',ys,cs,uc,q4,r4,h4,_⟩:=items (RepO.kp nr (Kp.of_same hs):x.ok Z.K H2) (.inl a3);have:a'=a:=by have:=uc.symm.trans ev;exact V.ref.inj this
      subst this;rcases q4 with⟨_,z⟩|⟨z,_⟩
      ·exact#[_,ys,cs,z.sq,r4]
      ·grind
     refine#[x.v,a4,.inl #[a,xs,ev,q3.sq,λai=>k _ _ rfl _ [] L H m (by rw[List.map_nil,Xs];exact w) (by rw[List.map_nil,Xs];exact Step.refl) (r3.len▸ai) (λ_=>xQ) #[λt ht=>(nomatch ht),λj H2 _ hs hj=>?_,λH2 _ hs=>?_,λj H2 v H3 d _ hs hy iz=>?_]]]
     ·obtain⟨g,ys,cs,s1,s2⟩:=again H2 (hs rfl);have hl:=s2.len;exact#[ys,ys[j]'_,s1,X1 ⋯]
     ·obtain⟨g,ys,cs,s1,s2⟩:=again H2 (hs rfl);exact#[ys,s1,by rw[s2.len];exact Xa _]
     ·obtain⟨g,ys,cs,s1,s2⟩:=again H2 (hs rfl);obtain⟨e3,hy⟩:=hy;subst e3;obtain⟨v',f8,f1,f2,f3⟩:=s2.get iz;have:v'=v:=by have:=hy ys s1;rw[f1]at this;exact oq9 this
      subst this;exact#[#[.no,d,v',[]],rfl,rfl,rfl,xQ,(RepL.pu (g':=true) f2 (kx3 hp iz)).2,λb hb=>(nomatch hb)]
    ·rw[Xi hp]at hc;cases hc
   |_=>cases hc
end Q
namespace PySem
section
variable {prog:Program}{w:World}{A:Around}{E:VP9}{s:Shared}
def vqv(h:Heap)(d:Addr)(n:Nat):Prop:=∃o es ep,h.get? d=some o/\o.cls=.type "dict"/\o.data=.dict es ep/\es.size=n
theorem kk0(d)(hd:(d==sysModules)=false):
  MeetsIn prog w (Builtin.«dict.__len__» #[[.ref d],[]]) (λ_ R s=>∃n,vqv s.heap d n/\R (.ok (.ret (.int n s.toks))) {s with toks:=s.toks+1}):=
 .of_wp λA R s hz=>by
  obtain⟨n,⟨o,es,ep,ho,hc,ib,hz⟩,h⟩:=hz;show wpAny _ _ (dictSize d >>= _) _ _ s;refine X0 (X0 (wpAny_dictEntries ho ib (X6 (X0 (wpAny_pendingCount_other hd (wpAny_ret_mkInt ?_))))));rw[hz];exact h
theorem kkv{d n}{Q:VP9}(hd:(d==sysModules)=false)(hm:vqv s.heap d n)(n9:(n:Int)<2 ^ 63)
  (h:Q (.int n (s.toks+1)) {s with toks:=s.toks+1+1}):wpAny (model prog w) A (Builtin.«len» #[[.ref d],[]]) (λfin s'=>∃r,fin=.done (.ret r)/\Q r s') E s:=by
 have ht:s.TypeIs (.ref d) "dict":=by obtain⟨o,es,ep,ho,hc,_⟩:=hm;exact#[o,ho,hc]
 refine X0 (m:=callSpecial? _ _) (Yg ht F.slot_dict_len
  (call_meetsIn F.slot_dict_len ht F.entry_dict_len (F.args_dict_len_1 _) (kk0 d hd) #[n,hm,?_]))
 show wpAny _ _ (if _>=2 ^ 63 then _ else _) _ _ _;rw[Xi ⋯];exact X0 (wpAny_mkInt (X6 #[_,rfl,h]))
theorem kkx{d n Q}(hd:(d==sysModules)=false)(hm:vqv s.heap d n)(n9:(n:Int)<2 ^ 63)
  (h:Q (.int n (s.toks+1)) {s with toks:=s.toks+1+1}):wpAny (model prog w) A (call (.builtin "len") [.ref d]) Q E s:=
 Calls.call_function_entry kind_len plain_len entry_len (args_len1 _) (kkv hd hm n9 h)
end
end PySem
namespace Q
open PySem PySem.Spec PyProof.Rows L2 L3
theorem vk9 {K H k}: ∀{kvs xs bs} {es : List Ent},RepP K H true kvs xs bs -> kvs.map (·.1) = es.map (·.1.1) -> Vals xs (es.map (·.2.2)) -> D.pures (kvs.map (·.2)) = true ->
    (∀ p,atKey es k = some p -> ∃d v,xZ kvs k.1 = some d /\ RelV v p.2 /\ RepL K H false d v [] /\ d.pure = true) /\ (atKey es k = none -> xZ kvs k.1 = none)
  | [],_,_,[],_,_,_,_=>#[λp h=>(by cases h),λ_=>rfl]| [],_,_,_::_,_,h,_,_=>by cases h| _ :: _,_,_,[],_,h,_,_=>by cases h
  | (q,d)::kvs,xs,bs,e::es,hr,hk,hv,hp=>by
    obtain⟨x,r,b1,c1,rfl,_,h1,h2⟩:= hr;injection hk with k1 k2;rw [List.map_cons]at hv hp;cases hv with
    | cons v1 v2=>
      unfold D.pures at hp;rw [Bool.and_eq_true]at hp;have k1 : q = e.1.1:= k1
      by_cases he : e.1 = k
      · have hq : q = k.1:= by rw[k1,he]
        have hg : xZ ((q,d)::kvs) k.1 = some d:= by unfold xZ; rw[List.find?_cons_of_pos (by simp[hq])]; rfl
        have ha : atKey (e::es) k = some e.2:= by
          obtain⟨ek,ev⟩:= e;have he : ek = k:= he;simp[atKey,he]
        refine#[λp oh=> ?_,λhn=> ?_]
        · rw[ha]at oh
          cases oq9 oh;exact#[d,x,hg,v1,(RepL.pu (g':= false) h1 hp.1).2,hp.1]
        · grind
      · have hq : q≠k.1:= λz=>he (Subtype.ext (k1▸z))
        have hg : xZ ((q,d)::kvs) k.1 = xZ kvs k.1:= by unfold xZ; rw[List.find?_cons_of_neg (by simp[hq])]
        have ha : atKey (e::es) k = atKey es k:= by
          simp[atKey,he]
        rw[hg,ha];exact(vk9 h2 k2 v2 hp.2)
set_option tactic.hygienic true in
theorem vjn{P w K mg mb CX k fa a fd x sp s₁ vs}{ns}
  (KX:K.In s₁.heap) (hns:s₁.heap.Ns mainGlobals mg) (hb:s₁.heap.Ns builtinsNs mb) (hbb:∀x:Str,x≠"__name__"->mb x=bootBuiltins x) (hlim:s₁.heap.NoLimit) (hg:s₁.gens=(List.toArray []))
  (ha:s₁.heap.get? a=some {cls:=.type "list",data:=.seq vs.toArray}) (hi:IntsAre vs ns) (hl:ns.length<=sizeLine) (hr:Room k callerA)
  (F:∀base,K.In base->base.Ns mainGlobals mg->FnOk P w K mg base CX k fa fd [x] sp) (t4:∀s u,BindsTo s fd #[[u],[]] [(x,u)])
  (mv:∀H,xwk H->LsR K H a (ns.map V.int)->sp [.ref a] H (λv _=>v=.bl true) λ_ _ _=>False)
  (hCX:∀H e s',CX [] H s₁ (λ_ _ _=>False) e s'->False):
  codeAny (model P w) callerA (.call (.ref fa) #[[.ref a],[]]) (λr s'=>r=.ok (.ret (.bool true))/\OldK s₁.heap s'.heap/\s'.os=s₁.os/\AllBare s'.gens) s₁:=by
 have rv:=qwr hi;have vo:∀H,xwk H->LsR K H a (ns.map V.int)->HOk P w H s₁.heap->(∀b,H b≠none->b=a)->(H a≠none->K.lookup a=none) ->
   codeAny (model P w) callerA (.call (.ref fa) #[[.ref a],[]]) (λr s'=>r=.ok (.ret (.bool true))/\OldK s₁.heap s'.heap/\s'.os=s₁.os/\AllBare s'.gens) s₁:=by
  intro H hO hS hok hA hK;have jm:∀{b o},s₁.heap.get? b=some o->H b=none->(W8 s₁.heap H).get? b=some o:=λe n=>vwr e n
  have ub:∀{b o es ep},s₁.heap.get? b=some o->o.data=.dict es ep->H b=none:=fun {b o es ep} e d=>by
   cases q:H b with| none=>rfl| some u=>grind
  have nsK:∀{b m},s₁.heap.Ns b m->(W8 s₁.heap H).Ns b m:=fun {b m} ⟨o,es,ep,e,d,r⟩=>#[o,es,ep,jm e (ub e d),d,r]
  have hKb:=λb o e=>jm (KX b o e) (by
   cases q:H b with
   | none=>rfl
   | some u=>
    have e':=hA b (by rw[q];simp);subst e';rw[hK ⋯]at e;cases e)
  have hM:Mod K mg (W8 s₁.heap H):=#[hKb,nsK hns,#[mb,nsK hb,hbb],let ⟨mc,h1,h2⟩:=hlim;#[mc,nsK h1,h2]];have e0:Env0 P w K mg _ callerA [] s₁ H:=#[rfl,hM,λb o e=>wky e,Nat.le_of_eq (vk3 _ _),trivial,λb hb=>absurd (show b∈([]:List Addr)from hb) (by simp),hok,.of_eq hg];refine codeAny_mono ((F _ hKb (nsK hns)).run callerA [] s₁ H _ [.ref a] [.ref a] _ _ hr e0 (t4 s₁ _) (.cons rfl .nil) (mv H hO hS)) λr s' h=>?_
  cases r with
  | error e=>exact(hCX H e s' h).elim
  | ok fl=>
   cases fl with
   | next=>exact False.elim h| brk=>exact False.elim h| cont=>exact False.elim h
   | ret u=>
    obtain⟨v,H',os,bare,un,hok',r',q⟩:=h;subst q;obtain rfl:u=Value.bool true:=r';refine#[rfl,OldK.of_keep λb o e=>?_,os,bare];cases q:H b with
    | none=>exact un.keep b o e q (by intro z;exact absurd (show b∈([]:List Addr)from z) (by simp)) (by simp)
    | some u=>
     rcases hO b with z|⟨ob,xs,z⟩
     ·grind
     ·have z2:=un.frzs b ob _ z;obtain⟨e1,_⟩:=hok b _ z;obtain⟨e2,_⟩:=hok' b _ z2
      grind
 cases hk:K.lookup a with
 | some o=>
  have e:=KX a o hk;rw[ha]at e;cases e;refine vo (λ_=>none) (λ_=>.inl rfl) (.inr #[vs.toArray,_,hk,by rw[X8,hi.length];exact hl,by simpa using rv]) (λb u z=>by have z':(none)=some u:=z;cases z') (λb z=>absurd rfl z) λz=>absurd rfl z
 | none=>
  refine vo (λb=>if b=a then some (.frz {cls:=.type "list",data:=.seq vs.toArray} (.lst (ns.map V.int)))else none) (λb=>?_) (.inl (.inr #[{cls:=.type "list",data:=.seq vs.toArray},Xd rfl])) (λb u z=>?_) (λb z=>?_) λ_=>hk
  ·by_cases hb:b=a
   ·exact .inr #[_,_,Xd hb]
   ·exact .inl (Xi hb)
  ·by_cases hb:b=a
   ·have z':=(Xd hb).symm.trans z;cases z';subst hb;exact#[ha,by rw[X3];exact hl,vs,_,rv,ha]
   ·have z':=(Xi hb).symm.trans z;cases z'
  ·by_cases hb:b=a
   ·exact hb
   ·exact absurd (Xi hb) z
@[elab_as_elim] theorem len1 {P:List Value->Prop} us (e:us.length=1)(h:∀a,P [a]):P us:=by
 cases us with|nil=>cases e|cons a us=>cases List.eq_nil_of_length_eq_zero (Nat.succ.inj e);exact h a
@[elab_as_elim] theorem len2 {P:List Value->Prop} us (e:us.length=2)(h:∀a b,P [a,b]):P us:=by
 cases us with|nil=>cases e|cons a us=>exact len1 us (Nat.succ.inj e) λb=>h a b
@[elab_as_elim] theorem len3 {P:List Value->Prop} us (e:us.length=3)(h:∀a b c,P [a,b,c]):P us:=by
 cases us with|nil=>cases e|cons a us=>exact len2 us (Nat.succ.inj e) λb c=>h a b c
@[elab_as_elim] theorem len4 {P:List Value->Prop} us (e:us.length=4)(h:∀a b c d,P [a,b,c,d]):P us:=by
 cases us with|nil=>cases e|cons a us=>exact len3 us (Nat.succ.inj e) λb c d=>h a b c d
@[elab_as_elim] theorem len5 {P:List Value->Prop} us (e:us.length=5)(h:∀a b c d f,P [a,b,c,d,f]):P us:=by
 cases us with|nil=>cases e|cons a us=>exact len4 us (Nat.succ.inj e) λb c d f=>h a b c d f
@[elab_as_elim] theorem len6 {P:List Value->Prop}(us:List Value)(e:us.length=6)(h:∀a b c d f g,P [a,b,c,d,f,g]):P us:=by
 cases us with|nil=>cases e|cons a us=>exact len5 (P:=λl=>P (a::l)) us (Nat.succ.inj e) λb c d f g=>h a b c d f g
theorem jz1{K H g}:∀(ns:List Int),RepA K H g (ns.map D.int) (ns.map V.int) []
 |[]=>#[rfl,rfl]
 |n::ns=>by
  unfold RepA;exact#[_,_,[],[],rfl,rfl,vK,jz1 ns]
theorem wzv{K mg f H a}{ns:List Int}(h:∃E o,f [(.no,.lst (ns.map D.int))]=some (.ok E (o,.bl true)))(hs:LsR K H a (ns.map V.int))(hO:xwk H):
  spF K mg 1 f [.ref a] H (λv _=>v=.bl true) λ_ _ _=>False:=by
 obtain⟨E,o,h⟩:=h;have iw:∃as,RepL K H true (.lst (ns.map D.int)) (.ref a) as/\(∀b∈as,False):=by
  rcases hs with(hs|⟨ob,hs⟩)|hs
  ·rcases hO a with z|⟨_,_,z⟩<;>(rw[hs]at z;cases z)
  ·exact#[[],(#[a,ns.map V.int,[],rfl,jz1 ns,.inr #[rfl,.inl #[ob,hs],rfl]]),λb hb=>nomatch hb]
  ·exact#[[],(#[a,ns.map V.int,[],rfl,jz1 ns,.inr #[rfl,.inr hs,rfl]]),λb hb=>nomatch hb]
 obtain⟨as,r,hn⟩:=iw;refine#[[#[.no,.lst _,.ref a,as]],_,rfl,rfl,?_,h,(λE' c z=>by cases z),λE' s z x H' e1 e2 w' st=>?_]
 ·exact#[λx hx=>by rw[oq9 (aC hx)];exact r,by simp[Sl.own],λb hb=>by simp[Sl.own]at hb]
 ·injection z with z1 z2;subst z2;exact Q0 w'.head e2
section
open PySem.W PySem.Calls
theorem walkQ{l:OpenLaw}{n k q qV XP YP d}{K:Params->Frag}{f}{x}
  (hn:l.most=some n) (nj:n<=sizeLine) (hdf:d.params.defaults=[]) (hr:Room k callerA)
  (hY:∀w (h),YP w h->(K w.params).In h)
  (F:∀w (mg) (fa) (h),(K w.params).In h->h.Ns mainGlobals mg->mg d.name=some (.ref fa) ->
   ∃fd,(∀s (u),BindsTo s fd #[[u],[]] [(x,u)])/\∀base,(K w.params).In base->base.Ns mainGlobals mg->FnOk l.prog w (K w.params) mg base (CXE l.prog w) k fa fd [x] (spF (K w.params) mg 1 f))
  (mv:∀(ns:List Int),ns.length<=n->(∀i∈ns,Builtin.Int.intBits i<=1048576)->∃E o,f [(.no,.lst (ns.map D.int))]=some (.ok E (o,.bl true))):
  WalkO q qV XP YP l.row.toRowW d [] (λf vs=>PySem.call f vs):=by
 intro w s0 s1 mg mb G Y fa o pm cd gu dV kV ho hd ik hD hmg hg args de as my hlay hrd se hlo;obtain⟨a,vs,ns,rfl,rfl,hobj,uh,ai⟩:=Att.script_of hn my se;have KX:=hY w _ Y;obtain⟨fd,hb,hF⟩:=F w mg fa _ KX G.T.g hmg;refine enter_call (codeAny_mono (vjn KX G.T.g G.T.b G.T.builtins G.T.nolimit hg hobj uh (Ye ai nj) hr hF hb (λH hO hS=>wzv (mv ns ai (qkd hlay)) hS hO) (λ_ _ _ h=>by obtain⟨_,_,_,_,_,_,_,_,_,_,_,_,_,_,_,z⟩:=h;exact z)) λr s' hq=>?_);obtain⟨rfl,h2,h3,h4⟩:=hq;exact#[.inl #[.bool true,.bool true,[],rfl,λ_=>rfl,.bool true,Att.post_true l _,λ_=>#[List.Pairwise.nil,λ_ hm=>(nomatch hm)]],h2,h3,h4]
end
def xxa:Nat->(List Value->Prop)->Prop
 |0,p=>p []|n+1,p=>∀a,xxa n λus=>p (a::us)
@[elab_as_elim] theorem allN {p:List Value->Prop} us {n}(e:us.length=n)(h:xxa n p):p us:=by
 induction us generalizing n p with|nil=>subst e;exact h|cons a us ih=>subst e;exact ih (p:=λus=>p (a::us)) rfl (h a)
section
variable {P:Program}{w:PySem.World}{K:Frag}{mg:Str->Option Value}{base h:Heap}{x:Str}{st:Stmt}{ps:List Str}{k:Nat}{sp:Sp}
noncomputable def Gf(K:Frag)(x:Str)(st:Stmt):Prop:=∃(f:Addr) (oc:Value) (od:Option Addr) (kV dc pm:Value) (an:Option Addr) (cd ct:Value) (sl:Array (Option Value)),nsIn K mainGlobals x=some (some (.ref f))/\K.lookup f=some #[oc,od,.func (PySem.W.fnOf x x (vQ st) (z3 st) (jV st) .none kV dc pm an cd ct),sl]/\PySem.W.codeIn K cd x=true/\PySem.W.keepIn K (.ref f)=true
theorem Gf.mk{f oc od kV dc pm an cd ct sl}(a:nsIn K mainGlobals x=some (some (.ref f)))(l:K.lookup f=some #[oc,od,.func (PySem.W.fnOf x x (vQ st) (z3 st) (jV st) .none kV dc pm an cd ct),sl])(c:PySem.W.codeIn K cd x=true)(k:PySem.W.keepIn K (.ref f)=true):Gf K x st:=#[f,oc,od,kV,dc,pm,an,cd,ct,sl,a,l,c,k]
theorem Gf.d(g:Gf K x st)(X:K.In h)(G:h.Ns mainGlobals mg)(ok:∀{f fd},Fun K x x st f fd->FnOk P w K mg base (CXE P w) k f fd ps sp)
  (hb:∀kV gu pm an (cj ct) us,us.length=ps.length->bindArgs (PySem.W.fnOf x x (vQ st) (z3 st) (jV st) .none kV gu pm an cj ct) #[us,[]]=pure (ps.zip us):=by
   intro _ _ _ _ _ _ us hl;refine allN us hl ?_
   repeat intro _
   exact rfl):k8 P w K mg base k x ps sp:=by
 obtain⟨f,oc,od,kV,dc,pm,an,cd,ct,sl,a,l,c,kp⟩:=g;exact#[f,_,ok (vkc l c kp),(vkc l c kp).binds hb,kp,Zj X G a]
theorem Gf.law{fa y}(g:Gf K "law" st)(X:K.In h)(G:h.Ns mainGlobals mg)(hfa:mg "law"=some (.ref fa))(ok:∀{base f fd},Fun K "law" "law" st f fd->FnOk P w K mg base (CXE P w) k f fd [y] sp)
  (hb:∀kV gu pm an (cj ct) s v,BindsTo s (PySem.W.fnOf "law" "law" (vQ st) (z3 st) (jV st) .none kV gu pm an cj ct) #[[v],[]] [(y,v)]:=by
   intros
   exact .of_eq rfl):
  ∃fd,(∀s v,BindsTo s fd #[[v],[]] [(y,v)])/\∀base,K.In base->base.Ns mainGlobals mg->FnOk P w K mg base (CXE P w) k fa fd [y] sp:=by
 obtain⟨f,oc,od,kV,dc,pm,an,cd,ct,sl,a,l,c,kp⟩:=g;have e:=hfa.symm.trans (Zj X G a);cases e;exact#[_,hb kV dc pm an cd ct,λbase _ _=>ok (vkc l c kp)]
end
end Q
namespace Q
open PySem L2
theorem mkS{N P sc}(h1:autoParam (sc.kind=.function) Ŕ)(h2:autoParam (sc.isCoroutine=false) Ŕ)(h3:autoParam (sc.isGenerator=false) Ŕ)(h4:autoParam (N.Nodup) ŗ)(h5:autoParam (N.take P.length=P) Ŕ)(h6:autoParam (∀x∈P,sc.names.lookup x=some .local\/sc.names.lookup x=some .cell) ŗ)(h7:autoParam (∀y∈sc.names,y.2≠.free) ŗ):FnScope N P sc:=#[h1,h2,h3,h4,h5,h6,h7]
end Q
namespace Q
open PySem PySem.Spec PyProof.Rows L2 L3
section
variable {X:Cx}{Z:Fx0}{pn:List Nat}{q qa:Bool}{a b c:Ex}{e ea eb:Expr}{pos p:Pos}
theorem kI{z j}:QE X Z true (cC (.int z)) (.Constant (.int z) j p):=q_C wz4 λ_=>vK
theorem ki{z j}:QV X Z true (vE (cC (.int z))) (.Constant (.int z) j p):=j6 kI
theorem kN{j}:QE X Z true (cC .non) (.Constant .none j p):=q_C wz2 λ_=>qxt
theorem kn{j}:QV X Z true (vE (cC .non)) (.Constant .none j p):=j6 kN
theorem kS{z j}(h:autoParam (z.length<=sizeLine) ŕ):QE X Z true (cC (.str z)) (.Constant (.str z) j p):=q_C vzg λ_=>XX h
theorem ks{z j}(h:autoParam (z.length<=sizeLine) ŕ):QV X Z true (vE (cC (.str z))) (.Constant (.str z) j p):=j6 (kS h)
theorem vv i {x}(hN:autoParam (X.N[i]?=some x) Ŕ)(hv:autoParam (Vis X.env.scope x) ř)(hd:autoParam (Abd x) ŕ)
  (ik:autoParam ((x==("__classdict__":Str))=false) ŕ):QV X Z true (vV i) (.Name x pos):=q_vV (pv i hN hv hd ik)
theorem cv i {x}(hN:autoParam (X.N[i]?=some x) Ŕ)(hv:autoParam (Vis X.env.scope x) ř)(hd:autoParam (Abd x) ŕ)
  (ik:autoParam ((x==("__classdict__":Str))=false) ŕ):QE X Z true (cV i) (.Name x pos):=q_V (pv i hN hv hd ik)
theorem kx(ha:QV X Z qa a ea)(hb:QV X Z true b eb)(hs:qkh eb:=by exact λ_ _=>rfl)(hK:autoParam (X.K=Z.K) Ŕ):QV X Z qa (j9 a b) (.Subscript ea eb pos):=q_ix ha hb hs hK
theorem qA{i y bc}(hN:X.N.Nodup)(h:QE X Z q a ea)(hi:autoParam (X.N[i]?=some y) Ŕ)(hx:autoParam (Loc X.env.scope y) Ś)(hp:autoParam (i∉pn) ŕ)(hs:autoParam (swapsWith ea (some (.Name y bc)) pos.line X.env=pure false) Ŕ)(hf:autoParam (X.fn y=true\/X.env.scope.names.lookup y=some .local) Ř):
  QS X Z pn (jv i a) (.Assign [.Name y bc] ea pos):=xv7 hN hi hx h hp hs hf
theorem gn{i x}(hN:X.N.Nodup)(hi:autoParam (X.N[i]?=some x) Ŕ)(hx:autoParam (Loc X.env.scope x) Ś)(hf:autoParam (X.fn x=true\/X.env.scope.names.lookup x=some .local) Ř):PG X (.Name x pos) (vkb i):=qjd hN hi hx hf
theorem gN{i x}(hN:X.N.Nodup)(hi:autoParam (X.N[i]?=some x) Ŕ)(hx:autoParam (Loc X.env.scope x) Ś)(hf:autoParam (X.fn x=true\/X.env.scope.names.lookup x=some .local) Ř)(hp:autoParam (i∉pn) ŕ):QG X Z pn (.n i) (.Name x pos):=YX (qjd hN hi hx hf) hp
theorem qC{k m n x ps f cs es}(D:k8 X.prog X.w X.K X.mg X.base k x ps (spF Z.K Z.mg n f))(hr:Room m X.A)(ha:QA X Z q cs (e::es))(g:xz X Z.EX:=by exact K9)(gw:autoParam (k<=m) ŕ)(hn:autoParam (cs.length=n) Ŕ)(hg:autoParam (Gl X x) Ŕ)(fk:autoParam (Abd x) ŕ)
  (he:autoParam (Abs e es X) Ŕ) (bv:autoParam (Abb pos es X) Ŕ):
  QE X Z q (jx f cs) (.Call (.Name x p) (e::es) [] pos):=wxf D (hr.mono gw) g ha hn hg fk he bv
theorem qF{tg ay ss it t B}(hi:QI X Z q tg it ay)(hg:QG X Z pn t tg)(hb:QSs X Z pn B ss)(hp:PassesOwn (model X.prog X.w) X.A X.env X.xe:=by exact vw7 #[_,_,rfl,rfl])(hc:autoParam (X.calm=true) Ŕ)(hs:autoParam (∀x,foldedSetIterable ay X.env x=pure x) Ŗ):QS X Z pn (kW it t B) (.For tg ay ss [] pos):=xv6 hp hc hi hg hb hs
theorem oA(ha:QV X Z qa a ea)(hb:QV X Z true b eb)(hK:autoParam (X.K=Z.K) Ŕ):QE X Z qa (cF2 jX a b) (.BinOp ea .Add eb pos):=Kv (wzi hK) xkm ha hb
theorem oX(ha:QV X Z qa a ea)(hb:QV X Z true b eb)(hK:autoParam (X.K=Z.K) Ŕ):QE X Z qa (cF2 J1 a b) (.BinOp ea .Mult eb pos):=Kv (wze hK) wvb ha hb
theorem oM(ha:QV X Z qa a ea)(hb:QV X Z true b eb):QE X Z qa (cF2 (pu2 kJ) a b) (.BinOp ea .Mod eb pos):=Kv wzc xkd ha hb
theorem qP{i x apos aj xp}(h:QE X Z q c e)(hN:autoParam (X.N[i]?=some x) Ŕ)(hv:autoParam (Vis X.env.scope x) ř)(hd:autoParam (Abd x) ŕ)
  (ik:autoParam ((x==("__classdict__":Str))=false) ŕ) (dg:autoParam (attributeBase (.Name x xp) "append" X.env (eval (.Name x xp) X.env)=eval (.Name x xp) X.env) Ŕ)
  (fy:autoParam (((backTo aj (starEach [e] X.env)).all (λx=>!x.1)&&(backToKw aj (keywordEach [] X.env)).all (λx=>x.1.isSome)
   && decide ([e].length+([]:List Keyword).length+(if([]:List Keyword).isEmpty then 0 else 1)<30))=true) Ŕ)
  (da:autoParam (Abe apos aj) Ŕ) (hs:autoParam (Abs e [] X) Ŕ) (bq:autoParam (Abb aj [] X) Ŕ) (hK:autoParam (X.K=Z.K) Ŕ)
  (tm:autoParam (swapsWith (.Call (.Attribute (.Name x xp) "append" apos) [e] [] aj) none pos.line X.env=pure false) Ŕ):
  QS X Z pn (v4 v3 i c) (.Expr (.Call (.Attribute (.Name x xp) "append" apos) [e] [] aj) pos):=xv8 (qzr Z.K PySem.F.plainAttrs_list PySem.F.slot_list_append PySem.F.type_list_append vj5 (pv i hN hv hd ik) (vZ h wQ hs) dg fy da hs bq hK) tm
theorem qL(ha:QV X Z q a ea)(hm:X.mg "len"=none)(hK:autoParam (X.K=Z.K) Ŕ)(hg:autoParam (Gl X "len") Ŕ)(he:autoParam (Abs ea [] X) Ŕ)(bv:autoParam (Abb pos [] X) Ŕ):QE X Z q (cF1 (pu1 kz) a) (.Call (.Name "len" p) [ea] [] pos):=xkz (hK▸wv0 X.K) xke ha hm wj5 hg ⋯ ⋯ he bv
theorem qT(ha:QV X Z q a ea)(hm:X.mg "tuple"=none)(hK:autoParam (X.K=Z.K) Ŕ)(hg:autoParam (Gl X "tuple") Ŕ)(he:autoParam (Abs ea [] X) Ŕ)(bv:autoParam (Abb pos [] X) Ŕ):QE X Z q (cF1 z8 a) (.Call (.Name "tuple" p) [ea] [] pos):=Jv (vqb hK) vxi ha hm ZQ hg ⋯ ⋯ he bv
variable {ay fu tg:Expr}{ff:List Expr}{scope:Scope}{it:Ev (List D)}{tt:Tg}{u:Ts}
theorem qm(o)(k)(R)(m)(N)(hi:QI X Z q tg it ay)
  (hg:N.Nodup->∀cl C s0 H0 fp,QG (lcE X scope N cl C s0 H0 fp Z.EX) Z ((List.range R.length).map (k + ·)) tt tg) (ht:∀cl C s0 H0 fp,PTs (lcE X scope N cl C s0 H0 fp Z.EX) ff (tT Z q u)) (he:∀cl C s0 H0 fp,QE (lcE X scope N cl C s0 H0 fp Z.EX) Z q c fu)
  (hN:autoParam (N.Nodup) ŗ) (gx:xz X Z.EX:=by exact K9) (top:JK X:=by exact#[_,_,rfl,rfl]) (hR:autoParam (R.Nodup) ŕ) (hm:autoParam (X.N.length=m) Ŕ) (hr:autoParam (∀j∈R,j<m) ŕ) (hc:autoParam (X.calm=true) Ŕ) (hk:autoParam (scope.kind=.function) Ŕ) (ku:autoParam (KW X.N X.env.scope scope N k R=true) Ŕ) (hs:autoParam (∀x,foldedSetIterable ay X.env x=pure x) Ŗ):
  QE X Z q (cLC o k R it tt u c) (.ListComp fu [#[tg,ay,ff,0]] scope pos):=xx2 N hi (hg hN) ht he gx top hR (hm▸hr) hc hk ku hs
theorem qM{x p'}(o)(k)(R)(m)(N)(hi:QI X Z q (.Name x p') it ay)(he:∀cl C s0 H0 fp,QE (lcE X scope N cl C s0 H0 fp Z.EX) Z q c fu)
  (hN:autoParam (N.Nodup) ŗ) (gx:xz X Z.EX:=by exact K9) (top:JK X:=by exact#[_,_,rfl,rfl]) (hR:autoParam (R.Nodup) ŕ) (hm:autoParam (X.N.length=m) Ŕ) (hr:autoParam (∀j∈R,j<m) ŕ) (hc:autoParam (X.calm=true) Ŕ) (hk:autoParam (scope.kind=.function) Ŕ) (ku:autoParam (KW X.N X.env.scope scope N k R=true) Ŕ) (hs:autoParam (∀x,foldedSetIterable ay X.env x=pure x) Ŗ)
  (h1:autoParam (N[0]?=some x) Ŕ) (h2:autoParam (scope.names.lookup x=some .local) Ŕ) (h3:autoParam (0∉(List.range R.length).map (k + ·)) ŕ):
  QE X Z q (cLC o k R it (.n 0) tYes c) (.ListComp fu [#[.Name x p',ay,[],0]] scope pos):=xx2 N hi (λ_ _ _ _ _=>YX (qjd (i:=0) hN h1 (.inl (lookup_relabel_local h2)) (.inr (lookup_relabel_local h2))) h3) (λ_ _ _ _ _=>wx3) he gx top hR (hm▸hr) hc hk ku hs
end
end Q
namespace Q
def ddS(ss:List PySem.Str):List PySem.Str:=ss.foldl (λl k=>if l.any (· == k)then l else l++[k]) []
def ZJ:Sd->Option Sd:=λx=>match x.2 with
 |.lst ds=>(match JQ ds with
  |some ss=>if ss.length<64 then some (.rt,.lst ((xk (ddS ss)).map .str))else none
  |none=>none)
 |_=>none
end Q
namespace Sw
open PySem PyProof.Rows
section
variable {prog:Program}{w:World}{A:Around}{E:VP9}{s:Shared}
def tx(w:World):Bool:=w.params.followText "set-order"
structure Ok (prog:Program)(w:World)(o:Obj)(es:Array (Int×Value))(ep:Nat)(t:SetTable):Prop where
 ex:o.ExactSet
 d:o.data=.set es ep t
 el:ElemsOf (PySem.strKind prog w) es.toList
 b:es.size<scanBound
 f:t.fits es.size=true
 led:t.led=!tx w
 pl:t.plain=false\/es.size=0
def Zx(es:List (Int×Value)):List Str:=es.map λe=>strOf e.2
def Has(prog:Program)(w:World)(h:Heap)(a:Addr)(ls:List Str):Prop:=∃o es ep t,h.get? a=some o/\Ok prog w o es ep t/\(Zx es.toList).Perm ls
theorem vzx{l}(h:ElemsOf (PySem.strKind prog w) l){e}(he:e∈l):∃k t,e.2=.str k t:=by
 obtain⟨⟨k,hk,_⟩,_⟩:=h e he;obtain⟨t,ht⟩:=Value.isStrOf_shape hk;exact#[k,t,ht]
theorem xja{l}(h:ElemsOf (PySem.strKind prog w) l) k:(∃e∈l,(PySem.strKind prog w).is k e.2=true)↔k∈Zx l:=by
 unfold Zx;rw[List.mem_map];constructor
 ·rintro ⟨e,he,hk⟩;obtain⟨t,ht⟩:=Value.isStrOf_shape hk;exact#[e,he,by rw[ht];rfl]
 ·rintro ⟨e,he,hk⟩;obtain⟨k',t,ht⟩:=vzx h he;rw[ht]at hk;cases(hk);exact#[e,he,by rw[ht];exact strKind_is _ _ _ _]
set_option tactic.hygienic true in
theorem wq8 t es h x:(layNew t es h x).2.1.led=t.led/\((layNew t es h x).2.1.plain=true->t.plain=true):=by
 unfold layNew
 split
 ·rename_i slot wd _;show((t.put slot).1.orStandIn _).led=_/\(((t.put slot).1.orStandIn _).plain=true->_);unfold SetTable.orStandIn
  split
  ·exact#[rfl,λh=>h]
  ·exact#[rfl,λh=>nomatch h]
 ·exact#[rfl,λh=>nomatch h]
set_option tactic.hygienic true in
theorem qxw t es n:(relayAll t es n).2.1.led=t.led/\((relayAll t es n).2.1.plain=true->t.plain=true):=by
 unfold relayAll
 split
 ·rename_i t' order hr;dsimp only
  split
  ·unfold SetTable.relaid SetTable.laid at hr;rw[Option.bind_eq_bind,Option.bind_eq_some_iff]at hr
   grind
  ·exact#[rfl,λh=>nomatch h]
 ·exact#[rfl,λh=>nomatch h]
theorem wwe{h:Heap}{a o es es' ep t t'}(ho:h.get? a=some o)(hd:o.data=.set es ep t):(h.update a (Obj.putSet es' t')).get? a=some {o with data:=.set es' (ep+1) t' }:=by
 have:=Xz (Obj.putSet es' t') ho (by rw[putSet_of es' t' hd];rfl)
 rwa [putSet_of es' t' hd]at this
theorem tail{g:Bool->Sem Unit}(hg:∀b (s₁) (Q'),Q' () s₁->wpAny (model prog w) A (g b) Q' E s₁)
  {a o es fh ep t t2 ls wasDummy R} (ho:s.heap.get? a=some o) (hd:o.data=.set es ep t) (hex:o.ExactSet)
  (hel:ElemsOf (PySem.strKind prog w) fh.toList) (hb:fh.size<scanBound) (hf:t2.fits fh.size=true) (vi:t2.led=!tx w) (bv:t2.plain=false) (hp:(Zx fh.toList).Perm ls)
  (h:∀h',Heap.SameBut a s.heap h'->Has prog w h' a ls->R (some true) {s with heap:=h' }):
  wpAny (model prog w) A (do
    storeSet a fh t2
    if(!wasDummy&&t2.tooFull)=true then do
      g (relayAll t2 fh (SetTable.grown fh.size)).2.2
      storeSet a (relayAll t2 fh (SetTable.grown fh.size)).1 (relayAll t2 fh (SetTable.grown fh.size)).2.1
      pure (some true)
     else pure (some true)) R E s:=by
 refine X0 (wpAny_storeSet_of ho hd ?_ (fits_of_scanBound hb));have lg:=wwe (es':=fh) (t':=t2) ho hd;have mi:=Yc s.heap a (Obj.putSet fh t2)
 split
 ·have r1:=relayAll_perm t2 fh (SetTable.grown fh.size);have r2:=relayAll_fits t2 fh (SetTable.grown fh.size);obtain⟨r3,r4⟩:=qxw t2 fh _;generalize relayAll t2 fh _=V at r1 r2 r3 r4 ⊢;obtain⟨es2,t3,gv⟩:=V;have hz:es2.size=fh.size:=by rw[<-Y5,r1.length_eq,Y5]
  refine X0 (hg _ _ _ (X0 (wpAny_storeSet_of lg rfl (X6 (h _ (mi.trans (Yc _ a _)) #[_,es2,_,t3,wwe lg rfl,#[hex,rfl,hel.perm r1,by rw[hz];exact hb,r2,r3.trans vi,.inl ?_],(r1.map _).trans hp])) (fits_of_scanBound (hz▸hb)))));cases hq:t3.plain with|false=>rfl|true=>grind
 ·exact X6 (h _ mi #[_,fh,_,t2,lg,#[hex,rfl,hel,hb,hf,vi,.inl bv],hp])
set_option tactic.hygienic true in
theorem add{a k tk ls Q}(hS:Has prog w s.heap a ls)(hl:ls.length+1<scanBound)
  (h:∀b h',Heap.SameBut a s.heap h'->Has prog w h' a (step_dedup ls k)->Q b {s with heap:=h' }):wpAny (model prog w) A (setAddHashed a (.str k tk) ((PySem.strKind prog w).hash k)) Q E s:=by
 obtain⟨o,es,ep,t,ho,hk,hp⟩:=hS;have hsz:es.size=ls.length:=by rw[<-hp.length_eq];unfold Zx;rw[X3,Y5]
 have kg:(PySem.strKind prog w).is k (.str k tk)=true:=strKind_is _ _ _ _;have hmk:=(xja hk.el k).trans hp.mem_iff;refine Ya (X0 (Zg ho hk.d hk.f ?_));dsimp only;rw[byScan_of rfl hk.b hk.el];refine X0 (X0 (Zm (X0 (wpAny_setScan_of kg ho hk.d hk.f hk.el ?_))));cases hr:List.findIdx? _ es.toList with
 | some j=>
  dsimp only;obtain⟨hj,hpj,_⟩:=List.findIdx?_eq_some_iff_getElem.mp hr;have fm:=hmk.mp #[_,Xn hj,hpj];have bg:step_dedup ls k=ls:=by unfold step_dedup;rw[Xd (List.any_eq_true.mpr #[k,fm,by simp])]
  refine X6 (X6 ?_);have:=h false s.heap (Heap.SameBut.refl a s.heap) (by rw[bg];exact#[o,es,ep,t,ho,hk,hp])
  simp_all
 | none=>
  have pq:k∉ls:=λfm=>by
   obtain⟨e,he,hq⟩:=hmk.mpr fm
   grind
  have bg:step_dedup ls k=ls++[k]:=by
   unfold step_dedup
   simp_all
  rw[bg]at h;have hgw:∀b {s₁ Q'},Q' () s₁->wpAny (model prog w) A (match b with|true=>PySem.rule "set.scan.the-table-gave-way" | false=>pure ()) Q' E s₁:=
   λb s₁ Q' hq=>by cases b<;>first|exact X6 hq|exact Zm hq
  have l1:=layNew_perm t es ((PySem.strKind prog w).hash k) (.str k tk);have l2:=layNew_fits t es ((PySem.strKind prog w).hash k) (.str k tk);obtain⟨l3,l4⟩:=wq8 t es _ _;generalize layNew t es _ _=V at l1 l2 l3 l4 ⊢;obtain⟨fh,t1,wd,gv⟩:=V;rw[Array.toList_push]at l1;have u4:=(hk.el.push kg rfl).perm l1;have sf:fh.size=ls.length+1:=by rw[<-Y5,l1.length_eq,Xf,Y5,hsz];rfl
  have hp1:(Zx fh.toList).Perm (ls++[k]):=by
   refine(l1.map λe=>strOf e.2).trans ?_;rw[X7];exact hp.append (List.Perm.refl _)
  refine X0 (hgw _ ?_)
  split
  ·refine X0 (X6 (tail ?_ ho hk.d hk.ex u4 (sf▸hl) (SetTable.fits_plain_off l2) (l3.trans hk.led) rfl hp1 λh' a1 a2=>?_))
   ·intro b s₁ Q' hq;cases b<;>first|exact X6 hq|exact Zm hq
   ·exact X6 (h true h' a1 a2)
  ·rename_i bv;refine X0 (X6 (tail ?_ ho hk.d hk.ex u4 (sf▸hl) l2 (l3.trans hk.led) (Bool.eq_false_iff.mpr bv) hp1 λh' a1 a2=>?_))
   ·intro b s₁ Q' hq;cases b<;>first|exact X6 hq|exact Zm hq
   ·exact X6 (h true h' a1 a2)
def dd(ss:List Str):List Str:=ss.foldl step_dedup []
theorem wqx{ss:List Str}{i x}(h:ss[i]?=some x):dd (ss.take (i+1))=step_dedup (dd (ss.take i)) x:=by
 unfold dd;rw[List.take_succ,h,List.foldl_append];rfl
theorem xjv ss:(dd ss).length<=ss.length:=foldl_step_dedup_nil_length_le ss
theorem qx4:∀{vs ss},StrsAre vs ss->∀(i:Nat) (v),vs[i]?=some v->∃x t,v=.str x t/\ss[i]?=some x
 |_,_,.nil,i,v,h=>by cases i<;>cases h|_,_,.cons x t r,0,v,h=>by cases oq9 h;exact#[x,t,rfl,rfl]|_,_,.cons x t r,i+1,v,h=>qx4 r i v h
theorem kqz:∀{vs ss},StrsAre vs ss->vs.length=ss.length
 |_,_,.nil=>rfl|_,_,.cons x t r=>congrArg _ (kqz r)
theorem Has.same{h h' a ls}(x:Has prog w h a ls)(e:∀o,h.get? a=some o->h'.get? a=some o):Has prog w h' a ls:=by
 obtain⟨o,es,ep,t,ho,r⟩:=x;exact#[o,es,ep,t,e _ ho,r]
theorem loop{R I fp wr G n P St}(W:WalksS prog w A.in1 I fp wr G n P St)(S)(nz:S∉fp)
  {ss} (hn:ss.length=n) (i9:∀i v,P i v->∃x t,v=.str x t/\ss[i]?=some x) (hb:n+1<scanBound):∀k i (s),n - i=k->i<=n->St i s->Has prog w s.heap S (dd (ss.take i)) ->
   (∀s',Moved (S::wr) G s s'->Has prog w s'.heap S (dd ss)->R (.ok (.ret .none)) s')->codeAny (model prog w) A (.builtin "set.update.loop" #[[.ref S,.ref I],[]]) R s:=by
 have vg:=λh=>nz (W.sub _ h)
 have ei:∀b∈wr,b∈S::wr:=λb hb=>lc9 _ hb
 intro k
 induction k with
 | zero=>
  intro i s hk hi bg hS hR;cases(show i=n by lia);refine Z4 F.entry_set_update_loop (X0 (W.done s _ _ bg λs' hm=>(X6 (hR s' (hm.mono ei) ?_))));rw[<-hn,List.take_length]at hS;exact hS.same λo e=>hm.heap S _ vg e
 | succ k ih=>
  intro i s hk hi bg hS hR;refine Z4 F.entry_set_update_loop (X0 (W.item i s _ _ ⋯ bg λv s' hP pi hm=>?_));obtain⟨x,t,rfl,hx⟩:=i9 i v hP;refine X0 (Ya (Ya (X0 ((PySem.strKind prog w).pyHash (strKind_is _ _ _ _) ?_))));have gw:(dd (ss.take i)).length+1<scanBound:=by have:=xjv (ss.take i);rw[Ys]at this;lia
  refine add (hS.same λo e=>hm.heap S _ vg e) gw λb h' a1 a2=>?_
  rw[<-wqx hx]at a2;refine X6 #[plainId_quiet F.plain_set_update_loop _,ih _ _ ⋯ ⋯ (W.frame _ s' _ _ pi (Nat.le_succ _) λb hb o e=>?_) a2 λkf qp p9=>?_]
  ·rw[a1.2 b (λh:b=S=>nz (h▸hb))];exact e
  ·refine hR kf (Moved.trans W.gtrans ((hm.mono ei).then_heap (Nat.le_succ _) λb o hb e=>?_) qp) p9;rw[a1.2 b (λh:b=S=>hb (h▸X5))];exact e
def fresh(w:World):Obj:={cls:=.type "set",dict:=none,data:=.set (List.toArray []) 0 (.fresh 0 0 (!tx w))}
theorem vke{h a}(e:h.get? a=some (fresh w)):Has prog w h a []:=
 #[_,(List.toArray []),0,.fresh 0 0 _,e,#[#[rfl,rfl,rfl],rfl,(λe he=>nomatch he),⋯,by rfl,rfl,.inr rfl],.refl _]
theorem made(a){Q₁}(h:Q₁ (.ref s.heap.objs.size) {s with heap:=s.heap.push (fresh w)}):
  codeAny (model prog w) A (.call (.builtin "set.__new__") #[[.type "set",a],[]]) (wants Q₁ E) s:=by
 refine codeAny_of_tree (X0 (wpAny_of_eq (F.newCall_set_1 a) (X6 #[plainId_quiet F.plain_set_new _,Z4 F.entry_set_new ?_])));unfold Builtin.«set.__new__» Builtin.Frozenset.newClass;have ei:=sub_set_self
 wp_walk
 exact wpAny_askSetting (X6 (X0 (wpAny_alloc (X6 (X6 h)))))
set_option maxHeartbeats 8000000 in
theorem vx9{l items ss Q}(hh:A.handled=none)(hl:s.heap.IsList l items)(hi:StrsAre items.toList ss)(hb:items.size+1<scanBound)
  (h:∀h' (tk:Nat),Has prog w h' s.heap.objs.size (dd ss)->(∀b o,b<s.heap.objs.size->s.heap.get? b=some o->h'.get? b=some o)->Q (.ref s.heap.objs.size) {s with heap:=h',toks:=tk}):
  wpAny (model prog w) A (call (.type "set") [.ref l]) Q E s:=by
 obtain⟨c,tl,hmro⟩:=F.called_set.mro;have hmade:=F.called_set.made;have ei:=F.called_set.sub;refine wpAny_call (codeAny_of_tree ?_);show wpAny _ _ (callAny (.type "set") _) _ _ _;refine X6 #[Code.quiet_builtin _ (by decide +kernel),Z4 F.entry_type_call ?_];rw [Around.under_plain (weight_type_call_type "set" [.ref l] []) rfl];have h1:=F.called_set.notType;have h2:=F.called_set.canCreate;have hct:=F.typeCall_set_1 (.ref l)
 repeat (any_goals (first|assumption|wp_step))
 refine codeAny_mono (made (.ref l) (E:=E) (Q₁:=λobj s₁=>obj=.ref s.heap.objs.size/\s₁={s with heap:=s.heap.push (fresh w)}) #[rfl,rfl]) λr s₁ hr=>?_
 cases r with
 | error e=>exact hr
 | ok fl=>
 cases fl with
 | ret obj=>
  obtain⟨rfl,rfl⟩:=hr;have hS:(s.heap.push (fresh w)).get? s.heap.objs.size=some (fresh w):=X9 _ rfl;have hT:Shared.TypeIs {s with heap:=s.heap.push (fresh w)} (.ref s.heap.objs.size) "set":=#[_,hS,rfl];have hli:=F.called_set.init.lookup;have hbi:=F.called_set.init.bind (.ref s.heap.objs.size)
  repeat (any_goals (first|assumption|wp_step))
  refine codeAny_mono (codeAny_call_builtin (R:=wants (λr s₂=>r=.none/\∃h' tk,s₂={s with heap:=h',toks:=tk}/\Has prog w h' s.heap.objs.size (dd ss) /\
    (∀b o,b<s.heap.objs.size->s.heap.get? b=some o->h'.get? b=some o)) E) F.called_set.init.plain F.entry_set_init (check_set_init_1 hT ?_)) λr₂ s₂ hr₂=>?_
  ·obtain⟨ol,hol,dv,nl,hdl⟩:=hl;obtain⟨ocls,ug,odata,qh⟩:=ol;simp only at dv hdl;subst dv;subst hdl;have hol':(s.heap.push (fresh w)).get? l=some {cls:=.type "list",dict:=ug,data:=.seq items nl,slots:=qh}:=X2 _ hol;have hsls:=F.sub_list_set;have hslf:=F.sub_list_frozenset;have br:(Value.type "list" == Value.type "dict")=false:=⋯
   have im:(s.heap.push (fresh w)).IsList l items:=#[_,hol',rfl,nl,rfl];have we:l<s.heap.objs.size:=Xe hol;have rq:({cls:=.type "set",dict:=none,data:=.set (List.toArray []) 0 (.fresh 0 0 (!tx w))}:Obj)=fresh w:=rfl;unfold Builtin.«set.__init__» noKeywords Builtin.Frozenset.updateFrom;generalize hPI:pyIter=PI
   wp_walk
   subst hPI;refine Zf im ?_;refine X0 (wpAny_runValue ?_);have hh3:A.in1.in1.in1.handled=none:=by simp[hh]
   have hsz:(s.heap.push (fresh w)).objs.size=s.heap.objs.size+1:=Z8 ..;refine loop ((Walks.list hh3 _ l (by rw[hsz];exact Xk (Z2 we)) items).toS) s.heap.objs.size (by rw[hsz];simp only[Yq,Y7,or_false,not_or];exact#[Xk (Nat.lt_succ_self _),Zl we]) (ss:=ss) ?_ (λi v hv=>qx4 hi i v (by rw[Yp];exact hv)) hb (items.size - 0) 0 _ ⋯ (Y6 _)
    #[#[_,X9 _ rfl,rfl,rfl],im.push _] ?_ ?_
   ·rw[<-kqz hi,Y5]
   ·exact vke (X2 _ hS)
   ·intro s' hm ld;obtain⟨h',g',d',oi,qr⟩:=s';have eg:g'=s.gens:=hm.gens;have ed:d'=s.drawn:=hm.drawn;have eo:qr=s.os:=hm.os;subst eg;subst ed;subst eo;show wpAny _ _ _ _ _ _;refine X6 ?_;show wpAny _ _ (ret Value.none) _ _ _;refine X6 #[rfl,h',oi,rfl,ld,λb o hb e=>?_];exact hm.heap b o (by simp only[Yq,Y7,or_false,not_or];rw[hsz];exact#[Xk hb,Xk (Z2 hb)]) (X2 _ (X2 _ e))
  ·cases r₂ with
   | error e=>exact hr₂
   | ok fl₂=>
    cases fl₂ with
    |ret r=>
     obtain⟨rfl,h',tk,rfl,ld,av⟩:=hr₂
     repeat (any_goals (first|assumption|wp_step))
     exact h _ _ ld av
    |_=>exact hr₂.elim
 |_=>exact hr.elim
end
theorem slot_next:Slot "set_iterator" "__next__" "set_iterator.__next__" :=
 .of (owner:="set_iterator") (n:="__next__") (by kernel_rfl) (by decide +kernel) (by decide +kernel) (by decide +kernel)
  (by first|exact .inl (by decide +kernel)|exact .inr (by decide +kernel)) (by kernel_rfl)
theorem kwp:Slot "set_iterator" "__iter__" "set_iterator.__iter__" :=
 .of (owner:="set_iterator") (n:="__iter__") (by kernel_rfl) (by decide +kernel) (by decide +kernel) (by decide +kernel)
  (by first|exact .inl (by decide +kernel)|exact .inr (by decide +kernel)) (by kernel_rfl)
theorem jwr:entryFor table "set_iterator.__next__"=some Builtin.«set_iterator.__next__»:=entryFor_of_tree (by kernel_rfl)
theorem qw2:entryFor table "set_iterator.__iter__"=some Builtin.«dict_keyiterator.__iter__»:=entryFor_alias (id':="dict_keyiterator.__iter__") (by kernel_rfl) rfl (by decide +kernel) (by kernel_rfl)
theorem qw3:entryFor table "set.__iter__"=some Builtin.«frozenset.__iter__»:=entryFor_alias (id':="frozenset.__iter__") (by kernel_rfl) rfl (by decide +kernel) (by kernel_rfl)
theorem jxw(a):argsOk "set_iterator.__next__" #[[a],[]]:=by kernel_rfl
theorem vql(a):argsOk "set_iterator.__iter__" #[[a],[]]:=by kernel_rfl
theorem vqm(a):argsOk "set.__iter__" #[[a],[]]:=by kernel_rfl
section
variable {prog:Program}{w:World}{A:Around}{E:VP9}{s:Shared}
theorem xjy{src n Q}(hn:n≠0)(h:∀i d,i<n->Q i {s with drawn:=d}):wpAny (model prog w) A (choose src n) Q E s:=
 λ_ _ _=>#[hn,h _ _ (Nat.mod_lt _ (Nat.pos_of_ne_zero hn))]
theorem Vk{α:Type}:∀{l:List α} {i} (h),(l[i]::l.eraseIdx i).Perm l
 |a::l,0,h=>List.Perm.refl _
 |a::l,i+1,h=>by
  exact(List.Perm.swap a _ _).trans ((Vk (Nat.lt_of_succ_lt_succ h)).cons a)
theorem drawn{α}:∀n xs s {Q:List α->Shared->Prop},xs.length=n->(∀ys d,ys.Perm xs->Q ys {s with drawn:=d})->wpAny (model prog w) A (drawOrder n xs) Q E s
 | 0,xs,s,Q,hl,h=>by
  cases xs with|nil=>exact X6 (h [] s.drawn (.refl _))|cons=>cases hl
 | n+1,xs,s,Q,hl,h=>by
  cases xs with
  |nil=>cases hl
  |cons x xs=>
   unfold drawOrder;refine X0 (xjy (by simp) λi d hi=>?_);rw[X1 hi];exact X0 (drawn n _ _ (by rw[List.length_eraseIdx,Xd hi];exact Nat.succ.inj hl) λys d' hp=>(X6 (h _ d' ((hp.cons _).trans (Vk hi)))))
theorem qzn{α}(f):∀n k (l) (out:Array α),l.length=n->(pickOrder.go f n k l out).toList.Perm (out.toList++l)
 |0,k,l,out,hl=>by
  cases l with|nil=>unfold pickOrder.go;simp|cons=>cases hl
 |n+1,k,l,out,hl=>by
  have hi:f k % l.length<l.length:=Nat.mod_lt _ ⋯;unfold pickOrder.go;rw[X1 hi];refine(qzn f n _ _ _ (by rw[List.length_eraseIdx,Xd hi];lia)).trans ?_;rw[Array.toList_push,Xq];exact(List.Perm.refl _).append (Vk hi)
theorem kx5{α} f (xs:Array α):(pickOrder f xs).toList.Perm xs.toList:=by
 exact qzn f _ 0 _ (List.toArray []) (by simp)
end
section
variable {prog:Program}{w:World}{A:Around}{E:VP9}{s:Shared}
def It(h:Heap)(I a:Addr)(f:Value)(i n ep:Nat):Prop:=∃o,h.get? I=some o/\o.cls=.type "set_iterator"/\o.data=.fields (List.toArray [f,.int i 0,.ref a,.int n 0,.int ep 0])
theorem It.at'{h h':Heap}{I a:Addr}{f:Value}{i n ep:Nat}(x:It h I a f i n ep)(e:∀o,h.get? I=some o->h'.get? I=some o):It h' I a f i n ep:=by
 obtain⟨o,ho,r⟩:=x;exact#[o,e _ ho,r]
def Stn(h:Heap)(a:Addr)(n ep:Nat):Prop:=∃o es t,h.get? a=some o/\o.data=.set es ep t/\t.fits es.size=true/\es.size=n
theorem qxj{I a:Addr}{f:Value}{i n ep:Nat}{Q:VP9}(fq:It s.heap I a f i n ep)(h:Q (.ref I) s):wpAny (model prog w) A (pyIter (.ref I)) Q E s:=by
 obtain⟨o,ho,hc,hd⟩:=fq;have hT:s.TypeIs (.ref I) "set_iterator":=#[o,ho,hc];refine wpAny_pyIter_slot hT kwp (Y3 kwp hT qw2 ?_ (vql _));exact X6 #[_,rfl,"set_iterator",_,hT,slot_next.lookup,h]
theorem xj7{I a:Addr}{sl nx i n ep:Nat}{v:Value}{Q:Option Value->Shared->Prop}(fq:It s.heap I a (.int sl 0) i n ep)(hs:Stn s.heap a n ep)
  (hN:∀(A':Around) (E':VP9) (R:Option (Value×Nat)->Shared->Prop),R (some (v,nx)) s->wpAny (model prog w) A' (setNext a sl i ep) R E' s)
  (hQ:∀h',It h' I a (.int nx 0) (i+1) n ep->Heap.SameBut I s.heap h'->Q (some v) {s with heap:=h' }):wpAny (model prog w) A (pyNext (.ref I)) Q E s:=by
 obtain⟨o,ho,hc,hd⟩:=fq;obtain⟨os,es,t,jt,bj,hf,hn⟩:=hs;have hT:s.TypeIs (.ref I) "set_iterator":=#[o,ho,hc];refine X0 (wpAny_attempt (Yg hT slot_next (Y3 slot_next hT jwr ?_ (jxw _))));show wpAny _ _ (fieldsOf _ >>= _) _ _ s;refine X0 (wpAny_fieldsOf ho hd ?_);refine X0 (wpAny_setEntries_of jt bj hf ?_);rw[Xi (by rw[hn];simp)];show wpAny _ _ _ _ _ s;refine X0 (hN _ _ _ ?_);refine X0 (Yr ho hd (by simp) ?_);have sj:=Z9 hd (·.setIfInBounds 0 (rawInt nx));have lg:=Xz _ ho (Zc sj);refine X0 (Yr lg sj (by simp) (X6 #[v,rfl,X6 (hQ _ ?_ ((Yc ..).trans (Yc ..)))]));have ji:=Z9 sj (·.setIfInBounds 1 (rawInt (i+1)));refine#[_,Xz _ lg (Zc ji),(Obj.cls_mapFields ..).trans ((Obj.cls_mapFields ..).trans hc),?_];rw[ji];simp[rawInt]
theorem xj6{I a T:Addr}{i n ep:Nat}{v:Value}{pl:List Nat}{p:Nat}{Q:Option Value->Shared->Prop}(fq:It s.heap I a (.ref T) i n ep)(hs:Stn s.heap a n ep)(ur:∃o k,s.heap.get? T=some o/\o.data=.seq (pl.map λ(j:Nat)=>rawInt j).toArray k)
  (hp:pl[i]?=some p)
  (hN:∀(A':Around) (E':VP9) (R:VP9),R v s->wpAny (model prog w) A' (setNextDrawn a p ep) R E' s)
  (hQ:∀h',It h' I a (.ref T) (i+1) n ep->Heap.SameBut I s.heap h'->Q (some v) {s with heap:=h' }):wpAny (model prog w) A (pyNext (.ref I)) Q E s:=by
 obtain⟨o,ho,hc,hd⟩:=fq;obtain⟨os,es,t,jt,bj,hf,hn⟩:=hs;obtain⟨oT,kT,hoT,rf⟩:=ur;have hT:s.TypeIs (.ref I) "set_iterator":=#[o,ho,hc];refine X0 (wpAny_attempt (Yg hT slot_next (Y3 slot_next hT jwr ?_ (jxw _))));show wpAny _ _ (fieldsOf _ >>= _) _ _ s;refine X0 (wpAny_fieldsOf ho hd ?_);refine X0 (wpAny_setEntries_of jt bj hf ?_);rw[Xi (by rw[hn];simp)];refine X0 (Zk hoT rf ?_);have hg:(pl.map λ(j:Nat)=>rawInt j).toArray[((i:Int)).toNat]?=some (.int p 0):=by
  rw[Y2,List.getElem?_toArray,Xg,hp];rfl
 dsimp only;rw[hg];show wpAny _ _ _ _ _ s;refine X0 (hN _ _ _ ?_);have ji:=Z9 hd (·.setIfInBounds 1 (rawInt (i+1)));refine X0 (Yr ho hd (by simp) (X6 #[v,rfl,X6 (hQ _ ?_ (Yc ..))]));refine#[_,Xz _ ho (Zc ji),(Obj.cls_mapFields ..).trans hc,?_];rw[ji];simp[rawInt]
theorem xw7{I a:Addr}{sl i n ep:Nat}{Q:Option Value->Shared->Prop}(hh:A.handled=none)(fq:It s.heap I a (.int sl 0) i n ep)(hs:Stn s.heap a n ep)
  (hN:∀(A':Around) (E':VP9) (R:Option (Value×Nat)->Shared->Prop),R none s->wpAny (model prog w) A' (setNext a sl i ep) R E' s)
  (hQ:∀h',Heap.ExtBut I s.heap h'->Q none {s with heap:=h' }):wpAny (model prog w) A (pyNext (.ref I)) Q E s:=by
 obtain⟨o,ho,hc,hd⟩:=fq;obtain⟨os,es,t,jt,bj,hf,hn⟩:=hs;have hT:s.TypeIs (.ref I) "set_iterator":=#[o,ho,hc];refine X0 (wpAny_attempt (Yg (name:=Str.ofString "__next__") hT slot_next (Y3 slot_next hT jwr ?_ (jxw _))));show wpAny _ _ (fieldsOf (.ref I) >>= _) _ _ s;refine X0 (wpAny_fieldsOf ho hd ?_);refine X0 (wpAny_setEntries_of jt bj hf ?_);rw[Xi (by rw[hn];simp)];show wpAny _ _ (setNext a ((sl:Int)).toNat ((i:Int)).toNat ((ep:Int)).toNat >>= _) _ _ s;refine X0 (hN _ _ _ ?_);refine X0 (Yr ho hd (by simp) ?_);refine X0 ?_;refine X0 (m:=firstArgMember _ _) (wpAny_of_eq (a:=Value.none) (by first|rfl|(simp only[firstArgMember])) ?_);refine Yd ?_ (by size_fits);refine X0 (wpAny_handled ?_);rw[show A.in1.handled=none from hh];refine X0 (X6 (wpAny_throw ?_));refine X0 (wpAny_isInstance (T:="StopIteration") (b:=true) #[_,X9 _ rfl,rfl] isSubtype_stop ?_);exact X6 (hQ _ (((Yc ..).extBut.push _).push _))
theorem xw6{I a T:Addr}{i n ep:Nat}{pl:List Nat}{Q:Option Value->Shared->Prop}(hh:A.handled=none)(fq:It s.heap I a (.ref T) i n ep)(hs:Stn s.heap a n ep)(ur:∃o k,s.heap.get? T=some o/\o.data=.seq (pl.map λ(j:Nat)=>rawInt j).toArray k)
  (hp:pl[i]?=none) (hQ:∀h',Heap.ExtBut I s.heap h'->Q none {s with heap:=h' }):wpAny (model prog w) A (pyNext (.ref I)) Q E s:=by
 obtain⟨o,ho,hc,hd⟩:=fq;obtain⟨os,es,t,jt,bj,hf,hn⟩:=hs;obtain⟨oT,kT,hoT,rf⟩:=ur;have hT:s.TypeIs (.ref I) "set_iterator":=#[o,ho,hc];refine X0 (wpAny_attempt (Yg (name:=Str.ofString "__next__") hT slot_next (Y3 slot_next hT jwr ?_ (jxw _))));show wpAny _ _ (fieldsOf (.ref I) >>= _) _ _ s;refine X0 (wpAny_fieldsOf ho hd ?_);refine X0 (wpAny_setEntries_of jt bj hf ?_);rw[Xi (by rw[hn];simp)];refine X0 (Zk hoT rf ?_);have hg:(pl.map λ(j:Nat)=>rawInt j).toArray[((i:Int)).toNat]?=none:=by
  rw[Y2,List.getElem?_toArray,Xg,hp];rfl
 dsimp only;rw[hg];have sj:=Z9 hd (·.setIfInBounds 0 (rawInt 0));have lg:=Xz (Obj.mapFields (·.setIfInBounds 0 (rawInt 0))) ho (Zc sj);refine X0 (Yr ho hd (by simp) ?_);refine X0 (Yr lg sj (by simp) ?_);refine X0 ?_;simp;refine X0 (m:=firstArgMember _ _) (wpAny_of_eq (a:=Value.none) (by first|rfl|(simp only[firstArgMember];rfl)) ?_);refine Yd ?_ (by size_fits);refine X0 (wpAny_handled ?_);rw[show A.in1.handled=none from hh];refine X0 (X6 (wpAny_throw ?_));refine X0 (wpAny_isInstance (T:="StopIteration") (b:=true) #[_,X9 _ rfl,rfl] isSubtype_stop ?_);exact X6 (hQ _ ((((Yc ..).trans (Yc ..)).extBut.push _).push _))
end
section
variable {prog:Program}{w:World}{A:Around}{E:VP9}{s:Shared}
theorem qwm(hh:A.handled=none)(I a)(br:a≠I){o es ep t}(hd:o.data=.set es ep t)(hf:t.fits es.size=true){de:List Value}(hl:de.length=es.size)(sl:Nat->Nat)
  (hN:∀i (s) (A') (E') (R),s.heap.get? a=some o->i<=es.size->R (de[i]?.map λv=>(v,sl (i+1))) s->wpAny (model prog w) A' (setNext a (sl i) i ep) R E' s):
  Walks prog w A I [I,a] [I] es.size (λi v=>de[i]?=some v) (λi h=>It h I a (.int (sl i) 0) i es.size ep/\h.get? a=some o) where
 sub:=λb hb=>by simp at hb;simp[hb]
 frame:=λ_ _ _ st hk=>#[st.1.at' λo e=>hk I (by simp) o e,hk a (by simp) _ st.2]
 item:=λi s Q E hi st hQ=>by
  have hv:de[i]?=some (de[i]'⋯):=X1 _;exact xj7 st.1 #[o,es,t,st.2,hd,hf,rfl] (λA' E' R hR=>hN i s A' E' R st.2 (Nat.le_of_lt hi) (hv▸hR)) λh' px lb=>(hQ _ h' s.toks hv #[px,(lb.extBut a o br st.2)] λb o hb e=>lb.extBut b o (λh=>hb (by simp[h])) e)
 done:=λs Q E st hQ=>by
  refine xw7 hh st.1 #[o,es,t,st.2,hd,hf,rfl] (λA' E' R hR=>hN es.size s A' E' R st.2 (Xa _) (by rw[Y0 ⋯];exact hR)) λh' he=>?_
  exact hQ h' s.toks λb o hb e=>he b o (λh=>hb (by simp[h])) e
 self:=λ_ _ _ _ st hQ=>qxj st.1 hQ
theorem wjd(hh:A.handled=none)(I a T)(br:a≠I)(hneT:T≠I){o oT es ep k t}(hd:o.data=.set es ep t)(hf:t.fits es.size=true){pl:List Nat}(hp:pl.Perm (List.range es.size))(rf:oT.data=.seq (pl.map λ(j:Nat)=>rawInt j).toArray k):
  Walks prog w A I [I,a,T] [I] es.size (λi v=>(pl.map λj=>(es.getD j (0,.none)).2)[i]?=some v) (λi h=>It h I a (.ref T) i es.size ep/\h.get? a=some o/\h.get? T=some oT) where
 sub:=λb hb=>by simp at hb;simp[hb]
 frame:=λ_ _ _ st hk=>#[st.1.at' λo e=>hk I (by simp) o e,hk a (by simp) _ st.2.1,hk T (by simp) _ st.2.2]
 item:=λi s Q E hi st hQ=>by
  have ai:pl.length=es.size:=by rw[hp.length_eq,Y8]
  have hv:pl[i]?=some (pl[i]'⋯):=X1 _;have cz:pl[i]'⋯<es.size:=List.mem_range.mp (hp.mem_iff.mp (Xn _));refine xj6 (v:=(es.getD (pl[i]'⋯) (0,.none)).2) st.1 #[o,es,t,st.2.1,hd,hf,rfl] #[oT,k,st.2.2,rf] hv (λA' E' R hR=>?_) λh' px lb=>?_
  ·refine X0 (Zg st.2.1 hd hf ?_);dsimp only;rw[Xi (by simp),Yz cz];refine X6 ?_;rw[Array.getD_eq_getD_getElem?,Yz cz]at hR;exact hR
  ·exact hQ _ h' s.toks (by rw[Xg,hv];rfl) #[px,(lb.extBut a o br st.2.1),(lb.extBut T oT hneT st.2.2)] λb o hb e=>lb.extBut b o (λh=>hb (by simp[h])) e
 done:=λs Q E st hQ=>by
  have ai:pl.length=es.size:=by rw[hp.length_eq,Y8]
  refine xw6 hh st.1 #[o,es,t,st.2.1,hd,hf,rfl] #[oT,k,st.2.2,rf] (Y0 ⋯) λh' he=>?_
  exact hQ h' s.toks λb o hb e=>he b o (λh=>hb (by simp[h])) e
 self:=λ_ _ _ _ st hQ=>qxj st.1 hQ
theorem vj1(pc:tx w=true){a o es ep t}(hd:o.data=.set es ep t)(hf:t.fits es.size=true):
  ∀i s (A') (E') R,s.heap.get? a=some o->i<=es.size->R (((pickOrder (w.params.setOrder a ep) es).toList.map (·.2))[i]?.map λv=>(v,0)) s->wpAny (model prog w) A' (setNext a 0 i ep) R E' s:=by
 intro i s A' E' R ho hi hR;refine X0 (Zg ho hd hf ?_);show wpAny _ _ (if tx w=true then _ else _) _ _ _;rw[Xd pc,Xi (by simp)];refine X0 (X0 (Zg ho hd hf ?_));show wpAny _ _ (if tx w=true then _ else _) _ _ _;rw[Xd pc];refine X0 (wpAny_askSetting (X6 (X6 ?_)));rw[Xg,Yp,Option.map_map]at hR;exact hR
end
section
variable {prog:Program}{w:World}{A:Around}{E:VP9}{s:Shared}
theorem vkh{t:SetTable}{n}(h:t.fits n=true):t.place.size=n:=by
 simp only[SetTable.fits,Bool.and_eq_true,beq_iff_eq]at h;exact h.1
def sl1(t:SetTable)(i:Nat):Nat:=if i=0 then 0 else t.place.getD 0 0+1
theorem vwd(pc:tx w=false){a o es ep t}(hk:Ok prog w o es ep t)(h1:es.size<=1):
  ∀ i s (A') (E') R,s.heap.get? a=some o->i<=es.size->R ((es.toList.map (·.2))[i]?.map λv=>(v,sl1 t (i+1))) s->wpAny (model prog w) A' (setNext a (sl1 t i) i ep) R E' s:=by
 intro i s A' E' R ho hi hR;have hsz:=vkh hk.f;refine X0 (Zg ho hk.d hk.f ?_);show wpAny _ _ (if tx w=true then _ else _) _ _ _;rw [Xi ⋯];show wpAny _ _ (if(!t.plain&&decide _)=true then _ else _) _ _ _;rw [Xi ⋯];show wpAny _ _ ((if _=true then _ else pure ()) >>= _) _ _ _;rw [Xi (by rw[hk.led,pc];simp)];refine X6 ?_;obtain⟨es⟩:=es;obtain⟨mask,⟨pl⟩,du,fi,le,mo,pln⟩:=t;cases es with
 | nil=>
  cases pl with
  | nil=>
   exact hR
  | cons=>cases hsz
 | cons e es=>
  cases es with
  | cons=>exact absurd h1 (by simp)
  | nil=>
   cases pl with
   | nil=>cases hsz
   | cons p pl=>
    cases pl with
    | cons=>cases hsz
    | nil=>
     have n6:SetTable.below (List.toArray [p]) (p+1)=1:=by
      show SetTable.below.go (List.toArray [p]) _ 1 0 1=1;unfold SetTable.below.go;rw[Xd (by simp),Xd (by simp)];rfl
     rcases(show i=0\/i=1 by have:i<=1:=hi;lia)with rfl|rfl
     ·exact hR
     ·show R (match ((List.toArray [e]):Array _)[SetTable.below (List.toArray [p]) (p+1)]?,_[SetTable.below (List.toArray [p]) _]? with|some (_,x),some j=>some (x,j+1)|_,_=>none) s
      rwa [n6]
theorem qwq{es:Array (Int×Value)}{pl:List Nat}(hp:pl.Perm (List.range es.size)):(pl.map λj=>(es.getD j (0,.none)).2).Perm (es.toList.map (·.2)):=by
 refine(hp.map _).trans (.of_eq ?_);apply List.ext_getElem
 ·simp
 ·intro i h1 h2;simp at h1;simp[h1]
end
section
variable {prog:Program}{w:World}{A:Around}{E:VP9}{s:Shared}
theorem vx3{a o es ep t}(ho:s.heap.get? a=some o)(hk:Ok prog w o es ep t){Q}(h:Q (!tx w&&(!t.plain&&decide (es.size>1))) s):wpAny (model prog w) A (setDrawn a) Q E s:=by
 exact X0 (Zg ho hk.d hk.f (X0 (X0 (wpAny_askSetting (X6 (X6 h))))))
theorem wqd{a o es ep t Q}(ho:s.heap.get? a=some o)(hk:Ok prog w o es ep t)
  (h:∀h' (d) (I:Addr) (fp) (de:List Value) (St),(∀b o,s.heap.get? b=some o->h'.get? b=some o)->s.heap.objs.size<=I->(∀b∈fp,b=a\/s.heap.objs.size<=b) ->
   (∀A',A'.handled=none->Walks prog w A' I fp [I] es.size (λi v=>de[i]?=some v) St)->St 0 h'->de.Perm (es.toList.map (·.2))->Q (.ref I) {s with heap:=h',drawn:=d}):wpAny (model prog w) A (pyIter (.ref a)) Q E s:=by
 have hT:s.TypeIs (.ref a) "set":=#[o,ho,hk.ex.1];have la:=Xe ho;refine wpAny_pyIter_slot hT F.slot_set_iter (Y3 F.slot_set_iter hT qw3 ?_ (vqm _));unfold Builtin.«frozenset.__iter__» Builtin.Frozenset.slot0 slotArgs;simp only[List.isEmpty_nil,Bool.not_true,Bool.false_eq_true,↓reduceIte,bind_assoc,List.length_nil,bne_self_eq_false];refine X0 (X6 (X0 (X6 (X0 (X0 (wpAny_setEntries_of ho hk.d hk.f (X6 (X0 (vx3 ho hk ?_)))))))))
 by_cases hdr:(!tx w&&(!t.plain&&decide (es.size>1)))=true
 ·rw[Xd hdr];refine X0 (drawn es.size _ s (by simp) λpl d hp=>(X0 (wpAny_newTuple (X0 (wpAny_setEpoch_of (X2 _ ho) hk.d hk.f ?_)) (hsz:=by rw[X3,hp.length_eq,Y8];exact fits_of_scanBound hk.b))));refine X0 (Yd (X6 #[_,rfl,"set_iterator",_,#[_,X9 _ rfl,rfl],slot_next.lookup,?_]));have hsz:(s.heap.push (seqObj "tuple" (pl.map λ(i:Nat)=>rawInt i).toArray 0)).objs.size=s.heap.objs.size+1:=Z8 ..;refine h _ d _ [_,a,s.heap.objs.size] (pl.map λj=>(es.getD j (0,.none)).2) _ (λb o e=>X2 _ (X2 _ e)) (hsz▸Nat.le_succ _) (λb hb=>?_)
   (λA' hh=>wjd hh _ a s.heap.objs.size (by rw[hsz];exact Xk (Z2 la)) (by rw[hsz];exact Xk (Nat.lt_succ_self _)) (o:=o) (oT:=seqObj "tuple" (pl.map λ(i:Nat)=>rawInt i).toArray 0) hk.d hk.f hp rfl)
   #[#[_,X9 _ rfl,rfl,rfl],X2 _ (X2 _ ho),X2 _ (X9 _ rfl)] (qwq hp)
  rcases aD hb with rfl|hb
  ·exact .inr (hsz▸Nat.le_succ _)
  rcases aD hb with rfl|hb
  ·exact .inl rfl
  ·rw[aC hb];exact .inr (Xa _)
 ·rw[Xi hdr];refine X0 (X6 (X0 (wpAny_setEpoch_of ho hk.d hk.f (X0 (Yd (X6 #[_,rfl,"set_iterator",_,#[_,X9 _ rfl,rfl],slot_next.lookup,?_]))))));have hfp:∀b∈[s.heap.objs.size,a],b=a\/s.heap.objs.size<=b:=λb hb=>by
   rcases aD hb with rfl|hb
   ·exact .inr (Xa _)
   ·exact .inl (aC hb)
  cases pc:tx w with
  | true=>
   refine h _ s.drawn _ [_,a] ((pickOrder (w.params.setOrder a ep) es).toList.map (·.2)) _ (λb o e=>X2 _ e) (Xa _) hfp
    (λA' hh=>qwm hh _ a (Xk la) (o:=o) hk.d hk.f (by rw[X3,(kx5 _ es).length_eq,Y5]) (λ_=>0) (vj1 pc hk.d hk.f))
    #[#[_,X9 _ rfl,rfl,rfl],X2 _ ho] ((kx5 _ es).map _)
  | false=>
   have h1:es.size<=1:=by
    rcases hk.pl with hp|hp
    ·grind
    ·lia
   refine h _ s.drawn _ [_,a] (es.toList.map (·.2)) _ (λb o e=>X2 _ e) (Xa _) hfp
    (λA' hh=>qwm hh _ a (Xk la) (o:=o) hk.d hk.f (by simp) (sl1 t) (vwd pc hk h1))
    #[#[_,X9 _ rfl,rfl,rfl],X2 _ ho] (.refl _)
theorem wqh{a Q}(hT:s.TypeIs (.ref a) "set")(h:Q false s):wpAny (model prog w) A (Builtin.List.listLengthHint (.ref a)) Q E s:=by
 refine X0 (Yy hT F.slot_set_len.lookup ?_);generalize ny:_=id0
 wp_delta
 subst ny;refine X0 (wpAny_isInstance hT sub_set_self ?_);refine wpAny_ite_split (λva=>absurd va ⋯) (λ_=>?_);refine X0 (wpAny_typeOf hT ?_);exact X6 h
theorem qx3:∀{vs},(∀v∈vs,∃x t,v=Value.str x t)->StrsAre vs (vs.map strOf)
 |[],_=>.nil
 |v::vs,h=>by
  obtain⟨x,t,rfl⟩:=h v X5;exact .cons x t (qx3 λv hv=>h v (lc9 _ hv))
theorem qw4{a ls Q}(hh:A.handled=none)(hS:Has prog w s.heap a ls)
  (h:∀h' (d) (tk) (vs) (ss),(∀b o,s.heap.get? b=some o->h'.get? b=some o)->s.heap.objs.size<h'.objs.size->StrsAre vs ss->ss.Perm ls->Q vs {s with heap:=h',drawn:=d,toks:=tk}):
  wpAny (model prog w) A (collect (.ref a)) Q E s:=by
 obtain⟨o,es,ep,t,ho,hk,hp⟩:=hS;have la:a<s.heap.objs.size:=Xe ho;unfold collect;refine X0 (wpAny_runValue (Z4 F.entry_proto_collect ?_));rw[Around.under_plainId F.plain_proto_collect _];show wpAny _ A.in1 (newList [] >>= λl=>again (.builtin "list.__iadd__" #[[l,.ref a],[]])) _ _ s;refine X0 (Yd (X6 #[plainId_quiet F.plain_list_iadd _,Z4 F.entry_list_iadd ?_]));rw[Around.under_plainId F.plain_list_iadd _];have lg:(s.heap.push {cls:=.type "list",data:=.seq ([]:List Value).toArray}).get? a=some o:=X2 _ ho;have hT1:Shared.TypeIs {s with heap:=s.heap.push {cls:=.type "list",data:=.seq ([]:List Value).toArray}} (.ref a) "set":=#[o,lg,hk.ex.1];show wpAny _ A.in1 (Builtin.List.listExtendWith (.ref s.heap.objs.size) (.ref a) (.ref s.heap.objs.size)) _ _ _;unfold Builtin.List.listExtendWith;refine X0 (wpAny_typeOf hT1 ?_);have h1:Builtin.List.listSameRef (.ref s.heap.objs.size) (.ref a)=false:=by simp[Builtin.List.listSameRef];exact Zl la
 have h2:(Value.type "set" == Value.type "list")=false:=⋯
 have h3:(Value.type "set" == Value.type "tuple")=false:=⋯
 simp only[h1,h2,h3,Bool.or_false,Bool.false_eq_true,if_false];refine X0 (wqd lg hk λh' d I fp de St eh hI hfp W st0 hv=>(X0 (Ya (wqh #[o,eh _ _ lg,hk.ex.1] ?_))));show wpAny _ A.in1 (PySem.rule "list.extend.makes-room" >>= λ_=>Builtin.List.listTouch (.ref s.heap.objs.size) >>= λ_=>
  again (.builtin "list.extend.loop" #[[.ref s.heap.objs.size,.ref I,.ref s.heap.objs.size],[]])) _ _ _
 refine X0 (Zm ?_);have hsz:(s.heap.push {cls:=.type "list",data:=.seq ([]:List Value).toArray}).objs.size=s.heap.objs.size+1:=Z8 ..;have hI':s.heap.objs.size+1<=I:=by rw[<-hsz];exact hI
 have nz:s.heap.objs.size∉fp:=λhm=>by
  rcases hfp _ hm with e|e
  ·exact absurd e (Zl la)
  ·grind
 have hS₁:h'.get? s.heap.objs.size=some {cls:=.type "list",data:=.seq ([]:List Value).toArray}:=eh _ _ (X9 _ rfl);refine X0 ?_;show wpAny _ A.in1 (updateSeq s.heap.objs.size (·.push .none) >>= λ_=>updateSeq s.heap.objs.size (·.pop)) _ _ _;refine X0 (wpAny_updateSeq hS₁ rfl ?_);have hS₂:=Xz (Obj.mapSeq (·.push Value.none)) hS₁ rfl;refine wpAny_updateSeq hS₂ rfl ?_;have oth:∀b o,b≠s.heap.objs.size->h'.get? b=some o->((h'.update s.heap.objs.size (Obj.mapSeq (·.push Value.none))).update s.heap.objs.size (Obj.mapSeq (·.pop))).get? b=some o:=
  λb o hb e=>(Z6 _ _ (Ne.symm hb)).trans ((Z6 _ _ (Ne.symm hb)).trans e)
 have WW:=W A.in1 hh;have ai:de.length=es.size:=by rw[hv.length_eq,X3,Y5]
 refine X6 #[plainId_quiet F.plain_extend_loop _,codeAny_extend_loopS WW.toS (fits_of_scanBound hk.b) _ nz _ es.size 0 _ _ _ rfl (Y6 _) (WW.frame 0 h' _ st0 λb hb o e=>oth b o (λe'=>nz (e'▸hb)) e) (Xz (Obj.mapSeq (·.pop)) hS₂ rfl) (ItemsOf.nil _) λs' f9 c' hm ld az=>?_];show wpAny _ A (load s.heap.objs.size >>= _) _ _ s';refine X0 (wpAny_load ld ?_);have hac:f9.toList=de:=by
  apply List.ext_getElem?;intro j
  by_cases hj:j<es.size
  ·have hj1:j<f9.size:=by rw[az.1];exact hj
   rw[Yp,Yz hj1];exact(az.2 j _ (Yz hj1)).symm
  ·rw[Y0 (by rw[Y5,az.1];lia),Y0 ⋯]
 refine X6 ?_;rw[hac,Moved.eq_with hm];refine h _ d _ de (de.map strOf) (λb o e=>?_) (Xe ld) ?_ ?_
 ·have hb:b<s.heap.objs.size:=Xe e;have hbS:b≠s.heap.objs.size:=Xk hb;refine hm.heap b o (λhmem=>?_) (oth b o hbS (eh b o (X2 _ e)));rcases aD hmem with e'|hmem
  ·exact hbS e'
  ·rw[aC hmem]at hb;exact absurd hb (Nat.not_lt.mpr (Nat.le_of_succ_le hI'))
 ·exact qx3 λv hvm=>by
   obtain⟨e,he,rfl⟩:=aE (hv.mem_iff.mp hvm);exact vzx hk.el he
 ·refine((hv.map strOf).trans (.of_eq ?_)).trans hp;rw[Xj];rfl
end
section
variable {prog:Program}{w:World}{A:Around}{E:VP9}{s:Shared}
theorem qvc{a ls Q}(hh:A.handled=none)(hS:Has prog w s.heap a ls)(h64:ls.length<64)
  (h:∀h' d (tk l e) out ss,(∀b o,s.heap.get? b=some o->h'.get? b=some o)->s.heap.objs.size<=l->h'.get? l=some (seqObj "list" out e)->StrsAre out.toList ss->ss.Perm ls->sortedS ss=true->Q (.ref l) {s with heap:=h',drawn:=d,toks:=tk}):
  wpAny (model prog w) A (call (.builtin "sorted") [.ref a]) Q E s:=by
 refine Calls.call_function_entry kind_sorted plain_sorted entry_sorted (args_sorted1 _) ?_;refine X0 (X6 ?_);refine X0 (qw4 (by simpa using hh) hS λh' d tk vs ss eh hsz hv hp=>?_);have h64':vs.length<64:=by rw[kqz hv,hp.length_eq];exact h64
 refine X0 (wpAny_newList ?_ (hsz:=by rw[sizeLine_eq];lia));have ux:(h'.push _).get? h'.objs.size=some (seqObj "list" vs.toArray 0):=X9 _ rfl;refine X0 (Ya (Y3 slot_list_sort #[_,ux,rfl] entry_list_sort (list_sort_treeK strKind_oneLt ux hv.keysOf (λv₁ v₂ ab e=>keyKind_strs (by rw[<-e];exact hv)) h64' λgi a1 a2=>#[_,rfl,?_]) (args_list_sort _)));obtain⟨ss',h1,h2,h3⟩:=sorted_out_str hv a1 a2;obtain⟨e,he⟩:=sortedHeap_at ux;refine X6 #[_,rfl,h _ d tk _ e _ ss' (λb o q=>?_) (Nat.le_of_lt hsz) he h1 (h2.trans hp) h3];have hb:=Xe (eh b o q);rw[sortedHeap_old (Xk hb) (by rw[size_push'];exact Z2 hb)];exact X2 _ (eh b o q)
end
end Sw
namespace Q
open PySem PySem.Spec PyProof.Rows L2 L3 Sw
section
variable {X:Cx}{Z:Fx0}{K:Frag}{q:Bool}{a:Ex}{e ea:Expr}{σ:L2.St}{H:Hp}{pos p p2 bp:Pos}{x y:Str}{a8:LA9}{s:Shared}
theorem Inv.dr{d}(I:L2.Inv X a8 σ H s):L2.Inv X a8 σ H {s with drawn:=d}:=#[I.ok,I.os,I.bare,I.base,I.loc,I.cell,I.free,I.freeC,I.pin,I.hok,I.len]
def xxg(X:Cx)(f:Value)(r:List Str->Hp->VK->Prop):Prop:=
 ∀(a8:LA9) (s:Shared) (σ:L2.St) (H:Hp) (b:Addr) (ls:List Str) (Q:VK),L2.Inv X a8 σ H s->Has X.prog X.w s.heap b ls->r ls H Q->wpAny (model X.prog X.w) X.A (call f [.ref b]) (EP X a8 σ Q) X.xe s
def xqw(K:Frag)(r:List Str->Hp->VK->Prop):List V->Hp->VK->Prop:=λxs H Q=>∃p ss,xs=[.ref p]/\SqL K H p (ss.map V.str)/\ss.length<4000/\r (dd ss) H Q
theorem wkk{id r t}(hc:X.calm=true)(hf:xxg X (.builtin id) r)(hg:Gl X x)(hm:X.mg x=none)(hv:bootBuiltins x=some (.builtin id))(ud:Gl X "set")(ue:X.mg "set"=none)(hv2:bootBuiltins "set"=some (.type "set"))
  (ha:PE X e t) (hn:autoParam (x≠"__name__") ŕ) (fk:autoParam (Abd x) ŕ) (nj:autoParam (("set":Str)≠"__name__") ŕ) (hdb2:autoParam ((("set":Str)==("__debug__":Str))=false) ŕ)
  (he:autoParam (Abs e [] X) Ŕ):
  PE X (.Call (.Name x p) [.Call (.Name "set" p2) [e] [] bp] [] pos) (fun σ H Q=>t σ H λv H1=>xqw X.K r [v] H1 Q):=by
 intro a8 s σ H Q I h;refine Z0 (J6 I hg hm hv (PyProof.Rows.callWith_builtin1 ?_ rfl rfl) hn fk);show wpAny _ _ (spliced (_::[])) _ _ s;refine Calls.spliced_cons (Z0 (J6 I ud ue hv2 (Y1 (thn (vZ ha wQ he bp a8 s σ H (λvs H1=>xqw X.K r vs H1 Q) I ?_) λus s1 #[vs,H1,I1,r1,q1]=>?_) he rfl) nj hdb2))
 ·exact h
 obtain⟨b,ss,rfl,hq,hl,q⟩:=q1;obtain⟨u,rfl,rx⟩:=xv r1;cases rx;obtain⟨ac,r',pl,hz⟩:=I1.list hq;have ai:=r'.length;rw[X3]at ai hz;refine vx9 (I1.ok.hd hc) pl.isList (by simpa using qvb r') (by simp;unfold scanBound;lia) λh' tk hS eh=>?_
 have I2:L2.Inv X a8 σ H1 {s1 with heap:=h',toks:=tk}:=I1.kept λb u q=>eh b u (Xe q) q
 exact Calls.spliced_nil (hf a8 _ σ H1 _ _ Q I2 hS q)
theorem qvd(hc:X.calm=true):xxg X (.builtin "sorted") (λls H Q=>ls.length<64/\∀l,H l=none->Q (.ref l) (upd H l (.lst ((xk ls).map V.str)))):=by
 intro a8 s σ H b ls Q I hS h;refine qvc (I.ok.hd hc) hS h.1 λh' d tk l e out ss eh hl hg h1 h2 h3=>?_
 have e1:=vv9 h2 h3;subst e1;have hz:(xk ls).length<=sizeLine:=by rw[(jwn ls).length_eq,sizeLine_eq];lia
 refine#[.ref l,_,Inv.dr (I.laid (t':=tk) eh hl ?_),rfl,h.2 l (I.hok.fresh hl)];exact#[by rw[X3];exact hz,out.toList,e,qwp h1,by simpa using hg]
end
section
variable {X:Cx}{Z:Fx0}{K:Frag}{q:Bool}{a:Ex}{e ea:Expr}{σ:L2.St}{H:Hp}{pos p p2 bp:Pos}{x y:Str}{a8:LA9}{s:Shared}
theorem xju{ss z}(h:z∈ddS ss):z∈ss:=by
 have:∀(l af:List Str),z∈l.foldl (λl k=>if l.any (· == k)then l else l++[k]) af->z∈af\/z∈l:=by
  intro l
  induction l with
  | nil=>intro af h;exact .inl h
  | cons k l ih=>
   intro af h;rcases ih _ h with h|h
   ·dsimp only at h
    split at h
    ·exact .inl h
    ·rcases aA h with h|h
     ·exact .inl h
     ·exact .inr (aC h▸X5)
   ·exact .inr (lc9 _ h)
 rcases this ss [] h with h|h
 ·grind
 ·exact h
def rSS(K:Frag):List V->Hp->VK->Prop:=xqw K λls H Q=>ls.length<64/\∀l,H l=none->Q (.ref l) (upd H l (.lst ((xk ls).map V.str)))
set_option tactic.hygienic true in
theorem qwc:Ad1 K (λv H Q=>rSS K [v] H Q) ZJ:=by
 intro H x s Q ok hf k;unfold ZJ at hf;dsimp only at hf;cases hx:x.d with
 | lst ds=>
  rw[hx]at hf;dsimp only at hf;obtain⟨l,xs,bs,ev,q3,r3,_⟩:=items ok (.inl hx);have q3:LsR K H l xs:=by rcases q3 with⟨_,z⟩|⟨z,_⟩;exact z;rw[hx]at z;cases z
  cases hs:JQ ds with
  | some ss=>
   rw[hs]at hf;dsimp only at hf
   split at hf
   ·rename_i hl;cases oq9 hf;obtain⟨e1,e2⟩:=kqy hs r3;subst e1;exact#[l,ss,by rw[ev],JV q3,⋯,Nat.lt_of_le_of_lt (xjv ss) hl,λp hp=>(k _ _ rfl rfl (K6 hp (qkv λz hz=>e2 z (xju ((jwn _).mem_iff.mp hz))) λb hb=>nomatch hb))]
   ·cases hf
  |none=>rw[hs]at hf;cases hf
 |_=>rw[hx]at hf;cases hf
theorem qz7(hK:X.K=Z.K)(hc:X.calm=true)(ha:QV X Z q a ea)(hm:X.mg "sorted"=none)(ue:X.mg "set"=none)(hg:autoParam (Gl X "sorted") Ŕ)(ud:autoParam (Gl X "set") Ŕ)(he:autoParam (Abs ea [] X) Ŕ):
  QE X Z q (cF1 ZJ a) (.Call (.Name "sorted" p) [.Call (.Name "set" p2) [ea] [] bp] [] pos):=
 q9 (wkk hc (qvd hc) hg hm rfl ud ue rfl ha (he:=he)) fun σ H Q h=>by
  have:=Zz qwc h
  rwa [hK]
end
end Q
namespace Q
open PySem PySem.Spec PyProof.Rows L2 L3
section
variable {X:Cx}{Z:Fx0}{K:Frag}{H:Hp}{q g:Bool}{a:Ex}{e:Expr}{p2 pos:Pos}{x:Str}{d:D}{ds:List D}{v:V}{vs:List V}
def xwl(o:Obj)(xs:List V):Prop:=o.cls=.type "tuple"/\o.dict=none/\∃ac n,o.data=.seq ac n/\ac.size<=sizeLine/\Vals xs ac.toList
theorem vj4{b:Addr}{o:Obj}(h:K.lookup b=some o)(m:xwl o vs):SqT K H b vs:=by
 obtain⟨m1,m2,ac,n,m3,m4,m5⟩:=m;exact .inr #[o,ac,n,h,m1,m2,m3,m4,m5]
theorem wwn:RepA K H g [] [] []:=by unfold RepA;exact#[rfl,rfl]
theorem wjw(h:RepL K H g d v [])(r:RepA K H g ds vs []):RepA K H g (d::ds) (v::vs) []:=by
 unfold RepA;exact#[v,vs,[],[],rfl,rfl,h,r]
theorem xwq{b:Addr}(h:SqT K H b vs)(r:RepA K H g ds vs []):RepL K H g (.tup ds) (.ref b) []:=by
 unfold RepL;exact#[b,vs,rfl,h,r]
def xxj(K:Frag)(mg:Str->Option Value)(x:Str)(d:D):Prop:=∃v,Cst mg x v/\∀H,RepL K H false d v []
theorem q_CD(c:xxj Z.K X.mg x d)(hg:autoParam (Gl X x) Ŕ)(hd:autoParam (Abd x) ŕ):QE X Z true (cC d) (.Name x pos):=by
 obtain⟨v,c,r⟩:=c;exact q_C (VX c hg hd) r
end
end Q
namespace Q
open PySem
def YW:Sd->Option Sd:=λx=>match x.2 with
 |.lst xs=>if qV x then some (.rt,.lst xs.reverse)else none|_=>none
def xq3:D->D->Option D:=λy x=>match y with
 |.dct kvs=>if qZ x=true/\unm kvs=true/\D.pures (kvs.map (·.2))=true then xZ kvs x else none|_=>none
def ww2(a b:Ex):Ex:=λE=>bnd (a E) λE x=>bnd (b E) λE y=>val E ((xq3 x.2 y.2).map λd=>(.dp,d))
end Q
namespace PySem
section
variable {prog:Program}{w:World}{A:Around}{E:VP9}{s:Shared}
theorem wju:typeLookup (.type "list_reverseiterator") "__len__"=pure none:=am_miss_of_fast (by decide +kernel)
theorem vvg:typeLookup (.type "list_reverseiterator") "__length_hint__"=pure (some (.builtin "list_reverseiterator.__length_hint__")):=by
 rw[typeLookup_type,builtinLookup_eq_fast];have h:fastLookup "list_reverseiterator" "__length_hint__"=some (some (.builtin "list_reverseiterator.__length_hint__")):=by kernel_rfl
 simp only[h]
theorem V1{α:Type}{c:Prop}[Decidable c]{M:Model}{t e:Sem α}{Q:α->Shared->Prop}(h:¬c)(k:wpAny M A e Q E s):wpAny M A (if c then t else e) Q E s:=by rw[Xi h];exact k
theorem wqe{α:Type}{c:Prop}[Decidable c]{M:Model}{t e:Sem α}{Q:α->Shared->Prop}(h:c)(k:wpAny M A t Q E s):wpAny M A (if c then t else e) Q E s:=by rw[Xd h];exact k
theorem kkm{r l:Addr}{i:Int}{Q:Bool->Shared->Prop}(hr:s.heap.IsRevIter r l i)(h:Q false s):wpAny (model prog w) A (Builtin.List.listLengthHint (.ref r)) Q E s:=by
 have hT:=hr.typeIs;unfold Builtin.List.listLengthHint;refine X0 (Yy hT wju ?_);dsimp only;refine V1 ⋯ (V1 ⋯ (X0 (Yy hT vvg ?_)));have sp:splitId "list_reverseiterator.__length_hint__"=some ("list_reverseiterator","__length_hint__"):=by decide +kernel
 dsimp only;simp only[sp];refine X0 (wpAny_isInstance (b:=true) hT (by first|exact F.sub_lri_self|exact isSubtype_self _|rfl) ?_);exact V1 ⋯ (wqe (by decide +kernel) (V1 ⋯ (X6 h)))
theorem kwb{Q:VP9}{I l:Addr}{items:Array Value}(hh:A.handled=none)(hI:s.heap.IsRevIter I l (items.size - 1))(hl:s.heap.IsList l items)(br:l≠I)(hz:items.size<=sizeLine)
  (h:∀(h':Heap) (tk:Nat) (af:Array Value) (c:Nat),(∀b o,b≠I->s.heap.get? b=some o->h'.get? b=some o)->h'.get? s.heap.objs.size=some {cls:=.type "list",data:=.seq af c}->ItemsOf (λi v=>items[items.size - 1 - i]?=some v) af items.size->Q (.ref s.heap.objs.size) {s with heap:=h',toks:=tk}):
  wpAny (model prog w) A (call (.type "list") [.ref I]) Q E s:=by
 refine callType_codes (Q₁:=λobj s₁=>obj=Value.ref s.heap.objs.size/\s₁={s with heap:=s.heap.push {cls:=Value.type "list",data:=Data.seq (List.toArray [])}}) F.called_list (F.typeCall_list_1 _) F.entry_list_init (code_list_new _ #[rfl,rfl]) ?_;rintro obj s₁ ⟨rfl,rfl⟩;have eq:(s.heap.push {cls:=Value.type "list",data:=Data.seq (List.toArray [])}).get? s.heap.objs.size=some {cls:=Value.type "list",data:=Data.seq (List.toArray [])}:=X9 _ rfl;have hT:Shared.TypeIs {s with heap:=s.heap.push {cls:=Value.type "list",data:=Data.seq (List.toArray [])}} (.ref s.heap.objs.size) "list":=#[_,eq,rfl];have hI':(s.heap.push {cls:=Value.type "list",data:=Data.seq (List.toArray [])}).IsRevIter I l (items.size - 1):=hI.at λo e=>X2 _ e
 refine#[hT,F.args_list_init_2 _ _,?_];have hm:∃n,Obj.mapSeq (λ_=>(List.toArray [])) ({cls:=Value.type "list",data:=Data.seq (List.toArray [])}:Obj)={cls:=Value.type "list",data:=Data.seq (List.toArray []) n}:=#[_,by unfold Obj.mapSeq;rfl];obtain⟨n0,hm⟩:=hm;have qd:s.heap.objs.size≠I:=λe=>by
  obtain⟨o,ho,_⟩:=hI;exact absurd (Xe ho) (by rw[e];exact Ym _)
 have sw:s.heap.objs.size≠l:=λe=>by
  obtain⟨o,ho,_⟩:=hl;exact absurd (Xe ho) (by rw[e];exact Ym _)
 unfold Builtin.«list.__init__»;refine V1 (λz=>nomatch z) (V1 (λz=>absurd z (by simp)) (X0 (PyProof.Rows.listItems_at eq rfl (X0 (PyProof.Rows.listUpdate_at eq rfl ?_)))));have sb:=Yc (s.heap.push {cls:=Value.type "list",data:=Data.seq (List.toArray [])}) s.heap.objs.size (Obj.mapSeq (λ_=>(List.toArray [])));have hS:=Xz (Obj.mapSeq (λ_=>((List.toArray []):Array Value))) eq rfl;rw[hm]at hS;generalize (s.heap.push {cls:=Value.type "list",data:=Data.seq (List.toArray [])}).update s.heap.objs.size (Obj.mapSeq (λ_=>(List.toArray [])))=h1 at sb hS;have hI1:h1.IsRevIter I l (items.size - 1):=hI'.at λo e=>sb.extBut I o (Ne.symm qd) e
 have im:h1.IsList l items:=by
  obtain⟨o,ho,r⟩:=hl;exact#[o,sb.extBut l o (Ne.symm sw) (X2 _ ho),r]
 refine X0 (wpAny_letGo ?_);show wpAny _ _ (Builtin.List.listExtendWith (.ref s.heap.objs.size) (.ref I) .none) _ _ _;unfold Builtin.List.listExtendWith;have hT1:Shared.TypeIs {s with heap:=h1} (.ref I) "list_reverseiterator":=hI1.typeIs;refine X0 (wpAny_typeOf hT1 (V1 ?_ ?_))
 ·have e1:Builtin.List.listSameRef (.ref s.heap.objs.size) (.ref I)=false:=by
   show(s.heap.objs.size==I)=false;exact Xu qd
  rw[e1];decide
 refine X0 (wpAny_pyIter_revIter hI1 (X0 (Ya (kkm hI1 ?_))));refine V1 ⋯ ?_;have W:=(Walks.listRev (prog:=prog) (w:=w) (A:=A.in1.in1) (by simp[hh]) I l br items).toS;refine X6 #[plainId_quiet (by decide +kernel) _,?_];refine codeAny_extend_loopS (A:=A.in1) W hz s.heap.objs.size ?_ .none (items.size - 0) 0 _ (List.toArray []) n0 rfl (Y6 _) #[Y6 _,by simpa using hI1,im] hS #[rfl,λj v e=>by simp at e] λs' f9 c' sg ld az=>?_
 ·simp only[Yq,Y7,or_false,not_or];exact#[qd,sw]
 ·obtain⟨h2,g',d',oi,qr⟩:=s';have eg:g'=s.gens:=sg.gens;have ed:d'=s.drawn:=sg.drawn;have eo:qr=s.os:=sg.os;subst eg;subst ed;subst eo;refine#[rfl,h h2 oi f9 c' (λb o hb e=>?_) ld az];have cz:=Xe e;refine sg.heap b o ?_ (sb.extBut b o (Xk cz) (X2 _ e));simp only[Yq,Y7,or_false,not_or];exact#[Xk cz,hb]
end
end PySem
namespace Q
open PySem PySem.Spec PyProof.Rows L2 L3
section
variable {X:Cx}{Z:Fx0}{pn:List Nat}{q:Bool}{a b:Ex}{e ea:Expr}{p pos:Pos}
theorem wz0{ta:TE}{p2 bp:Pos}(ha:PE X ea ta)(oz:X.mg "reversed"=none)(vf:X.mg "list"=none)(hc:autoParam (X.calm=true) Ŕ)(p8:autoParam (Gl X "reversed") Ŕ)(so:autoParam (Gl X "list") Ŕ)
  (bg:autoParam (Abs ea [] X) Ŕ) (bv:autoParam (Abb bp [] X) Ŕ)
  (jf:autoParam (starEach [.Call (.Name "reversed" p2) [ea] [] bp] X.env=(false,eval (.Call (.Name "reversed" p2) [ea] [] bp) X.env)::starEach [] X.env) Ŕ) (lu:autoParam (Abb pos [] X) Ŕ):
  PE X (.Call (.Name "list" p) [.Call (.Name "reversed" p2) [ea] [] bp] [] pos) (fun σ H Q=>ta σ H λv H1=>∃l ys,[v]=[.ref l]/\SqL X.K H1 l ys/\∀pp,H1 pp=none->Q (.ref pp) (upd H1 pp (.lst ys.reverse))):=by
 intro a8 s σ H Q I h;refine Z0 (J6 I so vf V0 ?_);refine Y1 ?_ jf lu;rw[jf];show wpAny _ _ (spliced ((false,eval (.Call (.Name "reversed" p2) [ea] [] bp) X.env)::backTo pos (starEach [] X.env))) _ _ s;refine Calls.spliced_cons (thn (Q:=λu s2=>∃(H1:Hp) (I0 l:Addr) (ys:List V) (ac:List Value),u=.ref I0/\L2.Inv X a8 σ H1 s2/\wZ X a8 H1 I0/\s2.heap.IsRevIter I0 l (ac.toArray.size - 1)/\s2.heap.IsList l ac.toArray/\l≠I0/\Vals ys ac/\ys.length<=sizeLine/\∀pp,H1 pp=none->Q (.ref pp) (upd H1 pp (.lst ys.reverse))) ?_ λu s2 hu=>?_)
 ·refine Call_ (J6 I p8 oz boot_reversed (Y1 (thn (vZ ha wQ bg bp a8 s σ H (λvs H1=>∃l ys,vs=[.ref l]/\SqL X.K H1 l ys/\∀pp,H1 pp=none->Q (.ref pp) (upd H1 pp (.lst ys.reverse))) I ?_) λus s1 #[vs,H1,I1,r1,l,ys,e,hq,q1]=>?_) bg bv))
  ·exact h
  ·subst e;obtain⟨u,rfl,rx⟩:=xv r1;cases rx;obtain⟨ac,r',pl,hz⟩:=I1.list hq;refine call_reversed_list pl.isList #[H1,s1.heap.objs.size,l,ys,ac,rfl,I1.kept (t':=s1.toks) (λb o e=>X2 _ e),I1.fpOk (Xa _) (I1.hok.fresh (Xa _)),#[_,X9 _ rfl,rfl,rfl],pl.isList.push _,?_,r',hz,q1];obtain⟨o,ho,_⟩:=pl.isList;exact Xk (Xe ho)
 ·obtain⟨H1,I0,l,ys,ac,rfl,I2,f0,hri,hls,br,hv,hz,hq⟩:=hu;refine thn (Calls.spliced_nil (Q:=λus s3=>us=[]/\s3=s2) #[rfl,rfl]) ?_;rintro us s3 ⟨rfl,rfl⟩;refine kwb (I.ok.hd hc) hri hls br (by rw[X8,<-hv.length];exact hz) λh' tk af c kp e fq=>?_
  have fT:wZ X a8 H1 s3.heap.objs.size:=I2.fpOk (Xa _) (I2.hok.fresh (Xa _));have I3:L2.Inv X a8 σ H1 {s3 with heap:=h',toks:=tk}:=jxb [I0] I2 (λb o hb ee=>kp b o (λz=>hb (by rw[z];exact X5)) ee) (λb hb=>by rw[aC hb];exact f0);have hva:Vals ys.reverse af.toList:=by
   obtain⟨hs,hg⟩:=fq;have hs:af.size=ac.length:=by simpa using hs
   rw[X8]at hg;have hl:=hv.length;refine kqv (by simp[hs,hl]) λi x u ex eu=>?_
   rw[Yp]at eu;have hi:i<ac.length:=by rw[<-hs];exact(Array.getElem?_eq_some_iff.mp eu).1
   have h2:=hg i u eu;rw[List.getElem?_reverse ⋯]at ex;obtain⟨u',hu',ru'⟩:=hv.get ex;rw[List.getElem?_toArray,show ac.length - 1 - i=ys.length - 1 - i by lia,hu']at h2;cases oq9 h2;exact ru'
  have I4:=kk4 (a:=s3.heap.objs.size) (o:=.lst ys.reverse) I3 fT.1 fT.2.1 fT.2.2.2.1 fT.2.2.2.2.1 fT.2.2.2.2.2 (show ObjOk X.prog X.w _ h' _ (.lst ys.reverse)from#[by rw[List.length_reverse];exact hz,af.toList,c,hva,by simpa using e]);exact#[.ref s3.heap.objs.size,_,I4,rfl,hq _ fT.1]
theorem qzu{g:Bool}{K:Frag}{H:Hp}:∀{ds:List D} {xs:List V} {as:List Addr},RepA K H g ds xs as->∃qu,RepA K H g ds.reverse xs.reverse qu/\∀b∈qu,b∈as
 |[],xs,as,h=>by
  unfold RepA at h;obtain⟨rfl,rfl⟩:=h;exact#[[],by unfold RepA;exact#[rfl,rfl],λ_ z=>z]
 |d::ds,xs,as,h=>by
  unfold RepA at h;obtain⟨x,r,bs,cs,rfl,rfl,h1,h2⟩:=h;obtain⟨qu,i1,i2⟩:=qzu h2;refine#[qu++bs,by rw[List.reverse_cons,List.reverse_cons];exact RepA.snoc h1 i1,λb hb=>?_];rcases aA hb with z|z
  ·exact lr9 _ (i2 b z)
  ·exact ll9 _ z
def xwu(K:Frag):V->Hp->VK->Prop:=λv H Q=>∃l ys,[v]=[V.ref l]/\SqL K H l ys/\∀pp,H pp=none->Q (.ref pp) (upd H pp (.lst ys.reverse))
set_option tactic.hygienic true in
theorem xkb{K:Frag}:Ad1 K (xwu K) YW:=by
 intro H x s Q ok hf k;unfold YW at hf;dsimp only at hf
 split at hf
 ·rename_i ds e
  split at hf
  ·rename_i hl;cases oq9 hf;obtain⟨l,xs,bs,ev,q3,r3,h3⟩:=zQ ok (.inl e) hl;have q3:LsR K H l xs:=by rcases q3 with⟨_,z⟩|⟨z,_⟩;exact z;rw[e]at z;cases z
   obtain⟨qu,i1,i2⟩:=qzu r3;exact#[l,xs,by rw[ev],JV q3,λp hp=>k #[.rt,.lst ds.reverse,.ref p,p::qu] _ rfl rfl (K6 hp i1 λb hb=>h3 b (i2 b hb))]
  ·cases hf
 ·cases hf
theorem wx4{p2 bp:Pos}(ha:QV X Z q a ea)(oz:X.mg "reversed"=none)(vf:X.mg "list"=none)(hK:autoParam (X.K=Z.K) Ŕ)(hc:autoParam (X.calm=true) Ŕ)(p8:autoParam (Gl X "reversed") Ŕ)(so:autoParam (Gl X "list") Ŕ)
  (bg:autoParam (Abs ea [] X) Ŕ) (bv:autoParam (Abb bp [] X) Ŕ)
  (jf:autoParam (starEach [.Call (.Name "reversed" p2) [ea] [] bp] X.env=(false,eval (.Call (.Name "reversed" p2) [ea] [] bp) X.env)::starEach [] X.env) Ŕ) (lu:autoParam (Abb pos [] X) Ŕ):
  QE X Z q (cF1 YW a) (.Call (.Name "list" p) [.Call (.Name "reversed" p2) [ea] [] bp] [] pos):=
 q9 (wz0 ha oz vf hc p8 so bg bv jf lu) fun σ H Q h=>Zz (r:=xwu X.K) (hK▸xkb) h
end
section
variable {P:Program}{w:PySem.World}{K:Frag}{mg:Str->Option Value}{base h:Heap}{x:Str}{st:Stmt}{ps:List Str}{k:Nat}{sp:Sp}
noncomputable def xq9(K:Frag)(x qual:Str)(st:Stmt)(f:Addr)(fd:FuncData):Prop:=∃(oc:Value) (od:Option Addr) (dV kV gu pm:Value) (an:Option Addr) (cj ct:Value) (m8:Array (Option Value)),
  fd=PySem.W.fnOf x qual (vQ st) (z3 st) (jV st) dV kV gu pm an cj ct/\K.lookup f=some #[oc,od,.func fd,m8]/\PySem.W.codeIn K cj qual=true
theorem wve{qual f fd N}(F:xq9 K x qual st f fd)(S:FnScope N ps (jV st))(len:∀vs H Q E,sp vs H Q E->vs.length=ps.length)
  (iq:∀cj (A) (outer) (s) (H) (vs) (Q) (E),Room k (A.deeper (envOfC qual (jV st) s.heap.objs.size f cj))->sp vs H Q E ->
   ∃t,PSs (Cx.ex' (J8 (CXE P w) P w K mg base N qual (jV st) f cj A outer s H E) E) (z3 st) t/\t {nx:=λ_ H'=>Q .non H',rt:=Q} (L2.start N vs) H):FnOk P w K mg base (CXE P w) (k+1) f fd ps sp:=by
 obtain⟨oc,od,dV,kV,gu,pm,an,cj,ct,m8,rfl,lk,ik⟩:=F;refine xjm lk ik S len λA outer s H vs Q E hr mv=>?_
 obtain⟨t,h,q⟩:=iq cj A outer s H vs Q E hr mv;exact#[t,λa8 s' σ H' D I hw=>wpAny_mono (h a8 s' σ H' D (I.wish _) hw) (λf kf z=>z.unwish) λe kf z=>kxm z,q]
noncomputable def DefD(P:Program)(w:PySem.World)(K:Frag)(mg:Str->Option Value)(base:Heap)(k:Nat)(x:Str)(ps:List Str)(sp:Sp):Prop:=
 ∃(f:Addr) (fd:FuncData),FnOk P w K mg base (CXE P w) k f fd ps sp/\(Binds K fd ps []/\Binds K fd ps [.none])/\PySem.W.keepIn K (.ref f)=true/\mg x=some (.ref f)
theorem DefD.e(d:DefD P w K mg base k x ps sp):k8 P w K mg base k x ps sp:=by
 obtain⟨f,fd,a,b,c⟩:=d;exact#[f,fd,a,b.1,c]
noncomputable def GfD(K:Frag)(x:Str)(st:Stmt):Prop:=∃(f dt:Addr) (oc:Value) (od:Option Addr) (kV dc pm:Value) (an:Option Addr) (cd ct:Value) (sl:Array (Option Value)) (ot:Obj) (n:Nat),nsIn K mainGlobals x=some (some (.ref f))/\K.lookup f=some #[oc,od,.func (PySem.W.fnOf x x (vQ st) (z3 st) (jV st) (.ref dt) kV dc pm an cd ct),sl]/\PySem.W.codeIn K cd x=true/\PySem.W.keepIn K (.ref f)=true/\K.lookup dt=some ot/\ot.data=.seq (List.toArray [.none]) n
theorem GfD.mk{f dt oc od kV dc pm an cd ct sl ot n}(a:nsIn K mainGlobals x=some (some (.ref f)))(l:K.lookup f=some #[oc,od,.func (PySem.W.fnOf x x (vQ st) (z3 st) (jV st) (.ref dt) kV dc pm an cd ct),sl])(c:PySem.W.codeIn K cd x=true)(k:PySem.W.keepIn K (.ref f)=true)(e1:K.lookup dt=some ot)(e2:ot.data=.seq (List.toArray [.none]) n):GfD K x st:=#[f,dt,oc,od,kV,dc,pm,an,cd,ct,sl,ot,n,a,l,c,k,e1,e2]
end
theorem wj7{fd dt ot n}(hd:fd.defaults=.ref dt)(h1:fd.params.posonlyargs=[])(h2:fd.params.args.map (·.arg)=(["one","other","pair"]:List Str))(h3:fd.params.vararg=none)(h4:fd.params.kwonlyargs=[])(h5:fd.params.kwarg=none)
  {s} (hs:s.heap.get? dt=some ot) (ht:ot.data=.seq (List.toArray [.none]) n) (a b):BindsTo s fd #[[a,b],[]] [("one",a),("other",b),("pair",.none)]:=by
 intro M A E Q q;unfold bindArgs;simp only[h1,h2,h3,h4,h5,hd];exact X0 (X6 (X0 (Zk hs ht (wpAny_of_eq (by rfl) q))))
theorem xk7{fd dt ot n}(hd:fd.defaults=.ref dt)(h1:fd.params.posonlyargs=[])(h2:fd.params.args.map (·.arg)=(["one","other","pair"]:List Str))(h3:fd.params.vararg=none)(h4:fd.params.kwonlyargs=[])(h5:fd.params.kwarg=none)
  {s} (hs:s.heap.get? dt=some ot) (ht:ot.data=.seq (List.toArray [.none]) n) (a b c):BindsTo s fd #[[a,b,c],[]] [("one",a),("other",b),("pair",c)]:=by
 intro M A E Q q;unfold bindArgs;simp only[h1,h2,h3,h4,h5,hd];exact X0 (X6 (X0 (Zk hs ht (wpAny_of_eq (by rfl) q))))
section
variable {P:Program}{w:PySem.World}{K:Frag}{mg:Str->Option Value}{base h:Heap}{x:Str}{st:Stmt}{k:Nat}{sp:Sp}
theorem wzr{p:List Value->Prop}:∀us,us.length=2->(∀a b,p [a,b])->p us
 |[_,_],_,h=>h _ _
theorem xvp{p:List Value->Prop}:∀us,us.length=3->(∀a b c,p [a,b,c])->p us
 |[_,_,_],_,h=>h _ _ _
theorem GfD.d(g:GfD K x st)(X:K.In h)(G:h.Ns mainGlobals mg)(ok:∀{f fd},xq9 K x x st f fd->FnOk P w K mg base (CXE P w) k f fd ["one","other","pair"] sp)
  (h1:autoParam ((vQ st).posonlyargs=[]) Ŕ) (h2:autoParam ((vQ st).args.map (·.arg)=(["one","other","pair"]:List Str)) Ŕ) (h3:autoParam ((vQ st).vararg=none) Ŕ) (h4:autoParam ((vQ st).kwonlyargs=[]) Ŕ) (h5:autoParam ((vQ st).kwarg=none) Ŕ):DefD P w K mg base k x ["one","other","pair"] sp:=by
 obtain⟨f,dt,oc,od,kV,dc,pm,an,cd,ct,sl,ot,n,a,l,c,kp,e1,e2⟩:=g;refine#[f,_,ok #[oc,od,.ref dt,kV,dc,pm,an,cd,ct,sl,rfl,l,c],#[λs us kin hl=>?_,λs us kin hl=>?_],kp,Zj X G a]
 ·rw[Xs]at hl ⊢;obtain⟨u1,u2,u3,rfl⟩:∃a b c,us=[a,b,c]:=xvp (p:=λus=>∃a b c,us=[a,b,c]) us hl λa b c=>#[a,b,c,rfl]
  exact xk7 rfl h1 h2 h3 h4 h5 (kin dt _ e1) e2 u1 u2 u3
 ·have hl:us.length=2:=by rw[Xf]at hl;exact Nat.add_right_cancel hl
  obtain⟨u1,u2,rfl⟩:∃a b,us=[a,b]:=wzr (p:=λus=>∃a b,us=[a,b]) us hl λa b=>#[a,b,rfl]
  exact wj7 rfl h1 h2 h3 h4 h5 (kin dt _ e1) e2 u1 u2
end
abbrev wwa(K:Frag)(td ty:TE):TE:=fun σ H Q=>td σ H λx H1=>ty σ H1 λy H2=>∃(a b:Addr) (k:Kd) (es:List Ent) (ep:Nat) (v:V) (p:Addr×Value),x=.ref a/\y=.ref b/\H2 a=some (qW a es ep)/\(es.map (·.1)).Nodup/\(∀x∈es,PuR K H2 x.1.1 (.ref x.2.1))/\PuR K H2 k.1 (.ref b)/\atKey es k=some p/\RelV v p.2/\Q v H2
section
variable {X:Cx}{Z:Fx0}{q qa:Bool}{a b:Ex}{td ty:TE}{o i ea eb:Expr}{pos:Pos}
theorem vw4(hu:X.A.units+64<cLine)(ho:PE X o td)(hi:PE X i ty)(hs:xkn i):PE X (.Subscript o i pos) (wwa X.K td ty):=by
 intro a8 s σ H Q I h;refine qx2 PySem.F.slot_dict_getitem.lookup hs (thn (ho a8 s σ H _ I h) λu s1 hz=>?_);obtain⟨x,H1,I1,rx,q1⟩:=hz;refine thn (hi a8 s1 σ H1 _ I1 q1) λiv s2 hz=>?_
 obtain⟨y,H2,I2,ry,a,b,k,es,ep,v,p,ex,ey,d,hn,hks,hk,hp,rv,q2⟩:=hz;subst ex ey;obtain rfl:u=Value.ref a:=rx;obtain rfl:iv=Value.ref b:=ry;have dd:=kz9 I2 d hn hks;exact#[dd.typeIs,wpAny_getItem_heap (kv8 hu) (VY I2 hk rfl) dd hp #[v,H2,I2.tok _,rv,q2]]
theorem wx7(hu:X.A.units+64<cLine)(ha:QV X Z qa a ea)(hb:QV X Z true b eb)(hs:xkn eb)(hK:autoParam (X.K=Z.K) Ŕ):QV X Z qa (ww2 a b) (.Subscript ea eb pos):=
 q9 (hK▸vw4 hu ha hb hs) fun σ H Q ao=>ex8 ao λE L r m w hc xc k=>by
  refine qY m w (hc) xc λE1 s h1 x L1 H1 e1 e2 m1 w1 ok fr sr st sm=>(qY m1 w1 h1 (xc.step st) λE2 s2 h2 y L2 H2 e3 e4 m2 w2 gj nw nu ca dl=>?_)
  obtain⟨z,hz0,rfl⟩:=xw h2;obtain⟨d,hz,rfl⟩:=Option.map_eq_some_iff.mp hz0;unfold xq3 at hz;cases hy:s.2 with
  | dct kvs=>
   rw[hy]at hz;dsimp only at hz
   by_cases hc:qZ s2.2=true/\unm kvs=true/\D.pures (kvs.map (·.2))=true
   ·rw[Xd hc]at hz;obtain⟨b,eb,pb⟩:=jva gj (e4▸hc.1);have kt:qx 6 y.d=true:=by
     have:qZ y.d=true:=by rw[e4];exact hc.1
     unfold qZ at this;rw[Bool.and_eq_true]at this;exact this.1
    have h:=RepO.wk (K8 ok fr ca (dl rfl)).1;rw[e2,hy]at h;obtain⟨l,xs,bs,e,rp,dc,_⟩:=h;obtain⟨es,ep,d1,d2,d3,d4,d5,d6,d7⟩:=DcA.un dc hc.2.1;obtain⟨g1,g2⟩:=vk9 (k:=#[y.d,kt]) rp d5 d7 hc.2.2;have hyk:(#[y.d,kt]:Kd).1=s2.2:=e4;cases ie:atKey es #[y.d,kt]with
    |none=>grind
    |some p=>
     obtain⟨d',v',q1,q2,q3,q4⟩:=g1 p ie;rw[hyk,hz]at q1;cases oq9 q1;exact#[l,b,_,es,ep,v',p,e,eb,d1,d4,d6,pb,ie,q2,k _ _ rfl #[.dp,d,v',[]] L2 H2 rfl rfl m2 w2 q3 (λ_ hb=>nomatch hb) (λ_ hb=>nomatch hb) (st.trans ca) λhq=>kK (sm hq) (dl rfl)]
   ·rw[Xi hc]at hz;cases hz
  |_=>rw[hy]at hz;cases hz
end
end Q
namespace Q
open PySem
def qv1(f:Fn)(cs:List Ex):Ex:=λE=>bnd (vY cs E) λE xs=>match f (letAll (xs++[(.no,.non)]))with
 |some (.ok _ y)=>some (.ok E y)|some (.exc _ c)=>some (.exc E c)|none=>none
end Q
namespace Q
open PySem PySem.Spec PyProof.Rows L2 L3
noncomputable def xqb(P:Program)(w:PySem.World)(K:Frag)(mg:Str->Option Value)(base:Heap)(k:Nat)(x:Str)(ps:List Str)(sp:Sp):Prop:=
 ∃(f:Addr) (fd:FuncData),FnOk P w K mg base (CXE P w) k f fd ps sp/\Binds K fd ps [.none]/\PySem.W.keepIn K (.ref f)=true/\mg x=some (.ref f)
theorem GfD.n{P w K mg base h x st k sp}(g:GfD K x st)(X:K.In h)(G:h.Ns mainGlobals mg)(ok:∀{f fd},xq9 K x x st f fd->FnOk P w K mg base (CXE P w) k f fd ["one","other","pair"] sp)
  (h1:autoParam ((vQ st).posonlyargs=[]) Ŕ) (h2:autoParam ((vQ st).args.map (·.arg)=(["one","other","pair"]:List Str)) Ŕ) (h3:autoParam ((vQ st).vararg=none) Ŕ) (h4:autoParam ((vQ st).kwonlyargs=[]) Ŕ) (h5:autoParam ((vQ st).kwarg=none) Ŕ):xqb P w K mg base k x ["one","other","pair"] sp:=by
 obtain⟨f,dt,oc,od,kV,dc,pm,an,cd,ct,sl,ot,n,a,l,c,kp,e1,e2⟩:=g;refine#[f,_,ok #[oc,od,.ref dt,kV,dc,pm,an,cd,ct,sl,rfl,l,c],λs us kin hl=>?_,kp,Zj X G a];have hl:us.length=2:=by rw[Xf]at hl;exact Nat.add_right_cancel hl
 obtain⟨u1,u2,rfl⟩:∃a b,us=[a,b]:=wzr (p:=λus=>∃a b,us=[a,b]) us hl λa b=>#[a,b,rfl]
 exact wj7 rfl h1 h2 h3 h4 h5 (kin dt _ e1) e2 u1 u2
theorem wz5{X x p pos e es t ps sp k E}(D:xqb X.prog X.w X.K X.mg X.base k x ps sp)(hr:Room k X.A)(g:xz X E)(ha:PA X (e::es) t)(hg:autoParam (Gl X x) Ŕ)(fk:autoParam (Abd x) ŕ)
  (he:autoParam (Abs e es X) Ŕ) (bv:autoParam (Abb pos es X) Ŕ):
  PE X (.Call (.Name x p) (e::es) [] pos) (wjl sp [.non] E t):=by
 obtain⟨f,fd,F,b,kp,m⟩:=D;exact qzq F hr hg m kp b (.cons rfl .nil) (wz9 g) ha fk he bv
section
variable {X:Cx}{Z:Fx0}{q:Bool}{e:Expr}{es:List Expr}{p pos:Pos}
theorem wk3{k n x ps f cs}(D:xqb X.prog X.w X.K X.mg X.base k x ps (spF Z.K Z.mg n f))(hr:Room k X.A)(g:xz X Z.EX)(ha:QA X Z q cs (e::es))(hn:autoParam (cs.length+1=n) Ŕ)(hg:autoParam (Gl X x) Ŕ)(fk:autoParam (Abd x) ŕ)
  (he:autoParam (Abs e es X) Ŕ) (bv:autoParam (Abb pos es X) Ŕ):
  QE X Z false (qv1 f cs) (.Call (.Name x p) (e::es) [] pos):=q9 (wz5 D hr g ha hg fk he bv) fun σ H Q ao=>ex8 ao λE L r m w hc xc kk=>
 vxm m w (hc) xc λE1 ys h1 hl xs L1 H1 e1 m1 w1 st sm=>by
  have ai:xs.length+1=n:=by rw[<-hn,<-hl,<-e1,X3]
  cases hf:f _ with
  | none=>rw[hf]at h1;cases h1
  | some fr=>
   rw[hf]at h1;obtain⟨wl,sl⟩:=kq1 w1
   let nn:Sl:=#[.no,.non,.non,[]]
   have ev:xs.map Sl.v++[.non]=(xs.map Sl.let++[nn]).map Sl.v:=by rw[X7,Xj];rfl
   have rn:RepL Z.K H1 true _root_.Q.D.non V.non []:=#[rfl,rfl];have wn:World Z.K H1 ((xs.map Sl.let++[nn]).map some):=by
    rw[X7];exact World.comm (wl.left.consPu rn rfl)
   have pm:(some nn::((xs.map Sl.let).map some++L1)).Perm ((xs.map Sl.let++[nn]).map some++L1):=by
    rw[X7,Xq];exact List.perm_middle.symm
   have stn:Step H1 ((xs.map Sl.let).map some++L1) H1 (some nn::((xs.map Sl.let).map some++L1)):=#[λ_ _ z _=>z,λa z=>.inl (by simpa [Sl.own,nn]using z),λa z=>.inl (by simpa [Sl.frz,nn]using z)];have wn2:=World.perm (wl.consPu (x:=nn) rn rfl) pm;have ni:=sl.trans (stn.trans (Step.refl.perm (List.Perm.refl _) pm));rw[ev];refine#[xs.map Sl.let++[nn],fr,rfl,by rw[Xf,X3];exact ai,wn,?_,λE' c ee C H' hm s'=>?_,λE' a ee y H' e2 e3 w' s'=>?_]
   ·rw[<-e1]at hf;rw[<-hf,X7];unfold letAll;rw[X7,Xj,Xj];rfl
   ·subst ee;cases oq9 h1;obtain⟨w2,s2⟩:=stay wn2 s' #[λ_ z=>(nomatch z),Xr,λ_ z=>(nomatch z)];exact xc _ _ rfl C L1 H' hm m1 w2 ((st.trans ni).trans s2)
   ·subst ee;cases oq9 h1;obtain⟨w2,s2⟩:=stay wn2 s' w';exact kk _ _ rfl y L1 H' e2 e3 m1 w2 ((st.trans ni).trans s2) λhq=>nomatch hq
end
@[irreducible] noncomputable def ShE (X:Cx) (Z:Fx0) (q:Bool) (c:Ex) (e:Expr):Prop:=QE X Z q c e
@[irreducible] noncomputable def ShA (X:Cx) (Z:Fx0) (q:Bool) (cs:List Ex) (es:List Expr):Prop:=QA X Z q cs es
@[irreducible] noncomputable def ShS (X:Cx) (Z:Fx0) (pn:List Nat) (c:Sm) (st:Stmt):Prop:=QS X Z pn c st
@[irreducible] noncomputable def ShB (X:Cx) (Z:Fx0) (pn:List Nat) (c:Sm) (ss:List Stmt):Prop:=QSs X Z pn c ss
end Q
namespace Q
open PySem
def mkB:D×D:=(.str "b",.non)
def xW(ks:List Int):D:=.dct (mkB::ks.map λk=>(.int k,.bl true))
def qwa : List (D × D) -> Option (List Int)
  |[]=>some []|(.int k,.bl true)::r=>(qwa r).map (k :: ·)|_=>none
def idB:D->Option (List Int):=λd=>match d with
 |.dct ((.str _,.non)::kvs)=>qwa kvs|_=>none
def J5(ks:List Int)(k:Int):List Int:=if k∈ks then ks else ks++[k]
def vxe:Ex:=λE=>some (.ok E (.rt,xW []))
def wqm : Sd -> D -> D -> Option D:= λs k v=>match s,k,v with
  |(.rt,d),.int a,.bl true=>(idB d).bind λkv=>if kv.length<big then some (xW (J5 kv a))else none|_,_,_=>none
def vvf:Nat->Ex->Ex->Sm:=W4 vjw wqm
def kz0:Sd->Option Sd:=λx=>match idB x.2 with
 |some kv=>some (.rt,.lst (kv.map D.int))|none=>none
def XY:D->Option D:=λx=>match idB x with
 |some kv=>some (.int kv.length)|none=>none
end Q
namespace Q
open PySem PySem.Spec PyProof.Rows L2 L3
theorem qws:∀{vs us},vs.length=us.length->(∀(i:Nat) v u,vs[i]?=some v->us[i]?=some u->RelV v u)->Vals vs us
 |[],[],_,_=>.nil|v::vs,u::us,hl,h=>.cons (h 0 v u rfl rfl) (qws (by simpa using hl) λi v u e1 e2=>h (i+1) v u (by simpa using e1) (by simpa using e2))|[],_::_,h,_=>by cases h
abbrev dkB(ks:List Int):List (Key×V):=ks.map λk=>(Sum.inl k,V.bl true)
theorem wk7 ks k:x8 (dkB ks) (Sum.inl k) (V.bl true)=dkB (J5 ks k):=by
 unfold x8 J5
 by_cases h:k∈ks
 ·simp_all
 ·simp_all
set_option tactic.hygienic true in
theorem vqf:∀{kvs kv},qwa kvs=some kv->kvs=kv.map λp=>(D.int p,D.bl true):=by
 intro kvs
 induction kvs with
 |nil=>intro kv h;cases oq9 h;rfl
 |cons e r ih=>
  intro kv h;obtain⟨a,b⟩:=e;cases a<;>first|(cases h;done)|(cases b<;>first|(cases h;done)|skip)
  rename_i z;cases z
  ·cases h
  obtain⟨q,hq,rfl⟩:=Option.map_eq_some_iff.mp (show(qwa r).map _=some kv from h);rw[List.map_cons,<-ih hq]
theorem kze:∀kv,qwa (kv.map λp=>(D.int p,D.bl true))=some kv
 |[]=>rfl
 |k::r=>by
  show(qwa _).map _=_;rw[kze r];rfl
theorem vk2 kv:idB (xW kv)=some kv:=kze kv
theorem wwm{K H g}:RepL K H g (.bl true) (.bl true) []:=#[rfl,rfl]
theorem kq5{K H g}:∀{kv:List Int} {xs bs},RepP K H g (kv.map λp=>(D.int p,D.bl true)) xs bs->xs=kv.map λ_=>V.bl true
 |[],xs,bs,h=>by
  exact h.1
 |p::r,xs,bs,h=>by
  obtain⟨y,rr,b1,b2,rfl,_,h1,h2⟩:=h;rw[h1.1,kq5 h2,List.map_cons]
theorem kqp{K H g}:∀(kv:List Int),RepP K H g (kv.map λp=>(D.int p,D.bl true)) (kv.map λ_=>V.bl true) []
 |[]=>#[rfl,rfl]
 |p::r=>by
  exact#[_,_,[],[],rfl,rfl,wwm,kqp r]
theorem wq1{K H g}(kv:List Int):RepP K H g (mkB::kv.map λp=>(D.int p,D.bl true)) (V.non::kv.map λ_=>V.bl true) []:=by
 exact#[_,_,[],[],rfl,rfl,#[rfl,rfl],kqp kv]
theorem qky{K H}{p} kv:RepR K (upd H p (.dK (dkB kv))) (xW kv) (.ref p) [p]:=
 #[p,_,[],rfl,wq1 _,.inr #[kv.map λp=>(p,V.bl true),"b",by rw[wW,Xj];rfl,by rw[List.map_cons,Xj,Xj];rfl,by rw[Xj];rfl],rfl]
theorem kxt:∀{a:List (Int×V)} {kv},(kv.map λp=>D.int p)=a.map (λp=>D.int p.1)->(kv.map λ_=>V.bl true)=a.map (·.2)->(a.map λp=>((Sum.inl p.1:Key),p.2))=dkB kv
 |[],[],_,_=>rfl|[],_::_,h,_=>by simp_all
 |p::a,q::kv,h,h'=>by
  rw[List.map_cons,List.map_cons]at h h';injection h with h1 h2;injection h' with h3 h4;injection h1 with h1;unfold dkB;rw[List.map_cons,List.map_cons,kxt h2 h4,<-h1,<-h3]
theorem vkv{K H}{y:Sl}{kv}(ok:y.ok K H)(hd:idB y.d=some kv):∃a,y.v=.ref a/\H a=some (.dK (dkB kv))/\∃bs,y.as=a::bs:=by
 have h:=RepO.wk ok;cases hy:y.d with
 | dct kvs=>
  rw [hy]at hd h;cases kvs with
  | nil=>cases hd
  | cons e kvs=>
   obtain⟨a,b⟩:=e;cases a with
   | str m=>
    cases b with
    | non=>
     have e:=vqf hd;subst e;obtain⟨a,xs,bs,ev,rp,qa,eas⟩:=h;rcases qa with⟨es,ep,_,_,_,_,g5,g6,_⟩|⟨kvn,mm,g1,g2,g3⟩
     ·exfalso;rw[List.map_cons]at g5;cases es with
      |nil=>cases g5
      |cons n es=>
       rw[List.map_cons]at g5;injection g5 with g5 _;have:=g6 n X5;rw[<-g5]at this;unfold PuR at this
       grind
     ·refine#[a,ev,?_,bs,eas];rw[g1]
      congr 2
      obtain⟨y1,rr,_,_,rfl,_,_,r2⟩:=rp;have e1:=kq5 r2;rw[List.map_cons,Xj]at g2;injection g2 with _ g2;refine kxt g2 ?_
      simp_all
    |_=>cases hd
   |_=>cases b<;>cases hd
 |_=>rw[hy]at hd;cases hd
section
variable {X:Cx}{Z:Fx0}{pn:List Nat}{q qa:Bool}{a b c kc vc:Ex}{o ea eb ec ke ve:Expr}{pos bc aj:Pos}
theorem wxc:QE X Z true vxe (.Dict [] [] pos):=qz9 (C:=λ_=>True) (ob:=λ_=>.dK []) (q9 qq8 λ_ _ _ h p hp=>h p hp trivial) ⋯ λ_ p _=>qky (p:=p) []
set_option tactic.hygienic true in
theorem wxg{i}(hu:X.A.units+64<cLine)(ho:PE X o (zJ i))(hk:QV X Z true kc ke)(hv:QE X Z q vc ve)(hs:autoParam (swapsWith ve (some (.Subscript o ke bc)) pos.line X.env=pure false) Ŕ):
  QS X Z pn (vvf i kc vc) (.Assign [.Subscript o ke bc] ve pos):=vvn (W:=wDK) (qzh ⋯ ho hk hv hs) #[rfl,rfl] fun {H L y x z d} {C} hy w nh dw k=>by
 unfold wqm at dw
 split at dw
 ·rename_i heq hz hx;injection heq with h2 h3;obtain⟨kv,hi,dw⟩:=Option.bind_eq_some_iff.mp dw
  split at dw
  ·rename_i hl;cases oq9 dw;refine vz7 hy w h2 (vkv (w.tail.ok y (vJ hy)) (h3▸hi)) (kQ nh hz) (Q0 (w.ok x X5) hx) (wk7 _ _) (by show(kv.map _).length<sizeLine;rw[X3];exact hl) (qky _) k
  ·cases dw
 ·cases dw
end
theorem vzq{ks}:∀{vs},KV (dkB ks) vs->vs.length=ks.length/\∀(i:Nat) k x,vs[i]?=some (k,x)->∃p,ks[i]?=some p/\k=Sum.inl p:=by
 induction ks with
 | nil=>intro vs h;cases h;exact#[rfl,λi k x h=>by simp at h]
 | cons p r ih=>
  intro vs h;cases h with
  |cons h1 h2=>
   obtain⟨g1,g2⟩:=ih h2;refine#[by simp[g1],λi k x e=>?_];cases i with|zero=>simp_all|succ i=>exact g2 i k x (by simpa using e)
def vz1(K:Frag):List V->Hp->VK->Prop:=λxs H Q=>∃(a:Addr) (kv:List Int),xs=[.ref a]/\H a=some (.dK (dkB kv))/\∀l,H l=none->Q (.ref l) (upd H l (.lst (kv.map λp=>V.int p)))
theorem qw7{X} K (hc:autoParam (X.calm=true) Ŕ):CallR X (.type "list") (vz1 K):=by
 rintro a8 s σ H xs us Q I r ⟨a,kv,rfl,hH,q⟩;obtain⟨u,rfl,rx⟩:=xv r;cases rx;obtain⟨hz,lo,vs,dm,dd⟩:=wqv I.hok hH;obtain⟨ep,ie⟩:=dd.dictAt;obtain⟨v1,v2⟩:=vzq dm;have hl:vs.length<=sizeLine:=by
  simp_all
 refine PySem.W.kdl_call (PySem.W.kdl_dict lo) (I.ok.hd hc) ie hl λh' tk af c kp e az=>(#[.ref s.heap.objs.size,_,I.laid kp (Xa _) (show ObjOk X.prog X.w _ h' _ (.lst _)from#[by rw[X3,<-v1];exact hl,af.toList,c,qws ?_ λi v u e1 e2=>?_,by simpa using e]),rfl,q _ (I.hok.fresh (Xa _))])
 ·have e3:af.toList.length=vs.length:=Array.length_toList.trans az.1
  simp_all
 ·obtain⟨k,x,g1,g2⟩:=az.2 i u (by simpa using e2);obtain⟨p,g3,rfl⟩:=v2 i k x g1;rw[Xg,g3]at e1;cases oq9 e1;exact Value.isInt_shape g2
theorem vxk{K}:Ad1 K (λv H Q=>vz1 K [v] H Q) kz0:=by
 intro H x s Q ok hf k;unfold kz0 at hf;cases hx:idB x.d with
 |none=>simp_all
 |some kv=>
  rw[show idB (x.o,x.d).2=some kv from hx]at hf;cases oq9 hf;obtain⟨a,ev,hH,_⟩:=vkv ok hx;exact#[a,kv,by rw[ev],hH,λl hl=>k _ _ rfl rfl (K6 hl (qkw) λb hb=>nomatch hb)]
def www:List V->Hp->VK->Prop:=λxs H Q=>∃(a:Addr) (kv:List Int),xs=[.ref a]/\H a=some (.dK (dkB kv))/\Q (.int kv.length) H
theorem vq8{X}:CallR X (.builtin "len") www:=by
 rintro a8 s σ H xs us Q I r ⟨a,kv,rfl,hH,q⟩;obtain⟨u,rfl,rx⟩:=xv r;cases rx;obtain⟨hz,lo,vs,dm,o,es,ep,h1,h2,h3,h4,h5,h6⟩:=wqv I.hok hH;have hl:es.size=kv.length:=by
  have:=h5.length;rw[(vzq dm).1]at this;exact this
 have hz:kv.length<=sizeLine:=by simpa [dkB]using hz
 exact kkx lo #[o,es,ep,h1,h2.1,h3,hl] (by rw[sizeLine_eq]at hz;lia) #[.int kv.length,H,I.tok _,#[_,rfl],q]
theorem wvd{K}:Ad1 K (λv H Q=>www [v] H Q) (pu1 XY):=by
 intro H x s Q ok hf k;have hf:(XY x.d).map _=some s:=hf;unfold XY at hf;cases hx:idB x.d with
 |none=>simp_all
 |some kv=>
  rw[hx]at hf;cases oq9 hf;obtain⟨a,ev,hH,_⟩:=vkv ok hx;exact#[a,kv,by rw[ev],hH,k _ H rfl rfl (kj1 (λ_ _ h=>h) vK)]
end Q
namespace Q
def vkm:D->Option D
 |.lst ds=>(match KK ds with
  |some is=>is.max?.map D.int
  |none=>none)
 |_=>none
end Q
namespace Q
open PySem PySem.Spec PyProof.Rows L2 L3
def xqx(K:Frag):List V->Hp->VK->Prop:=λxs H Q=>∃(p:Addr) (is:List Int) (M:Int),xs=[.ref p]/\SqL K H p (is.map V.int)/\is.max?=some M/\Q (.int M) H
theorem vq6{X}(hc:autoParam (X.calm=true) Ŕ):CallR X (.builtin "max") (xqx X.K):=by
 rintro a8 s σ H xs us Q I r ⟨p,is,M,rfl,hq,hM,q⟩;obtain⟨u,rfl,ru⟩:=xv r;cases ru;obtain⟨ac,rv,pl,hz⟩:=I.list hq;have hli:=pl.isList;have cz:p<s.heap.objs.size:=by obtain⟨_,e,_⟩:=hli;exact Xe e
 have ai:is.length=ac.length:=by rw[<-rv.length,X3]
 obtain⟨hM1,hM2⟩:=List.max?_eq_some_iff.mp hM;have i9:∀i h,is.getD i 0=is[i]:=λi h=>by rw[X4,X1 h];rfl
 have hP:∀i v,ac.toArray[i]?=some v->∃t,v=Value.int (is.getD i 0) t:=λi v hP=>by
  have hP:ac[i]?=some v:=by simpa using hP
  have hi:i<is.length:=by rw[ai];exact(List.getElem?_eq_some_iff.mp hP).1
  obtain⟨u,e1,e2⟩:=rv.get (by rw[Xg,X1 hi];rfl);rw[hP]at e1;cases oq9 e1;obtain⟨t,rfl⟩:=e2;exact#[t,by rw[i9 i hi]]
 have h0:=List.length_pos_of_mem hM1;refine call_max_walk (Zf hli ?_);refine#[s.heap.objs.size,[s.heap.objs.size,p],[s.heap.objs.size],ac.toArray.size,_,_,_,rfl,PySem.Walks.list (A:=X.A.in1) (I.ok.hd hc) _ p (Xk cz) ac.toArray,
  #[#[_,X9 _ rfl,rfl,rfl],hli.push _],λb ft=>?_,by rw[X8];lia,CmpOf.ints_gt _ hP,λv h' tk hv hk=>?_]
 ·rw[Z8];simp at ft;rcases ft with e|e
  ·rw[e];exact Nat.lt_succ_self _
  ·rw[e];exact Z2 cz
 ·obtain⟨t,rfl⟩:=hP _ _ hv;obtain⟨h1,h2⟩:=argBest_gt _ (ac.toArray.size - 1);rw[X8,<-ai]at h1 h2 ⊢;generalize argBest _ _=b at h1 h2 ⊢;have e:is.getD b 0=M:=by
   have hb:b<is.length:=⋯
   obtain⟨j,hj,ej⟩:=Yn hM1;have g1:=h2 j ⋯;have g2:=hM2 is[b] (Xn hb);rw[i9 b hb]at g1 ⊢;rw[i9 j hj,ej]at g1;lia
  rw[e];refine#[.int _,H,I.kept (t':=tk) (h':=h') λb o e=>hk b o (λz=>?_) (X2 _ e),#[_,rfl],q];exact absurd (Xe e) (aC z▸Ym _)
theorem vxc{X} K (hK:autoParam (X.K=K) Ŕ)(hc:autoParam (X.calm=true) Ŕ):CallR X (.builtin "max") (xqx K):=by subst hK;exact vq6 hc
set_option tactic.hygienic true in
theorem wvc{K}:Ad1 K (λv H Q=>xqx K [v] H Q) (pu1 vkm):=by
 intro H x s Q ok hf k;unfold pu1 vkm at hf;dsimp only at hf
 split at hf
 ·rename_i ds e;cases hb:KK ds with
  | none=>rw[hb]at hf;cases hf
  | some is=>
   rw[hb]at hf;dsimp only at hf;cases hM:is.max? with
   |none=>grind
   |some M=>
    rw[hM]at hf;cases oq9 hf;obtain⟨l,xs,cs,ev,q3,r3,_⟩:=items ok (.inl e);have q3:LsR K H l xs:=by rcases q3 with⟨_,z⟩|⟨z,_⟩;exact z;rw[e]at z;cases z
    exact#[l,is,M,by rw[ev],by rw[<-qqn hb r3];exact q3.sq,hM,k _ H rfl rfl Jw]
 ·cases hf
def OkF(P:Program)(w:PySem.World)(K:Frag)(mg:Str->Option Value)(base:Heap)(k:Nat)(x:Str)(st:Stmt)(ps:List Str)(n:Nat)(m:Fn):Prop:=∀(f:Addr) (fd:FuncData),Fun K x x st f fd->FnOk P w K mg base (CXE P w) k f fd ps (spF K mg n m)
section
variable {P:Program}{w:PySem.World}{K:Frag}{mg:Str->Option Value}{base h:Heap}{k n nn:Nat}{x:Str}{st:Stmt}{ps N:List Str}{B:Sm}
theorem okF(S:FnScope N ps (jV st))(t:∀{f cj A outer s H E},Room k (A.deeper (envOfC x (jV st) s.heap.objs.size f cj))->QSs (Cx.ex' (J8 (CXE P w) P w K mg base N x (jV st) f cj A outer s H E) E) #[K,mg,E] [] B (z3 st))(hp:autoParam (ps.length=n) Ŕ)(hN:autoParam (N.length=nn) Ŕ):OkF P w K mg base (k+1) x st ps n (fn nn B):=
 λ_ _ F=>vqu F S (qj1 hp) λ_ _ _ _ _ _ _ _ hr h=>vkg hN (t hr) h
end
section
variable {X:Cx}{Z:Fx0}{pn:List Nat}{q qa:Bool}{a b:Ex}{ea eb:Expr}{pos p:Pos}{m:Nat}
theorem wV{v:Bool}{j}:QE X Z true (cC (.bl v)) (.Constant (.bool v) j p):=q_C xvf λ_=>qxu
def wq:QE X Z true (kq .rt []) (.List [] p):=ww jk
theorem jK(h:QE X Z q a ea):QSs X Z pn (jJ a) [.Return (some ea) pos]:=k3 (xv1 h)
theorem KJ{z j p'}:QE X Z true (cF1 (pu1 zx) (vE (cC (.int z)))) (.UnaryOp .USub (.Constant (.int z) j p') p):=q_un ww3 xkc ki
theorem x3(ha:QV X Z qa a ea)(hb:QV X Z true b eb):QE X Z qa (cF2 (pu2 vz) a b) (.BinOp ea .FloorDiv eb pos):=Kv vw8 xkk ha hb
theorem zY(hr:Room m X.A)(ha:QV X Z qa a ea)(hb:QV X Z true b eb)(hK:autoParam (X.K=Z.K) Ŕ):QT X Z qa (tE (cF2 (pu2 fEq) a b)) (.Compare ea [.Eq] [eb] pos):=vq (wzh hr.units hK) xkj ha hb (z5 _) xwd
theorem K3(hr:Room m X.A)(ha:QV X Z qa a ea)(hb:QV X Z true b eb)(hK:autoParam (X.K=Z.K) Ŕ):QT X Z qa (tE (cF2 (pu2 fNe) a b)) (.Compare ea [.NotEq] [eb] pos):=vq (vwa hr.units hK) vxj ha hb (z5 _) xwc
theorem Qj(hr:Room m X.A)(ha:QV X Z qa a ea)(hb:QV X Z true b eb)(hK:autoParam (X.K=Z.K) Ŕ):QE X Z qa (cF2 (pu2 fEq) a b) (.Compare ea [.Eq] [eb] pos):=Vv (wzh hr.units hK) xkj ha hb (z5 _)
theorem W5(ha:QV X Z qa a ea)(hb:QV X Z true b eb):QT X Z qa (tE (cF2 (f2First fIsNon) a b)) (.Compare ea [.Is] [eb] pos):=vq wzd xkg ha hb (z5 _) xk4
theorem xks(ha:QV X Z qa a ea)(hb:QV X Z true b eb):QT X Z qa (tE (cF2 (f2First fNotNon) a b)) (.Compare ea [.IsNot] [eb] pos):=vq wku wva ha hb (z5 _) wv8
theorem xkt(ha:QV X Z qa a ea)(hb:QV X Z true b eb):QT X Z qa (tE (cF2 (pu2 fGt) a b)) (.Compare ea [.Gt] [eb] pos):=vq xvh J9 ha hb (z5 _) Qk
theorem xqh(ha:QV X Z qa a ea)(hb:QV X Z true b eb):QT X Z qa (tE (cF2 (pu2 fLt) a b)) (.Compare ea [.Lt] [eb] pos):=vq wkv J9 ha hb (z5 _) Qk
theorem xxd(ha:QV X Z qa a ea)(hb:QV X Z true b eb):QE X Z qa (cF2 (pu2 fLe) a b) (.Compare ea [.LtE] [eb] pos):=Vv W9 J9 ha hb (z5 _)
theorem kj{u A ss}(h:QT X Z q u ea)(t:QSs X Z pn A ss):QS X Z pn (sIf u A k4) (.If ea ss [] pos):=xx3 h t xv2
end
end Q
namespace Q
open PySem
theorem wzq n (h:300<=n):10 ^ 70<2 ^ n:=Xp (show 10 ^ 70<2 ^ 240 by decide) (Nat.pow_le_pow_right ⋯ ⋯)
theorem mul_l{o1 o2 a b}(h1:-18446744073709551616<a)(h2:a<18446744073709551616):xjp (o1,.int a) (o2,.int b)=some (.dp,.int (a*b)):=by
 have:Zq a b=true:=by
  have:qxh a=true:=by unfold qxh;rw[Xb (show -_<a by lia),Xb (show a<2 ^ 64 by lia)];rfl
  unfold Zq;rw[this];rfl
 show(if Zq a b=true then _ else _)=_;rw[Xd this]
theorem add_i{o1 o2:Own}{a b:Int}:jX (o1,.int a) (o2,.int b)=some (.dp,.int (a+b)):=rfl
theorem sub_i{a b:Int}:Wq (.int a) (.int b)=some (.int (a - b)):=rfl
theorem div_i{a b}(h:0<b)(h2:b<10 ^ 70):vz (.int a) (.int b)=some (.int (a / b)):=by
 have hb:b.natAbs.log2<9000:=by
  exact(Nat.log2_lt ⋯).mpr (Nat.lt_trans (show b.natAbs<10 ^ 70 by lia) (wzq 9000 (by simp)))
 show(if 0<b/\b.natAbs.log2<9000 then some _ else none).map _=_;rw[Xd #[h,hb]];rfl
theorem mod_i{a b}(h:0<b):kJ (.int a) (.int b)=some (.int (a % b)):=by
 show(if 0<b then some _ else none).map _=_;rw[Xd h];rfl
theorem Wv{a b}:fEq (.int a) (.int b)=some (.bl (a==b)):=rfl
theorem lt_ii{a b}:fLt (.int a) (.int b)=some (.bl (decide (a<b))):=rfl
theorem gt_ii{a b:Int}:fGt (.int a) (.int b)=some (.bl (decide (b<a))):=rfl
theorem le_ii{a b}:fLe (.int a) (.int b)=some (.bl (decide (a<=b))):=rfl
theorem ge_ii{a b:Int}:fGe (.int a) (.int b)=some (.bl (decide (b<=a))):=rfl
theorem wY{xs i d}(h0:0<=i)(h:xs[i.toNat]?=some d):jW (.lst xs) (.int i)=some d:=by
 show((ixN xs.length i).bind λj=>xs[j]?)=some d;have hl:=(List.getElem?_eq_some_iff.mp h).1;unfold ixN
 rwa [Xd h0,Xd ⋯]
theorem xx7{xs i d}(h0:0<=i)(h:xs[i.toNat]?=some d):jW (.tup xs) (.int i)=some d:=by
 show((ixN xs.length i).bind λj=>xs[j]?)=some d;have hl:=(List.getElem?_eq_some_iff.mp h).1;unfold ixN
 rwa [Xd h0,Xd ⋯]
theorem len_l{xs:List D}:kz (.lst xs)=some (.int xs.length):=rfl
theorem len_t{xs:List D}:kz (.tup xs)=some (.int xs.length):=rfl
theorem kzm{o1 o2 a b}(h1:o1≠.dp)(h2:o2≠.dp)(hl:a.length+b.length<10000):jX (o1,.lst a) (o2,.lst b)=some (.rt,.lst (a++b)):=by
 show(if a.length+b.length<=big/\qV _/\qV _ then _ else _)=_;rw[Xd #[by unfold big;lia,by cases o1<;>simp_all [qV],by cases o2<;>simp_all [qV]]]
theorem tup_l{o xs}(h:o≠.dp):z8 (o,.lst xs)=some (.no,.tup xs):=by
 show(if qV _ then _ else _)=_;rw[Xd (by cases o<;>simp_all [qV])]
abbrev XP:=Str->Prop
theorem nd{α}{a b:α}(h:a=b):a=b:=h
@[irreducible] noncomputable def Eo {α:Type} (m:Option (Res α)) (P:En->α->Prop) (X:XP):Prop:=match m with
 |some (.ok E a)=>P E a|some (.exc _ c)=>X c|none=>False
@[irreducible] noncomputable def Vo {α:Type} (m:Option α) (P:α->Prop):Prop:=match m with
 |some a=>P a|none=>False
@[irreducible] noncomputable def Oo (f:Fn) (xs:List Sd) (P:Sd->Prop) (X:XP):Prop:=match f xs with
 |some (.ok _ y)=>P y|some (.exc _ c)=>X c|none=>False
@[irreducible] noncomputable def Po (r:Option Fl) (N C:En->Prop) (R:Sd->Prop) (X:XP):Prop:=match r with
 |some (.nx E)=>N E|some (.ct E)=>C E|some (.rt _ x)=>R x|some (.xc _ c)=>X c|_=>False
abbrev noX:XP:=λ_=>False
section
variable {α β:Type}{P:En->α->Prop}{X:XP}{N C:En->Prop}{R:Sd->Prop}{E:En}
theorem vkp{a}:Eo (some (.ok E a)) P X=P E a:=nd (by ac_rfl)
theorem jZ{m}{f:En->β->Option _}:Eo (bnd m f) P X=Eo m (λE a=>Eo (f E a) P X) X:=by
 cases m with|none=>ac_rfl|some r=>cases r<;>ac_rfl
theorem vo_some{a}{P:α->Prop}:Vo (some a) P=P a:=nd (by ac_rfl)
theorem vo_map{x}{f:β->α}{P}:Vo (x.map f) P=Vo x (λa=>P (f a)):=by cases x<;>ac_rfl
theorem xx{x}:Eo (val E x) P X=Vo x (P E):=by cases x<;>ac_rfl
theorem wxr{E}:Po (some (.nx E)) N C R X=N E:=nd (by ac_rfl)
theorem KZ{m}{f:En->α->Option Fl}:Po (ofE m f) N C R X=Eo m (λE a=>Po (f E a) N C R X) X:=by
 cases m with|none=>ac_rfl|some r=>cases r<;>ac_rfl
theorem vzc{a b}:Po (j7 a b E) N C R X=Po (a E) (λE=>Po (b E) N C R X) C R X:=by
 unfold j7 Po;cases a E with|none=>ac_rfl|some r=>cases r<;>ac_rfl
theorem wxs{x:Option β}{f:β->Fl}:Po (x.map f) N C R X=Vo x (λa=>Po (some (f a)) N C R X):=by cases x<;>ac_rfl
theorem Eo.mono{m P'}(h:Eo m P X)(k:∀E a,P E a->P' E a):Eo m P' X:=by
 cases m with
 |none=>exists h
 |some r=>cases r with|ok E a=>exists k E a h|exc E c=>exists h
theorem Oo.mono{f xs P P'}(h:Oo f xs P X)(k:∀y,P y->P' y):Oo f xs P' X:=by
 unfold Oo at h ⊢;cases hf:f xs with
 |none=>simp_all
 |some r=>rw[hf]at h;cases r with|ok E a=>exists k a h|exc E c=>simp_all
theorem Oo.out{f xs P}(h:Oo f xs P noX):∃E y,f xs=some (.ok E y)/\P y:=by
 unfold Oo at h;cases hf:f xs with
 |none=>simp_all
 |some r=>rw[hf]at h;cases r with|ok E a=>with_unfolding_all exact#[E,a,rfl,h]|exc E c=>exists (h).elim
theorem k7{n b xs P}(h:Po (b (xs.map some++List.replicate (n - xs.length) none)) (λ_=>P (.dp,.non)) (λ_=>False) P X):Oo (fn n b) xs P X:=by
 unfold Oo fn;unfold Po at h;cases hb:b _ with|none=>simp_all|some r=>rw[hb]at h;cases r<;>exists h
theorem wqr{f cs P}:Eo (jx f cs E) P X=Eo (vY cs E) (λE xs=>Oo f (letAll xs) (P E) X) X:=by
 unfold jx;rw[jZ]
 congr 1
 funext E xs;unfold Oo;cases f _ with|none=>ac_rfl|some r=>cases r<;>ac_rfl
theorem vwz{f:Fn}{cs:List Ex}{P:En->Sd->Prop}:Eo (ZY f cs E) P X=Eo (vY cs E) (λE xs=>Oo f (letAll xs) (λy=>y.2.pure=true/\P E (.dp,y.2)) X) X:=by
 unfold ZY;rw[jZ]
 congr 1
 funext E xs;unfold Oo;cases f _ with
 | none=>ac_rfl
 | some r=>
  cases r with
  |exc=>ac_rfl
  |ok E1 y=>
   dsimp only
   by_cases hp:y.2.pure=true
   ·rw[Xd hp];with_unfolding_all exact propext #[λh=>#[hp,h],λh=>h.2]
   ·rw[Xi hp];with_unfolding_all exact propext #[λh=>(h).elim,λh=>hp h.1]
def xxf(d:D){α:Type}(a b:Option α):Option α:=match d with
 |.bl k=>if k=true then a else b|_=>none
theorem wv4(a b:Ex):Qq a b E=bnd (a E) λE x=>xxf x.2 (b E) (some (.ok E (.dp,.bl false))):=by
 unfold Qq xxf
 congr 1
 funext E x;cases x.2 with|bl k=>cases k<;>ac_rfl|_=>ac_rfl
theorem qjc{tg b}(I:En->List D->Prop)(hs:∀E d ds,I E (d::ds)->Vo (tg.put d E) λE1=>Po (b E1) (λE2=>I E2 ds) (λE2=>I E2 ds) R X)(h1:∀E,I E []->N E):∀ds E,I E ds->Po (KQ tg b ds E) N C R X
 | [],E,h=>by exists h1 E h
 | d::ds,E,h=>by
  have h2:=hs E d ds h;unfold KQ;cases hp:tg.put d E with
  | none=>rw[hp]at h2;exists (h2).elim
  | some E1=>
   rw[hp]at h2;have h2:Po (b E1) (λE2=>I E2 ds) (λE2=>I E2 ds) R X:=by exists h2
   dsimp only;cases hb:b E1 with
   |none=>rw[hb]at h2;exists (h2).elim
   |some r=>
    rw[hb]at h2;cases r with|nx E2=>exists qjc I hs h1 ds E2 h2|ct E2=>exists qjc I hs h1 ds E2 h2|rt E2 x=>exists h2|xc E2 c=>exists h2|bk E2=>exists (h2).elim
theorem qK{it tg}{b} I (h0:Eo (it E) I X)(hs:∀E d ds,I E (d::ds)->Vo (tg.put d E) λE1=>Po (b E1) (λE2=>I E2 ds) (λE2=>I E2 ds) R X)(h1:∀E,I E []->N E):Po (kW it tg b E) N C R X:=by
 show Po (ofE _ λE ds=>KQ tg b ds E) N C R X;rw[KZ]
 exists h0.mono λE ds h=>qjc I hs h1 ds E h
theorem kvd{t:Ts}{b:Sm}(I:Nat->En->Prop)(hs:∀n E,I n E->Eo (t E) (λE1 k=>if k=true then Po (b E1) (λE2=>∃m,m<n/\I m E2) (λE2=>∃m,m<n/\I m E2) R X else N E1) X):∀n E,I n E->Po (Jz t b E) N C R X:=by
 intro n
 induction n using Nat.strongRecOn with
 | _ n ih=>
  intro E h;have h2:=hs n E h;rw [vv0];unfold whF;cases ht:t E with
  | none=>rw[ht]at h2;exists (h2).elim
  | some r=>
   rw [ht]at h2;cases r with
   | exc E1 c=>exists h2
   | ok E1 k=>
    cases k with
    | false=>exists h2
    | true=>
     have h2:Po (b E1) (λE2=>∃m,m<n/\I m E2) (λE2=>∃m,m<n/\I m E2) R X:=by exists h2
     dsimp only;cases hb:b E1 with
     |none=>rw[hb]at h2;exists (h2).elim
     |some r=>
      rw[hb]at h2;cases r with|nx E2=>exact(show ∃m,m<n/\I m E2 by exists h2).elim λm hh=>ih m hh.1 E2 hh.2|ct E2=>exact(show ∃m,m<n/\I m E2 by exists h2).elim λm hh=>ih m hh.1 E2 hh.2|rt E2 x=>exists h2|xc E2 c=>exists h2|bk E2=>exists (h2).elim
theorem vkq{tg t c P}(J:En->List D->List Sd->Prop)(hs:∀B d ds af,J B (d::ds) af->Vo (tg.put d B) λB1=>Eo (t B1) (λB2 k=>if k=true then Eo (c B2) (λB3 y=>J B3 ds (af++[y])) X else J B2 ds af) X)(h1:∀B af,J B [] af->P B af):∀ds B af,J B ds af->Eo (lcL tg t c ds B af) P X
 | [],B,af,h=>by exists h1 B af h
 | d::ds,B,af,h=>by
  have h2:=hs B d ds af h;unfold lcL;cases hp:tg.put d B with
  | none=>rw[hp]at h2;exists (h2).elim
  | some B1=>
   rw[hp]at h2;have h2:Eo (t B1) (λB2 k=>if k=true then Eo (c B2) (λB3 y=>J B3 ds (af++[y])) X else J B2 ds af) X:=by exists h2
   rw[jZ];refine h2.mono λB2 k h3=>?_
   cases k with
   |false=>exists vkq J hs h1 ds B2 af h3
   |true=>
    show Eo (bnd _ _) P X;rw[jZ]
    exists Eo.mono h3 λB3 y h4=>vkq J hs h1 ds B3 _ h4
theorem QY{o k r it tg t c P}(J:En->En->List D->List Sd->Prop)(h0:Eo (it E) (λE1 ds=>J E1 (Wz k r E1) ds []) X)
  (hs:∀E1 B d ds af,J E1 B (d::ds) af->Vo (tg.put d B) λB1=>Eo (t B1) (λB2 k=>if k=true then Eo (c B2) (λB3 y=>J E1 B3 ds (af++[y])) X else J E1 B2 ds af) X) (h1:∀E1 B af,J E1 B [] af->Eo (mkL o (JJ k r B E1) af) P X):Eo (cLC o k r it tg t c E) P X:=by
 unfold cLC;rw[jZ];refine h0.mono λE1 ds hJ=>?_
 have:=vkq _ (hs E1) (h1 E1) ds _ _ hJ;cases hl:lcL tg t c ds _ []with|none=>rw[hl]at this;exists (this).elim|some q=>rw[hl]at this;cases q<;>exists this
end
theorem mulT_i{o1 a y}:J1 (o1,.int a) y=xjp (o1,.int a) y:=by
 unfold J1;ac_rfl
def sl(q:Option (Option Sd)):Option Sd:=match q with
 |some (some x)=>some x|_=>none
theorem sl_some{x}:sl (some (some x))=some x:=nd (by ac_rfl)
def xwf(d:D)(a b:Prop):Prop:=match d with
 |.bl k=>if k=true then a else b|_=>False
theorem andP_bl{k a b}:xwf (.bl k) a b=if k=true then a else b:=nd (by ac_rfl)
def Wo{α:Type}(m:Option α)(E:En)(P:En->α->Prop):Prop:=Vo m (P E)
theorem wo_some{α a E}{P:En->α->Prop}:Wo (some a) E P=P E a:=vo_some
theorem wo_map{α β x}{f:β->α}{E P}:Wo (x.map f) E P=Wo x E (λE a=>P E (f a)):=vo_map
def Oe(f:Fn)(xs:List Sd)(E:En)(P:En->Sd->Prop)(X:XP):Prop:=Oo f xs (P E) X
def intP(d:D)(P:Int->Prop):Prop:=match d with
 |.int i=>P i|_=>False
def Ie(d:D)(E:En)(P:En->Int->Prop):Prop:=intP d (P E)
theorem ie_i{i E P}:Ie (.int i) E P=P E i:=nd (by ac_rfl)
section
variable {P:En->Sd->Prop}{T:En->Bool->Prop}{X:XP}{N C:En->Prop}{R:Sd->Prop}{E:En}{e:Option Sd}{a b c:Ex}{t u:Ts}{i:Nat}
theorem w_seq{a b}:Po (j7 a b (e::E)) N C R X=Po (a (e::E)) (λE=>Po (b E) N C R X) C R X:=vzc
theorem w_asg:Po (jv i c (e::E)) N C R X=Eo (c (e::E)) (λE x=>N (E.set i (some x))) X:=by unfold jv;rw[KZ];ac_rfl
theorem w_ret:Po (jJ c (e::E)) N C R X=Eo (c (e::E)) (λ_ x=>R x) X:=by unfold jJ;rw[KZ];ac_rfl
theorem w_pass:Po (k4 (e::E)) N C R X=N (e::E):=nd (by ac_rfl)
theorem w_if{a b}:Po (sIf t a b (e::E)) N C R X=Eo (t (e::E)) (λE k=>if k=true then Po (a E) N C R X else Po (b E) N C R X) X:=by
 unfold sIf;rw[KZ];congr 1;funext E k;cases k<;>ac_rfl
theorem w_tup{is:List Nat}:Po (QQ is c (e::E)) N C R X=Eo (c (e::E)) (λE x=>Vo (Tg.put (.t is) x.2 E) N) X:=by
 unfold QQ;rw[KZ];congr 1;funext E x;rw[wxs];ac_rfl
theorem w_vV:Eo (vV i (e::E)) P X=Wo (sl (e::E)[i]?) (e::E) P:=by
 unfold vV Wo;cases(e::E)[i]? with|none=>ac_rfl|some q=>cases q<;>ac_rfl
theorem w_cV:Eo (cV i (e::E)) P X=Wo (sl (e::E)[i]?) (e::E) (λE x=>P (E.set i (some (.no,x.2))) (.no,x.2)):=by
 unfold cV Wo;cases(e::E)[i]? with|none=>ac_rfl|some q=>cases q<;>ac_rfl
theorem w_cMv:Eo (cMv i (e::E)) P X=Wo (sl (e::E)[i]?) (e::E) (λE x=>P (E.set i none) x):=by
 unfold cMv Wo;cases(e::E)[i]? with|none=>ac_rfl|some q=>cases q<;>ac_rfl
theorem w_cC{d}:Eo (cC d (e::E)) P X=P (e::E) (.dp,d):=nd (by ac_rfl)
theorem w_vE:Eo (vE c (e::E)) P X=Eo (c (e::E)) (λE x=>P E (.no,x.2)) X:=by unfold vE;rw[jZ];ac_rfl
theorem w_cH:Eo (cH c (e::E)) P X=Eo (c (e::E)) (λE x=>if x.1=.no then P E (.no,x.2)else if x.2.pure=true then P E (.dp,x.2)else False) X:=by
 unfold cH;rw[jZ]
 congr 1
 funext E x
 by_cases h:x.1=.no
 ·rw[Xd h,Xd h];ac_rfl
 ·rw[Xi h,Xi h]
  by_cases h2:x.2.pure=true
  ·rw[Xd h2,Xd h2];ac_rfl
  ·rw[Xi h2,Xi h2];ac_rfl
theorem w_f1{f}:Eo (cF1 f a (e::E)) P X=Eo (a (e::E)) (λE x=>Wo (f x) E P) X:=by
 unfold cF1;rw[jZ];congr 1;funext E x;exact xx
theorem w_f2{f}:Eo (cF2 f a b (e::E)) P X=Eo (a (e::E)) (λE x=>Eo (b E) (λE y=>Wo (f x y) E P) X) X:=by
 unfold cF2;rw[jZ];congr 1;funext E x;rw[jZ];congr 1;funext E y;exact xx
theorem w_ix:Eo (j9 a b (e::E)) P X=Eo (a (e::E)) (λE x=>Eo (b E) (λE y=>Wo (jW x.2 y.2) E (λE d=>P E (sub x.1,d))) X) X:=by
 unfold j9;rw[jZ];congr 1;funext E x;rw[jZ];congr 1;funext E y;rw[xx];exact vo_map
theorem w_tE:Eo (tE c (e::E)) T X=Eo (c (e::E)) (λE x=>Wo (truth x.2) E T) X:=by
 unfold tE;rw[jZ];congr 1;funext E x;exact xx
theorem w_tEQ:Eo (tEQ c (e::E)) T X=Eo (c (e::E)) (λE x=>Wo (truthQ x.2) E T) X:=by
 unfold tEQ;rw[jZ];congr 1;funext E x;exact xx
theorem w_tNot:Eo (tNot t (e::E)) T X=Eo (t (e::E)) (λE k=>T E (!k)) X:=by unfold tNot;rw[jZ];ac_rfl
theorem w_tAnd:Eo (tAnd t u (e::E)) T X=Eo (t (e::E)) (λE k=>if k=true then Eo (u E) T X else T E false) X:=by
 unfold tAnd;rw[jZ];congr 1;funext E k;cases k<;>ac_rfl
theorem w_tOr:Eo (tOr t u (e::E)) T X=Eo (t (e::E)) (λE k=>if k=true then T E true else Eo (u E) T X) X:=by
 unfold tOr;rw[jZ];congr 1;funext E k;cases k<;>ac_rfl
theorem w_tYes:Eo (tYes (e::E)) T X=T (e::E) true:=nd (by ac_rfl)
theorem w_cIf:Eo (cIf t a b (e::E)) P X=Eo (t (e::E)) (λE k=>if k=true then Eo (a E) P X else Eo (b E) P X) X:=by
 unfold cIf;rw[jZ];congr 1;funext E k;cases k<;>ac_rfl
theorem w_cAnd:Eo (Qq a b (e::E)) P X=Eo (a (e::E)) (λE x=>xwf x.2 (Eo (b E) P X) (P E (.dp,.bl false))) X:=by
 rw[wv4,jZ];congr 1;funext E x;cases x.2 with|bl k=>cases k<;>ac_rfl|_=>ac_rfl
theorem w_cNotQ:Eo (Wx c (e::E)) P X=Eo (c (e::E)) (λE x=>Wo (truthQ x.2) E (λE k=>P E (.dp,.bl (!k)))) X:=by
 unfold Wx;rw[jZ];congr 1;funext E x;rw[xx];exact vo_map
theorem w_call{f cs}:Eo (jx f cs (e::E)) P X=Eo (vY cs (e::E)) (λE xs=>Oe f (letAll xs) E P X) X:=by exists wqr
theorem w_callB{f:Fn}{cs:List Ex}:Eo (ZY f cs (e::E)) P X=Eo (vY cs (e::E)) (λE xs=>Oe f (letAll xs) E (λE y=>y.2.pure=true/\P E (.dp,y.2)) X) X:=by exists vwz
theorem w_partN{P}:Eo (W1 none (e::E)) P X=P (e::E) none:=nd (by ac_rfl)
theorem w_partS{P}:Eo (W1 (some c) (e::E)) P X=Eo (c (e::E)) (λE x=>Ie x.2 E (λE i=>P E (some i))) X:=by
 show Eo (bnd _ _) P X=_;rw[jZ];congr 1;funext E x;cases x.2<;>ac_rfl
theorem w_sl{lo hi}:Eo (cSl a lo hi (e::E)) P X=Eo (a (e::E)) (λE x=>Eo (W1 lo E) (λE l=>Eo (W1 hi E) (λE h=>Wo (fSl x l h) E P) X) X) X:=by
 unfold cSl;rw[jZ];congr 1;funext E x;rw[jZ];congr 1;funext E l;rw[jZ];congr 1;funext E h;exact xx
theorem w_idx:Eo (Kj a b (e::E)) P X=Eo (a (e::E)) (λE x=>if isSq x.2=true then Eo (b E) (λE y=>Wo (kz1 x.2 y.2) E (λE d=>P E (.dp,d))) X else False) X:=by
 unfold Kj;rw[jZ];congr 1;funext E x;cases isSq x.2 with
 |false=>ac_rfl
 |true=>
  show Eo (bnd _ _) P X=_;rw[jZ]
  congr 1;funext E y;rw[xx];exact vo_map
theorem w_itS{P}:Eo (itS c (e::E)) P X=Eo (c (e::E)) (λE x=>Wo (seqOf x.2) E P) X:=by
 unfold itS;rw[jZ]
 congr 1
 funext E x;exact xx
theorem w_itEn{P}:Eo (xj8 c (e::E)) P X=Eo (c (e::E)) (λE x=>Wo (lstOf x.2) E (λE ds=>P E (xK 0 ds))) X:=by
 unfold xj8;rw[jZ]
 congr 1
 funext E x;rw[xx];exact vo_map
end
theorem args_nil{e}{E:En}{P X}:Eo (vY [] (e::E)) P X=P (e::E) []:=nd (by ac_rfl)
theorem args_cons{e}{E:En}{c cs P X}:Eo (vY (c::cs) (e::E)) P X=Eo (c (e::E)) (λE x=>Eo (vY cs E) (λE xs=>P E (x::xs)) X) X:=by
 show Eo (bnd _ λE x=>bnd _ λE xs=>some _) P X=_;rw[jZ]
 congr 1
 funext E x;rw[jZ]
 ac_rfl
theorem eo_tup{e}{E:En}{cs P X}:Eo (kY .no cs (e::E)) P X=Eo (vY cs (e::E)) (λE xs=>P E (.no,.tup (xs.map (·.2)))) X:=by
 unfold kY;rw[jZ]
 ac_rfl
theorem eo_lst{e}{E:En}{cs P X}:Eo (kq .rt cs (e::E)) P X=Eo (vY cs (e::E)) (λE xs=>P E (.rt,.lst (xs.map (·.2)))) X:=by
 unfold kq;rw[jZ]
 ac_rfl
theorem xk8{i:Nat}{c}{E:En}{o xs N C R X}(h0:E[i]?=some (some (o,.lst xs)))
  (h:Eo (c E) (λE1 x=>∃o ys,E1[i]?=some (some (o,.lst ys))/\o≠.no/\ys.length<10000/\N (E1.set i (some (if o=.dp/\zK x then .dp else .rt,.lst (ys++[x.2]))))) X):Po (v4 v3 i c E) N C R X:=by
 unfold v4;rw[h0,Xd (show V4 _=true from rfl),KZ];refine h.mono ?_;rintro E1 x ⟨o,ys,h1,h2,h3,h4⟩;rw[h1];dsimp only;have hg:v3 ys x.2=some (ys++[x.2]):=by unfold v3;rw[Xd (by unfold big;lia)]
 rw[Xi h2,hg]
 exists h4
theorem vw{i:Nat}{c}{E:En}{xs N C R X}(h0:E[i]?=some (some (.rt,.lst xs)))
  (h:Eo (c E) (λE1 x=>∃ys,E1[i]?=some (some (.rt,.lst ys))/\ys.length<10000/\N (E1.set i (some (.rt,.lst (ys++[x.2]))))) X):Po (v4 v3 i c E) N C R X:=
 xk8 h0 (h.mono λE1 x hz=>by obtain⟨ys,h1,h2,h3⟩:=hz;exact#[.rt,ys,h1,⋯,h2,by rw[];exists h3])
theorem rng_ok{n}(h1:-1000<=n)(h2:n<=1000):(z6 n=true/\n.toNat<=big)=True:=by
 have:z6 n=true:=by unfold z6;rw[Xb ⋯,Xb ⋯];ac_rfl
 with_unfolding_all exact eq_true #[this,by unfold big;lia]
theorem kw8{α p}[Decidable p]{a}{P:En->α->Prop}{X}:Eo (if p then a else none) P X=(p/\Eo a P X):=by
 by_cases h:p
 ·simp_all
 ·rw[Xi h];with_unfolding_all exact propext #[λz=>z.elim,λz=>h z.1]
theorem w_R1{c e}{E:En}{P X}:Eo (wv c (e::E)) P X=Eo (c (e::E)) (λE x=>Ie x.2 E λE n=>(z6 n=true/\n.toNat<=big)/\P E (k6 0 n)) X:=by
 unfold wv;rw[jZ];congr 1;funext E x;cases x.2 with|int n=>exists kw8|_=>ac_rfl
theorem w_LR1{c e}{E:En}{P X}:Eo (QZ c (e::E)) P X=Eo (c (e::E)) (λE x=>Ie x.2 E λE n=>(z6 n=true/\n.toNat<=big)/\P E (.rt,.lst (k6 0 n))) X:=by
 unfold QZ;rw[jZ];congr 1;funext E x;cases x.2 with|int n=>exists kw8|_=>ac_rfl
theorem qxd{o:Own}{xs:List D}{lo hi:Option Int}(h:o≠.dp):fSl (o,.lst xs) lo hi=some (.rt,.lst (J3 xs lo hi)):=by
 show(if qV _ then _ else _)=_;rw[Xd (by cases o<;>simp_all [qV])]
theorem sub_no:sub .no=.no:=nd (by ac_rfl)
theorem sub_rt:sub .rt=.no:=nd (by ac_rfl)
theorem sub_dp:sub .dp=.dp:=nd (by ac_rfl)
theorem Oo.use{ι f xs}{g:ι->Sd}{S:ι->Prop}{E P X}(h:Oo f xs (λy=>∃i,y=g i/\S i) X)(k:∀i,S i->P E (g i)):Oe f xs E P X:=h.mono λy hz=>by obtain⟨i,e,s⟩:=hz;exact e▸k i s
theorem Oo.via{f xs S E P X}(h:Oo f xs S X)(k:∀y,S y->P E y):Oe f xs E P X:=h.mono k
theorem xV{E ys P X}:Eo (mkL .rt E ys) P X=P E (.rt,.lst (ys.map (·.2))):=nd (by ac_rfl)
theorem vzb{i:Nat}{c:Ex}{E:En}{o:Own}{xs:List D}{P:En->Sd->Prop}{X:XP}(h0:E[i]?=some (some (o,.lst xs)))
  (h:Eo (c E) (λE1 x=>∃(o:Own) (ys:List D) (k:Int) (d:D),E1[i]?=some (some (o,.lst ys))/\o≠.no/\x.2=.int k/\0<=k/\k<=1000/\ys[k.toNat]?=some d/\d.pure=true/\P (E1.set i (some (o,.lst (ys.eraseIdx k.toNat)))) (.dp,d)) X):Eo (XV i c E) P X:=by
 unfold XV;rw[h0,Xd (show V4 _=true from rfl),jZ];refine h.mono ?_;rintro E1 ⟨o',d'⟩ ⟨o,ys,k,d,h1,h2,e,k0,k1,h3,h4,h5⟩;subst e;have hl:=(List.getElem?_eq_some_iff.mp h3).1;have hx:ixN ys.length k=some k.toNat:=by unfold ixN;rw[Xd k0,Xd ⋯]
 have hs:z6 k=true:=by unfold z6;rw[Xb ⋯,Xb ⋯];ac_rfl
 rw[h1];dsimp only;rw[Xi h2,hx];dsimp only;rw[h3];dsimp only;rw[h4,hs,Xd ⋯,vkp];exact h5
theorem w_chain{f g a b c e}{E:En}{P X}:Eo (W7 f g a b c (e::E)) P X=Eo (a (e::E)) (λE x=>Eo (b E) (λE y=>Wo (f x.2 y.2) E λE d=>xwf d (Eo (c E) (λE z=>Wo (g y.2 z.2) E λE d=>P E (.dp,d)) X) (P E (.dp,.bl false))) X) X:=by
 unfold W7;rw [jZ]
 congr 1
 funext E x;rw [jZ]
 congr 1
 funext E y;cases f x.2 y.2 with
 | none=>ac_rfl
 | some d=>
  rw[wo_some];cases d with
  | bl k=>
   rw[andP_bl];cases k with
   |false=>ac_rfl
   |true=>
    dsimp only;rw[jZ]
    congr 1
    funext E z;rw[xx];exact vo_map
  |_=>ac_rfl
theorem Oo.any{f xs P X}(h:Oo f xs P noX):Oo f xs P X:=by
 unfold Oo at *;cases hf:f xs with
 |none=>simp_all
 |some r=>rw[hf]at h;cases r with|ok E a=>simp_all|exc E c=>exists (h).elim
section
variable {c kc vc:Ex}{e:Option Sd}{E:En}{X:XP}{N C:En->Prop}{R:Sd->Prop}
theorem ww0{P}:Eo (wv3 (e::E)) P X=P (e::E) (.rt,.dct []):=nd (by ac_rfl)
theorem wvz{P}:Eo (vxf kc vc (e::E)) P X=Eo (kc (e::E)) (λE k=>Eo (vc E) (λE v=>qZ k.2=true/\P E (.rt,.dct [(k.2,v.2)])) X) X:=by
 unfold vxf;rw[jZ];congr 1;funext E k;rw[jZ];congr 1;funext E v;rw[kw8,vkp]
theorem qkp{g0 g}{i:Nat}(h:Eo (vc E) (λE1 v=>g0 E1[i]?=true/\Eo (kc E1) (λE2 k=>∃s d,E2[i]?=some (some s)/\g s k.2 v.2=some d/\N (E2.set i (some (.rt,d)))) X) X):Po (W4 g0 g i kc vc E) N C R X:=by
 unfold W4;rw[KZ];refine h.mono λE1 v hz=>?_
 rw[Xd hz.1,KZ];refine hz.2.mono λE2 k hz=>?_
 obtain⟨s,d,e2,h3,h4⟩:=hz;rw[e2];dsimp only
 rwa [h3,Option.map_some,wxr]
theorem vku{i:Nat}(h:Eo (vc E) (λE1 v=>(∃kvs,E1[i]?=some (some (.rt,.dct kvs)))/\Eo (kc E1) (λE2 k=>∃kvs,E2[i]?=some (some (.rt,.dct kvs))/\qZ k.2=true/\(kvs.length<10000/\unm kvs=true)/\N (E2.set i (some (.rt,.dct (Kw kvs k.2 v.2))))) X) X):Po (vve i kc vc E) N C R X:=by
 refine qkp (h.mono λE1 v hz=>?_);obtain⟨⟨kvs,e1⟩,h1⟩:=hz;refine#[by rw[e1];rfl,h1.mono λE2 k hz=>?_];obtain⟨kvs2,e2,h2,h3,h4⟩:=hz;exact#[_,_,e2,by unfold wql;exact Xd #[h2,by unfold big;lia,h3.2],h4]
end
theorem wzo{x kvs}(h:qZ x=true)(hu:unm kvs=true):Qz x (.dct kvs)=some (.bl (!decide (x∈kvs.map (·.1)))):=by
 unfold Qz;dsimp only;rw[Xd #[h,hu]]
section
variable {a b c kc vc:Ex}{e:Option Sd}{E:En}{X:XP}{N C:En->Prop}{R:Sd->Prop}{P:En->Sd->Prop}
theorem wvw:Eo (xkr a b (e::E)) P X=Eo (a (e::E)) (λE x=>Eo (b E) (λE y=>Wo (xjq x.2 y.2) E (λE d=>P E (.dp,d))) X) X:=by
 unfold xkr;rw[jZ];congr 1;funext E x;rw[jZ];congr 1;funext E y;rw[xx];exact vo_map
theorem vxp:Eo (vv4 a b c (e::E)) P X=Eo (a (e::E)) (λE x=>xjd x.2=true/\Eo (b E) (λE y=>Eo (c E) (λE z=>Wo (vko x.2 y.2 z.2) E (λE d=>P E (.dp,d))) X) X) X:=by
 unfold vv4;rw[jZ];congr 1;funext E x;rw[kw8];congr 1;rw[jZ];congr 1;funext E y;rw[jZ];congr 1;funext E z;rw[xx];exact vo_map
theorem wvu{z}:Eo (vxd z c (e::E)) P X=Eo (c (e::E)) (λE x=>Wo (vkn z x.2) E (λE d=>P E (.dp,d))) X:=by
 unfold vxd;rw[jZ];congr 1;funext E x;rw[xx];exact vo_map
theorem qwo{P}:Eo (vju c (e::E)) P X=Eo (c (e::E)) (λE x=>Wo (vv6 x.2) E (λE ds=>P E (xK 0 ds))) X:=by
 unfold vju;rw[jZ];congr 1;funext E x;rw[xx];exact vo_map
theorem v_is{i:Nat}{o ds P}(h:E[i]?=some (some (o,.lst ds)))(hp:D.pures ds=true)(k:P E ds):Eo (itV i E) P X:=by
 unfold itV;rw[h];dsimp only
 rwa [Xd hp,vkp]
theorem wvx:Eo (wv2 (e::E)) P X=P (e::E) (.rt,wj []):=nd (by ac_rfl)
theorem qzd{i:Nat}(h:Eo (vc E) (λE1 v=>V4 E1[i]?=true/\Eo (kc E1) (λE2 k=>∃(o:Own) (xs:List D) (j:Int) (n:Nat),E2[i]?=some (some (o,.lst xs))/\o≠.no/\k.2=.int j/\ixN xs.length j=some n/\N (E2.set i (some (.rt,.lst (xs.set n v.2))))) X) X):Po (ZX i kc vc E) N C R X:=by
 refine qkp (h.mono λE1 v hz=>#[hz.1,hz.2.mono λE2 k hz=>?_]);obtain⟨o,xs,j,n,e2,ho,hk,hn,h4⟩:=hz;exact#[_,_,e2,by unfold xw0;rw[hk];dsimp only;rw[Xi ho,hn];rfl,h4]
theorem wqf{i:Nat}(h:Eo (vc E) (λE1 v=>vjw E1[i]?=true/\Eo (kc E1) (λE2 k=>∃(kv:List _) (x y:Int),E2[i]?=some (some (.rt,wj kv))/\k.2=.int x/\v.2=.int y/\kv.length<10000/\N (E2.set i (some (.rt,wj (qX kv x y))))) X) X):Po (wjr i kc vc E) N C R X:=by
 refine qkp (h.mono λE1 v hz=>#[hz.1,hz.2.mono λE2 k hz=>?_]);obtain⟨kv,x,y,e2,hk,hv,hl,h4⟩:=hz;refine#[_,_,e2,?_,h4];unfold wqk;rw[hk,hv];dsimp only;rw[WZ,Option.bind_some,Xd (by unfold big;lia)]
theorem wj8{f}{i:Nat}{o x}(h0:E[i]?=some (some (o,.int x)))(h:Eo (vc E) (λE1 v=>∃y,v.2=.int y/\N (E1.set i (some (.dp,.int (f x y))))) X):Po (YQ f i vc E) N C R X:=by
 unfold YQ;rw[h0,KZ];refine h.mono ?_;rintro E1 v ⟨y,e1,h1⟩
 rwa [e1,wxr]
end
theorem xje{k kv}:Vz (.int k) (wj kv)=some (.bl (jQ kv k).isSome):=by
 unfold Vz;rw[WZ]
theorem xvt{k v kv}(h:jQ kv k=some v):xjq (wj kv) (.int k)=some (.int v):=by
 unfold xjq;rw[WZ];dsimp only;rw[h];rfl
theorem vzs{k z kv}:vko (wj kv) (.int k) (.int z)=some (.int ((jQ kv k).getD z)):=by
 unfold vko;rw[WZ]
theorem xjb{kv}:xjd (wj kv)=true:=by
 unfold xjd;rw[WZ];rfl
theorem xjs{o}{ps:List (Int×Int)}(h:ps.length<10000):ZK (o,.lst (ps.map λp=>D.tup [.int p.1,.int p.2]))=some (.rt,wj (ps.foldl (λkv p=>qX kv p.1 p.2) [])):=by
 unfold ZK;dsimp only;rw[qzj];dsimp only;rw[Xd (by unfold big;lia)]
end Q
namespace C
open PySem Q
noncomputable def m_read_by:Fn:=fn 8
  (j7 (sIf (tOr (tE (cF2 (f2First fIsNon) (vV 1) (vE (cC .non)))) (tE (cF2 (pu2 zW) (vV 2) (j9 (vV 0) (C9 0))))) (jJ (cC .non)) k4)
  (j7 (jv 4 (cH (j9 (vV 1) (C9 1))))
  (j7 (jv 5 (cH (j9 (j9 (j9 (j9 (vV 0) (C9 1)) (j9 (vV 1) (C9 0))) (C9 2)) (vE (Kj (j9 (vV 0) (C9 0)) (vV 2))))))
  (j7 (jv 6 (cH (j9 (vV 5) (vE (cIf (tE (cF2 (pu2 zX) (vV 3) (vV 4))) (Kj (vV 4) (vV 3)) (cF1 (pu1 kz) (vV 4)))))))
  (j7 (sIf (tE (cF2 (f2First fIsNon) (vV 6) (vE (cC .non)))) (jJ (cC .non)) k4)
  (j7 (jv 7 (cF2 jX (vV 4) (vE (kY .no [(cV 3)]))))
  (jJ (kY .no [(cH (j9 (vV 6) (C9 0))),(cF1 z8 (vE (cLC .rt 1 [7] (itS (cH (j9 (vV 6) (C9 1)))) (.n 0) tYes (cH (j9 (vV 1) (vV 0))))))]))))))))
end C
local macro_rules
 | `(tactic| simp![$ts,*])=>do
  let f:=λ(p s:String)=>((s.splitOn " ").map λs=>Lean.mkIdent (p++s).toName).toArray
  let a:=f "_root_.Q." "w_seq w_asg w_ret w_pass w_if w_tup w_vV w_cV w_cMv w_cC w_vE w_cH w_f1 w_f2 w_ix w_tE w_tEQ w_tNot w_tAnd w_tOr w_tYes w_cIf w_cAnd w_cNotQ w_call w_callB w_partN w_partS w_sl w_idx w_itS w_itEn w_chain w_R1 w_LR1 ie_i andP_bl vo_some vo_map wo_some wo_map args_nil args_cons eo_tup eo_lst"
  let b:=f "_root_." "Q.rng_ok true_and Q.isSq Q.sl_some Q.letAll Q.pu2 Q.pu1 Q.f2First Q.fIsNon Q.fNotNon Q.isNon List.map_cons List.map_nil List.cons_append List.nil_append Xm List.length_nil X3 List.replicate List.set_cons_zero List.set_cons_succ List.getElem?_cons_zero List.getElem?_cons_succ Q.len_l Q.len_t Q.lt_ii Q.gt_ii Q.le_ii Q.ge_ii Q.add_i Q.sub_i Q.div_i Q.mod_i Q.mulT_i Q.mul_l Option.map_some Q.truth Q.truthQ Q.D.pure if_true if_false ite_true ite_false Q.sub_no Q.sub_rt Q.sub_dp Bool.false_eq_true Bool.not_true Bool.not_false Q.Tg.put Q.setAll Q.seqOf Q.lstOf"
  `(tactic| simp(config:={maxSteps:=1000000,failIfUnchanged:=false,implicitDefEqProofs:=true}) (disch:=lia) only[$[↓$a:ident],*,$[$b:ident],*,Nat.reduceAdd,Nat.reduceSub,↓reduceIte,reduceCtorEq,$ts,*])
namespace C
open Q PySem
abbrev most:Int:=1000*10 ^ 64
abbrev iL(ns:List Int):D:=.lst (ns.map D.int)
def Each(G:D->Sd->Prop):List D->List Sd->Prop
 |[],[]=>True|d::ds,y::ys=>G d y/\Each G ds ys|_,_=>False
theorem Each.snoc{G d y}(h:G d y):∀{ds ys},Each G ds ys->Each G (ds++[d]) (ys++[y])
 |[],[],_=>#[h,trivial]|_::_,_::_,r=>#[r.1,Each.snoc h r.2]
theorem Qx{X E o}{r:List Nat}{it c P}(ab:En) G (h0:Eo (it E) (λE1 ds=>r.map (at' E1)=ab/\(∀d∈ds,Eo (c (some (.no,d)::ab)) (λB y=>(∃q,B=q::ab)/\G d y) X)/\∀ys,Each G ds ys->Eo (mkL o (back r ab (clr r E1)) ys) P X) X):Eo (cLC o 1 r it (.n 0) tYes c E) P X:=by
 refine QY (λE1 B ds2 af=>∃ds ds1 q,ds=ds1++ds2/\B=q::ab/\Each G ds1 af/\(∀d∈ds,Eo (c (some (.no,d)::ab)) (λB y=>(∃q,B=q::ab)/\G d y) X)/\∀ys,Each G ds ys->Eo (mkL o (back r ab (clr r E1)) ys) P X) ?_ ?_ ?_
 ·refine h0.mono λE1 ds hz=>by obtain⟨h1,h2,h3⟩:=hz;exact#[ds,[],none,rfl,by rw[<-h1];rfl,trivial,h2,h3]
 ·rintro E1 B d ds2 af ⟨ds,ds1,q,e,rfl,hE,h2,h3⟩;have hp:(Tg.n 0).put d (q::ab)=some _:=rfl;rw[hp,vo_some,show tYes _=some _ from rfl,vkp];refine(h2 d (by rw[e];simp)).mono ?_;rintro B y ⟨⟨q',rfl⟩,hG⟩;exact#[ds,ds1++[d],q',by rw[e];simp,rfl,hE.snoc hG,h2,h3]
 ·rintro E1 B af ⟨ds,ds1,q,e,rfl,hE,h2,h3⟩;rw[Xs]at e;subst e;exact h3 af hE
theorem kke{G}{S:Int->Prop}(hG:∀d y,G d y->∃i,y.2=.int i/\S i):∀{ds ys},Each G ds ys->∃ps:List Int,ys.map (·.2)=ps.map D.int/\ps.length=ds.length/\∀p∈ps,S p
 |[],[],_=>#[[],rfl,rfl,λ_ h=>nomatch h]
 |d::ds,y::ys,r=>by
  obtain⟨i,e,s⟩:=hG d y r.1;obtain⟨ps,h1,h2,h3⟩:=kke hG r.2;exact#[i::ps,by simp[e,h1],by simp[h2],λp hp=>(aD hp).elim (λz=>z▸s) (h3 p)]
theorem qxx{n}:k6 n n=[]:=by unfold k6;rw[Int.sub_self];rfl
theorem kq6{k n}(h:k<n):k6 k n=.int k::k6 (k+1) n:=by
 unfold k6;have:(n - k).toNat=(n - (k+1)).toNat+1:=by
  obtain⟨m,hm⟩:=Int.eq_ofNat_of_zero_le (show 0<=n - (k+1)by lia);rw[hm,show n - k=(m+1:Nat)by lia];rfl
 rw[this,List.range_succ_eq_map,List.map_cons,Xj]
 congr 1
 ·simp
 ·apply Yb;intro i _
  grind
theorem xX{k n d ds}(hk:k<=n)(h:d::ds=k6 k n):k<n/\d=.int k/\ds=k6 (k+1) n:=by
 by_cases hl:k<n
 ·rw[kq6 hl]at h;injection h with h1 h2;exact#[hl,h1,h2]
 ·have:k=n:=⋯
  subst this;rw[qxx]at h
  grind
theorem zw{k n}(hk:k<=n)(h:[]=k6 k n):k=n:=by
 by_cases hl:k<n
 ·rw[kq6 hl]at h;cases h
 ·lia
theorem qjr{k n d}(h:d∈k6 k n):∃i,k<=i/\i<n/\d=.int i:=by
 obtain⟨j,hj,rfl⟩:=aE h;have:=List.mem_range.mp hj;exact#[k+j,⋯,⋯,rfl]
theorem vjg{k n}(h:k<=n):((k6 k n).length:Int)=n - k:=by
 unfold k6;rw[X3,Y8];lia
theorem qqm z i (h0:0<=i)(h1:i<z.cps.size):∃c,jW (.str z) (.int i)=some (.str #[(List.toArray [c])]):=by
 have:i.toNat<z.cps.toList.length:=by rw[Y5];lia
 refine#[z.cps.toList[i.toNat],?_];show((ixN z.cps.size i).bind λj=>(z.cps.toList[j]?).map λc=>D.str #[(List.toArray [c])])=_;unfold ixN;rw[Xd h0,Xd h1];show((z.cps.toList[i.toNat]?).map λc=>D.str #[(List.toArray [c])])=_;rw[X1 this];rfl
theorem vqo{o1 o2 a b}(h:a.cps.size+b.cps.size<=10000):jX (o1,.str a) (o2,.str b)=some (.dp,.str (a++b)):=by
 show(if a.cps.size+b.cps.size<=big then _ else _)=_;rw[Xd (by unfold big;lia)]
theorem kv2(a b:Str):(a++b).cps.size=a.cps.size+b.cps.size:=by
 exact Array.size_append
theorem qj0:∀ss,JQ (ss.map D.str)=some ss
 |[]=>rfl|s::ss=>by rw[List.map_cons,JQ,qj0 ss];rfl
abbrev sL(ss:List Str):D:=.lst (ss.map D.str)
theorem ixI ks (S:Int->Prop)(hS:∀k∈ks,S k) i (h0:0<=i)(h1:i<ks.length):∃v,jW (iL ks) (.int i)=some (.int v)/\S v/\ks[i.toNat]?=some v:=by
 have hl:i.toNat<ks.length:=⋯
 refine#[ks[i.toNat],wY h0 (by rw[Xg,X1 hl];rfl),hS _ (Xn hl),X1 hl]
theorem x9{n}:∀{ks},(∀k∈ks,k.flat n=true)->D.flats n ks=true
 |[],_=>by cases n<;>simp[D.flats]|k::ks,h=>by rw[D.flats,h k X5,x9 λe he=>h e (lc9 _ he)];rfl
mutual
theorem WQ:∀{n} (d),d.flat n=true->peq d d=true
 |n,.non,_=>by simp[peq]|n,.bl b,_=>by simp[peq]|n,.int b,_=>by simp[peq]|n,.str b,_=>by simp[peq]|n+1,.tup xs,h=>peqs_refl xs (by simpa [D.flat]using h)|n+1,.lst xs,h=>peqs_refl xs (by simpa [D.flat]using h)|n,.dct _,h=>by cases n<;>simp[D.flat]at h|n,.obj _ _,h=>by cases n<;>simp[D.flat]at h
theorem peqs_refl:∀{n} ds,D.flats n ds=true->peqs ds ds=true
 |_,[],_=>by simp[peqs]
 |n,d::ds,h=>by
  rw[D.flats,Bool.and_eq_true]at h;rw[peqs,WQ d h.1,peqs_refl ds h.2];rfl
end
theorem eq_self{d}(h:d.flat 40=true):fEq d d=some (.bl true):=by unfold fEq;rw[h,WQ d h];rfl
theorem qjo{d}(h:d.flat 40=true):fNe d d=some (.bl false):=by unfold fNe;rw[h,WQ d h];rfl
theorem p0(a b:D):jW (.tup [a,b]) (.int 0)=some a:=rfl
theorem p1(a b:D):jW (.tup [a,b]) (.int 1)=some b:=rfl
theorem t0(a b c:D):jW (.tup [a,b,c]) (.int 0)=some a:=rfl
theorem t1(a b c):jW (.tup [a,b,c]) (.int 1)=some b:=rfl
theorem t2(a b c):jW (.tup [a,b,c]) (.int 2)=some c:=rfl
theorem Ww{G h}(hG:∀d y,G d y->y.2=h d):∀{ds ys},Each G ds ys->ys.map (·.2)=ds.map h
 |[],[],_=>rfl|d::ds,y::ys,r=>by rw[List.map_cons,List.map_cons,hG d y r.1,Ww hG r.2]
abbrev jq(ss:List Str)(rs:List D):D:=.tup [sL ss,.lst rs]
theorem kvt{α:Type}[DecidableEq α]:∀{l m:List α},l.Nodup->(∀x∈l,x∈m)->l.length<=m.length
 |[],_,_,_=>Y6 _
 |a::l,m,nd,h=>by
  rw[Z3]at nd;have ha:=h a X5;have:=kvt nd.2 λx hx=>(List.mem_erase_of_ne (by rintro rfl;exact nd.1 hx)).mpr (h x (lc9 _ hx))
  grind
theorem vzo{o xs}(h:o≠.dp):W0 (o,.lst xs)=some (.rt,.lst xs):=by
 show(if qV _ then _ else _)=_;rw[Xd (by cases o<;>simp_all [qV])]
theorem vwc{z ss}:zW (.str z) (sL ss)=some (.bl (!ss.any λw=>w==z)):=by
 show W6 _ _=_;unfold W6;have:fIn (.str z) (sL ss)=some (.bl (ss.any λw=>w==z)):=by
  show(if(D.str z).flat 30&&D.flats 30 _ then some _ else none)=_;rw[x9 (λk hk=>by obtain⟨w,_,rfl⟩:=aE hk;rfl),List.any_map];rfl
 rw[this];rfl
theorem Q1{p}{ks:List Int}:zX (.int p) (.tup (ks.map D.int))=some (.bl (ks.any λw=>w==p)):=by
 show(if(D.int p).flat 30&&D.flats 30 _ then some _ else none)=_;rw[x9 (λk hk=>by obtain⟨w,_,rfl⟩:=aE hk;rfl),List.any_map];rfl
theorem QK{p}{ks:List Int}:(ks.any λw=>w==p)=decide (p∈ks):=by
 rw[Bool.eq_iff_iff];simp
def v6(own k:Int):Int:=own+(if k=own then 1 else 0)
def Cs(a9:List Int)(b:Int)(c:D):Prop:=c=.non\/∃(to:Int) (fs:List Int),c=.tup [.int to,.tup (fs.map D.int)]/\0<=to/\to<a9.length/\(∀f∈fs,0<=f/\f<b)/\fs.Nodup/\(fs.length:Int)=a9.getD to.toNat 0
theorem Vk{α:Type}:∀{l:List α} {i} (h),(l[i]::l.eraseIdx i).Perm l
 |a::l,0,h=>List.Perm.refl _
 |a::l,i+1,h=>by
  have:=Vk (by simpa using h);exact(List.Perm.swap ..).trans (this.cons a)
theorem kkc{α β:Type}(f:α->β):∀(l:List α) (i),(l.map f).eraseIdx i=(l.eraseIdx i).map f
 |[],_=>rfl|a::l,0=>rfl|a::l,i+1=>by rw[List.map_cons,List.eraseIdx_cons_succ,List.eraseIdx_cons_succ,List.map_cons,kkc f l i]
theorem vkj(a b:Int):J7 (.bl (a==b))=some (.int (if a=b then 1 else 0)):=by
 by_cases h:a=b
 ·rw[Xd h,show(a==b)=true by simpa using h];rfl
 ·rw[Xi h,show(a==b)=false by simpa using h];rfl
def Pr(a9:List Int)(n:Nat)(own:Int)(d:D):Prop:=∃(gd:Bool) (st:List D),d=.tup [.int own,.bl gd,.lst st]/\st.length=n/\∀c∈st,∃cs:List D,c=.lst cs/\(cs.length:Int)=own+1/\∀k:Nat,k<cs.length->∃z,cs[k]?=some z/\Cs a9 (v6 own k) z
def Prs(a9:List Int)(n:Nat)(rs:List D):Prop:=rs.length=a9.length/\∀i:Nat,i<a9.length->∃r,rs[i]?=some r/\Pr a9 n (a9.getD i 0) r
theorem qk3{α:Type}{p}:∀{l:List α},l.any p=true->l.findIdx? p=some (l.findIdx p)
 | [],h=>by cases h
 | a::l,h=>by
  rw[List.findIdx?_cons,List.findIdx_cons];cases hp:p a with
  |true=>simp
  |false=>
   rw[Zi,hp]at h;rw[qk3 h];simp
theorem xw2{α:Type}{p}{l:List α}(h:l.any p=true):l.findIdx p<l.length:=by
 obtain⟨x,hx,hp⟩:=List.any_eq_true.mp h;exact Yu #[x,hx,hp]
theorem xjo{α:Type}{p}{l:List α}(h:l.any p=false):l.findIdx p=l.length:=by
 rw[List.findIdx_eq_length];intro x hx;cases hp:p x with|false=>rfl|true=>rw[List.any_eq_true.mpr #[x,hx,hp]]at h;cases h
theorem xjf{z ss}(h:(ss.any λw=>w==z)=true):kz1 (sL ss) (.str z)=some (.int (ss.findIdx λw=>w==z:Nat)):=by
 show(if(D.str z).flat 30&&D.flats 30 _ then((ss.map D.str).findIdx? λw=>peq w _).map λ(j:Nat)=>D.int j else none)=_;rw[x9 (λk hk=>by obtain⟨w,_,rfl⟩:=aE hk;rfl),List.findIdx?_map];have:ss.findIdx? ((λw=>peq w (.str z))∘D.str)=ss.findIdx? λw=>w==z:=rfl
 rw[this,qk3 h];rfl
theorem vwq{p}{ks:List Int}(h:(ks.any λw=>w==p)=true):kz1 (.tup (ks.map D.int)) (.int p)=some (.int (ks.findIdx λw=>w==p:Nat)):=by
 show(if(D.int p).flat 30&&D.flats 30 _ then((ks.map D.int).findIdx? λw=>peq w _).map λ(j:Nat)=>D.int j else none)=_;rw[x9 (λk hk=>by obtain⟨w,_,rfl⟩:=aE hk;rfl),List.findIdx?_map];have:ks.findIdx? ((λw=>peq w (.int p))∘D.int)=ks.findIdx? λw=>w==p:=rfl
 rw[this,qk3 h];rfl
theorem wja{a b}(hl:a.length+b.length<=10000):jX (.no,.tup a) (.no,.tup b)=some (.no,.tup (a++b)):=by
 show(if a.length+b.length<=big/\qV _/\qV _ then _ else _)=_;rw[Xd #[by unfold big;lia,rfl,rfl]]
abbrev iT(ks:List Int):D:=.tup (ks.map D.int)
def nameAt(ks:List Int)(p:Int)(f:Int):Int:=(ks++[p]).getD f.toNat 0
def V5(ks:List Int)(p:Int)(c:D):D:=match c with
 |.tup [to,.tup fs]=>.tup [to,.tup (fs.map λf=>match f with|.int i=>.int (nameAt ks p i)|_=>.non)]
 |_=>.non
theorem caseD_is{ks fs p to}:V5 ks p (.tup [.int to,iT fs])=.tup [.int to,iT (fs.map (nameAt ks p))]:=by
 unfold V5 iT;simp[Function.comp]
def z7(ss:List Str)(st:List D)(ks:List Int)(z:Str)(p:Int):D:=match st[ss.findIdx λw=>w==z]? with
 |some (.lst cs)=>cs.getD (ks.findIdx λw=>w==p) .non|_=>.non
def x6(ss:List Str)(st:List D)(ks:List Int)(z:Str)(p:Int):D:=if(ss.any λw=>w==z)=true then V5 ks p (z7 ss st ks z p)else .non
def Cas(a9:List Int)(n:Nat)(own:Int)(st:List D):Prop:=st.length=n/\∀c∈st,∃cs:List D,c=.lst cs/\(cs.length:Int)=own+1/\∀k:Nat,k<cs.length->∃z,cs[k]?=some z/\Cs a9 (v6 own k) z
theorem xw3{ks:List Int}{p}:(ks.findIdx λw=>w==p)<=ks.length:=List.findIdx_le_length
theorem kzc{a9 ss st ks}{z} p (h:Cas a9 ss.length ks.length st)(hz:(ss.any λw=>w==z)=true):∃cs,st[ss.findIdx λw=>w==z]?=some (.lst cs)/\(cs.length:Int)=ks.length+1/\cs[ks.findIdx λw=>w==p]?=some (z7 ss st ks z p)/\Cs a9 (v6 ks.length (ks.findIdx λw=>w==p:Nat)) (z7 ss st ks z p):=by
 have hj:(ss.findIdx λw=>w==z)<st.length:=by rw[h.1];exact xw2 hz
 obtain⟨cs,e,hl,hc⟩:=h.2 st[ss.findIdx λw=>w==z] (Xn hj);have hg:st[ss.findIdx λw=>w==z]?=some (.lst cs):=by rw[X1 hj,e]
 have gw:=xw3 (ks:=ks) (p:=p);obtain⟨c,e2,hC⟩:=hc (ks.findIdx λw=>w==p) ⋯;have hca:z7 ss st ks z p=c:=by unfold z7;rw[hg];dsimp only;rw[X4,e2];rfl
 exact#[cs,hg,hl,by rw[hca];exact e2,by rw[hca];exact hC]
theorem vj3{ks p f}(h0:0<=f)(h1:f<=ks.length):jW (.tup (ks.map D.int++[.int p])) (.int f)=some (.int (nameAt ks p f)):=by
 refine xx7 h0 ?_;rw[show ks.map D.int++[D.int p]=(ks++[p]).map D.int by simp,Xg];unfold nameAt;rw[X4,X1 (by simp;lia)];rfl
theorem qkc{own k}:v6 own k<=own+1:=by unfold v6;split<;>lia
theorem xvs{a0 a1 a2 a5 a6 a7 o3 o4 ks p P X}:Eo (cIf (tE (cF2 (pu2 zX) (vV 3) (vV 4))) (Kj (vV 4) (vV 3)) (cF1 (pu1 kz) (vV 4)) [a0,a1,a2,some (o3,.int p),some (o4,iT ks),a5,a6,a7]) P X=P [a0,a1,a2,some (o3,.int p),some (o4,iT ks),a5,a6,a7] (.dp,.int (ks.findIdx λw=>w==p:Nat)):=by
 cases hp:(ks.any λw=>w==p)with|true=>simp![Q1,hp,vwq hp]|false=>simp![Q1,hp,xjo hp]
theorem wjx{a9 ss rs st kp gd room ks z p}(h0:0<=room)(hr:rs[room.toNat]?=some (.tup [kp,gd,.lst st]))(hc:Cas a9 ss.length ks.length st)(hl:ks.length<=1000):
  Oo m_read_by [(.no,jq ss rs),(.no,.tup [.int room,iT ks]),(.no,.str z),(.no,.int p)] (λy=>y.2=x6 ss st ks z p) noX:=by
 have hi:jW (.lst rs) (.int room)=some (.tup [kp,gd,.lst st]):=wY h0 hr;have hif:=λa5 a6 a7 P=>@xvs (some (.no,jq ss rs)) (some (.no,.tup [.int room,iT ks])) (some (.no,.str z)) a5 a6 a7 .no .no ks p P noX
 unfold x6 m_read_by;generalize cIf _ _ _=I at hif ⊢;refine k7 ?_;cases hz:(ss.any λw=>w==z)with
 | false=>simp![p0,vwc,hz]
 | true=>
  obtain⟨cs,g1,g2,g3,g4⟩:=kzc p hc hz;have hx:jW (.lst st) (.int (ss.findIdx λw=>w==z:Nat))=some (.lst cs):=wY ⋯ (by rw[Y2];exact g1);have hy:jW (.lst cs) (.int (ks.findIdx λw=>w==p:Nat))=some (z7 ss st ks z p):=wY ⋯ (by rw[Y2];exact g3);have fc:=wja (a:=ks.map D.int) (b:=[.int p]) (by simp;lia);have ml:=xjf hz;have hb:=qkc (own:=ks.length) (k:=(ks.findIdx λw=>w==p:Nat));generalize z7 ss st ks z p=c at g4 hy;rw[Xd rfl];rcases g4 with rfl|⟨to,fs,rfl,t0',t1',hfs,_⟩
  ·simp![p0,p1,vwc,hz,hi,t2,ml,hx,hif,hy];rfl
  ·simp![p0,p1,vwc,hz,hi,t2,ml,hx,hif,hy,fc];refine Qx [some (.no,.tup (ks.map D.int++[.int p]))] (λf y=>y.2=match f with|.int i=>.int (nameAt ks p i)|_=>.non) ?_;simp![p1];refine#[rfl,λf hf=>?_,λys hy=>?_]
   ·obtain⟨i,jh,rfl⟩:=aE hf;have:=hfs i jh;simp![vj3 (ks:=ks) (p:=p) (f:=i) this.1 ⋯];exact#[#[_,rfl],trivial]
   ·rw[xV,Ww (h:=λf=>match f with|.int i=>.int (nameAt ks p i)|_=>.non) (λd y h=>h) hy,Xj,show(_∘D.int)=D.int∘nameAt ks p from rfl,<-Xj];simp only[back,clr,at',List.set_cons_zero,List.set_cons_succ];simp![tup_l (o:=.no) (xs:=(fs.map (nameAt ks p)).map D.int) ⋯];exact caseD_is.symm
theorem ne_empty ns:fNe (iL ns) (.lst [])=some (.bl (!ns.isEmpty)):=by
 unfold fNe;have:(iL ns).flat 40=true:=by
  exact x9 λk hk=>by obtain⟨w,_,rfl⟩:=aE hk;rfl
 rw[this,show(D.lst []).flat 40=true from rfl];cases ns with|nil=>simp[peq,peqs]|cons a r=>simp[peq,peqs]
theorem neg1:zx (.int 1)=some (.int (-1)):=rfl
theorem xvo{a b:Int}:xxb (.int a) (.int b)=some (.int (if b<a then b else a)):=rfl
theorem cut_to{xs c}(h0:0<=c)(h1:c<=xs.length):J3 xs none (some c)=xs.take c.toNat:=by
 unfold J3 V8;dsimp only;rw[Xi ⋯,List.drop_zero,Nat.sub_zero,Nat.min_eq_left (Int.toNat_le.mpr h1)]
def Ok2(a9:List Int)(s:D):Prop:=s=.non\/∃(room:Int) (ks:List Int),s=.tup [.int room,iT ks]/\0<=room/\room<a9.length/\(ks.length:Int)=a9.getD room.toNat 0
noncomputable def Rd(a9:List Int)(ss:List Str)(rs:List D)(s:D)(w:Str×Int)(s':D):Prop:=(s=.non/\s'=.non)\/∃(room:Int) (ks:List Int) (st:List D) (kp gd:D),s=.tup [.int room,iT ks]/\0<=room/\rs[room.toNat]?=some (.tup [kp,gd,.lst st])/\Cas a9 ss.length ks.length st/\ks.length<=6/\s'=x6 ss st ks w.1 w.2
abbrev _root_.Abk(l:List Int):Prop:=∀p∈l,0<=p/\p<=3
theorem vvl{a9 ss rs}{s} w (hP:Prs a9 ss.length rs)(hk:Abk a9)(h:Ok2 a9 s):∃s',Rd a9 ss rs s w s'/\Ok2 a9 s'/\((ss.any λz=>z==w.1)=false->s'=.non):=by
 rcases h with rfl|⟨room,ks,rfl,r0,r1,hl⟩
 ·exact#[.non,.inl #[rfl,rfl],.inl rfl,λ_=>rfl]
 ·obtain⟨r,er,gd,st,rfl,gq,bg⟩:=hP.2 room.toNat ⋯;have ig:=hk (a9.getD room.toNat 0) (by rw[X4,X1 ⋯];exact Xn _);have kh:Cas a9 ss.length ks.length st:=#[gq,by rw[hl];exact bg];refine#[x6 ss st ks w.1 w.2,.inr #[room,ks,st,_,_,rfl,r0,er,kh,⋯,rfl],?_,λhz=>?_]
  ·unfold x6;cases hz:(ss.any λz=>z==w.1)with
   |false=>exact .inl rfl
   |true=>
    obtain⟨cs,g1,g2,g3,g4⟩:=kzc w.2 kh hz;rcases g4 with e|⟨to,fs,e,t0,t1,_,_,lr⟩
    ·rw[e];exact .inl rfl
    ·rw[e,caseD_is];exact .inr #[to,_,rfl,t0,t1,by rw[X3];exact lr]
  ·unfold x6;rw[hz];rfl
theorem qkz{a9 ss rs s s' w}(h:Rd a9 ss rs s w s'):Oo m_read_by [(.no,jq ss rs),(.no,s),(.no,.str w.1),(.no,.int w.2)] (λy=>y.2=s') noX:=by
 rcases h with⟨rfl,rfl⟩|⟨room,ks,st,kp,gd,rfl,r0,er,hc,hl,rfl⟩
 ·refine k7 ?_;simp![]
 ·exact wjx r0 er hc ⋯
abbrev Lw:=List (Str×Int)
def Ch2(a9:List Int)(ss:List Str)(rs:List D):D->Lw->D->Prop
 |s,[],s'=>s=s'|s,x::r,s'=>∃m,Rd a9 ss rs s x m/\Ch2 a9 ss rs m r s'
noncomputable section
end
noncomputable section
end
end C
namespace B
open PySem Q
def m_keepers_in:Fn:=fn 2
  (jJ (cIf (tE (cF2 (pu2 fEq) (vV 1) (vE (cC (.int (-1)))))) (cC (.int 0)) (cH (j9 (j9 (j9 (vV 0) (C9 1)) (vV 1)) (C9 0)))))
def m_standing_in:Fn:=fn 2
  (jJ (cIf (tE (cF2 (pu2 fEq) (vV 0) (vE (cC (.int (-1)))))) (cC .non) (kY .no [(cV 0),(cF1 z8 (vV 1))])))
noncomputable def m_first_standings:Fn:=fn 7
  (j7 (jv 3 (jx m_keepers_in [(cV 0),(cH (j9 (vV 2) (C9 0)))]))
  (j7 (jv 4 (cF1 ZK (vE (cLC .rt 2 [] (itS (cH (j9 (vV 2) (C9 2)))) (.t [0,1]) tYes (kY .no [(cV 1),(cV 0)])))))
  (j7 (jv 5 (kq .rt []))
  (j7 (kW (wv (vE (jx m_keepers_in [(cV 1),(cH (j9 (vV 2) (C9 1)))]))) (.n 6) (v4 v3 5 (cIf (tE (cF2 (pu2 Vz) (vV 6) (vV 4))) (cH (xkr (vV 4) (vV 6))) (cF2 jX (vV 3) (vE (cF1 (pu1 kz) (vE (cLC .rt 1 [3] (itV 5) (.n 0) (tE (cF2 (pu2 fGe) (vV 0) (vV 1))) (cV 0)))))))))
  (jJ (kY .no [(jx m_standing_in [(cH (j9 (vV 2) (C9 0))),(QZ (vV 3))]),(ZY m_standing_in [(j9 (vV 2) (C9 1)),(vV 5)])]))))))
def m_names_of:Fn:=fn 1
  (jJ (cIf (tE (cF2 (f2First fIsNon) (vV 0) (vE (cC .non)))) (kY .no []) (cH (j9 (vV 0) (C9 1)))))
def m_room_of:Fn:=fn 1
  (jJ (cIf (tE (cF2 (f2First fIsNon) (vV 0) (vE (cC .non)))) (cC (.int (-1))) (cH (j9 (vV 0) (C9 0)))))
noncomputable def m_pair_of:Fn:=fn 4
  (j7 (jv 1 (jx m_names_of [(cH (j9 (vV 0) (C9 0)))]))
  (j7 (jv 2 (jx m_names_of [(cH (j9 (vV 0) (C9 1)))]))
  (j7 (jv 3 (cLC .rt 2 [2] (vju (cV 1)) (.t [0,1]) (tE (cF2 (pu2 zX) (vV 1) (vV 2))) (kY .no [(cV 0),(Kj (vV 2) (vV 1))])))
  (jJ (kY .no [(jx m_room_of [(cH (j9 (vV 0) (C9 0)))]),(jx m_room_of [(cH (j9 (vV 0) (C9 1)))]),(cF1 z8 (vV 3))])))))
def m_read_by_both:Fn:=fn 5
  (jJ (kY .no [(jx C.m_read_by [(cV 0),(cH (j9 (vV 2) (C9 0))),(cV 3),(cV 4)]),(jx C.m_read_by [(cV 1),(cH (j9 (vV 2) (C9 1))),(cV 3),(cV 4)])]))
def m_held_by_both:Fn:=fn 2
  (j7 (jv 1 (jx m_names_of [(cH (j9 (vV 0) (C9 0)))]))
  (jJ (cF2 jX (vV 1) (vE (cF1 z8 (vE (cLC .rt 1 [1] (itS (jx m_names_of [(cH (j9 (vV 0) (C9 1)))])) (.n 0) (tE (cF2 (pu2 zW) (vV 0) (vV 1))) (cV 0))))))))
def m_is_good_in:Fn:=fn 2
  (jJ (Qq (vE (cF2 (pu2 fNe) (vV 1) (vE (cC (.int (-1)))))) (cH (j9 (j9 (j9 (vV 0) (C9 1)) (vV 1)) (C9 1)))))
def m_agrees:Fn:=fn 3
  (jJ (cF2 (pu2 fEq) (vE (jx m_is_good_in [(cV 0),(cH (j9 (vV 2) (C9 0)))])) (vE (jx m_is_good_in [(cV 1),(cH (j9 (vV 2) (C9 1)))]))))
end B
namespace B
open Q PySem C
abbrev Sn:=Option (Int×List Int)
def stn:Sn->D
 |none=>.non|some p=>.tup [.int p.1,iT p.2]
def nms:Sn->List Int
 |none=>[]|some p=>p.2
def rmO:Sn->Int
 |none=>-1|some p=>p.1
theorem kj3 s:Oo m_names_of [(.no,stn s)] (λy=>y=(.no,iT (nms s))) noX:=by
 cases s with
 |none=>
  refine k7 ?_;simp![stn];rfl
 |some p=>
  refine k7 ?_;simp![stn,p1];rfl
theorem qxn s:Oo m_room_of [(.no,stn s)] (λy=>∃o',y=(o',.int (rmO s))/\True) noX:=by
 cases s with
 |none=>
  refine k7 ?_;simp![stn];exact#[_,rfl,trivial]
 |some p=>
  refine k7 ?_;simp![stn,p0];exact#[_,rfl,trivial]
theorem vqe{a9 aa ss rs rs' s s' t t' w}(h:Rd a9 ss rs s w s')(h':Rd aa ss rs' t w t'):Oo m_read_by_both [(.no,jq ss rs),(.no,jq ss rs'),(.no,.tup [s,t]),(.no,.str w.1),(.no,.int w.2)] (λy=>y=(.no,.tup [s',t'])) noX:=by
 refine k7 ?_;simp![p0];refine(qkz h).via ?_;rintro ⟨o,d⟩ e;cases(show d=s' from e);simp![p1];refine(qkz h').via ?_;rintro ⟨o',d⟩ e;cases(e);simp![]
def kZ(o t:List Int):List Int:=o++t.filter λn=>!(o.any λw=>w==n)
theorem wzn{p}{ks:List Int}:zW (.int p) (.tup (ks.map D.int))=some (.bl (!(ks.any λw=>w==p))):=by
 show W6 _ _=_;unfold W6;have:fIn _ (.tup _)=some (.bl (ks.any λw=>w==p)):=Q1;rw[this];rfl
theorem vk4(a b)(ha:(nms a).length<=100)(hb:(nms b).length<=100):Oo m_held_by_both [(.no,.tup [stn a,stn b])] (λy=>y=(.no,iT (kZ (nms a) (nms b)))) noX:=by
 refine k7 ?_;simp![p0];refine(kj3 a).via ?_;rintro _ rfl;simp![p1];refine QY (λE1 B ds af=>E1=[some (Own.no,D.tup [stn a,stn b]),some (.no,iT (nms a))]/\∃q f1 f2,B=[q,some (.no,iT (nms a))]/\nms b=f1++f2/\ds=f2.map D.int/\af.map (·.2)=(f1.filter λn=>!(nms a).any λw=>w==n).map D.int) ?_ ?_ ?_
 ·simp![p1];refine(kj3 b).via ?_;rintro _ rfl;simp![];exact#[none,[],nms b,rfl,rfl,rfl,rfl]
 ·rintro E1 B d ds af ⟨rfl,q,f1,f2,rfl,hf,bj,az⟩;cases f2 with
  | nil=>cases bj
  | cons z f2=>
   injection bj with e1 e2;subst e1 e2;simp![wzn];cases hz:((nms a).any λw=>w==z)with
   |true=>
    refine#[_,f1++[z],f2,rfl,by rw[hf];simp,rfl,?_];rw[az,Yj];simp[hz]
   |false=>
    refine#[_,f1++[z],f2,rfl,by rw[hf];simp,rfl,?_];rw[X7,az,Yj];simp[hz]
 ·rintro E1 B af ⟨rfl,q,f1,f2,rfl,hf,bj,az⟩;cases f2 with
  |cons=>grind
  |nil=>
   rw[Xs]at hf;subst hf;have gw:((nms b).filter λn=>!(nms a).any λw=>w==n).length<=100:=Ye (List.length_filter_le _ _) hb;rw[xV,az];simp![Q.tup_l (o:=.no) (xs:=((nms b).filter λn=>!(nms a).any λw=>w==n).map D.int) ⋯,wja (a:=(nms a).map D.int) (b:=((nms b).filter λn=>!(nms a).any λw=>w==n).map D.int) (by rw[X3,X3];lia)];unfold kZ iT;rw[X7]
def jY(t:List Int):Nat->List Int->List (Int×Int)
 |_,[]=>[]|k,n::o=>if(t.any λw=>w==n)=true then((k:Int),((t.findIdx λw=>w==n:Nat):Int))::jY t (k+1) o else jY t (k+1) o
abbrev prs(l:List (Int×Int)):List D:=l.map λp=>.tup [.int p.1,.int p.2]
def v9(a b:Sn):D:=.tup [.int (rmO a),.int (rmO b),.tup (prs (jY (nms b) 0 (nms a)))]
theorem qvj(a b)(ha:(nms a).length<=100)(hb:(nms b).length<=100):Oo m_pair_of [(.no,.tup [stn a,stn b])] (λy=>y=(.no,v9 a b)) noX:=by
 refine k7 ?_;simp![p0,p1];refine(kj3 a).via ?_;rintro _ rfl;simp![p0,p1];refine(kj3 b).via ?_;rintro _ rfl;simp![];refine QY (λE1 B ds af=>E1=[some (Own.no,D.tup [stn a,stn b]),some (Own.no,iT (nms a)),some (Own.no,iT (nms b)),none]/\∃(q0 q1:Option Sd) (f1 f2:List Int),B=[q0,q1,some (.no,iT (nms b))]/\nms a=f1++f2/\ds=xK f1.length (f2.map D.int)/\af.map (·.2)++prs (jY (nms b) f1.length f2)=prs (jY (nms b) 0 (nms a))) ?_ ?_ ?_
 ·simp![↓qwo,show vv6 (iT (nms a))=some ((nms a).map D.int)from rfl];exact#[none,none,[],nms a,rfl,rfl,rfl,rfl]
 ·rintro E1 B d ds af ⟨rfl,q0,q1,f1,f2,rfl,hf,bj,az⟩;cases f2 with
  | nil=>cases bj
  | cons z f2=>
   injection bj with e1 e2;subst e1 e2;simp![Q1];have im:(f1++[z]).length=f1.length+1:=by simp
   cases hz:((nms b).any λw=>w==z)with
   |false=>
    refine#[_,_,f1++[z],f2,rfl,by rw[hf];simp,by rw[im],?_];rw[<-az,im]
    conv=>rhs;unfold jY
    rw[hz,Xi ⋯]
   |true=>
    simp![vwq hz];refine#[_,_,f1++[z],f2,rfl,by rw[hf];simp,by rw[im],?_];rw[<-az,im,X7,Xq]
    conv=>rhs;unfold jY
    rw[hz,Xd rfl];rfl
 ·rintro E1 B af ⟨rfl,q0,q1,f1,f2,rfl,hf,bj,az⟩;cases f2 with
  |cons=>cases bj
  |nil=>
   have az:af.map (·.2)=prs (jY (nms b) 0 (nms a)):=by rw[<-az];simp[jY]
   rw[xV,az,show JJ 2 [2] [q0,q1,some (Own.no,iT (nms b))] [some (Own.no,D.tup [stn a,stn b]),some (Own.no,iT (nms a)),some (Own.no,iT (nms b)),none]=[some (Own.no,D.tup [stn a,stn b]),some (Own.no,iT (nms a)),some (Own.no,iT (nms b)),none]from rfl];simp![p0,p1];refine(qxn a).use ?_;intro o1 _;simp![p0,p1];refine(qxn b).use ?_;intro o2 _;simp![Q.tup_l (o:=.rt) (xs:=prs (jY (nms b) 0 (nms a))) ⋯];rfl
def Kpr(rs:List D)(room k:Int):Prop:=(room=-1/\k=0)\/(0<=room/\∃g st,rs[room.toNat]?=some (.tup [.int k,g,st]))
theorem eqi{a b k}(h:(a==b)=k):fEq (.int a) (.int b)=some (.bl k):=by rw[<-h];rfl
theorem kqd{ss rs room k}(h:Kpr rs room k):Oo m_keepers_in [(.no,jq ss rs),(.no,.int room)] (λy=>∃o',y=(o',.int k)/\True) noX:=by
 refine k7 ?_;rcases h with⟨rfl,rfl⟩|⟨h0,g,st,hr⟩
 ·simp![eqi rfl];exact#[_,rfl,trivial]
 ·have br:(room == -1)=false:=Xu ⋯;simp![p1,eqi br,(wY h0 hr),show jW (.tup [.int k,g,st]) (.int 0)=some _ from rfl];exact#[_,rfl,trivial]
def vj(room:Int)(ks:List Int):Sn:=if room=-1 then none else some (room,ks)
theorem kjc room ks o (ho:o≠.dp):Oo m_standing_in [(.no,.int room),(o,iL ks)] (λy=>∃o',y=(o',stn (vj room ks))/\True) noX:=by
 unfold m_standing_in vj;refine k7 ?_
 by_cases h:room=-1
 ·subst h;simp![eqi rfl];exact#[_,rfl,trivial]
 ·have br:_=false:=Xu h;rw[Xi h];simp![eqi br,Q.tup_l ho];exact#[_,rfl,trivial]
def nmF(own:Int)(kv:List (Int×Int)):Nat->List Int
 |0=>[]
 |n+1=>nmF own kv n++[match jQ kv n with
  |some i=>i
  |none=>own+((nmF own kv n).filter λx=>decide (own<=x)).length]
theorem jz9:∀(ks:List Int),D.pures (ks.map D.int)=true
 |[]=>rfl
 |k::ks=>by
  rw[List.map_cons];unfold D.pures;rw[jz9 ks];rfl
theorem jxs own kv n:nmF own kv (n+1)=nmF own kv n++[match jQ kv n with|some i=>i|none=>own+((nmF own kv n).filter λx=>decide (own<=x)).length]:=rfl
theorem qxo k:k6 0 k=(((List.range k.toNat).map λ(i:Nat)=>(i:Int)).map D.int):=by
 unfold k6;rw[Xj,Int.sub_zero];refine Yb λi _=>?_
 show D.int _=D.int i;rw[Int.zero_add]
theorem vvu s:(stn s).pure=true:=by
 cases s with
 |none=>rfl
 |some p=>
  show D.pures [.tup _]=true;simp only[D.pures,D.pure,jz9,Bool.and_self]
theorem JZ(own)(kv):∀n,(nmF own kv n).length=n
 |0=>rfl|n+1=>by unfold nmF;rw[Xf,JZ own kv n];rfl
def kvS(sh:List (Int×Int)):List (Int×Int):=(sh.map λp=>(p.2,p.1)).foldl (λkv p=>qX kv p.1 p.2) []
theorem vwy {ss rs rs' p q k k' sh} (hp:Kpr rs p k) (hq:Kpr rs' q k') (hk:0<=k) (nv:k<=100) (av:0<=k') (hk2':k'<=100) (f7:sh.length<=100):
  Oo m_first_standings [(.no,jq ss rs),(.no,jq ss rs'),(.no,.tup [.int p,.int q,.tup (prs sh)])] (λy=>y=(.no,.tup [stn (vj p ((List.range k.toNat).map λ(i:Nat)=>(i))),stn (vj q (nmF k (kvS sh) k'.toNat))])) noX:=by
 refine k7 ?_;simp![t0,t1,t2];refine (kqd hp).use ?_;intro o1 _;simp![t0,t1,t2];refine QY (λE1 B ds af=>E1=[some (Own.no,jq ss rs),some (Own.no,jq ss rs'),some (Own.no,D.tup [D.int p,D.int q,D.tup (prs sh)]),some (o1,D.int k),none,none,none]/\∃(q0 q1:Option Sd) (f1 f2:List (Int×Int)),B=[q0,q1]/\sh=f1++f2/\ds=prs f2/\af.map (·.2)=prs (f1.map λp=>(p.2,p.1))) ?_ ?_ ?_
 ·simp![t2];exact #[none,none,[],sh,rfl,rfl,rfl,rfl]
 ·rintro E1 B d ds af ⟨rfl,q0,q1,f1,f2,rfl,hf,bj,az⟩;cases f2 with
  | nil=>cases bj
  | cons z f2=>
   have bj:d::ds=.tup [.int z.1,.int z.2]::prs f2:=bj;injection bj with e1 e2;subst e1 e2;simp![];refine#[_,_,f1++[z],f2,rfl,by rw[hf];simp,rfl,?_];rw [X7,az,X7];simp [prs]
 ·rintro E1 B af ⟨rfl,q0,q1,f1,f2,rfl,hf,bj,az⟩;cases f2 with
  | cons=>cases bj
  | nil =>
   rw [Xs]at hf;subst hf;rw [xV,az,show JJ 2 [] [q0,q1] [some (Own.no,jq ss rs),some (Own.no,jq ss rs'),some (Own.no,D.tup [D.int p,D.int q,D.tup (prs sh)]),some (o1,D.int k),none,none,none]=[some (Own.no,jq ss rs),some (Own.no,jq ss rs'),some (Own.no,D.tup [D.int p,D.int q,D.tup (prs sh)]),some (o1,D.int k),none,none,none]from rfl];have iz:ZK (Own.no,D.lst (prs (sh.map λp=>(p.2,p.1))))=some (.rt,wj (kvS sh)):=xjs (by rw[X3];lia);simp![iz];refine qK (λE ab=>∃(j:Int) (l6:Option Sd),E=[some (Own.no,jq ss rs),some (Own.no,jq ss rs'),some (Own.no,D.tup [D.int p,D.int q,D.tup (prs sh)]),some (o1,D.int k),some (.rt,wj (kvS sh)),some (.rt,iL (nmF k (kvS sh) j.toNat)),l6]/\0<=j/\j<=k'/\ab=k6 j k') ?_ ?_ ?_
   ·simp![t0,t1,t2];refine(kqd hq).use ?_;intro o2 _;simp![];exact#[0,_,rfl,⋯,av,rfl]
   ·rintro E d ds ⟨j,l6,rfl,j0,j1,hr⟩;obtain⟨hj,rfl,rfl⟩:=xX j1 hr;have u6:(j+1).toNat=j.toNat+1:=⋯
    have uk:((j.toNat:Nat):Int)=j:=⋯
    simp![];refine vw rfl ?_;cases hv:jQ (kvS sh) j with
    | some v=>
     simp![↓wvw,xje,xvt hv,hv,Option.isSome_some];refine#[_,rfl,by rw[X3,JZ];lia,j+1,some (.no,.int j),?_,⋯,⋯,rfl];rw [u6,jxs,uk,hv];simp
    | none=>
     simp![↓wvw,xje,hv,Option.isSome_none];have hge:∀z,fGe (.int z) (.int k)=some (.bl (decide (k<=z))):=λz=>rfl
     refine QY (λE1 B ds af=>E1=[some (Own.no,jq ss rs),some (Own.no,jq ss rs'),some (Own.no,D.tup [D.int p,D.int q,D.tup (prs sh)]),some (o1,D.int k),some (.rt,wj (kvS sh)),some (.rt,iL (nmF k (kvS sh) j.toNat)),some (.no,.int j)]/\∃(q0:Option Sd) (f1 f2:List Int),B=[q0,some (o1,.int k)]/\nmF k (kvS sh) j.toNat=f1++f2/\ds=f2.map D.int/\af.map (·.2)=(f1.filter λx=>decide (k<=x)).map D.int) ?_ ?_ ?_
     ·exact v_is rfl (jz9 _) (#[rfl,none,[],_,rfl,rfl,rfl,rfl])
     ·rintro E1 B d ds af ⟨rfl,q0,f1,f2,rfl,hf,bj,az⟩;cases f2 with
      | nil=>cases bj
      | cons z f2=>
       rw[List.map_cons]at bj;injection bj with e1 e2;subst e1 e2;simp![hge]
       by_cases hz:k<=z
       ·have iu:decide (k<=z)=true:=Xb hz;simp![iu];refine#[_,f1++[z],f2,rfl,by rw[hf];simp,rfl,?_];rw[X7,az,Yj];simp[hz]
       ·have iu:decide (k<=z)=false:=Xl hz;simp![iu];refine#[_,f1++[z],f2,rfl,by rw[hf];simp,rfl,?_];rw[az,Yj];simp[hz]
     ·rintro E1 B af ⟨rfl,q0,f1,f2,rfl,hf,bj,az⟩;cases f2 with
      |cons=>cases bj
      |nil=>
       rw[Xs]at hf;rw[xV,az,<-hf];simp![];refine#[_,rfl,by rw[X3,JZ];lia,j+1,some (.no,.int j),?_,⋯,⋯,rfl];rw[u6,jxs,uk,hv];have:∀l (v),l.map D.int++[D.int v]=(l++[v]).map D.int:=λl v=>by simp
       rw[this];rfl
   ·rintro E ⟨j,l6,rfl,j0,j1,hr⟩;have:=zw j1 hr;subst this;simp![t0,t1,t2];rw[qxo];refine(kjc p ((List.range k.toNat).map λ(i:Nat)=>(i)) .no ⋯).use ?_;intro o3 _;simp![t0,t1,t2];refine(kjc q (nmF k (kvS sh) j.toNat) .no ⋯).use ?_;intro o4 _;refine#[vvu _,?_];simp![]
abbrev kX(k:Int):List Int:=(List.range k.toNat).map λ(i:Nat)=>(i:Int)
def xw1(p k:Int):Sn:=vj p (kX k)
def K0(q k k':Int)(sh:List (Int×Int)):Sn:=vj q (nmF k (kvS sh) k'.toNat)
def vW(f:Int->Int):Sn->Sn:=Option.map λp=>(p.1,p.2.map f)
theorem Zv f s:nms (vW f s)=(nms s).map f:=by cases s<;>rfl
theorem kv9 f s:rmO (vW f s)=rmO s:=by cases s<;>rfl
section
variable {f:Int->Int}
theorem vqj{x n}(h:f x=f n->x=n):(f x==f n)=(x==n):=by
 rw[Bool.eq_iff_iff];simp;exact#[h,λe=>by rw[e]]
theorem kwe{n}:∀{t:List Int},(∀x∈t,f x=f n->x=n)->((t.map f).any λw=>w==f n)=t.any λw=>w==n
 |[],_=>rfl
 |x::t,h=>by
  rw[List.map_cons,Zi,Zi,vqj (h x X5),kwe λy hy=>h y (lc9 _ hy)]
theorem kw4{n}:∀{t:List Int},(∀x∈t,f x=f n->x=n)->((t.map f).findIdx λw=>w==f n)=t.findIdx λw=>w==n
 |[],_=>rfl
 |x::t,h=>by
  rw[List.map_cons,List.findIdx_cons,List.findIdx_cons,vqj (h x X5),kw4 λy hy=>h y (lc9 _ hy)]
theorem qxf{t}:∀{o} (k),(∀n∈o,∀x∈t,f x=f n->x=n)->jY (t.map f) k (o.map f)=jY t k o
 |[],_,_=>rfl
 |n::o,k,h=>by
  have h1:=h n X5;rw[List.map_cons];unfold jY;rw[kwe h1,kw4 h1,(qxf (k+1) λm hm=>h m (lc9 _ hm))]
theorem qzs{s t}(h:∀n∈nms s,∀x∈nms t,f x=f n->x=n):v9 (vW f s) (vW f t)=v9 s t:=by
 unfold v9;rw[kv9,kv9,Zv,Zv,qxf 0 h]
theorem qvr{ks c i}(h:i.toNat<ks.length+1):C.nameAt (ks.map f) (f c) i=f (C.nameAt ks c i):=by
 unfold C.nameAt;rw[show ks.map f++[f c]=(ks++[c]).map f by simp,X4,X4,Xg,X1 (by simpa using h)];rfl
theorem qvq{ks c i}(h:i.toNat<ks.length+1):C.nameAt ks c i∈ks\/C.nameAt ks c i=c:=by
 unfold C.nameAt;rw[X4,X1 _];have:(ks++[c])[i.toNat]'(by simpa using h)∈ks++[c]:=Xn _;rcases aA this with q|q
 ·exact .inl q
 ·exact .inr (by simpa using q)
theorem qw6{ss st ks z c}(h:∀x∈ks,f x=f c->x=c):z7 ss st (ks.map f) z (f c)=z7 ss st ks z c:=by
 unfold z7;rw[kw4 h]
def qv(a9:List Int)(s:Sn):Prop:=∀room ks,s=some (room,ks)->0<=room/\room<a9.length/\(ks.length:Int)=a9.getD room.toNat 0
theorem wwo{a9 ss rs S z c}(hP:Prs a9 ss.length rs)(hk:Abk a9)(hS:qv a9 S)(qf:∀x∈nms S,f x=f c->x=c):
  ∃ s',Rd a9 ss rs (stn S) (z,c) (stn s')/\Rd a9 ss rs (stn (vW f S)) (z,f c) (stn (vW f s'))/\(∀n∈nms s',n∈nms S\/n=c)/\(nms s').length<=100/\qv a9 s':=by
 cases S with
 | none=>exact#[none,.inl #[rfl,rfl],.inl #[rfl,rfl],λ_ h=>(nomatch h),Y6 _,λ_ _ h=>(nomatch h)]
 | some P=>
  obtain⟨room,ks⟩:=P;obtain⟨r0,r1,hl⟩:=hS room ks rfl;obtain⟨r,er,gd,st,rfl,gq,bg⟩:=hP.2 room.toNat ⋯;have ig:=hk (a9.getD room.toNat 0) (by rw[X4,X1 ⋯];exact Xn _);have kh:Cas a9 ss.length ks.length st:=#[gq,by rw[hl];exact bg];have vb:Cas a9 ss.length (ks.map f).length st:=by rw[X3];exact kh
  have inj:∀x∈ks,f x=f c->x=c:=qf;have done:∀s',x6 ss st ks z c=stn s'->x6 ss st _ z (f c)=stn _->_->(nms s').length<=100->qv a9 s'->∃s',Rd a9 ss rs _ (z,c) _/\Rd a9 ss rs _ (z,f c) (stn (vW f s'))/\(∀n∈nms s',n∈nms (some (room,ks))\/n=c)/\(nms s').length<=100/\qv a9 s':=λs' h1 h2 h3 h4 h5=>
   #[s',.inr #[room,ks,st,_,_,rfl,r0,er,kh,⋯,h1.symm],.inr #[room,ks.map f,st,_,_,rfl,r0,er,vb,by rw[X3];lia,h2.symm],h3,h4,h5]
  cases hz:(ss.any λw=>w==z)with
  | false=>
   refine done none ?_ ?_ (λ_ h=>(nomatch h)) (Y6 _) (λ_ _ h=>(nomatch h))
   ·unfold x6;rw[hz];rfl
   ·unfold x6;rw[hz];rfl
  | true=>
   obtain⟨cs,g1,g2,g3,g4⟩:=kzc c kh hz;have e1:x6 ss st ks z c=V5 ks c (z7 ss st ks z c):=by unfold x6;rw[hz,Xd rfl]
   have e2:x6 ss st (ks.map f) z (f c)=V5 (ks.map f) (f c) (z7 ss st ks z c):=by unfold x6;rw[hz,Xd rfl,qw6 inj]
   rcases g4 with e|⟨to,fs,e,t0,t1,hfs,_,lr⟩
   ·refine done none ?_ ?_ (λ_ h=>(nomatch h)) (Y6 _) (λ_ _ h=>(nomatch h))
    ·rw[e1,e];rfl
    ·rw[e2,e];rfl
   ·have hb:=qkc (own:=ks.length) (k:=(ks.findIdx λw=>w==c:Nat));have cz:∀i∈fs,i.toNat<ks.length+1:=λi hi=>by have:=hfs i hi;lia
    refine done (some (to,fs.map (C.nameAt ks c))) ?_ ?_ (λn hn=>?_) ?_ (λow uo h=>?_)
    ·rw[e1,e,caseD_is];rfl
    ·rw[e2,e,caseD_is];show D.tup [.int to,iT _]=D.tup [.int to,iT ((fs.map _).map f)];rw[Xj]
     congr 4
     exact Yb λi hi=>qvr (cz i hi)
    ·obtain⟨i,hi,rfl⟩:=aE hn;exact qvq (cz i hi)
    ·show(fs.map _).length<=100;rw[X3];have:=hk (a9.getD to.toNat 0) (by rw[X4,X1 ⋯];exact Xn _);lia
    ·injection h with h;injection h with h3 h4;subst h3 h4;exact#[t0,t1,by rw[X3];exact lr]
end
end B
namespace B
open PySem Q
def m__law_cell_at:Fn:=fn 2
  (j7 (sIf (tE (cF2 (pu2 fLt) (vV 1) (vE (cF1 (pu1 kz) (vV 0))))) (jJ (cH (j9 (vV 0) (vV 1)))) k4)
  (jJ (cC (.int 0))))
def m__law_whole:Fn:=fn 1
  (jJ (Qq (vE (cF1 (pu1 (vk "int")) (vV 0))) (Wx (vE (cF1 (pu1 (vk "bool")) (vV 0))))))
noncomputable def m__law_stream:Fn:=fn 5
  (j7 (jv 2 (kq .rt []))
  (j7 (sIf (tE (cF2 (pu2 fEq) (vE (cF2 (pu2 kJ) (vV 0) (C9 2))) (C9 1))) (j7 (jv 0 (cF2 (pu2 vz) (vV 0) (C9 2)))
  (j7 (kW (wv (vV 1)) (.n 3) (j7 (v4 v3 2 (cF2 (pu2 kJ) (vV 0) (C9 2147483647)))
  (jv 0 (cF2 (pu2 vz) (vV 0) (C9 2147483647)))))
  (jJ (cMv 2)))) k4)
  (j7 (jv 4 (cF2 jX (vE (cF2 (pu2 kJ) (vE (cF2 (pu2 vz) (vV 0) (C9 2))) (C9 2147483647))) (C9 48271)))
  (j7 (kW (wv (vE (cF2 jX (vV 1) (C9 1)))) (.n 3) (j7 (jv 4 (cF2 (pu2 kJ) (vE (cF2 jX (vE (cF2 jX (vE (cF2 J1 (vV 4) (vV 4))) (vE (cF2 J1 (C9 48271) (vV 4))))) (vV 3))) (C9 2147483647)))
  (v4 v3 2 (cF2 (pu2 kJ) (vE (cF2 jX (vE (cF2 J1 (vV 4) (C9 40692))) (vE (cF2 J1 (C9 7) (vV 3))))) (C9 2147483399)))))
  (jJ (cSl (vV 2) (some (C9 1)) none))))))
noncomputable def m__law_signs:Fn:=fn 7
  (j7 (jv 1 (cC (.str "abcdefghijklmnopqrstuvwxyz")))
  (j7 (jv 2 (jx m__law_stream [(cV 0),(cC (.int 9))]))
  (j7 (jv 3 (vxd "" (vE (cLC .rt 1 [1] (itS (cSl (vV 2) none (some (vE (cF2 jX (C9 1) (vE (cF2 (pu2 kJ) (vV 0) (C9 8)))))))) (.n 0) tYes (cH (j9 (vV 1) (vE (cF2 (pu2 kJ) (vV 0) (C9 26)))))))))
  (j7 (jv 4 (cF2 (pu2 kJ) (vE (cF2 (pu2 vz) (vV 0) (C9 8))) (vE (cF1 (pu1 kz) (vV 3)))))
  (j7 (jv 5 (kq .rt []))
  (j7 (kW (wv (j9 (vE (kq .rt [(cC (.int 1)),(cC (.int 2)),(cC (.int 1)),(cC (.int 2)),(cC (.int 2)),(cC (.int 1)),(cC (.int 2)),(cC (.int 3))])) (vE (cF2 (pu2 kJ) (vE (cF2 (pu2 vz) (vV 0) (C9 64))) (C9 8))))) (.n 6) (v4 v3 5 (cF2 jX (vE (cF2 jX (vE (cSl (vV 3) none (some (vV 4)))) (j9 (vV 1) (vE (cF2 jX (vE (cF2 (pu2 kJ) (j9 (vV 2) (C9 8)) (C9 24))) (vV 6)))))) (vE (cSl (vV 3) (some (vE (cF2 jX (vV 4) (C9 1)))) none)))))
  (jJ (cMv 5))))))))
noncomputable def m__law_fills:Fn:=fn 6
  (j7 (jv 3 (QZ (vV 2)))
  (j7 (jv 4 (kq .rt []))
  (j7 (kW (wv (vV 1)) (.n 5) (j7 (v4 v3 4 (XV 3 (vE (cF2 (pu2 kJ) (vV 0) (vE (cF1 (pu1 kz) (vV 3)))))))
  (jv 0 (cF2 jX (vE (cF2 (pu2 vz) (vV 0) (C9 7))) (vE (cF2 J1 (C9 5) (vV 5)))))))
  (jJ (cF1 z8 (vV 4))))))
noncomputable def m__law_case:Fn:=fn 5
  (j7 (sIf (tE (cF2 (pu2 fEq) (vE (cF2 (pu2 kJ) (vV 0) (C9 5))) (C9 4))) (jJ (cC .non)) k4)
  (j7 (jv 3 (cLC .rt 1 [1,2] (wv (vE (cF1 (pu1 kz) (vV 1)))) (.n 0) (tE (cF2 (pu2 fLe) (j9 (vV 1) (vV 0)) (vV 2))) (cV 0)))
  (j7 (jv 4 (cH (j9 (vV 3) (vE (cF2 (pu2 kJ) (vE (cF2 (pu2 vz) (vV 0) (C9 5))) (vE (cF1 (pu1 kz) (vV 3))))))))
  (jJ (kY .no [(cV 4),(jx m__law_fills [(cF2 (pu2 vz) (vV 0) (C9 35)),(cH (j9 (vV 1) (vV 4))),(cV 2)])])))))
noncomputable def m__law_plain:Fn:=fn 13
  (j7 (jv 2 (jx m__law_stream [(cV 0),(cC (.int 90))]))
  (j7 (jv 3 (cH (j9 (vE (kq .rt [(cC (.int 1)),(cC (.int 2)),(cC (.int 3)),(cC (.int 4)),(cC (.int 5)),(cC (.int 2)),(cC (.int 4)),(cC (.int 6))])) (vE (cF2 (pu2 kJ) (j9 (vV 2) (C9 0)) (C9 8))))))
  (j7 (jv 4 (cC (.int 2)))
  (j7 (sIf (tAnd (tE (cF2 (pu2 fEq) (vV 3) (C9 3))) (tE (cF2 (pu2 fEq) (vE (cF2 (pu2 kJ) (j9 (vV 2) (C9 1)) (C9 3))) (C9 0)))) (jv 4 (cC (.int 3))) k4)
  (j7 (jv 5 (cF2 jX (vE (kq .rt [(cC (.int 0))])) (vE (cLC .rt 1 [2,4] (wv (vE (cF2 (pu2 Wq) (vV 3) (C9 1)))) (.n 0) tYes (cF2 (pu2 kJ) (vE (cF2 (pu2 vz) (j9 (vV 1) (vE (cF2 jX (C9 1) (vV 0)))) (C9 3))) (vE (cF2 jX (vV 2) (C9 1))))))))
  (j7 (jv 6 (kq .rt []))
  (j7 (jv 7 (cC (.int 8)))
  (j7 (kW (wv (vV 3)) (.n 8) (j7 (jv 9 (kq .rt []))
  (j7 (kW (wv (vE (cF1 (pu1 kz) (vV 1)))) (.n 10) (j7 (jv 11 (kq .rt []))
  (j7 (kW (wv (vE (cF2 jX (j9 (vV 5) (vV 8)) (C9 1)))) (.n 12) (j7 (v4 v3 11 (jx m__law_case [(cH (j9 (vV 2) (vV 7))),(cV 5),(cF2 jX (j9 (vV 5) (vV 8)) (vE (cF1 (pu1 J7) (vE (cF2 (pu2 fEq) (vV 12) (j9 (vV 5) (vV 8)))))))]))
  (jv 7 (cF2 jX (vV 7) (C9 1)))))
  (v4 v3 9 (cV 11)))))
  (j7 (v4 v3 6 (kY .no [(cH (j9 (vV 5) (vV 8))),(cF2 (pu2 fEq) (vE (cF2 (pu2 kJ) (j9 (vV 2) (vV 7)) (C9 2))) (C9 0)),(cV 9)]))
  (jv 7 (cF2 jX (vV 7) (C9 1)))))))
  (jJ (kY .no [(cF1 W0 (vV 1)),(cV 6)]))))))))))
noncomputable def m__law_read:Fn:=fn 11
  (j7 (sIf (tE (cF2 (f2First fIsNon) (vV 1) (vE (cC .non)))) (jJ (cC .non)) k4)
  (j7 (QQ [4,5] (cV 1))
  (j7 (QQ [6,7,8] (cH (j9 (j9 (vV 0) (C9 1)) (vV 4))))
  (j7 (jv 9 (cV 6))
  (j7 (sIf (tE (cF2 (pu2 zX) (vV 3) (vV 5))) (jv 9 (Kj (vV 5) (vV 3))) k4)
  (j7 (jv 10 (cH (j9 (j9 (vV 8) (vE (Kj (j9 (vV 0) (C9 0)) (vV 2)))) (vV 9))))
  (j7 (sIf (tE (cF2 (f2First fIsNon) (vV 10) (vE (cC .non)))) (jJ (cC .non)) k4)
  (jJ (kY .no [(cH (j9 (vV 10) (C9 0))),(cF1 z8 (vE (cLC .rt 1 [5,3] (itS (cH (j9 (vV 10) (C9 1)))) (.n 0) tYes (cH (j9 (vE (cF2 jX (vE (cF1 W0 (vV 1))) (vE (kq .rt [(cV 2)])))) (vV 0))))))])))))))))
noncomputable def m__law_shared:Fn:=fn 6
  (j7 (jv 3 (QZ (vV 2)))
  (j7 (jv 4 (kq .rt []))
  (j7 (kW (wv (vV 1)) (.n 5) (j7 (sIf (tAnd (tE (cF2 (pu2 fNe) (vV 3) (vE (kq .rt [])))) (tE (cF2 (pu2 fGt) (vE (cF2 (pu2 kJ) (vV 0) (C9 3))) (C9 0)))) (v4 v3 4 (kY .no [(cV 5),(XV 3 (vE (cF2 (pu2 kJ) (vE (cF2 (pu2 vz) (vV 0) (C9 3))) (vE (cF1 (pu1 kz) (vV 3))))))])) k4)
  (jv 0 (cF2 jX (vE (cF2 (pu2 vz) (vV 0) (C9 9))) (vE (cF2 J1 (C9 7) (vV 5)))))))
  (jJ (cF1 z8 (vV 4))))))
def m__law_keepers:Fn:=fn 2
  (j7 (sIf (tE (cF2 (pu2 fEq) (vV 1) (vE (cF1 (pu1 zx) (C9 1))))) (jJ (cC (.int 0))) k4)
  (jJ (cH (j9 (j9 (j9 (vV 0) (C9 1)) (vV 1)) (C9 0)))))
noncomputable def m__law_pair:Fn:=fn 7
  (j7 (jv 2 (kq .rt [(kY .no []),(kY .no [])]))
  (j7 (jv 3 (kq .rt [(cF1 (pu1 zx) (C9 1)),(cF1 (pu1 zx) (C9 1))]))
  (j7 (kW (xj8 (kq .rt [(cV 0),(cV 1)])) (.t [4,5]) (sIf (tE (cF2 (f2First fNotNon) (vV 5) (vE (cC .non)))) (j7 (ZX 3 (vV 4) (cH (j9 (vV 5) (C9 0))))
  (ZX 2 (vV 4) (cH (j9 (vV 5) (C9 1))))) k4))
  (j7 (jv 6 (cLC .rt 2 [2] (vju (cH (j9 (vV 2) (C9 0)))) (.t [0,1]) (tE (cF2 (pu2 zX) (vV 1) (j9 (vV 2) (C9 1)))) (kY .no [(cV 0),(Kj (j9 (vV 2) (C9 1)) (vV 1))])))
  (jJ (kY .no [(cH (j9 (vV 3) (C9 0))),(cH (j9 (vV 3) (C9 1))),(cF1 z8 (vV 6))]))))))
noncomputable def m__law_is_pair:Fn:=fn 3
  (j7 (sIf (tOr (tNot (tEQ (vE (cF1 (pu1 (vk "tuple")) (vV 0))))) (tOr (tE (cF2 (pu2 fNe) (vE (cF1 (pu1 kz) (vV 0))) (C9 3))) (tNot (tEQ (vE (cF1 (pu1 (vk "tuple")) (j9 (vV 0) (C9 2)))))))) (jJ (cC (.bl false))) k4)
  (j7 (sIf (tOr (tNot (tEQ (vE (jx m__law_whole [(cH (j9 (vV 0) (C9 0)))])))) (tNot (tEQ (vE (jx m__law_whole [(cH (j9 (vV 0) (C9 1)))]))))) (jJ (cC (.bl false))) k4)
  (j7 (kW (itS (cH (j9 (vV 0) (C9 2)))) (.n 2) (sIf (tOr (tNot (tEQ (vE (cF1 (pu1 (vk "tuple")) (vV 2))))) (tOr (tE (cF2 (pu2 fNe) (vE (cF1 (pu1 kz) (vV 2))) (C9 2))) (tOr (tNot (tEQ (vE (jx m__law_whole [(cH (j9 (vV 2) (C9 0)))])))) (tNot (tEQ (vE (jx m__law_whole [(cH (j9 (vV 2) (C9 1)))]))))))) (jJ (cC (.bl false))) k4))
  (jJ (cF2 (pu2 fEq) (vV 0) (vV 1))))))
end B
namespace B
open Q PySem C
theorem vzj{f xs P}(h:Oo f xs P noX):∃y,P y/\Oo f xs (λy'=>y'=y) noX:=by
 unfold Oo at h ⊢;cases hf:f xs with
 |none=>rw[hf]at h;exact absurd (show False by exists h) id
 |some r=>
  rw[hf]at h;cases r with|ok E y=>exact#[y,by with_unfolding_all exact h,by exists rfl]|exc E c=>grind
def wJ(ns:List Int)(k:Nat):Int:=ns.getD k 0
theorem wqz ns (k:Nat)(hn:ns.length<=10000):Oo m__law_cell_at [(.no,iL ns),(.no,.int k)] (λy=>∃o',y=(o',.int (wJ ns k))/\True) noX:=by
 refine k7 ?_;simp![]
 by_cases h:(k:Int)<ns.length
 ·have hx:jW (iL ns) (.int k)=some (.int (wJ ns k)):=by
   refine wY ⋯ ?_;unfold wJ;rw[Y2,Xg,X4,X1 ⋯];rfl
  have hd:=Xb h;rw[Xd hd];simp![hx];exact#[_,rfl,trivial]
 ·have hd:¬decide ((k:Int)<ns.length)=true:=by rw[Xl h];decide
  rw[Xi hd];refine#[.dp,?_,trivial];rw[show wJ ns k=0 by unfold wJ;rw[X4,Y0 ⋯];rfl]
theorem whole_int i:Oo m__law_whole [(.no,.int i)] (λy=>∃o',y=(o',.bl true)/\True) noX:=by
 refine k7 ?_;simp![show vk "int" (.int i)=some (.bl true)from rfl,show vk "bool" (.int i)=some _ from rfl];exact#[_,rfl,trivial]
def St(n:Int)(xs:List Int):Prop:=(xs.length:Int)=n/\∀x∈xs,0<=x/\x<2147483647
theorem jxk(c n)(hn:0<=n)(nj:n<=100):Oo m__law_stream [(.no,.int c),(.no,.int n)] (λy=>∃xs,y=(.rt,iL xs)/\St n xs) noX:=by
 refine k7 ?_
 by_cases h:c % 2=1
 ·have hd:(c % 2==1)=true:=by simp[h]
  simp![eqi hd];refine qK (λE ab=>∃(j v:Int) (xs:List Int) (l3:Option Sd),E=[some (.dp,.int v),some (.no,.int n),some (.rt,iL xs),l3,none]/\0<=j/\j<=n/\ab=k6 j n/\St j xs) ?_ ?_ ?_
  ·simp![];exact#[0,_,[],_,rfl,⋯,hn,rfl,rfl,λ_ z=>nomatch z]
  ·rintro E d ds ⟨j,v,xs,l3,rfl,j0,j1,hr,hx⟩;obtain⟨hj,rfl,rfl⟩:=xX j1 hr;simp![];refine vw rfl ?_;simp![];refine#[_,rfl,by rw[X3];have:=hx.1;lia,(#[j+1,v / 2147483647,xs++[v % 2147483647],some (.no,.int j),by simp,⋯,⋯,rfl,by have:=hx.1;simp;lia,λx hm=>?_])];rcases aA hm with z|z
   ·exact hx.2 x z
   ·rw[aC z];lia
  ·rintro E ⟨j,v,xs,l3,rfl,j0,j1,hr,hx⟩;have:=zw j1 hr;subst this;simp![];exact#[xs,rfl,hx]
 ·have hd:(c % 2==1)=false:=Xu h;simp![eqi hd];refine qK (λE ab=>∃(j v:Int) (xs:List Int) (l3:Option Sd),E=[some (.no,.int c),some (.no,.int n),some (.rt,iL xs),l3,some (.dp,.int v)]/\0<=j/\j<=n+1/\ab=k6 j (n+1)/\St j xs/\0<=v/\v<4294967296) ?_ ?_ ?_
  ·simp![];exact#[0,_,[],_,rfl,⋯,⋯,rfl,#[rfl,λ_ z=>nomatch z],⋯,⋯]
  ·rintro E d ds ⟨j,v,xs,l3,rfl,j0,j1,hr,hx,v0,v1⟩;obtain⟨hj,rfl,rfl⟩:=xX j1 hr;have hm:=mul_l (o1:=.dp) (o2:=.dp) (a:=v) (b:=v) ⋯ ⋯;simp![hm];generalize hw:(v*v+48271*v+j) % 2147483647=u;refine vw rfl ?_;simp![(mul_l (o1:=.dp) (o2:=.dp) (a:=u) (b:=40692) ⋯ ⋯)];refine#[_,rfl,by rw[X3];have:=hx.1;lia,(#[j+1,u,xs++[(u*40692+7*j) % 2147483399],some (.no,.int j),by simp,⋯,⋯,rfl,#[by have:=hx.1;simp;lia,λx hm=>?_],⋯,⋯])];rcases aA hm with z|z
   ·exact hx.2 x z
   ·grind
  ·rintro E ⟨j,v,xs,l3,rfl,j0,j1,hr,hx,v0,v1⟩;have:=zw j1 hr;simp![qxd (o:=.rt) (xs:=xs.map D.int) (lo:=some 1) (hi:=none) ⋯];have hl:=hx.1;have hcut:J3 (xs.map D.int) (some 1) none=(xs.drop 1).map D.int:=by
    unfold J3 V8;dsimp only;rw[Xi ⋯,X3,show min (1:Int).toNat xs.length=1 by show min 1 xs.length=1;lia,<-List.map_drop,List.take_of_length_le (by rw[X3,List.length_drop];lia)]
   rw[hcut];exact#[xs.drop 1,rfl,by rw[List.length_drop];lia,λx hm=>hx.2 x (List.mem_of_mem_drop hm)]
theorem kwv n:((List.range n).map λ(j:Nat)=>(j:Int)).Nodup:=List.Pairwise.map _ (λa b h e=>h ⋯) List.nodup_range
theorem qqw(x need free)(h0:0<=need)(h1:need<=free)(h2:free<=100):Oo m__law_fills [(.no,.int x),(.no,.int need),(.no,.int free)] (λy=>∃fs:List Int,y=(.no,.tup (fs.map D.int))/\(fs.length:Int)=need/\(∀f∈fs,0<=f/\f<free)/\fs.Nodup) noX:=by
 refine k7 ?_;simp![];rw[qxo];refine qK (λE ab=>∃(j v:Int) (o:Own) (sm fl:List Int) (l5:Option Sd),E=[some (o,.int v),some (.no,.int need),some (.no,.int free),some (.rt,iL sm),some (.rt,iL fl),l5]/\0<=j/\j<=need/\ab=k6 j need/\(fl.length:Int)=j/\(sm.length:Int)+fl.length=free/\(fl++sm).Nodup/\∀f∈fl++sm,0<=f/\f<free) ?_ ?_ ?_
 ·simp![];refine#[0,x,.no,(List.range free.toNat).map λ(j:Nat)=>(j),[],none,rfl,⋯,h0,rfl,rfl,?_,?_,?_]
  ·simp;lia
  ·rw[List.nil_append];exact kwv _
  ·intro f hf;obtain⟨j,hj,rfl⟩:=aE hf;have:=List.mem_range.mp hj;lia
 ·rintro E d ds ⟨j,v,o,sm,fl,l5,rfl,j0,j1,hr,hl,hs,hn,hm⟩;obtain⟨hj,rfl,rfl⟩:=xX j1 hr;have u1:=Xx v (show(0:Int)<sm.length by lia);have hi:(v % sm.length).toNat<sm.length:=⋯
  simp![];refine vw rfl (vzb rfl ?_);simp![mod_i (b:=(sm.length:Int)) _];refine#[.rt,_,_,.int _,rfl,⋯,rfl,(Y9 v (show _≠0 by lia)),⋯,by rw[Xg,X1 hi];rfl,rfl,?_];refine#[_,rfl,by rw[X3];lia,?_];have pm:(fl++[sm[(v % sm.length).toNat]]++sm.eraseIdx (v % sm.length).toNat).Perm (fl++sm):=by
   rw[Xq];exact List.Perm.append_left fl (Vk hi)
  refine#[j+1,v / 7+5*j,.dp,sm.eraseIdx (v % sm.length).toNat,fl++[sm[(v % sm.length).toNat]],some (.no,.int j),?_,⋯,⋯,rfl,?_,?_,pm.nodup_iff.mpr hn,λf hf=>hm f (pm.mem_iff.mp hf)]
  ·simp only[iL,X7,List.map_cons,List.map_nil,kkc]
  ·rw[Xf];simp;lia
  ·rw[List.length_eraseIdx_of_lt hi,Xf];simp;lia
 ·rintro E ⟨j,v,o,sm,fl,l5,rfl,j0,j1,hr,hl,hs,hn,hm⟩;have:=zw j1 hr;subst this;simp![Q.tup_l (o:=.rt) (xs:=fl.map D.int) ⋯];exact#[fl,rfl,hl,λf hf=>hm f (ll9 _ hf),(List.nodup_append.mp hn).1]
theorem vx8(x free)(a9)(hk:Abk a9)(mr:a9[0]?=some 0)(hl:a9.length<=100)(hf:0<=free)(vy:free<=100):Oo m__law_case [(.no,.int x),(.no,iL a9),(.no,.int free)] (λy=>Cs a9 free y.2) noX:=by
 have ai:0<a9.length:=by
  cases a9 with| nil=>cases mr| cons=>simp
 refine k7 ?_
 by_cases h:x % 5=4
 ·have hd:(x % 5==4)=true:=by simp[h]
  simp![eqi hd];exact .inl rfl
 ·have hd:(x % 5==4)=false:=Xu h;simp![eqi hd];refine QY (λE1 B ds af=>E1=[some (.no,.int x),some (.no,iL a9),some (.no,.int free),none,none]/\∃(j:Int) (q0:Option Sd) (fl:List Int),B=[q0,some (.no,iL a9),some (.no,.int free)]/\0<=j/\j<=a9.length/\ds=k6 j a9.length/\af.map (·.2)=fl.map D.int/\(∀t∈fl,0<=t/\t<a9.length/\a9.getD t.toNat 0<=free)/\(0<j->fl≠[])/\(fl.length:Int)<=j) ?_ ?_ ?_
  ·simp![];exact#[0,none,[],rfl,⋯,⋯,rfl,rfl,λ_ z=>(nomatch z),λz=>absurd z ⋯,by simp]
  ·rintro E1 B d ds af ⟨rfl,j,q0,fl,rfl,j0,j1,hr,az,lr,br,gw⟩;obtain⟨hj,rfl,rfl⟩:=xX j1 hr;have hjl:j.toNat<a9.length:=⋯
   have hx:jW (iL a9) (.int j)=some (.int (a9.getD j.toNat 0)):=wY j0 (by rw[Xg,X1 hjl,X4,X1 hjl];rfl)
   by_cases hz:a9.getD j.toNat 0<=free
   ·have iu:decide (a9.getD j.toNat 0<=free)=true:=Xb hz;simp![hx,iu];refine#[j+1,_,fl++[j],rfl,⋯,⋯,rfl,by rw[X7,X7,az];rfl,λt ht=>?_,λ_=>by simp,by simp;lia];rcases aA ht with q|q
    ·exact lr t q
    ·rw[aC q];exact#[j0,⋯,hz]
   ·have iu:decide (a9.getD j.toNat 0<=free)=false:=Xl hz;have hj0:0<j:=by
     rcases Int.lt_or_eq_of_le j0 with q|q
     ·exact q
     ·subst q;exfalso;apply hz;rw[X4];show(a9[0]?).getD 0<=free
      rwa [mr]
    simp![hx,iu];exact#[j+1,_,fl,rfl,⋯,⋯,rfl,az,lr,λ_=>br hj0,⋯]
  ·rintro E1 B af ⟨rfl,j,q0,fl,rfl,j0,j1,hr,az,lr,br,gw⟩;have:=zw j1 hr;subst this;have hfl0:0<fl.length:=List.length_pos_iff.mpr (br ⋯);have u1:=Xx (x / 5) (show(0:Int)<fl.length by lia);have hi:(x / 5 % fl.length).toNat<fl.length:=⋯
   obtain⟨t,et⟩:∃t,fl[(x / 5 % fl.length).toNat]?=some t:=#[_,X1 hi];obtain⟨t0,t1,t2⟩:=lr t (List.mem_of_getElem? et);have hx:jW (iL fl) (.int (x / 5 % fl.length))=some (.int t):=wY (Y9 (x / 5) (show(fl.length:Int)≠0 by lia)) (by rw[Xg,et];rfl);have htl:t.toNat<a9.length:=⋯
   have hy:jW (iL a9) (.int t)=some (.int (a9.getD t.toNat 0)):=wY t0 (by rw[Xg,X1 htl,X4,X1 htl];rfl);rw[xV,az,show JJ 1 [1,2] [q0,some (Own.no,iL a9),some (Own.no,D.int free)] [some (Own.no,D.int x),some (Own.no,iL a9),some (Own.no,D.int free),none,none]=[some (Own.no,D.int x),some (Own.no,iL a9),some (Own.no,D.int free),none,none]from rfl];simp![mod_i (a:=x / 5) (b:=(fl.length:Int)) ⋯,hx,hy];refine(qqw (x / 35) (a9.getD t.toNat 0) free (hk (a9.getD t.toNat 0) (by rw[X4,X1 htl];exact Xn _)).1 t2 vy).use ?_;rintro fs ⟨f1,f2,f3⟩;simp![];exact .inr #[t,fs,rfl,t0,t1,f2,f3,f1]
def Gdr(rs:List D)(room:Int)(g:Bool):Prop:=(room=-1/\g=false)\/(0<=room/\∃k st,rs[room.toNat]?=some (.tup [k,.bl g,st]))
theorem nei{a b k}(h:(a==b)=k):fNe (.int a) (.int b)=some (.bl !k):=by rw[<-h];rfl
theorem vk7{ss rs room g}(h:Gdr rs room g):Oo m_is_good_in [(.no,jq ss rs),(.no,.int room)] (λy=>∃o',y=(o',.bl g)/\True) noX:=by
 refine k7 ?_;rcases h with⟨rfl,rfl⟩|⟨h0,k,st,hr⟩
 ·simp![nei rfl];exact#[_,rfl,trivial]
 ·have br:(room == -1)=false:=Xu ⋯;simp![p1,nei br,(wY h0 hr),show jW (.tup [k,.bl g,st]) (.int 1)=some _ from rfl];exact#[_,rfl,trivial]
theorem eqb(a b):fEq (.bl a) (.bl b)=some (.bl (a==b)):=by cases a<;>cases b<;>rfl
theorem vqn{ss rs rs' p q g g' d}(h:Gdr rs p g)(h':Gdr rs' q g'):Oo m_agrees [(.no,jq ss rs),(.no,jq ss rs'),(.no,.tup [.int p,.int q,d])] (λy=>∃o',y=(o',.bl (g==g'))/\True) noX:=by
 refine k7 ?_;simp![t0];refine(vk7 h).use ?_;intro o1 _;simp![t1];refine(vk7 h').use ?_;intro o2 _;simp![eqb];exact#[_,rfl,trivial]
theorem neg1:zx (.int 1)=some (.int (-1)):=rfl
theorem jvl{ss rs room k}(h:Kpr rs room k):Oo m__law_keepers [(.no,jq ss rs),(.no,.int room)] (λy=>∃o',y=(o',.int k)/\True) noX:=by
 refine k7 ?_;rcases h with⟨rfl,rfl⟩|⟨h0,g,st,hr⟩
 ·simp![neg1,eqi rfl];exact#[_,rfl,trivial]
 ·have br:(room == -1)=false:=Xu ⋯;simp![neg1,p1,eqi br,(wY h0 hr),show jW (.tup [.int k,g,st]) (.int 0)=some _ from rfl];exact#[_,rfl,trivial]
theorem vwj{o xs}(h:o≠.dp):W0 (o,.tup xs)=some (.rt,.lst xs):=by
 cases o with|dp=>exact absurd rfl h|no=>rfl|rt=>rfl
theorem vvk{a9}{ss:List Str}{rs st:List D}{gd:D}{room:Int}{ks:List Int}{z:Str}{p:Int}(h0:0<=room)(hr:rs[room.toNat]?=some (.tup [.int ks.length,gd,.lst st]))(hc:Cas a9 ss.length ks.length st)(hl:ks.length<=1000)(hz:(ss.any λw=>w==z)=true):
  Oo m__law_read [(.no,jq ss rs),(.no,.tup [.int room,iT ks]),(.no,.str z),(.no,.int p)] (λy=>y.2=x6 ss st ks z p) noX:=by
 have hi:jW (.lst rs) (.int room)=some (.tup [.int ks.length,gd,.lst st]):=wY h0 hr;unfold x6;obtain⟨cs,g1,g2,g3,g4⟩:=kzc p hc hz;have hx:jW (.lst st) (.int (ss.findIdx λw=>w==z:Nat))=some (.lst cs):=wY ⋯ (by rw[Y2];exact g1);have hy:jW (.lst cs) (.int (ks.findIdx λw=>w==p:Nat))=some (z7 ss st ks z p):=wY ⋯ (by rw[Y2];exact g3);have ml:=xjf hz;rw [Xd hz];generalize z7 ss st ks z p=c at g4 hy;have fc:jX (.no,.lst (ks.map D.int)) (.no,.lst [.int p])=some (.rt,.lst ((ks++[p]).map D.int)):=by
  rw[show(ks++[p]).map D.int=ks.map D.int++[.int p]by simp];exact kzm ⋯ ⋯ (by simp;lia)
 have md:∀{i:Int},0<=i->i<=ks.length->jW (.lst ((ks++[p]).map D.int)) (.int i)=some (.int (C.nameAt ks p i)):=fun {i} i0 i1=>by
  refine wY i0 ?_;unfold C.nameAt;rw[Xg,X4,X1 (by simp;lia)];rfl
 have hb:=qkc (own:=ks.length) (k:=(ks.findIdx λw=>w==p:Nat));unfold m__law_read;generalize hR:j7 (jv 10 _) _=R;have iw:∀o9,Po (R [some (.no,jq ss rs),some (.no,.tup [.int room,iT ks]),some (.no,.str z),some (.no,.int p),some (.no,.int room),some (.no,iT ks),some (.no,.int ks.length),some (.no,gd),some (.no,.lst st),some (o9,.int (ks.findIdx λw=>w==p:Nat)),none]) (λ_=>D.non=V5 ks p c) (λ_=>False) (λy=>y.2=V5 ks p c) noX:=by
  subst hR;intro o9;rcases g4 with rfl|⟨to,fs,rfl,t0',t1',hfs,_⟩
  ·simp![p0,ml,hx,hy];rfl
  ·simp![p0,p1,ml,hx,hy];refine Qx [some (.no,iT ks),some (.no,.int p)] (λf y=>y.2=match f with|.int i=>.int (C.nameAt ks p i)|_=>.non) ?_;simp![p1];refine#[rfl,λf hf=>?_,λys u7=>?_]
   ·obtain⟨i,jh,rfl⟩:=aE hf;have:=hfs i jh;simp![vwj (o:=.no) (xs:=ks.map D.int) ⋯,fc,md (i:=i) this.1 ⋯];exact#[#[_,rfl],trivial]
   ·rw[xV,Ww (h:=λf=>match f with|.int i=>.int (C.nameAt ks p i)|_=>.non) (λd y h=>h) u7,Xj,show(_∘D.int)=D.int∘C.nameAt ks p from rfl,<-Xj];simp only[back,clr,at',List.set_cons_zero,List.set_cons_succ];simp![Q.tup_l (o:=.no) (xs:=(fs.map (C.nameAt ks p)).map D.int) ⋯];exact caseD_is.symm
 refine k7 ?_;cases hp:(ks.any λw=>w==p)with
 |true=>
  simp![p1,hi,Q1,hp,vwq hp];exact iw _
 |false=>
  rw[xjo hp]at iw;simp![p1,hi,Q1,hp];exact iw _
inductive PSt (a b:Sn):List (List Int)->List Int->List D->Prop
 |a:PSt a b [[],[]] [-1,-1] [.tup [.int 0,stn a],.tup [.int 1,stn b]]
 |b:PSt a b [nms a,[]] [rmO a,-1] [.tup [.int 1,stn b]]
 |c:PSt a b [nms a,nms b] [rmO a,rmO b] []
theorem PSt.step{a b n r d ds}(h:PSt a b n r (d::ds)):∃(k:Nat) (s:Sn),d=.tup [.int k,stn s]/\Q.ixN (n.map iT).length k=some k/\Q.ixN (r.map D.int).length k=some k/\PSt a b (n.set k (nms s)) (r.set k (rmO s)) ds/\(s=none->n.set k []=n/\r.set k (-1)=r):=by
 cases h with|a=>exact#[0,a,rfl,rfl,rfl,.b,λ_=>#[rfl,rfl]]|b=>exact#[1,b,rfl,rfl,rfl,.c,λ_=>#[rfl,rfl]]
theorem vw6(a b)(ha:(nms a).length<=100)(hb:(nms b).length<=100):Oo m__law_pair [(.no,stn a),(.no,stn b)] (λy=>y=(.no,v9 a b)) noX:=by
 have sn:stn none=.non:=rfl;have ss:∀s,stn (some s)=.tup [.int s.1,iT s.2]:=λs=>rfl
 unfold m__law_pair;refine k7 ?_;simp![neg1];refine qK (λE ab=>∃(n:List (List Int)) (r:List Int) (l4 l5:Option Sd),E=[some (.no,stn a),some (.no,stn b),some (.rt,.lst (n.map iT)),some (.rt,.lst (r.map D.int)),l4,l5,none]/\PSt a b n r ab) ?_ ?_ ?_
 ·simp![];exact#[_,_,_,_,rfl,.a]
 ·rintro E d ds ⟨n,r,l4,l5,rfl,h⟩;obtain⟨k,s,rfl,h1,h2,h3,h4⟩:=h.step;cases s with
  | none=>
   obtain⟨e1,e2⟩:=h4 rfl;have h3:PSt a b (n.set k []) (r.set k (-1)) ds:=h3;rw [e1,e2]at h3;simp![sn];exact#[_,_,_,_,rfl,h3]
  | some s=>
   simp![ss];refine qzd ?_;simp![p0];refine#[rfl,.rt,_,k,k,rfl,⋯,rfl,h2,qzd ?_];simp![p1];refine#[rfl,.rt,_,k,k,rfl,⋯,rfl,h1,?_];rw [show(n.map iT).set k (iT s.2)=(n.set k s.2).map iT from List.map_set.symm,show(r.map D.int).set k (.int s.1)=(r.set k s.1).map D.int from List.map_set.symm];exact#[_,_,_,_,rfl,h3]
 ·rintro E ⟨_,_,l4,l5,rfl,h⟩;cases h
  ·have i0:jW (.lst [iT (nms a),iT (nms b)]) (.int 0)=some (iT (nms a)):=rfl;have i1:jW (.lst [iT (nms a),iT (nms b)]) (.int 1)=some (iT (nms b)):=rfl;have j0:jW (.lst [.int (rmO a),.int (rmO b)]) (.int 0)=some (.int (rmO a)):=rfl;have j1:jW (.lst [.int (rmO a),.int (rmO b)]) (.int 1)=some (.int (rmO b)):=rfl;simp![];refine QY (λE1 B ds af=>E1=[some (.no,stn a),some (.no,stn b),some (.rt,.lst [iT (nms a),iT (nms b)]),some (.rt,.lst [.int (rmO a),.int (rmO b)]),l4,l5,none]/\∃(q0 q1:Option Sd) (f1 f2:List Int),B=[q0,q1,some (.rt,.lst [iT (nms a),iT (nms b)])]/\nms a=f1++f2/\ds=xK f1.length (f2.map D.int)/\af.map (·.2)++prs (jY (nms b) f1.length f2)=prs (jY (nms b) 0 (nms a))) ?_ ?_ ?_
   ·simp![i0,↓qwo,show vv6 (iT (nms a))=some ((nms a).map D.int)from rfl];exact#[none,none,[],nms a,rfl,rfl,rfl,rfl]
   ·rintro E1 B d ds af ⟨rfl,q0,q1,f1,f2,rfl,hf,bj,az⟩;cases f2 with
    | nil=>cases bj
    | cons z f2=>
     have bj:d::ds=.tup [.int f1.length,.int z]::xK (f1.length+1) (f2.map D.int):=bj;injection bj with e1 e2;subst e1 e2;simp![i0,i1,Q1];have im:(f1++[z]).length=f1.length+1:=by simp
     cases hz:((nms b).any λw=>w==z)with
     |false=>
      simp![];refine#[_,_,f1++[z],f2,rfl,by rw[hf];simp,by rw[im],?_];rw[<-az,im]
      congr 2
      conv=>rhs;unfold jY
      rw[hz,Xi ⋯]
     |true=>
      simp![i0,i1,vwq hz];refine#[_,_,f1++[z],f2,rfl,by rw[hf];simp,by rw[im],?_];rw[<-az,im,X7,Xq]
      congr 1
      conv=>rhs;unfold jY
      rw[hz,Xd rfl];rfl
   ·rintro E1 B af ⟨rfl,q0,q1,f1,f2,rfl,hf,bj,az⟩;cases f2 with
    |cons=>cases bj
    |nil=>
     have az:af.map (·.2)=prs (jY (nms b) 0 (nms a)):=by rw[<-az];simp[jY]
     rw[xV,az,show JJ 2 [2] [q0,q1,some (Own.rt,D.lst [iT (nms a),iT (nms b)])] [some (Own.no,stn a),some (Own.no,stn b),some (Own.rt,D.lst [iT (nms a),iT (nms b)]),some (Own.rt,D.lst [D.int (rmO a),D.int (rmO b)]),l4,l5,none]=[some (Own.no,stn a),some (Own.no,stn b),some (Own.rt,D.lst [iT (nms a),iT (nms b)]),some (Own.rt,D.lst [D.int (rmO a),D.int (rmO b)]),l4,l5,none]from rfl];simp![j0,j1,Q.tup_l (o:=.rt) (xs:=prs (jY (nms b) 0 (nms a))) ⋯];rfl
theorem qqr:∀l,D.flats 38 (prs l)=true
 |[]=>by simp[D.flats]
 |p::l=>by
  have ih:=qqr l;unfold prs at ih ⊢;rw[List.map_cons];simp only[D.flats,D.flat,ih,Bool.and_self]
theorem wqo(r r') l:(D.tup [.int r,.int r',.tup (prs l)]).flat 40=true:=by
 have:=qqr l;simp only[D.flat,D.flats,this,Bool.and_self]
theorem qvv(r r')(l):Oo m__law_is_pair [(.no,.tup [.int r,.int r',.tup (prs l)]),(.no,.tup [.int r,.int r',.tup (prs l)])] (λy=>∃o',y=(o',.bl true)/\True) noX:=by
 have t0:jW (.tup [.int r,.int r',.tup (prs l)]) (.int 0)=some (.int r):=rfl;have t1:jW (.tup [.int r,.int r',.tup (prs l)]) (.int 1)=some (.int r'):=rfl;have t2:jW (.tup [.int r,.int r',.tup (prs l)]) (.int 2)=some (.tup (prs l)):=rfl;have it:∀ds,vk "tuple" (.tup ds)=some (.bl true):=λds=>rfl
 unfold m__law_is_pair;refine k7 ?_;simp![t0,t1,t2,it,nei (a:=3) (b:=3) rfl,show((3:Nat):Int)=3 from rfl];rw[Xi ⋯];refine(whole_int r).use ?_;intro o1 _;simp![t0,t1,t2];refine(whole_int r').use ?_;intro o2 _;simp![t0,t1,t2];refine qK (λE ab=>∃(l2:Option Sd) (m:List (Int×Int)),E=[some (.no,.tup [.int r,.int r',.tup (prs l)]),some (.no,.tup [.int r,.int r',.tup (prs l)]),l2]/\ab=prs m) ?_ ?_ ?_
 ·simp![t0,t1,t2];exact#[none,l,rfl,rfl]
 ·rintro E d ds ⟨l2,m,rfl,hr⟩;cases m with
  |nil=>cases hr
  |cons z m=>
   have hr:d::ds=.tup [.int z.1,.int z.2]::prs m:=hr;injection hr with e1 e2;subst e1 e2;simp![p0,p1,it,nei (a:=2) (b:=2) rfl,show((2:Nat):Int)=2 from rfl];rw[Xi ⋯];refine(whole_int z.1).use ?_;intro o3 _;simp![p0,p1];refine(whole_int z.2).use ?_;intro o4 _;simp![];exact#[_,m,rfl,rfl]
 ·rintro E ⟨l2,m,rfl,hr⟩;simp![(C.eq_self (wqo r r' l))];exact#[_,rfl,trivial]
def xq8(gm size:Int)(sh:List (Int×Int)):Prop:=(∀p∈sh,0<=p.1/\p.1<gm/\0<=p.2/\p.2<size)/\(sh.map (·.1)).Nodup/\(sh.map (·.2)).Nodup
theorem qxi(x gm size)(h0:0<=gm)(h1:gm<=100)(h2:0<=size)(h3:size<=100):Oo m__law_shared [(.no,.int x),(.no,.int gm),(.no,.int size)] (λy=>∃sh,y=(.no,.tup (prs sh))/\xq8 gm size sh/\(sh.length:Int)<=gm) noX:=by
 unfold m__law_shared;refine k7 ?_;simp![];rw [qxo];refine qK (λE ab=>∃(j v:Int) (o:Own) (sm:List Int) (sh:List (Int×Int)) (l5:Option Sd),E=[some (o,.int v),some (.no,.int gm),some (.no,.int size),some (.rt,iL sm),some (.rt,.lst (prs sh)),l5]/\0<=j/\j<=gm/\ab=k6 j gm/\(sh.length:Int)<=j/\sm.length<=100/\(sh.map (·.2)++sm).Nodup/\(∀f∈sm,0<=f/\f<size)/\(∀p∈sh,0<=p.1/\p.1<j/\0<=p.2/\p.2<size)/\(sh.map (·.1)).Nodup) ?_ ?_ ?_
 ·simp![];refine#[0,x,.no,(List.range size.toNat).map λ(j:Nat)=>(j),[],none,rfl,⋯,h0,rfl,by simp,?_,?_,?_,?_,Xr]
  ·simp;lia
  ·exact kwv _
  ·intro f hf;obtain⟨j,hj,rfl⟩:=aE hf;have:=List.mem_range.mp hj;lia
  ·intro p hp;exact nomatch hp
 ·rintro E d ds ⟨j,v,o,sm,sh,l5,rfl,j0,j1,hr,hl,hs,hn,hm,f7,lf⟩;obtain⟨hj,rfl,rfl⟩:=xX j1 hr;cases he:sm.isEmpty with
  | true=>
   simp![C.ne_empty,he];exact#[j+1,v / 9+7*j,.dp,sm,sh,some (.no,.int j),rfl,⋯,⋯,rfl,⋯,hs,hn,hm,λp hp=>by have:=f7 p hp;lia,lf]
  | false=>
   by_cases hv:0<v % 3
   ·have hv':decide (0<v % 3)=true:=Xb hv;have hsm:0<sm.length:=by
     cases sm with|nil=>cases he|cons=>simp
    have u1:=Xx (v / 3) (show(0:Int)<sm.length by lia);have hi:(v / 3 % sm.length).toNat<sm.length:=⋯
    simp![C.ne_empty,he,hv'];refine vw rfl ?_;simp![];refine vzb rfl ?_;simp![mod_i (a:=v / 3) (b:=(sm.length:Int)) ⋯];refine#[.rt,_,_,.int (sm[(v / 3 % sm.length).toNat]),rfl,⋯,rfl,(Y9 (v / 3) (show(sm.length:Int)≠0 by lia)),⋯,by rw[Xg,X1 hi];rfl,rfl,?_];simp![];refine#[_,rfl,by rw[X3];lia,?_];simp![];have hmem:sm[(v / 3 % sm.length).toNat]∈sm:=Xn hi;have pm:(sh.map (·.2)++[sm[(v / 3 % sm.length).toNat]]++sm.eraseIdx (v / 3 % sm.length).toNat).Perm (sh.map (·.2)++sm):=by
     rw[Xq];exact List.Perm.append_left _ (Vk hi)
    refine#[j+1,v / 9+7*j,.dp,sm.eraseIdx (v / 3 % sm.length).toNat,sh++[(j,sm[(v / 3 % sm.length).toNat])],some (.no,.int j),?_,⋯,⋯,rfl,by simp;lia,?_,?_,λf hf=>hm f (List.mem_of_mem_eraseIdx hf),λp hp=>?_,?_]
    ·simp only[iL,prs,X7,List.map_cons,List.map_nil,kkc]
    ·rw[List.length_eraseIdx_of_lt hi];lia
    ·rw[X7];exact pm.nodup_iff.mpr hn
    ·rcases aA hp with q|q
     ·have:=f7 p q;lia
     ·rw[aC q];have:=hm _ hmem;exact#[j0,by show j<j+1;lia,this.1,this.2]
    ·rw[X7,Xh];refine#[lf,by simp,λa ha b hb e=>?_];obtain⟨p,hp,rfl⟩:=aE ha;have hb:b=j:=by simpa using hb
     have:=f7 p hp;lia
   ·have hv':decide (0<v % 3)=false:=Xl hv;simp![C.ne_empty,he,hv'];exact#[j+1,v / 9+7*j,.dp,sm,sh,some (.no,.int j),rfl,⋯,⋯,rfl,⋯,hs,hn,hm,λp hp=>by have:=f7 p hp;lia,lf]
 ·rintro E ⟨j,v,o,sm,sh,l5,rfl,j0,j1,hr,hl,hs,hn,hm,f7,lf⟩;have:=zw j1 hr;subst this;simp![Q.tup_l (o:=.rt) (xs:=prs sh) ⋯];exact#[sh,rfl,#[f7,lf,(List.nodup_append.mp hn).1],hl]
def kvN(N:List Int)(sh:List (Int×Int)):List (Int×Int):=sh.foldl (λkv p=>qX kv p.2 (N.getD p.1.toNat 0)) []
def qx0(N:List Int)(k:Int)(sh:List (Int×Int))(n:Nat):List Int:=(List.range n).map λ(j:Nat)=>(jQ (kvN N sh) (j:Int)).getD (N.getD (k.toNat+j) 0)
def YY:D->D:=λd=>match d with
 |.tup [.int r,x]=>if r=-1 then .non else .tup [.int r,x]|_=>.non
theorem vk8 r ks:YY (.tup [.int r,.tup (ks.map D.int)])=stn (vj r ks):=by
 unfold YY vj;dsimp only
 split<;>rfl
theorem wki{m N N' C R X}(h:Po m N C R X)(k:∀E,N E->N' E):Po m N' C R X:=by
 cases m with
 |none=>exists h
 |some r=>cases r with|nx E=>exists k E h|bk E=>exists h|ct E=>exists h|rt E x=>exists h|xc E c=>exists h
theorem QJ{a b E N C R}{X} I (h1:Po (a E) I C R X)(h2:∀E,I E->Po (b E) N C R X):Po (j7 a b E) N C R X:=by
 rw[vzc];exact wki h1 h2
inductive PlC (c:Int)(ss:List Str)(xs:List Int)(size m:Int)(a9:List Int)(rs:List D)(r own:Int)(st:List D)(s:Int):En->List D->Prop
 |mk (k:Int) (bn:Int) (cs:List D) {o5:Own} {o7:Own} {me:Option Sd} {ab:List D} (h0:sub o5=.no) (h1:0<=k) (h2:k<=own+1) (h3:ab=k6 k (own+1)) (h4:(cs.length:Int)=k) (h5:8<=bn) (h6:bn<=8+(3*(m+1)+1)*r+(m+1)*s+k) (h7:∀k:Nat,k<cs.length->∃z,cs[k]?=some z/\Cs a9 (v6 own k) z):PlC c ss xs size m a9 rs r own st s [some (.no,.int c),some (.no,sL ss),some (.rt,iL xs),some (.no,.int size),some (.dp,.int m),some (o5,iL a9),some (.rt,.lst rs),some (o7,.int bn),some (.no,.int r),some (.rt,.lst st),some (.no,.int s),some (.rt,.lst cs),me] ab
inductive PlB (c:Int)(ss:List Str)(xs:List Int)(size m:Int)(a9:List Int)(rs:List D)(r own:Int):En->List D->Prop
 |mk (s:Int) (bn:Int) (st:List D) {o5:Own} {o7:Own} {i5:Option Sd} {np:Option Sd} {me:Option Sd} {ab:List D} (h0:sub o5=.no) (h1:0<=s) (h2:s<=ss.length) (h3:ab=k6 s ss.length) (h4:(st.length:Int)=s) (h5:8<=bn) (h6:bn<=8+(3*(m+1)+1)*r+(m+1)*s) (h7:∀c∈st,∃cs:List D,c=.lst cs/\(cs.length:Int)=own+1/\∀k:Nat,k<cs.length->∃z,cs[k]?=some z/\Cs a9 (v6 own k) z):PlB c ss xs size m a9 rs r own [some (.no,.int c),some (.no,sL ss),some (.rt,iL xs),some (.no,.int size),some (.dp,.int m),some (o5,iL a9),some (.rt,.lst rs),some (o7,.int bn),some (.no,.int r),some (.rt,.lst st),i5,np,me] ab
inductive PlA (c:Int)(ss:List Str)(xs:List Int)(size m:Int)(a9:List Int):En->List D->Prop
 |mk (r:Int) (bn:Int) (rs:List D) {l8:Option Sd} {l9:Option Sd} {i5:Option Sd} {np:Option Sd} {me:Option Sd} {o5:Own} {o7:Own} {ab:List D} (h0:sub o5=.no) (h1:0<=r) (h2:r<=size) (h3:ab=k6 r size) (h4:(rs.length:Int)=r) (h5:8<=bn) (h6:bn<=8+(3*(m+1)+1)*r) (h7:∀i:Nat,i<rs.length->∃d,rs[i]?=some d/\Pr a9 ss.length (a9.getD i 0) d):PlA c ss xs size m a9 [some (.no,.int c),some (.no,sL ss),some (.rt,iL xs),some (.no,.int size),some (.dp,.int m),some (o5,iL a9),some (.rt,.lst rs),some (o7,.int bn),l8,l9,i5,np,me] ab
theorem qzm(c)(ss)(hs:1<=ss.length)(hs2:ss.length<=3):Oo m__law_plain [(.no,.int c),(.no,sL ss)] (λy=>∃rs,y=(.no,jq ss rs)/\∃a9,1<=a9.length/\a9.length<=6/\a9[0]?=some 0/\(∀p∈a9,0<=p/\p<=3)/\Prs a9 ss.length rs) noX:=by
 unfold m__law_plain;refine k7 ?_;simp![];refine(jxk c 90 ⋯ ⋯).use ?_;intro xs hx;have hxl:=hx.1;have ix:∀i,0<=i->i<90->∃v,jW (iL xs) (.int i)=some (.int v)/\0<=v:=λi i0 i1=>by
  obtain⟨v,e,h,_⟩:=ixI xs _ hx.2 i i0 ⋯;exact#[v,e,h.1]
 obtain⟨v0,e0,a0⟩:=ix 0 ⋯ ⋯;obtain⟨v1,e1,a1⟩:=ix 1 ⋯ ⋯;have q0:=Y9 v0 (show(8:Int)≠0 by decide);have q1:=Xx v0 (show(0:Int)<8 by decide);obtain⟨size,esz,sz0,sz1⟩:∃sz,jW (.lst [.int 1,.int 2,.int 3,.int 4,.int 5,.int 2,.int 4,.int 6]) (.int (v0 % 8))=some (.int sz)/\1<=sz/\sz<=6:=by
  generalize v0 % 8=t at q0 q1;have:t=0\/t=1\/t=2\/t=3\/t=4\/t=5\/t=6\/t=7:=⋯
  rcases this with rfl|rfl|rfl|rfl|rfl|rfl|rfl|rfl<;>exact#[_,rfl,⋯,⋯]
 refine QJ (λE=>E=[some (.no,.int c),some (.no,sL ss),some (.rt,iL xs),some (.no,.int size),none,none,none,none,none,none,none,none,none]) ?_ ?_
 ·simp![e0,esz]
 rintro E rfl;refine QJ (λE=>E=[some (.no,.int c),some (.no,sL ss),some (.rt,iL xs),some (.no,.int size),some (.dp,.int 2),none,none,none,none,none,none,none,none]) ?_ ?_
 ·simp![]
 rintro E rfl;refine QJ (λE=>∃m,E=[some (.no,.int c),some (.no,sL ss),some (.rt,iL xs),some (.no,.int size),some (.dp,.int m),none,none,none,none,none,none,none,none]/\((m=2)\/(m=3/\size=3))) ?_ ?_
 ·by_cases h3:size=3
  ·have hb:(size==3)=true:=by simp[h3]
   by_cases h4:v1 % 3=0
   ·have ft:(v1 % 3==0)=true:=by simp[h4]
    simp![e1,eqi hb,eqi ft];exact#[3,rfl,.inr #[rfl,h3]]
   ·have ft:(v1 % 3==0)=false:=Xu h4;simp![e1,eqi hb,eqi ft];exact#[2,rfl,.inl rfl]
  ·have hb:(size==3)=false:=Xu h3;simp![eqi hb];exact#[2,rfl,.inl rfl]
 rintro E ⟨m,rfl,hm⟩;have hm0:2<=m/\m<=3:=by rcases hm with rfl|⟨rfl,_⟩<;>lia
 simp![];refine Qx [some (.rt,iL xs),some (.dp,.int m)] (λ_ y=>∃i,y=(.dp,.int i)/\0<=i/\i<=m) ?_;simp![];refine#[rfl,λd rh=>?_,λys hy=>?_]
 ·obtain⟨i,i0,i1,rfl⟩:=qjr rh;obtain⟨w,ew,aw⟩:=ix (1+i) ⋯ ⋯;have:=Y9 (w / 3) (show m+1≠0 by lia);have:=Xx (w / 3) (show 0<m+1 by lia);simp![ew,mod_i (a:=w / 3) (b:=m+1) ⋯];exact#[#[_,rfl],_,rfl,⋯,⋯]
 obtain⟨ks,h1,h2,h3⟩:=kke (S:=λi=>0<=i/\i<=m) (λd y hz=>by obtain⟨i,h,s⟩:=hz;exact#[i,by rw[h],s]) hy;rw [xV,h1];simp only[back,clr,at',List.map_cons,List.map_nil,List.set_cons_zero,List.set_cons_succ];have l0:((0::ks).length:Int)=size:=by rw[Xm];have:=vjg (k:=0) (n:=size - 1) ⋯;lia
 have lw:∀p∈(0::ks:List Int),0<=p/\p<=m:=λp hp=>by
  rcases aD hp with rfl|hp
  ·exact#[⋯,⋯]
  ·exact h3 p hp
 have ig:∀p∈(0::ks:List Int),0<=p/\p<=3:=λp hp=>by have:=lw p hp;lia
 have fc:jX (.no,.lst [.int 0]) (.no,.lst (ks.map D.int))=some (.rt,iL (0::ks)):=kzm ⋯ ⋯ (by rw[X3];simp at l0 ⊢;lia);have mr:(0::ks:List Int)[0]?=some 0:=rfl;simp![fc];generalize (0::ks:List Int)=a9 at l0 lw ig fc mr;refine qK (PlA c ss xs size m a9) ?_ ?_ ?_
 ·simp![];exact#[0,8,[],rfl,⋯,⋯,rfl,rfl,⋯,⋯,λi hi=>nomatch hi]
 ·rintro E d ds ⟨r,bn,rs,hs5,r0,r1,hr,ma,at0,at1,hrs⟩;obtain⟨ph,rfl,rfl⟩:=xX r1 hr;obtain⟨own,eo,⟨ow0,ow1⟩,how⟩:=ixI a9 _ lw r r0 ⋯;simp![];refine qK (PlB c ss xs size m a9 rs r own) ?_ ?_ ?_
  ·simp![];exact#[0,bn,[],hs5,⋯,⋯,rfl,rfl,⋯,⋯,λc hc=>nomatch hc]
  ·rintro E d ds ⟨s,bn,st,hs5,s0,s1,hr,gq,at0,at1,bg⟩;obtain⟨hsk,rfl,rfl⟩:=xX s1 hr;simp![];refine qK (PlC c ss xs size m a9 rs r own st s) ?_ ?_ ?_
   ·simp![eo,hs5];exact#[0,bn,[],hs5,⋯,⋯,rfl,rfl,⋯,⋯,λc hc=>nomatch hc]
   ·rintro E d ds ⟨k,bn,cs,hs5,k0,k1,hr,dv,at0,at1,lh⟩;obtain⟨hkk,rfl,rfl⟩:=xX k1 hr;have ie:bn<90:=by rcases hm with rfl|⟨rfl,_⟩<;>lia
    obtain⟨w,ew,aw⟩:=ix bn ⋯ ie;have n6:own+(if k=own then(1:Int)else 0)=v6 own k:=rfl;have hB0:0<=v6 own k/\v6 own k<=4:=by unfold v6;split<;>lia
    simp![];refine vw rfl ?_;simp![eo,ew,Wv,vkj,n6,hs5];refine(vx8 w (v6 own k) a9 ig mr ⋯ hB0.1 ⋯).via ?_;intro y hy;simp![];refine#[_,rfl,⋯,k+1,bn+1,cs++[y.2],rfl,⋯,⋯,rfl,by simp;lia,⋯,⋯,?_];intro j hj;rw[Xf,Y4]at hj
    by_cases hj2:j<cs.length
    ·obtain⟨z,z1,z2⟩:=lh j hj2;exact#[z,by rw[Xw hj2];exact z1,z2]
    ·have:j=cs.length:=⋯
     subst this;exact#[y.2,by simp,by rw[dv];exact hy]
   ·rintro E ⟨k,bn,cs,hs5,k0,k1,hr,dv,at0,at1,lh⟩;have:=zw k1 hr;subst this;refine vw rfl ?_;simp![];refine#[_,rfl,⋯,s+1,bn,st++[.lst cs],hs5,⋯,⋯,rfl,by simp;lia,⋯,by rcases hm with rfl|⟨rfl,_⟩<;>lia,λc hc=>?_];rcases aA hc with z|z
    ·exact bg c z
    ·rw[aC z];exact#[cs,rfl,dv,lh]
  ·rintro E ⟨s,bn,st,hs5,s0,s1,hr,gq,at0,at1,bg⟩;have:=zw s1 hr;subst this;have ie:bn<90:=by rcases hm with rfl|⟨rfl,_⟩<;>lia
   obtain⟨w,ew,_⟩:=ix bn ⋯ ie;simp![];refine vw rfl ?_;simp![eo,ew,Wv,hs5];refine#[_,rfl,⋯,?_];simp![];refine PlA.mk (r+1) (bn+1) (rs++[.tup [.int own,.bl (w % 2==0),.lst st]]) hs5 ?_ ?_ rfl ?_ ?_ ?_ ?_
   ·lia
   ·lia
   ·simp;lia
   ·lia
   ·rcases hm with rfl|⟨rfl,_⟩<;>lia
   intro j hj;rw[Xf,Y4]at hj
   by_cases hj2:j<rs.length
   ·obtain⟨z,z1,z2⟩:=hrs j hj2;exact#[z,by rw[Xw hj2];exact z1,z2]
   ·have:j=rs.length:=⋯
    subst this;refine#[_,by simp;rfl,?_];have hg:a9.getD rs.length 0=own:=by rw[X4,show rs.length=r.toNat by lia,how];rfl
    rw[hg];exact#[_,st,rfl,⋯,bg]
 ·rintro E ⟨r,bn,rs,hs5,r0,r1,hr,ma,at0,at1,hrs⟩;have:=zw r1 hr;subst this;simp![vzo (o:=.no) (xs:=ss.map D.str) ⋯];exact#[rs,rfl,a9,⋯,⋯,mr,ig,#[⋯,λi hi=>hrs i ⋯]]
theorem kz5{G}(hG:∀d y,G d y->∃c,y.2=.str #[(List.toArray [c])]):∀{ds ys},Each G ds ys->∃ps:List Str,ys.map (·.2)=ps.map D.str/\ps.length=ds.length/\∀p∈ps,p.length=1
 |[],[],_=>#[[],rfl,rfl,λ_ h=>nomatch h]
 |d::ds,y::ys,r=>by
  obtain⟨i,e⟩:=hG d y r.1;obtain⟨ps,h1,h2,h3⟩:=kz5 hG r.2;exact#[#[(List.toArray [i])]::ps,by simp[e,h1],by simp[h2],λp hp=>(aD hp).elim (λz=>z▸rfl) (h3 p)]
theorem qko:∀{ps:List Str},(∀p∈ps,p.length=1)->(ps.map (·.length)).sum=ps.length
 |[],_=>rfl|p::ps,h=>by rw[List.map_cons,List.sum_cons,h p X5,qko λq hq=>h q (lc9 _ hq),Xm];lia
theorem vwp{y ys}(h:y.length=1):1<=(Str.join "" (y::ys)).length:=by
 cases ys with
 |nil=>show 1<=y.length;lia
 |cons z ys=>
  show 1<=(y++""++Str.join "" _).cps.size;rw[kv2,kv2];have:y.cps.size=1:=h;lia
theorem wqb{ps:List Str}(h:∀p∈ps,p.length=1)(h0:1<=ps.length)(h1:ps.length<=100):∃z,vkn "" (.lst (ps.map D.str))=some (.str z)/\1<=z.cps.size/\z.cps.size<=100:=by
 have hz:("":Str).length=0:=rfl;have hs:=qko h;refine#[Txt.join "" ps,?_,?_,?_]
 ·unfold vkn;dsimp only;rw[qj0];dsimp only;rw[Xd (by rw[hs,hz];lia)]
 ·unfold Txt.join;rw[StrLaws.glued_eq_join];cases ps with|nil=>cases h0|cons y ys=>exact vwp (h y X5)
 ·show(Txt.join "" ps).length<=100;unfold Txt.join;rw[StrLaws.glued_eq_join];have:=StrLaws.join_length_le "" ps;rw[hs,hz]at this;lia
theorem xkv{o z lo hi}(h:z.cps.size<=100):fSl (o,.str z) lo hi=some (.dp,.str (Txt.slice z lo hi)):=by
 have hl:=Txt.slice_le z lo hi;have h:z.length<=100:=h;show(if(Txt.slice z lo hi).length<=big then _ else none)=_;rw[Xd (by unfold big;lia)]
theorem qxe(c):Oo m__law_signs [(.no,.int c)] (λy=>∃ss,y=(.rt,sL ss)/\1<=ss.length/\ss.length<=3) noX:=by
 have m0:=Y9 c (show(8:Int)≠0 by decide);have m1:=Xx c (show(0:Int)<8 by decide);unfold m__law_signs;refine k7 ?_;simp![];refine(jxk c 9 ⋯ ⋯).use ?_;intro xs hx;have hxl:=hx.1;simp![↓wvu];have gq:fSl (Own.no,iL xs) none (some (1+c % 8))=some (.rt,iL (xs.take (1+c % 8).toNat)):=by
  rw[show iL xs=.lst (xs.map D.int)from rfl,qxd (o:=.no) ⋯,cut_to ⋯ (by rw[X3];lia),<-List.map_take]
 have hsl':fSl (Own.rt,iL xs) none (some (1+c % 8))=some (.rt,iL (xs.take (1+c % 8).toNat)):=by
  rw[show iL xs=.lst (xs.map D.int)from rfl,qxd (o:=.rt) ⋯,cut_to ⋯ (by rw[X3];lia),<-List.map_take]
 refine Qx [some (.dp,.str "abcdefghijklmnopqrstuvwxyz")] (λ_ y=>∃c,y.2=.str #[(List.toArray [c])]) ?_;simp![gq,hsl'];refine#[rfl,λd hd=>?_,λys u7=>?_]
 ·obtain⟨t,ht,rfl⟩:=aE hd;obtain⟨ch,hc⟩:=qqm "abcdefghijklmnopqrstuvwxyz" (t % 26) (Y9 t (show(26:Int)≠0 by decide)) (Xx t (show(0:Int)<26 by decide));simp![hc];exact#[#[_,rfl],ch,rfl]
 obtain⟨ps,h1,h2,h3⟩:=kz5 (λd y h=>h) u7;have bv:ps.length=(1+c % 8).toNat:=by rw[h2,X3,Ys];lia
 obtain⟨z,hz,z0,z1⟩:=wqb h3 ⋯ ⋯;rw[xV,h1];simp only[back,clr,at',List.map_cons,List.map_nil,List.set_cons_zero,List.set_cons_succ];have ai:kz (.str z)=some (.int z.cps.size):=rfl;simp![hz,ai,mod_i (a:=c / 8) (b:=(z.cps.size:Int)) ⋯];generalize ie:c / 8 % (z.cps.size:Int)=a;obtain⟨m,em,mm0,mm1⟩:∃m,jW (.lst [.int 1,.int 2,.int 1,.int 2,.int 2,.int 1,.int 2,.int 3]) (.int (c / 64 % 8))=some (.int m)/\1<=m/\m<=3:=by
  have q0:=Y9 (c / 64) (show(8:Int)≠0 by decide);have q1:=Xx (c / 64) (show(0:Int)<8 by decide);generalize c / 64 % 8=t at q0 q1;have:t=0\/t=1\/t=2\/t=3\/t=4\/t=5\/t=6\/t=7:=⋯
  rcases this with rfl|rfl|rfl|rfl|rfl|rfl|rfl|rfl<;>exact#[_,rfl,⋯,⋯]
 obtain⟨v,ev,⟨v0,_⟩,_⟩:=ixI xs _ hx.2 8 ⋯ ⋯;refine qK (λE ab=>∃(j:Int) (ss:List Str) (l6:Option Sd) (o1 o3:Own),E=[some (.no,.int c),some (o1,.str "abcdefghijklmnopqrstuvwxyz"),some (.rt,iL xs),some (o3,.str z),some (.dp,.int a),some (.rt,sL ss),l6]/\0<=j/\j<=m/\ab=k6 j m/\(ss.length:Int)=j) ?_ ?_ ?_
 ·simp![em];exact#[0,[],_,_,_,rfl,⋯,⋯,rfl,rfl]
 ·rintro E d ds ⟨j,ss,l6,o1,o3,rfl,j0,j1,hr,hl⟩;obtain⟨hj,rfl,rfl⟩:=xX j1 hr;have u0:=Y9 v (show(24:Int)≠0 by decide);have u1:=Xx v (show(0:Int)<24 by decide);obtain⟨ch,hc⟩:=qqm "abcdefghijklmnopqrstuvwxyz" (v % 24+j) ⋯ (show v % 24+j<26 by lia);have s1:=xkv (o:=.no) (z:=z) (lo:=none) (hi:=some a) ⋯;have s2:=xkv (o:=.no) (z:=z) (lo:=some (a+1)) (hi:=none) ⋯;have s1':=xkv (o:=o3) (z:=z) (lo:=none) (hi:=some a) ⋯;have s2':=xkv (o:=o3) (z:=z) (lo:=some (a+1)) (hi:=none) ⋯;have g1:(Txt.slice z none (some a)).cps.size<=100:=Ye (Txt.slice_le z none (some a)) z1;have g2:(Txt.slice z (some (a+1)) none).cps.size<=100:=Ye (Txt.slice_le z (some (a+1)) none) z1;generalize Txt.slice z none (some a)=w1 at s1 s1' g1;generalize Txt.slice z (some (a+1)) none=w2 at s2 s2' g2;have mi:((#[(List.toArray [ch])]:Str).cps.size)=1:=rfl;simp![];refine vw rfl ?_;simp![s1,s2,s1',s2',ev,hc,(vqo (o1:=.no) (o2:=.no) (a:=w1) (b:=#[(List.toArray [ch])]) (by rw[mi];lia)),(vqo (o1:=.no) (o2:=.no) (a:=w1++#[(List.toArray [ch])]) (b:=w2) (by rw[kv2,mi];lia)),(vqo (o1:=.no) (o2:=sub o1) (a:=w1) (b:=#[(List.toArray [ch])]) (by rw[mi];lia))];refine#[_,rfl,by rw[X3];lia,?_];rw[show ∀w,ss.map D.str++[D.str w]=(ss++[w]).map D.str from λw=>by simp];exact#[j+1,ss++[_],_,_,_,rfl,⋯,⋯,rfl,by simp;lia]
 ·rintro E ⟨j,ss,l6,o1,o3,rfl,j0,j1,hr,hl⟩;have:=zw j1 hr;subst this;simp![];exact#[ss,rfl,⋯,⋯]
theorem vwg{kv k v p}(h:p∈qX kv k v):p∈kv\/p=(k,v):=by
 unfold qX at h
 split at h
 ·obtain⟨q,hq,rfl⟩:=aE h
  by_cases e:q.1=k
  ·rw[Xd e];exact .inr (by rw[e])
  ·rw[Xi e];exact .inl hq
 ·rcases aA h with z|z
  ·exact .inl z
  ·exact .inr (aC z)
theorem vvq(h:Int->Int)(kv:List (Int×Int))(k v:Int):(qX kv k v).map (λp=>(p.1,h p.2))=qX (kv.map λp=>(p.1,h p.2)) k (h v):=by
 unfold qX;rw[List.any_map];have:(kv.any λp=>decide (p.1=k))=kv.any ((λp=>decide (p.1=k))∘λ(p:Int×Int)=>(p.1,h p.2)):=rfl;rw[<-this]
 split
 ·rw[Xj,Xj];refine Yb λp _=>?_
  simp only[Function.comp]
  split<;>rfl
 ·rw[X7];rfl
theorem qkl(h:Int->Int)(k:Int):∀(kv:List (Int×Int)),jQ (kv.map λp=>(p.1,h p.2)) k=(jQ kv k).map h
 | []=>rfl
 | p::kv=>by
  have ih:=qkl h k kv;unfold jQ at ih ⊢;rw[List.map_cons,List.find?_cons,List.find?_cons]
  by_cases e:p.1=k
  ·simp[e]
  ·simp only[Xl e];exact ih
theorem vv3{kv k v}(h:jQ kv k=some v):(k,v)∈kv:=by
 unfold jQ at h;cases hf:kv.find? λp=>decide (p.1=k)with|none=>grind|some p=>grind
theorem qqj(N:List Int):∀(sh kv lz:List (Int×Int)),lz=kv.map (λp=>(p.1,N.getD p.2.toNat 0))->sh.foldl (λkv p=>qX kv p.2 (N.getD p.1.toNat 0)) lz=(((sh.map λp=>(p.2,p.1)).foldl (λkv p=>qX kv p.1 p.2) kv).map λp=>(p.1,N.getD p.2.toNat 0))
 |[],kv,lz,h=>h
 |p::sh,kv,lz,h=>by
  rw[List.map_cons,Yx,Yx];refine qqj N sh _ _ ?_;rw[h];exact(vvq (λi=>N.getD i.toNat 0) kv p.2 p.1).symm
theorem qwu(N:List Int)(sh:List (Int×Int))(j:Int):jQ (kvN N sh) j=(jQ (kvS sh) j).map λi=>N.getD i.toNat 0:=by
 unfold kvN kvS;rw[qqj N sh [] [] rfl];exact qkl (λi=>N.getD i.toNat 0) j _
theorem qqg:∀(ps kv:List (Int×Int)) {p},p∈ps.foldl (λkv p=>qX kv p.1 p.2) kv->p∈kv\/p∈ps
 | [],kv,p,h=>.inl h
 | q::ps,kv,p,h=>by
  rcases qqg ps _ h with z|z
  ·rcases vwg z with z|z
   ·exact .inl z
   ·exact .inr (z▸X5)
  ·exact .inr (lc9 _ z)
theorem kja{sh j i}(h:jQ (kvS sh) j=some i):(i,j)∈sh:=by
 rcases qqg _ _ (vv3 h)with z|z
 ·grind
 ·grind
def qj(own:Int)(kv:List (Int×Int))(n:Nat):Nat:=((nmF own kv n).filter λx=>decide (own<=x)).length
section
variable {own:Int}{kv:List (Int×Int)}
theorem Kq{n:Nat}{i}(h:jQ kv n=some i):nmF own kv (n+1)=nmF own kv n++[i]:=by rw[jxs,h]
theorem K5{n:Nat}(h:jQ kv n=none):nmF own kv (n+1)=nmF own kv n++[own+qj own kv n]:=by rw[jxs,h];rfl
theorem kq8(ho:0<=own)(hv:∀j i,jQ kv j=some i->0<=i/\i<own):∀n,∀x∈nmF own kv n,0<=x/\x<own+qj own kv n
 | 0,x,h=>nomatch h
 | n+1,x,h=>by
  have ih:=kq8 ho hv n;cases hc:jQ kv n with
  | some i=>
   have hi:=hv _ _ hc;have qc:qj own kv (n+1)=qj own kv n:=by
    unfold qj;rw[Kq hc,Yj];have:decide (own<=i)=false:=Xl ⋯;simp[this]
   rw[Kq hc]at h;rw[qc];rcases aA h with z|z
   ·exact ih x z
   ·rw[aC z];lia
  | none=>
   have qc:qj own kv (n+1)=qj own kv n+1:=by
    unfold qj;rw[K5 hc,Yj];have:decide (own<=own+(qj own kv n))=true:=Xb ⋯;simp[this]
   rw[K5 hc]at h;rw[qc];rcases aA h with z|z
   ·have:=ih x z;lia
   ·rw[aC z];lia
theorem kvv(n:Nat):∀m,∃r,nmF own kv (n+m)=nmF own kv n++r
 |0=>#[[],by simp]
 |m+1=>by
  obtain⟨r,hr⟩:=kvv n m;refine#[r++[match jQ kv ((n+m:Nat):Int)with|some i=>i|none=>own+((nmF own kv (n+m)).filter λx=>decide (own<=x)).length],?_];show nmF own kv (n+m+1)=_;rw[jxs,<-Xq,<-hr]
  try rfl
theorem kxu{x:Int}:∀{l r:List Int},x∉l->((l++x::r).findIdx λw=>w==x)=l.length
 |[],r,_=>by simp[List.findIdx_cons]
 |y::l,r,h=>by
  have hy:(y==x)=false:=Xu λe=>h (by rw[e];exact X5)
  rw[List.cons_append,List.findIdx_cons,hy,kxu λz=>h (lc9 _ z)];rfl
theorem vk1(ho:0<=own)(hv:∀j i:Int,jQ kv j=some i->0<=i/\i<own){n m:Nat}(hc:jQ kv n=none)(hm:n<m):((nmF own kv m).findIdx λw=>w==own+qj own kv n)=n:=by
 obtain⟨r,hr⟩:=kvv (own:=own) (kv:=kv) (n+1) (m - (n+1));rw[show n+1+(m - (n+1))=m by lia,K5 hc,Xq]at hr;rw[hr];show((nmF own kv n++(own+(qj own kv n:Int))::r).findIdx _)=n;rw[kxu,JZ];intro z;have:=kq8 ho hv n _ z;lia
end
def ren(N:List Int)(k:Int)(T:List Int)(x:Int):Int:=if x<k then N.getD x.toNat 0 else N.getD (k.toNat+T.findIdx λw=>w==x) 0
theorem kxi{N:List Int}(h:N.Nodup){a b:Nat}(ha:a<N.length)(hb:b<N.length)(e:N.getD a 0=N.getD b 0):a=b:=by
 rw[X4,X4,X1 ha,X1 hb]at e;have e:N[a]=N[b]:=e;rcases Nat.lt_trichotomy a b with z|z|z
 ·exact absurd e (List.pairwise_iff_getElem.mp h a b ha hb z)
 ·exact z
 ·exact absurd e.symm (List.pairwise_iff_getElem.mp h b a hb ha z)
theorem kk7{T:List Int}{x:Int}(h:x∈T):T[T.findIdx λw=>w==x]?=some x:=by
 have hl:(T.findIdx λw=>w==x)<T.length:=Yu #[x,h,by simp];rw[X1 hl];have:=List.findIdx_getElem (w:=hl)
 congr 1
 simpa using this
theorem vvj{N T:List Int}{k:Int}(hk:0<=k)(hl:k<=N.length):(kX k).map (ren N k T)=N.take k.toNat:=by
 unfold kX;rw[Xj];refine List.ext_getElem? λi=>?_
 rw[Xg]
 by_cases hi:i<k.toNat
 ·rw[List.getElem?_take_of_lt hi,List.getElem?_range hi,X1 ⋯];show some (ren N k T i)=_;unfold ren;rw[Xd ⋯,X4,Y2,X1 ⋯];rfl
 ·rw[Y0 (by rw[Y8];lia),Y0 (by rw[Ys];lia)];rfl
theorem kvu{own:Int}{kv:List (Int×Int)}{j n:Nat}(h:j<n){x:Int}(hx:nmF own kv (j+1)=nmF own kv j++[x]):(nmF own kv n)[j]?=some x:=by
 obtain⟨r,hr⟩:=kvv (own:=own) (kv:=kv) (j+1) (n - (j+1));rw[show j+1+(n - (j+1))=n by lia,hx,Xq]at hr;rw[hr,Yl (by rw[JZ];lia),JZ,Nat.sub_self];rfl
theorem qxv{N:List Int}{k:Int}{sh:List (Int×Int)}{n:Nat}(hk:0<=k)(hv:∀j i:Int,jQ (kvS sh) j=some i->0<=i/\i<k):(nmF k (kvS sh) n).map (ren N k (nmF k (kvS sh) n))=qx0 N k sh n:=by
 refine List.ext_getElem? λj=>?_
 unfold qx0;rw[Xg,Xg]
 by_cases hj:j<n
 ·rw[List.getElem?_range hj];show _=some ((jQ (kvN N sh) (j:Int)).getD (N.getD (k.toNat+j) 0));rw[qwu];cases hc:jQ (kvS sh) j with
  |some i=>
   have:=hv _ _ hc;rw[kvu hj (Kq hc)];show some (ren N k _ i)=some (N.getD i.toNat 0);unfold ren;rw[Xd this.2]
  |none=>
   rw[kvu hj (K5 hc)];show some (ren N k _ (k+qj k (kvS sh) j))=some (N.getD (k.toNat+j) 0);unfold ren;rw[Xi ⋯,vk1 hk hv hc hj]
 ·rw[Y0 (by rw[JZ];lia),Y0 (by rw[Y8];lia)];rfl
theorem vwt{k sh n}(hk:0<=k)(hv:∀j i,jQ (kvS sh) j=some i->0<=i/\i<k):((kZ (kX k) (nmF k (kvS sh) n)).length:Int)=k+qj k (kvS sh) n:=by
 unfold kZ qj;rw[Xf,X3,Y8];have:(nmF k (kvS sh) n).filter (λm=>!(kX k).any λw=>w==m)=(nmF k (kvS sh) n).filter λx=>decide (k<=x):=by
  refine List.filter_congr λx hx=>?_
  have h0:=(kq8 hk hv n x hx).1;rw[QK]
  by_cases r9:k<=x
  ·rw[Xb r9,Xl]
   ·rfl
   ·grind
  ·rw[Xl r9,Xb]
   ·rfl
   ·exact List.mem_map.mpr #[x.toNat,List.mem_range.mpr ⋯,⋯]
 rw[this];lia
theorem jzz{a9 ss rs S z c d}(hP:Prs a9 ss.length rs)(hS:qv a9 S)(hz:(ss.any λw=>w==z)=true)(h:Rd a9 ss rs (stn S) (z,c) d):
  Oo m__law_read [(.no,jq ss rs),(.no,stn S),(.no,.str z),(.no,.int c)] (λy=>y.2=d) noX:=by
 cases S with
 | none=>
  have hd:d=.non:=by
   rcases h with⟨_,e⟩|⟨room,ks,st,kp,gd,e,_⟩
   ·exact e
   ·cases e
  subst hd;refine k7 ?_;simp![show stn none=.non from rfl]
 | some P=>
  obtain⟨room,ks⟩:=P;obtain⟨r0,r1,hl⟩:=hS room ks rfl;rcases h with⟨e,_⟩|⟨ow,uo,st,kp,gd,e,h0,hr,hc,hl3,hd⟩
  ·cases e
  ·injection e with e;injection e with e1 e2;injection e1 with e1;injection e2 with e2 _;injection e2 with e2;have e2:ks=uo:=Za (λ_ _ h=>by injection h)|>.mp e2
   subst e1 e2 hd;obtain⟨r,er,gd',gi,rfl,_⟩:=hP.2 room.toNat ⋯;rw[er]at hr;have iy:rs[room.toNat]?=some (.tup [.int ks.length,gd,.lst st]):=by
    grind
   exact vvk h0 iy hc ⋯ hz
theorem wzx{a9 n rs}{p:Int}(hP:Prs a9 n rs)(h0:-1<=p)(h1:p<a9.length):∃k g,Kpr rs p k/\Gdr rs p g/\(p=-1->k=0)/\(0<=p->k=a9.getD p.toNat 0):=by
 by_cases h:p=-1
 ·exact#[0,false,.inl #[h,rfl],.inl #[h,rfl],λ_=>rfl,λz=>by lia]
 ·obtain⟨r,er,gd,st,rfl,_⟩:=hP.2 p.toNat ⋯;exact#[_,gd,.inr #[⋯,_,_,er],.inr #[⋯,_,_,er],λz=>absurd z h,λ_=>rfl]
theorem qxa{a9 s}(h:qv a9 s):-1<=rmO s/\rmO s<a9.length:=by
 cases s with|none=>exact#[Int.le_refl _,by show(-1:Int)<_;lia]|some P=>obtain⟨a,b⟩:=P;obtain⟨h0,h1,_⟩:=h a b rfl;exact#[by show -1<=a;lia,h1]
theorem qxc{a9 p ks}(h0:-1<=p)(h1:p<a9.length)(h2:0<=p->(ks.length:Int)=a9.getD p.toNat 0):qv a9 (vj p ks):=by
 intro room uo e;unfold vj at e
 split at e
 ·grind
 ·injection e with e;injection e with e1 e2;subst e1 e2;exact#[⋯,h1,h2 ⋯]
set_option tactic.hygienic true in
theorem XZ{p ks}(h:p=-1->ks=[]):nms (vj p ks)=ks:=by
 unfold vj
 split
 ·rename_i e;rw[h e];rfl
 ·rfl
theorem kqi{a9 ss rs}(hP:Prs a9 ss.length rs) n:(jq ss rs).flat (n+8)=true:=by
 refine x9 λd hd=>?_
 simp at hd;rcases hd with rfl|rfl
 ·exact x9 λk hk=>by obtain⟨w,_,rfl⟩:=aE hk;rfl
 ·refine x9 λr hr=>?_
  obtain⟨i,hi,e⟩:=List.mem_iff_getElem.mp hr;obtain⟨r',er,gd,st,rfl,_,bg⟩:=hP.2 i (by have:=hP.1;lia);rw[X1 hi,e]at er;injection er with er;subst er;refine x9 λd hd=>?_
  simp at hd;rcases hd with rfl|rfl|rfl
  ·rfl
  ·rfl
  ·refine x9 λc hc=>?_
   obtain⟨cs,rfl,_,lh⟩:=bg c hc;refine x9 λz hz=>?_
   obtain⟨j,hj,ej⟩:=List.mem_iff_getElem.mp hz;obtain⟨z',ez,hcs'⟩:=lh j hj;rw[X1 hj,ej]at ez;injection ez with ez;subst ez;rcases hcs' with rfl|⟨to,fs,rfl,_⟩
   ·rfl
   ·refine x9 λd hd=>?_
    simp at hd;rcases hd with rfl|rfl
    ·rfl
    ·exact x9 λk hk=>by obtain⟨w,_,rfl⟩:=aE hk;rfl
end B
namespace J
open Q PySem C B F
def m_is_small:Fn:=fn 1
  (jJ (Qq (vE (cF2 (pu2 fLe) (vE (cF1 (pu1 kz) (j9 (vV 0) (C9 1)))) (C9 12))) (cF1 (pu1 xq4) (vE (cLC .rt 1 [] (itS (cH (j9 (vV 0) (C9 1)))) (.n 0) tYes (cF2 (pu2 fLe) (j9 (vV 0) (C9 0)) (C9 3)))))))
def xvv:D->Int
 |.int i=>i|_=>0
def ZZ:D->Sn
 |.tup [.int r,.tup ks]=>some (r,ks.map xvv)|_=>none
def rdF(ss:List Str)(rs:List D)(S:Sn)(z:Str)(c:Int):Sn:=match S with
 |none=>none
 |some (room,ks)=>(match rs[room.toNat]? with
  |some (.tup [_,_,.lst st])=>ZZ (x6 ss st ks z c)
  |_=>none)
theorem wwf{a9 d}(h:Ok2 a9 d):stn (ZZ d)=d/\qv a9 (ZZ d):=by
 rcases h with rfl|⟨room,ks,rfl,r0,r1,hl⟩
 ·exact#[rfl,λ_ _ e=>nomatch e]
 ·have e:ZZ (.tup [.int room,iT ks])=some (room,ks):=by
   show some _=_;rw[Xj]
   congr 2
   exact List.map_id ks
  rw[e];refine#[rfl,λa b e=>?_];cases e;exact#[r0,r1,hl]
theorem wzm{a9 S}(h:qv a9 S):Ok2 a9 (stn S):=by
 cases S with|none=>exact .inl rfl|some x=>obtain⟨a,b,c⟩:=h x.1 x.2 rfl;exact .inr #[x.1,x.2,rfl,a,b,c]
theorem xJ{a9 ss rs}{S} z c (hP:Prs a9 ss.length rs)(hk:Abk a9)(hS:qv a9 S):Rd a9 ss rs (stn S) (z,c) (stn (rdF ss rs S z c))/\qv a9 (rdF ss rs S z c):=by
 obtain⟨s',h1,h2,_⟩:=vvl (z,c) hP hk (wzm hS);obtain⟨g1,g2⟩:=wwf h2;have e:rdF ss rs S z c=ZZ s':=by
  rcases id h1 with⟨h3,rfl⟩|⟨room,ks,st,kp,gd,h3,_,hr,_,_,h4⟩
  ·cases S with| none=>rfl| some x=>cases h3
  ·cases S with
   | none=>cases h3
   | some x=>
    injection h3 with h3;injection h3 with e1 h3;injection h3 with e2 _;injection e1 with e1;injection e2 with e2;show(match rs[x.1.toNat]? with
     |some (.tup [_,_,.lst st])=>ZZ _
     |_=>none)=_
    rw[e1,hr,((Za λa b h=>by injection h).mp e2),h4]
 rw[e,g1];exact#[h1,g2]
def kpF(rs:List D)(p:Int):Int:=if p=-1 then 0 else(match rs[p.toNat]? with
 |some (.tup [.int k,_,_])=>k
 |_=>0)
def gdF(rs:List D)(p:Int):Bool:=if p=-1 then false else(match rs[p.toNat]? with
 |some (.tup [_,.bl g,_])=>g
 |_=>false)
theorem wzy{rs p k}(h:Kpr rs p k):kpF rs p=k:=by
 rcases h with⟨rfl,rfl⟩|⟨h0,g,st,e⟩
 ·rfl
 ·unfold kpF;rw[Xi ⋯,e]
theorem xjj{rs p g}(h:Gdr rs p g):gdF rs p=g:=by
 rcases h with⟨rfl,rfl⟩|⟨h0,k,st,e⟩
 ·rfl
 ·unfold gdF;rw[Xi ⋯,e]
theorem wX{a9 n rs}{p:Int}(hP:Prs a9 n rs)(hk:Abk a9)(h0:-1<=p)(h1:p<a9.length):Kpr rs p (kpF rs p)/\Gdr rs p (gdF rs p)/\0<=kpF rs p/\kpF rs p<=3/\(0<=p->kpF rs p=a9.getD p.toNat 0):=by
 obtain⟨k,g,a,b,c,d⟩:=wzx hP h0 h1;rw[wzy a,xjj b];refine#[a,b,?_]
 by_cases hp:p=-1
 ·rw[c hp];exact#[⋯,⋯,λh=>by lia]
 ·have hd:=d ⋯;have hm:a9.getD p.toNat 0∈a9:=by rw[X4,X1 ⋯];exact Xn _
  rw[hd];exact#[(hk _ hm).1,(hk _ hm).2,λ_=>rfl]
theorem kj5:∀l,keyDs 4 (prs l)=true
 |[]=>rfl
 |p::l=>by
  show(qx 4 _&&keyDs 4 _)=true;rw[kj5 l];rfl
theorem xj1(r r') l:qZ (.tup [.int r,.int r',.tup (prs l)])=true:=by
 have:keyDs 5 [D.int r,.int r',.tup (prs l)]=true:=by
  show(qx 5 _&&(qx 5 _&&(keyDs 4 _&&true)))=true;rw[kj5];rfl
 show(keyDs 5 [D.int r,.int r',.tup _]&&true)=true;rw[this];rfl
theorem qxb{a9 S}(h:qv a9 S)(e:rmO S=-1):S=none:=by
 cases S with|none=>rfl|some x=>have:=(h x.1 x.2 rfl).1;have e:x.1=-1:=e;lia
theorem xY{a9 S}(hk:Abk a9)(h:qv a9 S):(nms S).length<=3:=by
 cases S with
 |none=>exact Y6 _
 |some x=>
  obtain⟨a,b,c⟩:=h x.1 x.2 rfl;have hm:a9.getD x.1.toNat 0∈a9:=by rw[X4,X1 ⋯];exact Xn _
  have:=(hk _ hm).2;show x.2.length<=3;lia
def lat(x:Sn×Sn):D:=.tup [stn x.1,stn x.2]
section
variable {a9 aa:List Int}{ss:List Str}{rs rs':List D}
def pS(rs:List D):D->Sn
 |.tup [.int p,_,_]=>xw1 p (kpF rs p)|_=>none
def Q2:List D->List (Int×Int)
 |[]=>[]|.tup [.int i,.int j]::r=>(i,j)::Q2 r|_::r=>Q2 r
theorem JX:∀l,Q2 (prs l)=l
 |[]=>rfl
 |p::l=>by
  show _::Q2 (prs l)=_;rw[JX l]
def pT(rs rs':List D):D->Sn
 |.tup [.int p,.int q,.tup sh]=>K0 q (kpF rs p) (kpF rs' q) (Q2 sh)|_=>none
def pO(rs rs':List D)(P:D):Nat:=(kZ (nms (pS rs P)) (nms (pT rs rs' P))).length
def gS(rs:List D):D->Bool
 |.tup [.int p,_,_]=>gdF rs p|_=>false
def gT(rs:List D):D->Bool
 |.tup [_,.int q,_]=>gdF rs q|_=>false
def Pok(a9 aa:List Int)(P:D):Prop:=∃(p q:Int) (sh:List (Int×Int)),P=.tup [.int p,.int q,.tup (prs sh)]/\-1<=p/\p<a9.length/\-1<=q/\q<aa.length/\sh.length<=3
theorem vk5{a b}(ha:a.length<=3)(hb:b.length<=3):(kZ a b).length<=6:=by
 unfold kZ
 grind
theorem VZ{P}(hP:Prs a9 ss.length rs)(hk:Abk a9)(h:Pok a9 aa P):qv a9 (pS rs P):=by
 obtain⟨p,q,sh,rfl,h0,h1,_⟩:=h;obtain⟨_,_,c,_,e⟩:=wX hP hk h0 h1;refine qxc h0 h1 λhp=>?_
 rw[<-e hp,X3,Y8];lia
theorem VW{P}(ax:Prs aa ss.length rs')(av:Abk aa)(h:Pok a9 aa P):qv aa (pT rs rs' P):=by
 obtain⟨p,q,sh,rfl,_,_,h0,h1,_⟩:=h;obtain⟨_,_,c,_,e⟩:=wX ax av h0 h1;refine qxc h0 h1 λhp=>?_
 rw[<-e hp,JZ];lia
theorem qqv{P}(hP:Prs a9 ss.length rs)(hk:Abk a9)(ax:Prs aa ss.length rs')(av:Abk aa)(h:Pok a9 aa P):
  Oo m_first_standings [(.no,jq ss rs),(.no,jq ss rs'),(.no,P)] (λy=>y=(.no,lat (pS rs P,pT rs rs' P))) noX:=by
 obtain⟨p,q,sh,rfl,h0,h1,h2,h3,h4⟩:=h;obtain⟨a,_,c,d,_⟩:=wX hP hk h0 h1;obtain⟨a',_,c',d',_⟩:=wX ax av h2 h3;refine(vwy a a' c ⋯ c' ⋯ ⋯).mono λy hy=>?_
 rw[hy];show _=(Own.no,D.tup [stn _,stn (K0 q _ _ _)]);rw[JX];rfl
theorem wza{P}(hP:Prs a9 ss.length rs)(hk:Abk a9)(ax:Prs aa ss.length rs')(av:Abk aa)(h:Pok a9 aa P):pO rs rs' P<=6:=vk5 (xY hk (VZ hP hk h)) (xY av (VW ax av h))
theorem qks(t):∀k (o),(jY t k o).length<=o.length
 |_,[]=>Xa _
 |k,n::o=>by
  have:=qks t (k+1) o;unfold jY
  split<;>simp<;>lia
theorem qqa{a b}(ha:qv a9 a)(hb:qv aa b)(hk:Abk a9):Pok a9 aa (v9 a b):=by
 obtain⟨a0,a1⟩:=qxa ha;obtain⟨b0,b1⟩:=qxa hb;exact#[_,_,_,rfl,a0,a1,b0,b1,Ye (qks _ _ _) (xY hk ha)]
abbrev P0:D:=.tup [.int 0,.int 0,.tup []]
def V9:D->Int
 |.tup [.int k,_,_]=>k|_=>0
def kwo(rs:List D):Bool:=decide (rs.length<=12)&&rs.all λr=>decide (V9 r<=3)
theorem vqh(g):∀ds:List D,bls (ds.map λd=>D.bl (g d))=some (ds.map g)
 |[]=>rfl
 |d::ds=>by
  rw[List.map_cons,bls,vqh g ds];rfl
theorem xka g (ds:List D):xq4 (.lst (ds.map λd=>D.bl (g d)))=some (.bl (ds.all g)):=by
 show(bls _).map _=_;rw[vqh];simp[Function.comp_def]
theorem small_is{d0 rs}(h:∀r∈rs,∃(own:Int) (a b:D),r=.tup [.int own,a,b]):Oo m_is_small [(.no,.tup [d0,.lst rs])] (λy=>∃o',y=(o',.bl (kwo rs))/\True) noX:=by
 have q1:∀a b,jW (.tup [a,b]) (.int 1)=some b:=λ_ _=>rfl
 refine k7 ?_
 by_cases hl:rs.length<=12
 ·have e:fLe (.int rs.length) (.int 12)=some (.bl true):=by rw[le_ii,Xb ⋯]
  simp![q1,e];refine Qx [] (λd y=>y.2=.bl (decide (V9 d<=3))) ?_;simp![q1];refine#[λd hd=>?_,λys hy=>?_]
  ·obtain⟨own,a,b,rfl⟩:=h d hd;simp![t0];exact#[#[_,rfl],rfl]
  ·rw[xV,Ww (h:=λd=>.bl (decide (V9 d<=3))) (λ_ _ h=>h) hy];simp![xka (λd=>decide (V9 d<=3))];exact#[_,by unfold kwo;rw[Xb hl];rfl,trivial]
 ·have e:fLe (.int rs.length) (.int 12)=some (.bl false):=by rw[le_ii,Xl ⋯]
  simp![q1,e];exact#[_,by unfold kwo;rw[Xl hl];rfl,trivial]
theorem qq5{n}(hP:Prs a9 n rs):∀r∈rs,∃(own:Int) (a b:D),r=.tup [.int own,a,b]:=λr hr=>by
 obtain⟨i,hi,e⟩:=Yn hr;obtain⟨r',e',gd,st,h',_⟩:=hP.2 i (hP.1▸hi);rw[X1 hi,e]at e'
 grind
theorem kx4{n}(hP:Prs a9 n rs)(hk:Abk a9)(nq:a9.length<=12):kwo rs=true:=by
 unfold kwo;rw[Xb (hP.1▸nq),Bool.true_and,Z7];intro r hr;obtain⟨i,hi,e⟩:=Yn hr;have jh:i<a9.length:=by rw[<-hP.1];exact hi
 obtain⟨r',e',gd,st,h',_⟩:=hP.2 i jh;rw[X1 hi,e]at e';cases oq9 e';rw[h'];have hm:a9.getD i 0∈a9:=by rw[X4,X1 jh];exact Xn _
 exact Xb (hk _ hm).2
end
end J
namespace Kp
open Q PySem C
theorem bk(E:En):back [] [] (clr [] E)=E:=rfl
end Kp
namespace U
open Q PySem C B J
theorem qx6{a b:Sn}(h:stn a=stn b):a=b:=by
 cases a with
 | none=>cases b with|none=>rfl|some y=>cases h
 | some x=>cases b with
  |none=>cases h
  |some y=>
   have h:(D.tup [.int x.1,iT x.2])=.tup [.int y.1,iT y.2]:=h;injection h with h;injection h with e1 h;injection h with e2 _;injection e1 with e1;injection e2 with e2;have e2:x.2=y.2:=(Za λa b h=>by injection h).mp e2;exact congrArg some (Prod.ext e1 e2)
theorem wwp{a9:List Int}{ss:List Str}{rs:List D}{s a b:D}{w:Str×Int}(h:Rd a9 ss rs s w a)(h':Rd a9 ss rs s w b):a=b:=by
 rcases h with⟨rfl,rfl⟩|⟨room,ks,st,kp,gd,rfl,_,hr,_,_,e⟩
 ·rcases h' with⟨_,rfl⟩|⟨room,ks,st,kp,gd,h,_⟩
  ·rfl
  ·cases h
 ·rcases h' with⟨h,_⟩|⟨ow,uo,gi,kp',gd',h,_,iy,_,_,e'⟩
  ·cases h
  ·injection h with h;injection h with e1 h;injection h with e2 _;injection e1 with e1;injection e2 with e2;have e2:ks=uo:=(Za λa b h=>by injection h).mp e2;subst e1 e2;rw[hr]at iy;injection iy with iy;injection iy with iy;injection iy with _ iy;injection iy with _ iy;injection iy with iy _;injection iy with iy;rw[e,e',iy]
section
variable {a9 aa:List Int}{ss:List Str}{rs rs':List D}{f:Int->Int}
theorem qj6{S:Sn}{z:Str}{c:Int}(hP:Prs a9 ss.length rs)(hk:Abk a9)(hS:qv a9 S)(qf:∀x∈nms S,f x=f c->x=c):rdF ss rs (vW f S) z (f c)=vW f (rdF ss rs S z c)/\∀n∈nms (rdF ss rs S z c),n∈nms S\/n=c:=by
 obtain⟨s',h1,h2,h3,_⟩:=wwo (z:=z) hP hk hS qf;have hm:qv a9 (vW f S):=by
  cases S with
  |none=>exact λ_ _ e=>nomatch e
  |some x=>
   intro room ks e;cases e;obtain⟨a,b,c⟩:=hS x.1 x.2 rfl;exact#[a,b,by rw[X3];exact c]
 have e1:=qx6 (wwp (xJ z c hP hk hS).1 h1);have e2:=qx6 (wwp (xJ z (f c) hP hk hm).1 h2);rw[e1,e2];exact#[rfl,h3]
theorem wzp{l:List Int}{g:Int->Int}(h:l.Nodup)(hi:∀x∈l,∀y∈l,g x=g y->x=y):(l.map g).Nodup:=by
 induction l with
 |nil=>exact Xr
 |cons a l ih=>
  rw[Z3]at h;rw[List.map_cons,Z3];refine#[λz=>?_,ih h.2 λx hx y hy=>hi x (lc9 _ hx) y (lc9 _ hy)];obtain⟨b,hb,e⟩:=aE z;have:=hi b (lc9 _ hb) a X5 e;exact h.1 (this▸hb)
theorem vxy{S:Sn}{z:Str}{c:Int}(hP:Prs a9 ss.length rs)(hk:Abk a9)(hS:qv a9 S)(hn:(nms S).Nodup):(nms (rdF ss rs S z c)).Nodup:=by
 have h1:=(xJ z c hP hk hS).1;generalize rdF ss rs S z c=S' at h1;rcases h1 with⟨_,e⟩|⟨room,ks,st,kp,gd,e,_,_,hc,_,e'⟩
 ·cases S' with| none=>exact Xr| some x=>cases e
 ·have hks:nms S=ks:=by
   cases S with
   | none=>cases e
   | some x=>
    have e:(D.tup [.int x.1,iT x.2])=.tup [.int room,iT ks]:=e;injection e with e;injection e with _ e;injection e with e _;injection e with e;exact(Za λa b h=>by injection h).mp e
  rw [hks]at hn;unfold x6 at e';cases hz:(ss.any λw=>w==z)with
  | false=>
   rw [hz]at e';cases S' with| none=>exact Xr| some x=>cases e'
  | true=>
   rw [hz,Xd rfl]at e';obtain⟨cs,_,_,_,g4⟩:=kzc c hc hz;rcases g4 with g|⟨to,fs,g,_,_,hfs,hnd,_⟩
   ·rw [g]at e';cases S' with| none=>exact Xr| some x=>cases e'
   ·rw [g,show(D.tup (fs.map D.int))=iT fs from rfl,caseD_is]at e';cases S' with
    | none=>cases e'
    | some x=>
     have e':(D.tup [.int x.1,iT x.2])=.tup [.int to,iT (fs.map (C.nameAt ks c))]:=e';injection e' with e';injection e' with _ e';injection e' with e' _;injection e' with e';have e':x.2=fs.map (C.nameAt ks c):=(Za λa b h=>by injection h).mp e';show x.2.Nodup;rw[e'];have hb:=λi hi=>hfs i hi
     refine wzp hnd λi hi j hj mw=>?_
     obtain⟨i0,i1⟩:=hfs i hi;obtain⟨j0,j1⟩:=hfs j hj;unfold v6 at i1 j1;unfold C.nameAt at mw;have iw:i.toNat=j.toNat:=by
      by_cases hm:c∈ks
      ·have cz:(ks.findIdx λw=>w==c)<ks.length:=Yu #[c,hm,by simp];rw[Xi ⋯]at i1 j1;rw[X4,X4,Xw ⋯,Xw ⋯,<-X4,<-X4]at mw;exact kxi hn ⋯ ⋯ mw
      ·have nj:(ks++[c]).Nodup:=List.nodup_append.mpr #[hn,by simp,λx hx y hy e=>by rw[aC hy]at e;exact hm (e▸hx)];have:(if((ks.findIdx λw=>w==c:Nat):Int)=ks.length then(1:Int)else 0)<=1:=by split<;>lia
       exact kxi nj (by rw[Xf,Y4];lia) (by rw[Xf,Y4];lia) mw
     lia
set_option tactic.hygienic true in
theorem kv3{t:List Int}{i j:Int}:∀{o:List Int} {k:Nat},(i,j)∈jY t k o->∃m:Nat,∃x:Int,i=((k+m:Nat):Int)/\o[m]?=some x/\x∈t/\j=((t.findIdx λw=>w==x:Nat):Int)
 | [],k,h=>nomatch h
 | n::o,k,h=>by
  have e:jY t k (n::o)=if(t.any λw=>w==n)=true then((k:Int),((t.findIdx λw=>w==n:Nat):Int))::jY t (k+1) o else jY t (k+1) o:=rfl
  rw[e]at h;have go:(i,j)∈jY t (k+1) o->∃m:Nat,∃x:Int,i=((k+m:Nat):Int)/\(n::o)[m]?=some x/\x∈t/\j=((t.findIdx λw=>w==x:Nat):Int):=λh=>by
   obtain⟨m,x,h1,h2,h3,h4⟩:=kv3 h;exact#[m+1,x,by rw[h1];congr 1;lia,h2,h3,h4]
  split at h
  ·rename_i ha;rcases aD h with h|h
   ·injection h with h1 h2;rw[QK]at ha;exact#[0,n,h1,rfl,Yo ha,h2]
   ·exact go h
  ·exact go h
theorem vj8{t:List Int}{x:Int}:∀{o:List Int} {k m:Nat},o[m]?=some x->x∈t->(((k+m:Nat):Int),((t.findIdx λw=>w==x:Nat):Int))∈jY t k o
 | [],k,m,h,_=>nomatch h
 | n::o,k,m,h,hx=>by
  have e:jY t k (n::o)=if(t.any λw=>w==n)=true then((k:Int),((t.findIdx λw=>w==n:Nat):Int))::jY t (k+1) o else jY t (k+1) o:=rfl
  rw[e];cases m with
  |zero=>
   have h:n=x:=by simpa using h
   subst h;rw[Xd (by rw[QK];exact Xb hx)];exact X5
  |succ m=>
   have:=vj8 (k:=k+1) (m:=m) (o:=o) (by simpa using h) hx;rw[show k+1+m=k+(m+1)by lia]at this
   split
   ·exact lc9 _ this
   ·exact this
theorem qwt(kv:List (Int×Int))(k v j:Int):(jQ kv j).isSome=true\/k=j->(jQ (qX kv k v) j).isSome=true:=by
 intro h;unfold jQ;rw [Yt,List.find?_isSome];unfold qX
 by_cases ha:(kv.any λp=>decide (p.1=k))=true
 ·rw[Xd ha];have:∃p∈kv,p.1=j:=by
   rcases h with h|rfl
   ·unfold jQ at h;rw[Yt,List.find?_isSome]at h;obtain⟨p,hp,e⟩:=h;exact#[p,hp,Yo e]
   ·obtain⟨p,hp,e⟩:=List.any_eq_true.mp ha;exact#[p,hp,Yo e]
  obtain⟨p,hp,e⟩:=this;refine#[_,List.mem_map.mpr #[p,hp,rfl],Xb ?_]
  split
  ·exact e
  ·exact e
 ·rw[Xi ha];rcases h with h|rfl
  ·unfold jQ at h;rw[Yt,List.find?_isSome]at h;obtain⟨p,hp,e⟩:=h;exact#[p,ll9 _ hp,e]
  ·exact#[(k,v),lr9 _ X5,Xb rfl]
theorem qkj:∀(ps kv:List (Int×Int)) (j:Int),(jQ kv j).isSome=true\/(∃p∈ps,p.1=j)->(jQ (ps.foldl (λkv p=>qX kv p.1 p.2) kv) j).isSome=true
 | [],kv,j,h=>by
  rcases h with h|⟨p,hp,_⟩
  ·exact h
  ·exact nomatch hp
 | p::ps,kv,j,h=>by
  rw[Yx];refine qkj ps _ j ?_;rcases h with h|⟨q,hq,e⟩
  ·exact .inl (qwt _ _ _ _ (.inl h))
  ·rcases aD hq with rfl|hq
   ·exact .inl (qwt _ _ _ _ (.inr e))
   ·exact .inr #[q,hq,e]
theorem vwn{sh:List (Int×Int)}{i j:Int}(h:(i,j)∈sh):(jQ (kvS sh) j).isSome=true:=qkj _ _ _ (.inr #[(j,i),List.mem_map.mpr #[(i,j),h,rfl],rfl])
theorem vj0{own kv}(hv:∀j i,jQ kv j=some i->0<=i/\i<own):∀n,(nmF own kv n).filter (λx=>decide (own<=x))=(List.range (qj own kv n)).map λ(c:Nat)=>own+c
 | 0=>rfl
 | n+1=>by
  have ih:=vj0 hv n;cases h:jQ kv n with
  | some i=>
   have:=hv _ _ h;have e:qj own kv (n+1)=qj own kv n:=by
    unfold qj;rw[Kq h,Yj,Yk (by simp;lia)];simp
   rw[e,<-ih,Kq h,Yj,Yk (by simp;lia)];simp
  | none=>
   have e:qj own kv (n+1)=qj own kv n+1:=by
    show((nmF own kv _).filter _).length=_;rw[K5 h,Yj,Yh (by simp;lia),Xf];rfl
   rw[e,List.range_succ,X7,<-ih,K5 h,Yj,Yh (by simp;lia)];rfl
theorem qjz{k sh n}(hk:0<=k)(hv:∀j i,jQ (kvS sh) j=some i->0<=i/\i<k):kZ (kX k) (nmF k (kvS sh) n)=kX ((kZ (kX k) (nmF k (kvS sh) n)).length:Nat):=by
 have e:(nmF k (kvS sh) n).filter (λm=>!(kX k).any λw=>w==m)=(nmF k (kvS sh) n).filter λx=>decide (k<=x):=by
  refine List.filter_congr λx hx=>?_
  have h0:=(kq8 hk hv n x hx).1;rw[QK]
  by_cases r9:k<=x
  ·rw[Xb r9,Xl]
   ·rfl
   ·grind
  ·rw[Xl r9,Xb]
   ·rfl
   ·exact List.mem_map.mpr #[x.toNat,List.mem_range.mpr ⋯,⋯]
 have e2:kZ (kX k) (nmF k (kvS sh) n)=kX (k+qj k (kvS sh) n):=by
  unfold kZ;rw[e,vj0 hv];show(List.range k.toNat).map _++_=(List.range (k+qj k _ n).toNat).map _;rw[show(k+_).toNat=k.toNat+qj k (kvS sh) n by lia,List.range_add,X7,Xj]
  congr 1
  refine Yb λc _=>?_
  grind
 rw[(vwt (n:=n) hk hv),e2]
end
section
variable {a9 aa:List Int}{ss:List Str}{rs rs':List D}
abbrev hp(rs rs':List D)(P:D):List Int:=kZ (nms (pS rs P)) (nms (pT rs rs' P))
def Rl(rs rs':List D)(P:D)(a b:Sn):Prop:=∃f:Int->Int,a=vW f (pS rs P)/\b=vW f (pT rs rs' P)/\(∀x∈hp rs rs' P,∀y∈hp rs rs' P,f x=f y->x=y)/\hp rs rs' P=kX (pO rs rs' P)
theorem vjp{s}(hP:Prs a9 ss.length rs)(hk:Abk a9)(h:qv a9 s):kpF rs (rmO s)=(nms s).length:=by
 cases s with
 |none=>rfl
 |some x=>
  obtain⟨a,b,c⟩:=h x.1 x.2 rfl;obtain⟨_,_,_,_,e⟩:=wX hP hk ⋯ b;show kpF rs x.1=(x.2.length:Int);rw[e a,c]
theorem vxu{s T}(h:qv a9 s) g (hg:T.map g=nms s):s=vW g (vj (rmO s) T):=by
 cases s with
 |none=>rfl
 |some x=>
  have:=(h x.1 x.2 rfl).1;have hg:T.map g=x.2:=hg;show some x=vW g (vj x.1 T);unfold vj;rw[Xi ⋯];show some x=some (x.1,T.map g);rw[hg]
theorem xjz{a b}(hP:Prs a9 ss.length rs)(hk:Abk a9)(ax:Prs aa ss.length rs')(av:Abk aa)(ha:qv a9 a)(hb:qv aa b)(na:(nms a).Nodup)(nb:(nms b).Nodup):Rl rs rs' (v9 a b) a b:=by
 have ka:=vjp hP hk ha;have f7:Q2 (prs (jY (nms b) 0 (nms a)))=jY (nms b) 0 (nms a):=JX _;have eS:pS rs (v9 a b)=vj (rmO a) (kX ((nms a).length:Nat)):=by
  show xw1 (rmO a) (kpF rs (rmO a))=_;rw [ka];rfl
 have eT:pT rs rs' (v9 a b)=vj (rmO b) (nmF ((nms a).length:Nat) (kvS (jY (nms b) 0 (nms a))) (nms b).length):=by
  show K0 (rmO b) (kpF rs (rmO a)) (kpF rs' (rmO b)) (Q2 (prs (jY (nms b) 0 (nms a))))=_;rw [ka,(vjp ax av hb),f7];rfl
 generalize hA:nms a=A at *;generalize hB:nms b=B' at *;have hv:∀j i,jQ (kvS (jY B' 0 A)) j=some i->0<=i/\i<(A.length:Nat):=λj i h=>by
  obtain⟨m,x,h1,h2,_⟩:=kv3 (kja h);have:=(List.getElem?_eq_some_iff.mp h2).1;lia
 have k0:(0:Int)<=(A.length:Nat):=⋯
 generalize hT:nmF ((A.length:Nat):Int) (kvS (jY B' 0 A)) B'.length=T at *;have hTl:T.length=B'.length:=by rw[<-hT,JZ]
 have fa:(kX (A.length:Nat)).map (ren (A++B') (A.length:Nat) T)=A:=by
  rw [vvj k0 (by rw[Xf];lia),Y2,List.take_left]
 have fb:T.map (ren (A++B') (A.length:Nat) T)=B':=by
  rw [<-hT,qxv k0 hv];unfold qx0;refine List.ext_getElem? λj=>?_
  rw [Xg]
  by_cases hj:j<B'.length
  ·rw[List.getElem?_range hj,X1 hj];show some ((jQ (kvN (A++B') (jY B' 0 A)) (j)).getD ((A++B').getD ((A.length:Int).toNat+j) 0))=_;rw[qwu];cases h:jQ (kvS (jY B' 0 A)) (j)with
   | none=>
    show some ((A++B').getD ((A.length:Int).toNat+j) 0)=_;rw[Y2,X4,Yl ⋯,show A.length+j - A.length=j by lia,X1 hj];rfl
   | some i=>
    show some ((A++B').getD i.toNat 0)=_;obtain⟨m,x,h1,h2,h3,h4⟩:=kv3 (kja h);have hm:=(List.getElem?_eq_some_iff.mp h2).1;have ln:=kk7 h3;rw[show(B'.findIdx λw=>w==x)=j by lia,X1 hj]at ln;rw[ln,show i.toNat=m by lia,X4,Xw hm,h2];rfl
  ·rw[Y0 (by rw[Y8];lia),Y0 ⋯];rfl
 have hnA:nms (vj (rmO a) (kX (A.length:Nat)))=kX (A.length:Nat):=XZ λe=>by
  have:=qxb ha e;rw [this]at hA;rw [<-hA];rfl
 have hnB:nms (vj (rmO b) T)=T:=XZ λe=>by
  have:=qxb hb e;rw [this]at hB;have:T.length=0:=by rw[hTl,<-hB];rfl
  exact List.length_eq_zero_iff.mp this
 have hhp:hp rs rs' (v9 a b)=kZ (kX (A.length:Nat)) T:=by
  unfold hp;rw [eS,eT,hnA,hnB]
 have pz:hp rs rs' (v9 a b)=kX (pO rs rs' (v9 a b)):=by
  show _=kX ((hp rs rs' (v9 a b)).length:Nat);rw [hhp,<-hT];exact qjz k0 hv
 refine#[ren (A++B') (A.length:Nat) T,?_,?_,?_,pz]
 ·rw [eS];exact vxu ha _ (by rw[fa,hA])
 ·rw [eT];exact vxu hb _ (by rw[fb,hB])
 ·rw [hhp];have big:∀x∈T,((A.length:Nat):Int)<=x->∃j,j<B'.length/\T[j]?=some x/\(ren (A++B') (A.length:Nat) T x)=B'.getD j 0/\B'.getD j 0∉A:=λx hx r9=>by
   have ln:=kk7 hx;have hj:=(List.getElem?_eq_some_iff.mp ln).1;have sx:ren (A++B') (A.length:Nat) T x=B'.getD (T.findIdx λw=>w==x) 0:=by
    unfold ren;rw[Xi ⋯,Y2,X4,Yl ⋯,X4]
    congr 2
    lia
   generalize (T.findIdx λw=>w==x)=j at ln hj sx;refine#[j,⋯,ln,sx,λfm=>?_];obtain⟨m,hm,em⟩:=Yn fm;have hB:B'.getD j 0∈B':=by rw[X4,X1 ⋯];exact Xn _
   have f7:=vj8 (k:=0) (t:=B') (o:=A) (m:=m) (x:=B'.getD j 0) (by rw[X1 hm,em]) hB;have mw:(B'.findIdx λw=>w==B'.getD j 0)=j:=by
    have h1:=kk7 hB;have h2:=(List.getElem?_eq_some_iff.mp h1).1;refine kxi nb h2 ⋯ ?_;rw[X4,h1];rfl
   rw[mw]at f7;obtain⟨i,hi⟩:=Option.isSome_iff_exists.mp (vwn f7);have:=kvu (own:=(A.length:Nat)) (n:=B'.length) ⋯ (Kq (own:=((A.length:Nat):Int)) hi);rw[hT,ln]at this;have e:=oq9 this;have:=hv _ _ hi;lia
  have sml:∀x:Int,0<=x->x<(A.length:Nat)->ren (A++B') (A.length:Nat) T x=A.getD x.toNat 0:=λx h0 h1=>by
   unfold ren;rw[Xd h1,X4,Xw ⋯,X4]
  have mA:∀x:Int,0<=x->x<(A.length:Nat)->A.getD x.toNat 0∈A:=λx h0 h1=>by
   rw[X4,X1 ⋯];exact Xn _
  have cs:∀x∈kZ (kX (A.length:Nat)) T,(0<=x/\x<(A.length:Nat))\/(x∈T/\((A.length:Nat):Int)<=x):=λx hx=>by
   rcases aA hx with hx|hx
   ·obtain⟨i,hi,rfl⟩:=aE hx;have:=List.mem_range.mp hi;exact .inl ⋯
   ·have hx:=(List.mem_filter.mp hx)
    by_cases h:x<(A.length:Nat)
    ·refine .inl #[?_,h];have:=hx.1;rw[<-hT]at this;exact(kq8 k0 hv _ x this).1
    ·exact .inr #[hx.1,⋯]
  intro x hx y hy e;rcases cs x hx with⟨x0,x1⟩|⟨x0,x1⟩
  ·rcases cs y hy with⟨y0,y1⟩|⟨y0,y1⟩
   ·rw[sml x x0 x1,sml y y0 y1]at e;have:=kxi na ⋯ ⋯ e;lia
   ·obtain⟨j,_,_,h1,h2⟩:=big y y0 y1;rw[sml x x0 x1,h1]at e;exact absurd (e▸mA x x0 x1) h2
  ·obtain⟨i,i1,i2,i3,i4⟩:=big x x0 x1;rcases cs y hy with⟨y0,y1⟩|⟨y0,y1⟩
   ·rw[sml y y0 y1,i3]at e;exact absurd (e▸mA y y0 y1) i4
   ·obtain⟨j,j1,j2,j3,j4⟩:=big y y0 y1;rw[i3,j3]at e;have:=kxi nb i1 j1 e;subst this;rw[i2]at j2;exact oq9 j2
end
theorem vws{f o t}(h:∀n∈t,∀x∈o,f x=f n->x=n):kZ (o.map f) (t.map f)=(kZ o t).map f:=by
 unfold kZ;rw[X7,List.filter_map]
 congr 2
 refine List.filter_congr λn hn=>?_
 show(!_)=_;rw[kwe (h n hn)]
section
variable {a9 aa:List Int}{ss:List Str}{rs rs':List D}
def qJ(ss:List Str)(rs rs':List D)(P:D)(z:Str)(i:Int):D:=v9 (rdF ss rs (pS rs P) z i) (rdF ss rs' (pT rs rs' P) z i)
def Lk(own:Nat)(a b:Sn)(i c:Int):Prop:=(0<=i/\i<own/\(kZ (nms a) (nms b))[i.toNat]?=some c)\/(i=own/\c∉kZ (nms a) (nms b))
theorem xjh{P x}(h:x∈nms (pS rs P)):x∈hp rs rs' P:=ll9 _ h
theorem xjg{P x}(h:x∈nms (pT rs rs' P)):x∈hp rs rs' P:=by
 by_cases hx:x∈nms (pS rs P)
 ·exact ll9 _ hx
 ·refine lr9 _ (List.mem_filter.mpr #[h,?_]);rw[QK,Xl hx];rfl
theorem mem_rngL{k x}:x∈kX k↔0<=x/\x<k:=by
 constructor
 ·intro h;obtain⟨i,hi,rfl⟩:=aE h;have:=List.mem_range.mp hi;lia
 ·intro h;exact List.mem_map.mpr #[x.toNat,List.mem_range.mpr ⋯,⋯]
theorem kq9{f g s}(h:∀x∈nms s,f x=g x):vW f s=vW g s:=by
 cases s with|none=>rfl|some x=>exact congrArg some (Prod.ext rfl (Yb h))
theorem qxr{P a b f}(e1:a=vW f (pS rs P))(e2:b=vW f (pT rs rs' P))(hi:∀x∈hp rs rs' P,∀y∈hp rs rs' P,f x=f y->x=y):kZ (nms a) (nms b)=(hp rs rs' P).map f:=by
 rw[e1,e2,Zv,Zv];exact vws λn hn x hx e=>hi x (xjh hx) n (xjg hn) e
theorem vxx{P a b}(h:Rl rs rs' P a b):(kZ (nms a) (nms b)).length=pO rs rs' P:=by
 obtain⟨f,e1,e2,hi,_⟩:=h;rw[qxr e1 e2 hi,X3];rfl
theorem wjt{P a b z i c}(hP:Prs a9 ss.length rs)(hk:Abk a9)(ax:Prs aa ss.length rs')(av:Abk aa)(oe:Pok a9 aa P)(h:Rl rs rs' P a b)(hl:Lk (pO rs rs' P) a b i c):
  v9 (rdF ss rs a z c) (rdF ss rs' b z c)=qJ ss rs rs' P z i:=by
 obtain⟨f,e1,e2,hi,hr⟩:=h;have hh:=qxr e1 e2 hi;have iw:∀g:Int->Int,(∀x∈hp rs rs' P,g x=f x)->g i=c->(∀x,x∈hp rs rs' P\/x=i->∀y,y∈hp rs rs' P\/y=i->g x=g y->x=y)->v9 (rdF ss rs a z c) (rdF ss rs' b z c)=qJ ss rs rs' P z i:=λg hg hc hj=>by
  have a1:a=vW g (pS rs P):=by rw[e1];exact(kq9 λx hx=>hg x (xjh hx)).symm
  have b1:b=vW g (pT rs rs' P):=by rw[e2];exact(kq9 λx hx=>hg x (xjg hx)).symm
  obtain⟨r1,r2⟩:=qj6 hP hk (VZ hP hk oe) λx hx e=>hj x (.inl (xjh hx)) i (.inr rfl) e
  obtain⟨r3,r4⟩:=qj6 ax av (VW ax av oe) λx hx e=>hj x (.inl (xjg hx)) i (.inr rfl) e
  rw[a1,b1,<-hc,r1,r3];refine qzs λn hn x hx e=>(hj x ?_ n ?_ e)
  ·rcases r4 x hx with q|q
   ·exact .inl (xjg q)
   ·exact .inr q
  ·rcases r2 n hn with q|q
   ·exact .inl (xjh q)
   ·exact .inr q
 rcases hl with⟨i0,i1,hc⟩|⟨rfl,hc⟩
 ·have him:i∈hp rs rs' P:=by rw[hr];exact mem_rngL.mpr #[i0,i1]
  have hci:f i=c:=by
   rw[hh,hr,Xg,Xg,List.getElem?_range ⋯]at hc
   grind
  exact iw f (λ_ _=>rfl) hci λx hx y hy e=>hi x (hx.elim id λq=>q▸him) y (hy.elim id λq=>q▸him) e
 ·have jr:((pO rs rs' P):Int)∉hp rs rs' P:=λq=>by
   rw[hr]at q;have:=mem_rngL.mp q;lia
  have br:∀x∈hp rs rs' P,x≠((pO rs rs' P):Int):=λx hx e=>jr (e▸hx)
  have hfc:∀x∈hp rs rs' P,f x≠c:=λx hx e=>hc (by rw[hh,<-e];exact List.mem_map.mpr #[x,hx,rfl])
  refine iw (λx=>if x=_ then c else f x) (λx hx=>Xi (br x hx)) (Xd rfl) λx hx y hy e=>?_
  rcases hx with hx|rfl
  ·grind
  ·grind
structure Two (a9 aa:List Int)(S T:Sn):Prop where
 a:qv a9 S
 b:qv aa T
 na:(nms S).Nodup
 nb:(nms T).Nodup
set_option tactic.hygienic true in
theorem Two.next{a b} z c (hP:Prs a9 ss.length rs)(hk:Abk a9)(ax:Prs aa ss.length rs')(av:Abk aa)(h:Two a9 aa a b):Two a9 aa (rdF ss rs a z c) (rdF ss rs' b z c):=
 #[(xJ z c hP hk h.a).2,(xJ z c ax av h.b).2,vxy hP hk h.a h.na,vxy ax av h.b h.nb]
set_option tactic.hygienic true in
theorem qxq{P a b z i c}(hP:Prs a9 ss.length rs)(hk:Abk a9)(ax:Prs aa ss.length rs')(av:Abk aa)(oe:Pok a9 aa P)(ht:Two a9 aa a b)(h:Rl rs rs' P a b)(hl:Lk (pO rs rs' P) a b i c):
  Rl rs rs' (qJ ss rs rs' P z i) (rdF ss rs a z c) (rdF ss rs' b z c):=by
 rw[<-wjt hP hk ax av oe h hl];have t:=ht.next z c hP hk ax av
 exact xjz hP hk ax av t.a t.b t.na t.nb
theorem wq3{P}{a b} c (h:Rl rs rs' P a b):∃i:Int,0<=i/\i<=pO rs rs' P/\Lk (pO rs rs' P) a b i c:=by
 have hl:=vxx h
 by_cases hc:c∈kZ (nms a) (nms b)
 ·obtain⟨m,hm,e⟩:=Yn hc;exact#[m,⋯,⋯,.inl #[⋯,⋯,by rw[Y2,X1 hm,e]]]
 ·exact#[_,⋯,Int.le_refl _,.inr #[rfl,hc]]
set_option tactic.hygienic true in
theorem wwl{P a b}(oe:Pok a9 aa P)(h:Rl rs rs' P a b):gdF rs (rmO a)=gS rs P/\gdF rs' (rmO b)=gT rs' P:=by
 obtain⟨f,e1,e2,_⟩:=h;obtain⟨p,q,sh,rfl,_⟩:=oe;have rm:∀r ks,rmO (vj r ks)=r:=λr ks=>by
  unfold vj
  split
  ·rename_i h;rw[h];rfl
  ·rfl
 rw[e1,e2,kv9,kv9];constructor
 ·show gdF rs (rmO (vj p _))=gdF rs p;rw[rm]
 ·show gdF rs' (rmO (vj q _))=gdF rs' q;rw[rm]
def run(ss:List Str)(rs:List D)(S:Sn)(w:List (Str×Int)):Sn:=w.foldl (λS x=>rdF ss rs S x.1 x.2) S
end
theorem wvv{a b e}{E:En}{P X}:Eo (ww2 a b (e::E)) P X=Eo (a (e::E)) (λE x=>Eo (b E) (λE y=>Wo (xq3 x.2 y.2) E (λE d=>P E (.dp,d))) X) X:=by
 unfold ww2;rw[jZ];congr 1;funext E x;rw[jZ];congr 1;funext E y;rw[xx];exact vo_map
noncomputable def m_steps_from:Fn:=fn 8
  (j7 (jv 3 (jx B.m_first_standings [(cV 0),(cV 1),(cV 2)]))
  (j7 (jv 4 (QZ (vE (cF2 jX (vE (cF1 (pu1 kz) (vE (jx B.m_held_by_both [(cV 3)])))) (C9 1)))))
  (j7 (jv 5 (kq .rt []))
  (j7 (kW (itS (cF1 ZJ (vE (cF2 jX (j9 (vV 0) (C9 0)) (j9 (vV 1) (C9 0)))))) (.n 6) (kW (itS (cV 4)) (.n 7) (v4 v3 5 (kY .no [(cV 6),(cV 7),(jx B.m_pair_of [(jx B.m_read_by_both [(cV 0),(cV 1),(cV 3),(cV 6),(cV 7)])])]))))
  (jJ (cMv 5))))))
def m_least_beside:Fn:=fn 2
  (j7 (jv 1 (cC (.int 0)))
  (j7 (Jz (tE (cF2 (pu2 zX) (vV 1) (vV 0))) (YQ (λa b=>a+b) 1 (cC (.int 1))))
  (jJ (cMv 1))))
noncomputable def m_parting_row:Fn:=fn 10
  (j7 (jv 4 (jx B.m_first_standings [(cV 0),(cV 1),(cV 2)]))
  (j7 (jv 5 (kq .rt []))
  (j7 (kW (itS (cV 3)) (.t [6,7]) (j7 (jv 8 (jx B.m_held_by_both [(cV 4)]))
  (j7 (jv 9 (cIf (tE (cF2 (pu2 fLt) (vV 7) (vE (cF1 (pu1 kz) (vV 8))))) (cH (j9 (vV 8) (vV 7))) (jx m_least_beside [(cV 8)])))
  (j7 (v4 v3 5 (kY .no [(cV 6),(cV 9)]))
  (jv 4 (jx B.m_read_by_both [(cV 0),(cV 1),(cV 4),(cV 6),(cV 9)]))))))
  (jJ (cMv 5)))))
noncomputable def m_steps_to:Fn:=fn 4
  (j7 (jv 2 (kq .rt []))
  (j7 (jv 3 (cH (ww2 (vV 0) (vV 1))))
  (j7 (Jz (tE (cF2 (f2First fNotNon) (vV 3) (vE (cC .non)))) (j7 (v4 v3 2 (kY .no [(cH (j9 (vV 3) (C9 1))),(cH (j9 (vV 3) (C9 2)))]))
  (jv 3 (cH (ww2 (vV 0) (j9 (vV 3) (C9 0)))))))
  (jJ (cF1 YW (vV 2))))))
noncomputable def m_searched:Fn:=fn 10
  (j7 (jv 3 (vxf (cV 2) (cC .non)))
  (j7 (jv 4 (kq .rt [(cV 2)]))
  (j7 (jv 5 (cC (.int 0)))
  (j7 (Jz (tE (cF2 (pu2 fLt) (vV 5) (vE (cF1 (pu1 kz) (vV 4))))) (j7 (jv 6 (cH (j9 (vV 4) (vV 5))))
  (j7 (sIf (tNot (tEQ (vE (jx B.m_agrees [(cV 0),(cV 1),(cV 6)])))) (jJ (kY .no [(cC (.str "apart")),(jx m_parting_row [(cV 0),(cV 1),(cV 2),(jx m_steps_to [(cV 3),(cV 6)])])])) k4)
  (j7 (kW (itS (jx m_steps_from [(cV 0),(cV 1),(cV 6)])) (.t [7,8,9]) (sIf (tE (cF2 (pu2 Qz) (vV 9) (vV 3))) (j7 (vve 3 (vV 9) (kY .no [(cV 6),(cV 7),(cV 8)]))
  (v4 v3 4 (cV 9))) k4))
  (YQ (λa b=>a+b) 5 (cC (.int 1)))))))
  (jJ (kY .no [(cC (.str "alike")),(cV 4)]))))))
def J4(i:Int):List (List (Int×Int)):=[[],[(i,0)],[(i,1)],[(i,2)]]
def AllS:List (List (Int×Int)):=(J4 0).flatMap λa=>(J4 1).flatMap λb=>(J4 2).map λc=>a++(b++c)
theorem vji{α β:Type}{f:α->List β}{n}:∀(l:List α),(∀a∈l,(f a).length=n)->(l.flatMap f).length=l.length*n
 |[],_=>by simp
 |a::l,h=>by
  rw[List.flatMap_cons,Xf,vji l λb hb=>h b (lc9 _ hb),h a X5,Xm,Nat.add_mul];lia
theorem wks{i j}(h0:0<=j)(h1:j<3):[(i,j)]∈J4 i:=by
 rcases(show j=0\/j=1\/j=2 by lia)with rfl|rfl|rfl<;>simp[J4]
theorem WJ t (ht:t.length<=3)(k:Nat) n o:∃a∈J4 k,jY t k (n::o)=a++jY t (k+1) o:=by
 have e:jY t k (n::o)=if _=true then _::jY t _ o else jY t _ o:=rfl
 rw[e]
 by_cases h:(t.any λw=>w==n)=true
 ·obtain⟨x,hx,e⟩:=List.any_eq_true.mp h;have:=Yu (p:=λw=>w==n) #[x,hx,e];rw[Xd h];exact#[_,wks ⋯ ⋯,rfl]
 ·rw[Xi h];exact#[[],by simp[J4],rfl]
theorem wjn{t o}(ht:t.length<=3)(ho:o.length<=3):jY t 0 o∈AllS:=by
 have em:∀i,[]∈J4 i:=λi=>by simp[J4]
 have mk:∀{a b c},a∈J4 0->b∈J4 1->c∈J4 2->a++_∈AllS:=λha hb hc=>List.mem_flatMap.mpr #[_,ha,List.mem_flatMap.mpr #[_,hb,List.mem_map.mpr #[_,hc,rfl]]]
 match o,ho with
 |[],_=>exact mk (em 0) (em 1) (em 2)
 |[x],_=>
  obtain⟨a,ha,e⟩:=WJ t ht 0 x [];rw[e];exact mk ha (em 1) (em 2)
 |[x,y],_=>
  obtain⟨a,ha,e⟩:=WJ t ht 0 x [y];obtain⟨b,hb,e2⟩:=WJ t ht 1 y [];rw[e,e2];exact mk ha hb (em 2)
 |[x,y,z],_=>
  obtain⟨a,ha,e⟩:=WJ t ht 0 x [y,z];obtain⟨b,hb,e2⟩:=WJ t ht 1 y [z];obtain⟨c,hc,e3⟩:=WJ t ht 2 z [];rw[e,e2,e3];have:=mk ha hb hc
  simpa [jY]using this
section
variable {a9 aa:List Int}{ss:List Str}{rs rs':List D}
theorem qqo(a):∀l,(zZ a l).length=l.length+1
 |[]=>rfl
 |b::l=>by
  unfold zZ
  split
  ·rw[Xm,qqo a l,Xm]
  ·rfl
theorem sortS_len:∀l,(xk l).length=l.length
 |[]=>rfl|a::l=>by rw[xk,qqo,sortS_len l];rfl
set_option tactic.hygienic true in
theorem wj0:∀(l af:List Str),(l.foldl (λl k=>if l.any (· == k)then l else l++[k]) af).length<=af.length+l.length
 |[],af=>Xa _
 |a::l,af=>by
  rw[Yx];have:=wj0 l (if af.any (· == a)then af else af++[a])
  split at this
  ·rw[Xm];rename_i h;rw[Xd h];lia
  ·rename_i h;rw[Xi h];rw[Xf,Y4]at this;rw[Xm];lia
abbrev St3:=List (Str×Int×D)
abbrev stD(x:Str×Int×D):D:=.tup [.str x.1,.int x.2.1,x.2.2]
theorem kw1{a x}:∀{l},x=a\/x∈l->x∈zZ a l
 | [],h=>by
  rcases h with rfl|h
  ·exact aB rfl
  ·grind
 | b::l,h=>by
  unfold zZ
  split
  ·rcases h with rfl|h
   ·exact lc9 _ (kw1 (.inl rfl))
   ·rcases aD h with rfl|h
    ·exact X5
    ·exact lc9 _ (kw1 (.inr h))
  ·grind
theorem kwn{x}:∀{l},x∈l->x∈xk l
 |[],h=>nomatch h|a::l,h=>kw1 ((aD h).imp id kwn)
theorem vzz{x}:∀(l af:List Str),x∈af\/x∈l->x∈l.foldl (λl k=>if l.any (· == k)then l else l++[k]) af
 | [],af,h=>h.elim id λz=>nomatch z
 | a::l,af,h=>by
  rw[Yx];refine vzz l _ ?_
  by_cases ha:(af.any (· == a))=true
  ·rw[Xd ha];rcases h with h|h
   ·exact .inl h
   ·rcases aD h with rfl|h
    ·simp_all
    ·exact .inr h
  ·rw[Xi ha];rcases h with h|h
   ·exact .inl (ll9 _ h)
   ·grind
end
theorem vkl{ks:List Int}{i}(h:(ks.any λw=>w==i)=true):(ks.filter λx=>decide (i+1<=x)).length<(ks.filter λx=>decide (i<=x)).length:=by
 induction ks with
 | nil=>cases h
 | cons a ks ih=>
  have mono:∀l:List Int,(l.filter λx=>decide (i+1<=x)).length<=(l.filter λx=>decide (i<=x)).length:=λl=>by
   induction l with
   | nil=>exact Xa _
   | cons b l ih=>
    by_cases h1:i+1<=b
    ·rw[Yh (by simpa using h1),Yh (by simp;omega)];simp;omega
    ·rw[Yk (by simpa using h1)]
     by_cases h2:i<=b
     ·rw[Yh (by simpa using h2)];simp;omega
     ·rw[Yk (by simpa using h2)];exact ih
  rw[Zi,Bool.or_eq_true]at h
  by_cases ha:a=i
  ·rw[Yk (by grind),Yh (by grind),Xm];have:=mono ks;omega
  ·have h:=ih (h.resolve_left (by simpa using ha))
   by_cases h1:i+1<=a
   ·rw[Yh (by simpa using h1),Yh (by simp;omega)];simp;omega
   ·rw[Yk (by simpa using h1),Yk ⋯];exact h
abbrev Kvs:=List (D×D)
abbrev wyD(p:D)(z:Str)(i:Int):D:=.tup [p,.str z,.int i]
section
variable {ss:List Str}{rs rs':List D}{P:D}
theorem qqq{W:Kvs}{k v x:D}:xZ (W++[(k,v)]) x=if x∈W.map (·.1)then xZ W x else if k=x then some v else none:=by
 unfold xZ;rw[List.find?_append]
 by_cases h:x∈W.map (·.1)
 ·rw[Xd h];obtain⟨e,he,hx⟩:=aE h;have:(W.find? λp=>decide (p.1=x)).isSome=true:=by
   rw[List.find?_isSome];exact#[e,he,Xb hx]
  obtain⟨y,hy⟩:=Option.isSome_iff_exists.mp this;rw[hy];rfl
 ·rw[Xi h];have:(W.find? λp=>decide (p.1=x))=none:=by
   rw[List.find?_eq_none];intro e he hx;exact h (List.mem_map.mpr #[e,he,Yo hx])
  rw[this]
  by_cases hk:k=x
  ·simp[hk]
  ·simp[hk]
abbrev rwI(x:Str×Int):D:=.tup [.str x.1,.int x.2]
theorem xqu{o xs}(h:o≠.dp):YW (o,.lst xs)=some (.rt,.lst xs.reverse):=by
 unfold YW;dsimp only;rw[Xd (by cases o<;>simp_all [qV])]
theorem kxv{W:Kvs}{k v}(h:xZ W k=some v)(hp:D.pures (W.map (·.2))=true):D.pure v=true:=by
 obtain⟨e,he,rfl⟩:=Option.map_eq_some_iff.mp h;rw[D.pures_all,Z7]at hp;exact hp _ (List.mem_map.mpr #[e,List.mem_of_find?_eq_some he,rfl])
end
section
variable {a9 aa:List Int}{ss:List Str}{rs rs':List D}
theorem run_snoc{S w z c}:run ss rs S (w++[(z,c)])=rdF ss rs (run ss rs S w) z c:=by
 unfold run;rw[List.foldl_append];rfl
end
section
variable {a9 aa:List Int}{ss:List Str}{rs rs':List D}
theorem kwu(hP:Prs a9 ss.length rs)(hk:Abk a9):∀(w:List (Str×Int)) {S},qv a9 S->Ch2 a9 ss rs (stn S) w (stn (run ss rs S w))/\qv a9 (run ss rs S w)
 |[],S,h=>#[rfl,h]
 |x::w,S,h=>by
  obtain⟨r1,r2⟩:=xJ x.1 x.2 hP hk h;obtain⟨i1,i2⟩:=kwu hP hk w r2;exact#[#[_,r1,i1],i2]
end
theorem vjy:∀l,KK (l.map D.int)=some l
 |[]=>rfl
 |a::l=>by
  rw[List.map_cons,KK,vjy l];rfl
end U
namespace Y
open Q PySem C B J U
noncomputable def m__law_chain:Fn:=fn 15
  (j7 (jv 2 (jx B.m__law_stream [(cV 0),(cC (.int 100))]))
  (j7 (jv 3 (cF2 jX (C9 10) (vE (cF2 (pu2 kJ) (j9 (vV 2) (C9 0)) (C9 3)))))
  (j7 (jv 4 (cF2 jX (vE (kq .rt [(cC (.int 0))])) (vE (cLC .rt 1 [2] (wv (vE (cF2 (pu2 Wq) (vV 3) (C9 1)))) (.n 0) tYes (cF2 (pu2 kJ) (j9 (vV 1) (vE (cF2 jX (C9 1) (vV 0)))) (C9 2))))))
  (j7 (jv 5 (kq .rt []))
  (j7 (jv 6 (cC (.int 14)))
  (j7 (kW (wv (vV 3)) (.n 7) (j7 (jv 8 (kq .rt []))
  (j7 (kW (wv (vE (cF1 (pu1 kz) (vV 1)))) (.n 9) (j7 (jv 10 (kq .rt []))
  (j7 (kW (wv (vE (cF2 jX (j9 (vV 4) (vV 7)) (C9 1)))) (.n 11) (j7 (jv 12 (cH (j9 (vV 2) (vV 6))))
  (j7 (jv 6 (cF2 jX (vV 6) (C9 1)))
  (j7 (jv 13 (cF2 jX (j9 (vV 4) (vV 7)) (vE (cF1 (pu1 J7) (vE (cF2 (pu2 fEq) (vV 11) (j9 (vV 4) (vV 7))))))))
  (j7 (jv 14 (cH (j9 (vE (kq .rt [(cF2 (pu2 kJ) (vE (cF2 jX (vV 7) (C9 1))) (vV 3)),(cF2 (pu2 kJ) (vE (cF2 (pu2 vz) (vV 12) (C9 5))) (vV 3))])) (vE (cF1 (pu1 J7) (vE (cF2 (pu2 fEq) (vE (cF2 (pu2 kJ) (vV 12) (C9 5))) (C9 3))))))))
  (sIf (tOr (tE (cF2 (pu2 fEq) (vE (cF2 (pu2 kJ) (vV 12) (C9 5))) (C9 4))) (tE (cF2 (pu2 fGt) (j9 (vV 4) (vV 14)) (vV 13)))) (v4 v3 10 (cC .non)) (v4 v3 10 (kY .no [(cV 14),(jx B.m__law_fills [(cF2 (pu2 vz) (vV 12) (C9 97)),(cH (j9 (vV 4) (vV 14))),(cV 13)])]))))))))
  (v4 v3 8 (cV 10)))))
  (j7 (v4 v3 5 (kY .no [(cH (j9 (vV 4) (vV 7))),(cF2 (pu2 fEq) (vE (cF2 (pu2 kJ) (j9 (vV 2) (vV 6)) (C9 2))) (C9 0)),(cV 8)]))
  (jv 6 (cF2 jX (vV 6) (C9 1)))))))
  (jJ (kY .no [(cF1 W0 (vV 1)),(cV 5)]))))))))
def m__law_machine:Fn:=fn 2
  (j7 (sIf (tE (cF2 (pu2 fEq) (vE (cF2 (pu2 kJ) (vV 0) (C9 8))) (C9 5))) (jJ (jx m__law_chain [(cF2 (pu2 vz) (vV 0) (C9 8)),(cV 1)])) k4)
  (jJ (jx B.m__law_plain [(cV 0),(cV 1)])))
noncomputable def m__law_firsts:Fn:=fn 13
  (j7 (QQ [3,4,5] (cV 2))
  (j7 (jv 6 (QZ (vE (jx B.m__law_keepers [(cV 0),(cV 3)]))))
  (j7 (jv 7 wv2)
  (j7 (kW (itS (cV 5)) (.t [8,9]) (wjr 7 (vV 9) (cV 8)))
  (j7 (jv 10 (kq .rt []))
  (j7 (jv 11 (cF1 (pu1 kz) (vV 6)))
  (j7 (kW (wv (vE (jx B.m__law_keepers [(cV 1),(cV 4)]))) (.n 9) (j7 (v4 v3 10 (cH (vv4 (vV 7) (vV 9) (vV 11))))
  (jv 11 (cF2 jX (vV 11) (vE (cF1 (pu1 J7) (vE (cF2 (pu2 kka) (vV 9) (vV 7)))))))))
  (j7 (jv 12 (kq .rt [(kY .no [(cV 3),(cF1 z8 (vV 6))]),(kY .no [(cV 4),(cF1 z8 (vV 10))])]))
  (jJ (cLC .rt 1 [] (itS (cV 12)) (.n 0) tYes (cH (j9 (vE (kq .rt [(cV 0),(cC .non)])) (vE (cF1 (pu1 J7) (vE (cF2 (pu2 fEq) (j9 (vV 0) (C9 0)) (vE (cF1 (pu1 zx) (C9 1)))))))))))))))))))
noncomputable def m__law_behind_all:Fn:=fn 11
  (j7 (QQ [3,4] (jx m__law_firsts [(cV 0),(cV 1),(cV 2)]))
  (j7 (jv 5 vxe)
  (j7 (kW (itS (kq .rt [(cV 3),(cV 4)])) (.n 6) (sIf (tE (cF2 (f2First fNotNon) (vV 6) (vE (cC .non)))) (kW (itS (cH (j9 (vV 6) (C9 1)))) (.n 7) (vvf 5 (vV 7) (cC (.bl true)))) k4))
  (j7 (jv 8 (kq .rt []))
  (j7 (kW (itS (cH (j9 (vV 0) (C9 0)))) (.n 9) (kW (itS (cF2 jX (vE (cF1 kz0 (vV 5))) (vE (kq .rt [(cF1 (pu1 XY) (vV 5))])))) (.n 7) (j7 (jv 10 (jx B.m__law_pair [(jx B.m__law_read [(cV 0),(cV 3),(cV 9),(cV 7)]),(jx B.m__law_read [(cV 1),(cV 4),(cV 9),(cV 7)])]))
  (sIf (tE (cF2 (pu2 zW) (vV 10) (vV 8))) (v4 v3 8 (cV 10)) k4))))
  (jJ (cMv 8)))))))
def m__law_good:Fn:=fn 2
  (jJ (Qq (vE (cF2 (pu2 fNe) (vV 1) (vE (cF1 (pu1 zx) (C9 1))))) (cH (j9 (j9 (j9 (vV 0) (C9 1)) (vV 1)) (C9 1)))))
noncomputable def m__law_table:Fn:=fn 6
  (j7 (sIf (tNot (tEQ (vE (cF1 (pu1 (vk "list")) (vV 3))))) (jJ (cC (.bl false))) k4)
  (j7 (jv 4 wv3)
  (j7 (kW (itS (cV 3)) (.n 5) (j7 (sIf (tOr (tNot (tEQ (vE (jx B.m__law_is_pair [(cV 5),(cV 5)])))) (tE (cF2 (pu2 Q9) (vV 5) (vV 4)))) (jJ (cC (.bl false))) k4)
  (j7 (vve 4 (vV 5) (cC (.bl true)))
  (j7 (sIf (tOr (tNot (tE (W7 fLe fLt (vE (cF1 (pu1 zx) (C9 1))) (j9 (vV 5) (C9 0)) (vE (cF1 (pu1 kz) (j9 (vV 0) (C9 1))))))) (tNot (tE (W7 fLe fLt (vE (cF1 (pu1 zx) (C9 1))) (j9 (vV 5) (C9 1)) (vE (cF1 (pu1 kz) (j9 (vV 1) (C9 1)))))))) (jJ (cC (.bl false))) k4)
  (sIf (tE (cF2 (pu2 fNe) (vE (jx m__law_good [(cV 0),(cH (j9 (vV 5) (C9 0)))])) (vE (jx m__law_good [(cV 1),(cH (j9 (vV 5) (C9 1)))])))) (jJ (cC (.bl false))) k4)))))
  (j7 (kW (itS (cV 3)) (.n 5) (sIf (tE (cF2 (pu2 fNe) (vE (cLC .rt 1 [4] (itS (jx m__law_behind_all [(cV 0),(cV 1),(cV 5)])) (.n 0) (tE (cF2 (pu2 Qz) (vV 0) (vV 1))) (cV 0))) (vE (kq .rt [])))) (jJ (cC (.bl false))) k4))
  (jJ (cF2 (pu2 Q9) (vV 2) (vV 4)))))))
def m__law_most:Fn:=fn 1
  (jJ (cF1 (pu1 vkm) (vE (cLC .rt 1 [] (itS (cH (j9 (vV 0) (C9 1)))) (.n 0) tYes (cH (j9 (vV 0) (C9 0)))))))
noncomputable def m__law_parts:Fn:=fn 11
  (j7 (QQ [4,5] (cV 2))
  (j7 (kW (itS (cV 3)) (.t [6,7]) (j7 (jv 4 (jx B.m__law_read [(cV 0),(cV 4),(cV 6),(cV 7)]))
  (jv 5 (jx B.m__law_read [(cV 1),(cV 5),(cV 6),(cV 7)]))))
  (j7 (jv 8 (kq .rt [(cF1 (pu1 zx) (C9 1)),(cF1 (pu1 zx) (C9 1))]))
  (j7 (kW (xj8 (kq .rt [(cV 4),(cV 5)])) (.t [9,10]) (sIf (tE (cF2 (f2First fNotNon) (vV 10) (vE (cC .non)))) (ZX 8 (vV 9) (cH (j9 (vV 10) (C9 0)))) k4))
  (jJ (cF2 (pu2 fNe) (vE (jx m__law_good [(cV 0),(cH (j9 (vV 8) (C9 0)))])) (vE (jx m__law_good [(cV 1),(cH (j9 (vV 8) (C9 1)))]))))))))
noncomputable def m__law_row_holds:Fn:=fn 7
  (j7 (sIf (tNot (tEQ (vE (cF1 (pu1 (vk "list")) (vV 3))))) (jJ (cC (.bl false))) k4)
  (j7 (kW (itS (cV 3)) (.n 4) (j7 (sIf (tOr (tNot (tEQ (vE (cF1 (pu1 (vk "tuple")) (vV 4))))) (tOr (tE (cF2 (pu2 fNe) (vE (cF1 (pu1 kz) (vV 4))) (C9 2))) (tOr (tNot (tEQ (vE (cF1 (pu1 (vk "str")) (j9 (vV 4) (C9 0)))))) (tE (cF2 (pu2 zW) (j9 (vV 4) (C9 0)) (j9 (vV 0) (C9 0))))))) (jJ (cC (.bl false))) k4)
  (sIf (tOr (tNot (tEQ (vE (jx B.m__law_whole [(cH (j9 (vV 4) (C9 1)))])))) (tNot (tE (W7 fLe fLe (C9 0) (j9 (vV 4) (C9 1)) (vE (cF2 jX (vE (jx m__law_most [(cV 0)])) (vE (jx m__law_most [(cV 1)])))))))) (jJ (cC (.bl false))) k4)))
  (j7 (jv 5 (jx m__law_firsts [(cV 0),(cV 1),(cV 2)]))
  (j7 (kW (wv (vE (cF1 (pu1 kz) (vV 3)))) (.n 6) (sIf (tEQ (vE (jx m__law_parts [(cV 0),(cV 1),(cV 5),(cSl (vV 3) none (some (vV 6)))]))) (jJ (cC (.bl false))) k4))
  (jJ (jx m__law_parts [(cV 0),(cV 1),(cV 5),(cV 3)]))))))
theorem qqc{k kv}:kka (.int k) (wj kv)=some (.bl (!(jQ kv k).isSome)):=by
 unfold kka;rw[WZ]
theorem vx5{own kv}{n:Nat}{i}(h:jQ kv n=some i)(hi:i<own):qj own kv (n+1)=qj own kv n:=by
 unfold qj;rw[Kq h];have:decide (own<=i)=false:=Xl ⋯;simp[this]
theorem vx6{own kv}{n:Nat}(h:jQ kv n=none):qj own kv (n+1)=qj own kv n+1:=by
 unfold qj;rw[K5 h];have:decide (own<=own+(qj own kv n))=true:=Xb ⋯;simp[this]
theorem vwo f z:kvS (f++[z])=qX (kvS f) z.2 z.1:=by
 unfold kvS;rw[X7,List.foldl_append];rfl
theorem vjo:∀(f kv:List (Int×Int)),(f.foldl (λkv p=>qX kv p.1 p.2) kv).length<=kv.length+f.length
 |[],kv=>by simp
 |p::f,kv=>by
  rw[Yx,Xm];have:=vjo f (qX kv p.1 p.2);have:=qq3 kv p.1 p.2;lia
theorem xqs{k}:k6 0 k=(kX k).map D.int:=by
 unfold k6;rw[Xj,show k - 0=k by lia];refine Yb λi _=>?_
 show D.int _=D.int i;rw[Int.zero_add]
theorem qkt{k sh}(h:∀p∈sh,0<=p.1/\p.1<k):∀j i,jQ (kvS sh) j=some i->0<=i/\i<k:=λj i hv=>by
 exact h _ (kja hv)
theorem kxz{ss rs rs' p q k k' sh}(hp:Kpr rs p k)(hq:Kpr rs' q k')(hk:0<=k)(nv:k<=100)(av:0<=k')(hk2':k'<=100)(f7:∀p∈sh,0<=p.1/\p.1<k)(gq:sh.length<=100):
  Oo m__law_firsts [(.no,jq ss rs),(.no,jq ss rs'),(.no,.tup [.int p,.int q,.tup (prs sh)])] (λy=>y=(.rt,.lst [stn (xw1 p k),stn (K0 q k k' sh)])) noX:=by
 have ma:(kX k).length=k.toNat:=by simp
 refine k7 ?_;simp![];refine(jvl hp).use ?_;intro o1 _;simp![↓wvx,xqs];refine qK (λE ab=>∃(f1 f2:List _) (l8 l9:Option Sd),E=[some (.no,jq ss rs),some (.no,jq ss rs'),some (.no,.tup [.int p,.int q,.tup (prs sh)]),some (.no,.int p),some (.no,.int q),some (.no,.tup (prs sh)),some (.rt,iL (kX k)),some (.rt,wj (kvS f1)),l8,l9,none,none,none]/\sh=f1++f2/\ab=prs f2) ?_ ?_ ?_
 ·simp![];exact#[[],sh,none,none,rfl,rfl,rfl]
 ·rintro E d ds ⟨f1,f2,l8,l9,rfl,hf,hr⟩;cases f2 with
  | nil=>cases hr
  | cons z f2=>
   injection hr with e1 e2;subst e1 e2;have ai:(kvS f1).length<10000:=by
    have:=vjo (f1.map λp=>(p.2,p.1)) [];rw[X3]at this;unfold kvS
    grind
   simp![];refine wqf ?_;simp![];refine#[rfl,kvS f1,z.2,z.1,rfl,rfl,rfl,ai,f1++[z],f2,some (.no,.int z.1),some (.no,.int z.2),?_,by rw[hf];simp,rfl];rw[vwo]
 ·rintro E ⟨f1,f2,l8,l9,rfl,hf,hr⟩;have vy:f2=[]:=by cases f2 with|nil=>rfl|cons=>cases hr
  subst vy;rw [Xs]at hf;subst hf;simp![];refine qK (λE ab=>∃(j:Int) (l9:Option Sd) (o11:Own),E=[some (.no,jq ss rs),some (.no,jq ss rs'),some (.no,.tup [.int p,.int q,.tup (prs sh)]),some (.no,.int p),some (.no,.int q),some (.no,.tup (prs sh)),some (.rt,iL (kX k)),some (.rt,wj (kvS sh)),l8,l9,some (.rt,iL (nmF k (kvS sh) j.toNat)),some (o11,.int (k+qj k (kvS sh) j.toNat)),none]/\0<=j/\j<=k'/\ab=k6 j k') ?_ ?_ ?_
  ·simp![ma];refine(jvl hq).use ?_;intro o2 _;simp![];refine#[0,l9,.dp,?_,⋯,av,rfl];rw[Y8,show(k.toNat:Int)=k+qj k (kvS sh) (0:Int).toNat by show _=k+0;lia];rfl
  ·rintro E d ds ⟨j,l9,o11,rfl,j0,j1,hr⟩;obtain⟨hj,rfl,rfl⟩:=xX j1 hr;have u6:(j+1).toNat=j.toNat+1:=⋯
   have uk:((j.toNat:Nat):Int)=j:=⋯
   have hln:(nmF k (kvS sh) j.toNat).length=j.toNat:=JZ ..;cases hvj:jQ (kvS sh) j with
   | some v=>
    have uj:jQ (kvS sh) ((j.toNat:Nat):Int)=some v:=by rw[uk];exact hvj
    simp![];refine vw rfl ?_;simp![↓vxp,xjb,vzs,hvj,Option.getD_some];refine#[_,rfl,by rw[X3,hln];lia,?_];simp![qqc,hvj,Option.isSome_some,Bool.not_true,show J7 (.bl false)=some (.int 0)from rfl];refine#[j+1,some (.no,.int j),.dp,?_,⋯,⋯,rfl];rw[u6,Kq uj,vx5 uj ((qkt f7) _ _ hvj).2];simp
   | none=>
    have uj:jQ (kvS sh) ((j.toNat:Nat):Int)=none:=by rw[uk];exact hvj
    simp![];refine vw rfl ?_;simp![↓vxp,xjb,vzs,hvj,Option.getD_none];refine#[_,rfl,by rw[X3,hln];lia,?_];simp![qqc,hvj,Option.isSome_none,Bool.not_false,show J7 (.bl true)=some (.int 1)from rfl];refine#[j+1,some (.no,.int j),.dp,?_,⋯,⋯,rfl];rw[u6,K5 uj,vx6 uj,show(((qj k (kvS sh) j.toNat+1:Nat)):Int)=qj k (kvS sh) j.toNat+1 by lia,<-Int.add_assoc];simp
  ·rintro E ⟨j,l9,o11,rfl,j0,j1,hr⟩;have:=zw j1 hr;subst this;simp![Q.tup_l (o:=.rt) (xs:=(kX k).map D.int) ⋯,Q.tup_l (o:=.rt) (xs:=(nmF k (kvS sh) j.toNat).map D.int) ⋯];refine Qx [] (λd y=>y.2=YY d) ?_;simp![];refine#[λd hd=>?_,λys u7=>?_]
   ·obtain⟨r,ks,rfl⟩:∃(r:Int) (ks:List Int),d=.tup [.int r,.tup (ks.map D.int)]:=by
     simp only[Yq,Y7,or_false]at hd;rcases hd with rfl|rfl
     ·exact#[_,_,rfl]
     ·exact#[_,_,rfl]
    by_cases hr1:r=-1
    ·have hb:(r == -1)=true:=by simp[hr1]
     simp![p0,B.neg1,eqi hb,show J7 (.bl true)=some (.int 1)from rfl,show jW (.lst [.tup [.int r,.tup (ks.map D.int)],.non]) (.int 1)=some .non from rfl];refine#[#[_,rfl],?_];unfold YY;dsimp only;rw[Xd hr1]
    ·have hb:(r == -1)=false:=Xu hr1;simp![p0,B.neg1,eqi hb,show J7 (.bl false)=some (.int 0)from rfl,show jW (.lst [.tup [.int r,.tup (ks.map D.int)],.non]) (.int 0)=some (.tup [.int r,.tup (ks.map D.int)])from rfl];refine#[#[_,rfl],?_];unfold YY;dsimp only;rw[Xi hr1]
   ·rw[xV,Ww (h:=YY) (λd y h=>h) u7,List.map_cons,List.map_cons,List.map_nil,vk8,vk8];rfl
inductive ChC (c:Int)(ss:List Str)(xs:List Int)(size:Int)(a9:List Int)(rs:List D)(r own:Int)(st:List D)(s:Int):En->List D->Prop
 |mk (k:Int) (bn:Int) (cs:List D) {o3 o4:Own} {o6:Own} {np me uf uu:Option Sd} {ab:List D} (h0:sub o4=.no) (h1:0<=k) (h2:k<=own+1) (h3:ab=k6 k (own+1)) (h4:(cs.length:Int)=k) (h5:14<=bn) (h6:bn<=14+7*r+2*s+k) (h7:∀k:Nat,k<cs.length->∃z,cs[k]?=some z/\Cs a9 (v6 own k) z):ChC c ss xs size a9 rs r own st s [some (.no,.int c),some (.no,sL ss),some (.rt,iL xs),some (o3,.int size),some (o4,iL a9),some (.rt,.lst rs),some (o6,.int bn),some (.no,.int r),some (.rt,.lst st),some (.no,.int s),some (.rt,.lst cs),np,me,uf,uu] ab
inductive ChB (c:Int)(ss:List Str)(xs:List Int)(size:Int)(a9:List Int)(rs:List D)(r own:Int):En->List D->Prop
 |mk (s:Int) (bn:Int) (st:List D) {o3 o4:Own} {o6:Own} {l9 i5 np me uf uu:Option Sd} {ab:List D} (h0:sub o4=.no) (h1:0<=s) (h2:s<=ss.length) (h3:ab=k6 s ss.length) (h4:(st.length:Int)=s) (h5:14<=bn) (h6:bn<=14+7*r+2*s) (h7:∀c∈st,∃cs:List D,c=.lst cs/\(cs.length:Int)=own+1/\∀k:Nat,k<cs.length->∃z,cs[k]?=some z/\Cs a9 (v6 own k) z):ChB c ss xs size a9 rs r own [some (.no,.int c),some (.no,sL ss),some (.rt,iL xs),some (o3,.int size),some (o4,iL a9),some (.rt,.lst rs),some (o6,.int bn),some (.no,.int r),some (.rt,.lst st),l9,i5,np,me,uf,uu] ab
inductive ChA (c:Int)(ss:List Str)(xs:List Int)(size:Int)(a9:List Int):En->List D->Prop
 |mk (r:Int) (bn:Int) (rs:List D) {l7 l8 l9 i5 np me uf uu:Option Sd} {o3 o4:Own} {o6:Own} {ab:List D} (h0:sub o4=.no) (h1:0<=r) (h2:r<=size) (h3:ab=k6 r size) (h4:(rs.length:Int)=r) (h5:14<=bn) (h6:bn<=14+7*r) (h7:∀i:Nat,i<rs.length->∃d,rs[i]?=some d/\Pr a9 ss.length (a9.getD i 0) d):ChA c ss xs size a9 [some (.no,.int c),some (.no,sL ss),some (.rt,iL xs),some (o3,.int size),some (o4,iL a9),some (.rt,.lst rs),some (o6,.int bn),l7,l8,l9,i5,np,me,uf,uu] ab
theorem vx7(c)(ss)(hs:1<=ss.length)(hs2:ss.length<=3):Oo m__law_chain [(.no,.int c),(.no,sL ss)] (λy=>∃rs,y=(.no,jq ss rs)/\∃a9,1<=a9.length/\a9.length<=12/\a9[0]?=some 0/\(∀p∈a9,0<=p/\p<=3)/\Prs a9 ss.length rs) noX:=by
 unfold m__law_chain;refine k7 ?_;simp![];refine(jxk c 100 ⋯ ⋯).use ?_;intro xs hx;have hxl:=hx.1;have ix:∀i,0<=i->i<100->∃v,jW (iL xs) (.int i)=some (.int v)/\0<=v:=λi i0 i1=>by
  obtain⟨v,e,h,_⟩:=ixI xs _ hx.2 i i0 ⋯;exact#[v,e,h.1]
 obtain⟨v0,e0,a0⟩:=ix 0 ⋯ ⋯;have q0:=Y9 v0 (show(3:Int)≠0 by decide);have q1:=Xx v0 (show(0:Int)<3 by decide);refine QJ (λE=>∃(o3:Own) (size:Int),E=[some (.no,.int c),some (.no,sL ss),some (.rt,iL xs),some (o3,.int size),none,none,none,none,none,none,none,none,none,none,none]/\10<=size/\size<=12) ?_ ?_
 ·simp![e0];exact#[_,_,rfl,⋯,⋯]
 rintro E ⟨o3,size,rfl,sz0,sz1⟩;simp![];refine Qx [some (.rt,iL xs)] (λ_ y=>∃i,y=(.dp,.int i)/\0<=i/\i<=1) ?_;simp![];refine#[rfl,λd rh=>?_,λys hy=>?_]
 ·obtain⟨i,i0,i1,rfl⟩:=qjr rh;obtain⟨w,ew,aw⟩:=ix (1+i) ⋯ ⋯;simp![ew];exact#[#[_,rfl],_,rfl,⋯,⋯]
 obtain⟨ks,h1,h2,h3⟩:=kke (S:=λi=>0<=i/\i<=1) (λd y #[i,h,s]=>#[i,by rw[h],s]) hy;rw [xV,h1];simp only[back,clr,at',List.map_cons,List.map_nil,List.set_cons_zero,List.set_cons_succ];have l0:((0::ks).length:Int)=size:=by rw[Xm];have:=vjg (k:=0) (n:=size - 1) ⋯;lia
 have lw:∀p∈(0::ks:List Int),0<=p/\p<=1:=λp hp=>by
  rcases aD hp with rfl|hp
  ·grind
  ·exact h3 p hp
 have ig:∀p∈(0::ks:List Int),0<=p/\p<=3:=λp hp=>by have:=lw p hp;lia
 have fc:jX (.no,.lst [.int 0]) (.no,.lst (ks.map D.int))=some (.rt,iL (0::ks)):=kzm ⋯ ⋯ (by rw[X3];simp at l0 ⊢;lia);have mr:(0::ks:List Int)[0]?=some 0:=rfl;simp![fc];generalize (0::ks:List Int)=a9 at l0 lw ig fc mr;refine qK (ChA c ss xs size a9) ?_ ?_ ?_
 ·simp![];exact#[0,14,[],rfl,⋯,⋯,rfl,rfl,⋯,⋯,λi hi=>nomatch hi]
 ·rintro E d ds ⟨r,bn,rs,hs5,r0,r1,hr,ma,at0,at1,hrs⟩;obtain⟨ph,rfl,rfl⟩:=xX r1 hr;obtain⟨own,eo,⟨ow0,ow1⟩,how⟩:=ixI a9 _ lw r r0 ⋯;simp![];refine qK (ChB c ss xs size a9 rs r own) ?_ ?_ ?_
  ·simp![];exact#[0,bn,[],hs5,⋯,⋯,rfl,rfl,⋯,⋯,λc hc=>nomatch hc]
  ·rintro E d ds ⟨s,bn,st,hs5,s0,s1,hr,gq,at0,at1,bg⟩;obtain⟨hsk,rfl,rfl⟩:=xX s1 hr;simp![];refine qK (ChC c ss xs size a9 rs r own st s) ?_ ?_ ?_
   ·simp![eo,hs5];exact#[0,bn,[],hs5,⋯,⋯,rfl,rfl,⋯,⋯,λc hc=>nomatch hc]
   ·rintro E d ds ⟨k,bn,cs,hs5,k0,k1,hr,dv,at0,at1,lh⟩;obtain⟨hkk,rfl,rfl⟩:=xX k1 hr;have ie:bn<100:=⋯
    obtain⟨w,ew,aw⟩:=ix bn ⋯ ie;have n6:own+(if k=own then(1:Int)else 0)=v6 own k:=rfl;have hB0:0<=v6 own k/\v6 own k<=4:=by unfold v6;split<;>lia
    obtain⟨to,eto,to0,to1⟩:∃to,jW (.lst [.int ((r+1) % size),.int (w / 5 % size)]) (.int (if w % 5=3 then 1 else 0))=some (.int to)/\0<=to/\to<size:=by
     split
     ·exact#[_,rfl,Y9 _ ⋯,Xx _ ⋯]
     ·exact#[_,rfl,Y9 _ ⋯,Xx _ ⋯]
    obtain⟨sz,es,⟨es0,fh⟩,hsz⟩:=ixI a9 _ lw to to0 ⋯;have fin:∀y,Cs a9 (v6 own k) y->∀j,j<(cs++[y]).length->∃z,(cs++[y])[j]?=some z/\Cs a9 (v6 own j) z:=λy hy j hj=>by
     rw[Xf,Y4]at hj
     by_cases hj2:j<cs.length
     ·obtain⟨z,z1,z2⟩:=lh j hj2;exact#[z,by rw[Xw hj2];exact z1,z2]
     ·have:j=cs.length:=⋯
      subst this;exact#[y,by simp,by rw[dv];exact hy]
    have m1:=mod_i (a:=r+1) (b:=size) ⋯;have m2:=mod_i (a:=w / 5) (b:=size) ⋯;generalize hR:sIf _ _ _=Rs;simp![eo,ew,Wv,vkj,n6,hs5,m1,m2,eto];subst hR
    by_cases h4:w % 5=4
    ·have hb:(w % 5==4)=true:=by simp[h4]
     simp![Wv,hb];refine vw rfl ?_;simp![];exact#[_,rfl,⋯,k+1,bn+1,cs++[.non],hs5,⋯,⋯,rfl,by simp;lia,⋯,⋯,fin _ (.inl rfl)]
    ·have hb:(w % 5==4)=false:=Xu h4
     by_cases h6:v6 own k<sz
     ·have hb2:decide (sz>v6 own k)=true:=Xb h6;simp![Wv,hs5,hb,es,hb2];refine vw rfl ?_;simp![];exact#[_,rfl,⋯,k+1,bn+1,cs++[.non],hs5,⋯,⋯,rfl,by simp;lia,⋯,⋯,fin _ (.inl rfl)]
     ·have hb2:decide (sz>v6 own k)=false:=Xl h6;simp![Wv,hs5,hb,es,hb2];refine vw rfl ?_;simp![es,hs5];refine(qqw (w / 97) sz (v6 own k) es0 ⋯ ⋯).use ?_;intro fs ⟨hf1,vy,hf3⟩;simp![];refine#[_,rfl,⋯,k+1,bn+1,cs++[.tup [.int to,.tup (fs.map D.int)]],hs5,⋯,⋯,rfl,by simp;lia,⋯,⋯,fin _ (.inr #[to,fs,rfl,to0,⋯,vy,hf3,?_])]
      rwa [X4,hsz]
   ·rintro E ⟨k,bn,cs,hs5,k0,k1,hr,dv,at0,at1,lh⟩;have:=zw k1 hr;subst this;refine vw rfl ?_;simp![];refine#[_,rfl,⋯,s+1,bn,st++[.lst cs],hs5,⋯,⋯,rfl,by simp;lia,⋯,⋯,λc hc=>?_];rcases aA hc with z|z
    ·exact bg c z
    ·rw[aC z];exact#[cs,rfl,dv,lh]
  ·rintro E ⟨s,bn,st,hs5,s0,s1,hr,gq,at0,at1,bg⟩;have:=zw s1 hr;subst this;have ie:bn<100:=⋯
   obtain⟨w,ew,_⟩:=ix bn ⋯ ie;simp![];refine vw rfl ?_;simp![eo,ew,Wv,hs5];refine#[_,rfl,⋯,?_];simp![];refine ChA.mk (r+1) (bn+1) (rs++[.tup [.int own,.bl (w % 2==0),.lst st]]) hs5 ?_ ?_ rfl ?_ ?_ ?_ ?_
   ·lia
   ·lia
   ·simp;lia
   ·lia
   ·lia
   intro j hj;rw[Xf,Y4]at hj
   by_cases hj2:j<rs.length
   ·obtain⟨z,z1,z2⟩:=hrs j hj2;exact#[z,by rw[Xw hj2];exact z1,z2]
   ·have:j=rs.length:=⋯
    subst this;refine#[_,by simp;rfl,?_];have hg:a9.getD rs.length 0=own:=by rw[X4,show rs.length=r.toNat by lia,how];rfl
    rw[hg];exact#[_,st,rfl,⋯,bg]
 ·rintro E ⟨r,bn,rs,hs5,r0,r1,hr,ma,at0,at1,hrs⟩;have:=zw r1 hr;subst this;simp![vzo (o:=.no) (xs:=ss.map D.str) ⋯];exact#[rs,rfl,a9,⋯,⋯,mr,ig,#[⋯,λi hi=>hrs i ⋯]]
theorem kqa(c)(ss)(hs:1<=ss.length)(hs2:ss.length<=3):Oo m__law_machine [(.no,.int c),(.no,sL ss)] (λy=>∃rs,y=(.no,jq ss rs)/\∃a9,1<=a9.length/\a9.length<=12/\a9[0]?=some 0/\(∀p∈a9,0<=p/\p<=3)/\Prs a9 ss.length rs) noX:=by
 unfold m__law_machine;refine k7 ?_
 by_cases h:c % 8=5
 ·have hb:(c % 8==5)=true:=by simp[h]
  simp![eqi hb];refine(vx7 (c / 8) ss hs hs2).use ?_;intro rs h;exact#[rs,rfl,h]
 ·have hb:(c % 8==5)=false:=Xu h;simp![eqi hb];refine(qzm c ss hs hs2).use ?_;intro rs ⟨a9,h1,h2,h3⟩;exact#[rs,rfl,a9,h1,⋯,h3]
def KY(d:D):Prop:=∃(r r':Int) (l:List (Int×Int)),d=.tup [.int r,.int r',.tup (prs l)]
section
variable {E:En}{N C:En->Prop}{R:Sd->Prop}{X:XP}{vc kc:Ex}
theorem wv7{i:Nat}(h:Eo (vc E) (λE1 v=>vjw E1[i]?=true/\Eo (kc E1) (λE2 k=>∃(kv:List Int) (x:Int),E2[i]?=some (some (.rt,xW kv))/\k.2=.int x/\v.2=.bl true/\kv.length<10000/\N (E2.set i (some (.rt,xW (J5 kv x))))) X) X):Po (vvf i kc vc E) N C R X:=by
 refine qkp (h.mono λE1 v hz=>#[hz.1,hz.2.mono λE2 k hz=>?_]);obtain⟨kv,x,e2,hk,hv,hl,h4⟩:=hz;refine#[_,_,e2,?_,h4];unfold wqm;rw[hk,hv];dsimp only;rw[vk2,Option.bind_some,Xd (by unfold big;lia)]
end
theorem wvy{E:En}{e P X}:Eo (vxe (e::E)) P X=P (e::E) (.rt,xW []):=by
 unfold vxe;rw[vkp]
theorem vwk{o kv}:kz0 (o,xW kv)=some (.rt,.lst (kv.map D.int)):=by
 unfold kz0;rw[vk2]
theorem wq4{kv}:XY (xW kv)=some (.int kv.length):=by
 unfold XY;rw[vk2]
theorem qq7:∀l m,peqs (prs l) (prs m)=decide (prs l=prs m)
 |[],[]=>by simp[peqs]|[],_::_=>by simp[peqs]|_::_,[]=>by simp[peqs]
 |p::l,q::m=>by
  have ih:=qq7 l m;unfold prs at ih ⊢;show(((p.1==q.1)&&((p.2==q.2)&&true))&&peqs _ _)=_;rw[ih]
  by_cases h1:p.1=q.1<;>by_cases h2:p.2=q.2<;>simp[h1,h2]
theorem wxw{a b}(ha:KY a)(hb:KY b):peq a b=decide (a=b):=by
 obtain⟨r,r',l,rfl⟩:=ha;obtain⟨q,q',m,rfl⟩:=hb;show((r==q)&&((r'==q')&&(peqs _ _&&true)))=_;rw[qq7]
 grind
theorem kxy:∀l,D.flats 28 (prs l)=true
 |[]=>rfl
 |p::l=>by
  have:=kxy l;unfold prs at this ⊢;show(true&&D.flats 28 _)=true;rw[this];rfl
theorem qqs{d}(h:KY d):d.flat 30=true:=by
 obtain⟨r,r',l,rfl⟩:=h;show(true&&(true&&(D.flats 28 _&&true)))=true;rw[kxy];rfl
theorem wj9{x}(hx:KY x):∀{K:List D},(∀s∈K,KY s)->(K.any λz=>peq z x)=decide (x∈K)
 |[],_=>by simp
 |k::K,h=>by
  rw[Zi,wxw (h k X5) hx,wj9 hx (λs hs=>h s (lc9 _ hs))]
  by_cases e1:k=x
  ·simp[e1]
  ·grind
theorem vzm{x K}(hx:KY x)(hK:∀s∈K,KY s):zW x (.lst K)=some (.bl (!decide (x∈K))):=by
 have h:fIn x (.lst K)=some (.bl (decide (x∈K))):=by
  show(if x.flat 30&&D.flats 30 K then some _ else none)=_;rw[qqs hx,x9 (λk hk=>qqs (hK k hk)),wj9 hx hK];rfl
 show(fIn x _).bind _=_;rw[h];rfl
set_option tactic.hygienic true in
theorem wk8{ks k}(h:ks.Nodup):(J5 ks k).Nodup:=by
 unfold J5
 split
 ·exact h
 ·rename_i hn;exact List.nodup_append.mpr #[h,by simp,λx hx y hy e=>hn (by rw[<-aC hy,<-e];exact hx)]
theorem vvs{ks k x}:x∈J5 ks k↔x∈ks\/x=k:=by
 unfold J5
 split
 ·exact#[.inl,λh=>h.elim id λe=>e▸‹_›]
 ·simp
theorem vvt{ks k}:(J5 ks k).length<=ks.length+1:=by
 unfold J5
 split<;>simp
def Kn(ns:List Int)(kv:List Int):Prop:=kv.Nodup/\(∀x,x∈kv↔x∈ns)/\kv.length<=ns.length
theorem Kn.put{ns kv}(h:Kn ns kv) x:Kn (ns++[x]) (J5 kv x):=by
 refine#[wk8 h.1,λy=>?_,?_]
 ·rw[vvs,h.2.1 y,List.mem_append,List.mem_singleton]
 ·have:=h.2.2;have:=vvt (ks:=kv) (k:=x);simp;lia
theorem xvr{ns kv}{own:Nat}(h:Kn ns kv)(hm:∀x,x∈ns↔x∈kX own):kv.length=own/\∀c,c∈kv↔0<=c/\c<own:=by
 have hr:∀c,c∈kX own↔0<=c/\c<own:=λc=>by
  constructor
  ·intro z;obtain⟨i,hi,rfl⟩:=aE z;have:=List.mem_range.mp hi;lia
  ·rintro ⟨c0,c1⟩;exact List.mem_map.mpr #[c.toNat,List.mem_range.mpr ⋯,⋯]
 have hn:(kX own).Nodup:=List.pairwise_map.mpr (List.nodup_range.imp λh e=>h ⋯);exact#[by rw[((List.perm_ext_iff_of_nodup h.1 hn).mpr λc=>by rw[h.2.1,hm]).length_eq];simp,λc=>by rw[h.2.1,hm,hr]]
section
variable {a9 aa:List Int}{ss:List Str}{rs rs':List D}
def Fnd(ss:List Str)(rs rs':List D)(P:D)(own:Nat)(F:List D):Prop:=F.Nodup/\∀d∈F,∃z∈ss,∃i:Int,0<=i/\i<=own/\d=qJ ss rs rs' P z i
theorem vzu{P own F}(h:Fnd ss rs rs' P own F):∀d∈F,KY d:=λd hd=>by
 obtain⟨z,_,i,_,_,rfl⟩:=h.2 d hd;exact#[_,_,_,rfl]
inductive BhA (one ce P:D)(S T:Sn):En->List D->Prop
 |mk (ns kv:List Int) {l6 l7:Option Sd} {ab:List D} (h:Kn ns kv) (h1:(ab=[stn S,stn T]/\ns=[])\/(ab=[stn T]/\ns=nms S)\/(ab=[]/\ns=nms S++nms T)):BhA one ce P S T [some (.no,one),some (.no,ce),some (.no,P),some (.no,stn S),some (.no,stn T),some (.rt,xW kv),l6,l7,none,none,none] ab
inductive BhB (one ce P:D)(S T:Sn)(st:D)(ns0 ms:List Int):En->List D->Prop
 |mk (m1 m2 kv:List Int) {l7:Option Sd} {ab:List D} (h:Kn (ns0++m1) kv) (h1:ms=m1++m2) (h2:ab=m2.map D.int):BhB one ce P S T st ns0 ms [some (.no,one),some (.no,ce),some (.no,P),some (.no,stn S),some (.no,stn T),some (.rt,xW kv),some (.no,st),l7,none,none,none] ab
inductive BhC (ss:List Str)(rs rs':List D)(P:D)(S T:Sn)(own:Nat)(kv:List Int):En->List D->Prop
 |mk (z1 z2:List Str) (F:List D) {l6 l7 l9 i5:Option Sd} {ab:List D} (h1:ss=z1++z2) (h2:ab=z2.map D.str) (h3:Fnd ss rs rs' P own F) (h4:F.length<=7*z1.length) (h5:∀z∈z1,∀i:Int,0<=i->i<=own->qJ ss rs rs' P z i∈F):BhC ss rs rs' P S T own kv [some (.no,jq ss rs),some (.no,jq ss rs'),some (.no,P),some (.no,stn S),some (.no,stn T),some (.rt,xW kv),l6,l7,some (.rt,.lst F),l9,i5] ab
inductive BhD (ss:List Str)(rs rs':List D)(P:D)(S T:Sn)(own:Nat)(kv:List Int)(z1:List Str)(z:Str):En->List D->Prop
 |mk (c1 c2:List Int) (F:List D) {l6 l7 i5:Option Sd} {ab:List D} (h1:kv++[(own:Int)]=c1++c2) (h2:ab=c2.map D.int) (h3:Fnd ss rs rs' P own F) (h4:F.length<=7*z1.length+c1.length) (h5:∀z∈z1,∀i:Int,0<=i->i<=own->qJ ss rs rs' P z i∈F) (h6:∀c∈c1,qJ ss rs rs' P z c∈F):BhD ss rs rs' P S T own kv z1 z [some (.no,jq ss rs),some (.no,jq ss rs'),some (.no,P),some (.no,stn S),some (.no,stn T),some (.rt,xW kv),l6,l7,some (.rt,.lst F),some (.no,.str z),i5] ab
theorem qqk{one ce P S T st U ns kv l7 ab}(bg:st=stn U)(hk:Kn ns kv)(hb:ns.length+(nms U).length<=100)(hn:∀lz l7',Kn (ns++nms U) lz->BhA one ce P S T [some (.no,one),some (.no,ce),some (.no,P),some (.no,stn S),some (.no,stn T),some (.rt,xW lz),some (.no,st),l7',none,none,none] ab){C R}:
  Po (sIf (tE (cF2 (f2First fNotNon) (vV 6) (vE (cC .non)))) (kW (itS (cH (j9 (vV 6) (C9 1)))) (.n 7) (vvf 5 (vV 7) (cC (.bl true)))) k4 [some (.no,one),some (.no,ce),some (.no,P),some (.no,stn S),some (.no,stn T),some (.rt,xW kv),some (.no,st),l7,none,none,none]) (λE2=>BhA one ce P S T E2 ab) C R noX:=by
 cases U with
 | none=>
  subst bg;simp![];exact hn kv l7 (by rw[show nms none=[]from rfl,Xs];exact hk)
 | some x=>
  have bg:st=.tup [.int x.1,.tup _]:=bg;subst bg;have hnm:nms (some x)=x.2:=rfl;have hnn:fNotNon (.tup [.tup (x.2.map D.int)])=some _:=rfl;have h1:jW (.tup [.int x.1,.tup _]) (.int 1)=some (.tup (x.2.map D.int)):=rfl;simp![hnn];refine qK (BhB one ce P S T (.tup [.int x.1,.tup (x.2.map D.int)]) ns x.2) ?_ ?_ ?_
  ·simp![h1];exact#[[],x.2,kv,by rw[Xs];exact hk,rfl,rfl]
  ·rintro E d ds ⟨m1,m2,kv,hk,hm,hr⟩;cases m2 with
   | nil=>cases hr
   | cons c m2=>
    injection hr with e1 e2;subst e1 e2;simp![];refine wv7 ?_;simp![];refine#[rfl,kv,c,rfl,rfl,?_,?_]
    ·have:=hk.2.2
     grind
    ·exact#[m1++[c],m2,J5 kv c,by rw[<-Xq];exact hk.put c,by rw[hm];simp,rfl]
  ·rintro E ⟨m1,m2,kv,hk,hm,hr⟩;have ue:m2=[]:=by cases m2 with|nil=>rfl|cons=>cases hr
   subst ue;rw[Xs]at hm;subst hm;exact hn kv _ hk
theorem qx7 z P i:KY (qJ ss rs rs' P z i):=#[_,_,_,rfl]
theorem vqk {p q:Int} {sh} (hs:ss.length<=3) (hP:Prs a9 ss.length rs) (hk:Abk a9) (ax:Prs aa ss.length rs') (av:Abk aa) (wm:-1<=p) (t6:p<a9.length) (vh:-1<=q) (t7:q<aa.length) (f7:∀x∈sh,0<=x.1/\x.1<kpF rs p) (gq:sh.length<=3):
  Oo m__law_behind_all [(.no,jq ss rs),(.no,jq ss rs'),(.no,.tup [.int p,.int q,.tup (prs sh)])] (λy=>∃F,y=(.rt,.lst F)/\Fnd ss rs rs' (.tup [.int p,.int q,.tup (prs sh)]) (pO rs rs' (.tup [.int p,.int q,.tup (prs sh)])) F/\F.length<=21/\∀z∈ss,∀i:Int,0<=i->i<=pO rs rs' (.tup [.int p,.int q,.tup (prs sh)])->qJ ss rs rs' (.tup [.int p,.int q,.tup (prs sh)]) z i∈F) noX:=by
 obtain ⟨a,_,c,d,_⟩:=wX hP hk wm t6;obtain ⟨a',_,c',d',_⟩:=wX ax av vh t7;have qe:Pok a9 aa (.tup [.int p,.int q,.tup (prs sh)]):=#[p,q,sh,rfl,wm,t6,vh,t7,gq];have hS:=VZ hP hk qe;have hT:=VW (rs:=rs) ax av qe;have hO:=wza hP hk ax av qe;have lS:=xY hk hS;have lT:=xY av hT;have hfi:Oo m__law_firsts [(.no,jq ss rs),(.no,jq ss rs'),(.no,.tup [.int p,.int q,.tup (prs sh)])] (λy=>y=(.rt,.lst [stn (pS rs (.tup [.int p,.int q,.tup (prs sh)])),stn (pT rs rs' (.tup [.int p,.int q,.tup (prs sh)]))])) noX:=by
  have:=kxz (ss:=ss) a a' c ⋯ c' ⋯ f7 ⋯
  rwa [show pT rs rs' (.tup [.int p,.int q,.tup (prs sh)])=K0 q (kpF rs p) (kpF rs' q) sh by show K0 q _ _ (Q2 (prs sh))=_;rw[JX]]
 have hkn:∀x,x∈nms (pS rs (.tup [.int p,.int q,.tup (prs sh)]))++nms (pT rs rs' (.tup [.int p,.int q,.tup (prs sh)]))↔x∈kX (pO rs rs' (.tup [.int p,.int q,.tup (prs sh)])):=λx=>by
  have e1:nms (pS rs (.tup [.int p,.int q,.tup (prs sh)]))=kX (kpF rs p):=XZ λh=>by
   rcases a with⟨_,e⟩|⟨e,_⟩
   ·rw [e];rfl
   ·lia
  have e2:nms (pT rs rs' (.tup [.int p,.int q,.tup (prs sh)]))=nmF (kpF rs p) (kvS sh) (kpF rs' q).toNat:=by
   show nms (K0 q _ _ (Q2 (prs sh)))=_;rw [JX];refine XZ λh=>?_
   rcases a' with⟨_,e⟩|⟨e,_⟩
   ·rw [e];rfl
   ·lia
  have e3:kX (pO rs rs' (.tup [.int p,.int q,.tup (prs sh)]))=kZ (kX (kpF rs p)) (nmF (kpF rs p) (kvS sh) (kpF rs' q).toNat):=by
   rw [qjz c (qkt f7)];unfold pO;rw [e1,e2]
  rw [e1,e2,e3];unfold kZ;rw [List.mem_append,List.mem_append,List.mem_filter];constructor
  ·rintro (h|h)
   ·exact .inl h
   ·by_cases hx:x∈kX (kpF rs p)
    ·exact .inl hx
    ·refine .inr #[h,?_];rw [Bool.not_eq_true',List.any_eq_false]
     grind
  ·rintro (h|h)
   ·exact .inl h
   ·exact .inr h.1
 have bg:∀z i,qJ ss rs rs' (.tup [.int p,.int q,.tup (prs sh)]) z i=v9 (rdF ss rs (pS rs (.tup [.int p,.int q,.tup (prs sh)])) z i) (rdF ss rs' (pT rs rs' (.tup [.int p,.int q,.tup (prs sh)])) z i):=λ_ _=>rfl
 generalize D.tup [.int p,.int q,.tup (prs sh)]=P at *;generalize pO rs rs' P=own at *;generalize pS rs P=S at *;generalize pT rs rs' P=T at *;unfold m__law_behind_all;refine k7 ?_;simp![];refine hfi.via ?_;rintro _ rfl;simp![↓wvy];refine qK (BhA (jq ss rs) (jq ss rs') P S T) ?_ ?_ ?_
 ·simp![];exact #[[],[],#[Xr,λx=>Iff.rfl,Xa _],.inl #[rfl,rfl]]
 ·rintro E d ds ⟨ns,kv,h,⟨h1,rfl⟩|⟨h1,rfl⟩|⟨h1,_⟩⟩
  ·injection h1 with e1 e2;subst e1 e2;generalize hB:sIf _ _ _=Bd;simp![];subst hB;exact qqk (U:=S) rfl h (by simp;lia) λlz l7' hk=>#[_,lz,hk,.inr (.inl #[rfl,rfl])]
  ·injection h1 with e1 e2;subst e1 e2;generalize hB:sIf _ _ _=Bd;simp![];subst hB;exact qqk (U:=T) rfl h ⋯ λlz l7' hk=>#[_,lz,hk,.inr (.inr #[rfl,rfl])]
  ·cases h1
 ·rintro E ⟨ns,kv,h,⟨h1,_⟩|⟨h1,_⟩|⟨_,rfl⟩⟩
  ·cases h1
  ·cases h1
  ·obtain⟨l0,lw⟩:=xvr h hkn;have q0:∀a b,jW (.tup [a,b]) (.int 0)=some a:=λ_ _=>rfl
   simp![];refine qK (BhC ss rs rs' P S T own kv) ?_ ?_ ?_
   ·simp![q0];exact#[[],ss,[],rfl,rfl,#[Xr,λd hd=>nomatch hd],Y6 _,λz hz=>nomatch hz]
   ·rintro E d ds ⟨z1,z2,F,hz,hr,hF,hl,hm⟩;cases z2 with
    | nil=>cases hr
    | cons z z2=>
     rw [List.map_cons]at hr;injection hr with e1 e2;subst e1 e2;have t5:z∈ss:=by rw[hz];simp
     have hza:(ss.any λw=>w==z)=true:=List.any_eq_true.mpr #[z,t5,by simp];have hzl:z1.length<=3:=by
      grind
     have fc:jX (.no,.lst (kv.map D.int)) (.no,.lst [.int kv.length])=some (.rt,.lst ((kv++[(own:Int)]).map D.int)):=by
      rw [X7,l0];exact kzm ⋯ ⋯ (by rw[X3];simp;lia)
     simp![];refine qK (BhD ss rs rs' P S T own kv z1 z) ?_ ?_ ?_
     ·simp![vwk,wq4,fc];exact#[[],_,F,rfl,rfl,hF,hl,hm,λc hc=>nomatch hc]
     ·rintro E d ds ⟨c1,c2,F,hc,hr,hF,hl,hm,hn⟩;cases c2 with
      | nil=>cases hr
      | cons c c2=>
       rw[List.map_cons]at hr;injection hr with e1 e2;subst e1 e2;have hcm:0<=c/\c<=own:=by
        have:c∈kv++[(own:Int)]:=by rw[hc];simp
        rcases aA this with h|h
        ·have:=(lw c).mp h;lia
        ·rw[aC h];lia
       have dv:c1.length<8:=by
        have:=congrArg List.length hc;simp at this;lia
       obtain⟨r1,r2⟩:=xJ z c hP hk hS;obtain⟨tf,r2'⟩:=xJ z c ax av hT;have l1:=xY hk r2;have l2:=xY av r2';simp![];refine(jzz hP hS hza r1).via ?_;rintro ⟨o1,d1⟩ e;cases(show d1=_ from e);simp![];refine(jzz ax hT hza tf).via ?_;rintro ⟨o2,d2⟩ e;cases(show d2=_ from e);simp![];refine(vw6 (rdF ss rs S z c) (rdF ss rs' T z c) ⋯ ⋯).via ?_;rintro _ rfl;rw[<-bg]
       by_cases fm:qJ ss rs rs' P z c∈F
       ·have pq:zW (qJ ss rs rs' P z c) (.lst F)=some (.bl false):=by rw[vzm (qx7 z P c) (vzu hF),Xb fm];rfl
        simp![pq];refine#[c1++[c],c2,F,by rw[hc];simp,rfl,hF,by simp;lia,hm,λx hx=>?_];rcases aA hx with h|h
        ·exact hn x h
        ·rw[aC h];exact fm
       ·have pq:zW (qJ ss rs rs' P z c) (.lst F)=some (.bl true):=by rw[vzm (qx7 z P c) (vzu hF),Xl fm];rfl
        simp![pq];refine vw rfl ?_;simp![];refine#[_,rfl,⋯,(#[c1++[c],c2,F++[qJ ss rs rs' P z c],by rw[hc];simp,rfl,#[?_,λx hx=>?_],by simp;lia,λz hz i i0 i1=>ll9 _ (hm z hz i i0 i1),λx hx=>?_])]
        ·exact List.nodup_append.mpr #[hF.1,by simp,λx hx y hy e=>fm (by rw[<-aC hy,<-e];exact hx)]
        ·rcases aA hx with h|h
         ·exact hF.2 x h
         ·exact#[z,t5,c,hcm.1,hcm.2,aC h]
        ·rcases aA hx with h|h
         ·exact ll9 _ (hn x h)
         ·rw[aC h];simp
     ·rintro E ⟨c1,c2,F,hc,hr,hF,hl,hm,hn⟩;have nt:c2=[]:=by cases c2 with|nil=>rfl|cons=>cases hr
      subst nt;rw[Xs]at hc;refine#[z1++[z],z2,F,by rw[hz];simp,rfl,hF,?_,λy hy i i0 i1=>?_]
      ·rw[<-hc]at hl;simp at hl ⊢;lia
      ·rcases aA hy with h|h
       ·exact hm y h i i0 i1
       ·rw[aC h];refine hn i ?_;rw[<-hc]
        by_cases hi:i<own
        ·exact ll9 _ ((lw i).mpr #[i0,hi])
        ·exact lr9 _ (aB ⋯)
   ·rintro E ⟨z1,z2,F,hz,hr,hF,hl,hm⟩;have hz2:z2=[]:=by cases z2 with|nil=>rfl|cons=>cases hr
    subst hz2;rw[Xs]at hz;subst hz;simp![];exact#[F,rfl,hF,⋯,hm]
end
def AllJ:List (List (Int×Int)):=AllS.filter λl=>decide (l.map (·.2)).Nodup
def rmQ:List Int:=[-1,0,1,2,3,4,5,6,7,8,9,10,11]
def AllQ:List D:=rmQ.flatMap λp=>rmQ.flatMap λq=>AllJ.map λs=>.tup [.int p,.int q,.tup (prs s)]
theorem vxh:AllJ.length=34:=by decide +kernel
theorem vxg:AllQ.length=5746:=by
 unfold AllQ;rw[vji (n:=442)]
 ·rfl
 ·intro p _;rw[vji (n:=34)]
  ·rfl
  ·intro q _;rw[X3,vxh]
theorem qxp{p}(h0:-1<=p)(h1:p<12):p∈rmQ:=by
 have:p=-1\/p=0\/p=1\/p=2\/p=3\/p=4\/p=5\/p=6\/p=7\/p=8\/p=9\/p=10\/p=11:=⋯
 simpa [rmQ]using this
set_option tactic.hygienic true in
theorem vxv{t}:∀{o k},o.Nodup->((jY t k o).map (·.2)).Nodup
 | [],k,_=>Xr
 | n::o,k,h=>by
  rw[Z3]at h;have ih:=vxv (t:=t) (k:=k+1) h.2;have e:jY t k (n::o)=if _=true then _::jY t _ o else jY t _ o:=rfl
  rw[e]
  split
  ·rename_i ha;rw[QK]at ha;rw[List.map_cons,Z3];refine#[λhm=>?_,ih];obtain⟨⟨i,j⟩,hx,ej⟩:=aE hm;obtain⟨m,x,_,h2,h3,h4⟩:=kv3 hx;have g2:=kk7 h3;rw[show(t.findIdx λw=>w==x)=(t.findIdx λw=>w==n)by lia,(kk7 (Yo ha))]at g2;exact h.1 (oq9 g2▸List.mem_of_getElem? h2)
  ·exact ih
theorem kxh{l:List Int}{f:Int->Int}(h:(l.map f).Nodup):l.Nodup:=(List.pairwise_map.mp h).imp λbr e=>br (congrArg f e)
section
variable {a9 aa:List Int}{ss:List Str}{rs rs':List D}
def Pk(rs:List D)(P:D):Prop:=∃(p q:Int) (sh:List (Int×Int)),P=.tup [.int p,.int q,.tup (prs sh)]/\∀x∈sh,0<=x.1/\x.1<kpF rs p
theorem qxg(t):∀o (k) x,x∈jY t k o->(k)<=x.1/\x.1<k+o.length
 | [],_,_,h=>nomatch h
 | n::o,k,x,h=>by
  have ih:=qxg t o (k+1) x;unfold jY at h;rw[Xm]
  split at h
  ·rcases aD h with rfl|h
   ·grind
   ·grind
  ·grind
structure Pin (a9 aa:List Int)(rs rs':List D)(P:D):Prop where
 ok:Pok a9 aa P
 pk:Pk rs P
 two:Two a9 aa (pS rs P) (pT rs rs' P)
 rl:Rl rs rs' P (pS rs P) (pT rs rs' P)
theorem kvy s:vW id s=s:=by
 cases s with|none=>rfl|some x=>exact congrArg some (Prod.ext rfl (List.map_id _))
theorem wxt{a b}(hP:Prs a9 ss.length rs)(hk:Abk a9)(ax:Prs aa ss.length rs')(av:Abk aa)(t:Two a9 aa a b):Pin a9 aa rs rs' (v9 a b):=by
 have hok:=qqa t.a t.b hk;obtain⟨f,e1,e2,hi,hr⟩:=xjz hP hk ax av t.a t.b t.na t.nb;have na:=t.na;have nb:=t.nb;rw[e1,Zv]at na;rw[e2,Zv]at nb;refine#[hok,#[_,_,_,rfl,λx hx=>?_],#[VZ hP hk hok,VW ax av hok,kxh na,kxh nb],id,(kvy _).symm,(kvy _).symm,λ_ _ _ _ e=>e,hr];have h:=qxg _ _ _ _ hx;have:=vjp hP hk t.a
 grind
theorem xk9{a b}(nq:a9.length<=12)(jd:aa.length<=12)(hk:Abk a9)(av:Abk aa)(t:Two a9 aa a b):v9 a b∈AllQ:=by
 obtain⟨a0,a1⟩:=qxa t.a;obtain⟨b0,b1⟩:=qxa t.b;exact List.mem_flatMap.mpr #[_,qxp a0 ⋯,List.mem_flatMap.mpr #[_,qxp b0 ⋯,List.mem_map.mpr #[_,List.mem_filter.mpr #[wjn (xY av t.b) (xY hk t.a),Xb (vxv t.na)],rfl]]]
theorem Q7{d}(h:Pin a9 aa rs rs' d):qZ d=true/\d.pure=true:=by
 obtain⟨p,q,sh,rfl,_⟩:=h.ok;refine#[xj1 _ _ _,?_];have:D.pures (prs sh)=true:=D.pures_map _ _ λx _=>rfl
 show(true&&(true&&(D.pures _&&true)))=true;rw[this];rfl
theorem qjn{own kv x}(hv:∀j i,jQ kv j=some i->0<=i/\i<own):∀{n},x∈nmF own kv n->x<own->∃j,j<n/\jQ kv j=some x
 | 0,h,_=>nomatch h
 | n+1,h,hx=>by
  cases hvn:jQ kv n with
  | some i=>
   rw[Kq hvn]at h;rcases aA h with h|h
   ·obtain⟨j,hj,e⟩:=qjn hv h hx;exact#[j,⋯,e]
   ·rw[aC h];exact#[n,⋯,hvn]
  | none=>
   rw[K5 hvn]at h;rcases aA h with h|h
   ·obtain⟨j,hj,e⟩:=qjn hv h hx;exact#[j,⋯,e]
   ·have:=aC h;lia
theorem vkd:∀{sh:List (Int×Int)} {i j j'},(sh.map (·.1)).Nodup->(i,j)∈sh->(i,j')∈sh->j=j'
 | [],_,_,_,_,m,_=>nomatch m
 | x::sh,i,j,j',h,m1,m2=>by
  rw[List.map_cons,Z3]at h;have up:∀{j},(i,j)∈sh->x.1≠i:=λm e=>h.1 (e▸List.mem_map.mpr #[_,m,rfl])
  rcases aD m1 with e1|n1
  ·grind
  ·rcases aD m2 with e2|n2
   ·exact absurd (by rw[<-e2]) (up n1)
   ·exact vkd h.2 n1 n2
theorem vzl{own k' sh}(ho:0<=own)(h:xq8 own k' sh):∀n,(nmF own (kvS sh) n).Nodup
 | 0=>Xr
 | n+1=>by
  have hv:=qkt λp hp=>#[(h.1 p hp).1,(h.1 p hp).2.1]
  have ih:=vzl ho h n;cases hvn:jQ _ n with
  |some i=>
   rw[Kq hvn];refine List.nodup_append.mpr #[ih,by simp,λx hx y hy e=>?_];rw[aC hy]at e;subst e;obtain⟨j,hj,e⟩:=qjn hv hx (hv _ _ hvn).2;have:=vkd h.2.1 (kja hvn) (kja e);lia
  |none=>
   rw[K5 hvn];refine List.nodup_append.mpr #[ih,by simp,λx hx y hy e=>?_];rw[aC hy]at e;have:=(kq8 ho hv n x hx).2;lia
theorem vzd{p q:Int}{sh}(hP:Prs a9 ss.length rs)(hk:Abk a9)(ax:Prs aa ss.length rs')(av:Abk aa)(wm:-1<=p)(t6:p<a9.length)(vh:-1<=q)(t7:q<aa.length)(f7:xq8 (kpF rs p) (kpF rs' q) sh)(gq:sh.length<=3):Pin a9 aa rs rs' (.tup [.int p,.int q,.tup (prs sh)]):=by
 obtain⟨a,_,c,d,_⟩:=wX hP hk wm t6;obtain⟨a',_,c',d',_⟩:=wX ax av vh t7;have hok:Pok a9 aa _:=#[p,q,sh,rfl,wm,t6,vh,t7,gq];have e1:nms (pS rs (.tup [.int p,.int q,.tup (prs sh)]))=kX _:=XZ λh=>by
  rcases a with⟨_,e⟩|⟨e,_⟩
  ·rw[e];rfl
  ·lia
 have e2:nms (pT rs rs' (.tup [.int p,.int q,.tup (prs sh)]))=nmF (kpF rs p) (kvS sh) (kpF rs' q).toNat:=by
  show nms (K0 q _ _ _)=_;rw[JX];refine XZ λh=>?_
  rcases a' with⟨_,e⟩|⟨e,_⟩
  ·rw[e];rfl
  ·lia
 have hr:hp rs rs' (.tup [.int p,.int q,.tup (prs sh)])=kX (pO rs rs' (.tup [.int p,.int q,.tup (prs sh)])):=by
  unfold pO hp;rw[e1,e2];exact qjz c (qkt λp hp=>#[(f7.1 p hp).1,(f7.1 p hp).2.1])
 refine#[hok,#[p,q,sh,rfl,λx hx=>#[(f7.1 x hx).1,(f7.1 x hx).2.1]],#[VZ hP hk hok,VW ax av hok,?_,?_],id,(kvy _).symm,(kvy _).symm,λ_ _ _ _ e=>e,hr]
 ·rw[e1];exact List.pairwise_map.mpr (List.nodup_range.imp λh e=>h ⋯)
 ·rw[e2];exact vzl c f7 _
def gp(ss:List Str)(rs rs':List D)(a b:Sn)(w:List (Str×Int)):Prop:=gdF rs (rmO (run ss rs a w))=gdF rs' (rmO (run ss rs' b w))
def Dn(ss:List Str)(rs rs':List D)(K:List D)(rk:D->Nat)(p:D):Prop:=gS rs p=gT rs' p/\∀z∈ss,∀i:Int,0<=i->i<=pO rs rs' p->qJ ss rs rs' p z i∈K/\rk (qJ ss rs rs' p z i)<=rk p+1
set_option tactic.hygienic true in
theorem qxl{K rk n}(hP:Prs a9 ss.length rs)(hk:Abk a9)(ax:Prs aa ss.length rs')(av:Abk aa)(hpk:∀p∈K,Pok a9 aa p)(hK:∀p∈K,rk p<n->Dn ss rs rs' K rk p):
  ∀w {P a b},(∀x∈w,x.1∈ss)->P∈K->rk P+w.length<n->Two a9 aa a b->Rl rs rs' P a b->gp ss rs rs' a b w
 |[],P,a,b,_,ly,hn,_,h=>by
  obtain⟨g1,g2⟩:=wwl (hpk P ly) h;show gdF rs (rmO a)=gdF rs' (rmO b);rw[g1,g2,(hK P ly (by simpa using hn)).1]
 |x::w,P,a,b,hw,ly,hn,ht,h=>by
  rw[Xm]at hn;obtain⟨_,h3⟩:=hK P ly ⋯;obtain⟨i,i0,i1,hl⟩:=wq3 x.2 h;obtain⟨g1,g2⟩:=h3 x.1 (hw x X5) i i0 i1;exact qxl hP hk ax av hpk hK w (λy hy=>hw y (lc9 _ hy)) g1 ⋯ (ht.next x.1 x.2 hP hk ax av) (qxq hP hk ax av (hpk P ly) ht h hl)
end
theorem kxs{a x}:∀{l},x∈zZ a l->x=a\/x∈l
 | [],h=>.inl (aC h)
 | b::l,h=>by
  unfold zZ at h
  split at h
  ·rcases aD h with rfl|h
   ·exact .inr X5
   ·exact(kxs h).imp id λh=>lc9 _ h
  ·exact aD h
theorem kq2{x}:∀{l},x∈xk l->x∈l
 |[],h=>nomatch h|a::l,h=>(kxs h).elim (λe=>e▸X5) λh=>lc9 _ (kq2 h)
theorem vky{x}:∀(l af:List Str),x∈l.foldl (λl k=>if l.any (· == k)then l else l++[k]) af->x∈af\/x∈l
 | [],af,h=>.inl h
 | a::l,af,h=>by
  rw[Yx]at h;rcases vky l _ h with h|h
  ·split at h
   ·exact .inl h
   ·rcases aA h with h|h
    ·exact .inl h
    ·exact .inr (aC h▸X5)
  ·exact .inr (lc9 _ h)
section
variable {a9 aa:List Int}{ss:List Str}{rs rs':List D}
def Stp(ss:List Str)(rs rs':List D)(P:D)(L:List (Str×Int×D)):Prop:=∀x∈L,x.1∈ss/\0<=x.2.1/\x.2.1<=pO rs rs' P/\x.2.2=qJ ss rs rs' P x.1 x.2.1
inductive FrA (a9 aa:List Int)(ss:List Str)(rs rs':List D)(P:D)(S T:Sn)(own:Nat)(zz:List Str):En->List D->Prop
 |mk (L:St3) (zs:List Str) {o4:Own} {l6:Option Sd} {l7:Option Sd} {ab:List D} (h0:o4≠.dp) (h1:ab=zs.map D.str) (h2:zs.length<=6/\∀z∈zs,z∈ss) (h3:L.length+zs.length*7<=42) (h4:(∀x∈L,x.1∈ss/\0<=x.2.1/\x.2.1<=own/\x.2.2=qJ ss rs rs' P x.1 x.2.1)) (h5:∀z∈zz,z∈zs\/∀i:Int,0<=i->i<=own->(z,i,qJ ss rs rs' P z i)∈L):FrA a9 aa ss rs rs' P S T own zz [some (.no,jq ss rs),some (.no,jq ss rs'),some (.no,P),some (.no,lat (S,T)),some (o4,.lst (k6 0 ((own:Int)+1))),some (.rt,.lst (L.map stD)),l6,l7] ab
inductive FrB (a9 aa:List Int)(ss:List Str)(rs rs':List D)(P:D)(S T:Sn)(own:Nat)(z:Str)(L:St3):En->List D->Prop
 |mk (L2:St3) (pre:List D) {l7:Option Sd} {ab:List D} (h0:k6 0 ((own:Int)+1)=pre++ab) (h1:L2.length=L.length+pre.length) (h2:(∀x∈L2,x.1∈ss/\0<=x.2.1/\x.2.1<=own/\x.2.2=qJ ss rs rs' P x.1 x.2.1)) (h3:(∀x∈L,x∈L2)) (h4:∀c:Int,D.int c∈pre->(z,c,qJ ss rs rs' P z c)∈L2):FrB a9 aa ss rs rs' P S T own z L [some (.no,jq ss rs),some (.no,jq ss rs'),some (.no,P),some (.no,lat (S,T)),some (.no,.lst (k6 0 ((own:Int)+1))),some (.rt,.lst (L2.map stD)),some (.no,.str z),l7] ab
theorem wqn{P}(hs:ss.length<=3)(hP:Prs a9 ss.length rs)(hk:Abk a9)(ax:Prs aa ss.length rs')(av:Abk aa)(h:Pok a9 aa P):
  Oo m_steps_from [(.no,jq ss rs),(.no,jq ss rs'),(.no,P)] (λy=>∃L,y=(.rt,.lst (L.map stD))/\Stp ss rs rs' P L/\∀z∈ss,∀i:Int,0<=i->i<=pO rs rs' P->(z,i,qJ ss rs rs' P z i)∈L) noX:=by
 have hS:=VZ hP hk h;have hT:=VW (rs:=rs) ax av h;have hO:=wza hP hk ax av h;have lS:=xY hk hS;have lT:=xY av hT;have hown:((kZ (nms (pS rs P)) (nms (pT rs rs' P))).length:Int)=(pO rs rs' P):=rfl;have q0:∀a b,jW (.tup [a,b]) (.int 0)=some a:=λ_ _=>rfl
 refine k7 ?_;simp![];refine(qqv hP hk ax av h).via ?_;intro y hy;subst hy;simp![];refine(vk4 (pS rs P) (pT rs rs' P) ⋯ ⋯).via ?_;intro y hy;subst hy;simp![hown];have bg:∀z i,qJ ss rs rs' P z i=v9 (rdF ss rs (pS rs P) z i) (rdF ss rs' (pT rs rs' P) z i):=λ_ _=>rfl
 unfold Stp;generalize pO rs rs' P=own at *;generalize pS rs P=S at *;generalize pT rs rs' P=T at *;have hss:∀o,ZJ (o,.lst (ss.map D.str++ss.map D.str))=some (.rt,.lst ((xk (ddS (ss++ss))).map D.str)):=λo=>by
  rw [<-X7];unfold ZJ;dsimp only;rw [qj0];dsimp only;rw [Xd (by rw[Xf];lia)]
 have hzl:(xk (ddS (ss++ss))).length<=6:=by
  rw [U.sortS_len];have:=wj0 (ss++ss) [];show(ddS (ss++ss)).length<=6;unfold ddS
  grind
 have hzr:∀z∈xk (ddS (ss++ss)),z∈ss:=λz hz=>by
  have:=vky _ _ (kq2 hz)
  simpa using this
 have t5:∀z∈ss,z∈xk (ddS (ss++ss)):=λz hz=>kwn (vzz _ _ (.inr (ll9 _ hz)))
 generalize xk (ddS (ss++ss))=zz at hss hzl t5 hzr;have fc:jX (.no,sL ss) (.no,sL ss)=some (.rt,.lst (ss.map D.str++ss.map D.str)):=kzm ⋯ ⋯ (by rw[X3];lia);have ma:(k6 0 ((own)+1)).length=own+1:=by unfold k6;rw[X3,Y8];lia
 refine qK (FrA a9 aa ss rs rs' P S T own zz) ?_ ?_ ?_
 ·simp![q0,fc,hss];exact .mk [] zz ⋯ rfl #[hzl,hzr] (by rw[List.length_nil];lia) (λx hx=>nomatch hx) λz hz=>.inl hz
 ·rintro E d ds ⟨L,zs,ho4,bj,⟨hz6,hzs⟩,hl,hL,hM⟩;cases zs with
  | nil=>cases bj
  | cons z zs=>
   rw [List.map_cons]at bj;injection bj with e1 e2;subst e1 e2;rw [Xm]at hz6 hl;simp![];refine qK (FrB a9 aa ss rs rs' P S T own z L) ?_ ?_ ?_
   ·simp![];exact#[L,[],rfl,rfl,hL,λ_ h=>h,λ_ h=>nomatch h]
   ·rintro E d ds ⟨L2,pre,hpr,hl2,mh,hLL,hM2⟩;obtain⟨c,c0,c1,rfl⟩:=qjr (show d∈k6 0 ((own)+1)by rw[hpr];simp);have ai:=congrArg List.length hpr;rw[ma,Xf,Xm]at ai;obtain⟨r1,r2⟩:=xJ z c hP hk hS;obtain⟨tf,r2'⟩:=xJ z c ax av hT;simp![];refine vw rfl ?_;simp![];refine(vqe (w:=(z,c)) r1 tf).via ?_;intro y hy;subst hy;simp![];have l1:=xY hk r2;have l2:=xY av r2';refine(qvj (rdF ss rs S z c) (rdF ss rs' T z c) ⋯ ⋯).via ?_;intro y hy;subst hy;simp![];have e5:(L2++[(z,c,v9 (rdF ss rs S z c) (rdF ss rs' T z c))]).map stD=L2.map stD++[stD (z,c,v9 (rdF ss rs S z c) (rdF ss rs' T z c))]:=by rw[X7];rfl
    refine#[_,rfl,by rw[X3];lia,?_];rw[<-e5];refine .mk (L2++[(z,c,v9 (rdF ss rs S z c) (rdF ss rs' T z c))]) (pre++[.int c]) (by rw[hpr];simp) (by simp;lia) (λx hx=>?_) (λx hx=>ll9 _ (hLL x hx)) λc' kr=>?_
    ·rcases aA hx with hx|hx
     ·exact mh x hx
     ·rw[aC hx];exact#[hzs z X5,c0,by show c<=own;lia,(bg z c).symm]
    ·grind
   ·rintro E ⟨L2,pre,hpr,hl2,mh,hLL,hM2⟩;rw[Xs]at hpr;rw[<-hpr,ma]at hl2;refine#[L2,zs,⋯,rfl,#[⋯,λz hz=>hzs z (lc9 _ hz)],⋯,mh,λz' iu=>?_];rcases hM z' iu with h|h
    ·rcases aD h with rfl|h
     ·refine .inr λi i0 i1=>hM2 i ?_
      rw[<-hpr];exact List.mem_map.mpr #[i.toNat,List.mem_range.mpr ⋯,by show D.int (0+(i.toNat:Int))=_;congr 1;lia]
     ·exact .inl h
    ·exact .inr λi i0 i1=>hLL _ (h i i0 i1)
 ·rintro E ⟨L,zs,ho4,bj,_,hl,hL,hM⟩;cases zs with
  |cons=>cases bj
  |nil=>
   simp![];exact#[L,rfl,hL,λz hz=>(hM z (t5 z hz)).elim (λh=>nomatch h) id]
end
theorem vwl ks:Oo m_least_beside [(.no,iT ks)] (λy=>∃p:Own×Int,y=(p.1,.int p.2)/\p.2∉ks/\0<=p.2/\p.2<=ks.length) noX:=by
 refine k7 ?_;simp![];refine kvd (λn E=>∃(o o1:Own) (i:Int),E=[some (o,iT ks),some (o1,.int i)]/\n=(ks.filter λx=>decide (i<=x)).length/\0<=i/\∀j,0<=j->j<i->j∈ks) ?_ _ _ #[_,_,0,rfl,rfl,⋯,λj h1 h2=>by lia];rintro n E ⟨o,o1,i,rfl,rfl,i0,hi⟩;cases h:(ks.any λw=>w==i)with
 | true=>
  have e:zX (.int i) (iT ks)=some (.bl true):=by rw[Q1,h]
  have hl:=vkl h;rw[QK]at h;simp![e];refine wj8 rfl ?_;simp![];refine#[_,rfl,_,hl,_,_,i+1,rfl,rfl,⋯,λj h1 h2=>?_]
  by_cases e:j=i
  ·rw[e];exact Yo h
  ·exact hi j h1 ⋯
 | false=>
  have e:zX (.int i) (iT ks)=some (.bl false):=by rw[Q1,h]
  simp![e];refine#[(_,i),rfl,λhm=>?_,i0,?_]
  ·rw[QK]at h;exact of_decide_eq_false h hm
  ·have:=kvt (l:=kX i) (List.pairwise_map.mpr (List.nodup_range.imp λh e=>h ⋯)) λx hx=>by
    have:=mem_rngL.mp hx;exact hi x this.1 this.2
   simp at this;lia
section
variable {ss:List Str}{rs rs':List D}{P:D}{rk:D->Nat}
inductive Wy (ss:List Str)(rs rs':List D)(P:D)(rk:D->Nat):U.Kvs->Prop
 |one:rk P=0->Wy ss rs rs' P rk [(P,.non)]
 |more {W:U.Kvs} {k p:D} {z:Str} {i:Int}:Wy ss rs rs' P rk W->k∉W.map (·.1)->p∈W.map (·.1)->z∈ss->0<=i->i<=pO rs rs' p->k=qJ ss rs rs' p z i->rk k=rk p+1->Wy ss rs rs' P rk (W++[(k,wyD p z i)])
def Wk(ss:List Str)(rs rs':List D):D->List (Str×Int)->D->Prop
 |P,[],R=>P=R|P,x::L,R=>(x.1∈ss/\0<=x.2/\x.2<=pO rs rs' P)/\Wk ss rs rs' (qJ ss rs rs' P x.1 x.2) L R
def Vw(ss:List Str)(rs rs':List D)(P:D)(rk:D->Nat)(ks:List D)(k v:D):Prop:=(v=.non/\k=P/\rk k=0)\/∃p z i,v=wyD p z i/\z∈ss/\0<=i/\i<=pO rs rs' p/\k=qJ ss rs rs' p z i/\p∈ks/\rk k=rk p+1
theorem xqd{rk' W}(h:Wy ss rs rs' P rk W):(∀x∈W.map (·.1),rk' x=rk x)->Wy ss rs rs' P rk' W:=by
 induction h with
 |one h=>exact λhx=>.one (hx P (aB rfl)▸h)
 |@more W k p z i hW hk hp hz hi hi2 bg hr ih=>
  intro hx;rw[X7]at hx;refine .more (ih λx h=>hx x (ll9 _ h)) hk hp hz hi hi2 bg ?_
  rwa [hx k (lr9 _ (aB rfl)),hx p (ll9 _ hp)]
theorem wvs{W}(h:Wy ss rs rs' P rk W):∀k∈W.map (·.1),∃v,xZ W k=some v/\Vw ss rs rs' P rk (W.map (·.1)) k v:=by
 induction h with
 | one h=>
  intro k hk;have hk:=aC hk;subst hk;exact#[.non,by simp[xZ],.inl #[rfl,rfl,h]]
 | @more W k p z i hW hk hp hz hi hi2 bg hr ih=>
  intro x hx;rw[X7]at hx ⊢;rcases aA hx with hx|hx
  ·obtain⟨v,b,c⟩:=ih x hx;refine#[v,by rw[qqq,Xd hx,b],c.imp id ?_];rintro ⟨p',z',i',e,h0,h1,h2,h3,oh,hr⟩;exact#[p',z',i',e,h0,h1,h2,h3,ll9 _ oh,hr]
  ·have hx:=aC hx;subst hx;exact#[_,by rw[qqq,Xi hk,Xd rfl],.inr #[p,z,i,rfl,hz,hi,hi2,bg,ll9 _ hp,hr]]
theorem vqz{W}(h:Wy ss rs rs' P rk W):(∀k∈W.map (·.1),D.pure k=true)->D.pures (W.map (·.2))=true:=by
 induction h with
 |one=>intro _;rfl
 |@more W k p z i hW hk hp _ hi _ _ _ ih=>
  intro oh;rw[X7,D.pures_all,List.all_append,<-D.pures_all,(ih λx hx=>oh x (by rw[X7];exact List.mem_append.mpr (.inl hx)))];show((D.pure p&&_)&&true)=true;rw[(oh p (by rw[X7];exact List.mem_append.mpr (.inl hp)))];rfl
theorem xqe{W k}(hW:Wy ss rs rs' P rk W)(hu:unm W=true)(hK:∀k∈W.map (·.1),qZ k=true/\D.pure k=true)(hl:rk k<=6000)(hk:k∈W.map (·.1)):
  Oo m_steps_to [(.no,.dct W),(.no,k)] (λy=>∃L,y=(.rt,.lst (L.map rwI))/\L.length=rk k/\Wk ss rs rs' P L k) noX:=by
 have hr:=wvs hW;have ll:=vqz hW λk hk=>(hK k hk).2
 have ln:∀x∈W.map _,xq3 (.dct W) x=xZ W x:=λx hx=>Xd #[(hK x hx).1,hu,ll]
 obtain⟨v,b,c⟩:=hr k hk;refine k7 ?_;simp![↓wvv,ln k hk,b,kxv b ll];refine kvd (λn E=>∃(v x:D) (L:List _),E=[some _,some _,some (.rt,.lst (L.map rwI)),some (.dp,v)]/\Vw ss rs rs' P rk (W.map (·.1)) x v/\n=rk x/\L.length+rk x=rk k/\Wk ss rs rs' x L.reverse k) ?_ _ _ #[v,k,[],rfl,c,rfl,by simp,rfl];rintro n E ⟨v,x,L,rfl,hv,rfl,hL,hx⟩;rcases hv with⟨rfl,rfl,h0⟩|⟨p,z,i,rfl,hz,h0,h1,h2,hp,ph⟩
 ·simp![];rw[xqu ⋯];simp![];exact#[L.reverse,by rw[List.map_reverse],by rw[List.length_reverse];omega,hx]
 ·obtain⟨v',b,c⟩:=hr p hp;simp![];refine vw rfl ?_;simp![t1,t2];refine#[_,rfl,by rw[X3];omega,?_];simp![↓wvv,t0,ln p hp,b,kxv b ll];refine#[rk p,by omega,v',p,L++[(z,i)],by rw[X7];rfl,c,rfl,by rw[Xf,Y4];omega,?_];rw[List.reverse_append];exact#[#[hz,h0,h1],h2▸hx]
end
section
variable {a9 aa:List Int}{ss:List Str}{rs rs':List D}
def mxF(a9:List Int):Int:=a9.max?.getD 0
theorem vwf{a9 p}(h:p∈a9):p<=mxF a9:=by
 unfold mxF;cases e:a9.max? with|none=>grind|some M=>exact(List.max?_eq_some_iff.mp e).2 p h
theorem vva{S}(hk:Abk a9)(h0:1<=a9.length)(h:qv a9 S):((nms S).length:Int)<=mxF a9:=by
 cases S with
 |none=>
  have:=vwf (Xn (l:=a9) (n:=0) ⋯);have:=(hk _ (Xn (n:=0) ⋯)).1;show 0<=_;lia
 |some x=>
  obtain⟨a,b,c⟩:=h x.1 x.2 rfl;have hm:a9.getD x.1.toNat 0∈a9:=by rw[X4,X1 ⋯];exact Xn _
  have:=vwf hm;show(x.2.length:Int)<=_;lia
def Nb(a9 aa:List Int)(S:Sn):Prop:=∀x∈nms S,0<=x/\x<=mxF a9+mxF aa
def Sg(a9 aa:List Int)(ss:List Str)(w:List (Str×Int)):Prop:=∀x∈w,x.1∈ss/\0<=x.2/\x.2<=mxF a9+mxF aa
theorem wqj{a b x}(h:x∈kZ a b):x∈a\/x∈b:=by
 rcases aA h with h|h
 ·exact .inl h
 ·exact .inr (List.mem_filter.mp h).1
theorem vk6{a b}:(kZ a b).length<=a.length+b.length:=by
 unfold kZ
 grind
theorem vj2{S z c}(hP:Prs a9 ss.length rs)(hk:Abk a9)(hS:qv a9 S){l l'}(h:Nb l l' S)(hc:0<=c/\c<=mxF l+mxF l'):Nb l l' (rdF ss rs S z c):=λx hx=>by
 rcases(qj6 hP hk hS λ_ _ e=>e).2 x hx with h'|rfl
 ·exact h x h'
 ·exact hc
inductive RwA (a9 aa:List Int)(ss:List Str)(rs rs':List D)(P:D)(L:Lw)(k:D):En->List D->Prop
 |mk (w:Lw) (L2:Lw) (Q:D) {l6:Option Sd} {l7:Option Sd} {l8:Option Sd} {l9:Option Sd} {ab:List D} (h0:ab=L2.map rwI) (h1:Two a9 aa (run ss rs (pS rs P) w) (run ss rs' (pT rs rs' P) w)) (h2:w.length+L2.length=L.length) (h3:Pok a9 aa Q) (h4:Rl rs rs' Q (run ss rs (pS rs P) w) (run ss rs' (pT rs rs' P) w)) (h5:Wk ss rs rs' Q L2 k) (h6:Sg a9 aa ss w) (h7:Nb a9 aa (run ss rs (pS rs P) w)/\Nb a9 aa (run ss rs' (pT rs rs' P) w)):RwA a9 aa ss rs rs' P L k [some (.no,jq ss rs),some (.no,jq ss rs'),some (.no,P),some (.no,.lst (L.map rwI)),some (.no,lat (run ss rs (pS rs P) w,run ss rs' (pT rs rs' P) w)),some (.rt,.lst (w.map rwI)),l6,l7,l8,l9] ab
set_option tactic.hygienic true in
theorem wwk{k P}(L)(h1:1<=a9.length)(jy:1<=aa.length)(hl:L.length<=6000)(hL:Wk ss rs rs' P L k)(hp:Pin a9 aa rs rs' P)(hP:Prs a9 ss.length rs)(hk:Abk a9)(ax:Prs aa ss.length rs')(av:Abk aa):
  Oo m_parting_row [(.no,jq ss rs),(.no,jq ss rs'),(.no,P),(.no,.lst (L.map rwI))] (λy=>∃w,y=(.rt,.lst (w.map rwI))/\w.length=L.length/\Sg a9 aa ss w/\Rl rs rs' k (run ss rs (pS rs P) w) (run ss rs' (pT rs rs' P) w)) noX:=by
 have ms:=vva hk h1 hp.two.a;have mt:=vva av jy hp.two.b;obtain⟨_,_,_,_,pz⟩:=hp.rl;have hhl:=vk6 (a:=nms (pS rs P)) (b:=nms (pT rs rs' P));have hpo:(U.hp rs rs' P).length=pO rs rs' P:=rfl;have fm:∀x∈U.hp rs rs' P,0<=x/\x<=mxF a9+mxF aa:=λx hx=>by
  rw [pz]at hx;have:=mem_rngL.mp hx
  grind
 refine k7 ?_;simp![];refine(qqv hP hk ax av hp.ok).via ?_;intro y hy;subst hy;simp![];refine qK (RwA a9 aa ss rs rs' P L k) ?_ ?_ ?_
 ·simp![];exact .mk [] L P rfl hp.two (by simp) hp.ok hp.rl hL (λ_ h=>nomatch h) #[λx hx=>fm x (xjh hx),λx hx=>fm x (xjg hx)]
 ·rintro E d ds ⟨w,L2,Q,bj,ht,la,hQ,hR2,mh,lp,lf,nj⟩;cases L2 with
  | nil=>cases bj
  | cons x L2=>
   injection bj with e1 e2;subst e1 e2;rw [Xm]at la;obtain⟨z,i⟩:=x;obtain⟨⟨hz,i0,i1⟩,mh⟩:=mh;have ai:=vxx hR2;have og:∀c,run ss rs (pS rs P) (w++[(z,c)])=rdF ss rs (run ss rs (pS rs P) w) z c/\run ss rs' (pT rs rs' P) (w++[(z,c)])=rdF ss rs' (run ss rs' (pT rs rs' P) w) z c:=λc=>#[run_snoc,run_snoc]
   generalize run ss rs (pS rs P) w=S at *;generalize run ss rs' (pT rs rs' P) w=T at *;have hS:=ht.a;have hT:=ht.b;have lS:=xY hk hS;have lT:=xY av hT;have m1:=vva hk h1 hS;have m2:=vva av jy hT;have hhl:=vk6 (a:=nms S) (b:=nms T);generalize hR:j7 (jv 9 _) _=R;simp![];refine(vk4 S T ⋯ ⋯).via ?_;intro y hy;subst hy;simp![];subst hR;refine QJ (λE=>∃(o9:Own) (c:Int),E=[some (.no,jq ss rs),some (.no,jq ss rs'),some (.no,P),some (.no,.lst (L.map rwI)),some (.no,lat (S,T)),some (.rt,.lst (w.map rwI)),some (.no,.str z),some (.no,.int i),some (.no,iT (kZ (nms S) (nms T))),some (o9,.int c)]/\Lk (pO rs rs' Q) S T i c/\0<=c/\c<=mxF a9+mxF aa) ?_ ?_
   ·by_cases hi:i<(kZ (nms S) (nms T)).length
    ·have hd:decide (i<((kZ (nms S) (nms T)).length:Int))=true:=Xb hi;have hg:jW (iT (kZ (nms S) (nms T))) (.int i)=some (.int ((kZ (nms S) (nms T))[i.toNat]'⋯)):=xx7 i0 (by rw[Xg,X1 ⋯];rfl);simp![hd,hg];refine#[_,_,rfl,.inl #[i0,⋯,X1 ⋯],?_];rcases wqj (Xn (l:=kZ (nms S) (nms T)) (n:=i.toNat) ⋯)with h|h
     ·exact lf _ h
     ·exact nj _ h
    ·have hd:decide (i<((kZ (nms S) (nms T)).length:Int))=false:=Xl hi;simp![hd];refine(vwl _).via ?_;rintro y ⟨p,rfl,hp,oe,hp1⟩;simp![];exact#[_,_,rfl,.inr #[⋯,hp],oe,⋯]
   ·rintro E ⟨o9,c,rfl,hlk,hc⟩;obtain⟨r1,r2⟩:=xJ z c hP hk hS;obtain⟨tf,r2'⟩:=xJ z c ax av hT;simp![];refine vw rfl ?_;simp![];refine#[_,rfl,by rw[X3];lia,?_];simp![];refine(vqe (w:=(z,c)) r1 tf).via ?_;intro y hy;subst hy;have e7:(w++[(z,c)]).map rwI=w.map rwI++[rwI (z,c)]:=by rw[X7];rfl
    show RwA a9 aa ss rs rs' P L k [some (.no,jq ss rs),some (.no,jq ss rs'),some (.no,P),some (.no,.lst (L.map rwI)),some (.no,lat (rdF ss rs S z c,rdF ss rs' T z c)),some (.rt,.lst (w.map rwI++[rwI (z,c)])),_,_,_,_] _;rw[<-(og c).1,<-(og c).2,<-e7];refine .mk (w++[(z,c)]) L2 (qJ ss rs rs' Q z i) rfl ?_ (by rw[Xf,Y4];lia) ?_ ?_ mh (λx hx=>?_) ?_
    ·rw[(og c).1,(og c).2];exact ht.next z c hP hk ax av
    ·exact qqa (xJ z i hP hk (VZ hP hk hQ)).2 (xJ z i ax av (VW ax av hQ)).2 hk
    ·rw[(og c).1,(og c).2];exact qxq hP hk ax av hQ ht hR2 hlk
    ·rcases aA hx with hx|hx
     ·exact lp x hx
     ·rw[aC hx];exact#[hz,hc]
    ·rw[(og c).1,(og c).2];exact#[vj2 hP hk hS lf hc,vj2 ax av hT nj hc]
 ·rintro E ⟨w,L2,Q,bj,ht,la,hQ,hR2,mh,lp,hn⟩;cases L2 with
  |cons=>cases bj
  |nil=>
   have mh:Q=k:=mh;subst mh;simp![];exact#[w,rfl,by simpa using la,lp,hR2]
end
section
variable {a9 aa:List Int}{ss:List Str}{rs rs':List D}
structure Ws (a9 aa:List Int)(ss:List Str)(rs rs':List D)(P:D)(rk:D->Nat)(W:U.Kvs):Prop where
 wy:Wy ss rs rs' P rk W
 nd:(W.map (·.1)).Nodup
 pin:∀k∈W.map (·.1),Pin a9 aa rs rs' k
 all:∀k∈W.map (·.1),k∈P::AllQ
 srt:(W.map (·.1)).Pairwise λa b=>rk a<=rk b
theorem Ws.le{P rk W}(h:Ws a9 aa ss rs rs' P rk W):W.length<=5747:=by
 have:=kvt h.nd h.all;rw[X3,Xm,vxg]at this;exact this
theorem Ws.unm{P rk W}(h:Ws a9 aa ss rs rs' P rk W):unm W=true:=by
 cases W with
 |nil=>rfl
 |cons e W=>
  obtain⟨k,v⟩:=e;obtain⟨p,q,sh,rfl,_⟩:=(h.pin k X5).ok;rfl
theorem xqc{P rk W}(h:Wy ss rs rs' P rk W):∀k∈W.map (·.1),rk k<W.length:=by
 induction h with
 | one h=>
  intro k hk;rw[aC hk];show rk P<1;lia
 | @more W k p z i hW hk hp hz hi hi2 bg hr ih=>
  intro x hx;rw[X7]at hx;rw[Xf,Y4];rcases aA hx with hx|hx
  ·have:=ih x hx;lia
  ·have hx:=aC hx;have:=ih p hp;lia
def upd(rk:D->Nat)(k:D)(n:Nat):D->Nat:=λx=>if x=k then n else rk x
theorem qww{rk k n}:upd rk k n k=n:=Xd rfl
theorem qwv{rk k x n}(h:x≠k):upd rk k n x=rk x:=Xi h
theorem Ws.more{P k p z}{i:Int}{rk W}(h:Ws a9 aa ss rs rs' P rk W)(hk:k∉W.map (·.1))(hp:p∈W.map (·.1))(hz:z∈ss)(h0:0<=i)(h1:i<=pO rs rs' p)(bg:k=qJ ss rs rs' p z i)(ij:Pin a9 aa rs rs' k)(lq:k∈AllQ)(hm:∀x∈W.map (·.1),rk x<=rk p+1):Ws a9 aa ss rs rs' P (upd rk k (rk p+1)) (W++[(k,wyD p z i)]):=by
 have ho:∀x∈W.map _,upd rk k (rk p+1) x=rk x:=λx hx=>qwv λe=>hk (e▸hx)
 refine#[.more (xqd h.wy ho) hk hp hz h0 h1 bg (by rw[qww,ho p hp]),?_,λx hx=>?_,λx hx=>?_,?_]
 ·rw[X7];refine List.nodup_append.mpr #[h.nd,by simp,λa ha b hb e=>?_];have hb:b=k:=aC hb;rw[hb]at e;exact hk (e▸ha)
 ·rw[X7]at hx;rcases aA hx with hx|hx
  ·exact h.pin x hx
  ·rw[aC hx];exact ij
 ·rw[X7]at hx;rcases aA hx with hx|hx
  ·exact h.all x hx
  ·rw[aC hx];exact lc9 _ lq
 ·rw[X7];refine List.pairwise_append.mpr #[h.srt.imp_of_mem λha hb hr=>by rw[ho _ ha,ho _ hb];exact hr,List.pairwise_singleton _ _,λa ha b hb=>?_];have hb:b=k:=aC hb;rw[hb,qww,ho a ha];exact hm a ha
noncomputable def xwi(a9 aa:List Int)(ss:List Str)(rs rs':List D)(P d:D):Prop:=
 (∃w:List (Str×Int),d=.tup [.str "apart",.lst (w.map rwI)]/\w.length<=6000/\Sg a9 aa ss w/\¬gp ss rs rs' (pS rs P) (pT rs rs' P) w/\∀u:List (Str×Int),(∀x∈u,x.1∈ss)->u.length<w.length->gp ss rs rs' (pS rs P) (pT rs rs' P) u) \/
 (∃(K:List D) (rk:D->Nat),d=.tup [.str "alike",.lst K]/\K.length<=6000/\K.Nodup/\P∈K/\∀p∈K,Pin a9 aa rs rs' p/\Dn ss rs rs' K rk p)
inductive SrA (a9 aa:List Int)(ss:List Str)(rs rs':List D)(P:D):Nat->En->Prop
 |mk (W:U.Kvs) (rk:D->Nat) (i:Nat) {o5:Own} {l6:Option Sd} {l7:Option Sd} {l8:Option Sd} {l9:Option Sd} {n:Nat} (h0:Ws a9 aa ss rs rs' P rk W) (h1:n=6000 - i) (h2:P∈W.map (·.1)/\rk P=0) (h3:∀p∈(W.map (·.1)).take i,Dn ss rs rs' (W.map (·.1)) rk p) (h4:∀k,(W.map (·.1))[i]?=some k->∀x∈W.map (·.1),rk x<=rk k+1):SrA a9 aa ss rs rs' P n [some (.no,jq ss rs),some (.no,jq ss rs'),some (.no,P),some (.rt,.dct W),some (.rt,.lst (W.map (·.1))),some (o5,.int i),l6,l7,l8,l9]
inductive SrB (a9 aa:List Int)(ss:List Str)(rs rs':List D)(P:D)(W:U.Kvs)(rk:D->Nat)(i:Nat)(k:D):En->List D->Prop
 |mk (W2:U.Kvs) (jo:D->Nat) (A:St3) (L:St3) {o5:Own} {o6:Own} {l7:Option Sd} {l8:Option Sd} {l9:Option Sd} {ab:List D} (h0:Ws a9 aa ss rs rs' P jo W2) (h1:(∃V,W2=W++V)) (h2:ab=L.map stD) (h3:Stp ss rs rs' k L) (h4:(∀x∈A,x∈L\/x.2.2∈W2.map (·.1))) (h5:∀z∈ss,∀i:Int,0<=i->i<=pO rs rs' k->(z,i,qJ ss rs rs' k z i)∈A) (h6:∀x∈W.map (·.1),jo x=rk x) (h7:∀x∈W2.map (·.1),jo x<=rk k+1):SrB a9 aa ss rs rs' P W rk i k [some (.no,jq ss rs),some (.no,jq ss rs'),some (.no,P),some (.rt,.dct W2),some (.rt,.lst (W2.map (·.1))),some (o5,.int i),some (o6,k),l7,l8,l9] ab
set_option tactic.hygienic true in
theorem kjf{P}(hs:ss.length<=3)(nq:a9.length<=12)(jd:aa.length<=12)(h1:1<=a9.length)(jy:1<=aa.length)(hP:Prs a9 ss.length rs)(hk:Abk a9)(ax:Prs aa ss.length rs')(av:Abk aa)(h:Pin a9 aa rs rs' P):
  Oo m_searched [(.no,jq ss rs),(.no,jq ss rs'),(.no,P)] (λy=>∃d,y=(.no,d)/\xwi a9 aa ss rs rs' P d) noX:=by
 refine k7 ?_;simp![↓wvz];refine⟨(Q7 h).1,?_⟩;have bg:Ws a9 aa ss rs rs' P (λ_=>0) [(P,.non)]:=⟨.one rfl,by simp,λk hk=>by rw[aC hk];exact h,λk hk=>by rw[aC hk];exact X5,List.pairwise_singleton _ _⟩;refine kvd (SrA a9 aa ss rs rs' P) ?_ 6000 _ ⟨[(P,.non)],_,0,bg,rfl,⟨aB rfl,rfl⟩,λp hp=>(nomatch hp),λ_ _ _ _=>Y6 _⟩;rintro n E ⟨W,rk,i,hW,rfl,⟨hP0,hr0⟩,hD,hM0⟩;have hWl:=hW.le
 by_cases cz:i<W.length
 rotate_left
 ·have hd:decide ((i)<(W.length:Int))=false:=Xl ⋯;simp![hd];rw [List.take_of_length_le (by rw[X3];lia)]at hD;exact⟨_,rfl,.inr ⟨_,rk,rfl,by rw[X3];lia,hW.nd,hP0,λp hp=>⟨hW.pin p hp,hD p hp⟩⟩⟩
 have hd:decide ((i)<(W.length:Int))=true:=Xb ⋯;obtain⟨k,si,ln,pe⟩:∃k∈W.map (·.1),jW (.lst (W.map (·.1))) (.int i)=some k/\(W.map (·.1))[i]?=some k:=by
  have hl:i<(W.map (·.1)).length:=by rw[X3];exact cz
  exact⟨(W.map (·.1))[i],Xn hl,wY ⋯ (by rw[Y2];exact X1 hl),X1 hl⟩
 have mx:=hW.pin k si;have hag:Oo B.m_agrees [(.no,jq ss rs),(.no,jq ss rs'),(.no,k)] (λy=>∃o',y=(o',.bl (gS rs k==gT rs' k))/\True) noX:=by
  obtain⟨p,q,sh,rfl,a0,a1,b0,b1,_⟩:=mx.ok;exact vqn (wX hP hk a0 a1).2.1 (wX ax av b0 b1).2.1
 generalize hR:j7 (kW _ _ _) _=R;simp![hd,ln];refine hag.via ?_;rintro y ⟨o',rfl,_⟩;cases hb:(gS rs k==gT rs' k)with
 | false=>
  have ma:=xqc hW.wy k si;simp![];refine(xqe hW.wy hW.unm (λx hx=>Q7 (hW.pin x hx)) ⋯ si).via ?_;rintro y ⟨L,rfl,hl,hL⟩;simp![];refine(wwk L h1 jy ⋯ hL h hP hk ax av).via ?_;rintro y ⟨w,rfl,se,lp,hw⟩;simp![];refine#[_,rfl,.inl #[w,rfl,⋯,lp,λe=>?_,λu hu hul=>?_]]
  ·obtain⟨g1,g2⟩:=wwl mx.ok hw;unfold gp at e
   grind
  ·refine qxl (n:=rk k) (rk:=rk) (K:=W.map (·.1)) hP hk ax av (λp hp=>(hW.pin p hp).ok) (λp hp cz=>hD p ?_) u hu hP0 ⋯ h.two h.rl;obtain⟨j,hj,e⟩:=Yn hp
   by_cases hji:j<i
   ·exact List.mem_take_iff_getElem.mpr #[j,⋯,e]
   ·exfalso;obtain⟨jh,ek⟩:=List.getElem?_eq_some_iff.mp pe
    by_cases mw:i=j
    ·subst mw;rw[e]at ek
     grind
    ·have:=List.pairwise_iff_getElem.mp hW.srt i j jh hj ⋯;rw[ek,e]at this;lia
 | true=>
  have hgk:gS rs k=gT rs' k:=by simpa using hb
  simp![];subst hR;simp![];refine qK (SrB a9 aa ss rs rs' P W rk i k) ?_ ?_ ?_
  ·simp![];refine(wqn hs hP hk ax av mx.ok).via ?_;rintro y ⟨L,rfl,hL,hM⟩;simp![];exact#[W,rk,L,L,hW,#[[],by simp],rfl,hL,λx hx=>.inl hx,hM,λ_ _=>rfl,(hM0 k pe)]
  ·rintro E d ds ⟨W2,jo,A,L,hW2,⟨V,rfl⟩,bj,hL,hA,hM,mq,om⟩;cases L with
   | nil=>cases bj
   | cons x L=>
    rw [List.map_cons]at bj;injection bj with e1 e2;subst e1 e2;obtain⟨z,c,d⟩:=x;obtain⟨hz,c0,c1,hd⟩:=hL (z,c,d) X5;have hz:z∈ss:=hz;have c0:0<=c:=c0;have c1:c<=pO rs rs' k:=c1;have hd:d=qJ ss rs rs' k z c:=hd;have htw:=mx.two.next (ss:=ss) (rs:=rs) (rs':=rs') z c hP hk ax av
    have uy:Pin a9 aa rs rs' d:=hd▸wxt hP hk ax av htw;have hda:d∈AllQ:=hd▸xk9 nq jd hk av htw;have hkW2:k∈(W++V).map (·.1):=by rw[X7];exact ll9 _ si
    have vm:Stp ss rs rs' k L:=λx hx=>hL x (lc9 (z,c,d) hx)
    have hWl:=hW2.le;have hn:=wzo (Q7 uy).1 hW2.unm
    by_cases hm:d∈(W++V).map (·.1)
    ·rw[Xb hm]at hn;simp![hn];refine#[W++V,jo,A,L,hW2,#[V,rfl],rfl,vm,λx hx=>?_,hM,mq,om];rcases hA x hx with q|q
     ·rcases aD q with q|q
      ·exact .inr (q▸hm)
      ·exact .inl q
     ·exact .inr q
    ·rw[Xl hm]at hn;simp![hn];refine vku ?_;simp![];refine#[#[W++V,rfl],W++V,rfl,(Q7 uy).1,#[⋯,hW2.unm],?_];rw[show Kw (W++V) d (.tup [k,.str z,.int c])=(W++V)++[(d,wyD k z c)]from Xi hm];simp![];refine vw rfl ?_;simp![];have e4:((W++V)++[(d,wyD k z c)]).map (·.1)=(W++V).map (·.1)++[d]:=by rw[X7 (l₁:=W++V)];rfl
     refine#[_,rfl,by rw[X3];lia,?_];rw[<-e4];have ph:jo k=rk k:=mq k si;have ho:∀x∈(W++V).map (·.1),upd jo d (jo k+1) x=jo x:=λx hx=>qwv λe=>hm (e▸hx)
     refine .mk ((W++V)++[(d,wyD k z c)]) (upd jo d (jo k+1)) A L (hW2.more hm hkW2 hz c0 c1 hd uy hda (ph▸om)) #[V++[(d,wyD k z c)],by simp] rfl vm (λx hx=>?_) hM (λx hx=>?_) λx hx=>?_
     ·rw[X7 (l₁:=W++V)];rcases hA x hx with q|q
      ·rcases aD q with q|q
       ·exact .inr (lr9 _ (q▸aB rfl))
       ·exact .inl q
      ·exact .inr (ll9 _ q)
     ·rw[ho x (X7▸ll9 _ hx)];exact mq x hx
     ·rw[e4]at hx;rcases aA hx with hx|hx
      ·rw[ho x hx];exact om x hx
      ·rw[aC hx,qww,ph];exact Xa _
  ·rintro E ⟨W2,jo,A,L,hW2,⟨V,rfl⟩,bj,hL,hA,hM,mq,om⟩;cases L with
   | cons=>cases bj
   | nil=>
   simp![];refine wj8 rfl ?_;simp![];have ei:∀d∈W.map (·.1),d∈(W++V).map (·.1):=λd hd=>by rw[X7];exact ll9 _ hd
   have ph:jo k=rk k:=mq k si;have hki:((W++V).map (·.1))[i]?=some k:=by rw[X7,Xw (by rw[X3];lia)];exact pe
   refine#[_,rfl,6000 - (i+1),⋯,W++V,jo,i+1,hW2,rfl,#[ei _ hP0,by rw[mq P hP0];exact hr0],λp hp=>?_,λk' av x hx=>?_]
   ·have lx:((W++V).map (·.1)).take (i+1)=(W.map (·.1)).take i++[k]:=by
     rw[X7,List.take_append_of_le_length (by rw[X3];lia),List.take_add_one,pe];rfl
    rw[lx]at hp;rcases aA hp with hp|hp
    ·obtain⟨d1,d2⟩:=hD p hp;refine#[d1,λz hz j j0 j1=>?_];obtain⟨g1,g2⟩:=d2 z hz j j0 j1;exact#[ei _ g1,by rw[mq _ g1,mq p (List.mem_of_mem_take hp)];exact g2]
    ·rw[aC hp];refine#[hgk,λz hz j j0 j1=>?_];rcases hA _ (hM z hz j j0 j1)with q|q
     ·grind
     ·exact#[q,by rw[ph];exact om _ q]
   ·obtain⟨a1,a2⟩:=List.getElem?_eq_some_iff.mp hki;obtain⟨b1,b2⟩:=List.getElem?_eq_some_iff.mp av;have:=List.pairwise_iff_getElem.mp hW2.srt i (i+1) a1 b1 ⋯;rw[a2,b2]at this;have:=om x hx;lia
noncomputable def m_compared:Fn:=fn 3
  (j7 (sIf (tE (cF2 (pu2 fNe) (j9 (vV 0) (C9 0)) (j9 (vV 1) (C9 0)))) qxm k4)
  (j7 (sIf (tOr (tNot (tEQ (vE (jx J.m_is_small [(cV 0)])))) (tNot (tEQ (vE (jx J.m_is_small [(cV 1)]))))) qxm k4)
  (jJ (jx m_searched [(cV 0),(cV 1),(cIf (tE (cF2 (f2First fIsNon) (vV 2) (vE (cC .non)))) (cC (.tup [(.int 0),(.int 0),(.tup [])])) (cV 2))]))))
theorem qk9{P d}(hs:ss.length<=3)(nq:a9.length<=12)(jd:aa.length<=12)(h1:1<=a9.length)(jy:1<=aa.length)(hP:Prs a9 ss.length rs)(hk:Abk a9)(ax:Prs aa ss.length rs')(av:Abk aa)(h:Pin a9 aa rs rs' P)(hd:(d=.non/\P=P0)\/d=P):
  Oo Y.m_compared [(.no,jq ss rs),(.no,jq ss rs'),(.no,d)] (λy=>∃d,y=(.no,d)/\xwi a9 aa ss rs rs' P d) noX:=by
 have q0:∀a b,jW (.tup [a,b]) (.int 0)=some a:=λ_ _=>rfl
 have br:fNe _ (sL ss)=some _:=qjo (x9 λd hd=>by obtain⟨w,_,rfl⟩:=aE hd;rfl);have li:=J.small_is (d0:=sL ss) (qq5 hP);have dl:=J.small_is (d0:=sL ss) (qq5 ax);rw[kx4 hP hk ⋯]at li;rw[kx4 ax av ⋯]at dl;refine k7 ?_;simp![q0,br];refine li.any.use ?_;intro _ _;simp![];refine dl.any.use ?_;intro _ _;rcases hd with⟨rfl,rfl⟩|rfl
 ·simp![];refine(kjf hs nq jd h1 jy hP hk ax av h).via ?_;rintro y ⟨d,rfl,h⟩;exact#[d,rfl,h]
 ·have hsr:=kjf hs nq jd h1 jy hP hk ax av h;obtain⟨p,q,sh,rfl,_⟩:=h.ok;simp![];refine hsr.via ?_;rintro y ⟨d,rfl,h⟩;exact#[d,rfl,h]
end
theorem vwv{ss rs room g}(h:Gdr rs room g):Oo m__law_good [(.no,jq ss rs),(.no,.int room)] (λy=>∃o',y=(o',.bl g)/\True) noX:=by
 refine k7 ?_;rcases h with⟨rfl,rfl⟩|⟨h0,k,st,hr⟩
 ·simp![B.neg1,nei rfl];exact#[_,rfl,trivial]
 ·have br:(room == -1)=false:=Xu ⋯;simp![B.neg1,p1,nei br,(wY h0 hr),show jW (.tup [k,.bl g,st]) (.int 1)=some _ from rfl];exact#[_,rfl,trivial]
theorem neb(a b):fNe (.bl a) (.bl b)=some (.bl (a != b)):=by cases a<;>cases b<;>rfl
section
variable {a9 aa:List Int}{ss:List Str}{rs rs':List D}
theorem vzt{S}(hP:Prs a9 ss.length rs)(hk:Abk a9)(h:qv a9 S):Gdr rs (rmO S) (gdF rs (rmO S)):=by
 obtain⟨a,b⟩:=qxa h;exact(wX hP hk a b).2.1
inductive PaA (ss:List Str)(rs rs':List D)(st row:D)(a b:Sn)(w:Lw):En->List D->Prop
 |mk (w1 w2:Lw) {o4 o5:Own} {l6 l7:Option Sd} {ab:List D} (h0:ab=w2.map rwI) (h1:w=w1++w2):PaA ss rs rs' st row a b w [some (.no,jq ss rs),some (.no,jq ss rs'),some (.no,st),some (.no,row),some (o4,stn (run ss rs a w1)),some (o5,stn (run ss rs' b w1)),l6,l7,none,none,none] ab
inductive PaB (one ce st row:D)(a b:Sn):En->List D->Prop
 |mk (r:List Int) {l4 l5 l6 l7 l9 i5:Option Sd} {ab:List D} (h:(ab=[.tup [.int 0,stn a],.tup [.int 1,stn b]]/\r=[-1,-1])\/(ab=[.tup [.int 1,stn b]]/\r=[rmO a,-1])\/(ab=[]/\r=[rmO a,rmO b])):PaB one ce st row a b [some (.no,one),some (.no,ce),some (.no,st),some (.no,row),l4,l5,l6,l7,some (.rt,.lst (r.map D.int)),l9,i5] ab
theorem qq9{a b}{w:Lw}(hP:Prs a9 ss.length rs)(hk:Abk a9)(ax:Prs aa ss.length rs')(av:Abk aa)(ha:qv a9 a)(hb:qv aa b)(hw:∀x∈w,x.1∈ss):
  Oo m__law_parts [(.no,jq ss rs),(.no,jq ss rs'),(.no,.lst [stn a,stn b]),(.no,.lst (w.map rwI))] (λy=>∃o',y=(o',.bl (gdF rs (rmO (run ss rs a w)) != gdF rs' (rmO (run ss rs' b w))))/\True) noX:=by
 refine k7 ?_;simp![];refine qK (PaA ss rs rs' (.lst [stn a,stn b]) (.lst (w.map rwI)) a b w) ?_ ?_ ?_
 ·simp![];exact⟨[],w,rfl,rfl⟩
 ·rintro E d ds ⟨w1,w2,hr,hw'⟩;cases w2 with
  | nil=>cases hr
  | cons x w2=>
   injection hr with e1 e2;subst e1 e2;obtain⟨z,c⟩:=x;have hz:(ss.any λw=>w==z)=true:=List.any_eq_true.mpr #[z,hw (z,c) (by rw[hw'];simp),beq_self_eq_true _];have hS:=(kwu hP hk w1 ha).2;have hT:=(kwu ax av w1 hb).2;simp![];refine(jzz hP hS hz ((xJ z c hP hk hS).1)).via ?_;rintro ⟨o1,d1⟩ e;cases(show d1=_ from e);simp![];refine(jzz ax hT hz ((xJ z c ax av hT).1)).via ?_;rintro ⟨o2,d2⟩ e;cases(show d2=_ from e);rw [<-U.run_snoc,<-U.run_snoc];exact .mk (w1++[(z,c)]) w2 rfl (by rw[hw'];simp)
 ·rintro E ⟨w1,w2,hr,hw'⟩;have su:w2=[]:=by cases w2 with|nil=>rfl|cons=>cases hr
  subst su;rw [Xs]at hw';subst hw';have gS:=vzt hP hk ((kwu hP hk w ha).2);have gT:=vzt ax av ((kwu ax av w hb).2);generalize run ss rs a w=S at *;generalize run ss rs' b w=T at *;simp![B.neg1];refine qK (PaB (jq ss rs) (jq ss rs') (.lst [stn a,stn b]) (.lst (w.map rwI)) S T) ?_ ?_ ?_
  ·simp![];exact#[[-1,-1],.inl #[rfl,rfl]]
  ·rintro E d ds ⟨r,h⟩;have iw:∀(k:Int) (U) (l4 l5 l6 l7) (r r':List Int) (ab),(U=none->r'=r)->(∀x,U=some x->r'=r.set k.toNat x.1)->0<=k->k<r.length->(∀l9 i5,PaB (jq ss rs) (jq ss rs') (.lst [stn a,stn b]) (.lst (w.map rwI)) S T [some (.no,jq ss rs),some (.no,jq ss rs'),some (.no,.lst [stn a,stn b]),some (.no,.lst (w.map rwI)),l4,l5,l6,l7,some (.rt,.lst (r'.map D.int)),l9,i5] ab)->∀{C R},Po (sIf (tE (cF2 (f2First fNotNon) (vV 10) (vE (cC .non)))) (ZX 8 (vV 9) (cH (j9 (vV 10) (C9 0)))) k4 [some (.no,jq ss rs),some (.no,jq ss rs'),some (.no,.lst [stn a,stn b]),some (.no,.lst (w.map rwI)),l4,l5,l6,l7,some (.rt,.lst (r.map D.int)),some (.no,.int k),some (.no,stn U)]) (λE2=>PaB (jq ss rs) (jq ss rs') (.lst [stn a,stn b]) (.lst (w.map rwI)) S T E2 ab) C R noX:=λk U l4 l5 l6 l7 r r' ab hn hs k0 k1 qt C R=>by
    cases U with
    | none=>
     rw[hn rfl]at qt;have sn:stn none=.non:=rfl;simp![sn];exact qt _ _
    | some x=>
     have e:=hs x rfl;subst e;have sn:stn (some x)=.tup [.int x.1,iT x.2]:=rfl;simp![sn];refine qzd ?_;simp![p0];refine#[rfl,.rt,_,k,k.toNat,rfl,⋯,rfl,?_,?_]
     ·unfold Q.ixN;rw[Xd k0,Xd (by rw[X3];exact k1)]
     ·rw[<-List.map_set];exact qt _ _
   rcases h with⟨h1,rfl⟩|⟨h1,rfl⟩|⟨h1,_⟩
   ·injection h1 with e1 e2;subst e1 e2;generalize hB:sIf _ _ _=Bd;simp![];subst hB;refine iw 0 S _ _ _ _ [-1,-1] [rmO S,-1] _ (λe=>by rw[e];rfl) (λx e=>by rw[e];rfl) ⋯ ⋯ λl9 i5=>#[_,.inr (.inl #[rfl,rfl])]
   ·injection h1 with e1 e2;subst e1 e2;generalize hB:sIf _ _ _=Bd;simp![];subst hB;refine iw 1 T _ _ _ _ [rmO S,-1] [rmO S,rmO T] _ (λe=>by rw[e];rfl) (λx e=>by rw[e];rfl) ⋯ (by simp) λl9 i5=>#[_,.inr (.inr #[rfl,rfl])]
   ·cases h1
  ·rintro E ⟨r,⟨h1,_⟩|⟨h1,_⟩|⟨_,rfl⟩⟩
   ·cases h1
   ·cases h1
   ·have x0:jW (.lst [.int (rmO S),.int (rmO T)]) (.int 0)=some (.int (rmO S)):=rfl;have x1:jW (.lst [.int (rmO S),.int (rmO T)]) (.int 1)=some (.int (rmO T)):=rfl;simp![x0,x1];refine(vwv gS).use ?_;intro _ _;simp![x0,x1];refine(vwv gT).use ?_;intro _ _;simp![neb];exact#[_,rfl,trivial]
end
theorem xx8{x kvs}(h:qZ x=true)(hu:unm kvs=true):Q9 x (.dct kvs)=some (.bl (decide (x∈kvs.map (·.1)))):=by
 unfold Q9;dsimp only;rw[Xd #[h,hu]]
abbrev trD(K:List D):List (D×D):=K.map λk=>(k,.bl true)
theorem kzz K:(trD K).map (·.1)=K:=by rw[Xj];exact List.map_id K
section
variable {a9 aa:List Int}{ss:List Str}{rs rs':List D}
theorem kj5(hP:Prs a9 ss.length rs):rs.map V9=a9:=by
 refine List.ext_getElem (by rw[X3];exact hP.1) λi h1 h2=>?_
 obtain⟨r,e,gd,st,rfl,_⟩:=hP.2 i h2;obtain⟨_,e⟩:=List.getElem?_eq_some_iff.mp e;rw[List.getElem_map,e,X4,X1 h2];rfl
theorem kvx(h1:1<=a9.length)(hP:Prs a9 ss.length rs):Oo m__law_most [(.no,jq ss rs)] (λy=>∃o',y=(o',.int (mxF a9))/\True) noX:=by
 refine k7 ?_;simp![];refine Qx [] (λd y=>y.2=.int (V9 d)) ?_;simp![p1];refine#[λd hd=>?_,λys hy=>?_]
 ·obtain⟨i,hi,rfl⟩:=Yn hd;obtain⟨r,e,gd,st,rfl,_⟩:=hP.2 i (by have:=hP.1;lia);obtain⟨_,e⟩:=List.getElem?_eq_some_iff.mp e;rw[e];simp![show ∀a b c,jW (.tup [a,b,c]) (.int 0)=some a from λ_ _ _=>rfl];exact#[#[_,rfl],rfl]
 ·rw[xV,Ww (λ_ _ h=>h) hy];have e:(rs.map λd=>D.int (V9 d))=a9.map D.int:=by rw[<-kj5 hP,Xj];rfl
  have hm:vkm (.lst (a9.map D.int))=some (.int (mxF a9)):=by
   unfold vkm mxF;dsimp only;rw[vjy];dsimp only;cases e:a9.max? with|none=>grind|some M=>rfl
  rw[e];simp![hm];exact#[_,rfl,trivial]
theorem vki{P}(hP:Prs a9 ss.length rs)(hk:Abk a9)(ax:Prs aa ss.length rs')(av:Abk aa)(h:Pin a9 aa rs rs' P):Oo m__law_firsts [(.no,jq ss rs),(.no,jq ss rs'),(.no,P)] (λy=>y=(.rt,.lst [stn (pS rs P),stn (pT rs rs' P)])) noX:=by
 obtain⟨p',q',sh',e,hs⟩:=h.pk;obtain⟨p,q,sh,rfl,h0,h1,g0,g1,h4⟩:=h.ok;injection e with e;injection e with e1 e;injection e with e2 e;injection e with e3 _;injection e1 with e1;injection e2 with e2;injection e3 with e3;have e3:sh=sh':=by rw[<-JX sh,e3,JX]
 subst e1 e2 e3;obtain⟨a,_,c,d,_⟩:=wX hP hk h0 h1;obtain⟨a',_,c',d',_⟩:=wX ax av g0 g1;have:=kxz (ss:=ss) a a' c ⋯ c' ⋯ hs ⋯;have eT:K0 q (kpF rs p) (kpF rs' q) sh=pT rs rs' (.tup [.int p,.int q,.tup (prs sh)]):=by
  show _=K0 q _ _ _;rw[JX]
 rw[eT]at this;exact this
theorem wv9{P}(hs:ss.length<=3)(hP:Prs a9 ss.length rs)(hk:Abk a9)(ax:Prs aa ss.length rs')(av:Abk aa)(h:Pin a9 aa rs rs' P):Oo m__law_behind_all [(.no,jq ss rs),(.no,jq ss rs'),(.no,P)] (λy=>∃F,y=(.rt,.lst F)/\∀d∈F,∃z∈ss,∃i:Int,0<=i/\i<=pO rs rs' P/\d=qJ ss rs rs' P z i) noX:=by
 obtain⟨p',q',sh',e,f7⟩:=h.pk;obtain⟨p,q,sh,rfl,h0,h1,g0,g1,h4⟩:=h.ok;injection e with e;injection e with e1 e;injection e with e2 e;injection e with e3 _;injection e1 with e1;injection e2 with e2;injection e3 with e3;have e3:sh=sh':=by rw[<-JX sh,e3,JX]
 subst e1 e2 e3;refine(vqk hs hP hk ax av h0 h1 g0 g1 f7 h4).mono ?_;rintro y ⟨F,rfl,hF,_⟩;exact#[F,rfl,hF.2]
theorem vxq{K}(h:∀d∈K,Pin a9 aa rs rs' d):unm (trD K)=true:=by
 cases K with
 |nil=>rfl
 |cons k K=>
  obtain⟨p,q,sh,rfl,_⟩:=(h k X5).ok;rfl
theorem vv8{P K rk}(hs:ss.length<=3)(hP:Prs a9 ss.length rs)(hk:Abk a9)(ax:Prs aa ss.length rs')(av:Abk aa)(hl:K.length<=6000)(hn:K.Nodup)(ly:P∈K)(hK:∀p∈K,Pin a9 aa rs rs' p/\Dn ss rs rs' K rk p):
  Oo m__law_table [(.no,jq ss rs),(.no,jq ss rs'),(.no,P),(.no,.lst K)] (λy=>∃o',y=(o',.bl true)/\True) noX:=by
 have ma:=hP.1;have hrl':=ax.1;have t0:∀a b c,jW (.tup [a,b,c]) (.int 0)=some a:=λ_ _ _=>rfl
 have t1:∀a b c,jW (.tup [a,b,c]) (.int 1)=some b:=λ_ _ _=>rfl
 have hil:vk "list" (.lst K)=some (.bl true):=rfl;have huK:=vxq λd hd=>(hK d hd).1
 have hkK:=kzz K;unfold m__law_table;refine k7 ?_;simp![hil,↓ww0];refine qK (λE ab=>∃(K1 K2:List D) (l5:Option Sd),E=[some (.no,jq ss rs),some (.no,jq ss rs'),some (.no,P),some (.no,.lst K),some (.rt,.dct (trD K1)),l5]/\K=K1++K2/\ab=K2) ?_ ?_ ?_
 ·simp![];exact#[[],K,_,rfl,rfl,rfl]
 ·rintro E d ds ⟨K1,K2,l5,rfl,hKK,rfl⟩;have hd:d∈K:=by rw[hKK];simp
  have hm:d∉K1:=λh=>by
   rw[hKK]at hn;exact(List.nodup_append.mp hn).2.2 d h d X5 rfl
  obtain⟨hp,hg,_⟩:=hK d hd;have hu:=vxq λx hx=>(hK x (hKK▸ll9 _ hx)).1
  have fm:=xx8 (Q7 hp).1 hu;rw[kzz,Xl hm]at fm;have hK1:K1.length<10000:=by have:=congrArg List.length hKK;rw[Xf]at this;lia
  have cb:Kw (trD K1) d (.bl true)=trD (K1++[d]):=by
   rw[show Kw (trD K1) d (.bl true)=trD K1++[(d,.bl true)]from Xi (by rw[kzz];exact hm)];simp[trD]
  obtain⟨p,q,sh,rfl,h0,h1,g0,g1,h4⟩:=hp.ok;have hg:gdF rs p=gdF rs' q:=hg;have c1:decide (-1<=p)=true:=Xb h0;have c2:decide (p<(rs.length:Int))=true:=Xb ⋯;have c3:decide (-1<=q)=true:=Xb g0;have c4:decide (q<(rs'.length:Int))=true:=Xb ⋯;simp![];refine(qvv p q sh).use ?_;intro _ _;simp![fm];refine vku ?_;simp![];refine#[#[_,rfl],_,rfl,((Q7 hp).1),#[by rw[X3];exact hK1,hu],?_];rw[cb];simp![B.neg1,t0,t1,p1,le_ii,lt_ii,c1,c2,c3,c4];refine(vwv ((wX hP hk h0 h1).2.1)).use ?_;intro _ _;simp![t1];refine(vwv ((wX ax av g0 g1).2.1)).use ?_;intro _ _;have hb:(gdF rs p != gdF rs' q)=false:=by rw[hg];simp
  simp![neb,hb];exact#[K1++[_],ds,_,rfl,by rw[hKK];simp,rfl]
 ·rintro E ⟨K1,K2,l5,rfl,hKK,rfl⟩;rw[Xs]at hKK;subst hKK;simp![];refine qK (λE ab=>∃l5,E=[some (.no,jq ss rs),some (.no,jq ss rs'),some (.no,P),some (.no,.lst K),some (.rt,.dct (trD K)),l5]/\∀d∈ab,d∈K) ?_ ?_ ?_
  ·simp![];exact#[_,rfl,λd h=>h]
  ·rintro E d ds ⟨l5,rfl,hd⟩;obtain⟨hp,_,bg⟩:=hK d (hd d X5);simp![];refine QY (λE1 B ds af=>E1=[some (.no,jq ss rs),some (.no,jq ss rs'),some (.no,P),some (.no,.lst K),some (.rt,.dct (trD K)),some (.no,d)]/\∃q0,B=[q0,some (.rt,.dct (trD K))]/\(∀x∈ds,x∈K)/\af=[]) ?_ ?_ ?_
   ·simp![];refine(wv9 hs hP hk ax av hp).via ?_;rintro y ⟨F,rfl,hF⟩;simp![];refine#[_,rfl,λx hx=>?_,trivial];obtain⟨z,hz,i,i0,i1,rfl⟩:=hF x hx;exact(bg z hz i i0 i1).1
   ·rintro E1 B x ds af ⟨rfl,q0,rfl,hx,rfl⟩;have hxK:=hx x X5;have pq:=wzo (Q7 (hK x hxK).1).1 huK;rw[hkK,Xb hxK]at pq;simp![pq];exact#[_,rfl,λy hy=>hx y (lc9 _ hy),trivial]
   ·rintro E1 B af ⟨rfl,q0,rfl,_,rfl⟩;rw[xV];simp only[JJ,back,clr,at',List.drop,List.map_cons,List.map_nil,List.set_cons_zero,List.set_cons_succ];have br:fNe (.lst []) (.lst [])=some (.bl false):=rfl;simp![br];exact#[_,rfl,λy hy=>hd y (lc9 _ hy)]
  ·rintro E ⟨l5,rfl,_⟩;have fm:=xx8 (Q7 (hK P ly).1).1 huK;rw[hkK,Xb ly]at fm;simp![fm];exact#[_,rfl,trivial]
theorem row_holds_ok{P}{w:Lw}(h1:1<=a9.length)(jy:1<=aa.length)(hP:Prs a9 ss.length rs)(hk:Abk a9)(ax:Prs aa ss.length rs')(av:Abk aa)(h:Pin a9 aa rs rs' P)(hl:w.length<=6000)(lp:Sg a9 aa ss w)(hn:¬gp ss rs rs' (pS rs P) (pT rs rs' P) w)(hu:∀u,(∀x∈u,x.1∈ss)->u.length<w.length->gp ss rs rs' (pS rs P) (pT rs rs' P) u):
  Oo m__law_row_holds [(.no,jq ss rs),(.no,jq ss rs'),(.no,P),(.no,.lst (w.map rwI))] (λy=>∃o',y=(o',.bl true)/\True) noX:=by
 have hil:vk "list" (.lst (w.map rwI))=some (.bl true):=rfl;have hpt:∀u:Lw,(∀x∈u,x.1∈ss)->Oo m__law_parts [(.no,jq ss rs),(.no,jq ss rs'),(.no,.lst [stn (pS rs P),stn (pT rs rs' P)]),(.no,.lst (u.map rwI))] _ noX:=λu hu=>qq9 hP hk ax av h.two.a h.two.b hu
 unfold m__law_row_holds;refine k7 ?_;simp![hil];refine qK (λE ab=>∃(w2:Lw) (l4:Option Sd),E=[some (.no,jq ss rs),some (.no,jq ss rs'),some (.no,P),some (.no,.lst (w.map rwI)),l4,none,none]/\(∀x∈w2,x∈w)/\ab=w2.map rwI) ?_ ?_ ?_
 ·simp![];exact#[w,_,rfl,λx hx=>hx,rfl]
 ·rintro E d ds ⟨w2,l4,rfl,su,hr⟩;cases w2 with
  |nil=>cases hr
  |cons x w2=>
   rw[List.map_cons]at hr;injection hr with e1 e2;subst e1 e2;obtain⟨z,c⟩:=x;obtain⟨hz,c0,c1⟩:=lp _ (su (z,c) X5);have c0:0<=c:=c0;have c1:c<=mxF a9+mxF aa:=c1;have hz:(ss.any λw=>w==z)=true:=List.any_eq_true.mpr #[z,hz,beq_self_eq_true _];have i1:vk "tuple" (rwI (z,c))=some (.bl true):=rfl;have i2:vk "str" (.str z)=some (.bl true):=rfl;have i3:fNe (.int 2) (.int 2)=some (.bl false):=rfl;have i4:kz (rwI (z,c))=some (.int 2):=rfl;have d1:decide (0<=c)=true:=Xb c0;have d2:decide (c<=mxF a9+mxF aa)=true:=Xb c1;simp![i1,i2,i3,i4,p0,p1,vwc,hz];refine(B.whole_int c).use ?_;intro _ _;simp![p1,le_ii,d1];refine(kvx h1 hP).use ?_;intro _ _;simp![d1];refine(kvx jy ax).use ?_;intro _ _;simp![le_ii,d2];exact#[w2,_,rfl,λx hx=>su x (lc9 _ hx),rfl]
 ·rintro E ⟨w2,l4,rfl,su,hr⟩;simp![];refine(vki hP hk ax av h).via ?_;rintro _ rfl;simp![];refine qK (λE ab=>∃(k:Int) (o5:Own) (l6:Option Sd),E=[some (.no,jq ss rs),some (.no,jq ss rs'),some (.no,P),some (.no,.lst (w.map rwI)),l4,some (o5,.lst [stn (pS rs P),stn (pT rs rs' P)]),l6]/\0<=k/\k<=w.length/\ab=k6 k w.length) ?_ ?_ ?_
  ·simp![];refine#[#[by unfold z6;simp;lia,by unfold big;lia],0,_,_,rfl,⋯,⋯,rfl]
  ·rintro E d ds ⟨k,o5,l6,rfl,k0,k1,hr⟩;obtain⟨l0,rfl,rfl⟩:=xX k1 hr;have hc:J3 (w.map rwI) none (some k)=(w.take k.toNat).map rwI:=by rw[C.cut_to k0 (by rw[X3];lia),List.map_take]
   have gq:=qxd (o:=.no) (xs:=w.map rwI) (lo:=none) (hi:=some k) ⋯;rw[hc]at gq;have hut:∀x∈w.take k.toNat,x.1∈ss:=λx hx=>(lp x (List.mem_of_mem_take hx)).1
   have hg:=hu (w.take k.toNat) hut (by rw[Ys];lia);have ll:=hpt _ hut;rw[show(gdF rs (rmO (run ss rs (pS rs P) (w.take k.toNat))) != gdF rs' (rmO (run ss rs' (pT rs rs' P) (w.take k.toNat))))=false by unfold gp at hg;rw[hg];simp]at ll;simp![gq];refine ll.use ?_;intro _ _;simp![];exact#[k+1,_,_,rfl,⋯,⋯,rfl]
  ·rintro E ⟨k,o5,l6,rfl,k0,k1,hr⟩;have ll:=hpt w λx hx=>(lp x hx).1
   rw[show(gdF rs (rmO (run ss rs (pS rs P) w)) != gdF rs' (rmO (run ss rs' (pT rs rs' P) w)))=true by simpa [gp]using hn]at ll;simp![];refine ll.use ?_;intro _ _;exact#[_,rfl,trivial]
end
end Y
namespace Nk42
open PySem Q
def m_is_small : Fn:= J.m_is_small
def m_read_by : Fn:= C.m_read_by
def m_is_good_in : Fn:= B.m_is_good_in
def m_agrees : Fn:= B.m_agrees
def m_keepers_in : Fn:= B.m_keepers_in
def m_standing_in : Fn:= B.m_standing_in
def m_first_standings : Fn:= B.m_first_standings
def m_names_of : Fn:= B.m_names_of
def m_held_by_both : Fn:= B.m_held_by_both
def m_room_of : Fn:= B.m_room_of
def m_pair_of : Fn:= B.m_pair_of
def m_read_by_both : Fn:= B.m_read_by_both
def m_steps_from : Fn:= U.m_steps_from
def m_least_beside : Fn:= U.m_least_beside
def m_parting_row : Fn:= U.m_parting_row
def m_steps_to : Fn:= U.m_steps_to
def m_searched : Fn:= U.m_searched
noncomputable def m_compared:Fn:=fn 3
  (j7 (sIf (tE (cF2 (pu2 fNe) (j9 (vV 0) (C9 0)) (j9 (vV 1) (C9 0)))) qxm k4)
  (j7 (sIf (tOr (tNot (tEQ (vE (jx m_is_small [(cV 0)])))) (tNot (tEQ (vE (jx m_is_small [(cV 1)]))))) qxm k4)
  (jJ (jx m_searched [(cV 0),(cV 1),(cIf (tE (cF2 (f2First fIsNon) (vV 2) (vE (cC .non)))) (cC (.tup [(.int 0),(.int 0),(.tup [])])) (cV 2))]))))
def m__law_cell_at : Fn:= B.m__law_cell_at
def m__law_whole : Fn:= B.m__law_whole
def m__law_stream : Fn:= B.m__law_stream
def m__law_signs : Fn:= B.m__law_signs
def m__law_fills : Fn:= B.m__law_fills
def m__law_case : Fn:= B.m__law_case
def m__law_plain : Fn:= B.m__law_plain
def m__law_chain : Fn:= Y.m__law_chain
def m__law_machine : Fn:= Y.m__law_machine
def m__law_read : Fn:= B.m__law_read
def m__law_shared : Fn:= B.m__law_shared
def m__law_keepers : Fn:= B.m__law_keepers
def m__law_pair : Fn:= B.m__law_pair
def m__law_is_pair : Fn:= B.m__law_is_pair
def m__law_firsts : Fn:= Y.m__law_firsts
def m__law_behind_all : Fn:= Y.m__law_behind_all
def m__law_good : Fn:= Y.m__law_good
def m__law_table : Fn:= Y.m__law_table
def m__law_most : Fn:= Y.m__law_most
def m__law_parts : Fn:= Y.m__law_parts
def m__law_row_holds : Fn:= Y.m__law_row_holds
def jqo:Fn:=fn 4
  (j7 (sIf (tE (cF2 (pu2 fEq) (vV 3) (C9 0))) (jJ (qv1 m_compared [(cV 0),(cV 1)])) k4)
  (j7 (sIf (tE (cF2 (pu2 fEq) (vV 3) (C9 1))) (jJ (jx m_compared [(cV 0),(cV 1),(cC .non)])) k4)
  (jJ (jx m_compared [(cV 0),(cV 1),(cV 2)]))))
noncomputable def WV:Fn:=fn 9
  (j7 (jv 5 (jx m__law_firsts [(cV 0),(cV 1),(cV 2)]))
  (j7 (jv 6 (cF2 jX (vE (cF2 jX (vE (jx m__law_most [(cV 0)])) (vE (jx m__law_most [(cV 1)])))) (C9 1)))
  (j7 (jv 7 (kq .rt []))
  (j7 (kW (itS (cV 3)) (.n 8) (j7 (sIf (tAnd (tE (cF2 (pu2 fLe) (vE (cF1 (pu1 kz) (vV 7))) (vV 4))) (tEQ (vE (ZY m__law_parts [(vV 0),(vV 1),(vV 5),(vV 7)])))) (jJ (cC (.bl true))) k4)
  (j7 (v4 v3 7 (kY .no [(cH (j9 (j9 (vV 0) (C9 0)) (vE (cF2 (pu2 kJ) (vV 8) (vE (cF1 (pu1 kz) (j9 (vV 0) (C9 0)))))))),(cF2 (pu2 kJ) (vE (cF2 (pu2 vz) (vV 8) (C9 3))) (vV 6))]))
  (sIf (tE (cF2 (pu2 fGt) (vE (cF1 (pu1 kz) (vV 7))) (vE (cF2 (pu2 xxb) (vV 4) (vE (cF2 jX (C9 1) (vE (cF2 (pu2 kJ) (vE (cF2 (pu2 vz) (vV 8) (C9 57))) (C9 60))))))))) (jv 7 (kq .rt [])) k4))))
  (jJ (cC (.bl false)))))))
noncomputable def m_law:Fn:=fn 12
  (j7 (jv 1 (jx m__law_signs [(jx m__law_cell_at [(cV 0),(cC (.int 0))])]))
  (j7 (jv 2 (jx m__law_machine [(jx m__law_cell_at [(cV 0),(cC (.int 1))]),(cV 1)]))
  (j7 (jv 3 (jx m__law_cell_at [(cV 0),(cC (.int 2))]))
  (j7 (sIf (tE (cF2 (pu2 fEq) (vE (cF2 (pu2 kJ) (vE (jx m__law_cell_at [(cV 0),(cC (.int 3))])) (C9 4))) (C9 3))) (jv 3 (jx m__law_cell_at [(cV 0),(cC (.int 1))])) k4)
  (j7 (jv 4 (jx m__law_machine [(cV 3),(cV 1)]))
  (j7 (jv 5 (kq .rt [(jx m__law_machine [(jx m__law_cell_at [(cV 0),(cC (.int 1))]),(cV 1)]),(jx m__law_machine [(cV 3),(cV 1)])]))
  (j7 (jv 6 (kY .no [(cC (.int 0)),(cC (.int 0)),(kY .no [])]))
  (j7 (jv 7 (cF2 (pu2 kJ) (vE (cF2 (pu2 vz) (vE (jx m__law_cell_at [(cV 0),(cC (.int 3))])) (C9 4))) (C9 5)))
  (j7 (sIf (tE (cF2 (pu2 fGt) (vV 7) (C9 2))) (j7 (jv 8 (cF2 (pu2 Wq) (vE (cF2 (pu2 kJ) (vE (jx m__law_cell_at [(cV 0),(cC (.int 4))])) (vE (cF2 jX (vE (cF1 (pu1 kz) (j9 (vV 2) (C9 1)))) (C9 1))))) (C9 1)))
  (j7 (jv 9 (cF2 (pu2 Wq) (vE (cF2 (pu2 kJ) (vE (jx m__law_cell_at [(cV 0),(cC (.int 5))])) (vE (cF2 jX (vE (cF1 (pu1 kz) (j9 (vV 4) (C9 1)))) (C9 1))))) (C9 1)))
  (j7 (jv 10 (cH (j9 (vE (jx m__law_stream [(cF2 (pu2 vz) (vE (jx m__law_cell_at [(cV 0),(cC (.int 5))])) (C9 7)),(cC (.int 1))])) (C9 0))))
  (jv 6 (kY .no [(cV 8),(cV 9),(jx m__law_shared [(cV 10),(jx m__law_keepers [(cV 2),(cV 8)]),(jx m__law_keepers [(cV 4),(cV 9)])])]))))) k4)
  (j7 (jv 11 (jx jqo [(cV 2),(cV 4),(cV 6),(cV 7)]))
  (j7 (sIf (tOr (tNot (tEQ (vE (cF1 (pu1 (vk "tuple")) (vV 11))))) (tOr (tE (cF2 (pu2 fNe) (vE (cF1 (pu1 kz) (vV 11))) (C9 2))) (tE (cF2 (pu2 fNe) (vE (kq .rt [(cV 2),(cV 4)])) (vV 5))))) (jJ (cC (.bl false))) k4)
  (j7 (sIf (tE (cF2 (pu2 fEq) (j9 (vV 11) (C9 0)) (vE (cC (.str "alike"))))) (j7 (sIf (tNot (tEQ (vE (jx m__law_table [(cV 2),(cV 4),(cV 6),(cH (j9 (vV 11) (C9 1)))])))) (jJ (cC (.bl false))) k4)
  (jJ (Wx (vE (jx WV [(cV 2),(cV 4),(cV 6),(cSl (vV 0) (some (C9 6)) (some (C9 70))),(cC (.int 60))]))))) k4)
  (j7 (sIf (tOr (tE (cF2 (pu2 fNe) (j9 (vV 11) (C9 0)) (vE (cC (.str "apart"))))) (tNot (tEQ (vE (jx m__law_row_holds [(cV 2),(cV 4),(cV 6),(cH (j9 (vV 11) (C9 1)))]))))) (jJ (cC (.bl false))) k4)
  (jJ (Wx (vE (jx WV [(cV 2),(cV 4),(cV 6),(cSl (vV 0) (some (C9 6)) (some (C9 70))),(cF2 (pu2 Wq) (vE (cF1 (pu1 kz) (j9 (vV 11) (C9 1)))) (C9 1))])))))))))))))))))
end Nk42
namespace Nk42
open Q PySem C B J U Y
theorem xjr:m__law_cell_at=B.m__law_cell_at:=rfl
theorem wqu:m__law_signs=B.m__law_signs:=rfl
theorem vx1:m__law_stream=B.m__law_stream:=rfl
theorem vx2:m__law_shared=B.m__law_shared:=rfl
theorem vkt:m__law_keepers=B.m__law_keepers:=rfl
theorem vks:m__law_machine=Y.m__law_machine:=rfl
theorem xq5:m__law_firsts=Y.m__law_firsts:=rfl
theorem xxc:m__law_most=Y.m__law_most:=rfl
theorem xw8:m__law_parts=Y.m__law_parts:=rfl
theorem wqt:m__law_table=Y.m__law_table:=rfl
theorem e_holds:m__law_row_holds=Y.m__law_row_holds:=rfl
theorem wvo:m_compared=Y.m_compared:=rfl
theorem wjf{f cs e}{E:En}{P X}:Eo (qv1 f cs (e::E)) P X=Eo (vY cs (e::E)) (λE xs=>Oe f (letAll (xs++[(.no,.non)])) E P X) X:=by
 unfold qv1;rw[jZ]
 congr 1
 funext E xs;unfold Oe Oo;cases f _ with|none=>ac_rfl|some r=>cases r<;>ac_rfl
section
variable {a9 aa:List Int}{ss:List Str}{rs rs':List D}
inductive RpI (ss:List Str)(rs rs':List D)(P cl st:D)(m M:Int):En->List D->Prop
 |mk (u:Lw) (c2:List Int) {o6:Own} {l8:Option Sd} {ab:List D} (h1:∀x∈u,x.1∈ss) (h2:u.length+c2.length<=64) (h3:ab=c2.map D.int):RpI ss rs rs' P cl st m M [some (.no,jq ss rs),some (.no,jq ss rs'),some (.no,P),some (.no,cl),some (.no,.int m),some (.rt,st),some (o6,.int M),some (.rt,.lst (u.map rwI)),l8] ab
theorem jzj{P}{cs:List Int}{m}(hs:1<=ss.length)(h1:1<=a9.length)(jy:1<=aa.length)(hP:Prs a9 ss.length rs)(hk:Abk a9)(ax:Prs aa ss.length rs')(av:Abk aa)(h:Pin a9 aa rs rs' P)(hl:cs.length<=64)(hu:∀u,(∀x∈u,x.1∈ss)->(u.length:Int)<=m->gp ss rs rs' (pS rs P) (pT rs rs' P) u):
  Oo WV [(.no,jq ss rs),(.no,jq ss rs'),(.no,P),(.no,.lst (cs.map D.int)),(.no,.int m)] (λy=>∃o',y=(o',.bl false)/\True) noX:=by
 have hM:0<=mxF a9/\0<=mxF aa:=by
  have a:=vwf (Xn (l:=a9) (n:=0) ⋯);have b:=(hk _ (Xn (l:=a9) (n:=0) ⋯)).1;have c:=vwf (Xn (l:=aa) (n:=0) ⋯);have d:=(av _ (Xn (l:=aa) (n:=0) ⋯)).1;lia
 unfold WV;refine k7 ?_;simp![];refine(vki hP hk ax av h).via ?_;rintro _ rfl;simp![];refine(kvx h1 hP).use ?_;intro _ _;simp![];refine(kvx jy ax).use ?_;intro _ _;simp![];generalize hMM:mxF a9+mxF aa+1=M;refine qK (RpI ss rs rs' P (.lst (cs.map D.int)) (.lst [stn (pS rs P),stn (pT rs rs' P)]) m M) ?_ ?_ ?_
 ·simp![];exact .mk [] cs (λ_ h=>nomatch h) (by simp;lia) rfl
 ·rintro E d ds hh;obtain @⟨u,c2,o6,l8,_,hus,hul,hr⟩:=hh;cases c2 with
  | nil=>cases hr
  | cons c c2=>
   injection hr with e1 e2;subst e1 e2;rw[Xm]at hul;have u1:=Xx c (show(0:Int)<ss.length by lia);have esg:jW (sL ss) (.int (c % ss.length))=some (.str (ss[(c % ss.length).toNat]'⋯)):=wY (Y9 c (show(ss.length:Int)≠0 by lia)) (by rw[Xg,X1 ⋯];rfl);have uq:ss[(c % ss.length).toNat]'⋯∈ss:=Xn _;have m2:=mod_i (a:=c / 3) (b:=M) ⋯;generalize ss[(c % ss.length).toNat]'⋯=z at esg uq;generalize c / 3 % M=n at m2;have hus2:∀x∈u++[(z,n)],x.1∈ss:=λx hx=>by
    rcases aA hx with hx|hx
    ·exact hus x hx
    ·rw[aC hx];exact uq
   have e7:(u++[(z,n)]).map rwI=u.map rwI++[rwI (z,n)]:=by rw[X7];rfl
   generalize hB:j7 (sIf _ _ _) _=Bd;simp![];subst hB;refine QJ (λE=>E=[some (.no,jq ss rs),some (.no,jq ss rs'),some (.no,P),some (.no,.lst (cs.map D.int)),some (.no,.int m),some (.rt,.lst [stn (pS rs P),stn (pT rs rs' P)]),some (o6,.int M),some (.rt,.lst (u.map rwI)),some (.no,.int c)]) ?_ ?_
   ·by_cases hb:(u.length:Int)<=m
    ·have hg:=hu u hus hb;have ll:=qq9 hP hk ax av h.two.a h.two.b hus;rw[show(gdF rs (rmO (run ss rs (pS rs P) u)) != gdF rs' (rmO (run ss rs' (pT rs rs' P) u)))=false by unfold gp at hg;rw[hg];simp]at ll;have hd:decide ((u.length:Int)<=m)=true:=Xb hb;simp![le_ii,hd];refine ll.use ?_;intro _ _;simp![]
    ·have hd:decide ((u.length:Int)<=m)=false:=Xl hb;simp![le_ii,hd]
   rintro E rfl;simp![];refine vw rfl ?_;simp![p0,(mod_i (a:=c) (b:=(ss.length:Int)) ⋯),esg,m2];refine#[_,rfl,by rw[X3];lia,?_];rw[<-e7];simp![xvo];generalize (if 1+c / 57 % 60<m then 1+c / 57 % 60 else m)=mm
   by_cases hb:mm<((u++[(z,n)]).length:Int)
   ·rw[Xd (Xb hb)];exact .mk [] c2 (λ_ h=>nomatch h) (by simp;lia) rfl
   ·rw[Xi (by simpa using hb)];exact .mk (u++[(z,n)]) c2 hus2 (by simp;lia) rfl
 ·rintro E ⟨u,c2,hus,hul,hr⟩;simp![];exact#[_,rfl,trivial]
end
section
variable {a9 aa:List Int}{ss:List Str}{rs rs':List D}
theorem wji{P way}(hs:ss.length<=3)(nq:a9.length<=12)(jd:aa.length<=12)(h1:1<=a9.length)(jy:1<=aa.length)(hP:Prs a9 ss.length rs)(hk:Abk a9)(ax:Prs aa ss.length rs')(av:Abk aa)(h:Pin a9 aa rs rs' P)(hw:way<=2->P=P0):
  Oo jqo [(.no,jq ss rs),(.no,jq ss rs'),(.no,P),(.no,.int way)] (λy=>∃d,y=(.no,d)/\xwi a9 aa ss rs rs' P d) noX:=by
 have cmp:∀d,_\/d=P->Oo Y.m_compared [_,_,_] _ noX:=λd hd=>qk9 hs nq jd h1 jy hP hk ax av h hd
 unfold jqo;refine k7 ?_
 by_cases w0:way=0
 ·have hb:(way==0)=true:=by simp[w0]
  simp![eqi hb,↓wjf];exact(cmp .non (.inl #[rfl,hw ⋯])).via λy hy=>hy
 ·have hb:_=false:=Xu w0
  by_cases w1:way=1
  ·have n6:(way==1)=true:=by simp[w1]
   simp![eqi hb,eqi n6];exact(cmp .non (.inl #[rfl,hw ⋯])).via λy hy=>hy
  ·have n6:_=false:=Xu w1;simp![eqi hb,eqi n6];exact(cmp P (.inr rfl)).via λy hy=>hy
end
theorem xjx(ns:List Int)(lo hi):∃cells:List Int,J3 (ns.map D.int) lo hi=cells.map D.int/\cells.length<=ns.length:=by
 unfold J3;rw[<-List.map_drop,<-List.map_take];exact#[_,rfl,by rw[Ys,List.length_drop];lia]
theorem wzw(ns)(hn:ns.length<=63):Oo m_law [(.no,iL ns)] (λy=>y.2=.bl true) noX:=by
 have cell:∀k:Nat,Oo B.m__law_cell_at [(.no,iL ns),(.no,.int k)] (λy=>∃o',y=(o',.int (wJ ns k))/\True) noX:=λk=>wqz ns k ⋯
 unfold m_law;simp only[xjr,wqu,vks,vx1,vx2,vkt,wqt,e_holds];refine k7 ?_;simp![];refine(cell 0).use ?_;intro o0 _;simp![];refine(qxe _).use ?_;rintro ss ⟨mi,hs3⟩;simp![];refine(cell 1).use ?_;intro o1 _;obtain⟨y1,⟨rs,rfl,a9,l0,hk12,mr,ig,hP⟩,hdet⟩:=vzj (kqa (wJ ns 1) ss mi hs3);simp![];refine hdet.via ?_;rintro _ rfl;generalize hR:j7 (sIf (tE _) _ _) _=R1;simp![];refine(cell 2).use ?_;intro o2 _;simp![];subst hR;refine QJ (λE=>∃(o:Own) (c:Int),E=[some (.no,iL ns),some (.no,sL ss),some (.no,jq ss rs),some (o,.int c),none,none,none,none,none,none,none,none]) ?_ ?_
 ·simp![];refine(cell 3).use ?_;intro o3 _
  by_cases h:wJ ns 3 % 4=3
  ·have hb:(wJ ns 3 % 4==3)=true:=by simp[h]
   simp![eqi hb];refine(cell 1).use ?_;intro o1 _;simp![];exact#[_,_,rfl]
  ·have hb:(wJ ns 3 % 4==3)=false:=Xu h;simp![eqi hb];exact#[_,_,rfl]
 rintro E ⟨oc,c,rfl⟩;obtain⟨y2,⟨rs',rfl,aa,hkl',hk12',hk0',hk3',ax⟩,hdet'⟩:=vzj (kqa c ss mi hs3);have ma:=hP.1;have hrl':=ax.1;simp![];refine hdet'.via ?_;rintro _ rfl;simp![];refine(cell 1).use ?_;intro _ _;simp![];refine hdet.via ?_;rintro _ rfl;generalize hR:j7 (sIf (tE (cF2 (pu2 fGt) _ _)) _ _) _=R1;simp![];refine hdet'.via ?_;rintro _ rfl;simp![];refine(cell 3).use ?_;intro _ _;simp![];subst hR;generalize wJ ns 3 / 4 % 5=way;have hsh0:∀a b,xq8 a b []:=λa b=>#[λp hp=>(nomatch hp),Xr,Xr]
 refine QJ (λE=>∃(P:D) (l8 l9 i5:Option Sd),E=[some (.no,iL ns),some (.no,sL ss),some (.no,jq ss rs),some (.no,.int c),some (.no,jq ss rs'),some (.rt,.lst [jq ss rs,jq ss rs']),some (.no,P),some (.dp,.int way),l8,l9,i5,none]/\Pin a9 aa rs rs' P/\(way<=2->P=P0)) ?_ ?_
 ·by_cases hw:2<way
  ·have hd:decide (2<way)=true:=Xb hw;have m0:=mod_i (a:=wJ ns 4) (b:=(rs.length:Int)+1) ⋯;have m1:=mod_i (a:=wJ ns 5) (b:=(rs'.length:Int)+1) ⋯;have a0:=Y9 (wJ ns 4) (show(rs.length:Int)+1≠0 by lia);have a1:=Xx (wJ ns 4) (show(0:Int)<(rs.length:Int)+1 by lia);have b0:=Y9 (wJ ns 5) (show(rs'.length:Int)+1≠0 by lia);have b1:=Xx (wJ ns 5) (show(0:Int)<(rs'.length:Int)+1 by lia);generalize wJ ns 4 % ((rs.length:Int)+1)=w0 at *;generalize wJ ns 5 % ((rs'.length:Int)+1)=w1 at *;obtain⟨ka,_,kc,kd,_⟩:=wX hP ig (show -1<=w0 - 1 by lia) ⋯;obtain⟨ka',_,kc',kd',_⟩:=wX ax hk3' (show -1<=w1 - 1 by lia) ⋯;simp![gt_ii,hd];refine(cell 4).use ?_;intro _ _;simp![p1,m0];refine(cell 5).use ?_;intro _ _;simp![p1,m1];refine(cell 5).use ?_;intro _ _;simp![];refine(jxk _ 1 ⋯ ⋯).use ?_;intro xs hx;have hxl:=hx.1;obtain⟨v0,x0,_⟩:=ixI xs _ hx.2 0 ⋯ ⋯;simp![x0];refine(jvl ka).use ?_;intro _ _;simp![];refine(jvl ka').use ?_;intro _ _;simp![];refine(qxi v0 _ _ kc ⋯ kc' ⋯).use ?_;rintro sh ⟨f7,hshl⟩;simp![];exact#[_,_,_,_,rfl,vzd hP ig ax hk3' ⋯ ⋯ ⋯ ⋯ f7 ⋯,λh=>absurd h ⋯]
  ·have hd:decide (2<way)=false:=Xl hw;simp![gt_ii,hd];exact#[_,_,_,_,rfl,vzd (sh:=[]) hP ig ax hk3' ⋯ ⋯ ⋯ ⋯ (hsh0 _ _) ⋯,λ_=>rfl]
 rintro E ⟨P,l8,l9,i5,rfl,ij,hway⟩;have lr:(D.lst [jq ss rs,jq ss rs']).flat 40=true:=by
  show D.flats 39 [jq ss rs,jq ss rs']=true;refine x9 λd hd=>?_
  simp only[Yq,Y7,or_false]at hd;rcases hd with rfl|rfl
  ·exact kqi hP 31
  ·exact kqi ax 31
 obtain⟨cs,ecs,dv⟩:=xjx ns (some 6) (some 70);have gq:fSl (Own.no,iL ns) (some 6) (some 70)=some (.rt,.lst (cs.map D.int)):=by rw[show iL ns=.lst (ns.map D.int)from rfl,qxd (o:=.no) ⋯,ecs]
 simp![];refine(wji hs3 hk12 hk12' l0 hkl' hP ig ax hk3' ij hway).via ?_;rintro y ⟨d,rfl,ht⟩;have n2:fNe (.int 2) (.int 2)=some (.bl false):=rfl;rcases ht with⟨w,rfl,se,lp,hnp,hmin⟩|⟨K,rk,rfl,hKl,hKn,ly,hK⟩
 ·have it:vk "tuple" (.tup [.str "apart",.lst (w.map rwI)])=some (.bl true):=rfl;have il:kz (.tup [.str "apart",.lst (w.map rwI)])=some (.int 2):=rfl;have e1:fEq (.str "apart") (.str "alike")=some (.bl false):=rfl;have e2:fNe (.str "apart") (.str "apart")=some (.bl false):=rfl;simp![it,il,n2,qjo lr,p0,p1,e1,e2];refine(row_holds_ok l0 hkl' hP ig ax hk3' ij se lp hnp hmin).use ?_;intro _ _;simp![gq,p1];refine(jzj mi l0 hkl' hP ig ax hk3' ij ⋯ λu hu hul=>hmin u hu ⋯).use ?_;intro _ _;simp![]
 ·have it:vk "tuple" (.tup [.str "alike",.lst K])=some (.bl true):=rfl;have il:kz (.tup [.str "alike",.lst K])=some (.int 2):=rfl;have e1:fEq (.str "alike") (.str "alike")=some (.bl true):=rfl;simp![it,il,n2,qjo lr,p0,p1,e1];refine(vv8 hs3 hP ig ax hk3' hKl hKn ly hK).use ?_;intro _ _;simp![gq];refine(jzj mi l0 hkl' hP ig ax hk3' ij ⋯ λu hu _=>qxl (K:=K) (rk:=λ_=>0) (n:=u.length+1) hP ig ax hk3' (λp hp=>(hK p hp).1.ok) (λp hp _=>#[(hK p hp).2.1,λz hz i i0 i1=>#[((hK p hp).2.2 z hz i i0 i1).1,Y6 _]]) u hu ly ⋯ ij.two ij.rl).use ?_;intro _ _;simp![]
theorem law_true(ns:List Int)(hl:ns.length<=63)(hb:∀i∈ns,Builtin.Int.intBits i<=1048576):∃E o,m_law [(.no,.lst (ns.map D.int))]=some (.ok E (o,.bl true)):=by
 obtain _:=(wzw ns hl).out
 grind
end Nk42
namespace Nk42
open PySem L2 L3 Q
def top(i:Nat):Stmt:=PySem.Challenge.pw_freshrooms_k42_whole_alike_or_apart.main.body.getD i (.Pass #[0,0,0,0])
abbrev jz5:Stmt:=top 7
abbrev kjl:Stmt:=top 8
abbrev jw1:Stmt:=top 22
abbrev kv7:Stmt:=top 12
abbrev jw0:Stmt:=top 21
abbrev jve:Stmt:=top 18
abbrev jq3:Stmt:=top 14
abbrev jz4:Stmt:=top 20
abbrev jqy:Stmt:=top 17
abbrev kjk:Stmt:=top 19
abbrev kjm:Stmt:=top 16
abbrev jqw:Stmt:=top 15
abbrev jvz:Stmt:=top 13
abbrev jqx:Stmt:=top 28
abbrev jvf:Stmt:=top 27
abbrev jz2:Stmt:=top 26
abbrev jz3:Stmt:=top 25
abbrev jz6:Stmt:=top 24
abbrev jv2:Stmt:=top 30
abbrev jw2:Stmt:=top 31
abbrev jvg:Stmt:=top 32
abbrev jw4:Stmt:=top 33
abbrev jw7:Stmt:=top 34
abbrev jx9:Stmt:=top 35
abbrev jw5:Stmt:=top 36
abbrev jw8:Stmt:=top 37
abbrev jqz:Stmt:=top 38
abbrev jx5:Stmt:=top 39
abbrev jvh:Stmt:=top 40
abbrev jv0:Stmt:=top 41
abbrev jx6:Stmt:=top 42
abbrev jv1:Stmt:=top 43
abbrev jvi:Stmt:=top 44
abbrev jq4:Stmt:=top 45
abbrev jx8:Stmt:=top 47
abbrev jw3:Stmt:=top 46
abbrev jx7:Stmt:=top 48
abbrev jw6:Stmt:=top 49
abbrev s__law_row_holds:Stmt:=top 50
abbrev jx4:Stmt:=top 51
abbrev jqd:Stmt:=top 52
abbrev wjo:Stmt:=top 53
theorem qj3:FnScope ["plain"] ["plain"] (jV jz5):=mkS
set_option tactic.hygienic true in
theorem sc_read_by:FnScope ["plain","standing","sign","name","names","cases","case","held"] ["plain","standing","sign","name"] (jV kjl):=mkS
theorem kv5:FnScope ["plain","room"] ["plain","room"] (jV jw1):=mkS
theorem qxk:FnScope ["one","other","pair"] ["one","other","pair"] (jV kv7):=mkS
theorem kv4:FnScope ["plain","room"] ["plain","room"] (jV jw0):=mkS
theorem kkn:FnScope ["room","names"] ["room","names"] (jV jve):=mkS
theorem sc_first_standings:FnScope ["one","other","pair","own","shared","names","j"] ["one","other","pair"] (jV jq3):=mkS
theorem qj2:FnScope ["standing"] ["standing"] (jV jz4):=mkS
theorem sc_held_by_both:FnScope ["standings","ours"] ["standings"] (jV jqy):=mkS
theorem qve:FnScope ["standing"] ["standing"] (jV kjk):=mkS
theorem sc_pair_of:FnScope ["standings","ours","theirs","shared"] ["standings"] (jV kjm):=mkS
theorem kjg:FnScope ["one","other","standings","sign","name"] ["one","other","standings","sign","name"] (jV jqw):=mkS
theorem sc_steps_from:FnScope ["one","other","pair","standings","names","steps","sign","name"] ["one","other","pair"] (jV jvz):=mkS
theorem sc_least_beside:FnScope ["names","least"] ["names"] (jV jqx):=mkS
theorem sc_parting_row:FnScope ["one","other","first","steps","standings","row","sign","place","held","name"] ["one","other","first","steps"] (jV jvf):=mkS
theorem sc_steps_to:FnScope ["ways","pair","steps","way"] ["ways","pair"] (jV jz2):=mkS
theorem sc_searched:FnScope ["one","other","first","ways","found","done","pair","sign","name","later"] ["one","other","first"] (jV jz3):=mkS
theorem qj4:FnScope ["one","other","pair"] ["one","other","pair"] (jV jz6):=mkS
theorem kjj:FnScope ["_law_script","_law_k"] ["_law_script","_law_k"] (jV jv2):=mkS
theorem kv6:FnScope ["_law_found"] ["_law_found"] (jV jw2):=mkS
theorem sc__law_stream:FnScope ["_law_cell","_law_many","_law_found","_law_k","_law_number"] ["_law_cell","_law_many"] (jV jvg):=mkS
theorem sc__law_signs:FnScope ["_law_cell","_law_letters","_law_xs","_law_base","_law_at","_law_found","_law_k"] ["_law_cell"] (jV jw4):=mkS
theorem sc__law_fills:FnScope ["_law_number","_law_need","_law_free","_law_pool","_law_found","_law_k"] ["_law_number","_law_need","_law_free"] (jV jw7):=mkS
theorem sc__law_case:FnScope ["_law_number","_law_sizes","_law_free","_law_rooms","_law_to"] ["_law_number","_law_sizes","_law_free"] (jV jx9):=mkS
theorem sc__law_plain:FnScope ["_law_cell","_law_signs_here","_law_xs","_law_many","_law_most_here","_law_sizes","_law_rooms","_law_at","_law_room","_law_steps","_law_s","_law_cases","_law_i"] ["_law_cell","_law_signs_here"] (jV jw5):=mkS
theorem sc__law_chain:FnScope ["_law_cell","_law_signs_here","_law_xs","_law_many","_law_sizes","_law_rooms","_law_at","_law_room","_law_steps","_law_s","_law_cases","_law_i","_law_number","_law_free","_law_to"] ["_law_cell","_law_signs_here"] (jV jw8):=mkS
theorem kjh:FnScope ["_law_cell","_law_signs_here"] ["_law_cell","_law_signs_here"] (jV jqz):=mkS
theorem sc__law_read:FnScope ["_law_plain_here","_law_standing","_law_sign","_law_name","_law_room","_law_names","_law_keepers_here","_law_good_here","_law_steps","_law_at","_law_case_here"] ["_law_plain_here","_law_standing","_law_sign","_law_name"] (jV jx5):=mkS
theorem sc__law_shared:FnScope ["_law_number","_law_many","_law_size","_law_free","_law_found","_law_i"] ["_law_number","_law_many","_law_size"] (jV jvh):=mkS
theorem kji:FnScope ["_law_plain_here","_law_room"] ["_law_plain_here","_law_room"] (jV jv0):=mkS
theorem sc__law_pair:FnScope ["_law_here","_law_there","_law_names","_law_rooms","_law_k","_law_standing","_law_shared_here"] ["_law_here","_law_there"] (jV jx6):=mkS
theorem sc__law_is_pair:FnScope ["_law_found","_law_due","_law_part"] ["_law_found","_law_due"] (jV jv1):=mkS
theorem sc__law_firsts:FnScope ["_law_one","_law_other","_law_pair_here","_law_p","_law_q","_law_shared_here","_law_here","_law_partner","_law_i","_law_j","_law_there","_law_free","_law_standings"] ["_law_one","_law_other","_law_pair_here"] (jV jvi):=mkS
theorem sc__law_behind_all:FnScope ["_law_one","_law_other","_law_pair_here","_law_here","_law_there","_law_known","_law_standing","_law_name","_law_found","_law_sign","_law_after"] ["_law_one","_law_other","_law_pair_here"] (jV jq4):=mkS
theorem kwt:FnScope ["_law_plain_here","_law_room"] ["_law_plain_here","_law_room"] (jV jx8):=mkS
theorem sc__law_table:FnScope ["_law_one","_law_other","_law_pair_here","_law_table_here","_law_known","_law_here"] ["_law_one","_law_other","_law_pair_here","_law_table_here"] (jV jw3):=mkS
theorem kws:FnScope ["_law_plain_here"] ["_law_plain_here"] (jV jx7):=mkS
theorem sc__law_parts:FnScope ["_law_one","_law_other","_law_standings","_law_row","_law_here","_law_there","_law_sign","_law_name","_law_rooms","_law_k","_law_standing"] ["_law_one","_law_other","_law_standings","_law_row"] (jV jw6):=mkS
theorem sc__law_row_holds:FnScope ["_law_one","_law_other","_law_pair_here","_law_row","_law_part","_law_standings","_law_many"] ["_law_one","_law_other","_law_pair_here","_law_row"] (jV s__law_row_holds):=mkS
theorem kwr:FnScope ["_law_one","_law_other","_law_pair_here","_law_way"] ["_law_one","_law_other","_law_pair_here","_law_way"] (jV jx4):=mkS
theorem sc__law_rows_part:FnScope ["_law_one","_law_other","_law_pair_here","_law_cells","_law_most_here","_law_standings","_law_names","_law_row","_law_cell"] ["_law_one","_law_other","_law_pair_here","_law_cells","_law_most_here"] (jV jqd):=mkS
theorem sc_law:FnScope ["_law_script","_law_signs_here","_law_one","_law_second","_law_other","_law_kept","_law_pair_here","_law_way","_law_p","_law_q","_law_x","_law_found"] ["_law_script"] (jV wjo):=mkS
structure Txt (K:Frag)(mg:Str->Option Value):Prop where
 b_all:mg "all"=none
 b_bool:mg "bool"=none
 b_dict:mg "dict"=none
 b_enumerate:mg "enumerate"=none
 b_int:mg "int"=none
 b_isinstance:mg "isinstance"=none
 b_len:mg "len"=none
 b_list:mg "list"=none
 b_max:mg "max"=none
 b_min:mg "min"=none
 b_range:mg "range"=none
 b_reversed:mg "reversed"=none
 b_set:mg "set"=none
 b_sorted:mg "sorted"=none
 b_str:mg "str"=none
 b_tuple:mg "tuple"=none
 c_SMALL_ROOMS:Cst mg "SMALL_ROOMS" (V.int (12))
 c_SMALL_KEEPERS:Cst mg "SMALL_KEEPERS" (V.int (3))
 c_NOWHERE:Cst mg "NOWHERE" (V.int (-1))
 c_FIRST_PAIR:xxj K mg "FIRST_PAIR" (.tup [(.int 0),(.int 0),(.tup [])])
section
variable (P:Program)(w:PySem.World)(K:Frag)(mg:Str->Option Value)(base:Heap)
abbrev kqr:=k8 P w K mg base 1 "is_small" ["plain"] (spF K mg 1 m_is_small)
abbrev kzs:=k8 P w K mg base 1 "read_by" ["plain","standing","sign","name"] (spF K mg 4 m_read_by)
abbrev jzp:=k8 P w K mg base 1 "is_good_in" ["plain","room"] (spF K mg 2 m_is_good_in)
abbrev vxn:=k8 P w K mg base 2 "agrees" ["one","other","pair"] (spF K mg 3 m_agrees)
abbrev jzo:=k8 P w K mg base 1 "keepers_in" ["plain","room"] (spF K mg 2 m_keepers_in)
abbrev jxx:=k8 P w K mg base 1 "standing_in" ["room","names"] (spF K mg 2 m_standing_in)
abbrev jvc:=k8 P w K mg base 2 "first_standings" ["one","other","pair"] (spF K mg 3 m_first_standings)
abbrev jzh:=k8 P w K mg base 1 "names_of" ["standing"] (spF K mg 1 m_names_of)
abbrev jx1:=k8 P w K mg base 2 "held_by_both" ["standings"] (spF K mg 1 m_held_by_both)
abbrev kzr:=k8 P w K mg base 1 "room_of" ["standing"] (spF K mg 1 m_room_of)
abbrev vqs:=k8 P w K mg base 2 "pair_of" ["standings"] (spF K mg 1 m_pair_of)
abbrev jwz:=k8 P w K mg base 2 "read_by_both" ["one","other","standings","sign","name"] (spF K mg 5 m_read_by_both)
abbrev kzq:=k8 P w K mg base 3 "steps_from" ["one","other","pair"] (spF K mg 3 m_steps_from)
abbrev jx0:=k8 P w K mg base 1 "least_beside" ["names"] (spF K mg 1 m_least_beside)
abbrev kwf:=k8 P w K mg base 3 "parting_row" ["one","other","first","steps"] (spF K mg 4 m_parting_row)
abbrev kqq:=k8 P w K mg base 1 "steps_to" ["ways","pair"] (spF K mg 2 m_steps_to)
abbrev qwd:=k8 P w K mg base 4 "searched" ["one","other","first"] (spF K mg 3 m_searched)
abbrev kqs:=DefD P w K mg base 5 "compared" ["one","other","pair"] (spF K mg 3 m_compared)/\xqb P w K mg base 5 "compared" ["one","other","pair"] (spF K mg 3 m_compared)
abbrev jx2:=k8 P w K mg base 1 "_law_cell_at" ["_law_script","_law_k"] (spF K mg 2 m__law_cell_at)
abbrev jwl:=k8 P w K mg base 1 "_law_whole" ["_law_found"] (spF K mg 1 m__law_whole)
abbrev jq0:=k8 P w K mg base 1 "_law_stream" ["_law_cell","_law_many"] (spF K mg 2 m__law_stream)
abbrev kzu:=k8 P w K mg base 2 "_law_signs" ["_law_cell"] (spF K mg 1 m__law_signs)
abbrev jwm:=k8 P w K mg base 1 "_law_fills" ["_law_number","_law_need","_law_free"] (spF K mg 3 m__law_fills)
abbrev qkg:=k8 P w K mg base 2 "_law_case" ["_law_number","_law_sizes","_law_free"] (spF K mg 3 m__law_case)
abbrev kzv:=k8 P w K mg base 3 "_law_plain" ["_law_cell","_law_signs_here"] (spF K mg 2 m__law_plain)
abbrev kzw:=k8 P w K mg base 2 "_law_chain" ["_law_cell","_law_signs_here"] (spF K mg 2 m__law_chain)
abbrev kkz:=k8 P w K mg base 4 "_law_machine" ["_law_cell","_law_signs_here"] (spF K mg 2 m__law_machine)
abbrev jxf:=k8 P w K mg base 1 "_law_read" ["_law_plain_here","_law_standing","_law_sign","_law_name"] (spF K mg 4 m__law_read)
abbrev jxy:=k8 P w K mg base 1 "_law_shared" ["_law_number","_law_many","_law_size"] (spF K mg 3 m__law_shared)
abbrev jv5:=k8 P w K mg base 1 "_law_keepers" ["_law_plain_here","_law_room"] (spF K mg 2 m__law_keepers)
abbrev kkk:=k8 P w K mg base 1 "_law_pair" ["_law_here","_law_there"] (spF K mg 2 m__law_pair)
abbrev kq0:=k8 P w K mg base 2 "_law_is_pair" ["_law_found","_law_due"] (spF K mg 2 m__law_is_pair)
abbrev jvn:=k8 P w K mg base 2 "_law_firsts" ["_law_one","_law_other","_law_pair_here"] (spF K mg 3 m__law_firsts)
abbrev jzi:=k8 P w K mg base 3 "_law_behind_all" ["_law_one","_law_other","_law_pair_here"] (spF K mg 3 m__law_behind_all)
abbrev jxh:=k8 P w K mg base 1 "_law_good" ["_law_plain_here","_law_room"] (spF K mg 2 m__law_good)
abbrev kzt:=k8 P w K mg base 4 "_law_table" ["_law_one","_law_other","_law_pair_here","_law_table_here"] (spF K mg 4 m__law_table)
abbrev jxg:=k8 P w K mg base 1 "_law_most" ["_law_plain_here"] (spF K mg 1 m__law_most)
abbrev jzq:=k8 P w K mg base 2 "_law_parts" ["_law_one","_law_other","_law_standings","_law_row"] (spF K mg 4 m__law_parts)
abbrev T__law_row_holds:=k8 P w K mg base 3 "_law_row_holds" ["_law_one","_law_other","_law_pair_here","_law_row"] (spF K mg 4 m__law_row_holds)
abbrev kkj:=k8 P w K mg base 6 "_law_told" ["_law_one","_law_other","_law_pair_here","_law_way"] (spF K mg 4 jqo)
abbrev jzw:=k8 P w K mg base 3 "_law_rows_part" ["_law_one","_law_other","_law_pair_here","_law_cells","_law_most_here"] (spF K mg 5 WV)
end
section
variable {P:Program}{w:PySem.World}{K:Frag}{mg:Str->Option Value}{base:Heap}{f:Addr}{fd:FuncData}
theorem qjm(T:Txt K mg):OkF P w K mg base 1 "is_small" jz5 ["plain"] 1 m_is_small:=
 okF qj3 λhr=>(jK (vvp (j6 (xxd (j6 (qL (kx (vv 0) ki) T.b_len)) (j6 (q_C (VX T.c_SMALL_ROOMS) (λ_=>vK))))) (qq1 (xkz (wv1 K) xkl (j6 (qM .rt 1 [] 1 ["room"] (v7 (jz (kx (vv 0) ki))) (λ_ _ _ _ _=>(xxd (kx (vv 0) ki) (j6 (q_C (VX T.c_SMALL_KEEPERS) (λ_=>vK))))))) T.b_all xk3))))
theorem qvo(T:Txt K mg):OkF P w K mg base 1 "read_by" kjl ["plain","standing","sign","name"] 4 m_read_by:=
 okF sc_read_by λhr=>have nd:=sc_read_by.nd;(j8 (kj (QW.pt (x4 (W5 (vv 1) kn) (J0 (vq (kj2 hr.units) kj8 (vv 2) (kx (vv 0) ki) (by rfl) kj7)))) (jK kN)) (j8 (qA nd (jz (kx (vv 1) ki))) (j8 (qA nd (jz (kx (kx (kx (kx (vv 0) ki) (kx (vv 1) ki)) ki) (j6 (WY hr.units (kx (vv 0) ki) (vv 2)))))) (j8 (qA nd (jz (kx (vv 5) (j6 (Q6 (vq (qzx hr.units) vqq (vv 3) (vv 4) (by rfl) vqi) (WY hr.units (vv 4) (vv 3)) (qL (vv 4) T.b_len)))))) (j8 (kj (W5 (vv 6) kn) (jK kN)) (j8 (qA nd (oA (vv 4) (j6 (qk (o:=.no) (j5 (cv 3) jk))))) (jK (qk (o:=.no) (j5 (jz (kx (vv 6) ki)) (j5 (qT (j6 (qM .rt 1 [7] 8 ["fill","held"] (v7 (jz (kx (vv 6) ki))) (λ_ _ _ _ _=>(jz (kx (vv 1) (vv 0)))))) T.b_tuple) jk))))))))))
theorem kvi(T:Txt K mg):OkF P w K mg base 1 "is_good_in" jw1 ["plain","room"] 2 m_is_good_in:=
 okF kv5 λhr=>(jK (vvp (j6 (Vv (vwa hr.units) vxj (vv 1) (j6 (q_C (VX T.c_NOWHERE) (λ_=>vK))) (z5 _))) (qq1 (jz (kx (kx (kx (vv 0) ki) (vv 1)) ki)))))
theorem qzy(T:Txt K mg)(bt:jzp P w K mg base):OkF P w K mg base 2 "agrees" kv7 ["one","other","pair"] 3 m_agrees:=
 okF qxk λhr=>(jK (Qj hr (j6 (qC bt hr (j5 (cv 0) (j5 (jz (kx (vv 2) ki)) jk)))) (j6 (qC bt hr (j5 (cv 1) (j5 (jz (kx (vv 2) ki)) jk))))))
theorem kvh(T:Txt K mg):OkF P w K mg base 1 "keepers_in" jw0 ["plain","room"] 2 m_keepers_in:=
 okF kv4 λhr=>(jK (Q6 (zY hr (vv 1) (j6 (q_C (VX T.c_NOWHERE) (λ_=>vK)))) kI (jz (kx (kx (kx (vv 0) ki) (vv 1)) ki))))
theorem kkp(T:Txt K mg):OkF P w K mg base 1 "standing_in" jve ["room","names"] 2 m_standing_in:=
 okF kkn λhr=>(jK (Q6 (zY hr (vv 0) (j6 (q_C (VX T.c_NOWHERE) (λ_=>vK)))) kN (qk (o:=.no) (j5 (cv 0) (j5 (qT (vv 1) T.b_tuple) jk)))))
theorem jxp(T:Txt K mg)(bu:jzo P w K mg base)(bo:jxx P w K mg base):OkF P w K mg base 2 "first_standings" jq3 ["one","other","pair"] 3 m_first_standings:=
 okF sc_first_standings λhr=>have nd:=sc_first_standings.nd;(j8 (qA nd (qC bu hr (j5 (cv 0) (j5 (jz (kx (vv 2) ki)) jk)))) (j8 (qA nd (Jv (vqd K) vxl (j6 (qm .rt 2 [] 7 ["i","j"] (v7 (jz (kx (vv 2) ki))) (λhN _ _ _ _ _=>(zj (is:=[0,1]) (zq K (t:=gNs [0,1]) (n:=2) (qw (gn hN) (qw (gn hN) z4))))) (λ_ _ _ _ _=>wx3) (λ_ _ _ _ _=>(qk (o:=.no) (j5 (cv 1) (j5 (cv 0) jk)))))) T.b_dict wv5)) (j8 (qA nd wq) (j8 (qF (xq (j6 (qC bu hr (j5 (cv 1) (j5 (jz (kx (vv 2) ki)) jk)))) rfl T.b_range) (gN nd) (k3 (qP (Q6 (vq (xvj hr.units) xkh (vv 6) (vv 4) (by rfl) xk5) (jz (xv4 hr.units (vv 4) (vv 6) (λ_ _=>rfl))) (oA (vv 3) (j6 (qL (j6 (xv3 (o:=.rt) (k:=1) (R:=[3]) ["name","own"] (xv5 (pv 5)) (λ_ _ _ _ _=>(YX (gn (show(["name","own"]:List Str).Nodup by decide +kernel)))) (λ_ _ _ _ _=>(YV (vq xvi (J9 (g:=λa b=>decide (b<=a))) (vv 0) (vv 1) (z5 _) Qk))) (λ_ _ _ _ _=>(cv 0)) K9 #[_,_,rfl,rfl] ⋯ (show ∀j∈([3]:List Nat) ,j<7 by decide))) T.b_len))))))) (jK (qk (o:=.no) (j5 (qC bo hr (j5 (jz (kx (vv 2) ki)) (j5 (qza (vv 3) T.b_range T.b_list) jk))) (j5 (qzc bo (hr.mono ⋯) K9 (YK (kx (vv 2) ki) (YK (vv 5) wxh))) jk))))))))
theorem qjl(T:Txt K mg):OkF P w K mg base 1 "names_of" jz4 ["standing"] 1 m_names_of:=
 okF qj2 λhr=>(jK (Q6 (W5 (vv 0) kn) (qk (o:=.no) jk) (jz (kx (vv 0) ki))))
theorem kjt(T:Txt K mg)(bd:jzh P w K mg base):OkF P w K mg base 2 "held_by_both" jqy ["standings"] 1 m_held_by_both:=
 okF sc_held_by_both λhr=>have nd:=sc_held_by_both.nd;(j8 (qA nd (qC bd hr (j5 (jz (kx (vv 0) ki)) jk))) (jK (oA (vv 1) (j6 (qT (j6 (qm .rt 1 [1] 2 ["name","ours"] (v7 (qC bd hr (j5 (jz (kx (vv 0) ki)) jk))) (λhN _ _ _ _ _=>(YX (gn hN))) (λ_ _ _ _ _=>(YV (vq (kj2 hr.units) kj8 (vv 0) (vv 1) (by rfl) kj7))) (λ_ _ _ _ _=>(cv 0)))) T.b_tuple)))))
theorem qvn(T:Txt K mg):OkF P w K mg base 1 "room_of" kjk ["standing"] 1 m_room_of:=
 okF qve λhr=>(jK (Q6 (W5 (vv 0) kn) (q_C (VX T.c_NOWHERE) (λ_=>vK)) (jz (kx (vv 0) ki))))
theorem qvp(T:Txt K mg)(bd:jzh P w K mg base)(dn:kzr P w K mg base):OkF P w K mg base 2 "pair_of" kjm ["standings"] 1 m_pair_of:=
 okF sc_pair_of λhr=>have nd:=sc_pair_of.nd;(j8 (qA nd (qC bd hr (j5 (jz (kx (vv 0) ki)) jk))) (j8 (qA nd (qC bd hr (j5 (jz (kx (vv 0) ki)) jk))) (j8 (qja (i:=3) (o:=.rt) (k:=2) (R:=[2]) ["i","name","theirs"] nd rfl (by first|exact Or.inl rfl|exact Or.inr rfl) (qzb (cv 1) rfl T.b_enumerate) (λ_ _ _ _ _=>(zj (is:=[0,1]) (zq K (t:=gNs [0,1]) (n:=2) (qw (gn (show(["i","name","theirs"]:List Str).Nodup by decide +kernel)) (qw (gn (show(["i","name","theirs"]:List Str).Nodup by decide +kernel)) z4))))) (λ_ _ _ _ _=>(YV (vq (qzx hr.units) vqq (vv 1) (vv 2) (by rfl) vqi))) (λ_ _ _ _ _=>(qk (o:=.no) (j5 (cv 0) (j5 (WY hr.units (vv 2) (vv 1)) jk)))) K9 #[_,_,rfl,rfl] ⋯ (show ∀j∈([2]:List Nat) ,j<4 by decide)) (jK (qk (o:=.no) (j5 (qC dn hr (j5 (jz (kx (vv 0) ki)) jk)) (j5 (qC dn hr (j5 (jz (kx (vv 0) ki)) jk)) (j5 (qT (vv 3) T.b_tuple) jk))))))))
theorem kjr(T:Txt K mg)(dq:kzs P w K mg base):OkF P w K mg base 2 "read_by_both" jqw ["one","other","standings","sign","name"] 5 m_read_by_both:=
 okF kjg λhr=>(jK (qk (o:=.no) (j5 (qC dq hr (j5 (cv 0) (j5 (jz (kx (vv 2) ki)) (j5 (cv 3) (j5 (cv 4) jk))))) (j5 (qC dq hr (j5 (cv 1) (j5 (jz (kx (vv 2) ki)) (j5 (cv 3) (j5 (cv 4) jk))))) jk))))
theorem kvg(T:Txt K mg)(aq:jvc P w K mg base)(b7:jx1 P w K mg base)(fe:vqs P w K mg base)(b6:jwz P w K mg base):OkF P w K mg base 3 "steps_from" jvz ["one","other","pair"] 3 m_steps_from:=
 okF sc_steps_from λhr=>have nd:=sc_steps_from.nd;(j8 (qA nd (qC aq hr (j5 (cv 0) (j5 (cv 1) (j5 (cv 2) jk))))) (j8 (qA nd (qza (j6 (oA (j6 (qL (j6 (qC b7 hr (j5 (cv 3) jk))) T.b_len)) ki)) T.b_range T.b_list)) (j8 (qA nd wq) (j8 (qF (v7 (qz7 rfl rfl (j6 (oA (kx (vv 0) ki) (kx (vv 1) ki))) T.b_sorted T.b_set)) (gN nd) (k3 (qF (v7 (cv 4)) (gN nd) (k3 (qP (qk (o:=.no) (j5 (cv 6) (j5 (cv 7) (j5 (qC fe hr (j5 (qC b6 hr (j5 (cv 0) (j5 (cv 1) (j5 (cv 3) (j5 (cv 6) (j5 (cv 7) jk)))))) jk)) jk))))))))) (jK (YZ (pv 5)))))))
theorem kjs(T:Txt K mg):OkF P w K mg base 1 "least_beside" jqx ["names"] 1 m_least_beside:=
 okF sc_least_beside λhr=>have nd:=sc_least_beside.nd;(j8 (qA nd kI) (j8 (qj8 (vw7 #[_,_,rfl,rfl]) (vq (qzx hr.units) vqq (vv 1) (vv 0) (by rfl) vqi) (k3 (wxi (i:=1) nd rfl (by first|exact Or.inl rfl|exact Or.inr rfl) vzr kI))) (jK (YZ (pv 1)))))
theorem kkq(T:Txt K mg)(aq:jvc P w K mg base)(b7:jx1 P w K mg base)(b6:jwz P w K mg base)(c8:jx0 P w K mg base):OkF P w K mg base 3 "parting_row" jvf ["one","other","first","steps"] 4 m_parting_row:=
 okF sc_parting_row λhr=>have nd:=sc_parting_row.nd;(j8 (qA nd (qC aq hr (j5 (cv 0) (j5 (cv 1) (j5 (cv 2) jk))))) (j8 (qA nd wq) (j8 (qF (v7 (cv 3)) (zj (is:=[6,7]) (zq K (t:=gNs [6,7]) (n:=2) (qw (gn nd) (qw (gn nd) z4)))) (j8 (qA nd (qC b7 hr (j5 (cv 4) jk))) (j8 (qA nd (Q6 (xqh (vv 7) (j6 (qL (vv 8) T.b_len))) (jz (kx (vv 8) (vv 7))) (qC c8 hr (j5 (cv 8) jk)))) (j8 (qP (qk (o:=.no) (j5 (cv 6) (j5 (cv 9) jk)))) (k3 (qA nd (qC b6 hr (j5 (cv 0) (j5 (cv 1) (j5 (cv 4) (j5 (cv 6) (j5 (cv 9) jk)))))))))))) (jK (YZ (pv 5))))))
theorem qjj(T:Txt K mg):OkF P w K mg base 1 "steps_to" jz2 ["ways","pair"] 2 m_steps_to:=
 okF sc_steps_to λhr=>have nd:=sc_steps_to.nd;(j8 (qA nd wq) (j8 (qA nd (jz (wx7 hr.units (vv 0) (vv 1) (λ_ _=>rfl)))) (j8 (qj8 (vw7 #[_,_,rfl,rfl]) (xks (vv 3) kn) (j8 (qP (qk (o:=.no) (j5 (jz (kx (vv 3) ki)) (j5 (jz (kx (vv 3) ki)) jk)))) (k3 (qA nd (jz (wx7 hr.units (vv 0) (kx (vv 3) ki) (λ_ _=>rfl))))))) (jK (wx4 (vv 2) T.b_reversed T.b_list)))))
theorem qjk(T:Txt K mg)(cm:kzq P w K mg base)(gh:vxn P w K mg base)(cg:kwf P w K mg base)(ef:kqq P w K mg base):OkF P w K mg base 4 "searched" jz3 ["one","other","first"] 3 m_searched:=
 okF sc_searched λhr=>have nd:=sc_searched.nd;(j8 (qA nd (wxd hr.units (cv 2) kN)) (j8 (qA nd (ww (o:=.rt) (j5 (cv 2) jk))) (j8 (qA nd kI) (j8 (qj8 (vw7 #[_,_,rfl,rfl]) (xqh (vv 5) (j6 (qL (vv 4) T.b_len))) (j8 (qA nd (jz (kx (vv 4) (vv 5)))) (j8 (kj (vx (vX (j6 (qC gh hr (j5 (cv 0) (j5 (cv 1) (j5 (cv 6) jk))))))) (jK (qk (o:=.no) (j5 kS (j5 (qC cg hr (j5 (cv 0) (j5 (cv 1) (j5 (cv 2) (j5 (qC ef hr (j5 (cv 3) (j5 (cv 6) jk))) jk))))) jk))))) (j8 (qF (v7 (qC cm hr (j5 (cv 0) (j5 (cv 1) (j5 (cv 6) jk))))) (zj (is:=[7,8,9]) (zq K (t:=gNs [7,8,9]) (n:=3) (qw (gn nd) (qw (gn nd) (qw (gn nd) z4))))) (k3 (kj (vq (qqb hr.units) kzo (vv 9) (vv 3) (by rfl) kzf) (j8 (vz4 (i:=3) hr.units rfl (pv 3) (vv 9) (qk (o:=.no) (j5 (cv 6) (j5 (cv 7) (j5 (cv 8) jk))))) (k3 (qP (cv 9))))))) (k3 (wxi (i:=5) nd rfl (by first|exact Or.inl rfl|exact Or.inr rfl) vzr kI)))))) (jK (qk (o:=.no) (j5 kS (j5 (cv 4) jk))))))))
theorem kju(T:Txt K mg)(cu:qwd P w K mg base)(c9:kqr P w K mg base)(F:xq9 K "compared" "compared" jz6 f fd):FnOk P w K mg base (CXE P w) 5 f fd ["one","other","pair"] (spF K mg 3 m_compared):=
 wve F qj4 (qj1 rfl) λcj A outer s H vs Q E hr h=>vkg rfl
  (j8 (kj (K3 hr (kx (vv 0) ki) (kx (vv 1) ki)) (k3 vz2)) (j8 (kj (QW.pt (x4 (vx (vX (j6 (qC c9 hr (j5 (cv 0) jk))))) (J0 (vx (vX (j6 (qC c9 hr (j5 (cv 1) jk)))))))) (k3 vz2)) (jK (qC cu hr (j5 (cv 0) (j5 (cv 1) (j5 (Q6 (W5 (vv 2) kn) (q_CD T.c_FIRST_PAIR) (cv 2)) jk))))))) h
theorem kjy(T:Txt K mg):OkF P w K mg base 1 "_law_cell_at" jv2 ["_law_script","_law_k"] 2 m__law_cell_at:=
 okF kjj λhr=>(j8 (kj (xqh (vv 1) (j6 (qL (vv 0) T.b_len))) (jK (jz (kx (vv 0) (vv 1))))) (jK kI))
theorem kvj(T:Txt K mg):OkF P w K mg base 1 "_law_whole" jw2 ["_law_found"] 1 m__law_whole:=
 okF kv6 λhr=>(jK (vvp (j6 (K7 (vv 0) T.b_isinstance T.b_int YJ rfl)) (qq1 (wk2 (j6 (K7 (vv 0) T.b_isinstance T.b_bool wv6 rfl))))))
theorem kkr(T:Txt K mg):OkF P w K mg base 1 "_law_stream" jvg ["_law_cell","_law_many"] 2 m__law_stream:=
 okF sc__law_stream λhr=>have nd:=sc__law_stream.nd;(j8 (qA nd wq) (j8 (kj (zY hr (j6 (oM (vv 0) ki)) ki) (j8 (qA nd (x3 (vv 0) ki)) (j8 (qF (xq (vv 1) rfl T.b_range) (gN nd) (j8 (qP (oM (vv 0) ki)) (k3 (qA nd (x3 (vv 0) ki))))) (jK (YZ (pv 2)))))) (j8 (qA nd (oA (j6 (oM (j6 (x3 (vv 0) ki)) ki)) ki)) (j8 (qF (xq (j6 (oA (vv 1) ki)) rfl T.b_range) (gN nd) (j8 (qA nd (oM (j6 (oA (j6 (oA (j6 (oX (vv 4) (vv 4))) (j6 (oX ki (vv 4))))) (vv 3))) ki)) (k3 (qP (oM (j6 (oA (j6 (oX (vv 4) ki)) (j6 (oX ki (vv 3))))) ki))))) (jK (VJ (vv 2) (Q5 ki) qz8))))))
theorem kvl(T:Txt K mg)(ah:jq0 P w K mg base):OkF P w K mg base 2 "_law_signs" jw4 ["_law_cell"] 1 m__law_signs:=
 okF sc__law_signs λhr=>have nd:=sc__law_signs.nd;(j8 (qA nd kS) (j8 (qA nd (qC ah hr (j5 (cv 0) (j5 kI jk)))) (j8 (qA nd (wx6 vzg (j6 (qM .rt 1 [1] 7 ["_law_x","_law_letters"] (v7 (VJ (vv 2) qz8 (Q5 (j6 (oA ki (j6 (oM (vv 0) ki))))))) (λ_ _ _ _ _=>(jz (kx (vv 1) (j6 (oM (vv 0) ki))))))))) (j8 (qA nd (oM (j6 (x3 (vv 0) ki)) (j6 (qL (vv 3) T.b_len)))) (j8 (qA nd wq) (j8 (qF (xq (kx (j6 (ww (o:=.rt) (j5 kI (j5 kI (j5 kI (j5 kI (j5 kI (j5 kI (j5 kI (j5 kI jk)))))))))) (j6 (oM (j6 (x3 (vv 0) ki)) ki))) rfl T.b_range) (gN nd) (k3 (qP (oA (j6 (oA (j6 (VJ (vv 3) qz8 (Q5 (vv 4)))) (kx (vv 1) (j6 (oA (j6 (oM (kx (vv 2) ki) ki)) (vv 6)))))) (j6 (VJ (vv 3) (Q5 (j6 (oA (vv 4) ki))) qz8)))))) (jK (YZ (pv 5)))))))))
theorem kvp(T:Txt K mg):OkF P w K mg base 1 "_law_fills" jw7 ["_law_number","_law_need","_law_free"] 3 m__law_fills:=
 okF sc__law_fills λhr=>have nd:=sc__law_fills.nd;(j8 (qA nd (qza (vv 2) T.b_range T.b_list)) (j8 (qA nd wq) (j8 (qF (xq (vv 1) rfl T.b_range) (gN nd) (j8 (qP (wx5 (i:=3) (qzr K PySem.F.plainAttrs_list PySem.F.slot_list_pop PySem.F.type_list_pop qqe (pv 3) (vZ (j6 (oM (vv 0) (j6 (qL (vv 3) T.b_len)))) wQ)))) (k3 (qA nd (oA (j6 (x3 (vv 0) ki)) (j6 (oX ki (vv 5)))))))) (jK (qT (vv 4) T.b_tuple)))))
theorem kxf(T:Txt K mg)(be:jwm P w K mg base):OkF P w K mg base 2 "_law_case" jx9 ["_law_number","_law_sizes","_law_free"] 3 m__law_case:=
 okF sc__law_case λhr=>have nd:=sc__law_case.nd;(j8 (kj (zY hr (j6 (oM (vv 0) ki)) ki) (jK kN)) (j8 (qja (i:=3) (o:=.rt) (k:=1) (R:=[1,2]) ["_law_to","_law_sizes","_law_free"] nd rfl (by first|exact Or.inl rfl|exact Or.inr rfl) (xq (j6 (qL (vv 1) T.b_len)) rfl T.b_range) (λ_ _ _ _ _=>(YX (gn (show(["_law_to","_law_sizes","_law_free"]:List Str).Nodup by decide +kernel)))) (λ_ _ _ _ _=>(YV (vq W9 (J9 (g:=λa b=>decide (a<=b))) (kx (vv 1) (vv 0)) (vv 2) (z5 _) Qk))) (λ_ _ _ _ _=>(cv 0)) K9 #[_,_,rfl,rfl] ⋯ (show ∀j∈([1,2]:List Nat) ,j<5 by decide)) (j8 (qA nd (jz (kx (vv 3) (j6 (oM (j6 (x3 (vv 0) ki)) (j6 (qL (vv 3) T.b_len))))))) (jK (qk (o:=.no) (j5 (cv 4) (j5 (qC be hr (j5 (x3 (vv 0) ki) (j5 (jz (kx (vv 1) (vv 4))) (j5 (cv 2) jk)))) jk)))))))
theorem kvm(T:Txt K mg)(ah:jq0 P w K mg base)(d8:qkg P w K mg base):OkF P w K mg base 3 "_law_plain" jw5 ["_law_cell","_law_signs_here"] 2 m__law_plain:=
 okF sc__law_plain λhr=>have nd:=sc__law_plain.nd;(j8 (qA nd (qC ah hr (j5 (cv 0) (j5 kI jk)))) (j8 (qA nd (jz (kx (j6 (ww (o:=.rt) (j5 kI (j5 kI (j5 kI (j5 kI (j5 kI (j5 kI (j5 kI (j5 kI jk)))))))))) (j6 (oM (kx (vv 2) ki) ki))))) (j8 (qA nd kI) (j8 (kj (QW.pt (qz6 (zY hr (vv 3) ki) (qj9 (zY hr (j6 (oM (kx (vv 2) ki) ki)) ki)))) (k3 (qA nd kI))) (j8 (qA nd (oA (j6 (ww (o:=.rt) (j5 kI jk))) (j6 (qM .rt 1 [2,4] 13 ["_law_k","_law_xs","_law_most_here"] (xq (j6 (Kv kx8 kzn (vv 3) ki)) rfl T.b_range) (λ_ _ _ _ _=>(oM (j6 (x3 (kx (vv 1) (j6 (oA ki (vv 0)))) ki)) (j6 (oA (vv 2) ki)))))))) (j8 (qA nd wq) (j8 (qA nd kI) (j8 (qF (xq (vv 3) rfl T.b_range) (gN nd) (j8 (qA nd wq) (j8 (qF (xq (j6 (qL (vv 1) T.b_len)) rfl T.b_range) (gN nd) (j8 (qA nd wq) (j8 (qF (xq (j6 (oA (kx (vv 5) (vv 8)) ki)) rfl T.b_range) (gN nd) (j8 (qP (qC d8 hr (j5 (jz (kx (vv 2) (vv 7))) (j5 (cv 5) (j5 (oA (kx (vv 5) (vv 8)) (j6 (Jv jwi kzp (j6 (Qj hr (vv 12) (kx (vv 5) (vv 8)))) T.b_int YJ))) jk))))) (k3 (qA nd (oA (vv 7) ki))))) (k3 (qP (cv 11)))))) (j8 (qP (qk (o:=.no) (j5 (jz (kx (vv 5) (vv 8))) (j5 (Qj hr (j6 (oM (kx (vv 2) (vv 7)) ki)) ki) (j5 (cv 9) jk))))) (k3 (qA nd (oA (vv 7) ki))))))) (jK (qk (o:=.no) (j5 (Jv (kwc K) qkf (vv 1) T.b_list V0) (j5 (cv 6) jk))))))))))))
theorem kvq(T:Txt K mg)(ah:jq0 P w K mg base)(be:jwm P w K mg base):OkF P w K mg base 2 "_law_chain" jw8 ["_law_cell","_law_signs_here"] 2 m__law_chain:=
 okF sc__law_chain λhr=>have nd:=sc__law_chain.nd;(j8 (qA nd (qC ah hr (j5 (cv 0) (j5 kI jk)))) (j8 (qA nd (oA ki (j6 (oM (kx (vv 2) ki) ki)))) (j8 (qA nd (oA (j6 (ww (o:=.rt) (j5 kI jk))) (j6 (qM .rt 1 [2] 15 ["_law_k","_law_xs"] (xq (j6 (Kv kx8 kzn (vv 3) ki)) rfl T.b_range) (λ_ _ _ _ _=>(oM (kx (vv 1) (j6 (oA ki (vv 0)))) ki)))))) (j8 (qA nd wq) (j8 (qA nd kI) (j8 (qF (xq (vv 3) rfl T.b_range) (gN nd) (j8 (qA nd wq) (j8 (qF (xq (j6 (qL (vv 1) T.b_len)) rfl T.b_range) (gN nd) (j8 (qA nd wq) (j8 (qF (xq (j6 (oA (kx (vv 4) (vv 7)) ki)) rfl T.b_range) (gN nd) (j8 (qA nd (jz (kx (vv 2) (vv 6)))) (j8 (qA nd (oA (vv 6) ki)) (j8 (qA nd (oA (kx (vv 4) (vv 7)) (j6 (Jv jwi kzp (j6 (Qj hr (vv 11) (kx (vv 4) (vv 7)))) T.b_int YJ)))) (j8 (qA nd (jz (kx (j6 (ww (o:=.rt) (j5 (oM (j6 (oA (vv 7) ki)) (vv 3)) (j5 (oM (j6 (x3 (vv 12) ki)) (vv 3)) jk)))) (j6 (Jv jwi kzp (j6 (Qj hr (j6 (oM (vv 12) ki)) ki)) T.b_int YJ))))) (k3 (xx3 (QW.pt (x4 (zY hr (j6 (oM (vv 12) ki)) ki) (J0 (xkt (kx (vv 4) (vv 14)) (vv 13))))) (k3 (qP kN)) (k3 (qP (qk (o:=.no) (j5 (cv 14) (j5 (qC be hr (j5 (x3 (vv 12) ki) (j5 (jz (kx (vv 4) (vv 14))) (j5 (cv 13) jk)))) jk)))))))))))) (k3 (qP (cv 10)))))) (j8 (qP (qk (o:=.no) (j5 (jz (kx (vv 4) (vv 7))) (j5 (Qj hr (j6 (oM (kx (vv 2) (vv 6)) ki)) ki) (j5 (cv 8) jk))))) (k3 (qA nd (oA (vv 6) ki))))))) (jK (qk (o:=.no) (j5 (Jv (kwc K) qkf (vv 1) T.b_list V0) (j5 (cv 5) jk))))))))))
theorem kjv(T:Txt K mg)(cn:kzv P w K mg base)(cp:kzw P w K mg base):OkF P w K mg base 4 "_law_machine" jqz ["_law_cell","_law_signs_here"] 2 m__law_machine:=
 okF kjh λhr=>(j8 (kj (zY hr (j6 (oM (vv 0) ki)) ki) (jK (qC cp hr (j5 (x3 (vv 0) ki) (j5 (cv 1) jk))))) (jK (qC cn hr (j5 (cv 0) (j5 (cv 1) jk)))))
theorem kxb(T:Txt K mg):OkF P w K mg base 1 "_law_read" jx5 ["_law_plain_here","_law_standing","_law_sign","_law_name"] 4 m__law_read:=
 okF sc__law_read λhr=>have nd:=sc__law_read.nd;(j8 (kj (W5 (vv 1) kn) (jK kN)) (j8 (kx0 (cv 1) (zj (is:=[4,5]) (zq K (t:=gNs [4,5]) (n:=2) (qw (gn nd) (qw (gn nd) z4))))) (j8 (kx0 (jz (kx (kx (vv 0) ki) (vv 4))) (zj (is:=[6,7,8]) (zq K (t:=gNs [6,7,8]) (n:=3) (qw (gn nd) (qw (gn nd) (qw (gn nd) z4)))))) (j8 (qA nd (cv 6)) (j8 (kj (vq (qzx hr.units) vqq (vv 3) (vv 5) (by rfl) vqi) (k3 (qA nd (WY hr.units (vv 5) (vv 3))))) (j8 (qA nd (jz (kx (kx (vv 8) (j6 (WY hr.units (kx (vv 0) ki) (vv 2)))) (vv 9)))) (j8 (kj (W5 (vv 10) kn) (jK kN)) (jK (qk (o:=.no) (j5 (jz (kx (vv 10) ki)) (j5 (qT (j6 (qM .rt 1 [5,3] 11 ["_law_fill","_law_names","_law_name"] (v7 (jz (kx (vv 10) ki))) (λ_ _ _ _ _=>(jz (kx (j6 (oA (j6 (Jv (kwc K) qkf (vv 1) T.b_list V0)) (j6 (ww (o:=.rt) (j5 (cv 2) jk))))) (vv 0)))))) T.b_tuple) jk)))))))))))
theorem kks(T:Txt K mg):OkF P w K mg base 1 "_law_shared" jvh ["_law_number","_law_many","_law_size"] 3 m__law_shared:=
 okF sc__law_shared λhr=>have nd:=sc__law_shared.nd;(j8 (qA nd (qza (vv 2) T.b_range T.b_list)) (j8 (qA nd wq) (j8 (qF (xq (vv 1) rfl T.b_range) (gN nd) (j8 (kj (QW.pt (qz6 (K3 hr (vv 3) (j6 wq)) (qj9 (xkt (j6 (oM (vv 0) ki)) ki)))) (k3 (qP (qk (o:=.no) (j5 (QE.weak (cv 5)) (j5 (wx5 (i:=3) (qzr K PySem.F.plainAttrs_list PySem.F.slot_list_pop PySem.F.type_list_pop qqe (pv 3) (vZ (j6 (oM (j6 (x3 (vv 0) ki)) (j6 (qL (vv 3) T.b_len)))) wQ))) xv9)))))) (k3 (qA nd (oA (j6 (x3 (vv 0) ki)) (j6 (oX ki (vv 5)))))))) (jK (qT (vv 4) T.b_tuple)))))
theorem kjw(T:Txt K mg):OkF P w K mg base 1 "_law_keepers" jv0 ["_law_plain_here","_law_room"] 2 m__law_keepers:=
 okF kji λhr=>(j8 (kj (zY hr (vv 1) (j6 KJ)) (jK kI)) (jK (jz (kx (kx (kx (vv 0) ki) (vv 1)) ki))))
theorem kxc(T:Txt K mg):OkF P w K mg base 1 "_law_pair" jx6 ["_law_here","_law_there"] 2 m__law_pair:=
 okF sc__law_pair λhr=>have nd:=sc__law_pair.nd;(j8 (qA nd (ww (o:=.rt) (j5 (qk (o:=.no) jk) (j5 (qk (o:=.no) jk) jk)))) (j8 (qA nd (ww (o:=.rt) (j5 KJ (j5 KJ jk)))) (j8 (qF (vz3 (ww (o:=.rt) (j5 (cv 0) (j5 (cv 1) jk))) rfl T.b_enumerate) (zj (is:=[4,5]) (zq K (t:=gNs [4,5]) (n:=2) (qw (gn nd) (qw (gn nd) z4)))) (k3 (kj (xks (vv 5) kn) (j8 (wk1 (i:=3) (pv 3) (vv 4) (jz (kx (vv 5) ki))) (k3 (wk1 (i:=2) (pv 2) (vv 4) (jz (kx (vv 5) ki)))))))) (j8 (qja (i:=6) (o:=.rt) (k:=2) (R:=[2]) ["_law_i","_law_name","_law_names"] nd rfl (by first|exact Or.inl rfl|exact Or.inr rfl) (qzb (jz (kx (vv 2) ki)) rfl T.b_enumerate) (λ_ _ _ _ _=>(zj (is:=[0,1]) (zq K (t:=gNs [0,1]) (n:=2) (qw (gn (show(["_law_i","_law_name","_law_names"]:List Str).Nodup by decide +kernel)) (qw (gn (show(["_law_i","_law_name","_law_names"]:List Str).Nodup by decide +kernel)) z4))))) (λ_ _ _ _ _=>(YV (vq (qzx hr.units) vqq (vv 1) (kx (vv 2) ki) (by rfl) vqi))) (λ_ _ _ _ _=>(qk (o:=.no) (j5 (cv 0) (j5 (WY hr.units (kx (vv 2) ki) (vv 1)) jk)))) K9 #[_,_,rfl,rfl] ⋯ (show ∀j∈([2]:List Nat) ,j<7 by decide)) (jK (qk (o:=.no) (j5 (jz (kx (vv 3) ki)) (j5 (jz (kx (vv 3) ki)) (j5 (qT (vv 6) T.b_tuple) jk)))))))))
theorem kjx(T:Txt K mg)(au:jwl P w K mg base):OkF P w K mg base 2 "_law_is_pair" jv1 ["_law_found","_law_due"] 2 m__law_is_pair:=
 okF sc__law_is_pair λhr=>have nd:=sc__law_is_pair.nd;(j8 (kj (QW.pt (x4 (vx (vX (j6 (K7 (vv 0) T.b_isinstance T.b_tuple ZQ rfl)))) (x4 (K3 hr (j6 (qL (vv 0) T.b_len)) ki) (J0 (vx (vX (j6 (K7 (kx (vv 0) ki) T.b_isinstance T.b_tuple ZQ rfl)))))))) (jK wV)) (j8 (kj (QW.pt (x4 (vx (vX (j6 (qC au hr (j5 (jz (kx (vv 0) ki)) jk))))) (J0 (vx (vX (j6 (qC au hr (j5 (jz (kx (vv 0) ki)) jk)))))))) (jK wV)) (j8 (qF (v7 (jz (kx (vv 0) ki))) (gN nd) (k3 (kj (QW.pt (x4 (vx (vX (j6 (K7 (vv 2) T.b_isinstance T.b_tuple ZQ rfl)))) (x4 (K3 hr (j6 (qL (vv 2) T.b_len)) ki) (x4 (vx (vX (j6 (qC au hr (j5 (jz (kx (vv 2) ki)) jk))))) (J0 (vx (vX (j6 (qC au hr (j5 (jz (kx (vv 2) ki)) jk)))))))))) (jK wV)))) (jK (Qj hr (vv 0) (vv 1))))))
theorem kkt(T:Txt K mg)(am:jv5 P w K mg base):OkF P w K mg base 2 "_law_firsts" jvi ["_law_one","_law_other","_law_pair_here"] 3 m__law_firsts:=
 okF sc__law_firsts λhr=>have nd:=sc__law_firsts.nd;(j8 (kx0 (cv 2) (zj (is:=[3,4,5]) (zq K (t:=gNs [3,4,5]) (n:=3) (qw (gn nd) (qw (gn nd) (qw (gn nd) z4)))))) (j8 (qA nd (qza (j6 (qC am hr (j5 (cv 0) (j5 (cv 3) jk)))) T.b_range T.b_list)) (j8 (qA nd wxb) (j8 (qF (v7 (cv 5)) (zj (is:=[8,9]) (zq K (t:=gNs [8,9]) (n:=2) (qw (gn nd) (qw (gn nd) z4)))) (k3 (wx8 (i:=7) hr.units (pv 7) (vv 9) (cv 8)))) (j8 (qA nd wq) (j8 (qA nd (qL (vv 6) T.b_len)) (j8 (qF (xq (j6 (qC am hr (j5 (cv 1) (j5 (cv 4) jk)))) rfl T.b_range) (gN nd) (j8 (qP (jz (wx9 hr.units (vv 7) (vv 9) (vv 11)))) (k3 (qA nd (oA (vv 11) (j6 (Jv jwi kzp (j6 (Vv (vw9 hr.units) vqp (vv 9) (vv 7) (by rfl))) T.b_int YJ))))))) (j8 (qA nd (ww (o:=.rt) (j5 (qk (o:=.no) (j5 (cv 3) (j5 (qT (vv 6) T.b_tuple) jk))) (j5 (qk (o:=.no) (j5 (cv 4) (j5 (qT (vv 10) T.b_tuple) jk))) jk)))) (jK (qM .rt 1 [] 13 ["_law_standing"] (v7 (cv 12)) (λ_ _ _ _ _=>(jz (kx (j6 (ww (o:=.rt) (j5 (cv 0) (j5 kN jk)))) (j6 (Jv jwi kzp (j6 (Qj hr (kx (vv 0) ki) (j6 KJ))) T.b_int YJ)))))))))))))))
theorem jxq(T:Txt K mg)(ak:jvn P w K mg base)(dh:kkk P w K mg base)(b9:jxf P w K mg base):OkF P w K mg base 3 "_law_behind_all" jq4 ["_law_one","_law_other","_law_pair_here"] 3 m__law_behind_all:=
 okF sc__law_behind_all λhr=>have nd:=sc__law_behind_all.nd;(j8 (kx0 (qC ak hr (j5 (cv 0) (j5 (cv 1) (j5 (cv 2) jk)))) (zj (is:=[3,4]) (zq K (t:=gNs [3,4]) (n:=2) (qw (gn nd) (qw (gn nd) z4))))) (j8 (qA nd wxc) (j8 (qF (v7 (ww (o:=.rt) (j5 (cv 3) (j5 (cv 4) jk)))) (gN nd) (k3 (kj (xks (vv 6) kn) (k3 (qF (v7 (jz (kx (vv 6) ki))) (gN nd) (k3 (wxg (i:=5) hr.units (pv 5) (vv 7) wV))))))) (j8 (qA nd wq) (j8 (qF (v7 (jz (kx (vv 0) ki))) (gN nd) (k3 (qF (v7 (oA (j6 (Jv (qw7 K rfl) vxk (vv 5) T.b_list V0)) (j6 (ww (o:=.rt) (j5 (xkz vq8 wvd (vv 5) T.b_len wj5) jk))))) (gN nd) (j8 (qA nd (qC dh hr (j5 (qC b9 hr (j5 (cv 0) (j5 (cv 3) (j5 (cv 9) (j5 (cv 7) jk))))) (j5 (qC b9 hr (j5 (cv 1) (j5 (cv 4) (j5 (cv 9) (j5 (cv 7) jk))))) jk)))) (k3 (kj (vq (kj2 hr.units) kj8 (vv 10) (vv 8) (by rfl) kj7) (k3 (qP (cv 10))))))))) (jK (YZ (pv 8))))))))
theorem kxe(T:Txt K mg):OkF P w K mg base 1 "_law_good" jx8 ["_law_plain_here","_law_room"] 2 m__law_good:=
 okF kwt λhr=>(jK (vvp (j6 (Vv (vwa hr.units) vxj (vv 1) (j6 KJ) (z5 _))) (qq1 (jz (kx (kx (kx (vv 0) ki) (vv 1)) ki)))))
theorem kvk(T:Txt K mg)(ba:jxh P w K mg base)(bz:kq0 P w K mg base)(bi:jzi P w K mg base):OkF P w K mg base 4 "_law_table" jw3 ["_law_one","_law_other","_law_pair_here","_law_table_here"] 4 m__law_table:=
 okF sc__law_table λhr=>have nd:=sc__law_table.nd;(j8 (kj (vx (vX (j6 (K7 (vv 3) T.b_isinstance T.b_list V0 rfl)))) (jK wV)) (j8 (qA nd wxe) (j8 (qF (v7 (cv 3)) (gN nd) (j8 (kj (QW.pt (x4 (vx (vX (j6 (qC bz hr (j5 (cv 5) (j5 (cv 5) jk)))))) (J0 (vq (wzg hr.units) wjc (vv 5) (vv 4) (by rfl) xk6)))) (jK wV)) (j8 (vz4 (i:=4) hr.units rfl (pv 4) (vv 5) wV) (j8 (kj (QW.pt (x4 (vx (kva W9 (J9 (g:=λa b=>decide (a<=b))) wkv (J9 (g:=λa b=>decide (a<b))) (j6 KJ) (kx (vv 5) ki) (j6 (qL (kx (vv 0) ki) T.b_len)) Qk)) (J0 (vx (kva W9 (J9 (g:=λa b=>decide (a<=b))) wkv (J9 (g:=λa b=>decide (a<b))) (j6 KJ) (kx (vv 5) ki) (j6 (qL (kx (vv 1) ki) T.b_len)) Qk))))) (jK wV)) (k3 (kj (K3 hr (j6 (qC ba hr (j5 (cv 0) (j5 (jz (kx (vv 5) ki)) jk)))) (j6 (qC ba hr (j5 (cv 1) (j5 (jz (kx (vv 5) ki)) jk))))) (jK wV))))))) (j8 (qF (v7 (cv 3)) (gN nd) (k3 (kj (K3 hr (j6 (qm .rt 1 [4] 6 ["_law_after","_law_known"] (v7 (qC bi hr (j5 (cv 0) (j5 (cv 1) (j5 (cv 5) jk))))) (λhN _ _ _ _ _=>(YX (gn hN))) (λ_ _ _ _ _=>(YV (vq (qqb hr.units) kzo (vv 0) (vv 1) (by rfl) kzf))) (λ_ _ _ _ _=>(cv 0)))) (j6 wq)) (jK wV)))) (jK (Vv (wzg hr.units) wjc (vv 2) (vv 4) (by rfl)))))))
theorem kxd(T:Txt K mg):OkF P w K mg base 1 "_law_most" jx7 ["_law_plain_here"] 1 m__law_most:=
 okF kws λhr=>(jK (xkz (vxc K) wvc (j6 (qM .rt 1 [] 1 ["_law_room"] (v7 (jz (kx (vv 0) ki))) (λ_ _ _ _ _=>(jz (kx (vv 0) ki))))) T.b_max xk2))
theorem kvo(T:Txt K mg)(b9:jxf P w K mg base)(ba:jxh P w K mg base):OkF P w K mg base 2 "_law_parts" jw6 ["_law_one","_law_other","_law_standings","_law_row"] 4 m__law_parts:=
 okF sc__law_parts λhr=>have nd:=sc__law_parts.nd;(j8 (kx0 (cv 2) (zj (is:=[4,5]) (zq K (t:=gNs [4,5]) (n:=2) (qw (gn nd) (qw (gn nd) z4))))) (j8 (qF (v7 (cv 3)) (zj (is:=[6,7]) (zq K (t:=gNs [6,7]) (n:=2) (qw (gn nd) (qw (gn nd) z4)))) (j8 (qA nd (qC b9 hr (j5 (cv 0) (j5 (cv 4) (j5 (cv 6) (j5 (cv 7) jk)))))) (k3 (qA nd (qC b9 hr (j5 (cv 1) (j5 (cv 5) (j5 (cv 6) (j5 (cv 7) jk))))))))) (j8 (qA nd (ww (o:=.rt) (j5 KJ (j5 KJ jk)))) (j8 (qF (vz3 (ww (o:=.rt) (j5 (cv 4) (j5 (cv 5) jk))) rfl T.b_enumerate) (zj (is:=[9,10]) (zq K (t:=gNs [9,10]) (n:=2) (qw (gn nd) (qw (gn nd) z4)))) (k3 (kj (xks (vv 10) kn) (k3 (wk1 (i:=8) (pv 8) (vv 9) (jz (kx (vv 10) ki))))))) (jK (Vv (vwa hr.units) vxj (j6 (qC ba hr (j5 (cv 0) (j5 (jz (kx (vv 8) ki)) jk)))) (j6 (qC ba hr (j5 (cv 1) (j5 (jz (kx (vv 8) ki)) jk)))) (z5 _)))))))
theorem ok__law_row_holds(T:Txt K mg)(ak:jvn P w K mg base)(bb:jzq P w K mg base)(au:jwl P w K mg base)(b8:jxg P w K mg base):OkF P w K mg base 3 "_law_row_holds" s__law_row_holds ["_law_one","_law_other","_law_pair_here","_law_row"] 4 m__law_row_holds:=
 okF sc__law_row_holds λhr=>have nd:=sc__law_row_holds.nd;(j8 (kj (vx (vX (j6 (K7 (vv 3) T.b_isinstance T.b_list V0 rfl)))) (jK wV)) (j8 (qF (v7 (cv 3)) (gN nd) (j8 (kj (QW.pt (x4 (vx (vX (j6 (K7 (vv 4) T.b_isinstance T.b_tuple ZQ rfl)))) (x4 (K3 hr (j6 (qL (vv 4) T.b_len)) ki) (x4 (vx (vX (j6 (K7 (kx (vv 4) ki) T.b_isinstance T.b_str xk0 rfl)))) (J0 (vq (kj2 hr.units) kj8 (kx (vv 4) ki) (kx (vv 0) ki) (by rfl) kj7)))))) (jK wV)) (k3 (kj (QW.pt (x4 (vx (vX (j6 (qC au hr (j5 (jz (kx (vv 4) ki)) jk))))) (J0 (vx (kva W9 (J9 (g:=λa b=>decide (a<=b))) W9 (J9 (g:=λa b=>decide (a<=b))) ki (kx (vv 4) ki) (j6 (oA (j6 (qC b8 hr (j5 (cv 0) jk))) (j6 (qC b8 hr (j5 (cv 1) jk))))) Qk))))) (jK wV))))) (j8 (qA nd (qC ak hr (j5 (cv 0) (j5 (cv 1) (j5 (cv 2) jk))))) (j8 (qF (xq (j6 (qL (vv 3) T.b_len)) rfl T.b_range) (gN nd) (k3 (kj (vX (j6 (qC bb hr (j5 (cv 0) (j5 (cv 1) (j5 (cv 5) (j5 (VJ (vv 3) qz8 (Q5 (vv 6))) jk))))))) (jK wV)))) (jK (qC bb hr (j5 (cv 0) (j5 (cv 1) (j5 (cv 5) (j5 (cv 3) jk))))))))))
theorem kxa(T:Txt K mg)(bw:kqs P w K mg base):OkF P w K mg base 6 "_law_told" jx4 ["_law_one","_law_other","_law_pair_here","_law_way"] 4 jqo:=
 okF kwr λhr=>(j8 (kj (zY hr (vv 3) ki) (jK (wk3 bw.2 (hr.mono ⋯) K9 (j5 (cv 0) (j5 (cv 1) jk))))) (j8 (kj (zY hr (vv 3) ki) (jK (qC bw.1.e hr (j5 (cv 0) (j5 (cv 1) (j5 kN jk)))))) (jK (qC bw.1.e hr (j5 (cv 0) (j5 (cv 1) (j5 (cv 2) jk)))))))
theorem jza(T:Txt K mg)(ak:jvn P w K mg base)(b8:jxg P w K mg base)(bb:jzq P w K mg base):OkF P w K mg base 3 "_law_rows_part" jqd ["_law_one","_law_other","_law_pair_here","_law_cells","_law_most_here"] 5 WV:=
 okF sc__law_rows_part λhr=>have nd:=sc__law_rows_part.nd;(j8 (qA nd (qC ak hr (j5 (cv 0) (j5 (cv 1) (j5 (cv 2) jk))))) (j8 (qA nd (oA (j6 (oA (j6 (qC b8 hr (j5 (cv 0) jk))) (j6 (qC b8 hr (j5 (cv 1) jk))))) ki)) (j8 (qA nd wq) (j8 (qF (v7 (cv 3)) (gN nd) (j8 (kj (QW.pt (qz6 (vq W9 (J9 (g:=λa b=>decide (a<=b))) (j6 (qL (vv 7) T.b_len)) (vv 4) (z5 _) Qk) (qj9 (vX (j6 (qzc bb (hr.mono ⋯) K9 (YK (vv 0) (YK (vv 1) (YK (vv 5) (YK (vv 7) wxh)))))))))) (jK wV)) (j8 (qP (qk (o:=.no) (j5 (jz (kx (kx (vv 0) ki) (j6 (oM (vv 8) (j6 (qL (kx (vv 0) ki) T.b_len)))))) (j5 (oM (j6 (x3 (vv 8) ki)) (vv 6)) jk)))) (k3 (kj (xkt (j6 (qL (vv 7) T.b_len)) (j6 (q_b2 (vq5 rfl) (xwg λ_ _=>rfl) (vv 4) (j6 (oA ki (j6 (oM (j6 (x3 (vv 8) ki)) ki)))) T.b_min xk1))) (k3 (qA nd wq))))))) (jK wV)))))
theorem wzj(T:Txt K mg)(cq:kzu P w K mg base)(b5:kkz P w K mg base)(ae:jx2 P w K mg base)(dj:kkj P w K mg base)(bf:jzw P w K mg base)(ah:jq0 P w K mg base)(cf:jxy P w K mg base)(cw:kzt P w K mg base)(bm:T__law_row_holds P w K mg base)(am:jv5 P w K mg base)(F:Fun K "law" "law" wjo f fd):FnOk P w K mg base (CXE P w) 7 f fd ["_law_script"] (spF K mg 1 m_law):=
 vqu F sc_law (qj1 rfl) λcj A outer s H vs Q E hr h=>have nd:=sc_law.nd;vkg rfl
  (j8 (qA nd (qC cq hr (j5 (qC ae hr (j5 (cv 0) (j5 kI jk))) jk))) (j8 (qA nd (qC b5 hr (j5 (qC ae hr (j5 (cv 0) (j5 kI jk))) (j5 (cv 1) jk)))) (j8 (qA nd (qC ae hr (j5 (cv 0) (j5 kI jk)))) (j8 (kj (zY hr (j6 (oM (j6 (qC ae hr (j5 (cv 0) (j5 kI jk)))) ki)) ki) (k3 (qA nd (qC ae hr (j5 (cv 0) (j5 kI jk)))))) (j8 (qA nd (qC b5 hr (j5 (cv 3) (j5 (cv 1) jk)))) (j8 (qA nd (ww (o:=.rt) (j5 (qC b5 hr (j5 (qC ae hr (j5 (cv 0) (j5 kI jk))) (j5 (cv 1) jk))) (j5 (qC b5 hr (j5 (cv 3) (j5 (cv 1) jk))) jk)))) (j8 (qA nd (qk (o:=.no) (j5 kI (j5 kI (j5 (qk (o:=.no) jk) jk))))) (j8 (qA nd (oM (j6 (x3 (j6 (qC ae hr (j5 (cv 0) (j5 kI jk)))) ki)) ki)) (j8 (kj (xkt (vv 7) ki) (j8 (qA nd (Kv kx8 kzn (j6 (oM (j6 (qC ae hr (j5 (cv 0) (j5 kI jk)))) (j6 (oA (j6 (qL (kx (vv 2) ki) T.b_len)) ki)))) ki)) (j8 (qA nd (Kv kx8 kzn (j6 (oM (j6 (qC ae hr (j5 (cv 0) (j5 kI jk)))) (j6 (oA (j6 (qL (kx (vv 4) ki) T.b_len)) ki)))) ki)) (j8 (qA nd (jz (kx (j6 (qC ah hr (j5 (x3 (j6 (qC ae hr (j5 (cv 0) (j5 kI jk)))) ki) (j5 kI jk)))) ki))) (k3 (qA nd (qk (o:=.no) (j5 (cv 8) (j5 (cv 9) (j5 (qC cf hr (j5 (cv 10) (j5 (qC am hr (j5 (cv 2) (j5 (cv 8) jk))) (j5 (qC am hr (j5 (cv 4) (j5 (cv 9) jk))) jk)))) jk)))))))))) (j8 (qA nd (qC dj hr (j5 (cv 2) (j5 (cv 4) (j5 (cv 6) (j5 (cv 7) jk)))))) (j8 (kj (QW.pt (x4 (vx (vX (j6 (K7 (vv 11) T.b_isinstance T.b_tuple ZQ rfl)))) (x4 (K3 hr (j6 (qL (vv 11) T.b_len)) ki) (J0 (K3 hr (j6 (ww (o:=.rt) (j5 (cv 2) (j5 (cv 4) jk)))) (vv 5)))))) (jK wV)) (j8 (kj (zY hr (kx (vv 11) ki) ks) (j8 (kj (vx (vX (j6 (qC cw hr (j5 (cv 2) (j5 (cv 4) (j5 (cv 6) (j5 (jz (kx (vv 11) ki)) jk)))))))) (jK wV)) (jK (wk2 (j6 (qC bf hr (j5 (cv 2) (j5 (cv 4) (j5 (cv 6) (j5 (VJ (vv 0) (Q5 ki) (Q5 ki)) (j5 kI jk))))))))))) (j8 (kj (QW.pt (x4 (K3 hr (kx (vv 11) ki) ks) (J0 (vx (vX (j6 (qC bm hr (j5 (cv 2) (j5 (cv 4) (j5 (cv 6) (j5 (jz (kx (vv 11) ki)) jk))))))))))) (jK wV)) (jK (wk2 (j6 (qC bf hr (j5 (cv 2) (j5 (cv 4) (j5 (cv 6) (j5 (VJ (vv 0) (Q5 ki) (Q5 ki)) (j5 (Kv kx8 kzn (j6 (qL (kx (vv 11) ki) T.b_len)) ki) jk)))))))))))))))))))))) h
end
theorem all_mk{l:PySem.W.OpenLaw}{w:PySem.World}{K:Frag}{h:Heap}{mg:Str->Option Value}{fa:Addr}(X:K.In h)(G:h.Ns mainGlobals mg)(hfa:mg "law"=some (.ref fa)){dz cy gz:Value}{ck df:Addr}{en d9:Obj}
  (g0:Gf K "is_small" jz5)
  (g1:Gf K "read_by" kjl)
  (g2:Gf K "is_good_in" jw1)
  (g3:Gf K "agrees" kv7)
  (g4:Gf K "keepers_in" jw0)
  (g5:Gf K "standing_in" jve)
  (g6:Gf K "first_standings" jq3)
  (g7:Gf K "names_of" jz4)
  (g8:Gf K "held_by_both" jqy)
  (g9:Gf K "room_of" kjk)
  (g10:Gf K "pair_of" kjm)
  (g11:Gf K "read_by_both" jqw)
  (g12:Gf K "steps_from" jvz)
  (g13:Gf K "least_beside" jqx)
  (g14:Gf K "parting_row" jvf)
  (g15:Gf K "steps_to" jz2)
  (g16:Gf K "searched" jz3)
  (g17:GfD K "compared" jz6)
  (g18:Gf K "_law_cell_at" jv2)
  (g19:Gf K "_law_whole" jw2)
  (g20:Gf K "_law_stream" jvg)
  (g21:Gf K "_law_signs" jw4)
  (g22:Gf K "_law_fills" jw7)
  (g23:Gf K "_law_case" jx9)
  (g24:Gf K "_law_plain" jw5)
  (g25:Gf K "_law_chain" jw8)
  (g26:Gf K "_law_machine" jqz)
  (g27:Gf K "_law_read" jx5)
  (g28:Gf K "_law_shared" jvh)
  (g29:Gf K "_law_keepers" jv0)
  (g30:Gf K "_law_pair" jx6)
  (g31:Gf K "_law_is_pair" jv1)
  (g32:Gf K "_law_firsts" jvi)
  (g33:Gf K "_law_behind_all" jq4)
  (g34:Gf K "_law_good" jx8)
  (g35:Gf K "_law_table" jw3)
  (g36:Gf K "_law_most" jx7)
  (g37:Gf K "_law_parts" jw6)
  (g38:Gf K "_law_row_holds" s__law_row_holds)
  (g39:Gf K "_law_told" jx4)
  (g40:Gf K "_law_rows_part" jqd)
  (g41:Gf K "law" wjo)
  (gl:nsIn K mainGlobals "SMALL_ROOMS"=some (some dz)) (gr:RelV (V.int (12)) dz)
  (fj:nsIn K mainGlobals "SMALL_KEEPERS"=some (some cy)) (fg:RelV (V.int (3)) cy)
  (kl:nsIn K mainGlobals "NOWHERE"=some (some gz)) (ju:RelV (V.int (-1)) gz)
  (ia:nsIn K mainGlobals "FIRST_PAIR"=some (some (.ref ck)))
  (ic:K.lookup ck=some en)
  (i8:xwl en [(V.int 0),(V.int 0),.ref df])
  (gc:K.lookup df=some d9)
  (fz:xwl d9 [])
  (vp:nsIn K mainGlobals "all"=some none)
  (pr:nsIn K mainGlobals "bool"=some none)
  (pj:nsIn K mainGlobals "dict"=some none)
  (ip:nsIn K mainGlobals "enumerate"=some none)
  (wc:nsIn K mainGlobals "int"=some none)
  (i7:nsIn K mainGlobals "isinstance"=some none)
  (tq:nsIn K mainGlobals "len"=some none)
  (qi:nsIn K mainGlobals "list"=some none)
  (uz:nsIn K mainGlobals "max"=some none)
  (wa:nsIn K mainGlobals "min"=some none)
  (n8:nsIn K mainGlobals "range"=some none)
  (jb:nsIn K mainGlobals "reversed"=some none)
  (uw:nsIn K mainGlobals "set"=some none)
  (m6:nsIn K mainGlobals "sorted"=some none)
  (t8:nsIn K mainGlobals "str"=some none)
  (mz:nsIn K mainGlobals "tuple"=some none)
  : ∃fd:FuncData,(∀(s:Shared) (v:Value),BindsTo s fd #[[v],[]] [("_law_script",v)])/\∀base:Heap,K.In base->base.Ns mainGlobals mg->FnOk l.prog w K mg base (CXE l.prog w) 7 fa fd ["_law_script"] (spF K mg 1 m_law):=by
 have T:Txt K mg:=#[Xv X G vp,Xv X G pr,Xv X G pj,Xv X G ip,Xv X G wc,Xv X G i7,Xv X G tq,Xv X G qi,Xv X G uz,Xv X G wa,Xv X G n8,Xv X G jb,Xv X G uw,Xv X G m6,Xv X G t8,Xv X G mz,#[_,Zj X G gl,gr],#[_,Zj X G fj,fg],#[_,Zj X G kl,ju],#[_,#[_,Zj X G ia,(show RelV (.ref ck) _ from rfl)],λH=>(xwq (vj4 ic i8) (wjw vK (wjw vK (wjw (xwq (vj4 gc fz) wwn) wwn))))]];refine g41.law X G hfa fun {base _ _} F=>?_
 have c9:kqr l.prog w K mg base:=g0.d X G (qjm T  _ _);have dq:kzs l.prog w K mg base:=g1.d X G (qvo T  _ _);have bt:jzp l.prog w K mg base:=g2.d X G (kvi T  _ _);have gh:=g3.d X G (qzy T bt _ _);have bu:jzo l.prog w K mg base:=g4.d X G (kvh T  _ _);have bo:jxx l.prog w K mg base:=g5.d X G (kkp T  _ _);have aq:=g6.d X G (jxp T bu bo _ _);have bd:jzh l.prog w K mg base:=g7.d X G (qjl T  _ _);have b7:=g8.d X G (kjt T bd _ _);have dn:kzr l.prog w K mg base:=g9.d X G (qvn T  _ _);have fe:=g10.d X G (qvp T bd dn _ _);have b6:=g11.d X G (kjr T dq _ _);have cm:=g12.d X G (kvg T aq b7 fe b6 _ _);have c8:jx0 l.prog w K mg base:=g13.d X G (kjs T  _ _);have cg:=g14.d X G (kkq T aq b7 b6 c8 _ _);have ef:kqq l.prog w K mg base:=g15.d X G (qjj T  _ _);have cu:=g16.d X G (qjk T cm gh cg ef _ _);have bw:kqs l.prog w K mg base:=#[g17.d X G (kju T cu c9),g17.n X G (kju T cu c9)];have ae:jx2 l.prog w K mg base:=g18.d X G (kjy T  _ _);have au:jwl l.prog w K mg base:=g19.d X G (kvj T  _ _);have ah:jq0 l.prog w K mg base:=g20.d X G (kkr T  _ _);have cq:=g21.d X G (kvl T ah _ _);have be:jwm l.prog w K mg base:=g22.d X G (kvp T  _ _);have d8:=g23.d X G (kxf T be _ _);have cn:=g24.d X G (kvm T ah d8 _ _);have cp:=g25.d X G (kvq T ah be _ _);have b5:=g26.d X G (kjv T cn cp _ _);have b9:jxf l.prog w K mg base:=g27.d X G (kxb T  _ _);have cf:jxy l.prog w K mg base:=g28.d X G (kks T  _ _);have am:jv5 l.prog w K mg base:=g29.d X G (kjw T  _ _);have dh:kkk l.prog w K mg base:=g30.d X G (kxc T  _ _);have bz:=g31.d X G (kjx T au _ _);have ak:=g32.d X G (kkt T am _ _);have bi:=g33.d X G (jxq T ak dh b9 _ _);have ba:jxh l.prog w K mg base:=g34.d X G (kxe T  _ _);have cw:=g35.d X G (kvk T ba bz bi _ _);have b8:jxg l.prog w K mg base:=g36.d X G (kxd T  _ _);have bb:=g37.d X G (kvo T b9 ba _ _);have bm:=g38.d X G (ok__law_row_holds T ak bb au b8 _ _);have dj:kkj l.prog w K mg base:=g39.d X G (kxa T bw _ _);have bf:=g40.d X G (jza T ak b8 bb _ _);exact wzj T cq b5 ae dj bf ah cf cw bm am F
end Nk42
namespace PySem.W.Fast
theorem tw9100076728254984368:True:=#[]
theorem tw9062871188597867538:True:=#[]
theorem tw14846169885010080127:True:=#[]
theorem tw17976426383418972309:True:=#[]
theorem tw16008331611188123146:True:=#[]
theorem tw18028817991630928166:True:=#[]
theorem tw12912304694420995276:True:=#[]
theorem tw568555597762265137:True:=#[]
theorem tw16218087597011732561:True:=#[]
theorem tw4509096241304443975:True:=#[]
theorem tw10974386116430749060:True:=#[]
theorem tw18246330828178541842:True:=#[]
theorem tw5695715463512628400:True:=#[]
theorem tw2816128294966085026:True:=#[]
theorem tw8861345011131193270:True:=#[]
theorem tw11755877699622005895:True:=#[]
theorem tw946495634629005374:True:=#[]
theorem tw10256650641480599631:True:=#[]
theorem tw16730632710338810686:True:=#[]
theorem tw5066931909309896711:True:=#[]
theorem tw1249895364567632164:True:=#[]
theorem tw18143137919831915035:True:=#[]
theorem tw13401249706385955918:True:=#[]
theorem tw9803298766870309443:True:=#[]
theorem tw3942078460874931083:True:=#[]
theorem tw4503945624660354502:True:=#[]
theorem tw6022770495928669570:True:=#[]
theorem tw8644072903565822592:True:=#[]
theorem tw12659989209364779691:True:=#[]
theorem tw5571387713149628612:True:=#[]
theorem tw351455851793769292:True:=#[]
theorem tw1057972380816810567:True:=#[]
theorem tw7914924242940524341:True:=#[]
theorem tw3042223030828342656:True:=#[]
theorem tw8644776743591943891:True:=#[]
theorem tw4877777785920829438:True:=#[]
theorem tw5013432982652070993:True:=#[]
theorem tw5151389621820230553:True:=#[]
theorem tw15517056093501829034:True:=#[]
theorem tw7078054881892926051:True:=#[]
theorem tw11148337979114375713:True:=#[]
theorem tw4701165850845661742:True:=#[]
theorem tw1205593213550705727:True:=#[]
theorem tw13846750564631233044:True:=#[]
theorem tw5873732442323172592:True:=#[]
theorem tw15506493413125889571:True:=#[]
theorem tw4570645667920667705:True:=#[]
theorem tw7641580795565561766:True:=#[]
theorem tw16642146541695643059:True:=#[]
theorem tw14701885468194355120:True:=#[]
theorem tw6533153542867042818:True:=#[]
theorem tw13854362752583453493:True:=#[]
theorem tw905359984754568480:True:=#[]
theorem tw6869926963058163240:True:=#[]
theorem tw17145233712162222971:True:=#[]
theorem tw13274520907206616991:True:=#[]
theorem tw3863107754984563147:True:=#[]
theorem tw1100256011629356250:True:=#[]
theorem tw15874639712507252966:True:=#[]
theorem tw1149401051443011205:True:=#[]
theorem tw14626748832083859179:True:=#[]
theorem tw5669786828515271960:True:=#[]
theorem tw13715973163899794627:True:=#[]
theorem tw8705617148723835856:True:=#[]
theorem tw296942243479410093:True:=#[]
theorem tw6808243294782416340:True:=#[]
theorem tw3359328291808743849:True:=#[]
theorem tw4377474453060401721:True:=#[]
theorem tw17598301442742954869:True:=#[]
theorem tw2201670108447363236:True:=#[]
theorem tw17044005474129453880:True:=#[]
theorem tw1335913937487937219:True:=#[]
theorem tw12562244409136389862:True:=#[]
theorem tw5071911556208602452:True:=#[]
theorem tw17495166598349404393:True:=#[]
theorem tw3094801345660538539:True:=#[]
theorem tw6577579929885979834:True:=#[]
theorem tw10101606750222567886:True:=#[]
theorem tw12582664049546853100:True:=#[]
theorem tw16833856570428516731:True:=#[]
theorem tw3732096336427503828:True:=#[]
theorem tw10191916773882895786:True:=#[]
theorem tw9933639957446292214:True:=#[]
theorem tw1213810106553707441:True:=#[]
theorem tw8495810223911075075:True:=#[]
theorem tw17701147900640778145:True:=#[]
theorem tw16891135413824079814:True:=#[]
theorem tw17854166719725894689:True:=#[]
theorem tw12884247224852658665:True:=#[]
theorem tw11209485205073981541:True:=#[]
theorem tw8257282233286971673:True:=#[]
theorem tw5108212750693651510:True:=#[]
theorem tw15996853555135393831:True:=#[]
theorem tw269149902282327137:True:=#[]
theorem tw1553520725563229142:True:=#[]
theorem tw2383530027676047619:True:=#[]
theorem tw12171264112983224954:True:=#[]
theorem tw6963289609723510623:True:=#[]
theorem tw7887405794330842078:True:=#[]
theorem tw14871222148782305034:True:=#[]
theorem tw7314439661832239526:True:=#[]
theorem tw3983171474821828561:True:=#[]
theorem tw849656318337343176:True:=#[]
theorem tw5054550341338842812:True:=#[]
theorem tw10128663015173212877:True:=#[]
theorem tw7177944599954385231:True:=#[]
theorem tw11687435553747704036:True:=#[]
theorem tw1895026703457443468:True:=#[]
theorem tw3342541073652232036:True:=#[]
theorem tw2262392622975911102:True:=#[]
theorem tw5924268461332594472:True:=#[]
theorem tw3198745107943045857:True:=#[]
theorem tw1557235144477102734:True:=#[]
theorem tw3068112424434135222:True:=#[]
theorem tw7430835579559442306:True:=#[]
theorem tw5600004732425609349:True:=#[]
theorem tw8899704082537321787:True:=#[]
theorem tw1963254737167828119:True:=#[]
theorem tw1773664060974451822:True:=#[]
theorem tw15103604307789978185:True:=#[]
theorem tw15877268660159655012:True:=#[]
theorem tw7109085918580535609:True:=#[]
theorem tw14067030809958189630:True:=#[]
theorem tw11480560134136626853:True:=#[]
theorem tw3206997506973620626:True:=#[]
theorem tw7814298503012066514:True:=#[]
theorem tw1236441489678893073:True:=#[]
end PySem.W.Fast
open PySem PySem.W PyProof.Rows
set_option maxRecDepth 100000 in
set_option maxHeartbeats 0 in
set_option tactic.hygienic true in
theorem PySem.Challenge.cw_freshrooms_k42_whole_alike_or_apart_holds : PySem.Challenge.rw_freshrooms_k42_whole_alike_or_apart.Holds := by
 w_on;o_law;k_head;(case hw=>w_witness2)
 k_fill
 refine Q.walkQ (l:=PySem.Challenge.rw_freshrooms_k42_whole_alike_or_apart) (n:=63) (k:=7) (x:="_law_script") (f:=Nk42.m_law) rfl ⋯ rfl #[rfl,⋯,⋯,rfl] (fun w h Y=>PySem.W.kIn_of Y) ?F Nk42.law_true
 case F =>
  intro w mg fa h KX G hmg
  refine' Nk42.all_mk KX G hmg ?_ ?_ ?_ ?_ ?_ ?_ ?_ ?_ ?_ ?_ ?_ ?_ ?_ ?_ ?_ ?_ ?_ ?_ ?_ ?_ ?_ ?_ ?_ ?_ ?_ ?_ ?_ ?_ ?_ ?_ ?_ ?_ ?_ ?_ ?_ ?_ ?_ ?_ ?_ ?_ ?_ ?_ ?y0 ?y1 ?y2 ?y3 ?y4 ?y5 ?y6 ?y7 ?y8 ?y9 ?y10 ?y11 ?y12 ?y13 ?y14 ?y15 ?y16 ?y17 ?y18 ?y19 ?y20 ?y21 ?y22 ?y23 ?y24 ?y25 ?y26
  all_goals try (refine' Q.Gf.mk ?a ?b ?c ?d;(case a=>k_is);(case b=>k_is);(case c=>k_is);(case d=>k_is))
  all_goals try (refine' Q.GfD.mk ?a ?b ?c ?d ?e ?f;(case a=>k_is);(case b=>k_is);(case c=>k_is);(case d=>k_is);(case e=>k_is);(case f=>rfl))
  case y0 | y2 | y4 | y6 | y11 | y12 | y13 | y14 | y15 | y16 | y17 | y18 | y19 | y20 | y21 | y22 | y23 | y24 | y25 | y26=>k_is
  case y1 | y3 | y5=>exact #[_,rfl]
  case y7=>k_is
  case y8=>exact #[rfl,rfl,_,_,rfl,⋯,(.cons #[_,rfl] (.cons #[_,rfl] (.cons rfl .nil)))]
  case y9=>k_is
  case y10=>exact #[rfl,rfl,_,_,rfl,⋯,.nil]
