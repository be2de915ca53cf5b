import PyProof.Rows.All
import Wide.All
import OpenK.AllK
import Wide.FinOn
import Lean
import PySem.Challenge.RW_freshrooms_k62_whole_joined_rows
open PySem.W(Frag kitOne nsIn findIn)
set_option Elab.async false
set_option linter.all false
set_option bootstrap.genMatcherCode false
set_option compiler.extract_closed false
set_option maxRecDepth 100000
local macro_rules|`(#[$a,*])=>`(⟨$a,*⟩)
local macro_rules|`(⋯)=>`(by first|decide|lia)
local macro_rules|`(tactic|ac_rfl)=>`(tactic|with_unfolding_all rfl)
local macro_rules|`(tactic|exists$e)=>`(tactic|with_unfolding_all exact$e)
abbrev VP9:=PySem.Value->PySem.Shared->Prop
abbrev LA9:=List (PySem.Addr×PySem.Obj)
abbrev Kq9(k:List Int):=∀p∈k,0<=p/\p<=3
theorem aA{α}{a:α}{s t:List α}:a∈s++t->a∈s∨a∈t:=List.mem_append.mp
theorem aB{α}{a b:α}:a=b->a∈[b]:=List.mem_singleton.mpr
theorem aC{α}{a b:α}:a∈[b]->a=b:=List.mem_singleton.mp
theorem aD{α}{a b:α}{l:List α}:a∈b::l->a=b∨a∈l:=List.mem_cons.mp
theorem aE{α β}{f:α->β}{l:List α}{b:β}:b∈l.map f->∃a,a∈l∧f a=b:=List.mem_map.mp
local macro_rules|`(tactic|trivial)=>`(tactic|first|exact Or.inl rfl|exact Or.inr rfl)
def Ŕq(_:True:=by rfl):True:=trivial
def Ŕq.z:True:=trivial
open Ŕq renaming _auto_1→Ŕ
def ŕq(_:True:=by decide):True:=trivial
def ŕq.z:True:=trivial
open ŕq renaming _auto_1→ŕ
def Ŗq(_:True:=by intro _;rfl):True:=trivial
def Ŗq.z:True:=trivial
open Ŗq renaming _auto_1→Ŗ
def ŗq(_:True:=by decide +kernel):True:=trivial
def ŗq.z:True:=trivial
open ŗq renaming _auto_1→ŗ
def Řq(_:True:=by first|exact .inl rfl|exact .inr rfl|assumption):True:=trivial
def Řq.z:True:=trivial
open Řq renaming _auto_1→Ř
def řq(_:True:=by first|exact Or.inl rfl|exact Or.inr (Or.inl rfl)|exact Or.inr (Or.inr rfl)):True:=trivial
def řq.z:True:=trivial
open řq renaming _auto_1→ř
def Śq(_:True:=by trivial):True:=trivial
def Śq.z:True:=trivial
open Śq renaming _auto_1→Ś
def śq(_:True:=by first|exact .inl rfl|exact .inr rfl):True:=trivial
def śq.z:True:=trivial
open śq renaming _auto_1→ś
theorem oq9{α : Type _}{a b : α}(h:some a=some b):a=b:=Option.some.inj h
theorem lr9{α : Type _}{a : α}{b : List α}(c : List α)(h:a ∈ b):a ∈ c ++ b:=List.mem_append_right c h
theorem ll9{α : Type _}{a : α}{b : List α}(c : List α)(h:a ∈ b):a ∈ b ++ c:=List.mem_append_left c h
theorem lc9{α : Type _}{a : α}{l : List α}(b : α)(h:a ∈ l):a ∈ b::l:=List.mem_cons_of_mem b h
section
open PySem PySem.Spec PyProof.Rows
theorem X0:type_of% @wpAny_bind:=@wpAny_bind
theorem X1:type_of% @List.getElem?_eq_getElem:=@List.getElem?_eq_getElem
theorem X2:type_of% @List.getD_eq_getElem?_getD:=@List.getD_eq_getElem?_getD
theorem X3:type_of% @List.length_map:=@List.length_map
theorem X4:type_of% @wpAny_pure:=@wpAny_pure
theorem X5:type_of% @Heap.get?_push_of_some:=@Heap.get?_push_of_some
theorem X6:type_of% @List.mem_cons_self:=@List.mem_cons_self
theorem X7:type_of% @Heap.get?_push_size:=@Heap.get?_push_size
theorem X8:type_of% @List.getElem?_map:=@List.getElem?_map
theorem X9:type_of% @Nat.le_refl:=@Nat.le_refl
theorem Xa:type_of% @List.size_toArray:=@List.size_toArray
theorem Xb:type_of% @List.nodup_append:=@List.nodup_append
theorem Xd:type_of% @if_pos:=@if_pos
theorem Xe:type_of% @Heap.lt_size:=@Heap.lt_size
theorem Xf:type_of% @List.length_append:=@List.length_append
theorem Xg:type_of% @if_neg:=@if_neg
theorem Xh:type_of% @List.map_append:=@List.map_append
theorem Xi:type_of% @Nat.ne_of_lt:=@Nat.ne_of_lt
theorem Xj:type_of% @decide_eq_true:=@decide_eq_true
theorem Xk:type_of% @List.append_assoc:=@List.append_assoc
theorem Xl:type_of% @Nat.lt_of_lt_of_le:=@Nat.lt_of_lt_of_le
theorem Xm:type_of% @Array.length_toList:=@Array.length_toList
theorem Xn:type_of% @List.getElem?_append_left:=@List.getElem?_append_left
theorem Xp:type_of% @Int.toNat_natCast:=@Int.toNat_natCast
def Xq:type_of% @List.mem_map_of_mem:=@List.mem_map_of_mem
theorem Xr:type_of% @List.map_map:=@List.map_map
theorem Xs:type_of% @decide_eq_false:=@decide_eq_false
theorem Xu:type_of% @List.getElem_mem:=@List.getElem_mem
theorem Xv:type_of% @List.length_cons:=@List.length_cons
theorem Xw:type_of% @List.append_nil:=@List.append_nil
theorem Xx:type_of% @List.length_singleton:=@List.length_singleton
theorem Xy:type_of% @List.getElem?_eq_none:=@List.getElem?_eq_none
theorem Xz:type_of% @List.length_range:=@List.length_range
theorem Y0:type_of% @Heap.SameBut.update:=@Heap.SameBut.update
theorem Y1:type_of% @wpAny_call_entry:=@wpAny_call_entry
theorem Y2:type_of% @List.nodup_nil:=@List.nodup_nil
theorem Y3:type_of% @Heap.get?_update_self:=@Heap.get?_update_self
theorem Y4:type_of% @wpAny_newObj_type:=@wpAny_newObj_type
theorem Y5:type_of% @Int.emod_lt_of_pos:=@Int.emod_lt_of_pos
theorem Y6:type_of% @wpAny_callSpecial?_slot:=@wpAny_callSpecial?_slot
theorem Y7:type_of% @PySem.W.mg_none_of:=@PySem.W.mg_none_of
theorem Y8:type_of% @PyProof.Rows.callWith_type1:=@PyProof.Rows.callWith_type1
theorem Y9:type_of% @wpAny_holding:=@wpAny_holding
theorem Ya:type_of% @beq_false_of_ne:=@beq_false_of_ne
theorem Yb:type_of% @List.getElem?_append_right:=@List.getElem?_append_right
theorem Yc:type_of% @List.filter_append:=@List.filter_append
theorem Yd:type_of% @Nat.le_trans:=@Nat.le_trans
theorem Ye:type_of% @Array.getElem?_toList:=@Array.getElem?_toList
theorem Yf:type_of% @PySem.W.mg_of:=@PySem.W.mg_of
theorem Yg:type_of% @List.not_mem_nil:=@List.not_mem_nil
theorem Yh:type_of% @Int.emod_nonneg:=@Int.emod_nonneg
theorem Yi:type_of% @Nat.zero_le:=@Nat.zero_le
theorem Yj:type_of% @PySem.W.kia_one:=@PySem.W.kia_one
theorem Yk:type_of% @Array.getElem?_eq_getElem:=@Array.getElem?_eq_getElem
theorem Yl:type_of% @wpAny_setField:=@wpAny_setField
theorem Ym:type_of% @List.map_congr_left:=@List.map_congr_left
theorem Yn:type_of% @List.findIdx_lt_length_of_exists:=@List.findIdx_lt_length_of_exists
theorem Yo:type_of% @wpAny_Call_Name_kw:=@wpAny_Call_Name_kw
theorem Yp:type_of% @List.length_take:=@List.length_take
def Yq:type_of% @Obj.data_mapFields:=@Obj.data_mapFields
theorem Yr:type_of% @List.idxOf_lt_length_of_mem:=@List.idxOf_lt_length_of_mem
theorem Ys:type_of% @Nat.lt_irrefl:=@Nat.lt_irrefl
theorem Yt:type_of% @List.mem_cons:=@List.mem_cons
theorem Yu:type_of% @wpAny_truthy_bool:=@wpAny_truthy_bool
theorem Yv:type_of% @Nat.lt_succ_of_lt:=@Nat.lt_succ_of_lt
theorem Yw:type_of% @PySem.mem_of_lookup:=@PySem.mem_of_lookup
theorem Yx:type_of% @wpAny_field:=@wpAny_field
theorem Yy:type_of% @codeAny_builtin:=@codeAny_builtin
theorem Yz:type_of% @Obj.isFreed_of_fields:=@Obj.isFreed_of_fields
theorem Z0:type_of% @List.getElem?_set_ne:=@List.getElem?_set_ne
theorem Z1:type_of% @List.mem_of_getElem?:=@List.mem_of_getElem?
theorem Z2:type_of% @wpAny_typeNameOfWhole_keyiter:=@wpAny_typeNameOfWhole_keyiter
theorem Z3:type_of% @Around.under_plainId:=@Around.under_plainId
theorem Z4:type_of% @List.getElem_of_mem:=@List.getElem_of_mem
theorem Z5:type_of% @Heap.get?_update_ne:=@Heap.get?_update_ne
theorem Z6:type_of% @List.getElem?_range:=@List.getElem?_range
theorem Z7:type_of% @Heap.get?_update_other:=@Heap.get?_update_other
theorem Z8:type_of% @Heap.size_push:=@Heap.size_push
theorem Z9:type_of% @wpAny_rule:=@wpAny_rule
theorem Za:type_of% @wpAny_fieldsOf:=@wpAny_fieldsOf
theorem Zb:type_of% @List.getElem_idxOf:=@List.getElem_idxOf
theorem Zc:type_of% @List.length_replicate:=@List.length_replicate
theorem Zd:type_of% @wpAny_passesOwn:=@wpAny_passesOwn
theorem Ze:type_of% @List.foldl_cons:=@List.foldl_cons
theorem Zf:type_of% @wpAny_specialOf:=@wpAny_specialOf
theorem Zg:type_of% @List.nodup_cons:=@List.nodup_cons
theorem Zh:type_of% @Nat.ne_of_gt:=@Nat.ne_of_gt
theorem Zi:type_of% @List.ext_getElem?:=@List.ext_getElem?
theorem Zj:type_of% @wpAny_setState_of:=@wpAny_setState_of
theorem Zk:type_of% @List.length_drop:=@List.length_drop
theorem Zl:type_of% @List.all_eq_true:=@List.all_eq_true
theorem Zm:type_of% @Nat.le_succ:=@Nat.le_succ
theorem Zn:type_of% @wpAny_mono:=@wpAny_mono
theorem Zo:type_of% @codeAny_mono:=@codeAny_mono
end
noncomputable section
namespace L2
open PySem PySem.Spec PyProof.Rows
abbrev Key:=Sum Int Str
def qz5:Key->Value->Bool
 |.inl k,v=>Value.isInt k v|.inr x,v=>Value.isStrOf x v
def keyH(w:World):Key->Int
 |.inl k=>hashInt k|.inr x=>hashStr w x
theorem QJ:∀{k v},qz5 k v=true->(∃i t,k=Sum.inl i/\v=Value.int i t)\/(∃x t,k=Sum.inr x/\v=Value.str x t)
 |.inl i,v,h=>by
  obtain⟨t,e⟩:=Value.isInt_shape h;exact .inl #[i,t,rfl,e]
 |.inr x,v,h=>by
  obtain⟨t,e⟩:=Value.isStrOf_shape h;exact .inr #[x,t,rfl,e]
theorem vqh i t:qz5 (.inl i) (.int i t)=true:=by simp[qz5,Value.isInt]
theorem vqg x t:qz5 (.inr x) (.str x t)=true:=by simp[qz5,Value.isStrOf]
theorem xjm(a b):decide ((Sum.inl a:Key)=Sum.inl b)=(a==b):=by
 by_cases e:a=b
 ·subst e;simp
 ·grind
theorem xjj(a b):decide ((Sum.inr a:Key)=Sum.inr b)=decide (a=b):=by
 by_cases e:a=b
 ·subst e;simp
 ·grind
theorem xjl a b:decide ((Sum.inl a:Key)=Sum.inr b)=false:=Xs (λq=>nomatch q)
theorem xjk a b:decide ((Sum.inr a:Key)=Sum.inl b)=false:=Xs (λq=>nomatch q)
noncomputable def J9(prog:Program)(w:World):PySem.KeyKind prog w Key where
 is:=qz5
 hash:=keyH w
 inj:=λv a b ha hb=>by
  rcases QJ ha with⟨i,t,rfl,rfl⟩|⟨x,t,rfl,rfl⟩
  ·rcases QJ hb with⟨j,u,rfl,e⟩|⟨y,u,rfl,e⟩
   ·injection e with e1 _;rw[e1]
   ·exact nomatch e
  ·rcases QJ hb with⟨j,u,rfl,e⟩|⟨y,u,rfl,e⟩
   ·exact nomatch e
   ·injection e with e1 _;rw[e1]
 byValue:=λk v h=>by
  rcases QJ h with⟨i,t,rfl,rfl⟩|⟨x,t,rfl,rfl⟩<;>rfl
 pyHash:=λhv h=>by
  rcases QJ hv with⟨i,t,rfl,rfl⟩|⟨x,t,rfl,rfl⟩
  ·exact wpAny_pyHash_int h
  ·exact wpAny_pyHash_str h
 eqBool:=λhu hv h=>by
  rcases QJ hu with⟨i,t,rfl,rfl⟩|⟨x,t,rfl,rfl⟩
  ·rcases QJ hv with⟨j,u,rfl,rfl⟩|⟨y,u,rfl,rfl⟩
   ·rw[xjm]at h;exact wpAny_eqBool_int h
   ·rw[xjl]at h;exact SeqAt.EqAt.int_str i t y u _ _ _ _ h
  ·rcases QJ hv with⟨j,u,rfl,rfl⟩|⟨y,u,rfl,rfl⟩
   ·rw[xjk]at h;exact SeqAt.EqAt.str_int x t j u _ _ _ _ h
   ·rw[xjj]at h;exact wpAny_eqBool_str h
 «strs»:=λk x t v h=>by
  rcases QJ h with⟨i,u,rfl,e⟩|⟨y,u,rfl,e⟩
  ·exact nomatch e
  ·injection e with e1 _;subst e1;cases v<;>rfl
theorem qqp prog w i t:(J9 prog w).is (.inl i) (.int i t)=true:=vqh i t
theorem qqo prog w x t:(J9 prog w).is (.inr x) (.str x t)=true:=vqg x t
inductive V where
 |non|bl (b:Bool)|int (i:Int)|str (x:Str)|byt (b:Array UInt8)|flt (b:UInt64)|ref (a:Addr)|ty (n:String)
 deriving DecidableEq
def RelV:V->Value->Prop
 |.non,u=>u=Value.none|.bl b,u=>u=Value.bool b|.int i,u=>∃t,u=Value.int i t|.str x,u=>∃t,u=Value.str x t|.byt b,u=>∃t,u=Value.bytes b t|.flt b,u=>∃t,u=Value.float b t|.ref a,u=>u=Value.ref a|.ty n,u=>u=Value.type n
abbrev Vals:List V->List Value->Prop:=Paired RelV
theorem Vals.length{xs us}(r:Vals xs us):xs.length=us.length:=Paired.length r
theorem Vals.get:∀{xs us} {i:Nat} {x},Vals xs us->xs[i]?=some x->∃u,us[i]?=some u/\RelV x u
 |_,_,_,_,.nil,e=>by simp at e|_,_,0,_,.cons r _,e=>by simp at e;subst e;exact#[_,rfl,r]
 |_,_,i+1,x,.cons _ t,e=>by
  obtain⟨u,h1,h2⟩:=Vals.get t (by simpa using e);exact#[u,by simpa using h1,h2]
theorem Vals.set{x u}(r:RelV x u):∀{xs us} (i),Vals xs us->Vals (xs.set i x) (us.set i u)
 |_,_,_,.nil=>.nil|_,_,0,.cons _ t=>.cons r t|_,_,i+1,.cons q t=>.cons q (Vals.set r i t)
theorem Vals.append:∀{xs ys us ws},Vals xs us->Vals ys ws->Vals (xs++ys) (us++ws)
 |_,_,_,_,.nil,s=>s|_,_,_,_,.cons r t,s=>.cons r (Vals.append t s)
theorem Vals.take:∀{xs us} (n),Vals xs us->Vals (xs.take n) (us.take n)
 |_,_,0,_=>.nil|_,_,_+1,.nil=>.nil|_,_,n+1,.cons r t=>.cons r (Vals.take n t)
theorem Vals.drop:∀{xs us} (n),Vals xs us->Vals (xs.drop n) (us.drop n)
 |_,_,0,r=>r|_,_,_+1,.nil=>.nil|_,_,n+1,.cons _ t=>Vals.drop n t
def RelO:Option V->Option Value->Prop
 |some v,some u=>RelV v u|none,none=>True|_,_=>False
def KV{κ:Type}:List (κ×V)->List (κ×Value)->Prop:=Paired λ(p:κ×V) (q:κ×Value)=>p.1=q.1/\RelV p.2 q.2
def kV:Key->V
 |.inl i=>.int i|.inr x=>.str x
inductive HO where
 |lst (xs:List V)
 |tup (xs:List V)
 |dK (kvs:List (Key×V))|dT (kvs:List (List Key×V))
 |set (S:Int->Bool) (n:Nat)
 |ins (C dx:Addr) (fs:List (Str×V))
 |own (x:Addr)
 |xd (fs:List (Str×V))
 |met (f x:Addr)
 |rng (lo hi:Int)
 |frz (o:Obj) (u:HO)
 |tbl (ps:Array Value)
 |ext (φ:World->Heap->Prop)
abbrev Hp:=Addr->Option HO
def IsTupD(h:Heap)(a:Addr)(items:Array Value):Prop:=∃o,h.get? a=some o/\o.cls=.type "tuple"/\o.dict=none/\∃n,o.data=.seq items n
theorem IsTupD.tup{h a items}(p:IsTupD h a items):IsTup h a items:=by
 obtain⟨o,e,c,_,n,d⟩:=p;exact⟨o,e,c,n,d⟩
theorem IsTupD.new(h:Heap) xs:IsTupD (h.push {cls:=.type "tuple",data:=.seq xs}) h.objs.size xs:=⟨_,X7 _ rfl,rfl,rfl,0,rfl⟩
noncomputable def upd(H:Hp)(a:Addr)(o:HO):Hp:=λb=>if b=a then some o else H b
theorem xK{H a o}:upd H a o a=some o:=by unfold upd;rw[Xd rfl]
theorem qQ{H a b o}(h:b≠a):upd H a o b=H b:=by unfold upd;rw[Xg h]
theorem KQ{H:Hp}{a b o}(h:H a=some o)(h':H b=none):a≠b:=by
 grind
section
variable (P:Program)(w:World)
noncomputable def ObjOk(H : Hp)(h : Heap)(a : Addr): HO -> Prop
  |.lst xs=>xs.length<=sizeLine /\ ∃(af : List Value) (n : Nat),Vals xs af /\ h.get? a = some {cls:= .type "list",data:= .seq af.toArray n}|.tup xs=>xs.length<=sizeLine /\ ∃af : List Value,Vals xs af /\ IsTupD h a af.toArray|.dK kvs=>kvs.length<=sizeLine /\ (a==sysModules) = false /\ ∃vs,KV kvs vs /\ h.DictOf (J9 P w) a vs
  |.dT kvs=>kvs.length<=sizeLine /\ (a==sysModules) = false /\ ∃xs : List (List Key × Addr × Value),
      Paired (λ(p : List Key × V) (q : List Key × Addr × Value)=>p.1 = q.1 /\ H q.2.1 = some (.tup (p.1.map kV)) /\ RelV p.2 q.2.2) kvs xs /\
      ∃o es ep,h.get? a = some o /\ o.ExactDict /\ o.data = .dict es ep /\ es.toList = xs.map (entryOfKey (tupleKind (J9 P w))) /\ (xs.map (·.1)).Nodup
  |.set S n=>h.SetOf (intKind P w) a S n
  |.ins C dx fs=>H dx = some (.own a) /\ fs.length<=1000 /\ dx≠a /\ h.get? a = some (PySem.W.instObj C dx) /\
      ∃mA,h.Ns1 dx mA /\ (∀f,RelO (fs.lookup f) (mA f)) /\ PySem.Within mA (fs.map (·.1))
  |.own _=> ∃o,h.get? a = some o|.xd fs=> ∃mA,h.Ns1 a mA /\ ∀f,RelO (fs.lookup f) (mA f)|.rng lo hi=> ∃t u v,h.get? a = some {cls:= .type "range",data:= .fields (List.toArray [.int lo t,.int hi u,.int 1 v])}|.frz o u=>h.get? a = some o /\ ObjOk H h a u|.tbl ps=>h.get? a = some {cls:= .none,data:= .fields ps}|.met f x=>h.get? a = some (PySem.W.methodObj (.ref f) (.ref x))|.ext φ=>φ w h /\ (∃o,h.get? a = some o) /\ ∀h1 h2 : Heap,φ w h1 -> (∀o,h1.get? a = some o -> h2.get? a = some o) -> φ w h2
def HOk(H:Hp)(h:Heap):Prop:=∀a o,H a=some o->ObjOk P w H h a o
end
section
variable {P:Program}{w:World}{H H':Hp}{h h':Heap}{a:Addr}{o:HO}
theorem ObjOk.lt(x:ObjOk P w H h a o):a<h.objs.size:=by
 cases o with|lst xs=>obtain⟨_,_,_,_,e⟩:=x;exact Xe e|tup xs=>obtain⟨_,_,_,p⟩:=x;exact p.tup.lt|dK kvs=>obtain⟨_,_,_,_,o,_,_,e,_⟩:=x;exact Xe e|dT kvs=>obtain⟨_,_,_,_,o,_,_,e,_⟩:=x;exact Xe e|set S n=>obtain⟨o,_,_,_,e,_⟩:=x;exact Xe e|ins C dx fs=>obtain⟨_,_,_,e,_⟩:=x;exact Xe e|own y=>obtain⟨_,e⟩:=x;exact Xe e|xd fs=>obtain⟨_,⟨_,_,_,e,_⟩,_⟩:=x;exact Xe e|rng lo hi=>obtain⟨_,_,_,e⟩:=x;exact Xe e|frz ob u=>obtain⟨e,_⟩:=x;exact Xe e|tbl ps=>exact Xe (x)|met f y=>exact Xe (x)|ext φ=>obtain⟨_,⟨_,e⟩,_⟩:=x;exact Xe e
theorem Paired.mapP{α β F G}:∀{l₁:List α} {l₂:List β},Paired F l₁ l₂->(∀a b,F a b->G a b)->Paired G l₁ l₂
 |_,_,.nil,_=>.nil|_,_,.cons r t,f=>.cons (f _ _ r) (Paired.mapP t f)
theorem ObjOk.stay(x:ObjOk P w H h a o)(k:∀b u,(b=a\/H b=some (.own a))->h.get? b=some u->h'.get? b=some u)
  (ho:∀b,H b=some (.own a)->H' b=some (.own a)) (ht:∀b xs,H b=some (.tup xs)->H' b=some (.tup xs)):ObjOk P w H' h' a o:=by
 induction o with
 |lst xs=>obtain⟨z,af,n,r,e⟩:=x;exact#[z,af,n,r,k _ _ (.inl rfl) e]|tup xs=>obtain⟨z,af,r,ob,e,c⟩:=x;exact#[z,af,r,ob,k _ _ (.inl rfl) e,c]|dK kvs=>obtain⟨z,y,vs,r,ob,es,ep,e,c⟩:=x;exact#[z,y,vs,r,ob,es,ep,k _ _ (.inl rfl) e,c]
 |dT kvs=>
  obtain⟨z,y,xs,r,ob,es,ep,e,c⟩:=x;exact#[z,y,xs,Paired.mapP r λp q z=>#[z.1,ht _ _ z.2.1,z.2.2],ob,es,ep,k _ _ (.inl rfl) e,c]
 |set S n=>obtain⟨ob,es,ep,t,e,c⟩:=x;exact#[ob,es,ep,t,k _ _ (.inl rfl) e,c]
 |ins C dx fs=>
  obtain⟨d,z,ne,e,mA,⟨od,es,ep,e2,c⟩,r⟩:=x;exact#[ho _ d,z,ne,k _ _ (.inl rfl) e,mA,#[od,es,ep,k _ _ (.inr d) e2,c],r]
 |own y=>obtain⟨ob,e⟩:=x;exact#[ob,k _ _ (.inl rfl) e]|xd fs=>obtain⟨mA,⟨od,es,ep,e,c⟩,r⟩:=x;exact#[mA,#[od,es,ep,k _ _ (.inl rfl) e,c],r]|rng lo hi=>obtain⟨t,u,v,e⟩:=x;exact#[t,u,v,k _ _ (.inl rfl) e]|frz ob u ih=>obtain⟨e,q⟩:=x;exact#[k _ _ (.inl rfl) e,ih q]
 |tbl ps=>
  have e:h.get? a=some {cls:=.none,data:=.fields ps}:=x;exact k a _ (.inl rfl) e
 |met f y=>
  have e:=x;exact k a _ (.inl rfl) e
 |ext φ=>obtain⟨p,⟨o,e⟩,st⟩:=x;exact#[st _ _ p λo q=>k _ _ (.inl rfl) q,#[o,k _ _ (.inl rfl) e],st]
theorem HOk.lt(x:HOk P w H h)(e:H a=some o):a<h.objs.size:=(x a o e).lt
theorem HOk.fresh(x:HOk P w H h)(e:h.objs.size<=a):H a=none:=by
 cases q:H a with|none=>rfl|some u=>exact absurd (Xl (x.lt q) e) (Ys _)
theorem HOk.kept(x:HOk P w H h)(k:∀b u,h.get? b=some u->h'.get? b=some u):HOk P w H h':=λa o e=>
 (x a o e).stay (λb u _ q=>k b u q) (λ_ q=>q) λ_ _ q=>q
theorem HOk.laid(x:HOk P w H h)(k:∀b u,h.get? b=some u->h'.get? b=some u)(hp:h.objs.size<=a)(new:ObjOk P w (upd H a o) h' a o):HOk P w (upd H a o) h':=λb u e=>by
 have hn:=x.fresh hp
 by_cases hb:b=a
 ·subst hb;rw[xK]at e;cases e;exact new
 ·rw[qQ hb]at e;exact(x b u e).stay (λc v _ q=>k c v q) (λc q=>by rw[qQ (KQ q hn)];exact q) λc xs q=>by rw[qQ (KQ q hn)];exact q
end
def Rd(H:Hp)(a:Addr)(u:HO):Prop:=H a=some u\/∃o,H a=some (.frz o u)
theorem Rd.ok{P w H h a u}(r:Rd H a u)(x:HOk P w H h):ObjOk P w H h a u:=by
 rcases r with r|⟨o,r⟩
 ·exact x a u r
 ·obtain⟨_,q⟩:=x a _ r;exact q
def Mut:Option HO->Prop
 |some (.lst _)=>True|some (.dK _)=>True|some (.dT _)=>True|some (.set _ _)=>True|some (.ins _ _ _)=>True|some (.ext _)=>True|_=>False
section
variable {P:Program}{w:World}{H:Hp}{h h':Heap}{x e:Addr}{o':HO}
theorem HOk.write(ok:HOk P w H h)(mu:Mut (H x))(he:e=x\/H e=some (.own x))(k:∀b u,b≠e->h.get? b=some u->h'.get? b=some u)(uj:∃u,h'.get? e=some u)
  (new:ObjOk P w (upd H x o') h' x o'):HOk P w (upd H x o') h':=λb u q=>by
 have nown:∀c y,H c=some (.own y)->c≠x:=λc y r z=>by subst z;rw[r]at mu;exact mu
 have ntup:∀c xs,H c=some (.tup xs)->c≠x:=λc xs r z=>by subst z;rw[r]at mu;exact mu
 by_cases hb:b=x
 ·subst hb;rw[xK]at q;cases q;exact new
 ·rw[qQ hb]at q
  by_cases hbe:b=e
  ·have q':H b=some (.own x):=by
    rcases he with z|z
    ·exact absurd (hbe.trans z) hb
    ·rw[hbe];exact z
   rw[q]at q';cases q';obtain⟨v,hv⟩:=uj;exact#[v,by rw[hbe];exact hv]
  ·refine(ok b u q).stay (λc v hc r=>k c v ?_ r) (λc r=>by rw[qQ (nown c b r)];exact r) λc xs r=>by rw[qQ (ntup c xs r)];exact r
   rcases hc with rfl|hc
   ·exact hbe
   ·grind
end
structure Un (fs ex:List Addr)(H H':Hp)(h h':Heap):Prop where
 keep:∀b o,h.get? b=some o->H b=none->b∉fs->b∉ex->h'.get? b=some o
 slot:∀b o,h.get? b=some o->H b=none->b∈fs->b∉ex->∃sl,h'.get? b=some {o with slots:=sl}
 free:∀b o,h.get? b=some o->H b=none->b∉ex->H' b=none
 there:∀b o,h.get? b=some o->b∉ex->∃o',h'.get? b=some o'
 tups:∀b xs,H b=some (.tup xs)->H' b=some (.tup xs)
 frzs:∀b o u,H b=some (.frz o u)->H' b=some (.frz o u)
 tbls:∀b ps,H b=some (.tbl ps)->∃bb,H' b=some (.tbl (ps++bb))
section
variable {fs fs' ex ex':List Addr}{H H1 H2:Hp}{h h1 h2 h':Heap}{a x e:Addr}{o:HO}
theorem Un.any(u:Un fs ex H H1 h h1){b ob}(q:h.get? b=some ob)(n:H b=none)(hx:b∉ex):∃sl,h1.get? b=some {ob with slots:=sl}:=by
 by_cases hb:b∈fs
 ·exact u.slot b ob q n hb hx
 ·exact#[ob.slots,u.keep b ob q n hb hx]
theorem Un.kept(k:∀b u,h.get? b=some u->h'.get? b=some u):Un fs ex H H h h':=
 #[λb ob q _ _ _=>k b ob q,λb ob q _ _ _=>#[ob.slots,k b ob q],λ_ _ _ n _=>n,λb ob q _=>#[ob,k b ob q],λ_ _ q=>q,λ_ _ _ q=>q,λ_ ps q=>#[(List.toArray []),by rw[q];simp]]
theorem Un.refl:Un fs ex H H h h:=Un.kept λ_ _ q=>q
theorem Un.laid(k:∀b u,h.get? b=some u->h'.get? b=some u)(hp:h.objs.size<=a)(hn:H a=none):Un fs ex H (upd H a o) h h' where
 keep:=λb u q _ _ _=>k b u q
 slot:=λb u q _ _ _=>#[u.slots,k b u q]
 free:=λb u q n _=>by rw[qQ (Xi (Xl (Xe q) hp))];exact n
 there:=λb u q _=>#[u,k b u q]
 tups:=λb xs q=>by rw[qQ (KQ q hn)];exact q
 frzs:=λb u xs q=>by rw[qQ (KQ q hn)];exact q
 tbls:=λb ps q=>#[(List.toArray []),by rw[qQ (KQ q hn),q];simp]
theorem Un.write(mu:Mut (H x))(he:e=x\/H e=some (.own x))(k:∀b u,b≠e->h.get? b=some u->h'.get? b=some u)(uj:∃u,h'.get? e=some u):Un fs ex H (upd H x o) h h':=by
 have hx:∀b,H b=none->b≠x:=λb n z=>by subst z;rw[n]at mu;exact mu
 have hb:∀b,H b=none->b≠e:=λb n z=>by
  subst z;rcases he with r|r
  ·exact hx b n r
  ·grind
 have hm:∀b u,H b=some u->¬Mut (some u)->b≠x:=λb u q nm z=>by subst z;rw[q]at mu;exact nm mu
 refine#[λb u q n _ _=>k b u (hb b n) q,λb u q n _ _=>#[u.slots,k b u (hb b n) q],λb u q n _=>by rw[qQ (hx b n)];exact n,λb u q _=>?_,
  λb xs q=>by rw[qQ (hm b _ q λz=>z)];exact q,λb u xs q=>by rw[qQ (hm b _ q λz=>z)];exact q,λb ps q=>#[(List.toArray []),by rw[qQ (hm b _ q λz=>z),q];simp]]
 by_cases hbe:b=e
 ·grind
 ·exact#[u,k b u hbe q]
end
noncomputable def trk(h:Heap)(H:Hp):List Addr:=(List.range h.objs.size).filter λa=>(H a).isSome
def Ww(h:Heap)(H:Hp):Heap:=PySem.W.hideAll h (trk h H)
theorem vqr h H:(Ww h H).objs.size=h.objs.size:=PySem.W.hideAll_size _ _
theorem vxv{h H b o}(e:h.get? b=some o)(n:H b=none):(Ww h H).get? b=some o:=
 PySem.W.hideAll_get _ e λhm=>by
  have q:=(List.mem_filter.mp hm).2;rw[n]at q;simp at q
theorem wv2{h H b o}(e:(Ww h H).get? b=some o):h.get? b=some o/\H b=none:=by
 have e':=PySem.W.of_hideAll _ e;refine#[e',?_];cases q:H b with
 |none=>rfl
 |some x=>
  have hm:b∈trk h H:=List.mem_filter.mpr #[List.mem_range.mpr (Xe e'),by simp[q]];have z:(Ww h H).get? b=none:=PySem.W.hideAll_none _ hm
  grind
structure Mod (K:Frag)(mg:Str->Option Value)(base:Heap):Prop where
 kin:K.In base
 glob:base.Ns mainGlobals mg
 blt:∃mb,base.Ns builtinsNs mb/\∀x:Str,x≠"__name__"->mb x=bootBuiltins x
 nolimit:base.NoLimit
structure Cx where
 prog:Program
 w:World
 K:Frag
 mg:Str->Option Value
 base:Heap
 A:Around
 N:List Str
 s₀:Shared
 H₀:Hp
 env:Env
 outer:List Env
 stack:List Env
 ex:List Addr
 fn:Str->Bool
 calm:Bool
 pn:LA9
 xe:VP9
noncomputable def frs(l:List Env):List Addr:=l.filterMap (·.frame)
abbrev Cx.fs(X:Cx):List Addr:=frs X.outer
def Vis(sc:Scope)(x:Str):Prop:=sc.names.lookup x=some .local\/sc.names.lookup x=some .cell\/sc.names.lookup x=some .free
def Loc(sc:Scope)(x:Str):Prop:=sc.names.lookup x=some .local\/sc.names.lookup x=some .cell
def Look(env:Env)(h:Heap)(m:Str->Option Value)(x:Str)(u:Value):Prop:=
 (env.kindOf x=some .local/\m x=some u)\/((env.kindOf x=some .cell\/env.kindOf x=some .free)/\∃c,env.cells.lookup x=some c/\h.IsCell c (some u))
structure Cx.Ok (X:Cx):Prop where
 mod:Mod X.K X.mg X.base
 kind:X.env.scope.kind=.function
 glob:X.env.globals=mainGlobals
 blt:X.env.builtins=builtinsNs
 above:X.s₀.heap.objs.size<=X.env.locals
 inj:∀x y c,X.env.cells.lookup x=some c->X.env.cells.lookup y=some c->x=y
 has:∀x,(X.env.kindOf x=some .cell\/X.env.kindOf x=some .free)->∃c,X.env.cells.lookup x=some c
 cab:∀x c,X.fn x=true->X.env.cells.lookup x=some c->X.s₀.heap.objs.size<=c
 hd:X.calm=true->X.A.handled=none
 frames:X.A.frames=some X.stack
 stk:X.stack=X.outer\/(X.stack=X.env::X.outer/\X.env.frame=some X.env.locals)
 exf:∀b∈X.ex,b≠X.env.locals/\∀x c,X.env.cells.lookup x=some c->c≠b
 bs:∀b o,X.base.get? b=some o->X.s₀.heap.get? b=some o/\X.H₀ b=none
 bsz:X.base.objs.size<=X.s₀.heap.objs.size
 noex:∀b o,X.base.get? b=some o->b∉X.ex
 exfs:∀b∈X.ex,b∉X.fs
 funs:X.s₀.heap.FunFrames X.base X.outer
 frf:∀b∈X.fs,X.H₀ b=none
structure Inv (X:Cx)(a8:LA9)(σ:List (Option V))(H:Hp)(s:Shared):Prop where
 ok:X.Ok
 os:s.os=X.s₀.os
 bare:AllBare s.gens
 base:Un X.fs X.ex X.H₀ H X.s₀.heap s.heap
 loc:∃m,s.heap.Ns X.env.locals m/\∀(i:Nat) (x:Str) (v:V),X.N[i]?=some x->σ[i]?=some (some v)->Vis X.env.scope x->∃u,RelV v u/\Look X.env s.heap m x u
 cell:∀x c,X.env.cells.lookup x=some c->∃v,s.heap.IsCell c v
 free:H X.env.locals=none
 freeC:∀x c,X.env.cells.lookup x=some c->H c=none
 pin:∀p∈X.pn++a8,s.heap.get? p.1=some p.2/\H p.1=none/\p.1≠X.env.locals/\p.1∉X.fs/\∀v,p.2.data≠.cell v
 hok:HOk X.prog X.w H s.heap
 len:σ.length=X.N.length
section
variable {X:Cx}{a8:LA9}{σ:List (Option V)}{H H':Hp}{s:Shared}{h':Heap}
theorem Cx.Ok.nofr(ok:X.Ok){b o}(e:X.base.get? b=some o):b∉X.fs:=λhb=>by
 have:=(ok.funs.mem hb).1
 grind
theorem Inv.bs(I:Inv X a8 σ H s):∀b o,X.base.get? b=some o->s.heap.get? b=some o/\H b=none:=λb o e=>
 #[I.base.keep b o (I.ok.bs b o e).1 (I.ok.bs b o e).2 (I.ok.nofr e) (I.ok.noex b o e),I.base.free b o (I.ok.bs b o e).1 (I.ok.bs b o e).2 (I.ok.noex b o e)]
theorem Inv.bk(I:Inv X a8 σ H s):∀b o,X.base.get? b=some o->s.heap.get? b=some o:=λb o e=>(I.bs b o e).1
theorem Inv.mod(I:Inv X a8 σ H s):Mod X.K X.mg X.base:=I.ok.mod
theorem Inv.kIn(I:Inv X a8 σ H s):X.K.In s.heap:=I.ok.mod.kin.keeps I.bk
theorem Inv.lt(I:Inv X a8 σ H s):X.env.locals<s.heap.objs.size:=let ⟨_,hn,_⟩:=I.loc;hn.lt
theorem Inv.sz(I:Inv X a8 σ H s):X.s₀.heap.objs.size<=s.heap.objs.size:=Yd I.ok.above (Nat.le_of_lt I.lt)
theorem Inv.nofs(I:Inv X a8 σ H s){a:Addr}(h:s.heap.objs.size<=a):a∉X.fs:=λhb=>by
 obtain⟨_,o,ho,_⟩:=I.ok.funs.mem hb;exact absurd (Xl (Xe ho) (Yd I.sz h)) (Ys _)
theorem Inv.cne(I:Inv X a8 σ H s):∀x c,X.env.cells.lookup x=some c->c≠X.env.locals:=λx c e z=>by
 obtain⟨v,o,ho,hd⟩:=I.cell x c e;obtain⟨m,⟨o',es,ep,ik,hd',_⟩,_⟩:=I.loc
 grind
theorem Inv.funs(I:Inv X a8 σ H s):s.heap.FunFrames X.base X.outer:=by
 have all:∀l,(∀b∈frs l,b∈X.fs)->X.s₀.heap.FunFrames X.base l->s.heap.FunFrames X.base l:=by
  intro l
  induction l with
  |nil=>intro _ _;trivial
  |cons env r ih=>
   rintro hs ⟨hk,⟨L,o,hf,hn,ho,hd⟩,hr⟩;have hL:=hs L (by unfold frs;rw[List.filterMap_cons,hf];exact X6);obtain⟨sl,e⟩:=I.base.slot L o ho (I.ok.frf L hL) hL λz=>I.ok.exfs L z hL
   exact#[hk,#[L,_,hf,hn,e,hd],ih (λb hb=>hs b (by unfold frs;rw[List.filterMap_cons,hf];exact lc9 _ hb)) hr]
 exact all X.outer (λ_ hb=>hb) I.ok.funs
theorem Inv.stack(I:Inv X a8 σ H s):s.heap.FunFrames X.base X.stack:=by
 rcases I.ok.stk with e|⟨e,hf⟩
 ·rw[e];exact I.funs
 ·rw[e];obtain⟨m,hn,_⟩:=I.loc;exact .cons (by rw[I.ok.kind];decide) hf hn (Heap.get?_none_of_le (Yd I.ok.bsz I.ok.above)) I.funs
theorem Inv.stkSub(I:Inv X a8 σ H s):∀b∈frs X.stack,b∈X.env.locals::X.fs:=λb hb=>by
 rcases I.ok.stk with e|⟨e,hf⟩
 ·rw[e]at hb;exact lc9 _ hb
 ·rw[e]at hb;unfold frs at hb;rw[List.filterMap_cons,hf]at hb;exact hb
theorem Inv.stkFree(I:Inv X a8 σ H s):∀b∈frs X.stack,H b=none:=λb hb=>by
 rcases aD (I.stkSub b hb)with e|hb
 ·rw[e];exact I.free
 ·obtain⟨_,o,ho,_⟩:=I.ok.funs.mem hb;exact I.base.free b o ho (I.ok.frf b hb) λz=>I.ok.exfs b z hb
theorem Inv.step{g' t' d'}{ch:List Addr}(I:Inv X a8 σ H s)
  (gy:∀b∈ch,(b∈X.ex\/X.s₀.heap.objs.size<=b)/\b≠X.env.locals/\(∀x c,X.env.cells.lookup x=some c->c≠b)/\∀p∈X.pn++a8,p.1≠b)
  (keep:∀b o,b≠X.env.locals->b∉X.fs->b∉ch->s.heap.get? b=some o->H b=none->h'.get? b=some o)
  (slot:∀b o,b≠X.env.locals->b∈X.fs->b∉ch->s.heap.get? b=some o->H b=none->∃sl,h'.get? b=some {o with slots:=sl}) (free:∀b o,b∉ch->s.heap.get? b=some o->H b=none->H' b=none)
  (there:∀b o,b∉ch->s.heap.get? b=some o->∃o',h'.get? b=some o')
  (tups:∀b xs,H b=some (.tup xs)->H' b=some (.tup xs)) (frzs:∀b o u,H b=some (.frz o u)->H' b=some (.frz o u)) (tbls:∀b ps,H b=some (.tbl ps)->∃bb,H' b=some (.tbl (ps++bb)))
  (ns:∀m,s.heap.Ns X.env.locals m->h'.Ns X.env.locals m) (hok:HOk X.prog X.w H' h') (hg:AllBare g'):
  Inv X a8 σ H' {s with heap:=h',gens:=g',drawn:=d',toks:=t' }:=by
 have sk:∀b o,X.s₀.heap.get? b=some o->b≠X.env.locals:=λb o e=>Xi (Xl (Xe e) I.ok.above)
 have ni:∀b o,X.s₀.heap.get? b=some o->b∉X.ex->b∉ch:=λb o e hx hb=>by
  rcases(gy b hb).1 with z|z
  ·exact hx z
  ·exact absurd (Xl (Xe e) z) (Ys _)
 have jf:∀x c,X.env.cells.lookup x=some c->∀v,s.heap.IsCell c v->h'.IsCell c v:=λx c e v #[o,ho,hd]=>by
  have mq:=λz=>(gy c z).2.2.1 x c e rfl
  by_cases hc:c∈X.fs
  ·obtain⟨sl,q⟩:=slot c o (I.cne x c e) hc mq ho (I.freeC x c e);exact#[_,q,hd]
  ·exact#[o,keep c o (I.cne x c e) hc mq ho (I.freeC x c e),hd]
 refine#[I.ok,I.os,hg,#[λb o e n hb hx=>?_,λb o e n hb hx=>?_,λb o e n hx=>?_,λb o e hx=>?_,λb xs e=>tups b xs (I.base.tups b xs e),λb o xs e=>frzs b o xs (I.base.frzs b o xs e),λb ps e=>?_],?_,λx c e=>?_,?_,λx c e=>?_,λp hp=>?_,hok,I.len]
 ·exact keep b o (sk b o e) hb (ni b o e hx) (I.base.keep b o e n hb hx) (I.base.free b o e n hx)
 ·obtain⟨sl,e1⟩:=I.base.slot b o e n hb hx;obtain⟨sl',e2⟩:=slot b _ (sk b o e) hb (ni b o e hx) e1 (I.base.free b o e n hx);exact#[sl',e2]
 ·obtain⟨o',e1⟩:=I.base.there b o e hx;exact free b o' (ni b o e hx) e1 (I.base.free b o e n hx)
 ·obtain⟨o',e1⟩:=I.base.there b o e hx;exact there b o' (ni b o e hx) e1
 ·obtain _:=I.base.tbls b ps e
  grind
 ·obtain⟨m,hn,hl⟩:=I.loc;refine#[m,ns m hn,λi x v e1 e2 e3=>?_];obtain⟨u,r,l⟩:=hl i x v e1 e2 e3;refine#[u,r,?_];rcases l with l|⟨k,c,e,z⟩
  ·exact .inl l
  ·exact .inr #[k,c,e,jf x c e _ z]
 ·obtain⟨v,z⟩:=I.cell x c e;exact#[v,jf x c e v z]
 ·obtain⟨m,⟨o,_,_,ho,_⟩,_⟩:=I.loc;exact free _ o (λz=>(gy _ z).2.1 rfl) ho I.free
 ·obtain⟨v,o,ho,hd⟩:=I.cell x c e;exact free c o (λz=>(gy c z).2.2.1 x c e rfl) ho (I.freeC x c e)
 ·obtain⟨e,n,ne,nf,d⟩:=I.pin p hp;have mq:=λz=>(gy p.1 z).2.2.2 p hp rfl
  exact#[keep p.1 p.2 ne nf mq e n,free p.1 p.2 mq e n,ne,nf,d]
theorem Inv.un{t'}(I:Inv X a8 σ H s)(u:Un X.fs [] H H' s.heap h')(hok:HOk X.prog X.w H' h'):Inv X a8 σ H' {s with heap:=h',toks:=t' }:=by
 obtain⟨m,⟨o,es,ep,ho,r⟩,_⟩:=id I.loc;obtain⟨sl,hL⟩:=u.any ho I.free (by simp);exact I.step (g':=s.gens) (d':=s.drawn) (ch:=[]) (λ_ z=>nomatch z) (λb o _ hb _ e n=>u.keep b o e n hb (by simp)) (λb o _ hb _ e n=>u.slot b o e n hb (by simp)) (λb o _ e n=>u.free b o e n (by simp)) (λb o _ e=>u.there b o e (by simp)) u.tups u.frzs u.tbls (λm' hm=>by
  obtain⟨o',es',ep',ik,r'⟩:=hm;rw[ho]at ik;cases ik;exact#[_,es',ep',hL,r']) hok I.bare
theorem Inv.call{g' t' d' ch}(I:Inv X a8 σ H s)(u:Un (frs X.stack) ch H H' s.heap h')(hok:HOk X.prog X.w H' h')(hg:AllBare g')
  (gy:∀b∈ch,(b∈X.ex\/X.s₀.heap.objs.size<=b)/\b≠X.env.locals/\(∀x c,X.env.cells.lookup x=some c->c≠b)/\∀p∈X.pn++a8,p.1≠b):
  Inv X a8 σ H' {s with heap:=h',gens:=g',drawn:=d',toks:=t' }:=by
 obtain⟨m,⟨o,es,ep,ho,r⟩,_⟩:=id I.loc;obtain⟨sl,hL⟩:=u.any ho I.free λz=>(gy _ z).2.1 rfl
 exact I.step gy (λb o hL hb hc e n=>u.keep b o e n (λz=>(aD (I.stkSub b z)).elim hL hb) hc) (λb o _ _ hc e n=>u.any e n hc) (λb o hc e n=>u.free b o e n hc) (λb o hc e=>u.there b o e hc) u.tups u.frzs u.tbls (λm' hm=>by
  obtain⟨o',es',ep',ik,r'⟩:=hm;rw[ho]at ik;cases ik;exact#[_,es',ep',hL,r']) hok hg
theorem Inv.turned{t' it}(I:Inv X a8 σ H s)(k:∀b o,b≠it->s.heap.get? b=some o->h'.get? b=some o)(hn:H it=none)(hL:it≠X.env.locals)
  (h1:it∈X.ex\/X.s₀.heap.objs.size<=it) (h2:∀x c,X.env.cells.lookup x=some c->c≠it) (h3:∀p∈X.pn++a8,p.1≠it):Inv X a8 σ H {s with heap:=h',toks:=t' }:=by
 have t9:∀b u,H b=some u->b≠it:=λb u e z=>by rw[z,hn]at e;cases e
 refine I.step (g':=s.gens) (d':=s.drawn) (ch:=[it]) (λb hb=>?_) (λb o _ _ hc e _=>k b o (λz=>hc (by simp[z])) e) (λb o _ _ hc e _=>#[o.slots,k b o (λz=>hc (by simp[z])) e]) (λ_ _ _ _ n=>n)
  (λb o hc e=>#[o,k b o (λz=>hc (by simp[z])) e]) (λ_ _ e=>e) (λ_ _ _ e=>e) (λb ps e=>#[(List.toArray []),by rw[e];simp]) (λm hm=>?_) (λb u e=>?_) I.bare
 ·have e:b=it:=by simpa using hb
  subst e;exact#[h1,hL,h2,h3]
 ·obtain⟨o,es,ep,ho,r⟩:=hm;exact#[o,es,ep,k _ o (Ne.symm hL) ho,r]
 ·refine(I.hok b u e).stay (λc v hc q=>k c v ?_ q) (λ_ q=>q) λ_ _ q=>q
  rcases hc with z|z
  ·rw[z];exact t9 b u e
  ·exact t9 c _ z
theorem Inv.tok(I:Inv X a8 σ H s) t:Inv X a8 σ H {s with toks:=t}:=I.un (h':=s.heap) (t':=t) Un.refl I.hok
theorem Inv.kept{t'}(I:Inv X a8 σ H s)(k:∀b u,s.heap.get? b=some u->h'.get? b=some u):Inv X a8 σ H {s with heap:=h',toks:=t' }:=I.un (Un.kept k) (I.hok.kept k)
theorem Inv.laid{a:Addr}{o t'}(I:Inv X a8 σ H s)(k:∀b u,s.heap.get? b=some u->h'.get? b=some u)(hp:s.heap.objs.size<=a)(new:ObjOk X.prog X.w (upd H a o) h' a o):
  Inv X a8 σ (upd H a o) {s with heap:=h',toks:=t' }:=I.un (Un.laid k hp (I.hok.fresh hp)) (I.hok.laid k hp new)
theorem Inv.write{x e o t'}(I:Inv X a8 σ H s)(mu:Mut (H x))(he:e=x\/H e=some (.own x))(k:∀b u,b≠e->s.heap.get? b=some u->h'.get? b=some u)(uj:∃u,h'.get? e=some u)
  (new:ObjOk X.prog X.w (upd H x o) h' x o):Inv X a8 σ (upd H x o) {s with heap:=h',toks:=t' }:=I.un (Un.write mu he k uj) (I.hok.write mu he k uj new)
theorem Inv.pins_of{eq}(I:Inv X a8 σ H s)(h:∀p∈eq,s.heap.get? p.1=some p.2/\H p.1=none/\p.1≠X.env.locals/\p.1∉X.fs/\∀v,p.2.data≠.cell v):Inv X eq σ H s:=
 #[I.ok,I.os,I.bare,I.base,I.loc,I.cell,I.free,I.freeC,λp hp=>(aA hp).elim (λz=>I.pin p (ll9 _ z)) (h p),I.hok,I.len]
theorem qw6{N:List Str}(hN:N.Nodup){i j:Nat}{x}(a:N[i]?=some x)(b:N[j]?=some x):i=j:=by
 obtain⟨h1,e1⟩:=List.getElem?_eq_some_iff.mp a;obtain⟨h2,e2⟩:=List.getElem?_eq_some_iff.mp b;exact(List.getElem_inj hN).mp (e1.trans e2.symm)
theorem vjh{M A E i x v u Q}(I:Inv X a8 σ H s)(hN:X.N.Nodup)(hi:X.N[i]?=some x)(hx:Loc X.env.scope x)(r:RelV v u)
  (h:∀s',Inv X a8 (σ.set i (some v)) H s'->(∃a,Heap.SameBut a s.heap s'.heap/\(a=X.env.locals\/X.env.cells.lookup x=some a))->Q () s') (hf:autoParam (X.fn x=true\/X.env.scope.names.lookup x=some .local) Ř):wpAny M A (storeName X.env x u) Q E s:=by
 obtain⟨m,hn,hl⟩:=id I.loc;have hcls:(X.env.scope.kind == .class||(X.env.scope.kind == .module&&X.env.locals != X.env.globals))=false:=by rw[I.ok.kind];rfl
 have hiσ:i < σ.length:=by rw[I.len];exact(List.getElem?_eq_some_iff.mp hi).1
 have cne:=I.cne;have lc:∀{a h'},(∃o,s.heap.get? a=some o/\H a=none)->Heap.SameBut a s.heap h'->HOk X.prog X.w H h':=fun {a h'} ha hs b ob e=>by
  refine(I.hok b ob e).stay (λc w' hc q=>(hs.2 c ?_).trans q) (λ_ q=>q) λ_ _ q=>q
  rintro rfl;rcases hc with rfl|hc
  ·grind
  ·grind
 rcases hx with hk|hk
 ·refine wpAny_storeName_local hk hn (λh' pi hs=>?_) hcls;obtain⟨oL,_,_,tm,_⟩:=id hn;refine h _ #[I.ok,I.os,I.bare,#[λb o e n hb hx=>?_,λb o e n hb hx=>?_,I.base.free,λb o e hx=>?_,I.base.tups,I.base.frzs,I.base.tbls],#[_,pi,λj y v' e1 e2 e3=>?_],λy c e=>?_,I.free,I.freeC,λp hp=>?_,lc #[oL,tm,I.free] hs,by simpa using I.len] #[_,hs,.inl rfl]
  ·exact(hs.2 b (Xi (Xl (Xe e) I.ok.above))).trans (I.base.keep b o e n hb hx)
  ·obtain⟨sl,e1⟩:=I.base.slot b o e n hb hx;exact#[sl,(hs.2 b (Xi (Xl (Xe e) I.ok.above))).trans e1]
  ·obtain⟨o',e1⟩:=I.base.there b o e hx;exact#[o',(hs.2 b (Xi (Xl (Xe e) I.ok.above))).trans e1]
  ·by_cases hj:j=i
   ·subst hj;rw[hi]at e1;cases e1;rw[List.getElem?_set_self hiσ]at e2;cases e2;exact#[u,r,.inl #[hk,by simp]]
   ·rw[Z0 (Ne.symm hj)]at e2;obtain⟨u',r',q⟩:=hl j y v' e1 e2 e3;refine#[u',r',?_];rcases q with⟨k,e⟩|⟨k,c,e,z⟩
    ·refine .inl #[k,?_];have:y≠x:=λe=>hj (qw6 hN e1 (e▸hi))
     simp[this,e]
    ·exact .inr #[k,c,e,z.sameBut hs (cne y c e)]
  ·obtain⟨w',z⟩:=I.cell y c e;exact#[w',z.sameBut hs (cne y c e)]
  ·obtain⟨e,n,ne,nf,d⟩:=I.pin p hp;exact#[(hs.2 p.1 ne).trans e,n,ne,nf,d]
 ·have hfn:X.fn x=true:=by
   rcases hf with z|z
   ·exact z
   ·grind
  obtain⟨c,hc⟩:=I.ok.has x (.inl hk);obtain⟨w',z⟩:=I.cell x c hc;refine wpAny_storeName_cell I.ok.kind hk hc z (λh' mx hs=>?_);obtain⟨oc,hoc,hocd⟩:=id z;refine h {s with heap:=h' } #[I.ok,I.os,I.bare,#[λb o e n hb hx=>?_,λb o e n hb hx=>?_,I.base.free,λb o e hx=>?_,I.base.tups,I.base.frzs,I.base.tbls],#[m,hn.sameBut hs (Ne.symm (cne x c hc)),λj y v' e1 e2 e3=>?_],λy c' e=>?_,I.free,I.freeC,λp hp=>?_,lc #[oc,hoc,I.freeC x c hc] hs,by simpa using I.len] #[c,hs,.inr hc]
  ·exact(hs.2 b (Xi (Xl (Xe e) (I.ok.cab x c hfn hc)))).trans (I.base.keep b o e n hb hx)
  ·obtain⟨sl,e1⟩:=I.base.slot b o e n hb hx;exact#[sl,(hs.2 b (Xi (Xl (Xe e) (I.ok.cab x c hfn hc)))).trans e1]
  ·obtain⟨o',e1⟩:=I.base.there b o e hx;exact#[o',(hs.2 b (Xi (Xl (Xe e) (I.ok.cab x c hfn hc)))).trans e1]
  ·by_cases hj:j=i
   ·subst hj;rw[hi]at e1;cases e1;rw[List.getElem?_set_self hiσ]at e2;cases e2;exact#[u,r,.inr #[.inl hk,c,hc,mx]]
   ·rw[Z0 (Ne.symm hj)]at e2;obtain⟨u',r',q⟩:=hl j y v' e1 e2 e3;refine#[u',r',?_];rcases q with q|⟨k,c',e,z'⟩
    ·exact .inl q
    ·refine .inr #[k,c',e,z'.sameBut hs ?_];rintro rfl;exact hj (qw6 hN e1 (I.ok.inj _ _ _ e hc▸hi))
  ·by_cases ip:c'=c
   ·subst ip;exact#[_,mx]
   ·obtain⟨w2,z2⟩:=I.cell y c' e;exact#[w2,z2.sameBut hs ip]
  ·obtain⟨e,n,ne,nf,d⟩:=I.pin p hp;refine#[(hs.2 p.1 ?_).trans e,n,ne,nf,d];intro q;rw[q,hoc]at e;have q':oc=p.2:=oq9 e;exact d w' (q'▸hocd)
theorem kx5{M A E i x v u Q}(I:Inv X a8 σ H s)(hN:X.N.Nodup)(hi:X.N[i]?=some x)(hx:Loc X.env.scope x)(r:RelV v u)
  (h:∀s',Inv X a8 (σ.set i (some v)) H s'->Q () s') (hf:autoParam (X.fn x=true\/X.env.scope.names.lookup x=some .local) Ř):wpAny M A (storeName X.env x u) Q E s:=
 vjh I hN hi hx r (λs' I' _=>h s' I') hf
theorem Inv.call'{s' ch}(I:Inv X a8 σ H s)(ho:s'.os=s.os)(u:Un (frs X.stack) ch H H' s.heap s'.heap)(hok:HOk X.prog X.w H' s'.heap)(hg:AllBare s'.gens)
  (gy:∀b∈ch,(b∈X.ex\/X.s₀.heap.objs.size<=b)/\b≠X.env.locals/\(∀x c,X.env.cells.lookup x=some c->c≠b)/\∀p∈X.pn++a8,p.1≠b):Inv X a8 σ H' s':=by
 obtain⟨h',g',d',t',o'⟩:=s';subst ho;exact I.call (g':=g') (t':=t') (d':=d') u hok hg gy
end
abbrev XK:=Value->Option Addr->Hp->Prop
abbrev St:=List (Option V)
abbrev VK:=V->Hp->Prop
abbrev TE:=St->Hp->VK->Prop
abbrev TT:=St->Hp->(Bool->Hp->Prop)->Prop
abbrev TA:=St->Hp->(List V->Hp->Prop)->Prop
structure Ends where
 nx:St->Hp->Prop
 rt:VK
 bk:St->Hp->Prop:=λ_ _=>False
 ct:St->Hp->Prop:=λ_ _=>False
abbrev TS:=Ends->St->Hp->Prop
def EP(X:Cx)(a8:LA9)(σ:St)(Q:VK)(u:Value)(s':Shared):Prop:=∃v H',Inv X a8 σ H' s'/\RelV v u/\Q v H'
def TP(X:Cx)(a8:LA9)(σ:St)(Q:Bool->Hp->Prop)(b:Bool)(s':Shared):Prop:=∃H',Inv X a8 σ H' s'/\Q b H'
def AP(X:Cx)(a8:LA9)(σ:St)(Q:List V->Hp->Prop)(us:List Value)(s':Shared):Prop:=∃vs H',Inv X a8 σ H' s'/\Vals vs us/\Q vs H'
noncomputable def SP(X:Cx)(a8:LA9)(D:Ends)(f:Flow)(s':Shared):Prop:=
 match f with
 |.next=>∃ σ' H',Inv X a8 σ' H' s'/\D.nx σ' H'|.brk=>∃ σ' H',Inv X a8 σ' H' s'/\D.bk σ' H'|.cont=>∃ σ' H',Inv X a8 σ' H' s'/\D.ct σ' H'|.ret u=>∃v σ' H',Inv X a8 σ' H' s'/\RelV v u/\D.rt v H'
def PE(X:Cx)(e:Expr)(t:TE):Prop:=
 ∀(a8:LA9) (s:Shared) (σ:St) (H:Hp) (Q:VK),Inv X a8 σ H s->t σ H Q->wpAny (model X.prog X.w) X.A (eval e X.env) (EP X a8 σ Q) X.xe s
def PT(X:Cx)(e:Expr)(t:TT):Prop:=
 ∀(a8:LA9) (s:Shared) (σ:St) (H:Hp) (Q:Bool->Hp->Prop),Inv X a8 σ H s->t σ H Q->wpAny (model X.prog X.w) X.A (isTrue e X.env (eval e X.env)) (TP X a8 σ Q) X.xe s
def PW(X:Cx)(e:Expr)(t:TT):Prop:=
 ∀(i5:Sem Value) (a8:LA9) (s:Shared) (σ:St) (H:Hp) (Q:Bool->Hp->Prop),Inv X a8 σ H s->t σ H Q->wpAny (model X.prog X.w) X.A (isTrue e X.env i5) (TP X a8 σ Q) X.xe s
theorem PW.pt{X e t}(h:PW X e t):PT X e t:=h _
def PA(X:Cx)(es:List Expr)(t:TA):Prop:=
 ∀(pos:Pos) (a8:LA9) (s:Shared) (σ:St) (H:Hp) (Q:List V->Hp->Prop),Inv X a8 σ H s->t σ H Q->wpAny (model X.prog X.w) X.A (spliced (backTo pos (starEach es X.env))) (AP X a8 σ Q) X.xe s
def PS(X:Cx)(st:Stmt)(t:TS):Prop:=
 ∀(a8:LA9) (s:Shared) (σ:St) (H:Hp) (D:Ends),Inv X a8 σ H s->t D σ H->wpAny (model X.prog X.w) X.A (exec st X.env) (SP X a8 D) X.xe s
def PSs(X:Cx)(st:List Stmt)(t:TS):Prop:=
 ∀(a8:LA9) (s:Shared) (σ:St) (H:Hp) (D:Ends),Inv X a8 σ H s->t D σ H->wpAny (model X.prog X.w) X.A (execs st X.env) (SP X a8 D) X.xe s
theorem thn{α t}{Q Q':α->Shared->Prop}{M A E s}(h:wpAny M A t Q E s)(hQ:∀a s,Q a s->Q' a s):wpAny M A t Q' E s:=Zn h hQ λ_ _ x=>x
section
variable {X:Cx}
abbrev K0(i:Nat):TE:=fun σ H Q=>∃v,σ[i]?=some (some v)/\Q v H
abbrev tC(v:V):TE:=λ_ H Q=>Q v H
theorem wzj{i x pos}(hN:X.N[i]?=some x)(hv:Vis X.env.scope x)(hd:autoParam ((x==("__debug__":Str))=false) ŕ)(ju:autoParam ((x==("__classdict__":Str))=false) ŕ):PE X (.Name x pos) (K0 i):=by
 rintro a8 s σ H Q I ⟨v,e,h⟩;obtain⟨m,hn,hl⟩:=I.loc;obtain⟨u,r,l⟩:=hl i x v hN e hv;have fin:EP X a8 σ Q u s:=#[v,H,I,r,h];rcases l with⟨hk,hm⟩|⟨hk,c,hc,hcell⟩
 ·exact wpAny_Name (wpAny_loadName_local I.ok.kind hk hn hm fin) hd
 ·rcases hk with hk|hk
  ·exact wpAny_Name (wpAny_loadName_cell I.ok.kind hk hc hcell fin) hd
  ·exact wpAny_Name (wpAny_loadName_free I.ok.kind hk hc hcell fin ju) hd
theorem wzq{i j pos}:PE X (.Constant (.int i) j pos) (tC (.int i)):=λ_ _ _ H _ I h=>wpAny_Constant_int #[.int i,H,I.tok _,#[_,rfl],h]
theorem xQ{b j pos}:PE X (.Constant (.bool b) j pos) (tC (.bl b)):=λ_ _ _ H _ I h=>Constant_bool #[.bl b,H,I,rfl,h]
theorem wzn{j pos}:PE X (.Constant .none j pos) (tC .non):=λ_ _ _ H _ I h=>Constant_none #[.non,H,I,rfl,h]
theorem qje{x j pos}:PE X (.Constant (.str x) j pos) (tC (.str x)):=λ_ _ _ H _ I h=>Calls.Constant_str #[.str x,H,I.tok _,#[_,rfl],h]
def Gl(X:Cx)(x:Str):Prop:=X.env.kindOf x=some .globalImplicit
theorem kqx{E a8 s}{σ:St}{H x u pos Q}(I:Inv X a8 σ H s)(hg:Gl X x)(hm:X.mg x=some u)(h:Q u s)
  (hd:autoParam ((x==("__debug__":Str))=false) ŕ):wpAny (model X.prog X.w) X.A (eval (.Name x pos) X.env) Q E s:=
 Calls.Name_function_global I.ok.kind hg (Calls.loadGlobal_global (I.ok.glob▸I.mod.glob.keeps I.bk) hm h) hd
theorem K3{E a8 s}{σ:St}{H x u pos Q}(I:Inv X a8 σ H s)(hg:Gl X x)(hm:X.mg x=none)(hv:bootBuiltins x=some u)(h:Q u s)
  (hn:autoParam (x≠"__name__") ŕ) (hd:autoParam ((x==("__debug__":Str))=false) ŕ):wpAny (model X.prog X.w) X.A (eval (.Name x pos) X.env) Q E s:=by
 obtain⟨mb,h1,h2⟩:=I.mod.blt;exact Calls.Name_function_global I.ok.kind hg (Calls.loadGlobal_builtin (I.ok.glob▸I.mod.glob.keeps I.bk) hm (I.ok.blt▸h1.keeps I.bk) ((h2 x hn).trans hv) h) hd
theorem wqr{x v u pos}(hg:Gl X x)(hm:X.mg x=some u)(r:RelV v u)(hd:autoParam ((x==("__debug__":Str))=false) ŕ):PE X (.Name x pos) (tC v):=
 λ_ _ _ H _ I h=>kqx I hg hm #[v,H,I,r,h] hd
theorem wqw{x v u pos}(hg:Gl X x)(hm:X.mg x=none)(hv:bootBuiltins x=some u)(r:RelV v u)(hn:autoParam (x≠"__name__") ŕ)(hd:autoParam ((x==("__debug__":Str))=false) ŕ):PE X (.Name x pos) (tC v):=
 λ_ _ _ H _ I h=>K3 I hg hm hv #[v,H,I,r,h] hn hd
variable {a b:Expr}{ta tb:TE}{pos:Pos}
variable {tA tB':TT}{am:List Expr}
abbrev tAnd(t u:TT):TT:=fun σ H Q=>t σ H λc H1=>if c=true then u σ H1 Q else Q false H1
abbrev tOr(t u:TT):TT:=fun σ H Q=>t σ H λc H1=>if c=true then Q true H1 else u σ H1 Q
abbrev tNot(t:TT):TT:=fun σ H Q=>t σ H λc H1=>Q (!c) H1
theorem wq8(ha:PT X a tA):PW X (.BoolOp .And [a] pos) tA:=by
 intro wh a8 s σ H Q I h;refine isTrue_and (thn (ha a8 s σ H Q I h) λc s1 e=>?_);cases c with|true=>exact isTrue_and_nil e|false=>exact e
theorem wz7(ha:PT X a tA):PW X (.BoolOp .Or [a] pos) tA:=by
 intro wh a8 s σ H Q I h;refine isTrue_or (thn (ha a8 s σ H Q I h) λc s1 e=>?_);cases c with|false=>exact isTrue_or_nil e|true=>exact e
theorem wz8(ha:PT X a tA)(hb:PW X (.BoolOp .And (b::am) pos) tB'):PW X (.BoolOp .And (a::b::am) pos) (tAnd tA tB'):=by
 intro wh a8 s σ H Q I h;refine isTrue_and (thn (ha a8 s σ H _ I h) λc s1 #[H1,I1,q1]=>?_);cases c with|true=>exact hb wh a8 s1 σ H1 Q I1 q1|false=>exact#[H1,I1,q1]
theorem xvb(ha:PT X a tA)(hb:PW X (.BoolOp .Or (b::am) pos) tB'):PW X (.BoolOp .Or (a::b::am) pos) (tOr tA tB'):=by
 intro wh a8 s σ H Q I h;refine isTrue_or (thn (ha a8 s σ H _ I h) λc s1 #[H1,I1,q1]=>?_);cases c with|true=>exact#[H1,I1,q1]|false=>exact hb wh a8 s1 σ H1 Q I1 q1
theorem wza(ha:PT X a tA):PT X (.UnaryOp .Not a pos) (tNot tA):=by
 intro a8 s σ H Q I h;exact isTrue_not (ha a8 s σ H _ I h)
abbrev xqo(ta tb:TE):TE:=fun σ H Q=>ta σ H λx H1=>∃c,x=.bl c/\if c=true then tb σ H1 Q else Q (.bl false) H1
abbrev tOrV(ta tb:TE):TE:=fun σ H Q=>ta σ H λx H1=>∃c,x=.bl c/\if c=true then Q (.bl true) H1 else tb σ H1 Q
theorem wzm{op t}(h:PE X a t):PE X (.BoolOp op [a] pos) t:=λa8 s σ H Q I hw=>BoolOp_one (h a8 s σ H Q I hw)
theorem wzs(ha:PE X a ta)(hb:PE X (.BoolOp .And (b::am) pos) tb):PE X (.BoolOp .And (a::b::am) pos) (xqo ta tb):=by
 intro a8 s σ H Q I h;refine BoolOp_and (thn (ha a8 s σ H _ I h) λv s1 #[x,H1,I1,r1,q1]=>?_);obtain⟨c,rfl,q1⟩:=q1;cases r1;refine Yu ?_;cases c with|true=>exact hb a8 s1 σ H1 Q I1 q1|false=>exact#[.bl false,H1,I1,rfl,q1]
theorem xvf(ha:PE X a ta)(hb:PE X (.BoolOp .Or (b::am) pos) tb):PE X (.BoolOp .Or (a::b::am) pos) (tOrV ta tb):=by
 intro a8 s σ H Q I h;refine BoolOp_or (thn (ha a8 s σ H _ I h) λv s1 #[x,H1,I1,r1,q1]=>?_);obtain⟨c,rfl,q1⟩:=q1;cases r1;refine Yu ?_;cases c with|false=>exact hb a8 s1 σ H1 Q I1 q1|true=>exact#[.bl true,H1,I1,rfl,q1]
abbrev tIf(t:TT)(ta tb:TE):TE:=fun σ H Q=>t σ H λc H1=>if c=true then ta σ H1 Q else tb σ H1 Q
theorem vxa{c}(hc:PT X c tA)(ha:PE X a ta)(hb:PE X b tb):PE X (.IfExp c a b pos) (tIf tA ta tb):=by
 intro a8 s σ H Q I h;refine wpAny_IfExp (thn (hc a8 s σ H _ I h) λd s1 #[H1,I1,q1]=>?_);cases d with|true=>exact ha a8 s1 σ H1 Q I1 q1|false=>exact hb a8 s1 σ H1 Q I1 q1
end
def SqL(K:Frag)(H:Hp)(a:Addr)(xs:List V):Prop:=
 Rd H a (.lst xs) \/
  ∃(o:Obj) (af:Array Value) (n:Nat),K.lookup a=some o/\o.cls=.type "list"/\o.dict=none/\o.data=.seq af n/\af.size<=sizeLine/\Vals xs af.toList
def SqT(K:Frag)(H:Hp)(a:Addr)(xs:List V):Prop:=
 Rd H a (.tup xs) \/
  ∃(o:Obj) (af:Array Value) (n:Nat),K.lookup a=some o/\o.cls=.type "tuple"/\o.dict=none/\o.data=.seq af n/\af.size<=sizeLine/\Vals xs af.toList
noncomputable def absV:Value->Option V
 |.none=>some .non|.bool b=>some (.bl b)|.int i _=>some (.int i)|.str x _=>some (.str x)|.bytes b _=>some (.byt b)|.float b _=>some (.flt b)|.ref a=>some (.ref a)|.type n=>some (.ty n)|_=>none
theorem RelV.abs{x u}(r:RelV x u):absV u=some x:=by
 cases x with|non=>cases r;rfl|bl _=>cases r;rfl|int _=>obtain⟨t,rfl⟩:=r;rfl|str _=>obtain⟨t,rfl⟩:=r;rfl|byt _=>obtain⟨t,rfl⟩:=r;rfl|flt _=>obtain⟨t,rfl⟩:=r;rfl|ref _=>cases r;rfl|ty _=>cases r;rfl
theorem RelV.inj{x y u}(r:RelV x u)(q:RelV y u):x=y:=oq9 (r.abs.symm.trans q.abs)
theorem Vals.inj:∀{xs ys us},Vals xs us->Vals ys us->xs=ys
 |_,_,_,.nil,.nil=>rfl|_,_,_,.cons r t,.cons r' t'=>by rw[r.inj r',Vals.inj t t']
section
variable {X:Cx}{a8:LA9}{σ:St}{H:Hp}{s:Shared}{a:Addr}{xs ys:List V}
theorem SqL.of{K}(h:H a=some (.lst xs)):SqL K H a xs:=.inl (.inl h)
theorem SqT.of{K}(h:H a=some (.tup xs)):SqT K H a xs:=.inl (.inl h)
theorem Inv.list(I:Inv X a8 σ H s)(h:SqL X.K H a xs):∃af,Vals xs af/\PlainL s.heap a af.toArray/\xs.length<=sizeLine:=by
 rcases h with h|⟨o,af,n,hk,hc,hd,hs,hz,r⟩
 ·obtain⟨z,af,n,r,e⟩:=h.ok I.hok;exact#[af,r,#[_,n,e,rfl,rfl,rfl],z]
 ·refine#[af.toList,r,#[o,n,I.kIn a o hk,hc,hd,by simpa using hs],?_];have e:=r.length;simp at e;lia
theorem Inv.tuple(I:Inv X a8 σ H s)(h:SqT X.K H a xs):∃af,Vals xs af/\IsTup s.heap a af.toArray/\xs.length<=sizeLine:=by
 rcases h with h|⟨o,af,n,hk,hc,_,hs,hz,r⟩
 ·obtain⟨z,af,r,p⟩:=h.ok I.hok;exact#[af,r,p.tup,z]
 ·refine#[af.toList,r,#[o,I.kIn a o hk,hc,n,by simpa using hs],?_];have e:=r.length;simp at e;lia
theorem Inv.tupleD(I:Inv X a8 σ H s)(h:SqT X.K H a xs):∃o,s.heap.get? a=some o/\o.dict=none:=by
 rcases h with h|⟨o,af,n,hk,hc,hd,hs,hz,r⟩
 ·obtain⟨z,af,r,o,e,_,d,_⟩:=h.ok I.hok;exact#[o,e,d]
 ·exact#[o,I.kIn a o hk,hd]
theorem Inv.list_inj(I:Inv X a8 σ H s)(h:SqL X.K H a xs)(h':SqL X.K H a ys):xs=ys:=by
 obtain⟨af,r,⟨o,n,e,_,_,d⟩,_⟩:=I.list h;obtain⟨its',r',⟨o',n',e',_,_,d'⟩,_⟩:=I.list h';rw[e]at e';cases e';rw[d]at d';injection d' with d1 _;have:af=its':=by simpa using congrArg Array.toList d1
 subst this;exact r.inj r'
theorem Inv.tuple_inj(I:Inv X a8 σ H s)(h:SqT X.K H a xs)(h':SqT X.K H a ys):xs=ys:=by
 obtain⟨af,r,⟨o,e,_,n,d⟩,_⟩:=I.tuple h;obtain⟨its',r',⟨o',e',_,n',d'⟩,_⟩:=I.tuple h';rw[e]at e';cases e';rw[d]at d';injection d' with d1 _;have:af=its':=by simpa using congrArg Array.toList d1
 subst this;exact r.inj r'
end
abbrev Cx.wish(X:Cx)(E:VP9):Cx:={X with xe:=E}
abbrev Cx.nox(X:Cx):Cx:=X.wish λ_ _=>False
theorem Cx.Ok.wish{X:Cx}(ok:X.Ok) E:(X.wish E).Ok:=
 #[ok.mod,ok.kind,ok.glob,ok.blt,ok.above,ok.inj,ok.has,ok.cab,ok.hd,ok.frames,ok.stk,ok.exf,ok.bs,ok.bsz,ok.noex,ok.exfs,ok.funs,ok.frf]
theorem Cx.Ok.unwish{X:Cx}{E}(ok:(X.wish E).Ok):X.Ok:=
 #[ok.mod,ok.kind,ok.glob,ok.blt,ok.above,ok.inj,ok.has,ok.cab,ok.hd,ok.frames,ok.stk,ok.exf,ok.bs,ok.bsz,ok.noex,ok.exfs,ok.funs,ok.frf]
section
variable {X:Cx}{a8:LA9}{σ:St}{H:Hp}{s:Shared}{E:VP9}
theorem Inv.wish(I:Inv X a8 σ H s) E:Inv (X.wish E) a8 σ H s:=#[I.ok.wish E,I.os,I.bare,I.base,I.loc,I.cell,I.free,I.freeC,I.pin,I.hok,I.len]
theorem Inv.unwish(I:Inv (X.wish E) a8 σ H s):Inv X a8 σ H s:=#[I.ok.unwish,I.os,I.bare,I.base,I.loc,I.cell,I.free,I.freeC,I.pin,I.hok,I.len]
theorem SP.unwish{D f s'}(h:SP (X.wish E) a8 D f s'):SP X a8 D f s':=by
 cases f with|next=>obtain⟨σ',H',I,q⟩:=h;exact#[σ',H',I.unwish,q]|brk=>obtain⟨σ',H',I,q⟩:=h;exact#[σ',H',I.unwish,q]|cont=>obtain⟨σ',H',I,q⟩:=h;exact#[σ',H',I.unwish,q]|ret u=>obtain⟨v,σ',H',I,r,q⟩:=h;exact#[v,σ',H',I.unwish,r,q]
end
section
variable {X:Cx}{st:Stmt}{am:List Stmt}{t u:TS}{e:Expr}{te:TE}{pos:Pos}
abbrev xqk:TS:=λD σ H=>D.nx σ H
abbrev tSeq(t u:TS):TS:=λD σ H=>t {D with nx:=u D} σ H
theorem wqf:PSs X [] xqk:=λ_ _ σ H _ I h=>wpAny_execs_nil #[σ,H,I,h]
theorem vx1(h1:PS X st t)(h2:PSs X am u):PSs X (st::am) (tSeq t u):=by
 intro a8 s σ H D I h;refine wpAny_execs_cons (thn (h1 a8 s σ H {D with nx:=u D} I h) λf s1 q=>?_);cases f with
 |next=>
  obtain⟨σ',H',I',q⟩:=q;exact h2 a8 s1 σ' H' D I' q
 |ret v=>exact q|brk=>exact q|cont=>exact q
theorem wqe(h1:PS X st t):PSs X [st] t:=by
 intro a8 s σ H D I h;refine wpAny_execs_cons (thn (h1 a8 s σ H D I h) λf s1 q=>?_);cases f with|next=>exact wpAny_execs_nil q|ret v=>exact q|brk=>exact q|cont=>exact q
theorem Inv.quiet{a8}{σ:St}{H s}(I:Inv X a8 σ H s):interactive X.env=false:=by simp[interactive,I.ok.kind]
abbrev xql(te:TE):TS:=λD σ H=>te σ H λ_ H1=>D.nx σ H1
theorem vkc(he:PE X e te)(hs:autoParam (swapsWith e none pos.line X.env=pure false) Ŕ):PS X (.Expr e pos) (xql te):=by
 intro a8 s σ H D I h;exact wpAny_Expr_any (thn (he a8 s σ H _ I h) λv s1 #[x,H1,I1,r1,q1]=>#[σ,H1,I1,q1]) I.quiet hs
abbrev xwf(te:TE):TS:=λD σ H=>te σ H D.rt
theorem wzc(he:PE X e te):PS X (.Return (some e) pos) (xwf te):=by
 intro a8 s σ H D I h;exact wpAny_Return_some (thn (he a8 s σ H _ I h) λv s1 #[x,H1,I1,r1,q1]=>#[x,σ,H1,I1,r1,q1])
abbrev tIfS(c:TT)(t u:TS):TS:=λD σ H=>c σ H λb H1=>if b=true then t D σ H1 else u D σ H1
theorem xvc{c a b tc}(hc:PT X c tc)(ha:PSs X a t)(hb:PSs X b u):PS X (.If c a b pos) (tIfS tc t u):=by
 intro a8 s σ H D I h;refine wpAny_If (thn (hc a8 s σ H _ I h) λd s1 #[H1,I1,q1]=>?_);cases d with|true=>exact ha a8 s1 σ H1 D I1 q1|false=>exact hb a8 s1 σ H1 D I1 q1
end
abbrev TG:=V->St->Hp->(St->Hp->Prop)->Prop
abbrev TGs:=List V->St->Hp->(St->Hp->Prop)->Prop
def PG(X:Cx)(ib:Expr)(t:TG):Prop:=
 ∀(a8:LA9) (s:Shared) (σ:St) (H:Hp) (v:V) (u:Value) (Q:St->Hp->Prop),Inv X a8 σ H s->RelV v u->t v σ H Q ->
  wpAny (model X.prog X.w) X.A (assign ib X.env u) (λ_ s'=>∃ σ' H',Inv X a8 σ' H' s'/\Q σ' H') X.xe s
noncomputable def PGs(X:Cx)(ts:List Expr)(t:TGs):Prop:=
 ∀(a8:LA9) (s:Shared) (σ:St) (H:Hp) (vs:List V) (us:List Value) (Q:St->Hp->Prop),Inv X a8 σ H s->Vals vs us->t vs σ H Q ->
  wpAny (model X.prog X.w) X.A (assignInOrder ((assignEach ts X.env).map (·.2)) us) (λ_ s'=>∃ σ' H',Inv X a8 σ' H' s'/\Q σ' H') X.xe s
abbrev xw9:=V->V->V->Hp->(Hp->Prop)->Prop
noncomputable def xxa(X:Cx)(t:xw9):Prop:=
 ∀(a8:LA9) (s:Shared) (σ:St) (H:Hp) (o i v:V) (ov iv u:Value) (Q:Hp->Prop),Inv X a8 σ H s->RelV o ov->RelV i iv->RelV v u->t o i v H Q ->
  wpAny (model X.prog X.w) X.A (setItem ov iv u) (λ_ s'=>∃H',Inv X a8 σ H' s'/\Q H') X.xe s
section
variable {X:Cx}{pos:Pos}
abbrev vqw(i:Nat):TG:=λv σ H Q=>Q (σ.set i (some v)) H
theorem zZ{i x}(hN:X.N.Nodup)(hi:X.N[i]?=some x)(hx:Loc X.env.scope x)(hf:autoParam (X.fn x=true\/X.env.scope.names.lookup x=some .local) Ř):PG X (.Name x pos) (vqw i):=by
 intro a8 s σ H v u Q I r h;exact wpAny_assign_Name (kx5 I hN hi hx r (λs' I'=>#[_,H,I',h]) hf)
abbrev xx5:TGs:=λvs σ H Q=>vs=[]/\Q σ H
abbrev xk3(t:TG)(u:TGs):TGs:=λvs σ H Q=>∃v r,vs=v::r/\t v σ H fun σ' H'=>u r σ' H' Q
theorem Vk:PGs X [] xx5:=by
 rintro a8 s σ H vs us Q I r ⟨e,h⟩;subst e;exact assignInOrder_nil #[σ,H,I,h]
theorem xx{e es t u}(h1:PG X e t)(h2:PGs X es u)
  (hs:autoParam ((assignEach (e::es) X.env).map (·.2)=assign e X.env::(assignEach es X.env).map (·.2)) Ŕ):PGs X (e::es) (xk3 t u):=by
 rintro a8 s σ H vs us Q I r ⟨v,vr,e1,h⟩;subst e1;cases r with
 |cons r rr=>
  rw[hs];exact assignInOrder_cons (thn (h1 a8 s σ H _ _ _ I r h) λ_ s1 #[σ1,H1,I1,q1]=>(h2 a8 s1 σ1 H1 _ _ Q I1 rr q1))
abbrev gSub(to ti:TE)(t:xw9):TG:=λv σ H Q=>to σ H λo H1=>ti σ H1 λi H2=>t o i v H2 λH3=>Q σ H3
theorem wzi{o i:Expr}{to ti:TE}{t:xw9}(ho:PE X o to)(hi:PE X i ti)(hs:xxa X t)
  (ha:autoParam (∀v,assign (.Subscript o i pos) X.env v=(do
   let ov <-holding [v] (eval o X.env)
   let iv <-holding [v,ov] (eval i X.env)
   standAt pos
   holding [v,ov,iv] (setItem ov iv v)
   release [v,ov,iv] [])) Ŗ):PG X (.Subscript o i pos) (gSub to ti t):=by
 intro a8 s σ H v u Q I r h;rw[ha];refine X0 (Y9 (thn (ho a8 s σ H _ I h) λov s1 #[x,H1,I1,r1,q1]=>?_));refine X0 (Y9 (thn (hi a8 s1 σ H1 _ I1 q1) λiv s2 #[y,H2,I2,r2,q2]=>?_));refine X0 (wpAny_standAt (X0 (Y9 (thn (hs a8 s2 σ H2 x y v ov iv u _ I2 r1 r2 r q2) λ_ s3 #[H3,I3,q3]=>?_))));exact wpAny_release #[σ,H3,I3,q3]
abbrev xwg(te:TE)(g:TG):TS:=λD σ H=>te σ H λx H1=>g x σ H1 D.nx
theorem wj0{tg e te g}(he:PE X e te)(hg:PG X tg g)(hs:autoParam (swapsWithSole [tg] e pos.line X.env=pure false) Ŕ)(hw:autoParam (swappedStores [tg] e X.env=pure none) Ŕ)
  (h1:autoParam ((assignEach [tg] X.env).map (·.2)=[assign tg X.env]) Ŕ):PS X (.Assign [tg] e pos) (xwg te g):=by
 intro a8 s σ H D I h;refine wpAny_Assign_stores (thn (he a8 s σ H _ I h) λv s1 #[x,H1,I1,r1,q1]=>?_) hs hw;rw[h1];exact thn (hg a8 s1 σ H1 x v _ I1 r1 q1) λ_ s2 q=>q
theorem wzb{i x e te ce}(hN:X.N.Nodup)(hi:X.N[i]?=some x)(hx:Loc X.env.scope x)(he:PE X e te)(hs:autoParam (swapsWith e (some (.Name x ce)) pos.line X.env=pure false) Ŕ)(hf:autoParam (X.fn x=true\/X.env.scope.names.lookup x=some .local) Ř):
  PS X (.Assign [.Name x ce] e pos) (xwg te (vqw i)):=by
 intro a8 s σ H D I h;exact wpAny_Assign_Name (thn (he a8 s σ H _ I h) λv s1 #[y,H1,I1,r1,q1]=>(kx5 I1 hN hi hx r1 (λs2 I2=>#[_,H1,I2,q1]) hf)) hs
end
section
variable {X:Cx}{pos:Pos}
abbrev wwy(c:TT)(tb:TS):TS:=λD σ H=>∃W:Nat->St->Hp->Prop,(∃m,W m σ H)/\∀m σ H,W m σ H ->
 c σ H λb H1=>if b=true then ∃N:St->Hp->Prop,(∀ σ' H',N σ' H'->∃m',m'<m/\W m' σ' H')/\tb {D with nx:=N,ct:=N,bk:=D.nx} σ H1 else D.nx σ H1
theorem vx2{c:Expr}{body:List Stmt}{tc:TT}{tb:TS}(hp:PassesOwn (model X.prog X.w) X.A X.env X.xe)(hc:PT X c tc)(hb:PSs X body tb):PS X (.While c body [] pos) (wwy tc tb):=by
 intro a8 s σ H D I h;obtain⟨W,⟨m0,w0⟩,i7⟩:=h;refine wpAny_While (codeAny_whileLoop (λn s'=>∃ σ' H',Inv X a8 σ' H' s'/\W n σ' H') ?_ m0 #[σ,H,I,w0]);rintro n s1 ⟨σ1,H1,I1,w1⟩;refine Zd hp (thn (hc a8 s1 σ1 H1 _ I1 (i7 n σ1 H1 w1)) λb s2 #[H2,I2,q2]=>?_);cases b with
 | true=>
  obtain⟨N,hN,q2⟩:=q2;rw[Xd rfl];refine Zd hp (thn (hb a8 s2 σ1 H2 _ I2 q2) λf s3 q3=>?_);cases f with
  |next=>
   obtain⟨σ3,H3,I3,n3⟩:=q3;obtain⟨m',hm,w3⟩:=hN σ3 H3 n3;exact#[m',hm,σ3,H3,I3,w3]
  |cont=>
   obtain⟨σ3,H3,I3,n3⟩:=q3;obtain⟨m',hm,w3⟩:=hN σ3 H3 n3;exact#[m',hm,σ3,H3,I3,w3]
  |brk=>exact q3|ret v=>exact q3
 |false=>
  rw[Xg Bool.false_ne_true];exact wpAny_execs_nil #[σ1,H2,I2,q2]
end
structure It where
 go:Nat->Hp->Prop
 yld:Nat->Hp->V->Hp->Prop
 stop:Nat->Hp->Prop
def xY(X:Cx)(a8:LA9)(H:Hp)(b:Addr):Prop:=
 H b=none/\b≠X.env.locals/\b∉X.fs/\(b∈X.ex\/X.s₀.heap.objs.size<=b)/\(∀x c,X.env.cells.lookup x=some c->c≠b)/\∀p∈X.pn++a8,p.1≠b
theorem Inv.fpOk{X a8}{σ:St}{H H' s}{b:Addr}(I:Inv X a8 σ H s)(hb:s.heap.objs.size<=b)(hn:H' b=none):xY X a8 H' b:=by
 refine#[hn,Zh (Xl I.lt hb),I.nofs hb,.inr (Yd I.sz hb),λx c e z=>?_,λp hp z=>?_]
 ·obtain⟨v,q⟩:=I.cell x c e;exact absurd (Xl q.lt (z▸hb)) (Ys _)
 ·exact absurd (Xl (Xe (I.pin p hp).1) (z▸hb)) (Ys _)
structure Turn (P:Program)(w:World)(K:Frag)(tg:Expr)(J:It)(fp:List Addr)(it:Addr)(tn:Nat->Heap->Prop):Prop where
 mem:it∈fp
 obj:∀i h,tn i h->∀b∈fp,∃o,h.get? b=some o/\∀v,o.data≠.cell v
 keep:∀i h h',tn i h->(∀b∈fp,∀o,h.get? b=some o->h'.get? b=some o)->tn i h'
 item:∀(X:Cx),X.prog=P->X.w=w->X.K=K->X.calm=true->∀(i:Nat) (a8:LA9) (s:Shared) (σ:St) (H:Hp) (E:VP9),Inv X a8 σ H s->(∀b∈fp,xY X a8 H b)->tn i s.heap->J.go i H ->
  wpAny (model P w) X.A (pyNext (.ref it)) (λr s1=>∃u,r=some u /\
   wpAny (model P w) X.A (letOwnedTupleGo tg (.ref it) u) (λ_ s2=>∃x H',Inv X a8 σ H' s2/\RelV x u/\J.yld i H x H'/\tn (i+1) s2.heap/\∀b∈fp,H' b=none) E s1) E s
 done:∀(X:Cx),X.prog=P->X.w=w->X.K=K->X.calm=true->∀(i:Nat) (a8:LA9) (s:Shared) (σ:St) (H:Hp) (E:VP9),Inv X a8 σ H s->(∀b∈fp,xY X a8 H b)->tn i s.heap->J.stop i H ->
  wpAny (model P w) X.A (pyNext (.ref it)) (λr s1=>r=none/\Inv X a8 σ H s1) E s
 self:∀(A:Around) (i:Nat) (s:Shared) (Q:VP9) (E:VP9),tn i s.heap->Q (.ref it) s->wpAny (model P w) A (pyIter (.ref it)) Q E s
abbrev TI:=St->Hp->(It->Hp->Prop)->Prop
noncomputable def PIE(X:Cx)(a8:LA9)(σ:St)(tg:Expr)(R:It->Hp->Prop)(itv:Value)(s2:Shared):Prop:=
 ∃(it:Addr) (fp:List Addr) (tn:Nat->Heap->Prop) (J:It) (H':Hp),itv=.ref it/\Inv X a8 σ H' s2/\Turn X.prog X.w X.K tg J fp it tn/\tn 0 s2.heap/\(∀b∈fp,xY X a8 H' b)/\R J H'
noncomputable def PI(X:Cx)(tg iter:Expr)(wi:TI):Prop:=
 ∀(a8:LA9) (s:Shared) (σ:St) (H:Hp) (R:It->Hp->Prop),Inv X a8 σ H s->wi σ H R ->
  wpAny (model X.prog X.w) X.A (eval iter X.env) (λv s1=>wpAny (model X.prog X.w) X.A (pyIter v) (PIE X a8 σ tg R) X.xe s1) X.xe s
theorem vxy {M A E s tg it u o n vs Q} (ho : s.heap.get? it = some o) (hc : o.cls = .type n) (hd : o.data = .fields vs)
    (hn : ["enumerate", "zip", "dict_itemiterator", "dict_reverseitemiterator", "odict_iterator", "itertools.zip_longest", "itertools.pairwise"].contains n = false) (hQ : Q () s): wpAny M A (letOwnedTupleGo tg (.ref it) u) Q E s:= by
  cases tg <;> first
    |exact X4 hQ
    |(cases u <;> first
        |exact X4 hQ
        | (refine X0 (wpAny_load ho ?_)
           rw[hc,hd];show wpAny M A (if _ = true then _ else _) Q E s;rw[Xg (by grind)];exact X4 hQ))
def Itl(K:Frag)(a:Addr):It:=
 ⟨λi H=>∃xs x,SqL K H a xs/\xs[i]?=some x,λi H x H'=>H'=H/\∀xs,SqL K H a xs->xs[i]?=some x,λi H=>∃xs,SqL K H a xs/\xs.length<=i⟩
def Itt(K:Frag)(a:Addr):It:=
 ⟨λi H=>∃xs x,SqT K H a xs/\xs[i]?=some x,λi H x H'=>H'=H/\∀xs,SqT K H a xs->xs[i]?=some x,λi H=>∃xs,SqT K H a xs/\xs.length<=i⟩
def Itr(lo:Int)(n:Nat):It:=⟨λi _=>i<n,λi H x H'=>H'=H/\x=.int (lo+i),λi _=>n<=i⟩
theorem vj7{P w K tg}(a it):Turn P w K tg (Itl K a) [it] it (λi h=>h.IsListIter it a i) where
 mem:=by simp
 obj:=λi h st b hb=>by
  have e:b=it:=by simpa using hb
  subst e;obtain⟨o,e,c,d⟩:=st;exact#[o,e,λv z=>by rw[d]at z;cases z]
 keep:=λi h h' st k=>st.at λo e=>k it (by simp) o e
 item:=by
  intro X hP hw hK hc i a8 s σ H E I hf st hg;subst hP hw hK;obtain⟨xs,x,hq,hx⟩:=hg;obtain⟨af,rv,p,hz⟩:=I.list hq;obtain⟨u,hu,ru⟩:=rv.get hx;obtain⟨f0,f1,f2,f3,f4,f5⟩:=hf it (by simp);refine wpAny_pyNext_list_item st p.isList (by simpa using hu) λh' i9 sb=>?_
  have I1:Inv X a8 σ H {s with heap:=h' }:=I.turned (t':=s.toks) (λb o hb e=>(sb.2 b hb).trans e) f0 f1 f3 f4 f5;obtain⟨o,e,c,d⟩:=id i9;exact#[u,rfl,vxy e c d ⋯ #[x,H,I1,ru,#[rfl,λys hy=>by rw[I.list_inj hy hq];exact hx],i9,λb hb=>(hf b hb).1]]
 done:=by
  intro X hP hw hK hc i a8 s σ H E I hf st hg;subst hP hw hK;obtain⟨xs,hq,hx⟩:=hg;obtain⟨af,rv,p,hz⟩:=I.list hq;obtain⟨f0,f1,f2,f3,f4,f5⟩:=hf it (by simp);have hl:=rv.length;exact wpAny_pyNext_list_end (I.ok.hd hc) st p.isList (by simp;lia) λh' eb=>#[rfl,I.turned (t':=s.toks) (λb o hb e=>eb b o hb e) f0 f1 f3 f4 f5]
 self:=λ_ _ _ _ _ st h=>wpAny_pyIter_listiter st h
theorem qx7{P w K tg}(a it):Turn P w K tg (Itt K a) [it] it (λi h=>h.IsTupleIter it a i) where
 mem:=by simp
 obj:=λi h st b hb=>by
  have e:b=it:=by simpa using hb
  subst e;obtain⟨o,e,c,d⟩:=st;exact#[o,e,λv z=>by rw[d]at z;cases z]
 keep:=λi h h' st k=>st.at λo e=>k it (by simp) o e
 item:=by
  intro X hP hw hK hc i a8 s σ H E I hf st hg;subst hP hw hK;obtain⟨xs,x,hq,hx⟩:=hg;obtain⟨af,rv,p,hz⟩:=I.tuple hq;obtain⟨u,hu,ru⟩:=rv.get hx;obtain⟨f0,f1,f2,f3,f4,f5⟩:=hf it (by simp);refine wpAny_pyNext_tuple_item st (p) (x:=u) (by simpa using hu) λh' i9 sb=>?_
  have I1:Inv X a8 σ H {s with heap:=h' }:=I.turned (t':=s.toks) (λb o hb e=>(sb.2 b hb).trans e) f0 f1 f3 f4 f5;obtain⟨o,e,c,d⟩:=id i9;exact#[u,rfl,vxy e c d ⋯ #[x,H,I1,ru,#[rfl,λys hy=>by rw[I.tuple_inj hy hq];exact hx],i9,λb hb=>(hf b hb).1]]
 done:=by
  intro X hP hw hK hc i a8 s σ H E I hf st hg;subst hP hw hK;obtain⟨xs,hq,hx⟩:=hg;obtain⟨af,rv,p,hz⟩:=I.tuple hq;obtain⟨f0,f1,f2,f3,f4,f5⟩:=hf it (by simp);have hl:=rv.length;exact wpAny_pyNext_tuple_end (I.ok.hd hc) st (p) (by simp;lia) λh' eb=>#[rfl,I.turned (t':=s.toks) (λb o hb e=>eb b o hb e) f0 f1 f3 f4 f5]
 self:=λ_ _ _ _ _ st h=>wpAny_pyIter_tupleiter st h
theorem qx8{P w K tg}(it)(lo)(n):Turn P w K tg (Itr lo n) [it] it (λi h=>IsRangeIter h it (lo+(i)*1) ((n) - (i)) 1) where
 mem:=by simp
 obj:=λi h st b hb=>by
  have e:b=it:=by simpa using hb
  subst e;exact#[_,st,λv z=>by
   cases z]
 keep:=λi h h' st k=>k it (by simp) _ st
 item:=by
  intro X hP hw hK hc i a8 s σ H E I hf st hg;subst hP hw hK;obtain⟨f0,f1,f2,f3,f4,f5⟩:=hf it (by simp);refine(Walks.range (prog:=X.prog) (w:=X.w) (I.ok.hd hc) it lo 1 n).item i s _ _ hg st λv h' tk hv i9 kk=>?_
  obtain⟨t,rfl⟩:=hv;have I1:Inv X a8 σ H {s with heap:=h',toks:=tk}:=I.turned (λb o hb e=>kk b o (by simpa using hb) e) f0 f1 f3 f4 f5;refine#[_,rfl,vxy i9 rfl rfl ⋯ #[.int _,H,I1,#[t,?_],#[rfl,rfl],i9,λb hb=>(hf b hb).1]];rw[Int.mul_one]
 done:=by
  intro X hP hw hK hc i a8 s σ H E I hf st hg;obtain⟨f0,f1,f2,f3,f4,f5⟩:=hf it (by simp);exact wpAny_pyNext_range_end (I.ok.hd hc) st (by have:n<=i:=hg;lia) λh' eb=>#[rfl,I.turned (t':=s.toks) (λb o hb e=>eb b o hb e) f0 f1 f3 f4 f5]
 self:=λ_ _ _ _ _ st h=>wpAny_pyIter_rangeiter st h
section
variable {X:Cx}{tg:Expr}
theorem vwt{a8}{σ:St}{H s R E lo hi t u v tk}(I:Inv X a8 σ H s)(h1:-(2 ^ 62)<=lo)(h2:lo<2 ^ 62)(h3:-(2 ^ 62)<=hi)(h4:hi<2 ^ 62)
  (q:R (Itr lo (hi - lo).toNat) H):wpAny (model X.prog X.w) X.A (pyIter (.ref s.heap.objs.size)) (PIE X a8 σ tg R) E {s with heap:=s.heap.push {cls:=.type "range",data:=.fields (List.toArray [.int lo t,.int hi u,.int 1 v])},toks:=tk}:=by
 refine wpAny_pyIter_range (IsRange.new ..) (small_one h1 h2 h3 h4) ?_;have I1:Inv X a8 σ H {s with heap:=s.heap.push {cls:=.type "range",data:=.fields (List.toArray [.int lo t,.int hi u,.int 1 v])},toks:=tk}:=I.kept λb o e=>X5 _ e
 refine#[(s.heap.push {cls:=.type "range",data:=.fields (List.toArray [.int lo t,.int hi u,.int 1 v])}).objs.size,[(s.heap.push {cls:=.type "range",data:=.fields (List.toArray [.int lo t,.int hi u,.int 1 v])}).objs.size],_,_,H,rfl,
  I1.kept (t':=tk) λb o e=>X5 _ e,qx8 _ lo (hi - lo).toNat,?_,λb hb=>?_,q]
 ·have e1:lo+((0:Nat):Int)*1=lo:=by simp
  have e2:(((hi - lo).toNat:Nat):Int) - ((0:Nat):Int)=Builtin.Range.rangeSize lo hi 1:=by rw[rangeSize_one];split<;>lia
  rw[e1,e2];exact X7 _ rfl
 ·have e:b=(s.heap.push {cls:=.type "range",data:=.fields (List.toArray [.int lo t,.int hi u,.int 1 v])}).objs.size:=by simpa using hb
  subst e;exact I1.fpOk (X9 _) (I1.hok.fresh (X9 _))
abbrev xvu(ta:TA):TI:=fun σ H R=>ta σ H λvs H1=>∃j:Int,vs=[.int j]/\-(2 ^ 62)<=j/\j<2 ^ 62/\R (Itr 0 j.toNat) H1
theorem vki{a ta p pos}(hg:Gl X "range")(hm:X.mg "range"=none)(ha:PA X [a] ta)(hs:autoParam (starEach [a] X.env=[(false,eval a X.env)]) Ŕ):PI X tg (.Call (.Name "range" p) [a] [] pos) (xvu ta):=by
 intro a8 s σ H R I h;refine Call_ (K3 I hg hm boot_range (Y8 (thn (ha pos a8 s σ H _ I h) λus s1 #[vs,H1,I1,r1,q1]=>?_) hs rfl));obtain⟨j,e,q1,q2,q⟩:=q1;subst e;cases r1 with
 |cons r rr=>
  cases rr;obtain⟨t,rfl⟩:=r;exact call_range_1 (vwt I1 ⋯ ⋯ q1 q2 (by simpa using q))
abbrev tFor(wi:TI)(g:TG)(tb:TS):TS:=λD σ H=>wi σ H λJ H1=>∃W:Nat->Nat->St->Hp->Prop,(∃m,W 0 m σ H1)/\∀i m σ H,W i m σ H ->
 (J.stop i H/\D.nx σ H)\/(J.go i H/\∃N:St->Hp->Prop,(∀ σ' H',N σ' H'->∃m',m'<m/\W (i+1) m' σ' H')/\∀x H',J.yld i H x H'->g x σ H' fun σ2 H2=>tb {D with nx:=N,ct:=N,bk:=D.nx} σ2 H2)
def QZ(fp:List Addr)(h:Heap):LA9:=fp.filterMap λb=>(h.get? b).map λo=>(b,o)
theorem kk6{fp h b o}(hb:b∈fp)(e:h.get? b=some o):(b,o)∈QZ fp h:=List.mem_filterMap.mpr #[b,hb,by rw[e];rfl]
theorem qjq{fp h p}(hp:p∈QZ fp h):p.1∈fp/\h.get? p.1=some p.2:=by
 obtain⟨b,hb,e⟩:=List.mem_filterMap.mp hp;cases q:h.get? b with
 |none=>rw[q]at e;cases e
 |some o=>
  rw[q]at e;have e':=oq9 e;subst e';exact#[hb,q]
theorem Inv.pinned{a8}{σ:St}{H s fp}(I:Inv X a8 σ H s)(hf:∀b∈fp,xY X a8 H b)(ho:∀b∈fp,∃o,s.heap.get? b=some o/\∀v,o.data≠.cell v):Inv X (a8++QZ fp s.heap) σ H s:=
 I.pins_of λp hp=>(aA hp).elim (λz=>I.pin p (lr9 _ z)) λz=>by
  obtain⟨hb,e⟩:=qjq z;obtain⟨f0,f1,f2,_⟩:=hf p.1 hb;obtain⟨o,e',d⟩:=ho p.1 hb;rw[e]at e';cases e';exact#[e,f0,f1,f2,d]
theorem Inv.unpinned{a8 pl}{σ:St}{H s}(I:Inv X (a8++pl) σ H s):Inv X a8 σ H s:=I.pins_of λp hp=>I.pin p (lr9 _ (ll9 _ hp))
theorem wzd{iter:Expr}{body:List Stmt}{wi:TI}{g:TG}{tb:TS}{pos:Pos}(hp:PassesOwn (model X.prog X.w) X.A X.env X.xe)(hc:X.calm=true)(hi:PI X tg iter wi)(hg:PG X tg g)(hb:PSs X body tb)
  (hs:autoParam (∀x,foldedSetIterable iter X.env x=pure x) Ŗ):PS X (.For tg iter body [] pos) (tFor wi g tb):=by
 intro a8 s σ H D I h;refine wpAny_For (thn (hi a8 s σ H _ I h) λv s1 h1=>thn h1 λitv s2 h2=>?_) hs;obtain⟨it,fp,tn,J,H2,e,I2,T,bu,f2,W,⟨m0,w0⟩,i7⟩:=h2;subst e;have kf:∀{H':Hp},(∀b∈fp,H' b=none)->∀b∈fp,xY X a8 H' b:=λhn b hb=>#[hn b hb,(f2 b hb).2]
 refine codeAny_forLoop_any (λn s'=>∃i σ' H',Inv X a8 σ' H' s'/\tn i s'.heap/\(∀b∈fp,H' b=none)/\W i n σ' H') ?_ m0 #[0,σ,H2,I2,bu,λb hb=>(f2 b hb).1,w0];rintro n s3 ⟨i,σ3,H3,I3,dj,nz,w3⟩;rcases i7 i n σ3 H3 w3 with⟨stop,qn⟩|⟨go,N,hN,step⟩
 ·refine Zd hp (thn (T.done X rfl rfl rfl hc i a8 s3 σ3 H3 X.xe I3 (kf nz) dj stop) λr s4 #[hr,I4]=>?_);subst hr;exact wpAny_execs_nil #[σ3,H3,I4,qn]
 ·refine Zd hp (thn (T.item X rfl rfl rfl hc i a8 s3 σ3 H3 X.xe I3 (kf nz) dj go) λr s4 #[u,hr,h4]=>?_);subst hr;refine Zd hp (thn h4 λ_ s5 #[x,H5,I5,r5,y5,nu,fr5]=>?_);have I5':=I5.pinned (kf fr5) (T.obj _ _ nu);refine Zd hp (thn (hg _ s5 σ3 H5 x u _ I5' r5 (step x H5 y5)) λ_ s6 #[σ6,H6,I6,q6]=>?_);refine Zd hp (thn (hb _ s6 σ6 H6 _ I6 q6) λf s7 q7=>?_);have again:∀{σ7:St} {H7:Hp},Inv X (a8++QZ fp s5.heap) σ7 H7 s7->N σ7 H7->∃m,m<n/\∃i σ' H',Inv X a8 σ' H' s7/\tn i s7.heap/\(∀b∈fp,H' b=none)/\W i m σ' H':=fun {σ7 H7} I7 n7=>by
   obtain⟨m',hm,w7⟩:=hN σ7 H7 n7;refine#[m',hm,i+1,σ7,H7,I7.unpinned,T.keep _ _ _ nu λb hb o e=>(I7.pin (b,o) (lr9 _ (lr9 _ (kk6 hb e)))).1,λb hb=>?_,w7];obtain⟨o,e,d⟩:=T.obj _ _ nu b hb;exact(I7.pin (b,o) (lr9 _ (lr9 _ (kk6 hb e)))).2.1
  cases f with|next=>obtain⟨σ7,H7,I7,n7⟩:=q7;exact again I7 n7|cont=>obtain⟨σ7,H7,I7,n7⟩:=q7;exact again I7 n7|brk=>obtain⟨σ7,H7,I7,q7⟩:=q7;exact#[σ7,H7,I7.unpinned,q7]|ret v=>obtain⟨x7,σ7,H7,I7,r7,q7⟩:=q7;exact#[x7,σ7,H7,I7.unpinned,r7,q7]
end
abbrev R2:=V->V->Hp->VK->Prop
def OpR(X:Cx)(f:Value->Value->Sem Value)(r:R2):Prop:=
 ∀(a8:LA9) (s:Shared) (σ:St) (H:Hp) (x y:V) (v u:Value) (Q:VK),Inv X a8 σ H s->RelV x v->RelV y u->r x y H Q ->
  wpAny (model X.prog X.w) X.A (f v u) (EP X a8 σ Q) X.xe s
def UnR(X:Cx)(f:Value->Sem Value)(r:V->Hp->VK->Prop):Prop:=
 ∀(a8:LA9) (s:Shared) (σ:St) (H:Hp) (x:V) (v:Value) (Q:VK),Inv X a8 σ H s->RelV x v->r x H Q ->
  wpAny (model X.prog X.w) X.A (f v) (EP X a8 σ Q) X.xe s
def CallR(X:Cx)(f:Value)(r:List V->Hp->VK->Prop):Prop:=
 ∀(a8:LA9) (s:Shared) (σ:St) (H:Hp) (xs:List V) (us:List Value) (Q:VK),Inv X a8 σ H s->Vals xs us->r xs H Q ->
  wpAny (model X.prog X.w) X.A (call f us) (EP X a8 σ Q) X.xe s
def TruR(X:Cx)(r:V->Hp->(Bool->Hp->Prop)->Prop):Prop:=
 ∀(a8:LA9) (s:Shared) (σ:St) (H:Hp) (x:V) (v:Value) (Q:Bool->Hp->Prop),Inv X a8 σ H s->RelV x v->r x H Q ->
  wpAny (model X.prog X.w) X.A (truthy v) (TP X a8 σ Q) X.xe s
abbrev tOp(r:R2)(ta tb:TE):TE:=fun σ H Q=>ta σ H λx H1=>tb σ H1 λy H2=>r x y H2 Q
abbrev tUn(r:V->Hp->VK->Prop)(ta:TE):TE:=fun σ H Q=>ta σ H λx H1=>r x H1 Q
def rI(C:Int->Int->Prop)(g:Int->Int->V):R2:=λx y H Q=>∃i j,x=.int i/\y=.int j/\C i j/\Q (g i j) H
def rI0(g:Int->Int->V):R2:=λx y H Q=>∃i j,x=.int i/\y=.int j/\Q (g i j) H
def rU(g:Int->V):V->Hp->VK->Prop:=λx H Q=>∃i,x=.int i/\Q (g i) H
section
variable {X:Cx}{a b c:Expr}{ta tb tc:TE}{pos:Pos}
theorem xw6(ha:PE X a ta)(hb:PE X b tb){a8 s}{σ:St}{H}{R:V->V->Hp->Prop}(I:Inv X a8 σ H s)
  (h:ta σ H λx H1=>tb σ H1 λy H2=>R x y H2) {Q} {f:Value->Value->Sem Value}
  (hf:∀v u s2 x y H2,Inv X a8 σ H2 s2->RelV x v->RelV y u->R x y H2->wpAny (model X.prog X.w) X.A (f v u) Q X.xe s2):
  wpAny (model X.prog X.w) X.A (eval a X.env) (λv s₁=>wpAny (model X.prog X.w) X.A (eval b X.env) (λu s₂=>wpAny (model X.prog X.w) X.A (f v u) Q X.xe s₂) X.xe s₁) X.xe s:=by
 exact thn (ha a8 s σ H _ I h) λv s1 #[x,H1,I1,r1,q1]=>(thn (hb a8 s1 σ H1 _ I1 q1) λu s2 #[y,H2,I2,r2,q2]=>(hf v u s2 x y H2 I2 r1 r2 q2))
theorem xvg{op r}(ho:OpR X (binaryOp op) r)(ha:PE X a ta)(hb:PE X b tb):PE X (.BinOp a op b pos) (tOp r ta tb):=by
 intro a8 s σ H Q I h;exact wpAny_BinOp (xw6 ha hb I h λv u s2 x y H2 I2 rx ry q=>ho a8 s2 σ H2 x y v u Q I2 rx ry q)
theorem xve{op r}(ho:UnR X (unaryOp op) r)(ha:PE X a ta):PE X (.UnaryOp op a pos) (tUn r ta):=by
 intro a8 s σ H Q I h;exact UnaryOp_ (thn (ha a8 s σ H _ I h) λv s1 #[x,H1,I1,r1,q1]=>ho a8 s1 σ H1 x v Q I1 r1 q1)
theorem opI{f C}{g:Int->Int->Int}
  (rule:∀i j (t u) s Q E,C i j->Q (.int (g i j) s.toks) {s with toks:=s.toks+1}->wpAny (model X.prog X.w) X.A (f (.int i t) (.int j u)) Q E s):
  OpR X f (rI C λi j=>.int (g i j)):=by
 rintro a8 s σ H x y v u Q I rx ry ⟨i,j,rfl,rfl,hc,q⟩;obtain⟨t,rfl⟩:=rx;obtain⟨t',rfl⟩:=ry;exact rule i j t t' s _ _ hc #[.int _,H,I.tok _,#[_,rfl],q]
theorem xwx{f}{g:Int->Int->Int}
  (rule:∀i j (t u) s Q E,Q (.int (g i j) s.toks) {s with toks:=s.toks+1}->wpAny (model X.prog X.w) X.A (f (.int i t) (.int j u)) Q E s):
  OpR X f (rI0 λi j=>.int (g i j)):=by
 rintro a8 s σ H x y v u Q I rx ry ⟨i,j,rfl,rfl,q⟩;obtain⟨t,rfl⟩:=rx;obtain⟨t',rfl⟩:=ry;exact rule i j t t' s _ _ #[.int _,H,I.tok _,#[_,rfl],q]
theorem xq5{f}{g:Int->Int->Bool}
  (rule:∀i j (t u) (s) (Q) (E),Q (.bool (g i j)) s->wpAny (model X.prog X.w) X.A (f (.int i t) (.int j u)) Q E s):
  OpR X f (rI0 λi j=>.bl (g i j)):=by
 rintro a8 s σ H x y v u Q I rx ry ⟨i,j,rfl,rfl,q⟩;obtain⟨t,rfl⟩:=rx;obtain⟨t',rfl⟩:=ry;exact rule i j t t' s _ _ #[.bl _,H,I,rfl,q]
def xxc(i j:Int):Prop:=0<=j/\j<=1000000/\i.natAbs<2 ^ 64
theorem op_add:OpR X (binaryOp .Add) (rI0 λi j=>.int (i+j)):=xwx λ_ _ _ _ _ _ _ q=>add_int q
theorem wj6:OpR X (binaryOp .Sub) (rI0 λi j=>.int (i - j)):=xwx λ_ _ _ _ _ _ _ q=>sub_int q
theorem wzw:OpR X (binaryOp .Mod) (rI (λ_ j=>0<j) λi j=>.int (i % j)):=opI λi j _ _ _ _ _ hc q=>by
 exact mod_int' ⋯ (by rw[Int.fmod_eq_emod_of_nonneg i ⋯];exact q)
theorem wj7:OpR X (binaryOp .Pow) (rI xxc λi j=>.int (i ^ j.toNat)):=opI λ_ _ _ _ _ _ _ hc q=>pow_int_small hc.1 hc.2.1 hc.2.2 q
theorem unI{f}{g:Int->Int}
  (rule:∀i t s Q E,Q (.int (g i) s.toks) {s with toks:=s.toks+1}->wpAny (model X.prog X.w) X.A (f (.int i t)) Q E s):
  UnR X f (rU λi=>.int (g i)):=by
 rintro a8 s σ H x v Q I rx ⟨i,rfl,q⟩;obtain⟨t,rfl⟩:=rx;exact rule i t s _ _ #[.int _,H,I.tok _,#[_,rfl],q]
theorem qvq:UnR X (unaryOp .USub) (rU λi=>.int (-i)):=unI λ_ _ _ _ _ q=>neg_int q
end
section
variable {X:Cx}{a b c:Expr}{ta tb tc:TE}{pos:Pos}
theorem qws{a8}{σ:St}{H s Q k k'}(I:Inv X a8 σ H s)(q:Q (.bl k) H)(e:k=k'):EP X a8 σ Q (.bool k') s:=by
 subst e;exact#[.bl k,H,I,rfl,q]
theorem vxh:OpR X (compareOp .Lt) (rI0 λi j=>.bl (decide (i<j))):=xq5 λ_ _ _ _ _ _ _ q=>lt_int q
theorem KZ:OpR X (compareOp .LtE) (rI0 λi j=>.bl (decide (i<=j))):=xq5 λ_ _ _ _ _ _ _ q=>le_int q
theorem vxi:OpR X (compareOp .Gt) (rI0 λi j=>.bl (decide (j<i))):=xq5 λ_ _ _ _ _ _ _ q=>gt_int q
theorem xvj:OpR X (compareOp .GtE) (rI0 λi j=>.bl (decide (j<=i))):=xq5 λ_ _ _ _ _ _ _ q=>ge_int q
theorem vko:OpR X (compareOp .In) (λx y H Q=>∃i j,x=.str i/\y=.str j/\Q (.bl (!(Builtin.Str.occurrences j i 0 j.length 1).isEmpty)) H):=by
 rintro a8 s σ H x y v u Q I rx ry ⟨i,j,rfl,rfl,q⟩;obtain⟨t,rfl⟩:=rx;obtain⟨t',rfl⟩:=ry;exact in_str (qws I q rfl)
theorem JX:OpR X (compareOp .Is) (λx y H Q=>y=.non/\Q (.bl (decide (x=.non))) H):=by
 rintro a8 s σ H x y v u Q I rx ry ⟨rfl,q⟩;cases ry;refine is_none_gen (qws I q ?_);cases x<;>first
  |(obtain⟨t,rfl⟩:=rx;rfl)
theorem qqh:OpR X (compareOp .IsNot) (λx y H Q=>y=.non/\Q (.bl (!decide (x=.non))) H):=by
 rintro a8 s σ H x y v u Q I rx ry ⟨rfl,q⟩;cases ry;refine isnot_none_gen (qws I q ?_);cases x<;>first
  |(obtain⟨t,rfl⟩:=rx;rfl)
theorem OpR.or{f r r'}(h:OpR X f r)(h':OpR X f r'):OpR X f (λx y H Q=>r x y H Q\/r' x y H Q):=by
 intro a8 s σ H x y v u Q I rx ry q;rcases q with q|q
 ·exact h a8 s σ H x y v u Q I rx ry q
 ·exact h' a8 s σ H x y v u Q I rx ry q
theorem jZ b {op}(h:autoParam (op≠.In) ŕ)(h2:autoParam (op≠.NotIn) ŕ):behindInMarks op b=false:=by
 have e1:(op==CmpOp.In)=false:=by cases op<;>first|rfl|exact absurd rfl h
 have e2:(op==CmpOp.NotIn)=false:=by cases op<;>first|rfl|exact absurd rfl h2
 cases b<;>simp[behindInMarks,e1,e2]
theorem wqu{op r}(ho:OpR X (compareOp op) r)(ha:PE X a ta)(hb:PE X b tb)(hm:behindInMarks op b=false):PE X (.Compare a [op] [b] pos) (tOp r ta tb):=by
 intro a8 s σ H Q I h;exact wpAny_Compare1 (xw6 ha hb I h λv u s2 x y H2 I2 rx ry q=>ho a8 s2 σ H2 x y v u Q I2 rx ry q) hm
abbrev wx0(t:TE):TT:=fun σ H Q=>t σ H λx H'=>∃k,x=.bl k/\Q k H'
theorem wqc{op r}(ho:OpR X (compareOp op) r)(ha:PE X a ta)(hb:PE X b tb)(hm:behindInMarks op b=false):PT X (.Compare a [op] [b] pos) (wx0 (tOp r ta tb)):=by
 intro a8 s σ H Q I h;refine wpAny_isTrue_Compare1 (thn (ha a8 s σ H _ I h) λv s1 #[x,H1,I1,r1,q1]=>thn (hb a8 s1 σ H1 _ I1 q1) λu s2 #[y,H2,I2,r2,q2]=>
  thn (ho a8 s2 σ H2 x y v u _ I2 r1 r2 q2) λc s3 #[z,H3,I3,r3,k,e,q3]=>?_) hm
 subst e;cases r3;exact Yu #[H3,I3,q3]
abbrev vje(r r':R2)(ta tb tc:TE):TE:=fun σ H Q=>ta σ H λx H1=>tb σ H1 λy H2=>r x y H2 λz H3=>∃k,z=.bl k /\
 (if k=true then tc σ H3 λw' H4=>r' y w' H4 Q else Q (.bl false) H3)
theorem vxb{op kh:CmpOp}{r r':R2}(ho:OpR X (compareOp op) r)(ik:OpR X (compareOp kh) r')(ha:PE X a ta)(hb:PE X b tb)(hc:PE X c tc)
  (hm:lastMarks [op,kh] [b,c]=false:=by ac_rfl):PE X (.Compare a [op,kh] [b,c] pos) (vje r r' ta tb tc):=by
 intro a8 s σ H Q I h;refine Compare_chain (thn (ha a8 s σ H _ I h) λv s1 #[x,H1,I1,r1,q1]=>chain_link (thn (hb a8 s1 σ H1 _ I1 q1) λu s2 #[y,H2,I2,r2,q2]=>
  thn (ho a8 s2 σ H2 x y v u _ I2 r1 r2 q2) λd s3 #[z,H3,I3,r3,k,e,q3]=>?_)) hm
 subst e;cases r3;refine Yu ?_;cases k with|false=>exact ite_ff #[.bl false,H3,I3,rfl,q3]|true=>exact ite_tt (chain_last (thn (hc a8 s3 σ H3 _ I3 q3) λw' s4 #[z',H4,I4,r4,q4]=>ik a8 s4 σ H4 y z' u w' Q I4 r2 r4 q4))
theorem vx0{op kh r r'}(ho:OpR X (compareOp op) r)(ik:OpR X (compareOp kh) r')(ha:PE X a ta)(hb:PE X b tb)(hc:PE X c tc)
  (hm:lastMarks [op,kh] [b,c]=false:=by ac_rfl):PT X (.Compare a [op,kh] [b,c] pos) (wx0 (vje r r' ta tb tc)):=by
 intro a8 s σ H Q I h;refine isTrue_chain (thn (ha a8 s σ H _ I h) λv s1 #[x,H1,I1,r1,q1]=>test_link (thn (hb a8 s1 σ H1 _ I1 q1) λu s2 #[y,H2,I2,r2,q2]=>
  thn (ho a8 s2 σ H2 x y v u _ I2 r1 r2 q2) λd s3 #[z,H3,I3,r3,k,e,q3]=>?_)) hm
 subst e;cases r3;refine Yu ?_;cases k with
 |false=>
  obtain⟨k',e',q'⟩:=q3;cases e';exact ite_ff #[H3,I3,q']
 |true=>
  refine ite_tt (test_last (thn (hc a8 s3 σ H3 _ I3 q3) λw' s4 #[z',H4,I4,r4,q4]=>thn (ik a8 s4 σ H4 y z' u w' _ I4 r2 r4 q4) λd' s5 #[z2,H5,I5,r5,k2,e2,q5]=>?_));subst e2;cases r5;exact Yu #[H5,I5,q5]
noncomputable def xqg(K:Frag)(x:V)(H:Hp)(k:Bool):Prop:=
 match x with
 |.non=>k=false|.bl b=>k=b|.int i=>k=(i != 0)|.str y=>y.length<=sizeLine/\k=((y.length:Int) != 0)|.byt y=>y.size<=sizeLine/\k=((y.size:Int) != 0)|.ref p=>(∃xs,SqL K H p xs/\k=!xs.isEmpty)\/(∃xs,SqT K H p xs/\k=!xs.isEmpty)\/∃kvs,H p=some (.dK kvs)/\k=!kvs.isEmpty|_=>False
theorem qz7{κ kvs}{vs:List (κ×Value)}(r:KV kvs vs):(!vs.isEmpty)=!kvs.isEmpty:=by
 cases r<;>rfl
theorem kwo{xs af}(r:Vals xs af):(!af.toArray.isEmpty)=!xs.isEmpty:=by
 cases r<;>simp
theorem WK:(sizeLine)<2 ^ 63:=⋯
theorem vzm:TruR X (λx H Q=>∃k,xqg X.K x H k/\Q k H):=by
 rintro a8 s σ H x v Q I rx ⟨k,e,q⟩;have hl:=WK;have hs:sizeLine=16777216:=sizeLine_eq;cases x with
 | non=>
  cases rx;have e':k=false:=e;subst e';exact truthy_none #[H,I,q]
 | bl b=>
  cases rx;have e':k=b:=e;subst e';exact Yu #[H,I,q]
 | int i=>
  obtain⟨t,rfl⟩:=rx;have e':k=(i != 0):=e;subst e';exact PySem.P.truthy_int #[H,I,q]
 | str y=>
  obtain⟨t,rfl⟩:=rx;obtain⟨hy,e'⟩:y.length<=sizeLine/\k=((y.length:Int) != 0):=e;subst e';exact PySem.P.truthy_str ⋯ #[H,I.tok _,q]
 | byt y=>
  obtain⟨t,rfl⟩:=rx;obtain⟨hy,e'⟩:y.size<=sizeLine/\k=((y.size:Int) != 0):=e;subst e';exact PySem.W.truthy_bytes ⋯ #[H,I.tok _,q]
 | ref p=>
  cases rx;have e':(∃xs,SqL X.K H p xs/\k=!xs.isEmpty)\/(∃xs,SqT X.K H p xs/\k=!xs.isEmpty)\/∃kvs,H p=some (.dK kvs)/\k=!kvs.isEmpty:=e;rcases e' with⟨xs,hx,e'⟩|⟨xs,hx,e'⟩|⟨kvs,hx,e'⟩
  ·subst e';obtain⟨af,r,pl,hz⟩:=I.list hx;have ak:=r.length;exact wpAny_truthy_list pl.isList (by simp only[Xa];lia) #[H,I.tok _,by rw[kwo r];exact q]
  ·subst e';obtain⟨af,r,pl,hz⟩:=I.tuple hx;have ak:=r.length;exact truthy_tuple pl (by simp only[Xa];lia) #[H,I.tok _,by rw[kwo r];exact q]
  ·subst e';obtain⟨hz,hS,vs,r,m⟩:kvs.length<=sizeLine/\(p==sysModules)=false/\∃vs,KV kvs vs/\s.heap.DictOf (J9 X.prog X.w) p vs:=I.hok p _ hx;have ak:kvs.length=vs.length:=Paired.length r;exact wpAny_truthy_dict hS m ⋯ #[H,I.tok _,by rw[qz7 r];exact q]
 |_=>exact(show False from e).elim
theorem vwz(ha:PE X a ta)(he:∀i5,isTrue a X.env i5=(do let v <-i5;standAt a.pos;holding [v] (truthy v))):
  PT X a (fun σ H Q=>ta σ H λx H'=>∃k,xqg X.K x H' k/\Q k H'):=by
 intro a8 s σ H Q I h;exact isTrue_plain (thn (ha a8 s σ H _ I h) λv s1 #[x,H1,I1,r1,q1]=>vzm a8 s1 σ H1 x v Q I1 r1 q1) (he _)
theorem op_add_str:OpR X (binaryOp .Add) (λx y H Q=>∃i j,x=.str i/\y=.str j/\i.length+j.length<=sizeLine/\Q (.str (i++j)) H):=by
 rintro a8 s σ H x y v u Q I rx ry ⟨i,j,rfl,rfl,hz,q⟩;obtain⟨t,rfl⟩:=rx;obtain⟨t',rfl⟩:=ry;exact add_str (λt' tk=>#[.str (i++j),H,I.tok _,#[_,rfl],q]) hz
theorem zJ{x us}(r:Vals [x] us):∃u,us=[u]/\RelV x u:=by
 cases r with|cons r1 r2=>cases r2;exact#[_,rfl,r1]
theorem wkb{x y us}(r:Vals [x,y] us):∃u w',us=[u,w']/\RelV x u/\RelV y w':=by
 cases r with
 |cons r1 r2=>
  cases r2 with|cons r3 r4=>cases r4;exact#[_,_,rfl,r1,r3]
theorem vvn:CallR X (.type "int") (λxs H Q=>(∃i,xs=[.int i]/\Q (.int i) H)\/∃k,xs=[.bl k]/\Q (.int (if k then 1 else 0)) H):=by
 intro a8 s σ H xs us Q I r h;rcases h with⟨i,rfl,q⟩|⟨k,rfl,q⟩
 ·obtain⟨u,rfl,t,rfl⟩:=zJ r;exact call_int_int #[.int i,H,I,#[_,rfl],q]
 ·obtain⟨u,rfl,r1⟩:=zJ r;cases r1;exact call_int_bool #[.int _,H,I.tok _,#[_,rfl],q]
end
structure ObjM (h:Heap)(x dx C:Addr)(mA:Str->Option Value):Prop where
 obj:h.get? x=some (PySem.W.instObj C dx)
 ns:h.Ns1 dx mA
 ne:dx≠x
theorem vq3{h:Heap}{dx mA}(n:h.Ns1 dx mA):∃od,h.get? dx=some od/\∀name,PySem.W.lookIn name od=some (mA name):=by
 obtain⟨o,es,ep,ho,hd,hk,_,hm⟩:=n;refine#[o,ho,λname=>?_];have e:=hm name;unfold nsFind findBy at e;rw[<-Array.find?_toList]at e;unfold PySem.W.lookIn;rw[hd];dsimp only
 split
 ·rename_i y q;rw[q]at e;exact congrArg some e
 ·rename_i q;have a:es.toList.any (·.refKey)=false:=by
   rw[List.any_eq_false];intro y hy;obtain⟨z,t,fz⟩:=hk y (Array.mem_toList_iff.mp hy);simp[DictEntry.refKey,fz]
  grind
theorem ObjM.look{h x dx C mA}(I:ObjM h x dx C mA):∃od,PySem.W.InstAt h x (PySem.W.instObj C dx) C (some od)/\∀name,PySem.W.lookIn name od=some (mA name):=
 let ⟨od,ho,hl⟩:=vq3 I.ns
 #[od,#[I.obj,rfl,rfl,ho],hl]
theorem RelO.some_of{v o}(r:RelO (some v) o):∃u,o=some u/\RelV v u:=by
 cases o with|none=>exact(r).elim|some u=>exact#[u,rfl,r]
section
variable {P:Program}{w:World}{H H':Hp}{h h':Heap}{a C dx:Addr}{fs fs':List (Str×V)}
theorem wvj(hok:HOk P w H h)(e:H a=some (.ins C dx fs)):∃mA,ObjM h a dx C mA/\(∀f,RelO (fs.lookup f) (mA f))/\PySem.Within mA (fs.map (·.1))/\fs.length<=1000/\H dx=some (.own a):=by
 obtain⟨d,z,ne,ob,mA,n,r,q⟩:=(hok a _ e);exact#[mA,#[ob,n,ne],r,q,z,d]
end
structure Cls (K:Frag)(C:Addr):Prop where
 pg:PySem.W.plainGet K C Str.empty=true
 hd:PySem.W.hasDictIn K C=true
 po:PySem.W.plainOver K C=true
 sa:findIn K (.ref C) "__setattr__"=some (some (.builtin "object.__setattr__"))
theorem Cls.get{K C}(c:Cls K C) f:PySem.W.plainGet K C f=true:=c.pg
section
variable {X:Cx}{a8:LA9}{σ:St}{H:Hp}{s:Shared}{A:Around}{E:VP9}{Q:VP9}{c:Value}{b:Bool}
inductive TyOf (K:Frag)(H:Hp):V->Value->Prop where
 | non:TyOf K H .non (.type "NoneType")
 | bl (x:Bool):TyOf K H (.bl x) (.type "bool")
 | int (i:Int):TyOf K H (.int i) (.type "int")
 | str (x:Str):TyOf K H (.str x) (.type "str")
 | flt (x:UInt64):TyOf K H (.flt x) (.type "float")
 | lst {a:Addr} {xs:List V} (e:H a=some (.lst xs)):TyOf K H (.ref a) (.type "list")
 | frz {a:Addr} {o:Obj} {xs:List V} (e:H a=some (.frz o (.lst xs))):TyOf K H (.ref a) (.type "list")
 | tup {a:Addr} {xs:List V} (e:H a=some (.tup xs)):TyOf K H (.ref a) (.type "tuple")
 | dK {a:Addr} {kvs:List (Key×V)} (e:H a=some (.dK kvs)):TyOf K H (.ref a) (.type "dict")
 | dT {a:Addr} {kvs:List (List Key×V)} (e:H a=some (.dT kvs)):TyOf K H (.ref a) (.type "dict")
 | ins {a C dx:Addr} {fs:List (Str×V)} (e:H a=some (.ins C dx fs)) (cl:Cls K C) (ha:findIn K (.ref C) "__class__"=some (some (.builtin "object.__class__")))
   (hn:PySem.W.specialIn K (.builtin "object.__class__") "__get__"=some (some (.builtin "getset_descriptor.__get__"))) (htk:PySem.W.takesIn K (.builtin "object.__class__")=some true)
   (hm:PySem.W.mroIn K C (.type "object")=some true):TyOf K H (.ref a) (.ref C)
theorem vqm{x u t}(I:Inv X a8 σ H s)(rx:RelV x u)(ty:TyOf X.K H x t)(e:kitOne X.K t c=some b)(h:∀tk,Q (.bool b) {s with toks:=tk}):
  wpAny (model X.prog X.w) A (call (.builtin "isinstance") [u,c]) Q E s:=by
 cases ty with
 |non=>cases(rx);exact Yj PySem.W.kitx_none I.kIn True.intro e (λz=>nomatch z) h
 |bl y=>cases(rx);exact Yj PySem.W.kitx_bool I.kIn True.intro e (λz=>nomatch z) h
 |int i=>obtain⟨t,q⟩:=(rx);cases q;exact Yj PySem.W.kitx_int I.kIn True.intro e (λz=>nomatch z) h
 |str y=>obtain⟨t,q⟩:=(rx);cases q;exact Yj PySem.W.kitx_str I.kIn True.intro e (λz=>nomatch z) h
 |flt y=>obtain⟨t,q⟩:=(rx);cases q;exact Yj PySem.W.kitx_float I.kIn True.intro e (λz=>nomatch z) h
 |@lst a xs ea=>
  cases(show u=Value.ref a from rx);obtain⟨_,_,n,_,h1⟩:=(I.hok a _ ea);exact Yj PySem.W.kitx_list I.kIn #[_,h1,rfl] e (λz=>nomatch z) h
 |@frz a ob xs ea=>
  cases(rx);obtain⟨_,_,_,n,_,h1⟩:=(I.hok a _ ea);exact Yj PySem.W.kitx_list I.kIn #[_,h1,rfl] e (λz=>nomatch z) h
 |@tup a xs ea=>
  cases(show u=Value.ref a from rx);obtain⟨_,_,_,p⟩:=(I.hok a _ ea);obtain⟨o,h1,h2,_⟩:=p;exact Yj PySem.W.kitx_tuple I.kIn #[o,h1,h2] e (λz=>nomatch z) h
 |@dK a kvs ea=>
  cases(show u=Value.ref a from rx);obtain⟨_,_,vs,_,p⟩:=(I.hok a _ ea);obtain⟨o,es,ep,h1,h2,_⟩:=p;exact Yj PySem.W.kitx_dict I.kIn #[o,h1,h2.1] e (λz=>nomatch z) h
 |@dT a kvs ea=>
  cases(show u=Value.ref a from rx);obtain⟨_,_,xs,_,o,es,ep,h1,h2,_⟩:=(I.hok a _ ea);exact Yj PySem.W.kitx_dict I.kIn #[o,h1,h2.1] e (λz=>nomatch z) h
 |@ins a C dx fs ea cl ha hn htk hm=>
  cases(rx);obtain⟨mA,O,_⟩:=wvj I.hok ea;obtain⟨od,J,_⟩:=O.look;exact Yj (PySem.W.kitx_own (cl.get _) cl.hd ha hn htk hm) I.kIn J e (λz=>nomatch z) h
end
structure Room (k:Nat)(A:Around):Prop where
 hd:A.handled=none
 dp:A.depth+3*k+5<recursionLimit
 un:A.units+16*k+200<cLine
 gd:A.guards=some []
theorem Room.mono{j k A}(r:Room k A)(h:j<=k):Room j A:=#[r.hd,by have:=r.dp;lia,by have:=r.un;lia,r.gd]
theorem Room.deeper{k A}(r:Room (k+1) A) env:Room k (A.deeper env):=
 #[r.hd,by have:=r.dp;show A.depth+1+3*k+5<_;lia,by have:=r.un;show A.units+3+16*k+200<_;lia,r.gd]
theorem Room.depth{k A}(r:Room k A):A.depth<recursionLimit:=by have:=r.dp;lia
theorem Room.units{k A}(r:Room k A):A.units+64<cLine:=by have:=r.un;lia
abbrev xqj:TA:=λ_ H Q=>Q [] H
abbrev wke(ta:TE)(tr:TA):TA:=fun σ H Q=>ta σ H λx H1=>tr σ H1 λxs H2=>Q (x::xs) H2
section
variable {X:Cx}{e:Expr}{es:List Expr}{te:TE}{t:TA}{pos:Pos}
theorem x6:PA X [] xqj:=λ_ _ _ _ H Q I h=>Calls.spliced_nil #[[],H,I,.nil,h]
theorem ww(ha:PE X e te)(hr:PA X es t)(hs:autoParam (starEach (e::es) X.env=(false,eval e X.env)::starEach es X.env) Ŕ):PA X (e::es) (wke te t):=by
 intro pos a8 s σ H Q I h;rw[hs];exact Calls.spliced_cons (thn (ha a8 s σ H _ I h) λu s1 #[x,H1,I1,r1,q1]=>(thn (hr pos a8 s1 σ H1 _ I1 q1) λus s2 #[xs,H2,I2,r2,q2]=>#[x::xs,H2,I2,.cons r1 r2,q2]))
abbrev tTup(t:TA):TE:=fun σ H Q=>t σ H λxs H1=>xs.length<=sizeLine/\∀p,H1 p=none->Q (.ref p) (upd H1 p (.tup xs))
abbrev tLst(t:TA):TE:=fun σ H Q=>t σ H λxs H1=>xs.length<=sizeLine/\∀p,H1 p=none->Q (.ref p) (upd H1 p (.lst xs))
theorem wzk{x1}(h:PA X es t):PE X (.Tuple es x1 pos) (tTup t):=by
 intro a8 s σ H Q I hq;refine wpAny_Tuple_spliced (thn (h pos a8 s σ H _ I hq) λus s1 #[xs,H1,I1,r,z,q]=>#[by rw[<-r.length];exact z,(#[.ref s1.heap.objs.size,upd H1 s1.heap.objs.size _,I1.laid (t':=s1.toks) (λb u e=>X5 _ e) (X9 _) ?_,rfl,q _ (I1.hok.fresh (X9 _))])]);exact#[z,us,r,#[_,X7 _ rfl,rfl,rfl,_,rfl]]
theorem wzo(h:PA X es t):PE X (.List es pos) (tLst t):=by
 intro a8 s σ H Q I hq;refine wpAny_List_spliced (thn (h pos a8 s σ H _ I hq) λus s1 #[xs,H1,I1,r,z,q]=>#[by rw[<-r.length];exact z,(#[.ref s1.heap.objs.size,upd H1 s1.heap.objs.size _,I1.laid (t':=s1.toks) (λb u e=>X5 _ e) (X9 _) ?_,rfl,q _ (I1.hok.fresh (X9 _))])]);exact#[z,us,0,r,X7 _ rfl]
end
abbrev Sp:=List V->Hp->VK->XK->Prop
abbrev CXT:=List Env->Hp->Shared->XK->Value->Shared->Prop
structure Env0 (P:Program)(w:World)(K:Frag)(mg:Str->Option Value)(base:Heap)(A:Around)(outer:List Env)(s:Shared)(H:Hp):Prop where
 frames:A.frames=some outer
 mod:Mod K mg base
 bs:∀b o,base.get? b=some o->s.heap.get? b=some o/\H b=none
 bsz:base.objs.size<=s.heap.objs.size
 funs:s.heap.FunFrames base outer
 frf:∀b∈frs outer,H b=none
 hok:HOk P w H s.heap
 bare:AllBare s.gens
def CE(outer:List Env)(P:Program)(w:World)(H:Hp)(s:Shared)(Q:VK)(u:Value)(s':Shared):Prop:=
 ∃v H',s'.os=s.os/\AllBare s'.gens/\Un (frs outer) [] H H' s.heap s'.heap/\HOk P w H' s'.heap/\RelV v u/\Q v H'
def CR(CX:CXT)(outer:List Env)(P:Program)(w:World)(H:Hp)(s:Shared)(Q:VK)(E:XK)(r:Result)(s':Shared):Prop:=
 match r with
 |.ok (.ret u)=>CE outer P w H s Q u s'|.ok _=>False|.error e=>CX outer H s E e s'
structure FnOk (P:Program)(w:World)(K:Frag)(mg:Str->Option Value)(base:Heap)(CX:CXT)(k:Nat)(f:Addr)(fd:FuncData)(ps:List Str)(sp:Sp):Prop where
 len:∀vs H Q E,sp vs H Q E->vs.length=ps.length
 run:∀(A:Around) (outer:List Env) (s:Shared) (H:Hp) (args:Args) (us:List Value) (vs:List V) (Q:VK) (E:XK),Room k A->Env0 P w K mg base A outer s H->BindsTo s fd args (ps.zip us)->Vals vs us->sp vs H Q E ->
  codeAny (model P w) A (.call (.ref f) args) (CR CX outer P w H s Q E) s
section
variable {X:Cx}{a8:LA9}{σ:St}{H:Hp}{s s':Shared}
theorem Inv.env0(I:Inv X a8 σ H s):Env0 X.prog X.w X.K X.mg X.base X.A X.stack s H:=
 #[I.ok.frames,I.ok.mod,I.bs,Yd I.ok.bsz I.sz,I.stack,I.stkFree,I.hok,I.bare]
theorem Inv.after{Q u}(I:Inv X a8 σ H s)(h:CE X.stack X.prog X.w H s Q u s'):EP X a8 σ Q u s':=by
 obtain⟨v,H',os,bare,un,hok,r,q⟩:=h;obtain⟨hh,g,d,t,qf⟩:=s';obtain rfl:qf=s.os:=os;exact#[v,H',I.call (h':=hh) (g':=g) (d':=d) (t':=t) un hok bare (λb z=>absurd z (by simp)),r,q]
end
abbrev wkf(sp:Sp)(rj:List V)(E:XK)(t:TA):TE:=fun σ H Q=>t σ H λvs H1=>sp (vs++rj) H1 Q E
def Binds(K:Frag)(fd:FuncData)(ps:List Str)(ds:List Value):Prop:=
 ∀(s:Shared) (us:List Value),K.In s.heap->(us++ds).length=ps.length->BindsTo s fd #[us,[]] (ps.zip (us++ds))
theorem Binds.all{K fd ps}(h:∀us,us.length=ps.length->bindArgs fd #[us,[]]=pure (ps.zip us)):Binds K fd ps []:=λs us _ hl=>by
 rw[Xw]at hl ⊢;exact .of_eq (h us hl)
def vw1(CX:CXT)(X:Cx)(E:XK):Prop:=∀(a8:LA9) (σ:St) (H:Hp) (s:Shared) (e:Value) (s':Shared),Inv X a8 σ H s->CX X.stack H s E e s'->X.xe e s'
section
variable {X:Cx}{CX:CXT}{k:Nat}{f C:Addr}{fd:FuncData}{ps:List Str}{sp:Sp}{rj:List V}{ds:List Value}{E:XK}{x m:Str}{p pos apos:Pos}{e o:Expr}{es:List Expr}{ta:TE}{t:TA}
theorem wxd{a8}{σ:St}{H s Q us vs}(F:FnOk X.prog X.w X.K X.mg X.base CX k f fd ps sp)(hr:Room k X.A)(hb:Binds X.K fd ps ds)(hd:Vals rj ds)(hx:vw1 CX X E)
  (I:Inv X a8 σ H s) (r:Vals vs us) (h:sp (vs++rj) H Q E):wpAny (model X.prog X.w) X.A (call (.ref f) us) (EP X a8 σ Q) X.xe s:=by
 have r2:=r.append hd;have hl:(us++ds).length=ps.length:=by rw[<-r2.length];exact F.len _ _ _ _ h
 refine wpAny_call (Zo (F.run X.A X.stack s H _ _ _ Q E hr I.env0 (hb s us I.kIn hl) r2 h) λr s' hq=>?_);cases r with
 |error e=>exact hx a8 σ H s e s' I hq
 |ok fl=>
  cases fl with|ret u=>exact I.after hq|next=>exact False.elim hq|brk=>exact False.elim hq|cont=>exact False.elim hq
theorem wqv(F:FnOk X.prog X.w X.K X.mg X.base CX k f fd ps sp)(hr:Room k X.A)(hg:Gl X x)(hm:X.mg x=some (.ref f))(hk:PySem.W.keepIn X.K (.ref f)=true)(hb:Binds X.K fd ps ds)(hd:Vals rj ds)(hx:vw1 CX X E)
  (ha:PA X (e::es) t) (fq:autoParam ((x==("__debug__":Str))=false) ŕ) (he:autoParam (starEach (e::es) X.env=(false,eval e X.env)::starEach es X.env) Ŕ) (bq:autoParam ((backTo pos (starEach es X.env)).any (·.1)=false) Ŕ):
  PE X (.Call (.Name x p) (e::es) [] pos) (wkf sp rj E t):=by
 intro a8 s σ H Q I h;exact Yo (kqx I hg hm (PySem.W.callWith_K I.ok.mod.kin hk (thn (ha pos a8 s σ H _ I h) λus s1 #[vs,H1,I1,r,q]=>#[I1.kIn,(wxd F hr hb hd hx I1 r q)]) he bq) fq)
end
structure FnScope (N P:List Str)(sc:Scope):Prop where
 kind:sc.kind=.function
 co:sc.isCoroutine=false
 gen:sc.isGenerator=false
 nd:N.Nodup
 pre:N.take P.length=P
 par:∀x∈P,sc.names.lookup x=some .local\/sc.names.lookup x=some .cell
 nofree:∀y∈sc.names,y.2≠.free
theorem qkm{kindOf x}: ∀{binds m},(∀v,(x,v)∉binds) -> bindL kindOf binds m x = m x
  | [],_,_=>rfl
  | (n,v)::r,m,h=>by
    unfold bindL;rw[qkm λw hw=>h w (lc9 _ hw)]
    split
    · have : x≠n:= by rintro rfl; exact h v X6
      simp[this]
    · rfl
theorem qko{kindOf x}: ∀{binds m},(∀v,(x,v)∉binds) -> bindC kindOf binds m x = m x
  | [],_,_=>rfl
  | (n,v)::r,m,h=>by
    unfold bindC;rw[qko λw hw=>h w (lc9 _ hw)]
    split
    · rfl
    · have : x≠n:= by rintro rfl; exact h v X6
      simp[this]
theorem qkn{kindOf x v}:∀{P:List Str} {vs} {i:Nat} {m},P.Nodup->P[i]?=some x->vs[i]?=some v->kindOf x=some .local ->
  bindL kindOf (P.zip vs) m x=some v
 |[],_,_,_,_,h,_,_=>by simp at h
 |p::P,w::vs,0,m,nd,h1,h2,hk=>by
  simp at h1 h2;subst h1;subst h2;show bindL kindOf (_::P.zip vs) m p=_;unfold bindL;rw[qkm λv hv=>(List.nodup_cons.mp nd).1 (List.of_mem_zip hv).1,Xd hk];simp
 |p::P,w::vs,i+1,m,nd,h1,h2,hk=>by
  unfold bindL;exact qkn (List.nodup_cons.mp nd).2 (by simpa using h1) (by simpa using h2) hk
theorem qkp{kindOf x v}:∀{P:List Str} {vs} {i:Nat} {m},P.Nodup->P[i]?=some x->vs[i]?=some v->kindOf x≠some .local ->
  bindC kindOf (P.zip vs) m x=some v
 |[],_,_,_,_,h,_,_=>by simp at h
 |p::P,w::vs,0,m,nd,h1,h2,hk=>by
  simp at h1 h2;subst h1;subst h2;show bindC kindOf (_::P.zip vs) m p=_;unfold bindC;rw[qko λv hv=>(List.nodup_cons.mp nd).1 (List.of_mem_zip hv).1,Xg hk];simp
 |p::P,w::vs,i+1,m,nd,h1,h2,hk=>by
  unfold bindC;exact qkp (List.nodup_cons.mp nd).2 (by simpa using h1) (by simpa using h2) hk
noncomputable def start(N:List Str)(vs:List V):St:=vs.map some++List.replicate (N.length - vs.length) none
noncomputable def Qq(CX:CXT)(P:Program)(w:World)(K:Frag)(mg:Str->Option Value)(base:Heap)(N:List Str)(qual:Str)(scope:Scope)(f:Addr)(cd:Value)(A:Around)(outer:List Env)(s:Shared)(H:Hp)(E:XK):Cx where
 prog:=P
 w:=w
 K:=K
 mg:=mg
 base:=base
 A:=A.deeper (envOfC qual scope s.heap.objs.size f cd)
 N:=N
 s₀:=s
 H₀:=H
 env:=envOfC qual scope s.heap.objs.size f cd
 outer:=outer
 stack:=envOfC qual scope s.heap.objs.size f cd::outer
 ex:=[]
 calm:=true
 fn:=λ_=>true
 pn:=[]
 xe:=λe s'=>wpAny (model P w) (A.deeper (envOfC qual scope s.heap.objs.size f cd)) (leaving (envOfC qual scope s.heap.objs.size f cd) e) (λ_ mv=>CX outer H s E e mv) (λe' mv=>CX outer H s E e' mv) s'
theorem qwu{sc:Scope}{n x}(h:sc.names.lookup x=some .cell):∃c,(cellsFrom n sc.names []).lookup x=some c:=by
 exact Option.isSome_iff_exists.mp (PySem.W.cellsFrom_some sc.names n [] (.inl h))
theorem vqn{CX P w K mg base N ps qual scope f cd A outer s s1 H E us}{vs}
  (S:FnScope N ps scope) (hd:A.handled=none) (e0:Env0 P w K mg base A outer s H) (hl:vs.length=ps.length) (r:Vals vs us)
  (x:InCallC s s.heap.objs.size (bindL (envOfC qual scope s.heap.objs.size f cd).kindOf (ps.zip us) λ_=>none) (cellsFrom (s.heap.objs.size+1) scope.names []) (bindC (envOfC qual scope s.heap.objs.size f cd).kindOf (ps.zip us) λ_=>none) s1):
  Inv (Qq CX P w K mg base N qual scope f cd A outer s H E) [] (start N vs) H s1:=by
 have bq:ps.length<=N.length:=by have:=congrArg List.length S.pre;rw[Yp]at this;lia
 obtain⟨h1,tk,rfl,hk⟩:=x.done;have ur:∀b,b∉(Qq CX P w K mg base N qual scope f cd A outer s H E).ex:=λb z=>absurd (show b∈([]:List Addr)from z) (by simp)
 refine#[#[e0.mod,S.kind,rfl,rfl,X9 _,λy z c h1 h2=>?_,λy hy=>?_,λy c _ h=>?_,λ_=>hd,Around.frames_deeper e0.frames,.inr #[rfl,rfl],λb z=>absurd z (ur b),e0.bs,e0.bsz,λb _ _=>ur b,λb z=>absurd z (ur b),e0.funs,e0.frf],
  rfl,e0.bare,Un.kept hk,#[_,x.toInCall.ns,λi y v h1 h2 h3=>?_],λy c h=>#[_,x.cell y c h],e0.hok.fresh (X9 _),λy c h=>?_,λp hp=>absurd (show p∈([]:List _)from hp) (by simp),e0.hok.kept hk,?_]
 ·exact name_of_addr x.apart (Yw h1) (Yw h2)
 ·rcases hy with hy|hy
  ·exact qwu hy
  ·exact absurd rfl (S.nofree _ (Yw hy))
 ·exact Nat.le_of_lt (x.above y c (Yw h))
 ·have hi:i<vs.length:=by
   unfold start at h2
   by_cases hi:i<vs.length
   ·exact hi
   ·rw[Yb (by simpa using hi),List.getElem?_replicate]at h2
    split at h2<;>cases h2
  have ha:vs[i]?=some v:=by
   unfold start at h2;rw[Xn (by simpa using hi),X8]at h2;cases e:vs[i]? with|none=>rw[e]at h2;cases h2|some a=>rw[e]at h2;cases h2;rfl
  obtain⟨u,hu,rv⟩:=r.get ha;have hp:ps[i]?=some y:=by
   rw[<-S.pre,List.getElem?_take_of_lt ⋯];exact h1
  have ndP:ps.Nodup:=by rw[<-S.pre];exact S.nd.sublist (List.take_sublist _ _)
  refine#[u,rv,?_];rcases S.par y (Z1 hp)with k|k
  ·exact .inl #[k,qkn ndP hp hu k]
  ·obtain⟨c,e⟩:=qwu k;refine .inr #[.inl k,c,e,?_];have q:=x.cell y c e;rw[qkp ndP hp hu (by show scope.names.lookup y≠_;rw[k];decide)]at q;exact q
 ·exact e0.hok.fresh (Nat.le_of_lt (x.above y c (Yw h)))
 ·unfold start;show _=N.length;rw[Xf,X3,Zc];lia
theorem xvz{CX P w K mg base k f name qual params body scope dV kV ja pm b6 ct oc}{an od}
  {oh N ps sp} (lk:K.lookup f=some #[oc,od,.func (PySem.W.fnOf name qual params body scope dV kV ja pm an b6 ct),oh]) (ju:PySem.W.codeIn K b6 qual=true) (S:FnScope N ps scope)
  (len:∀vs H Q E,sp vs H Q E->vs.length=ps.length)
  (mt:∀A (outer) (s) (H) (vs) (Q) (E),Room k (A.deeper (envOfC qual scope s.heap.objs.size f b6))->sp vs H Q E ->
   ∃t,PSs (Qq CX P w K mg base N qual scope f b6 A outer s H E) body t/\t {nx:=λ_ H'=>Q .non H',rt:=Q} (start N vs) H):
  FnOk P w K mg base CX (k+1) f (PySem.W.fnOf name qual params body scope dV kV ja pm an b6 ct) ps sp:=by
 refine#[len,λA outer s H args us vs Q E hr e0 hb r ma=>?_];have KX:=e0.mod.kin.keeps λb o e=>(e0.bs b o e).1
 have u6:∀y∈ps.zip us,scope.names.lookup y.1=some .local\/(scope.names.lookup y.1=some .cell/\((cellsFrom (s.heap.objs.size+1) scope.names []).lookup y.1).isSome=true):=λ⟨n,v⟩ hy=>by
  rcases S.par n (List.of_mem_zip hy).1 with q|q
  ·exact .inl q
  ·exact .inr #[q,PySem.W.cellsFrom_some _ _ _ (.inl q)]
 refine codeAny_call_function hr.depth (KX _ _ lk) rfl S.co S.gen rfl (PySem.W.codeRec_of KX ju) (hb _ _ _ _ (wpAny_newFunctionEnv_cells S.kind u6 λenv he s1 x=>?_));subst he;refine#[(e0.mod.nolimit.keeps λb o e=>(e0.bs b o e).1).keeps x.toInCall.keep,codeAny_func ?_];obtain⟨t,ht,hq⟩:=mt A outer s H vs Q E (hr.deeper _) ma;have I:Inv (Qq CX P w K mg base N qual scope f b6 A outer s H E) [] _ H s1:=vqn S hr.hd e0 (len _ _ _ _ ma) r x;refine Zn (ht [] s1 _ H _ I hq) (λfl s' hs=>?_) λe s' hs=>hs
 have fin:∀{σ' H' v u},Inv (Qq CX P w K mg base N qual scope f b6 A outer s H E) [] σ' H' s'->RelV v u->Q v H'->CE outer P w H s Q u s':=
  fun {σ' H' v u} J rv q=>#[v,H',J.os,J.bare,J.base,J.hok,rv,q]
 cases fl with
 |ret u=>
  obtain⟨v,σ',H',J,rv,q⟩:=hs;exact fin J rv q
 |next=>
  obtain⟨σ',H',J,q⟩:=hs;exact fin (v:=V.non) J rfl q
 |brk=>
  obtain⟨_,_,_,q⟩:=hs;exact False.elim q
 |cont=>
  obtain⟨_,_,_,q⟩:=hs;exact False.elim q
section
variable {X:Cx}{x:Str}{p pos:Pos}{e:Expr}{es:List Expr}{t:TA}{id T:String}{r:List V->Hp->VK->Prop}
abbrev tCB(r:List V->Hp->VK->Prop)(t:TA):TE:=fun σ H Q=>t σ H λvs H1=>r vs H1 Q
theorem qw4(hc:CallR X (.builtin id) r)(hg:Gl X x)(hm:X.mg x=none)(hv:bootBuiltins x=some (.builtin id))(ha:PA X (e::es) t)(hn:autoParam (x≠"__name__") ŕ)(fq:autoParam ((x==("__debug__":Str))=false) ŕ)
  (he:autoParam (starEach (e::es) X.env=(false,eval e X.env)::starEach es X.env) Ŕ) (bq:autoParam ((backTo pos (starEach es X.env)).any (·.1)=false) Ŕ):PE X (.Call (.Name x p) (e::es) [] pos) (tCB r t):=by
 intro a8 s σ H Q I h;exact Yo (K3 I hg hm hv (PyProof.Rows.callWith_builtin1 (thn (ha pos a8 s σ H _ I h) λus s1 #[vs,H1,I1,r1,q1]=>hc a8 s1 σ H1 vs us Q I1 r1 q1) he bq) hn fq)
theorem vkk(hc:CallR X (.type T) r)(hg:Gl X x)(hm:X.mg x=none)(hv:bootBuiltins x=some (.type T))(ha:PA X (e::es) t)(hn:autoParam (x≠"__name__") ŕ)(fq:autoParam ((x==("__debug__":Str))=false) ŕ)
  (he:autoParam (starEach (e::es) X.env=(false,eval e X.env)::starEach es X.env) Ŕ) (bq:autoParam ((backTo pos (starEach es X.env)).any (·.1)=false) Ŕ):PE X (.Call (.Name x p) (e::es) [] pos) (tCB r t):=by
 intro a8 s σ H Q I h;exact Yo (K3 I hg hm hv (Y8 (thn (ha pos a8 s σ H _ I h) λus s1 #[vs,H1,I1,r1,q1]=>hc a8 s1 σ H1 vs us Q I1 r1 q1) he bq) hn fq)
end
end L2
namespace HT
open PySem PyProof.Rows
section
variable {prog:Program}{w:World}{A:Around}{E:VP9}{s:Shared}
theorem cat_tup{t b vs ws Q}(ht:IsTup s.heap t vs.toArray)(hb:IsTup s.heap b ws.toArray)(hv:vs≠[])
  (h1:ws=[]->Q (.ref t) s) (h2:ws≠[]->Q (.ref s.heap.objs.size) {s with heap:=s.heap.push {cls:=.type "tuple",data:=.seq (vs++ws).toArray}})
  (hsz:vs.length+ws.length<=sizeLine):wpAny (model prog w) A (binaryOp .Add (.ref t) (.ref b)) Q E s:=by
 obtain⟨⟨cls,dd,data,sl⟩,ho,hc,n,hd⟩:=id ht;obtain⟨⟨cls2,dd2,data2,ng⟩,ko,qy,n2,ij⟩:=id hb;subst hc hd qy ij;have e:vs.toArray++ws.toArray=(vs++ws).toArray:=by simp
 by_cases hw:ws=[]
 ·exact concat_meets #[_,ho,rfl] #[_,ko,rfl] noFill_tuple_add seq_tuple_add PySem.F.slot_tuple_add PySem.F.entry_tuple_add (PySem.F.args_tuple_add_2 _ _)
   (tuple_addW1 t b vs.toArray ws.toArray n n2 dd dd2 sl ng (by simpa using hv) (by simp[hw])) #[ho,ko,h1 hw]
 ·refine concat_meets #[_,ho,rfl] #[_,ko,rfl] noFill_tuple_add seq_tuple_add PySem.F.slot_tuple_add PySem.F.entry_tuple_add (PySem.F.args_tuple_add_2 _ _)
   (tuple_addW2 t b vs.toArray ws.toArray n n2 dd dd2 sl ng (by simpa using hv) (by simpa using hw) (hsz)) #[ho,ko,?_]
  rw[e];exact h2 hw
noncomputable def sIx(n d:Nat):Option Int->Nat
 |none=>d|some v=>if v<0 then(v+(n:Int)).toNat else min v.toNat n
theorem vvg v (n d:Nat):(if v<0 then max (v+(n:Int)) 0 else min v n)=((sIx n d (some v):Nat):Int):=by
 show _=(((if v<0 then(v+n).toNat else min v.toNat n):Nat):Int)
 by_cases hv:v<0
 ·simp only[Xd hv];lia
 ·grind
theorem qzj(lo hi)(n:Nat):Builtin.Slice.sliceAdjust lo hi 1 n=(((sIx n 0 lo:Nat):Int),((sIx n n hi):Int)):=by
 have h1:¬((1:Int)<0):=⋯
 unfold Builtin.Slice.sliceAdjust;refine Prod.ext ?_ ?_
 ·cases lo with|none=>rfl|some v=>exact vvg v n 0
 ·cases hi with|none=>rfl|some v=>exact vvg v n n
theorem qxn(i j:Nat):Builtin.Slice.slicePlaces i j 1=j - i:=by
 unfold Builtin.Slice.slicePlaces;have h1:1>0:=⋯
 simp
 split<;>lia
theorem kwd{v o Q}(p:IsPart v o)(h:Q o s):wpAny (model prog w) A (Builtin.Slice.slicePartIndex v) Q E s:=by
 cases p with|none=>exact slicePart_none h|int i t=>exact slicePart_int h
theorem kkr{sl vl vu lo hi n}{Q:Int×Int×Nat->Shared->Prop}(hs:s.heap.IsSliceOf sl vl vu .none)(pl:IsPart vl lo)(pu:IsPart vu hi)
  (h:Q (((sIx n 0 lo:Nat):Int),1,sIx n n hi - sIx n 0 lo) s):wpAny (model prog w) A (Builtin.Slice.sliceApplied (.ref sl) (pure n)) Q E s:=by
 obtain⟨os,ln,mr,b7⟩:=id hs;refine X0 (X0 (Yx ln b7 (x:=vl) rfl (X0 (Yx ln b7 (x:=vu) rfl (X0 (Yx ln b7 (x:=.none) rfl (X4 (X0 (slicePart_none (X0 (kwd pl (X0 (kwd pu (X0 (X4 ?_)))))))))))))));show wpAny _ _ (match Builtin.Slice.sliceAdjust lo hi 1 n with|(lo,hi)=>pure (lo,_,Builtin.Slice.slicePlaces lo hi 1)) _ _ s;rw[qzj lo hi n];show wpAny _ _ (pure _) _ _ s;rw[qxn];exact X4 h
theorem vx6(xs:Array Value)(i k:Nat):((List.range k).filterMap λ(m:Nat)=>xs[(i+(m:Int)*1).toNat]?).toArray=((xs.toList.drop i).take k).toArray:=by
 have e:(λ(m:Nat)=>xs[(i+(m:Int)*1).toNat]?)=λm=>xs[i+m]?:=by
  funext m;have:(i+(m:Int)*1).toNat=i+m:=⋯
  rw[this]
 rw[e];have:=pick_run xs i k;rw[List.filterMap_map]at this;have e2:(_∘λx=>i+x)=λm=>xs[i+m]?:=rfl
 rw[e2]at this;rw[this]
theorem getItem_tuple_cut{t sl items vl vu lo hi Q}(ht:IsTup s.heap t items)(hs:s.heap.IsSliceOf sl vl vu .none)(pl:IsPart vl lo)(pu:IsPart vu hi)
  (hw:¬(sIx items.size 0 lo=0/\sIx items.size items.size hi=items.size))
  (h:Q (.ref s.heap.objs.size) {s with heap:=s.heap.push {cls:=.type "tuple",data:=.seq ((items.toList.drop (sIx items.size 0 lo)).take (sIx items.size items.size hi - sIx items.size 0 lo)).toArray}})
  (hsz:items.size<=sizeLine):wpAny (model prog w) A (getItem (.ref t) (.ref sl)) Q E s:=by
 have t6:sizeOk (.seq ((items.toList.drop (sIx items.size 0 lo)).take (sIx items.size items.size hi - sIx items.size 0 lo)).toArray):=by
  show((items.toList.drop _).take _).toArray.size<=sizeLine;rw[Xa,Yp,Zk,Xm];lia
 obtain⟨os,ln,mr,b7⟩:=id hs;have hTs:s.TypeIs (.ref sl) "slice":=#[os,ln,mr];unfold getItem
 try with_reducible refine Y9 ?_
 refine X0 (wpAny_sequenceKey ht.typeIs ⋯ ?_);refine X0 (Y6 ht.typeIs PyProof.Rows.slot_tuple_getitem
  (Y1 PyProof.Rows.slot_tuple_getitem ht.typeIs entry_tuple_getitem ?_ (args_tuple_getitem _ _)))
 show wpAny _ _ (Builtin.Tuple.tupleItemsOf _ >>= _) _ _ s;refine X0 (tupleItemsOf_ ht (X0 (wpAny_typeOf hTs (X0 (kkr hs pl pu ?_)))));have il:¬((((sIx items.size 0 lo:Nat):Int)==0&&(1:Int)==1&&(sIx items.size items.size hi - sIx items.size 0 lo)==items.size)=true):=by
  grind
 show wpAny _ _ (if _=true then _ else _) _ _ s;rw[Xg il,vx6]
 first
  |exact X0 (Y4 (X0 (X4 (X4 ⟨_,rfl,X4 h⟩))) t6)
end
end HT
namespace L2
open PySem PySem.Spec PyProof.Rows
abbrev TO:=St->Hp->(Option Int->Hp->Prop)->Prop
def PO(X:Cx)(e:Option Expr)(t:TO):Prop:=
 ∀(a8:LA9) (s:Shared) (σ:St) (H:Hp) (Q:Option Int->Hp->Prop),Inv X a8 σ H s->t σ H Q ->
  wpAny (model X.prog X.w) X.A (evalPart e X.env) (λu s'=>∃o H',Inv X a8 σ H' s'/\IsPart u o/\Q o H') X.xe s
abbrev vjd:TO:=λ_ H Q=>Q none H
abbrev wx2(t:TE):TO:=fun σ H Q=>t σ H λx H1=>∃i,x=.int i/\Q (some i) H1
theorem qz8{ns}:∀{us},Vals (ns.map V.int) us->IntsAre us ns:=by
 induction ns with
 | nil=>intro us r;cases r;exact .nil
 | cons n ns ih=>
  intro us r;cases r with
  |cons r1 r2=>
   obtain⟨t,e⟩:=r1;subst e;exact .cons n t (ih r2)
section
variable {X:Cx}{e:Expr}{te:TE}{lo hi:Option Expr}{tl th:TO}{pos p2:Pos}
theorem wql:PO X none vjd:=by
 intro a8 s σ H Q I h;exact X4 #[none,H,I,.none,h]
theorem wqk(h:PE X e te):PO X (some e) (wx2 te):=by
 intro a8 s σ H Q I hw;refine thn (h a8 s σ H _ I hw) λu s1 #[x,H1,I1,r1,q1]=>?_
 obtain⟨i,rfl,q⟩:=q1;obtain⟨t,rfl⟩:=r1;exact#[some i,H1,I1,.int i t,q]
noncomputable def SlR(X:Cx)(r:V->Option Int->Option Int->Hp->VK->Prop):Prop:=
 ∀(a8:LA9) (s:Shared) (σ:St) (H:Hp) (x:V) (v vl vu:Value) (lo hi:Option Int) (sl:Addr) (Q:VK),Inv X a8 σ H s->RelV x v->s.heap.IsSliceOf sl vl vu .none->IsPart vl lo->IsPart vu hi->r x lo hi H Q ->
  ∃T id,typeLookup (.type T) "__getitem__"=pure (some (.builtin id))/\s.TypeIs v T/\wpAny (model X.prog X.w) X.A (getItem v (.ref sl)) (EP X a8 σ Q) X.xe s
theorem SlR.or{r r'}(h:SlR X r)(h':SlR X r'):SlR X (λx lo hi H Q=>r x lo hi H Q\/r' x lo hi H Q):=by
 intro a8 s σ H x v vl vu lo hi sl Q I rx hs pl pu q;rcases q with q|q
 ·exact h a8 s σ H x v vl vu lo hi sl Q I rx hs pl pu q
 ·exact h' a8 s σ H x v vl vu lo hi sl Q I rx hs pl pu q
abbrev tSl(r:V->Option Int->Option Int->Hp->VK->Prop)(te:TE)(tl th:TO):TE:=fun σ H Q=>te σ H λx H1=>tl σ H1 λl H2=>th σ H2 λu H3=>r x l u H3 Q
theorem vx8{r}(hr:SlR X r)(he:PE X e te)(hl:PO X lo tl)(hu:PO X hi th):PE X (.Subscript e (.Slice lo hi none p2) pos) (tSl r te tl th):=by
 intro a8 s σ H Q I h;refine Subscript_ (thn (he a8 s σ H _ I h) λv s1 #[x,H1,I1,r1,q1]=>(wpAny_Slice (thn (hl a8 s1 σ H1 _ I1 q1) λvl s2 #[l,H2,I2,pl,q2]=>thn (hu a8 s2 σ H2 _ I2 q2) λvu s3 #[u,H3,I3,pu,q3]=>(X4 ?_))));have I4:Inv X a8 σ H3 {s3 with heap:=s3.heap.push {cls:=.type "slice",data:=.fields (List.toArray [vl,vu,.none])}}:=I3.kept (t':=s3.toks) λb ob q=>X5 _ q
 obtain⟨T,id,hT,ht,hg⟩:=hr a8 {s3 with heap:=s3.heap.push {cls:=.type "slice",data:=.fields (List.toArray [vl,vu,.none])}} σ H3 x v vl vu l u s3.heap.objs.size Q I4 r1 (Heap.IsSliceOf.new ..) pl pu q3;exact tail_any ht hT hg (by ac_rfl)
def wwp(xs:List V)(lo hi:Option Int):List V:=(xs.drop (HT.sIx xs.length 0 lo)).take (HT.sIx xs.length xs.length hi - HT.sIx xs.length 0 lo)
theorem kv7 xs (lo hi):(wwp xs lo hi).length<=xs.length:=by
 unfold wwp;rw[Yp,Zk];lia
def xwh(K:Frag):V->Option Int->Option Int->Hp->VK->Prop:=λx lo hi H Q=>∃a xs,x=.ref a/\SqT K H a xs /\
 ¬(HT.sIx xs.length 0 lo=0/\HT.sIx xs.length xs.length hi=xs.length)/\∀p,H p=none->Q (.ref p) (upd H p (.tup (wwp xs lo hi)))
theorem sl_tup:SlR X (xwh X.K):=by
 rintro a8 s σ H x v vl vu lo hi sl Q I rx hs pl pu ⟨a,xs,rfl,hx,hw,q⟩;cases rx;obtain⟨af,r,ht,hz⟩:=I.tuple hx;have ak:af.toArray.size=xs.length:=r.length.symm;refine#["tuple",_,PyProof.Rows.slot_tuple_getitem.lookup,ht.typeIs,(HT.getItem_tuple_cut ht hs pl pu (ak▸hw) ?_ (ak▸hz))];rw[ak];refine#[.ref s.heap.objs.size,_,I.laid (t':=s.toks) (λb ob q=>X5 _ q) (X9 _) ?_,rfl,q _ (I.hok.fresh (X9 _))];exact#[Yd (kv7 xs lo hi) hz,_,(r.drop _).take _,IsTupD.new _ _]
def wxq(K:Frag):R2:=λx y H Q=>∃a b xs ys,x=.ref a/\y=.ref b/\SqT K H a xs/\SqT K H b ys/\xs≠[]/\xs.length+ys.length<=sizeLine /\
 (ys=[]->Q (.ref a) H)/\(ys≠[]->∀p,H p=none->Q (.ref p) (upd H p (.tup (xs++ys))))
theorem Vals.nil_iff{xs us}(r:Vals xs us):us=[]↔xs=[]:=by
 cases r with|nil=>simp|cons _ _=>simp
theorem wv0:OpR X (binaryOp .Add) (wxq X.K):=by
 rintro a8 s σ H x y v u Q I rx ry ⟨a,b,xs,ys,rfl,rfl,ha,hb,hx,hz,q1,q2⟩;cases rx;cases ry;obtain⟨af,r1,p1,_⟩:=I.tuple ha;obtain⟨iz,r2,p2,_⟩:=I.tuple hb;refine HT.cat_tup p1 p2 (λz=>hx (r1.nil_iff.mp z)) (λz=>#[.ref a,H,I,rfl,q1 (r2.nil_iff.mp z)]) (λz=>(#[.ref s.heap.objs.size,_,I.laid (t':=s.toks) (λb ob q=>X5 _ q) (X9 _) ?_,rfl,q2 (λw=>z (r2.nil_iff.mpr w)) _ (I.hok.fresh (X9 _))])) (by rw[<-r1.length,<-r2.length];exact hz);exact#[by rw[Xf];exact hz,_,r1.append r2,IsTupD.new _ _]
end
noncomputable def ixN(n:Nat)(i:Int):Option Nat:=if 0<=i then(if i<n then some i.toNat else none)else if -(n:Int)<=i then some (i+n).toNat else none
def atI{α:Type}(xs:List α)(i:Int):Option α:=(ixN xs.length i).bind λj=>xs[j]?
theorem qqu{n i j}(h:ixN n i=some j):seqIndex? i n=some j/\j<n/\-n<=i/\i<n:=by
 unfold ixN at h
 by_cases h0:0<=i
 ·rw[Xd h0]at h
  by_cases h1:i<n
  ·rw[Xd h1]at h;exact#[by rw[seqIndex_of h0 h1,(oq9 h)],⋯,⋯,h1]
  ·rw[Xg h1]at h;cases h
 ·rw[Xg h0]at h
  by_cases h1:-n<=i
  ·rw[Xd h1]at h;exact#[by rw[seqIndex_neg ⋯ h1,(oq9 h)],⋯,h1,⋯]
  ·rw[Xg h1]at h;cases h
theorem qve{α xs i}{v:α}(h:atI xs i=some v):∃j,seqIndex? i xs.length=some j/\xs[j]?=some v/\j<xs.length/\-(xs.length:Int)<=i/\i<xs.length:=by
 unfold atI at h;cases e:ixN xs.length i with
 |none=>rw[e]at h;cases h
 |some j=>
  rw[e]at h;obtain⟨h1,h2,h3,h4⟩:=qqu e;exact#[j,h1,h,h2,h3,h4]
def kzm(b:Expr):Prop:=∀o i,subscripted b false o i=operate [o,i] (getItem o i)
noncomputable def IxR(X:Cx)(r:R2):Prop:=
 ∀(dg slice:Expr) (a8:LA9) (s:Shared) (σ:St) (H:Hp) (x y:V) (v u:Value) (Q:VK),Inv X a8 σ H s->RelV x v->RelV y u->r x y H Q ->
  subscripted slice false v u=operate [v,u] (getItem v u)->wpAny (model X.prog X.w) X.A (subscriptTail dg slice v u) (EP X a8 σ Q) X.xe s
noncomputable def MtR(X:Cx)(id:String)(r:V->List V->Hp->VK->Prop):Prop:=
 ∀(a8:LA9) (s:Shared) (σ:St) (H:Hp) (x:V) (xs:List V) (v:Value) (us:List Value) (Q:VK),Inv X a8 σ H s->RelV x v->Vals xs us->r x xs H Q ->
  wpAny (model X.prog X.w) X.A (call (.builtin id) (v::us)) (EP X a8 σ Q) X.xe s
section
variable {X:Cx}{a b:Expr}{ta tb:TE}{pos:Pos}
theorem IxR.or{r r'}(h:IxR X r)(h':IxR X r'):IxR X (λx y H Q=>r x y H Q\/r' x y H Q):=by
 intro dg slice a8 s σ H x y v u Q I rx ry q hs;rcases q with q|q
 ·exact h dg slice a8 s σ H x y v u Q I rx ry q hs
 ·exact h' dg slice a8 s σ H x y v u Q I rx ry q hs
theorem wzp{r}(hr:IxR X r)(ha:PE X a ta)(hb:PE X b tb)(hs:kzm b):PE X (.Subscript a b pos) (tOp r ta tb):=by
 intro a8 s σ H Q I h;exact Subscript_ (xw6 ha hb I h λv u s2 x y H2 I2 rx ry q=>hr a b a8 s2 σ H2 x y v u Q I2 rx ry q (hs _ _))
def xwn(K:Frag):R2:=λx y H Q=>∃p xs i v,x=.ref p/\y=.int i/\SqL K H p xs/\atI xs i=some v/\Q v H
def xwl(K:Frag):R2:=λx y H Q=>∃p xs i v,x=.ref p/\y=.int i/\SqT K H p xs/\atI xs i=some v/\Q v H
def xwm:R2:=λx y H Q=>∃z i c,x=.str z/\y=.int i/\z.length<=sizeLine/\atI z.cps.toList i=some c/\Q (.str #[(List.toArray [c])]) H
theorem ix_list:IxR X (xwn X.K):=by
 intro dg slice a8 s σ H x y v u Q I rx ry h hs;obtain⟨p,xs,i,z,rfl,rfl,hq,he,q⟩:=h;cases rx;obtain⟨t,rfl⟩:=ry;obtain⟨af,r,pl,hz⟩:=I.list hq;obtain⟨j,h1,h2,h3,h4,h5⟩:=qve he;obtain⟨w,ew,lp⟩:=r.get h2;have hl:=r.length;have hn:=WK;have fin:EP X a8 σ Q w s:=#[z,H,I,lp,q]
 by_cases h0:0<=i
 ·have hj:i.toNat=j:=by
   rw[seqIndex_of h0 h5]at h1;exact oq9 h1
  exact item_listR pl.isList h0 ⋯ (by rw[hj];simpa using ew) fin hs
 ·have hj:(i+(af.toArray.size:Int)).toNat=j:=by
   rw[seqIndex_neg ⋯ h4]at h1;rw[Xa,<-hl];exact oq9 h1
  exact subscriptTail_builtinR pl.isList.typeIs slot_list_getitem.lookup
   (wpAny_getItem_list_neg pl.isList ⋯ (by rw[Xa]<;>lia) ⋯ (by rw[hj];simpa using ew) #[rfl,fin]) hs
theorem ix_tup:IxR X (xwl X.K):=by
 intro dg slice a8 s σ H x y v u Q I rx ry h hs;obtain⟨p,xs,i,z,rfl,rfl,hq,he,q⟩:=h;cases rx;obtain⟨t,rfl⟩:=ry;obtain⟨af,r,pl,hz⟩:=I.tuple hq;obtain⟨j,h1,h2,h3,h4,h5⟩:=qve he;obtain⟨w,ew,lp⟩:=r.get h2;have hn:=WK;have fin:EP X a8 σ Q w s:=#[z,H,I,lp,q];exact subscriptTail_builtinR pl.typeIs slot_tuple_getitem.lookup
  (getItem_tuple pl ⋯ ⋯ (by rw[Xa,<-r.length];exact h1) (by simpa using ew) #[rfl,fin]) hs
theorem xjn:IxR X xwm:=by
 intro dg slice a8 s σ H x y v u Q I rx ry h hs;obtain⟨z,i,c,rfl,rfl,hz,he,q⟩:=h;obtain⟨t,rfl⟩:=rx;obtain⟨t',rfl⟩:=ry;obtain⟨j,h1,h2,h3,h4,h5⟩:=qve he;have hl:z.cps.toList.length=z.length:=by simp[Str.length]
 rw[hl]at h1 h4 h5;have hn:=WK;exact tail_any (typeIs_str s z t) slot_str_getitem.lookup (getItem_str (c:=c) (by
  have e1:decide (i < -(2 ^ 63:Int))=false:=Xs ⋯;have e2:decide (i>=2 ^ 63)=false:=Xs ⋯;rw[e1,e2,Bool.or_false]) (by rw[h1];simpa using h2) #[.str #[(List.toArray [c])],H,I.tok _,#[_,rfl],q]) hs
def rIx(K:Frag):R2:=λx y H Q=>xwn K x y H Q\/xwl K x y H Q\/xwm x y H Q
theorem wjl:IxR X (rIx X.K):=ix_list.or (ix_tup.or xjn)
theorem qz4(af:List Value)(n j) u:Obj.mapSeq (·.setIfInBounds j u) {cls:=.type "list",data:=.seq af.toArray n}={cls:=.type "list",data:=.seq (af.set j u).toArray n}:=by
 simp[Obj.mapSeq]
theorem Inv.lst{a8}{σ:St}{H s p xs}(I:Inv X a8 σ H s)(h:H p=some (.lst xs)):
  ∃(af:List Value) (n:Nat),Vals xs af/\s.heap.get? p=some {cls:=.type "list",data:=.seq af.toArray n}/\xs.length<=sizeLine:=by
 obtain⟨z,af,n,r,e⟩:=I.hok p _ h;exact#[af,n,r,e,z]
theorem Inv.lstUpd{a8}{σ:St}{H s p xs ys}{af its':List Value}{n n' f}(I:Inv X a8 σ H s)(h:H p=some (.lst xs))
  (ho:s.heap.get? p=some {cls:=.type "list",data:=.seq af.toArray n}) (hf:f {cls:=.type "list",data:=.seq af.toArray n}={cls:=.type "list",data:=.seq its'.toArray n' }) (r:Vals ys its') (hz:ys.length<=sizeLine) t :
  Inv X a8 σ (upd H p (.lst ys)) {s with heap:=s.heap.update p f,toks:=t}:=by
 have e:(s.heap.update p f).get? p=some {cls:=.type "list",data:=.seq its'.toArray n' }:=by
  rw[Y3 f ho (by rw[hf]<;>rfl),hf]
 refine I.write (by rw[h];trivial) (.inl rfl) (λb u hb q=>(Z7 _ _ (Ne.symm hb)).trans q) #[_,e] ?_;exact#[hz,its',n',r,e]
def xqx:V->V->V->Hp->(Hp->Prop)->Prop:=λo i v H Q=>∃p xs k j,o=.ref p/\i=.int k/\H p=some (.lst xs)/\ixN xs.length k=some j/\Q (upd H p (.lst (xs.set j v)))
theorem vwn:xxa X xqx:=by
 rintro a8 s σ H o i v ov iv u Q I ro ri rv ⟨p,xs,k,j,rfl,rfl,hp,hj,q⟩;cases ro;obtain⟨t,rfl⟩:=ri;obtain⟨af,n,r,ho,hz⟩:=I.lst hp;obtain⟨h1,h2,h3,h4⟩:=qqu hj;have hl:=r.length;have hn:=WK;have I':Inv X a8 σ _ {s with heap:=s.heap.update p _}:=
  I.lstUpd hp ho (qz4 af n j u) (r.set rv j) (by rw[List.length_set];exact hz) s.toks
 by_cases h0:0<=k
 ·have hk:k.toNat=j:=by
   rw[seqIndex_of h0 h4]at h1;exact oq9 h1
  exact PySem.W.ki_setAt ho h0 ⋯ (by rw[Xa,<-hl];exact h4) (hk▸#[_,I',q])
 ·have hk:(k+(af.toArray.size:Int)).toNat=j:=by
   rw[seqIndex_neg ⋯ h3]at h1;rw[Xa,<-hl];exact oq9 h1
  exact PySem.W.ki_setBack ho ⋯ (by rw[Xa,<-hl];exact h3) ⋯ (hk▸#[_,I',q])
theorem kzz(lo hi) n:(sliceBounds lo hi none n).1=((HT.sIx n 0 lo:Nat):Int)/\(sliceBounds lo hi none n).2.1=((HT.sIx n n hi:Nat):Int)/\(sliceBounds lo hi none n).2.2=1:=by
 refine#[?_,?_,rfl]
 ·cases lo with
  |none=>simp[sliceBounds,HT.sIx]
  |some i=>
   simp only[sliceBounds,HT.sIx,Option.getD_none,show(1:Int)>0 by decide,if_true]
   by_cases h:i<0
   ·simp only[h,if_true]<;>lia
   ·simp only[h,if_false]<;>lia
 ·cases hi with
  |none=>simp[sliceBounds,HT.sIx]
  |some i=>
   simp only[sliceBounds,HT.sIx,Option.getD_none,show(1:Int)>0 by decide,if_true]
   by_cases h:i<0
   ·simp only[h,if_true]<;>lia
   ·simp only[h,if_false]<;>lia
theorem kx8(af:List Value)(lo hi):slicePick af.toArray lo hi none=((af.drop (HT.sIx af.length 0 lo)).take (HT.sIx af.length af.length hi - HT.sIx af.length 0 lo)).toArray:=by
 obtain⟨h1,h2,h3⟩:=kzz lo hi af.toArray.size;unfold slicePick;rw[h1,h2,h3];simp only[sliceRange_one,pick_run]<;>rfl
def xwj(K:Frag):V->Option Int->Option Int->Hp->VK->Prop:=λx lo hi H Q=>∃a xs,x=.ref a/\SqL K H a xs/\∀p,H p=none->Q (.ref p) (upd H p (.lst (wwp xs lo hi)))
theorem sl_list:SlR X (xwj X.K):=by
 rintro a8 s σ H x v vl vu lo hi sl Q I rx hs pl pu ⟨a,xs,rfl,hx,q⟩;cases rx;obtain⟨af,r,ht,hz⟩:=I.list hx;have ak:=r.length;refine#["list",_,slot_list_getitem.lookup,ht.isList.typeIs,(wpAny_getItem_list_slice ht.isList hs pl pu .none (by simp) ?_ (by simp_all))];rw[kx8,<-ak];refine#[.ref s.heap.objs.size,_,I.laid (t':=s.toks) (λb ob q=>X5 _ q) (X9 _) ?_,rfl,q _ (I.hok.fresh (X9 _))];exact#[Yd (kv7 xs lo hi) hz,_,0,(r.drop _).take _,X7 _ rfl]
theorem qjg:OpR X (compareOp .NotIn) (λx y H Q=>∃i j,x=.str i/\y=.str j/\Q (.bl (!(!(Builtin.Str.occurrences j i 0 j.length 1).isEmpty))) H):=by
 rintro a8 s σ H x y v u Q I rx ry ⟨i,j,rfl,rfl,q⟩;obtain⟨t,rfl⟩:=rx;obtain⟨t',rfl⟩:=ry;exact notIn_str #[.bl _,H,I,rfl,q]
theorem call_len_seq:CallR X (.builtin "len") (λxs H Q=>∃p ys,xs=[.ref p]/\(SqL X.K H p ys\/SqT X.K H p ys)/\Q (.int ys.length) H):=by
 rintro a8 s σ H xs us Q I r ⟨p,ys,rfl,hq,q⟩;obtain⟨u,rfl,rx⟩:=zJ r;cases rx;have hn:=WK;rcases hq with hq|hq
 ·obtain⟨af,r',pl,hz⟩:=I.list hq;have ak:=r'.length;exact Calls.call_len_list pl.isList (by simp only[Xa]<;>lia) #[.int ys.length,H,I.tok _,#[s.toks+1,by rw[Xa,ak]],q]
 ·obtain⟨af,r',pl,hz⟩:=I.tuple hq;have ak:=r'.length;exact len_tuple pl (by simp only[Xa]<;>lia) #[.int ys.length,H,I.tok _,#[s.toks+1,by rw[Xa,ak]],q]
theorem call_len_str:CallR X (.builtin "len") (λxs H Q=>∃z,xs=[.str z]/\z.length<=sizeLine/\Q (.int z.length) H):=by
 rintro a8 s σ H xs us Q I r ⟨z,rfl,hz,q⟩;obtain⟨u,rfl,t,rfl⟩:=zJ r;have hn:=WK;exact len_str ⋯ #[.int z.length,H,I.tok _,#[_,rfl],q]
theorem CallR.or{f r r'}(h:CallR X f r)(h':CallR X f r'):CallR X f (λxs H Q=>r xs H Q\/r' xs H Q):=by
 intro a8 s σ H xs us Q I rs q;rcases q with q|q
 ·exact h a8 s σ H xs us Q I rs q
 ·exact h' a8 s σ H xs us Q I rs q
theorem qki:CallR X (.type "list") (λxs H Q=>∃p ys,xs=[.ref p]/\(SqL X.K H p ys\/SqT X.K H p ys)/\∀l,H l=none->Q (.ref l) (upd H l (.lst ys))):=by
 rintro a8 s σ H xs us Q I r ⟨p,ys,rfl,hq,q⟩;obtain⟨u,rfl,rx⟩:=zJ r;cases rx;have fin:∀af,Vals ys af->ys.length<=sizeLine->∀h' (c'),_ ->
   h'.get? s.heap.objs.size=some {cls:=.type "list",dict:=none,data:=.seq af.toArray c',slots:=(List.toArray [])}->EP X a8 σ Q _ {s with heap:=h' }:=λaf r' hz h' c' kp e=>
  #[.ref s.heap.objs.size,_,I.laid (t':=s.toks) kp (X9 _) (show ObjOk X.prog X.w _ h' _ (.lst ys)from#[hz,af,c',r',e]),rfl,q _ (I.hok.fresh (X9 _))]
 rcases hq with hq|hq
 ·obtain⟨af,r',pl,hz⟩:=I.list hq;have ak:=r'.length;obtain⟨o,ho,hc,n,hd⟩:=pl.isList;exact call_list_seq p (.inl rfl) ho hc hd (λh' c' kp e=>fin af r' hz h' c' kp e) (by simp only[Xa]<;>lia)
 ·obtain⟨af,r',pl,hz⟩:=I.tuple hq;have ak:=r'.length;obtain⟨o,ho,hc,n,hd⟩:=pl;exact call_list_seq p (.inr rfl) ho hc hd (λh' c' kp e=>fin af r' hz h' c' kp e) (by simp only[Xa]<;>lia)
theorem kzg:CallR X (.type "tuple") (λxs H Q=>∃p ys,xs=[.ref p]/\((SqL X.K H p ys/\∀l,H l=none->Q (.ref l) (upd H l (.tup ys)))\/(SqT X.K H p ys/\Q (.ref p) H))):=by
 rintro a8 s σ H xs us Q I r ⟨p,ys,rfl,h⟩;obtain⟨u,rfl,rx⟩:=zJ r;cases rx;rcases h with⟨hq,q⟩|⟨hq,q⟩
 ·obtain⟨af,r',pl,hz⟩:=I.list hq;have ak:=r'.length;refine call_tuple_list pl.isList (λh' kp=>?_) (by simp_all);have I1:Inv X a8 σ H {s with heap:=h' }:=I.kept (t':=s.toks) kp;have I2:Inv X a8 σ _ {s with heap:=h'.push {cls:=.type "tuple",data:=.seq af.toArray}}:=
   I1.laid (t':=s.toks) (λb o e=>X5 _ e) (X9 _) (show ObjOk X.prog X.w _ _ _ (.tup ys)from#[hz,af,r',IsTupD.new _ _])
  exact#[.ref h'.objs.size,_,I2,rfl,q _ (I1.hok.fresh (X9 _))]
 ·obtain⟨af,r',pl,hz⟩:=I.tuple hq;exact call_tuple_same pl #[.ref p,H,I,rfl,q]
noncomputable def tyV(K : Frag)(T : String)(x : V)(H : Hp): Prop:= match x with
  |.str _=>T = "str"|.int _=>T = "int"
  |.ref p=>(T = "list" /\ ∃xs,SqL K H p xs) \/ (T = "tuple" /\ ∃o,K.lookup p = some o /\ o.cls = .type "tuple" /\ o.dict = none) \/
      (T = "dict" /\ ((∃kvs,H p = some (.dK kvs)) \/ ∃kvs,H p = some (.dT kvs))) \/ (T = "set" /\ ∃S n,H p = some (.set S n))
  |_=>False
theorem www{a8}{σ:St}{H s T x v}(I:Inv X a8 σ H s)(r:RelV x v)(ty:tyV X.K T x H):
  s.TypeIs v T/\∀a,v=.ref a->∃ob,s.heap.get? a=some ob/\ob.dict=none:=by
 cases x with
 | str z=>
  obtain⟨t,rfl⟩:=r;cases(ty);exact#[typeIs_str s z t,λ_ e=>nomatch e]
 | int i=>
  obtain⟨t,rfl⟩:=r;cases(ty);exact#[typeIs_int s i t,λ_ e=>nomatch e]
 | ref p=>
  cases r;rcases ty with⟨rfl,xs,hq⟩|⟨rfl,o,hk,hc,hd⟩|⟨rfl,hk⟩|⟨rfl,S,n,hk⟩
  ·obtain⟨af,_,pl,_⟩:=I.list hq;refine#[pl.isList.typeIs,λa e=>?_];cases e;obtain⟨o,n,e,c,hd,_⟩:=pl;exact#[o,e,hd]
  ·refine#[#[o,I.kIn p o hk,hc],λa e=>?_];cases e;exact#[o,I.kIn _ o hk,hd]
  ·have z:∃o,s.heap.get? p=some o/\o.ExactDict:=by
    rcases hk with⟨kvs,hk⟩|⟨kvs,hk⟩
    ·obtain⟨_,_,_,_,o,_,_,e,ex,_⟩:=I.hok p _ hk;exact#[o,e,ex]
    ·obtain⟨_,_,_,_,o,_,_,e,ex,_⟩:=I.hok p _ hk;exact#[o,e,ex]
   obtain⟨o,e,ex⟩:=z;refine#[#[o,e,ex.1],λa e2=>?_];cases e2;exact#[o,e,ex.2.1]
  ·obtain⟨o,_,_,_,e,ex,_⟩:=I.hok p _ hk;refine#[#[o,e,ex.1],λa e2=>?_];cases e2;exact#[o,e,ex.2.1]
 |_=>exact False.elim ty
abbrev tBM(K:Frag)(T:String)(r:V->List V->Hp->VK->Prop)(to:TE)(t:TA):TE:=fun σ H Q=>to σ H λx H1=>tyV K T x H1/\t σ H1 λxs H2=>r x xs H2 Q
variable {o e:Expr}{es:List Expr}{to:TE}{t:TA}{name:Str}{apos ai:Pos}{T id:String}{r:V->List V->Hp->VK->Prop}
theorem wzr(pa:PlainAttrs T)(slot:Slot T name id)(sy:typeOf (.builtin id)=pure (.type "method_descriptor"))(hm:MtR X id r)(ho:PE X o to)(ha:PA X (e::es) t)
  (cu:autoParam (attributeBase o name X.env (eval o X.env)=eval o X.env) Ŕ)
  (gl:autoParam (((backTo ai (starEach (e::es) X.env)).all (λx=>!x.1)&&(backToKw ai (keywordEach [] X.env)).all (λx=>x.1.isSome)
   && decide ((e::es).length+([]:List Keyword).length+(if([]:List Keyword).isEmpty then 0 else 1)<30))=true) Ŕ)
  (cp:autoParam ((apos.endLine==ai.line)=true) Ŕ) (hs:autoParam (starEach (e::es) X.env=(false,eval e X.env)::starEach es X.env) Ŕ) (bi:autoParam ((backTo ai (starEach es X.env)).any (·.1)=false) Ŕ):
  PE X (.Call (.Attribute o name apos) (e::es) [] ai) (tBM X.K T r to t):=by
 intro a8 s σ H Q I h;refine wpAny_Call_method_late cu gl cp rfl (thn (ho a8 s σ H _ I h) λv s1 #[x,H1,I1,r1,ty,q1]=>?_);obtain⟨h1,h2⟩:=www I1 r1 ty;refine#[T,id,pa,slot,sy,h1,h2,?_];have hA:=ha ai a8 s1 σ H1 _ I1 q1;rw[hs]at hA ⊢;exact Calls.callWith_builtin (by show(false||(backTo ai _).any _)=false;rw[bi]<;>rfl) (Calls.evalArgs_plain (thn hA λus s2 #[vs,H2,I2,r2,q2]=>hm a8 s2 σ H2 x vs v us Q I2 r1 r2 q2))
end
noncomputable def MtM(X:Cx)(id:String)(r:V->List V->Hp->VK->Prop):Prop:=
 ∀(a8:LA9) (s:Shared) (σ:St) (H:Hp) (x:V) (xs:List V) (v:Value) (us:List Value) (Q:VK),Inv X a8 σ H s->RelV x v->Vals xs us->r x xs H Q ->
  wpAny (model X.prog X.w) X.A (call (.builtin id) (v::us)) (EP X a8 σ Q) X.xe s
theorem Vals.one:∀{x us},Vals [x] us->∃u,us=[u]/\RelV x u
 |_,_,.cons r .nil=>#[_,rfl,r]
theorem Vals.eraseIdx:∀{xs us} (i),Vals xs us->Vals (xs.eraseIdx i) (us.eraseIdx i)
 |_,_,_,.nil=>.nil|_,_,0,.cons _ t=>t|_,_,i+1,.cons r t=>.cons r (Vals.eraseIdx i t)
theorem Vals.rep{xs us}(h:Vals xs us):∀k,Vals (List.replicate k xs).flatten (List.replicate k us).flatten
 |0=>.nil
 |k+1=>by
  exact Vals.append h (Vals.rep h k)
theorem qjw{α:Type}:∀(l:List α) (i),(l.eraseIdx i).length<=l.length
 |[],_=>X9 _|_::_,0=>Zm _|_::r,i+1=>Nat.succ_le_succ (qjw r i)
theorem kv3(af):∀k (ah:List Value),
  List.foldl (λx1 x2=>x1++x2) ah.toArray (List.replicate k af.toArray)=(ah++(List.replicate k af).flatten).toArray
 | 0,ah=>by simp
 | k+1,ah=>by
  have e:ah.toArray++af.toArray=(ah++af).toArray:=by simp
  have e2:(ah++af)++(List.replicate k af).flatten=ah++(List.replicate (k+1) af).flatten:=by
   rw[List.replicate_succ,List.flatten_cons,Xk]
  rw[<-e2,<-kv3 af k _,<-e,List.replicate_succ,Ze]
section
variable {X:Cx}{a8:LA9}{σ:St}{H:Hp}{s:Shared}{l b:Addr}{xs ys zs:List V}
theorem Inv.lset{af its':List Value}{n f t'}(I:Inv X a8 σ H s)(hH:H l=some (.lst xs))
  (e:s.heap.get? l=some {cls:=.type "list",data:=.seq af.toArray n}) (hf:f af.toArray=its'.toArray) (hv:Vals ys its') (hz:ys.length<=sizeLine):
  Inv X a8 σ (upd H l (.lst ys)) {s with heap:=s.heap.update l (Obj.mapSeq f),toks:=t' }:=by
 have q:=PySem.IsL.update e f;rw[hf]at q;refine I.write (hH▸trivial) (.inl rfl) (λb' u hb hu=>(Z7 s.heap _ (Ne.symm hb)).trans hu) #[_,q] ?_;exact#[hz,its',_,hv,q]
theorem Inv.lnew{af t'}(I:Inv X a8 σ H s)(hv:Vals ys af)(hz:ys.length<=sizeLine):
  Inv X a8 σ (upd H s.heap.objs.size (.lst ys)) {s with heap:=s.heap.push {cls:=.type "list",data:=.seq af.toArray},toks:=t' }:=
 I.laid (λ_ _ q=>X5 _ q) (X9 _) #[hz,af,0,hv,X7 _ rfl]
theorem Inv.fresh(I:Inv X a8 σ H s):H s.heap.objs.size=none:=I.hok.fresh (X9 _)
theorem Inv.lstM(I:Inv X a8 σ H s)(hH:H l=some (.lst xs)):xs.length<=sizeLine/\∃(af:List Value) (n:Nat),Vals xs af/\xs.length=af.length/\s.heap.get? l=some {cls:=.type "list",data:=.seq af.toArray n}:=by
 obtain⟨z,af,n,r,e⟩:=I.hok l _ hH;exact#[z,af,n,r,r.length,e]
theorem vxj{n}(h:n<=sizeLine):Builtin.List.listTooLong n=false:=by
 unfold Builtin.List.listTooLong
 simp_all
end
section
variable {X:Cx}
def qqc:V->List V->Hp->VK->Prop:=λx vs H Q=>∃l xs y,x=.ref l/\vs=[y]/\H l=some (.lst xs)/\xs.length<sizeLine/\Q .non (upd H l (.lst (xs++[y])))
theorem qju:MtM X "list.append" qqc:=by
 rintro a8 s σ H x vs v us Q I rx rv ⟨l,xs,y,rfl,rfl,hH,hz,q⟩;cases rx;obtain⟨u,rfl,ru⟩:=rv.one;obtain⟨z,af,n,r,hl,e⟩:=I.lstM hH;refine call_meets F.slot_list_append #[_,e,rfl] F.entry_list_append (F.args_list_append_2 _ _) (PySem.list_append l af.toArray n u (by simp_all)) #[e,(#[.non,_,I.lset (its':=af++[u]) hH e (by simp) (r.append (.cons ru .nil)) ?_,rfl,q])];rw[Xf,Xx];lia
def vzv:V->List V->Hp->VK->Prop:=λx vs H Q=>∃l xs i k y,x=.ref l/\vs=[.int i]/\H l=some (.lst xs)/\-(2 ^ 63)<=i/\i<2 ^ 63/\seqIndex? i xs.length=some k/\xs[k]?=some y/\Q y (upd H l (.lst (xs.eraseIdx k)))
theorem vxl:MtM X "list.pop" vzv:=by
 rintro a8 s σ H x vs v us Q I rx rv ⟨l,xs,i,k,y,rfl,rfl,hH,h1,h2,hk,hy,q⟩;cases rx;obtain⟨u,rfl,ru⟩:=rv.one;obtain⟨t,rfl⟩:=ru;obtain⟨z,af,n,r,hl,e⟩:=I.lstM hH;obtain⟨w,hw,lp⟩:=r.get hy;refine call_meets F.slot_list_pop #[_,e,rfl] F.entry_list_pop (F.args_list_pop_2 _ _)
  (MeetsSeq.list_pop_at l af.toArray n i t k w (fitsIndex_both h1 h2) (by rw[Xa,<-hl];exact hk) (Ye▸hw) (by rw[Xa];lia)) #[e,?_]
 refine#[y,_,I.lset (its':=af.eraseIdx k) hH e ?_ (r.eraseIdx k) ?_,lp,q]
 ·show af.toArray.eraseIdxIfInBounds k=(af.eraseIdx k).toArray;rw[List.eraseIdxIfInBounds_toArray]
 ·have:=qjw xs k;lia
theorem vq5{α:Type}(xs:List α) k:(List.replicate k xs).flatten.length=k*xs.length:=by
 induction k with|zero=>simp|succ k ih=>simp_all
end
end L2
namespace Att
open PySem PySem.W PySem.Calls PyProof.Rows
theorem kqz{P h}:∀ns vs,WellAll P h vs (ns.map WData.int)->IntsAre vs ns:=by
 intro ns
 induction ns with
 | nil=>
  intro vs w;cases w;exact .nil
 | cons n ns ih=>
  intro vs w;cases w with
  |cons a b=>
   cases a;exact .cons _ _ (ih _ b)
theorem script_of{l:OpenLaw}{n}(hn:l.most=some n){P h args}{fc}
  (nh:l.row.toRowW.claim.pre args=true) (hwl:WellAll P h fc args):
  ∃a vs ns,fc=[Value.ref a]/\args=[WData.list (ns.map WData.int)]/\h.get? a=some {cls:=.type "list",data:=.seq vs.toArray}/\IntsAre vs ns/\ns.length<=n:=by
 have p9:WShape.hasAll [] args [.list .int]=true:=(pre_splitW nh).1;have hc:l.pre.holds [] {args:=args}=true:=(pre_splitW nh).2;obtain⟨d,r,rfl,h1,h2⟩:=hasAllW_cons p9;obtain rfl:=hasAllW_nil h2;obtain⟨xs,rfl,h3⟩:=hasW_list h1;obtain⟨ns,rfl⟩:=items_int h3;have ak:ns.length<=n:=by
  unfold OpenLaw.pre at hc;have h4:(WTm.not (.lt (.lit (.int n)) (.len (.arg 0)))).holds [] {args:=[.list (ns.map .int)]}=true:=by
   have h4:=(holds_andW hc).1;rw[hn]at h4;exact h4
  have h5:=condW_of h4 (w_not (w_lt w_lit (w_len_list (w_arg rfl))))
  grind
 cases hwl with
 |cons w1 w2=>
  cases w2;cases w1 with|list ho pq=>exact#[_,_,ns,rfl,rfl,ho,kqz ns _ pq,ak]
theorem post_true(l:OpenLaw) args:l.row.toRowW.claim.post args (.bool true) args=true:=
 postW_of
  (show WShape.has [] _ .bool=true by first|rfl|decide|simp[WShape.armsAll])
  (w_eq_bool (w_res rfl) w_lit) rfl
end Att
namespace L2
open PySem PySem.Spec PyProof.Rows
def xwa(H:Hp):Prop:=∀b,H b=none\/∃o xs,H b=some (.frz o (.lst xs))
def W7(s:Stmt):Arguments:=match s with
 |.FunctionDef _ a _ _ _ _ _ _ _ _=>a|_=>{posonlyargs:=[],args:=[],vararg:=none,kwonlyargs:=[],kw_defaults:=[],kwarg:=none,defaults:=[]}
def V7(s:Stmt):List Stmt:=match s with
 |.FunctionDef _ _ b _ _ _ _ _ _ _=>b|_=>[]
noncomputable def jW(s:Stmt):Scope:=match s with
 |.FunctionDef _ _ _ _ _ _ sc _ _ _=>sc|_=>{kind:=.function,names:=[],isGenerator:=false,isCoroutine:=false}
structure Fun (K:Frag)(x qual:Str)(st:Stmt)(f:Addr)(fd:FuncData):Prop where
 ex:∃(oc:Value) (od:Option Addr) (kV ja pm:Value) (an:Option Addr) (b6 ct:Value) (oh:Array (Option Value)),
  fd=PySem.W.fnOf x qual (W7 st) (V7 st) (jW st) .none kV ja pm an b6 ct/\K.lookup f=some #[oc,od,.func fd,oh]/\PySem.W.codeIn K b6 qual=true
 kp:PySem.W.keepIn K (.ref f)=true
section
variable {P:Program}{w:World}{K:Frag}{mg:Str->Option Value}{base:Heap}
theorem Fun.binds{x qual st f fd ps}(F:Fun K x qual st f fd)
  (h:∀kV ja pm an (b6 ct) us,us.length=ps.length->bindArgs (PySem.W.fnOf x qual (W7 st) (V7 st) (jW st) .none kV ja pm an b6 ct) #[us,[]]=pure (ps.zip us)):Binds K fd ps []:=by
 obtain⟨oc,od,kV,ja,pm,an,b6,ct,oh,rfl,lk,ju⟩:=F.ex;exact .all (h kV ja pm an b6 ct)
theorem vqx{x qual st f oc od an oh kV ja pm b6 ct}(l:K.lookup f=some #[oc,od,.func (PySem.W.fnOf x qual (W7 st) (V7 st) (jW st) .none kV ja pm an b6 ct),oh])
  (c:PySem.W.codeIn K b6 qual=true) (k:PySem.W.keepIn K (.ref f)=true):Fun K x qual st f (PySem.W.fnOf x qual (W7 st) (V7 st) (jW st) .none kV ja pm an b6 ct):=#[#[oc,od,kV,ja,pm,an,b6,ct,oh,rfl,l,c],k]
end
section
variable {X:Cx}
theorem pv(i:Nat){x:Str}{pos:Pos}(hN:autoParam (X.N[i]?=some x) Ŕ)(hv:autoParam (Vis X.env.scope x) ř)(hd:autoParam ((x==("__debug__":Str))=false) ŕ)
  (ju:autoParam ((x==("__classdict__":Str))=false) ŕ):PE X (.Name x pos) (K0 i):=wzj hN hv hd ju
end
def kX(H H':Hp):Prop:=∀b o,H b=some o->H' b=some o
section
variable {κ:Type}[DecidableEq κ]
noncomputable def JQ(kvs:List (κ×V))(k:κ):Option V:=(kvs.find? λkv=>decide (kv.1=k)).map (·.2)
def xq4(kvs:List (κ×V))(k:κ)(v:V):List (κ×V):=
 if(kvs.any λkv=>decide (kv.1=k))=true then kvs.map (λkv=>if kv.1=k then(kv.1,v)else kv)else kvs++[(k,v)]
theorem qvn{p r}{k:κ}(e:p.1=k):JQ (p::r) k=some p.2:=by simp[JQ,e]
theorem qvo{p r}{k:κ}(e:¬p.1=k):JQ (p::r) k=JQ r k:=by simp[JQ,e]
theorem RelO.isSome_eq{o u}(r:RelO o u):o.isSome=u.isSome:=by
 cases o with
 |none=>cases u with|none=>rfl|some _=>exact(r).elim
 |some _=>cases u with|none=>exact(r).elim|some _=>rfl
theorem KV.val{kvs vs}(r:KV kvs vs)(k:κ):RelO (JQ kvs k) (valueAt vs k):=by
 induction r with
 | nil=>exact True.intro
 | @cons p q ps qs h t ih=>
  obtain⟨h1,h2⟩:=h
  by_cases e:p.1=k
  ·have e':q.1=k:=h1.symm.trans e;have b:valueAt (q::qs) k=some q.2:=by simp[valueAt,e']
   rw[qvn e,b];exact h2
  ·have e':¬q.1=k:=λz=>e (h1.trans z)
   have b:valueAt (q::qs) k=valueAt qs k:=by simp[valueAt,e']
   rw[qvo e,b];exact ih
theorem KV.any{kvs vs}(r:KV kvs vs)(k:κ):(kvs.any λkv=>decide (kv.1=k))=vs.any λkv=>decide (kv.1=k):=by
 induction r with|nil=>rfl|cons h t ih=>simp_all
theorem KV.repl{kvs vs}(r:KV kvs vs)(k:κ){y u}(ry:RelV y u):
  KV (kvs.map λkv=>if kv.1=k then(kv.1,y)else kv) (vs.map λkv=>if kv.1=k then(kv.1,u)else kv):=by
 induction r with
 |nil=>exact .nil
 |@cons p q ps qs h t ih=>
  rw[List.map_cons,List.map_cons];refine .cons ?_ ih;obtain⟨h1,h2⟩:=h
  by_cases e:p.1=k
  ·rw[Xd e,Xd (h1.symm.trans e)];exact#[h1,ry]
  ·rw[Xg e,Xg (λz=>e (h1.trans z))];exact#[h1,h2]
theorem KV.put{kvs vs}(r:KV kvs vs)(k:κ){y u}(ry:RelV y u):KV (xq4 kvs k y) (stored vs k u):=by
 unfold xq4 stored;rw[r.any k]
 by_cases e:(vs.any λkv=>decide (kv.1=k))=true
 ·rw[Xd e,Xd e];exact r.repl k ry
 ·rw[Xg e,Xg e];exact Paired.snoc r #[rfl,ry]
theorem KV.length{kvs}{vs:List (κ×Value)}(r:KV kvs vs):kvs.length=vs.length:=Paired.length r
end
theorem vxr{P w k u}(r:RelV (kV k) u):(J9 P w).is k u=true:=by
 cases k with|inl i=>obtain⟨t,e⟩:=(r);subst e;exact qqp P w i t|inr x=>obtain⟨t,e⟩:=(r);subst e;exact qqo P w x t
theorem qjz{P w}:∀{ks us},Vals (ks.map kV) us->ItemsAre (J9 P w) ks us
 |[],_,r=>by cases r;exact .nil
 |k::ks,_,r=>by
  cases r with|cons h t=>exact .cons (vxr h) (qjz t)
abbrev KT(H:Hp):List (List Key×V)->List (List Key×Addr×Value)->Prop:=Paired λp q=>p.1=q.1/\H q.2.1=some (.tup (p.1.map kV))/\RelV p.2 q.2.2
theorem KT.val{H kvs xs}(r:KT H kvs xs) k:RelO (JQ kvs k) ((atKey xs k).map (·.2)):=by
 induction r with
 | nil=>exact True.intro
 | @cons p q ps qs h t ih=>
  obtain⟨h1,_,h2⟩:=h
  by_cases e:p.1=k
  ·have e':q.1=k:=h1.symm.trans e;have b:atKey (q::qs) k=some q.2:=by simp[atKey,e']
   rw[qvn e,b];exact h2
  ·have e':¬q.1=k:=λz=>e (h1.trans z)
   have b:atKey (q::qs) k=atKey qs k:=by simp[atKey,e']
   rw[qvo e,b];exact ih
section
variable {P:Program}{w:World}{H:Hp}{h:Heap}{a:Addr}
theorem vws{u}(ok:HOk P w H h)(e:Rd H a u):ObjOk P w H h a u:=e.ok ok
theorem vz8{kvs}(ok:HOk P w H h)(e:Rd H a (.dK kvs)):kvs.length<=sizeLine/\(a==sysModules)=false/\∃vs,KV kvs vs/\h.DictOf (J9 P w) a vs:=
 show ObjOk P w H h a _ from vws ok e
theorem vqf{ks}(ok:HOk P w H h)(e:H a=some (.tup (ks.map kV))):(tupleKind (J9 P w)).is h ks a:=by
 obtain⟨_,af,r,o,h1,h2,_,n,h3⟩:=(ok a _ e);exact#[o,af.toArray,n,h1,h2,h3,by simpa using qjz r]
theorem ww2{kvs}(ok:HOk P w H h)(e:Rd H a (.dT kvs)):kvs.length<=sizeLine/\(a==sysModules)=false /\
  ∃ xs,KT H kvs xs/\h.DictOfH (tupleKind (J9 P w)) a xs:=by
 obtain⟨z,y,xs,r,o,es,ep,h1,h2,h3,h4,h5⟩:=(vws ok e);refine#[z,y,xs,r,o,es,ep,h1,h2,h3,h4,λx hx=>?_,h5];have all:∀{l m},KT H l m->∀x∈m,(tupleKind (J9 P w)).is h x.1 x.2.1:=by
  intro l m q
  induction q with
  | nil=>simp_all
  | @cons p q ps qs hq t ih=>
   intro x hx;rcases aD hx with e|hx
   ·subst e;exact vqf ok (by simp_all)
   ·exact ih x hx
 exact all r x hx
end
def DGet(H:Hp)(a:Addr)(y:V)(r:Option V):Prop:=
 (∃kvs k,Rd H a (.dK kvs)/\y=kV k/\r=JQ kvs k)\/∃kvs k b,Rd H a (.dT kvs)/\y=.ref b/\H b=some (.tup (k.map kV))/\r=JQ kvs k
theorem DGet.k{H a kvs k}(e:H a=some (.dK kvs)):DGet H a (kV k) (JQ kvs k):=.inl #[kvs,k,.inl e,rfl,rfl]
section
variable {X:Cx}{a8:LA9}{σ:St}{H:Hp}{s:Shared}{a:Addr}{y v:V}{u r:Value}{o:Option V}{A:Around}{E:VP9}
theorem Inv.big(I:Inv X a8 σ H s):sysModules<s.heap.objs.size:=by
 exact Nat.lt_trans ⋯ ((I.mod.glob.keeps I.bk).lt)
theorem vva{Q}(hu:A.units+1<cLine)(I:Inv X a8 σ H s)(g:DGet H a y (some v))(ry:RelV y u)(h:∀w' s',Inv X a8 σ H s'->RelV v w'->Q w' s'):
  wpAny (model X.prog X.w) A (getItem (.ref a) u) Q E s:=by
 rcases g with⟨kvs,k,e,ey,l⟩|⟨kvs,k,b,e,ey,eb,l⟩
 ·subst ey;obtain⟨z,hd,vs,jp,dd⟩:=vz8 I.hok e;obtain⟨w',hw,lp⟩:=RelO.some_of (l▸jp.val k);exact wpAny_getItem_of (vxr ry) dd.mapOf hw (h w' _ (I.tok _) lp)
 ·subst ey;cases(ry);obtain⟨z,hd,xs,jp,dd⟩:=ww2 I.hok e;obtain⟨w',hw,lp⟩:=RelO.some_of (l▸jp.val k);obtain⟨p,hp,hp2⟩:=Option.map_eq_some_iff.mp hw;refine wpAny_getItem_heap (tupleKind_room_in1 hu) (vqf I.hok eb) dd hp ?_;rw[hp2];exact h w' _ (I.tok _) lp
theorem d_in{Q}(hu:A.units+1<cLine)(I:Inv X a8 σ H s)(g:DGet H a y o)(ry:RelV y u)(h:∀s',Inv X a8 σ H s'->Q (.bool o.isSome) s'):
  wpAny (model X.prog X.w) A (compareOp .In u (.ref a)) Q E s:=by
 rcases g with⟨kvs,k,e,ey,l⟩|⟨kvs,k,b,e,ey,eb,l⟩
 ·subst ey;obtain⟨z,hd,vs,jp,dd⟩:=vz8 I.hok e;refine wpAny_in_of (vxr ry) hd dd.mapOf ?_;rw[<-(jp.val k).isSome_eq,<-l];exact h _ (I.tok _)
 ·subst ey;cases(show u=Value.ref b from ry);obtain⟨z,hd,xs,jp,dd⟩:=ww2 I.hok e;refine wpAny_in_heap (tupleKind_room_in1 hu) (vqf I.hok eb) hd dd ?_;have q:=(jp.val k).isSome_eq;rw[Option.isSome_map]at q;rw[<-q,<-l];exact h _ (I.tok _)
theorem vv9{h' t' ob}(I:Inv X a8 σ H s)(mu:Mut (H a))(hs:Heap.SameBut a s.heap h')(he:∃q,h'.get? a=some q)(new:ObjOk X.prog X.w (upd H a ob) h' a ob):
  Inv X a8 σ (upd H a ob) {s with heap:=h',toks:=t' }:=
 I.write mu (.inl rfl) (λb q hb z=>(hs.2 b hb).trans z) he new
theorem xke{P w H' h' kvs vs}(z:kvs.length<=sizeLine)(hd:(a==sysModules)=false)(jp:KV kvs vs)(dd:h'.DictOf (J9 P w) a vs):
  ObjOk P w H' h' a (.dK kvs):=#[z,hd,vs,jp,dd]
end
section
variable {X:Cx}{a8:LA9}{σ:St}{H:Hp}{s:Shared}{a:Addr}{kvs:List (Key×V)}{k:Key}{u:Value}{A:Around}{E:VP9}
theorem xw4{Q}(I:Inv X a8 σ H s)(e:Rd H a (.dK kvs))(h:∀t s',Inv X a8 σ H s'->Q (.int kvs.length t) s'):wpAny (model X.prog X.w) A (call (.builtin "len") [.ref a]) Q E s:=by
 obtain⟨z,hd,vs,jp,dd⟩:=vz8 I.hok e;refine call_len_dict hd dd (by rw[<-jp.length];rw[sizeLine_eq]at z;lia) ?_;rw[<-jp.length];exact h _ _ (I.tok _)
end
def xwb(i:Expr):Prop:=∀ov iv,subscripted i false ov iv=operate [ov,iv] (getItem ov iv)
theorem wkh{prog w A E s env dg slice pos T id}{Q}
  (hl:typeLookup (.type T) "__getitem__"=pure (some (.builtin id))) (hs:xwb slice)
  (h:wpAny (model prog w) A (eval dg env) (λo s₁=>wpAny (model prog w) A (eval slice env) (λi s₂=>s₂.TypeIs o T/\wpAny (model prog w) A (getItem o i) Q E s₂) E s₁) E s):
  wpAny (model prog w) A (eval (.Subscript dg slice pos) env) Q E s:=by
 refine Subscript_ (Zn h (λo s₁ h₁=>Zn h₁ (λi s₂ h₂=>?_) λ_ _ x=>x) λ_ _ x=>x);obtain⟨hT,h₂⟩:=h₂;refine X0 ?_;rw[getitemInPython_of_ne hT.not_modules];refine X0 (Zf hT hl ?_);have fin:wpAny (model prog w) A (subscripted slice false o i) (λr s₃=>wpAny (model prog w) A (letTemporaryGo dg o r >>= λ_=>pure r) Q E s₃) E s₂:=by
  rw[hs o i];exact wpAny_operating (Zn h₂ (λr s₃ h₃=>X0 (wpAny_letTemporaryGo (X4 h₃))) λ_ _ x=>x)
 first
  |exact X4 (X0 fin)
theorem qv6{X a8}{σ:St}{H s a y o}(I:Inv X a8 σ H s)(g:DGet H a y o):s.TypeIs (.ref a) "dict":=by
 rcases g with⟨kvs,k,e,_,_⟩|⟨kvs,k,b,e,_,_,_⟩
 ·obtain⟨_,_,vs,_,dd⟩:=vz8 I.hok e;exact dd.typeIs
 ·obtain⟨_,_,xs,_,dd⟩:=ww2 I.hok e;exact dd.typeIs
abbrev xqn(td ty:TE):TE:=fun σ H Q=>td σ H λx H1=>ty σ H1 λy H2=>∃a v,x=.ref a/\DGet H2 a y (some v)/\Q v H2
section
variable {X:Cx}{o i e dg:Expr}{pos ce iw:Pos}{td ty tv:TE}
theorem wqt(hu:X.A.units+1<cLine)(ho:PE X o td)(hi:PE X i ty)(hs:xwb i):PE X (.Subscript o i pos) (xqn td ty):=by
 intro a8 s σ H Q I h;refine wkh PySem.F.slot_dict_getitem.lookup hs (thn (ho a8 s σ H _ I h) λu s1 #[x,H1,I1,rx,q1]=>thn (hi a8 s1 σ H1 _ I1 q1) λiv s2 #[y,H2,I2,ry,a,v,ex,g,q2]=>?_);subst ex;obtain rfl:u=Value.ref a:=rx;exact#[qv6 I2 g,vva hu I2 g ry λw' s3 I3 lp=>#[v,H2,I3,lp,q2]]
end
def vzn:List (TE×TE)->St->Hp->(List (V×V)->Hp->Prop)->Prop
 |[],_,H,Q=>Q [] H|(tk,tv)::r,σ,H,Q=>tk σ H λx H1=>tv σ H1 λy H2=>vzn r σ H2 λps H3=>Q ((x,y)::ps) H3
abbrev VV:List (V×V)->List (Value×Value)->Prop:=Paired λp q=>RelV p.1 q.1/\RelV p.2 q.2
noncomputable def PPs(X:Cx)(pos:Pos)(keys:List (Option Expr))(p7:List Expr)(trs:List (TE×TE)):Prop:=
 ∀(a8:LA9) (s:Shared) (σ:St) (H:Hp) (Q:List (V×V)->Hp->Prop),Inv X a8 σ H s->vzn trs σ H Q ->
  wpAny (model X.prog X.w) X.A (evalPairs (pairTrees keys p7 X.env pos)) (λvs s'=>∃ps H',Inv X a8 σ H' s'/\VV ps vs/\Q ps H') X.xe s
theorem wqi{X:Cx}{pos:Pos}:PPs X pos [] [] []:=λa8 s σ H Q I h=>pairTrees_nil_walk #[[],H,I,.nil,h]
theorem vx4{X:Cx}{pos:Pos}{k v:Expr}{ks:List (Option Expr)}{vs:List Expr}{tk tv:TE}{trs:List (TE×TE)}(hk:PE X k tk)(hv:PE X v tv)(hr:PPs X pos ks vs trs):
  PPs X pos (some k::ks) (v::vs) ((tk,tv)::trs):=λa8 s σ H Q I h=>
 pairTrees_cons_walk (thn (hk a8 s σ H _ I h) λu s1 #[x,H1,I1,rx,q1]=>thn (hv a8 s1 σ H1 _ I1 q1) λw2 s2 #[y,H2,I2,ry,q2]=>
  thn (hr a8 s2 σ H2 _ I2 q2) λws s3 #[ps,H3,I3,jp,q3]=>#[(x,y)::ps,H3,I3,.cons #[rx,ry] jp,q3])
structure M2 (X:Cx)(o:Expr)(m:Str)(apos:Pos)(e f:Expr)(ai:Pos):Prop where
 base:attributeBase o m X.env (eval o X.env)=eval o X.env
 few:((backTo ai (starEach [e,f] X.env)).all (λx=>!x.1)&&(backToKw ai (keywordEach [] X.env)).all (λx=>x.1.isSome)
  && decide (([e,f]:List Expr).length+([]:List Keyword).length+(if([]:List Keyword).isEmpty then 0 else 1)<30))=true
 line:(apos.endLine==ai.line)=true
 trees:backTo ai (starEach [e,f] X.env)=[(false,eval e X.env),(false,eval f X.env)]
section
variable {X:Cx}
theorem vvk:CallR X (.builtin "len") (λxs H Q=>∃a kvs,xs=[V.ref a]/\H a=some (.dK kvs)/\Q (.int kvs.length) H):=by
 rintro a8 s σ H xs us Q I r ⟨a,kvs,rfl,ha,q⟩;obtain⟨u,rfl,ru⟩:=zJ r;cases ru;exact xw4 I (.inl ha) λt s' I'=>#[.int kvs.length,H,I',#[t,rfl],q]
end
end L2
set_option maxHeartbeats 4000000
namespace L3
open PySem PySem.Spec PyProof.Rows L2
abbrev vq8(gm:List Expr)(env:Env):Sem Bool:=
 forIn gm true λc r=>if r=true then do let ok <-isTrue c env (eval c env);pure (ForInStep.yield ok)else pure (ForInStep.yield r)
theorem jxm (env): ∀(l : List (Str × NameKind)) (cs),(∀y ∈ l,y.2 = .free -> ∃c,env.cells.lookup y.1 = some c) ->
    (∀x c,cs.lookup x = some c -> env.cells.lookup x = some c) ->
    ∃ cl,(forIn l cs (λx r=>if(x.2==NameKind.free) = true then do let a <-cellOf env x.1; pure (ForInStep.yield ((x.1,a)::r))else pure (ForInStep.yield r)): Sem (List (Str × Addr))) = pure cl /\
      (∀x c,cl.lookup x = some c -> env.cells.lookup x = some c) /\ (∀x c,cs.lookup x = some c -> ∃c',cl.lookup x = some c') /\ ∀y ∈ l,y.2 = .free -> ∃c,cl.lookup y.1 = some c
  | [],cs,_,hs=>#[cs,rfl,hs,λx c h=>#[c,h],λ_ h=>nomatch h]
  | (n,k)::r,cs,hl,hs=>by
    by_cases hk : k = .free
    · subst hk
      obtain⟨c,hc⟩:= hl _ X6 rfl;have jc : ∀x d,((n,c)::cs).lookup x = some d -> env.cells.lookup x = some d:= λx d h=>by
        rw[List.lookup_cons]at h;cases hx : x==n with| true=>simp_all| false=>rw[hx]at h; exact hs x d h
      obtain⟨cl,e,a,b,d⟩:= jxm env r _ (λy hy=>hl y (lc9 _ hy)) jc;refine#[cl,?_,a,λx c' h=> ?_,λy hy hf=> ?_]
      · rw[List.forIn_cons]
        have q : cellOf env n = pure c:= by unfold cellOf; rw[hc]
        simp only[q];exact e
      · cases hx : x==n with| true=>exact b x c (by rw[List.lookup_cons,hx])| false=>exact b x c' (by rw[List.lookup_cons,hx]; exact h)
      · rcases aD hy with z|z
        · simp_all
        · exact d y z hf
    · obtain⟨cl,e,a,b,d⟩:= jxm env r cs (λy hy=>hl y (lc9 _ hy)) hs
      refine#[cl,?_,a,b,λy hy hf=> ?_]
      · rw[List.forIn_cons]
        have q : (k==NameKind.free) = false:= by simpa using hk
        simp only[q];exact e
      · rcases aD hy with z|z
        · subst z
          exact absurd hf hk
        · exact d y z hf
theorem kwr{scope env}(h:∀y∈scope.names,y.2=.free->∃c,env.cells.lookup y.1=some c):
  ∃cl,closureFor scope env=pure cl/\(∀x c,cl.lookup x=some c->env.cells.lookup x=some c)/\∀y∈scope.names,y.2=.free->∃c,cl.lookup y.1=some c:=by
 obtain⟨cl,e,a,_,d⟩:=jxm env scope.names [] h (λx c h=>nomatch h);refine#[cl,?_,a,d];unfold closureFor
 grind
noncomputable def lcX(X:Cx)(scope:Scope)(N:List Str)(cl:List (Str×Addr))(C:Addr)(s0:Shared)(H0:Hp)(fp:List Addr):Cx:=
 {X with N:=N,s₀:=s0,H₀:=H0,env:=compEnvC scope cl C X.env,outer:=X.stack,ex:=fp,fn:=λ_=>false,pn:=[],xe:=λ_ _=>False}
noncomputable def KW(k:Nat)(R:List Nat)(σ:L2.St):L2.St:=List.replicate k none++R.map λj=>(σ[j]?).join
structure LcOk (X:Cx)(scope:Scope)(N:List Str)(k:Nat)(R:List Nat):Prop where
 kind:scope.kind=.function
 nocell:∀y∈scope.names,y.2≠.cell
 names:∀y∈scope.names,y.2=.local->scope.names.lookup y.1=some .local
 caps:∀y∈scope.names,y.2=.free->X.env.kindOf y.1=some .cell\/X.env.kindOf y.1=some .free
 len:N.length=k+R.length
 outs:∀i j x,R[i]?=some j->N[k+i]?=some x->X.N[j]?=some x/\scope.names.lookup x=some .free
noncomputable def V4(XN:List Str)(sc scope:Scope)(N:List Str)(k:Nat)(R:List Nat):Bool:=
 scope.names.all (λy=>y.2 != .cell)&&scope.names.all (λy=>y.2 != .local||scope.names.lookup y.1==some .local) &&
 scope.names.all (λy=>y.2 != .free||(sc.names.lookup y.1==some .cell||sc.names.lookup y.1==some .free)) &&
 (N.length==k+R.length)&&(R.zip (N.drop k)).all (λp=>XN[p.1]? == some p.2&&scope.names.lookup p.2==some .free)
theorem qwf{X scope N k R}(hk:scope.kind=.function)(h:V4 X.N X.env.scope scope N k R=true):LcOk X scope N k R:=by
 unfold V4 at h;simp only[Bool.and_eq_true,Zl,bne_iff_ne,Bool.or_eq_true,beq_iff_eq]at h;obtain⟨⟨⟨⟨h1,h2⟩,h3⟩,h4⟩,h5⟩:=h;refine#[hk,λy hy=>h1 y hy,λy hy e=>(h2 y hy).resolve_left (λz=>z e),λy hy e=>(h3 y hy).resolve_left (λz=>z e),h4,λi j x e1 e2=>?_];have m:(j,x)∈R.zip (N.drop k):=by
  refine Z1 (i:=i) ?_;rw[List.getElem?_zip_eq_some]
  simp_all
 exact h5 _ m
theorem jkv {env : Env} {x q}: ∀{names : List (Str × NameKind)},(names.map λ(n,k)=>if(k==NameKind.free&&env.scope.kind == .function&&env.kindOf n==some .cell)then(n,NameKind.cell)else(n,k)).lookup x = some q ->
    (x,q) ∈ names \/ (q = .cell /\ (x,NameKind.free) ∈ names)
  | [],h=>nomatch h
  | (n,k)::r,h=>by
    have h : List.lookup x ((if _ = true then _ else _)::_) = some q:= h
    by_cases hc : (k==NameKind.free&&env.scope.kind == .function&&env.kindOf n==some .cell) = true
    · rw[Xd hc,List.lookup_cons]at h
      cases hx : x==n with
      | true=>simp_all
      | false=>
        rw[hx]at h;rcases jkv h with z|⟨z,y⟩
        · exact .inl (lc9 _ z)
        · exact .inr #[z,lc9 _ y]
    · rw[Xg hc,List.lookup_cons]at h
      cases hx : x==n with
      | true=>simp_all
      | false=>
        rw[hx]at h;rcases jkv h with z|⟨z,y⟩
        · exact .inl (lc9 _ z)
        · exact .inr #[z,lc9 _ y]
section
variable {X:Cx}{a8:LA9}{σ:L2.St}{H:Hp}{s:Shared}
theorem xjc{scope N k R cl C}(sc:LcOk X scope N k R)(cq:∀y∈scope.names,y.2=.free->∃c,cl.lookup y.1=some c)
  {x} (h:(compEnvC scope cl C X.env).kindOf x=some .cell\/(compEnvC scope cl C X.env).kindOf x=some .free):∃c,cl.lookup x=some c:=by
 rcases h with h|h
 ·rcases jkv h with z|⟨_,z⟩
  ·exact absurd rfl (sc.nocell _ z)
  ·exact cq _ z rfl
 ·rcases jkv h with z|⟨z,_⟩
  ·exact cq _ z rfl
  ·cases z
theorem xjd{scope N k R cl}{C:Addr}{fp}(I:Inv X a8 σ H s)(sc:LcOk X scope N k R)(hf:∀b∈fp,xY X a8 H b)(ho:∀b∈fp,∃o,s.heap.get? b=some o)
  (hC:s.heap.objs.size<=C) (dl:∀x c,cl.lookup x=some c->X.env.cells.lookup x=some c) (cq:∀y∈scope.names,y.2=.free->∃c,cl.lookup y.1=some c):(lcX X scope N cl C s H fp).Ok where
 mod:=I.ok.mod
 kind:=sc.kind
 glob:=I.ok.glob
 blt:=I.ok.blt
 above:=hC
 inj:=λx y c h1 h2=>I.ok.inj x y c (dl _ _ h1) (dl _ _ h2)
 has:=λx h=>xjc sc cq h
 cab:=λx c h=>by cases h
 hd:=I.ok.hd
 frames:=I.ok.frames
 stk:=.inl rfl
 exf:=λb hb=>by
  obtain⟨o,e⟩:=ho b hb;exact#[Xi (Xl (Xe e) hC),λx c h=>(hf b hb).2.2.2.2.1 x c (dl x c h)]
 bs:=λb o e=>I.bs b o e
 bsz:=Yd I.ok.bsz I.sz
 noex:=λb o e hb=>by
  rcases(hf b hb).2.2.2.1 with z|z
  ·exact I.ok.noex b o e z
  ·exact absurd (Xl (Xe e) (Yd I.ok.bsz z)) (Ys _)
 exfs:=λb hb hs=>by
  rcases aD (I.stkSub b hs)with z|z
  ·exact(hf b hb).2.1 z
  ·exact(hf b hb).2.2.1 z
 funs:=I.stack
 frf:=I.stkFree
theorem wx7(I:Inv X a8 σ H s){a:Addr}(h:s.heap.objs.size<=a):a∉frs X.stack:=λz=>by
 rcases aD (I.stkSub a z)with e|e
 ·subst e;exact absurd (Xl I.lt h) (Ys _)
 ·exact I.nofs h e
theorem wv9 {scope N k R cl} {C D:Addr} {fp h1 t m oD} (I:Inv X a8 σ H s) (sc:LcOk X scope N k R)
  (hf:∀ b∈fp,xY X a8 H b) (ho:∀b∈fp,∃o,s.heap.get? b=some o)
  (hC:s.heap.objs.size<=C) (hD:s.heap.objs.size<=D) (r9:D≠C) (dl:∀x c,cl.lookup x=some c->X.env.cells.lookup x=some c) (cq:∀y∈scope.names,y.2=.free->∃c,cl.lookup y.1=some c)
  (fm:∀ b o,s.heap.get? b=some o->h1.get? b=some o) (hn:h1.Ns C m) (eD:h1.get? D=some oD) (dD:∀v,oD.data≠.cell v):
  Inv (lcX X scope N cl C s H fp) [(D,oD)] (KW k R σ) H {s with heap:=h1,toks:=t} where
 ok:=xjd I sc hf ho hC dl cq
 os:=rfl
 bare:=I.bare
 base:=Un.kept fm
 loc:=#[m,hn,λi x v e1 e2 vis=>by
  obtain⟨mX,hnX,hl⟩:=I.loc;unfold KW at e2
  by_cases hi:i<k
  ·rw [Xn (by simp_all),List.getElem?_replicate,Xd hi]at e2
   grind
  ·have hk:k<=i:=Nat.le_of_not_lt hi;rw [Yb (Zc▸hk),Zc,X8]at e2;cases er:R[i - k]? with
   | none=>simp_all
   | some j=>
    rw [er]at e2;have ej:(σ[j]?).join=some v:=by simpa using e2
    have ej':σ[j]?=some (some v):=by
     cases q:σ[j]? with| none=>rw[q]at ej;cases ej| some z=>simp_all
    obtain⟨o1,o2⟩:=sc.outs _ j x er (by rw[show k+(i - k)=i by lia];exact e1);have cap:=sc.caps (x,.free) (Yw o2) rfl;have visX:Vis X.env.scope x:=cap.elim (λz=>.inr (.inl z)) λz=>.inr (.inr z)
    obtain⟨u,ru,q⟩:=hl j x v o1 ej' visX;refine#[u,ru,?_];rcases q with⟨q,_⟩|⟨_,c,ec,hc⟩
    ·simp_all
    ·obtain⟨c',rn⟩:=cq (x,.free) (Yw o2) rfl;have e:=oq9 ((dl x c' rn).symm.trans ec);subst e;refine .inr #[?_,c',rn,?_]
     ·rcases vis with z|z|z
      ·rcases jkv (env:=X.env) (names:=scope.names) z with y|⟨y,_⟩
       ·have y':=sc.names _ y rfl
        grind
       ·cases y
      ·exact .inl z
      ·exact .inr z
     ·obtain⟨o,h1,h2⟩:=hc;exact#[o,fm _ _ h1,h2]]
 cell:=λx c h=>by
  obtain⟨v,o,h1,h2⟩:=I.cell x c (dl x c h);exact#[v,o,fm _ _ h1,h2]
 free:=I.hok.fresh hC
 freeC:=λx c h=>I.freeC x c (dl x c h)
 pin:=λp hp=>by
  have e:p=(D,oD):=by
   have hp:p∈([]++[(D,oD)]:LA9):=hp
   simpa using hp
  subst e;exact#[eD,I.hok.fresh hD,r9,wx7 I hD,dD]
 hok:=I.hok.kept fm
 len:=by
  show(KW k R σ).length=N.length;unfold KW;rw[sc.len,Xf,Zc,X3]
theorem qk1{a o}(I:Inv X a8 σ H s)(hn:H a=none)(hL:a≠X.env.locals)(h1:a∈X.ex\/X.s₀.heap.objs.size<=a)(h2:∀x c,X.env.cells.lookup x=some c->c≠a)(h3:∀p∈X.pn++a8,p.1≠a)
  (new:ObjOk X.prog X.w (upd H a o) s.heap a o):Inv X a8 σ (upd H a o) s:=by
 have hok:HOk X.prog X.w (upd H a o) s.heap:=λb u e=>by
  by_cases hb:b=a
  ·subst hb;rw[xK]at e;cases e;exact new
  ·rw[qQ hb]at e;exact(I.hok b u e).stay (λ_ _ _ q=>q) (λc q=>by rw[qQ (KQ q hn)];exact q) λc xs q=>by rw[qQ (KQ q hn)];exact q
 have na:∀b,b∉[a]->b≠a:=λb hb z=>hb (z▸aB rfl)
 exact I.step (h':=s.heap) (H':=upd H a o) (g':=s.gens) (t':=s.toks) (d':=s.drawn)
  (λb hb=>by rw[aC hb];exact#[h1,hL,h2,h3]) (λb o _ _ _ e _=>e) (λb o _ _ _ e _=>#[o.slots,e]) (λb o hb _ q=>by rw[qQ (na b hb)];exact q)
  (λb o _ e=>#[o,e]) (λb xs q=>by rw[qQ (KQ q hn)];exact q) (λb o u q=>by rw[qQ (KQ q hn)];exact q) (λb ps q=>#[(List.toArray []),by rw[qQ (KQ q hn),q];simp])
  (λm hm=>hm) hok I.bare
end
def PTs(X:Cx)(gm:List Expr)(t:TT):Prop:=
 ∀(a8:LA9) (s:Shared) (σ:L2.St) (H:Hp) (Q:Bool->Hp->Prop),Inv X a8 σ H s->t σ H Q->wpAny (model X.prog X.w) X.A (vq8 gm X.env) (TP X a8 σ Q) X.xe s
abbrev tYes:TT:=λ_ H Q=>Q true H
theorem wqb{X}:PTs X [] tYes:=λ_ _ _ H _ I h=>wpAny_tests_nil #[H,I,h]
theorem wqa{X c t}(hc:PT X c t):PTs X [c] t:=λa8 s σ H Q I h=>wpAny_tests_one (hc a8 s σ H Q I h)
noncomputable def LcW(g:TG)(tt:TT)(te:TE)(Q:VK)(J:It)(W:Nat->Nat->List V->L2.St->Hp->Prop):Prop:=∀i m ys σ H,W i m ys σ H ->
 (J.stop i H/\ys.length<=sizeLine/\∀p,H p=none->Q (.ref p) (upd H p (.lst ys))) \/
 (J.go i H/\∀x H1,J.yld i H x H1->g x σ H1 fun σ2 H2=>∃(Ny:VK) (Nn:Hp->Prop),(∀y H4,Ny y H4->ys.length<=sizeLine/\∃m',m'<m/\W (i+1) m' (ys++[y]) σ2 H4) /\
  (∀H4,Nn H4->∃m',m'<m/\W (i+1) m' ys σ2 H4)/\tt σ2 H2 λb H3=>if b=true then te σ2 H3 Ny else Nn H3)
abbrev tLC(wi:TI)(g:TG)(tt:TT)(te:TE)(k:Nat)(R:List Nat):TE:=fun σ H Q=>wi σ H λJ H1=>
 ∃W:Nat->Nat->List V->L2.St->Hp->Prop,(∃m,W 0 m [] (KW k R σ) H1)/\LcW g tt te Q J W
abbrev wwl(af:List Value)(n:Nat):Obj:={cls:=.type "list",data:=.seq af.toArray n}
section
variable {X:Cx}
theorem op_mulI:OpR X (binaryOp .Mult) (rI IntMulOk λi j=>.int (i*j)):=opI λ_ _ _ _ _ _ _ hc q=>mul_int q hc
def xkw(_i j:Int):Prop:=0<j/\j.natAbs.log2<9000
theorem J7:OpR X (binaryOp .FloorDiv) (rI xkw λi j=>.int (i / j)):=opI λi j _ _ _ _ _ hc q=>by
 have h1:=hc.1;exact floordiv_int ⋯ (by rw[Int.fdiv_eq_ediv_of_nonneg i ⋯];exact q) (.inl (PyProof.noPylong_of_log2 hc.2))
noncomputable def kinds:List String:=["NoneType","bool","int","str","list","tuple","dict"]
noncomputable def xjs(T U:String):Bool:=T==U||(T == "bool" && U == "int")
theorem qqt{K T U}(hT:T∈kinds)(hU:U∈kinds.tail):kitOne K (.type T) (.type U)=some (xjs T U):=by
 simp only[kinds,List.tail_cons,Yt,Yg,or_false]at hT hU;rcases hT with rfl|rfl|rfl|rfl|rfl|rfl|rfl<;>rcases hU with rfl|rfl|rfl|rfl|rfl|rfl<;>ac_rfl
def xwo(K:Frag):List V->Hp->VK->Prop:=λxs H Q=>∃x T U,xs=[x,.ty U]/\TyOf K H x (.type T)/\T∈kinds/\U∈kinds.tail/\Q (.bl (xjs T U)) H
theorem vze:CallR X (.builtin "isinstance") (xwo X.K):=by
 rintro a8 s σ H xs us Q I r ⟨x,T,U,rfl,ty,hT,hU,q⟩;obtain⟨u,w',rfl,r1,r2⟩:=wkb r;cases(r2);exact vqm I r1 ty (qqt hT hU) λtk=>#[.bl _,H,I.tok _,rfl,q]
theorem wk0:∀{bs:List Bool} {af} {i:Nat} {v},Vals (bs.map V.bl) af->af[i]?=some v->∃b,bs[i]?=some b/\v=.bool b
 |[],_,_,_,.nil,e=>by simp_all
 |b::bs,_,0,v,.cons r _,e=>by
  simp at e;subst e;exact#[b,rfl,r]
 |b::bs,_,i+1,v,.cons _ t,e=>by
  obtain⟨b',e1,e2⟩:=wk0 t (by simpa using e);exact#[b',by simpa using e1,e2]
theorem qj8(bs:List Bool):((List.range bs.length).all λi=>(bs[i]?).getD true)=bs.all id:=by
 rw[Bool.eq_iff_iff,Zl,Zl];constructor
 ·intro h b hb;obtain⟨i,hi,e⟩:=Z4 hb;have:=h i (List.mem_range.mpr hi);rw[X1 hi,e]at this;exact this
 ·intro h i hi;have ly:=List.mem_range.mp hi;rw[X1 ly];exact h _ (Xu ly)
def xv1(K:Frag):List V->Hp->VK->Prop:=λxs H Q=>∃(p:Addr) (bs:List Bool),xs=[.ref p]/\SqL K H p (bs.map V.bl)/\Q (.bl (bs.all id)) H
theorem vzf(hc:X.calm=true):CallR X (.builtin "all") (xv1 X.K):=by
 rintro a8 s σ H xs us Q I r ⟨p,bs,rfl,hq,q⟩;obtain⟨u,rfl,ru⟩:=zJ r;cases ru;obtain⟨af,rv,pl,hz⟩:=I.list hq;have hl:=pl.isList;have c8:p<s.heap.objs.size:=by obtain⟨_,e,_⟩:=hl;exact Xe e
 have ak:bs.length=af.length:=by rw[<-rv.length,X3]
 refine call_all_walk (wpAny_pyIter_list hl ?_);refine#[s.heap.objs.size,[s.heap.objs.size,p],[s.heap.objs.size],af.toArray.size,_,_,λi=>(bs[i]?).getD true,rfl,Walks.list (A:=X.A.in1) (I.ok.hd hc) _ p (Xi c8) af.toArray,
  #[#[_,X7 _ rfl,rfl,rfl],hl.push _],λi v s' Q' E' hP hQ=>?_,λh' tk hk=>?_]
 ·obtain⟨b,e,rfl⟩:=wk0 rv (by simpa using hP);simp only[e]at hQ;exact Yu hQ
 ·have e:((List.range af.toArray.size).all λi=>(bs[i]?).getD true)=bs.all id:=by
   rw[Xa,<-ak];exact qj8 bs
  rw[e];refine#[.bl _,H,I.kept (t':=tk) (h':=h') λb o e=>hk b o (λz=>?_) (X5 _ e),rfl,q];exact absurd (Xe e) (aC z▸Ys _)
def Its(x:Str):It:=#[λi _=>i<x.cps.size,λi H v H'=>H'=H/\∃c,x.cps[i]?=some c/\v=.str #[(List.toArray [c])],λi _=>i=x.cps.size]
theorem qvr{P w K tg x t it}{ty}
  (W:∀A',A'.handled=none->Walks P w A' it [it] [it] x.cps.size (SignAt x) (λi h=>h.IsStrIter it ty x t i))
  (u4:∀A (i) (s) (Q) (E),s.heap.IsStrIter it ty x t i->Q (.ref it) s->wpAny (model P w) A (pyIter (.ref it)) Q E s)
  (sy:["enumerate","zip","dict_itemiterator","dict_reverseitemiterator","odict_iterator","itertools.zip_longest","itertools.pairwise"].contains ty=false):
  Turn P w K tg (Its x) [it] it (λi h=>h.IsStrIter it ty x t i) where
 mem:=by simp
 obj:=λi h st b hb=>by
  have e:b=it:=by simpa using hb
  obtain⟨o,e,c,d⟩:=st
  simp_all
 keep:=λi h h' st k=>by
  obtain⟨o,e,r⟩:=st;exact#[o,k it (by simp) o e,r]
 item:=by
  intro X hP hw hK hc i a8 s σ H E I hf st hg;subst hP hw hK;obtain⟨f0,f1,f2,f3,f4,f5⟩:=hf it (by simp);refine(W X.A (I.ok.hd hc)).item i s _ _ hg st λv h' tk hv i9 kk=>?_
  obtain⟨c,u,ip,rfl⟩:=hv;have I1:Inv X a8 σ H {s with heap:=h',toks:=tk}:=I.turned (λb o hb e=>kk b o (by simpa using hb) e) f0 f1 f3 f4 f5;obtain⟨o,e,c1,d⟩:=id i9;exact#[_,rfl,vxy e c1 d sy #[.str #[(List.toArray [c])],H,I1,#[u,rfl],#[rfl,c,ip,rfl],i9,λb hb=>(hf b hb).1]]
 done:=by
  intro X hP hw hK hc i a8 s σ H E I hf st hg;subst hP hw hK;obtain⟨f0,f1,f2,f3,f4,f5⟩:=hf it (by simp);subst hg;exact(W X.A (I.ok.hd hc)).done s _ _ st λh' tk kk=>#[rfl,I.turned (λb o hb e=>kk b o (by simpa using hb) e) f0 f1 f3 f4 f5]
 self:=λA i s Q E st hQ=>u4 A i s Q E st hQ
def xwi:V->Option Int->Option Int->Hp->VK->Prop:=λx lo hi H Q=>∃z,x=.str z/\z.length<=sizeLine/\Q (.str (Txt.slice z lo hi)) H
theorem wxa:SlR X xwi:=by
 rintro a8 s σ H x v vl vu lo hi sl Q I rx hs pl pu ⟨z,rfl,hz,q⟩;obtain⟨t,rfl⟩:=rx;refine#["str",_,F.slot_str_getitem.lookup,typeIs_str _ _ _,?_];have fin:∀t' k,EP X a8 σ Q _ {s with toks:=k}:=λt' k=>#[.str _,H,I.tok k,#[t',rfl],q]
 have i8:(Txt.slice z lo hi).length<=sizeLine:=Yd (Txt.slice_le z _ _) hz;cases pl with
 |none=>cases pu with|none=>exact wpAny_getItem_str_slice (l:=none) (u:=none) (st:=none) hs rfl (post_val_or_str #[i8,fin])|int j tj=>exact wpAny_getItem_str_slice (l:=none) (u:=some (j,tj)) (st:=none) hs rfl (post_val_or_str #[i8,fin])
 |int i ti=>cases pu with|none=>exact wpAny_getItem_str_slice (l:=some (i,ti)) (u:=none) (st:=none) hs rfl (post_val_or_str #[i8,fin])|int j tj=>exact wpAny_getItem_str_slice (l:=some (i,ti)) (u:=some (j,tj)) (st:=none) hs rfl (post_val_or_str #[i8,fin])
def wxk:R2:=λx y H Q=>∃z n,x=.str z/\y=.int n/\(z.length<=1024/\n<=1024/\-1024<=n)/\Q (.str (Txt.mul z n)) H
theorem wqz:OpR X (binaryOp .Mult) wxk:=by
 rintro a8 s σ H x y v u Q I rx ry ⟨z,n,rfl,rfl,⟨h1,h2,h3⟩,q⟩;obtain⟨t,rfl⟩:=rx;obtain⟨t',rfl⟩:=ry;exact SB.mul (mulOk_of 1024 1024 h1 h2 ⋯ (by simp) (by simp)) λt' k=>#[.str _,H,I.tok k,#[t',rfl],q]
theorem qvu:∀{ys af},Vals (ys.map V.str) af->StrsAre af ys
 |[],_,.nil=>.nil|_::_,_,.cons #[t,e] r=>by subst e;exact .cons _ t (qvu r)
def xqz(K:Frag):V->List V->Hp->VK->Prop:=λx vs H Q=>∃z p ys,x=.str z/\vs=[.ref p]/\SqL K H p (ys.map V.str)/\(ys.map (·.length)).sum+ys.length*z.length<=16777216/\Q (.str (Txt.join z ys)) H
theorem wv4:MtR X "str.join" (xqz X.K):=by
 rintro a8 s σ H x xs v us Q I rx rv ⟨z,p,ys,rfl,rfl,hq,hok,q⟩;obtain⟨t,rfl⟩:=rx;obtain⟨u,rfl,ru⟩:=rv.one;cases ru;obtain⟨af,rs,pl,hz⟩:=I.list hq;exact join_list pl.isList (qvu rs) hok λt' k=>#[.str _,H,I.tok k,#[t',rfl],q]
def vzu(K:Frag):V->Option Int->Option Int->Hp->VK->Prop:=λx lo hi H Q=>xwj K x lo hi H Q\/xwh K x lo hi H Q\/xwi x lo hi H Q
theorem xqt K (hK:autoParam (X.K=K) Ŕ):SlR X (vzu K):=by subst hK;exact sl_list.or (sl_tup.or wxa)
def vjy(K:Frag):List V->Hp->VK->Prop:=λxs H Q=>(∃p ys,xs=[.ref p]/\(SqL K H p ys\/SqT K H p ys)/\Q (.int ys.length) H)\/(∃z,xs=[.str z]/\z.length<=sizeLine/\Q (.int z.length) H)\/(∃a kvs,xs=[V.ref a]/\H a=some (.dK kvs)/\Q (.int kvs.length) H)
theorem ww8 K (hK:autoParam (X.K=K) Ŕ):CallR X (.builtin "len") (vjy K):=by subst hK;exact call_len_seq.or (call_len_str.or vvk)
theorem vvp:CallR X (.type "int") (λxs H Q=>(∃i,xs=[.int i]/\Q (.int i) H)\/∃k,xs=[.bl k]/\Q (.int (if k then 1 else 0)) H):=vvn
theorem W2 K (hK:autoParam (X.K=K) Ŕ)(hc:autoParam (X.calm=true) Ŕ):CallR X (.builtin "all") (xv1 K):=by subst hK;exact vzf hc
theorem vkl(K){o e es T name id r to t}{apos ai}
  (pa:PlainAttrs T) (slot:Slot T name id) (sy:typeOf (.builtin id)=pure (.type "method_descriptor")) (hm:MtR X id r) (ho:PE X o to) (ha:PA X (e::es) t)
  (cu:autoParam (attributeBase o name X.env (eval o X.env)=eval o X.env) Ŕ)
  (gl:autoParam (((backTo ai (starEach (e::es) X.env)).all (λx=>!x.1)&&(backToKw ai (keywordEach [] X.env)).all (λx=>x.1.isSome)
   && decide ((e::es).length+([]:List Keyword).length+(if([]:List Keyword).isEmpty then 0 else 1)<30))=true) Ŕ)
  (cp:autoParam ((apos.endLine==ai.line)=true) Ŕ) (hs:autoParam (starEach (e::es) X.env=(false,eval e X.env)::starEach es X.env) Ŕ) (bi:autoParam ((backTo ai (starEach es X.env)).any (·.1)=false) Ŕ) (hK:autoParam (X.K=K) Ŕ):
  PE X (.Call (.Attribute o name apos) (e::es) [] ai) (tBM K T r to t):=by subst hK;exact wzr pa slot sy hm ho ha cu gl cp hs bi
theorem qwx:bootBuiltins "len"=some (.builtin "len"):=by decide +kernel
theorem kzi:bootBuiltins "isinstance"=some (.builtin "isinstance"):=by decide +kernel
theorem VJ:bootBuiltins "all"=some (.builtin "all"):=by decide +kernel
theorem vvt:bootBuiltins "int"=some (.type "int"):=by decide +kernel
theorem xko:bootBuiltins "str"=some (.type "str"):=by decide +kernel
theorem kzj:bootBuiltins "bool"=some (.type "bool"):=by decide +kernel
theorem Q0:bootBuiltins "list"=some (.type "list"):=by decide +kernel
theorem kzh:bootBuiltins "tuple"=some (.type "tuple"):=by decide +kernel
theorem wwa:bootBuiltins "dict"=some (.type "dict"):=by decide +kernel
end
def Cst(mg:Str->Option Value)(x:Str)(v:V):Prop:=∃u,mg x=some u/\RelV v u
section
variable {X:Cx}{x:Str}{p pos:Pos}{e:Expr}{es:List Expr}{t:TA}{ps:List Str}{sp:Sp}{k:Nat}{v:V}
theorem zw(c:Cst X.mg x v)(hg:autoParam (Gl X x) Ŕ)(hd:autoParam ((x==("__debug__":Str))=false) ŕ):PE X (.Name x pos) (tC v):=by
 obtain⟨u,m,r⟩:=c;exact wqr hg m r hd
end
theorem qwy:∀{ns:List Int} {m},PySem.W.WData.weightAll (ns.map PySem.W.WData.int)<=m->∀n∈ns,Builtin.Int.intBits n<=m
 | [],_,_,_,h=>nomatch h
 | a::r,m,h,n,hn=>by
  have h':(if a==0 then 0 else a.natAbs.log2+1)+1+PySem.W.WData.weightAll _<=m:=h;rcases aD hn with z|z
  ·subst z;have e:Builtin.Int.intBits n=(if n==0 then 0 else n.natAbs.log2+1):=rfl
   grind
  ·exact qwy ⋯ n z
theorem qvc{ns:List Int}(h:PySem.W.WData.layableAll [PySem.W.WData.list (ns.map PySem.W.WData.int)]=true):∀n∈ns,Builtin.Int.intBits n<=1048576:=by
 have h1:=(PySem.W.layW_cons h).1;unfold PySem.W.WData.layable at h1;simp at h1;have h2:PySem.W.WData.weightAll _<=2 ^ 20:=h1.2;exact qwy (by simpa using h2)
section
variable {X:Cx}{a8:LA9}{σ:L2.St}{H:Hp}{s:Shared}
theorem in1_units(A:Around):A.in1.units<=A.units+1:=by
 simp_all
end
section
variable {X:Cx}
def vjx(K:Frag):List V->Hp->VK->Prop:=λxs H Q=>∃p ys,xs=[.ref p]/\(SqL K H p ys\/SqT K H p ys)/\∀l,H l=none->Q (.ref l) (upd H l (.lst ys))
theorem kjj K (hK:autoParam (X.K=K) Ŕ):CallR X (.type "list") (vjx K):=by subst hK;exact qki
end
section
variable {X:Cx}{a8:LA9}{σ:L2.St}{H:Hp}{s:Shared}
theorem kqy{t' h'}(fp:List Addr)(I:Inv X a8 σ H s)(k:∀b o,b∉fp->s.heap.get? b=some o->h'.get? b=some o)(hf:∀b∈fp,xY X a8 H b):Inv X a8 σ H {s with heap:=h',toks:=t' }:=by
 have t9:∀b u,H b=some u->b∉fp:=λb u e z=>by rw[(hf b z).1]at e;cases e
 refine I.step (g':=s.gens) (d':=s.drawn) (λb hb=>?_) (λb o _ _ hc e _=>k b o hc e) (λb o _ _ hc e _=>#[o.slots,k b o hc e]) (λ_ _ _ _ n=>n)
  (λb o hc e=>#[o,k b o hc e]) (λ_ _ e=>e) (λ_ _ _ e=>e) (λb ps e=>#[(List.toArray []),by rw[e];simp]) (λm hm=>?_) (λb u e=>?_) I.bare
 ·obtain⟨_,f1,_,f3,f4,f5⟩:=hf b hb;exact#[f3,f1,f4,f5]
 ·obtain⟨o,es,ep,ho,r⟩:=hm;exact#[o,es,ep,k _ o (λz=>(hf _ z).2.1 rfl) ho,r]
 ·refine(I.hok b u e).stay (λc v hc q=>k c v ?_ q) (λ_ q=>q) λ_ _ q=>q
  rcases hc with z|z
  ·rw[z];exact t9 b u e
  ·exact t9 c _ z
end
section
variable {X:Cx}
def vjz:List V->Hp->VK->Prop:=λxs H Q=>(∃i,xs=[.int i]/\Q (.int i) H)\/(∃k,xs=[.bl k]/\Q (.int (if k then 1 else 0)) H)\/∃(x:Str) (n:Int),xs=[.str x]/\PySem.intText? x=some n/\x.length<=640/\Q (.int n) H
theorem vvm:CallR X (.type "int") vjz:=by
 intro a8 s σ H xs us Q I r h;rcases h with h|h|⟨x,n,rfl,hx,hl,q⟩
 ·exact vvp a8 s σ H xs us Q I r (.inl h)
 ·exact vvp a8 s σ H xs us Q I r (.inr h)
 ·obtain⟨u,rfl,t,rfl⟩:=zJ r;exact PySem.W.KIN.call_text hx hl #[.int n,H,I.tok _,#[_,rfl],q]
end
end L3
namespace L2
open PySem PySem.Spec PyProof.Rows
section
variable {P:Program}{w:World}{H H':Hp}{h h':Heap}{a:Addr}{o:HO}
theorem ObjOk.obj(x:ObjOk P w H h a o):∃u,h.get? a=some u:=by
 cases o with|lst xs=>obtain⟨_,_,_,_,e⟩:=x;exact#[_,e]|tup xs=>obtain⟨_,_,_,p⟩:=x;obtain⟨u,e,_⟩:=p;exact#[u,e]|dK kvs=>obtain⟨_,_,_,_,o,_,_,e,_⟩:=x;exact#[_,e]|dT kvs=>obtain⟨_,_,_,_,o,_,_,e,_⟩:=x;exact#[_,e]|set S n=>obtain⟨o,_,_,_,e,_⟩:=x;exact#[_,e]|ins C dx fs=>obtain⟨_,_,_,e,_⟩:=x;exact#[_,e]|own y=>obtain⟨_,e⟩:=x;exact#[_,e]|xd fs=>obtain⟨_,⟨_,_,_,e,_⟩,_⟩:=x;exact#[_,e]|rng lo hi=>obtain⟨_,_,_,e⟩:=x;exact#[_,e]|frz ob u=>obtain⟨e,_⟩:=x;exact#[_,e]|tbl ps=>exact#[_,x]|met f y=>exact#[_,x]|ext φ=>obtain⟨_,⟨_,e⟩,_⟩:=x;exact#[_,e]
end
section
variable {X:Cx}{a8:LA9}{σ:List (Option V)}{H H':Hp}{s:Shared}{h':Heap}
theorem Inv.stepN{g' t' d'}{ch:List Addr}(I:Inv X a8 σ H s)
  (gy:∀b∈ch,(b∈X.ex\/X.s₀.heap.get? b=none)/\b≠X.env.locals/\(∀x c,X.env.cells.lookup x=some c->c≠b)/\∀p∈X.pn++a8,p.1≠b)
  (keep:∀b o,b≠X.env.locals->b∉X.fs->b∉ch->s.heap.get? b=some o->H b=none->h'.get? b=some o)
  (slot:∀b o,b≠X.env.locals->b∈X.fs->b∉ch->s.heap.get? b=some o->H b=none->∃sl,h'.get? b=some {o with slots:=sl}) (free:∀b o,b∉ch->s.heap.get? b=some o->H b=none->H' b=none)
  (there:∀b o,b∉ch->s.heap.get? b=some o->∃o',h'.get? b=some o')
  (tups:∀b xs,H b=some (.tup xs)->H' b=some (.tup xs)) (frzs:∀b o u,H b=some (.frz o u)->H' b=some (.frz o u)) (tbls:∀b ps,H b=some (.tbl ps)->∃bb,H' b=some (.tbl (ps++bb)))
  (ns:∀m,s.heap.Ns X.env.locals m->h'.Ns X.env.locals m) (hok:HOk X.prog X.w H' h') (hg:AllBare g'):
  Inv X a8 σ H' {s with heap:=h',gens:=g',drawn:=d',toks:=t' }:=by
 have sk:∀b o,X.s₀.heap.get? b=some o->b≠X.env.locals:=λb o e=>Xi (Xl (Xe e) I.ok.above)
 have ni:∀b o,X.s₀.heap.get? b=some o->b∉X.ex->b∉ch:=λb o e hx hb=>by
  rcases(gy b hb).1 with z|z
  ·exact hx z
  ·grind
 have jf:∀x c,X.env.cells.lookup x=some c->∀v,s.heap.IsCell c v->h'.IsCell c v:=λx c e v #[o,ho,hd]=>by
  have mq:=λz=>(gy c z).2.2.1 x c e rfl
  by_cases hc:c∈X.fs
  ·obtain⟨sl,q⟩:=slot c o (I.cne x c e) hc mq ho (I.freeC x c e);exact#[_,q,hd]
  ·exact#[o,keep c o (I.cne x c e) hc mq ho (I.freeC x c e),hd]
 refine#[I.ok,I.os,hg,#[λb o e n hb hx=>?_,λb o e n hb hx=>?_,λb o e n hx=>?_,λb o e hx=>?_,λb xs e=>tups b xs (I.base.tups b xs e),λb o xs e=>frzs b o xs (I.base.frzs b o xs e),λb ps e=>?_],?_,λx c e=>?_,?_,λx c e=>?_,λp hp=>?_,hok,I.len]
 ·exact keep b o (sk b o e) hb (ni b o e hx) (I.base.keep b o e n hb hx) (I.base.free b o e n hx)
 ·obtain⟨sl,e1⟩:=I.base.slot b o e n hb hx;obtain⟨sl',e2⟩:=slot b _ (sk b o e) hb (ni b o e hx) e1 (I.base.free b o e n hx);exact#[sl',e2]
 ·obtain⟨o',e1⟩:=I.base.there b o e hx;exact free b o' (ni b o e hx) e1 (I.base.free b o e n hx)
 ·obtain⟨o',e1⟩:=I.base.there b o e hx;exact there b o' (ni b o e hx) e1
 ·obtain⟨m1,e1⟩:=I.base.tbls b ps e;obtain⟨m2,e2⟩:=tbls b _ e1;exact#[m1++m2,by rw[e2,Array.append_assoc]]
 ·obtain⟨m,hn,hl⟩:=I.loc;refine#[m,ns m hn,λi x v e1 e2 e3=>?_];obtain⟨u,r,l⟩:=hl i x v e1 e2 e3;refine#[u,r,?_];rcases l with l|⟨k,c,e,z⟩
  ·exact .inl l
  ·exact .inr #[k,c,e,jf x c e _ z]
 ·obtain⟨v,z⟩:=I.cell x c e;exact#[v,jf x c e v z]
 ·obtain⟨m,⟨o,_,_,ho,_⟩,_⟩:=I.loc;exact free _ o (λz=>(gy _ z).2.1 rfl) ho I.free
 ·obtain⟨v,o,ho,hd⟩:=I.cell x c e;exact free c o (λz=>(gy c z).2.2.1 x c e rfl) ho (I.freeC x c e)
 ·obtain⟨e,n,ne,nf,d⟩:=I.pin p hp;have mq:=λz=>(gy p.1 z).2.2.2 p hp rfl
  exact#[keep p.1 p.2 ne nf mq e n,free p.1 p.2 mq e n,ne,nf,d]
theorem Inv.callN{g' t' d' ch}(I:Inv X a8 σ H s)(u:Un (frs X.stack) ch H H' s.heap h')(hok:HOk X.prog X.w H' h')(hg:AllBare g')
  (gy:∀b∈ch,(b∈X.ex\/X.s₀.heap.get? b=none)/\b≠X.env.locals/\(∀x c,X.env.cells.lookup x=some c->c≠b)/\∀p∈X.pn++a8,p.1≠b):
  Inv X a8 σ H' {s with heap:=h',gens:=g',drawn:=d',toks:=t' }:=by
 obtain⟨m,⟨o,es,ep,ho,r⟩,_⟩:=id I.loc;obtain⟨sl,hL⟩:=u.any ho I.free λz=>(gy _ z).2.1 rfl
 exact I.stepN gy (λb o hL hb hc e n=>u.keep b o e n (λz=>(aD (I.stkSub b z)).elim hL hb) hc) (λb o _ _ hc e n=>u.any e n hc) (λb o hc e n=>u.free b o e n hc) (λb o hc e=>u.there b o e hc) u.tups u.frzs u.tbls (λm' hm=>by
  obtain⟨o',es',ep',ik,r'⟩:=hm;rw[ho]at ik;cases ik;exact#[_,es',ep',hL,r']) hok hg
end
end L2
namespace L3
open PySem PySem.Spec PyProof.Rows L2
theorem kqt{e env env0}(h:env.frame=env0.frame):noteFrame e env=noteFrame e env0:=by
 unfold noteFrame PySem.frameOf;rw[h]
structure Fl0 (h:Heap)(x:Addr)(C:Value)(vs:Array Value):Prop where
 ob:h.get? x=some {cls:=C,data:=.fields vs}
 sz:1<vs.size
structure FlT (h:Heap)(x T:Addr)(C:Value)(fl:Value):Prop where
 ex:∃vs,h.get? x=some {cls:=C,data:=.fields vs}/\vs[1]?=some (.ref T)
 tb:∃oT ts,h.get? T=some oT/\oT.data=.fields ts/\ts[3]?=some fl
 ne:T≠x
structure Chg (fs ch:List Addr)(h h':Heap):Prop where
 keep:∀b o,h.get? b=some o->b∉fs->b∉ch->h'.get? b=some o
 slot:∀b o,h.get? b=some o->b∉ch->∃sl,h'.get? b=some {cls:=o.cls,dict:=o.dict,data:=o.data,slots:=sl}
 size:h.objs.size<=h'.objs.size
theorem Chg.trans{fs ch ch' h h1 h2}(a:Chg fs ch h h1)(b:Chg fs ch' h1 h2)(hc:∀x∈ch',x∈ch\/h.get? x=none):Chg fs ch h h2 where
 keep:=λx o e h1 h2=>b.keep x o (a.keep x o e h1 h2) h1 λz=>(hc x z).elim h2 λq=>by rw[q]at e;cases e
 slot:=λx o e hn=>by
  obtain⟨sl,e1⟩:=a.slot x o e hn;obtain⟨ng,e2⟩:=b.slot x _ e1 λz=>(hc x z).elim hn λq=>by rw[q]at e;cases e
  exact#[ng,e2]
 size:=Yd a.size b.size
theorem Chg.mono{fs ch ch' h h1}(a:Chg fs ch h h1)(hc:∀x∈ch,x∈ch'):Chg fs ch' h h1:=#[λb o e h1 h2=>a.keep b o e h1 λz=>h2 (hc b z),λb o e h2=>a.slot b o e λz=>h2 (hc b z),a.size]
theorem Chg.of_upd{fs h a f}: Chg fs [a] h (h.update a f):=
  #[λb o e _ hn=>by rw[Z5 _ _ _ _ (λz=>hn (aB z))]; exact e,
   λb o e hn=>#[o.slots,by rw[Z5 _ _ _ _ (λz=>hn (aB z))]; exact e],by rw[Heap.size_update]; exact X9 _]
theorem Chg.of_push{fs h o}:Chg fs [] h (h.push o):=
 #[λb o e _ _=>X5 _ e,λb o e _=>#[o.slots,X5 _ e],by rw[Z8];lia]
theorem Chg.of_slots{fs h h'}(s:Heap.SlotsOnly fs h h'):Chg fs [] h h':=
 #[λb o e hn _=>(s.2.1 b hn).trans e,λb o e _=>s.2.2 b o e,by rw[s.1];exact X9 _]
theorem Chg.refl{fs ch h}:Chg fs ch h h:=#[λ_ _ e _ _=>e,λb o e _=>#[o.slots,e],X9 _]
section
variable {M:Model}{A:Around}{E:VP9}{s:Shared}{base:Heap}{env:Env}{outer:List Env}{L x T:Addr}{C fl:Value}
theorem qkd{head hadNext vs Q}(hA:A.frames=some (env::outer))(hF:s.heap.FunFrames base (env::outer))(hL:env.frame=some L)(ho:Fl0 s.heap x C vs)
  (h:∀h' T',Chg (frs (env::outer)) [x] s.heap h'->s.heap.objs.size<=T'->FlT h' x T' C (rawInt ↑L)->Q () {s with heap:=h' }):
  wpAny M A (do
   let a <-PySem.frameOf env
   let pl <-entryPlaceOf L hadNext
   let b <-EntryCells.newEntry head a Value.none (rawInt ↑L) Value.none pl
   setField (Value.ref x) 1 b) Q E s:=by
 refine X0 (wpAny_frameOf_fun hA hF hL λh1 s1=>?_);have hx:x∉frs _:=λz=>by
  obtain⟨_,o,e,hn⟩:=hF.mem z;rw[ho.ob]at e;cases e;exact hn _ rfl
 have o1:h1.get? x=some {cls:=C,data:=.fields vs}:=(s1.2.1 x hx).trans ho.ob;have fin:∀pl,IsPlace pl->wpAny M A (do
   let b <-EntryCells.newEntry head _ Value.none _ Value.none pl
   setField _ 1 b) Q E {s with heap:=h1}:=λpl bq=>by
  refine X0 ?_;unfold EntryCells.newEntry newFields;have har:([head,Value.ref L,Value.none,rawInt ↑L,Value.none]++if pl.isEmpty=true then List.replicate 6 Value.none else pl).toArray[3]?=some (rawInt ↑L):=by simp
  have hsz:([head,Value.ref L,Value.none,rawInt ↑L,Value.none]++if pl.isEmpty=true then List.replicate 6 Value.none else pl).toArray.size<=sizeLine+2:=by
   rcases bq with rfl|⟨_,_,_,_,_,_,_,rfl⟩<;>simp<;>decide
  generalize ([head,Value.ref L,Value.none,rawInt ↑L,Value.none]++if pl.isEmpty=true then List.replicate 6 Value.none else pl).toArray=ar at har hsz;refine Y4 ?_ hsz;have o2:(h1.push {cls:=.type "traceback",data:=.fields ar}).get? x=some {cls:=C,data:=.fields vs}:=X5 _ o1;refine Yl o2 rfl ho.sz ?_;have ck:h1.objs.size≠x:=λe=>absurd (Xe o1) (e▸Ys _)
  have o3:((h1.push {cls:=.type "traceback",data:=.fields ar}).update x (Obj.mapFields λy=>y.setIfInBounds 1 (.ref h1.objs.size))).get? h1.objs.size=some {cls:=.type "traceback",data:=.fields ar}:=by
   rw[Z5 _ _ _ _ ck];exact X7 _ rfl
  refine h _ h1.objs.size (((Chg.of_slots s1).mono (λ_ z=>nomatch z)).trans ((Chg.of_push.mono λ_ z=>nomatch z).trans Chg.of_upd λy hy=>.inl hy) λy hy=>.inl hy) (s1.1▸X9 _) #[#[vs.setIfInBounds 1 _,?_,Array.getElem?_setIfInBounds_self_of_lt ho.sz],#[_,_,o3,rfl,har],ck];exact Y3 _ o2 rfl
 exact X0 (wpAny_entryPlaceOf λpl bq=>fin pl bq)
theorem xvn{vs Q}(hA:A.frames=some (env::outer))(hF:s.heap.FunFrames base (env::outer))(hL:env.frame=some L)(ho:Fl0 s.heap x C vs)(hv:vs[1]?=some .none)
  (h:∀h' T',Chg (frs (env::outer)) [x] s.heap h'->s.heap.objs.size<=T'->FlT h' x T' C (rawInt ↑L)->Q () {s with heap:=h' }):wpAny M A (noteFrame (.ref x) env) Q E s:=by
 unfold noteFrame;rw[hL];exact X0 (Yx ho.ob rfl hv (qkd hA hF hL ho h))
theorem upd3{T oT ts v}{h:Heap}(e:h.get? T=some oT)(ed:oT.data=.fields ts)(h3:3<ts.size):
  ∃o' ts',(h.update T (Obj.mapFields λy=>y.setIfInBounds 3 v)).get? T=some o'/\o'.data=.fields ts'/\ts'[3]?=some v:=by
 obtain⟨c,d,dt,sl⟩:=oT;cases(ed);exact#[_,ts.setIfInBounds 3 v,Y3 _ e rfl,rfl,Array.getElem?_setIfInBounds_self_of_lt h3]
theorem xvm{Q}(hA:A.frames=some (env::outer))(hF:s.heap.FunFrames base (env::outer))(hL:env.frame=some L)(f:FlT s.heap x T C fl)
  (h:∀h' T',Chg (frs (env::outer)) [x,T] s.heap h'->(s.heap.objs.size<=T'\/T'=T)->FlT h' x T' C (rawInt ↑L)->Q () {s with heap:=h' }):wpAny M A (noteFrame (.ref x) env) Q E s:=by
 obtain⟨⟨vs,e1,v1⟩,⟨oT,ts,e2,d2,v2⟩,ck⟩:=f;have h3:3<ts.size:=by
  rw[Array.getElem?_eq_some_iff]at v2;exact v2.1
 have h1:1<vs.size:=by
  rw[Array.getElem?_eq_some_iff]at v1;exact v1.1
 unfold noteFrame;rw[hL];refine X0 (Yx e1 rfl v1 (X0 (Yx e2 d2 v2 ?_)))
 by_cases hf:(fl==rawInt ↑L)=true
 ·rw[Xd hf];have e:=eq_of_beq hf;subst e;exact X4 (h s.heap T Chg.refl (.inr rfl) #[#[vs,e1,v1],#[oT,ts,e2,d2,v2],ck])
 ·rw[Xg hf];refine X0 (Yl e2 d2 h3 ?_);have c1:Chg (frs (env::outer)) [x,T] s.heap (s.heap.update T (Obj.mapFields λy=>y.setIfInBounds 3 Value.none)):=Chg.of_upd.mono λy hy=>by
   rw[aC hy];simp
  have e1':(s.heap.update T (Obj.mapFields λy=>y.setIfInBounds 3 Value.none)).get? x=some {cls:=C,data:=.fields vs}:=by
   rw[Z5 _ _ _ _ ck.symm];exact e1
  have hF':(s.heap.update T (Obj.mapFields λy=>y.setIfInBounds 3 Value.none)).FunFrames base (env::outer):=by
   refine hF.of_keeps λb o e hn=>#[o,?_,rfl]
   rw[Z5 _ _ _ _ λz=>?_]
   ·exact e
   ·grind
  refine qkd hA hF' hL #[e1',h1] λh' T' c2 hs f'=>(h h' T' (c1.trans (c2.mono (ch':=[x,T]) λy hy=>by rw[aC hy];simp) λy hy=>.inl hy) (.inl ?_) f')
  rw[Heap.size_update]at hs;exact hs
theorem xk6{Q fr}(f:FlT s.heap x T C fl)(h:∀h',Chg (frs outer) [x,T] s.heap h'->FlT h' x T C (fr.elim Value.none λf=>rawInt ↑f)->Q () {s with heap:=h' }):wpAny M A (setFlight (.ref x) fr) Q E s:=by
 obtain⟨⟨vs,e1,v1⟩,⟨oT,ts,e2,d2,v2⟩,ck⟩:=f;have h3:3<ts.size:=by
  rw[Array.getElem?_eq_some_iff]at v2;exact v2.1
 refine X0 (Yx e1 rfl v1 (Yl e2 d2 h3 (h _ (Chg.of_upd.mono λy hy=>by rw[aC hy];simp) #[#[vs,?_,v1],upd3 e2 d2 h3,ck])))
 rwa [Z5 _ _ _ _ ck.symm]
end
structure XCls (K:Frag)(C:Addr):Prop where
 ga:findIn K (.ref C) "__getattribute__"=some (some (.builtin "BaseException.__getattribute__"))
 gt:findIn K (.ref C) "__getattr__"=some none
 fo:PySem.W.findObj K C none "__class__"=some (.bind (.builtin "getset_descriptor.__get__") (.builtin "object.__class__"))
 ob:PySem.W.mroIn K C (.type "object")=some true
 bx:PySem.W.mroIn K C (.type "BaseException")=some true
 cl:(PySem.W.clsIn K C).isSome=true
section
variable {P:Program}{w:World}{A:Around}{E:VP9}{s:Shared}{K:Frag}{x C:Addr}{ox:Obj}
theorem Lk{α:Type}{M:Model}{A:Around}{E:VP9}{s:Shared}{t:Sem α}{r:α}{Q:α->Shared->Prop}(l:PySem.W.Looks M s.heap t r)(q:Q r s):wpAny M A t Q E s:=l A Q E s (λ_ _ e=>e) q
end
def FpX(X:Cx)(a8:LA9)(H:Hp)(b:Addr):Prop:=
 H b=none/\b≠X.env.locals/\b∉X.fs/\(b∈X.ex\/X.s₀.heap.get? b=none)/\(∀x c,X.env.cells.lookup x=some c->c≠b)/\∀p∈X.pn++a8,p.1≠b
section
variable {X:Cx}{a8:LA9}{σ:L2.St}{H:Hp}{s:Shared}
theorem vxu{P:Program}{w:World}{H:Hp}{h:Heap}{b:Addr}(k:HOk P w H h)(e:h.get? b=none):H b=none:=by
 cases q:H b with
 |none=>rfl
 |some u=>
  obtain⟨o,z⟩:=(k b u q).obj;rw[e]at z;cases z
theorem fpX{H' b}(I:Inv X a8 σ H s)(hb:s.heap.get? b=none)(hn:H' b=none):FpX X a8 H' b:=by
 refine#[hn,λz=>?_,λz=>?_,?_,λx c e z=>?_,λp hp z=>?_]
 ·obtain⟨m,⟨o,_,_,ho,_⟩,_⟩:=I.loc
  grind
 ·obtain⟨_,o,e,_⟩:=I.ok.funs.mem z
  by_cases hx:b∈X.ex
  ·exact I.ok.exfs b hx z
  ·obtain _:=I.base.there b o e hx
   grind
 ·by_cases hx:b∈X.ex
  ·exact .inl hx
  ·cases e:X.s₀.heap.get? b with
   |none=>exact .inr rfl
   |some o=>
    obtain⟨o',e'⟩:=I.base.there b o e hx
    grind
 ·obtain⟨v,o,ho,_⟩:=I.cell x c e
  grind
 ·have:=(I.pin p hp).1
  grind
theorem FpX.of{b}(h:xY X a8 H b):FpX X a8 H b:=#[h.1,h.2.1,h.2.2.1,h.2.2.2.1.imp id λz=>Heap.get?_none_of_le z,h.2.2.2.2]
theorem qqv{h' ch}(I:Inv X a8 σ H s)(c:Chg (frs X.stack) ch s.heap h')(hf:∀b∈ch,FpX X a8 H b):Inv X a8 σ H {s with heap:=h' }:=by
 refine I.callN (g':=s.gens) (t':=s.toks) (d':=s.drawn) #[λb o e _ h1 h2=>c.keep b o e h1 h2,λb o e _ _ h2=>c.slot b o e h2,λ_ _ _ n _=>n,λb o e h2=>?_,λ_ _ e=>e,λ_ _ _ e=>e,λ_ _ e=>#[(List.toArray []),by rw[e];simp]] (λb u e=>?_) I.bare λb hb=>?_
 ·obtain⟨sl,q⟩:=c.slot b o e h2;exact#[_,q]
 ·have no:∀d v,H d=some v->d∉frs X.stack/\d∉ch:=λd v e=>#[λz=>(by rw[I.stkFree d z]at e;cases e),λz=>(by rw[(hf d z).1]at e;cases e)]
  refine(I.hok b u e).stay (λd v hc q=>?_) (λ_ q=>q) λ_ _ q=>q
  rcases hc with z|z
  ·rw[z]at q ⊢;exact c.keep b v q (no b u e).1 (no b u e).2
  ·exact c.keep d v q (no d _ z).1 (no d _ z).2
 ·obtain⟨_,f1,_,f3,f4,f5⟩:=hf b hb;exact#[f3,f1,f4,f5]
end
structure Fx (X:Cx)(a8:LA9)(H:Hp)(h:Heap)(x:Addr)(C:Value):Prop where
 fp:FpX X a8 H x
 st:(∃vs,Fl0 h x C vs/\vs[1]?=some .none)\/∃T fl,FlT h x T C fl/\FpX X a8 H T
structure Xt (X:Cx)(a8:LA9)(σ:L2.St)(H:Hp)(x T:Addr)(C fl:Value)(s:Shared):Prop where
 inv:Inv X a8 σ H s
 fx:FpX X a8 H x
 fT:FpX X a8 H T
 f:FlT s.heap x T C fl
theorem Xt.to{X a8 σ H x T C fl s}(h:Xt X a8 σ H x T C fl s):Fx X a8 H s.heap x C:=#[h.fx,.inr #[T,fl,h.f,h.fT]]
def Xo(X:Cx)(E:XK)(e:Value)(s:Shared):Prop:=∃a8 σ H x C,e=.ref x/\Inv X a8 σ H s/\Fx X a8 H s.heap x C/\E C none H
def z4(X:Cx)(E:XK):Prop:=∀a8 σ H s x C,Inv X a8 σ H s->Fx X a8 H s.heap x C->E C none H->X.xe (.ref x) s
abbrev Cx.ex'(X:Cx)(E:XK):Cx:=X.wish (Xo X E)
theorem zY{X E}:z4 (Cx.ex' X E) E:=λa8 σ H s x C I f q=>#[a8,σ,H,x,C,rfl,I.unwish,#[f.fp,f.st],q]
def J4(X:Cx):Prop:=∃env0 out,X.stack=env0::out/\X.env.frame=env0.frame
section
variable {X:Cx}{a8:LA9}{σ:L2.St}{H:Hp}{s:Shared}{M:Model}{E':VP9}{x T:Addr}{C fl:Value}
theorem qw5{A Q}(top:J4 X)(hA:A.frames=X.A.frames)(I:Inv X a8 σ H s)(f:Fx X a8 H s.heap x C)(h:∀L T s',X.env.frame=some L->Xt X a8 σ H x T C (rawInt ↑L) s'->Q () s'):
  wpAny M A (noteFrame (.ref x) X.env) Q E' s:=by
 obtain⟨env0,out,e1,e2⟩:=top;have hF:=I.stack;have pr:A.frames=some (env0::out):=by rw[hA,I.ok.frames,e1]
 rw[e1]at hF;obtain⟨_,⟨L,o,hL,_⟩,_⟩:=id hF;rw[kqt e2];have hL':=e2.trans hL;rcases f.st with⟨vs,f0,hv⟩|⟨T,fl,fT,pT⟩
 ·refine xvn pr hF hL f0 hv λh' T' c hs oz=>h L T' _ hL' #[?_,f.fp,fpX I (Heap.get?_none_of_le hs) (I.hok.fresh hs),oz]
  rw[<-e1]at c;exact qqv I c λb hb=>by rw[aC hb];exact f.fp
 ·refine xvm pr hF hL fT λh' T' c hs oz=>?_
  rw[<-e1]at c;refine h L T' _ hL' #[qqv I c λb hb=>?_,f.fp,?_,oz]
  ·simp only[Yt,Yg,or_false]at hb;rcases hb with rfl|rfl
   ·exact f.fp
   ·exact pT
  ·rcases hs with hs|hs
   ·exact fpX I (Heap.get?_none_of_le hs) (I.hok.fresh hs)
   ·rw[hs];exact pT
theorem kjd{A Q fr}(t:Xt X a8 σ H x T C fl s)(h:∀s',Xt X a8 σ H x T C (fr.elim Value.none λf=>rawInt ↑f) s'->Q () s'):wpAny M A (setFlight (.ref x) fr) Q E' s:=by
 refine xk6 t.f λh' c oz=>h _ #[qqv t.inv c λb hb=>?_,t.fx,t.fT,oz]
 simp at hb;rcases hb with rfl|rfl
 ·exact t.fx
 ·exact t.fT
theorem wzt{α A what mi Q}(t:Xt X a8 σ H x T C fl s)(h:∀s' oz,Xt X a8 σ H x T C oz s'->E' (.ref x) s'):wpAny M A (PySem.passOn what (.ref x) mi:Sem α) Q E' s:=by
 obtain⟨vs,e1,v1⟩:=t.f.ex;exact X0 (Yx e1 rfl v1 (X0 (kjd t λs' t'=>(wpAny_throw (h s' _ t')))))
theorem wzv{E}(top:J4 X):PassesOwn M X.A X.env (Xo X E):=by
 rintro e s' ⟨a8,σ,H,x,C,rfl,I,f,q⟩;refine qw5 top rfl I f λL T s1 _ t=>?_
 obtain⟨vs,e1,v1⟩:=t.f.ex;exact X0 (Yx e1 rfl v1 (kjd t λs2 t2=>#[a8,σ,H,x,C,rfl,t2.inv,t2.to,q]))
end
def CXE(P:Program)(w:World):CXT:=λouter H s E e s'=>∃x T C fl H',e=.ref x/\s'.os=s.os/\AllBare s'.gens/\Un (frs outer) [] H H' s.heap s'.heap/\HOk P w H' s'.heap /\
 s.heap.get? x=none/\s.heap.get? T=none/\H' x=none/\H' T=none/\FlT s'.heap x T C fl/\E C none H'
theorem xvh{X E}(g:z4 X E):vw1 (CXE X.prog X.w) X E:=by
 rintro a8 σ H s e s' I ⟨x,T,C,fl,H',rfl,os,bare,un,hok,hx,hT,nx,nT,f,q⟩;refine g a8 σ H' s' x C (I.call' os un hok bare λb hb=>nomatch hb) #[fpX I hx nx,.inr #[T,fl,f,fpX I hT nT]] q
theorem wkd{CX P w K mg base N qual scope f cd A outer s H E}:
  J4 (Qq CX P w K mg base N qual scope f cd A outer s H E):=#[_,_,rfl,rfl]
theorem vq6{P w K mg base N qual scope f cd A outer s H E e}{s'}
  (h:Xo (Qq (CXE P w) P w K mg base N qual scope f cd A outer s H E) E e s'):(Qq (CXE P w) P w K mg base N qual scope f cd A outer s H E).xe e s':=by
 obtain⟨a8,σ,H',x,C,rfl,I,fx,q⟩:=h;show wpAny _ _ _ _ _ s';refine X0 (qw5 wkd rfl I fx λL T s1 _ t=>(kjd t λs2 t2=>?_));have ge:∀b,FpX (Qq (CXE P w) P w K mg base N qual scope f cd A outer s H E) a8 H' b->s.heap.get? b=none:=λb hb=>hb.2.2.2.1.elim (λz=>nomatch z) λz=>z
 exact#[x,T,C,_,H',rfl,t2.inv.os,t2.inv.bare,t2.inv.base,t2.inv.hok,ge x t2.fx,ge T t2.fT,t2.fx.1,t2.fT.1,t2.f,q]
section
variable {P:Program}{w:World}{K:Frag}{mg:Str->Option Value}{base:Heap}
theorem k8{x qual st f fd N ps k sp}(F:Fun K x qual st f fd)(S:FnScope N ps (jW st))(len:∀vs H Q E,sp vs H Q E->vs.length=ps.length)
  (mt:∀b6 (A) (outer) (s) (H) (vs) (Q) (E),Room k (A.deeper (envOfC qual (jW st) s.heap.objs.size f b6))->sp vs H Q E ->
   ∃t,PSs (Cx.ex' (Qq (CXE P w) P w K mg base N qual (jW st) f b6 A outer s H E) E) (V7 st) t/\t {nx:=λ_ H'=>Q .non H',rt:=Q} (L2.start N vs) H):FnOk P w K mg base (CXE P w) (k+1) f fd ps sp:=by
 obtain⟨oc,od,kV,ja,pm,an,b6,ct,oh,rfl,lk,ju⟩:=F.ex;refine xvz lk ju S len λA outer s H vs Q E hr ma=>?_
 obtain⟨t,h,q⟩:=mt b6 A outer s H vs Q E hr ma;exact#[t,λa8 s' σ H' D I hw=>Zn (h a8 s' σ H' D (I.wish _) hw) (λf mv z=>z.unwish) λe mv z=>vq6 z,q]
def k4(P:Program)(w:World)(K:Frag)(mg:Str->Option Value)(base:Heap)(k:Nat)(x:Str)(ps:List Str)(sp:Sp):Prop:=
 ∃(f:Addr) (fd:FuncData),FnOk P w K mg base (CXE P w) k f fd ps sp/\Binds K fd ps []/\PySem.W.keepIn K (.ref f)=true/\mg x=some (.ref f)
end
section
variable {X:Cx}{x:Str}{p pos:Pos}{e:Expr}{es:List Expr}{t:TA}{ps:List Str}{sp:Sp}{k:Nat}{v:V}{E:XK}
theorem vkj(D:k4 X.prog X.w X.K X.mg X.base k x ps sp)(hr:Room k X.A)(g:z4 X E)(ha:PA X (e::es) t)(hg:autoParam (Gl X x) Ŕ)(fq:autoParam ((x==("__debug__":Str))=false) ŕ)
  (he:autoParam (starEach (e::es) X.env=(false,eval e X.env)::starEach es X.env) Ŕ) (bq:autoParam ((backTo pos (starEach es X.env)).any (·.1)=false) Ŕ):
  PE X (.Call (.Name x p) (e::es) [] pos) (wkf sp [] E t):=by
 obtain⟨f,fd,F,b,kp,m⟩:=D;exact wqv F hr hg m kp b .nil (xvh g) ha fq he bq
end
abbrev lcE(X:Cx)(scope:Scope)(N:List Str)(cl:List (Str×Addr))(C:Addr)(s0:Shared)(H0:Hp)(fp:List Addr)(EX:XK):Cx:=Cx.ex' (lcX X scope N cl C s0 H0 fp) EX
section
variable {prog:Program}{w:World}{A:Around}{R:Result->Shared->Prop}{s:Shared}
theorem wvb{gz ib iter gm scope pos it ah env}(Ex)(I:Nat->Shared->Prop)
  (i7:∀n s,I n s->wpAny (model prog w) A (pyNext it) (λr s1=>match r with
   | none=>R (.ok .next) s1
   | some v=>wpAny (model prog w) A (letOwnedTupleGo ib it v) (λ_ s2=>wpAny (model prog w) A (assign ib env v) (λ_ s3=>
     wpAny (model prog w) A (vq8 gm env) (λok s4=>
      if ok=true then
       wpAny (model prog w) A (eval gz env) (λx s5=>wpAny (model prog w) A (call (.builtin "list.append") [ah,x]) (λ_ s6=>∃m,m<n/\I m s6) Ex s5) Ex s4
      else ∃m,m<n/\I m s4) Ex s3) Ex s2) Ex s1) Ex s)
  (hx:∀e s,Ex e s->notedBy (model prog w) A env (λe s'=>R (.error e) s') e s) n (h:I n s):codeAny (model prog w) A (.compLoop (.ListComp gz [#[ib,iter,gm,0]] scope pos) 0 it ah env) R s:=by
 refine codeAny_loop rfl I (λn s hI=>(wpAny_noted ?_)) n h;rw[compTurn_list];refine Zn (X0 (wpAny_standAt (X0 (thn (i7 n s hI) λr s1 h1=>?_)))) (λ_ _ q=>q) (λe s q=>?_)
 rotate_left
 ·exact hx e s q
 cases r with
 |none=>exact X4 h1
 |some v=>
  refine X0 (thn h1 λ_ s2 h2=>(X0 (thn h2 λ_ s3 h3=>(X0 (thn h3 λok s4 h4=>?_)))));cases ok with|false=>exact X4 #[rfl,h4]|true=>exact X0 (X0 (thn h4 λx s5 h5=>X0 (thn h5 λ_ s6 h6=>X4 (X4 #[rfl,h6]))))
end
section
variable {X:Cx}{tg iter gz:Expr}{gm:List Expr}{scope:Scope}{N:List Str}{k:Nat}{R:List Nat}{g:TG}{tt:TT}{te:TE}{pos:Pos}
theorem wji{EX a8 eq}{σ σ':L2.St}{H2 H' s2 s' fp cl}{C x T:Addr}{Cc fl Q ah use}(gx:z4 X EX)
  (I2:Inv X a8 σ H2 s2) (f2:∀b∈fp,xY X a8 H2 b) (hC:s2.heap.objs.size<=C) (t:Xt (lcX X scope N cl C s2 H2 fp) eq σ' H' x T Cc fl s') (q:EX Cc none H'):
  compPost (model X.prog X.w) X.A X.xe use Q ah C (.error (.ref x)) s':=by
 obtain⟨m,hn,_⟩:=t.inv.loc;refine#[m,hn,λh' sb mi _=>?_];have fC:=I2.fpOk hC t.inv.free;have J2:Inv X a8 σ H' {s' with heap:=h',toks:=s'.toks}:=(I2.call' t.inv.os t.inv.base t.inv.hok t.inv.bare λb hb=>#[(f2 b hb).2.2.2.1,(f2 b hb).2.1,(f2 b hb).2.2.2.2.1,(f2 b hb).2.2.2.2.2]).turned (λb o hb e=>(sb.2 b hb).trans e) fC.1 fC.2.1 fC.2.2.2.1 fC.2.2.2.2.1 fC.2.2.2.2.2;have fp':∀b,FpX (lcX X scope N cl C s2 H2 fp) eq H' b->FpX X a8 H' b:=λb hb=>by
  rcases hb.2.2.2.1 with z|z
  ·exact#[hb.1,(FpX.of (f2 b z)).2]
  ·exact fpX I2 z hb.1
 have nx:=t.fx.2.1;have nT:=t.fT.2.1;have f:FlT h' x T Cc fl:=by
  obtain⟨⟨vs,e1,v1⟩,⟨oT,ts,e2,d2,v2⟩,ck⟩:=t.f;exact#[#[vs,(sb.2 x nx).trans e1,v1],#[oT,ts,(sb.2 T nT).trans e2,d2,v2],ck]
 refine wzt #[J2,fp' x t.fx,fp' T t.fT,f] λs3 oz t3=>gx a8 σ H' s3 x Cc t3.inv t3.to q
theorem qjy{EX a8}{σ:L2.St}{H2 s2 it fp tn J Q W cl}{E}
  {RR:Value->Addr->Result->Shared->Prop} (hc:X.calm=true) (top:J4 X) (sc:LcOk X scope N k R)
  (dl:∀x c,cl.lookup x=some c->X.env.cells.lookup x=some c) (cq:∀y∈scope.names,y.2=.free->∃c,cl.lookup y.1=some c)
  (hg:∀C s0 H0 fp,PG (lcE X scope N cl C s0 H0 fp EX) tg g) (ht:∀C s0 H0 fp,PTs (lcE X scope N cl C s0 H0 fp EX) gm tt) (he:∀C s0 H0 fp,PE (lcE X scope N cl C s0 H0 fp EX) gz te)
  (I2:Inv X a8 σ H2 s2) (T:Turn X.prog X.w X.K tg J fp it tn) (bu:tn 0 s2.heap) (f2:∀b∈fp,xY X a8 H2 b) (w0:∃m,W 0 m [] (KW k R σ) H2) (i7:LcW g tt te Q J W)
  (hRR:∀D C oC m ys H' s',Inv X (a8++[(C,oC)]) σ (upd H' D (.lst ys)) s'->s'.heap.get? C=some oC->s'.heap.Ns C m->xY X a8 (upd H' D (.lst ys)) C->Q (.ref D) (upd H' D (.lst ys))->RR (.ref D) C (.ok .next) s')
  (hER:∀D C s' eq σ' H' x T Cc fl,s2.heap.objs.size<=C->Xt (lcX X scope N cl C s2 H2 fp) eq σ' H' x T Cc fl s'->EX Cc none H'->RR (.ref D) C (.error (.ref x)) s'):
  wpAny (model X.prog X.w) X.A (newList []) (λah s3=>wpAny (model X.prog X.w) X.A (newFunctionEnv scope X.env.globals cl [] X.env.qual none .none (some X.env)) (λmi s4=>
   codeAny (model X.prog X.w) X.A (.compStart (.ListComp gz [#[tg,iter,gm,0]] scope pos) 0 (.ref it) ah {mi with scope:=relabel scope X.env}) (RR ah mi.locals) s4) E s3) E s2:=by
 have uf:∀b∈fp,∃o,s2.heap.get? b=some o:=λb hb=>let ⟨o,e,_⟩:=T.obj 0 _ bu b hb;#[o,e]
 refine Y4 (wpAny_newFunctionEnv sc.nocell (by intro y hy;simp at hy) (λh1 qt uc=>?_) sc.kind);dsimp only at qt uc ⊢;generalize eH:s2.heap.push {cls:=.type "list",dict:=none,data:=.seq ([]:List Value).toArray}=Hx at qt uc ⊢;have eC:Hx.objs.size=s2.heap.objs.size+1:=by rw[<-eH,Z8]
 generalize eD:s2.heap.objs.size=D at eC;generalize eC':Hx.objs.size=C at qt uc eC ⊢;have r9:D≠C:=⋯
 have hC:s2.heap.objs.size<=C:=⋯
 have hD:s2.heap.objs.size<=D:=⋯
 have fm:∀b o,s2.heap.get? b=some o->h1.get? b=some o:=λb o e=>by
  exact uc.extBut b o (Xi (Xl (Xe e) hC)) (X5 _ (eH▸X5 _ e))
 have accD:h1.get? D=some (wwl [] 0):=by
  refine uc.extBut _ _ r9 (X5 _ ?_);rw [<-eH,<-eD];exact X7 _ rfl
 have below:∀b∈fp,b≠D/\b≠C:=λb hb=>by
  obtain⟨o,e⟩:=uf b hb;exact#[Xi (Xl (Xe e) hD),Xi (Xl (Xe e) hC)]
 have kf:∀{H' oD},(∀b∈fp,H' b=none)->∀b∈fp,xY (lcE X scope N cl C s2 H2 fp EX) [(D,oD)] H' b:=fun {H' oD} hn b hb=>by
  obtain⟨_,f1,f3,f4,f5,f6⟩:=f2 b hb;refine#[hn b hb,(below b hb).2,λz=>?_,.inl hb,λx c h=>f5 x c (dl x c h),λp hp=>?_]
  ·rcases aD (I2.stkSub b z)with y|y
   ·exact f1 y
   ·exact f3 y
  ·have e:p=(D,oD):=by
    have hp:p∈([]++[(D,oD)]:LA9):=hp
    simpa using hp
   rw [e];exact(below b hb).1.symm
 have loop:∀s3:Shared,s3={s2 with heap:=h1,toks:=s2.toks+([]:List (Str×Value)).length} ->
   codeAny (model X.prog X.w) X.A (.compLoop (.ListComp gz [#[tg,iter,gm,0]] scope pos) 0 (.ref it) (.ref D) (compEnvC scope cl C X.env)) (RR (.ref D) C) s3:=by
  rintro s3 rfl;obtain⟨m0,w0⟩:=w0;have hxx:∀e s,Xo (lcX X scope N cl C s2 H2 fp) EX e s->notedBy (model X.prog X.w) X.A (compEnvC scope cl C X.env) (λe s'=>RR (.ref D) C (.error e) s') e s:=by
   rintro e s ⟨eq,σ',H',x,Cc,rfl,I',f',q'⟩;have top':J4 (lcX X scope N cl C s2 H2 fp):=top;exact qw5 (X:=lcX X scope N cl C s2 H2 fp) top' rfl I' f' λL T s1 _ t=>hER D C s1 eq σ' H' x T Cc _ hC t q'
  refine wvb (Xo (lcX X scope N cl C s2 H2 fp) EX) (λn s'=>∃i ys af nn σ' H',Inv (lcE X scope N cl C s2 H2 fp EX) [(D,wwl af nn)] σ' H' s'/\Vals ys af/\tn i s'.heap/\(∀b∈fp,H' b=none)/\W i n ys σ' H') ?_ hxx m0
   #[0,[],[],0,_,H2,(wv9 I2 sc f2 uf hC hD r9 dl cq fm qt accD (λv z=>by cases z)).wish _,.nil,T.keep _ _ _ bu (λb hb o e=>fm b o e),λb hb=>(f2 b hb).1,w0]
  rintro n s3 ⟨i,ys,af,nn,σ3,H3,I3,rv,dj,nz,w3⟩;rcases i7 i n ys σ3 H3 w3 with⟨stop,hz,qn⟩|⟨go,step⟩
  ·refine thn (T.done (lcE X scope N cl C s2 H2 fp EX) rfl rfl rfl hc i _ s3 σ3 H3 _ I3 (kf nz) dj stop) λr s4 #[hr,I4]=>?_
   subst hr;show RR (.ref D) C (.ok .next) s4;have hD4:=I4.pin (D,wwl af nn) (by show _∈([]++[(D,wwl af nn)]:LA9);simp);have J1:Inv X a8 σ H3 s4:=I2.call' I4.os I4.base I4.hok I4.bare λb hb=>#[(f2 b hb).2.2.2.1,(f2 b hb).2.1,(f2 b hb).2.2.2.2.1,(f2 b hb).2.2.2.2.2]
   have fD:xY X a8 H3 D:=I2.fpOk hD hD4.2.1;have fC:xY X a8 H3 C:=I2.fpOk hC I4.free;have J2:Inv X a8 σ (upd H3 D (.lst ys)) s4:=qk1 J1 hD4.2.1 fD.2.1 fD.2.2.2.1 fD.2.2.2.2.1 fD.2.2.2.2.2 #[hz,af,nn,rv,hD4.1];obtain⟨mC,nC,_⟩:=I4.loc;obtain⟨oC,es,ep,hoC,hdC,si⟩:=id nC;have fC':xY X a8 (upd H3 D (.lst ys)) C:=#[by rw[qQ r9.symm];exact fC.1,fC.2];refine hRR D C oC mC ys H3 s4 (J2.pins_of λp hp=>?_) hoC nC fC' (qn D hD4.2.1);rcases aA hp with z|z
   ·exact J2.pin p (lr9 _ z)
   ·rw[aC z];exact#[hoC,fC'.1,fC'.2.1,fC'.2.2.1,λv y=>by rw[hdC]at y;cases y]
  ·refine thn (T.item (lcE X scope N cl C s2 H2 fp EX) rfl rfl rfl hc i _ s3 σ3 H3 _ I3 (kf nz) dj go) λr s4 #[u,hr,h4]=>?_
   subst hr;refine thn h4 λ_ s5 #[x,H5,I5,r5,y5,nu,fr5]=>?_
   have I5':=I5.pinned (kf fr5) (T.obj _ _ nu);have li:∀{σ'} {H':Hp} {s':Shared} {pl:LA9},Inv (lcE X scope N cl C s2 H2 fp EX) (pl++QZ fp s5.heap) σ' H' s'->tn (i+1) s'.heap/\∀b∈fp,H' b=none:=fun {σ' H' s' pl} I'=>by
    have q:∀b∈fp,∀o,s5.heap.get? b=some o->s'.heap.get? b=some o/\H' b=none:=λb hb o e=>by
     obtain⟨a1,a2,_⟩:=I'.pin (b,o) (lr9 _ (lr9 _ (kk6 hb e)));exact#[a1,a2]
    refine#[T.keep _ _ _ nu λb hb o e=>(q b hb o e).1,λb hb=>?_];obtain⟨o,e,_⟩:=T.obj _ _ nu b hb;exact(q b hb o e).2
   refine thn (hg C s2 H2 fp _ s5 σ3 H5 x u _ I5' r5 (step x H5 y5)) λ_ s6 #[σ6,H6,I6,Ny,Nn,hNy,hNn,q6]=>?_
   refine thn (ht C s2 H2 fp _ s6 σ6 H6 _ I6 q6) λok s7 #[H7,I7,q7]=>?_
   cases ok with
   | false=>
    obtain⟨m',hm,w7⟩:=hNn _ q7;exact#[m',hm,i+1,ys,af,nn,σ6,H7,I7.unpinned,rv,(li I7).1,(li I7).2,w7]
   | true=>
    refine thn (he C s2 H2 fp _ s7 σ6 H7 _ I7 q7) λu8 s8 #[y,H8,I8,r8,q8]=>?_
    obtain⟨hz,m',hm,w8⟩:=hNy _ _ q8;have pD:=I8.pin (D,wwl af nn) (lr9 _ (ll9 _ (aB rfl)));have ak:=rv.length;refine append_at (hsz:=by rw[Xa];lia) pD.1 λh9 sb9 e9=>?_
    have I8a:Inv (lcE X scope N cl C s2 H2 fp EX) ([]++QZ fp s5.heap) σ6 H8 s8:=I8.pins_of λp hp=>I8.pin p (lr9 _ (lr9 _ hp))
    have I9:Inv (lcE X scope N cl C s2 H2 fp EX) ([]++QZ fp s5.heap) σ6 H8 {s8 with heap:=h9,toks:=s8.toks}:=I8a.turned (it:=D) (λb o hb e=>(sb9.2 b hb).trans e) pD.2.1 r9 (.inr hD)
     (λx c h z=>by
      obtain⟨v,q⟩:=I2.cell x c (dl x c h);exact absurd (Xl q.lt (by rw[z];exact hD)) (Ys _))
     (λp hp z=>by
      have hp:p∈([]++([]++QZ fp s5.heap):LA9):=hp;have hp:p∈QZ fp s5.heap:=by simpa using hp
      exact(below p.1 (qjq hp).1).1 z)
    have e9':h9.get? D=some (wwl (af++[u8]) (nn+1)):=by rw[e9];simp[List.push_toArray]
    refine#[m',hm,i+1,ys++[y],af++[u8],nn+1,σ6,H8,I9.pins_of λp hp=>?_,rv.append (.cons r8 .nil),(li I9).1,(li I9).2,w8];rw[aC hp];exact#[e9',pD.2.1,pD.2.2.1,pD.2.2.2.1,λv z=>by cases z]
 exact codeAny_compStart_list (loop _ rfl) (T.self _ 0 _ _ _ (T.keep _ _ _ bu λb hb o e=>fm b o e) (loop _ rfl))
theorem wj5{EX:XK}{wi:TI}(N:List Str)(k:Nat)(R:List Nat)(hi:PI X tg iter wi)
  (hg:∀cl C s0 H0 fp,PG (lcE X scope N cl C s0 H0 fp EX) tg g) (ht:∀cl C s0 H0 fp,PTs (lcE X scope N cl C s0 H0 fp EX) gm tt) (he:∀cl C s0 H0 fp,PE (lcE X scope N cl C s0 H0 fp EX) gz te)
  (gx:z4 X EX) (top:J4 X) (hc:autoParam (X.calm=true) Ŕ) (hk:autoParam (scope.kind=.function) Ŕ) (lr:autoParam (V4 X.N X.env.scope scope N k R=true) Ŕ) (hs:autoParam (∀x,foldedSetIterable iter X.env x=pure x) Ŗ):
  PE X (.ListComp gz [#[tg,iter,gm,0]] scope pos) (tLC wi g tt te k R):=by
 intro a8 s σ H Q I h;have sc:=qwf hk lr;obtain⟨cl,ml,dl,cq⟩:=kwr (scope:=scope) (env:=X.env) λy hy e=>I.ok.has y.1 (sc.caps y hy e)
 rw[eval_ListComp];refine wpAny_comprehension_free (use:=none) rfl hs ml sc.kind sc.names (thn (hi a8 s σ H _ I h) λv s1 h1=>thn h1 λitv s2 h2=>?_);obtain⟨it,fp,tn,J,H2,e,I2,T,bu,f2,W,w0,i7⟩:=h2;subst e;refine qjy (EX:=EX) (RR:=λah C=>compPost (model X.prog X.w) X.A X.xe none (EP X a8 σ Q) ah C) hc top sc dl cq (hg cl) (ht cl) (he cl) I2 T bu f2 w0 i7 ?_ ?_
 rotate_left
 ·intro D C s' eq σ' H' x T Cc fl hC t q;exact wji gx I2 f2 hC t q
 intro D C oC m ys H' s' I' _ nC fC q;exact#[m,nC,λh' sb=>#[.ref D,_,I'.unpinned.turned (it:=C) (t':=s'.toks) (λb o hb e=>(sb.2 b hb).trans e) fC.1 fC.2.1 fC.2.2.2.1 fC.2.2.2.2.1 fC.2.2.2.2.2,rfl,q]]
end
abbrev bmV:List Value:=[.type "ValueError",.type "Exception",.type "BaseException",.type "object"]
structure ECls (K:Frag)(mg:Str->Option Value)(x:Str)(C:Addr):Prop where
 bd:mg x=some (.ref C)
 ec:PySem.W.excIn K C bmV "ValueError.__new__"=true
 xc:XCls K C
theorem wqx{K:Frag}{h:Heap}{C:Addr}{bmB:List Value}{nv:String}(KI:K.In h)(e:PySem.W.excIn K C bmB nv=true):
  ∃ bm N nm q bs hdct sn sub ab col dd k0 k1 k2 k3 k5 mN,h.get? C=some (excClassObj nm q C N bs bm hdct sn sub ab col dd k0 k1 k2 k3 k5 nv)/\h.Ns N mN/\mN "__init__"=none/\OwnTail h bmB bm:=by
 unfold PySem.W.excIn at e
 split at e
 ·rename_i dict cd sl hl
  split at e
  ·rename_i bm C' k0 k1 k2 k3 n k5 hm hs;simp only[Bool.and_eq_true,beq_iff_eq,Bool.not_eq_true']at e;obtain⟨⟨⟨⟨⟨e1,e2⟩,e3⟩,e4⟩,e5⟩,e6⟩:=e;subst e1 e2;have g:=KI _ _ hl;obtain⟨nm,bs,mro,ns,qn,hd,hdel,sn,sub,ab,col⟩:=cd;dsimp only at hm e3 e5 e6;subst hm e3;have jo:sl=(List.toArray [k0,k1,k2,k3,some (Value.builtin n),k5]):=by
    apply Array.toList_inj.mp;rw[hs]
   subst jo;exact#[_,ns,nm,qn,bs,hd,hdel,sn,sub,ab,dict,k0,k1,k2,k3,k5,h.nsMap ns,g,Heap.Ns.of_isNs (PySem.W.isNs_of_in KI e5),PySem.W.nsMap_none_of_in KI e5 e6,PySem.W.tail_of_in KI e4]
  ·cases e
 ·cases e
section
variable {X:Cx}{x:Str}{np ai pos:Pos}{e:Expr}{es:List Expr}{ta:TA}{C:Addr}{E:XK}
abbrev wx1(E:XK)(C:Addr)(ta:TA):TS:=λ_ σ H=>ta σ H λvs H1=>vs.length<=sizeLine/\E (.ref C) none H1
theorem vx3(c:ECls X.K X.mg x C)(g:z4 X E)(ha:PA X (e::es) ta)(hg:autoParam (Gl X x) Ŕ)(hc:autoParam (X.calm=true) Ŕ)(fq:autoParam ((x==("__debug__":Str))=false) ŕ)
  (he:autoParam (starEach (e::es) X.env=(false,eval e X.env)::starEach es X.env) Ŕ) (bq:autoParam (((backTo ai (starEach (e::es) X.env)).any (·.1))=false) Ŕ):
  PS X (.Raise (some (.Call (.Name x np) (e::es) [] ai)) none pos) (wx1 E C ta):=by
 intro a8 s σ H D I h;obtain⟨bm,N,nm,q,bs,hdct,sn,sub,ab,col,dd,k0,k1,k2,k3,k5,mN,o1,o2,o3,o4⟩:=wqx I.ok.mod.kin c.ec;refine wpAny_Raise_call_subT (nm:=nm) (q:=q) (C:=C) (N:=N) (bs:=bs) (bm:=bm) (hdct:=hdct) (sn:=sn) (sub:=sub) (ab:=ab) (col:=col) (dd:=dd) (k0:=k0) (k1:=k1) (k2:=k2) (k3:=k3) (k5:=k5) (bmB:=bmV) F.excBase_ValueError (o4.hasType (X:="BaseException") rfl) (I.ok.hd hc) bq o3 (kqx I hg c.bd #[rfl,?_] fq);obtain⟨y0,r0,mj⟩:∃y r,backTo ai (starEach (e::es) X.env)=(false,y)::r:=by rw[he];exact#[_,_,rfl]
 have ma:=ha ai a8 s σ H _ I h;rw[mj]at ma ⊢;refine Calls.evalArgs_plain (thn ma λus s2 #[vs,H1,I1,r1,q1]=>#[rfl,by rw[<-r1.length];exact q1.1,I1.bk _ _ o1,?_,?_,λh' ea made=>?_])
 ·obtain⟨o,es',ep,ho,r⟩:=o2;exact#[o,es',ep,I1.bk _ _ ho,r]
 ·exact o4.keeps λb o e=>I1.bk b o e
 ·obtain⟨t,m1,m2,m3⟩:=made.there;have J:Inv X a8 σ H1 {s2 with heap:=h',toks:=s2.toks}:=I1.kept made.keeps;exact g a8 σ H1 _ ea (.ref C) J #[fpX I1 made.new (vxu I1.hok made.new),.inl #[_,#[m1,by show(1:Nat)<6;decide],rfl]] q1.2
def XX(X:Cx)(a8:LA9)(σ:L2.St)(E:XK)(e:Value)(s:Shared):Prop:=∃H x C,e=.ref x/\Inv X a8 σ H s/\Fx X a8 H s.heap x C/\E C none H
def PSX(X:Cx)(st:Stmt)(t:XK->TS):Prop:=∀(E:XK) (a8:LA9) (s:Shared) (σ:L2.St) (H:Hp) (D:Ends),Inv X a8 σ H s->t E D σ H->wpAny (model X.prog X.w) X.A (exec st X.env) (SP X a8 D) (XX X a8 σ E) s
def PEX(X:Cx)(ex:Expr)(t:XK->TE):Prop:=∀(E:XK) (a8:LA9) (s:Shared) (σ:L2.St) (H:Hp) (Q:VK),Inv X a8 σ H s->t E σ H Q->wpAny (model X.prog X.w) X.A (eval ex X.env) (EP X a8 σ Q) (XX X a8 σ E) s
theorem vx7{k:Nat}{ps:List Str}{sp:Sp}(D:k4 X.prog X.w X.K X.mg X.base k x ps sp)(hr:Room k X.A)(ha:PA X.nox (e::es) ta)(hg:autoParam (Gl X x) Ŕ)(fq:autoParam ((x==("__debug__":Str))=false) ŕ)
  (he:autoParam (starEach (e::es) X.env=(false,eval e X.env)::starEach es X.env) Ŕ) (bq:autoParam ((backTo pos (starEach es X.env)).any (·.1)=false) Ŕ):
  PEX X (.Call (.Name x np) (e::es) [] pos) (λE=>wkf sp [] E ta):=by
 obtain⟨f,fd,F,hb,kp,m⟩:=D;intro E a8 s σ H Q I h;refine Yo (kqx I hg m ?_ fq);refine PySem.W.callWith_K (h₀:=X.base) I.ok.mod.kin kp (Zn (ha pos a8 s σ H _ (I.wish _) h) (λus s1 #[vs,H1,I1,r,q]=>#[I1.kIn,?_]) λ_ _ z=>z.elim) he bq;have I1:=I1.unwish;have q:sp (vs++[]) H1 Q E:=q;have hl:us.length=ps.length:=by
  rw[<-r.length];have:=F.len _ _ _ _ q
  rwa [Xw]at this
 refine wpAny_call (Zo (F.run X.A X.stack s1 H1 #[us,[]] us vs Q E hr I1.env0 (by have:=hb s1 us I1.kIn (by rw[Xw];exact hl);rwa [Xw]at this) r (by rwa [Xw]at q)) λrr s' hq=>?_);cases rr with
 |error e=>
  obtain⟨x,T,C,fl,H',rfl,os,bare,un,hok,hx,hT,nx,nT,f,q⟩:=hq;exact#[H',x,C,rfl,I1.call' os un hok bare (λb hb=>nomatch hb),#[fpX I1 hx nx,.inr #[T,fl,f,fpX I1 hT nT]],q]
 |ok fl=>
  cases fl with|ret u=>exact I1.after hq|next=>exact False.elim hq|brk=>exact False.elim hq|cont=>exact False.elim hq
end
structure ExAt (K:Frag)(x:Addr)(ox:Obj)(C:Addr):Prop where
 cls:ox.cls=.ref C
 no:PySem.W.notCls ox=true
 di:ox.dict=none
 xc:XCls K C
end L3
namespace Q
open PySem
inductive D where
 |non|bl (b:Bool)|int (i:Int)|str (z:Str)|tup (xs:List D)|lst (xs:List D)|dct (kvs:List (D×D))|obj (c:Str) (fs:List (Str×D))
instance:DecidableEq D:=λa b=>Classical.propDecidable (a=b)
instance:Inhabited D:=#[.non]
mutual
noncomputable def D.pure:D->Bool
 |.tup xs=>D.pures xs|.lst _=>false|.dct _=>false|.obj _ _=>false|_=>true
noncomputable def D.pures:List D->Bool
 |[]=>true|a::x=>D.pure a&&D.pures x
end
theorem D.pures_all:∀xs,D.pures xs=xs.all D.pure
 |[]=>by simp[D.pures]|a::x=>by rw[D.pures,List.all_cons,D.pures_all x]
@[simp] theorem D.pures_map {α:Type} f (xs:List α)(h:∀x∈xs,(f x).pure=true):D.pures (xs.map f)=true:=by
 rw[D.pures_all,Zl];intro d hd;obtain⟨x,hx,rfl⟩:=aE hd;exact h x hx
mutual
noncomputable def peq:D->D->Bool
 |.non,.non=>true|.bl a,.bl b=>a==b|.bl a,.int b=>(if a then 1 else 0)==b|.int a,.bl b=>a==(if b then 1 else 0)|.int a,.int b=>a==b|.str a,.str b=>a==b|.lst as,.lst bs=>peqs as bs|.tup as,.tup bs=>peqs as bs|_,_=>false
noncomputable def peqs:List D->List D->Bool
 |[],[]=>true|a::as,b::bs=>peq a b&&peqs as bs|_,_=>false
end
mutual
noncomputable def D.flat:Nat->D->Bool
 |0,.tup _=>false|0,.lst _=>false|n+1,.tup xs=>D.flats n xs|n+1,.lst xs=>D.flats n xs|_,.dct _=>false|_,.obj _ _=>false|_,_=>true
noncomputable def D.flats:Nat->List D->Bool
 |_,[]=>true|n,a::x=>D.flat n a&&D.flats n x
end
mutual
noncomputable def v4:Nat->D->Bool
 |_,.non=>true|_,.int _=>true|_,.str _=>true|n+1,.tup xs=>keyDs n xs|_,_=>false
noncomputable def keyDs:Nat->List D->Bool
 |_,[]=>true|n,a::x=>v4 n a&&keyDs n x
end
noncomputable def unm : List (D × D) -> Bool
  |(.str _,_)::_=>false|_=>true
inductive Own where
 |no|rt|dp
 deriving DecidableEq
abbrev Sd:=Own×D
abbrev En:=List (Option Sd)
inductive Res (α:Type) where
 |ok (E:En) (a:α)
 |exc (E:En) (c:Str)
abbrev Ev(α:Type):=En->Option (Res α)
abbrev Ex:=Ev Sd
noncomputable def bnd{α β:Type}(m:Option (Res α))(f:En->α->Option (Res β)):Option (Res β):=
 match m with
 |some (.ok E a)=>f E a|some (.exc E c)=>some (.exc E c)|none=>none
@[simp] theorem xx8 {α β:Type}(E:En)(a:α)(f:En->α->Option (Res β)):bnd (some (.ok E a)) f=f E a:=rfl
@[simp] theorem xw5 {α β:Type}(E:En)(c:Str)(f:En->α->Option (Res β)):bnd (some (.exc E c)) f=some (.exc E c):=rfl
@[simp] theorem xqd {α β:Type}(f:En->α->Option (Res β)):bnd none f=none:=rfl
noncomputable def val{α:Type}(E:En)(x:Option α):Option (Res α):=x.map (Res.ok E)
@[simp] theorem xkx {α:Type}(E:En)(x:α):val E (some x)=some (.ok E x):=rfl
@[simp] theorem xky {α:Type}(E:En):val E (none:Option α)=none:=rfl
def cC(d:D):Ex:=λE=>some (.ok E (.dp,d))
noncomputable def cV(i:Nat):Ex:=λE=>match E[i]? with
 |some (some (_,d))=>some (.ok (E.set i (some (.no,d))) (.no,d))|_=>none
noncomputable def cMv(i:Nat):Ex:=λE=>match E[i]? with
 |some (some x)=>some (.ok (E.set i none) x)|_=>none
noncomputable def vV(i:Nat):Ex:=λE=>match E[i]? with
 |some (some x)=>some (.ok E x)|_=>none
def vE(c:Ex):Ex:=λE=>bnd (c E) λE x=>some (.ok E (.no,x.2))
abbrev C9(z:Int):Ex:=vE (cC (.int z))
def cH(v:Ex):Ex:=λE=>bnd (v E) λE x=>if x.1=.no then some (.ok E (.no,x.2))else if x.2.pure then some (.ok E (.dp,x.2))else none
def cF1(f:Sd->Option Sd)(a:Ex):Ex:=λE=>bnd (a E) λE x=>val E (f x)
def cF2(f:Sd->Sd->Option Sd)(a b:Ex):Ex:=λE=>bnd (a E) λE x=>bnd (b E) λE y=>val E (f x y)
noncomputable def pu1(f:D->Option D):Sd->Option Sd:=λx=>(f x.2).map λd=>(.dp,d)
noncomputable def pu2(f:D->D->Option D):Sd->Sd->Option Sd:=λx y=>(f x.2 y.2).map λd=>(.dp,d)
noncomputable def xx4:D->List D
 |.lst xs=>xs|.tup xs=>xs|.dct kvs=>kvs.map (·.2)|_=>[]
def qY(x:Sd):Bool:=x.1 != .dp||D.pures (xx4 x.2)
def sub:Own->Own
 |.dp=>.dp|_=>.no
noncomputable def ixN(n:Nat)(i:Int):Option Nat:=if 0<=i then(if i<n then some i.toNat else none)else if -(n:Int)<=i then some (i+n).toNat else none
noncomputable def ixD:D->D->Option D
 |.lst xs,.int i=>(ixN xs.length i).bind λj=>xs[j]?|.tup xs,.int i=>(ixN xs.length i).bind λj=>xs[j]?|.str z,.int i=>(ixN z.cps.size i).bind λj=>(z.cps.toList[j]?).map λc=>.str #[(List.toArray [c])]|.dct kvs,k=>(kvs.find? λe=>decide (e.1=k)).map (·.2)|_,_=>none
def big:Nat:=16777216
noncomputable def i2(f:Int->Int->Option Int):D->D->Option D
 |.int a,.int b=>(f a b).map .int|_,_=>none
noncomputable def c2(f:Int->Int->Bool):D->D->Option D
 |.int a,.int b=>some (.bl (f a b))|_,_=>none
noncomputable def vjp(a:Int):Bool:=decide (-(2 ^ 64)<a)&&decide (a<2 ^ 64)
noncomputable def kY:Sd->Sd->Option Sd:=λx y=>match x.2,y.2 with
 |.int a,.int b=>some (.dp,.int (a+b))|.str a,.str b=>if a.cps.size+b.cps.size<=big then some (.dp,.str (a++b))else none|.lst a,.lst b=>if a.length+b.length<=big/\qY x/\qY y then some (.rt,.lst (a++b))else none|.tup a,.tup b=>if a.length+b.length<=big/\qY x/\qY y then some (.no,.tup (a++b))else none|_,_=>none
def V9(a b:Int):Bool:=vjp a||vjp b||(decide (a.natAbs.log2<2000000)&&decide (b.natAbs.log2<2000000))
noncomputable def W6:Sd->Sd->Option Sd:=λx y=>match x.2,y.2 with
 |.int a,.int b=>if V9 a b then some (.dp,.int (a*b))else none|.lst a,.int k=>if -(2 ^ 63)<=k/\k<2 ^ 63/\a.length*k.toNat<=big/\qY x then some (.rt,.lst (List.replicate k.toNat a).flatten)else none|.str z,.int n=>if(z.cps.size<=1024/\n<=1024/\-1024<=n)/\(Txt.mul z n).cps.size<=big then some (.dp,.str (Txt.mul z n))else none|_,_=>none
def xq9:D->D->Option D:=i2 λa b=>some (a - b)
def xq:D->D->Option D:=i2 λa b=>if 0<b/\b.natAbs.log2<9000 then some (a / b)else none
def qx:D->D->Option D:=i2 λa b=>if 0<b then some (a % b)else none
def xqa:D->D->Option D:=i2 λa b=>if 0<=b/\b<=1000000/\a.natAbs<2 ^ 64 then some (a ^ b.toNat)else none
def fEq:D->D->Option D:=λa b=>if a.flat 40&&b.flat 40 then some (.bl (peq a b))else none
def fNe:D->D->Option D:=λa b=>if a.flat 40&&b.flat 40 then some (.bl (!peq a b))else none
noncomputable def isNon:D->Bool
 |.non=>true|_=>false
def fLt:D->D->Option D:=c2 λa b=>decide (a<b)
def fLe:D->D->Option D:=c2 λa b=>decide (a<=b)
def fGt:D->D->Option D:=c2 λa b=>decide (b<a)
def fGe:D->D->Option D:=c2 λa b=>decide (b<=a)
noncomputable def VQ:D->Option D
 |.int a=>some (.int (-a))|_=>none
noncomputable def xka(a b:Str):Bool:=!(Builtin.Str.occurrences b a 0 b.length 1).isEmpty
noncomputable def fIn:D->D->Option D:=λx y=>match y with
 |.lst ys=>if x.flat 30&&D.flats 30 ys then some (.bl (ys.any λz=>peq z x))else none|.tup ys=>if x.flat 30&&D.flats 30 ys then some (.bl (ys.any λz=>peq z x))else none
 |.str b=>(match x with
  |.str a=>some (.bl (xka a b))
  |_=>none)
 |.dct kvs=>some (.bl (kvs.any λe=>decide (e.1=x)))|_=>none
def QQ:D->D->Option D:=λx y=>(fIn x y).bind λd=>match d with
 |.bl k=>some (.bl (!k))|_=>none
noncomputable def qw:D->Option D
 |.lst xs=>some (.int xs.length)|.tup xs=>some (.int xs.length)|.str z=>some (.int z.length)|_=>none
noncomputable def kind:D->String
 |.non=>"NoneType"|.bl _=>"bool"|.int _=>"int"|.str _=>"str"|.tup _=>"tuple"|.lst _=>"list"|.dct _=>"dict"|.obj _ _=>""
def isaK(t u:String):Bool:=t==u||(t == "bool" && u == "int")
def vw(u:String):D->Option D:=λd=>match d with
 |.obj _ _=>none|.dct _=>none|_=>some (.bl (isaK (kind d) u))
def fIsNon:D->Option D:=λd=>some (.bl (isNon d))
def fNotNon:D->Option D:=λd=>some (.bl (!isNon d))
abbrev Ts:=Ev Bool
noncomputable def truth:D->Option Bool
 |.bl b=>some b|.non=>some false|.int i=>some (i != 0)|.str z=>some (z.cps.size != 0)|.lst xs=>some (!xs.isEmpty)|.tup xs=>some (!xs.isEmpty)|.dct xs=>some (!xs.isEmpty)|.obj _ _=>none
def tE(c:Ex):Ts:=λE=>bnd (c E) λE x=>val E (truth x.2)
def tAnd(a b:Ts):Ts:=λE=>bnd (a E) λE x=>if x then b E else some (.ok E false)
def tOr(a b:Ts):Ts:=λE=>bnd (a E) λE x=>if x then some (.ok E true)else b E
def tNot(a:Ts):Ts:=λE=>bnd (a E) λE x=>some (.ok E (!x))
def tYes:Ts:=λE=>some (.ok E true)
def cIf(t:Ts)(a b:Ex):Ex:=λE=>bnd (t E) λE x=>if x then a E else b E
def vQ(a b:Ex):Ex:=λE=>bnd (a E) λE x=>match x.2 with
 |.bl true=>b E|.bl false=>some (.ok E (.dp,.bl false))|_=>none
def cOr(a b:Ex):Ex:=λE=>bnd (a E) λE x=>match x.2 with
 |.bl true=>some (.ok E (.dp,.bl true))|.bl false=>b E|_=>none
def Jj:D->D->Option D:=λx y=>match y with
 |.dct _=>none|_=>fIn x y
def Jq:D->D->Option D:=λx y=>match y with
 |.dct _=>none|_=>QQ x y
def f2First(f:D->Option D):Sd->Sd->Option Sd:=λx y=>if isNon y.2 then(f x.2).map λd=>(.dp,d)else none
def jQ:D->D->Option D:=λx y=>match x with
 |.dct _=>none|_=>ixD x y
def jk(a b:Ex):Ex:=λE=>bnd (a E) λE x=>bnd (b E) λE y=>val E ((jQ x.2 y.2).map λd=>(sub x.1,d))
def truthQ:D->Option Bool:=λd=>match d with
 |.dct _=>none|_=>truth d
def tEQ(c:Ex):Ts:=λE=>bnd (c E) λE x=>val E (truthQ x.2)
def vvs(c:Ex):Ex:=λE=>bnd (c E) λE x=>val E ((truthQ x.2).map λk=>(.dp,.bl (!k)))
def vq:List Ex->Ev (List Sd)
 |[],E=>some (.ok E [])|c::cs,E=>bnd (c E) λE x=>bnd (vq cs E) λE xs=>some (.ok E (x::xs))
def zj(x:Sd):Bool:=x.1 == .dp||x.2.pure
def v9(o:Own)(cs:List Ex):Ex:=λE=>bnd (vq cs E) λE xs=>if o=.dp then(if xs.all zj then some (.ok E (.dp,.lst (xs.map (·.2))))else none)else some (.ok E (.rt,.lst (xs.map (·.2))))
def qK(o:Own)(cs:List Ex):Ex:=λE=>bnd (vq cs E) λE xs=>if o=.dp then(if xs.all zj then some (.ok E (.dp,.tup (xs.map (·.2))))else none)else some (.ok E (.no,.tup (xs.map (·.2))))
inductive Fl where
 |nx (E:En)|rt (E:En) (x:Sd)|ct (E:En)|bk (E:En)|xc (E:En) (c:Str)
abbrev Sm:=En->Option Fl
noncomputable def ofE{α:Type}(m:Option (Res α))(f:En->α->Option Fl):Option Fl:=
 match m with
 |some (.ok E a)=>f E a|some (.exc E c)=>some (.xc E c)|none=>none
@[simp] theorem xwy {α:Type}(E:En)(a:α)(f:En->α->Option Fl):ofE (some (.ok E a)) f=f E a:=rfl
@[simp] theorem xvl {α:Type}(E:En)(c:Str)(f:En->α->Option Fl):ofE (some (.exc E c)) f=some (.xc E c):=rfl
@[simp] theorem xq6 {α:Type}(f:En->α->Option Fl):ofE none f=none:=rfl
def j7(a b:Sm):Sm:=λE=>match a E with
 |some (.nx E)=>b E|r=>r
def qj:Sm:=λE=>some (.nx E)
def jw(i:Nat)(c:Ex):Sm:=λE=>ofE (c E) λE x=>some (.nx (E.set i (some x)))
def jx(c:Ex):Sm:=λE=>ofE (c E) λE x=>some (.rt E x)
def sIf(t:Ts)(a b:Sm):Sm:=λE=>ofE (t E) λE x=>if x then a E else b E
inductive Tg where
 |n (i:Nat)|t (ts:List Nat)
noncomputable def setAll:List Nat->List D->En->Option En
 |[],[],E=>some E|i::is,d::ds,E=>setAll is ds (E.set i (some (.no,d)))|_,_,_=>none
def Tg.put:Tg->D->En->Option En
 |.n i,d,E=>some (E.set i (some (.no,d)))|.t is,.tup ds,E=>setAll is ds E|.t is,.lst ds,E=>setAll is ds E|.t _,_,_=>none
def Zq(is:List Nat)(c:Ex):Sm:=λE=>ofE (c E) λE x=>(Tg.put (.t is) x.2 E).map .nx
def Qk(tg:Tg)(b:Sm):List D->En->Option Fl
 | [],E=>some (.nx E)
 | d::ds,E=>match tg.put d E with
  |none=>none
  |some E=>match b E with
   |some (.nx E)=>Qk tg b ds E|some (.ct E)=>Qk tg b ds E|some (.bk E)=>some (.nx E)|r=>r
def vZ(it:Ev (List D))(tg:Tg)(b:Sm):Sm:=λE=>ofE (it E) λE ds=>Qk tg b ds E
noncomputable def sWhile(t:Ts)(b:Sm)(E:En):Option Fl:=
 match t E with
 |some (.ok E true)=>(match b E with
  |some (.nx E)=>sWhile t b E|some (.ct E)=>sWhile t b E|some (.bk E)=>some (.nx E)
  |r=>r)
 |some (.ok E false)=>some (.nx E)|some (.exc E c)=>some (.xc E c)|none=>none
partial_fixpoint
noncomputable def whN(t:Ts)(b:Sm):Nat->En->Option Fl
 | 0,_=>none
 | n+1,E=>match t E with
  |some (.ok E true)=>(match b E with
   |some (.nx E)=>whN t b n E|some (.ct E)=>whN t b n E|some (.bk E)=>some (.nx E)
   |r=>r)
  |some (.ok E false)=>some (.nx E)|some (.exc E c)=>some (.xc E c)|none=>none
theorem wk7{t:Ts}{b:Sm}:∀{E:En} {r:Fl},sWhile t b E=some r->∃n,whN t b n E=some r:=by
 intro E r;refine sWhile.partial_correctness t b (λE r=>∃n,whN t b n E=some r) ?_ E r;intro f ih E r h;cases ht:t E with
 | none=>rw[ht]at h;cases h
 | some q=>
  cases q with
  | exc E1 c=>rw[ht]at h;exact#[1,by simp only[whN,ht];exact h]
  | ok E1 k=>
   rw[ht]at h;cases k with
   | false=>exact#[1,by simp only[whN,ht];exact h]
   | true=>
    dsimp only at h;cases hb:b E1 with
    |none=>rw[hb]at h;cases h
    |some g=>
     rw[hb]at h;cases g with|nx E2=>obtain⟨n,hn⟩:=ih _ _ h;exact#[n+1,by simp only[whN,ht,hb];exact hn]|ct E2=>obtain⟨n,hn⟩:=ih _ _ h;exact#[n+1,by simp only[whN,ht,hb];exact hn]|bk E2=>exact#[1,by simp only[whN,ht,hb];exact h]|rt E2 x=>exact#[1,by simp only[whN,ht,hb];exact h]|xc E2 c=>exact#[1,by simp only[whN,ht,hb];exact h]
noncomputable def at'{α:Type}(L:List (Option α))(j:Nat):Option α:=(L[j]?).join
noncomputable def clr{α:Type}:List Nat->List (Option α)->List (Option α)
 |[],L=>L|j::R,L=>clr R (L.set j none)
noncomputable def back{α:Type}:List Nat->List (Option α)->List (Option α)->List (Option α)
 |j::R,q::B,L=>back R B (L.set j q)|_,_,L=>L
def wwm(k:Nat)(R:List Nat)(E:En):En:=List.replicate k none++R.map (at' E)
def JK(k:Nat)(R:List Nat)(B E:En):En:=back R (B.drop k) (clr R E)
def lcL(tg:Tg)(t:Ts)(c:Ex):List D->En->List Sd->Option (Res (List Sd))
 |[],B,ah=>some (.ok B ah)
 |d::ds,B,ah=>match tg.put d B with
  |none=>none|some B=>bnd (t B) λB x=>if x then bnd (c B) λB y=>lcL tg t c ds B (ah++[y])else lcL tg t c ds B ah
def mkL(o:Own)(E:En)(xs:List Sd):Option (Res Sd):=
 if o=.dp then(if xs.all zj then some (.ok E (.dp,.lst (xs.map (·.2))))else none)else some (.ok E (.rt,.lst (xs.map (·.2))))
def cLC(o:Own)(k:Nat)(R:List Nat)(it:Ev (List D))(tg:Tg)(t:Ts)(c:Ex):Ex:=λE=>bnd (it E) λE ds=>
 match lcL tg t c ds (wwm k R E) []with
 |some (.ok B xs)=>mkL o (JK k R B E) xs|some (.exc B e)=>some (.exc (JK k R B E) e)|none=>none
def VX:Option (Option Sd)->Bool
 |some (some (_,.lst _))=>true|_=>false
noncomputable def xz(f:List D->D->Option (List D))(i:Nat)(c:Ex):Sm:=λE=>if VX E[i]? then ofE (c E) λE x=>match E[i]? with
 |some (some (o,.lst xs))=>if o=.no then none else(match f xs x.2 with
  |some ys=>some (.nx (E.set i (some (if o=.dp/\zj x then .dp else .rt,.lst ys))))
  |none=>none)
 |_=>none
 else none
noncomputable def xJ:List D->D->Option (List D):=λxs d=>if xs.length<big then some (xs++[d])else none
noncomputable def xqb:D->Option D
 |.int i=>some (.int i)|.bl k=>some (.int (if k then 1 else 0))|.str z=>if z.length<=640 then(PySem.intText? z).map .int else none|_=>none
def Q4:Sd->Option Sd:=λx=>match x.2 with
 |.lst xs=>if qY x then some (.rt,.lst xs)else none|.tup xs=>if qY x then some (.rt,.lst xs)else none|_=>none
def KY:Sd->Option Sd:=λx=>match x.2 with
 |.lst xs=>if qY x then some (.no,.tup xs)else none|.tup xs=>if qY x then some (.no,.tup xs)else none|_=>none
noncomputable def bls:List D->Option (List Bool)
 |[]=>some []|.bl b::ds=>(bls ds).map (b :: ·)|_=>none
def K9:D->Option D
 |.lst ds=>(bls ds).map λbs=>.bl (bs.all id)|_=>none
noncomputable def seqOf:D->Option (List D)
 |.lst xs=>some xs|.tup xs=>some xs|.str z=>if z.cps.size<=big then some (z.cps.toList.map λc=>.str #[(List.toArray [c])])else none|_=>none
def itS(c:Ex):Ev (List D):=λE=>bnd (c E) λE x=>val E (seqOf x.2)
def z7(i:Int):Bool:=decide (-(2 ^ 62)<=i)&&decide (i<2 ^ 62)
noncomputable def qk(lo hi:Int):List D:=(List.range (hi - lo).toNat).map λ(k:Nat)=>.int (lo+(k:Int))
def xv(c:Ex):Ev (List D):=λE=>bnd (c E) λE x=>match x.2 with
 |.int j=>if z7 j/\j.toNat<=big then some (.ok E (qk 0 j))else none|_=>none
def xkn(c:Ex):Ex:=λE=>bnd (c E) λE x=>match x.2 with
 |.int j=>if z7 j/\j.toNat<=big then some (.ok E (.rt,.lst (qk 0 j)))else none|_=>none
abbrev Fn:=List Sd->Option (Res Sd)
noncomputable def fn(n:Nat)(b:Sm):Fn:=λxs=>match b (xs.map some++List.replicate (n - xs.length) none)with
 |some (.rt E x)=>some (.ok E x)|some (.nx E)=>some (.ok E (.dp,.non))|some (.xc E c)=>some (.exc E c)|_=>none
noncomputable def letAll(xs:List Sd):List Sd:=xs.map λx=>(.no,x.2)
def jz(f:Fn)(cs:List Ex):Ex:=λE=>bnd (vq cs E) λE xs=>match f (letAll xs)with
 |some (.ok _ y)=>some (.ok E y)|some (.exc _ c)=>some (.exc E c)|none=>none
end Q
namespace Q
open PySem PySem.Spec PyProof.Rows L2 L3
mutual
noncomputable def QK(w:PySem.World):D->Int
 |.int i=>hashInt i|.str z=>hashStr w z|.tup xs=>reduceHash (Builtin.Tuple.tupleHashOf (hashDs w xs))|_=>4238894112
noncomputable def hashDs(w:PySem.World):List D->List Int
 |[]=>[]|a::x=>QK w a::hashDs w x
end
def Kd:Type:={d:D // v4 6 d=true}
instance:DecidableEq Kd:=λa b=>Classical.propDecidable (a=b)
abbrev Ent:=Kd×Addr×Value
def qX(a:Addr)(es:List Ent)(ep:Nat):HO:=.ext λw h=>∃o ds,h.get? a=some o/\o.ExactDict/\o.data=.dict ds ep/\ds.toList=es.map λx=>(#[QK w x.1.1,.ref x.2.1,x.2.2]:DictEntry)
mutual
noncomputable def PuR(K:Frag)(H:Hp):D->V->Prop
 |.non,v=>v=.non|.int i,v=>v=.int i|.str z,v=>v=.str z/\z.length<=sizeLine|.tup ds,v=>∃a xs,v=.ref a/\SqT K H a xs/\PuRs K H ds xs|_,_=>False
noncomputable def PuRs(K:Frag)(H:Hp):List D->List V->Prop
 |[],xs=>xs=[]|d::ds,xs=>∃x r,xs=x::r/\PuR K H d x/\PuRs K H ds r
end
def DcN(K:Frag)(H:Hp)(a:Addr)(ks:List D)(vs:List V):Prop:=∃(es:List Ent) (ep:Nat),H a=some (qX a es ep)/\(a==sysModules)=false/\es.length<=sizeLine/\(es.map (·.1)).Nodup/\ks=es.map (·.1.1)/\(∀x∈es,PuR K H x.1.1 (.ref x.2.1))/\Vals vs (es.map (·.2.2))
def DcI(H:Hp)(a:Addr)(ks:List D)(vs:List V):Prop:=∃(kv:List (Int×V)) (m:Str),H a=some (.dK (kv.map λp=>(Sum.inl p.1,p.2)))/\ks=.str m::kv.map (λp=>D.int p.1)/\vs=.non::kv.map (·.2)
def DcA(K:Frag)(H:Hp)(a:Addr)(ks:List D)(vs:List V):Prop:=DcN K H a ks vs\/DcI H a ks vs
theorem DcA.un{K H a kvs vs}(h:DcA K H a (kvs.map (·.1)) vs)(hu:unm kvs=true):DcN K H a (kvs.map (·.1)) vs:=by
 rcases h with h|⟨kv,m,_,h,_⟩
 ·exact h
 ·cases kvs with
  |nil=>cases h
  |cons p r=>
   obtain⟨k,d⟩:=p;injection h with h1 _;subst h1;cases hu
def xxb(K:Frag)(a:Addr)(xs:List V):Prop:=∃(af:Array Value) (n:Nat),K.lookup a=some {cls:=.type "list",data:=.seq af n}/\af.size<=sizeLine/\Vals xs af.toList
def xqi(K:Frag)(H:Hp)(a:Addr)(xs:List V):Prop:=(∃o,H a=some (.frz o (.lst xs)))\/xxb K a xs
def LsR(K:Frag)(H:Hp)(a:Addr)(xs:List V):Prop:=Rd H a (.lst xs)\/xxb K a xs
theorem LsR.of{K H a xs}(h:xqi K H a xs):LsR K H a xs:=h.imp .inr id
theorem LsR.sq{K H a xs}(h:LsR K H a xs):SqL K H a xs:=by
 rcases h with h|⟨af,n,h1,h2,h3⟩
 ·exact .inl h
 ·exact .inr #[_,af,n,h1,rfl,rfl,rfl,h2,h3]
theorem LsR.is{X a8}{σ:L2.St}{H s a xs}(I:L2.Inv X a8 σ H s)(h:LsR X.K H a xs):xs.length<=sizeLine/\∃(af:List Value) (n:Nat),Vals xs af/\s.heap.get? a=some {cls:=.type "list",data:=.seq af.toArray n}:=by
 rcases h with h|⟨af,n,h1,h2,h3⟩
 ·obtain⟨z,af,n,r,e⟩:=h.ok I.hok;exact#[z,af,n,r,e]
 ·have hl:=h3.length;simp at hl;exact#[⋯,af.toList,n,h3,by simpa using I.kIn a _ h1]
def ExD(K:Frag)(H:Hp)(c:Str)(v:V):Prop:=∃x o C,v=.ref x/\H x=some (.frz o (.ext λ_ _=>True))/\ExAt K x o C/\nsIn K mainGlobals c=some (some (.ref C))
mutual
noncomputable def RepL(K:Frag)(H:Hp)(g:Bool):D->V->List Addr->Prop
 |.non,v,as=>v=.non/\as=[]|.bl b,v,as=>v=.bl b/\as=[]|.int i,v,as=>v=.int i/\as=[]|.str z,v,as=>v=.str z/\as=[]/\z.length<=sizeLine|.tup ds,v,as=>∃a xs,v=.ref a/\SqT K H a xs/\RepA K H g ds xs as|.lst ds,v,as=>∃a xs bs,v=.ref a/\RepA K H g ds xs bs/\((H a=some (.lst xs)/\as=a::bs)\/(g=true/\xqi K H a xs/\as=bs))|.dct kvs,v,as=>∃a xs bs,v=.ref a/\RepP K H g kvs xs bs/\DcA K H a (kvs.map (·.1)) xs/\as=a::bs|.obj c _,v,as=>as=[]/\ExD K H c v
noncomputable def RepA(K:Frag)(H:Hp)(g:Bool):List D->List V->List Addr->Prop
 |[],xs,as=>xs=[]/\as=[]|d::ds,xs,as=>∃x r bs cs,xs=x::r/\as=bs++cs/\RepL K H g d x bs/\RepA K H g ds r cs
noncomputable def RepP(K:Frag)(H:Hp)(g:Bool):List (D×D)->List V->List Addr->Prop
 |[],xs,as=>xs=[]/\as=[]|(_,d)::ds,xs,as=>∃x r bs cs,xs=x::r/\as=bs++cs/\RepL K H g d x bs/\RepP K H g ds r cs
end
def RepR(K:Frag)(H:Hp):D->V->List Addr->Prop
 |.lst ds,v,as=>∃a xs bs,v=.ref a/\RepA K H true ds xs bs/\H a=some (.lst xs)/\as=a::bs|.dct kvs,v,as=>∃a xs bs,v=.ref a/\RepP K H true kvs xs bs/\DcA K H a (kvs.map (·.1)) xs/\as=a::bs|_,_,_=>False
def RepO(K:Frag)(H:Hp):Own->D->V->List Addr->Prop
 |.no=>RepL K H true|.rt=>RepR K H|.dp=>RepL K H false
section
variable {K:Frag}{H H':Hp}
def Kp(H H':Hp)(as:List Addr):Prop:=(∀a xs,H a=some (.tup xs)->H' a=some (.tup xs))/\(∀a o u,H a=some (.frz o u)->H' a=some (.frz o u))/\∀a∈as,∀ob,H a=some ob->H' a=some ob
theorem Kp.left{as bs}(k:Kp H H' (as++bs)):Kp H H' as:=#[k.1,k.2.1,λa ha=>k.2.2 a (ll9 _ ha)]
theorem Kp.right{as bs}(k:Kp H H' (as++bs)):Kp H H' bs:=#[k.1,k.2.1,λa ha=>k.2.2 a (lr9 _ ha)]
theorem Kp.tail{a bs}(k:Kp H H' (a::bs)):Kp H H' bs:=#[k.1,k.2.1,λb hb=>k.2.2 b (lc9 _ hb)]
theorem Kp.tupT{as a xs}(k:Kp H H' as)(h:SqT K H a xs):SqT K H' a xs:=by
 rcases h with(h|⟨o,h⟩)|h
 ·exact .inl (.inl (k.1 a xs h))
 ·exact .inl (.inr #[o,k.2.1 a o _ h])
 ·exact .inr h
theorem Kp.frzL{as a xs}(k:Kp H H' as)(h:xqi K H a xs):xqi K H' a xs:=by
 rcases h with⟨o,h⟩|h
 ·exact .inl #[o,k.2.1 a o _ h]
 ·exact .inr h
mutual
theorem PuR.kp{as}(k:Kp H H' as):∀{d v},PuR K H d v->PuR K H' d v
 |.non,_,h=>h|.int _,_,h=>by unfold PuR at h ⊢;exact h
 |.tup ds,_,h=>by
  obtain⟨a,xs,e,s,r⟩:=h;exact#[a,xs,e,k.tupT s,PuRs.kp k r]
 |.bl _,_,h=>h.elim|.str _,_,h=>by unfold PuR at h ⊢;exact h|.lst _,_,h=>h.elim|.dct _,_,h=>by unfold PuR at h;exact h.elim|.obj _ _,_,h=>h.elim
theorem PuRs.kp{as}(k:Kp H H' as):∀{ds xs},PuRs K H ds xs->PuRs K H' ds xs
 |[],_,h=>by unfold PuRs at h ⊢;exact h
 |d::ds,_,h=>by
  obtain⟨x,r,e,h1,h2⟩:=h;exact#[x,r,e,PuR.kp k h1,PuRs.kp k h2]
end
theorem Kp.dcn{a bs ks vs}(k:Kp H H' (a::bs))(h:DcN K H a ks vs):DcN K H' a ks vs:=by
 obtain⟨es,ep,e,h1,h2,h3,h4,h5,h6⟩:=h;exact#[es,ep,k.2.2 a X6 _ e,h1,h2,h3,h4,λx hx=>PuR.kp k (h5 x hx),h6]
theorem Kp.dca{a bs ks vs}(k:Kp H H' (a::bs))(h:DcA K H a ks vs):DcA K H' a ks vs:=by
 rcases h with h|⟨kv,m,e,h⟩
 ·exact .inl (k.dcn h)
 ·exact .inr #[kv,m,k.2.2 a X6 _ e,h]
theorem Kp.of_same{as}(s:kX H H'):Kp H H' as:=#[λa xs h=>s a _ h,λa o u h=>s a _ h,λa _ ob h=>s a ob h]
mutual
theorem RepL.kp{g}:∀{d v as},RepL K H g d v as->Kp H H' as->RepL K H' g d v as
 | .non,_,_,h,_=>h| .bl _,_,_,h,_=>by unfold RepL at h ⊢;exact h| .int _,_,_,h,_=>h| .str _,_,_,h,_=>by unfold RepL at h ⊢;exact h
 | .tup ds,_,_,h,k=>by
  obtain⟨a,xs,e,s,r⟩:=h;exact#[a,xs,e,k.tupT s,RepA.kp r k]
 | .lst ds,_,_,h,k=>by
  obtain⟨a,xs,bs,e,r,q⟩:=h;refine#[a,xs,bs,e,?_,?_]
  ·rcases q with⟨_,rfl⟩|⟨_,_,rfl⟩
   ·exact RepA.kp r k.tail
   ·exact RepA.kp r k
  ·rcases q with⟨h1,rfl⟩|⟨hg,h1,rfl⟩
   ·exact .inl #[k.2.2 a X6 _ h1,rfl]
   ·exact .inr #[hg,k.frzL h1,rfl]
 |.dct kvs,_,_,h,k=>by
  obtain⟨a,xs,bs,e,r,q,rfl⟩:=h;exact#[a,xs,bs,e,RepP.kp r k.tail,k.dca q,rfl]
 |.obj _ _,_,_,h,k=>by
  obtain⟨e,x,o,C,h1,h2,h3⟩:=h;exact#[e,x,o,C,h1,k.2.1 _ _ _ h2,h3]
theorem RepA.kp{g}:∀{ds xs as},RepA K H g ds xs as->Kp H H' as->RepA K H' g ds xs as
 |[],_,_,h,_=>by unfold RepA at h ⊢;exact h
 |d::ds,_,_,h,k=>by
  obtain⟨x,r,bs,cs,e1,rfl,h1,h2⟩:=h;exact#[x,r,bs,cs,e1,rfl,RepL.kp h1 k.left,RepA.kp h2 k.right]
theorem RepP.kp{g}:∀{ds xs as},RepP K H g ds xs as->Kp H H' as->RepP K H' g ds xs as
 |[],_,_,h,_=>by unfold RepP at h ⊢;exact h
 |_::ds,_,_,h,k=>by
  obtain⟨x,r,bs,cs,e1,rfl,h1,h2⟩:=h;exact#[x,r,bs,cs,e1,rfl,RepL.kp h1 k.left,RepP.kp h2 k.right]
end
mutual
theorem RepL.wk:∀{d v as},RepL K H false d v as->RepL K H true d v as
 |.non,_,_,h=>h|.bl _,_,_,h=>by unfold RepL at h ⊢;exact h|.int _,_,_,h=>h|.str _,_,_,h=>by unfold RepL at h ⊢;exact h
 |.tup ds,_,_,h=>by
  obtain⟨a,xs,e,s,r⟩:=h;exact#[a,xs,e,s,RepA.wk r]
 |.lst ds,_,_,h=>by
  obtain⟨a,xs,bs,e,r,q⟩:=h;refine#[a,xs,bs,e,RepA.wk r,?_];rcases q with q|⟨z,_⟩
  ·exact .inl q
  ·grind
 |.dct kvs,_,_,h=>by
  obtain⟨a,xs,bs,e,r,q,z⟩:=h;exact#[a,xs,bs,e,RepP.wk r,q,z]
 |.obj _ _,_,_,h=>h
theorem RepA.wk:∀{ds xs as},RepA K H false ds xs as->RepA K H true ds xs as
 |[],_,_,h=>by unfold RepA at h ⊢;exact h
 |d::ds,_,_,h=>by
  obtain⟨x,r,bs,cs,e1,e2,h1,h2⟩:=h;exact#[x,r,bs,cs,e1,e2,RepL.wk h1,RepA.wk h2]
theorem RepP.wk:∀{ds xs as},RepP K H false ds xs as->RepP K H true ds xs as
 |[],_,_,h=>h
 |_::ds,_,_,h=>by
  obtain⟨x,r,bs,cs,e1,e2,h1,h2⟩:=h;exact#[x,r,bs,cs,e1,e2,RepL.wk h1,RepP.wk h2]
end
mutual
theorem RepL.al{g}:∀{d v as},RepL K H g d v as->∀a∈as,(∃xs,H a=some (.lst xs))\/(∃ φ,H a=some (.ext φ))\/∃kvs,H a=some (.dK kvs)
 | .non,_,_,h=>by rw[h.2];exact λ_ z=>nomatch z| .bl _,_,_,h=>by rw[h.2];exact λ_ z=>nomatch z| .int _,_,_,h=>by rw[h.2];exact λ_ z=>nomatch z| .str _,_,_,h=>by rw[h.2.1];exact λ_ z=>nomatch z
 | .tup ds,_,_,h=>by
  obtain⟨a,xs,e,s,r⟩:=h;exact RepA.al r
 | .lst ds,_,_,h=>by
  obtain⟨a,xs,bs,e,r,q⟩:=h;rcases q with⟨h1,rfl⟩|⟨_,_,rfl⟩
  ·intro b hb;rcases aD hb with rfl|hb
   ·exact .inl #[_,h1]
   ·exact RepA.al r b hb
  ·exact RepA.al r
 | .dct kvs,_,_,h=>by
  obtain⟨a,xs,bs,e,r,q,rfl⟩:=h;intro b hb;rcases aD hb with rfl|hb
  ·rcases q with⟨es,ep,q,_⟩|⟨kv,m,q,_⟩
   ·exact .inr (.inl #[_,q])
   ·exact .inr (.inr #[_,q])
  ·exact RepP.al r b hb
 |.obj _ _,_,_,h=>by rw[h.1];exact λ_ z=>nomatch z
theorem RepA.al{g}:∀{ds xs as},RepA K H g ds xs as->∀a∈as,(∃xs,H a=some (.lst xs))\/(∃ φ,H a=some (.ext φ))\/∃kvs,H a=some (.dK kvs)
 |[],_,_,h=>by rw[h.2];exact λ_ z=>nomatch z
 |d::ds,_,_,h=>by
  obtain⟨x,r,bs,cs,e1,rfl,h1,h2⟩:=h;intro a ha;rcases aA ha with ha|ha
  ·exact RepL.al h1 a ha
  ·exact RepA.al h2 a ha
theorem RepP.al{g}:∀{ds xs as},RepP K H g ds xs as->∀a∈as,(∃xs,H a=some (.lst xs))\/(∃ φ,H a=some (.ext φ))\/∃kvs,H a=some (.dK kvs)
 |[],_,_,h=>by rw[h.2];exact λ_ z=>nomatch z
 |_::ds,_,_,h=>by
  obtain⟨x,r,bs,cs,e1,rfl,h1,h2⟩:=h;intro a ha;rcases aA ha with ha|ha
  ·exact RepL.al h1 a ha
  ·exact RepP.al h2 a ha
end
mutual
theorem RepL.pu{g g'}:∀{d v as},RepL K H g d v as->d.pure=true->as=[]/\RepL K H g' d v []
 |.non,_,_,h,_=>#[h.2,h.1,rfl]|.bl _,_,_,h,_=>#[h.2,h.1,rfl]|.int _,_,_,h,_=>#[h.2,h.1,rfl]|.str _,_,_,h,_=>#[h.2.1,h.1,rfl,h.2.2]
 |.tup ds,_,_,h,p=>by
  obtain⟨a,xs,e,s,r⟩:=h;obtain⟨z,r'⟩:=RepA.pu (g':=g') r (p);exact#[z,a,xs,e,s,r']
 |.lst ds,_,_,h,p=>by unfold D.pure at p;cases p|.dct ds,_,_,h,p=>by cases p|.obj _ _,_,_,h,p=>by unfold D.pure at p;cases p
theorem RepA.pu{g g'}:∀{ds xs as},RepA K H g ds xs as->D.pures ds=true->as=[]/\RepA K H g' ds xs []
 |[],_,_,h,_=>#[h.2,h.1,rfl]
 |d::ds,_,_,h,p=>by
  unfold D.pures at p;rw[Bool.and_eq_true]at p;obtain⟨x,r,bs,cs,e1,rfl,h1,h2⟩:=h;obtain⟨rfl,q1⟩:=RepL.pu (g':=g') h1 p.1;obtain⟨rfl,q2⟩:=RepA.pu (g':=g') h2 p.2;exact#[rfl,x,r,[],[],e1,rfl,q1,q2]
end
theorem RepR.wk:∀{d v as},RepR K H d v as->RepL K H true d v as
 |.lst ds,_,_,h=>by
  obtain⟨a,xs,bs,e,r,q,z⟩:=h;exact#[a,xs,bs,e,r,.inl #[q,z]]
 |.dct kvs,_,_,h=>by
  obtain⟨a,xs,bs,e,r,q,z⟩:=h;exact#[a,xs,bs,e,r,q,z]
theorem RepR.kp:∀{d v as},RepR K H d v as->Kp H H' as->RepR K H' d v as
 |.lst ds,_,_,h,k=>by
  obtain⟨a,xs,bs,e,r,q,rfl⟩:=h;exact#[a,xs,bs,e,r.kp k.tail,k.2.2 a X6 _ q,rfl]
 |.dct kvs,_,_,h,k=>by
  obtain⟨a,xs,bs,e,r,q,rfl⟩:=h;exact#[a,xs,bs,e,r.kp k.tail,k.dca q,rfl]
theorem RepO.wk:∀{o d v as},RepO K H o d v as->RepL K H true d v as
 |.no,_,_,_,h=>h|.rt,_,_,_,h=>RepR.wk h|.dp,_,_,_,h=>RepL.wk h
theorem RepO.kp:∀{o d v as},RepO K H o d v as->Kp H H' as->RepO K H' o d v as
 |.no,_,_,_,h,k=>RepL.kp h k|.rt,_,_,_,h,k=>RepR.kp h k|.dp,_,_,_,h,k=>RepL.kp h k
end
structure Sl where
 o:Own
 d:D
 v:V
 as:List Addr
noncomputable def Sl.own(x:Sl):List Addr:=match x.o with
 |.no=>[]|.rt=>x.as.take 1|.dp=>x.as
noncomputable def Sl.frz(x:Sl):List Addr:=match x.o with
 |.no=>x.as|.rt=>x.as.drop 1|.dp=>[]
theorem Sl.parts(x:Sl):x.own++x.frz=x.as:=by
 unfold Sl.own Sl.frz;cases x.o with|no=>rfl|rt=>exact List.take_append_drop 1 x.as|dp=>exact Xw _
theorem Sl.own_as{x:Sl}{a}(h:a∈x.own):a∈x.as:=by rw[<-x.parts];exact ll9 _ h
theorem Sl.frz_as{x:Sl}{a}(h:a∈x.frz):a∈x.as:=by rw[<-x.parts];exact lr9 _ h
theorem Sl.as_of{x:Sl}{a}(h:a∈x.as):a∈x.own\/a∈x.frz:=by rw[<-x.parts]at h;exact aA h
noncomputable def Sl.let(x:Sl):Sl:={x with o:=.no}
abbrev Ls:=List (Option Sl)
def jv(L:Ls):List Addr:=L.flatMap λx=>x.elim [] Sl.own
def kw(L:Ls):List Addr:=L.flatMap λx=>x.elim [] Sl.frz
@[simp] theorem wzu:jv []=[]:=rfl
@[simp] theorem wwn:kw []=[]:=rfl
@[simp] theorem v8 x (L:Ls):jv (some x::L)=x.own++jv L:=by simp[jv]
@[simp] theorem Jz x (L:Ls):kw (some x::L)=x.frz++kw L:=by simp[kw]
@[simp] theorem qxs (L:Ls):jv (none::L)=jv L:=by simp[jv]
@[simp] theorem qv0 (L:Ls):kw (none::L)=kw L:=by simp[kw]
@[simp] theorem k9 (L T):jv (L++T)=jv L++jv T:=by simp[jv]
@[simp] theorem qZ (L T):kw (L++T)=kw L++kw T:=by simp[kw]
theorem mem_owned{L a}:a∈jv L↔∃x,some x∈L/\a∈x.own:=by
 unfold jv;rw[List.mem_flatMap];constructor
 ·rintro ⟨y,hy,h⟩;cases y with|none=>simp_all|some x=>exact#[x,hy,h]
 ·rintro ⟨x,hx,h⟩;exact#[some x,hx,h]
theorem mem_frozen{L a}:a∈kw L↔∃x,some x∈L/\a∈x.frz:=by
 unfold kw;rw[List.mem_flatMap];constructor
 ·rintro ⟨y,hy,h⟩;cases y with|none=>simp_all|some x=>exact#[x,hy,h]
 ·rintro ⟨x,hx,h⟩;exact#[some x,hx,h]
def Sl.ok(K:Frag)(H:Hp)(x:Sl):Prop:=RepO K H x.o x.d x.v x.as
theorem Sl.ok.al{K H}{x:Sl}(h:x.ok K H):∀a∈x.as,(∃xs,H a=some (.lst xs))\/(∃ φ,H a=some (.ext φ))\/∃kvs,H a=some (.dK kvs):=(RepO.wk h).al
theorem Sl.ok.some{K H}{x:Sl}(h:x.ok K H){a}(ha:a∈x.as):H a≠none:=λz=>by
 rcases h.al a ha with⟨xs,e⟩|⟨xs,e⟩|⟨xs,e⟩<;>(rw[z]at e;cases e)
structure World (K:Frag)(H:Hp)(L:Ls):Prop where
 ok:∀x,some x∈L->x.ok K H
 nd:(jv L).Nodup
 ds:∀a∈jv L,a∉kw L
structure Step (H:Hp)(L:Ls)(H':Hp)(L':Ls):Prop where
 keep:∀a ob,H a=some ob->a∉jv L->H' a=some ob
 own:∀a∈jv L',a∈jv L\/H a=none
 frz:∀a∈kw L',a∈kw L\/a∈jv L\/H a=none
section
variable {K:Frag}{H H1 H2 H':Hp}{L L1 L2' L' T:Ls}{x y:Sl}
theorem World.own_al(w:World K H L){a}(h:a∈jv L):(∃xs,H a=some (.lst xs))\/(∃ φ,H a=some (.ext φ))\/∃kvs,H a=some (.dK kvs):=by
 obtain⟨x,hx,ha⟩:=mem_owned.mp h;exact(w.ok x hx).al a (Sl.own_as ha)
theorem World.own_some(w:World K H L){a}(h:a∈jv L):H a≠none:=by
 obtain⟨x,hx,ha⟩:=mem_owned.mp h;exact(w.ok x hx).some (Sl.own_as ha)
theorem World.frz_some(w:World K H L){a}(h:a∈kw L):H a≠none:=by
 obtain⟨x,hx,ha⟩:=mem_frozen.mp h;exact(w.ok x hx).some (Sl.frz_as ha)
theorem Step.refl:Step H L H L:=#[λ_ _ h _=>h,λ_ h=>.inl h,λ_ h=>.inl h]
theorem Step.trans(a:Step H L H1 L1)(b:Step H1 L1 H2 L2'):Step H L H2 L2' where
 keep:=λc ob h hn=>b.keep c ob (a.keep c ob h hn) λz=>(a.own c z).elim hn λe=>by rw[h]at e;cases e
 own:=λc hc=>by
  rcases b.own c hc with z|z
  ·exact a.own c z
  ·by_cases h:c∈jv L
   ·exact .inl h
   ·refine .inr ?_;cases e:H c with|none=>rfl|some ob=>rw[a.keep c ob e h]at z;cases z
 frz:=λc hc=>by
  rcases b.frz c hc with z|z|z
  ·exact a.frz c z
  ·exact .inr (a.own c z)
  ·by_cases h:c∈jv L
   ·exact .inr (.inl h)
   ·refine .inr (.inr ?_);cases e:H c with|none=>rfl|some ob=>rw[a.keep c ob e h]at z;cases z
theorem Step.kp(a:Step H L H' L')(w:World K H L){as}(h:∀b∈as,b∉jv L):Kp H H' as:=by
 have no:∀b ob,H b=some ob->(∀xs,ob≠.lst xs)->(∀ φ,ob≠.ext φ)->(∀kvs,ob≠.dK kvs)->H' b=some ob:=λb ob e h1 h2 h3=>a.keep b ob e λz=>by
  rcases w.own_al z with _|_|_
  ·grind
  ·grind
  ·grind
 exact#[λb xs e=>no b _ e (λ_ z=>(nomatch z)) (λ_ z=>(nomatch z)) (λ_ z=>(nomatch z)),λb o u e=>no b _ e (λ_ z=>(nomatch z)) (λ_ z=>(nomatch z)) (λ_ z=>(nomatch z)),λb hb ob e=>a.keep b ob e (h b hb)]
theorem Step.frame(a:Step H L H' L')(w:World K H (L++T))(w':World K H' L')(wL:World K H L):World K H' (L'++T):=by
 have nd:=w.nd;rw [k9,Xb]at nd;have dis:=λb hb hT=>nd.2.2 b hb b hT rfl
 have lw:=λx hx=>w.ok x (lr9 _ hx)
 have nT:∀x,some x∈T->∀b∈x.as,b∉jv L:=λx hx b hb hL=>by
  rcases Sl.as_of hb with z|z
  ·exact dis b hL (mem_owned.mpr #[x,hx,z])
  ·refine w.ds b (by rw[k9];exact ll9 _ hL) ?_;rw[qZ];exact lr9 _ (mem_frozen.mpr #[x,hx,z])
 refine#[λx hx=>?_,?_,λb hb=>?_]
 ·rcases aA hx with hx|hx
  ·exact w'.ok x hx
  ·exact(lw x hx).kp (a.kp wL (nT x hx))
 ·rw[k9,Xb];refine#[w'.nd,nd.2.1,λb hb c hc e=>?_];subst e;obtain⟨x,hx,i'⟩:=mem_owned.mp hc;rcases a.own b hb with z|z
  ·exact dis b z hc
  ·exact(lw x hx).some (Sl.own_as i') z
 ·rw[k9]at hb;rw[qZ];intro hf;rcases aA hb with hb|hb
  ·rcases aA hf with hf|hf
   ·exact w'.ds b hb hf
   ·obtain⟨x,hx,i'⟩:=mem_frozen.mp hf;rcases a.own b hb with z|z
    ·exact nT x hx b (Sl.frz_as i') z
    ·exact(lw x hx).some (Sl.frz_as i') z
  ·rcases aA hf with hf|hf
   ·obtain⟨x,hx,i'⟩:=mem_owned.mp hb;rcases a.frz b hf with z|z|z
    ·exact w.ds b (by rw[k9];exact lr9 _ hb) (by rw[qZ];exact ll9 _ z)
    ·exact dis b z hb
    ·exact(lw x hx).some (Sl.own_as i') z
   ·exact w.ds b (by rw[k9];exact lr9 _ hb) (by rw[qZ];exact lr9 _ hf)
theorem World.left(w:World K H (L++T)):World K H L:=by
 have nd:=w.nd;rw[k9,Xb]at nd;exact#[λx hx=>w.ok x (ll9 _ hx),nd.1,λa ha hf=>w.ds a (by rw[k9];exact ll9 _ ha) (by rw[qZ];exact ll9 _ hf)]
theorem World.right(w:World K H (L++T)):World K H T:=by
 have nd:=w.nd;rw[k9,Xb]at nd;exact#[λx hx=>w.ok x (lr9 _ hx),nd.2.1,λa ha hf=>w.ds a (by rw[k9];exact lr9 _ ha) (by rw[qZ];exact lr9 _ hf)]
theorem World.comm(w:World K H (L++T)):World K H (T++L):=by
 refine#[λx hx=>w.ok x ?_,?_,λa ha hf=>w.ds a ?_ ?_]
 ·grind
 ·have nd:=w.nd;rw[k9,Xb]at nd ⊢;exact#[nd.2.1,nd.1,λa ha b hb e=>nd.2.2 b hb a ha e.symm]
 ·rw[k9]at ha ⊢;rcases aA ha with h|h
  ·exact lr9 _ h
  ·exact ll9 _ h
 ·rw[qZ]at hf ⊢;rcases aA hf with h|h
  ·exact lr9 _ h
  ·exact ll9 _ h
theorem World.tail{q}(w:World K H (q::L)):World K H L:=World.right (L:=[q]) w
theorem World.head(w:World K H (some x::L)):x.ok K H:=w.ok x X6
theorem World.apart(w:World K H (some x::L)):∀a∈x.as,a∉jv L:=λa ha hL=>by
 rcases Sl.as_of ha with z|z
 ·have nd:=w.nd;rw[v8,Xb]at nd;exact nd.2.2 a z a hL rfl
 ·exact w.ds a (lr9 _ hL) (by rw[Jz];exact ll9 _ z)
theorem World.cons(w:World K H L)(h:x.ok K H)(n:x.own.Nodup)(h1:∀a∈x.own,a∉jv L)(h2:∀a∈x.own,a∉kw L)(h3:∀a∈x.frz,a∉jv L)(h4:∀a∈x.own,a∉x.frz):World K H (some x::L):=by
 refine#[λy hy=>?_,?_,λa ha hf=>?_]
 ·rcases aD hy with z|z
  ·grind
  ·exact w.ok y z
 ·rw[v8,Xb];exact#[n,w.nd,λa ha b hb e=>by subst e;exact h1 a ha hb]
 ·rw[Jz]at hf;rcases aA ha with ha|ha
  ·simp_all
  ·rcases aA hf with hf|hf
   ·exact h3 a hf ha
   ·exact w.ds a ha hf
theorem World.consNo(w:World K H L)(h:x.ok K H)(ho:x.o=.no)(h3:∀a∈x.as,a∉jv L):World K H (some x::L):=by
 have e1:x.own=[]:=by unfold Sl.own;rw[ho]
 have e2:x.frz=x.as:=by unfold Sl.frz;rw[ho]
 exact w.cons h (by simp_all) (e1▸λ_ z=>nomatch z) (by simp_all) (e2▸h3) (by simp_all)
theorem World.consPu(w:World K H L)(h:x.ok K H)(e:x.as=[]):World K H (some x::L):=by
 have e1:∀a,a∉x.own:=λa ha=>by have:=Sl.own_as ha;rw[e]at this;exact nomatch this
 have e2:∀a,a∉x.frz:=λa ha=>by have:=Sl.frz_as ha;rw[e]at this;exact nomatch this
 have e3:=List.eq_nil_iff_forall_not_mem.mpr e1;exact w.cons h (by simp_all) (λa z=>absurd z (e1 a)) (λa z=>absurd z (e1 a)) (λa z=>absurd z (e2 a)) (λa z=>absurd z (e1 a))
theorem jvk{L:Ls}{i q}(h:some y∈L.set i q):q=some y\/some y∈L:=by
 rcases List.mem_or_eq_of_mem_set h with z|z
 ·exact .inr z
 ·exact .inl z.symm
theorem jkl{i a}(h:a∈jv (L.set i (some x))):a∈x.own\/a∈jv L:=by
 obtain⟨y,hy,ha⟩:=mem_owned.mp h;rcases jvk hy with z|z
 ·grind
 ·exact .inr (mem_owned.mpr #[y,z,ha])
theorem jkw{i a}(h:a∈kw (L.set i (some x))):a∈x.frz\/a∈kw L:=by
 obtain⟨y,hy,ha⟩:=mem_frozen.mp h;rcases jvk hy with z|z
 ·grind
 ·exact .inr (mem_frozen.mpr #[y,z,ha])
theorem jv7:∀{L i},(x.own++jv L).Nodup->(jv (L.set i (some x))).Nodup
 |[],_,h=>by simp
 |q::L,0,h=>by
  rw[List.set_cons_zero,v8];have e:jv (q::L)=q.elim [] Sl.own++jv L:=by simp[jv]
  rw[e,Xb]at h;obtain⟨h1,h2,h3⟩:=h;rw[Xb]at h2 ⊢;exact#[h1,h2.2.1,λa ha b hb=>h3 a ha b (lr9 _ hb)]
 |q::L,i+1,h=>by
  rw[List.set_cons_succ];have e:∀M,jv (q::M)=q.elim [] Sl.own++jv M:=λM=>by simp[jv]
  rw[e]at h ⊢;rw[Xb]at h;obtain⟨h1,h2,h3⟩:=h;rw[Xb]at h2;rw[Xb];refine#[h2.1,jv7 (by rw[Xb];exact#[h1,h2.2.1,λa ha b hb=>h3 a ha b (lr9 _ hb)]),λa ha b hb e=>?_];subst e;rcases jkl hb with z|z
  ·exact h3 a z a (ll9 _ ha) rfl
  ·exact h2.2.2 a ha a z rfl
theorem World.set{i}(w:World K H (some x::L)):World K H (L.set i (some x)):=by
 refine#[λy hy=>?_,jv7 (by have:=w.nd;rwa [v8]at this),λa ha hf=>?_]
 ·rcases jvk hy with z|z
  ·cases z;exact w.head
  ·exact w.ok y (lc9 _ z)
 ·refine w.ds a ?_ ?_
  ·rw[v8];exact List.mem_append.mpr (jkl ha)
  ·rw[Jz];exact List.mem_append.mpr (jkw hf)
theorem Step.set{i}:Step H (some x::L) H (L.set i (some x)) where
 keep:=λ_ _ h _=>h
 own:=λa ha=>.inl (List.mem_append.mpr (jkl ha))
 frz:=λa ha=>.inl (List.mem_append.mpr (jkw ha))
theorem Step.drop{q}:Step H (q::L) H L where
 keep:=λ_ _ h _=>h
 own:=λa ha=>.inl (by rw[show(q::L:Ls)=[q]++L from rfl];exact lr9 _ ha)
 frz:=λa ha=>.inl (by rw[show(q::L:Ls)=[q]++L from rfl];exact lr9 _ ha)
theorem vX{i:Nat}(h:L[i]?=some (some x)):some x∈L:=Z1 h
theorem qwc(x:Sl):x.let.own=[]/\x.let.frz=x.as/\x.let.as=x.as:=#[rfl,rfl,rfl]
theorem qjf{i a}(h:a∈jv (L.set i (some x.let))):a∈jv L:=by
 rcases jkl h with z|z
 ·exact nomatch z
 ·exact z
theorem qqr:∀{L i},(jv L).Nodup->(∀a∈jv L,a∉kw L)->L[i]?=some (some x)->∀a∈x.as,a∉jv (L.set i (some x.let))
 | [],_,_,_,h,_,_=>by simp_all
 | q::L,0,nd,ds,h,a,ha=>by
  have e:q=some x:=by simpa using h
  subst e;intro hm;have hm:a∈jv L:=by simpa [qwc]using hm
  rcases Sl.as_of ha with z|z
  ·rw[v8,Xb]at nd;exact nd.2.2 a z a hm rfl
  ·exact ds a (lr9 _ hm) (by rw[Jz];exact ll9 _ z)
 | q::L,i+1,nd,ds,h,a,ha=>by
  rw[List.set_cons_succ];have e:∀M,jv (q::M)=q.elim [] Sl.own++jv M:=λM=>by simp[jv]
  have f:kw (q::L)=q.elim [] Sl.frz++kw L:=by simp[kw]
  intro hm;rw[e,Xb]at nd;rcases aA hm with hm|hm
  ·rcases Sl.as_of ha with z|z
   ·exact nd.2.2 a hm a (mem_owned.mpr #[x,vX h,z]) rfl
   ·exact ds a (ll9 _ hm) (by rw[f];exact lr9 _ (mem_frozen.mpr #[x,vX h,z]))
  ·exact qqr nd.2.1 (λb hb hf=>ds b (lr9 _ hb) (f▸lr9 _ hf)) h a ha hm
theorem K4(h:x.ok K H):x.let.ok K H:=RepO.wk h
theorem World.let{i}(w:World K H L)(h:L[i]?=some (some x)):World K H (L.set i (some x.let)):=by
 refine#[λy hy=>?_,jv7 ((qwc x).1▸w.nd),λa ha hf=>?_]
 ·rcases jvk hy with z|z
  ·cases z;exact K4 (w.ok x (vX h))
  ·exact w.ok y z
 ·rcases jkw hf with z|z
  ·exact(qqr w.nd w.ds h) a z ha
  ·exact w.ds a (qjf ha) z
theorem World.read{i}(w:World K H L)(h:L[i]?=some (some x)):World K H (some x.let::L.set i (some x.let)):=
 (w.let h).consNo (K4 (w.ok x (vX h))) rfl (qqr (x:=x) w.nd w.ds h)
theorem Step.read{i}(h:L[i]?=some (some x)):Step H L H (some x.let::L.set i (some x.let)) where
 keep:=λ_ _ h _=>h
 own:=λa ha=>.inl (by rw[v8]at ha;exact qjf ha)
 frz:=λa ha=>by
  have hx:=vX h;have q:∀a∈x.as,a∈kw L\/a∈jv L\/H a=none:=λa ha=>by
   rcases Sl.as_of ha with z|z
   ·exact .inr (.inl (mem_owned.mpr #[x,hx,z]))
   ·exact .inl (mem_frozen.mpr #[x,hx,z])
  rcases aA ha with z|z
  ·exact q a z
  ·rcases jkw z with z|z
   ·exact q a z
   ·exact .inl z
end
inductive Mt:En->L2.St->Ls->Prop
 |nil:Mt [] [] []
 |un {E:En} {σ:L2.St} {L:Ls} {y:Option V}:Mt E σ L->Mt (none::E) (y :: σ) (none::L)
 |cons {E:En} {σ:L2.St} {L:Ls} {x:Sl}:Mt E σ L->Mt (some (x.o,x.d)::E) (some x.v :: σ) (some x::L)
theorem Mt.get:∀{E σ L} {i:Nat} {o d},Mt E σ L->E[i]?=some (some (o,d))->∃x,L[i]?=some (some x)/\x.o=o/\x.d=d/\σ[i]?=some (some x.v)
 |_,_,_,_,_,_,.nil,h=>by simp_all|_,_,_,0,_,_,.un _,h=>by simp_all|_,_,_,i+1,_,_,.un m,h=>by simpa using m.get (by simpa using h)
 |_,_,_,0,_,_,.cons (x:=x) m,h=>by
  simp at h;exact#[x,by simp,h.1,h.2,by simp]
 |_,_,_,i+1,_,_,.cons m,h=>by simpa using m.get (by simpa using h)
theorem Mt.set{x}:∀{E σ L} (i),Mt E σ L->Mt (E.set i (some (x.o,x.d))) (σ.set i (some x.v)) (L.set i (some x))
 |_,_,_,_,.nil=>.nil|_,_,_,0,.un m=>.cons m|_,_,_,i+1,.un m=>.un (m.set i)|_,_,_,0,.cons m=>.cons m|_,_,_,i+1,.cons m=>.cons (m.set i)
theorem Mt.let{x}:∀{E σ L i},Mt E σ L->L[i]?=some (some x)->Mt (E.set i (some (.no,x.d))) σ (L.set i (some x.let))
 |_,_,_,_,.nil,h=>by simp_all|_,_,_,i+1,.un m,h=>.un (m.let (by simpa using h))
 |_,_,_,0,.cons (x:=y) m,h=>by
  have e:y=x:=by simpa using h
  subst e;exact .cons (x:=y.let) m
 |_,_,_,i+1,.cons m,h=>.cons (m.let (by simpa using h))
theorem Mt.len:∀{E σ L},Mt E σ L->E.length=σ.length/\L.length=σ.length
 |_,_,_,.nil=>#[rfl,rfl]|_,_,_,.un m=>by simp[m.len]|_,_,_,.cons m=>by simp[m.len]
noncomputable def sls(L:Ls):List Sl:=L.filterMap id
theorem Vq L:jv L=(sls L).flatMap Sl.own:=by
 induction L with
 |nil=>rfl
 |cons q L ih=>
  cases q with|none=>rw[qxs,ih];rfl|some x=>rw[v8,ih];rfl
theorem Vz L:kw L=(sls L).flatMap Sl.frz:=by
 induction L with
 |nil=>rfl
 |cons q L ih=>
  cases q with|none=>rw[qv0,ih];rfl|some x=>rw[Jz,ih];rfl
theorem mem_sls{L x}:x∈sls L↔some x∈L:=by simp[sls]
@[simp] theorem XY (L T):sls (L++T)=sls L++sls T:=by simp[sls]
@[simp] theorem vwj (L:Ls):sls (none::L)=sls L:=rfl
@[simp] theorem xq0 (x:Sl)(L:Ls):sls (some x::L)=x::sls L:=rfl
@[simp] theorem xqq:sls []=[]:=rfl
@[simp] theorem xqr T:sls (T.map some)=T:=by simp[sls]
@[simp] theorem xqp k:sls (List.replicate k none)=[]:=by
 induction k with|zero=>rfl|succ k ih=>rw[List.replicate_succ,vwj,ih]
theorem jv2{α β:Type}(f:α->List β){l l':List α}(h:l.Sublist l'):(l.flatMap f).Sublist (l'.flatMap f):=by
 induction h with|slnil=>exact List.Sublist.refl _|cons a _ ih=>rw[List.flatMap_cons];exact List.Sublist.trans ih (List.sublist_append_right _ _)|cons_cons a _ ih=>rw[List.flatMap_cons];exact List.Sublist.append (List.Sublist.refl _) ih
section
variable {K:Frag}{H H':Hp}{L L' M M':Ls}
theorem World.same(w:World K H L)(p:(sls L).Perm (sls L')):World K H L':=by
 have po:(jv L).Perm (jv L'):=by rw[Vq,Vq];exact p.flatMap_right _
 have pf:(kw L).Perm (kw L'):=by rw[Vz,Vz];exact p.flatMap_right _
 exact#[λx hx=>w.ok x (mem_sls.mp (p.mem_iff.mpr (mem_sls.mpr hx))),po.nodup_iff.mp w.nd,λa ha hf=>w.ds a (po.mem_iff.mpr ha) (pf.mem_iff.mpr hf)]
theorem Step.same(s:Step H L H' L')(p:(sls L).Perm (sls M))(p':(sls L').Perm (sls M')):Step H M H' M':=by
 have po:(jv L).Perm (jv M):=by rw[Vq,Vq];exact p.flatMap_right _
 have pf:(kw L).Perm (kw M):=by rw[Vz,Vz];exact p.flatMap_right _
 have po':(jv L').Perm (jv M'):=by rw[Vq,Vq];exact p'.flatMap_right _
 have pf':(kw L').Perm (kw M'):=by rw[Vz,Vz];exact p'.flatMap_right _
 exact#[λa ob h hn=>s.keep a ob h λz=>hn (po.mem_iff.mp z),λa ha=>(s.own a (po'.mem_iff.mpr ha)).imp (λz=>po.mem_iff.mp z) id,
  λa ha=>(s.frz a (pf'.mem_iff.mpr ha)).imp (λz=>pf.mem_iff.mp z) λz=>z.imp (λz=>po.mem_iff.mp z) id]
theorem World.sub(w:World K H L)(p:(sls L').Sublist (sls L)):World K H L':=by
 refine#[λx hx=>w.ok x (mem_sls.mp (p.subset (mem_sls.mpr hx))),?_,λa ha hf=>w.ds a ?_ ?_]
 ·have:=w.nd;rw[Vq]at this ⊢;exact(jv2 _ p).nodup this
 ·rw[Vq]at ha ⊢;exact(jv2 _ p).subset ha
 ·rw[Vz]at hf ⊢;exact(jv2 _ p).subset hf
theorem Step.sub(s:Step H L H' L')(p:(sls M).Sublist (sls L')):Step H L H' M:=by
 refine#[s.keep,λa ha=>s.own a ?_,λa ha=>s.frz a ?_]
 ·rw[Vq]at ha ⊢;exact(jv2 _ p).subset ha
 ·rw[Vz]at ha ⊢;exact(jv2 _ p).subset ha
end
theorem jzw:∀{L:Ls} {j},(sls (at' L j::L.set j none)).Perm (sls L)
 | [],j=>by simp[at']
 | q::L,0=>by
  cases q with|none=>simp[at']|some x=>simp[at']
 | q::L,j+1=>by
  have ih:=jzw (L:=L) (j:=j);have e:at' (q::L) (j+1)=at' L j:=by simp[at']
  rw[e];have e2:∀a b M,(sls (a::b::M)).Perm (sls (b::a::M)):=λa b M=>by
   cases a<;>cases b<;>simp[sls]
   exact List.Perm.swap ..
  refine(e2 _ _ _).trans ?_;cases q with|none=>simpa [sls]using ih|some y=>simpa [sls]using ih
theorem qwt:∀{R} {L:Ls},R.Nodup->(sls (R.map (at' L)++clr R L)).Perm (sls L)
 | [],L,_=>by simp[clr]
 | j::R,L,h=>by
  rw[Zg]at h;have e:R.map (at' L)=R.map (at' (L.set j none)):=by
   apply Ym;intro i hi;have:j≠i:=λe=>h.1 (e▸hi)
   unfold at';rw[Z0 this]
  rw[List.map_cons,clr,e];have ih:=qwt (L:=L.set j none) h.2;refine List.Perm.trans ?_ (jzw (j:=j));cases hq:at' L j with|none=>simpa [sls]using ih|some x=>simpa [sls]using ih
theorem vve{α}:∀{R} {L:List (Option α)},(clr R L).length=L.length
 |[],_=>rfl|j::R,L=>by rw[clr,vve,List.length_set]
theorem vvf{α}:∀{R} {L:List (Option α)} {j},j∈R->at' (clr R L) j=none
 | [],_,_,h=>by grind
 | i :: R,L,j,h=>by
  rw [clr]
  by_cases hR:j∈R
  ·exact vvf hR
  ·have e:j=i:=by simpa [hR]using h
   subst e;have gen:∀{R} {M:List (Option α)},j∉R->at' (clr R M) j=at' M j:=by
    intro R
    induction R with
    |nil=>intro M _;rfl
    |cons r R ih=>
     intro M h;rw[Yt,not_or]at h;rw[clr,ih h.2];unfold at';rw[Z0 (Ne.symm h.1)]
   rw[gen hR];unfold at'
   by_cases hl:j<L.length
   ·rw[List.getElem?_set_self hl];rfl
   ·rw[List.set_eq_of_length_le ⋯,Xy ⋯];rfl
theorem qkq:∀{R} {B L:Ls},R.Nodup->(∀j∈R,at' L j=none)->(∀j∈R,j<L.length)->B.length=R.length->(sls (back R B L)).Perm (sls (B++L))
 | [],B,L,_,_,_,hl=>by
  have:B=[]:=by simpa using hl
  subst this;simp [back]
 | j :: R,q::B,L,hn,hz,hr,hl=>by
  rw [Zg]at hn;have ih:=qkq (L:=L.set j q) hn.2 (λi hi=>by
   have:j≠i:=λe=>hn.1 (e▸hi)
   unfold at';rw [Z0 this];exact hz i (lc9 _ hi)) (λi hi=>by rw[List.length_set];exact hr i (lc9 _ hi)) (by simpa using hl)
  refine ih.trans ?_;have sp:∀{M i},at' M i=none->i<M.length->(sls (M.set i q)).Perm (sls (q::M)):=by
   intro M
   induction M with
   | nil=>intro i _ h;simp at h
   | cons r M ihM=>
    intro i h1 h2;cases i with
    | zero=>
     have:r=none:=by simpa [at']using h1
     subst this;cases q<;>simp[sls]
    | succ i=>
     have:=ihM (by simpa [at']using h1) (by simpa using h2);cases r with
     | none=>cases q<;>simpa [sls]using this
     | some y=>
      cases q with
      |none=>simpa [sls]using this
      |some x=>
       exact(this.cons y).trans (List.Perm.swap ..)
  rw[XY];have h2:(sls B++sls _).Perm _:=(sp (hz j X6) (hr j X6)).append_left _;refine h2.trans ?_;cases q with
  |none=>simp
  |some x=>
   simp only[XY];exact List.perm_middle
section
variable {K:Frag}{H H1 H2 H':Hp}{L L1 L' T:Ls}{x y:Sl}
theorem ZW(p:L.Perm L'):(jv L).Perm (jv L'):=p.flatMap_right _
theorem jzr(p:L.Perm L'):(kw L).Perm (kw L'):=p.flatMap_right _
theorem World.perm(w:World K H L)(p:L.Perm L'):World K H L':=
 #[λx hx=>w.ok x (p.mem_iff.mpr hx),(ZW p).nodup_iff.mp w.nd,λa ha hf=>w.ds a ((ZW p).mem_iff.mpr ha) ((jzr p).mem_iff.mpr hf)]
theorem Step.perm(s : Step H L H' L'){M M' : Ls}(p : L.Perm M)(p' : L'.Perm M'): Step H M H' M':=
  #[λa ob h hn=>s.keep a ob h λz=>hn ((ZW p).mem_iff.mp z),
   λa ha=>(s.own a ((ZW p').mem_iff.mpr ha)).imp (λz=>(ZW p).mem_iff.mp z) id,
   λa ha=>(s.frz a ((jzr p').mem_iff.mpr ha)).imp (λz=>(jzr p).mem_iff.mp z) λz=>z.imp (λz=>(ZW p).mem_iff.mp z) id]
theorem Step.frm(s:Step H L H' L'):Step H (L++T) H' (L'++T) where
 keep:=λa ob h hn=>s.keep a ob h λz=>hn (by rw[k9];exact ll9 _ z)
 own:=λa ha=>by
  rw[k9]at ha ⊢;rcases aA ha with z|z
  ·exact(s.own a z).imp (ll9 _) id
  ·exact .inl (lr9 _ z)
 frz:=λa ha=>by
  rw[qZ]at ha ⊢;rw[k9];rcases aA ha with z|z
  ·exact(s.frz a z).imp (ll9 _) λz=>z.imp (ll9 _) id
  ·exact .inl (lr9 _ z)
theorem xjy(w:World K H (T++L))(s:Step H L H' L')(w':World K H' L'):World K H' (T++L')/\Step H (T++L) H' (T++L'):=by
 have w1:=w.comm;exact#[(s.frame w1 w' w1.left).comm,s.frm.perm List.perm_append_comm List.perm_append_comm]
end
theorem ex8{α β γ:Type}{P:Prop}{a b c d e:α->β->γ->Prop}(h:∃x y z,a x y z/\b x y z/\c x y z/\d x y z/\e x y z)(f:∀x y z,a x y z->b x y z->c x y z->d x y z->e x y z->P):P:=
 h.elim λx h=>h.elim λy h=>h.elim λz h=>f x y z h.1 h.2.1 h.2.2.1 h.2.2.2.1 h.2.2.2.2
theorem ex7{α β γ:Type}{P:Prop}{a b c d:α->β->γ->Prop}(h:∃x y z,a x y z/\b x y z/\c x y z/\d x y z)(f:∀x y z,a x y z->b x y z->c x y z->d x y z->P):P:=
 h.elim λx h=>h.elim λy h=>h.elim λz h=>f x y z h.1 h.2.1 h.2.2.1 h.2.2.2
theorem qV{X e t t'}(h:PE X e t)(w:∀ σ H Q,t' σ H Q->t σ H Q):PE X e t':=λa8 s σ H Q I q=>h a8 s σ H Q I (w σ H Q q)
theorem qw1{X e t t'}(h:PT X e t)(w:∀ σ H Q,t' σ H Q->t σ H Q):PT X e t':=λa8 s σ H Q I q=>h a8 s σ H Q I (w σ H Q q)
theorem JJ{X e t t'}(h:PS X e t)(w:∀D σ H,t' D σ H->t D σ H):PS X e t':=λa8 s σ H D I q=>h a8 s σ H D I (w D σ H q)
theorem vka{X e t t'}(h:PSs X e t)(w:∀D σ H,t' D σ H->t D σ H):PSs X e t':=λa8 s σ H D I q=>h a8 s σ H D I (w D σ H q)
structure Fx0 where
 K:Frag
 mg:Str->Option Value
 EX:XK
def Xc{α:Type}(Z:Fx0)(σ:L2.St)(H:Hp)(L:Ls)(r:Res α):Prop:=∀E' c,r=.exc E' c->∀C L' H',Z.mg c=some (.ref C)->Mt E' σ L'->World Z.K H' L'->Step H L H' L'->Z.EX (.ref C) none H'
theorem Xc.step{α Z σ H H1 L L1}{r:Res α}(x:Xc Z σ H L r)(s:Step H L H1 L1):Xc Z σ H1 L1 r:=λE' c e C L' H' hm m w s'=>x E' c e C L' H' hm m w (s.trans s')
theorem Xc.map{α β Z σ H L}{r:Res α}{E' c}(x:Xc Z σ H L r)(e:r=.exc E' c):Xc Z σ H L (.exc E' c:Res β):=λE1 c1 e1=>by
 injection e1 with h1 h2;subst h1 h2;exact x _ _ e
noncomputable def tQ(Z:Fx0)(q:Bool)(c:Ex):TE:=fun σ H Q=>∃E L r,Mt E σ L/\World Z.K H L/\c E=some r/\Xc Z σ H L r /\
 ∀E' a,r=.ok E' a->∀(x:Sl) L' H',x.o=a.1->x.d=a.2->Mt E' σ L'->World Z.K H' (some x::L')->Step H L H' (some x::L')->(q=true->kX H H'/\∀b∈x.own,H b=none)->Q x.v H'
def Src(H:Hp)(L:Ls)(as:List Addr):Prop:=∀b∈as,b∈kw L\/b∈jv L\/H b=none
theorem Src.back{H H1 L L1 as}(h:Src H1 L1 as)(s:Step H L H1 L1):Src H L as:=λb hb=>by
 rcases h b hb with z|z|z
 ·exact s.frz b z
 ·exact .inr (s.own b z)
 ·by_cases ho:b∈jv L
  ·exact .inr (.inl ho)
  ·refine .inr (.inr ?_);cases e:H b with|none=>rfl|some ob=>rw[s.keep b ob e ho]at z;cases z
noncomputable def tV(Z:Fx0)(q:Bool)(c:Ex):TE:=fun σ H Q=>∃E L r,Mt E σ L/\World Z.K H L/\c E=some r/\Xc Z σ H L r /\
 ∀E' a,r=.ok E' a->∀(x:Sl) L' H',x.o=a.1->x.d=a.2->Mt E' σ L'->World Z.K H' L'->x.ok Z.K H'->(∀b∈x.frz,b∉jv L')->Src H L x.as->Step H L H' L'->(q=true->kX H H')->Q x.v H'
def QE(X:Cx)(Z:Fx0)(q:Bool)(c:Ex)(e:Expr):Prop:=PE X e (tQ Z q c)
def QV(X:Cx)(Z:Fx0)(q:Bool)(c:Ex)(e:Expr):Prop:=PE X e (tV Z q c)
section
variable {X:Cx}{Z:Fx0}{q qa qb:Bool}{a b c:Ex}{e ea eb:Expr}{pos:Pos}{α:Type}{σ:L2.St}{H:Hp}{L:Ls}{E:En}
theorem wZ{β m}{F:En->α->Option _}{r:Res β}(h:bnd m F=some r):(∃E1 x,m=some (.ok E1 x)/\F E1 x=some r)\/∃E1 c,m=some (.exc E1 c)/\r=.exc E1 c:=by
 cases m with
 |none=>cases h
 |some q=>
  cases q with|ok E1 x=>exact .inl #[E1,x,rfl,h]|exc E1 c=>exact .inr #[E1,c,rfl,(oq9 h).symm]
theorem VY{F}{r:Res α}{G}(m:Mt E σ L)(w:World Z.K H L)(h:bnd (a E) F=some r)(xc:Xc Z σ H L r)
  (k:∀E1 s,F E1 s=some r->∀x L1 H1,x.o=s.1->x.d=s.2->Mt E1 σ L1->World Z.K H1 (some x::L1)->Step H L H1 (some x::L1)->(q=true->kX H H1/\∀b∈x.own,H b=none)->G x.v H1):tQ Z q a σ H G:=by
 rcases wZ h with⟨E1,s,h1,h2⟩|⟨E1,c,h1,h2⟩
 ·exact#[E,L,_,m,w,h1,(λ_ _ z=>by cases z),λE' s' z x L' H' e1 e2 m' w' st sm=>by
   injection z with z1 z2;subst z1 z2;exact k _ _ h2 x L' H' e1 e2 m' w' st sm]
 ·exact#[E,L,_,m,w,h1,xc.map h2,λE' s' z=>by cases z]
theorem vk{F}{r:Res α}{G}(m:Mt E σ L)(w:World Z.K H L)(h:bnd (a E) F=some r)(xc:Xc Z σ H L r)
  (k:∀E1 s,F E1 s=some r->∀(x:Sl) L1 H1,x.o=s.1->x.d=s.2->Mt E1 σ L1->World Z.K H1 L1->x.ok Z.K H1->(∀b∈x.frz,b∉jv L1)->Src H L x.as->Step H L H1 L1->(q=true->kX H H1)->G x.v H1):tV Z q a σ H G:=by
 rcases wZ h with⟨E1,s,h1,h2⟩|⟨E1,c,h1,h2⟩
 ·exact#[E,L,_,m,w,h1,(λ_ _ z=>by cases z),λE' s' z x L' H' e1 e2 m' w' ok fr sr st sm=>by
   injection z with z1 z2;subst z1 z2;exact k _ _ h2 x L' H' e1 e2 m' w' ok fr sr st sm]
 ·exact#[E,L,_,m,w,h1,xc.map h2,λE' s' z=>by cases z]
theorem Vw{x:Sl}{K H1 H2 L1 L2'}(ok:x.ok K H1)(fr:∀b∈x.frz,b∉jv L1)(st:Step H1 L1 H2 L2')(sm:kX H1 H2):x.ok K H2/\∀b∈x.frz,b∉jv L2':=
 #[RepO.kp ok (Kp.of_same sm),λb hb ho=>(st.own b ho).elim (fr b hb) λz=>ok.some (Sl.frz_as hb) z]
theorem zQ{x}{r:Res α}(h:val E x=some r):∃y,x=some y/\r=.ok E y:=by
 cases x with|none=>cases h|some y=>exact#[y,rfl,(oq9 h).symm]
theorem QE.weak(h:QE X Z true c e):QE X Z q c e:=qV h fun σ H Q ao=>ex8 ao λE L r m w hc xc k=>#[E,L,r,m,w,hc,xc,λE' s z x L' H' e1 e2 m' w' st sm=>k E' s z x L' H' e1 e2 m' w' st λ_=>sm rfl]
theorem kx6{x H1}{L1:Ls}(st:Step H L H1 (some x::L1)):Src H L x.as:=λb hb=>by
 rcases Sl.as_of hb with z|z
 ·exact .inr (st.own b (ll9 _ z))
 ·exact st.frz b (by rw[Jz];exact ll9 _ z)
theorem j6(h:QE X Z q c e):QV X Z q (vE c) e:=qV h fun σ H Q ao=>ex8 ao λE L r m w hc xc k=>
 VY m w hc xc λE1 s h1 x L1 H1 e1 e2 m1 w1 st sm=>by
  cases oq9 h1;exact k _ _ rfl x.let L1 H1 rfl e2 m1 w1.tail (K4 w1.head) (λb hb=>w1.apart b hb) (kx6 (x:=x) st) (st.trans Step.drop) λhq=>(sm hq).1
theorem Jw{x H1 L1}(st:Step H L H1 L1)(sr:Src H L x.as)(ho:x.own=[]):Step H L H1 (some x::L1) where
 keep:=st.keep
 own:=λb hb=>by rw[v8,ho]at hb;exact st.own b hb
 frz:=λb hb=>by
  rcases aA hb with z|z
  ·exact sr b (Sl.frz_as z)
  ·exact st.frz b z
theorem vkn{x:Sl}(h:x.o=.no):x.own=[]:=by unfold Sl.own;rw[h]
theorem qk8{x:Sl}(h:x.o=.no):x.frz=x.as:=by unfold Sl.frz;rw[h]
theorem wqy{x:Sl}(h:x.as=[]):x.own=[]:=List.eq_nil_iff_forall_not_mem.mpr λa ha=>by have:=Sl.own_as ha;rw[h]at this;exact nomatch this
theorem jV(h:QV X Z q c e):QE X Z q (cH c) e:=qV h fun σ H Q ao=>ex8 ao λE L r m w hc xc k=>
 vk m w hc xc λE1 s h1 x L1 H1 e1 e2 m1 w1 ok fr sr st sm=>by
  by_cases ho:s.1=.no
  ·rw[Xd ho]at h1;cases oq9 h1;have eo:=e1.trans ho;exact k _ _ rfl x L1 H1 eo e2 m1 (w1.consNo ok eo λb hb=>fr b (qk8 eo▸hb)) (Jw st sr (vkn eo)) λhq=>#[sm hq,by rw[vkn eo];exact λ_ z=>(nomatch z)]
  ·rw[Xg ho]at h1
   by_cases hp:s.2.pure=true
   ·rw[Xd hp]at h1;cases oq9 h1;obtain⟨z,rp⟩:=RepL.pu (g':=false) (RepO.wk ok) (by simp_all);exact k _ _ rfl #[.dp,x.d,x.v,[]] L1 H1 rfl e2 m1 (w1.consPu rp rfl) (Jw st (λb hb=>nomatch hb) rfl) λhq=>#[sm hq,λ_ z=>(nomatch z)]
   ·simp_all
theorem q_C{d v}(h:PE X e (tC v))(hr:∀H,RepL Z.K H false d v []):QE X Z true (cC d) e:=qV h fun σ H Q ao=>ex8 ao λE L r m w hc xc k=>by
 cases oq9 hc;exact k _ _ rfl #[.dp,d,v,[]] L H rfl rfl m (w.consPu (hr H) rfl) (Jw Step.refl (λb hb=>nomatch hb) rfl) λ_=>#[λ_ _ z=>z,λ_ z=>(nomatch z)]
theorem q_V{i}(h:PE X e (K0 i)):QE X Z true (cV i) e:=qV h fun σ H Q ao=>ex8 ao λE L r m w hc xc k=>by
 unfold cV at hc
 split at hc
 ·rename_i o d hE;cases oq9 hc;obtain⟨x,h1,h2,h3,h4⟩:=m.get hE;refine#[x.v,h4,k _ _ rfl x.let _ H rfl h3 ?_ (w.read h1) (Step.read h1) λ_=>#[λ_ _ z=>z,λ_ z=>(nomatch z)]];have:=m.let h1
  rwa [h3]at this
 ·cases hc
theorem vkx:∀{E σ} {L} j,Mt E σ L->Mt (E.set j none) σ (L.set j none):=by
 intro E σ L j m
 induction m generalizing j with
 |nil=>exact .nil
 |un m ih=>cases j with|zero=>exact .un m|succ j=>exact .un (ih j)
 |cons m ih=>cases j with|zero=>exact .un m|succ j=>exact .cons (ih j)
theorem kj2{x}:∀{L:Ls} {i},L[i]?=some (some x)->(none::L).Perm (some x::L.set i none)
 |[],_,h=>by simp_all
 |q::L,0,h=>by
  have e:q=some x:=by simpa using h
  subst e;exact List.Perm.swap ..
 |q::L,i+1,h=>by
  have:=kj2 (L:=L) (by simpa using h);exact(List.Perm.swap ..).trans ((this.cons q).trans (List.Perm.swap ..))
theorem wxx{i}(h:PE X e (K0 i)):QE X Z false (cMv i) e:=qV h fun σ H Q ao=>ex8 ao λE L r m w hc xc k=>by
 unfold cMv at hc
 split at hc
 ·rename_i s hE;cases oq9 hc;obtain⟨x,h1,h2,h3,h4⟩:=m.get hE;have wn:World Z.K H (none::L):=#[λy hy=>w.ok y (by simp_all),by simpa using w.nd,by simpa using w.ds];have sn:Step H L H (none::L):=#[λ_ _ z _=>z,λa z=>.inl (by simp_all),λa z=>.inl (by simp_all)];exact#[x.v,h4,k _ _ rfl x _ H h2 h3 (vkx i m) (wn.perm (kj2 h1)) (sn.trans (Step.refl.perm (List.Perm.refl _) (kj2 h1))) λz=>(nomatch z)]
 ·cases hc
theorem q_vV{i}(h:PE X e (K0 i)):QV X Z true (vV i) e:=qV h fun σ H Q ao=>ex8 ao λE L r m w hc xc k=>by
 unfold vV at hc
 split at hc
 ·rename_i s hE;cases oq9 hc;obtain⟨x,h1,h2,h3,h4⟩:=m.get hE;have hx:=vX h1;refine#[x.v,h4,k _ _ rfl x L H h2 h3 m w (w.ok x hx) (λb hb ho=>w.ds b ho (mem_frozen.mpr #[x,hx,hb])) (λb hb=>?_) Step.refl λ_=>λ_ _ z=>z];rcases Sl.as_of hb with z|z
  ·exact .inr (.inl (mem_owned.mpr #[x,hx,z]))
  ·exact .inl (mem_frozen.mpr #[x,hx,z])
 ·cases hc
structure Out (K:Frag)(H H':Hp)(z:Sl)(fr:List Addr):Prop where
 same:kX H H'
 ok:z.ok K H'
 new:∀b∈z.own,H b=none
 nd:z.own.Nodup
 fr:∀b∈z.frz,b∈fr
def Ad1(K:Frag)(r:V->Hp->VK->Prop)(f:Sd->Option Sd):Prop:=∀(H:Hp) (x:Sl) (s:Sd) (Q:VK),x.ok K H->f (x.o,x.d)=some s->(∀(z:Sl) H',z.o=s.1->z.d=s.2->Out K H H' z x.frz->Q z.v H')->r x.v H Q
def Ad2(K:Frag)(r:R2)(f:Sd->Sd->Option Sd):Prop:=∀(H:Hp) (x y:Sl) (s:Sd) (Q:VK),x.ok K H->y.ok K H->f (x.o,x.d) (y.o,y.d)=some s->(∀(z:Sl) H',z.o=s.1->z.d=s.2->Out K H H' z (x.frz++y.frz)->Q z.v H')->r x.v y.v H Q
theorem kq4{K H H' d v fr}(s:kX H H')(r:RepL K H' false d v []):Out K H H' #[.dp,d,v,[]] fr:=#[s,r,λ_ h=>(nomatch h),Y2,λ_ h=>(nomatch h)]
theorem zK{H}:kX H H:=λ_ _ z=>z
theorem qz{H H1 H2}(a:kX H H1)(b:kX H1 H2):kX H H2:=λc ob h=>b c ob (a c ob h)
theorem Q7{z fr H1 H2 L1}(w:World Z.K H1 L1)(st:Step H L H1 L1)(o:Out Z.K H1 H2 z fr)(ap:∀b∈fr,b∉jv L1)(al:∀b∈fr,H1 b≠none)(sr:Src H L fr):
  World Z.K H2 (some z::L1)/\Step H L H2 (some z::L1):=by
 have w2:World Z.K H2 L1:=#[λx hx=>RepO.kp (w.ok x hx) (Kp.of_same o.same),w.nd,w.ds];refine#[w2.cons o.ok o.nd (λb hb ho=>w.own_some ho (o.new b hb)) (λb hb hf=>w.frz_some hf (o.new b hb)) (λb hb=>ap b (o.fr b hb)) (λb hb hf=>al b (o.fr b hf) (o.new b hb)),(#[λb ob h hn=>o.same b ob (st.keep b ob h hn),λb hb=>?_,λb hb=>?_])]
 ·rcases aA hb with z|z
  ·by_cases ho:b∈jv L
   ·exact .inl ho
   ·refine .inr ?_;cases e:H b with|none=>rfl|some ob=>have:=o.new b z;rw[st.keep b ob e ho]at this;cases this
  ·exact st.own b z
 ·rcases aA hb with z|z
  ·exact sr b (o.fr b z)
  ·exact st.frz b z
theorem YV{as bs}(h:Src H L as)(hb:∀b∈bs,b∈as):Src H L bs:=λb z=>h b (hb b z)
theorem vjj{as bs}(h:Src H L as)(h':Src H L bs):Src H L (as++bs):=λb z=>(aA z).elim (h b) (h' b)
theorem zX{H H1 b}(s:kX H H1)(h:H1 b=none):H b=none:=by
 cases e:H b with|none=>rfl|some ob=>rw[s b ob e]at h;cases h
theorem jz3{r f}(ad:Ad1 Z.K r f){Q}(h:tQ Z q (cF1 f a) σ H Q):tUn r (tV Z q a) σ H Q:=by
 obtain⟨E,L,R,m,w,hc,xc,k⟩:=h;refine vk m w hc xc λE1 s h1 x L1 H1 e1 e2 m1 w1 ok fr sr st sm=>?_
 obtain⟨z,hz,rfl⟩:=zQ h1;refine ad H1 x z Q ok (by simp_all) λy H' ho hd o=>?_
 obtain⟨w3,dj⟩:=Q7 w1 st o fr (λb hb=>ok.some (Sl.frz_as hb)) (YV sr λb hb=>Sl.frz_as hb);exact k _ _ rfl y L1 H' ho hd m1 w3 dj λhq=>#[qz (sm hq) o.same,λb hb=>zX (sm hq) (o.new b hb)]
theorem kzl{r f}(ad:Ad2 Z.K r f){Q}(h:tQ Z qa (cF2 f a b) σ H Q):tOp r (tV Z qa a) (tV Z true b) σ H Q:=by
 obtain⟨E,L,R,m,w,hc,xc,k⟩:=h;refine vk m w hc xc λE1 s h1 x L1 H1 e1 e2 m1 w1 ok fr sr st sm=>(vk m1 w1 h1 (xc.step st) λE2 s2 h2 y L2 H2 e3 e4 m2 w2 iu qg p8 bu fk=>?_)
 obtain⟨z,hz,rfl⟩:=zQ h2;have kx:=Vw ok fr bu (fk rfl);refine ad H2 x y z Q kx.1 iu (by simp_all) λy' H' ho hd o=>?_
 obtain⟨w3,dj⟩:=Q7 w2 (st.trans bu) o (λb hb=>(aA hb).elim (kx.2 b) (qg b)) (λb hb=>(aA hb).elim (λz=>kx.1.some (Sl.frz_as z)) λz=>iu.some (Sl.frz_as z))
  (vjj (YV sr λb hb=>Sl.frz_as hb) (YV (p8.back st) λb hb=>Sl.frz_as hb))
 exact k _ _ rfl y' L2 H' ho hd m2 w3 dj λhq=>#[qz (sm hq) (qz (fk rfl) o.same),λb hb=>zX (qz (sm hq) (fk rfl)) (o.new b hb)]
theorem x5{op r f}(ho:OpR X (binaryOp op) r)(ad:Ad2 Z.K r f)(ha:QV X Z qa a ea)(hb:QV X Z true b eb):QE X Z qa (cF2 f a b) (.BinOp ea op eb pos):=
 qV (xvg ho ha hb) fun σ H Q h=>kzl ad h
theorem xW{op r f}(ho:OpR X (compareOp op) r)(ad:Ad2 Z.K r f)(ha:QV X Z qa a ea)(hb:QV X Z true b eb)(hm:behindInMarks op eb=false):QE X Z qa (cF2 f a b) (.Compare ea [op] [eb] pos):=
 qV (wqu ho ha hb hm) fun σ H Q h=>kzl ad h
theorem xq3{op:UnaryOp}{r:V->Hp->VK->Prop}{f:Sd->Option Sd}(ho:UnR X (unaryOp op) r)(ad:Ad1 Z.K r f)(ha:QV X Z q a ea):QE X Z q (cF1 f a) (.UnaryOp op ea pos):=
 qV (xve ho ha) fun σ H Q h=>jz3 ad h
theorem RepA.get{K H g}:∀{ds xs as} {i:Nat} {d},RepA K H g ds xs as->ds[i]?=some d->∃v bs,xs[i]?=some v/\RepL K H g d v bs/\∀b∈bs,b∈as
 | [],_,_,_,_,_,e=>by simp_all
 | d::ds,_,_,i,d',h,e=>by
  obtain⟨x,r,bs,cs,rfl,rfl,h1,h2⟩:=h;cases i with
  |zero=>
   have e:d=d':=by simpa using e
   subst e;exact#[x,bs,by simp,h1,λb hb=>ll9 _ hb]
  |succ i=>
   obtain⟨v,lj,e1,e2,e3⟩:=RepA.get h2 (by simpa using e);exact#[v,lj,by simpa using e1,e2,λb hb=>lr9 _ (e3 b hb)]
theorem RepA.len{K H g}:∀{ds xs as},RepA K H g ds xs as->ds.length=xs.length
 |[],_,_,h=>by rw[h.1];rfl
 |d::ds,_,_,h=>by
  obtain⟨x,r,bs,cs,rfl,rfl,h1,h2⟩:=h;simp[RepA.len h2]
theorem items{K H}{x:Sl}{ds}(ok:x.ok K H)(h:x.d=.lst ds\/x.d=.tup ds):∃a xs bs,x.v=.ref a/\((x.d=.lst ds/\LsR K H a xs)\/(x.d=.tup ds/\SqT K H a xs))/\RepA K H (x.o != .dp) ds xs bs/\(∀b∈bs,b∈x.as)/\(x.o≠.dp->∀b∈bs,b∈x.frz):=by
 obtain⟨o,d,v,as⟩:=x;rcases h with rfl|rfl
 ·cases o with
  |no=>
   have ok:RepL K H true _ v as:=ok;obtain⟨a,xs,bs,rfl,r,q⟩:=ok;rcases q with⟨q,rfl⟩|⟨_,q,rfl⟩
   ·exact#[a,xs,bs,rfl,.inl #[rfl,.inl (.inl q)],r,λb hb=>lc9 _ hb,λ_ b hb=>lc9 _ hb]
   ·exact#[a,xs,as,rfl,.inl #[rfl,.of q],r,λb hb=>hb,λ_ b hb=>hb]
  |rt=>
   obtain⟨a,xs,bs,rfl,r,q,rfl⟩:=(ok);exact#[a,xs,bs,rfl,.inl #[rfl,.inl (.inl q)],r,λb hb=>lc9 _ hb,λ_ b hb=>by simpa [Sl.frz]using hb]
  |dp=>
   have ok:RepL K H false _ v as:=ok;obtain⟨a,xs,bs,rfl,r,q⟩:=ok;rcases q with⟨q,rfl⟩|⟨z,_⟩
   ·exact#[a,xs,bs,rfl,.inl #[rfl,.inl (.inl q)],r,λb hb=>lc9 _ hb,λz=>absurd rfl z]
   ·grind
 ·cases o with
  |no=>
   have ok:=ok;obtain⟨a,xs,rfl,q,r⟩:=ok;exact#[a,xs,as,rfl,.inr #[rfl,q],r,λb hb=>hb,λ_ b hb=>hb]
  |rt=>exact(ok).elim
  |dp=>
   obtain⟨a,xs,rfl,q,r⟩:=ok;exact#[a,xs,as,rfl,.inr #[rfl,q],r,λb hb=>hb,λz=>absurd rfl z]
theorem JV{K H}{x:Sl}{ds}(ok:x.ok K H)(h:x.d=.lst ds\/x.d=.tup ds)(hl:qY (x.o,x.d)=true):∃a xs bs,x.v=.ref a/\((x.d=.lst ds/\LsR K H a xs)\/(x.d=.tup ds/\SqT K H a xs))/\RepA K H true ds xs bs/\(∀b∈bs,b∈x.frz):=by
 obtain⟨a,xs,bs,e,q,r,h1,h2⟩:=items ok h
 by_cases ho:x.o=.dp
 ·have hp:D.pures ds=true:=by
   unfold qY at hl;rw[show(x.o,x.d).1=Own.dp from ho]at hl;have:xx4 x.d=ds:=by rcases h with h|h<;>rw[h]<;>rfl
   simpa [this]using hl
  obtain⟨rfl,r'⟩:=RepA.pu (g':=true) r hp;exact#[a,xs,[],e,q,r',λ_ z=>nomatch z]
 ·have:(x.o != Own.dp)=true:=by simpa using ho
  rw[this]at r;exact#[a,xs,bs,e,q,r,h2 ho]
end
section
variable {K:Frag}{H:Hp}{x y:Sl}
theorem v5{i}(ok:x.ok K H)(h:x.d=.int i):x.v=.int i:=by
 have:=RepO.wk ok;rw[h]at this;exact this.1
theorem V2{i}(ok:x.ok K H)(h:x.d=.bl i):x.v=.bl i:=by
 have:=RepO.wk ok;rw[h]at this;exact this.1
theorem wj9(ok:x.ok K H)(h:x.d=.non):x.v=.non:=by
 have:=RepO.wk ok;rw[h]at this;exact this.1
theorem zV{z}(ok:x.ok K H)(h:x.d=.str z):x.v=.str z/\z.length<=sizeLine:=by
 have:=RepO.wk ok;rw[h]at this;exact#[this.1,this.2.2]
theorem vx{i g}:RepL K H g (.int i) (.int i) []:=#[rfl,rfl]
theorem xj{i g}:RepL K H g (.bl i) (.bl i) []:=#[rfl,rfl]
theorem qqa{g}:RepL K H g .non .non []:=#[rfl,rfl]
theorem Kz{z g}(h:z.length<=sizeLine):RepL K H g (.str z) (.str z) []:=#[rfl,rfl,h]
theorem Q8{i fr}:Out K H H #[.dp,.int i,.int i,[]] fr:=kq4 zK vx
theorem xV{i fr}:Out K H H #[.dp,.bl i,.bl i,[]] fr:=kq4 zK xj
theorem xvi{z fr}(h:z.length<=sizeLine):Out K H H #[.dp,.str z,.str z,[]] fr:=kq4 zK (Kz h)
theorem wwh{C}{g:Int->Int->Int}{f}(h:∀i j k,f i j=some k->C i j/\k=g i j):Ad2 K (rI C λi j=>.int (g i j)) (pu2 (i2 f)):=by
 intro H x y s Q ox oy hf k;unfold pu2 i2 at hf;dsimp only at hf
 split at hf
 ·rename_i i j e1 e2;cases hk:f i j with
  |none=>rw[hk]at hf;cases hf
  |some n=>
   rw[hk]at hf;cases oq9 hf;obtain⟨hc,rfl⟩:=h i j n hk;exact#[i,j,v5 ox e1,v5 oy e2,hc,k _ H rfl rfl Q8]
 ·cases hf
theorem xw8{g:Int->Int->Int}{f}(h:∀i j,f i j=some (g i j)):Ad2 K (rI0 λi j=>.int (g i j)) (pu2 (i2 f)):=by
 intro H x y s Q ox oy hf k;unfold pu2 i2 at hf;dsimp only at hf
 split at hf
 ·rename_i i j e1 e2;rw[h]at hf;cases oq9 hf;exact#[i,j,v5 ox e1,v5 oy e2,k _ H rfl rfl Q8]
 ·cases hf
theorem x9{g}:Ad2 K (rI0 λi j=>.bl (g i j)) (pu2 (c2 g)):=by
 intro H x y s Q ox oy hf k;unfold pu2 c2 at hf;dsimp only at hf
 split at hf
 ·rename_i i j e1 e2;cases oq9 hf;exact#[i,j,v5 ox e1,v5 oy e2,k _ H rfl rfl xV]
 ·cases hf
theorem wk4:Ad2 K (rI0 λi j=>.int (i - j)) (pu2 xq9):=xw8 λ_ _=>rfl
theorem Jk:Ad2 K (rI xkw λi j=>.int (i / j)) (pu2 xq):=wwh λi j k h=>by
 split at h
 ·rename_i c;exact#[c,(oq9 h).symm]
 ·grind
theorem xkq:Ad2 K (rI (λ_ j=>0<j) λi j=>.int (i % j)) (pu2 qx):=wwh λi j k h=>by
 split at h
 ·rename_i c;exact#[c,(oq9 h).symm]
 ·grind
theorem wk5:Ad2 K (rI xxc λi j=>.int (i ^ j.toNat)) (pu2 xqa):=wwh λi j k h=>by
 split at h
 ·rename_i c;exact#[c,(oq9 h).symm]
 ·grind
end
def wxr(K:Frag):R2:=λx y H Q=>∃l b xs zs,x=.ref l/\y=.ref b/\LsR K H l xs/\LsR K H b zs/\xs.length+zs.length<=sizeLine/\∀p,H p=none->Q (.ref p) (upd H p (.lst (xs++zs)))
theorem op_catL{X}:OpR X (binaryOp .Add) (wxr X.K):=by
 rintro a8 s σ H x y v u Q I rx ry ⟨l,b,xs,zs,rfl,rfl,hH,hB,hz,q⟩;cases rx;cases ry;obtain⟨z,af,n,r,e⟩:=hH.is I;obtain⟨z2,iz,n2,r2,e2⟩:=hB.is I;have hl:=r.length;have kt:=r2.length;refine PySem.P.add_list e e2 ?_ (by rw[Xa,Xa];lia);have ea:af.toArray++iz.toArray=(af++iz).toArray:=by simp
 rw[ea];exact#[.ref _,_,I.lnew (t':=s.toks) (r.append r2) (by rw[Xf];lia),rfl,q _ I.fresh]
def wxs(K:Frag):R2:=λx y H Q=>∃a b ys,x=.ref a/\y=.ref b/\SqT K H a []/\SqT K H b ys/\Q (.ref b) H
theorem op_catE{X}:OpR X (binaryOp .Add) (wxs X.K):=by
 rintro a8 s σ H x y v u Q I rx ry ⟨a,b,ys,rfl,rfl,ha,hb,q⟩;cases rx;cases ry;obtain⟨af,r1,p1,_⟩:=I.tuple ha;obtain⟨iz,r2,p2,_⟩:=I.tuple hb;obtain⟨⟨cls,dd,data,sl⟩,ho,hc,n,hd⟩:=id p1;obtain⟨⟨cls2,dd2,data2,ng⟩,ko,qy,n2,ij⟩:=id p2;subst hc hd qy ij;have e:=r1.nil_iff.mpr rfl;subst e;exact concat_meets #[_,ho,rfl] #[_,ko,rfl] noFill_tuple_add seq_tuple_add PySem.F.slot_tuple_add PySem.F.entry_tuple_add (PySem.F.args_tuple_add_2 _ _)
   (tuple_addW0 a b [].toArray iz.toArray n n2 dd dd2 sl ng (by simp)) #[ho,ko,#[.ref b,H,I,rfl,q]]
def wxt(K:Frag):R2:=λx y H Q=>rI0 (λi j=>.int (i+j)) x y H Q\/(∃i j,x=.str i/\y=.str j/\i.length+j.length<=sizeLine/\Q (.str (i++j)) H)\/wxr K x y H Q\/wxs K x y H Q\/wxq K x y H Q
theorem xj0{X K}(hK:X.K=K):OpR X (binaryOp .Add) (wxt K):=by subst hK;exact op_add.or (op_add_str.or (op_catL.or (op_catE.or wv0)))
theorem RepA.app{K H g ds' xs' lj}(h':RepA K H g ds' xs' lj):∀{ds xs as},RepA K H g ds xs as->RepA K H g (ds++ds') (xs++xs') (as++lj)
 |[],_,_,h=>by rw[h.1,h.2];exact h'
 |d::ds,_,_,h=>by
  obtain⟨x,r,bs,cs,rfl,rfl,h1,h2⟩:=h;rw[List.cons_append];exact#[x,r++xs',bs,cs++lj,rfl,by rw[Xk],h1,RepA.app h' h2]
theorem xw{H p o}(h:H p=none):kX H (upd H p o):=λb u q=>by rw[qQ (KQ q h)];exact q
theorem W5{K H p ds xs bs fr}(hp:H p=none)(r:RepA K H true ds xs bs)(hb:∀b∈bs,b∈fr):Out K H (upd H p (.lst xs)) #[.rt,.lst ds,.ref p,p::bs] fr:=by
 refine#[xw hp,#[p,xs,bs,rfl,r.kp (Kp.of_same (xw hp)),xK,rfl],λb hb=>?_,?_,λb gr=>hb b (by simpa [Sl.frz]using gr)]
 ·have:b=p:=by simpa [Sl.own]using hb
  rw[this];exact hp
 ·simp[Sl.own]
theorem kqn{K H p ds xs bs fr}(hp:H p=none)(r:RepA K H true ds xs bs)(hb:∀b∈bs,b∈fr):Out K H (upd H p (.tup xs)) #[.no,.tup ds,.ref p,bs] fr:=by
 refine#[xw hp,?_,λb hb=>(nomatch hb),Y2,λb gr=>hb b gr];show RepL K _ true _ _ bs;exact#[p,xs,rfl,SqT.of xK,r.kp (Kp.of_same (xw hp))]
theorem xkv{K}:Ad2 K (wxt K) kY:=by
 intro H x y s Q ox oy hf k;unfold kY at hf;dsimp only at hf
 split at hf
 ·rename_i i j e1 e2;cases oq9 hf;exact .inl #[i,j,v5 ox e1,v5 oy e2,k _ H rfl rfl Q8]
 ·rename_i i j e1 e2
  split at hf
  ·rename_i hl;cases oq9 hf;have hl':(i++j).length<=sizeLine:=by rw[strLen_append];exact hl
   exact .inr (.inl #[i,j,(zV ox e1).1,(zV oy e2).1,hl,k _ H rfl rfl (xvi hl')])
  ·cases hf
 ·rename_i i j e1 e2
  split at hf
  ·rename_i hl;cases oq9 hf;obtain⟨a,xs,bs,e3,q3,r3,h3⟩:=JV ox (.inl e1) hl.2.1;obtain⟨b,ys,cs,e4,q4,r4,h4⟩:=JV oy (.inl e2) hl.2.2;have q3:LsR K H a xs:=by rcases q3 with⟨_,z⟩|⟨z,_⟩;exact z;rw[e1]at z;cases z
   have q4:LsR K H b ys:=by rcases q4 with⟨_,z⟩|⟨z,_⟩;exact z;rw[e2]at z;cases z
   exact .inr (.inr (.inl #[a,b,xs,ys,e3,e4,q3,q4,by rw[<-r3.len,<-r4.len];exact hl.1,λp hp=>(k _ _ rfl rfl (W5 hp (r4.app r3) λb hb=>(aA hb).elim (λz=>ll9 _ (h3 b z)) λz=>lr9 _ (h4 b z)))]))
  ·cases hf
 ·rename_i i j e1 e2
  split at hf
  ·rename_i hl;cases oq9 hf;obtain⟨a,xs,bs,e3,q3,r3,h3⟩:=JV ox (.inr e1) hl.2.1;obtain⟨b,ys,cs,e4,q4,r4,h4⟩:=JV oy (.inr e2) hl.2.2;have q3:SqT K H a xs:=by rcases q3 with⟨z,_⟩|⟨_,z⟩;rw[e1]at z;cases z;exact z
   have q4:SqT K H b ys:=by rcases q4 with⟨z,_⟩|⟨_,z⟩;rw[e2]at z;cases z;exact z
   have ap:=r4.app r3;have pr:=λb hb=>(aA hb).elim (λz=>ll9 _ (h3 b z)) λz=>lr9 _ (h4 b z)
   have same:∀c zs,zs=xs++ys->SqT K H c zs->Q (.ref c) H:=λc zs e hq=>by
    refine k #[.no,.tup _,.ref c,bs++cs] H rfl rfl #[zK,?_,λb hb=>(nomatch hb),Y2,pr];show RepL K H true _ _ _;exact#[c,zs,rfl,hq,by rw[e];exact ap]
   by_cases hx:xs=[]
   ·subst hx;exact .inr (.inr (.inr (.inl #[a,b,ys,e3,e4,q3,q4,same b ys rfl q4])))
   ·refine .inr (.inr (.inr (.inr #[a,b,xs,ys,e3,e4,q3,q4,hx,by rw[<-r3.len,<-r4.len];exact hl.1,λhy=>?_,λhy p hp=>?_])))
    ·exact same a xs (by rw[hy,Xw]) q3
    ·exact k _ _ rfl rfl (kqn hp ap pr)
  ·cases hf
 ·cases hf
def tT(Z:Fx0)(q:Bool)(c:Ts):TT:=fun σ H Q=>∃E L r,Mt E σ L/\World Z.K H L/\c E=some r/\Xc Z σ H L r /\
 ∀E' k,r=.ok E' k->∀L' H',Mt E' σ L'->World Z.K H' L'->Step H L H' L'->(q=true->kX H H')->Q k H'
def QT(X:Cx)(Z:Fx0)(q:Bool)(c:Ts)(e:Expr):Prop:=PT X e (tT Z q c)
def QW(X:Cx)(Z:Fx0)(q:Bool)(c:Ts)(e:Expr):Prop:=PW X e (tT Z q c)
section
variable {X:Cx}{Z:Fx0}{q qa qb:Bool}{a b c:Ex}{u v:Ts}{e ea eb:Expr}{es:List Expr}{pos:Pos}{α β:Type}{σ:L2.St}{H:Hp}{L:Ls}{E:En}
theorem vzx{e t t'}(h:PW X e t)(w:∀ σ H Q,t' σ H Q->t σ H Q):PW X e t':=λwh a8 s σ H Q I q=>h wh a8 s σ H Q I (w σ H Q q)
theorem vwe{F}{r:Res α}{G}(m:Mt E σ L)(w:World Z.K H L)(h:bnd (u E) F=some r)(xc:Xc Z σ H L r)
  (k:∀E1 s,F E1 s=some r->∀L1 H1,Mt E1 σ L1->World Z.K H1 L1->Step H L H1 L1->(q=true->kX H H1)->G s H1):tT Z q u σ H G:=by
 rcases wZ h with⟨E1,s,h1,h2⟩|⟨E1,c,h1,h2⟩
 ·exact#[E,L,_,m,w,h1,(λ_ _ z=>by cases z),λE' s' z L' H' m' w' st sm=>by
   injection z with z1 z2;subst z1 z2;exact k _ _ h2 L' H' m' w' st sm]
 ·exact#[E,L,_,m,w,h1,xc.map h2,λE' s' z=>by cases z]
theorem qqd(ha:QT X Z q u ea):QW X Z q u (.BoolOp .And [ea] pos):=wq8 ha
theorem KJ(ha:QT X Z q u ea):QW X Z q u (.BoolOp .Or [ea] pos):=wz7 ha
theorem vk4(ha:QT X Z q u ea)(hb:QW X Z q v (.BoolOp .And (eb::es) pos)):QW X Z q (Q.tAnd u v) (.BoolOp .And (ea::eb::es) pos):=
 vzx (wz8 ha hb) fun σ H Q ao=>ex8 ao λE L r m w hc xc k=>vwe m w hc xc λE1 s h1 L1 H1 m1 w1 st sm=>by
  cases s with
  |true=>
   exact#[E1,L1,r,m1,w1,h1,xc.step st,λE' k' z L' H' m' w' i9 kl=>k E' k' z L' H' m' w' (st.trans i9) λhq=>qz (sm hq) (kl hq)]
  |false=>grind
theorem J8(ha:QT X Z q u ea)(hb:QW X Z q v (.BoolOp .Or (eb::es) pos)):QW X Z q (Q.tOr u v) (.BoolOp .Or (ea::eb::es) pos):=
 vzx (xvb ha hb) fun σ H Q ao=>ex8 ao λE L r m w hc xc k=>vwe m w hc xc λE1 s h1 L1 H1 m1 w1 st sm=>by
  cases s with
  |false=>
   exact#[E1,L1,r,m1,w1,h1,xc.step st,λE' k' z L' H' m' w' i9 kl=>k E' k' z L' H' m' w' (st.trans i9) λhq=>qz (sm hq) (kl hq)]
  |true=>grind
theorem QW.pt(h:QW X Z q u e):QT X Z q u e:=PW.pt h
theorem wJ(ha:QT X Z q u ea):QT X Z q (Q.tNot u) (.UnaryOp .Not ea pos):=
 qw1 (wza ha) fun σ H Q ao=>ex8 ao λE L r m w hc xc k=>vwe m w hc xc λE1 s h1 L1 H1 m1 w1 st sm=>by
  cases oq9 h1;exact k _ _ rfl L1 H1 m1 w1 st sm
theorem kz{op r f}(ho:OpR X (compareOp op) r)(ad:Ad2 Z.K r f)(ha:QV X Z qa a ea)(hb:QV X Z true b eb)(hm:behindInMarks op eb=false)(hf:∀x y s,f x y=some s->∃k,s.2=.bl k):QT X Z qa (Q.tE (cF2 f a b)) (.Compare ea [op] [eb] pos):=
 qw1 (wqc ho ha hb hm) fun σ H Q ao=>ex8 ao λE L r m w hc xc k=>by
  refine kzl ad ?_;rcases wZ hc with⟨E1,s,h1,h2⟩|⟨E1,c,h1,h2⟩
  ·refine#[E,L,_,m,w,h1,(λ_ _ z=>by cases z),λE' s' z x L' H' e1 e2 m' w' st sm=>?_];injection z with z1 z2;subst z1 z2;obtain⟨kk,hk⟩:∃k,s.2=.bl k:=by
    rcases wZ h1 with⟨E2,s2,h3,h4⟩|⟨_,_,_,z⟩
    ·rcases wZ h4 with⟨E3,s3,h5,h6⟩|⟨_,_,_,z⟩
     ·obtain⟨y,hy,z⟩:=zQ h6;cases z;exact hf _ _ _ hy
     ·cases z
    ·cases z
   rw[hk]at h2;cases oq9 h2;exact#[kk,V2 w'.head (e2.trans hk),k _ _ rfl L' H' m' w'.tail (st.trans Step.drop) λhq=>(sm hq).1]
  ·exact#[E,L,_,m,w,h1,xc.map h2,λE' s' z=>by cases z]
end
def Pn(pn:List Nat)(σ σ':L2.St):Prop:=∀p∈pn,σ'[p]?=σ[p]?
theorem Pn.refl{pn σ}:Pn pn σ σ:=λ_ _=>rfl
theorem Pn.trans{pn σ σ1 σ2}(a:Pn pn σ σ1)(b:Pn pn σ1 σ2):Pn pn σ σ2:=λp hp=>(b p hp).trans (a p hp)
theorem Pn.set{pn σ σ1 i y}(a:Pn pn σ σ1)(h:i∉pn):Pn pn σ (σ1.set i y):=λp hp=>by
 have:i≠p:=λe=>h (e▸hp)
 rw[Z0 this];exact a p hp
noncomputable def FlP(Z:Fx0)(pn:List Nat)(D:Ends)(σ:L2.St)(H:Hp)(L:Ls):Fl->Prop
 |.nx E'=>∀ σ' L' H',Pn pn σ σ'->Mt E' σ' L'->World Z.K H' L'->Step H L H' L'->D.nx σ' H'|.ct E'=>∀ σ' L' H',Pn pn σ σ'->Mt E' σ' L'->World Z.K H' L'->Step H L H' L'->D.ct σ' H'|.bk E'=>∀ σ' L' H',Pn pn σ σ'->Mt E' σ' L'->World Z.K H' L'->Step H L H' L'->D.bk σ' H'|.rt E' a=>∀(x:Sl) σ' L' H',x.o=a.1->x.d=a.2->Pn pn σ σ'->Mt E' σ' L'->World Z.K H' (some x::L')->Step H L H' (some x::L')->D.rt x.v H'|.xc E' c=>∀C σ' L' H',Z.mg c=some (.ref C)->Pn pn σ σ'->Mt E' σ' L'->World Z.K H' L'->Step H L H' L'->Z.EX (.ref C) none H'
theorem FlP.step{Z pn D σ σ1 H H1 L L1 r}(k:FlP Z pn D σ H L r)(s:Step H L H1 L1)(p:Pn pn σ σ1):FlP Z pn D σ1 H1 L1 r:=by
 cases r with|nx E'=>exact fun σ' L' H' p' m w s'=>k σ' L' H' (p.trans p') m w (s.trans s')|ct E'=>exact fun σ' L' H' p' m w s'=>k σ' L' H' (p.trans p') m w (s.trans s')|bk E'=>exact fun σ' L' H' p' m w s'=>k σ' L' H' (p.trans p') m w (s.trans s')|rt E' a=>exact λx σ' L' H' e1 e2 p' m w s'=>k x σ' L' H' e1 e2 (p.trans p') m w (s.trans s')|xc E' c=>exact λC σ' L' H' hm p' m w s'=>k C σ' L' H' hm (p.trans p') m w (s.trans s')
theorem FlP.xc{α Z pn D σ H L E' c}(k:FlP Z pn D σ H L (.xc E' c)):Xc Z σ H L (.exc E' c:Res α):=λE1 c1 e C L' H' hm m w s=>by
 injection e with h1 h2;subst h1 h2;exact k C σ L' H' hm Pn.refl m w s
def tS(Z:Fx0)(pn:List Nat)(c:Sm):TS:=λD σ H=>∃E L r,Mt E σ L/\World Z.K H L/\c E=some r/\FlP Z pn D σ H L r
def QS(X:Cx)(Z:Fx0)(pn:List Nat)(c:Sm)(st:Stmt):Prop:=PS X st (tS Z pn c)
def QSs(X:Cx)(Z:Fx0)(pn:List Nat)(c:Sm)(st:List Stmt):Prop:=PSs X st (tS Z pn c)
section
variable {X:Cx}{Z:Fx0}{pn:List Nat}{q qa qb:Bool}{a b c:Ex}{u v:Ts}{A B:Sm}{e ea eb:Expr}{st:Stmt}{ss tt:List Stmt}{pos:Pos}{α:Type}{σ:L2.St}{H:Hp}{L:Ls}{E:En}{D:Ends}
theorem jw2{m}{F:En->α->Option Fl}{r}(h:ofE m F=some r):(∃E1 x,m=some (.ok E1 x)/\F E1 x=some r)\/∃E1 c,m=some (.exc E1 c)/\r=.xc E1 c:=by
 cases m with
 |none=>cases h
 |some q=>
  cases q with|ok E1 x=>exact .inl #[E1,x,rfl,h]|exc E1 c=>exact .inr #[E1,c,rfl,(oq9 h).symm]
theorem WQ{F r G}(m:Mt E σ L)(w:World Z.K H L)(h:ofE (a E) F=some r)(k:FlP Z pn D σ H L r)
  (g:∀E1 s,F E1 s=some r->∀x L1 H1,x.o=s.1->x.d=s.2->Mt E1 σ L1->World Z.K H1 (some x::L1)->Step H L H1 (some x::L1)->(q=true->kX H H1/\∀b∈x.own,H b=none)->G x.v H1):tQ Z q a σ H G:=by
 rcases jw2 h with⟨E1,s,h1,h2⟩|⟨E1,c,h1,rfl⟩
 ·exact#[E,L,_,m,w,h1,(λ_ _ z=>by cases z),λE' s' z x L' H' e1 e2 m' w' st sm=>by
   injection z with z1 z2;subst z1 z2;exact g _ _ h2 x L' H' e1 e2 m' w' st sm]
 ·exact#[E,L,_,m,w,h1,k.xc,λE' s' z=>by cases z]
theorem wx8{F r G}(m:Mt E σ L)(w:World Z.K H L)(h:ofE (u E) F=some r)(k:FlP Z pn D σ H L r)
  (g:∀E1 s,F E1 s=some r->∀L1 H1,Mt E1 σ L1->World Z.K H1 L1->Step H L H1 L1->G s H1):tT Z q u σ H G:=by
 rcases jw2 h with⟨E1,s,h1,h2⟩|⟨E1,c,h1,rfl⟩
 ·exact#[E,L,_,m,w,h1,(λ_ _ z=>by cases z),λE' s' z L' H' m' w' st sm=>by
   injection z with z1 z2;subst z1 z2;exact g _ _ h2 L' H' m' w' st]
 ·exact#[E,L,_,m,w,h1,k.xc,λE' s' z=>by cases z]
theorem kZ:QSs X Z pn qj []:=vka wqf λD σ H ao=>ex7 ao λE L r m w hc k=>by
 cases oq9 hc;exact k σ L H Pn.refl m w Step.refl
theorem j8(h1:QS X Z pn A st)(h2:QSs X Z pn B ss):QSs X Z pn (j7 A B) (st::ss):=vka (vx1 h1 h2) λD σ H ao=>ex7 ao λE L r m w hc k=>by
 unfold j7 at hc;cases ha:A E with
 |none=>rw[ha]at hc;cases hc
 |some f=>
  rw[ha]at hc;cases f with|nx E1=>exact#[E,L,_,m,w,ha,fun σ' L' H' p m' w' s=>#[E1,L',r,m',w',hc,k.step s p]]|ct E1=>cases oq9 hc;exact#[E,L,_,m,w,ha,k]|bk E1=>cases oq9 hc;exact#[E,L,_,m,w,ha,k]|rt E1 x=>cases oq9 hc;exact#[E,L,_,m,w,ha,k]|xc E1 x=>cases oq9 hc;exact#[E,L,_,m,w,ha,k]
def jq(h1:QS X Z pn A st):QSs X Z pn A [st]:=wqe h1
theorem jJ(h:QE X Z q a ea):QS X Z pn (jx a) (.Return (some ea) pos):=JJ (wzc h) λD σ H ao=>ex7 ao λE L r m w hc k=>
 WQ m w hc k λE1 s h1 x L1 H1 e1 e2 m1 w1 st _=>by
  cases oq9 h1;exact k x σ L1 H1 e1 e2 Pn.refl m1 w1 st
theorem q9(hc:QT X Z q u e)(ha:QSs X Z pn A ss)(hb:QSs X Z pn B tt):QS X Z pn (sIf u A B) (.If e ss tt pos):=JJ (xvc hc ha hb) λD σ H ao=>ex7 ao λE L r m w hc k=>
 wx8 m w hc k λE1 s h1 L1 H1 m1 w1 st=>by
  cases s with|true=>rw[Xd rfl]at h1 ⊢;exact#[E1,L1,r,m1,w1,h1,k.step st Pn.refl]|false=>rw[Xg ⋯]at h1 ⊢;exact#[E1,L1,r,m1,w1,h1,k.step st Pn.refl]
theorem qjt{x i s}(m:Mt E σ L)(e1:x.o=s.1)(e2:x.d=s.2):Mt (E.set i (some s)) (σ.set i (some x.v)) (L.set i (some x)):=by
 have:=m.set (x:=x) i;rw[e1,e2]at this;exact this
theorem xv8{i y ce}(hN:X.N.Nodup)(hi:X.N[i]?=some y)(hx:Loc X.env.scope y)(h:QE X Z q a ea)(hp:autoParam (i∉pn) ŕ)(hs:autoParam (swapsWith ea (some (.Name y ce)) pos.line X.env=pure false) Ŕ)(hf:autoParam (X.fn y=true\/X.env.scope.names.lookup y=some .local) Ř):
  QS X Z pn (jw i a) (.Assign [.Name y ce] ea pos):=JJ (wzb hN hi hx h hs hf) λD σ H ao=>ex7 ao λE L r m w hc k=>
 WQ m w hc k λE1 s h1 x L1 H1 e1 e2 m1 w1 st _=>by
  cases oq9 h1;exact k _ _ H1 (Pn.refl.set hp) (qjt m1 e1 e2) w1.set (st.trans Step.set)
theorem wz6{i y ce}(hp:i∉pn)(h:PS X (.Assign [.Name y ce] ea pos) (λD σ H=>tQ Z q a σ H λv H1=>D.nx (σ.set i (some v)) H1)):
  QS X Z pn (jw i a) (.Assign [.Name y ce] ea pos):=JJ h λD σ H ao=>ex7 ao λE L r m w hc k=>
 WQ m w hc k λE1 s h1 x L1 H1 e1 e2 m1 w1 st _=>by
  cases oq9 h1;exact k _ _ H1 (Pn.refl.set hp) (qjt m1 e1 e2) w1.set (st.trans Step.set)
theorem wq1(hp:PassesOwn (model X.prog X.w) X.A X.env X.xe)(hc:QT X Z q u e)(hb:QSs X Z pn B ss):QS X Z pn (sWhile u B) (.While e ss [] pos):=JJ (vx2 hp hc hb) λD σ H ao=>ex7 ao λE L r m w hr k=>by
 obtain⟨n0,hn⟩:=wk7 hr;refine#[λn σ1 H1=>∃E1 L1,Mt E1 σ1 L1/\World Z.K H1 L1/\whN u B n E1=some r/\Step H L H1 L1/\Pn pn σ σ1,#[n0,E,L,m,w,hn,Step.refl,Pn.refl],?_];rintro n σ1 H1 ⟨E1,L1,m1,w1,h1,js,p1⟩;cases n with
 | zero=>cases h1
 | succ n=>
  have k1:=k.step js p1;unfold whN at h1;cases ht:u E1 with
  | none=>rw[ht]at h1;cases h1
  | some f=>
   rw [ht]at h1;cases f with
   | exc E2 c=>
    cases oq9 h1;exact#[E1,L1,_,m1,w1,ht,k1.xc,λE' s' z=>by cases z]
   | ok E2 kk=>
    refine#[E1,L1,_,m1,w1,ht,(λ_ _ z=>by cases z),λE' s' z L' H' m' w' st sm=>?_];injection z with z1 z2;subst z1 z2;cases kk with
    | false=>
     rw[Xg ⋯];cases oq9 h1;exact k1 σ1 L' H' Pn.refl m' w' st
    | true=>
     rw[Xd rfl];dsimp only at h1;refine#[fun σ2 H2=>∃E2 L2,Mt E2 σ2 L2/\World Z.K H2 L2/\whN u B n E2=some r/\Step H L H2 L2/\Pn pn σ σ2,fun σ2 H2 h2=>#[n,by omega,h2],?_];cases hB:B E2 with
     |none=>rw[hB]at h1;cases h1
     |some g=>
      rw[hB]at h1;have k2:=k1.step st Pn.refl;refine#[E2,L',g,m',w',hB,?_];cases g with|nx E3=>exact fun σ3 L3 H3 p3 m3 w3 s3=>#[E3,L3,m3,w3,h1,js.trans (st.trans s3),p1.trans p3]|ct E3=>exact fun σ3 L3 H3 p3 m3 w3 s3=>#[E3,L3,m3,w3,h1,js.trans (st.trans s3),p1.trans p3]|bk E3=>cases oq9 h1;exact k2|rt E3 x=>cases oq9 h1;exact k2|xc E3 c=>cases oq9 h1;exact k2
end
structure Walks (K:Frag)(J:It)(T:List Sl)(ds:List D):Prop where
 no:∀t∈T,t.o=.no
 go:∀i H,(∀t∈T,t.ok K H)->i<ds.length->J.go i H
 stop:∀H,(∀t∈T,t.ok K H)->J.stop ds.length H
 yld:∀i H v H' d,(∀t∈T,t.ok K H)->J.yld i H v H'->ds[i]?=some d->∃z:Sl,z.o=.no/\z.d=d/\z.v=v/\kX H H'/\z.ok K H'/\∀b∈z.as,∃t∈T,b∈t.as
noncomputable def tI(Z:Fx0)(q:Bool)(it:Ev (List D)):TI:=fun σ H R=>∃E L r,Mt E σ L/\World Z.K H L/\it E=some r/\Xc Z σ H L r /\
 ∀E' ds,r=.ok E' ds->∀J T L' H',Mt E' σ L'->World Z.K H' (L'++T.map some)->Step H L H' (L'++T.map some)->ds.length<=sizeLine->(q=true->kX H H')->Walks Z.K J T ds->R J H'
def QI(X:Cx)(Z:Fx0)(q:Bool)(tg:Expr)(it:Ev (List D))(e:Expr):Prop:=PI X tg e (tI Z q it)
def xwc(K:Frag)(H0:Hp)(T:List Sl)(H:Hp):Prop:=(∀t∈T,t.ok K H)/\∀t∈T,Kp H0 H t.as
structure WalksD (K:Frag)(H0:Hp)(J:It)(T:List Sl)(ds:List D):Prop where
 no:∀t∈T,t.o=.no
 go:∀i H,xwc K H0 T H->i<ds.length->J.go i H
 stop:∀H,xwc K H0 T H->J.stop ds.length H
 yld:∀i H v H' d,xwc K H0 T H->J.yld i H v H'->ds[i]?=some d->∃z:Sl,z.o=.no/\z.d=d/\z.v=v/\kX H H'/\z.ok K H'/\∀b∈z.as,∃t∈T,b∈t.as
theorem Walks.D{K H0 J T ds}(h:Walks K J T ds):WalksD K H0 J T ds:=#[h.no,λi H o=>h.go i H o.1,λH o=>h.stop H o.1,λi H v H' d o=>h.yld i H v H' d o.1]
noncomputable def tID(Z:Fx0)(q:Bool)(it:Ev (List D)):TI:=fun σ H R=>∃E L r,Mt E σ L/\World Z.K H L/\it E=some r/\Xc Z σ H L r /\
 ∀E' ds,r=.ok E' ds->∀J T L' H',Mt E' σ L'->World Z.K H' (L'++T.map some)->Step H L H' (L'++T.map some)->ds.length<=sizeLine->(q=true->kX H H')->WalksD Z.K H' J T ds->R J H'
def QID(X:Cx)(Z:Fx0)(q:Bool)(tg:Expr)(it:Ev (List D))(e:Expr):Prop:=PI X tg e (tID Z q it)
theorem QI.D{X Z q tg it e}(h:QI X Z q tg it e):QID X Z q tg it e:=λa8 s σ H R I hz=>h a8 s σ H R I (by
 obtain⟨E,L,r,m,w,e,x,k⟩:=hz;exact#[E,L,r,m,w,e,x,λE' ds z J T L' H' m' w' st hl sm wk=>k E' ds z J T L' H' m' w' st hl sm wk.D])
structure WalksS (K:Frag)(q:Bool)(H0:Hp)(J:It)(T:List Sl)(ds:List D):Prop where
 no:∀t∈T,t.o=.no
 go:∀i H,(∀t∈T,t.ok K H)->(q=true->kX H0 H)->i<ds.length->J.go i H
 stop:∀H,(∀t∈T,t.ok K H)->(q=true->kX H0 H)->J.stop ds.length H
 yld:∀i H v H' d,(∀t∈T,t.ok K H)->(q=true->kX H0 H)->J.yld i H v H'->ds[i]?=some d->∃z:Sl,z.o=.no/\z.d=d/\z.v=v/\kX H H'/\z.ok K H'/\∀b∈z.as,∃t∈T,b∈t.as
theorem wk9{K q H0 J T ds}(h:Walks K J T ds):WalksS K q H0 J T ds:=#[h.no,λi H o _=>h.go i H o,λH o _=>h.stop H o,λi H v H' d o _=>h.yld i H v H' d o]
noncomputable def tIS(Z:Fx0)(q:Bool)(it:Ev (List D)):TI:=fun σ H R=>∃E L r,Mt E σ L/\World Z.K H L/\it E=some r/\Xc Z σ H L r /\
 ∀E' ds,r=.ok E' ds->∀J T L' H',Mt E' σ L'->World Z.K H' (L'++T.map some)->Step H L H' (L'++T.map some)->ds.length<=sizeLine->(q=true->kX H H')->WalksS Z.K q H J T ds->R J H'
def QIS(X:Cx)(Z:Fx0)(q:Bool)(tg:Expr)(it:Ev (List D))(e:Expr):Prop:=PI X tg e (tIS Z q it)
theorem xws{X Z q tg it e}(h:QI X Z q tg it e):QIS X Z q tg it e:=λa8 s σ H R I hz=>h a8 s σ H R I (by
 obtain⟨E,L,r,m,w,e,x,k⟩:=hz;exact#[E,L,r,m,w,e,x,λE' ds z J T L' H' m' w' st hl sm wk=>k E' ds z J T L' H' m' w' st hl sm (wk9 wk)])
def tG(Z:Fx0)(pn:List Nat)(tg:Tg):TG:=λv σ H Q=>∃(E:En) (L:Ls) (z:Sl) (E':En),Mt E σ L/\World Z.K H (some z::L)/\z.o=.no/\z.v=v/\tg.put z.d E=some E' /\
 ∀ σ' L',Pn pn σ σ'->Mt E' σ' L'->World Z.K H L'->Step H (some z::L) H L'->Q σ' H
def QG(X:Cx)(Z:Fx0)(pn:List Nat)(tg:Tg)(e:Expr):Prop:=PG X e (tG Z pn tg)
section
variable {X:Cx}{Z:Fx0}{pn:List Nat}{e:Expr}{σ:L2.St}{H:Hp}{L:Ls}{E:En}
theorem wj4{t t'}(h:PG X e t)(w:∀v σ H Q,t' v σ H Q->t v σ H Q):PG X e t':=λa8 s σ H x v Q I r q=>h a8 s σ H x v Q I r (w x σ H Q q)
theorem YJ{i}(h:PG X e (vqw i))(hp:autoParam (i∉pn) ŕ):QG X Z pn (.n i) e:=wj4 h λv σ H Q #[E,L,z,E',m,w,ho,hv,cw,k]=>by
 cases oq9 cw;rw[<-hv];exact k _ _ (Pn.refl.set hp) (qjt m ho rfl) w.set Step.set
def gNs:List Nat->TGs
 |[]=>xx5|i::is=>xk3 (vqw i) (gNs is)
theorem vqv{Q M σ0}:∀{is ds xs bs E L σ E'},Mt E σ L->World Z.K H L->RepA Z.K H true ds xs bs->(∀b∈bs,b∉jv L)->(∀b∈bs,b∈kw M)->Step H M H L->Pn pn σ0 σ ->
  setAll is ds E=some E'->(∀i∈is,i∉pn)->(∀ σ' L',Pn pn σ0 σ'->Mt E' σ' L'->World Z.K H L'->Step H M H L'->Q σ' H)->gNs is xs σ H Q
 | [],[],xs,bs,E,L,σ,E',m,w,r,_,_,st,p,e,_,k=>by
  cases oq9 e;exact#[r.1,k σ L p m w st]
 | [],_::_,_,_,_,_,_,_,_,_,_,_,_,_,_,e,_,_=>by cases e| _::_,[],_,_,_,_,_,_,_,_,_,_,_,_,_,e,_,_=>by cases e
 | i::is,d::ds,xs,bs,E,L,σ,E',m,w,r,hb,hf,st,p,e,hi,k=>by
  obtain⟨x,rr,cs,es,rfl,rfl,h1,h2⟩:=r;have s1:Step H M H (L.set i (some #[.no,d,x,cs])):=by
   refine#[λ_ _ h _=>h,λa ha=>?_,λa ha=>?_]
   ·rcases jkl ha with z|z
    ·exact nomatch z
    ·exact st.own a z
   ·rcases jkw ha with z|z
    ·exact .inl (hf a (ll9 _ z))
    ·exact st.frz a z
  exact#[x,rr,rfl,vqv (qjt (x:=#[.no,d,x,cs]) m rfl rfl) (w.consNo (x:=#[.no,d,x,cs]) h1 rfl λb gr=>hb b (ll9 _ gr)).set h2 (λb gr ho=>by
   rcases jkl ho with z|z
   ·exact nomatch z
   ·exact hb b (lr9 _ gr) z) (λb gr=>hf b (lr9 _ gr)) s1 (p.set (hi i X6)) e (λj hj=>hi j (lc9 _ hj)) k]
theorem kwg:∀{is ds E E'},setAll is ds E=some E'->is.length=ds.length
 |[],[],_,_,_=>rfl|_::_,[],_,_,e=>by cases e|i::is,d::ds,E,E',e=>by rw[Xv,Xv,kwg (E:=E.set i _) e]
def xvw(K:Frag)(n:Nat)(t:TGs):TG:=λv σ H Q=>∃a xs,v=.ref a/\(SqT K H a xs\/SqL K H a xs)/\xs.length=n/\t xs σ H Q
section
variable {prog:Program}{w:PySem.World}{A:Around}{E':VP9}
theorem qke{it t items}(ck:t≠it):∀n i (s) (Q),s.heap.IsListIter it t i->s.heap.IsList t items->i+n<=items.size ->
  (∀h',h'.IsListIter it t (i+n)->Heap.SameBut it s.heap h'->Q ((items.toList.drop i).take n) {s with heap:=h' })->wpAny (model prog w) A (draw (.ref it) n) Q E' s
 | 0,i,s,Q,ia,_,_,hQ=>by
  exact X4 (by simpa using hQ s.heap ia (Heap.SameBut.refl ..))
 | n+1,i,s,Q,ia,ht,i8,hQ=>by
  have c8:i<items.size:=by omega
  refine X0 (wpAny_pyNext_list_item ia ht (x:=items[i]) (by simp) λh₁ ph sg=>?_);have ht₁:h₁.IsList t items:=by
   obtain⟨o,ho,r⟩:=ht;exact#[o,(sg.2 t ck).trans ho,r]
  refine X0 (Y9 (qke ck n _ _ _ ph ht₁ (by omega) λh₂ hit₂ hs₂=>X4 ?_));have hd:items.toList.drop i=items[i]::items.toList.drop (i+1):=by simp[List.drop_eq_getElem_cons,c8]
  have:=hQ h₂ (by grind) (sg.trans hs₂)
  simp_all
theorem kkq{s t items Q}(hh:A.handled=none)(ht:s.heap.IsList t items)
  (hQ:∀h',Heap.ExtBut s.heap.objs.size s.heap h'->Q items.toList {s with heap:=h' }):wpAny (model prog w) A (unpackItems (.ref t) items.size none) Q E' s:=by
 have c8:t≠s.heap.objs.size:=by obtain⟨o,ho,_⟩:=ht;exact Xi (Xe ho)
 refine X0 ?_;unfold notIterableAtAll;refine X0 (Zf ht.typeIs slot_list_iter.lookup ?_);refine X4 ?_;refine X0 (Y9 (wpAny_pyIter_list ht ?_));have ht0:∀o,(s.heap.push o).IsList t items:=λo=>by
  obtain⟨ob,ho,r⟩:=ht;exact#[ob,X5 _ ho,r]
 refine X0 (Y9 (qke c8 items.size 0 _ _ #[_,X7 _ rfl,rfl,rfl] (ht0 _) (by simp) λh₁ ph sg=>?_));have pq:List.take items.size (List.drop 0 items.toList)=items.toList:=by
  rw[List.drop_zero];exact List.take_of_length_le (by simp)
 rw[pq];rw[Xg (by simp)];have ht₁:h₁.IsList t items:=by
  obtain⟨o,ho,r⟩:=ht0 _;exact#[o,(sg.2 t c8).trans ho,r]
 refine X0 (Y9 (wpAny_pyNext_list_end hh ph ht₁ (by simp) λh₂ he₂=>?_));exact X4 (hQ h₂ λb o hb e=>he₂ b o hb (sg.extBut b o hb (X5 _ e)))
theorem kkb{s env f7 x1 pos t items Q}(hh:A.handled=none)(ht:s.heap.IsList t items)
  (hn:(assignEach f7 env).length=items.size) (ud:(assignEach f7 env).findIdx? (·.1)=none)
  (h:∀h',Heap.ExtBut s.heap.objs.size s.heap h'->wpAny (model prog w) A (assignInOrder ((assignEach f7 env).map (·.2)) items.toList) Q E' {s with heap:=h' }):
  wpAny (model prog w) A (assign (.Tuple f7 x1 pos) env (.ref t)) Q E' s:=by
 refine X0 (wpAny_standAt ?_);unfold unpack;rw[hn,ud];exact X0 (Y9 (kkq hh ht h))
end
theorem V5 K {es k t n pos}(h:PGs X es t)(hc:autoParam (X.calm=true) Ŕ)(hK:autoParam (X.K=K) Ŕ)
  (hn:autoParam ((assignEach es X.env).length=n) Ŕ) (cn:autoParam ((assignEach es X.env).findIdx? (·.1)=none) Ŕ):PG X (.Tuple es k pos) (xvw K n t):=by
 subst hK;rintro a8 s σ H v u Q I r ⟨a,xs,e1,hq,hl,hw⟩;subst e1;cases r;rcases hq with hq|hq
 ·obtain⟨af,rv,ht,hz⟩:=I.tuple hq;refine assign_Tuple_tuple (I.ok.hd hc) ht (by simp[hn,<-hl,rv.length]) cn λh' hx=>?_
  have I1:L2.Inv X a8 σ H {s with heap:=h' }:=I.kept (t':=s.toks) λb o e=>hx b o (Xi (Xe e)) e
  exact h a8 _ σ H xs _ Q I1 (by simp_all) hw
 ·obtain⟨af,rv,ht,hz⟩:=I.list hq;refine kkb (I.ok.hd hc) ht.isList (by simp[hn,<-hl,rv.length]) cn λh' hx=>?_
  have I1:L2.Inv X a8 σ H {s with heap:=h' }:=I.kept (t':=s.toks) λb o e=>hx b o (Xi (Xe e)) e
  exact h a8 _ σ H xs _ Q I1 (by simpa using rv) hw
theorem Vj{is}(h:PG X e (xvw Z.K is.length (gNs is)))(hp:autoParam (∀i∈is,i∉pn) ŕ):QG X Z pn (.t is) e:=wj4 h λv σ H Q #[E,L,z,E',m,w,ho,hv,cw,k]=>by
 have fin:∀ds,_->setAll is ds E=some E'->xvw Z.K is.length (gNs is) v σ H Q:=λds hd cw=>by
  obtain⟨a,xs,bs,e1,q1,r,h1,h2⟩:=items w.head hd;rw[ho]at r;refine#[a,xs,hv.symm.trans e1,?_,by rw[kwg cw,r.len],vqv m w.tail r (λb hb=>w.apart b (h1 b hb)) (λb hb=>?_) Step.drop Pn.refl cw hp k]
  ·rcases q1 with⟨_,z'⟩|⟨_,z'⟩
   ·exact .inr z'.sq
   ·exact .inl z'
  ·rw[Jz,qk8 ho];exact ll9 _ (h1 b hb)
 cases hd:z.d with|tup ds=>rw[hd]at cw;exact fin ds (.inr hd) cw|lst ds=>rw[hd]at cw;exact fin ds (.inl hd) cw|_=>rw[hd]at cw;cases cw
theorem vk3{is:List Nat}{q:Bool}{c:Ex}{ea tg:Expr}{pos:Pos}(h:QE X Z q c ea)(hg:QG X Z pn (.t is) tg)(hs:autoParam (swapsWithSole [tg] ea pos.line X.env=pure false) Ŕ)(hw:autoParam (swappedStores [tg] ea X.env=pure none) Ŕ)(h1:autoParam ((assignEach [tg] X.env).map (·.2)=[assign tg X.env]) Ŕ):
  QS X Z pn (Zq is c) (.Assign [tg] ea pos):=JJ (wj0 h hg hs hw h1) λD σ H ao=>ex7 ao λE L r m w hc k=>
 WQ m w (show ofE (c E) _=some r from hc) k λE1 s h1 x L1 H1 e1 e2 m1 w1 st _=>by
  cases hp:Tg.put (.t is) s.2 E1 with
  |none=>rw[hp]at h1;cases h1
  |some E2=>
   rw[hp]at h1;cases oq9 h1;have w2:World Z.K H1 (some x.let::L1):=w1.tail.consNo (K4 w1.head) rfl λb hb=>w1.apart b hb
   have s2:Step H L H1 (some x.let::L1):=Jw (x:=x.let) (st.trans Step.drop) (kx6 (x:=x) st) rfl;exact#[E1,L1,x.let,E2,m1,w2,rfl,rfl,by rw[show x.let.d=s.2 from e2];exact hp,fun σ' L' p m' w' s'=>k σ' L' H1 p m' w' (s2.trans s')]
end
section
variable {X:Cx}{Z:Fx0}{pn:List Nat}{q:Bool}{tg iter:Expr}{it:Ev (List D)}{t:Tg}{B:Sm}{ss:List Stmt}{pos:Pos}{σ:L2.St}{H:Hp}{L:Ls}{E:En}
theorem kwn{K}{T:List Sl}{H1 H2 L1 z}(w:World K H1 (L1++T.map some))(hT:∀t∈T,t.o=.no)(sm:kX H1 H2)(ok:z.ok K H2)(ho:z.o=.no)(hz:∀b∈z.as,∃t∈T,b∈t.as):
  World K H2 ((some z::L1)++T.map some)/\Step H1 (L1++T.map some) H2 ((some z::L1)++T.map some):=by
 have w2:World K H2 _:=#[λx hx=>RepO.kp (w.ok x hx) (Kp.of_same sm),w.nd,w.ds];have hf:∀b∈z.as,b∈kw (L1++T.map some):=λb hb=>by
  obtain⟨t,ht,hbt⟩:=hz b hb;rw[qZ];exact lr9 _ (mem_frozen.mpr #[t,Xq ht,by rw[qk8 (hT t ht)];exact hbt])
 refine#[w2.consNo ok ho λb hb hL=>w2.ds b hL (hf b hb),λa ob h _=>sm a ob h,λa ha=>?_,λa ha=>?_]
 ·rw[List.cons_append,v8,vkn ho]at ha;exact .inl ha
 ·rw[List.cons_append,Jz,qk8 ho]at ha;rcases aA ha with q|q
  ·exact .inl (hf a q)
  ·exact .inl q
theorem stay{K T L1 L2 H1 H2}(w:World K H1 (L1++T))(s:Step H1 L1 H2 L2)(w2:World K H2 L2):World K H2 (L2++T)/\Step H1 (L1++T) H2 (L2++T):=#[s.frame w w2 w.left,s.frm]
theorem Step.dropT{T H1 L1}:Step H1 (L1++T) H1 L1:=#[λ_ _ h _=>h,λa ha=>.inl (by rw[k9];exact ll9 _ ha),λa ha=>.inl (by rw[qZ];exact ll9 _ ha)]
theorem Kp.trans{H H1 H2 as}(a:Kp H H1 as)(b:Kp H1 H2 as):Kp H H2 as:=#[λc xs e=>b.1 c xs (a.1 c xs e),λc o u e=>b.2.1 c o u (a.2.1 c o u e),λc hc ob e=>b.2.2 c hc ob (a.2.2 c hc ob e)]
theorem qw3{K H2 H3 L2 L3}{T:List Sl}(w:World K H2 (L2++T.map some))(hT:∀t∈T,t.o=.no)(s:Step H2 L2 H3 L3){H0}(h:∀t∈T,Kp H0 H2 t.as):∀t∈T,Kp H0 H3 t.as:=λt ht=>
 (h t ht).trans (s.kp w.left λb hb z=>w.ds b (by rw[k9];exact ll9 _ z) (by
  rw[qZ];exact lr9 _ (mem_frozen.mpr #[t,Xq ht,by rw[qk8 (hT t ht)];exact hb])))
theorem wz2(hp:PassesOwn (model X.prog X.w) X.A X.env X.xe)(hc:X.calm=true)(hi:QID X Z q tg it iter)(hg:QG X Z pn t tg)(hb:QSs X Z pn B ss)(hs:autoParam (∀x,foldedSetIterable iter X.env x=pure x) Ŗ):QS X Z pn (vZ it t B) (.For tg iter ss [] pos):=JJ (wzd hp hc hi hg hb hs) λD σ H ao=>ex7 ao λE L r m w hr k=>by
 have hr:ofE (it E) (λE ds=>Qk t B ds E)=some r:=hr;rcases jw2 hr with⟨E1,ds,h1,h2⟩|⟨E1,c,h1,rfl⟩
 rotate_left
 ·exact#[E,L,_,m,w,h1,k.xc,λE' s' z=>by cases z]
 refine#[E,L,_,m,w,h1,(λ_ _ z=>by cases z),λE' ds' z J T L' H' m' w' st hz _ wk=>?_];injection z with z1 z2;subst z1 z2;have lw:∀{H2:Hp} {L2:Ls},World Z.K H2 (L2++T.map some)->∀t∈T,t.ok Z.K H2:=λw2 t ht=>w2.ok t (lr9 _ (Xq ht))
 refine#[λi n σ1 H1=>∃E1 L1,Mt E1 σ1 L1/\World Z.K H1 (L1++T.map some)/\Step H L H1 (L1++T.map some)/\Pn pn σ σ1/\Qk t B (ds.drop i) E1=some r/\i<=ds.length/\n=ds.length - i/\∀t∈T,Kp H' H1 t.as,#[_,E1,L',m',w',st,Pn.refl,h2,Yi _,rfl,λ_ _=>Kp.of_same zK],?_];rintro i n σ1 H1 ⟨E1,L1,m1,w1,js,p1,f1,hi,rfl,a8⟩
 by_cases c8:i<ds.length
 ·have hd:ds.drop i=ds[i]::ds.drop (i+1):=List.drop_eq_getElem_cons c8;rw [hd]at f1;unfold Qk at f1;cases cw:t.put ds[i] E1 with
  | none=>rw[cw]at f1;cases f1
  | some E2=>
   rw[cw]at f1;dsimp only at f1;refine .inr #[wk.go i H1 #[lw w1,a8] c8,fun σ2 H2=>∃E2 L2,Mt E2 σ2 L2/\World Z.K H2 (L2++T.map some)/\Step H L H2 (L2++T.map some)/\Pn pn σ σ2/\Qk t B (ds.drop (i+1)) E2=some r/\∀t∈T,Kp H' H2 t.as,fun σ2 H2 ⟨E2,L2,a1,a2,a3,a4,a5,a6⟩=>#[ds.length - (i+1),by omega,E2,L2,a1,a2,a3,a4,a5,c8,rfl,a6],λv H2 hy=>?_];obtain⟨z,zo,zd,zv,sm,ug,zas⟩:=wk.yld i H1 v H2 ds[i] #[lw w1,a8] hy (X1 c8);obtain⟨wz,sz⟩:=kwn w1 wk.no sm ug zo zas;refine#[E1,L1,z,E2,m1,wz.left,zo,zv,by rw[zd];exact cw,fun σ2 L2 p2 m2 w2 bu=>?_];obtain⟨w3,dj⟩:=stay wz bu w2;have jg:Step H L H2 (L2++T.map some):=js.trans (sz.trans dj);have nw:∀t∈T,Kp H' H2 t.as:=λt ht=>(a8 t ht).trans (Kp.of_same sm)
   cases hB:B E2 with
   | none=>rw[hB]at f1;cases f1
   | some g=>
    rw[hB]at f1;refine#[E2,L2,g,m2,w2,hB,?_];have fin:∀{g:Fl},g=r->(∀ σ',D.nx σ'=D.nx σ')->FlP Z pn D σ2 H2 (L2++T.map some) g:=λe _=>e▸k.step jg (p1.trans p2)
    cases g with
    |nx E3=>
     intro σ3 L3 H3 p3 m3 w4 s3;obtain⟨w5,s5⟩:=stay w3 s3 w4;exact#[E3,L3,m3,w5,jg.trans s5,(p1.trans p2).trans p3,f1,qw3 w3 wk.no s3 nw]
    |ct E3=>
     intro σ3 L3 H3 p3 m3 w4 s3;obtain⟨w5,s5⟩:=stay w3 s3 w4;exact#[E3,L3,m3,w5,jg.trans s5,(p1.trans p2).trans p3,f1,qw3 w3 wk.no s3 nw]
    |bk E3=>
     have e:=oq9 f1;subst e;intro σ3 L3 H3 p3 m3 w4 s3;exact k σ3 L3 H3 ((p1.trans p2).trans p3) m3 w4 ((jg.trans Step.dropT).trans s3)
    |rt E3 x=>
     have e:=oq9 f1;subst e;intro y σ3 L3 H3 e1 e2 p3 m3 w4 s3;exact k y σ3 L3 H3 e1 e2 ((p1.trans p2).trans p3) m3 w4 ((jg.trans Step.dropT).trans s3)
    |xc E3 c=>
     have e:=oq9 f1;subst e;intro C σ3 L3 H3 hm p3 m3 w4 s3;exact k C σ3 L3 H3 hm ((p1.trans p2).trans p3) m3 w4 ((jg.trans Step.dropT).trans s3)
 ·have e:i=ds.length:=by omega
  subst e;rw[List.drop_length]at f1;cases oq9 f1;exact .inl #[wk.stop H1 #[lw w1,a8],k σ1 L1 H1 p1 m1 w1.left (js.trans Step.dropT)]
theorem xv6(hp:PassesOwn (model X.prog X.w) X.A X.env X.xe)(hc:X.calm=true)(hi:QI X Z q tg it iter)(hg:QG X Z pn t tg)(hb:QSs X Z pn B ss)(hs:autoParam (∀x,foldedSetIterable iter X.env x=pure x) Ŗ):QS X Z pn (vZ it t B) (.For tg iter ss [] pos):=wz2 hp hc hi.D hg hb hs
end
mutual
noncomputable def qW(h:Heap):D->Value->Prop
 |.non,u=>u=.none|.bl b,u=>u=.bool b|.int i,u=>∃t,u=.int i t|.str z,u=>∃t,u=.str z t|.tup ds,u=>∃a us,u=.ref a/\h.IsTuple a us.toArray/\CReps h ds us|.lst ds,u=>∃a us,u=.ref a/\h.IsList a us.toArray/\CReps h ds us|.dct _,_=>False|.obj _ _,_=>False
noncomputable def CReps(h:Heap):List D->List Value->Prop
 |[],us=>us=[]|d::ds,us=>∃u r,us=u::r/\qW h d u/\CReps h ds r
end
theorem qwr{n k}:D.flat n (.dct k)=false:=by cases n<;>simp[D.flat]
theorem qwq{n c k}:D.flat n (.obj c k)=false:=by cases n<;>simp[D.flat]
section
variable {X:Cx}{a8:LA9}{σ:L2.St}{H:Hp}{s:Shared}
mutual
theorem VZ(I:Inv X a8 σ H s){g}:∀{n d v as u},RepL X.K H g d v as->d.flat n=true->RelV v u->qW s.heap d u
 | _,.non,_,_,_,h,_,r=>by
  unfold RepL at h;rw[h.1]at r;exact r
 | _,.bl _,_,_,_,h,_,r=>by
  unfold RepL at h;rw[h.1]at r;exact r
 | _,.int _,_,_,_,h,_,r=>by
  unfold RepL at h;rw[h.1]at r;exact r
 | _,.str _,_,_,_,h,_,r=>by
  unfold RepL at h;rw[h.1]at r;unfold qW;exact r
 | 0,.tup ds,_,_,_,h,f,r=>by cases f
 | n+1,.tup ds,_,_,_,h,f,r=>by
  unfold D.flat at f;obtain⟨a,xs,rfl,q,ra⟩:=h;cases r;obtain⟨af,rv,p,_⟩:=I.tuple q;exact#[a,af,rfl,p,creps_of I ra f rv]
 | 0,.lst ds,_,_,_,h,f,r=>by unfold D.flat at f;cases f
 | n+1,.lst ds,_,_,_,h,f,r=>by
  unfold D.flat at f;obtain⟨a,xs,bs,rfl,ra,q⟩:=h;cases r;have q':SqL X.K H a xs:=by
   rcases q with⟨q,_⟩|⟨_,q,_⟩
   ·exact SqL.of q
   ·exact(LsR.of q).sq
  obtain⟨af,rv,p,_⟩:=I.list q';exact#[a,af,rfl,p.isList,creps_of I ra f rv]
 |_,.dct _,_,_,_,h,f,r=>by rw[qwr]at f;cases f|_,.obj _ _,_,_,_,h,f,r=>by rw[qwq]at f;cases f
theorem creps_of(I:Inv X a8 σ H s){g}:∀{n ds xs as us},RepA X.K H g ds xs as->D.flats n ds=true->Vals xs us->CReps s.heap ds us
 | _,[],_,_,_,h,_,r=>by
  rw[h.1]at r;cases r;unfold CReps;rfl
 | n,d::ds,_,_,_,h,f,r=>by
  unfold D.flats at f;rw[Bool.and_eq_true]at f;obtain⟨x,rr,bs,cs,rfl,rfl,h1,h2⟩:=h;cases r with
  |cons r1 r2=>
   exact#[_,_,rfl,VZ I h1 f.1 r1,creps_of I h2 f.2 r2]
end
end
theorem CReps.len{h}:∀{ds us},CReps h ds us->ds.length=us.length
 |[],_,r=>by rw[r];rfl
 |d::ds,_,r=>by
  obtain⟨u,rr,rfl,_,h2⟩:=r;simp[CReps.len h2]
theorem CReps.get{h}:∀{ds us} {j:Nat} {d},CReps h ds us->ds[j]?=some d->∃u,us[j]?=some u/\qW h d u
 | [],_,_,_,_,e=>by simp_all
 | d::ds,_,j,d',r,e=>by
  obtain⟨u,rr,rfl,h1,h2⟩:=r;cases j with
  |zero=>simp_all
  |succ j=>
   obtain _:=CReps.get h2 (by simpa using e)
   simp_all
theorem wkc{h:Heap}{a x y}(p:h.IsTuple a x)(q:h.IsTuple a y):x=y:=by
 obtain⟨o,h1,_,n,h2⟩:=p;obtain⟨o',h3,_,n',h4⟩:=q
 grind
theorem wv7{h:Heap}{a x y}(p:h.IsList a x)(q:h.IsList a y):x=y:=by
 obtain⟨o,h1,_,n,h2⟩:=p;obtain⟨o',h3,_,n',h4⟩:=q
 grind
theorem vq2{h:Heap}{a x y}(p:h.IsList a x)(q:h.IsTuple a y):False:=by
 obtain⟨o,h1,h2,_⟩:=p;obtain⟨o',h3,h4,_⟩:=q
 grind
inductive Cv (h:Heap):D->Value->Prop
 |non:Cv h .non .none
 |bl (b:Bool):Cv h (.bl b) (.bool b)
 |int (i:Int) (t:_):Cv h (.int i) (.int i t)
 |str (z:Str) (t:_):Cv h (.str z) (.str z t)
 |lst {ds:List D} {a:Addr} {us:List Value} (p:h.IsList a us.toArray) (q:CReps h ds us):Cv h (.lst ds) (.ref a)
 |tup {ds:List D} {a:Addr} {us:List Value} (p:h.IsTuple a us.toArray) (q:CReps h ds us):Cv h (.tup ds) (.ref a)
theorem crv{h d u}(r:qW h d u):Cv h d u:=by
 cases d<;>unfold qW at r
 all_goals first|exact r.elim|(subst r;constructor)|(obtain⟨_,rfl⟩:=r;constructor)|(obtain⟨_,_,rfl,p,q⟩:=r;first|exact .lst p q|exact .tup p q)
mutual
theorem kq8{h d d' u}(a:qW h d u)(b:qW h d' u):d=d':=by
 cases d<;>cases crv a<;>cases crv b<;>try rfl
 ·exact(vq2 ‹_› ‹_›).elim
 ·rename_i p r _ _ r' p';cases Array.mk.inj (wkc p p');rw[creps_inj r r']
 ·rename_i p r _ _ r' p';cases Array.mk.inj (wv7 p p');rw[creps_inj r r']
 ·exact(vq2 ‹_› ‹_›).elim
theorem creps_inj{h}:∀{ds ds' us},CReps h ds us->CReps h ds' us->ds=ds'
 | [],ds',us,a,b=>by
  unfold CReps at a;subst a;cases ds' with|nil=>rfl|cons d ds=>unfold CReps at b;obtain⟨_,_,e,_⟩:=b;cases e
 | d::ds,ds',us,a,b=>by
  unfold CReps at a;obtain⟨u,r,rfl,h1,h2⟩:=a;cases ds' with
  |nil=>unfold CReps at b;cases b
  |cons d' ds'=>
   obtain⟨u',r',e,h3,h4⟩:=b;cases e;rw[kq8 h1 h3,creps_inj h2 h4]
end
mutual
theorem ZK:∀{n d},d.flat n=true->peq d d=true
 |_,.non,_=>by rfl|_,.bl b,_=>by unfold peq;simp|_,.int b,_=>by unfold peq;simp|_,.str b,_=>by unfold peq;simp|n+1,.tup ds,f=>peqs_refl f|0,.lst ds,f=>by unfold D.flat at f;cases f|n+1,.lst ds,f=>peqs_refl f|_,.dct _,f=>by rw[qwr]at f;cases f|_,.obj _ _,f=>by rw[qwq]at f;cases f
theorem peqs_refl:∀{n d},D.flats n d=true->peqs d d=true
 |_,[],_=>by rfl
 |n,d::ds,f=>by
  unfold D.flats at f;rw[Bool.and_eq_true]at f;unfold peqs;rw[ZK f.1,peqs_refl f.2];rfl
end
theorem kjf:∀{n ds} {j:Nat} {d},D.flats n ds=true->ds[j]?=some d->d.flat n=true
 |_,[],_,_,_,e=>by simp_all
 |n,d::ds,j,d',f,e=>by
  unfold D.flats at f;rw[Bool.and_eq_true]at f;cases j with|zero=>simp_all|succ j=>exact kjf f.2 (by simpa using e)
def pAt(as bs:List D)(j:Nat):Bool:=match as[j]?,bs[j]? with
 |some a,some b=>peq a b|_,_=>true
theorem jxs:∀as bs,as.length=bs.length->(List.range as.length).all (pAt as bs)=peqs as bs
 |[],[],_=>by rfl
 |a::as,b::bs,h=>by
  rw[Xv,List.range_succ_eq_map,List.all_cons,List.all_map];unfold peqs;rw[<-(jxs as bs (by simpa using h))];rfl
 |_::_,[],h=>by simp_all
theorem kq2:∀as bs,as.length≠bs.length->peqs as bs=false
 |[],[],h=>by simp_all
 |a::as,b::bs,h=>by
  unfold peqs;rw[kq2 as bs (by simpa using h),Bool.and_false]
 |[],_::_,_=>by rfl|_::_,[],_=>by unfold peqs;rfl
theorem qvs(as bs):((List.range (min as.length bs.length)).all (pAt as bs)&&as.length==bs.length)=peqs as bs:=by
 by_cases e:as.length=bs.length
 ·rw[<-e,Nat.min_self,jxs as bs e];simp[e]
 ·rw[kq2 as bs e]
  grind
section
variable {s:Shared}
theorem qqg{as bs us ws A}(ra:CReps s.heap as us)(rb:CReps s.heap bs ws)
  (h:∀(j:Nat) (d d') (u w),as[j]?=some d->bs[j]?=some d'->qW s.heap d u->qW s.heap d' w->SeqAt.EqAt A s u w (peq d d')):
  ∀j h1 (h2:j<ws.toArray.size),SeqAt.EqAt A s us.toArray[j] ws.toArray[j] (pAt as bs j):=λj h1 h2=>by
 have l1:=ra.len;have l2:=rb.len;simp at h1 h2;have ha:j<as.length:=⋯
 have hb:j<bs.length:=⋯
 obtain⟨u,eu,ru⟩:=ra.get (X1 ha);obtain⟨w,ew,lp⟩:=rb.get (X1 hb);have e1:us.toArray[j]=u:=by
  simp_all
 have e2:ws.toArray[j]=w:=by
  simp_all
 have e3:pAt as bs j=peq as[j] bs[j]:=by
  unfold pAt;rw[X1 ha,X1 hb]
 rw[e1,e2,e3];exact h j _ _ u w (X1 ha) (X1 hb) ru lp
theorem wxi{A d d' u w}(hu:A.units<cLine)(r:qW s.heap d u)(r':qW s.heap d' w)
  (el:∀as bs (us ws),(d=.lst as\/d=.tup as)->(d'=.lst bs\/d'=.tup bs)->CReps s.heap as us->CReps s.heap bs ws->∀j (h1) (h2:j<ws.toArray.size),SeqAt.EqAt A.in1 s us.toArray[j] ws.toArray[j] (pAt as bs j)):
  SeqAt.RcAt A s u w (peq d d'):=by
 cases crv r<;>cases crv r'<;>unfold peq
 ·exact SeqAt.RcAt.none_none
 ·exact SeqAt.RcAt.none_bool _
 ·exact SeqAt.RcAt.none_int _ _
 ·exact SeqAt.RcAt.none_str _ _
 ·exact SeqAt.RcAt.none_list ‹_› hu
 ·exact SeqAt.RcAt.none_tuple ‹_› hu
 ·exact SeqAt.RcAt.bool_none _
 ·exact SeqAt.RcAt.bool_bool _ _
 ·exact SeqAt.RcAt.bool_int _ _ _
 ·exact SeqAt.RcAt.bool_str _ _ _
 ·exact SeqAt.RcAt.bool_list _ ‹_› hu
 ·exact SeqAt.RcAt.bool_tuple _ ‹_› hu
 ·exact SeqAt.RcAt.int_none _ _
 ·exact SeqAt.RcAt.int_bool _ _ _
 ·exact SeqAt.RcAt.int_int _ _ _ _
 ·exact SeqAt.RcAt.int_str _ _ _ _
 ·exact SeqAt.RcAt.int_list _ _ ‹_› hu
 ·exact SeqAt.RcAt.int_tuple _ _ ‹_› hu
 ·exact SeqAt.RcAt.str_none _ _
 ·exact SeqAt.RcAt.str_bool _ _ _
 ·exact SeqAt.RcAt.str_int _ _ _ _
 ·exact SeqAt.RcAt.str_str _ _ _ _
 ·exact SeqAt.RcAt.str_list _ _ ‹_› hu
 ·exact SeqAt.RcAt.str_tuple _ _ ‹_› hu
 ·exact SeqAt.RcAt.list_none ‹_› hu
 ·exact SeqAt.RcAt.list_bool _ ‹_› hu
 ·exact SeqAt.RcAt.list_int _ _ ‹_› hu
 ·exact SeqAt.RcAt.list_str _ _ ‹_› hu
 ·rename_i as a us p ra bs b ws p' rb;have l1:=ra.len;have l2:=rb.len
  by_cases hl:as.length=bs.length
  ·rw[<-jxs as bs hl];have z:=SeqAt.RcAt.lists (A:=A) (s:=s) (e:=pAt as bs) p p' (by simp only[Xa];lia) hu (el as bs us ws (.inl rfl) (.inl rfl) ra rb);rw[Xa,<-l1]at z;exact z
  ·rw[kq2 as bs hl];exact SeqAt.RcAt.lists_lengths p p' (by simp only[Xa,bne_iff_ne];lia) hu
 ·exact SeqAt.RcAt.list_tuple ‹_› ‹_› hu
 ·exact SeqAt.RcAt.tuple_none ‹_› hu
 ·exact SeqAt.RcAt.tuple_bool _ ‹_› hu
 ·exact SeqAt.RcAt.tuple_int _ _ ‹_› hu
 ·exact SeqAt.RcAt.tuple_str _ _ ‹_› hu
 ·exact SeqAt.RcAt.tuple_list ‹_› ‹_› hu
 ·rename_i as a us p ra bs b ws p' rb;rw[<-qvs as bs];have z:=SeqAt.RcAt.tuples (A:=A) (s:=s) (e:=pAt as bs) p p' hu (el as bs us ws (.inr rfl) (.inr rfl) ra rb);rw[Xa,Xa,<-ra.len,<-rb.len]at z;exact z
theorem xqw{A d d' u w}(hu:A.units<cLine)(r:qW s.heap d u)(r':qW s.heap d' w)
  (el:∀as bs (us ws),(d=.lst as\/d=.tup as)->(d'=.lst bs\/d'=.tup bs)->CReps s.heap as us->CReps s.heap bs ws->∀j (h1) (h2:j<ws.toArray.size),SeqAt.EqAt A.in1 s us.toArray[j] ws.toArray[j] (pAt as bs j)):
  SeqAt.RcNeAt A s u w (!peq d d'):=by
 cases crv r<;>cases crv r'<;>unfold peq
 ·exact SeqAt.RcNeAt.none_none
 ·exact SeqAt.RcNeAt.none_bool _
 ·exact SeqAt.RcNeAt.none_int _ _
 ·exact SeqAt.RcNeAt.none_str _ _
 ·exact SeqAt.RcNeAt.none_list ‹_› hu
 ·exact SeqAt.RcNeAt.none_tuple ‹_› hu
 ·exact SeqAt.RcNeAt.bool_none _
 ·exact SeqAt.RcNeAt.bool_bool _ _
 ·exact SeqAt.RcNeAt.bool_int _ _ _
 ·exact SeqAt.RcNeAt.bool_str _ _ _
 ·exact SeqAt.RcNeAt.bool_list _ ‹_› hu
 ·exact SeqAt.RcNeAt.bool_tuple _ ‹_› hu
 ·exact SeqAt.RcNeAt.int_none _ _
 ·exact SeqAt.RcNeAt.int_bool _ _ _
 ·exact SeqAt.RcNeAt.int_int _ _ _ _
 ·exact SeqAt.RcNeAt.int_str _ _ _ _
 ·exact SeqAt.RcNeAt.int_list _ _ ‹_› hu
 ·exact SeqAt.RcNeAt.int_tuple _ _ ‹_› hu
 ·exact SeqAt.RcNeAt.str_none _ _
 ·exact SeqAt.RcNeAt.str_bool _ _ _
 ·exact SeqAt.RcNeAt.str_int _ _ _ _
 ·exact SeqAt.RcNeAt.str_str _ _ _ _
 ·exact SeqAt.RcNeAt.str_list _ _ ‹_› hu
 ·exact SeqAt.RcNeAt.str_tuple _ _ ‹_› hu
 ·exact SeqAt.RcNeAt.list_none ‹_› hu
 ·exact SeqAt.RcNeAt.list_bool _ ‹_› hu
 ·exact SeqAt.RcNeAt.list_int _ _ ‹_› hu
 ·exact SeqAt.RcNeAt.list_str _ _ ‹_› hu
 ·rename_i as a us p ra bs b ws p' rb;have l1:=ra.len;have l2:=rb.len
  by_cases hl:as.length=bs.length
  ·rw[<-jxs as bs hl];have z:=SeqAt.RcNeAt.lists (A:=A) (s:=s) (e:=pAt as bs) p p' (by simp only[Xa];lia) hu (el as bs us ws (.inl rfl) (.inl rfl) ra rb);rw[Xa,<-l1]at z;exact z
  ·rw[kq2 as bs hl];exact SeqAt.RcNeAt.lists_lengths p p' (by simp only[Xa,bne_iff_ne];lia) hu
 ·exact SeqAt.RcNeAt.list_tuple ‹_› ‹_› hu
 ·exact SeqAt.RcNeAt.tuple_none ‹_› hu
 ·exact SeqAt.RcNeAt.tuple_bool _ ‹_› hu
 ·exact SeqAt.RcNeAt.tuple_int _ _ ‹_› hu
 ·exact SeqAt.RcNeAt.tuple_str _ _ ‹_› hu
 ·exact SeqAt.RcNeAt.tuple_list ‹_› ‹_› hu
 ·rename_i as a us p ra bs b ws p' rb;rw[<-qvs as bs];have z:=SeqAt.RcNeAt.tuples (A:=A) (s:=s) (e:=pAt as bs) p p' hu (el as bs us ws (.inr rfl) (.inr rfl) ra rb);rw[Xa,Xa,<-ra.len,<-rb.len]at z;exact z
theorem kzf{A a a' b}(ou:Value.ref a=Value.ref a'->b=true)(rc:SeqAt.RcAt A s (.ref a) (.ref a') b):SeqAt.EqAt A s (.ref a) (.ref a') b:=by
 by_cases e:a=a'
 ·subst e;rw[ou rfl];exact SeqAt.EqAt.same _
 ·exact SeqAt.EqAt.of_refs e rc
theorem xw1{A d d' u w}(hu:A.units<cLine)(r:qW s.heap d u)(r':qW s.heap d' w)(ou:u=w->peq d d'=true)(rc:SeqAt.RcAt A s u w (peq d d')):SeqAt.EqAt A s u w (peq d d'):=by
 cases crv r<;>cases crv r'<;>try unfold peq
 ·exact SeqAt.EqAt.same _
 ·exact SeqAt.EqAt.none_bool _
 ·exact SeqAt.EqAt.none_int _ _
 ·exact SeqAt.EqAt.none_str _ _
 ·exact SeqAt.EqAt.none_list ‹_› hu
 ·exact SeqAt.EqAt.none_tuple ‹_› hu
 ·exact SeqAt.EqAt.bool_none _
 ·exact SeqAt.EqAt.bool_bool _ _
 ·exact SeqAt.EqAt.bool_int _ _ _
 ·exact SeqAt.EqAt.bool_str _ _ _
 ·exact SeqAt.EqAt.bool_list _ ‹_› hu
 ·exact SeqAt.EqAt.bool_tuple _ ‹_› hu
 ·exact SeqAt.EqAt.int_none _ _
 ·exact SeqAt.EqAt.int_bool _ _ _
 ·exact SeqAt.EqAt.int_int _ _ _ _
 ·exact SeqAt.EqAt.int_str _ _ _ _
 ·exact SeqAt.EqAt.int_list _ _ ‹_› hu
 ·exact SeqAt.EqAt.int_tuple _ _ ‹_› hu
 ·exact SeqAt.EqAt.str_none _ _
 ·exact SeqAt.EqAt.str_bool _ _ _
 ·exact SeqAt.EqAt.str_int _ _ _ _
 ·exact SeqAt.EqAt.str_str _ _ _ _
 ·exact SeqAt.EqAt.str_list _ _ ‹_› hu
 ·exact SeqAt.EqAt.str_tuple _ _ ‹_› hu
 ·exact SeqAt.EqAt.list_none ‹_› hu
 ·exact SeqAt.EqAt.list_bool _ ‹_› hu
 ·exact SeqAt.EqAt.list_int _ _ ‹_› hu
 ·exact SeqAt.EqAt.list_str _ _ ‹_› hu
 ·exact kzf ou rc
 ·exact kzf ou rc
 ·exact SeqAt.EqAt.tuple_none ‹_› hu
 ·exact SeqAt.EqAt.tuple_bool _ ‹_› hu
 ·exact SeqAt.EqAt.tuple_int _ _ ‹_› hu
 ·exact SeqAt.EqAt.tuple_str _ _ ‹_› hu
 ·exact kzf ou rc
 ·exact kzf ou rc
theorem YW:∀n {d d' u w A},d.flat n=true->qW s.heap d u->qW s.heap d' w->A.units+n<cLine->SeqAt.EqAt A s u w (peq d d')
 | n,d,d',u,w,A,f,r,r',hu=>by
  refine xw1 ⋯ r r' (λe=>?_) (wxi ⋯ r r' λas bs us ws h1 h2 ra rb=>?_)
  rotate_left
  ·cases n with
   |zero=>rcases h1 with rfl|rfl<;>(unfold D.flat at f;cases f)
   |succ n=>
    have fs:D.flats n as=true:=by rcases h1 with rfl|rfl<;>(unfold D.flat at f;exact f)
    exact qqg ra rb λj d d' u w e1 e2 q1 q2=>YW n (kjf fs e1) q1 q2 ⋯
  ·subst e;rw[kq8 r' r];exact ZK f
end
section
variable {X:Cx}{Z:Fx0}{K:Frag}
def xwr(K:Frag):R2:=λx y H Q=>∃d d' as bs,RepL K H true d x as/\RepL K H true d' y bs/\d.flat 40=true/\d'.flat 40=true/\Q (.bl (peq d d')) H
def xwk(K:Frag):R2:=λx y H Q=>∃d d' as bs,RepL K H true d x as/\RepL K H true d' y bs/\d.flat 40=true/\d'.flat 40=true/\Q (.bl (!peq d d')) H
theorem vz(hu:X.A.units+64<cLine)(hK:autoParam (X.K=K) Ŕ):OpR X (compareOp .Eq) (xwr K):=by
 subst hK;rintro a8 s σ H x y v u Q I rx ry ⟨d,d',as,bs,h1,h2,f1,f2,q⟩;refine wxi ⋯ (VZ I h1 f1 rx) (VZ I h2 f2 ry) (λas bs us ws e1 e2 ra rb=>qqg ra rb λj d d' u w e3 e4 q1 q2=>?_) _ _ _ _ #[.bl _,H,I,rfl,q];have fs:D.flats 39 as=true:=by rcases e1 with rfl|rfl<;>(unfold D.flat at f1;exact f1)
 exact YW 39 (kjf fs e3) q1 q2 ⋯
theorem ZJ(hu:X.A.units+64<cLine)(hK:autoParam (X.K=K) Ŕ):OpR X (compareOp .NotEq) (xwk K):=by
 subst hK;rintro a8 s σ H x y v u Q I rx ry ⟨d,d',as,bs,h1,h2,f1,f2,q⟩;refine xqw ⋯ (VZ I h1 f1 rx) (VZ I h2 f2 ry) (λas bs us ws e1 e2 ra rb=>qqg ra rb λj d d' u w e3 e4 q1 q2=>?_) _ _ _ _ #[.bl _,H,I,rfl,q];have fs:D.flats 39 as=true:=by rcases e1 with rfl|rfl<;>(unfold D.flat at f1;exact f1)
 exact YW 39 (kjf fs e3) q1 q2 ⋯
theorem vK:Ad2 K (xwr K) (pu2 fEq):=by
 intro H x y s Q ox oy hf k;unfold pu2 fEq at hf
 by_cases hc:(x.d.flat 40&&y.d.flat 40)=true
 ·rw[Xd hc]at hf;rw[Bool.and_eq_true]at hc;cases oq9 hf;exact#[x.d,y.d,x.as,y.as,RepO.wk ox,RepO.wk oy,hc.1,hc.2,k _ H rfl rfl xV]
 ·simp_all
theorem YZ:Ad2 K (xwk K) (pu2 fNe):=by
 intro H x y s Q ox oy hf k;unfold pu2 fNe at hf
 by_cases hc:(x.d.flat 40&&y.d.flat 40)=true
 ·rw[Xd hc]at hf;rw[Bool.and_eq_true]at hc;cases oq9 hf;exact#[x.d,y.d,x.as,y.as,RepO.wk ox,RepO.wk oy,hc.1,hc.2,k _ H rfl rfl xV]
 ·simp_all
end
mutual
noncomputable def Zv:D->Nat
 |.tup xs=>drwDs xs+1|_=>1
noncomputable def drwDs:List D->Nat
 |[]=>0|a::x=>Zv a+drwDs x
end
mutual
theorem qwj{n:Nat}{d:D}(h:v4 n d=true):d.flat n=true:=by
 cases d<;>cases n<;>unfold v4 at h<;>first|rfl|(cases h)|skip
 exact keys_flat h
theorem keys_flat{n:Nat}{ds:List D}(h:keyDs n ds=true):D.flats n ds=true:=by
 cases ds<;>unfold keyDs at h<;>unfold D.flats
 ·rfl
 rw[Bool.and_eq_true]at h;rw[qwj h.1,keys_flat h.2];rfl
end
mutual
theorem vqe{n m:Nat}{a b:D}(ha:v4 n a=true)(hb:v4 m b=true):peq a b=decide (a=b):=by
 cases a<;>first|(cases n<;>(unfold v4 at ha;cases ha);done)|(cases b<;>first|(cases m<;>(unfold v4 at hb;cases hb);done)|(simp[peq];done)|(simp[peq];first|rfl|exact Bool.beq_eq_decide_eq _ _)|skip)
 cases n<;>cases m<;>unfold v4 at ha hb<;>first|(cases ha)|(cases hb)|simpa [peq]using keys_peq ha hb
theorem keys_peq{n m:Nat}{a b:List D}(ha:keyDs n a=true)(hb:keyDs m b=true):peqs a b=decide (a=b):=by
 cases a<;>cases b<;>unfold keyDs at ha hb<;>simp[peqs]
 rw[Bool.and_eq_true]at ha hb;rw[vqe ha.1 hb.1,keys_peq ha.2 hb.2]
end
theorem vvd{h:Heap}{n:Nat}:∀{ds:List D} {us:List Value},keyDs n ds=true->CReps h ds us->∀u∈us,∃d,v4 n d=true/\qW h d u:=by
 intro ds
 induction ds<;>intro us hk r u hu<;>unfold CReps at r
 ·subst r;cases hu
 ·rename_i ih;obtain⟨v,r,rfl,h1,h2⟩:=r;unfold keyDs at hk;rw[Bool.and_eq_true]at hk;rcases aD hu with rfl|hu
  ·exact#[_,hk.1,h1]
  ·exact ih hk.2 h2 u hu
theorem wve{h : Heap}{P : Nat -> Value -> Prop}(b : ∀n u,(u = .none \/ (∃i t,u = .int i t) \/ ∃x t,u = .str x t) -> P n u)(st : ∀n a (us : List Value),h.IsTuple a us.toArray -> (∀u ∈ us,P n u) -> P (n+1) (.ref a)): ∀n {d : D} {u : Value},v4 n d = true -> qW h d u -> P n u:= by
  intro n
  induction n <;> intro d u hk hr <;> cases crv hr <;> unfold v4 at hk <;> first
    |(cases hk; done)
    |exact b _ _ (.inl rfl)
    |exact b _ _ (.inr (.inl ⟨_,_,rfl⟩))
    |exact b _ _ (.inr (.inr ⟨_,_,rfl⟩))
    |skip
  rename_i ih _ _ _ p q;refine st _ _ _ p λu hu=> ?_
  obtain⟨d,k,r⟩:= vvd hk q u hu;exact ih k r
section
variable {prog:Program}{w:PySem.World}{A:Around}{E:VP9}{s:Shared}
theorem vxx{Q:Int->Shared->Prop}(h:Q 4238894112 {s with toks:=s.toks+1}):wpAny (model prog w) A (pyHash .none) Q E s:=by
 have ty:s.TypeIs Value.none "NoneType":=rfl;unfold pyHash;refine X0 ?_;refine X4 (X0 (Zf ty F.slot_NoneType_hash.lookup ?_));show wpAny _ _ (callSpecialIfBoundUnlessNone? Value.none "__hash__" _ >>= _) Q E s;refine X0 (wpAny_callSpecialIfBoundUnlessNone?_slot ty F.slot_NoneType_hash (Y1 F.slot_NoneType_hash ty F.entry_NoneType_hash ?_ (F.args_NoneType_hash_1 _)));refine wpAny_ret_mkInt ?_;show wpAny _ _ (if(decide (-(2:Int) ^ 63<=(4238894112:Int))&&decide ((4238894112:Int)<2 ^ 63))=true then _ else _) Q E _;exact X4 h
theorem kv1{d:D}:∀ds:List D,hashDs w (ds++[d])=hashDs w ds++[QK w d]
 |[]=>by simp[hashDs]|a::x=>by rw[List.cons_append,hashDs,kv1 x];rfl
theorem kwq{d:D}:∀ds:List D,drwDs (ds++[d])=drwDs ds+Zv d
 |[]=>by simp[drwDs]|a::x=>by rw[List.cons_append,drwDs,drwDs,kwq x];lia
theorem xjz:∀(n:Nat) {d:D} {u:Value} {A:Around} {s:Shared} {Q:Int->Shared->Prop},v4 n d=true->qW s.heap d u->A.units+4*n<cLine->Q (QK w d) {s with toks:=s.toks+Zv d}->wpAny (model prog w) A (pyHash u) Q E s:=by
 intro n
 induction n<;>intro d u A s Q hk hr hu h<;>cases crv hr<;>unfold v4 at hk<;>first|(cases hk;done)|exact vxx h|exact wpAny_pyHash_int h|exact wpAny_pyHash_str h|skip
 rename_i n ih ds a us ht hi;have ty:=ht.typeIs;obtain⟨ob,uq,dl,nn,rk⟩:=ht;unfold pyHash;unfold pyHashByItsType;refine X0 (wpAny_cRoomFor_or (.inr ⋯) ?_);refine X0 (Zf ty F.slot_tuple_hash.lookup ?_);show wpAny _ _ (if(some (Value.builtin "tuple.__hash__")==some Value.none)=true then _ else _) Q E s;rw [Xg (show ¬(some (Value.builtin "tuple.__hash__")==some Value.none)=true by rw[beq_builtin_none];exact Bool.false_ne_true)];refine X0 (Zf ty F.slot_tuple_hash.lookup ?_);show wpAny _ _ (callSpecialIfBoundUnlessNone? (Value.ref a) "__hash__" _ >>= _) Q E s;refine X0 (wpAny_callSpecialIfBoundUnlessNone?_slot ty F.slot_tuple_hash (Y1 F.slot_tuple_hash ty F.entry_tuple_hash ?_ (F.args_tuple_hash_1 _)));show wpAny _ _ (Builtin.Tuple.tupleItemsOf (Value.ref a) >>= _) _ _ s;refine X0 (wpAny_tupleItemsOf uq rk ?_);refine X0 ?_;rw [<-Array.forIn_toList];refine wpAny_forIn_list _ (λam (b:Array Int) s'=>∃pre post,ds=pre++post/\keyDs n post=true/\CReps s.heap post am/\b.toList=hashDs w pre/\s'={s with toks:=s.toks+drwDs pre}) _ ?_ ?_ _ _ #[[],ds,rfl,hk,hi,rfl,rfl]
 ·rintro x am b s' ⟨pre,post,rfl,hkp,hl,hb,rfl⟩;cases post with
  | nil=>unfold CReps at hl;cases hl
  | cons d post=>
   unfold CReps at hl;obtain⟨u1,r1,e1,h1,h2⟩:=hl;injection e1 with e1 e2;subst e1 e2;unfold keyDs at hkp;rw[Bool.and_eq_true]at hkp;have ru:A.in1.units+4*n<cLine:=by show A.units+1+4*n<cLine;lia
   have fin:∃p q,pre++d::post=p++q/\keyDs n q=true/\CReps s.heap q am/\(b.push (QK w d)).toList=hashDs w p/\({s with toks:=s.toks+drwDs pre+Zv d}:Shared)={s with toks:=s.toks+drwDs p}:=
    #[pre++[d],post,by simp,hkp.2,h2,by rw[kv1,<-hb];simp,by rw[kwq,Nat.add_assoc]]
   refine X0 (ih hkp.1 h1 ru ?_)
   first
    |exact X4 fin
    |exact X0 (X4 (X4 fin))
 ·rintro b s' ⟨pre,post,rfl,hkp,hl,hb,rfl⟩;have:post=[]:=by
   cases post with|nil=>rfl|cons d post=>unfold CReps at hl;obtain⟨_,_,z,_⟩:=hl;cases z
  subst this;rw[Xw]at h;show wpAny _ _ (retInt (Builtin.Tuple.tupleHashOf b.toList)) _ _ _;rw[hb];refine wpAny_ret_mkInt ?_;generalize hv:Builtin.Tuple.tupleHashOf (hashDs w pre)=v;have h:Q (reduceHash v) {s with toks:=s.toks+drwDs pre+1}:=by rw[<-hv];unfold QK Zv at h;rw[Nat.add_assoc];exact h
  show wpAny _ _ (if(decide (-(2:Int) ^ 63<=v)&&decide (v<2 ^ 63))=true then _ else _) Q E _;unfold reduceHash at h
  by_cases hq:(decide (-(2:Int) ^ 63<=v)&&decide (v<2 ^ 63))=true
  ·rw[Xd hq]at h ⊢;exact X4 h
  ·rw[Xg hq]at h ⊢;exact X0 (Z9 (X4 h))
theorem wq0(n m:Nat){d:D}{u:Value}{A:Around}{s:Shared}{Q:Bool->Shared->Prop}(hm:n<=m)(hk:v4 n d=true)(hr:qW s.heap d u)(h:Q true s):wpAny (model prog w) A (eqIsQuiet m u) Q E s:=by
 refine wve (P:=λn u=>∀m (Q:Bool->Shared->Prop),n<=m->Q true s->wpAny (model prog w) A (eqIsQuiet m u) Q E s) ?_ (λn a us ht hi m Q hm h=>?_) n hk hr m Q hm h
 ·rintro n u (rfl|⟨i,t,rfl⟩|⟨i,t,rfl⟩) m Q _ h<;>(rw[eqIsQuiet_byValue m rfl];exact X4 h)
 have ty:=ht.typeIs;obtain⟨ob,uq,dl,nn,rk⟩:=ht;cases m
 ·lia
 unfold eqIsQuiet;refine X0 (Zf ty F.slot_tuple_eq.lookup ?_);show wpAny _ _ (isInstance (Value.ref a) (.type "tuple") >>= _) _ _ s;refine X0 (wpAny_isInstance ty isSubtype_tuple_tuple ?_);simp only[Bool.not_true,Bool.false_eq_true,if_false];refine X0 (wpAny_seqItems uq rk (X0 ?_));show wpAny _ _ (forIn us.toArray _ _) _ _ s;rw[<-Array.forIn_toList];refine wpAny_forIn_list _ (λam r s'=>r.1=none/\s'=s/\∀u∈am,u∈us) _ ?_ ?_ _ _ #[rfl,rfl,λ_ h=>h]
 ·rintro v am r s' ⟨hr,rfl,hu⟩;refine X0 (hi v (hu v X6) _ _ ⋯ ?_);simp only[Bool.not_true,Bool.false_eq_true,if_false];exact X4 #[rfl,rfl,λu h=>hu u (lc9 _ h)]
 ·rintro ⟨r1,r2⟩ s' ⟨hz,rfl,_⟩;cases hz;exact X4 h
end
mutual
theorem qkg{h h':Heap}(et:∀b ob us n,h.get? b=some ob->ob.cls=.type "tuple"->ob.data=.seq us n->h'.get? b=some ob){n:Nat}{d:D}{u:Value}(hk:v4 n d=true)(r:qW h d u):qW h' d u:=by
 cases d<;>cases n<;>unfold v4 at hk<;>unfold qW at r ⊢<;>first|exact r|(cases hk;done)|skip
 obtain⟨a,us,e,⟨ob,uq,hc,nn,rk⟩,hi⟩:=r;exact#[a,us,e,#[ob,et a ob _ _ uq hc rk,hc,nn,rk],creps_keep et hk hi]
theorem creps_keep{h h':Heap}(et:∀b ob us n,h.get? b=some ob->ob.cls=.type "tuple"->ob.data=.seq us n->h'.get? b=some ob){n:Nat}{ds:List D}{us:List Value}(hk:keyDs n ds=true)(r:CReps h ds us):CReps h' ds us:=by
 cases ds<;>unfold CReps at r ⊢
 ·exact r
 unfold keyDs at hk;rw[Bool.and_eq_true]at hk;obtain⟨u,rr,e,h1,h2⟩:=r;exact#[u,rr,e,qkg et hk.1 h1,creps_keep et hk.2 h2]
end
noncomputable def vjb(prog:Program)(w:PySem.World):HeapKind prog w Kd where
 is:=λh k a=>qW h k.1 (.ref a)
 hash:=λk=>QK w k.1
 draws:=λk=>Zv k.1
 room:=λA=>A.units+40<cLine
 inj:=λhx hy=>Subtype.ext (kq8 hx hy)
 keeps:=fun {h h' k a d o es ep} x ho hd hs=>qkg (λb ob us n e _ z=>(hs.2 b (by rintro rfl;rw[ho]at e;cases e;rw[hd]at z;cases z)).trans e) k.2 x
 pyHash:=fun {A E s k a Q} hu hk h=>xjz 6 k.2 hk (Nat.lt_of_le_of_lt (Nat.add_le_add_left ⋯ _) hu) h
 eqBool:=fun {A E s x y a b Q} hu hx hy h=>by
  have e:peq x.1 y.1=decide (x=y):=by
   rw[vqe x.2 y.2]
   by_cases z:x=y
   ·rw[Xj z,Xj (congrArg Subtype.val z)]
   ·rw[Xs z,Xs λq=>z (Subtype.ext q)]
  have:=YW (s:=s) 6 (A:=A) (qwj x.2) hx hy (Nat.lt_of_le_of_lt (Nat.add_le_add_left ⋯ _) hu);rw[e]at this;exact this prog w E Q h
 quiet:=fun {A E s k a Q} hk h=>wq0 6 8 ⋯ k.2 hk h
abbrev Sl.sd(x:Sl):Sd:=(x.o,x.d)
noncomputable def tA(Z:Fx0)(q:Bool)(cs:List Ex):TA:=fun σ H Q=>∃E L r,Mt E σ L/\World Z.K H L/\vq cs E=some r/\Xc Z σ H L r /\
 ∀E' ys,r=.ok E' ys->∀(xs:List Sl) L' H',xs.map Sl.sd=ys->Mt E' σ L'->World Z.K H' (xs.map some++L')->Step H L H' (xs.map some++L')->(q=true->kX H H'/\∀b∈jv (xs.map some),H b=none)->Q (xs.map Sl.v) H'
def QA(X:Cx)(Z:Fx0)(q:Bool)(cs:List Ex)(es:List Expr):Prop:=PA X es (tA Z q cs)
theorem Wj{X es t t'}(h:PA X es t)(w:∀ σ H Q,t' σ H Q->t σ H Q):PA X es t':=λpos a8 s σ H Q I q=>h pos a8 s σ H Q I (w σ H Q q)
section
variable {X:Cx}{Z:Fx0}{pn:List Nat}{q:Bool}{c:Ex}{cs:List Ex}{e:Expr}{es:List Expr}{pos:Pos}{σ:L2.St}{H:Hp}{L:Ls}{E:En}
theorem j9:QA X Z true [] []:=Wj x6 fun σ H Q ao=>ex8 ao λE L r m w hc xc k=>by
 cases oq9 hc;exact k _ _ rfl [] L H rfl m w Step.refl λ_=>#[λ_ _ z=>z,λ_ z=>(nomatch z)]
theorem j5(h:QE X Z q c e)(hs:QA X Z q cs es)(cn:autoParam (starEach (e::es) X.env=(false,eval e X.env)::starEach es X.env) Ŕ):QA X Z q (c::cs) (e::es):=
 Wj (ww h hs cn) fun σ H Q ao=>ex8 ao λE L r m w hc xc k=>by
  refine VY m w (hc) xc λE1 s h1 x L1 H1 e1 e2 m1 w1 st sm=>?_
  rcases wZ h1 with⟨E2,ys,h2,h3⟩|⟨E2,cc,h2,h3⟩
  ·cases oq9 h3;refine#[E1,L1,_,m1,w1.tail,h2,(λ_ _ z=>by cases z),λE' um z xs L2 H2 e3 m2 w2 bu fk=>?_];injection z with z1 z2;subst z1 z2;obtain⟨w3,dj⟩:=xjy (T:=[some x]) w1 bu w2;refine k _ _ rfl (x::xs) L2 H2 (by rw[List.map_cons,e3];simp[Sl.sd,e1,e2]) m2 w3 (st.trans dj) λhq=>?_
   obtain⟨a1,a2⟩:=sm hq;obtain⟨b1,b2⟩:=fk hq;refine#[qz a1 b1,λb hb=>?_];rcases aA hb with z|z
   ·exact a2 b z
   ·exact zX a1 (b2 b z)
  ·exact#[E1,L1,_,m1,w1.tail,h2,(xc.step (st.trans Step.drop)).map h3,λE' s' z=>by cases z]
end
section
variable {X:Cx}{Z:Fx0}{q:Bool}{cs:List Ex}{es:List Expr}{pos:Pos}{σ:L2.St}{H:Hp}{L:Ls}{E:En}{α:Type}
theorem jw4:∀{cs E E' ys},vq cs E=some (.ok E' ys)->ys.length=cs.length
 | [],E,E',ys,h=>by cases oq9 h;rfl
 | c::cs,E,E',ys,h=>by
  rcases wZ (h)with⟨E1,x,h1,h2⟩|⟨_,_,_,z⟩
  ·rcases wZ h2 with⟨E2,xs,h3,h4⟩|⟨_,_,_,z⟩
   ·cases oq9 h4;rw[Xv,Xv,jw4 h3]
   ·cases z
  ·cases z
theorem wwi{F}{r:Res α}{G}(m:Mt E σ L)(w:World Z.K H L)(h:bnd (vq cs E) F=some r)(xc:Xc Z σ H L r)
  (k:∀E1 ys,F E1 ys=some r->ys.length=cs.length->∀(xs:List Sl) L1 H1,xs.map Sl.sd=ys->Mt E1 σ L1->World Z.K H1 (xs.map some++L1)->Step H L H1 (xs.map some++L1)->(q=true->kX H H1/\∀b∈jv (xs.map some),H b=none)->G (xs.map Sl.v) H1):tA Z q cs σ H G:=by
 rcases wZ h with⟨E1,s,h1,h2⟩|⟨E1,c,h1,h2⟩
 ·exact#[E,L,_,m,w,h1,(λ_ _ z=>by cases z),λE' s' z xs L' H' e1 m' w' st sm=>by
   injection z with z1 z2;subst z1 z2;exact k _ _ h2 (jw4 h1) xs L' H' e1 m' w' st sm]
 ·exact#[E,L,_,m,w,h1,xc.map h2,λE' s' z=>by cases z]
theorem jxy{K H}(g):∀{xs:List Sl},(∀x∈xs,x.ok K H)->(g=false->∀x∈xs,zj x.sd=true)->∃bs,RepA K H g (xs.map Sl.d) (xs.map Sl.v) bs/\(∀b∈bs,∃x∈xs,b∈x.as)/\(g=false->bs=jv (xs.map some))/\(g=true->bs=xs.flatMap Sl.as)
 | [],_,_=>#[[],#[rfl,rfl],λ_ h=>(nomatch h),λ_=>rfl,λ_=>rfl]
 | x :: xs,h,ht=>by
  obtain⟨bs,r,hb,ho,hg⟩:=jxy g (λy hy=>h y (lc9 _ hy)) λhg y hy=>ht hg y (lc9 _ hy)
  have hx:=h x X6;have key:∃cs,RepL K H g x.d x.v cs/\(∀b∈cs,b∈x.as)/\(g=false->cs=x.own)/\(g=true->cs=x.as):=by
   cases g with
   | true=>exact#[x.as,RepO.wk hx,λb hb=>hb,(λz=>by cases z),λ_=>rfl]
   | false=>
    by_cases ho:x.o=.dp
    ·refine#[x.as,?_,λb hb=>hb,λ_=>?_,λz=>by cases z]
     ·have:=hx;unfold Sl.ok at this;rw[ho]at this;exact this
     ·unfold Sl.own;rw[ho]
    ·have hp:x.d.pure=true:=by
      rcases Bool.or_eq_true_iff.mp (ht rfl x X6)with z|z
      ·simp_all
      ·exact z
     obtain⟨z,rp⟩:=RepL.pu (g':=false) (RepO.wk hx) hp;exact#[[],rp,λ_ h=>(nomatch h),λ_=>(wqy z).symm,λz=>by cases z]
  obtain⟨cs,r1,h1,h2,h3⟩:=key;refine#[cs++bs,?_,λb gr=>?_,λsf=>?_,λsf=>?_]
  ·unfold RepA;exact#[x.v,xs.map Sl.v,cs,bs,rfl,rfl,r1,r]
  ·rcases aA gr with z|z
   ·exact#[x,X6,h1 b z]
   ·simp_all
  ·rw[List.map_cons,v8,h2 sf,ho sf]
  ·rw[List.flatMap_cons,h3 sf,hg sf]
theorem vxp{K H p}{xs:List Sl}{L}(w:World K H (xs.map some++L))(hp:H p=none):
  ∃bs,World K (upd H p (.lst (xs.map Sl.v))) (some #[.rt,.lst (xs.map Sl.d),.ref p,p::bs]::L)/\Step H (xs.map some++L) (upd H p (.lst (xs.map Sl.v))) (some #[.rt,.lst (xs.map Sl.d),.ref p,p::bs]::L):=by
 obtain⟨bs,r,hb,_,_⟩:=jxy true (λx hx=>w.ok x (ll9 _ (Xq hx))) (λz=>by cases z);have ap:∀b∈bs,b∉jv L:=λb gr hL=>by
  obtain⟨x,hx,i'⟩:=hb b gr;rcases Sl.as_of i' with z|z
  ·have nd:=w.nd;rw[k9,Xb]at nd;exact nd.2.2 b (mem_owned.mpr #[x,Xq hx,z]) b hL rfl
  ·exact w.ds b (by rw[k9];exact lr9 _ hL) (by rw[qZ];exact ll9 _ (mem_frozen.mpr #[x,Xq hx,z]))
 have al:∀b∈bs,H b≠none:=λb gr=>by
  obtain⟨x,hx,i'⟩:=hb b gr;exact(w.ok x (ll9 _ (Xq hx))).some i'
 have sr:Src H (xs.map some++L) bs:=λb gr=>by
  obtain⟨x,hx,i'⟩:=hb b gr;rcases Sl.as_of i' with z|z
  ·exact .inr (.inl (by rw[k9];exact ll9 _ (mem_owned.mpr #[x,Xq hx,z])))
  ·exact .inl (by rw[qZ];exact ll9 _ (mem_frozen.mpr #[x,Xq hx,z]))
 have st:Step H (xs.map some++L) H L:=#[λ_ _ h _=>h,λa ha=>.inl (by rw[k9];exact lr9 _ ha),λa ha=>.inl (by rw[qZ];exact lr9 _ ha)];exact#[bs,Q7 (Z:=#[K,λ_=>none,λ_ _ _=>True]) w.right st (W5 hp r λb hb=>hb) ap al sr]
theorem vxo{K H p}{xs:List Sl}{L}(w:World K H (xs.map some++L))(hp:H p=none):
  ∃bs,World K (upd H p (.tup (xs.map Sl.v))) (some #[.no,.tup (xs.map Sl.d),.ref p,bs]::L)/\Step H (xs.map some++L) (upd H p (.tup (xs.map Sl.v))) (some #[.no,.tup (xs.map Sl.d),.ref p,bs]::L):=by
 obtain⟨bs,r,hb,_,_⟩:=jxy true (λx hx=>w.ok x (ll9 _ (Xq hx))) (λz=>by cases z);have ap:∀b∈bs,b∉jv L:=λb gr hL=>by
  obtain⟨x,hx,i'⟩:=hb b gr;rcases Sl.as_of i' with z|z
  ·have nd:=w.nd;rw[k9,Xb]at nd;exact nd.2.2 b (mem_owned.mpr #[x,Xq hx,z]) b hL rfl
  ·exact w.ds b (by rw[k9];exact lr9 _ hL) (by rw[qZ];exact ll9 _ (mem_frozen.mpr #[x,Xq hx,z]))
 have al:∀b∈bs,H b≠none:=λb gr=>by
  obtain⟨x,hx,i'⟩:=hb b gr;exact(w.ok x (ll9 _ (Xq hx))).some i'
 have sr:Src H (xs.map some++L) bs:=λb gr=>by
  obtain⟨x,hx,i'⟩:=hb b gr;rcases Sl.as_of i' with z|z
  ·exact .inr (.inl (by rw[k9];exact ll9 _ (mem_owned.mpr #[x,Xq hx,z])))
  ·exact .inl (by rw[qZ];exact ll9 _ (mem_frozen.mpr #[x,Xq hx,z]))
 have st:Step H (xs.map some++L) H L:=#[λ_ _ h _=>h,λa ha=>.inl (by rw[k9];exact lr9 _ ha),λa ha=>.inl (by rw[qZ];exact lr9 _ ha)];exact#[bs,Q7 (Z:=#[K,λ_=>none,λ_ _ _=>True]) w.right st (kqn hp r λb hb=>hb) ap al sr]
theorem vq1{K H H'}{xs:List Sl}{L d v ps}(w:World K H (xs.map some++L))(ht:∀x∈xs,zj x.sd=true)(hp:∀b∈ps,H b=none)(nd:ps.Nodup)(sm:kX H H')
  (rep:∀bs,RepA K H false (xs.map Sl.d) (xs.map Sl.v) bs->RepL K H' false d v (ps++bs)):
  World K H' (some #[.dp,d,v,ps++jv (xs.map some)]::L)/\Step H (xs.map some++L) H' (some #[.dp,d,v,ps++jv (xs.map some)]::L):=by
 obtain⟨bs,r,hb,ho,_⟩:=jxy false (λx hx=>w.ok x (ll9 _ (Xq hx))) (λ_=>ht);have e:=ho rfl;subst e;have w2:World K H' _:=#[λx hx=>RepO.kp (w.ok x hx) (Kp.of_same sm),w.nd,w.ds];have ndx:=w.nd;rw[k9,Xb]at ndx;have al:∀b∈jv _,H b≠none:=λb hb=>w.own_some (by rw[k9];exact ll9 _ hb)
 refine#[w2.right.cons (rep _ r) ?_ (λa ha hL=>?_) (λa ha hf=>?_) (λa ha=>(nomatch ha)) (λa ha=>λz=>(nomatch z)),#[λa ob h _=>sm a ob h,λa ha=>?_,λa ha=>?_]]
 ·show(ps++jv _).Nodup;rw[Xb];exact#[nd,ndx.1,λa ha b hb e=>by subst e;exact al a hb (hp a ha)]
 ·rcases aA (ha)with z|z
  ·exact w.own_some (by rw[k9];exact lr9 _ hL) (hp a z)
  ·exact ndx.2.2 a z a hL rfl
 ·rcases aA (ha)with z|z
  ·exact w.frz_some (by rw[qZ];exact lr9 _ hf) (hp a z)
  ·exact w.ds a (by rw[k9];exact ll9 _ z) (by rw[qZ];exact lr9 _ hf)
 ·rw[v8]at ha;rcases aA ha with z|z
  ·rcases aA (z)with y|y
   ·exact .inr (hp a y)
   ·exact .inl (by rw[k9];exact ll9 _ y)
  ·simp_all
 ·exact .inl (by rw[qZ];exact lr9 _ ha)
theorem xq1{xs:List Sl}{ys}(h:xs.map Sl.sd=ys):xs.map Sl.d=ys.map (·.2):=by rw[<-h,Xr];rfl
theorem qvx{xs:List Sl}{ys}(h:xs.map Sl.sd=ys)(ht:ys.all zj=true):∀x∈xs,zj x.sd=true:=λx hx=>by
 rw[<-h,List.all_map,Zl]at ht;exact ht x hx
theorem qw7{o}{xs:List Sl}{ys E' r L' H1}{Q:VK}{Hq Lq}(h:mkL o E' ys=some r)(e:xs.map Sl.sd=ys)(w:World Z.K H1 (xs.map some++L'))(st:Step Hq Lq H1 (xs.map some++L'))(sm:q=true->kX Hq H1/\∀b∈jv (xs.map some),Hq b=none)
  (k:∀E'' a,r=.ok E'' a->∀x L'' H',x.o=a.1->x.d=a.2->Mt E'' σ L''->World Z.K H' (some x::L'')->Step Hq Lq H' (some x::L'')->(q=true->kX Hq H'/\∀b∈x.own,Hq b=none)->Q x.v H') (m:Mt E' σ L'):
  ∀ p,H1 p=none->Q (.ref p) (upd H1 p (.lst (xs.map Sl.v))):=by
 intro p hp;unfold mkL at h
 by_cases ho:o=.dp
 ·rw[Xd ho]at h
  by_cases ht:ys.all zj=true
  ·rw[Xd ht]at h;cases oq9 h;obtain⟨w2,s2⟩:=vq1 (d:=.lst _) w (qvx e ht) (λb hb=>by rw[aC hb];exact hp) (by simp) (xw hp) (λbs r=>by
    exact#[p,_,bs,rfl,r.kp (Kp.of_same (xw hp)),.inl #[xK,rfl]])
   refine k _ _ rfl _ L' _ rfl (by rw[xq1 e]) m w2 (st.trans s2) λhq=>#[qz (sm hq).1 (xw hp),λb hb=>?_]
   rcases aA (hb)with z|z
   ·rw[aC z];exact zX (sm hq).1 hp
   ·exact(sm hq).2 b z
  ·simp_all
 ·rw[Xg ho]at h;cases oq9 h;obtain⟨bs,w2,s2⟩:=vxp w hp;refine k _ _ rfl _ L' _ rfl (by rw[xq1 e]) m w2 (st.trans s2) λhq=>#[qz (sm hq).1 (xw hp),λb hb=>?_]
  have:b=p:=by simpa [Sl.own]using hb
  rw[this];exact zX (sm hq).1 hp
theorem wx3{xs:List Sl}{ys n}(h:xs.map Sl.sd=ys)(hl:ys.length=n)(hz:n<=1000):(xs.map Sl.v).length<=sizeLine:=by
 have:xs.length=n:=by rw[<-hl,<-h,X3]
 rw[X3,this];exact Yd hz ⋯
theorem wY{o}(h:QA X Z q cs es)(hz:autoParam (cs.length<=1000) ŕ):QE X Z q (v9 o cs) (.List es pos):=qV (wzo h) fun σ H Q ao=>ex8 ao λE L r m w hc xc k=>
 wwi m w (hc) xc λE1 ys h1 hl xs L1 H1 e1 m1 w1 st sm=>#[wx3 e1 hl hz,qw7 (E':=E1) (h1) e1 w1 st sm k m1]
theorem v6{o x1}(h:QA X Z q cs es)(hz:autoParam (cs.length<=1000) ŕ):QE X Z q (qK o cs) (.Tuple es x1 pos):=qV (wzk h) fun σ H Q ao=>ex8 ao λE L r m w hc xc k=>
 wwi m w (hc) xc λE1 ys h1 hl xs L1 H1 e1 m1 w1 st sm=>#[wx3 e1 hl hz,λp hp=>by
  by_cases ho:o=.dp
  ·rw[Xd ho]at h1
   by_cases ht:ys.all zj=true
   ·rw[Xd ht]at h1;cases oq9 h1;obtain⟨w2,s2⟩:=vq1 (d:=.tup _) (ps:=[]) w1 (qvx e1 ht) (λb hb=>(nomatch hb)) (by simp) (xw hp) (λbs r=>by
     exact#[p,_,rfl,SqT.of xK,r.kp (Kp.of_same (xw hp))])
    exact k _ _ rfl _ L1 _ rfl (by rw[xq1 e1]) m1 w2 (st.trans s2) λhq=>#[qz (sm hq).1 (xw hp),λb hb=>(sm hq).2 b hb]
   ·simp_all
  ·rw[Xg ho]at h1;cases oq9 h1;obtain⟨bs,w2,s2⟩:=vxo w1 hp;exact k _ _ rfl _ L1 _ rfl (by rw[xq1 e1]) m1 w2 (st.trans s2) λhq=>#[qz (sm hq).1 (xw hp),λb hb=>(nomatch hb)]]
end
noncomputable def spF(K:Frag)(mg:Str->Option Value)(n:Nat)(f:Fn):Sp:=λvs H Q E=>∃(xs:List Sl) (r:Res Sd),vs=xs.map Sl.v/\xs.length=n/\World K H (xs.map some)/\f (xs.map Sl.sd)=some r /\
 (∀E' c,r=.exc E' c->∀C H',mg c=some (.ref C)->Step H (xs.map some) H' []->E (.ref C) none H') /\
 ∀E' a,r=.ok E' a->∀(x:Sl) H',x.o=a.1->x.d=a.2->World K H' [some x]->Step H (xs.map some) H' [some x]->Q x.v H'
theorem kJ{K mg n f}{ps:List Str}(hn:ps.length=n):∀vs H Q E,spF K mg n f vs H Q E->vs.length=ps.length:=λvs H Q E #[xs,r,e,hl,_]=>by rw[e,X3,hl,hn]
theorem kq6:∀(xs:List Sl) (k),Mt (xs.map (λx=>some x.sd)++List.replicate k none) (xs.map (λx=>some x.v)++List.replicate k none) (xs.map some++List.replicate k none)
 |[],0=>.nil
 |[],k+1=>by
  exact .un (kq6 [] k)
 |x::xs,k=>.cons (kq6 xs k)
theorem kK{X K mg N n nn B body H vs Q E}(hN:N.length=nn)(t:QSs X #[K,mg,E] [] B body)(h:spF K mg n (fn nn B) vs H Q E):
  ∃t,PSs X body t/\t {nx:=λ_ H'=>Q .non H',rt:=Q} (L2.start N vs) H:=by
 refine#[_,t,?_];obtain⟨xs,r,rfl,hl,w,hf,hx,hk⟩:=h;unfold fn at hf;rw[X3,Xr]at hf;have e1:L2.start N (xs.map Sl.v)=xs.map (λx=>some x.v)++List.replicate (nn - xs.length) none:=by
  unfold L2.start;rw[Xr,X3,hN];rfl
 have wL:World K H (xs.map some++List.replicate (nn - xs.length) none):=w.same (by simp);have sL:Step H (xs.map some) H (xs.map some++List.replicate (nn - xs.length) none):=Step.refl.same (List.Perm.refl _) (by simp);cases hB:B _ with
 | none=>rw[show(some∘Sl.sd)=(λx:Sl=>some x.sd)from rfl,hB]at hf;cases hf
 | some g=>
  rw[show(some∘Sl.sd)=(λx:Sl=>some x.sd)from rfl,hB]at hf;refine#[_,_,g,e1▸(kq6 xs (nn - xs.length)),wL,hB,?_];cases g with
  |nx E1=>
   cases oq9 hf;intro σ' L' H' _ m' w' s';exact hk _ _ rfl _ H' rfl rfl (World.consPu (x:=#[.dp,.non,.non,[]]) #[λ_ z=>(nomatch z),Y2,λ_ z=>(nomatch z)] (show RepL K H' false .non .non []from qqa) rfl) (Jw ((sL.trans s').sub (by simp)) (λb hb=>(nomatch hb)) rfl)
  |rt E1 a=>
   cases oq9 hf;intro x σ' L' H' e2 e3 _ m' w' s';exact hk _ _ rfl x H' e2 e3 (w'.sub (by simp)) ((sL.trans s').sub (by simp))
  |xc E1 c=>
   cases oq9 hf;intro C σ' L' H' hm _ m' w' s';exact hx _ _ rfl C H' hm ((sL.trans s').sub (by simp))
  |ct E1=>cases hf|bk E1=>cases hf
section
variable {X:Cx}{Z:Fx0}{q:Bool}{cs:List Ex}{e:Expr}{es:List Expr}{pos p:Pos}{x:Str}{ps:List Str}{k n:Nat}{f:Fn}
theorem Qz:∀xs:List Sl,jv ((xs.map Sl.let).map some)=[]
 |[]=>rfl|x::xs=>by rw[List.map_cons,List.map_cons,v8,Qz xs];rfl
theorem jzs:∀xs:List Sl,kw ((xs.map Sl.let).map some)=xs.flatMap Sl.as
 |[]=>rfl|x::xs=>by rw[List.map_cons,List.map_cons,Jz,jzs xs];rfl
theorem kz2(xs:List Sl):(xs.map Sl.let).map Sl.sd=letAll (xs.map Sl.sd):=by
 unfold letAll;rw[Xr,Xr];rfl
theorem kjt{K H}{xs:List Sl}{L}(w:World K H (xs.map some++L)):World K H ((xs.map Sl.let).map some++L)/\Step H (xs.map some++L) H ((xs.map Sl.let).map some++L):=by
 have nd:=w.nd;rw[k9,Xb]at nd;have cl:∀a∈xs.flatMap Sl.as,a∈jv _\/a∈kw _:=λa ha=>by
  obtain⟨x,hx,hax⟩:=List.mem_flatMap.mp ha;exact(Sl.as_of hax).imp (λz=>mem_owned.mpr #[x,Xq hx,z]) λz=>mem_frozen.mpr #[x,Xq hx,z]
 refine#[#[λx hx=>?_,by rw[k9,Qz];exact nd.2.1,λa ha hf=>?_],λ_ _ h _=>h,λa ha=>?_,λa ha=>?_]
 ·rcases aA hx with hx|hx
  ·obtain⟨y,hy,e⟩:=aE hx;cases e;obtain⟨z,hz,rfl⟩:=aE hy;exact K4 (w.ok z (ll9 _ (Xq hz)))
  ·exact w.ok x (lr9 _ hx)
 ·rw[k9,Qz]at ha;rw[qZ,jzs]at hf;rcases aA hf with z|z
  ·rcases cl a z with z|z
   ·exact nd.2.2 a z a ha rfl
   ·exact w.ds a (by simp_all) (by simp_all)
  ·exact w.ds a (by simp_all) (by simp_all)
 ·rw[k9,Qz]at ha
  simp_all
 ·rw[qZ,jzs]at ha;rw[qZ,k9];rcases aA ha with z|z
  ·rcases cl a z with z|z
   ·exact .inr (.inl (ll9 _ z))
   ·exact .inl (ll9 _ z)
  ·exact .inl (lr9 _ z)
theorem wz4(D:k4 X.prog X.w X.K X.mg X.base k x ps (spF Z.K Z.mg n f))(hr:Room k X.A)(g:z4 X Z.EX)(ha:QA X Z q cs (e::es))(hn:autoParam (cs.length=n) Ŕ)(hg:autoParam (Gl X x) Ŕ)(fq:autoParam ((x==("__debug__":Str))=false) ŕ)
  (he:autoParam (starEach (e::es) X.env=(false,eval e X.env)::starEach es X.env) Ŕ) (bq:autoParam ((backTo pos (starEach es X.env)).any (·.1)=false) Ŕ):
  QE X Z q (jz f cs) (.Call (.Name x p) (e::es) [] pos):=qV (vkj D hr g ha hg fq he bq) fun σ H Q ao=>ex8 ao λE L r m w hc xc kk=>
 wwi m w (hc) xc λE1 ys h1 hl xs L1 H1 e1 m1 w1 st sm=>by
  rw [Xw];have ak:xs.length=n:=by rw[<-hn,<-hl,<-e1,X3]
  cases hf:f (letAll ys)with
  | none=>simp_all
  | some fr=>
   rw[hf]at h1;obtain⟨wl,sl⟩:=kjt w1;have ev:xs.map Sl.v=(xs.map Sl.let).map Sl.v:=by rw[Xr];rfl
   rw[ev];refine#[xs.map Sl.let,fr,rfl,by rw[X3];exact ak,wl.left,by rw[<-e1]at hf;rw[kz2];exact hf,λE' c ee C H' hm s'=>?_,λE' a ee y H' e2 e3 w' s'=>?_]
   ·subst ee;cases oq9 h1;obtain⟨w2,s2⟩:=stay wl s' #[λ_ z=>(nomatch z),Y2,λ_ z=>(nomatch z)];exact xc _ _ rfl C L1 H' hm m1 w2 ((st.trans sl).trans s2)
   ·subst ee;cases oq9 h1;obtain⟨w2,s2⟩:=stay wl s' w';refine kk _ _ rfl y L1 H' e2 e3 m1 w2 ((st.trans sl).trans s2) λhq=>?_
    obtain⟨a1,a2⟩:=sm hq;refine#[λb ob hb=>s'.keep b ob (a1 b ob hb) λz=>?_,λb hb=>?_]
    ·rw[Qz]at z;exact nomatch z
    ·rcases s'.own b (ll9 _ hb)with z|z
     ·rw[Qz]at z;exact nomatch z
     ·exact zX a1 z
end
def wxl(K:Frag):R2:=λx y H Q=>∃l k xs,x=.ref l/\y=.int k/\LsR K H l xs/\-(2 ^ 63)<=k/\k<2 ^ 63/\xs.length*k.toNat<=sizeLine /\
 ∀p,H p=none->Q (.ref p) (upd H p (.lst (List.replicate k.toNat xs).flatten))
theorem op_repR{X}:OpR X (binaryOp .Mult) (wxl X.K):=by
 rintro a8 s σ H x y v u Q I rx ry ⟨l,k,xs,rfl,rfl,hH,h1,h2,hz,q⟩;cases rx;obtain⟨t,rfl⟩:=ry;obtain⟨z,af,n,r,e⟩:=hH.is I;have ak:af.toArray.size*k.toNat<=sizeLine:=by rw[Xa,<-r.length];exact hz
 have hcap:¬af.toArray.size*k.toNat>(2 ^ 63 - 1) / 8:=by
  have:sizeLine<=(2 ^ 63 - 1) / 8:=⋯
  lia
 have nk:¬(!Builtin.List.listFitsIndex k)=true:=by
  rw[fitsIndex_both h1 h2];exact Bool.false_ne_true
 have uk:¬Builtin.List.listTooLong (af.toArray.size*k.toNat)=true:=by
  rw[vxj ak];exact Bool.false_ne_true
 have iq:List.foldl (λx1 x2=>x1++x2) (List.toArray []) (List.replicate (if af.toArray.isEmpty=true then 0 else k.toNat) af.toArray)=(List.replicate k.toNat af).flatten.toArray:=by
  have f0:∀m,List.foldl (λx1 x2=>x1++x2) (List.toArray []) (List.replicate m af.toArray)=(List.replicate m af).flatten.toArray:=λm=>by
   have:=kv3 af m []
   simp_all
  cases af with|nil=>simp|cons a r'=>simp_all
 refine wpAny_binaryOp_repeat_ref ⋯ #[_,e,rfl] (λs'=>typeIs_int s' k t) noFill_list_mul F.fills_int_mul F.slot_int_rmul repeat_list F.slot_int_index.lookup
  (call_meets F.slot_int_rmul (typeIs_int s k t) F.entry_int_rmul (F.args_int_rmul_2 _ _) (int___rmul___int_list k t l af.toArray n)
   #[e,rfl,#[_,e,rfl],call_meets F.slot_list_mul #[_,e,rfl] F.entry_list_mul (F.args_list_mul_2 _ _) (AutoListH.list___mul___list_int_3 l af.toArray n k t nk hcap uk) #[e,?_]])
 rw[iq];exact#[.ref _,_,I.lnew (t':=s.toks) (r.rep k.toNat) (by rw[vq5,Nat.mul_comm];exact hz),rfl,q _ I.fresh]
def wkz(K:Frag):R2:=λx y H Q=>rI IntMulOk (λi j=>.int (i*j)) x y H Q\/wxl K x y H Q\/wxk x y H Q
theorem wzz{X K}(hK:autoParam (X.K=K) Ŕ):OpR X (binaryOp .Mult) (wkz K):=by subst hK;exact op_mulI.or (op_repR.or wqz)
theorem qwa{a}(h:a.natAbs.log2<2000000):Builtin.Int.intBits a<=2000000:=by
 unfold Builtin.Int.intBits
 split
 ·simp_all
 ·omega
theorem mulOk_of{a b}(h:V9 a b=true):IntMulOk a b:=by
 unfold V9 vjp at h;simp at h;rcases h with(h|h)|h
 ·exact .of_left (intBits_le_64 h.1 h.2)
 ·exact .of_right (intBits_le_64 h.1 h.2)
 ·have h1:=qwa h.1;have h2:=qwa h.2;unfold IntMulOk Builtin.Int.intTooBig;have e:2 ^ 27=134217728:=⋯
  have hb:bitsLine=134217728:=e
  grind
theorem RepA.reps{K H ds xs bs}(h:RepA K H true ds xs bs):∀k,∃cs,RepA K H true (List.replicate k ds).flatten (List.replicate k xs).flatten cs/\∀b∈cs,b∈bs
 |0=>#[[],by simp only[List.replicate_zero,List.flatten_nil];unfold RepA;exact#[rfl,rfl],λ_ z=>(nomatch z)]
 |k+1=>by
  obtain⟨cs,r,hc⟩:=RepA.reps h k;exact#[bs++cs,r.app h,λb hb=>(aA hb).elim id (hc b)]
theorem wk6{K}:Ad2 K (wkz K) W6:=by
 intro H x y s Q ox oy hf k;unfold W6 at hf;dsimp only at hf
 split at hf
 ·rename_i i j e1 e2
  split at hf
  ·rename_i hm;cases oq9 hf;exact .inl #[i,j,v5 ox e1,v5 oy e2,mulOk_of hm,k _ H rfl rfl Q8]
  ·cases hf
 ·rename_i a n e1 e2
  split at hf
  ·rename_i hc;cases oq9 hf;obtain⟨l,xs,bs,e3,q3,r3,h3⟩:=JV ox (.inl e1) hc.2.2.2;have q3:LsR K H l xs:=by rcases q3 with⟨_,z⟩|⟨z,_⟩;exact z;rw[e1]at z;cases z
   obtain⟨cs,r4,h4⟩:=r3.reps n.toNat;exact .inr (.inl #[l,n,xs,e3,v5 oy e2,q3,hc.1,hc.2.1,by rw[<-r3.len];exact hc.2.2.1,λp hp=>(k _ _ rfl rfl (W5 hp r4 λb hb=>ll9 _ (h3 b (h4 b hb))))])
  ·cases hf
 ·rename_i z n e1 e2
  split at hf
  ·rename_i hc;cases oq9 hf;exact .inr (.inr #[z,n,(zV ox e1).1,v5 oy e2,hc.1,k _ H rfl rfl (xvi hc.2)])
  ·cases hf
 ·cases hf
def dec(h:Heap)(u:Value):D:=open Classical in if e:∃d,qW h d u then e.choose else .non
theorem qkf{h u d}(r:qW h d u):dec h u=d:=by
 unfold dec;have e:∃d,qW h d u:=#[d,r];rw[dif_pos e];exact kq8 e.choose_spec r
theorem kvc{h d}:∀{ds us},CReps h ds us->us.any (λu=>peq (dec h u) d)=ds.any λz=>peq z d
 |[],_,r=>by rw[r];rfl
 |z::ds,_,r=>by
  obtain⟨u,rr,rfl,h1,h2⟩:=r;rw[List.any_cons,List.any_cons,qkf h1,kvc h2]
theorem kq7{h}:∀{ds us u},CReps h ds us->u∈us->∃d∈ds,qW h d u
 | [],_,_,r,hu=>by rw[r]at hu;cases hu
 | z::ds,_,u,r,hu=>by
  obtain⟨u',rr,rfl,h1,h2⟩:=r;rcases aD hu with rfl|hu
  ·exact#[z,X6,h1]
  ·obtain⟨d,hd,c⟩:=kq7 h2 hu;exact#[d,lc9 _ hd,c]
theorem kje:∀{n ds d},D.flats n ds=true->d∈ds->d.flat n=true
 |_,[],_,_,h=>by grind
 |n,z::ds,d,f,h=>by
  unfold D.flats at f;rw[Bool.and_eq_true]at f;rcases aD h with rfl|h
  ·exact f.1
  ·exact kje f.2 h
section
variable {X:Cx}{Z:Fx0}{K:Frag}{q qa qb:Bool}{a b c:Ex}{u v:Ts}{e ea eb:Expr}{es:List Expr}{pos p:Pos}{σ:L2.St}{H:Hp}{L:Ls}{E:En}
def vk1(K:Frag)(lm:Bool):R2:=λx y H Q=>∃d ds as bs p xs,RepL K H true d x as/\y=.ref p/\(SqL K H p xs\/SqT K H p xs)/\RepA K H true ds xs bs/\d.flat 30=true/\D.flats 30 ds=true/\Q (.bl (if lm then !(ds.any λz=>peq z d)else ds.any λz=>peq z d)) H
theorem wv1(hu:X.A.units+64<cLine):OpR X (compareOp .In) (vk1 X.K false):=by
 rintro a8 s σ H x y v u Q I rx ry ⟨d,ds,as,bs,p,xs,h1,rfl,hq,ra,f1,f2,q⟩;cases ry;have he:∀{us},CReps s.heap ds us->∀w,w∈us.toArray->SeqAt.EqAt X.A.in1 s w v (peq (dec s.heap w) d):=fun {us} cr w hw=>by
  obtain⟨d',hd,c⟩:=kq7 cr (by simpa using hw);rw[qkf c];exact YW 30 (kje f2 hd) c (VZ I h1 f1 rx) (by grind)
 rcases hq with hq|hq
 ·obtain⟨af,r,pl,hz⟩:=I.list hq;have cr:=creps_of I ra f2 r;refine SeqAt.in_listAt _ pl.isList (he cr) #[.bl _,H,I,rfl,?_]
  rwa [List.any_toArray,kvc cr]
 ·obtain⟨af,r,pl,hz⟩:=I.tuple hq;have cr:=creps_of I ra f2 r;refine SeqAt.in_tupleAt _ pl (he cr) #[.bl _,H,I,rfl,?_]
  rwa [List.any_toArray,kvc cr]
theorem qxt(hu:X.A.units+64<cLine):OpR X (compareOp .NotIn) (vk1 X.K true):=by
 rintro a8 s σ H x y v u Q I rx ry ⟨d,ds,as,bs,p,xs,h1,rfl,hq,ra,f1,f2,q⟩;cases ry;have he:∀{us},CReps s.heap ds us->∀w,w∈us.toArray->SeqAt.EqAt X.A.in1 s w v (peq (dec s.heap w) d):=fun {us} cr w hw=>by
  obtain⟨d',hd,c⟩:=kq7 cr (by simpa using hw);rw[qkf c];exact YW 30 (kje f2 hd) c (VZ I h1 f1 rx) (by grind)
 rcases hq with hq|hq
 ·obtain⟨af,r,pl,hz⟩:=I.list hq;have cr:=creps_of I ra f2 r;refine SeqAt.notIn_listAt _ pl.isList (he cr) #[.bl _,H,I,rfl,?_]
  rwa [List.any_toArray,kvc cr]
 ·obtain⟨af,r,pl,hz⟩:=I.tuple hq;have cr:=creps_of I ra f2 r;refine SeqAt.notIn_tupleAt _ pl (he cr) #[.bl _,H,I,rfl,?_]
  rwa [List.any_toArray,kvc cr]
def vk0(lm:Bool):R2:=λx y H Q=>∃i j,x=.str i/\y=.str j/\Q (.bl (if lm then !xka i j else xka i j)) H
theorem opInStr:OpR X (compareOp .In) (vk0 false):=λa8 s σ H x y v u Q I rx ry #[i,j,e1,e2,q]=>vko a8 s σ H x y v u Q I rx ry #[i,j,e1,e2,q]
theorem opNotInStr:OpR X (compareOp .NotIn) (vk0 true):=λa8 s σ H x y v u Q I rx ry #[i,j,e1,e2,q]=>qjg a8 s σ H x y v u Q I rx ry #[i,j,e1,e2,q]
def wxp(K:Frag)(lm:Bool):R2:=λx y H Q=>vk0 lm x y H Q\/vk1 K lm x y H Q
theorem vkp(hu:X.A.units+64<cLine)(hK:autoParam (X.K=K) Ŕ):OpR X (compareOp .In) (wxp K false):=by subst hK;exact opInStr.or (wv1 hu)
theorem kj3(hu:X.A.units+64<cLine)(hK:autoParam (X.K=K) Ŕ):OpR X (compareOp .NotIn) (wxp K true):=by subst hK;exact opNotInStr.or (qxt hu)
theorem Q6{H l xs}(h:LsR K H l xs):SqL K H l xs:=h.sq
theorem kz8{x y:Sl}{ys}{lm:Bool}{Q}(ox:x.ok K H)(oy:y.ok K H)(hy:y.d=.lst ys\/y.d=.tup ys)(hc:(x.d.flat 30&&D.flats 30 ys)=true)
  (k:Q (.bl (if lm then !(ys.any λz=>peq z x.d)else ys.any λz=>peq z x.d)) H):wxp K lm x.v y.v H Q:=by
 rw[Bool.and_eq_true]at hc;obtain⟨l,xs,bs,e3,q3,r3,_⟩:=items oy hy;have r3':RepA K H true ys xs bs:=by
  cases ho:(y.o != .dp)with|true=>rw[ho]at r3;exact r3|false=>rw[ho]at r3;exact r3.wk
 refine .inr #[x.d,ys,x.as,bs,l,xs,RepO.wk ox,e3,?_,r3',hc.1,hc.2,k];rcases q3 with⟨_,z⟩|⟨_,z⟩
 ·exact .inl (Q6 z)
 ·exact .inr z
theorem vw0:Ad2 K (wxp K false) (pu2 Jj):=by
 intro H x y s Q ox oy hf k;unfold pu2 Jj fIn at hf;dsimp only at hf;cases hy:y.d with
 | lst ys=>
  rw[hy]at hf;dsimp only at hf
  split at hf
  ·rename_i hc;cases oq9 hf;exact kz8 ox oy (.inl hy) hc (k _ H rfl rfl xV)
  ·cases hf
 | tup ys=>
  rw[hy]at hf;dsimp only at hf
  split at hf
  ·rename_i hc;cases oq9 hf;exact kz8 ox oy (.inr hy) hc (k _ H rfl rfl xV)
  ·cases hf
 | str b=>
  rw[hy]at hf;dsimp only at hf
  split at hf
  ·rename_i a hx;cases oq9 hf;exact .inl #[a,b,(zV ox hx).1,(zV oy hy).1,k _ H rfl rfl xV]
  ·cases hf
 |_=>simp_all
theorem kjm:Ad2 K (wxp K true) (pu2 Jq):=by
 intro H x y s Q ox oy hf k;unfold pu2 Jq QQ fIn at hf;dsimp only at hf;cases hy:y.d with
 | lst ys=>
  rw[hy]at hf;dsimp only at hf
  split at hf
  ·rename_i hc;cases oq9 hf;exact kz8 ox oy (.inl hy) hc (k _ H rfl rfl xV)
  ·cases hf
 | tup ys=>
  rw[hy]at hf;dsimp only at hf
  split at hf
  ·rename_i hc;cases oq9 hf;exact kz8 ox oy (.inr hy) hc (k _ H rfl rfl xV)
  ·cases hf
 | str b=>
  rw[hy]at hf;dsimp only at hf
  split at hf
  ·rename_i a hx;cases oq9 hf;exact .inl #[a,b,(zV ox hx).1,(zV oy hy).1,k _ H rfl rfl xV]
  ·cases hf
 |_=>rw[hy]at hf;cases hf
theorem kky{g d v as}(h:RepL K H g d v as):decide (v=.non)=isNon d:=by
 cases d with|non=>unfold RepL at h;rw[h.1];rfl|bl _=>unfold RepL at h;rw[h.1];rfl|int _=>unfold RepL at h;rw[h.1];rfl|str _=>unfold RepL at h;rw[h.1];rfl|tup _=>unfold RepL at h;obtain⟨a,xs,e,_⟩:=h;rw[e];rfl|lst _=>unfold RepL at h;obtain⟨a,xs,bs,e,_⟩:=h;rw[e];rfl|dct _=>unfold RepL at h;obtain⟨a,xs,bs,e,_⟩:=h;rw[e];rfl|obj _ _=>unfold RepL at h;obtain⟨_,x,o,C,e,_⟩:=h;rw[e];rfl
theorem JW:Ad2 K (λx y H Q=>y=.non/\Q (.bl (decide (x=.non))) H) (f2First fIsNon):=by
 intro H x y s Q ox oy hf k;unfold f2First fIsNon at hf
 split at hf
 ·rename_i hy;cases oq9 hf;have e:=kky (RepO.wk oy);rw[hy]at e;refine#[of_decide_eq_true e,?_];rw[kky (RepO.wk ox)];exact k _ H rfl rfl xV
 ·grind
theorem qvg:Ad2 K (λx y H Q=>y=.non/\Q (.bl (!decide (x=.non))) H) (f2First fNotNon):=by
 intro H x y s Q ox oy hf k;unfold f2First fNotNon at hf
 split at hf
 ·rename_i hy;cases oq9 hf;have e:=kky (RepO.wk oy);rw[hy]at e;refine#[of_decide_eq_true e,?_];rw[kky (RepO.wk ox)];exact k _ H rfl rfl xV
 ·grind
theorem qx0:Ad1 K (rU λi=>.int (-i)) (pu1 VQ):=by
 intro H x s Q ox hf k;unfold pu1 VQ at hf
 split at hf
 ·rename_i i e;cases oq9 hf;exact#[i,v5 ox e,k _ H rfl rfl Q8]
 ·cases hf
theorem vqk n i:_root_.Q.ixN n i=L2.ixN n i:=rfl
theorem wvf{x y:Sl}{d Q}(ox:x.ok K H)(oy:y.ok K H)(hf:jQ x.d y.d=some d)(k:∀z:Sl,z.o=sub x.o->z.d=d->z.ok K H->(∀b∈z.frz,b∈x.frz)->(∀b∈z.as,b∈x.as)->Q z.v H):rIx K x.v y.v H Q:=by
 have seq:∀ds,(x.d=.lst ds\/x.d=.tup ds)->∀i,y.d=.int i->((_root_.Q.ixN ds.length i).bind λj=>ds[j]?)=some d->rIx K x.v y.v H Q:=by
  intro ds hx i hy hd;obtain⟨l,xs,bs,e3,q3,r3,h3,h4⟩:=items ox hx;cases hj:_root_.Q.ixN ds.length i with
  | none=>grind
  | some j=>
   rw [hj]at hd;obtain⟨v,cs,e4,r4,h5⟩:=r3.get (hd);have oe:atI xs i=some v:=by
    unfold atI
    rwa [<-r3.len,<-vqk,hj]
   have fin:Q v H:=by
    cases ho:x.o with
    | dp=>
     rw[ho]at r4;exact k #[.dp,d,v,cs] (by rw[ho];rfl) rfl r4 (λb hb=>(nomatch hb)) λb hb=>h3 b (h5 b hb)
    | no=>
     rw[ho]at r4;exact k #[.no,d,v,cs] (by rw[ho];rfl) rfl r4 (λb hb=>h4 ⋯ b (h5 b hb)) λb hb=>h3 b (h5 b hb)
    | rt=>
     rw[ho]at r4;exact k #[.no,d,v,cs] (by rw[ho];rfl) rfl r4 (λb hb=>h4 ⋯ b (h5 b hb)) λb hb=>h3 b (h5 b hb)
   rcases q3 with⟨_,z⟩|⟨_,z⟩
   ·exact .inl #[l,xs,i,v,e3,v5 oy hy,Q6 z,oe,fin]
   ·exact .inr (.inl #[l,xs,i,v,e3,v5 oy hy,z,oe,fin])
 unfold jQ at hf;cases hx:x.d with
 | lst ds=>
  rw [hx]at hf;cases hy:y.d with| int i=>rw[hy]at hf;exact seq ds (.inl hx) i hy hf| _=>rw[hy]at hf;cases hf
 | tup ds=>
  rw [hx]at hf;cases hy:y.d with| int i=>rw[hy]at hf;exact seq ds (.inr hx) i hy hf| _=>rw[hy]at hf;cases hf
 | str z=>
  rw [hx]at hf;cases hy:y.d with
  | int i=>
   rw [hy]at hf;have hf:((_root_.Q.ixN z.cps.size i).bind λj=>(z.cps.toList[j]?).map λc=>D.str #[(List.toArray [c])])=some d:=hf;cases hj:_root_.Q.ixN z.cps.size i with
   | none=>grind
   | some j=>
    rw[hj]at hf;cases hc:z.cps.toList[j]? with
    | none=>rw[Option.bind_some,hc]at hf;cases hf
    | some c=>
     rw[Option.bind_some,hc]at hf;cases oq9 hf;have oe:atI z.cps.toList i=some c:=by
      unfold atI
      rwa [Xm,<-vqk,hj]
     obtain⟨e1,hz⟩:=zV ox hx;refine .inr (.inr #[z,i,c,e1,v5 oy hy,hz,oe,?_]);have rp:∀g,RepL K H g _ (.str #[(List.toArray [c])]) []:=λg=>Kz (show 1<=sizeLine by decide)
     cases ho:x.o with|dp=>exact k #[.dp,.str #[(List.toArray [c])],.str #[(List.toArray [c])],[]] (by rw[ho];rfl) rfl (rp false) (λb hb=>(nomatch hb)) λb hb=>(nomatch hb)|no=>exact k #[.no,.str #[(List.toArray [c])],.str #[(List.toArray [c])],[]] (by rw[ho];rfl) rfl (rp true) (λb hb=>(nomatch hb)) λb hb=>(nomatch hb)|rt=>exact k #[.no,.str #[(List.toArray [c])],.str #[(List.toArray [c])],[]] (by rw[ho];rfl) rfl (rp true) (λb hb=>(nomatch hb)) λb hb=>(nomatch hb)
  |_=>rw[hy]at hf;cases hf
 |non=>rw[hx]at hf;cases hf|bl _=>rw[hx]at hf;cases hf|int _=>rw[hx]at hf;cases hf|dct _=>simp_all|obj _ _=>rw[hx]at hf;cases hf
theorem q_ix(ha:QV X Z qa a ea)(hb:QV X Z true b eb)(hs:kzm eb)(hK:autoParam (X.K=Z.K) Ŕ):QV X Z qa (jk a b) (.Subscript ea eb pos):=
 qV (wzp (hK▸wjl) ha hb hs) fun σ H Q ao=>ex8 ao λE L r m w hc xc k=>by
  refine vk m w (hc) xc λE1 s h1 x L1 H1 e1 e2 m1 w1 ok fr sr st sm=>(vk m1 w1 h1 (xc.step st) λE2 s2 h2 y L2 H2 e3 e4 m2 w2 iu qg p8 bu fk=>?_)
  obtain⟨z,hz,rfl⟩:=zQ h2;cases hf:jQ s.2 s2.2 with
  |none=>simp_all
  |some d=>
   rw[hf]at hz;cases oq9 hz;have kx:=Vw ok fr bu (fk rfl);exact wvf kx.1 iu (by rw[e2,e4];exact hf) λz zo zd ug zf za=>k _ _ rfl z L2 H2 (by simp_all) zd m2 w2 ug (λb hb=>kx.2 b (zf b hb)) (YV sr za) (st.trans bu) λhq=>qz (sm hq) (fk rfl)
theorem Zw(ht:QT X Z q u e)(ha:QE X Z q a ea)(hb:QE X Z q b eb):QE X Z q (cIf u a b) (.IfExp e ea eb pos):=qV (vxa ht ha hb) fun σ H Q ao=>ex8 ao λE L r m w hc xc k=>
 vwe m w (hc) xc λE1 s h1 L1 H1 m1 w1 st sm=>by
  have fin:∀{c},c E1=some r->tQ Z q c σ H1 Q:=λhc=>#[E1,L1,r,m1,w1,hc,xc.step st,λE' a z x L' H' e1 e2 m' w' i9 kl=>k E' a z x L' H' e1 e2 m' w' (st.trans i9) λhq=>#[qz (sm hq) (kl hq).1,λb hb=>zX (sm hq) ((kl hq).2 b hb)]]
  cases s with|true=>simp_all|false=>rw[Xg (by simp)]at h1 ⊢;exact fin h1
theorem wW{op}(h:QE X Z q a ea):QE X Z q a (.BoolOp op [ea] pos):=wzm h
theorem x3(ha:QV X Z q a ea)(hb:QE X Z q b (.BoolOp .And (eb::es) pos)):QE X Z q (vQ a b) (.BoolOp .And (ea::eb::es) pos):=qV (wzs ha hb) fun σ H Q ao=>ex8 ao λE L r m w hc xc k=>
 vk m w (hc) xc λE1 s h1 x L1 H1 e1 e2 m1 w1 ok fr sr st sm=>by
  cases hs:s.2 with
  | bl kk=>
   rw[hs]at h1;refine#[kk,V2 ok (e2.trans hs),?_];cases kk with
   |true=>
    exact#[E1,L1,r,m1,w1,h1,xc.step st,λE' a z x L' H' e1 e2 m' w' i9 kl=>k E' a z x L' H' e1 e2 m' w' (st.trans i9) λhq=>#[qz (sm hq) (kl hq).1,λb hb=>zX (sm hq) ((kl hq).2 b hb)]]
   |false=>
    cases oq9 h1;obtain⟨w3,dj⟩:=Q7 w1 st (xV (fr:=[])) (λ_ z=>(nomatch z)) (λ_ z=>(nomatch z)) (λ_ z=>(nomatch z));exact k _ _ rfl _ L1 H1 rfl rfl m1 w3 dj λhq=>#[sm hq,λ_ z=>(nomatch z)]
  |_=>rw[hs]at h1;cases h1
theorem xwt(ha:QV X Z q a ea)(hb:QE X Z q b (.BoolOp .Or (eb::es) pos)):QE X Z q (cOr a b) (.BoolOp .Or (ea::eb::es) pos):=qV (xvf ha hb) fun σ H Q ao=>ex8 ao λE L r m w hc xc k=>
 vk m w (hc) xc λE1 s h1 x L1 H1 e1 e2 m1 w1 ok fr sr st sm=>by
  cases hs:s.2 with
  | bl kk=>
   rw[hs]at h1;refine#[kk,V2 ok (e2.trans hs),?_];cases kk with
   |false=>
    exact#[E1,L1,r,m1,w1,h1,xc.step st,λE' a z x L' H' e1 e2 m' w' i9 kl=>k E' a z x L' H' e1 e2 m' w' (st.trans i9) λhq=>#[qz (sm hq) (kl hq).1,λb hb=>zX (sm hq) ((kl hq).2 b hb)]]
   |true=>
    cases oq9 h1;obtain⟨w3,dj⟩:=Q7 w1 st (xV (fr:=[])) (λ_ z=>(nomatch z)) (λ_ z=>(nomatch z)) (λ_ z=>(nomatch z));exact k _ _ rfl _ L1 H1 rfl rfl m1 w3 dj λhq=>#[sm hq,λ_ z=>(nomatch z)]
  |_=>rw[hs]at h1;cases h1
theorem xwe{x:Sl}{k}(ok:x.ok K H)(h:truth x.d=some k)(hd:∀kvs,x.d≠.dct kvs):xqg K x.v H k:=by
 cases hx:x.d with
 |non=>rw[hx]at h;rw[wj9 ok hx];exact(oq9 h).symm|bl b=>rw[hx]at h;rw[V2 ok hx];exact(oq9 h).symm|int i=>rw[hx]at h;rw[v5 ok hx];exact(oq9 h).symm
 |str z=>
  rw[hx]at h;obtain⟨e,hz⟩:=zV ok hx;rw[e];refine#[hz,?_];rw[<-oq9 h];show _=(((z.cps.size:Nat):Int) != 0);rw[Bool.eq_iff_iff];simp
 |lst ds=>
  rw[hx]at h;obtain⟨a,xs,bs,e,q,r,_⟩:=items ok (.inl hx);rw[e];have q':LsR K H a xs:=by rcases q with⟨_,z⟩|⟨z,_⟩;exact z;rw[hx]at z;cases z
  refine .inl #[xs,Q6 q',?_];rw[<-oq9 h];have:=r.len;cases ds<;>cases xs<;>simp_all
 |tup ds=>
  rw[hx]at h;obtain⟨a,xs,bs,e,q,r,_⟩:=items ok (.inr hx);rw[e];have q':SqT K H a xs:=by rcases q with⟨z,_⟩|⟨_,z⟩;rw[hx]at z;cases z;exact z
  refine .inr (.inl #[xs,q',?_]);rw[<-oq9 h];have:=r.len;cases ds<;>cases xs<;>simp_all
 |dct kvs=>exact absurd hx (hd kvs)|obj c f=>rw[hx]at h;cases h
theorem kzu{d k}(h:truthQ d=some k):truth d=some k/\∀kvs,d≠.dct kvs:=by
 cases d<;>first|exact#[h,λ_ z=>nomatch z]|cases h
theorem z5(h:QV X Z q a ea)(he:autoParam (∀i5,isTrue ea X.env i5=(do let v <-i5;standAt ea.pos;holding [v] (truthy v))) Ŗ)(hK:autoParam (X.K=Z.K) Ŕ):QT X Z q (tEQ a) ea:=qw1 (vwz h he) fun σ H Q ao=>ex8 ao λE L r m w hc xc k=>
 vk m w (show bnd (a E) _=some r from hc) xc λE1 s h1 x L1 H1 e1 e2 m1 w1 ok fr sr st sm=>by
  obtain⟨kk,hk,rfl⟩:=zQ h1;obtain⟨h2,h3⟩:=kzu hk;exact#[kk,hK▸xwe ok (by rw[e2];exact h2) (by rw[e2];exact h3),k _ _ rfl L1 H1 m1 w1 st sm]
theorem vwu(h:QV X Z q a ea)(hK:autoParam (X.K=Z.K) Ŕ):QE X Z q (vvs a) (.UnaryOp .Not ea pos):=by
 intro a8 s σ H Q I ⟨E,L,r,m,w,hc,xc,k⟩;refine UnaryOp_ (thn (h a8 s σ H _ I (vk (G:=λv H1=>∃kk,xqg X.K v H1 kk/\Q (.bl (!kk)) H1) m w (hc) xc λE1 s h1 x L1 H1 e1 e2 m1 w1 ok fr sr st sm=>?_)) λv s1 #[x,H1,I1,r1,kk,t1,q1]=>?_)
 ·obtain⟨y,hy,rfl⟩:=zQ h1;cases hk:truthQ s.2 with
  |none=>simp_all
  |some kk=>
   rw[hk]at hy;cases oq9 hy;obtain⟨h2,h3⟩:=kzu hk;refine#[kk,hK▸xwe ok (by rw[e2];exact h2) (by rw[e2];exact h3),?_];obtain⟨w3,dj⟩:=Q7 w1 st (xV (fr:=[])) (λ_ z=>(nomatch z)) (λ_ z=>(nomatch z)) (λ_ z=>(nomatch z));exact k _ _ rfl _ L1 H1 rfl rfl m1 w3 dj λhq=>#[sm hq,λ_ z=>(nomatch z)]
 ·exact not_of (thn (vzm a8 s1 σ H1 x v _ I1 r1 #[kk,t1,q1]) λc s2 #[H2,I2,q2]=>#[.bl _,H2,I2,rfl,q2])
end
theorem ZQ{α:Type}:∀{L i} {q:α},L[i]?=some q->∃A B,L=A++q::B/\∀q',L.set i q'=A++q'::B
 |[],_,_,h=>by simp at h
 |a::L,0,q,h=>by
  have e:a=q:=by simpa using h
  subst e;exact#[[],L,rfl,λ_=>rfl]
 |a::L,i+1,q,h=>by
  obtain⟨A,B,e,f⟩:=ZQ (by simpa using h);exact#[a::A,B,by rw[e];rfl,λq'=>by rw[List.set_cons_succ,f];rfl]
section
variable {K:Frag}{H:Hp}{M T L:Ls}{y y':Sl}{l:Addr}{ob:HO}
theorem World.write(w:World K H (some y::(T++M)))(hl:l∈y.own)(ok':y'.ok K (upd H l ob))(nd:y'.own.Nodup)(h1:∀a∈y'.own,a∈y.own\/a∈jv T)(h2:∀a∈y'.frz,a∈y.as\/a∈jv T\/a∈kw T)(h3:∀a∈y'.own,a∉y'.frz):
  World K (upd H l ob) (some y'::M)/\Step H (some y::(T++M)) (upd H l ob) (some y'::M):=by
 have wn:=w.nd;rw [v8,k9,Xb,Xb]at wn;obtain⟨n1,⟨n2,n3,n4⟩,n5⟩:=wn;have oy:l∈jv (some y::(T++M)):=ll9 _ hl;have oq:=w.own_al oy;have ds:∀a,(a∈y.own\/a∈jv T\/a∈jv M)->¬(a∈y.frz\/a∈kw T\/a∈kw M):=λa ha hf=>by
  refine w.ds a ?_ ?_
  ·rw[v8,k9];rcases ha with z|z|z
   ·exact ll9 _ z
   ·exact lr9 _ (ll9 _ z)
   ·exact lr9 _ (lr9 _ z)
  ·rw[Jz,qZ];rcases hf with z|z|z
   ·exact ll9 _ z
   ·exact lr9 _ (ll9 _ z)
   ·exact lr9 _ (lr9 _ z)
 have noM:∀z,some z∈M->l∉z.as:=λz hz ha=>by
  rcases Sl.as_of ha with q|q
  ·exact n5 l hl l (lr9 _ (mem_owned.mpr #[z,hz,q])) rfl
  ·exact ds l (.inl hl) (.inr (.inr (mem_frozen.mpr #[z,hz,q])))
 have ke:∀a o,H a=some o->a≠l->upd H l ob a=some o:=λa o e ne=>by rw[qQ ne];exact e
 have kp:∀as,l∉as->Kp H _ as:=λas hn=>by
  refine#[λa xs e=>ke a _ e λz=>?_,λa o u e=>ke a _ e λz=>?_,λa ha o e=>ke a o e λz=>hn (z▸ha)]
  ·grind
  ·subst z;rcases oq with⟨_,q⟩|⟨_,q⟩|⟨_,q⟩<;>(rw[e]at q;cases q)
 have wM:World K (upd H l ob) M:=by
  have w1:=w.tail.right;exact#[λz hz=>RepO.kp (w1.ok z hz) (kp _ (noM z hz)),w1.nd,w1.ds]
 refine#[wM.cons ok' nd (λa ha hM=>?_) (λa ha hM=>?_) (λa ha hM=>?_) h3,λa o e hn=>ke a o e λz=>hn (z▸oy),λa ha=>?_,λa ha=>?_]
 ·rcases h1 a ha with z|z
  ·exact n5 a z a (lr9 _ hM) rfl
  ·exact n4 a z a hM rfl
 ·rcases h1 a ha with z|z
  ·exact ds a (.inl z) (.inr (.inr hM))
  ·exact ds a (.inr (.inl z)) (.inr (.inr hM))
 ·rcases h2 a ha with z|z|z
  ·rcases Sl.as_of z with z|z
   ·exact n5 a z a (lr9 _ hM) rfl
   ·exact ds a (.inr (.inr hM)) (.inl z)
  ·exact n4 a z a hM rfl
  ·exact ds a (.inr (.inr hM)) (.inr (.inl z))
 ·rw[v8,k9];rcases aA ha with z|z
  ·rcases h1 a z with z|z
   ·exact .inl (ll9 _ z)
   ·exact .inl (lr9 _ (ll9 _ z))
  ·exact .inl (lr9 _ (lr9 _ z))
 ·rw[v8,k9,Jz,qZ];rcases aA ha with z|z
  ·rcases h2 a z with z|z|z
   ·rcases Sl.as_of z with z|z
    ·exact .inr (.inl (ll9 _ z))
    ·exact .inl (ll9 _ z)
   ·exact .inr (.inl (lr9 _ (ll9 _ z)))
   ·exact .inl (lr9 _ (ll9 _ z))
  ·exact .inl (lr9 _ (lr9 _ z))
theorem World.writeAt{i}(w:World K H (T++L))(hy:L[i]?=some (some y))(hl:l∈y.own)(ok':y'.ok K (upd H l ob))(nd:y'.own.Nodup)(h1:∀a∈y'.own,a∈y.own\/a∈jv T)(h2:∀a∈y'.frz,a∈y.as\/a∈jv T\/a∈kw T)(h3:∀a∈y'.own,a∉y'.frz):
  World K (upd H l ob) (L.set i (some y'))/\Step H (T++L) (upd H l ob) (L.set i (some y')):=by
 obtain⟨A,B,e,f⟩:=ZQ hy;rw[f];subst e;have p:(T++(A++some y::B)).Perm (some y::(T++(A++B))):=by
  refine(List.Perm.append_left T (List.perm_middle)).trans List.perm_middle
 obtain⟨w2,s2⟩:=World.write (w.perm p) hl ok' nd h1 h2 h3;exact#[w2.perm List.perm_middle.symm,s2.perm p.symm List.perm_middle.symm]
end
theorem RepA.snoc{K H g d x cs}(h:RepL K H g d x cs){ds xs bs}(r:RepA K H g ds xs bs):RepA K H g (ds++[d]) (xs++[x]) (bs++cs):=by
 refine RepA.app ?_ r;exact#[x,[],cs,[],rfl,by simp,h,by unfold RepA;exact#[rfl,rfl]]
theorem kxm{K H}{y:Sl}{ds}(ok:y.ok K H)(hd:y.d=.lst ds)(ho:y.o≠.no):∃l xs bs,y.v=.ref l/\H l=some (.lst xs)/\y.as=l::bs/\l∈y.own/\RepA K H (y.o != .dp) ds xs bs:=by
 obtain⟨o,d,v,as⟩:=y;dsimp only at hd ho;subst hd;cases o with
 |no=>exact absurd rfl ho
 |rt=>
  obtain⟨a,xs,bs,rfl,r,q,rfl⟩:=(ok);exact#[a,xs,bs,rfl,q,rfl,by simp[Sl.own],r]
 |dp=>
  have ok:RepL K H false _ v as:=ok;obtain⟨a,xs,bs,rfl,r,q⟩:=ok;rcases q with⟨q,rfl⟩|⟨z,_⟩
  ·exact#[a,xs,bs,rfl,q,rfl,by simp[Sl.own],r]
  ·grind
theorem kxl{K H T L i y l xs xs' bs cs o' ds'}(w:World K H (T++L))(hy:L[i]?=some (some y))(hH:H l=some (.lst xs))(ha:y.as=l::bs)(hl:l∈y.own)(hv:y.v=.ref l)
  (r:RepA K H (o' != .dp) ds' xs' cs) (hc:(o'=.rt/\∀a∈cs,a∈bs\/a∈jv T\/a∈kw T)\/(o'=.dp/\y.o=.dp/\cs.Nodup/\∀a∈cs,a∈bs\/a∈jv T)):
  World K (upd H l (.lst xs')) (L.set i (some #[o',.lst ds',y.v,l::cs]))/\Step H (T++L) (upd H l (.lst xs')) (L.set i (some #[o',.lst ds',y.v,l::cs])):=by
 have oL:=mem_owned.mpr #[y,vX hy,hl];have oy:l∈jv (T++L):=by rw[k9];exact lr9 _ oL
 have nd:=w.nd;rw [k9,Xb]at nd;have nT:=λz=>nd.2.2 l z l oL rfl
 have yn:y.own.Nodup:=by
  obtain⟨A,B,e,_⟩:=ZQ hy;have:=nd.2.1;rw[e,k9,Xb]at this;exact(List.nodup_append.mp this.2.1).1
 have nb:l∉bs:=λz=>by
  cases ho:y.o with
  | no=>unfold Sl.own at hl;rw[ho]at hl;exact nomatch hl
  | rt=>
   have:l∈y.frz:=by unfold Sl.frz;rw[ho,ha];exact z
   exact w.ds l oy (by rw[qZ];exact lr9 _ (mem_frozen.mpr #[y,vX hy,this]))
  | dp=>
   unfold Sl.own at yn;rw[ho,ha]at yn;exact(List.nodup_cons.mp yn).1 z
 have nc:l∉cs:=λz=>by
  rcases hc with⟨_,hc⟩|⟨_,_,_,hc⟩
  ·rcases hc l z with q|q|q
   ·exact nb q
   ·exact nT q
   ·exact(λz=>w.ds l oy (by rw[qZ];exact ll9 _ z)) q
  ·rcases hc l z with q|q
   ·exact nb q
   ·exact nT q
 have kp:Kp H (upd H l (.lst xs')) cs:=by
  have k2:∀a o,H a=some o->a≠l->upd H l (.lst xs') a=some o:=λa o e ne=>by rw[qQ ne];exact e
  refine#[λa zs e=>k2 a _ e λz=>?_,λa o u e=>k2 a _ e λz=>?_,λa ha o e=>k2 a o e λz=>nc (z▸ha)]
  ·grind
  ·grind
 have r':=r.kp kp;rcases hc with⟨rfl,hc⟩|⟨rfl,hdp,mw,hc⟩
 ·refine World.writeAt w hy hl (y':=_) #[l,xs',cs,hv,r',xK,rfl] (by simp[Sl.own]) (λa h=>?_) (λa h=>?_) (λa h z=>?_)
  ·have:a=l:=by simpa [Sl.own]using h
   grind
  ·rcases hc a (by simpa [Sl.frz]using h)with q|q
   ·exact .inl (ha▸lc9 _ q)
   ·exact .inr q
  ·have:a=l:=by simpa [Sl.own]using h
   subst this;exact nc (by simpa [Sl.frz]using z)
 ·have oa:y.own=y.as:=by unfold Sl.own;rw[hdp]
  refine World.writeAt w hy hl (y':=_) ?_ (List.nodup_cons.mpr #[nc,mw]) (λa h=>?_) (λa h=>(nomatch h)) (λa h z=>(nomatch z))
  ·show RepL K _ false _ y.v _;exact#[l,xs',cs,hv,r',.inl #[xK,rfl]]
  ·rcases aD (h)with q|q
   ·grind
   ·rcases hc a q with q|q
    ·exact .inl (by rw[oa,ha];exact lc9 _ q)
    ·exact .inr q
section
variable {X:Cx}{Z:Fx0}{pn:List Nat}{q:Bool}{c:Ex}{e:Expr}{σ:L2.St}{H:Hp}{L:Ls}{E:En}
theorem wjf{K}{x:Sl}{ds}(ok:x.ok K H)(hd:x.d=.lst ds):tyV K "list" x.v H:=by
 obtain⟨a,xs,bs,e1,q1,_⟩:=items ok (.inl hd);rw[e1];rcases q1 with⟨_,z⟩|⟨z,_⟩
 ·exact .inl #[rfl,xs,z.sq]
 ·grind
theorem xk0{K}{x:Sl}(ok:x.ok K H) b (hb:b=false->zj x.sd=true):∃cs,RepL K H b x.d x.v cs/\(∀a∈cs,a∈x.as)/\(b=false->∀a∈cs,a∈x.own)/\(b=false->x.own.Nodup->cs.Nodup):=by
 cases b with
 | true=>exact#[x.as,RepO.wk ok,λ_ h=>h,(λz=>by cases z),(λz=>by cases z)]
 | false=>
  by_cases ho:x.o=.dp
  ·have e:x.own=x.as:=by unfold Sl.own;rw[ho]
   refine#[x.as,?_,λ_ h=>h,λ_ a h=>by rw[e];exact h,λ_ n=>by rw[e]at n;exact n];have:=ok;unfold Sl.ok at this;rw[ho]at this;exact this
  ·have hp:x.d.pure=true:=by
    rcases Bool.or_eq_true_iff.mp (hb rfl)with z|z
    ·exact absurd (by simpa using z) ho
    ·exact z
   obtain⟨z,rp⟩:=RepL.pu (g':=false) (RepO.wk ok) hp;exact#[[],rp,λ_ h=>(nomatch h),λ_ _ h=>(nomatch h),λ_ _=>Y2]
theorem W1{α:Type}{l:List α}{i x}(h:l[i]?=some x):l.set i x=l:=by
 obtain⟨h1,h2⟩:=List.getElem?_eq_some_iff.mp h;rw[<-h2];simp
theorem mut1 {D' f i r} {G:V->V->Hp->Prop} (m:Mt E σ L) (w:World Z.K H L) (hc:xz f i c E=some r) (k:FlP Z pn D' σ H L r)
  (g:∀ l (x) (xs) (ds ds') (d) (bs cs) (H1) (gg),f ds d=some ds'->H1 l=some (.lst xs)->RepA Z.K H1 gg ds xs bs->RepL Z.K H1 gg d x cs ->
   (∀ xs' es,RepA Z.K H1 gg ds' xs' es->(∀a∈es,a∈bs\/a∈cs)->((bs++cs).Nodup->es.Nodup)->D'.nx σ (upd H1 l (.lst xs')))->G (.ref l) x H1):
  ∃ v,σ[i]?=some (some v)/\tyV Z.K "list" v H/\tQ Z q c σ H (G v):=by
 unfold xz at hc;cases h0:E[i]? with
 | none=>rw[h0]at hc;cases hc
 | some s0 =>
  cases s0 with
  | none=>rw[h0]at hc;cases hc
  | some s0=>
   obtain ⟨o0,d0⟩:=s0;cases d0 with
   | lst ds0=>
    rw [h0]at hc;obtain ⟨x0,a1,a2,a3,a4⟩:=m.get h0;refine #[x0.v,a4,wjf (w.ok x0 (vX a1)) a3,(WQ m w hc k λE1 s h1 x L1 H1 e1 e2 m1 w1 st _=>?_)];cases hE:E1[i]? with
    | none=>rw[hE]at h1;cases h1
    | some s1=>
     cases s1 with
     | none=>rw[hE]at h1;cases h1
     | some s1=>
      obtain⟨oo,dd⟩:=s1;rw [hE]at h1;cases dd with
      | lst ds=>
       dsimp only at h1
       by_cases il:oo=.no
       ·rw [Xd il]at h1;cases h1
       ·rw [Xg il]at h1;cases hfd:f ds s.2 with
        | none=>rw[hfd]at h1;cases h1
        | some ds'=>
         rw[hfd]at h1;obtain⟨y,b1,b2,b3,b4⟩:=m1.get hE;have hv:y.v=x0.v:=by rw[a4]at b4;exact(oq9 (oq9 b4)).symm
         obtain⟨l,xs,bs,c1,c2,c3,c4,c5⟩:=kxm (w1.ok y (lc9 _ (vX b1))) b3 (b2▸il);have ex0:=hv▸c1;rw[ex0];have wT:=w1;have mn:=w1.head;have nd:=w1.nd;rw[v8,Xb]at nd;have oT:jv [some x]=x.own:=by simp
         have fT:kw [some x]=x.frz:=by simp
         by_cases hd:oo=.dp/\zj s=true
         ·rw[Xd hd]at h1;cases oq9 h1;have hyo:=b2.trans hd.1;rw[hyo]at c5;obtain⟨cs,r1,h3,h4,h5⟩:=xk0 mn false λ_=>by rw[show x.sd=s from by simp[Sl.sd,e1,e2]];exact hd.2
          refine g l x.v xs ds ds' s.2 bs cs H1 false hfd c2 c5 (e2▸r1) λxs' es re he hn=>?_
          have ynd:(bs++cs).Nodup:=by
           have yo:y.own=l::bs:=by unfold Sl.own;rw[hyo,c3]
           obtain⟨A,B,e,_⟩:=ZQ b1;have q:=nd.2.1;rw[e,k9,v8,Xb]at q;have q2:=(List.nodup_append.mp q.2.1).1;rw[yo]at q2;rw[Xb];refine#[(List.nodup_cons.mp q2).2,h5 rfl nd.1,λa ha b hb ms=>?_];subst ms;exact nd.2.2 a (h4 rfl a hb) a (mem_owned.mpr #[y,vX b1,by rw[yo];exact lc9 _ ha]) rfl
          obtain⟨w3,s3⟩:=kxl (o':=.dp) (ds':=ds') (xs':=xs') wT b1 c2 c3 c4 c1 re (.inr #[rfl,hyo,hn ynd,λa ha=>(he a ha).imp id λz=>by rw[oT];exact h4 rfl a z]);refine k σ _ _ Pn.refl ?_ w3 (st.trans s3);have:=m1.set (x:=#[.dp,.lst ds',y.v,l::es]) i;rw[W1 b4]at this;exact this
         ·rw[Xg hd]at h1;cases oq9 h1;have c6:RepA Z.K H1 true ds xs bs:=by
           cases hb:(y.o != .dp)with|true=>rw[hb]at c5;exact c5|false=>rw[hb]at c5;exact c5.wk
          refine g l x.v xs ds ds' s.2 bs x.as H1 true hfd c2 c6 (e2▸RepO.wk mn) λxs' es re he hn=>?_
          obtain⟨w3,s3⟩:=kxl (o':=.rt) (ds':=ds') (xs':=xs') wT b1 c2 c3 c4 c1 re (.inl #[rfl,λa ha=>(he a ha).imp id λz=>by rw[oT,fT];exact Sl.as_of z]);refine k σ _ _ Pn.refl ?_ w3 (st.trans s3);have:=m1.set (x:=#[.rt,.lst ds',y.v,l::es]) i;rw[W1 b4]at this;exact this
      |_=>cases h1
   |_=>rw[h0]at hc;cases hc
theorem xv9{i o apos ai pos}(hb:PE X (.Call (.Attribute o "append" apos) [e] [] ai) (tBM Z.K "list" qqc (K0 i) (wke (tQ Z q c) xqj)))(hs:autoParam (swapsWith (.Call (.Attribute o "append" apos) [e] [] ai) none pos.line X.env=pure false) Ŕ):
  QS X Z pn (xz xJ i c) (.Expr (.Call (.Attribute o "append" apos) [e] [] ai) pos):=JJ (vkc hb hs) λD σ H ao=>ex7 ao λE L r m w hc k=>
 mut1 m w hc k λl x xs ds ds' d bs cs H1 gg hf hH ra rx fin=>by
  unfold xJ at hf
  by_cases hl:ds.length<big
  ·rw[Xd hl]at hf;cases oq9 hf;exact#[l,xs,x,rfl,rfl,hH,by rw[<-ra.len];exact hl,fin _ _ (RepA.snoc rx ra) (λa ha=>aA ha) λh=>h]
  ·rw[Xg hl]at hf;cases hf
end
section
variable {X:Cx}{Z:Fx0}{pn:List Nat}{q:Bool}{a b c:Ex}{tg e ea eb:Expr}{σ:L2.St}{H:Hp}{L:Ls}{E:En}{pos p:Pos}
theorem wx4{a8 H1 s1 x t R}(I1:L2.Inv X a8 σ H1 s1)(q:R (Its x) H1):wpAny (model X.prog X.w) X.A (pyIter (.str x t)) (PIE X a8 σ tg R) X.xe s1:=by
 have fp:∀b∈[s1.heap.objs.size],xY X a8 H1 b:=λb hb=>by
  have e:b=s1.heap.objs.size:=by simpa using hb
  subst e;exact I1.fpOk (X9 _) (I1.hok.fresh (X9 _))
 cases ha:x.cps.all _
 ·exact wpAny_pyIter_wide ha #[s1.heap.objs.size,[s1.heap.objs.size],_,_,H1,rfl,I1.kept (t':=s1.toks) λb o e=>X5 _ e,qvr (λA' hA=>PySem.Walks.strWide hA _ x t) (λ_ _ _ _ _ st h=>wpAny_pyIter_striter_wide st h) ⋯,#[_,X7 _ rfl,rfl,rfl],fp,q]
 ·exact wpAny_pyIter_ascii ha #[s1.heap.objs.size,[s1.heap.objs.size],_,_,H1,rfl,I1.kept (t':=s1.toks) λb o e=>X5 _ e,qvr (λA' hA=>PySem.Walks.strAscii hA _ x t) (λ_ _ _ _ _ st h=>wpAny_pyIter_striter_ascii st h) ⋯,#[_,X7 _ rfl,rfl,rfl],fp,q]
theorem xj4{K}{H} c:Sl.ok K H #[.no,.str #[(List.toArray [c])],.str #[(List.toArray [c])],[]]:=by
 show RepL K H true _ _ _;exact Kz (show 1<=sizeLine by decide)
theorem xj3{K}{H} i:Sl.ok K H #[.no,.int i,.int i,[]]:=by
 show RepL K H true _ _ _;exact vx
def iAny(K:Frag)(tl:TE):TI:=fun σ H R=>tl σ H λx H1=>(∃a xs,x=.ref a/\SqL K H1 a xs/\(xs.length<=sizeLine->R (Itl K a) H1))\/(∃a xs,x=.ref a/\SqT K H1 a xs/\(xs.length<=sizeLine->R (Itt K a) H1))\/∃z,x=.str z/\R (Its z) H1
theorem wj3{l tl}(hl:PE X l tl):PI X tg l (iAny X.K tl):=by
 intro a8 s σ H R I h;refine thn (hl a8 s σ H _ I h) λv s1 #[x,H1,I1,r1,q1]=>?_
 rcases q1 with⟨a,xs,rfl,hq,q⟩|⟨a,xs,rfl,hq,q⟩|⟨z,rfl,q⟩
 ·cases r1;obtain⟨af,rv,p,hz⟩:=I1.list hq;refine wpAny_pyIter_list p.isList (#[s1.heap.objs.size,[s1.heap.objs.size],_,_,H1,rfl,I1.kept (t':=s1.toks) λb o e=>X5 _ e,vj7 a _,#[_,X7 _ rfl,rfl,rfl],λb hb=>?_,q hz]);have e:b=s1.heap.objs.size:=by simpa using hb
  subst e;exact I1.fpOk (X9 _) (I1.hok.fresh (X9 _))
 ·cases r1;obtain⟨af,rv,p,hz⟩:=I1.tuple hq;refine wpAny_pyIter_tuple (p) (#[s1.heap.objs.size,[s1.heap.objs.size],_,_,H1,rfl,I1.kept (t':=s1.toks) λb o e=>X5 _ e,qx7 a _,#[_,X7 _ rfl,rfl,rfl],λb hb=>?_,q hz]);have e:b=s1.heap.objs.size:=by simpa using hb
  subst e;exact I1.fpOk (X9 _) (I1.hok.fresh (X9 _))
 ·obtain⟨t,rfl⟩:=r1;exact wx4 I1 q
theorem qjv{K}{x:Sl}{es l}(hx:x.d=.lst es)(ev:x.v=.ref l):∀H2,x.let.ok K H2->∃ys cs,SqL K H2 l ys/\RepA K H2 true es ys cs/\∀b∈cs,b∈x.as:=λH2 hok=>by
 obtain⟨a',ys,cs,ub,q4,r4,h4,_⟩:=items hok (.inl hx);cases V.ref.inj (ub.symm.trans ev);rcases q4 with⟨_,z⟩|⟨z,_⟩
 ·exact#[ys,cs,z.sq,r4,h4]
 ·rw[show x.let.d=D.lst es from hx]at z;cases z
theorem kzt{K}{x:Sl}{es l}(hx:x.d=.tup es)(ev:x.v=.ref l):∀H2,x.let.ok K H2->∃ys cs,SqT K H2 l ys/\RepA K H2 true es ys cs/\∀b∈cs,b∈x.as:=λH2 hok=>by
 obtain⟨a',ys,cs,ub,q4,r4,h4,_⟩:=items hok (.inr hx);cases V.ref.inj (ub.symm.trans ev);rcases q4 with⟨z,_⟩|⟨_,z⟩
 ·rw[show x.let.d=D.tup es from hx]at z;cases z
 ·exact#[ys,cs,z,r4,h4]
theorem kwz{K H1}{x:Sl}{L1}(w1:World K H1 (some x::L1))(st:Step H L H1 (some x::L1)):World K H1 (L1++[x.let].map some)/\Step H L H1 (L1++[x.let].map some):=by
 refine#[World.comm (L:=[some x.let]) (w1.tail.consNo (K4 w1.head) rfl λb hb=>w1.apart b hb),st.keep,λb hb=>?_,λb hb=>?_]
 ·have:b∈jv L1:=by simpa [qwc]using hb
  exact st.own b (lr9 _ this)
 ·have:b∈kw L1\/b∈x.as:=by simpa [qwc]using hb
  rcases this with z|z
  ·exact st.frz b (by rw[Jz];exact lr9 _ z)
  ·exact kx6 st b z
abbrev ItS(S:Hp->List V->Prop):It:=#[λi H=>∃xs x,S H xs/\xs[i]?=some x,λi H x H'=>H'=H/\∀xs,S H xs->xs[i]?=some x,λi H=>∃xs,S H xs/\xs.length<=i]
theorem qvk{K}{S:Hp->List V->Prop}{x:Sl}{es}(ag:∀H2,x.let.ok K H2->∃ys cs,S H2 ys/\RepA K H2 true es ys cs/\∀b∈cs,b∈x.as):Walks K (ItS S) [x.let] es:=by
 refine#[λt ht=>by rw[aC ht];rfl,λi H2 hok hi=>?_,λH2 hok=>?_,λi H2 v H3 d hok hy kg=>?_]
 all_goals obtain⟨ys,cs,s1,s2,s3⟩:=ag H2 (hok _ (aB rfl))
 ·have hl:=s2.len;exact#[ys,ys[i]'⋯,s1,X1 ⋯]
 ·exact#[ys,s1,by rw[s2.len];exact X9 _]
 ·obtain⟨rfl,hy⟩:=hy;obtain⟨v',lj,f1,f2,f3⟩:=s2.get kg;have:=hy ys s1;rw[f1]at this;cases oq9 this;exact#[#[.no,d,v,lj],rfl,rfl,rfl,zK,f2,λb hb=>#[x.let,aB rfl,s3 b (f3 b hb)]]
theorem wK(h:QE X Z q c e)(hK:autoParam (X.K=Z.K) Ŕ):QI X Z q tg (itS c) e:=λa8 s σ H R I ao=>ex8 ao λE L r m w hc xc k=>by
 refine(hK▸wj3 h) a8 s σ H R I (VY m w (show bnd (c E) _=some r from hc) xc λE1 s h1 x L1 H1 e1 e2 m1 w1 st sm=>?_);obtain⟨ds,hd,rfl⟩:=zQ h1;have ok:=w1.head;obtain⟨wT,sT⟩:=kwz w1 st;cases hx:x.d with
 | lst es=>
  rw[<-e2,hx]at hd;cases oq9 hd;obtain⟨a,_,_,ev,_⟩:=items ok (.inl hx);have ag:=qjv (K:=Z.K) hx ev;obtain⟨xs,bs,q3,r3,_⟩:=ag H1 (K4 ok);exact .inl #[a,xs,ev,q3,λak=>k _ _ rfl (Itl Z.K a) [x.let] L1 H1 m1 wT sT (r3.len▸ak) (λhq=>(sm hq).1) (qvk ag)]
 | tup es=>
  rw[<-e2,hx]at hd;cases oq9 hd;obtain⟨a,_,_,ev,_⟩:=items ok (.inr hx);have ag:=kzt (K:=Z.K) hx ev;obtain⟨xs,bs,q3,r3,_⟩:=ag H1 (K4 ok);exact .inr (.inl #[a,xs,ev,q3,λak=>k _ _ rfl (Itt Z.K a) [x.let] L1 H1 m1 wT sT (r3.len▸ak) (λhq=>(sm hq).1) (qvk ag)])
 | str z=>
  rw[<-e2,hx]at hd;have hd:(if z.cps.size<=big then some (z.cps.toList.map λc=>D.str #[(List.toArray [c])])else none)=some ds:=hd
  split at hd
  ·rename_i hz;cases oq9 hd;refine .inr (.inr #[z,(zV ok hx).1,k _ _ rfl (Its z) [] L1 H1 m1 (by simpa using w1.tail) (by simpa using (st.trans Step.drop)) (by rw[X3,Xm];exact hz) (λhq=>(sm hq).1) #[λt ht=>(nomatch ht),λi H2 _ hi=>?_,λH2 _=>?_,λi H2 v H3 d _ hy kg=>?_]])
   ·show i<z.cps.size
    simp_all
   ·show(z.cps.toList.map λc=>D.str #[(List.toArray [c])]).length=z.cps.size;simp
   ·obtain⟨e3,cc,hc,rfl⟩:=hy;subst e3;rw[X8,Ye,hc]at kg;cases oq9 kg;exact#[#[.no,.str #[(List.toArray [cc])],.str #[(List.toArray [cc])],[]],rfl,rfl,rfl,zK,xj4 cc,λb hb=>(nomatch hb)]
  ·cases hd
 |_=>rw[<-e2,hx]at hd;cases hd
theorem qx6{K}(lo hi):Walks K (Itr lo (hi - lo).toNat) [] (qk lo hi):=by
 have hl:(qk lo hi).length=(hi - lo).toNat:=by simp[qk]
 refine#[λt ht=>(nomatch ht),λi H _ ly=>by rw[hl]at ly;exact ly,λH _=>by rw[hl];exact X9 _,λi H v H' d _ hy hd=>?_];obtain⟨e,rfl⟩:=hy;subst e;unfold qk at hd;rw[X8]at hd;cases hr:(List.range (hi - lo).toNat)[i]? with
 | none=>simp_all
 | some j=>
  rw[hr]at hd;have:j=i:=by
   obtain⟨_,h2⟩:=List.getElem?_eq_some_iff.mp hr
   simpa using h2.symm
  subst this;cases oq9 hd;exact#[_,rfl,rfl,rfl,zK,xj3 _,λb hb=>(nomatch hb)]
theorem kjv{i}(h:z7 i=true):-(2 ^ 62)<=i/\i<2 ^ 62:=by
 unfold z7 at h
 simpa using h
theorem J0(ha:QV X Z q a ea)(hg:Gl X "range")(hm:X.mg "range"=none)(cn:autoParam (starEach [ea] X.env=[(false,eval ea X.env)]) Ŕ):QI X Z q tg (xv a) (.Call (.Name "range" p) [ea] [] pos):=λa8 s σ H R I ao=>ex8 ao λE L r m w hc xc k=>by
 refine(vki hg hm (ww ha x6 cn) cn) a8 s σ H R I (vk m w (hc) xc λE1 s h1 x L1 H1 e1 e2 m1 w1 ok fr sr st sm=>?_);cases hx:s.2 with
 | int j=>
  rw[hx]at h1;dsimp only at h1
  split at h1
  ·rename_i hj;cases oq9 h1;obtain⟨j1,j2⟩:=kjv hj.1;refine#[j,by rw[(v5 ok (e2.trans hx))],j1,j2,?_];have wk:=qx6 (K:=Z.K) 0 j;rw[Int.sub_zero]at wk;exact k _ _ rfl _ [] L1 H1 m1 (by simp_all) (by simp_all) (by simp only[qk,X3,Xz,Int.sub_zero];exact hj.2) sm wk
  ·cases h1
 |_=>simp_all
theorem Mt.clr:∀{R E L},Mt E σ L->Mt (Q.clr R E) σ (Q.clr R L)
 | [],_,_,m=>m
 | j::R,E,L,m=>by
  have un:∀{E σ} {L} j,Mt E σ L->Mt (E.set j none) σ (L.set j none):=by
   intro E σ L j m
   induction m generalizing j with
   |nil=>exact .nil
   |un m ih=>cases j with|zero=>exact .un m|succ j=>exact .un (ih j)
   |cons m ih=>cases j with|zero=>exact .un m|succ j=>exact .cons (ih j)
  show Mt (Q.clr R _) σ _;exact Mt.clr (un j m)
theorem Mt.drop:∀{E σ L} (k),Mt E σ L->Mt (E.drop k) (σ.drop k) (L.drop k)
 |_,_,_,0,m=>m|_,_,_,k+1,.nil=>.nil|_,_,_,k+1,.un m=>m.drop k|_,_,_,k+1,.cons m=>m.drop k
theorem Mt.none_at:∀{E σ L} {j:Nat},Mt E σ L->E[j]?=some none->L[j]?=some none
 |_,_,_,_,.nil,h=>by simp_all|_,_,_,0,.un _,_=>by simp|_,_,_,j+1,.un m,h=>by simpa using m.none_at (j:=j) (by simpa using h)|_,_,_,j+1,.cons m,h=>by simpa using m.none_at (by simpa using h)
theorem Mt.pick:∀{R:List Nat},Mt E σ L->Mt (R.map (at' E)) (R.map (at' σ)) (R.map (at' L))
 | [],_=>.nil
 | j::R,m=>by
  rw[List.map_cons,List.map_cons,List.map_cons];cases hE:E[j]? with
  | none=>
   have hl:=m.len;have:L[j]?=none:=by rw[List.getElem?_eq_none_iff]at hE ⊢;lia
   rw[show at' E j=none from by unfold at';rw[hE];rfl,show at' L j=none from by unfold at';rw[this];rfl];exact .un m.pick
  | some s=>
   cases s with
   |none=>
    have:L[j]?=some none:=m.none_at hE;rw[show at' E j=none from by unfold at';rw[hE];rfl,show at' L j=none from by unfold at';rw[this];rfl];exact .un m.pick
   |some s=>
    obtain⟨x,h1,h2,h3,h4⟩:=m.get hE;rw[show at' E j=some (x.o,x.d)from by unfold at';rw[hE,h2,h3];rfl,show at' L j=some x from by unfold at';rw[h1];rfl,show at' σ j=some x.v from by unfold at';rw[h4];rfl];exact .cons m.pick
theorem Mt.rep:∀{k},Mt E σ L->Mt (List.replicate k none++E) (List.replicate k none++σ) (List.replicate k none++L)
 |0,m=>by simp_all
 |k+1,m=>by
  exact .un m.rep
theorem Mt.back:∀{R B τ M E L},Mt E σ L->Mt B τ M->(∀(i j:Nat) (v),R[i]?=some j->τ[i]?=some (some v)->σ[j]?=some (some v))->Mt (Q.back R B E) σ (Q.back R M L)
 | [],B,τ,M,E,L,m,_,_=>by simpa [Q.back]using m| j::R,_,_,_,E,L,m,.nil,_=>by simpa [Q.back]using m
 | j::R,_,_,_,E,L,m,.un mB,h=>by
  have un:∀{E σ} {L} j,Mt E σ L->Mt (E.set j none) σ (L.set j none):=by
   intro E σ L j m
   induction m generalizing j with
   |nil=>exact .nil
   |un m ih=>cases j with|zero=>exact .un m|succ j=>exact .un (ih j)
   |cons m ih=>cases j with|zero=>exact .un m|succ j=>exact .cons (ih j)
  show Mt _ σ (Q.back R _ _);exact Mt.back (un j m) mB λi jj v e1 e2=>h (i+1) jj v (by simpa using e1) (by simpa using e2)
 |j::R,_,_,_,E,L,m,.cons (x:=x) mB,h=>by
  have m1:=m.set (x:=x) j;rw[W1 (h 0 j x.v (by simp) (by simp))]at m1;show Mt _ σ (Q.back R _ _);exact Mt.back m1 mB λi jj v e1 e2=>h (i+1) jj v (by simpa using e1) (by simpa using e2)
section
variable {iter gz:Expr}{gm:List Expr}{scope:Scope}{N:List Str}{k:Nat}{R:List Nat}{it:Ev (List D)}{tt:Tg}{u:Ts}{o:Own}{q1 q2:Bool}
theorem wva:KW k R σ=List.replicate k none++R.map (at' σ):=rfl
theorem xvp{K M}(hR:R.Nodup)(w:World K H (L++M)):World K H ((List.replicate k none++R.map (at' L))++(Q.clr R L++M))/\Step H (L++M) H ((List.replicate k none++R.map (at' L))++(Q.clr R L++M)):=by
 have p:(sls (L++M)).Perm (sls ((List.replicate k none++R.map (at' L))++(Q.clr R L++M))):=by
  have:=qwt (L:=L) hR;rw[XY]at this;simp;rw[<-Xk];exact(this.append_right _).symm
 exact#[w.same p,Step.refl.same (List.Perm.refl _) p]
theorem xjb{K B M H2}(hR:R.Nodup)(hr:∀j∈R,j<L.length)(hB:B.length=k+R.length)(w:World K H2 (B++(Q.clr R L++M))):World K H2 (Q.back R (B.drop k) (Q.clr R L)++M)/\Step H2 (B++(Q.clr R L++M)) H2 (Q.back R (B.drop k) (Q.clr R L)++M):=by
 have p2:(sls (Q.back R (B.drop k) (Q.clr R L)++M)).Perm (sls (B.drop k++(Q.clr R L++M))):=by
  rw[XY,<-Xk,XY _];exact(qkq (B:=B.drop k) hR (λj hj=>vvf hj) (λj hj=>by rw[vve];exact hr j hj) (by simp_all)).append_right _
 have sub:(sls (B.drop k++(Q.clr R L++M))).Sublist (sls (B++(Q.clr R L++M))):=by
  rw[XY,XY B];exact List.Sublist.append ((List.drop_sublist k B).filterMap _) (List.Sublist.refl _)
 exact#[(w.sub sub).same p2.symm,(Step.refl.sub sub).same (List.Perm.refl _) p2.symm]
theorem kqc:∀{is es E E'},setAll is es E=some E'->E'.length=E.length
 |[],[],_,_,h=>by cases oq9 h;rfl|_::_,[],_,_,h=>by cases h|i::is,d::es,E,E',h=>by rw[kqc (E:=E.set i _) h,List.length_set]
theorem wq9{t:Tg}{d E E'}(h:t.put d E=some E'):E'.length=E.length:=by
 cases t with
 |n i=>cases oq9 h;rw[List.length_set]
 |t is=>
  cases d with|tup es=>exact kqc (h)|lst es=>exact kqc (h)|_=>cases h
theorem qqs{nN Q}(hσ:σ.length=nN)(hR:R.Nodup)(hr:∀j∈R,j<nN)(h:tQ Z q (cLC o k R it tt u c) σ H Q):tLC (tIS Z q it) (tG Z ((List.range R.length).map (k + ·)) tt) (tT Z q u) (tQ Z q c) k R σ H Q:=by
 obtain⟨E,L,r,m,w,ip,xc,kk⟩:=h;have ip:bnd (it E) (λE ds=>match lcL tt u c ds (wwm k R E) []with
  | some (.ok B xs)=>mkL o (JK k R B E) xs| some (.exc B e)=>some (.exc (JK k R B E) e)
  | none=>none)=some r:=ip
 rcases wZ ip with⟨E1,ds,h1,h2⟩|⟨E1,cc,h1,h2⟩
 rotate_left
 ·exact#[E,L,_,m,w,h1,xc.map h2,λE' s' z=>by cases z]
 refine#[E,L,_,m,w,h1,(λ_ _ z=>by cases z),λE' ds' z J T L1 H1 m1 w1 st hz sm wk=>?_];injection z with z1 z2;subst z1 z2;have hL1:∀j∈R,j<L1.length:=λj hj=>by have:=m1.len;have:=hr j hj;lia
 obtain⟨wB,sB⟩:=xvp (k:=k) hR w1;cases hrB:lcL tt u c ds (wwm k R E1) []with
 | none=>simp_all
 | some rB=>
  rw [hrB]at h2;have lw:∀{H2 A B},World Z.K H2 (A++(B++(_root_.Q.clr R L1++T.map some)))->∀t∈T,t.ok Z.K H2:=λw2 t ht=>w2.ok t (lr9 _ (lr9 _ (lr9 _ (Xq ht))))
  have mB0:Mt (wwm k R E1) (KW k R σ) (List.replicate k none++R.map (at' L1)):=(m1.pick (R:=R)).rep;have u7:∀{B LB τ H2 A},Mt B τ LB->τ.length=k+R.length->Pn ((List.range R.length).map (k + ·)) (KW k R σ) τ->World Z.K H2 (LB++(A++(_root_.Q.clr R L1++T.map some))) ->
    Mt (JK k R B E1) σ (_root_.Q.back R (LB.drop k) (_root_.Q.clr R L1))/\World Z.K H2 (A++_root_.Q.back R (LB.drop k) (_root_.Q.clr R L1))/\Step H2 (LB++(A++(_root_.Q.clr R L1++T.map some))) H2 (A++_root_.Q.back R (LB.drop k) (_root_.Q.clr R L1)):=fun {B LB τ H2 A} mB lB pB wB2=>by
   have hl:LB.length=k+R.length:=by rw[mB.len.2];exact lB
   have pm:(LB++(A++(_root_.Q.clr R L1++T.map some))).Perm (LB++(_root_.Q.clr R L1++(A++T.map some))):=by
    refine List.Perm.append_left _ ?_;rw [<-Xk,<-Xk];exact List.Perm.append_right _ List.perm_append_comm
   obtain⟨w3,s3⟩:=xjb (k:=k) hR hL1 hl (wB2.perm pm);have og:(_root_.Q.back R (LB.drop k) (_root_.Q.clr R L1)++(A++T.map some)).Perm ((A++_root_.Q.back R (LB.drop k) (_root_.Q.clr R L1))++T.map some):=by
    rw [<-Xk];exact List.Perm.append_right _ List.perm_append_comm
   refine#[?_,(w3.perm og).left,(s3.perm pm.symm og).trans Step.dropT];refine Mt.back (m1.clr) (mB.drop k) λi j v e1 e2=>?_
   have hi:i<R.length:=(List.getElem?_eq_some_iff.mp e1).1;have e3:=pB (k+i) (List.mem_map.mpr #[i,List.mem_range.mpr hi,rfl]);rw [List.getElem?_drop,e3,wva,Yb (by simp),Zc,show k+i - k=i from by lia,X8,e1]at e2;have e4:at' σ j=some v:=by simpa using e2
   unfold at' at e4;cases hh:σ[j]? with| none=>simp_all| some s=>simp_all
  refine#[λi n ys τ H2=>∃(B:En) (LB:Ls) (ah:List Sl),Mt B τ LB/\τ.length=k+R.length/\Pn ((List.range R.length).map (k + ·)) (KW k R σ) τ/\World Z.K H2 (LB++(ah.map some++(_root_.Q.clr R L1++T.map some)))/\Step H L H2 (LB++(ah.map some++(_root_.Q.clr R L1++T.map some))) /\
   ys=ah.map Sl.v/\lcL tt u c (ds.drop i) B (ah.map Sl.sd)=some rB/\i<=ds.length/\ah.length<=i/\n=ds.length - i/\(q=true->kX H H2/\∀b∈jv (ah.map some),H b=none),#[_,wwm k R E1,_,[],mB0,by simp[KW],Pn.refl,wB,st.trans sB,rfl,hrB,Yi _,Yi _,rfl,λhq=>#[sm hq,λ_ z=>(nomatch z)]],?_]
  rintro i n ys τ H2 ⟨B,LB,ah,mB,lB,pB,wB2,sB2,rfl,f1,hi,ay,rfl,smB⟩
  by_cases c8:i<ds.length
  rotate_left
  ·have e:i=ds.length:=⋯
   subst e;rw [List.drop_length]at f1;cases oq9 f1;obtain⟨m3,w3,s3⟩:=u7 mB lB pB wB2;refine .inl #[wk.stop H2 (lw wB2) (λhq=>(smB hq).1),by rw[X3];lia,?_];exact qw7 (σ:=σ) (Q:=Q) (o:=o) (xs:=ah) h2 rfl w3 (sB2.trans s3) smB kk m3
  ·have hd:ds.drop i=ds[i]::ds.drop (i+1):=List.drop_eq_getElem_cons c8;rw [hd]at f1;unfold lcL at f1;cases cw:tt.put ds[i] B with
   | none=>rw[cw]at f1;cases f1
   | some B2=>
    rw [cw]at f1;dsimp only at f1;refine .inr #[wk.go i H2 (lw wB2) (λhq=>(smB hq).1) c8,λv H3 hy=>?_];obtain⟨z,zo,zd,zv,smz,ug,zas⟩:=wk.yld i H2 v H3 ds[i] (lw wB2) (λhq=>(smB hq).1) hy (X1 c8);have pm:(LB++(ah.map some++(_root_.Q.clr R L1++T.map some))).Perm ((LB++(ah.map some++_root_.Q.clr R L1))++T.map some):=by
     rw[<-Xk (ah.map some),<-Xk]
    obtain⟨wz,sz⟩:=kwn (wB2.perm pm) wk.no smz ug zo zas;have wz':World Z.K H3 ((some z::LB)++(ah.map some++(_root_.Q.clr R L1++T.map some))):=wz.perm (by
     rw[List.cons_append,List.cons_append];exact List.Perm.cons _ pm.symm)
    have sz':Step H2 (LB++(ah.map some++(_root_.Q.clr R L1++T.map some))) H3 ((some z::LB)++(ah.map some++(_root_.Q.clr R L1++T.map some))):=sz.perm pm.symm (by
     rw[List.cons_append,List.cons_append];exact List.Perm.cons _ pm.symm)
    refine#[B,LB,z,B2,mB,wz'.left,zo,zv,by rw[zd];exact cw,fun τ2 LB2 p2 mB2 wB3 sB3=>?_];obtain⟨w4,s4⟩:=stay wz' sB3 wB3;have lB2:τ2.length=k+R.length:=by
     have h1:=mB2.len.1;have h2:=mB.len.1;have h3:=wq9 cw;lia
    have p3:=pB.trans p2;have up:Step H L H3 (LB2++(ah.map some++(_root_.Q.clr R L1++T.map some))):=sB2.trans (sz'.trans s4);have je:q=true->kX H H3/\∀b∈jv (ah.map some),H b=none:=λhq=>#[qz (smB hq).1 smz,(smB hq).2]
    refine#[λy H5=>∃(B:En) (LB:Ls) (i6:List Sl),Mt B τ2 LB/\World Z.K H5 (LB++(i6.map some++(_root_.Q.clr R L1++T.map some)))/\Step H L H5 (LB++(i6.map some++(_root_.Q.clr R L1++T.map some)))/\ah.map Sl.v++[y]=i6.map Sl.v/\i6.length=ah.length+1/\lcL tt u c (ds.drop (i+1)) B (i6.map Sl.sd)=some rB/\(q=true->kX H H5/\∀b∈jv (i6.map some),H b=none),
     λH5=>∃B LB,Mt B τ2 LB/\World Z.K H5 (LB++(ah.map some++(_root_.Q.clr R L1++T.map some)))/\Step H L H5 (LB++(ah.map some++(_root_.Q.clr R L1++T.map some)))/\lcL tt u c (ds.drop (i+1)) B (ah.map Sl.sd)=some rB/\(q=true->kX H H5/\∀b∈jv (ah.map some),H b=none),
     λy H5 #[B5,LB5,acc5,c1,c2,c3,c4,c5,c6,c7]=>#[by rw[X3];lia,ds.length - (i+1),⋯,B5,LB5,acc5,c1,lB2,p3,c2,c3,c4,c6,c8,⋯,rfl,c7],
     λH5 #[B5,LB5,c1,c2,c3,c6,c7]=>#[ds.length - (i+1),⋯,B5,LB5,ah,c1,lB2,p3,c2,c3,rfl,c6,c8,⋯,rfl,c7],?_]
    have xcB:∀{α H6 L6 B6} {cc:Str} {A:Ls},rB=.exc B6 cc->World Z.K H6 (L6++(A++(_root_.Q.clr R L1++T.map some)))->Step H L H6 (L6++(A++(_root_.Q.clr R L1++T.map some)))->Xc Z τ2 H6 L6 (.exc B6 cc:Res α):=fun {α H6 L6 B6 cc A} er w6 s6 E7 c7 e7 C L7 H7 hm m7 w7 s7=>by
     injection e7 with e8 e9;subst e8 e9;subst er;cases oq9 h2;obtain⟨w8,s8⟩:=stay w6 s7 w7;obtain⟨m9,w9,s9⟩:=u7 m7 lB2 p3 w8;exact xc _ _ rfl C _ H7 hm m9 w9.right ((s6.trans (s8.trans s9)).trans #[λ_ _ h _=>h,λa ha=>.inl (by rw[k9];exact lr9 _ ha),λa ha=>.inl (by rw[qZ];exact lr9 _ ha)])
    rcases wZ f1 with⟨B4,kb,g1,g2⟩|⟨B4,cc,g1,g2⟩
    rotate_left
    ·exact#[B2,LB2,_,mB2,wB3,g1,xcB g2 w4 up,λE' s' z=>by cases z]
    refine#[B2,LB2,_,mB2,wB3,g1,(λ_ _ z=>by cases z),λE' s' z LB4 H4 mB4 wB4 sB4 qd=>?_];injection z with z1 z2;subst z1 z2;obtain⟨w5,s5⟩:=stay w4 sB4 wB4;have mh:=up.trans s5;cases kb with
    | false=>
     rw[Xg ⋯]at g2 ⊢;exact#[B4,LB4,mB4,w5,mh,g2,λhq=>#[qz (je hq).1 (qd hq),(je hq).2]]
    | true=>
     rw[Xd rfl]at g2 ⊢;rcases wZ g2 with⟨B6,y,g3,g4⟩|⟨B6,cc,g3,g4⟩
     rotate_left
     ·exact#[B4,LB4,_,mB4,wB4,g3,xcB g4 w5 mh,λE' s' z=>by cases z]
     refine#[B4,LB4,_,mB4,wB4,g3,(λ_ _ z=>by cases z),λE' s' z x LB6 H6 ex ey mB6 wB6 sB6 sm6=>?_];injection z with z1 z2;subst z1 z2;obtain⟨w7,s7⟩:=stay w5 sB6 wB6;have pm3:((some x::LB6)++(ah.map some++(_root_.Q.clr R L1++T.map some))).Perm (LB6++((ah++[x]).map some++(_root_.Q.clr R L1++T.map some))):=by
      rw[Xh,List.cons_append];have:(LB6++(ah.map some++[x].map some++(_root_.Q.clr R L1++T.map some)))=(LB6++ah.map some)++some x::(_root_.Q.clr R L1++T.map some):=by simp
      rw[this];refine List.Perm.trans ?_ List.perm_middle.symm;rw[Xk]
     refine#[B6,LB6,ah++[x],mB6,w7.perm pm3,(mh.trans s7).perm (List.Perm.refl _) pm3,by simp,by simp,?_,λhq=>#[qz (je hq).1 (qz (qd hq) (sm6 hq).1),λb hb=>?_]]
     ·rw[Xh,show[x].map Sl.sd=[y]from by simp[Sl.sd,ex,ey]];exact g4
     ·rw[Xh,k9]at hb;rcases aA hb with hb|hb
      ·exact(je hq).2 b hb
      ·have hb:b∈x.own:=by simpa using hb
       exact zX (qz (je hq).1 (qd hq)) ((sm6 hq).2 b hb)
theorem xwv(N:List Str)(hi:QI X Z q tg it iter)
  (hg:∀cl C s0 H0 fp,QG (lcE X scope N cl C s0 H0 fp Z.EX) Z ((List.range R.length).map (k + ·)) tt tg) (ht:∀cl C s0 H0 fp,PTs (lcE X scope N cl C s0 H0 fp Z.EX) gm (tT Z q u)) (he:∀cl C s0 H0 fp,QE (lcE X scope N cl C s0 H0 fp Z.EX) Z q c gz)
  (gx:z4 X Z.EX) (top:J4 X) (hR:R.Nodup) (hr:∀j∈R,j<X.N.length) (hc:autoParam (X.calm=true) Ŕ) (hk:autoParam (scope.kind=.function) Ŕ) (lr:autoParam (V4 X.N X.env.scope scope N k R=true) Ŕ) (hs:autoParam (∀x,foldedSetIterable iter X.env x=pure x) Ŗ):
  QE X Z q (cLC o k R it tt u c) (.ListComp gz [#[tg,iter,gm,0]] scope pos):=λa8 s σ H Q I hw=>
 wj5 (EX:=Z.EX) N k R (xws hi) hg ht he gx top hc hk lr hs a8 s σ H Q I (qqs I.len hR hr hw)
theorem xv3(N:List Str)(hi:QIS X Z q tg it iter)
  (hg:∀cl C s0 H0 fp,QG (lcE X scope N cl C s0 H0 fp Z.EX) Z ((List.range R.length).map (k + ·)) tt tg) (ht:∀cl C s0 H0 fp,PTs (lcE X scope N cl C s0 H0 fp Z.EX) gm (tT Z q u)) (he:∀cl C s0 H0 fp,QE (lcE X scope N cl C s0 H0 fp Z.EX) Z q c gz)
  (gx:z4 X Z.EX) (top:J4 X) (hR:R.Nodup) (hr:∀j∈R,j<X.N.length) (hc:autoParam (X.calm=true) Ŕ) (hk:autoParam (scope.kind=.function) Ŕ) (lr:autoParam (V4 X.N X.env.scope scope N k R=true) Ŕ) (hs:autoParam (∀x,foldedSetIterable iter X.env x=pure x) Ŗ):
  QE X Z q (cLC o k R it tt u c) (.ListComp gz [#[tg,iter,gm,0]] scope pos):=λa8 s σ H Q I hw=>
 wj5 (EX:=Z.EX) N k R hi hg ht he gx top hc hk lr hs a8 s σ H Q I (qqs I.len hR hr hw)
theorem vkb{EX:XK}{wi:TI}{g:TG}{tte:TT}{te:TE}{i:Nat}{y:Str}{py jd:Pos}(N:List Str)(k:Nat)(R:List Nat)(hN:X.N.Nodup)(hy:X.N[i]?=some y)(hx:Loc X.env.scope y)(hi:PI X tg iter wi)
  (hg:∀cl C s0 H0 fp,PG (lcE X scope N cl C s0 H0 fp EX) tg g) (ht:∀cl C s0 H0 fp,PTs (lcE X scope N cl C s0 H0 fp EX) gm tte) (he:∀cl C s0 H0 fp,PE (lcE X scope N cl C s0 H0 fp EX) gz te) (gx:z4 X EX) (top:J4 X)
  (pw:autoParam (swapsWith (.ListComp gz [#[tg,iter,gm,0]] scope pos) (some (.Name y py)) jd.line X.env=pure true) Ŕ)
  (hc:autoParam (X.calm=true) Ŕ) (hk:autoParam (scope.kind=.function) Ŕ) (lr:autoParam (V4 X.N X.env.scope scope N k R=true) Ŕ) (hs:autoParam (∀x,foldedSetIterable iter X.env x=pure x) Ŗ)
  (hf:autoParam (X.fn y=true\/X.env.scope.names.lookup y=some .local) ś):
  PS X (.Assign [.Name y py] (.ListComp gz [#[tg,iter,gm,0]] scope pos) jd) (λD σ H=>tLC wi g tte te k R σ H λv H1=>D.nx (σ.set i (some v)) H1):=by
 intro a8 s σ H D I h;have sc:=qwf hk lr;obtain⟨cl,ml,dl,cq⟩:=kwr (scope:=scope) (env:=X.env) λy hy e=>I.ok.has y.1 (sc.caps y hy e)
 rw[exec_Assign_Name_used _ _ _ _ pw];refine X0 (wpAny_standAt (X0 ?_));show wpAny _ X.A (do let _ <-comprehension (.ListComp gz [#[tg,iter,gm,0]] scope pos) scope X.env _ (newList []) false (eval iter X.env) (some (assign (.Name y py) X.env))) _ _ s;refine X0 (thn (wpAny_comprehension_free (use:=some (assign (.Name y py) X.env)) (Q:=λ_ s'=>SP X a8 D .next s') rfl hs ml sc.kind sc.names
  (thn (hi a8 s σ H _ I h) λv s1 h1=>thn h1 λitv s2 h2=>?_)) λ_ s' hq=>X4 (X4 hq))
 obtain⟨it,fp,tn,J,H2,e,I2,T,bu,f2,W,w0,i7⟩:=h2;subst e;refine qjy (EX:=EX) (RR:=λah C=>compPost (model X.prog X.w) X.A X.xe (some (assign (.Name y py) X.env)) (λ_ s'=>SP X a8 D .next s') ah C) hc top sc dl cq (hg cl) (ht cl) (he cl) I2 T bu f2 w0 i7 ?_ ?_
 rotate_left
 ·intro D' C s' eq σ' H' x T Cc fl hC t q;exact wji gx I2 f2 hC t q
 intro L C oC m ys H' s' I' eC nC fC q;show wpAny _ X.A (assign (.Name y py) X.env (.ref L)) _ _ s';refine wpAny_assign_Name (kx5 I' hN hy hx (v:=.ref L) rfl (λmv I''=>?_) hf);have pC:=I''.pin (C,oC) (lr9 _ (lr9 _ (aB rfl)));refine#[m,nC.at' λo e=>?_,λh' sb=>#[_,_,I''.unpinned.turned (it:=C) (t':=mv.toks) (λb o hb e=>(sb.2 b hb).trans e) fC.1 fC.2.1 fC.2.2.2.1 fC.2.2.2.2.1 fC.2.2.2.2.2,q]];rw[eC]at e;cases e;exact pC.1
theorem kxk{i:Nat}{y:Str}{py jd:Pos}(N:List Str)(hN:X.N.Nodup)(hy:X.N[i]?=some y)(hx:Loc X.env.scope y)(hi:QI X Z q tg it iter)
  (hg:∀cl C s0 H0 fp,QG (lcE X scope N cl C s0 H0 fp Z.EX) Z ((List.range R.length).map (k + ·)) tt tg) (ht:∀cl C s0 H0 fp,PTs (lcE X scope N cl C s0 H0 fp Z.EX) gm (tT Z q u)) (he:∀cl C s0 H0 fp,QE (lcE X scope N cl C s0 H0 fp Z.EX) Z q c gz)
  (gx:z4 X Z.EX) (top:J4 X) (hR:R.Nodup) (hr:∀j∈R,j<X.N.length) (hp:autoParam (i∉pn) ŕ)
  (pw:autoParam (swapsWith (.ListComp gz [#[tg,iter,gm,0]] scope pos) (some (.Name y py)) jd.line X.env=pure true) Ŕ)
  (hc:autoParam (X.calm=true) Ŕ) (hk:autoParam (scope.kind=.function) Ŕ) (lr:autoParam (V4 X.N X.env.scope scope N k R=true) Ŕ) (hs:autoParam (∀x,foldedSetIterable iter X.env x=pure x) Ŗ)
  (hf:autoParam (X.fn y=true\/X.env.scope.names.lookup y=some .local) ś):
  QS X Z pn (jw i (cLC o k R it tt u c)) (.Assign [.Name y py] (.ListComp gz [#[tg,iter,gm,0]] scope pos) jd):=
 wz6 (q:=q) hp λa8 s σ H D I hw=>vkb N k R hN hy hx (xws hi) hg ht he gx top pw hc hk lr hs hf a8 s σ H D I (qqs I.len hR hr hw)
end
end
section
variable {X:Cx}{Z:Fx0}{K:Frag}{pn:List Nat}{q qa qb:Bool}{a b c:Ex}{u:Ts}{tg e ea eb:Expr}{σ:L2.St}{H:Hp}{L:Ls}{E:En}{pos p:Pos}{x:Str}{id T:String}{r:List V->Hp->VK->Prop}{f:Sd->Option Sd}{g:Sd->Sd->Option Sd}
theorem wq2:PTs X [] (tT Z q _root_.Q.tYes):=λa8 s σ H Q I ao=>ex8 ao λE L r m w hc xc k=>by
 cases oq9 hc;exact wqb a8 s σ H Q I (k _ _ rfl L H m w Step.refl λ_=>zK)
theorem qxl(h:QT X Z q u e):PTs X [e] (tT Z q u):=wqa h
theorem K7(hc:CallR X (.builtin id) r)(ad:Ad1 Z.K (λv H Q=>r [v] H Q) f)(ha:QV X Z q a ea)(hm:X.mg x=none)(hv:bootBuiltins x=some (.builtin id))(hg:autoParam (Gl X x) Ŕ)(hn:autoParam (x≠"__name__") ŕ)(fq:autoParam ((x==("__debug__":Str))=false) ŕ)
  (he:autoParam (starEach [ea] X.env=(false,eval ea X.env)::starEach [] X.env) Ŕ) (bq:autoParam ((backTo pos (starEach [] X.env)).any (·.1)=false) Ŕ):QE X Z q (cF1 f a) (.Call (.Name x p) [ea] [] pos):=
 qV (qw4 hc hg hm hv (ww ha x6 he) hn fq he bq) fun σ H Q h=>jz3 ad h
theorem Q1(hc:CallR X (.type T) r)(ad:Ad1 Z.K (λv H Q=>r [v] H Q) f)(ha:QV X Z q a ea)(hm:X.mg x=none)(hv:bootBuiltins x=some (.type T))(hg:autoParam (Gl X x) Ŕ)(hn:autoParam (x≠"__name__") ŕ)(fq:autoParam ((x==("__debug__":Str))=false) ŕ)
  (he:autoParam (starEach [ea] X.env=(false,eval ea X.env)::starEach [] X.env) Ŕ) (bq:autoParam ((backTo pos (starEach [] X.env)).any (·.1)=false) Ŕ):QE X Z q (cF1 f a) (.Call (.Name x p) [ea] [] pos):=
 qV (vkk hc hg hm hv (ww ha x6 he) hn fq he bq) fun σ H Q h=>jz3 ad h
theorem xkr:Ad1 K (λv H Q=>vjy K [v] H Q) (pu1 qw):=by
 intro H x s Q ok hf k;unfold pu1 at hf;have fin:∀n,qw x.d=some (.int n)->Q (.int n) H:=λn e=>by
  rw[e]at hf;cases oq9 hf;exact k _ H rfl rfl Q8
 cases hx:x.d with
 |lst ds=>
  obtain⟨l,xs,bs,e,q,r,_⟩:=items ok (.inl hx);refine .inl #[l,xs,by rw[e],?_,by rw[<-r.len];exact fin ds.length (by rw[hx];rfl)];rcases q with⟨_,z⟩|⟨_,z⟩
  ·exact .inl (Q6 z)
  ·exact .inr z
 |tup ds=>
  obtain⟨l,xs,bs,e,q,r,_⟩:=items ok (.inr hx);refine .inl #[l,xs,by rw[e],?_,by rw[<-r.len];exact fin ds.length (by rw[hx];rfl)];rcases q with⟨_,z⟩|⟨_,z⟩
  ·exact .inl (Q6 z)
  ·exact .inr z
 |str z=>
  obtain⟨e,hz⟩:=zV ok hx;exact .inr (.inl #[z,by rw[e],hz,fin z.length (by rw[hx];rfl)])
 |_=>rw[hx]at hf;cases hf
def wxo(K:Frag):List V->Hp->VK->Prop:=λxs H Q=>xwo K xs H Q\/(∃p ys U,xs=[.ref p,.ty U]/\SqT K H p ys/\U∈kinds.tail/\Q (.bl (xjs "tuple" U)) H)\/∃p ys U,xs=[.ref p,.ty U]/\SqL K H p ys/\U∈kinds.tail/\Q (.bl (xjs "list" U)) H
theorem vvl(hK:autoParam (X.K=K) Ŕ):CallR X (.builtin "isinstance") (wxo K):=by
 subst hK;intro a8 s σ H xs us Q I r h;rcases h with h|⟨p,ys,U,rfl,hq,hU,q⟩|⟨p,ys,U,rfl,hq,hU,q⟩
 ·exact vze a8 s σ H xs us Q I r h
 ·obtain⟨u,w',rfl,r1,r2⟩:=wkb r;cases(show w'=Value.type U from r2);cases r1;obtain⟨af,_,⟨o,h1,h2,_⟩,_⟩:=I.tuple hq;exact Yj PySem.W.kitx_tuple I.kIn #[o,h1,h2] (qqt ⋯ hU) (λz=>nomatch z) λtk=>#[.bl _,H,I.tok _,rfl,q]
 ·obtain⟨u,w',rfl,r1,r2⟩:=wkb r;cases(show w'=Value.type U from r2);cases r1;obtain⟨af,_,⟨o,n,h1,h2,_⟩,_⟩:=I.list hq;exact Yj PySem.W.kitx_list I.kIn #[o,h1,h2] (qqt ⋯ hU) (λz=>nomatch z) λtk=>#[.bl _,H,I.tok _,rfl,q]
theorem xks{U}(hU:U∈kinds.tail):Ad1 K (λv H Q=>wxo K [v,.ty U] H Q) (pu1 (vw U)):=by
 intro H x s Q ok hf k;unfold pu1 vw at hf;have fin:∀T,kind x.d=T->(∀c f,x.d≠.obj c f)->Q (.bl (xjs T U)) H:=λT e ho=>by
  cases hx:x.d with
  |obj c f=>exact absurd hx (ho c f)|dct kvs=>simp_all
  |_=>
   rw[hx]at hf;cases oq9 hf;rw[<-e,hx];exact k _ H rfl rfl xV
 cases hx:x.d with
 |non=>exact .inl #[x.v,"NoneType",U,rfl,by rw[wj9 ok hx];exact .non,⋯,hU,fin _ (by rw[hx];rfl) (by simp_all)]|bl k=>exact .inl #[x.v,"bool",U,rfl,by rw[V2 ok hx];exact .bl _,⋯,hU,fin _ (by rw[hx];rfl) (hx▸λ_ _ z=>nomatch z)]|int k=>exact .inl #[x.v,"int",U,rfl,by rw[v5 ok hx];exact .int _,⋯,hU,fin _ (by rw[hx];rfl) (hx▸λ_ _ z=>nomatch z)]|str k=>exact .inl #[x.v,"str",U,rfl,by rw[(zV ok hx).1];exact .str _,⋯,hU,fin _ (by rw[hx];rfl) (hx▸λ_ _ z=>nomatch z)]
 |lst ds=>
  obtain⟨l,xs,bs,e,q,r,_⟩:=items ok (.inl hx);have f:=fin "list" (by rw[hx];rfl) (hx▸λ_ _ z=>nomatch z);rcases q with⟨_,z⟩|⟨z,_⟩
  ·exact .inr (.inr #[l,xs,U,by rw[e],z.sq,hU,f])
  ·simp_all
 |tup ds=>
  obtain⟨l,xs,bs,e,q,r,_⟩:=items ok (.inr hx);have f:=fin "tuple" (by rw[hx];rfl) (hx▸λ_ _ z=>nomatch z);rcases q with⟨z,_⟩|⟨_,z⟩
  ·simp_all
  ·exact .inr (.inl #[l,xs,U,by rw[e],z,hU,f])
 |dct kvs=>simp_all|obj c f=>simp_all
theorem K5{U y p2}(ha:QV X Z q a ea)(hm:X.mg "isinstance"=none)(hmy:X.mg y=none)(hy:bootBuiltins y=some (.type U))(hK:X.K=Z.K)(hU:autoParam (U∈kinds.tail) ŕ)(hg:autoParam (Gl X "isinstance") Ŕ)(hgy:autoParam (Gl X y) Ŕ)(hny:autoParam (y≠"__name__") ŕ)(hdy:autoParam ((y==("__debug__":Str))=false) ŕ)
  (he:autoParam (starEach [ea,.Name y p2] X.env=(false,eval ea X.env)::starEach [.Name y p2] X.env) Ŕ) (he2:autoParam (starEach [.Name y p2] X.env=(false,eval (.Name y p2) X.env)::starEach [] X.env) Ŕ) (bq:autoParam ((backTo pos (starEach [.Name y p2] X.env)).any (·.1)=false) Ŕ):
  QE X Z q (cF1 (pu1 (vw U)) a) (.Call (.Name "isinstance" p) [ea,.Name y p2] [] pos):=
 qV (qw4 (vvl hK) hg hm kzi (ww ha (ww (wqw (v:=.ty U) hgy hmy hy rfl hny hdy) x6 he2) he) ⋯ ⋯ he bq) fun σ H Q h=>jz3 (xks hU) h
theorem xkt:Ad1 K (λv H Q=>vjz [v] H Q) (pu1 xqb):=by
 intro H x s Q ok hf k;unfold pu1 xqb at hf;dsimp only at hf
 split at hf
 ·rename_i i e;cases oq9 hf;exact .inl #[i,by rw[v5 ok e],k #[.dp,.int _,.int _,[]] H rfl rfl Q8]
 ·rename_i i e;cases oq9 hf;exact .inr (.inl #[i,by rw[V2 ok e],k #[.dp,.int _,.int _,[]] H rfl rfl Q8])
 ·rename_i z e
  split at hf
  ·rename_i hz;cases ht:PySem.intText? z with
   |none=>rw[ht]at hf;cases hf
   |some n=>
    rw[ht]at hf;cases oq9 hf;exact .inr (.inr #[z,n,by rw[(zV ok e).1],ht,hz,k #[.dp,.int _,.int _,[]] H rfl rfl Q8])
  ·cases hf
 ·cases hf
theorem kvd:Ad1 K (λv H Q=>vjx K [v] H Q) Q4:=by
 intro H x s Q ok hf k;unfold Q4 at hf;dsimp only at hf
 split at hf
 ·rename_i ds e
  split at hf
  ·rename_i hl;cases oq9 hf;obtain⟨l,xs,bs,ev,q3,r3,h3⟩:=JV ok (.inl e) hl;have q3:LsR K H l xs:=by rcases q3 with⟨_,z⟩|⟨z,_⟩;exact z;rw[e]at z;cases z
   exact#[l,xs,by rw[ev],.inl (Q6 q3),λp hp=>k _ _ rfl rfl (W5 hp r3 h3)]
  ·cases hf
 ·rename_i ds e
  split at hf
  ·rename_i hl;cases oq9 hf;obtain⟨l,xs,bs,ev,q3,r3,h3⟩:=JV ok (.inr e) hl;have q3:SqT K H l xs:=by rcases q3 with⟨z,_⟩|⟨_,z⟩;rw[e]at z;cases z;exact z
   exact#[l,xs,by rw[ev],.inr q3,λp hp=>k _ _ rfl rfl (W5 hp r3 h3)]
  ·cases hf
 ·cases hf
def qw0(K:Frag):List V->Hp->VK->Prop:=λxs H Q=>∃p ys,xs=[.ref p]/\((SqL K H p ys/\∀l,H l=none->Q (.ref l) (upd H l (.tup ys)))\/(SqT K H p ys/\Q (.ref p) H))
theorem vvo(hK:X.K=K):CallR X (.type "tuple") (qw0 K):=by subst hK;exact kzg
theorem vzj:Ad1 K (λv H Q=>qw0 K [v] H Q) KY:=by
 intro H x s Q ok hf k;unfold KY at hf;dsimp only at hf
 split at hf
 ·rename_i ds e
  split at hf
  ·rename_i hl;cases oq9 hf;obtain⟨l,xs,bs,ev,q3,r3,h3⟩:=JV ok (.inl e) hl;have q3:LsR K H l xs:=by rcases q3 with⟨_,z⟩|⟨z,_⟩;exact z;rw[e]at z;cases z
   exact#[l,xs,by rw[ev],.inl #[Q6 q3,λp hp=>k _ _ rfl rfl (kqn hp r3 h3)]]
  ·cases hf
 ·rename_i ds e
  split at hf
  ·rename_i hl;cases oq9 hf;obtain⟨l,xs,bs,ev,q3,r3,h3⟩:=JV ok (.inr e) hl;have q3:SqT K H l xs:=by rcases q3 with⟨z,_⟩|⟨_,z⟩;rw[e]at z;cases z;exact z
   refine#[l,xs,by rw[ev],.inr #[q3,k #[.no,.tup ds,.ref l,bs] H rfl rfl #[zK,?_,λb hb=>(nomatch hb),Y2,λb hb=>h3 b hb]]];show RepL K H true _ _ bs;exact#[l,xs,rfl,q3,r3]
  ·cases hf
 ·cases hf
theorem vvu{g}:∀{ds bs xs as},bls ds=some bs->RepA K H g ds xs as->xs=bs.map V.bl
 | [],bs,xs,as,h,r=>by
  cases oq9 h;exact r.1
 | d::ds,bs,xs,as,h,r=>by
  cases d with
  | bl b=>
   unfold bls at h;cases hb:bls ds with
   |none=>grind
   |some lj=>
    rw[hb]at h;cases oq9 h;obtain⟨x,rr,c1,c2,rfl,rfl,h1,h2⟩:=r;unfold RepL at h1;rw[h1.1,vvu hb h2];rfl
  |_=>unfold bls at h;cases h
theorem VW:Ad1 K (λv H Q=>xv1 K [v] H Q) (pu1 K9):=by
 intro H x s Q ok hf k;unfold pu1 K9 at hf;dsimp only at hf
 split at hf
 ·rename_i ds e;cases hb:bls ds with
  |none=>simp_all
  |some bs=>
   rw[hb]at hf;cases oq9 hf;obtain⟨l,xs,cs,ev,q3,r3,_⟩:=items ok (.inl e);have q3:LsR K H l xs:=by rcases q3 with⟨_,z⟩|⟨z,_⟩;exact z;rw[e]at z;cases z
   exact#[l,bs,by rw[ev],by rw[<-vvu hb r3];exact Q6 q3,k _ H rfl rfl xV]
 ·cases hf
theorem JZ{g}:∀x y s,pu2 (c2 g) x y=some s->∃k,s.2=.bl k:=by
 intro x y s h;unfold pu2 c2 at h
 split at h
 ·grind
 ·grind
theorem zx:∀x y s,pu2 fEq x y=some s->∃k,s.2=.bl k:=by
 intro x y s h;unfold pu2 fEq at h
 split at h
 ·grind
 ·grind
theorem wwe:∀x y s,pu2 fNe x y=some s->∃k,s.2=.bl k:=by
 intro x y s h;unfold pu2 fNe at h
 split at h
 ·grind
 ·grind
theorem wjr{x y d}(h:fIn x y=some d):∃k,d=.bl k:=by
 unfold fIn at h
 split at h
 ·split at h
  ·cases oq9 h;exact#[_,rfl]
  ·cases h
 ·split at h
  ·cases oq9 h;exact#[_,rfl]
  ·cases h
 ·split at h
  ·grind
  ·grind
 ·grind
 ·grind
theorem vzi:∀x y s,pu2 Jj x y=some s->∃k,s.2=.bl k:=by
 intro x y s h;unfold pu2 Jj at h
 split at h
 ·grind
 ·cases hf:fIn x.2 y.2 with
  |none=>grind
  |some d=>
   rw[hf]at h;cases oq9 h;exact wjr hf
theorem kjk:∀x y s,pu2 Jq x y=some s->∃k,s.2=.bl k:=by
 intro x y s h;unfold pu2 Jq QQ at h
 split at h
 ·grind
 ·cases hf:fIn x.2 y.2 with
  |none=>rw[hf]at h;cases h
  |some d=>
   obtain⟨k,rfl⟩:=wjr hf;rw[hf]at h;cases oq9 h;exact#[_,rfl]
theorem Kx:∀x y s,f2First fIsNon x y=some s->∃k,s.2=.bl k:=by
 intro x y s h;unfold f2First fIsNon at h
 split at h
 ·grind
 ·grind
theorem wwc:∀x y s,f2First fNotNon x y=some s->∃k,s.2=.bl k:=by
 intro x y s h;unfold f2First fNotNon at h
 split at h
 ·grind
 ·grind
theorem qvl:∀{xs us},xs.length=us.length->(∀(i:Nat) (x) (u),xs[i]?=some x->us[i]?=some u->RelV x u)->Vals xs us
 |[],[],_,_=>.nil|[],_::_,h,_=>by simp_all|x::xs,u::us,h,f=>.cons (f 0 x u (by simp) (by simp)) (qvl (by simpa using h) λi x u e1 e2=>f (i+1) x u (by simpa using e1) (by simpa using e2))
theorem wzl{p2 dk}(ha:QV X Z q a ea)(hmr:X.mg "range"=none)(hgr:Gl X "range")(cn:starEach [ea] X.env=(false,eval ea X.env)::starEach [] X.env)(bq:(backTo dk (starEach [] X.env)).any (·.1)=false):PE X (.Call (.Name "range" p2) [ea] [] dk) (fun σ H Q=>tV Z q a σ H λv H1=>∃j,v=.int j/\∀pp,H1 pp=none->Q (.ref pp) (upd H1 pp (.rng 0 j))):=by
 intro a8 s σ H Q I h;refine Call_ (K3 I hgr hmr boot_range (Y8 (thn (ww ha x6 cn dk a8 s σ H (λvs H1=>∃j,vs=[.int j]/\∀pp,H1 pp=none->Q (.ref pp) (upd H1 pp (.rng 0 j))) I ?_) λus s1 #[vs,H1,I1,r1,j,e,q1]=>?_) cn bq))
 ·grind
 ·subst e;obtain⟨u,rfl,t,rfl⟩:=r1.one;refine call_range_1 #[.ref s1.heap.objs.size,_,I1.laid (o:=.rng 0 j) (λb o e=>X5 _ e) (X9 _) #[_,_,_,X7 _ rfl],rfl,q1 _ I1.fresh]
theorem wkv{K H}(ns:List Nat):RepA K H true (ns.map λ(i:Nat)=>D.int (0+i)) (ns.map λ(i:Nat)=>V.int (0+i)) []:=by
 induction ns with
 |nil=>unfold RepA;exact#[rfl,rfl]
 |cons i ns ih=>
  unfold RepA;exact#[_,_,[],[],rfl,rfl,vx,ih]
theorem vw9{n}{ah:Array Value}(hs:ah.size=n)(hg:∀(i:Nat) u,ah[i]?=some u->∃t,u=.int (0+i*1) t):Vals ((List.range n).map λ(i:Nat)=>V.int (0+i)) ah.toList:=qvl (by simp[hs]) λi x u ex eu=>by
 rw[Ye]at eu;obtain⟨t,rfl⟩:=hg i u eu;rw[X8]at ex;obtain⟨m,hr,rfl⟩:=Option.map_eq_some_iff.mp ex;obtain⟨_,h2⟩:=List.getElem?_eq_some_iff.mp hr;rw[List.getElem_range]at h2;subst h2;exact#[t,by rw[Int.mul_one]]
theorem wxz{p2 dk}(ha:QV X Z q a ea)(hmr:X.mg "range"=none)(hml:X.mg "list"=none)(hc:autoParam (X.calm=true) Ŕ)(hgr:autoParam (Gl X "range") Ŕ)(hgl:autoParam (Gl X "list") Ŕ)
  (cn:autoParam (starEach [ea] X.env=(false,eval ea X.env)::starEach [] X.env) Ŕ) (bq:autoParam ((backTo dk (starEach [] X.env)).any (·.1)=false) Ŕ)
  (se:autoParam (starEach [.Call (.Name "range" p2) [ea] [] dk] X.env=(false,eval (.Call (.Name "range" p2) [ea] [] dk) X.env)::starEach [] X.env) Ŕ) (hpl2:autoParam ((backTo pos (starEach [] X.env)).any (·.1)=false) Ŕ):
  QE X Z q (xkn a) (.Call (.Name "list" p) [.Call (.Name "range" p2) [ea] [] dk] [] pos):=by
 intro a8 s σ H Q I ⟨E,L,r,m,w,ip,xc,k⟩;refine Yo (K3 I hgl hml Q0 (Y8 (thn (ww (wzl ha hmr hgr cn bq) x6 se pos a8 s σ H (λvs H1=>∃pp j,vs=[.ref pp]/\H1 pp=some (.rng 0 j)/\z7 j=true/\j.toNat<=big/\∀l,H1 l=none->Q (.ref l) (upd H1 l (.lst ((List.range j.toNat).map λ(i:Nat)=>V.int (0+(i)))))) I ?_) λus s1 #[vs,H1,I1,r1,pp,j,e,hp,h62,pj,q1]=>?_) se hpl2))
 ·refine vk m w (show bnd (a E) _=some r from ip) xc λE1 s h1 x L1 H1 e1 e2 m1 w1 ok fr sr st sm=>?_
  cases hx:s.2 with
  | int j=>
   rw[hx]at h1;dsimp only at h1
   split at h1
   ·rename_i hj;cases oq9 h1;refine#[j,v5 ok (e2.trans hx),λpp hpp=>#[pp,j,rfl,xK,hj.1,hj.2,λl hl=>?_]];have s1:kX H1 (upd H1 pp (.rng 0 j)):=xw hpp;have w2:World Z.K (upd H1 pp (.rng 0 j)) L1:=#[λx hx=>RepO.kp (w1.ok x hx) (Kp.of_same s1),w1.nd,w1.ds];have o:=W5 (K:=Z.K) (H:=upd H1 pp (.rng 0 j)) (fr:=[]) hl (wkv (List.range j.toNat)) (λ_ z=>(nomatch z));obtain⟨w3,dj⟩:=Q7 w2 (st.trans #[λb ob z _=>s1 b ob z,λb z=>.inl z,λb z=>.inl z]) o (λ_ z=>(nomatch z)) (λ_ z=>(nomatch z)) (λ_ z=>(nomatch z));refine k _ _ rfl #[.rt,.lst (qk 0 j),.ref l,[l]] L1 _ rfl rfl m1 (by simpa [qk]using w3) (by simpa [qk]using dj) λhq=>#[qz (sm hq) (qz s1 o.same),λb hb=>?_]
    have:b=l:=by simpa [Sl.own]using hb
    subst this;exact zX (qz (sm hq) s1) hl
   ·cases h1
  |_=>rw[hx]at h1;cases h1
 ·subst e;obtain⟨u,rfl,rx⟩:=r1.one;cases rx;obtain⟨t1,t2,t3,hg⟩:=(show ObjOk X.prog X.w H1 s1.heap pp (.rng 0 j)from I1.hok pp _ hp);obtain⟨j1,j2⟩:=kjv h62;have e2:Builtin.Range.rangeSize 0 j 1=((j.toNat:Nat):Int):=by rw[rangeSize_one];split<;>lia
  refine call_list_range (n:=j.toNat) (I1.ok.hd hc) (show IsRange s1.heap pp 0 j 1 t1 t2 t3 from hg) (small_one ⋯ ⋯ j1 j2) e2 pj λh' tk i6 c' kp e4 ia=>?_
  obtain⟨hs,nt⟩:=ia;refine#[.ref s1.heap.objs.size,_,I1.laid (a:=s1.heap.objs.size) (o:=.lst ((List.range j.toNat).map λ(i:Nat)=>V.int (0+(i)))) (t':=tk) kp (X9 _) #[by rw[X3,Xz];exact pj,i6.toList,c',vw9 hs nt,by simpa using e4],rfl,q1 _ I1.fresh]
end
end Q
namespace Q
open PySem
noncomputable def Q5(n d:Nat):Option Int->Nat
 |none=>d|some v=>if v<0 then(v+(n:Int)).toNat else min v.toNat n
def KK(xs:List D)(lo hi:Option Int):List D:=(xs.drop (Q5 xs.length 0 lo)).take (Q5 xs.length xs.length hi - Q5 xs.length 0 lo)
noncomputable def fSl:Sd->Option Int->Option Int->Option Sd:=λx lo hi=>match x.2 with
 |.lst xs=>if qY x then some (.rt,.lst (KK xs lo hi))else none|.tup xs=>if qY x/\¬(Q5 xs.length 0 lo=0/\Q5 xs.length xs.length hi=xs.length)then some (.no,.tup (KK xs lo hi))else none|.str z=>if(Txt.slice z lo hi).length<=big then some (.dp,.str (Txt.slice z lo hi))else none|_=>none
def WX:Option Ex->Ev (Option Int)
 |none,E=>some (.ok E none)
 |some c,E=>bnd (c E) λE x=>match x.2 with
  |.int i=>some (.ok E (some i))|_=>none
def cSl(a:Ex)(lo hi:Option Ex):Ex:=λE=>bnd (a E) λE x=>bnd (WX lo E) λE l=>bnd (WX hi E) λE h=>val E (fSl x l h)
noncomputable def zq:Nat->List D->List D
 |_,[]=>[]|k,d::ds=>.tup [.int k,d]::zq (k+1) ds
def lstOf:D->Option (List D)
 |.lst xs=>some xs|_=>none
def xq7(c:Ex):Ev (List D):=λE=>bnd (c E) λE x=>val E ((lstOf x.2).map (zq 0))
noncomputable def Kq:List D->Option (List Str)
 |[]=>some []|.str z::ds=>(Kq ds).map (z :: ·)|_=>none
noncomputable def V1:List D->Option (List Int)
 |[]=>some []|.int z::ds=>(V1 ds).map (z :: ·)|_=>none
noncomputable def WY(a:Str):List Str->List Str
 |[]=>[a]|b::r=>if Spec.ltCps b.cps.toList a.cps.toList then b::WY a r else a::b::r
def Jv:List Str->List Str
 |[]=>[]|a::r=>WY a (Jv r)
noncomputable def qka:D->D->Option D:=λxs x=>match xs with
 |.lst ys=>if x.flat 30&&D.flats 30 ys then(ys.findIdx? λz=>peq z x).map λ(j:Nat)=>D.int (j:Int)else none|.tup ys=>if x.flat 30&&D.flats 30 ys then(ys.findIdx? λz=>peq z x).map λ(j:Nat)=>D.int (j:Int)else none|_=>none
def isSq:D->Bool
 |.lst _=>true|.tup _=>true|_=>false
def Qv(a b:Ex):Ex:=λE=>bnd (a E) λE x=>if isSq x.2 then bnd (b E) λE y=>val E (pu2 qka x y)else none
noncomputable def xkl(i:Nat)(c:Ex):Ex:=λE=>if VX E[i]? then bnd (c E) λE x=>match E[i]?,x.2 with
 | some (some (o,.lst xs)),.int k=>if o=.no then none else(match ixN xs.length k with
  |some j=>(match xs[j]? with
   |some d=>if d.pure&&z7 k then some (.ok (E.set i (some (o,.lst (xs.eraseIdx j)))) (.dp,d))else none
   |none=>none)
  |none=>none)
 |_,_=>none
 else none
def qkl(f:Fn)(cs:List Ex):Ex:=λE=>bnd (vq cs E) λE xs=>match f (letAll xs)with
 |some (.ok _ y)=>if y.2.pure then some (.ok E (.dp,y.2))else none|some (.exc _ c)=>some (.exc E c)|none=>none
noncomputable def qz9(i:Nat)(E:En):En:=match E[i]? with
 |some (some (_,d))=>E.set i (some (.no,d))|_=>E
def sFz(i:Nat)(s:Sm):Sm:=λE=>s (qz9 i E)
noncomputable def xvt:Option (Option Sd)->Bool
 |some (some (.dp,.lst _))=>true|_=>false
noncomputable def ZY (i:Nat) (j c:Ex):Sm:=λE=>if xvt E[i]? then ofE (j E) λE k=>match E[i]?,k.2 with
 | some (some (.dp,.lst xs)),.int k=>(match ixN xs.length k with
  | some n=>(match xs[n]? with
   | some (.lst _)=>ofE (c E) λE x=>match E[i]? with
    |some (some (.dp,.lst xs))=>(match xs[n]? with
     |some (.lst ys)=>if zj x/\ys.length<big then some (.nx (E.set i (some (.dp,.lst (xs.set n (.lst (ys++[x.2])))))))else none
     |_=>none)
    |_=>none
   |_=>none)
  |none=>none)
 |_,_=>none
 else none
def J3:Sd->Sd->Option Sd:=λx y=>match x.2,y.2 with
 |.tup a,.int k=>if -(2 ^ 63)<=k/\k<2 ^ 63/\a.length*k.toNat<=big/\qY x then some (.no,.tup (List.replicate k.toNat a).flatten)else none|_,_=>W6 x y
def sRz(c:Str):Sm:=λE=>some (.xc E c)
def qkj(f:Fn)(cs:List Ex):Ex:=λE=>match vq cs E with
 |some (.ok E xs)=>(match f (letAll xs)with
  |some (.ok _ y)=>some (.ok E y)|some (.exc _ c)=>some (.exc E c)
  |none=>none)
 |_=>none
def Q2(f g:D->D->Option D)(a b c:Ex):Ex:=λE=>bnd (a E) λE x=>bnd (b E) λE y=>match f x.2 y.2 with
 |some (.bl true)=>bnd (c E) λE z=>val E ((g y.2 z.2).map λd=>(.dp,d))|some (.bl false)=>some (.ok E (.dp,.bl false))|_=>none
def xvs:D->Bool
 |.tup _=>true|_=>false
def JY(x:D):Bool:=v4 6 x&&xvs x
def vzh(kc vc:Ex):Ex:=λE=>bnd (kc E) λE k=>bnd (vc E) λE v=>if JY k.2=true then some (.ok E (.rt,.dct [(k.2,v.2)]))else none
def W9:Sd->Option Sd:=λx=>match x.2 with
 |.dct kvs=>if kvs.length<=big/\unm kvs=true then some (.rt,.lst (kvs.map (·.1)))else none|_=>none
noncomputable def qzb(d e:D):Option D:=match d,e with
 |.bl a,.bl b=>some (.bl (!(a==b)))|_,_=>none
noncomputable def wxc(i:Nat)(kc vc:Ex):Sm:=λE=>ofE (vc E) λE v=>if VX E[i]?=true then ofE (kc E) λE k=>match E[i]?,k.2 with
 |some (some (o,.lst xs)),.int j=>if o=.no then none else(match ixN xs.length j with
  |some n=>some (.nx (E.set i (some (.rt,.lst (xs.set n v.2)))))
  |none=>none)
 |_,_=>none
 else none
noncomputable def mkD:D×D:=(.str "",.non)
def V6(kv:List (Int×Int)):D:=.dct (mkD::kv.map λp=>(.int p.1,.int p.2))
noncomputable def YQ : List (D × D) -> Option (List (Int × Int))
  |[]=>some []|(.int k,.int v)::r=>(YQ r).map ((k,v):: ·)|_=>none
def XQ:D->Option (List (Int×Int)):=λd=>match d with
 |.dct ((.str _,.non)::kvs)=>YQ kvs|_=>none
noncomputable def kQ(kv:List (Int×Int))(k:Int):Option Int:=(kv.find? λp=>decide (p.1=k)).map (·.2)
noncomputable def vJ(kv:List (Int×Int))(k v:Int):List (Int×Int):=if(kv.any λp=>decide (p.1=k))=true then kv.map (λp=>if p.1=k then(p.1,v)else p)else kv++[(k,v)]
def Wq:D->D->Option D:=λx y=>match x,XQ y with
 |.int k,some kv=>some (.bl (kQ kv k).isSome)|_,_=>none
def xk9:D->D->Option D:=λy x=>match x,XQ y with
 |.int k,some kv=>(kQ kv k).map .int|_,_=>none
def xkz(a b:Ex):Ex:=λE=>bnd (a E) λE x=>bnd (b E) λE y=>val E ((xk9 x.2 y.2).map λd=>(.dp,d))
noncomputable def Vx:List D->Option (List (Int×Int))
 |[]=>some []|.tup [.int a,.int b]::r=>(Vx r).map ((a,b):: ·)|_=>none
def kwp:Sd->Option Sd:=λx=>match x.2 with
 |.lst ds=>(match Vx ds with
  |some ps=>if ps.length<big then some (.rt,V6 (ps.foldl (λkv p=>vJ kv p.1 p.2) []))else none
  |none=>none)
 |_=>none
def vv3(z:Str):D->Option D:=λd=>match d with
 |.lst ds=>(match Kq ds with
  |some ys=>if(ys.map (·.length)).sum+ys.length*z.length<=100000 then some (.str (Txt.join z ys))else none
  |none=>none)
 |_=>none
def vzg(z:Str)(c:Ex):Ex:=λE=>bnd (c E) λE x=>val E ((vv3 z x.2).map λd=>(.dp,d))
def vwd:D->Option (List D)
 |.tup xs=>some xs|_=>none
def vql(c:Ex):Ev (List D):=λE=>bnd (c E) λE x=>val E ((vwd x.2).map (zq 0))
def itV(i:Nat):Ev (List D):=λE=>match E[i]? with
 |some (some (_,.lst ds))=>if D.pures ds=true then some (.ok E ds)else none|_=>none
noncomputable def D.at:List Nat->D->Option D
 |[],d=>some d
 |n::p,.tup ds=>match ds[n]? with
  |some d=>D.at p d|none=>none
 |n::p,.lst ds=>match ds[n]? with
  |some d=>D.at p d|none=>none
 |_::_,_=>none
def XZ:D->Option D
 |.dct kvs=>if unm kvs=true then some (.int kvs.length)else none|_=>none
def xq8:Option (Option Sd)->Bool
 |some (some (.rt,.dct kvs))=>unm kvs|_=>false
def z3(kvs:List (D×D))(k:D):Option D:=(kvs.find? λp=>decide (p.1=k)).map (·.2)
noncomputable def vvr(i:Nat)(kc vc:Ex):Ex:=λE=>if xq8 E[i]?=true then bnd (kc E) λE k=>bnd (vc E) λE v=>(match E[i]? with
 |some (some (.rt,.dct kvs))=>if JY k.2=true/\kvs.length<big/\unm kvs=true/\v.2.pure=true/\D.pures (kvs.map (·.2))=true then(match z3 kvs k.2 with
  |some d=>some (.ok E (.dp,d))
  |none=>some (.ok (E.set i (some (.rt,.dct (kvs++[(k.2,v.2)])))) (.dp,v.2)))else none
 |_=>none)else none
noncomputable def qkk(f:Fn)(i:Nat)(cs:List Ex):Ex:=λE=>bnd (vq cs E) λE xs=>match E[i]? with
 | some (some x)=>(match f (letAll xs++[x])with
  |some (.ok E' y)=>(match E'[xs.length]? with
   |some (some x')=>some (.ok (E.set i (some x')) y)
   |_=>none)
  |some (.exc _ c)=>some (.exc (E.set i none) c)
  |none=>none)
 |_=>none
noncomputable def V8(cs:List Str)(b h:Sm):Sm:=λE=>match b E with
 |some (.xc E c)=>if c∈cs then(match h E with
  |some (.xc _ _)=>none
  |r=>r)else none
 |r=>r
end Q
namespace Q
open PySem PySem.Spec PyProof.Rows L2 L3
section
variable {X:Cx}{Z:Fx0}{K:Frag}{pn:List Nat}{q qa qb:Bool}{a b c:Ex}{u:Ts}{tg e ea eb:Expr}{st:Stmt}{σ:L2.St}{H:Hp}{L:Ls}{E:En}{pos p p2:Pos}{x:Str}
theorem kv0(a):∀r,(WY a r).Perm (a::r)
 |[]=>List.Perm.refl _
 |b::r=>by
  unfold WY
  split
  ·exact((kv0 a r).cons b).trans (List.Perm.swap ..)
  ·simp_all
theorem jvz:∀r,(Jv r).Perm r
 |[]=>List.Perm.refl _|a::r=>(kv0 a _).trans ((jvz r).cons a)
def leS(a b:Str):Prop:=Spec.ltCps b.cps.toList a.cps.toList=false
theorem leS_iff{a b}:leS a b↔a.cps.toList<=b.cps.toList:=by
 unfold leS;rw[ltCps_eq,decide_eq_false_iff_not,List.not_lt]
theorem qjx{a b c}(h:leS a b)(h':leS b c):leS a c:=leS_iff.mpr (List.le_trans (leS_iff.mp h) (leS_iff.mp h'))
theorem qwe{a b}(h:leS a b)(h':leS b a):a=b:=by
 have:=List.le_antisymm (leS_iff.mp h) (leS_iff.mp h');cases a
 simp_all
theorem vq7{a b}(h:¬leS a b):leS b a:=by
 rw[leS_iff]at h ⊢;exact List.le_of_lt (List.not_le.mp h)
theorem qj4:∀{a r},risingS a r=true->(a::r).Pairwise leS
 |a,[],_=>by simp
 |a,b::r,h=>by
  have h:(!_&&risingS b r)=true:=h;rw[Bool.and_eq_true,Bool.not_eq_true']at h;have ih:=qj4 h.2;refine List.pairwise_cons.mpr #[λc hc=>?_,ih];rcases aD hc with rfl|hc
  ·exact h.1
  ·exact qjx h.1 ((List.pairwise_cons.mp ih).1 c hc)
theorem vjl{r}(h:sortedS r=true):r.Pairwise leS:=by
 cases r with|nil=>exact .nil|cons a r=>exact qj4 h
theorem vqo{a}:∀{r},r.Pairwise leS->(WY a r).Pairwise leS
 | [],_=>by simp[WY]
 | b::r,h=>by
  rw[List.pairwise_cons]at h;unfold WY
  by_cases hl:Spec.ltCps b.cps.toList a.cps.toList=true
  ·rw[Xd hl];refine List.pairwise_cons.mpr #[λc hc=>?_,vqo h.2];rcases aD ((kv0 a r).mem_iff.mp hc)with rfl|hc
   ·exact vq7 (by unfold leS;rw[hl];exact λz=>nomatch z)
   ·simp_all
  ·rw[Xg hl];have ms:leS a b:=Bool.eq_false_iff.mpr hl;refine List.pairwise_cons.mpr #[λc hc=>?_,List.pairwise_cons.mpr h];rcases aD hc with rfl|hc
   ·simp_all
   ·exact qjx ms (h.1 c hc)
theorem kx7:∀{r},(Jv r).Pairwise leS
 |[]=>.nil|a::r=>vqo kx7
theorem vwh{r s}(p:s.Perm r)(h:sortedS s=true):s=Jv r:=
 List.Perm.eq_of_pairwise (λa b _ _ h1 h2=>qwe h1 h2) (vjl h) kx7 (p.trans (jvz r).symm)
theorem qxa{ns}:∀{us},Vals (ns.map V.str) us->StrsAre us ns:=by
 induction ns with
 | nil=>intro us r;cases r;exact .nil
 | cons n ns ih=>
  intro us r;cases r with
  |cons r1 r2=>
   obtain⟨t,e⟩:=r1;subst e;exact .cons n t (ih r2)
theorem vj1{us ns}(h:StrsAre us ns):Vals (ns.map V.str) us:=by
 induction h with|nil=>exact .nil|cons y t _ ih=>exact .cons #[t,rfl] ih
theorem vj3{us ns}(h:IntsAre us ns):Vals (ns.map V.int) us:=by
 induction h with|nil=>exact .nil|cons y t _ ih=>exact .cons #[t,rfl] ih
theorem kx3{g}:∀{ds bs xs as},Kq ds=some bs->RepA K H g ds xs as->xs=bs.map V.str/\∀z∈bs,z.length<=sizeLine
 | [],bs,xs,as,h,r=>by
  cases oq9 h;unfold RepA at r
  simp_all
 | d::ds,bs,xs,as,h,r=>by
  cases d with
  | str b=>
   unfold Kq at h;cases hb:Kq ds with
   |none=>grind
   |some lj=>
    rw[hb]at h;cases oq9 h;obtain⟨x,rr,c1,c2,rfl,rfl,h1,h2⟩:=r;unfold RepL at h1;obtain _:=kx3 hb h2
    simp_all
  |_=>unfold Kq at h;cases h
theorem qwl{g}:∀{ds bs xs as},V1 ds=some bs->RepA K H g ds xs as->xs=bs.map V.int
 | [],bs,xs,as,h,r=>by
  cases oq9 h;exact r.1
 | d::ds,bs,xs,as,h,r=>by
  cases d with
  | int b=>
   unfold V1 at h;cases hb:V1 ds with
   |none=>grind
   |some lj=>
    rw[hb]at h;cases oq9 h;obtain⟨x,rr,c1,c2,rfl,rfl,h1,h2⟩:=r;unfold RepL at h1;rw[h1.1,qwl hb h2];rfl
  |_=>unfold V1 at h;cases h
theorem qvz{g}:∀{bs:List Str},(∀z∈bs,z.length<=sizeLine)->RepA K H g (bs.map D.str) (bs.map V.str) []
 |[],_=>#[rfl,rfl]
 |b::bs,h=>by
  unfold RepA;exact#[_,_,[],[],rfl,rfl,Kz (h b X6),qvz λz hz=>h z (lc9 _ hz)]
def tPo(Z:Fx0):Option Ex->TO
 |none=>vjd|some c=>wx2 (tV Z true c)
theorem Kw:PO X none (tPo Z none):=wql
theorem Jx(h:QV X Z true c e):PO X (some e) (tPo Z (some c)):=wqk h
theorem vkf{α co F}{r:Res α}{G}(m:Mt E σ L)(w:World Z.K H L)(h:bnd (WX co E) F=some r)(xc:Xc Z σ H L r)
  (k:∀E1 l,F E1 l=some r->∀L1 H1,Mt E1 σ L1->World Z.K H1 L1->Step H L H1 L1->kX H H1->G l H1):tPo Z co σ H G:=by
 cases co with
 | none=>exact k E none h L H m w Step.refl zK
 | some c=>
  have h:bnd (bnd (c E) λE x=>match x.2 with|.int i=>some _|_=>none) F=some r:=h;have h':bnd (c E) (λE x=>bnd (match x.2 with|.int i=>some (.ok E (some i))|_=>none) F)=some r:=by
   cases hc:c E with|none=>rw[hc]at h;exact h|some y=>rw[hc]at h;cases y<;>exact h
  show tV Z true c σ H λx H1=>∃i,x=.int i/\G (some i) H1
  refine vk m w h' xc λE1 s h1 x L1 H1 e1 e2 m1 w1 ok fr sr st sm=>?_
  cases hs:s.2 with
  |int i=>
   rw[hs]at h1;exact#[i,v5 ok (e2.trans hs),k E1 _ h1 L1 H1 m1 w1 st (sm rfl)]
  |_=>rw[hs]at h1;cases h1
theorem RepA.drop{K H g}:∀n {ds xs as},RepA K H g ds xs as->∃bs,RepA K H g (ds.drop n) (xs.drop n) bs/\∀b∈bs,b∈as
 |0,ds,xs,as,h=>#[as,h,λ_ h=>h]
 |n+1,[],xs,as,h=>by
  obtain⟨rfl,rfl⟩:=h;exact#[[],#[rfl,rfl],λ_ h=>h]
 |n+1,d::ds,xs,as,h=>by
  obtain⟨x,r,bs,cs,rfl,rfl,h1,h2⟩:=h;obtain⟨es,r2,hb⟩:=RepA.drop n h2;exact#[es,r2,λb h=>lr9 _ (hb b h)]
theorem RepA.take{K H g}:∀n {ds xs as},RepA K H g ds xs as->∃bs,RepA K H g (ds.take n) (xs.take n) bs/\∀b∈bs,b∈as
 |0,ds,xs,as,h=>#[[],#[rfl,rfl],λ_ h=>nomatch h]
 |n+1,[],xs,as,h=>by
  obtain⟨rfl,rfl⟩:=h;exact#[[],#[rfl,rfl],λ_ h=>h]
 |n+1,d::ds,xs,as,h=>by
  obtain⟨x,r,bs,cs,rfl,rfl,h1,h2⟩:=h;obtain⟨es,r2,hb⟩:=RepA.take n h2;refine#[bs++es,?_,λb h=>(aA h).elim (λz=>ll9 _ z) λz=>lr9 _ (hb b z)];unfold RepA;exact#[x,r.take n,bs,es,rfl,rfl,h1,r2]
theorem RepA.cut{K H g ds xs as}(h:RepA K H g ds xs as)(lo hi):∃bs,RepA K H g (KK ds lo hi) (wwp xs lo hi) bs/\∀b∈bs,b∈as:=by
 unfold KK wwp;rw[<-h.len];obtain⟨bs,r,hb⟩:=h.drop _;obtain⟨cs,r2,hc⟩:=r.take _;exact#[cs,r2,λb h=>hb b (hc b h)]
theorem wkj{x:Sl}{s lo hi Q}(ok:x.ok K H)(hf:fSl (x.o,x.d) lo hi=some s)(k:∀z H',z.o=s.1->z.d=s.2->Out K H H' z x.frz->Q z.v H'):vzu K x.v lo hi H Q:=by
 unfold fSl at hf;cases hx:x.d with
 | lst ds=>
  rw[hx]at hf;dsimp only at hf
  split at hf
  ·rename_i hl;cases oq9 hf;obtain⟨l,xs,bs,ev,q3,r3,h3⟩:=JV ok (.inl hx) (hx▸hl);have q3:LsR K H l xs:=by rcases q3 with⟨_,z⟩|⟨z,_⟩;exact z;rw[hx]at z;cases z
   obtain⟨cs,r4,h4⟩:=r3.cut lo hi;exact .inl #[l,xs,ev,Q6 q3,λp hp=>k _ _ rfl rfl (W5 hp r4 λb hb=>h3 b (h4 b hb))]
  ·cases hf
 | tup ds=>
  rw[hx]at hf;dsimp only at hf
  split at hf
  ·rename_i hl;cases oq9 hf;obtain⟨l,xs,bs,ev,q3,r3,h3⟩:=JV ok (.inr hx) (hx▸hl.1);have q3:SqT K H l xs:=by rcases q3 with⟨z,_⟩|⟨_,z⟩;rw[hx]at z;cases z;exact z
   obtain⟨cs,r4,h4⟩:=r3.cut lo hi;refine .inr (.inl #[l,xs,ev,q3,?_,λp hp=>k _ _ rfl rfl (kqn hp r4 λb hb=>h3 b (h4 b hb))]);rw[<-r3.len];exact hl.2
  ·cases hf
 | str z=>
  rw[hx]at hf;dsimp only at hf
  split at hf
  ·rename_i hl;cases oq9 hf;obtain⟨e,hz⟩:=zV ok hx;exact .inr (.inr #[z,e,hz,k _ H rfl rfl (xvi hl)])
  ·cases hf
 |_=>simp_all
theorem K6{lo hi elo ehi}(ha:QV X Z q a ea)(hl:PO X elo (tPo Z lo))(hh:PO X ehi (tPo Z hi))(hK:autoParam (X.K=Z.K) Ŕ):QE X Z q (cSl a lo hi) (.Subscript ea (.Slice elo ehi none p2) pos):=
 qV (vx8 (xqt Z.K hK) ha hl hh) fun σ H Q ao=>ex8 ao λE L r m w hc xc k=>by
  refine vk m w (hc) xc λE1 s h1 x L1 H1 e1 e2 m1 w1 ok fr sr st sm=>(vkf m1 w1 h1 (xc.step st) λE2 l h2 L2 H2 m2 w2 bu fk=>(vkf m2 w2 h2 (xc.step (st.trans bu)) λE3 u h3 L3 H3 m3 w3 dj om=>?_))
  obtain⟨z,hz,rfl⟩:=zQ h3;have k1:=Vw ok fr bu fk;have k2:=Vw k1.1 k1.2 dj om;refine wkj k2.1 (by rw[e1,e2];exact hz) λy H' ho hd o=>?_
  obtain⟨w4,jg⟩:=Q7 w3 ((st.trans bu).trans dj) o k2.2 (λb hb=>k2.1.some (Sl.frz_as hb)) (YV sr λb hb=>Sl.frz_as hb);have kl:=λhq=>qz (sm hq) (qz fk om)
  exact k _ _ rfl y L3 H' ho hd m3 w4 jg λhq=>#[qz (kl hq) o.same,λb hb=>zX (kl hq) (o.new b hb)]
def tAV(Z:Fx0)(cs:List Ex):TA:=fun σ H Q=>∃E L r,Mt E σ L/\World Z.K H L/\vq cs E=some r/\Xc Z σ H L r /\
 ∀E' ys,r=.ok E' ys->∀(xs:List Sl) L' H',xs.map Sl.sd=ys->Mt E' σ L'->World Z.K H' L'->(∀x∈xs,x.ok Z.K H')->Step H L H' L'->kX H H'->Q (xs.map Sl.v) H'
def QAV(X:Cx)(Z:Fx0)(cs:List Ex)(es:List Expr):Prop:=PA X es (tAV Z cs)
theorem xv7:QAV X Z [] []:=Wj x6 fun σ H Q ao=>ex8 ao λE L r m w hc xc k=>by
 cases oq9 hc;exact k _ _ rfl [] L H rfl m w (λ_ z=>nomatch z) Step.refl zK
theorem wz5{cs:List Ex}{es:List Expr}(h:QV X Z true c e)(hs:QAV X Z cs es)(cn:autoParam (starEach (e::es) X.env=(false,eval e X.env)::starEach es X.env) Ŕ):QAV X Z (c::cs) (e::es):=
 Wj (ww h hs cn) fun σ H Q ao=>ex8 ao λE L r m w hc xc k=>by
  refine vk m w (show bnd (c E) _=some r from hc) xc λE1 s h1 x L1 H1 e1 e2 m1 w1 ok fr sr st sm=>?_
  rcases wZ h1 with⟨E2,ys,h2,h3⟩|⟨E2,cc,h2,h3⟩
  ·cases oq9 h3;refine#[E1,L1,_,m1,w1,h2,(λ_ _ z=>by cases z),λE' um z xs L2 H2 e3 m2 w2 iu bu fk=>?_];injection z with z1 z2;subst z1 z2;refine k _ _ rfl (x::xs) L2 H2 (by rw[List.map_cons,e3];simp[Sl.sd,e1,e2]) m2 w2 (λy hy=>?_) (st.trans bu) (qz (sm rfl) fk);rcases aD hy with rfl|hy
   ·exact(Vw ok fr bu fk).1
   ·exact iu y hy
  ·exact#[E1,L1,_,m1,w1,h2,(xc.step st).map h3,λE' s' z=>by cases z]
theorem wq7{k n:Nat}{ps:List Str}{f:Fn}{cs:List Ex}{es:List Expr}(D:k4 X.prog X.w X.K X.mg X.base k x ps (spF Z.K Z.mg n f))(hr:Room k X.A)(g:z4 X Z.EX)(ha:QAV X Z cs (e::es))(hn:autoParam (cs.length=n) Ŕ)(hg:autoParam (Gl X x) Ŕ)(fq:autoParam ((x==("__debug__":Str))=false) ŕ)
  (he:autoParam (starEach (e::es) X.env=(false,eval e X.env)::starEach es X.env) Ŕ) (bq:autoParam ((backTo pos (starEach es X.env)).any (·.1)=false) Ŕ):
  QE X Z true (qkl f cs) (.Call (.Name x p) (e::es) [] pos):=qV (vkj D hr g ha hg fq he bq) fun σ H Q ao=>ex8 ao λE L r m w hc xc kk=>by
 have hc:bnd (vq cs E) _=some r:=hc;rcases wZ hc with⟨E1,ys,h1,h2⟩|⟨E1,cc,h1,h2⟩
 rotate_left
 ·exact#[E,L,_,m,w,h1,xc.map h2,λE' s' z=>by cases z]
 refine#[E,L,_,m,w,h1,(λ_ _ z=>by cases z),λE' um z xs L1 H1 e1 m1 w1 ok1 st sm=>?_];injection z with z1 z2;subst z1 z2;rw [Xw];have ak:xs.length=n:=by rw[<-hn,<-jw4 h1,<-e1,X3]
 cases hf:f (letAll ys)with
 | none=>rw[hf]at h2;cases h2
 | some fr=>
  rw[hf]at h2;have ev:xs.map Sl.v=(xs.map Sl.let).map Sl.v:=by rw[Xr];rfl
  have wl:World Z.K H1 ((xs.map Sl.let).map some):=by
   refine#[λy hy=>?_,by rw[Qz];exact Y2,λa ha=>by rw[Qz]at ha;exact nomatch ha];obtain⟨y',hy',e⟩:=aE hy;cases e;obtain⟨t,ht,rfl⟩:=aE hy';exact K4 (ok1 t ht)
  rw[ev];refine#[xs.map Sl.let,fr,rfl,by rw[X3];exact ak,wl,by rw[<-e1]at hf;rw[kz2];exact hf,λE' c ee C H' hm s'=>?_,λE' a ee y H' e2 e3 w' s'=>?_]
  ·subst ee;cases oq9 h2;have lx:kX H1 H':=λb ob hb=>s'.keep b ob hb λz=>by rw[Qz]at z;exact nomatch z
   exact xc _ _ rfl C L1 H' hm m1 #[λy hy=>RepO.kp (w1.ok y hy) (Kp.of_same lx),w1.nd,w1.ds] (st.trans #[λb ob hb _=>lx b ob hb,λ_ h=>.inl h,λ_ h=>.inl h])
  ·subst ee;dsimp only at h2
   split at h2
   ·rename_i hp;cases oq9 h2;have lx:kX H1 H':=λb ob hb=>s'.keep b ob hb λz=>by rw[Qz]at z;exact nomatch z
    have w2:World Z.K H' L1:=#[λy hy=>RepO.kp (w1.ok y hy) (Kp.of_same lx),w1.nd,w1.ds];obtain⟨z,rp⟩:=RepL.pu (g':=false) (RepO.wk (w'.ok y X6)) (by rw[e3];exact hp);have bu:Step H L H' L1:=st.trans #[λb ob hb _=>lx b ob hb,λ_ h=>.inl h,λ_ h=>.inl h];exact kk _ _ rfl #[.dp,y.d,y.v,[]] L1 H' rfl e3 m1 (w2.consPu rp rfl) (Jw (x:=#[.dp,y.d,y.v,[]]) bu (λb hb=>nomatch hb) rfl) λ_=>#[qz sm lx,λ_ z=>(nomatch z)]
   ·cases h2
end
theorem wwx{prog w A E s t items x}{e:Value->Bool}{j}{Q}
  (ht:IsTup s.heap t items) (he:∀y∈items,SeqAt.EqAt A.in1 s y x (e y)) (hj) (h1:e items[j]=true) (h2:∀m (hm:m<items.size),m<j->e items[m]=false)
  (h:Q (.int j s.toks) {s with toks:=s.toks+1}):wpAny (model prog w) A (call (.builtin "tuple.index") [.ref t,x]) Q E s:=by
 refine Y1 PySem.F.slot_tuple_index ht.typeIs PySem.F.entry_tuple_index ?_ (PySem.F.args_tuple_index_2 _ _);show wpAny _ _ (Builtin.Tuple.tupleItemsOf _ >>= _) _ _ s;refine X0 (tupleItemsOf_ ht ?_);dsimp only;refine X0 (X4 (X0 (X4 ?_)));rw[Std.Legacy.Range.forIn_eq_forIn_range'];refine X0 (wpAny_forIn_list _ (λam b s'=>b=_/\s'=s/\∃k,k<=j/\am=List.range' k (items.size - k)) _ ?_ ?_ _ _ #[rfl,rfl,0,Yi _,?_])
 ·rintro i am b s' ⟨rfl,rfl,k,hk,hr⟩;obtain⟨n,hn⟩:∃n,items.size - k=n+1:=#[items.size - k - 1,⋯];rw[hn]at hr;injection hr with hi si;subst hi;have hi:i<items.size:=⋯
  rw[show items[i]?=some items[i]from Yk hi];refine X0 (he items[i] (Array.getElem_mem hi) _ _ _ _ ?_)
  by_cases mz:i=j
  ·subst mz;rw[h1];exact X0 (X0 (wpAny_mkInt (X4 (X4 (X4 #[_,rfl,h])))))
  ·rw[h2 i hi ⋯];refine X4 #[rfl,rfl,i+1,⋯,?_]
   grind
 ·rintro b s' ⟨rfl,rfl,k,hk,hr⟩
  grind
 ·simp
theorem xqu{prog w A E s l items k t}{Q}
  (ht:IsTup s.heap l items) (h:Q .notImplemented s):wpAny (model prog w) A (call (.builtin "int.__rmul__") [.int k t,.ref l]) Q E s:=by
 refine Y1 PySem.F.slot_int_rmul (typeIs_int s k t) PySem.F.entry_int_rmul ?_ (PySem.F.args_int_rmul_2 _ _);obtain⟨o,e,c,n,hd⟩:=ht;show wpAny _ _ (asInt? _ >>= _) _ _ s;refine X0 (X0 (wpAny_load e ?_));rw[hd];exact X4 (X0 (Z9 (X4 #[_,rfl,h])))
theorem mulT{prog w A E s l items k t}{Q}
  (ht:IsTup s.heap l items) (h1:-(2 ^ 63)<=k) (h2:k<2 ^ 63) (hz:items.size*k.toNat<=sizeLine)
  (ll:(items.isEmpty=true\/k=1)->Q (.ref l) s)
  (hsz:(List.foldl (λx1 x2=>x1++x2) (List.toArray []) (List.replicate k.toNat items)).size<=sizeLine)
  (iq:Q (.ref s.heap.objs.size) {s with heap:=s.heap.push {cls:=.type "tuple",data:=.seq (List.foldl (λx1 x2=>x1++x2) (List.toArray []) (List.replicate k.toNat items))}})
  : wpAny (model prog w) A (call (.builtin "tuple.__mul__") [.ref l,.int k t]) Q E s:=by
 refine Y1 PySem.F.slot_tuple_mul ht.typeIs PySem.F.entry_tuple_mul ?_ (PySem.F.args_tuple_mul_2 _ _);show wpAny _ _ (if _=true then _ else _) _ _ s;rw[Xg ⋯];refine X0 (tupleItemsOf_ ht ?_)
 by_cases hs:(items.isEmpty||k==1)=true
 ·rw[Xd hs];refine X0 (X0 (wpAny_typeOf ht.typeIs (X4 (X0 (Z9 (X4 #[_,rfl,ll ?_]))))))
  simpa using hs
 ·rw[Xg hs];have ck:items.isEmpty=false:=by
   grind
  have hm:((items.size:Int)*k)<=sizeLine\/k<=0:=by
   by_cases hk:k<=0
   ·exact .inr hk
   ·grind
  dsimp only
  by_cases hk:k<=0
  ·rw[Xd (by simp[hk])];have e:k.toNat=0:=⋯
   rw[e]at iq;exact X0 (Y4 (X4 #[_,rfl,iq]) (Yi _))
  ·rw[Xg (by simp[hk,ck])];have hm:=hm.resolve_right hk;have jo:(sizeLine:Int)=16777216:=⋯
   rw[Xg ⋯,Xg (by unfold Builtin.Tuple.tupleTooMany;lia)];exact X0 (Y4 (X4 #[_,rfl,iq]) hsz)
section
variable {X:Cx}{Z:Fx0}{K:Frag}{pn:List Nat}{q qa qb:Bool}{a b c:Ex}{u:Ts}{tg e ea eb:Expr}{st:Stmt}{σ:L2.St}{H:Hp}{L:Ls}{E:En}{pos p p2:Pos}{x:Str}
def wxj(K:Frag):R2:=λx y H Q=>∃l k xs,x=.ref l/\y=.int k/\SqT K H l xs/\-(2 ^ 63)<=k/\k<2 ^ 63/\xs.length*k.toNat<=sizeLine/\((xs=[]\/k=1)->Q (.ref l) H)/\∀p,H p=none->Q (.ref p) (upd H p (.tup (List.replicate k.toNat xs).flatten))
theorem op_repT:OpR X (binaryOp .Mult) (wxj X.K):=by
 rintro a8 s σ H x y v u Q I rx ry ⟨l,k,xs,rfl,rfl,hq,h1,h2,hz,q1,q2⟩;cases rx;obtain⟨t,rfl⟩:=ry;obtain⟨af,r,ht,hl⟩:=I.tuple hq;have ak:=r.length;have f0:List.foldl (λx1 x2=>x1++x2) (List.toArray []) (List.replicate k.toNat af.toArray)=(List.replicate k.toNat af).flatten.toArray:=by
  have:=kv3 af k.toNat [];rw[List.nil_append]at this;exact this
 have hz2:(List.replicate k.toNat xs).flatten.length<=sizeLine:=by rw[vq5,Nat.mul_comm];exact hz
 refine wpAny_binaryOp_repeat_ref (T:="tuple") (U:="int") ⋯ ht.typeIs (λs'=>typeIs_int s' k t) rfl F.fills_int_mul F.slot_int_rmul (show seqRepeat? (Value.type "tuple")=pure (some (Value.builtin "tuple.__mul__"))from rfl) F.slot_int_index.lookup
  (xqu ht #[rfl,ht.typeIs,mulT ht h1 h2 (by rw[Xa,<-ak];exact hz) (λhs=>?_) ?_ ?_])
 ·refine#[.ref l,H,I,rfl,q1 ?_];rcases hs with hs|hs
  ·grind
  ·exact .inr hs
 ·rwa [f0,Xa,<-(r.rep k.toNat).length]
 ·rw[f0];exact#[.ref _,_,I.laid (t':=s.toks) (o:=.tup _) (λb o e=>X5 _ e) (X9 _) #[hz2,_,r.rep k.toNat,IsTupD.new _ _],rfl,q2 _ (I.hok.fresh (X9 _))]
def wxm(K:Frag):R2:=λx y H Q=>wxj K x y H Q\/wkz K x y H Q
theorem wzy(hK:autoParam (X.K=K) Ŕ):OpR X (binaryOp .Mult) (wxm K):=by subst hK;exact op_repT.or wzz
theorem wwg:Ad2 K (wxm K) J3:=by
 intro H x y s Q ox oy hf k;cases hx:x.d with
 | tup ds=>
  cases hy:y.d with
  | int n=>
   unfold J3 at hf;rw [hx,hy]at hf;dsimp only at hf
   split at hf
   ·rename_i hc;cases oq9 hf;obtain⟨l,xs,bs,e3,q3,r3,h3⟩:=JV ox (.inr hx) (hx▸hc.2.2.2);have q3:SqT K H l xs:=by rcases q3 with⟨z,_⟩|⟨_,z⟩;rw[hx]at z;cases z;exact z
    obtain⟨cs,r4,h4⟩:=r3.reps n.toNat;refine .inl #[l,n,xs,e3,v5 oy hy,q3,hc.1,hc.2.1,by rw[<-r3.len];exact hc.2.2.1,λhs=>?_,λp hp=>?_]
    ·refine k #[.no,.tup _,.ref l,cs] H rfl rfl #[zK,?_,λb hb=>(nomatch hb),Y2,λb hb=>ll9 _ (h3 b (h4 b hb))];show RepL K H true _ _ cs;refine#[l,xs,rfl,q3,?_];have e:(List.replicate n.toNat xs).flatten=xs:=by
      rcases hs with hs|hs
      ·subst hs;simp
      ·subst hs;simp
     rw[e]at r4;exact r4
    ·exact k _ _ rfl rfl (kqn hp r4 λb hb=>ll9 _ (h3 b (h4 b hb)))
   ·grind
  |_=>
   refine .inr (wk6 H x y s Q ox oy ?_ k);unfold J3 at hf;rw[hx,hy]at hf;rw[hx];exact hf
 |_=>
  refine .inr (wk6 H x y s Q ox oy ?_ k);unfold J3 at hf;rw[show(x.o,x.d).2=x.d from rfl,hx]at hf;rw[hx];exact hf
theorem vq0{h}:∀{ds us},CReps h ds us->us.map (dec h)=ds
 |[],_,r=>by rw[r];rfl
 |z::ds,_,r=>by
  obtain⟨u,rr,rfl,h1,h2⟩:=r;rw[List.map_cons,qkf h1,vq0 h2]
def xv0(K:Frag)(C:Hp->List V->Prop):List V->Hp->VK->Prop:=λvs H Q=>∃v d ds as bs xs j,vs=[v]/\RepL K H true d v as/\C H xs/\RepA K H true ds xs bs/\d.flat 30=true/\D.flats 30 ds=true/\(ds.findIdx? λz=>peq z d)=some j/\Q (.int j) H
theorem vx9{o to t apos ai}(hu:X.A.units+64<cLine)(ho:PE X o to)(ha:PA X [e] t)
  (cu:autoParam (attributeBase o "index" X.env (eval o X.env)=eval o X.env) Ŕ)
  (gl:autoParam (((backTo ai (starEach [e] X.env)).all (λx=>!x.1)&&(backToKw ai (keywordEach [] X.env)).all (λx=>x.1.isSome)
   && decide ([e].length+([]:List Keyword).length+(if([]:List Keyword).isEmpty then 0 else 1)<30))=true) Ŕ)
  (cp:autoParam ((apos.endLine==ai.line)=true) Ŕ) (hs:autoParam (starEach [e] X.env=(false,eval e X.env)::starEach [] X.env) Ŕ) (bi:autoParam ((backTo ai (starEach [] X.env)).any (·.1)=false) Ŕ):
  PE X (.Call (.Attribute o "index" apos) [e] [] ai) (fun σ H Q=>to σ H λx H1=>(∃p xs,x=.ref p/\LsR X.K H1 p xs/\t σ H1 λvs H2=>xv0 X.K (λH xs=>LsR X.K H p xs) vs H2 Q)\/∃p xs,x=.ref p/\SqT X.K H1 p xs/\t σ H1 λvs H2=>xv0 X.K (λH xs=>SqT X.K H p xs) vs H2 Q):=by
 intro a8 s σ H Q I h;refine wpAny_Call_method_late cu gl cp rfl (thn (ho a8 s σ H _ I h) λv s1 #[x,H1,I1,r1,qq]=>?_);have eqs:∀{s2 H2 d v} {as:List Addr} {w:Value} {us:List Value} {ds:List D},L2.Inv X a8 σ H2 s2->RepL X.K H2 true d v as->RelV v w->d.flat 30=true->D.flats 30 ds=true->CReps s2.heap ds us->∀y∈us.toArray,SeqAt.EqAt X.A.in1 s2 y w (peq (dec s2.heap y) d):=fun {s2 H2 d v as w us ds} I2 rd rw f1 f2 cr y hy=>by
  have c1:=VZ I2 rd f1 rw;obtain⟨d',hd,c⟩:=kq7 cr (by simpa using hy);rw[qkf c];exact YW 30 (kje f2 hd) c c1 (by have:=L3.in1_units X.A;lia)
 have idx:∀{h:Heap} {ds:List D} {us:List Value} {d:D} {j:Nat},CReps h ds us->(ds.findIdx? λz=>peq z d)=some j->∃hj:j<us.toArray.size,peq (dec h us.toArray[j]) d=true/\∀m (hm:m<us.toArray.size),m<j->peq (dec h us.toArray[m]) d=false:=fun {h ds us d j} cr hf=>by
  have e:=vq0 cr;subst e;rw[List.findIdx?_eq_some_iff_getElem]at hf;obtain⟨hj,h1,h2⟩:=hf;have hj':j<us.length:=by simpa using hj
  refine#[by simpa using hj',by simpa using h1,λm hm hmj=>?_];have:=h2 m hmj
  simpa using this
 rcases qq with⟨pp,zs,rfl,ty,q1⟩|⟨pp,zs,rfl,ty,q1⟩
 ·cases r1;have hA:=ha ai a8 s1 σ H1 _ I1 q1;rw[hs]at hA ⊢;obtain⟨z,af,n,r,e0⟩:=ty.is I1;refine#["list","list.index",F.plainAttrs_list,F.slot_list_index,F.type_list_index,#[_,e0,rfl],λa e2=>?_,?_]
  ·cases e2;exact#[_,e0,rfl]
  refine Calls.callWith_builtin (by show(false||(backTo ai (starEach [] X.env)).any (·.1))=false;rw[bi]<;>rfl) (Calls.evalArgs_plain ?_);refine thn hA λus s2 #[vs,H2,I2,r2,d2]=>?_
  obtain⟨v,d,ds,as,bs,xs,j,rfl,rd,hq,ra,f1,f2,hf,q2⟩:=d2;obtain⟨w,rfl,rw1⟩:=r2.one;obtain⟨z2,iz,n2,r3,e3⟩:=hq.is I2;have cr:=creps_of I2 ra f2 r3;obtain⟨hj,h1,h2⟩:=idx cr hf;have hsz:iz.toArray.size<=16777216:=by rw[Xa,<-r3.length];exact z2
  exact call_meets F.slot_list_index #[_,e3,rfl] F.entry_list_index (F.args_list_index_2 _ _) (SeqAt.list_indexAt pp iz.toArray n2 none (List.toArray []) w (λy=>peq (dec s2.heap y) d) j hj ⋯ h1 h2) #[e3,eqs I2 rd rw1 f1 f2 cr,.int _,H2,I2.tok _,#[_,rfl],q2]
 ·cases r1;have hA:=ha ai a8 s1 σ H1 _ I1 q1;rw[hs]at hA ⊢;obtain⟨af,r,ht,hz⟩:=I1.tuple ty;have hd0:=I1.tupleD ty;refine#["tuple","tuple.index",F.plainAttrs_tuple,F.slot_tuple_index,F.type_tuple_index,ht.typeIs,λa e2=>?_,?_]
  ·cases e2;exact hd0
  refine Calls.callWith_builtin (by show(false||(backTo ai (starEach [] X.env)).any (·.1))=false;rw[bi]<;>rfl) (Calls.evalArgs_plain ?_);refine thn hA λus s2 #[vs,H2,I2,r2,d2]=>?_
  obtain⟨v,d,ds,as,bs,xs,j,rfl,rd,hq,ra,f1,f2,hf,q2⟩:=d2;obtain⟨w,rfl,rw1⟩:=r2.one;obtain⟨iz,r3,ht2,hz2⟩:=I2.tuple hq;have cr:=creps_of I2 ra f2 r3;obtain⟨hj,h1,h2⟩:=idx cr hf;exact wwx (e:=λy=>peq (dec s2.heap y) d) ht2 (eqs I2 rd rw1 f1 f2 cr) hj h1 h2 #[.int _,H2,I2.tok _,#[_,rfl],q2]
theorem ZX{apos ai}(hu:X.A.units+64<cLine)(ha:QV X Z q a ea)(hb:QV X Z true b eb)(hK:autoParam (X.K=Z.K) Ŕ)
  (cu:autoParam (attributeBase ea "index" X.env (eval ea X.env)=eval ea X.env) Ŕ)
  (gl:autoParam (((backTo ai (starEach [eb] X.env)).all (λx=>!x.1)&&(backToKw ai (keywordEach [] X.env)).all (λx=>x.1.isSome)
   && decide ([eb].length+([]:List Keyword).length+(if([]:List Keyword).isEmpty then 0 else 1)<30))=true) Ŕ)
  (cp:autoParam ((apos.endLine==ai.line)=true) Ŕ) (hs:autoParam (starEach [eb] X.env=(false,eval eb X.env)::starEach [] X.env) Ŕ) (bi:autoParam ((backTo ai (starEach [] X.env)).any (·.1)=false) Ŕ):
  QE X Z q (Qv a b) (.Call (.Attribute ea "index" apos) [eb] [] ai):=qV (vx9 hu ha (ww hb x6 hs) cu gl cp hs bi) fun σ H Q ao=>ex8 ao λE L r m w hc xc k=>by
 refine vk m w (show bnd (a E) _=some r from hc) xc λE1 s h1 x L1 H1 e1 e2 m1 w1 ok fr sr st sm=>?_
 split at h1
 rotate_left
 ·grind
 rename_i hsq;rw [hK];have fin:∀{ds},(x.d=.lst ds\/x.d=.tup ds)->∀C,(∀H2,x.ok Z.K H2->∃xs bs,C H2 xs/\RepA Z.K H2 true ds xs bs)->tV Z true b σ H1 λv H2=>xv0 Z.K C [v] H2 Q:=fun {ds} hx C hC=>by
  refine vk m1 w1 h1 (xc.step st) λE2 s2 h2 y L2 H2 e3 e4 m2 w2 iu qg p8 bu fk=>?_
  obtain⟨z,hz,rfl⟩:=zQ h2;obtain⟨xs,bs,c1,c2⟩:=hC H2 (Vw ok fr bu (fk rfl)).1;have key:∃j,y.d.flat 30=true/\D.flats 30 ds=true/\(ds.findIdx? λz=>peq z y.d)=some j/\z=(.dp,.int j):=by
   unfold pu2 qka at hz;rw[<-e2,<-e4]at hz;have ku:(if y.d.flat 30&&D.flats 30 ds then(ds.findIdx? λz=>peq z y.d).map λ(j:Nat)=>D.int (j)else none).map (λd=>((Own.dp,d):Sd))=some z:=by
    rcases hx with hx|hx<;>(rw[hx]at hz;exact hz)
   split at ku
   ·rename_i hf;rw[Bool.and_eq_true]at hf;cases hj:ds.findIdx? λz=>peq z y.d with|none=>rw[hj]at ku;cases ku|some j=>rw[hj]at ku;exact#[j,hf.1,hf.2,rfl,(oq9 ku).symm]
   ·cases ku
  obtain⟨j,f1,f2,f3,rfl⟩:=key;exact#[y.v,y.d,ds,y.as,bs,xs,j,rfl,RepO.wk iu,c1,c2,f1,f2,f3,(k _ _ rfl #[.dp,.int j,.int j,[]] L2 H2 rfl rfl m2 (w2.consPu (x:=#[.dp,.int j,.int j,[]]) (show RepL Z.K H2 false (.int j) (.int j) []from vx) rfl) (Jw (x:=#[.dp,.int j,.int j,[]]) (st.trans bu) (λb hb=>nomatch hb) rfl) λhq=>#[(λhq=>qz (sm hq) (fk rfl)) hq,λ_ z=>(nomatch z)])]
 have wkA:∀{ds xs bs H2},RepA Z.K H2 (x.o != .dp) ds xs bs->RepA Z.K H2 true ds xs bs:=fun {ds xs bs H2} r=>by
  cases ho:(x.o != .dp)with|true=>rw[ho]at r;exact r|false=>rw[ho]at r;exact r.wk
 cases hx:x.d with
 |lst ds=>
  obtain⟨l,xs,bs,ev,q3,r3,h3,_⟩:=items ok (.inl hx);have q3:LsR Z.K H1 l xs:=by rcases q3 with⟨_,z⟩|⟨z,_⟩;exact z;rw[hx]at z;cases z
  refine .inl #[l,xs,ev,q3,fin (.inl hx) _ λH2 iu=>?_];obtain⟨l2,ys,cs,ev2,q4,r4,_⟩:=items iu (.inl hx);have:l2=l:=by have:=ev2.symm.trans ev;exact V.ref.inj this
  subst this;rcases q4 with⟨_,z⟩|⟨z,_⟩
  ·exact#[ys,cs,z,wkA r4]
  ·grind
 |tup ds=>
  obtain⟨l,xs,bs,ev,q3,r3,h3,_⟩:=items ok (.inr hx);have q3:SqT Z.K H1 l xs:=by rcases q3 with⟨z,_⟩|⟨_,z⟩;rw[hx]at z;cases z;exact z
  refine .inr #[l,xs,ev,q3,fin (.inr hx) _ λH2 iu=>?_];obtain⟨l2,ys,cs,ev2,q4,r4,_⟩:=items iu (.inr hx);have:l2=l:=by have:=ev2.symm.trans ev;exact V.ref.inj this
  subst this;rcases q4 with⟨z,_⟩|⟨_,z⟩
  ·grind
  ·exact#[ys,cs,z,wkA r4]
 |_=>rw[<-e2,hx]at hsq;cases hsq
end
def ItE(S:Hp->List V->Prop):It:=#[λi H=>∃xs x,S H xs/\xs[i]?=some x,
 λi H v H'=>∃T x,H T=none/\v=.ref T/\H'=upd H T (.tup [.int i,x])/\∀xs,S H xs->xs[i]?=some x,
 λi H=>∃xs,S H xs/\xs.length=i]
abbrev Ite(K:Frag)(l:Addr):It:=ItE (SqL K · l)
theorem vj9{P w K f7 k1 pos}{e it l:Addr}{n:String}{S:Hp->List V->Prop}{IS:Heap->Array Value->Prop}(n1:e≠it)(n2:l≠e)
  (D:∀A:Around,A.handled=none->∀af:Array Value,Draws P w A it [it,l] af.size (λi v=>af[i]?=some v) λi h=>(∃o,h.get? it=some o/\o.cls=.type n/\o.data=.fields (List.toArray [.ref l,.int i 0]))/\IS h af)
  (G:∀(X:Cx) a8 (s:Shared) σ H,X.K=K->L2.Inv X a8 σ H s->∀xs,S H xs->(∃af,Vals xs af/\IS s.heap af.toArray)/\∀zs,S H zs->zs=xs):
  Turn P w K (.Tuple f7 k1 pos) (ItE S) [e,it] e (λi h=>(∃fm,IsEnum h e it i fm)/\∃o,h.get? it=some o/\o.cls=.type n/\o.data=.fields (List.toArray [.ref l,.int i 0])) where
 mem:=by simp
 obj:=λi h st b hb=>by
  obtain⟨⟨fm,h1⟩,o4,e4,c4,d4⟩:=st;simp at hb;rcases hb with rfl|rfl
  ·exact#[_,h1,λv z=>by cases z]
  ·exact#[_,e4,λv z=>by rw[d4]at z;cases z]
 keep:=λi h h' st k=>by
  obtain⟨⟨fm,h1⟩,o4,e4,c4,d4⟩:=st;exact#[#[fm,k _ (by simp) _ h1],o4,k _ (by simp) _ e4,c4,d4]
 item:=by
  intro X hP hw hK hc i a8 s σ H E I hf st hg;subst hP hw;obtain⟨xs,x,q1,hx⟩:=hg;obtain⟨⟨jh,uu,p1⟩,inj⟩:=G X a8 s σ H hK I xs q1;obtain⟨u1,hu1,ru1⟩:=uu.get hx;obtain⟨⟨fm,t1⟩,t2⟩:=st;have hi:i<jh.toArray.size:=(List.getElem?_eq_some_iff.mp hu1).1;refine wpAny_pyNext_enum_itemD (D X.A.in1 (by have:=I.ok.hd hc;simpa using this) jh.toArray) t1 #[t2,p1] hi n1 (by simp only[Yt,Yg,or_false,not_or];exact#[n1,n2.symm]) λu2 h1 tk hP2 g1 g2 gT gs gk=>?_
  have e2:u2=u1:=by
   have:jh[i]?=some u2:=by simpa using hP2
   rw[hu1]at this;exact(oq9 this).symm
  subst e2;refine#[_,rfl,wpAny_letOwnedTupleGo_enum (s:={s with heap:=h1,toks:=tk+1}) g1 λh2 f1 sb=>?_];have fT:=I.fpOk (X9 _) (I.hok.fresh (X9 _));have nT:∀b∈[e,it],b≠s.heap.objs.size:=λb hb ee=>by
   obtain⟨o,eo,_⟩:∃o,s.heap.get? b=some o/\True:=by
    simp at hb;obtain⟨o4,e4,_⟩:=t2;rcases hb with rfl|rfl
    ·exact#[_,t1,trivial]
    ·exact#[_,e4,trivial]
   exact absurd (Xe eo) (ee▸Ys _)
  have kk:∀b o,b∉[e,it]->s.heap.get? b=some o->h2.get? b=some o:=λb o hb ee=>by
   simp at hb;exact(sb.2 b hb.1).trans (gk b o hb.1 hb.2 ee)
  have I1:L2.Inv X a8 σ H {s with heap:=h2,toks:=tk+1}:=kqy [e,it] I kk hf;have I2:=qk1 (a:=s.heap.objs.size) (o:=.tup [.int i,x]) I1 fT.1 fT.2.1 fT.2.2.2.1 fT.2.2.2.2.1 fT.2.2.2.2.2
   (show ObjOk X.prog X.w _ h2 _ (.tup [.int i,x])from#[by show(2:Nat)<=sizeLine;decide,[.int i tk,u2],.cons #[_,rfl] (.cons ru1 .nil),#[_,(sb.2 _ λee=>nT e (by simp) ee.symm).trans gT,rfl,rfl,0,rfl]])
  obtain⟨o4,e4,c4,d4⟩:=g2.1;exact#[.ref s.heap.objs.size,_,I2,rfl,#[_,x,fT.1,rfl,rfl,λzs hzs=>by rw[inj zs hzs];exact hx],#[#[u2,f1],o4,(sb.2 _ n1.symm).trans e4,c4,d4],λb hb=>by rw[qQ (nT b hb)];exact(hf b hb).1]
 done:=by
  intro X hP hw hK hc i a8 s σ H E I hf st hg;subst hP hw;obtain⟨xs,q1,hx⟩:=hg;obtain⟨⟨jh,uu,p1⟩,_⟩:=G X a8 s σ H hK I xs q1;obtain⟨⟨fm,t1⟩,t2⟩:=st;have hsz:jh.toArray.size=i:=by rw[Xa,<-uu.length];exact hx
  refine wpAny_pyNext_enum_endD (D X.A.in1 (by have:=I.ok.hd hc;simpa using this) jh.toArray) t1 (hsz▸#[t2,p1]) λh' kk=>#[rfl,kqy (t':=s.toks) [it] I (λb o hb ee=>kk b o (by simpa using hb) ee) λb hb=>hf b (by
   simp at hb ⊢;exact .inr hb)]
 self:=λ_ _ _ _ _ st h=>by obtain⟨⟨fm,h1⟩,_⟩:=st;exact wpAny_pyIter_enum h1 h
theorem vj8{P w K f7 k1 pos e it l}(n1:e≠it)(n2:l≠e)(n3:l≠it):Turn P w K (.Tuple f7 k1 pos) (Ite K l) [e,it] e (λi h=>(∃fm,IsEnum h e it i fm)/\h.IsListIter it l i):=
 vj9 (K:=K) (IS:=λh af=>h.IsList l af) n1 n2 (λA hh af=>Draws.list hh it l n3 af) λX a8 s σ H hK I xs q=>by
  subst hK;obtain⟨af,rv,p,_⟩:=I.list q;exact#[#[af,rv,p.isList],λzs hz=>I.list_inj hz q]
abbrev xvv(K:Frag)(ta:TA):TI:=fun σ H R=>ta σ H λvs H1=>∃l,vs=[.ref l]/\(∃xs,SqL K H1 l xs/\(xs.length<=sizeLine->R (Ite K l) H1))
theorem kke:bootBuiltins "enumerate"=some (.type "enumerate"):=boot_enumerate
section
variable {X:Cx}{Z:Fx0}{K:Frag}{pn:List Nat}{q qa qb:Bool}{a b c:Ex}{u:Ts}{tg e ea eb:Expr}{st:Stmt}{σ:L2.St}{H:Hp}{L:Ls}{E:En}{pos p p2 iw:Pos}{x:Str}{f7:List Expr}{k1:Nat}
theorem wqo K {ta:TA}(hg:Gl X "enumerate")(hm:X.mg "enumerate"=none)(ha:PA X [e] ta)(hK:autoParam (X.K=K) Ŕ)
  (hs:autoParam (starEach [e] X.env=[(false,eval e X.env)]) Ŕ):PI X (.Tuple f7 k1 iw) (.Call (.Name "enumerate" p) [e] [] pos) (xvv K ta):=by
 subst hK;intro a8 s σ H R I h;refine Call_ (K3 I hg hm kke (Y8 (thn (ha pos a8 s σ H _ I h) λus s1 #[vs,H1,I1,r1,q1]=>?_) (by rw[hs];rfl) rfl));obtain⟨l,rfl,xs,q1,q⟩:=q1;obtain⟨u1,rfl,e1⟩:=zJ r1;cases e1;obtain⟨jh,uu,p1,qr⟩:=I1.list q1;have lt:l<s1.heap.objs.size:=by obtain⟨_,ee,_⟩:=p1.isList;exact Xe ee
 refine call_enumerate_list p1.isList λh' g1 g2 gs gk=>?_
 refine wpAny_pyIter_enum g1 #[_,[_,s1.heap.objs.size],_,_,H1,rfl,I1.kept (t':=s1.toks) gk,
  vj8 (Nat.succ_ne_self _) (Xi (Yv lt)) (Xi lt),#[#[_,g1],g2],λb hb=>?_,q qr]
 have i8:s1.heap.objs.size<=b:=by
  simp at hb;rcases hb with rfl|rfl<;>lia
 exact I1.fpOk i8 (I1.hok.fresh i8)
theorem jxj:∀(ds:List D) (k:Nat),(zq k ds).length=ds.length
 |[],_=>rfl|d::ds,k=>by rw[zq,Xv,Xv,jxj ds]
theorem qkc:∀(ds:List D) (k i:Nat),(zq k ds)[i]?=(ds[i]?).map λd=>.tup [.int ((k+i:Nat):Int),d]
 |[],_,_=>by simp[zq]|d::ds,k,0=>by simp[zq]
 |d::ds,k,i+1=>by
  rw[zq,List.getElem?_cons_succ,List.getElem?_cons_succ,qkc ds,show k+1+i=k+(i+1)from by lia]
theorem vwp{H2:Hp}{T:Addr}{d1 d2:D}{v1 v2:V}{b1 b2:List Addr}(hT:H2 T=none)(r1:RepL K H2 true d1 v1 b1)(r2:RepL K H2 true d2 v2 b2):RepL K (upd H2 T (.tup [v1,v2])) true (.tup [d1,d2]) (.ref T) (b1++b2):=by
 have sm:kX H2 (upd H2 T (.tup [v1,v2])):=xw hT;refine#[T,[v1,v2],rfl,.inl (.inl xK),?_];refine#[v1,[v2],b1,b2,rfl,rfl,r1.kp (Kp.of_same sm),?_];refine#[v2,[],b2,[],rfl,by simp,r2.kp (Kp.of_same sm),?_];exact#[rfl,rfl]
theorem qzz{S:Hp->List V->Prop}{x:Sl}{es}(ag:∀H2,x.let.ok K H2->∃ys cs,S H2 ys/\RepA K H2 true es ys cs/\∀b∈cs,b∈x.as):Walks K (ItE S) [x.let] (zq 0 es):=by
 refine#[λt ht=>by rw[aC ht];rfl,λi H2 hok hi=>?_,λH2 hok=>?_,λi H2 v H3 d hok hy kg=>?_]
 all_goals obtain⟨ys,cs,s1,s2,s3⟩:=ag H2 (hok _ (aB rfl))
 ·have hl:=s2.len;rw[jxj]at hi;exact#[ys,ys[i]'⋯,s1,X1 ⋯]
 ·exact#[ys,s1,by rw[jxj,s2.len]]
 ·obtain⟨T,x',hT,rfl,rfl,hy⟩:=hy;rw[qkc]at kg;cases hes:es[i]? with
  |none=>rw[hes]at kg;cases kg
  |some d0=>
   rw[hes]at kg;cases oq9 kg;obtain⟨v',lj,f1,f2,f3⟩:=s2.get hes;have:=hy ys s1;rw[f1]at this;cases oq9 this;have rp:=vwp (v1:=.int ((0+i:Nat):Int)) hT vx f2;rw[show((0+i:Nat):Int)=i by lia]at rp ⊢;exact#[#[.no,_,.ref T,[]++lj],rfl,rfl,rfl,xw hT,rp,λb hb=>#[x.let,aB rfl,s3 b (f3 b (by simpa using hb))]]
theorem wz1(h:QE X Z q c e)(hg:Gl X "enumerate")(hm:X.mg "enumerate"=none)(hK:autoParam (X.K=Z.K) Ŕ)(hs:autoParam (starEach [e] X.env=[(false,eval e X.env)]) Ŕ):QI X Z q (.Tuple f7 k1 iw) (xq7 c) (.Call (.Name "enumerate" p) [e] [] pos):=λa8 s σ H R I ao=>ex8 ao λE L r m w hc xc k=>by
 refine(wqo Z.K hg hm (ww h x6 hs) hK hs) a8 s σ H R I (VY m w (show bnd (c E) _=some r from hc) xc λE1 s h1 x L1 H1 e1 e2 m1 w1 st sm=>?_);obtain⟨ds,hd,rfl⟩:=zQ h1;obtain⟨wT,sT⟩:=kwz w1 st;cases hx:x.d with
 |lst es=>
  rw[<-e2,hx]at hd;cases oq9 hd;obtain⟨a,_,_,ev,_⟩:=items w1.head (.inl hx);have ag:=qjv (K:=Z.K) hx ev;obtain⟨xs,bs,q3,r3,_⟩:=ag H1 (K4 w1.head);exact#[a,by rw[ev],xs,q3,λak=>k _ _ rfl (Ite Z.K a) [x.let] L1 H1 m1 wT sT (by rw[jxj,r3.len];exact ak) (λhq=>(sm hq).1) (qzz ag)]
 |_=>rw[<-e2,hx]at hd;cases hd
theorem q_fz{i:Nat}{A:Sm}(h:QS X Z pn A st):QS X Z pn (sFz i A) st:=JJ h λD σ H ao=>ex7 ao λE L r m w hc k=>by
 have hc:A (qz9 i E)=some r:=hc;unfold qz9 at hc
 split at hc
 ·rename_i o d hE;obtain⟨x,h1,h2,h3,h4⟩:=m.get hE;have m':=m.let h1
  rw[h3]at m';exact#[_,_,r,m',(w.read h1).tail,hc,k.step ((Step.read h1).trans Step.drop) Pn.refl]
 ·exact#[E,L,r,m,w,hc,k]
end
theorem RepA.erase{K H g}:∀{j ds xs as},RepA K H g ds xs as->∃bs,RepA K H g (ds.eraseIdx j) (xs.eraseIdx j) bs/\bs.Sublist as
 |j,[],xs,as,h=>by
  obtain⟨rfl,rfl⟩:=h;exact#[[],#[rfl,rfl],List.Sublist.refl _]
 |0,d::ds,xs,as,h=>by
  obtain⟨x,r,bs,cs,rfl,rfl,h1,h2⟩:=h;exact#[cs,h2,List.sublist_append_right _ _]
 |j+1,d::ds,xs,as,h=>by
  obtain⟨x,r,bs,cs,rfl,rfl,h1,h2⟩:=h;obtain⟨es,r2,hs⟩:=RepA.erase h2;refine#[bs++es,?_,List.Sublist.append (List.Sublist.refl _) hs];unfold RepA;exact#[x,r.eraseIdx j,bs,es,rfl,rfl,h1,r2]
theorem wjm{n i j}(h:_root_.Q.ixN n i=some j):seqIndex? i n=some j/\j<n/\-n<=i/\i<n:=by
 have e:L2.ixN n i=some j:=by
  unfold _root_.Q.ixN at h;unfold L2.ixN
  by_cases h0:0<=i
  ·exact h
  ·rw[Xg h0]at h ⊢;exact h
 exact qqu e
section
variable {X:Cx}{Z:Fx0}{K:Frag}{pn:List Nat}{q qa qb:Bool}{a b c:Ex}{u:Ts}{tg e ea eb:Expr}{st:Stmt}{σ:L2.St}{H:Hp}{L:Ls}{E:En}{pos p p2 iw:Pos}{x:Str}{f7:List Expr}{k1:Nat}
theorem xv2 {i o apos ai} (hb:PE X (.Call (.Attribute o "pop" apos) [e] [] ai) (tBM Z.K "list" vzv (K0 i) (wke (tV Z q c) xqj))):QE X Z false (xkl i c) (.Call (.Attribute o "pop" apos) [e] [] ai):=qV hb fun σ H Q ao=>ex8 ao λE L r m w hc xc k=>by
 unfold xkl at hc;cases h0:E[i]? with
 | none=>rw [h0]at hc;cases hc
 | some s0 =>
  cases s0 with
  | none=>rw [h0]at hc;cases hc
  | some s0 =>
   obtain ⟨o0,d0⟩:=s0;cases d0 with
   | lst ds0 =>
    rw [h0,Xd (show VX (some (some (o0,D.lst ds0)))=true from rfl)]at hc;obtain ⟨x0,a1,a2,a3,a4⟩:=m.get h0;refine #[x0.v,a4,wjf (w.ok x0 (vX a1)) a3,(vk m w hc xc λE1 s h1 x L1 H1 e1 e2 m1 w1 mn fr sr st sm=>?_)];cases hE:E1[i]? with
    | none=>rw[hE]at h1;cases h1
    | some s1=>
     cases s1 with
     | none=>rw[hE]at h1;cases h1
     | some s1=>
      obtain ⟨oo,dd⟩:=s1;rw [hE]at h1;cases dd with
      | lst ds=>
       cases hs:s.2 with
       | int kk=>
        rw [hs]at h1;dsimp only at h1
        by_cases il:oo=.no
        ·rw [Xd il]at h1;cases h1
        ·rw [Xg il]at h1;cases hj:_root_.Q.ixN ds.length kk with
         | none=>rw[hj]at h1;cases h1
         | some j=>
          rw [hj]at h1;dsimp only at h1;cases hd:ds[j]? with
          | none=>rw[hd]at h1;cases h1
          | some d=>
           rw[hd]at h1;dsimp only at h1
           split at h1
           rotate_left
           ·cases h1
           rename_i hp;rw[Bool.and_eq_true]at hp;obtain⟨hp,hsm⟩:=hp;obtain⟨lx,fk⟩:=kjv hsm;cases oq9 h1;obtain⟨y,b1,b2,b3,b4⟩:=m1.get hE;have hv:y.v=x0.v:=by rw[a4]at b4;exact(oq9 (oq9 b4)).symm
           obtain⟨l,xs,bs,c1,c2,c3,c4,c5⟩:=kxm (w1.ok y (vX b1)) b3 (b2▸il);have ex0:x0.v=.ref l:=hv▸c1;rw[ex0];obtain⟨vv,lj,f1,f2,f3⟩:=c5.get hd;obtain⟨g1,g2,g3,g4⟩:=wjm hj;have pj:(2:Int) ^ 63=9223372036854775808:=⋯
           obtain⟨_,rp⟩:=RepL.pu (g':=false) f2 hp;obtain⟨cs,r6,gb⟩:=c5.erase (j:=j);refine#[l,xs,kk,j,vv,rfl,by rw[v5 mn (e2.trans hs)],c2,?_,?_,by rw[<-c5.len];exact g1,f1,?_]
           ·have:(2:Int) ^ 62=4611686018427387904:=⋯
            omega
           ·have:(2:Int) ^ 62=4611686018427387904:=⋯
            omega
           have yn:y.own.Nodup:=by
            obtain⟨A,B,e,_⟩:=ZQ b1;have:=w1.nd;rw[e,k9,v8,Xb]at this;exact(List.nodup_append.mp this.2.1).1
           have hoo:y.o=.rt\/y.o=.dp:=by
            rw[b2];cases oo with|no=>exact absurd rfl il|rt=>exact .inl rfl|dp=>exact .inr rfl
           obtain⟨w3,s3⟩:=kxl (T:=[]) (o':=y.o) (ds':=ds.eraseIdx j) (xs':=xs.eraseIdx j) (by simpa using w1) b1 c2 c3 c4 c1 r6 (by
            rcases hoo with hoo|hoo
            ·exact .inl #[hoo,λa ha=>.inl (gb.subset ha)]
            ·refine .inr #[hoo,hoo,?_,λa ha=>.inl (gb.subset ha)];unfold Sl.own at yn;rw[hoo,c3]at yn;exact gb.nodup (List.nodup_cons.mp yn).2)
           have ke:∀a o,H1 a=some o->a≠l->upd H1 l (.lst (xs.eraseIdx j)) a=some o:=λa o e ne=>by rw[qQ ne];exact e
           have rp2:RepL Z.K (upd H1 l (.lst (xs.eraseIdx j))) false d vv []:=by
            refine rp.kp #[λa zs e=>ke a _ e λz=>?_,λa o u e=>ke a _ e λz=>?_,λa ha=>nomatch ha]
            ·subst z;rw[c2]at e;cases e
            ·subst z;rw[c2]at e;cases e
           have mm:=m1.set (x:=#[y.o,.lst (ds.eraseIdx j),y.v,l::cs]) i;rw[W1 b4]at mm;refine k _ _ rfl #[.dp,d,vv,[]] _ _ rfl rfl (b2▸mm) (w3.consPu rp2 rfl) (Jw (x:=#[.dp,d,vv,[]]) (st.trans (by simpa using s3)) (λb hb=>nomatch hb) rfl) λz=>nomatch z
       |_=>rw[hs]at h1;cases h1
      |_=>cases h1
   |_=>rw[h0]at hc;cases hc
theorem RepA.setAt{H H':Hp}{l:Addr}{d':D}{cs:List Addr}:∀{n:Nat} {ds:List D} {xs:List V} {as:List Addr} {ys:List D},RepA K H false ds xs as->as.Nodup->ds[n]?=some (.lst ys)->xs[n]?=some (.ref l) ->
  (∀bs:List Addr,l∉bs->(∀b∈bs,b∈as)->Kp H H' bs)->(∀bs,RepL K H false (.lst ys) (.ref l) bs->(∀b∈bs,b∈as)->bs.Nodup->∃es,RepL K H' false d' (.ref l) es/\es.Nodup/\(∀b∈es,b∈bs\/b∈cs))->(∀b∈cs,b∉as) ->
  ∃m6,RepA K H' false (ds.set n d') xs m6/\m6.Nodup/\∀b∈m6,b∈as\/b∈cs
 | _,[],_,_,_,_,_,e,_,_,_,_=>by simp at e
 | 0,d::ds,xs,as,ys,h,nd,e,ex,kp,new,mr=>by
  have e:d=.lst ys:=by simpa using e
  subst e;unfold RepA at h;obtain⟨x,r,bs,es,rfl,rfl,h1,h2⟩:=h;have ex:x=.ref l:=by simpa using ex
  subst ex;rw[Xb]at nd;obtain⟨fs,n1,n2,n3⟩:=new bs h1 (λb hb=>ll9 _ hb) nd.1;have hl:l∈bs:=by
   unfold RepL at h1;obtain⟨a,zs,gs,ea,_,q⟩:=h1;cases ea;rcases q with⟨_,rfl⟩|⟨z,_⟩
   ·exact X6
   ·cases z
  have le:l∉es:=λz=>nd.2.2 l hl l z rfl
  refine#[fs++es,?_,?_,λb hb=>?_]
  ·rw[List.set_cons_zero];unfold RepA;exact#[_,r,fs,es,rfl,rfl,n1,h2.kp (kp es le λb hb=>lr9 _ hb)]
  ·rw[Xb];refine#[n2,nd.2.1,λa ha b hb ms=>?_];subst ms;rcases n3 a ha with z|z
   ·exact nd.2.2 a z a hb rfl
   ·exact mr a z (lr9 _ hb)
  ·rcases aA hb with z|z
   ·exact(n3 b z).imp (λz=>ll9 _ z) id
   ·exact .inl (lr9 _ z)
 | n+1,d::ds,xs,as,ys,h,nd,e,ex,kp,new,mr=>by
  unfold RepA at h;obtain⟨x,r,bs,es,rfl,rfl,h1,h2⟩:=h;rw[Xb]at nd;obtain⟨m6,n1,n2,n3⟩:=RepA.setAt (n:=n) h2 nd.2.1 (by simpa using e) (by simpa using ex) (λbs h1 h2=>kp bs h1 λb hb=>lr9 _ (h2 b hb)) (λbs h1 h2 h3=>new bs h1 (λb hb=>lr9 _ (h2 b hb)) h3) (λb hb z=>mr b hb (lr9 _ z));have hl:l∈es:=by
   obtain⟨v,gs,q1,q2,q3⟩:=h2.get (i:=n) (by simpa using e);rw[show r[n]?=some (V.ref l)from by simpa using ex]at q1;cases oq9 q1;unfold RepL at q2;obtain⟨a,zs,hs,ea,_,q⟩:=q2;cases ea;rcases q with⟨_,rfl⟩|⟨z,_⟩
   ·exact q3 l X6
   ·cases z
  have lb:l∉bs:=λz=>nd.2.2 l z l hl rfl
  refine#[bs++m6,?_,?_,λb hb=>?_]
  ·rw[List.set_cons_succ];unfold RepA;exact#[x,r,bs,m6,rfl,rfl,h1.kp (kp bs lb λb hb=>ll9 _ hb),n1]
  ·rw[Xb];refine#[nd.1,n2,λa ha b hb ms=>?_];subst ms;rcases n3 a hb with z|z
   ·exact nd.2.2 a ha a z rfl
   ·exact mr a z (ll9 _ ha)
  ·rcases aA hb with z|z
   ·exact .inl (ll9 _ z)
   ·exact(n3 b z).imp (λz=>lr9 _ z) id
theorem wjt{y:Sl}{ds:List D}(ok:y.ok K H)(hd:y.d=.lst ds)(ho:y.o=.dp):∃l xs bs,y.v=.ref l/\H l=some (.lst xs)/\y.as=l::bs/\y.own=l::bs/\RepA K H false ds xs bs:=by
 obtain⟨l,xs,bs,c1,c2,c3,c4,c5⟩:=kxm ok hd (by rw[ho];exact λz=>nomatch z);rw[ho]at c5;exact#[l,xs,bs,c1,c2,c3,by unfold Sl.own;rw[ho,c3],c5]
theorem wxw{i:Nat}{j:Ex}{ex ej:Expr}{apos ai jd:Pos}(hj:QV X Z true j ej)(hc:QE X Z true c e)(hx:PE X ex (K0 i))(bq:kzm ej)(hK:autoParam (X.K=Z.K) Ŕ)
  (hm:MtR X "list.append" qqc)
  (cu:autoParam (attributeBase (.Subscript ex ej p) "append" X.env (eval (.Subscript ex ej p) X.env)=eval (.Subscript ex ej p) X.env) Ŕ)
  (gl:autoParam (((backTo ai (starEach [e] X.env)).all (λx=>!x.1)&&(backToKw ai (keywordEach [] X.env)).all (λx=>x.1.isSome)
   && decide ([e].length+([]:List Keyword).length+(if([]:List Keyword).isEmpty then 0 else 1)<30))=true) Ŕ)
  (cp:autoParam ((apos.endLine==ai.line)=true) Ŕ) (hs:autoParam (starEach [e] X.env=(false,eval e X.env)::starEach [] X.env) Ŕ) (bi:autoParam ((backTo ai (starEach [] X.env)).any (·.1)=false) Ŕ)
  (pw:autoParam (swapsWith (.Call (.Attribute (.Subscript ex ej p) "append" apos) [e] [] ai) none jd.line X.env=pure false) Ŕ):
  QS X Z pn (ZY i j c) (.Expr (.Call (.Attribute (.Subscript ex ej p) "append" apos) [e] [] ai) jd):=
 JJ (vkc (vkl Z.K PySem.F.plainAttrs_list PySem.F.slot_list_append PySem.F.type_list_append hm (wzp (hK▸wjl) hx hj bq) (ww hc x6 hs) cu gl cp hs bi hK) pw) λD σ H ao=>ex7 ao λE L r m w ip k=>by
 unfold ZY at ip
 split at ip
 rotate_left
 ·cases ip
 rename_i hdp;obtain⟨ds0,h0⟩:∃ds,E[i]?=some (some (.dp,.lst ds)):=by
  unfold xvt at hdp
  split at hdp
  ·exact#[_,‹_›]
  ·cases hdp
 obtain⟨x0,a1,a2,a3,a4⟩:=m.get h0;refine#[x0.v,a4,?_];rcases jw2 ip with⟨E1,s,h1,h2⟩|⟨E1,cc,h1,rfl⟩
 rotate_left
 ·exact#[E,L,_,m,w,h1,k.xc,λE' s' z=>by cases z]
 refine#[E,L,_,m,w,h1,(λ_ _ z=>by cases z),λE' s' z x L1 H1 e1 e2 m1 w1 mn fr sr st sm=>?_];injection z with z1 z2;subst z1 z2
 split at h2
 rotate_left
 ·cases h2
 rename_i ds1 kk hE hsi
 split at h2
 rotate_left
 ·cases h2
 rename_i n hj2
 split at h2
 rotate_left
 ·cases h2
 rename_i ys0 hdn;obtain⟨y,b1,b2,b3,b4⟩:=m1.get hE;have hv:y.v=x0.v:=by rw[a4]at b4;exact(oq9 (oq9 b4)).symm
 obtain⟨la,xs,bs,c1,c2,c3,c4,c5⟩:=wjt (w1.ok y (vX b1)) b3 b2;obtain⟨vn,gs,f1,f2,f3⟩:=c5.get hdn;obtain⟨g1,g2,g3,g4⟩:=wjm hj2;have hvn:=f2;unfold RepL at hvn;obtain⟨l,zs,jt,evn,hra,hqq⟩:=hvn;subst evn;have gu:H1 l=some (.lst zs):=by rcases hqq with⟨z,_⟩|⟨z,_⟩;exact z;cases z
 rw [<-hv,c1];refine .inl #[la,xs,kk,.ref l,rfl,v5 mn (e2.trans hsi),.inl (.inl c2),?_,.inl #[rfl,zs,.inl (.inl gu)],?_]
 ·unfold atI;have:L2.ixN xs.length kk=some n:=by
   rw[<-c5.len];unfold _root_.Q.ixN at hj2;unfold L2.ixN
   by_cases h0:0<=kk
   ·rw[Xd h0]at hj2 ⊢;exact hj2
   ·rw[Xg h0]at hj2 ⊢;exact hj2
  rw[this];exact f1
 have k1:FlP Z pn D σ H1 L1 r:=k.step st Pn.refl;refine WQ (q:=true) m1 w1 h2 k1 λE2 s2 h3 x2 L2 H2 e3 e4 m2 w2 bu fk=>?_
 split at h3
 rotate_left
 ·cases h3
 rename_i tu hE2
 split at h3
 rotate_left
 ·cases h3
 rename_i ys ij
 split at h3
 rotate_left
 ·cases h3
 rename_i hti;cases oq9 h3;obtain⟨y2,p1,p2,p3,p4⟩:=m2.get hE2;have hv2:y2.v=.ref la:=by
  have:y2.v=y.v:=by rw[b4]at p4;exact(oq9 (oq9 p4)).symm
  rw[this,c1]
 obtain⟨lv,xs2,bs2,q1,q2,q3,q4,q5⟩:=wjt (w2.ok y2 (lc9 _ (vX p1))) p3 p2;have:lv=la:=by rw[hv2]at q1;exact(V.ref.inj q1).symm
 subst this;have ll:=(fk rfl).1;have:xs2=xs:=by rw[ll _ _ c2]at q2;cases q2;rfl
 subst this;obtain⟨vn2,gs2,j1,j2,j3⟩:=q5.get ij;have:vn2=.ref l:=by rw[f1]at j1;exact(oq9 j1).symm
 subst this;have kt:H2 l=some (.lst zs):=ll _ _ gu;have lin:l∈bs2:=by
  unfold RepL at j2;obtain⟨a,zz,hs,ea,_,qq⟩:=j2;cases ea;rcases qq with⟨_,rfl⟩|⟨z,_⟩
  ·exact j3 l X6
  ·cases z
 obtain⟨cs,r1,t3,t4,t5⟩:=xk0 w2.head false λ_=>by rw[show x2.sd=s2 from by simp[Sl.sd,e3,e4]];exact hti.1
 have nd:=w2.nd;rw [v8,Xb]at nd;have yn:(lv::bs2).Nodup:=by
  obtain⟨A,B,e,_⟩:=ZQ p1;have:=nd.2.1;rw[e,k9,v8,Xb]at this;have:=(List.nodup_append.mp this.2.1).1;rw[q4]at this;exact this
 rw [Zg]at yn;have oin:∀b∈lv::bs2,b∈jv L2:=λb hb=>mem_owned.mpr #[y2,vX p1,by rw[q4];exact hb]
 have csx:∀b∈cs,b∉lv::bs2:=λb hb hz=>nd.2.2 b (t4 rfl b hb) b (oin b hz) rfl
 have nlc:l∉cs:=λz=>csx l z (lc9 _ lin)
 have kpg:∀as:List Addr,l∉as->Kp H2 (upd H2 l (.lst (zs++[x2.v]))) as:=λas hn=>by
  have ke:∀a o,H2 a=some o->a≠l->upd H2 l (.lst (zs++[x2.v])) a=some o:=λa o e ne=>by rw[qQ ne];exact e
  refine#[λa xs e=>ke a _ e λz=>?_,λa o u e=>ke a _ e λz=>?_,λa ha o e=>ke a o e λz=>hn (z▸ha)]
  ·subst z;rw[kt]at e;cases e
  ·subst z;rw[kt]at e;cases e
 obtain⟨m6,n1,n2,n3⟩:=RepA.setAt (H':=upd H2 l (.lst (zs++[x2.v]))) (d':=.lst (ys++[s2.2])) (cs:=cs) q5 yn.2 ij f1 (λbs h1 _=>kpg bs h1) (λbs hb gb mw=>by
  unfold RepL at hb;obtain⟨a,zz,hs,ea,pe,qq⟩:=hb;cases ea;rcases qq with⟨qq,rfl⟩|⟨z,_⟩
  ·have:zz=zs:=by rw[kt]at qq;cases qq;rfl
   subst this;rw[Zg]at mw;refine#[l::(hs++cs),?_,?_,λb hb=>?_]
   ·unfold RepL;refine#[l,zz++[x2.v],hs++cs,rfl,RepA.snoc (by rw[<-e4];exact r1.kp (kpg cs nlc)) (pe.kp (kpg hs mw.1)),.inl #[xK,rfl]]
   ·rw[Zg,Xb];refine#[λz=>(aA z).elim mw.1 nlc,mw.2,t5 rfl nd.1,λa ha b hb ms=>?_];subst ms;exact csx a hb (lc9 _ (gb a (lc9 _ ha)))
   ·rcases aD hb with rfl|hb
    ·exact .inl X6
    ·exact(aA hb).imp (lc9 _) id
  ·cases z) (λb hb z=>csx b hb (lc9 _ z))
 have lla:lv≠l:=λz=>yn.1 (z▸lin)
 refine#[l,zs,x2.v,rfl,rfl,kt,?_,?_]
 ·have:ys.length=zs.length:=by
   unfold RepL at j2;obtain⟨a,zz,hs,ea,pe,qq⟩:=j2;cases ea;rcases qq with⟨qq,rfl⟩|⟨z,_⟩
   ·have:zz=zs:=by rw[kt]at qq;cases qq;rfl
    subst this;exact pe.len
   ·cases z
  rw[<-this];exact hti.2
 have laas:lv∉m6:=λz=>by
  rcases n3 lv z with z|z
  ·exact yn.1 z
  ·exact csx lv z X6
 obtain⟨w3,s3⟩:=World.writeAt (T:=[some x2]) (L:=L2) (i:=i) (y':=#[.dp,.lst (tu.set n (.lst (ys++[s2.2]))),y2.v,lv::m6]) (l:=l) (ob:=.lst (zs++[x2.v])) w2 p1 (by rw[q4];exact lc9 _ lin) (by
  show RepL Z.K _ false _ _ _;unfold RepL;exact#[lv,xs2,m6,hv2,n1,.inl #[by rw[qQ lla];exact q2,rfl]]) (List.nodup_cons.mpr #[laas,n2]) (λa ha=>by
  rcases aD (show a∈lv::m6 from ha)with rfl|ha
  ·exact .inl (by rw[q4];exact X6)
  ·rcases n3 a ha with z|z
   ·exact .inl (by rw[q4];exact lc9 _ z)
   ·exact .inr (by simpa using t4 rfl a z)) (λa ha=>(nomatch ha)) (λa ha z=>(nomatch z))
 refine k1 σ _ _ Pn.refl ?_ w3 (bu.trans s3);have mm:=m2.set (x:=#[.dp,.lst (tu.set n (.lst (ys++[s2.2]))),y2.v,lv::m6]) i;rw[W1 p4]at mm;exact mm
end
section
variable {X:Cx}{Z:Fx0}{q:Bool}{a b c:Ex}{ea eb ec:Expr}{σ:L2.St}{H:Hp}{pos:Pos}
theorem kws{r r' f g}(ad:Ad2 Z.K r (pu2 f))(rq:Ad2 Z.K r' (pu2 g)){Q}(h:tQ Z q (Q2 f g a b c) σ H Q):vje r r' (tV Z q a) (tV Z true b) (tV Z true c) σ H Q:=by
 obtain⟨E,L,R,m,w,hc,xc,k⟩:=h;refine vk m w hc xc λE1 s h1 x L1 H1 e1 e2 m1 w1 ok fr sr st sm=>(vk m1 w1 h1 (xc.step st) λE2 s2 h2 y L2 H2 e3 e4 m2 w2 iu qg p8 bu fk=>?_)
 cases hf:f s.2 s2.2 with
 | none=>rw[hf]at h2;cases h2
 | some d=>
  rw [hf]at h2;cases d with
  | bl kb=>
   refine ad H2 x y _ _ (Vw ok fr bu (fk rfl)).1 iu (by show(f x.d y.d).map _=_;rw[e2,e4,hf];rfl) λz H' zo zd o=>(#[kb,V2 o.ok zd,?_])
   have w3:World Z.K H' L2:=#[λt ht=>RepO.kp (w2.ok t ht) (Kp.of_same o.same),w2.nd,w2.ds];have dj:=(st.trans bu).trans #[λb ob h _=>o.same b ob h,λ_ h=>.inl h,λ_ h=>.inl h];have om:=λhq=>qz (sm hq) (qz (fk rfl) o.same)
   cases kb with
   | false=>
    cases oq9 h2;exact k _ _ rfl _ L2 H' rfl rfl m2 (w3.consPu (x:=#[.dp,.bl false,.bl false,[]]) (show RepL Z.K H' false _ _ []from xj) rfl) (Jw dj (λb hb=>nomatch hb) rfl) λhq=>#[om hq,λ_ z=>(nomatch z)]
   | true=>
    rw[Xd rfl];refine vk m2 w3 h2 (xc.step dj) λE3 s3 h3 v L3 H3 e5 e6 m3 w4 tq nz sr3 jg qd=>?_
    obtain⟨zz,hz,rfl⟩:=zQ h3;have ky:=Vw (RepO.kp iu (Kp.of_same o.same)) qg jg (qd rfl);refine rq H3 y v zz Q ky.1 tq (by show(g y.d v.d).map _=_;rw[e4,e6];exact hz) λt H5 to td ot=>?_
    obtain⟨w5,nu⟩:=Q7 w4 (dj.trans jg) ot (λb hb=>(aA hb).elim (ky.2 b) (nz b)) (λb hb=>(aA hb).elim (λz=>ky.1.some (Sl.frz_as z)) λz=>tq.some (Sl.frz_as z))
     (vjj (YV (p8.back st) λb hb=>Sl.frz_as hb) (YV (sr3.back dj) λb hb=>Sl.frz_as hb))
    exact k _ _ rfl t L3 H5 to td m3 w5 nu λhq=>#[qz (om hq) (qz (qd rfl) ot.same),λb hb=>zX (qz (om hq) (qd rfl)) (ot.new b hb)]
  |_=>cases h2
theorem wq5{op kh:CmpOp}{r r':R2}{f g:D->D->Option D}(ho:OpR X (compareOp op) r)(ad:Ad2 Z.K r (pu2 f))(ik:OpR X (compareOp kh) r')(rq:Ad2 Z.K r' (pu2 g))(ha:QV X Z q a ea)(hb:QV X Z true b eb)(hc:QV X Z true c ec)
  (hm:lastMarks [op,kh] [eb,ec]=false:=by ac_rfl):QE X Z q (Q2 f g a b c) (.Compare ea [op,kh] [eb,ec] pos):=qV (vxb ho ik ha hb hc hm) fun σ H Q h=>kws ad rq h
theorem kkz {op kh r r' f g} (ho:OpR X (compareOp op) r) (ad:Ad2 Z.K r (pu2 f)) (ik:OpR X (compareOp kh) r') (rq:Ad2 Z.K r' (pu2 g)) (ha:QV X Z q a ea) (hb:QV X Z true b eb) (hc:QV X Z true c ec) (hg:∀x y s,pu2 g x y=some s->∃k,s.2=.bl k)
  (hm:lastMarks [op,kh] [eb,ec]=false:=by ac_rfl):QT X Z q (_root_.Q.tE (Q2 f g a b c)) (.Compare ea [op,kh] [eb,ec] pos):=
 qw1 (vx0 ho ik ha hb hc hm) fun σ H Q ao=>ex8 ao λE L r m w ip xc k=>by
  refine kws ad rq ?_;rcases wZ ip with⟨E1,s,h1,h2⟩|⟨E1,cx,h1,h2⟩
  ·refine#[E,L,_,m,w,h1,(λ_ _ z=>by cases z),λE' s' z x L' H' e1 e2 m' w' st sm=>?_];injection z with z1 z2;subst z1 z2;obtain⟨kk,hk⟩:∃k,s.2=.bl k:=by
    rcases wZ h1 with⟨E2,s2,h3,h4⟩|⟨_,_,_,z⟩
    ·rcases wZ h4 with⟨E3,s3,h5,h6⟩|⟨_,_,_,z⟩
     ·split at h6
      ·rcases wZ h6 with⟨E4,s4,h7,h8⟩|⟨_,_,_,z⟩
       ·obtain⟨y,hy,z⟩:=zQ h8;cases z;exact hg s3 s4 _ hy
       ·cases z
      ·grind
      ·grind
     ·cases z
    ·cases z
   rw[hk]at h2;cases oq9 h2;exact#[kk,V2 w'.head (e2.trans hk),k _ _ rfl L' H' m' w'.tail (st.trans Step.drop) λhq=>(sm hq).1]
  ·exact#[E,L,_,m,w,h1,xc.map h2,λE' s' z=>by cases z]
end
end Q
namespace L3
open PySem PySem.Spec PyProof.Rows L2
noncomputable def tX(X:Cx)(x:Addr):Cx:={X with A:=X.A.mark (some (.ref x)),calm:=false,xe:=λ_ _=>False}
section
variable {X:Cx}{a8:LA9}{σ:L2.St}{H:Hp}{s:Shared}{x:Addr}{ox:Obj}
theorem wjn(I:Inv X a8 σ H s):Inv (tX X x) a8 σ H s:=
 #[#[I.ok.mod,I.ok.kind,I.ok.glob,I.ok.blt,I.ok.above,I.ok.inj,I.ok.has,I.ok.cab,λz=>(by cases z),I.ok.frames,I.ok.stk,I.ok.exf,I.ok.bs,I.ok.bsz,I.ok.noex,I.ok.exfs,I.ok.funs,I.ok.frf],I.os,I.bare,I.base,I.loc,I.cell,I.free,I.freeC,I.pin,I.hok,I.len]
theorem wvi(ok:X.Ok)(I:Inv (tX X x) a8 σ H s):Inv X a8 σ H s:=#[ok,I.os,I.bare,I.base,I.loc,I.cell,I.free,I.freeC,I.pin,I.hok,I.len]
end
end L3
namespace Q
open PySem PySem.Spec PyProof.Rows L2 L3
theorem qzv{K:Frag}{C:Addr}(ga:findIn K (.ref C) "__getattribute__"=some (some (.builtin "BaseException.__getattribute__")))(gt:findIn K (.ref C) "__getattr__"=some none)(fa:findIn K (.ref C) "__class__"=some (some (.builtin "object.__class__")))
  (fg:PySem.W.specialIn K (.builtin "object.__class__") "__get__"=some (some (.builtin "getset_descriptor.__get__"))) (ft:PySem.W.takesIn K (.builtin "object.__class__")=some true) (ob:PySem.W.mroIn K C (.type "object")=some true) (bx:PySem.W.mroIn K C (.type "BaseException")=some true) (cl:PySem.W.isClsIn K C=true):XCls K C:=
 #[ga,gt,by
  obtain⟨cd,hc⟩:=Option.isSome_iff_exists.mp (cl);unfold PySem.W.findObj;rw[hc,fa];simp[fg,ft],ob,bx,cl]
section
variable {X:Cx}{Z:Fx0}{pn:List Nat}{q:Bool}{a b c:Ex}{e ea eb:Expr}{es:List Expr}{pos p p2:Pos}{t:List (Str×Bool)}{y:Str}{u:V}
theorem qqe{x:Str}{C:Addr}{z:Str}{np ai:Pos}(c:ECls X.K X.mg x C)(hm:Z.mg x=some (.ref C))(g:z4 X Z.EX)(hz:PE X e (tC (.str z)))(hg:autoParam (Gl X x) Ŕ)(hc:autoParam (X.calm=true) Ŕ)(fq:autoParam ((x==("__debug__":Str))=false) ŕ)
  (he:autoParam (starEach [e] X.env=(false,eval e X.env)::starEach [] X.env) Ŕ) (bq:autoParam (((backTo ai (starEach [e] X.env)).any (·.1))=false) Ŕ):
  QS X Z pn (sRz x) (.Raise (some (.Call (.Name x np) [e] [] ai)) none pos):=JJ (vx3 c g (ww hz x6 he) hg hc fq he bq) λD σ H ao=>ex7 ao λE L r m w hr k=>by
 cases oq9 hr;exact#[show 1<=sizeLine by decide,k C σ L H hm Pn.refl m w Step.refl]
def QEX(X:Cx)(Z:Fx0)(q:Bool)(c:Ex)(e:Expr):Prop:=PEX X e λEX=>tQ #[Z.K,Z.mg,EX] q c
theorem wqp{t t':XK->TE}(h:PEX X e t)(w:∀E σ H Q,t' E σ H Q->t E σ H Q):PEX X e t':=λE a8 s σ H Q I q=>h E a8 s σ H Q I (w E σ H Q q)
theorem wq6{k n:Nat}{x:Str}{ps:List Str}{f:Fn}{cs:List Ex}(D:k4 X.prog X.w X.K X.mg X.base k x ps (spF Z.K Z.mg n f))(hr:Room k X.A)(ha:QA X.nox #[Z.K,Z.mg,λ_ _ _=>False] q cs (e::es))(hn:autoParam (cs.length=n) Ŕ)(hg:autoParam (Gl X x) Ŕ)(fq:autoParam ((x==("__debug__":Str))=false) ŕ)
  (he:autoParam (starEach (e::es) X.env=(false,eval e X.env)::starEach es X.env) Ŕ) (bq:autoParam ((backTo pos (starEach es X.env)).any (·.1)=false) Ŕ):
  QEX X Z false (qkj f cs) (.Call (.Name x p) (e::es) [] pos):=wqp (vx7 D hr ha hg fq he bq) λEX σ H Q ao=>ex8 ao λE L r m w hc xc kk=>by
 unfold qkj at hc
 split at hc
 ·rename_i E1 ys hA;refine#[E,L,_,m,w,hA,(λ_ _ z=>by cases z),λE' um z xs L1 H1 e1 m1 w1 st sm=>?_];injection z with z1 z2;subst z1 z2;rw[Xw];have ak:xs.length=n:=by
   rw[<-hn];have:ys.length=cs.length:=jw4 hA;rw[<-this,<-e1,X3]
  cases hf:f _ with
  | none=>rw[hf]at hc;cases hc
  | some fr=>
   rw[hf]at hc;obtain⟨wl,sl⟩:=kjt w1;have ev:xs.map Sl.v=(xs.map Sl.let).map Sl.v:=by rw[Xr];rfl
   rw[ev];refine#[xs.map Sl.let,fr,rfl,by rw[X3];exact ak,wl.left,by rw[<-e1]at hf;rw[kz2];exact hf,λE' c ee C H' hm s'=>?_,λE' a ee y H' e2 e3 w' s'=>?_]
   ·subst ee;cases oq9 hc;obtain⟨w2,s2⟩:=stay wl s' #[λ_ z=>(nomatch z),Y2,λ_ z=>(nomatch z)];exact xc _ _ rfl C L1 H' hm m1 w2 ((st.trans sl).trans s2)
   ·subst ee;cases oq9 hc;obtain⟨w2,s2⟩:=stay wl s' w';exact kk _ _ rfl y L1 H' e2 e3 m1 w2 ((st.trans sl).trans s2) λhq=>nomatch hq
 ·cases hc
def qkx(K:Frag)(mg:Str->Option Value)(UC:Addr)(cs:List Str):Prop:=∀c∈cs,∃C,mg c=some (.ref C)/\nsIn K mainGlobals c=some (some (.ref C))/\PySem.W.exmOne K (.ref C) (.ref UC)=some true/\XCls K C
theorem qzg{K:Frag}{mg:Str->Option Value}{UC:Addr}:qkx K mg UC []:=λ_ z=>nomatch z
theorem qv8{K:Frag}{mg:Str->Option Value}{UC C:Addr}{c:Str}{cs:List Str}(e:ECls K mg c C)(h:nsIn K mainGlobals c=some (some (.ref C)))(k:PySem.W.exmOne K (.ref C) (.ref UC)=some true)(r:qkx K mg UC cs):qkx K mg UC (c::cs):=λc' hc=>by
 rcases aD hc with rfl|hc
 ·exact#[C,e.bd,h,k,e.xc]
 ·exact r c' hc
end
section
variable {X:Cx}{a8:LA9}{σ:L2.St}{H:Hp}{s:Shared}{a b:Addr}{es:List Ent}{A:Around}{E:VP9}{k:Kd}
mutual
theorem kq1(I:Inv X a8 σ H s):∀{d v u},PuR X.K H d v->RelV v u->qW s.heap d u
 |.non,_,_,h,r=>by rw[h]at r;exact r|.int _,_,_,h,r=>by rw[h]at r;exact r
 |.tup ds,_,_,h,r=>by
  obtain⟨a,xs,rfl,q,ra⟩:=h;cases r;obtain⟨af,rv,p,_⟩:=I.tuple q;exact#[a,af,rfl,p,purs_creps I ra rv]
 |.bl _,_,_,h,_=>h.elim|.str _,_,_,h,r=>by unfold PuR at h;rw[h.1]at r;exact r|.lst _,_,_,h,_=>h.elim|.dct _,_,_,h,_=>by unfold PuR at h;exact h.elim|.obj _ _,_,_,h,_=>h.elim
theorem purs_creps(I:Inv X a8 σ H s):∀{ds xs us},PuRs X.K H ds xs->Vals xs us->CReps s.heap ds us
 | [],_,_,h,r=>by unfold PuRs at h;rw[h]at r;cases r;rfl
 | d::ds,_,_,h,r=>by
  obtain⟨x,rr,rfl,h1,h2⟩:=h;cases r with
  |cons r1 r2=>
   exact#[_,_,rfl,kq1 I h1 r1,purs_creps I h2 r2]
end
mutual
theorem vzz{K g}:∀{n d v as},v4 n d=true->RepL K H g d v as->PuR K H d v
 |_,.non,_,_,_,h=>h.1|_,.int _,_,_,_,h=>by unfold RepL at h;exact h.1|0,.tup _,_,_,hk,_=>by cases hk
 |n+1,.tup ds,_,_,hk,h=>by
  unfold RepL at h;obtain⟨a,xs,e,q,ra⟩:=h;exact#[a,xs,e,q,purs_of hk ra]
 |n,.bl _,_,_,hk,_=>by cases n<;>(unfold v4 at hk;cases hk)|_,.str _,_,_,_,h=>by unfold RepL at h;exact#[h.1,h.2.2]|n,.lst _,_,_,hk,_=>by cases n<;>(unfold v4 at hk;cases hk)|n,.dct _,_,_,hk,_=>by cases n<;>(unfold v4 at hk;cases hk)|n,.obj _ _,_,_,hk,_=>by cases n<;>(unfold v4 at hk;cases hk)
theorem purs_of{K g}:∀{n ds xs as},keyDs n ds=true->RepA K H g ds xs as->PuRs K H ds xs
 |_,[],_,_,_,h=>h.1
 |n,d::ds,_,_,hk,h=>by
  unfold keyDs at hk;rw[Bool.and_eq_true]at hk;obtain⟨x,r,bs,cs,rfl,rfl,h1,h2⟩:=h;exact#[x,r,rfl,vzz hk.1 h1,purs_of hk.2 h2]
end
theorem wjv{ep:Nat}(I:Inv X a8 σ H s)(h:H a=some (qX a es ep))(hn:(es.map (·.1)).Nodup)(hk:∀x∈es,PuR X.K H x.1.1 (.ref x.2.1)):s.heap.DictOfH (vjb X.prog X.w) a es:=by
 obtain⟨⟨o,ds,h1,h2,h3,h4⟩,_⟩:=(show ObjOk X.prog X.w H s.heap a (qX a es ep)from I.hok a _ h);exact#[o,ds,ep,h1,h2,h3,h4,λx hx=>kq1 I (hk x hx) rfl,hn]
theorem wk1:∀(es:List Ent) (k:Kd),(atKey es k).isSome=decide (k.1∈es.map (·.1.1))
 | [],k=>by simp[atKey]
 | x::es,k=>by
  have ih:=wk1 es k
  by_cases h:x.1=k
  ·have:k.1∈(x::es).map (·.1.1):=by rw[<-h];simp
   rw[Xj this];simp[atKey,List.find?_cons,h]
  ·have e1:atKey (x::es) k=atKey es k:=by simp[atKey,List.find?_cons,h]
   have e2:(k.1∈(x::es).map (·.1.1))↔k.1∈es.map (·.1.1):=by
    rw[List.map_cons,Yt];exact#[λz=>z.elim (λq=>absurd (Subtype.ext q.symm) h) id,.inr]
   rw[e1,ih];exact decide_eq_decide.mpr e2.symm
theorem wku(hu:A.units+64<cLine):(vjb X.prog X.w).room A.in1:=by show A.units+1+40<cLine;lia
end
theorem wjy{K:Frag}{H:Hp}{y:Sl}{kvs:List (D×D)}(ok:y.ok K H)(hd:y.d=.dct kvs)(hu:unm kvs=true):∃a xs,y.v=.ref a/\DcN K H a (kvs.map (·.1)) xs:=by
 have h:=RepO.wk ok;rw[hd]at h;unfold RepL at h;obtain⟨a,xs,bs,e,_,q,_⟩:=h;exact#[a,xs,e,DcA.un q hu]
theorem kwk{K:Frag}{H:Hp}{x:Sl}(ok:x.ok K H)(hk:JY x.d=true):∃b,x.v=.ref b/\PuR K H x.d (.ref b):=by
 unfold JY at hk;rw[Bool.and_eq_true]at hk;have h:=vzz hk.1 (RepO.wk ok);cases hd:x.d with
 |tup ds=>
  rw[hd]at h;have h':=h;unfold PuR at h;obtain⟨a,xs,e,_⟩:=h;exact#[a,e,e▸h']
 |_=>rw[hd]at hk;cases hk.2
theorem ww3{P:Program}{w:PySem.World}{H:Hp}(h:Heap):ObjOk P w H (h.push {cls:=.type "dict",data:=.dict (List.toArray [])}) h.objs.size (qX h.objs.size [] 0):=
 #[#[_,(List.toArray []),X7 _ rfl,#[rfl,rfl,rfl],rfl,rfl],#[_,X7 _ rfl],λh1 h2 #[o,ds,a1,a2] k=>#[o,ds,k o a1,a2]]
section
variable {K:Frag}{H:Hp}{g:Bool}{k:Kd}{b:Addr}{d:D}{x:V}{r:Value}{cs:List Addr}
theorem qj5{q : D}(hx : RepL K H g d x cs): ∀{kvs : List (D × D)} {xs : List V} {bs : List Addr},RepP K H g kvs xs bs -> RepP K H g (kvs ++ [(q,d)]) (xs ++ [x]) (bs ++ cs)
  | [],_,_,h=>by
    unfold RepP at h;obtain⟨rfl,rfl⟩:= h;show RepP K H g [(q,d)] [x] cs;unfold RepP;exact#[x,[],cs,[],rfl,by simp,hx,by unfold RepP; exact#[rfl,rfl]]
  | (p,e)::kvs,_,_,h=>by
    unfold RepP at h;obtain⟨y,rr,b1,b2,rfl,rfl,h1,h2⟩:= h;rw[List.cons_append];unfold RepP;exact#[y,rr ++ [x],b1,b2 ++ cs,rfl,by rw[Xk],h1,qj5 hx h2]
theorem kzr:∀{xs:List V} {us:List Value},Vals xs us->RelV x r->Vals (xs++[x]) (us++[r])
 |_,_,.nil,h=>.cons h .nil|_,_,.cons a t,h=>.cons a (kzr t h)
end
theorem vk9{K:Frag}{H:Hp}{T L:Ls}{i:Nat}{y:Sl}{l:Addr}{es es':List Ent}{ep ep':Nat}{xs':List V}{bs cs:List Addr}{kvs':List (D×D)}(w:World K H (T++L))(hy:L[i]?=some (some y))(hH:H l=some (qX l es ep))(ho:y.o=.rt)(ha:y.as=l::bs)(hv:y.v=.ref l)
  (r:RepP K H true kvs' xs' cs) (hc:∀a∈cs,a∈bs\/a∈jv T\/a∈kw T) (hs:(l==sysModules)=false) (h2:es'.length<=sizeLine) (h3:(es'.map (·.1)).Nodup) (h4:kvs'.map (·.1)=es'.map (·.1.1)) (h5:∀n∈es',PuR K H n.1.1 (.ref n.2.1)) (h6:Vals xs' (es'.map (·.2.2))):
  World K (upd H l (qX l es' ep')) (L.set i (some #[.rt,.dct kvs',y.v,l::cs]))/\Step H (T++L) (upd H l (qX l es' ep')) (L.set i (some #[.rt,.dct kvs',y.v,l::cs])):=by
 have hl:l∈y.own:=by unfold Sl.own;rw[ho,ha];simp
 have oL:l∈jv L:=mem_owned.mpr #[y,vX hy,hl];have oy:l∈jv (T++L):=by rw[k9];exact lr9 _ oL
 have nd:=w.nd;rw[k9,Xb]at nd;have nT:l∉jv T:=λz=>nd.2.2 l z l oL rfl
 have nF:l∉kw T:=λz=>w.ds l oy (by rw[qZ];exact ll9 _ z)
 have nb:l∉bs:=λz=>by
  have:l∈y.frz:=by unfold Sl.frz;rw[ho,ha];exact z
  exact w.ds l oy (by rw[qZ];exact lr9 _ (mem_frozen.mpr #[y,vX hy,this]))
 have nc:l∉cs:=λz=>by
  rcases hc l z with q|q|q
  ·exact nb q
  ·exact nT q
  ·exact nF q
 have kp:Kp H (upd H l (qX l es' ep')) cs:=by
  have k2:∀a o,H a=some o->a≠l->upd H l (qX l es' ep') a=some o:=λa o e ne=>by rw[qQ ne];exact e
  refine#[λa zs e=>k2 a _ e λz=>?_,λa o u e=>k2 a _ e λz=>?_,λa ha o e=>k2 a o e λz=>nc (z▸ha)]
  ·subst z;rw[hH]at e;cases e
  ·subst z;rw[hH]at e;cases e
 refine World.writeAt w hy hl (y':=#[.rt,.dct kvs',y.v,l::cs]) #[l,xs',cs,hv,r.kp kp,.inl #[es',ep',xK,hs,h2,h3,h4,λn hn=>PuR.kp kp (h5 n hn),h6],rfl] (by simp[Sl.own]) (λa h=>?_) (λa h=>?_) (λa h z=>?_)
 ·have:a=l:=by simpa [Sl.own]using h
  subst this;exact .inl hl
 ·rcases hc a (by simpa [Sl.frz]using h)with q|q
  ·exact .inl (by rw[ha];exact lc9 _ q)
  ·exact .inr q
 ·have:a=l:=by simpa [Sl.own]using h
  subst this;exact nc (by simpa [Sl.frz]using z)
def QX(h:Heap)(a:Addr)(ts:List DictEntry)(ep:Nat):Prop:=∃ob io,h.get? a=some ob/\ob.ExactDict/\ob.data=.dict io ep/\io.toList=ts
theorem ww4{X:Cx}{a8:List _}{σ:L2.St}{H:Hp}{s:Shared}{a:Addr}{es:List Ent}{ep:Nat}(I:Inv X a8 σ H s)(h:H a=some (qX a es ep)):QX s.heap a (es.map λx=>(#[QK X.w x.1.1,.ref x.2.1,x.2.2]:DictEntry)) ep:=by
 obtain⟨⟨o,ds,h1,h2,h3,h4⟩,_⟩:=(I.hok a _ h);exact#[o,ds,h1,h2,h3,h4]
mutual
theorem vjt{K H}:∀{d v},PuR K H d v->RepL K H true d v []
 |.non,_,h=>#[h,rfl]|.int _,_,h=>#[h,rfl]
 |.tup ds,_,h=>by
  obtain⟨a,xs,e,s,r⟩:=h;exact#[a,xs,e,s,rep_purs r]
 |.bl _,_,h=>h.elim|.str _,_,h=>by exact#[h.1,rfl,h.2]|.lst _,_,h=>h.elim|.dct _,_,h=>by exact h.elim|.obj _ _,_,h=>h.elim
theorem rep_purs{K H}:∀{ds xs},PuRs K H ds xs->RepA K H true ds xs []
 |[],_,h=>by unfold PuRs at h;exact#[h,rfl]
 |d::ds,_,h=>by
  obtain⟨x,r,e,h1,h2⟩:=h;exact#[x,r,[],[],e,rfl,vjt h1,rep_purs h2]
end
def xk2(K:Frag)(p:Addr)(Q:VK)(ps:List (V×V))(H2:Hp):Prop:=∃x y,ps=[(x,y)]/\H2 p=some (qX p [] 0)/\∃(b:Addr) (kd:Kd),x=.ref b/\PuR K H2 kd.1 (.ref b)/\∀r ep',RelV y r->Q (.ref p) (upd H2 p (qX p [(kd,b,r)] ep'))
abbrev xqm(K:Frag)(tk tv:TE):TE:=fun σ H Q=>∀p,H p=none->(p==sysModules)=false->tk σ (upd H p (qX p [] 0)) λx H1=>tv σ H1 λy H2=>xk2 K p Q [(x,y)] H2
theorem wqs{X:Cx}{K:Frag}{pos:Pos}{k v:Expr}{tk tv:TE}(hu:X.A.units+64<cLine)(hk:PE X k tk)(hv:PE X v tv)(hK:autoParam (X.K=K) Ŕ):PE X (.Dict [some k] [v] pos) (xqm K tk tv):=by
 subst hK;intro a8 s σ H Q I h;have hn:=I.hok.fresh (X9 s.heap.objs.size);have I1:=I.laid (a:=s.heap.objs.size) (o:=qX s.heap.objs.size [] 0) (h':=s.heap.push {cls:=.type "dict",data:=.dict (List.toArray [])}) (t':=s.toks) (λ_ _ q=>X5 _ q) (X9 _) (ww3 s.heap);refine wpAny_Dict_any rfl rfl (by simp) (by simp) (thn (vx4 hk hv wqi a8 _ σ _ (xk2 X.K s.heap.objs.size Q) I1 (h _ hn (Ya (Zh I.big)))) λvs s2 hz=>?_);obtain⟨ps,H2,I2,jp,x,y,ep,e,b,kd,ex,pk,q⟩:=hz;subst ep ex;cases jp with
 |@cons p1 p2 t1 t2 h1 h2=>
  cases h2;obtain⟨u,r⟩:=p2;obtain rfl:u=Value.ref b:=h1.1;have h1:RelV y r:=h1.2;unfold storeAll;rw[List.forIn_cons];refine X0 (X0 (wpAny_dictSet_heap (knd:=vjb X.prog X.w) (xs:=[]) (k:=kd) (by show X.A.units+40<cLine;lia) (kq1 I2 pk rfl) (wjv I2 e Y2 (λ_ z=>absurd z Yg)) (λh' dd hs=>X4 ?_) (Yi _)));show wpAny (model X.prog X.w) X.A (forIn [] PUnit.unit _) _ _ _;rw[List.forIn_nil];refine X4 ?_;obtain⟨o,ds,ep',hq,g2,g3,g4,_,_⟩:=dd;exact#[.ref s.heap.objs.size,_,vv9 (ob:=qX s.heap.objs.size [(kd,b,r)] ep') I2 (by rw[e];exact True.intro) hs #[o,hq] #[#[o,ds,hq,g2,g3,g4],#[o,hq],λh1 h2 #[o,ds,a1,a2] k=>#[o,ds,k o a1,a2]],rfl,q r ep' h1]
section
variable {X:Cx}{Z:Fx0}{q:Bool}{kc vc:Ex}{ke ve:Expr}{pos:Pos}
theorem wz3(hu:X.A.units+64<cLine)(hk:QE X Z q kc ke)(hv:QE X Z q vc ve)(hK:autoParam (X.K=Z.K) Ŕ):QE X Z q (vzh kc vc) (.Dict [some ke] [ve] pos):=qV (wqs hu hk hv hK) fun σ H Q ao=>ex8 ao λE L r m w hc xc k=>by
 intro p hp hs;have qp:kX H (upd H p (qX p [] 0)):=xw hp;have st0:Step H L (upd H p (qX p [] 0)) L:=#[λb ob h _=>qp b ob h,λ_ h=>.inl h,λ_ h=>.inl h];have nL:p∉jv L:=λz=>w.own_some z hp
 have nF:p∉kw L:=λz=>w.frz_some z hp
 have w0:World Z.K (upd H p (qX p [] 0)) L:=#[λt ht=>RepO.kp (w.ok t ht) (Kp.of_same qp),w.nd,w.ds];have wd:World Z.K (upd H p (qX p [] 0)) ([some #[.rt,.dct [],.ref p,[p]]]++L):=by
  refine World.cons w0 #[p,[],[],rfl,by unfold RepP;exact#[rfl,rfl],.inl #[[],0,xK,hs,Yi _,Y2,rfl,λ_ z=>absurd z Yg,Paired.nil],rfl] (by simp[Sl.own]) (λb hb ho=>?_) (λb hb ho=>?_) (λb hb=>by simp[Sl.frz]at hb) (λb _ hb=>by simp[Sl.frz]at hb)
  ·have:b=p:=by simpa [Sl.own]using hb
   exact nL (this▸ho)
  ·have:b=p:=by simpa [Sl.own]using hb
   exact nF (this▸ho)
 refine VY m w0 (show bnd (kc E) _=some r from hc) (xc.step st0) λE1 s1 h1 x L1 H1 e1 e2 m1 w1 js lx=>?_
 obtain⟨wd1,sd1⟩:=xjy wd js w1;have s1':Step H L H1 L1:=(st0.trans js).trans Step.drop;refine VY m1 w1.tail (show bnd (vc E1) _=some r from h1) (xc.step s1') λE2 s2 h2 y L2 H2 e3 e4 m2 w2 bu fk=>?_
 have pm:(([some #[.rt,.dct [],.ref p,[p]]]:Ls)++(some x::L1)).Perm (([some x,some #[.rt,.dct [],.ref p,[p]]]:Ls)++L1):=List.Perm.swap _ _ _;obtain⟨wd2,sd2⟩:=xjy (wd1.perm pm) bu w2;have og:(([some x,some #[.rt,.dct [],.ref p,[p]]]:Ls)++(some y::L2)).Perm (([some x,some y]:Ls)++(some #[.rt,.dct [],.ref p,[p]]::L2)):=List.Perm.cons _ (List.Perm.swap _ _ _);have w3:=wd2.perm og;have dj:Step (upd H p (qX p [] 0)) ([some #[.rt,.dct [],.ref p,[p]]]++L) H2 ([some x,some y]++(some #[.rt,.dct [],.ref p,[p]]::L2)):=(sd1.perm (List.Perm.refl _) pm).trans (sd2.perm (List.Perm.refl _) og)
 by_cases ui:JY s1.2=true
 ·rw [Xd ui]at h2;cases oq9 h2;have mn:x.ok Z.K H2:=w3.ok x (by simp);have hkz:JY x.d=true:=by rw[e2];exact ui
  obtain⟨b,eb,pb⟩:=kwk mn hkz;have my:v4 6 x.d=true:=by unfold JY at hkz;rw[Bool.and_eq_true]at hkz;exact hkz.1
  obtain⟨a,xs0,bs0,ea,_,q4,_⟩:=(show RepR Z.K H2 (.dct []) (.ref p) [p]from w3.ok #[.rt,.dct [],.ref p,[p]] (by simp));obtain⟨es,ep,g1,_⟩:=DcA.un (kvs:=[]) q4 rfl;have hH2:H2 p=some (qX p [] 0):=by
   have n1:p∉jv (some x::L1):=λz=>by
    rcases js.own p z with z|z
    ·exact nL z
    ·rw[xK]at z;cases z
   have hH1:H1 p=some (qX p [] 0):=js.keep p _ xK nL;exact bu.keep p _ hH1 λz=>n1 (by rw[v8];exact lr9 _ z)
  have rv:RepL Z.K H2 true s2.2 y.v y.as:=by rw[<-e4];exact RepO.wk (w3.ok y (by simp))
  refine#[x.v,y.v,rfl,hH2,b,#[x.d,my],eb,pb,λrr ep' hrr=>?_];obtain⟨w4,jg⟩:=vk9 (ep':=ep') (es':=[(#[x.d,my],b,rr)]) (xs':=[y.v]) (cs:=y.as) (kvs':=[(x.d,s2.2)]) (bs:=[]) (i:=0) (y:=#[.rt,.dct [],.ref p,[p]]) w3 rfl hH2 rfl rfl rfl
   (by unfold RepP;exact#[y.v,[],y.as,[],rfl,by simp,rv,by unfold RepP;exact#[rfl,rfl]])
   (λc mx=>.inr (by
    rcases Sl.as_of mx with z|z
    ·exact .inl (by simpa using .inr z)
    ·exact .inr (by simpa using .inr z))) hs (by show(1:Nat)<=sizeLine;decide) (List.nodup_cons.mpr #[Yg,Y2]) rfl (λn hn=>by rw[aC hn];exact pb) (.cons hrr .nil)
  have stA:Step (upd H p (qX p [] 0)) ([some #[.rt,.dct [],.ref p,[p]]]++L) _ _:=dj.trans jg;refine k _ _ rfl #[.rt,.dct [(x.d,s2.2)],.ref p,p::y.as] L2 _ rfl (congrArg (λd=>D.dct [(d,s2.2)]) e2) m2 w4 ?_ λhq=>?_
  ·refine#[λc ob h hn=>stA.keep c ob (qp c ob h) λz=>?_,λc mx=>?_,λc mx=>?_]
   ·rw[List.singleton_append,v8]at z;rcases aA z with z|z
    ·have:c=p:=by simpa [Sl.own]using z
     rw[this,hp]at h;cases h
    ·exact hn z
   ·rcases stA.own c mx with z|z
    ·rw[List.singleton_append,v8]at z;rcases aA z with z|z
     ·have:c=p:=by simpa [Sl.own]using z
      exact .inr (this▸hp)
     ·exact .inl z
    ·exact .inr (by
      cases hc0:H c with
      |none=>rfl
      |some ob=>rw[qp c ob hc0]at z;cases z)
   ·have hcp:c=p->H c=none:=λz=>z▸hp
    rcases stA.frz c mx with z|z|z
    ·rw[List.singleton_append,Jz]at z;rcases aA z with z|z
     ·simp[Sl.frz]at z
     ·exact .inl z
    ·rw[List.singleton_append,v8]at z;rcases aA z with z|z
     ·have:c=p:=by simpa [Sl.own]using z
      exact .inr (.inr (this▸hp))
     ·exact .inr (.inl z)
    ·exact .inr (.inr (by
      cases hc0:H c with
      |none=>rfl
      |some ob=>rw[qp c ob hc0]at z;cases z))
  ·refine#[λc ob h=>?_,λc mx=>?_]
   ·have ck:c≠p:=λz=>by rw[z,hp]at h;cases h
    rw[qQ ck];exact(fk hq).1 c ob ((lx hq).1 c ob (qp c ob h))
   ·have:c=p:=by simpa [Sl.own]using mx
    exact this▸hp
 ·rw[Xg ui]at h2;cases h2
end
section
variable {prog:Program}{w:PySem.World}{A:Around}{E:VP9}{s:Shared}{a it:Addr}{ts:List DictEntry}{ep i:Nat}
theorem vqd{Q:VP9}(hs:(a==sysModules)=false)(hd:QX s.heap a ts ep)
  (q:Q (.ref s.heap.objs.size) {s with heap:=s.heap.push {cls:=.type "dict_keyiterator",data:=.fields (List.toArray [.ref a,.int 0 0,.int ts.length 0,.int ep 0])}}):wpAny (model prog w) A (pyIter (.ref a)) Q E s:=by
 obtain⟨ob,io,g1,g2,g3,g4⟩:=hd;have ty:s.TypeIs (.ref a) "dict":=#[ob,g1,g2.1];have hl:io.size=ts.length:=by rw[<-g4];simp
 refine wpAny_pyIter_slot ty F.slot_dict_iter (Y1 F.slot_dict_iter ty F.entry_dict_iter ?_ (F.args_dict_iter_1 _));unfold Builtin.«dict.__iter__» Builtin.Dict.dictSlotNone;refine X0 (X0 (wpAny_notOrdered_dict ty ?_));show wpAny _ _ (pure (Value.ref a)) _ _ s;refine X4 ?_;show wpAny _ _ (Builtin.Dict.showsAll a >>= _) _ _ s;unfold Builtin.Dict.showsAll;rw[Xg (by rw[hs];exact Bool.false_ne_true)];refine X0 (X4 (X0 (wpAny_dictEntries g1 g3 (X0 (wpAny_dictEpoch g1 g3 ?_)))));refine X0 (Y4 (X4 #[_,rfl,"dict_keyiterator",_,#[_,X7 _ rfl,rfl],F.slot_dict_keyiterator_next.lookup,?_]))
 simpa [rawInt,hl]using q
theorem vqc{en:DictEntry}{Q:Option Value->Shared->Prop}(hi:s.heap.IsKeyIter it a i ts.length ep)(hd:QX s.heap a ts ep)(hx:ts[i]?=some en)
  (q:∀h',h'.IsKeyIter it a (i+1) ts.length ep->Heap.SameBut it s.heap h'->Q (some en.key) {s with heap:=h' }):wpAny (model prog w) A (pyNext (.ref it)) Q E s:=by
 have ty:=hi.typeIs;obtain⟨o,h1,h2,h3⟩:=hi;obtain⟨ob,io,g1,g2,g3,g4⟩:=hd;have hl:io.size=ts.length:=by rw[<-g4];simp
 have c8:i<io.size:=by rw[hl];exact(List.getElem?_eq_some_iff.mp hx).1
 have hen:io[i]=en:=by
  rw[<-g4,Ye,Yk c8]at hx;exact oq9 hx
 have ow:Builtin.Dict_items.ownsTuple "dict_keyiterator"=false:=⋯
 unfold pyNext;refine X0 (wpAny_attempt (Y6 (name:=Str.ofString "__next__") ty F.slot_dict_keyiterator_next (Y1 F.slot_dict_keyiterator_next ty F.entry_dict_keyiterator_next ?_ (F.args_dict_keyiterator_next_1 _))));refine X0 (X4 (X0 (X0 ?_)))
 first
  |refine X0 (Z2 ty (X4 (X0 (Za h1 h3 ?_))))
  |refine X0 (wpAny_typeNameOf_keyiter ty (X4 (X0 (Za h1 h3 ?_))))
 simp only[ow,Bool.false_eq_true,if_false];show wpAny _ _ (if(Value.ref a==Value.none)=true then _ else _) _ _ s;rw[Xg (show ¬((Value.ref a==Value.none)=true)from λz=>nomatch z)];refine X0 (X4 (X0 (wpAny_dictEntries g1 g3 ?_)));rw[Xg (by rw[hl];simp)];refine X0 (X4 (X0 (wpAny_dictEpoch g1 g3 ?_)));rw[Xg (by simp)];refine X4 ?_;simp only[show ¬((i:Int)<0)from by lia,if_false,Xp,Yk c8,hen];refine X0 ?_
 first
  |refine X0 (Z2 ty (X4 (X0 (wpAny_isOneOf_keyiter ty ?_))))
  |refine X0 (wpAny_typeNameOf_keyiter ty (X4 (X0 (wpAny_isOneOf_keyiter ty ?_))))
 show wpAny _ _ (setField (.ref it) 1 (rawInt ((i:Int)+1)) >>= _) _ _ s;refine X0 (Yl h1 h3 (by simp) ?_);have jn:(s.heap.update it (Obj.mapFields (·.setIfInBounds 1 (rawInt ((i:Int)+1))))).IsKeyIter it a (i+1) ts.length ep:=⟨_,Y3 _ h1 (Yz (Yq h3 _)),(Obj.cls_mapFields ..).trans h2,by rw[Yq h3];simp[rawInt]⟩;refine X0 (Y9 (X0 (wpAny_isOneOf_keyiter (s:={s with heap:=s.heap.update it (Obj.mapFields (·.setIfInBounds 1 (rawInt ((i:Int)+1))))}) jn.typeIs ?_)));show wpAny _ _ (pure en.key) _ _ _;exact X4 (X4 ⟨_,rfl,X4 (q _ jn (Y0 ..))⟩)
theorem vqb{Q:Option Value->Shared->Prop}(hh:A.handled=none)(hi:s.heap.IsKeyIter it a i ts.length ep)(hd:QX s.heap a ts ep)(hx:ts.length<=i)(q:∀h',Heap.ExtBut it s.heap h'->Q none {s with heap:=h' }):wpAny (model prog w) A (pyNext (.ref it)) Q E s:=by
 have ty:=hi.typeIs;obtain⟨o,h1,h2,h3⟩:=hi;obtain⟨ob,io,g1,g2,g3,g4⟩:=hd;have hl:io.size=ts.length:=by rw[<-g4];simp
 have ow:Builtin.Dict_items.ownsTuple "dict_keyiterator"=false:=⋯
 unfold pyNext;refine X0 (wpAny_attempt (Y6 (name:=Str.ofString "__next__") ty F.slot_dict_keyiterator_next (Y1 F.slot_dict_keyiterator_next ty F.entry_dict_keyiterator_next ?_ (F.args_dict_keyiterator_next_1 _))));refine X0 (X4 (X0 (X0 ?_)))
 first
  |refine X0 (Z2 ty (X4 (X0 (Za h1 h3 ?_))))
  |refine X0 (wpAny_typeNameOf_keyiter ty (X4 (X0 (Za h1 h3 ?_))))
 simp only[ow,Bool.false_eq_true,if_false];show wpAny _ _ (if(Value.ref a==Value.none)=true then _ else _) _ _ s;rw[Xg (show ¬((Value.ref a==Value.none)=true)from λz=>nomatch z)];refine X0 (X4 (X0 (wpAny_dictEntries g1 g3 ?_)));rw[Xg (by rw[hl];simp)];refine X0 (X4 (X0 (wpAny_dictEpoch g1 g3 ?_)));rw[Xg (by simp)];refine X4 ?_;simp only[show ¬((i:Int)<0)from by lia,if_false,Xp,Array.getElem?_eq_none (show io.size<=i by lia)];refine X0 ?_
 first
  |refine X0 (Z2 ty (X4 ?_))
  |refine X0 (wpAny_typeNameOf_keyiter ty (X4 ?_))
 show wpAny _ _ (setField (.ref it) 0 .none >>= _) _ _ s;refine X0 (Yl h1 h3 (by simp) ?_);show wpAny _ _ (newExc (.type "StopIteration") [] >>= _) _ _ _;refine X0 ?_;simp only[newExc,newTuple];refine X0 (Y4 (X0 (m:=firstArgMember _ _) (wpAny_of_eq (a:=Value.none) (by first|rfl|(simp only[firstArgMember];rfl)) (Y4 ?_ (by size_fits)))) (by size_fits));simp only[raiseNew];refine X0 (wpAny_handled ?_);rw[show A.in1.handled=none from hh];have tyS:∀(hq:Heap) (ob:Obj),ob.cls=.type "StopIteration"->(hq.push ob).get? hq.objs.size=some ob->Shared.TypeIs {s with heap:=hq.push ob} (.ref hq.objs.size) "StopIteration":=λhq ob h1 h2=>#[_,h2,h1]
 refine X0 (X4 (wpAny_throw ?_));refine X0 (wpAny_isInstance (b:=true) (tyS _ _ rfl (X7 _ rfl)) isSubtype_stop ?_);exact X4 (q _ (((Y0 ..).extBut.push _).push _))
theorem kji{h h':Heap}(hd:QX h a ts ep)(k:∀o,h.get? a=some o->h'.get? a=some o):QX h' a ts ep:=by
 obtain⟨ob,io,g1,g⟩:=hd;exact#[ob,io,k ob g1,g]
theorem qv7{h:Heap}(hd:QX h a ts ep):a<h.objs.size:=by
 obtain⟨ob,io,g1,g⟩:=hd;exact Xe g1
theorem qx5(hh:A.handled=none)(I:Addr)(ck:a≠I):PySem.Walks prog w A I [I,a] [I] ts.length (λi v=>∃en,ts[i]?=some en/\v=en.key) (λi h=>h.IsKeyIter I a i ts.length ep/\QX h a ts ep) where
 sub:=λb hb=>by simp at hb;simp[hb]
 frame:=λ_ _ _ st hk=>#[st.1.at λo e=>hk I (by simp) o e,kji st.2 λo e=>hk a (by simp) o e]
 item:=λi s Q E hi st hQ=>vqc st.1 st.2 (X1 hi) λh' jn jc=>
  hQ _ h' s.toks #[_,X1 hi,rfl] #[jn,kji st.2 λo e=>jc.extBut a o ck e] λb o hb e=>jc.extBut b o (λh=>hb (by simp[h])) e
 done:=λs Q E st hQ=>vqb hh st.1 st.2 (X9 _) λh' he'=>hQ h' s.toks λb o hb e=>he' b o (λh=>hb (by simp[h])) e
 self:=λ_ _ _ _ st hQ=>wpAny_pyIter_keyiter st.1 hQ
theorem vwg(lo:(a==sysModules)=false):PySem.W.KdlSrc prog w "dict" a a ts.length (λi v=>∃en,ts[i]?=some en/\v=en.key) (λh=>QX h a ts ep) where
 type:=λ_ hm=>by obtain⟨ob,io,g1,g2,_⟩:=hm;exact#[ob,g1,g2.1]
 there:=λ_ hm=>#[qv7 hm,qv7 hm]
 keep:=λ_ _ hm hk=>kji hm λo e=>hk a (.inl rfl) o e
 notList:=⋯
 notTuple:=⋯
 hint:=λ_ _ _ _ hm hq=>PySem.W.kdl_hint_dict (by obtain⟨ob,io,g1,g2,_⟩:=hm;exact#[ob,g1,g2.1]) hq
 iter:=λ_ _ hh hm=>#[_,_,(λ_ _ hq=>vqd lo hm hq),qx5 hh _ (Xi (qv7 hm)),#[#[_,X7 _ rfl,rfl,rfl],kji hm λo e=>X5 _ e]]
end
def vzw(K:Frag):List V->Hp->VK->Prop:=λxs H Q=>∃a es ep,xs=[.ref a]/\H a=some (qX a es ep)/\(a==sysModules)=false/\es.length<=sizeLine/\∀l,H l=none->Q (.ref l) (upd H l (.lst (es.map λn=>V.ref n.2.1)))
theorem kzs:∀(es:List Ent),Vals (es.map λn=>V.ref n.2.1) (es.map λn=>Value.ref n.2.1)
 |[]=>.nil|n::es=>.cons rfl (kzs es)
theorem kwv{X:Cx}{K:Frag}(hc:autoParam (X.calm=true) Ŕ):CallR X (.type "list") (vzw K):=by
 intro a8 s σ H xs us Q I r h;obtain⟨a,es,ep,rfl,hH,hs,hl,q⟩:=h;obtain⟨u,rfl,rx⟩:=zJ r;cases rx;refine PySem.W.kdl_call (vwg (ts:=es.map λx=>(#[QK X.w x.1.1,.ref x.2.1,x.2.2]:DictEntry)) (ep:=ep) hs) (I.ok.hd hc) (ww4 I hH) (by rw[X3];exact hl) λh' tk ah c kp e ay=>?_
 have he:ah.toList=es.map λn=>Value.ref n.2.1:=by
  refine Zi λi=>?_
  rw[X8];have hn:ah.size=es.length:=by have:=ay.1;simpa using this
  cases hv:ah[i]? with
  |none=>rw[Ye,hv,Xy (by have:=Array.getElem?_eq_none_iff.mp hv;lia)];rfl
  |some v=>
   obtain⟨en,h1,h2⟩:=ay.2 i v hv;rw[Ye,hv,h2];rw[X8]at h1;cases hes:es[i]? with|none=>rw[hes]at h1;cases h1|some n=>rw[hes]at h1;cases oq9 h1;rfl
 refine#[.ref s.heap.objs.size,_,I.laid kp (X9 _) (show ObjOk X.prog X.w _ h' _ (.lst (es.map λn=>V.ref n.2.1))from#[by rw[X3];exact hl,es.map λn=>Value.ref n.2.1,c,kzs es,by rw[<-he];simpa using e]),rfl,q _ (I.hok.fresh (X9 _))]
theorem qj7{K:Frag}{H:Hp}:∀{es:List Ent},(∀n∈es,PuR K H n.1.1 (.ref n.2.1))->RepA K H true (es.map (·.1.1)) (es.map λn=>V.ref n.2.1) []
 |[],_=>by unfold RepA;exact#[rfl,rfl]
 |n::es,h=>by
  rw[List.map_cons,List.map_cons];unfold RepA;exact#[_,_,[],[],rfl,rfl,vjt (h n X6),qj7 λm hm=>h m (lc9 _ hm)]
theorem qx1{K:Frag}:Ad1 K (λv H Q=>vzw K [v] H Q) W9:=by
 intro H x s Q ok hf k;unfold W9 at hf;cases hx:x.d with
 | dct kvs=>
  rw[show(x.o,x.d).2=D.dct kvs from hx]at hf;have hf:(if kvs.length<=big/\unm kvs=true then some (Own.rt,D.lst (kvs.map (·.1)))else none)=some s:=hf
  split at hf
  rotate_left
  ·cases hf
  rename_i ak;cases oq9 hf;have okL:RepL K H true (.dct kvs) x.v x.as:=by rw[<-hx];exact K4 ok
  unfold RepL at okL;obtain⟨a,xs,bs,ev,rp,q4,eas⟩:=okL;obtain⟨es,ep,g1,g2,g3,g4,g5,g6,g7⟩:=DcA.un q4 ak.2;refine#[a,es,ep,by rw[ev],g1,g2,g3,λl hl=>k #[.rt,.lst (kvs.map (·.1)),.ref l,[l]] _ rfl rfl #[xw hl,#[l,_,[],rfl,?_,xK,rfl],λb hb=>?_,by simp[Sl.own],λb hb=>?_]]
  ·rw[g5];exact(qj7 g6).kp (Kp.of_same (xw hl))
  ·have:b=l:=by simpa [Sl.own]using hb
   exact this▸hl
  ·simp[Sl.frz]at hb
 |_=>rw[show(x.o,x.d).2=_ from hx]at hf;cases hf
def xwp(lm:Bool):R2:=λx y H Q=>∃a b,x=.bl a/\y=.bl b/\Q (.bl (lm != (a==b))) H
theorem wzx{X:Cx}:OpR X (compareOp .IsNot) (xwp true):=by
 intro a8 s σ H x y v u Q I rx ry h;obtain⟨a,b,rfl,rfl,q⟩:=h;cases rx;cases ry;exact isnot_bool (qws I q (by cases a<;>cases b<;>rfl))
theorem wja{K:Frag}{H:Hp}{x:Sl}{a:Bool}(ok:x.ok K H)(h:x.d=.bl a):x.v=.bl a:=by
 have:=RepO.wk ok;rw[h]at this;unfold RepL at this;exact this.1
theorem wwf{K:Frag}:Ad2 K (xwp true) (pu2 qzb):=by
 intro H x y s Q ox oy hf k;unfold pu2 qzb at hf;cases hx:x.d with
 | bl a=>cases hy:y.d with
  |bl b=>
   rw[show(x.o,x.d).2=D.bl a from hx,show(y.o,y.d).2=D.bl b from hy]at hf;cases oq9 hf;exact#[a,b,wja ox hx,wja oy hy,by rw[show(true != (a==b))=(!(a==b))by cases a<;>cases b<;>rfl];exact k #[.dp,.bl _,.bl _,[]] H rfl rfl xV]
  |_=>rw[show(x.o,x.d).2=D.bl a from hx,show(y.o,y.d).2=_ from hy]at hf;cases hf
 |_=>rw[show(x.o,x.d).2=_ from hx]at hf;cases hf
theorem wwd:∀x y s,pu2 qzb x y=some s->∃k,s.2=.bl k:=by
 intro x y s h;unfold pu2 qzb at h
 split at h
 ·cases oq9 h;exact#[_,rfl]
 ·cases h
theorem RepA.put{K H g d x cs}(hx:RepL K H g d x cs):∀{ds xs bs} (n),RepA K H g ds xs bs->∃es,RepA K H g (ds.set n d) (xs.set n x) es/\∀a∈es,a∈bs\/a∈cs
 | [],_,bs,n,h=>by
  have h0:=h;obtain⟨rfl,rfl⟩:=h0;exact#[[],by simpa using h,λ_ z=>nomatch z]
 | e::ds,_,_,n,h=>by
  obtain⟨y,r,b1,b2,rfl,rfl,h1,h2⟩:=h;cases n with
  | zero=>
   refine#[cs++b2,?_,λa ha=>?_]
   ·unfold RepA;exact#[x,r,cs,b2,rfl,rfl,hx,h2]
   ·rcases aA ha with z|z
    ·exact .inr z
    ·exact .inl (lr9 _ z)
  | succ n=>
   obtain⟨es,i1,i2⟩:=RepA.put hx n h2;refine#[b1++es,?_,λa ha=>?_]
   ·unfold RepA;exact#[y,r.set n x,b1,es,rfl,rfl,h1,i1]
   ·rcases aA ha with z|z
    ·exact .inl (ll9 _ z)
    ·exact(i2 a z).imp (lr9 _) id
section
variable {X:Cx}{Z:Fx0}{pn:List Nat}{q:Bool}{kc vc:Ex}{o ke ve:Expr}{pos ce:Pos}
theorem wxv {i} (ho:PE X o (K0 i)) (hk:QV X Z true kc ke) (hv:QE X Z q vc ve) (hs:autoParam (swapsWithSole [.Subscript o ke ce] ve pos.line X.env=pure false) Ŕ) (hw:autoParam (swappedStores [.Subscript o ke ce] ve X.env=pure none) Ŕ)
  (h1:autoParam ((assignEach [.Subscript o ke ce] X.env).map (·.2)=[assign (.Subscript o ke ce) X.env]) Ŕ)
  (ha:autoParam (∀ v,assign (.Subscript o ke ce) X.env v=(do
   let ov <-holding [v] (eval o X.env)
   let iv <-holding [v,ov] (eval ke X.env)
   standAt ce
   holding [v,ov,iv] (setItem ov iv v)
   release [v,ov,iv] [])) Ŗ):
  QS X Z pn (wxc i kc vc) (.Assign [.Subscript o ke ce] ve pos):=JJ (wj0 hv (wzi ho hk vwn ha) hs hw h1) λD σ H ao=>ex7 ao λE L r m w hr k=>
 WQ m w hr k λE1 s1 h1 x L1 H1 e1 e2 m1 w1 js _=>by
  by_cases hd:VX E1[i]?=true
  ·rw [Xd hd]at h1;obtain ⟨s0,hd0⟩:∃s0,E1[i]?=some _:=by
    cases h0:E1[i]? with
    | none=>rw[h0]at hd;cases hd
    | some s0=>
     cases s0 with| none=>rw[h0]at hd;cases hd| some s0=>exact#[s0,rfl]
   obtain ⟨y0,a1,a2,a3,a4⟩:=m1.get hd0;refine #[y0.v,a4,?_];rcases jw2 h1 with⟨E2,ky,n8,jb⟩|⟨E2,c,n8,rfl⟩
   ·refine #[E1,L1,_,m1,w1.tail,n8,(λ_ _ z=>by cases z),λE' s' z zk L2 H2 f1 f2 m2 w2 okz frz _ bu sm=>?_];injection z with z1 z2;subst z1 z2;cases hE:E2[i]? with
    | none=>rw[hE]at jb;cases jb
    | some s2=>
     cases s2 with
     | none=>rw[hE]at jb;cases jb
     | some s2=>
      obtain⟨oo,dd⟩:=s2;rw [hE]at jb;cases dd with
      | lst ds=>
       cases hkd:ky.2 with
       | int j=>
        rw [hkd]at jb;dsimp only at jb
        by_cases il:oo=.no
        ·rw[Xd il]at jb;cases jb
        ·rw[Xg il]at jb;cases hj:ixN ds.length j with
         | none=>rw[hj]at jb;cases jb
         | some n=>
          rw[hj]at jb;cases oq9 jb;obtain⟨y,b1,b2,b3,b4⟩:=m2.get hE;have hyv:y.v=y0.v:=by rw[a4]at b4;exact(oq9 (oq9 b4)).symm
          obtain⟨w3,dj⟩:=xjy (T:=[some x]) w1 bu w2;obtain⟨l,xs,bs,c1,c2,c3,c4,c5⟩:=kxm (w2.ok y (vX b1)) b3 (b2▸il);have c6:RepA Z.K H2 true ds xs bs:=by
           cases hb:(y.o != .dp)with|true=>rw[hb]at c5;exact c5|false=>rw[hb]at c5;exact c5.wk
          have rx:RepL Z.K H2 true s1.2 x.v x.as:=by rw[<-e2];exact RepO.wk (w3.ok x X6)
          obtain⟨es,g1,g2⟩:=RepA.put rx n c6;obtain⟨w4,jg⟩:=kxl (T:=[some x]) (o':=.rt) (ds':=ds.set n s1.2) (xs':=xs.set n x.v) w3 b1 c2 c3 c4 c1 g1 (.inl #[rfl,λa ha=>(g2 a ha).imp id λz=>by
           rcases Sl.as_of z with z|z
           ·exact .inl (by simpa using z)
           ·exact .inr (by simpa using z)])
          refine#[l,xs,j,n,hyv▸c1,(v5 okz (f2▸hkd)),c2,by rw[<-c6.len,<-vqk];exact hj,(k σ _ _ Pn.refl ?_ w4 ((js.trans dj).trans jg))];have:=m2.set (x:=#[.rt,.lst (ds.set n s1.2),y.v,l::es]) i;rw[W1 b4]at this;exact this
       |_=>rw[hkd]at jb;cases jb
      |_=>cases jb
   ·exact#[E1,L1,_,m1,w1.tail,n8,(λE' c' e C L' H' hm m' w' st=>by injection e with z1 z2;subst z1 z2;exact k C σ L' H' hm Pn.refl m' w' ((js.trans Step.drop).trans st)),λE' s' z=>by cases z]
  ·rw[Xg hd]at h1;cases h1
end
abbrev dkI(kv:List (Int×Int)):List (Key×V):=kv.map λp=>(Sum.inl p.1,V.int p.2)
theorem wwu kv k:JQ (dkI kv) (Sum.inl k)=(kQ kv k).map V.int:=by
 induction kv with
 | nil=>rfl
 | cons p r ih=>
  unfold JQ kQ at ih ⊢;rw[show dkI _=_::dkI r from rfl,List.find?_cons,List.find?_cons]
  by_cases h:p.1=k
  ·have h1:decide ((Sum.inl p.1:Key)=Sum.inl k)=true:=Xj (by rw[h]);have h2:=Xj h;simp only[h1,h2];rfl
  ·have h1:decide ((Sum.inl p.1:Key)=Sum.inl k)=false:=Xs λz=>h (Sum.inl.inj z)
   have h2:=Xs h;simp only[h1,h2];exact ih
theorem wz9 kv (k v):xq4 (dkI kv) (Sum.inl k) (V.int v)=dkI (vJ kv k v):=by
 have ha:((dkI kv).any λp=>decide (p.1=(Sum.inl k:Key)))=kv.any λp=>decide (p.1=k):=by
  rw[List.any_map]
  congr 1
  funext p;show decide ((Sum.inl p.1:Key)=Sum.inl k)=decide _;exact decide_eq_decide.mpr #[λz=>Sum.inl.inj z,λz=>by rw[z]]
 unfold xq4 vJ;rw[ha]
 by_cases h:(kv.any λp=>decide (p.1=k))=true
 ·rw[Xd h,Xd h];unfold dkI;rw[Xr,Xr];refine Ym λp _=>?_
  by_cases z:p.1=k
  ·grind
  ·grind
 ·rw[Xg h,Xg h];unfold dkI;rw[Xh];rfl
theorem qk4 : ∀{kvs kv},YQ kvs = some kv -> kvs = kv.map λp=>(D.int p.1,D.int p.2)
  | [],kv,h=>by cases oq9 h; rfl
  | (a,b)::r,kv,h=>by
    cases a with
    | int k=>
      cases b with
      | int v=>
        have h : (YQ r).map _ = some kv:= h;cases hr : YQ r with
        | none=>grind
        | some q=>
          rw[hr]at h;cases oq9 h;rw[List.map_cons,<-qk4 hr]
      |_=>cases h
    |_=>cases b <;> cases h
theorem qk3 : ∀kv,YQ (kv.map λp=>(D.int p.1,D.int p.2)) = some kv
  | []=>rfl
  | (a,b)::r=>by
    show(YQ _).map _ = _;rw[qk3 r]; rfl
theorem wjo kv:XQ (V6 kv)=some kv:=qk3 kv
theorem qj6{K H g}:∀{kv:List (Int×Int)} {xs bs},RepP K H g (kv.map λp=>(D.int p.1,D.int p.2)) xs bs->xs=kv.map λp=>V.int p.2
 |[],_,_,h=>by
  unfold RepP at h;exact h.1
 |p::r,_,_,h=>by
  unfold RepP at h;obtain⟨y,rr,b1,b2,rfl,_,h1,h2⟩:=h;rw[h1.1,qj6 h2,List.map_cons]
theorem qk2{K H g}:∀(kv:List (Int×Int)),RepP K H g (kv.map λp=>(D.int p.1,D.int p.2)) (kv.map λp=>V.int p.2) []
 |[]=>#[rfl,rfl]
 |p::r=>by
  unfold RepP;exact#[_,_,[],[],rfl,rfl,vx,qk2 r]
theorem wv5{K H g}(kv:List (Int×Int)):RepP K H g (mkD::kv.map λp=>(D.int p.1,D.int p.2)) (V.non::kv.map λp=>V.int p.2) []:=by
 exact#[_,_,[],[],rfl,rfl,#[rfl,rfl],qk2 kv]
theorem qwn:∀{a:List (Int×V)} {kv},(kv.map λp=>D.int p.1)=a.map (λp=>D.int p.1)->(kv.map λp=>V.int p.2)=a.map (·.2)->(a.map λp=>((Sum.inl p.1:Key),p.2))=dkI kv
 |[],[],_,_=>rfl|[],_::_,h,_=>by simp at h
 |p::a,q::kv,h,h'=>by
  rw[List.map_cons,List.map_cons]at h h';injection h with h1 h2;injection h' with h3 h4;injection h1 with h1;unfold dkI;rw[List.map_cons,List.map_cons,qwn h2 h4,<-h1,<-h3]
theorem wju{K H}{y:Sl}{kv}(ok:y.ok K H)(hd:XQ y.d=some kv):∃a,y.v=.ref a/\H a=some (.dK (dkI kv))/\∃bs,y.as=a::bs:=by
 have h:=RepO.wk ok;cases hy:y.d with
 | dct kvs=>
  rw [hy]at hd h;cases kvs with
  | nil=>cases hd
  | cons e kvs=>
   obtain⟨a,b⟩:=e;cases a with
   | str m=>
    cases b with
    | non=>
     have e:=qk4 hd;subst e;obtain⟨a,xs,bs,ev,rp,qa,eas⟩:=h;rcases qa with⟨es,ep,_,_,_,_,g5,g6,_⟩|⟨kvn,mm,g1,g2,g3⟩
     ·exfalso;rw[List.map_cons]at g5;cases es with
      |nil=>cases g5
      |cons n es=>
       rw[List.map_cons]at g5;injection g5 with g5 _;have:=g6 n X6;rw[<-g5]at this;unfold PuR at this
       grind
     ·refine#[a,ev,?_,bs,eas];rw[g1]
      congr 2
      obtain⟨y1,rr,_,_,rfl,_,_,r2⟩:=rp;rw[List.map_cons,Xr]at g2;injection g2 with _ g2;injection g3 with _ g3;refine qwn g2 ?_
      rwa [<-(qj6 r2)]
    |_=>cases hd
   |_=>cases b<;>cases hd
 |_=>rw[hy]at hd;cases hd
section
def xwq(lm:Bool):R2:=λx y H Q=>∃(k:Int) (a:Addr) (kv:List (Int×Int)),x=.int k/\y=.ref a/\H a=some (.dK (dkI kv))/\Q (.bl (if lm then !(kQ kv k).isSome else(kQ kv k).isSome)) H
theorem wjw{H a}{kv} k (e:H a=some (.dK (dkI kv))):DGet H a (.int k) ((kQ kv k).map V.int):=by
 rw[<-wwu];exact DGet.k (k:=Sum.inl k) e
theorem xvk{X}(hu:X.A.units+64<cLine):OpR X (compareOp .In) (xwq false):=by
 intro a8 s σ H x y u v Q I rx ry ⟨k,a,kv,e1,e2,hd,q⟩;subst e1 e2;cases ry;refine d_in ⋯ I (wjw k hd) rx λs' I'=>#[.bl _,H,I',rfl,?_]
 rwa [Option.isSome_map]
theorem xku{K}:Ad2 K (xwq false) (pu2 Wq):=by
 intro H x y s Q ox oy hf k;unfold pu2 Wq at hf;dsimp only at hf;cases hx:x.d with
 | int j=>
  rw[hx]at hf;cases hi:XQ y.d with
  |none=>rw[hi]at hf;cases hf
  |some kv=>
   rw[hi]at hf;cases oq9 hf;obtain⟨a,e,q,_⟩:=wju oy hi;exact#[j,a,kv,v5 ox hx,e,q,k _ H rfl rfl xV]
 |_=>rw[hx]at hf;cases hf
theorem xkp(x y s)(h:pu2 Wq x y=some s):∃k,s.2=.bl k:=by
 unfold pu2 Wq at h;cases hx:x.2 with
 |int j=>
  rw[hx]at h;cases hi:XQ y.2 with|none=>rw[hi]at h;cases h|some kv=>rw[hi]at h;cases oq9 h;exact#[_,rfl]
 |_=>rw[hx]at h;cases h
end
section
variable {X:Cx}{Z:Fx0}{pn:List Nat}{q qa:Bool}{a b c kc vc:Ex}{o ea eb ec ke ve:Expr}{pos ce ai:Pos}
theorem xv4(hu:X.A.units+64<cLine)(ha:QV X Z qa a ea)(hb:QV X Z true b eb)(hs:xwb eb):QV X Z qa (xkz a b) (.Subscript ea eb pos):=
 qV (wqt ⋯ ha hb hs) fun σ H Q ao=>ex8 ao λE L r m w hc xc k=>by
  refine vk m w (hc) xc λE1 s h1 x L1 H1 e1 e2 m1 w1 ok fr sr st sm=>(vk m1 w1 h1 (xc.step st) λE2 s2 h2 y L2 H2 e3 e4 m2 w2 iu qg p8 bu fk=>?_)
  obtain⟨z,hz,rfl⟩:=zQ h2;unfold xk9 at hz;cases hy:s2.2 with
  | int j=>
   rw [hy]at hz;cases hi:XQ s.2 with
   | none=>rw[hi]at hz;cases hz
   | some kv=>
    rw[hi]at hz;dsimp only at hz;cases hv:kQ kv j with
    | none=>rw[hv]at hz;cases hz
    | some v=>
     rw[hv]at hz;cases oq9 hz;obtain⟨l,e,q,_⟩:=wju (Vw ok fr bu (fk rfl)).1 (e2▸hi);refine#[l,.int v,e,?_,?_]
     ·rw[v5 iu (e4▸hy)];have:=wjw j q;rw[hv]at this;exact this
     ·exact k _ _ rfl #[.dp,.int v,.int v,[]] L2 H2 rfl rfl m2 w2 (show RepL Z.K H2 false _ _ []from vx) (λ_ hb=>nomatch hb) (λ_ hb=>nomatch hb) (st.trans bu) λhq=>qz (sm hq) (fk rfl)
  |_=>rw[hy]at hz;cases hz
theorem vwx kv (k v):(vJ kv k v).length<=kv.length+1:=by
 unfold vJ
 split
 ·rw[X3];lia
 ·rw[Xf];simp
end
end Q
namespace PySem
theorem qxk:typeLookup (.type "list") "keys"=pure none:=am_miss_of_fast (by decide +kernel)
theorem kzd{prog w}{A:Around}{E:VP9}{s:Shared}{a:Addr}{o:Obj}{xs:Array Value}{k:Nat}{Q:Option Value->Shared->Prop}
  (hx:s.heap.get? a=some o) (hc:o.cls=.type "list") (ir:o.data=.seq xs k) (hd:o.dict=none) (hA:A.handled=none)
  (h:∀h' tk,(∀b ob,s.heap.get? b=some ob->h'.get? b=some ob)->Q none {s with heap:=h',toks:=tk}):
  wpAny (model prog w) A (getAttr? (.ref a) "keys") Q E s:=by
 obtain⟨c,dct,dat,sl⟩:=o;simp only at hc ir hd;subst hc ir hd;obtain⟨hp,g,d,tk,os⟩:=s;have hT:∀ny,(#[hp,g,d,ny,os]:Shared).TypeIs (.ref a) "list":=λ_=>#[_,hx,rfl]
 have f1:=sub_AttributeError;have f3:=F.slot_list_getattribute.lookup;have f4:=F.slot_list_getattribute.bind (.ref a);have f5:=am_list_getattr_none;unfold getAttr? getAttrBy? getAttrBy
 repeat (any_goals (first|assumption|exact hT _|((with_reducible show wpAny _ _ (call (Value.builtin "list.__getattribute__") _ _) _ _ _);refine call_meets F.slot_list_getattribute (hT _) am_entry_list_getattribute (F.args_list_getattribute_2 _ _) (meets_getattribute_miss_list a xs k sl "keys" _ qxk ⋯ ⋯) #[hx,hA,λh' ny e hx'=>?_])|wp_step))
 obtain⟨t',u',he⟩:=hx'.there;show wpAny _ _ (getattributeRaised _ _ _ _ _ _ _) _ _ _;unfold getattributeRaised
 repeat (any_goals (first|assumption|wp_step))
 exact h _ _ hx'.keeps
namespace F
theorem entry_dict_update_loop:entryFor table "dict.update.loop"=some Builtin.«dict.update.loop»:=entryFor_of_tree (by kernel_rfl)
theorem plain_dict_update_loop:plainId "dict.update.loop"=true:=by decide +kernel
end F
section
variable {prog:Program}{w:World}{A:Around}{R:Result->Shared->Prop}{I:Addr}{fp wr:List Addr}{G:Array GenState->Array GenState->Prop}{n:Nat}{P:Nat->Value->Prop}{St:Nat->Shared->Prop}{K:Type}[DecidableEq K]{knd:KeyKind prog w K}
theorem qxr{s T u v E Q}(h:s.heap.IsTuple T (List.toArray [u,v]))(hq:Q [u,v] s):wpAny (model prog w) A (Builtin.Dict.pairItems (.ref T)) Q E s:=by
 obtain⟨o,ho,hc,m,hd⟩:=h;have hT:s.TypeIs (.ref T) "tuple":=#[o,ho,hc];obtain⟨cls,dct,dat,sl⟩:=o;subst hc hd
 repeat (any_goals (first|assumption|wp_step))
theorem kk8(W:WalksS prog w A.in1 I fp wr G n P St)(S)(p5:S∉fp){h₀:Heap}{bb}(hn:bb.length=n)(hz:n<=sizeLine)
  (j':∀i v,P i v->∃T u x k,v=.ref T/\T∉S::wr/\h₀.IsTuple T (List.toArray [u,x])/\bb[i]?=some (k,x)/\knd.is k u=true):
  ∀k i (c) (s),n - i=k->i<=n->St i s->(∀b o,b∉S::wr->h₀.get? b=some o->s.heap.get? b=some o) ->
   s.heap.DictOf knd S (merged [] (bb.take i)) ->
   (∀s',Moved (S::wr) G s s'->s'.heap.DictOf knd S (merged [] bb)->R (.ok (.ret .none)) s') ->
   codeAny (model prog w) A (.builtin "dict.update.loop" #[[.ref S,.ref I,.int i c,.none],[]]) R s:=by
 have ua:=λh=>p5 (W.sub _ h)
 have gb:∀b∈wr,b∈S::wr:=λb hb=>lc9 _ hb
 intro k
 induction k with
 | zero=>
  intro i c s hk hi cn hh hS hR;have fy:i=n:=⋯
  subst fy;refine Yy F.entry_dict_update_loop (X0 (W.done s _ _ cn λs' hm=>(X0 (X4 (X4 (hR s' (hm.mono gb) ?_))))));rw[<-hn,List.take_length]at hS;obtain⟨o,es,ep,ho,am⟩:=hS;exact#[o,es,ep,hm.heap S _ ua ho,am]
 | succ k ih=>
  intro i c s hk hi cn hh hS hR;have c8:i<n:=⋯
  refine Yy F.entry_dict_update_loop ?_;rw[Z3 F.plain_dict_update_loop _];refine X0 (W.item i s _ _ c8 cn λv s' hP qe hm=>?_);obtain⟨T,u,x,kk,rfl,hTn,hT,hmo,fz⟩:=j' i v hP;have jr:s'.heap.DictOf knd S (merged [] (bb.take i)):=by
   obtain⟨o,es,ep,ho,am⟩:=hS;exact#[o,es,ep,hm.heap S _ ua ho,am]
  have ul:s'.heap.IsTuple T (List.toArray [u,x]):=by
   obtain⟨o,ho,am⟩:=hT;exact#[o,hm.heap T o (λz=>hTn (lc9 _ z)) (hh T o hTn ho),am]
  have i8:(merged [] (bb.take i)).length<=sizeLine:=by
   have e1:=merged_length_le ([]:List (K×Value)) (bb.take i);have e2:(bb.take i).length<=bb.length:=by rw[Yp];lia
   have e3:([]:List (K×Value)).length=0:=rfl;lia
  show wpAny _ A.in1 (holding [Value.ref T] _ >>= _) _ _ s';refine X0 (Y9 (X0 (wpAny_tryCatch (qxr ul ?_))));show wpAny _ A.in1 (holding [u,x] (dictSet S u x)) _ _ s';refine Y9 (wpAny_dictSet_pairs (hsz:=i8) fz jr λh' hd' jc=>(X4 #[plainId_quiet F.plain_dict_update_loop _,?_]));show codeAny _ _ (.builtin "dict.update.loop" #[[.ref S,.ref I,.int ((i+1:Nat):Int) 0,.none],[]]) R _;refine ih (i+1) 0 _ ⋯ c8 (W.frame _ s' _ _ qe (Zm _) λb hb o e=>?_) (λb o hb e=>?_) (by rw[merged_take_succ [] bb i (kk,x) hmo];exact hd') λmv p6 pc=>?_
  ·rw[jc.2 b (λh:b=S=>p5 (h▸hb))];exact e
  ·have hbS:b≠S:=λz=>hb (z▸X6)
   show h'.get? b=_;rw[jc.2 b hbS];exact hm.heap b o (λz=>hb (lc9 _ z)) (hh b o hb e)
  ·refine hR mv (Moved.trans W.gtrans ((hm.mono gb).then_heap (Zm _) λb o hb e=>?_) p6) pc;rw[jc.2 b (λh:b=S=>hb (h▸X6))];exact e
theorem kwb{E}{s:Shared}{l items bb o m}{Q}
  (hh:A.handled=none) (ho:s.heap.get? l=some o) (hc:o.cls=.type "list") (ir:o.data=.seq items m) (hd:o.dict=none) (hn:bb.length=items.size) (hz:items.size<=sizeLine)
  (j':∀(i:Nat) (v),items[i]?=some v->∃T u x k,v=.ref T/\s.heap.IsTuple T (List.toArray [u,x])/\bb[i]?=some (k,x)/\knd.is k u=true)
  (h:∀h' (tk),h'.DictOf knd s.heap.objs.size (merged [] bb)->(∀b o,b<s.heap.objs.size->s.heap.get? b=some o->h'.get? b=some o)->Q (.ref s.heap.objs.size) {s with heap:=h',toks:=tk}):
  wpAny (model prog w) A (call (.type "dict") [.ref l]) Q E s:=by
 refine callType_codes (Q₁:=λobj s₁=>obj=Value.ref s.heap.objs.size/\s₁={s with heap:=s.heap.push {cls:=Value.type "dict",data:=Data.dict (List.toArray [])}}) F.kt_called_dict (F.kt_typeCall_dict_1 _) F.entry_dict_init (kt_code_dict_new _ #[rfl,rfl]) ?_;rintro obj s₁ ⟨rfl,rfl⟩;have iq:(s.heap.push {cls:=.type "dict",data:=.dict (List.toArray [])}).DictOf knd s.heap.objs.size []:=Heap.DictOf.new s.heap;have ik:(s.heap.push {cls:=.type "dict",data:=.dict (List.toArray [])}).get? l=some o:=X5 _ ho;have hT:Shared.TypeIs {s with heap:=s.heap.push {cls:=.type "dict",data:=.dict (List.toArray [])}} (.ref l) "list":=#[_,ik,hc];have o8:=Xe ho;refine#[iq.typeIs,F.args_dict_init_2 _ _,(X0 (X0 (wpAny_notOrdered_dict iq.typeIs (X4 ?_))))];show wpAny _ _ (Builtin.Dict.updateFrom "dict.__init__" s.heap.objs.size (.ref l) [] .none) _ _ _;refine X0 (wpAny_typeOf hT (X0 (kzd ik hc ir hd (by simp[hh]) λh' tk hk=>?_)));have hkS:=λb q e=>hk b q (X5 _ e)
 have gu:h'.IsList l items:=#[o,hkS _ _ ho,hc,m,ir];have hS1:h'.DictOf knd s.heap.objs.size []:=by
  obtain⟨q,es,ep,hq,am⟩:=iq;exact#[q,es,ep,hk _ _ hq,am]
 have nq:s.heap.objs.size<h'.objs.size:=by
  obtain⟨q,es,ep,hq,am⟩:=hS1;exact Xe hq
 refine X0 (Z9 (X0 (wpAny_pyIter_list gu (X4 #[plainId_quiet F.plain_dict_update_loop _,?_]))));refine kk8 (h₀:=s.heap) (A:=A.in1) ((Walks.list (A:=A.in1.in1) (by simp[hh]) h'.objs.size l (Xi (Nat.lt_trans o8 nq)) items).toS) s.heap.objs.size ?_ hn hz (λi v hv=>?_) (items.size - 0) 0 0 _ ⋯ (Yi _)
  #[#[_,X7 _ rfl,rfl,rfl],gu.push _] (λb q hb e=>X5 _ (hkS b q e)) (hS1.push _) λs' hm jr=>?_
 ·simp only[Yt,Yg,or_false,not_or];exact#[Xi nq,Zh o8]
 ·obtain⟨T,u,x,k,e1,e2,e3,e4⟩:=j' i v hv;refine#[T,u,x,k,e1,?_,e2,e3,e4];obtain⟨q,hq,_⟩:=e2;have:=Xe hq;simp;exact#[Xi this,Xi (Nat.lt_trans this nq)]
 ·obtain⟨h2,g',d',ny,qf⟩:=s';have eg:g'=s.gens:=hm.gens;have ed:d'=s.drawn:=hm.drawn;have eo:qf=s.os:=hm.os;subst eg;subst ed;subst eo;refine#[rfl,h h2 ny jr λb q hb e=>(hm.heap b q ?_ (X5 _ (hkS b q e)))];simp;exact#[Xi hb,Xi (Nat.lt_trans hb nq)]
end
end PySem
namespace Q
open PySem PySem.Spec PyProof.Rows L2 L3
noncomputable def vk2(K:Frag):List V->Hp->VK->Prop:=λxs H Q=>∃(a:Addr) (ts:List V) (ps:List (Int×Int)),xs=[.ref a]/\SqL K H a ts/\ts.length=ps.length /\
 (∀i (h:i<ps.length),∃T,ts[i]?=some (.ref T)/\SqT K H T [.int ps[i].1,.int ps[i].2])/\ps.length<big/\∀l,H l=none->Q (.ref l) (upd H l (.dK (dkI (ps.foldl (λkv p=>vJ kv p.1 p.2) []))))
theorem qk9:∀(ps kv:List (Int×Int)),(ps.foldl (λkv p=>vJ kv p.1 p.2) kv).length<=kv.length+ps.length
 |[],kv=>by simp
 |p::ps,kv=>by
  rw[Ze,Xv];have:=qk9 ps (vJ kv p.1 p.2);have:=vwx kv p.1 p.2;lia
theorem vqz:∀ps (bb) (kv) (vs),KV (dkI ps) bb->KV (dkI kv) vs->KV (dkI (ps.foldl (λkv p=>vJ kv p.1 p.2) kv)) (bb.foldl (λah kv=>stored ah kv.1 kv.2) vs)
 | [],_,kv,vs,h,h'=>by cases h;exact h'
 | p::ps,_,kv,vs,h,h'=>by
  cases h with
  |cons h1 h2=>
   rename_i m bb;obtain⟨k,x⟩:=m;obtain⟨e,rx⟩:=h1;subst e;refine vqz ps bb _ _ h2 ?_;rw[<-wz9];exact KV.put h' _ rx
theorem vky{X a8}{σ:L2.St}{H s}(I:Inv X a8 σ H s):∀ps (ts) (af),ts.length=ps.length ->
  (∀ i (h:i<ps.length),∃T,ts[i]?=some (.ref T)/\SqT X.K H T [.int ps[i].1,.int ps[i].2])->Vals ts af ->
  ∃ bb,bb.length=af.length/\KV (dkI ps) bb/\∀(i:Nat) (v),af[i]?=some v->∃T u x k,v=.ref T/\s.heap.IsTuple T (List.toArray [u,x])/\bb[i]?=some (k,x)/\(J9 X.prog X.w).is k u=true
 | [],ts,af,hl,_,hv=>by
  cases ts with| nil=>cases hv;exact#[[],rfl,.nil,λi v h=>by simp at h]| cons=>cases hl
 | p :: ps,t::ts,_,hl,hp,hv=>by
  cases hv with
  | cons h1 h2=>
   rename_i u us;obtain⟨T,e1,e2⟩:=hp 0 (by simp);have e1:t=.ref T:=by simpa using e1
   subst e1;cases h1;obtain⟨ii,rv,tp,_⟩:=I.tuple e2;obtain⟨u1,u2,rfl,r1,r2⟩:∃u1 u2,ii=[u1,u2]/\RelV (.int p.1) u1/\RelV (.int p.2) u2:=by
    cases rv with
    |cons a b=>
     cases b with|cons c d=>cases d;exact#[_,_,rfl,a,c]
   obtain⟨bb,m1,m2,m3⟩:=vky I ps ts us (by simpa using hl) (λi h=>by
    obtain⟨T,a,b⟩:=hp (i+1) (by simpa using h);exact#[T,by simpa using a,by simpa using b]) h2
   refine#[(Sum.inl p.1,u2)::bb,by rw[Xv,Xv,m1],.cons #[rfl,r2] m2,λi v h=>?_];cases i with
   |zero=>
    have h:Value.ref T=v:=by simpa using h
    subst h;exact#[T,u1,u2,Sum.inl p.1,rfl,tp,rfl,vxr r1]
   |succ i=>exact m3 i v (by simpa using h)
theorem qzi{X}(hc:autoParam (X.calm=true) Ŕ):CallR X (.type "dict") (vk2 X.K):=by
 rintro a8 s σ H xs us Q I r ⟨a,ts,ps,rfl,hq,hl,hp,hb,q⟩;obtain⟨u,rfl,rx⟩:=zJ r;cases rx;obtain⟨af,rv,⟨o,n,ho,dl,hd,ir⟩,hz⟩:=I.list hq;obtain⟨bb,m1,m2,m3⟩:=vky I ps ts af hl hp rv;refine kwb (I.ok.hd hc) ho dl ir hd (by rw[m1];simp) (by rw[Xa,<-rv.length];exact hz) (λi v hv=>m3 i v (by simpa using hv)) λh' tk dd kp=>(#[.ref s.heap.objs.size,_,I.laid (t':=tk) (λb ob e=>kp b ob (Xe e) e) (X9 _) (xke ?_ (Ya (Zh I.big)) (vqz ps bb [] [] m2 .nil) dd),rfl,q _ (I.hok.fresh (X9 _))])
 rw[X3];have:=qk9 ps []
 grind
theorem vke:∀{ds ps},Vx ds=some ps->ds=ps.map λp=>D.tup [.int p.1,.int p.2]
 | [],ps,h=>by cases oq9 h;rfl
 | .tup [.int a,.int b]::r,ps,h=>by
  have h:(Vx r).map _=some ps:=h;cases hr:Vx r with
  |none=>grind
  |some q=>
   rw[hr]at h;cases oq9 h;rw[List.map_cons,<-vke hr]
theorem vkd : ∀ps,Vx (ps.map λp=>D.tup [.int p.1,.int p.2]) = some ps
  | []=>rfl
  | (a,b)::r=>by
    show(Vx _).map _ = _;rw[vkd r]; rfl
theorem vzk{K}:Ad1 K (λv H Q=>vk2 K [v] H Q) kwp:=by
 intro H x s Q ok hf k;unfold kwp at hf;cases hx:x.d with
 | lst ds=>
  rw [show(x.o,x.d).2=D.lst ds from hx]at hf;dsimp only at hf;cases hp:Vx ds with
  | none=>rw[hp]at hf;cases hf
  | some ps=>
   rw[hp]at hf;dsimp only at hf
   by_cases hl:ps.length<big
   ·rw[Xd hl]at hf;cases oq9 hf;have e:=vke hp;subst e;obtain⟨a,xs,bs,ev,q1,ra⟩:=items ok (.inl hx);have hq:SqL K H a xs:=by
     rcases q1 with⟨_,z⟩|⟨z,_⟩
     ·exact z.sq
     ·grind
    refine#[a,xs,ps,by rw[ev],hq,by rw[<-ra.1.len,X3],λi hi=>?_,hl,λl hl'=>k #[.rt,V6 _,.ref l,[l]] _ rfl rfl #[xw hl',#[l,_,[],rfl,wv5 _,.inr #[(ps.foldl (λkv p=>vJ kv p.1 p.2) []).map λp=>(p.1,V.int p.2),"",by rw[xK,Xr];rfl,by rw[List.map_cons,Xr,Xr];rfl,by rw[Xr];rfl],rfl],λb hb=>?_,by simp[Sl.own],λb hb=>?_]]
    ·obtain⟨v,cs,g1,g2,_⟩:=RepA.get ra.1 (by rw[X8,X1 hi];rfl);obtain⟨T,ys,e1,e2,e3⟩:=g2;refine#[T,by rw[g1,e1],?_];obtain⟨y1,r1,_,_,rfl,_,f1,f2⟩:=e3;obtain⟨y2,r2,_,_,rfl,_,f3,f4⟩:=f2;obtain⟨rfl,_⟩:=f4;rw[f1.1,f3.1]at e2;exact e2
    ·have:b=l:=by simpa [Sl.own]using hb
     exact this▸hl'
    ·simp[Sl.frz]at hb
   ·rw[Xg hl]at hf;cases hf
 |_=>rw[show(x.o,x.d).2=_ from hx]at hf;cases hf
theorem vvq{X} K (hK:autoParam (X.K=K) Ŕ)(hc:autoParam (X.calm=true) Ŕ):CallR X (.type "dict") (vk2 K):=by subst hK;exact qzi hc
theorem xva{X Z q}:QA X Z q [] []:=Wj x6 fun σ H Q ao=>ex8 ao λE L r m w hc xc k=>by
 cases oq9 hc;exact k _ _ rfl [] L H rfl m w Step.refl λ_=>#[λ_ _ z=>z,λ_ z=>(nomatch z)]
theorem wz0{X Z q c o e z apos ai}(ho:PE X o (tC (.str z)))(hc:QV X Z q c e)(hK:autoParam (X.K=Z.K) Ŕ)
  (cu:autoParam (attributeBase o "join" X.env (eval o X.env)=eval o X.env) Ŕ)
  (gl:autoParam (((backTo ai (starEach [e] X.env)).all (λx=>!x.1)&&(backToKw ai (keywordEach [] X.env)).all (λx=>x.1.isSome)
   && decide ([e].length+([]:List Keyword).length+(if([]:List Keyword).isEmpty then 0 else 1)<30))=true) Ŕ)
  (cp:autoParam ((apos.endLine==ai.line)=true) Ŕ) (hs:autoParam (starEach [e] X.env=(false,eval e X.env)::starEach [] X.env) Ŕ) (bi:autoParam ((backTo ai (starEach [] X.env)).any (·.1)=false) Ŕ):
  QE X Z q (vzg z c) (.Call (.Attribute o "join" apos) [e] [] ai):=
 qV (wzr PySem.F.plainAttrs_str PySem.F.slot_str_join PySem.F.type_str_join wv4 ho (ww hc x6 hs) cu gl cp hs bi) fun σ H Q ao=>ex8 ao λE L r m w ip xc k=>by
  refine#[?_,?_]
  ·rfl
  ·refine vk m w (ip) xc λE1 s h1 x L1 H1 e1 e2 m1 w1 ok fr sr st sm=>?_
   obtain⟨y,hz,rfl⟩:=zQ h1;unfold vv3 at hz;cases hx:s.2 with
   | lst ds=>
    rw [hx]at hz;dsimp only at hz;cases hp:Kq ds with
    | none=>rw[hp]at hz;cases hz
    | some ys=>
     rw[hp]at hz;dsimp only at hz
     by_cases hl:(ys.map (·.length)).sum+ys.length*z.length<=100000
     ·rw[Xd hl]at hz;cases oq9 hz;obtain⟨a,xs,bs,ev,q1,ra⟩:=items ok (.inl (e2▸hx));have hq:SqL Z.K H1 a xs:=by
       rcases q1 with⟨_,t⟩|⟨t,_⟩
       ·exact t.sq
       ·grind
      have ex:=(kx3 hp ra.1).1;subst ex;have ak:(Txt.join z ys).length<=sizeLine:=joinOk_length (joinOk_of ⋯);exact#[z,a,ys,rfl,by rw[ev],by rw[hK];exact hq,⋯,(k _ _ rfl _ L1 H1 rfl rfl m1 (w1.consPu (x:=#[.dp,.str _,.str _,[]]) (show RepL Z.K H1 false _ _ []from Kz ak) rfl) (Jw st (λb hb=>nomatch hb) rfl) λhq=>#[sm hq,λ_ t=>(nomatch t)])]
     ·rw[Xg hl]at hz;cases hz
   |_=>rw[hx]at hz;cases hz
end Q
namespace PySem
section
variable {prog:Program}{w:World}{A:Around}{E:VP9}{s:Shared}
theorem vv7(hh:A.handled=none)(it t)(ck:t≠it)(items):Draws prog w A it [it,t] items.size (λi v=>items[i]?=some v) (λi h=>h.IsTupleIter it t i/\h.IsTuple t items) where
 live:=λ_ _ st=>let ⟨o,ho,_⟩:=st.1;#[o,ho]
 frame:=λ_ _ _ st hk=>by
  obtain⟨⟨o,ho,r⟩,o2,ko,r2⟩:=st;exact#[#[o,hk it (by simp) o ho,r],o2,hk t (by simp) o2 ko,r2]
 item:=λi s Q E hi st hQ=>by
  obtain⟨ia,ht⟩:=st;obtain⟨o,ho,hc,hd⟩:=id ia;obtain⟨o2,ko,qy,n2,ij⟩:=id ht;have hx:items[i]?=some items[i]:=by simp[hi]
  refine X0 (Y6 (name:=Str.ofString "__next__") ia.typeIs F.slot_tuple_iterator_next (Y1 F.slot_tuple_iterator_next ia.typeIs F.entry_tuple_iterator_next ?_ (F.args_tuple_iterator_next_1 _)));show wpAny _ _ (field (.ref it) 0 >>= _) _ _ s;refine X0 (Yx ho hd (x:=.ref t) rfl (X0 (Yx ho hd (x:=.int i 0) rfl (X0 (wpAny_seqItems ko ij ?_)))));simp only[Xp,hx];refine X0 (Yl ho hd (by simp) (X4 #[items[i],rfl,X4 (hQ _ _ s.toks hx #[#[_,Y3 _ ho (Yz (Yq hd _)),(Obj.cls_mapFields ..).trans hc,by rw[Yq hd];simp[rawInt]],o2,(Z7 _ _ (Ne.symm ck)).trans ko,qy,n2,ij] (Y0 ..))]))
 done:=λs Q E st hE=>by
  obtain⟨ia,ht⟩:=st;obtain⟨o,ho,hc,hd⟩:=id ia;obtain⟨o2,ko,qy,n2,ij⟩:=id ht;have hx:items[items.size]?=none:=by simp
  refine X0 (Y6 (name:=Str.ofString "__next__") ia.typeIs F.slot_tuple_iterator_next (Y1 F.slot_tuple_iterator_next ia.typeIs F.entry_tuple_iterator_next ?_ (F.args_tuple_iterator_next_1 _)));show wpAny _ _ (field (.ref it) 0 >>= _) _ _ s;refine X0 (Yx ho hd (x:=.ref t) rfl ?_);rw[Xg (show ¬((Value.ref t==Value.none)=true)from Bool.false_ne_true)];show wpAny _ _ (field (.ref it) 1 >>= _) _ _ s;refine X0 (Yx ho hd (x:=.int items.size 0) rfl ?_);show wpAny _ _ (seqItems? (.ref t) >>= _) _ _ s;refine X0 (wpAny_seqItems ko ij ?_);simp only[Xp,hx];refine X0 (Z9 (X0 (Yl ho hd (by simp) ?_)));show wpAny _ _ (newExc (.type "StopIteration") [] >>= _) _ _ _;refine X0 ?_;simp only[newExc,newTuple];refine X0 (Y4 (X0 (m:=firstArgMember _ _) (wpAny_of_eq (a:=Value.none) (by first|rfl|(simp only[firstArgMember];rfl)) (Y4 ?_ (by size_fits)))) (by size_fits));simp only[raiseNew];refine X0 (wpAny_handled ?_)
  first|rw[show A.in1.handled=none from hh]|rw[hh]
  exact X0 (X4 (wpAny_throw (hE _ _ (((Y0 ..).extBut.push _).push _) #[_,X7 _ rfl,rfl])))
theorem wvy(t)(items)(n:Nat)(dct:Option Addr)(sl:Array (Option Value)):
  Meets (Builtin.«enumerate.__new__» #[[.type "enumerate",.ref t],[]]) (λ_ R s=>s.heap.get? t=some {cls:=.type "tuple",dict:=dct,data:=.seq items n,slots:=sl} /\
   R (.ok (.ret (.ref (s.heap.push {cls:=.type "tuple_iterator",data:=.fields (List.toArray [.ref t,.int 0 0])}).objs.size)))
    {s with heap:=(s.heap.push {cls:=.type "tuple_iterator",data:=.fields (List.toArray [.ref t,.int 0 0])}).push {cls:=.type "enumerate",data:=.fields (List.toArray [.none,.bool false,.ref s.heap.objs.size,rawInt 0,.none,.none])}}):=
 .of_wp λprog w A R s h=>by
  obtain⟨hp,g,d,tk,os⟩:=s;obtain⟨hl,h⟩:=h;have gb:=sub_enumerate;have hL:Heap.IsTuple (Shared.heap #[hp,g,d,tk,os]) t items:=#[_,hl,rfl,n,rfl]
  wp_walk using AutoSeq1.wpAny_loadPart' hl
  refine wpAny_stack_any λst=>X4 ?_
  split
  ·rename_i c _ _ _ _ _;cases(c==Value.type "enumerate") <;>
   ·wp_walk using AutoSeq1.wpAny_loadPart' hl,wpAny_pyIter_tuple hL
    exact#[_,rfl,h]
  ·wp_walk using AutoSeq1.wpAny_loadPart' hl,wpAny_pyIter_tuple hL
   exact#[_,rfl,h]
theorem vz5{t items Q}(hL:s.heap.IsTuple t items)
  (h:∀h',IsEnum h' (s.heap.objs.size+1) s.heap.objs.size 0 .none->h'.IsTupleIter s.heap.objs.size t 0->h'.objs.size=s.heap.objs.size+2 ->
   (∀b o,s.heap.get? b=some o->h'.get? b=some o)->Q (.ref (s.heap.objs.size+1)) {s with heap:=h' }):
  wpAny (model prog w) A (call (.type "enumerate") [.ref t]) Q E s:=by
 obtain⟨⟨c,dct,dt,sl⟩,hl,hc,n,hd⟩:=hL;subst hc hd;refine callType_new F.called_enumerate ⋯ (F.typeCall_enumerate_1 _) (F.newCall_enumerate_1 _) (λobj=>F.args_object_init_2 obj _) F.entry_enumerate_new (wvy t items n dct sl) #[hl,?_];have hz:(s.heap.push {cls:=.type "tuple_iterator",data:=.fields (List.toArray [.ref t,.int 0 0])}).objs.size=s.heap.objs.size+1:=Z8 ..;rw[hz];have he:IsEnum ((s.heap.push {cls:=.type "tuple_iterator",data:=.fields (List.toArray [.ref t,.int 0 0])}).push {cls:=.type "enumerate",data:=.fields (List.toArray [.none,.bool false,.ref s.heap.objs.size,rawInt 0,.none,.none])}) (s.heap.objs.size+1) s.heap.objs.size 0 .none:=by
  have:=X7 (s.heap.push {cls:=.type "tuple_iterator",data:=.fields (List.toArray [.ref t,.int 0 0])}) (o:={cls:=.type "enumerate",data:=.fields (List.toArray [.none,.bool false,.ref s.heap.objs.size,rawInt 0,.none,.none])}) rfl;rw[hz]at this;exact this
 exact#[#[_,he,rfl],h _ he #[_,X5 _ (X7 _ rfl),rfl,rfl] (by rw[Z8,hz]) λb o x=>X5 _ (X5 _ x)]
end
end PySem
namespace Q
open PySem PySem.Spec PyProof.Rows L2 L3
abbrev ItT(K:Frag)(l:Addr):It:=ItE (SqT K · l)
theorem vwc{P w K f7 k1 pos e it l}(n1:e≠it)(n2:l≠e)(n3:l≠it):Turn P w K (.Tuple f7 k1 pos) (ItT K l) [e,it] e (λi h=>(∃fm,IsEnum h e it i fm)/\h.IsTupleIter it l i):=
 vj9 (K:=K) (IS:=λh af=>h.IsTuple l af) n1 n2 (λA hh af=>vv7 hh it l n3 af) λX a8 s σ H hK I xs q=>by
  subst hK;obtain⟨af,rv,p,_⟩:=I.tuple q;exact#[#[af,rv,p],λzs hz=>I.tuple_inj hz q]
abbrev iEnT(K:Frag)(ta:TA):TI:=fun σ H R=>ta σ H λvs H1=>∃l,vs=[.ref l]/\(∃xs,SqT K H1 l xs/\(xs.length<=sizeLine->R (ItT K l) H1))
section
variable {X:Cx}{Z:Fx0}{K:Frag}{pn:List Nat}{q:Bool}{c:Ex}{e:Expr}{σ:L2.St}{H:Hp}{L:Ls}{E:En}{pos p iw:Pos}{f7:List Expr}{k1:Nat}
theorem wzh K {ta}(hg:Gl X "enumerate")(hm:X.mg "enumerate"=none)(ha:PA X [e] ta)(hK:autoParam (X.K=K) Ŕ)
  (hs:autoParam (starEach [e] X.env=[(false,eval e X.env)]) Ŕ):PI X (.Tuple f7 k1 iw) (.Call (.Name "enumerate" p) [e] [] pos) (iEnT K ta):=by
 subst hK;intro a8 s σ H R I h;refine Call_ (K3 I hg hm kke (Y8 (thn (ha pos a8 s σ H _ I h) λus s1 #[vs,H1,I1,r1,q1]=>?_) (by rw[hs];rfl) rfl));obtain⟨l,rfl,xs,q1,q⟩:=q1;obtain⟨u1,rfl,e1⟩:=zJ r1;cases e1;obtain⟨jh,uu,p1,qr⟩:=I1.tuple q1;have lt:l<s1.heap.objs.size:=by obtain⟨_,ee,_⟩:=p1;exact Xe ee
 refine vz5 p1 λh' g1 g2 gs gk=>?_
 refine wpAny_pyIter_enum g1 #[_,[_,s1.heap.objs.size],_,_,H1,rfl,I1.kept (t':=s1.toks) gk,
  vwc (Nat.succ_ne_self _) (Xi (Yv lt)) (Xi lt),#[#[_,g1],g2],λb hb=>?_,q qr]
 have i8:s1.heap.objs.size<=b:=by
  simp at hb;rcases hb with rfl|rfl<;>lia
 exact I1.fpOk i8 (I1.hok.fresh i8)
theorem vk7(h:QE X Z q c e)(hg:Gl X "enumerate")(hm:X.mg "enumerate"=none)(hK:autoParam (X.K=Z.K) Ŕ)(hs:autoParam (starEach [e] X.env=[(false,eval e X.env)]) Ŕ):QI X Z q (.Tuple f7 k1 iw) (vql c) (.Call (.Name "enumerate" p) [e] [] pos):=λa8 s σ H R I ao=>ex8 ao λE L r m w hc xc k=>by
 refine(wzh Z.K hg hm (ww h x6 hs) hK hs) a8 s σ H R I (VY m w (show bnd (c E) _=some r from hc) xc λE1 s h1 x L1 H1 e1 e2 m1 w1 st sm=>?_);obtain⟨ds,hd,rfl⟩:=zQ h1;obtain⟨wT,sT⟩:=kwz w1 st;cases hx:x.d with
 |tup es=>
  rw[<-e2,hx]at hd;cases oq9 hd;obtain⟨a,_,_,ev,_⟩:=items w1.head (.inr hx);have ag:=kzt (K:=Z.K) hx ev;obtain⟨xs,bs,q3,r3,_⟩:=ag H1 (K4 w1.head);exact#[a,by rw[ev],xs,q3,λak=>k _ _ rfl (ItT Z.K a) [x.let] L1 H1 m1 wT sT (by rw[jxj,r3.len];exact ak) (λhq=>(sm hq).1) (qzz ag)]
 |_=>rw[<-e2,hx]at hd;cases hd
end
theorem qja:∀{ds} {i:Nat} {d},D.pures ds=true->ds[i]?=some d->d.pure=true
 |[],_,_,_,h=>by simp at h
 |a::ds,0,d,h,e=>by
  have e:a=d:=by simpa using e
  subst e;unfold D.pures at h;rw[Bool.and_eq_true]at h;exact h.1
 |a::ds,i+1,d,h,e=>by
  unfold D.pures at h;rw[Bool.and_eq_true]at h;exact qja h.2 (by simpa using e)
theorem xv5{X Z tg e i}(h:PE X e (K0 i))(hK:autoParam (X.K=Z.K) Ŕ):QIS X Z true tg (itV i) e:=λa8 s σ H R I ao=>ex8 ao λE L r m w hc xc k=>by
 refine(hK▸wj3 h) a8 s σ H R I ?_;unfold itV at hc;cases hE:E[i]? with
 | none=>rw[hE]at hc;cases hc
 | some s0=>
  cases s0 with
  | none=>rw[hE]at hc;cases hc
  | some s0=>
   obtain⟨oo,dd⟩:=s0;rw [hE]at hc;cases dd with
   | lst ds=>
    dsimp only at hc
    by_cases hp:D.pures ds=true
    ·rw[Xd hp]at hc;cases oq9 hc;obtain⟨x,a1,a2,a3,a4⟩:=m.get hE;have mn:=w.ok x (vX a1);obtain⟨a,xs,bs,ev,q3,r3,h3,_⟩:=items mn (.inl a3);have q3:LsR Z.K H a xs:=by rcases q3 with⟨_,z⟩|⟨z,_⟩;exact z;rw[a3]at z;cases z
     have again:∀H2,kX H H2->∃g ys cs,SqL Z.K H2 a ys/\RepA Z.K H2 g ds ys cs:=λH2 hs=>by
      obtain⟨a',ys,cs,ub,q4,r4,h4,_⟩:=items (RepO.kp mn (Kp.of_same hs):x.ok Z.K H2) (.inl a3);have:a'=a:=by have:=ub.symm.trans ev;exact V.ref.inj this
      subst this;rcases q4 with⟨_,z⟩|⟨z,_⟩
      ·exact#[_,ys,cs,z.sq,r4]
      ·grind
     refine#[x.v,a4,.inl #[a,xs,ev,q3.sq,λak=>k _ _ rfl _ [] L H m (by rw[List.map_nil,Xw];exact w) (by rw[List.map_nil,Xw];exact Step.refl) (r3.len▸ak) (λ_=>zK) #[λt ht=>(nomatch ht),λj H2 _ hs hj=>?_,λH2 _ hs=>?_,λj H2 v H3 d _ hs hy kg=>?_]]]
     ·obtain⟨g,ys,cs,s1,s2⟩:=again H2 (hs rfl);have hl:=s2.len;exact#[ys,ys[j]'_,s1,X1 ⋯]
     ·obtain⟨g,ys,cs,s1,s2⟩:=again H2 (hs rfl);exact#[ys,s1,by rw[s2.len];exact X9 _]
     ·obtain⟨g,ys,cs,s1,s2⟩:=again H2 (hs rfl);obtain⟨e3,hy⟩:=hy;subst e3;obtain⟨v',lj,f1,f2,f3⟩:=s2.get kg;have:v'=v:=by have:=hy ys s1;rw[f1]at this;exact oq9 this
      subst this;exact#[#[.no,d,v',[]],rfl,rfl,rfl,zK,(RepL.pu (g':=true) f2 (qja hp kg)).2,λb hb=>(nomatch hb)]
    ·rw[Xg hp]at hc;cases hc
   |_=>cases hc
end Q
namespace PySem
section
variable {prog:Program}{w:World}{K:Type}[DecidableEq K]{knd:HeapKind prog w K}{A:Around}{E:VP9}{s:Shared}
theorem jvo{d a:Addr}{xs:List (K×Addr×Value)}{k:K}{v:Value}{Q:VP9}(hu:knd.room A)(fz:knd.is s.heap k a)(hm:s.heap.DictOfH knd d xs)
  (h1:∀p,atKey xs k=some p->Q p.2 {s with toks:=s.toks+knd.draws k})
  (h2:atKey xs k=none->∀h',h'.DictOfH knd d (storedH xs k a v)->Heap.SameBut d s.heap h'->Q v {s with heap:=h',toks:=s.toks+knd.draws k})
  (hsz:xs.length<=sizeLine:=by size_fits):
  wpAny (model prog w) A (dictSetDefault d (.ref a) v) Q E s:=by
 obtain⟨o,es,ep,ho,hc,hd,he,his,hn⟩:=hm;unfold dictSetDefault
 try with_reducible refine Y9 ?_
 refine X0 (knd.pyHash hu fz ?_);refine X0 (wpAny_dictFind_heap (s:={s with toks:=s.toks+knd.draws k}) hu fz ho hd he his hn ?_ ?_)
 ·intro il;have hnot:k∉xs.map (·.1):=not_mem_keys_of_get il;refine X0 (Z9 (X0 (wpAny_updateDictKeys (hz:=by have e:=size_of_entries he;lia) (s:={s with toks:=s.toks+knd.draws k}) ho hd (X4 (h2 (atKey_none_of_get il) _ #[_,_,ep+1,Y3 _ ho (Obj.isFreed_of_dict (Obj.data_mapDictKeys hd _)),
   hc.mapDictKeys _,Obj.data_mapDictKeys hd _,?_,?_,?_] (Y0 ..))))))
  ·rw[storedH_new (atKey_none_of_get il)];simp[he,entryOfKey]
  ·rw[storedH_new (atKey_none_of_get il)];intro x hx;rcases aA hx with hx|hx
   ·exact knd.keeps (his x hx) ho hd (Y0 ..)
   ·simp only[List.mem_singleton]at hx;subst hx;exact knd.keeps fz ho hd (Y0 ..)
  ·rw[storedH_new (atKey_none_of_get il)];rw[Xh,Xb];refine#[hn,by simp,?_];intro x hx y hy;simp only[List.map_cons,List.map_nil,List.mem_singleton]at hy;subst hy;exact λe=>hnot (e▸hx)
 ·intro j p hj;refine X0 (wpAny_dictEntries (s:={s with toks:=s.toks+knd.draws k}) ho hd ?_);rw[entry_at he j,hj];exact X0 (Z9 (X4 (h1 _ (atKey_of_get hn hj))))
theorem jwz(knd:HeapKind prog w K)(d a:Addr)(hd:(d==sysModules)=false)(lq:Value):
  MeetsIn prog w (Builtin.«dict.setdefault» #[[.ref d,.ref a,lq],[]]) (λA R s=>knd.room A.in1/\∃k xs,knd.is s.heap k a/\s.heap.DictOfH knd d xs/\xs.length<=sizeLine /\
   (∀p,atKey xs k=some p->R (.ok (.ret p.2)) {s with toks:=s.toks+knd.draws k}) /\
   (atKey xs k=none->∀h',h'.DictOfH knd d (storedH xs k a lq)->Heap.SameBut d s.heap h'->R (.ok (.ret lq)) {s with heap:=h',toks:=s.toks+knd.draws k})):=
 .of_wp λA R s #[hu,k,xs,fz,hm,hz,h1,h2]=>by
  unfold Builtin.«dict.setdefault»;refine X0 ?_;unfold Builtin.Dict.keyAndDefault;refine X0 (wpAny_notOrdered_dict hm.typeIs ?_);show wpAny _ _ (pure (d,Value.ref a,some lq)) _ _ s;refine X4 ?_;show wpAny _ _ (if(d==sysModules)=true then _ else(dictSetDefault d (.ref a) lq >>= _)) _ _ s;rw[Xg (by rw[hd];exact Bool.false_ne_true)];exact X0 (jvo (hsz:=hz) hu fz hm (λp hp=>X4 #[p.2,rfl,h1 p hp]) λhn h' hm' jc=>X4 #[lq,rfl,h2 hn h' hm' jc])
end
end PySem
namespace Q
open PySem PySem.Spec PyProof.Rows L2 L3
section
variable {X:Cx}{Z:Fx0}{pn:List Nat}{q:Bool}{c:Ex}{e ep:Expr}{i:Nat}{p:List Nat}{pos:Pos}
theorem wxf{K H}{x:Sl}(ok:x.ok K H)(h:x.d.pure=true):RepL K H false x.d x.v []:=(RepL.pu (g':=false) (RepO.wk ok) h).2
end
end Q
namespace PySem
section
variable {prog:Program}{w:World}{A:Around}{E:VP9}{s:Shared}
def vw2(h:Heap)(d:Addr)(n:Nat):Prop:=∃o es ep,h.get? d=some o/\o.cls=.type "dict"/\o.data=.dict es ep/\es.size=n
theorem kqv(d)(hd:(d==sysModules)=false):
  MeetsIn prog w (Builtin.«dict.__len__» #[[.ref d],[]]) (λ_ R s=>∃n,vw2 s.heap d n/\R (.ok (.ret (.int n s.toks))) {s with toks:=s.toks+1}):=
 .of_wp λA R s #[n,#[o,es,ep,ho,hc,ir,hz],h]=>by
  show wpAny _ _ (dictSize d >>= _) _ _ s;refine X0 (X0 (wpAny_dictEntries ho ir (X4 (X0 (wpAny_pendingCount_other hd (wpAny_ret_mkInt ?_))))));rw[hz];exact h
theorem kw5{d n}{Q:VP9}(hd:(d==sysModules)=false)(hm:vw2 s.heap d n)(nk:(n:Int)<2 ^ 63)
  (h:Q (.int n (s.toks+1)) {s with toks:=s.toks+1+1}):wpAny (model prog w) A (Builtin.«len» #[[.ref d],[]]) (λfin s'=>∃r,fin=.done (.ret r)/\Q r s') E s:=by
 have ht:s.TypeIs (.ref d) "dict":=by obtain⟨o,es,ep,ho,hc,_⟩:=hm;exact#[o,ho,hc]
 refine X0 (m:=callSpecial? _ _) (Y6 ht F.slot_dict_len
  (call_meetsIn F.slot_dict_len ht F.entry_dict_len (F.args_dict_len_1 _) (kqv d hd) #[n,hm,?_]))
 show wpAny _ _ (if _>=2 ^ 63 then _ else _) _ _ _;rw[Xg ⋯];exact X0 (wpAny_mkInt (X4 #[_,rfl,h]))
theorem kwa{d n Q}(hd:(d==sysModules)=false)(hm:vw2 s.heap d n)(nk:(n:Int)<2 ^ 63)
  (h:Q (.int n (s.toks+1)) {s with toks:=s.toks+1+1}):wpAny (model prog w) A (call (.builtin "len") [.ref d]) Q E s:=
 Calls.call_function_entry kind_len plain_len entry_len (args_len1 _) (kw5 hd hm nk h)
end
end PySem
namespace Q
open PySem PySem.Spec PyProof.Rows L2 L3
def wxn(K:Frag):List V->Hp->VK->Prop:=λxs H Q=>∃a ks vs,xs=[.ref a]/\DcN K H a ks vs/\Q (.int ks.length) H
theorem kva{X} K:CallR X (.builtin "len") (wxn K):=by
 intro a8 s σ H xs us Q I r ⟨a,ks,vs,e,⟨es,ep,hH,hs,hl,_,hk,_⟩,q⟩;subst e;cases r with
 | cons r1 r2=>
  cases r2;cases r1;obtain⟨ob,io,g1,g2,g3,g4⟩:=ww4 I hH;have ak:ks.length=io.size:=by
   have:=congrArg List.length g4;rw[X3]at this;rw[hk,X3];exact this.symm
  have hz:es.length=ks.length:=by rw[hk,X3]
  exact kwa hs #[ob,io,ep,g1,g2.1,g3,ak.symm] (by rw[sizeLine_eq]at hl;lia) #[.int ks.length,H,I.tok _,#[_,rfl],q]
theorem qvh{K}:Ad1 K (λv H Q=>wxn K [v] H Q) (pu1 XZ):=by
 intro H x s Q ok hf k;have hf:(XZ x.d).map _=some s:=hf;cases hd:x.d with
 | dct kvs=>
  rw[hd]at hf;unfold XZ at hf;dsimp only at hf
  by_cases hu:unm kvs=true
  ·rw[Xd hu]at hf;cases oq9 hf;obtain⟨a,xs,e,dn⟩:=wjy ok hd hu;refine#[a,kvs.map _,xs,by rw[e],dn,?_];rw[X3];exact k _ H rfl rfl (kq4 (λ_ _ h=>h) vx)
  ·rw[Xg hu]at hf;cases hf
 |_=>rw[hd]at hf;cases hf
section
variable {X:Cx}{a8:LA9}{σ:L2.St}{H:Hp}{s:Shared}{a b:Addr}{es:List Ent}{A:Around}{E:VP9}{k:Kd}{r:Value}
theorem vz9{ep Q}(hu:A.units+64<cLine)(I:Inv X a8 σ H s)(e:H a=some (qX a es ep))(hs:(a==sysModules)=false)(h2:es.length<=sizeLine)(h3:(es.map (·.1)).Nodup)(h5:∀x∈es,PuR X.K H x.1.1 (.ref x.2.1))(hk:PuR X.K H k.1 (.ref b))
  (h1:∀p,atKey es k=some p->∀s',Inv X a8 σ H s'->Q p.2 s') (h4:atKey es k=none->∀ep' s',Inv X a8 σ (upd H a (qX a (storedH es k b r) ep')) s'->Q r s'):
  wpAny (model X.prog X.w) A (call (.builtin "dict.setdefault") [.ref a,.ref b,r]) Q E s:=by
 have dd:=wjv I e h3 h5;refine call_meetsIn PySem.F.slot_dict_setdefault dd.typeIs PySem.F.entry_dict_setdefault (PySem.F.args_dict_setdefault_3 _ _ _) (jwz _ a b hs r) #[?_,k,es,kq1 I hk rfl,dd,h2,λp hp=>h1 p hp _ (I.tok _),λhn h' dd' so=>?_]
 ·exact wku hu
 ·obtain⟨q,ds,ep',hq,g2,g3,g4,_,_⟩:=dd';exact h4 hn ep' _ (vv9 I (e▸True.intro) so #[q,hq] #[#[q,ds,hq,g2,g3,g4],#[q,hq],λh1 h2 #[o,ds,a1,a2] k=>#[o,ds,k o a1,a2]])
end
abbrev vwf(K:Frag)(td ty tx:TE):TE:=fun σ H Q=>td σ H λx H1=>∃a,x=.ref a/\(∃es ep,H1 a=some (qX a es ep))/\ty σ H1 λy H2=>tx σ H2 λz H3=>∃b k es ep,y=.ref b/\H3 a=some (qX a es ep)/\(a==sysModules)=false/\es.length<=sizeLine/\(es.map (·.1)).Nodup/\(∀x∈es,PuR K H3 x.1.1 (.ref x.2.1))/\PuR K H3 k.1 (.ref b) /\
 (∀p,atKey es k=some p->∃v,RelV v p.2/\Q v H3)/\(atKey es k=none->∀r ep',RelV z r->Q z (upd H3 a (qX a (storedH es k b r) ep')))
section
variable {X:Cx}{o e f:Expr}{apos ai:Pos}{td ty tx:TE}
theorem qxp(hu:X.A.units+64<cLine)(ho:PE X o td)(he:PE X e ty)(hf:PE X f tx)(m:M2 X o "setdefault" apos e f ai):PE X (.Call (.Attribute o "setdefault" apos) [e,f] [] ai) (vwf X.K td ty tx):=by
 intro a8 s σ H Q I h;refine wpAny_Call_method m.base m.few m.line PySem.F.plainAttrs_dict PySem.F.slot_dict_setdefault PySem.F.type_dict_setdefault (thn (ho a8 s σ H _ I h) λu s1 #[x,H1,I1,rx,a,ex,#[es0,ep0,d],q1]=>?_);subst ex;obtain rfl:u=Value.ref a:=rx;obtain⟨ob,io,g1,g2,g3,g4⟩:=ww4 I1 d;refine#[#[ob,g1,g2.1],λb z=>by cases z;exact#[ob,g1,g2.2.1],?_];rw[m.trees];refine Calls.callWith_builtin rfl (Calls.evalArgs_plain (Calls.spliced_cons (thn (he a8 s1 σ H1 _ I1 q1) λiv s2 #[y,H2,I2,ry,q2]=>
  Calls.spliced_cons (thn (hf a8 s2 σ H2 _ I2 q2) λfv s3 #[z,H3,I3,rz,b,k,es,ep,ey,ea,hs,hl,hn,h5,hk,q4,q5]=>Calls.spliced_nil ?_))))
 subst ey;obtain rfl:iv=Value.ref b:=ry;exact vz9 hu I3 ea hs hl hn h5 hk (λp hp s4 I4=>by obtain⟨v,rv,q3⟩:=q4 p hp;exact#[v,H3,I4,rv,q3]) λck ep' s4 I4=>#[z,_,I4,rz,q5 ck fv ep' rz]
end
theorem vqu {K H k}: ∀{kvs xs bs} {es : List Ent},RepP K H true kvs xs bs -> kvs.map (·.1) = es.map (·.1.1) -> Vals xs (es.map (·.2.2)) -> D.pures (kvs.map (·.2)) = true ->
    (∀ p,atKey es k = some p -> ∃d v,z3 kvs k.1 = some d /\ RelV v p.2 /\ RepL K H false d v [] /\ d.pure = true) /\ (atKey es k = none -> z3 kvs k.1 = none)
  | [],_,_,[],_,_,_,_=>#[λp h=>(by cases h),λ_=>rfl]| [],_,_,_::_,_,h,_,_=>by cases h| _ :: _,_,_,[],_,h,_,_=>by cases h
  | (q,d)::kvs,xs,bs,e::es,hr,hk,hv,hp=>by
    obtain⟨x,r,b1,c1,rfl,_,h1,h2⟩:= hr;injection hk with k1 k2;rw [List.map_cons]at hv hp;cases hv with
    | cons v1 v2=>
      unfold D.pures at hp;rw [Bool.and_eq_true]at hp;have k1 : q = e.1.1:= k1
      by_cases he : e.1 = k
      · have hq : q = k.1:= by rw[k1,he]
        have hg : z3 ((q,d)::kvs) k.1 = some d:= by unfold z3; rw[List.find?_cons_of_pos (by simp[hq])]; rfl
        have ha : atKey (e::es) k = some e.2:= by
          obtain⟨ek,ev⟩:= e;have he : ek = k:= he;simp[atKey,he]
        refine#[λp hp'=> ?_,λhn=> ?_]
        · rw[ha]at hp'
          cases oq9 hp';exact#[d,x,hg,v1,(RepL.pu (g':= false) h1 hp.1).2,hp.1]
        · grind
      · have hq : q≠k.1:= λz=>he (Subtype.ext (k1▸z))
        have hg : z3 ((q,d)::kvs) k.1 = z3 kvs k.1:= by unfold z3; rw[List.find?_cons_of_neg (by simp[hq])]
        have ha : atKey (e::es) k = atKey es k:= by
          simp[atKey,he]
        rw[hg,ha];exact(vqu h2 k2 v2 hp.2)
section
variable {X:Cx}{Z:Fx0}{pn:List Nat}{q qa:Bool}{kc vc a b:Ex}{o ke ve ea eb:Expr}{pos ce apos ai:Pos}
theorem wxu{i}(hu:X.A.units+64<cLine)(ho:PE X o (K0 i))(hk:QV X Z true kc ke)(hv:QV X Z true vc ve)(hK:autoParam (X.K=Z.K) Ŕ)(hm:M2 X o "setdefault" apos ke ve ai:=by exact#[rfl,rfl,rfl,rfl]):QE X Z false (vvr i kc vc) (.Call (.Attribute o "setdefault" apos) [ke,ve] [] ai):=
 qV (hK▸qxp hu ho hk hv hm) fun σ H Q ao=>ex8 ao λE L r m w hc xc k=>by
  unfold vvr at hc
  by_cases hD:xq8 E[i]?=true
  rotate_left
  ·rw[Xg hD]at hc;cases hc
  rw[Xd hD]at hc;obtain⟨kvs0,h0,hu0⟩:∃kvs,E[i]?=some (some (.rt,.dct kvs))/\unm kvs=true:=by
   unfold xq8 at hD
   split at hD
   ·rename_i kvs h;exact#[kvs,h,hD]
   ·cases hD
  obtain⟨x0,a1,a2,a3,a4⟩:=m.get h0;obtain⟨l0,xs0,el0,⟨es0,ep0,hH0,_⟩⟩:=wjy (w.ok x0 (vX a1)) a3 hu0;refine#[x0.v,a4,l0,el0,#[es0,ep0,hH0],(vk m w hc xc λE2 s2 h2 y L2 H2 e3 e4 m2 w2 iu qg p8 bu fk=>(vk m2 w2 h2 (xc.step bu) λE3 s3 h3 t L3 H3 e5 e6 m3 w3 tq nz sr3 dj om=>?_))]
  split at h3
  rotate_left
  ·cases h3
  rename_i kvs hE
  split at h3
  rotate_left
  ·grind
  rename_i hcond;obtain⟨fz,ak,hunm,hpv,hps⟩:=hcond;obtain⟨z,b1,b2,b3,b4⟩:=m3.get hE;have hzv:z.v=x0.v:=by rw[a4]at b4;exact(oq9 (oq9 b4)).symm
  have okz:RepR Z.K H3 (.dct kvs) z.v z.as:=by
   have:=w3.ok z (vX b1);unfold Sl.ok at this;rw[b2,b3]at this;exact this
  obtain⟨l,xs,bs,c1,c2,c3,c4⟩:=okz;have t8:l=l0:=by
   have:V.ref l=V.ref l0:=by rw[<-c1,hzv,el0]
   injection this
  subst t8;obtain⟨es,ep,d1,d2,d3,d4,d5,d6,d7⟩:=DcA.un c3 hunm;obtain⟨b,eb,pb⟩:=kwk (RepO.kp iu (Kp.of_same (om rfl))) (e4▸fz);have my:v4 6 y.d=true:=by
   have:JY y.d=true:=by rw[e4];exact fz
   unfold JY at this;rw[Bool.and_eq_true]at this;exact this.1
  obtain⟨g1,g2⟩:=vqu (k:=#[y.d,my]) c2 d5 d7 hps;have hyk:(#[y.d,my]:Kd).1=s2.2:=e4;have i8:es.length<sizeLine:=by
   have:=congrArg List.length d5;rw[X3,X3]at this;rw[<-this];exact ak
  refine#[b,#[y.d,my],es,ep,eb,d1,d2,d3,d4,d6,pb,λp hp=>?_,λhn rr ep' hrr=>?_]
  ·obtain⟨d,v',q1,q2,q3,q4⟩:=g1 p hp;rw[hyk]at q1;rw[q1]at h3;cases oq9 h3;exact#[v',q2,k _ _ rfl #[.dp,d,v',[]] L3 H3 rfl rfl m3 (w3.consPu q3 rfl) (Jw (x:=#[.dp,d,v',[]]) (bu.trans dj) (λb hb=>nomatch hb) rfl) λz=>nomatch z]
  ·have q1:=g2 hn;rw[hyk]at q1;rw[q1]at h3;cases oq9 h3;have hmem:=wk1 es (#[y.d,my]:Kd);rw[hn]at hmem;have hnm:y.d∉es.map (·.1.1):=of_decide_eq_false hmem.symm;rw[storedH_new hn];have rt:RepL Z.K H3 true s3.2 t.v []:=by rw[<-e6];exact(RepL.pu (g':=true) (RepO.wk tq) (e6▸hpv)).2
   have rp:=qj5 (q:=s2.2) rt c2;rw[Xw]at rp;obtain⟨w4,jg⟩:=vk9 (ep':=ep') (T:=[]) (i:=i) (y:=z) (es':=es++[(#[y.d,my],b,rr)]) (xs':=xs++[t.v]) (cs:=bs) (kvs':=kvs++[(s2.2,s3.2)]) (by simpa using w3) b1 d1 b2 c4 c1 rp (λa h=>.inl h) d2 (by rw[Xf,Xx];lia) (by
    rw[Xh,Xb];refine#[d4,List.nodup_cons.mpr #[Yg,Y2],λp hp' q hq e=>?_];have:q=#[y.d,my]:=aC hq;subst this e;obtain⟨n,qt,lu⟩:=aE hp';exact hnm (List.mem_map.mpr #[n,qt,by rw[lu]])) (by rw[Xh,Xh,d5,<-e4];rfl) (λn pi=>by
    rcases aA pi with z|z
    ·exact d6 n z
    ·rw[aC z];exact pb) (Xh▸kzr d7 hrr)
   have ht2:RepL Z.K (upd H3 l (qX l (es++[(#[y.d,my],b,rr)]) ep')) false s3.2 t.v []:=by
    rw[<-e6];refine(wxf tq (e6▸hpv)).kp #[λa zs e=>?_,λa o u e=>?_,λa ha=>nomatch ha]
    ·rw[qQ (λz=>by subst z;rw[d1]at e;cases e)];exact e
    ·rw[qQ (λz=>by subst z;rw[d1]at e;cases e)];exact e
   have mm:=m3.set (x:=#[.rt,.dct (kvs++[(s2.2,s3.2)]),z.v,l::bs]) i;rw[W1 b4]at mm;exact k _ _ rfl #[.dp,s3.2,t.v,[]] _ _ rfl rfl mm (w4.consPu ht2 rfl) (Jw (x:=#[.dp,s3.2,t.v,[]]) ((bu.trans dj).trans (by simpa using jg)) (λb hb=>nomatch hb) rfl) λz=>nomatch z
end
noncomputable def spM(K:Frag)(mg:Str->Option Value)(n:Nat)(f:Fn):Sp:=λvs H Q E=>∃(xs:List Sl) (y:Sl) (r:Res Sd),vs=xs.map Sl.v++[y.v]/\xs.length=n/\World K H ((xs++[y]).map some)/\f ((xs++[y]).map Sl.sd)=some r /\
 (∀E' c,r=.exc E' c->∀C H',mg c=some (.ref C)->Step H ((xs++[y]).map some) H' []->E (.ref C) none H') /\
 ∀E' a,r=.ok E' a->∃sd,E'[n]?=some (some sd)/\∀(x y':Sl) H',x.o=a.1->x.d=a.2->y'.o=sd.1->y'.d=sd.2->y'.v=y.v->World K H' [some x,some y']->Step H ((xs++[y]).map some) H' [some x,some y']->Q x.v H'
theorem vjk{K:Frag}{mg:Str->Option Value}{n:Nat}{f:Fn}{ps:List Str}(hn:ps.length=n+1):∀vs H Q E,spM K mg n f vs H Q E->vs.length=ps.length:=λvs H Q E #[xs,y,r,e,hl,_]=>by rw[e,Xf,X3,hl,hn];rfl
theorem kx1{L:Ls}{x y:Sl}{i:Nat}(h:L[i]?=some (some y)):(sls [some x,some y]).Sublist (sls (some x::L)):=by
 have:y∈sls L:=mem_sls.mpr (vX h);show(x::[y]).Sublist (x::sls L);exact(List.singleton_sublist.mpr this).cons₂ x
theorem vv0{X:Cx}{K:Frag}{mg:Str->Option Value}{N:List Str}{n nn:Nat}{B:Sm}{body:List Stmt}{H:Hp}{vs:List V}{Q:VK}{E:XK}(hN:N.length=nn)(t:QSs X #[K,mg,E] [n] B body)(h:spM K mg n (fn nn B) vs H Q E):
  ∃t,PSs X body t/\t {nx:=λ_ H'=>Q .non H',rt:=Q} (L2.start N vs) H:=by
 refine#[_,t,?_];obtain⟨xs,y,r,rfl,hl,w,hf,hx,hk⟩:=h;unfold fn at hf;rw[X3,Xr]at hf;have m:=kq6 (xs++[y]) (nn - (xs++[y]).length);have e1:L2.start N (xs.map Sl.v++[y.v])=(xs++[y]).map (λx=>some x.v)++List.replicate (nn - (xs++[y]).length) none:=by
  unfold L2.start;rw[show xs.map Sl.v++[y.v]=(xs++[y]).map Sl.v by simp,Xr,X3,hN];rfl
 have hy0:(L2.start N (xs.map Sl.v++[y.v]))[n]?=some (some y.v):=by
  rw[e1,Xn (by simp[hl])];simp[hl]
 have wL:World K H ((xs++[y]).map some++List.replicate (nn - (xs++[y]).length) none):=w.same (by simp);have sL:Step H ((xs++[y]).map some) H ((xs++[y]).map some++List.replicate (nn - (xs++[y]).length) none):=Step.refl.same (List.Perm.refl _) (by simp);have fin:∀{E1:En} {σ':L2.St} {L':Ls} {sd:Sd},E1[n]?=some (some sd)->Pn [n] (L2.start N (xs.map Sl.v++[y.v])) σ'->Mt E1 σ' L'->∃y':Sl,L'[n]?=some (some y')/\y'.o=sd.1/\y'.d=sd.2/\y'.v=y.v:=λhE p m'=>by
  obtain⟨y',a1,a2,a3,a4⟩:=m'.get hE;refine#[y',a1,a2,a3,?_];have:=p n (aB rfl);rw[a4,hy0]at this;exact oq9 (oq9 this)
 cases hB:B ((xs++[y]).map (λx=>some x.sd)++List.replicate (nn - (xs++[y]).length) none)with
 | none=>rw[show(some∘Sl.sd)=(λx:Sl=>some x.sd)from rfl,hB]at hf;cases hf
 | some g=>
  rw[show(some∘Sl.sd)=(λx:Sl=>some x.sd)from rfl,hB]at hf;refine#[_,_,g,e1▸m,wL,hB,?_];cases g with
  |nx E1=>
   cases oq9 hf;intro σ' L' H' p m' w' s';obtain⟨sd,hE,hk⟩:=hk _ _ rfl;obtain⟨y',b1,b2,b3,b4⟩:=fin hE p m';have wx:World K H' (some (#[.dp,.non,.non,[]]:Sl)::L'):=w'.consPu (show RepL K H' false .non .non []from qqa) rfl;have sx:Step H ((xs++[y]).map some) H' (some (#[.dp,.non,.non,[]]:Sl)::L'):=Jw (x:=#[.dp,.non,.non,[]]) (sL.trans s') (λb hb=>(nomatch hb)) rfl;exact hk #[.dp,.non,.non,[]] y' H' rfl rfl b2 b3 b4 (wx.sub (kx1 b1)) (sx.sub (kx1 b1))
  |rt E1 a=>
   cases oq9 hf;intro x σ' L' H' e2 e3 p m' w' s';obtain⟨sd,hE,hk⟩:=hk _ _ rfl;obtain⟨y',b1,b2,b3,b4⟩:=fin hE p m';exact hk x y' H' e2 e3 b2 b3 b4 (w'.sub (kx1 b1)) ((sL.trans s').sub (kx1 b1))
  |xc E1 c=>
   cases oq9 hf;intro C σ' L' H' hm _ m' w' s';exact hx _ _ rfl C H' hm ((sL.trans s').sub (by simp))
  |ct E1=>cases hf|bk E1=>cases hf
noncomputable def tAM(Z:Fx0)(q:Bool)(cs:List Ex)(i:Nat):TA:=fun σ H Q=>∃E L r,Mt E σ L/\World Z.K H L/\vq cs E=some r/\Xc Z σ H L r /\
 ∀E' ys,r=.ok E' ys->∀(xs:List Sl) L' H',xs.map Sl.sd=ys->Mt E' σ L'->World Z.K H' (xs.map some++L')->Step H L H' (xs.map some++L')->(q=true->kX H H'/\∀b∈jv (xs.map some),H b=none)->∃v,σ[i]?=some (some v)/\Q (xs.map Sl.v++[v]) H'
section
variable {X:Cx}{Z:Fx0}{q:Bool}{c:Ex}{cs:List Ex}{e:Expr}{es:List Expr}{pos p:Pos}{x:Str}{ps:List Str}{k n i:Nat}{f:Fn}
theorem xwu(h:PE X e (K0 i))(cn:autoParam (starEach [e] X.env=(false,eval e X.env)::starEach [] X.env) Ŕ):PA X [e] (tAM Z q [] i):=Wj (ww h x6 cn) fun σ H Q ao=>ex8 ao λE L r m w hc xc k=>by
 cases oq9 hc;obtain⟨v,hv,q⟩:=k _ _ rfl [] L H rfl m w Step.refl λ_=>#[λ_ _ z=>z,λ_ z=>(nomatch z)]
 exact#[v,hv,q]
theorem wxy(h:QE X Z q c e)(hs:PA X es (tAM Z q cs i))(cn:autoParam (starEach (e::es) X.env=(false,eval e X.env)::starEach es X.env) Ŕ):PA X (e::es) (tAM Z q (c::cs) i):=
 Wj (ww h hs cn) fun σ H Q ao=>ex8 ao λE L r m w hc xc k=>by
  refine VY m w (show bnd (c E) _=some r from hc) xc λE1 s h1 x L1 H1 e1 e2 m1 w1 st sm=>?_
  have s1:Step H L H1 L1:=st.trans Step.drop;rcases wZ h1 with⟨E2,ys,h2,h3⟩|⟨E2,cc,h2,h3⟩
  ·cases oq9 h3;refine#[E1,L1,_,m1,w1.tail,h2,(λ_ _ z=>by cases z),λE' um z xs L2 H2 e3 m2 w2 bu fk=>?_];injection z with z1 z2;subst z1 z2;obtain⟨w3,dj⟩:=xjy (T:=[some x]) w1 bu w2;refine k _ _ rfl (x::xs) L2 H2 (by rw[List.map_cons,e3];simp[Sl.sd,e1,e2]) m2 w3 (st.trans dj) λhq=>?_
   obtain⟨a1,a2⟩:=sm hq;obtain⟨b1,b2⟩:=fk hq;refine#[qz a1 b1,λb hb=>?_];rw[List.map_cons,v8]at hb;rcases aA hb with z|z
   ·exact a2 b z
   ·exact zX a1 (b2 b z)
  ·exact#[E1,L1,_,m1,w1.tail,h2,(xc.step s1).map h3,λE' s' z=>by cases z]
theorem vwi{L:Ls}{y:Sl}(h:L[i]?=some (some y)):(sls L).Perm (y::sls (L.set i none)):=by
 have:=(kj2 h).filterMap id;exact this
theorem vk8(D:k4 X.prog X.w X.K X.mg X.base k x ps (spM Z.K Z.mg n f))(hr:Room k X.A)(g:z4 X Z.EX)(ha:PA X (e::es) (tAM Z q cs i))(hn:autoParam (cs.length=n) Ŕ)(hg:autoParam (Gl X x) Ŕ)(fq:autoParam ((x==("__debug__":Str))=false) ŕ)
  (he:autoParam (starEach (e::es) X.env=(false,eval e X.env)::starEach es X.env) Ŕ) (bq:autoParam ((backTo pos (starEach es X.env)).any (·.1)=false) Ŕ):
  QE X Z false (qkk f i cs) (.Call (.Name x p) (e::es) [] pos):=qV (vkj D hr g ha hg fq he bq) fun σ H Q ao=>ex8 ao λE L r m w hc xc kk=>by
 rcases wZ (show bnd (vq cs E) _=some r from hc)with⟨E1,ys,h1,h2⟩|⟨E1,cc,h1,h2⟩
 rotate_left
 ·exact#[E,L,_,m,w,h1,xc.map h2,λE' s' z=>by cases z]
 refine#[E,L,_,m,w,h1,(λ_ _ z=>by cases z),λE' um z xs L1 H1 e1 m1 w1 st sm=>?_];injection z with z1 z2;subst z1 z2;have ak:xs.length=n:=by rw[<-hn,<-jw4 h1,<-e1,X3]
 have hyl:ys.length=n:=by rw[<-hn];exact jw4 h1
 split at h2
 rotate_left
 ·cases h2
 rename_i x0 hE;obtain⟨o0,d0⟩:=x0;obtain⟨y,a1,a2,a3,a4⟩:=m1.get hE;refine#[y.v,a4,?_];dsimp only;rw [Xw];obtain⟨wl,sl⟩:=kjt w1;have pm:(sls ((xs.map Sl.let).map some++L1)).Perm (sls ((xs.map Sl.let++[y]).map some++L1.set i none)):=by
  have e2:∀A B:Ls,sls (A++B)=sls A++sls B:=λA B=>List.filterMap_append ..
  rw[Xh,Xk,e2,e2];exact List.Perm.append_left _ (vwi a1)
 have wl2:=wl.same pm;have ng:Step H L H1 ((xs.map Sl.let++[y]).map some++L1.set i none):=(st.trans sl).trans (Step.refl.same (List.Perm.refl _) pm);cases hf:f (letAll ys++[(o0,d0)])with
 | none=>rw[hf]at h2;cases h2
 | some fr=>
  rw[hf]at h2;refine#[xs.map Sl.let,y,fr,by rw[Xr];rfl,by rw[X3];exact ak,wl2.left,?_,λE' c ee C H' hm s'=>?_,λE' a ee=>?_]
  ·rw[Xh,kz2,e1];show f (letAll ys++[(y.o,y.d)])=some fr;rw[a2,a3];exact hf
  ·subst ee;cases oq9 h2;obtain⟨w2,s2⟩:=stay wl2 s' #[λ_ z=>(nomatch z),Y2,λ_ z=>(nomatch z)];exact xc _ _ rfl C _ H' hm (vkx i m1) w2 (ng.trans s2)
  ·subst ee;dsimp only at h2
   split at h2
   rotate_left
   ·cases h2
   rename_i x' hE';cases oq9 h2;rw[hyl]at hE';refine#[x',hE',λx y' H' e2 e3 e4 e5 e6 w' s'=>?_];obtain⟨w2,s2⟩:=stay wl2 s' w';have og:([some x,some y']++L1.set i none).Perm (some y'::(some x::L1.set i none)):=List.Perm.swap ..;have w3:=(w2.perm og).set (i:=i+1);rw[List.set_cons_succ,List.set_set]at w3;have s3:Step H L H' (some x::L1.set i (some y')):=by
    have:=(ng.trans (s2.perm (List.Perm.refl _) og)).trans (Step.set (i:=i+1));rw[List.set_cons_succ,List.set_set]at this;exact this
   have mm:=qjt (i:=i) (x:=y') (s:=x') m1 e4 e5;rw[e6,W1 a4]at mm;exact kk _ _ rfl x _ H' e2 e3 mm w3 s3 λz=>nomatch z
end
abbrev wwz(K:Frag)(UC:Addr)(tb:XK->TS)(ts:TS):TS:=λD σ H=>∃E:XK,tb E D σ H/\∀x Cv H',E Cv none H'->H' x=none->∃C,Cv=.ref C/\PySem.W.exmOne K (.ref C) (.ref UC)=some true/\XCls K C/\ts D σ H'
theorem wqg{X:Cx}{ux:Str}{np mj pos:Pos}{UC:Addr}{st b0:Stmt}{jl:List Stmt}{tb:XK->TS}{ts:TS}(top:J4 X)(hU:X.mg ux=some (.ref UC))(hb:PSX X st tb)
  (hs:∀x,PSs (tX X x) (b0::jl) ts) (hg:autoParam (Gl X ux) Ŕ) (fq:autoParam ((ux==("__debug__":Str))=false) ŕ):
  PS X (.Try [st] [.ExceptHandler (some (.Name ux np)) none (b0::jl) mj] [] [] pos) (wwz X.K UC tb ts):=by
 intro a8 s σ H D I ⟨E,h1,h2⟩;refine wpAny_Try_except (wpAny_execs_cons (Zn (hb E a8 s σ H D I h1) (λf s1 q=>?_) (λe s1 q=>?_)))
 ·cases f with|next=>exact wpAny_execs_nil (wpAny_execs_nil q)|ret v=>exact q|brk=>exact q|cont=>exact q
 ·obtain⟨H',x,Cv,rfl,I1,f1,q1⟩:=q;refine qw5 top rfl I1 f1 λL T s2 _ t2=>kjd t2 λs3 t3=>?_
  obtain⟨C,rfl,hm,xc,ht⟩:=h2 x Cv H' q1 t3.fx.1;refine wpAny_handleBy_cons (codeAny_handlers_test ?_) (λz=>nomatch z);obtain⟨vs,ho,hv⟩:=t3.f.ex;have I3:Inv (tX X x) a8 σ H' s3:=wjn t3.inv;refine kqx I3 hg hU ?_ fq;have at3:PySem.W.InstAt s3.heap x {cls:=.ref C,data:=.fields vs} C none:=#[ho,rfl,rfl,trivial];refine Lk (PySem.W.exm_one t3.inv.kIn at3.type hm) ?_;show codeAny _ _ _ _ s3;refine codeAny_handlers_suite (kjd t3 λs4 t4=>?_);have I4:Inv (tX X x) a8 σ H' s4:=wjn t4.inv;refine Zn (hs x a8 s4 _ _ _ I4 ht) (λf s6 q=>?_) λ_ _ z=>z.elim
  have bk:∀{σ6:L2.St} {H6:Hp},Inv (tX X x) a8 σ6 H6 s6->Inv X a8 σ6 H6 s6:=λz=>wvi I.ok z
  cases f with
  |next=>
   obtain⟨σ6,H6,I6,q6⟩:=q;exact#[_,_,bk I6,q6]
  |brk=>
   obtain⟨σ6,H6,I6,q6⟩:=q;exact#[_,_,bk I6,q6]
  |cont=>
   obtain⟨σ6,H6,I6,q6⟩:=q;exact#[_,_,bk I6,q6]
  |ret v=>
   obtain⟨v',σ6,H6,I6,r6,q6⟩:=q;exact#[v',_,_,bk I6,r6,q6]
section
variable {X:Cx}{Z:Fx0}{pn:List Nat}{q:Bool}{b:Ex}{e:Expr}{pos:Pos}
theorem vja{UC:Addr}{cs:List Str}{B h:Sm}{tb:XK->TS}{D:Ends}{σ:L2.St}{H:Hp}(hK:X.K=Z.K)(ca:qkx X.K Z.mg UC cs)
  (hb:∀(EX:XK) E L r,Mt E σ L->World Z.K H L->B E=some r->(∀E' c,r=.xc E' c->∀C L' H',Z.mg c=some (.ref C)->Mt E' σ L'->World Z.K H' L'->Step H L H' L'->EX (.ref C) none H')->((∀E' c,r≠.xc E' c)->FlP Z pn D σ H L r)->tb EX D σ H)
  (hr:tS Z pn (V8 cs B h) D σ H):wwz X.K UC tb (tS #[Z.K,Z.mg,λ_ _ _=>False] pn h) D σ H:=by
 obtain⟨E,L,r,m,w,hr,k⟩:=hr;have hr:V8 cs B h E=some r:=hr;cases hB:B E with
 | none=>unfold V8 at hr;rw[hB]at hr;cases hr
 | some rb=>
  refine#[λCv _ H'=>∃E1 c C L1,rb=.xc E1 c/\Cv=.ref C/\Z.mg c=some (.ref C)/\Mt E1 σ L1/\World Z.K H' L1/\Step H L H' L1,hb _ E L rb m w hB (λE' c e C L' H' hm m' w' st=>#[E',c,C,L',e,rfl,hm,m',w',st]) (λck=>?_),?_]
  ·unfold V8 at hr;rw[hB]at hr;cases rb with| xc E1 c1=>exact absurd rfl (ck E1 c1)| nx E1=>cases oq9 hr;exact k| ct E1=>cases oq9 hr;exact k| bk E1=>cases oq9 hr;exact k| rt E1 x=>cases oq9 hr;exact k
  ·rintro x Cv H' ⟨E1,c,C,L1,rfl,rfl,hm,m1,w1,js⟩ hx;unfold V8 at hr;rw[hB]at hr;dsimp only at hr
   by_cases hc:c∈cs
   ·rw[Xd hc]at hr;obtain⟨C',g1,g2,g3,g4⟩:=ca c hc;rw[hm]at g1;cases oq9 g1;refine#[C,rfl,g3,g4,?_];cases hh:h E1 with
    |none=>rw[hh]at hr;cases hr
    |some rh=>
     rw[hh]at hr;have k2:=k.step js Pn.refl;refine#[E1,L1,rh,m1,w1,hh,?_];cases rh with|xc E2 c2=>cases hr|nx E2=>cases oq9 hr;exact k2|ct E2=>cases oq9 hr;exact k2|bk E2=>cases oq9 hr;exact k2|rt E2 x=>cases oq9 hr;exact k2
   ·rw[Xg hc]at hr;cases hr
end
theorem vqa{P w K mg mb CX k fa a fd x sp s₁ vs}{ns}
  (KX:K.In s₁.heap) (hns:s₁.heap.Ns mainGlobals mg) (hb:s₁.heap.Ns builtinsNs mb) (hbb:∀x:Str,x≠"__name__"->mb x=bootBuiltins x) (hlim:s₁.heap.NoLimit) (hg:s₁.gens=(List.toArray []))
  (ha:s₁.heap.get? a=some {cls:=.type "list",data:=.seq vs.toArray}) (hi:IntsAre vs ns) (hl:ns.length<=sizeLine) (hr:Room k callerA)
  (F:∀base,K.In base->base.Ns mainGlobals mg->FnOk P w K mg base CX k fa fd [x] sp) (sv:∀s u,BindsTo s fd #[[u],[]] [(x,u)])
  (ma:∀H,xwa H->LsR K H a (ns.map V.int)->sp [.ref a] H (λv _=>v=.bl true) λ_ _ _=>False)
  (hCX:∀H e s',CX [] H s₁ (λ_ _ _=>False) e s'->False):
  codeAny (model P w) callerA (.call (.ref fa) #[[.ref a],[]]) (λr s'=>r=.ok (.ret (.bool true))/\OldK s₁.heap s'.heap/\s'.os=s₁.os/\AllBare s'.gens) s₁:=by
 have rv:=vj3 hi;have su:∀H,xwa H->LsR K H a (ns.map V.int)->HOk P w H s₁.heap->(∀b,H b≠none->b=a)->(H a≠none->K.lookup a=none) ->
   codeAny (model P w) callerA (.call (.ref fa) #[[.ref a],[]]) (λr s'=>r=.ok (.ret (.bool true))/\OldK s₁.heap s'.heap/\s'.os=s₁.os/\AllBare s'.gens) s₁:=by
  intro H hO hS hok hA hK;have km:∀{b o},s₁.heap.get? b=some o->H b=none->(Ww s₁.heap H).get? b=some o:=λe n=>vxv e n
  have ur:∀{b o es ep},s₁.heap.get? b=some o->o.data=.dict es ep->H b=none:=fun {b o es ep} e d=>by
   cases q:H b with| none=>rfl| some u=>grind
  have nsK:∀{b m},s₁.heap.Ns b m->(Ww s₁.heap H).Ns b m:=fun {b m} ⟨o,es,ep,e,d,r⟩=>#[o,es,ep,km e (ur e d),d,r]
  have hKb:=λb o e=>km (KX b o e) (by
   cases q:H b with
   | none=>rfl
   | some u=>
    have e':=hA b (by rw[q];simp);subst e';rw[hK ⋯]at e;cases e)
  have hM:Mod K mg (Ww s₁.heap H):=#[hKb,nsK hns,#[mb,nsK hb,hbb],let ⟨mc,h1,h2⟩:=hlim;#[mc,nsK h1,h2]];have e0:Env0 P w K mg _ callerA [] s₁ H:=#[rfl,hM,λb o e=>wv2 e,Nat.le_of_eq (vqr _ _),trivial,λb hb=>absurd (show b∈([]:List Addr)from hb) (by simp),hok,.of_eq hg];refine Zo ((F _ hKb (nsK hns)).run callerA [] s₁ H _ [.ref a] [.ref a] _ _ hr e0 (sv s₁ _) (.cons rfl .nil) (ma H hO hS)) λr s' h=>?_
  cases r with
  | error e=>exact(hCX H e s' h).elim
  | ok fl=>
   cases fl with
   | next=>exact False.elim h| brk=>exact False.elim h| cont=>exact False.elim h
   | ret u=>
    obtain⟨v,H',os,bare,un,hok',r',q⟩:=h;subst q;obtain rfl:u=Value.bool true:=r';refine#[rfl,OldK.of_keep λb o e=>?_,os,bare];cases q:H b with
    | none=>exact un.keep b o e q (by intro z;exact absurd (show b∈([]:List Addr)from z) (by simp)) (by simp)
    | some u=>
     rcases hO b with z|⟨ob,xs,z⟩
     ·grind
     ·have z2:=un.frzs b ob _ z;obtain⟨e1,_⟩:=hok b _ z;obtain⟨e2,_⟩:=hok' b _ z2
      grind
 cases hk:K.lookup a with
 | some o=>
  have e:=KX a o hk;rw[ha]at e;cases e;refine su (λ_=>none) (λ_=>.inl rfl) (.inr #[vs.toArray,_,hk,by rw[Xa,hi.length];exact hl,by simpa using rv]) (λb u z=>by have z':(none)=some u:=z;cases z') (λb z=>absurd rfl z) λz=>absurd rfl z
 | none=>
  refine su (λb=>if b=a then some (.frz {cls:=.type "list",data:=.seq vs.toArray} (.lst (ns.map V.int)))else none) (λb=>?_) (.inl (.inr #[{cls:=.type "list",data:=.seq vs.toArray},Xd rfl])) (λb u z=>?_) (λb z=>?_) λ_=>hk
  ·by_cases hb:b=a
   ·exact .inr #[_,_,Xd hb]
   ·exact .inl (Xg hb)
  ·by_cases hb:b=a
   ·have z':=(Xd hb).symm.trans z;cases z';subst hb;exact#[ha,by rw[X3];exact hl,vs,_,rv,ha]
   ·have z':=(Xg hb).symm.trans z;cases z'
  ·by_cases hb:b=a
   ·exact hb
   ·exact absurd (Xg hb) z
@[elab_as_elim] theorem xx3 {P:List Value->Prop} us (e:us.length=1)(h:∀a,P [a]):P us:=by
 cases us with|nil=>cases e|cons a us=>cases List.eq_nil_of_length_eq_zero (Nat.succ.inj e);exact h a
@[elab_as_elim] theorem xx2 {P:List Value->Prop} us (e:us.length=2)(h:∀a b,P [a,b]):P us:=by
 cases us with|nil=>cases e|cons a us=>exact xx3 us (Nat.succ.inj e) λb=>h a b
@[elab_as_elim] theorem xx1 {P:List Value->Prop} us (e:us.length=3)(h:∀a b c,P [a,b,c]):P us:=by
 cases us with|nil=>cases e|cons a us=>exact xx2 us (Nat.succ.inj e) λb c=>h a b c
@[elab_as_elim] theorem xx0 {P:List Value->Prop} us (e:us.length=4)(h:∀a b c d,P [a,b,c,d]):P us:=by
 cases us with|nil=>cases e|cons a us=>exact xx1 us (Nat.succ.inj e) λb c d=>h a b c d
@[elab_as_elim] theorem xwz {P:List Value->Prop} us (e:us.length=5)(h:∀a b c d f,P [a,b,c,d,f]):P us:=by
 cases us with|nil=>cases e|cons a us=>exact xx0 us (Nat.succ.inj e) λb c d f=>h a b c d f
@[elab_as_elim] theorem len6 {P:List Value->Prop}(us:List Value)(e:us.length=6)(h:∀a b c d f g,P [a,b,c,d,f,g]):P us:=by
 cases us with|nil=>cases e|cons a us=>exact xwz (P:=λl=>P (a::l)) us (Nat.succ.inj e) λb c d f g=>h a b c d f g
theorem kjw{K H g}:∀(ns:List Int),RepA K H g (ns.map D.int) (ns.map V.int) []
 |[]=>#[rfl,rfl]
 |n::ns=>by
  unfold RepA;exact#[_,_,[],[],rfl,rfl,vx,kjw ns]
theorem xje{K mg f H a}{ns:List Int}(h:∃E o,f [(.no,.lst (ns.map D.int))]=some (.ok E (o,.bl true)))(hs:LsR K H a (ns.map V.int))(hO:xwa H):
  spF K mg 1 f [.ref a] H (λv _=>v=.bl true) λ_ _ _=>False:=by
 obtain⟨E,o,h⟩:=h;have key:∃as,RepL K H true (.lst (ns.map D.int)) (.ref a) as/\(∀b∈as,False):=by
  rcases hs with(hs|⟨ob,hs⟩)|hs
  ·rcases hO a with z|⟨_,_,z⟩<;>(rw[hs]at z;cases z)
  ·exact#[[],(#[a,ns.map V.int,[],rfl,kjw ns,.inr #[rfl,.inl #[ob,hs],rfl]]),λb hb=>nomatch hb]
  ·exact#[[],(#[a,ns.map V.int,[],rfl,kjw ns,.inr #[rfl,.inr hs,rfl]]),λb hb=>nomatch hb]
 obtain⟨as,r,hn⟩:=key;refine#[[#[.no,.lst _,.ref a,as]],_,rfl,rfl,?_,h,(λE' c z=>by cases z),λE' s z x H' e1 e2 w' st=>?_]
 ·exact#[λx hx=>by rw[oq9 (aC hx)];exact r,by simp[Sl.own],λb hb=>by simp[Sl.own]at hb]
 ·injection z with z1 z2;subst z2;exact V2 w'.head e2
section
open PySem.W PySem.Calls
theorem walkQ{l:OpenLaw}{n k q qY XP YP d}{K:Params->Frag}{f}{x}
  (hn:l.most=some n) (lu:n<=sizeLine) (hdf:d.params.defaults=[]) (hr:Room k callerA)
  (hY:∀w (h),YP w h->(K w.params).In h)
  (F:∀w (mg) (fa) (h),(K w.params).In h->h.Ns mainGlobals mg->mg d.name=some (.ref fa) ->
   ∃fd,(∀s (u),BindsTo s fd #[[u],[]] [(x,u)])/\∀base,(K w.params).In base->base.Ns mainGlobals mg->FnOk l.prog w (K w.params) mg base (CXE l.prog w) k fa fd [x] (spF (K w.params) mg 1 f))
  (ma:∀(ns:List Int),ns.length<=n->(∀i∈ns,Builtin.Int.intBits i<=1048576)->∃E o,f [(.no,.lst (ns.map D.int))]=some (.ok E (o,.bl true))):
  WalkO q qY XP YP l.row.toRowW d [] (λf vs=>PySem.call f vs):=by
 intro w s0 s1 mg mb G Y fa o pm cd ja dV kV ho hd ju hD hmg hg args fc as nh hlay hrd hwl hlo;obtain⟨a,vs,ns,rfl,rfl,hobj,tw,ak⟩:=Att.script_of hn nh hwl;have KX:=hY w _ Y;obtain⟨fd,hb,hF⟩:=F w mg fa _ KX G.T.g hmg;refine enter_call (Zo (vqa KX G.T.g G.T.b G.T.builtins G.T.nolimit hg hobj tw (Yd ak lu) hr hF hb (λH hO hS=>xje (ma ns ak (qvc hlay)) hS hO) (λ_ _ _ #[_,_,_,_,_,_,_,_,_,_,_,_,_,_,_,z]=>z)) λr s' hq=>?_);obtain⟨rfl,h2,h3,h4⟩:=hq;exact#[.inl #[.bool true,.bool true,[],rfl,λ_=>rfl,.bool true,Att.post_true l _,λ_=>#[List.Pairwise.nil,λ_ hm=>(nomatch hm)]],h2,h3,h4]
end
section
variable {P:Program}{w:PySem.World}{K:Frag}{mg:Str->Option Value}{base h:Heap}{x:Str}{st:Stmt}{ps:List Str}{k:Nat}{sp:Sp}
noncomputable def Gf(K:Frag)(x:Str)(st:Stmt):Prop:=∃(f:Addr) (oc:Value) (od:Option Addr) (kV dc pm:Value) (an:Option Addr) (cd ct:Value) (sl:Array (Option Value)),nsIn K mainGlobals x=some (some (.ref f))/\K.lookup f=some #[oc,od,.func (PySem.W.fnOf x x (W7 st) (V7 st) (jW st) .none kV dc pm an cd ct),sl]/\PySem.W.codeIn K cd x=true/\PySem.W.keepIn K (.ref f)=true
theorem Gf.mk{f oc od kV dc pm an cd ct sl}(a:nsIn K mainGlobals x=some (some (.ref f)))(l:K.lookup f=some #[oc,od,.func (PySem.W.fnOf x x (W7 st) (V7 st) (jW st) .none kV dc pm an cd ct),sl])(c:PySem.W.codeIn K cd x=true)(k:PySem.W.keepIn K (.ref f)=true):Gf K x st:=#[f,oc,od,kV,dc,pm,an,cd,ct,sl,a,l,c,k]
theorem Gf.d(g:Gf K x st)(X:K.In h)(G:h.Ns mainGlobals mg)(ok:∀{f:Addr} {fd:FuncData},Fun K x x st f fd->FnOk P w K mg base (CXE P w) k f fd ps sp)
  (hb:∀(kV ja pm:Value) (an:Option Addr) (b6 ct:Value) (us:List Value),us.length=ps.length->bindArgs (PySem.W.fnOf x x (W7 st) (V7 st) (jW st) .none kV ja pm an b6 ct) #[us,[]]=pure (ps.zip us):=by
   intro _ _ _ _ _ _ us hl
   first
   |exact xx3 us hl λ_=>rfl|exact xx2 us hl λ_ _=>rfl|exact xx1 us hl λ_ _ _=>rfl|exact xx0 us hl λ_ _ _ _=>rfl|exact xwz us hl λ_ _ _ _ _=>rfl
   |exact len6 us hl λ_ _ _ _ _ _=>rfl):k4 P w K mg base k x ps sp:=by
 obtain⟨f,oc,od,kV,dc,pm,an,cd,ct,sl,a,l,c,kp⟩:=g;exact#[f,_,ok (vqx l c kp),(vqx l c kp).binds hb,kp,Yf X G a]
theorem Gf.law{fa:Addr}{y:Str}(g:Gf K "law" st)(X:K.In h)(G:h.Ns mainGlobals mg)(hfa:mg "law"=some (.ref fa))(ok:∀{base:Heap} {f:Addr} {fd:FuncData},Fun K "law" "law" st f fd->FnOk P w K mg base (CXE P w) k f fd [y] sp)
  (hb:∀(kV ja pm:Value) (an:Option Addr) (b6 ct:Value) (s:Shared) (v:Value),BindsTo s (PySem.W.fnOf "law" "law" (W7 st) (V7 st) (jW st) .none kV ja pm an b6 ct) #[[v],[]] [(y,v)]:=by
   intros
   exact .of_eq rfl):
  ∃fd:FuncData,(∀(s:Shared) (v:Value),BindsTo s fd #[[v],[]] [(y,v)])/\∀base:Heap,K.In base->base.Ns mainGlobals mg->FnOk P w K mg base (CXE P w) k fa fd [y] sp:=by
 obtain⟨f,oc,od,kV,dc,pm,an,cd,ct,sl,a,l,c,kp⟩:=g;have e:=hfa.symm.trans (Yf X G a);cases e;exact#[_,hb kV dc pm an cd ct,λbase _ _=>ok (vqx l c kp)]
end
end Q
namespace Q
open PySem L2
theorem mkS{N P sc}(h1:autoParam (sc.kind=.function) Ŕ)(h2:autoParam (sc.isCoroutine=false) Ŕ)(h3:autoParam (sc.isGenerator=false) Ŕ)(h4:autoParam (N.Nodup) ŗ)(h5:autoParam (N.take P.length=P) Ŕ)(h6:autoParam (∀x∈P,sc.names.lookup x=some .local\/sc.names.lookup x=some .cell) ŗ)(h7:autoParam (∀y∈sc.names,y.2≠.free) ŗ):FnScope N P sc:=#[h1,h2,h3,h4,h5,h6,h7]
end Q
namespace Q
open PySem PySem.Spec PyProof.Rows L2 L3
section
variable {X:Cx}{Z:Fx0}{pn:List Nat}{q qa:Bool}{a b c:Ex}{e ea eb:Expr}{pos p:Pos}
theorem kI{z j}:QE X Z true (cC (.int z)) (.Constant (.int z) j p):=q_C wzq λ_=>vx
theorem ki{z j}:QV X Z true (vE (cC (.int z))) (.Constant (.int z) j p):=j6 kI
theorem kN{j}:QE X Z true (cC .non) (.Constant .none j p):=q_C wzn λ_=>qqa
theorem kn{j}:QV X Z true (vE (cC .non)) (.Constant .none j p):=j6 kN
theorem kS{z j}(h:autoParam (z.length<=sizeLine) ŕ):QE X Z true (cC (.str z)) (.Constant (.str z) j p):=q_C qje λ_=>Kz h
theorem ks{z:Str}{j}(h:autoParam (z.length<=sizeLine) ŕ):QV X Z true (vE (cC (.str z))) (.Constant (.str z) j p):=j6 (kS h)
theorem vv(i:Nat){x:Str}(hN:autoParam (X.N[i]?=some x) Ŕ)(hv:autoParam (Vis X.env.scope x) ř)(hd:autoParam ((x==("__debug__":Str))=false) ŕ)
  (ju:autoParam ((x==("__classdict__":Str))=false) ŕ):QV X Z true (vV i) (.Name x pos):=q_vV (pv i hN hv hd ju)
theorem cv(i:Nat){x:Str}(hN:autoParam (X.N[i]?=some x) Ŕ)(hv:autoParam (Vis X.env.scope x) ř)(hd:autoParam ((x==("__debug__":Str))=false) ŕ)
  (ju:autoParam ((x==("__classdict__":Str))=false) ŕ):QE X Z true (cV i) (.Name x pos):=q_V (pv i hN hv hd ju)
theorem kx(ha:QV X Z qa a ea)(hb:QV X Z true b eb)(hs:kzm eb:=by exact λ_ _=>rfl)(hK:autoParam (X.K=Z.K) Ŕ):QV X Z qa (jk a b) (.Subscript ea eb pos):=q_ix ha hb hs hK
theorem qA{i y ce}(hN:X.N.Nodup)(h:QE X Z q a ea)(hi:autoParam (X.N[i]?=some y) Ŕ)(hx:autoParam (Loc X.env.scope y) Ś)(hp:autoParam (i∉pn) ŕ)(hs:autoParam (swapsWith ea (some (.Name y ce)) pos.line X.env=pure false) Ŕ)(hf:autoParam (X.fn y=true\/X.env.scope.names.lookup y=some .local) Ř):
  QS X Z pn (jw i a) (.Assign [.Name y ce] ea pos):=xv8 hN hi hx h hp hs hf
theorem gn{i x}(hN:X.N.Nodup)(hi:autoParam (X.N[i]?=some x) Ŕ)(hx:autoParam (Loc X.env.scope x) Ś)(hf:autoParam (X.fn x=true\/X.env.scope.names.lookup x=some .local) Ř):PG X (.Name x pos) (vqw i):=zZ hN hi hx hf
theorem gN{i x}(hN:X.N.Nodup)(hi:autoParam (X.N[i]?=some x) Ŕ)(hx:autoParam (Loc X.env.scope x) Ś)(hf:autoParam (X.fn x=true\/X.env.scope.names.lookup x=some .local) Ř)(hp:autoParam (i∉pn) ŕ):QG X Z pn (.n i) (.Name x pos):=YJ (zZ hN hi hx hf) hp
theorem qC{k m n x ps f cs es}(D:k4 X.prog X.w X.K X.mg X.base k x ps (spF Z.K Z.mg n f))(hr:Room m X.A)(ha:QA X Z q cs (e::es))(g:z4 X Z.EX:=by exact zY)(i8:autoParam (k<=m) ŕ)(hn:autoParam (cs.length=n) Ŕ)(hg:autoParam (Gl X x) Ŕ)(fq:autoParam ((x==("__debug__":Str))=false) ŕ)
  (he:autoParam (starEach (e::es) X.env=(false,eval e X.env)::starEach es X.env) Ŕ) (bq:autoParam ((backTo pos (starEach es X.env)).any (·.1)=false) Ŕ):
  QE X Z q (jz f cs) (.Call (.Name x p) (e::es) [] pos):=wz4 D (hr.mono i8) g ha hn hg fq he bq
theorem qF{tg iter:Expr}{ss:List Stmt}{it:Ev (List D)}{t:Tg}{B:Sm}(hi:QI X Z q tg it iter)(hg:QG X Z pn t tg)(hb:QSs X Z pn B ss)(hp:PassesOwn (model X.prog X.w) X.A X.env X.xe:=by exact wzv #[_,_,rfl,rfl])(hc:autoParam (X.calm=true) Ŕ)(hs:autoParam (∀x,foldedSetIterable iter X.env x=pure x) Ŗ):QS X Z pn (vZ it t B) (.For tg iter ss [] pos):=xv6 hp hc hi hg hb hs
theorem oA(ha:QV X Z qa a ea)(hb:QV X Z true b eb)(hK:autoParam (X.K=Z.K) Ŕ):QE X Z qa (cF2 kY a b) (.BinOp ea .Add eb pos):=x5 (xj0 hK) xkv ha hb
theorem oX(ha:QV X Z qa a ea)(hb:QV X Z true b eb)(hK:autoParam (X.K=Z.K) Ŕ):QE X Z qa (cF2 J3 a b) (.BinOp ea .Mult eb pos):=x5 (wzy hK) wwg ha hb
theorem oM(ha:QV X Z qa a ea)(hb:QV X Z true b eb):QE X Z qa (cF2 (pu2 qx) a b) (.BinOp ea .Mod eb pos):=x5 wzw xkq ha hb
theorem qP{i:Nat}{x:Str}{apos ai xp:Pos}(h:QE X Z q c e)(hN:autoParam (X.N[i]?=some x) Ŕ)(hv:autoParam (Vis X.env.scope x) ř)(hd:autoParam ((x==("__debug__":Str))=false) ŕ)
  (ju:autoParam ((x==("__classdict__":Str))=false) ŕ) (cu:autoParam (attributeBase (.Name x xp) "append" X.env (eval (.Name x xp) X.env)=eval (.Name x xp) X.env) Ŕ)
  (gl:autoParam (((backTo ai (starEach [e] X.env)).all (λx=>!x.1)&&(backToKw ai (keywordEach [] X.env)).all (λx=>x.1.isSome)
   && decide ([e].length+([]:List Keyword).length+(if([]:List Keyword).isEmpty then 0 else 1)<30))=true) Ŕ)
  (cp:autoParam ((apos.endLine==ai.line)=true) Ŕ) (hs:autoParam (starEach [e] X.env=(false,eval e X.env)::starEach [] X.env) Ŕ) (bi:autoParam ((backTo ai (starEach [] X.env)).any (·.1)=false) Ŕ) (hK:autoParam (X.K=Z.K) Ŕ)
  (pw:autoParam (swapsWith (.Call (.Attribute (.Name x xp) "append" apos) [e] [] ai) none pos.line X.env=pure false) Ŕ):
  QS X Z pn (xz xJ i c) (.Expr (.Call (.Attribute (.Name x xp) "append" apos) [e] [] ai) pos):=xv9 (vkl Z.K PySem.F.plainAttrs_list PySem.F.slot_list_append PySem.F.type_list_append qju (pv i hN hv hd ju) (ww h x6 hs) cu gl cp hs bi hK) pw
theorem qL(ha:QV X Z q a ea)(hm:X.mg "len"=none)(hK:autoParam (X.K=Z.K) Ŕ)(hg:autoParam (Gl X "len") Ŕ)(he:autoParam (starEach [ea] X.env=(false,eval ea X.env)::starEach [] X.env) Ŕ)(bq:autoParam ((backTo pos (starEach [] X.env)).any (·.1)=false) Ŕ):QE X Z q (cF1 (pu1 qw) a) (.Call (.Name "len" p) [ea] [] pos):=K7 (hK▸ww8 X.K) xkr ha hm qwx hg ⋯ ⋯ he bq
theorem qT(ha:QV X Z q a ea)(hm:X.mg "tuple"=none)(hK:autoParam (X.K=Z.K) Ŕ)(hg:autoParam (Gl X "tuple") Ŕ)(he:autoParam (starEach [ea] X.env=(false,eval ea X.env)::starEach [] X.env) Ŕ)(bq:autoParam ((backTo pos (starEach [] X.env)).any (·.1)=false) Ŕ):QE X Z q (cF1 KY a) (.Call (.Name "tuple" p) [ea] [] pos):=Q1 (vvo hK) vzj ha hm kzh hg ⋯ ⋯ he bq
variable {iter gz tg:Expr}{gm:List Expr}{scope:Scope}{it:Ev (List D)}{tt:Tg}{u:Ts}
theorem qm(o:Own)(k:Nat)(R:List Nat)(m:Nat)(N:List Str)(hi:QI X Z q tg it iter)
  (hg:N.Nodup->∀cl C s0 H0 fp,QG (lcE X scope N cl C s0 H0 fp Z.EX) Z ((List.range R.length).map (k + ·)) tt tg) (ht:∀cl C s0 H0 fp,PTs (lcE X scope N cl C s0 H0 fp Z.EX) gm (tT Z q u)) (he:∀cl C s0 H0 fp,QE (lcE X scope N cl C s0 H0 fp Z.EX) Z q c gz)
  (hN:autoParam (N.Nodup) ŗ) (gx:z4 X Z.EX:=by exact zY) (top:J4 X:=by exact#[_,_,rfl,rfl]) (hR:autoParam (R.Nodup) ŕ) (hm:autoParam (X.N.length=m) Ŕ) (hr:autoParam (∀j∈R,j<m) ŕ) (hc:autoParam (X.calm=true) Ŕ) (hk:autoParam (scope.kind=.function) Ŕ) (lr:autoParam (V4 X.N X.env.scope scope N k R=true) Ŕ) (hs:autoParam (∀x,foldedSetIterable iter X.env x=pure x) Ŗ):
  QE X Z q (cLC o k R it tt u c) (.ListComp gz [#[tg,iter,gm,0]] scope pos):=xwv N hi (hg hN) ht he gx top hR (hm▸hr) hc hk lr hs
theorem qM{x:Str}{p':Pos}(o:Own)(k:Nat)(R:List Nat)(m:Nat)(N:List Str)(hi:QI X Z q (.Name x p') it iter)(he:∀cl C s0 H0 fp,QE (lcE X scope N cl C s0 H0 fp Z.EX) Z q c gz)
  (hN:autoParam (N.Nodup) ŗ) (gx:z4 X Z.EX:=by exact zY) (top:J4 X:=by exact#[_,_,rfl,rfl]) (hR:autoParam (R.Nodup) ŕ) (hm:autoParam (X.N.length=m) Ŕ) (hr:autoParam (∀j∈R,j<m) ŕ) (hc:autoParam (X.calm=true) Ŕ) (hk:autoParam (scope.kind=.function) Ŕ) (lr:autoParam (V4 X.N X.env.scope scope N k R=true) Ŕ) (hs:autoParam (∀x,foldedSetIterable iter X.env x=pure x) Ŗ)
  (hg:N.Nodup->∀cl C s0 H0 fp,QG (lcE X scope N cl C s0 H0 fp Z.EX) Z ((List.range R.length).map (k + ·)) (.n 0) (.Name x p'):=by exact λh _ _ _ _ _=>YJ (zZ (i:=0) h rfl (by trivial))):
  QE X Z q (cLC o k R it (.n 0) tYes c) (.ListComp gz [#[.Name x p',iter,[],0]] scope pos):=xwv N hi (hg hN) (λ_ _ _ _ _=>wq2) he gx top hR (hm▸hr) hc hk lr hs
end
end Q
namespace Q
noncomputable def ddS(ss:List PySem.Str):List PySem.Str:=ss.foldl (λl k=>if l.any (· == k)then l else l++[k]) []
noncomputable def ddI(ss:List Int):List Int:=ss.foldl (λl k=>if l.any (· == k)then l else l++[k]) []
def Zz:Sd->Option Sd:=λx=>match x.2 with
 |.lst ds=>(match Kq ds with
  |some ss=>if ss.length<64 then some (.rt,.lst ((Jv (ddS ss)).map .str))else none
  |none=>none)
 |_=>none
end Q
namespace Sw
open PySem PyProof.Rows
section
variable {prog:Program}{w:World}{A:Around}{E:VP9}{s:Shared}
noncomputable def tx(w:World):Bool:=w.params.followText "set-order"
structure Ok (prog:Program)(w:World)(o:Obj)(es:Array (Int×Value))(ep:Nat)(t:SetTable):Prop where
 ex:o.ExactSet
 d:o.data=.set es ep t
 el:ElemsOf (PySem.strKind prog w) es.toList
 b:es.size<scanBound
 f:t.fits es.size=true
 led:t.led=!tx w
 pl:t.plain=false\/es.size=0
noncomputable def ZV(es:List (Int×Value)):List Str:=es.map λe=>strOf e.2
def Has(prog:Program)(w:World)(h:Heap)(a:Addr)(ls:List Str):Prop:=∃o es ep t,h.get? a=some o/\Ok prog w o es ep t/\(ZV es.toList).Perm ls
theorem wjs{l:List (Int×Value)}(h:ElemsOf (PySem.strKind prog w) l){e:Int×Value}(he:e∈l):∃k t,e.2=.str k t:=by
 obtain⟨⟨k,hk,_⟩,_⟩:=h e he;obtain⟨t,ht⟩:=Value.isStrOf_shape hk;exact#[k,t,ht]
theorem xjt{l:List (Int×Value)}(h:ElemsOf (PySem.strKind prog w) l)(k:Str):(∃e∈l,(PySem.strKind prog w).is k e.2=true)↔k∈ZV l:=by
 unfold ZV;rw[List.mem_map];constructor
 ·rintro ⟨e,he,hk⟩;obtain⟨t,ht⟩:=Value.isStrOf_shape hk;exact#[e,he,by rw[ht];rfl]
 ·rintro ⟨e,he,hk⟩;obtain⟨k',t,ht⟩:=wjs h he;rw[ht]at hk;cases(show k'=k from hk);exact#[e,he,by rw[ht];exact strKind_is _ _ _ _]
theorem wvc(t:SetTable)(es:Array (Int×Value))(h:Int)(x:Value):(layNew t es h x).2.1.led=t.led/\((layNew t es h x).2.1.plain=true->t.plain=true):=by
 unfold layNew
 split
 ·rename_i slot wd _;show((t.put slot).1.orStandIn _).led=_/\(((t.put slot).1.orStandIn _).plain=true->_);unfold SetTable.orStandIn
  split
  ·exact#[rfl,λh=>h]
  ·exact#[rfl,λh=>nomatch h]
 ·exact#[rfl,λh=>nomatch h]
theorem vjv(t:SetTable)(es:Array (Int×Value))(n:Nat):(relayAll t es n).2.1.led=t.led/\((relayAll t es n).2.1.plain=true->t.plain=true):=by
 unfold relayAll
 split
 ·rename_i t' order hr;dsimp only
  split
  ·unfold SetTable.relaid SetTable.laid at hr;rw[Option.bind_eq_bind,Option.bind_eq_some_iff]at hr;obtain⟨ow,_,e⟩:=hr;cases oq9 e;exact#[rfl,λh=>h]
  ·exact#[rfl,λh=>nomatch h]
 ·exact#[rfl,λh=>nomatch h]
theorem wx5{h:Heap}{a o es es' ep t t'}(ho:h.get? a=some o)(hd:o.data=.set es ep t):(h.update a (Obj.putSet es' t')).get? a=some {o with data:=.set es' (ep+1) t' }:=by
 have:=Y3 (Obj.putSet es' t') ho (by rw[putSet_of es' t' hd];rfl)
 rwa [putSet_of es' t' hd]at this
theorem tail{g:Bool->Sem Unit}(hg:∀b (s₁) (Q'),Q' () s₁->wpAny (model prog w) A (g b) Q' E s₁)
  {a o es gw ep t t2 ls wasDummy R} (ho:s.heap.get? a=some o) (hd:o.data=.set es ep t) (hex:o.ExactSet)
  (hel:ElemsOf (PySem.strKind prog w) gw.toList) (hb:gw.size<scanBound) (hf:t2.fits gw.size=true) (uh:t2.led=!tx w) (bq:t2.plain=false) (hp:(ZV gw.toList).Perm ls)
  (h:∀h',Heap.SameBut a s.heap h'->Has prog w h' a ls->R (some true) {s with heap:=h' }):
  wpAny (model prog w) A (do
    storeSet a gw t2
    if(!wasDummy&&t2.tooFull)=true then do
      g (relayAll t2 gw (SetTable.grown gw.size)).2.2
      storeSet a (relayAll t2 gw (SetTable.grown gw.size)).1 (relayAll t2 gw (SetTable.grown gw.size)).2.1
      pure (some true)
     else pure (some true)) R E s:=by
 refine X0 (wpAny_storeSet_of ho hd ?_ (fits_of_scanBound hb));have lz:=wx5 (es':=gw) (t':=t2) ho hd;have jt:=Y0 s.heap a (Obj.putSet gw t2)
 split
 ·have r1:=relayAll_perm t2 gw (SetTable.grown gw.size);have r2:=relayAll_fits t2 gw (SetTable.grown gw.size);obtain⟨r3,r4⟩:=vjv t2 gw _;generalize relayAll t2 gw _=V at r1 r2 r3 r4 ⊢;obtain⟨es2,t3,gv⟩:=V;have hz:es2.size=gw.size:=by rw[<-Xm,r1.length_eq,Xm]
  refine X0 (hg _ _ _ (X0 (wpAny_storeSet_of lz rfl (X4 (h _ (jt.trans (Y0 _ a _)) #[_,es2,_,t3,wx5 lz rfl,#[hex,rfl,hel.perm r1,by rw[hz];exact hb,r2,r3.trans uh,.inl ?_],(r1.map _).trans hp])) (fits_of_scanBound (hz▸hb)))));cases hq:t3.plain with|false=>rfl|true=>grind
 ·exact X4 (h _ jt #[_,gw,_,t2,lz,#[hex,rfl,hel,hb,hf,uh,.inl bq],hp])
theorem add{a k tk ls Q}(hS:Has prog w s.heap a ls)(hl:ls.length+1<scanBound)
  (h:∀b h',Heap.SameBut a s.heap h'->Has prog w h' a (step_dedup ls k)->Q b {s with heap:=h' }):wpAny (model prog w) A (setAddHashed a (.str k tk) ((PySem.strKind prog w).hash k)) Q E s:=by
 obtain⟨o,es,ep,t,ho,hk,hp⟩:=hS;have hsz:es.size=ls.length:=by rw[<-hp.length_eq];unfold ZV;rw[X3,Xm]
 have fz:(PySem.strKind prog w).is k (.str k tk)=true:=strKind_is _ _ _ _;have hmk:(∃e∈es.toList,(PySem.strKind prog w).is k e.2=true)↔k∈ls:=(xjt hk.el k).trans hp.mem_iff;unfold setAddHashed setAddHashedIn;refine Y9 (X0 (Zj ho hk.d hk.f ?_));dsimp only;rw[byScan_of rfl hk.b hk.el];simp only[↓reduceIte];unfold setAddByScan;refine X0 (X0 (Z9 (X0 (wpAny_setScan_of fz ho hk.d hk.f hk.el ?_))));cases hr:List.findIdx? (λe=>(PySem.strKind prog w).is k e.2) es.toList with
 | some j=>
  dsimp only;obtain⟨hj,hpj,_⟩:=List.findIdx?_eq_some_iff_getElem.mp hr;have fy:k∈ls:=hmk.mp #[_,Xu hj,hpj];have cn:step_dedup ls k=ls:=by unfold step_dedup;rw[Xd (List.any_eq_true.mpr #[k,fy,by simp])]
  refine X4 (X4 ?_);have:=h false s.heap (Heap.SameBut.refl a s.heap) (by rw[cn];exact#[o,es,ep,t,ho,hk,hp])
  simp_all
 | none=>
  dsimp only;have hni:k∉ls:=λfy=>by
   obtain⟨e,he,hq⟩:=hmk.mpr fy
   grind
  have cn:step_dedup ls k=ls++[k]:=by
   unfold step_dedup
   simp_all
  rw[cn]at h;have hgw:∀b {s₁ Q'},Q' () s₁->wpAny (model prog w) A (match b with|true=>PySem.rule "set.scan.the-table-gave-way" | false=>pure ()) Q' E s₁:=
   λb s₁ Q' hq=>by cases b<;>first|exact X4 hq|exact Z9 hq
  have l1:=layNew_perm t es ((PySem.strKind prog w).hash k) (.str k tk);have l2:=layNew_fits t es ((PySem.strKind prog w).hash k) (.str k tk);obtain⟨l3,l4⟩:=wvc t es ((PySem.strKind prog w).hash k) (.str k tk);generalize layNew t es ((PySem.strKind prog w).hash k) (.str k tk)=V at l1 l2 l3 l4 ⊢;obtain⟨gw,t1,wd,gv⟩:=V;dsimp only at l1 l2 l3 l4 ⊢;rw[Array.toList_push]at l1;have sj:ElemsOf (PySem.strKind prog w) gw.toList:=(hk.el.push fz rfl).perm l1;have qr:gw.size=ls.length+1:=by rw[<-Xm,l1.length_eq,Xf,Xm,hsz];rfl
  have hp1:(ZV gw.toList).Perm (ls++[k]):=by
   refine(l1.map λe=>strOf e.2).trans ?_;rw[Xh];exact hp.append (List.Perm.refl _)
  refine X0 (hgw _ ?_)
  split
  ·refine X0 ?_;rw[hashByValue_scannable 8 rfl];refine X4 (tail ?_ ho hk.d hk.ex sj (qr▸hl) (SetTable.fits_plain_off l2) (l3.trans hk.led) rfl hp1 λh' a1 a2=>?_)
   ·intro b s₁ Q' hq;cases b<;>first|exact X4 hq|exact Z9 hq
   ·exact X4 (h true h' a1 a2)
  ·rename_i bq;refine X0 (X4 (tail ?_ ho hk.d hk.ex sj (qr▸hl) l2 (l3.trans hk.led) (show t1.plain=false from Bool.eq_false_iff.mpr bq) hp1 λh' a1 a2=>?_))
   ·intro b s₁ Q' hq;cases b<;>first|exact X4 hq|exact Z9 hq
   ·exact X4 (h true h' a1 a2)
def dd(ss:List Str):List Str:=ss.foldl step_dedup []
theorem ww5{ss:List Str}{i:Nat}{x:Str}(h:ss[i]?=some x):dd (ss.take (i+1))=step_dedup (dd (ss.take i)) x:=by
 obtain⟨hl,e⟩:=List.getElem?_eq_some_iff.mp h;unfold dd;rw[List.take_succ,h,List.foldl_append];rfl
theorem xkh(ss:List Str):(dd ss).length<=ss.length:=foldl_step_dedup_nil_length_le ss
theorem vjg:∀{vs:List Value} {ss:List Str},StrsAre vs ss->∀(i:Nat) (v:Value),vs[i]?=some v->∃x t,v=.str x t/\ss[i]?=some x
 |_,_,.nil,i,v,h=>by cases i<;>cases h|_,_,.cons x t r,0,v,h=>by cases oq9 h;exact#[x,t,rfl,rfl]|_,_,.cons x t r,i+1,v,h=>vjg r i v h
theorem kx4:∀{vs:List Value} {ss:List Str},StrsAre vs ss->vs.length=ss.length
 |_,_,.nil=>rfl|_,_,.cons x t r=>congrArg (· + 1) (kx4 r)
theorem Has.same{h h' a ls}(x:Has prog w h a ls)(e:∀o,h.get? a=some o->h'.get? a=some o):Has prog w h' a ls:=by
 obtain⟨o,es,ep,t,ho,r⟩:=x;exact#[o,es,ep,t,e _ ho,r]
theorem loop{R I fp wr G n P St}(W:WalksS prog w A.in1 I fp wr G n P St)(S)(p5:S∉fp)
  {ss} (hn:ss.length=n) (j':∀i v,P i v->∃x t,v=.str x t/\ss[i]?=some x) (hb:n+1<scanBound):∀k i (s),n - i=k->i<=n->St i s->Has prog w s.heap S (dd (ss.take i)) ->
   (∀s',Moved (S::wr) G s s'->Has prog w s'.heap S (dd ss)->R (.ok (.ret .none)) s')->codeAny (model prog w) A (.builtin "set.update.loop" #[[.ref S,.ref I],[]]) R s:=by
 have ua:S∉wr:=λh=>p5 (W.sub _ h)
 have gb:∀b∈wr,b∈S::wr:=λb hb=>lc9 _ hb
 intro k
 induction k with
 | zero=>
  intro i s hk hi cn hS hR;cases(show i=n by lia);refine Yy F.entry_set_update_loop ?_;rw[Z3 F.plain_set_update_loop _];show wpAny _ A.in1 (pyNext (.ref I) >>= _) _ _ s;refine X0 (W.done s _ _ cn λs' hm=>(X4 (hR s' (hm.mono gb) ?_)));rw[<-hn,List.take_length]at hS;exact hS.same λo e=>hm.heap S _ ua e
 | succ k ih=>
  intro i s hk hi cn hS hR;refine Yy F.entry_set_update_loop ?_;rw[Z3 F.plain_set_update_loop _];show wpAny _ A.in1 (pyNext (.ref I) >>= _) _ _ s;refine X0 (W.item i s _ _ ⋯ cn λv s' hP qe hm=>?_);obtain⟨x,t,rfl,hx⟩:=j' i v hP;have jr:Has prog w s'.heap S (dd (ss.take i)):=hS.same λo e=>hm.heap S _ ua e
  show wpAny _ A.in1 (holding [Value.str x t] (setAdd S (.str x t)) >>= _) _ _ s';refine X0 (Y9 ?_);unfold setAdd;refine Y9 (X0 ((PySem.strKind prog w).pyHash (k:=x) (strKind_is _ _ _ _) ?_));have i8:(dd (ss.take i)).length+1<scanBound:=by have:=xkh (ss.take i);rw[Yp]at this;lia
  refine add jr i8 λb h' a1 a2=>?_
  rw[<-ww5 hx]at a2;refine X4 #[plainId_quiet F.plain_set_update_loop _,ih (i+1) _ ⋯ ⋯ (W.frame _ s' _ _ qe (Zm _) λb hb o e=>?_) a2 λmv p6 pc=>?_]
  ·rw[a1.2 b (λh:b=S=>p5 (h▸hb))];exact e
  ·refine hR mv (Moved.trans W.gtrans ((hm.mono gb).then_heap (Zm _) λb o hb e=>?_) p6) pc;rw[a1.2 b (λh:b=S=>hb (h▸X6))];exact e
def fresh(w:World):Obj:={cls:=.type "set",dict:=none,data:=.set (List.toArray []) 0 (.fresh 0 0 (!tx w))}
theorem vqy{h:Heap}{a:Addr}(e:h.get? a=some (fresh w)):Has prog w h a []:=
 #[_,(List.toArray []),0,.fresh 0 0 (!tx w),e,#[#[rfl,rfl,rfl],rfl,(λe he=>nomatch he),⋯,by rfl,rfl,.inr rfl],.refl _]
theorem made(a){Q₁}(h:Q₁ (.ref s.heap.objs.size) {s with heap:=s.heap.push (fresh w)}):
  codeAny (model prog w) A (.call (.builtin "set.__new__") #[[.type "set",a],[]]) (wants Q₁ E) s:=by
 refine codeAny_of_tree ?_;show wpAny _ A.in1 (do checkBuiltinCall "set.__new__" #[[.type "set",a],[]];again (.builtin "set.__new__" #[[.type "set",a],[]])) _ _ s;refine X0 (wpAny_of_eq (F.newCall_set_1 a) (X4 #[plainId_quiet F.plain_set_new _,Yy F.entry_set_new ?_]));rw[Z3 F.plain_set_new _];unfold Builtin.«set.__new__» Builtin.Frozenset.newClass;have gb:=sub_set_self;obtain⟨hp,g,d,tk,os⟩:=s;dsimp only
 wp_walk
 refine wpAny_askSetting (X4 ?_);dsimp only;simp only[newObj];exact X0 (wpAny_alloc (X4 (X4 h)))
set_option maxHeartbeats 8000000 in
theorem vzd{l:Addr}{items:Array Value}{ss:List Str}{Q:VP9}(hh:A.handled=none)(hl:s.heap.IsList l items)(hi:StrsAre items.toList ss)(hb:items.size+1<scanBound)
  (h:∀(h':Heap) (tk:Nat),Has prog w h' s.heap.objs.size (dd ss)->(∀b o,b<s.heap.objs.size->s.heap.get? b=some o->h'.get? b=some o)->Q (.ref s.heap.objs.size) {s with heap:=h',toks:=tk}):
  wpAny (model prog w) A (call (.type "set") [.ref l]) Q E s:=by
 obtain⟨c,tl,hmro⟩:=F.called_set.mro;have u5:=F.called_set.made;have gb:=F.called_set.sub;refine wpAny_call (codeAny_of_tree ?_);show wpAny _ _ (callAny (.type "set") _) _ _ _;refine X4 #[Code.quiet_builtin _ (by decide +kernel),Yy F.entry_type_call ?_];rw [Around.under_plain (weight_type_call_type "set" [.ref l] []) rfl];have h1:=F.called_set.notType;have h2:=F.called_set.canCreate;have hct:=F.typeCall_set_1 (.ref l)
 repeat (any_goals (first|assumption|wp_step))
 refine Zo (made (.ref l) (E:=E) (Q₁:=λobj s₁=>obj=.ref s.heap.objs.size/\s₁={s with heap:=s.heap.push (fresh w)}) #[rfl,rfl]) λr s₁ hr=>?_
 cases r with
 | error e=>exact hr
 | ok fl=>
 cases fl with
 | ret obj=>
  obtain⟨rfl,rfl⟩:=hr;have hS:(s.heap.push (fresh w)).get? s.heap.objs.size=some (fresh w):=X7 _ rfl;have hT:Shared.TypeIs {s with heap:=s.heap.push (fresh w)} (.ref s.heap.objs.size) "set":=#[_,hS,rfl];have hli:=F.called_set.init.lookup;have hbi:=F.called_set.init.bind (.ref s.heap.objs.size)
  repeat (any_goals (first|assumption|wp_step))
  refine Zo (codeAny_call_builtin (R:=wants (λr s₂=>r=.none/\∃h' tk,s₂={s with heap:=h',toks:=tk}/\Has prog w h' s.heap.objs.size (dd ss) /\
    (∀b o,b<s.heap.objs.size->s.heap.get? b=some o->h'.get? b=some o)) E) F.called_set.init.plain F.entry_set_init (check_set_init_1 hT ?_)) λr₂ s₂ px=>?_
  ·obtain⟨ol,sw,dl,nl,t7⟩:=hl;obtain⟨ocls,mf,u9,jy⟩:=ol;simp only at dl t7;subst dl;subst t7;have qi:(s.heap.push (fresh w)).get? l=some {cls:=.type "list",dict:=mf,data:=.seq items nl,slots:=jy}:=X5 _ sw;have hsls:=F.sub_list_set;have hslf:=F.sub_list_frozenset;have ck:(Value.type "list" == Value.type "dict")=false:=⋯
   have gu:(s.heap.push (fresh w)).IsList l items:=#[_,qi,rfl,nl,rfl];have o8:l<s.heap.objs.size:=Xe sw;have pr:({cls:=.type "set",dict:=none,data:=.set (List.toArray []) 0 (.fresh 0 0 (!tx w))}:Obj)=fresh w:=rfl;unfold Builtin.«set.__init__» noKeywords Builtin.Frozenset.updateFrom;generalize hPI:pyIter=PI
   wp_walk
   subst hPI;refine wpAny_pyIter_list gu ?_;refine X0 (wpAny_runValue ?_);have hh3:A.in1.in1.in1.handled=none:=by simp[hh]
   have hsz:(s.heap.push (fresh w)).objs.size=s.heap.objs.size+1:=Z8 ..;refine loop ((Walks.list hh3 _ l (by rw[hsz];exact Xi (Yv o8)) items).toS) s.heap.objs.size (by rw[hsz];simp only[Yt,Yg,or_false,not_or];exact#[Xi (Nat.lt_succ_self _),Zh o8]) (ss:=ss) ?_ (λi v hv=>vjg hi i v (by rw[Ye];exact hv)) hb (items.size - 0) 0 _ ⋯ (Yi _)
    #[#[_,X7 _ rfl,rfl,rfl],gu.push _] ?_ ?_
   ·rw[<-kx4 hi,Xm]
   ·exact vqy (X5 _ hS)
   ·intro s' hm jr;obtain⟨h',g',d',ny,qf⟩:=s';have eg:g'=s.gens:=hm.gens;have ed:d'=s.drawn:=hm.drawn;have eo:qf=s.os:=hm.os;subst eg;subst ed;subst eo;show wpAny _ _ _ _ _ _;refine X4 ?_;show wpAny _ _ (ret Value.none) _ _ _;refine X4 #[rfl,h',ny,rfl,jr,λb o hb e=>?_];exact hm.heap b o (by simp only[Yt,Yg,or_false,not_or];rw[hsz];exact#[Xi hb,Xi (Yv hb)]) (X5 _ (X5 _ e))
  ·cases r₂ with
   | error e=>exact px
   | ok fl₂=>
    cases fl₂ with
    |ret r=>
     obtain⟨rfl,h',tk,rfl,jr,av⟩:=px
     repeat (any_goals (first|assumption|wp_step))
     exact h _ _ jr av
    |_=>exact px.elim
 |_=>exact hr.elim
end
theorem slot_next:Slot "set_iterator" "__next__" "set_iterator.__next__" :=
 .of (owner:="set_iterator") (n:="__next__") (by kernel_rfl) (by decide +kernel) (by decide +kernel) (by decide +kernel)
  (by first|exact .inl (by decide +kernel)|exact .inr (by decide +kernel)) (by rw[isSubtype_type];kernel_rfl)
theorem kzy:Slot "set_iterator" "__iter__" "set_iterator.__iter__" :=
 .of (owner:="set_iterator") (n:="__iter__") (by kernel_rfl) (by decide +kernel) (by decide +kernel) (by decide +kernel)
  (by first|exact .inl (by decide +kernel)|exact .inr (by decide +kernel)) (by rw[isSubtype_type];kernel_rfl)
theorem jz1:entryFor table "set_iterator.__next__"=some Builtin.«set_iterator.__next__»:=entryFor_of_tree (by kernel_rfl)
theorem qzd:entryFor table "set_iterator.__iter__"=some Builtin.«dict_keyiterator.__iter__»:=entryFor_alias (id':="dict_keyiterator.__iter__") (by kernel_rfl) rfl (by decide +kernel) (by kernel_rfl)
theorem qze:entryFor table "set.__iter__"=some Builtin.«frozenset.__iter__»:=entryFor_alias (id':="frozenset.__iter__") (by kernel_rfl) rfl (by decide +kernel) (by kernel_rfl)
theorem kjl(a):argsOk "set_iterator.__next__" #[[a],[]]:=by kernel_rfl
theorem vvx(a):argsOk "set_iterator.__iter__" #[[a],[]]:=by kernel_rfl
theorem vvy(a):argsOk "set.__iter__" #[[a],[]]:=by kernel_rfl
section
variable {prog:Program}{w:World}{A:Around}{E:VP9}{s:Shared}
theorem xkk{src n Q}(hn:n≠0)(h:∀i d,i<n->Q i {s with drawn:=d}):wpAny (model prog w) A (choose src n) Q E s:=
 λ_ _ _=>#[hn,h _ _ (Nat.mod_lt _ (Nat.pos_of_ne_zero hn))]
theorem jv0{α:Type}:∀{l:List α} {i} (h),(l[i]::l.eraseIdx i).Perm l
 |a::l,0,h=>List.Perm.refl _
 |a::l,i+1,h=>by
  exact(List.Perm.swap a _ _).trans ((jv0 (Nat.lt_of_succ_lt_succ h)).cons a)
theorem drawn{α}:∀n xs s {Q:List α->Shared->Prop},xs.length=n->(∀ys d,ys.Perm xs->Q ys {s with drawn:=d})->wpAny (model prog w) A (drawOrder n xs) Q E s
 | 0,xs,s,Q,hl,h=>by
  cases xs with|nil=>exact X4 (h [] s.drawn (.refl _))|cons=>cases hl
 | n+1,xs,s,Q,hl,h=>by
  cases xs with
  |nil=>cases hl
  |cons x xs=>
   unfold drawOrder;refine X0 (xkk (by simp) λi d hi=>?_);rw[X1 hi];exact X0 (drawn n _ _ (by rw[List.length_eraseIdx,Xd hi];exact Nat.succ.inj hl) λys d' hp=>(X4 (h _ d' ((hp.cons _).trans (jv0 hi)))))
theorem vkh{α}(f):∀n k (l) (out:Array α),l.length=n->(pickOrder.go f n k l out).toList.Perm (out.toList++l)
 |0,k,l,out,hl=>by
  cases l with|nil=>unfold pickOrder.go;simp|cons=>cases hl
 |n+1,k,l,out,hl=>by
  have hi:f k % l.length<l.length:=Nat.mod_lt _ ⋯;unfold pickOrder.go;rw[X1 hi];refine(vkh f n _ _ _ (by rw[List.length_eraseIdx,Xd hi];lia)).trans ?_;rw[Array.toList_push,Xk];exact(List.Perm.refl _).append (jv0 hi)
theorem qjd{α} f (xs:Array α):(pickOrder f xs).toList.Perm xs.toList:=by
 exact vkh f _ 0 _ (List.toArray []) (by simp)
end
section
variable {prog:Program}{w:World}{A:Around}{E:VP9}{s:Shared}
def It(h:Heap)(I a:Addr)(f:Value)(i n ep:Nat):Prop:=∃o,h.get? I=some o/\o.cls=.type "set_iterator"/\o.data=.fields (List.toArray [f,.int i 0,.ref a,.int n 0,.int ep 0])
theorem It.at'{h h':Heap}{I a:Addr}{f:Value}{i n ep:Nat}(x:It h I a f i n ep)(e:∀o,h.get? I=some o->h'.get? I=some o):It h' I a f i n ep:=by
 obtain⟨o,ho,r⟩:=x;exact#[o,e _ ho,r]
def Stn(h:Heap)(a:Addr)(n ep:Nat):Prop:=∃o es t,h.get? a=some o/\o.data=.set es ep t/\t.fits es.size=true/\es.size=n
theorem vjq{I a:Addr}{f:Value}{i n ep:Nat}{Q:VP9}(ia:It s.heap I a f i n ep)(h:Q (.ref I) s):wpAny (model prog w) A (pyIter (.ref I)) Q E s:=by
 obtain⟨o,ho,hc,hd⟩:=ia;have hT:s.TypeIs (.ref I) "set_iterator":=#[o,ho,hc];refine wpAny_pyIter_slot hT kzy (Y1 kzy hT qzd ?_ (vvx _));exact X4 #[_,rfl,"set_iterator",_,hT,slot_next.lookup,h]
theorem xjr{I a:Addr}{sl nx i n ep:Nat}{v:Value}{Q:Option Value->Shared->Prop}(ia:It s.heap I a (.int sl 0) i n ep)(hs:Stn s.heap a n ep)
  (hN:∀(A':Around) (E':VP9) (R:Option (Value×Nat)->Shared->Prop),R (some (v,nx)) s->wpAny (model prog w) A' (setNext a sl i ep) R E' s)
  (hQ:∀h',It h' I a (.int nx 0) (i+1) n ep->Heap.SameBut I s.heap h'->Q (some v) {s with heap:=h' }):wpAny (model prog w) A (pyNext (.ref I)) Q E s:=by
 obtain⟨o,ho,hc,hd⟩:=ia;obtain⟨os,es,t,ln,b7,hf,hn⟩:=hs;have hT:s.TypeIs (.ref I) "set_iterator":=#[o,ho,hc];refine X0 (wpAny_attempt (Y6 hT slot_next (Y1 slot_next hT jz1 ?_ (kjl _))));show wpAny _ _ (fieldsOf _ >>= _) _ _ s;refine X0 (Za ho hd ?_);refine X0 (wpAny_setEntries_of ln b7 hf ?_);rw[Xg (by rw[hn];simp)];show wpAny _ _ _ _ _ s;refine X0 (hN _ _ _ ?_);refine X0 (Yl ho hd (by simp) ?_);have oj:=Yq hd (·.setIfInBounds 0 (rawInt nx));have lz:=Y3 _ ho (Yz oj);refine X0 (Yl lz oj (by simp) (X4 #[v,rfl,X4 (hQ _ ?_ ((Y0 ..).trans (Y0 ..)))]));have ij:=Yq oj (·.setIfInBounds 1 (rawInt (i+1)));refine#[_,Y3 _ lz (Yz ij),(Obj.cls_mapFields ..).trans ((Obj.cls_mapFields ..).trans hc),?_];rw[ij];simp[rawInt]
theorem xjq{I a T:Addr}{i n ep:Nat}{v:Value}{pl:List Nat}{p:Nat}{Q:Option Value->Shared->Prop}(ia:It s.heap I a (.ref T) i n ep)(hs:Stn s.heap a n ep)(ul:∃o k,s.heap.get? T=some o/\o.data=.seq (pl.map λ(j:Nat)=>rawInt j).toArray k)
  (hp:pl[i]?=some p)
  (hN:∀(A':Around) (E':VP9) (R:VP9),R v s->wpAny (model prog w) A' (setNextDrawn a p ep) R E' s)
  (hQ:∀h',It h' I a (.ref T) (i+1) n ep->Heap.SameBut I s.heap h'->Q (some v) {s with heap:=h' }):wpAny (model prog w) A (pyNext (.ref I)) Q E s:=by
 obtain⟨o,ho,hc,hd⟩:=ia;obtain⟨os,es,t,ln,b7,hf,hn⟩:=hs;obtain⟨oT,kT,hoT,rg⟩:=ul;have hT:s.TypeIs (.ref I) "set_iterator":=#[o,ho,hc];refine X0 (wpAny_attempt (Y6 hT slot_next (Y1 slot_next hT jz1 ?_ (kjl _))));show wpAny _ _ (fieldsOf _ >>= _) _ _ s;refine X0 (Za ho hd ?_);refine X0 (wpAny_setEntries_of ln b7 hf ?_);rw[Xg (by rw[hn];simp)];refine X0 (wpAny_seqItems hoT rg ?_);have hg:(pl.map λ(j:Nat)=>rawInt j).toArray[((i:Int)).toNat]?=some (.int p 0):=by
  rw[Xp,List.getElem?_toArray,X8,hp];rfl
 dsimp only;rw[hg];show wpAny _ _ _ _ _ s;refine X0 (hN _ _ _ ?_);have ij:=Yq hd (·.setIfInBounds 1 (rawInt (i+1)));refine X0 (Yl ho hd (by simp) (X4 #[v,rfl,X4 (hQ _ ?_ (Y0 ..))]));refine#[_,Y3 _ ho (Yz ij),(Obj.cls_mapFields ..).trans hc,?_];rw[ij];simp[rawInt]
theorem xw3{I a:Addr}{sl i n ep:Nat}{Q:Option Value->Shared->Prop}(hh:A.handled=none)(ia:It s.heap I a (.int sl 0) i n ep)(hs:Stn s.heap a n ep)
  (hN:∀(A':Around) (E':VP9) (R:Option (Value×Nat)->Shared->Prop),R none s->wpAny (model prog w) A' (setNext a sl i ep) R E' s)
  (hQ:∀h',Heap.ExtBut I s.heap h'->Q none {s with heap:=h' }):wpAny (model prog w) A (pyNext (.ref I)) Q E s:=by
 obtain⟨o,ho,hc,hd⟩:=ia;obtain⟨os,es,t,ln,b7,hf,hn⟩:=hs;have hT:s.TypeIs (.ref I) "set_iterator":=#[o,ho,hc];refine X0 (wpAny_attempt (Y6 (name:=Str.ofString "__next__") hT slot_next (Y1 slot_next hT jz1 ?_ (kjl _))));show wpAny _ _ (fieldsOf (.ref I) >>= _) _ _ s;refine X0 (Za ho hd ?_);refine X0 (wpAny_setEntries_of ln b7 hf ?_);rw[Xg (by rw[hn];simp)];show wpAny _ _ (setNext a ((sl:Int)).toNat ((i:Int)).toNat ((ep:Int)).toNat >>= _) _ _ s;refine X0 (hN _ _ _ ?_);refine X0 (Yl ho hd (by simp) ?_);refine X0 ?_;refine X0 (m:=firstArgMember _ _) (wpAny_of_eq (a:=Value.none) (by first|rfl|(simp only[firstArgMember])) ?_);refine Y4 ?_ (by size_fits);refine X0 (wpAny_handled ?_);rw[show A.in1.handled=none from hh];refine X0 (X4 (wpAny_throw ?_));refine X0 (wpAny_isInstance (T:="StopIteration") (b:=true) #[_,X7 _ rfl,rfl] isSubtype_stop ?_);exact X4 (hQ _ (((Y0 ..).extBut.push _).push _))
theorem xw2{I a T:Addr}{i n ep:Nat}{pl:List Nat}{Q:Option Value->Shared->Prop}(hh:A.handled=none)(ia:It s.heap I a (.ref T) i n ep)(hs:Stn s.heap a n ep)(ul:∃o k,s.heap.get? T=some o/\o.data=.seq (pl.map λ(j:Nat)=>rawInt j).toArray k)
  (hp:pl[i]?=none) (hQ:∀h',Heap.ExtBut I s.heap h'->Q none {s with heap:=h' }):wpAny (model prog w) A (pyNext (.ref I)) Q E s:=by
 obtain⟨o,ho,hc,hd⟩:=ia;obtain⟨os,es,t,ln,b7,hf,hn⟩:=hs;obtain⟨oT,kT,hoT,rg⟩:=ul;have hT:s.TypeIs (.ref I) "set_iterator":=#[o,ho,hc];refine X0 (wpAny_attempt (Y6 (name:=Str.ofString "__next__") hT slot_next (Y1 slot_next hT jz1 ?_ (kjl _))));show wpAny _ _ (fieldsOf (.ref I) >>= _) _ _ s;refine X0 (Za ho hd ?_);refine X0 (wpAny_setEntries_of ln b7 hf ?_);rw[Xg (by rw[hn];simp)];refine X0 (wpAny_seqItems hoT rg ?_);have hg:(pl.map λ(j:Nat)=>rawInt j).toArray[((i:Int)).toNat]?=none:=by
  rw[Xp,List.getElem?_toArray,X8,hp];rfl
 dsimp only;rw[hg];have oj:=Yq hd (·.setIfInBounds 0 (rawInt 0));have lz:=Y3 (Obj.mapFields (·.setIfInBounds 0 (rawInt 0))) ho (Yz oj);refine X0 (Yl ho hd (by simp) ?_);refine X0 (Yl lz oj (by simp) ?_);refine X0 ?_;simp;refine X0 (m:=firstArgMember _ _) (wpAny_of_eq (a:=Value.none) (by first|rfl|(simp only[firstArgMember];rfl)) ?_);refine Y4 ?_ (by size_fits);refine X0 (wpAny_handled ?_);rw[show A.in1.handled=none from hh];refine X0 (X4 (wpAny_throw ?_));refine X0 (wpAny_isInstance (T:="StopIteration") (b:=true) #[_,X7 _ rfl,rfl] isSubtype_stop ?_);exact X4 (hQ _ ((((Y0 ..).trans (Y0 ..)).extBut.push _).push _))
end
section
variable {prog:Program}{w:World}{A:Around}{E:VP9}{s:Shared}
theorem qzy(hh:A.handled=none)(I a)(ck:a≠I){o es ep t}(hd:o.data=.set es ep t)(hf:t.fits es.size=true){fc:List Value}(hl:fc.length=es.size)(sl:Nat->Nat)
  (hN:∀i (s) (A') (E') (R),s.heap.get? a=some o->i<=es.size->R (fc[i]?.map λv=>(v,sl (i+1))) s->wpAny (model prog w) A' (setNext a (sl i) i ep) R E' s):
  Walks prog w A I [I,a] [I] es.size (λi v=>fc[i]?=some v) (λi h=>It h I a (.int (sl i) 0) i es.size ep/\h.get? a=some o) where
 sub:=λb hb=>by simp at hb;simp[hb]
 frame:=λ_ _ _ st hk=>#[st.1.at' λo e=>hk I (by simp) o e,hk a (by simp) _ st.2]
 item:=λi s Q E hi st hQ=>by
  have hv:fc[i]?=some (fc[i]'⋯):=X1 _;exact xjr st.1 #[o,es,t,st.2,hd,hf,rfl] (λA' E' R hR=>hN i s A' E' R st.2 (Nat.le_of_lt hi) (hv▸hR)) λh' jn jc=>(hQ _ h' s.toks hv #[jn,(jc.extBut a o ck st.2)] λb o hb e=>jc.extBut b o (λh=>hb (by simp[h])) e)
 done:=λs Q E st hQ=>by
  refine xw3 hh st.1 #[o,es,t,st.2,hd,hf,rfl] (λA' E' R hR=>hN es.size s A' E' R st.2 (X9 _) (by rw[Xy ⋯];exact hR)) λh' he=>?_
  exact hQ h' s.toks λb o hb e=>he b o (λh=>hb (by simp[h])) e
 self:=λ_ _ _ _ st hQ=>vjq st.1 hQ
theorem wk8(hh:A.handled=none)(I a T)(ck:a≠I)(hneT:T≠I){o oT es ep k t}(hd:o.data=.set es ep t)(hf:t.fits es.size=true){pl:List Nat}(hp:pl.Perm (List.range es.size))(rg:oT.data=.seq (pl.map λ(j:Nat)=>rawInt j).toArray k):
  Walks prog w A I [I,a,T] [I] es.size (λi v=>(pl.map λj=>(es.getD j (0,.none)).2)[i]?=some v) (λi h=>It h I a (.ref T) i es.size ep/\h.get? a=some o/\h.get? T=some oT) where
 sub:=λb hb=>by simp at hb;simp[hb]
 frame:=λ_ _ _ st hk=>#[st.1.at' λo e=>hk I (by simp) o e,hk a (by simp) _ st.2.1,hk T (by simp) _ st.2.2]
 item:=λi s Q E hi st hQ=>by
  have ak:pl.length=es.size:=by rw[hp.length_eq,Xz]
  have hv:pl[i]?=some (pl[i]'⋯):=X1 _;have c8:pl[i]'⋯<es.size:=List.mem_range.mp (hp.mem_iff.mp (Xu _));refine xjq (v:=(es.getD (pl[i]'⋯) (0,.none)).2) st.1 #[o,es,t,st.2.1,hd,hf,rfl] #[oT,k,st.2.2,rg] hv (λA' E' R hR=>?_) λh' jn jc=>?_
  ·refine X0 (Zj st.2.1 hd hf ?_);dsimp only;rw[Xg (by simp),Yk c8];refine X4 ?_;rw[Array.getD_eq_getD_getElem?,Yk c8]at hR;exact hR
  ·exact hQ _ h' s.toks (by rw[X8,hv];rfl) #[jn,(jc.extBut a o ck st.2.1),(jc.extBut T oT hneT st.2.2)] λb o hb e=>jc.extBut b o (λh=>hb (by simp[h])) e
 done:=λs Q E st hQ=>by
  have ak:pl.length=es.size:=by rw[hp.length_eq,Xz]
  refine xw2 hh st.1 #[o,es,t,st.2.1,hd,hf,rfl] #[oT,k,st.2.2,rg] (Xy ⋯) λh' he=>?_
  exact hQ h' s.toks λb o hb e=>he b o (λh=>hb (by simp[h])) e
 self:=λ_ _ _ _ st hQ=>vjq st.1 hQ
theorem vku(qh:tx w=true){a o es ep t}(hd:o.data=.set es ep t)(hf:t.fits es.size=true):
  ∀i s (A') (E') R,s.heap.get? a=some o->i<=es.size->R (((pickOrder (w.params.setOrder a ep) es).toList.map (·.2))[i]?.map λv=>(v,0)) s->wpAny (model prog w) A' (setNext a 0 i ep) R E' s:=by
 intro i s A' E' R ho hi hR;refine X0 (Zj ho hd hf ?_);show wpAny _ _ (if tx w=true then _ else _) _ _ _;rw[Xd qh,Xg (by simp)];refine X0 (X0 (Zj ho hd hf ?_));show wpAny _ _ (if tx w=true then _ else _) _ _ _;rw[Xd qh];refine X0 (wpAny_askSetting (X4 (X4 ?_)));rw[X8,Ye,Option.map_map]at hR;exact hR
end
section
variable {prog:Program}{w:World}{A:Around}{E:VP9}{s:Shared}
theorem vv2{t:SetTable}{n}(h:t.fits n=true):t.place.size=n:=by
 simp only[SetTable.fits,Bool.and_eq_true,beq_iff_eq]at h;exact h.1
noncomputable def sl1(t:SetTable)(i:Nat):Nat:=if i=0 then 0 else t.place.getD 0 0+1
theorem vxk(qh:tx w=false){a o es ep t}(hk:Ok prog w o es ep t)(h1:es.size<=1):
  ∀ i s (A') (E') R,s.heap.get? a=some o->i<=es.size->R ((es.toList.map (·.2))[i]?.map λv=>(v,sl1 t (i+1))) s->wpAny (model prog w) A' (setNext a (sl1 t i) i ep) R E' s:=by
 intro i s A' E' R ho hi hR;have hsz:=vv2 hk.f;refine X0 (Zj ho hk.d hk.f ?_);show wpAny _ _ (if tx w=true then _ else _) _ _ _;rw [Xg (by grind)];show wpAny _ _ (if(!t.plain&&decide _)=true then _ else _) _ _ _;rw [Xg ⋯];show wpAny _ _ ((if _=true then _ else pure ()) >>= _) _ _ _;rw [Xg (by rw[hk.led,qh];simp)];refine X4 ?_;obtain⟨es⟩:=es;obtain⟨mask,⟨pl⟩,du,fi,le,mo,pln⟩:=t;cases es with
 | nil=>
  cases pl with
  | nil=>
   have hi0:i=0:=by simpa using hi
   exact hR
  | cons=>cases hsz
 | cons e es=>
  cases es with
  | cons=>exact absurd h1 (by simp)
  | nil=>
   cases pl with
   | nil=>cases hsz
   | cons p pl=>
    cases pl with
    | cons=>cases hsz
    | nil=>
     have hb0:SetTable.below (List.toArray [p]) 0=0:=by
      show SetTable.below.go (List.toArray [p]) 0 1 0 1=0;unfold SetTable.below.go;rfl
     have hb1:SetTable.below (List.toArray [p]) (p+1)=1:=by
      show SetTable.below.go (List.toArray [p]) _ 1 0 1=1;unfold SetTable.below.go;rw[Xd (by simp),Xd (by simp)];rfl
     rcases(show i=0\/i=1 by have:i<=1:=hi;lia)with rfl|rfl
     ·show R _ s;exact hR
     ·show R (match ((List.toArray [e]):Array _)[SetTable.below (List.toArray [p]) (p+1)]?,_[SetTable.below (List.toArray [p]) _]? with|some (_,x),some j=>some (x,j+1)|_,_=>none) s
      rwa [hb1]
theorem vj2{es:Array (Int×Value)}{pl:List Nat}(hp:pl.Perm (List.range es.size)):(pl.map λj=>(es.getD j (0,.none)).2).Perm (es.toList.map (·.2)):=by
 refine(hp.map _).trans (.of_eq ?_);apply List.ext_getElem
 ·simp
 ·intro i h1 h2;simp at h1;simp[h1]
end
section
variable {prog:Program}{w:World}{A:Around}{E:VP9}{s:Shared}
theorem vz7{a o es ep t}(ho:s.heap.get? a=some o)(hk:Ok prog w o es ep t){Q}(h:Q (!tx w&&(!t.plain&&decide (es.size>1))) s):wpAny (model prog w) A (setDrawn a) Q E s:=by
 exact X0 (Zj ho hk.d hk.f (X0 (X0 (wpAny_askSetting (X4 (X4 h))))))
theorem wvh{a o es ep t Q}(ho:s.heap.get? a=some o)(hk:Ok prog w o es ep t)
  (h:∀h' (d) (I:Addr) (fp) (fc:List Value) (St),(∀b o,s.heap.get? b=some o->h'.get? b=some o)->s.heap.objs.size<=I->(∀b∈fp,b=a\/s.heap.objs.size<=b) ->
   (∀A',A'.handled=none->Walks prog w A' I fp [I] es.size (λi v=>fc[i]?=some v) St)->St 0 h'->fc.Perm (es.toList.map (·.2))->Q (.ref I) {s with heap:=h',drawn:=d}):wpAny (model prog w) A (pyIter (.ref a)) Q E s:=by
 have hT:s.TypeIs (.ref a) "set":=#[o,ho,hk.ex.1];have oq:=Xe ho;refine wpAny_pyIter_slot hT F.slot_set_iter (Y1 F.slot_set_iter hT qze ?_ (vvy _));unfold Builtin.«frozenset.__iter__» Builtin.Frozenset.slot0 slotArgs;simp only[List.isEmpty_nil,Bool.not_true,Bool.false_eq_true,↓reduceIte,bind_assoc,List.length_nil,bne_self_eq_false];refine X0 (X4 (X0 (X4 (X0 (X0 (wpAny_setEntries_of ho hk.d hk.f (X4 (X0 (vz7 ho hk ?_)))))))))
 by_cases hdr:(!tx w&&(!t.plain&&decide (es.size>1)))=true
 ·rw[Xd hdr];refine X0 (drawn es.size _ s (by simp) λpl d hp=>(X0 (wpAny_newTuple (X0 (wpAny_setEpoch_of (X5 _ ho) hk.d hk.f ?_)) (hsz:=by rw[X3,hp.length_eq,Xz];exact fits_of_scanBound hk.b))));refine X0 (Y4 (X4 #[_,rfl,"set_iterator",_,#[_,X7 _ rfl,rfl],slot_next.lookup,?_]));have hsz:(s.heap.push (seqObj "tuple" (pl.map λ(i:Nat)=>rawInt i).toArray 0)).objs.size=s.heap.objs.size+1:=Z8 ..;refine h _ d _ [_,a,s.heap.objs.size] (pl.map λj=>(es.getD j (0,.none)).2) _ (λb o e=>X5 _ (X5 _ e)) (hsz▸Zm _) (λb hb=>?_)
   (λA' hh=>wk8 hh _ a s.heap.objs.size (by rw[hsz];exact Xi (Yv oq)) (by rw[hsz];exact Xi (Nat.lt_succ_self _)) (o:=o) (oT:=seqObj "tuple" (pl.map λ(i:Nat)=>rawInt i).toArray 0) hk.d hk.f hp rfl)
   #[#[_,X7 _ rfl,rfl,rfl],X5 _ (X5 _ ho),X5 _ (X7 _ rfl)] (vj2 hp)
  rcases aD hb with rfl|hb
  ·exact .inr (hsz▸Zm _)
  rcases aD hb with rfl|hb
  ·exact .inl rfl
  ·rw[aC hb];exact .inr (X9 _)
 ·rw[Xg hdr];refine X0 (X4 (X0 (wpAny_setEpoch_of ho hk.d hk.f (X0 (Y4 (X4 #[_,rfl,"set_iterator",_,#[_,X7 _ rfl,rfl],slot_next.lookup,?_]))))));have hfp:∀b∈[s.heap.objs.size,a],b=a\/s.heap.objs.size<=b:=λb hb=>by
   rcases aD hb with rfl|hb
   ·exact .inr (X9 _)
   ·exact .inl (aC hb)
  cases qh:tx w with
  | true=>
   refine h _ s.drawn _ [_,a] ((pickOrder (w.params.setOrder a ep) es).toList.map (·.2)) _ (λb o e=>X5 _ e) (X9 _) hfp
    (λA' hh=>qzy hh _ a (Xi oq) (o:=o) hk.d hk.f (by rw[X3,(qjd _ es).length_eq,Xm]) (λ_=>0) (vku qh hk.d hk.f))
    #[#[_,X7 _ rfl,rfl,rfl],X5 _ ho] ((qjd _ es).map _)
  | false=>
   have h1:es.size<=1:=by
    rcases hk.pl with hp|hp
    ·grind
    ·lia
   refine h _ s.drawn _ [_,a] (es.toList.map (·.2)) _ (λb o e=>X5 _ e) (X9 _) hfp
    (λA' hh=>qzy hh _ a (Xi oq) (o:=o) hk.d hk.f (by simp) (sl1 t) (vxk qh hk h1))
    #[#[_,X7 _ rfl,rfl,rfl],X5 _ ho] (.refl _)
theorem wvo{a Q}(hT:s.TypeIs (.ref a) "set")(h:Q false s):wpAny (model prog w) A (Builtin.List.listLengthHint (.ref a)) Q E s:=by
 refine X0 (Zf hT F.slot_set_len.lookup ?_);generalize ou:_=id0
 wp_delta
 subst ou;refine X0 (wpAny_isInstance hT sub_set_self ?_);refine wpAny_ite_split (λms=>absurd ms ⋯) (λ_=>?_);refine X0 (wpAny_typeOf hT ?_);exact X4 h
theorem vjf:∀{vs},(∀v∈vs,∃x t,v=Value.str x t)->StrsAre vs (vs.map strOf)
 |[],_=>.nil
 |v::vs,h=>by
  obtain⟨x,t,rfl⟩:=h v X6;exact .cons x t (vjf λv hv=>h v (lc9 _ hv))
theorem qzf{a ls Q}(hh:A.handled=none)(hS:Has prog w s.heap a ls)
  (h:∀h' (d) (tk) (vs) (ss),(∀b o,s.heap.get? b=some o->h'.get? b=some o)->s.heap.objs.size<h'.objs.size->StrsAre vs ss->ss.Perm ls->Q vs {s with heap:=h',drawn:=d,toks:=tk}):
  wpAny (model prog w) A (collect (.ref a)) Q E s:=by
 obtain⟨o,es,ep,t,ho,hk,hp⟩:=hS;have oq:a<s.heap.objs.size:=Xe ho;unfold collect;refine X0 (wpAny_runValue (Yy F.entry_proto_collect ?_));rw[Z3 F.plain_proto_collect _];show wpAny _ A.in1 (newList [] >>= λl=>again (.builtin "list.__iadd__" #[[l,.ref a],[]])) _ _ s;refine X0 (Y4 (X4 #[plainId_quiet F.plain_list_iadd _,Yy F.entry_list_iadd ?_]));rw[Z3 F.plain_list_iadd _];have lz:(s.heap.push {cls:=.type "list",data:=.seq ([]:List Value).toArray}).get? a=some o:=X5 _ ho;have hT1:Shared.TypeIs {s with heap:=s.heap.push {cls:=.type "list",data:=.seq ([]:List Value).toArray}} (.ref a) "set":=#[o,lz,hk.ex.1];show wpAny _ A.in1 (Builtin.List.listExtendWith (.ref s.heap.objs.size) (.ref a) (.ref s.heap.objs.size)) _ _ _;unfold Builtin.List.listExtendWith;refine X0 (wpAny_typeOf hT1 ?_);have h1:Builtin.List.listSameRef (.ref s.heap.objs.size) (.ref a)=false:=by simp[Builtin.List.listSameRef];exact Zh oq
 have h2:(Value.type "set" == Value.type "list")=false:=⋯
 have h3:(Value.type "set" == Value.type "tuple")=false:=⋯
 simp only[h1,h2,h3,Bool.or_false,Bool.false_eq_true,if_false];refine X0 (wvh lz hk λh' d I fp fc St fm hI hfp W st0 hv=>(X0 (Y9 (wvo #[o,fm _ _ lz,hk.ex.1] ?_))));show wpAny _ A.in1 (PySem.rule "list.extend.makes-room" >>= λ_=>Builtin.List.listTouch (.ref s.heap.objs.size) >>= λ_=>
  again (.builtin "list.extend.loop" #[[.ref s.heap.objs.size,.ref I,.ref s.heap.objs.size],[]])) _ _ _
 refine X0 (Z9 ?_);have hsz:(s.heap.push {cls:=.type "list",data:=.seq ([]:List Value).toArray}).objs.size=s.heap.objs.size+1:=Z8 ..;have hI':s.heap.objs.size+1<=I:=by rw[<-hsz];exact hI
 have p5:s.heap.objs.size∉fp:=λhm=>by
  rcases hfp _ hm with e|e
  ·exact absurd e (Zh oq)
  ·grind
 have hS₁:h'.get? s.heap.objs.size=some {cls:=.type "list",data:=.seq ([]:List Value).toArray}:=fm _ _ (X7 _ rfl);refine X0 ?_;show wpAny _ A.in1 (updateSeq s.heap.objs.size (·.push .none) >>= λ_=>updateSeq s.heap.objs.size (·.pop)) _ _ _;refine X0 (wpAny_updateSeq hS₁ rfl ?_);have hS₂:=Y3 (Obj.mapSeq (·.push Value.none)) hS₁ rfl;refine wpAny_updateSeq hS₂ rfl ?_;have oth:∀b o,b≠s.heap.objs.size->h'.get? b=some o->((h'.update s.heap.objs.size (Obj.mapSeq (·.push Value.none))).update s.heap.objs.size (Obj.mapSeq (·.pop))).get? b=some o:=
  λb o hb e=>(Z7 _ _ (Ne.symm hb)).trans ((Z7 _ _ (Ne.symm hb)).trans e)
 have WW:=W A.in1 hh;have ak:fc.length=es.size:=by rw[hv.length_eq,X3,Xm]
 refine X4 #[plainId_quiet F.plain_extend_loop _,codeAny_extend_loopS WW.toS (fits_of_scanBound hk.b) _ p5 _ es.size 0 _ _ _ rfl (Yi _) (WW.frame 0 h' _ st0 λb hb o e=>oth b o (λe'=>p5 (e'▸hb)) e) (Y3 (Obj.mapSeq (·.pop)) hS₂ rfl) (ItemsOf.nil _) λs' i6 c' hm jr ay=>?_];show wpAny _ A (load s.heap.objs.size >>= _) _ _ s';refine X0 (wpAny_load jr ?_);have hac:i6.toList=fc:=by
  apply Zi;intro j
  by_cases hj:j<es.size
  ·have hj1:j<i6.size:=by rw[ay.1];exact hj
   rw[Ye,Yk hj1];exact(ay.2 j _ (Yk hj1)).symm
  ·rw[Xy (by rw[Xm,ay.1];lia),Xy ⋯]
 refine X4 ?_;rw[hac,Moved.eq_with hm];refine h _ d _ fc (fc.map strOf) (λb o e=>?_) (Xe jr) ?_ ?_
 ·have hb:b<s.heap.objs.size:=Xe e;have hbS:b≠s.heap.objs.size:=Xi hb;refine hm.heap b o (λhmem=>?_) (oth b o hbS (fm b o (X5 _ e)));rcases aD hmem with e'|hmem
  ·exact hbS e'
  ·rw[aC hmem]at hb;exact absurd hb (Nat.not_lt.mpr (Nat.le_of_succ_le hI'))
 ·exact vjf λv hvm=>by
   obtain⟨e,he,rfl⟩:=aE (hv.mem_iff.mp hvm);exact wjs hk.el he
 ·refine((hv.map strOf).trans (.of_eq ?_)).trans hp;rw[Xr];rfl
end
section
variable {prog:Program}{w:World}{A:Around}{E:VP9}{s:Shared}
theorem qxc{a ls Q}(hh:A.handled=none)(hS:Has prog w s.heap a ls)(h64:ls.length<64)
  (h:∀h' d (tk l e) out ss,(∀b o,s.heap.get? b=some o->h'.get? b=some o)->s.heap.objs.size<=l->h'.get? l=some (seqObj "list" out e)->StrsAre out.toList ss->ss.Perm ls->sortedS ss=true->Q (.ref l) {s with heap:=h',drawn:=d,toks:=tk}):
  wpAny (model prog w) A (call (.builtin "sorted") [.ref a]) Q E s:=by
 refine Calls.call_function_entry kind_sorted plain_sorted entry_sorted (args_sorted1 _) ?_;refine X0 (X4 ?_);refine X0 (qzf (by simpa using hh) hS λh' d tk vs ss fm hsz hv hp=>?_);have h64':vs.length<64:=by rw[kx4 hv,hp.length_eq];exact h64
 refine X0 (wpAny_newList ?_ (hsz:=by rw[sizeLine_eq];lia));have tm:(h'.push _).get? h'.objs.size=some (seqObj "list" vs.toArray 0):=X7 _ rfl;refine X0 (Y9 (Y1 slot_list_sort #[_,tm,rfl] entry_list_sort (list_sort_treeK strKind_oneLt tm hv.keysOf (λv₁ v₂ am e=>keyKind_strs (by rw[<-e];exact hv)) h64' λi9 a1 a2=>#[_,rfl,?_]) (args_list_sort _)));obtain⟨ss',h1,h2,h3⟩:=sorted_out_str hv a1 a2;obtain⟨e,he⟩:=sortedHeap_at tm;refine X4 #[_,rfl,h _ d tk _ e _ ss' (λb o q=>?_) (Nat.le_of_lt hsz) he h1 (h2.trans hp) h3];have hb:=Xe (fm b o q);rw[sortedHeap_old (Xi hb) (by rw[size_push'];exact Yv hb)];exact X5 _ (fm b o q)
end
end Sw
namespace Q
open PySem PySem.Spec PyProof.Rows L2 L3 Sw
section
variable {X:Cx}{Z:Fx0}{K:Frag}{q:Bool}{a:Ex}{e ea:Expr}{σ:L2.St}{H:Hp}{pos p p2 dk:Pos}{x y:Str}{a8:LA9}{s:Shared}
theorem Inv.dr{d}(I:L2.Inv X a8 σ H s):L2.Inv X a8 σ H {s with drawn:=d}:=#[I.ok,I.os,I.bare,I.base,I.loc,I.cell,I.free,I.freeC,I.pin,I.hok,I.len]
def xx9(X:Cx)(f:Value)(r:List Str->Hp->VK->Prop):Prop:=
 ∀(a8:LA9) (s:Shared) (σ:L2.St) (H:Hp) (b:Addr) (ls:List Str) (Q:VK),L2.Inv X a8 σ H s->Has X.prog X.w s.heap b ls->r ls H Q->wpAny (model X.prog X.w) X.A (call f [.ref b]) (EP X a8 σ Q) X.xe s
def xqy(K:Frag)(r:List Str->Hp->VK->Prop):List V->Hp->VK->Prop:=λxs H Q=>∃p ss,xs=[.ref p]/\SqL K H p (ss.map V.str)/\ss.length<4000/\r (dd ss) H Q
theorem wqq{id r t}(hc:X.calm=true)(hf:xx9 X (.builtin id) r)(hg:Gl X x)(hm:X.mg x=none)(hv:bootBuiltins x=some (.builtin id))(nt:Gl X "set")(n6:X.mg "set"=none)(hv2:bootBuiltins "set"=some (.type "set"))
  (ha:PE X e t) (hn:autoParam (x≠"__name__") ŕ) (fq:autoParam ((x==("__debug__":Str))=false) ŕ) (lu:autoParam (("set":Str)≠"__name__") ŕ) (hdb2:autoParam ((("set":Str)==("__debug__":Str))=false) ŕ)
  (he:autoParam (starEach [e] X.env=(false,eval e X.env)::starEach [] X.env) Ŕ):
  PE X (.Call (.Name x p) [.Call (.Name "set" p2) [e] [] dk] [] pos) (fun σ H Q=>t σ H λv H1=>xqy X.K r [v] H1 Q):=by
 intro a8 s σ H Q I h;refine Yo (K3 I hg hm hv (PyProof.Rows.callWith_builtin1 ?_ rfl rfl) hn fq);show wpAny _ _ (spliced (_::[])) _ _ s;refine Calls.spliced_cons (Yo (K3 I nt n6 hv2 (Y8 (thn (ww ha x6 he dk a8 s σ H (λvs H1=>xqy X.K r vs H1 Q) I ?_) λus s1 #[vs,H1,I1,r1,q1]=>?_) he rfl) lu hdb2))
 ·exact h
 obtain⟨b,ss,rfl,hq,hl,q⟩:=q1;obtain⟨u,rfl,rx⟩:=zJ r1;cases rx;obtain⟨af,r',pl,hz⟩:=I1.list hq;have ak:=r'.length;rw[X3]at ak hz;refine vzd (I1.ok.hd hc) pl.isList (by simpa using qxa r') (by simp;unfold scanBound;lia) λh' tk hS fm=>?_
 have I2:L2.Inv X a8 σ H1 {s1 with heap:=h',toks:=tk}:=I1.kept λb u q=>fm b u (Xe q) q
 exact Calls.spliced_nil (hf a8 _ σ H1 _ _ Q I2 hS q)
theorem qxe(hc:X.calm=true):xx9 X (.builtin "sorted") (λls H Q=>ls.length<64/\∀l,H l=none->Q (.ref l) (upd H l (.lst ((Jv ls).map V.str)))):=by
 intro a8 s σ H b ls Q I hS h;refine qxc (I.ok.hd hc) hS h.1 λh' d tk l e out ss fm hl hg h1 h2 h3=>?_
 have e1:=vwh h2 h3;subst e1;have hz:(Jv ls).length<=sizeLine:=by rw[(jvz ls).length_eq,sizeLine_eq];lia
 refine#[.ref l,_,Inv.dr (I.laid (t':=tk) fm hl ?_),rfl,h.2 l (I.hok.fresh hl)];exact#[by rw[X3];exact hz,out.toList,e,vj1 h1,by simpa using hg]
end
end Q
namespace Sw
open PySem PySem.Spec PyProof.Rows
theorem kx2:isSubtype (.type "tuple") (.type "set")=pure false:=by rw[isSubtype_type];kernel_rfl
theorem jzf:isSubtype (.type "tuple") (.type "frozenset")=pure false:=by rw[isSubtype_type];kernel_rfl
section
variable {prog:Program}{w:World}{A:Around}{E:VP9}{s:Shared}
set_option maxHeartbeats 8000000 in
theorem vvj{l:Addr}{items:Array Value}{ns:List Int}{Q:VP9}(hh:A.handled=none)(hl:s.heap.IsTuple l items)(hi:IntsAre items.toList ns)(hb:items.size+1<scanBound)
  (h:∀(h':Heap) (tk:Nat),h'.SetOf (intKind prog w) s.heap.objs.size (λk'=>(firstMet (λi=>ns.getD i 0) items.size).any (· == k')) (firstMet (λi=>ns.getD i 0) items.size).length->(∀b o,b<s.heap.objs.size->s.heap.get? b=some o->h'.get? b=some o)->Q (.ref s.heap.objs.size) {s with heap:=h',toks:=tk}):
  wpAny (model prog w) A (call (.type "set") [.ref l]) Q E s:=by
 obtain⟨c,tl,hmro⟩:=F.called_set.mro;have u5:=F.called_set.made;have gb:=F.called_set.sub;refine wpAny_call (codeAny_of_tree ?_);show wpAny _ _ (callAny (.type "set") _) _ _ _;refine X4 #[Code.quiet_builtin _ (by decide +kernel),Yy F.entry_type_call ?_];rw [Around.under_plain (weight_type_call_type "set" [.ref l] []) rfl];have h1:=F.called_set.notType;have h2:=F.called_set.canCreate;have hct:=F.typeCall_set_1 (.ref l)
 repeat (any_goals (first|assumption|wp_step))
 refine Zo (made (.ref l) (E:=E) (Q₁:=λobj s₁=>obj=.ref s.heap.objs.size/\s₁={s with heap:=s.heap.push (fresh w)}) #[rfl,rfl]) λr s₁ hr=>?_
 cases r with
 | error e=>exact hr
 | ok fl=>
 cases fl with
 | ret obj=>
  obtain⟨rfl,rfl⟩:=hr;have hS:(s.heap.push (fresh w)).get? s.heap.objs.size=some (fresh w):=X7 _ rfl;have hT:Shared.TypeIs {s with heap:=s.heap.push (fresh w)} (.ref s.heap.objs.size) "set":=#[_,hS,rfl];have hli:=F.called_set.init.lookup;have hbi:=F.called_set.init.bind (.ref s.heap.objs.size)
  repeat (any_goals (first|assumption|wp_step))
  refine Zo (codeAny_call_builtin (R:=wants (λr s₂=>r=.none/\∃h' tk,s₂={s with heap:=h',toks:=tk}/\h'.SetOf (intKind prog w) s.heap.objs.size (λk'=>(firstMet (λi=>ns.getD i 0) items.size).any (· == k')) (firstMet (λi=>ns.getD i 0) items.size).length /\
    (∀b o,b<s.heap.objs.size->s.heap.get? b=some o->h'.get? b=some o)) E) F.called_set.init.plain F.entry_set_init (check_set_init_1 hT ?_)) λr₂ s₂ px=>?_
  ·obtain⟨ol,sw,dl,nl,t7⟩:=hl;obtain⟨ocls,mf,u9,jy⟩:=ol;simp only at dl t7;subst dl;subst t7;have qi:(s.heap.push (fresh w)).get? l=some {cls:=.type "tuple",dict:=mf,data:=.seq items nl,slots:=jy}:=X5 _ sw;have hsls:=kx2;have hslf:=jzf;have ck:(Value.type "tuple" == Value.type "dict")=false:=⋯
   have gu:(s.heap.push (fresh w)).IsTuple l items:=#[_,qi,rfl,nl,rfl];have o8:l<s.heap.objs.size:=Xe sw;have pr:({cls:=.type "set",dict:=none,data:=.set (List.toArray []) 0 (.fresh 0 0 (!tx w))}:Obj)=fresh w:=rfl;unfold Builtin.«set.__init__» noKeywords Builtin.Frozenset.updateFrom;generalize hPI:pyIter=PI
   wp_walk
   subst hPI;refine wpAny_pyIter_tuple gu ?_;refine X0 (wpAny_runValue ?_);have hh3:A.in1.in1.in1.handled=none:=by simp[hh]
   have hsz:(s.heap.push (fresh w)).objs.size=s.heap.objs.size+1:=Z8 ..;have j':∀(i:Nat) (v:Value),items[i]?=some v->∃t,v=.int ((λi=>ns.getD i 0) i) t:=λi v hv=>IntsAre.int_at hi i v (by rw[Ye];exact hv)
   refine codeAny_set_update_loopS ((Walks.tuple hh3 _ l (by rw[hsz];exact Xi (Yv o8)) items).toS) s.heap.objs.size (by rw[hsz];simp only[Yt,Yg,or_false,not_or];exact#[Xi (Nat.lt_succ_self _),Zh o8]) (λi=>ns.getD i 0) j' hb (items.size - 0) 0 _ ⋯ (Yi _)
    #[#[_,X7 _ rfl,rfl,rfl],gu.at λo e=>X5 _ e] ?_ ?_
   ·exact SetOf_congr ((setObjOf_fresh (knd:=intKind prog w) (!tx w)).setOf (X5 _ hS) (by unfold scanBound;lia)) (λ_=>rfl) rfl
   ·intro s' hm jr;obtain⟨h',g',d',ny,qf⟩:=s';have eg:g'=s.gens:=hm.gens;have ed:d'=s.drawn:=hm.drawn;have eo:qf=s.os:=hm.os;subst eg;subst ed;subst eo;show wpAny _ _ _ _ _ _;refine X4 ?_;show wpAny _ _ (ret Value.none) _ _ _;refine X4 #[rfl,h',ny,rfl,jr,λb o hb e=>?_];exact hm.heap b o (by simp only[Yt,Yg,or_false,not_or];rw[hsz];exact#[Xi hb,Xi (Yv hb)]) (X5 _ (X5 _ e))
  ·cases r₂ with
   | error e=>exact px
   | ok fl₂=>
    cases fl₂ with
    |ret r=>
     obtain⟨rfl,h',tk,rfl,jr,av⟩:=px
     repeat (any_goals (first|assumption|wp_step))
     exact h _ _ jr av
    |_=>exact px.elim
 |_=>exact hr.elim
end
end Sw
namespace Q
open PySem PySem.Spec PyProof.Rows L2 L3 Sw
section
variable {X:Cx}{Z:Fx0}{K:Frag}{q:Bool}{a:Ex}{e ea:Expr}{σ:L2.St}{H:Hp}{pos p p2 dk:Pos}{x y:Str}{a8:LA9}{s:Shared}
theorem xkg{ss z}(h:z∈ddS ss):z∈ss:=by
 have:∀(l ah:List Str),z∈l.foldl (λl k=>if l.any (· == k)then l else l++[k]) ah->z∈ah\/z∈l:=by
  intro l
  induction l with
  | nil=>intro ah h;exact .inl h
  | cons k l ih=>
   intro ah h;rcases ih _ h with h|h
   ·dsimp only at h
    split at h
    ·exact .inl h
    ·rcases aA h with h|h
     ·exact .inl h
     ·exact .inr (aC h▸X6)
   ·exact .inr (lc9 _ h)
 rcases this ss [] h with h|h
 ·grind
 ·exact h
def rSS(K:Frag):List V->Hp->VK->Prop:=xqy K λls H Q=>ls.length<64/\∀l,H l=none->Q (.ref l) (upd H l (.lst ((Jv ls).map V.str)))
theorem qzk:Ad1 K (λv H Q=>rSS K [v] H Q) Zz:=by
 intro H x s Q ok hf k;unfold Zz at hf;dsimp only at hf;cases hx:x.d with
 | lst ds=>
  rw[hx]at hf;dsimp only at hf;obtain⟨l,xs,bs,ev,q3,r3,_⟩:=items ok (.inl hx);have q3:LsR K H l xs:=by rcases q3 with⟨_,z⟩|⟨z,_⟩;exact z;rw[hx]at z;cases z
  cases hs:Kq ds with
  | some ss=>
   rw[hs]at hf;dsimp only at hf
   split at hf
   ·rename_i hl;cases oq9 hf;obtain⟨e1,e2⟩:=kx3 hs r3;subst e1;exact#[l,ss,by rw[ev],Q6 q3,⋯,Nat.lt_of_le_of_lt (xkh ss) hl,λp hp=>(k _ _ rfl rfl (W5 hp (qvz λz hz=>e2 z (xkg ((jvz _).mem_iff.mp hz))) λb hb=>nomatch hb))]
   ·cases hf
  |none=>rw[hs]at hf;cases hf
 |_=>rw[hx]at hf;cases hf
theorem vk5(hK:X.K=Z.K)(hc:X.calm=true)(ha:QV X Z q a ea)(hm:X.mg "sorted"=none)(n6:X.mg "set"=none)(hg:autoParam (Gl X "sorted") Ŕ)(nt:autoParam (Gl X "set") Ŕ)(he:autoParam (starEach [ea] X.env=(false,eval ea X.env)::starEach [] X.env) Ŕ):
  QE X Z q (cF1 Zz a) (.Call (.Name "sorted" p) [.Call (.Name "set" p2) [ea] [] dk] [] pos):=
 qV (wqq hc (qxe hc) hg hm rfl nt n6 rfl ha (he:=he)) fun σ H Q h=>by
  have:=jz3 (r:=λv H Q=>rSS Z.K [v] H Q) qzk h
  rwa [hK]
theorem xk5(ns:List Int):∀i,i<=ns.length->firstMet (λi=>ns.getD i 0) i=(ns.take i).foldl step_dedup []
 |0,_=>rfl
 |i+1,h=>by
  rw[firstMet_succ,xk5 ns i (Nat.le_of_succ_le h),List.take_succ,List.foldl_append,X2,X1 h];rfl
end
end Q
namespace Q
open PySem PySem.Spec PyProof.Rows L2 L3
section
variable {X:Cx}{Z:Fx0}{K:Frag}{H:Hp}{q g:Bool}{a:Ex}{e:Expr}{p2 pos:Pos}{x:Str}{d:D}{ds:List D}{v:V}{vs:List V}
def xqh(o:Obj)(xs:List V):Prop:=o.cls=.type "tuple"/\o.dict=none/\∃af n,o.data=.seq af n/\af.size<=sizeLine/\Vals xs af.toList
theorem qqn{b:Addr}{o:Obj}(h:K.lookup b=some o)(m:xqh o vs):SqT K H b vs:=by
 obtain⟨m1,m2,af,n,m3,m4,m5⟩:=m;exact .inr #[o,af,n,h,m1,m2,m3,m4,m5]
theorem wkw:RepA K H g [] [] []:=by unfold RepA;exact#[rfl,rfl]
theorem YK(h:RepL K H g d v [])(r:RepA K H g ds vs []):RepA K H g (d::ds) (v::vs) []:=by
 unfold RepA;exact#[v,vs,[],[],rfl,rfl,h,r]
theorem xqv{b:Addr}(h:SqT K H b vs)(r:RepA K H g ds vs []):RepL K H g (.tup ds) (.ref b) []:=by
 unfold RepL;exact#[b,vs,rfl,h,r]
def xwd(K:Frag)(mg:Str->Option Value)(x:Str)(d:D):Prop:=∃v,Cst mg x v/\∀H,RepL K H false d v []
theorem xww(c:xwd Z.K X.mg x d)(hg:autoParam (Gl X x) Ŕ)(hd:autoParam ((x==("__debug__":Str))=false) ŕ):QE X Z true (cC d) (.Name x pos):=by
 obtain⟨v,c,r⟩:=c;exact q_C (zw c hg hd) r
end
end Q
namespace Q
open PySem
def jz0:D->Option D:=λx=>match x with
 |.tup ds=>(match V1 ds with
  |some is=>if is.length<4000 then some (.int (ddI is).length)else none
  |none=>none)
 |_=>none
end Q
namespace Q
open PySem PySem.Spec PyProof.Rows L2 L3 Sw
section
variable {X:Cx}{Z:Fx0}{K:Frag}{q:Bool}{a:Ex}{e ea:Expr}{σ:L2.St}{H:Hp}{pos p p2 dk:Pos}{a8:LA9}{s:Shared}
def xq2(K:Frag):List V->Hp->VK->Prop:=λxs H Q=>∃p ns,xs=[.ref p]/\SqT K H p (ns.map V.int)/\ns.length<4000/\Q (.int (ddI ns).length) H
theorem qxo{t:TE}(hc:X.calm=true)(hg:Gl X "len")(hm:X.mg "len"=none)(nt:Gl X "set")(n6:X.mg "set"=none)(ha:PE X e t)(he:autoParam (starEach [e] X.env=(false,eval e X.env)::starEach [] X.env) Ŕ):
  PE X (.Call (.Name "len" p) [.Call (.Name "set" p2) [e] [] dk] [] pos) (fun σ H Q=>t σ H λv H1=>xq2 X.K [v] H1 Q):=by
 intro a8 s σ H Q I h;refine Yo (K3 I hg hm (u:=.builtin "len") rfl ?_ ⋯ ⋯);refine PyProof.Rows.callWith_builtin1 ?_ rfl rfl;show wpAny _ _ (spliced ((false,eval (.Call (.Name "set" p2) [e] [] dk) X.env)::[])) _ _ s;refine Calls.spliced_cons ?_;refine Yo (K3 I nt n6 (u:=.type "set") rfl ?_ ⋯ ⋯);refine Y8 (thn (ww ha x6 he dk a8 s σ H (λvs H1=>xq2 X.K vs H1 Q) I ?_) λus s1 #[vs,H1,I1,r1,q1]=>?_) he rfl
 ·exact h
 obtain⟨b,ss,rfl,hq,hl,q⟩:=q1;obtain⟨u,rfl,rx⟩:=zJ r1;cases rx;obtain⟨af,r',pl,hz⟩:=I1.tuple hq;have ak:=r'.length;rw[X3]at ak;refine vvj (ns:=ss) (I1.ok.hd hc) pl (by simpa using qz8 r') (by simp;unfold scanBound;lia) λh' tk hS fm=>?_
 have I2:L2.Inv X a8 σ H1 {s1 with heap:=h',toks:=tk}:=I1.kept λb u q=>fm b u (Xe q) q
 obtain⟨o,es,ep,t,ho,hex,hd,hel,hmem,hb,hf,hn⟩:=hS;have lu:es.size=(ddI ss).length:=by
  rw[hn,show af.toArray.size=ss.length by simp;lia,xk5 ss _ (X9 _),List.take_length];rfl
 refine Calls.spliced_nil (call_len_set ho hex hd hf (by unfold scanBound at hb;lia) ?_);refine#[.int (ddI ss).length,H1,?_,by rw[lu];exact#[_,rfl],q];exact I2.kept (h':=h') λb u q=>q
theorem qzm:Ad1 K (λv H Q=>xq2 K [v] H Q) (pu1 jz0):=by
 intro H x s Q ok hf k;unfold pu1 jz0 at hf;dsimp only at hf;cases hx:x.d with
 | tup ds=>
  rw[hx]at hf;dsimp only at hf;obtain⟨l,xs,bs,ev,q3,r3,_⟩:=items ok (.inr hx);have q3:SqT K H l xs:=by rcases q3 with⟨z,_⟩|⟨_,z⟩;rw[hx]at z;cases z;exact z
  cases hi:V1 ds with
  | none=>rw[hi]at hf;cases hf
  | some ss=>
   rw[hi]at hf;dsimp only at hf
   split at hf
   ·rename_i hl;cases oq9 hf;have e1:=qwl hi r3;subst e1;exact#[l,ss,by rw[ev],q3,hl,k #[.dp,.int _,.int _,[]] H rfl rfl Q8]
   ·cases hf
 |_=>rw[hx]at hf;cases hf
theorem vk6(hK:X.K=Z.K)(hc:X.calm=true)(ha:QV X Z q a ea)(hm:X.mg "len"=none)(n6:X.mg "set"=none)(hg:autoParam (Gl X "len") Ŕ)(nt:autoParam (Gl X "set") Ŕ)(he:autoParam (starEach [ea] X.env=(false,eval ea X.env)::starEach [] X.env) Ŕ):
  QE X Z q (cF1 (pu1 jz0) a) (.Call (.Name "len" p) [.Call (.Name "set" p2) [ea] [] dk] [] pos):=
 qV (qxo hc hg hm nt n6 ha (he:=he)) fun σ H Q h=>by
  have:=jz3 (r:=λv H Q=>xq2 Z.K [v] H Q) qzm h;rw[hK];exact this
end
end Q
namespace L3
open PySem PySem.Spec PyProof.Rows L2
theorem wqd{X:Cx}{pos:Pos}{ex:Expr}{t:XK->TE}(h:PEX X ex t):PSX X (.Return (some ex) pos) (λE=>xwf (t E)):=by
 intro E a8 s σ H D I hw;exact wpAny_Return_some (thn (h E a8 s σ H _ I hw) λv s1 #[x,H1,I1,r1,q1]=>#[x,σ,H1,I1,r1,q1])
end L3
namespace Q
open PySem PySem.Spec PyProof.Rows L2 L3
theorem wq3{X:Cx}{Z:Fx0}{pn:List Nat}{q:Bool}{b:Ex}{e:Expr}{pos:Pos}{ux:Str}{np mj iw:Pos}{UC:Addr}{b0:Stmt}{jl:List Stmt}{cs:List Str}{h:Sm}(top:J4 X)(hU:X.mg ux=some (.ref UC))(hK:X.K=Z.K)(ca:qkx X.K Z.mg UC cs)(hb:QEX X Z q b e)
  (hs:∀x,QSs (tX X x) #[Z.K,Z.mg,λ_ _ _=>False] pn h (b0::jl)) (hg:autoParam (Gl X ux) Ŕ) (fq:autoParam ((ux==("__debug__":Str))=false) ŕ):
  QS X Z pn (V8 cs (jx b) h) (.Try [.Return (some e) pos] [.ExceptHandler (some (.Name ux np)) none (b0::jl) mj] [] [] iw):=
 JJ (wqg top hU (wqd hb) hs hg fq) λD σ H hr=>vja hK ca (λEX E L r m w hB hx hk=>by
  have hB:ofE (b E) (λE x=>some (.rt E x))=some r:=hB;rcases jw2 hB with⟨E1,s,h1,h2⟩|⟨E1,c,h1,rfl⟩
  ·cases oq9 h2;refine#[E,L,_,m,w,h1,(λ_ _ z=>by cases z),λE' s' z x L' H' e1 e2 m' w' st sm=>?_];injection z with z1 z2;subst z1 z2;exact hk (λ_ _ z=>nomatch z) x σ L' H' e1 e2 Pn.refl m' w' st
  ·exact#[E,L,_,m,w,h1,(λE' c' e C L' H' hm m' w' st=>by injection e with z1 z2;subst z1 z2;exact hx _ _ rfl C L' H' hm m' w' st),λE' s' z=>by cases z]) hr
end Q
namespace Q
open PySem
theorem wje n (h:300<=n):10 ^ 70<2 ^ n:=Xl (show 10 ^ 70<2 ^ 240 by decide) (Nat.pow_le_pow_right ⋯ ⋯)
theorem xj8:(10:Nat) ^ 70<2 ^ 4096:=wje 4096 ⋯
theorem mul_l{o1 o2 a b}(h1:-18446744073709551616<a)(h2:a<18446744073709551616):W6 (o1,.int a) (o2,.int b)=some (.dp,.int (a*b)):=by
 have:V9 a b=true:=by
  have:vjp a=true:=by unfold vjp;rw[Xj (show -_<a by lia),Xj (show a<2 ^ 64 by lia)];rfl
  unfold V9;rw[this];rfl
 show(if V9 a b=true then _ else _)=_;rw[Xd this]
theorem xj7{o1 o2:Own}{a b:Int}(h1:-(10 ^ 70)<a)(h2:a<10 ^ 70)(h3:-(10 ^ 70)<b)(h4:b<10 ^ 70):W6 (o1,.int a) (o2,.int b)=some (.dp,.int (a*b)):=by
 have lg:∀{c:Int},c.natAbs<10 ^ 70->c.natAbs.log2<2000000:=fun {c} h=>by
  rcases Nat.eq_zero_or_pos c.natAbs with h0|hp
  ·rw[h0];decide
  ·exact Nat.lt_trans ((Nat.log2_lt (Zh hp)).mpr (Nat.lt_trans h xj8)) ⋯
 have ha:a.natAbs.log2<2000000:=lg ⋯;have hb:b.natAbs.log2<2000000:=lg ⋯;have:V9 a b=true:=by unfold V9;rw[Xj ha,Xj hb];simp
 show(if V9 a b=true then _ else _)=_;rw[Xd this]
theorem add_i{o1 o2:Own}{a b:Int}:kY (o1,.int a) (o2,.int b)=some (.dp,.int (a+b)):=rfl
theorem sub_i{a b:Int}:xq9 (.int a) (.int b)=some (.int (a - b)):=rfl
theorem div_i{a b}(h:0<b)(h2:b<10 ^ 70):xq (.int a) (.int b)=some (.int (a / b)):=by
 have hb:b.natAbs.log2<9000:=by
  exact(Nat.log2_lt ⋯).mpr (Nat.lt_trans (show b.natAbs<10 ^ 70 by lia) (wje 9000 (by simp)))
 show(if 0<b/\b.natAbs.log2<9000 then some _ else none).map _=_;rw[Xd #[h,hb]];rfl
theorem mod_i{a b}(h:0<b):qx (.int a) (.int b)=some (.int (a % b)):=by
 show(if 0<b then some _ else none).map _=_;rw[Xd h];rfl
theorem pow_i{a b}(h1:0<=b)(h2:b<=1000)(h3:-1000000<a)(h4:a<1000000):xqa (.int a) (.int b)=some (.int (a ^ b.toNat)):=by
 show(if 0<=b/\b<=1000000/\a.natAbs<2 ^ 64 then some _ else none).map _=_;rw[Xd #[h1,⋯,⋯]];rfl
theorem Wv{a b}:fEq (.int a) (.int b)=some (.bl (a==b)):=rfl
theorem lt_ii{a b}:fLt (.int a) (.int b)=some (.bl (decide (a<b))):=rfl
theorem gt_ii{a b:Int}:fGt (.int a) (.int b)=some (.bl (decide (b<a))):=rfl
theorem le_ii{a b}:fLe (.int a) (.int b)=some (.bl (decide (a<=b))):=rfl
theorem ge_ii{a b:Int}:fGe (.int a) (.int b)=some (.bl (decide (b<=a))):=rfl
theorem xk{xs i d}(h0:0<=i)(h:xs[i.toNat]?=some d):jQ (.lst xs) (.int i)=some d:=by
 show((ixN xs.length i).bind λj=>xs[j]?)=some d;have hl:=(List.getElem?_eq_some_iff.mp h).1;unfold ixN
 rwa [Xd h0,Xd ⋯]
theorem ix_t{xs i d}(h0:0<=i)(h:xs[i.toNat]?=some d):jQ (.tup xs) (.int i)=some d:=by
 show((ixN xs.length i).bind λj=>xs[j]?)=some d;have hl:=(List.getElem?_eq_some_iff.mp h).1;unfold ixN
 rwa [Xd h0,Xd ⋯]
theorem len_l{xs:List D}:qw (.lst xs)=some (.int xs.length):=rfl
theorem len_t{xs:List D}:qw (.tup xs)=some (.int xs.length):=rfl
theorem vvz{o1 o2 a b}(h1:o1≠.dp)(h2:o2≠.dp)(hl:a.length+b.length<10000):kY (o1,.lst a) (o2,.lst b)=some (.rt,.lst (a++b)):=by
 show(if a.length+b.length<=big/\qY _/\qY _ then _ else _)=_;rw[Xd #[by unfold big;lia,by cases o1<;>simp_all [qY],by cases o2<;>simp_all [qY]]]
theorem tup_l{o xs}(h:o≠.dp):KY (o,.lst xs)=some (.no,.tup xs):=by
 show(if qY _ then _ else _)=_;rw[Xd (by cases o<;>simp_all [qY])]
abbrev XP:=Str->Prop
theorem nd{α}{a b:α}(h:a=b):a=b:=h
@[irreducible] noncomputable def Eo {α:Type} (m:Option (Res α)) (P:En->α->Prop) (X:XP):Prop:=match m with
 |some (.ok E a)=>P E a|some (.exc _ c)=>X c|none=>False
@[irreducible] noncomputable def Vo {α:Type} (m:Option α) (P:α->Prop):Prop:=match m with
 |some a=>P a|none=>False
@[irreducible] noncomputable def Oo (f:Fn) (xs:List Sd) (P:Sd->Prop) (X:XP):Prop:=match f xs with
 |some (.ok _ y)=>P y|some (.exc _ c)=>X c|none=>False
@[irreducible] noncomputable def Po (r:Option Fl) (N C:En->Prop) (R:Sd->Prop) (X:XP):Prop:=match r with
 |some (.nx E)=>N E|some (.ct E)=>C E|some (.rt _ x)=>R x|some (.xc _ c)=>X c|_=>False
abbrev noX:XP:=λ_=>False
section
variable {α β:Type}{P:En->α->Prop}{X:XP}{N C:En->Prop}{R:Sd->Prop}{E:En}
theorem Qj{a}:Eo (some (.ok E a)) P X=P E a:=nd (by ac_rfl)
theorem vv6{c:Str}:Eo (some (.exc E c):Option _) P X=X c:=nd (by ac_rfl)
theorem vv4:Eo none P X=False:=nd (by ac_rfl)
theorem kq{m}{f:En->β->Option _}:Eo (bnd m f) P X=Eo m (λE a=>Eo (f E a) P X) X:=by
 cases m with|none=>ac_rfl|some r=>cases r<;>ac_rfl
theorem vo_some{a}{P:α->Prop}:Vo (some a) P=P a:=nd (by ac_rfl)
theorem vo_map{x}{f:β->α}{P}:Vo (x.map f) P=Vo x (λa=>P (f a)):=by cases x<;>ac_rfl
theorem J5{x}:Eo (val E x) P X=Vo x (P E):=by cases x<;>ac_rfl
theorem wzf{E}:Po (some (.nx E)) N C R X=N E:=nd (by ac_rfl)
theorem xvd{E:En}{x:Sd}:Po (some (.rt E x)) N C R X=R x:=nd (by ac_rfl)
theorem Q9{m}{f:En->α->Option Fl}:Po (ofE m f) N C R X=Eo m (λE a=>Po (f E a) N C R X) X:=by
 cases m with|none=>ac_rfl|some r=>cases r<;>ac_rfl
theorem wj2{a b}:Po (j7 a b E) N C R X=Po (a E) (λE=>Po (b E) N C R X) C R X:=by
 unfold j7 Po;cases a E with|none=>ac_rfl|some r=>cases r<;>ac_rfl
theorem wzg{x:Option β}{f:β->Fl}:Po (x.map f) N C R X=Vo x (λa=>Po (some (f a)) N C R X):=by cases x<;>ac_rfl
theorem Eo.mono{m P'}(h:Eo m P X)(k:∀E a,P E a->P' E a):Eo m P' X:=by
 cases m with
 |none=>exists h
 |some r=>cases r with|ok E a=>exists k E a h|exc E c=>exists h
theorem Oo.mono{f xs P P'}(h:Oo f xs P X)(k:∀y,P y->P' y):Oo f xs P' X:=by
 unfold Oo at h ⊢;cases hf:f xs with
 |none=>simp_all
 |some r=>rw[hf]at h;cases r with|ok E a=>exists k a h|exc E c=>simp_all
theorem Oo.out{f xs P}(h:Oo f xs P noX):∃E y,f xs=some (.ok E y)/\P y:=by
 unfold Oo at h;cases hf:f xs with
 |none=>simp_all
 |some r=>rw[hf]at h;cases r with|ok E a=>with_unfolding_all exact#[E,a,rfl,h]|exc E c=>exists (h).elim
theorem k7{n b xs P}(h:Po (b (xs.map some++List.replicate (n - xs.length) none)) (λ_=>P (.dp,.non)) (λ_=>False) P X):Oo (fn n b) xs P X:=by
 unfold Oo fn;unfold Po at h;cases hb:b _ with|none=>simp_all|some r=>rw[hb]at h;cases r<;>exists h
theorem wvx{f cs P}:Eo (jz f cs E) P X=Eo (vq cs E) (λE xs=>Oo f (letAll xs) (P E) X) X:=by
 unfold jz;rw[kq]
 congr 1
 funext E xs;unfold Oo;cases f _ with|none=>ac_rfl|some r=>cases r<;>ac_rfl
theorem vz4{f:Fn}{cs:List Ex}{P:En->Sd->Prop}:Eo (qkl f cs E) P X=Eo (vq cs E) (λE xs=>Oo f (letAll xs) (λy=>y.2.pure=true/\P E (.dp,y.2)) X) X:=by
 unfold qkl;rw[kq]
 congr 1
 funext E xs;unfold Oo;cases f _ with
 | none=>ac_rfl
 | some r=>
  cases r with
  |exc=>ac_rfl
  |ok E1 y=>
   dsimp only
   by_cases hp:y.2.pure=true
   ·rw[Xd hp];with_unfolding_all exact propext #[λh=>#[hp,h],λh=>h.2]
   ·rw[Xg hp];with_unfolding_all exact propext #[λh=>(h).elim,λh=>hp h.1]
noncomputable def xqf(d:D){α:Type}(a b:Option α):Option α:=match d with
 |.bl k=>if k=true then a else b|_=>none
theorem ww9(a b:Ex):vQ a b E=bnd (a E) λE x=>xqf x.2 (b E) (some (.ok E (.dp,.bl false))):=by
 unfold vQ xqf
 congr 1
 funext E x;cases x.2 with|bl k=>cases k<;>ac_rfl|_=>ac_rfl
theorem xkm(a b:Ex):cOr a b E=bnd (a E) λE x=>xqf x.2 (some (.ok E (.dp,.bl true))) (b E):=by
 unfold cOr xqf
 congr 1
 funext E x;cases x.2 with|bl k=>cases k<;>ac_rfl|_=>ac_rfl
theorem qqf{tg b}(I:En->List D->Prop)(hs:∀E d ds,I E (d::ds)->Vo (tg.put d E) λE1=>Po (b E1) (λE2=>I E2 ds) (λE2=>I E2 ds) R X)(h1:∀E,I E []->N E):∀ds E,I E ds->Po (Qk tg b ds E) N C R X
 | [],E,h=>by exists h1 E h
 | d::ds,E,h=>by
  have h2:=hs E d ds h;unfold Qk;cases hp:tg.put d E with
  | none=>rw[hp]at h2;exists (h2).elim
  | some E1=>
   rw[hp]at h2;have h2:Po (b E1) (λE2=>I E2 ds) (λE2=>I E2 ds) R X:=by exists h2
   dsimp only;cases hb:b E1 with
   |none=>rw[hb]at h2;exists (h2).elim
   |some r=>
    rw[hb]at h2;cases r with|nx E2=>exists qqf I hs h1 ds E2 h2|ct E2=>exists qqf I hs h1 ds E2 h2|rt E2 x=>exists h2|xc E2 c=>exists h2|bk E2=>exists (h2).elim
theorem z8{it tg}{b} I (h0:Eo (it E) I X)(hs:∀E d ds,I E (d::ds)->Vo (tg.put d E) λE1=>Po (b E1) (λE2=>I E2 ds) (λE2=>I E2 ds) R X)(h1:∀E,I E []->N E):Po (vZ it tg b E) N C R X:=by
 show Po (ofE _ λE ds=>Qk tg b ds E) N C R X;rw[Q9]
 exists h0.mono λE ds h=>qqf I hs h1 ds E h
theorem vx5{t:Ts}{b:Sm}(I:Nat->En->Prop)(hs:∀n E,I n E->Eo (t E) (λE1 k=>if k=true then Po (b E1) (λE2=>∃m,m<n/\I m E2) (λE2=>∃m,m<n/\I m E2) R X else N E1) X):∀n E,I n E->Po (sWhile t b E) N C R X:=by
 intro n
 induction n using Nat.strongRecOn with
 | _ n ih=>
  intro E h;have h2:=hs n E h;rw [sWhile];cases ht:t E with
  | none=>rw[ht]at h2;exists (h2).elim
  | some r=>
   rw [ht]at h2;cases r with
   | exc E1 c=>exists h2
   | ok E1 k=>
    cases k with
    | false=>exists h2
    | true=>
     have h2:Po (b E1) (λE2=>∃m,m<n/\I m E2) (λE2=>∃m,m<n/\I m E2) R X:=by exists h2
     dsimp only;cases hb:b E1 with
     |none=>rw[hb]at h2;exists (h2).elim
     |some r=>
      rw[hb]at h2;cases r with|nx E2=>exact(show ∃m,m<n/\I m E2 by exists h2).elim λm hh=>ih m hh.1 E2 hh.2|ct E2=>exact(show ∃m,m<n/\I m E2 by exists h2).elim λm hh=>ih m hh.1 E2 hh.2|rt E2 x=>exists h2|xc E2 c=>exists h2|bk E2=>exists (h2).elim
theorem vv5{tg t c P}(J:En->List D->List Sd->Prop)(hs:∀B d ds ah,J B (d::ds) ah->Vo (tg.put d B) λB1=>Eo (t B1) (λB2 k=>if k=true then Eo (c B2) (λB3 y=>J B3 ds (ah++[y])) X else J B2 ds ah) X)(h1:∀B ah,J B [] ah->P B ah):∀ds B ah,J B ds ah->Eo (lcL tg t c ds B ah) P X
 | [],B,ah,h=>by exists h1 B ah h
 | d::ds,B,ah,h=>by
  have h2:=hs B d ds ah h;unfold lcL;cases hp:tg.put d B with
  | none=>rw[hp]at h2;exists (h2).elim
  | some B1=>
   rw[hp]at h2;have h2:Eo (t B1) (λB2 k=>if k=true then Eo (c B2) (λB3 y=>J B3 ds (ah++[y])) X else J B2 ds ah) X:=by exists h2
   rw[kq];refine h2.mono λB2 k h3=>?_
   cases k with
   |false=>exists vv5 J hs h1 ds B2 ah h3
   |true=>
    show Eo (bnd _ _) P X;rw[kq]
    exists Eo.mono h3 λB3 y h4=>vv5 J hs h1 ds B3 _ h4
theorem Qw{o k r it tg t c P}(J:En->En->List D->List Sd->Prop)(h0:Eo (it E) (λE1 ds=>J E1 (wwm k r E1) ds []) X)
  (hs:∀E1 B d ds ah,J E1 B (d::ds) ah->Vo (tg.put d B) λB1=>Eo (t B1) (λB2 k=>if k=true then Eo (c B2) (λB3 y=>J E1 B3 ds (ah++[y])) X else J E1 B2 ds ah) X) (h1:∀E1 B ah,J E1 B [] ah->Eo (mkL o (JK k r B E1) ah) P X):Eo (cLC o k r it tg t c E) P X:=by
 unfold cLC;rw[kq];refine h0.mono λE1 ds hJ=>?_
 have:=vv5 _ (hs E1) (h1 E1) ds _ _ hJ;cases hl:lcL tg t c ds _ []with|none=>rw[hl]at this;exists (this).elim|some q=>rw[hl]at this;cases q<;>exists this
end
theorem mulT_i{o1 a y}:J3 (o1,.int a) y=W6 (o1,.int a) y:=by
 unfold J3;ac_rfl
def sl(q:Option (Option Sd)):Option Sd:=match q with
 |some (some x)=>some x|_=>none
theorem sl_some{x}:sl (some (some x))=some x:=nd (by ac_rfl)
def xqe(d:D)(a b:Prop):Prop:=match d with
 |.bl k=>if k=true then a else b|_=>False
theorem andP_bl{k a b}:xqe (.bl k) a b=if k=true then a else b:=nd (by ac_rfl)
def Wo{α:Type}(m:Option α)(E:En)(P:En->α->Prop):Prop:=Vo m (P E)
theorem wo_some{α a E}{P:En->α->Prop}:Wo (some a) E P=P E a:=vo_some
theorem wo_map{α β x}{f:β->α}{E P}:Wo (x.map f) E P=Wo x E (λE a=>P E (f a)):=vo_map
def Oe(f:Fn)(xs:List Sd)(E:En)(P:En->Sd->Prop)(X:XP):Prop:=Oo f xs (P E) X
def intP(d:D)(P:Int->Prop):Prop:=match d with
 |.int i=>P i|_=>False
def Ie(d:D)(E:En)(P:En->Int->Prop):Prop:=intP d (P E)
theorem ie_i{i E P}:Ie (.int i) E P=P E i:=nd (by ac_rfl)
section
variable {P:En->Sd->Prop}{T:En->Bool->Prop}{X:XP}{N C:En->Prop}{R:Sd->Prop}{E:En}{e:Option Sd}{a b c:Ex}{t u:Ts}{i:Nat}
theorem w_seq{a b}:Po (j7 a b (e::E)) N C R X=Po (a (e::E)) (λE=>Po (b E) N C R X) C R X:=wj2
theorem w_asg:Po (jw i c (e::E)) N C R X=Eo (c (e::E)) (λE x=>N (E.set i (some x))) X:=by unfold jw;rw[Q9];ac_rfl
theorem w_ret:Po (jx c (e::E)) N C R X=Eo (c (e::E)) (λ_ x=>R x) X:=by unfold jx;rw[Q9];ac_rfl
theorem w_pass:Po (qj (e::E)) N C R X=N (e::E):=nd (by ac_rfl)
theorem w_if{a b}:Po (sIf t a b (e::E)) N C R X=Eo (t (e::E)) (λE k=>if k=true then Po (a E) N C R X else Po (b E) N C R X) X:=by
 unfold sIf;rw[Q9];congr 1;funext E k;cases k<;>ac_rfl
theorem w_tup{is:List Nat}:Po (Zq is c (e::E)) N C R X=Eo (c (e::E)) (λE x=>Vo (Tg.put (.t is) x.2 E) N) X:=by
 unfold Zq;rw[Q9];congr 1;funext E x;rw[wzg];ac_rfl
theorem w_fz{s:Sm}:Po (sFz i s (e::E)) N C R X=Po (s (qz9 i (e::E))) N C R X:=nd (by ac_rfl)
theorem w_vV:Eo (vV i (e::E)) P X=Wo (sl (e::E)[i]?) (e::E) P:=by
 unfold vV Wo;cases(e::E)[i]? with|none=>ac_rfl|some q=>cases q<;>ac_rfl
theorem w_cV:Eo (cV i (e::E)) P X=Wo (sl (e::E)[i]?) (e::E) (λE x=>P (E.set i (some (.no,x.2))) (.no,x.2)):=by
 unfold cV Wo;cases(e::E)[i]? with|none=>ac_rfl|some q=>cases q<;>ac_rfl
theorem w_cMv:Eo (cMv i (e::E)) P X=Wo (sl (e::E)[i]?) (e::E) (λE x=>P (E.set i none) x):=by
 unfold cMv Wo;cases(e::E)[i]? with|none=>ac_rfl|some q=>cases q<;>ac_rfl
theorem w_cC{d}:Eo (cC d (e::E)) P X=P (e::E) (.dp,d):=nd (by ac_rfl)
theorem w_vE:Eo (vE c (e::E)) P X=Eo (c (e::E)) (λE x=>P E (.no,x.2)) X:=by unfold vE;rw[kq];ac_rfl
theorem w_cH:Eo (cH c (e::E)) P X=Eo (c (e::E)) (λE x=>if x.1=.no then P E (.no,x.2)else if x.2.pure=true then P E (.dp,x.2)else False) X:=by
 unfold cH;rw[kq]
 congr 1
 funext E x
 by_cases h:x.1=.no
 ·rw[Xd h,Xd h];ac_rfl
 ·rw[Xg h,Xg h]
  by_cases h2:x.2.pure=true
  ·rw[Xd h2,Xd h2];ac_rfl
  ·rw[Xg h2,Xg h2];ac_rfl
theorem w_f1{f}:Eo (cF1 f a (e::E)) P X=Eo (a (e::E)) (λE x=>Wo (f x) E P) X:=by
 unfold cF1;rw[kq];congr 1;funext E x;exact J5
theorem w_f2{f}:Eo (cF2 f a b (e::E)) P X=Eo (a (e::E)) (λE x=>Eo (b E) (λE y=>Wo (f x y) E P) X) X:=by
 unfold cF2;rw[kq];congr 1;funext E x;rw[kq];congr 1;funext E y;exact J5
theorem w_ix:Eo (jk a b (e::E)) P X=Eo (a (e::E)) (λE x=>Eo (b E) (λE y=>Wo (jQ x.2 y.2) E (λE d=>P E (sub x.1,d))) X) X:=by
 unfold jk;rw[kq];congr 1;funext E x;rw[kq];congr 1;funext E y;rw[J5];exact vo_map
theorem w_tE:Eo (tE c (e::E)) T X=Eo (c (e::E)) (λE x=>Wo (truth x.2) E T) X:=by
 unfold tE;rw[kq];congr 1;funext E x;exact J5
theorem w_tEQ:Eo (tEQ c (e::E)) T X=Eo (c (e::E)) (λE x=>Wo (truthQ x.2) E T) X:=by
 unfold tEQ;rw[kq];congr 1;funext E x;exact J5
theorem w_tNot:Eo (tNot t (e::E)) T X=Eo (t (e::E)) (λE k=>T E (!k)) X:=by unfold tNot;rw[kq];ac_rfl
theorem w_tAnd:Eo (tAnd t u (e::E)) T X=Eo (t (e::E)) (λE k=>if k=true then Eo (u E) T X else T E false) X:=by
 unfold tAnd;rw[kq];congr 1;funext E k;cases k<;>ac_rfl
theorem w_tOr:Eo (tOr t u (e::E)) T X=Eo (t (e::E)) (λE k=>if k=true then T E true else Eo (u E) T X) X:=by
 unfold tOr;rw[kq];congr 1;funext E k;cases k<;>ac_rfl
theorem w_tYes:Eo (tYes (e::E)) T X=T (e::E) true:=nd (by ac_rfl)
theorem w_cIf:Eo (cIf t a b (e::E)) P X=Eo (t (e::E)) (λE k=>if k=true then Eo (a E) P X else Eo (b E) P X) X:=by
 unfold cIf;rw[kq];congr 1;funext E k;cases k<;>ac_rfl
theorem w_cAnd:Eo (vQ a b (e::E)) P X=Eo (a (e::E)) (λE x=>xqe x.2 (Eo (b E) P X) (P E (.dp,.bl false))) X:=by
 rw[ww9,kq];congr 1;funext E x;cases x.2 with|bl k=>cases k<;>ac_rfl|_=>ac_rfl
theorem w_cOr:Eo (cOr a b (e::E)) P X=Eo (a (e::E)) (λE x=>xqe x.2 (P E (.dp,.bl true)) (Eo (b E) P X)) X:=by
 rw[xkm,kq];congr 1;funext E x;cases x.2 with|bl k=>cases k<;>ac_rfl|_=>ac_rfl
theorem w_cNotQ:Eo (vvs c (e::E)) P X=Eo (c (e::E)) (λE x=>Wo (truthQ x.2) E (λE k=>P E (.dp,.bl (!k)))) X:=by
 unfold vvs;rw[kq];congr 1;funext E x;rw[J5];exact vo_map
theorem w_call{f cs}:Eo (jz f cs (e::E)) P X=Eo (vq cs (e::E)) (λE xs=>Oe f (letAll xs) E P X) X:=by exists wvx
theorem w_callB{f:Fn}{cs:List Ex}:Eo (qkl f cs (e::E)) P X=Eo (vq cs (e::E)) (λE xs=>Oe f (letAll xs) E (λE y=>y.2.pure=true/\P E (.dp,y.2)) X) X:=by exists vz4
theorem w_partN{P}:Eo (WX none (e::E)) P X=P (e::E) none:=nd (by ac_rfl)
theorem w_partS{P}:Eo (WX (some c) (e::E)) P X=Eo (c (e::E)) (λE x=>Ie x.2 E (λE i=>P E (some i))) X:=by
 show Eo (bnd _ _) P X=_;rw[kq];congr 1;funext E x;cases x.2<;>ac_rfl
theorem w_sl{lo hi}:Eo (cSl a lo hi (e::E)) P X=Eo (a (e::E)) (λE x=>Eo (WX lo E) (λE l=>Eo (WX hi E) (λE h=>Wo (fSl x l h) E P) X) X) X:=by
 unfold cSl;rw[kq];congr 1;funext E x;rw[kq];congr 1;funext E l;rw[kq];congr 1;funext E h;exact J5
theorem w_idx:Eo (Qv a b (e::E)) P X=Eo (a (e::E)) (λE x=>if isSq x.2=true then Eo (b E) (λE y=>Wo (qka x.2 y.2) E (λE d=>P E (.dp,d))) X else False) X:=by
 unfold Qv;rw[kq];congr 1;funext E x;cases isSq x.2 with
 |false=>ac_rfl
 |true=>
  show Eo (bnd _ _) P X=_;rw[kq]
  congr 1;funext E y;rw[J5];exact vo_map
theorem w_itS{P}:Eo (itS c (e::E)) P X=Eo (c (e::E)) (λE x=>Wo (seqOf x.2) E P) X:=by
 unfold itS;rw[kq]
 congr 1
 funext E x;exact J5
theorem w_itEn{P}:Eo (xq7 c (e::E)) P X=Eo (c (e::E)) (λE x=>Wo (lstOf x.2) E (λE ds=>P E (zq 0 ds))) X:=by
 unfold xq7;rw[kq]
 congr 1
 funext E x;rw[J5];exact vo_map
end
theorem args_nil{e}{E:En}{P X}:Eo (vq [] (e::E)) P X=P (e::E) []:=nd (by ac_rfl)
theorem args_cons{e}{E:En}{c cs P X}:Eo (vq (c::cs) (e::E)) P X=Eo (c (e::E)) (λE x=>Eo (vq cs E) (λE xs=>P E (x::xs)) X) X:=by
 show Eo (bnd _ λE x=>bnd _ λE xs=>some _) P X=_;rw[kq]
 congr 1
 funext E x;rw[kq]
 ac_rfl
theorem eo_tup{e}{E:En}{cs P X}:Eo (qK .no cs (e::E)) P X=Eo (vq cs (e::E)) (λE xs=>P E (.no,.tup (xs.map (·.2)))) X:=by
 unfold qK;rw[kq]
 ac_rfl
theorem eo_lst{e}{E:En}{cs P X}:Eo (v9 .rt cs (e::E)) P X=Eo (vq cs (e::E)) (λE xs=>P E (.rt,.lst (xs.map (·.2)))) X:=by
 unfold v9;rw[kq]
 ac_rfl
theorem kz5{c E P X}(h:Eo (c E) (λE x=>∃n,x.2=.int n/\n<=1000/\-1000<=n/\P E (qk 0 n)) X):Eo (xv c E) P X:=by
 unfold xv;rw[kq];refine h.mono ?_;rintro E ⟨o,d⟩ ⟨n,rfl,h1,h2,h3⟩;have:z7 n=true:=by unfold z7;rw[Xj ⋯,Xj ⋯];ac_rfl
 show Eo (if z7 n=true/\n.toNat<=big then _ else _) P X;rw[Xd #[this,by unfold big;lia]]
 exists h3
theorem wk2{i:Nat}{c}{E:En}{o xs N C R X}(h0:E[i]?=some (some (o,.lst xs)))
  (h:Eo (c E) (λE1 x=>∃o ys,E1[i]?=some (some (o,.lst ys))/\o≠.no/\ys.length<10000/\N (E1.set i (some (if o=.dp/\zj x then .dp else .rt,.lst (ys++[x.2]))))) X):Po (xz xJ i c E) N C R X:=by
 unfold xz;rw[h0,Xd (show VX _=true from rfl),Q9];refine h.mono ?_;rintro E1 x ⟨o,ys,h1,h2,h3,h4⟩;rw[h1];dsimp only;have hg:xJ ys x.2=some (ys++[x.2]):=by unfold xJ;rw[Xd (by unfold big;lia)]
 rw[Xg h2,hg]
 exists h4
theorem Q3{i:Nat}{c}{E:En}{xs N C R X}(h0:E[i]?=some (some (.rt,.lst xs)))
  (h:Eo (c E) (λE1 x=>∃ys,E1[i]?=some (some (.rt,.lst ys))/\ys.length<10000/\N (E1.set i (some (.rt,.lst (ys++[x.2]))))) X):Po (xz xJ i c E) N C R X:=
 wk2 h0 (h.mono λE1 x #[ys,h1,h2,h3]=>#[.rt,ys,h1,⋯,h2,by rw[];exists h3])
theorem rng_ok{n}(h1:-1000<=n)(h2:n<=1000):(z7 n=true/\n.toNat<=big)=True:=by
 have:z7 n=true:=by unfold z7;rw[Xj ⋯,Xj ⋯];ac_rfl
 with_unfolding_all exact eq_true #[this,by unfold big;lia]
theorem qv5{α p}[Decidable p]{a}{P:En->α->Prop}{X}:Eo (if p then a else none) P X=(p/\Eo a P X):=by
 by_cases h:p
 ·simp_all
 ·rw[Xg h];with_unfolding_all exact propext #[λz=>z.elim,λz=>h z.1]
theorem w_R1{c e}{E:En}{P X}:Eo (xv c (e::E)) P X=Eo (c (e::E)) (λE x=>Ie x.2 E λE n=>(z7 n=true/\n.toNat<=big)/\P E (qk 0 n)) X:=by
 unfold xv;rw[kq];congr 1;funext E x;cases x.2 with|int n=>exists qv5|_=>ac_rfl
theorem w_LR1{c e}{E:En}{P X}:Eo (xkn c (e::E)) P X=Eo (c (e::E)) (λE x=>Ie x.2 E λE n=>(z7 n=true/\n.toNat<=big)/\P E (.rt,.lst (qk 0 n))) X:=by
 unfold xkn;rw[kq];congr 1;funext E x;cases x.2 with|int n=>exists qv5|_=>ac_rfl
theorem lst_dp0{e:Option Sd}{E:En}{P:En->Sd->Prop}{X:XP}:Eo (v9 .dp [] (e::E)) P X=P (e::E) (.dp,.lst []):=nd (by ac_rfl)
theorem Zx{o:Own}{xs:List D}{lo hi:Option Int}(h:o≠.dp):fSl (o,.lst xs) lo hi=some (.rt,.lst (KK xs lo hi)):=by
 show(if qY _ then _ else _)=_;rw[Xd (by cases o<;>simp_all [qY])]
theorem xvx{i:Nat}{E:En}{o:Own}{d:D}(h:E[i]?=some (some (o,d))):qz9 i E=E.set i (some (.no,d)):=by unfold qz9;rw[h]
theorem sub_no:sub .no=.no:=nd (by ac_rfl)
theorem sub_rt:sub .rt=.no:=nd (by ac_rfl)
theorem sub_dp:sub .dp=.dp:=nd (by ac_rfl)
theorem Oo.use{ι f xs}{g:ι->Sd}{S:ι->Prop}{E P X}(h:Oo f xs (λy=>∃i,y=g i/\S i) X)(k:∀i,S i->P E (g i)):Oe f xs E P X:=h.mono λy #[i,e,s]=>e▸k i s
theorem Oo.via{f xs S E P X}(h:Oo f xs S X)(k:∀y,S y->P E y):Oe f xs E P X:=h.mono k
theorem vW{E ys P X}:Eo (mkL .rt E ys) P X=P E (.rt,.lst (ys.map (·.2))):=nd (by ac_rfl)
theorem wze{i:Nat}{c:Ex}{E:En}{o:Own}{xs:List D}{P:En->Sd->Prop}{X:XP}(h0:E[i]?=some (some (o,.lst xs)))
  (h:Eo (c E) (λE1 x=>∃(o:Own) (ys:List D) (k:Int) (d:D),E1[i]?=some (some (o,.lst ys))/\o≠.no/\x.2=.int k/\0<=k/\k<=1000/\ys[k.toNat]?=some d/\d.pure=true/\P (E1.set i (some (o,.lst (ys.eraseIdx k.toNat)))) (.dp,d)) X):Eo (xkl i c E) P X:=by
 unfold xkl;rw[h0,Xd (show VX _=true from rfl),kq];refine h.mono ?_;rintro E1 ⟨o',d'⟩ ⟨o,ys,k,d,h1,h2,e,k0,k1,h3,h4,h5⟩;subst e;have hl:=(List.getElem?_eq_some_iff.mp h3).1;have hx:ixN ys.length k=some k.toNat:=by unfold ixN;rw[Xd k0,Xd ⋯]
 have hs:z7 k=true:=by unfold z7;rw[Xj ⋯,Xj ⋯];ac_rfl
 rw[h1];dsimp only;rw[Xg h2,hx];dsimp only;rw[h3];dsimp only;rw[h4,hs,Xd ⋯,Qj];exact h5
theorem w_chain{f g a b c e}{E:En}{P X}:Eo (Q2 f g a b c (e::E)) P X=Eo (a (e::E)) (λE x=>Eo (b E) (λE y=>Wo (f x.2 y.2) E λE d=>xqe d (Eo (c E) (λE z=>Wo (g y.2 z.2) E λE d=>P E (.dp,d)) X) (P E (.dp,.bl false))) X) X:=by
 unfold Q2;rw [kq]
 congr 1
 funext E x;rw [kq]
 congr 1
 funext E y;cases f x.2 y.2 with
 | none=>ac_rfl
 | some d=>
  rw[wo_some];cases d with
  | bl k=>
   rw[andP_bl];cases k with
   |false=>ac_rfl
   |true=>
    dsimp only;rw[kq]
    congr 1
    funext E z;rw[J5];exact vo_map
  |_=>ac_rfl
theorem w_rz{c:Str}{e:Option Sd}{E:En}{N C:En->Prop}{R:Sd->Prop}{X:XP}:Po (sRz c (e::E)) N C R X=X c:=nd (by ac_rfl)
def Ox(f:Fn)(xs:List Sd)(E:En)(P:En->Sd->Prop)(Y:En->Str->Prop):Prop:=Oo f xs (P E) (Y E)
theorem Oo.ox{f:Fn}{xs:List Sd}{S:Sd->Prop}{W:XP}{E:En}{P:En->Sd->Prop}{Y:En->Str->Prop}(h:Oo f xs S W)(k:∀y,S y->P E y)(l:∀c,W c->Y E c):Ox f xs E P Y:=by
 unfold Ox Oo at *;cases hf:f xs with
 |none=>simp_all
 |some r=>rw[hf]at h;cases r with|ok E a=>exists k a h|exc E c=>exists l c h
theorem Oo.any{f xs P X}(h:Oo f xs P noX):Oo f xs P X:=by
 unfold Oo at *;cases hf:f xs with
 |none=>simp_all
 |some r=>rw[hf]at h;cases r with|ok E a=>simp_all|exc E c=>exists (h).elim
section
variable {c kc vc:Ex}{e:Option Sd}{E:En}{X:XP}{N C:En->Prop}{R:Sd->Prop}
theorem wwt{P:En->Sd->Prop}:Eo (vzh kc vc (e::E)) P X=Eo (kc (e::E)) (λE k=>Eo (vc E) (λE v=>JY k.2=true/\P E (.rt,.dct [(k.2,v.2)])) X) X:=by
 unfold vzh;rw[kq];congr 1;funext E k;rw[kq];congr 1;funext E v;rw[qv5,Qj]
end
theorem xj9{o:Own}{kvs:List (D×D)}(h:kvs.length<=10000)(hu:unm kvs=true):W9 (o,.dct kvs)=some (.rt,.lst (kvs.map (·.1))):=by
 unfold W9;dsimp only;rw[Xd #[by unfold big;lia,hu]]
section
variable {a b c kc vc:Ex}{e:Option Sd}{E:En}{X:XP}{N C:En->Prop}{R:Sd->Prop}{P:En->Sd->Prop}
theorem wws:Eo (xkz a b (e::E)) P X=Eo (a (e::E)) (λE x=>Eo (b E) (λE y=>Wo (xk9 x.2 y.2) E (λE d=>P E (.dp,d))) X) X:=by
 unfold xkz;rw[kq];congr 1;funext E x;rw[kq];congr 1;funext E y;rw[J5];exact vo_map
theorem wwr{z}:Eo (vzg z c (e::E)) P X=Eo (c (e::E)) (λE x=>Wo (vv3 z x.2) E (λE d=>P E (.dp,d))) X:=by
 unfold vzg;rw[kq];congr 1;funext E x;rw[J5];exact vo_map
theorem vj0{P}:Eo (vql c (e::E)) P X=Eo (c (e::E)) (λE x=>Wo (vwd x.2) E (λE ds=>P E (zq 0 ds))) X:=by
 unfold vql;rw[kq];congr 1;funext E x;rw[J5];exact vo_map
theorem v_is{i:Nat}{o ds P}(h:E[i]?=some (some (o,.lst ds)))(hp:D.pures ds=true)(k:P E ds):Eo (itV i E) P X:=by
 unfold itV;rw[h];dsimp only
 rwa [Xd hp,Qj]
theorem vzy{i:Nat}(h:Eo (vc E) (λE1 v=>VX E1[i]?=true/\Eo (kc E1) (λE2 k=>∃(o:Own) (xs:List D) (j:Int) (n:Nat),E2[i]?=some (some (o,.lst xs))/\o≠.no/\k.2=.int j/\ixN xs.length j=some n/\N (E2.set i (some (.rt,.lst (xs.set n v.2))))) X) X):Po (wxc i kc vc E) N C R X:=by
 unfold wxc;rw[Q9];refine h.mono ?_;rintro E1 v ⟨e1,h1⟩;rw[Xd e1,Q9];refine h1.mono ?_;rintro E2 k ⟨o,xs,j,n,e2,ho,hk,hn,h4⟩;rw[e2,hk];dsimp only
 rwa [Xg ho,hn,wzf]
end
theorem xju{k kv}:Wq (.int k) (V6 kv)=some (.bl (kQ kv k).isSome):=by
 unfold Wq;rw[wjo]
theorem xvr{k v kv}(h:kQ kv k=some v):xk9 (V6 kv) (.int k)=some (.int v):=by
 unfold xk9;rw[wjo];dsimp only;rw[h];rfl
theorem xkf{o}{ps:List (Int×Int)}(h:ps.length<10000):kwp (o,.lst (ps.map λp=>D.tup [.int p.1,.int p.2]))=some (.rt,V6 (ps.foldl (λkv p=>vJ kv p.1 p.2) [])):=by
 unfold kwp;dsimp only;rw[vkd];dsimp only;rw[Xd (by unfold big;lia)]
section
variable {a b c kc vc:Ex}{cs:List Ex}{e:Option Sd}{E:En}{X:XP}{N C:En->Prop}{R:Sd->Prop}{P:En->Sd->Prop}{i r n:Nat}{t:Ts}
theorem qwd{kvs}(h:unm kvs=true):XZ (.dct kvs)=some (.int kvs.length):=Xd h
theorem wko(h0:xq8 E[i]?=true)(h:Eo (kc E) (λE1 k=>Eo (vc E1) (λE2 v=>∃kvs,E2[i]?=some (some (.rt,.dct kvs))/\(JY k.2=true/\kvs.length<10000/\unm kvs=true/\v.2.pure=true/\D.pures (kvs.map (·.2))=true) /\
  (∀d,z3 kvs k.2=some d->P E2 (.dp,d))/\(z3 kvs k.2=none->P (E2.set i (some (.rt,.dct (kvs++[(k.2,v.2)])))) (.dp,v.2))) X) X):Eo (vvr i kc vc E) P X:=by
 unfold vvr;rw[Xd h0,kq];refine h.mono ?_;intro E1 k h1;rw[kq];refine h1.mono ?_;rintro E2 v ⟨kvs,e2,hc,h3,h4⟩;rw[e2];dsimp only;rw[Xd #[hc.1,by unfold big;omega,hc.2.2]];cases hg:z3 kvs k.2 with|none=>dsimp only;rw[Qj];exact h4 hg|some d=>dsimp only;rw[Qj];exact h3 d hg
def vwk(s:Option (Option Sd))(Q:Sd->Prop):Prop:=match s with
 |some (some x)=>Q x|_=>False
def Om(m:Option Fl)(n:Nat)(N:En->Prop)(P:Sd->Sd->Prop)(X:XP):Prop:=match m with
 |some (.nx E)=>N E|some (.rt E x)=>vwk E[n]? (P x)|some (.xc _ c)=>X c|_=>False
def Oom(f:Fn)(xs:List Sd)(n:Nat)(P:Sd->Sd->Prop)(X:XP):Prop:=match f xs with
 |some (.ok E y)=>vwk E[n]? (P y)|some (.exc _ c)=>X c|none=>False
theorem wj8{nn b xs P}(h:Om (b (xs.map some++List.replicate (nn - xs.length) none)) n (λE=>vwk E[n]? (P (.dp,.non))) P X):Oom (fn nn b) xs n P X:=by
 unfold Oom fn;cases hb:b _ with
 |none=>rw[hb]at h;exact h.elim
 |some f=>
  rw[hb]at h;cases f with|nx E=>exact h|rt E x=>exact h|xc E c=>exact h|ct E=>exact h.elim|bk E=>exact h.elim
theorem YX{a b P}(h:Om (a E) n (λE=>Om (b E) n N P X) P X):Om (j7 a b E) n N P X:=by
 unfold j7;cases ha:a E with
 |none=>rw[ha]at h;exact h.elim
 |some f=>
  rw[ha]at h;cases f with|nx E=>exact h|rt E x=>exact h|xc E c=>exact h|ct E=>exact h.elim|bk E=>exact h.elim
theorem vkq{P}(h:Eo (c E) (λE x=>vwk E[n]? (P x)) X):Om (jx c E) n N P X:=by
 unfold jx;cases hc:c E with
 |none=>rw[hc,vv4]at h;exact h.elim
 |some f=>
  rw[hc]at h;cases f with|ok E x=>rw[Qj]at h;exact h|exc E c=>rw[vv6]at h;exact h
theorem xj1{a b P}(h:Eo (t E) (λE k=>if k=true then Om (a E) n N P X else Om (b E) n N P X) X):Om (sIf t a b E) n N P X:=by
 unfold sIf;cases hc:t E with
 | none=>rw[hc,vv4]at h;exact h.elim
 | some f=>
  rw[hc]at h;cases f with
  |ok E k=>
   rw[Qj]at h;cases k with|true=>rw[Xd rfl]at h;exact h|false=>rw[Xg (by simp)]at h;exact h
  |exc E c=>rw[vv6]at h;exact h
theorem qxv{m P}(h:Po m N (λ_=>False) (λ_=>False) X):Om m n N P X:=by
 cases m with
 |none=>exists h
 |some f=>
  cases f with|nx E=>rw[wzf]at h;exact h|rt E x=>rw[xvd]at h;exact h.elim|xc E c=>exists h|ct E=>exists h|bk E=>exists h
theorem qww{f}(h:Eo (vq cs E) (λE1 xs=>∃x,E1[i]?=some (some x)/\Oom f (letAll xs++[x]) xs.length (λy x'=>P (E1.set i (some x')) y) X) X):Eo (qkk f i cs E) P X:=by
 unfold qkk;rw [kq];refine h.mono ?_;rintro E1 xs ⟨x,e1,h1⟩;rw [e1];dsimp only;unfold Oom at h1;cases hf:f _ with
 | none=>rw[hf]at h1;exact h1.elim
 | some rr=>
  rw[hf]at h1;cases rr with
  | exc E' c=>dsimp only;rw[vv6];exact h1
  | ok E' y=>
   dsimp only at h1 ⊢;cases hs:E'[xs.length]? with
   |none=>rw[hs]at h1;exact h1.elim
   |some s=>
    rw[hs]at h1;cases s with|none=>exact h1.elim|some x'=>dsimp only at h1 ⊢;rw[Qj];exact h1
theorem Oom.mono{f xs P Q X Y}(h:Oom f xs n P X)(hp:∀y x,P y x->Q y x)(hx:∀c,X c->Y c):Oom f xs n Q Y:=by
 unfold Oom at h ⊢;cases hf:f xs with
 | none=>rw[hf]at h;exact h.elim
 | some rr=>
  rw[hf]at h;cases rr with
  | exc E' c=>exact hx c h
  | ok E' y=>
   dsimp only at h ⊢;cases hs:E'[n]? with
   |none=>rw[hs]at h;exact h.elim
   |some s=>
    rw[hs]at h;cases s with|none=>exact h.elim|some x'=>exact hp _ _ h
end
end Q
namespace C
open PySem Q
noncomputable def m_read_by:Fn:=fn 8
  (j7 (sIf (tOr (tE (cF2 (f2First fIsNon) (vV 1) (vE (cC .non)))) (tE (cF2 (pu2 Jq) (vV 2) (jk (vV 0) (C9 0))))) (jx (cC .non)) qj)
  (j7 (jw 4 (cH (jk (vV 1) (C9 1))))
  (j7 (jw 5 (cH (jk (jk (jk (jk (vV 0) (C9 1)) (jk (vV 1) (C9 0))) (C9 2)) (vE (Qv (jk (vV 0) (C9 0)) (vV 2))))))
  (j7 (jw 6 (cH (jk (vV 5) (vE (cIf (tE (cF2 (pu2 Jj) (vV 3) (vV 4))) (Qv (vV 4) (vV 3)) (cF1 (pu1 qw) (vV 4)))))))
  (j7 (sIf (tE (cF2 (f2First fIsNon) (vV 6) (vE (cC .non)))) (jx (cC .non)) qj)
  (j7 (jw 7 (cF2 kY (vV 4) (vE (qK .no [(cV 3)]))))
  (jx (qK .no [(cH (jk (vV 6) (C9 0))),(cF1 KY (vE (cLC .rt 1 [7] (itS (cH (jk (vV 6) (C9 1)))) (.n 0) tYes (cH (jk (vV 1) (vV 0))))))]))))))))
end C
set_option hygiene false
local macro_rules
 | `(tactic| simp![$ts,*])=>`(tactic| simp(config:={maxSteps:=1000000,failIfUnchanged:=false,implicitDefEqProofs:=true}) (disch:=lia) only[↓Q.w_seq,↓Q.w_asg,↓Q.w_ret,↓Q.w_pass,↓Q.w_if,↓Q.w_tup,↓Q.w_vV,↓Q.w_cV,↓Q.w_cMv,↓Q.w_cC,↓Q.w_vE,↓Q.w_cH,↓Q.w_f1,↓Q.w_f2,↓Q.w_ix,↓Q.w_tE,↓Q.w_tEQ,↓Q.w_tNot,↓Q.w_tAnd,↓Q.w_tOr,↓Q.w_tYes,↓Q.w_cIf,↓Q.w_cAnd,↓Q.w_cOr,↓Q.w_cNotQ,↓Q.w_call,↓Q.w_callB,↓Q.w_partN,↓Q.w_partS,↓Q.w_sl,↓Q.w_idx,↓Q.w_itS,↓Q.w_itEn,↓Q.w_chain,↓Q.w_rz,↓Q.w_R1,↓Q.w_LR1,Q.rng_ok,true_and,Q.lst_dp0,↓Q.ie_i,Q.isSq,Q.sl_some,↓Q.andP_bl,↓Q.vo_some,↓Q.vo_map,↓Q.wo_some,↓Q.wo_map,↓Q.args_nil,↓Q.args_cons,↓Q.eo_tup,↓Q.eo_lst,Q.letAll,Q.pu2,Q.pu1,Q.f2First,Q.fIsNon,Q.fNotNon,Q.isNon,List.map_cons,List.map_nil,List.cons_append,List.nil_append,_root_.Xv,List.length_nil,_root_.X3,Nat.reduceAdd,Nat.reduceSub,List.replicate,List.set_cons_zero,List.set_cons_succ,List.getElem?_cons_zero,List.getElem?_cons_succ,Q.len_l,Q.len_t,Q.lt_ii,Q.gt_ii,Q.le_ii,Q.ge_ii,Q.add_i,Q.sub_i,Q.div_i,Q.mod_i,Q.pow_i,Q.mulT_i,Q.mul_l,Option.map_some,Q.truth,Q.truthQ,Q.D.pure,↓reduceIte,if_true,if_false,ite_true,ite_false,Q.sub_no,Q.sub_rt,Q.sub_dp,Bool.false_eq_true,reduceCtorEq,Bool.not_true,Bool.not_false,Q.Tg.put,Q.setAll,Q.seqOf,Q.lstOf,$ts,*])
set_option hygiene true
namespace C
open Q PySem
abbrev most:Int:=1000*10 ^ 64
abbrev iL(ns:List Int):D:=.lst (ns.map D.int)
def Each(G:D->Sd->Prop):List D->List Sd->Prop
 |[],[]=>True|d::ds,y::ys=>G d y/\Each G ds ys|_,_=>False
theorem Each.snoc{G d y}(h:G d y):∀{ds ys},Each G ds ys->Each G (ds++[d]) (ys++[y])
 |[],[],_=>#[h,trivial]|_::_,_::_,r=>#[r.1,Each.snoc h r.2]
theorem zW{X E o}{r:List Nat}{it c P}(am:En) G (h0:Eo (it E) (λE1 ds=>r.map (at' E1)=am/\(∀d∈ds,Eo (c (some (.no,d)::am)) (λB y=>(∃q,B=q::am)/\G d y) X)/\∀ys,Each G ds ys->Eo (mkL o (back r am (clr r E1)) ys) P X) X):Eo (cLC o 1 r it (.n 0) tYes c E) P X:=by
 refine Qw (λE1 B tu ah=>∃ds ds1 q,ds=ds1++tu/\B=q::am/\Each G ds1 ah/\(∀d∈ds,Eo (c (some (.no,d)::am)) (λB y=>(∃q,B=q::am)/\G d y) X)/\∀ys,Each G ds ys->Eo (mkL o (back r am (clr r E1)) ys) P X) ?_ ?_ ?_
 ·refine h0.mono λE1 ds #[h1,h2,h3]=>#[ds,[],none,rfl,by rw[<-h1];rfl,trivial,h2,h3]
 ·rintro E1 B d tu ah ⟨ds,ds1,q,e,rfl,hE,h2,h3⟩;have hp:(Tg.n 0).put d (q::am)=some (some _::am):=rfl;rw[hp,vo_some,show tYes _=some _ from rfl,Qj];refine(h2 d (by rw[e];simp)).mono ?_;rintro B y ⟨⟨q',rfl⟩,hG⟩;exact#[ds,ds1++[d],q',by rw[e];simp,rfl,hE.snoc hG,h2,h3]
 ·rintro E1 B ah ⟨ds,ds1,q,e,rfl,hE,h2,h3⟩;rw[Xw]at e;subst e;exact h3 ah hE
theorem kv6{G}{S:Int->Prop}(hG:∀d y,G d y->∃i,y.2=.int i/\S i):∀{ds ys},Each G ds ys->∃ps:List Int,ys.map (·.2)=ps.map D.int/\ps.length=ds.length/\∀p∈ps,S p
 |[],[],_=>#[[],rfl,rfl,λ_ h=>nomatch h]
 |d::ds,y::ys,r=>by
  obtain⟨i,e,s⟩:=hG d y r.1;obtain⟨ps,h1,h2,h3⟩:=kv6 hG r.2;exact#[i::ps,by simp[e,h1],by simp[h2],λp hp=>(aD hp).elim (λz=>z▸s) (h3 p)]
theorem vjw{n}:qk n n=[]:=by unfold qk;rw[Int.sub_self];rfl
theorem kwh{k n}(h:k<n):qk k n=.int k::qk (k+1) n:=by
 unfold qk;have:(n - k).toNat=(n - (k+1)).toNat+1:=by
  obtain⟨m,hm⟩:=Int.eq_ofNat_of_zero_le (show 0<=n - (k+1)by lia);rw[hm,show n - k=(m+1:Nat)by lia];rfl
 rw[this,List.range_succ_eq_map,List.map_cons,Xr]
 congr 1
 ·simp
 ·apply Ym;intro i _
  grind
theorem Kv{k n d ds}(hk:k<=n)(h:d::ds=qk k n):k<n/\d=.int k/\ds=qk (k+1) n:=by
 by_cases hl:k<n
 ·rw[kwh hl]at h;injection h with h1 h2;exact#[hl,h1,h2]
 ·have:k=n:=⋯
  subst this;rw[vjw]at h
  grind
theorem Vv{k n}(hk:k<=n)(h:[]=qk k n):k=n:=by
 by_cases hl:k<n
 ·rw[kwh hl]at h;cases h
 ·lia
theorem qqq{k n d}(h:d∈qk k n):∃i,k<=i/\i<n/\d=.int i:=by
 obtain⟨j,hj,rfl⟩:=aE h;have:=List.mem_range.mp hj;exact#[k+j,⋯,⋯,rfl]
theorem vq4{k n}(h:k<=n):((qk k n).length:Int)=n - k:=by
 unfold qk;rw[X3,Xz];lia
theorem qwz{o1 o2 a b}(h:a.cps.size+b.cps.size<=10000):kY (o1,.str a) (o2,.str b)=some (.dp,.str (a++b)):=by
 show(if a.cps.size+b.cps.size<=big then _ else _)=_;rw[Xd (by unfold big;lia)]
theorem vwl(a b:Str):(a++b).cps.size=a.cps.size+b.cps.size:=by
 exact Array.size_append
theorem qq0:∀ss,Kq (ss.map D.str)=some ss
 |[]=>rfl|s::ss=>by rw[List.map_cons,Kq,qq0 ss];rfl
abbrev sL(ss:List Str):D:=.lst (ss.map D.str)
theorem ixI ks (S:Int->Prop)(hS:∀k∈ks,S k) i (h0:0<=i)(h1:i<ks.length):∃v,jQ (iL ks) (.int i)=some (.int v)/\S v/\ks[i.toNat]?=some v:=by
 have hl:i.toNat<ks.length:=⋯
 refine#[ks[i.toNat],xk h0 (by rw[X8,X1 hl];rfl),hS _ (Xu hl),X1 hl]
theorem V0{n}:∀{ks},(∀k∈ks,k.flat n=true)->D.flats n ks=true
 |[],_=>by cases n<;>simp[D.flats]|k::ks,h=>by rw[D.flats,h k X6,V0 λe he=>h e (lc9 _ he)];rfl
mutual
theorem ZK:∀{n} (d),d.flat n=true->peq d d=true
 |n,.non,_=>by simp[peq]|n,.bl b,_=>by simp[peq]|n,.int b,_=>by simp[peq]|n,.str b,_=>by simp[peq]|0,.lst xs,h=>by simp[D.flat]at h|n+1,.tup xs,h=>peqs_refl xs (by simpa [D.flat]using h)|n+1,.lst xs,h=>peqs_refl xs (by simpa [D.flat]using h)|n,.dct _,h=>by cases n<;>simp[D.flat]at h|n,.obj _ _,h=>by cases n<;>simp[D.flat]at h
theorem peqs_refl:∀{n} ds,D.flats n ds=true->peqs ds ds=true
 |_,[],_=>by simp[peqs]
 |n,d::ds,h=>by
  rw[D.flats,Bool.and_eq_true]at h;rw[peqs,ZK d h.1,peqs_refl ds h.2];rfl
end
theorem qv3{d}(h:d.flat 40=true):fEq d d=some (.bl true):=by unfold fEq;rw[h,ZK d h];rfl
theorem vkv{d:D}(h:d.flat 40=true):fNe d d=some (.bl false):=by unfold fNe;rw[h,ZK d h];rfl
theorem p0(a b:D):jQ (.tup [a,b]) (.int 0)=some a:=rfl
theorem p1(a b:D):jQ (.tup [a,b]) (.int 1)=some b:=rfl
theorem t0(a b c:D):jQ (.tup [a,b,c]) (.int 0)=some a:=rfl
theorem t1(a b c):jQ (.tup [a,b,c]) (.int 1)=some b:=rfl
theorem t2(a b c):jQ (.tup [a,b,c]) (.int 2)=some c:=rfl
theorem K8{G h}(hG:∀d y,G d y->y.2=h d):∀{ds ys},Each G ds ys->ys.map (·.2)=ds.map h
 |[],[],_=>rfl|d::ds,y::ys,r=>by rw[List.map_cons,List.map_cons,hG d y r.1,K8 hG r.2]
abbrev jK(ss:List Str)(rs:List D):D:=.tup [sL ss,.lst rs]
theorem wjh{o xs}(h:o≠.dp):Q4 (o,.lst xs)=some (.rt,.lst xs):=by
 show(if qY _ then _ else _)=_;rw[Xd (by cases o<;>simp_all [qY])]
theorem vkt{z ss}:Jq (.str z) (sL ss)=some (.bl (!ss.any λw=>w==z)):=by
 show QQ _ _=_;unfold QQ;have:fIn (.str z) (sL ss)=some (.bl (ss.any λw=>w==z)):=by
  show(if(D.str z).flat 30&&D.flats 30 _ then some _ else none)=_;rw[V0 (λk hk=>by obtain⟨w,_,rfl⟩:=aE hk;rfl),List.any_map];rfl
 rw[this];rfl
theorem in_i{p ks}:Jj (.int p) (iL ks)=some (.bl (ks.any λw=>w==p)):=by
 show(if(D.int p).flat 30&&D.flats 30 _ then some _ else none)=_;rw[V0 (λk hk=>by obtain⟨w,_,rfl⟩:=aE hk;rfl),List.any_map];rfl
theorem WV{p}{ks:List Int}:Jj (.int p) (.tup (ks.map D.int))=some (.bl (ks.any λw=>w==p)):=by
 show(if(D.int p).flat 30&&D.flats 30 _ then some _ else none)=_;rw[V0 (λk hk=>by obtain⟨w,_,rfl⟩:=aE hk;rfl),List.any_map];rfl
theorem kkc{p}{ks:List Int}:(ks.any λw=>w==p)=decide (p∈ks):=by
 rw[Bool.eq_iff_iff];simp
noncomputable def xX(own k:Int):Int:=own+(if k=own then 1 else 0)
def Cs(ac:List Int)(b:Int)(c:D):Prop:=c=.non\/∃(to:Int) (fs:List Int),c=.tup [.int to,.tup (fs.map D.int)]/\0<=to/\to<ac.length/\(∀f∈fs,0<=f/\f<b)/\fs.Nodup/\(fs.length:Int)=ac.getD to.toNat 0
theorem jv0{α:Type}:∀{l:List α} {i} (h),(l[i]::l.eraseIdx i).Perm l
 |a::l,0,h=>List.Perm.refl _
 |a::l,i+1,h=>by
  have:=jv0 (by simpa using h);exact(List.Perm.swap ..).trans (this.cons a)
theorem qkb{α β:Type}(f:α->β):∀(l:List α) (i),(l.map f).eraseIdx i=(l.eraseIdx i).map f
 |[],_=>rfl|a::l,0=>rfl|a::l,i+1=>by rw[List.map_cons,List.eraseIdx_cons_succ,List.eraseIdx_cons_succ,List.map_cons,qkb f l i]
theorem wvt(a b:Int):xqb (.bl (a==b))=some (.int (if a=b then 1 else 0)):=by
 by_cases h:a=b
 ·rw[Xd h,show(a==b)=true by simpa using h];rfl
 ·rw[Xg h,show(a==b)=false by simpa using h];rfl
def Pr(ac:List Int)(n:Nat)(own:Int)(d:D):Prop:=∃(gd:Bool) (st:List D),d=.tup [.int own,.bl gd,.lst st]/\st.length=n/\∀c∈st,∃cs:List D,c=.lst cs/\(cs.length:Int)=own+1/\∀k:Nat,k<cs.length->∃z,cs[k]?=some z/\Cs ac (xX own k) z
def Prs(ac:List Int)(n:Nat)(rs:List D):Prop:=rs.length=ac.length/\∀i:Nat,i<ac.length->∃r,rs[i]?=some r/\Pr ac n (ac.getD i 0) r
theorem qv1{α:Type}{p}:∀{l:List α},l.any p=true->l.findIdx? p=some (l.findIdx p)
 | [],h=>by cases h
 | a::l,h=>by
  rw[List.findIdx?_cons,List.findIdx_cons];cases hp:p a with
  |true=>simp
  |false=>
   rw[List.any_cons,hp]at h;rw[qv1 h];simp
theorem wvv{α:Type}{p}{l:List α}(h:l.any p=true):l.findIdx p<l.length:=by
 obtain⟨x,hx,hp⟩:=List.any_eq_true.mp h;exact Yn #[x,hx,hp]
theorem xk8{α:Type}{p}{l:List α}(h:l.any p=false):l.findIdx p=l.length:=by
 rw[List.findIdx_eq_length];intro x hx;cases hp:p x with|false=>rfl|true=>rw[List.any_eq_true.mpr #[x,hx,hp]]at h;cases h
theorem xjv{z ss}(h:(ss.any λw=>w==z)=true):qka (sL ss) (.str z)=some (.int (ss.findIdx λw=>w==z:Nat)):=by
 show(if(D.str z).flat 30&&D.flats 30 _ then((ss.map D.str).findIdx? λw=>peq w _).map λ(j:Nat)=>D.int j else none)=_;rw[V0 (λk hk=>by obtain⟨w,_,rfl⟩:=aE hk;rfl),List.findIdx?_map];have:ss.findIdx? ((λw=>peq w (.str z))∘D.str)=ss.findIdx? λw=>w==z:=rfl
 rw[this,qv1 h];rfl
theorem vxt{p}{ks:List Int}(h:(ks.any λw=>w==p)=true):qka (.tup (ks.map D.int)) (.int p)=some (.int (ks.findIdx λw=>w==p:Nat)):=by
 show(if(D.int p).flat 30&&D.flats 30 _ then((ks.map D.int).findIdx? λw=>peq w _).map λ(j:Nat)=>D.int j else none)=_;rw[V0 (λk hk=>by obtain⟨w,_,rfl⟩:=aE hk;rfl),List.findIdx?_map];have:ks.findIdx? ((λw=>peq w (.int p))∘D.int)=ks.findIdx? λw=>w==p:=rfl
 rw[this,qv1 h];rfl
theorem wk3{a b}(hl:a.length+b.length<=10000):kY (.no,.tup a) (.no,.tup b)=some (.no,.tup (a++b)):=by
 show(if a.length+b.length<=big/\qY _/\qY _ then _ else _)=_;rw[Xd #[by unfold big;lia,rfl,rfl]]
abbrev iT(ks:List Int):D:=.tup (ks.map D.int)
noncomputable def nameAt(ks:List Int)(p:Int)(f:Int):Int:=(ks++[p]).getD f.toNat 0
def XJ(ks:List Int)(p:Int)(c:D):D:=match c with
 |.tup [to,.tup fs]=>.tup [to,.tup (fs.map λf=>match f with|.int i=>.int (nameAt ks p i)|_=>.non)]
 |_=>.non
theorem caseD_is{ks fs p to}:XJ ks p (.tup [.int to,iT fs])=.tup [.int to,iT (fs.map (nameAt ks p))]:=by
 unfold XJ iT;simp[Function.comp]
noncomputable def z9(ss:List Str)(st:List D)(ks:List Int)(z:Str)(p:Int):D:=match st[ss.findIdx λw=>w==z]? with
 |some (.lst cs)=>cs.getD (ks.findIdx λw=>w==p) .non|_=>.non
def wX(ss:List Str)(st:List D)(ks:List Int)(z:Str)(p:Int):D:=if(ss.any λw=>w==z)=true then XJ ks p (z9 ss st ks z p)else .non
def Cas(ac:List Int)(n:Nat)(own:Int)(st:List D):Prop:=st.length=n/\∀c∈st,∃cs:List D,c=.lst cs/\(cs.length:Int)=own+1/\∀k:Nat,k<cs.length->∃z,cs[k]?=some z/\Cs ac (xX own k) z
theorem xw0{ks:List Int}{p}:(ks.findIdx λw=>w==p)<=ks.length:=List.findIdx_le_length
theorem qkh{ac ss st ks}{z} p (h:Cas ac ss.length ks.length st)(hz:(ss.any λw=>w==z)=true):∃cs,st[ss.findIdx λw=>w==z]?=some (.lst cs)/\(cs.length:Int)=ks.length+1/\cs[ks.findIdx λw=>w==p]?=some (z9 ss st ks z p)/\Cs ac (xX ks.length (ks.findIdx λw=>w==p:Nat)) (z9 ss st ks z p):=by
 have hj:(ss.findIdx λw=>w==z)<st.length:=by rw[h.1];exact wvv hz
 obtain⟨cs,e,hl,hc⟩:=h.2 st[ss.findIdx λw=>w==z] (Xu hj);have hg:st[ss.findIdx λw=>w==z]?=some (.lst cs):=by rw[X1 hj,e]
 have i8:=xw0 (ks:=ks) (p:=p);obtain⟨c,e2,hC⟩:=hc (ks.findIdx λw=>w==p) ⋯;have hca:z9 ss st ks z p=c:=by unfold z9;rw[hg];dsimp only;rw[X2,e2];rfl
 exact#[cs,hg,hl,by rw[hca];exact e2,by rw[hca];exact hC]
theorem vkw{ks p f}(h0:0<=f)(h1:f<=ks.length):jQ (.tup (ks.map D.int++[.int p])) (.int f)=some (.int (nameAt ks p f)):=by
 refine ix_t h0 ?_;rw[show ks.map D.int++[D.int p]=(ks++[p]).map D.int by simp,X8];unfold nameAt;rw[X2,X1 (by simp;lia)];rfl
theorem qvb{own k}:xX own k<=own+1:=by unfold xX;split<;>lia
theorem xvq{a0 a1 a2 a5 a6 a7 o3 o4 ks p P X}:Eo (cIf (tE (cF2 (pu2 Jj) (vV 3) (vV 4))) (Qv (vV 4) (vV 3)) (cF1 (pu1 qw) (vV 4)) [a0,a1,a2,some (o3,.int p),some (o4,iT ks),a5,a6,a7]) P X=P [a0,a1,a2,some (o3,.int p),some (o4,iT ks),a5,a6,a7] (.dp,.int (ks.findIdx λw=>w==p:Nat)):=by
 cases hp:(ks.any λw=>w==p)with|true=>simp![WV,hp,vxt hp]|false=>simp![WV,hp,xk8 hp]
theorem wkx{ac ss rs st kp gd}{room:Int}{ks:List Int}{z:Str}{p:Int}(h0:0<=room)(hr:rs[room.toNat]?=some (.tup [kp,gd,.lst st]))(hc:Cas ac ss.length ks.length st)(hl:ks.length<=1000):
  Oo m_read_by [(.no,jK ss rs),(.no,.tup [.int room,iT ks]),(.no,.str z),(.no,.int p)] (λy=>y.2=wX ss st ks z p) noX:=by
 have hi:jQ (.lst rs) (.int room)=some (.tup [kp,gd,.lst st]):=xk h0 hr;have hif:=λa5 a6 a7 P=>@xvq (some (.no,jK ss rs)) (some (.no,.tup [.int room,iT ks])) (some (.no,.str z)) a5 a6 a7 .no .no ks p P noX
 unfold wX m_read_by;generalize cIf _ _ _=I at hif ⊢;refine k7 ?_;cases hz:(ss.any λw=>w==z)with
 | false=>simp![p0,vkt,hz]
 | true=>
  obtain⟨cs,g1,g2,g3,g4⟩:=qkh p hc hz;have hx:jQ (.lst st) (.int (ss.findIdx λw=>w==z:Nat))=some (.lst cs):=xk ⋯ (by rw[Xp];exact g1);have hy:jQ (.lst cs) (.int (ks.findIdx λw=>w==p:Nat))=some (z9 ss st ks z p):=xk ⋯ (by rw[Xp];exact g3);have ji:=wk3 (a:=ks.map D.int) (b:=[.int p]) (by simp;lia);have me:=xjv hz;have hb:=qvb (own:=ks.length) (k:=(ks.findIdx λw=>w==p:Nat));generalize z9 ss st ks z p=c at g4 hy;rw[Xd rfl];rcases g4 with rfl|⟨to,fs,rfl,t0',t1',hfs,_⟩
  ·simp![p0,p1,vkt,hz,hi,t2,me,hx,hif,hy];rfl
  ·simp![p0,p1,vkt,hz,hi,t2,me,hx,hif,hy,ji];refine zW [some (.no,.tup (ks.map D.int++[.int p]))] (λf y=>y.2=match f with|.int i=>.int (nameAt ks p i)|_=>.non) ?_;simp![p1];refine#[rfl,λf hf=>?_,λys hy=>?_]
   ·obtain⟨i,ly,rfl⟩:=aE hf;have:=hfs i ly;simp![vkw (ks:=ks) (p:=p) (f:=i) this.1 ⋯];exact#[#[_,rfl],trivial]
   ·rw[vW,K8 (h:=λf=>match f with|.int i=>.int (nameAt ks p i)|_=>.non) (λd y h=>h) hy,Xr,show(_∘D.int)=D.int∘nameAt ks p from rfl,<-Xr];simp only[back,clr,at',List.set_cons_zero,List.set_cons_succ];simp![tup_l (o:=.no) (xs:=(fs.map (nameAt ks p)).map D.int) ⋯];exact caseD_is.symm
theorem neg1:VQ (.int 1)=some (.int (-1)):=rfl
theorem wvg{xs:List D}{d:D}(h:xs[xs.length - 1]?=some d):jQ (.lst xs) (.int (-1))=some d:=by
 have hl:xs.length - 1<xs.length:=(List.getElem?_eq_some_iff.mp h).1;show((ixN xs.length (-1)).bind λj=>xs[j]?)=some d;unfold ixN;rw[Xg ⋯,Xd ⋯];show xs[(-1+(xs.length:Int)).toNat]?=some d;rw[show(-1+(xs.length:Int)).toNat=xs.length - 1 by lia];exact h
theorem vqj{xs:List D}{d:D}:jQ (.lst (xs++[d])) (.int (-1))=some d:=wvg (by simp)
theorem vvb{xs c}(h0:0<=c)(h1:c<=xs.length):KK xs none (some c)=xs.take c.toNat:=by
 unfold KK Q5;dsimp only;rw[Xg ⋯,List.drop_zero,Nat.sub_zero,Nat.min_eq_left (Int.toNat_le.mpr h1)]
def Ok2(ac:List Int)(s:D):Prop:=s=.non\/∃(room:Int) (ks:List Int),s=.tup [.int room,iT ks]/\0<=room/\room<ac.length/\(ks.length:Int)=ac.getD room.toNat 0
noncomputable def Rd(ac:List Int)(ss:List Str)(rs:List D)(s:D)(w:Str×Int)(s':D):Prop:=(s=.non/\s'=.non)\/∃(room:Int) (ks:List Int) (st:List D) (kp gd:D),s=.tup [.int room,iT ks]/\0<=room/\rs[room.toNat]?=some (.tup [kp,gd,.lst st])/\Cas ac ss.length ks.length st/\ks.length<=6/\s'=wX ss st ks w.1 w.2
theorem vws{ac ss rs}{s} w (hP:Prs ac ss.length rs)(hk:∀p∈ac,0<=p/\p<=3)(h:Ok2 ac s):∃s',Rd ac ss rs s w s'/\Ok2 ac s'/\((ss.any λz=>z==w.1)=false->s'=.non):=by
 rcases h with rfl|⟨room,ks,rfl,r0,r1,hl⟩
 ·exact#[.non,.inl #[rfl,rfl],.inl rfl,λ_=>rfl]
 ·obtain⟨r,er,gd,st,rfl,jo,cn⟩:=hP.2 room.toNat ⋯;have u3:=hk (ac.getD room.toNat 0) (by rw[X2,X1 ⋯];exact Xu _);have jm:Cas ac ss.length ks.length st:=#[jo,by rw[hl];exact cn];refine#[wX ss st ks w.1 w.2,.inr #[room,ks,st,_,_,rfl,r0,er,jm,⋯,rfl],?_,λhz=>?_]
  ·unfold wX;cases hz:(ss.any λz=>z==w.1)with
   |false=>exact .inl rfl
   |true=>
    obtain⟨cs,g1,g2,g3,g4⟩:=qkh w.2 jm hz;rcases g4 with e|⟨to,fs,e,t0,t1,_,_,hfl⟩
    ·rw[e];exact .inl rfl
    ·rw[e,caseD_is];exact .inr #[to,_,rfl,t0,t1,by rw[X3];exact hfl]
  ·unfold wX;rw[hz];rfl
theorem kxh{ac ss rs s s' w}(h:Rd ac ss rs s w s'):Oo m_read_by [(.no,jK ss rs),(.no,s),(.no,.str w.1),(.no,.int w.2)] (λy=>y.2=s') noX:=by
 rcases h with⟨rfl,rfl⟩|⟨room,ks,st,kp,gd,rfl,r0,er,hc,hl,rfl⟩
 ·refine k7 ?_;simp![]
 ·exact wkx r0 er hc ⋯
abbrev Lw:=List (Str×Int)
def Ch2(ac:List Int)(ss:List Str)(rs:List D):D->Lw->D->Prop
 |s,[],s'=>s=s'|s,x::r,s'=>∃m,Rd ac ss rs s x m/\Ch2 ac ss rs m r s'
abbrev qJ(L:Lw):List D:=L.map λw=>.tup [.str w.1,.int w.2]
abbrev st0:D:=.tup [.int 0,iT []]
def stands:Fn:=fn 5
  (j7 (jw 2 (qK .no [(cC (.int 0)),(qK .no [])]))
  (j7 (vZ (itS (cV 1)) (.t [3,4]) (jw 2 (jz m_read_by [(cV 0),(cV 2),(cV 3),(cV 4)])))
  (jx (cMv 2))))
def plets:Fn:=fn 3
  (j7 (jw 2 (jz stands [(cV 0),(cV 1)]))
  (jx (vQ (vE (cF2 (f2First fNotNon) (vV 2) (vE (cC .non)))) (cH (jk (jk (jk (vV 0) (C9 1)) (jk (vV 2) (C9 0))) (C9 1))))))
theorem kzw{ac:List Int}{ss:List Str}{rs:List D}{L:Lw}{s:D}(hc:Ch2 ac ss rs st0 L s):Oo stands [(.no,jK ss rs),(.no,.lst (qJ L))] (λy=>y.2=s) noX:=by
 unfold stands;refine k7 ?_;simp![];refine z8 (λE am=>∃(L2:Lw) (m:D) (o1 o2:Own) (l3 l4:Option Sd),E=[some (.no,jK ss rs),some (o1,.lst (qJ L)),some (o2,m),l3,l4]/\am=qJ L2/\Ch2 ac ss rs m L2 s) ?_ ?_ ?_
 ·simp![];exact#[L,_,_,_,_,_,rfl,rfl,hc]
 ·rintro E d ds ⟨L2,m,o1,o2,l3,l4,rfl,hr,gy⟩;cases L2 with
  |nil=>cases hr
  |cons x L2=>
   have hr:d::ds=.tup [.str x.1,.int x.2]::qJ L2:=hr;injection hr with e1 e2;subst e1 e2;obtain⟨m',h1,h2⟩:=gy;simp![];refine(kxh h1).via ?_;intro y hy;obtain⟨o,d⟩:=y;have hy:d=m':=hy;subst hy;simp![];exact#[L2,_,_,_,_,_,rfl,rfl,h2]
 ·rintro E ⟨L2,m,o1,o2,l3,l4,rfl,hr,gy⟩;have:L2=[]:=by cases L2 with|nil=>rfl|cons=>cases hr
  subst this;simp![];exact gy
noncomputable def W8(rs:List D)(s:D):Bool:=match s with
 |.tup [.int room,_]=>(match rs[room.toNat]? with
  |some (.tup [_,.bl b,_])=>b
  |_=>false)
 |_=>false
theorem vqt{ac:List Int}{n:Nat}{rs:List D}{room:Int}{kd:D}(hP:Prs ac n rs)(r0:0<=room)(r1:room<ac.length):∃kp st,jQ (.lst rs) (.int room)=some (.tup [kp,.bl (W8 rs (.tup [.int room,kd])),st]):=by
 obtain⟨r,er,gd,st,rfl,jo,cn⟩:=hP.2 room.toNat ⋯;have hg:W8 rs (.tup [.int room,kd])=gd:=by unfold W8;dsimp only;rw[er]
 exact#[.int (ac.getD room.toNat 0),.lst st,xk r0 (by rw[hg];exact er)]
theorem wv8{ac:List Int}{ss:List Str}{rs:List D}{L:Lw}{s:D}(hP:Prs ac ss.length rs)(hc:Ch2 ac ss rs st0 L s)(hok:Ok2 ac s):Oo plets [(.no,jK ss rs),(.no,.lst (qJ L))] (λy=>y.2=.bl (W8 rs s)) noX:=by
 unfold plets;refine k7 ?_;simp![];refine(kzw hc).via ?_;intro y hy;obtain⟨o,d⟩:=y;have hy:d=s:=hy;subst hy;rcases hok with rfl|⟨room,ks,rfl,r0,r1,hl⟩
 ·simp![];rfl
 ·obtain⟨kp,st,ig⟩:=vqt (kd:=iT ks) hP r0 r1;cases o with|no=>simp![p0,p1,t1,ig]|rt=>simp![p0,p1,t1,ig]|dp=>simp![p0,p1,t1,ig]
noncomputable section
def z6(K:List D)(d:D):List D:=if d∈K then K else K++[d]
end
noncomputable section
end
end C
namespace B
open PySem Q
def m_keepers_in:Fn:=fn 2
  (jx (cIf (tE (cF2 (pu2 fEq) (vV 1) (vE (cC (.int (-1)))))) (cC (.int 0)) (cH (jk (jk (jk (vV 0) (C9 1)) (vV 1)) (C9 0)))))
def m_standing_in:Fn:=fn 2
  (jx (cIf (tE (cF2 (pu2 fEq) (vV 0) (vE (cC (.int (-1)))))) (cC .non) (qK .no [(cV 0),(cF1 KY (vV 1))])))
noncomputable def m_first_standings:Fn:=fn 7
  (j7 (jw 3 (jz m_keepers_in [(cV 0),(cH (jk (vV 2) (C9 0)))]))
  (j7 (jw 4 (cF1 kwp (vE (cLC .rt 2 [] (itS (cH (jk (vV 2) (C9 2)))) (.t [0,1]) tYes (qK .no [(cV 1),(cV 0)])))))
  (j7 (jw 5 (v9 .rt []))
  (j7 (vZ (xv (vE (jz m_keepers_in [(cV 1),(cH (jk (vV 2) (C9 1)))]))) (.n 6) (xz xJ 5 (cIf (tE (cF2 (pu2 Wq) (vV 6) (vV 4))) (cH (xkz (vV 4) (vV 6))) (cF2 kY (vV 3) (vE (cF1 (pu1 qw) (vE (cLC .rt 1 [3] (itV 5) (.n 0) (tE (cF2 (pu2 fGe) (vV 0) (vV 1))) (cV 0)))))))))
  (jx (qK .no [(jz m_standing_in [(cH (jk (vV 2) (C9 0))),(xkn (vV 3))]),(qkl m_standing_in [(jk (vV 2) (C9 1)),(vV 5)])]))))))
def m_names_of:Fn:=fn 1
  (jx (cIf (tE (cF2 (f2First fIsNon) (vV 0) (vE (cC .non)))) (qK .no []) (cH (jk (vV 0) (C9 1)))))
def m_room_of:Fn:=fn 1
  (jx (cIf (tE (cF2 (f2First fIsNon) (vV 0) (vE (cC .non)))) (cC (.int (-1))) (cH (jk (vV 0) (C9 0)))))
noncomputable def m_pair_of:Fn:=fn 4
  (j7 (jw 1 (jz m_names_of [(cH (jk (vV 0) (C9 0)))]))
  (j7 (jw 2 (jz m_names_of [(cH (jk (vV 0) (C9 1)))]))
  (j7 (jw 3 (cLC .rt 2 [2] (vql (cV 1)) (.t [0,1]) (tE (cF2 (pu2 Jj) (vV 1) (vV 2))) (qK .no [(cV 0),(Qv (vV 2) (vV 1))])))
  (jx (qK .no [(jz m_room_of [(cH (jk (vV 0) (C9 0)))]),(jz m_room_of [(cH (jk (vV 0) (C9 1)))]),(cF1 KY (vV 3))])))))
def m_read_by_both:Fn:=fn 5
  (jx (qK .no [(jz C.m_read_by [(cV 0),(cH (jk (vV 2) (C9 0))),(cV 3),(cV 4)]),(jz C.m_read_by [(cV 1),(cH (jk (vV 2) (C9 1))),(cV 3),(cV 4)])]))
def m_held_by_both:Fn:=fn 2
  (j7 (jw 1 (jz m_names_of [(cH (jk (vV 0) (C9 0)))]))
  (jx (cF2 kY (vV 1) (vE (cF1 KY (vE (cLC .rt 1 [1] (itS (jz m_names_of [(cH (jk (vV 0) (C9 1)))])) (.n 0) (tE (cF2 (pu2 Jq) (vV 0) (vV 1))) (cV 0))))))))
def m_is_good_in:Fn:=fn 2
  (jx (vQ (vE (cF2 (pu2 fNe) (vV 1) (vE (cC (.int (-1)))))) (cH (jk (jk (jk (vV 0) (C9 1)) (vV 1)) (C9 1)))))
end B
namespace B
open Q PySem C
abbrev Sn:=Option (Int×List Int)
noncomputable def stn:Sn->D
 |none=>.non|some p=>.tup [.int p.1,iT p.2]
def nms:Sn->List Int
 |none=>[]|some p=>p.2
def rmO:Sn->Int
 |none=>-1|some p=>p.1
theorem kq5 s:Oo m_names_of [(.no,stn s)] (λy=>y=(.no,iT (nms s))) noX:=by
 cases s with
 |none=>
  refine k7 ?_;simp![stn];rfl
 |some p=>
  refine k7 ?_;simp![stn,p1];rfl
theorem kxg s:Oo m_room_of [(.no,stn s)] (λy=>∃o',y=(o',.int (rmO s))/\True) noX:=by
 cases s with
 |none=>
  refine k7 ?_;simp![stn];exact#[_,rfl,trivial]
 |some p=>
  refine k7 ?_;simp![stn,p0];exact#[_,rfl,trivial]
theorem wwb{ac kps' ss rs rs' s s' t t' w}(h:Rd ac ss rs s w s')(h':Rd kps' ss rs' t w t'):Oo m_read_by_both [(.no,jK ss rs),(.no,jK ss rs'),(.no,.tup [s,t]),(.no,.str w.1),(.no,.int w.2)] (λy=>y=(.no,.tup [s',t'])) noX:=by
 refine k7 ?_;simp![p0,p1];refine(kxh h).via ?_;rintro ⟨o,d⟩ e;cases(show d=s' from e);simp![p0,p1];refine(kxh h').via ?_;rintro ⟨o',d⟩ e;cases(show d=t' from e);simp![]
noncomputable def jY(o t:List Int):List Int:=o++t.filter λn=>!(o.any λw=>w==n)
theorem xj6{p}{ks:List Int}:Jq (.int p) (.tup (ks.map D.int))=some (.bl (!(ks.any λw=>w==p))):=by
 show QQ _ _=_;unfold QQ;have:fIn _ (.tup _)=some (.bl (ks.any λw=>w==p)):=WV;rw[this];rfl
theorem qqz(a b)(ha:(nms a).length<=100)(hb:(nms b).length<=100):Oo m_held_by_both [(.no,.tup [stn a,stn b])] (λy=>y=(.no,iT (jY (nms a) (nms b)))) noX:=by
 unfold m_held_by_both;refine k7 ?_;simp![p0,p1];refine(kq5 a).via ?_;rintro _ rfl;simp![p0,p1];refine Qw (λE1 B ds ah=>E1=[some (Own.no,D.tup [stn a,stn b]),some (.no,iT (nms a))]/\∃q f1 f2,B=[q,some (.no,iT (nms a))]/\nms b=f1++f2/\ds=f2.map D.int/\ah.map (·.2)=(f1.filter λn=>!(nms a).any λw=>w==n).map D.int) ?_ ?_ ?_
 ·simp![p0,p1];refine(kq5 b).via ?_;rintro _ rfl;simp![];exact#[none,[],nms b,rfl,rfl,rfl,rfl]
 ·rintro E1 B d ds ah ⟨rfl,q,f1,f2,rfl,hf,b7,ay⟩;cases f2 with
  | nil=>cases b7
  | cons z f2=>
   rw[List.map_cons]at b7;injection b7 with e1 e2;subst e1 e2;simp![xj6];cases hz:((nms a).any λw=>w==z)with
   |true=>
    simp![];refine#[_,f1++[z],f2,rfl,by rw[hf];simp,rfl,?_];rw[ay,Yc];simp[hz]
   |false=>
    simp![];refine#[_,f1++[z],f2,rfl,by rw[hf];simp,rfl,?_];rw[Xh,ay,Yc];simp[hz]
 ·rintro E1 B ah ⟨rfl,q,f1,f2,rfl,hf,b7,ay⟩;cases f2 with
  |cons=>cases b7
  |nil=>
   rw[Xw]at hf;subst hf;have i8:((nms b).filter λn=>!(nms a).any λw=>w==n).length<=100:=Yd (List.length_filter_le _ _) hb;rw[vW,ay];simp![Q.tup_l (o:=.no) (xs:=((nms b).filter λn=>!(nms a).any λw=>w==n).map D.int) ⋯,wk3 (a:=(nms a).map D.int) (b:=((nms b).filter λn=>!(nms a).any λw=>w==n).map D.int) (by rw[X3,X3];lia)];unfold jY iT;rw[Xh]
noncomputable def qv(t:List Int):Nat->List Int->List (Int×Int)
 |_,[]=>[]|k,n::o=>if(t.any λw=>w==n)=true then((k:Int),((t.findIdx λw=>w==n:Nat):Int))::qv t (k+1) o else qv t (k+1) o
abbrev prs(l:List (Int×Int)):List D:=l.map λp=>.tup [.int p.1,.int p.2]
def jX(a b:Sn):D:=.tup [.int (rmO a),.int (rmO b),.tup (prs (qv (nms b) 0 (nms a)))]
theorem qxq(a b)(ha:(nms a).length<=100)(hb:(nms b).length<=100):Oo m_pair_of [(.no,.tup [stn a,stn b])] (λy=>y=(.no,jX a b)) noX:=by
 unfold m_pair_of;refine k7 ?_;simp![p0,p1];refine(kq5 a).via ?_;rintro _ rfl;simp![p0,p1];refine(kq5 b).via ?_;rintro _ rfl;simp![];refine Qw (λE1 B ds ah=>E1=[some (Own.no,D.tup [stn a,stn b]),some (Own.no,iT (nms a)),some (Own.no,iT (nms b)),none]/\∃(q0 q1:Option Sd) (f1 f2:List Int),B=[q0,q1,some (.no,iT (nms b))]/\nms a=f1++f2/\ds=zq f1.length (f2.map D.int)/\ah.map (·.2)++prs (qv (nms b) f1.length f2)=prs (qv (nms b) 0 (nms a))) ?_ ?_ ?_
 ·simp![↓vj0,show vwd (iT (nms a))=some ((nms a).map D.int)from rfl];exact#[none,none,[],nms a,rfl,rfl,rfl,rfl]
 ·rintro E1 B d ds ah ⟨rfl,q0,q1,f1,f2,rfl,hf,b7,ay⟩;cases f2 with
  | nil=>cases b7
  | cons z f2=>
   have b7:d::ds=.tup [.int f1.length,.int z]::zq (f1.length+1) (f2.map D.int):=b7;injection b7 with e1 e2;subst e1 e2;simp![WV];have gu:(f1++[z]).length=f1.length+1:=by simp
   cases hz:((nms b).any λw=>w==z)with
   |false=>
    simp![];refine#[_,_,f1++[z],f2,rfl,by rw[hf];simp,by rw[gu],?_];rw[<-ay,gu]
    congr 2
    conv=>rhs;unfold qv
    rw[hz,Xg ⋯]
   |true=>
    simp![vxt hz];refine#[_,_,f1++[z],f2,rfl,by rw[hf];simp,by rw[gu],?_];rw[<-ay,gu,Xh,Xk]
    congr 1
    conv=>rhs;unfold qv
    rw[hz,Xd rfl];rfl
 ·rintro E1 B ah ⟨rfl,q0,q1,f1,f2,rfl,hf,b7,ay⟩;cases f2 with
  |cons=>cases b7
  |nil=>
   have ay:ah.map (·.2)=prs (qv (nms b) 0 (nms a)):=by rw[<-ay];simp[qv]
   rw[vW,ay,show JK 2 [2] [q0,q1,some (Own.no,iT (nms b))] [some (Own.no,D.tup [stn a,stn b]),some (Own.no,iT (nms a)),some (Own.no,iT (nms b)),none]=[some (Own.no,D.tup [stn a,stn b]),some (Own.no,iT (nms a)),some (Own.no,iT (nms b)),none]from rfl];simp![p0,p1];refine(kxg a).use ?_;intro o1 _;simp![p0,p1];refine(kxg b).use ?_;intro o2 _;simp![Q.tup_l (o:=.rt) (xs:=prs (qv (nms b) 0 (nms a))) ⋯];rfl
def Kpr(rs:List D)(room k:Int):Prop:=(room=-1/\k=0)\/(0<=room/\∃g st,rs[room.toNat]?=some (.tup [.int k,g,st]))
theorem eqi{a b k}(h:(a==b)=k):fEq (.int a) (.int b)=some (.bl k):=by rw[<-h];rfl
theorem kwl{ss rs room k}(h:Kpr rs room k):Oo m_keepers_in [(.no,jK ss rs),(.no,.int room)] (λy=>∃o',y=(o',.int k)/\True) noX:=by
 refine k7 ?_;rcases h with⟨rfl,rfl⟩|⟨h0,g,st,hr⟩
 ·simp![eqi rfl];exact#[_,rfl,trivial]
 ·have ck:(room == -1)=false:=Ya ⋯;simp![p0,p1,eqi ck,(xk h0 hr),show jQ (.tup [.int k,g,st]) (.int 0)=some (.int k)from rfl];exact#[_,rfl,trivial]
noncomputable def xZ(room:Int)(ks:List Int):Sn:=if room=-1 then none else some (room,ks)
theorem kqa room ks o (ho:o≠.dp):Oo m_standing_in [(.no,.int room),(o,iL ks)] (λy=>∃o',y=(o',stn (xZ room ks))/\True) noX:=by
 unfold m_standing_in xZ;refine k7 ?_
 by_cases h:room=-1
 ·subst h;simp![eqi rfl];exact#[_,rfl,trivial]
 ·have ck:_=false:=Ya h;rw[Xg h];simp![eqi ck,Q.tup_l ho];exact#[_,rfl,trivial]
def nmF(own:Int)(kv:List (Int×Int)):Nat->List Int
 |0=>[]
 |n+1=>nmF own kv n++[match kQ kv n with
  |some i=>i
  |none=>own+((nmF own kv n).filter λx=>decide (own<=x)).length]
theorem jxt:∀(ks:List Int),D.pures (ks.map D.int)=true
 |[]=>rfl
 |k::ks=>by
  rw[List.map_cons];unfold D.pures;rw[jxt ks];rfl
theorem kj9 own kv n:nmF own kv (n+1)=nmF own kv n++[match kQ kv n with|some i=>i|none=>own+((nmF own kv n).filter λx=>decide (own<=x)).length]:=rfl
theorem vzr k:qk 0 k=(((List.range k.toNat).map λ(i:Nat)=>(i:Int)).map D.int):=by
 unfold qk;rw[Xr,Int.sub_zero];refine Ym λi _=>?_
 show D.int _=D.int i;rw[Int.zero_add]
theorem vwy s:(stn s).pure=true:=by
 cases s with
 |none=>rfl
 |some p=>
  show D.pures [.tup _]=true;simp only[D.pures,D.pure,jxt,Bool.and_self]
theorem V3(own)(kv):∀n,(nmF own kv n).length=n
 |0=>rfl|n+1=>by unfold nmF;rw[Xf,V3 own kv n];rfl
def kvS(sh:List (Int×Int)):List (Int×Int):=(sh.map λp=>(p.2,p.1)).foldl (λkv p=>vJ kv p.1 p.2) []
theorem vxz {ss rs rs' p q k k' sh} (hp:Kpr rs p k) (hq:Kpr rs' q k') (hk:0<=k) (jb:k<=100) (av:0<=k') (hk2':k'<=100) (p9:sh.length<=100):
  Oo m_first_standings [(.no,jK ss rs),(.no,jK ss rs'),(.no,.tup [.int p,.int q,.tup (prs sh)])] (λy=>y=(.no,.tup [stn (xZ p ((List.range k.toNat).map λ(i:Nat)=>(i:Int))),stn (xZ q (nmF k (kvS sh) k'.toNat))])) noX:=by
 have t0:jQ (.tup [.int p,.int q,.tup (prs sh)]) (.int 0)=some (.int p):=rfl;have t1:jQ (.tup [.int p,.int q,.tup (prs sh)]) (.int 1)=some (.int q):=rfl;have t2:jQ (.tup [.int p,.int q,.tup (prs sh)]) (.int 2)=some (.tup (prs sh)):=rfl;unfold m_first_standings;refine k7 ?_;simp![t0,t1,t2];refine (kwl hp).use ?_;intro o1 _;simp![t0,t1,t2];refine Qw (λE1 B ds ah=>E1=[some (Own.no,jK ss rs),some (Own.no,jK ss rs'),some (Own.no,D.tup [D.int p,D.int q,D.tup (prs sh)]),some (o1,D.int k),none,none,none]/\∃(q0 q1:Option Sd) (f1 f2:List (Int×Int)),B=[q0,q1]/\sh=f1++f2/\ds=prs f2/\ah.map (·.2)=prs (f1.map λp=>(p.2,p.1))) ?_ ?_ ?_
 ·simp![t2];exact #[none,none,[],sh,rfl,rfl,rfl,rfl]
 ·rintro E1 B d ds ah ⟨rfl,q0,q1,f1,f2,rfl,hf,b7,ay⟩;cases f2 with
  | nil=>cases b7
  | cons z f2=>
   have b7:d::ds=.tup [.int z.1,.int z.2]::prs f2:=b7;injection b7 with e1 e2;subst e1 e2;simp![];refine#[_,_,f1++[z],f2,rfl,by rw[hf];simp,rfl,?_];rw [Xh,ay,Xh];simp [prs]
 ·rintro E1 B ah ⟨rfl,q0,q1,f1,f2,rfl,hf,b7,ay⟩;cases f2 with
  | cons=>cases b7
  | nil =>
   rw [Xw]at hf;subst hf;rw [vW,ay,show JK 2 [] [q0,q1] [some (Own.no,jK ss rs),some (Own.no,jK ss rs'),some (Own.no,D.tup [D.int p,D.int q,D.tup (prs sh)]),some (o1,D.int k),none,none,none]=[some (Own.no,jK ss rs),some (Own.no,jK ss rs'),some (Own.no,D.tup [D.int p,D.int q,D.tup (prs sh)]),some (o1,D.int k),none,none,none]from rfl];have kg:kwp (Own.no,D.lst (prs (sh.map λp=>(p.2,p.1))))=some (.rt,V6 (kvS sh)):=xkf (by rw[X3];lia);simp![kg];refine z8 (λE am=>∃(j:Int) (l6:Option Sd),E=[some (Own.no,jK ss rs),some (Own.no,jK ss rs'),some (Own.no,D.tup [D.int p,D.int q,D.tup (prs sh)]),some (o1,D.int k),some (.rt,V6 (kvS sh)),some (.rt,iL (nmF k (kvS sh) j.toNat)),l6]/\0<=j/\j<=k'/\am=qk j k') ?_ ?_ ?_
   ·simp![t0,t1,t2];refine(kwl hq).use ?_;intro o2 _;simp![];exact#[0,_,rfl,⋯,av,rfl]
   ·rintro E d ds ⟨j,l6,rfl,j0,j1,hr⟩;obtain⟨hj,rfl,rfl⟩:=Kv j1 hr;have hjn:(j+1).toNat=j.toNat+1:=⋯
    have hjc:((j.toNat:Nat):Int)=j:=⋯
    simp![];refine Q3 rfl ?_;cases hv:kQ (kvS sh) j with
    | some v=>
     simp![↓wws,xju,xvr hv,hv,Option.isSome_some];refine#[_,rfl,by rw[X3,V3];lia,j+1,some (.no,.int j),?_,⋯,⋯,rfl];rw [hjn,kj9,hjc,hv];simp
    | none=>
     simp![↓wws,xju,hv,Option.isSome_none];have hge:∀z:Int,fGe (.int z) (.int k)=some (.bl (decide (k<=z))):=λz=>rfl
     refine Qw (λE1 B ds ah=>E1=[some (Own.no,jK ss rs),some (Own.no,jK ss rs'),some (Own.no,D.tup [D.int p,D.int q,D.tup (prs sh)]),some (o1,D.int k),some (.rt,V6 (kvS sh)),some (.rt,iL (nmF k (kvS sh) j.toNat)),some (.no,.int j)]/\∃(q0:Option Sd) (f1 f2:List Int),B=[q0,some (o1,.int k)]/\nmF k (kvS sh) j.toNat=f1++f2/\ds=f2.map D.int/\ah.map (·.2)=(f1.filter λx=>decide (k<=x)).map D.int) ?_ ?_ ?_
     ·refine v_is rfl (jxt _) ?_;exact#[rfl,none,[],_,rfl,rfl,rfl,rfl]
     ·rintro E1 B d ds ah ⟨rfl,q0,f1,f2,rfl,hf,b7,ay⟩;cases f2 with
      | nil=>cases b7
      | cons z f2=>
       rw[List.map_cons]at b7;injection b7 with e1 e2;subst e1 e2;simp![hge]
       by_cases hz:k<=z
       ·have ku:decide (k<=z)=true:=Xj hz;simp![ku];refine#[_,f1++[z],f2,rfl,by rw[hf];simp,rfl,?_];rw[Xh,ay,Yc];simp[hz]
       ·have ku:decide (k<=z)=false:=Xs hz;simp![ku];refine#[_,f1++[z],f2,rfl,by rw[hf];simp,rfl,?_];rw[ay,Yc];simp[hz]
     ·rintro E1 B ah ⟨rfl,q0,f1,f2,rfl,hf,b7,ay⟩;cases f2 with
      |cons=>cases b7
      |nil=>
       rw[Xw]at hf;rw[vW,ay,<-hf];simp![];refine#[_,rfl,by rw[X3,V3];lia,j+1,some (.no,.int j),?_,⋯,⋯,rfl];rw[hjn,kj9,hjc,hv];have:∀(l:List Int) (v:Int),l.map D.int++[D.int v]=(l++[v]).map D.int:=λl v=>by simp
       rw[this];rfl
   ·rintro E ⟨j,l6,rfl,j0,j1,hr⟩;have:=Vv j1 hr;subst this;simp![t0,t1,t2];rw[vzr];refine(kqa p ((List.range k.toNat).map λ(i:Nat)=>(i:Int)) .no ⋯).use ?_;intro o3 _;simp![t0,t1,t2];refine(kqa q (nmF k (kvS sh) j.toNat) .no ⋯).use ?_;intro o4 _;refine#[vwy _,?_];simp![]
abbrev x4(k:Int):List Int:=(List.range k.toNat).map λ(i:Nat)=>(i:Int)
def xx6(p k:Int):Sn:=xZ p (x4 k)
def xvy(q k k':Int)(sh:List (Int×Int)):Sn:=xZ q (nmF k (kvS sh) k'.toNat)
noncomputable def wv(f:Int->Int):Sn->Sn:=Option.map λp=>(p.1,p.2.map f)
theorem W0(f:Int->Int)(s:Sn):nms (wv f s)=(nms s).map f:=by cases s<;>rfl
theorem kk2(f:Int->Int)(s:Sn):rmO (wv f s)=rmO s:=by cases s<;>rfl
section
variable {f:Int->Int}
theorem vvw{x n:Int}(h:f x=f n->x=n):(f x==f n)=(x==n):=by
 rw[Bool.eq_iff_iff];simp only[beq_iff_eq];exact#[h,λe=>by rw[e]]
theorem kzk{n:Int}:∀{t:List Int},(∀x∈t,f x=f n->x=n)->((t.map f).any λw=>w==f n)=t.any λw=>w==n
 |[],_=>rfl
 |x::t,h=>by
  rw[List.map_cons,List.any_cons,List.any_cons,vvw (h x X6),kzk λy hy=>h y (lc9 _ hy)]
theorem kz9{n:Int}:∀{t:List Int},(∀x∈t,f x=f n->x=n)->((t.map f).findIdx λw=>w==f n)=t.findIdx λw=>w==n
 |[],_=>rfl
 |x::t,h=>by
  rw[List.map_cons,List.findIdx_cons,List.findIdx_cons,vvw (h x X6),kz9 λy hy=>h y (lc9 _ hy)]
theorem vjo{t:List Int}:∀{o:List Int} (k:Nat),(∀n∈o,∀x∈t,f x=f n->x=n)->qv (t.map f) k (o.map f)=qv t k o
 |[],_,_=>rfl
 |n::o,k,h=>by
  have h1:=h n X6;have ih:=vjo (t:=t) (o:=o) (k+1) λm hm=>h m (lc9 _ hm)
  rw[List.map_cons];unfold qv;rw[kzk h1,kz9 h1,ih]
theorem vkm{s t:Sn}(h:∀n∈nms s,∀x∈nms t,f x=f n->x=n):jX (wv f s) (wv f t)=jX s t:=by
 unfold jX;rw[kk2,kk2,W0,W0,vjo 0 h]
theorem qz3{ks:List Int}{c i:Int}(h:i.toNat<ks.length+1):C.nameAt (ks.map f) (f c) i=f (C.nameAt ks c i):=by
 unfold C.nameAt;rw[show ks.map f++[f c]=(ks++[c]).map f by simp,X2,X2,X8,X1 (by simpa using h)];rfl
theorem qz2{ks:List Int}{c i:Int}(h:i.toNat<ks.length+1):C.nameAt ks c i∈ks\/C.nameAt ks c i=c:=by
 unfold C.nameAt;rw[X2,X1 (by simpa using h)];have:(ks++[c])[i.toNat]'(by simpa using h)∈ks++[c]:=Xu _;rcases aA this with q|q
 ·exact .inl q
 ·exact .inr (by simpa using q)
theorem qzh{ss:List Str}{st:List D}{ks:List Int}{z:Str}{c:Int}(h:∀x∈ks,f x=f c->x=c):z9 ss st (ks.map f) z (f c)=z9 ss st ks z c:=by
 unfold z9;rw[kz9 h]
def kW(ac:List Int)(s:Sn):Prop:=∀room ks,s=some (room,ks)->0<=room/\room<ac.length/\(ks.length:Int)=ac.getD room.toNat 0
theorem wxg{ac:List Int}{ss:List Str}{rs:List D}{S:Sn}{z:Str}{c:Int}(hP:Prs ac ss.length rs)(hk:∀p∈ac,0<=p/\p<=3)(hS:kW ac S)(pz:∀x∈nms S,f x=f c->x=c):
  ∃ s':Sn,Rd ac ss rs (stn S) (z,c) (stn s')/\Rd ac ss rs (stn (wv f S)) (z,f c) (stn (wv f s'))/\(∀n∈nms s',n∈nms S\/n=c)/\(nms s').length<=100/\kW ac s':=by
 cases S with
 | none=>exact#[none,.inl #[rfl,rfl],.inl #[rfl,rfl],λ_ h=>(nomatch h),Yi _,λ_ _ h=>(nomatch h)]
 | some P=>
  obtain⟨room,ks⟩:=P;obtain⟨r0,r1,hl⟩:=hS room ks rfl;obtain⟨r,er,gd,st,rfl,jo,cn⟩:=hP.2 room.toNat ⋯;have u3:=hk (ac.getD room.toNat 0) (by rw[X2,X1 ⋯];exact Xu _);have jm:Cas ac ss.length ks.length st:=#[jo,by rw[hl];exact cn];have tz:Cas ac ss.length (ks.map f).length st:=by rw[X3];exact jm
  have inj:∀x∈ks,f x=f c->x=c:=pz;have done:∀s':Sn,wX ss st ks z c=stn s'->wX ss st (ks.map f) z (f c)=stn (wv f s')->(∀n∈nms s',n∈ks\/n=c)->(nms s').length<=100->kW ac s'->∃s':Sn,Rd ac ss rs (stn (some (room,ks))) (z,c) (stn s')/\Rd ac ss rs (stn (wv f (some (room,ks)))) (z,f c) (stn (wv f s'))/\(∀n∈nms s',n∈nms (some (room,ks))\/n=c)/\(nms s').length<=100/\kW ac s':=λs' h1 h2 h3 h4 h5=>
   #[s',.inr #[room,ks,st,_,_,rfl,r0,er,jm,⋯,h1.symm],.inr #[room,ks.map f,st,_,_,rfl,r0,er,tz,by rw[X3];lia,h2.symm],h3,h4,h5]
  cases hz:(ss.any λw=>w==z)with
  | false=>
   refine done none ?_ ?_ (λ_ h=>(nomatch h)) (Yi _) (λ_ _ h=>(nomatch h))
   ·unfold wX;rw[hz];rfl
   ·unfold wX;rw[hz];rfl
  | true=>
   obtain⟨cs,g1,g2,g3,g4⟩:=qkh c jm hz;have e1:wX ss st ks z c=XJ ks c (z9 ss st ks z c):=by unfold wX;rw[hz,Xd rfl]
   have e2:wX ss st (ks.map f) z (f c)=XJ (ks.map f) (f c) (z9 ss st ks z c):=by unfold wX;rw[hz,Xd rfl,qzh inj]
   rcases g4 with e|⟨to,fs,e,t0,t1,hfs,_,hfl⟩
   ·refine done none ?_ ?_ (λ_ h=>(nomatch h)) (Yi _) (λ_ _ h=>(nomatch h))
    ·rw[e1,e];rfl
    ·rw[e2,e];rfl
   ·have hb:=qvb (own:=ks.length) (k:=(ks.findIdx λw=>w==c:Nat));have c8:∀i∈fs,i.toNat<ks.length+1:=λi hi=>by have:=hfs i hi;lia
    refine done (some (to,fs.map (C.nameAt ks c))) ?_ ?_ (λn hn=>?_) ?_ (λtf ks' h=>?_)
    ·rw[e1,e,caseD_is];rfl
    ·rw[e2,e,caseD_is];show D.tup [.int to,iT (fs.map (C.nameAt (ks.map f) (f c)))]=D.tup [.int to,iT ((fs.map (C.nameAt ks c)).map f)];rw[Xr]
     congr 4
     exact Ym λi hi=>qz3 (c8 i hi)
    ·obtain⟨i,hi,rfl⟩:=aE hn;exact qz2 (c8 i hi)
    ·show(fs.map (C.nameAt ks c)).length<=100;rw[X3];have:=hk (ac.getD to.toNat 0) (by rw[X2,X1 ⋯];exact Xu _);lia
    ·injection h with h;injection h with h3 h4;subst h3 h4;exact#[t0,t1,by rw[X3];exact hfl]
end
end B
namespace B
open PySem Q
def m__law_cell_at:Fn:=fn 2
  (j7 (sIf (tE (cF2 (pu2 fLt) (vV 1) (vE (cF1 (pu1 qw) (vV 0))))) (jx (cH (jk (vV 0) (vV 1)))) qj)
  (jx (cC (.int 0))))
def m__law_whole:Fn:=fn 1
  (jx (vQ (vE (cF1 (pu1 (vw "int")) (vV 0))) (vvs (vE (cF1 (pu1 (vw "bool")) (vV 0))))))
noncomputable def m__law_stream:Fn:=fn 5
  (j7 (jw 2 (v9 .rt []))
  (j7 (sIf (tE (cF2 (pu2 fEq) (vE (cF2 (pu2 qx) (vV 0) (C9 2))) (C9 1))) (j7 (jw 0 (cF2 (pu2 xq) (vV 0) (C9 2)))
  (j7 (vZ (xv (vV 1)) (.n 3) (j7 (xz xJ 2 (cF2 (pu2 qx) (vV 0) (C9 2147483647)))
  (jw 0 (cF2 (pu2 xq) (vV 0) (C9 2147483647)))))
  (jx (cMv 2)))) qj)
  (j7 (jw 4 (cF2 kY (vE (cF2 (pu2 qx) (vE (cF2 (pu2 xq) (vV 0) (C9 2))) (C9 2147483647))) (C9 48271)))
  (j7 (vZ (xv (vE (cF2 kY (vV 1) (C9 1)))) (.n 3) (j7 (jw 4 (cF2 (pu2 qx) (vE (cF2 kY (vE (cF2 kY (vE (cF2 J3 (vV 4) (vV 4))) (vE (cF2 J3 (C9 48271) (vV 4))))) (vV 3))) (C9 2147483647)))
  (xz xJ 2 (cF2 (pu2 qx) (vE (cF2 kY (vE (cF2 J3 (vV 4) (C9 40692))) (vE (cF2 J3 (C9 7) (vV 3))))) (C9 2147483399)))))
  (jx (cSl (vV 2) (some (C9 1)) none))))))
noncomputable def m__law_signs:Fn:=fn 7
  (j7 (jw 1 (cC (.str "abcdefghijklmnopqrstuvwxyz")))
  (j7 (jw 2 (jz m__law_stream [(cV 0),(cC (.int 9))]))
  (j7 (jw 3 (vzg "" (vE (cLC .rt 1 [1] (itS (cSl (vV 2) none (some (vE (cF2 kY (C9 1) (vE (cF2 (pu2 qx) (vV 0) (C9 8)))))))) (.n 0) tYes (cH (jk (vV 1) (vE (cF2 (pu2 qx) (vV 0) (C9 26)))))))))
  (j7 (jw 4 (cF2 (pu2 qx) (vE (cF2 (pu2 xq) (vV 0) (C9 8))) (vE (cF1 (pu1 qw) (vV 3)))))
  (j7 (jw 5 (v9 .rt []))
  (j7 (vZ (xv (jk (vE (v9 .rt [(cC (.int 1)),(cC (.int 2)),(cC (.int 1)),(cC (.int 2)),(cC (.int 2)),(cC (.int 1)),(cC (.int 2)),(cC (.int 3))])) (vE (cF2 (pu2 qx) (vE (cF2 (pu2 xq) (vV 0) (C9 64))) (C9 8))))) (.n 6) (xz xJ 5 (cF2 kY (vE (cF2 kY (vE (cSl (vV 3) none (some (vV 4)))) (jk (vV 1) (vE (cF2 kY (vE (cF2 (pu2 qx) (jk (vV 2) (C9 8)) (C9 24))) (vV 6)))))) (vE (cSl (vV 3) (some (vE (cF2 kY (vV 4) (C9 1)))) none)))))
  (jx (cMv 5))))))))
noncomputable def m__law_fills:Fn:=fn 6
  (j7 (jw 3 (xkn (vV 2)))
  (j7 (jw 4 (v9 .rt []))
  (j7 (vZ (xv (vV 1)) (.n 5) (j7 (xz xJ 4 (xkl 3 (vE (cF2 (pu2 qx) (vV 0) (vE (cF1 (pu1 qw) (vV 3)))))))
  (jw 0 (cF2 kY (vE (cF2 (pu2 xq) (vV 0) (C9 7))) (vE (cF2 J3 (C9 5) (vV 5)))))))
  (jx (cF1 KY (vV 4))))))
noncomputable def m__law_case:Fn:=fn 5
  (j7 (sIf (tE (cF2 (pu2 fEq) (vE (cF2 (pu2 qx) (vV 0) (C9 5))) (C9 4))) (jx (cC .non)) qj)
  (j7 (jw 3 (cLC .rt 1 [1,2] (xv (vE (cF1 (pu1 qw) (vV 1)))) (.n 0) (tE (cF2 (pu2 fLe) (jk (vV 1) (vV 0)) (vV 2))) (cV 0)))
  (j7 (jw 4 (cH (jk (vV 3) (vE (cF2 (pu2 qx) (vE (cF2 (pu2 xq) (vV 0) (C9 5))) (vE (cF1 (pu1 qw) (vV 3))))))))
  (jx (qK .no [(cV 4),(jz m__law_fills [(cF2 (pu2 xq) (vV 0) (C9 35)),(cH (jk (vV 1) (vV 4))),(cV 2)])])))))
noncomputable def m__law_plain:Fn:=fn 13
  (j7 (jw 2 (jz m__law_stream [(cV 0),(cC (.int 90))]))
  (j7 (jw 3 (cH (jk (vE (v9 .rt [(cC (.int 1)),(cC (.int 2)),(cC (.int 3)),(cC (.int 4)),(cC (.int 5)),(cC (.int 2)),(cC (.int 4)),(cC (.int 6))])) (vE (cF2 (pu2 qx) (jk (vV 2) (C9 0)) (C9 8))))))
  (j7 (jw 4 (cC (.int 2)))
  (j7 (sIf (tAnd (tE (cF2 (pu2 fEq) (vV 3) (C9 3))) (tE (cF2 (pu2 fEq) (vE (cF2 (pu2 qx) (jk (vV 2) (C9 1)) (C9 3))) (C9 0)))) (jw 4 (cC (.int 3))) qj)
  (j7 (jw 5 (cF2 kY (vE (v9 .rt [(cC (.int 0))])) (vE (cLC .rt 1 [2,4] (xv (vE (cF2 (pu2 xq9) (vV 3) (C9 1)))) (.n 0) tYes (cF2 (pu2 qx) (vE (cF2 (pu2 xq) (jk (vV 1) (vE (cF2 kY (C9 1) (vV 0)))) (C9 3))) (vE (cF2 kY (vV 2) (C9 1))))))))
  (j7 (jw 6 (v9 .rt []))
  (j7 (jw 7 (cC (.int 8)))
  (j7 (vZ (xv (vV 3)) (.n 8) (j7 (jw 9 (v9 .rt []))
  (j7 (vZ (xv (vE (cF1 (pu1 qw) (vV 1)))) (.n 10) (j7 (jw 11 (v9 .rt []))
  (j7 (vZ (xv (vE (cF2 kY (jk (vV 5) (vV 8)) (C9 1)))) (.n 12) (j7 (xz xJ 11 (jz m__law_case [(cH (jk (vV 2) (vV 7))),(cV 5),(cF2 kY (jk (vV 5) (vV 8)) (vE (cF1 (pu1 xqb) (vE (cF2 (pu2 fEq) (vV 12) (jk (vV 5) (vV 8)))))))]))
  (jw 7 (cF2 kY (vV 7) (C9 1)))))
  (xz xJ 9 (cV 11)))))
  (j7 (xz xJ 6 (qK .no [(cH (jk (vV 5) (vV 8))),(cF2 (pu2 fEq) (vE (cF2 (pu2 qx) (jk (vV 2) (vV 7)) (C9 2))) (C9 0)),(cV 9)]))
  (jw 7 (cF2 kY (vV 7) (C9 1)))))))
  (jx (qK .no [(cF1 Q4 (vV 1)),(cV 6)]))))))))))
noncomputable def m__law_read:Fn:=fn 11
  (j7 (sIf (tE (cF2 (f2First fIsNon) (vV 1) (vE (cC .non)))) (jx (cC .non)) qj)
  (j7 (Zq [4,5] (cV 1))
  (j7 (Zq [6,7,8] (cH (jk (jk (vV 0) (C9 1)) (vV 4))))
  (j7 (jw 9 (cV 6))
  (j7 (sIf (tE (cF2 (pu2 Jj) (vV 3) (vV 5))) (jw 9 (Qv (vV 5) (vV 3))) qj)
  (j7 (jw 10 (cH (jk (jk (vV 8) (vE (Qv (jk (vV 0) (C9 0)) (vV 2)))) (vV 9))))
  (j7 (sIf (tE (cF2 (f2First fIsNon) (vV 10) (vE (cC .non)))) (jx (cC .non)) qj)
  (jx (qK .no [(cH (jk (vV 10) (C9 0))),(cF1 KY (vE (cLC .rt 1 [5,3] (itS (cH (jk (vV 10) (C9 1)))) (.n 0) tYes (cH (jk (vE (cF2 kY (vE (cF1 Q4 (vV 1))) (vE (v9 .rt [(cV 2)])))) (vV 0))))))])))))))))
noncomputable def m__law_pair:Fn:=fn 7
  (j7 (jw 2 (v9 .rt [(qK .no []),(qK .no [])]))
  (j7 (jw 3 (v9 .rt [(cF1 (pu1 VQ) (C9 1)),(cF1 (pu1 VQ) (C9 1))]))
  (j7 (vZ (xq7 (v9 .rt [(cV 0),(cV 1)])) (.t [4,5]) (sIf (tE (cF2 (f2First fNotNon) (vV 5) (vE (cC .non)))) (j7 (wxc 3 (vV 4) (cH (jk (vV 5) (C9 0))))
  (wxc 2 (vV 4) (cH (jk (vV 5) (C9 1))))) qj))
  (j7 (jw 6 (cLC .rt 2 [2] (vql (cH (jk (vV 2) (C9 0)))) (.t [0,1]) (tE (cF2 (pu2 Jj) (vV 1) (jk (vV 2) (C9 1)))) (qK .no [(cV 0),(Qv (jk (vV 2) (C9 1)) (vV 1))])))
  (jx (qK .no [(cH (jk (vV 3) (C9 0))),(cH (jk (vV 3) (C9 1))),(cF1 KY (vV 6))]))))))
end B
namespace B
open Q PySem C
def J6(ns:List Int)(k:Nat):Int:=ns.getD k 0
theorem kk9 ns (k:Nat)(hn:ns.length<=10000):Oo m__law_cell_at [(.no,iL ns),(.no,.int k)] (λy=>∃o',y=(o',.int (J6 ns k))/\True) noX:=by
 refine k7 ?_;simp![]
 by_cases h:(k:Int)<ns.length
 ·have hx:jQ (iL ns) (.int k)=some (.int (J6 ns k)):=by
   refine xk ⋯ ?_;unfold J6;rw[Xp,X8,X1 ⋯,X2,X1 ⋯];rfl
  have hd:=Xj h;rw[Xd hd];simp![hx];exact#[_,rfl,trivial]
 ·have hd:¬decide ((k:Int)<ns.length)=true:=by rw[Xs h];decide
  rw[Xg hd];refine#[.dp,?_,trivial];rw[show J6 ns k=0 by unfold J6;rw[X2,Xy ⋯];rfl]
theorem qzx i:Oo m__law_whole [(.no,.int i)] (λy=>∃o',y=(o',.bl true)/\True) noX:=by
 refine k7 ?_;simp![show vw "int" (.int i)=some (.bl true)from rfl,show vw "bool" (.int i)=some _ from rfl];exact#[_,rfl,trivial]
def St(n:Int)(xs:List Int):Prop:=(xs.length:Int)=n/\∀x∈xs,0<=x/\x<2147483647
theorem kzv(c n)(hn:0<=n)(lu:n<=100):Oo m__law_stream [(.no,.int c),(.no,.int n)] (λy=>∃xs,y=(.rt,iL xs)/\St n xs) noX:=by
 unfold m__law_stream;refine k7 ?_
 by_cases h:c % 2=1
 ·have hd:(c % 2==1)=true:=by simp[h]
  simp![eqi hd];refine z8 (λE am=>∃(j v:Int) (xs:List Int) (l3:Option Sd),E=[some (.dp,.int v),some (.no,.int n),some (.rt,iL xs),l3,none]/\0<=j/\j<=n/\am=qk j n/\St j xs) ?_ ?_ ?_
  ·simp![];exact#[0,_,[],_,rfl,⋯,hn,rfl,rfl,λ_ z=>nomatch z]
  ·rintro E d ds ⟨j,v,xs,l3,rfl,j0,j1,hr,hx⟩;obtain⟨hj,rfl,rfl⟩:=Kv j1 hr;simp![];refine Q3 rfl ?_;simp![];refine#[_,rfl,by rw[X3];have:=hx.1;lia,?_];simp![];refine#[j+1,v / 2147483647,xs++[v % 2147483647],some (.no,.int j),by simp,⋯,⋯,rfl,by have:=hx.1;simp;lia,λx hm=>?_];rcases aA hm with z|z
   ·exact hx.2 x z
   ·rw[aC z];lia
  ·rintro E ⟨j,v,xs,l3,rfl,j0,j1,hr,hx⟩;have:=Vv j1 hr;subst this;simp![];exact#[xs,rfl,hx]
 ·have hd:(c % 2==1)=false:=Ya h;simp![eqi hd];refine z8 (λE am=>∃(j v:Int) (xs:List Int) (l3:Option Sd),E=[some (.no,.int c),some (.no,.int n),some (.rt,iL xs),l3,some (.dp,.int v)]/\0<=j/\j<=n+1/\am=qk j (n+1)/\St j xs/\0<=v/\v<4294967296) ?_ ?_ ?_
  ·simp![];exact#[0,_,[],_,rfl,⋯,⋯,rfl,#[rfl,λ_ z=>nomatch z],⋯,⋯]
  ·rintro E d ds ⟨j,v,xs,l3,rfl,j0,j1,hr,hx,v0,v1⟩;obtain⟨hj,rfl,rfl⟩:=Kv j1 hr;have hm:=mul_l (o1:=.dp) (o2:=.dp) (a:=v) (b:=v) ⋯ ⋯;simp![hm];generalize hw:(v*v+48271*v+j) % 2147483647=u;have u0:0<=u/\u<2147483647:=by rw[<-hw];lia
   have n6:=mul_l (o1:=.dp) (o2:=.dp) (a:=u) (b:=40692) ⋯ ⋯;refine Q3 rfl ?_;simp![n6];refine#[_,rfl,by rw[X3];have:=hx.1;lia,(#[j+1,u,xs++[(u*40692+7*j) % 2147483399],some (.no,.int j),by simp,⋯,⋯,rfl,#[by have:=hx.1;simp;lia,λx hm=>?_],⋯,⋯])];rcases aA hm with z|z
   ·exact hx.2 x z
   ·rw[aC z];lia
  ·rintro E ⟨j,v,xs,l3,rfl,j0,j1,hr,hx,v0,v1⟩;have:=Vv j1 hr;subst this;simp![Zx (o:=.rt) (xs:=xs.map D.int) (lo:=some 1) (hi:=none) ⋯];have hl:=hx.1;have nr:KK (xs.map D.int) (some 1) none=(xs.drop 1).map D.int:=by
    unfold KK Q5;dsimp only;rw[Xg ⋯,X3,show min (1:Int).toNat xs.length=1 by show min 1 xs.length=1;lia,<-List.map_drop,List.take_of_length_le (by rw[X3,Zk];lia)]
   rw[nr];exact#[xs.drop 1,rfl,by rw[Zk];lia,λx hm=>hx.2 x (List.mem_of_mem_drop hm)]
theorem vjr n:((List.range n).map λ(j:Nat)=>(j:Int)).Nodup:=List.Pairwise.map _ (λa b h e=>h ⋯) List.nodup_range
theorem vz1(x need free)(h0:0<=need)(h1:need<=free)(h2:free<=100):Oo m__law_fills [(.no,.int x),(.no,.int need),(.no,.int free)] (λy=>∃fs:List Int,y=(.no,.tup (fs.map D.int))/\(fs.length:Int)=need/\(∀f∈fs,0<=f/\f<free)/\fs.Nodup) noX:=by
 unfold m__law_fills;refine k7 ?_;simp![];rw[vzr];refine z8 (λE am=>∃(j v:Int) (o:Own) (sm fl:List Int) (l5:Option Sd),E=[some (o,.int v),some (.no,.int need),some (.no,.int free),some (.rt,iL sm),some (.rt,iL fl),l5]/\0<=j/\j<=need/\am=qk j need/\(fl.length:Int)=j/\(sm.length:Int)+fl.length=free/\(fl++sm).Nodup/\∀f∈fl++sm,0<=f/\f<free) ?_ ?_ ?_
 ·simp![];refine#[0,x,.no,(List.range free.toNat).map λ(j:Nat)=>(j),[],none,rfl,⋯,h0,rfl,rfl,?_,?_,?_]
  ·simp;lia
  ·rw[List.nil_append];exact vjr _
  ·intro f hf;rw[List.nil_append]at hf;obtain⟨j,hj,rfl⟩:=aE hf;have:=List.mem_range.mp hj;lia
 ·rintro E d ds ⟨j,v,o,sm,fl,l5,rfl,j0,j1,hr,hl,hs,hn,hm⟩;obtain⟨hj,rfl,rfl⟩:=Kv j1 hr;have hsm:0<sm.length:=⋯
  have u1:=Y5 v (show(0:Int)<sm.length by lia);have hi:(v % sm.length).toNat<sm.length:=⋯
  simp![];refine Q3 rfl (wze rfl ?_);simp![mod_i (a:=v) (b:=(sm.length:Int)) ⋯];refine#[.rt,_,_,.int (sm[(v % sm.length).toNat]),rfl,⋯,rfl,(Yh v (show(sm.length:Int)≠0 by lia)),⋯,by rw[X8,X1 hi];rfl,rfl,?_];simp![];refine#[_,rfl,by rw[X3];lia,?_];simp![];have pm:(fl++[sm[(v % sm.length).toNat]]++sm.eraseIdx (v % sm.length).toNat).Perm (fl++sm):=by
   rw[Xk];exact List.Perm.append_left fl (jv0 hi)
  refine#[j+1,v / 7+5*j,.dp,sm.eraseIdx (v % sm.length).toNat,fl++[sm[(v % sm.length).toNat]],some (.no,.int j),?_,⋯,⋯,rfl,?_,?_,pm.nodup_iff.mpr hn,λf hf=>hm f (pm.mem_iff.mp hf)]
  ·simp only[iL,Xh,List.map_cons,List.map_nil,qkb]
  ·rw[Xf];simp;lia
  ·rw[List.length_eraseIdx_of_lt hi,Xf];simp;lia
 ·rintro E ⟨j,v,o,sm,fl,l5,rfl,j0,j1,hr,hl,hs,hn,hm⟩;have:=Vv j1 hr;subst this;simp![Q.tup_l (o:=.rt) (xs:=fl.map D.int) ⋯];exact#[fl,rfl,hl,λf hf=>hm f (ll9 _ hf),(List.nodup_append.mp hn).1]
theorem vzc(x free)(ac)(hk:∀p∈ac,0<=p/\p<=3)(qu:ac[0]?=some 0)(hl:ac.length<=100)(hf:0<=free)(hf2:free<=100):Oo m__law_case [(.no,.int x),(.no,iL ac),(.no,.int free)] (λy=>Cs ac free y.2) noX:=by
 have ak:0<ac.length:=by
  cases ac with| nil=>cases qu| cons=>simp
 unfold m__law_case;refine k7 ?_
 by_cases h:x % 5=4
 ·have hd:(x % 5==4)=true:=by simp[h]
  simp![eqi hd];exact .inl rfl
 ·have hd:(x % 5==4)=false:=Ya h;simp![eqi hd];refine Qw (λE1 B ds ah=>E1=[some (.no,.int x),some (.no,iL ac),some (.no,.int free),none,none]/\∃(j:Int) (q0:Option Sd) (fl:List Int),B=[q0,some (.no,iL ac),some (.no,.int free)]/\0<=j/\j<=ac.length/\ds=qk j ac.length/\ah.map (·.2)=fl.map D.int/\(∀t∈fl,0<=t/\t<ac.length/\ac.getD t.toNat 0<=free)/\(0<j->fl≠[])/\(fl.length:Int)<=j) ?_ ?_ ?_
  ·simp![];exact#[0,none,[],rfl,⋯,⋯,rfl,rfl,λ_ z=>(nomatch z),λz=>absurd z ⋯,by simp]
  ·rintro E1 B d ds ah ⟨rfl,j,q0,fl,rfl,j0,j1,hr,ay,hfl,ck,i8⟩;obtain⟨hj,rfl,rfl⟩:=Kv j1 hr;have hjl:j.toNat<ac.length:=⋯
   have hx:jQ (iL ac) (.int j)=some (.int (ac.getD j.toNat 0)):=xk j0 (by rw[X8,X1 hjl,X2,X1 hjl];rfl)
   by_cases hz:ac.getD j.toNat 0<=free
   ·have ku:decide (ac.getD j.toNat 0<=free)=true:=Xj hz;simp![hx,ku];refine#[j+1,_,fl++[j],rfl,⋯,⋯,rfl,by rw[Xh,Xh,ay];rfl,λt ht=>?_,λ_=>by simp,by simp;lia];rcases aA ht with q|q
    ·exact hfl t q
    ·rw[aC q];exact#[j0,⋯,hz]
   ·have ku:decide (ac.getD j.toNat 0<=free)=false:=Xs hz;have hj0:0<j:=by
     rcases Int.lt_or_eq_of_le j0 with q|q
     ·exact q
     ·subst q;exfalso;apply hz;rw[X2];show(ac[0]?).getD 0<=free;rw[qu];exact hf
    simp![hx,ku];exact#[j+1,_,fl,rfl,⋯,⋯,rfl,ay,hfl,λ_=>ck hj0,⋯]
  ·rintro E1 B ah ⟨rfl,j,q0,fl,rfl,j0,j1,hr,ay,hfl,ck,i8⟩;have:=Vv j1 hr;subst this;have hfl0:0<fl.length:=List.length_pos_iff.mpr (ck ⋯);have u0:=Yh (x / 5) (show(fl.length:Int)≠0 by lia);have u1:=Y5 (x / 5) (show(0:Int)<fl.length by lia);have hi:(x / 5 % fl.length).toNat<fl.length:=⋯
   obtain⟨t,et⟩:∃t,fl[(x / 5 % fl.length).toNat]?=some t:=#[_,X1 hi];obtain⟨t0,t1,t2⟩:=hfl t (Z1 et);have hx:jQ (iL fl) (.int (x / 5 % fl.length))=some (.int t):=xk u0 (by rw[X8,et];rfl);have htl:t.toNat<ac.length:=⋯
   have hy:jQ (iL ac) (.int t)=some (.int (ac.getD t.toNat 0)):=xk t0 (by rw[X8,X1 htl,X2,X1 htl];rfl);have ui:=hk (ac.getD t.toNat 0) (by rw[X2,X1 htl];exact Xu _);rw[vW,ay,show JK 1 [1,2] [q0,some (Own.no,iL ac),some (Own.no,D.int free)] [some (Own.no,D.int x),some (Own.no,iL ac),some (Own.no,D.int free),none,none]=[some (Own.no,D.int x),some (Own.no,iL ac),some (Own.no,D.int free),none,none]from rfl];simp![mod_i (a:=x / 5) (b:=(fl.length:Int)) ⋯,hx,hy];refine(vz1 (x / 35) (ac.getD t.toNat 0) free ui.1 t2 hf2).use ?_;rintro fs ⟨f1,f2,f3⟩;simp![];exact .inr #[t,fs,rfl,t0,t1,f2,f3,f1]
def Gdr(rs:List D)(room:Int)(g:Bool):Prop:=(room=-1/\g=false)\/(0<=room/\∃k st,rs[room.toNat]?=some (.tup [k,.bl g,st]))
theorem nei{a b k}(h:(a==b)=k):fNe (.int a) (.int b)=some (.bl !k):=by rw[<-h];rfl
theorem kv2{ss:List Str}{rs:List D}{room:Int}{g:Bool}(h:Gdr rs room g):Oo m_is_good_in [(.no,jK ss rs),(.no,.int room)] (λy=>∃o':Own,y=(o',.bl g)/\True) noX:=by
 unfold m_is_good_in;refine k7 ?_;rcases h with⟨rfl,rfl⟩|⟨h0,k,st,hr⟩
 ·simp![nei (a:=-1) (b:=-1) rfl];exact#[_,rfl,trivial]
 ·have ck:(room == -1)=false:=Ya ⋯;have hi:jQ (.lst rs) (.int room)=some (.tup [k,.bl g,st]):=xk h0 hr;simp![p0,p1,nei ck,hi,show jQ (.tup [k,.bl g,st]) (.int 1)=some (.bl g)from rfl];exact#[_,rfl,trivial]
theorem neg1:VQ (.int 1)=some (.int (-1)):=rfl
theorem qwb{o xs}(h:o≠.dp):Q4 (o,.tup xs)=some (.rt,.lst xs):=by
 cases o with|dp=>exact absurd rfl h|no=>rfl|rt=>rfl
theorem vwr{ac}{ss:List Str}{rs st:List D}{gd:D}{room:Int}{ks:List Int}{z:Str}{p:Int}(h0:0<=room)(hr:rs[room.toNat]?=some (.tup [.int ks.length,gd,.lst st]))(hc:Cas ac ss.length ks.length st)(hl:ks.length<=1000)(hz:(ss.any λw=>w==z)=true):
  Oo m__law_read [(.no,jK ss rs),(.no,.tup [.int room,iT ks]),(.no,.str z),(.no,.int p)] (λy=>y.2=wX ss st ks z p) noX:=by
 have hi:jQ (.lst rs) (.int room)=some (.tup [.int ks.length,gd,.lst st]):=xk h0 hr;unfold wX;obtain⟨cs,g1,g2,g3,g4⟩:=qkh p hc hz;have hx:jQ (.lst st) (.int (ss.findIdx λw=>w==z:Nat))=some (.lst cs):=xk ⋯ (by rw[Xp];exact g1);have hy:jQ (.lst cs) (.int (ks.findIdx λw=>w==p:Nat))=some (z9 ss st ks z p):=xk ⋯ (by rw[Xp];exact g3);have me:=xjv hz;rw [Xd hz];generalize z9 ss st ks z p=c at g4 hy;have ji:kY (.no,.lst (ks.map D.int)) (.no,.lst [.int p])=some (.rt,.lst ((ks++[p]).map D.int)):=by
  rw[show(ks++[p]).map D.int=ks.map D.int++[.int p]by simp];exact vvz ⋯ ⋯ (by simp;lia)
 have md:∀{i:Int},0<=i->i<=ks.length->jQ (.lst ((ks++[p]).map D.int)) (.int i)=some (.int (C.nameAt ks p i)):=fun {i} i0 i1=>by
  refine xk i0 ?_;unfold C.nameAt;rw[X8,X2,X1 (by simp;lia)];rfl
 have hb:=qvb (own:=ks.length) (k:=(ks.findIdx λw=>w==p:Nat));unfold m__law_read;generalize hR:j7 (jw 10 _) _=R;have key:∀o9,Po (R [some (.no,jK ss rs),some (.no,.tup [.int room,iT ks]),some (.no,.str z),some (.no,.int p),some (.no,.int room),some (.no,iT ks),some (.no,.int ks.length),some (.no,gd),some (.no,.lst st),some (o9,.int (ks.findIdx λw=>w==p:Nat)),none]) (λ_=>D.non=XJ ks p c) (λ_=>False) (λy=>y.2=XJ ks p c) noX:=by
  subst hR;intro o9;rcases g4 with rfl|⟨to,fs,rfl,t0',t1',hfs,_⟩
  ·simp![p0,me,hx,hy];rfl
  ·simp![p0,p1,me,hx,hy];refine zW [some (.no,iT ks),some (.no,.int p)] (λf y=>y.2=match f with|.int i=>.int (C.nameAt ks p i)|_=>.non) ?_;simp![p1];refine#[rfl,λf hf=>?_,λys hys=>?_]
   ·obtain⟨i,ly,rfl⟩:=aE hf;have:=hfs i ly;simp![qwb (o:=.no) (xs:=ks.map D.int) ⋯,ji,md (i:=i) this.1 ⋯];exact#[#[_,rfl],trivial]
   ·rw[vW,K8 (h:=λf=>match f with|.int i=>.int (C.nameAt ks p i)|_=>.non) (λd y h=>h) hys,Xr,show(_∘D.int)=D.int∘C.nameAt ks p from rfl,<-Xr];simp only[back,clr,at',List.set_cons_zero,List.set_cons_succ];simp![Q.tup_l (o:=.no) (xs:=(fs.map (C.nameAt ks p)).map D.int) ⋯];exact caseD_is.symm
 refine k7 ?_;cases hp:(ks.any λw=>w==p)with
 |true=>
  simp![p1,hi,WV,hp,vxt hp];exact key _
 |false=>
  rw[xk8 hp]at key;simp![p1,hi,WV,hp];exact key _
inductive PSt (a b:Sn):List (List Int)->List Int->List D->Prop
 |a:PSt a b [[],[]] [-1,-1] [.tup [.int 0,stn a],.tup [.int 1,stn b]]
 |b:PSt a b [nms a,[]] [rmO a,-1] [.tup [.int 1,stn b]]
 |c:PSt a b [nms a,nms b] [rmO a,rmO b] []
theorem PSt.step{a b n r d ds}(h:PSt a b n r (d::ds)):∃(k:Nat) (s:Sn),d=.tup [.int k,stn s]/\Q.ixN (n.map iT).length k=some k/\Q.ixN (r.map D.int).length k=some k/\PSt a b (n.set k (nms s)) (r.set k (rmO s)) ds/\(s=none->n.set k []=n/\r.set k (-1)=r):=by
 cases h with|a=>exact#[0,a,rfl,rfl,rfl,.b,λ_=>#[rfl,rfl]]|b=>exact#[1,b,rfl,rfl,rfl,.c,λ_=>#[rfl,rfl]]
theorem vxd(a b)(ha:(nms a).length<=100)(hb:(nms b).length<=100):Oo m__law_pair [(.no,stn a),(.no,stn b)] (λy=>y=(.no,jX a b)) noX:=by
 have sn:stn none=.non:=rfl;have ss:∀s,stn (some s)=.tup [.int s.1,iT s.2]:=λs=>rfl
 unfold m__law_pair;refine k7 ?_;simp![neg1];refine z8 (λE am=>∃(n:List (List Int)) (r:List Int) (l4 l5:Option Sd),E=[some (.no,stn a),some (.no,stn b),some (.rt,.lst (n.map iT)),some (.rt,.lst (r.map D.int)),l4,l5,none]/\PSt a b n r am) ?_ ?_ ?_
 ·simp![];exact#[_,_,_,_,rfl,.a]
 ·rintro E d ds ⟨n,r,l4,l5,rfl,h⟩;obtain⟨k,s,rfl,h1,h2,h3,h4⟩:=h.step;cases s with
  | none=>
   obtain⟨e1,e2⟩:=h4 rfl;have h3:PSt a b (n.set k []) (r.set k (-1)) ds:=h3;rw [e1,e2]at h3;simp![sn];exact#[_,_,_,_,rfl,h3]
  | some s=>
   simp![ss];refine vzy ?_;simp![p0];refine#[rfl,.rt,_,k,k,rfl,⋯,rfl,h2,vzy ?_];simp![p1];refine#[rfl,.rt,_,k,k,rfl,⋯,rfl,h1,?_];rw [show(n.map iT).set k (iT s.2)=(n.set k s.2).map iT from List.map_set.symm,show(r.map D.int).set k (.int s.1)=(r.set k s.1).map D.int from List.map_set.symm];exact#[_,_,_,_,rfl,h3]
 ·rintro E ⟨_,_,l4,l5,rfl,h⟩;cases h
  ·have i0:jQ (.lst [iT (nms a),iT (nms b)]) (.int 0)=some (iT (nms a)):=rfl;have i1:jQ (.lst [iT (nms a),iT (nms b)]) (.int 1)=some (iT (nms b)):=rfl;have j0:jQ (.lst [.int (rmO a),.int (rmO b)]) (.int 0)=some (.int (rmO a)):=rfl;have j1:jQ (.lst [.int (rmO a),.int (rmO b)]) (.int 1)=some (.int (rmO b)):=rfl;simp![];refine Qw (λE1 B ds ah=>E1=[some (.no,stn a),some (.no,stn b),some (.rt,.lst [iT (nms a),iT (nms b)]),some (.rt,.lst [.int (rmO a),.int (rmO b)]),l4,l5,none]/\∃(q0 q1:Option Sd) (f1 f2:List Int),B=[q0,q1,some (.rt,.lst [iT (nms a),iT (nms b)])]/\nms a=f1++f2/\ds=zq f1.length (f2.map D.int)/\ah.map (·.2)++prs (qv (nms b) f1.length f2)=prs (qv (nms b) 0 (nms a))) ?_ ?_ ?_
   ·simp![i0,↓vj0,show vwd (iT (nms a))=some ((nms a).map D.int)from rfl];exact#[none,none,[],nms a,rfl,rfl,rfl,rfl]
   ·rintro E1 B d ds ah ⟨rfl,q0,q1,f1,f2,rfl,hf,b7,ay⟩;cases f2 with
    | nil=>cases b7
    | cons z f2=>
     have b7:d::ds=.tup [.int f1.length,.int z]::zq (f1.length+1) (f2.map D.int):=b7;injection b7 with e1 e2;subst e1 e2;simp![i0,i1,WV];have gu:(f1++[z]).length=f1.length+1:=by simp
     cases hz:((nms b).any λw=>w==z)with
     |false=>
      simp![];refine#[_,_,f1++[z],f2,rfl,by rw[hf];simp,by rw[gu],?_];rw[<-ay,gu]
      congr 2
      conv=>rhs;unfold qv
      rw[hz,Xg ⋯]
     |true=>
      simp![i0,i1,vxt hz];refine#[_,_,f1++[z],f2,rfl,by rw[hf];simp,by rw[gu],?_];rw[<-ay,gu,Xh,Xk]
      congr 1
      conv=>rhs;unfold qv
      rw[hz,Xd rfl];rfl
   ·rintro E1 B ah ⟨rfl,q0,q1,f1,f2,rfl,hf,b7,ay⟩;cases f2 with
    |cons=>cases b7
    |nil=>
     have ay:ah.map (·.2)=prs (qv (nms b) 0 (nms a)):=by rw[<-ay];simp[qv]
     rw[vW,ay,show JK 2 [2] [q0,q1,some (Own.rt,D.lst [iT (nms a),iT (nms b)])] [some (Own.no,stn a),some (Own.no,stn b),some (Own.rt,D.lst [iT (nms a),iT (nms b)]),some (Own.rt,D.lst [D.int (rmO a),D.int (rmO b)]),l4,l5,none]=[some (Own.no,stn a),some (Own.no,stn b),some (Own.rt,D.lst [iT (nms a),iT (nms b)]),some (Own.rt,D.lst [D.int (rmO a),D.int (rmO b)]),l4,l5,none]from rfl];simp![j0,j1,Q.tup_l (o:=.rt) (xs:=prs (qv (nms b) 0 (nms a))) ⋯];rfl
theorem qwp:∀l,D.flats 38 (prs l)=true
 |[]=>by simp[D.flats]
 |p::l=>by
  have ih:=qwp l;unfold prs at ih ⊢;rw[List.map_cons];simp only[D.flats,D.flat,ih,Bool.and_self]
theorem vv1(r r') l:(D.tup [.int r,.int r',.tup (prs l)]).flat 40=true:=by
 have:=qwp l;simp only[D.flat,D.flats,this,Bool.and_self]
def kvN(N:List Int)(sh:List (Int×Int)):List (Int×Int):=sh.foldl (λkv p=>vJ kv p.2 (N.getD p.1.toNat 0)) []
def vjc(N:List Int)(k:Int)(sh:List (Int×Int))(n:Nat):List Int:=(List.range n).map λ(j:Nat)=>(kQ (kvN N sh) (j:Int)).getD (N.getD (k.toNat+j) 0)
theorem wqm{m N N' C R X}(h:Po m N C R X)(k:∀E,N E->N' E):Po m N' C R X:=by
 cases m with
 |none=>exists h
 |some r=>cases r with|nx E=>exists k E h|bk E=>exists h|ct E=>exists h|rt E x=>exists h|xc E c=>exists h
theorem vkg{a b E N C R}{X} I (h1:Po (a E) I C R X)(h2:∀E,I E->Po (b E) N C R X):Po (j7 a b E) N C R X:=by
 rw[wj2];exact wqm h1 h2
inductive PlC (c:Int)(ss:List Str)(xs:List Int)(size m:Int)(ac:List Int)(rs:List D)(r own:Int)(st:List D)(s:Int):En->List D->Prop
 |mk (k:Int) (gf:Int) (cs:List D) {o5:Own} {o7:Own} {m8:Option Sd} {am:List D} (h0:sub o5=.no) (h1:0<=k) (h2:k<=own+1) (h3:am=qk k (own+1)) (h4:(cs.length:Int)=k) (h5:8<=gf) (h6:gf<=8+(3*(m+1)+1)*r+(m+1)*s+k) (h7:∀k:Nat,k<cs.length->∃z,cs[k]?=some z/\Cs ac (xX own k) z):PlC c ss xs size m ac rs r own st s [some (.no,.int c),some (.no,sL ss),some (.rt,iL xs),some (.no,.int size),some (.dp,.int m),some (o5,iL ac),some (.rt,.lst rs),some (o7,.int gf),some (.no,.int r),some (.rt,.lst st),some (.no,.int s),some (.rt,.lst cs),m8] am
inductive PlB (c:Int)(ss:List Str)(xs:List Int)(size m:Int)(ac:List Int)(rs:List D)(r own:Int):En->List D->Prop
 |mk (s:Int) (gf:Int) (st:List D) {o5:Own} {o7:Own} {n9:Option Sd} {nj:Option Sd} {m8:Option Sd} {am:List D} (h0:sub o5=.no) (h1:0<=s) (h2:s<=ss.length) (h3:am=qk s ss.length) (h4:(st.length:Int)=s) (h5:8<=gf) (h6:gf<=8+(3*(m+1)+1)*r+(m+1)*s) (h7:∀c∈st,∃cs:List D,c=.lst cs/\(cs.length:Int)=own+1/\∀k:Nat,k<cs.length->∃z,cs[k]?=some z/\Cs ac (xX own k) z):PlB c ss xs size m ac rs r own [some (.no,.int c),some (.no,sL ss),some (.rt,iL xs),some (.no,.int size),some (.dp,.int m),some (o5,iL ac),some (.rt,.lst rs),some (o7,.int gf),some (.no,.int r),some (.rt,.lst st),n9,nj,m8] am
inductive PlA (c:Int)(ss:List Str)(xs:List Int)(size m:Int)(ac:List Int):En->List D->Prop
 |mk (r:Int) (gf:Int) (rs:List D) {l8:Option Sd} {l9:Option Sd} {n9:Option Sd} {nj:Option Sd} {m8:Option Sd} {o5:Own} {o7:Own} {am:List D} (h0:sub o5=.no) (h1:0<=r) (h2:r<=size) (h3:am=qk r size) (h4:(rs.length:Int)=r) (h5:8<=gf) (h6:gf<=8+(3*(m+1)+1)*r) (h7:∀i:Nat,i<rs.length->∃d,rs[i]?=some d/\Pr ac ss.length (ac.getD i 0) d):PlA c ss xs size m ac [some (.no,.int c),some (.no,sL ss),some (.rt,iL xs),some (.no,.int size),some (.dp,.int m),some (o5,iL ac),some (.rt,.lst rs),some (o7,.int gf),l8,l9,n9,nj,m8] am
theorem qjc(c)(ss)(hs:1<=ss.length)(hs2:ss.length<=3):Oo m__law_plain [(.no,.int c),(.no,sL ss)] (λy=>∃rs,y=(.no,jK ss rs)/\∃ac:List Int,1<=ac.length/\ac.length<=6/\ac[0]?=some 0/\(∀p∈ac,0<=p/\p<=3)/\Prs ac ss.length rs) noX:=by
 unfold m__law_plain;refine k7 ?_;simp![];refine(kzv c 90 ⋯ ⋯).use ?_;intro xs hx;have hxl:=hx.1;have ix:∀i:Int,0<=i->i<90->∃v:Int,jQ (iL xs) (.int i)=some (.int v)/\0<=v:=λi i0 i1=>by
  obtain⟨v,e,h,_⟩:=ixI xs _ hx.2 i i0 ⋯;exact#[v,e,h.1]
 obtain⟨v0,e0,a0⟩:=ix 0 ⋯ ⋯;obtain⟨v1,e1,a1⟩:=ix 1 ⋯ ⋯;have q0:=Yh v0 (show(8:Int)≠0 by decide);have q1:=Y5 v0 (show(0:Int)<8 by decide);obtain⟨size,esz,sz0,sz1⟩:∃sz:Int,jQ (.lst [.int 1,.int 2,.int 3,.int 4,.int 5,.int 2,.int 4,.int 6]) (.int (v0 % 8))=some (.int sz)/\1<=sz/\sz<=6:=by
  generalize v0 % 8=t at q0 q1;have:t=0\/t=1\/t=2\/t=3\/t=4\/t=5\/t=6\/t=7:=⋯
  rcases this with rfl|rfl|rfl|rfl|rfl|rfl|rfl|rfl<;>exact#[_,rfl,⋯,⋯]
 refine vkg (λE=>E=[some (.no,.int c),some (.no,sL ss),some (.rt,iL xs),some (.no,.int size),none,none,none,none,none,none,none,none,none]) ?_ ?_
 ·simp![e0,esz]
 rintro E rfl;refine vkg (λE=>E=[some (.no,.int c),some (.no,sL ss),some (.rt,iL xs),some (.no,.int size),some (.dp,.int 2),none,none,none,none,none,none,none,none]) ?_ ?_
 ·simp![]
 rintro E rfl;refine vkg (λE=>∃m:Int,E=[some (.no,.int c),some (.no,sL ss),some (.rt,iL xs),some (.no,.int size),some (.dp,.int m),none,none,none,none,none,none,none,none]/\((m=2)\/(m=3/\size=3))) ?_ ?_
 ·by_cases h3:size=3
  ·have hb:(size==3)=true:=by simp[h3]
   by_cases h4:v1 % 3=0
   ·have gr:(v1 % 3==0)=true:=by simp[h4]
    simp![e1,eqi hb,eqi gr];exact#[3,rfl,.inr #[rfl,h3]]
   ·have gr:(v1 % 3==0)=false:=Ya h4;simp![e1,eqi hb,eqi gr];exact#[2,rfl,.inl rfl]
  ·have hb:(size==3)=false:=Ya h3;simp![eqi hb];exact#[2,rfl,.inl rfl]
 rintro E ⟨m,rfl,hm⟩;have hm0:2<=m/\m<=3:=by rcases hm with rfl|⟨rfl,_⟩<;>lia
 simp![];refine zW [some (.rt,iL xs),some (.dp,.int m)] (λ_ y=>∃i,y=(.dp,.int i)/\0<=i/\i<=m) ?_;simp![];refine#[rfl,λd hd'=>?_,λys hy=>?_]
 ·obtain⟨i,i0,i1,rfl⟩:=qqq hd';obtain⟨w,ew,aw⟩:=ix (1+i) ⋯ ⋯;have:=Yh (w / 3) (show m+1≠0 by lia);have:=Y5 (w / 3) (show 0<m+1 by lia);simp![ew,mod_i (a:=w / 3) (b:=m+1) ⋯];exact#[#[_,rfl],_,rfl,⋯,⋯]
 obtain⟨ks,h1,h2,h3⟩:=kv6 (S:=λi=>0<=i/\i<=m) (λd y #[i,h,s]=>#[i,by rw[h],s]) hy;rw [vW,h1];simp only[back,clr,at',List.map_cons,List.map_nil,List.set_cons_zero,List.set_cons_succ];have hkl:((0::ks).length:Int)=size:=by rw[Xv];have:=vq4 (k:=0) (n:=size - 1) ⋯;lia
 have hkm:∀p∈(0::ks:List Int),0<=p/\p<=m:=λp hp=>by
  rcases aD hp with rfl|hp
  ·exact#[⋯,⋯]
  ·exact h3 p hp
 have u3:∀p∈(0::ks:List Int),0<=p/\p<=3:=λp hp=>by have:=hkm p hp;lia
 have ji:kY (.no,.lst [.int 0]) (.no,.lst (ks.map D.int))=some (.rt,iL (0::ks)):=vvz ⋯ ⋯ (by rw[X3];simp at hkl ⊢;lia);have qu:(0::ks:List Int)[0]?=some 0:=rfl;simp![ji];generalize (0::ks:List Int)=ac at hkl hkm u3 ji qu;refine z8 (PlA c ss xs size m ac) ?_ ?_ ?_
 ·simp![];exact#[0,8,[],rfl,⋯,⋯,rfl,rfl,⋯,⋯,λi hi=>nomatch hi]
 ·rintro E d ds ⟨r,gf,rs,hs5,r0,r1,hr,hrl,at0,at1,hrs⟩;obtain⟨hrk,rfl,rfl⟩:=Kv r1 hr;obtain⟨own,eo,⟨ow0,ow1⟩,how⟩:=ixI ac _ hkm r r0 ⋯;simp![];refine z8 (PlB c ss xs size m ac rs r own) ?_ ?_ ?_
  ·simp![];exact#[0,gf,[],hs5,⋯,⋯,rfl,rfl,⋯,⋯,λc hc=>nomatch hc]
  ·rintro E d ds ⟨s,gf,st,hs5,s0,s1,hr,jo,at0,at1,cn⟩;obtain⟨hsk,rfl,rfl⟩:=Kv s1 hr;simp![];refine z8 (PlC c ss xs size m ac rs r own st s) ?_ ?_ ?_
   ·simp![eo,hs5];exact#[0,gf,[],hs5,⋯,⋯,rfl,rfl,⋯,⋯,λc hc=>nomatch hc]
   ·rintro E d ds ⟨k,gf,cs,hs5,k0,k1,hr,dl,at0,at1,mr⟩;obtain⟨hkk,rfl,rfl⟩:=Kv k1 hr;have oe:gf<90:=by rcases hm with rfl|⟨rfl,_⟩<;>lia
    obtain⟨w,ew,aw⟩:=ix gf ⋯ oe;have hb1:own+(if k=own then(1:Int)else 0)=xX own k:=rfl;have hB0:0<=xX own k/\xX own k<=4:=by unfold xX;split<;>lia
    simp![];refine Q3 rfl ?_;simp![eo,ew,Wv,wvt,hb1,hs5];refine(vzc w (xX own k) ac u3 qu ⋯ hB0.1 ⋯).via ?_;intro y hy;simp![];refine#[_,rfl,⋯,k+1,gf+1,cs++[y.2],rfl,⋯,⋯,rfl,by simp;lia,⋯,⋯,?_];intro j hj;rw[Xf,Xx]at hj
    by_cases hj2:j<cs.length
    ·obtain⟨z,z1,z2⟩:=mr j hj2;exact#[z,by rw[Xn hj2];exact z1,z2]
    ·have:j=cs.length:=⋯
     subst this;exact#[y.2,by simp,by rw[dl];exact hy]
   ·rintro E ⟨k,gf,cs,hs5,k0,k1,hr,dl,at0,at1,mr⟩;have:=Vv k1 hr;subst this;refine Q3 rfl ?_;simp![];refine#[_,rfl,⋯,s+1,gf,st++[.lst cs],hs5,⋯,⋯,rfl,by simp;lia,⋯,by rcases hm with rfl|⟨rfl,_⟩<;>lia,λc hc=>?_];rcases aA hc with z|z
    ·exact cn c z
    ·rw[aC z];exact#[cs,rfl,dl,mr]
  ·rintro E ⟨s,gf,st,hs5,s0,s1,hr,jo,at0,at1,cn⟩;have:=Vv s1 hr;subst this;have oe:gf<90:=by rcases hm with rfl|⟨rfl,_⟩<;>lia
   obtain⟨w,ew,_⟩:=ix gf ⋯ oe;simp![];refine Q3 rfl ?_;simp![eo,ew,Wv,hs5];refine#[_,rfl,⋯,?_];simp![];refine PlA.mk (r+1) (gf+1) (rs++[.tup [.int own,.bl (w % 2==0),.lst st]]) hs5 ?_ ?_ rfl ?_ ?_ ?_ ?_
   ·lia
   ·lia
   ·simp;lia
   ·lia
   ·rcases hm with rfl|⟨rfl,_⟩<;>lia
   intro j hj;rw[Xf,Xx]at hj
   by_cases hj2:j<rs.length
   ·obtain⟨z,z1,z2⟩:=hrs j hj2;exact#[z,by rw[Xn hj2];exact z1,z2]
   ·have:j=rs.length:=⋯
    subst this;refine#[_,by simp;rfl,?_];have hg:ac.getD rs.length 0=own:=by rw[X2,show rs.length=r.toNat by lia,how];rfl
    rw[hg];exact#[_,st,rfl,⋯,cn]
 ·rintro E ⟨r,gf,rs,hs5,r0,r1,hr,hrl,at0,at1,hrs⟩;have:=Vv r1 hr;subst this;simp![wjh (o:=.no) (xs:=ss.map D.str) ⋯];exact#[rs,rfl,ac,⋯,⋯,qu,u3,#[⋯,λi hi=>hrs i ⋯]]
theorem qvt:∀{ps:List Str},(∀p∈ps,p.length=1)->(ps.map (·.length)).sum=ps.length
 |[],_=>rfl|p::ps,h=>by rw[List.map_cons,List.sum_cons,h p X6,qvt λq hq=>h q (lc9 _ hq),Xv];lia
theorem xqs{o z lo hi}(h:z.cps.size<=100):fSl (o,.str z) lo hi=some (.dp,.str (Txt.slice z lo hi)):=by
 have hl:=Txt.slice_le z lo hi;have h:z.length<=100:=h;show(if(Txt.slice z lo hi).length<=big then _ else none)=_;rw[Xd (by unfold big;lia)]
theorem vxn{kv k v p}(h:p∈vJ kv k v):p∈kv\/p=(k,v):=by
 unfold vJ at h
 split at h
 ·obtain⟨q,hq,rfl⟩:=aE h
  by_cases e:q.1=k
  ·rw[Xd e];exact .inr (by rw[e])
  ·rw[Xg e];exact .inl hq
 ·rcases aA h with z|z
  ·exact .inl z
  ·exact .inr (aC z)
theorem vww(h:Int->Int)(kv:List (Int×Int))(k v:Int):(vJ kv k v).map (λp=>(p.1,h p.2))=vJ (kv.map λp=>(p.1,h p.2)) k (h v):=by
 unfold vJ;rw[List.any_map];have:(kv.any λp=>decide (p.1=k))=kv.any ((λp=>decide (p.1=k))∘λ(p:Int×Int)=>(p.1,h p.2)):=rfl;rw[<-this]
 split
 ·rw[Xr,Xr];refine Ym λp _=>?_
  simp only[Function.comp]
  split<;>rfl
 ·rw[Xh];rfl
theorem qvp(h:Int->Int)(k:Int):∀(kv:List (Int×Int)),kQ (kv.map λp=>(p.1,h p.2)) k=(kQ kv k).map h
 | []=>rfl
 | p::kv=>by
  have ih:=qvp h k kv;unfold kQ at ih ⊢;rw[List.map_cons,List.find?_cons,List.find?_cons]
  by_cases e:p.1=k
  ·simp[e]
  ·simp only[Xs e];exact ih
theorem vwa{kv k v}(h:kQ kv k=some v):(k,v)∈kv:=by
 unfold kQ at h;cases hf:kv.find? λp=>decide (p.1=k)with|none=>grind|some p=>grind
theorem qwh(N:List Int):∀(sh kv kv':List (Int×Int)),kv'=kv.map (λp=>(p.1,N.getD p.2.toNat 0))->sh.foldl (λkv p=>vJ kv p.2 (N.getD p.1.toNat 0)) kv'=(((sh.map λp=>(p.2,p.1)).foldl (λkv p=>vJ kv p.1 p.2) kv).map λp=>(p.1,N.getD p.2.toNat 0))
 |[],kv,kv',h=>h
 |p::sh,kv,kv',h=>by
  rw[List.map_cons,Ze,Ze];refine qwh N sh _ _ ?_;rw[h];exact(vww (λi=>N.getD i.toNat 0) kv p.2 p.1).symm
theorem vj6(N:List Int)(sh:List (Int×Int))(j:Int):kQ (kvN N sh) j=(kQ (kvS sh) j).map λi=>N.getD i.toNat 0:=by
 unfold kvN kvS;rw[qwh N sh [] [] rfl];exact qvp (λi=>N.getD i.toNat 0) j _
theorem qw8:∀(ps kv:List (Int×Int)) {p},p∈ps.foldl (λkv p=>vJ kv p.1 p.2) kv->p∈kv\/p∈ps
 | [],kv,p,h=>.inl h
 | q::ps,kv,p,h=>by
  rcases qw8 ps _ h with z|z
  ·rcases vxn z with z|z
   ·exact .inl z
   ·exact .inr (z▸X6)
  ·exact .inr (lc9 _ z)
theorem vj5{sh j i}(h:kQ (kvS sh) j=some i):(i,j)∈sh:=by
 rcases qw8 _ _ (vwa h)with z|z
 ·grind
 ·grind
def vY(own:Int)(kv:List (Int×Int))(n:Nat):Nat:=((nmF own kv n).filter λx=>decide (own<=x)).length
section
variable {own:Int}{kv:List (Int×Int)}
theorem jxv{n:Nat}{i}(h:kQ kv n=some i):nmF own kv (n+1)=nmF own kv n++[i]:=by rw[kj9,h]
theorem jxw{n:Nat}(h:kQ kv n=none):nmF own kv (n+1)=nmF own kv n++[own+vY own kv n]:=by rw[kj9,h];rfl
theorem qjr(ho:0<=own)(hv:∀j i,kQ kv j=some i->0<=i/\i<own):∀n,∀x∈nmF own kv n,0<=x/\x<own+vY own kv n
 | 0,x,h=>nomatch h
 | n+1,x,h=>by
  have ih:=qjr ho hv n;cases hc:kQ kv n with
  | some i=>
   have hi:=hv _ _ hc;have qc:vY own kv (n+1)=vY own kv n:=by
    unfold vY;rw[jxv hc,Yc];have:decide (own<=i)=false:=Xs ⋯;simp[this]
   rw[jxv hc]at h;rw[qc];rcases aA h with z|z
   ·exact ih x z
   ·rw[aC z];lia
  | none=>
   have qc:vY own kv (n+1)=vY own kv n+1:=by
    unfold vY;rw[jxw hc,Yc];have:decide (own<=own+(vY own kv n))=true:=Xj ⋯;simp[this]
   rw[jxw hc]at h;rw[qc];rcases aA h with z|z
   ·have:=ih x z;lia
   ·rw[aC z];lia
theorem kxz(n:Nat):∀m,∃r,nmF own kv (n+m)=nmF own kv n++r
 |0=>#[[],by simp]
 |m+1=>by
  obtain⟨r,hr⟩:=kxz n m;refine#[r++[match kQ kv ((n+m:Nat):Int)with|some i=>i|none=>own+((nmF own kv (n+m)).filter λx=>decide (own<=x)).length],?_];show nmF own kv (n+m+1)=_;rw[kj9,<-Xk,<-hr]
  try rfl
theorem qk5{x:Int}:∀{l r:List Int},x∉l->((l++x::r).findIdx λw=>w==x)=l.length
 |[],r,_=>by simp[List.findIdx_cons]
 |y::l,r,h=>by
  have hy:(y==x)=false:=Ya λe=>h (by rw[e];exact X6)
  rw[List.cons_append,List.findIdx_cons,hy,qk5 λz=>h (lc9 _ z)];rfl
theorem vqp{x:Int}{l:List Int}(h:x∉l):(l.findIdx λw=>w==x)=l.length:=by
 refine List.findIdx_eq_length.mpr λy hy=>?_
 exact Ya λe=>h (e▸hy)
theorem vqq(ho:0<=own)(hv:∀j i:Int,kQ kv j=some i->0<=i/\i<own){n m:Nat}(hc:kQ kv n=none)(hm:n<m):((nmF own kv m).findIdx λw=>w==own+vY own kv n)=n:=by
 obtain⟨r,hr⟩:=kxz (own:=own) (kv:=kv) (n+1) (m - (n+1));rw[show n+1+(m - (n+1))=m by lia,jxw hc,Xk]at hr;rw[hr];show((nmF own kv n++(own+(vY own kv n:Int))::r).findIdx _)=n;rw[qk5,V3];intro z;have:=qjr ho hv n _ z;lia
end
noncomputable def ren(N:List Int)(k:Int)(T:List Int)(x:Int):Int:=if x<k then N.getD x.toNat 0 else N.getD (k.toNat+T.findIdx λw=>w==x) 0
theorem Wk{N:List Int}(h:N.Nodup){a b:Nat}(ha:a<N.length)(hb:b<N.length)(e:N.getD a 0=N.getD b 0):a=b:=by
 rw[X2,X2,X1 ha,X1 hb]at e;have e:N[a]=N[b]:=e;rcases Nat.lt_trichotomy a b with z|z|z
 ·exact absurd e (List.pairwise_iff_getElem.mp h a b ha hb z)
 ·exact z
 ·exact absurd e.symm (List.pairwise_iff_getElem.mp h b a hb ha z)
theorem kza{T:List Int}{x:Int}(h:x∈T):T[T.findIdx λw=>w==x]?=some x:=by
 have hl:(T.findIdx λw=>w==x)<T.length:=Yn #[x,h,by simp];rw[X1 hl];have:=List.findIdx_getElem (w:=hl)
 congr 1
 simpa using this
theorem vwq{N T:List Int}{k:Int}(hk:0<=k)(hl:k<=N.length):(x4 k).map (ren N k T)=N.take k.toNat:=by
 unfold x4;rw[Xr];refine Zi λi=>?_
 rw[X8]
 by_cases hi:i<k.toNat
 ·rw[List.getElem?_take_of_lt hi,Z6 hi,X1 ⋯];show some (ren N k T i)=_;unfold ren;rw[Xd ⋯,X2,Xp,X1 ⋯];rfl
 ·rw[Xy (by rw[Xz];lia),Xy (by rw[Yp];lia)];rfl
theorem kxy{own:Int}{kv:List (Int×Int)}{j n:Nat}(h:j<n){x:Int}(hx:nmF own kv (j+1)=nmF own kv j++[x]):(nmF own kv n)[j]?=some x:=by
 obtain⟨r,hr⟩:=kxz (own:=own) (kv:=kv) (j+1) (n - (j+1));rw[show j+1+(n - (j+1))=n by lia,hx,Xk]at hr;rw[hr,Yb (by rw[V3];lia),V3,Nat.sub_self];rfl
theorem vju{N:List Int}{k:Int}{sh:List (Int×Int)}{n:Nat}(hk:0<=k)(hv:∀j i:Int,kQ (kvS sh) j=some i->0<=i/\i<k):(nmF k (kvS sh) n).map (ren N k (nmF k (kvS sh) n))=vjc N k sh n:=by
 refine Zi λj=>?_
 unfold vjc;rw[X8,X8]
 by_cases hj:j<n
 ·rw[Z6 hj];show _=some ((kQ (kvN N sh) (j:Int)).getD (N.getD (k.toNat+j) 0));rw[vj6];cases hc:kQ (kvS sh) j with
  |some i=>
   have:=hv _ _ hc;rw[kxy hj (jxv hc)];show some (ren N k _ i)=some (N.getD i.toNat 0);unfold ren;rw[Xd this.2]
  |none=>
   rw[kxy hj (jxw hc)];show some (ren N k _ (k+vY k (kvS sh) j))=some (N.getD (k.toNat+j) 0);unfold ren;rw[Xg ⋯,vqq hk hv hc hj]
 ·rw[Xy (by rw[V3];lia),Xy (by rw[Xz];lia)];rfl
theorem vxw{k sh n}(hk:0<=k)(hv:∀j i,kQ (kvS sh) j=some i->0<=i/\i<k):((jY (x4 k) (nmF k (kvS sh) n)).length:Int)=k+vY k (kvS sh) n:=by
 unfold jY vY;rw[Xf,X3,Xz];have:(nmF k (kvS sh) n).filter (λm=>!(x4 k).any λw=>w==m)=(nmF k (kvS sh) n).filter λx=>decide (k<=x):=by
  refine List.filter_congr λx hx=>?_
  have h0:=(qjr hk hv n x hx).1;rw[kkc]
  by_cases qo:k<=x
  ·rw[Xj qo,Xs]
   ·rfl
   ·grind
  ·rw[Xs qo,Xj]
   ·rfl
   ·exact List.mem_map.mpr #[x.toNat,List.mem_range.mpr ⋯,⋯]
 rw[this];lia
theorem xjh{ac n rs}{p:Int}(hP:Prs ac n rs)(h0:-1<=p)(h1:p<ac.length):∃k g,Kpr rs p k/\Gdr rs p g/\(p=-1->k=0)/\(0<=p->k=ac.getD p.toNat 0):=by
 by_cases h:p=-1
 ·exact#[0,false,.inl #[h,rfl],.inl #[h,rfl],λ_=>rfl,λz=>by lia]
 ·obtain⟨r,er,gd,st,rfl,_⟩:=hP.2 p.toNat ⋯;exact#[_,gd,.inr #[⋯,_,_,er],.inr #[⋯,_,_,er],λz=>absurd z h,λ_=>rfl]
theorem wx9{ac:List Int}{s:Sn}(h:kW ac s):-1<=rmO s/\rmO s<ac.length:=by
 cases s with|none=>exact#[Int.le_refl _,by show(-1:Int)<_;lia]|some P=>obtain⟨a,b⟩:=P;obtain⟨h0,h1,_⟩:=h a b rfl;exact#[by show -1<=a;lia,h1]
theorem vjm{ac p ks}(h0:-1<=p)(h1:p<ac.length)(h2:0<=p->(ks.length:Int)=ac.getD p.toNat 0):kW ac (xZ p ks):=by
 intro room ks' e;unfold xZ at e
 split at e
 ·grind
 ·injection e with e;injection e with e1 e2;subst e1 e2;exact#[⋯,h1,h2 ⋯]
theorem wjb{p ks}(h:p=-1->ks=[]):nms (xZ p ks)=ks:=by
 unfold xZ
 split
 ·rename_i e;rw[h e];rfl
 ·rfl
end B
namespace A
open Q PySem C B
abbrev AZ:Str:="abcdefghijklmnopqrstuvwxyz"
theorem list_app(a b:Str):(a++b).cps.toList=a.cps.toList++b.cps.toList:=by
 exact Array.toList_append
theorem qwk{L:List Nat}:∀{ps},(∀p∈ps,∃c∈L,p=#[(List.toArray [c])])->(Str.join "" ps).cps.toList.length=ps.length/\∀c∈(Str.join "" ps).cps.toList,c∈L
 | [],_=>#[rfl,λc h=>absurd h (by simp[Str.join,Str.empty])]
 | [x],h=>by
  obtain⟨c,hc,rfl⟩:=h x X6;refine#[rfl,λd hd=>?_];have:d=c:=by simpa [Str.join]using hd
  rw[this];exact hc
 | x::y::r,h=>by
  obtain⟨c,hc,rfl⟩:=h x X6;obtain⟨i1,i2⟩:=qwk λp hp=>h p (lc9 _ hp)
  have e:(Str.join "" ((#[(List.toArray [c])]:Str)::y::r)).cps.toList=c::(Str.join "" (y::r)).cps.toList:=by
   show(_++""++Str.join "" _).cps.toList=_;rw[list_app];rfl
  rw[e];refine#[by rw[Xv,i1];rfl,λd hd=>?_];rcases aD hd with rfl|hd
  ·exact hc
  ·exact i2 d hd
theorem each_one{L:List Nat}{G}(hG:∀d y,G d y->∃c∈L,y.2=.str #[(List.toArray [c])]):∀{ds ys},Each G ds ys->∃ps:List Str,ys.map (·.2)=ps.map D.str/\ps.length=ds.length/\∀p∈ps,∃c∈L,p=#[(List.toArray [c])]
 |[],[],_=>#[[],rfl,rfl,λ_ h=>nomatch h]
 |d::ds,y::ys,r=>by
  obtain⟨i,hi,e⟩:=hG d y r.1;obtain⟨ps,h1,h2,h3⟩:=each_one hG r.2;exact#[#[(List.toArray [i])]::ps,by simp[e,h1],by simp[h2],λp hp=>(aD hp).elim (λz=>z▸#[i,hi,rfl]) (h3 p)]
theorem join_az{ps:List Str}(h:∀p∈ps,∃c∈AZ.cps.toList,p=#[(List.toArray [c])])(h1:ps.length<=100):∃z,vv3 "" (.lst (ps.map D.str))=some (.str z)/\z.cps.size=ps.length/\∀c∈z.cps.toList,c∈AZ.cps.toList:=by
 have hz:("":Str).length=0:=rfl;obtain⟨j1,j2⟩:=qwk h;refine#[Txt.join "" ps,?_,?_,?_]
 ·unfold vv3;dsimp only;rw[qq0];dsimp only;rw[Xd (by rw[(qvt λp hp=>by obtain⟨c,_,rfl⟩:=h p hp;rfl),hz];lia)]
 ·unfold Txt.join;rw[StrLaws.glued_eq_join,<-j1,Xm]
 ·unfold Txt.join
  rwa [StrLaws.glued_eq_join]
end A
namespace F
open Q PySem C
noncomputable def wV:Nat->List D->List (D×D)
 |_,[]=>[]|n,d::K=>(d,.int n)::wV (n+1) K
def x8(K:List D):List (D×D):=wV 0 K
theorem qzt:∀(a b:List D) (n:Nat),wV n (a++b)=wV n a++wV (n+a.length) b
 |[],b,n=>by simp[wV]
 |d::a,b,n=>by
  rw[List.cons_append,wV,wV,qzt a b (n+1),List.cons_append,Xv]
  congr 3
  lia
theorem qkz:∀(K:List D) (n:Nat),(wV n K).length=K.length
 |[],_=>rfl|d::K,n=>by rw[wV,Xv,qkz K,Xv]
theorem qvj:∀(K:List D) (n:Nat),(wV n K).map (·.1)=K
 |[],_=>rfl|d::K,n=>by rw[wV,List.map_cons,qvj K]
theorem qvi:∀(K:List D) (n:Nat),D.pures ((wV n K).map (·.2))=true
 |[],_=>rfl
 |d::K,n=>by
  rw[wV,List.map_cons];show(D.pure (.int n)&&D.pures ((wV (n+1) K).map (·.2)))=true;rw[qvi K];rfl
theorem qzs:∀(K:List D) (n:Nat) (p:D),z3 (wV n K) p=if p∈K then some (.int (n+K.idxOf p:Nat))else none
 | [],_,p=>by simp[wV,z3]
 | d::K,n,p=>by
  by_cases h:d=p
  ·subst h;unfold z3;rw[wV,List.find?_cons_of_pos (by simp),Xd X6];simp
  ·have ih:=qzs K (n+1) p;have e:z3 (wV n (d::K)) p=z3 (wV (n+1) K) p:=by
    unfold z3;rw[wV,List.find?_cons_of_neg (by simpa using h)]
   rw[e,ih]
   by_cases hm:p∈K
   ·rw[Xd hm,Xd (lc9 _ hm),List.idxOf_cons,show(d==p)=false by simpa using h]
    congr 2
    simp;lia
   ·rw[Xg hm,Xg (λz=>by rcases aD z with z|z;exact h z.symm;exact hm z)]
theorem qzu(K:List D)(p:D):x8 (K++[p])=x8 K++[(p,.int K.length)]:=by
 unfold x8;rw[qzt,Nat.zero_add];rfl
theorem wvm(K:List D)(p:D):((z6 K p).idxOf p:Int)=if p∈K then(K.idxOf p:Int)else K.length:=by
 unfold z6
 by_cases h:p∈K
 ·rw[Xd h,Xd h]
 ·rw[Xg h,Xg h,List.idxOf_append,Xg h];simp
end F
namespace J
open Q PySem C B F
def m_is_small:Fn:=fn 1
  (jx (vQ (vE (cF2 (pu2 fLe) (vE (cF1 (pu1 qw) (jk (vV 0) (C9 1)))) (C9 12))) (cF1 (pu1 K9) (vE (cLC .rt 1 [] (itS (cH (jk (vV 0) (C9 1)))) (.n 0) tYes (cF2 (pu2 fLe) (jk (vV 0) (C9 0)) (C9 3)))))))
noncomputable def m_is_good_by:Fn:=fn 3
  (j7 (sIf (tE (cF2 (pu2 fEq) (vV 0) (vE (cC (.str "both"))))) (jx (vQ (vV 1) (cV 2))) qj)
  (j7 (sIf (tE (cF2 (pu2 fEq) (vV 0) (vE (cC (.str "either"))))) (jx (cOr (vV 1) (cV 2))) qj)
  (j7 (sIf (tE (cF2 (pu2 fEq) (vV 0) (vE (cC (.str "first"))))) (jx (vQ (vV 1) (vvs (vV 2)))) qj)
  (jx (cF2 (pu2 fNe) (vV 1) (vV 2))))))
noncomputable def m_joined_case:Fn:=fn 3
  (j7 (jw 2 (jz B.m_pair_of [(cV 0)]))
  (j7 (sIf (tE (cF2 (pu2 fEq) (vV 2) (vE (qK .no [(cC (.int (-1))),(cC (.int (-1))),(qK .no [])])))) (jx (cC .non)) qj)
  (jx (qK .no [(vvr 1 (vV 2) (vE (cF1 (pu1 XZ) (vV 1)))),(jz B.m_held_by_both [(cV 0)])]))))
noncomputable def m_joined_room:Fn:=fn 10
  (j7 (jw 5 (jz B.m_first_standings [(cV 1),(cV 2),(cV 3)]))
  (j7 (jw 6 (cF1 (pu1 qw) (vE (jz B.m_held_by_both [(cV 5)]))))
  (j7 (jw 7 (v9 .rt []))
  (j7 (vZ (itS (cH (jk (vV 1) (C9 0)))) (.n 8) (j7 (jw 9 (cLC .rt 1 [1,2,5,8] (xv (vE (cF2 kY (vV 6) (C9 1)))) (.n 0) tYes (jz B.m_read_by_both [(cV 1),(cV 2),(cV 3),(cV 4),(cV 0)])))
  (xz xJ 7 (cLC .rt 1 [4] (itS (cV 9)) (.n 0) tYes (qkk m_joined_case 1 [(cV 0)])))))
  (jx (qK .no [(cV 6),(jz m_is_good_by [(cV 0),(jz B.m_is_good_in [(cV 1),(cH (jk (vV 3) (C9 0)))]),(jz B.m_is_good_in [(cV 2),(cH (jk (vV 3) (C9 1)))])]),(cV 7)]))))))
noncomputable def m_joined:Fn:=fn 5
  (j7 (sIf (tOr (tE (cF2 (pu2 Jq) (vV 0) (vE (cC (.tup [(.str "both"),(.str "either"),(.str "first"),(.str "one")]))))) (tE (cF2 (pu2 fNe) (jk (vV 1) (C9 0)) (jk (vV 2) (C9 0))))) (sRz "NoFit") qj)
  (j7 (sIf (tOr (tNot (tEQ (vE (jz m_is_small [(cV 1)])))) (tNot (tEQ (vE (jz m_is_small [(cV 2)]))))) (sRz "TooGreat") qj)
  (j7 (jw 3 (vzh (cC (.tup [(.int 0),(.int 0),(.tup [])])) (cC (.int 0))))
  (j7 (jw 4 (v9 .rt []))
  (j7 (sWhile (tE (cF2 (pu2 fLt) (vE (cF1 (pu1 qw) (vV 4))) (vE (cF1 (pu1 XZ) (vV 3))))) (j7 (sIf (tE (cF2 (pu2 fGt) (vE (cF1 (pu1 XZ) (vV 3))) (C9 40))) (sRz "TooGreat") qj)
  (xz xJ 4 (qkk m_joined_room 3 [(cV 0),(cV 1),(cV 2),(cH (jk (vE (cF1 W9 (vV 3))) (vE (cF1 (pu1 qw) (vV 4)))))]))))
  (jx (qK .no [(qK .no [(cF1 Q4 (jk (vV 1) (C9 0))),(cV 4)]),(cF1 W9 (vV 3))])))))))
noncomputable def XW:D->Int
 |.int i=>i|_=>0
def ZZ:D->Sn
 |.tup [.int r,.tup ks]=>some (r,ks.map XW)|_=>none
def rdF(ss:List Str)(rs:List D)(S:Sn)(z:Str)(c:Int):Sn:=match S with
 |none=>none
 |some (room,ks)=>(match rs[room.toNat]? with
  |some (.tup [_,_,.lst st])=>ZZ (wX ss st ks z c)
  |_=>none)
theorem wx6{ac d}(h:Ok2 ac d):stn (ZZ d)=d/\kW ac (ZZ d):=by
 rcases h with rfl|⟨room,ks,rfl,r0,r1,hl⟩
 ·exact#[rfl,λ_ _ e=>nomatch e]
 ·have e:ZZ (.tup [.int room,iT ks])=some (room,ks):=by
   show some _=_;rw[Xr]
   congr 2
   exact List.map_id ks
  rw[e];refine#[rfl,λa b e=>?_];cases e;exact#[r0,r1,hl]
theorem xj5{ac S}(h:kW ac S):Ok2 ac (stn S):=by
 cases S with|none=>exact .inl rfl|some x=>obtain⟨a,b,c⟩:=h x.1 x.2 rfl;exact .inr #[x.1,x.2,rfl,a,b,c]
theorem Kk{ac ss rs}{S} z c (hP:Prs ac ss.length rs)(hk:∀p∈ac,0<=p/\p<=3)(hS:kW ac S):Rd ac ss rs (stn S) (z,c) (stn (rdF ss rs S z c))/\kW ac (rdF ss rs S z c):=by
 obtain⟨s',h1,h2,_⟩:=vws (z,c) hP hk (xj5 hS);obtain⟨g1,g2⟩:=wx6 h2;have e:rdF ss rs S z c=ZZ s':=by
  rcases id h1 with⟨h3,rfl⟩|⟨room,ks,st,kp,gd,h3,_,hr,_,_,h4⟩
  ·cases S with| none=>rfl| some x=>cases h3
  ·cases S with
   | none=>cases h3
   | some x=>
    injection h3 with h3;injection h3 with e1 h3;injection h3 with e2 _;injection e1 with e1;injection e2 with e2;show(match rs[x.1.toNat]? with
     |some (.tup [_,_,.lst st])=>ZZ _
     |_=>none)=_
    rw[e1,hr,((List.map_inj_right λa b h=>by injection h).mp e2),h4]
 rw[e,g1];exact#[h1,g2]
noncomputable def kpF(rs:List D)(p:Int):Int:=if p=-1 then 0 else(match rs[p.toNat]? with
 |some (.tup [.int k,_,_])=>k
 |_=>0)
noncomputable def gdF(rs:List D)(p:Int):Bool:=if p=-1 then false else(match rs[p.toNat]? with
 |some (.tup [_,.bl g,_])=>g
 |_=>false)
theorem xji{rs p k}(h:Kpr rs p k):kpF rs p=k:=by
 rcases h with⟨rfl,rfl⟩|⟨h0,g,st,e⟩
 ·rfl
 ·unfold kpF;rw[Xg ⋯,e]
theorem xk1{rs p g}(h:Gdr rs p g):gdF rs p=g:=by
 rcases h with⟨rfl,rfl⟩|⟨h0,k,st,e⟩
 ·rfl
 ·unfold gdF;rw[Xg ⋯,e]
theorem WZ{ac n rs}{p:Int}(hP:Prs ac n rs)(hk:∀p∈ac,0<=p/\p<=3)(h0:-1<=p)(h1:p<ac.length):Kpr rs p (kpF rs p)/\Gdr rs p (gdF rs p)/\0<=kpF rs p/\kpF rs p<=3/\(0<=p->kpF rs p=ac.getD p.toNat 0):=by
 obtain⟨k,g,a,b,c,d⟩:=xjh hP h0 h1;rw[xji a,xk1 b];refine#[a,b,?_]
 by_cases hp:p=-1
 ·rw[c hp];exact#[⋯,⋯,λh=>by lia]
 ·have hd:=d ⋯;have hm:ac.getD p.toNat 0∈ac:=by rw[X2,X1 ⋯];exact Xu _
  rw[hd];exact#[(hk _ hm).1,(hk _ hm).2,λ_=>rfl]
def wq(K:List D)(x:Sn×Sn):List D×D:=if rmO x.1=-1/\rmO x.2=-1 then(K,.non)else(z6 K (jX x.1 x.2),.tup [.int ((z6 K (jX x.1 x.2)).idxOf (jX x.1 x.2):Nat),iT (jY (nms x.1) (nms x.2))])
theorem qwi:∀l,keyDs 4 (prs l)=true
 |[]=>rfl
 |p::l=>by
  show(v4 4 _&&keyDs 4 _)=true;rw[qwi l];rfl
theorem wjk(r r') l:JY (.tup [.int r,.int r',.tup (prs l)])=true:=by
 have:keyDs 5 [D.int r,.int r',.tup (prs l)]=true:=by
  show(v4 5 _&&(v4 5 _&&(keyDs 4 _&&true)))=true;rw[qwi];rfl
 show(keyDs 5 [D.int r,.int r',.tup _]&&true)=true;rw[this];rfl
def IsP(d:D):Prop:=∃(r r':Int) (l:List (Int×Int)),d=.tup [.int r,.int r',.tup (prs l)]
theorem wwv{K}(h:∀d∈K,IsP d):unm (x8 K)=true:=by
 cases K with|nil=>rfl|cons d K=>obtain⟨r,r',l,rfl⟩:=h d X6;rfl
theorem W4{ac S}(h:kW ac S)(e:rmO S=-1):S=none:=by
 cases S with|none=>rfl|some x=>have:=(h x.1 x.2 rfl).1;have e:x.1=-1:=e;lia
theorem Qx{ac S}(hk:∀p∈ac,0<=p/\p<=3)(h:kW ac S):(nms S).length<=3:=by
 cases S with
 |none=>exact Yi _
 |some x=>
  obtain⟨a,b,c⟩:=h x.1 x.2 rfl;have hm:ac.getD x.1.toNat 0∈ac:=by rw[X2,X1 ⋯];exact Xu _
  have:=(hk _ hm).2;show x.2.length<=3;lia
theorem vzb{ac kps' K a b}(ha:kW ac a)(hb:kW kps' b)(hk:∀p∈ac,0<=p/\p<=3)(av:Kq9 kps')(hK:∀d∈K,IsP d)(hl:K.length<9000):
  Oom m_joined_case [(.no,.tup [stn a,stn b]),(.rt,.dct (x8 K))] 1 (λy x'=>y.2=(wq K (a,b)).2/\x'=(.rt,.dct (x8 (wq K (a,b)).1))) noX:=by
 have la:=Qx hk ha;have lb:=Qx av hb;have hu:=wwv hK;unfold m_joined_case;refine wj8 (YX (qxv ?_));simp![];refine(qxq a b ⋯ ⋯).via ?_;intro y hy;subst hy
 by_cases hn:rmO a=-1/\rmO b=-1
 ·have ea:=W4 ha hn.1;have eb:=W4 hb hn.2;subst ea eb;have e:fEq (jX none none) (.tup [.int (-1),.int (-1),.tup []])=some (.bl true):=rfl;simp![];refine YX (xj1 ?_);simp![e];refine vkq ?_;simp![]
  first|exact#[rfl,rfl]|trivial
 ·have e:fEq (jX a b) (.tup [.int (-1),.int (-1),.tup []])=some (.bl false):=by
   unfold fEq jX;rw[vv1,show(D.tup [.int (-1),.int (-1),.tup []]).flat 40=true from rfl];show some (D.bl ((rmO a == -1)&&((rmO b == -1)&&_)))=_
   by_cases h1:rmO a=-1
   ·have h2:(rmO b == -1)=false:=Ya λh=>hn #[h1,h]
    rw[h2];simp
   ·rw[Ya h1];rfl
  simp![];refine YX (xj1 ?_);simp![e];refine qxv ?_;simp![];refine vkq ?_;simp![];refine wko hu ?_;simp![qwd hu];have hz:=qzs K 0 (jX a b);have pd:(x8 K).length=K.length:=qkz K 0;have hc:wq K (a,b)=(z6 K (jX a b),.tup [.int ((z6 K (jX a b)).idxOf (jX a b):Nat),iT (jY (nms a) (nms b))]):=Xg hn;refine#[x8 K,rfl,#[wjk _ _ _,by rw[pd];lia,hu,qvi _ _],λd hd=>?_,λpi=>?_]
  ·have hm:jX a b∈K:=by
    by_cases hm:jX a b∈K
    ·exact hm
    ·rw[Xg hm]at hz;unfold x8 at hd
     grind
   rw[Xd hm,Nat.zero_add]at hz;unfold x8 at hd;rw[hz]at hd;cases oq9 hd;have e1:z6 K (jX a b)=K:=by unfold z6;rw[Xd hm]
   refine(qqz a b ⋯ ⋯).via ?_;intro y hy;subst hy;simp![];rw[hc,e1]
   first|exact#[rfl,rfl]|trivial
  ·have hm:jX a b∉K:=λhm=>by
    rw[Xd hm]at hz;unfold x8 at pi;rw[hz]at pi;cases pi
   have e1:z6 K (jX a b)=K++[jX a b]:=by unfold z6;rw[Xg hm]
   have e2:=wvm K (jX a b);rw[Xg hm]at e2;refine(qqz a b ⋯ ⋯).via ?_;intro y hy;subst hy;simp![pd];rw[hc];dsimp only;rw[e2,e1,qzu]
   first|exact#[rfl,rfl]|trivial
def v7:List (Sn×Sn)->List D->List D×List D
 |[],K=>(K,[])|x::r,K=>((v7 r (wq K x).1).1,(wq K x).2::(v7 r (wq K x).1).2)
def lat(x:Sn×Sn):D:=.tup [stn x.1,stn x.2]
def wj(ss:List Str)(rs rs':List D)(S T:Sn)(own:Nat)(z:Str):List (Sn×Sn):=(List.range (own+1)).map λ(c:Nat)=>(rdF ss rs S z c,rdF ss rs' T z c)
noncomputable def v3(ss:List Str)(rs rs':List D)(S T:Sn)(own:Nat):List Str->List D->List D×List D
 |[],K=>(K,[])|z::zs,K=>((v3 ss rs rs' S T own zs (v7 (wj ss rs rs' S T own z) K).1).1,.lst (v7 (wj ss rs rs' S T own z) K).2::(v3 ss rs rs' S T own zs (v7 (wj ss rs rs' S T own z) K).1).2)
noncomputable def byW(w:Str)(g g':Bool):Bool:=if w == "both" then g&&g' else if w == "either" then g||g' else if w == "first" then g && !g' else g != g'
theorem good_by{w g g'}:Oo m_is_good_by [(.no,.str w),(.no,.bl g),(.no,.bl g')] (λy=>∃o',y=(o',.bl (byW w g g'))/\True) noX:=by
 have e:∀z,fEq (.str w) (.str z)=some (.bl (w==z)):=λ_=>rfl
 have ne:fNe (.bl g) (.bl g')=some (.bl (g != g')):=by cases g<;>cases g'<;>rfl
 unfold m_is_good_by byW;refine k7 ?_;cases h1:w==("both":Str)with
 | true=>
  simp![e,h1];cases g<;>exact#[_,rfl,trivial]
 | false=>
  cases h2:w==("either":Str)with
  | true=>
   simp![e,h1,h2];cases g<;>exact#[_,rfl,trivial]
  | false=>
   cases h3:w==("first":Str)with
   |true=>
    simp![e,h1,h2,h3];cases g<;>exact#[_,rfl,trivial]
   |false=>
    simp![e,h1,h2,h3,ne];exact#[_,rfl,trivial]
structure Kj (K:List D):Prop where
 nd:K.Nodup
 ok:∀d∈K,IsP d
theorem qwv{K x}(h:Kj K):Kj (wq K x).1/\K.length<=(wq K x).1.length/\(wq K x).1.length<=K.length+1:=by
 unfold wq
 split
 ·exact#[h,X9 _,Zm _]
 ·dsimp only;unfold z6
  split
  ·exact#[h,X9 _,Zm _]
  ·rename_i hm;refine#[#[List.nodup_append.mpr #[h.nd,by simp,λa ha b hb e=>?_],λd hd=>?_],by simp,by simp]
   ·rw[aC hb]at e;exact hm (e▸ha)
   ·rcases aA hd with hd|hd
    ·exact h.ok d hd
    ·rw[aC hd];exact#[_,_,_,rfl]
theorem kv9:∀{l K},Kj K->Kj (v7 l K).1/\K.length<=(v7 l K).1.length/\(v7 l K).1.length<=K.length+l.length
 |[],K,h=>#[h,X9 _,X9 _]
 |x::l,K,h=>by
  obtain⟨a,b,c⟩:=qwv h;obtain⟨d,e,f⟩:=kv9 a;refine#[d,Yd b e,?_];show(v7 l (wq K x).1).1.length<=K.length+(l.length+1);lia
theorem kqb{ss rs rs' S T own}:∀{zs K},Kj K->Kj (v3 ss rs rs' S T own zs K).1/\K.length<=(v3 ss rs rs' S T own zs K).1.length/\(v3 ss rs rs' S T own zs K).1.length<=K.length+zs.length*(own+1)
 |[],K,h=>#[h,X9 _,by simp[v3]]
 |z::zs,K,h=>by
  obtain⟨a,b,c⟩:=kv9 h;obtain⟨d,e,f⟩:=kqb (rs':=rs') a;have hl:(wj ss rs rs' S T own z).length=own+1:=by unfold wj;rw[X3,Xz]
  refine#[d,Yd b e,?_];show(v3 ss rs rs' S T own zs (v7 _ K).1).1.length<=K.length+(zs.length+1)*_
  grind
section
variable {ac kps':List Int}{ss:List Str}{rs rs':List D}
def pS(rs:List D):D->Sn
 |.tup [.int p,_,_]=>xx6 p (kpF rs p)|_=>none
noncomputable def YY:List D->List (Int×Int)
 |[]=>[]|.tup [.int i,.int j]::r=>(i,j)::YY r|_::r=>YY r
theorem wkm:∀l,YY (prs l)=l
 |[]=>rfl
 |p::l=>by
  show _::YY (prs l)=_;rw[wkm l]
def pT(rs rs':List D):D->Sn
 |.tup [.int p,.int q,.tup sh]=>xvy q (kpF rs p) (kpF rs' q) (YY sh)|_=>none
def pO(rs rs':List D)(P:D):Nat:=(jY (nms (pS rs P)) (nms (pT rs rs' P))).length
def gS(rs:List D):D->Bool
 |.tup [.int p,_,_]=>gdF rs p|_=>false
def gT(rs:List D):D->Bool
 |.tup [_,.int q,_]=>gdF rs q|_=>false
def Wz(w:Str)(ss:List Str)(rs rs':List D)(P:D)(st:List D):D:=.tup [.int (pO rs rs' P),.bl (byW w (gS rs P) (gT rs' P)),.lst st]
def Pok(ac kps':List Int)(P:D):Prop:=∃(p q:Int) (sh:List (Int×Int)),P=.tup [.int p,.int q,.tup (prs sh)]/\-1<=p/\p<ac.length/\-1<=q/\q<kps'.length/\sh.length<=3
theorem vqs{a b}(ha:a.length<=3)(hb:b.length<=3):(jY a b).length<=6:=by
 unfold jY
 grind
theorem vxf{P}(hP:Prs ac ss.length rs)(hk:∀p∈ac,0<=p/\p<=3)(h:Pok ac kps' P):kW ac (pS rs P):=by
 obtain⟨p,q,sh,rfl,h0,h1,_⟩:=h;obtain⟨_,_,c,_,e⟩:=WZ hP hk h0 h1;refine vjm h0 h1 λhp=>?_
 rw[<-e hp,X3,Xz];lia
theorem vxe{P}(az:Prs kps' ss.length rs')(av:Kq9 kps')(h:Pok ac kps' P):kW kps' (pT rs rs' P):=by
 obtain⟨p,q,sh,rfl,_,_,h0,h1,_⟩:=h;obtain⟨_,_,c,_,e⟩:=WZ az av h0 h1;refine vjm h0 h1 λhp=>?_
 rw[<-e hp,V3];lia
theorem vz0{P}(hP:Prs ac ss.length rs)(hk:∀p∈ac,0<=p/\p<=3)(az:Prs kps' ss.length rs')(av:Kq9 kps')(h:Pok ac kps' P):
  Oo m_first_standings [(.no,jK ss rs),(.no,jK ss rs'),(.no,P)] (λy=>y=(.no,lat (pS rs P,pT rs rs' P))) noX:=by
 obtain⟨p,q,sh,rfl,h0,h1,h2,h3,h4⟩:=h;obtain⟨a,_,c,d,_⟩:=WZ hP hk h0 h1;obtain⟨a',_,c',d',_⟩:=WZ az av h2 h3;refine(vxz a a' c ⋯ c' ⋯ ⋯).mono λy hy=>?_
 rw[hy];show _=(Own.no,D.tup [stn _,stn (xvy q _ _ _)]);rw[wkm];rfl
theorem vxg{P}(hP:Prs ac ss.length rs)(hk:∀p∈ac,0<=p/\p<=3)(az:Prs kps' ss.length rs')(av:Kq9 kps')(h:Pok ac kps' P):pO rs rs' P<=6:=vqs (Qx hk (vxf hP hk h)) (Qx av (vxe az av h))
theorem qwg{x S T own z}(hP:Prs ac ss.length rs)(hk:∀p∈ac,0<=p/\p<=3)(az:Prs kps' ss.length rs')(av:Kq9 kps')(hS:kW ac S)(hT:kW kps' T)(h:x∈wj ss rs rs' S T own z):kW ac x.1/\kW kps' x.2:=by
 obtain⟨c,_,rfl⟩:=aE h;exact#[(Kk z c hP hk hS).2,(Kk z c az av hT).2]
inductive RmI (w:Str)(ss:List Str)(rs rs':List D)(P:D)(S T:Sn)(own:Nat)(K:List D):En->List D->Prop
 |mk {K1 ah:List D} {zs:List Str} {l8 l9:Option Sd}:Kj K1->K1.length+zs.length*7<=K.length+21->ah.length+zs.length=ss.length->v3 ss rs rs' S T own ss K=((v3 ss rs rs' S T own zs K1).1,ah++(v3 ss rs rs' S T own zs K1).2)->RmI w ss rs rs' P S T own K [some (.no,.str w),some (.no,jK ss rs),some (.no,jK ss rs'),some (.no,P),some (.rt,.dct (x8 K1)),some (.no,lat (S,T)),some (.dp,.int own),some (.rt,.lst ah),l8,l9] (zs.map D.str)
inductive RmJ (E1:En)(L:List (Sn×Sn))(K1:List D):En->En->List D->List Sd->Prop
 |mk {q:Option Sd} {K2:List D} {xs:List (Sn×Sn)} {ah:List Sd}:Kj K2->(∀x∈xs,x∈L)->K2.length+xs.length<=K1.length+L.length->v7 L K1=((v7 xs K2).1,ah.map (·.2)++(v7 xs K2).2)->RmJ E1 L K1 E1 [q,some (.rt,.dct (x8 K2))] (xs.map lat) ah
theorem kxg{w P K}(hs:ss.length<=3)(hP:Prs ac ss.length rs)(hk:∀p∈ac,0<=p/\p<=3)(az:Prs kps' ss.length rs')(av:Kq9 kps')(h:Pok ac kps' P)(hK:Kj K)(hl:K.length<=1000):
  Oom m_joined_room [(.no,.str w),(.no,jK ss rs),(.no,jK ss rs'),(.no,P),(.rt,.dct (x8 K))] 4
   (λy x'=>y=(.no,Wz w ss rs rs' P (v3 ss rs rs' (pS rs P) (pT rs rs' P) (pO rs rs' P) ss K).2)/\x'=(.rt,.dct (x8 (v3 ss rs rs' (pS rs P) (pT rs rs' P) (pO rs rs' P) ss K).1))) noX:=by
 have hS:=vxf hP hk h;have hT:=vxe (rs:=rs) az av h;have hO:=vxg hP hk az av h;have lS:=Qx hk hS;have lT:=Qx av hT;have hfi:=vz0 hP hk az av h;have q0:∀a b:D,jQ (.tup [a,b]) (.int 0)=some a:=λ_ _=>rfl
 unfold m_joined_room;refine wj8 ?_;refine YX (qxv ?_);simp![];refine hfi.via ?_;intro y hy;subst hy;simp![];refine YX (qxv ?_);simp![];refine(qqz (pS rs P) (pT rs rs' P) ⋯ ⋯).via ?_;intro y hy;subst hy;simp![];refine YX (qxv ?_);simp![];refine YX (qxv ?_);have hown:((jY (nms (pS rs P)) (nms (pT rs rs' P))).length:Int)=(pO rs rs' P):=rfl;rw [hown];generalize hOd:pO rs rs' P=own at *;generalize hSd:pS rs P=S at *;generalize hTd:pT rs rs' P=T at *;refine z8 (RmI w ss rs rs' P S T own K) ?_ ?_ ?_
 ·simp![q0];exact .mk hK ⋯ (by simp) (by simp)
 ·intro E d ds hh;generalize b7:d::ds=dd at hh;cases hh with
  | @mk K1 ah zs l8 l9 hK1 gu hac ql=>
  cases zs with
  | nil=>cases b7
  | cons z zs=>
   injection b7 with e1 e2;subst e1 e2;rw [Xv]at gu hac;simp![];refine zW [some (.no,jK ss rs),some (.no,jK ss rs'),some (.no,lat (S,T)),some (.no,.str z)] (λd y=>y.2=lat (rdF ss rs S z (XW d),rdF ss rs' T z (XW d))) ?_;refine kz5 ?_;simp![];refine#[_,rfl,⋯,⋯,rfl,λd hd=>?_,λys hy=>?_]
   ·obtain⟨c,c0,c1,rfl⟩:=qqq hd;simp![];refine(wwb (w:=(z,c)) (Kk z c hP hk hS).1 (Kk z c az av hT).1).via ?_;intro y hy;subst hy;exact#[#[_,rfl],rfl]
   have hm:(qk 0 ((own)+1)).map (λd=>lat (rdF ss rs S z (XW d),rdF ss rs' T z (XW d)))=(wj ss rs rs' S T own z).map lat:=by
    unfold qk wj;rw[Xr,Xr];rw[show((own:Int)+1 - 0).toNat=own+1 by lia];refine Ym λc _=>?_
    show lat (rdF ss rs S z (0+(c)),rdF ss rs' T z (0+(c:Int)))=_;rw[Int.zero_add];rfl
   rw [vW,K8 (h:=λd=>lat (rdF ss rs S z (XW d),rdF ss rs' T z (XW d))) (λ_ _ h=>h) hy,hm];simp only[back,clr,at',List.map_cons,List.map_nil,List.set_cons_zero,List.set_cons_succ];simp![];have hlo:∀x∈wj ss rs rs' S T own z,kW ac x.1/\kW kps' x.2:=λx hx=>qwg hP hk az av hS hT hx
   have t8:(wj ss rs rs' S T own z).length=own+1:=by unfold wj;rw[X3,Xz]
   have hcj:=kv9 (l:=wj ss rs rs' S T own z) hK1;have hsg:v3 ss rs rs' S T own (z::zs) K1=((v3 ss rs rs' S T own zs (v7 (wj ss rs rs' S T own z) K1).1).1,.lst (v7 (wj ss rs rs' S T own z) K1).2::(v3 ss rs rs' S T own zs (v7 (wj ss rs rs' S T own z) K1).1).2):=rfl;rw [hsg]at ql;generalize wj ss rs rs' S T own z=L at *;refine Q3 rfl ?_;refine Qw (RmJ [some (.no,.str w),some (.no,jK ss rs),some (.no,jK ss rs'),some (.no,P),some (.rt,.dct (x8 K1)),some (.no,lat (S,T)),some (.dp,.int own),some (.rt,.lst ah),some (.no,.str z),some (.no,.lst (L.map lat))] L K1) ?_ ?_ ?_
   ·simp![];exact .mk hK1 (λ_ h=>h) (X9 _) (by simp)
   ·intro E1 B d ds uv hh;generalize b7:d::ds=dd at hh;cases hh with
    | @mk q K2 xs _ hK2 hxs kt hc=>
    cases xs with
    | nil=>cases b7
    | cons x xs=>
     injection b7 with e1 e2;subst e1 e2;rw[Xv]at kt;obtain⟨o1,o2⟩:=hlo x (hxs x X6);simp![];refine qww ?_;simp![];refine#[_,rfl,(vzb (K:=K2) o1 o2 hk av hK2.ok ⋯).mono (λy' x' h=>?_) λc h=>h.elim];obtain⟨h1,rfl⟩:=h;have hi:=qwv (x:=x) hK2;refine .mk hi.1 (λx' hx'=>hxs x' (lc9 _ hx')) ⋯ ?_;rw[hc,v7];simp[h1]
   ·intro E1 B uv hh;generalize b7:([]:List D)=dd at hh;cases hh with
    | @mk q K2 xs _ hK2 hxs kt hc=>
    cases xs with
    | cons=>cases b7
    | nil=>
     rw[vW];simp only[JK,back,clr,at',List.drop,List.map_cons,List.map_nil,List.set_cons_zero,List.set_cons_succ];have hc:v7 L K1=(K2,uv.map (·.2)):=by rw[hc];simp[v7]
     rw[hc]at ql hcj;refine#[ah,rfl,⋯,.mk hK2 ?_ ?_ ?_]
     ·have:=hcj.2.2;dsimp only at this;lia
     ·rw[Xf,Xx];lia
     ·rw[ql];simp
 ·intro E hh;generalize b7:([]:List D)=dd at hh;cases hh with
  | @mk K1 ah zs l8 l9 hK1 gu hac ql=>
  cases zs with
  | cons=>cases b7
  | nil=>
   obtain⟨p,q,sh,rfl,h0,h1,h2,h3,h4⟩:=h;obtain⟨_,g1,_⟩:=WZ hP hk h0 h1;obtain⟨_,g2,_⟩:=WZ az av h2 h3;have t0:jQ (.tup [.int p,.int q,.tup (prs sh)]) (.int 0)=some (.int p):=rfl;have t1:jQ (.tup [.int p,.int q,.tup (prs sh)]) (.int 1)=some (.int q):=rfl;have ql:v3 ss rs rs' S T own ss K=(K1,ah):=by rw[ql];simp[v3]
   rw[ql];refine vkq ?_;simp![t0,t1];refine(kv2 g1).use ?_;intro _ _;simp![t1];refine(kv2 g2).use ?_;intro _ _;simp![];refine good_by.use ?_;intro _ _;simp![];have e:Wz w ss rs rs' (D.tup [D.int p,D.int q,D.tup (prs sh)]) ah=.tup [.int own,.bl (byW w (gdF rs p) (gdF rs' q)),.lst ah]:=by
    unfold Wz;rw[hOd];rfl
   rw[e];exact#[rfl,rfl]
theorem qvw(t):∀k (o),(qv t k o).length<=o.length
 |_,[]=>X9 _
 |k,n::o=>by
  have:=qvw t (k+1) o;unfold qv
  split<;>simp<;>lia
theorem kq3{a b}(ha:kW ac a)(hb:kW kps' b)(hk:∀p∈ac,0<=p/\p<=3):Pok ac kps' (jX a b):=by
 obtain⟨a0,a1⟩:=wx9 ha;obtain⟨b0,b1⟩:=wx9 hb;exact#[_,_,_,rfl,a0,a1,b0,b1,Yd (qvw _ _ _) (Qx hk ha)]
theorem vvh{K x}(hK:∀d∈K,Pok ac kps' d)(ha:kW ac x.1)(hb:kW kps' x.2)(hk:∀p∈ac,0<=p/\p<=3):∀d∈(wq K x).1,Pok ac kps' d:=by
 intro d hd;unfold wq at hd
 split at hd
 ·exact hK d hd
 ·dsimp only at hd;unfold z6 at hd
  split at hd
  ·exact hK d hd
  ·rcases aA hd with hd|hd
   ·exact hK d hd
   ·rw[aC hd];exact kq3 ha hb hk
theorem kwt(hk:∀p∈ac,0<=p/\p<=3):∀{l K},(∀d∈K,Pok ac kps' d)->(∀x∈l,kW ac x.1/\kW kps' x.2)->∀d∈(v7 l K).1,Pok ac kps' d
 |[],K,h,_=>h|x::l,K,h,hl=>kwt hk (l:=l) (vvh h (hl x X6).1 (hl x X6).2 hk) λy hy=>hl y (lc9 _ hy)
theorem kwe{S T own}(hP:Prs ac ss.length rs)(hk:∀p∈ac,0<=p/\p<=3)(az:Prs kps' ss.length rs')(av:Kq9 kps')(hS:kW ac S)(hT:kW kps' T):∀{zs K},(∀d∈K,Pok ac kps' d)->∀d∈(v3 ss rs rs' S T own zs K).1,Pok ac kps' d
 |[],K,h=>h|z::zs,K,h=>kwe hP hk az av hS hT (zs:=zs) (kwt hk h λx hx=>qwg hP hk az av hS hT hx)
noncomputable def XV(w:Str)(ss:List Str)(rs rs' K aa:List D):List D×List D:=
 ((v3 ss rs rs' (pS rs (K.getD aa.length .non)) (pT rs rs' (K.getD aa.length .non)) (pO rs rs' (K.getD aa.length .non)) ss K).1,
  aa++[Wz w ss rs rs' (K.getD aa.length .non) (v3 ss rs rs' (pS rs (K.getD aa.length .non)) (pT rs rs' (K.getD aa.length .non)) (pO rs rs' (K.getD aa.length .non)) ss K).2])
inductive RunJ (w:Str)(ss:List Str)(rs rs':List D):List D->List D->Option (List D×List D)->Prop
 |stop {K aa:List D}:¬aa.length<K.length->RunJ w ss rs rs' K aa (some (K,aa))
 |great {K aa:List D}:aa.length<K.length->40<K.length->RunJ w ss rs rs' K aa none
 |go {K aa:List D} {r:Option (List D×List D)}:aa.length<K.length->K.length<=40->RunJ w ss rs rs' (XV w ss rs rs' K aa).1 (XV w ss rs rs' K aa).2 r->RunJ w ss rs rs' K aa r
abbrev P0:D:=.tup [.int 0,.int 0,.tup []]
structure Mst (ac kps':List Int)(K aa:List D):Prop where
 kj:Kj K
 ok:∀d∈K,Pok ac kps' d
 le:aa.length<=K.length
theorem vxm{w K aa}(hP:Prs ac ss.length rs)(hk:∀p∈ac,0<=p/\p<=3)(az:Prs kps' ss.length rs')(av:Kq9 kps')(h:Mst ac kps' K aa)(c8:aa.length<K.length):
  Mst ac kps' (XV w ss rs rs' K aa).1 (XV w ss rs rs' K aa).2:=by
 have fy:K.getD aa.length .non∈K:=by rw[X2,X1 c8];exact Xu _
 have hPk:=h.ok _ fy;obtain⟨a,b,c⟩:=kqb (rs':=rs') h.kj;refine⟨a,kwe hP hk az av (vxf hP hk hPk) (vxe az av hPk) h.ok,?_⟩;show(aa++[_]).length<=_;rw[Xf];exact Yd c8 b
noncomputable def keyI:D->Int
 |.tup [.int k,_,_]=>k|_=>0
def kzx(rs:List D):Bool:=decide (rs.length<=12)&&rs.all λr=>decide (keyI r<=3)
theorem vvv(g):∀ds:List D,bls (ds.map λd=>D.bl (g d))=some (ds.map g)
 |[]=>rfl
 |d::ds=>by
  rw[List.map_cons,bls,vvv g ds];rfl
theorem all_is g (ds:List D):K9 (.lst (ds.map λd=>D.bl (g d)))=some (.bl (ds.all g)):=by
 show(bls _).map _=_;rw[vvv];simp[Function.comp_def]
theorem qvv{d0 rs}(h:∀r∈rs,∃(own:Int) (a b:D),r=.tup [.int own,a,b]):Oo m_is_small [(.no,.tup [d0,.lst rs])] (λy=>∃o',y=(o',.bl (kzx rs))/\True) noX:=by
 have q1:∀a b,jQ (.tup [a,b]) (.int 1)=some b:=λ_ _=>rfl
 refine k7 ?_
 by_cases hl:rs.length<=12
 ·have e:fLe (.int rs.length) (.int 12)=some (.bl true):=by rw[le_ii,Xj ⋯]
  simp![q1,e];refine zW [] (λd y=>y.2=.bl (decide (keyI d<=3))) ?_;simp![q1];refine#[λd hd=>?_,λys hy=>?_]
  ·obtain⟨own,a,b,rfl⟩:=h d hd;simp![t0];exact#[#[_,rfl],rfl]
  ·rw[vW,K8 (h:=λd=>.bl (decide (keyI d<=3))) (λ_ _ h=>h) hy];simp![all_is (λd=>decide (keyI d<=3))];exact#[_,by unfold kzx;rw[Xj hl];rfl,trivial]
 ·have e:fLe (.int rs.length) (.int 12)=some (.bl false):=by rw[le_ii,Xs ⋯]
  simp![q1,e];exact#[_,by unfold kzx;rw[Xs hl];rfl,trivial]
theorem qw2{n}(hP:Prs ac n rs):∀r∈rs,∃(own:Int) (a b:D),r=.tup [.int own,a,b]:=λr hr=>by
 obtain⟨i,hi,e⟩:=Z4 hr;obtain⟨r',e',gd,st,h',_⟩:=hP.2 i (hP.1▸hi);rw[X1 hi,e]at e'
 grind
theorem qjb{n}(hP:Prs ac n rs)(hk:∀p∈ac,0<=p/\p<=3)(h12:ac.length<=12):kzx rs=true:=by
 unfold kzx;rw[Xj (hP.1▸h12),Bool.true_and,Zl];intro r hr;obtain⟨i,hi,e⟩:=Z4 hr;have ly:i<ac.length:=by rw[<-hP.1];exact hi
 obtain⟨r',e',gd,st,h',_⟩:=hP.2 i ly;rw[X1 hi,e]at e';cases oq9 e';rw[h'];have hm:ac.getD i 0∈ac:=by rw[X2,X1 ly];exact Xu _
 exact Xj (hk _ hm).2
theorem vqi{w}(hw:w∈(["both","either","first","one"]:List Str))(hs:ss.length<=3)(h1:1<=ac.length)(h12:ac.length<=12)(h1':1<=kps'.length)(h12':kps'.length<=12)(hP:Prs ac ss.length rs)(hk:∀p∈ac,0<=p/\p<=3)(az:Prs kps' ss.length rs')(av:Kq9 kps'):
  Oo m_joined [(.no,.str w),(.no,jK ss rs),(.no,jK ss rs')] (λy=>∃K aa,y=(.no,.tup [jK ss aa,.lst K])/\RunJ w ss rs rs' [P0] [] (some (K,aa))/\Mst ac kps' K aa) (λc=>c="TooGreat"/\RunJ w ss rs rs' [P0] [] none):=by
 have hwn:Jq (.str w) (.tup [.str "both",.str "either",.str "first",.str "one"])=some (.bl false):=by
  simp only[Yt,Yg,or_false]at hw;rcases hw with rfl|rfl|rfl|rfl<;>rfl
 have q0:∀a b,jQ (.tup [a,b]) (.int 0)=some a:=λ_ _=>rfl
 have ck:fNe (sL ss) (sL ss)=some (.bl false):=vkv (show D.flats 39 (ss.map D.str)=true from V0 λd hd=>by obtain⟨w,_,rfl⟩:=aE hd;rfl);unfold m_joined;refine k7 ?_;simp![hwn,q0,ck];have lx:=qvv (d0:=sL ss) (qw2 hP);have fk:=qvv (d0:=sL ss) (qw2 az);rw [qjb hP hk h12]at lx;rw [qjb az av h12']at fk;refine lx.any.use ?_;intro _ _;simp![];refine fk.any.use ?_;intro _ _;simp![↓wwt];refine#[wjk 0 0 [],?_];have cn:Mst ac kps' [P0] []:=#[#[by simp,λd hd=>by rw[aC hd];exact#[0,0,[],rfl]],λd hd=>by rw[aC hd];exact#[0,0,[],rfl,⋯,⋯,⋯,⋯,Yi _],Yi _];refine vx5 (λn E=>∃K aa,E=[some (.no,.str w),some (.no,jK ss rs),some (.no,jK ss rs'),some (.rt,.dct (x8 K)),some (.rt,.lst aa)]/\Mst ac kps' K aa/\K.length<=100/\n=200 - aa.length/\∀r,RunJ w ss rs rs' K aa r->RunJ w ss rs rs' [P0] [] r) ?_ 200 _ #[[P0],[],rfl,cn,⋯,rfl,λr h=>h];rintro n E ⟨K,aa,rfl,hm,hl,rfl,hrun⟩;have hu:=wwv hm.kj.ok;have i8:=hm.le;have pd:(x8 K).length=K.length:=qkz K 0;have oi:∀o,W9 (o,.dct (x8 K))=some (.rt,.lst K):=λo=>by
  rw[xj9 (by rw[pd];lia) hu];unfold x8;rw[qvj]
 by_cases c8:aa.length<K.length
 ·have hd:decide ((aa.length:Int)<(K.length:Int))=true:=Xj ⋯
  by_cases h40:K.length<=40
  ·have hg:fGt (.int K.length) (.int 40)=some (.bl false):=by rw[gt_ii,Xs ⋯]
   have ig:jQ (.lst K) (.int aa.length)=some (K.getD aa.length .non):=xk ⋯ (by rw[Xp,X1 c8,X2,X1 c8];rfl);have fy:K.getD aa.length .non∈K:=by rw[X2,X1 c8];exact Xu _
   have jo:=(kqb (ss:=ss) (rs:=rs) (rs':=rs') (S:=pS rs (K.getD aa.length .non)) (T:=pT rs rs' (K.getD aa.length .non)) (own:=pO rs rs' (K.getD aa.length .non)) (zs:=ss) hm.kj).2.2;have hO:=vxg hP hk az av (hm.ok _ fy);have hm3:ss.length*(pO rs rs' (K.getD aa.length .non)+1)<=3*7:=Nat.mul_le_mul hs ⋯;simp![qwd hu,pd,hd,hg];refine Q3 rfl (qww ?_);simp![oi,ig];refine#[_,rfl,(kxg (w:=w) hs hP hk az av (hm.ok _ fy) hm.kj ⋯).mono (λy x' h=>?_) λc h=>h.elim];obtain⟨rfl,rfl⟩:=h;refine#[aa,rfl,⋯,_,?_,_,_,rfl,(vxm (w:=w) hP hk az av hm c8),?_,rfl,λr h=>hrun r (.go c8 h40 h)]
   ·show 200 - (aa++[_]).length<_;rw[Xf,Xx];lia
   ·show(v3 ss rs rs' _ _ _ ss K).1.length<=100;lia
  ·have hg:fGt (.int K.length) (.int 40)=some (.bl true):=by rw[gt_ii,Xj ⋯]
   simp![qwd hu,pd,hd,hg];exact hrun _ (.great c8 ⋯)
 ·have hd:decide ((aa.length:Int)<(K.length:Int))=false:=Xs ⋯;simp![qwd hu,pd,hd,oi,q0,wjh (o:=.no) (xs:=ss.map D.str) ⋯];exact#[K,aa,rfl,hrun _ (.stop c8),hm]
end
end J
namespace Kp
open Q PySem C
theorem bk(E:En):back [] [] (clr [] E)=E:=rfl
end Kp
namespace U
open Q PySem C B J
theorem vji{a b:Sn}(h:stn a=stn b):a=b:=by
 cases a with
 | none=>cases b with|none=>rfl|some y=>cases h
 | some x=>cases b with
  |none=>cases h
  |some y=>
   have h:(D.tup [.int x.1,iT x.2])=.tup [.int y.1,iT y.2]:=h;injection h with h;injection h with e1 h;injection h with e2 _;injection e1 with e1;injection e2 with e2;have e2:x.2=y.2:=(List.map_inj_right λa b h=>by injection h).mp e2;exact congrArg some (Prod.ext e1 e2)
theorem wky{ac:List Int}{ss:List Str}{rs:List D}{s a b:D}{w:Str×Int}(h:Rd ac ss rs s w a)(h':Rd ac ss rs s w b):a=b:=by
 rcases h with⟨rfl,rfl⟩|⟨room,ks,st,kp,gd,rfl,_,hr,_,_,e⟩
 ·rcases h' with⟨_,rfl⟩|⟨room,ks,st,kp,gd,h,_⟩
  ·rfl
  ·cases h
 ·rcases h' with⟨h,_⟩|⟨tf,ks',i9,kp',gd',h,_,hr',_,_,e'⟩
  ·cases h
  ·injection h with h;injection h with e1 h;injection h with e2 _;injection e1 with e1;injection e2 with e2;have e2:ks=ks':=(List.map_inj_right λa b h=>by injection h).mp e2;subst e1 e2;rw[hr]at hr';injection hr' with hr';injection hr' with hr';injection hr' with _ hr';injection hr' with _ hr';injection hr' with hr' _;injection hr' with hr';rw[e,e',hr']
section
variable {ac kps':List Int}{ss:List Str}{rs rs':List D}{f:Int->Int}
theorem kxj{S:Sn}{z:Str}{c:Int}(hP:Prs ac ss.length rs)(hk:∀p∈ac,0<=p/\p<=3)(hS:kW ac S)(pz:∀x∈nms S,f x=f c->x=c):rdF ss rs (wv f S) z (f c)=wv f (rdF ss rs S z c)/\∀n∈nms (rdF ss rs S z c),n∈nms S\/n=c:=by
 obtain⟨s',h1,h2,h3,_⟩:=wxg (z:=z) hP hk hS pz;have hm:kW ac (wv f S):=by
  cases S with
  |none=>exact λ_ _ e=>nomatch e
  |some x=>
   intro room ks e;cases e;obtain⟨a,b,c⟩:=hS x.1 x.2 rfl;exact#[a,b,by rw[X3];exact c]
 have e1:=vji (wky (Kk z c hP hk hS).1 h1);have e2:=vji (wky (Kk z (f c) hP hk hm).1 h2);rw[e1,e2];exact#[rfl,h3]
theorem wjd{l:List Int}{g:Int->Int}(h:l.Nodup)(hi:∀x∈l,∀y∈l,g x=g y->x=y):(l.map g).Nodup:=by
 induction l with
 |nil=>exact Y2
 |cons a l ih=>
  rw[Zg]at h;rw[List.map_cons,Zg];refine#[λz=>?_,ih h.2 λx hx y hy=>hi x (lc9 _ hx) y (lc9 _ hy)];obtain⟨b,hb,e⟩:=aE z;have:=hi b (lc9 _ hb) a X6 e;exact h.1 (this▸hb)
theorem vzt{S:Sn}{z:Str}{c:Int}(hP:Prs ac ss.length rs)(hk:∀p∈ac,0<=p/\p<=3)(hS:kW ac S)(hn:(nms S).Nodup):(nms (rdF ss rs S z c)).Nodup:=by
 have h1:=(Kk z c hP hk hS).1;generalize rdF ss rs S z c=S' at h1;rcases h1 with⟨_,e⟩|⟨room,ks,st,kp,gd,e,_,_,hc,_,e'⟩
 ·cases S' with| none=>exact Y2| some x=>cases e
 ·have hks:nms S=ks:=by
   cases S with
   | none=>cases e
   | some x=>
    have e:(D.tup [.int x.1,iT x.2])=.tup [.int room,iT ks]:=e;injection e with e;injection e with _ e;injection e with e _;injection e with e;exact(List.map_inj_right λa b h=>by injection h).mp e
  rw [hks]at hn;unfold wX at e';cases hz:(ss.any λw=>w==z)with
  | false=>
   rw [hz]at e';cases S' with| none=>exact Y2| some x=>cases e'
  | true=>
   rw [hz,Xd rfl]at e';obtain⟨cs,_,_,_,g4⟩:=qkh c hc hz;rcases g4 with g|⟨to,fs,g,_,_,hfs,mw,_⟩
   ·rw [g]at e';cases S' with| none=>exact Y2| some x=>cases e'
   ·rw [g,show(D.tup (fs.map D.int))=iT fs from rfl,caseD_is]at e';cases S' with
    | none=>cases e'
    | some x=>
     have e':(D.tup [.int x.1,iT x.2])=.tup [.int to,iT (fs.map (C.nameAt ks c))]:=e';injection e' with e';injection e' with _ e';injection e' with e' _;injection e' with e';have e':x.2=fs.map (C.nameAt ks c):=(List.map_inj_right λa b h=>by injection h).mp e';show x.2.Nodup;rw[e'];have hb:=λi hi=>hfs i hi
     refine wjd mw λi hi j hj mz=>?_
     obtain⟨i0,i1⟩:=hfs i hi;obtain⟨j0,j1⟩:=hfs j hj;unfold xX at i1 j1;unfold C.nameAt at mz;have key:i.toNat=j.toNat:=by
      by_cases hm:c∈ks
      ·have c8:(ks.findIdx λw=>w==c)<ks.length:=Yn #[c,hm,by simp];rw[Xg ⋯]at i1 j1;rw[X2,X2,Xn ⋯,Xn ⋯,<-X2,<-X2]at mz;exact Wk hn ⋯ ⋯ mz
      ·have lu:(ks++[c]).Nodup:=List.nodup_append.mpr #[hn,by simp,λx hx y hy e=>by rw[aC hy]at e;exact hm (e▸hx)];have:(if((ks.findIdx λw=>w==c:Nat):Int)=ks.length then(1:Int)else 0)<=1:=by split<;>lia
       exact Wk lu (by rw[Xf,Xx];lia) (by rw[Xf,Xx];lia) mz
     lia
theorem qq2{t:List Int}{i j:Int}:∀{o:List Int} {k:Nat},(i,j)∈qv t k o->∃m:Nat,∃x:Int,i=((k+m:Nat):Int)/\o[m]?=some x/\x∈t/\j=((t.findIdx λw=>w==x:Nat):Int)
 | [],k,h=>nomatch h
 | n::o,k,h=>by
  have e:qv t k (n::o)=if(t.any λw=>w==n)=true then((k:Int),((t.findIdx λw=>w==n:Nat):Int))::qv t (k+1) o else qv t (k+1) o:=rfl
  rw[e]at h;have go:(i,j)∈qv t (k+1) o->∃m:Nat,∃x:Int,i=((k+m:Nat):Int)/\(n::o)[m]?=some x/\x∈t/\j=((t.findIdx λw=>w==x:Nat):Int):=λh=>by
   obtain⟨m,x,h1,h2,h3,h4⟩:=qq2 h;exact#[m+1,x,by rw[h1];congr 1;lia,h2,h3,h4]
  split at h
  ·rename_i ha;rcases aD h with h|h
   ·injection h with h1 h2;rw[kkc]at ha;exact#[0,n,h1,rfl,of_decide_eq_true ha,h2]
   ·exact go h
  ·exact go h
theorem vkz{t:List Int}{x:Int}:∀{o:List Int} {k m:Nat},o[m]?=some x->x∈t->(((k+m:Nat):Int),((t.findIdx λw=>w==x:Nat):Int))∈qv t k o
 | [],k,m,h,_=>nomatch h
 | n::o,k,m,h,hx=>by
  have e:qv t k (n::o)=if(t.any λw=>w==n)=true then((k:Int),((t.findIdx λw=>w==n:Nat):Int))::qv t (k+1) o else qv t (k+1) o:=rfl
  rw[e];cases m with
  |zero=>
   have h:n=x:=by simpa using h
   subst h;rw[Xd (by rw[kkc];exact Xj hx)];exact X6
  |succ m=>
   have:=vkz (k:=k+1) (m:=m) (o:=o) (by simpa using h) hx;rw[show k+1+m=k+(m+1)by lia]at this
   split
   ·exact lc9 _ this
   ·exact this
theorem vj4(kv:List (Int×Int))(k v j:Int):(kQ kv j).isSome=true\/k=j->(kQ (vJ kv k v) j).isSome=true:=by
 intro h;unfold kQ;rw [Option.isSome_map,List.find?_isSome];unfold vJ
 by_cases ha:(kv.any λp=>decide (p.1=k))=true
 ·rw[Xd ha];have:∃p∈kv,p.1=j:=by
   rcases h with h|rfl
   ·unfold kQ at h;rw[Option.isSome_map,List.find?_isSome]at h;obtain⟨p,hp,e⟩:=h;exact#[p,hp,of_decide_eq_true e]
   ·obtain⟨p,hp,e⟩:=List.any_eq_true.mp ha;exact#[p,hp,of_decide_eq_true e]
  obtain⟨p,hp,e⟩:=this;refine#[_,List.mem_map.mpr #[p,hp,rfl],Xj ?_]
  split
  ·exact e
  ·exact e
 ·rw[Xg ha];rcases h with h|rfl
  ·unfold kQ at h;rw[Option.isSome_map,List.find?_isSome]at h;obtain⟨p,hp,e⟩:=h;exact#[p,ll9 _ hp,e]
  ·exact#[(k,v),lr9 _ X6,Xj rfl]
theorem qvm:∀(ps kv:List (Int×Int)) (j:Int),(kQ kv j).isSome=true\/(∃p∈ps,p.1=j)->(kQ (ps.foldl (λkv p=>vJ kv p.1 p.2) kv) j).isSome=true
 | [],kv,j,h=>by
  rcases h with h|⟨p,hp,_⟩
  ·exact h
  ·exact nomatch hp
 | p::ps,kv,j,h=>by
  rw[Ze];refine qvm ps _ j ?_;rcases h with h|⟨q,hq,e⟩
  ·exact .inl (vj4 _ _ _ _ (.inl h))
  ·rcases aD hq with rfl|hq
   ·exact .inl (vj4 _ _ _ _ (.inr e))
   ·exact .inr #[q,hq,e]
theorem vxq{sh:List (Int×Int)}{i j:Int}(h:(i,j)∈sh):(kQ (kvS sh) j).isSome=true:=qvm _ _ _ (.inr #[(j,i),List.mem_map.mpr #[(i,j),h,rfl],rfl])
theorem vks{own kv}(hv:∀j i,kQ kv j=some i->0<=i/\i<own):∀n,(nmF own kv n).filter (λx=>decide (own<=x))=(List.range (vY own kv n)).map λ(c:Nat)=>own+c
 | 0=>rfl
 | n+1=>by
  have ih:=vks hv n;cases h:kQ kv n with
  | some i=>
   have:=hv _ _ h;have e:vY own kv (n+1)=vY own kv n:=by
    unfold vY;rw[jxv h,Yc,List.filter_cons_of_neg (by simp;lia)];simp
   rw[e,<-ih,jxv h,Yc,List.filter_cons_of_neg (by simp;lia)];simp
  | none=>
   have e:vY own kv (n+1)=vY own kv n+1:=by
    show((nmF own kv _).filter _).length=_;rw[jxw h,Yc,List.filter_cons_of_pos (by simp;lia),Xf];rfl
   rw[e,List.range_succ,Xh,<-ih,jxw h,Yc,List.filter_cons_of_pos (by simp;lia)];rfl
theorem wvq{k sh n}(hk:0<=k)(hv:∀j i,kQ (kvS sh) j=some i->0<=i/\i<k):jY (x4 k) (nmF k (kvS sh) n)=x4 ((jY (x4 k) (nmF k (kvS sh) n)).length:Nat):=by
 have e:(nmF k (kvS sh) n).filter (λm=>!(x4 k).any λw=>w==m)=(nmF k (kvS sh) n).filter λx=>decide (k<=x):=by
  refine List.filter_congr λx hx=>?_
  have h0:=(qjr hk hv n x hx).1;rw[kkc]
  by_cases qo:k<=x
  ·rw[Xj qo,Xs]
   ·rfl
   ·grind
  ·rw[Xs qo,Xj]
   ·rfl
   ·exact List.mem_map.mpr #[x.toNat,List.mem_range.mpr ⋯,⋯]
 have e2:jY (x4 k) (nmF k (kvS sh) n)=x4 (k+vY k (kvS sh) n):=by
  unfold jY;rw[e,vks hv];show(List.range k.toNat).map _++_=(List.range (k+vY k _ n).toNat).map _;rw[show(k+_).toNat=k.toNat+vY k (kvS sh) n by lia,List.range_add,Xh,Xr]
  congr 1
  refine Ym λc _=>?_
  grind
 rw[(vxw (n:=n) hk hv),e2]
end
section
variable {ac kps':List Int}{ss:List Str}{rs rs':List D}
abbrev hp(rs rs':List D)(P:D):List Int:=jY (nms (pS rs P)) (nms (pT rs rs' P))
def Rl(rs rs':List D)(P:D)(a b:Sn):Prop:=∃f:Int->Int,a=wv f (pS rs P)/\b=wv f (pT rs rs' P)/\(∀x∈hp rs rs' P,∀y∈hp rs rs' P,f x=f y->x=y)/\hp rs rs' P=x4 (pO rs rs' P)
theorem wjj{s}(hP:Prs ac ss.length rs)(hk:∀p∈ac,0<=p/\p<=3)(h:kW ac s):kpF rs (rmO s)=(nms s).length:=by
 cases s with
 |none=>rfl
 |some x=>
  obtain⟨a,b,c⟩:=h x.1 x.2 rfl;obtain⟨_,_,_,_,e⟩:=WZ hP hk ⋯ b;show kpF rs x.1=(x.2.length:Int);rw[e a,c]
theorem vzo{s T}(h:kW ac s) g (hg:T.map g=nms s):s=wv g (xZ (rmO s) T):=by
 cases s with
 |none=>rfl
 |some x=>
  have:=(h x.1 x.2 rfl).1;have hg:T.map g=x.2:=hg;show some x=wv g (xZ x.1 T);unfold xZ;rw[Xg ⋯];show some x=some (x.1,T.map g);rw[hg]
theorem ww7{a b}(hP:Prs ac ss.length rs)(hk:∀p∈ac,0<=p/\p<=3)(az:Prs kps' ss.length rs')(av:Kq9 kps')(ha:kW ac a)(hb:kW kps' b)(na:(nms a).Nodup)(nb:(nms b).Nodup):Rl rs rs' (jX a b) a b:=by
 have ka:=wjj hP hk ha;have p9:YY (prs (qv (nms b) 0 (nms a)))=qv (nms b) 0 (nms a):=wkm _;have eS:pS rs (jX a b)=xZ (rmO a) (x4 ((nms a).length:Nat)):=by
  show xx6 (rmO a) (kpF rs (rmO a))=_;rw [ka];rfl
 have eT:pT rs rs' (jX a b)=xZ (rmO b) (nmF ((nms a).length:Nat) (kvS (qv (nms b) 0 (nms a))) (nms b).length):=by
  show xvy (rmO b) (kpF rs (rmO a)) (kpF rs' (rmO b)) (YY (prs (qv (nms b) 0 (nms a))))=_;rw [ka,(wjj az av hb),p9];rfl
 generalize hA:nms a=A at *;generalize hB:nms b=B' at *;have hv:∀j i,kQ (kvS (qv B' 0 A)) j=some i->0<=i/\i<(A.length:Nat):=λj i h=>by
  obtain⟨m,x,h1,h2,_⟩:=qq2 (vj5 h);have:=(List.getElem?_eq_some_iff.mp h2).1;lia
 have k0:(0:Int)<=(A.length:Nat):=⋯
 generalize hT:nmF ((A.length:Nat):Int) (kvS (qv B' 0 A)) B'.length=T at *;have hTl:T.length=B'.length:=by rw[<-hT,V3]
 have fa:(x4 (A.length:Nat)).map (ren (A++B') (A.length:Nat) T)=A:=by
  rw [vwq k0 (by rw[Xf];lia),Xp,List.take_left]
 have fb:T.map (ren (A++B') (A.length:Nat) T)=B':=by
  rw [<-hT,vju k0 hv];unfold vjc;refine Zi λj=>?_
  rw [X8]
  by_cases hj:j<B'.length
  ·rw[Z6 hj,X1 hj];show some ((kQ (kvN (A++B') (qv B' 0 A)) (j)).getD ((A++B').getD ((A.length:Int).toNat+j) 0))=_;rw[vj6];cases h:kQ (kvS (qv B' 0 A)) (j)with
   | none=>
    show some ((A++B').getD ((A.length:Int).toNat+j) 0)=_;rw[Xp,X2,Yb ⋯,show A.length+j - A.length=j by lia,X1 hj];rfl
   | some i=>
    show some ((A++B').getD i.toNat 0)=_;obtain⟨m,x,h1,h2,h3,h4⟩:=qq2 (vj5 h);have hm:=(List.getElem?_eq_some_iff.mp h2).1;have ig:=kza h3;rw[show(B'.findIdx λw=>w==x)=j by lia,X1 hj]at ig;rw[ig,show i.toNat=m by lia,X2,Xn hm,h2];rfl
  ·rw[Xy (by rw[Xz];lia),Xy ⋯];rfl
 have hnA:nms (xZ (rmO a) (x4 (A.length:Nat)))=x4 (A.length:Nat):=wjb λe=>by
  have:=W4 ha e;rw [this]at hA;rw [<-hA];rfl
 have hnB:nms (xZ (rmO b) T)=T:=wjb λe=>by
  have:=W4 hb e;rw [this]at hB;have:T.length=0:=by rw[hTl,<-hB];rfl
  exact List.length_eq_zero_iff.mp this
 have hhp:hp rs rs' (jX a b)=jY (x4 (A.length:Nat)) T:=by
  unfold hp;rw [eS,eT,hnA,hnB]
 have hrng:hp rs rs' (jX a b)=x4 (pO rs rs' (jX a b)):=by
  show _=x4 ((hp rs rs' (jX a b)).length:Nat);rw [hhp,<-hT];exact wvq k0 hv
 refine#[ren (A++B') (A.length:Nat) T,?_,?_,?_,hrng]
 ·rw [eS];exact vzo ha _ (by rw[fa,hA])
 ·rw [eT];exact vzo hb _ (by rw[fb,hB])
 ·rw [hhp];have big:∀x∈T,((A.length:Nat):Int)<=x->∃j,j<B'.length/\T[j]?=some x/\(ren (A++B') (A.length:Nat) T x)=B'.getD j 0/\B'.getD j 0∉A:=λx hx qo=>by
   have ig:=kza hx;have hj:=(List.getElem?_eq_some_iff.mp ig).1;have ue:ren (A++B') (A.length:Nat) T x=B'.getD (T.findIdx λw=>w==x) 0:=by
    unfold ren;rw[Xg ⋯,Xp,X2,Yb ⋯,X2]
    congr 2
    lia
   generalize (T.findIdx λw=>w==x)=j at ig hj ue;refine#[j,⋯,ig,ue,λfy=>?_];obtain⟨m,hm,em⟩:=Z4 fy;have hB:B'.getD j 0∈B':=by rw[X2,X1 ⋯];exact Xu _
   have p9:=vkz (k:=0) (t:=B') (o:=A) (m:=m) (x:=B'.getD j 0) (by rw[X1 hm,em]) hB;have mz:(B'.findIdx λw=>w==B'.getD j 0)=j:=by
    have h1:=kza hB;have h2:=(List.getElem?_eq_some_iff.mp h1).1;refine Wk nb h2 ⋯ ?_;rw[X2,h1];rfl
   rw[mz]at p9;obtain⟨i,hi⟩:=Option.isSome_iff_exists.mp (vxq p9);have:=kxy (own:=(A.length:Nat)) (n:=B'.length) ⋯ (jxv (own:=((A.length:Nat):Int)) hi);rw[hT,ig]at this;have e:=oq9 this;have:=hv _ _ hi;lia
  have sml:∀x:Int,0<=x->x<(A.length:Nat)->ren (A++B') (A.length:Nat) T x=A.getD x.toNat 0:=λx h0 h1=>by
   unfold ren;rw[Xd h1,X2,Xn ⋯,X2]
  have mA:∀x:Int,0<=x->x<(A.length:Nat)->A.getD x.toNat 0∈A:=λx h0 h1=>by
   rw[X2,X1 ⋯];exact Xu _
  have cs:∀x∈jY (x4 (A.length:Nat)) T,(0<=x/\x<(A.length:Nat))\/(x∈T/\((A.length:Nat):Int)<=x):=λx hx=>by
   rcases aA hx with hx|hx
   ·obtain⟨i,hi,rfl⟩:=aE hx;have:=List.mem_range.mp hi;exact .inl ⋯
   ·have hx:=(List.mem_filter.mp hx)
    by_cases h:x<(A.length:Nat)
    ·refine .inl #[?_,h];have:=hx.1;rw[<-hT]at this;exact(qjr k0 hv _ x this).1
    ·exact .inr #[hx.1,⋯]
  intro x hx y hy e;rcases cs x hx with⟨x0,x1⟩|⟨x0,x1⟩
  ·rcases cs y hy with⟨y0,y1⟩|⟨y0,y1⟩
   ·rw[sml x x0 x1,sml y y0 y1]at e;have:=Wk na ⋯ ⋯ e;lia
   ·obtain⟨j,_,_,h1,h2⟩:=big y y0 y1;rw[sml x x0 x1,h1]at e;exact absurd (e▸mA x x0 x1) h2
  ·obtain⟨i,i1,i2,i3,i4⟩:=big x x0 x1;rcases cs y hy with⟨y0,y1⟩|⟨y0,y1⟩
   ·rw[sml y y0 y1,i3]at e;exact absurd (e▸mA y y0 y1) i4
   ·obtain⟨j,j1,j2,j3,j4⟩:=big y y0 y1;rw[i3,j3]at e;have:=Wk nb i1 j1 e;subst this;rw[i2]at j2;exact oq9 j2
end
theorem qwo{f o t}(h:∀n∈t,∀x∈o,f x=f n->x=n):jY (o.map f) (t.map f)=(jY o t).map f:=by
 unfold jY;rw[Xh,List.filter_map]
 congr 2
 refine List.filter_congr λn hn=>?_
 show(!_)=_;rw[kzk (h n hn)]
section
variable {ac kps':List Int}{ss:List Str}{rs rs':List D}
theorem xjx{P x}(h:x∈nms (pS rs P)):x∈hp rs rs' P:=ll9 _ h
theorem xjw{P x}(h:x∈nms (pT rs rs' P)):x∈hp rs rs' P:=by
 by_cases hx:x∈nms (pS rs P)
 ·exact ll9 _ hx
 ·refine lr9 _ (List.mem_filter.mpr #[h,?_]);rw[kkc,Xs hx];rfl
theorem mem_rngL{k x}:x∈x4 k↔0<=x/\x<k:=by
 constructor
 ·intro h;obtain⟨i,hi,rfl⟩:=aE h;have:=List.mem_range.mp hi;lia
 ·intro h;exact List.mem_map.mpr #[x.toNat,List.mem_range.mpr ⋯,⋯]
theorem kwj{f g s}(h:∀x∈nms s,f x=g x):wv f s=wv g s:=by
 cases s with|none=>rfl|some x=>exact congrArg some (Prod.ext rfl (Ym h))
theorem vjs{P a b f}(e1:a=wv f (pS rs P))(e2:b=wv f (pT rs rs' P))(hi:∀x∈hp rs rs' P,∀y∈hp rs rs' P,f x=f y->x=y):jY (nms a) (nms b)=(hp rs rs' P).map f:=by
 rw[e1,e2,W0,W0];exact qwo λn hn x hx e=>hi x (xjx hx) n (xjw hn) e
theorem vzs{P a b}(h:Rl rs rs' P a b):(jY (nms a) (nms b)).length=pO rs rs' P:=by
 obtain⟨f,e1,e2,hi,_⟩:=h;rw[vjs e1 e2 hi,X3];rfl
structure Two (ac kps':List Int)(S T:Sn):Prop where
 a:kW ac S
 b:kW kps' T
 na:(nms S).Nodup
 nb:(nms T).Nodup
theorem Two.next{a b} z c (hP:Prs ac ss.length rs)(hk:∀p∈ac,0<=p/\p<=3)(az:Prs kps' ss.length rs')(av:Kq9 kps')(h:Two ac kps' a b):Two ac kps' (rdF ss rs a z c) (rdF ss rs' b z c):=
 #[(Kk z c hP hk h.a).2,(Kk z c az av h.b).2,vzt hP hk h.a h.na,vzt az av h.b h.nb]
def run(ss:List Str)(rs:List D)(S:Sn)(w:List (Str×Int)):Sn:=w.foldl (λS x=>rdF ss rs S x.1 x.2) S
abbrev S0:Sn:=some (0,[])
theorem vwb(h0:ac[0]?=some 0)(lh:kps'[0]?=some 0):Two ac kps' S0 S0:=by
 have mk:∀{l},l[0]?=some 0->kW l S0:=fun {l} h room ks e=>by
  cases e;have hl:=(List.getElem?_eq_some_iff.mp h).1;exact#[⋯,⋯,by show 0=l.getD 0 0;rw[X2,h];rfl]
 exact#[mk h0,mk lh,Y2,Y2]
end
section
variable {ac kps':List Int}{ss:List Str}{rs rs':List D}
end
section
variable {ac kps':List Int}{ss:List Str}{rs rs':List D}
theorem vzp(hP:Prs ac ss.length rs)(hk:∀p∈ac,0<=p/\p<=3):∀(w:List (Str×Int)) {S},kW ac S->Ch2 ac ss rs (stn S) w (stn (run ss rs S w))/\kW ac (run ss rs S w)
 |[],S,h=>#[rfl,h]
 |x::w,S,h=>by
  obtain⟨r1,r2⟩:=Kk x.1 x.2 hP hk h;obtain⟨i1,i2⟩:=vzp hP hk w r2;exact#[#[_,r1,i1],i2]
theorem wvr{S}(h:kW ac S):W8 rs (stn S)=gdF rs (rmO S):=by
 cases S with
 |none=>rfl
 |some x=>
  have:=(h x.1 x.2 rfl).1;show _=gdF rs x.1;unfold gdF;rw[Xg ⋯];rfl
end
end U
namespace J
open Q PySem C B U
def vj(K:List D)(x:Sn×Sn):D:=if rmO x.1=-1/\rmO x.2=-1 then .non else .tup [.int (K.idxOf (jX x.1 x.2):Nat),iT (jY (nms x.1) (nms x.2))]
def Inn(K:List D)(x:Sn×Sn):Prop:=(rmO x.1=-1/\rmO x.2=-1)\/jX x.1 x.2∈K
theorem Inn.mono{K K2 x}(h:K <+: K2)(g:Inn K x):Inn K2 x:=g.imp id λg=>h.subset g
theorem wvl{K K2}{d:D}(h:K <+: K2)(g:d∈K):K2.idxOf d=K.idxOf d:=by
 obtain⟨r,rfl⟩:=h;rw[List.idxOf_append,Xd g]
theorem vvi(K x):K <+: (wq K x).1/\Inn (wq K x).1 x/\∀K2,(wq K x).1 <+: K2->(wq K x).2=vj K2 x:=by
 unfold wq vj
 by_cases h:rmO x.1=-1/\rmO x.2=-1
 ·rw[Xd h];exact#[List.prefix_refl _,.inl h,λK2 _=>by rw[Xd h]]
 ·rw[Xg h];dsimp only;have hm:jX x.1 x.2∈z6 K (jX x.1 x.2):=by unfold z6;split<;>simp_all
  refine#[by unfold z6;split<;>simp,.inr hm,λK2 h2=>?_];rw[Xg h,wvl h2 hm]
theorem kwu:∀l K,K <+: (v7 l K).1/\(∀x∈l,Inn (v7 l K).1 x)/\∀K2,(v7 l K).1 <+: K2->(v7 l K).2=l.map (vj K2)
 | [],K=>#[List.prefix_refl _,(λ_ h=>nomatch h),λ_ _=>rfl]
 | x::l,K=>by
  obtain⟨a,b,c⟩:=vvi K x;obtain⟨d,e,f⟩:=kwu l (wq K x).1;refine#[a.trans d,λy hy=>?_,λK2 h=>?_]
  ·rcases aD hy with rfl|hy
   ·exact b.mono d
   ·exact e y hy
  ·show _::(v7 l (wq K x).1).2=_;rw[f K2 h,c K2 (d.trans h)];rfl
section
variable {ac kps':List Int}{ss:List Str}{rs rs':List D}{w:Str}
theorem kwf{S T own}:∀zs K,K <+: (v3 ss rs rs' S T own zs K).1/\(∀z∈zs,∀x∈wj ss rs rs' S T own z,Inn (v3 ss rs rs' S T own zs K).1 x)/\∀K2,(v3 ss rs rs' S T own zs K).1 <+: K2->(v3 ss rs rs' S T own zs K).2=zs.map λz=>.lst ((wj ss rs rs' S T own z).map (vj K2))
 | [],K=>#[List.prefix_refl _,(λ_ h=>nomatch h),λ_ _=>rfl]
 | z::zs,K=>by
  obtain⟨a,b,c⟩:=kwu _ K;obtain⟨d,e,f⟩:=kwf zs (v7 _ K).1;refine#[a.trans d,λy hy=>?_,λK2 h=>?_]
  ·rcases aD hy with rfl|hy
   ·exact λx hx=>(b x hx).mono d
   ·exact e y hy
  ·show D.lst _::(v3 ss rs rs' S T own zs _).2=_;rw[f K2 h,c K2 (d.trans h)];rfl
def QY(ss:List Str)(rs rs':List D)(P:D)(z:Str):List (Sn×Sn):=wj ss rs rs' (pS rs P) (pT rs rs' P) (pO rs rs' P) z
def xk4(w:Str)(ss:List Str)(rs rs':List D)(K:List D)(P:D):D:=Wz w ss rs rs' P (ss.map λz=>.lst ((QY ss rs rs' P z).map (vj K)))
def Inv(w:Str)(ss:List Str)(rs rs':List D)(K aa:List D):Prop:=∀K2,K <+: K2->∀n,n<aa.length->aa[n]?=some (xk4 w ss rs rs' K2 (K2.getD n .non))/\∀z∈ss,∀x∈QY ss rs rs' (K2.getD n .non) z,Inn K2 x
theorem wqh{K K2:List D}{n}(h:K <+: K2)(hn:n<K.length):K2.getD n .non=K.getD n .non:=by
 obtain⟨r,rfl⟩:=h;rw[X2,Xn hn,<-X2]
theorem vxs{K aa}(h:Inv w ss rs rs' K aa)(c8:aa.length<K.length):K <+: (XV w ss rs rs' K aa).1/\Inv w ss rs rs' (XV w ss rs rs' K aa).1 (XV w ss rs rs' K aa).2:=by
 obtain⟨a,b,c⟩:=kwf (rs':=rs') ss K;refine#[a,λK2 h2 n hn=>?_];show(aa++[Wz w ss rs rs' _ (v3 ss rs rs' _ _ _ ss K).2])[n]?=_/\_;have hn:n<(aa++[Wz w ss rs rs' _ (v3 ss rs rs' _ _ _ ss K).2]).length:=hn;rw[Xf,Xx]at hn
 by_cases hl:n<aa.length
 ·rw[Xn hl];exact h K2 (a.trans h2) n hl
 ·have e:n=aa.length:=⋯
  subst e;rw[Yb (X9 _),Nat.sub_self,wqh (a.trans h2) c8,c K2 h2];exact#[rfl,λz hz x hx=>(b z hz x hx).mono h2]
theorem wkq{K aa r}(h:RunJ w ss rs rs' K aa r):∀K' br,r=some (K',br)->Inv w ss rs rs' K aa->aa.length<=40->K <+: K'/\Inv w ss rs rs' K' br/\¬br.length<K'.length/\br.length<=40:=by
 induction h with
 | stop h=>
  intro K' br e hi hl;cases e;exact#[List.prefix_refl _,hi,h,hl]
 | great=>intro _ _ e;cases e
 | @go K aa r h1 h2 _ ih=>
  intro K' br e hi hl;obtain⟨a,b⟩:=vxs hi h1;obtain⟨c,d⟩:=ih K' br e b (by
   show(aa++[_]).length<=40;rw[Xf,Xx];lia)
  exact#[a.trans c,d]
def Rc(ac kps':List Int)(P:D):Prop:=∃a b,Two ac kps' a b/\P=jX a b
theorem wv3{a b}(ha:a.Nodup)(hb:b.Nodup):(jY a b).Nodup:=by
 refine List.nodup_append.mpr #[ha,hb.filter _,λx hx y hy e=>?_];rw[List.mem_filter,kkc]at hy
 grind
theorem qjs{f:Int->Int}{l:List Int}(h:(l.map f).Nodup):l.Nodup:=(List.pairwise_map.mp h).imp λh e=>h (congrArg f e)
theorem kxi{z}(hz:(ss.any λw=>w==z)=false) S c:rdF ss rs S z c=none:=by
 unfold rdF
 split
 ·rfl
 ·split
  ·unfold wX;rw[hz];rfl
  ·rfl
section
variable (hP:Prs ac ss.length rs)(hk:∀p∈ac,0<=p/\p<=3)(az:Prs kps' ss.length rs')(av:Kq9 kps')
include hP hk az av
theorem Rc.rl{P}(h:Rc ac kps' P):∃a b,Two ac kps' a b/\P=jX a b/\Rl rs rs' P a b:=by
 obtain⟨a,b,t,rfl⟩:=h;exact#[a,b,t,rfl,ww7 hP hk az av t.a t.b t.na t.nb]
theorem Rc.two{P}(h:Rc ac kps' P):Two ac kps' (pS rs P) (pT rs rs' P):=by
 have hq:Pok ac kps' P:=by obtain⟨a,b,t,rfl⟩:=h;exact kq3 t.a t.b hk
 obtain⟨a,b,t,_,f,e1,e2,_⟩:=h.rl hP hk az av;refine#[vxf hP hk hq,vxe az av hq,?_,?_]
 ·have:=t.na;rw[e1,W0]at this;exact qjs this
 ·have:=t.nb;rw[e2,W0]at this;exact qjs this
theorem wxh{K aa r}(h:RunJ w ss rs rs' K aa r):∀K' br,r=some (K',br)->(∀d∈K,Rc ac kps' d)->∀d∈K',Rc ac kps' d:=by
 have ins:∀{x K},Two ac kps' x.1 x.2->(∀d∈K,Rc ac kps' d)->∀d∈(wq K x).1,Rc ac kps' d:=fun {x K} t hK d hd=>by
  unfold wq at hd
  split at hd
  ·exact hK d hd
  ·dsimp only at hd;unfold z6 at hd
   split at hd
   ·exact hK d hd
   ·rcases aA hd with hd|hd
    ·exact hK d hd
    ·rw[aC hd];exact#[_,_,t,rfl]
 have inc:∀{l K},(∀x∈l,Two ac kps' x.1 x.2)->(∀d∈K,Rc ac kps' d)->∀d∈(v7 l K).1,Rc ac kps' d:=by
  intro l
  induction l with| nil=>exact λ_ h=>h| cons x l ih=>exact λhl h=>ih (λy hy=>hl y (lc9 _ hy)) (ins (hl x X6) h)
 have isg:∀{S T own zs K},Two ac kps' S T->(∀d∈K,Rc ac kps' d)->∀d∈(v3 ss rs rs' S T own zs K).1,Rc ac kps' d:=by
  intro S T own zs
  induction zs with
  | nil=>exact λ_ h=>h
  | cons z zs ih=>exact λt h=>ih t (inc (λx hx=>by
    obtain⟨c,_,rfl⟩:=aE hx;exact t.next z c hP hk az av) h)
 induction h with
 |stop h=>intro K' br e hi;cases e;exact hi|great=>intro _ _ e;cases e
 |@go K aa r h1 h2 _ ih=>
  intro K' br e hi;refine ih K' br e (isg (Rc.two hP hk az av (hi _ ?_)) hi);rw[X2,X1 h1];exact Xu _
theorem wxe{P a b}(h:Rl rs rs' P a b)(c):a=wv (nameAt (jY (nms a) (nms b)) c) (pS rs P)/\b=wv (nameAt (jY (nms a) (nms b)) c) (pT rs rs' P)/\nameAt (jY (nms a) (nms b)) c ((jY (nms a) (nms b)).findIdx λw=>w==c:Nat)=c /\
  (∀ x,x∈hp rs rs' P\/x=((jY (nms a) (nms b)).findIdx λw=>w==c:Nat)->∀y,y∈hp rs rs' P\/y=((jY (nms a) (nms b)).findIdx λw=>w==c:Nat)->nameAt (jY (nms a) (nms b)) c x=nameAt (jY (nms a) (nms b)) c y->x=y):=by
 have ak:=vzs h;obtain⟨f,e1,e2,hi,hr⟩:=h;have hh:=vjs e1 e2 hi;have mw:(jY (nms a) (nms b)).Nodup:=by
  rw [hh];refine wjd ?_ hi;rw [hr];exact List.pairwise_map.mpr (List.nodup_range.imp λh e=>h ⋯)
 have hg:∀x∈hp rs rs' P,nameAt (jY (nms a) (nms b)) c x=f x:=λx hx=>by
  rw [hr]at hx;have:=mem_rngL.mp hx;unfold C.nameAt;rw [X2,Xn ⋯,hh,hr,X8,X8,Z6 ⋯];show f (x.toNat:Int)=f x;rw [Int.toNat_of_nonneg this.1]
 refine#[?_,?_,?_,?_]
 ·conv=>lhs;rw[e1]
  exact(kwj λx hx=>hg x (xjx hx)).symm
 ·conv=>lhs;rw[e2]
  exact(kwj λx hx=>hg x (xjw hx)).symm
 ·generalize jY (nms a) (nms b)=ks at *;unfold C.nameAt;rw [Xp,X2]
  by_cases hc:c∈ks
  ·rw[Xn (Yn #[c,hc,by simp]),kza hc];rfl
  ·rw[vqp hc];simp
 ·have fy:∀x,x∈hp rs rs' P\/x=((jY (nms a) (nms b)).findIdx λw=>w==c:Nat)->0<=x/\(x.toNat<(jY (nms a) (nms b)).length\/c∉jY (nms a) (nms b)/\x.toNat<(jY (nms a) (nms b)).length+1):=λx hx=>by
   rcases hx with hx|rfl
   ·rw[hr]at hx;have:=mem_rngL.mp hx;exact#[this.1,.inl ⋯]
   ·refine#[⋯,?_]
    by_cases hc:c∈jY (nms a) (nms b)
    ·exact .inl (Yn #[c,hc,by simp])
    ·rw[vqp hc];exact .inr #[hc,⋯]
  intro x hx y hy e;obtain⟨x0,x1⟩:=fy x hx;obtain⟨y0,y1⟩:=fy y hy;generalize jY (nms a) (nms b)=ks at *;unfold C.nameAt at e;have:x.toNat=y.toNat:=by
   by_cases hc:c∈ks
   ·have x1:x.toNat<ks.length:=x1.elim id λq=>absurd hc q.1
    have y1:y.toNat<ks.length:=y1.elim id λq=>absurd hc q.1
    rw[X2,X2,Xn x1,Xn y1,<-X2,<-X2]at e;exact Wk mw x1 y1 e
   ·have lu:(ks++[c]).Nodup:=List.nodup_append.mpr #[mw,by simp,λx hx y hy e=>by rw[aC hy]at e;exact hc (e▸hx)];exact Wk lu (by rw[Xf,Xx];lia) (by rw[Xf,Xx];lia) e
  lia
end
end
def wQ(rs rs' K:List D):List Int:=K.map λP=>(pO rs rs' P:Int)
structure Made (ac kps':List Int)(w:Str)(ss:List Str)(rs rs' K aa:List D):Prop where
 len:aa.length=K.length
 le:K.length<=40
 nd:K.Nodup
 rc:∀P∈K,Rc ac kps' P
 room:∀n,n<K.length->aa[n]?=some (xk4 w ss rs rs' K (K.getD n .non))/\∀z∈ss,∀x∈QY ss rs rs' (K.getD n .non) z,Inn K x
 st:K[0]?=some P0
section
variable {ac kps':List Int}{ss:List Str}{rs rs':List D}{w:Str}
variable (hP:Prs ac ss.length rs)(hk:∀p∈ac,0<=p/\p<=3)(az:Prs kps' ss.length rs')(av:Kq9 kps')
include hP hk az av
theorem wv6{K aa}(h0:ac[0]?=some 0)(lh:kps'[0]?=some 0)(h:RunJ w ss rs rs' [P0] [] (some (K,aa)))(hm:Mst ac kps' K aa):Made ac kps' w ss rs rs' K aa:=by
 obtain⟨a,b,c,d⟩:=wkq h K aa rfl (λ_ _ n hn=>absurd hn (Nat.not_lt_zero _)) (Yi _);have hl:aa.length=K.length:=by have:=hm.le;lia
 refine#[hl,⋯,hm.kj.nd,wxh hP hk az av h K aa rfl λP hP=>?_,λn hn=>b K (List.prefix_refl _) n ⋯,?_]
 ·rw[aC hP];exact#[S0,S0,vwb h0 lh,rfl]
 ·obtain⟨r,rfl⟩:=a;rfl
theorem wkg{P}(h:Rc ac kps' P):∀x,x∈nms (pS rs P)\/x∈nms (pT rs rs' P)->0<=x/\x<(pO rs rs' P):=λx hx=>by
 obtain⟨a,b,t,_,f,_,_,_,hr⟩:=h.rl hP hk az av;have:x∈hp rs rs' P:=hx.elim xjx xjw;rw[hr]at this;exact mem_rngL.mp this
theorem kjc{a b}(t:Two ac kps' a b):(jY (nms a) (nms b)).length=pO rs rs' (jX a b):=vzs (ww7 hP hk az av t.a t.b t.na t.nb)
theorem vz3{K P z k}(h:Rc ac kps' P)(n8:k<pO rs rs' P+1)(fy:Inn K (rdF ss rs (pS rs P) z k,rdF ss rs' (pT rs rs' P) z k)):
  Cs (wQ rs rs' K) (xX (pO rs rs' P) k) (vj K (rdF ss rs (pS rs P) z k,rdF ss rs' (pT rs rs' P) z k)):=by
 have t:=h.two hP hk az av;have t2:=t.next z k hP hk az av
 have ho:=wkg hP hk az av h;unfold vj
 split
 ·exact .inl rfl
 ·rename_i hn;have hi:=Yr (fy.resolve_left hn);refine .inr #[_,_,rfl,⋯,by unfold wQ;rw[X3];lia,λf hf=>?_,wv3 t2.na t2.nb,?_]
  ·have:(0<=f/\f<(pO rs rs' P))\/f=k:=by
    rcases aA hf with q|q
    ·exact(((kxj (z:=z) (c:=k) hP hk t.a λ_ _ e=>e).2) f q).imp (λq=>ho f (.inl q)) id
    ·exact(((kxj (z:=z) (c:=k) az av t.b λ_ _ e=>e).2) f (List.mem_filter.mp q).1).imp (λq=>ho f (.inr q)) id
   unfold xX
   split<;>lia
  ·unfold wQ;rw[kjc hP hk az av t2,X2,X8,Xp,X1 hi,Zb];rfl
theorem kz1{K aa}(m:Made ac kps' w ss rs rs' K aa):Prs (wQ rs rs' K) ss.length aa:=by
 have hl:(wQ rs rs' K).length=K.length:=by unfold wQ;rw[X3]
 refine#[by rw[hl,m.len],λi hi=>?_];rw[hl]at hi;obtain⟨e,fy⟩:=m.room i hi;have hrc:Rc ac kps' (K.getD i .non):=m.rc _ (by rw[X2,X1 hi];exact Xu _);have hg:(wQ rs rs' K).getD i 0=(pO rs rs' (K.getD i .non):Int):=by
  unfold wQ;rw[X2,X8,X2,X1 hi];rfl
 rw[hg];generalize K.getD i .non=P at *;refine#[_,e,_,_,rfl,X3 _,λc hc=>?_];obtain⟨z,hz,rfl⟩:=aE hc;have t8:((QY ss rs rs' P z).map (vj K)).length=pO rs rs' P+1:=by unfold QY wj;rw[X3,X3,Xz]
 refine#[_,rfl,by rw[t8];rfl,λk n8=>?_];rw[t8]at n8;refine#[vj K _,?_,vz3 hP hk az av hrc n8 (fy z hz _ (List.mem_map.mpr #[k,List.mem_range.mpr n8,rfl]))];unfold QY wj;rw[X8,X8,Z6 n8];rfl
theorem wvd{K aa}(m:Made ac kps' w ss rs rs' K aa):∀p∈wQ rs rs' K,0<=p/\p<=6:=λp hp=>by
 obtain⟨P,hPK,rfl⟩:=aE hp;obtain⟨a,b,t,rfl⟩:=m.rc P hPK;have:=vxg hP hk az av (kq3 t.a t.b hk);lia
theorem xjg{K aa}(h0:ac[0]?=some 0)(lh:kps'[0]?=some 0)(m:Made ac kps' w ss rs rs' K aa):(wQ rs rs' K)[0]?=some 0:=by
 unfold wQ;rw[X8,m.st];show some ((pO rs rs' (jX S0 S0):Nat):Int)=_;rw[<-kjc hP hk az av (vwb h0 lh)];rfl
theorem sim{K aa a b}(z c)(m:Made ac kps' w ss rs rs' K aa)(t:Two ac kps' a b)(fy:Inn K (a,b)):
  Rd (wQ rs rs' K) ss aa (vj K (a,b)) (z,c) (vj K (rdF ss rs a z c,rdF ss rs' b z c))/\Inn K (rdF ss rs a z c,rdF ss rs' b z c):=by
 by_cases hn:rmO a=-1/\rmO b=-1
 ·have ea:=W4 t.a hn.1;have eb:=W4 t.b hn.2;subst ea eb;exact#[.inl #[rfl,rfl],.inl #[rfl,rfl]]
 have hm:jX a b∈K:=fy.resolve_left hn;have hi:=Yr hm;have hget:K.getD (K.idxOf (jX a b)) .non=jX a b:=by rw[X2,X1 hi,Zb];rfl
 obtain⟨er,dl⟩:=m.room _ hi;obtain⟨r',er',hpr⟩:=(kz1 hP hk az av m).2 (K.idxOf (jX a b)) (by unfold wQ;rw[X3];exact hi);have hg:(wQ rs rs' K).getD (K.idxOf (jX a b)) 0=((jY (nms a) (nms b)).length:Int):=by
  rw[kjc hP hk az av t];unfold wQ;rw[X2,X8,X1 hi,Zb];rfl
 have hlk:=kjc hP hk az av t;rw [hget]at er dl;rw [er]at er';cases oq9 er';rw [hg]at hpr;obtain⟨gd,st,est,jm⟩:=hpr;have cn:(ss.map λz=>D.lst ((QY ss rs rs' (jX a b) z).map (vj K)))=st:=by
  injection est with est
  grind
 obtain⟨e1,e2,e3,e4⟩:=wxe hP hk az av (ww7 hP hk az av t.a t.b t.na t.nb) c;have hpo:=vxg hP hk az av (kq3 t.a t.b hk);have tP:=Rc.two hP hk az av #[a,b,t,rfl];have hf:vj K (a,b)=.tup [.int (K.idxOf (jX a b):Nat),iT (jY (nms a) (nms b))]:=Xg hn;rw [hf]
 suffices hs:vj K (rdF ss rs a z c,rdF ss rs' b z c)=wX ss st (jY (nms a) (nms b)) z c/\Inn K (rdF ss rs a z c,rdF ss rs' b z c)from
  #[.inr #[_,_,st,_,_,rfl,⋯,by rw[Xp,er,est],jm,⋯,hs.1],hs.2]
 generalize hks:jY (nms a) (nms b)=ks at *;unfold wX;cases hz:(ss.any λw=>w==z)with
 | false=>
  rw[kxi hz,kxi hz];exact#[rfl,.inl #[rfl,rfl]]
 | true=>
  obtain⟨z',hzm,hze⟩:=List.any_eq_true.mp hz;have ig:(ks.findIdx λw=>w==c)<pO rs rs' (jX a b)+1:=by
   have:=List.findIdx_le_length (p:=λw=>w==c) (xs:=ks);lia
  generalize hP0:jX a b=P at *;obtain⟨a1,a2⟩:=kxj (f:=C.nameAt ks c) (z:=z) (c:=((ks.findIdx λw=>w==c:Nat):Int)) hP hk tP.a λx hx e=>e4 x (.inl (xjx hx)) _ (.inr rfl) e
  obtain⟨b1,b2⟩:=kxj (f:=C.nameAt ks c) (z:=z) (c:=((ks.findIdx λw=>w==c:Nat):Int)) az av tP.b λx hx e=>e4 x (.inl (xjw hx)) _ (.inr rfl) e
  rw[<-e1,e3]at a1;rw[<-e2,e3]at b1;have inj:=λn hn x hx e=>e4 x ((b2 x hx).imp xjw id) n ((a2 n hn).imp xjx id) e
  have uo:z9 ss st ks z c=vj K (rdF ss rs (pS rs P) z (ks.findIdx λw=>w==c:Nat),rdF ss rs' (pT rs rs' P) z (ks.findIdx λw=>w==c:Nat)):=by
   unfold z9;have hfz:ss[ss.findIdx λw=>w==z]?=some z:=by
    rw[X1 (wvv hz)];have:=List.findIdx_getElem (xs:=ss) (p:=λw=>w==z) (w:=wvv hz);rw[eq_of_beq this]
   rw[<-cn,X8,hfz];show((QY ss rs rs' P z).map (vj K)).getD _ .non=_;unfold QY wj;rw[X2,X8,X8,Z6 ig];rfl
  have ut:=dl z (eq_of_beq hze▸hzm) _ (List.mem_map.mpr #[_,List.mem_range.mpr ig,rfl]);rw[Xd rfl,uo,a1,b1];generalize rdF ss rs (pS rs P) z (ks.findIdx λw=>w==c:Nat)=A at *;generalize rdF ss rs' (pT rs rs' P) z (ks.findIdx λw=>w==c:Nat)=B' at *;have hpd:=vkm inj;refine#[?_,?_]
  ·unfold vj;dsimp only;rw[kk2,kk2,hpd,W0,W0]
   by_cases hq:rmO A=-1/\rmO B'=-1
   ·rw[Xd hq,Xd hq];rfl
   ·rw[Xg hq,Xg hq,caseD_is,qwo λn hn x hx e=>(inj x hx n hn e.symm).symm]
  ·unfold Inn at ut ⊢;dsimp only at ut ⊢
   rwa [kk2,kk2,hpd]
theorem vjn{K aa}(m:Made ac kps' w ss rs rs' K aa):∀L {a b},Two ac kps' a b->Inn K (a,b)->Ch2 (wQ rs rs' K) ss aa (vj K (a,b)) L (vj K (run ss rs a L,run ss rs' b L))/\Inn K (run ss rs a L,run ss rs' b L)/\Two ac kps' (run ss rs a L) (run ss rs' b L)
 |[],a,b,t,h=>#[rfl,h,t]
 |x::L,a,b,t,h=>by
  obtain⟨s1,s2⟩:=sim hP hk az av x.1 x.2 m t h;obtain⟨q1,q2⟩:=vjn m L (t.next x.1 x.2 hP hk az av) s2;exact#[#[_,s1,q1],q2]
theorem vz2{K aa a b}(m:Made ac kps' w ss rs rs' K aa)(t:Two ac kps' a b)(fy:Inn K (a,b)):Ok2 (wQ rs rs' K) (vj K (a,b)):=by
 unfold vj
 split
 ·exact .inl rfl
 ·rename_i hn;have hi:=Yr (fy.resolve_left hn);refine .inr #[_,_,rfl,⋯,by unfold wQ;rw[X3];lia,?_];unfold wQ;rw[kjc hP hk az av t,X2,X8,Xp,X1 hi,Zb];rfl
theorem qza{K aa a b}(hw:w∈(["both","either","first","one"]:List Str))(m:Made ac kps' w ss rs rs' K aa)(t:Two ac kps' a b)(fy:Inn K (a,b)):W8 aa (vj K (a,b))=byW w (gdF rs (rmO a)) (gdF rs' (rmO b)):=by
 unfold vj
 split
 ·rename_i hn;rw[hn.1,hn.2];simp at hw;rcases hw with rfl|rfl|rfl|rfl<;>rfl
 ·rename_i hn;have hi:=Yr (fy.resolve_left hn);obtain⟨e,_⟩:=m.room _ hi;unfold W8;dsimp only;rw[Xp,e,X2,X1 hi,Zb];rfl
end
end J
namespace W3
open Q PySem C
abbrev AZ:Str:="abcdefghijklmnopqrstuvwxyz"
def Sg(z:Str):Prop:=1<=z.cps.size/\z.cps.size<=8/\∀c∈z.cps.toList,c∈AZ.cps.toList
theorem nodup_map{n:Nat}{f:Nat->Str}(h:∀i j,i<j->j<n->f i≠f j):((List.range n).map f).Nodup:=by
 unfold List.Nodup;rw[List.pairwise_map];exact List.pairwise_lt_range.imp_of_mem λ_ hj c8=>h _ _ c8 (List.mem_range.mp hj)
theorem sl_to{z:Str}{j:Int}(h0:0<=j)(h1:j<=z.cps.size):(Txt.slice z none (some j)).cps.toList=z.cps.toList.take j.toNat:=by
 have:=StrLaws.sliceText_to (x:=z) (j:=j) #[h0,by rw[Xm];exact h1];rw[show Txt.slice z none (some j)=StrLaws.sliceText z none (some j)from rfl,this];simp
noncomputable def chr(t:Int):Nat:=AZ.cps.toList.getD t.toNat 0
theorem ix_az{t:Int}(h0:0<=t)(h1:t<26):jQ (.str AZ) (.int t)=some (.str #[(List.toArray [chr t])])/\chr t∈AZ.cps.toList:=by
 have hl:AZ.cps.toList.length=26:=by decide +kernel
 have hs:AZ.cps.size=26:=by decide +kernel
 have e:AZ.cps.toList[t.toNat]?=some (chr t):=by
  unfold chr;rw[X2,X1 ⋯];rfl
 refine#[?_,Z1 e];show((Q.ixN AZ.cps.size t).bind λj=>(AZ.cps.toList[j]?).map λc=>D.str #[(List.toArray [c])])=_;unfold Q.ixN;rw[Xd h0,Xd ⋯];show((AZ.cps.toList[t.toNat]?).map λc=>D.str #[(List.toArray [c])])=_;rw[e];rfl
end W3
namespace Nk62
open PySem Q
def kk7 : Fn:= B.m__law_whole
noncomputable def kja:Fn:=fn 1
  (j7 (sIf (tOr (tNot (tEQ (vE (cF1 (pu1 (vw "str")) (vV 0))))) (tNot (tE (Q2 fLe fLe (C9 1) (vE (cF1 (pu1 qw) (vV 0))) (C9 8))))) (jx (cC (.bl false))) qj)
  (jx (cF1 (pu1 K9) (vE (cLC .rt 1 [] (itS (cV 0)) (.n 0) tYes (cF2 (pu2 Jj) (vV 0) (vE (cC (.str "abcdefghijklmnopqrstuvwxyz")))))))))
def Wx:Fn:=fn 2
  (jx (vQ (vE (cF1 (pu1 (vw "tuple")) (vV 0))) (cF2 (pu2 fEq) (vE (cF1 (pu1 qw) (vV 0))) (vV 1))))
def jqz:Fn:=fn 2
  (jx (vQ (vE (jz kk7 [(cV 0)])) (Q2 fLe fLt (C9 0) (vV 0) (vV 1))))
noncomputable def jv8:Fn:=fn 1
  (j7 (sIf (tOr (tNot (tEQ (vE (cF1 (pu1 (vw "list")) (vV 0))))) (tNot (tE (Q2 fLe fLe (C9 1) (vE (cF1 (pu1 qw) (vV 0))) (C9 3))))) (jx (cC (.bl false))) qj)
  (j7 (sIf (tNot (tEQ (vE (cF1 (pu1 K9) (vE (cLC .rt 1 [] (itS (cV 0)) (.n 0) tYes (jz kja [(cV 0)]))))))) (jx (cC (.bl false))) qj)
  (jx (cF2 (pu2 fEq) (vV 0) (vE (cF1 Zz (vV 0)))))))
def jkn:Fn:=fn 1
  (jx (vQ (vE (jz Wx [(cV 0),(cC (.int 3))])) (vQ (vE (jz jqz [(cH (jk (vV 0) (C9 0))),(cF2 kY (C9 6) (C9 1))])) (cF1 (pu1 (vw "bool")) (jk (vV 0) (C9 1))))))
def jqr:Fn:=fn 2
  (jx (vQ (vE (cF1 (pu1 (vw "list")) (vV 0))) (cF2 (pu2 fEq) (vE (cF1 (pu1 qw) (vV 0))) (vV 1))))
noncomputable def jka:Fn:=fn 3
  (j7 (sIf (tOr (tNot (tEQ (vE (jz Wx [(cV 0),(cV 2)])))) (tNot (tEQ (vE (cF1 (pu1 K9) (vE (cLC .rt 1 [1] (itS (cV 0)) (.n 0) tYes (jz jqz [(cV 0),(cV 1)])))))))) (jx (cC (.bl false))) qj)
  (jx (cF2 (pu2 fEq) (vE (cF1 (pu1 jz0) (vV 0))) (vV 2))))
noncomputable def jw3:Fn:=fn 3
  (j7 (sIf (tE (cF2 (f2First fIsNon) (vV 0) (vE (cC .non)))) (jx (cC (.bl true))) qj)
  (j7 (sIf (tOr (tNot (tEQ (vE (jz Wx [(cV 0),(cC (.int 2))])))) (tNot (tEQ (vE (jz jqz [(cH (jk (vV 0) (C9 0))),(cF1 (pu1 qw) (vV 2))]))))) (jx (cC (.bl false))) qj)
  (jx (jz jka [(cH (jk (vV 0) (C9 1))),(cV 1),(cH (jk (vV 2) (jk (vV 0) (C9 0))))]))))
noncomputable def jv9:Fn:=fn 4
  (j7 (sIf (tNot (tEQ (vE (jz jqr [(cV 0),(cF2 kY (vV 1) (C9 1))])))) (jx (cC (.bl false))) qj)
  (j7 (jw 3 (cF1 (pu1 K9) (vE (cLC .rt 1 [1,2] (itS (cSl (vV 0) none (some (vV 1)))) (.n 0) tYes (jz jw3 [(cV 0),(cV 1),(cV 2)])))))
  (jx (vQ (vV 3) (jz jw3 [(cH (jk (vV 0) (vV 1))),(cF2 kY (vV 1) (C9 1)),(cV 2)])))))
def jko:Fn:=fn 4
  (jx (vQ (vE (jz jqr [(cV 0),(cV 1)])) (cF1 (pu1 K9) (vE (cLC .rt 1 [2,3] (itS (cV 0)) (.n 0) tYes (jz jv9 [(cV 0),(cV 1),(cV 2)]))))))
noncomputable def jk9:Fn:=fn 3
  (j7 (sIf (tOr (tNot (tEQ (vE (cF1 (pu1 (vw "list")) (vV 0))))) (tNot (tE (Q2 fLe fLe (C9 1) (vE (cF1 (pu1 qw) (vV 0))) (C9 200))))) (jx (cC (.bl false))) qj)
  (j7 (sIf (tNot (tEQ (vE (cF1 (pu1 K9) (vE (cLC .rt 1 [] (itS (cV 0)) (.n 0) tYes (jz jkn [(cV 0)]))))))) (jx (cC (.bl false))) qj)
  (j7 (jw 2 (cLC .rt 1 [] (itS (cV 0)) (.n 0) tYes (cH (jk (vV 0) (C9 0)))))
  (jx (vQ (vE (cF2 (pu2 fEq) (jk (vV 2) (C9 0)) (C9 0))) (cF1 (pu1 K9) (vE (cLC .rt 1 [1,2] (itS (cV 0)) (.n 0) tYes (jz jko [(cH (jk (vV 0) (C9 2))),(cV 1),(cH (jk (vV 0) (C9 0))),(cV 2)])))))))))
def jxx:Fn:=fn 1
  (jx (vQ (vE (jz Wx [(cV 0),(cC (.int 2))])) (vQ (vE (jz jv8 [(cH (jk (vV 0) (C9 0)))])) (jz jk9 [(cH (jk (vV 0) (C9 1))),(cF1 (pu1 qw) (jk (vV 0) (C9 0)))]))))
def m_is_small : Fn:= J.m_is_small
def m_read_by : Fn:= C.m_read_by
def jkk:Fn:=fn 5
  (j7 (jw 2 (qK .no [(cC (.int 0)),(qK .no [])]))
  (j7 (vZ (itS (cV 1)) (.t [3,4]) (jw 2 (jz m_read_by [(cV 0),(cV 2),(cV 3),(cV 4)])))
  (jx (cMv 2))))
def jvl:Fn:=fn 3
  (j7 (jw 2 (jz jkk [(cV 0),(cV 1)]))
  (jx (vQ (vE (cF2 (f2First fNotNon) (vV 2) (vE (cC .non)))) (cH (jk (jk (jk (vV 0) (C9 1)) (jk (vV 2) (C9 0))) (C9 1))))))
def m_keepers_in : Fn:= B.m_keepers_in
def m_standing_in : Fn:= B.m_standing_in
def m_first_standings : Fn:= B.m_first_standings
def m_read_by_both : Fn:= B.m_read_by_both
def m_names_of : Fn:= B.m_names_of
def m_room_of : Fn:= B.m_room_of
def m_pair_of : Fn:= B.m_pair_of
def m_held_by_both : Fn:= B.m_held_by_both
def m_is_good_in : Fn:= B.m_is_good_in
def m_is_good_by : Fn:= J.m_is_good_by
def m_joined_case : Fn:= J.m_joined_case
def m_joined_room : Fn:= J.m_joined_room
def m_joined : Fn:= J.m_joined
def m__law_cell_at : Fn:= B.m__law_cell_at
def m__law_whole : Fn:= B.m__law_whole
def m__law_stream : Fn:= B.m__law_stream
def m__law_signs : Fn:= B.m__law_signs
def m__law_fills : Fn:= B.m__law_fills
def m__law_case : Fn:= B.m__law_case
def m__law_plain : Fn:= B.m__law_plain
def m__law_read : Fn:= B.m__law_read
def m__law_pair : Fn:= B.m__law_pair
noncomputable def jwn:Fn:=fn 2
  (jx (cLC .rt 1 [0] (xv (vV 1)) (.n 0) tYes (cF2 (pu2 xq9) (vE (cF2 J3 (vE (cF2 kY (vE (cF2 (pu2 qx) (vV 1) (vE (cF2 (pu2 xqa) (C9 10) (C9 59))))) (C9 1))) (vE (cF2 kY (vV 0) (C9 1))))) (vE (cF2 J3 (C9 5) (vE (cF2 (pu2 xqa) (C9 10) (C9 59))))))))
noncomputable def jva:Fn:=fn 6
  (j7 (jw 3 (v9 .dp [(v9 .dp [])]))
  (j7 (vZ (itS (cV 2)) (.n 4) (j7 (jw 5 (cH (jk (vV 0) (vE (cF2 (pu2 qx) (vV 4) (vE (cF1 (pu1 qw) (vV 0))))))))
  (j7 (sIf (tE (cF2 (pu2 fEq) (vE (cF2 (pu2 qx) (vE (cF2 (pu2 xq) (vV 4) (C9 3))) (C9 9))) (C9 8))) (jw 5 (cF2 kY (vE (cSl (jk (vV 0) (C9 0)) none (some (C9 7)))) (vE (cC (.str "q"))))) qj)
  (j7 (ZY 3 (vE (cF1 (pu1 VQ) (C9 1))) (qK .no [(cV 5),(cH (jk (vV 1) (vE (cF2 (pu2 qx) (vE (cF2 (pu2 xq) (vV 4) (C9 27))) (vE (cF1 (pu1 qw) (vV 1)))))))]))
  (sIf (tE (cF2 (pu2 fGt) (vE (cF1 (pu1 qw) (jk (vV 3) (vE (cF1 (pu1 VQ) (C9 1)))))) (vE (cF2 (pu2 qx) (vE (cF2 (pu2 xq) (vV 4) (C9 189))) (C9 60))))) (xz xJ 3 (v9 .dp [])) qj)))))
  (sFz 3 (jx (cMv 3)))))
def jkb:Fn:=fn 5
  (j7 (jw 2 (qK .no [(cC (.int 0)),(qK .no [])]))
  (j7 (vZ (itS (cV 1)) (.t [3,4]) (j7 (sIf (tE (cF2 (pu2 Jq) (vV 3) (jk (vV 0) (C9 0)))) (jw 2 (cC .non)) qj)
  (jw 2 (jz m__law_read [(cV 0),(cV 2),(cV 3),(cV 4)]))))
  (jx (cMv 2))))
def jvb:Fn:=fn 2
  (jx (vQ (vE (cF2 (f2First fNotNon) (vV 1) (vE (cC .non)))) (cH (jk (jk (jk (vV 0) (C9 1)) (jk (vV 1) (C9 0))) (C9 1)))))
def kjb : Fn:= J.m_is_good_by
def jqn:Fn:=fn 1
  (j7 (sIf (tE (cF2 (f2First fIsNon) (vV 0) (vE (cC .non)))) (jx (v9 .rt [])) qj)
  (jx (cF1 Q4 (jk (vV 0) (C9 1)))))
noncomputable def jqa:Fn:=fn 7
  (j7 (jw 5 (jz jkk [(cV 0),(cV 2)]))
  (j7 (sIf (tAnd (tE (cF2 (f2First fIsNon) (vV 3) (vE (cC .non)))) (tE (cF2 (f2First fIsNon) (vV 4) (vE (cC .non))))) (jx (cF2 (f2First fIsNon) (vV 5) (vE (cC .non)))) qj)
  (j7 (sIf (tOr (tNot (tEQ (vE (cF1 (pu1 (vw "tuple")) (vV 5))))) (tOr (tNot (tEQ (vE (jz m__law_whole [(cH (jk (vV 5) (C9 0)))])))) (tNot (tE (Q2 fLe fLt (C9 0) (jk (vV 5) (C9 0)) (vE (cF1 (pu1 qw) (vV 1)))))))) (jx (cC (.bl false))) qj)
  (j7 (jw 6 (cF2 kY (vE (jz jqn [(cV 3)])) (vE (cLC .rt 1 [3] (itS (jz jqn [(cV 4)])) (.n 0) (tE (cF2 (pu2 Jq) (vV 0) (vE (jz jqn [(cV 1)])))) (cV 0)))))
  (jx (vQ (vE (cF2 (pu2 fEq) (jk (vV 1) (jk (vV 5) (C9 0))) (vE (jz m__law_pair [(cV 3),(cV 4)])))) (cF2 (pu2 fEq) (vE (cF1 Q4 (jk (vV 5) (C9 1)))) (vV 6))))))))
def jqb:Fn:=fn 3
  (V8 ["TooGreat"] (jx (qkj m_joined [(cV 0),(cV 1),(cV 2)])) (jx (cC .non)))
noncomputable def jq2:Fn:=fn 13
  (j7 (jw 4 (jz jqb [(cV 0),(cV 1),(cV 2)]))
  (j7 (sIf (tE (cF2 (f2First fIsNon) (vV 4) (vE (cC .non)))) (jx (cC (.bl true))) qj)
  (j7 (Zq [5,6] (cV 4))
  (j7 (sIf (tOr (tE (cF2 (pu2 qzb) (vE (jz jxx [(cV 5)])) (vE (cC (.bl true))))) (tOr (tE (cF2 (pu2 fNe) (vE (cF1 (pu1 qw) (jk (vV 5) (C9 1)))) (vE (cF1 (pu1 qw) (vV 6))))) (tE (cF2 (pu2 fGt) (vE (cF1 (pu1 qw) (vV 6))) (C9 40))))) (jx (cC (.bl false))) qj)
  (j7 (vZ (itS (cV 3)) (.n 7) (vZ (xv (vE (cF2 kY (vE (cF1 (pu1 qw) (vV 7))) (C9 1)))) (.n 8) (j7 (jw 9 (jz jkb [(cV 1),(cSl (vV 7) none (some (vV 8)))]))
  (j7 (jw 10 (jz jkb [(cV 2),(cSl (vV 7) none (some (vV 8)))]))
  (j7 (jw 11 (jz kjb [(cV 0),(jz jvb [(cV 1),(cV 9)]),(jz jvb [(cV 2),(cV 10)])]))
  (j7 (jw 12 (jz jvl [(cV 5),(cSl (vV 7) none (some (vV 8)))]))
  (j7 (sIf (tOr (tNot (tEQ (vE (cF1 (pu1 (vw "bool")) (vV 12))))) (tE (cF2 (pu2 fNe) (vV 12) (vV 11)))) (jx (cC (.bl false))) qj)
  (sIf (tAnd (tE (cF2 (pu2 fEq) (vE (cF2 (pu2 qx) (vV 8) (C9 4))) (C9 3))) (tNot (tEQ (vE (jz jqa [(cV 5),(cV 6),(cSl (vV 7) none (some (vV 8))),(cV 9),(cV 10)]))))) (jx (cC (.bl false))) qj))))))))
  (jx (cC (.bl true))))))))
noncomputable def m_law:Fn:=fn 10
  (j7 (jw 1 (jz m__law_signs [(jz m__law_cell_at [(cV 0),(cC (.int 0))])]))
  (j7 (jw 2 (jz m__law_plain [(jz m__law_cell_at [(cV 0),(cC (.int 1))]),(cV 1)]))
  (j7 (jw 3 (jz m__law_plain [(jz m__law_cell_at [(cV 0),(cC (.int 2))]),(cV 1)]))
  (j7 (jw 4 (jz jwn [(jz m__law_cell_at [(cV 0),(cC (.int 3))]),(cF2 kY (C9 1) (vE (cF2 (pu2 qx) (vE (jz m__law_cell_at [(cV 0),(cC (.int 4))])) (C9 7))))]))
  (j7 (jw 5 (jz jva [(cV 1),(cV 4),(cSl (vV 0) (some (C9 5)) (some (C9 45)))]))
  (j7 (jw 6 (cF2 (pu2 qx) (vE (cF2 (pu2 xq) (vE (jz m__law_cell_at [(cV 0),(cC (.int 4))])) (C9 7))) (C9 4)))
  (j7 (jw 7 (v9 .rt [(cC (.str "both")),(cC (.str "either")),(cC (.str "first")),(cC (.str "one"))]))
  (j7 (vZ (xv (C9 4)) (.n 8) (j7 (jw 9 (cV 5))
  (j7 (sIf (tE (cF2 (pu2 fGt) (vV 8) (C9 0))) (jw 9 (cSl (vV 5) none (some (C9 1)))) qj)
  (sIf (tNot (tEQ (vE (jz jq2 [(cH (jk (vV 7) (vE (cF2 (pu2 qx) (vE (cF2 kY (vV 6) (vV 8))) (C9 4))))),(cV 2),(cV 3),(cV 9)])))) (jx (cC (.bl false))) qj))))
  (jx (cC (.bl true)))))))))))
end Nk62
namespace Nk62
open Q PySem C B
open W3 (Sg chr)
abbrev AZ:Str:="abcdefghijklmnopqrstuvwxyz"
def wdC(w1 w2:Str)(v:Int)(k:Nat):Str:=w1++#[(List.toArray [chr (v+k)])]++w2
theorem jxr(w1 w2) v k:(wdC w1 w2 v k).cps.toList=w1.cps.toList++(chr (v+k)::w2.cps.toList):=by
 unfold wdC;rw[A.list_app,A.list_app,Xk];rfl
theorem xkj{t u}(h0:0<=t)(h1:t<u)(g1:u<26):chr t<chr u:=by
 have h:∀i,∀j:Fin 26,i<j->W3.AZ.cps.toList.getD i 0<W3.AZ.cps.toList.getD j 0:=by decide +kernel
 exact h #[t.toNat,⋯] #[u.toNat,⋯] (by show t.toNat<u.toNat;lia)
theorem xja:∀{l r s} {x y:Nat},x<y->l++x::r<=l++y::s
 |[],_,_,_,_,h=>List.cons_le_cons_iff.mpr (.inl h)|_::l,_,_,_,_,h=>List.cons_le_cons_iff.mpr (.inr #[rfl,xja h])
theorem vv8:∀(l ah:List Str),(ah++l).Nodup->l.foldl (λl k=>if l.any (· == k)then l else l++[k]) ah=ah++l
 | [],ah,_=>by simp
 | k::l,ah,h=>by
  rw[Ze,Xg (λhh=>by
   obtain⟨y,hy,e⟩:=List.any_eq_true.mp hh;rw[eq_of_beq e]at hy;exact(λhm=>(List.nodup_append.mp h).2.2 k hm k X6 rfl) hy),vv8 l _ (by rw[Xk];exact h),Xk]
  rfl
theorem qx4{w1 w2}{v:Int}{n:Nat}(v0:0<=v)(v1:v+n<=26):Jv (ddS ((List.range n).map (wdC w1 w2 v)))=(List.range n).map (wdC w1 w2 v):=by
 have lt:∀{i j},i<j->j<n->chr (v+i)<chr (v+j):=λh1 h2=>xkj ⋯ ⋯ ⋯
 have nd:((List.range n).map (wdC w1 w2 v)).Nodup:=W3.nodup_map λi j mz hj e=>by
  have e:(wdC w1 w2 v i).cps.toList=(wdC w1 w2 v j).cps.toList:=by rw[e]
  rw[jxr,jxr]at e;have e:=List.append_cancel_left e;have:=lt mz hj;lia
 rw[show ddS _=_ from vv8 _ [] nd];refine List.Perm.eq_of_pairwise (λa b _ _ h1 h2=>qwe h1 h2) kx7 ?_ (jvz _);rw[List.pairwise_map];refine List.pairwise_lt_range.imp_of_mem λ_ hj c8=>leS_iff.mpr ?_
 rw[jxr,jxr];exact xja (lt c8 (List.mem_range.mp hj))
theorem wkk{z i}(h0:0<=i)(h1:i<=z.cps.size):(Txt.slice z (some i) none).cps.toList=z.cps.toList.drop i.toNat:=by
 have:=StrLaws.sliceText_from #[h0,h1];rw[show Txt.slice z _ none=StrLaws.sliceText z _ none from rfl,this,List.take_of_length_le];rw[Zk];lia
theorem wwq{w1 w2}{v:Int}{k:Nat}(hs:w1.cps.size+w2.cps.size<=7)(h1:∀x∈w1.cps.toList,x∈W3.AZ.cps.toList)(h2:∀x∈w2.cps.toList,x∈W3.AZ.cps.toList)(v0:0<=v)(v1:v+k<26):Sg (wdC w1 w2 v k):=by
 have hz:(wdC w1 w2 v k).cps.size=w1.cps.size+w2.cps.size+1:=by
  rw[<-Xm,jxr,Xf,Xv,Xm,Xm];lia
 refine#[⋯,⋯,λx hx=>?_];rw[jxr]at hx;rcases aA hx with hx|hx
 ·exact h1 x hx
 ·rcases aD hx with rfl|hx
  ·exact(W3.ix_az ⋯ v1).2
  ·exact h2 x hx
theorem ww0:m__law_signs=B.m__law_signs:=rfl
inductive SgI (c:Int)(xs:List Int)(z w1 w2:Str)(a v m:Int):En->List D->Prop
 |mk {j:Nat} {l6:Option Sd} {o1 o3:Own}:(j:Int)<=m->SgI c xs z w1 w2 a v m [some (.no,.int c),some (o1,.str "abcdefghijklmnopqrstuvwxyz"),some (.rt,iL xs),some (o3,.str z),some (.dp,.int a),some (.rt,sL ((List.range j).map (wdC w1 w2 (v % 24)))),l6] (qk j m)
theorem vwm(c):Oo B.m__law_signs [(.no,.int c)] (λy=>∃ss,y=(.rt,sL ss)/\1<=ss.length/\ss.length<=3/\(∀z∈ss,Sg z)/\Jv (ddS ss)=ss) noX:=by
 have m0:=Yh c (show(8:Int)≠0 by decide);have m1:=Y5 c (show(0:Int)<8 by decide);unfold B.m__law_signs;refine k7 ?_;simp![];refine(kzv c 9 ⋯ ⋯).use ?_;intro xs hx;have hxl:=hx.1;simp![↓wwr];have jo:∀o,o≠.dp->fSl (o,iL xs) none (some (1+c % 8))=some (.rt,iL (xs.take (1+c % 8).toNat)):=λo ho=>by
  rw[show iL xs=.lst (xs.map D.int)from rfl,Zx ho,vvb ⋯ (by rw[X3];lia),<-List.map_take]
 refine zW [some (.dp,.str "abcdefghijklmnopqrstuvwxyz")] (λ_ y=>∃ch∈W3.AZ.cps.toList,y.2=.str #[(List.toArray [ch])]) ?_;simp![jo .no ⋯,jo .rt ⋯];refine#[rfl,λd hd=>?_,λys hys=>?_]
 ·obtain⟨t,ht,rfl⟩:=aE hd;obtain⟨hc,hm⟩:=W3.ix_az (t:=t % 26) (Yh t (show(26:Int)≠0 by decide)) (Y5 t (show(0:Int)<26 by decide));simp![hc];exact#[#[_,rfl],_,hm,rfl]
 obtain⟨ps,h1,h2,h3⟩:=A.each_one (λd y h=>h) hys;have bq:ps.length=(1+c % 8).toNat:=by rw[h2,X3,Yp];lia
 obtain⟨z,hz,z0,z1⟩:=A.join_az h3 ⋯;rw[vW,h1];simp only[back,clr,at',List.map_cons,List.map_nil,List.set_cons_zero,List.set_cons_succ];have ak:qw (.str z)=some (.int z.cps.size):=rfl;have a0:=Yh (c / 8) (show(z.cps.size:Int)≠0 by lia);have a1:=Y5 (c / 8) (show(0:Int)<z.cps.size by lia);simp![hz,ak,mod_i (a:=c / 8) (b:=(z.cps.size:Int)) ⋯];generalize c / 8 % (z.cps.size:Int)=a at a0 a1;obtain⟨m,em,mm0,mm1⟩:∃m,jQ (.lst [.int 1,.int 2,.int 1,.int 2,.int 2,.int 1,.int 2,.int 3]) (.int (c / 64 % 8))=some (.int m)/\1<=m/\m<=3:=by
  have q0:=Yh (c / 64) (show(8:Int)≠0 by decide);have q1:=Y5 (c / 64) (show(0:Int)<8 by decide);generalize c / 64 % 8=t at q0 q1;have:t=0\/t=1\/t=2\/t=3\/t=4\/t=5\/t=6\/t=7:=⋯
  rcases this with rfl|rfl|rfl|rfl|rfl|rfl|rfl|rfl<;>exact#[_,rfl,⋯,⋯]
 obtain⟨v,ev,_⟩:=ixI xs _ hx.2 8 ⋯ ⋯;have u0:=Yh v (show(24:Int)≠0 by decide);have u1:=Y5 v (show(0:Int)<24 by decide);have e1:=W3.sl_to (z:=z) (j:=a) a0 ⋯;have e2:=wkk (z:=z) (i:=a+1) ⋯ ⋯;have s1:=λo=>xqs (o:=o) (z:=z) (lo:=none) (hi:=some a) ⋯
 have s2:=λo=>xqs (o:=o) (z:=z) (lo:=some (a+1)) (hi:=none) ⋯
 generalize Txt.slice z none (some a)=w1 at e1 s1;generalize Txt.slice z (some (a+1)) none=w2 at e2 s2;have n1:(w1.cps.size:Int)=a:=by rw[<-Xm,e1,Yp,Xm];lia
 have n2:(w2.cps.size:Int)=z.cps.size - (a+1):=by rw[<-Xm,e2,Zk,Xm];lia
 have v1:∀x∈w1.cps.toList,x∈W3.AZ.cps.toList:=λx hx=>z1 x (by rw[e1]at hx;exact List.mem_of_mem_take hx)
 have v2:∀x∈w2.cps.toList,x∈W3.AZ.cps.toList:=λx hx=>z1 x (by rw[e2]at hx;exact List.mem_of_mem_drop hx)
 refine z8 (SgI c xs z w1 w2 a v m) ?_ ?_ ?_
 ·simp![em];exact .mk (j:=0) ⋯
 ·intro E d ds hh;generalize b7:d::ds=dd at hh;cases hh with
  |@mk j l6 o1 o3 j1=>
  obtain⟨hj,rfl,rfl⟩:=Kv j1 b7;have jt:((#[(List.toArray [chr (v % 24+j)])]:Str).cps.size)=1:=rfl;simp![];refine Q3 rfl ?_;simp![s1,s2,ev,((W3.ix_az (t:=v % 24+j) ⋯ ⋯).1),(qwz (o1:=.no) (o2:=.no) (a:=w1) (b:=#[(List.toArray [chr (v % 24+j)])]) (by rw[jt];lia)),(qwz (o1:=.no) (o2:=.no) (a:=w1++#[(List.toArray [chr (v % 24+j)])]) (b:=w2) (by rw[vwl,jt];lia)),(qwz (o1:=.no) (o2:=sub o1) (a:=w1) (b:=#[(List.toArray [chr (v % 24+j)])]) (by rw[jt];lia))];refine#[_,rfl,by rw[X3,X3,Xz];lia,?_];rw[show((List.range j).map (wdC w1 w2 (v % 24))).map D.str++[D.str (w1++#[(List.toArray [chr (v % 24+j)])]++w2)]=((List.range (j+1)).map (wdC w1 w2 (v % 24))).map D.str by rw[List.range_succ,Xh,Xh];rfl];exact .mk (j:=j+1) ⋯
 ·intro E hh;generalize b7:([]:List D)=dd at hh;cases hh with
  |@mk j l6 o1 o3 j1=>
  have:=Vv j1 b7;simp![];refine#[_,rfl,by rw[X3,Xz];lia,by rw[X3,Xz];lia,λw hw=>?_,qx4 ⋯ ⋯];obtain⟨k,hk,rfl⟩:=aE hw;have:=List.mem_range.mp hk;exact wwq ⋯ v1 v2 ⋯ ⋯
open W3 (Sg)
abbrev Yes(f:Fn)(xs:List Sd):Prop:=Oo f xs (λy=>∃o':Own,y=(o',.bl true)/\True) noX
theorem WJ(ds:List D):K9 (.lst (ds.map λ_=>D.bl true))=some (.bl true):=by
 rw[J.all_is _];simp
theorem bk(E:En):back [] [] (clr [] E)=E:=rfl
theorem qvd{i n}(h0:0<=i)(h1:i<n):Yes jqz [(.no,.int i),(.no,.int n)]:=by
 have i1:vw "int" (.int i)=some (.bl true):=rfl;have i2:vw "bool" (.int i)=some _:=rfl;refine k7 ?_;simp![];refine Oo.use (S:=λ_=>True) (g:=λo':Own=>(o',.bl true)) (k7 ?_) ?_
 ·simp![i1,i2];exact#[_,rfl,trivial]
 intro _ _;simp![Xj h0,Xj h1];exact#[_,rfl,trivial]
theorem kx0{ds n}(h:(ds.length:Int)=n):Yes Wx [(.no,.tup ds),(.no,.int n)]:=by
 have i1:vw "tuple" (.tup ds)=some (.bl true):=rfl;have l:qw (.tup ds)=some _:=rfl;have e:fEq (.int ds.length) (.int n)=some (.bl true):=by rw[h,Wv];simp
 refine k7 ?_;simp![i1,e];exact#[_,rfl,trivial]
theorem wjg{ds n}(h:(ds.length:Int)=n):Yes jqr [(.no,.lst ds),(.no,.int n)]:=by
 have i1:vw "list" (.lst ds)=some (.bl true):=rfl;have e:fEq (.int ds.length) (.int n)=some (.bl true):=by rw[h,Wv];simp
 refine k7 ?_;simp![i1,e];exact#[_,rfl,trivial]
theorem xw7:∀c∈AZ.cps.toList,xka #[(List.toArray [c])] AZ=true:=by decide +kernel
theorem wxb{z}(h:Sg z):Yes kja [(.no,.str z)]:=by
 obtain⟨h1,h8,h3⟩:=h;have i1:vw "str" (.str z)=some (.bl true):=rfl;have l:qw (.str z)=some (.int z.cps.size):=rfl;have e1:fLe (.int 1) (.int z.cps.size)=some (.bl true):=by rw[le_ii];simp;lia
 have e2:fLe (.int z.cps.size) (.int 8)=some (.bl true):=by rw[le_ii];simp;lia
 have hb:z.cps.size<=big:=by unfold big;lia
 refine k7 ?_;simp![i1,l,e1,e2];refine zW [] (λd y=>y.2=.bl true) ?_;simp![hb];refine#[λd hd=>?_,λys hy=>?_]
 ·obtain⟨c,hc,rfl⟩:=aE hd;have e:Jj (.str #[(List.toArray [c])]) (.str "abcdefghijklmnopqrstuvwxyz")=some (.bl true):=by
   show some (D.bl (xka #[(List.toArray [c])] AZ))=_;rw[xw7 c (h3 c hc)]
  simp![e];exact#[#[_,rfl],trivial]
 ·rw[vW,K8 (h:=λ_=>.bl true) (λ_ _ h=>h) hy];simp![WJ];exact#[_,rfl,trivial]
theorem wkl{ss}(h1:1<=ss.length)(h3:ss.length<=3)(hg:∀z∈ss,Sg z)(hs:Jv (ddS ss)=ss):Yes jv8 [(.no,sL ss)]:=by
 have i1:vw "list" (sL ss)=some (.bl true):=rfl;have e1:fLe (.int 1) (.int ss.length)=some (.bl true):=by rw[le_ii];simp;lia
 have e2:fLe (.int ss.length) (.int 3)=some (.bl true):=by rw[le_ii];simp;lia
 have e3:Zz (.no,sL ss)=some (.rt,sL ss):=by
  unfold Zz;dsimp only;rw[qq0];dsimp only;rw[Xd ⋯,hs]
 have e4:fEq (sL ss) (sL ss)=some (.bl true):=qv3 (show D.flats 39 (ss.map D.str)=true from V0 λd hd=>by obtain⟨w,_,rfl⟩:=aE hd;rfl);unfold jv8;refine k7 ?_;simp![i1,e1,e2];refine zW [] (λd y=>y.2=.bl true) ?_;simp![];refine#[λd hd=>?_,λys hy=>?_]
 ·obtain⟨z,hz,rfl⟩:=aE hd;simp![];refine(wxb (hg z hz)).use ?_;intro _ _;exact#[#[_,rfl],rfl]
 rw[vW,K8 (h:=λ_=>.bl true) (λ_ _ h=>h) hy,bk];simp![WJ,e3,e4];exact#[_,rfl,trivial]
theorem qwm:∀is,V1 (is.map D.int)=some is
 |[]=>rfl
 |i::is=>by
  show(V1 _).map _=_;rw[qwm is];rfl
theorem wjx:∀(l ah:List Int),(ah++l).Nodup->l.foldl (λl k=>if l.any (· == k)then l else l++[k]) ah=ah++l
 | [],ah,_=>by simp
 | k::l,ah,h=>by
  rw[Ze,Xg (λhh=>by
   obtain⟨y,hy,e⟩:=List.any_eq_true.mp hh;rw[eq_of_beq e]at hy;exact(λhm=>(List.nodup_append.mp h).2.2 k hm k X6 rfl) hy),wjx l _ (by rw[Xk];exact h),Xk]
  rfl
theorem wvu{fs e many}(hl:(fs.length:Int)=many)(hm:many<=6)(hf:∀f∈fs,0<=f/\f<e)(hn:fs.Nodup):Yes jka [(.no,iT fs),(.no,.int e),(.no,.int many)]:=by
 have e1:jz0 (iT fs)=some (.int fs.length):=by
  unfold jz0;dsimp only;rw[qwm];dsimp only;rw[Xd ⋯,show ddI fs=fs from wjx fs [] hn]
 have e2:fEq (.int fs.length) (.int many)=some (.bl true):=by rw[hl,Wv];simp
 unfold jka;refine k7 ?_;simp![];refine(kx0 (ds:=fs.map D.int) (by rw[X3];exact hl)).use ?_;intro _ _;simp![];refine zW [some (.no,.int e)] (λd y=>y.2=.bl true) ?_;simp![];refine#[rfl,λd hd=>?_,λys hy=>?_]
 ·obtain⟨f,hfm,rfl⟩:=aE hd;simp![];refine(qvd (hf f hfm).1 (hf f hfm).2).use ?_;intro _ _;exact#[#[_,rfl],rfl]
 rw[vW,K8 (h:=λ_=>.bl true) (λ_ _ h=>h) hy];simp only[back,clr,at',List.map_cons,List.map_nil,List.set_cons_zero,List.set_cons_succ];simp![WJ,e1,e2];exact#[_,rfl,trivial]
theorem xjp{ks i}(h0:0<=i)(h1:i<ks.length):jQ (iL ks) (.int i)=some (.int (ks.getD i.toNat 0)):=xk h0 (by rw[X8,X2,X1 ⋯];rfl)
theorem wjz{ac e d}(hk:∀i∈ac,i<=6)(h:Cs ac e d):Yes jw3 [(.no,d),(.no,.int e),(.no,iL ac)]:=by
 have j0:∀a b:D,jQ (.tup [a,b]) (.int 0)=some a:=λ_ _=>rfl
 have j1:∀a b:D,jQ (.tup [a,b]) (.int 1)=some b:=λ_ _=>rfl
 unfold jw3;refine k7 ?_;rcases h with rfl|⟨to,fs,rfl,t0,t1,hf,hn,hl⟩
 ·simp![];exact#[_,rfl,trivial]
 ·simp![];refine(kx0 (n:=2) rfl).use ?_;intro _ _;simp![j0];refine(qvd t0 t1).use ?_;intro _ _;simp![j0,j1,xjp t0 t1];refine(wvu hl (by
   rw[X2,X1 ⋯];exact hk _ (Xu _)) hf hn).use ?_
  intro _ _;exact#[_,rfl,trivial]
theorem ww6{ac own cs}(hk:∀i∈ac,i<=6)(h0:0<=own)(hl:(cs.length:Int)=own+1)(h:∀k:Nat,k<cs.length->∃z,cs[k]?=some z/\Cs ac (xX own k) z):Yes jv9 [(.no,.lst cs),(.no,.int own),(.no,iL ac)]:=by
 have nr:∀o,o≠.dp->fSl (o,.lst cs) none (some own)=some (.rt,.lst (cs.take own.toNat)):=λo ho=>by
  rw[Zx ho,vvb h0 ⋯]
 obtain⟨zl,ez,hz⟩:=h own.toNat ⋯;have ig:jQ (.lst cs) (.int own)=some zl:=xk h0 ez;rw[show((own.toNat:Nat):Int)=own by lia]at hz;unfold jv9;refine k7 ?_;simp![];refine(wjg hl).use ?_;intro _ _;simp![];refine zW [some (.no,.int own),some (.no,iL ac)] (λd y=>y.2=.bl true) ?_;simp![nr .no ⋯,nr .rt ⋯];refine#[rfl,λd hd=>?_,λys hy=>?_]
 ·obtain⟨i,hi,rfl⟩:=Z4 hd;rw[Yp]at hi;obtain⟨z,e,hc⟩:=h i ⋯;rw[List.getElem_take];rw[X1 ⋯]at e;cases e;unfold xX at hc;rw[Xg ⋯,Int.add_zero]at hc;simp![];refine(wjz hk hc).use ?_;intro _ _;exact#[#[_,rfl],rfl]
 rw[vW,K8 (h:=λ_=>.bl true) (λ_ _ h=>h) hy];simp only[back,clr,at',List.map_cons,List.map_nil,List.set_cons_zero,List.set_cons_succ];unfold xX at hz;rw[Xd rfl]at hz;simp![WJ,ig];refine(wjz hk hz).use ?_;intro _ _;exact#[_,rfl,trivial]
theorem wki{ac own n st}(hk:∀i∈ac,i<=6)(h0:0<=own)(h:Cas ac n own st):Yes jko [(.no,.lst st),(.no,.int n),(.no,.int own),(.no,iL ac)]:=by
 refine k7 ?_;simp![];refine(wjg (show(st.length:Int)=n by rw[h.1])).use ?_;intro _ _;simp![];refine zW [some (.no,.int own),some (.no,iL ac)] (λd y=>y.2=.bl true) ?_;simp![];refine#[rfl,λd hd=>?_,λys hy=>?_]
 ·obtain⟨cs,rfl,hl,hz⟩:=h.2 d hd;refine(ww6 hk h0 hl hz).use ?_;intro _ _;exact#[#[_,rfl],rfl]
 rw[vW,K8 (λ_ _ h=>h) hy];simp![WJ];exact#[_,rfl,trivial]
theorem wvs{k b c}(h0:0<=k)(h6:k<=6):Yes jkn [(.no,.tup [.int k,.bl b,c])]:=by
 have j0:∀a b c,jQ (.tup [a,b,c]) (.int 0)=some a:=λ_ _ _=>rfl
 have j1:∀a b c,jQ (.tup [a,b,c]) (.int 1)=some b:=λ_ _ _=>rfl
 have i1:vw "bool" (.bl b)=some (.bl true):=rfl;refine k7 ?_;simp![];refine(kx0 rfl).use ?_;intro _ _;simp![j0];refine(qvd h0 (show k<6+1 by lia)).use ?_;intro _ _;simp![j1,i1];exact#[_,rfl,trivial]
theorem wkt{ac n rs}(hP:Prs ac n rs)(hk:∀p∈ac,0<=p/\p<=6)(k0:ac[0]?=some 0)(hl:ac.length<=200):Yes jk9 [(.no,.lst rs),(.no,.int n)]:=by
 have j0:∀a b c,jQ (.tup [a,b,c]) (.int 0)=some a:=λ_ _ _=>rfl
 have j2:∀a b c,jQ (.tup [a,b,c]) (.int 2)=some c:=λ_ _ _=>rfl
 have h1:1<=ac.length:=(List.getElem?_eq_some_iff.mp k0).1;have hrl:=hP.1;have gf:∀d∈rs,∃(k:Int) (g:Bool) (st:List D),d=.tup [.int k,.bl g,.lst st]/\0<=k/\k<=6/\Cas ac n k st:=λd hd=>by
  obtain⟨i,hi,e⟩:=Z4 hd;obtain⟨r,e',g,st,e2,hs⟩:=hP.2 i ⋯;rw[X1 hi,e]at e';cases oq9 e';have hm:ac.getD i 0∈ac:=by rw[X2,X1 ⋯];exact Xu _
  exact#[_,g,st,e2,(hk _ hm).1,(hk _ hm).2,hs]
 have i1:vw "list" (.lst rs)=some (.bl true):=rfl;have e1:fLe (.int 1) (.int rs.length)=some (.bl true):=by rw[le_ii];simp;lia
 have e2:fLe (.int rs.length) (.int 200)=some (.bl true):=by rw[le_ii];simp;lia
 have e3:jQ (iL ac) (.int 0)=some (.int 0):=by
  rw[xjp ⋯ ⋯,X2,show Int.toNat 0=0 from rfl,k0];rfl
 have e4:fEq (.int 0) (.int 0)=some (.bl true):=rfl;unfold jk9;refine k7 ?_;simp![i1,e1,e2];refine zW [] (λd y=>y.2=.bl true) ?_;simp![];refine#[λd hd=>?_,λys hy=>?_]
 ·obtain⟨k,g,st,rfl,a,b,_⟩:=gf d hd;simp![];refine(wvs a b).use ?_;intro _ _;exact#[#[_,rfl],rfl]
 rw[vW,K8 (h:=λ_=>.bl true) (λ_ _ h=>h) hy,bk];simp![WJ];refine zW [] (λd y=>y.2=.int (J.keyI d)) ?_;simp![];refine#[λd hd=>?_,λys hy=>?_]
 ·obtain⟨k,g,st,rfl,_⟩:=gf d hd;simp![j0];exact#[#[_,rfl],rfl]
 have ek:(rs.map λd=>D.int (J.keyI d))=ac.map D.int:=by
  refine Zi λi=>?_
  rw[X8,X8]
  by_cases hi:i<ac.length
  ·obtain⟨r,e,g,st,rfl,_⟩:=hP.2 i hi;rw[e,X1 hi,X2,X1 hi];rfl
  ·rw[Xy ⋯,Xy ⋯];rfl
 rw[vW,K8 (h:=λd=>.int (J.keyI d)) (λ_ _ h=>h) hy,bk,ek];simp![e3,e4];refine Qw (λ_ B ds ah=>∃(o:Own) (q:Option Sd) (d1:List D),B=[q,some (.no,.int n),some (o,iL ac)]/\rs=d1++ds/\ah.map (·.2)=d1.map λ_=>D.bl true) ?_ ?_ ?_
 ·simp![];exact#[.rt,_,[],rfl,rfl,rfl]
 ·rintro E1 B d ds ah ⟨o,q,d1,rfl,e,ha⟩;obtain⟨k,g,st,rfl,a,b,hc⟩:=gf d (by rw[e];simp);simp![j0,j2];refine(wki (λi hi=>(hk i hi).2) a hc).use ?_;intro _ _;refine#[.no,_,d1++[.tup [.int k,.bl g,.lst st]],rfl,by rw[e];simp,?_];rw[Xh,ha,Xh];rfl
 ·rintro E1 B ah ⟨o,q,d1,rfl,e,ha⟩;rw[vW,ha];simp![WJ];exact#[_,rfl,trivial]
theorem wqn{ac ss rs}(h1:1<=ss.length)(h3:ss.length<=3)(hg:∀z∈ss,Sg z)(hs:Jv (ddS ss)=ss)(hP:Prs ac ss.length rs)(hk:∀p∈ac,0<=p/\p<=6)(k0:ac[0]?=some 0)(hl:ac.length<=200):Yes jxx [(.no,jK ss rs)]:=by
 have j0:∀a b,jQ (.tup [a,b]) (.int 0)=some a:=λ_ _=>rfl
 have j1:∀a b,jQ (.tup [a,b]) (.int 1)=some b:=λ_ _=>rfl
 refine k7 ?_;simp![];refine(kx0 (n:=2) rfl).use ?_;intro _ _;simp![j0];refine(wkl h1 h3 hg hs).use ?_;intro _ _;simp![j0,j1];refine(wkt hP hk k0 hl).use ?_;intro _ _;exact#[_,rfl,trivial]
end Nk62
namespace Nk62
open Q PySem C B J U
open W3 (Sg)
section
variable {N Cc:En->Prop}{R:Sd->Prop}{X:XP}{E:En}{e:Option Sd}
theorem wka{cs f as h}:Po (V8 cs (jx (qkj f as)) h (e::E)) N Cc R X =
  Eo (vq as (e::E)) (λE xs=>Ox f (letAll xs) E (λ_ y=>R y) (λE c=>c∈cs/\Po (h E) N Cc R noX)) noX:=by
 unfold V8 jx qkj;cases vq as _ with
 | none=>ac_rfl
 | some r=>
  cases r with
  | exc E1 c=>ac_rfl
  | ok E1 xs=>
   rw [Qj];unfold Ox Oo;dsimp only;cases f _ with
   | none=>ac_rfl
   | some r=>
    cases r with
    | ok E2 y=>ac_rfl
    | exc E2 c=>
     dsimp only[ofE]
     by_cases hc:c∈cs
     ·rw[Xd hc];cases h E1 with|none=>with_unfolding_all exact propext #[λz=>#[hc,z],λz=>z.2]|some r=>cases r<;>with_unfolding_all exact propext #[λz=>#[hc,z],λz=>z.2]
     ·rw[Xg hc]
      with_unfolding_all exact propext #[λz=>(z).elim,λz=>absurd z.1 hc]
end
theorem xkd:m__law_cell_at=B.m__law_cell_at:=rfl
theorem ww1:m__law_plain=B.m__law_plain:=rfl
theorem xx7:m__law_read=B.m__law_read:=rfl
theorem xkb:m__law_pair=B.m__law_pair:=rfl
theorem wvz:m__law_whole=B.m__law_whole:=rfl
theorem e_by:kjb=J.m_is_good_by:=rfl
theorem xqc:m_joined=J.m_joined:=rfl
theorem xkc:jvl=C.plets:=rfl
theorem vz6:jkk=C.stands:=rfl
theorem sn:stn none=.non:=rfl
theorem ssn s:stn (some s)=.tup [.int s.1,iT s.2]:=rfl
theorem xvo(a b):fNe (.bl a) (.bl b)=some (.bl (!(a==b))):=by cases a<;>cases b<;>rfl
section
variable {ac kps':List Int}{ss:List Str}{rs rs':List D}
theorem qw9{S}(z)(c)(hP:Prs ac ss.length rs)(hk:∀p∈ac,0<=p/\p<=3)(hS:kW ac S)(hz:S=none\/(ss.any λw=>w==z)=true):
  Oo B.m__law_read [(.no,jK ss rs),(.no,stn S),(.no,.str z),(.no,.int c)] (λy=>∃o',y=(o',stn (rdF ss rs S z c))/\True) noX:=by
 cases S with
 |none=>
  refine k7 ?_;simp![sn];exact#[_,rfl,trivial]
 |some s=>
  obtain⟨r0,r1,hl⟩:=hS s.1 s.2 rfl;obtain⟨r,er,gd,st,rfl,hc⟩:=hP.2 s.1.toNat ⋯;rw[<-hl]at er hc;have h3:=Qx hk hS;have h3:s.2.length<=3:=h3;have e:=wky (Kk z c hP hk hS).1 (.inr #[s.1,s.2,st,_,_,rfl,r0,er,hc,⋯,rfl]);refine(vwr r0 er hc ⋯ (hz.resolve_left (λh=>nomatch h))).mono ?_;rintro ⟨o,d⟩ h;exact#[o,by rw[e];cases(show d=_ from h);rfl,trivial]
theorem qvy(L:Lw)(x:Str×Int):U.run ss rs S0 (L++[x])=rdF ss rs (U.run ss rs S0 L) x.1 x.2:=by unfold U.run;rw[List.foldl_append];rfl
theorem vzq{L}(h0:ac[0]?=some 0)(hP:Prs ac ss.length rs)(hk:∀p∈ac,0<=p/\p<=3):Oo jkb [(.no,jK ss rs),(.no,.lst (qJ L))] (λy=>∃o',y=(o',stn (U.run ss rs S0 L))/\True) noX:=by
 unfold jkb;refine k7 ?_;simp![];refine z8 (λE am=>∃(o2:Own) (L1 L2:Lw) (l3 l4:Option Sd),E=[some (.no,jK ss rs),some (.no,.lst (qJ L)),some (o2,stn (U.run ss rs S0 L1)),l3,l4]/\L=L1++L2/\am=qJ L2) ?_ ?_ ?_
 ·simp![];exact#[_,[],L,_,_,rfl,rfl,rfl]
 ·rintro E d ds ⟨o2,L1,L2,l3,l4,rfl,e,hr⟩;cases L2 with
  | nil=>cases hr
  | cons x L2=>
   injection hr with e1 e2;subst e1 e2;have e':L=(L1++[x])++L2:=by rw[e,Xk];rfl
   cases hz:(ss.any λw=>w==x.1)with
   |false=>
    simp![p0,vkt,hz];refine(qw9 (S:=none) x.1 x.2 hP hk (λ_ _ h=>nomatch h) (.inl rfl)).use ?_;rintro o' _;rw[kxi hz,show none=U.run ss rs S0 (L1++[x])by rw[qvy,kxi hz]];exact#[o',L1++[x],L2,_,_,rfl,e',rfl]
   |true=>
    simp![p0,vkt,hz];refine(qw9 x.1 x.2 hP hk ((vzp hP hk L1 (vwb (kps':=ac) h0 h0).a).2) (.inr hz)).use ?_;rintro o' _;rw[<-qvy];exact#[o',L1++[x],L2,_,_,rfl,e',rfl]
 ·rintro E ⟨o2,L1,L2,l3,l4,rfl,e,hr⟩;cases L2 with
  |cons=>cases hr
  |nil=>
   rw[Xw]at e;subst e;simp![];exact#[_,rfl,trivial]
theorem kv2{S}(hP:Prs ac ss.length rs)(hS:kW ac S):Oo jvb [(.no,jK ss rs),(.no,stn S)] (λy=>∃o',y=(o',.bl (gdF rs (rmO S)))/\True) noX:=by
 refine k7 ?_;cases S with
 |none=>
  simp![sn];exact#[_,rfl,trivial]
 |some s=>
  obtain⟨r0,r1,hl⟩:=hS s.1 s.2 rfl;obtain⟨kp,st,e⟩:=vqt (kd:=iT s.2) hP r0 r1;have j1:∀a b c,jQ (.tup [a,b,c]) (.int 1)=some b:=λ_ _ _=>rfl
  have hg:W8 rs (.tup [.int s.1,iT s.2])=gdF rs (rmO (some s)):=wvr hS;rw[hg]at e;simp![ssn,p0,p1,e,j1];exact#[_,rfl,trivial]
theorem kzb a:Oo jqn [(.no,stn a)] (λy=>∃_:Unit,y=(.rt,iL (nms a))/\True) noX:=by
 refine k7 ?_;cases a with
 |none=>
  simp![sn];exact#[(),rfl,trivial]
 |some s=>
  simp![ssn,p1,qwb (o:=.no) ⋯];exact#[(),rfl,trivial]
theorem wjc{p ks}:Jq (.int p) (iL ks)=some (.bl (!(ks.any λw=>w==p))):=by
 show QQ _ _=_;unfold QQ;have:fIn _ (iL ks)=some (.bl (ks.any λw=>w==p)):=in_i;rw[this];rfl
theorem qzw i:Oo m__law_whole [(.no,.int i)] (λy=>∃o',y=(o',.bl true)/\True) noX:=qzx i
theorem xk7{n} ks:(iL ks).flat (n+2)=true:=by
 exact V0 λd hd=>by obtain⟨w,_,rfl⟩:=aE hd;rfl
theorem qxb{w K aa L}(h0:ac[0]?=some 0)(lh:kps'[0]?=some 0)(hP:Prs ac ss.length rs)(hk:∀p∈ac,0<=p/\p<=3)(az:Prs kps' ss.length rs')(av:Kq9 kps')(m:Made ac kps' w ss rs rs' K aa){a b:Sn}(t:Two ac kps' a b)(fy:Inn K (a,b))(gy:Ch2 (wQ rs rs' K) ss aa st0 L (vj K (a,b))):
  Oo jqa [(.no,jK ss aa),(.no,.lst K),(.no,.lst (qJ L)),(.no,stn a),(.no,stn b)] (λy=>∃o',y=(o',.bl true)/\True) noX:=by
 unfold jqa;rw [vz6,wvz,xkb];generalize hR:j7 (sIf (tOr _ _) _ _) _=R;refine k7 ?_;simp![];refine(kzw gy).via ?_;rintro ⟨o,d⟩ e;cases(show d=_ from e)
 by_cases hn:rmO a=-1/\rmO b=-1
 ·have ea:=W4 t.a hn.1;have eb:=W4 t.b hn.2;subst ea eb;have ef:vj K (none,none)=.non:=rfl;simp![sn,ef];exact#[_,rfl,trivial]
 have hm:jX a b∈K:=fy.resolve_left hn;have hi:=Yr hm;have ef:vj K (a,b)=.tup [.int (K.idxOf (jX a b):Nat),iT (jY (nms a) (nms b))]:=Xg hn;have ig:jQ (.lst K) (.int (K.idxOf (jX a b):Nat))=some (jX a b):=xk ⋯ (by rw[Xp,X1 hi,Zb]);have la:=Qx hk t.a;have lb:=Qx av t.b;have lf:=List.length_filter_le (λn=>!((nms a).any λw=>w==n)) (nms b);have i1:vw "tuple" (.tup [.int (K.idxOf (jX a b):Nat),iT (jY (nms a) (nms b))])=some (.bl true):=rfl;have c1:fLe (.int 0) (.int (K.idxOf (jX a b):Nat))=some (.bl true):=by rw[le_ii];simp
 have c2:fLt (.int (K.idxOf (jX a b):Nat)) (.int K.length)=some (.bl true):=by rw[lt_ii];simp;lia
 have q1:fEq (jX a b) (jX a b)=some (.bl true):=qv3 (vv1 _ _ _);have q2:fEq (iL (jY (nms a) (nms b))) (iL (jY (nms a) (nms b)))=some (.bl true):=qv3 (xk7 (n:=38) _);have ji:kY (.no,iL (nms a)) (.no,iL ((nms b).filter λn=>!((nms a).any λw=>w==n)))=some (.rt,iL (jY (nms a) (nms b))):=by
  rw [vvz ⋯ ⋯ (by rw[X3,X3];lia),<-Xh];rfl
 rw [ef];generalize K.idxOf (jX a b)=i at *;have key:Po (R [some (.no,jK ss aa),some (.no,.lst K),some (.no,.lst (qJ L)),some (.no,stn a),some (.no,stn b),some (o,.tup [.int (i:Nat),iT (jY (nms a) (nms b))]),none]) (λ_=>∃o':Own,((Own.dp,D.non):Sd)=(o',.bl true)/\True) (λ_=>False) (λy=>∃o':Own,y=(o',.bl true)/\True) noX:=by
  subst hR;have hl:Q4 (sub o,iT (jY (nms a) (nms b)))=some (.rt,iL (jY (nms a) (nms b))):=by
   have:qY (sub o,iT (jY (nms a) (nms b)))=true:=by
    show(_||D.pures ((jY (nms a) (nms b)).map D.int))=true;rw[jxt,Bool.or_true]
   show(if qY _=true then _ else _)=_;rw[this];rfl
  simp![i1,p0,ite_self];refine(qzw _).use ?_;intro _ _;simp![c1,c2,p0,ite_self];refine(kzb a).use ?_;intro _ _;simp![];refine Qw (λE1 B ds ah=>E1=[some (.no,jK ss aa),some (.no,.lst K),some (.no,.lst (qJ L)),some (.no,stn a),some (.no,stn b),some (o,.tup [.int (i:Nat),iT (jY (nms a) (nms b))]),none]/\∃(q:Option Sd) (n1 n2:List Int),B=[q,some (.no,stn a)]/\nms b=n1++n2/\ds=n2.map D.int/\ah.map (·.2)=(n1.filter λn=>!((nms a).any λw=>w==n)).map D.int) ?_ ?_ ?_
  ·simp![];refine(kzb b).use ?_;intro _ _;simp![];exact#[_,[],nms b,rfl,rfl,rfl,rfl]
  ·rintro E1 B d ds ah ⟨rfl,q,n1,n2,rfl,hb,b7,ha⟩;cases n2 with
   | nil=>cases b7
   | cons x n2=>
    injection b7 with e1 e2;subst e1 e2;simp![];refine(kzb a).use ?_;intro _ _;have e3:nms b=(n1++[x])++n2:=by rw[hb,Xk];rfl
    cases hx:((nms a).any λw=>w==x)with
    |true=>
     simp![wjc,hx];refine#[_,n1++[x],n2,rfl,e3,rfl,?_];rw[ha,Yc];simp[hx]
    |false=>
     simp![wjc,hx];refine#[_,n1++[x],n2,rfl,e3,rfl,?_];rw[Xh,ha,Yc];simp[hx]
  ·rintro E1 B ah ⟨rfl,q,n1,n2,rfl,hb,b7,ha⟩;cases n2 with
   |cons=>cases b7
   |nil=>
    rw[Xw]at hb;rw[vW,ha,<-hb];simp only[JK,back,clr,List.drop_succ_cons,List.drop_zero,List.set_cons_zero,List.set_cons_succ];simp![ji,p0,ig];refine(vxd a b ⋯ ⋯).via ?_;rintro y rfl;simp![q1,p1,hl,q2];exact#[_,rfl,trivial]
 cases a with
 | some s=>
  simp![ssn];exact key
 | none=>
  cases b with
  |none=>exact absurd #[rfl,rfl] hn
  |some s=>
   simp![sn,ssn];exact key
end
open W3 (Sg)
abbrev Ws:List Str:=["both","either","first","one"]
section
variable {ac kps':List Int}{ss:List Str}{rs rs':List D}{w:Str}
theorem qz6(hw:w∈Ws)(hs:ss.length<=3)(h1:1<=ac.length)(h6:ac.length<=6)(h1':1<=kps'.length)(h6':kps'.length<=6)(h0:ac[0]?=some 0)(lh:kps'[0]?=some 0)(hP:Prs ac ss.length rs)(hk:∀p∈ac,0<=p/\p<=3)(az:Prs kps' ss.length rs')(av:Kq9 kps'):
  Oo jqb [(.no,.str w),(.no,jK ss rs),(.no,jK ss rs')] (λy=>y.2=.non\/∃K aa,y.2=.tup [jK ss aa,.lst K]/\Made ac kps' w ss rs rs' K aa) noX:=by
 unfold jqb;refine k7 ?_;simp![↓wka];refine(vqi hw hs h1 ⋯ h1' ⋯ hP hk az av).ox ?_ ?_
 ·rintro y ⟨K,aa,rfl,hr,hm⟩;exact .inr #[K,aa,rfl,wv6 hP hk az av h0 lh hr hm]
 ·rintro c ⟨rfl,_⟩;refine#[⋯,?_];simp![];exact .inl trivial
theorem wks L {j}(h0:0<=j)(h1:j<=L.length) o (ho:o≠.dp):fSl (o,.lst (qJ L)) none (some j)=some (.rt,.lst (qJ (L.take j.toNat))):=by
 rw[Zx ho,vvb h0 (by rw[X3];exact h1),<-List.map_take]
inductive RtI (w:Str)(ss:List Str)(rs rs' K aa:List D)(d3:D):En->List D->Prop
 |mk {r2:List Lw} {l7 l8 l9 n9 nj m8:Option Sd} {o4:Own}:(∀L∈r2,L.length<=40)->RtI w ss rs rs' K aa d3 [some (.no,.str w),some (.no,jK ss rs),some (.no,jK ss rs'),some (.no,d3),some (o4,.tup [jK ss aa,.lst K]),some (.no,jK ss aa),some (.no,.lst K),l7,l8,l9,n9,nj,m8] (r2.map λL=>.lst (qJ L))
inductive RtJ (w:Str)(ss:List Str)(rs rs' K aa:List D)(d3:D)(o4:Own)(L:Lw):En->List D->Prop
 |mk {j:Nat} {l8 l9 n9 nj m8:Option Sd}:(j:Int)<=L.length+1->RtJ w ss rs rs' K aa d3 o4 L [some (.no,.str w),some (.no,jK ss rs),some (.no,jK ss rs'),some (.no,d3),some (o4,.tup [jK ss aa,.lst K]),some (.no,jK ss aa),some (.no,.lst K),some (.no,.lst (qJ L)),l8,l9,n9,nj,m8] (qk j (L.length+1))
theorem vwo{f9:List Lw}(hl:∀L∈f9,L.length<=40)(hw:w∈Ws)(jt:1<=ss.length)(hs:ss.length<=3)(hg:∀z∈ss,Sg z)(so:Jv (ddS ss)=ss)(h1:1<=ac.length)(h6:ac.length<=6)(h1':1<=kps'.length)(h6':kps'.length<=6)(h0:ac[0]?=some 0)(lh:kps'[0]?=some 0)(hP:Prs ac ss.length rs)(hk:∀p∈ac,0<=p/\p<=3)(az:Prs kps' ss.length rs')(av:Kq9 kps'):
  Oo jq2 [(.no,.str w),(.no,jK ss rs),(.no,jK ss rs'),(.no,.lst (f9.map λL=>.lst (qJ L)))] (λy=>∃o',y=(o',.bl true)/\True) noX:=by
 unfold jq2;rw [e_by,xkc];generalize hR:j7 (vZ _ _ _) _=R;refine k7 ?_;simp![];refine(qz6 hw hs h1 h6 h1' h6' h0 lh hP hk az av).via ?_;rintro ⟨o4,d⟩ (e|⟨K,aa,e,m⟩)
 ·cases(show d=_ from e);simp![];exact⟨_,rfl,trivial⟩
 cases(show d=_ from e);have q1:fNe (.int aa.length) (.int K.length)=some (.bl false):=by rw[m.len];exact vkv rfl
 have q2:fGt (.int K.length) (.int 40)=some (.bl false):=by rw[gt_ii,Xs (by have:=m.le;lia)]
 have q3:qzb (.bl true) (.bl true)=some (.bl false):=rfl;simp![];refine(wqn jt hs hg so (kz1 hP hk az av m) (wvd hP hk az av m) (xjg hP hk az av h0 lh m) (by unfold wQ;rw[X3];have:=m.le;lia)).use ?_;intro _ _;simp![q3,p1,q1,q2];subst hR;have t0:=vwb h0 lh;have i0:Inn K (S0,S0):=.inr (by
  have:=m.st;exact Z1 this)
 have f0:vj K (S0,S0)=st0:=by
  have hz:K.idxOf P0=0:=by
   obtain⟨r,hr⟩:∃r,K=P0::r:=by
    have:=m.st;cases K with|nil=>cases this|cons x r=>grind
   rw[hr,List.idxOf_cons_self]
  show D.tup [.int (K.idxOf P0:Nat),_]=_;rw [hz];rfl
 simp![];refine z8 (RtI w ss rs rs' K aa (.lst (f9.map λL=>.lst (qJ L)))) ?_ ?_ ?_
 ·simp![];exact .mk hl
 ·intro E d ds hh;generalize b7:d::ds=dd at hh;cases hh with
  | @mk r2 l7 l8 l9 n9 nj m8 o4 kt=>
  cases r2 with
  | nil=>cases b7
  | cons L r2=>
   injection b7 with e1 e2;subst e1 e2;have hL:=kt L X6;have rf:=λL h=>kt L (lc9 _ h)
   simp![];refine z8 (RtJ w ss rs rs' K aa (.lst (f9.map λL=>.lst (qJ L))) o4 L) ?_ ?_ ?_
   ·refine kz5 ?_;have ak:(qJ L).length=L.length:=X3 _;simp![ak];exact#[_,rfl,⋯,⋯,.mk (j:=0) ⋯]
   ·intro E d ds hh;generalize b7:d::ds=dd at hh;cases hh with
    |@mk j l8 l9 n9 nj m8 j1=>
    obtain⟨hj,rfl,rfl⟩:=Kv j1 b7;have hc:=wks L (j:=j) ⋯ ⋯ .no ⋯;rw[Xp]at hc;obtain⟨ch,fy,t⟩:=vjn hP hk az av m (L.take j) t0 i0;rw[f0]at ch;have hgd:=qza hP hk az av hw m t fy;simp![hc];refine(vzq h0 hP hk).use ?_;rintro o9 _;simp![hc];refine(vzq lh az av).use ?_;rintro o10 _;simp![];refine(kv2 hP t.a).use ?_;rintro _ _;simp![];refine(kv2 az t.b).use ?_;rintro _ _;simp![];refine good_by.use ?_;rintro o11 _;simp![hc];refine(wv8 (kz1 hP hk az av m) ch (vz2 hP hk az av m t fy)).via ?_;rintro ⟨o12,d⟩ e;rw[hgd]at e;cases(show d=_ from e);have b1:∀k,vw "bool" (.bl k)=some (.bl true):=λ_=>rfl
    have b2:∀k:Bool,fNe (.bl k) (.bl k)=some (.bl false):=λk=>by rw[xvo];simp
    have rm:qx (.int j) (.int 4)=some (.int ((j:Int) % 4)):=mod_i ⋯;generalize U.run ss rs S0 (L.take j)=a at *;generalize U.run ss rs' S0 (L.take j)=b at *
    by_cases h4:(j:Int) % 4=3
    ·have e4:fEq (.int ((j:Int) % 4)) (.int 3)=some (.bl true):=by rw[h4];rfl
     simp![b1,b2,rm,e4,hc];refine(qxb h0 lh hP hk az av m t fy ch).use ?_;rintro _ _;simp![];exact .mk (j:=j+1) ⋯
    ·have e4:fEq (.int ((j:Int) % 4)) (.int 3)=some (.bl false):=by rw[Wv,Ya h4]
     simp![b1,b2,rm,e4];exact .mk (j:=j+1) ⋯
   ·intro E hh;generalize b7:([]:List D)=dd at hh;cases hh;exact .mk rf
 ·intro E hh;generalize b7:([]:List D)=dd at hh;cases hh;simp![];exact#[_,rfl,trivial]
end
theorem wqj(c n)(h0:0<=n)(h7:n<=7):Oo jwn [(.no,.int c),(.no,.int n)] (λy=>∃ps,y=(.rt,iL ps)/\(ps.length:Int)=n) noX:=by
 have hp:((10:Int) ^ (Int.toNat 59))=10 ^ 59:=rfl;have hm:qx _ _=some (.int (c % 10 ^ 59)):=mod_i (by simp);refine k7 ?_;simp![];refine zW [some (.no,.int c)] (λ_ y=>∃i,y=(.dp,.int i)/\True) (kz5 ?_);simp![];refine#[_,rfl,by omega,by omega,rfl,λd hd=>?_,λys hy=>?_]
 ·obtain⟨i,i0,i1,rfl⟩:=qqq hd;have hb:W6 (.no,.int _) (.no,.int _)=some (.dp,.int ((c % 10 ^ 59+1)*(i+1))):=xj7 (by omega) (by omega) (by omega) (by omega);have hb2:W6 (.no,.int 5) (.no,.int (10 ^ 59))=some (.dp,.int (5*10 ^ 59)):=xj7 ⋯ ⋯ ⋯ ⋯;simp![hp,hm,hb,hb2];exact#[#[_,rfl],_,rfl,trivial]
 ·obtain⟨ps,e1,e2,_⟩:=kv6 (S:=λ_=>True) (λd y #[i,h,s]=>#[i,by rw[h],s]) hy;rw[vW,e1];exact#[ps,rfl,by rw[e2,vq4 (by omega)];omega]
open W3 (Sg)
theorem vxc{i:Nat}{j c}{E:En}{xs N Cc R X}(h0:E[i]?=some (some (.dp,.lst xs)))
  (h:Eo (j E) (λE1 y=>∃(n:Int) (k:Nat) (ys:List D),y.2=.int n/\ixN xs.length n=some k/\E1[i]?=some (some (.dp,.lst xs))/\xs[k]?=some (.lst ys)/\ys.length<10000/\Eo (c E1) (λE2 x=>E2[i]?=some (some (.dp,.lst xs))/\zj x=true/\N (E2.set i (some (.dp,.lst (xs.set k (.lst (ys++[x.2]))))))) X) X):Po (ZY i j c E) N Cc R X:=by
 unfold ZY;rw[h0,Xd (show xvt _=true from rfl),Q9];refine h.mono ?_;rintro E1 ⟨o,d⟩ ⟨n,k,ys,rfl,hx,h1,h2,h3,h4⟩;rw[h1];dsimp only;rw[hx];dsimp only;rw[h2,Q9];refine h4.mono ?_;rintro E2 x ⟨g1,g2,g3⟩;rw[g1];dsimp only;rw[h2];dsimp only;rw[Xd #[g2,by unfold big;lia]]
 exists g3
abbrev rws(f9:List Lw):D:=.lst (f9.map λL=>.lst (qJ L))
theorem xjo{ss i}(h0:0<=i)(h1:i<ss.length):∃z∈ss,jQ (sL ss) (.int i)=some (.str z):=
 #[ss[i.toNat]'_,Xu _,xk h0 (by rw[X8,X1 ⋯];rfl)]
inductive RI (ss:List Str)(ps cs:List Int):En->List D->Prop
 |mk {r1:List Lw} {L:Lw} {c1 c2:List Int} {l4 l5:Option Sd}:cs=c1++c2->r1.length<=c1.length->L.length<=c1.length->(∀M∈r1,M.length<=c1.length)->RI ss ps cs [some (.no,sL ss),some (.no,iL ps),some (.no,iL cs),some (.dp,.lst ((r1.map λL=>D.lst (qJ L))++[.lst (qJ L)])),l4,l5] (c2.map D.int)
theorem wkr{ss ps cs}(jt:1<=ss.length)(hg:∀z∈ss,Sg z)(hp:1<=ps.length)(hc:cs.length<=40):
  Oo jva [(.no,sL ss),(.no,iL ps),(.no,iL cs)] (λy=>∃f9:List Lw,y=(.no,rws f9)/\∀L∈f9,L.length<=40) noX:=by
 unfold jva;generalize hR:j7 (ZY _ _ _) _=R;refine k7 ?_;have td:∀d:D,zj (.dp,d)=true:=λ_=>rfl
 have ld:∀(e:Option Sd) (E:En) (P:En->Sd->Prop) (X:XP),Eo (v9 .dp [v9 .dp []] (e::E)) P X=P (e::E) (.dp,.lst [.lst []]):=λ_ _ _ _=>nd (by ac_rfl)
 have jo:qw (sL ss)=some (.int ss.length):=by rw[len_l,X3]
 have bq:qw (iL ps)=some (.int ps.length):=by rw[len_l,X3]
 simp![ld];refine z8 (RI ss ps cs) ?_ ?_ ?_
 ·simp![];exact .mk (r1:=[]) (L:=[]) (c1:=[]) rfl (X9 _) (X9 _) λ_ h=>nomatch h
 ·intro E d ds h;generalize b7:d::ds=dd at h;cases h with
  | @mk r1 L c1 c2 l4 l5 ec gu kt rf=>
  cases c2 with
  | nil=>cases b7
  | cons c c2=>
   injection b7 with e1 e2;subst e1 e2;have rn:cs=(c1++[c])++c2:=by rw[ec,Xk];rfl
   have dl:c1.length+1<=40:=by rw[ec,Xf,Xv]at hc;lia
   have hcl1:(c1++[c]).length=c1.length+1:=by rw[Xf];rfl
   have a0:=Yh c (show(ss.length:Int)≠0 by lia);have a1:=Y5 c (show(0:Int)<ss.length by lia);have ha:qx (.int c) (.int ss.length)=some (.int (c % ss.length)):=mod_i ⋯;obtain⟨z,hz,ez⟩:=xjo a0 a1;obtain⟨z0,hz0,ez0⟩:=xjo (ss:=ss) (i:=0) ⋯ ⋯;have b0:=Yh (c / 27) (show(ps.length:Int)≠0 by lia);have b1:=Y5 (c / 27) (show(0:Int)<ps.length by lia);have hb:qx (.int (c / 27)) (.int ps.length)=some (.int (c / 27 % ps.length)):=mod_i ⋯;obtain⟨v,ev,_⟩:=ixI ps (λ_=>True) (λ_ _=>trivial) _ b0 b1;have s0:fSl (.no,.str z0) none (some 7)=some (.dp,.str (Txt.slice z0 none (some 7))):=xqs (by have:=(hg z0 hz0).2.1;lia);have hsz:(Txt.slice z0 none (some 7)).cps.size<=8:=Yd (Txt.slice_le z0 _ _) (hg z0 hz0).2.1;have key:∀(z':Str) (o5:Own),Po (R [some (.no,sL ss),some (.no,iL ps),some (.no,iL cs),some (.dp,.lst ((r1.map λL=>D.lst (qJ L))++[.lst (qJ L)])),some (.no,.int c),some (o5,.str z')]) (λE=>RI ss ps cs E (c2.map D.int)) (λE=>RI ss ps cs E (c2.map D.int)) (λy=>∃f9:List Lw,y=(.no,rws f9)/\∀L∈f9,L.length<=40) noX:=by
    intro z' o5;subst hR;refine w_seq.mpr ?_;refine vxc rfl ?_;simp![B.neg1];refine#[-1,r1.length,qJ L,rfl,?_,?_,by rw[X3];lia,?_]
    ·rw[Xf,X3,Xx];unfold Q.ixN;rw[Xg ⋯,Xd ⋯]
     congr 1
     lia
    ·rw[Yb (by rw[X3];exact X9 _),X3,Nat.sub_self];rfl
    have es:((r1.map λL=>D.lst (qJ L))++[D.lst (qJ L)]).set r1.length (.lst (qJ L++[.tup [.str z',.int v]]))=(r1.map λL=>D.lst (qJ L))++[.lst (qJ (L++[(z',v)]))]:=by
     rw[List.set_append_right _ _ (by rw[X3];exact X9 _),X3,Nat.sub_self];simp[qJ]
    have hq:qx (.int (c / 189)) (.int 60)=some (.int (c / 189 % 60)):=mod_i ⋯;have oj:xq (.int c) (.int 27)=some (.int (c / 27)):=div_i ⋯ ⋯;have ij:xq (.int c) (.int 189)=some (.int (c / 189)):=div_i ⋯ ⋯;simp![bq,oj,hb,ev];refine#[rfl,?_];rw[es];have ak:(L++[(z',v)]).length=L.length+1:=by rw[Xf];rfl
    have hlr:(qJ (L++[(z',v)])).length=L.length+1:=by rw[X3,ak]
    cases hgt:decide (c / 189 % 60<((L.length+1:Nat):Int))with
    | true=>
     simp![B.neg1,vqj,hlr,ij,hq,gt_ii,hgt];refine wk2 rfl ?_;simp![lst_dp0];refine#[_,_,rfl,⋯,by rw[Xf,X3,Xx];lia,?_];rw[td,show(r1.map λL=>D.lst (qJ L))++[D.lst (qJ (L++[(z',v)]))]=(r1++[L++[(z',v)]]).map λL=>D.lst (qJ L)by rw[Xh];rfl];refine RI.mk (L:=[]) rn (by rw[hcl1,Xf,Xx];lia) (Yi _) λM hM=>?_
     ·rcases aA hM with h|h
      ·have:=rf M h;lia
      ·rw[aC h];lia
    |false=>
     simp![B.neg1,vqj,hlr,ij,hq,gt_ii,hgt];exact .mk rn ⋯ ⋯ λM hM=>by have:=rf M hM;lia
   have hm9:qx (.int (c / 3)) (.int 9)=some (.int (c / 3 % 9)):=mod_i ⋯;have hd3:xq (.int c) (.int 3)=some (.int (c / 3)):=div_i ⋯ ⋯
   by_cases h8:c / 3 % 9=8
   ·have e8:fEq (.int (c / 3 % 9)) (.int 8)=some (.bl true):=by rw[h8];rfl
    simp![jo,ha,ez,hd3,hm9,e8,ez0,s0,qwz (o1:=.no) (o2:=.no) (a:=Txt.slice z0 none (some 7)) (b:="q") (by have:("q":Str).cps.size=1:=rfl;lia)];exact key _ _
   ·have e8:fEq (.int (c / 3 % 9)) (.int 8)=some (.bl false):=by rw[Wv,Ya h8]
    simp![jo,ha,ez,hd3,hm9,e8];exact key _ _
 ·intro E h;generalize b7:[]=dd at h;cases h with
  |@mk r1 L c1 c2 l4 l5 ec gu kt rf=>
  cases c2 with
  |cons=>cases b7
  |nil=>
   rw[Xw]at ec;subst ec;rw[w_fz,xvx rfl];simp![];refine#[r1++[L],by rw[rws,Xh];rfl,λM hM=>?_];rcases aA hM with h|h
   ·have:=rf M h;lia
   ·rw[aC h];lia
theorem xki ns:∃cells,fSl (.no,iL ns) (some 5) (some 45)=some (.rt,iL cells)/\cells.length<=40:=by
 refine#[(ns.drop (Q5 ns.length 0 (some 5))).take (Q5 ns.length ns.length (some 45) - Q5 ns.length 0 (some 5)),?_,?_]
 ·rw[Zx ⋯];unfold KK;rw[X3,<-List.map_drop,<-List.map_take]
 ·rw[Yp];show min (min 45 ns.length - min 5 ns.length) _<=40;lia
theorem xjf(ns)(hnl:ns.length<=63):Oo m_law [(.no,iL ns)] (λy=>y.2=.bl true) noX:=by
 unfold m_law;rw [xkd,ww0,ww1];refine k7 ?_;simp![];refine(kk9 ns 0 ⋯).use ?_;intro _ _;simp![];refine(vwm _).use ?_;rintro ss ⟨jt,hs3,hg,so⟩;simp![];refine(kk9 ns 1 ⋯).use ?_;intro _ _;simp![];refine(qjc _ ss jt hs3).use ?_;rintro rs ⟨ac,k1,k6,k0,hk,hP⟩;simp![];refine(kk9 ns 2 ⋯).use ?_;intro _ _;simp![];refine(qjc _ ss jt hs3).use ?_;rintro rs' ⟨kps',k1',k6',k0',av,az⟩;simp![];refine(kk9 ns 3 ⋯).use ?_;intro _ _;simp![];refine(kk9 ns 4 ⋯).use ?_;intro _ _;have hm7:qx (.int (J6 ns 4)) (.int 7)=some (.int (J6 ns 4 % 7)):=mod_i ⋯;have w0:=Yh (J6 ns 4) (show(7:Int)≠0 by decide);have w1:=Y5 (J6 ns 4) (show(0:Int)<7 by decide);simp![hm7];refine(wqj _ _ ⋯ ⋯).use ?_;intro ps hps;obtain⟨cells,ec,dl⟩:=xki ns;simp![ec];refine(wkr jt hg ⋯ dl).use ?_;intro f9 on;simp![];refine(kk9 ns 4 ⋯).use ?_;intro _ _;have hd7:xq (.int (J6 ns 4)) (.int 7)=some (.int (J6 ns 4 / 7)):=div_i ⋯ ⋯;have rm:∀x:Int,qx (.int x) (.int 4)=some (.int (x % 4)):=λx=>mod_i ⋯
 have f0:=Yh (J6 ns 4 / 7) (show(4:Int)≠0 by decide);have f1:=Y5 (J6 ns 4 / 7) (show(0:Int)<4 by decide);simp![hd7,rm];generalize J6 ns 4 / 7 % 4=f at f0 f1;refine z8 (λE am=>∃(j:Nat) (l8 l9:Option Sd) (o6:Own),E=[some (.no,iL ns),some (.no,sL ss),some (.no,jK ss rs),some (.no,jK ss rs'),some (.no,iL ps),some (.no,rws f9),some (o6,.int f),some (.rt,.lst [.str "both",.str "either",.str "first",.str "one"]),l8,l9]/\(j:Int)<=4/\am=qk j 4) ?_ ?_ ?_
 ·refine kz5 ?_;simp![];exact#[_,rfl,⋯,⋯,0,_,_,_,rfl,⋯,rfl]
 ·rintro E d ds ⟨j,l8,l9,o6,rfl,j1,hr⟩;obtain⟨hj,rfl,rfl⟩:=Kv j1 hr;obtain⟨w,hw,ew⟩:∃w∈Ws,jQ (.lst [.str "both",.str "either",.str "first",.str "one"]) (.int ((f+j) % 4))=some (.str w):=by
   have q0:=Yh (f+j) (show(4:Int)≠0 by decide);have q1:=Y5 (f+j) (show(0:Int)<4 by decide);generalize (f+j) % 4=t at q0 q1;rcases(show t=0\/t=1\/t=2\/t=3 by lia)with rfl|rfl|rfl|rfl<;>exact#[_,by simp,rfl]
  have go:∀r2:List Lw,(∀L∈r2,L.length<=40)->Oo jq2 [(.no,.str w),(.no,jK ss rs),(.no,jK ss rs'),(.no,rws r2)] (λy=>∃o',y=(o',.bl true)/\True) noX:=λr2 h2=>vwo h2 hw jt hs3 hg so k1 k6 k1' k6' k0 k0' hP hk az av
  by_cases h0:(0:Int)<j
  ·have e0:fGt (.int (j)) (.int 0)=some (.bl true):=by rw[gt_ii,Xj h0]
   have e1:fSl (.no,rws f9) none (some 1)=some (.rt,rws (f9.take 1)):=by
    rw[Zx ⋯];unfold KK;show some (Own.rt,D.lst (List.take (min 1 _) (List.drop 0 _)))=_;rw[List.drop_zero,<-List.map_take,X3];cases f9<;>rfl
   simp![e0,e1,rm,ew];refine(go _ λL hL=>on L (List.mem_of_mem_take hL)).use ?_;rintro _ _;simp![];exact#[j+1,_,_,_,rfl,⋯,rfl]
  ·have e0:fGt (.int (j:Int)) (.int 0)=some (.bl false):=by rw[gt_ii,Xs h0]
   simp![e0,rm,ew];refine(go _ on).use ?_;rintro _ _;simp![];exact#[j+1,_,_,_,rfl,⋯,rfl]
 ·rintro E ⟨j,l8,l9,o6,rfl,j1,hr⟩;simp![]
theorem law_true(ns:List Int)(hl:ns.length<=63)(hb:∀i∈ns,Builtin.Int.intBits i<=1048576):∃E o,m_law [(.no,.lst (ns.map D.int))]=some (.ok E (o,.bl true)):=by
 obtain _:=(xjf ns hl).out
 grind
end Nk62
namespace Nk62
open PySem L2 L3 Q
def top(i:Nat):Stmt:=PySem.Challenge.pw_freshrooms_k62_whole_joined_rows.main.body.getD i (.Pass #[0,0,0,0])
abbrev kjy:Stmt:=top 7
abbrev kqi:Stmt:=top 8
abbrev jwh:Stmt:=top 11
abbrev kk1:Stmt:=top 12
abbrev jzh:Stmt:=top 13
abbrev jqh:Stmt:=top 26
abbrev jx5:Stmt:=top 24
abbrev jql:Stmt:=top 30
abbrev kqj:Stmt:=top 29
abbrev jzi:Stmt:=top 28
abbrev jqj:Stmt:=top 27
abbrev jqk:Stmt:=top 25
abbrev kk0:Stmt:=top 19
abbrev kjz:Stmt:=top 20
abbrev kqg:Stmt:=top 21
abbrev jv3:Stmt:=top 22
abbrev jx3:Stmt:=top 23
abbrev jx4:Stmt:=top 41
abbrev jwe:Stmt:=top 38
abbrev jqi:Stmt:=top 34
abbrev jvp:Stmt:=top 35
abbrev kjx:Stmt:=top 40
abbrev kqf:Stmt:=top 39
abbrev kqh:Stmt:=top 36
abbrev jvq:Stmt:=top 37
abbrev jx6:Stmt:=top 42
abbrev jx7:Stmt:=top 49
abbrev jwg:Stmt:=top 48
abbrev jwf:Stmt:=top 47
abbrev kxe:Stmt:=top 46
abbrev jvr:Stmt:=top 51
abbrev jx8:Stmt:=top 52
abbrev jwi:Stmt:=top 53
abbrev jx9:Stmt:=top 54
abbrev jxc:Stmt:=top 55
abbrev jzp:Stmt:=top 56
abbrev jxb:Stmt:=top 57
abbrev jzk:Stmt:=top 58
abbrev jzm:Stmt:=top 59
abbrev jzl:Stmt:=top 60
abbrev jzj:Stmt:=top 61
abbrev jv4:Stmt:=top 62
abbrev jzo:Stmt:=top 63
abbrev kqk:Stmt:=top 64
abbrev jzn:Stmt:=top 65
abbrev jwj:Stmt:=top 66
abbrev jwk:Stmt:=top 67
abbrev jxa:Stmt:=top 68
abbrev wkp:Stmt:=top 69
theorem qq4:FnScope ["thing"] ["thing"] (jW kjy):=mkS
theorem qxg:FnScope ["thing"] ["thing"] (jW kqi):=mkS
theorem kvu:FnScope ["thing","many"] ["thing","many"] (jW jwh):=mkS
theorem qq7:FnScope ["thing","end"] ["thing","end"] (jW kk1):=mkS
theorem qj0:FnScope ["thing"] ["thing"] (jW jzh):=mkS
theorem jzx:FnScope ["thing"] ["thing"] (jW jqh):=mkS
theorem kxa:FnScope ["thing","many"] ["thing","many"] (jW jx5):=mkS
theorem jzz:FnScope ["thing","end","many"] ["thing","end","many"] (jW jql):=mkS
theorem qxh:FnScope ["thing","end","keepers"] ["thing","end","keepers"] (jW kqj):=mkS
theorem sc_are_cases:FnScope ["thing","own","keepers","held"] ["thing","own","keepers"] (jW jzi):=mkS
theorem jzy:FnScope ["thing","signs","own","keepers"] ["thing","signs","own","keepers"] (jW jqj):=mkS
theorem sc_are_plain_rooms:FnScope ["thing","signs","keepers"] ["thing","signs"] (jW jqk):=mkS
theorem qq6:FnScope ["thing"] ["thing"] (jW kk0):=mkS
theorem qq5:FnScope ["plain"] ["plain"] (jW kjz):=mkS
theorem sc_read_by:FnScope ["plain","standing","sign","name","names","cases","case","held"] ["plain","standing","sign","name"] (jW kqg):=mkS
theorem sc_stands_behind:FnScope ["plain","row","standing","sign","name"] ["plain","row"] (jW jv3):=mkS
theorem sc_plain_lets:FnScope ["plain","row","standing"] ["plain","row"] (jW jx3):=mkS
theorem kx9:FnScope ["plain","room"] ["plain","room"] (jW jx4):=mkS
theorem kvt:FnScope ["room","names"] ["room","names"] (jW jwe):=mkS
theorem sc_first_standings:FnScope ["one","other","pair","own","shared","names","j"] ["one","other","pair"] (jW jqi):=mkS
theorem kqd:FnScope ["one","other","standings","sign","name"] ["one","other","standings","sign","name"] (jW jvp):=mkS
theorem qq3:FnScope ["standing"] ["standing"] (jW kjx):=mkS
theorem qxf:FnScope ["standing"] ["standing"] (jW kqf):=mkS
theorem sc_pair_of:FnScope ["standings","ours","theirs","shared"] ["standings"] (jW kqh):=mkS
theorem sc_held_by_both:FnScope ["standings","ours"] ["standings"] (jW jvq):=mkS
theorem kxb:FnScope ["plain","room"] ["plain","room"] (jW jx6):=mkS
theorem kxc:FnScope ["word","ours","theirs"] ["word","ours","theirs"] (jW jx7):=mkS
theorem sc_joined_case:FnScope ["standings","numbers","pair"] ["standings","numbers"] (jW jwg):=mkS
theorem sc_joined_room:FnScope ["word","one","other","pair","numbers","standings","own","steps","sign","later"] ["word","one","other","pair","numbers"] (jW jwf):=mkS
theorem sc_joined:FnScope ["word","one","other","numbers","rooms"] ["word","one","other"] (jW kxe):=mkS
theorem kqe:FnScope ["_law_script","_law_k"] ["_law_script","_law_k"] (jW jvr):=mkS
theorem kxd:FnScope ["_law_found"] ["_law_found"] (jW jx8):=mkS
theorem sc__law_stream:FnScope ["_law_cell","_law_many","_law_found","_law_k","_law_number"] ["_law_cell","_law_many"] (jW jwi):=mkS
theorem sc__law_signs:FnScope ["_law_cell","_law_letters","_law_xs","_law_base","_law_at","_law_found","_law_k"] ["_law_cell"] (jW jx9):=mkS
theorem sc__law_fills:FnScope ["_law_number","_law_need","_law_free","_law_pool_here","_law_found","_law_k"] ["_law_number","_law_need","_law_free"] (jW jxc):=mkS
theorem sc__law_case:FnScope ["_law_number","_law_sizes","_law_free","_law_rooms","_law_to"] ["_law_number","_law_sizes","_law_free"] (jW jzp):=mkS
theorem sc__law_plain:FnScope ["_law_cell","_law_signs_here","_law_xs","_law_many","_law_most","_law_sizes","_law_rooms","_law_at","_law_room","_law_steps","_law_s","_law_cases","_law_i"] ["_law_cell","_law_signs_here"] (jW jxb):=mkS
theorem sc__law_read:FnScope ["_law_plain_here","_law_standing","_law_sign","_law_name","_law_room","_law_names","_law_keepers","_law_good_here","_law_steps","_law_at","_law_case_here"] ["_law_plain_here","_law_standing","_law_sign","_law_name"] (jW jzk):=mkS
theorem sc__law_pair:FnScope ["_law_here","_law_there","_law_names","_law_rooms","_law_k","_law_standing","_law_shared"] ["_law_here","_law_there"] (jW jzm):=mkS
theorem qj1:FnScope ["_law_cell","_law_many"] ["_law_cell","_law_many"] (jW jzl):=mkS
theorem sc__law_rows:FnScope ["_law_signs_here","_law_pool_here","_law_cells","_law_rows_here","_law_cell","_law_sign"] ["_law_signs_here","_law_pool_here","_law_cells"] (jW jzj):=mkS
theorem sc__law_read_row:FnScope ["_law_plain_here","_law_row","_law_standing","_law_sign","_law_name"] ["_law_plain_here","_law_row"] (jW jv4):=mkS
theorem qj3:FnScope ["_law_plain_here","_law_standing"] ["_law_plain_here","_law_standing"] (jW jzo):=mkS
theorem qxi:FnScope ["_law_word","_law_here","_law_there"] ["_law_word","_law_here","_law_there"] (jW kqk):=mkS
theorem qj2:FnScope ["_law_standing"] ["_law_standing"] (jW jzn):=mkS
theorem sc__law_stands:FnScope ["_law_made","_law_pairs","_law_row","_law_left","_law_right_here","_law_found","_law_names"] ["_law_made","_law_pairs","_law_row","_law_left","_law_right_here"] (jW jwj):=mkS
theorem kvv:FnScope ["_law_word","_law_one","_law_other"] ["_law_word","_law_one","_law_other"] (jW jwk):=mkS
theorem sc__law_right:FnScope ["_law_word","_law_one","_law_other","_law_rows_here","_law_found","_law_made","_law_pairs","_law_row","_law_many","_law_left","_law_right_here","_law_due","_law_told"] ["_law_word","_law_one","_law_other","_law_rows_here"] (jW jxa):=mkS
theorem sc_law:FnScope ["_law_script","_law_signs_here","_law_one","_law_other","_law_pool_here","_law_rows_here","_law_first","_law_words","_law_k","_law_some"] ["_law_script"] (jW wkp):=mkS
structure Txt (K:Frag)(mg:Str->Option Value)(ae a9:Addr):Prop where
 b_all:mg "all"=none
 b_bool:mg "bool"=none
 b_dict:mg "dict"=none
 b_enumerate:mg "enumerate"=none
 b_int:mg "int"=none
 b_isinstance:mg "isinstance"=none
 b_len:mg "len"=none
 b_list:mg "list"=none
 b_range:mg "range"=none
 b_set:mg "set"=none
 b_sorted:mg "sorted"=none
 b_str:mg "str"=none
 b_tuple:mg "tuple"=none
 c_LETTERS:Cst mg "LETTERS" (V.str "abcdefghijklmnopqrstuvwxyz")
 c_MOST_LETTERS:Cst mg "MOST_LETTERS" (V.int (8))
 c_MOST_SIGNS:Cst mg "MOST_SIGNS" (V.int (3))
 c_MOST_ROOMS_plains:Cst mg "MOST_ROOMS_plains" (V.int (200))
 c_MOST_KEEPERS:Cst mg "MOST_KEEPERS" (V.int (6))
 c_SMALL_ROOMS:Cst mg "SMALL_ROOMS" (V.int (12))
 c_SMALL_KEEPERS:Cst mg "SMALL_KEEPERS" (V.int (3))
 c_NOWHERE:Cst mg "NOWHERE" (V.int (-1))
 c_FIRST_PAIR:xwd K mg "FIRST_PAIR" (.tup [(.int 0),(.int 0),(.tup [])])
 c_WORDS:xwd K mg "WORDS" (.tup [(.str "both"),(.str "either"),(.str "first"),(.str "one")])
 c_MOST_ROOMS_joins:Cst mg "MOST_ROOMS_joins" (V.int (40))
 n_NoFit:nsIn K mainGlobals "NoFit"=some (some (.ref ae))
 m_NoFit:mg "NoFit"=some (.ref ae)
 e_NoFit:ECls K mg "NoFit" ae
 n_TooGreat:nsIn K mainGlobals "TooGreat"=some (some (.ref a9))
 m_TooGreat:mg "TooGreat"=some (.ref a9)
 e_TooGreat:ECls K mg "TooGreat" a9
 h_TooGreat_TooGreat:PySem.W.exmOne K (.ref a9) (.ref a9)=some true
section
variable (P:Program)(w:PySem.World)(K:Frag)(mg:Str->Option Value)(base:Heap)
abbrev kww:=k4 P w K mg base 1 "is_whole" ["thing"] (spF K mg 1 kk7)
abbrev qkt:=k4 P w K mg base 1 "is_sign" ["thing"] (spF K mg 1 kja)
abbrev jqd:=k4 P w K mg base 1 "is_tuple_of" ["thing","many"] (spF K mg 2 Wx)
abbrev jz4:=k4 P w K mg base 2 "is_below" ["thing","end"] (spF K mg 2 jqz)
abbrev kvf:=k4 P w K mg base 2 "are_signs" ["thing"] (spF K mg 1 jv8)
abbrev jw7:=k4 P w K mg base 3 "has_plain_frame" ["thing"] (spF K mg 1 jkn)
abbrev jxp:=k4 P w K mg base 1 "is_list_of" ["thing","many"] (spF K mg 2 jqr)
abbrev jwb:=k4 P w K mg base 3 "are_plain_fills" ["thing","end","many"] (spF K mg 3 jka)
abbrev qku:=k4 P w K mg base 4 "is_case" ["thing","end","keepers"] (spF K mg 3 jw3)
abbrev kvg:=k4 P w K mg base 5 "are_cases" ["thing","own","keepers"] (spF K mg 3 jv9)
abbrev jw9:=k4 P w K mg base 6 "are_plain_steps" ["thing","signs","own","keepers"] (spF K mg 4 jko)
abbrev jwa:=k4 P w K mg base 7 "are_plain_rooms" ["thing","signs"] (spF K mg 2 jk9)
abbrev kwy:=k4 P w K mg base 8 "is_plain" ["thing"] (spF K mg 1 jxx)
abbrev kwx:=k4 P w K mg base 1 "is_small" ["plain"] (spF K mg 1 m_is_small)
abbrev kve:=k4 P w K mg base 1 "read_by" ["plain","standing","sign","name"] (spF K mg 4 m_read_by)
abbrev jvd:=k4 P w K mg base 2 "stands_behind" ["plain","row"] (spF K mg 2 jkk)
abbrev kkh:=k4 P w K mg base 3 "plain_lets" ["plain","row"] (spF K mg 2 jvl)
abbrev kki:=k4 P w K mg base 1 "keepers_in" ["plain","room"] (spF K mg 2 m_keepers_in)
abbrev kjn:=k4 P w K mg base 1 "standing_in" ["room","names"] (spF K mg 2 m_standing_in)
abbrev jw8:=k4 P w K mg base 2 "first_standings" ["one","other","pair"] (spF K mg 3 m_first_standings)
abbrev jzc:=k4 P w K mg base 2 "read_by_both" ["one","other","standings","sign","name"] (spF K mg 5 m_read_by_both)
abbrev kkd:=k4 P w K mg base 1 "names_of" ["standing"] (spF K mg 1 m_names_of)
abbrev qkr:=k4 P w K mg base 1 "room_of" ["standing"] (spF K mg 1 m_room_of)
abbrev qks:=k4 P w K mg base 2 "pair_of" ["standings"] (spF K mg 1 m_pair_of)
abbrev jvx:=k4 P w K mg base 2 "held_by_both" ["standings"] (spF K mg 1 m_held_by_both)
abbrev kkj:=k4 P w K mg base 1 "is_good_in" ["plain","room"] (spF K mg 2 m_is_good_in)
abbrev kkk:=k4 P w K mg base 1 "is_good_by" ["word","ours","theirs"] (spF K mg 3 m_is_good_by)
abbrev kjp:=k4 P w K mg base 3 "joined_case" ["standings","numbers"] (spM K mg 1 m_joined_case)
abbrev kjo:=k4 P w K mg base 4 "joined_room" ["word","one","other","pair","numbers"] (spM K mg 4 m_joined_room)
abbrev qx3:=k4 P w K mg base 5 "joined" ["word","one","other"] (spF K mg 3 m_joined)
abbrev jzd:=k4 P w K mg base 1 "_law_cell_at" ["_law_script","_law_k"] (spF K mg 2 m__law_cell_at)
abbrev kkl:=k4 P w K mg base 1 "_law_whole" ["_law_found"] (spF K mg 1 m__law_whole)
abbrev jwp:=k4 P w K mg base 1 "_law_stream" ["_law_cell","_law_many"] (spF K mg 2 m__law_stream)
abbrev kkm:=k4 P w K mg base 2 "_law_signs" ["_law_cell"] (spF K mg 1 m__law_signs)
abbrev kkp:=k4 P w K mg base 1 "_law_fills" ["_law_number","_law_need","_law_free"] (spF K mg 3 m__law_fills)
abbrev kvo:=k4 P w K mg base 2 "_law_case" ["_law_number","_law_sizes","_law_free"] (spF K mg 3 m__law_case)
abbrev kko:=k4 P w K mg base 3 "_law_plain" ["_law_cell","_law_signs_here"] (spF K mg 2 m__law_plain)
abbrev kvi:=k4 P w K mg base 1 "_law_read" ["_law_plain_here","_law_standing","_law_sign","_law_name"] (spF K mg 4 m__law_read)
abbrev kvk:=k4 P w K mg base 1 "_law_pair" ["_law_here","_law_there"] (spF K mg 2 m__law_pair)
abbrev kvj:=k4 P w K mg base 1 "_law_pool" ["_law_cell","_law_many"] (spF K mg 2 jwn)
abbrev kvh:=k4 P w K mg base 1 "_law_rows" ["_law_signs_here","_law_pool_here","_law_cells"] (spF K mg 3 jva)
abbrev jxq:=k4 P w K mg base 2 "_law_read_row" ["_law_plain_here","_law_row"] (spF K mg 2 jkb)
abbrev kvm:=k4 P w K mg base 1 "_law_good" ["_law_plain_here","_law_standing"] (spF K mg 2 jvb)
abbrev qkv:=k4 P w K mg base 1 "_law_by" ["_law_word","_law_here","_law_there"] (spF K mg 3 kjb)
abbrev kvl:=k4 P w K mg base 1 "_law_held" ["_law_standing"] (spF K mg 1 jqn)
abbrev kjq:=k4 P w K mg base 3 "_law_stands" ["_law_made","_law_pairs","_law_row","_law_left","_law_right_here"] (spF K mg 5 jqa)
abbrev kjr:=k4 P w K mg base 6 "_law_joined" ["_law_word","_law_one","_law_other"] (spF K mg 3 jqb)
abbrev kkn:=k4 P w K mg base 9 "_law_right" ["_law_word","_law_one","_law_other","_law_rows_here"] (spF K mg 4 jq2)
end
section
variable {ae a9:Addr}
variable {P:Program}{w:PySem.World}{K:Frag}{mg:Str->Option Value}{base:Heap}{f:Addr}{fd:FuncData}
theorem qqj(T:Txt K mg ae a9)  (F:Fun K "is_whole" "is_whole" kjy f fd):FnOk P w K mg base (CXE P w) 1 f fd ["thing"] (spF K mg 1 kk7):=
 k8 F qq4 (kJ rfl) λb6 A outer s H vs Q E hr h=>kK rfl
  (jq (jJ (x3 (j6 (K5 (vv 0) T.b_isinstance T.b_int vvt rfl)) (wW (vwu (j6 (K5 (vv 0) T.b_isinstance T.b_bool kzj rfl))))))) h
theorem qxz(T:Txt K mg ae a9)  (F:Fun K "is_sign" "is_sign" kqi f fd):FnOk P w K mg base (CXE P w) 1 f fd ["thing"] (spF K mg 1 kja):=
 k8 F qxg (kJ rfl) λb6 A outer s H vs Q E hr h=>kK rfl
  (j8 (q9 (QW.pt (J8 (wJ (z5 (j6 (K5 (vv 0) T.b_isinstance T.b_str xko rfl)))) (KJ (wJ (kkz KZ (x9 (g:=λa b=>decide (a<=b))) KZ (x9 (g:=λa b=>decide (a<=b))) ki (j6 (qL (vv 0) T.b_len)) (j6 (q_C (zw T.c_MOST_LETTERS) (λ_=>vx))) JZ))))) (jq (jJ (q_C xQ (λ_=>xj)))) kZ) (jq (jJ (K7 (W2 K) VW (j6 (qM .rt 1 [] 1 ["letter"] (wK (cv 0)) (λ_ _ _ _ _=>(xW (vkp hr.units) vw0 (vv 0) (j6 (q_C (zw T.c_LETTERS) (λ_=>Kz ⋯))) (by rfl))))) T.b_all VJ)))) h
theorem kw1(T:Txt K mg ae a9)  (F:Fun K "is_tuple_of" "is_tuple_of" jwh f fd):FnOk P w K mg base (CXE P w) 1 f fd ["thing","many"] (spF K mg 2 Wx):=
 k8 F kvu (kJ rfl) λb6 A outer s H vs Q E hr h=>kK rfl
  (jq (jJ (x3 (j6 (K5 (vv 0) T.b_isinstance T.b_tuple kzh rfl)) (wW (xW (vz hr.units) vK (j6 (qL (vv 0) T.b_len)) (vv 1) (jZ _)))))) h
theorem qqm(T:Txt K mg ae a9)(gc:kww P w K mg base)(F:Fun K "is_below" "is_below" kk1 f fd):FnOk P w K mg base (CXE P w) 2 f fd ["thing","end"] (spF K mg 2 jqz):=
 k8 F qq7 (kJ rfl) λb6 A outer s H vs Q E hr h=>kK rfl
  (jq (jJ (x3 (j6 (qC gc hr (j5 (cv 0) j9))) (wW (wq5 KZ (x9 (g:=λa b=>decide (a<=b))) vxh (x9 (g:=λa b=>decide (a<b))) ki (vv 0) (vv 1)))))) h
theorem qjh(T:Txt K mg ae a9)(gq:qkt P w K mg base)(F:Fun K "are_signs" "are_signs" jzh f fd):FnOk P w K mg base (CXE P w) 2 f fd ["thing"] (spF K mg 1 jv8):=
 k8 F qj0 (kJ rfl) λb6 A outer s H vs Q E hr h=>kK rfl
  (j8 (q9 (QW.pt (J8 (wJ (z5 (j6 (K5 (vv 0) T.b_isinstance T.b_list Q0 rfl)))) (KJ (wJ (kkz KZ (x9 (g:=λa b=>decide (a<=b))) KZ (x9 (g:=λa b=>decide (a<=b))) ki (j6 (qL (vv 0) T.b_len)) (j6 (q_C (zw T.c_MOST_SIGNS) (λ_=>vx))) JZ))))) (jq (jJ (q_C xQ (λ_=>xj)))) kZ) (j8 (q9 (wJ (z5 (j6 (K7 (W2 K) VW (j6 (qM .rt 1 [] 1 ["sign"] (wK (cv 0)) (λ_ _ _ _ _=>(qC gq hr (j5 (cv 0) j9))))) T.b_all VJ)))) (jq (jJ (q_C xQ (λ_=>xj)))) kZ) (jq (jJ (xW (vz hr.units) vK (vv 0) (j6 (vk5 rfl rfl (vv 0) T.b_sorted T.b_set)) (jZ _)))))) h
theorem kj4(T:Txt K mg ae a9)(aj:jqd P w K mg base)(b5:jz4 P w K mg base)(F:Fun K "has_plain_frame" "has_plain_frame" jqh f fd):FnOk P w K mg base (CXE P w) 3 f fd ["thing"] (spF K mg 1 jkn):=
 k8 F jzx (kJ rfl) λb6 A outer s H vs Q E hr h=>kK rfl
  (jq (jJ (x3 (j6 (qC aj hr (j5 (cv 0) (j5 kI j9)))) (x3 (j6 (qC b5 hr (j5 (jV (kx (vv 0) ki)) (j5 (oA (j6 (q_C (zw T.c_MOST_KEEPERS) (λ_=>vx))) ki) j9)))) (wW (K5 (kx (vv 0) ki) T.b_isinstance T.b_bool kzj rfl)))))) h
theorem kxp(T:Txt K mg ae a9)  (F:Fun K "is_list_of" "is_list_of" jx5 f fd):FnOk P w K mg base (CXE P w) 1 f fd ["thing","many"] (spF K mg 2 jqr):=
 k8 F kxa (kJ rfl) λb6 A outer s H vs Q E hr h=>kK rfl
  (jq (jJ (x3 (j6 (K5 (vv 0) T.b_isinstance T.b_list Q0 rfl)) (wW (xW (vz hr.units) vK (j6 (qL (vv 0) T.b_len)) (vv 1) (jZ _)))))) h
theorem kj8(T:Txt K mg ae a9)(aj:jqd P w K mg base)(b5:jz4 P w K mg base)(F:Fun K "are_plain_fills" "are_plain_fills" jql f fd):FnOk P w K mg base (CXE P w) 3 f fd ["thing","end","many"] (spF K mg 3 jka):=
 k8 F jzz (kJ rfl) λb6 A outer s H vs Q E hr h=>kK rfl
  (j8 (q9 (QW.pt (J8 (wJ (z5 (j6 (qC aj hr (j5 (cv 0) (j5 (cv 2) j9)))))) (KJ (wJ (z5 (j6 (K7 (W2 K) VW (j6 (qM .rt 1 [1] 3 ["fill","end"] (wK (cv 0)) (λ_ _ _ _ _=>(qC b5 hr (j5 (cv 0) (j5 (cv 1) j9)))))) T.b_all VJ))))))) (jq (jJ (q_C xQ (λ_=>xj)))) kZ) (jq (jJ (xW (vz hr.units) vK (j6 (vk6 rfl rfl (vv 0) T.b_len T.b_set)) (vv 2) (jZ _))))) h
theorem qz0(T:Txt K mg ae a9)(bh:jwb P w K mg base)(aj:jqd P w K mg base)(b5:jz4 P w K mg base)(F:Fun K "is_case" "is_case" kqj f fd):FnOk P w K mg base (CXE P w) 4 f fd ["thing","end","keepers"] (spF K mg 3 jw3):=
 k8 F qxh (kJ rfl) λb6 A outer s H vs Q E hr h=>kK rfl
  (j8 (q9 (kz JX JW (vv 0) kn (jZ _) Kx) (jq (jJ (q_C xQ (λ_=>xj)))) kZ) (j8 (q9 (QW.pt (J8 (wJ (z5 (j6 (qC aj hr (j5 (cv 0) (j5 kI j9)))))) (KJ (wJ (z5 (j6 (qC b5 hr (j5 (jV (kx (vv 0) ki)) (j5 (qL (vv 2) T.b_len) j9))))))))) (jq (jJ (q_C xQ (λ_=>xj)))) kZ) (jq (jJ (qC bh hr (j5 (jV (kx (vv 0) ki)) (j5 (cv 1) (j5 (jV (kx (vv 2) (kx (vv 0) ki))) j9)))))))) h
theorem qji(T:Txt K mg ae a9)(ba:jxp P w K mg base)(fh:qku P w K mg base)(F:Fun K "are_cases" "are_cases" jzi f fd):FnOk P w K mg base (CXE P w) 5 f fd ["thing","own","keepers"] (spF K mg 3 jv9):=
 k8 F sc_are_cases (kJ rfl) λb6 A outer s H vs Q E hr h=>have nd:=sc_are_cases.nd;kK rfl
  (j8 (q9 (wJ (z5 (j6 (qC ba hr (j5 (cv 0) (j5 (oA (vv 1) ki) j9)))))) (jq (jJ (q_C xQ (λ_=>xj)))) kZ) (j8 (qA nd (K7 (W2 K) VW (j6 (qM .rt 1 [1,2] 4 ["case","own","keepers"] (wK (K6 (vv 0) Kw (Jx (vv 1)))) (λ_ _ _ _ _=>(qC fh hr (j5 (cv 0) (j5 (cv 1) (j5 (cv 2) j9))))))) T.b_all VJ)) (jq (jJ (x3 (vv 3) (wW (qC fh hr (j5 (jV (kx (vv 0) (vv 1))) (j5 (oA (vv 1) ki) (j5 (cv 2) j9)))))))))) h
theorem kj6(T:Txt K mg ae a9)(ba:jxp P w K mg base)(dm:kvg P w K mg base)(F:Fun K "are_plain_steps" "are_plain_steps" jqj f fd):FnOk P w K mg base (CXE P w) 6 f fd ["thing","signs","own","keepers"] (spF K mg 4 jko):=
 k8 F jzy (kJ rfl) λb6 A outer s H vs Q E hr h=>kK rfl
  (jq (jJ (x3 (j6 (qC ba hr (j5 (cv 0) (j5 (cv 1) j9)))) (wW (K7 (W2 K) VW (j6 (qM .rt 1 [2,3] 4 ["cases","own","keepers"] (wK (cv 0)) (λ_ _ _ _ _=>(qC dm hr (j5 (cv 0) (j5 (cv 1) (j5 (cv 2) j9))))))) T.b_all VJ))))) h
theorem kj7(T:Txt K mg ae a9)(bg:jw7 P w K mg base)(bj:jw9 P w K mg base)(F:Fun K "are_plain_rooms" "are_plain_rooms" jqk f fd):FnOk P w K mg base (CXE P w) 7 f fd ["thing","signs"] (spF K mg 2 jk9):=
 k8 F sc_are_plain_rooms (kJ rfl) λb6 A outer s H vs Q E hr h=>have nd:=sc_are_plain_rooms.nd;kK rfl
  (j8 (q9 (QW.pt (J8 (wJ (z5 (j6 (K5 (vv 0) T.b_isinstance T.b_list Q0 rfl)))) (KJ (wJ (kkz KZ (x9 (g:=λa b=>decide (a<=b))) KZ (x9 (g:=λa b=>decide (a<=b))) ki (j6 (qL (vv 0) T.b_len)) (j6 (q_C (zw T.c_MOST_ROOMS_plains) (λ_=>vx))) JZ))))) (jq (jJ (q_C xQ (λ_=>xj)))) kZ) (j8 (q9 (wJ (z5 (j6 (K7 (W2 K) VW (j6 (qM .rt 1 [] 3 ["room"] (wK (cv 0)) (λ_ _ _ _ _=>(qC bg hr (j5 (cv 0) j9))))) T.b_all VJ)))) (jq (jJ (q_C xQ (λ_=>xj)))) kZ) (j8 (qA nd (qM .rt 1 [] 3 ["room"] (wK (cv 0)) (λ_ _ _ _ _=>(jV (kx (vv 0) ki))))) (jq (jJ (x3 (j6 (xW (vz hr.units) vK (kx (vv 2) ki) ki (jZ _))) (wW (K7 (W2 K) VW (j6 (qM .rt 1 [1,2] 3 ["room","signs","keepers"] (wK (cv 0)) (λ_ _ _ _ _=>(qC bj hr (j5 (jV (kx (vv 0) ki)) (j5 (cv 1) (j5 (jV (kx (vv 0) ki)) (j5 (cv 2) j9)))))))) T.b_all VJ)))))))) h
theorem qql(T:Txt K mg ae a9)(aj:jqd P w K mg base)(ff:kvf P w K mg base)(be:jwa P w K mg base)(F:Fun K "is_plain" "is_plain" kk0 f fd):FnOk P w K mg base (CXE P w) 8 f fd ["thing"] (spF K mg 1 jxx):=
 k8 F qq6 (kJ rfl) λb6 A outer s H vs Q E hr h=>kK rfl
  (jq (jJ (x3 (j6 (qC aj hr (j5 (cv 0) (j5 kI j9)))) (x3 (j6 (qC ff hr (j5 (jV (kx (vv 0) ki)) j9))) (wW (qC be hr (j5 (jV (kx (vv 0) ki)) (j5 (qL (kx (vv 0) ki) T.b_len) j9)))))))) h
theorem qqk(T:Txt K mg ae a9)  (F:Fun K "is_small" "is_small" kjz f fd):FnOk P w K mg base (CXE P w) 1 f fd ["plain"] (spF K mg 1 m_is_small):=
 k8 F qq5 (kJ rfl) λb6 A outer s H vs Q E hr h=>kK rfl
  (jq (jJ (x3 (j6 (xW KZ (x9 (g:=λa b=>decide (a<=b))) (j6 (qL (kx (vv 0) ki) T.b_len)) (j6 (q_C (zw T.c_SMALL_ROOMS) (λ_=>vx))) (jZ _))) (wW (K7 (W2 K) VW (j6 (qM .rt 1 [] 1 ["room"] (wK (jV (kx (vv 0) ki))) (λ_ _ _ _ _=>(xW KZ (x9 (g:=λa b=>decide (a<=b))) (kx (vv 0) ki) (j6 (q_C (zw T.c_SMALL_KEEPERS) (λ_=>vx))) (jZ _))))) T.b_all VJ))))) h
theorem qxx(T:Txt K mg ae a9)  (F:Fun K "read_by" "read_by" kqg f fd):FnOk P w K mg base (CXE P w) 1 f fd ["plain","standing","sign","name"] (spF K mg 4 m_read_by):=
 k8 F sc_read_by (kJ rfl) λb6 A outer s H vs Q E hr h=>have nd:=sc_read_by.nd;kK rfl
  (j8 (q9 (QW.pt (J8 (kz JX JW (vv 1) kn (jZ _) Kx) (KJ (kz (kj3 hr.units) kjm (vv 2) (kx (vv 0) ki) (by rfl) kjk)))) (jq (jJ kN)) kZ) (j8 (qA nd (jV (kx (vv 1) ki))) (j8 (qA nd (jV (kx (kx (kx (kx (vv 0) ki) (kx (vv 1) ki)) ki) (j6 (ZX hr.units (kx (vv 0) ki) (vv 2)))))) (j8 (qA nd (jV (kx (vv 5) (j6 (Zw (kz (vkp hr.units) vw0 (vv 3) (vv 4) (by rfl) vzi) (ZX hr.units (vv 4) (vv 3)) (qL (vv 4) T.b_len)))))) (j8 (q9 (kz JX JW (vv 6) kn (jZ _) Kx) (jq (jJ kN)) kZ) (j8 (qA nd (oA (vv 4) (j6 (v6 (o:=.no) (j5 (cv 3) j9))))) (jq (jJ (v6 (o:=.no) (j5 (jV (kx (vv 6) ki)) (j5 (qT (j6 (qM .rt 1 [7] 8 ["fill","held"] (wK (jV (kx (vv 6) ki))) (λ_ _ _ _ _=>(jV (kx (vv 1) (vv 0)))))) T.b_tuple) j9))))))))))) h
theorem kkt(T:Txt K mg ae a9)(bn:kve P w K mg base)(F:Fun K "stands_behind" "stands_behind" jv3 f fd):FnOk P w K mg base (CXE P w) 2 f fd ["plain","row"] (spF K mg 2 jkk):=
 k8 F sc_stands_behind (kJ rfl) λb6 A outer s H vs Q E hr h=>have nd:=sc_stands_behind.nd;kK rfl
  (j8 (qA nd (v6 (o:=.no) (j5 kI (j5 (v6 (o:=.no) j9) j9)))) (j8 (qF (wK (cv 1)) (Vj (is:=[3,4]) (V5 K (t:=gNs [3,4]) (n:=2) (xx (gn nd) (xx (gn nd) Vk)))) (jq (qA nd (qC bn hr (j5 (cv 0) (j5 (cv 2) (j5 (cv 3) (j5 (cv 4) j9)))))))) (jq (jJ (wxx (pv 2)))))) h
theorem kxn(T:Txt K mg ae a9)(au:jvd P w K mg base)(F:Fun K "plain_lets" "plain_lets" jx3 f fd):FnOk P w K mg base (CXE P w) 3 f fd ["plain","row"] (spF K mg 2 jvl):=
 k8 F sc_plain_lets (kJ rfl) λb6 A outer s H vs Q E hr h=>have nd:=sc_plain_lets.nd;kK rfl
  (j8 (qA nd (qC au hr (j5 (cv 0) (j5 (cv 1) j9)))) (jq (jJ (x3 (j6 (xW qqh qvg (vv 2) kn (jZ _))) (wW (jV (kx (kx (kx (vv 0) ki) (kx (vv 2) ki)) ki))))))) h
theorem kxo(T:Txt K mg ae a9)  (F:Fun K "keepers_in" "keepers_in" jx4 f fd):FnOk P w K mg base (CXE P w) 1 f fd ["plain","room"] (spF K mg 2 m_keepers_in):=
 k8 F kx9 (kJ rfl) λb6 A outer s H vs Q E hr h=>kK rfl
  (jq (jJ (Zw (kz (vz hr.units) vK (vv 1) (j6 (q_C (zw T.c_NOWHERE) (λ_=>vx))) (jZ _) zx) kI (jV (kx (kx (kx (vv 0) ki) (vv 1)) ki))))) h
theorem kvy(T:Txt K mg ae a9)  (F:Fun K "standing_in" "standing_in" jwe f fd):FnOk P w K mg base (CXE P w) 1 f fd ["room","names"] (spF K mg 2 m_standing_in):=
 k8 F kvt (kJ rfl) λb6 A outer s H vs Q E hr h=>kK rfl
  (jq (jJ (Zw (kz (vz hr.units) vK (vv 0) (j6 (q_C (zw T.c_NOWHERE) (λ_=>vx))) (jZ _) zx) kN (v6 (o:=.no) (j5 (cv 0) (j5 (qT (vv 1) T.b_tuple) j9)))))) h
theorem kj5(T:Txt K mg ae a9)(bw:kki P w K mg base)(bo:kjn P w K mg base)(F:Fun K "first_standings" "first_standings" jqi f fd):FnOk P w K mg base (CXE P w) 2 f fd ["one","other","pair"] (spF K mg 3 m_first_standings):=
 k8 F sc_first_standings (kJ rfl) λb6 A outer s H vs Q E hr h=>have nd:=sc_first_standings.nd;kK rfl
  (j8 (qA nd (qC bw hr (j5 (cv 0) (j5 (jV (kx (vv 2) ki)) j9)))) (j8 (qA nd (Q1 (vvq K) vzk (j6 (qm .rt 2 [] 7 ["i","j"] (wK (jV (kx (vv 2) ki))) (λhN _ _ _ _ _=>(Vj (is:=[0,1]) (V5 K (t:=gNs [0,1]) (n:=2) (xx (zZ (i:=0) hN rfl (by trivial)) (xx (zZ (i:=1) hN rfl (by trivial)) Vk))))) (λ_ _ _ _ _=>wq2) (λ_ _ _ _ _=>(v6 (o:=.no) (j5 (cv 1) (j5 (cv 0) j9)))))) T.b_dict wwa)) (j8 (qA nd (wY (o:=.rt) j9)) (j8 (qF (J0 (j6 (qC bw hr (j5 (cv 1) (j5 (jV (kx (vv 2) ki)) j9)))) rfl T.b_range) (gN nd) (jq (qP (Zw (kz (xvk hr.units) xku (vv 6) (vv 4) (by rfl) xkp) (jV (xv4 hr.units (vv 4) (vv 6) (λ_ _=>rfl))) (oA (vv 3) (j6 (qL (j6 (xv3 (o:=.rt) (k:=1) (R:=[3]) ["name","own"] (xv5 (pv 5)) (λ_ _ _ _ _=>(YJ (zZ (i:=0) (show(["name","own"]:List Str).Nodup by decide +kernel) rfl (by trivial)))) (λ_ _ _ _ _=>(qxl (kz xvj (x9 (g:=λa b=>decide (b<=a))) (vv 0) (vv 1) (jZ _) JZ))) (λ_ _ _ _ _=>(cv 0)) zY #[_,_,rfl,rfl] ⋯ (show ∀j∈([3]:List Nat) ,j<7 by decide))) T.b_len))))))) (jq (jJ (v6 (o:=.no) (j5 (qC bo hr (j5 (jV (kx (vv 2) ki)) (j5 (wxz (vv 3) T.b_range T.b_list) j9))) (j5 (wq7 bo (hr.mono ⋯) zY (wz5 (kx (vv 2) ki) (wz5 (vv 5) xv7))) j9))))))))) h
theorem kqq(T:Txt K mg ae a9)(bn:kve P w K mg base)(F:Fun K "read_by_both" "read_by_both" jvp f fd):FnOk P w K mg base (CXE P w) 2 f fd ["one","other","standings","sign","name"] (spF K mg 5 m_read_by_both):=
 k8 F kqd (kJ rfl) λb6 A outer s H vs Q E hr h=>kK rfl
  (jq (jJ (v6 (o:=.no) (j5 (qC bn hr (j5 (cv 0) (j5 (jV (kx (vv 2) ki)) (j5 (cv 3) (j5 (cv 4) j9))))) (j5 (qC bn hr (j5 (cv 1) (j5 (jV (kx (vv 2) ki)) (j5 (cv 3) (j5 (cv 4) j9))))) j9))))) h
theorem qqi(T:Txt K mg ae a9)  (F:Fun K "names_of" "names_of" kjx f fd):FnOk P w K mg base (CXE P w) 1 f fd ["standing"] (spF K mg 1 m_names_of):=
 k8 F qq3 (kJ rfl) λb6 A outer s H vs Q E hr h=>kK rfl
  (jq (jJ (Zw (kz JX JW (vv 0) kn (jZ _) Kx) (v6 (o:=.no) j9) (jV (kx (vv 0) ki))))) h
theorem qxw(T:Txt K mg ae a9)  (F:Fun K "room_of" "room_of" kqf f fd):FnOk P w K mg base (CXE P w) 1 f fd ["standing"] (spF K mg 1 m_room_of):=
 k8 F qxf (kJ rfl) λb6 A outer s H vs Q E hr h=>kK rfl
  (jq (jJ (Zw (kz JX JW (vv 0) kn (jZ _) Kx) (q_C (zw T.c_NOWHERE) (λ_=>vx)) (jV (kx (vv 0) ki))))) h
theorem qxy(T:Txt K mg ae a9)(b9:kkd P w K mg base)(fj:qkr P w K mg base)(F:Fun K "pair_of" "pair_of" kqh f fd):FnOk P w K mg base (CXE P w) 2 f fd ["standings"] (spF K mg 1 m_pair_of):=
 k8 F sc_pair_of (kJ rfl) λb6 A outer s H vs Q E hr h=>have nd:=sc_pair_of.nd;kK rfl
  (j8 (qA nd (qC b9 hr (j5 (jV (kx (vv 0) ki)) j9))) (j8 (qA nd (qC b9 hr (j5 (jV (kx (vv 0) ki)) j9))) (j8 (kxk (i:=3) (o:=.rt) (k:=2) (R:=[2]) ["i","name","theirs"] nd rfl (by trivial) (vk7 (cv 1) rfl T.b_enumerate) (λ_ _ _ _ _=>(Vj (is:=[0,1]) (V5 K (t:=gNs [0,1]) (n:=2) (xx (zZ (i:=0) (show(["i","name","theirs"]:List Str).Nodup by decide +kernel) rfl (by trivial)) (xx (zZ (i:=1) (show(["i","name","theirs"]:List Str).Nodup by decide +kernel) rfl (by trivial)) Vk))))) (λ_ _ _ _ _=>(qxl (kz (vkp hr.units) vw0 (vv 1) (vv 2) (by rfl) vzi))) (λ_ _ _ _ _=>(v6 (o:=.no) (j5 (cv 0) (j5 (ZX hr.units (vv 2) (vv 1)) j9)))) zY #[_,_,rfl,rfl] ⋯ (show ∀j∈([2]:List Nat) ,j<4 by decide)) (jq (jJ (v6 (o:=.no) (j5 (qC fj hr (j5 (jV (kx (vv 0) ki)) j9)) (j5 (qC fj hr (j5 (jV (kx (vv 0) ki)) j9)) (j5 (qT (vv 3) T.b_tuple) j9))))))))) h
theorem kqr(T:Txt K mg ae a9)(b9:kkd P w K mg base)(F:Fun K "held_by_both" "held_by_both" jvq f fd):FnOk P w K mg base (CXE P w) 2 f fd ["standings"] (spF K mg 1 m_held_by_both):=
 k8 F sc_held_by_both (kJ rfl) λb6 A outer s H vs Q E hr h=>have nd:=sc_held_by_both.nd;kK rfl
  (j8 (qA nd (qC b9 hr (j5 (jV (kx (vv 0) ki)) j9))) (jq (jJ (oA (vv 1) (j6 (qT (j6 (qm .rt 1 [1] 2 ["name","ours"] (wK (qC b9 hr (j5 (jV (kx (vv 0) ki)) j9))) (λhN _ _ _ _ _=>(YJ (zZ (i:=0) hN rfl (by trivial)))) (λ_ _ _ _ _=>(qxl (kz (kj3 hr.units) kjm (vv 0) (vv 1) (by rfl) kjk))) (λ_ _ _ _ _=>(cv 0)))) T.b_tuple)))))) h
theorem kxq(T:Txt K mg ae a9)  (F:Fun K "is_good_in" "is_good_in" jx6 f fd):FnOk P w K mg base (CXE P w) 1 f fd ["plain","room"] (spF K mg 2 m_is_good_in):=
 k8 F kxb (kJ rfl) λb6 A outer s H vs Q E hr h=>kK rfl
  (jq (jJ (x3 (j6 (xW (ZJ hr.units) YZ (vv 1) (j6 (q_C (zw T.c_NOWHERE) (λ_=>vx))) (jZ _))) (wW (jV (kx (kx (kx (vv 0) ki) (vv 1)) ki)))))) h
theorem kxr(T:Txt K mg ae a9)  (F:Fun K "is_good_by" "is_good_by" jx7 f fd):FnOk P w K mg base (CXE P w) 1 f fd ["word","ours","theirs"] (spF K mg 3 m_is_good_by):=
 k8 F kxc (kJ rfl) λb6 A outer s H vs Q E hr h=>kK rfl
  (j8 (q9 (kz (vz hr.units) vK (vv 0) ks (jZ _) zx) (jq (jJ (x3 (vv 1) (wW (cv 2))))) kZ) (j8 (q9 (kz (vz hr.units) vK (vv 0) ks (jZ _) zx) (jq (jJ (xwt (vv 1) (wW (cv 2))))) kZ) (j8 (q9 (kz (vz hr.units) vK (vv 0) ks (jZ _) zx) (jq (jJ (x3 (vv 1) (wW (vwu (vv 2)))))) kZ) (jq (jJ (xW (ZJ hr.units) YZ (vv 1) (vv 2) (jZ _))))))) h
theorem kw0(T:Txt K mg ae a9)(gj:qks P w K mg base)(ax:jvx P w K mg base)(F:Fun K "joined_case" "joined_case" jwg f fd):FnOk P w K mg base (CXE P w) 3 f fd ["standings","numbers"] (spM K mg 1 m_joined_case):=
 k8 F sc_joined_case (vjk rfl) λb6 A outer s H vs Q E hr h=>have nd:=sc_joined_case.nd;vv0 rfl
  (j8 (qA nd (qC gj hr (j5 (cv 0) j9))) (j8 (q9 (kz (vz hr.units) vK (vv 2) (j6 (v6 (o:=.no) (j5 (q_C (zw T.c_NOWHERE) (λ_=>vx)) (j5 (q_C (zw T.c_NOWHERE) (λ_=>vx)) (j5 (v6 (o:=.no) j9) j9))))) (jZ _) zx) (jq (jJ kN)) kZ) (jq (jJ (v6 (o:=.no) (j5 (wxu (i:=1) hr.units (pv 1) (vv 2) (j6 (K7 (kva K) qvh (vv 1) T.b_len qwx))) (j5 (QE.weak (qC ax hr (j5 (cv 0) j9))) xva))))))) h
theorem kvz(T:Txt K mg ae a9)(bf:jw8 P w K mg base)(ax:jvx P w K mg base)(da:kkk P w K mg base)(cb:jzc P w K mg base)(bv:kkj P w K mg base)(cm:kjp P w K mg base)(F:Fun K "joined_room" "joined_room" jwf f fd):FnOk P w K mg base (CXE P w) 4 f fd ["word","one","other","pair","numbers"] (spM K mg 4 m_joined_room):=
 k8 F sc_joined_room (vjk rfl) λb6 A outer s H vs Q E hr h=>have nd:=sc_joined_room.nd;vv0 rfl
  (j8 (qA nd (qC bf hr (j5 (cv 1) (j5 (cv 2) (j5 (cv 3) j9))))) (j8 (qA nd (qL (j6 (qC ax hr (j5 (cv 5) j9))) T.b_len)) (j8 (qA nd (wY (o:=.rt) j9)) (j8 (qF (wK (jV (kx (vv 1) ki))) (gN nd) (j8 (kxk (i:=9) (o:=.rt) (k:=1) (R:=[1,2,5,8]) ["name","one","other","standings","sign"] nd rfl (by trivial) (J0 (j6 (oA (vv 6) ki)) rfl T.b_range) (λ_ _ _ _ _=>(YJ (zZ (i:=0) (show(["name","one","other","standings","sign"]:List Str).Nodup by decide +kernel) rfl (by trivial)))) (λ_ _ _ _ _=>wq2) (λ_ _ _ _ _=>(qC cb hr (j5 (cv 1) (j5 (cv 2) (j5 (cv 3) (j5 (cv 4) (j5 (cv 0) j9))))))) zY #[_,_,rfl,rfl] ⋯ (show ∀j∈([1,2,5,8]:List Nat) ,j<10 by decide)) (jq (qP (qM .rt 1 [4] 10 ["both","numbers"] (wK (QE.weak (cv 9))) (λ_ _ _ _ _=>(vk8 (i:=1) cm (hr.mono ⋯) zY (wxy (cv 0) (xwu (i:=1) (pv 1)))))))))) (jq (jJ (v6 (o:=.no) (j5 (cv 6) (j5 (qC da hr (j5 (cv 0) (j5 (qC bv hr (j5 (cv 1) (j5 (jV (kx (vv 3) ki)) j9))) (j5 (qC bv hr (j5 (cv 2) (j5 (jV (kx (vv 3) ki)) j9))) j9)))) (j5 (cv 7) j9)))))))))) h
theorem vkr(T:Txt K mg ae a9)(d9:kwx P w K mg base)(ci:kjo P w K mg base)(F:Fun K "joined" "joined" kxe f fd):FnOk P w K mg base (CXE P w) 5 f fd ["word","one","other"] (spF K mg 3 m_joined):=
 k8 F sc_joined (kJ rfl) λb6 A outer s H vs Q E hr h=>have nd:=sc_joined.nd;kK rfl
  (j8 (q9 (QW.pt (J8 (kz (kj3 hr.units) kjm (vv 0) (j6 (xww T.c_WORDS)) (by rfl) kjk) (KJ (kz (ZJ hr.units) YZ (kx (vv 1) ki) (kx (vv 2) ki) (jZ _) wwe)))) (jq (qqe T.e_NoFit T.m_NoFit zY qje)) kZ) (j8 (q9 (QW.pt (J8 (wJ (z5 (j6 (qC d9 hr (j5 (cv 1) j9))))) (KJ (wJ (z5 (j6 (qC d9 hr (j5 (cv 2) j9)))))))) (jq (qqe T.e_TooGreat T.m_TooGreat zY qje)) kZ) (j8 (qA nd (wz3 hr.units (xww T.c_FIRST_PAIR) kI)) (j8 (qA nd (wY (o:=.rt) j9)) (j8 (wq1 (wzv #[_,_,rfl,rfl]) (kz vxh (x9 (g:=λa b=>decide (a<b))) (j6 (qL (vv 4) T.b_len)) (j6 (K7 (kva K) qvh (vv 3) T.b_len qwx)) (jZ _) JZ) (j8 (q9 (kz vxi (x9 (g:=λa b=>decide (b<a))) (j6 (K7 (kva K) qvh (vv 3) T.b_len qwx)) (j6 (q_C (zw T.c_MOST_ROOMS_joins) (λ_=>vx))) (jZ _) JZ) (jq (qqe T.e_TooGreat T.m_TooGreat zY qje)) kZ) (jq (qP (vk8 (i:=3) ci (hr.mono ⋯) zY (wxy (cv 0) (wxy (cv 1) (wxy (cv 2) (wxy (jV (kx (j6 (Q1 (kwv rfl) qx1 (vv 3) T.b_list Q0)) (j6 (qL (vv 4) T.b_len)))) (xwu (i:=3) (pv 3))))))))))) (jq (jJ (v6 (o:=.no) (j5 (v6 (o:=.no) (j5 (Q1 (kjj K) kvd (kx (vv 1) ki) T.b_list Q0) (j5 (cv 4) j9))) (j5 (Q1 (kwv rfl) qx1 (vv 3) T.b_list Q0) j9)))))))))) h
theorem kqs(T:Txt K mg ae a9)  (F:Fun K "_law_cell_at" "_law_cell_at" jvr f fd):FnOk P w K mg base (CXE P w) 1 f fd ["_law_script","_law_k"] (spF K mg 2 m__law_cell_at):=
 k8 F kqe (kJ rfl) λb6 A outer s H vs Q E hr h=>kK rfl
  (j8 (q9 (kz vxh (x9 (g:=λa b=>decide (a<b))) (vv 1) (j6 (qL (vv 0) T.b_len)) (jZ _) JZ) (jq (jJ (jV (kx (vv 0) (vv 1))))) kZ) (jq (jJ kI))) h
theorem kxs(T:Txt K mg ae a9)  (F:Fun K "_law_whole" "_law_whole" jx8 f fd):FnOk P w K mg base (CXE P w) 1 f fd ["_law_found"] (spF K mg 1 m__law_whole):=
 k8 F kxd (kJ rfl) λb6 A outer s H vs Q E hr h=>kK rfl
  (jq (jJ (x3 (j6 (K5 (vv 0) T.b_isinstance T.b_int vvt rfl)) (wW (vwu (j6 (K5 (vv 0) T.b_isinstance T.b_bool kzj rfl))))))) h
theorem kw2(T:Txt K mg ae a9)  (F:Fun K "_law_stream" "_law_stream" jwi f fd):FnOk P w K mg base (CXE P w) 1 f fd ["_law_cell","_law_many"] (spF K mg 2 m__law_stream):=
 k8 F sc__law_stream (kJ rfl) λb6 A outer s H vs Q E hr h=>have nd:=sc__law_stream.nd;kK rfl
  (j8 (qA nd (wY (o:=.rt) j9)) (j8 (q9 (kz (vz hr.units) vK (j6 (oM (vv 0) ki)) ki (jZ _) zx) (j8 (qA nd (x5 J7 Jk (vv 0) ki)) (j8 (qF (J0 (vv 1) rfl T.b_range) (gN nd) (j8 (qP (oM (vv 0) ki)) (jq (qA nd (x5 J7 Jk (vv 0) ki))))) (jq (jJ (wxx (pv 2)))))) kZ) (j8 (qA nd (oA (j6 (oM (j6 (x5 J7 Jk (vv 0) ki)) ki)) ki)) (j8 (qF (J0 (j6 (oA (vv 1) ki)) rfl T.b_range) (gN nd) (j8 (qA nd (oM (j6 (oA (j6 (oA (j6 (oX (vv 4) (vv 4))) (j6 (oX ki (vv 4))))) (vv 3))) ki)) (jq (qP (oM (j6 (oA (j6 (oX (vv 4) ki)) (j6 (oX ki (vv 3))))) ki))))) (jq (jJ (K6 (vv 2) (Jx ki) Kw))))))) h
theorem kxt(T:Txt K mg ae a9)(b8:jwp P w K mg base)(F:Fun K "_law_signs" "_law_signs" jx9 f fd):FnOk P w K mg base (CXE P w) 2 f fd ["_law_cell"] (spF K mg 1 m__law_signs):=
 k8 F sc__law_signs (kJ rfl) λb6 A outer s H vs Q E hr h=>have nd:=sc__law_signs.nd;kK rfl
  (j8 (qA nd kS) (j8 (qA nd (qC b8 hr (j5 (cv 0) (j5 kI j9)))) (j8 (qA nd (wz0 qje (j6 (qM .rt 1 [1] 7 ["_law_x","_law_letters"] (wK (K6 (vv 2) Kw (Jx (j6 (oA ki (j6 (oM (vv 0) ki))))))) (λ_ _ _ _ _=>(jV (kx (vv 1) (j6 (oM (vv 0) ki))))))))) (j8 (qA nd (oM (j6 (x5 J7 Jk (vv 0) ki)) (j6 (qL (vv 3) T.b_len)))) (j8 (qA nd (wY (o:=.rt) j9)) (j8 (qF (J0 (kx (j6 (wY (o:=.rt) (j5 kI (j5 kI (j5 kI (j5 kI (j5 kI (j5 kI (j5 kI (j5 kI j9)))))))))) (j6 (oM (j6 (x5 J7 Jk (vv 0) ki)) ki))) rfl T.b_range) (gN nd) (jq (qP (oA (j6 (oA (j6 (K6 (vv 3) Kw (Jx (vv 4)))) (kx (vv 1) (j6 (oA (j6 (oM (kx (vv 2) ki) ki)) (vv 6)))))) (j6 (K6 (vv 3) (Jx (j6 (oA (vv 4) ki))) Kw)))))) (jq (jJ (wxx (pv 5)))))))))) h
theorem kxw(T:Txt K mg ae a9)  (F:Fun K "_law_fills" "_law_fills" jxc f fd):FnOk P w K mg base (CXE P w) 1 f fd ["_law_number","_law_need","_law_free"] (spF K mg 3 m__law_fills):=
 k8 F sc__law_fills (kJ rfl) λb6 A outer s H vs Q E hr h=>have nd:=sc__law_fills.nd;kK rfl
  (j8 (qA nd (wxz (vv 2) T.b_range T.b_list)) (j8 (qA nd (wY (o:=.rt) j9)) (j8 (qF (J0 (vv 1) rfl T.b_range) (gN nd) (j8 (qP (xv2 (i:=3) (vkl K PySem.F.plainAttrs_list PySem.F.slot_list_pop PySem.F.type_list_pop vxl (pv 3) (ww (j6 (oM (vv 0) (j6 (qL (vv 3) T.b_len)))) x6)))) (jq (qA nd (oA (j6 (x5 J7 Jk (vv 0) ki)) (j6 (oX ki (vv 5)))))))) (jq (jJ (qT (vv 4) T.b_tuple)))))) h
theorem qjp(T:Txt K mg ae a9)(de:kkp P w K mg base)(F:Fun K "_law_case" "_law_case" jzp f fd):FnOk P w K mg base (CXE P w) 2 f fd ["_law_number","_law_sizes","_law_free"] (spF K mg 3 m__law_case):=
 k8 F sc__law_case (kJ rfl) λb6 A outer s H vs Q E hr h=>have nd:=sc__law_case.nd;kK rfl
  (j8 (q9 (kz (vz hr.units) vK (j6 (oM (vv 0) ki)) ki (jZ _) zx) (jq (jJ kN)) kZ) (j8 (kxk (i:=3) (o:=.rt) (k:=1) (R:=[1,2]) ["_law_to","_law_sizes","_law_free"] nd rfl (by trivial) (J0 (j6 (qL (vv 1) T.b_len)) rfl T.b_range) (λ_ _ _ _ _=>(YJ (zZ (i:=0) (show(["_law_to","_law_sizes","_law_free"]:List Str).Nodup by decide +kernel) rfl (by trivial)))) (λ_ _ _ _ _=>(qxl (kz KZ (x9 (g:=λa b=>decide (a<=b))) (kx (vv 1) (vv 0)) (vv 2) (jZ _) JZ))) (λ_ _ _ _ _=>(cv 0)) zY #[_,_,rfl,rfl] ⋯ (show ∀j∈([1,2]:List Nat) ,j<5 by decide)) (j8 (qA nd (jV (kx (vv 3) (j6 (oM (j6 (x5 J7 Jk (vv 0) ki)) (j6 (qL (vv 3) T.b_len))))))) (jq (jJ (v6 (o:=.no) (j5 (cv 4) (j5 (qC de hr (j5 (x5 J7 Jk (vv 0) ki) (j5 (jV (kx (vv 1) (vv 4))) (j5 (cv 2) j9)))) j9)))))))) h
theorem kxv(T:Txt K mg ae a9)(b8:jwp P w K mg base)(dq:kvo P w K mg base)(F:Fun K "_law_plain" "_law_plain" jxb f fd):FnOk P w K mg base (CXE P w) 3 f fd ["_law_cell","_law_signs_here"] (spF K mg 2 m__law_plain):=
 k8 F sc__law_plain (kJ rfl) λb6 A outer s H vs Q E hr h=>have nd:=sc__law_plain.nd;kK rfl
  (j8 (qA nd (qC b8 hr (j5 (cv 0) (j5 kI j9)))) (j8 (qA nd (jV (kx (j6 (wY (o:=.rt) (j5 kI (j5 kI (j5 kI (j5 kI (j5 kI (j5 kI (j5 kI (j5 kI j9)))))))))) (j6 (oM (kx (vv 2) ki) ki))))) (j8 (qA nd kI) (j8 (q9 (QW.pt (vk4 (kz (vz hr.units) vK (vv 3) ki (jZ _) zx) (qqd (kz (vz hr.units) vK (j6 (oM (kx (vv 2) ki) ki)) ki (jZ _) zx)))) (jq (qA nd kI)) kZ) (j8 (qA nd (oA (j6 (wY (o:=.rt) (j5 kI j9))) (j6 (qM .rt 1 [2,4] 13 ["_law_k","_law_xs","_law_most"] (J0 (j6 (x5 wj6 wk4 (vv 3) ki)) rfl T.b_range) (λ_ _ _ _ _=>(oM (j6 (x5 J7 Jk (kx (vv 1) (j6 (oA ki (vv 0)))) ki)) (j6 (oA (vv 2) ki)))))))) (j8 (qA nd (wY (o:=.rt) j9)) (j8 (qA nd kI) (j8 (qF (J0 (vv 3) rfl T.b_range) (gN nd) (j8 (qA nd (wY (o:=.rt) j9)) (j8 (qF (J0 (j6 (qL (vv 1) T.b_len)) rfl T.b_range) (gN nd) (j8 (qA nd (wY (o:=.rt) j9)) (j8 (qF (J0 (j6 (oA (kx (vv 5) (vv 8)) ki)) rfl T.b_range) (gN nd) (j8 (qP (qC dq hr (j5 (jV (kx (vv 2) (vv 7))) (j5 (cv 5) (j5 (oA (kx (vv 5) (vv 8)) (j6 (Q1 vvm xkt (j6 (xW (vz hr.units) vK (vv 12) (kx (vv 5) (vv 8)) (jZ _))) T.b_int vvt))) j9))))) (jq (qA nd (oA (vv 7) ki))))) (jq (qP (cv 11)))))) (j8 (qP (v6 (o:=.no) (j5 (jV (kx (vv 5) (vv 8))) (j5 (xW (vz hr.units) vK (j6 (oM (kx (vv 2) (vv 7)) ki)) ki (jZ _)) (j5 (cv 9) j9))))) (jq (qA nd (oA (vv 7) ki))))))) (jq (jJ (v6 (o:=.no) (j5 (Q1 (kjj K) kvd (vv 1) T.b_list Q0) (j5 (cv 6) j9))))))))))))) h
theorem qjk(T:Txt K mg ae a9)  (F:Fun K "_law_read" "_law_read" jzk f fd):FnOk P w K mg base (CXE P w) 1 f fd ["_law_plain_here","_law_standing","_law_sign","_law_name"] (spF K mg 4 m__law_read):=
 k8 F sc__law_read (kJ rfl) λb6 A outer s H vs Q E hr h=>have nd:=sc__law_read.nd;kK rfl
  (j8 (q9 (kz JX JW (vv 1) kn (jZ _) Kx) (jq (jJ kN)) kZ) (j8 (vk3 (cv 1) (Vj (is:=[4,5]) (V5 K (t:=gNs [4,5]) (n:=2) (xx (gn nd) (xx (gn nd) Vk))))) (j8 (vk3 (jV (kx (kx (vv 0) ki) (vv 4))) (Vj (is:=[6,7,8]) (V5 K (t:=gNs [6,7,8]) (n:=3) (xx (gn nd) (xx (gn nd) (xx (gn nd) Vk)))))) (j8 (qA nd (cv 6)) (j8 (q9 (kz (vkp hr.units) vw0 (vv 3) (vv 5) (by rfl) vzi) (jq (qA nd (ZX hr.units (vv 5) (vv 3)))) kZ) (j8 (qA nd (jV (kx (kx (vv 8) (j6 (ZX hr.units (kx (vv 0) ki) (vv 2)))) (vv 9)))) (j8 (q9 (kz JX JW (vv 10) kn (jZ _) Kx) (jq (jJ kN)) kZ) (jq (jJ (v6 (o:=.no) (j5 (jV (kx (vv 10) ki)) (j5 (qT (j6 (qM .rt 1 [5,3] 11 ["_law_fill","_law_names","_law_name"] (wK (jV (kx (vv 10) ki))) (λ_ _ _ _ _=>(jV (kx (j6 (oA (j6 (Q1 (kjj K) kvd (vv 1) T.b_list Q0)) (j6 (wY (o:=.rt) (j5 (cv 2) j9))))) (vv 0)))))) T.b_tuple) j9)))))))))))) h
theorem qjm(T:Txt K mg ae a9)  (F:Fun K "_law_pair" "_law_pair" jzm f fd):FnOk P w K mg base (CXE P w) 1 f fd ["_law_here","_law_there"] (spF K mg 2 m__law_pair):=
 k8 F sc__law_pair (kJ rfl) λb6 A outer s H vs Q E hr h=>have nd:=sc__law_pair.nd;kK rfl
  (j8 (qA nd (wY (o:=.rt) (j5 (v6 (o:=.no) j9) (j5 (v6 (o:=.no) j9) j9)))) (j8 (qA nd (wY (o:=.rt) (j5 (xq3 qvq qx0 ki) (j5 (xq3 qvq qx0 ki) j9)))) (j8 (qF (wz1 (wY (o:=.rt) (j5 (cv 0) (j5 (cv 1) j9))) rfl T.b_enumerate) (Vj (is:=[4,5]) (V5 K (t:=gNs [4,5]) (n:=2) (xx (gn nd) (xx (gn nd) Vk)))) (jq (q9 (kz qqh qvg (vv 5) kn (jZ _) wwc) (j8 (wxv (i:=3) (pv 3) (vv 4) (jV (kx (vv 5) ki))) (jq (wxv (i:=2) (pv 2) (vv 4) (jV (kx (vv 5) ki))))) kZ))) (j8 (kxk (i:=6) (o:=.rt) (k:=2) (R:=[2]) ["_law_i","_law_name","_law_names"] nd rfl (by trivial) (vk7 (jV (kx (vv 2) ki)) rfl T.b_enumerate) (λ_ _ _ _ _=>(Vj (is:=[0,1]) (V5 K (t:=gNs [0,1]) (n:=2) (xx (zZ (i:=0) (show(["_law_i","_law_name","_law_names"]:List Str).Nodup by decide +kernel) rfl (by trivial)) (xx (zZ (i:=1) (show(["_law_i","_law_name","_law_names"]:List Str).Nodup by decide +kernel) rfl (by trivial)) Vk))))) (λ_ _ _ _ _=>(qxl (kz (vkp hr.units) vw0 (vv 1) (kx (vv 2) ki) (by rfl) vzi))) (λ_ _ _ _ _=>(v6 (o:=.no) (j5 (cv 0) (j5 (ZX hr.units (kx (vv 2) ki) (vv 1)) j9)))) zY #[_,_,rfl,rfl] ⋯ (show ∀j∈([2]:List Nat) ,j<7 by decide)) (jq (jJ (v6 (o:=.no) (j5 (jV (kx (vv 3) ki)) (j5 (jV (kx (vv 3) ki)) (j5 (qT (vv 6) T.b_tuple) j9)))))))))) h
theorem qjl(T:Txt K mg ae a9)  (F:Fun K "_law_pool" "_law_pool" jzl f fd):FnOk P w K mg base (CXE P w) 1 f fd ["_law_cell","_law_many"] (spF K mg 2 jwn):=
 k8 F qj1 (kJ rfl) λb6 A outer s H vs Q E hr h=>kK rfl
  (jq (jJ (qM .rt 1 [0] 2 ["_law_k","_law_cell"] (J0 (vv 1) rfl T.b_range) (λ_ _ _ _ _=>(x5 wj6 wk4 (j6 (oX (j6 (oA (j6 (oM (vv 1) (j6 (x5 wj7 wk5 ki ki)))) ki)) (j6 (oA (vv 0) ki)))) (j6 (oX ki (j6 (x5 wj7 wk5 ki ki))))))))) h
theorem qjj(T:Txt K mg ae a9)  (F:Fun K "_law_rows" "_law_rows" jzj f fd):FnOk P w K mg base (CXE P w) 1 f fd ["_law_signs_here","_law_pool_here","_law_cells"] (spF K mg 3 jva):=
 k8 F sc__law_rows (kJ rfl) λb6 A outer s H vs Q E hr h=>have nd:=sc__law_rows.nd;kK rfl
  (j8 (qA nd (wY (o:=.dp) (j5 (wY (o:=.dp) j9) j9))) (j8 (qF (wK (cv 2)) (gN nd) (j8 (qA nd (jV (kx (vv 0) (j6 (oM (vv 4) (j6 (qL (vv 0) T.b_len))))))) (j8 (q9 (kz (vz hr.units) vK (j6 (oM (j6 (x5 J7 Jk (vv 4) ki)) ki)) ki (jZ _) zx) (jq (qA nd (oA (j6 (K6 (kx (vv 0) ki) Kw (Jx ki))) ks))) kZ) (j8 (wxw (i:=3) (j6 (xq3 qvq qx0 ki)) (v6 (o:=.no) (j5 (cv 5) (j5 (jV (kx (vv 1) (j6 (oM (j6 (x5 J7 Jk (vv 4) ki)) (j6 (qL (vv 1) T.b_len)))))) j9))) (pv 3) (λ_ _=>rfl) rfl qju) (jq (q9 (kz vxi (x9 (g:=λa b=>decide (b<a))) (j6 (qL (kx (vv 3) (j6 (xq3 qvq qx0 ki))) T.b_len)) (j6 (oM (j6 (x5 J7 Jk (vv 4) ki)) ki)) (jZ _) JZ) (jq (qP (wY (o:=.dp) j9))) kZ)))))) (jq (q_fz (i:=3) (jJ (wxx (pv 3))))))) h
theorem kku(T:Txt K mg ae a9)(f8:kvi P w K mg base)(F:Fun K "_law_read_row" "_law_read_row" jv4 f fd):FnOk P w K mg base (CXE P w) 2 f fd ["_law_plain_here","_law_row"] (spF K mg 2 jkb):=
 k8 F sc__law_read_row (kJ rfl) λb6 A outer s H vs Q E hr h=>have nd:=sc__law_read_row.nd;kK rfl
  (j8 (qA nd (v6 (o:=.no) (j5 kI (j5 (v6 (o:=.no) j9) j9)))) (j8 (qF (wK (cv 1)) (Vj (is:=[3,4]) (V5 K (t:=gNs [3,4]) (n:=2) (xx (gn nd) (xx (gn nd) Vk)))) (j8 (q9 (kz (kj3 hr.units) kjm (vv 3) (kx (vv 0) ki) (by rfl) kjk) (jq (qA nd kN)) kZ) (jq (qA nd (qC f8 hr (j5 (cv 0) (j5 (cv 2) (j5 (cv 3) (j5 (cv 4) j9))))))))) (jq (jJ (wxx (pv 2)))))) h
theorem qjo(T:Txt K mg ae a9)  (F:Fun K "_law_good" "_law_good" jzo f fd):FnOk P w K mg base (CXE P w) 1 f fd ["_law_plain_here","_law_standing"] (spF K mg 2 jvb):=
 k8 F qj3 (kJ rfl) λb6 A outer s H vs Q E hr h=>kK rfl
  (jq (jJ (x3 (j6 (xW qqh qvg (vv 1) kn (jZ _))) (wW (jV (kx (kx (kx (vv 0) ki) (kx (vv 1) ki)) ki)))))) h
theorem qz1(T:Txt K mg ae a9)  (F:Fun K "_law_by" "_law_by" kqk f fd):FnOk P w K mg base (CXE P w) 1 f fd ["_law_word","_law_here","_law_there"] (spF K mg 3 kjb):=
 k8 F qxi (kJ rfl) λb6 A outer s H vs Q E hr h=>kK rfl
  (j8 (q9 (kz (vz hr.units) vK (vv 0) ks (jZ _) zx) (jq (jJ (x3 (vv 1) (wW (cv 2))))) kZ) (j8 (q9 (kz (vz hr.units) vK (vv 0) ks (jZ _) zx) (jq (jJ (xwt (vv 1) (wW (cv 2))))) kZ) (j8 (q9 (kz (vz hr.units) vK (vv 0) ks (jZ _) zx) (jq (jJ (x3 (vv 1) (wW (vwu (vv 2)))))) kZ) (jq (jJ (xW (ZJ hr.units) YZ (vv 1) (vv 2) (jZ _))))))) h
theorem qjn(T:Txt K mg ae a9)  (F:Fun K "_law_held" "_law_held" jzn f fd):FnOk P w K mg base (CXE P w) 1 f fd ["_law_standing"] (spF K mg 1 jqn):=
 k8 F qj2 (kJ rfl) λb6 A outer s H vs Q E hr h=>kK rfl
  (j8 (q9 (kz JX JW (vv 0) kn (jZ _) Kx) (jq (jJ (wY (o:=.rt) j9))) kZ) (jq (jJ (Q1 (kjj K) kvd (kx (vv 0) ki) T.b_list Q0)))) h
theorem kw3(T:Txt K mg ae a9)(au:jvd P w K mg base)(bp:kvl P w K mg base)(cy:kkl P w K mg base)(fe:kvk P w K mg base)(F:Fun K "_law_stands" "_law_stands" jwj f fd):FnOk P w K mg base (CXE P w) 3 f fd ["_law_made","_law_pairs","_law_row","_law_left","_law_right_here"] (spF K mg 5 jqa):=
 k8 F sc__law_stands (kJ rfl) λb6 A outer s H vs Q E hr h=>have nd:=sc__law_stands.nd;kK rfl
  (j8 (qA nd (qC au hr (j5 (cv 0) (j5 (cv 2) j9)))) (j8 (q9 (QW.pt (vk4 (kz JX JW (vv 3) kn (jZ _) Kx) (qqd (kz JX JW (vv 4) kn (jZ _) Kx)))) (jq (jJ (xW JX JW (vv 5) kn (jZ _)))) kZ) (j8 (q9 (QW.pt (J8 (wJ (z5 (j6 (K5 (vv 5) T.b_isinstance T.b_tuple kzh rfl)))) (J8 (wJ (z5 (j6 (qC cy hr (j5 (jV (kx (vv 5) ki)) j9))))) (KJ (wJ (kkz KZ (x9 (g:=λa b=>decide (a<=b))) vxh (x9 (g:=λa b=>decide (a<b))) ki (kx (vv 5) ki) (j6 (qL (vv 1) T.b_len)) JZ)))))) (jq (jJ (q_C xQ (λ_=>xj)))) kZ) (j8 (qA nd (oA (j6 (qC bp hr (j5 (cv 3) j9))) (j6 (qm .rt 1 [3] 7 ["_law_name","_law_left"] (wK (qC bp hr (j5 (cv 4) j9))) (λhN _ _ _ _ _=>(YJ (zZ (i:=0) hN rfl (by trivial)))) (λ_ _ _ _ _=>(qxl (kz (kj3 hr.units) kjm (vv 0) (j6 (qC bp hr (j5 (cv 1) j9))) (by rfl) kjk))) (λ_ _ _ _ _=>(cv 0)))))) (jq (jJ (x3 (j6 (xW (vz hr.units) vK (kx (vv 1) (kx (vv 5) ki)) (j6 (qC fe hr (j5 (cv 3) (j5 (cv 4) j9)))) (jZ _))) (wW (xW (vz hr.units) vK (j6 (Q1 (kjj K) kvd (kx (vv 5) ki) T.b_list Q0)) (vv 6) (jZ _)))))))))) h
theorem kw4(T:Txt K mg ae a9)(ic:qx3 P w K mg base)(F:Fun K "_law_joined" "_law_joined" jwk f fd):FnOk P w K mg base (CXE P w) 6 f fd ["_law_word","_law_one","_law_other"] (spF K mg 3 jqb):=
 k8 F kvv (kJ rfl) λb6 A outer s H vs Q E hr h=>kK rfl
  (jq (wq3 (cs:=["TooGreat"]) #[_,_,rfl,rfl] T.m_TooGreat rfl (qv8 T.e_TooGreat T.n_TooGreat T.h_TooGreat_TooGreat qzg) (wq6 ic (hr.mono ⋯) (j5 (cv 0) (j5 (cv 1) (j5 (cv 2) j9)))) (λx_x=>(jq (jJ kN))))) h
theorem kxu(T:Txt K mg ae a9)(cg:kjr P w K mg base)(fw:kwy P w K mg base)(bc:jxq P w K mg base)(gp:qkv P w K mg base)(d8:kkh P w K mg base)(cf:kvm P w K mg base)(cj:kjq P w K mg base)(F:Fun K "_law_right" "_law_right" jxa f fd):FnOk P w K mg base (CXE P w) 9 f fd ["_law_word","_law_one","_law_other","_law_rows_here"] (spF K mg 4 jq2):=
 k8 F sc__law_right (kJ rfl) λb6 A outer s H vs Q E hr h=>have nd:=sc__law_right.nd;kK rfl
  (j8 (qA nd (qC cg hr (j5 (cv 0) (j5 (cv 1) (j5 (cv 2) j9))))) (j8 (q9 (kz JX JW (vv 4) kn (jZ _) Kx) (jq (jJ (q_C xQ (λ_=>xj)))) kZ) (j8 (vk3 (cv 4) (Vj (is:=[5,6]) (V5 K (t:=gNs [5,6]) (n:=2) (xx (gn nd) (xx (gn nd) Vk))))) (j8 (q9 (QW.pt (J8 (kz wzx wwf (j6 (qC fw hr (j5 (cv 5) j9))) (j6 (q_C xQ (λ_=>xj))) (jZ _) wwd) (J8 (kz (ZJ hr.units) YZ (j6 (qL (kx (vv 5) ki) T.b_len)) (j6 (qL (vv 6) T.b_len)) (jZ _) wwe) (KJ (kz vxi (x9 (g:=λa b=>decide (b<a))) (j6 (qL (vv 6) T.b_len)) ki (jZ _) JZ))))) (jq (jJ (q_C xQ (λ_=>xj)))) kZ) (j8 (qF (wK (cv 3)) (gN nd) (jq (qF (J0 (j6 (oA (j6 (qL (vv 7) T.b_len)) ki)) rfl T.b_range) (gN nd) (j8 (qA nd (qC bc hr (j5 (cv 1) (j5 (K6 (vv 7) Kw (Jx (vv 8))) j9)))) (j8 (qA nd (qC bc hr (j5 (cv 2) (j5 (K6 (vv 7) Kw (Jx (vv 8))) j9)))) (j8 (qA nd (qC gp hr (j5 (cv 0) (j5 (qC cf hr (j5 (cv 1) (j5 (cv 9) j9))) (j5 (qC cf hr (j5 (cv 2) (j5 (cv 10) j9))) j9))))) (j8 (qA nd (qC d8 hr (j5 (cv 5) (j5 (K6 (vv 7) Kw (Jx (vv 8))) j9)))) (j8 (q9 (QW.pt (J8 (wJ (z5 (j6 (K5 (vv 12) T.b_isinstance T.b_bool kzj rfl)))) (KJ (kz (ZJ hr.units) YZ (vv 12) (vv 11) (jZ _) wwe)))) (jq (jJ (q_C xQ (λ_=>xj)))) kZ) (jq (q9 (QW.pt (vk4 (kz (vz hr.units) vK (j6 (oM (vv 8) ki)) ki (jZ _) zx) (qqd (wJ (z5 (j6 (qC cj hr (j5 (cv 5) (j5 (cv 6) (j5 (K6 (vv 7) Kw (Jx (vv 8))) (j5 (cv 9) (j5 (cv 10) j9)))))))))))) (jq (jJ (q_C xQ (λ_=>xj)))) kZ)))))))))) (jq (jJ (q_C xQ (λ_=>xj))))))))) h
theorem xj2(T:Txt K mg ae a9)(db:kkm P w K mg base)(bz:kko P w K mg base)(dz:kvj P w K mg base)(dw:kvh P w K mg base)(aq:jzd P w K mg base)(cz:kkn P w K mg base)(F:Fun K "law" "law" wkp f fd):FnOk P w K mg base (CXE P w) 10 f fd ["_law_script"] (spF K mg 1 m_law):=
 k8 F sc_law (kJ rfl) λb6 A outer s H vs Q E hr h=>have nd:=sc_law.nd;kK rfl
  (j8 (qA nd (qC db hr (j5 (qC aq hr (j5 (cv 0) (j5 kI j9))) j9))) (j8 (qA nd (qC bz hr (j5 (qC aq hr (j5 (cv 0) (j5 kI j9))) (j5 (cv 1) j9)))) (j8 (qA nd (qC bz hr (j5 (qC aq hr (j5 (cv 0) (j5 kI j9))) (j5 (cv 1) j9)))) (j8 (qA nd (qC dz hr (j5 (qC aq hr (j5 (cv 0) (j5 kI j9))) (j5 (oA ki (j6 (oM (j6 (qC aq hr (j5 (cv 0) (j5 kI j9)))) ki))) j9)))) (j8 (qA nd (qC dw hr (j5 (cv 1) (j5 (cv 4) (j5 (K6 (vv 0) (Jx ki) (Jx ki)) j9))))) (j8 (qA nd (oM (j6 (x5 J7 Jk (j6 (qC aq hr (j5 (cv 0) (j5 kI j9)))) ki)) ki)) (j8 (qA nd (wY (o:=.rt) (j5 kS (j5 kS (j5 kS (j5 kS j9)))))) (j8 (qF (J0 ki rfl T.b_range) (gN nd) (j8 (qA nd (cv 5)) (j8 (q9 (kz vxi (x9 (g:=λa b=>decide (b<a))) (vv 8) ki (jZ _) JZ) (jq (qA nd (K6 (vv 5) Kw (Jx ki)))) kZ) (jq (q9 (wJ (z5 (j6 (qC cz hr (j5 (jV (kx (vv 7) (j6 (oM (j6 (oA (vv 6) (vv 8))) ki)))) (j5 (cv 2) (j5 (cv 3) (j5 (cv 9) j9)))))))) (jq (jJ (q_C xQ (λ_=>xj)))) kZ))))) (jq (jJ (q_C xQ (λ_=>xj)))))))))))) h
end
theorem all_mk{l:PySem.W.OpenLaw}{w:PySem.World}{K:Frag}{h:Heap}{mg:Str->Option Value}{fa:Addr}(X:K.In h)(G:h.Ns mainGlobals mg)(hfa:mg "law"=some (.ref fa)){ie eh gh bt dy fu dh im c9:Value}{df ei iy:Addr}{gi dv kr:Obj}{ae a9:Addr}
  (g0:Gf K "is_whole" kjy)
  (g1:Gf K "is_sign" kqi)
  (g2:Gf K "is_tuple_of" jwh)
  (g3:Gf K "is_below" kk1)
  (g4:Gf K "are_signs" jzh)
  (g5:Gf K "has_plain_frame" jqh)
  (g6:Gf K "is_list_of" jx5)
  (g7:Gf K "are_plain_fills" jql)
  (g8:Gf K "is_case" kqj)
  (g9:Gf K "are_cases" jzi)
  (g10:Gf K "are_plain_steps" jqj)
  (g11:Gf K "are_plain_rooms" jqk)
  (g12:Gf K "is_plain" kk0)
  (g13:Gf K "is_small" kjz)
  (g14:Gf K "read_by" kqg)
  (g15:Gf K "stands_behind" jv3)
  (g16:Gf K "plain_lets" jx3)
  (g17:Gf K "keepers_in" jx4)
  (g18:Gf K "standing_in" jwe)
  (g19:Gf K "first_standings" jqi)
  (g20:Gf K "read_by_both" jvp)
  (g21:Gf K "names_of" kjx)
  (g22:Gf K "room_of" kqf)
  (g23:Gf K "pair_of" kqh)
  (g24:Gf K "held_by_both" jvq)
  (g25:Gf K "is_good_in" jx6)
  (g26:Gf K "is_good_by" jx7)
  (g27:Gf K "joined_case" jwg)
  (g28:Gf K "joined_room" jwf)
  (g29:Gf K "joined" kxe)
  (g30:Gf K "_law_cell_at" jvr)
  (g31:Gf K "_law_whole" jx8)
  (g32:Gf K "_law_stream" jwi)
  (g33:Gf K "_law_signs" jx9)
  (g34:Gf K "_law_fills" jxc)
  (g35:Gf K "_law_case" jzp)
  (g36:Gf K "_law_plain" jxb)
  (g37:Gf K "_law_read" jzk)
  (g38:Gf K "_law_pair" jzm)
  (g39:Gf K "_law_pool" jzl)
  (g40:Gf K "_law_rows" jzj)
  (g41:Gf K "_law_read_row" jv4)
  (g42:Gf K "_law_good" jzo)
  (g43:Gf K "_law_by" kqk)
  (g44:Gf K "_law_held" jzn)
  (g45:Gf K "_law_stands" jwj)
  (g46:Gf K "_law_joined" jwk)
  (g47:Gf K "_law_right" jxa)
  (g48:Gf K "law" wkp)
  (q_LETTERS:nsIn K mainGlobals "LETTERS"=some (some ie)) (r_LETTERS:RelV (V.str "abcdefghijklmnopqrstuvwxyz") ie)
  (q_MOST_LETTERS:nsIn K mainGlobals "MOST_LETTERS"=some (some eh)) (r_MOST_LETTERS:RelV (V.int (8)) eh)
  (q_MOST_SIGNS:nsIn K mainGlobals "MOST_SIGNS"=some (some gh)) (r_MOST_SIGNS:RelV (V.int (3)) gh)
  (q_MOST_ROOMS_plains:nsIn K mainGlobals "MOST_ROOMS_plains"=some (some bt)) (r_MOST_ROOMS_plains:RelV (V.int (200)) bt)
  (q_MOST_KEEPERS:nsIn K mainGlobals "MOST_KEEPERS"=some (some dy)) (r_MOST_KEEPERS:RelV (V.int (6)) dy)
  (q_SMALL_ROOMS:nsIn K mainGlobals "SMALL_ROOMS"=some (some fu)) (r_SMALL_ROOMS:RelV (V.int (12)) fu)
  (q_SMALL_KEEPERS:nsIn K mainGlobals "SMALL_KEEPERS"=some (some dh)) (r_SMALL_KEEPERS:RelV (V.int (3)) dh)
  (q_NOWHERE:nsIn K mainGlobals "NOWHERE"=some (some im)) (r_NOWHERE:RelV (V.int (-1)) im)
  (q_MOST_ROOMS_joins:nsIn K mainGlobals "MOST_ROOMS_joins"=some (some c9)) (r_MOST_ROOMS_joins:RelV (V.int (40)) c9)
  (q_FIRST_PAIR:nsIn K mainGlobals "FIRST_PAIR"=some (some (.ref df)))
  (q_WORDS:nsIn K mainGlobals "WORDS"=some (some (.ref iy)))
  (l_FIRST_PAIR:K.lookup df=some gi)
  (t_FIRST_PAIR:xqh gi [(V.int 0),(V.int 0),.ref ei])
  (l_FIRST_PAIR_2:K.lookup ei=some dv)
  (t_FIRST_PAIR_2:xqh dv [])
  (l_WORDS:K.lookup iy=some kr)
  (t_WORDS:xqh kr [(V.str "both"),(V.str "either"),(V.str "first"),(V.str "one")])
  (z_all:nsIn K mainGlobals "all"=some none)
  (z_bool:nsIn K mainGlobals "bool"=some none)
  (z_dict:nsIn K mainGlobals "dict"=some none)
  (z_enumerate:nsIn K mainGlobals "enumerate"=some none)
  (z_int:nsIn K mainGlobals "int"=some none)
  (z_isinstance:nsIn K mainGlobals "isinstance"=some none)
  (z_len:nsIn K mainGlobals "len"=some none)
  (z_list:nsIn K mainGlobals "list"=some none)
  (z_range:nsIn K mainGlobals "range"=some none)
  (z_set:nsIn K mainGlobals "set"=some none)
  (z_sorted:nsIn K mainGlobals "sorted"=some none)
  (z_str:nsIn K mainGlobals "str"=some none)
  (z_tuple:nsIn K mainGlobals "tuple"=some none)
  (n_NoFit:nsIn K mainGlobals "NoFit"=some (some (.ref ae)))
  (ec_NoFit:PySem.W.excIn K ae bmV "ValueError.__new__"=true) (ga_NoFit:findIn K (.ref ae) "__getattribute__"=some (some (.builtin "BaseException.__getattribute__"))) (gt_NoFit:findIn K (.ref ae) "__getattr__"=some none) (fa_NoFit:findIn K (.ref ae) "__class__"=some (some (.builtin "object.__class__"))) (fg_NoFit:PySem.W.specialIn K (.builtin "object.__class__") "__get__"=some (some (.builtin "getset_descriptor.__get__"))) (ft_NoFit:PySem.W.takesIn K (.builtin "object.__class__")=some true) (ob_NoFit:PySem.W.mroIn K ae (.type "object")=some true) (bx_NoFit:PySem.W.mroIn K ae (.type "BaseException")=some true) (cl_NoFit:PySem.W.isClsIn K ae=true)
  (n_TooGreat:nsIn K mainGlobals "TooGreat"=some (some (.ref a9)))
  (ec_TooGreat:PySem.W.excIn K a9 bmV "ValueError.__new__"=true) (ga_TooGreat:findIn K (.ref a9) "__getattribute__"=some (some (.builtin "BaseException.__getattribute__"))) (gt_TooGreat:findIn K (.ref a9) "__getattr__"=some none) (fa_TooGreat:findIn K (.ref a9) "__class__"=some (some (.builtin "object.__class__"))) (fg_TooGreat:PySem.W.specialIn K (.builtin "object.__class__") "__get__"=some (some (.builtin "getset_descriptor.__get__"))) (ft_TooGreat:PySem.W.takesIn K (.builtin "object.__class__")=some true) (ob_TooGreat:PySem.W.mroIn K a9 (.type "object")=some true) (bx_TooGreat:PySem.W.mroIn K a9 (.type "BaseException")=some true) (cl_TooGreat:PySem.W.isClsIn K a9=true)
  (h_TooGreat_TooGreat:PySem.W.exmOne K (.ref a9) (.ref a9)=some true)
  : ∃fd:FuncData,(∀(s:Shared) (v:Value),BindsTo s fd #[[v],[]] [("_law_script",v)])/\∀base:Heap,K.In base->base.Ns mainGlobals mg->FnOk l.prog w K mg base (CXE l.prog w) 10 fa fd ["_law_script"] (spF K mg 1 m_law):=by
 have T:Txt K mg ae a9:=#[Y7 X G z_all,Y7 X G z_bool,Y7 X G z_dict,Y7 X G z_enumerate,Y7 X G z_int,Y7 X G z_isinstance,Y7 X G z_len,Y7 X G z_list,Y7 X G z_range,Y7 X G z_set,Y7 X G z_sorted,Y7 X G z_str,Y7 X G z_tuple,#[_,Yf X G q_LETTERS,r_LETTERS],#[_,Yf X G q_MOST_LETTERS,r_MOST_LETTERS],#[_,Yf X G q_MOST_SIGNS,r_MOST_SIGNS],#[_,Yf X G q_MOST_ROOMS_plains,r_MOST_ROOMS_plains],#[_,Yf X G q_MOST_KEEPERS,r_MOST_KEEPERS],#[_,Yf X G q_SMALL_ROOMS,r_SMALL_ROOMS],#[_,Yf X G q_SMALL_KEEPERS,r_SMALL_KEEPERS],#[_,Yf X G q_NOWHERE,r_NOWHERE],#[_,#[_,Yf X G q_FIRST_PAIR,(show RelV (.ref df) _ from rfl)],λH=>(xqv (qqn l_FIRST_PAIR t_FIRST_PAIR) (YK vx (YK vx (YK (xqv (qqn l_FIRST_PAIR_2 t_FIRST_PAIR_2) wkw) wkw))))],#[_,#[_,Yf X G q_WORDS,(show RelV (.ref iy) _ from rfl)],λH=>(xqv (qqn l_WORDS t_WORDS) (YK (Kz ⋯) (YK (Kz ⋯) (YK (Kz ⋯) (YK (Kz ⋯) wkw)))))],#[_,Yf X G q_MOST_ROOMS_joins,r_MOST_ROOMS_joins],n_NoFit,Yf X G n_NoFit,#[Yf X G n_NoFit,ec_NoFit,qzv ga_NoFit gt_NoFit fa_NoFit fg_NoFit ft_NoFit ob_NoFit bx_NoFit cl_NoFit],n_TooGreat,Yf X G n_TooGreat,#[Yf X G n_TooGreat,ec_TooGreat,qzv ga_TooGreat gt_TooGreat fa_TooGreat fg_TooGreat ft_TooGreat ob_TooGreat bx_TooGreat cl_TooGreat],h_TooGreat_TooGreat];refine g48.law X G hfa fun {base _ _} F=>?_
 have gc:kww l.prog w K mg base:=g0.d X G (qqj T );have gq:qkt l.prog w K mg base:=g1.d X G (qxz T );have aj:jqd l.prog w K mg base:=g2.d X G (kw1 T );have b5:jz4 l.prog w K mg base:=g3.d X G (qqm T gc);have ff:kvf l.prog w K mg base:=g4.d X G (qjh T gq);have bg:jw7 l.prog w K mg base:=g5.d X G (kj4 T aj b5);have ba:jxp l.prog w K mg base:=g6.d X G (kxp T );have bh:jwb l.prog w K mg base:=g7.d X G (kj8 T aj b5);have fh:qku l.prog w K mg base:=g8.d X G (qz0 T bh aj b5);have dm:kvg l.prog w K mg base:=g9.d X G (qji T ba fh);have bj:jw9 l.prog w K mg base:=g10.d X G (kj6 T ba dm);have be:jwa l.prog w K mg base:=g11.d X G (kj7 T bg bj);have fw:kwy l.prog w K mg base:=g12.d X G (qql T aj ff be);have d9:kwx l.prog w K mg base:=g13.d X G (qqk T );have bn:kve l.prog w K mg base:=g14.d X G (qxx T );have au:jvd l.prog w K mg base:=g15.d X G (kkt T bn);have d8:kkh l.prog w K mg base:=g16.d X G (kxn T au);have bw:kki l.prog w K mg base:=g17.d X G (kxo T );have bo:kjn l.prog w K mg base:=g18.d X G (kvy T );have bf:jw8 l.prog w K mg base:=g19.d X G (kj5 T bw bo);have cb:jzc l.prog w K mg base:=g20.d X G (kqq T bn);have b9:kkd l.prog w K mg base:=g21.d X G (qqi T );have fj:qkr l.prog w K mg base:=g22.d X G (qxw T );have gj:qks l.prog w K mg base:=g23.d X G (qxy T b9 fj);have ax:jvx l.prog w K mg base:=g24.d X G (kqr T b9);have bv:kkj l.prog w K mg base:=g25.d X G (kxq T );have da:kkk l.prog w K mg base:=g26.d X G (kxr T );have cm:kjp l.prog w K mg base:=g27.d X G (kw0 T gj ax);have ci:kjo l.prog w K mg base:=g28.d X G (kvz T bf ax da cb bv cm);have ic:qx3 l.prog w K mg base:=g29.d X G (vkr T d9 ci);have aq:jzd l.prog w K mg base:=g30.d X G (kqs T );have cy:kkl l.prog w K mg base:=g31.d X G (kxs T );have b8:jwp l.prog w K mg base:=g32.d X G (kw2 T );have db:kkm l.prog w K mg base:=g33.d X G (kxt T b8);have de:kkp l.prog w K mg base:=g34.d X G (kxw T );have dq:kvo l.prog w K mg base:=g35.d X G (qjp T de);have bz:kko l.prog w K mg base:=g36.d X G (kxv T b8 dq);have f8:kvi l.prog w K mg base:=g37.d X G (qjk T );have fe:kvk l.prog w K mg base:=g38.d X G (qjm T );have dz:kvj l.prog w K mg base:=g39.d X G (qjl T );have dw:kvh l.prog w K mg base:=g40.d X G (qjj T );have bc:jxq l.prog w K mg base:=g41.d X G (kku T f8);have cf:kvm l.prog w K mg base:=g42.d X G (qjo T );have gp:qkv l.prog w K mg base:=g43.d X G (qz1 T );have bp:kvl l.prog w K mg base:=g44.d X G (qjn T );have cj:kjq l.prog w K mg base:=g45.d X G (kw3 T au bp cy fe);have cg:kjr l.prog w K mg base:=g46.d X G (kw4 T ic);have cz:kkn l.prog w K mg base:=g47.d X G (kxu T cg fw bc gp d8 cf cj);exact xj2 T db bz dz dw aq cz F
end Nk62
namespace PySem.W.Fast
def tw5648575302720406574:=()
def tw4816631612826739659:=()
def tw1023580144246471832:=()
def tw7736398046238039696:=()
def tw9504588478875883636:=()
def tw844076921985100116:=()
def tw8815268454692220158:=()
def tw499800012522184634:=()
def tw5763569756735802702:=()
def tw18303185623568546350:=()
def tw11673818712688253521:=()
def tw10957776352697303737:=()
def tw12902428551538184099:=()
def tw8549327005289900705:=()
def tw1923722651894105915:=()
def tw5510626871326062893:=()
def tw1190317482308567323:=()
def tw3356993340465302479:=()
def tw14087187644076700419:=()
def tw1699334470074876769:=()
def tw1884018310301304886:=()
def tw2174418150918791568:=()
def tw2633436919912394063:=()
def tw7896468688289409404:=()
def tw10183593483822190740:=()
def tw14357824298316891743:=()
def tw87653965006496171:=()
def tw9889994105805815269:=()
def tw4262569190531019027:=()
def tw18153228184951862105:=()
def tw3403912175275815882:=()
def tw15070267700493626910:=()
def tw9871584510293670926:=()
def tw4631993953895737124:=()
def tw17362922941107673576:=()
def tw6318633895052594876:=()
def tw3977622548045225728:=()
def tw8421914256156183093:=()
def tw7029362483340703947:=()
def tw7926649824127090426:=()
def tw5698689833757467480:=()
def tw2283250807586988620:=()
def tw1144811852089349423:=()
def tw15747432085429120464:=()
def tw4032129360135887739:=()
def tw4306192406450041855:=()
def tw7390131475987034724:=()
def tw13774847230211219866:=()
def tw8679748470845756612:=()
def tw6761474333642246100:=()
def tw9915722255374521528:=()
def tw5712686984756195978:=()
def tw14681125040931115835:=()
def tw1173140166357595710:=()
def tw3841441197272787011:=()
def tw18157247299730202969:=()
def tw8027836825807977543:=()
def tw8779627513651287249:=()
def tw12128101578081646906:=()
def tw9952418632031935676:=()
def tw16404121051226311417:=()
def tw15127730068035510096:=()
def tw14975662423780221298:=()
def tw8890236970170504338:=()
def tw7024695346281116025:=()
def tw3255863764550703396:=()
def tw8265743906151265840:=()
def tw12010849845882708495:=()
def tw3564619745305293914:=()
def tw2830875571243141559:=()
def tw10684482995050926577:=()
def tw15360856142731222040:=()
def tw17070687895167686112:=()
def tw9411063004786417526:=()
def tw16539245721724223180:=()
def tw11256686891216625169:=()
def tw1076260432626578764:=()
def tw17189040989350220342:=()
def tw13130001556307398178:=()
def tw2353751445250948906:=()
def tw17562184198661294028:=()
def tw15905180936524926548:=()
def tw171421139276235174:=()
def tw11647331463549459471:=()
def tw17660533958187670553:=()
def tw7594865184907237267:=()
def tw13404686721248644580:=()
def tw7497673070148792480:=()
def tw11305733004498525594:=()
def tw14952426923725310906:=()
def tw10306735083099444782:=()
def tw13641109405376464703:=()
def tw15048440676298639778:=()
def tw9914422457770893324:=()
def tw2194392857453889309:=()
def tw11683349559346353924:=()
def tw15280689126160821497:=()
def tw10338467275413988564:=()
def tw18044848388378565826:=()
def tw14895141647210721796:=()
def tw13411559612199366171:=()
def tw16465703557936182487:=()
def tw10969780152891513729:=()
def tw8609384813274947437:=()
def tw1387950808977086698:=()
def tw11430526406736276379:=()
def tw9167558772940020928:=()
def tw16085652290539277180:=()
def tw15562134241865828003:=()
def tw5432539736532659995:=()
def tw9102221801992471459:=()
def tw4011609844012819640:=()
def tw3667231492117475950:=()
def tw2593394389417296846:=()
def tw774052215750096311:=()
def tw2397321630556086099:=()
def tw7390759525938910795:=()
def tw13603104787527259297:=()
def tw13285261469102260890:=()
def tw2347564560337315123:=()
def tw7473901036189349222:=()
def tw16348046395472693524:=()
def tw11823907297988564850:=()
def tw10217690485369244238:=()
def tw1909042215289019010:=()
def tw397662074506752101:=()
def tw6904467260787142179:=()
def tw13156162670981450895:=()
def tw4034861725571593813:=()
def tw16479116096947797259:=()
def tw15903790717067132883:=()
def tw9503652920801043253:=()
def tw971860703426504323:=()
def tw2867289658274852808:=()
def tw13986568117804163962:=()
def tw17956719296247318420:=()
end PySem.W.Fast
open PySem PySem.W PyProof.Rows
set_option maxRecDepth 100000 in
set_option maxHeartbeats 0 in
theorem PySem.Challenge.cw_freshrooms_k62_whole_joined_rows_holds : PySem.Challenge.rw_freshrooms_k62_whole_joined_rows.Holds := by
 w_on;o_law;k_head;(case hw=>w_witness2)
 k_fill
 refine Q.walkQ (l:=PySem.Challenge.rw_freshrooms_k62_whole_joined_rows) (n:=63) (k:=10) (x:="_law_script") (f:=Nk62.m_law) rfl ⋯ rfl #[rfl,⋯,⋯,rfl] (fun w h Y=>PySem.W.kIn_of Y) ?F Nk62.law_true
 case F =>
  intro w mg fa h KX G hmg
  refine' Nk62.all_mk KX G hmg ?_ ?_ ?_ ?_ ?_ ?_ ?_ ?_ ?_ ?_ ?_ ?_ ?_ ?_ ?_ ?_ ?_ ?_ ?_ ?_ ?_ ?_ ?_ ?_ ?_ ?_ ?_ ?_ ?_ ?_ ?_ ?_ ?_ ?_ ?_ ?_ ?_ ?_ ?_ ?_ ?_ ?_ ?_ ?_ ?_ ?_ ?_ ?_ ?_ ?q_LETTERS ?r_LETTERS ?q_MOST_LETTERS ?r_MOST_LETTERS ?q_MOST_SIGNS ?r_MOST_SIGNS ?q_MOST_ROOMS_plains ?r_MOST_ROOMS_plains ?q_MOST_KEEPERS ?r_MOST_KEEPERS ?q_SMALL_ROOMS ?r_SMALL_ROOMS ?q_SMALL_KEEPERS ?r_SMALL_KEEPERS ?q_NOWHERE ?r_NOWHERE ?q_MOST_ROOMS_joins ?r_MOST_ROOMS_joins ?q_FIRST_PAIR ?q_WORDS ?l_FIRST_PAIR ?t_FIRST_PAIR ?l_FIRST_PAIR_2 ?t_FIRST_PAIR_2 ?l_WORDS ?t_WORDS ?z_all ?z_bool ?z_dict ?z_enumerate ?z_int ?z_isinstance ?z_len ?z_list ?z_range ?z_set ?z_sorted ?z_str ?z_tuple ?n_NoFit ?ec_NoFit ?ga_NoFit ?gt_NoFit ?fa_NoFit ?fg_NoFit ?ft_NoFit ?ob_NoFit ?bx_NoFit ?cl_NoFit ?n_TooGreat ?ec_TooGreat ?ga_TooGreat ?gt_TooGreat ?fa_TooGreat ?fg_TooGreat ?ft_TooGreat ?ob_TooGreat ?bx_TooGreat ?cl_TooGreat ?h_TooGreat_TooGreat
  all_goals try (refine' Q.Gf.mk ?a ?b ?c ?d;(case a=>k_is);(case b=>k_is);(case c=>k_is);(case d=>k_is))
  (case q_LETTERS=>k_is)
  (case r_LETTERS=>exact #[_,rfl])
  (case q_MOST_LETTERS=>k_is)
  (case r_MOST_LETTERS=>exact #[_,rfl])
  (case q_MOST_SIGNS=>k_is)
  (case r_MOST_SIGNS=>exact #[_,rfl])
  (case q_MOST_ROOMS_plains=>k_is)
  (case r_MOST_ROOMS_plains=>exact #[_,rfl])
  (case q_MOST_KEEPERS=>k_is)
  (case r_MOST_KEEPERS=>exact #[_,rfl])
  (case q_SMALL_ROOMS=>k_is)
  (case r_SMALL_ROOMS=>exact #[_,rfl])
  (case q_SMALL_KEEPERS=>k_is)
  (case r_SMALL_KEEPERS=>exact #[_,rfl])
  (case q_NOWHERE=>k_is)
  (case r_NOWHERE=>exact #[_,rfl])
  (case q_MOST_ROOMS_joins=>k_is)
  (case r_MOST_ROOMS_joins=>exact #[_,rfl])
  (case q_FIRST_PAIR=>k_is)
  (case q_WORDS=>k_is)
  (case l_FIRST_PAIR=>k_is)
  (case t_FIRST_PAIR=>exact #[rfl,rfl,_,_,rfl,⋯,(.cons #[_,rfl] (.cons #[_,rfl] (.cons rfl .nil)))])
  (case l_FIRST_PAIR_2=>k_is)
  (case t_FIRST_PAIR_2=>exact #[rfl,rfl,_,_,rfl,⋯,.nil])
  (case l_WORDS=>k_is)
  (case t_WORDS=>exact #[rfl,rfl,_,_,rfl,⋯,(.cons #[_,rfl] (.cons #[_,rfl] (.cons #[_,rfl] (.cons #[_,rfl] .nil))))])
  (case z_all=>k_is)
  (case z_bool=>k_is)
  (case z_dict=>k_is)
  (case z_enumerate=>k_is)
  (case z_int=>k_is)
  (case z_isinstance=>k_is)
  (case z_len=>k_is)
  (case z_list=>k_is)
  (case z_range=>k_is)
  (case z_set=>k_is)
  (case z_sorted=>k_is)
  (case z_str=>k_is)
  (case z_tuple=>k_is)
  (case n_NoFit=>k_is)
  (case ec_NoFit=>k_exc)
  (case ga_NoFit=>k_is)
  (case gt_NoFit=>k_is)
  (case fa_NoFit=>k_is)
  (case fg_NoFit=>k_is)
  (case ft_NoFit=>k_is)
  (case ob_NoFit=>k_is)
  (case bx_NoFit=>k_is)
  (case cl_NoFit=>k_is)
  (case n_TooGreat=>k_is)
  (case ec_TooGreat=>k_exc)
  (case ga_TooGreat=>k_is)
  (case gt_TooGreat=>k_is)
  (case fa_TooGreat=>k_is)
  (case fg_TooGreat=>k_is)
  (case ft_TooGreat=>k_is)
  (case ob_TooGreat=>k_is)
  (case bx_TooGreat=>k_is)
  (case cl_TooGreat=>k_is)
  (case h_TooGreat_TooGreat=>kts_exm)
