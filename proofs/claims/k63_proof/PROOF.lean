import PyProof.Rows.All
import Wide.All
import OpenK.AllK
import Wide.FinOn
import Lean
import PySem.Challenge.RW_freshrooms_k63_not_joined
open PySem.W(Frag kitOne nsIn findIn)
set_option Elab.async false
set_option linter.all false
set_option bootstrap.genMatcherCode false
set_option compiler.extract_closed false
set_option maxRecDepth 100000
local macro_rules|`(⋯)=>`(by first|decide|omega)
local macro_rules|`(tactic|ac_rfl)=>`(tactic|with_unfolding_all rfl)
local macro_rules|`(tactic|exists$e)=>`(tactic|with_unfolding_all exact$e)
theorem aA{α}{a:α}{s t:List α}:a∈s++t->a∈s∨a∈t:=List.mem_append.mp
theorem aB{α}{a b:α}:a=b->a∈[b]:=List.mem_singleton.mpr
theorem aC{α}{a b:α}:a∈[b]->a=b:=List.mem_singleton.mp
theorem aD{α}{a b:α}{l:List α}:a∈b::l->a=b∨a∈l:=List.mem_cons.mp
theorem aE{α β}{f:α->β}{l:List α}{b:β}:b∈l.map f->∃a,a∈l∧f a=b:=List.mem_map.mp
local macro_rules|`(tactic|trivial)=>`(tactic|first|exact Or.inl rfl|exact Or.inr rfl)
def Ŕq(_:True:=by rfl):True:=trivial
def Ŕq.z:True:=trivial
open Ŕq renaming _auto_1→Ŕ
def ŕq(_:True:=by decide):True:=trivial
def ŕq.z:True:=trivial
open ŕq renaming _auto_1→ŕ
def Ŗq(_:True:=by intro _;rfl):True:=trivial
def Ŗq.z:True:=trivial
open Ŗq renaming _auto_1→Ŗ
def ŗq(_:True:=by decide +kernel):True:=trivial
def ŗq.z:True:=trivial
open ŗq renaming _auto_1→ŗ
def Řq(_:True:=by first|exact .inl rfl|exact .inr rfl|assumption):True:=trivial
def Řq.z:True:=trivial
open Řq renaming _auto_1→Ř
def řq(_:True:=by first|exact Or.inl rfl|exact Or.inr (Or.inl rfl)|exact Or.inr (Or.inr rfl)):True:=trivial
def řq.z:True:=trivial
open řq renaming _auto_1→ř
def Śq(_:True:=by trivial):True:=trivial
def Śq.z:True:=trivial
open Śq renaming _auto_1→Ś
def śq(_:True:=by first|exact .inl rfl|exact .inr rfl):True:=trivial
def śq.z:True:=trivial
open śq renaming _auto_1→ś
theorem oq9{α : Type _}{a b : α}(h:some a=some b):a=b:=Option.some.inj h
theorem lr9{α : Type _}{a : α}{b : List α}(c : List α)(h:a ∈ b):a ∈ c ++ b:=List.mem_append_right c h
theorem ll9{α : Type _}{a : α}{b : List α}(c : List α)(h:a ∈ b):a ∈ b ++ c:=List.mem_append_left c h
theorem lc9{α : Type _}{a : α}{l : List α}(b : α)(h:a ∈ l):a ∈ b::l:=List.mem_cons_of_mem b h
section
open PySem PySem.Spec PyProof.Rows
theorem X0:type_of% @wpAny_bind:=@wpAny_bind
theorem X1:type_of% @wpAny_pure:=@wpAny_pure
theorem X2:type_of% @List.getElem?_eq_getElem:=@List.getElem?_eq_getElem
theorem X3:type_of% @Heap.get?_push_of_some:=@Heap.get?_push_of_some
theorem X4:type_of% @List.length_map:=@List.length_map
theorem X5:type_of% @List.size_toArray:=@List.size_toArray
theorem X6:type_of% @Heap.get?_push_size:=@Heap.get?_push_size
theorem X7:type_of% @List.mem_cons_self:=@List.mem_cons_self
theorem X8:type_of% @Nat.le_refl:=@Nat.le_refl
theorem X9:type_of% @if_pos:=@if_pos
theorem Xa:type_of% @Heap.lt_size:=@Heap.lt_size
theorem Xb:type_of% @if_neg:=@if_neg
theorem Xd:type_of% @List.nodup_append:=@List.nodup_append
theorem Xe:type_of% @List.getD_eq_getElem?_getD:=@List.getD_eq_getElem?_getD
theorem Xf:type_of% @Nat.lt_of_lt_of_le:=@Nat.lt_of_lt_of_le
theorem Xg:type_of% @Nat.ne_of_lt:=@Nat.ne_of_lt
theorem Xh:type_of% @decide_eq_false:=@decide_eq_false
theorem Xi:type_of% @Array.length_toList:=@Array.length_toList
theorem Xj:type_of% @List.length_append:=@List.length_append
theorem Xk:type_of% @List.mem_map_of_mem:=@List.mem_map_of_mem
theorem Xl:type_of% @decide_eq_true:=@decide_eq_true
theorem Xm:type_of% @List.not_mem_nil:=@List.not_mem_nil
theorem Xn:type_of% @List.getElem?_map:=@List.getElem?_map
theorem Xp:type_of% @wpAny_newObj_type:=@wpAny_newObj_type
def Xq:type_of% @List.map_append:=@List.map_append
theorem Xr:type_of% @Int.emod_lt_of_pos:=@Int.emod_lt_of_pos
theorem Xs:type_of% @List.map_map:=@List.map_map
theorem Xu:type_of% @Int.toNat_natCast:=@Int.toNat_natCast
theorem Xv:type_of% @List.length_cons:=@List.length_cons
theorem Xw:type_of% @List.append_nil:=@List.append_nil
theorem Xx:type_of% @Heap.SameBut.update:=@Heap.SameBut.update
theorem Xy:type_of% @wpAny_call_entry:=@wpAny_call_entry
theorem Xz:type_of% @Heap.get?_update_self:=@Heap.get?_update_self
theorem Y0:type_of% @wpAny_holding:=@wpAny_holding
theorem Y1:type_of% @List.mem_cons:=@List.mem_cons
theorem Y2:type_of% @Nat.le_trans:=@Nat.le_trans
theorem Y3:type_of% @List.append_assoc:=@List.append_assoc
theorem Y4:type_of% @Int.emod_nonneg:=@Int.emod_nonneg
theorem Y5:type_of% @PySem.W.mg_of:=@PySem.W.mg_of
theorem Y6:type_of% @List.nodup_nil:=@List.nodup_nil
theorem Y7:type_of% @wpAny_callSpecial?_slot:=@wpAny_callSpecial?_slot
theorem Y8:type_of% @List.getElem_mem:=@List.getElem_mem
theorem Y9:type_of% @PySem.W.mg_none_of:=@PySem.W.mg_none_of
theorem Ya:type_of% @beq_false_of_ne:=@beq_false_of_ne
theorem Yb:type_of% @Array.getElem?_toList:=@Array.getElem?_toList
theorem Yc:type_of% @List.length_take:=@List.length_take
theorem Yd:type_of% @Array.getElem?_eq_getElem:=@Array.getElem?_eq_getElem
theorem Ye:type_of% @wpAny_setField:=@wpAny_setField
theorem Yf:type_of% @List.length_drop:=@List.length_drop
theorem Yg:type_of% @Nat.zero_le:=@Nat.zero_le
theorem Yh:type_of% @PyProof.Rows.callWith_type1:=@PyProof.Rows.callWith_type1
theorem Yi:type_of% @List.getElem?_set_ne:=@List.getElem?_set_ne
theorem Yj:type_of% @List.length_range:=@List.length_range
theorem Yk:type_of% @List.length_singleton:=@List.length_singleton
theorem Yl:type_of% @List.getElem?_eq_none:=@List.getElem?_eq_none
theorem Ym:type_of% @List.find?_cons:=@List.find?_cons
theorem Yn:type_of% @Obj.data_mapFields:=@Obj.data_mapFields
theorem Yo:type_of% @Around.under_plainId:=@Around.under_plainId
theorem Yp:type_of% @Nat.lt_irrefl:=@Nat.lt_irrefl
def Yq:type_of% @List.Sublist.refl:=@List.Sublist.refl
theorem Yr:type_of% @PySem.mem_of_lookup:=@PySem.mem_of_lookup
theorem Ys:type_of% @wpAny_field:=@wpAny_field
theorem Yt:type_of% @List.length_set:=@List.length_set
theorem Yu:type_of% @List.getElem?_append_left:=@List.getElem?_append_left
theorem Yv:type_of% @List.length_replicate:=@List.length_replicate
theorem Yw:type_of% @Obj.isFreed_of_fields:=@Obj.isFreed_of_fields
theorem Yx:type_of% @wpAny_Call_Name_kw:=@wpAny_Call_Name_kw
theorem Yy:type_of% @List.lookup_cons:=@List.lookup_cons
theorem Yz:type_of% @wpAny_typeNameOfWhole_keyiter:=@wpAny_typeNameOfWhole_keyiter
theorem Z0:type_of% @wpAny_getItem_str_slice:=@wpAny_getItem_str_slice
theorem Z1:type_of% @List.eraseIdx_cons_succ:=@List.eraseIdx_cons_succ
theorem Z2:type_of% @wpAny_specialOf:=@wpAny_specialOf
theorem Z3:type_of% @codeAny_builtin:=@codeAny_builtin
theorem Z4:type_of% @Heap.get?_update_ne:=@Heap.get?_update_ne
theorem Z5:type_of% @List.getElem?_set_self:=@List.getElem?_set_self
theorem Z6:type_of% @Heap.get?_update_other:=@Heap.get?_update_other
theorem Z7:type_of% @List.take_of_length_le:=@List.take_of_length_le
theorem Z8:type_of% @wpAny_rule:=@wpAny_rule
theorem Z9:type_of% @wpAny_fieldsOf:=@wpAny_fieldsOf
theorem Za:type_of% @wpAny_passesOwn:=@wpAny_passesOwn
theorem Zb:type_of% @List.flatten_cons:=@List.flatten_cons
theorem Zc:type_of% @wpAny_setState_of:=@wpAny_setState_of
theorem Zd:type_of% @wpAny_attempt:=@wpAny_attempt
theorem Ze:type_of% @List.all_eq_true:=@List.all_eq_true
theorem Zf:type_of% @Heap.size_push:=@Heap.size_push
theorem Zg:type_of% @wpAny_askSetting:=@wpAny_askSetting
theorem Zh:type_of% @Nat.le_succ:=@Nat.le_succ
theorem Zi:type_of% @wpAny_mono:=@wpAny_mono
end
noncomputable section
namespace L2
open PySem PySem.Spec PyProof.Rows
abbrev Key:=Sum Int Str
def YJ:Key->Value->Bool
 |.inl k,v=>Value.isInt k v|.inr x,v=>Value.isStrOf x v
def keyH(w:World):Key->Int
 |.inl k=>hashInt k|.inr x=>hashStr w x
theorem KY:∀{k:Key} {v:Value},YJ k v=true->(∃i t,k=Sum.inl i/\v=Value.int i t)\/(∃x t,k=Sum.inr x/\v=Value.str x t)
 |.inl i,v,h=>by
  obtain⟨t,e⟩:=Value.isInt_shape (k:=i) (v:=v) h;exact .inl ⟨i,t,rfl,e⟩
 |.inr x,v,h=>by
  obtain⟨t,e⟩:=Value.isStrOf_shape (x:=x) (v:=v) h;exact .inr ⟨x,t,rfl,e⟩
theorem qws(i:Int)(t:Tok):YJ (.inl i) (.int i t)=true:=by simp[YJ,Value.isInt]
theorem qwr(x:Str)(t:Tok):YJ (.inr x) (.str x t)=true:=by simp[YJ,Value.isStrOf]
theorem wks(a b:Int):decide ((Sum.inl a:Key)=Sum.inl b)=(a==b):=by
 by_cases e:a=b
 ·subst e;simp
 ·have h:¬(Sum.inl a:Key)=Sum.inl b:=λq=>e (Sum.inl.inj q)
  rw[Xh h];exact(beq_eq_false_iff_ne.mpr e).symm
theorem wkp(a b:Str):decide ((Sum.inr a:Key)=Sum.inr b)=decide (a=b):=by
 by_cases e:a=b
 ·subst e;simp
 ·have h:¬(Sum.inr a:Key)=Sum.inr b:=λq=>e (Sum.inr.inj q)
  rw[Xh h,Xh e]
theorem wkr(a:Int)(b:Str):decide ((Sum.inl a:Key)=Sum.inr b)=false:=Xh (λq=>nomatch q)
theorem wkq(a:Str)(b:Int):decide ((Sum.inr a:Key)=Sum.inl b)=false:=Xh (λq=>nomatch q)
noncomputable def z3(prog:Program)(w:World):PySem.KeyKind prog w Key where
 is:=YJ
 hash:=keyH w
 inj:=λv a b ha hb=>by
  rcases KY ha with⟨i,t,rfl,rfl⟩|⟨x,t,rfl,rfl⟩
  ·rcases KY hb with⟨j,u,rfl,e⟩|⟨y,u,rfl,e⟩
   ·injection e with e1 _;rw[e1]
   ·exact nomatch e
  ·rcases KY hb with⟨j,u,rfl,e⟩|⟨y,u,rfl,e⟩
   ·exact nomatch e
   ·injection e with e1 _;rw[e1]
 byValue:=λk v h=>by
  rcases KY h with⟨i,t,rfl,rfl⟩|⟨x,t,rfl,rfl⟩<;>rfl
 pyHash:=λhv h=>by
  rcases KY hv with⟨i,t,rfl,rfl⟩|⟨x,t,rfl,rfl⟩
  ·exact wpAny_pyHash_int h
  ·exact wpAny_pyHash_str h
 eqBool:=λhu hv h=>by
  rcases KY hu with⟨i,t,rfl,rfl⟩|⟨x,t,rfl,rfl⟩
  ·rcases KY hv with⟨j,u,rfl,rfl⟩|⟨y,u,rfl,rfl⟩
   ·rw[wks]at h;exact wpAny_eqBool_int h
   ·rw[wkr]at h;exact SeqAt.EqAt.int_str i t y u _ _ _ _ h
  ·rcases KY hv with⟨j,u,rfl,rfl⟩|⟨y,u,rfl,rfl⟩
   ·rw[wkq]at h;exact SeqAt.EqAt.str_int x t j u _ _ _ _ h
   ·rw[wkp]at h;exact wpAny_eqBool_str h
 «strs»:=λk x t v h=>by
  rcases KY h with⟨i,u,rfl,e⟩|⟨y,u,rfl,e⟩
  ·exact nomatch e
  ·injection e with e1 _;subst e1;cases v<;>rfl
theorem kz2(prog:Program)(w:World)(i:Int)(t:Tok):(z3 prog w).is (.inl i) (.int i t)=true:=qws i t
theorem kz1(prog:Program)(w:World)(x:Str)(t:Tok):(z3 prog w).is (.inr x) (.str x t)=true:=qwr x t
inductive V where
 |non|bl (b:Bool)|int (i:Int)|str (x:Str)|byt (b:Array UInt8)|flt (b:UInt64)|ref (a:Addr)|ty (n:String)
 deriving DecidableEq
def RelV:V->Value->Prop
 |.non,u=>u=Value.none|.bl b,u=>u=Value.bool b|.int i,u=>∃t,u=Value.int i t|.str x,u=>∃t,u=Value.str x t|.byt b,u=>∃t,u=Value.bytes b t|.flt b,u=>∃t,u=Value.float b t|.ref a,u=>u=Value.ref a|.ty n,u=>u=Value.type n
abbrev Vals:List V->List Value->Prop:=Paired RelV
theorem Vals.length{xs:List V}{us:List Value}(r:Vals xs us):xs.length=us.length:=Paired.length r
theorem Vals.get:∀{xs:List V} {us:List Value} {i:Nat} {x:V},Vals xs us->xs[i]?=some x->∃u,us[i]?=some u/\RelV x u
 |_,_,_,_,.nil,e=>by simp at e|_,_,0,_,.cons r _,e=>by simp at e;subst e;exact⟨_,rfl,r⟩
 |_,_,i+1,x,.cons _ t,e=>by
  obtain⟨u,h1,h2⟩:=Vals.get (i:=i) (x:=x) t (by simpa using e);exact⟨u,by simpa using h1,h2⟩
theorem Vals.set{x:V}{u:Value}(r:RelV x u):∀{xs:List V} {us:List Value} (i:Nat),Vals xs us->Vals (xs.set i x) (us.set i u)
 |_,_,_,.nil=>.nil|_,_,0,.cons _ t=>.cons r t|_,_,i+1,.cons q t=>.cons q (Vals.set r i t)
theorem Vals.append:∀{xs ys:List V} {us ws:List Value},Vals xs us->Vals ys ws->Vals (xs++ys) (us++ws)
 |_,_,_,_,.nil,s=>s|_,_,_,_,.cons r t,s=>.cons r (Vals.append t s)
theorem Vals.take:∀{xs:List V} {us:List Value} (n:Nat),Vals xs us->Vals (xs.take n) (us.take n)
 |_,_,0,_=>.nil|_,_,_+1,.nil=>.nil|_,_,n+1,.cons r t=>.cons r (Vals.take n t)
theorem Vals.drop:∀{xs:List V} {us:List Value} (n:Nat),Vals xs us->Vals (xs.drop n) (us.drop n)
 |_,_,0,r=>r|_,_,_+1,.nil=>.nil|_,_,n+1,.cons _ t=>Vals.drop n t
def RelO:Option V->Option Value->Prop
 |some v,some u=>RelV v u|none,none=>True|_,_=>False
def KV{κ:Type}:List (κ×V)->List (κ×Value)->Prop:=Paired λ(p:κ×V) (q:κ×Value)=>p.1=q.1/\RelV p.2 q.2
def kV:Key->V
 |.inl i=>.int i|.inr x=>.str x
inductive HO where
 |lst (xs:List V)
 |tup (xs:List V)
 |dK (kvs:List (Key×V))|dT (kvs:List (List Key×V))
 |set (S:Int->Bool) (n:Nat)
 |ins (C dx:Addr) (fs:List (Str×V))
 |own (x:Addr)
 |xd (fs:List (Str×V))
 |met (f x:Addr)
 |rng (lo hi:Int)
 |frz (o:Obj) (u:HO)
 |tbl (ps:Array Value)
 |ext (φ:Heap->Prop)
abbrev Hp:=Addr->Option HO
def IsTupD(h:Heap)(a:Addr)(items:Array Value):Prop:=∃o,h.get? a=some o/\o.cls=.type "tuple"/\o.dict=none/\∃n,o.data=.seq items n
theorem IsTupD.tup{h:Heap}{a:Addr}{items:Array Value}(p:IsTupD h a items):IsTup h a items:=by
 obtain⟨o,e,c,_,n,d⟩:=p;exact⟨o,e,c,n,d⟩
theorem IsTupD.new(h:Heap)(xs:Array Value):IsTupD (h.push { cls:=.type "tuple",data:=.seq xs }) h.objs.size xs:=⟨_,X6 _ rfl,rfl,rfl,0,rfl⟩
def upd(H:Hp)(a:Addr)(o:HO):Hp:=λb=>if b=a then some o else H b
theorem wJ{H:Hp}{a:Addr}{o:HO}:upd H a o a=some o:=by unfold upd;rw[X9 rfl]
theorem kz{H:Hp}{a b:Addr}{o:HO}(h:b≠a):upd H a o b=H b:=by unfold upd;rw[Xb h]
theorem xK{H:Hp}{a b:Addr}{o:HO}(h:H a=some o)(h':H b=none):a≠b:=by
 intro e;subst e;rw[h]at h';cases h'
section
variable (P:Program)(w:World)
noncomputable def ObjOk(H : Hp)(h : Heap)(a : Addr): HO -> Prop
  |.lst xs=>xs.length<=sizeLine /\ ∃(ai : List Value) (n : Nat), Vals xs ai /\ h.get? a = some { cls:= .type "list", data:= .seq ai.toArray n }|.tup xs=>xs.length<=sizeLine /\ ∃ai : List Value, Vals xs ai /\ IsTupD h a ai.toArray|.dK kvs=>kvs.length<=sizeLine /\ (a==sysModules) = false /\ ∃vs, KV kvs vs /\ h.DictOf (z3 P w) a vs
  |.dT kvs=>kvs.length<=sizeLine /\ (a==sysModules) = false /\ ∃xs : List (List Key × Addr × Value),
      Paired (λ(p : List Key × V) (q : List Key × Addr × Value)=>p.1 = q.1 /\ H q.2.1 = some (.tup (p.1.map kV)) /\ RelV p.2 q.2.2) kvs xs /\
      ∃o es ep, h.get? a = some o /\ o.ExactDict /\ o.data = .dict es ep /\ es.toList = xs.map (entryOfKey (tupleKind (z3 P w))) /\ (xs.map (·.1)).Nodup
  |.set S n=>h.SetOf (intKind P w) a S n
  |.ins C dx fs=>H dx = some (.own a) /\ fs.length<=1000 /\ dx≠a /\ h.get? a = some (PySem.W.instObj C dx) /\
      ∃mA, h.Ns1 dx mA /\ (∀f, RelO (fs.lookup f) (mA f)) /\ PySem.Within mA (fs.map (·.1))
  |.own _=> ∃o, h.get? a = some o|.xd fs=> ∃mA, h.Ns1 a mA /\ ∀f, RelO (fs.lookup f) (mA f)|.rng lo hi=> ∃t u v, h.get? a = some { cls:= .type "range", data:= .fields #[.int lo t, .int hi u, .int 1 v] }|.frz o u=>h.get? a = some o /\ ObjOk H h a u|.tbl ps=>h.get? a = some { cls:= .none, data:= .fields ps }|.met f x=>h.get? a = some (PySem.W.methodObj (.ref f) (.ref x))|.ext φ=>φ h /\ (∃o, h.get? a = some o) /\ ∀h1 h2 : Heap, φ h1 -> (∀o, h1.get? a = some o -> h2.get? a = some o) -> φ h2
def HOk(H:Hp)(h:Heap):Prop:=∀a o,H a=some o->ObjOk P w H h a o
end
section
variable {P:Program}{w:World}{H H':Hp}{h h':Heap}{a:Addr}{o:HO}
theorem ObjOk.lt(x:ObjOk P w H h a o):a<h.objs.size:=by
 cases o with|lst xs=>obtain⟨_,_,_,_,e⟩:=x;exact Xa e|tup xs=>obtain⟨_,_,_,p⟩:=x;exact p.tup.lt|dK kvs=>obtain⟨_,_,_,_,o,_,_,e,_⟩:=x;exact Xa e|dT kvs=>obtain⟨_,_,_,_,o,_,_,e,_⟩:=x;exact Xa e|set S n=>obtain⟨o,_,_,_,e,_⟩:=x;exact Xa e|ins C dx fs=>obtain⟨_,_,_,e,_⟩:=x;exact Xa e|own y=>obtain⟨_,e⟩:=x;exact Xa e|xd fs=>obtain⟨_,⟨_,_,_,e,_⟩,_⟩:=x;exact Xa e|rng lo hi=>obtain⟨_,_,_,e⟩:=x;exact Xa e|frz ob u=>obtain⟨e,_⟩:=x;exact Xa e|tbl ps=>exact Xa (show h.get? a=some _ from x)|met f y=>exact Xa (show h.get? a=some _ from x)|ext φ=>obtain⟨_,⟨_,e⟩,_⟩:=x;exact Xa e
theorem Paired.mapP{α β:Type}{F G:α->β->Prop}:∀{l₁:List α} {l₂:List β},Paired F l₁ l₂->(∀a b,F a b->G a b)->Paired G l₁ l₂
 |_,_,.nil,_=>.nil|_,_,.cons r t,f=>.cons (f _ _ r) (Paired.mapP t f)
theorem ObjOk.stay(x:ObjOk P w H h a o)(k:∀b u,(b=a\/H b=some (.own a))->h.get? b=some u->h'.get? b=some u)
  (ho:∀b,H b=some (.own a)->H' b=some (.own a)) (ht:∀b xs,H b=some (.tup xs)->H' b=some (.tup xs)):ObjOk P w H' h' a o:=by
 induction o with
 |lst xs=>obtain⟨z,ai,n,r,e⟩:=x;exact⟨z,ai,n,r,k _ _ (.inl rfl) e⟩|tup xs=>obtain⟨z,ai,r,ob,e,c⟩:=x;exact⟨z,ai,r,ob,k _ _ (.inl rfl) e,c⟩|dK kvs=>obtain⟨z,y,vs,r,ob,es,ep,e,c⟩:=x;exact⟨z,y,vs,r,ob,es,ep,k _ _ (.inl rfl) e,c⟩
 |dT kvs=>
  obtain⟨z,y,xs,r,ob,es,ep,e,c⟩:=x;exact⟨z,y,xs,Paired.mapP r λp q z=>⟨z.1,ht _ _ z.2.1,z.2.2⟩,ob,es,ep,k _ _ (.inl rfl) e,c⟩
 |set S n=>obtain⟨ob,es,ep,t,e,c⟩:=x;exact⟨ob,es,ep,t,k _ _ (.inl rfl) e,c⟩
 |ins C dx fs=>
  obtain⟨d,z,ne,e,mA,⟨od,es,ep,e2,c⟩,r⟩:=x;exact⟨ho _ d,z,ne,k _ _ (.inl rfl) e,mA,⟨od,es,ep,k _ _ (.inr d) e2,c⟩,r⟩
 |own y=>obtain⟨ob,e⟩:=x;exact⟨ob,k _ _ (.inl rfl) e⟩|xd fs=>obtain⟨mA,⟨od,es,ep,e,c⟩,r⟩:=x;exact⟨mA,⟨od,es,ep,k _ _ (.inl rfl) e,c⟩,r⟩|rng lo hi=>obtain⟨t,u,v,e⟩:=x;exact⟨t,u,v,k _ _ (.inl rfl) e⟩|frz ob u ih=>obtain⟨e,q⟩:=x;exact⟨k _ _ (.inl rfl) e,ih q⟩
 |tbl ps=>
  have e:h.get? a=some { cls:=.none,data:=.fields ps }:=x;show h'.get? a=some { cls:=.none,data:=.fields ps };exact k a _ (.inl rfl) e
 |met f y=>
  have e:h.get? a=some (PySem.W.methodObj (.ref f) (.ref y)):=x;show h'.get? a=some (PySem.W.methodObj (.ref f) (.ref y));exact k a _ (.inl rfl) e
 |ext φ=>obtain⟨p,⟨o,e⟩,st⟩:=x;exact⟨st _ _ p λo q=>k _ _ (.inl rfl) q,⟨o,k _ _ (.inl rfl) e⟩,st⟩
theorem HOk.lt(x:HOk P w H h)(e:H a=some o):a<h.objs.size:=(x a o e).lt
theorem HOk.fresh(x:HOk P w H h)(e:h.objs.size<=a):H a=none:=by
 cases q:H a with|none=>rfl|some u=>exact absurd (Xf (x.lt q) e) (Yp _)
theorem HOk.kept(x:HOk P w H h)(k:∀b u,h.get? b=some u->h'.get? b=some u):HOk P w H h':=λa o e=>
 (x a o e).stay (λb u _ q=>k b u q) (λ_ q=>q) λ_ _ q=>q
theorem HOk.laid(x:HOk P w H h)(k:∀b u,h.get? b=some u->h'.get? b=some u)(hp:h.objs.size<=a)(new:ObjOk P w (upd H a o) h' a o):HOk P w (upd H a o) h':=λb u e=>by
 have hn:=x.fresh hp
 by_cases hb:b=a
 ·subst hb;rw[wJ]at e;cases e;exact new
 ·rw[kz hb]at e;exact(x b u e).stay (λc v _ q=>k c v q) (λc q=>by rw[kz (xK q hn)];exact q) λc xs q=>by rw[kz (xK q hn)];exact q
end
def Rd(H:Hp)(a:Addr)(u:HO):Prop:=H a=some u\/∃o,H a=some (.frz o u)
theorem Rd.ok{P:Program}{w:World}{H:Hp}{h:Heap}{a:Addr}{u:HO}(r:Rd H a u)(x:HOk P w H h):ObjOk P w H h a u:=by
 rcases r with r|⟨o,r⟩
 ·exact x a u r
 ·obtain⟨_,q⟩:=x a _ r;exact q
def Mut:Option HO->Prop
 |some (.lst _)=>True|some (.dK _)=>True|some (.dT _)=>True|some (.set _ _)=>True|some (.ins _ _ _)=>True|some (.ext _)=>True|_=>False
section
variable {P:Program}{w:World}{H:Hp}{h h':Heap}{x e:Addr}{o':HO}
theorem HOk.write(ok:HOk P w H h)(mu:Mut (H x))(he:e=x\/H e=some (.own x))(k:∀b u,b≠e->h.get? b=some u->h'.get? b=some u)(oj:∃u,h'.get? e=some u)
  (new:ObjOk P w (upd H x o') h' x o'):HOk P w (upd H x o') h':=λb u q=>by
 have rn:∀c y,H c=some (.own y)->c≠x:=λc y r z=>by subst z;rw[r]at mu;exact mu
 have ntup:∀c xs,H c=some (.tup xs)->c≠x:=λc xs r z=>by subst z;rw[r]at mu;exact mu
 by_cases hb:b=x
 ·subst hb;rw[wJ]at q;cases q;exact new
 ·rw[kz hb]at q
  by_cases hbe:b=e
  ·have q':H b=some (.own x):=by
    rcases he with z|z
    ·exact absurd (hbe.trans z) hb
    ·rw[hbe];exact z
   rw[q]at q';cases q';obtain⟨v,hv⟩:=oj;exact⟨v,by rw[hbe];exact hv⟩
  ·refine(ok b u q).stay (λc v hc r=>k c v ?_ r) (λc r=>by rw[kz (rn c b r)];exact r) λc xs r=>by rw[kz (ntup c xs r)];exact r
   rcases hc with rfl|hc
   ·exact hbe
   ·rintro rfl;rcases he with z|z
    ·exact rn c b hc z
    ·rw[hc]at z;cases z;exact hb rfl
end
structure Un (fs ex:List Addr)(H H':Hp)(h h':Heap):Prop where
 keep:∀b o,h.get? b=some o->H b=none->b∉fs->b∉ex->h'.get? b=some o
 slot:∀b o,h.get? b=some o->H b=none->b∈fs->b∉ex->∃sl,h'.get? b=some { o with slots:=sl }
 free:∀b o,h.get? b=some o->H b=none->b∉ex->H' b=none
 there:∀b o,h.get? b=some o->b∉ex->∃o',h'.get? b=some o'
 tups:∀b xs,H b=some (.tup xs)->H' b=some (.tup xs)
 frzs:∀b o u,H b=some (.frz o u)->H' b=some (.frz o u)
 tbls:∀b ps,H b=some (.tbl ps)->∃more,H' b=some (.tbl (ps++more))
section
variable {fs fs' ex ex':List Addr}{H H1 H2:Hp}{h h1 h2 h':Heap}{a x e:Addr}{o:HO}
theorem Un.any(u:Un fs ex H H1 h h1){b:Addr}{ob:Obj}(q:h.get? b=some ob)(n:H b=none)(hx:b∉ex):∃sl,h1.get? b=some { ob with slots:=sl }:=by
 by_cases hb:b∈fs
 ·exact u.slot b ob q n hb hx
 ·exact⟨ob.slots,u.keep b ob q n hb hx⟩
theorem Un.kept(k:∀b u,h.get? b=some u->h'.get? b=some u):Un fs ex H H h h':=
 ⟨λb ob q _ _ _=>k b ob q,λb ob q _ _ _=>⟨ob.slots,k b ob q⟩,λ_ _ _ n _=>n,λb ob q _=>⟨ob,k b ob q⟩,λ_ _ q=>q,λ_ _ _ q=>q,λ_ ps q=>⟨#[],by rw[q];simp⟩⟩
theorem Un.refl:Un fs ex H H h h:=Un.kept λ_ _ q=>q
theorem Un.laid(k:∀b u,h.get? b=some u->h'.get? b=some u)(hp:h.objs.size<=a)(hn:H a=none):Un fs ex H (upd H a o) h h' where
 keep:=λb u q _ _ _=>k b u q
 slot:=λb u q _ _ _=>⟨u.slots,k b u q⟩
 free:=λb u q n _=>by rw[kz (Xg (Xf (Xa q) hp))];exact n
 there:=λb u q _=>⟨u,k b u q⟩
 tups:=λb xs q=>by rw[kz (xK q hn)];exact q
 frzs:=λb u xs q=>by rw[kz (xK q hn)];exact q
 tbls:=λb ps q=>⟨#[],by rw[kz (xK q hn),q];simp⟩
theorem Un.write(mu:Mut (H x))(he:e=x\/H e=some (.own x))(k:∀b u,b≠e->h.get? b=some u->h'.get? b=some u)(oj:∃u,h'.get? e=some u):Un fs ex H (upd H x o) h h':=by
 have hx:∀b,H b=none->b≠x:=λb n z=>by subst z;rw[n]at mu;exact mu
 have hb:∀b,H b=none->b≠e:=λb n z=>by
  subst z;rcases he with r|r
  ·exact hx b n r
  ·rw[n]at r;cases r
 have hm:∀b u,H b=some u->¬Mut (some u)->b≠x:=λb u q nm z=>by subst z;rw[q]at mu;exact nm mu
 refine⟨λb u q n _ _=>k b u (hb b n) q,λb u q n _ _=>⟨u.slots,k b u (hb b n) q⟩,λb u q n _=>by rw[kz (hx b n)];exact n,λb u q _=>?_,
  λb xs q=>by rw[kz (hm b _ q λz=>z)];exact q,λb u xs q=>by rw[kz (hm b _ q λz=>z)];exact q,λb ps q=>⟨#[],by rw[kz (hm b _ q λz=>z),q];simp⟩⟩
 by_cases hbe:b=e
 ·subst hbe;exact oj
 ·exact⟨u,k b u hbe q⟩
end
def trk(h:Heap)(H:Hp):List Addr:=(List.range h.objs.size).filter λa=>(H a).isSome
def Q6(h:Heap)(H:Hp):Heap:=PySem.W.hideAll h (trk h H)
theorem qwy(h:Heap)(H:Hp):(Q6 h H).objs.size=h.objs.size:=PySem.W.hideAll_size _ _
theorem vjn{h:Heap}{H:Hp}{b:Addr}{o:Obj}(e:h.get? b=some o)(n:H b=none):(Q6 h H).get? b=some o:=
 PySem.W.hideAll_get _ e λhm=>by
  have q:(H b).isSome=true:=(List.mem_filter.mp hm).2;rw[n]at q;simp at q
theorem vw6{h:Heap}{H:Hp}{b:Addr}{o:Obj}(e:(Q6 h H).get? b=some o):h.get? b=some o/\H b=none:=by
 have e':h.get? b=some o:=PySem.W.of_hideAll (trk h H) e;refine⟨e',?_⟩;cases q:H b with
 |none=>rfl
 |some x=>
  have hm:b∈trk h H:=List.mem_filter.mpr ⟨List.mem_range.mpr (Xa e'),by simp[q]⟩;have z:(Q6 h H).get? b=none:=PySem.W.hideAll_none (trk h H) hm;rw[z]at e;cases e
def vxg(g h:Heap)(L:Addr):List (Addr×Obj):=(List.range h.objs.size).filterMap λa=>if a=L\/(g.get? a).isSome=true then none else(h.get? a).map λo=>(a,o)
def jq(g h:Heap)(L d:Addr):List (Addr×Obj):=(vxg g h L).filter λp=>decide (p.1≠d)
structure Mod (K:Frag)(mg:Str->Option Value)(base:Heap):Prop where
 kin:K.In base
 glob:base.Ns mainGlobals mg
 blt:∃mb,base.Ns builtinsNs mb/\∀x:Str,x≠"__name__"->mb x=bootBuiltins x
 nolimit:base.NoLimit
structure Cx where
 prog:Program
 w:World
 K:Frag
 mg:Str->Option Value
 base:Heap
 A:Around
 N:List Str
 s₀:Shared
 H₀:Hp
 env:Env
 outer:List Env
 stack:List Env
 ex:List Addr
 fn:Str->Bool
 calm:Bool
 pn:List (Addr×Obj)
 xe:Value->Shared->Prop
def frs(l:List Env):List Addr:=l.filterMap (·.frame)
abbrev Cx.fs(X:Cx):List Addr:=frs X.outer
def Vis(sc:Scope)(x:Str):Prop:=sc.names.lookup x=some .local\/sc.names.lookup x=some .cell\/sc.names.lookup x=some .free
def Loc(sc:Scope)(x:Str):Prop:=sc.names.lookup x=some .local\/sc.names.lookup x=some .cell
def wzm(env:Env)(h:Heap)(m:Str->Option Value)(x:Str)(u:Value):Prop:=
 (env.kindOf x=some .local/\m x=some u)\/((env.kindOf x=some .cell\/env.kindOf x=some .free)/\∃c,env.cells.lookup x=some c/\h.IsCell c (some u))
structure Cx.Ok (X:Cx):Prop where
 mod:Mod X.K X.mg X.base
 kind:X.env.scope.kind=.function
 glob:X.env.globals=mainGlobals
 blt:X.env.builtins=builtinsNs
 above:X.s₀.heap.objs.size<=X.env.locals
 inj:∀x y c,X.env.cells.lookup x=some c->X.env.cells.lookup y=some c->x=y
 has:∀x,(X.env.kindOf x=some .cell\/X.env.kindOf x=some .free)->∃c,X.env.cells.lookup x=some c
 cab:∀x c,X.fn x=true->X.env.cells.lookup x=some c->X.s₀.heap.objs.size<=c
 hd:X.calm=true->X.A.handled=none
 frames:X.A.frames=some X.stack
 stk:X.stack=X.outer\/(X.stack=X.env::X.outer/\X.env.frame=some X.env.locals)
 exf:∀b∈X.ex,b≠X.env.locals/\∀x c,X.env.cells.lookup x=some c->c≠b
 bs:∀b o,X.base.get? b=some o->X.s₀.heap.get? b=some o/\X.H₀ b=none
 bsz:X.base.objs.size<=X.s₀.heap.objs.size
 noex:∀b o,X.base.get? b=some o->b∉X.ex
 exfs:∀b∈X.ex,b∉X.fs
 funs:X.s₀.heap.FunFrames X.base X.outer
 frf:∀b∈X.fs,X.H₀ b=none
structure Inv (X:Cx)(pins:List (Addr×Obj))(O:List (Option V))(H:Hp)(s:Shared):Prop where
 ok:X.Ok
 os:s.os=X.s₀.os
 bare:AllBare s.gens
 base:Un X.fs X.ex X.H₀ H X.s₀.heap s.heap
 loc:∃m,s.heap.Ns X.env.locals m/\∀(i:Nat) (x:Str) (v:V),X.N[i]?=some x->O[i]?=some (some v)->Vis X.env.scope x->∃u,RelV v u/\wzm X.env s.heap m x u
 cell:∀x c,X.env.cells.lookup x=some c->∃v,s.heap.IsCell c v
 free:H X.env.locals=none
 freeC:∀x c,X.env.cells.lookup x=some c->H c=none
 pin:∀p∈X.pn++pins,s.heap.get? p.1=some p.2/\H p.1=none/\p.1≠X.env.locals/\p.1∉X.fs/\∀v,p.2.data≠.cell v
 hok:HOk X.prog X.w H s.heap
 len:O.length=X.N.length
section
variable {X:Cx}{pins:List (Addr×Obj)}{O:List (Option V)}{H H':Hp}{s:Shared}{h':Heap}
theorem Cx.Ok.nofr(ok:X.Ok){b:Addr}{o:Obj}(e:X.base.get? b=some o):b∉X.fs:=λhb=>by
 have:=(ok.funs.mem hb).1;rw[e]at this;cases this
theorem Inv.bs(I:Inv X pins O H s):∀b o,X.base.get? b=some o->s.heap.get? b=some o/\H b=none:=λb o e=>
 ⟨I.base.keep b o (I.ok.bs b o e).1 (I.ok.bs b o e).2 (I.ok.nofr e) (I.ok.noex b o e),I.base.free b o (I.ok.bs b o e).1 (I.ok.bs b o e).2 (I.ok.noex b o e)⟩
theorem Inv.bk(I:Inv X pins O H s):∀b o,X.base.get? b=some o->s.heap.get? b=some o:=λb o e=>(I.bs b o e).1
theorem Inv.mod(I:Inv X pins O H s):Mod X.K X.mg X.base:=I.ok.mod
theorem Inv.kIn(I:Inv X pins O H s):X.K.In s.heap:=I.ok.mod.kin.keeps I.bk
theorem Inv.lt(I:Inv X pins O H s):X.env.locals<s.heap.objs.size:=let ⟨_,hn,_⟩:=I.loc;hn.lt
theorem Inv.sz(I:Inv X pins O H s):X.s₀.heap.objs.size<=s.heap.objs.size:=Y2 I.ok.above (Nat.le_of_lt I.lt)
theorem Inv.nofs(I:Inv X pins O H s){a:Addr}(h:s.heap.objs.size<=a):a∉X.fs:=λhb=>by
 obtain⟨_,o,ho,_⟩:=I.ok.funs.mem hb;exact absurd (Xf (Xa ho) (Y2 I.sz h)) (Yp _)
theorem Inv.cne(I:Inv X pins O H s):∀x c,X.env.cells.lookup x=some c->c≠X.env.locals:=λx c e z=>by
 obtain⟨v,o,ho,hd⟩:=I.cell x c e;obtain⟨m,⟨o',es,ep,iu,jl,_⟩,_⟩:=I.loc;rw[z,iu]at ho;cases ho;rw[jl]at hd;cases hd
theorem Inv.funs(I:Inv X pins O H s):s.heap.FunFrames X.base X.outer:=by
 have all:∀(l:List Env),(∀b∈frs l,b∈X.fs)->X.s₀.heap.FunFrames X.base l->s.heap.FunFrames X.base l:=by
  intro l
  induction l with
  |nil=>intro _ _;trivial
  |cons env r ih=>
   intro hs hl;obtain⟨hk,⟨L,o,hf,hn,ho,hd⟩,hr⟩:=hl;have hL:L∈X.fs:=hs L (by unfold frs;rw[List.filterMap_cons,hf];exact X7);obtain⟨sl,e⟩:=I.base.slot L o ho (I.ok.frf L hL) hL λz=>I.ok.exfs L z hL
   exact⟨hk,⟨L,_,hf,hn,e,hd⟩,ih (λb hb=>hs b (by unfold frs;rw[List.filterMap_cons,hf];exact lc9 _ hb)) hr⟩
 exact all X.outer (λ_ hb=>hb) I.ok.funs
theorem Inv.stack(I:Inv X pins O H s):s.heap.FunFrames X.base X.stack:=by
 rcases I.ok.stk with e|⟨e,hf⟩
 ·rw[e];exact I.funs
 ·rw[e];obtain⟨m,hn,_⟩:=I.loc;refine .cons (by rw[I.ok.kind];decide) hf hn ?_ I.funs;exact Heap.get?_none_of_le (Y2 I.ok.bsz I.ok.above)
theorem Inv.stkSub(I:Inv X pins O H s):∀b∈frs X.stack,b∈X.env.locals::X.fs:=λb hb=>by
 rcases I.ok.stk with e|⟨e,hf⟩
 ·rw[e]at hb;exact lc9 _ hb
 ·rw[e]at hb;unfold frs at hb;rw[List.filterMap_cons,hf]at hb;exact hb
theorem Inv.stkFree(I:Inv X pins O H s):∀b∈frs X.stack,H b=none:=λb hb=>by
 rcases aD (I.stkSub b hb)with e|hb
 ·rw[e];exact I.free
 ·obtain⟨_,o,ho,_⟩:=I.ok.funs.mem hb;exact I.base.free b o ho (I.ok.frf b hb) λz=>I.ok.exfs b z hb
theorem Inv.step{g':Array GenState}{t':Nat}{d':Drawn}{ch:List Addr}(I:Inv X pins O H s)
  (ff:∀b∈ch,(b∈X.ex\/X.s₀.heap.objs.size<=b)/\b≠X.env.locals/\(∀x c,X.env.cells.lookup x=some c->c≠b)/\∀p∈X.pn++pins,p.1≠b)
  (keep:∀b o,b≠X.env.locals->b∉X.fs->b∉ch->s.heap.get? b=some o->H b=none->h'.get? b=some o)
  (slot:∀b o,b≠X.env.locals->b∈X.fs->b∉ch->s.heap.get? b=some o->H b=none->∃sl,h'.get? b=some { o with slots:=sl }) (free:∀b o,b∉ch->s.heap.get? b=some o->H b=none->H' b=none)
  (there:∀b o,b∉ch->s.heap.get? b=some o->∃o',h'.get? b=some o')
  (tups:∀b xs,H b=some (.tup xs)->H' b=some (.tup xs)) (frzs:∀b o u,H b=some (.frz o u)->H' b=some (.frz o u)) (tbls:∀b ps,H b=some (.tbl ps)->∃more,H' b=some (.tbl (ps++more)))
  (ns:∀m,s.heap.Ns X.env.locals m->h'.Ns X.env.locals m) (hok:HOk X.prog X.w H' h') (hg:AllBare g'):
  Inv X pins O H' { s with heap:=h',gens:=g',drawn:=d',toks:=t' }:=by
 have rl:∀b o,X.s₀.heap.get? b=some o->b≠X.env.locals:=λb o e=>Xg (Xf (Xa e) I.ok.above)
 have li:∀b o,X.s₀.heap.get? b=some o->b∉X.ex->b∉ch:=λb o e hx hb=>by
  rcases(ff b hb).1 with z|z
  ·exact hx z
  ·exact absurd (Xf (Xa e) z) (Yp _)
 have gq:∀x c,X.env.cells.lookup x=some c->∀v,s.heap.IsCell c v->h'.IsCell c v:=λx c e v ⟨o,ho,hd⟩=>by
  have km:c∉ch:=λz=>(ff c z).2.2.1 x c e rfl
  by_cases hc:c∈X.fs
  ·obtain⟨sl,q⟩:=slot c o (I.cne x c e) hc km ho (I.freeC x c e);exact⟨_,q,hd⟩
  ·exact⟨o,keep c o (I.cne x c e) hc km ho (I.freeC x c e),hd⟩
 refine⟨I.ok,I.os,hg,⟨λb o e n hb hx=>?_,λb o e n hb hx=>?_,λb o e n hx=>?_,λb o e hx=>?_,λb xs e=>tups b xs (I.base.tups b xs e),λb o xs e=>frzs b o xs (I.base.frzs b o xs e),λb ps e=>?_⟩,?_,λx c e=>?_,?_,λx c e=>?_,λp hp=>?_,hok,I.len⟩
 ·exact keep b o (rl b o e) hb (li b o e hx) (I.base.keep b o e n hb hx) (I.base.free b o e n hx)
 ·obtain⟨sl,e1⟩:=I.base.slot b o e n hb hx;obtain⟨sl',e2⟩:=slot b _ (rl b o e) hb (li b o e hx) e1 (I.base.free b o e n hx);exact⟨sl',e2⟩
 ·obtain⟨o',e1⟩:=I.base.there b o e hx;exact free b o' (li b o e hx) e1 (I.base.free b o e n hx)
 ·obtain⟨o',e1⟩:=I.base.there b o e hx;exact there b o' (li b o e hx) e1
 ·obtain⟨m1,e1⟩:=I.base.tbls b ps e;obtain⟨m2,e2⟩:=tbls b _ e1;exact⟨m1++m2,by rw[e2,Array.append_assoc]⟩
 ·obtain⟨m,hn,hl⟩:=I.loc;refine⟨m,ns m hn,λi x v e1 e2 e3=>?_⟩;obtain⟨u,r,l⟩:=hl i x v e1 e2 e3;refine⟨u,r,?_⟩;rcases l with l|⟨k,c,e,z⟩
  ·exact .inl l
  ·exact .inr ⟨k,c,e,gq x c e _ z⟩
 ·obtain⟨v,z⟩:=I.cell x c e;exact⟨v,gq x c e v z⟩
 ·obtain⟨m,⟨o,_,_,ho,_⟩,_⟩:=I.loc;exact free _ o (λz=>(ff _ z).2.1 rfl) ho I.free
 ·obtain⟨v,o,ho,hd⟩:=I.cell x c e;exact free c o (λz=>(ff c z).2.2.1 x c e rfl) ho (I.freeC x c e)
 ·obtain⟨e,n,ne,nf,d⟩:=I.pin p hp;have km:p.1∉ch:=λz=>(ff p.1 z).2.2.2 p hp rfl
  exact⟨keep p.1 p.2 ne nf km e n,free p.1 p.2 km e n,ne,nf,d⟩
theorem Inv.un{t':Nat}(I:Inv X pins O H s)(u:Un X.fs [] H H' s.heap h')(hok:HOk X.prog X.w H' h'):Inv X pins O H' { s with heap:=h',toks:=t' }:=by
 obtain⟨m,⟨o,es,ep,ho,r⟩,_⟩:=id I.loc;obtain⟨sl,hL⟩:=u.any ho I.free (by simp);exact I.step (g':=s.gens) (d':=s.drawn) (ch:=[]) (λ_ z=>nomatch z) (λb o _ hb _ e n=>u.keep b o e n hb (by simp)) (λb o _ hb _ e n=>u.slot b o e n hb (by simp)) (λb o _ e n=>u.free b o e n (by simp)) (λb o _ e=>u.there b o e (by simp)) u.tups u.frzs u.tbls (λm' hm=>by
  obtain⟨o',es',ep',iu,r'⟩:=hm;rw[ho]at iu;cases iu;exact⟨_,es',ep',hL,r'⟩) hok I.bare
theorem Inv.call{g':Array GenState}{t':Nat}{d':Drawn}{ch:List Addr}(I:Inv X pins O H s)(u:Un (frs X.stack) ch H H' s.heap h')(hok:HOk X.prog X.w H' h')(hg:AllBare g')
  (ff:∀b∈ch,(b∈X.ex\/X.s₀.heap.objs.size<=b)/\b≠X.env.locals/\(∀x c,X.env.cells.lookup x=some c->c≠b)/\∀p∈X.pn++pins,p.1≠b):
  Inv X pins O H' { s with heap:=h',gens:=g',drawn:=d',toks:=t' }:=by
 obtain⟨m,⟨o,es,ep,ho,r⟩,_⟩:=id I.loc;obtain⟨sl,hL⟩:=u.any ho I.free λz=>(ff _ z).2.1 rfl
 exact I.step (ch:=ch) ff (λb o hL hb hc e n=>u.keep b o e n (λz=>(aD (I.stkSub b z)).elim hL hb) hc) (λb o _ _ hc e n=>u.any e n hc) (λb o hc e n=>u.free b o e n hc) (λb o hc e=>u.there b o e hc) u.tups u.frzs u.tbls (λm' hm=>by
  obtain⟨o',es',ep',iu,r'⟩:=hm;rw[ho]at iu;cases iu;exact⟨_,es',ep',hL,r'⟩) hok hg
theorem Inv.turned{t':Nat}{it:Addr}(I:Inv X pins O H s)(k:∀b o,b≠it->s.heap.get? b=some o->h'.get? b=some o)(hn:H it=none)(hL:it≠X.env.locals)
  (h1:it∈X.ex\/X.s₀.heap.objs.size<=it) (h2:∀x c,X.env.cells.lookup x=some c->c≠it) (h3:∀p∈X.pn++pins,p.1≠it):Inv X pins O H { s with heap:=h',toks:=t' }:=by
 have qc:∀b u,H b=some u->b≠it:=λb u e z=>by rw[z,hn]at e;cases e
 refine I.step (g':=s.gens) (d':=s.drawn) (ch:=[it]) (λb hb=>?_) (λb o _ _ hc e _=>k b o (λz=>hc (by simp[z])) e) (λb o _ _ hc e _=>⟨o.slots,k b o (λz=>hc (by simp[z])) e⟩) (λ_ _ _ _ n=>n)
  (λb o hc e=>⟨o,k b o (λz=>hc (by simp[z])) e⟩) (λ_ _ e=>e) (λ_ _ _ e=>e) (λb ps e=>⟨#[],by rw[e];simp⟩) (λm hm=>?_) (λb u e=>?_) I.bare
 ·have e:b=it:=by simpa using hb
  subst e;exact⟨h1,hL,h2,h3⟩
 ·obtain⟨o,es,ep,ho,r⟩:=hm;exact⟨o,es,ep,k _ o (Ne.symm hL) ho,r⟩
 ·refine(I.hok b u e).stay (λc v hc q=>k c v ?_ q) (λ_ q=>q) λ_ _ q=>q
  rcases hc with z|z
  ·rw[z];exact qc b u e
  ·exact qc c _ z
theorem Inv.tok(I:Inv X pins O H s)(t:Nat):Inv X pins O H { s with toks:=t }:=I.un (h':=s.heap) (t':=t) Un.refl I.hok
theorem Inv.kept{t':Nat}(I:Inv X pins O H s)(k:∀b u,s.heap.get? b=some u->h'.get? b=some u):Inv X pins O H { s with heap:=h',toks:=t' }:=I.un (Un.kept k) (I.hok.kept k)
theorem Inv.laid{a:Addr}{o:HO}{t':Nat}(I:Inv X pins O H s)(k:∀b u,s.heap.get? b=some u->h'.get? b=some u)(hp:s.heap.objs.size<=a)(new:ObjOk X.prog X.w (upd H a o) h' a o):
  Inv X pins O (upd H a o) { s with heap:=h',toks:=t' }:=I.un (Un.laid k hp (I.hok.fresh hp)) (I.hok.laid k hp new)
theorem Inv.write{x e:Addr}{o:HO}{t':Nat}(I:Inv X pins O H s)(mu:Mut (H x))(he:e=x\/H e=some (.own x))(k:∀b u,b≠e->s.heap.get? b=some u->h'.get? b=some u)(oj:∃u,h'.get? e=some u)
  (new:ObjOk X.prog X.w (upd H x o) h' x o):Inv X pins O (upd H x o) { s with heap:=h',toks:=t' }:=I.un (Un.write mu he k oj) (I.hok.write mu he k oj new)
theorem Inv.pins_of{d9:List (Addr×Obj)}(I:Inv X pins O H s)(h:∀p∈d9,s.heap.get? p.1=some p.2/\H p.1=none/\p.1≠X.env.locals/\p.1∉X.fs/\∀v,p.2.data≠.cell v):Inv X d9 O H s:=
 ⟨I.ok,I.os,I.bare,I.base,I.loc,I.cell,I.free,I.freeC,λp hp=>(aA hp).elim (λz=>I.pin p (ll9 _ z)) (h p),I.hok,I.len⟩
theorem kqz{N:List Str}(hN:N.Nodup){i j:Nat}{x:Str}(a:N[i]?=some x)(b:N[j]?=some x):i=j:=by
 obtain⟨h1,e1⟩:=List.getElem?_eq_some_iff.mp a;obtain⟨h2,e2⟩:=List.getElem?_eq_some_iff.mp b;exact(List.getElem_inj hN).mp (e1.trans e2.symm)
theorem qqu{M:Model}{A:Around}{E:Value->Shared->Prop}{i:Nat}{x:Str}{v:V}{u:Value}{Q:Unit->Shared->Prop}(I:Inv X pins O H s)(hN:X.N.Nodup)(hi:X.N[i]?=some x)(hx:Loc X.env.scope x)(r:RelV v u)
  (h:∀s',Inv X pins (O.set i (some v)) H s'->(∃a,Heap.SameBut a s.heap s'.heap/\(a=X.env.locals\/X.env.cells.lookup x=some a))->Q () s') (hf:autoParam (X.fn x=true\/X.env.scope.names.lookup x=some .local) Ř):wpAny M A (storeName X.env x u) Q E s:=by
 obtain⟨m,hn,hl⟩:=id I.loc;have mt:(X.env.scope.kind == .class||(X.env.scope.kind == .module&&X.env.locals != X.env.globals))=false:=by rw[I.ok.kind];rfl
 have p8:i < O.length:=by rw[I.len];exact(List.getElem?_eq_some_iff.mp hi).1
 have cne:=I.cne;have im:∀{a:Addr} {h':Heap},(∃o,s.heap.get? a=some o/\H a=none)->Heap.SameBut a s.heap h'->HOk X.prog X.w H h':=fun {a h'} ha hs b ob e=>by
  obtain⟨_,_,bp⟩:=ha;refine(I.hok b ob e).stay (λc w' hc q=>(hs.2 c ?_).trans q) (λ_ q=>q) λ_ _ q=>q
  rintro rfl;rcases hc with rfl|hc
  ·rw[bp]at e;cases e
  ·rw[bp]at hc;cases hc
 rcases hx with hk|hk
 ·refine wpAny_storeName_local hk hn (λh' jo hs=>?_) mt;obtain⟨oL,_,_,so,_⟩:=id hn;refine h _ ⟨I.ok,I.os,I.bare,⟨λb o e n hb hx=>?_,λb o e n hb hx=>?_,I.base.free,λb o e hx=>?_,I.base.tups,I.base.frzs,I.base.tbls⟩,⟨_,jo,λj y v' e1 e2 e3=>?_⟩,λy c e=>?_,I.free,I.freeC,λp hp=>?_,im ⟨oL,so,I.free⟩ hs,by simpa using I.len⟩ ⟨_,hs,.inl rfl⟩
  ·exact(hs.2 b (Xg (Xf (Xa e) I.ok.above))).trans (I.base.keep b o e n hb hx)
  ·obtain⟨sl,e1⟩:=I.base.slot b o e n hb hx;exact⟨sl,(hs.2 b (Xg (Xf (Xa e) I.ok.above))).trans e1⟩
  ·obtain⟨o',e1⟩:=I.base.there b o e hx;exact⟨o',(hs.2 b (Xg (Xf (Xa e) I.ok.above))).trans e1⟩
  ·by_cases hj:j=i
   ·subst hj;rw[hi]at e1;cases e1;rw[Z5 p8]at e2;cases e2;exact⟨u,r,.inl ⟨hk,by simp⟩⟩
   ·rw[Yi (Ne.symm hj)]at e2;obtain⟨u',r',q⟩:=hl j y v' e1 e2 e3;refine⟨u',r',?_⟩;rcases q with⟨k,e⟩|⟨k,c,e,z⟩
    ·refine .inl ⟨k,?_⟩;have:y≠x:=λe=>hj (kqz hN e1 (e▸hi))
     simp[this,e]
    ·exact .inr ⟨k,c,e,z.sameBut hs (cne y c e)⟩
  ·obtain⟨w',z⟩:=I.cell y c e;exact⟨w',z.sameBut hs (cne y c e)⟩
  ·obtain⟨e,n,ne,nf,d⟩:=I.pin p hp;exact⟨(hs.2 p.1 ne).trans e,n,ne,nf,d⟩
 ·have hfn:X.fn x=true:=by
   rcases hf with z|z
   ·exact z
   ·rw[z]at hk;cases hk
  obtain⟨c,hc⟩:=I.ok.has x (.inl hk);obtain⟨w',z⟩:=I.cell x c hc;refine wpAny_storeName_cell I.ok.kind hk hc z (λh' iq hs=>?_);obtain⟨oc,hoc,hocd⟩:=id z;refine h { s with heap:=h' } ⟨I.ok,I.os,I.bare,⟨λb o e n hb hx=>?_,λb o e n hb hx=>?_,I.base.free,λb o e hx=>?_,I.base.tups,I.base.frzs,I.base.tbls⟩,⟨m,hn.sameBut hs (Ne.symm (cne x c hc)),λj y v' e1 e2 e3=>?_⟩,λy c' e=>?_,I.free,I.freeC,λp hp=>?_,im ⟨oc,hoc,I.freeC x c hc⟩ hs,by simpa using I.len⟩ ⟨c,hs,.inr hc⟩
  ·exact(hs.2 b (Xg (Xf (Xa e) (I.ok.cab x c hfn hc)))).trans (I.base.keep b o e n hb hx)
  ·obtain⟨sl,e1⟩:=I.base.slot b o e n hb hx;exact⟨sl,(hs.2 b (Xg (Xf (Xa e) (I.ok.cab x c hfn hc)))).trans e1⟩
  ·obtain⟨o',e1⟩:=I.base.there b o e hx;exact⟨o',(hs.2 b (Xg (Xf (Xa e) (I.ok.cab x c hfn hc)))).trans e1⟩
  ·by_cases hj:j=i
   ·subst hj;rw[hi]at e1;cases e1;rw[Z5 p8]at e2;cases e2;exact⟨u,r,.inr ⟨.inl hk,c,hc,iq⟩⟩
   ·rw[Yi (Ne.symm hj)]at e2;obtain⟨u',r',q⟩:=hl j y v' e1 e2 e3;refine⟨u',r',?_⟩;rcases q with q|⟨k,c',e,z'⟩
    ·exact .inl q
    ·refine .inr ⟨k,c',e,z'.sameBut hs ?_⟩;rintro rfl;exact hj (kqz hN e1 (I.ok.inj _ _ _ e hc▸hi))
  ·by_cases ig:c'=c
   ·subst ig;exact⟨_,iq⟩
   ·obtain⟨w2,z2⟩:=I.cell y c' e;exact⟨w2,z2.sameBut hs ig⟩
  ·obtain⟨e,n,ne,nf,d⟩:=I.pin p hp;refine⟨(hs.2 p.1 ?_).trans e,n,ne,nf,d⟩;intro q;rw[q,hoc]at e;have q':oc=p.2:=oq9 e;exact d w' (by rw[<-q'];exact hocd)
theorem jwy{M:Model}{A:Around}{E:Value->Shared->Prop}{i:Nat}{x:Str}{v:V}{u:Value}{Q:Unit->Shared->Prop}(I:Inv X pins O H s)(hN:X.N.Nodup)(hi:X.N[i]?=some x)(hx:Loc X.env.scope x)(r:RelV v u)
  (h:∀s',Inv X pins (O.set i (some v)) H s'->Q () s') (hf:autoParam (X.fn x=true\/X.env.scope.names.lookup x=some .local) Ř):wpAny M A (storeName X.env x u) Q E s:=
 qqu I hN hi hx r (λs' I' _=>h s' I') hf
theorem Inv.call'{s':Shared}{ch:List Addr}(I:Inv X pins O H s)(ho:s'.os=s.os)(u:Un (frs X.stack) ch H H' s.heap s'.heap)(hok:HOk X.prog X.w H' s'.heap)(hg:AllBare s'.gens)
  (ff:∀b∈ch,(b∈X.ex\/X.s₀.heap.objs.size<=b)/\b≠X.env.locals/\(∀x c,X.env.cells.lookup x=some c->c≠b)/\∀p∈X.pn++pins,p.1≠b):Inv X pins O H' s':=by
 obtain⟨h',g',d',t',o'⟩:=s';have e:o'=s.os:=ho;subst e;exact I.call (g':=g') (t':=t') (d':=d') u hok hg ff
end
abbrev XK:=Value->Option Addr->Hp->Prop
abbrev St:=List (Option V)
abbrev VK:=V->Hp->Prop
abbrev TE:=St->Hp->VK->Prop
abbrev TT:=St->Hp->(Bool->Hp->Prop)->Prop
abbrev TA:=St->Hp->(List V->Hp->Prop)->Prop
structure Ends where
 nx:St->Hp->Prop
 rt:VK
 bk:St->Hp->Prop:=λ_ _=>False
 ct:St->Hp->Prop:=λ_ _=>False
abbrev TS:=Ends->St->Hp->Prop
def EP(X:Cx)(pins:List (Addr×Obj))(O:St)(Q:VK)(u:Value)(s':Shared):Prop:=∃v H',Inv X pins O H' s'/\RelV v u/\Q v H'
def TP(X:Cx)(pins:List (Addr×Obj))(O:St)(Q:Bool->Hp->Prop)(b:Bool)(s':Shared):Prop:=∃H',Inv X pins O H' s'/\Q b H'
def AP(X:Cx)(pins:List (Addr×Obj))(O:St)(Q:List V->Hp->Prop)(us:List Value)(s':Shared):Prop:=∃vs H',Inv X pins O H' s'/\Vals vs us/\Q vs H'
def SP(X:Cx)(pins:List (Addr×Obj))(D:Ends)(f:Flow)(s':Shared):Prop:=
 match f with
 |.next=>∃ σ' H',Inv X pins σ' H' s'/\D.nx σ' H'|.brk=>∃ σ' H',Inv X pins σ' H' s'/\D.bk σ' H'|.cont=>∃ σ' H',Inv X pins σ' H' s'/\D.ct σ' H'|.ret u=>∃v σ' H',Inv X pins σ' H' s'/\RelV v u/\D.rt v H'
def PE(X:Cx)(e:Expr)(t:TE):Prop:=
 ∀(pins:List (Addr×Obj)) (s:Shared) (O:St) (H:Hp) (Q:VK),Inv X pins O H s->t O H Q->wpAny (model X.prog X.w) X.A (eval e X.env) (EP X pins O Q) X.xe s
def PT(X:Cx)(e:Expr)(t:TT):Prop:=
 ∀(pins:List (Addr×Obj)) (s:Shared) (O:St) (H:Hp) (Q:Bool->Hp->Prop),Inv X pins O H s->t O H Q->wpAny (model X.prog X.w) X.A (isTrue e X.env (eval e X.env)) (TP X pins O Q) X.xe s
def PW(X:Cx)(e:Expr)(t:TT):Prop:=
 ∀(fc:Sem Value) (pins:List (Addr×Obj)) (s:Shared) (O:St) (H:Hp) (Q:Bool->Hp->Prop),Inv X pins O H s->t O H Q->wpAny (model X.prog X.w) X.A (isTrue e X.env fc) (TP X pins O Q) X.xe s
theorem PW.pt{X:Cx}{e:Expr}{t:TT}(h:PW X e t):PT X e t:=h _
def PA(X:Cx)(es:List Expr)(t:TA):Prop:=
 ∀(pos:Pos) (pins:List (Addr×Obj)) (s:Shared) (O:St) (H:Hp) (Q:List V->Hp->Prop),Inv X pins O H s->t O H Q->wpAny (model X.prog X.w) X.A (spliced (backTo pos (starEach es X.env))) (AP X pins O Q) X.xe s
def PS(X:Cx)(st:Stmt)(t:TS):Prop:=
 ∀(pins:List (Addr×Obj)) (s:Shared) (O:St) (H:Hp) (D:Ends),Inv X pins O H s->t D O H->wpAny (model X.prog X.w) X.A (exec st X.env) (SP X pins D) X.xe s
def PSs(X:Cx)(st:List Stmt)(t:TS):Prop:=
 ∀(pins:List (Addr×Obj)) (s:Shared) (O:St) (H:Hp) (D:Ends),Inv X pins O H s->t D O H->wpAny (model X.prog X.w) X.A (execs st X.env) (SP X pins D) X.xe s
theorem thn{α:Type}{t:Sem α}{Q Q':α->Shared->Prop}{M:Model}{A:Around}{E:Value->Shared->Prop}{s:Shared}(h:wpAny M A t Q E s)(hQ:∀a s,Q a s->Q' a s):wpAny M A t Q' E s:=Zi h hQ λ_ _ x=>x
section
variable {X:Cx}
abbrev JX(i:Nat):TE:=fun O H Q=>∃v,O[i]?=some (some v)/\Q v H
abbrev tC(v:V):TE:=λ_ H Q=>Q v H
theorem wjt{i:Nat}{x:Str}{pos:Pos}(hN:X.N[i]?=some x)(hv:Vis X.env.scope x)(hd:autoParam ((x==("__debug__":Str))=false) ŕ)(i9:autoParam ((x==("__classdict__":Str))=false) ŕ):PE X (.Name x pos) (JX i):=by
 intro pins s O H Q I h;obtain⟨v,e,h⟩:=h;obtain⟨m,hn,hl⟩:=I.loc;obtain⟨u,r,l⟩:=hl i x v hN e hv;have fin:EP X pins O Q u s:=⟨v,H,I,r,h⟩;rcases l with⟨hk,hm⟩|⟨hk,c,hc,hcell⟩
 ·exact wpAny_Name (wpAny_loadName_local I.ok.kind hk hn hm fin) hd
 ·rcases hk with hk|hk
  ·exact wpAny_Name (wpAny_loadName_cell I.ok.kind hk hc hcell fin) hd
  ·exact wpAny_Name (wpAny_loadName_free I.ok.kind hk hc hcell fin i9) hd
theorem vkz{i j pos}:PE X (.Constant (.int i) j pos) (tC (.int i)):=λ_ _ _ H _ I h=>wpAny_Constant_int ⟨.int i,H,I.tok _,⟨_,rfl⟩,h⟩
theorem wjy{b j pos}:PE X (.Constant (.bool b) j pos) (tC (.bl b)):=λ_ _ _ H _ I h=>Constant_bool ⟨.bl b,H,I,rfl,h⟩
theorem wjv{j pos}:PE X (.Constant .none j pos) (tC .non):=λ_ _ _ H _ I h=>Constant_none ⟨.non,H,I,rfl,h⟩
theorem kw5{x j pos}:PE X (.Constant (.str x) j pos) (tC (.str x)):=λ_ _ _ H _ I h=>Calls.Constant_str ⟨.str x,H,I.tok _,⟨_,rfl⟩,h⟩
def Gl(X:Cx)(x:Str):Prop:=X.env.kindOf x=some .globalImplicit
theorem kjo{E:Value->Shared->Prop}{pins:List (Addr×Obj)}{s:Shared}{O:St}{H:Hp}{x:Str}{u:Value}{pos:Pos}{Q:Value->Shared->Prop}(I:Inv X pins O H s)(hg:Gl X x)(hm:X.mg x=some u)(h:Q u s)
  (hd:autoParam ((x==("__debug__":Str))=false) ŕ):wpAny (model X.prog X.w) X.A (eval (.Name x pos) X.env) Q E s:=
 Calls.Name_function_global I.ok.kind hg (Calls.loadGlobal_global (by rw[I.ok.glob];exact I.mod.glob.keeps I.bk) hm h) hd
theorem Q7{E:Value->Shared->Prop}{pins:List (Addr×Obj)}{s:Shared}{O:St}{H:Hp}{x:Str}{u:Value}{pos:Pos}{Q:Value->Shared->Prop}(I:Inv X pins O H s)(hg:Gl X x)(hm:X.mg x=none)(hv:bootBuiltins x=some u)(h:Q u s)
  (hn:autoParam (x≠"__name__") ŕ) (hd:autoParam ((x==("__debug__":Str))=false) ŕ):wpAny (model X.prog X.w) X.A (eval (.Name x pos) X.env) Q E s:=by
 obtain⟨mb,h1,h2⟩:=I.mod.blt;exact Calls.Name_function_global I.ok.kind hg (Calls.loadGlobal_builtin (by rw[I.ok.glob];exact I.mod.glob.keeps I.bk) hm (by rw[I.ok.blt];exact h1.keeps I.bk) ((h2 x hn).trans hv) h) hd
theorem qvt{x:Str}{v:V}{u:Value}{pos:Pos}(hg:Gl X x)(hm:X.mg x=some u)(r:RelV v u)(hd:autoParam ((x==("__debug__":Str))=false) ŕ):PE X (.Name x pos) (tC v):=
 λ_ _ _ H _ I h=>kjo I hg hm ⟨v,H,I,r,h⟩ hd
theorem qvw{x:Str}{v:V}{u:Value}{pos:Pos}(hg:Gl X x)(hm:X.mg x=none)(hv:bootBuiltins x=some u)(r:RelV v u)(hn:autoParam (x≠"__name__") ŕ)(hd:autoParam ((x==("__debug__":Str))=false) ŕ):PE X (.Name x pos) (tC v):=
 λ_ _ _ H _ I h=>Q7 I hg hm hv ⟨v,H,I,r,h⟩ hn hd
variable {a b:Expr}{ta tb:TE}{pos:Pos}
variable {tA tB':TT}{jq:List Expr}
abbrev tAnd(t u:TT):TT:=fun O H Q=>t O H λc H1=>if c=true then u O H1 Q else Q false H1
abbrev tOr(t u:TT):TT:=fun O H Q=>t O H λc H1=>if c=true then Q true H1 else u O H1 Q
abbrev tNot(t:TT):TT:=fun O H Q=>t O H λc H1=>Q (!c) H1
theorem vvc(ha:PT X a tA):PW X (.BoolOp .And [a] pos) tA:=by
 intro wh pins s O H Q I h;refine isTrue_and (thn (ha pins s O H Q I h) λc s1 e=>?_);cases c with|true=>exact isTrue_and_nil e|false=>exact e
theorem wjg(ha:PT X a tA):PW X (.BoolOp .Or [a] pos) tA:=by
 intro wh pins s O H Q I h;refine isTrue_or (thn (ha pins s O H Q I h) λc s1 e=>?_);cases c with|false=>exact isTrue_or_nil e|true=>exact e
theorem wjh(ha:PT X a tA)(hb:PW X (.BoolOp .And (b::jq) pos) tB'):PW X (.BoolOp .And (a::b::jq) pos) (tAnd tA tB'):=by
 intro wh pins s O H Q I h;refine isTrue_and (thn (ha pins s O H _ I h) λc s1 ⟨H1,I1,q1⟩=>?_);cases c with|true=>exact hb wh pins s1 O H1 Q I1 q1|false=>exact⟨H1,I1,q1⟩
theorem wwe(ha:PT X a tA)(hb:PW X (.BoolOp .Or (b::jq) pos) tB'):PW X (.BoolOp .Or (a::b::jq) pos) (tOr tA tB'):=by
 intro wh pins s O H Q I h;refine isTrue_or (thn (ha pins s O H _ I h) λc s1 ⟨H1,I1,q1⟩=>?_);cases c with|true=>exact⟨H1,I1,q1⟩|false=>exact hb wh pins s1 O H1 Q I1 q1
theorem wjj(ha:PT X a tA):PT X (.UnaryOp .Not a pos) (tNot tA):=by
 intro pins s O H Q I h;exact isTrue_not (ha pins s O H (λc H1=>Q (!c) H1) I h)
abbrev wvm(ta tb:TE):TE:=fun O H Q=>ta O H λx H1=>∃c,x=.bl c/\if c=true then tb O H1 Q else Q (.bl false) H1
abbrev tOrV(ta tb:TE):TE:=fun O H Q=>ta O H λx H1=>∃c,x=.bl c/\if c=true then Q (.bl true) H1 else tb O H1 Q
theorem wju{op}{t:TE}(h:PE X a t):PE X (.BoolOp op [a] pos) t:=λpins s O H Q I hw=>BoolOp_one (h pins s O H Q I hw)
theorem wjz(ha:PE X a ta)(hb:PE X (.BoolOp .And (b::jq) pos) tb):PE X (.BoolOp .And (a::b::jq) pos) (wvm ta tb):=by
 intro pins s O H Q I h;refine BoolOp_and (thn (ha pins s O H _ I h) λv s1 ⟨x,H1,I1,r1,q1⟩=>?_);obtain⟨c,rfl,q1⟩:=q1;cases r1;refine wpAny_truthy_bool ?_;cases c with|true=>exact hb pins s1 O H1 Q I1 q1|false=>exact⟨.bl false,H1,I1,rfl,q1⟩
theorem wwi(ha:PE X a ta)(hb:PE X (.BoolOp .Or (b::jq) pos) tb):PE X (.BoolOp .Or (a::b::jq) pos) (tOrV ta tb):=by
 intro pins s O H Q I h;refine BoolOp_or (thn (ha pins s O H _ I h) λv s1 ⟨x,H1,I1,r1,q1⟩=>?_);obtain⟨c,rfl,q1⟩:=q1;cases r1;refine wpAny_truthy_bool ?_;cases c with|false=>exact hb pins s1 O H1 Q I1 q1|true=>exact⟨.bl true,H1,I1,rfl,q1⟩
abbrev tIf(t:TT)(ta tb:TE):TE:=fun O H Q=>t O H λc H1=>if c=true then ta O H1 Q else tb O H1 Q
theorem vj6{c:Expr}(hc:PT X c tA)(ha:PE X a ta)(hb:PE X b tb):PE X (.IfExp c a b pos) (tIf tA ta tb):=by
 intro pins s O H Q I h;refine wpAny_IfExp (thn (hc pins s O H _ I h) λd s1 ⟨H1,I1,q1⟩=>?_);cases d with|true=>exact ha pins s1 O H1 Q I1 q1|false=>exact hb pins s1 O H1 Q I1 q1
end
def SqL(K:Frag)(H:Hp)(a:Addr)(xs:List V):Prop:=
 Rd H a (.lst xs) \/
  ∃(o:Obj) (ai:Array Value) (n:Nat),K.lookup a=some o/\o.cls=.type "list"/\o.dict=none/\o.data=.seq ai n/\ai.size<=sizeLine/\Vals xs ai.toList
def SqT(K:Frag)(H:Hp)(a:Addr)(xs:List V):Prop:=
 Rd H a (.tup xs) \/
  ∃(o:Obj) (ai:Array Value) (n:Nat),K.lookup a=some o/\o.cls=.type "tuple"/\o.dict=none/\o.data=.seq ai n/\ai.size<=sizeLine/\Vals xs ai.toList
def absV:Value->Option V
 |.none=>some .non|.bool b=>some (.bl b)|.int i _=>some (.int i)|.str x _=>some (.str x)|.bytes b _=>some (.byt b)|.float b _=>some (.flt b)|.ref a=>some (.ref a)|.type n=>some (.ty n)|_=>none
theorem RelV.abs{x:V}{u:Value}(r:RelV x u):absV u=some x:=by
 cases x with|non=>cases r;rfl|bl _=>cases r;rfl|int _=>obtain⟨t,rfl⟩:=r;rfl|str _=>obtain⟨t,rfl⟩:=r;rfl|byt _=>obtain⟨t,rfl⟩:=r;rfl|flt _=>obtain⟨t,rfl⟩:=r;rfl|ref _=>cases r;rfl|ty _=>cases r;rfl
theorem RelV.inj{x y:V}{u:Value}(r:RelV x u)(q:RelV y u):x=y:=oq9 (r.abs.symm.trans q.abs)
theorem Vals.inj:∀{xs ys:List V} {us:List Value},Vals xs us->Vals ys us->xs=ys
 |_,_,_,.nil,.nil=>rfl|_,_,_,.cons r t,.cons r' t'=>by rw[r.inj r',Vals.inj t t']
section
variable {X:Cx}{pins:List (Addr×Obj)}{O:St}{H:Hp}{s:Shared}{a:Addr}{xs ys:List V}
theorem SqL.of{K:Frag}(h:H a=some (.lst xs)):SqL K H a xs:=.inl (.inl h)
theorem SqT.of{K:Frag}(h:H a=some (.tup xs)):SqT K H a xs:=.inl (.inl h)
theorem Inv.list(I:Inv X pins O H s)(h:SqL X.K H a xs):∃ai:List Value,Vals xs ai/\PlainL s.heap a ai.toArray/\xs.length<=sizeLine:=by
 rcases h with h|⟨o,ai,n,hk,hc,hd,hs,hz,r⟩
 ·obtain⟨z,ai,n,r,e⟩:=h.ok I.hok;exact⟨ai,r,⟨_,n,e,rfl,rfl,rfl⟩,z⟩
 ·refine⟨ai.toList,r,⟨o,n,I.kIn a o hk,hc,hd,by simpa using hs⟩,?_⟩;have e:=r.length;simp only[Xi]at e;omega
theorem Inv.tuple(I:Inv X pins O H s)(h:SqT X.K H a xs):∃ai:List Value,Vals xs ai/\IsTup s.heap a ai.toArray/\xs.length<=sizeLine:=by
 rcases h with h|⟨o,ai,n,hk,hc,_,hs,hz,r⟩
 ·obtain⟨z,ai,r,p⟩:=h.ok I.hok;exact⟨ai,r,p.tup,z⟩
 ·refine⟨ai.toList,r,⟨o,I.kIn a o hk,hc,n,by simpa using hs⟩,?_⟩;have e:=r.length;simp only[Xi]at e;omega
theorem Inv.tupleD(I:Inv X pins O H s)(h:SqT X.K H a xs):∃o,s.heap.get? a=some o/\o.dict=none:=by
 rcases h with h|⟨o,ai,n,hk,hc,hd,hs,hz,r⟩
 ·obtain⟨z,ai,r,o,e,_,d,_⟩:=h.ok I.hok;exact⟨o,e,d⟩
 ·exact⟨o,I.kIn a o hk,hd⟩
theorem Inv.list_inj(I:Inv X pins O H s)(h:SqL X.K H a xs)(h':SqL X.K H a ys):xs=ys:=by
 obtain⟨ai,r,⟨o,n,e,_,_,d⟩,_⟩:=I.list h;obtain⟨its',r',⟨o',n',e',_,_,d'⟩,_⟩:=I.list h';rw[e]at e';cases e';rw[d]at d';injection d' with d1 _;have:ai=its':=by simpa using congrArg Array.toList d1
 subst this;exact r.inj r'
theorem Inv.tuple_inj(I:Inv X pins O H s)(h:SqT X.K H a xs)(h':SqT X.K H a ys):xs=ys:=by
 obtain⟨ai,r,⟨o,e,_,n,d⟩,_⟩:=I.tuple h;obtain⟨its',r',⟨o',e',_,n',d'⟩,_⟩:=I.tuple h';rw[e]at e';cases e';rw[d]at d';injection d' with d1 _;have:ai=its':=by simpa using congrArg Array.toList d1
 subst this;exact r.inj r'
end
abbrev Cx.wish(X:Cx)(E:Value->Shared->Prop):Cx:={ X with xe:=E }
abbrev Cx.nox(X:Cx):Cx:=X.wish λ_ _=>False
theorem Cx.Ok.wish{X:Cx}(ok:X.Ok)(E:Value->Shared->Prop):(X.wish E).Ok:=
 ⟨ok.mod,ok.kind,ok.glob,ok.blt,ok.above,ok.inj,ok.has,ok.cab,ok.hd,ok.frames,ok.stk,ok.exf,ok.bs,ok.bsz,ok.noex,ok.exfs,ok.funs,ok.frf⟩
theorem Cx.Ok.unwish{X:Cx}{E:Value->Shared->Prop}(ok:(X.wish E).Ok):X.Ok:=
 ⟨ok.mod,ok.kind,ok.glob,ok.blt,ok.above,ok.inj,ok.has,ok.cab,ok.hd,ok.frames,ok.stk,ok.exf,ok.bs,ok.bsz,ok.noex,ok.exfs,ok.funs,ok.frf⟩
section
variable {X:Cx}{pins:List (Addr×Obj)}{O:St}{H:Hp}{s:Shared}{E:Value->Shared->Prop}
theorem Inv.wish(I:Inv X pins O H s)(E:Value->Shared->Prop):Inv (X.wish E) pins O H s:=⟨I.ok.wish E,I.os,I.bare,I.base,I.loc,I.cell,I.free,I.freeC,I.pin,I.hok,I.len⟩
theorem Inv.unwish(I:Inv (X.wish E) pins O H s):Inv X pins O H s:=⟨I.ok.unwish,I.os,I.bare,I.base,I.loc,I.cell,I.free,I.freeC,I.pin,I.hok,I.len⟩
theorem SP.unwish{D:Ends}{f:Flow}{s':Shared}(h:SP (X.wish E) pins D f s'):SP X pins D f s':=by
 cases f with|next=>obtain⟨σ',H',I,q⟩:=h;exact⟨σ',H',I.unwish,q⟩|brk=>obtain⟨σ',H',I,q⟩:=h;exact⟨σ',H',I.unwish,q⟩|cont=>obtain⟨σ',H',I,q⟩:=h;exact⟨σ',H',I.unwish,q⟩|ret u=>obtain⟨v,σ',H',I,r,q⟩:=h;exact⟨v,σ',H',I.unwish,r,q⟩
end
section
variable {X:Cx}{st:Stmt}{jq:List Stmt}{t u:TS}{e:Expr}{te:TE}{pos:Pos}
abbrev wvj:TS:=λD O H=>D.nx O H
abbrev tSeq(t u:TS):TS:=λD O H=>t { D with nx:=u D } O H
theorem vvi:PSs X [] wvj:=λ_ _ O H _ I h=>wpAny_execs_nil ⟨O,H,I,h⟩
theorem qzy(h1:PS X st t)(h2:PSs X jq u):PSs X (st::jq) (tSeq t u):=by
 intro pins s O H D I h;refine wpAny_execs_cons (thn (h1 pins s O H { D with nx:=u D } I h) λf s1 q=>?_);cases f with
 |next=>
  obtain⟨σ',H',I',q⟩:=q;exact h2 pins s1 σ' H' D I' q
 |ret v=>exact q|brk=>exact q|cont=>exact q
theorem vvh(h1:PS X st t):PSs X [st] t:=by
 intro pins s O H D I h;refine wpAny_execs_cons (thn (h1 pins s O H D I h) λf s1 q=>?_);cases f with|next=>exact wpAny_execs_nil q|ret v=>exact q|brk=>exact q|cont=>exact q
theorem Inv.quiet{pins:List (Addr×Obj)}{O:St}{H:Hp}{s:Shared}(I:Inv X pins O H s):interactive X.env=false:=by simp[interactive,I.ok.kind]
abbrev vz7(te:TE):TS:=λD O H=>te O H λ_ H1=>D.nx O H1
theorem vvk(he:PE X e te)(hs:autoParam (swapsWith e none pos.line X.env=pure false) Ŕ):PS X (.Expr e pos) (vz7 te):=by
 intro pins s O H D I h;exact wpAny_Expr_any (thn (he pins s O H _ I h) λv s1 ⟨x,H1,I1,r1,q1⟩=>⟨O,H1,I1,q1⟩) I.quiet hs
abbrev tRet(te:TE):TS:=λD O H=>te O H D.rt
theorem wjl(he:PE X e te):PS X (.Return (some e) pos) (tRet te):=by
 intro pins s O H D I h;exact wpAny_Return_some (thn (he pins s O H _ I h) λv s1 ⟨x,H1,I1,r1,q1⟩=>⟨x,O,H1,I1,r1,q1⟩)
abbrev tIfS(c:TT)(t u:TS):TS:=λD O H=>c O H λb H1=>if b=true then t D O H1 else u D O H1
theorem wwf{c:Expr}{a b:List Stmt}{tc:TT}(hc:PT X c tc)(ha:PSs X a t)(hb:PSs X b u):PS X (.If c a b pos) (tIfS tc t u):=by
 intro pins s O H D I h;refine wpAny_If (thn (hc pins s O H _ I h) λd s1 ⟨H1,I1,q1⟩=>?_);cases d with|true=>exact ha pins s1 O H1 D I1 q1|false=>exact hb pins s1 O H1 D I1 q1
end
abbrev TG:=V->St->Hp->(St->Hp->Prop)->Prop
abbrev TGs:=List V->St->Hp->(St->Hp->Prop)->Prop
def PG(X:Cx)(ef:Expr)(t:TG):Prop:=
 ∀(pins:List (Addr×Obj)) (s:Shared) (O:St) (H:Hp) (v:V) (u:Value) (Q:St->Hp->Prop),Inv X pins O H s->RelV v u->t v O H Q ->
  wpAny (model X.prog X.w) X.A (assign ef X.env u) (λ_ s'=>∃ σ' H',Inv X pins σ' H' s'/\Q σ' H') X.xe s
def PGs(X:Cx)(ts:List Expr)(t:TGs):Prop:=
 ∀(pins:List (Addr×Obj)) (s:Shared) (O:St) (H:Hp) (vs:List V) (us:List Value) (Q:St->Hp->Prop),Inv X pins O H s->Vals vs us->t vs O H Q ->
  wpAny (model X.prog X.w) X.A (assignInOrder ((assignEach ts X.env).map (·.2)) us) (λ_ s'=>∃ σ' H',Inv X pins σ' H' s'/\Q σ' H') X.xe s
abbrev wxg:=V->V->V->Hp->(Hp->Prop)->Prop
def wzk(X:Cx)(t:wxg):Prop:=
 ∀(pins:List (Addr×Obj)) (s:Shared) (O:St) (H:Hp) (o i v:V) (ov iv u:Value) (Q:Hp->Prop),Inv X pins O H s->RelV o ov->RelV i iv->RelV v u->t o i v H Q ->
  wpAny (model X.prog X.w) X.A (setItem ov iv u) (λ_ s'=>∃H',Inv X pins O H' s'/\Q H') X.xe s
section
variable {X:Cx}{pos:Pos}
abbrev vjq(i:Nat):TG:=λv O H Q=>Q (O.set i (some v)) H
theorem xW{i:Nat}{x:Str}(hN:X.N.Nodup)(hi:X.N[i]?=some x)(hx:Loc X.env.scope x)(hf:autoParam (X.fn x=true\/X.env.scope.names.lookup x=some .local) Ř):PG X (.Name x pos) (vjq i):=by
 intro pins s O H v u Q I r h;exact wpAny_assign_Name (jwy I hN hi hx r (λs' I'=>⟨_,H,I',h⟩) hf)
abbrev wzd:TGs:=λvs O H Q=>vs=[]/\Q O H
abbrev wq8(t:TG)(u:TGs):TGs:=λvs O H Q=>∃v r,vs=v::r/\t v O H fun σ' H'=>u r σ' H' Q
theorem kxt:PGs X [] wzd:=by
 intro pins s O H vs us Q I r h;obtain⟨e,h⟩:=h;subst e;cases r;exact assignInOrder_nil ⟨O,H,I,h⟩
theorem Wz{e:Expr}{es:List Expr}{t:TG}{u:TGs}(h1:PG X e t)(h2:PGs X es u)
  (hs:autoParam ((assignEach (e::es) X.env).map (·.2)=assign e X.env::(assignEach es X.env).map (·.2)) Ŕ):PGs X (e::es) (wq8 t u):=by
 intro pins s O H vs us Q I r h;obtain⟨v,vr,e1,h⟩:=h;subst e1;cases r with
 |cons r rr=>
  rw[hs];refine assignInOrder_cons (thn (h1 pins s O H _ _ _ I r h) λ_ s1 ⟨σ1,H1,I1,q1⟩=>?_);exact h2 pins s1 σ1 H1 _ _ Q I1 rr q1
abbrev gSub(to ti:TE)(t:wxg):TG:=λv O H Q=>to O H λo H1=>ti O H1 λi H2=>t o i v H2 λH3=>Q O H3
theorem wjs{o i:Expr}{to ti:TE}{t:wxg}(ho:PE X o to)(hi:PE X i ti)(hs:wzk X t)
  (ha:autoParam (∀v,assign (.Subscript o i pos) X.env v=(do
   let ov <-holding [v] (eval o X.env)
   let iv <-holding [v,ov] (eval i X.env)
   standAt pos
   holding [v,ov,iv] (setItem ov iv v)
   release [v,ov,iv] [])) Ŗ):PG X (.Subscript o i pos) (gSub to ti t):=by
 intro pins s O H v u Q I r h;rw[ha];refine X0 (Y0 (thn (ho pins s O H _ I h) λov s1 ⟨x,H1,I1,r1,q1⟩=>?_));refine X0 (Y0 (thn (hi pins s1 O H1 _ I1 q1) λiv s2 ⟨y,H2,I2,r2,q2⟩=>?_));refine X0 (wpAny_standAt (X0 (Y0 (thn (hs pins s2 O H2 x y v ov iv u _ I2 r1 r2 r q2) λ_ s3 ⟨H3,I3,q3⟩=>?_))));exact wpAny_release ⟨O,H3,I3,q3⟩
abbrev wxo(te:TE)(g:TG):TS:=λD O H=>te O H λx H1=>g x O H1 D.nx
theorem wjn{tg e:Expr}{te:TE}{g:TG}(he:PE X e te)(hg:PG X tg g)(hs:autoParam (swapsWithSole [tg] e pos.line X.env=pure false) Ŕ)(hw:autoParam (swappedStores [tg] e X.env=pure none) Ŕ)
  (h1:autoParam ((assignEach [tg] X.env).map (·.2)=[assign tg X.env]) Ŕ):PS X (.Assign [tg] e pos) (wxo te g):=by
 intro pins s O H D I h;refine wpAny_Assign_stores (thn (he pins s O H _ I h) λv s1 ⟨x,H1,I1,r1,q1⟩=>?_) hs hw;rw[h1];exact thn (hg pins s1 O H1 x v _ I1 r1 q1) λ_ s2 q=>q
theorem wjk{i:Nat}{x:Str}{e:Expr}{te:TE}{bz:Pos}(hN:X.N.Nodup)(hi:X.N[i]?=some x)(hx:Loc X.env.scope x)(he:PE X e te)(hs:autoParam (swapsWith e (some (.Name x bz)) pos.line X.env=pure false) Ŕ)(hf:autoParam (X.fn x=true\/X.env.scope.names.lookup x=some .local) Ř):
  PS X (.Assign [.Name x bz] e pos) (wxo te (vjq i)):=by
 intro pins s O H D I h;refine wpAny_Assign_Name (thn (he pins s O H _ I h) λv s1 ⟨y,H1,I1,r1,q1⟩=>?_) hs;exact jwy I1 hN hi hx r1 (λs2 I2=>⟨_,H1,I2,q1⟩) hf
end
section
variable {X:Cx}{pos:Pos}
abbrev vz3(c:TT)(tb:TS):TS:=λD O H=>∃W:Nat->St->Hp->Prop,(∃m,W m O H)/\∀m O H,W m O H ->
 c O H λb H1=>if b=true then ∃N:St->Hp->Prop,(∀ σ' H',N σ' H'->∃m',m'<m/\W m' σ' H')/\tb { D with nx:=N,ct:=N,bk:=D.nx } O H1 else D.nx O H1
theorem qzz{c:Expr}{body:List Stmt}{tc:TT}{tb:TS}(hp:PassesOwn (model X.prog X.w) X.A X.env X.xe)(hc:PT X c tc)(hb:PSs X body tb):PS X (.While c body [] pos) (vz3 tc tb):=by
 intro pins s O H D I h;obtain⟨W,⟨m0,w0⟩,fk⟩:=h;refine wpAny_While (codeAny_whileLoop (λn s'=>∃ σ' H',Inv X pins σ' H' s'/\W n σ' H') ?_ m0 ⟨O,H,I,w0⟩);rintro n s1 ⟨σ1,H1,I1,w1⟩;refine Za hp (thn (hc pins s1 σ1 H1 _ I1 (fk n σ1 H1 w1)) λb s2 ⟨H2,I2,q2⟩=>?_);cases b with
 | true=>
  obtain⟨N,hN,q2⟩:=q2;rw[X9 rfl];refine Za hp (thn (hb pins s2 σ1 H2 _ I2 q2) λf s3 q3=>?_);cases f with
  |next=>
   obtain⟨σ3,H3,I3,n3⟩:=q3;obtain⟨m',hm,w3⟩:=hN σ3 H3 n3;exact⟨m',hm,σ3,H3,I3,w3⟩
  |cont=>
   obtain⟨σ3,H3,I3,n3⟩:=q3;obtain⟨m',hm,w3⟩:=hN σ3 H3 n3;exact⟨m',hm,σ3,H3,I3,w3⟩
  |brk=>exact q3|ret v=>exact q3
 |false=>
  rw[Xb Bool.false_ne_true];exact wpAny_execs_nil ⟨σ1,H2,I2,q2⟩
end
structure It where
 go:Nat->Hp->Prop
 yld:Nat->Hp->V->Hp->Prop
 stop:Nat->Hp->Prop
def wK(X:Cx)(pins:List (Addr×Obj))(H:Hp)(b:Addr):Prop:=
 H b=none/\b≠X.env.locals/\b∉X.fs/\(b∈X.ex\/X.s₀.heap.objs.size<=b)/\(∀x c,X.env.cells.lookup x=some c->c≠b)/\∀p∈X.pn++pins,p.1≠b
theorem Inv.fpOk{X:Cx}{pins:List (Addr×Obj)}{O:St}{H H':Hp}{s:Shared}{b:Addr}(I:Inv X pins O H s)(hb:s.heap.objs.size<=b)(hn:H' b=none):wK X pins H' b:=by
 refine⟨hn,Nat.ne_of_gt (Xf I.lt hb),I.nofs hb,.inr (Y2 I.sz hb),λx c e z=>?_,λp hp z=>?_⟩
 ·obtain⟨v,q⟩:=I.cell x c e;exact absurd (Xf q.lt (by rw[z];exact hb)) (Yp _)
 ·exact absurd (Xf (Xa (I.pin p hp).1) (by rw[z];exact hb)) (Yp _)
structure Turn (P:Program)(w:World)(K:Frag)(tg:Expr)(J:It)(fp:List Addr)(it:Addr)(tn:Nat->Heap->Prop):Prop where
 mem:it∈fp
 obj:∀i h,tn i h->∀b∈fp,∃o,h.get? b=some o/\∀v,o.data≠.cell v
 keep:∀i h h',tn i h->(∀b∈fp,∀o,h.get? b=some o->h'.get? b=some o)->tn i h'
 item:∀(X:Cx),X.prog=P->X.w=w->X.K=K->X.calm=true->∀(i:Nat) (pins:List (Addr×Obj)) (s:Shared) (O:St) (H:Hp) (E:Value->Shared->Prop),Inv X pins O H s->(∀b∈fp,wK X pins H b)->tn i s.heap->J.go i H ->
  wpAny (model P w) X.A (pyNext (.ref it)) (λr s1=>∃u,r=some u /\
   wpAny (model P w) X.A (letOwnedTupleGo tg (.ref it) u) (λ_ s2=>∃x H',Inv X pins O H' s2/\RelV x u/\J.yld i H x H'/\tn (i+1) s2.heap/\∀b∈fp,H' b=none) E s1) E s
 done:∀(X:Cx),X.prog=P->X.w=w->X.K=K->X.calm=true->∀(i:Nat) (pins:List (Addr×Obj)) (s:Shared) (O:St) (H:Hp) (E:Value->Shared->Prop),Inv X pins O H s->(∀b∈fp,wK X pins H b)->tn i s.heap->J.stop i H ->
  wpAny (model P w) X.A (pyNext (.ref it)) (λr s1=>r=none/\Inv X pins O H s1) E s
 self:∀(A:Around) (i:Nat) (s:Shared) (Q:Value->Shared->Prop) (E:Value->Shared->Prop),tn i s.heap->Q (.ref it) s->wpAny (model P w) A (pyIter (.ref it)) Q E s
abbrev TI:=St->Hp->(It->Hp->Prop)->Prop
def PIE(X:Cx)(pins:List (Addr×Obj))(O:St)(tg:Expr)(R:It->Hp->Prop)(itv:Value)(s2:Shared):Prop:=
 ∃(it:Addr) (fp:List Addr) (tn:Nat->Heap->Prop) (J:It) (H':Hp),itv=.ref it/\Inv X pins O H' s2/\Turn X.prog X.w X.K tg J fp it tn/\tn 0 s2.heap/\(∀b∈fp,wK X pins H' b)/\R J H'
def PI(X:Cx)(tg iter:Expr)(wi:TI):Prop:=
 ∀(pins:List (Addr×Obj)) (s:Shared) (O:St) (H:Hp) (R:It->Hp->Prop),Inv X pins O H s->wi O H R ->
  wpAny (model X.prog X.w) X.A (eval iter X.env) (λv s1=>wpAny (model X.prog X.w) X.A (pyIter v) (PIE X pins O tg R) X.xe s1) X.xe s
theorem vjp {M : Model} {A : Around} {E : Value -> Shared -> Prop} {s : Shared} {tg : Expr} {it : Addr} {u : Value} {o : Obj} {n : String} {vs : Array Value} {Q : Unit -> Shared -> Prop} (ho : s.heap.get? it = some o) (hc : o.cls = .type n) (hd : o.data = .fields vs)
    (hn : ["enumerate", "zip", "dict_itemiterator", "dict_reverseitemiterator", "odict_iterator", "itertools.zip_longest", "itertools.pairwise"].contains n = false) (hQ : Q () s): wpAny M A (letOwnedTupleGo tg (.ref it) u) Q E s:= by
  unfold letOwnedTupleGo;cases tg <;> first
    |exact X1 hQ
    |(cases u <;> first
        |exact X1 hQ
        | (refine X0 (wpAny_load ho ?_)
           rw[hc, hd];show wpAny M A (if(["enumerate", "zip", "dict_itemiterator", "dict_reverseitemiterator", "odict_iterator", "itertools.zip_longest", "itertools.pairwise"].contains n&&vs[0]? == some (rawInt _)) = true then _ else _) Q E s;rw[Xb (by intro h; rw[hn, Bool.false_and]at h; cases h)];exact X1 hQ))
def Itl(K:Frag)(a:Addr):It:=
 ⟨λi H=>∃xs x,SqL K H a xs/\xs[i]?=some x,λi H x H'=>H'=H/\∀xs,SqL K H a xs->xs[i]?=some x,λi H=>∃xs,SqL K H a xs/\xs.length<=i⟩
def Itt(K:Frag)(a:Addr):It:=
 ⟨λi H=>∃xs x,SqT K H a xs/\xs[i]?=some x,λi H x H'=>H'=H/\∀xs,SqT K H a xs->xs[i]?=some x,λi H=>∃xs,SqT K H a xs/\xs.length<=i⟩
def Itr(lo:Int)(n:Nat):It:=⟨λi _=>i<n,λi H x H'=>H'=H/\x=.int (lo+i),λi _=>n<=i⟩
theorem qqo{P:Program}{w:World}{K:Frag}{tg:Expr}(a it:Addr):Turn P w K tg (Itl K a) [it] it (λi h=>h.IsListIter it a i) where
 mem:=by simp
 obj:=λi h st b hb=>by
  have e:b=it:=by simpa using hb
  subst e;obtain⟨o,e,c,d⟩:=st;exact⟨o,e,λv z=>by rw[d]at z;cases z⟩
 keep:=λi h h' st k=>st.at λo e=>k it (by simp) o e
 item:=by
  intro X hP hw hK hc i pins s O H E I hf st hg;subst hP hw hK;obtain⟨xs,x,hq,hx⟩:=hg;obtain⟨ai,rv,p,hz⟩:=I.list hq;obtain⟨u,hu,ru⟩:=rv.get hx;obtain⟨f0,f1,f2,f3,f4,f5⟩:=hf it (by simp);refine wpAny_pyNext_list_item st p.isList (x:=u) (by simpa using hu) λh' dh sb=>?_
  have I1:Inv X pins O H { s with heap:=h' }:=I.turned (t':=s.toks) (λb o hb e=>(sb.2 b hb).trans e) f0 f1 f3 f4 f5;obtain⟨o,e,c,d⟩:=id dh;exact⟨u,rfl,vjp (s:={ s with heap:=h' }) e c d ⋯ ⟨x,H,I1,ru,⟨rfl,λys hy=>by rw[I.list_inj hy hq];exact hx⟩,dh,λb hb=>(hf b hb).1⟩⟩
 done:=by
  intro X hP hw hK hc i pins s O H E I hf st hg;subst hP hw hK;obtain⟨xs,hq,hx⟩:=hg;obtain⟨ai,rv,p,hz⟩:=I.list hq;obtain⟨f0,f1,f2,f3,f4,f5⟩:=hf it (by simp);have hl:=rv.length;exact wpAny_pyNext_list_end (I.ok.hd hc) st p.isList (by simp;omega) λh' eb=>⟨rfl,I.turned (t':=s.toks) (λb o hb e=>eb b o hb e) f0 f1 f3 f4 f5⟩
 self:=λ_ _ _ _ _ st h=>wpAny_pyIter_listiter st h
theorem qk9{P:Program}{w:World}{K:Frag}{tg:Expr}(a it:Addr):Turn P w K tg (Itt K a) [it] it (λi h=>h.IsTupleIter it a i) where
 mem:=by simp
 obj:=λi h st b hb=>by
  have e:b=it:=by simpa using hb
  subst e;obtain⟨o,e,c,d⟩:=st;exact⟨o,e,λv z=>by rw[d]at z;cases z⟩
 keep:=λi h h' st k=>st.at λo e=>k it (by simp) o e
 item:=by
  intro X hP hw hK hc i pins s O H E I hf st hg;subst hP hw hK;obtain⟨xs,x,hq,hx⟩:=hg;obtain⟨ai,rv,p,hz⟩:=I.tuple hq;obtain⟨u,hu,ru⟩:=rv.get hx;obtain⟨f0,f1,f2,f3,f4,f5⟩:=hf it (by simp);refine wpAny_pyNext_tuple_item st (show s.heap.IsTuple a ai.toArray from p) (x:=u) (by simpa using hu) λh' dh sb=>?_
  have I1:Inv X pins O H { s with heap:=h' }:=I.turned (t':=s.toks) (λb o hb e=>(sb.2 b hb).trans e) f0 f1 f3 f4 f5;obtain⟨o,e,c,d⟩:=id dh;exact⟨u,rfl,vjp (s:={ s with heap:=h' }) e c d ⋯ ⟨x,H,I1,ru,⟨rfl,λys hy=>by rw[I.tuple_inj hy hq];exact hx⟩,dh,λb hb=>(hf b hb).1⟩⟩
 done:=by
  intro X hP hw hK hc i pins s O H E I hf st hg;subst hP hw hK;obtain⟨xs,hq,hx⟩:=hg;obtain⟨ai,rv,p,hz⟩:=I.tuple hq;obtain⟨f0,f1,f2,f3,f4,f5⟩:=hf it (by simp);have hl:=rv.length;exact wpAny_pyNext_tuple_end (I.ok.hd hc) st (show s.heap.IsTuple a ai.toArray from p) (by simp;omega) λh' eb=>⟨rfl,I.turned (t':=s.toks) (λb o hb e=>eb b o hb e) f0 f1 f3 f4 f5⟩
 self:=λ_ _ _ _ _ st h=>wpAny_pyIter_tupleiter st h
theorem qka{P:Program}{w:World}{K:Frag}{tg:Expr}(it:Addr)(lo:Int)(n:Nat):Turn P w K tg (Itr lo n) [it] it (λi h=>IsRangeIter h it (lo+(i:Nat)*1) ((n:Int) - (i:Nat)) 1) where
 mem:=by simp
 obj:=λi h st b hb=>by
  have e:b=it:=by simpa using hb
  subst e;exact⟨_,st,λv z=>by
   have z':Data.fields _=Data.cell v:=z;cases z'⟩
 keep:=λi h h' st k=>k it (by simp) _ st
 item:=by
  intro X hP hw hK hc i pins s O H E I hf st hg;subst hP hw hK;obtain⟨f0,f1,f2,f3,f4,f5⟩:=hf it (by simp);have W:=Walks.range (prog:=X.prog) (w:=X.w) (I.ok.hd hc) it lo 1 n;refine W.item i s _ _ hg st λv h' tk hv dh kk=>?_
  obtain⟨t,rfl⟩:=hv;have I1:Inv X pins O H { s with heap:=h',toks:=tk }:=I.turned (λb o hb e=>kk b o (by simpa using hb) e) f0 f1 f3 f4 f5;refine⟨_,rfl,vjp (s:={ s with heap:=h',toks:=tk }) (n:="range_iterator") dh rfl rfl ⋯ ⟨.int (lo+i),H,I1,⟨t,?_⟩,⟨rfl,rfl⟩,dh,λb hb=>(hf b hb).1⟩⟩;rw[Int.mul_one]
 done:=by
  intro X hP hw hK hc i pins s O H E I hf st hg;subst hP hw hK;obtain⟨f0,f1,f2,f3,f4,f5⟩:=hf it (by simp);exact wpAny_pyNext_range_end (I.ok.hd hc) st (by have:n<=i:=hg;omega) λh' eb=>⟨rfl,I.turned (t':=s.toks) (λb o hb e=>eb b o hb e) f0 f1 f3 f4 f5⟩
 self:=λ_ _ _ _ _ st h=>wpAny_pyIter_rangeiter st h
section
variable {X:Cx}{tg:Expr}
theorem qzr{pins:List (Addr×Obj)}{O:St}{H:Hp}{s:Shared}{R:It->Hp->Prop}{E:Value->Shared->Prop}{lo hi:Int}{t u v:Tok}{tk:Nat}(I:Inv X pins O H s)(h1:-(2 ^ 62)<=lo)(h2:lo<2 ^ 62)(h3:-(2 ^ 62)<=hi)(h4:hi<2 ^ 62)
  (q:R (Itr lo (hi - lo).toNat) H):wpAny (model X.prog X.w) X.A (pyIter (.ref s.heap.objs.size)) (PIE X pins O tg R) E { s with heap:=s.heap.push { cls:=.type "range",data:=.fields #[.int lo t,.int hi u,.int 1 v] },toks:=tk }:=by
 refine wpAny_pyIter_range (IsRange.new ..) (small_one h1 h2 h3 h4) ?_;have I1:Inv X pins O H { s with heap:=s.heap.push { cls:=.type "range",data:=.fields #[.int lo t,.int hi u,.int 1 v] },toks:=tk }:=I.kept λb o e=>X3 _ e
 refine⟨(s.heap.push { cls:=.type "range",data:=.fields #[.int lo t,.int hi u,.int 1 v] }).objs.size,[(s.heap.push { cls:=.type "range",data:=.fields #[.int lo t,.int hi u,.int 1 v] }).objs.size],_,_,H,rfl,
  I1.kept (t':=tk) λb o e=>X3 _ e,qka _ lo (hi - lo).toNat,?_,λb hb=>?_,q⟩
 ·have e1:lo+((0:Nat):Int)*1=lo:=by simp
  have e2:(((hi - lo).toNat:Nat):Int) - ((0:Nat):Int)=Builtin.Range.rangeSize lo hi 1:=by rw[rangeSize_one];split<;>omega
  show IsRangeIter _ _ (lo+((0:Nat):Int)*1) ((((hi - lo).toNat:Nat):Int) - ((0:Nat):Int)) 1;rw[e1,e2];exact X6 _ rfl
 ·have e:b=(s.heap.push { cls:=.type "range",data:=.fields #[.int lo t,.int hi u,.int 1 v] }).objs.size:=by simpa using hb
  subst e;exact I1.fpOk (X8 _) (I1.hok.fresh (X8 _))
abbrev www(ta:TA):TI:=fun O H R=>ta O H λvs H1=>∃j:Int,vs=[.int j]/\-(2 ^ 62)<=j/\j<2 ^ 62/\R (Itr 0 j.toNat) H1
theorem qvr{a:Expr}{ta:TA}{p pos:Pos}(hg:Gl X "range")(hm:X.mg "range"=none)(ha:PA X [a] ta)(hs:autoParam (starEach [a] X.env=[(false,eval a X.env)]) Ŕ):PI X tg (.Call (.Name "range" p) [a] [] pos) (www ta):=by
 intro pins s O H R I h;refine Call_ (Q7 I hg hm boot_range (Yh (thn (ha pos pins s O H _ I h) λus s1 ⟨vs,H1,I1,r1,q1⟩=>?_) hs rfl));obtain⟨j,e,q1,q2,q⟩:=q1;subst e;cases r1 with
 |cons r rr=>
  cases rr;obtain⟨t,rfl⟩:=r;exact call_range_1 (qzr I1 ⋯ ⋯ q1 q2 (by simpa using q))
abbrev tFor(wi:TI)(g:TG)(tb:TS):TS:=λD O H=>wi O H λJ H1=>∃W:Nat->Nat->St->Hp->Prop,(∃m,W 0 m O H1)/\∀i m O H,W i m O H ->
 (J.stop i H/\D.nx O H)\/(J.go i H/\∃N:St->Hp->Prop,(∀ σ' H',N σ' H'->∃m',m'<m/\W (i+1) m' σ' H')/\∀x H',J.yld i H x H'->g x O H' fun σ2 H2=>tb { D with nx:=N,ct:=N,bk:=D.nx } σ2 H2)
def KK(fp:List Addr)(h:Heap):List (Addr×Obj):=fp.filterMap λb=>(h.get? b).map λo=>(b,o)
theorem jz2{fp:List Addr}{h:Heap}{b:Addr}{o:Obj}(hb:b∈fp)(e:h.get? b=some o):(b,o)∈KK fp h:=List.mem_filterMap.mpr ⟨b,hb,by rw[e];rfl⟩
theorem kwb{fp:List Addr}{h:Heap}{p:Addr×Obj}(hp:p∈KK fp h):p.1∈fp/\h.get? p.1=some p.2:=by
 obtain⟨b,hb,e⟩:=List.mem_filterMap.mp hp;cases q:h.get? b with
 |none=>rw[q]at e;cases e
 |some o=>
  rw[q]at e;have e':(b,o)=p:=oq9 e;subst e';exact⟨hb,q⟩
theorem Inv.pinned{pins:List (Addr×Obj)}{O:St}{H:Hp}{s:Shared}{fp:List Addr}(I:Inv X pins O H s)(hf:∀b∈fp,wK X pins H b)(ho:∀b∈fp,∃o,s.heap.get? b=some o/\∀v,o.data≠.cell v):Inv X (pins++KK fp s.heap) O H s:=
 I.pins_of λp hp=>(aA hp).elim (λz=>I.pin p (lr9 _ z)) λz=>by
  obtain⟨hb,e⟩:=kwb z;obtain⟨f0,f1,f2,_⟩:=hf p.1 hb;obtain⟨o,e',d⟩:=ho p.1 hb;rw[e]at e';cases e';exact⟨e,f0,f1,f2,d⟩
theorem Inv.unpinned{pins pl:List (Addr×Obj)}{O:St}{H:Hp}{s:Shared}(I:Inv X (pins++pl) O H s):Inv X pins O H s:=I.pins_of λp hp=>I.pin p (lr9 _ (ll9 _ hp))
theorem wjm{iter:Expr}{body:List Stmt}{wi:TI}{g:TG}{tb:TS}{pos:Pos}(hp:PassesOwn (model X.prog X.w) X.A X.env X.xe)(hc:X.calm=true)(hi:PI X tg iter wi)(hg:PG X tg g)(hb:PSs X body tb)
  (hs:autoParam (∀x,foldedSetIterable iter X.env x=pure x) Ŗ):PS X (.For tg iter body [] pos) (tFor wi g tb):=by
 intro pins s O H D I h;refine wpAny_For (thn (hi pins s O H _ I h) λv s1 h1=>thn h1 λitv s2 h2=>?_) hs;obtain⟨it,fp,tn,J,H2,e,I2,T,bo,f2,W,⟨m0,w0⟩,fk⟩:=h2;subst e;have ia:∀{H':Hp},(∀b∈fp,H' b=none)->∀b∈fp,wK X pins H' b:=λhn b hb=>⟨hn b hb,(f2 b hb).2⟩
 refine codeAny_forLoop_any (λn s'=>∃i σ' H',Inv X pins σ' H' s'/\tn i s'.heap/\(∀b∈fp,H' b=none)/\W i n σ' H') ?_ m0 ⟨0,O,H2,I2,bo,λb hb=>(f2 b hb).1,w0⟩;rintro n s3 ⟨i,σ3,H3,I3,de,oi,w3⟩;rcases fk i n σ3 H3 w3 with⟨stop,qn⟩|⟨go,N,hN,step⟩
 ·refine Za hp (thn (T.done X rfl rfl rfl hc i pins s3 σ3 H3 X.xe I3 (ia oi) de stop) λr s4 ⟨hr,I4⟩=>?_);subst hr;exact wpAny_execs_nil ⟨σ3,H3,I4,qn⟩
 ·refine Za hp (thn (T.item X rfl rfl rfl hc i pins s3 σ3 H3 X.xe I3 (ia oi) de go) λr s4 ⟨u,hr,h4⟩=>?_);subst hr;refine Za hp (thn h4 λ_ s5 ⟨x,H5,I5,r5,y5,lm,fr5⟩=>?_);have I5':=I5.pinned (ia fr5) (T.obj _ _ lm);refine Za hp (thn (hg _ s5 σ3 H5 x u _ I5' r5 (step x H5 y5)) λ_ s6 ⟨σ6,H6,I6,q6⟩=>?_);refine Za hp (thn (hb _ s6 σ6 H6 _ I6 q6) λf s7 q7=>?_);have again:∀{σ7:St} {H7:Hp},Inv X (pins++KK fp s5.heap) σ7 H7 s7->N σ7 H7->∃m,m<n/\∃i σ' H',Inv X pins σ' H' s7/\tn i s7.heap/\(∀b∈fp,H' b=none)/\W i m σ' H':=fun {σ7 H7} I7 n7=>by
   obtain⟨m',hm,w7⟩:=hN σ7 H7 n7;refine⟨m',hm,i+1,σ7,H7,I7.unpinned,T.keep _ _ _ lm λb hb o e=>(I7.pin (b,o) (lr9 _ (lr9 _ (jz2 hb e)))).1,λb hb=>?_,w7⟩;obtain⟨o,e,d⟩:=T.obj _ _ lm b hb;exact(I7.pin (b,o) (lr9 _ (lr9 _ (jz2 hb e)))).2.1
  cases f with|next=>obtain⟨σ7,H7,I7,n7⟩:=q7;exact again I7 n7|cont=>obtain⟨σ7,H7,I7,n7⟩:=q7;exact again I7 n7|brk=>obtain⟨σ7,H7,I7,q7⟩:=q7;exact⟨σ7,H7,I7.unpinned,q7⟩|ret v=>obtain⟨x7,σ7,H7,I7,r7,q7⟩:=q7;exact⟨x7,σ7,H7,I7.unpinned,r7,q7⟩
end
abbrev R2:=V->V->Hp->VK->Prop
def OpR(X:Cx)(f:Value->Value->Sem Value)(r:R2):Prop:=
 ∀(pins:List (Addr×Obj)) (s:Shared) (O:St) (H:Hp) (x y:V) (v u:Value) (Q:VK),Inv X pins O H s->RelV x v->RelV y u->r x y H Q ->
  wpAny (model X.prog X.w) X.A (f v u) (EP X pins O Q) X.xe s
def UnR(X:Cx)(f:Value->Sem Value)(r:V->Hp->VK->Prop):Prop:=
 ∀(pins:List (Addr×Obj)) (s:Shared) (O:St) (H:Hp) (x:V) (v:Value) (Q:VK),Inv X pins O H s->RelV x v->r x H Q ->
  wpAny (model X.prog X.w) X.A (f v) (EP X pins O Q) X.xe s
def CallR(X:Cx)(f:Value)(r:List V->Hp->VK->Prop):Prop:=
 ∀(pins:List (Addr×Obj)) (s:Shared) (O:St) (H:Hp) (xs:List V) (us:List Value) (Q:VK),Inv X pins O H s->Vals xs us->r xs H Q ->
  wpAny (model X.prog X.w) X.A (call f us) (EP X pins O Q) X.xe s
def TruR(X:Cx)(r:V->Hp->(Bool->Hp->Prop)->Prop):Prop:=
 ∀(pins:List (Addr×Obj)) (s:Shared) (O:St) (H:Hp) (x:V) (v:Value) (Q:Bool->Hp->Prop),Inv X pins O H s->RelV x v->r x H Q ->
  wpAny (model X.prog X.w) X.A (truthy v) (TP X pins O Q) X.xe s
abbrev tOp(r:R2)(ta tb:TE):TE:=fun O H Q=>ta O H λx H1=>tb O H1 λy H2=>r x y H2 Q
abbrev tUn(r:V->Hp->VK->Prop)(ta:TE):TE:=fun O H Q=>ta O H λx H1=>r x H1 Q
def rI(C:Int->Int->Prop)(g:Int->Int->V):R2:=λx y H Q=>∃i j,x=.int i/\y=.int j/\C i j/\Q (g i j) H
def rI0(g:Int->Int->V):R2:=λx y H Q=>∃i j,x=.int i/\y=.int j/\Q (g i j) H
def rU(g:Int->V):V->Hp->VK->Prop:=λx H Q=>∃i,x=.int i/\Q (g i) H
section
variable {X:Cx}{a b c:Expr}{ta tb tc:TE}{pos:Pos}
theorem wxd(ha:PE X a ta)(hb:PE X b tb){pins:List (Addr×Obj)}{s:Shared}{O:St}{H:Hp}{R:V->V->Hp->Prop}(I:Inv X pins O H s)
  (h:ta O H λx H1=>tb O H1 λy H2=>R x y H2) {Q:Value->Shared->Prop} {f:Value->Value->Sem Value}
  (hf:∀v u s2 x y H2,Inv X pins O H2 s2->RelV x v->RelV y u->R x y H2->wpAny (model X.prog X.w) X.A (f v u) Q X.xe s2):
  wpAny (model X.prog X.w) X.A (eval a X.env) (λv s₁=>wpAny (model X.prog X.w) X.A (eval b X.env) (λu s₂=>wpAny (model X.prog X.w) X.A (f v u) Q X.xe s₂) X.xe s₁) X.xe s:=by
 refine thn (ha pins s O H _ I h) λv s1 ⟨x,H1,I1,r1,q1⟩=>?_
 refine thn (hb pins s1 O H1 _ I1 q1) λu s2 ⟨y,H2,I2,r2,q2⟩=>?_
 exact hf v u s2 x y H2 I2 r1 r2 q2
theorem wwj{op:Operator}{r:R2}(ho:OpR X (binaryOp op) r)(ha:PE X a ta)(hb:PE X b tb):PE X (.BinOp a op b pos) (tOp r ta tb):=by
 intro pins s O H Q I h;exact wpAny_BinOp (wxd ha hb I h λv u s2 x y H2 I2 rx ry q=>ho pins s2 O H2 x y v u Q I2 rx ry q)
theorem wwh{op:UnaryOp}{r:V->Hp->VK->Prop}(ho:UnR X (unaryOp op) r)(ha:PE X a ta):PE X (.UnaryOp op a pos) (tUn r ta):=by
 intro pins s O H Q I h;exact UnaryOp_ (thn (ha pins s O H _ I h) λv s1 ⟨x,H1,I1,r1,q1⟩=>ho pins s1 O H1 x v Q I1 r1 q1)
theorem opI{f:Value->Value->Sem Value}{C:Int->Int->Prop}{g:Int->Int->Int}
  (rule:∀(i j:Int) (t u:Tok) (s:Shared) (Q:Value->Shared->Prop) (E:Value->Shared->Prop),C i j->Q (.int (g i j) s.toks) { s with toks:=s.toks+1 }->wpAny (model X.prog X.w) X.A (f (.int i t) (.int j u)) Q E s):
  OpR X f (rI C λi j=>.int (g i j)):=by
 intro pins s O H x y v u Q I rx ry h;obtain⟨i,j,rfl,rfl,hc,q⟩:=h;obtain⟨t,rfl⟩:=rx;obtain⟨t',rfl⟩:=ry;exact rule i j t t' s _ _ hc ⟨.int (g i j),H,I.tok _,⟨_,rfl⟩,q⟩
theorem wz5{f:Value->Value->Sem Value}{g:Int->Int->Int}
  (rule:∀(i j:Int) (t u:Tok) (s:Shared) (Q:Value->Shared->Prop) (E:Value->Shared->Prop),Q (.int (g i j) s.toks) { s with toks:=s.toks+1 }->wpAny (model X.prog X.w) X.A (f (.int i t) (.int j u)) Q E s):
  OpR X f (rI0 λi j=>.int (g i j)):=by
 intro pins s O H x y v u Q I rx ry h;obtain⟨i,j,rfl,rfl,q⟩:=h;obtain⟨t,rfl⟩:=rx;obtain⟨t',rfl⟩:=ry;exact rule i j t t' s _ _ ⟨.int (g i j),H,I.tok _,⟨_,rfl⟩,q⟩
theorem wv9{f:Value->Value->Sem Value}{g:Int->Int->Bool}
  (rule:∀(i j:Int) (t u:Tok) (s:Shared) (Q:Value->Shared->Prop) (E:Value->Shared->Prop),Q (.bool (g i j)) s->wpAny (model X.prog X.w) X.A (f (.int i t) (.int j u)) Q E s):
  OpR X f (rI0 λi j=>.bl (g i j)):=by
 intro pins s O H x y v u Q I rx ry h;obtain⟨i,j,rfl,rfl,q⟩:=h;obtain⟨t,rfl⟩:=rx;obtain⟨t',rfl⟩:=ry;exact rule i j t t' s _ _ ⟨.bl (g i j),H,I,rfl,q⟩
theorem op_add:OpR X (binaryOp .Add) (rI0 λi j=>.int (i+j)):=wz5 λ_ _ _ _ _ _ _ q=>add_int q
theorem qvy:OpR X (binaryOp .Sub) (rI0 λi j=>.int (i - j)):=wz5 λ_ _ _ _ _ _ _ q=>sub_int q
theorem wk3:OpR X (binaryOp .Mod) (rI (λ_ j=>0<j) λi j=>.int (i % j)):=opI λi j _ _ _ _ _ hc q=>by
 have h1:(0:Int)<j:=hc;exact mod_int' ⋯ (by rw[Int.fmod_eq_emod_of_nonneg i ⋯];exact q)
theorem unI{f:Value->Sem Value}{g:Int->Int}
  (rule:∀(i:Int) (t:Tok) (s:Shared) (Q:Value->Shared->Prop) (E:Value->Shared->Prop),Q (.int (g i) s.toks) { s with toks:=s.toks+1 }->wpAny (model X.prog X.w) X.A (f (.int i t)) Q E s):
  UnR X f (rU λi=>.int (g i)):=by
 intro pins s O H x v Q I rx h;obtain⟨i,rfl,q⟩:=h;obtain⟨t,rfl⟩:=rx;exact rule i t s _ _ ⟨.int (g i),H,I.tok _,⟨_,rfl⟩,q⟩
theorem vxz:UnR X (unaryOp .USub) (rU λi=>.int (-i)):=unI λ_ _ _ _ _ q=>neg_int q
end
section
variable {X:Cx}{a b c:Expr}{ta tb tc:TE}{pos:Pos}
theorem qxa{pins:List (Addr×Obj)}{O:St}{H:Hp}{s:Shared}{Q:VK}{k k':Bool}(I:Inv X pins O H s)(q:Q (.bl k) H)(e:k=k'):EP X pins O Q (.bool k') s:=by
 subst e;exact⟨.bl k,H,I,rfl,q⟩
theorem qvz:OpR X (compareOp .Lt) (rI0 λi j=>.bl (decide (i<j))):=wv9 λ_ _ _ _ _ _ _ q=>lt_int q
theorem vw1:OpR X (compareOp .LtE) (rI0 λi j=>.bl (decide (i<=j))):=wv9 λ_ _ _ _ _ _ _ q=>le_int q
theorem vw2:OpR X (compareOp .Gt) (rI0 λi j=>.bl (decide (j<i))):=wv9 λ_ _ _ _ _ _ _ q=>gt_int q
theorem wwn:OpR X (compareOp .GtE) (rI0 λi j=>.bl (decide (j<=i))):=wv9 λ_ _ _ _ _ _ _ q=>ge_int q
theorem qw0:OpR X (compareOp .In) (λx y H Q=>∃i j,x=.str i/\y=.str j/\Q (.bl (!(Builtin.Str.occurrences j i 0 j.length 1).isEmpty)) H):=by
 intro pins s O H x y v u Q I rx ry h;obtain⟨i,j,rfl,rfl,q⟩:=h;obtain⟨t,rfl⟩:=rx;obtain⟨t',rfl⟩:=ry;exact in_str (qxa I q rfl)
theorem qj9 : OpR X (compareOp .Is) (λx y H Q=>y = .non /\ Q (.bl (decide (x = .non))) H):= by
  intro pins s O H x y v u Q I rx ry h;obtain⟨rfl, q⟩:= h;cases ry;refine is_none_gen (qxa I q ?_);cases x <;> first
    |(cases rx; rfl)
    |(obtain⟨t, rfl⟩:= rx; rfl)
theorem vw0 : OpR X (compareOp .IsNot) (λx y H Q=>y = .non /\ Q (.bl (!decide (x = .non))) H):= by
  intro pins s O H x y v u Q I rx ry h;obtain⟨rfl, q⟩:= h;cases ry;refine isnot_none_gen (qxa I q ?_);cases x <;> first
    |(cases rx; rfl)
    |(obtain⟨t, rfl⟩:= rx; rfl)
theorem OpR.or{f:Value->Value->Sem Value}{r r':R2}(h:OpR X f r)(h':OpR X f r'):OpR X f (λx y H Q=>r x y H Q\/r' x y H Q):=by
 intro pins s O H x y v u Q I rx ry q;rcases q with q|q
 ·exact h pins s O H x y v u Q I rx ry q
 ·exact h' pins s O H x y v u Q I rx ry q
theorem k8(b:Expr){op:CmpOp}(h:autoParam (op≠.In) ŕ)(h2:autoParam (op≠.NotIn) ŕ):behindInMarks op b=false:=by
 have e1:(op==CmpOp.In)=false:=by cases op<;>first|rfl|exact absurd rfl h
 have e2:(op==CmpOp.NotIn)=false:=by cases op<;>first|rfl|exact absurd rfl h2
 cases b<;>simp[behindInMarks,e1,e2]
theorem vvu{op:CmpOp}{r:R2}(ho:OpR X (compareOp op) r)(ha:PE X a ta)(hb:PE X b tb)(hm:behindInMarks op b=false):PE X (.Compare a [op] [b] pos) (tOp r ta tb):=by
 intro pins s O H Q I h;exact wpAny_Compare1 (wxd ha hb I h λv u s2 x y H2 I2 rx ry q=>ho pins s2 O H2 x y v u Q I2 rx ry q) hm
abbrev wvi(t:TE):TT:=fun O H Q=>t O H λx H'=>∃k,x=.bl k/\Q k H'
theorem vvg{op:CmpOp}{r:R2}(ho:OpR X (compareOp op) r)(ha:PE X a ta)(hb:PE X b tb)(hm:behindInMarks op b=false):PT X (.Compare a [op] [b] pos) (wvi (tOp r ta tb)):=by
 intro pins s O H Q I h;refine wpAny_isTrue_Compare1 (thn (ha pins s O H _ I h) λv s1 ⟨x,H1,I1,r1,q1⟩=>thn (hb pins s1 O H1 _ I1 q1) λu s2 ⟨y,H2,I2,r2,q2⟩=>
  thn (ho pins s2 O H2 x y v u _ I2 r1 r2 q2) λc s3 ⟨z,H3,I3,r3,k,e,q3⟩=>?_) hm
 subst e;cases r3;exact wpAny_truthy_bool ⟨H3,I3,q3⟩
noncomputable def wvf(K:Frag)(x:V)(H:Hp)(k:Bool):Prop:=
 match x with
 |.non=>k=false|.bl b=>k=b|.int i=>k=(i != 0)|.str y=>y.length<=sizeLine/\k=((y.length:Int) != 0)|.byt y=>y.size<=sizeLine/\k=((y.size:Int) != 0)|.ref p=>(∃xs,SqL K H p xs/\k=!xs.isEmpty)\/(∃xs,SqT K H p xs/\k=!xs.isEmpty)\/∃kvs,H p=some (.dK kvs)/\k=!kvs.isEmpty|_=>False
theorem qq3{κ:Type}{kvs:List (κ×V)}{vs:List (κ×Value)}(r:KV kvs vs):(!vs.isEmpty)=!kvs.isEmpty:=by
 cases r<;>rfl
theorem kq2{xs:List V}{ai:List Value}(r:Vals xs ai):(!ai.toArray.isEmpty)=!xs.isEmpty:=by
 cases r<;>simp
theorem W6:(sizeLine:Nat)<2 ^ 63:=by rw[sizeLine_eq];decide
theorem vki:TruR X (λx H Q=>∃k,wvf X.K x H k/\Q k H):=by
 intro pins s O H x v Q I rx h;obtain⟨k,e,q⟩:=h;have hl:=W6;have hs:sizeLine=16777216:=sizeLine_eq;cases x with
 | non=>
  cases rx;have e':k=false:=e;subst e';exact truthy_none ⟨H,I,q⟩
 | bl b=>
  cases rx;have e':k=b:=e;subst e';exact wpAny_truthy_bool ⟨H,I,q⟩
 | int i=>
  obtain⟨t,rfl⟩:=rx;have e':k=(i != 0):=e;subst e';exact PySem.P.truthy_int ⟨H,I,q⟩
 | str y=>
  obtain⟨t,rfl⟩:=rx;obtain⟨hy,e'⟩:y.length<=sizeLine/\k=((y.length:Int) != 0):=e;subst e';exact PySem.P.truthy_str ⋯ ⟨H,I.tok _,q⟩
 | byt y=>
  obtain⟨t,rfl⟩:=rx;obtain⟨hy,e'⟩:y.size<=sizeLine/\k=((y.size:Int) != 0):=e;subst e';exact PySem.W.truthy_bytes ⋯ ⟨H,I.tok _,q⟩
 | ref p=>
  cases rx;have e':(∃xs,SqL X.K H p xs/\k=!xs.isEmpty)\/(∃xs,SqT X.K H p xs/\k=!xs.isEmpty)\/∃kvs,H p=some (.dK kvs)/\k=!kvs.isEmpty:=e;rcases e' with⟨xs,hx,e'⟩|⟨xs,hx,e'⟩|⟨kvs,hx,e'⟩
  ·subst e';obtain⟨ai,r,pl,hz⟩:=I.list hx;have av:=r.length;exact wpAny_truthy_list pl.isList (by simp only[X5];omega) ⟨H,I.tok _,by rw[kq2 r];exact q⟩
  ·subst e';obtain⟨ai,r,pl,hz⟩:=I.tuple hx;have av:=r.length;exact truthy_tuple pl (by simp only[X5];omega) ⟨H,I.tok _,by rw[kq2 r];exact q⟩
  ·subst e';obtain⟨hz,hS,vs,r,m⟩:kvs.length<=sizeLine/\(p==sysModules)=false/\∃vs,KV kvs vs/\s.heap.DictOf (z3 X.prog X.w) p vs:=I.hok p _ hx;have av:kvs.length=vs.length:=Paired.length r;exact wpAny_truthy_dict hS m ⋯ ⟨H,I.tok _,by rw[qq3 r];exact q⟩
 |_=>exact(show False from e).elim
theorem qzw(ha:PE X a ta)(he:∀fc,isTrue a X.env fc=(do let v <-fc;standAt a.pos;holding [v] (truthy v))):
  PT X a (fun O H Q=>ta O H λx H'=>∃k,wvf X.K x H' k/\Q k H'):=by
 intro pins s O H Q I h;exact isTrue_plain (thn (ha pins s O H _ I h) λv s1 ⟨x,H1,I1,r1,q1⟩=>vki pins s1 O H1 x v Q I1 r1 q1) (he _)
theorem op_add_str:OpR X (binaryOp .Add) (λx y H Q=>∃i j,x=.str i/\y=.str j/\i.length+j.length<=sizeLine/\Q (.str (i++j)) H):=by
 intro pins s O H x y v u Q I rx ry h;obtain⟨i,j,rfl,rfl,hz,q⟩:=h;obtain⟨t,rfl⟩:=rx;obtain⟨t',rfl⟩:=ry;exact add_str (λt' tk=>⟨.str (i++j),H,I.tok _,⟨_,rfl⟩,q⟩) hz
theorem zW{x:V}{us:List Value}(r:Vals [x] us):∃u,us=[u]/\RelV x u:=by
 cases r with|cons r1 r2=>cases r2;exact⟨_,rfl,r1⟩
theorem vqs{x y:V}{us:List Value}(r:Vals [x,y] us):∃u w',us=[u,w']/\RelV x u/\RelV y w':=by
 cases r with
 |cons r1 r2=>
  cases r2 with|cons r3 r4=>cases r4;exact⟨_,_,rfl,r1,r3⟩
theorem qxr:CallR X (.type "int") (λxs H Q=>(∃i,xs=[.int i]/\Q (.int i) H)\/∃k,xs=[.bl k]/\Q (.int (if k then 1 else 0)) H):=by
 intro pins s O H xs us Q I r h;rcases h with⟨i,rfl,q⟩|⟨k,rfl,q⟩
 ·obtain⟨u,rfl,t,rfl⟩:=zW r;exact call_int_int ⟨.int i,H,I,⟨_,rfl⟩,q⟩
 ·obtain⟨u,rfl,r1⟩:=zW r;cases r1;exact call_int_bool ⟨.int (if k then 1 else 0),H,I.tok _,⟨_,rfl⟩,q⟩
end
theorem RelO.some_of{v:V}{o:Option Value}(r:RelO (some v) o):∃u,o=some u/\RelV v u:=by
 cases o with|none=>exact(show False from r).elim|some u=>exact⟨u,rfl,r⟩
structure Cls (K:Frag)(C:Addr):Prop where
 pg:PySem.W.plainGet K C Str.empty=true
 hd:PySem.W.hasDictIn K C=true
 po:PySem.W.plainOver K C=true
 sa:findIn K (.ref C) "__setattr__"=some (some (.builtin "object.__setattr__"))
section
variable {X:Cx}{pins:List (Addr×Obj)}{O:St}{H:Hp}{s:Shared}{A:Around}{E:Value->Shared->Prop}{Q:Value->Shared->Prop}{c:Value}{b:Bool}
inductive TyOf (K:Frag)(H:Hp):V->Value->Prop where
 | non:TyOf K H .non (.type "NoneType")
 | bl (x:Bool):TyOf K H (.bl x) (.type "bool")
 | int (i:Int):TyOf K H (.int i) (.type "int")
 | str (x:Str):TyOf K H (.str x) (.type "str")
 | flt (x:UInt64):TyOf K H (.flt x) (.type "float")
 | lst {a:Addr} {xs:List V} (e:H a=some (.lst xs)):TyOf K H (.ref a) (.type "list")
 | frz {a:Addr} {o:Obj} {xs:List V} (e:H a=some (.frz o (.lst xs))):TyOf K H (.ref a) (.type "list")
 | tup {a:Addr} {xs:List V} (e:H a=some (.tup xs)):TyOf K H (.ref a) (.type "tuple")
 | dK {a:Addr} {kvs:List (Key×V)} (e:H a=some (.dK kvs)):TyOf K H (.ref a) (.type "dict")
 | dT {a:Addr} {kvs:List (List Key×V)} (e:H a=some (.dT kvs)):TyOf K H (.ref a) (.type "dict")
 | ins {a C dx:Addr} {fs:List (Str×V)} (e:H a=some (.ins C dx fs)) (cl:Cls K C) (ha:findIn K (.ref C) "__class__"=some (some (.builtin "object.__class__")))
   (hn:PySem.W.specialIn K (.builtin "object.__class__") "__get__"=some (some (.builtin "getset_descriptor.__get__"))) (htk:PySem.W.takesIn K (.builtin "object.__class__")=some true)
   (hm:PySem.W.mroIn K C (.type "object")=some true):TyOf K H (.ref a) (.ref C)
end
structure Room (k:Nat)(A:Around):Prop where
 hd:A.handled=none
 dp:A.depth+3*k+5<recursionLimit
 un:A.units+16*k+200<cLine
 gd:A.guards=some []
theorem Room.mono{j k:Nat}{A:Around}(r:Room k A)(h:j<=k):Room j A:=⟨r.hd,by have:=r.dp;omega,by have:=r.un;omega,r.gd⟩
theorem Room.deeper{k:Nat}{A:Around}(r:Room (k+1) A)(env:Env):Room k (A.deeper env):=
 ⟨r.hd,by have:=r.dp;show A.depth+1+3*k+5<_;omega,by have:=r.un;show A.units+3+16*k+200<_;omega,r.gd⟩
theorem Room.depth{k:Nat}{A:Around}(r:Room k A):A.depth<recursionLimit:=by have:=r.dp;omega
theorem Room.units{k:Nat}{A:Around}(r:Room k A):A.units+64<cLine:=by have:=r.un;omega
abbrev wv4:TA:=λ_ H Q=>Q [] H
abbrev qze(ta:TE)(tr:TA):TA:=fun O H Q=>ta O H λx H1=>tr O H1 λxs H2=>Q (x::xs) H2
section
variable {X:Cx}{e:Expr}{es:List Expr}{te:TE}{t:TA}{pos:Pos}
theorem wW:PA X [] wv4:=λ_ _ _ _ H Q I h=>Calls.spliced_nil ⟨[],H,I,.nil,h⟩
theorem qY(ha:PE X e te)(hr:PA X es t)(hs:autoParam (starEach (e::es) X.env=(false,eval e X.env)::starEach es X.env) Ŕ):PA X (e::es) (qze te t):=by
 intro pos pins s O H Q I h;rw[hs];show wpAny _ _ (spliced ((false,eval e X.env)::backTo pos (starEach es X.env))) _ _ s;refine Calls.spliced_cons (thn (ha pins s O H _ I h) λu s1 ⟨x,H1,I1,r1,q1⟩=>?_);exact thn (hr pos pins s1 O H1 _ I1 q1) λus s2 ⟨xs,H2,I2,r2,q2⟩=>⟨x::xs,H2,I2,.cons r1 r2,q2⟩
abbrev tTup(t:TA):TE:=fun O H Q=>t O H λxs H1=>xs.length<=sizeLine/\∀p,H1 p=none->Q (.ref p) (upd H1 p (.tup xs))
abbrev tLst(t:TA):TE:=fun O H Q=>t O H λxs H1=>xs.length<=sizeLine/\∀p,H1 p=none->Q (.ref p) (upd H1 p (.lst xs))
theorem vkx{x1}(h:PA X es t):PE X (.Tuple es x1 pos) (tTup t):=by
 intro pins s O H Q I hq;refine wpAny_Tuple_spliced (thn (h pos pins s O H _ I hq) λus s1 ⟨xs,H1,I1,r,z,q⟩=>⟨by rw[<-r.length];exact z,?_⟩);have hf:H1 s1.heap.objs.size=none:=I1.hok.fresh (X8 _);refine⟨.ref s1.heap.objs.size,upd H1 s1.heap.objs.size (.tup xs),I1.laid (t':=s1.toks) (λb u e=>X3 _ e) (X8 _) ?_,rfl,q _ hf⟩;exact⟨z,us,r,⟨_,X6 _ rfl,rfl,rfl,_,rfl⟩⟩
theorem wjw(h:PA X es t):PE X (.List es pos) (tLst t):=by
 intro pins s O H Q I hq;refine wpAny_List_spliced (thn (h pos pins s O H _ I hq) λus s1 ⟨xs,H1,I1,r,z,q⟩=>⟨by rw[<-r.length];exact z,?_⟩);have hf:H1 s1.heap.objs.size=none:=I1.hok.fresh (X8 _);refine⟨.ref s1.heap.objs.size,upd H1 s1.heap.objs.size (.lst xs),I1.laid (t':=s1.toks) (λb u e=>X3 _ e) (X8 _) ?_,rfl,q _ hf⟩;exact⟨z,us,0,r,X6 _ rfl⟩
end
abbrev Sp:=List V->Hp->VK->XK->Prop
abbrev CXT:=List Env->Hp->Shared->XK->Value->Shared->Prop
structure Env0 (P:Program)(w:World)(K:Frag)(mg:Str->Option Value)(base:Heap)(A:Around)(outer:List Env)(s:Shared)(H:Hp):Prop where
 frames:A.frames=some outer
 mod:Mod K mg base
 bs:∀b o,base.get? b=some o->s.heap.get? b=some o/\H b=none
 bsz:base.objs.size<=s.heap.objs.size
 funs:s.heap.FunFrames base outer
 frf:∀b∈frs outer,H b=none
 hok:HOk P w H s.heap
 bare:AllBare s.gens
def CE(outer:List Env)(P:Program)(w:World)(H:Hp)(s:Shared)(Q:VK)(u:Value)(s':Shared):Prop:=
 ∃v H',s'.os=s.os/\AllBare s'.gens/\Un (frs outer) [] H H' s.heap s'.heap/\HOk P w H' s'.heap/\RelV v u/\Q v H'
def CR(CX:CXT)(outer:List Env)(P:Program)(w:World)(H:Hp)(s:Shared)(Q:VK)(E:XK)(r:Result)(s':Shared):Prop:=
 match r with
 |.ok (.ret u)=>CE outer P w H s Q u s'|.ok _=>False|.error e=>CX outer H s E e s'
structure FnOk (P:Program)(w:World)(K:Frag)(mg:Str->Option Value)(base:Heap)(CX:CXT)(k:Nat)(f:Addr)(fd:FuncData)(ps:List Str)(sp:Sp):Prop where
 len:∀vs H Q E,sp vs H Q E->vs.length=ps.length
 run:∀(A:Around) (outer:List Env) (s:Shared) (H:Hp) (args:Args) (us:List Value) (vs:List V) (Q:VK) (E:XK),Room k A->Env0 P w K mg base A outer s H->BindsTo s fd args (ps.zip us)->Vals vs us->sp vs H Q E ->
  codeAny (model P w) A (.call (.ref f) args) (CR CX outer P w H s Q E) s
section
variable {X:Cx}{pins:List (Addr×Obj)}{O:St}{H:Hp}{s s':Shared}
theorem Inv.env0(I:Inv X pins O H s):Env0 X.prog X.w X.K X.mg X.base X.A X.stack s H:=
 ⟨I.ok.frames,I.ok.mod,I.bs,Y2 I.ok.bsz I.sz,I.stack,I.stkFree,I.hok,I.bare⟩
theorem Inv.after{Q:VK}{u:Value}(I:Inv X pins O H s)(h:CE X.stack X.prog X.w H s Q u s'):EP X pins O Q u s':=by
 obtain⟨v,H',os,bare,un,hok,r,q⟩:=h;obtain⟨hh,g,d,t,qr⟩:=s';obtain rfl:qr=s.os:=os;exact⟨v,H',I.call (h':=hh) (g':=g) (d':=d) (t':=t) (ch:=[]) un hok bare (λb z=>absurd z (by simp)),r,q⟩
end
abbrev vqw(sp:Sp)(mq:List V)(E:XK)(t:TA):TE:=fun O H Q=>t O H λvs H1=>sp (vs++mq) H1 Q E
def Binds(K:Frag)(fd:FuncData)(ps:List Str)(ds:List Value):Prop:=
 ∀(s:Shared) (us:List Value),K.In s.heap->(us++ds).length=ps.length->BindsTo s fd ⟨us,[]⟩ (ps.zip (us++ds))
theorem Binds.all{K:Frag}{fd:FuncData}{ps:List Str}(h:∀us:List Value,us.length=ps.length->bindArgs fd ⟨us,[]⟩=pure (ps.zip us)):Binds K fd ps []:=λs us _ hl=>by
 rw[Xw]at hl ⊢;exact .of_eq (h us hl)
def qz5(CX:CXT)(X:Cx)(E:XK):Prop:=∀(pins:List (Addr×Obj)) (O:St) (H:Hp) (s:Shared) (e:Value) (s':Shared),Inv X pins O H s->CX X.stack H s E e s'->X.xe e s'
section
variable {X:Cx}{CX:CXT}{k:Nat}{f C:Addr}{fd:FuncData}{ps:List Str}{sp:Sp}{mq:List V}{ds:List Value}{E:XK}{x m:Str}{p pos apos:Pos}{e o:Expr}{es:List Expr}{ta:TE}{t:TA}
theorem vzm{pins:List (Addr×Obj)}{O:St}{H:Hp}{s:Shared}{Q:VK}{us:List Value}{vs:List V}(F:FnOk X.prog X.w X.K X.mg X.base CX k f fd ps sp)(hr:Room k X.A)(hb:Binds X.K fd ps ds)(hd:Vals mq ds)(hx:qz5 CX X E)
  (I:Inv X pins O H s) (r:Vals vs us) (h:sp (vs++mq) H Q E):wpAny (model X.prog X.w) X.A (call (.ref f) us) (EP X pins O Q) X.xe s:=by
 have r2:Vals (vs++mq) (us++ds):=r.append hd;have hl:(us++ds).length=ps.length:=by rw[<-r2.length];exact F.len _ _ _ _ h
 refine wpAny_call (codeAny_mono (F.run X.A X.stack s H ⟨us,[]⟩ (us++ds) (vs++mq) Q E hr I.env0 (hb s us I.kIn hl) r2 h) λr s' hq=>?_);cases r with
 |error e=>exact hx pins O H s e s' I hq
 |ok fl=>
  cases fl with|ret u=>exact I.after hq|next=>exact False.elim hq|brk=>exact False.elim hq|cont=>exact False.elim hq
theorem vvv(F:FnOk X.prog X.w X.K X.mg X.base CX k f fd ps sp)(hr:Room k X.A)(hg:Gl X x)(hm:X.mg x=some (.ref f))(hk:PySem.W.keepIn X.K (.ref f)=true)(hb:Binds X.K fd ps ds)(hd:Vals mq ds)(hx:qz5 CX X E)
  (ha:PA X (e::es) t) (df:autoParam ((x==("__debug__":Str))=false) ŕ) (he:autoParam (starEach (e::es) X.env=(false,eval e X.env)::starEach es X.env) Ŕ) (bu:autoParam ((backTo pos (starEach es X.env)).any (·.1)=false) Ŕ):
  PE X (.Call (.Name x p) (e::es) [] pos) (vqw sp mq E t):=by
 intro pins s O H Q I h;refine Yx (kjo I hg hm ?_ df);refine PySem.W.callWith_K (h₀:=X.base) I.ok.mod.kin hk (thn (ha pos pins s O H _ I h) λus s1 ⟨vs,H1,I1,r,q⟩=>⟨I1.kIn,?_⟩) he bu;exact vzm F hr hb hd hx I1 r q
end
structure FnScope (N P:List Str)(sc:Scope):Prop where
 kind:sc.kind=.function
 co:sc.isCoroutine=false
 gen:sc.isGenerator=false
 nd:N.Nodup
 pre:N.take P.length=P
 par:∀x∈P,sc.names.lookup x=some .local\/sc.names.lookup x=some .cell
 nofree:∀y∈sc.names,y.2≠.free
theorem kx5{kindOf : Str -> Option NameKind}{x : Str}: ∀{binds : List (Str × Value)} {m : Str -> Option Value}, (∀v, (x, v)∉binds) -> bindL kindOf binds m x = m x
  | [], _, _=>rfl
  | (n, v)::r, m, h=>by
    unfold bindL;rw[kx5 λw hw=>h w (lc9 _ hw)]
    split
    · have : x≠n:= by rintro rfl; exact h v X7
      simp[this]
    · rfl
theorem kx7{kindOf : Str -> Option NameKind}{x : Str}: ∀{binds : List (Str × Value)} {m : Str -> Option Value}, (∀v, (x, v)∉binds) -> bindC kindOf binds m x = m x
  | [], _, _=>rfl
  | (n, v)::r, m, h=>by
    unfold bindC;rw[kx7 λw hw=>h w (lc9 _ hw)]
    split
    · rfl
    · have : x≠n:= by rintro rfl; exact h v X7
      simp[this]
theorem kx6{kindOf:Str->Option NameKind}{x:Str}{v:Value}:∀{P:List Str} {vs:List Value} {i:Nat} {m:Str->Option Value},P.Nodup->P[i]?=some x->vs[i]?=some v->kindOf x=some .local ->
  bindL kindOf (P.zip vs) m x=some v
 |[],_,_,_,_,h,_,_=>by simp at h|_::_,[],_,_,_,_,h,_=>by simp at h
 |p::P,w::vs,0,m,nd,h1,h2,hk=>by
  simp at h1 h2;subst h1;subst h2;show bindL kindOf ((p,w)::P.zip vs) m p=_;unfold bindL;rw[kx5 λv hv=>(List.nodup_cons.mp nd).1 (List.of_mem_zip hv).1,X9 hk];simp
 |p::P,w::vs,i+1,m,nd,h1,h2,hk=>by
  show bindL kindOf ((p,w)::P.zip vs) m x=_;unfold bindL;exact kx6 (i:=i) (List.nodup_cons.mp nd).2 (by simpa using h1) (by simpa using h2) hk
theorem kx8{kindOf:Str->Option NameKind}{x:Str}{v:Value}:∀{P:List Str} {vs:List Value} {i:Nat} {m:Str->Option Value},P.Nodup->P[i]?=some x->vs[i]?=some v->kindOf x≠some .local ->
  bindC kindOf (P.zip vs) m x=some v
 |[],_,_,_,_,h,_,_=>by simp at h|_::_,[],_,_,_,_,h,_=>by simp at h
 |p::P,w::vs,0,m,nd,h1,h2,hk=>by
  simp at h1 h2;subst h1;subst h2;show bindC kindOf ((p,w)::P.zip vs) m p=_;unfold bindC;rw[kx7 λv hv=>(List.nodup_cons.mp nd).1 (List.of_mem_zip hv).1,Xb hk];simp
 |p::P,w::vs,i+1,m,nd,h1,h2,hk=>by
  show bindC kindOf ((p,w)::P.zip vs) m x=_;unfold bindC;exact kx8 (i:=i) (List.nodup_cons.mp nd).2 (by simpa using h1) (by simpa using h2) hk
def start(N:List Str)(vs:List V):St:=vs.map some++List.replicate (N.length - vs.length) none
noncomputable def Jx(CX:CXT)(P:Program)(w:World)(K:Frag)(mg:Str->Option Value)(base:Heap)(N:List Str)(qual:Str)(scope:Scope)(f:Addr)(cd:Value)(A:Around)(outer:List Env)(s:Shared)(H:Hp)(E:XK):Cx where
 prog:=P
 w:=w
 K:=K
 mg:=mg
 base:=base
 A:=A.deeper (envOfC qual scope s.heap.objs.size f cd)
 N:=N
 s₀:=s
 H₀:=H
 env:=envOfC qual scope s.heap.objs.size f cd
 outer:=outer
 stack:=envOfC qual scope s.heap.objs.size f cd::outer
 ex:=[]
 calm:=true
 fn:=λ_=>true
 pn:=[]
 xe:=λe s'=>wpAny (model P w) (A.deeper (envOfC qual scope s.heap.objs.size f cd)) (leaving (envOfC qual scope s.heap.objs.size f cd) e) (λ_ kh=>CX outer H s E e kh) (λe' kh=>CX outer H s E e' kh) s'
theorem qjv{sc:Scope}{n:Nat}{x:Str}(h:sc.names.lookup x=some .cell):∃c,(cellsFrom n sc.names []).lookup x=some c:=by
 have q:=PySem.W.cellsFrom_some sc.names n [] (.inl h);exact Option.isSome_iff_exists.mp q
theorem qwv{CX:CXT}{P:Program}{w:World}{K:Frag}{mg:Str->Option Value}{base:Heap}{N ps:List Str}{qual:Str}{scope:Scope}{f:Addr}{cd:Value}{A:Around}{outer:List Env}{s s1:Shared}{H:Hp}{E:XK}{us:List Value}{vs:List V}
  (S:FnScope N ps scope) (hd:A.handled=none) (e0:Env0 P w K mg base A outer s H) (hl:vs.length=ps.length) (r:Vals vs us)
  (x:InCallC s s.heap.objs.size (bindL (envOfC qual scope s.heap.objs.size f cd).kindOf (ps.zip us) λ_=>none) (cellsFrom (s.heap.objs.size+1) scope.names []) (bindC (envOfC qual scope s.heap.objs.size f cd).kindOf (ps.zip us) λ_=>none) s1):
  Inv (Jx CX P w K mg base N qual scope f cd A outer s H E) [] (start N vs) H s1:=by
 have bu:ps.length<=N.length:=by have:=congrArg List.length S.pre;rw[Yc]at this;omega
 obtain⟨h1,tk,rfl,hk⟩:=x.done;have rg:∀b:Addr,b∉(Jx CX P w K mg base N qual scope f cd A outer s H E).ex:=λb z=>absurd (show b∈([]:List Addr)from z) (by simp)
 refine⟨⟨e0.mod,S.kind,rfl,rfl,X8 _,λy z c h1 h2=>?_,λy hy=>?_,λy c _ h=>?_,λ_=>hd,Around.frames_deeper e0.frames,.inr ⟨rfl,rfl⟩,λb z=>absurd z (rg b),e0.bs,e0.bsz,λb _ _=>rg b,λb z=>absurd z (rg b),e0.funs,e0.frf⟩,
  rfl,e0.bare,Un.kept hk,⟨_,x.toInCall.ns,λi y v h1 h2 h3=>?_⟩,λy c h=>⟨_,x.cell y c h⟩,e0.hok.fresh (X8 _),λy c h=>?_,λp hp=>absurd (show p∈([]:List (Addr×Obj))from hp) (by simp),e0.hok.kept hk,?_⟩
 ·exact name_of_addr x.apart (Yr h1) (Yr h2)
 ·have hy:scope.names.lookup y=some .cell\/scope.names.lookup y=some .free:=hy;rcases hy with hy|hy
  ·exact qjv hy
  ·exact absurd rfl (S.nofree _ (Yr hy))
 ·exact Nat.le_of_lt (x.above y c (Yr h))
 ·have hi:i<vs.length:=by
   unfold start at h2
   by_cases hi:i<vs.length
   ·exact hi
   ·rw[List.getElem?_append_right (by simpa using hi)]at h2;rw[List.getElem?_replicate]at h2
    split at h2<;>cases h2
  have ha:vs[i]?=some v:=by
   unfold start at h2;rw[Yu (by simpa using hi),Xn]at h2;cases e:vs[i]? with|none=>rw[e]at h2;cases h2|some a=>rw[e]at h2;cases h2;rfl
  obtain⟨u,hu,rv⟩:=r.get ha;have hp:ps[i]?=some y:=by
   rw[<-S.pre,List.getElem?_take_of_lt ⋯];exact h1
  have ndP:ps.Nodup:=by rw[<-S.pre];exact S.nd.sublist (List.take_sublist _ _)
  refine⟨u,rv,?_⟩;rcases S.par y (List.mem_of_getElem? hp)with k|k
  ·exact .inl ⟨k,kx6 ndP hp hu k⟩
  ·obtain⟨c,e⟩:=qjv (n:=s.heap.objs.size+1) k;refine .inr ⟨.inl k,c,e,?_⟩;have q:=x.cell y c e;rw[kx8 ndP hp hu (by show scope.names.lookup y≠_;rw[k];decide)]at q;exact q
 ·exact e0.hok.fresh (Nat.le_of_lt (x.above y c (Yr h)))
 ·unfold start;show _=N.length;rw[Xj,X4,Yv];omega
theorem wx0{CX:CXT}{P:Program}{w:World}{K:Frag}{mg:Str->Option Value}{base:Heap}{k:Nat}{f:Addr}{name qual:Str}{params:Arguments}{body:List Stmt}{scope:Scope}{dV kV gh pm bi ct oc:Value}{an od:Option Addr}
  {lx:Array (Option Value)} {N ps:List Str} {sp:Sp} (lk:K.lookup f=some ⟨oc,od,.func (PySem.W.fnOf name qual params body scope dV kV gh pm an bi ct),lx⟩) (i9:PySem.W.codeIn K bi qual=true) (S:FnScope N ps scope)
  (len:∀vs H Q E,sp vs H Q E->vs.length=ps.length)
  (jr:∀(A:Around) (outer:List Env) (s:Shared) (H:Hp) (vs:List V) (Q:VK) (E:XK),Room k (A.deeper (envOfC qual scope s.heap.objs.size f bi))->sp vs H Q E ->
   ∃t,PSs (Jx CX P w K mg base N qual scope f bi A outer s H E) body t/\t { nx:=λ_ H'=>Q .non H',rt:=Q } (start N vs) H):
  FnOk P w K mg base CX (k+1) f (PySem.W.fnOf name qual params body scope dV kV gh pm an bi ct) ps sp:=by
 refine⟨len,λA outer s H args us vs Q E hr e0 hb r ji=>?_⟩;have hl:=len _ _ _ _ ji;have KX:K.In s.heap:=e0.mod.kin.keeps λb o e=>(e0.bs b o e).1
 have lim:s.heap.NoLimit:=e0.mod.nolimit.keeps λb o e=>(e0.bs b o e).1
 have pi:∀y∈ps.zip us,scope.names.lookup y.1=some .local\/(scope.names.lookup y.1=some .cell/\((cellsFrom (s.heap.objs.size+1) scope.names []).lookup y.1).isSome=true):=λ⟨n,v⟩ hy=>by
  rcases S.par n (List.of_mem_zip hy).1 with q|q
  ·exact .inl q
  ·exact .inr ⟨q,PySem.W.cellsFrom_some _ _ _ (.inl q)⟩
 refine codeAny_call_function hr.depth (KX _ _ lk) rfl S.co S.gen rfl (PySem.W.codeRec_of KX i9) (hb _ _ _ _ ?_);refine wpAny_newFunctionEnv_cells S.kind pi λenv he s1 x=>?_
 subst he;refine⟨lim.keeps x.toInCall.keep,codeAny_func ?_⟩;obtain⟨t,ht,hq⟩:=jr A outer s H vs Q E (hr.deeper _) ji;have I:Inv (Jx CX P w K mg base N qual scope f bi A outer s H E) [] (start N vs) H s1:=qwv S hr.hd e0 hl r x;refine Zi (ht [] s1 (start N vs) H _ I hq) (λfl s' hs=>?_) λe s' hs=>hs
 have fin:∀{σ':St} {H':Hp} {v:V} {u:Value},Inv (Jx CX P w K mg base N qual scope f bi A outer s H E) [] σ' H' s'->RelV v u->Q v H'->CE outer P w H s Q u s':=
  fun {σ' H' v u} J rv q=>⟨v,H',J.os,J.bare,J.base,J.hok,rv,q⟩
 cases fl with
 |ret u=>
  obtain⟨v,σ',H',J,rv,q⟩:=hs;exact fin J rv q
 |next=>
  obtain⟨σ',H',J,q⟩:=hs;exact fin (v:=V.non) (u:=Value.none) J rfl q
 |brk=>
  obtain⟨_,_,_,q⟩:=hs;exact False.elim q
 |cont=>
  obtain⟨_,_,_,q⟩:=hs;exact False.elim q
section
variable {X:Cx}{x:Str}{p pos:Pos}{e:Expr}{es:List Expr}{t:TA}{id T:String}{r:List V->Hp->VK->Prop}
abbrev tCB(r:List V->Hp->VK->Prop)(t:TA):TE:=fun O H Q=>t O H λvs H1=>r vs H1 Q
theorem kqr(hc:CallR X (.builtin id) r)(hg:Gl X x)(hm:X.mg x=none)(hv:bootBuiltins x=some (.builtin id))(ha:PA X (e::es) t)(hn:autoParam (x≠"__name__") ŕ)(df:autoParam ((x==("__debug__":Str))=false) ŕ)
  (he:autoParam (starEach (e::es) X.env=(false,eval e X.env)::starEach es X.env) Ŕ) (bu:autoParam ((backTo pos (starEach es X.env)).any (·.1)=false) Ŕ):PE X (.Call (.Name x p) (e::es) [] pos) (tCB r t):=by
 intro pins s O H Q I h;refine Yx (Q7 I hg hm hv ?_ hn df);exact PyProof.Rows.callWith_builtin1 (thn (ha pos pins s O H _ I h) λus s1 ⟨vs,H1,I1,r1,q1⟩=>hc pins s1 O H1 vs us Q I1 r1 q1) he bu
theorem qvv(hc:CallR X (.type T) r)(hg:Gl X x)(hm:X.mg x=none)(hv:bootBuiltins x=some (.type T))(ha:PA X (e::es) t)(hn:autoParam (x≠"__name__") ŕ)(df:autoParam ((x==("__debug__":Str))=false) ŕ)
  (he:autoParam (starEach (e::es) X.env=(false,eval e X.env)::starEach es X.env) Ŕ) (bu:autoParam ((backTo pos (starEach es X.env)).any (·.1)=false) Ŕ):PE X (.Call (.Name x p) (e::es) [] pos) (tCB r t):=by
 intro pins s O H Q I h;refine Yx (Q7 I hg hm hv ?_ hn df);exact Yh (thn (ha pos pins s O H _ I h) λus s1 ⟨vs,H1,I1,r1,q1⟩=>hc pins s1 O H1 vs us Q I1 r1 q1) he bu
end
end L2
namespace HT
open PySem PyProof.Rows
section
variable {prog:Program}{w:World}{A:Around}{E:Value->Shared->Prop}{s:Shared}
theorem cat_tup{t b:Addr}{vs ws:List Value}{Q:Value->Shared->Prop}(ht:IsTup s.heap t vs.toArray)(hb:IsTup s.heap b ws.toArray)(hv:vs≠[])
  (h1:ws=[]->Q (.ref t) s) (h2:ws≠[]->Q (.ref s.heap.objs.size) { s with heap:=s.heap.push { cls:=.type "tuple",data:=.seq (vs++ws).toArray } })
  (hsz:vs.length+ws.length<=sizeLine):wpAny (model prog w) A (binaryOp .Add (.ref t) (.ref b)) Q E s:=by
 obtain⟨⟨cls,dd,data,sl⟩,ho,hc,n,hd⟩:=id ht;obtain⟨⟨cls2,dd2,data2,lj⟩,io,mj,n2,i5⟩:=id hb;simp only at hc hd mj i5;subst hc hd mj i5;have e:vs.toArray++ws.toArray=(vs++ws).toArray:=by simp
 by_cases hw:ws=[]
 ·exact concat_meets ⟨_,ho,rfl⟩ ⟨_,io,rfl⟩ noFill_tuple_add seq_tuple_add PySem.F.slot_tuple_add PySem.F.entry_tuple_add (PySem.F.args_tuple_add_2 _ _)
   (tuple_addW1 t b vs.toArray ws.toArray n n2 dd dd2 sl lj (by simpa using hv) (by simp[hw])) ⟨ho,io,h1 hw⟩
 ·refine concat_meets ⟨_,ho,rfl⟩ ⟨_,io,rfl⟩ noFill_tuple_add seq_tuple_add PySem.F.slot_tuple_add PySem.F.entry_tuple_add (PySem.F.args_tuple_add_2 _ _)
   (tuple_addW2 t b vs.toArray ws.toArray n n2 dd dd2 sl lj (by simpa using hv) (by simpa using hw) (by rw[X5,X5];exact hsz)) ⟨ho,io,?_⟩
  rw[e];exact h2 hw
def sIx(n d:Nat):Option Int->Nat
 |none=>d|some v=>if v<0 then(v+(n:Int)).toNat else min v.toNat n
theorem vzl(n d:Nat)(hd:d<=n)(o:Option Int):sIx n d o<=n:=by
 cases o with
 |none=>exact hd
 |some v=>
  show(if v<0 then(v+(n:Int)).toNat else min v.toNat n)<=n
  by_cases hv:v<0
  ·rw[X9 hv];omega
  ·rw[Xb hv];exact Nat.min_le_right _ _
theorem qxn(v:Int)(n d:Nat):(if v<0 then max (v+(n:Int)) 0 else min v (n:Int))=((sIx n d (some v):Nat):Int):=by
 show(if v<0 then max (v+(n:Int)) 0 else min v (n:Int))=(((if v<0 then(v+(n:Int)).toNat else min v.toNat n):Nat):Int)
 by_cases hv:v<0
 ·simp only[X9 hv];omega
 ·simp only[Xb hv];omega
theorem qqc(lo hi:Option Int)(n:Nat):Builtin.Slice.sliceAdjust lo hi 1 (n:Int)=(((sIx n 0 lo:Nat):Int),((sIx n n hi:Nat):Int)):=by
 have h1:¬((1:Int)<0):=⋯
 unfold Builtin.Slice.sliceAdjust;simp only[h1,if_false];refine Prod.ext ?_ ?_
 ·cases lo with|none=>rfl|some v=>exact qxn v n 0
 ·cases hi with|none=>rfl|some v=>exact qxn v n n
theorem qko(i j:Nat):Builtin.Slice.slicePlaces (i:Int) (j:Int) 1=j - i:=by
 unfold Builtin.Slice.slicePlaces;have h1:(1:Int)>0:=⋯
 simp only[h1,if_true,Int.ediv_one]
 split<;>omega
theorem kkr{v:Value}{o:Option Int}{Q:Option Int->Shared->Prop}(p:IsPart v o)(h:Q o s):wpAny (model prog w) A (Builtin.Slice.slicePartIndex v) Q E s:=by
 cases p with|none=>exact slicePart_none h|int i t=>exact slicePart_int h
theorem jzn{sl:Addr}{vl vu:Value}{lo hi:Option Int}{n:Nat}{Q:Int×Int×Nat->Shared->Prop}(hs:s.heap.IsSliceOf sl vl vu .none)(pl:IsPart vl lo)(pu:IsPart vu hi)
  (h:Q (((sIx n 0 lo:Nat):Int),1,sIx n n hi - sIx n 0 lo) s):wpAny (model prog w) A (Builtin.Slice.sliceApplied (.ref sl) (pure (n:Int))) Q E s:=by
 obtain⟨os,i',nu,bc⟩:=id hs;unfold Builtin.Slice.sliceApplied Builtin.Slice.sliceFields;refine X0 (X0 (Ys i' bc (x:=vl) rfl (X0 (Ys i' bc (x:=vu) rfl (X0 (Ys i' bc (x:=.none) rfl (X1 ?_)))))));refine X0 (slicePart_none ?_);show wpAny _ _ (if((1:Int)==0)=true then _ else _) _ _ s;rw[Xb ⋯];refine X0 (kkr pl (X0 (kkr pu (X0 (X1 ?_)))));show wpAny _ _ (match Builtin.Slice.sliceAdjust lo hi 1 (n:Int)with|(lo,hi)=>pure (lo,(1:Int),Builtin.Slice.slicePlaces lo hi 1)) _ _ s;rw[qqc lo hi n];show wpAny _ _ (pure (((sIx n 0 lo:Nat):Int),(1:Int),Builtin.Slice.slicePlaces ((sIx n 0 lo:Nat):Int) ((sIx n n hi:Nat):Int) 1)) _ _ s;rw[qko];exact X1 h
theorem vj2(xs:Array Value)(i k:Nat):((List.range k).filterMap λ(m:Nat)=>xs[((i:Int)+(m:Int)*1).toNat]?).toArray=((xs.toList.drop i).take k).toArray:=by
 have e:(λ(m:Nat)=>xs[((i:Int)+(m:Int)*1).toNat]?)=λm=>xs[i+m]?:=by
  funext m;have:((i:Int)+(m:Int)*1).toNat=i+m:=⋯
  rw[this]
 rw[e];have:=pick_run xs i k;rw[List.filterMap_map]at this;have e2:((λx=>xs[x]?)∘λx=>i+x)=λm=>xs[i+m]?:=rfl
 rw[e2]at this;rw[this]
theorem getItem_tuple_cut{t sl:Addr}{items:Array Value}{vl vu:Value}{lo hi:Option Int}{Q:Value->Shared->Prop}(ht:IsTup s.heap t items)(hs:s.heap.IsSliceOf sl vl vu .none)(pl:IsPart vl lo)(pu:IsPart vu hi)
  (hw:¬(sIx items.size 0 lo=0/\sIx items.size items.size hi=items.size))
  (h:Q (.ref s.heap.objs.size) { s with heap:=s.heap.push { cls:=.type "tuple",data:=.seq ((items.toList.drop (sIx items.size 0 lo)).take (sIx items.size items.size hi - sIx items.size 0 lo)).toArray } })
  (hsz:items.size<=sizeLine):wpAny (model prog w) A (getItem (.ref t) (.ref sl)) Q E s:=by
 have ik:sizeOk (.seq ((items.toList.drop (sIx items.size 0 lo)).take (sIx items.size items.size hi - sIx items.size 0 lo)).toArray):=by
  show((items.toList.drop (sIx items.size 0 lo)).take (sIx items.size items.size hi - sIx items.size 0 lo)).toArray.size<=sizeLine;rw[X5,Yc,Yf,Xi];omega
 have hj:sIx items.size items.size hi<=items.size:=vzl _ _ (X8 _) hi;obtain⟨os,i',nu,bc⟩:=id hs;have hTs:s.TypeIs (.ref sl) "slice":=⟨os,i',nu⟩;unfold getItem
 try with_reducible refine Y0 ?_
 first|refine X0 (X1 ?_)|skip
 refine X0 (wpAny_sequenceKey ht.typeIs ⋯ ?_);refine X0 (Y7 (name:=Str.ofString "__getitem__") ht.typeIs PyProof.Rows.slot_tuple_getitem
  (Xy PyProof.Rows.slot_tuple_getitem ht.typeIs entry_tuple_getitem ?_ (args_tuple_getitem _ _)))
 show wpAny _ _ (Builtin.Tuple.tupleItemsOf (.ref t) >>= _) _ _ s;refine X0 (tupleItemsOf_ ht ?_);refine X0 (wpAny_typeOf hTs ?_);rw[X9 ⋯];refine X0 (jzn hs pl pu ?_);have fm:¬((((sIx items.size 0 lo:Nat):Int)==0&&(1:Int)==1&&(sIx items.size items.size hi - sIx items.size 0 lo)==items.size)=true):=by
  intro q;rw[Bool.and_eq_true,Bool.and_eq_true]at q;have q1:((sIx items.size 0 lo:Nat):Int)=0:=eq_of_beq q.1.1;have q2:sIx items.size items.size hi - sIx items.size 0 lo=items.size:=eq_of_beq q.2;exact hw ⟨⋯,⋯⟩
 show wpAny _ _ (if(((sIx items.size 0 lo:Nat):Int)==0&&(1:Int)==1&&(sIx items.size items.size hi - sIx items.size 0 lo)==items.size)=true then _ else _) _ _ s;rw[Xb fm,vj2]
 first
  |exact X0 (m:=Builtin.Tuple.tupleExact _) (Xp (X1 ⟨_,rfl,X1 h⟩) ik)
  |exact X0 (m:=Builtin.Tuple.tupleExact _) (Xp (X0 (X1 (X1 ⟨_,rfl,X1 h⟩))) ik)
  |exact X0 (X0 (m:=Builtin.Tuple.tupleExact _) (Xp (X1 (X1 ⟨_,rfl,X1 h⟩)) ik))
  |exact X0 (X0 (m:=Builtin.Tuple.tupleExact _) (Xp (X1 ⟨_,rfl,X1 h⟩) ik))
end
end HT
namespace L2
open PySem PySem.Spec PyProof.Rows
abbrev TO:=St->Hp->(Option Int->Hp->Prop)->Prop
def PO(X:Cx)(e:Option Expr)(t:TO):Prop:=
 ∀(pins:List (Addr×Obj)) (s:Shared) (O:St) (H:Hp) (Q:Option Int->Hp->Prop),Inv X pins O H s->t O H Q ->
  wpAny (model X.prog X.w) X.A (evalPart e X.env) (λu s'=>∃o H',Inv X pins O H' s'/\IsPart u o/\Q o H') X.xe s
abbrev qqr:TO:=λ_ H Q=>Q none H
abbrev vz6(t:TE):TO:=fun O H Q=>t O H λx H1=>∃i,x=.int i/\Q (some i) H1
section
variable {X:Cx}{e:Expr}{te:TE}{lo hi:Option Expr}{tl th:TO}{pos p2:Pos}
theorem vvn:PO X none qqr:=by
 intro pins s O H Q I h;rw[evalPart_none];exact X1 ⟨none,H,I,.none,h⟩
theorem vvm(h:PE X e te):PO X (some e) (vz6 te):=by
 intro pins s O H Q I hw;rw[evalPart_some];refine thn (h pins s O H _ I hw) λu s1 ⟨x,H1,I1,r1,q1⟩=>?_
 obtain⟨i,rfl,q⟩:=q1;obtain⟨t,rfl⟩:=r1;exact⟨some i,H1,I1,.int i t,q⟩
noncomputable def SlR(X:Cx)(r:V->Option Int->Option Int->Hp->VK->Prop):Prop:=
 ∀(pins:List (Addr×Obj)) (s:Shared) (O:St) (H:Hp) (x:V) (v vl vu:Value) (lo hi:Option Int) (sl:Addr) (Q:VK),Inv X pins O H s->RelV x v->s.heap.IsSliceOf sl vl vu .none->IsPart vl lo->IsPart vu hi->r x lo hi H Q ->
  ∃T id,typeLookup (.type T) "__getitem__"=pure (some (.builtin id))/\s.TypeIs v T/\wpAny (model X.prog X.w) X.A (getItem v (.ref sl)) (EP X pins O Q) X.xe s
theorem SlR.or{r r':V->Option Int->Option Int->Hp->VK->Prop}(h:SlR X r)(h':SlR X r'):SlR X (λx lo hi H Q=>r x lo hi H Q\/r' x lo hi H Q):=by
 intro pins s O H x v vl vu lo hi sl Q I rx hs pl pu q;rcases q with q|q
 ·exact h pins s O H x v vl vu lo hi sl Q I rx hs pl pu q
 ·exact h' pins s O H x v vl vu lo hi sl Q I rx hs pl pu q
abbrev tSl(r:V->Option Int->Option Int->Hp->VK->Prop)(te:TE)(tl th:TO):TE:=fun O H Q=>te O H λx H1=>tl O H1 λl H2=>th O H2 λu H3=>r x l u H3 Q
theorem vj4{r:V->Option Int->Option Int->Hp->VK->Prop}(hr:SlR X r)(he:PE X e te)(hl:PO X lo tl)(hu:PO X hi th):PE X (.Subscript e (.Slice lo hi none p2) pos) (tSl r te tl th):=by
 intro pins s O H Q I h;refine Subscript_ (thn (he pins s O H _ I h) λv s1 ⟨x,H1,I1,r1,q1⟩=>?_);refine wpAny_Slice (thn (hl pins s1 O H1 _ I1 q1) λvl s2 ⟨l,H2,I2,pl,q2⟩=>thn (hu pins s2 O H2 _ I2 q2) λvu s3 ⟨u,H3,I3,pu,q3⟩=>?_);rw[evalPart_none];refine X1 ?_;have I4:Inv X pins O H3 { s3 with heap:=s3.heap.push { cls:=.type "slice",data:=.fields #[vl,vu,.none] } }:=I3.kept (t':=s3.toks) λb ob q=>X3 _ q
 obtain⟨T,id,hT,ht,hg⟩:=hr pins { s3 with heap:=s3.heap.push { cls:=.type "slice",data:=.fields #[vl,vu,.none] } } O H3 x v vl vu l u s3.heap.objs.size Q I4 r1 (Heap.IsSliceOf.new ..) pl pu q3;show wpAny (model X.prog X.w) X.A (subscriptTail e (.Slice lo hi none p2) v (.ref s3.heap.objs.size)) (EP X pins O Q) X.xe { s3 with heap:=s3.heap.push { cls:=.type "slice",data:=.fields #[vl,vu,.none] } };exact tail_any (ops:=[.ref s3.heap.objs.size,v]) ht hT hg (by ac_rfl)
def QX(xs:List V)(lo hi:Option Int):List V:=(xs.drop (HT.sIx xs.length 0 lo)).take (HT.sIx xs.length xs.length hi - HT.sIx xs.length 0 lo)
theorem kjz(xs:List V)(lo hi:Option Int):(QX xs lo hi).length<=xs.length:=by
 unfold QX;rw[Yc,Yf];omega
def wxs(K:Frag):V->Option Int->Option Int->Hp->VK->Prop:=λx lo hi H Q=>∃a xs,x=.ref a/\SqT K H a xs /\
 ¬(HT.sIx xs.length 0 lo=0/\HT.sIx xs.length xs.length hi=xs.length)/\∀p,H p=none->Q (.ref p) (upd H p (.tup (QX xs lo hi)))
theorem sl_tup:SlR X (wxs X.K):=by
 intro pins s O H x v vl vu lo hi sl Q I rx hs pl pu h;obtain⟨a,xs,rfl,hx,hw,q⟩:=h;cases rx;obtain⟨ai,r,ht,hz⟩:=I.tuple hx;have av:ai.toArray.size=xs.length:=by rw[X5];exact r.length.symm
 refine⟨"tuple",_,PyProof.Rows.slot_tuple_getitem.lookup,ht.typeIs,?_⟩;refine HT.getItem_tuple_cut ht hs pl pu (by rw[av];exact hw) ?_ (by rw[av];exact hz);rw[av];refine⟨.ref s.heap.objs.size,_,I.laid (t':=s.toks) (o:=.tup (QX xs lo hi)) (λb ob q=>X3 _ q) (X8 _) ?_,rfl,q _ (I.hok.fresh (X8 _))⟩;exact⟨Y2 (kjz xs lo hi) hz,_,(r.drop (HT.sIx xs.length 0 lo)).take (HT.sIx xs.length xs.length hi - HT.sIx xs.length 0 lo),IsTupD.new _ _⟩
def wj0(K:Frag):R2:=λx y H Q=>∃a b xs ys,x=.ref a/\y=.ref b/\SqT K H a xs/\SqT K H b ys/\xs≠[]/\xs.length+ys.length<=sizeLine /\
 (ys=[]->Q (.ref a) H)/\(ys≠[]->∀p,H p=none->Q (.ref p) (upd H p (.tup (xs++ys))))
theorem Vals.nil_iff{xs:List V}{us:List Value}(r:Vals xs us):us=[]↔xs=[]:=by
 cases r with|nil=>simp|cons _ _=>simp
theorem vw3:OpR X (binaryOp .Add) (wj0 X.K):=by
 intro pins s O H x y v u Q I rx ry h;obtain⟨a,b,xs,ys,rfl,rfl,ha,hb,hx,hz,q1,q2⟩:=h;cases rx;cases ry;obtain⟨ai,r1,p1,_⟩:=I.tuple ha;obtain⟨gb,r2,p2,_⟩:=I.tuple hb;refine HT.cat_tup p1 p2 (λz=>hx (r1.nil_iff.mp z)) (λz=>⟨.ref a,H,I,rfl,q1 (r2.nil_iff.mp z)⟩) (λz=>?_) (by rw[<-r1.length,<-r2.length];exact hz);refine⟨.ref s.heap.objs.size,_,I.laid (t':=s.toks) (o:=.tup (xs++ys)) (λb ob q=>X3 _ q) (X8 _) ?_,rfl,q2 (λw=>z (r2.nil_iff.mpr w)) _ (I.hok.fresh (X8 _))⟩;exact⟨by rw[Xj];exact hz,_,r1.append r2,IsTupD.new _ _⟩
end
def ixN(n:Nat)(i:Int):Option Nat:=if 0<=i then(if i<n then some i.toNat else none)else if -(n:Int)<=i then some (i+n).toNat else none
def atI{α:Type}(xs:List α)(i:Int):Option α:=(ixN xs.length i).bind λj=>xs[j]?
theorem kz6{n:Nat}{i:Int}{j:Nat}(h:ixN n i=some j):seqIndex? i n=some j/\j<n/\-(n:Int)<=i/\i<n:=by
 unfold ixN at h
 by_cases h0:0<=i
 ·rw[X9 h0]at h
  by_cases h1:i<n
  ·rw[X9 h1]at h;have e:i.toNat=j:=oq9 h;exact⟨by rw[seqIndex_of h0 h1,e],⋯,⋯,h1⟩
  ·rw[Xb h1]at h;cases h
 ·rw[Xb h0]at h
  by_cases h1:-(n:Int)<=i
  ·rw[X9 h1]at h;have e:(i+n).toNat=j:=oq9 h;exact⟨by rw[seqIndex_neg ⋯ h1,e],⋯,h1,⋯⟩
  ·rw[Xb h1]at h;cases h
theorem kzi{α:Type}{xs:List α}{i:Int}{v:α}(h:atI xs i=some v):∃j,seqIndex? i xs.length=some j/\xs[j]?=some v/\j<xs.length/\-(xs.length:Int)<=i/\i<xs.length:=by
 unfold atI at h;cases e:ixN xs.length i with
 |none=>rw[e]at h;cases h
 |some j=>
  rw[e]at h;obtain⟨h1,h2,h3,h4⟩:=kz6 e;exact⟨j,h1,h,h2,h3,h4⟩
def kzk(b:Expr):Prop:=∀o i,subscripted b false o i=operate [o,i] (getItem o i)
def IxR(X:Cx)(r:R2):Prop:=
 ∀(value slice:Expr) (pins:List (Addr×Obj)) (s:Shared) (O:St) (H:Hp) (x y:V) (v u:Value) (Q:VK),Inv X pins O H s->RelV x v->RelV y u->r x y H Q ->
  subscripted slice false v u=operate [v,u] (getItem v u)->wpAny (model X.prog X.w) X.A (subscriptTail value slice v u) (EP X pins O Q) X.xe s
def MtR(X:Cx)(id:String)(r:V->List V->Hp->VK->Prop):Prop:=
 ∀(pins:List (Addr×Obj)) (s:Shared) (O:St) (H:Hp) (x:V) (xs:List V) (v:Value) (us:List Value) (Q:VK),Inv X pins O H s->RelV x v->Vals xs us->r x xs H Q ->
  wpAny (model X.prog X.w) X.A (call (.builtin id) (v::us)) (EP X pins O Q) X.xe s
section
variable {X:Cx}{a b:Expr}{ta tb:TE}{pos:Pos}
theorem IxR.or{r r':R2}(h:IxR X r)(h':IxR X r'):IxR X (λx y H Q=>r x y H Q\/r' x y H Q):=by
 intro value slice pins s O H x y v u Q I rx ry q hs;rcases q with q|q
 ·exact h value slice pins s O H x y v u Q I rx ry q hs
 ·exact h' value slice pins s O H x y v u Q I rx ry q hs
theorem wwl{r:R2}(hr:IxR X r)(ha:PE X a ta)(hb:PE X b tb)(hs:kzk b):PE X (.Subscript a b pos) (tOp r ta tb):=by
 intro pins s O H Q I h;exact Subscript_ (wxd ha hb I h λv u s2 x y H2 I2 rx ry q=>hr a b pins s2 O H2 x y v u Q I2 rx ry q (hs _ _))
def wxy(K:Frag):R2:=λx y H Q=>∃p xs i v,x=.ref p/\y=.int i/\SqL K H p xs/\atI xs i=some v/\Q v H
def wxw(K:Frag):R2:=λx y H Q=>∃p xs i v,x=.ref p/\y=.int i/\SqT K H p xs/\atI xs i=some v/\Q v H
def wxx:R2:=λx y H Q=>∃z i c,x=.str z/\y=.int i/\z.length<=sizeLine/\atI z.cps.toList i=some c/\Q (.str ⟨#[c]⟩) H
theorem ix_list:IxR X (wxy X.K):=by
 intro value slice pins s O H x y v u Q I rx ry h hs;obtain⟨p,xs,i,z,rfl,rfl,hq,he,q⟩:=h;cases rx;obtain⟨t,rfl⟩:=ry;obtain⟨ai,r,pl,hz⟩:=I.list hq;obtain⟨j,h1,h2,h3,h4,h5⟩:=kzi he;obtain⟨w,ew,iy⟩:=r.get h2;have hl:=r.length;have hn:=W6;have fin:EP X pins O Q w s:=⟨z,H,I,iy,q⟩
 by_cases h0:0<=i
 ·have hj:i.toNat=j:=by
   rw[seqIndex_of h0 h5]at h1;exact oq9 h1
  exact item_listR pl.isList h0 ⋯ (by rw[hj];simpa using ew) fin hs
 ·have hj:(i+(ai.toArray.size:Int)).toNat=j:=by
   rw[seqIndex_neg ⋯ h4]at h1;rw[X5,<-hl];exact oq9 h1
  exact subscriptTail_builtinR (x:=w) pl.isList.typeIs slot_list_getitem.lookup
   (wpAny_getItem_list_neg (Q:=λr s'=>r=w/\EP X pins O Q r s') pl.isList ⋯ (by rw[X5]<;>omega) ⋯ (by rw[hj];simpa using ew) ⟨rfl,fin⟩) hs
theorem ix_tup:IxR X (wxw X.K):=by
 intro value slice pins s O H x y v u Q I rx ry h hs;obtain⟨p,xs,i,z,rfl,rfl,hq,he,q⟩:=h;cases rx;obtain⟨t,rfl⟩:=ry;obtain⟨ai,r,pl,hz⟩:=I.tuple hq;obtain⟨j,h1,h2,h3,h4,h5⟩:=kzi he;obtain⟨w,ew,iy⟩:=r.get h2;have hl:=r.length;have hn:=W6;have fin:EP X pins O Q w s:=⟨z,H,I,iy,q⟩;exact subscriptTail_builtinR (x:=w) pl.typeIs slot_tuple_getitem.lookup
  (getItem_tuple (j:=j) (Q:=λr s'=>r=w/\EP X pins O Q r s') pl ⋯ ⋯ (by rw[X5,<-hl];exact h1) (by simpa using ew) ⟨rfl,fin⟩) hs
theorem kwg:IxR X wxx:=by
 intro value slice pins s O H x y v u Q I rx ry h hs;obtain⟨z,i,c,rfl,rfl,hz,he,q⟩:=h;obtain⟨t,rfl⟩:=rx;obtain⟨t',rfl⟩:=ry;obtain⟨j,h1,h2,h3,h4,h5⟩:=kzi he;have hl:z.cps.toList.length=z.length:=by simp[Str.length]
 rw[hl]at h1 h4 h5;have hn:=W6;exact tail_any (typeIs_str s z t) slot_str_getitem.lookup (getItem_str (c:=c) (by
  have e1:decide (i < -(2 ^ 63:Int))=false:=Xh ⋯;have e2:decide (i>=2 ^ 63)=false:=Xh ⋯;rw[e1,e2,Bool.or_false]) (by rw[h1];simpa using h2) ⟨.str ⟨#[c]⟩,H,I.tok _,⟨_,rfl⟩,q⟩) hs
def rIx(K:Frag):R2:=λx y H Q=>wxy K x y H Q\/wxw K x y H Q\/wxx x y H Q
theorem wku:IxR X (rIx X.K):=ix_list.or (ix_tup.or kwg)
theorem qq0(ai:List Value)(n j:Nat)(u:Value):Obj.mapSeq (·.setIfInBounds j u) { cls:=.type "list",data:=.seq ai.toArray n }={ cls:=.type "list",data:=.seq (ai.set j u).toArray n }:=by
 simp[Obj.mapSeq]
theorem Inv.lst{pins:List (Addr×Obj)}{O:St}{H:Hp}{s:Shared}{p:Addr}{xs:List V}(I:Inv X pins O H s)(h:H p=some (.lst xs)):
  ∃(ai:List Value) (n:Nat),Vals xs ai/\s.heap.get? p=some { cls:=.type "list",data:=.seq ai.toArray n }/\xs.length<=sizeLine:=by
 obtain⟨z,ai,n,r,e⟩:=I.hok p _ h;exact⟨ai,n,r,e,z⟩
theorem Inv.lstUpd{pins:List (Addr×Obj)}{O:St}{H:Hp}{s:Shared}{p:Addr}{xs ys:List V}{ai its':List Value}{n n':Nat}{f:Obj->Obj}(I:Inv X pins O H s)(h:H p=some (.lst xs))
  (ho:s.heap.get? p=some { cls:=.type "list",data:=.seq ai.toArray n }) (hf:f { cls:=.type "list",data:=.seq ai.toArray n }={ cls:=.type "list",data:=.seq its'.toArray n' }) (r:Vals ys its') (hz:ys.length<=sizeLine) (t:Nat):
  Inv X pins O (upd H p (.lst ys)) { s with heap:=s.heap.update p f,toks:=t }:=by
 have e:(s.heap.update p f).get? p=some { cls:=.type "list",data:=.seq its'.toArray n' }:=by
  rw[Xz f ho (by rw[hf]<;>rfl),hf]
 refine I.write (x:=p) (e:=p) (by rw[h];trivial) (.inl rfl) (λb u hb q=>(Z6 _ _ (Ne.symm hb)).trans q) ⟨_,e⟩ ?_;exact⟨hz,its',n',r,e⟩
def wvv:V->V->V->Hp->(Hp->Prop)->Prop:=λo i v H Q=>∃p xs k j,o=.ref p/\i=.int k/\H p=some (.lst xs)/\ixN xs.length k=some j/\Q (upd H p (.lst (xs.set j v)))
theorem qzk:wzk X wvv:=by
 intro pins s O H o i v ov iv u Q I ro ri rv h;obtain⟨p,xs,k,j,rfl,rfl,hp,hj,q⟩:=h;cases ro;obtain⟨t,rfl⟩:=ri;obtain⟨ai,n,r,ho,hz⟩:=I.lst hp;obtain⟨h1,h2,h3,h4⟩:=kz6 hj;have hl:=r.length;have hn:=W6;have I':Inv X pins O (upd H p (.lst (xs.set j v))) { s with heap:=s.heap.update p (Obj.mapSeq (·.setIfInBounds j u)) }:=
  I.lstUpd hp ho (qq0 ai n j u) (r.set rv j) (by rw[Yt];exact hz) s.toks
 by_cases h0:0<=k
 ·have hk:k.toNat=j:=by
   rw[seqIndex_of h0 h4]at h1;exact oq9 h1
  exact PySem.W.ki_setAt ho h0 ⋯ (by rw[X5,<-hl];exact h4) (by rw[hk];exact⟨_,I',q⟩)
 ·have hk:(k+(ai.toArray.size:Int)).toNat=j:=by
   rw[seqIndex_neg ⋯ h3]at h1;rw[X5,<-hl];exact oq9 h1
  exact PySem.W.ki_setBack ho ⋯ (by rw[X5,<-hl];exact h3) ⋯ (by rw[hk];exact⟨_,I',q⟩)
theorem kvq(lo hi:Option Int)(n:Nat):(sliceBounds lo hi none n).1=((HT.sIx n 0 lo:Nat):Int)/\(sliceBounds lo hi none n).2.1=((HT.sIx n n hi:Nat):Int)/\(sliceBounds lo hi none n).2.2=1:=by
 refine⟨?_,?_,rfl⟩
 ·cases lo with
  |none=>simp[sliceBounds,HT.sIx]
  |some i=>
   simp only[sliceBounds,HT.sIx,Option.getD_none,show(1:Int)>0 by decide,if_true]
   by_cases h:i<0
   ·simp only[h,if_true]<;>omega
   ·simp only[h,if_false]<;>omega
 ·cases hi with
  |none=>simp[sliceBounds,HT.sIx]
  |some i=>
   simp only[sliceBounds,HT.sIx,Option.getD_none,show(1:Int)>0 by decide,if_true]
   by_cases h:i<0
   ·simp only[h,if_true]<;>omega
   ·simp only[h,if_false]<;>omega
theorem kqj(ai:List Value)(lo hi:Option Int):slicePick ai.toArray lo hi none=((ai.drop (HT.sIx ai.length 0 lo)).take (HT.sIx ai.length ai.length hi - HT.sIx ai.length 0 lo)).toArray:=by
 obtain⟨h1,h2,h3⟩:=kvq lo hi ai.toArray.size;unfold slicePick;rw[h1,h2,h3];simp only[sliceRange_one,pick_run,X5]<;>rfl
def wxu(K:Frag):V->Option Int->Option Int->Hp->VK->Prop:=λx lo hi H Q=>∃a xs,x=.ref a/\SqL K H a xs/\∀p,H p=none->Q (.ref p) (upd H p (.lst (QX xs lo hi)))
theorem sl_list:SlR X (wxu X.K):=by
 intro pins s O H x v vl vu lo hi sl Q I rx hs pl pu h;obtain⟨a,xs,rfl,hx,q⟩:=h;cases rx;obtain⟨ai,r,ht,hz⟩:=I.list hx;have av:=r.length;refine⟨"list",_,slot_list_getitem.lookup,ht.isList.typeIs,?_⟩;refine wpAny_getItem_list_slice ht.isList hs pl pu .none (by simp) ?_ (by rw[X5]<;>omega);rw[kqj,<-av];refine⟨.ref s.heap.objs.size,_,I.laid (t':=s.toks) (o:=.lst (QX xs lo hi)) (λb ob q=>X3 _ q) (X8 _) ?_,rfl,q _ (I.hok.fresh (X8 _))⟩;exact⟨Y2 (kjz xs lo hi) hz,_,0,(r.drop (HT.sIx xs.length 0 lo)).take (HT.sIx xs.length xs.length hi - HT.sIx xs.length 0 lo),X6 _ rfl⟩
theorem kw8:OpR X (compareOp .NotIn) (λx y H Q=>∃i j,x=.str i/\y=.str j/\Q (.bl (!(!(Builtin.Str.occurrences j i 0 j.length 1).isEmpty))) H):=by
 intro pins s O H x y v u Q I rx ry h;obtain⟨i,j,rfl,rfl,q⟩:=h;obtain⟨t,rfl⟩:=rx;obtain⟨t',rfl⟩:=ry;exact notIn_str ⟨.bl _,H,I,rfl,q⟩
theorem call_len_seq:CallR X (.builtin "len") (λxs H Q=>∃p ys,xs=[.ref p]/\(SqL X.K H p ys\/SqT X.K H p ys)/\Q (.int ys.length) H):=by
 intro pins s O H xs us Q I r h;obtain⟨p,ys,rfl,hq,q⟩:=h;obtain⟨u,rfl,rx⟩:=zW r;cases rx;have hn:=W6;rcases hq with hq|hq
 ·obtain⟨ai,r',pl,hz⟩:=I.list hq;have av:=r'.length;exact Calls.call_len_list pl.isList (by simp only[X5]<;>omega) ⟨.int ys.length,H,I.tok _,⟨s.toks+1,by rw[X5,av]⟩,q⟩
 ·obtain⟨ai,r',pl,hz⟩:=I.tuple hq;have av:=r'.length;exact len_tuple pl (by simp only[X5]<;>omega) ⟨.int ys.length,H,I.tok _,⟨s.toks+1,by rw[X5,av]⟩,q⟩
theorem call_len_str:CallR X (.builtin "len") (λxs H Q=>∃z,xs=[.str z]/\z.length<=sizeLine/\Q (.int z.length) H):=by
 intro pins s O H xs us Q I r h;obtain⟨z,rfl,hz,q⟩:=h;obtain⟨u,rfl,t,rfl⟩:=zW r;have hn:=W6;exact len_str ⋯ ⟨.int z.length,H,I.tok _,⟨_,rfl⟩,q⟩
theorem CallR.or{f:Value}{r r':List V->Hp->VK->Prop}(h:CallR X f r)(h':CallR X f r'):CallR X f (λxs H Q=>r xs H Q\/r' xs H Q):=by
 intro pins s O H xs us Q I rs q;rcases q with q|q
 ·exact h pins s O H xs us Q I rs q
 ·exact h' pins s O H xs us Q I rs q
theorem kx2:CallR X (.type "list") (λxs H Q=>∃p ys,xs=[.ref p]/\(SqL X.K H p ys\/SqT X.K H p ys)/\∀l,H l=none->Q (.ref l) (upd H l (.lst ys))):=by
 intro pins s O H xs us Q I r h;obtain⟨p,ys,rfl,hq,q⟩:=h;obtain⟨u,rfl,rx⟩:=zW r;cases rx;have fin:∀(ai:List Value),Vals ys ai->ys.length<=sizeLine->∀(h':Heap) (c':Nat),(∀b o',s.heap.get? b=some o'->h'.get? b=some o') ->
   h'.get? s.heap.objs.size=some { cls:=.type "list",dict:=none,data:=.seq ai.toArray c',slots:=#[] }->EP X pins O Q (.ref s.heap.objs.size) { s with heap:=h' }:=λai r' hz h' c' kp e=>
  ⟨.ref s.heap.objs.size,_,I.laid (t':=s.toks) kp (X8 _) (show ObjOk X.prog X.w _ h' _ (.lst ys)from⟨hz,ai,c',r',e⟩),rfl,q _ (I.hok.fresh (X8 _))⟩
 rcases hq with hq|hq
 ·obtain⟨ai,r',pl,hz⟩:=I.list hq;have av:=r'.length;obtain⟨o,ho,hc,n,hd⟩:=pl.isList;exact call_list_seq p (.inl rfl) ho hc hd (λh' c' kp e=>fin ai r' hz h' c' kp e) (by simp only[X5]<;>omega)
 ·obtain⟨ai,r',pl,hz⟩:=I.tuple hq;have av:=r'.length;obtain⟨o,ho,hc,n,hd⟩:=pl;exact call_list_seq p (.inr rfl) ho hc hd (λh' c' kp e=>fin ai r' hz h' c' kp e) (by simp only[X5]<;>omega)
theorem kvd:CallR X (.type "tuple") (λxs H Q=>∃p ys,xs=[.ref p]/\((SqL X.K H p ys/\∀l,H l=none->Q (.ref l) (upd H l (.tup ys)))\/(SqT X.K H p ys/\Q (.ref p) H))):=by
 intro pins s O H xs us Q I r h;obtain⟨p,ys,rfl,h⟩:=h;obtain⟨u,rfl,rx⟩:=zW r;cases rx;rcases h with⟨hq,q⟩|⟨hq,q⟩
 ·obtain⟨ai,r',pl,hz⟩:=I.list hq;have av:=r'.length;refine call_tuple_list pl.isList (λh' kp=>?_) (by simp only[X5]<;>omega);have I1:Inv X pins O H { s with heap:=h' }:=I.kept (t':=s.toks) kp;have I2:Inv X pins O (upd H h'.objs.size (.tup ys)) { s with heap:=h'.push { cls:=.type "tuple",data:=.seq ai.toArray } }:=
   I1.laid (t':=s.toks) (λb o e=>X3 _ e) (X8 _) (show ObjOk X.prog X.w _ _ _ (.tup ys)from⟨hz,ai,r',IsTupD.new _ _⟩)
  exact⟨.ref h'.objs.size,_,I2,rfl,q _ (I1.hok.fresh (X8 _))⟩
 ·obtain⟨ai,r',pl,hz⟩:=I.tuple hq;exact call_tuple_same pl ⟨.ref p,H,I,rfl,q⟩
noncomputable def tyV(K : Frag)(T : String)(x : V)(H : Hp): Prop:= match x with
  |.str _=>T = "str"|.int _=>T = "int"
  |.ref p=>(T = "list" /\ ∃xs, SqL K H p xs) \/ (T = "tuple" /\ ∃o, K.lookup p = some o /\ o.cls = .type "tuple" /\ o.dict = none) \/
      (T = "dict" /\ ((∃kvs, H p = some (.dK kvs)) \/ ∃kvs, H p = some (.dT kvs))) \/ (T = "set" /\ ∃S n, H p = some (.set S n))
  |_=>False
theorem vz0{pins:List (Addr×Obj)}{O:St}{H:Hp}{s:Shared}{T:String}{x:V}{v:Value}(I:Inv X pins O H s)(r:RelV x v)(ty:tyV X.K T x H):
  s.TypeIs v T/\∀a,v=.ref a->∃ob,s.heap.get? a=some ob/\ob.dict=none:=by
 cases x with
 | str z=>
  obtain⟨t,rfl⟩:=r;cases(show T="str" from ty);exact⟨typeIs_str s z t,λ_ e=>nomatch e⟩
 | int i=>
  obtain⟨t,rfl⟩:=r;cases(show T="int" from ty);exact⟨typeIs_int s i t,λ_ e=>nomatch e⟩
 | ref p=>
  cases r;rcases ty with⟨rfl,xs,hq⟩|⟨rfl,o,hk,hc,hd⟩|⟨rfl,hk⟩|⟨rfl,S,n,hk⟩
  ·obtain⟨ai,_,pl,_⟩:=I.list hq;refine⟨pl.isList.typeIs,λa e=>?_⟩;cases e;obtain⟨o,n,e,c,hd,_⟩:=pl;exact⟨o,e,hd⟩
  ·refine⟨⟨o,I.kIn p o hk,hc⟩,λa e=>?_⟩;cases e;exact⟨o,I.kIn _ o hk,hd⟩
  ·have z:∃o,s.heap.get? p=some o/\o.ExactDict:=by
    rcases hk with⟨kvs,hk⟩|⟨kvs,hk⟩
    ·obtain⟨_,_,_,_,o,_,_,e,ex,_⟩:=I.hok p _ hk;exact⟨o,e,ex⟩
    ·obtain⟨_,_,_,_,o,_,_,e,ex,_⟩:=I.hok p _ hk;exact⟨o,e,ex⟩
   obtain⟨o,e,ex⟩:=z;refine⟨⟨o,e,ex.1⟩,λa e2=>?_⟩;cases e2;exact⟨o,e,ex.2.1⟩
  ·obtain⟨o,_,_,_,e,ex,_⟩:=I.hok p _ hk;refine⟨⟨o,e,ex.1⟩,λa e2=>?_⟩;cases e2;exact⟨o,e,ex.2.1⟩
 |_=>exact False.elim ty
abbrev tBM(K:Frag)(T:String)(r:V->List V->Hp->VK->Prop)(to:TE)(t:TA):TE:=fun O H Q=>to O H λx H1=>tyV K T x H1/\t O H1 λxs H2=>r x xs H2 Q
variable {o e:Expr}{es:List Expr}{to:TE}{t:TA}{name:Str}{apos au:Pos}{T id:String}{r:V->List V->Hp->VK->Prop}
theorem wjx(pa:PlainAttrs T)(slot:Slot T name id)(qy:typeOf (.builtin id)=pure (.type "method_descriptor"))(hm:MtR X id r)(ho:PE X o to)(ha:PA X (e::es) t)
  (cx:autoParam (attributeBase o name X.env (eval o X.env)=eval o X.env) Ŕ)
  (fh:autoParam (((backTo au (starEach (e::es) X.env)).all (λx=>!x.1)&&(backToKw au (keywordEach [] X.env)).all (λx=>x.1.isSome)
   && decide ((e::es).length+([]:List Keyword).length+(if([]:List Keyword).isEmpty then 0 else 1)<30))=true) Ŕ)
  (cy:autoParam ((apos.endLine==au.line)=true) Ŕ) (hs:autoParam (starEach (e::es) X.env=(false,eval e X.env)::starEach es X.env) Ŕ) (bn:autoParam ((backTo au (starEach es X.env)).any (·.1)=false) Ŕ):
  PE X (.Call (.Attribute o name apos) (e::es) [] au) (tBM X.K T r to t):=by
 intro pins s O H Q I h;refine wpAny_Call_method_late cx fh cy rfl (thn (ho pins s O H _ I h) λv s1 ⟨x,H1,I1,r1,ty,q1⟩=>?_);obtain⟨h1,h2⟩:=vz0 I1 r1 ty;refine⟨T,id,pa,slot,qy,h1,h2,?_⟩;have hA:=ha au pins s1 O H1 _ I1 q1;rw[hs]at hA ⊢;refine Calls.callWith_builtin (by show(false||(backTo au (starEach es X.env)).any (·.1))=false;rw[bn]<;>rfl) (Calls.evalArgs_plain ?_);exact thn hA λus s2 ⟨vs,H2,I2,r2,q2⟩=>hm pins s2 O H2 x vs v us Q I2 r1 r2 q2
end
def MtM(X:Cx)(id:String)(r:V->List V->Hp->VK->Prop):Prop:=
 ∀(pins:List (Addr×Obj)) (s:Shared) (O:St) (H:Hp) (x:V) (xs:List V) (v:Value) (us:List Value) (Q:VK),Inv X pins O H s->RelV x v->Vals xs us->r x xs H Q ->
  wpAny (model X.prog X.w) X.A (call (.builtin id) (v::us)) (EP X pins O Q) X.xe s
theorem Vals.one:∀{x:V} {us:List Value},Vals [x] us->∃u,us=[u]/\RelV x u
 |_,_,.cons r .nil=>⟨_,rfl,r⟩
theorem Vals.eraseIdx:∀{xs:List V} {us:List Value} (i:Nat),Vals xs us->Vals (xs.eraseIdx i) (us.eraseIdx i)
 |_,_,_,.nil=>.nil|_,_,0,.cons _ t=>t|_,_,i+1,.cons r t=>.cons r (Vals.eraseIdx i t)
theorem Vals.rep{xs:List V}{us:List Value}(h:Vals xs us):∀k:Nat,Vals (List.replicate k xs).flatten (List.replicate k us).flatten
 |0=>.nil
 |k+1=>by
  rw[List.replicate_succ,List.replicate_succ,Zb,Zb];exact Vals.append h (Vals.rep h k)
theorem kwc{α:Type}:∀(l:List α) (i:Nat),(l.eraseIdx i).length<=l.length
 |[],_=>X8 _|_::_,0=>Zh _|_::r,i+1=>Nat.succ_le_succ (kwc r i)
theorem kju(ai:List Value):∀(k:Nat) (aq:List Value),
  List.foldl (λx1 x2=>x1++x2) aq.toArray (List.replicate k ai.toArray)=(aq++(List.replicate k ai).flatten).toArray
 | 0,aq=>by simp
 | k+1,aq=>by
  have e:aq.toArray++ai.toArray=(aq++ai).toArray:=by simp
  have e2:(aq++ai)++(List.replicate k ai).flatten=aq++(List.replicate (k+1) ai).flatten:=by
   rw[List.replicate_succ,Zb,Y3]
  rw[<-e2,<-kju ai k (aq++ai),<-e,List.replicate_succ,List.foldl_cons]
section
variable {X:Cx}{pins:List (Addr×Obj)}{O:St}{H:Hp}{s:Shared}{l b:Addr}{xs ys zs:List V}
theorem Inv.lset{ai its':List Value}{n:Nat}{f:Array Value->Array Value}{t':Nat}(I:Inv X pins O H s)(hH:H l=some (.lst xs))
  (e:s.heap.get? l=some { cls:=.type "list",data:=.seq ai.toArray n }) (hf:f ai.toArray=its'.toArray) (hv:Vals ys its') (hz:ys.length<=sizeLine):
  Inv X pins O (upd H l (.lst ys)) { s with heap:=s.heap.update l (Obj.mapSeq f),toks:=t' }:=by
 have q:=PySem.IsL.update e f;rw[hf]at q;refine I.write (x:=l) (e:=l) (by rw[hH];exact trivial) (.inl rfl) (λb' u hb hu=>(Z6 s.heap (Obj.mapSeq f) (Ne.symm hb)).trans hu) ⟨_,q⟩ ?_;exact⟨hz,its',_,hv,q⟩
theorem Inv.lnew{ai:List Value}{t':Nat}(I:Inv X pins O H s)(hv:Vals ys ai)(hz:ys.length<=sizeLine):
  Inv X pins O (upd H s.heap.objs.size (.lst ys)) { s with heap:=s.heap.push { cls:=.type "list",data:=.seq ai.toArray },toks:=t' }:=
 I.laid (λ_ _ q=>X3 _ q) (X8 _) ⟨hz,ai,0,hv,X6 _ rfl⟩
theorem Inv.fresh(I:Inv X pins O H s):H s.heap.objs.size=none:=I.hok.fresh (X8 _)
theorem Inv.lstM(I:Inv X pins O H s)(hH:H l=some (.lst xs)):xs.length<=sizeLine/\∃(ai:List Value) (n:Nat),Vals xs ai/\xs.length=ai.length/\s.heap.get? l=some { cls:=.type "list",data:=.seq ai.toArray n }:=by
 obtain⟨z,ai,n,r,e⟩:=I.hok l _ hH;exact⟨z,ai,n,r,r.length,e⟩
theorem vjb{n:Nat}(h:n<=sizeLine):Builtin.List.listTooLong n=false:=by
 unfold Builtin.List.listTooLong;exact Xh ⋯
end
section
variable {X:Cx}
def kxo:V->List V->Hp->VK->Prop:=λx vs H Q=>∃l xs y,x=.ref l/\vs=[y]/\H l=some (.lst xs)/\xs.length<sizeLine/\Q .non (upd H l (.lst (xs++[y])))
theorem qw7:MtM X "list.append" kxo:=by
 intro pins s O H x vs v us Q I rx rv h;obtain⟨l,xs,y,rfl,rfl,hH,hz,q⟩:=h;cases rx;obtain⟨u,rfl,ru⟩:=rv.one;obtain⟨z,ai,n,r,hl,e⟩:=I.lstM hH;refine call_meets F.slot_list_append ⟨_,e,rfl⟩ F.entry_list_append (F.args_list_append_2 _ _) (PySem.list_append l ai.toArray n u (by rw[X5];omega)) ⟨e,?_⟩;refine⟨.non,_,I.lset (its':=ai++[u]) hH e (by simp) (r.append (.cons ru .nil)) ?_,rfl,q⟩;rw[Xj,Yk];omega
def vko:V->List V->Hp->VK->Prop:=λx vs H Q=>∃l xs i k y,x=.ref l/\vs=[.int i]/\H l=some (.lst xs)/\-(2 ^ 63)<=i/\i<2 ^ 63/\seqIndex? i xs.length=some k/\xs[k]?=some y/\Q y (upd H l (.lst (xs.eraseIdx k)))
theorem vje:MtM X "list.pop" vko:=by
 intro pins s O H x vs v us Q I rx rv h;obtain⟨l,xs,i,k,y,rfl,rfl,hH,h1,h2,hk,hy,q⟩:=h;cases rx;obtain⟨u,rfl,ru⟩:=rv.one;obtain⟨t,rfl⟩:=ru;obtain⟨z,ai,n,r,hl,e⟩:=I.lstM hH;obtain⟨w,hw,iy⟩:=r.get hy;refine call_meets F.slot_list_pop ⟨_,e,rfl⟩ F.entry_list_pop (F.args_list_pop_2 _ _)
  (MeetsSeq.list_pop_at l ai.toArray n i t k w (fitsIndex_both h1 h2) (by rw[X5,<-hl];exact hk) (by rw[<-Yb];exact hw) (by rw[X5];omega)) ⟨e,?_⟩
 refine⟨y,_,I.lset (its':=ai.eraseIdx k) hH e ?_ (r.eraseIdx k) ?_,iy,q⟩
 ·show ai.toArray.eraseIdxIfInBounds k=(ai.eraseIdx k).toArray;rw[List.eraseIdxIfInBounds_toArray]
 ·have:=kwc xs k;omega
theorem qwf{α:Type}(xs:List α)(k:Nat):(List.replicate k xs).flatten.length=k*xs.length:=by
 induction k with|zero=>simp|succ k ih=>rw[List.replicate_succ,Zb,Xj,ih,Nat.succ_mul,Nat.add_comm]
end
end L2
namespace Att
open PySem PySem.W PySem.Calls PyProof.Rows
theorem kjq{P:Params}{h:Heap}:∀(ns:List Int) (vs:List Value),WellAll P h vs (ns.map WData.int)->IntsAre vs ns:=by
 intro ns
 induction ns with
 | nil=>
  intro vs w;rw[List.map_nil]at w;cases w;exact .nil
 | cons n ns ih=>
  intro vs w;rw[List.map_cons]at w;cases w with
  |cons a b=>
   cases a;exact .cons _ _ (ih _ b)
theorem script_of{l : OpenLaw}{n : Nat}(hn : l.most = some n){P : Params}{h : Heap}{args : List WData}{cq : List Value}
    (ly : l.row.toRowW.claim.pre args = true) (hwl : WellAll P h cq args):
    ∃ a vs ns, cq = [Value.ref a] /\ args = [WData.list (ns.map WData.int)] /\ h.get? a = some { cls:= .type "list", data:= .seq vs.toArray } /\ IntsAre vs ns /\ ns.length<=n:= by
  have hsh : WShape.hasAll [] args [.list .int] = true:= (pre_splitW ly).1;have hc : l.pre.holds [] { args:= args } = true:= (pre_splitW ly).2;obtain⟨d, r, rfl, h1, h2⟩:= hasAllW_cons hsh;obtain rfl:= hasAllW_nil h2;obtain⟨xs, rfl, h3⟩:= hasW_list h1;obtain⟨ns, rfl⟩:= items_int h3;have av : ns.length<=n:= by
    unfold OpenLaw.pre at hc;have h4 : (WTm.not (.lt (.lit (.int (n : Int))) (.len (.arg 0)))).holds [] { args:= [.list (ns.map .int)] } = true:= by
      have h4:= (holds_andW hc).1;rw[hn]at h4;exact h4
    have h5:= condW_of h4 (w_not (w_lt w_lit (w_len_list (w_arg rfl))));rw[X4]at h5;refine Nat.le_of_not_lt λq=> ?_
    have q' : (n : Int)<((ns.length : Nat): Int):= by omega
    first
      |(rw[Xl q']at h5; exact absurd h5 ⋯)
      |(simp at h5; omega)
  cases hwl with
  | cons w1 w2=>
    cases w2;cases w1 with|list ho mr=>exact⟨_, _, ns, rfl, rfl, ho, kjq ns _ mr, av⟩
theorem post_true(l:OpenLaw)(args:List WData):l.row.toRowW.claim.post args (.bool true) args=true:=
 postW_of (r:=l.row.toRowW) (X:=(true==true))
  (show WShape.has [] (.bool true) .bool=true by first|rfl|decide|simp[WShape.has,WShape.arms,WShape.armsAll])
  (show(WTm.eq .res (.lit (.bool true))).value [] { args:=args,res:=some (.bool true),after:=args }=some (.bool (true==true))from w_eq_bool (w_res rfl) w_lit) rfl
end Att
namespace L2
open PySem PySem.Spec PyProof.Rows
def wxh(H:Hp):Prop:=∀b,H b=none\/∃o xs,H b=some (.frz o (.lst xs))
def QK(s:Stmt):Arguments:=match s with
 |.FunctionDef _ a _ _ _ _ _ _ _ _=>a|_=>{ posonlyargs:=[],args:=[],vararg:=none,kwonlyargs:=[],kw_defaults:=[],kwarg:=none,defaults:=[] }
def Q0(s:Stmt):List Stmt:=match s with
 |.FunctionDef _ _ b _ _ _ _ _ _ _=>b|_=>[]
def kW(s:Stmt):Scope:=match s with
 |.FunctionDef _ _ _ _ _ _ sc _ _ _=>sc|_=>{ kind:=.function,names:=[],isGenerator:=false,isCoroutine:=false }
structure Fun (K:Frag)(x qual:Str)(st:Stmt)(f:Addr)(fd:FuncData):Prop where
 ex:∃(oc:Value) (od:Option Addr) (kV gh pm:Value) (an:Option Addr) (bi ct:Value) (lx:Array (Option Value)),
  fd=PySem.W.fnOf x qual (QK st) (Q0 st) (kW st) .none kV gh pm an bi ct/\K.lookup f=some ⟨oc,od,.func fd,lx⟩/\PySem.W.codeIn K bi qual=true
 kp:PySem.W.keepIn K (.ref f)=true
section
variable {P:Program}{w:World}{K:Frag}{mg:Str->Option Value}{base:Heap}
theorem Fun.binds{x qual:Str}{st:Stmt}{f:Addr}{fd:FuncData}{ps:List Str}(F:Fun K x qual st f fd)
  (h:∀(kV gh pm:Value) (an:Option Addr) (bi ct:Value) (us:List Value),us.length=ps.length->bindArgs (PySem.W.fnOf x qual (QK st) (Q0 st) (kW st) .none kV gh pm an bi ct) ⟨us,[]⟩=pure (ps.zip us)):Binds K fd ps []:=by
 obtain⟨oc,od,kV,gh,pm,an,bi,ct,lx,rfl,lk,i9⟩:=F.ex;exact .all (h kV gh pm an bi ct)
theorem qx3{x qual:Str}{st:Stmt}{f:Addr}{oc:Value}{od an:Option Addr}{lx:Array (Option Value)}{kV gh pm bi ct:Value}(l:K.lookup f=some ⟨oc,od,.func (PySem.W.fnOf x qual (QK st) (Q0 st) (kW st) .none kV gh pm an bi ct),lx⟩)
  (c:PySem.W.codeIn K bi qual=true) (k:PySem.W.keepIn K (.ref f)=true):Fun K x qual st f (PySem.W.fnOf x qual (QK st) (Q0 st) (kW st) .none kV gh pm an bi ct):=⟨⟨oc,od,kV,gh,pm,an,bi,ct,lx,rfl,l,c⟩,k⟩
end
section
variable {X:Cx}
theorem pv(i:Nat){x:Str}{pos:Pos}(hN:autoParam (X.N[i]?=some x) Ŕ)(hv:autoParam (Vis X.env.scope x) ř)(hd:autoParam ((x==("__debug__":Str))=false) ŕ)
  (i9:autoParam ((x==("__classdict__":Str))=false) ŕ):PE X (.Name x pos) (JX i):=wjt hN hv hd i9
end
def k4(H H':Hp):Prop:=∀b o,H b=some o->H' b=some o
section
variable {κ:Type}[DecidableEq κ]
def J8(kvs:List (κ×V))(k:κ):Option V:=(kvs.find? λkv=>decide (kv.1=k)).map (·.2)
def wv7(kvs:List (κ×V))(k:κ)(v:V):List (κ×V):=
 if(kvs.any λkv=>decide (kv.1=k))=true then kvs.map (λkv=>if kv.1=k then(kv.1,v)else kv)else kvs++[(k,v)]
theorem kzo{p:κ×V}{r:List (κ×V)}{k:κ}(e:p.1=k):J8 (p::r) k=some p.2:=by simp[J8,Ym,e]
theorem kzp{p:κ×V}{r:List (κ×V)}{k:κ}(e:¬p.1=k):J8 (p::r) k=J8 r k:=by simp[J8,Ym,e]
theorem RelO.isSome_eq{o:Option V}{u:Option Value}(r:RelO o u):o.isSome=u.isSome:=by
 cases o with
 |none=>cases u with|none=>rfl|some _=>exact(show False from r).elim
 |some _=>cases u with|none=>exact(show False from r).elim|some _=>rfl
theorem KV.val{kvs:List (κ×V)}{vs:List (κ×Value)}(r:KV kvs vs)(k:κ):RelO (J8 kvs k) (valueAt vs k):=by
 unfold KV at r
 induction r with
 | nil=>exact True.intro
 | @cons p q ps qs h t ih=>
  obtain⟨h1,h2⟩:=h
  by_cases e:p.1=k
  ·have e':q.1=k:=h1.symm.trans e;have b:valueAt (q::qs) k=some q.2:=by simp[valueAt,Ym,e']
   rw[kzo e,b];exact h2
  ·have e':¬q.1=k:=λz=>e (h1.trans z)
   have b:valueAt (q::qs) k=valueAt qs k:=by simp[valueAt,Ym,e']
   rw[kzp e,b];exact ih
theorem KV.any{kvs:List (κ×V)}{vs:List (κ×Value)}(r:KV kvs vs)(k:κ):(kvs.any λkv=>decide (kv.1=k))=vs.any λkv=>decide (kv.1=k):=by
 unfold KV at r
 induction r with|nil=>rfl|cons h t ih=>rw[List.any_cons,List.any_cons,ih,h.1]
theorem KV.repl{kvs:List (κ×V)}{vs:List (κ×Value)}(r:KV kvs vs)(k:κ){y:V}{u:Value}(ry:RelV y u):
  KV (kvs.map λkv=>if kv.1=k then(kv.1,y)else kv) (vs.map λkv=>if kv.1=k then(kv.1,u)else kv):=by
 unfold KV at r ⊢
 induction r with
 |nil=>exact .nil
 |@cons p q ps qs h t ih=>
  rw[List.map_cons,List.map_cons];refine .cons ?_ ih;obtain⟨h1,h2⟩:=h
  by_cases e:p.1=k
  ·rw[X9 e,X9 (h1.symm.trans e)];exact⟨h1,ry⟩
  ·rw[Xb e,Xb (λz=>e (h1.trans z))];exact⟨h1,h2⟩
theorem KV.put{kvs:List (κ×V)}{vs:List (κ×Value)}(r:KV kvs vs)(k:κ){y:V}{u:Value}(ry:RelV y u):KV (wv7 kvs k y) (stored vs k u):=by
 unfold wv7 stored;rw[r.any k]
 by_cases e:(vs.any λkv=>decide (kv.1=k))=true
 ·rw[X9 e,X9 e];exact r.repl k ry
 ·rw[Xb e,Xb e];exact Paired.snoc r ⟨rfl,ry⟩
theorem KV.length{kvs:List (κ×V)}{vs:List (κ×Value)}(r:KV kvs vs):kvs.length=vs.length:=Paired.length r
end
theorem vjj{P:Program}{w:World}{k:Key}{u:Value}(r:RelV (kV k) u):(z3 P w).is k u=true:=by
 cases k with|inl i=>obtain⟨t,e⟩:=(show ∃t,u=Value.int i t from r);subst e;exact kz2 P w i t|inr x=>obtain⟨t,e⟩:=(show ∃t,u=Value.str x t from r);subst e;exact kz1 P w x t
theorem kwh{P:Program}{w:World}:∀{ks:List Key} {us:List Value},Vals (ks.map kV) us->ItemsAre (z3 P w) ks us
 |[],_,r=>by rw[List.map_nil]at r;cases r;exact .nil
 |k::ks,_,r=>by
  rw[List.map_cons]at r;cases r with|cons h t=>exact .cons (vjj h) (kwh t)
abbrev KT(H:Hp):List (List Key×V)->List (List Key×Addr×Value)->Prop:=Paired λp q=>p.1=q.1/\H q.2.1=some (.tup (p.1.map kV))/\RelV p.2 q.2.2
theorem KT.val{H:Hp}{kvs:List (List Key×V)}{xs:List (List Key×Addr×Value)}(r:KT H kvs xs)(k:List Key):RelO (J8 kvs k) ((atKey xs k).map (·.2)):=by
 induction r with
 | nil=>exact True.intro
 | @cons p q ps qs h t ih=>
  obtain⟨h1,_,h2⟩:=h
  by_cases e:p.1=k
  ·have e':q.1=k:=h1.symm.trans e;have b:atKey (q::qs) k=some q.2:=by simp[atKey,Ym,e']
   rw[kzo e,b];exact h2
  ·have e':¬q.1=k:=λz=>e (h1.trans z)
   have b:atKey (q::qs) k=atKey qs k:=by simp[atKey,Ym,e']
   rw[kzp e,b];exact ih
section
variable {P:Program}{w:World}{H:Hp}{h:Heap}{a:Addr}
theorem qzq{u:HO}(ok:HOk P w H h)(e:Rd H a u):ObjOk P w H h a u:=e.ok ok
theorem vjy{kvs:List (Key×V)}(ok:HOk P w H h)(e:Rd H a (.dK kvs)):kvs.length<=sizeLine/\(a==sysModules)=false/\∃vs,KV kvs vs/\h.DictOf (z3 P w) a vs:=
 show ObjOk P w H h a (.dK kvs)from qzq ok e
theorem qwq{ks:List Key}(ok:HOk P w H h)(e:H a=some (.tup (ks.map kV))):(tupleKind (z3 P w)).is h ks a:=by
 obtain⟨_,ai,r,o,h1,h2,_,n,h3⟩:=(show ObjOk P w H h a (.tup (ks.map kV))from ok a _ e);exact⟨o,ai.toArray,n,h1,h2,h3,by simpa using kwh r⟩
theorem vx0{kvs:List (List Key×V)}(ok:HOk P w H h)(e:Rd H a (.dT kvs)):kvs.length<=sizeLine/\(a==sysModules)=false /\
  ∃ xs,KT H kvs xs/\h.DictOfH (tupleKind (z3 P w)) a xs:=by
 obtain⟨z,y,xs,r,o,es,ep,h1,h2,h3,h4,h5⟩:=(show ObjOk P w H h a (.dT kvs)from qzq ok e);refine⟨z,y,xs,r,o,es,ep,h1,h2,h3,h4,λx hx=>?_,h5⟩;have all:∀{l:List (List Key×V)} {m:List (List Key×Addr×Value)},KT H l m->∀x∈m,(tupleKind (z3 P w)).is h x.1 x.2.1:=by
  intro l m q
  induction q with
  | nil=>intro x hx;exact nomatch hx
  | @cons p q ps qs hq t ih=>
   intro x hx;rcases aD hx with e|hx
   ·subst e;exact qwq ok (by rw[<-hq.1];exact hq.2.1)
   ·exact ih x hx
 exact all r x hx
end
def DGet(H:Hp)(a:Addr)(y:V)(r:Option V):Prop:=
 (∃kvs k,Rd H a (.dK kvs)/\y=kV k/\r=J8 kvs k)\/∃kvs k b,Rd H a (.dT kvs)/\y=.ref b/\H b=some (.tup (k.map kV))/\r=J8 kvs k
theorem DGet.k{H:Hp}{a:Addr}{kvs:List (Key×V)}{k:Key}(e:H a=some (.dK kvs)):DGet H a (kV k) (J8 kvs k):=.inl ⟨kvs,k,.inl e,rfl,rfl⟩
section
variable {X:Cx}{pins:List (Addr×Obj)}{O:St}{H:Hp}{s:Shared}{a:Addr}{y v:V}{u r:Value}{o:Option V}{A:Around}{E:Value->Shared->Prop}
theorem Inv.big(I:Inv X pins O H s):sysModules<s.heap.objs.size:=by
 have h:mainGlobals<s.heap.objs.size:=(I.mod.glob.keeps I.bk).lt;exact Nat.lt_trans ⋯ h
theorem qxi{Q:Value->Shared->Prop}(hu:A.units+1<cLine)(I:Inv X pins O H s)(g:DGet H a y (some v))(ry:RelV y u)(h:∀w' s',Inv X pins O H s'->RelV v w'->Q w' s'):
  wpAny (model X.prog X.w) A (getItem (.ref a) u) Q E s:=by
 rcases g with⟨kvs,k,e,ey,l⟩|⟨kvs,k,b,e,ey,eb,l⟩
 ·subst ey;obtain⟨z,hd,vs,i4,dd⟩:=vjy I.hok e;obtain⟨w',hw,iy⟩:=RelO.some_of (v:=v) (o:=valueAt vs k) (by rw[l];exact i4.val k);exact wpAny_getItem_of (vjj ry) dd.mapOf hw (h w' _ (I.tok _) iy)
 ·subst ey;cases(show u=Value.ref b from ry);obtain⟨z,hd,xs,i4,dd⟩:=vx0 I.hok e;obtain⟨w',hw,iy⟩:=RelO.some_of (v:=v) (o:=(atKey xs k).map (·.2)) (by rw[l];exact i4.val k);obtain⟨p,hp,hp2⟩:=Option.map_eq_some_iff.mp hw;refine wpAny_getItem_heap (tupleKind_room_in1 hu) (qwq I.hok eb) dd hp ?_;rw[hp2];exact h w' _ (I.tok _) iy
theorem d_in{Q:Value->Shared->Prop}(hu:A.units+1<cLine)(I:Inv X pins O H s)(g:DGet H a y o)(ry:RelV y u)(h:∀s',Inv X pins O H s'->Q (.bool o.isSome) s'):
  wpAny (model X.prog X.w) A (compareOp .In u (.ref a)) Q E s:=by
 rcases g with⟨kvs,k,e,ey,l⟩|⟨kvs,k,b,e,ey,eb,l⟩
 ·subst ey;obtain⟨z,hd,vs,i4,dd⟩:=vjy I.hok e;refine wpAny_in_of (vjj ry) hd dd.mapOf ?_;rw[<-(i4.val k).isSome_eq,<-l];exact h _ (I.tok _)
 ·subst ey;cases(show u=Value.ref b from ry);obtain⟨z,hd,xs,i4,dd⟩:=vx0 I.hok e;refine wpAny_in_heap (tupleKind_room_in1 hu) (qwq I.hok eb) hd dd ?_;have q:=(i4.val k).isSome_eq;rw[Option.isSome_map]at q;rw[<-q,<-l];exact h _ (I.tok _)
theorem qxh{h':Heap}{t':Nat}{ob:HO}(I:Inv X pins O H s)(mu:Mut (H a))(hs:Heap.SameBut a s.heap h')(he:∃q,h'.get? a=some q)(new:ObjOk X.prog X.w (upd H a ob) h' a ob):
  Inv X pins O (upd H a ob) { s with heap:=h',toks:=t' }:=
 I.write (x:=a) (e:=a) mu (.inl rfl) (λb q hb z=>(hs.2 b hb).trans z) he new
theorem wqf{P:Program}{w:World}{H':Hp}{h':Heap}{kvs:List (Key×V)}{vs:List (Key×Value)}(z:kvs.length<=sizeLine)(hd:(a==sysModules)=false)(i4:KV kvs vs)(dd:h'.DictOf (z3 P w) a vs):
  ObjOk P w H' h' a (.dK kvs):=⟨z,hd,vs,i4,dd⟩
end
section
variable {X:Cx}{pins:List (Addr×Obj)}{O:St}{H:Hp}{s:Shared}{a:Addr}{kvs:List (Key×V)}{k:Key}{u:Value}{A:Around}{E:Value->Shared->Prop}
theorem wx8{Q:Value->Shared->Prop}(I:Inv X pins O H s)(e:Rd H a (.dK kvs))(h:∀t s',Inv X pins O H s'->Q (.int kvs.length t) s'):wpAny (model X.prog X.w) A (call (.builtin "len") [.ref a]) Q E s:=by
 obtain⟨z,hd,vs,i4,dd⟩:=vjy I.hok e;refine call_len_dict hd dd (by rw[<-i4.length];rw[sizeLine_eq]at z;omega) ?_;rw[<-i4.length];exact h _ _ (I.tok _)
end
def wxi(i:Expr):Prop:=∀ov iv,subscripted i false ov iv=operate [ov,iv] (getItem ov iv)
theorem vqx{prog:Program}{w:World}{A:Around}{E:Value->Shared->Prop}{s:Shared}{env:Env}{value slice:Expr}{pos:Pos}{T id:String}{Q:Value->Shared->Prop}
  (hl:typeLookup (.type T) "__getitem__"=pure (some (.builtin id))) (hs:wxi slice)
  (h:wpAny (model prog w) A (eval value env) (λo s₁=>wpAny (model prog w) A (eval slice env) (λi s₂=>s₂.TypeIs o T/\wpAny (model prog w) A (getItem o i) Q E s₂) E s₁) E s):
  wpAny (model prog w) A (eval (.Subscript value slice pos) env) Q E s:=by
 refine Subscript_ (Zi h (λo s₁ h₁=>Zi h₁ (λi s₂ h₂=>?_) λ_ _ x=>x) λ_ _ x=>x);obtain⟨hT,h₂⟩:=h₂;unfold subscriptTail;refine X0 ?_;rw[getitemInPython_of_ne hT.not_modules];refine X0 (Z2 hT hl ?_);have fin:wpAny (model prog w) A (subscripted slice false o i) (λr s₃=>wpAny (model prog w) A (letTemporaryGo value o r >>= λ_=>pure r) Q E s₃) E s₂:=by
  rw[hs o i];exact wpAny_operating (Zi h₂ (λr s₃ h₃=>X0 (wpAny_letTemporaryGo (X1 h₃))) λ_ _ x=>x)
 first
  |exact X1 (X0 fin)
  |exact X0 (X1 (X0 fin))
  |exact X0 fin
theorem kzd{X:Cx}{pins:List (Addr×Obj)}{O:St}{H:Hp}{s:Shared}{a:Addr}{y:V}{o:Option V}(I:Inv X pins O H s)(g:DGet H a y o):s.TypeIs (.ref a) "dict":=by
 rcases g with⟨kvs,k,e,_,_⟩|⟨kvs,k,b,e,_,_,_⟩
 ·obtain⟨_,_,vs,_,dd⟩:=vjy I.hok e;exact dd.typeIs
 ·obtain⟨_,_,xs,_,dd⟩:=vx0 I.hok e;exact dd.typeIs
abbrev wvl(td ty:TE):TE:=fun O H Q=>td O H λx H1=>ty O H1 λy H2=>∃a v,x=.ref a/\DGet H2 a y (some v)/\Q v H2
section
variable {X:Cx}{o i e value:Expr}{pos bz i8:Pos}{td ty tv:TE}
theorem vvt(hu:X.A.units+1<cLine)(ho:PE X o td)(hi:PE X i ty)(hs:wxi i):PE X (.Subscript o i pos) (wvl td ty):=by
 intro pins s O H Q I h;refine vqx PySem.F.slot_dict_getitem.lookup hs (thn (ho pins s O H _ I h) λu s1 ⟨x,H1,I1,rx,q1⟩=>thn (hi pins s1 O H1 _ I1 q1) λiv s2 ⟨y,H2,I2,ry,a,v,ex,g,q2⟩=>?_);subst ex;obtain rfl:u=Value.ref a:=rx;exact⟨kzd I2 g,qxi hu I2 g ry λw' s3 I3 iy=>⟨v,H2,I3,iy,q2⟩⟩
end
def vkj:List (TE×TE)->St->Hp->(List (V×V)->Hp->Prop)->Prop
 |[],_,H,Q=>Q [] H|(tk,tv)::r,O,H,Q=>tk O H λx H1=>tv O H1 λy H2=>vkj r O H2 λps H3=>Q ((x,y)::ps) H3
abbrev VV:List (V×V)->List (Value×Value)->Prop:=Paired λp q=>RelV p.1 q.1/\RelV p.2 q.2
noncomputable def PPs(X:Cx)(pos:Pos)(keys:List (Option Expr))(n8:List Expr)(trs:List (TE×TE)):Prop:=
 ∀(pins:List (Addr×Obj)) (s:Shared) (O:St) (H:Hp) (Q:List (V×V)->Hp->Prop),Inv X pins O H s->vkj trs O H Q ->
  wpAny (model X.prog X.w) X.A (evalPairs (pairTrees keys n8 X.env pos)) (λvs s'=>∃ps H',Inv X pins O H' s'/\VV ps vs/\Q ps H') X.xe s
theorem vvl{X:Cx}{pos:Pos}:PPs X pos [] [] []:=λpins s O H Q I h=>pairTrees_nil_walk ⟨[],H,I,.nil,h⟩
theorem vj1{X:Cx}{pos:Pos}{k v:Expr}{ks:List (Option Expr)}{vs:List Expr}{tk tv:TE}{trs:List (TE×TE)}(hk:PE X k tk)(hv:PE X v tv)(hr:PPs X pos ks vs trs):
  PPs X pos (some k::ks) (v::vs) ((tk,tv)::trs):=λpins s O H Q I h=>
 pairTrees_cons_walk (thn (hk pins s O H _ I h) λu s1 ⟨x,H1,I1,rx,q1⟩=>thn (hv pins s1 O H1 _ I1 q1) λw2 s2 ⟨y,H2,I2,ry,q2⟩=>
  thn (hr pins s2 O H2 _ I2 q2) λws s3 ⟨ps,H3,I3,i4,q3⟩=>⟨(x,y)::ps,H3,I3,.cons ⟨rx,ry⟩ i4,q3⟩)
structure M2 (X:Cx)(o:Expr)(m:Str)(apos:Pos)(e f:Expr)(au:Pos):Prop where
 base:attributeBase o m X.env (eval o X.env)=eval o X.env
 few:((backTo au (starEach [e,f] X.env)).all (λx=>!x.1)&&(backToKw au (keywordEach [] X.env)).all (λx=>x.1.isSome)
  && decide (([e,f]:List Expr).length+([]:List Keyword).length+(if([]:List Keyword).isEmpty then 0 else 1)<30))=true
 line:(apos.endLine==au.line)=true
 trees:backTo au (starEach [e,f] X.env)=[(false,eval e X.env),(false,eval f X.env)]
section
variable {X:Cx}
theorem qxq:CallR X (.builtin "len") (λxs H Q=>∃a kvs,xs=[V.ref a]/\H a=some (.dK kvs)/\Q (.int kvs.length) H):=by
 intro pins s O H xs us Q I r h;obtain⟨a,kvs,rfl,ha,q⟩:=h;obtain⟨u,rfl,ru⟩:=zW r;cases ru;exact wx8 I (.inl ha) λt s' I'=>⟨.int kvs.length,H,I',⟨t,rfl⟩,q⟩
end
end L2
set_option maxHeartbeats 4000000
namespace L3
open PySem PySem.Spec PyProof.Rows L2
abbrev qwi(dq:List Expr)(env:Env):Sem Bool:=
 forIn dq true λc r=>if r=true then do let ok <-isTrue c env (eval c env);pure (ForInStep.yield ok)else pure (ForInStep.yield r)
theorem jw8 (env : Env): ∀(l : List (Str × NameKind)) (cs : List (Str × Addr)), (∀y ∈ l, y.2 = .free -> ∃c, env.cells.lookup y.1 = some c) ->
    (∀x c, cs.lookup x = some c -> env.cells.lookup x = some c) ->
    ∃ cl, (forIn l cs (λ(x : Str × NameKind) (r : List (Str × Addr))=>if(x.2==NameKind.free) = true then do let a <-cellOf env x.1; pure (ForInStep.yield ((x.1, a)::r))else pure (ForInStep.yield r)): Sem (List (Str × Addr))) = pure cl /\
      (∀x c, cl.lookup x = some c -> env.cells.lookup x = some c) /\ (∀x c, cs.lookup x = some c -> ∃c', cl.lookup x = some c') /\ ∀y ∈ l, y.2 = .free -> ∃c, cl.lookup y.1 = some c
  | [], cs, _, hs=>⟨cs, rfl, hs, λx c h=>⟨c, h⟩, λ_ h=>nomatch h⟩
  | (n, k)::r, cs, hl, hs=>by
    by_cases hk : k = .free
    · subst hk
      obtain⟨c, hc⟩:= hl (n, .free) X7 rfl;have gw : ∀x d, ((n, c)::cs).lookup x = some d -> env.cells.lookup x = some d:= λx d h=>by
        rw[Yy]at h;cases hx : x==n with
        | true=>
          rw[hx]at h;have e : x = n:= by simpa using hx
          have e2 : c = d:= by simpa using h
          subst e; subst e2;exact hc
        | false=>rw[hx]at h; exact hs x d h
      obtain⟨cl, e, a, b, d⟩:= jw8 env r ((n, c)::cs) (λy hy=>hl y (lc9 _ hy)) gw;refine⟨cl, ?_, a, λx c' h=> ?_, λy hy hf=> ?_⟩
      · rw[List.forIn_cons]
        have q : cellOf env n = pure c:= by unfold cellOf; rw[hc]
        simp only[beq_self_eq_true, if_true, q, pure_bind];exact e
      · cases hx : x==n with| true=>exact b x c (by rw[Yy, hx])| false=>exact b x c' (by rw[Yy, hx]; exact h)
      · rcases aD hy with z|z
        · subst z
          exact b n c (by rw[Yy]; simp)
        · exact d y z hf
    · obtain⟨cl, e, a, b, d⟩:= jw8 env r cs (λy hy=>hl y (lc9 _ hy)) hs
      refine⟨cl, ?_, a, b, λy hy hf=> ?_⟩
      · rw[List.forIn_cons]
        have q : (k==NameKind.free) = false:= by simpa using hk
        simp only[q, Bool.false_eq_true, if_false, pure_bind];exact e
      · rcases aD hy with z|z
        · subst z
          exact absurd hf hk
        · exact d y z hf
theorem kq7{scope:Scope}{env:Env}(h:∀y∈scope.names,y.2=.free->∃c,env.cells.lookup y.1=some c):
  ∃cl,closureFor scope env=pure cl/\(∀x c,cl.lookup x=some c->env.cells.lookup x=some c)/\∀y∈scope.names,y.2=.free->∃c,cl.lookup y.1=some c:=by
 obtain⟨cl,e,a,_,d⟩:=jw8 env scope.names [] h (λx c h=>nomatch h);refine⟨cl,?_,a,d⟩;unfold closureFor;have e':=congrArg (λt:Sem (List (Str×Addr))=>t >>= pure) e
 simpa using e'
def lcX(X:Cx)(scope:Scope)(N:List Str)(cl:List (Str×Addr))(C:Addr)(s0:Shared)(H0:Hp)(fp:List Addr):Cx:=
 { X with N:=N,s₀:=s0,H₀:=H0,env:=compEnvC scope cl C X.env,outer:=X.stack,ex:=fp,fn:=λ_=>false,pn:=[],xe:=λ_ _=>False }
def JK(k:Nat)(R:List Nat)(O:L2.St):L2.St:=List.replicate k none++R.map λj=>(O[j]?).join
structure LcOk (X:Cx)(scope:Scope)(N:List Str)(k:Nat)(R:List Nat):Prop where
 kind:scope.kind=.function
 nocell:∀y∈scope.names,y.2≠.cell
 names:∀y∈scope.names,y.2=.local->scope.names.lookup y.1=some .local
 caps:∀y∈scope.names,y.2=.free->X.env.kindOf y.1=some .cell\/X.env.kindOf y.1=some .free
 len:N.length=k+R.length
 outs:∀i j x,R[i]?=some j->N[k+i]?=some x->X.N[j]?=some x/\scope.names.lookup x=some .free
noncomputable def KW(XN:List Str)(sc scope:Scope)(N:List Str)(k:Nat)(R:List Nat):Bool:=
 scope.names.all (λy=>y.2 != .cell)&&scope.names.all (λy=>y.2 != .local||scope.names.lookup y.1==some .local) &&
 scope.names.all (λy=>y.2 != .free||(sc.names.lookup y.1==some .cell||sc.names.lookup y.1==some .free)) &&
 (N.length==k+R.length)&&(R.zip (N.drop k)).all (λp=>XN[p.1]? == some p.2&&scope.names.lookup p.2==some .free)
theorem qjh{X:Cx}{scope:Scope}{N:List Str}{k:Nat}{R:List Nat}(hk:scope.kind=.function)(h:KW X.N X.env.scope scope N k R=true):LcOk X scope N k R:=by
 unfold KW at h;simp only[Bool.and_eq_true,Ze,bne_iff_ne,Bool.or_eq_true,beq_iff_eq]at h;obtain⟨⟨⟨⟨h1,h2⟩,h3⟩,h4⟩,h5⟩:=h;refine⟨hk,λy hy=>h1 y hy,λy hy e=>(h2 y hy).resolve_left (λz=>z e),λy hy e=>(h3 y hy).resolve_left (λz=>z e),h4,λi j x e1 e2=>?_⟩;have m:(j,x)∈R.zip (N.drop k):=by
  refine List.mem_of_getElem? (i:=i) ?_;rw[List.getElem?_zip_eq_some];exact⟨e1,by rw[List.getElem?_drop];exact e2⟩
 exact h5 (j,x) m
theorem jkj {env : Env} {x : Str} {q : NameKind}: ∀{names : List (Str × NameKind)}, (names.map λ(n, k)=>if(k==NameKind.free&&env.scope.kind == .function&&env.kindOf n==some .cell)then(n, NameKind.cell)else(n, k)).lookup x = some q ->
    (x, q) ∈ names \/ (q = .cell /\ (x, NameKind.free) ∈ names)
  | [], h=>nomatch h
  | (n, k)::r, h=>by
    have h : List.lookup x ((if(k==NameKind.free&&env.scope.kind == .function&&env.kindOf n==some .cell) = true then(n, NameKind.cell)else(n, k))::(r.map λ(n, k)=>if(k==NameKind.free&&env.scope.kind == .function&&env.kindOf n==some .cell)then(n, NameKind.cell)else(n, k))) = some q:= h
    by_cases hc : (k==NameKind.free&&env.scope.kind == .function&&env.kindOf n==some .cell) = true
    · rw[X9 hc, Yy]at h
      cases hx : x==n with
      | true=>
        rw[hx]at h;have e : x = n:= by simpa using hx
        have e2 : NameKind.cell = q:= by simpa using h
        subst e;simp only[Bool.and_eq_true, beq_iff_eq]at hc;obtain⟨⟨e3, _⟩, _⟩:= hc;subst e3;exact .inr ⟨e2.symm, X7⟩
      | false=>
        rw[hx]at h;rcases jkj (names:= r) h with z|⟨z, y⟩
        · exact .inl (lc9 _ z)
        · exact .inr ⟨z, lc9 _ y⟩
    · rw[Xb hc, Yy]at h
      cases hx : x==n with
      | true=>
        rw[hx]at h;have e : x = n:= by simpa using hx
        have e2 : k = q:= by simpa using h
        subst e; subst e2;exact .inl X7
      | false=>
        rw[hx]at h;rcases jkj (names:= r) h with z|⟨z, y⟩
        · exact .inl (lc9 _ z)
        · exact .inr ⟨z, lc9 _ y⟩
section
variable {X:Cx}{pins:List (Addr×Obj)}{O:L2.St}{H:Hp}{s:Shared}
theorem wkj{scope:Scope}{N:List Str}{k:Nat}{R:List Nat}{cl:List (Str×Addr)}{C:Addr}(sc:LcOk X scope N k R)(bp:∀y∈scope.names,y.2=.free->∃c,cl.lookup y.1=some c)
  {x:Str} (h:(compEnvC scope cl C X.env).kindOf x=some .cell\/(compEnvC scope cl C X.env).kindOf x=some .free):∃c,cl.lookup x=some c:=by
 rcases h with h|h
 ·rcases jkj (env:=X.env) (names:=scope.names) h with z|⟨_,z⟩
  ·exact absurd rfl (sc.nocell _ z)
  ·exact bp _ z rfl
 ·rcases jkj (env:=X.env) (names:=scope.names) h with z|⟨z,_⟩
  ·exact bp _ z rfl
  ·cases z
theorem wkk{scope:Scope}{N:List Str}{k:Nat}{R:List Nat}{cl:List (Str×Addr)}{C:Addr}{fp:List Addr}(I:Inv X pins O H s)(sc:LcOk X scope N k R)(hf:∀b∈fp,wK X pins H b)(ho:∀b∈fp,∃o,s.heap.get? b=some o)
  (hC:s.heap.objs.size<=C) (dy:∀x c,cl.lookup x=some c->X.env.cells.lookup x=some c) (bp:∀y∈scope.names,y.2=.free->∃c,cl.lookup y.1=some c):(lcX X scope N cl C s H fp).Ok where
 mod:=I.ok.mod
 kind:=sc.kind
 glob:=I.ok.glob
 blt:=I.ok.blt
 above:=hC
 inj:=λx y c h1 h2=>I.ok.inj x y c (dy _ _ h1) (dy _ _ h2)
 has:=λx h=>wkj sc bp h
 cab:=λx c h=>by cases h
 hd:=I.ok.hd
 frames:=I.ok.frames
 stk:=.inl rfl
 exf:=λb hb=>by
  obtain⟨o,e⟩:=ho b hb;exact⟨Xg (Xf (Xa e) hC),λx c h=>(hf b hb).2.2.2.2.1 x c (dy x c h)⟩
 bs:=λb o e=>I.bs b o e
 bsz:=Y2 I.ok.bsz I.sz
 noex:=λb o e hb=>by
  rcases(hf b hb).2.2.2.1 with z|z
  ·exact I.ok.noex b o e z
  ·exact absurd (Xf (Xa e) (Y2 I.ok.bsz z)) (Yp _)
 exfs:=λb hb hs=>by
  rcases aD (I.stkSub b hs)with z|z
  ·exact(hf b hb).2.1 z
  ·exact(hf b hb).2.2.1 z
 funs:=I.stack
 frf:=I.stkFree
theorem vzc(I:Inv X pins O H s){a:Addr}(h:s.heap.objs.size<=a):a∉frs X.stack:=λz=>by
 rcases aD (I.stkSub a z)with e|e
 ·subst e;exact absurd (Xf I.lt h) (Yp _)
 ·exact I.nofs h e
theorem vwc {scope:Scope} {N:List Str} {k:Nat} {R:List Nat} {cl:List (Str×Addr)} {C D:Addr} {fp:List Addr} {h1:Heap} {t:Nat} {m:Str->Option Value} {oD:Obj} (I:Inv X pins O H s) (sc:LcOk X scope N k R)
  (hf:∀ b∈fp,wK X pins H b) (ho:∀b∈fp,∃o,s.heap.get? b=some o)
  (hC:s.heap.objs.size<=C) (hD:s.heap.objs.size<=D) (nv:D≠C) (dy:∀x c,cl.lookup x=some c->X.env.cells.lookup x=some c) (bp:∀y∈scope.names,y.2=.free->∃c,cl.lookup y.1=some c)
  (dz:∀ b o,s.heap.get? b=some o->h1.get? b=some o) (hn:h1.Ns C m) (eD:h1.get? D=some oD) (dD:∀v,oD.data≠.cell v):
  Inv (lcX X scope N cl C s H fp) [(D,oD)] (JK k R O) H { s with heap:=h1,toks:=t } where
 ok:=wkk I sc hf ho hC dy bp
 os:=rfl
 bare:=I.bare
 base:=Un.kept dz
 loc:=⟨m,hn,λi x v e1 e2 vis=>by
  obtain⟨mX,hnX,hl⟩:=I.loc;unfold JK at e2
  by_cases hi:i<k
  ·rw [Yu (by rw[Yv];exact hi),List.getElem?_replicate,X9 hi]at e2;cases e2
  ·have hk:k<=i:=Nat.le_of_not_lt hi;rw [List.getElem?_append_right (by rw[Yv];exact hk),Yv,Xn]at e2;cases er:R[i - k]? with
   | none=>rw[er]at e2;cases e2
   | some j=>
    rw [er]at e2;have ej:(O[j]?).join=some v:=by simpa using e2
    have ej':O[j]?=some (some v):=by
     cases q:O[j]? with
     | none=>rw[q]at ej;cases ej
     | some z=>rw[q]at ej;cases z with| none=>cases ej| some z=>rw[show z=v by simpa using ej]
    obtain⟨o1,o2⟩:=sc.outs (i - k) j x er (by rw[show k+(i - k)=i by omega];exact e1);have cap:=sc.caps (x,.free) (Yr o2) rfl;have visX:Vis X.env.scope x:=cap.elim (λz=>.inr (.inl z)) λz=>.inr (.inr z)
    obtain⟨u,ru,q⟩:=hl j x v o1 ej' visX;refine⟨u,ru,?_⟩;rcases q with⟨q,_⟩|⟨_,c,ec,hc⟩
    ·rcases cap with z|z
     ·rw[z]at q;cases q
     ·rw[z]at q;cases q
    ·obtain⟨c',ec'⟩:=bp (x,.free) (Yr o2) rfl;have e:c'=c:=oq9 ((dy x c' ec').symm.trans ec);subst e;refine .inr ⟨?_,c',ec',?_⟩
     ·rcases vis with z|z|z
      ·rcases jkj (env:=X.env) (names:=scope.names) z with y|⟨y,_⟩
       ·have y':=sc.names _ y rfl;rw[o2]at y';cases y'
       ·cases y
      ·exact .inl z
      ·exact .inr z
     ·obtain⟨o,h1,h2⟩:=hc;exact⟨o,dz _ _ h1,h2⟩⟩
 cell:=λx c h=>by
  obtain⟨v,o,h1,h2⟩:=I.cell x c (dy x c h);exact⟨v,o,dz _ _ h1,h2⟩
 free:=I.hok.fresh hC
 freeC:=λx c h=>I.freeC x c (dy x c h)
 pin:=λp hp=>by
  have e:p=(D,oD):=by
   have hp:p∈([]++[(D,oD)]:List (Addr×Obj)):=hp
   simpa using hp
  subst e;exact⟨eD,I.hok.fresh hD,nv,vzc I hD,dD⟩
 hok:=I.hok.kept dz
 len:=by
  show(JK k R O).length=N.length;unfold JK;rw[sc.len,Xj,Yv,X4]
theorem kwi{a:Addr}{o:HO}(I:Inv X pins O H s)(hn:H a=none)(hL:a≠X.env.locals)(h1:a∈X.ex\/X.s₀.heap.objs.size<=a)(h2:∀x c,X.env.cells.lookup x=some c->c≠a)(h3:∀p∈X.pn++pins,p.1≠a)
  (new:ObjOk X.prog X.w (upd H a o) s.heap a o):Inv X pins O (upd H a o) s:=by
 have hok:HOk X.prog X.w (upd H a o) s.heap:=λb u e=>by
  by_cases hb:b=a
  ·subst hb;rw[wJ]at e;cases e;exact new
  ·rw[kz hb]at e;exact(I.hok b u e).stay (λ_ _ _ q=>q) (λc q=>by rw[kz (xK q hn)];exact q) λc xs q=>by rw[kz (xK q hn)];exact q
 have na:∀b:Addr,b∉[a]->b≠a:=λb hb z=>hb (by rw[z];exact aB rfl)
 exact I.step (h':=s.heap) (H':=upd H a o) (g':=s.gens) (t':=s.toks) (d':=s.drawn) (ch:=[a])
  (λb hb=>by rw[aC hb];exact⟨h1,hL,h2,h3⟩) (λb o _ _ _ e _=>e) (λb o _ _ _ e _=>⟨o.slots,e⟩) (λb o hb _ q=>by rw[kz (na b hb)];exact q)
  (λb o _ e=>⟨o,e⟩) (λb xs q=>by rw[kz (xK q hn)];exact q) (λb o u q=>by rw[kz (xK q hn)];exact q) (λb ps q=>⟨#[],by rw[kz (xK q hn),q];simp⟩)
  (λm hm=>hm) hok I.bare
end
def PTs(X:Cx)(dq:List Expr)(t:TT):Prop:=
 ∀(pins:List (Addr×Obj)) (s:Shared) (O:L2.St) (H:Hp) (Q:Bool->Hp->Prop),Inv X pins O H s->t O H Q->wpAny (model X.prog X.w) X.A (qwi dq X.env) (TP X pins O Q) X.xe s
abbrev tYes:TT:=λ_ H Q=>Q true H
theorem vvf{X:Cx}:PTs X [] tYes:=λ_ _ _ H _ I h=>wpAny_tests_nil ⟨H,I,h⟩
theorem vve{X:Cx}{c:Expr}{t:TT}(hc:PT X c t):PTs X [c] t:=λpins s O H Q I h=>wpAny_tests_one (hc pins s O H Q I h)
noncomputable def LcW(g:TG)(tt:TT)(te:TE)(Q:VK)(J:It)(W:Nat->Nat->List V->L2.St->Hp->Prop):Prop:=∀i m ys O H,W i m ys O H ->
 (J.stop i H/\ys.length<=sizeLine/\∀p,H p=none->Q (.ref p) (upd H p (.lst ys))) \/
 (J.go i H/\∀x H1,J.yld i H x H1->g x O H1 fun σ2 H2=>∃(Ny:VK) (Nn:Hp->Prop),(∀y H4,Ny y H4->ys.length<=sizeLine/\∃m',m'<m/\W (i+1) m' (ys++[y]) σ2 H4) /\
  (∀H4,Nn H4->∃m',m'<m/\W (i+1) m' ys σ2 H4)/\tt σ2 H2 λb H3=>if b=true then te σ2 H3 Ny else Nn H3)
abbrev tLC(wi:TI)(g:TG)(tt:TT)(te:TE)(k:Nat)(R:List Nat):TE:=fun O H Q=>wi O H λJ H1=>
 ∃W:Nat->Nat->List V->L2.St->Hp->Prop,(∃m,W 0 m [] (JK k R O) H1)/\LcW g tt te Q J W
abbrev ZZ(ai:List Value)(n:Nat):Obj:={ cls:=.type "list",data:=.seq ai.toArray n }
section
variable {X:Cx}
theorem op_mulI:OpR X (binaryOp .Mult) (rI IntMulOk λi j=>.int (i*j)):=opI λ_ _ _ _ _ _ _ hc q=>mul_int q hc
def wv0(_i j:Int):Prop:=0<j/\j.natAbs.log2<9000
theorem vZ:OpR X (binaryOp .FloorDiv) (rI wv0 λi j=>.int (i / j)):=opI λi j _ _ _ _ _ hc q=>by
 have h1:(0:Int)<j:=hc.1;exact floordiv_int ⋯ (by rw[Int.fdiv_eq_ediv_of_nonneg i ⋯];exact q) (.inl (PyProof.noPylong_of_log2 hc.2))
theorem vqj:∀{bs:List Bool} {ai:List Value} {i:Nat} {v:Value},Vals (bs.map V.bl) ai->ai[i]?=some v->∃b,bs[i]?=some b/\v=.bool b
 |[],_,_,_,.nil,e=>by simp at e
 |b::bs,_,0,v,.cons r _,e=>by
  simp at e;subst e;exact⟨b,rfl,r⟩
 |b::bs,_,i+1,v,.cons _ t,e=>by
  obtain⟨b',e1,e2⟩:=vqj (i:=i) t (by simpa using e);exact⟨b',by simpa using e1,e2⟩
theorem kvx(bs:List Bool):((List.range bs.length).all λi=>(bs[i]?).getD true)=bs.all id:=by
 rw[Bool.eq_iff_iff,Ze,Ze];constructor
 ·intro h b hb;obtain⟨i,hi,e⟩:=List.getElem_of_mem hb;have:=h i (List.mem_range.mpr hi);rw[X2 hi,e]at this;exact this
 ·intro h i hi;have kt:=List.mem_range.mp hi;rw[X2 kt];exact h _ (Y8 kt)
def ww0(K:Frag):List V->Hp->VK->Prop:=λxs H Q=>∃(p:Addr) (bs:List Bool),xs=[.ref p]/\SqL K H p (bs.map V.bl)/\Q (.bl (bs.all id)) H
theorem vk6(hc:X.calm=true):CallR X (.builtin "all") (ww0 X.K):=by
 intro pins s O H xs us Q I r h;obtain⟨p,bs,rfl,hq,q⟩:=h;obtain⟨u,rfl,ru⟩:=zW r;cases ru;obtain⟨ai,rv,pl,hz⟩:=I.list hq;have hl:=pl.isList;have bv:p<s.heap.objs.size:=by obtain⟨_,e,_⟩:=hl;exact Xa e
 have av:bs.length=ai.length:=by rw[<-rv.length,X4]
 refine call_all_walk (wpAny_pyIter_list hl ?_);refine⟨s.heap.objs.size,[s.heap.objs.size,p],[s.heap.objs.size],ai.toArray.size,_,_,λi=>(bs[i]?).getD true,rfl,Walks.list (A:=X.A.in1) (I.ok.hd hc) _ p (Xg bv) ai.toArray,
  ⟨⟨_,X6 _ rfl,rfl,rfl⟩,hl.push _⟩,λi v s' Q' E' hP hQ=>?_,λh' tk hk=>?_⟩
 ·obtain⟨b,e,rfl⟩:=vqj rv (by simpa using hP);simp only[e,Option.getD_some]at hQ;exact wpAny_truthy_bool hQ
 ·have e:((List.range ai.toArray.size).all λi=>(bs[i]?).getD true)=bs.all id:=by
   rw[X5,<-av];exact kvx bs
  rw[e];refine⟨.bl _,H,I.kept (t':=tk) (h':=h') λb o e=>hk b o (λz=>?_) (X3 _ e),rfl,q⟩;exact absurd (Xa e) (by rw[aC z];exact Yp _)
def Its(x:Str):It:=⟨λi _=>i<x.cps.size,λi H v H'=>H'=H/\∃c,x.cps[i]?=some c/\v=.str ⟨#[c]⟩,λi _=>i=x.cps.size⟩
theorem kzq{P:Program}{w:World}{K:Frag}{tg:Expr}{x:Str}{t:Tok}{it:Addr}{ty:String}
  (W:∀A':Around,A'.handled=none->Walks P w A' it [it] [it] x.cps.size (SignAt x) (λi h=>h.IsStrIter it ty x t i))
  (rh:∀(A:Around) (i:Nat) (s:Shared) (Q:Value->Shared->Prop) (E:Value->Shared->Prop),s.heap.IsStrIter it ty x t i->Q (.ref it) s->wpAny (model P w) A (pyIter (.ref it)) Q E s)
  (qy:["enumerate","zip","dict_itemiterator","dict_reverseitemiterator","odict_iterator","itertools.zip_longest","itertools.pairwise"].contains ty=false):
  Turn P w K tg (Its x) [it] it (λi h=>h.IsStrIter it ty x t i) where
 mem:=by simp
 obj:=λi h st b hb=>by
  have e:b=it:=by simpa using hb
  subst e;obtain⟨o,e,c,d⟩:=st;exact⟨o,e,λv z=>by rw[d]at z;cases z⟩
 keep:=λi h h' st k=>by
  obtain⟨o,e,r⟩:=st;exact⟨o,k it (by simp) o e,r⟩
 item:=by
  intro X hP hw hK hc i pins s O H E I hf st hg;subst hP hw hK;obtain⟨f0,f1,f2,f3,f4,f5⟩:=hf it (by simp);refine(W X.A (I.ok.hd hc)).item i s _ _ hg st λv h' tk hv dh kk=>?_
  obtain⟨c,u,ig,rfl⟩:=hv;have I1:Inv X pins O H { s with heap:=h',toks:=tk }:=I.turned (λb o hb e=>kk b o (by simpa using hb) e) f0 f1 f3 f4 f5;obtain⟨o,e,c1,d⟩:=id dh;exact⟨_,rfl,vjp (s:={ s with heap:=h',toks:=tk }) e c1 d qy ⟨.str ⟨#[c]⟩,H,I1,⟨u,rfl⟩,⟨rfl,c,ig,rfl⟩,dh,λb hb=>(hf b hb).1⟩⟩
 done:=by
  intro X hP hw hK hc i pins s O H E I hf st hg;subst hP hw hK;obtain⟨f0,f1,f2,f3,f4,f5⟩:=hf it (by simp);have ng:i=x.cps.size:=hg;subst ng;exact(W X.A (I.ok.hd hc)).done s _ _ st λh' tk kk=>⟨rfl,I.turned (λb o hb e=>kk b o (by simpa using hb) e) f0 f1 f3 f4 f5⟩
 self:=λA i s Q E st hQ=>rh A i s Q E st hQ
def wxt:V->Option Int->Option Int->Hp->VK->Prop:=λx lo hi H Q=>∃z,x=.str z/\z.length<=sizeLine/\Q (.str (Txt.slice z lo hi)) H
theorem vzi:SlR X wxt:=by
 intro pins s O H x v vl vu lo hi sl Q I rx hs pl pu h;obtain⟨z,rfl,hz,q⟩:=h;obtain⟨t,rfl⟩:=rx;refine⟨"str",_,F.slot_str_getitem.lookup,typeIs_str _ _ _,?_⟩;have fin:∀(t':Tok) (k:Nat),EP X pins O Q (.str (Txt.slice z lo hi) t') { s with toks:=k }:=λt' k=>⟨.str _,H,I.tok k,⟨t',rfl⟩,q⟩
 have fq:(Txt.slice z lo hi).length<=sizeLine:=Y2 (Txt.slice_le z _ _) hz;cases pl with
 |none=>cases pu with|none=>exact Z0 (l:=none) (u:=none) (st:=none) hs rfl (post_val_or_str ⟨fq,fin⟩)|int j tj=>exact Z0 (l:=none) (u:=some (j,tj)) (st:=none) hs rfl (post_val_or_str ⟨fq,fin⟩)
 |int i ti=>cases pu with|none=>exact Z0 (l:=some (i,ti)) (u:=none) (st:=none) hs rfl (post_val_or_str ⟨fq,fin⟩)|int j tj=>exact Z0 (l:=some (i,ti)) (u:=some (j,tj)) (st:=none) hs rfl (post_val_or_str ⟨fq,fin⟩)
def vzu:R2:=λx y H Q=>∃z n,x=.str z/\y=.int n/\(z.length<=1024/\n<=1024/\-1024<=n)/\Q (.str (Txt.mul z n)) H
theorem vvz:OpR X (binaryOp .Mult) vzu:=by
 intro pins s O H x y v u Q I rx ry h;obtain⟨z,n,rfl,rfl,⟨h1,h2,h3⟩,q⟩:=h;obtain⟨t,rfl⟩:=rx;obtain⟨t',rfl⟩:=ry;exact SB.mul (mulOk_of 1024 1024 h1 h2 ⋯ ⋯ ⋯) λt' k=>⟨.str _,H,I.tok k,⟨t',rfl⟩,q⟩
theorem kzu:∀{ys:List Str} {ai:List Value},Vals (ys.map V.str) ai->StrsAre ai ys
 |[],_,.nil=>.nil|_::_,_,.cons ⟨t,e⟩ r=>by subst e;exact .cons _ t (kzu r)
def wvx(K:Frag):V->List V->Hp->VK->Prop:=λx vs H Q=>∃z p ys,x=.str z/\vs=[.ref p]/\SqL K H p (ys.map V.str)/\(ys.map (·.length)).sum+ys.length*z.length<=16777216/\Q (.str (Txt.join z ys)) H
theorem vw8:MtR X "str.join" (wvx X.K):=by
 intro pins s O H x xs v us Q I rx rv h;obtain⟨z,p,ys,rfl,rfl,hq,hok,q⟩:=h;obtain⟨t,rfl⟩:=rx;obtain⟨u,rfl,ru⟩:=rv.one;cases ru;obtain⟨ai,rs,pl,hz⟩:=I.list hq;exact join_list pl.isList (kzu rs) hok λt' k=>⟨.str _,H,I.tok k,⟨t',rfl⟩,q⟩
def vkn(K:Frag):V->Option Int->Option Int->Hp->VK->Prop:=λx lo hi H Q=>wxu K x lo hi H Q\/wxs K x lo hi H Q\/wxt x lo hi H Q
theorem wvr(K:Frag)(hK:autoParam (X.K=K) Ŕ):SlR X (vkn K):=by subst hK;exact sl_list.or (sl_tup.or vzi)
def qv9(K:Frag):List V->Hp->VK->Prop:=λxs H Q=>(∃p ys,xs=[.ref p]/\(SqL K H p ys\/SqT K H p ys)/\Q (.int ys.length) H)\/(∃z,xs=[.str z]/\z.length<=sizeLine/\Q (.int z.length) H)\/(∃a kvs,xs=[V.ref a]/\H a=some (.dK kvs)/\Q (.int kvs.length) H)
theorem vx6(K:Frag)(hK:autoParam (X.K=K) Ŕ):CallR X (.builtin "len") (qv9 K):=by subst hK;exact call_len_seq.or (call_len_str.or qxq)
theorem qxt:CallR X (.type "int") (λxs H Q=>(∃i,xs=[.int i]/\Q (.int i) H)\/∃k,xs=[.bl k]/\Q (.int (if k then 1 else 0)) H):=qxr
theorem vx7(K:Frag)(hK:autoParam (X.K=K) Ŕ)(hc:autoParam (X.calm=true) Ŕ):CallR X (.builtin "all") (ww0 K):=by subst hK;exact vk6 hc
theorem vq0(K:Frag){o e:Expr}{es:List Expr}{T:String}{name:Str}{id:String}{r:V->List V->Hp->VK->Prop}{to:TE}{t:TA}{apos au:Pos}
  (pa:PlainAttrs T) (slot:Slot T name id) (qy:typeOf (.builtin id)=pure (.type "method_descriptor")) (hm:MtR X id r) (ho:PE X o to) (ha:PA X (e::es) t)
  (cx:autoParam (attributeBase o name X.env (eval o X.env)=eval o X.env) Ŕ)
  (fh:autoParam (((backTo au (starEach (e::es) X.env)).all (λx=>!x.1)&&(backToKw au (keywordEach [] X.env)).all (λx=>x.1.isSome)
   && decide ((e::es).length+([]:List Keyword).length+(if([]:List Keyword).isEmpty then 0 else 1)<30))=true) Ŕ)
  (cy:autoParam ((apos.endLine==au.line)=true) Ŕ) (hs:autoParam (starEach (e::es) X.env=(false,eval e X.env)::starEach es X.env) Ŕ) (bn:autoParam ((backTo au (starEach es X.env)).any (·.1)=false) Ŕ) (hK:autoParam (X.K=K) Ŕ):
  PE X (.Call (.Attribute o name apos) (e::es) [] au) (tBM K T r to t):=by subst hK;exact wjx pa slot qy hm ho ha cx fh cy hs bn
theorem qjy:bootBuiltins "len"=some (.builtin "len"):=by decide +kernel
theorem jxh:bootBuiltins "isinstance"=some (.builtin "isinstance"):=by decide +kernel
theorem wqn:bootBuiltins "all"=some (.builtin "all"):=by decide +kernel
theorem qxx:bootBuiltins "int"=some (.type "int"):=by decide +kernel
theorem J4:bootBuiltins "list"=some (.type "list"):=by decide +kernel
theorem vkd:bootBuiltins "tuple"=some (.type "tuple"):=by decide +kernel
theorem vxb:bootBuiltins "dict"=some (.type "dict"):=by decide +kernel
end
def Cst(mg:Str->Option Value)(x:Str)(v:V):Prop:=∃u,mg x=some u/\RelV v u
section
variable {X:Cx}{x:Str}{p pos:Pos}{e:Expr}{es:List Expr}{t:TA}{ps:List Str}{sp:Sp}{k:Nat}{v:V}
theorem Kq(c:Cst X.mg x v)(hg:autoParam (Gl X x) Ŕ)(hd:autoParam ((x==("__debug__":Str))=false) ŕ):PE X (.Name x pos) (tC v):=by
 obtain⟨u,m,r⟩:=c;exact qvt hg m r hd
end
theorem qk0:∀{ns:List Int} {m:Nat},PySem.W.WData.weightAll (ns.map PySem.W.WData.int)<=m->∀n∈ns,Builtin.Int.intBits n<=m
 | [],_,_,_,h=>nomatch h
 | a::r,m,h,n,hn=>by
  have h':(if a==0 then 0 else a.natAbs.log2+1)+1+PySem.W.WData.weightAll (r.map PySem.W.WData.int)<=m:=h;rcases aD hn with z|z
  ·subst z;have e:Builtin.Int.intBits n=(if n==0 then 0 else n.natAbs.log2+1):=rfl;rw[e];omega
  ·exact qk0 (m:=m) ⋯ n z
theorem kzh{ns:List Int}(h:PySem.W.WData.layableAll [PySem.W.WData.list (ns.map PySem.W.WData.int)]=true):∀n∈ns,Builtin.Int.intBits n<=1048576:=by
 have h1:(PySem.W.WData.list (ns.map PySem.W.WData.int)).layable=true:=(PySem.W.layW_cons h).1;unfold PySem.W.WData.layable at h1;simp only[Bool.and_eq_true,decide_eq_true_eq]at h1;have h2:PySem.W.WData.weightAll (ns.map PySem.W.WData.int)<=2 ^ 20:=h1.2;exact qk0 (by simpa using h2)
inductive D where
 |non|bl (b:Bool)|int (i:Int)|str (z:Str)|lst (xs:List D)|tup (xs:List D)
section
variable {X:Cx}{pins:List (Addr×Obj)}{O:L2.St}{H:Hp}{s:Shared}
theorem in1_units(A:Around):A.in1.units<=A.units+1:=by
 first|exact X8 _|(show A.units+1<=A.units+1;exact X8 _)|(unfold Around.in1;simp)
end
section
variable {X:Cx}
def qv8(K:Frag):List V->Hp->VK->Prop:=λxs H Q=>∃p ys,xs=[.ref p]/\(SqL K H p ys\/SqT K H p ys)/\∀l,H l=none->Q (.ref l) (upd H l (.lst ys))
theorem Qv(K:Frag)(hK:autoParam (X.K=K) Ŕ):CallR X (.type "list") (qv8 K):=by subst hK;exact kx2
end
abbrev LET:Str:="abcdefghijklmnopqrstuvwxyz"
def Wd(z:Str):Prop:=1<=z.length/\z.length<=8/\∀ch∈z.cps.toList,ch∈LET.cps.toList
section
variable {X:Cx}{pins:List (Addr×Obj)}{O:L2.St}{H:Hp}{s:Shared}
theorem kjp{t':Nat}{h':Heap}(fp:List Addr)(I:Inv X pins O H s)(k:∀b o,b∉fp->s.heap.get? b=some o->h'.get? b=some o)(hf:∀b∈fp,wK X pins H b):Inv X pins O H { s with heap:=h',toks:=t' }:=by
 have qc:∀b u,H b=some u->b∉fp:=λb u e z=>by rw[(hf b z).1]at e;cases e
 refine I.step (g':=s.gens) (d':=s.drawn) (ch:=fp) (λb hb=>?_) (λb o _ _ hc e _=>k b o hc e) (λb o _ _ hc e _=>⟨o.slots,k b o hc e⟩) (λ_ _ _ _ n=>n)
  (λb o hc e=>⟨o,k b o hc e⟩) (λ_ _ e=>e) (λ_ _ _ e=>e) (λb ps e=>⟨#[],by rw[e];simp⟩) (λm hm=>?_) (λb u e=>?_) I.bare
 ·obtain⟨_,f1,_,f3,f4,f5⟩:=hf b hb;exact⟨f3,f1,f4,f5⟩
 ·obtain⟨o,es,ep,ho,r⟩:=hm;exact⟨o,es,ep,k _ o (λz=>(hf _ z).2.1 rfl) ho,r⟩
 ·refine(I.hok b u e).stay (λc v hc q=>k c v ?_ q) (λ_ q=>q) λ_ _ q=>q
  rcases hc with z|z
  ·rw[z];exact qc b u e
  ·exact qc c _ z
end
section
variable {X:Cx}
def qva:List V->Hp->VK->Prop:=λxs H Q=>(∃i,xs=[.int i]/\Q (.int i) H)\/(∃k,xs=[.bl k]/\Q (.int (if k then 1 else 0)) H)\/∃(x:Str) (n:Int),xs=[.str x]/\PySem.intText? x=some n/\x.length<=640/\Q (.int n) H
theorem kk4:CallR X (.type "int") qva:=by
 intro pins s O H xs us Q I r h;rcases h with h|h|⟨x,n,rfl,hx,hl,q⟩
 ·exact qxt pins s O H xs us Q I r (.inl h)
 ·exact qxt pins s O H xs us Q I r (.inr h)
 ·obtain⟨u,rfl,t,rfl⟩:=zW r;exact PySem.W.KIN.call_text hx hl ⟨.int n,H,I.tok _,⟨_,rfl⟩,q⟩
end
end L3
namespace L2
open PySem PySem.Spec PyProof.Rows
section
variable {P:Program}{w:World}{H H':Hp}{h h':Heap}{a:Addr}{o:HO}
theorem ObjOk.obj(x:ObjOk P w H h a o):∃u,h.get? a=some u:=by
 cases o with|lst xs=>obtain⟨_,_,_,_,e⟩:=x;exact⟨_,e⟩|tup xs=>obtain⟨_,_,_,p⟩:=x;obtain⟨u,e,_⟩:=p;exact⟨u,e⟩|dK kvs=>obtain⟨_,_,_,_,o,_,_,e,_⟩:=x;exact⟨_,e⟩|dT kvs=>obtain⟨_,_,_,_,o,_,_,e,_⟩:=x;exact⟨_,e⟩|set S n=>obtain⟨o,_,_,_,e,_⟩:=x;exact⟨_,e⟩|ins C dx fs=>obtain⟨_,_,_,e,_⟩:=x;exact⟨_,e⟩|own y=>obtain⟨_,e⟩:=x;exact⟨_,e⟩|xd fs=>obtain⟨_,⟨_,_,_,e,_⟩,_⟩:=x;exact⟨_,e⟩|rng lo hi=>obtain⟨_,_,_,e⟩:=x;exact⟨_,e⟩|frz ob u=>obtain⟨e,_⟩:=x;exact⟨_,e⟩|tbl ps=>exact⟨_,x⟩|met f y=>exact⟨_,x⟩|ext φ=>obtain⟨_,⟨_,e⟩,_⟩:=x;exact⟨_,e⟩
end
section
variable {X:Cx}{pins:List (Addr×Obj)}{O:List (Option V)}{H H':Hp}{s:Shared}{h':Heap}
theorem Inv.stepN{g':Array GenState}{t':Nat}{d':Drawn}{ch:List Addr}(I:Inv X pins O H s)
  (ff:∀b∈ch,(b∈X.ex\/X.s₀.heap.get? b=none)/\b≠X.env.locals/\(∀x c,X.env.cells.lookup x=some c->c≠b)/\∀p∈X.pn++pins,p.1≠b)
  (keep:∀b o,b≠X.env.locals->b∉X.fs->b∉ch->s.heap.get? b=some o->H b=none->h'.get? b=some o)
  (slot:∀b o,b≠X.env.locals->b∈X.fs->b∉ch->s.heap.get? b=some o->H b=none->∃sl,h'.get? b=some { o with slots:=sl }) (free:∀b o,b∉ch->s.heap.get? b=some o->H b=none->H' b=none)
  (there:∀b o,b∉ch->s.heap.get? b=some o->∃o',h'.get? b=some o')
  (tups:∀b xs,H b=some (.tup xs)->H' b=some (.tup xs)) (frzs:∀b o u,H b=some (.frz o u)->H' b=some (.frz o u)) (tbls:∀b ps,H b=some (.tbl ps)->∃more,H' b=some (.tbl (ps++more)))
  (ns:∀m,s.heap.Ns X.env.locals m->h'.Ns X.env.locals m) (hok:HOk X.prog X.w H' h') (hg:AllBare g'):
  Inv X pins O H' { s with heap:=h',gens:=g',drawn:=d',toks:=t' }:=by
 have rl:∀b o,X.s₀.heap.get? b=some o->b≠X.env.locals:=λb o e=>Xg (Xf (Xa e) I.ok.above)
 have li:∀b o,X.s₀.heap.get? b=some o->b∉X.ex->b∉ch:=λb o e hx hb=>by
  rcases(ff b hb).1 with z|z
  ·exact hx z
  ·rw[z]at e;cases e
 have gq:∀x c,X.env.cells.lookup x=some c->∀v,s.heap.IsCell c v->h'.IsCell c v:=λx c e v ⟨o,ho,hd⟩=>by
  have km:c∉ch:=λz=>(ff c z).2.2.1 x c e rfl
  by_cases hc:c∈X.fs
  ·obtain⟨sl,q⟩:=slot c o (I.cne x c e) hc km ho (I.freeC x c e);exact⟨_,q,hd⟩
  ·exact⟨o,keep c o (I.cne x c e) hc km ho (I.freeC x c e),hd⟩
 refine⟨I.ok,I.os,hg,⟨λb o e n hb hx=>?_,λb o e n hb hx=>?_,λb o e n hx=>?_,λb o e hx=>?_,λb xs e=>tups b xs (I.base.tups b xs e),λb o xs e=>frzs b o xs (I.base.frzs b o xs e),λb ps e=>?_⟩,?_,λx c e=>?_,?_,λx c e=>?_,λp hp=>?_,hok,I.len⟩
 ·exact keep b o (rl b o e) hb (li b o e hx) (I.base.keep b o e n hb hx) (I.base.free b o e n hx)
 ·obtain⟨sl,e1⟩:=I.base.slot b o e n hb hx;obtain⟨sl',e2⟩:=slot b _ (rl b o e) hb (li b o e hx) e1 (I.base.free b o e n hx);exact⟨sl',e2⟩
 ·obtain⟨o',e1⟩:=I.base.there b o e hx;exact free b o' (li b o e hx) e1 (I.base.free b o e n hx)
 ·obtain⟨o',e1⟩:=I.base.there b o e hx;exact there b o' (li b o e hx) e1
 ·obtain⟨m1,e1⟩:=I.base.tbls b ps e;obtain⟨m2,e2⟩:=tbls b _ e1;exact⟨m1++m2,by rw[e2,Array.append_assoc]⟩
 ·obtain⟨m,hn,hl⟩:=I.loc;refine⟨m,ns m hn,λi x v e1 e2 e3=>?_⟩;obtain⟨u,r,l⟩:=hl i x v e1 e2 e3;refine⟨u,r,?_⟩;rcases l with l|⟨k,c,e,z⟩
  ·exact .inl l
  ·exact .inr ⟨k,c,e,gq x c e _ z⟩
 ·obtain⟨v,z⟩:=I.cell x c e;exact⟨v,gq x c e v z⟩
 ·obtain⟨m,⟨o,_,_,ho,_⟩,_⟩:=I.loc;exact free _ o (λz=>(ff _ z).2.1 rfl) ho I.free
 ·obtain⟨v,o,ho,hd⟩:=I.cell x c e;exact free c o (λz=>(ff c z).2.2.1 x c e rfl) ho (I.freeC x c e)
 ·obtain⟨e,n,ne,nf,d⟩:=I.pin p hp;have km:p.1∉ch:=λz=>(ff p.1 z).2.2.2 p hp rfl
  exact⟨keep p.1 p.2 ne nf km e n,free p.1 p.2 km e n,ne,nf,d⟩
theorem Inv.callN{g':Array GenState}{t':Nat}{d':Drawn}{ch:List Addr}(I:Inv X pins O H s)(u:Un (frs X.stack) ch H H' s.heap h')(hok:HOk X.prog X.w H' h')(hg:AllBare g')
  (ff:∀b∈ch,(b∈X.ex\/X.s₀.heap.get? b=none)/\b≠X.env.locals/\(∀x c,X.env.cells.lookup x=some c->c≠b)/\∀p∈X.pn++pins,p.1≠b):
  Inv X pins O H' { s with heap:=h',gens:=g',drawn:=d',toks:=t' }:=by
 obtain⟨m,⟨o,es,ep,ho,r⟩,_⟩:=id I.loc;obtain⟨sl,hL⟩:=u.any ho I.free λz=>(ff _ z).2.1 rfl
 exact I.stepN (ch:=ch) ff (λb o hL hb hc e n=>u.keep b o e n (λz=>(aD (I.stkSub b z)).elim hL hb) hc) (λb o _ _ hc e n=>u.any e n hc) (λb o hc e n=>u.free b o e n hc) (λb o hc e=>u.there b o e hc) u.tups u.frzs u.tbls (λm' hm=>by
  obtain⟨o',es',ep',iu,r'⟩:=hm;rw[ho]at iu;cases iu;exact⟨_,es',ep',hL,r'⟩) hok hg
end
end L2
namespace L3
open PySem PySem.Spec PyProof.Rows L2
theorem kjk{e:Value}{env env0:Env}(h:env.frame=env0.frame):noteFrame e env=noteFrame e env0:=by
 unfold noteFrame PySem.frameOf;rw[h]
structure Fl0 (h:Heap)(x:Addr)(C:Value)(vs:Array Value):Prop where
 ob:h.get? x=some { cls:=C,data:=.fields vs }
 sz:1<vs.size
structure FlT (h:Heap)(x T:Addr)(C:Value)(fl:Value):Prop where
 ex:∃vs,h.get? x=some { cls:=C,data:=.fields vs }/\vs[1]?=some (.ref T)
 tb:∃oT ts,h.get? T=some oT/\oT.data=.fields ts/\ts[3]?=some fl
 ne:T≠x
structure Chg (fs ch:List Addr)(h h':Heap):Prop where
 keep:∀b o,h.get? b=some o->b∉fs->b∉ch->h'.get? b=some o
 slot:∀b o,h.get? b=some o->b∉ch->∃sl,h'.get? b=some { cls:=o.cls,dict:=o.dict,data:=o.data,slots:=sl }
 size:h.objs.size<=h'.objs.size
theorem Chg.trans{fs ch ch':List Addr}{h h1 h2:Heap}(a:Chg fs ch h h1)(b:Chg fs ch' h1 h2)(hc:∀x∈ch',x∈ch\/h.get? x=none):Chg fs ch h h2 where
 keep:=λx o e h1 h2=>b.keep x o (a.keep x o e h1 h2) h1 λz=>(hc x z).elim h2 λq=>by rw[q]at e;cases e
 slot:=λx o e hn=>by
  obtain⟨sl,e1⟩:=a.slot x o e hn;obtain⟨lj,e2⟩:=b.slot x _ e1 λz=>(hc x z).elim hn λq=>by rw[q]at e;cases e
  exact⟨lj,e2⟩
 size:=Y2 a.size b.size
theorem Chg.mono{fs ch ch':List Addr}{h h1:Heap}(a:Chg fs ch h h1)(hc:∀x∈ch,x∈ch'):Chg fs ch' h h1:=⟨λb o e h1 h2=>a.keep b o e h1 λz=>h2 (hc b z),λb o e h2=>a.slot b o e λz=>h2 (hc b z),a.size⟩
theorem Chg.of_upd{fs : List Addr}{h : Heap}{a : Addr}{f : Obj -> Obj}: Chg fs [a] h (h.update a f):=
  ⟨λb o e _ hn=>by rw[Z4 _ _ _ _ (λz=>hn (aB z))]; exact e,
   λb o e hn=>⟨o.slots, by rw[Z4 _ _ _ _ (λz=>hn (aB z))]; exact e⟩, by rw[Heap.size_update]; exact X8 _⟩
theorem Chg.of_push{fs:List Addr}{h:Heap}{o:Obj}:Chg fs [] h (h.push o):=
 ⟨λb o e _ _=>X3 _ e,λb o e _=>⟨o.slots,X3 _ e⟩,by rw[Zf];omega⟩
theorem Chg.of_slots{fs:List Addr}{h h':Heap}(s:Heap.SlotsOnly fs h h'):Chg fs [] h h':=
 ⟨λb o e hn _=>(s.2.1 b hn).trans e,λb o e _=>s.2.2 b o e,by rw[s.1];exact X8 _⟩
theorem Chg.refl{fs ch:List Addr}{h:Heap}:Chg fs ch h h:=⟨λ_ _ e _ _=>e,λb o e _=>⟨o.slots,e⟩,X8 _⟩
section
variable {M:Model}{A:Around}{E:Value->Shared->Prop}{s:Shared}{base:Heap}{env:Env}{outer:List Env}{L x T:Addr}{C fl:Value}
theorem kwv{head:Value}{hadNext:Bool}{vs:Array Value}{Q:Unit->Shared->Prop}(hA:A.frames=some (env::outer))(hF:s.heap.FunFrames base (env::outer))(hL:env.frame=some L)(ho:Fl0 s.heap x C vs)
  (h:∀h' T',Chg (frs (env::outer)) [x] s.heap h'->s.heap.objs.size<=T'->FlT h' x T' C (rawInt ↑L)->Q () { s with heap:=h' }):
  wpAny M A (do
   let a <-PySem.frameOf env
   let pl <-entryPlaceOf L hadNext
   let b <-EntryCells.newEntry head a Value.none (rawInt ↑L) Value.none pl
   setField (Value.ref x) 1 b) Q E s:=by
 refine X0 (wpAny_frameOf_fun hA hF hL λh1 s1=>?_);have hx:x∉frs (env::outer):=λz=>by
  obtain⟨_,o,e,hn⟩:=hF.mem z;rw[ho.ob]at e;cases e;exact hn _ rfl
 have o1:h1.get? x=some { cls:=C,data:=.fields vs }:=(s1.2.1 x hx).trans ho.ob;have fin:∀pl:List Value,IsPlace pl->wpAny M A (do
   let b <-EntryCells.newEntry head (Value.ref L) Value.none (rawInt ↑L) Value.none pl
   setField (Value.ref x) 1 b) Q E { s with heap:=h1 }:=λpl bu=>by
  refine X0 ?_;unfold EntryCells.newEntry newFields;have har:([head,Value.ref L,Value.none,rawInt ↑L,Value.none]++if pl.isEmpty=true then List.replicate 6 Value.none else pl).toArray[3]?=some (rawInt ↑L):=by simp
  have hsz:([head,Value.ref L,Value.none,rawInt ↑L,Value.none]++if pl.isEmpty=true then List.replicate 6 Value.none else pl).toArray.size<=sizeLine+2:=by
   rcases bu with rfl|⟨_,_,_,_,_,_,_,rfl⟩<;>simp<;>decide
  generalize ([head,Value.ref L,Value.none,rawInt ↑L,Value.none]++if pl.isEmpty=true then List.replicate 6 Value.none else pl).toArray=ar at har hsz;refine Xp ?_ hsz;have o2:(h1.push { cls:=.type "traceback",data:=.fields ar }).get? x=some { cls:=C,data:=.fields vs }:=X3 _ o1;refine Ye (s:={ s with heap:=h1.push _ }) o2 rfl ho.sz ?_;have bj:h1.objs.size≠x:=λe=>absurd (Xa o1) (by rw[<-e];exact Yp _)
  have o3:((h1.push { cls:=.type "traceback",data:=.fields ar }).update x (Obj.mapFields λy=>y.setIfInBounds 1 (.ref h1.objs.size))).get? h1.objs.size=some { cls:=.type "traceback",data:=.fields ar }:=by
   rw[Z4 _ _ _ _ bj];exact X6 _ rfl
  refine h _ h1.objs.size (((Chg.of_slots s1).mono (λ_ z=>nomatch z)).trans ((Chg.of_push.mono λ_ z=>nomatch z).trans (ch:=[x]) Chg.of_upd λy hy=>.inl hy) λy hy=>.inl hy) (by rw[s1.1];exact X8 _) ⟨⟨vs.setIfInBounds 1 (.ref h1.objs.size),?_,Array.getElem?_setIfInBounds_self_of_lt ho.sz⟩,⟨_,_,o3,rfl,har⟩,bj⟩;exact Xz _ o2 rfl
 exact X0 (wpAny_entryPlaceOf λpl bu=>fin pl bu)
theorem wwr{vs:Array Value}{Q:Unit->Shared->Prop}(hA:A.frames=some (env::outer))(hF:s.heap.FunFrames base (env::outer))(hL:env.frame=some L)(ho:Fl0 s.heap x C vs)(hv:vs[1]?=some .none)
  (h:∀h' T',Chg (frs (env::outer)) [x] s.heap h'->s.heap.objs.size<=T'->FlT h' x T' C (rawInt ↑L)->Q () { s with heap:=h' }):wpAny M A (noteFrame (.ref x) env) Q E s:=by
 unfold noteFrame;rw[hL];refine X0 (Ys ho.ob rfl hv ?_);exact kwv (hadNext:=false) hA hF hL ho h
theorem upd3{T:Addr}{oT:Obj}{ts:Array Value}{v:Value}{h:Heap}(e:h.get? T=some oT)(ed:oT.data=.fields ts)(h3:3<ts.size):
  ∃o' ts',(h.update T (Obj.mapFields λy=>y.setIfInBounds 3 v)).get? T=some o'/\o'.data=.fields ts'/\ts'[3]?=some v:=by
 obtain⟨c,d,dt,sl⟩:=oT;cases(show dt=.fields ts from ed);exact⟨_,ts.setIfInBounds 3 v,Xz _ e rfl,rfl,Array.getElem?_setIfInBounds_self_of_lt h3⟩
theorem wwq{Q:Unit->Shared->Prop}(hA:A.frames=some (env::outer))(hF:s.heap.FunFrames base (env::outer))(hL:env.frame=some L)(f:FlT s.heap x T C fl)
  (h:∀h' T',Chg (frs (env::outer)) [x,T] s.heap h'->(s.heap.objs.size<=T'\/T'=T)->FlT h' x T' C (rawInt ↑L)->Q () { s with heap:=h' }):wpAny M A (noteFrame (.ref x) env) Q E s:=by
 obtain⟨⟨vs,e1,v1⟩,⟨oT,ts,e2,d2,v2⟩,bj⟩:=f;have h3:3<ts.size:=by
  rw[Array.getElem?_eq_some_iff]at v2;exact v2.1
 have h1:1<vs.size:=by
  rw[Array.getElem?_eq_some_iff]at v1;exact v1.1
 unfold noteFrame;rw [hL];refine X0 (Ys e1 rfl v1 ?_);show wpAny M A (if((Value.ref T != Value.none)=true)then _ else _) Q E s;rw [X9 (show(Value.ref T != Value.none)=true from rfl)];refine X0 (Ys e2 d2 v2 ?_)
 by_cases hf:(fl==rawInt ↑L)=true
 ·rw[X9 hf];have e:fl=rawInt ↑L:=eq_of_beq hf;subst e;exact X1 (h s.heap T Chg.refl (.inr rfl) ⟨⟨vs,e1,v1⟩,⟨oT,ts,e2,d2,v2⟩,bj⟩)
 ·rw[Xb hf];refine X0 (Ye e2 d2 h3 ?_);have c1:Chg (frs (env::outer)) [x,T] s.heap (s.heap.update T (Obj.mapFields λy=>y.setIfInBounds 3 Value.none)):=Chg.of_upd.mono λy hy=>by
   rw[aC hy];simp
  have e1':(s.heap.update T (Obj.mapFields λy=>y.setIfInBounds 3 Value.none)).get? x=some { cls:=C,data:=.fields vs }:=by
   rw[Z4 _ _ _ _ bj.symm];exact e1
  have hF':(s.heap.update T (Obj.mapFields λy=>y.setIfInBounds 3 Value.none)).FunFrames base (env::outer):=by
   refine hF.of_keeps λb o e hn=>⟨o,?_,rfl⟩
   rw[Z4 _ _ _ _ λz=>?_]
   ·exact e
   ·rw[z,e2]at e;cases e;exact hn _ d2
  refine kwv (s:={ s with heap:=s.heap.update T _ }) (hadNext:=true) hA hF' hL ⟨e1',h1⟩ λh' T' c2 hs f'=>?_
  refine h h' T' (c1.trans (c2.mono (ch':=[x,T]) λy hy=>by rw[aC hy];simp) λy hy=>.inl hy) (.inl ?_) f';rw[Heap.size_update]at hs;exact hs
theorem wq9{Q:Unit->Shared->Prop}{fr:Option Addr}(f:FlT s.heap x T C fl)(h:∀h',Chg (frs outer) [x,T] s.heap h'->FlT h' x T C (fr.elim Value.none λf=>rawInt ↑f)->Q () { s with heap:=h' }):wpAny M A (setFlight (.ref x) fr) Q E s:=by
 obtain⟨⟨vs,e1,v1⟩,⟨oT,ts,e2,d2,v2⟩,bj⟩:=f;have h3:3<ts.size:=by
  rw[Array.getElem?_eq_some_iff]at v2;exact v2.1
 unfold setFlight;refine X0 (Ys e1 rfl v1 ?_);rw[X9 (show(Value.ref T != Value.none)=true from rfl)];refine Ye e2 d2 h3 (h _ (Chg.of_upd.mono λy hy=>by rw[aC hy];simp) ⟨⟨vs,?_,v1⟩,upd3 e2 d2 h3,bj⟩);rw[Z4 _ _ _ _ bj.symm];exact e1
end
theorem vka:plainId "BaseException.__getattribute__"=true:=by decide +kernel
theorem vxa:builtinKind "BaseException.__getattribute__"=some .slot:=by decide +kernel
theorem vk9:splitId "BaseException.__getattribute__"=some ("BaseException","__getattribute__"):=by decide +kernel
structure XCls (K:Frag)(C:Addr):Prop where
 ga:findIn K (.ref C) "__getattribute__"=some (some (.builtin "BaseException.__getattribute__"))
 gt:findIn K (.ref C) "__getattr__"=some none
 fo:PySem.W.findObj K C none "__class__"=some (.bind (.builtin "getset_descriptor.__get__") (.builtin "object.__class__"))
 ob:PySem.W.mroIn K C (.type "object")=some true
 bx:PySem.W.mroIn K C (.type "BaseException")=some true
 cl:(PySem.W.clsIn K C).isSome=true
section
variable {P:Program}{w:World}{A:Around}{E:Value->Shared->Prop}{s:Shared}{K:Frag}{x C:Addr}{ox:Obj}
theorem Lk{α:Type}{M:Model}{A:Around}{E:Value->Shared->Prop}{s:Shared}{t:Sem α}{r:α}{Q:α->Shared->Prop}(l:PySem.W.Looks M s.heap t r)(q:Q r s):wpAny M A t Q E s:=l A Q E s (λ_ _ e=>e) q
theorem vkc{nm:Value}{Q:Unit->Shared->Prop}(KI:K.In s.heap)(X:XCls K C)(b5:PySem.W.InstAt s.heap x ox C none)(q:Q () s):
  wpAny (model P w) A (checkBuiltinCall "BaseException.__getattribute__" { pos:=[.ref x,nm] }) Q E s:=by
 rw[checkBuiltinCall.eq_1,vxa,vk9];refine X0 ?_;unfold isInstance;refine X0 (Lk b5.type (Lk (PySem.W.looks_mroIn KI X.bx) ?_));rw[Xb ⋯];have h:=F.args_bexc_ga (.ref x) nm;unfold argsOk at h;show wpAny _ A (match Manifest.signature? "BaseException.__getattribute__" with|some sig=>Bind.checkArgs "BaseException.__getattribute__" sig { pos:=[.ref x,nm] }|x=>pure ()) Q E s;cases hs:Manifest.signature? "BaseException.__getattribute__" with
 |none=>exact X1 q
 |some sig=>
  rw[hs]at h;have h:Bind.checkArgs "BaseException.__getattribute__" sig { pos:=[.ref x,nm] }=pure ():=h;show wpAny _ A (Bind.checkArgs "BaseException.__getattribute__" sig { pos:=[.ref x,nm] }) Q E s;rw[h];exact X1 q
theorem wxb:(Value.builtin "BaseException.__getattribute__" == Value.builtin "object.__getattribute__")=false:=⋯
theorem vkb{Q:Option Value->Shared->Prop}(KI:K.In s.heap)(X:XCls K C)(b5:PySem.W.InstAt s.heap x ox C none)(q:Q (some (.ref C)) { s with toks:=s.toks+1 }):
  wpAny (model P w) A (getAttr? (.ref x) "__class__") Q E s:=by
 unfold getAttr?;refine X0 (wpAny_mkText ?_);unfold getAttrBy?;refine X0 (Zd ?_);unfold getAttrBy;refine Y0 (X0 (Lk (s:={ s with toks:=s.toks+1 }) b5.type (X0 (Lk (s:={ s with toks:=s.toks+1 }) (PySem.W.looks_findIn KI X.ga) ?_))));dsimp only;rw[Xb (by rw[wxb,Bool.and_false];decide)];unfold getAttrByItsOwn;refine X0 (Lk (s:={ s with toks:=s.toks+1 }) (PySem.W.looks_hook (K:=K) KI (r:=none) X.gt) ?_);refine X0 (Zd (Y0 ?_));unfold callGetattribute;rw[Xb ⋯];unfold boundAndCalled;rw[F.excAttr_ValueError.ga.bind];refine X0 (X1 ?_);refine wpAny_call (codeAny_call_builtin vka F.entry_bexc_ga (vkc (s:={ s with toks:=s.toks+1 }) KI X b5 ?_));unfold Builtin.«object.__getattribute__»;have iz:slotArgs "__getattribute__" 1 { pos:=[.ref x]++[.str "__class__" s.toks] }=pure (.ref x,[.str "__class__" s.toks]):=rfl;rw[iz];refine X0 (X1 ?_);show wpAny _ A.in1 (Builtin.ObjectAttr.attrName (.str "__class__" s.toks) >>= _) _ _ _;refine X0 (X1 ?_);refine X0 (Lk (s:={ s with toks:=s.toks+1 }) b5.type ?_);refine X0 (Lk (s:={ s with toks:=s.toks+1 }) (PySem.W.looks_find KI b5 X.fo) ?_);show wpAny _ A.in1 (Builtin.ObjectAttr.bindTo (.builtin "getset_descriptor.__get__") (.builtin "object.__class__") (.ref x) (.ref C)) _ _ _;unfold Builtin.ObjectAttr.bindTo;refine X0 (Y0 (wpAny_call (PySem.W.class_get (s:={ s with toks:=s.toks+1 }) KI b5 X.ob ?_)));refine X1 ?_;exact X1 (X1 q)
theorem qxk{h:Heap}(KI:K.In h)(X:XCls K C):∃o cd,h.get? C=some o/\o.data=.cls cd:=by
 have c:=X.cl;unfold PySem.W.clsIn at c
 split at c
 ·rename_i e;exact⟨_,_,KI _ _ e,rfl⟩
 ·cases c
theorem kv6(X:XCls K C):PySem.W.KitX K (.ref x) (.ref C) (λh=>∃ox,PySem.W.InstAt h x ox C none) where
 ty:=λM h KI ⟨ox,a⟩=>a.type
 it:=λM h KI _=>by
  obtain⟨o,cd,e,d⟩:=qxk KI X;intro A Q E s hk q;unfold isType;refine X0 (PySem.W.Looks.ld e A _ _ s hk ?_);rw[d];exact X1 q
 ne:=λh tp dd ai n sl KI e=>by
  obtain⟨o,cd,e',d⟩:=qxk KI X
  by_cases z:C=tp
  ·subst z;rw[e']at e;cases e;cases d
  ·simpa using z
 ca:=λKI ⟨ox,a⟩ q=>vkb KI X a q
end
def FpX(X:Cx)(pins:List (Addr×Obj))(H:Hp)(b:Addr):Prop:=
 H b=none/\b≠X.env.locals/\b∉X.fs/\(b∈X.ex\/X.s₀.heap.get? b=none)/\(∀x c,X.env.cells.lookup x=some c->c≠b)/\∀p∈X.pn++pins,p.1≠b
section
variable {X:Cx}{pins:List (Addr×Obj)}{O:L2.St}{H:Hp}{s:Shared}
theorem vjm{P:Program}{w:World}{H:Hp}{h:Heap}{b:Addr}(k:HOk P w H h)(e:h.get? b=none):H b=none:=by
 cases q:H b with
 |none=>rfl
 |some u=>
  obtain⟨o,z⟩:=(k b u q).obj;rw[e]at z;cases z
theorem fpX{H':Hp}{b:Addr}(I:Inv X pins O H s)(hb:s.heap.get? b=none)(hn:H' b=none):FpX X pins H' b:=by
 refine⟨hn,λz=>?_,λz=>?_,?_,λx c e z=>?_,λp hp z=>?_⟩
 ·obtain⟨m,⟨o,_,_,ho,_⟩,_⟩:=I.loc;rw[<-z,hb]at ho;cases ho
 ·obtain⟨_,o,e,_⟩:=I.ok.funs.mem z
  by_cases hx:b∈X.ex
  ·exact I.ok.exfs b hx z
  ·obtain⟨o',e'⟩:=I.base.there b o e hx;rw[hb]at e';cases e'
 ·by_cases hx:b∈X.ex
  ·exact .inl hx
  ·cases e:X.s₀.heap.get? b with
   |none=>exact .inr rfl
   |some o=>
    obtain⟨o',e'⟩:=I.base.there b o e hx;rw[hb]at e';cases e'
 ·obtain⟨v,o,ho,_⟩:=I.cell x c e;rw[z,hb]at ho;cases ho
 ·have:=(I.pin p hp).1;rw[z,hb]at this;cases this
theorem FpX.of{b:Addr}(h:wK X pins H b):FpX X pins H b:=⟨h.1,h.2.1,h.2.2.1,h.2.2.2.1.imp id λz=>Heap.get?_none_of_le z,h.2.2.2.2⟩
theorem kz7{h':Heap}{ch:List Addr}(I:Inv X pins O H s)(c:Chg (frs X.stack) ch s.heap h')(hf:∀b∈ch,FpX X pins H b):Inv X pins O H { s with heap:=h' }:=by
 refine I.callN (g':=s.gens) (t':=s.toks) (d':=s.drawn) (ch:=ch) ⟨λb o e _ h1 h2=>c.keep b o e h1 h2,λb o e _ _ h2=>c.slot b o e h2,λ_ _ _ n _=>n,λb o e h2=>?_,λ_ _ e=>e,λ_ _ _ e=>e,λ_ _ e=>⟨#[],by rw[e];simp⟩⟩ (λb u e=>?_) I.bare λb hb=>?_
 ·obtain⟨sl,q⟩:=c.slot b o e h2;exact⟨_,q⟩
 ·have no:∀d v,H d=some v->d∉frs X.stack/\d∉ch:=λd v e=>⟨λz=>(by rw[I.stkFree d z]at e;cases e),λz=>(by rw[(hf d z).1]at e;cases e)⟩
  refine(I.hok b u e).stay (λd v hc q=>?_) (λ_ q=>q) λ_ _ q=>q
  rcases hc with z|z
  ·rw[z]at q ⊢;exact c.keep b v q (no b u e).1 (no b u e).2
  ·exact c.keep d v q (no d _ z).1 (no d _ z).2
 ·obtain⟨_,f1,_,f3,f4,f5⟩:=hf b hb;exact⟨f3,f1,f4,f5⟩
end
structure Fx (X:Cx)(pins:List (Addr×Obj))(H:Hp)(h:Heap)(x:Addr)(C:Value):Prop where
 fp:FpX X pins H x
 st:(∃vs,Fl0 h x C vs/\vs[1]?=some .none)\/∃T fl,FlT h x T C fl/\FpX X pins H T
structure Xt (X:Cx)(pins:List (Addr×Obj))(O:L2.St)(H:Hp)(x T:Addr)(C fl:Value)(s:Shared):Prop where
 inv:Inv X pins O H s
 fx:FpX X pins H x
 fT:FpX X pins H T
 f:FlT s.heap x T C fl
theorem Xt.to{X:Cx}{pins:List (Addr×Obj)}{O:L2.St}{H:Hp}{x T:Addr}{C fl:Value}{s:Shared}(h:Xt X pins O H x T C fl s):Fx X pins H s.heap x C:=⟨h.fx,.inr ⟨T,fl,h.f,h.fT⟩⟩
def Xo(X:Cx)(E:XK)(e:Value)(s:Shared):Prop:=∃pins O H x C,e=.ref x/\Inv X pins O H s/\Fx X pins H s.heap x C/\E C none H
def xk(X:Cx)(E:XK):Prop:=∀pins O H s x C,Inv X pins O H s->Fx X pins H s.heap x C->E C none H->X.xe (.ref x) s
abbrev Cx.ex'(X:Cx)(E:XK):Cx:=X.wish (Xo X E)
theorem xV{X:Cx}{E:XK}:xk (Cx.ex' X E) E:=λpins O H s x C I f q=>⟨pins,O,H,x,C,rfl,I.unwish,⟨f.fp,f.st⟩,q⟩
def z7(X:Cx):Prop:=∃env0 out,X.stack=env0::out/\X.env.frame=env0.frame
section
variable {X:Cx}{pins:List (Addr×Obj)}{O:L2.St}{H:Hp}{s:Shared}{M:Model}{E':Value->Shared->Prop}{x T:Addr}{C fl:Value}
theorem qja{A:Around}{Q:Unit->Shared->Prop}(top:z7 X)(hA:A.frames=X.A.frames)(I:Inv X pins O H s)(f:Fx X pins H s.heap x C)(h:∀L T s',X.env.frame=some L->Xt X pins O H x T C (rawInt ↑L) s'->Q () s'):
  wpAny M A (noteFrame (.ref x) X.env) Q E' s:=by
 obtain⟨env0,out,e1,e2⟩:=top;have hF:=I.stack;have p5:A.frames=some (env0::out):=by rw[hA,I.ok.frames,e1]
 rw[e1]at hF;obtain⟨_,⟨L,o,hL,_⟩,_⟩:=id hF;rw[kjk e2];have hL':X.env.frame=some L:=e2.trans hL;rcases f.st with⟨vs,f0,hv⟩|⟨T,fl,fT,pT⟩
 ·refine wwr p5 hF hL f0 hv λh' T' c hs m6=>h L T' _ hL' ⟨?_,f.fp,fpX I (Heap.get?_none_of_le hs) (I.hok.fresh hs),m6⟩
  rw[<-e1]at c;exact kz7 I c λb hb=>by rw[aC hb];exact f.fp
 ·refine wwq p5 hF hL fT λh' T' c hs m6=>?_
  rw[<-e1]at c;refine h L T' _ hL' ⟨kz7 I c λb hb=>?_,f.fp,?_,m6⟩
  ·simp only[Y1,Xm,or_false]at hb;rcases hb with rfl|rfl
   ·exact f.fp
   ·exact pT
  ·rcases hs with hs|hs
   ·exact fpX I (Heap.get?_none_of_le hs) (I.hok.fresh hs)
   ·rw[hs];exact pT
theorem jxa{A:Around}{Q:Unit->Shared->Prop}{fr:Option Addr}(t:Xt X pins O H x T C fl s)(h:∀s',Xt X pins O H x T C (fr.elim Value.none λf=>rawInt ↑f) s'->Q () s'):wpAny M A (setFlight (.ref x) fr) Q E' s:=by
 refine wq9 (outer:=X.stack) t.f λh' c m6=>h _ ⟨kz7 t.inv c λb hb=>?_,t.fx,t.fT,m6⟩
 simp only[Y1,Xm,or_false]at hb;rcases hb with rfl|rfl
 ·exact t.fx
 ·exact t.fT
theorem wk0{α:Type}{A:Around}{what:String}{jt:Env}{Q:α->Shared->Prop}(t:Xt X pins O H x T C fl s)(h:∀s' m6,Xt X pins O H x T C m6 s'->E' (.ref x) s'):wpAny M A (PySem.passOn what (.ref x) jt:Sem α) Q E' s:=by
 unfold PySem.passOn;obtain⟨vs,e1,v1⟩:=t.f.ex;refine X0 (Ys e1 rfl v1 ?_);rw[Xb (show ¬(Value.ref T==Value.none)=true by intro z;cases z)];refine X0 (jxa t λs' t'=>?_);exact wpAny_throw (h s' _ t')
theorem vvy{E:XK}(top:z7 X):PassesOwn M X.A X.env (Xo X E):=by
 rintro e s' ⟨pins,O,H,x,C,rfl,I,f,q⟩;unfold notedBy;refine qja top rfl I f λL T s1 _ t=>?_
 unfold cameBackBy;obtain⟨vs,e1,v1⟩:=t.f.ex;refine X0 (Ys e1 rfl v1 ?_);rw[Xb (show ¬(Value.ref T==Value.none)=true by intro z;cases z)];exact jxa t λs2 t2=>⟨pins,O,H,x,C,rfl,t2.inv,t2.to,q⟩
end
def CXE(P:Program)(w:World):CXT:=λouter H s E e s'=>∃x T C fl H',e=.ref x/\s'.os=s.os/\AllBare s'.gens/\Un (frs outer) [] H H' s.heap s'.heap/\HOk P w H' s'.heap /\
 s.heap.get? x=none/\s.heap.get? T=none/\H' x=none/\H' T=none/\FlT s'.heap x T C fl/\E C none H'
theorem wwm{X:Cx}{E:XK}(g:xk X E):qz5 (CXE X.prog X.w) X E:=by
 rintro pins O H s e s' I ⟨x,T,C,fl,H',rfl,os,bare,un,hok,hx,hT,nx,nT,f,q⟩;refine g pins O H' s' x C (I.call' os un hok bare λb hb=>nomatch hb) ⟨fpX I hx nx,.inr ⟨T,fl,f,fpX I hT nT⟩⟩ q
theorem vqv{CX:CXT}{P:Program}{w:World}{K:Frag}{mg:Str->Option Value}{base:Heap}{N:List Str}{qual:Str}{scope:Scope}{f:Addr}{cd:Value}{A:Around}{outer:List Env}{s:Shared}{H:Hp}{E:XK}:
  z7 (Jx CX P w K mg base N qual scope f cd A outer s H E):=⟨_,_,rfl,rfl⟩
theorem qwg{P:Program}{w:World}{K:Frag}{mg:Str->Option Value}{base:Heap}{N:List Str}{qual:Str}{scope:Scope}{f:Addr}{cd:Value}{A:Around}{outer:List Env}{s:Shared}{H:Hp}{E:XK}{e:Value}{s':Shared}
  (h:Xo (Jx (CXE P w) P w K mg base N qual scope f cd A outer s H E) E e s'):(Jx (CXE P w) P w K mg base N qual scope f cd A outer s H E).xe e s':=by
 obtain⟨pins,O,H',x,C,rfl,I,fx,q⟩:=h;show wpAny (model P w) _ (leaving _ (.ref x)) _ _ s';unfold leaving;refine X0 (qja (X:=Jx (CXE P w) P w K mg base N qual scope f cd A outer s H E) vqv rfl I fx λL T s1 _ t=>?_);refine jxa t λs2 t2=>?_
 have ge:∀b,FpX (Jx (CXE P w) P w K mg base N qual scope f cd A outer s H E) pins H' b->s.heap.get? b=none:=λb hb=>hb.2.2.2.1.elim (λz=>nomatch z) λz=>z
 exact⟨x,T,C,_,H',rfl,t2.inv.os,t2.inv.bare,t2.inv.base,t2.inv.hok,ge x t2.fx,ge T t2.fT,t2.fx.1,t2.fT.1,t2.f,q⟩
section
variable {P:Program}{w:World}{K:Frag}{mg:Str->Option Value}{base:Heap}
theorem v3{x qual:Str}{st:Stmt}{f:Addr}{fd:FuncData}{N ps:List Str}{k:Nat}{sp:Sp}(F:Fun K x qual st f fd)(S:FnScope N ps (kW st))(len:∀vs H Q E,sp vs H Q E->vs.length=ps.length)
  (jr:∀(bi:Value) (A:Around) (outer:List Env) (s:Shared) (H:Hp) (vs:List V) (Q:VK) (E:XK),Room k (A.deeper (envOfC qual (kW st) s.heap.objs.size f bi))->sp vs H Q E ->
   ∃t,PSs (Cx.ex' (Jx (CXE P w) P w K mg base N qual (kW st) f bi A outer s H E) E) (Q0 st) t/\t { nx:=λ_ H'=>Q .non H',rt:=Q } (L2.start N vs) H):FnOk P w K mg base (CXE P w) (k+1) f fd ps sp:=by
 obtain⟨oc,od,kV,gh,pm,an,bi,ct,lx,rfl,lk,i9⟩:=F.ex;refine wx0 lk i9 S len λA outer s H vs Q E hr ji=>?_
 obtain⟨t,h,q⟩:=jr bi A outer s H vs Q E hr ji;exact⟨t,λpins s' O H' D I hw=>Zi (h pins s' O H' D (I.wish _) hw) (λf kh z=>z.unwish) λe kh z=>qwg z,q⟩
def kZ(P:Program)(w:World)(K:Frag)(mg:Str->Option Value)(base:Heap)(k:Nat)(x:Str)(ps:List Str)(sp:Sp):Prop:=
 ∃(f:Addr) (fd:FuncData),FnOk P w K mg base (CXE P w) k f fd ps sp/\Binds K fd ps []/\PySem.W.keepIn K (.ref f)=true/\mg x=some (.ref f)
end
section
variable {X:Cx}{x:Str}{p pos:Pos}{e:Expr}{es:List Expr}{t:TA}{ps:List Str}{sp:Sp}{k:Nat}{v:V}{E:XK}
theorem qvu(D:kZ X.prog X.w X.K X.mg X.base k x ps sp)(hr:Room k X.A)(g:xk X E)(ha:PA X (e::es) t)(hg:autoParam (Gl X x) Ŕ)(df:autoParam ((x==("__debug__":Str))=false) ŕ)
  (he:autoParam (starEach (e::es) X.env=(false,eval e X.env)::starEach es X.env) Ŕ) (bu:autoParam ((backTo pos (starEach es X.env)).any (·.1)=false) Ŕ):
  PE X (.Call (.Name x p) (e::es) [] pos) (vqw sp [] E t):=by
 obtain⟨f,fd,F,b,kp,m⟩:=D;exact vvv F hr hg m kp b .nil (wwm g) ha df he bu
end
abbrev lcE(X:Cx)(scope:Scope)(N:List Str)(cl:List (Str×Addr))(C:Addr)(s0:Shared)(H0:Hp)(fp:List Addr)(EX:XK):Cx:=Cx.ex' (lcX X scope N cl C s0 H0 fp) EX
section
variable {prog:Program}{w:World}{A:Around}{R:Result->Shared->Prop}{s:Shared}
theorem vwe{ei ef iter:Expr}{dq:List Expr}{scope:Scope}{pos:Pos}{it aq:Value}{env:Env}(Ex:Value->Shared->Prop)(I:Nat->Shared->Prop)
  (fk:∀n s,I n s->wpAny (model prog w) A (pyNext it) (λr s1=>match r with
   | none=>R (.ok .next) s1
   | some v=>wpAny (model prog w) A (letOwnedTupleGo ef it v) (λ_ s2=>wpAny (model prog w) A (assign ef env v) (λ_ s3=>
     wpAny (model prog w) A (qwi dq env) (λok s4=>
      if ok=true then
       wpAny (model prog w) A (eval ei env) (λx s5=>wpAny (model prog w) A (call (.builtin "list.append") [aq,x]) (λ_ s6=>∃m,m<n/\I m s6) Ex s5) Ex s4
      else ∃m,m<n/\I m s4) Ex s3) Ex s2) Ex s1) Ex s)
  (hx:∀e s,Ex e s->notedBy (model prog w) A env (λe s'=>R (.error e) s') e s) (n:Nat) (h:I n s):codeAny (model prog w) A (.compLoop (.ListComp ei [⟨ef,iter,dq,0⟩] scope pos) 0 it aq env) R s:=by
 refine codeAny_loop rfl I (λn s hI=>?_) n h;show wpAny _ A ((compTurn (.ListComp ei [⟨ef,iter,dq,0⟩] scope pos) 0 it aq env).onRaise _) _ _ s;refine wpAny_noted ?_;rw[compTurn_list];refine Zi (E:=Ex) (X0 (wpAny_standAt (X0 (thn (fk n s hI) λr s1 h1=>?_)))) (λ_ _ q=>q) (λe s q=>?_)
 rotate_left
 ·exact hx e s q
 cases r with
 |none=>exact X1 h1
 |some v=>
  refine X0 (thn h1 λ_ s2 h2=>?_);refine X0 (thn h2 λ_ s3 h3=>?_);refine X0 (thn h3 λok s4 h4=>?_);cases ok with|false=>exact X1 ⟨rfl,h4⟩|true=>exact X0 (X0 (thn h4 λx s5 h5=>X0 (thn h5 λ_ s6 h6=>X1 (X1 ⟨rfl,h6⟩))))
end
section
variable {X:Cx}{tg iter ei:Expr}{dq:List Expr}{scope:Scope}{N:List Str}{k:Nat}{R:List Nat}{g:TG}{tt:TT}{te:TE}{pos:Pos}
theorem vq5{EX:XK}{pins d9:List (Addr×Obj)}{O σ':L2.St}{H2 H':Hp}{s2 s':Shared}{fp:List Addr}{cl:List (Str×Addr)}{C x T:Addr}{Cc fl:Value}{Q:Value->Shared->Prop}{aq:Value}{use:Option (Value->Sem Unit)}(gx:xk X EX)
  (I2:Inv X pins O H2 s2) (f2:∀b∈fp,wK X pins H2 b) (hC:s2.heap.objs.size<=C) (t:Xt (lcX X scope N cl C s2 H2 fp) d9 σ' H' x T Cc fl s') (q:EX Cc none H'):
  compPost (model X.prog X.w) X.A X.xe use Q aq C (.error (.ref x)) s':=by
 obtain⟨m,hn,_⟩:=t.inv.loc;refine⟨m,hn,λh' sb jt _=>?_⟩;have J1:Inv X pins O H' s':=I2.call' t.inv.os t.inv.base t.inv.hok t.inv.bare λb hb=>⟨(f2 b hb).2.2.2.1,(f2 b hb).2.1,(f2 b hb).2.2.2.2.1,(f2 b hb).2.2.2.2.2⟩
 have fC:wK X pins H' C:=I2.fpOk hC t.inv.free;have J2:Inv X pins O H' { s' with heap:=h',toks:=s'.toks }:=J1.turned (it:=C) (λb o hb e=>(sb.2 b hb).trans e) fC.1 fC.2.1 fC.2.2.2.1 fC.2.2.2.2.1 fC.2.2.2.2.2;have fp':∀b,FpX (lcX X scope N cl C s2 H2 fp) d9 H' b->FpX X pins H' b:=λb hb=>by
  rcases hb.2.2.2.1 with z|z
  ·exact⟨hb.1,(FpX.of (f2 b z)).2⟩
  ·exact fpX I2 z hb.1
 have nx:x≠C:=t.fx.2.1;have nT:T≠C:=t.fT.2.1;have f:FlT h' x T Cc fl:=by
  obtain⟨⟨vs,e1,v1⟩,⟨oT,ts,e2,d2,v2⟩,bj⟩:=t.f;exact⟨⟨vs,(sb.2 x nx).trans e1,v1⟩,⟨oT,ts,(sb.2 T nT).trans e2,d2,v2⟩,bj⟩
 refine wk0 (X:=X) (pins:=pins) (O:=O) (H:=H') (s:={ s' with heap:=h' }) ⟨J2,fp' x t.fx,fp' T t.fT,f⟩ λs3 m6 t3=>gx pins O H' s3 x Cc t3.inv t3.to q
theorem kwe{EX:XK}{pins:List (Addr×Obj)}{O:L2.St}{H2:Hp}{s2:Shared}{it:Addr}{fp:List Addr}{tn:Nat->Heap->Prop}{J:It}{Q:VK}{W:Nat->Nat->List V->L2.St->Hp->Prop}{cl:List (Str×Addr)}{E:Value->Shared->Prop}
  {RR:Value->Addr->Result->Shared->Prop} (hc:X.calm=true) (top:z7 X) (sc:LcOk X scope N k R)
  (dy:∀x c,cl.lookup x=some c->X.env.cells.lookup x=some c) (bp:∀y∈scope.names,y.2=.free->∃c,cl.lookup y.1=some c)
  (hg:∀C s0 H0 fp,PG (lcE X scope N cl C s0 H0 fp EX) tg g) (ht:∀C s0 H0 fp,PTs (lcE X scope N cl C s0 H0 fp EX) dq tt) (he:∀C s0 H0 fp,PE (lcE X scope N cl C s0 H0 fp EX) ei te)
  (I2:Inv X pins O H2 s2) (T:Turn X.prog X.w X.K tg J fp it tn) (bo:tn 0 s2.heap) (f2:∀b∈fp,wK X pins H2 b) (w0:∃m,W 0 m [] (JK k R O) H2) (fk:LcW g tt te Q J W)
  (hRR:∀D C oC m ys H' s',Inv X (pins++[(C,oC)]) O (upd H' D (.lst ys)) s'->s'.heap.get? C=some oC->s'.heap.Ns C m->wK X pins (upd H' D (.lst ys)) C->Q (.ref D) (upd H' D (.lst ys))->RR (.ref D) C (.ok .next) s')
  (hER:∀D C s' d9 σ' H' x T Cc fl,s2.heap.objs.size<=C->Xt (lcX X scope N cl C s2 H2 fp) d9 σ' H' x T Cc fl s'->EX Cc none H'->RR (.ref D) C (.error (.ref x)) s'):
  wpAny (model X.prog X.w) X.A (newList []) (λaq s3=>wpAny (model X.prog X.w) X.A (newFunctionEnv scope X.env.globals cl [] X.env.qual none .none (some X.env)) (λjt s4=>
   codeAny (model X.prog X.w) X.A (.compStart (.ListComp ei [⟨tg,iter,dq,0⟩] scope pos) 0 (.ref it) aq { jt with scope:=relabel scope X.env }) (RR aq jt.locals) s4) E s3) E s2:=by
 have rk:∀b∈fp,∃o,s2.heap.get? b=some o:=λb hb=>let ⟨o,e,_⟩:=T.obj 0 _ bo b hb;⟨o,e⟩
 refine Xp (wpAny_newFunctionEnv sc.nocell (by intro y hy;simp at hy) (λh1 p6 qo=>?_) sc.kind);dsimp only at p6 qo ⊢;generalize eH:s2.heap.push { cls:=.type "list",dict:=none,data:=.seq ([]:List Value).toArray }=Hx at p6 qo ⊢;have eC:Hx.objs.size=s2.heap.objs.size+1:=by rw[<-eH,Zf]
 generalize eD:s2.heap.objs.size=D at eC;generalize eC':Hx.objs.size=C at p6 qo eC ⊢;have nv:D≠C:=⋯
 have hC:s2.heap.objs.size<=C:=⋯
 have hD:s2.heap.objs.size<=D:=⋯
 have dz:∀b o,s2.heap.get? b=some o->h1.get? b=some o:=λb o e=>by
  exact qo.extBut b o (Xg (Xf (Xa e) hC)) (X3 _ (eH▸X3 _ e))
 have accD:h1.get? D=some (ZZ [] 0):=by
  refine qo.extBut _ _ nv (X3 _ ?_);rw [<-eH,<-eD];exact X6 _ rfl
 have below:∀b∈fp,b≠D/\b≠C:=λb hb=>by
  obtain⟨o,e⟩:=rk b hb;exact⟨Xg (Xf (Xa e) hD),Xg (Xf (Xa e) hC)⟩
 have ia:∀{H':Hp} {oD:Obj},(∀b∈fp,H' b=none)->∀b∈fp,wK (lcE X scope N cl C s2 H2 fp EX) [(D,oD)] H' b:=fun {H' oD} hn b hb=>by
  obtain⟨_,f1,f3,f4,f5,f6⟩:=f2 b hb;refine⟨hn b hb,(below b hb).2,λz=>?_,.inl hb,λx c h=>f5 x c (dy x c h),λp hp=>?_⟩
  ·rcases aD (I2.stkSub b z)with y|y
   ·exact f1 y
   ·exact f3 y
  ·have e:p=(D,oD):=by
    have hp:p∈([]++[(D,oD)]:List (Addr×Obj)):=hp
    simpa using hp
   rw [e];exact(below b hb).1.symm
 have loop:∀s3:Shared,s3={ s2 with heap:=h1,toks:=s2.toks+([]:List (Str×Value)).length } ->
   codeAny (model X.prog X.w) X.A (.compLoop (.ListComp ei [⟨tg,iter,dq,0⟩] scope pos) 0 (.ref it) (.ref D) (compEnvC scope cl C X.env)) (RR (.ref D) C) s3:=by
  rintro s3 rfl;obtain⟨m0,w0⟩:=w0;have hxx:∀e s,Xo (lcX X scope N cl C s2 H2 fp) EX e s->notedBy (model X.prog X.w) X.A (compEnvC scope cl C X.env) (λe s'=>RR (.ref D) C (.error e) s') e s:=by
   rintro e s ⟨d9,σ',H',x,Cc,rfl,I',f',q'⟩;have top':z7 (lcX X scope N cl C s2 H2 fp):=top;exact qja (X:=lcX X scope N cl C s2 H2 fp) top' rfl I' f' λL T s1 _ t=>hER D C s1 d9 σ' H' x T Cc _ hC t q'
  refine vwe (Xo (lcX X scope N cl C s2 H2 fp) EX) (λn s'=>∃i ys ai nn σ' H',Inv (lcE X scope N cl C s2 H2 fp EX) [(D,ZZ ai nn)] σ' H' s'/\Vals ys ai/\tn i s'.heap/\(∀b∈fp,H' b=none)/\W i n ys σ' H') ?_ hxx m0
   ⟨0,[],[],0,_,H2,(vwc I2 sc f2 rk hC hD nv dy bp dz p6 accD (λv z=>by cases z)).wish _,.nil,T.keep _ _ _ bo (λb hb o e=>dz b o e),λb hb=>(f2 b hb).1,w0⟩
  rintro n s3 ⟨i,ys,ai,nn,σ3,H3,I3,rv,de,oi,w3⟩;rcases fk i n ys σ3 H3 w3 with⟨stop,hz,qn⟩|⟨go,step⟩
  ·refine thn (T.done (lcE X scope N cl C s2 H2 fp EX) rfl rfl rfl hc i _ s3 σ3 H3 _ I3 (ia oi) de stop) λr s4 ⟨hr,I4⟩=>?_
   subst hr;show RR (.ref D) C (.ok .next) s4;have hD4:=I4.pin (D,ZZ ai nn) (by show _∈([]++[(D,ZZ ai nn)]:List (Addr×Obj));simp);have J1:Inv X pins O H3 s4:=I2.call' I4.os I4.base I4.hok I4.bare λb hb=>⟨(f2 b hb).2.2.2.1,(f2 b hb).2.1,(f2 b hb).2.2.2.2.1,(f2 b hb).2.2.2.2.2⟩
   have fD:wK X pins H3 D:=I2.fpOk hD hD4.2.1;have fC:wK X pins H3 C:=I2.fpOk hC I4.free;have J2:Inv X pins O (upd H3 D (.lst ys)) s4:=kwi J1 hD4.2.1 fD.2.1 fD.2.2.2.1 fD.2.2.2.2.1 fD.2.2.2.2.2 ⟨hz,ai,nn,rv,hD4.1⟩;obtain⟨mC,nC,_⟩:=I4.loc;obtain⟨oC,es,ep,hoC,hdC,m8⟩:=id nC;have fC':wK X pins (upd H3 D (.lst ys)) C:=⟨by rw[kz nv.symm];exact fC.1,fC.2⟩;refine hRR D C oC mC ys H3 s4 (J2.pins_of λp hp=>?_) hoC nC fC' (qn D hD4.2.1);rcases aA hp with z|z
   ·exact J2.pin p (lr9 _ z)
   ·rw[aC z];exact⟨hoC,fC'.1,fC'.2.1,fC'.2.2.1,λv y=>by rw[hdC]at y;cases y⟩
  ·refine thn (T.item (lcE X scope N cl C s2 H2 fp EX) rfl rfl rfl hc i _ s3 σ3 H3 _ I3 (ia oi) de go) λr s4 ⟨u,hr,h4⟩=>?_
   subst hr;refine thn h4 λ_ s5 ⟨x,H5,I5,r5,y5,lm,fr5⟩=>?_
   have I5':=I5.pinned (ia fr5) (T.obj _ _ lm);have ij:∀{σ':L2.St} {H':Hp} {s':Shared} {pl:List (Addr×Obj)},Inv (lcE X scope N cl C s2 H2 fp EX) (pl++KK fp s5.heap) σ' H' s'->tn (i+1) s'.heap/\∀b∈fp,H' b=none:=fun {σ' H' s' pl} I'=>by
    have q:∀b∈fp,∀o,s5.heap.get? b=some o->s'.heap.get? b=some o/\H' b=none:=λb hb o e=>by
     obtain⟨a1,a2,_⟩:=I'.pin (b,o) (lr9 _ (lr9 _ (jz2 hb e)));exact⟨a1,a2⟩
    refine⟨T.keep _ _ _ lm λb hb o e=>(q b hb o e).1,λb hb=>?_⟩;obtain⟨o,e,_⟩:=T.obj _ _ lm b hb;exact(q b hb o e).2
   refine thn (hg C s2 H2 fp _ s5 σ3 H5 x u _ I5' r5 (step x H5 y5)) λ_ s6 ⟨σ6,H6,I6,Ny,Nn,hNy,hNn,q6⟩=>?_
   refine thn (ht C s2 H2 fp _ s6 σ6 H6 _ I6 q6) λok s7 ⟨H7,I7,q7⟩=>?_
   cases ok with
   | false=>
    obtain⟨m',hm,w7⟩:=hNn _ q7;exact⟨m',hm,i+1,ys,ai,nn,σ6,H7,I7.unpinned,rv,(ij I7).1,(ij I7).2,w7⟩
   | true=>
    refine thn (he C s2 H2 fp _ s7 σ6 H7 _ I7 q7) λu8 s8 ⟨y,H8,I8,r8,q8⟩=>?_
    obtain⟨hz,m',hm,w8⟩:=hNy _ _ q8;have pD:=I8.pin (D,ZZ ai nn) (lr9 _ (ll9 _ (aB rfl)));have av:=rv.length;refine append_at (hsz:=by rw[X5];omega) pD.1 λh9 sb9 e9=>?_
    have I8a:Inv (lcE X scope N cl C s2 H2 fp EX) ([]++KK fp s5.heap) σ6 H8 s8:=I8.pins_of λp hp=>I8.pin p (lr9 _ (lr9 _ hp))
    have I9:Inv (lcE X scope N cl C s2 H2 fp EX) ([]++KK fp s5.heap) σ6 H8 { s8 with heap:=h9,toks:=s8.toks }:=I8a.turned (it:=D) (λb o hb e=>(sb9.2 b hb).trans e) pD.2.1 nv (.inr hD)
     (λx c h z=>by
      obtain⟨v,q⟩:=I2.cell x c (dy x c h);exact absurd (Xf q.lt (by rw[z];exact hD)) (Yp _))
     (λp hp z=>by
      have hp:p∈([]++([]++KK fp s5.heap):List (Addr×Obj)):=hp;have hp:p∈KK fp s5.heap:=by simpa using hp
      exact(below p.1 (kwb hp).1).1 z)
    have e9':h9.get? D=some (ZZ (ai++[u8]) (nn+1)):=by rw[e9];simp[List.push_toArray]
    refine⟨m',hm,i+1,ys++[y],ai++[u8],nn+1,σ6,H8,I9.pins_of λp hp=>?_,rv.append (.cons r8 .nil),(ij I9).1,(ij I9).2,w8⟩;rw[aC hp];exact⟨e9',pD.2.1,pD.2.2.1,pD.2.2.2.1,λv z=>by cases z⟩
 exact codeAny_compStart_list (loop _ rfl) (T.self _ 0 _ _ _ (T.keep _ _ _ bo λb hb o e=>dz b o e) (loop _ rfl))
theorem vky{EX:XK}{wi:TI}(N:List Str)(k:Nat)(R:List Nat)(hi:PI X tg iter wi)
  (hg:∀cl C s0 H0 fp,PG (lcE X scope N cl C s0 H0 fp EX) tg g) (ht:∀cl C s0 H0 fp,PTs (lcE X scope N cl C s0 H0 fp EX) dq tt) (he:∀cl C s0 H0 fp,PE (lcE X scope N cl C s0 H0 fp EX) ei te)
  (gx:xk X EX) (top:z7 X) (hc:autoParam (X.calm=true) Ŕ) (hk:autoParam (scope.kind=.function) Ŕ) (ja:autoParam (KW X.N X.env.scope scope N k R=true) Ŕ) (hs:autoParam (∀x,foldedSetIterable iter X.env x=pure x) Ŗ):
  PE X (.ListComp ei [⟨tg,iter,dq,0⟩] scope pos) (tLC wi g tt te k R):=by
 intro pins s O H Q I h;have sc:=qjh hk ja;obtain⟨cl,jy,dy,bp⟩:=kq7 (scope:=scope) (env:=X.env) λy hy e=>I.ok.has y.1 (sc.caps y hy e)
 rw[eval_ListComp];refine wpAny_comprehension_free (use:=none) rfl hs jy sc.kind sc.names (thn (hi pins s O H _ I h) λv s1 h1=>thn h1 λitv s2 h2=>?_);obtain⟨it,fp,tn,J,H2,e,I2,T,bo,f2,W,w0,fk⟩:=h2;subst e;refine kwe (EX:=EX) (RR:=λaq C=>compPost (model X.prog X.w) X.A X.xe none (EP X pins O Q) aq C) hc top sc dy bp (hg cl) (ht cl) (he cl) I2 T bo f2 w0 fk ?_ ?_
 rotate_left
 ·intro D C s' d9 σ' H' x T Cc fl hC t q;exact vq5 gx I2 f2 hC t q
 intro D C oC m ys H' s' I' _ nC fC q;exact⟨m,nC,λh' sb=>⟨.ref D,_,I'.unpinned.turned (it:=C) (t':=s'.toks) (λb o hb e=>(sb.2 b hb).trans e) fC.1 fC.2.1 fC.2.2.2.1 fC.2.2.2.2.1 fC.2.2.2.2.2,rfl,q⟩⟩
end
abbrev bmV:List Value:=[.type "ValueError",.type "Exception",.type "BaseException",.type "object"]
structure ECls (K:Frag)(mg:Str->Option Value)(x:Str)(C:Addr):Prop where
 bd:mg x=some (.ref C)
 ec:PySem.W.excIn K C bmV "ValueError.__new__"=true
 xc:XCls K C
theorem vvw{K:Frag}{h:Heap}{C:Addr}{bmB:List Value}{ma:String}(KI:K.In h)(e:PySem.W.excIn K C bmB ma=true):
  ∃ bm N nm q bs hdct sn sub ab col dd k0 k1 k2 k3 k5 mN,h.get? C=some (excClassObj nm q C N bs bm hdct sn sub ab col dd k0 k1 k2 k3 k5 ma)/\h.Ns N mN/\mN "__init__"=none/\OwnTail h bmB bm:=by
 unfold PySem.W.excIn at e
 split at e
 ·rename_i dict cd sl hl
  split at e
  ·rename_i bm C' k0 k1 k2 k3 n k5 hm hs;simp only[Bool.and_eq_true,beq_iff_eq,Bool.not_eq_true']at e;obtain⟨⟨⟨⟨⟨e1,e2⟩,e3⟩,e4⟩,e5⟩,e6⟩:=e;subst e1 e2;have g:=KI _ _ hl;obtain⟨nm,bs,mro,ns,qn,hd,hdel,sn,sub,ab,col⟩:=cd;dsimp only at hm e3 e5 e6;subst hm e3;have iz:sl=#[k0,k1,k2,k3,some (Value.builtin n),k5]:=by
    apply Array.toList_inj.mp;rw[hs]
   subst iz;exact⟨_,ns,nm,qn,bs,hd,hdel,sn,sub,ab,dict,k0,k1,k2,k3,k5,h.nsMap ns,g,Heap.Ns.of_isNs (PySem.W.isNs_of_in KI e5),PySem.W.nsMap_none_of_in KI e5 e6,PySem.W.tail_of_in KI e4⟩
  ·cases e
 ·cases e
section
variable {X:Cx}{x:Str}{np au pos:Pos}{e:Expr}{es:List Expr}{ta:TA}{C:Addr}{E:XK}
abbrev vz5(E:XK)(C:Addr)(ta:TA):TS:=λ_ O H=>ta O H λvs H1=>vs.length<=sizeLine/\E (.ref C) none H1
theorem vj0(c:ECls X.K X.mg x C)(g:xk X E)(ha:PA X (e::es) ta)(hg:autoParam (Gl X x) Ŕ)(hc:autoParam (X.calm=true) Ŕ)(df:autoParam ((x==("__debug__":Str))=false) ŕ)
  (he:autoParam (starEach (e::es) X.env=(false,eval e X.env)::starEach es X.env) Ŕ) (bu:autoParam (((backTo au (starEach (e::es) X.env)).any (·.1))=false) Ŕ):
  PS X (.Raise (some (.Call (.Name x np) (e::es) [] au)) none pos) (vz5 E C ta):=by
 intro pins s O H D I h;obtain⟨bm,N,nm,q,bs,hdct,sn,sub,ab,col,dd,k0,k1,k2,k3,k5,mN,o1,o2,o3,o4⟩:=vvw I.ok.mod.kin c.ec;refine wpAny_Raise_call_subT (nm:=nm) (q:=q) (C:=C) (N:=N) (bs:=bs) (bm:=bm) (hdct:=hdct) (sn:=sn) (sub:=sub) (ab:=ab) (col:=col) (dd:=dd) (k0:=k0) (k1:=k1) (k2:=k2) (k3:=k3) (k5:=k5) (bmB:=bmV) F.excBase_ValueError (o4.hasType (X:="BaseException") rfl) (I.ok.hd hc) bu o3 (kjo I hg c.bd ⟨rfl,?_⟩ df);obtain⟨y0,r0,j'⟩:∃y r,backTo au (starEach (e::es) X.env)=(false,y)::r:=by rw[he];exact⟨_,_,rfl⟩
 have ji:=ha au pins s O H _ I h;rw[j']at ji ⊢;refine Calls.evalArgs_plain (thn ji λus s2 ⟨vs,H1,I1,r1,q1⟩=>⟨rfl,by rw[<-r1.length];exact q1.1,I1.bk _ _ o1,?_,?_,λh' ea made=>?_⟩)
 ·obtain⟨o,es',ep,ho,r⟩:=o2;exact⟨o,es',ep,I1.bk _ _ ho,r⟩
 ·exact o4.keeps λb o e=>I1.bk b o e
 ·obtain⟨t,m1,m2,m3⟩:=made.there;have J:Inv X pins O H1 { s2 with heap:=h',toks:=s2.toks }:=I1.kept made.keeps;exact g pins O H1 _ ea (.ref C) J ⟨fpX I1 made.new (vjm I1.hok made.new),.inl ⟨_,⟨m1,by show(1:Nat)<6;decide⟩,rfl⟩⟩ q1.2
def XX(X:Cx)(pins:List (Addr×Obj))(O:L2.St)(E:XK)(e:Value)(s:Shared):Prop:=∃H x C,e=.ref x/\Inv X pins O H s/\Fx X pins H s.heap x C/\E C none H
def PSX(X:Cx)(st:Stmt)(t:XK->TS):Prop:=∀(E:XK) (pins:List (Addr×Obj)) (s:Shared) (O:L2.St) (H:Hp) (D:Ends),Inv X pins O H s->t E D O H->wpAny (model X.prog X.w) X.A (exec st X.env) (SP X pins D) (XX X pins O E) s
def PEX(X:Cx)(ex:Expr)(t:XK->TE):Prop:=∀(E:XK) (pins:List (Addr×Obj)) (s:Shared) (O:L2.St) (H:Hp) (Q:VK),Inv X pins O H s->t E O H Q->wpAny (model X.prog X.w) X.A (eval ex X.env) (EP X pins O Q) (XX X pins O E) s
theorem vj3{k:Nat}{ps:List Str}{sp:Sp}(D:kZ X.prog X.w X.K X.mg X.base k x ps sp)(hr:Room k X.A)(ha:PA X.nox (e::es) ta)(hg:autoParam (Gl X x) Ŕ)(df:autoParam ((x==("__debug__":Str))=false) ŕ)
  (he:autoParam (starEach (e::es) X.env=(false,eval e X.env)::starEach es X.env) Ŕ) (bu:autoParam ((backTo pos (starEach es X.env)).any (·.1)=false) Ŕ):
  PEX X (.Call (.Name x np) (e::es) [] pos) (λE=>vqw sp [] E ta):=by
 obtain⟨f,fd,F,hb,kp,m⟩:=D;intro E pins s O H Q I h;refine Yx (kjo I hg m ?_ df);refine PySem.W.callWith_K (h₀:=X.base) I.ok.mod.kin kp (Zi (ha pos pins s O H _ (I.wish _) h) (λus s1 ⟨vs,H1,I1,r,q⟩=>⟨I1.kIn,?_⟩) λ_ _ z=>z.elim) he bu;have I1:=I1.unwish;have q:sp (vs++[]) H1 Q E:=q;have hl:us.length=ps.length:=by
  rw[<-r.length];have:=F.len _ _ _ _ q
  rwa [Xw]at this
 refine wpAny_call (codeAny_mono (F.run X.A X.stack s1 H1 ⟨us,[]⟩ us vs Q E hr I1.env0 (by have:=hb s1 us I1.kIn (by rw[Xw];exact hl);rwa [Xw]at this) r (by rwa [Xw]at q)) λrr s' hq=>?_);cases rr with
 |error e=>
  obtain⟨x,T,C,fl,H',rfl,os,bare,un,hok,hx,hT,nx,nT,f,q⟩:=hq;exact⟨H',x,C,rfl,I1.call' os un hok bare (λb hb=>nomatch hb),⟨fpX I1 hx nx,.inr ⟨T,fl,f,fpX I1 hT nT⟩⟩,q⟩
 |ok fl=>
  cases fl with|ret u=>exact I1.after hq|next=>exact False.elim hq|brk=>exact False.elim hq|cont=>exact False.elim hq
theorem qzx{ex:Expr}{t:XK->TE}(h:PEX X ex t)(hs:autoParam (swapsWith ex none pos.line X.env=pure false) Ŕ):PSX X (.Expr ex pos) (λE=>vz7 (t E)):=by
 intro E pins s O H D I hw;exact wpAny_Expr_any (thn (h E pins s O H _ I hw) λv s1 ⟨x,H1,I1,r1,q1⟩=>⟨O,H1,I1,q1⟩) I.quiet hs
end
section
variable {X:Cx}{pins:List (Addr×Obj)}{O:L2.St}{H:Hp}{s:Shared}{x:Addr}{ox:Obj}
theorem qww{σ':L2.St}{h':Heap}{t':Nat}{m':Str->Option Value}(I:Inv X pins O H s)(hs:Heap.SameBut X.env.locals s.heap h')(jo:h'.Ns X.env.locals m')(hl:σ'.length=X.N.length)
  (hv:∀(j:Nat) (y:Str) (v:V),X.N[j]?=some y->σ'[j]?=some (some v)->Vis X.env.scope y->∃u,RelV v u/\wzm X.env h' m' y u):Inv X pins σ' H { s with heap:=h',toks:=t' }:=by
 have nL:∀b o,X.s₀.heap.get? b=some o->b≠X.env.locals:=λb o e=>Xg (Xf (Xa e) I.ok.above)
 refine⟨I.ok,I.os,I.bare,⟨λb o e n hb hx=>?_,λb o e n hb hx=>?_,I.base.free,λb o e hx=>?_,I.base.tups,I.base.frzs,I.base.tbls⟩,⟨m',jo,hv⟩,λy c e=>?_,I.free,I.freeC,λp hp=>?_,λb ob e=>?_,hl⟩
 ·exact(hs.2 b (nL b o e)).trans (I.base.keep b o e n hb hx)
 ·obtain⟨sl,e1⟩:=I.base.slot b o e n hb hx;exact⟨sl,(hs.2 b (nL b o e)).trans e1⟩
 ·obtain⟨o',e1⟩:=I.base.there b o e hx;exact⟨o',(hs.2 b (nL b o e)).trans e1⟩
 ·obtain⟨w',z⟩:=I.cell y c e;exact⟨w',z.sameBut hs (I.cne y c e)⟩
 ·obtain⟨e,n,ne,nf,d⟩:=I.pin p hp;exact⟨(hs.2 p.1 ne).trans e,n,ne,nf,d⟩
 ·refine(I.hok b ob e).stay (λc w' hc q=>(hs.2 c ?_).trans q) (λ_ q=>q) λ_ _ q=>q
  rintro rfl;rcases hc with rfl|hc
  ·rw[I.free]at e;cases e
  ·rw[I.free]at hc;cases hc
theorem jx6{M:Model}{A:Around}{E:Value->Shared->Prop}{n:Str}{i:Nat}{pos:Pos}{Q:Unit->Shared->Prop}(I:Inv X pins O H s)(hN:X.N.Nodup)(hi:X.N[i]?=some n)(hk:X.env.scope.names.lookup n=some .local)
  (h:∀s',Inv X pins (O.set i none) H s'->Q () s'):wpAny M A (do bindName X.env n Value.none;unbindBehindTheSuite X.env n pos) Q E s:=by
 refine X0 (wpAny_bindName (jwy I hN hi (.inl hk) (v:=.non) (u:=.none) rfl (λs1 I1=>?_) (.inr hk)));have p8:i < O.length:=by rw[I.len];exact(List.getElem?_eq_some_iff.mp hi).1
 obtain⟨m,hn,hl⟩:=id I1.loc;obtain⟨u,ru,lk⟩:=hl i n .non hi (Z5 p8) (.inl hk);have hm:m n=some u:=by
  rcases lk with⟨_,z⟩|⟨z,_⟩
  ·exact z
  ·rcases z with z|z
   ·have z:X.env.scope.names.lookup n=some .cell:=z;rw[hk]at z;cases z
   ·have z:X.env.scope.names.lookup n=some .free:=z;rw[hk]at z;cases z
 have mt:(X.env.scope.kind == .class||(X.env.scope.kind == .module&&X.env.locals != X.env.globals))=false:=by rw[I.ok.kind];rfl
 unfold unbindBehindTheSuite;refine wpAny_onRaise (wpAny_unbindName_local hk hn hm mt λh' u' jo sb=>h _ ?_);refine qww (t':=s1.toks) I1 sb jo (by rw[Yt];exact I.len) λj y v e1 e2 e3=>?_
 by_cases hj:j=i
 ·subst hj;rw[Z5 p8]at e2;cases e2
 ·rw[Yi (Ne.symm hj)]at e2;obtain⟨u2,r2,l2⟩:=hl j y v e1 (by rw[Yi (Ne.symm hj)];exact e2) e3;refine⟨u2,r2,?_⟩;rcases l2 with⟨k,e⟩|⟨k,c,e,z⟩
  ·refine .inl ⟨k,?_⟩;have:y≠n:=λe=>hj (kqz hN e1 (e▸hi))
   simp[this,e]
  ·exact .inr ⟨k,c,e,z.sameBut sb (I.cne y c e)⟩
end
structure ExAt (K:Frag)(x:Addr)(ox:Obj)(C:Addr):Prop where
 cls:ox.cls=.ref C
 no:PySem.W.notCls ox=true
 di:ox.dict=none
 xc:XCls K C
theorem JW{X:Cx}{x:Str}{pos:Pos}{C:Addr}(h:X.mg x=some (.ref C))(hg:autoParam (Gl X x) Ŕ)(hd:autoParam ((x==("__debug__":Str))=false) ŕ):PE X (.Name x pos) (tC (.ref C)):=qvt hg h (v:=.ref C) rfl hd
end L3
namespace Q
open PySem
inductive D where
 |non|bl (b:Bool)|int (i:Int)|str (z:Str)|tup (xs:List D)|lst (xs:List D)|dct (kvs:List (D×D))|obj (c:Str) (fs:List (Str×D))
instance:DecidableEq D:=λa b=>Classical.propDecidable (a=b)
instance:Inhabited D:=⟨.non⟩
mutual
noncomputable def D.pure:D->Bool
 |.tup xs=>D.pures xs|.lst _=>false|.dct _=>false|.obj _ _=>false|_=>true
noncomputable def D.pures:List D->Bool
 |[]=>true|a::x=>D.pure a&&D.pures x
end
theorem D.pures_all:∀xs:List D,D.pures xs=xs.all D.pure
 |[]=>by simp[D.pures]|a::x=>by rw[D.pures,List.all_cons,D.pures_all x]
@[simp] theorem D.pures_map {α:Type}(f:α->D)(xs:List α)(h:∀x∈xs,(f x).pure=true):D.pures (xs.map f)=true:=by
 rw[D.pures_all,Ze];intro d hd;obtain⟨x,hx,rfl⟩:=aE hd;exact h x hx
mutual
noncomputable def peq:D->D->Bool
 |.non,.non=>true|.bl a,.bl b=>a==b|.bl a,.int b=>(if a then 1 else 0)==b|.int a,.bl b=>a==(if b then 1 else 0)|.int a,.int b=>a==b|.str a,.str b=>a==b|.lst as,.lst bs=>peqs as bs|.tup as,.tup bs=>peqs as bs|_,_=>false
noncomputable def peqs:List D->List D->Bool
 |[],[]=>true|a::as,b::bs=>peq a b&&peqs as bs|_,_=>false
end
mutual
noncomputable def D.flat:Nat->D->Bool
 |0,.tup _=>false|0,.lst _=>false|n+1,.tup xs=>D.flats n xs|n+1,.lst xs=>D.flats n xs|_,.dct _=>false|_,.obj _ _=>false|_,_=>true
noncomputable def D.flats:Nat->List D->Bool
 |_,[]=>true|n,a::x=>D.flat n a&&D.flats n x
end
mutual
noncomputable def jX:Nat->D->Bool
 |_,.non=>true|_,.int _=>true|n+1,.tup xs=>keyDs n xs|_,_=>false
noncomputable def keyDs:Nat->List D->Bool
 |_,[]=>true|n,a::x=>jX n a&&keyDs n x
end
def unm : List (D × D) -> Bool
  |(.str _, _)::_=>false|_=>true
inductive Own where
 |no|rt|dp
 deriving DecidableEq
abbrev Sd:=Own×D
abbrev En:=List (Option Sd)
inductive Res (α:Type) where
 |ok (E:En) (a:α)
 |exc (E:En) (c:Str)
abbrev Ev(α:Type):=En->Option (Res α)
abbrev Ex:=Ev Sd
def bnd{α β:Type}(m:Option (Res α))(f:En->α->Option (Res β)):Option (Res β):=
 match m with
 |some (.ok E a)=>f E a|some (.exc E c)=>some (.exc E c)|none=>none
@[simp] theorem wzg {α β:Type}(E:En)(a:α)(f:En->α->Option (Res β)):bnd (some (.ok E a)) f=f E a:=rfl
@[simp] theorem wxc {α β:Type}(E:En)(c:Str)(f:En->α->Option (Res β)):bnd (some (.exc E c)) f=some (.exc E c):=rfl
@[simp] theorem wvd {α β:Type}(f:En->α->Option (Res β)):bnd none f=none:=rfl
def val{α:Type}(E:En)(x:Option α):Option (Res α):=x.map (Res.ok E)
@[simp] theorem wv1 {α:Type}(E:En)(x:α):val E (some x)=some (.ok E x):=rfl
@[simp] theorem wv2 {α:Type}(E:En):val E (none:Option α)=none:=rfl
def cC(d:D):Ex:=λE=>some (.ok E (.dp,d))
def cV(i:Nat):Ex:=λE=>match E[i]? with
 |some (some (_,d))=>some (.ok (E.set i (some (.no,d))) (.no,d))|_=>none
def cMv(i:Nat):Ex:=λE=>match E[i]? with
 |some (some x)=>some (.ok (E.set i none) x)|_=>none
def vV(i:Nat):Ex:=λE=>match E[i]? with
 |some (some x)=>some (.ok E x)|_=>none
def vE(c:Ex):Ex:=λE=>bnd (c E) λE x=>some (.ok E (.no,x.2))
abbrev C9(z:Int):Ex:=vE (cC (.int z))
def cH(v:Ex):Ex:=λE=>bnd (v E) λE x=>if x.1=.no then some (.ok E (.no,x.2))else if x.2.pure then some (.ok E (.dp,x.2))else none
def cF1(f:Sd->Option Sd)(a:Ex):Ex:=λE=>bnd (a E) λE x=>val E (f x)
def cF2(f:Sd->Sd->Option Sd)(a b:Ex):Ex:=λE=>bnd (a E) λE x=>bnd (b E) λE y=>val E (f x y)
def pu1(f:D->Option D):Sd->Option Sd:=λx=>(f x.2).map λd=>(.dp,d)
def pu2(f:D->D->Option D):Sd->Sd->Option Sd:=λx y=>(f x.2 y.2).map λd=>(.dp,d)
def wzc:D->List D
 |.lst xs=>xs|.tup xs=>xs|.dct kvs=>kvs.map (·.2)|_=>[]
def qK(x:Sd):Bool:=x.1 != .dp||D.pures (wzc x.2)
def sub:Own->Own
 |.dp=>.dp|_=>.no
def ixN(n:Nat)(i:Int):Option Nat:=if 0<=i then(if i<n then some i.toNat else none)else if -(n:Int)<=i then some (i+n).toNat else none
def ixD:D->D->Option D
 |.lst xs,.int i=>(ixN xs.length i).bind λj=>xs[j]?|.tup xs,.int i=>(ixN xs.length i).bind λj=>xs[j]?|.str z,.int i=>(ixN z.cps.size i).bind λj=>(z.cps.toList[j]?).map λc=>.str ⟨#[c]⟩|.dct kvs,k=>(kvs.find? λe=>decide (e.1=k)).map (·.2)|_,_=>none
def big:Nat:=16777216
def i2(f:Int->Int->Option Int):D->D->Option D
 |.int a,.int b=>(f a b).map .int|_,_=>none
def c2(f:Int->Int->Bool):D->D->Option D
 |.int a,.int b=>some (.bl (f a b))|_,_=>none
def qv0(a:Int):Bool:=decide (-(2 ^ 64)<a)&&decide (a<2 ^ 64)
noncomputable def jz:Sd->Sd->Option Sd:=λx y=>match x.2,y.2 with
 |.int a,.int b=>some (.dp,.int (a+b))|.str a,.str b=>if a.cps.size+b.cps.size<=big then some (.dp,.str (a++b))else none|.lst a,.lst b=>if a.length+b.length<=big/\qK x/\qK y then some (.rt,.lst (a++b))else none|.tup a,.tup b=>if a.length+b.length<=big/\qK x/\qK y then some (.no,.tup (a++b))else none|_,_=>none
def WY(a b:Int):Bool:=qv0 a||qv0 b||(decide (a.natAbs.log2<2000000)&&decide (b.natAbs.log2<2000000))
noncomputable def W7:Sd->Sd->Option Sd:=λx y=>match x.2,y.2 with
 |.int a,.int b=>if WY a b then some (.dp,.int (a*b))else none|.lst a,.int k=>if -(2 ^ 63)<=k/\k<2 ^ 63/\a.length*k.toNat<=big/\qK x then some (.rt,.lst (List.replicate k.toNat a).flatten)else none|.str z,.int n=>if(z.cps.size<=1024/\n<=1024/\-1024<=n)/\(Txt.mul z n).cps.size<=big then some (.dp,.str (Txt.mul z n))else none|_,_=>none
def wqb:D->D->Option D:=i2 λa b=>some (a - b)
def v4:D->D->Option D:=i2 λa b=>if 0<b/\b.natAbs.log2<9000 then some (a / b)else none
def jJ:D->D->Option D:=i2 λa b=>if 0<b then some (a % b)else none
def fEq:D->D->Option D:=λa b=>if a.flat 40&&b.flat 40 then some (.bl (peq a b))else none
def fNe:D->D->Option D:=λa b=>if a.flat 40&&b.flat 40 then some (.bl (!peq a b))else none
def isNon:D->Bool
 |.non=>true|_=>false
def fLt:D->D->Option D:=c2 λa b=>decide (a<b)
def fLe:D->D->Option D:=c2 λa b=>decide (a<=b)
def fGt:D->D->Option D:=c2 λa b=>decide (b<a)
def fGe:D->D->Option D:=c2 λa b=>decide (b<=a)
def fNeg:D->Option D
 |.int a=>some (.int (-a))|_=>none
def wx4(a b:Str):Bool:=!(Builtin.Str.occurrences b a 0 b.length 1).isEmpty
noncomputable def fIn:D->D->Option D:=λx y=>match y with
 |.lst ys=>if x.flat 30&&D.flats 30 ys then some (.bl (ys.any λz=>peq z x))else none|.tup ys=>if x.flat 30&&D.flats 30 ys then some (.bl (ys.any λz=>peq z x))else none
 |.str b=>(match x with
  |.str a=>some (.bl (wx4 a b))
  |_=>none)
 |.dct kvs=>some (.bl (kvs.any λe=>decide (e.1=x)))|_=>none
def Wj:D->D->Option D:=λx y=>(fIn x y).bind λd=>match d with
 |.bl k=>some (.bl (!k))|_=>none
def kY:D->Option D
 |.lst xs=>some (.int xs.length)|.tup xs=>some (.int xs.length)|.str z=>some (.int z.length)|_=>none
def kind:D->String
 |.non=>"NoneType"|.bl _=>"bool"|.int _=>"int"|.str _=>"str"|.tup _=>"tuple"|.lst _=>"list"|.dct _=>"dict"|.obj _ _=>""
def fIsNon:D->Option D:=λd=>some (.bl (isNon d))
def fNotNon:D->Option D:=λd=>some (.bl (!isNon d))
abbrev Ts:=Ev Bool
def truth:D->Option Bool
 |.bl b=>some b|.non=>some false|.int i=>some (i != 0)|.str z=>some (z.cps.size != 0)|.lst xs=>some (!xs.isEmpty)|.tup xs=>some (!xs.isEmpty)|.dct xs=>some (!xs.isEmpty)|.obj _ _=>none
def tE(c:Ex):Ts:=λE=>bnd (c E) λE x=>val E (truth x.2)
def tAnd(a b:Ts):Ts:=λE=>bnd (a E) λE x=>if x then b E else some (.ok E false)
def tOr(a b:Ts):Ts:=λE=>bnd (a E) λE x=>if x then some (.ok E true)else b E
def tNot(a:Ts):Ts:=λE=>bnd (a E) λE x=>some (.ok E (!x))
def tYes:Ts:=λE=>some (.ok E true)
def cIf(t:Ts)(a b:Ex):Ex:=λE=>bnd (t E) λE x=>if x then a E else b E
def Kw(a b:Ex):Ex:=λE=>bnd (a E) λE x=>match x.2 with
 |.bl true=>b E|.bl false=>some (.ok E (.dp,.bl false))|_=>none
def cOr(a b:Ex):Ex:=λE=>bnd (a E) λE x=>match x.2 with
 |.bl true=>some (.ok E (.dp,.bl true))|.bl false=>b E|_=>none
def z5:D->D->Option D:=λx y=>match y with
 |.dct _=>none|_=>fIn x y
def wq:D->D->Option D:=λx y=>match y with
 |.dct _=>none|_=>Wj x y
def f2First(f:D->Option D):Sd->Sd->Option Sd:=λx y=>if isNon y.2 then(f x.2).map λd=>(.dp,d)else none
def jK:D->D->Option D:=λx y=>match x with
 |.dct _=>none|_=>ixD x y
def j6(a b:Ex):Ex:=λE=>bnd (a E) λE x=>bnd (b E) λE y=>val E ((jK x.2 y.2).map λd=>(sub x.1,d))
def truthQ:D->Option Bool:=λd=>match d with
 |.dct _=>none|_=>truth d
def tEQ(c:Ex):Ts:=λE=>bnd (c E) λE x=>val E (truthQ x.2)
def vk7(c:Ex):Ex:=λE=>bnd (c E) λE x=>val E ((truthQ x.2).map λk=>(.dp,.bl (!k)))
def qJ:List Ex->Ev (List Sd)
 |[],E=>some (.ok E [])|c::cs,E=>bnd (c E) λE x=>bnd (qJ cs E) λE xs=>some (.ok E (x::xs))
def xX(x:Sd):Bool:=x.1 == .dp||x.2.pure
def kw(o:Own)(cs:List Ex):Ex:=λE=>bnd (qJ cs E) λE xs=>if o=.dp then(if xs.all xX then some (.ok E (.dp,.lst (xs.map (·.2))))else none)else some (.ok E (.rt,.lst (xs.map (·.2))))
def kK(o:Own)(cs:List Ex):Ex:=λE=>bnd (qJ cs E) λE xs=>if o=.dp then(if xs.all xX then some (.ok E (.dp,.tup (xs.map (·.2))))else none)else some (.ok E (.no,.tup (xs.map (·.2))))
inductive Fl where
 |nx (E:En)|rt (E:En) (x:Sd)|ct (E:En)|bk (E:En)|xc (E:En) (c:Str)
abbrev Sm:=En->Option Fl
def ofE{α:Type}(m:Option (Res α))(f:En->α->Option Fl):Option Fl:=
 match m with
 |some (.ok E a)=>f E a|some (.exc E c)=>some (.xc E c)|none=>none
@[simp] theorem wz6 {α:Type}(E:En)(a:α)(f:En->α->Option Fl):ofE (some (.ok E a)) f=f E a:=rfl
@[simp] theorem wwp {α:Type}(E:En)(c:Str)(f:En->α->Option Fl):ofE (some (.exc E c)) f=some (.xc E c):=rfl
@[simp] theorem wva {α:Type}(f:En->α->Option Fl):ofE none f=none:=rfl
def j4(a b:Sm):Sm:=λE=>match a E with
 |some (.nx E)=>b E|r=>r
def q9:Sm:=λE=>some (.nx E)
def j9(i:Nat)(c:Ex):Sm:=λE=>ofE (c E) λE x=>some (.nx (E.set i (some x)))
def qzm(c:Ex):Sm:=λE=>ofE (c E) λE _=>some (.nx E)
def jY(c:Ex):Sm:=λE=>ofE (c E) λE x=>some (.rt E x)
def sRetN:Sm:=λE=>some (.rt E (.dp,.non))
def sIf(t:Ts)(a b:Sm):Sm:=λE=>ofE (t E) λE x=>if x then a E else b E
inductive Tg where
 |n (i:Nat)|t (ts:List Nat)
def setAll:List Nat->List D->En->Option En
 |[],[],E=>some E|i::is,d::ds,E=>setAll is ds (E.set i (some (.no,d)))|_,_,_=>none
def Tg.put:Tg->D->En->Option En
 |.n i,d,E=>some (E.set i (some (.no,d)))|.t is,.tup ds,E=>setAll is ds E|.t is,.lst ds,E=>setAll is ds E|.t _,_,_=>none
def sTup(is:List Nat)(c:Ex):Sm:=λE=>ofE (c E) λE x=>(Tg.put (.t is) x.2 E).map .nx
def Kx(tg:Tg)(b:Sm):List D->En->Option Fl
 | [],E=>some (.nx E)
 | d::ds,E=>match tg.put d E with
  |none=>none
  |some E=>match b E with
   |some (.nx E)=>Kx tg b ds E|some (.ct E)=>Kx tg b ds E|some (.bk E)=>some (.nx E)|r=>r
def vx(it:Ev (List D))(tg:Tg)(b:Sm):Sm:=λE=>ofE (it E) λE ds=>Kx tg b ds E
def sWhile(t:Ts)(b:Sm)(E:En):Option Fl:=
 match t E with
 |some (.ok E true)=>(match b E with
  |some (.nx E)=>sWhile t b E|some (.ct E)=>sWhile t b E|some (.bk E)=>some (.nx E)
  |r=>r)
 |some (.ok E false)=>some (.nx E)|some (.exc E c)=>some (.xc E c)|none=>none
partial_fixpoint
def whN(t:Ts)(b:Sm):Nat->En->Option Fl
 | 0,_=>none
 | n+1,E=>match t E with
  |some (.ok E true)=>(match b E with
   |some (.nx E)=>whN t b n E|some (.ct E)=>whN t b n E|some (.bk E)=>some (.nx E)
   |r=>r)
  |some (.ok E false)=>some (.nx E)|some (.exc E c)=>some (.xc E c)|none=>none
theorem vqo{t:Ts}{b:Sm}:∀{E:En} {r:Fl},sWhile t b E=some r->∃n,whN t b n E=some r:=by
 intro E r;refine sWhile.partial_correctness t b (λE r=>∃n,whN t b n E=some r) ?_ E r;intro f ih E r h;cases ht:t E with
 | none=>rw[ht]at h;cases h
 | some q=>
  cases q with
  | exc E1 c=>rw[ht]at h;exact⟨1,by simp only[whN,ht];exact h⟩
  | ok E1 k=>
   rw[ht]at h;cases k with
   | false=>exact⟨1,by simp only[whN,ht];exact h⟩
   | true=>
    dsimp only at h;cases hb:b E1 with
    |none=>rw[hb]at h;cases h
    |some g=>
     rw[hb]at h;cases g with|nx E2=>obtain⟨n,hn⟩:=ih _ _ h;exact⟨n+1,by simp only[whN,ht,hb];exact hn⟩|ct E2=>obtain⟨n,hn⟩:=ih _ _ h;exact⟨n+1,by simp only[whN,ht,hb];exact hn⟩|bk E2=>exact⟨1,by simp only[whN,ht,hb];exact h⟩|rt E2 x=>exact⟨1,by simp only[whN,ht,hb];exact h⟩|xc E2 c=>exact⟨1,by simp only[whN,ht,hb];exact h⟩
def at'{α:Type}(L:List (Option α))(j:Nat):Option α:=(L[j]?).join
def clr{α:Type}:List Nat->List (Option α)->List (Option α)
 |[],L=>L|j::R,L=>clr R (L.set j none)
def back{α:Type}:List Nat->List (Option α)->List (Option α)->List (Option α)
 |j::R,q::B,L=>back R B (L.set j q)|_,_,L=>L
def Q4(k:Nat)(R:List Nat)(E:En):En:=List.replicate k none++R.map (at' E)
def J0(k:Nat)(R:List Nat)(B E:En):En:=back R (B.drop k) (clr R E)
def lcL(tg:Tg)(t:Ts)(c:Ex):List D->En->List Sd->Option (Res (List Sd))
 |[],B,aq=>some (.ok B aq)
 |d::ds,B,aq=>match tg.put d B with
  |none=>none|some B=>bnd (t B) λB x=>if x then bnd (c B) λB y=>lcL tg t c ds B (aq++[y])else lcL tg t c ds B aq
def mkL(o:Own)(E:En)(xs:List Sd):Option (Res Sd):=
 if o=.dp then(if xs.all xX then some (.ok E (.dp,.lst (xs.map (·.2))))else none)else some (.ok E (.rt,.lst (xs.map (·.2))))
def cLC(o:Own)(k:Nat)(R:List Nat)(it:Ev (List D))(tg:Tg)(t:Ts)(c:Ex):Ex:=λE=>bnd (it E) λE ds=>
 match lcL tg t c ds (Q4 k R E) []with
 |some (.ok B xs)=>mkL o (J0 k R B E) xs|some (.exc B e)=>some (.exc (J0 k R B E) e)|none=>none
def K6:Option (Option Sd)->Bool
 |some (some (_,.lst _))=>true|_=>false
def qX(f:List D->D->Option (List D))(i:Nat)(c:Ex):Sm:=λE=>if K6 E[i]? then ofE (c E) λE x=>match E[i]? with
 |some (some (o,.lst xs))=>if o=.no then none else(match f xs x.2 with
  |some ys=>some (.nx (E.set i (some (if o=.dp/\xX x then .dp else .rt,.lst ys))))
  |none=>none)
 |_=>none
 else none
def qW:List D->D->Option (List D):=λxs d=>if xs.length<big then some (xs++[d])else none
def Jw:D->Option D
 |.int i=>some (.int i)|.bl k=>some (.int (if k then 1 else 0))|.str z=>if z.length<=640 then(PySem.intText? z).map .int else none|_=>none
def xZ:Sd->Option Sd:=λx=>match x.2 with
 |.lst xs=>if qK x then some (.rt,.lst xs)else none|.tup xs=>if qK x then some (.rt,.lst xs)else none|_=>none
def JJ:Sd->Option Sd:=λx=>match x.2 with
 |.lst xs=>if qK x then some (.no,.tup xs)else none|.tup xs=>if qK x then some (.no,.tup xs)else none|_=>none
def bls:List D->Option (List Bool)
 |[]=>some []|.bl b::ds=>(bls ds).map (b :: ·)|_=>none
def wqd:D->Option D
 |.lst ds=>(bls ds).map λbs=>.bl (bs.all id)|_=>none
def seqOf:D->Option (List D)
 |.lst xs=>some xs|.tup xs=>some xs|.str z=>if z.cps.size<=big then some (z.cps.toList.map λc=>.str ⟨#[c]⟩)else none|_=>none
def itS(c:Ex):Ev (List D):=λE=>bnd (c E) λE x=>val E (seqOf x.2)
def xj(i:Int):Bool:=decide (-(2 ^ 62)<=i)&&decide (i<2 ^ 62)
def k7(lo hi:Int):List D:=(List.range (hi - lo).toNat).map λ(k:Nat)=>.int (lo+(k:Int))
def vK(c:Ex):Ev (List D):=λE=>bnd (c E) λE x=>match x.2 with
 |.int j=>if xj j/\j.toNat<=big then some (.ok E (k7 0 j))else none|_=>none
def itR2(c d:Ex):Ev (List D):=λE=>bnd (c E) λE x=>bnd (d E) λE y=>match x.2,y.2 with
 |.int i,.int j=>if xj i/\xj j/\(j - i).toNat<=big then some (.ok E (k7 i j))else none|_,_=>none
def Wk(c:Ex):Ex:=λE=>bnd (c E) λE x=>match x.2 with
 |.int j=>if xj j/\j.toNat<=big then some (.ok E (.rt,.lst (k7 0 j)))else none|_=>none
abbrev Fn:=List Sd->Option (Res Sd)
def fn(n:Nat)(b:Sm):Fn:=λxs=>match b (xs.map some++List.replicate (n - xs.length) none)with
 |some (.rt E x)=>some (.ok E x)|some (.nx E)=>some (.ok E (.dp,.non))|some (.xc E c)=>some (.exc E c)|_=>none
def letAll(xs:List Sd):List Sd:=xs.map λx=>(.no,x.2)
def jQ(f:Fn)(cs:List Ex):Ex:=λE=>bnd (qJ cs E) λE xs=>match f (letAll xs)with
 |some (.ok _ y)=>some (.ok E y)|some (.exc _ c)=>some (.exc E c)|none=>none
end Q
namespace Q
open PySem PySem.Spec PyProof.Rows L2 L3
mutual
noncomputable def Qx:D->Int
 |.int i=>hashInt i|.tup xs=>reduceHash (Builtin.Tuple.tupleHashOf (hashDs xs))|_=>4238894112
noncomputable def hashDs:List D->List Int
 |[]=>[]|a::x=>Qx a::hashDs x
end
def Kd:Type:={ d:D // jX 6 d=true }
instance:DecidableEq Kd:=λa b=>Classical.propDecidable (a=b)
abbrev Ent:=Kd×Addr×Value
def qx(a:Addr)(es:List Ent)(ep:Nat):HO:=.ext λh=>∃o ds,h.get? a=some o/\o.ExactDict/\o.data=.dict ds ep/\ds.toList=es.map λx=>(⟨Qx x.1.1,.ref x.2.1,x.2.2⟩:DictEntry)
mutual
noncomputable def PuR(K:Frag)(H:Hp):D->V->Prop
 |.non,v=>v=.non|.int i,v=>v=.int i|.tup ds,v=>∃a xs,v=.ref a/\SqT K H a xs/\PuRs K H ds xs|_,_=>False
noncomputable def PuRs(K:Frag)(H:Hp):List D->List V->Prop
 |[],xs=>xs=[]|d::ds,xs=>∃x r,xs=x::r/\PuR K H d x/\PuRs K H ds r
end
def DcN(K:Frag)(H:Hp)(a:Addr)(ks:List D)(vs:List V):Prop:=∃(es:List Ent) (ep:Nat),H a=some (qx a es ep)/\(a==sysModules)=false/\es.length<=sizeLine/\(es.map (·.1)).Nodup/\ks=es.map (·.1.1)/\(∀x∈es,PuR K H x.1.1 (.ref x.2.1))/\Vals vs (es.map (·.2.2))
def DcI(H:Hp)(a:Addr)(ks:List D)(vs:List V):Prop:=∃(kv:List (Int×V)) (m:Str),H a=some (.dK (kv.map λp=>(Sum.inl p.1,p.2)))/\ks=.str m::kv.map (λp=>D.int p.1)/\vs=.non::kv.map (·.2)
def DcA(K:Frag)(H:Hp)(a:Addr)(ks:List D)(vs:List V):Prop:=DcN K H a ks vs\/DcI H a ks vs
theorem DcA.un{K:Frag}{H:Hp}{a:Addr}{kvs:List (D×D)}{vs:List V}(h:DcA K H a (kvs.map (·.1)) vs)(hu:unm kvs=true):DcN K H a (kvs.map (·.1)) vs:=by
 rcases h with h|⟨kv,m,_,h,_⟩
 ·exact h
 ·cases kvs with
  |nil=>cases h
  |cons p r=>
   obtain⟨k,d⟩:=p;rw[List.map_cons]at h;injection h with h1 _;have h1:k=.str m:=h1;subst h1;cases hu
def wzl(K:Frag)(a:Addr)(xs:List V):Prop:=∃(ai:Array Value) (n:Nat),K.lookup a=some { cls:=.type "list",data:=.seq ai n }/\ai.size<=sizeLine/\Vals xs ai.toList
def wvh(K:Frag)(H:Hp)(a:Addr)(xs:List V):Prop:=(∃o,H a=some (.frz o (.lst xs)))\/wzl K a xs
def LsR(K:Frag)(H:Hp)(a:Addr)(xs:List V):Prop:=Rd H a (.lst xs)\/wzl K a xs
theorem LsR.of{K:Frag}{H:Hp}{a:Addr}{xs:List V}(h:wvh K H a xs):LsR K H a xs:=h.imp .inr id
theorem LsR.sq{K:Frag}{H:Hp}{a:Addr}{xs:List V}(h:LsR K H a xs):SqL K H a xs:=by
 rcases h with h|⟨ai,n,h1,h2,h3⟩
 ·exact .inl h
 ·exact .inr ⟨_,ai,n,h1,rfl,rfl,rfl,h2,h3⟩
theorem LsR.is{X:Cx}{pins:List (Addr×Obj)}{O:L2.St}{H:Hp}{s:Shared}{a:Addr}{xs:List V}(I:L2.Inv X pins O H s)(h:LsR X.K H a xs):xs.length<=sizeLine/\∃(ai:List Value) (n:Nat),Vals xs ai/\s.heap.get? a=some { cls:=.type "list",data:=.seq ai.toArray n }:=by
 rcases h with h|⟨ai,n,h1,h2,h3⟩
 ·obtain⟨z,ai,n,r,e⟩:=h.ok I.hok;exact⟨z,ai,n,r,e⟩
 ·have hl:=h3.length;simp only[Xi]at hl;exact⟨⋯,ai.toList,n,h3,by simpa using I.kIn a _ h1⟩
def ExD(K:Frag)(H:Hp)(c:Str)(v:V):Prop:=∃x o C,v=.ref x/\H x=some (.frz o (.ext λ_=>True))/\ExAt K x o C/\nsIn K mainGlobals c=some (some (.ref C))
mutual
noncomputable def RepL(K:Frag)(H:Hp)(g:Bool):D->V->List Addr->Prop
 |.non,v,as=>v=.non/\as=[]|.bl b,v,as=>v=.bl b/\as=[]|.int i,v,as=>v=.int i/\as=[]|.str z,v,as=>v=.str z/\as=[]/\z.length<=sizeLine|.tup ds,v,as=>∃a xs,v=.ref a/\SqT K H a xs/\RepA K H g ds xs as|.lst ds,v,as=>∃a xs bs,v=.ref a/\RepA K H g ds xs bs/\((H a=some (.lst xs)/\as=a::bs)\/(g=true/\wvh K H a xs/\as=bs))|.dct kvs,v,as=>∃a xs bs,v=.ref a/\RepP K H g kvs xs bs/\DcA K H a (kvs.map (·.1)) xs/\as=a::bs|.obj c _,v,as=>as=[]/\ExD K H c v
noncomputable def RepA(K:Frag)(H:Hp)(g:Bool):List D->List V->List Addr->Prop
 |[],xs,as=>xs=[]/\as=[]|d::ds,xs,as=>∃x r bs cs,xs=x::r/\as=bs++cs/\RepL K H g d x bs/\RepA K H g ds r cs
noncomputable def RepP(K:Frag)(H:Hp)(g:Bool):List (D×D)->List V->List Addr->Prop
 |[],xs,as=>xs=[]/\as=[]|(_,d)::ds,xs,as=>∃x r bs cs,xs=x::r/\as=bs++cs/\RepL K H g d x bs/\RepP K H g ds r cs
end
def RepR(K:Frag)(H:Hp):D->V->List Addr->Prop
 |.lst ds,v,as=>∃a xs bs,v=.ref a/\RepA K H true ds xs bs/\H a=some (.lst xs)/\as=a::bs|.dct kvs,v,as=>∃a xs bs,v=.ref a/\RepP K H true kvs xs bs/\DcA K H a (kvs.map (·.1)) xs/\as=a::bs|_,_,_=>False
def RepO(K:Frag)(H:Hp):Own->D->V->List Addr->Prop
 |.no=>RepL K H true|.rt=>RepR K H|.dp=>RepL K H false
section
variable {K:Frag}{H H':Hp}
def Kp(H H':Hp)(as:List Addr):Prop:=(∀a xs,H a=some (.tup xs)->H' a=some (.tup xs))/\(∀a o u,H a=some (.frz o u)->H' a=some (.frz o u))/\∀a∈as,∀ob,H a=some ob->H' a=some ob
theorem Kp.left{as bs:List Addr}(k:Kp H H' (as++bs)):Kp H H' as:=⟨k.1,k.2.1,λa ha=>k.2.2 a (ll9 _ ha)⟩
theorem Kp.right{as bs:List Addr}(k:Kp H H' (as++bs)):Kp H H' bs:=⟨k.1,k.2.1,λa ha=>k.2.2 a (lr9 _ ha)⟩
theorem Kp.tail{a:Addr}{bs:List Addr}(k:Kp H H' (a::bs)):Kp H H' bs:=⟨k.1,k.2.1,λb hb=>k.2.2 b (lc9 _ hb)⟩
theorem Kp.tupT{as:List Addr}{a:Addr}{xs:List V}(k:Kp H H' as)(h:SqT K H a xs):SqT K H' a xs:=by
 rcases h with(h|⟨o,h⟩)|h
 ·exact .inl (.inl (k.1 a xs h))
 ·exact .inl (.inr ⟨o,k.2.1 a o _ h⟩)
 ·exact .inr h
theorem Kp.frzL{as:List Addr}{a:Addr}{xs:List V}(k:Kp H H' as)(h:wvh K H a xs):wvh K H' a xs:=by
 rcases h with⟨o,h⟩|h
 ·exact .inl ⟨o,k.2.1 a o _ h⟩
 ·exact .inr h
mutual
theorem PuR.kp{as:List Addr}(k:Kp H H' as):∀{d:D} {v:V},PuR K H d v->PuR K H' d v
 |.non,_,h=>by unfold PuR at h ⊢;exact h|.int _,_,h=>by unfold PuR at h ⊢;exact h
 |.tup ds,_,h=>by
  unfold PuR at h ⊢;obtain⟨a,xs,e,s,r⟩:=h;exact⟨a,xs,e,k.tupT s,PuRs.kp k r⟩
 |.bl _,_,h=>by unfold PuR at h;exact h.elim|.str _,_,h=>by unfold PuR at h;exact h.elim|.lst _,_,h=>by unfold PuR at h;exact h.elim|.dct _,_,h=>by unfold PuR at h;exact h.elim|.obj _ _,_,h=>by unfold PuR at h;exact h.elim
theorem PuRs.kp{as:List Addr}(k:Kp H H' as):∀{ds:List D} {xs:List V},PuRs K H ds xs->PuRs K H' ds xs
 |[],_,h=>by unfold PuRs at h ⊢;exact h
 |d::ds,_,h=>by
  unfold PuRs at h ⊢;obtain⟨x,r,e,h1,h2⟩:=h;exact⟨x,r,e,PuR.kp k h1,PuRs.kp k h2⟩
end
theorem Kp.dcn{a:Addr}{bs:List Addr}{ks:List D}{vs:List V}(k:Kp H H' (a::bs))(h:DcN K H a ks vs):DcN K H' a ks vs:=by
 obtain⟨es,ep,e,h1,h2,h3,h4,h5,h6⟩:=h;exact⟨es,ep,k.2.2 a X7 _ e,h1,h2,h3,h4,λx hx=>PuR.kp k (h5 x hx),h6⟩
theorem Kp.dca{a:Addr}{bs:List Addr}{ks:List D}{vs:List V}(k:Kp H H' (a::bs))(h:DcA K H a ks vs):DcA K H' a ks vs:=by
 rcases h with h|⟨kv,m,e,h⟩
 ·exact .inl (k.dcn h)
 ·exact .inr ⟨kv,m,k.2.2 a X7 _ e,h⟩
theorem Kp.of_same{as:List Addr}(s:k4 H H'):Kp H H' as:=⟨λa xs h=>s a _ h,λa o u h=>s a _ h,λa _ ob h=>s a ob h⟩
mutual
theorem RepL.kp{g:Bool}:∀{d:D} {v:V} {as:List Addr},RepL K H g d v as->Kp H H' as->RepL K H' g d v as
 | .non,_,_,h,_=>by unfold RepL at h ⊢;exact h| .bl _,_,_,h,_=>by unfold RepL at h ⊢;exact h| .int _,_,_,h,_=>by unfold RepL at h ⊢;exact h| .str _,_,_,h,_=>by unfold RepL at h ⊢;exact h
 | .tup ds,_,_,h,k=>by
  unfold RepL at h ⊢;obtain⟨a,xs,e,s,r⟩:=h;exact⟨a,xs,e,k.tupT s,RepA.kp r k⟩
 | .lst ds,_,_,h,k=>by
  unfold RepL at h ⊢;obtain⟨a,xs,bs,e,r,q⟩:=h;refine⟨a,xs,bs,e,?_,?_⟩
  ·rcases q with⟨_,rfl⟩|⟨_,_,rfl⟩
   ·exact RepA.kp r k.tail
   ·exact RepA.kp r k
  ·rcases q with⟨h1,rfl⟩|⟨hg,h1,rfl⟩
   ·exact .inl ⟨k.2.2 a X7 _ h1,rfl⟩
   ·exact .inr ⟨hg,k.frzL h1,rfl⟩
 |.dct kvs,_,_,h,k=>by
  unfold RepL at h ⊢;obtain⟨a,xs,bs,e,r,q,rfl⟩:=h;exact⟨a,xs,bs,e,RepP.kp r k.tail,k.dca q,rfl⟩
 |.obj _ _,_,_,h,k=>by
  unfold RepL at h ⊢;obtain⟨e,x,o,C,h1,h2,h3⟩:=h;exact⟨e,x,o,C,h1,k.2.1 _ _ _ h2,h3⟩
theorem RepA.kp{g:Bool}:∀{ds:List D} {xs:List V} {as:List Addr},RepA K H g ds xs as->Kp H H' as->RepA K H' g ds xs as
 |[],_,_,h,_=>by unfold RepA at h ⊢;exact h
 |d::ds,_,_,h,k=>by
  unfold RepA at h ⊢;obtain⟨x,r,bs,cs,e1,rfl,h1,h2⟩:=h;exact⟨x,r,bs,cs,e1,rfl,RepL.kp h1 k.left,RepA.kp h2 k.right⟩
theorem RepP.kp{g : Bool}: ∀{ds : List (D × D)} {xs : List V} {as : List Addr}, RepP K H g ds xs as -> Kp H H' as -> RepP K H' g ds xs as
  | [], _, _, h, _=>by unfold RepP at h ⊢; exact h
  | (q, d)::ds, _, _, h, k=>by
    unfold RepP at h ⊢;obtain⟨x, r, bs, cs, e1, rfl, h1, h2⟩:= h;exact⟨x, r, bs, cs, e1, rfl, RepL.kp h1 k.left, RepP.kp h2 k.right⟩
end
mutual
theorem RepL.wk:∀{d:D} {v:V} {as:List Addr},RepL K H false d v as->RepL K H true d v as
 |.non,_,_,h=>by unfold RepL at h ⊢;exact h|.bl _,_,_,h=>by unfold RepL at h ⊢;exact h|.int _,_,_,h=>by unfold RepL at h ⊢;exact h|.str _,_,_,h=>by unfold RepL at h ⊢;exact h
 |.tup ds,_,_,h=>by
  unfold RepL at h ⊢;obtain⟨a,xs,e,s,r⟩:=h;exact⟨a,xs,e,s,RepA.wk r⟩
 |.lst ds,_,_,h=>by
  unfold RepL at h ⊢;obtain⟨a,xs,bs,e,r,q⟩:=h;refine⟨a,xs,bs,e,RepA.wk r,?_⟩;rcases q with q|⟨z,_⟩
  ·exact .inl q
  ·cases z
 |.dct kvs,_,_,h=>by
  unfold RepL at h ⊢;obtain⟨a,xs,bs,e,r,q,z⟩:=h;exact⟨a,xs,bs,e,RepP.wk r,q,z⟩
 |.obj _ _,_,_,h=>by unfold RepL at h ⊢;exact h
theorem RepA.wk:∀{ds:List D} {xs:List V} {as:List Addr},RepA K H false ds xs as->RepA K H true ds xs as
 |[],_,_,h=>by unfold RepA at h ⊢;exact h
 |d::ds,_,_,h=>by
  unfold RepA at h ⊢;obtain⟨x,r,bs,cs,e1,e2,h1,h2⟩:=h;exact⟨x,r,bs,cs,e1,e2,RepL.wk h1,RepA.wk h2⟩
theorem RepP.wk : ∀{ds : List (D × D)} {xs : List V} {as : List Addr}, RepP K H false ds xs as -> RepP K H true ds xs as
  | [], _, _, h=>by unfold RepP at h ⊢; exact h
  | (q, d)::ds, _, _, h=>by
    unfold RepP at h ⊢;obtain⟨x, r, bs, cs, e1, e2, h1, h2⟩:= h;exact⟨x, r, bs, cs, e1, e2, RepL.wk h1, RepP.wk h2⟩
end
mutual
theorem RepL.al{g:Bool}:∀{d:D} {v:V} {as:List Addr},RepL K H g d v as->∀a∈as,(∃xs,H a=some (.lst xs))\/(∃ φ,H a=some (.ext φ))\/∃kvs,H a=some (.dK kvs)
 | .non,_,_,h=>by unfold RepL at h;rw[h.2];exact λ_ z=>nomatch z| .bl _,_,_,h=>by unfold RepL at h;rw[h.2];exact λ_ z=>nomatch z| .int _,_,_,h=>by unfold RepL at h;rw[h.2];exact λ_ z=>nomatch z| .str _,_,_,h=>by unfold RepL at h;rw[h.2.1];exact λ_ z=>nomatch z
 | .tup ds,_,_,h=>by
  unfold RepL at h;obtain⟨a,xs,e,s,r⟩:=h;exact RepA.al r
 | .lst ds,_,_,h=>by
  unfold RepL at h;obtain⟨a,xs,bs,e,r,q⟩:=h;rcases q with⟨h1,rfl⟩|⟨_,_,rfl⟩
  ·intro b hb;rcases aD hb with rfl|hb
   ·exact .inl ⟨_,h1⟩
   ·exact RepA.al r b hb
  ·exact RepA.al r
 | .dct kvs,_,_,h=>by
  unfold RepL at h;obtain⟨a,xs,bs,e,r,q,rfl⟩:=h;intro b hb;rcases aD hb with rfl|hb
  ·rcases q with⟨es,ep,q,_⟩|⟨kv,m,q,_⟩
   ·exact .inr (.inl ⟨_,q⟩)
   ·exact .inr (.inr ⟨_,q⟩)
  ·exact RepP.al r b hb
 |.obj _ _,_,_,h=>by unfold RepL at h;rw[h.1];exact λ_ z=>nomatch z
theorem RepA.al{g:Bool}:∀{ds:List D} {xs:List V} {as:List Addr},RepA K H g ds xs as->∀a∈as,(∃xs,H a=some (.lst xs))\/(∃ φ,H a=some (.ext φ))\/∃kvs,H a=some (.dK kvs)
 |[],_,_,h=>by unfold RepA at h;rw[h.2];exact λ_ z=>nomatch z
 |d::ds,_,_,h=>by
  unfold RepA at h;obtain⟨x,r,bs,cs,e1,rfl,h1,h2⟩:=h;intro a ha;rcases aA ha with ha|ha
  ·exact RepL.al h1 a ha
  ·exact RepA.al h2 a ha
theorem RepP.al{g : Bool}: ∀{ds : List (D × D)} {xs : List V} {as : List Addr}, RepP K H g ds xs as -> ∀a ∈ as, (∃xs, H a = some (.lst xs)) \/ (∃ φ, H a = some (.ext φ)) \/ ∃kvs, H a = some (.dK kvs)
  | [], _, _, h=>by unfold RepP at h; rw[h.2]; exact λ_ z=>nomatch z
  | (_, d)::ds, _, _, h=>by
    unfold RepP at h;obtain⟨x, r, bs, cs, e1, rfl, h1, h2⟩:= h;intro a ha;rcases aA ha with ha|ha
    · exact RepL.al h1 a ha
    · exact RepP.al h2 a ha
end
mutual
theorem RepL.pu{g g':Bool}:∀{d:D} {v:V} {as:List Addr},RepL K H g d v as->d.pure=true->as=[]/\RepL K H g' d v []
 |.non,_,_,h,_=>by unfold RepL at h ⊢;exact⟨h.2,h.1,rfl⟩|.bl _,_,_,h,_=>by unfold RepL at h ⊢;exact⟨h.2,h.1,rfl⟩|.int _,_,_,h,_=>by unfold RepL at h ⊢;exact⟨h.2,h.1,rfl⟩|.str _,_,_,h,_=>by unfold RepL at h ⊢;exact⟨h.2.1,h.1,rfl,h.2.2⟩
 |.tup ds,_,_,h,p=>by
  unfold RepL at h ⊢;obtain⟨a,xs,e,s,r⟩:=h;obtain⟨z,r'⟩:=RepA.pu (g':=g') r (by unfold D.pure at p;exact p);exact⟨z,a,xs,e,s,r'⟩
 |.lst ds,_,_,h,p=>by unfold D.pure at p;cases p|.dct ds,_,_,h,p=>by unfold D.pure at p;cases p|.obj _ _,_,_,h,p=>by unfold D.pure at p;cases p
theorem RepA.pu{g g':Bool}:∀{ds:List D} {xs:List V} {as:List Addr},RepA K H g ds xs as->D.pures ds=true->as=[]/\RepA K H g' ds xs []
 |[],_,_,h,_=>by unfold RepA at h ⊢;exact⟨h.2,h.1,rfl⟩
 |d::ds,_,_,h,p=>by
  unfold RepA at h ⊢;unfold D.pures at p;rw[Bool.and_eq_true]at p;obtain⟨x,r,bs,cs,e1,rfl,h1,h2⟩:=h;obtain⟨rfl,q1⟩:=RepL.pu (g':=g') h1 p.1;obtain⟨rfl,q2⟩:=RepA.pu (g':=g') h2 p.2;exact⟨rfl,x,r,[],[],e1,rfl,q1,q2⟩
end
theorem RepR.wk:∀{d:D} {v:V} {as:List Addr},RepR K H d v as->RepL K H true d v as
 |.lst ds,_,_,h=>by
  obtain⟨a,xs,bs,e,r,q,z⟩:=h;unfold RepL;exact⟨a,xs,bs,e,r,.inl ⟨q,z⟩⟩
 |.dct kvs,_,_,h=>by
  obtain⟨a,xs,bs,e,r,q,z⟩:=h;unfold RepL;exact⟨a,xs,bs,e,r,q,z⟩
theorem RepR.kp:∀{d:D} {v:V} {as:List Addr},RepR K H d v as->Kp H H' as->RepR K H' d v as
 |.lst ds,_,_,h,k=>by
  obtain⟨a,xs,bs,e,r,q,rfl⟩:=h;exact⟨a,xs,bs,e,r.kp k.tail,k.2.2 a X7 _ q,rfl⟩
 |.dct kvs,_,_,h,k=>by
  obtain⟨a,xs,bs,e,r,q,rfl⟩:=h;exact⟨a,xs,bs,e,r.kp k.tail,k.dca q,rfl⟩
theorem RepO.wk:∀{o:Own} {d:D} {v:V} {as:List Addr},RepO K H o d v as->RepL K H true d v as
 |.no,_,_,_,h=>h|.rt,_,_,_,h=>RepR.wk h|.dp,_,_,_,h=>RepL.wk h
theorem RepO.kp:∀{o:Own} {d:D} {v:V} {as:List Addr},RepO K H o d v as->Kp H H' as->RepO K H' o d v as
 |.no,_,_,_,h,k=>RepL.kp h k|.rt,_,_,_,h,k=>RepR.kp h k|.dp,_,_,_,h,k=>RepL.kp h k
end
structure Sl where
 o:Own
 d:D
 v:V
 as:List Addr
def Sl.own(x:Sl):List Addr:=match x.o with
 |.no=>[]|.rt=>x.as.take 1|.dp=>x.as
def Sl.frz(x:Sl):List Addr:=match x.o with
 |.no=>x.as|.rt=>x.as.drop 1|.dp=>[]
theorem Sl.parts(x:Sl):x.own++x.frz=x.as:=by
 unfold Sl.own Sl.frz;cases x.o with|no=>rfl|rt=>exact List.take_append_drop 1 x.as|dp=>exact Xw _
theorem Sl.own_as{x:Sl}{a:Addr}(h:a∈x.own):a∈x.as:=by rw[<-x.parts];exact ll9 _ h
theorem Sl.frz_as{x:Sl}{a:Addr}(h:a∈x.frz):a∈x.as:=by rw[<-x.parts];exact lr9 _ h
theorem Sl.as_of{x:Sl}{a:Addr}(h:a∈x.as):a∈x.own\/a∈x.frz:=by rw[<-x.parts]at h;exact aA h
def Sl.let(x:Sl):Sl:={ x with o:=.no }
abbrev Ls:=List (Option Sl)
def j8(L:Ls):List Addr:=L.flatMap λx=>x.elim [] Sl.own
def jZ(L:Ls):List Addr:=L.flatMap λx=>x.elim [] Sl.frz
@[simp] theorem wk2:j8 []=[]:=rfl
@[simp] theorem vxq:jZ []=[]:=rfl
@[simp] theorem kJ (x:Sl)(L:Ls):j8 (some x::L)=x.own++j8 L:=by simp[j8]
@[simp] theorem vY (x:Sl)(L:Ls):jZ (some x::L)=x.frz++jZ L:=by simp[jZ]
@[simp] theorem qks (L:Ls):j8 (none::L)=j8 L:=by simp[j8]
@[simp] theorem kz9 (L:Ls):jZ (none::L)=jZ L:=by simp[jZ]
@[simp] theorem jW (L T:Ls):j8 (L++T)=j8 L++j8 T:=by simp[j8]
@[simp] theorem kX (L T:Ls):jZ (L++T)=jZ L++jZ T:=by simp[jZ]
theorem mem_owned{L:Ls}{a:Addr}:a∈j8 L↔∃x,some x∈L/\a∈x.own:=by
 unfold j8;rw[List.mem_flatMap];constructor
 ·rintro ⟨y,hy,h⟩;cases y with|none=>exact nomatch h|some x=>exact⟨x,hy,h⟩
 ·rintro ⟨x,hx,h⟩;exact⟨some x,hx,h⟩
theorem mem_frozen{L:Ls}{a:Addr}:a∈jZ L↔∃x,some x∈L/\a∈x.frz:=by
 unfold jZ;rw[List.mem_flatMap];constructor
 ·rintro ⟨y,hy,h⟩;cases y with|none=>exact nomatch h|some x=>exact⟨x,hy,h⟩
 ·rintro ⟨x,hx,h⟩;exact⟨some x,hx,h⟩
def Sl.ok(K:Frag)(H:Hp)(x:Sl):Prop:=RepO K H x.o x.d x.v x.as
theorem Sl.ok.al{K:Frag}{H:Hp}{x:Sl}(h:x.ok K H):∀a∈x.as,(∃xs,H a=some (.lst xs))\/(∃ φ,H a=some (.ext φ))\/∃kvs,H a=some (.dK kvs):=(RepO.wk h).al
theorem Sl.ok.some{K:Frag}{H:Hp}{x:Sl}(h:x.ok K H){a:Addr}(ha:a∈x.as):H a≠none:=λz=>by
 rcases h.al a ha with⟨xs,e⟩|⟨xs,e⟩|⟨xs,e⟩<;>(rw[z]at e;cases e)
structure World (K:Frag)(H:Hp)(L:Ls):Prop where
 ok:∀x,some x∈L->x.ok K H
 nd:(j8 L).Nodup
 ds:∀a∈j8 L,a∉jZ L
structure Step (H:Hp)(L:Ls)(H':Hp)(L':Ls):Prop where
 keep:∀a ob,H a=some ob->a∉j8 L->H' a=some ob
 own:∀a∈j8 L',a∈j8 L\/H a=none
 frz:∀a∈jZ L',a∈jZ L\/a∈j8 L\/H a=none
section
variable {K:Frag}{H H1 H2 H':Hp}{L L1 L2' L' T:Ls}{x y:Sl}
theorem World.own_al(w:World K H L){a:Addr}(h:a∈j8 L):(∃xs,H a=some (.lst xs))\/(∃ φ,H a=some (.ext φ))\/∃kvs,H a=some (.dK kvs):=by
 obtain⟨x,hx,ha⟩:=mem_owned.mp h;exact(w.ok x hx).al a (Sl.own_as ha)
theorem World.own_some(w:World K H L){a:Addr}(h:a∈j8 L):H a≠none:=by
 obtain⟨x,hx,ha⟩:=mem_owned.mp h;exact(w.ok x hx).some (Sl.own_as ha)
theorem World.frz_some(w:World K H L){a:Addr}(h:a∈jZ L):H a≠none:=by
 obtain⟨x,hx,ha⟩:=mem_frozen.mp h;exact(w.ok x hx).some (Sl.frz_as ha)
theorem Step.refl:Step H L H L:=⟨λ_ _ h _=>h,λ_ h=>.inl h,λ_ h=>.inl h⟩
theorem Step.trans(a:Step H L H1 L1)(b:Step H1 L1 H2 L2'):Step H L H2 L2' where
 keep:=λc ob h hn=>b.keep c ob (a.keep c ob h hn) λz=>(a.own c z).elim hn λe=>by rw[h]at e;cases e
 own:=λc hc=>by
  rcases b.own c hc with z|z
  ·exact a.own c z
  ·by_cases h:c∈j8 L
   ·exact .inl h
   ·refine .inr ?_;cases e:H c with|none=>rfl|some ob=>rw[a.keep c ob e h]at z;cases z
 frz:=λc hc=>by
  rcases b.frz c hc with z|z|z
  ·exact a.frz c z
  ·exact .inr (a.own c z)
  ·by_cases h:c∈j8 L
   ·exact .inr (.inl h)
   ·refine .inr (.inr ?_);cases e:H c with|none=>rfl|some ob=>rw[a.keep c ob e h]at z;cases z
theorem Step.kp(a:Step H L H' L')(w:World K H L){as:List Addr}(h:∀b∈as,b∉j8 L):Kp H H' as:=by
 have no:∀b ob,H b=some ob->(∀xs,ob≠.lst xs)->(∀ φ,ob≠.ext φ)->(∀kvs,ob≠.dK kvs)->H' b=some ob:=λb ob e h1 h2 h3=>a.keep b ob e λz=>by
  rcases w.own_al z with⟨xs,q⟩|⟨es,q⟩|⟨es,q⟩
  ·rw[e]at q;cases q;exact h1 _ rfl
  ·rw[e]at q;cases q;exact h2 _ rfl
  ·rw[e]at q;cases q;exact h3 _ rfl
 exact⟨λb xs e=>no b _ e (λ_ z=>(nomatch z)) (λ_ z=>(nomatch z)) (λ_ z=>(nomatch z)),λb o u e=>no b _ e (λ_ z=>(nomatch z)) (λ_ z=>(nomatch z)) (λ_ z=>(nomatch z)),λb hb ob e=>a.keep b ob e (h b hb)⟩
theorem Step.frame(a:Step H L H' L')(w:World K H (L++T))(w':World K H' L')(wL:World K H L):World K H' (L'++T):=by
 have nd:=w.nd;rw [jW,Xd]at nd;have dis:∀b∈j8 L,b∉j8 T:=λb hb hT=>nd.2.2 b hb b hT rfl
 have jf:∀x,some x∈T->x.ok K H:=λx hx=>w.ok x (lr9 _ hx)
 have nT:∀x,some x∈T->∀b∈x.as,b∉j8 L:=λx hx b hb hL=>by
  rcases Sl.as_of hb with z|z
  ·exact dis b hL (mem_owned.mpr ⟨x,hx,z⟩)
  ·refine w.ds b (by rw[jW];exact ll9 _ hL) ?_;rw[kX];exact lr9 _ (mem_frozen.mpr ⟨x,hx,z⟩)
 refine⟨λx hx=>?_,?_,λb hb=>?_⟩
 ·rcases aA hx with hx|hx
  ·exact w'.ok x hx
  ·exact(jf x hx).kp (a.kp wL (nT x hx))
 ·rw[jW,Xd];refine⟨w'.nd,nd.2.1,λb hb c hc e=>?_⟩;subst e;obtain⟨x,hx,gj⟩:=mem_owned.mp hc;rcases a.own b hb with z|z
  ·exact dis b z hc
  ·exact(jf x hx).some (Sl.own_as gj) z
 ·rw[jW]at hb;rw[kX];intro hf;rcases aA hb with hb|hb
  ·rcases aA hf with hf|hf
   ·exact w'.ds b hb hf
   ·obtain⟨x,hx,gj⟩:=mem_frozen.mp hf;rcases a.own b hb with z|z
    ·exact nT x hx b (Sl.frz_as gj) z
    ·exact(jf x hx).some (Sl.frz_as gj) z
  ·rcases aA hf with hf|hf
   ·obtain⟨x,hx,gj⟩:=mem_owned.mp hb;rcases a.frz b hf with z|z|z
    ·exact w.ds b (by rw[jW];exact lr9 _ hb) (by rw[kX];exact ll9 _ z)
    ·exact dis b z hb
    ·exact(jf x hx).some (Sl.own_as gj) z
   ·exact w.ds b (by rw[jW];exact lr9 _ hb) (by rw[kX];exact lr9 _ hf)
theorem World.left(w:World K H (L++T)):World K H L:=by
 have nd:=w.nd;rw[jW,Xd]at nd;exact⟨λx hx=>w.ok x (ll9 _ hx),nd.1,λa ha hf=>w.ds a (by rw[jW];exact ll9 _ ha) (by rw[kX];exact ll9 _ hf)⟩
theorem World.right(w:World K H (L++T)):World K H T:=by
 have nd:=w.nd;rw[jW,Xd]at nd;exact⟨λx hx=>w.ok x (lr9 _ hx),nd.2.1,λa ha hf=>w.ds a (by rw[jW];exact lr9 _ ha) (by rw[kX];exact lr9 _ hf)⟩
theorem World.comm(w:World K H (L++T)):World K H (T++L):=by
 refine⟨λx hx=>w.ok x ?_,?_,λa ha hf=>w.ds a ?_ ?_⟩
 ·rcases aA hx with h|h
  ·exact lr9 _ h
  ·exact ll9 _ h
 ·have nd:=w.nd;rw[jW,Xd]at nd ⊢;exact⟨nd.2.1,nd.1,λa ha b hb e=>nd.2.2 b hb a ha e.symm⟩
 ·rw[jW]at ha ⊢;rcases aA ha with h|h
  ·exact lr9 _ h
  ·exact ll9 _ h
 ·rw[kX]at hf ⊢;rcases aA hf with h|h
  ·exact lr9 _ h
  ·exact ll9 _ h
theorem World.tail{q:Option Sl}(w:World K H (q::L)):World K H L:=World.right (L:=[q]) w
theorem World.head(w:World K H (some x::L)):x.ok K H:=w.ok x X7
theorem World.apart(w:World K H (some x::L)):∀a∈x.as,a∉j8 L:=λa ha hL=>by
 rcases Sl.as_of ha with z|z
 ·have nd:=w.nd;rw[kJ,Xd]at nd;exact nd.2.2 a z a hL rfl
 ·exact w.ds a (by rw[kJ];exact lr9 _ hL) (by rw[vY];exact ll9 _ z)
theorem World.cons(w:World K H L)(h:x.ok K H)(n:x.own.Nodup)(h1:∀a∈x.own,a∉j8 L)(h2:∀a∈x.own,a∉jZ L)(h3:∀a∈x.frz,a∉j8 L)(h4:∀a∈x.own,a∉x.frz):World K H (some x::L):=by
 refine⟨λy hy=>?_,?_,λa ha hf=>?_⟩
 ·rcases aD hy with z|z
  ·cases z;exact h
  ·exact w.ok y z
 ·rw[kJ,Xd];exact⟨n,w.nd,λa ha b hb e=>by subst e;exact h1 a ha hb⟩
 ·rw[kJ]at ha;rw[vY]at hf;rcases aA ha with ha|ha
  ·rcases aA hf with hf|hf
   ·exact h4 a ha hf
   ·exact h2 a ha hf
  ·rcases aA hf with hf|hf
   ·exact h3 a hf ha
   ·exact w.ds a ha hf
theorem World.consNo(w:World K H L)(h:x.ok K H)(ho:x.o=.no)(h3:∀a∈x.as,a∉j8 L):World K H (some x::L):=by
 have e1:x.own=[]:=by unfold Sl.own;rw[ho]
 have e2:x.frz=x.as:=by unfold Sl.frz;rw[ho]
 exact w.cons h (by rw[e1];exact Y6) (by rw[e1];exact λ_ z=>nomatch z) (by rw[e1];exact λ_ z=>nomatch z) (by rw[e2];exact h3) (by rw[e1];exact λ_ z=>nomatch z)
theorem World.consPu(w:World K H L)(h:x.ok K H)(e:x.as=[]):World K H (some x::L):=by
 have e1:∀a,a∉x.own:=λa ha=>by have:=Sl.own_as ha;rw[e]at this;exact nomatch this
 have e2:∀a,a∉x.frz:=λa ha=>by have:=Sl.frz_as ha;rw[e]at this;exact nomatch this
 have e3:x.own=[]:=List.eq_nil_iff_forall_not_mem.mpr e1;exact w.cons h (by rw[e3];exact Y6) (λa z=>absurd z (e1 a)) (λa z=>absurd z (e1 a)) (λa z=>absurd z (e2 a)) (λa z=>absurd z (e1 a))
theorem jqs{L:Ls}{i:Nat}{q:Option Sl}(h:some y∈L.set i q):q=some y\/some y∈L:=by
 rcases List.mem_or_eq_of_mem_set h with z|z
 ·exact .inr z
 ·exact .inl z.symm
theorem ZX{i:Nat}{a:Addr}(h:a∈j8 (L.set i (some x))):a∈x.own\/a∈j8 L:=by
 obtain⟨y,hy,ha⟩:=mem_owned.mp h;rcases jqs hy with z|z
 ·cases z;exact .inl ha
 ·exact .inr (mem_owned.mpr ⟨y,z,ha⟩)
theorem jkk{i:Nat}{a:Addr}(h:a∈jZ (L.set i (some x))):a∈x.frz\/a∈jZ L:=by
 obtain⟨y,hy,ha⟩:=mem_frozen.mp h;rcases jqs hy with z|z
 ·cases z;exact .inl ha
 ·exact .inr (mem_frozen.mpr ⟨y,z,ha⟩)
theorem jqn:∀{L:Ls} {i:Nat},(x.own++j8 L).Nodup->(j8 (L.set i (some x))).Nodup
 |[],_,h=>by simp
 |q::L,0,h=>by
  rw[List.set_cons_zero,kJ];have e:j8 (q::L)=q.elim [] Sl.own++j8 L:=by simp[j8]
  rw[e,Xd]at h;obtain⟨h1,h2,h3⟩:=h;rw[Xd]at h2 ⊢;exact⟨h1,h2.2.1,λa ha b hb=>h3 a ha b (lr9 _ hb)⟩
 |q::L,i+1,h=>by
  rw[List.set_cons_succ];have e:∀M:Ls,j8 (q::M)=q.elim [] Sl.own++j8 M:=λM=>by simp[j8]
  rw[e]at h ⊢;rw[Xd]at h;obtain⟨h1,h2,h3⟩:=h;rw[Xd]at h2;rw[Xd];refine⟨h2.1,jqn (by rw[Xd];exact⟨h1,h2.2.1,λa ha b hb=>h3 a ha b (lr9 _ hb)⟩),λa ha b hb e=>?_⟩;subst e;rcases ZX hb with z|z
  ·exact h3 a z a (ll9 _ ha) rfl
  ·exact h2.2.2 a ha a z rfl
theorem World.set{i:Nat}(w:World K H (some x::L)):World K H (L.set i (some x)):=by
 refine⟨λy hy=>?_,jqn (by have:=w.nd;rwa [kJ]at this),λa ha hf=>?_⟩
 ·rcases jqs hy with z|z
  ·cases z;exact w.head
  ·exact w.ok y (lc9 _ z)
 ·refine w.ds a ?_ ?_
  ·rw[kJ];exact List.mem_append.mpr (ZX ha)
  ·rw[vY];exact List.mem_append.mpr (jkk hf)
theorem Step.set{i:Nat}:Step H (some x::L) H (L.set i (some x)) where
 keep:=λ_ _ h _=>h
 own:=λa ha=>.inl (by rw[kJ];exact List.mem_append.mpr (ZX ha))
 frz:=λa ha=>.inl (by rw[vY];exact List.mem_append.mpr (jkk ha))
theorem Step.drop{q:Option Sl}:Step H (q::L) H L where
 keep:=λ_ _ h _=>h
 own:=λa ha=>.inl (by rw[show(q::L:Ls)=[q]++L from rfl,jW];exact lr9 _ ha)
 frz:=λa ha=>.inl (by rw[show(q::L:Ls)=[q]++L from rfl,kX];exact lr9 _ ha)
theorem ww{i:Nat}(h:L[i]?=some (some x)):some x∈L:=List.mem_of_getElem? h
theorem VJ(x:Sl):x.let.own=[]/\x.let.frz=x.as/\x.let.as=x.as:=⟨rfl,rfl,rfl⟩
theorem kw6{i:Nat}{a:Addr}(h:a∈j8 (L.set i (some x.let))):a∈j8 L:=by
 rcases ZX h with z|z
 ·exact nomatch z
 ·exact z
theorem kz4:∀{L:Ls} {i:Nat},(j8 L).Nodup->(∀a∈j8 L,a∉jZ L)->L[i]?=some (some x)->∀a∈x.as,a∉j8 (L.set i (some x.let))
 | [],_,_,_,h,_,_=>by simp at h
 | q::L,0,nd,ds,h,a,ha=>by
  have e:q=some x:=by simpa using h
  subst e;rw[List.set_cons_zero,kJ];intro hm;have hm:a∈j8 L:=by simpa [VJ]using hm
  rcases Sl.as_of ha with z|z
  ·rw[kJ,Xd]at nd;exact nd.2.2 a z a hm rfl
  ·exact ds a (by rw[kJ];exact lr9 _ hm) (by rw[vY];exact ll9 _ z)
 | q::L,i+1,nd,ds,h,a,ha=>by
  have h:L[i]?=some (some x):=by simpa using h
  rw[List.set_cons_succ];have e:∀M:Ls,j8 (q::M)=q.elim [] Sl.own++j8 M:=λM=>by simp[j8]
  have f:jZ (q::L)=q.elim [] Sl.frz++jZ L:=by simp[jZ]
  rw[e];intro hm;rw[e,Xd]at nd;rcases aA hm with hm|hm
  ·rcases Sl.as_of ha with z|z
   ·exact nd.2.2 a hm a (mem_owned.mpr ⟨x,ww h,z⟩) rfl
   ·exact ds a (by rw[e];exact ll9 _ hm) (by rw[f];exact lr9 _ (mem_frozen.mpr ⟨x,ww h,z⟩))
  ·exact kz4 (L:=L) nd.2.1 (λb hb hf=>ds b (by rw[e];exact lr9 _ hb) (by rw[f];exact lr9 _ hf)) h a ha hm
theorem V1(h:x.ok K H):x.let.ok K H:=RepO.wk h
theorem World.let{i:Nat}(w:World K H L)(h:L[i]?=some (some x)):World K H (L.set i (some x.let)):=by
 have out:=kz4 w.nd w.ds h;refine⟨λy hy=>?_,jqn (by rw[(VJ x).1];exact w.nd),λa ha hf=>?_⟩
 ·rcases jqs hy with z|z
  ·cases z;exact V1 (w.ok x (ww h))
  ·exact w.ok y z
 ·rcases jkk hf with z|z
  ·exact out a z ha
  ·exact w.ds a (kw6 ha) z
theorem World.read{i:Nat}(w:World K H L)(h:L[i]?=some (some x)):World K H (some x.let::L.set i (some x.let)):=
 (w.let h).consNo (V1 (w.ok x (ww h))) rfl (kz4 (x:=x) w.nd w.ds h)
theorem Step.read{i:Nat}(h:L[i]?=some (some x)):Step H L H (some x.let::L.set i (some x.let)) where
 keep:=λ_ _ h _=>h
 own:=λa ha=>.inl (by rw[kJ,(VJ x).1]at ha;exact kw6 ha)
 frz:=λa ha=>by
  have hx:=ww h;have q:∀a∈x.as,a∈jZ L\/a∈j8 L\/H a=none:=λa ha=>by
   rcases Sl.as_of ha with z|z
   ·exact .inr (.inl (mem_owned.mpr ⟨x,hx,z⟩))
   ·exact .inl (mem_frozen.mpr ⟨x,hx,z⟩)
  rw[vY]at ha;rcases aA ha with z|z
  ·exact q a z
  ·rcases jkk z with z|z
   ·exact q a z
   ·exact .inl z
end
inductive Mt:En->L2.St->Ls->Prop
 |nil:Mt [] [] []
 |un {E:En} {O:L2.St} {L:Ls} {y:Option V}:Mt E O L->Mt (none::E) (y :: O) (none::L)
 |cons {E:En} {O:L2.St} {L:Ls} {x:Sl}:Mt E O L->Mt (some (x.o,x.d)::E) (some x.v :: O) (some x::L)
theorem Mt.get:∀{E:En} {O:L2.St} {L:Ls} {i:Nat} {o:Own} {d:D},Mt E O L->E[i]?=some (some (o,d))->∃x,L[i]?=some (some x)/\x.o=o/\x.d=d/\O[i]?=some (some x.v)
 |_,_,_,_,_,_,.nil,h=>by simp at h|_,_,_,0,_,_,.un _,h=>by simp at h|_,_,_,i+1,_,_,.un m,h=>by simpa using m.get (i:=i) (by simpa using h)
 |_,_,_,0,_,_,.cons (x:=x) m,h=>by
  simp only[List.getElem?_cons_zero,Option.some.injEq,Prod.mk.injEq]at h;exact⟨x,by simp,h.1,h.2,by simp⟩
 |_,_,_,i+1,_,_,.cons m,h=>by simpa using m.get (i:=i) (by simpa using h)
theorem Mt.set{x:Sl}:∀{E:En} {O:L2.St} {L:Ls} (i:Nat),Mt E O L->Mt (E.set i (some (x.o,x.d))) (O.set i (some x.v)) (L.set i (some x))
 |_,_,_,_,.nil=>.nil|_,_,_,0,.un m=>.cons m|_,_,_,i+1,.un m=>.un (m.set i)|_,_,_,0,.cons m=>.cons m|_,_,_,i+1,.cons m=>.cons (m.set i)
theorem Mt.let{x:Sl}:∀{E:En} {O:L2.St} {L:Ls} {i:Nat},Mt E O L->L[i]?=some (some x)->Mt (E.set i (some (.no,x.d))) O (L.set i (some x.let))
 |_,_,_,_,.nil,h=>by simp at h|_,_,_,0,.un m,h=>by simp at h|_,_,_,i+1,.un m,h=>.un (m.let (i:=i) (by simpa using h))
 |_,_,_,0,.cons (x:=y) m,h=>by
  have e:y=x:=by simpa using h
  subst e;exact .cons (x:=y.let) m
 |_,_,_,i+1,.cons m,h=>.cons (m.let (i:=i) (by simpa using h))
theorem Mt.len:∀{E:En} {O:L2.St} {L:Ls},Mt E O L->E.length=O.length/\L.length=O.length
 |_,_,_,.nil=>⟨rfl,rfl⟩|_,_,_,.un m=>by simp[m.len]|_,_,_,.cons m=>by simp[m.len]
def sls(L:Ls):List Sl:=L.filterMap id
theorem Q2(L:Ls):j8 L=(sls L).flatMap Sl.own:=by
 induction L with
 |nil=>rfl
 |cons q L ih=>
  cases q with|none=>rw[qks,ih];rfl|some x=>rw[kJ,ih];rfl
theorem Vw(L:Ls):jZ L=(sls L).flatMap Sl.frz:=by
 induction L with
 |nil=>rfl
 |cons q L ih=>
  cases q with|none=>rw[kz9,ih];rfl|some x=>rw[vY,ih];rfl
theorem mem_sls{L:Ls}{x:Sl}:x∈sls L↔some x∈L:=by simp[sls]
@[simp] theorem Vv (L T:Ls):sls (L++T)=sls L++sls T:=by simp[sls]
@[simp] theorem qzj (L:Ls):sls (none::L)=sls L:=rfl
@[simp] theorem kzw (x:Sl)(L:Ls):sls (some x::L)=x::sls L:=rfl
@[simp] theorem wvo:sls []=[]:=rfl
@[simp] theorem wvp (T:List Sl):sls (T.map some)=T:=by simp[sls]
@[simp] theorem vqz (k:Nat):sls (List.replicate k none)=[]:=by
 induction k with|zero=>rfl|succ k ih=>rw[List.replicate_succ,qzj,ih]
theorem jql{α β:Type}(f:α->List β){l l':List α}(h:l.Sublist l'):(l.flatMap f).Sublist (l'.flatMap f):=by
 induction h with|slnil=>exact Yq _|cons a _ ih=>rw[List.flatMap_cons];exact List.Sublist.trans ih (List.sublist_append_right _ _)|cons_cons a _ ih=>rw[List.flatMap_cons,List.flatMap_cons];exact List.Sublist.append (Yq _) ih
section
variable {K:Frag}{H H':Hp}{L L' M M':Ls}
theorem World.same(w:World K H L)(p:(sls L).Perm (sls L')):World K H L':=by
 have po:(j8 L).Perm (j8 L'):=by rw[Q2,Q2];exact p.flatMap_right _
 have pf:(jZ L).Perm (jZ L'):=by rw[Vw,Vw];exact p.flatMap_right _
 exact⟨λx hx=>w.ok x (mem_sls.mp (p.mem_iff.mpr (mem_sls.mpr hx))),po.nodup_iff.mp w.nd,λa ha hf=>w.ds a (po.mem_iff.mpr ha) (pf.mem_iff.mpr hf)⟩
theorem Step.same(s:Step H L H' L')(p:(sls L).Perm (sls M))(p':(sls L').Perm (sls M')):Step H M H' M':=by
 have po:(j8 L).Perm (j8 M):=by rw[Q2,Q2];exact p.flatMap_right _
 have pf:(jZ L).Perm (jZ M):=by rw[Vw,Vw];exact p.flatMap_right _
 have po':(j8 L').Perm (j8 M'):=by rw[Q2,Q2];exact p'.flatMap_right _
 have pf':(jZ L').Perm (jZ M'):=by rw[Vw,Vw];exact p'.flatMap_right _
 exact⟨λa ob h hn=>s.keep a ob h λz=>hn (po.mem_iff.mp z),λa ha=>(s.own a (po'.mem_iff.mpr ha)).imp (λz=>po.mem_iff.mp z) id,
  λa ha=>(s.frz a (pf'.mem_iff.mpr ha)).imp (λz=>pf.mem_iff.mp z) λz=>z.imp (λz=>po.mem_iff.mp z) id⟩
theorem World.sub(w:World K H L)(p:(sls L').Sublist (sls L)):World K H L':=by
 refine⟨λx hx=>w.ok x (mem_sls.mp (p.subset (mem_sls.mpr hx))),?_,λa ha hf=>w.ds a ?_ ?_⟩
 ·have:=w.nd;rw[Q2]at this ⊢;exact(jql _ p).nodup this
 ·rw[Q2]at ha ⊢;exact(jql _ p).subset ha
 ·rw[Vw]at hf ⊢;exact(jql _ p).subset hf
theorem Step.sub(s:Step H L H' L')(p:(sls M).Sublist (sls L')):Step H L H' M:=by
 refine⟨s.keep,λa ha=>s.own a ?_,λa ha=>s.frz a ?_⟩
 ·rw[Q2]at ha ⊢;exact(jql _ p).subset ha
 ·rw[Vw]at ha ⊢;exact(jql _ p).subset ha
end
theorem jx0:∀{L:Ls} {j:Nat},(sls (at' L j::L.set j none)).Perm (sls L)
 | [],j=>by simp[at',sls]
 | q::L,0=>by
  cases q with|none=>simp[at',sls]|some x=>simp[at',sls]
 | q::L,j+1=>by
  have ih:=jx0 (L:=L) (j:=j);have e:at' (q::L) (j+1)=at' L j:=by simp[at']
  rw[e,List.set_cons_succ];have e2:∀(a b:Option Sl) (M:Ls),(sls (a::b::M)).Perm (sls (b::a::M)):=λa b M=>by
   cases a<;>cases b<;>simp[sls]
   exact List.Perm.swap ..
  refine(e2 _ _ _).trans ?_;cases q with|none=>simpa [sls]using ih|some y=>simpa [sls]using ih
theorem qju:∀{R:List Nat} {L:Ls},R.Nodup->(sls (R.map (at' L)++clr R L)).Perm (sls L)
 | [],L,_=>by simp[clr]
 | j::R,L,h=>by
  rw[List.nodup_cons]at h;have e:R.map (at' L)=R.map (at' (L.set j none)):=by
   apply List.map_congr_left;intro i hi;have:j≠i:=λe=>h.1 (e▸hi)
   unfold at';rw[Yi this]
  rw[List.map_cons,List.cons_append,clr,e];have ih:=qju (R:=R) (L:=L.set j none) h.2;refine List.Perm.trans ?_ (jx0 (L:=L) (j:=j));cases hq:at' L j with|none=>simpa [sls]using ih|some x=>simpa [sls]using ih
theorem qxl{α:Type}:∀{R:List Nat} {L:List (Option α)},(clr R L).length=L.length
 |[],_=>rfl|j::R,L=>by rw[clr,qxl,Yt]
theorem qxm{α:Type}:∀{R:List Nat} {L:List (Option α)} {j:Nat},j∈R->at' (clr R L) j=none
 | [],_,_,h=>by cases h
 | i :: R,L,j,h=>by
  rw [clr]
  by_cases hR:j∈R
  ·exact qxm hR
  ·have e:j=i:=by simpa [hR]using h
   subst e;have gen:∀{R:List Nat} {M:List (Option α)},j∉R->at' (clr R M) j=at' M j:=by
    intro R
    induction R with
    |nil=>intro M _;rfl
    |cons r R ih=>
     intro M h;rw[Y1,not_or]at h;rw[clr,ih h.2];unfold at';rw[Yi (Ne.symm h.1)]
   rw[gen hR];unfold at'
   by_cases hl:j<L.length
   ·rw[Z5 hl];rfl
   ·rw[List.set_eq_of_length_le ⋯,Yl ⋯];rfl
theorem kx9:∀{R:List Nat} {B L:Ls},R.Nodup->(∀j∈R,at' L j=none)->(∀j∈R,j<L.length)->B.length=R.length->(sls (back R B L)).Perm (sls (B++L))
 | [],B,L,_,_,_,hl=>by
  have:B=[]:=by simpa using hl
  subst this;simp [back]
 | j :: R,[],L,_,_,_,hl=>by simp at hl
 | j :: R,q::B,L,hn,hz,hr,hl=>by
  rw [List.nodup_cons]at hn;rw [back];have hj:=hr j X7;have ih:=kx9 (R:=R) (B:=B) (L:=L.set j q) hn.2 (λi hi=>by
   have:j≠i:=λe=>hn.1 (e▸hi)
   unfold at';rw [Yi this];exact hz i (lc9 _ hi)) (λi hi=>by rw[Yt];exact hr i (lc9 _ hi)) (by simpa using hl)
  refine ih.trans ?_;have sp:∀{M:Ls} {i:Nat},at' M i=none->i<M.length->(sls (M.set i q)).Perm (sls (q::M)):=by
   intro M
   induction M with
   | nil=>intro i _ h;simp at h
   | cons r M ihM=>
    intro i h1 h2;cases i with
    | zero=>
     have:r=none:=by simpa [at']using h1
     subst this;cases q<;>simp[sls]
    | succ i=>
     have:=ihM (i:=i) (by simpa [at']using h1) (by simpa using h2);rw[List.set_cons_succ];cases r with
     | none=>cases q<;>simpa [sls]using this
     | some y=>
      cases q with
      |none=>simpa [sls]using this
      |some x=>
       simp only[kzw]at this ⊢;exact(this.cons y).trans (List.Perm.swap ..)
  rw[Vv,List.cons_append];have h1:=sp (hz j X7) hj;have h2:(sls B++sls (L.set j q)).Perm (sls B++sls (q::L)):=h1.append_left _;refine h2.trans ?_;cases q with
  |none=>simp
  |some x=>
   simp only[kzw,Vv];exact List.perm_middle
section
variable {K:Frag}{H H1 H2 H':Hp}{L L1 L' T:Ls}{x y:Sl}
theorem YZ(p:L.Perm L'):(j8 L).Perm (j8 L'):=p.flatMap_right _
theorem jwv(p:L.Perm L'):(jZ L).Perm (jZ L'):=p.flatMap_right _
theorem World.perm(w:World K H L)(p:L.Perm L'):World K H L':=
 ⟨λx hx=>w.ok x (p.mem_iff.mpr hx),(YZ p).nodup_iff.mp w.nd,λa ha hf=>w.ds a ((YZ p).mem_iff.mpr ha) ((jwv p).mem_iff.mpr hf)⟩
theorem Step.perm(s : Step H L H' L'){M M' : Ls}(p : L.Perm M)(p' : L'.Perm M'): Step H M H' M':=
  ⟨λa ob h hn=>s.keep a ob h λz=>hn ((YZ p).mem_iff.mp z),
   λa ha=>(s.own a ((YZ p').mem_iff.mpr ha)).imp (λz=>(YZ p).mem_iff.mp z) id,
   λa ha=>(s.frz a ((jwv p').mem_iff.mpr ha)).imp (λz=>(jwv p).mem_iff.mp z) λz=>z.imp (λz=>(YZ p).mem_iff.mp z) id⟩
theorem Step.frm(s:Step H L H' L'):Step H (L++T) H' (L'++T) where
 keep:=λa ob h hn=>s.keep a ob h λz=>hn (by rw[jW];exact ll9 _ z)
 own:=λa ha=>by
  rw[jW]at ha ⊢;rcases aA ha with z|z
  ·exact(s.own a z).imp (ll9 _) id
  ·exact .inl (lr9 _ z)
 frz:=λa ha=>by
  rw[kX]at ha ⊢;rw[jW];rcases aA ha with z|z
  ·exact(s.frz a z).imp (ll9 _) λz=>z.imp (ll9 _) id
  ·exact .inl (lr9 _ z)
theorem wq2(w:World K H (T++L))(s:Step H L H' L')(w':World K H' L'):World K H' (T++L')/\Step H (T++L) H' (T++L'):=by
 have w1:World K H (L++T):=w.comm;exact⟨(s.frame w1 w' w1.left).comm,s.frm.perm List.perm_append_comm List.perm_append_comm⟩
end
theorem ex8{α β γ:Type}{P:Prop}{a b c d e:α->β->γ->Prop}(h:∃x y z,a x y z/\b x y z/\c x y z/\d x y z/\e x y z)(f:∀x y z,a x y z->b x y z->c x y z->d x y z->e x y z->P):P:=
 h.elim λx h=>h.elim λy h=>h.elim λz h=>f x y z h.1 h.2.1 h.2.2.1 h.2.2.2.1 h.2.2.2.2
theorem ex7{α β γ:Type}{P:Prop}{a b c d:α->β->γ->Prop}(h:∃x y z,a x y z/\b x y z/\c x y z/\d x y z)(f:∀x y z,a x y z->b x y z->c x y z->d x y z->P):P:=
 h.elim λx h=>h.elim λy h=>h.elim λz h=>f x y z h.1 h.2.1 h.2.2.1 h.2.2.2
theorem qk{X:Cx}{e:Expr}{t t':TE}(h:PE X e t)(w:∀ O H Q,t' O H Q->t O H Q):PE X e t':=λpins s O H Q I q=>h pins s O H Q I (w O H Q q)
theorem qvk{X:Cx}{e:Expr}{t t':TT}(h:PT X e t)(w:∀ O H Q,t' O H Q->t O H Q):PT X e t':=λpins s O H Q I q=>h pins s O H Q I (w O H Q q)
theorem Kk{X:Cx}{e:Stmt}{t t':TS}(h:PS X e t)(w:∀D O H,t' D O H->t D O H):PS X e t':=λpins s O H D I q=>h pins s O H D I (w D O H q)
theorem qvl{X:Cx}{e:List Stmt}{t t':TS}(h:PSs X e t)(w:∀D O H,t' D O H->t D O H):PSs X e t':=λpins s O H D I q=>h pins s O H D I (w D O H q)
structure Fx0 where
 K:Frag
 mg:Str->Option Value
 EX:XK
def Xc{α:Type}(Z:Fx0)(O:L2.St)(H:Hp)(L:Ls)(r:Res α):Prop:=∀E' c,r=.exc E' c->∀C L' H',Z.mg c=some (.ref C)->Mt E' O L'->World Z.K H' L'->Step H L H' L'->Z.EX (.ref C) none H'
theorem Xc.step{α:Type}{Z:Fx0}{O:L2.St}{H H1:Hp}{L L1:Ls}{r:Res α}(x:Xc Z O H L r)(s:Step H L H1 L1):Xc Z O H1 L1 r:=λE' c e C L' H' hm m w s'=>x E' c e C L' H' hm m w (s.trans s')
theorem Xc.map{α β:Type}{Z:Fx0}{O:L2.St}{H:Hp}{L:Ls}{r:Res α}{E':En}{c:Str}(x:Xc Z O H L r)(e:r=.exc E' c):Xc Z O H L (.exc E' c:Res β):=λE1 c1 e1=>by
 injection e1 with h1 h2;subst h1 h2;exact x _ _ e
def tQ(Z:Fx0)(q:Bool)(c:Ex):TE:=fun O H Q=>∃E L r,Mt E O L/\World Z.K H L/\c E=some r/\Xc Z O H L r /\
 ∀E' a,r=.ok E' a->∀(x:Sl) L' H',x.o=a.1->x.d=a.2->Mt E' O L'->World Z.K H' (some x::L')->Step H L H' (some x::L')->(q=true->k4 H H'/\∀b∈x.own,H b=none)->Q x.v H'
def Src(H:Hp)(L:Ls)(as:List Addr):Prop:=∀b∈as,b∈jZ L\/b∈j8 L\/H b=none
theorem Src.back{H H1:Hp}{L L1:Ls}{as:List Addr}(h:Src H1 L1 as)(s:Step H L H1 L1):Src H L as:=λb hb=>by
 rcases h b hb with z|z|z
 ·exact s.frz b z
 ·exact .inr (s.own b z)
 ·by_cases ho:b∈j8 L
  ·exact .inr (.inl ho)
  ·refine .inr (.inr ?_);cases e:H b with|none=>rfl|some ob=>rw[s.keep b ob e ho]at z;cases z
def tV(Z:Fx0)(q:Bool)(c:Ex):TE:=fun O H Q=>∃E L r,Mt E O L/\World Z.K H L/\c E=some r/\Xc Z O H L r /\
 ∀E' a,r=.ok E' a->∀(x:Sl) L' H',x.o=a.1->x.d=a.2->Mt E' O L'->World Z.K H' L'->x.ok Z.K H'->(∀b∈x.frz,b∉j8 L')->Src H L x.as->Step H L H' L'->(q=true->k4 H H')->Q x.v H'
def QE(X:Cx)(Z:Fx0)(q:Bool)(c:Ex)(e:Expr):Prop:=PE X e (tQ Z q c)
def QV(X:Cx)(Z:Fx0)(q:Bool)(c:Ex)(e:Expr):Prop:=PE X e (tV Z q c)
section
variable {X:Cx}{Z:Fx0}{q qa qb:Bool}{a b c:Ex}{e ea eb:Expr}{pos:Pos}{α:Type}{O:L2.St}{H:Hp}{L:Ls}{E:En}
theorem xw{β:Type}{m:Option (Res α)}{F:En->α->Option (Res β)}{r:Res β}(h:bnd m F=some r):(∃E1 x,m=some (.ok E1 x)/\F E1 x=some r)\/∃E1 c,m=some (.exc E1 c)/\r=.exc E1 c:=by
 cases m with
 |none=>cases h
 |some q=>
  cases q with|ok E1 x=>exact .inl ⟨E1,x,rfl,h⟩|exc E1 c=>exact .inr ⟨E1,c,rfl,(oq9 h).symm⟩
theorem WK{F:En->Sd->Option (Res α)}{r:Res α}{G:VK}(m:Mt E O L)(w:World Z.K H L)(h:bnd (a E) F=some r)(xc:Xc Z O H L r)
  (k:∀E1 s,F E1 s=some r->∀(x:Sl) L1 H1,x.o=s.1->x.d=s.2->Mt E1 O L1->World Z.K H1 (some x::L1)->Step H L H1 (some x::L1)->(q=true->k4 H H1/\∀b∈x.own,H b=none)->G x.v H1):tQ Z q a O H G:=by
 rcases xw h with⟨E1,s,h1,h2⟩|⟨E1,c,h1,h2⟩
 ·exact⟨E,L,_,m,w,h1,(λ_ _ z=>by cases z),λE' s' z x L' H' e1 e2 m' w' st sm=>by
   injection z with z1 z2;subst z1 z2;exact k _ _ h2 x L' H' e1 e2 m' w' st sm⟩
 ·exact⟨E,L,_,m,w,h1,xc.map h2,λE' s' z=>by cases z⟩
theorem vk{F:En->Sd->Option (Res α)}{r:Res α}{G:VK}(m:Mt E O L)(w:World Z.K H L)(h:bnd (a E) F=some r)(xc:Xc Z O H L r)
  (k:∀E1 s,F E1 s=some r->∀(x:Sl) L1 H1,x.o=s.1->x.d=s.2->Mt E1 O L1->World Z.K H1 L1->x.ok Z.K H1->(∀b∈x.frz,b∉j8 L1)->Src H L x.as->Step H L H1 L1->(q=true->k4 H H1)->G x.v H1):tV Z q a O H G:=by
 rcases xw h with⟨E1,s,h1,h2⟩|⟨E1,c,h1,h2⟩
 ·exact⟨E,L,_,m,w,h1,(λ_ _ z=>by cases z),λE' s' z x L' H' e1 e2 m' w' ok fr sr st sm=>by
   injection z with z1 z2;subst z1 z2;exact k _ _ h2 x L' H' e1 e2 m' w' ok fr sr st sm⟩
 ·exact⟨E,L,_,m,w,h1,xc.map h2,λE' s' z=>by cases z⟩
theorem WQ{x:Sl}{K:Frag}{H1 H2:Hp}{L1 L2':Ls}(ok:x.ok K H1)(fr:∀b∈x.frz,b∉j8 L1)(st:Step H1 L1 H2 L2')(sm:k4 H1 H2):x.ok K H2/\∀b∈x.frz,b∉j8 L2':=
 ⟨RepO.kp ok (Kp.of_same sm),λb hb ho=>(st.own b ho).elim (fr b hb) λz=>ok.some (Sl.frz_as hb) z⟩
theorem Jq{x:Option α}{r:Res α}(h:val E x=some r):∃y,x=some y/\r=.ok E y:=by
 cases x with|none=>cases h|some y=>exact⟨y,rfl,(oq9 h).symm⟩
theorem QE.weak(h:QE X Z true c e):QE X Z q c e:=qk h fun O H Q az=>ex8 az λE L r m w hc xc k=>⟨E,L,r,m,w,hc,xc,λE' s z x L' H' e1 e2 m' w' st sm=>k E' s z x L' H' e1 e2 m' w' st λ_=>sm rfl⟩
theorem kqi{x:Sl}{H1:Hp}{L1:Ls}(st:Step H L H1 (some x::L1)):Src H L x.as:=λb hb=>by
 rcases Sl.as_of hb with z|z
 ·exact .inr (st.own b (by rw[kJ];exact ll9 _ z))
 ·exact st.frz b (by rw[vY];exact ll9 _ z)
theorem j5(h:QE X Z q c e):QV X Z q (vE c) e:=qk h fun O H Q az=>ex8 az λE L r m w hc xc k=>
 WK m w hc xc λE1 s h1 x L1 H1 e1 e2 m1 w1 st sm=>by
  cases oq9 h1;exact k _ _ rfl x.let L1 H1 rfl e2 m1 w1.tail (V1 w1.head) (λb hb=>w1.apart b hb) (kqi (x:=x) st) (st.trans Step.drop) λhq=>(sm hq).1
theorem Jz{x:Sl}{H1:Hp}{L1:Ls}(st:Step H L H1 L1)(sr:Src H L x.as)(ho:x.own=[]):Step H L H1 (some x::L1) where
 keep:=st.keep
 own:=λb hb=>by rw[kJ,ho]at hb;exact st.own b hb
 frz:=λb hb=>by
  rw[vY]at hb;rcases aA hb with z|z
  ·exact sr b (Sl.frz_as z)
  ·exact st.frz b z
theorem qvx{x:Sl}(h:x.o=.no):x.own=[]:=by unfold Sl.own;rw[h]
theorem kwo{x:Sl}(h:x.o=.no):x.frz=x.as:=by unfold Sl.frz;rw[h]
theorem vvx{x:Sl}(h:x.as=[]):x.own=[]:=List.eq_nil_iff_forall_not_mem.mpr λa ha=>by have:=Sl.own_as ha;rw[h]at this;exact nomatch this
theorem jV(h:QV X Z q c e):QE X Z q (cH c) e:=qk h fun O H Q az=>ex8 az λE L r m w hc xc k=>
 vk m w hc xc λE1 s h1 x L1 H1 e1 e2 m1 w1 ok fr sr st sm=>by
  by_cases ho:s.1=.no
  ·rw[X9 ho]at h1;cases oq9 h1;have eo:x.o=.no:=e1.trans ho;exact k _ _ rfl x L1 H1 eo e2 m1 (w1.consNo ok eo λb hb=>fr b (by rw[kwo eo];exact hb)) (Jz st sr (qvx eo)) λhq=>⟨sm hq,by rw[qvx eo];exact λ_ z=>(nomatch z)⟩
  ·rw[Xb ho]at h1
   by_cases hp:s.2.pure=true
   ·rw[X9 hp]at h1;cases oq9 h1;obtain⟨z,rp⟩:=RepL.pu (g':=false) (RepO.wk ok) (by rw[e2];exact hp);exact k _ _ rfl ⟨.dp,x.d,x.v,[]⟩ L1 H1 rfl e2 m1 (w1.consPu rp rfl) (Jz (x:=⟨.dp,x.d,x.v,[]⟩) st (λb hb=>nomatch hb) rfl) λhq=>⟨sm hq,λ_ z=>(nomatch z)⟩
   ·rw[Xb hp]at h1;cases h1
theorem q_C{d:D}{v:V}(h:PE X e (tC v))(hr:∀H,RepL Z.K H false d v []):QE X Z true (cC d) e:=qk h fun O H Q az=>ex8 az λE L r m w hc xc k=>by
 cases oq9 hc;exact k _ _ rfl ⟨.dp,d,v,[]⟩ L H rfl rfl m (w.consPu (hr H) rfl) (Jz (x:=⟨.dp,d,v,[]⟩) Step.refl (λb hb=>nomatch hb) rfl) λ_=>⟨λ_ _ z=>z,λ_ z=>(nomatch z)⟩
theorem q_V{i:Nat}(h:PE X e (JX i)):QE X Z true (cV i) e:=qk h fun O H Q az=>ex8 az λE L r m w hc xc k=>by
 unfold cV at hc
 split at hc
 ·rename_i o d hE;cases oq9 hc;obtain⟨x,h1,h2,h3,h4⟩:=m.get hE;refine⟨x.v,h4,k _ _ rfl x.let _ H rfl h3 ?_ (w.read h1) (Step.read h1) λ_=>⟨λ_ _ z=>z,λ_ z=>(nomatch z)⟩⟩;have:=m.let h1
  rwa [h3]at this
 ·cases hc
theorem qw6:∀{E:En} {O:L2.St} {L:Ls} (j:Nat),Mt E O L->Mt (E.set j none) O (L.set j none):=by
 intro E O L j m
 induction m generalizing j with
 |nil=>exact .nil
 |un m ih=>cases j with|zero=>exact .un m|succ j=>exact .un (ih j)
 |cons m ih=>cases j with|zero=>exact .un m|succ j=>exact .cons (ih j)
theorem jx2{x:Sl}:∀{L:Ls} {i:Nat},L[i]?=some (some x)->(none::L).Perm (some x::L.set i none)
 |[],_,h=>by simp at h
 |q::L,0,h=>by
  have e:q=some x:=by simpa using h
  subst e;exact List.Perm.swap ..
 |q::L,i+1,h=>by
  have:=jx2 (L:=L) (i:=i) (by simpa using h);rw[List.set_cons_succ];exact(List.Perm.swap ..).trans ((this.cons q).trans (List.Perm.swap ..))
theorem ww3{i:Nat}(h:PE X e (JX i)):QE X Z false (cMv i) e:=qk h fun O H Q az=>ex8 az λE L r m w hc xc k=>by
 unfold cMv at hc
 split at hc
 ·rename_i s hE;cases oq9 hc;obtain⟨o,d⟩:=s;obtain⟨x,h1,h2,h3,h4⟩:=m.get hE;have wn:World Z.K H (none::L):=⟨λy hy=>w.ok y (by simpa using hy),by simpa using w.nd,by simpa using w.ds⟩;have sn:Step H L H (none::L):=⟨λ_ _ z _=>z,λa z=>.inl (by simpa using z),λa z=>.inl (by simpa using z)⟩;exact⟨x.v,h4,k _ _ rfl x _ H h2 h3 (qw6 i m) (wn.perm (jx2 h1)) (sn.trans (Step.refl.perm (List.Perm.refl _) (jx2 h1))) λz=>(nomatch z)⟩
 ·cases hc
theorem q_vV{i:Nat}(h:PE X e (JX i)):QV X Z true (vV i) e:=qk h fun O H Q az=>ex8 az λE L r m w hc xc k=>by
 unfold vV at hc
 split at hc
 ·rename_i s hE;cases oq9 hc;obtain⟨o,d⟩:=s;obtain⟨x,h1,h2,h3,h4⟩:=m.get hE;have hx:=ww h1;refine⟨x.v,h4,k _ _ rfl x L H h2 h3 m w (w.ok x hx) (λb hb ho=>w.ds b ho (mem_frozen.mpr ⟨x,hx,hb⟩)) (λb hb=>?_) Step.refl λ_=>λ_ _ z=>z⟩;rcases Sl.as_of hb with z|z
  ·exact .inr (.inl (mem_owned.mpr ⟨x,hx,z⟩))
  ·exact .inl (mem_frozen.mpr ⟨x,hx,z⟩)
 ·cases hc
structure Out (K:Frag)(H H':Hp)(z:Sl)(fr:List Addr):Prop where
 same:k4 H H'
 ok:z.ok K H'
 new:∀b∈z.own,H b=none
 nd:z.own.Nodup
 fr:∀b∈z.frz,b∈fr
def Ad1(K:Frag)(r:V->Hp->VK->Prop)(f:Sd->Option Sd):Prop:=∀(H:Hp) (x:Sl) (s:Sd) (Q:VK),x.ok K H->f (x.o,x.d)=some s->(∀(z:Sl) H',z.o=s.1->z.d=s.2->Out K H H' z x.frz->Q z.v H')->r x.v H Q
def Ad2(K:Frag)(r:R2)(f:Sd->Sd->Option Sd):Prop:=∀(H:Hp) (x y:Sl) (s:Sd) (Q:VK),x.ok K H->y.ok K H->f (x.o,x.d) (y.o,y.d)=some s->(∀(z:Sl) H',z.o=s.1->z.d=s.2->Out K H H' z (x.frz++y.frz)->Q z.v H')->r x.v y.v H Q
theorem jx4{K:Frag}{H H':Hp}{d:D}{v:V}{fr:List Addr}(s:k4 H H')(r:RepL K H' false d v []):Out K H H' ⟨.dp,d,v,[]⟩ fr:=⟨s,r,λ_ h=>(nomatch h),Y6,λ_ h=>(nomatch h)⟩
theorem xQ{H:Hp}:k4 H H:=λ_ _ z=>z
theorem qw{H H1 H2:Hp}(a:k4 H H1)(b:k4 H1 H2):k4 H H2:=λc ob h=>b c ob (a c ob h)
theorem Q1{z:Sl}{fr:List Addr}{H1 H2:Hp}{L1:Ls}(w:World Z.K H1 L1)(st:Step H L H1 L1)(o:Out Z.K H1 H2 z fr)(ap:∀b∈fr,b∉j8 L1)(al:∀b∈fr,H1 b≠none)(sr:Src H L fr):
  World Z.K H2 (some z::L1)/\Step H L H2 (some z::L1):=by
 have w2:World Z.K H2 L1:=⟨λx hx=>RepO.kp (w.ok x hx) (Kp.of_same o.same),w.nd,w.ds⟩;refine⟨w2.cons o.ok o.nd (λb hb ho=>w.own_some ho (o.new b hb)) (λb hb hf=>w.frz_some hf (o.new b hb)) (λb hb=>ap b (o.fr b hb)) (λb hb hf=>al b (o.fr b hf) (o.new b hb)),?_⟩;refine⟨λb ob h hn=>o.same b ob (st.keep b ob h hn),λb hb=>?_,λb hb=>?_⟩
 ·rw[kJ]at hb;rcases aA hb with z|z
  ·by_cases ho:b∈j8 L
   ·exact .inl ho
   ·refine .inr ?_;cases e:H b with|none=>rfl|some ob=>have:=o.new b z;rw[st.keep b ob e ho]at this;cases this
  ·exact st.own b z
 ·rw[vY]at hb;rcases aA hb with z|z
  ·exact sr b (o.fr b z)
  ·exact st.frz b z
theorem jwz{as bs:List Addr}(h:Src H L as)(hb:∀b∈bs,b∈as):Src H L bs:=λb z=>h b (hb b z)
theorem vqy{as bs:List Addr}(h:Src H L as)(h':Src H L bs):Src H L (as++bs):=λb z=>(aA z).elim (h b) (h' b)
theorem z9{H H1:Hp}{b:Addr}(s:k4 H H1)(h:H1 b=none):H b=none:=by
 cases e:H b with|none=>rfl|some ob=>rw[s b ob e]at h;cases h
theorem XZ{r:V->Hp->VK->Prop}{f:Sd->Option Sd}(ad:Ad1 Z.K r f){Q:VK}(h:tQ Z q (cF1 f a) O H Q):tUn r (tV Z q a) O H Q:=by
 obtain⟨E,L,R,m,w,hc,xc,k⟩:=h;refine vk m w hc xc λE1 s h1 x L1 H1 e1 e2 m1 w1 ok fr sr st sm=>?_
 obtain⟨z,hz,rfl⟩:=Jq h1;refine ad H1 x z Q ok (by rw[e1,e2];exact hz) λy H' ho hd o=>?_
 obtain⟨w3,de⟩:=Q1 w1 st o fr (λb hb=>ok.some (Sl.frz_as hb)) (jwz sr λb hb=>Sl.frz_as hb);exact k _ _ rfl y L1 H' ho hd m1 w3 de λhq=>⟨qw (sm hq) o.same,λb hb=>z9 (sm hq) (o.new b hb)⟩
theorem kvf{r:R2}{f:Sd->Sd->Option Sd}(ad:Ad2 Z.K r f){Q:VK}(h:tQ Z qa (cF2 f a b) O H Q):tOp r (tV Z qa a) (tV Z true b) O H Q:=by
 obtain⟨E,L,R,m,w,hc,xc,k⟩:=h;refine vk m w hc xc λE1 s h1 x L1 H1 e1 e2 m1 w1 ok fr sr st sm=>?_
 refine vk m1 w1 h1 (xc.step st) λE2 s2 h2 y L2 H2 e3 e4 m2 w2 gz sk si bo dj=>?_
 obtain⟨z,hz,rfl⟩:=Jq h2;have kx:=WQ ok fr bo (dj rfl);refine ad H2 x y z Q kx.1 gz (by rw[e1,e2,e3,e4];exact hz) λy' H' ho hd o=>?_
 obtain⟨w3,de⟩:=Q1 w2 (st.trans bo) o (λb hb=>(aA hb).elim (kx.2 b) (sk b)) (λb hb=>(aA hb).elim (λz=>kx.1.some (Sl.frz_as z)) λz=>gz.some (Sl.frz_as z))
  (vqy (jwz sr λb hb=>Sl.frz_as hb) (jwz (si.back st) λb hb=>Sl.frz_as hb))
 exact k _ _ rfl y' L2 H' ho hd m2 w3 de λhq=>⟨qw (sm hq) (qw (dj rfl) o.same),λb hb=>z9 (qw (sm hq) (dj rfl)) (o.new b hb)⟩
theorem qV{op:Operator}{r:R2}{f:Sd->Sd->Option Sd}(ho:OpR X (binaryOp op) r)(ad:Ad2 Z.K r f)(ha:QV X Z qa a ea)(hb:QV X Z true b eb):QE X Z qa (cF2 f a b) (.BinOp ea op eb pos):=
 qk (wwj ho ha hb) fun O H Q h=>kvf ad h
theorem K4{op:CmpOp}{r:R2}{f:Sd->Sd->Option Sd}(ho:OpR X (compareOp op) r)(ad:Ad2 Z.K r f)(ha:QV X Z qa a ea)(hb:QV X Z true b eb)(hm:behindInMarks op eb=false):QE X Z qa (cF2 f a b) (.Compare ea [op] [eb] pos):=
 qk (vvu ho ha hb hm) fun O H Q h=>kvf ad h
theorem RepA.get{K:Frag}{H:Hp}{g:Bool}:∀{ds:List D} {xs:List V} {as:List Addr} {i:Nat} {d:D},RepA K H g ds xs as->ds[i]?=some d->∃v bs,xs[i]?=some v/\RepL K H g d v bs/\∀b∈bs,b∈as
 | [],_,_,_,_,_,e=>by simp at e
 | d::ds,_,_,i,d',h,e=>by
  unfold RepA at h;obtain⟨x,r,bs,cs,rfl,rfl,h1,h2⟩:=h;cases i with
  |zero=>
   have e:d=d':=by simpa using e
   subst e;exact⟨x,bs,by simp,h1,λb hb=>ll9 _ hb⟩
  |succ i=>
   obtain⟨v,ic,e1,e2,e3⟩:=RepA.get (i:=i) h2 (by simpa using e);exact⟨v,ic,by simpa using e1,e2,λb hb=>lr9 _ (e3 b hb)⟩
theorem RepA.len{K:Frag}{H:Hp}{g:Bool}:∀{ds:List D} {xs:List V} {as:List Addr},RepA K H g ds xs as->ds.length=xs.length
 |[],_,_,h=>by unfold RepA at h;rw[h.1];rfl
 |d::ds,_,_,h=>by
  unfold RepA at h;obtain⟨x,r,bs,cs,rfl,rfl,h1,h2⟩:=h;simp[RepA.len h2]
theorem items{K:Frag}{H:Hp}{x:Sl}{ds:List D}(ok:x.ok K H)(h:x.d=.lst ds\/x.d=.tup ds):∃a xs bs,x.v=.ref a/\((x.d=.lst ds/\LsR K H a xs)\/(x.d=.tup ds/\SqT K H a xs))/\RepA K H (x.o != .dp) ds xs bs/\(∀b∈bs,b∈x.as)/\(x.o≠.dp->∀b∈bs,b∈x.frz):=by
 obtain⟨o,d,v,as⟩:=x;dsimp only at h;rcases h with rfl|rfl
 ·cases o with
  |no=>
   have ok:RepL K H true (.lst ds) v as:=ok;unfold RepL at ok;obtain⟨a,xs,bs,rfl,r,q⟩:=ok;rcases q with⟨q,rfl⟩|⟨_,q,rfl⟩
   ·exact⟨a,xs,bs,rfl,.inl ⟨rfl,.inl (.inl q)⟩,r,λb hb=>lc9 _ hb,λ_ b hb=>lc9 _ hb⟩
   ·exact⟨a,xs,as,rfl,.inl ⟨rfl,.of q⟩,r,λb hb=>hb,λ_ b hb=>hb⟩
  |rt=>
   obtain⟨a,xs,bs,rfl,r,q,rfl⟩:=(show RepR K H (.lst ds) v as from ok);exact⟨a,xs,bs,rfl,.inl ⟨rfl,.inl (.inl q)⟩,r,λb hb=>lc9 _ hb,λ_ b hb=>by simpa [Sl.frz]using hb⟩
  |dp=>
   have ok:RepL K H false (.lst ds) v as:=ok;unfold RepL at ok;obtain⟨a,xs,bs,rfl,r,q⟩:=ok;rcases q with⟨q,rfl⟩|⟨z,_⟩
   ·exact⟨a,xs,bs,rfl,.inl ⟨rfl,.inl (.inl q)⟩,r,λb hb=>lc9 _ hb,λz=>absurd rfl z⟩
   ·cases z
 ·cases o with
  |no=>
   have ok:RepL K H true (.tup ds) v as:=ok;unfold RepL at ok;obtain⟨a,xs,rfl,q,r⟩:=ok;exact⟨a,xs,as,rfl,.inr ⟨rfl,q⟩,r,λb hb=>hb,λ_ b hb=>hb⟩
  |rt=>exact(show RepR K H (.tup ds) v as from ok).elim
  |dp=>
   have ok:RepL K H false (.tup ds) v as:=ok;unfold RepL at ok;obtain⟨a,xs,rfl,q,r⟩:=ok;exact⟨a,xs,as,rfl,.inr ⟨rfl,q⟩,r,λb hb=>hb,λz=>absurd rfl z⟩
theorem J7{K:Frag}{H:Hp}{x:Sl}{ds:List D}(ok:x.ok K H)(h:x.d=.lst ds\/x.d=.tup ds)(hl:qK (x.o,x.d)=true):∃a xs bs,x.v=.ref a/\((x.d=.lst ds/\LsR K H a xs)\/(x.d=.tup ds/\SqT K H a xs))/\RepA K H true ds xs bs/\(∀b∈bs,b∈x.frz):=by
 obtain⟨a,xs,bs,e,q,r,h1,h2⟩:=items ok h
 by_cases ho:x.o=.dp
 ·have hp:D.pures ds=true:=by
   unfold qK at hl;rw[show(x.o,x.d).1=Own.dp from ho]at hl;have:wzc x.d=ds:=by rcases h with h|h<;>rw[h]<;>rfl
   simpa [this]using hl
  obtain⟨rfl,r'⟩:=RepA.pu (g':=true) r hp;exact⟨a,xs,[],e,q,r',λ_ z=>nomatch z⟩
 ·have:(x.o != Own.dp)=true:=by simpa using ho
  rw[this]at r;exact⟨a,xs,bs,e,q,r,h2 ho⟩
end
section
variable {K:Frag}{H:Hp}{x y:Sl}
theorem v5{i:Int}(ok:x.ok K H)(h:x.d=.int i):x.v=.int i:=by
 have:=RepO.wk ok;rw[h]at this;unfold RepL at this;exact this.1
theorem WX{i:Bool}(ok:x.ok K H)(h:x.d=.bl i):x.v=.bl i:=by
 have:=RepO.wk ok;rw[h]at this;unfold RepL at this;exact this.1
theorem wkc(ok:x.ok K H)(h:x.d=.non):x.v=.non:=by
 have:=RepO.wk ok;rw[h]at this;unfold RepL at this;exact this.1
theorem z6{z:Str}(ok:x.ok K H)(h:x.d=.str z):x.v=.str z/\z.length<=sizeLine:=by
 have:=RepO.wk ok;rw[h]at this;unfold RepL at this;exact⟨this.1,this.2.2⟩
theorem vX{i:Int}{g:Bool}:RepL K H g (.int i) (.int i) []:=by unfold RepL;exact⟨rfl,rfl⟩
theorem qj1{i:Bool}{g:Bool}:RepL K H g (.bl i) (.bl i) []:=by unfold RepL;exact⟨rfl,rfl⟩
theorem kxm{g:Bool}:RepL K H g .non .non []:=by unfold RepL;exact⟨rfl,rfl⟩
theorem Kv{z:Str}{g:Bool}(h:z.length<=sizeLine):RepL K H g (.str z) (.str z) []:=by unfold RepL;exact⟨rfl,rfl,h⟩
theorem Vq{i:Int}{fr:List Addr}:Out K H H ⟨.dp,.int i,.int i,[]⟩ fr:=jx4 xQ vX
theorem xv{i:Bool}{fr:List Addr}:Out K H H ⟨.dp,.bl i,.bl i,[]⟩ fr:=jx4 xQ qj1
theorem wv8{z:Str}{fr:List Addr}(h:z.length<=sizeLine):Out K H H ⟨.dp,.str z,.str z,[]⟩ fr:=jx4 xQ (Kv h)
theorem wqw{C:Int->Int->Prop}{g:Int->Int->Int}{f:Int->Int->Option Int}(h:∀i j k,f i j=some k->C i j/\k=g i j):Ad2 K (rI C λi j=>.int (g i j)) (pu2 (i2 f)):=by
 intro H x y s Q ox oy hf k;unfold pu2 i2 at hf;dsimp only at hf
 split at hf
 ·rename_i i j e1 e2;cases hk:f i j with
  |none=>rw[hk]at hf;cases hf
  |some n=>
   rw[hk]at hf;cases oq9 hf;obtain⟨hc,rfl⟩:=h i j n hk;exact⟨i,j,v5 ox e1,v5 oy e2,hc,k ⟨.dp,.int (g i j),.int (g i j),[]⟩ H rfl rfl Vq⟩
 ·cases hf
theorem wxf{g:Int->Int->Int}{f:Int->Int->Option Int}(h:∀i j,f i j=some (g i j)):Ad2 K (rI0 λi j=>.int (g i j)) (pu2 (i2 f)):=by
 intro H x y s Q ox oy hf k;unfold pu2 i2 at hf;dsimp only at hf
 split at hf
 ·rename_i i j e1 e2;rw[h]at hf;cases oq9 hf;exact⟨i,j,v5 ox e1,v5 oy e2,k ⟨.dp,.int (g i j),.int (g i j),[]⟩ H rfl rfl Vq⟩
 ·cases hf
theorem zX{g:Int->Int->Bool}:Ad2 K (rI0 λi j=>.bl (g i j)) (pu2 (c2 g)):=by
 intro H x y s Q ox oy hf k;unfold pu2 c2 at hf;dsimp only at hf
 split at hf
 ·rename_i i j e1 e2;cases oq9 hf;exact⟨i,j,v5 ox e1,v5 oy e2,k ⟨.dp,.bl (g i j),.bl (g i j),[]⟩ H rfl rfl xv⟩
 ·cases hf
theorem qz3:Ad2 K (rI0 λi j=>.int (i - j)) (pu2 wqb):=wxf λ_ _=>rfl
theorem vQ:Ad2 K (rI wv0 λi j=>.int (i / j)) (pu2 v4):=wqw λi j k h=>by
 split at h
 ·rename_i c;exact⟨c,(oq9 h).symm⟩
 ·cases h
theorem wqr:Ad2 K (rI (λ_ j=>0<j) λi j=>.int (i % j)) (pu2 jJ):=wqw λi j k h=>by
 split at h
 ·rename_i c;exact⟨c,(oq9 h).symm⟩
 ·cases h
end
def wj1(K:Frag):R2:=λx y H Q=>∃l b xs zs,x=.ref l/\y=.ref b/\LsR K H l xs/\LsR K H b zs/\xs.length+zs.length<=sizeLine/\∀p,H p=none->Q (.ref p) (upd H p (.lst (xs++zs)))
theorem op_catL{X:Cx}:OpR X (binaryOp .Add) (wj1 X.K):=by
 intro pins s O H x y v u Q I rx ry h;obtain⟨l,b,xs,zs,rfl,rfl,hH,hB,hz,q⟩:=h;cases rx;cases ry;obtain⟨z,ai,n,r,e⟩:=hH.is I;obtain⟨z2,gb,n2,r2,e2⟩:=hB.is I;have hl:=r.length;have hl2:=r2.length;refine PySem.P.add_list e e2 ?_ (by rw[X5,X5];omega);have ea:ai.toArray++gb.toArray=(ai++gb).toArray:=by simp
 rw[ea];exact⟨.ref _,_,I.lnew (t':=s.toks) (r.append r2) (by rw[Xj];omega),rfl,q _ I.fresh⟩
def wj2(K:Frag):R2:=λx y H Q=>∃a b ys,x=.ref a/\y=.ref b/\SqT K H a []/\SqT K H b ys/\Q (.ref b) H
theorem op_catE{X:Cx}:OpR X (binaryOp .Add) (wj2 X.K):=by
 intro pins s O H x y v u Q I rx ry h;obtain⟨a,b,ys,rfl,rfl,ha,hb,q⟩:=h;cases rx;cases ry;obtain⟨ai,r1,p1,_⟩:=I.tuple ha;obtain⟨gb,r2,p2,_⟩:=I.tuple hb;obtain⟨⟨cls,dd,data,sl⟩,ho,hc,n,hd⟩:=id p1;obtain⟨⟨cls2,dd2,data2,lj⟩,io,mj,n2,i5⟩:=id p2;simp only at hc hd mj i5;subst hc hd mj i5;have e:ai=[]:=r1.nil_iff.mpr rfl;subst e;exact concat_meets ⟨_,ho,rfl⟩ ⟨_,io,rfl⟩ noFill_tuple_add seq_tuple_add PySem.F.slot_tuple_add PySem.F.entry_tuple_add (PySem.F.args_tuple_add_2 _ _)
   (tuple_addW0 a b [].toArray gb.toArray n n2 dd dd2 sl lj (by simp)) ⟨ho,io,⟨.ref b,H,I,rfl,q⟩⟩
def wj3(K:Frag):R2:=λx y H Q=>rI0 (λi j=>.int (i+j)) x y H Q\/(∃i j,x=.str i/\y=.str j/\i.length+j.length<=sizeLine/\Q (.str (i++j)) H)\/wj1 K x y H Q\/wj2 K x y H Q\/wj0 K x y H Q
theorem wk6{X:Cx}{K:Frag}(hK:X.K=K):OpR X (binaryOp .Add) (wj3 K):=by subst hK;exact op_add.or (op_add_str.or (op_catL.or (op_catE.or vw3)))
theorem RepA.app{K:Frag}{H:Hp}{g:Bool}{ds':List D}{xs':List V}{ic:List Addr}(h':RepA K H g ds' xs' ic):∀{ds:List D} {xs:List V} {as:List Addr},RepA K H g ds xs as->RepA K H g (ds++ds') (xs++xs') (as++ic)
 |[],_,_,h=>by unfold RepA at h;rw[h.1,h.2];exact h'
 |d::ds,_,_,h=>by
  unfold RepA at h;obtain⟨x,r,bs,cs,rfl,rfl,h1,h2⟩:=h;rw[List.cons_append];unfold RepA;exact⟨x,r++xs',bs,cs++ic,rfl,by rw[Y3],h1,RepA.app h' h2⟩
theorem vw{H:Hp}{p:Addr}{o:HO}(h:H p=none):k4 H (upd H p o):=λb u q=>by rw[kz (xK q h)];exact q
theorem V2{K:Frag}{H:Hp}{p:Addr}{ds:List D}{xs:List V}{bs fr:List Addr}(hp:H p=none)(r:RepA K H true ds xs bs)(hb:∀b∈bs,b∈fr):Out K H (upd H p (.lst xs)) ⟨.rt,.lst ds,.ref p,p::bs⟩ fr:=by
 refine⟨vw hp,⟨p,xs,bs,rfl,r.kp (Kp.of_same (vw hp)),wJ,rfl⟩,λb hb=>?_,?_,λb dm=>hb b (by simpa [Sl.frz]using dm)⟩
 ·have:b=p:=by simpa [Sl.own]using hb
  rw[this];exact hp
 ·simp[Sl.own]
theorem kjd{K:Frag}{H:Hp}{p:Addr}{ds:List D}{xs:List V}{bs fr:List Addr}(hp:H p=none)(r:RepA K H true ds xs bs)(hb:∀b∈bs,b∈fr):Out K H (upd H p (.tup xs)) ⟨.no,.tup ds,.ref p,bs⟩ fr:=by
 refine⟨vw hp,?_,λb hb=>(nomatch hb),Y6,λb dm=>hb b dm⟩;show RepL K _ true (.tup ds) (.ref p) bs;unfold RepL;exact⟨p,xs,rfl,SqT.of wJ,r.kp (Kp.of_same (vw hp))⟩
theorem wqy{K:Frag}:Ad2 K (wj3 K) jz:=by
 intro H x y s Q ox oy hf k;unfold jz at hf;dsimp only at hf
 split at hf
 ·rename_i i j e1 e2;cases oq9 hf;exact .inl ⟨i,j,v5 ox e1,v5 oy e2,k ⟨.dp,.int _,.int _,[]⟩ H rfl rfl Vq⟩
 ·rename_i i j e1 e2
  split at hf
  ·rename_i hl;cases oq9 hf;have ln:(i++j).length<=sizeLine:=by rw[strLen_append];exact hl
   exact .inr (.inl ⟨i,j,(z6 ox e1).1,(z6 oy e2).1,hl,k ⟨.dp,.str _,.str _,[]⟩ H rfl rfl (wv8 ln)⟩)
  ·cases hf
 ·rename_i i j e1 e2
  split at hf
  ·rename_i hl;cases oq9 hf;obtain⟨a,xs,bs,e3,q3,r3,h3⟩:=J7 ox (.inl e1) hl.2.1;obtain⟨b,ys,cs,e4,q4,r4,h4⟩:=J7 oy (.inl e2) hl.2.2;have q3:LsR K H a xs:=by rcases q3 with⟨_,z⟩|⟨z,_⟩;exact z;rw[e1]at z;cases z
   have q4:LsR K H b ys:=by rcases q4 with⟨_,z⟩|⟨z,_⟩;exact z;rw[e2]at z;cases z
   refine .inr (.inr (.inl ⟨a,b,xs,ys,e3,e4,q3,q4,by rw[<-r3.len,<-r4.len];exact hl.1,λp hp=>?_⟩));exact k ⟨.rt,.lst (i++j),.ref p,p::(bs++cs)⟩ _ rfl rfl (V2 hp (r4.app r3) λb hb=>(aA hb).elim (λz=>ll9 _ (h3 b z)) λz=>lr9 _ (h4 b z))
  ·cases hf
 ·rename_i i j e1 e2
  split at hf
  ·rename_i hl;cases oq9 hf;obtain⟨a,xs,bs,e3,q3,r3,h3⟩:=J7 ox (.inr e1) hl.2.1;obtain⟨b,ys,cs,e4,q4,r4,h4⟩:=J7 oy (.inr e2) hl.2.2;have q3:SqT K H a xs:=by rcases q3 with⟨z,_⟩|⟨_,z⟩;rw[e1]at z;cases z;exact z
   have q4:SqT K H b ys:=by rcases q4 with⟨z,_⟩|⟨_,z⟩;rw[e2]at z;cases z;exact z
   have ap:=r4.app r3;have p5:∀b∈bs++cs,b∈x.frz++y.frz:=λb hb=>(aA hb).elim (λz=>ll9 _ (h3 b z)) λz=>lr9 _ (h4 b z)
   have same:∀c zs,zs=xs++ys->SqT K H c zs->Q (.ref c) H:=λc zs e hq=>by
    refine k ⟨.no,.tup (i++j),.ref c,bs++cs⟩ H rfl rfl ⟨xQ,?_,λb hb=>(nomatch hb),Y6,p5⟩;show RepL K H true (.tup (i++j)) (.ref c) (bs++cs);unfold RepL;exact⟨c,zs,rfl,hq,by rw[e];exact ap⟩
   by_cases hx:xs=[]
   ·subst hx;exact .inr (.inr (.inr (.inl ⟨a,b,ys,e3,e4,q3,q4,same b ys rfl q4⟩)))
   ·refine .inr (.inr (.inr (.inr ⟨a,b,xs,ys,e3,e4,q3,q4,hx,by rw[<-r3.len,<-r4.len];exact hl.1,λhy=>?_,λhy p hp=>?_⟩)))
    ·exact same a xs (by rw[hy,Xw]) q3
    ·exact k ⟨.no,.tup (i++j),.ref p,bs++cs⟩ _ rfl rfl (kjd hp ap p5)
  ·cases hf
 ·cases hf
def tT(Z:Fx0)(q:Bool)(c:Ts):TT:=fun O H Q=>∃E L r,Mt E O L/\World Z.K H L/\c E=some r/\Xc Z O H L r /\
 ∀E' k,r=.ok E' k->∀L' H',Mt E' O L'->World Z.K H' L'->Step H L H' L'->(q=true->k4 H H')->Q k H'
def QT(X:Cx)(Z:Fx0)(q:Bool)(c:Ts)(e:Expr):Prop:=PT X e (tT Z q c)
def QW(X:Cx)(Z:Fx0)(q:Bool)(c:Ts)(e:Expr):Prop:=PW X e (tT Z q c)
section
variable {X:Cx}{Z:Fx0}{q qa qb:Bool}{a b c:Ex}{u v:Ts}{e ea eb:Expr}{es:List Expr}{pos:Pos}{α β:Type}{O:L2.St}{H:Hp}{L:Ls}{E:En}
theorem vkr{e:Expr}{t t':TT}(h:PW X e t)(w:∀ O H Q,t' O H Q->t O H Q):PW X e t':=λwh pins s O H Q I q=>h wh pins s O H Q I (w O H Q q)
theorem qzc{F:En->Bool->Option (Res α)}{r:Res α}{G:Bool->Hp->Prop}(m:Mt E O L)(w:World Z.K H L)(h:bnd (u E) F=some r)(xc:Xc Z O H L r)
  (k:∀E1 s,F E1 s=some r->∀L1 H1,Mt E1 O L1->World Z.K H1 L1->Step H L H1 L1->(q=true->k4 H H1)->G s H1):tT Z q u O H G:=by
 rcases xw h with⟨E1,s,h1,h2⟩|⟨E1,c,h1,h2⟩
 ·exact⟨E,L,_,m,w,h1,(λ_ _ z=>by cases z),λE' s' z L' H' m' w' st sm=>by
   injection z with z1 z2;subst z1 z2;exact k _ _ h2 L' H' m' w' st sm⟩
 ·exact⟨E,L,_,m,w,h1,xc.map h2,λE' s' z=>by cases z⟩
theorem jxx(ha:QT X Z q u ea):QW X Z q u (.BoolOp .And [ea] pos):=vvc ha
theorem kvy(ha:QT X Z q u ea):QW X Z q u (.BoolOp .Or [ea] pos):=wjg ha
theorem V5(ha:QT X Z q u ea)(hb:QW X Z q v (.BoolOp .And (eb::es) pos)):QW X Z q (Q.tAnd u v) (.BoolOp .And (ea::eb::es) pos):=
 vkr (wjh ha hb) fun O H Q az=>ex8 az λE L r m w hc xc k=>qzc m w hc xc λE1 s h1 L1 H1 m1 w1 st sm=>by
  cases s with
  |true=>
   rw[X9 rfl]at h1 ⊢;exact⟨E1,L1,r,m1,w1,h1,xc.step st,λE' k' z L' H' m' w' dh gm=>k E' k' z L' H' m' w' (st.trans dh) λhq=>qw (sm hq) (gm hq)⟩
  |false=>
   rw[Xb ⋯]at h1 ⊢;cases oq9 h1;exact k _ _ rfl L1 H1 m1 w1 st sm
theorem qvf(ha:QT X Z q u ea)(hb:QW X Z q v (.BoolOp .Or (eb::es) pos)):QW X Z q (Q.tOr u v) (.BoolOp .Or (ea::eb::es) pos):=
 vkr (wwe ha hb) fun O H Q az=>ex8 az λE L r m w hc xc k=>qzc m w hc xc λE1 s h1 L1 H1 m1 w1 st sm=>by
  cases s with
  |false=>
   rw[Xb ⋯]at h1 ⊢;exact⟨E1,L1,r,m1,w1,h1,xc.step st,λE' k' z L' H' m' w' dh gm=>k E' k' z L' H' m' w' (st.trans dh) λhq=>qw (sm hq) (gm hq)⟩
  |true=>
   rw[X9 rfl]at h1 ⊢;cases oq9 h1;exact k _ _ rfl L1 H1 m1 w1 st sm
theorem QW.pt(h:QW X Z q u e):QT X Z q u e:=PW.pt h
theorem YY(ha:QT X Z q u ea):QT X Z q (Q.tNot u) (.UnaryOp .Not ea pos):=
 qvk (wjj ha) fun O H Q az=>ex8 az λE L r m w hc xc k=>qzc m w hc xc λE1 s h1 L1 H1 m1 w1 st sm=>by
  cases oq9 h1;exact k _ _ rfl L1 H1 m1 w1 st sm
theorem kq{op:CmpOp}{r:R2}{f:Sd->Sd->Option Sd}(ho:OpR X (compareOp op) r)(ad:Ad2 Z.K r f)(ha:QV X Z qa a ea)(hb:QV X Z true b eb)(hm:behindInMarks op eb=false)(hf:∀x y s,f x y=some s->∃k,s.2=.bl k):QT X Z qa (Q.tE (cF2 f a b)) (.Compare ea [op] [eb] pos):=
 qvk (vvg ho ha hb hm) fun O H Q az=>ex8 az λE L r m w hc xc k=>by
  refine kvf ad ?_;have iq:bnd (cF2 f a b E) (λE x=>val E (truth x.2))=some r:=hc;rcases xw iq with⟨E1,s,h1,h2⟩|⟨E1,c,h1,h2⟩
  ·refine⟨E,L,_,m,w,h1,(λ_ _ z=>by cases z),λE' s' z x L' H' e1 e2 m' w' st sm=>?_⟩;injection z with z1 z2;subst z1 z2;obtain⟨kk,hk⟩:∃k,s.2=.bl k:=by
    unfold cF2 at h1;rcases xw h1 with⟨E2,s2,h3,h4⟩|⟨_,_,_,z⟩
    ·rcases xw h4 with⟨E3,s3,h5,h6⟩|⟨_,_,_,z⟩
     ·obtain⟨y,hy,z⟩:=Jq h6;cases z;exact hf _ _ _ hy
     ·cases z
    ·cases z
   rw[hk]at h2;cases oq9 h2;exact⟨kk,WX w'.head (e2.trans hk),k _ _ rfl L' H' m' w'.tail (st.trans Step.drop) λhq=>(sm hq).1⟩
  ·exact⟨E,L,_,m,w,h1,xc.map h2,λE' s' z=>by cases z⟩
end
def Pn(pn:List Nat)(O σ':L2.St):Prop:=∀p∈pn,σ'[p]?=O[p]?
theorem Pn.refl{pn:List Nat}{O:L2.St}:Pn pn O O:=λ_ _=>rfl
theorem Pn.trans{pn:List Nat}{O σ1 σ2:L2.St}(a:Pn pn O σ1)(b:Pn pn σ1 σ2):Pn pn O σ2:=λp hp=>(b p hp).trans (a p hp)
theorem Pn.set{pn:List Nat}{O σ1:L2.St}{i:Nat}{y:Option V}(a:Pn pn O σ1)(h:i∉pn):Pn pn O (σ1.set i y):=λp hp=>by
 have:i≠p:=λe=>h (e▸hp)
 rw[Yi this];exact a p hp
noncomputable def FlP(Z:Fx0)(pn:List Nat)(D:Ends)(O:L2.St)(H:Hp)(L:Ls):Fl->Prop
 |.nx E'=>∀ σ' L' H',Pn pn O σ'->Mt E' σ' L'->World Z.K H' L'->Step H L H' L'->D.nx σ' H'|.ct E'=>∀ σ' L' H',Pn pn O σ'->Mt E' σ' L'->World Z.K H' L'->Step H L H' L'->D.ct σ' H'|.bk E'=>∀ σ' L' H',Pn pn O σ'->Mt E' σ' L'->World Z.K H' L'->Step H L H' L'->D.bk σ' H'|.rt E' a=>∀(x:Sl) σ' L' H',x.o=a.1->x.d=a.2->Pn pn O σ'->Mt E' σ' L'->World Z.K H' (some x::L')->Step H L H' (some x::L')->D.rt x.v H'|.xc E' c=>∀C σ' L' H',Z.mg c=some (.ref C)->Pn pn O σ'->Mt E' σ' L'->World Z.K H' L'->Step H L H' L'->Z.EX (.ref C) none H'
theorem FlP.step{Z:Fx0}{pn:List Nat}{D:Ends}{O σ1:L2.St}{H H1:Hp}{L L1:Ls}{r:Fl}(k:FlP Z pn D O H L r)(s:Step H L H1 L1)(p:Pn pn O σ1):FlP Z pn D σ1 H1 L1 r:=by
 cases r with|nx E'=>exact fun σ' L' H' p' m w s'=>k σ' L' H' (p.trans p') m w (s.trans s')|ct E'=>exact fun σ' L' H' p' m w s'=>k σ' L' H' (p.trans p') m w (s.trans s')|bk E'=>exact fun σ' L' H' p' m w s'=>k σ' L' H' (p.trans p') m w (s.trans s')|rt E' a=>exact λx σ' L' H' e1 e2 p' m w s'=>k x σ' L' H' e1 e2 (p.trans p') m w (s.trans s')|xc E' c=>exact λC σ' L' H' hm p' m w s'=>k C σ' L' H' hm (p.trans p') m w (s.trans s')
theorem FlP.xc{α:Type}{Z:Fx0}{pn:List Nat}{D:Ends}{O:L2.St}{H:Hp}{L:Ls}{E':En}{c:Str}(k:FlP Z pn D O H L (.xc E' c)):Xc Z O H L (.exc E' c:Res α):=λE1 c1 e C L' H' hm m w s=>by
 injection e with h1 h2;subst h1 h2;exact k C O L' H' hm Pn.refl m w s
def tS(Z:Fx0)(pn:List Nat)(c:Sm):TS:=λD O H=>∃E L r,Mt E O L/\World Z.K H L/\c E=some r/\FlP Z pn D O H L r
def QS(X:Cx)(Z:Fx0)(pn:List Nat)(c:Sm)(st:Stmt):Prop:=PS X st (tS Z pn c)
def QSs(X:Cx)(Z:Fx0)(pn:List Nat)(c:Sm)(st:List Stmt):Prop:=PSs X st (tS Z pn c)
section
variable {X:Cx}{Z:Fx0}{pn:List Nat}{q qa qb:Bool}{a b c:Ex}{u v:Ts}{A B:Sm}{e ea eb:Expr}{st:Stmt}{ss tt:List Stmt}{pos:Pos}{α:Type}{O:L2.St}{H:Hp}{L:Ls}{E:En}{D:Ends}
theorem jw3{m:Option (Res α)}{F:En->α->Option Fl}{r:Fl}(h:ofE m F=some r):(∃E1 x,m=some (.ok E1 x)/\F E1 x=some r)\/∃E1 c,m=some (.exc E1 c)/\r=.xc E1 c:=by
 cases m with
 |none=>cases h
 |some q=>
  cases q with|ok E1 x=>exact .inl ⟨E1,x,rfl,h⟩|exc E1 c=>exact .inr ⟨E1,c,rfl,(oq9 h).symm⟩
theorem qv2{F:En->Sd->Option Fl}{r:Fl}{G:VK}(m:Mt E O L)(w:World Z.K H L)(h:ofE (a E) F=some r)(k:FlP Z pn D O H L r)
  (g:∀E1 s,F E1 s=some r->∀(x:Sl) L1 H1,x.o=s.1->x.d=s.2->Mt E1 O L1->World Z.K H1 (some x::L1)->Step H L H1 (some x::L1)->(q=true->k4 H H1/\∀b∈x.own,H b=none)->G x.v H1):tQ Z q a O H G:=by
 rcases jw3 h with⟨E1,s,h1,h2⟩|⟨E1,c,h1,rfl⟩
 ·exact⟨E,L,_,m,w,h1,(λ_ _ z=>by cases z),λE' s' z x L' H' e1 e2 m' w' st sm=>by
   injection z with z1 z2;subst z1 z2;exact g _ _ h2 x L' H' e1 e2 m' w' st sm⟩
 ·exact⟨E,L,_,m,w,h1,k.xc,λE' s' z=>by cases z⟩
theorem vzf{F:En->Bool->Option Fl}{r:Fl}{G:Bool->Hp->Prop}(m:Mt E O L)(w:World Z.K H L)(h:ofE (u E) F=some r)(k:FlP Z pn D O H L r)
  (g:∀E1 s,F E1 s=some r->∀L1 H1,Mt E1 O L1->World Z.K H1 L1->Step H L H1 L1->G s H1):tT Z q u O H G:=by
 rcases jw3 h with⟨E1,s,h1,h2⟩|⟨E1,c,h1,rfl⟩
 ·exact⟨E,L,_,m,w,h1,(λ_ _ z=>by cases z),λE' s' z L' H' m' w' st sm=>by
   injection z with z1 z2;subst z1 z2;exact g _ _ h2 L' H' m' w' st⟩
 ·exact⟨E,L,_,m,w,h1,k.xc,λE' s' z=>by cases z⟩
theorem v9:QSs X Z pn q9 []:=qvl vvi λD O H az=>ex7 az λE L r m w hc k=>by
 cases oq9 hc;exact k O L H Pn.refl m w Step.refl
theorem jk(h1:QS X Z pn A st)(h2:QSs X Z pn B ss):QSs X Z pn (j4 A B) (st::ss):=qvl (qzy h1 h2) λD O H az=>ex7 az λE L r m w hc k=>by
 unfold j4 at hc;cases ha:A E with
 |none=>rw[ha]at hc;cases hc
 |some f=>
  rw[ha]at hc;cases f with|nx E1=>exact⟨E,L,_,m,w,ha,fun σ' L' H' p m' w' s=>⟨E1,L',r,m',w',hc,k.step s p⟩⟩|ct E1=>cases oq9 hc;exact⟨E,L,_,m,w,ha,k⟩|bk E1=>cases oq9 hc;exact⟨E,L,_,m,w,ha,k⟩|rt E1 x=>cases oq9 hc;exact⟨E,L,_,m,w,ha,k⟩|xc E1 x=>cases oq9 hc;exact⟨E,L,_,m,w,ha,k⟩
theorem jx(h1:QS X Z pn A st):QSs X Z pn A [st]:=vvh h1
theorem kQ(h:QE X Z q a ea):QS X Z pn (jY a) (.Return (some ea) pos):=Kk (wjl h) λD O H az=>ex7 az λE L r m w hc k=>
 qv2 m w hc k λE1 s h1 x L1 H1 e1 e2 m1 w1 st _=>by
  cases oq9 h1;exact k x O L1 H1 e1 e2 Pn.refl m1 w1 st
theorem qZ(hc:QT X Z q u e)(ha:QSs X Z pn A ss)(hb:QSs X Z pn B tt):QS X Z pn (sIf u A B) (.If e ss tt pos):=Kk (wwf hc ha hb) λD O H az=>ex7 az λE L r m w hc k=>
 vzf m w hc k λE1 s h1 L1 H1 m1 w1 st=>by
  cases s with|true=>rw[X9 rfl]at h1 ⊢;exact⟨E1,L1,r,m1,w1,h1,k.step st Pn.refl⟩|false=>rw[Xb ⋯]at h1 ⊢;exact⟨E1,L1,r,m1,w1,h1,k.step st Pn.refl⟩
theorem Zj{x:Sl}{i:Nat}{s:Sd}(m:Mt E O L)(e1:x.o=s.1)(e2:x.d=s.2):Mt (E.set i (some s)) (O.set i (some x.v)) (L.set i (some x)):=by
 have:=m.set (x:=x) i;rw[e1,e2]at this;exact this
theorem wwb{i:Nat}{y:Str}{bz:Pos}(hN:X.N.Nodup)(hi:X.N[i]?=some y)(hx:Loc X.env.scope y)(h:QE X Z q a ea)(hp:autoParam (i∉pn) ŕ)(hs:autoParam (swapsWith ea (some (.Name y bz)) pos.line X.env=pure false) Ŕ)(hf:autoParam (X.fn y=true\/X.env.scope.names.lookup y=some .local) Ř):
  QS X Z pn (j9 i a) (.Assign [.Name y bz] ea pos):=Kk (wjk hN hi hx h hs hf) λD O H az=>ex7 az λE L r m w hc k=>
 qv2 m w hc k λE1 s h1 x L1 H1 e1 e2 m1 w1 st _=>by
  cases oq9 h1;exact k (O.set i (some x.v)) (L1.set i (some x)) H1 (Pn.refl.set hp) (Zj m1 e1 e2) w1.set (st.trans Step.set)
theorem wjf{i:Nat}{y:Str}{bz:Pos}(hp:i∉pn)(h:PS X (.Assign [.Name y bz] ea pos) (λD O H=>tQ Z q a O H λv H1=>D.nx (O.set i (some v)) H1)):
  QS X Z pn (j9 i a) (.Assign [.Name y bz] ea pos):=Kk h λD O H az=>ex7 az λE L r m w hc k=>
 qv2 m w hc k λE1 s h1 x L1 H1 e1 e2 m1 w1 st _=>by
  cases oq9 h1;exact k (O.set i (some x.v)) (L1.set i (some x)) H1 (Pn.refl.set hp) (Zj m1 e1 e2) w1.set (st.trans Step.set)
theorem qve(hp:PassesOwn (model X.prog X.w) X.A X.env X.xe)(hc:QT X Z q u e)(hb:QSs X Z pn B ss):QS X Z pn (sWhile u B) (.While e ss [] pos):=Kk (qzz hp hc hb) λD O H az=>ex7 az λE L r m w hr k=>by
 obtain⟨n0,hn⟩:=vqo hr;refine⟨λn σ1 H1=>∃E1 L1,Mt E1 σ1 L1/\World Z.K H1 L1/\whN u B n E1=some r/\Step H L H1 L1/\Pn pn O σ1,⟨n0,E,L,m,w,hn,Step.refl,Pn.refl⟩,?_⟩;rintro n σ1 H1 ⟨E1,L1,m1,w1,h1,gl,p1⟩;cases n with
 | zero=>cases h1
 | succ n=>
  have k1:=k.step gl p1;unfold whN at h1;cases ht:u E1 with
  | none=>rw[ht]at h1;cases h1
  | some f=>
   rw [ht]at h1;cases f with
   | exc E2 c=>
    cases oq9 h1;exact⟨E1,L1,_,m1,w1,ht,k1.xc,λE' s' z=>by cases z⟩
   | ok E2 kk=>
    refine⟨E1,L1,_,m1,w1,ht,(λ_ _ z=>by cases z),λE' s' z L' H' m' w' st sm=>?_⟩;injection z with z1 z2;subst z1 z2;cases kk with
    | false=>
     rw[Xb ⋯];cases oq9 h1;exact k1 σ1 L' H' Pn.refl m' w' st
    | true=>
     rw[X9 rfl];dsimp only at h1;refine⟨fun σ2 H2=>∃E2 L2,Mt E2 σ2 L2/\World Z.K H2 L2/\whN u B n E2=some r/\Step H L H2 L2/\Pn pn O σ2,fun σ2 H2 h2=>⟨n,⋯,h2⟩,?_⟩;cases hB:B E2 with
     |none=>rw[hB]at h1;cases h1
     |some g=>
      rw[hB]at h1;have k2:=k1.step st Pn.refl;refine⟨E2,L',g,m',w',hB,?_⟩;cases g with|nx E3=>exact fun σ3 L3 H3 p3 m3 w3 s3=>⟨E3,L3,m3,w3,h1,gl.trans (st.trans s3),p1.trans p3⟩|ct E3=>exact fun σ3 L3 H3 p3 m3 w3 s3=>⟨E3,L3,m3,w3,h1,gl.trans (st.trans s3),p1.trans p3⟩|bk E3=>cases oq9 h1;exact k2|rt E3 x=>cases oq9 h1;exact k2|xc E3 c=>cases oq9 h1;exact k2
end
structure Walks (K:Frag)(J:It)(T:List Sl)(ds:List D):Prop where
 no:∀t∈T,t.o=.no
 go:∀i H,(∀t∈T,t.ok K H)->i<ds.length->J.go i H
 stop:∀H,(∀t∈T,t.ok K H)->J.stop ds.length H
 yld:∀i H v H' d,(∀t∈T,t.ok K H)->J.yld i H v H'->ds[i]?=some d->∃z:Sl,z.o=.no/\z.d=d/\z.v=v/\k4 H H'/\z.ok K H'/\∀b∈z.as,∃t∈T,b∈t.as
def tI(Z:Fx0)(q:Bool)(it:Ev (List D)):TI:=fun O H R=>∃E L r,Mt E O L/\World Z.K H L/\it E=some r/\Xc Z O H L r /\
 ∀E' ds,r=.ok E' ds->∀J T L' H',Mt E' O L'->World Z.K H' (L'++T.map some)->Step H L H' (L'++T.map some)->ds.length<=sizeLine->(q=true->k4 H H')->Walks Z.K J T ds->R J H'
def QI(X:Cx)(Z:Fx0)(q:Bool)(tg:Expr)(it:Ev (List D))(e:Expr):Prop:=PI X tg e (tI Z q it)
def wxk(K:Frag)(H0:Hp)(T:List Sl)(H:Hp):Prop:=(∀t∈T,t.ok K H)/\∀t∈T,Kp H0 H t.as
structure WalksD (K:Frag)(H0:Hp)(J:It)(T:List Sl)(ds:List D):Prop where
 no:∀t∈T,t.o=.no
 go:∀i H,wxk K H0 T H->i<ds.length->J.go i H
 stop:∀H,wxk K H0 T H->J.stop ds.length H
 yld:∀i H v H' d,wxk K H0 T H->J.yld i H v H'->ds[i]?=some d->∃z:Sl,z.o=.no/\z.d=d/\z.v=v/\k4 H H'/\z.ok K H'/\∀b∈z.as,∃t∈T,b∈t.as
theorem Walks.D{K:Frag}{H0:Hp}{J:It}{T:List Sl}{ds:List D}(h:Walks K J T ds):WalksD K H0 J T ds:=⟨h.no,λi H o=>h.go i H o.1,λH o=>h.stop H o.1,λi H v H' d o=>h.yld i H v H' d o.1⟩
def tID(Z:Fx0)(q:Bool)(it:Ev (List D)):TI:=fun O H R=>∃E L r,Mt E O L/\World Z.K H L/\it E=some r/\Xc Z O H L r /\
 ∀E' ds,r=.ok E' ds->∀J T L' H',Mt E' O L'->World Z.K H' (L'++T.map some)->Step H L H' (L'++T.map some)->ds.length<=sizeLine->(q=true->k4 H H')->WalksD Z.K H' J T ds->R J H'
def QID(X:Cx)(Z:Fx0)(q:Bool)(tg:Expr)(it:Ev (List D))(e:Expr):Prop:=PI X tg e (tID Z q it)
theorem QI.D{X:Cx}{Z:Fx0}{q:Bool}{tg:Expr}{it:Ev (List D)}{e:Expr}(h:QI X Z q tg it e):QID X Z q tg it e:=λpins s O H R I hz=>h pins s O H R I (by
 obtain⟨E,L,r,m,w,e,x,k⟩:=hz;exact⟨E,L,r,m,w,e,x,λE' ds z J T L' H' m' w' st hl sm wk=>k E' ds z J T L' H' m' w' st hl sm wk.D⟩)
structure WalksS (K:Frag)(q:Bool)(H0:Hp)(J:It)(T:List Sl)(ds:List D):Prop where
 no:∀t∈T,t.o=.no
 go:∀i H,(∀t∈T,t.ok K H)->(q=true->k4 H0 H)->i<ds.length->J.go i H
 stop:∀H,(∀t∈T,t.ok K H)->(q=true->k4 H0 H)->J.stop ds.length H
 yld:∀i H v H' d,(∀t∈T,t.ok K H)->(q=true->k4 H0 H)->J.yld i H v H'->ds[i]?=some d->∃z:Sl,z.o=.no/\z.d=d/\z.v=v/\k4 H H'/\z.ok K H'/\∀b∈z.as,∃t∈T,b∈t.as
theorem vqq{K:Frag}{q:Bool}{H0:Hp}{J:It}{T:List Sl}{ds:List D}(h:Walks K J T ds):WalksS K q H0 J T ds:=⟨h.no,λi H o _=>h.go i H o,λH o _=>h.stop H o,λi H v H' d o _=>h.yld i H v H' d o⟩
def tIS(Z:Fx0)(q:Bool)(it:Ev (List D)):TI:=fun O H R=>∃E L r,Mt E O L/\World Z.K H L/\it E=some r/\Xc Z O H L r /\
 ∀E' ds,r=.ok E' ds->∀J T L' H',Mt E' O L'->World Z.K H' (L'++T.map some)->Step H L H' (L'++T.map some)->ds.length<=sizeLine->(q=true->k4 H H')->WalksS Z.K q H J T ds->R J H'
def QIS(X:Cx)(Z:Fx0)(q:Bool)(tg:Expr)(it:Ev (List D))(e:Expr):Prop:=PI X tg e (tIS Z q it)
theorem wz1{X:Cx}{Z:Fx0}{q:Bool}{tg:Expr}{it:Ev (List D)}{e:Expr}(h:QI X Z q tg it e):QIS X Z q tg it e:=λpins s O H R I hz=>h pins s O H R I (by
 obtain⟨E,L,r,m,w,e,x,k⟩:=hz;exact⟨E,L,r,m,w,e,x,λE' ds z J T L' H' m' w' st hl sm wk=>k E' ds z J T L' H' m' w' st hl sm (vqq wk)⟩)
def tG(Z:Fx0)(pn:List Nat)(tg:Tg):TG:=λv O H Q=>∃(E:En) (L:Ls) (z:Sl) (E':En),Mt E O L/\World Z.K H (some z::L)/\z.o=.no/\z.v=v/\tg.put z.d E=some E' /\
 ∀ σ' L',Pn pn O σ'->Mt E' σ' L'->World Z.K H L'->Step H (some z::L) H L'->Q σ' H
def QG(X:Cx)(Z:Fx0)(pn:List Nat)(tg:Tg)(e:Expr):Prop:=PG X e (tG Z pn tg)
section
variable {X:Cx}{Z:Fx0}{pn:List Nat}{e:Expr}{O:L2.St}{H:Hp}{L:Ls}{E:En}
theorem vkw{t t':TG}(h:PG X e t)(w:∀v O H Q,t' v O H Q->t v O H Q):PG X e t':=λpins s O H x v Q I r q=>h pins s O H x v Q I r (w x O H Q q)
theorem Vk{i:Nat}(h:PG X e (vjq i))(hp:autoParam (i∉pn) ŕ):QG X Z pn (.n i) e:=vkw h λv O H Q ⟨E,L,z,E',m,w,ho,hv,ce,k⟩=>by
 cases oq9 ce;rw[<-hv];exact k (O.set i (some z.v)) (L.set i (some z)) (Pn.refl.set hp) (Zj m ho rfl) w.set Step.set
def gNs:List Nat->TGs
 |[]=>wzd|i::is=>wq8 (vjq i) (gNs is)
theorem qx2{Q:L2.St->Hp->Prop}{M:Ls}{σ0:L2.St}:∀{is:List Nat} {ds:List D} {xs:List V} {bs:List Addr} {E:En} {L:Ls} {O:L2.St} {E':En},Mt E O L->World Z.K H L->RepA Z.K H true ds xs bs->(∀b∈bs,b∉j8 L)->(∀b∈bs,b∈jZ M)->Step H M H L->Pn pn σ0 O ->
  setAll is ds E=some E'->(∀i∈is,i∉pn)->(∀ σ' L',Pn pn σ0 σ'->Mt E' σ' L'->World Z.K H L'->Step H M H L'->Q σ' H)->gNs is xs O H Q
 | [],[],xs,bs,E,L,O,E',m,w,r,_,_,st,p,e,_,k=>by
  cases oq9 e;unfold RepA at r;exact⟨r.1,k O L p m w st⟩
 | [],_::_,_,_,_,_,_,_,_,_,_,_,_,_,_,e,_,_=>by cases e| _::_,[],_,_,_,_,_,_,_,_,_,_,_,_,_,e,_,_=>by cases e
 | i::is,d::ds,xs,bs,E,L,O,E',m,w,r,hb,hf,st,p,e,hi,k=>by
  unfold RepA at r;obtain⟨x,rr,cs,es,rfl,rfl,h1,h2⟩:=r;have w1:World Z.K H (some ⟨.no,d,x,cs⟩::L):=w.consNo (x:=⟨.no,d,x,cs⟩) h1 rfl λb dm=>hb b (ll9 _ dm)
  have s1:Step H M H (L.set i (some ⟨.no,d,x,cs⟩)):=by
   refine⟨λ_ _ h _=>h,λa ha=>?_,λa ha=>?_⟩
   ·rcases ZX ha with z|z
    ·exact nomatch z
    ·exact st.own a z
   ·rcases jkk ha with z|z
    ·exact .inl (hf a (ll9 _ z))
    ·exact st.frz a z
  exact⟨x,rr,rfl,qx2 (is:=is) (Zj (x:=⟨.no,d,x,cs⟩) (s:=(.no,d)) m rfl rfl) w1.set h2 (λb dm ho=>by
   rcases ZX ho with z|z
   ·exact nomatch z
   ·exact hb b (lr9 _ dm) z) (λb dm=>hf b (lr9 _ dm)) s1 (p.set (hi i X7)) e (λj hj=>hi j (lc9 _ hj)) k⟩
theorem kku:∀{is:List Nat} {ds:List D} {E E':En},setAll is ds E=some E'->is.length=ds.length
 |[],[],_,_,_=>rfl|[],_::_,_,_,e=>by cases e|_::_,[],_,_,e=>by cases e|i::is,d::ds,E,E',e=>by rw[Xv,Xv,kku (E:=E.set i (some (.no,d))) e]
def wwz(K:Frag)(n:Nat)(t:TGs):TG:=λv O H Q=>∃a xs,v=.ref a/\(SqT K H a xs\/SqL K H a xs)/\xs.length=n/\t xs O H Q
section
variable {prog:Program}{w:PySem.World}{A:Around}{E':Value->Shared->Prop}
theorem kwz{it t:Addr}{items:Array Value}(bj:t≠it):∀(n i:Nat) (s:Shared) (Q:List Value->Shared->Prop),s.heap.IsListIter it t i->s.heap.IsList t items->i+n<=items.size ->
  (∀h',h'.IsListIter it t (i+n)->Heap.SameBut it s.heap h'->Q ((items.toList.drop i).take n) { s with heap:=h' })->wpAny (model prog w) A (draw (.ref it) n) Q E' s
 | 0,i,s,Q,fb,_,_,hQ=>by
  show wpAny _ _ (pure []) Q E' s;exact X1 (by simpa using hQ s.heap fb (Heap.SameBut.refl ..))
 | n+1,i,s,Q,fb,ht,fq,hQ=>by
  have bv:i<items.size:=⋯
  show wpAny _ _ (pyNext (.ref it) >>= _) Q E' s;refine X0 (wpAny_pyNext_list_item fb ht (x:=items[i]) (by simp[bv]) λh₁ mz qf=>?_);have ht₁:h₁.IsList t items:=by
   obtain⟨o,ho,r⟩:=ht;exact⟨o,(qf.2 t bj).trans ho,r⟩
  refine X0 (Y0 (kwz bj n (i+1) _ _ mz ht₁ ⋯ λh₂ hit₂ hs₂=>X1 ?_));have hd:items.toList.drop i=items[i]::items.toList.drop (i+1):=by simp[List.drop_eq_getElem_cons,bv]
  have:=hQ h₂ (by rw[show i+(n+1)=i+1+n by omega];exact hit₂) (qf.trans hs₂);rw[hd,List.take_succ_cons]at this;exact this
theorem jzk{s:Shared}{t:Addr}{items:Array Value}{Q:List Value->Shared->Prop}(hh:A.handled=none)(ht:s.heap.IsList t items)
  (hQ:∀h',Heap.ExtBut s.heap.objs.size s.heap h'->Q items.toList { s with heap:=h' }):wpAny (model prog w) A (unpackItems (.ref t) items.size none) Q E' s:=by
 have bv:t≠s.heap.objs.size:=by obtain⟨o,ho,_⟩:=ht;exact Xg (Xa ho)
 unfold unpackItems;refine X0 ?_;unfold notIterableAtAll;refine X0 (Z2 ht.typeIs slot_list_iter.lookup ?_);refine X1 ?_;simp only[Bool.false_eq_true,if_false];refine X0 (Y0 (wpAny_pyIter_list ht ?_));have ht0:∀o:Obj,(s.heap.push o).IsList t items:=λo=>by
  obtain⟨ob,ho,r⟩:=ht;exact⟨ob,X3 _ ho,r⟩
 refine X0 (Y0 (kwz bv items.size 0 _ _ ⟨_,X6 _ rfl,rfl,rfl⟩ (ht0 _) ⋯ λh₁ mz qf=>?_));have mr:List.take items.size (List.drop 0 items.toList)=items.toList:=by
  rw[List.drop_zero];exact Z7 (by simp)
 rw[mr];rw[Xb (by simp)];have ht₁:h₁.IsList t items:=by
  obtain⟨o,ho,r⟩:=ht0 _;exact⟨o,(qf.2 t bv).trans ho,r⟩
 refine X0 (Y0 (wpAny_pyNext_list_end hh mz ht₁ (by simp) λh₂ he₂=>?_));simp only[Option.isSome_none,Bool.false_eq_true,if_false];exact X1 (hQ h₂ λb o hb e=>he₂ b o hb (qf.extBut b o hb (X3 _ e)))
theorem jz8{s:Shared}{env:Env}{fj:List Expr}{x1}{pos:Pos}{t:Addr}{items:Array Value}{Q:Unit->Shared->Prop}(hh:A.handled=none)(ht:s.heap.IsList t items)
  (hn:(assignEach fj env).length=items.size) (qd:(assignEach fj env).findIdx? (·.1)=none)
  (h:∀h',Heap.ExtBut s.heap.objs.size s.heap h'->wpAny (model prog w) A (assignInOrder ((assignEach fj env).map (·.2)) items.toList) Q E' { s with heap:=h' }):
  wpAny (model prog w) A (assign (.Tuple fj x1 pos) env (.ref t)) Q E' s:=by
 rw[assign_Tuple];refine X0 (wpAny_standAt ?_);unfold unpack;rw[hn,qd];exact X0 (Y0 (jzk hh ht h))
end
theorem qvs(K:Frag){es:List Expr}{k:Nat}{t:TGs}{n:Nat}{pos:Pos}(h:PGs X es t)(hc:autoParam (X.calm=true) Ŕ)(hK:autoParam (X.K=K) Ŕ)
  (hn:autoParam ((assignEach es X.env).length=n) Ŕ) (cb:autoParam ((assignEach es X.env).findIdx? (·.1)=none) Ŕ):PG X (.Tuple es k pos) (wwz K n t):=by
 subst hK;intro pins s O H v u Q I r hw;obtain⟨a,xs,e1,hq,hl,hw⟩:=hw;subst e1;cases r;rcases hq with hq|hq
 ·obtain⟨ai,rv,ht,hz⟩:=I.tuple hq;refine assign_Tuple_tuple (I.ok.hd hc) ht (by simp[hn,<-hl,rv.length]) cb λh' hx=>?_
  have I1:L2.Inv X pins O H { s with heap:=h' }:=I.kept (t':=s.toks) λb o e=>hx b o (Xg (Xa e)) e
  exact h pins _ O H xs _ Q I1 (by simpa using rv) hw
 ·obtain⟨ai,rv,ht,hz⟩:=I.list hq;refine jz8 (I.ok.hd hc) ht.isList (by simp[hn,<-hl,rv.length]) cb λh' hx=>?_
  have I1:L2.Inv X pins O H { s with heap:=h' }:=I.kept (t':=s.toks) λb o e=>hx b o (Xg (Xa e)) e
  exact h pins _ O H xs _ Q I1 (by simpa using rv) hw
theorem ww8{is:List Nat}(h:PG X e (wwz Z.K is.length (gNs is)))(hp:autoParam (∀i∈is,i∉pn) ŕ):QG X Z pn (.t is) e:=vkw h λv O H Q ⟨E,L,z,E',m,w,ho,hv,ce,k⟩=>by
 have fin:∀ds:List D,(z.d=.lst ds\/z.d=.tup ds)->setAll is ds E=some E'->wwz Z.K is.length (gNs is) v O H Q:=λds hd ce=>by
  obtain⟨a,xs,bs,e1,q1,r,h1,h2⟩:=items w.head hd;rw[ho]at r;refine⟨a,xs,hv.symm.trans e1,?_,by rw[kku ce,r.len],qx2 (M:=some z::L) m w.tail r (λb hb=>w.apart b (h1 b hb)) (λb hb=>?_) Step.drop Pn.refl ce hp k⟩
  ·rcases q1 with⟨_,z'⟩|⟨_,z'⟩
   ·exact .inr z'.sq
   ·exact .inl z'
  ·rw[vY,kwo ho];exact ll9 _ (h1 b hb)
 cases hd:z.d with|tup ds=>rw[hd]at ce;exact fin ds (.inr hd) ce|lst ds=>rw[hd]at ce;exact fin ds (.inl hd) ce|_=>rw[hd]at ce;cases ce
end
section
variable {X:Cx}{Z:Fx0}{pn:List Nat}{q:Bool}{tg iter:Expr}{it:Ev (List D)}{t:Tg}{B:Sm}{ss:List Stmt}{pos:Pos}{O:L2.St}{H:Hp}{L:Ls}{E:En}
theorem kq1{K:Frag}{T:List Sl}{H1 H2:Hp}{L1:Ls}{z:Sl}(w:World K H1 (L1++T.map some))(hT:∀t∈T,t.o=.no)(sm:k4 H1 H2)(ok:z.ok K H2)(ho:z.o=.no)(hz:∀b∈z.as,∃t∈T,b∈t.as):
  World K H2 ((some z::L1)++T.map some)/\Step H1 (L1++T.map some) H2 ((some z::L1)++T.map some):=by
 have w2:World K H2 (L1++T.map some):=⟨λx hx=>RepO.kp (w.ok x hx) (Kp.of_same sm),w.nd,w.ds⟩;have hf:∀b∈z.as,b∈jZ (L1++T.map some):=λb hb=>by
  obtain⟨t,ht,hbt⟩:=hz b hb;rw[kX];exact lr9 _ (mem_frozen.mpr ⟨t,Xk ht,by rw[kwo (hT t ht)];exact hbt⟩)
 refine⟨w2.consNo ok ho λb hb hL=>w2.ds b hL (hf b hb),λa ob h _=>sm a ob h,λa ha=>?_,λa ha=>?_⟩
 ·rw[List.cons_append,kJ,qvx ho]at ha;exact .inl ha
 ·rw[List.cons_append,vY,kwo ho]at ha;rcases aA ha with q|q
  ·exact .inl (hf a q)
  ·exact .inl q
theorem stay{K:Frag}{T L1 L2:Ls}{H1 H2:Hp}(w:World K H1 (L1++T))(s:Step H1 L1 H2 L2)(w2:World K H2 L2):World K H2 (L2++T)/\Step H1 (L1++T) H2 (L2++T):=⟨s.frame w w2 w.left,s.frm⟩
theorem Step.dropT{T:Ls}{H1:Hp}{L1:Ls}:Step H1 (L1++T) H1 L1:=⟨λ_ _ h _=>h,λa ha=>.inl (by rw[jW];exact ll9 _ ha),λa ha=>.inl (by rw[kX];exact ll9 _ ha)⟩
theorem Kp.trans{H H1 H2:Hp}{as:List Addr}(a:Kp H H1 as)(b:Kp H1 H2 as):Kp H H2 as:=⟨λc xs e=>b.1 c xs (a.1 c xs e),λc o u e=>b.2.1 c o u (a.2.1 c o u e),λc hc ob e=>b.2.2 c hc ob (a.2.2 c hc ob e)⟩
theorem qj7{K:Frag}{H2 H3:Hp}{L2 L3:Ls}{T:List Sl}(w:World K H2 (L2++T.map some))(hT:∀t∈T,t.o=.no)(s:Step H2 L2 H3 L3){H0:Hp}(h:∀t∈T,Kp H0 H2 t.as):∀t∈T,Kp H0 H3 t.as:=λt ht=>
 (h t ht).trans (s.kp w.left λb hb z=>w.ds b (by rw[jW];exact ll9 _ z) (by
  rw[kX];exact lr9 _ (mem_frozen.mpr ⟨t,Xk ht,by rw[kwo (hT t ht)];exact hb⟩)))
theorem wja(hp:PassesOwn (model X.prog X.w) X.A X.env X.xe)(hc:X.calm=true)(hi:QID X Z q tg it iter)(hg:QG X Z pn t tg)(hb:QSs X Z pn B ss)(hs:autoParam (∀x,foldedSetIterable iter X.env x=pure x) Ŗ):QS X Z pn (vx it t B) (.For tg iter ss [] pos):=Kk (wjm hp hc hi hg hb hs) λD O H az=>ex7 az λE L r m w hr k=>by
 have hr:ofE (it E) (λE ds=>Kx t B ds E)=some r:=hr;rcases jw3 hr with⟨E1,ds,h1,h2⟩|⟨E1,c,h1,rfl⟩
 rotate_left
 ·exact⟨E,L,_,m,w,h1,k.xc,λE' s' z=>by cases z⟩
 refine⟨E,L,_,m,w,h1,(λ_ _ z=>by cases z),λE' ds' z J T L' H' m' w' st hz _ wk=>?_⟩;injection z with z1 z2;subst z1 z2;have jf:∀{H2:Hp} {L2:Ls},World Z.K H2 (L2++T.map some)->∀t∈T,t.ok Z.K H2:=λw2 t ht=>w2.ok t (lr9 _ (Xk ht))
 refine⟨λi n σ1 H1=>∃E1 L1,Mt E1 σ1 L1/\World Z.K H1 (L1++T.map some)/\Step H L H1 (L1++T.map some)/\Pn pn O σ1/\Kx t B (ds.drop i) E1=some r/\i<=ds.length/\n=ds.length - i/\∀t∈T,Kp H' H1 t.as,⟨_,E1,L',m',w',st,Pn.refl,h2,Yg _,rfl,λ_ _=>Kp.of_same xQ⟩,?_⟩;rintro i n σ1 H1 ⟨E1,L1,m1,w1,gl,p1,f1,hi,rfl,pins⟩
 by_cases bv:i<ds.length
 ·have hd:ds.drop i=ds[i]::ds.drop (i+1):=List.drop_eq_getElem_cons bv;rw [hd]at f1;unfold Kx at f1;cases ce:t.put ds[i] E1 with
  | none=>rw[ce]at f1;cases f1
  | some E2=>
   rw[ce]at f1;dsimp only at f1;refine .inr ⟨wk.go i H1 ⟨jf w1,pins⟩ bv,fun σ2 H2=>∃E2 L2,Mt E2 σ2 L2/\World Z.K H2 (L2++T.map some)/\Step H L H2 (L2++T.map some)/\Pn pn O σ2/\Kx t B (ds.drop (i+1)) E2=some r/\∀t∈T,Kp H' H2 t.as,fun σ2 H2 ⟨E2,L2,a1,a2,a3,a4,a5,a6⟩=>⟨ds.length - (i+1),⋯,E2,L2,a1,a2,a3,a4,a5,bv,rfl,a6⟩,λv H2 hy=>?_⟩;obtain⟨z,zo,zd,zv,sm,rf,zas⟩:=wk.yld i H1 v H2 ds[i] ⟨jf w1,pins⟩ hy (X2 bv);obtain⟨wz,sz⟩:=kq1 w1 wk.no sm rf zo zas;refine⟨E1,L1,z,E2,m1,wz.left,zo,zv,by rw[zd];exact ce,fun σ2 L2 p2 m2 w2 bo=>?_⟩;obtain⟨w3,de⟩:=stay wz bo w2;have ip:Step H L H2 (L2++T.map some):=gl.trans (sz.trans de);have mh:∀t∈T,Kp H' H2 t.as:=λt ht=>(pins t ht).trans (Kp.of_same sm)
   cases hB:B E2 with
   | none=>rw[hB]at f1;cases f1
   | some g=>
    rw[hB]at f1;refine⟨E2,L2,g,m2,w2,hB,?_⟩;have fin:∀{g:Fl},g=r->(∀ σ',D.nx σ'=D.nx σ')->FlP Z pn D σ2 H2 (L2++T.map some) g:=λe _=>e▸k.step ip (p1.trans p2)
    cases g with
    |nx E3=>
     intro σ3 L3 H3 p3 m3 w4 s3;obtain⟨w5,s5⟩:=stay w3 s3 w4;exact⟨E3,L3,m3,w5,ip.trans s5,(p1.trans p2).trans p3,f1,qj7 w3 wk.no s3 mh⟩
    |ct E3=>
     intro σ3 L3 H3 p3 m3 w4 s3;obtain⟨w5,s5⟩:=stay w3 s3 w4;exact⟨E3,L3,m3,w5,ip.trans s5,(p1.trans p2).trans p3,f1,qj7 w3 wk.no s3 mh⟩
    |bk E3=>
     have e:=oq9 f1;subst e;intro σ3 L3 H3 p3 m3 w4 s3;exact k σ3 L3 H3 ((p1.trans p2).trans p3) m3 w4 ((ip.trans Step.dropT).trans s3)
    |rt E3 x=>
     have e:=oq9 f1;subst e;intro y σ3 L3 H3 e1 e2 p3 m3 w4 s3;exact k y σ3 L3 H3 e1 e2 ((p1.trans p2).trans p3) m3 w4 ((ip.trans Step.dropT).trans s3)
    |xc E3 c=>
     have e:=oq9 f1;subst e;intro C σ3 L3 H3 hm p3 m3 w4 s3;exact k C σ3 L3 H3 hm ((p1.trans p2).trans p3) m3 w4 ((ip.trans Step.dropT).trans s3)
 ·have e:i=ds.length:=⋯
  subst e;rw[List.drop_length]at f1;cases oq9 f1;exact .inl ⟨wk.stop H1 ⟨jf w1,pins⟩,k σ1 L1 H1 p1 m1 w1.left (gl.trans Step.dropT)⟩
theorem ww9(hp:PassesOwn (model X.prog X.w) X.A X.env X.xe)(hc:X.calm=true)(hi:QI X Z q tg it iter)(hg:QG X Z pn t tg)(hb:QSs X Z pn B ss)(hs:autoParam (∀x,foldedSetIterable iter X.env x=pure x) Ŗ):QS X Z pn (vx it t B) (.For tg iter ss [] pos):=wja hp hc hi.D hg hb hs
end
mutual
noncomputable def jw(h:Heap):D->Value->Prop
 |.non,u=>u=.none|.bl b,u=>u=.bool b|.int i,u=>∃t,u=.int i t|.str z,u=>∃t,u=.str z t|.tup ds,u=>∃a us,u=.ref a/\h.IsTuple a us.toArray/\CReps h ds us|.lst ds,u=>∃a us,u=.ref a/\h.IsList a us.toArray/\CReps h ds us|.dct _,_=>False|.obj _ _,_=>False
noncomputable def CReps(h:Heap):List D->List Value->Prop
 |[],us=>us=[]|d::ds,us=>∃u r,us=u::r/\jw h d u/\CReps h ds r
end
theorem qjr{n:Nat}{k:List (D×D)}:D.flat n (.dct k)=false:=by cases n<;>simp[D.flat]
theorem qjq{n:Nat}{c:Str}{k:List (Str×D)}:D.flat n (.obj c k)=false:=by cases n<;>simp[D.flat]
section
variable {X:Cx}{pins:List (Addr×Obj)}{O:L2.St}{H:Hp}{s:Shared}
mutual
theorem V8(I:Inv X pins O H s){g:Bool}:∀{n:Nat} {d:D} {v:V} {as:List Addr} {u:Value},RepL X.K H g d v as->d.flat n=true->RelV v u->jw s.heap d u
 | _,.non,_,_,_,h,_,r=>by
  unfold RepL at h;rw[h.1]at r;unfold jw;exact r
 | _,.bl _,_,_,_,h,_,r=>by
  unfold RepL at h;rw[h.1]at r;unfold jw;exact r
 | _,.int _,_,_,_,h,_,r=>by
  unfold RepL at h;rw[h.1]at r;unfold jw;exact r
 | _,.str _,_,_,_,h,_,r=>by
  unfold RepL at h;rw[h.1]at r;unfold jw;exact r
 | 0,.tup ds,_,_,_,h,f,r=>by unfold D.flat at f;cases f
 | n+1,.tup ds,_,_,_,h,f,r=>by
  unfold RepL at h;unfold D.flat at f;obtain⟨a,xs,rfl,q,ra⟩:=h;cases r;obtain⟨ai,rv,p,_⟩:=I.tuple q;unfold jw;exact⟨a,ai,rfl,p,creps_of I ra f rv⟩
 | 0,.lst ds,_,_,_,h,f,r=>by unfold D.flat at f;cases f
 | n+1,.lst ds,_,_,_,h,f,r=>by
  unfold RepL at h;unfold D.flat at f;obtain⟨a,xs,bs,rfl,ra,q⟩:=h;cases r;have q':SqL X.K H a xs:=by
   rcases q with⟨q,_⟩|⟨_,q,_⟩
   ·exact SqL.of q
   ·exact(LsR.of q).sq
  obtain⟨ai,rv,p,_⟩:=I.list q';unfold jw;exact⟨a,ai,rfl,p.isList,creps_of I ra f rv⟩
 |_,.dct _,_,_,_,h,f,r=>by rw[qjr]at f;cases f|_,.obj _ _,_,_,_,h,f,r=>by rw[qjq]at f;cases f
theorem creps_of(I:Inv X pins O H s){g:Bool}:∀{n:Nat} {ds:List D} {xs:List V} {as:List Addr} {us:List Value},RepA X.K H g ds xs as->D.flats n ds=true->Vals xs us->CReps s.heap ds us
 | _,[],_,_,_,h,_,r=>by
  unfold RepA at h;rw[h.1]at r;cases r;unfold CReps;rfl
 | n,d::ds,_,_,_,h,f,r=>by
  unfold RepA at h;unfold D.flats at f;rw[Bool.and_eq_true]at f;obtain⟨x,rr,bs,cs,rfl,rfl,h1,h2⟩:=h;cases r with
  |cons r1 r2=>
   unfold CReps;exact⟨_,_,rfl,V8 I h1 f.1 r1,creps_of I h2 f.2 r2⟩
end
end
theorem CReps.len{h:Heap}:∀{ds:List D} {us:List Value},CReps h ds us->ds.length=us.length
 |[],_,r=>by unfold CReps at r;rw[r];rfl
 |d::ds,_,r=>by
  unfold CReps at r;obtain⟨u,rr,rfl,_,h2⟩:=r;simp[CReps.len h2]
theorem CReps.get{h:Heap}:∀{ds:List D} {us:List Value} {j:Nat} {d:D},CReps h ds us->ds[j]?=some d->∃u,us[j]?=some u/\jw h d u
 | [],_,_,_,_,e=>by simp at e
 | d::ds,_,j,d',r,e=>by
  unfold CReps at r;obtain⟨u,rr,rfl,h1,h2⟩:=r;cases j with
  |zero=>
   have e:d=d':=by simpa using e
   subst e;exact⟨u,by simp,h1⟩
  |succ j=>
   obtain⟨w,e1,e2⟩:=CReps.get (j:=j) h2 (by simpa using e);exact⟨w,by simpa using e1,e2⟩
theorem vqt{h:Heap}{a:Addr}{x y:Array Value}(p:h.IsTuple a x)(q:h.IsTuple a y):x=y:=by
 obtain⟨o,h1,_,n,h2⟩:=p;obtain⟨o',h3,_,n',h4⟩:=q;rw[h1]at h3;cases h3;rw[h2]at h4;injection h4
theorem vwa{h:Heap}{a:Addr}{x y:Array Value}(p:h.IsList a x)(q:h.IsList a y):x=y:=by
 obtain⟨o,h1,_,n,h2⟩:=p;obtain⟨o',h3,_,n',h4⟩:=q;rw[h1]at h3;cases h3;rw[h2]at h4;injection h4
theorem qwd{h:Heap}{a:Addr}{x y:Array Value}(p:h.IsList a x)(q:h.IsTuple a y):False:=by
 obtain⟨o,h1,h2,_⟩:=p;obtain⟨o',h3,h4,_⟩:=q;rw[h1]at h3;cases h3;rw[h2]at h4;exact absurd (Value.type.inj h4) ⋯
mutual
theorem jzz{h:Heap}:∀{d d':D} {u:Value},jw h d u->jw h d' u->d=d'
 | .non,d',u,a,b=>by
  unfold jw at a;subst a;cases d'<;>unfold jw at b<;>first|rfl|exact b.elim|(cases b;done)|(obtain⟨_,b⟩:=b;cases b;done)|(obtain⟨_,_,b,_⟩:=b;cases b)
 | .bl k,d',u,a,b=>by
  unfold jw at a;subst a;cases d'<;>unfold jw at b<;>first|exact b.elim|(cases b;rfl)|(cases b;done)|(obtain⟨_,b⟩:=b;cases b;done)|(obtain⟨_,_,b,_⟩:=b;cases b)
 | .int k,d',u,a,b=>by
  unfold jw at a;obtain⟨t,rfl⟩:=a;cases d'<;>unfold jw at b<;>first|exact b.elim|(cases b;done)|(obtain⟨_,b⟩:=b;cases b;rfl)|(obtain⟨_,b⟩:=b;cases b;done)|(obtain⟨_,_,b,_⟩:=b;cases b)
 | .str k,d',u,a,b=>by
  unfold jw at a;obtain⟨t,rfl⟩:=a;cases d'<;>unfold jw at b<;>first|exact b.elim|(cases b;done)|(obtain⟨_,b⟩:=b;cases b;rfl)|(obtain⟨_,b⟩:=b;cases b;done)|(obtain⟨_,_,b,_⟩:=b;cases b)
 | .tup ds,d',u,a,b=>by
  unfold jw at a;obtain⟨x,us,rfl,p,r⟩:=a;cases d' with
  |tup es=>
   unfold jw at b;obtain⟨y,ws,e,p',r'⟩:=b;cases e;have e2:us=ws:=by simpa using vqt p p'
   subst e2;rw[creps_inj r r']
  |lst es=>
   unfold jw at b;obtain⟨y,ws,e,p',r'⟩:=b;cases e;exact(qwd p' p).elim
  |non=>unfold jw at b;cases b|bl k=>unfold jw at b;cases b|int k=>unfold jw at b;obtain⟨_,b⟩:=b;cases b|str k=>unfold jw at b;obtain⟨_,b⟩:=b;cases b|dct k=>unfold jw at b;exact b.elim|obj k l=>unfold jw at b;exact b.elim
 | .lst ds,d',u,a,b=>by
  unfold jw at a;obtain⟨x,us,rfl,p,r⟩:=a;cases d' with
  |lst es=>
   unfold jw at b;obtain⟨y,ws,e,p',r'⟩:=b;cases e;have e2:us=ws:=by simpa using vwa p p'
   subst e2;rw[creps_inj r r']
  |tup es=>
   unfold jw at b;obtain⟨y,ws,e,p',r'⟩:=b;cases e;exact(qwd p p').elim
  |non=>unfold jw at b;cases b|bl k=>unfold jw at b;cases b|int k=>unfold jw at b;obtain⟨_,b⟩:=b;cases b|str k=>unfold jw at b;obtain⟨_,b⟩:=b;cases b|dct k=>unfold jw at b;exact b.elim|obj k l=>unfold jw at b;exact b.elim
 |.dct k,_,_,a,_=>by unfold jw at a;exact a.elim|.obj k l,_,_,a,_=>by unfold jw at a;exact a.elim
theorem creps_inj{h:Heap}:∀{ds ds':List D} {us:List Value},CReps h ds us->CReps h ds' us->ds=ds'
 | [],ds',us,a,b=>by
  unfold CReps at a;subst a;cases ds' with|nil=>rfl|cons d ds=>unfold CReps at b;obtain⟨_,_,e,_⟩:=b;cases e
 | d::ds,ds',us,a,b=>by
  unfold CReps at a;obtain⟨u,r,rfl,h1,h2⟩:=a;cases ds' with
  |nil=>unfold CReps at b;cases b
  |cons d' ds'=>
   unfold CReps at b;obtain⟨u',r',e,h3,h4⟩:=b;cases e;rw[jzz h1 h3,creps_inj h2 h4]
end
mutual
theorem jx3:∀{n:Nat} {d:D},d.flat n=true->peq d d=true
 |_,.non,_=>by unfold peq;rfl|_,.bl b,_=>by unfold peq;simp|_,.int b,_=>by unfold peq;simp|_,.str b,_=>by unfold peq;simp|0,.tup ds,f=>by unfold D.flat at f;cases f|n+1,.tup ds,f=>by unfold peq;unfold D.flat at f;exact peqs_refl f|0,.lst ds,f=>by unfold D.flat at f;cases f|n+1,.lst ds,f=>by unfold peq;unfold D.flat at f;exact peqs_refl f|_,.dct _,f=>by rw[qjr]at f;cases f|_,.obj _ _,f=>by rw[qjq]at f;cases f
theorem peqs_refl:∀{n:Nat} {d:List D},D.flats n d=true->peqs d d=true
 |_,[],_=>by unfold peqs;rfl
 |n,d::ds,f=>by
  unfold D.flats at f;rw[Bool.and_eq_true]at f;unfold peqs;rw[jx3 f.1,peqs_refl f.2];rfl
end
theorem jxc : ∀{n : Nat} {ds : List D} {j : Nat} {d : D}, D.flats n ds = true -> ds[j]? = some d -> d.flat n = true
  | _, [], _, _, _, e=>by simp at e
  | n, d::ds, j, d', f, e=>by
    unfold D.flats at f;rw[Bool.and_eq_true]at f;cases j with
    | zero => have e : d = d':= by simpa using e
              subst e; exact f.1
    |succ j=>exact jxc (j:= j) f.2 (by simpa using e)
def pAt(as bs:List D)(j:Nat):Bool:=match as[j]?,bs[j]? with
 |some a,some b=>peq a b|_,_=>true
theorem jwc:∀(as bs:List D),as.length=bs.length->(List.range as.length).all (pAt as bs)=peqs as bs
 |[],[],_=>by unfold peqs;rfl
 |a::as,b::bs,h=>by
  have ih:=jwc as bs (by simpa using h);rw[Xv,List.range_succ_eq_map,List.all_cons,List.all_map];unfold peqs;rw[<-ih];rfl
 |[],_::_,h=>by simp at h|_::_,[],h=>by simp at h
theorem jzu:∀(as bs:List D),as.length≠bs.length->peqs as bs=false
 |[],[],h=>by simp at h
 |a::as,b::bs,h=>by
  unfold peqs;rw[jzu as bs (by simpa using h),Bool.and_false]
 |[],_::_,_=>by unfold peqs;rfl|_::_,[],_=>by unfold peqs;rfl
theorem kzr(as bs:List D):((List.range (min as.length bs.length)).all (pAt as bs)&&as.length==bs.length)=peqs as bs:=by
 by_cases e:as.length=bs.length
 ·rw[<-e,Nat.min_self,jwc as bs e];simp[e]
 ·rw[jzu as bs e];have:(as.length==bs.length)=false:=by simpa using e
  rw[this,Bool.and_false]
section
variable {s:Shared}
theorem kxu{as bs:List D}{us ws:List Value}{A:Around}(ra:CReps s.heap as us)(rb:CReps s.heap bs ws)
  (h:∀(j:Nat) (d d':D) (u w:Value),as[j]?=some d->bs[j]?=some d'->jw s.heap d u->jw s.heap d' w->SeqAt.EqAt A s u w (peq d d')):
  ∀j (h1:j<us.toArray.size) (h2:j<ws.toArray.size),SeqAt.EqAt A s us.toArray[j] ws.toArray[j] (pAt as bs j):=λj h1 h2=>by
 have l1:=ra.len;have l2:=rb.len;simp only[X5]at h1 h2;have ha:j<as.length:=⋯
 have hb:j<bs.length:=⋯
 obtain⟨u,eu,ru⟩:=ra.get (X2 ha);obtain⟨w,ew,iy⟩:=rb.get (X2 hb);have e1:us.toArray[j]=u:=by
  obtain⟨_,q⟩:=List.getElem?_eq_some_iff.mp eu
  simpa using q
 have e2:ws.toArray[j]=w:=by
  obtain⟨_,q⟩:=List.getElem?_eq_some_iff.mp ew
  simpa using q
 have e3:pAt as bs j=peq as[j] bs[j]:=by
  unfold pAt;rw[X2 ha,X2 hb]
 rw[e1,e2,e3];exact h j _ _ u w (X2 ha) (X2 hb) ru iy
inductive Cv (h:Heap):D->Value->Prop
 |non:Cv h .non .none
 |bl (b:Bool):Cv h (.bl b) (.bool b)
 |int (i:Int) (t:_):Cv h (.int i) (.int i t)
 |str (z:Str) (t:_):Cv h (.str z) (.str z t)
 |lst {ds:List D} {a:Addr} {us:List Value} (p:h.IsList a us.toArray) (q:CReps h ds us):Cv h (.lst ds) (.ref a)
 |tup {ds:List D} {a:Addr} {us:List Value} (p:h.IsTuple a us.toArray) (q:CReps h ds us):Cv h (.tup ds) (.ref a)
theorem crv{h:Heap}{d:D}{u:Value}(r:jw h d u):Cv h d u:=by
 cases d<;>unfold jw at r
 all_goals first|exact r.elim|(subst r;constructor)|(obtain⟨_,rfl⟩:=r;constructor)|(obtain⟨_,_,rfl,p,q⟩:=r;first|exact .lst p q|exact .tup p q)
theorem vzr{A:Around}{d d':D}{u w:Value}(hu:A.units<cLine)(r:jw s.heap d u)(r':jw s.heap d' w)
  (el:∀(as bs:List D) (us ws:List Value),(d=.lst as\/d=.tup as)->(d'=.lst bs\/d'=.tup bs)->CReps s.heap as us->CReps s.heap bs ws->∀j (h1:j<us.toArray.size) (h2:j<ws.toArray.size),SeqAt.EqAt A.in1 s us.toArray[j] ws.toArray[j] (pAt as bs j)):
  SeqAt.RcAt A s u w (peq d d'):=by
 cases crv r<;>cases crv r'<;>unfold peq
 ·exact SeqAt.RcAt.none_none
 ·exact SeqAt.RcAt.none_bool _
 ·exact SeqAt.RcAt.none_int _ _
 ·exact SeqAt.RcAt.none_str _ _
 ·exact SeqAt.RcAt.none_list ‹_› hu
 ·exact SeqAt.RcAt.none_tuple ‹_› hu
 ·exact SeqAt.RcAt.bool_none _
 ·exact SeqAt.RcAt.bool_bool _ _
 ·exact SeqAt.RcAt.bool_int _ _ _
 ·exact SeqAt.RcAt.bool_str _ _ _
 ·exact SeqAt.RcAt.bool_list _ ‹_› hu
 ·exact SeqAt.RcAt.bool_tuple _ ‹_› hu
 ·exact SeqAt.RcAt.int_none _ _
 ·exact SeqAt.RcAt.int_bool _ _ _
 ·exact SeqAt.RcAt.int_int _ _ _ _
 ·exact SeqAt.RcAt.int_str _ _ _ _
 ·exact SeqAt.RcAt.int_list _ _ ‹_› hu
 ·exact SeqAt.RcAt.int_tuple _ _ ‹_› hu
 ·exact SeqAt.RcAt.str_none _ _
 ·exact SeqAt.RcAt.str_bool _ _ _
 ·exact SeqAt.RcAt.str_int _ _ _ _
 ·exact SeqAt.RcAt.str_str _ _ _ _
 ·exact SeqAt.RcAt.str_list _ _ ‹_› hu
 ·exact SeqAt.RcAt.str_tuple _ _ ‹_› hu
 ·exact SeqAt.RcAt.list_none ‹_› hu
 ·exact SeqAt.RcAt.list_bool _ ‹_› hu
 ·exact SeqAt.RcAt.list_int _ _ ‹_› hu
 ·exact SeqAt.RcAt.list_str _ _ ‹_› hu
 ·rename_i as a us p ra bs b ws p' rb;have l1:=ra.len;have l2:=rb.len
  by_cases hl:as.length=bs.length
  ·rw[<-jwc as bs hl];have z:=SeqAt.RcAt.lists (A:=A) (s:=s) (e:=pAt as bs) p p' (by simp only[X5];omega) hu (el as bs us ws (.inl rfl) (.inl rfl) ra rb);rw[X5,<-l1]at z;exact z
  ·rw[jzu as bs hl];exact SeqAt.RcAt.lists_lengths p p' (by simp only[X5,bne_iff_ne];omega) hu
 ·exact SeqAt.RcAt.list_tuple ‹_› ‹_› hu
 ·exact SeqAt.RcAt.tuple_none ‹_› hu
 ·exact SeqAt.RcAt.tuple_bool _ ‹_› hu
 ·exact SeqAt.RcAt.tuple_int _ _ ‹_› hu
 ·exact SeqAt.RcAt.tuple_str _ _ ‹_› hu
 ·exact SeqAt.RcAt.tuple_list ‹_› ‹_› hu
 ·rename_i as a us p ra bs b ws p' rb;have l1:=ra.len;have l2:=rb.len;rw[<-kzr as bs];have z:=SeqAt.RcAt.tuples (A:=A) (s:=s) (e:=pAt as bs) p p' hu (el as bs us ws (.inr rfl) (.inr rfl) ra rb);rw[X5,X5,<-l1,<-l2]at z;exact z
theorem wvu{A:Around}{d d':D}{u w:Value}(hu:A.units<cLine)(r:jw s.heap d u)(r':jw s.heap d' w)
  (el:∀(as bs:List D) (us ws:List Value),(d=.lst as\/d=.tup as)->(d'=.lst bs\/d'=.tup bs)->CReps s.heap as us->CReps s.heap bs ws->∀j (h1:j<us.toArray.size) (h2:j<ws.toArray.size),SeqAt.EqAt A.in1 s us.toArray[j] ws.toArray[j] (pAt as bs j)):
  SeqAt.RcNeAt A s u w (!peq d d'):=by
 cases crv r<;>cases crv r'<;>unfold peq
 ·exact SeqAt.RcNeAt.none_none
 ·exact SeqAt.RcNeAt.none_bool _
 ·exact SeqAt.RcNeAt.none_int _ _
 ·exact SeqAt.RcNeAt.none_str _ _
 ·exact SeqAt.RcNeAt.none_list ‹_› hu
 ·exact SeqAt.RcNeAt.none_tuple ‹_› hu
 ·exact SeqAt.RcNeAt.bool_none _
 ·exact SeqAt.RcNeAt.bool_bool _ _
 ·exact SeqAt.RcNeAt.bool_int _ _ _
 ·exact SeqAt.RcNeAt.bool_str _ _ _
 ·exact SeqAt.RcNeAt.bool_list _ ‹_› hu
 ·exact SeqAt.RcNeAt.bool_tuple _ ‹_› hu
 ·exact SeqAt.RcNeAt.int_none _ _
 ·exact SeqAt.RcNeAt.int_bool _ _ _
 ·exact SeqAt.RcNeAt.int_int _ _ _ _
 ·exact SeqAt.RcNeAt.int_str _ _ _ _
 ·exact SeqAt.RcNeAt.int_list _ _ ‹_› hu
 ·exact SeqAt.RcNeAt.int_tuple _ _ ‹_› hu
 ·exact SeqAt.RcNeAt.str_none _ _
 ·exact SeqAt.RcNeAt.str_bool _ _ _
 ·exact SeqAt.RcNeAt.str_int _ _ _ _
 ·exact SeqAt.RcNeAt.str_str _ _ _ _
 ·exact SeqAt.RcNeAt.str_list _ _ ‹_› hu
 ·exact SeqAt.RcNeAt.str_tuple _ _ ‹_› hu
 ·exact SeqAt.RcNeAt.list_none ‹_› hu
 ·exact SeqAt.RcNeAt.list_bool _ ‹_› hu
 ·exact SeqAt.RcNeAt.list_int _ _ ‹_› hu
 ·exact SeqAt.RcNeAt.list_str _ _ ‹_› hu
 ·rename_i as a us p ra bs b ws p' rb;have l1:=ra.len;have l2:=rb.len
  by_cases hl:as.length=bs.length
  ·rw[<-jwc as bs hl];have z:=SeqAt.RcNeAt.lists (A:=A) (s:=s) (e:=pAt as bs) p p' (by simp only[X5];omega) hu (el as bs us ws (.inl rfl) (.inl rfl) ra rb);rw[X5,<-l1]at z;exact z
  ·rw[jzu as bs hl];exact SeqAt.RcNeAt.lists_lengths p p' (by simp only[X5,bne_iff_ne];omega) hu
 ·exact SeqAt.RcNeAt.list_tuple ‹_› ‹_› hu
 ·exact SeqAt.RcNeAt.tuple_none ‹_› hu
 ·exact SeqAt.RcNeAt.tuple_bool _ ‹_› hu
 ·exact SeqAt.RcNeAt.tuple_int _ _ ‹_› hu
 ·exact SeqAt.RcNeAt.tuple_str _ _ ‹_› hu
 ·exact SeqAt.RcNeAt.tuple_list ‹_› ‹_› hu
 ·rename_i as a us p ra bs b ws p' rb;have l1:=ra.len;have l2:=rb.len;rw[<-kzr as bs];have z:=SeqAt.RcNeAt.tuples (A:=A) (s:=s) (e:=pAt as bs) p p' hu (el as bs us ws (.inr rfl) (.inr rfl) ra rb);rw[X5,X5,<-l1,<-l2]at z;exact z
theorem kvc{A:Around}{a a':Addr}{b:Bool}(lp:Value.ref a=Value.ref a'->b=true)(rc:SeqAt.RcAt A s (.ref a) (.ref a') b):SeqAt.EqAt A s (.ref a) (.ref a') b:=by
 by_cases e:a=a'
 ·subst e;rw[lp rfl];exact SeqAt.EqAt.same _
 ·exact SeqAt.EqAt.of_refs e rc
theorem wx5{A:Around}{d d':D}{u w:Value}(hu:A.units<cLine)(r:jw s.heap d u)(r':jw s.heap d' w)(lp:u=w->peq d d'=true)(rc:SeqAt.RcAt A s u w (peq d d')):SeqAt.EqAt A s u w (peq d d'):=by
 cases crv r<;>cases crv r'<;>try unfold peq
 ·exact SeqAt.EqAt.same _
 ·exact SeqAt.EqAt.none_bool _
 ·exact SeqAt.EqAt.none_int _ _
 ·exact SeqAt.EqAt.none_str _ _
 ·exact SeqAt.EqAt.none_list ‹_› hu
 ·exact SeqAt.EqAt.none_tuple ‹_› hu
 ·exact SeqAt.EqAt.bool_none _
 ·exact SeqAt.EqAt.bool_bool _ _
 ·exact SeqAt.EqAt.bool_int _ _ _
 ·exact SeqAt.EqAt.bool_str _ _ _
 ·exact SeqAt.EqAt.bool_list _ ‹_› hu
 ·exact SeqAt.EqAt.bool_tuple _ ‹_› hu
 ·exact SeqAt.EqAt.int_none _ _
 ·exact SeqAt.EqAt.int_bool _ _ _
 ·exact SeqAt.EqAt.int_int _ _ _ _
 ·exact SeqAt.EqAt.int_str _ _ _ _
 ·exact SeqAt.EqAt.int_list _ _ ‹_› hu
 ·exact SeqAt.EqAt.int_tuple _ _ ‹_› hu
 ·exact SeqAt.EqAt.str_none _ _
 ·exact SeqAt.EqAt.str_bool _ _ _
 ·exact SeqAt.EqAt.str_int _ _ _ _
 ·exact SeqAt.EqAt.str_str _ _ _ _
 ·exact SeqAt.EqAt.str_list _ _ ‹_› hu
 ·exact SeqAt.EqAt.str_tuple _ _ ‹_› hu
 ·exact SeqAt.EqAt.list_none ‹_› hu
 ·exact SeqAt.EqAt.list_bool _ ‹_› hu
 ·exact SeqAt.EqAt.list_int _ _ ‹_› hu
 ·exact SeqAt.EqAt.list_str _ _ ‹_› hu
 ·exact kvc lp rc
 ·exact kvc lp rc
 ·exact SeqAt.EqAt.tuple_none ‹_› hu
 ·exact SeqAt.EqAt.tuple_bool _ ‹_› hu
 ·exact SeqAt.EqAt.tuple_int _ _ ‹_› hu
 ·exact SeqAt.EqAt.tuple_str _ _ ‹_› hu
 ·exact kvc lp rc
 ·exact kvc lp rc
theorem Wx:∀(n:Nat) {d d':D} {u w:Value} {A:Around},d.flat n=true->jw s.heap d u->jw s.heap d' w->A.units+n<cLine->SeqAt.EqAt A s u w (peq d d')
 | n,d,d',u,w,A,f,r,r',hu=>by
  refine wx5 ⋯ r r' (λe=>?_) (vzr ⋯ r r' λas bs us ws h1 h2 ra rb=>?_)
  rotate_left
  ·cases n with
   |zero=>rcases h1 with rfl|rfl<;>(unfold D.flat at f;cases f)
   |succ n=>
    have fs:D.flats n as=true:=by rcases h1 with rfl|rfl<;>(unfold D.flat at f;exact f)
    exact kxu ra rb λj d d' u w e1 e2 q1 q2=>Wx n (jxc fs e1) q1 q2 (by have:=L3.in1_units A;omega)
  ·subst e;rw[jzz r' r];exact jx3 f
end
section
variable {X:Cx}{Z:Fx0}{K:Frag}
def wz0(K:Frag):R2:=λx y H Q=>∃d d' as bs,RepL K H true d x as/\RepL K H true d' y bs/\d.flat 40=true/\d'.flat 40=true/\Q (.bl (peq d d')) H
def wxv(K:Frag):R2:=λx y H Q=>∃d d' as bs,RepL K H true d x as/\RepL K H true d' y bs/\d.flat 40=true/\d'.flat 40=true/\Q (.bl (!peq d d')) H
theorem wY(hu:X.A.units+64<cLine)(hK:autoParam (X.K=K) Ŕ):OpR X (compareOp .Eq) (wz0 K):=by
 subst hK;intro pins s O H x y v u Q I rx ry h;obtain⟨d,d',as,bs,h1,h2,f1,f2,q⟩:=h;have c1:=V8 I h1 f1 rx;have c2:=V8 I h2 f2 ry;refine vzr ⋯ c1 c2 (λas bs us ws e1 e2 ra rb=>kxu ra rb λj d d' u w e3 e4 q1 q2=>?_) _ _ _ _ ⟨.bl _,H,I,rfl,q⟩;have fs:D.flats 39 as=true:=by rcases e1 with rfl|rfl<;>(unfold D.flat at f1;exact f1)
 exact Wx 39 (jxc fs e3) q1 q2 (by have:=L3.in1_units X.A;omega)
theorem KQ(hu:X.A.units+64<cLine)(hK:autoParam (X.K=K) Ŕ):OpR X (compareOp .NotEq) (wxv K):=by
 subst hK;intro pins s O H x y v u Q I rx ry h;obtain⟨d,d',as,bs,h1,h2,f1,f2,q⟩:=h;have c1:=V8 I h1 f1 rx;have c2:=V8 I h2 f2 ry;refine wvu ⋯ c1 c2 (λas bs us ws e1 e2 ra rb=>kxu ra rb λj d d' u w e3 e4 q1 q2=>?_) _ _ _ _ ⟨.bl _,H,I,rfl,q⟩;have fs:D.flats 39 as=true:=by rcases e1 with rfl|rfl<;>(unfold D.flat at f1;exact f1)
 exact Wx 39 (jxc fs e3) q1 q2 (by have:=L3.in1_units X.A;omega)
theorem wX:Ad2 K (wz0 K) (pu2 fEq):=by
 intro H x y s Q ox oy hf k;unfold pu2 fEq at hf;dsimp only at hf
 by_cases hc:(x.d.flat 40&&y.d.flat 40)=true
 ·rw[X9 hc]at hf;rw[Bool.and_eq_true]at hc;cases oq9 hf;exact⟨x.d,y.d,x.as,y.as,RepO.wk ox,RepO.wk oy,hc.1,hc.2,k ⟨.dp,.bl _,.bl _,[]⟩ H rfl rfl xv⟩
 ·rw[Xb hc]at hf;cases hf
theorem Kz:Ad2 K (wxv K) (pu2 fNe):=by
 intro H x y s Q ox oy hf k;unfold pu2 fNe at hf;dsimp only at hf
 by_cases hc:(x.d.flat 40&&y.d.flat 40)=true
 ·rw[X9 hc]at hf;rw[Bool.and_eq_true]at hc;cases oq9 hf;exact⟨x.d,y.d,x.as,y.as,RepO.wk ox,RepO.wk oy,hc.1,hc.2,k ⟨.dp,.bl _,.bl _,[]⟩ H rfl rfl xv⟩
 ·rw[Xb hc]at hf;cases hf
end
end Q
namespace Q
open PySem PySem.Spec PyProof.Rows L2 L3
mutual
noncomputable def YW:D->Nat
 |.tup xs=>drwDs xs+1|_=>1
noncomputable def drwDs:List D->Nat
 |[]=>0|a::x=>YW a+drwDs x
end
mutual
theorem qjj:∀{n:Nat} {d:D},jX n d=true->d.flat n=true
 |n,.non,_=>by cases n<;>rfl|n,.bl _,h=>by cases n<;>(unfold jX at h;cases h)|n,.int _,_=>by cases n<;>rfl|n,.str _,h=>by cases n<;>(unfold jX at h;cases h)|0,.tup _,h=>by unfold jX at h;cases h|n+1,.tup xs,h=>by unfold jX at h;unfold D.flat;exact keys_flat h|n,.lst _,h=>by cases n<;>(unfold jX at h;cases h)|n,.dct _,h=>by cases n<;>(unfold jX at h;cases h)|n,.obj _ _,h=>by cases n<;>(unfold jX at h;cases h)
theorem keys_flat:∀{n:Nat} {ds:List D},keyDs n ds=true->D.flats n ds=true
 |_,[],_=>by unfold D.flats;rfl
 |n,a::x,h=>by
  unfold keyDs at h;rw[Bool.and_eq_true]at h;unfold D.flats;rw[qjj h.1,keys_flat h.2];rfl
end
mutual
theorem qwp:∀{n m:Nat} {a b:D},jX n a=true->jX m b=true->peq a b=decide (a=b)
 | n,m,.non,b,_,hb=>by
  cases b with| non=>simp[peq]| int _=>simp[peq]| tup _=>simp[peq]| _=>cases m<;>(unfold jX at hb;cases hb)
 | n,m,.int i,b,_,hb=>by
  cases b with| non=>simp[peq]| int j=>by_cases h:i=j<;>simp[peq,h]| tup _=>simp[peq]| _=>cases m<;>(unfold jX at hb;cases hb)
 | 0,_,.tup _,_,ha,_=>by unfold jX at ha;cases ha
 | n+1,m,.tup xs,b,ha,hb=>by
  cases b with
  | non=>simp[peq]| int j=>simp[peq]
  | tup ys=>
   cases m with
   |zero=>unfold jX at hb;cases hb
   |succ m=>
    unfold jX at ha hb;have:=keys_peq ha hb;rw[show peq (.tup xs) (.tup ys)=peqs xs ys by simp[peq],this]
    by_cases h:xs=ys<;>simp[h]
  |_=>cases m<;>(unfold jX at hb;cases hb)
 |n,_,.bl _,_,ha,_=>by cases n<;>(unfold jX at ha;cases ha)|n,_,.str _,_,ha,_=>by cases n<;>(unfold jX at ha;cases ha)|n,_,.lst _,_,ha,_=>by cases n<;>(unfold jX at ha;cases ha)|n,_,.dct _,_,ha,_=>by cases n<;>(unfold jX at ha;cases ha)|n,_,.obj _ _,_,ha,_=>by cases n<;>(unfold jX at ha;cases ha)
theorem keys_peq:∀{n m:Nat} {a b:List D},keyDs n a=true->keyDs m b=true->peqs a b=decide (a=b)
 |_,_,[],[],_,_=>by simp[peqs]|_,_,[],_::_,_,_=>by simp[peqs]|_,_,_::_,[],_,_=>by simp[peqs]
 |n,m,a::x,b::y,ha,hb=>by
  unfold keyDs at ha hb;rw[Bool.and_eq_true]at ha hb;rw[show peqs (a::x) (b::y)=(peq a b&&peqs x y)by simp[peqs],qwp ha.1 hb.1,keys_peq ha.2 hb.2]
  by_cases h1:a=b<;>by_cases h2:x=y<;>simp[h1,h2]
end
section
variable {prog:Program}{w:PySem.World}{A:Around}{E:Value->Shared->Prop}{s:Shared}
theorem qjo{Q:Int->Shared->Prop}(h:Q 4238894112 { s with toks:=s.toks+1 }):wpAny (model prog w) A (pyHash .none) Q E s:=by
 have ty:s.TypeIs Value.none "NoneType":=rfl;unfold pyHash;unfold pyHashByItsType;refine X0 ?_;rw[cRoomFor,Xb (show ¬([Value.none].any Value.onHeap)=true by decide)];refine X1 (X0 (Z2 ty F.slot_NoneType_hash.lookup ?_));show wpAny _ _ (if(some (Value.builtin "NoneType.__hash__")==some Value.none)=true then _ else _) Q E s;rw[Xb (show ¬(some (Value.builtin "NoneType.__hash__")==some Value.none)=true by rw[beq_builtin_none];exact Bool.false_ne_true)];refine X0 (Z2 ty F.slot_NoneType_hash.lookup ?_);show wpAny _ _ (callSpecialIfBoundUnlessNone? Value.none "__hash__" _ >>= _) Q E s;refine X0 (wpAny_callSpecialIfBoundUnlessNone?_slot ty F.slot_NoneType_hash (Xy F.slot_NoneType_hash ty F.entry_NoneType_hash ?_ (F.args_NoneType_hash_1 _)));show wpAny _ _ (retInt 4238894112) _ _ s;refine wpAny_ret_mkInt ?_;show wpAny _ _ (if(decide (-(2:Int) ^ 63<=(4238894112:Int))&&decide ((4238894112:Int)<2 ^ 63))=true then _ else _) Q E _;rw[X9 ⋯];exact X1 h
theorem kjt{d:D}:∀ds:List D,hashDs (ds++[d])=hashDs ds++[Qx d]
 |[]=>by simp[hashDs]|a::x=>by rw[List.cons_append,hashDs,hashDs,kjt x];rfl
theorem kq5{d:D}:∀ds:List D,drwDs (ds++[d])=drwDs ds+YW d
 |[]=>by simp[drwDs]|a::x=>by rw[List.cons_append,drwDs,drwDs,kq5 x];omega
theorem wq4:∀(n:Nat) {d:D} {u:Value} {A:Around} {s:Shared} {Q:Int->Shared->Prop},jX n d=true->jw s.heap d u->A.units+4*n<cLine->Q (Qx d) { s with toks:=s.toks+YW d }->wpAny (model prog w) A (pyHash u) Q E s:=by
 intro n
 induction n with
 | zero=>
  intro d u A s Q hk hr hu h;cases d with| non=>unfold jw at hr;subst hr;exact qjo h| int i=>unfold jw at hr;obtain⟨t,rfl⟩:=hr;exact wpAny_pyHash_int h| _=>unfold jX at hk;cases hk
 | succ n ih=>
  intro d u A s Q hk hr hu h;cases d with
  | non=>unfold jw at hr;subst hr;exact qjo h| int i=>unfold jw at hr;obtain⟨t,rfl⟩:=hr;exact wpAny_pyHash_int h
  | tup ds=>
   unfold jX at hk;unfold jw at hr;obtain⟨a,us,rfl,ht,hi⟩:=hr;have ty:=ht.typeIs;obtain⟨ob,nj,dy,nn,mw⟩:=ht;unfold pyHash;unfold pyHashByItsType;refine X0 (wpAny_cRoomFor_or (.inr ⋯) ?_);refine X0 (Z2 ty F.slot_tuple_hash.lookup ?_);show wpAny _ _ (if(some (Value.builtin "tuple.__hash__")==some Value.none)=true then _ else _) Q E s;rw [Xb (show ¬(some (Value.builtin "tuple.__hash__")==some Value.none)=true by rw[beq_builtin_none];exact Bool.false_ne_true)];refine X0 (Z2 ty F.slot_tuple_hash.lookup ?_);show wpAny _ _ (callSpecialIfBoundUnlessNone? (Value.ref a) "__hash__" _ >>= _) Q E s;refine X0 (wpAny_callSpecialIfBoundUnlessNone?_slot ty F.slot_tuple_hash (Xy F.slot_tuple_hash ty F.entry_tuple_hash ?_ (F.args_tuple_hash_1 _)));show wpAny _ _ (Builtin.Tuple.tupleItemsOf (Value.ref a) >>= _) _ _ s;refine X0 (wpAny_tupleItemsOf nj mw ?_);refine X0 ?_;rw [<-Array.forIn_toList];refine wpAny_forIn_list _ (λjq (b:Array Int) s'=>∃pre post,ds=pre++post/\keyDs n post=true/\CReps s.heap post jq/\b.toList=hashDs pre/\s'={ s with toks:=s.toks+drwDs pre }) _ ?_ ?_ _ _ ⟨[],ds,rfl,hk,hi,rfl,rfl⟩
   ·rintro x jq b s' ⟨pre,post,rfl,hkp,hl,hb,rfl⟩;cases post with
    | nil=>unfold CReps at hl;cases hl
    | cons d post=>
     unfold CReps at hl;obtain⟨u1,r1,e1,h1,h2⟩:=hl;injection e1 with e1 e2;subst e1 e2;unfold keyDs at hkp;rw[Bool.and_eq_true]at hkp;have ru:A.in1.units+4*n<cLine:=by show A.units+1+4*n<cLine;omega
     have fin:∃p q,pre++d::post=p++q/\keyDs n q=true/\CReps s.heap q jq/\(b.push (Qx d)).toList=hashDs p/\({ s with toks:=s.toks+drwDs pre+YW d }:Shared)={ s with toks:=s.toks+drwDs p }:=
      ⟨pre++[d],post,by simp,hkp.2,h2,by rw[kjt,<-hb];simp,by rw[kq5,Nat.add_assoc]⟩
     refine X0 (ih hkp.1 h1 ru ?_)
     first
      |exact X1 fin
      |exact X0 (X1 (X1 fin))
   ·rintro b s' ⟨pre,post,rfl,hkp,hl,hb,rfl⟩;have:post=[]:=by
     cases post with|nil=>rfl|cons d post=>unfold CReps at hl;obtain⟨_,_,z,_⟩:=hl;cases z
    subst this;rw[Xw]at h;show wpAny _ _ (retInt (Builtin.Tuple.tupleHashOf b.toList)) _ _ _;rw[hb];refine wpAny_ret_mkInt ?_;generalize hv:Builtin.Tuple.tupleHashOf (hashDs pre)=v;have h:Q (reduceHash v) { s with toks:=s.toks+drwDs pre+1 }:=by rw[<-hv];unfold Qx YW at h;rw[Nat.add_assoc];exact h
    show wpAny _ _ (if(decide (-(2:Int) ^ 63<=v)&&decide (v<2 ^ 63))=true then _ else _) Q E _;unfold reduceHash at h
    by_cases hq:(decide (-(2:Int) ^ 63<=v)&&decide (v<2 ^ 63))=true
    ·rw[X9 hq]at h ⊢;exact X1 h
    ·rw[Xb hq]at h ⊢;exact X0 (Z8 (X1 h))
  |_=>unfold jX at hk;cases hk
theorem vv8:∀(n m:Nat) {d:D} {u:Value} {A:Around} {s:Shared} {Q:Bool->Shared->Prop},n<=m->jX n d=true->jw s.heap d u->Q true s->wpAny (model prog w) A (eqIsQuiet m u) Q E s:=by
 have byv:∀(m:Nat) {v:Value} {A:Around} {s:Shared} {Q:Bool->Shared->Prop},carriedByValue v=true->Q true s->wpAny (model prog w) A (eqIsQuiet m v) Q E s:=λm v A s Q hv h=>by
  rw [eqIsQuiet_byValue m hv];exact X1 h
 intro n
 induction n with
 | zero=>
  intro m d u A s Q _ hk hr h;cases d with| non=>unfold jw at hr;subst hr;exact byv m rfl h| int i=>unfold jw at hr;obtain⟨t,rfl⟩:=hr;exact byv m rfl h| _=>unfold jX at hk;cases hk
 | succ n ih=>
  intro m d u A s Q hm hk hr h;cases d with
  | non=>unfold jw at hr;subst hr;exact byv m rfl h| int i=>unfold jw at hr;obtain⟨t,rfl⟩:=hr;exact byv m rfl h
  | tup ds=>
   unfold jX at hk;unfold jw at hr;obtain⟨a,us,rfl,ht,hi⟩:=hr;have ty:=ht.typeIs;obtain⟨ob,nj,dy,nn,mw⟩:=ht;cases m with
   | zero=>omega
   | succ m=>
    unfold eqIsQuiet;refine X0 (Z2 ty F.slot_tuple_eq.lookup ?_);show wpAny _ _ (isInstance (Value.ref a) (.type "tuple") >>= _) _ _ s;refine X0 (wpAny_isInstance ty isSubtype_tuple_tuple ?_);simp only[Bool.not_true,Bool.false_eq_true,if_false];refine X0 (wpAny_seqItems nj mw (X0 ?_));show wpAny _ _ (forIn us.toArray _ _) _ _ s;rw[<-Array.forIn_toList];refine wpAny_forIn_list _ (λjq r s'=>r.1=none/\s'=s/\∃post,keyDs n post=true/\CReps s.heap post jq) _ ?_ ?_ _ _ ⟨rfl,rfl,ds,hk,hi⟩
    ·rintro v jq r s' ⟨hr,rfl,post,hkp,hl⟩;cases post with
     |nil=>unfold CReps at hl;cases hl
     |cons d post=>
      unfold CReps at hl;obtain⟨u1,r1,e1,h1,h2⟩:=hl;injection e1 with e1 e2;subst e1 e2;unfold keyDs at hkp;rw[Bool.and_eq_true]at hkp;refine X0 (ih m ⋯ hkp.1 h1 ?_);simp only[Bool.not_true,Bool.false_eq_true,if_false];exact X1 ⟨rfl,rfl,post,hkp.2,h2⟩
    ·rintro ⟨r1,r2⟩ s' ⟨hr,rfl,_⟩;simp only at hr;subst hr;exact X1 h
  |_=>unfold jX at hk;cases hk
end
mutual
theorem kq6{h h':Heap}{x:Addr}{o:Obj}{es:Array DictEntry}{ep:Nat}(ho:h.get? x=some o)(hd:o.data=.dict es ep)(hs:Heap.SameBut x h h'):∀{n:Nat} {d:D} {u:Value},jX n d=true->jw h d u->jw h' d u
 | _,.non,_,_,r=>by unfold jw at r ⊢;exact r| n,.bl _,_,hk,_=>by cases n<;>(unfold jX at hk;cases hk)| _,.int _,_,_,r=>by unfold jw at r ⊢;exact r| n,.str _,_,hk,_=>by cases n<;>(unfold jX at hk;cases hk)| 0,.tup _,_,hk,_=>by unfold jX at hk;cases hk
 | n+1,.tup ds,_,hk,r=>by
  unfold jX at hk;unfold jw at r ⊢;obtain⟨a,us,e,⟨ob,nj,hc,nn,mw⟩,hi⟩:=r;have bj:a≠x:=by
   rintro rfl;rw[ho]at nj;cases nj;rw[hd]at mw;cases mw
  exact⟨a,us,e,⟨ob,(hs.2 a bj).trans nj,hc,nn,mw⟩,creps_keeps ho hd hs hk hi⟩
 |n,.lst _,_,hk,_=>by cases n<;>(unfold jX at hk;cases hk)|n,.dct _,_,hk,_=>by cases n<;>(unfold jX at hk;cases hk)|n,.obj _ _,_,hk,_=>by cases n<;>(unfold jX at hk;cases hk)
theorem creps_keeps{h h':Heap}{x:Addr}{o:Obj}{es:Array DictEntry}{ep:Nat}(ho:h.get? x=some o)(hd:o.data=.dict es ep)(hs:Heap.SameBut x h h'):∀{n:Nat} {ds:List D} {us:List Value},keyDs n ds=true->CReps h ds us->CReps h' ds us
 |_,[],_,_,r=>by unfold CReps at r ⊢;exact r
 |n,d::ds,_,hk,r=>by
  unfold keyDs at hk;rw[Bool.and_eq_true]at hk;unfold CReps at r ⊢;obtain⟨u,rr,e,h1,h2⟩:=r;exact⟨u,rr,e,kq6 ho hd hs hk.1 h1,creps_keeps ho hd hs hk.2 h2⟩
end
noncomputable def kzs(prog:Program)(w:PySem.World):HeapKind prog w Kd where
 is:=λh k a=>jw h k.1 (.ref a)
 hash:=λk=>Qx k.1
 draws:=λk=>YW k.1
 room:=λA=>A.units+40<cLine
 inj:=λhx hy=>Subtype.ext (jzz hx hy)
 keeps:=fun {h h' k a d o es ep} x ho hd hs=>kq6 ho hd hs k.2 x
 pyHash:=fun {A E s k a Q} hu hk h=>wq4 6 k.2 hk (Nat.lt_of_le_of_lt (Nat.add_le_add_left ⋯ _) hu) h
 eqBool:=fun {A E s x y a b Q} hu hx hy h=>by
  have e:peq x.1 y.1=decide (x=y):=by
   rw[qwp x.2 y.2]
   by_cases z:x=y
   ·rw[Xl z,Xl (congrArg Subtype.val z)]
   ·rw[Xh z,Xh λq=>z (Subtype.ext q)]
  have:=Wx (s:=s) 6 (A:=A) (qjj x.2) hx hy (Nat.lt_of_le_of_lt (Nat.add_le_add_left ⋯ _) hu);rw[e]at this;exact this prog w E Q h
 quiet:=fun {A E s k a Q} hk h=>vv8 6 8 ⋯ k.2 hk h
abbrev Sl.sd(x:Sl):Sd:=(x.o,x.d)
def tA(Z:Fx0)(q:Bool)(cs:List Ex):TA:=fun O H Q=>∃E L r,Mt E O L/\World Z.K H L/\qJ cs E=some r/\Xc Z O H L r /\
 ∀E' ys,r=.ok E' ys->∀(xs:List Sl) L' H',xs.map Sl.sd=ys->Mt E' O L'->World Z.K H' (xs.map some++L')->Step H L H' (xs.map some++L')->(q=true->k4 H H'/\∀b∈j8 (xs.map some),H b=none)->Q (xs.map Sl.v) H'
def QA(X:Cx)(Z:Fx0)(q:Bool)(cs:List Ex)(es:List Expr):Prop:=PA X es (tA Z q cs)
theorem W1{X:Cx}{es:List Expr}{t t':TA}(h:PA X es t)(w:∀ O H Q,t' O H Q->t O H Q):PA X es t':=λpos pins s O H Q I q=>h pos pins s O H Q I (w O H Q q)
section
variable {X:Cx}{Z:Fx0}{pn:List Nat}{q:Bool}{c:Ex}{cs:List Ex}{e:Expr}{es:List Expr}{pos:Pos}{O:L2.St}{H:Hp}{L:Ls}{E:En}
theorem jv:QA X Z true [] []:=W1 wW fun O H Q az=>ex8 az λE L r m w hc xc k=>by
 cases oq9 hc;exact k _ _ rfl [] L H rfl m w Step.refl λ_=>⟨λ_ _ z=>z,λ_ z=>(nomatch z)⟩
theorem j3(h:QE X Z q c e)(hs:QA X Z q cs es)(cb:autoParam (starEach (e::es) X.env=(false,eval e X.env)::starEach es X.env) Ŕ):QA X Z q (c::cs) (e::es):=
 W1 (qY h hs cb) fun O H Q az=>ex8 az λE L r m w hc xc k=>by
  refine WK m w (show bnd (c E) _=some r from hc) xc λE1 s h1 x L1 H1 e1 e2 m1 w1 st sm=>?_
  have s1:Step H L H1 L1:=st.trans Step.drop;rcases xw h1 with⟨E2,ys,h2,h3⟩|⟨E2,cc,h2,h3⟩
  ·cases oq9 h3;refine⟨E1,L1,_,m1,w1.tail,h2,(λ_ _ z=>by cases z),λE' p9 z xs L2 H2 e3 m2 w2 bo dj=>?_⟩;injection z with z1 z2;subst z1 z2;obtain⟨w3,de⟩:=wq2 (T:=[some x]) w1 bo w2;refine k _ _ rfl (x::xs) L2 H2 (by rw[List.map_cons,e3];simp[Sl.sd,e1,e2]) m2 w3 (st.trans de) λhq=>?_
   obtain⟨a1,a2⟩:=sm hq;obtain⟨b1,b2⟩:=dj hq;refine⟨qw a1 b1,λb hb=>?_⟩;rw[List.map_cons,kJ]at hb;rcases aA hb with z|z
   ·exact a2 b z
   ·exact z9 a1 (b2 b z)
  ·exact⟨E1,L1,_,m1,w1.tail,h2,(xc.step s1).map h3,λE' s' z=>by cases z⟩
end
section
variable {X:Cx}{Z:Fx0}{q:Bool}{cs:List Ex}{es:List Expr}{pos:Pos}{O:L2.St}{H:Hp}{L:Ls}{E:En}{α:Type}
theorem ZW:∀{cs:List Ex} {E E':En} {ys:List Sd},qJ cs E=some (.ok E' ys)->ys.length=cs.length
 | [],E,E',ys,h=>by cases oq9 h;rfl
 | c::cs,E,E',ys,h=>by
  rcases xw (show bnd (c E) _=some _ from h)with⟨E1,x,h1,h2⟩|⟨_,_,_,z⟩
  ·rcases xw h2 with⟨E2,xs,h3,h4⟩|⟨_,_,_,z⟩
   ·cases oq9 h4;rw[Xv,Xv,ZW h3]
   ·cases z
  ·cases z
theorem vxl{F:En->List Sd->Option (Res α)}{r:Res α}{G:List V->Hp->Prop}(m:Mt E O L)(w:World Z.K H L)(h:bnd (qJ cs E) F=some r)(xc:Xc Z O H L r)
  (k:∀E1 ys,F E1 ys=some r->ys.length=cs.length->∀(xs:List Sl) L1 H1,xs.map Sl.sd=ys->Mt E1 O L1->World Z.K H1 (xs.map some++L1)->Step H L H1 (xs.map some++L1)->(q=true->k4 H H1/\∀b∈j8 (xs.map some),H b=none)->G (xs.map Sl.v) H1):tA Z q cs O H G:=by
 rcases xw h with⟨E1,s,h1,h2⟩|⟨E1,c,h1,h2⟩
 ·exact⟨E,L,_,m,w,h1,(λ_ _ z=>by cases z),λE' s' z xs L' H' e1 m' w' st sm=>by
   injection z with z1 z2;subst z1 z2;exact k _ _ h2 (ZW h1) xs L' H' e1 m' w' st sm⟩
 ·exact⟨E,L,_,m,w,h1,xc.map h2,λE' s' z=>by cases z⟩
theorem jwd{K:Frag}{H:Hp}(g:Bool):∀{xs:List Sl},(∀x∈xs,x.ok K H)->(g=false->∀x∈xs,xX x.sd=true)->∃bs,RepA K H g (xs.map Sl.d) (xs.map Sl.v) bs/\(∀b∈bs,∃x∈xs,b∈x.as)/\(g=false->bs=j8 (xs.map some))/\(g=true->bs=xs.flatMap Sl.as)
 | [],_,_=>⟨[],by unfold RepA;exact⟨rfl,rfl⟩,λ_ h=>(nomatch h),λ_=>rfl,λ_=>rfl⟩
 | x :: xs,h,ht=>by
  obtain⟨bs,r,hb,ho,hg⟩:=jwd g (xs:=xs) (λy hy=>h y (lc9 _ hy)) λhg y hy=>ht hg y (lc9 _ hy)
  have hx:=h x X7;have key:∃cs,RepL K H g x.d x.v cs/\(∀b∈cs,b∈x.as)/\(g=false->cs=x.own)/\(g=true->cs=x.as):=by
   cases g with
   | true=>exact⟨x.as,RepO.wk hx,λb hb=>hb,(λz=>by cases z),λ_=>rfl⟩
   | false=>
    have t:=ht rfl x X7;unfold xX at t
    by_cases ho:x.o=.dp
    ·refine⟨x.as,?_,λb hb=>hb,λ_=>?_,λz=>by cases z⟩
     ·have:=hx;unfold Sl.ok at this;rw[ho]at this;exact this
     ·unfold Sl.own;rw[ho]
    ·have hp:x.d.pure=true:=by
      rcases Bool.or_eq_true_iff.mp t with z|z
      ·exact absurd (by simpa using z) ho
      ·exact z
     obtain⟨z,rp⟩:=RepL.pu (g':=false) (RepO.wk hx) hp;exact⟨[],rp,λ_ h=>(nomatch h),λ_=>(vvx z).symm,λz=>by cases z⟩
  obtain⟨cs,r1,h1,h2,h3⟩:=key;refine⟨cs++bs,?_,λb dm=>?_,λng=>?_,λng=>?_⟩
  ·rw[List.map_cons,List.map_cons];unfold RepA;exact⟨x.v,xs.map Sl.v,cs,bs,rfl,rfl,r1,r⟩
  ·rcases aA dm with z|z
   ·exact⟨x,X7,h1 b z⟩
   ·obtain⟨y,hy,hby⟩:=hb b z;exact⟨y,lc9 _ hy,hby⟩
  ·rw[List.map_cons,kJ,h2 ng,ho ng]
  ·rw[List.flatMap_cons,h3 ng,hg ng]
theorem vjg{K:Frag}{H:Hp}{p:Addr}{xs:List Sl}{L:Ls}(w:World K H (xs.map some++L))(hp:H p=none):
  ∃bs,World K (upd H p (.lst (xs.map Sl.v))) (some ⟨.rt,.lst (xs.map Sl.d),.ref p,p::bs⟩::L)/\Step H (xs.map some++L) (upd H p (.lst (xs.map Sl.v))) (some ⟨.rt,.lst (xs.map Sl.d),.ref p,p::bs⟩::L):=by
 obtain⟨bs,r,hb,_,_⟩:=jwd true (xs:=xs) (λx hx=>w.ok x (ll9 _ (Xk hx))) (λz=>by cases z);have ap:∀b∈bs,b∉j8 L:=λb dm hL=>by
  obtain⟨x,hx,gj⟩:=hb b dm;rcases Sl.as_of gj with z|z
  ·have nd:=w.nd;rw[jW,Xd]at nd;exact nd.2.2 b (mem_owned.mpr ⟨x,Xk hx,z⟩) b hL rfl
  ·exact w.ds b (by rw[jW];exact lr9 _ hL) (by rw[kX];exact ll9 _ (mem_frozen.mpr ⟨x,Xk hx,z⟩))
 have al:∀b∈bs,H b≠none:=λb dm=>by
  obtain⟨x,hx,gj⟩:=hb b dm;exact(w.ok x (ll9 _ (Xk hx))).some gj
 have sr:Src H (xs.map some++L) bs:=λb dm=>by
  obtain⟨x,hx,gj⟩:=hb b dm;rcases Sl.as_of gj with z|z
  ·exact .inr (.inl (by rw[jW];exact ll9 _ (mem_owned.mpr ⟨x,Xk hx,z⟩)))
  ·exact .inl (by rw[kX];exact ll9 _ (mem_frozen.mpr ⟨x,Xk hx,z⟩))
 have o:Out K H (upd H p (.lst (xs.map Sl.v))) ⟨.rt,.lst (xs.map Sl.d),.ref p,p::bs⟩ bs:=V2 hp r λb hb=>hb
 have st:Step H (xs.map some++L) H L:=⟨λ_ _ h _=>h,λa ha=>.inl (by rw[jW];exact lr9 _ ha),λa ha=>.inl (by rw[kX];exact lr9 _ ha)⟩;exact⟨bs,Q1 (Z:=⟨K,λ_=>none,λ_ _ _=>True⟩) w.right st o ap al sr⟩
theorem vjf{K:Frag}{H:Hp}{p:Addr}{xs:List Sl}{L:Ls}(w:World K H (xs.map some++L))(hp:H p=none):
  ∃bs,World K (upd H p (.tup (xs.map Sl.v))) (some ⟨.no,.tup (xs.map Sl.d),.ref p,bs⟩::L)/\Step H (xs.map some++L) (upd H p (.tup (xs.map Sl.v))) (some ⟨.no,.tup (xs.map Sl.d),.ref p,bs⟩::L):=by
 obtain⟨bs,r,hb,_,_⟩:=jwd true (xs:=xs) (λx hx=>w.ok x (ll9 _ (Xk hx))) (λz=>by cases z);have ap:∀b∈bs,b∉j8 L:=λb dm hL=>by
  obtain⟨x,hx,gj⟩:=hb b dm;rcases Sl.as_of gj with z|z
  ·have nd:=w.nd;rw[jW,Xd]at nd;exact nd.2.2 b (mem_owned.mpr ⟨x,Xk hx,z⟩) b hL rfl
  ·exact w.ds b (by rw[jW];exact lr9 _ hL) (by rw[kX];exact ll9 _ (mem_frozen.mpr ⟨x,Xk hx,z⟩))
 have al:∀b∈bs,H b≠none:=λb dm=>by
  obtain⟨x,hx,gj⟩:=hb b dm;exact(w.ok x (ll9 _ (Xk hx))).some gj
 have sr:Src H (xs.map some++L) bs:=λb dm=>by
  obtain⟨x,hx,gj⟩:=hb b dm;rcases Sl.as_of gj with z|z
  ·exact .inr (.inl (by rw[jW];exact ll9 _ (mem_owned.mpr ⟨x,Xk hx,z⟩)))
  ·exact .inl (by rw[kX];exact ll9 _ (mem_frozen.mpr ⟨x,Xk hx,z⟩))
 have o:Out K H (upd H p (.tup (xs.map Sl.v))) ⟨.no,.tup (xs.map Sl.d),.ref p,bs⟩ bs:=kjd hp r λb hb=>hb
 have st:Step H (xs.map some++L) H L:=⟨λ_ _ h _=>h,λa ha=>.inl (by rw[jW];exact lr9 _ ha),λa ha=>.inl (by rw[kX];exact lr9 _ ha)⟩;exact⟨bs,Q1 (Z:=⟨K,λ_=>none,λ_ _ _=>True⟩) w.right st o ap al sr⟩
theorem qwc{K:Frag}{H H':Hp}{xs:List Sl}{L:Ls}{d:D}{v:V}{ps:List Addr}(w:World K H (xs.map some++L))(ht:∀x∈xs,xX x.sd=true)(hp:∀b∈ps,H b=none)(nd:ps.Nodup)(sm:k4 H H')
  (rep:∀bs,RepA K H false (xs.map Sl.d) (xs.map Sl.v) bs->RepL K H' false d v (ps++bs)):
  World K H' (some ⟨.dp,d,v,ps++j8 (xs.map some)⟩::L)/\Step H (xs.map some++L) H' (some ⟨.dp,d,v,ps++j8 (xs.map some)⟩::L):=by
 obtain⟨bs,r,hb,ho,_⟩:=jwd false (xs:=xs) (λx hx=>w.ok x (ll9 _ (Xk hx))) (λ_=>ht);have e:=ho rfl;subst e;have w2:World K H' (xs.map some++L):=⟨λx hx=>RepO.kp (w.ok x hx) (Kp.of_same sm),w.nd,w.ds⟩;have ndx:=w.nd;rw[jW,Xd]at ndx;have al:∀b∈j8 (xs.map some),H b≠none:=λb hb=>w.own_some (by rw[jW];exact ll9 _ hb)
 refine⟨w2.right.cons (x:=⟨.dp,d,v,ps++j8 (xs.map some)⟩) (rep _ r) ?_ (λa ha hL=>?_) (λa ha hf=>?_) (λa ha=>(nomatch ha)) (λa ha=>λz=>(nomatch z)),⟨λa ob h _=>sm a ob h,λa ha=>?_,λa ha=>?_⟩⟩
 ·show(ps++j8 (xs.map some)).Nodup;rw[Xd];exact⟨nd,ndx.1,λa ha b hb e=>by subst e;exact al a hb (hp a ha)⟩
 ·rcases aA (show a∈ps++j8 (xs.map some)from ha)with z|z
  ·exact w.own_some (by rw[jW];exact lr9 _ hL) (hp a z)
  ·exact ndx.2.2 a z a hL rfl
 ·rcases aA (show a∈ps++j8 (xs.map some)from ha)with z|z
  ·exact w.frz_some (by rw[kX];exact lr9 _ hf) (hp a z)
  ·exact w.ds a (by rw[jW];exact ll9 _ z) (by rw[kX];exact lr9 _ hf)
 ·rw[kJ]at ha;rcases aA ha with z|z
  ·rcases aA (show a∈ps++j8 (xs.map some)from z)with y|y
   ·exact .inr (hp a y)
   ·exact .inl (by rw[jW];exact ll9 _ y)
  ·exact .inl (by rw[jW];exact lr9 _ z)
 ·rw[vY]at ha;exact .inl (by rw[kX];exact lr9 _ ha)
theorem wv5{xs:List Sl}{ys:List Sd}(h:xs.map Sl.sd=ys):xs.map Sl.d=ys.map (·.2):=by rw[<-h,Xs];rfl
theorem kzy{xs:List Sl}{ys:List Sd}(h:xs.map Sl.sd=ys)(ht:ys.all xX=true):∀x∈xs,xX x.sd=true:=λx hx=>by
 rw[<-h,List.all_map,Ze]at ht;exact ht x hx
theorem qje{o:Own}{xs:List Sl}{ys:List Sd}{E':En}{r:Res Sd}{L':Ls}{H1:Hp}{Q:VK}{Hq:Hp}{Lq:Ls}(h:mkL o E' ys=some r)(e:xs.map Sl.sd=ys)(w:World Z.K H1 (xs.map some++L'))(st:Step Hq Lq H1 (xs.map some++L'))(sm:q=true->k4 Hq H1/\∀b∈j8 (xs.map some),Hq b=none)
  (k:∀E'' a,r=.ok E'' a->∀(x:Sl) L'' H',x.o=a.1->x.d=a.2->Mt E'' O L''->World Z.K H' (some x::L'')->Step Hq Lq H' (some x::L'')->(q=true->k4 Hq H'/\∀b∈x.own,Hq b=none)->Q x.v H') (m:Mt E' O L'):
  ∀ p,H1 p=none->Q (.ref p) (upd H1 p (.lst (xs.map Sl.v))):=by
 intro p hp;unfold mkL at h
 by_cases ho:o=.dp
 ·rw[X9 ho]at h
  by_cases ht:ys.all xX=true
  ·rw[X9 ht]at h;cases oq9 h;obtain⟨w2,s2⟩:=qwc (d:=.lst (xs.map Sl.d)) (v:=.ref p) (ps:=[p]) w (kzy e ht) (λb hb=>by rw[aC hb];exact hp) (by simp) (vw (o:=.lst (xs.map Sl.v)) hp) (λbs r=>by
    unfold RepL;exact⟨p,_,bs,rfl,r.kp (Kp.of_same (vw hp)),.inl ⟨wJ,rfl⟩⟩)
   refine k _ _ rfl ⟨.dp,.lst (xs.map Sl.d),.ref p,_⟩ L' _ rfl (by rw[wv5 e]) m w2 (st.trans s2) λhq=>⟨qw (sm hq).1 (vw hp),λb hb=>?_⟩
   rcases aA (show b∈[p]++j8 (xs.map some)from hb)with z|z
   ·rw[aC z];exact z9 (sm hq).1 hp
   ·exact(sm hq).2 b z
  ·rw[Xb ht]at h;cases h
 ·rw[Xb ho]at h;cases oq9 h;obtain⟨bs,w2,s2⟩:=vjg w hp;refine k _ _ rfl ⟨.rt,.lst (xs.map Sl.d),.ref p,p::bs⟩ L' _ rfl (by rw[wv5 e]) m w2 (st.trans s2) λhq=>⟨qw (sm hq).1 (vw hp),λb hb=>?_⟩
  have:b=p:=by simpa [Sl.own]using hb
  rw[this];exact z9 (sm hq).1 hp
theorem vz8{xs:List Sl}{ys:List Sd}{n:Nat}(h:xs.map Sl.sd=ys)(hl:ys.length=n)(hz:n<=1000):(xs.map Sl.v).length<=sizeLine:=by
 have:xs.length=n:=by rw[<-hl,<-h,X4]
 rw[X4,this];exact Y2 hz ⋯
theorem vq{o:Own}(h:QA X Z q cs es)(hz:autoParam (cs.length<=1000) ŕ):QE X Z q (kw o cs) (.List es pos):=qk (wjw h) fun O H Q az=>ex8 az λE L r m w hc xc k=>
 vxl m w (show bnd (qJ cs E) _=some r from hc) xc λE1 ys h1 hl xs L1 H1 e1 m1 w1 st sm=>⟨vz8 e1 hl hz,qje (o:=o) (E':=E1) (ys:=ys) (by unfold mkL;exact h1) e1 w1 st sm k m1⟩
theorem qz{o:Own}{x1}(h:QA X Z q cs es)(hz:autoParam (cs.length<=1000) ŕ):QE X Z q (kK o cs) (.Tuple es x1 pos):=qk (vkx h) fun O H Q az=>ex8 az λE L r m w hc xc k=>
 vxl m w (show bnd (qJ cs E) _=some r from hc) xc λE1 ys h1 hl xs L1 H1 e1 m1 w1 st sm=>⟨vz8 e1 hl hz,λp hp=>by
  by_cases ho:o=.dp
  ·rw[X9 ho]at h1
   by_cases ht:ys.all xX=true
   ·rw[X9 ht]at h1;cases oq9 h1;obtain⟨w2,s2⟩:=qwc (d:=.tup (xs.map Sl.d)) (v:=.ref p) (ps:=[]) w1 (kzy e1 ht) (λb hb=>(nomatch hb)) (by simp) (vw (o:=.tup (xs.map Sl.v)) hp) (λbs r=>by
     unfold RepL;exact⟨p,_,rfl,SqT.of wJ,r.kp (Kp.of_same (vw hp))⟩)
    exact k _ _ rfl ⟨.dp,.tup (xs.map Sl.d),.ref p,_⟩ L1 _ rfl (by rw[wv5 e1]) m1 w2 (st.trans s2) λhq=>⟨qw (sm hq).1 (vw hp),λb hb=>(sm hq).2 b hb⟩
   ·rw[Xb ht]at h1;cases h1
  ·rw[Xb ho]at h1;cases oq9 h1;obtain⟨bs,w2,s2⟩:=vjf w1 hp;exact k _ _ rfl ⟨.no,.tup (xs.map Sl.d),.ref p,bs⟩ L1 _ rfl (by rw[wv5 e1]) m1 w2 (st.trans s2) λhq=>⟨qw (sm hq).1 (vw hp),λb hb=>(nomatch hb)⟩⟩
end
noncomputable def spF(K:Frag)(mg:Str->Option Value)(n:Nat)(f:Fn):Sp:=λvs H Q E=>∃(xs:List Sl) (r:Res Sd),vs=xs.map Sl.v/\xs.length=n/\World K H (xs.map some)/\f (xs.map Sl.sd)=some r /\
 (∀E' c,r=.exc E' c->∀C H',mg c=some (.ref C)->Step H (xs.map some) H' []->E (.ref C) none H') /\
 ∀E' a,r=.ok E' a->∀(x:Sl) H',x.o=a.1->x.d=a.2->World K H' [some x]->Step H (xs.map some) H' [some x]->Q x.v H'
theorem v7{K:Frag}{mg:Str->Option Value}{n:Nat}{f:Fn}{ps:List Str}(hn:ps.length=n):∀vs H Q E,spF K mg n f vs H Q E->vs.length=ps.length:=λvs H Q E ⟨xs,r,e,hl,_⟩=>by rw[e,X4,hl,hn]
theorem jzx:∀(xs:List Sl) (k:Nat),Mt (xs.map (λx=>some x.sd)++List.replicate k none) (xs.map (λx=>some x.v)++List.replicate k none) (xs.map some++List.replicate k none)
 |[],0=>.nil
 |[],k+1=>by
  rw[List.map_nil,List.map_nil,List.map_nil,List.replicate_succ,List.replicate_succ,List.replicate_succ];exact .un (jzx [] k)
 |x::xs,k=>.cons (x:=x) (jzx xs k)
theorem v8{X:Cx}{K:Frag}{mg:Str->Option Value}{N:List Str}{n nn:Nat}{B:Sm}{body:List Stmt}{H:Hp}{vs:List V}{Q:VK}{E:XK}(hN:N.length=nn)(t:QSs X ⟨K,mg,E⟩ [] B body)(h:spF K mg n (fn nn B) vs H Q E):
  ∃t,PSs X body t/\t { nx:=λ_ H'=>Q .non H',rt:=Q } (L2.start N vs) H:=by
 refine⟨_,t,?_⟩;obtain⟨xs,r,rfl,hl,w,hf,hx,hk⟩:=h;unfold fn at hf;rw[X4,Xs]at hf;have m:=jzx xs (nn - xs.length);have e1:L2.start N (xs.map Sl.v)=xs.map (λx=>some x.v)++List.replicate (nn - xs.length) none:=by
  unfold L2.start;rw[Xs,X4,hN];rfl
 have wL:World K H (xs.map some++List.replicate (nn - xs.length) none):=w.same (by simp);have sL:Step H (xs.map some) H (xs.map some++List.replicate (nn - xs.length) none):=Step.refl.same (List.Perm.refl _) (by simp);cases hB:B (xs.map (λx=>some x.sd)++List.replicate (nn - xs.length) none)with
 | none=>rw[show(some∘Sl.sd)=(λx:Sl=>some x.sd)from rfl,hB]at hf;cases hf
 | some g=>
  rw[show(some∘Sl.sd)=(λx:Sl=>some x.sd)from rfl,hB]at hf;refine⟨_,_,g,e1▸m,wL,hB,?_⟩;cases g with
  |nx E1=>
   cases oq9 hf;intro σ' L' H' _ m' w' s';exact hk _ _ rfl ⟨.dp,.non,.non,[]⟩ H' rfl rfl (World.consPu (x:=⟨.dp,.non,.non,[]⟩) (L:=[]) ⟨λ_ z=>(nomatch z),Y6,λ_ z=>(nomatch z)⟩ (show RepL K H' false .non .non []from kxm) rfl) (Jz (x:=⟨.dp,.non,.non,[]⟩) ((sL.trans s').sub (by simp)) (λb hb=>(nomatch hb)) rfl)
  |rt E1 a=>
   cases oq9 hf;intro x σ' L' H' e2 e3 _ m' w' s';exact hk _ _ rfl x H' e2 e3 (w'.sub (by simp)) ((sL.trans s').sub (by simp))
  |xc E1 c=>
   cases oq9 hf;intro C σ' L' H' hm _ m' w' s';exact hx _ _ rfl C H' hm ((sL.trans s').sub (by simp))
  |ct E1=>cases hf|bk E1=>cases hf
section
variable {X:Cx}{Z:Fx0}{q:Bool}{cs:List Ex}{e:Expr}{es:List Expr}{pos p:Pos}{x:Str}{ps:List Str}{k n:Nat}{f:Fn}
theorem K9:∀xs:List Sl,j8 ((xs.map Sl.let).map some)=[]
 |[]=>rfl|x::xs=>by rw[List.map_cons,List.map_cons,kJ,K9 xs];rfl
theorem jww:∀xs:List Sl,jZ ((xs.map Sl.let).map some)=xs.flatMap Sl.as
 |[]=>rfl|x::xs=>by rw[List.map_cons,List.map_cons,vY,jww xs,List.flatMap_cons];rfl
theorem kv3(xs:List Sl):(xs.map Sl.let).map Sl.sd=letAll (xs.map Sl.sd):=by
 unfold letAll;rw[Xs,Xs];rfl
theorem jxp{K:Frag}{H:Hp}{xs:List Sl}{L:Ls}(w:World K H (xs.map some++L)):World K H ((xs.map Sl.let).map some++L)/\Step H (xs.map some++L) H ((xs.map Sl.let).map some++L):=by
 have nd:=w.nd;rw[jW,Xd]at nd;have cl:∀a∈xs.flatMap Sl.as,a∈j8 (xs.map some)\/a∈jZ (xs.map some):=λa ha=>by
  obtain⟨x,hx,hax⟩:=List.mem_flatMap.mp ha;exact(Sl.as_of hax).imp (λz=>mem_owned.mpr ⟨x,Xk hx,z⟩) λz=>mem_frozen.mpr ⟨x,Xk hx,z⟩
 refine⟨⟨λx hx=>?_,by rw[jW,K9];exact nd.2.1,λa ha hf=>?_⟩,λ_ _ h _=>h,λa ha=>?_,λa ha=>?_⟩
 ·rcases aA hx with hx|hx
  ·obtain⟨y,hy,e⟩:=aE hx;cases e;obtain⟨z,hz,rfl⟩:=aE hy;exact V1 (w.ok z (ll9 _ (Xk hz)))
  ·exact w.ok x (lr9 _ hx)
 ·rw[jW,K9]at ha;rw[kX,jww]at hf;rcases aA hf with z|z
  ·rcases cl a z with z|z
   ·exact nd.2.2 a z a ha rfl
   ·exact w.ds a (by rw[jW];exact lr9 _ ha) (by rw[kX];exact ll9 _ z)
  ·exact w.ds a (by rw[jW];exact lr9 _ ha) (by rw[kX];exact lr9 _ z)
 ·rw[jW,K9]at ha;exact .inl (by rw[jW];exact lr9 _ ha)
 ·rw[kX,jww]at ha;rw[kX,jW];rcases aA ha with z|z
  ·rcases cl a z with z|z
   ·exact .inr (.inl (ll9 _ z))
   ·exact .inl (ll9 _ z)
  ·exact .inl (lr9 _ z)
theorem wjc(D:kZ X.prog X.w X.K X.mg X.base k x ps (spF Z.K Z.mg n f))(hr:Room k X.A)(g:xk X Z.EX)(ha:QA X Z q cs (e::es))(hn:autoParam (cs.length=n) Ŕ)(hg:autoParam (Gl X x) Ŕ)(df:autoParam ((x==("__debug__":Str))=false) ŕ)
  (he:autoParam (starEach (e::es) X.env=(false,eval e X.env)::starEach es X.env) Ŕ) (bu:autoParam ((backTo pos (starEach es X.env)).any (·.1)=false) Ŕ):
  QE X Z q (jQ f cs) (.Call (.Name x p) (e::es) [] pos):=qk (qvu D hr g ha hg df he bu) fun O H Q az=>ex8 az λE L r m w hc xc kk=>
 vxl m w (show bnd (qJ cs E) _=some r from hc) xc λE1 ys h1 hl xs L1 H1 e1 m1 w1 st sm=>by
  rw [Xw];have av:xs.length=n:=by rw[<-hn,<-hl,<-e1,X4]
  cases hf:f (letAll ys)with
  | none=>rw[hf]at h1;cases h1
  | some fr=>
   rw[hf]at h1;obtain⟨wl,sl⟩:=jxp w1;have ev:xs.map Sl.v=(xs.map Sl.let).map Sl.v:=by rw[Xs];rfl
   rw[ev];refine⟨xs.map Sl.let,fr,rfl,by rw[X4];exact av,wl.left,by rw[<-e1]at hf;rw[kv3];exact hf,λE' c ee C H' hm s'=>?_,λE' a ee y H' e2 e3 w' s'=>?_⟩
   ·subst ee;cases oq9 h1;obtain⟨w2,s2⟩:=stay wl s' ⟨λ_ z=>(nomatch z),Y6,λ_ z=>(nomatch z)⟩;exact xc _ _ rfl C L1 H' hm m1 w2 ((st.trans sl).trans s2)
   ·subst ee;cases oq9 h1;obtain⟨w2,s2⟩:=stay wl s' w';refine kk _ _ rfl y L1 H' e2 e3 m1 w2 ((st.trans sl).trans s2) λhq=>?_
    obtain⟨a1,a2⟩:=sm hq;refine⟨λb ob hb=>s'.keep b ob (a1 b ob hb) λz=>?_,λb hb=>?_⟩
    ·rw[K9]at z;exact nomatch z
    ·rcases s'.own b (by rw[kJ];exact ll9 _ hb)with z|z
     ·rw[K9]at z;exact nomatch z
     ·exact z9 a1 z
end
def vzv(K:Frag):R2:=λx y H Q=>∃l k xs,x=.ref l/\y=.int k/\LsR K H l xs/\-(2 ^ 63)<=k/\k<2 ^ 63/\xs.length*k.toNat<=sizeLine /\
 ∀p,H p=none->Q (.ref p) (upd H p (.lst (List.replicate k.toNat xs).flatten))
theorem op_repR{X:Cx}:OpR X (binaryOp .Mult) (vzv X.K):=by
 intro pins s O H x y v u Q I rx ry h;obtain⟨l,k,xs,rfl,rfl,hH,h1,h2,hz,q⟩:=h;cases rx;obtain⟨t,rfl⟩:=ry;obtain⟨z,ai,n,r,e⟩:=hH.is I;have hl:=r.length;have av:ai.toArray.size*k.toNat<=sizeLine:=by rw[X5,<-hl];exact hz
 have hcap:¬ai.toArray.size*k.toNat>(2 ^ 63 - 1) / 8:=by
  have:(sizeLine:Nat)<=(2 ^ 63 - 1) / 8:=⋯
  omega
 have lq:¬(!Builtin.List.listFitsIndex k)=true:=by
  rw[fitsIndex_both h1 h2];exact Bool.false_ne_true
 have qi:¬Builtin.List.listTooLong (ai.toArray.size*k.toNat)=true:=by
  rw[vjb av];exact Bool.false_ne_true
 have fz:List.foldl (λx1 x2=>x1++x2) #[] (List.replicate (if ai.toArray.isEmpty=true then 0 else k.toNat) ai.toArray)=(List.replicate k.toNat ai).flatten.toArray:=by
  have f0:∀m:Nat,List.foldl (λx1 x2=>x1++x2) #[] (List.replicate m ai.toArray)=(List.replicate m ai).flatten.toArray:=λm=>by
   have:=kju ai m [];rw[List.nil_append]at this;exact this
  rw[f0];cases ai with|nil=>simp|cons a r'=>rw[Xb (by simp)]
 refine wpAny_binaryOp_repeat_ref (T:="list") (U:="int") ⋯ ⟨_,e,rfl⟩ (λs'=>typeIs_int s' k t) noFill_list_mul F.fills_int_mul F.slot_int_rmul repeat_list F.slot_int_index.lookup
  (call_meets F.slot_int_rmul (typeIs_int s k t) F.entry_int_rmul (F.args_int_rmul_2 _ _) (int___rmul___int_list k t l ai.toArray n)
   ⟨e,rfl,⟨_,e,rfl⟩,call_meets F.slot_list_mul ⟨_,e,rfl⟩ F.entry_list_mul (F.args_list_mul_2 _ _) (AutoListH.list___mul___list_int_3 l ai.toArray n k t lq hcap qi) ⟨e,?_⟩⟩)
 rw[fz];exact⟨.ref _,_,I.lnew (t':=s.toks) (r.rep k.toNat) (by rw[qwf,Nat.mul_comm];exact hz),rfl,q _ I.fresh⟩
def vv7(K:Frag):R2:=λx y H Q=>rI IntMulOk (λi j=>.int (i*j)) x y H Q\/vzv K x y H Q\/vzu x y H Q
theorem wk5{X:Cx}{K:Frag}(hK:autoParam (X.K=K) Ŕ):OpR X (binaryOp .Mult) (vv7 K):=by subst hK;exact op_mulI.or (op_repR.or vvz)
theorem qjf{a:Int}(h:a.natAbs.log2<2000000):Builtin.Int.intBits a<=2000000:=by
 unfold Builtin.Int.intBits
 split
 ·exact Yg _
 ·omega
theorem mulOk_of{a b:Int}(h:WY a b=true):IntMulOk a b:=by
 unfold WY qv0 at h;simp only[Bool.or_eq_true,Bool.and_eq_true,decide_eq_true_eq]at h;rcases h with(h|h)|h
 ·exact .of_left (intBits_le_64 h.1 h.2)
 ·exact .of_right (intBits_le_64 h.1 h.2)
 ·have h1:=qjf h.1;have h2:=qjf h.2;unfold IntMulOk Builtin.Int.intTooBig;have e:(2:Nat) ^ 27=134217728:=⋯
  have hb:bitsLine=134217728:=e;simp only[Bool.and_eq_true,decide_eq_true_eq,not_and];intro _ _;omega
theorem RepA.reps{K:Frag}{H:Hp}{ds:List D}{xs:List V}{bs:List Addr}(h:RepA K H true ds xs bs):∀k:Nat,∃cs,RepA K H true (List.replicate k ds).flatten (List.replicate k xs).flatten cs/\∀b∈cs,b∈bs
 |0=>⟨[],by simp only[List.replicate_zero,List.flatten_nil];unfold RepA;exact⟨rfl,rfl⟩,λ_ z=>(nomatch z)⟩
 |k+1=>by
  obtain⟨cs,r,hc⟩:=RepA.reps h k;rw[List.replicate_succ,List.replicate_succ,Zb,Zb];exact⟨bs++cs,r.app h,λb hb=>(aA hb).elim id (hc b)⟩
theorem vqm{K:Frag}:Ad2 K (vv7 K) W7:=by
 intro H x y s Q ox oy hf k;unfold W7 at hf;dsimp only at hf
 split at hf
 ·rename_i i j e1 e2
  split at hf
  ·rename_i hm;cases oq9 hf;exact .inl ⟨i,j,v5 ox e1,v5 oy e2,mulOk_of hm,k ⟨.dp,.int _,.int _,[]⟩ H rfl rfl Vq⟩
  ·cases hf
 ·rename_i a n e1 e2
  split at hf
  ·rename_i hc;cases oq9 hf;obtain⟨l,xs,bs,e3,q3,r3,h3⟩:=J7 ox (.inl e1) hc.2.2.2;have q3:LsR K H l xs:=by rcases q3 with⟨_,z⟩|⟨z,_⟩;exact z;rw[e1]at z;cases z
   obtain⟨cs,r4,h4⟩:=r3.reps n.toNat;refine .inr (.inl ⟨l,n,xs,e3,v5 oy e2,q3,hc.1,hc.2.1,by rw[<-r3.len];exact hc.2.2.1,λp hp=>?_⟩);exact k ⟨.rt,.lst _,.ref p,p::cs⟩ _ rfl rfl (V2 hp r4 λb hb=>ll9 _ (h3 b (h4 b hb)))
  ·cases hf
 ·rename_i z n e1 e2
  split at hf
  ·rename_i hc;cases oq9 hf;exact .inr (.inr ⟨z,n,(z6 ox e1).1,v5 oy e2,hc.1,k ⟨.dp,.str _,.str _,[]⟩ H rfl rfl (wv8 hc.2)⟩)
  ·cases hf
 ·cases hf
def dec(h:Heap)(u:Value):D:=open Classical in if e:∃d,jw h d u then e.choose else .non
theorem kx0{h:Heap}{u:Value}{d:D}(r:jw h d u):dec h u=d:=by
 unfold dec;have e:∃d,jw h d u:=⟨d,r⟩;rw[dif_pos e];exact jzz e.choose_spec r
theorem kk5{h:Heap}{d:D}:∀{ds:List D} {us:List Value},CReps h ds us->us.any (λu=>peq (dec h u) d)=ds.any λz=>peq z d
 |[],_,r=>by unfold CReps at r;rw[r];rfl
 |z::ds,_,r=>by
  unfold CReps at r;obtain⟨u,rr,rfl,h1,h2⟩:=r;rw[List.any_cons,List.any_cons,kx0 h1,kk5 h2]
theorem jzy{h:Heap}:∀{ds:List D} {us:List Value} {u:Value},CReps h ds us->u∈us->∃d∈ds,jw h d u
 | [],_,_,r,hu=>by unfold CReps at r;rw[r]at hu;cases hu
 | z::ds,_,u,r,hu=>by
  unfold CReps at r;obtain⟨u',rr,rfl,h1,h2⟩:=r;rcases aD hu with rfl|hu
  ·exact⟨z,X7,h1⟩
  ·obtain⟨d,hd,c⟩:=jzy h2 hu;exact⟨d,lc9 _ hd,c⟩
theorem jxb:∀{n:Nat} {ds:List D} {d:D},D.flats n ds=true->d∈ds->d.flat n=true
 |_,[],_,_,h=>by cases h
 |n,z::ds,d,f,h=>by
  unfold D.flats at f;rw[Bool.and_eq_true]at f;rcases aD h with rfl|h
  ·exact f.1
  ·exact jxb f.2 h
section
variable {X:Cx}{Z:Fx0}{K:Frag}{q qa qb:Bool}{a b c:Ex}{u v:Ts}{e ea eb:Expr}{es:List Expr}{pos p:Pos}{O:L2.St}{H:Hp}{L:Ls}{E:En}
def qvc(K:Frag)(kl:Bool):R2:=λx y H Q=>∃d ds as bs p xs,RepL K H true d x as/\y=.ref p/\(SqL K H p xs\/SqT K H p xs)/\RepA K H true ds xs bs/\d.flat 30=true/\D.flats 30 ds=true/\Q (.bl (if kl then !(ds.any λz=>peq z d)else ds.any λz=>peq z d)) H
theorem vw4(hu:X.A.units+64<cLine):OpR X (compareOp .In) (qvc X.K false):=by
 intro pins s O H x y v u Q I rx ry h;obtain⟨d,ds,as,bs,p,xs,h1,rfl,hq,ra,f1,f2,q⟩:=h;cases ry;have c1:=V8 I h1 f1 rx;have he:∀{us:List Value},CReps s.heap ds us->∀w,w∈us.toArray->SeqAt.EqAt X.A.in1 s w v (peq (dec s.heap w) d):=fun {us} cr w hw=>by
  obtain⟨d',hd,c⟩:=jzy cr (by simpa using hw);rw[kx0 c];exact Wx 30 (jxb f2 hd) c c1 (by have:=L3.in1_units X.A;omega)
 rcases hq with hq|hq
 ·obtain⟨ai,r,pl,hz⟩:=I.list hq;have cr:=creps_of I ra f2 r;refine SeqAt.in_listAt _ pl.isList (he cr) ⟨.bl _,H,I,rfl,?_⟩;rw[List.any_toArray,kk5 cr];exact q
 ·obtain⟨ai,r,pl,hz⟩:=I.tuple hq;have cr:=creps_of I ra f2 r;refine SeqAt.in_tupleAt _ pl (he cr) ⟨.bl _,H,I,rfl,?_⟩;rw[List.any_toArray,kk5 cr];exact q
theorem qkt(hu:X.A.units+64<cLine):OpR X (compareOp .NotIn) (qvc X.K true):=by
 intro pins s O H x y v u Q I rx ry h;obtain⟨d,ds,as,bs,p,xs,h1,rfl,hq,ra,f1,f2,q⟩:=h;cases ry;have c1:=V8 I h1 f1 rx;have he:∀{us:List Value},CReps s.heap ds us->∀w,w∈us.toArray->SeqAt.EqAt X.A.in1 s w v (peq (dec s.heap w) d):=fun {us} cr w hw=>by
  obtain⟨d',hd,c⟩:=jzy cr (by simpa using hw);rw[kx0 c];exact Wx 30 (jxb f2 hd) c c1 (by have:=L3.in1_units X.A;omega)
 rcases hq with hq|hq
 ·obtain⟨ai,r,pl,hz⟩:=I.list hq;have cr:=creps_of I ra f2 r;refine SeqAt.notIn_listAt _ pl.isList (he cr) ⟨.bl _,H,I,rfl,?_⟩;rw[List.any_toArray,kk5 cr];exact q
 ·obtain⟨ai,r,pl,hz⟩:=I.tuple hq;have cr:=creps_of I ra f2 r;refine SeqAt.notIn_tupleAt _ pl (he cr) ⟨.bl _,H,I,rfl,?_⟩;rw[List.any_toArray,kk5 cr];exact q
def qvb(kl:Bool):R2:=λx y H Q=>∃i j,x=.str i/\y=.str j/\Q (.bl (if kl then !wx4 i j else wx4 i j)) H
theorem opInStr:OpR X (compareOp .In) (qvb false):=λpins s O H x y v u Q I rx ry ⟨i,j,e1,e2,q⟩=>qw0 pins s O H x y v u Q I rx ry ⟨i,j,e1,e2,q⟩
theorem opNotInStr:OpR X (compareOp .NotIn) (qvb true):=λpins s O H x y v u Q I rx ry ⟨i,j,e1,e2,q⟩=>kw8 pins s O H x y v u Q I rx ry ⟨i,j,e1,e2,q⟩
def vzz(K:Frag)(kl:Bool):R2:=λx y H Q=>qvb kl x y H Q\/qvc K kl x y H Q
theorem vw5(hu:X.A.units+64<cLine)(hK:autoParam (X.K=K) Ŕ):OpR X (compareOp .In) (vzz K false):=by subst hK;exact opInStr.or (vw4 hu)
theorem jzv(hu:X.A.units+64<cLine)(hK:autoParam (X.K=K) Ŕ):OpR X (compareOp .NotIn) (vzz K true):=by subst hK;exact opNotInStr.or (qkt hu)
theorem K7{H:Hp}{l:Addr}{xs:List V}(h:LsR K H l xs):SqL K H l xs:=h.sq
theorem kv8{x y:Sl}{ys:List D}{kl:Bool}{Q:VK}(ox:x.ok K H)(oy:y.ok K H)(hy:y.d=.lst ys\/y.d=.tup ys)(hc:(x.d.flat 30&&D.flats 30 ys)=true)
  (k:Q (.bl (if kl then !(ys.any λz=>peq z x.d)else ys.any λz=>peq z x.d)) H):vzz K kl x.v y.v H Q:=by
 rw[Bool.and_eq_true]at hc;obtain⟨l,xs,bs,e3,q3,r3,_⟩:=items oy hy;have r3':RepA K H true ys xs bs:=by
  cases ho:(y.o != .dp)with|true=>rw[ho]at r3;exact r3|false=>rw[ho]at r3;exact r3.wk
 refine .inr ⟨x.d,ys,x.as,bs,l,xs,RepO.wk ox,e3,?_,r3',hc.1,hc.2,k⟩;rcases q3 with⟨_,z⟩|⟨_,z⟩
 ·exact .inl (K7 z)
 ·exact .inr z
theorem vxk:Ad2 K (vzz K false) (pu2 z5):=by
 intro H x y s Q ox oy hf k;unfold pu2 z5 fIn at hf;dsimp only at hf;cases hy:y.d with
 | lst ys=>
  rw[hy]at hf;dsimp only at hf
  split at hf
  ·rename_i hc;cases oq9 hf;exact kv8 ox oy (.inl hy) hc (k ⟨.dp,.bl _,.bl _,[]⟩ H rfl rfl xv)
  ·cases hf
 | tup ys=>
  rw[hy]at hf;dsimp only at hf
  split at hf
  ·rename_i hc;cases oq9 hf;exact kv8 ox oy (.inr hy) hc (k ⟨.dp,.bl _,.bl _,[]⟩ H rfl rfl xv)
  ·cases hf
 | str b=>
  rw[hy]at hf;dsimp only at hf
  split at hf
  ·rename_i a hx;cases oq9 hf;exact .inl ⟨a,b,(z6 ox hx).1,(z6 oy hy).1,k ⟨.dp,.bl _,.bl _,[]⟩ H rfl rfl xv⟩
  ·cases hf
 |_=>rw[hy]at hf;cases hf
theorem kj1:Ad2 K (vzz K true) (pu2 wq):=by
 intro H x y s Q ox oy hf k;unfold pu2 wq Wj fIn at hf;dsimp only at hf;cases hy:y.d with
 | lst ys=>
  rw[hy]at hf;dsimp only at hf
  split at hf
  ·rename_i hc;cases oq9 hf;exact kv8 ox oy (.inl hy) hc (k ⟨.dp,.bl _,.bl _,[]⟩ H rfl rfl xv)
  ·cases hf
 | tup ys=>
  rw[hy]at hf;dsimp only at hf
  split at hf
  ·rename_i hc;cases oq9 hf;exact kv8 ox oy (.inr hy) hc (k ⟨.dp,.bl _,.bl _,[]⟩ H rfl rfl xv)
  ·cases hf
 | str b=>
  rw[hy]at hf;dsimp only at hf
  split at hf
  ·rename_i a hx;cases oq9 hf;exact .inl ⟨a,b,(z6 ox hx).1,(z6 oy hy).1,k ⟨.dp,.bl _,.bl _,[]⟩ H rfl rfl xv⟩
  ·cases hf
 |_=>rw[hy]at hf;cases hf
theorem jzs{g:Bool}{d:D}{v:V}{as:List Addr}(h:RepL K H g d v as):decide (v=.non)=isNon d:=by
 cases d with|non=>unfold RepL at h;rw[h.1];rfl|bl _=>unfold RepL at h;rw[h.1];rfl|int _=>unfold RepL at h;rw[h.1];rfl|str _=>unfold RepL at h;rw[h.1];rfl|tup _=>unfold RepL at h;obtain⟨a,xs,e,_⟩:=h;rw[e];rfl|lst _=>unfold RepL at h;obtain⟨a,xs,bs,e,_⟩:=h;rw[e];rfl|dct _=>unfold RepL at h;obtain⟨a,xs,bs,e,_⟩:=h;rw[e];rfl|obj _ _=>unfold RepL at h;obtain⟨_,x,o,C,e,_⟩:=h;rw[e];rfl
theorem qk3:Ad2 K (λx y H Q=>y=.non/\Q (.bl (decide (x=.non))) H) (f2First fIsNon):=by
 intro H x y s Q ox oy hf k;unfold f2First fIsNon at hf;dsimp only at hf
 split at hf
 ·rename_i hy;cases oq9 hf;have e:=jzs (RepO.wk oy);rw[hy]at e;refine⟨of_decide_eq_true e,?_⟩;rw[jzs (RepO.wk ox)];exact k ⟨.dp,.bl _,.bl _,[]⟩ H rfl rfl xv
 ·cases hf
theorem vxi:Ad2 K (λx y H Q=>y=.non/\Q (.bl (!decide (x=.non))) H) (f2First fNotNon):=by
 intro H x y s Q ox oy hf k;unfold f2First fNotNon at hf;dsimp only at hf
 split at hf
 ·rename_i hy;cases oq9 hf;have e:=jzs (RepO.wk oy);rw[hy]at e;refine⟨of_decide_eq_true e,?_⟩;rw[jzs (RepO.wk ox)];exact k ⟨.dp,.bl _,.bl _,[]⟩ H rfl rfl xv
 ·cases hf
theorem qwu(n:Nat)(i:Int):_root_.Q.ixN n i=L2.ixN n i:=rfl
theorem vwh{x y:Sl}{d:D}{Q:VK}(ox:x.ok K H)(oy:y.ok K H)(hf:jK x.d y.d=some d)(k:∀z:Sl,z.o=sub x.o->z.d=d->z.ok K H->(∀b∈z.frz,b∈x.frz)->(∀b∈z.as,b∈x.as)->Q z.v H):rIx K x.v y.v H Q:=by
 have seq:∀ds:List D,(x.d=.lst ds\/x.d=.tup ds)->∀i:Int,y.d=.int i->((_root_.Q.ixN ds.length i).bind λj=>ds[j]?)=some d->rIx K x.v y.v H Q:=by
  intro ds hx i hy hd;obtain⟨l,xs,bs,e3,q3,r3,h3,h4⟩:=items ox hx;cases hj:_root_.Q.ixN ds.length i with
  | none=>rw[hj]at hd;cases hd
  | some j=>
   rw [hj]at hd;obtain⟨v,cs,e4,r4,h5⟩:=r3.get (show ds[j]?=some d from hd);have jb:atI xs i=some v:=by
    unfold atI;rw[<-r3.len,<-qwu,hj];exact e4
   have fin:Q v H:=by
    cases ho:x.o with
    | dp=>
     rw[ho]at r4;exact k ⟨.dp,d,v,cs⟩ (by rw[ho];rfl) rfl r4 (λb hb=>(nomatch hb)) λb hb=>h3 b (h5 b hb)
    | no=>
     rw[ho]at r4;exact k ⟨.no,d,v,cs⟩ (by rw[ho];rfl) rfl r4 (λb hb=>h4 (by rw[ho];exact(λz=>nomatch z)) b (h5 b hb)) λb hb=>h3 b (h5 b hb)
    | rt=>
     rw[ho]at r4;exact k ⟨.no,d,v,cs⟩ (by rw[ho];rfl) rfl r4 (λb hb=>h4 (by rw[ho];exact(λz=>nomatch z)) b (h5 b hb)) λb hb=>h3 b (h5 b hb)
   rcases q3 with⟨_,z⟩|⟨_,z⟩
   ·exact .inl ⟨l,xs,i,v,e3,v5 oy hy,K7 z,jb,fin⟩
   ·exact .inr (.inl ⟨l,xs,i,v,e3,v5 oy hy,z,jb,fin⟩)
 unfold jK at hf;cases hx:x.d with
 | lst ds=>
  rw [hx]at hf;cases hy:y.d with| int i=>rw[hy]at hf;exact seq ds (.inl hx) i hy hf| _=>rw[hy]at hf;cases hf
 | tup ds=>
  rw [hx]at hf;cases hy:y.d with| int i=>rw[hy]at hf;exact seq ds (.inr hx) i hy hf| _=>rw[hy]at hf;cases hf
 | str z=>
  rw [hx]at hf;cases hy:y.d with
  | int i=>
   rw [hy]at hf;have hf:((_root_.Q.ixN z.cps.size i).bind λj=>(z.cps.toList[j]?).map λc=>D.str ⟨#[c]⟩)=some d:=hf;cases hj:_root_.Q.ixN z.cps.size i with
   | none=>rw[hj]at hf;cases hf
   | some j=>
    rw[hj]at hf;cases hc:z.cps.toList[j]? with
    | none=>rw[Option.bind_some,hc]at hf;cases hf
    | some c=>
     rw[Option.bind_some,hc]at hf;cases oq9 hf;have jb:atI z.cps.toList i=some c:=by
      unfold atI;rw[Xi,<-qwu,hj];exact hc
     obtain⟨e1,hz⟩:=z6 ox hx;refine .inr (.inr ⟨z,i,c,e1,v5 oy hy,hz,jb,?_⟩);have rp:∀g,RepL K H g (.str ⟨#[c]⟩) (.str ⟨#[c]⟩) []:=λg=>Kv (show(1:Nat)<=sizeLine by decide)
     cases ho:x.o with|dp=>exact k ⟨.dp,.str ⟨#[c]⟩,.str ⟨#[c]⟩,[]⟩ (by rw[ho];rfl) rfl (rp false) (λb hb=>(nomatch hb)) λb hb=>(nomatch hb)|no=>exact k ⟨.no,.str ⟨#[c]⟩,.str ⟨#[c]⟩,[]⟩ (by rw[ho];rfl) rfl (rp true) (λb hb=>(nomatch hb)) λb hb=>(nomatch hb)|rt=>exact k ⟨.no,.str ⟨#[c]⟩,.str ⟨#[c]⟩,[]⟩ (by rw[ho];rfl) rfl (rp true) (λb hb=>(nomatch hb)) λb hb=>(nomatch hb)
  |_=>rw[hy]at hf;cases hf
 |non=>rw[hx]at hf;cases hf|bl _=>rw[hx]at hf;cases hf|int _=>rw[hx]at hf;cases hf|dct _=>rw[hx]at hf;cases hf|obj _ _=>rw[hx]at hf;cases hf
theorem q_ix(ha:QV X Z qa a ea)(hb:QV X Z true b eb)(hs:kzk eb)(hK:autoParam (X.K=Z.K) Ŕ):QV X Z qa (j6 a b) (.Subscript ea eb pos):=
 qk (wwl (hK▸wku) ha hb hs) fun O H Q az=>ex8 az λE L r m w hc xc k=>by
  refine vk m w (show bnd (a E) _=some r from hc) xc λE1 s h1 x L1 H1 e1 e2 m1 w1 ok fr sr st sm=>?_
  refine vk m1 w1 h1 (xc.step st) λE2 s2 h2 y L2 H2 e3 e4 m2 w2 gz sk si bo dj=>?_
  obtain⟨z,hz,rfl⟩:=Jq h2;cases hf:jK s.2 s2.2 with
  |none=>rw[hf]at hz;cases hz
  |some d=>
   rw[hf]at hz;cases oq9 hz;have kx:=WQ ok fr bo (dj rfl);refine vwh kx.1 gz (by rw[e2,e4];exact hf) λz zo zd rf zf za=>?_
   exact k _ _ rfl z L2 H2 (by rw[zo,e1]) zd m2 w2 rf (λb hb=>kx.2 b (zf b hb)) (jwz sr za) (st.trans bo) λhq=>qw (sm hq) (dj rfl)
theorem ZY(ht:QT X Z q u e)(ha:QE X Z q a ea)(hb:QE X Z q b eb):QE X Z q (cIf u a b) (.IfExp e ea eb pos):=qk (vj6 ht ha hb) fun O H Q az=>ex8 az λE L r m w hc xc k=>
 qzc m w (show bnd (u E) _=some r from hc) xc λE1 s h1 L1 H1 m1 w1 st sm=>by
  have fin:∀{c:Ex},c E1=some r->tQ Z q c O H1 Q:=λhc=>⟨E1,L1,r,m1,w1,hc,xc.step st,λE' a z x L' H' e1 e2 m' w' dh gm=>k E' a z x L' H' e1 e2 m' w' (st.trans dh) λhq=>⟨qw (sm hq) (gm hq).1,λb hb=>z9 (sm hq) ((gm hq).2 b hb)⟩⟩
  cases s with|true=>rw[X9 rfl]at h1 ⊢;exact fin h1|false=>rw[Xb ⋯]at h1 ⊢;exact fin h1
theorem kvz{op}(h:QE X Z q a ea):QE X Z q a (.BoolOp op [ea] pos):=wju h
theorem qzt(ha:QV X Z q a ea)(hb:QE X Z q b (.BoolOp .And (eb::es) pos)):QE X Z q (Kw a b) (.BoolOp .And (ea::eb::es) pos):=qk (wjz ha hb) fun O H Q az=>ex8 az λE L r m w hc xc k=>
 vk m w (show bnd (a E) _=some r from hc) xc λE1 s h1 x L1 H1 e1 e2 m1 w1 ok fr sr st sm=>by
  cases hs:s.2 with
  | bl kk=>
   rw[hs]at h1;refine⟨kk,WX ok (e2.trans hs),?_⟩;cases kk with
   |true=>
    rw[X9 rfl];exact⟨E1,L1,r,m1,w1,h1,xc.step st,λE' a z x L' H' e1 e2 m' w' dh gm=>k E' a z x L' H' e1 e2 m' w' (st.trans dh) λhq=>⟨qw (sm hq) (gm hq).1,λb hb=>z9 (sm hq) ((gm hq).2 b hb)⟩⟩
   |false=>
    rw[Xb ⋯];cases oq9 h1;obtain⟨w3,de⟩:=Q1 w1 st (xv (K:=Z.K) (H:=H1) (i:=false) (fr:=[])) (λ_ z=>(nomatch z)) (λ_ z=>(nomatch z)) (λ_ z=>(nomatch z));exact k _ _ rfl ⟨.dp,.bl false,.bl false,[]⟩ L1 H1 rfl rfl m1 w3 de λhq=>⟨sm hq,λ_ z=>(nomatch z)⟩
  |_=>rw[hs]at h1;cases h1
theorem q_or(ha:QV X Z q a ea)(hb:QE X Z q b (.BoolOp .Or (eb::es) pos)):QE X Z q (cOr a b) (.BoolOp .Or (ea::eb::es) pos):=qk (wwi ha hb) fun O H Q az=>ex8 az λE L r m w hc xc k=>
 vk m w (show bnd (a E) _=some r from hc) xc λE1 s h1 x L1 H1 e1 e2 m1 w1 ok fr sr st sm=>by
  cases hs:s.2 with
  | bl kk=>
   rw[hs]at h1;refine⟨kk,WX ok (e2.trans hs),?_⟩;cases kk with
   |false=>
    rw[Xb ⋯];exact⟨E1,L1,r,m1,w1,h1,xc.step st,λE' a z x L' H' e1 e2 m' w' dh gm=>k E' a z x L' H' e1 e2 m' w' (st.trans dh) λhq=>⟨qw (sm hq) (gm hq).1,λb hb=>z9 (sm hq) ((gm hq).2 b hb)⟩⟩
   |true=>
    rw[X9 rfl];cases oq9 h1;obtain⟨w3,de⟩:=Q1 w1 st (xv (K:=Z.K) (H:=H1) (i:=true) (fr:=[])) (λ_ z=>(nomatch z)) (λ_ z=>(nomatch z)) (λ_ z=>(nomatch z));exact k _ _ rfl ⟨.dp,.bl true,.bl true,[]⟩ L1 H1 rfl rfl m1 w3 de λhq=>⟨sm hq,λ_ z=>(nomatch z)⟩
  |_=>rw[hs]at h1;cases h1
theorem wxn{x:Sl}{k:Bool}(ok:x.ok K H)(h:truth x.d=some k)(hd:∀kvs,x.d≠.dct kvs):wvf K x.v H k:=by
 cases hx:x.d with
 |non=>rw[hx]at h;rw[wkc ok hx];exact(oq9 h).symm|bl b=>rw[hx]at h;rw[WX ok hx];exact(oq9 h).symm|int i=>rw[hx]at h;rw[v5 ok hx];exact(oq9 h).symm
 |str z=>
  rw[hx]at h;obtain⟨e,hz⟩:=z6 ok hx;rw[e];refine⟨hz,?_⟩;rw[<-oq9 h];show(z.cps.size != 0)=(((z.cps.size:Nat):Int) != 0);rw[Bool.eq_iff_iff];simp
 |lst ds=>
  rw[hx]at h;obtain⟨a,xs,bs,e,q,r,_⟩:=items ok (.inl hx);rw[e];have q':LsR K H a xs:=by rcases q with⟨_,z⟩|⟨z,_⟩;exact z;rw[hx]at z;cases z
  refine .inl ⟨xs,K7 q',?_⟩;rw[<-oq9 h];have:=r.len;cases ds<;>cases xs<;>simp_all
 |tup ds=>
  rw[hx]at h;obtain⟨a,xs,bs,e,q,r,_⟩:=items ok (.inr hx);rw[e];have q':SqT K H a xs:=by rcases q with⟨z,_⟩|⟨_,z⟩;rw[hx]at z;cases z;exact z
  refine .inr (.inl ⟨xs,q',?_⟩);rw[<-oq9 h];have:=r.len;cases ds<;>cases xs<;>simp_all
 |dct kvs=>exact absurd hx (hd kvs)|obj c f=>rw[hx]at h;cases h
theorem kvk{d:D}{k:Bool}(h:truthQ d=some k):truth d=some k/\∀kvs,d≠.dct kvs:=by
 cases d<;>first|exact⟨h,λ_ z=>nomatch z⟩|cases h
theorem V4(h:QV X Z q a ea)(he:autoParam (∀fc,isTrue ea X.env fc=(do let v <-fc;standAt ea.pos;holding [v] (truthy v))) Ŗ)(hK:autoParam (X.K=Z.K) Ŕ):QT X Z q (tEQ a) ea:=qvk (qzw h he) fun O H Q az=>ex8 az λE L r m w hc xc k=>
 vk m w (show bnd (a E) _=some r from hc) xc λE1 s h1 x L1 H1 e1 e2 m1 w1 ok fr sr st sm=>by
  obtain⟨kk,hk,rfl⟩:=Jq h1;obtain⟨h2,h3⟩:=kvk hk;exact⟨kk,hK▸wxn ok (by rw[e2];exact h2) (by rw[e2];exact h3),k _ _ rfl L1 H1 m1 w1 st sm⟩
theorem ww2(h:QV X Z q a ea)(hK:autoParam (X.K=Z.K) Ŕ):QE X Z q (vk7 a) (.UnaryOp .Not ea pos):=by
 intro pins s O H Q I ⟨E,L,r,m,w,hc,xc,k⟩;refine UnaryOp_ (thn (h pins s O H _ I (vk (G:=λv H1=>∃kk,wvf X.K v H1 kk/\Q (.bl (!kk)) H1) m w (show bnd (a E) _=some r from hc) xc λE1 s h1 x L1 H1 e1 e2 m1 w1 ok fr sr st sm=>?_)) λv s1 ⟨x,H1,I1,r1,kk,t1,q1⟩=>?_)
 ·obtain⟨y,hy,rfl⟩:=Jq h1;cases hk:truthQ s.2 with
  |none=>rw[hk]at hy;cases hy
  |some kk=>
   rw[hk]at hy;cases oq9 hy;obtain⟨h2,h3⟩:=kvk hk;refine⟨kk,hK▸wxn ok (by rw[e2];exact h2) (by rw[e2];exact h3),?_⟩;obtain⟨w3,de⟩:=Q1 w1 st (xv (K:=Z.K) (H:=H1) (i:=!kk) (fr:=[])) (λ_ z=>(nomatch z)) (λ_ z=>(nomatch z)) (λ_ z=>(nomatch z));exact k _ _ rfl ⟨.dp,.bl (!kk),.bl (!kk),[]⟩ L1 H1 rfl rfl m1 w3 de λhq=>⟨sm hq,λ_ z=>(nomatch z)⟩
 ·exact not_of (thn (vki pins s1 O H1 x v (λkk H2=>Q (.bl (!kk)) H2) I1 r1 ⟨kk,t1,q1⟩) λc s2 ⟨H2,I2,q2⟩=>⟨.bl (!c),H2,I2,rfl,q2⟩)
end
theorem jxj{α:Type}:∀{L:List α} {i:Nat} {q:α},L[i]?=some q->∃A B,L=A++q::B/\∀q',L.set i q'=A++q'::B
 |[],_,_,h=>by simp at h
 |a::L,0,q,h=>by
  have e:a=q:=by simpa using h
  subst e;exact⟨[],L,rfl,λ_=>rfl⟩
 |a::L,i+1,q,h=>by
  obtain⟨A,B,e,f⟩:=jxj (L:=L) (i:=i) (by simpa using h);exact⟨a::A,B,by rw[e];rfl,λq'=>by rw[List.set_cons_succ,f];rfl⟩
section
variable {K:Frag}{H:Hp}{M T L:Ls}{y y':Sl}{l:Addr}{ob:HO}
theorem World.write(w:World K H (some y::(T++M)))(hl:l∈y.own)(ok':y'.ok K (upd H l ob))(nd:y'.own.Nodup)(h1:∀a∈y'.own,a∈y.own\/a∈j8 T)(h2:∀a∈y'.frz,a∈y.as\/a∈j8 T\/a∈jZ T)(h3:∀a∈y'.own,a∉y'.frz):
  World K (upd H l ob) (some y'::M)/\Step H (some y::(T++M)) (upd H l ob) (some y'::M):=by
 have wn:=w.nd;rw [kJ,jW,Xd,Xd]at wn;obtain⟨n1,⟨n2,n3,n4⟩,n5⟩:=wn;have oy:l∈j8 (some y::(T++M)):=by rw[kJ];exact ll9 _ hl
 have iw:=w.own_al oy;have ds:∀a,(a∈y.own\/a∈j8 T\/a∈j8 M)->¬(a∈y.frz\/a∈jZ T\/a∈jZ M):=λa ha hf=>by
  refine w.ds a ?_ ?_
  ·rw[kJ,jW];rcases ha with z|z|z
   ·exact ll9 _ z
   ·exact lr9 _ (ll9 _ z)
   ·exact lr9 _ (lr9 _ z)
  ·rw[vY,kX];rcases hf with z|z|z
   ·exact ll9 _ z
   ·exact lr9 _ (ll9 _ z)
   ·exact lr9 _ (lr9 _ z)
 have noM:∀z,some z∈M->l∉z.as:=λz hz ha=>by
  rcases Sl.as_of ha with q|q
  ·exact n5 l hl l (lr9 _ (mem_owned.mpr ⟨z,hz,q⟩)) rfl
  ·exact ds l (.inl hl) (.inr (.inr (mem_frozen.mpr ⟨z,hz,q⟩)))
 have ke:∀a o,H a=some o->a≠l->upd H l ob a=some o:=λa o e ne=>by rw[kz ne];exact e
 have kp:∀as:List Addr,l∉as->Kp H (upd H l ob) as:=λas hn=>by
  refine⟨λa xs e=>ke a _ e λz=>?_,λa o u e=>ke a _ e λz=>?_,λa ha o e=>ke a o e λz=>hn (z▸ha)⟩
  ·subst z;rcases iw with⟨_,q⟩|⟨_,q⟩|⟨_,q⟩<;>(rw[e]at q;cases q)
  ·subst z;rcases iw with⟨_,q⟩|⟨_,q⟩|⟨_,q⟩<;>(rw[e]at q;cases q)
 have wM:World K (upd H l ob) M:=by
  have w1:World K H M:=w.tail.right;exact⟨λz hz=>RepO.kp (w1.ok z hz) (kp _ (noM z hz)),w1.nd,w1.ds⟩
 refine⟨wM.cons ok' nd (λa ha hM=>?_) (λa ha hM=>?_) (λa ha hM=>?_) h3,λa o e hn=>ke a o e λz=>hn (z▸oy),λa ha=>?_,λa ha=>?_⟩
 ·rcases h1 a ha with z|z
  ·exact n5 a z a (lr9 _ hM) rfl
  ·exact n4 a z a hM rfl
 ·rcases h1 a ha with z|z
  ·exact ds a (.inl z) (.inr (.inr hM))
  ·exact ds a (.inr (.inl z)) (.inr (.inr hM))
 ·rcases h2 a ha with z|z|z
  ·rcases Sl.as_of z with z|z
   ·exact n5 a z a (lr9 _ hM) rfl
   ·exact ds a (.inr (.inr hM)) (.inl z)
  ·exact n4 a z a hM rfl
  ·exact ds a (.inr (.inr hM)) (.inr (.inl z))
 ·rw[kJ]at ha;rw[kJ,jW];rcases aA ha with z|z
  ·rcases h1 a z with z|z
   ·exact .inl (ll9 _ z)
   ·exact .inl (lr9 _ (ll9 _ z))
  ·exact .inl (lr9 _ (lr9 _ z))
 ·rw[vY]at ha;rw[kJ,jW,vY,kX];rcases aA ha with z|z
  ·rcases h2 a z with z|z|z
   ·rcases Sl.as_of z with z|z
    ·exact .inr (.inl (ll9 _ z))
    ·exact .inl (ll9 _ z)
   ·exact .inr (.inl (lr9 _ (ll9 _ z)))
   ·exact .inl (lr9 _ (ll9 _ z))
  ·exact .inl (lr9 _ (lr9 _ z))
theorem World.writeAt{i:Nat}(w:World K H (T++L))(hy:L[i]?=some (some y))(hl:l∈y.own)(ok':y'.ok K (upd H l ob))(nd:y'.own.Nodup)(h1:∀a∈y'.own,a∈y.own\/a∈j8 T)(h2:∀a∈y'.frz,a∈y.as\/a∈j8 T\/a∈jZ T)(h3:∀a∈y'.own,a∉y'.frz):
  World K (upd H l ob) (L.set i (some y'))/\Step H (T++L) (upd H l ob) (L.set i (some y')):=by
 obtain⟨A,B,e,f⟩:=jxj hy;rw[f];subst e;have p:(T++(A++some y::B)).Perm (some y::(T++(A++B))):=by
  refine(List.Perm.append_left T (List.perm_middle (a:=some y) (l₁:=A) (l₂:=B))).trans List.perm_middle
 obtain⟨w2,s2⟩:=World.write (M:=A++B) (w.perm p) hl ok' nd h1 h2 h3;exact⟨w2.perm List.perm_middle.symm,s2.perm p.symm List.perm_middle.symm⟩
end
theorem RepA.snoc{K:Frag}{H:Hp}{g:Bool}{d:D}{x:V}{cs:List Addr}(h:RepL K H g d x cs){ds:List D}{xs:List V}{bs:List Addr}(r:RepA K H g ds xs bs):RepA K H g (ds++[d]) (xs++[x]) (bs++cs):=by
 refine RepA.app ?_ r;unfold RepA;exact⟨x,[],cs,[],rfl,by simp,h,by unfold RepA;exact⟨rfl,rfl⟩⟩
theorem kxv{K:Frag}{H:Hp}{y:Sl}{ds:List D}(ok:y.ok K H)(hd:y.d=.lst ds)(ho:y.o≠.no):∃l xs bs,y.v=.ref l/\H l=some (.lst xs)/\y.as=l::bs/\l∈y.own/\RepA K H (y.o != .dp) ds xs bs:=by
 obtain⟨o,d,v,as⟩:=y;dsimp only at hd ho;subst hd;cases o with
 |no=>exact absurd rfl ho
 |rt=>
  obtain⟨a,xs,bs,rfl,r,q,rfl⟩:=(show RepR K H (.lst ds) v as from ok);exact⟨a,xs,bs,rfl,q,rfl,by simp[Sl.own],r⟩
 |dp=>
  have ok:RepL K H false (.lst ds) v as:=ok;unfold RepL at ok;obtain⟨a,xs,bs,rfl,r,q⟩:=ok;rcases q with⟨q,rfl⟩|⟨z,_⟩
  ·exact⟨a,xs,bs,rfl,q,rfl,by simp[Sl.own],r⟩
  ·cases z
theorem kqq{K:Frag}{H:Hp}{T L:Ls}{i:Nat}{y:Sl}{l:Addr}{xs xs':List V}{bs cs:List Addr}{o':Own}{ds':List D}(w:World K H (T++L))(hy:L[i]?=some (some y))(hH:H l=some (.lst xs))(ha:y.as=l::bs)(hl:l∈y.own)(hv:y.v=.ref l)
  (r:RepA K H (o' != .dp) ds' xs' cs) (hc:(o'=.rt/\∀a∈cs,a∈bs\/a∈j8 T\/a∈jZ T)\/(o'=.dp/\y.o=.dp/\cs.Nodup/\∀a∈cs,a∈bs\/a∈j8 T)):
  World K (upd H l (.lst xs')) (L.set i (some ⟨o',.lst ds',y.v,l::cs⟩))/\Step H (T++L) (upd H l (.lst xs')) (L.set i (some ⟨o',.lst ds',y.v,l::cs⟩)):=by
 have oL:l∈j8 L:=mem_owned.mpr ⟨y,ww hy,hl⟩;have oy:l∈j8 (T++L):=by rw[jW];exact lr9 _ oL
 have nd:=w.nd;rw [jW,Xd]at nd;have nT:l∉j8 T:=λz=>nd.2.2 l z l oL rfl
 have nF:l∉jZ T:=λz=>w.ds l oy (by rw[kX];exact ll9 _ z)
 have yn:y.own.Nodup:=by
  obtain⟨A,B,e,_⟩:=jxj hy;have:=nd.2.1;rw[e,jW,kJ,Xd]at this;exact(List.nodup_append.mp this.2.1).1
 have nb:l∉bs:=λz=>by
  cases ho:y.o with
  | no=>unfold Sl.own at hl;rw[ho]at hl;exact nomatch hl
  | rt=>
   have:l∈y.frz:=by unfold Sl.frz;rw[ho,ha];exact z
   exact w.ds l oy (by rw[kX];exact lr9 _ (mem_frozen.mpr ⟨y,ww hy,this⟩))
  | dp=>
   unfold Sl.own at yn;rw[ho,ha]at yn;exact(List.nodup_cons.mp yn).1 z
 have nc:l∉cs:=λz=>by
  rcases hc with⟨_,hc⟩|⟨_,_,_,hc⟩
  ·rcases hc l z with q|q|q
   ·exact nb q
   ·exact nT q
   ·exact nF q
  ·rcases hc l z with q|q
   ·exact nb q
   ·exact nT q
 have kp:Kp H (upd H l (.lst xs')) cs:=by
  have k2:∀a o,H a=some o->a≠l->upd H l (.lst xs') a=some o:=λa o e ne=>by rw[kz ne];exact e
  refine⟨λa zs e=>k2 a _ e λz=>?_,λa o u e=>k2 a _ e λz=>?_,λa ha o e=>k2 a o e λz=>nc (z▸ha)⟩
  ·subst z;rw[hH]at e;cases e
  ·subst z;rw[hH]at e;cases e
 have r':=r.kp kp;rcases hc with⟨rfl,hc⟩|⟨rfl,hdp,hnd,hc⟩
 ·refine World.writeAt w hy hl (y':=⟨.rt,.lst ds',y.v,l::cs⟩) ⟨l,xs',cs,hv,r',wJ,rfl⟩ (by simp[Sl.own]) (λa h=>?_) (λa h=>?_) (λa h z=>?_)
  ·have:a=l:=by simpa [Sl.own]using h
   subst this;exact .inl hl
  ·rcases hc a (by simpa [Sl.frz]using h)with q|q
   ·exact .inl (by rw[ha];exact lc9 _ q)
   ·exact .inr q
  ·have:a=l:=by simpa [Sl.own]using h
   subst this;exact nc (by simpa [Sl.frz]using z)
 ·have oa:y.own=y.as:=by unfold Sl.own;rw[hdp]
  refine World.writeAt w hy hl (y':=⟨.dp,.lst ds',y.v,l::cs⟩) ?_ (List.nodup_cons.mpr ⟨nc,hnd⟩) (λa h=>?_) (λa h=>(nomatch h)) (λa h z=>(nomatch z))
  ·show RepL K _ false (.lst ds') y.v (l::cs);unfold RepL;exact⟨l,xs',cs,hv,r',.inl ⟨wJ,rfl⟩⟩
  ·rcases aD (show a∈l::cs from h)with q|q
   ·subst q;exact .inl hl
   ·rcases hc a q with q|q
    ·exact .inl (by rw[oa,ha];exact lc9 _ q)
    ·exact .inr q
section
variable {X:Cx}{Z:Fx0}{pn:List Nat}{q:Bool}{c:Ex}{e:Expr}{O:L2.St}{H:Hp}{L:Ls}{E:En}
theorem vq4{K:Frag}{x:Sl}{ds:List D}(ok:x.ok K H)(hd:x.d=.lst ds):tyV K "list" x.v H:=by
 obtain⟨a,xs,bs,e1,q1,_⟩:=items ok (.inl hd);rw[e1];rcases q1 with⟨_,z⟩|⟨z,_⟩
 ·exact .inl ⟨rfl,xs,z.sq⟩
 ·rw[hd]at z;cases z
theorem wwy{K:Frag}{x:Sl}(ok:x.ok K H)(b:Bool)(hb:b=false->xX x.sd=true):∃cs,RepL K H b x.d x.v cs/\(∀a∈cs,a∈x.as)/\(b=false->∀a∈cs,a∈x.own)/\(b=false->x.own.Nodup->cs.Nodup):=by
 cases b with
 | true=>exact⟨x.as,RepO.wk ok,λ_ h=>h,(λz=>by cases z),(λz=>by cases z)⟩
 | false=>
  have t:=hb rfl;unfold xX at t
  by_cases ho:x.o=.dp
  ·have e:x.own=x.as:=by unfold Sl.own;rw[ho]
   refine⟨x.as,?_,λ_ h=>h,λ_ a h=>by rw[e];exact h,λ_ n=>by rw[e]at n;exact n⟩;have:=ok;unfold Sl.ok at this;rw[ho]at this;exact this
  ·have hp:x.d.pure=true:=by
    rcases Bool.or_eq_true_iff.mp t with z|z
    ·exact absurd (by simpa using z) ho
    ·exact z
   obtain⟨z,rp⟩:=RepL.pu (g':=false) (RepO.wk ok) hp;exact⟨[],rp,λ_ h=>(nomatch h),λ_ _ h=>(nomatch h),λ_ _=>Y6⟩
theorem Ww{α:Type}{l:List α}{i:Nat}{x:α}(h:l[i]?=some x):l.set i x=l:=by
 obtain⟨h1,h2⟩:=List.getElem?_eq_some_iff.mp h;rw[<-h2];simp
theorem mut1 {D':Ends} {f:List D->D->Option (List D)} {i:Nat} {r:Fl} {G:V->V->Hp->Prop} (m:Mt E O L) (w:World Z.K H L) (hc:qX f i c E=some r) (k:FlP Z pn D' O H L r)
  (g:∀ (l:Addr) (x:V) (xs:List V) (ds ds':List D) (d:D) (bs cs:List Addr) (H1:Hp) (gg:Bool),f ds d=some ds'->H1 l=some (.lst xs)->RepA Z.K H1 gg ds xs bs->RepL Z.K H1 gg d x cs ->
   (∀ xs' es,RepA Z.K H1 gg ds' xs' es->(∀a∈es,a∈bs\/a∈cs)->((bs++cs).Nodup->es.Nodup)->D'.nx O (upd H1 l (.lst xs')))->G (.ref l) x H1):
  ∃ v,O[i]?=some (some v)/\tyV Z.K "list" v H/\tQ Z q c O H (G v):=by
 unfold qX at hc;cases h0:E[i]? with
 | none=>rw[h0]at hc;cases hc
 | some s0 =>
  cases s0 with
  | none=>rw[h0]at hc;cases hc
  | some s0=>
   obtain ⟨o0,d0⟩:=s0;cases d0 with
   | lst ds0=>
    rw [h0,X9 (show K6 (some (some (o0,D.lst ds0)))=true from rfl)]at hc;obtain ⟨x0,a1,a2,a3,a4⟩:=m.get h0;refine ⟨x0.v,a4,vq4 (w.ok x0 (ww a1)) a3,?_⟩;refine qv2 m w hc k λE1 s h1 x L1 H1 e1 e2 m1 w1 st _=>?_
    cases hE:E1[i]? with
    | none=>rw[hE]at h1;cases h1
    | some s1=>
     cases s1 with
     | none=>rw[hE]at h1;cases h1
     | some s1=>
      obtain⟨oo,dd⟩:=s1;rw [hE]at h1;cases dd with
      | lst ds=>
       dsimp only at h1
       by_cases fm:oo=.no
       ·rw [X9 fm]at h1;cases h1
       ·rw [Xb fm]at h1;cases hfd:f ds s.2 with
        | none=>rw[hfd]at h1;cases h1
        | some ds'=>
         rw[hfd]at h1;obtain⟨y,b1,b2,b3,b4⟩:=m1.get hE;have hv:y.v=x0.v:=by rw[a4]at b4;exact(oq9 (oq9 b4)).symm
         obtain⟨l,xs,bs,c1,c2,c3,c4,c5⟩:=kxv (w1.ok y (lc9 _ (ww b1))) b3 (by rw[b2];exact fm);have ex0:x0.v=.ref l:=hv▸c1;rw[ex0];have wT:World Z.K H1 ([some x]++L1):=w1;have ll:=w1.head;have nd:=w1.nd;rw[kJ,Xd]at nd;have oT:j8 [some x]=x.own:=by simp
         have fT:jZ [some x]=x.frz:=by simp
         by_cases hd:oo=.dp/\xX s=true
         ·rw[X9 hd]at h1;cases oq9 h1;have hyo:y.o=.dp:=b2.trans hd.1;rw[hyo]at c5;obtain⟨cs,r1,h3,h4,h5⟩:=wwy ll false λ_=>by rw[show x.sd=s from by simp[Sl.sd,e1,e2]];exact hd.2
          refine g l x.v xs ds ds' s.2 bs cs H1 false hfd c2 c5 (by rw[<-e2];exact r1) λxs' es re he hn=>?_
          have ynd:(bs++cs).Nodup:=by
           have yo:y.own=l::bs:=by unfold Sl.own;rw[hyo,c3]
           obtain⟨A,B,e,_⟩:=jxj b1;have q:=nd.2.1;rw[e,jW,kJ,Xd]at q;have q2:=(List.nodup_append.mp q.2.1).1;rw[yo]at q2;rw[Xd];refine⟨(List.nodup_cons.mp q2).2,h5 rfl nd.1,λa ha b hb ml=>?_⟩;subst ml;exact nd.2.2 a (h4 rfl a hb) a (mem_owned.mpr ⟨y,ww b1,by rw[yo];exact lc9 _ ha⟩) rfl
          obtain⟨w3,s3⟩:=kqq (o':=.dp) (ds':=ds') (xs':=xs') wT b1 c2 c3 c4 c1 re (.inr ⟨rfl,hyo,hn ynd,λa ha=>(he a ha).imp id λz=>by rw[oT];exact h4 rfl a z⟩);refine k O _ _ Pn.refl ?_ w3 (st.trans s3);have:=m1.set (x:=⟨.dp,.lst ds',y.v,l::es⟩) i;rw[Ww b4]at this;exact this
         ·rw[Xb hd]at h1;cases oq9 h1;have c6:RepA Z.K H1 true ds xs bs:=by
           cases hb:(y.o != .dp)with|true=>rw[hb]at c5;exact c5|false=>rw[hb]at c5;exact c5.wk
          refine g l x.v xs ds ds' s.2 bs x.as H1 true hfd c2 c6 (by rw[<-e2];exact RepO.wk ll) λxs' es re he hn=>?_
          obtain⟨w3,s3⟩:=kqq (o':=.rt) (ds':=ds') (xs':=xs') wT b1 c2 c3 c4 c1 re (.inl ⟨rfl,λa ha=>(he a ha).imp id λz=>by rw[oT,fT];exact Sl.as_of z⟩);refine k O _ _ Pn.refl ?_ w3 (st.trans s3);have:=m1.set (x:=⟨.rt,.lst ds',y.v,l::es⟩) i;rw[Ww b4]at this;exact this
      |_=>cases h1
   |_=>rw[h0]at hc;cases hc
theorem wwc{i:Nat}{o:Expr}{apos au pos:Pos}(hb:PE X (.Call (.Attribute o "append" apos) [e] [] au) (tBM Z.K "list" kxo (JX i) (qze (tQ Z q c) wv4)))(hs:autoParam (swapsWith (.Call (.Attribute o "append" apos) [e] [] au) none pos.line X.env=pure false) Ŕ):
  QS X Z pn (qX qW i c) (.Expr (.Call (.Attribute o "append" apos) [e] [] au) pos):=Kk (vvk hb hs) λD O H az=>ex7 az λE L r m w hc k=>
 mut1 (G:=λv x H1=>kxo v [x] H1 λ_ H2=>D.nx O H2) m w hc k λl x xs ds ds' d bs cs H1 gg hf hH ra rx fin=>by
  unfold qW at hf
  by_cases hl:ds.length<big
  ·rw[X9 hl]at hf;cases oq9 hf;exact⟨l,xs,x,rfl,rfl,hH,by rw[<-ra.len];exact hl,fin (xs++[x]) (bs++cs) (RepA.snoc rx ra) (λa ha=>aA ha) λh=>h⟩
  ·rw[Xb hl]at hf;cases hf
end
section
variable {X:Cx}{Z:Fx0}{pn:List Nat}{q:Bool}{a b c:Ex}{tg e ea eb:Expr}{O:L2.St}{H:Hp}{L:Ls}{E:En}{pos p:Pos}
theorem vz9{pins:List (Addr×Obj)}{H1:Hp}{s1:Shared}{x:Str}{t:Tok}{R:It->Hp->Prop}(I1:L2.Inv X pins O H1 s1)(q:R (Its x) H1):wpAny (model X.prog X.w) X.A (pyIter (.str x t)) (PIE X pins O tg R) X.xe s1:=by
 have fp:∀b∈[s1.heap.objs.size],wK X pins H1 b:=λb hb=>by
  have e:b=s1.heap.objs.size:=by simpa using hb
  subst e;exact I1.fpOk (X8 _) (I1.hok.fresh (X8 _))
 cases ha:x.cps.all (· < 128)
 ·exact wpAny_pyIter_wide ha ⟨s1.heap.objs.size,[s1.heap.objs.size],_,_,H1,rfl,I1.kept (t':=s1.toks) λb o e=>X3 _ e,kzq (λA' hA=>PySem.Walks.strWide hA _ x t) (λ_ _ _ _ _ st h=>wpAny_pyIter_striter_wide st h) ⋯,⟨_,X6 _ rfl,rfl,rfl⟩,fp,q⟩
 ·exact wpAny_pyIter_ascii ha ⟨s1.heap.objs.size,[s1.heap.objs.size],_,_,H1,rfl,I1.kept (t':=s1.toks) λb o e=>X3 _ e,kzq (λA' hA=>PySem.Walks.strAscii hA _ x t) (λ_ _ _ _ _ st h=>wpAny_pyIter_striter_ascii st h) ⋯,⟨_,X6 _ rfl,rfl,rfl⟩,fp,q⟩
theorem wka{K:Frag}{H:Hp}(c:Nat):Sl.ok K H ⟨.no,.str ⟨#[c]⟩,.str ⟨#[c]⟩,[]⟩:=by
 show RepL K H true _ _ _;exact Kv (show(1:Nat)<=sizeLine by decide)
theorem wk9{K:Frag}{H:Hp}(i:Int):Sl.ok K H ⟨.no,.int i,.int i,[]⟩:=by
 show RepL K H true _ _ _;exact vX
def iAny(K:Frag)(tl:TE):TI:=fun O H R=>tl O H λx H1=>(∃a xs,x=.ref a/\SqL K H1 a xs/\(xs.length<=sizeLine->R (Itl K a) H1))\/(∃a xs,x=.ref a/\SqT K H1 a xs/\(xs.length<=sizeLine->R (Itt K a) H1))\/∃z,x=.str z/\R (Its z) H1
theorem vkv{l:Expr}{tl:TE}(hl:PE X l tl):PI X tg l (iAny X.K tl):=by
 intro pins s O H R I h;have h':tl O H λx H1=>(∃a xs,x=.ref a/\SqL X.K H1 a xs/\(xs.length<=sizeLine->R (Itl X.K a) H1))\/(∃a xs,x=.ref a/\SqT X.K H1 a xs/\(xs.length<=sizeLine->R (Itt X.K a) H1))\/∃z,x=.str z/\R (Its z) H1:=h
 refine thn (hl pins s O H _ I h') λv s1 ⟨x,H1,I1,r1,q1⟩=>?_
 rcases q1 with⟨a,xs,rfl,hq,q⟩|⟨a,xs,rfl,hq,q⟩|⟨z,rfl,q⟩
 ·cases r1;obtain⟨ai,rv,p,hz⟩:=I1.list hq;refine wpAny_pyIter_list p.isList ?_;refine⟨s1.heap.objs.size,[s1.heap.objs.size],_,_,H1,rfl,I1.kept (t':=s1.toks) λb o e=>X3 _ e,qqo a _,⟨_,X6 _ rfl,rfl,rfl⟩,λb hb=>?_,q hz⟩;have e:b=s1.heap.objs.size:=by simpa using hb
  subst e;exact I1.fpOk (X8 _) (I1.hok.fresh (X8 _))
 ·cases r1;obtain⟨ai,rv,p,hz⟩:=I1.tuple hq;refine wpAny_pyIter_tuple (show s1.heap.IsTuple a ai.toArray from p) ?_;refine⟨s1.heap.objs.size,[s1.heap.objs.size],_,_,H1,rfl,I1.kept (t':=s1.toks) λb o e=>X3 _ e,qk9 a _,⟨_,X6 _ rfl,rfl,rfl⟩,λb hb=>?_,q hz⟩;have e:b=s1.heap.objs.size:=by simpa using hb
  subst e;exact I1.fpOk (X8 _) (I1.hok.fresh (X8 _))
 ·obtain⟨t,rfl⟩:=r1;exact vz9 I1 q
theorem zz(h:QE X Z q c e)(hK:autoParam (X.K=Z.K) Ŕ):QI X Z q tg (itS c) e:=λpins s O H R I az=>ex8 az λE L r m w hc xc k=>by
 refine(hK▸vkv h) pins s O H R I ?_;refine WK m w (show bnd (c E) _=some r from hc) xc λE1 s h1 x L1 H1 e1 e2 m1 w1 st sm=>?_
 obtain⟨ds,hd,rfl⟩:=Jq h1;have ok:=w1.head;have wT:World Z.K H1 (L1++[x.let].map some):=by
  refine World.comm (L:=[some x.let]) ?_;exact w1.tail.consNo (V1 ok) rfl λb hb=>w1.apart b hb
 have sT:Step H L H1 (L1++[x.let].map some):=by
  refine⟨st.keep,λb hb=>?_,λb hb=>?_⟩
  ·have:b∈j8 L1:=by simpa [VJ]using hb
   exact st.own b (by rw[kJ];exact lr9 _ this)
  ·have:b∈jZ L1\/b∈x.as:=by simpa [VJ]using hb
   rcases this with z|z
   ·exact st.frz b (by rw[vY];exact lr9 _ z)
   ·exact kqi st b z
 cases hx:x.d with
 | lst es=>
  rw[<-e2,hx]at hd;have jl:es=ds:=oq9 hd;subst jl;obtain⟨a,xs,bs,ev,q3,r3,h3,_⟩:=items ok (.inl hx);have q3:LsR Z.K H1 a xs:=by rcases q3 with⟨_,z⟩|⟨z,_⟩;exact z;rw[hx]at z;cases z
  have again:∀H2:Hp,(∀t∈[x.let],t.ok Z.K H2)->∃ys cs,SqL Z.K H2 a ys/\RepA Z.K H2 true es ys cs/\∀b∈cs,b∈x.as:=λH2 hok=>by
   obtain⟨a',ys,cs,n6,q4,r4,h4,_⟩:=items (hok x.let (aB rfl)) (.inl hx);have:a'=a:=by have:=n6.symm.trans ev;exact V.ref.inj this
   subst this;rcases q4 with⟨_,z⟩|⟨z,_⟩
   ·exact⟨ys,cs,z.sq,r4,h4⟩
   ·rw[show x.let.d=D.lst es from hx]at z;cases z
  refine .inl ⟨a,xs,ev,q3.sq,λav=>k _ _ rfl (Itl Z.K a) [x.let] L1 H1 m1 wT sT (by rw[r3.len];exact av) (λhq=>(sm hq).1) ⟨λt ht=>by rw[aC ht];rfl,λi H2 hok hi=>?_,λH2 hok=>?_,λi H2 v H3 d hok hy gu=>?_⟩⟩
  ·obtain⟨ys,cs,s1,s2,_⟩:=again H2 hok;have hl:=s2.len;exact⟨ys,ys[i]'⋯,s1,X2 ⋯⟩
  ·obtain⟨ys,cs,s1,s2,_⟩:=again H2 hok;exact⟨ys,s1,by rw[s2.len];exact X8 _⟩
  ·obtain⟨ys,cs,s1,s2,s3⟩:=again H2 hok;obtain⟨e3,hy⟩:=hy;subst e3;obtain⟨v',ic,f1,f2,f3⟩:=s2.get gu;have:v'=v:=by have:=hy ys s1;rw[f1]at this;exact oq9 this
   subst this;exact⟨⟨.no,d,v',ic⟩,rfl,rfl,rfl,xQ,f2,λb hb=>⟨x.let,aB rfl,s3 b (f3 b hb)⟩⟩
 | tup es=>
  rw[<-e2,hx]at hd;have jl:es=ds:=oq9 hd;subst jl;obtain⟨a,xs,bs,ev,q3,r3,h3,_⟩:=items ok (.inr hx);have q3:SqT Z.K H1 a xs:=by rcases q3 with⟨z,_⟩|⟨_,z⟩;rw[hx]at z;cases z;exact z
  have again:∀H2:Hp,(∀t∈[x.let],t.ok Z.K H2)->∃ys cs,SqT Z.K H2 a ys/\RepA Z.K H2 true es ys cs/\∀b∈cs,b∈x.as:=λH2 hok=>by
   obtain⟨a',ys,cs,n6,q4,r4,h4,_⟩:=items (hok x.let (aB rfl)) (.inr hx);have:a'=a:=by have:=n6.symm.trans ev;exact V.ref.inj this
   subst this;rcases q4 with⟨z,_⟩|⟨_,z⟩
   ·rw[show x.let.d=D.tup es from hx]at z;cases z
   ·exact⟨ys,cs,z,r4,h4⟩
  refine .inr (.inl ⟨a,xs,ev,q3,λav=>k _ _ rfl (Itt Z.K a) [x.let] L1 H1 m1 wT sT (by rw[r3.len];exact av) (λhq=>(sm hq).1) ⟨λt ht=>by rw[aC ht];rfl,λi H2 hok hi=>?_,λH2 hok=>?_,λi H2 v H3 d hok hy gu=>?_⟩⟩)
  ·obtain⟨ys,cs,s1,s2,_⟩:=again H2 hok;have hl:=s2.len;exact⟨ys,ys[i]'⋯,s1,X2 ⋯⟩
  ·obtain⟨ys,cs,s1,s2,_⟩:=again H2 hok;exact⟨ys,s1,by rw[s2.len];exact X8 _⟩
  ·obtain⟨ys,cs,s1,s2,s3⟩:=again H2 hok;obtain⟨e3,hy⟩:=hy;subst e3;obtain⟨v',ic,f1,f2,f3⟩:=s2.get gu;have:v'=v:=by have:=hy ys s1;rw[f1]at this;exact oq9 this
   subst this;exact⟨⟨.no,d,v',ic⟩,rfl,rfl,rfl,xQ,f2,λb hb=>⟨x.let,aB rfl,s3 b (f3 b hb)⟩⟩
 | str z=>
  rw[<-e2,hx]at hd;have hd:(if z.cps.size<=big then some (z.cps.toList.map λc=>D.str ⟨#[c]⟩)else none)=some ds:=hd
  split at hd
  ·rename_i hz;cases oq9 hd;refine .inr (.inr ⟨z,(z6 ok hx).1,k _ _ rfl (Its z) [] L1 H1 m1 (by simpa using w1.tail) (by simpa using (st.trans Step.drop)) (by rw[X4,Xi];exact hz) (λhq=>(sm hq).1) ⟨λt ht=>(nomatch ht),λi H2 _ hi=>?_,λH2 _=>?_,λi H2 v H3 d _ hy gu=>?_⟩⟩)
   ·show i<z.cps.size
    simpa using hi
   ·show(z.cps.toList.map λc=>D.str ⟨#[c]⟩).length=z.cps.size;simp
   ·obtain⟨e3,cc,hc,rfl⟩:=hy;subst e3;rw[Xn,Yb,hc]at gu;cases oq9 gu;exact⟨⟨.no,.str ⟨#[cc]⟩,.str ⟨#[cc]⟩,[]⟩,rfl,rfl,rfl,xQ,wka cc,λb hb=>(nomatch hb)⟩
  ·cases hd
 |non=>rw[<-e2,hx]at hd;cases hd|bl _=>rw[<-e2,hx]at hd;cases hd|int _=>rw[<-e2,hx]at hd;cases hd|dct _=>rw[<-e2,hx]at hd;cases hd|obj _ _=>rw[<-e2,hx]at hd;cases hd
theorem qk7{K:Frag}(lo hi:Int):Walks K (Itr lo (hi - lo).toNat) [] (k7 lo hi):=by
 have hl:(k7 lo hi).length=(hi - lo).toNat:=by simp[k7]
 refine⟨λt ht=>(nomatch ht),λi H _ kt=>by rw[hl]at kt;exact kt,λH _=>by rw[hl];exact X8 _,λi H v H' d _ hy hd=>?_⟩;obtain⟨e,rfl⟩:=hy;subst e;unfold k7 at hd;rw[Xn]at hd;cases hr:(List.range (hi - lo).toNat)[i]? with
 | none=>rw[hr]at hd;cases hd
 | some j=>
  rw[hr]at hd;have:j=i:=by
   obtain⟨_,h2⟩:=List.getElem?_eq_some_iff.mp hr
   simpa using h2.symm
  subst this;cases oq9 hd;exact⟨⟨.no,.int (lo+(j:Int)),.int (lo+(j:Int)),[]⟩,rfl,rfl,rfl,xQ,wk9 _,λb hb=>(nomatch hb)⟩
theorem jxr{i:Int}(h:xj i=true):-(2 ^ 62)<=i/\i<2 ^ 62:=by
 unfold xj at h
 simpa using h
theorem J9(ha:QV X Z q a ea)(hg:Gl X "range")(hm:X.mg "range"=none)(cb:autoParam (starEach [ea] X.env=[(false,eval ea X.env)]) Ŕ):QI X Z q tg (vK a) (.Call (.Name "range" p) [ea] [] pos):=λpins s O H R I az=>ex8 az λE L r m w hc xc k=>by
 refine(qvr hg hm (qY ha wW cb) cb) pins s O H R I ?_;refine vk m w (show bnd (a E) _=some r from hc) xc λE1 s h1 x L1 H1 e1 e2 m1 w1 ok fr sr st sm=>?_
 cases hx:s.2 with
 | int j=>
  rw[hx]at h1;dsimp only at h1
  split at h1
  ·rename_i hj;cases oq9 h1;obtain⟨j1,j2⟩:=jxr hj.1;have hv:=v5 ok (e2.trans hx);refine⟨j,by rw[hv],j1,j2,?_⟩;have wk:=qk7 (K:=Z.K) 0 j;rw[Int.sub_zero]at wk;exact k _ _ rfl (Itr 0 j.toNat) [] L1 H1 m1 (by simpa using w1) (by simpa using st) (by simp only[k7,X4,Yj,Int.sub_zero];exact hj.2) sm wk
  ·cases h1
 |_=>rw[hx]at h1;cases h1
theorem Mt.clr:∀{R:List Nat} {E:En} {L:Ls},Mt E O L->Mt (Q.clr R E) O (Q.clr R L)
 | [],_,_,m=>m
 | j::R,E,L,m=>by
  have un:∀{E:En} {O:L2.St} {L:Ls} (j:Nat),Mt E O L->Mt (E.set j none) O (L.set j none):=by
   intro E O L j m
   induction m generalizing j with
   |nil=>exact .nil
   |un m ih=>cases j with|zero=>exact .un m|succ j=>exact .un (ih j)
   |cons m ih=>cases j with|zero=>exact .un m|succ j=>exact .cons (ih j)
  show Mt (Q.clr R (E.set j none)) O (Q.clr R (L.set j none));exact Mt.clr (un j m)
theorem Mt.drop:∀{E:En} {O:L2.St} {L:Ls} (k:Nat),Mt E O L->Mt (E.drop k) (O.drop k) (L.drop k)
 |_,_,_,0,m=>m|_,_,_,k+1,.nil=>.nil|_,_,_,k+1,.un m=>m.drop k|_,_,_,k+1,.cons m=>m.drop k
theorem Mt.none_at:∀{E:En} {O:L2.St} {L:Ls} {j:Nat},Mt E O L->E[j]?=some none->L[j]?=some none
 |_,_,_,_,.nil,h=>by simp at h|_,_,_,0,.un _,_=>by simp|_,_,_,j+1,.un m,h=>by simpa using m.none_at (j:=j) (by simpa using h)|_,_,_,0,.cons _,h=>by simp at h|_,_,_,j+1,.cons m,h=>by simpa using m.none_at (j:=j) (by simpa using h)
theorem Mt.pick:∀{R:List Nat},Mt E O L->Mt (R.map (at' E)) (R.map (at' O)) (R.map (at' L))
 | [],_=>.nil
 | j::R,m=>by
  rw[List.map_cons,List.map_cons,List.map_cons];cases hE:E[j]? with
  | none=>
   have hl:=m.len;have:L[j]?=none:=by rw[List.getElem?_eq_none_iff]at hE ⊢;omega
   rw[show at' E j=none from by unfold at';rw[hE];rfl,show at' L j=none from by unfold at';rw[this];rfl];exact .un m.pick
  | some s=>
   cases s with
   |none=>
    have:L[j]?=some none:=m.none_at hE;rw[show at' E j=none from by unfold at';rw[hE];rfl,show at' L j=none from by unfold at';rw[this];rfl];exact .un m.pick
   |some s=>
    obtain⟨o,d⟩:=s;obtain⟨x,h1,h2,h3,h4⟩:=m.get hE;rw[show at' E j=some (x.o,x.d)from by unfold at';rw[hE,h2,h3];rfl,show at' L j=some x from by unfold at';rw[h1];rfl,show at' O j=some x.v from by unfold at';rw[h4];rfl];exact .cons m.pick
theorem Mt.rep:∀{k:Nat},Mt E O L->Mt (List.replicate k none++E) (List.replicate k none++O) (List.replicate k none++L)
 |0,m=>by simpa using m
 |k+1,m=>by
  rw[List.replicate_succ,List.replicate_succ,List.replicate_succ];exact .un m.rep
theorem Mt.back:∀{R:List Nat} {B:En} {τ:L2.St} {M:Ls} {E:En} {L:Ls},Mt E O L->Mt B τ M->(∀(i j:Nat) (v:V),R[i]?=some j->τ[i]?=some (some v)->O[j]?=some (some v))->Mt (Q.back R B E) O (Q.back R M L)
 | [],B,τ,M,E,L,m,_,_=>by simpa [Q.back]using m| j::R,_,_,_,E,L,m,.nil,_=>by simpa [Q.back]using m
 | j::R,_,_,_,E,L,m,.un mB,h=>by
  have un:∀{E:En} {O:L2.St} {L:Ls} (j:Nat),Mt E O L->Mt (E.set j none) O (L.set j none):=by
   intro E O L j m
   induction m generalizing j with
   |nil=>exact .nil
   |un m ih=>cases j with|zero=>exact .un m|succ j=>exact .un (ih j)
   |cons m ih=>cases j with|zero=>exact .un m|succ j=>exact .cons (ih j)
  show Mt (Q.back R _ (E.set j none)) O (Q.back R _ (L.set j none));exact Mt.back (un j m) mB λi jj v e1 e2=>h (i+1) jj v (by simpa using e1) (by simpa using e2)
 |j::R,_,_,_,E,L,m,.cons (x:=x) mB,h=>by
  have h0:=h 0 j x.v (by simp) (by simp);have m1:=m.set (x:=x) j;rw[Ww h0]at m1;show Mt (Q.back R _ (E.set j _)) O (Q.back R _ (L.set j _));exact Mt.back m1 mB λi jj v e1 e2=>h (i+1) jj v (by simpa using e1) (by simpa using e2)
section
variable {iter ei:Expr}{dq:List Expr}{scope:Scope}{N:List Str}{k:Nat}{R:List Nat}{it:Ev (List D)}{tt:Tg}{u:Ts}{o:Own}{q1 q2:Bool}
theorem vwd:JK k R O=List.replicate k none++R.map (at' O):=rfl
theorem wws{K:Frag}{M:Ls}(hR:R.Nodup)(w:World K H (L++M)):World K H ((List.replicate k none++R.map (at' L))++(Q.clr R L++M))/\Step H (L++M) H ((List.replicate k none++R.map (at' L))++(Q.clr R L++M)):=by
 have p:(sls (L++M)).Perm (sls ((List.replicate k none++R.map (at' L))++(Q.clr R L++M))):=by
  have:=qju (R:=R) (L:=L) hR;rw[Vv]at this;simp only[Vv,vqz,List.nil_append];rw[<-Y3];exact(this.append_right _).symm
 exact⟨w.same p,Step.refl.same (List.Perm.refl _) p⟩
theorem wki{K:Frag}{B:Ls}{M:Ls}{H2:Hp}(hR:R.Nodup)(hr:∀j∈R,j<L.length)(hB:B.length=k+R.length)(w:World K H2 (B++(Q.clr R L++M))):World K H2 (Q.back R (B.drop k) (Q.clr R L)++M)/\Step H2 (B++(Q.clr R L++M)) H2 (Q.back R (B.drop k) (Q.clr R L)++M):=by
 have p:=kx9 (R:=R) (B:=B.drop k) (L:=Q.clr R L) hR (λj hj=>qxm hj) (λj hj=>by rw[qxl];exact hr j hj) (by rw[Yf,hB];omega);have p2:(sls (Q.back R (B.drop k) (Q.clr R L)++M)).Perm (sls (B.drop k++(Q.clr R L++M))):=by
  rw[Vv,<-Y3,Vv (B.drop k++Q.clr R L)];exact p.append_right _
 have sub:(sls (B.drop k++(Q.clr R L++M))).Sublist (sls (B++(Q.clr R L++M))):=by
  rw[Vv,Vv B];refine List.Sublist.append ?_ (Yq _);unfold sls;exact(List.drop_sublist k B).filterMap _
 exact⟨(w.sub sub).same p2.symm,(Step.refl.sub sub).same (List.Perm.refl _) p2.symm⟩
theorem kj5:∀{is:List Nat} {es:List D} {E E':En},setAll is es E=some E'->E'.length=E.length
 |[],[],_,_,h=>by cases oq9 h;rfl|[],_::_,_,_,h=>by cases h|_::_,[],_,_,h=>by cases h|i::is,d::es,E,E',h=>by rw[kj5 (E:=E.set i (some (.no,d))) h,Yt]
theorem vvd{t:Tg}{d:D}{E E':En}(h:t.put d E=some E'):E'.length=E.length:=by
 cases t with
 |n i=>cases oq9 h;rw[Yt]
 |t is=>
  cases d with|tup es=>exact kj5 (show setAll is es E=some E' from h)|lst es=>exact kj5 (show setAll is es E=some E' from h)|_=>cases h
theorem kz5{nN:Nat}{Q:VK}(hσ:O.length=nN)(hR:R.Nodup)(hr:∀j∈R,j<nN)(h:tQ Z q (cLC o k R it tt u c) O H Q):tLC (tIS Z q it) (tG Z ((List.range R.length).map (k + ·)) tt) (tT Z q u) (tQ Z q c) k R O H Q:=by
 obtain⟨E,L,r,m,w,ig,xc,kk⟩:=h;have ig:bnd (it E) (λE ds=>match lcL tt u c ds (Q4 k R E) []with
  | some (.ok B xs)=>mkL o (J0 k R B E) xs| some (.exc B e)=>some (.exc (J0 k R B E) e)
  | none=>none)=some r:=ig
 rcases xw ig with⟨E1,ds,h1,h2⟩|⟨E1,cc,h1,h2⟩
 rotate_left
 ·exact⟨E,L,_,m,w,h1,xc.map h2,λE' s' z=>by cases z⟩
 refine⟨E,L,_,m,w,h1,(λ_ _ z=>by cases z),λE' ds' z J T L1 H1 m1 w1 st hz sm wk=>?_⟩;injection z with z1 z2;subst z1 z2;have hL1:∀j∈R,j<L1.length:=λj hj=>by have:=m1.len;have:=hr j hj;omega
 obtain⟨wB,sB⟩:=wws (k:=k) hR w1;cases hrB:lcL tt u c ds (Q4 k R E1) []with
 | none=>rw[hrB]at h2;cases h2
 | some rB=>
  rw [hrB]at h2;have jf:∀{H2:Hp} {A B:Ls},World Z.K H2 (A++(B++(_root_.Q.clr R L1++T.map some)))->∀t∈T,t.ok Z.K H2:=λw2 t ht=>w2.ok t (lr9 _ (lr9 _ (lr9 _ (Xk ht))))
  have mB0:Mt (Q4 k R E1) (JK k R O) (List.replicate k none++R.map (at' L1)):=(m1.pick (R:=R)).rep;have qu:∀{B:En} {LB:Ls} {τ:L2.St} {H2:Hp} {A:Ls},Mt B τ LB->τ.length=k+R.length->Pn ((List.range R.length).map (k + ·)) (JK k R O) τ->World Z.K H2 (LB++(A++(_root_.Q.clr R L1++T.map some))) ->
    Mt (J0 k R B E1) O (_root_.Q.back R (LB.drop k) (_root_.Q.clr R L1))/\World Z.K H2 (A++_root_.Q.back R (LB.drop k) (_root_.Q.clr R L1))/\Step H2 (LB++(A++(_root_.Q.clr R L1++T.map some))) H2 (A++_root_.Q.back R (LB.drop k) (_root_.Q.clr R L1)):=fun {B LB τ H2 A} mB lB pB wB2=>by
   have hl:LB.length=k+R.length:=by rw[mB.len.2];exact lB
   have pm:(LB++(A++(_root_.Q.clr R L1++T.map some))).Perm (LB++(_root_.Q.clr R L1++(A++T.map some))):=by
    refine List.Perm.append_left _ ?_;rw [<-Y3,<-Y3];exact List.Perm.append_right _ List.perm_append_comm
   obtain⟨w3,s3⟩:=wki (k:=k) hR hL1 hl (wB2.perm pm);have mi:(_root_.Q.back R (LB.drop k) (_root_.Q.clr R L1)++(A++T.map some)).Perm ((A++_root_.Q.back R (LB.drop k) (_root_.Q.clr R L1))++T.map some):=by
    rw [<-Y3];exact List.Perm.append_right _ List.perm_append_comm
   refine⟨?_,(w3.perm mi).left,(s3.perm pm.symm mi).trans Step.dropT⟩;refine Mt.back (m1.clr) (mB.drop k) λi j v e1 e2=>?_
   have hi:i<R.length:=(List.getElem?_eq_some_iff.mp e1).1;have e3:=pB (k+i) (List.mem_map.mpr ⟨i,List.mem_range.mpr hi,rfl⟩);rw [List.getElem?_drop,e3,vwd,List.getElem?_append_right (by simp),Yv,show k+i - k=i from by omega,Xn,e1]at e2;have e4:at' O j=some v:=by simpa using e2
   unfold at' at e4;cases hh:O[j]? with| none=>rw[hh]at e4;cases e4| some s=>rw[hh]at e4;rw[show s=some v from e4]
  refine⟨λi n ys τ H2=>∃(B:En) (LB:Ls) (aq:List Sl),Mt B τ LB/\τ.length=k+R.length/\Pn ((List.range R.length).map (k + ·)) (JK k R O) τ/\World Z.K H2 (LB++(aq.map some++(_root_.Q.clr R L1++T.map some)))/\Step H L H2 (LB++(aq.map some++(_root_.Q.clr R L1++T.map some))) /\
   ys=aq.map Sl.v/\lcL tt u c (ds.drop i) B (aq.map Sl.sd)=some rB/\i<=ds.length/\aq.length<=i/\n=ds.length - i/\(q=true->k4 H H2/\∀b∈j8 (aq.map some),H b=none),⟨_,Q4 k R E1,_,[],mB0,by simp[JK],Pn.refl,wB,st.trans sB,rfl,hrB,Yg _,Yg _,rfl,λhq=>⟨sm hq,λ_ z=>(nomatch z)⟩⟩,?_⟩
  rintro i n ys τ H2 ⟨B,LB,aq,mB,lB,pB,wB2,sB2,rfl,f1,hi,bb,rfl,smB⟩
  by_cases bv:i<ds.length
  rotate_left
  ·have e:i=ds.length:=⋯
   subst e;rw [List.drop_length]at f1;cases oq9 f1;obtain⟨m3,w3,s3⟩:=qu mB lB pB wB2;refine .inl ⟨wk.stop H2 (jf wB2) (λhq=>(smB hq).1),by rw[X4];omega,?_⟩;exact qje (O:=O) (Q:=Q) (o:=o) (xs:=aq) h2 rfl w3 (sB2.trans s3) smB kk m3
  ·have hd:ds.drop i=ds[i]::ds.drop (i+1):=List.drop_eq_getElem_cons bv;rw [hd]at f1;unfold lcL at f1;cases ce:tt.put ds[i] B with
   | none=>rw[ce]at f1;cases f1
   | some B2=>
    rw [ce]at f1;dsimp only at f1;refine .inr ⟨wk.go i H2 (jf wB2) (λhq=>(smB hq).1) bv,λv H3 hy=>?_⟩;obtain⟨z,zo,zd,zv,smz,rf,zas⟩:=wk.yld i H2 v H3 ds[i] (jf wB2) (λhq=>(smB hq).1) hy (X2 bv);have pm:(LB++(aq.map some++(_root_.Q.clr R L1++T.map some))).Perm ((LB++(aq.map some++_root_.Q.clr R L1))++T.map some):=by
     rw[<-Y3 (aq.map some),<-Y3]
    obtain⟨wz,sz⟩:=kq1 (wB2.perm pm) wk.no smz rf zo zas;have wz':World Z.K H3 ((some z::LB)++(aq.map some++(_root_.Q.clr R L1++T.map some))):=wz.perm (by
     rw[List.cons_append,List.cons_append];exact List.Perm.cons _ pm.symm)
    have sz':Step H2 (LB++(aq.map some++(_root_.Q.clr R L1++T.map some))) H3 ((some z::LB)++(aq.map some++(_root_.Q.clr R L1++T.map some))):=sz.perm pm.symm (by
     rw[List.cons_append,List.cons_append];exact List.Perm.cons _ pm.symm)
    refine⟨B,LB,z,B2,mB,wz'.left,zo,zv,by rw[zd];exact ce,fun τ2 LB2 p2 mB2 wB3 sB3=>?_⟩;obtain⟨w4,s4⟩:=stay wz' sB3 wB3;have lB2:τ2.length=k+R.length:=by
     have h1:=mB2.len.1;have h2:=mB.len.1;have h3:=vvd ce;omega
    have p3:=pB.trans p2;have qg:Step H L H3 (LB2++(aq.map some++(_root_.Q.clr R L1++T.map some))):=sB2.trans (sz'.trans s4);have gp:q=true->k4 H H3/\∀b∈j8 (aq.map some),H b=none:=λhq=>⟨qw (smB hq).1 smz,(smB hq).2⟩
    refine⟨λy H5=>∃(B:En) (LB:Ls) (f7:List Sl),Mt B τ2 LB/\World Z.K H5 (LB++(f7.map some++(_root_.Q.clr R L1++T.map some)))/\Step H L H5 (LB++(f7.map some++(_root_.Q.clr R L1++T.map some)))/\aq.map Sl.v++[y]=f7.map Sl.v/\f7.length=aq.length+1/\lcL tt u c (ds.drop (i+1)) B (f7.map Sl.sd)=some rB/\(q=true->k4 H H5/\∀b∈j8 (f7.map some),H b=none),
     λH5=>∃B LB,Mt B τ2 LB/\World Z.K H5 (LB++(aq.map some++(_root_.Q.clr R L1++T.map some)))/\Step H L H5 (LB++(aq.map some++(_root_.Q.clr R L1++T.map some)))/\lcL tt u c (ds.drop (i+1)) B (aq.map Sl.sd)=some rB/\(q=true->k4 H H5/\∀b∈j8 (aq.map some),H b=none),
     λy H5 ⟨B5,LB5,acc5,c1,c2,c3,c4,c5,c6,c7⟩=>⟨by rw[X4];omega,ds.length - (i+1),⋯,B5,LB5,acc5,c1,lB2,p3,c2,c3,c4,c6,bv,⋯,rfl,c7⟩,
     λH5 ⟨B5,LB5,c1,c2,c3,c6,c7⟩=>⟨ds.length - (i+1),⋯,B5,LB5,aq,c1,lB2,p3,c2,c3,rfl,c6,bv,⋯,rfl,c7⟩,?_⟩
    have xcB:∀{α:Type} {H6:Hp} {L6:Ls} {B6:En} {cc:Str} {A:Ls},rB=.exc B6 cc->World Z.K H6 (L6++(A++(_root_.Q.clr R L1++T.map some)))->Step H L H6 (L6++(A++(_root_.Q.clr R L1++T.map some)))->Xc Z τ2 H6 L6 (.exc B6 cc:Res α):=fun {α H6 L6 B6 cc A} er w6 s6 E7 c7 e7 C L7 H7 hm m7 w7 s7=>by
     injection e7 with e8 e9;subst e8 e9;subst er;cases oq9 h2;obtain⟨w8,s8⟩:=stay w6 s7 w7;obtain⟨m9,w9,s9⟩:=qu m7 lB2 p3 w8;exact xc _ _ rfl C _ H7 hm m9 w9.right ((s6.trans (s8.trans s9)).trans ⟨λ_ _ h _=>h,λa ha=>.inl (by rw[jW];exact lr9 _ ha),λa ha=>.inl (by rw[kX];exact lr9 _ ha)⟩)
    rcases xw f1 with⟨B4,kb,g1,g2⟩|⟨B4,cc,g1,g2⟩
    rotate_left
    ·exact⟨B2,LB2,_,mB2,wB3,g1,xcB g2 w4 qg,λE' s' z=>by cases z⟩
    refine⟨B2,LB2,_,mB2,wB3,g1,(λ_ _ z=>by cases z),λE' s' z LB4 H4 mB4 wB4 sB4 sm4=>?_⟩;injection z with z1 z2;subst z1 z2;obtain⟨w5,s5⟩:=stay w4 sB4 wB4;have ko:=qg.trans s5;cases kb with
    | false=>
     rw[Xb ⋯]at g2 ⊢;exact⟨B4,LB4,mB4,w5,ko,g2,λhq=>⟨qw (gp hq).1 (sm4 hq),(gp hq).2⟩⟩
    | true=>
     rw[X9 rfl]at g2 ⊢;rcases xw g2 with⟨B6,y,g3,g4⟩|⟨B6,cc,g3,g4⟩
     rotate_left
     ·exact⟨B4,LB4,_,mB4,wB4,g3,xcB g4 w5 ko,λE' s' z=>by cases z⟩
     refine⟨B4,LB4,_,mB4,wB4,g3,(λ_ _ z=>by cases z),λE' s' z x LB6 H6 ex ey mB6 wB6 sB6 sm6=>?_⟩;injection z with z1 z2;subst z1 z2;obtain⟨w7,s7⟩:=stay w5 sB6 wB6;have pm3:((some x::LB6)++(aq.map some++(_root_.Q.clr R L1++T.map some))).Perm (LB6++((aq++[x]).map some++(_root_.Q.clr R L1++T.map some))):=by
      rw[Xq,List.cons_append];have:(LB6++(aq.map some++[x].map some++(_root_.Q.clr R L1++T.map some)))=(LB6++aq.map some)++some x::(_root_.Q.clr R L1++T.map some):=by simp
      rw[this];refine List.Perm.trans ?_ List.perm_middle.symm;rw[Y3]
     refine⟨B6,LB6,aq++[x],mB6,w7.perm pm3,(ko.trans s7).perm (List.Perm.refl _) pm3,by simp,by simp,?_,λhq=>⟨qw (gp hq).1 (qw (sm4 hq) (sm6 hq).1),λb hb=>?_⟩⟩
     ·rw[Xq,show[x].map Sl.sd=[y]from by simp[Sl.sd,ex,ey]];exact g4
     ·rw[Xq,jW]at hb;rcases aA hb with hb|hb
      ·exact(gp hq).2 b hb
      ·have hb:b∈x.own:=by simpa using hb
       exact z9 (qw (gp hq).1 (sm4 hq)) ((sm6 hq).2 b hb)
theorem wz3(N:List Str)(hi:QI X Z q tg it iter)
  (hg:∀cl C s0 H0 fp,QG (lcE X scope N cl C s0 H0 fp Z.EX) Z ((List.range R.length).map (k + ·)) tt tg) (ht:∀cl C s0 H0 fp,PTs (lcE X scope N cl C s0 H0 fp Z.EX) dq (tT Z q u)) (he:∀cl C s0 H0 fp,QE (lcE X scope N cl C s0 H0 fp Z.EX) Z q c ei)
  (gx:xk X Z.EX) (top:z7 X) (hR:R.Nodup) (hr:∀j∈R,j<X.N.length) (hc:autoParam (X.calm=true) Ŕ) (hk:autoParam (scope.kind=.function) Ŕ) (ja:autoParam (KW X.N X.env.scope scope N k R=true) Ŕ) (hs:autoParam (∀x,foldedSetIterable iter X.env x=pure x) Ŗ):
  QE X Z q (cLC o k R it tt u c) (.ListComp ei [⟨tg,iter,dq,0⟩] scope pos):=λpins s O H Q I hw=>
 vky (EX:=Z.EX) N k R (wz1 hi) hg ht he gx top hc hk ja hs pins s O H Q I (kz5 I.len hR hr hw)
theorem ww4(N:List Str)(hi:QIS X Z q tg it iter)
  (hg:∀cl C s0 H0 fp,QG (lcE X scope N cl C s0 H0 fp Z.EX) Z ((List.range R.length).map (k + ·)) tt tg) (ht:∀cl C s0 H0 fp,PTs (lcE X scope N cl C s0 H0 fp Z.EX) dq (tT Z q u)) (he:∀cl C s0 H0 fp,QE (lcE X scope N cl C s0 H0 fp Z.EX) Z q c ei)
  (gx:xk X Z.EX) (top:z7 X) (hR:R.Nodup) (hr:∀j∈R,j<X.N.length) (hc:autoParam (X.calm=true) Ŕ) (hk:autoParam (scope.kind=.function) Ŕ) (ja:autoParam (KW X.N X.env.scope scope N k R=true) Ŕ) (hs:autoParam (∀x,foldedSetIterable iter X.env x=pure x) Ŗ):
  QE X Z q (cLC o k R it tt u c) (.ListComp ei [⟨tg,iter,dq,0⟩] scope pos):=λpins s O H Q I hw=>
 vky (EX:=Z.EX) N k R hi hg ht he gx top hc hk ja hs pins s O H Q I (kz5 I.len hR hr hw)
theorem qvm{EX:XK}{wi:TI}{g:TG}{tte:TT}{te:TE}{i:Nat}{y:Str}{py kg:Pos}(N:List Str)(k:Nat)(R:List Nat)(hN:X.N.Nodup)(hy:X.N[i]?=some y)(hx:Loc X.env.scope y)(hi:PI X tg iter wi)
  (hg:∀cl C s0 H0 fp,PG (lcE X scope N cl C s0 H0 fp EX) tg g) (ht:∀cl C s0 H0 fp,PTs (lcE X scope N cl C s0 H0 fp EX) dq tte) (he:∀cl C s0 H0 fp,PE (lcE X scope N cl C s0 H0 fp EX) ei te) (gx:xk X EX) (top:z7 X)
  (n9:autoParam (swapsWith (.ListComp ei [⟨tg,iter,dq,0⟩] scope pos) (some (.Name y py)) kg.line X.env=pure true) Ŕ)
  (hc:autoParam (X.calm=true) Ŕ) (hk:autoParam (scope.kind=.function) Ŕ) (ja:autoParam (KW X.N X.env.scope scope N k R=true) Ŕ) (hs:autoParam (∀x,foldedSetIterable iter X.env x=pure x) Ŗ)
  (hf:autoParam (X.fn y=true\/X.env.scope.names.lookup y=some .local) ś):
  PS X (.Assign [.Name y py] (.ListComp ei [⟨tg,iter,dq,0⟩] scope pos) kg) (λD O H=>tLC wi g tte te k R O H λv H1=>D.nx (O.set i (some v)) H1):=by
 intro pins s O H D I h;have sc:=qjh hk ja;obtain⟨cl,jy,dy,bp⟩:=kq7 (scope:=scope) (env:=X.env) λy hy e=>I.ok.has y.1 (sc.caps y hy e)
 rw[exec_Assign_Name_used _ _ _ _ n9];refine X0 (wpAny_standAt (X0 ?_));show wpAny _ X.A (do let _ <-comprehension (.ListComp ei [⟨tg,iter,dq,0⟩] scope pos) scope X.env _ (newList []) false (eval iter X.env) (some (assign (.Name y py) X.env))) _ _ s;refine X0 (thn (wpAny_comprehension_free (use:=some (assign (.Name y py) X.env)) (Q:=λ_ s'=>SP X pins D .next s') rfl hs jy sc.kind sc.names
  (thn (hi pins s O H _ I h) λv s1 h1=>thn h1 λitv s2 h2=>?_)) λ_ s' hq=>X1 (X1 hq))
 obtain⟨it,fp,tn,J,H2,e,I2,T,bo,f2,W,w0,fk⟩:=h2;subst e;refine kwe (EX:=EX) (RR:=λaq C=>compPost (model X.prog X.w) X.A X.xe (some (assign (.Name y py) X.env)) (λ_ s'=>SP X pins D .next s') aq C) hc top sc dy bp (hg cl) (ht cl) (he cl) I2 T bo f2 w0 fk ?_ ?_
 rotate_left
 ·intro D' C s' d9 σ' H' x T Cc fl hC t q;exact vq5 gx I2 f2 hC t q
 intro L C oC m ys H' s' I' eC nC fC q;show wpAny _ X.A (assign (.Name y py) X.env (.ref L)) _ _ s';refine wpAny_assign_Name (jwy I' hN hy hx (v:=.ref L) rfl (λkh I''=>?_) hf);have pC:=I''.pin (C,oC) (lr9 _ (lr9 _ (aB rfl)));refine⟨m,nC.at' λo e=>?_,λh' sb=>⟨_,_,I''.unpinned.turned (it:=C) (t':=kh.toks) (λb o hb e=>(sb.2 b hb).trans e) fC.1 fC.2.1 fC.2.2.2.1 fC.2.2.2.2.1 fC.2.2.2.2.2,q⟩⟩;rw[eC]at e;cases e;exact pC.1
theorem XY{i:Nat}{y:Str}{py kg:Pos}(N:List Str)(hN:X.N.Nodup)(hy:X.N[i]?=some y)(hx:Loc X.env.scope y)(hi:QI X Z q tg it iter)
  (hg:∀cl C s0 H0 fp,QG (lcE X scope N cl C s0 H0 fp Z.EX) Z ((List.range R.length).map (k + ·)) tt tg) (ht:∀cl C s0 H0 fp,PTs (lcE X scope N cl C s0 H0 fp Z.EX) dq (tT Z q u)) (he:∀cl C s0 H0 fp,QE (lcE X scope N cl C s0 H0 fp Z.EX) Z q c ei)
  (gx:xk X Z.EX) (top:z7 X) (hR:R.Nodup) (hr:∀j∈R,j<X.N.length) (hp:autoParam (i∉pn) ŕ)
  (n9:autoParam (swapsWith (.ListComp ei [⟨tg,iter,dq,0⟩] scope pos) (some (.Name y py)) kg.line X.env=pure true) Ŕ)
  (hc:autoParam (X.calm=true) Ŕ) (hk:autoParam (scope.kind=.function) Ŕ) (ja:autoParam (KW X.N X.env.scope scope N k R=true) Ŕ) (hs:autoParam (∀x,foldedSetIterable iter X.env x=pure x) Ŗ)
  (hf:autoParam (X.fn y=true\/X.env.scope.names.lookup y=some .local) ś):
  QS X Z pn (j9 i (cLC o k R it tt u c)) (.Assign [.Name y py] (.ListComp ei [⟨tg,iter,dq,0⟩] scope pos) kg):=
 wjf (q:=q) hp λpins s O H D I hw=>qvm N k R hN hy hx (wz1 hi) hg ht he gx top n9 hc hk ja hs hf pins s O H D I (kz5 I.len hR hr hw)
end
end
section
variable {X:Cx}{Z:Fx0}{K:Frag}{pn:List Nat}{q qa qb:Bool}{a b c:Ex}{u:Ts}{tg e ea eb:Expr}{O:L2.St}{H:Hp}{L:Ls}{E:En}{pos p:Pos}{x:Str}{id T:String}{r:List V->Hp->VK->Prop}{f:Sd->Option Sd}{g:Sd->Sd->Option Sd}
theorem Zx:PTs X [] (tT Z q _root_.Q.tYes):=λpins s O H Q I az=>ex8 az λE L r m w hc xc k=>by
 cases oq9 hc;exact vvf pins s O H Q I (k _ _ rfl L H m w Step.refl λ_=>xQ)
theorem qzs(h:QT X Z q u e):PTs X [e] (tT Z q u):=vve h
theorem wjd(hc:CallR X (.builtin id) r)(ad:Ad1 Z.K (λv H Q=>r [v] H Q) f)(ha:QV X Z q a ea)(hm:X.mg x=none)(hv:bootBuiltins x=some (.builtin id))(hg:autoParam (Gl X x) Ŕ)(hn:autoParam (x≠"__name__") ŕ)(df:autoParam ((x==("__debug__":Str))=false) ŕ)
  (he:autoParam (starEach [ea] X.env=(false,eval ea X.env)::starEach [] X.env) Ŕ) (bu:autoParam ((backTo pos (starEach [] X.env)).any (·.1)=false) Ŕ):QE X Z q (cF1 f a) (.Call (.Name x p) [ea] [] pos):=
 qk (kqr hc hg hm hv (qY ha wW he) hn df he bu) fun O H Q h=>XZ (r:=λv H Q=>r [v] H Q) ad h
theorem xJ(hc:CallR X (.type T) r)(ad:Ad1 Z.K (λv H Q=>r [v] H Q) f)(ha:QV X Z q a ea)(hm:X.mg x=none)(hv:bootBuiltins x=some (.type T))(hg:autoParam (Gl X x) Ŕ)(hn:autoParam (x≠"__name__") ŕ)(df:autoParam ((x==("__debug__":Str))=false) ŕ)
  (he:autoParam (starEach [ea] X.env=(false,eval ea X.env)::starEach [] X.env) Ŕ) (bu:autoParam ((backTo pos (starEach [] X.env)).any (·.1)=false) Ŕ):QE X Z q (cF1 f a) (.Call (.Name x p) [ea] [] pos):=
 qk (qvv hc hg hm hv (qY ha wW he) hn df he bu) fun O H Q h=>XZ (r:=λv H Q=>r [v] H Q) ad h
theorem wqs:Ad1 K (λv H Q=>qv9 K [v] H Q) (pu1 kY):=by
 intro H x s Q ok hf k;unfold pu1 at hf;have fin:∀n:Nat,kY x.d=some (.int n)->Q (.int n) H:=λn e=>by
  rw[show(x.o,x.d).2=x.d from rfl,e]at hf;cases oq9 hf;exact k ⟨.dp,.int n,.int n,[]⟩ H rfl rfl Vq
 cases hx:x.d with
 |lst ds=>
  obtain⟨l,xs,bs,e,q,r,_⟩:=items ok (.inl hx);refine .inl ⟨l,xs,by rw[e],?_,by rw[<-r.len];exact fin ds.length (by rw[hx];rfl)⟩;rcases q with⟨_,z⟩|⟨_,z⟩
  ·exact .inl (K7 z)
  ·exact .inr z
 |tup ds=>
  obtain⟨l,xs,bs,e,q,r,_⟩:=items ok (.inr hx);refine .inl ⟨l,xs,by rw[e],?_,by rw[<-r.len];exact fin ds.length (by rw[hx];rfl)⟩;rcases q with⟨_,z⟩|⟨_,z⟩
  ·exact .inl (K7 z)
  ·exact .inr z
 |str z=>
  obtain⟨e,hz⟩:=z6 ok hx;exact .inr (.inl ⟨z,by rw[e],hz,fin z.length (by rw[hx];rfl)⟩)
 |_=>rw[show(x.o,x.d).2=x.d from rfl,hx]at hf;cases hf
theorem qz4:Ad1 K (λv H Q=>qva [v] H Q) (pu1 Jw):=by
 intro H x s Q ok hf k;unfold pu1 Jw at hf;dsimp only at hf
 split at hf
 ·rename_i i e;cases oq9 hf;exact .inl ⟨i,by rw[v5 ok e],k ⟨.dp,.int _,.int _,[]⟩ H rfl rfl Vq⟩
 ·rename_i i e;cases oq9 hf;exact .inr (.inl ⟨i,by rw[WX ok e],k ⟨.dp,.int _,.int _,[]⟩ H rfl rfl Vq⟩)
 ·rename_i z e
  split at hf
  ·rename_i hz;cases ht:PySem.intText? z with
   |none=>rw[ht]at hf;cases hf
   |some n=>
    rw[ht]at hf;cases oq9 hf;exact .inr (.inr ⟨z,n,by rw[(z6 ok e).1],ht,hz,k ⟨.dp,.int _,.int _,[]⟩ H rfl rfl Vq⟩)
  ·cases hf
 ·cases hf
theorem Qj:Ad1 K (λv H Q=>qv8 K [v] H Q) xZ:=by
 intro H x s Q ok hf k;unfold xZ at hf;dsimp only at hf
 split at hf
 ·rename_i ds e
  split at hf
  ·rename_i hl;cases oq9 hf;obtain⟨l,xs,bs,ev,q3,r3,h3⟩:=J7 ok (.inl e) hl;have q3:LsR K H l xs:=by rcases q3 with⟨_,z⟩|⟨z,_⟩;exact z;rw[e]at z;cases z
   exact⟨l,xs,by rw[ev],.inl (K7 q3),λp hp=>k ⟨.rt,.lst ds,.ref p,p::bs⟩ _ rfl rfl (V2 hp r3 h3)⟩
  ·cases hf
 ·rename_i ds e
  split at hf
  ·rename_i hl;cases oq9 hf;obtain⟨l,xs,bs,ev,q3,r3,h3⟩:=J7 ok (.inr e) hl;have q3:SqT K H l xs:=by rcases q3 with⟨z,_⟩|⟨_,z⟩;rw[e]at z;cases z;exact z
   exact⟨l,xs,by rw[ev],.inr q3,λp hp=>k ⟨.rt,.lst ds,.ref p,p::bs⟩ _ rfl rfl (V2 hp r3 h3)⟩
  ·cases hf
 ·cases hf
def qj4(K:Frag):List V->Hp->VK->Prop:=λxs H Q=>∃p ys,xs=[.ref p]/\((SqL K H p ys/\∀l,H l=none->Q (.ref l) (upd H l (.tup ys)))\/(SqT K H p ys/\Q (.ref p) H))
theorem qxs(hK:X.K=K):CallR X (.type "tuple") (qj4 K):=by subst hK;exact kvd
theorem vke:Ad1 K (λv H Q=>qj4 K [v] H Q) JJ:=by
 intro H x s Q ok hf k;unfold JJ at hf;dsimp only at hf
 split at hf
 ·rename_i ds e
  split at hf
  ·rename_i hl;cases oq9 hf;obtain⟨l,xs,bs,ev,q3,r3,h3⟩:=J7 ok (.inl e) hl;have q3:LsR K H l xs:=by rcases q3 with⟨_,z⟩|⟨z,_⟩;exact z;rw[e]at z;cases z
   exact⟨l,xs,by rw[ev],.inl ⟨K7 q3,λp hp=>k ⟨.no,.tup ds,.ref p,bs⟩ _ rfl rfl (kjd hp r3 h3)⟩⟩
  ·cases hf
 ·rename_i ds e
  split at hf
  ·rename_i hl;cases oq9 hf;obtain⟨l,xs,bs,ev,q3,r3,h3⟩:=J7 ok (.inr e) hl;have q3:SqT K H l xs:=by rcases q3 with⟨z,_⟩|⟨_,z⟩;rw[e]at z;cases z;exact z
   refine⟨l,xs,by rw[ev],.inr ⟨q3,k ⟨.no,.tup ds,.ref l,bs⟩ H rfl rfl ⟨xQ,?_,λb hb=>(nomatch hb),Y6,λb hb=>h3 b hb⟩⟩⟩;show RepL K H true (.tup ds) (.ref l) bs;unfold RepL;exact⟨l,xs,rfl,q3,r3⟩
  ·cases hf
 ·cases hf
theorem qxy{g:Bool}:∀{ds:List D} {bs:List Bool} {xs:List V} {as:List Addr},bls ds=some bs->RepA K H g ds xs as->xs=bs.map V.bl
 | [],bs,xs,as,h,r=>by
  cases oq9 h;unfold RepA at r;exact r.1
 | d::ds,bs,xs,as,h,r=>by
  cases d with
  | bl b=>
   unfold bls at h;cases hb:bls ds with
   |none=>rw[hb]at h;cases h
   |some ic=>
    rw[hb]at h;cases oq9 h;unfold RepA at r;obtain⟨x,rr,c1,c2,rfl,rfl,h1,h2⟩:=r;unfold RepL at h1;rw[h1.1,qxy hb h2];rfl
  |_=>unfold bls at h;cases h
theorem wqx:Ad1 K (λv H Q=>ww0 K [v] H Q) (pu1 wqd):=by
 intro H x s Q ok hf k;unfold pu1 wqd at hf;dsimp only at hf
 split at hf
 ·rename_i ds e;cases hb:bls ds with
  |none=>rw[hb]at hf;cases hf
  |some bs=>
   rw[hb]at hf;cases oq9 hf;obtain⟨l,xs,cs,ev,q3,r3,_⟩:=items ok (.inl e);have q3:LsR K H l xs:=by rcases q3 with⟨_,z⟩|⟨z,_⟩;exact z;rw[e]at z;cases z
   exact⟨l,bs,by rw[ev],by rw[<-qxy hb r3];exact K7 q3,k ⟨.dp,.bl _,.bl _,[]⟩ H rfl rfl xv⟩
 ·cases hf
theorem K0{g:Int->Int->Bool}:∀x y s,pu2 (c2 g) x y=some s->∃k,s.2=.bl k:=by
 intro x y s h;unfold pu2 c2 at h
 split at h
 ·cases oq9 h;exact⟨_,rfl⟩
 ·cases h
theorem zK:∀x y s,pu2 fEq x y=some s->∃k,s.2=.bl k:=by
 intro x y s h;unfold pu2 fEq at h
 split at h
 ·cases oq9 h;exact⟨_,rfl⟩
 ·cases h
theorem W2:∀x y s,pu2 fNe x y=some s->∃k,s.2=.bl k:=by
 intro x y s h;unfold pu2 fNe at h
 split at h
 ·cases oq9 h;exact⟨_,rfl⟩
 ·cases h
theorem vqa{x y d:D}(h:fIn x y=some d):∃k,d=.bl k:=by
 unfold fIn at h
 split at h
 ·split at h
  ·cases oq9 h;exact⟨_,rfl⟩
  ·cases h
 ·split at h
  ·cases oq9 h;exact⟨_,rfl⟩
  ·cases h
 ·split at h
  ·cases oq9 h;exact⟨_,rfl⟩
  ·cases h
 ·cases oq9 h;exact⟨_,rfl⟩
 ·cases h
theorem vxf:∀x y s,pu2 z5 x y=some s->∃k,s.2=.bl k:=by
 intro x y s h;unfold pu2 z5 at h
 split at h
 ·cases h
 ·cases hf:fIn x.2 y.2 with
  |none=>rw[hf]at h;cases h
  |some d=>
   rw[hf]at h;cases oq9 h;exact vqa hf
theorem kj0:∀x y s,pu2 wq x y=some s->∃k,s.2=.bl k:=by
 intro x y s h;unfold pu2 wq Wj at h
 split at h
 ·cases h
 ·cases hf:fIn x.2 y.2 with
  |none=>rw[hf]at h;cases h
  |some d=>
   obtain⟨k,rfl⟩:=vqa hf;rw[hf]at h;cases oq9 h;exact⟨_,rfl⟩
theorem qjz:∀x y s,f2First fIsNon x y=some s->∃k,s.2=.bl k:=by
 intro x y s h;unfold f2First fIsNon at h
 split at h
 ·cases oq9 h;exact⟨_,rfl⟩
 ·cases h
theorem vxe:∀x y s,f2First fNotNon x y=some s->∃k,s.2=.bl k:=by
 intro x y s h;unfold f2First fNotNon at h
 split at h
 ·cases oq9 h;exact⟨_,rfl⟩
 ·cases h
theorem kzn:∀{xs:List V} {us:List Value},xs.length=us.length->(∀(i:Nat) (x:V) (u:Value),xs[i]?=some x->us[i]?=some u->RelV x u)->Vals xs us
 |[],[],_,_=>.nil|[],_::_,h,_=>by simp at h|_::_,[],h,_=>by simp at h|x::xs,u::us,h,f=>.cons (f 0 x u (by simp) (by simp)) (kzn (by simpa using h) λi x u e1 e2=>f (i+1) x u (by simpa using e1) (by simpa using e2))
theorem wj8{p2 ez:Pos}(ha:QV X Z q a ea)(hmr:X.mg "range"=none)(hml:X.mg "list"=none)(hc:autoParam (X.calm=true) Ŕ)(hgr:autoParam (Gl X "range") Ŕ)(hgl:autoParam (Gl X "list") Ŕ)
  (cb:autoParam (starEach [ea] X.env=(false,eval ea X.env)::starEach [] X.env) Ŕ) (bu:autoParam ((backTo ez (starEach [] X.env)).any (·.1)=false) Ŕ)
  (sg:autoParam (starEach [.Call (.Name "range" p2) [ea] [] ez] X.env=(false,eval (.Call (.Name "range" p2) [ea] [] ez) X.env)::starEach [] X.env) Ŕ) (hpl2:autoParam ((backTo pos (starEach [] X.env)).any (·.1)=false) Ŕ):
  QE X Z q (Wk a) (.Call (.Name "list" p) [.Call (.Name "range" p2) [ea] [] ez] [] pos):=by
 have hr:PE X (.Call (.Name "range" p2) [ea] [] ez) (fun O H Q=>tV Z q a O H λv H1=>∃j:Int,v=.int j/\∀pp,H1 pp=none->Q (.ref pp) (upd H1 pp (.rng 0 j))):=by
  intro pins s O H Q I h;refine Call_ (Q7 I hgr hmr boot_range (Yh (thn (qY ha wW cb ez pins s O H (λvs H1=>∃j:Int,vs=[.int j]/\∀pp,H1 pp=none->Q (.ref pp) (upd H1 pp (.rng 0 j))) I ?_) λus s1 ⟨vs,H1,I1,r1,j,e,q1⟩=>?_) cb bu))
  ·obtain⟨E,L,r,m,w,ig,xc,k⟩:=h;exact⟨E,L,r,m,w,ig,xc,λE' s' z x L' H' e1 e2 m' w' ok fr sr st sm=>by
    obtain⟨j,ej,qj⟩:=k E' s' z x L' H' e1 e2 m' w' ok fr sr st sm;exact⟨j,by rw[ej],qj⟩⟩
  ·subst e;obtain⟨u,rfl,t,rfl⟩:=r1.one;refine call_range_1 ⟨.ref s1.heap.objs.size,_,I1.laid (o:=.rng 0 j) (λb o e=>X3 _ e) (X8 _) ⟨_,_,_,X6 _ rfl⟩,rfl,q1 _ I1.fresh⟩
 intro pins s O H Q I ⟨E,L,r,m,w,ig,xc,k⟩;refine Yx (Q7 I hgl hml J4 ?_);refine Yh (thn (qY hr wW sg pos pins s O H (λvs H1=>∃pp j,vs=[.ref pp]/\H1 pp=some (.rng 0 j)/\xj j=true/\j.toNat<=big/\∀l,H1 l=none->Q (.ref l) (upd H1 l (.lst ((List.range j.toNat).map λ(i:Nat)=>V.int (0+(i:Int)))))) I ?_) λus s1 ⟨vs,H1,I1,r1,pp,j,e,hp,h62,jn,q1⟩=>?_) sg hpl2
 ·refine vk m w (show bnd (a E) _=some r from ig) xc λE1 s h1 x L1 H1 e1 e2 m1 w1 ok fr sr st sm=>?_
  cases hx:s.2 with
  | int j=>
   rw [hx]at h1;dsimp only at h1
   split at h1
   ·rename_i hj;cases oq9 h1;refine⟨j,v5 ok (e2.trans hx),λpp hpp=>⟨pp,j,rfl,wJ,hj.1,hj.2,λl hl=>?_⟩⟩;have s1:k4 H1 (upd H1 pp (.rng 0 j)):=vw hpp;have w2:World Z.K (upd H1 pp (.rng 0 j)) L1:=⟨λx hx=>RepO.kp (w1.ok x hx) (Kp.of_same s1),w1.nd,w1.ds⟩;have bo:Step H L (upd H1 pp (.rng 0 j)) L1:=st.trans ⟨λb ob z _=>s1 b ob z,λb z=>.inl z,λb z=>.inl z⟩;have ra:∀(n:Nat) (ns:List Nat) (Hx:Hp),RepA Z.K Hx true (ns.map λ(i:Nat)=>D.int (0+(i:Int))) (ns.map λ(i:Nat)=>V.int (0+(i:Int))) []:=by
     intro n ns Hx
     induction ns with
     |nil=>unfold RepA;exact⟨rfl,rfl⟩
     |cons i ns ih=>
      rw[List.map_cons,List.map_cons];unfold RepA;exact⟨_,_,[],[],rfl,rfl,vX,ih⟩
    have o:=V2 (K:=Z.K) (H:=upd H1 pp (.rng 0 j)) (fr:=[]) hl (ra 0 (List.range j.toNat) (upd H1 pp (.rng 0 j))) (λ_ z=>(nomatch z));obtain⟨w3,de⟩:=Q1 w2 bo o (λ_ z=>(nomatch z)) (λ_ z=>(nomatch z)) (λ_ z=>(nomatch z));refine k _ _ rfl ⟨.rt,.lst (k7 0 j),.ref l,[l]⟩ L1 _ rfl rfl m1 (by simpa [k7]using w3) (by simpa [k7]using de) λhq=>⟨qw (sm hq) (qw s1 o.same),λb hb=>?_⟩
    have:b=l:=by simpa [Sl.own]using hb
    subst this;exact z9 (qw (sm hq) s1) hl
   ·cases h1
  | _=>rw[hx]at h1;cases h1
 ·subst e;obtain⟨u,rfl,rx⟩:=r1.one;cases rx;obtain⟨t1,t2,t3,hg⟩:=(show ObjOk X.prog X.w H1 s1.heap pp (.rng 0 j)from I1.hok pp _ hp);obtain⟨j1,j2⟩:=jxr h62;have e2:Builtin.Range.rangeSize 0 j 1=((j.toNat:Nat):Int):=by rw[rangeSize_one];split<;>omega
  refine call_list_range (n:=j.toNat) (I1.ok.hd hc) (show IsRange s1.heap pp 0 j 1 t1 t2 t3 from hg) (small_one ⋯ ⋯ j1 j2) e2 jn λh' tk f7 c' kp e4 fb=>?_
  obtain⟨hs,pd⟩:=fb;have hv:Vals ((List.range j.toNat).map λ(i:Nat)=>V.int (0+(i:Int))) f7.toList:=kzn (by simp[hs]) λi x u ex eu=>by
   rw[Yb]at eu;obtain⟨t,rfl⟩:=pd i u eu;rw[Xn]at ex;cases hr:(List.range j.toNat)[i]? with
   | none=>rw[hr]at ex;cases ex
   | some m=>
    rw[hr]at ex;have hm:m=i:=by
     obtain⟨_,h2⟩:=List.getElem?_eq_some_iff.mp hr
     simpa using h2.symm
    subst hm;cases oq9 ex;exact⟨t,by rw[Int.mul_one]⟩
  refine⟨.ref s1.heap.objs.size,_,I1.laid (a:=s1.heap.objs.size) (o:=.lst ((List.range j.toNat).map λ(i:Nat)=>V.int (0+(i:Int)))) (t':=tk) kp (X8 _) ⟨by rw[X4,Yj];exact jn,f7.toList,c',hv,by simpa using e4⟩,rfl,q1 _ I1.fresh⟩
end
end Q
namespace Q
open PySem
def z8(n d:Nat):Option Int->Nat
 |none=>d|some v=>if v<0 then(v+(n:Int)).toNat else min v.toNat n
def zV(xs:List D)(lo hi:Option Int):List D:=(xs.drop (z8 xs.length 0 lo)).take (z8 xs.length xs.length hi - z8 xs.length 0 lo)
noncomputable def fSl:Sd->Option Int->Option Int->Option Sd:=λx lo hi=>match x.2 with
 |.lst xs=>if qK x then some (.rt,.lst (zV xs lo hi))else none|.tup xs=>if qK x/\¬(z8 xs.length 0 lo=0/\z8 xs.length xs.length hi=xs.length)then some (.no,.tup (zV xs lo hi))else none|.str z=>if(Txt.slice z lo hi).length<=big then some (.dp,.str (Txt.slice z lo hi))else none|_=>none
def W3:Option Ex->Ev (Option Int)
 |none,E=>some (.ok E none)
 |some c,E=>bnd (c E) λE x=>match x.2 with
  |.int i=>some (.ok E (some i))|_=>none
def cSl(a:Ex)(lo hi:Option Ex):Ex:=λE=>bnd (a E) λE x=>bnd (W3 lo E) λE l=>bnd (W3 hi E) λE h=>val E (fSl x l h)
def zq:Nat->List D->List D
 |_,[]=>[]|k,d::ds=>.tup [.int k,d]::zq (k+1) ds
def lstOf:D->Option (List D)
 |.lst xs=>some xs|_=>none
def J5:List D->Option (List Str)
 |[]=>some []|.str z::ds=>(J5 ds).map (z :: ·)|_=>none
def wkz:List D->Option (List Int)
 |[]=>some []|.int z::ds=>(wkz ds).map (z :: ·)|_=>none
def VZ(a:Str):List Str->List Str
 |[]=>[a]|b::r=>if Spec.ltCps b.cps.toList a.cps.toList then b::VZ a r else a::b::r
def zZ:List Str->List Str
 |[]=>[]|a::r=>VZ a (zZ r)
def wvc(a:Int):List Int->List Int
 |[]=>[a]|b::r=>if b<a then b::wvc a r else a::b::r
def vzg:List Int->List Int
 |[]=>[]|a::r=>wvc a (vzg r)
def vwt:Sd->Option Sd:=λx=>match x.2 with
 | .lst ds=>(match J5 ds with
  |some ss=>if ss.length<64 then some (.rt,.lst ((zZ ss).map .str))else none
  |none=>(match wkz ds with
   |some is=>if is.length<64 then some (.rt,.lst ((vzg is).map .int))else none
   |none=>none))
 |_=>none
def kwq:D->D->Option D:=λxs x=>match xs with
 |.lst ys=>if x.flat 30&&D.flats 30 ys then(ys.findIdx? λz=>peq z x).map λ(j:Nat)=>D.int (j:Int)else none|.tup ys=>if x.flat 30&&D.flats 30 ys then(ys.findIdx? λz=>peq z x).map λ(j:Nat)=>D.int (j:Int)else none|_=>none
def isSq:D->Bool
 |.lst _=>true|.tup _=>true|_=>false
def YX(a b:Ex):Ex:=λE=>bnd (a E) λE x=>if isSq x.2 then bnd (b E) λE y=>val E (pu2 kwq x y)else none
noncomputable def Zv(i:Nat)(c:Ex):Ex:=λE=>if K6 E[i]? then bnd (c E) λE x=>match E[i]?,x.2 with
 | some (some (o,.lst xs)),.int k=>if o=.no then none else(match ixN xs.length k with
  |some j=>(match xs[j]? with
   |some d=>if d.pure&&xj k then some (.ok (E.set i (some (o,.lst (xs.eraseIdx j)))) (.dp,d))else none
   |none=>none)
  |none=>none)
 |_,_=>none
 else none
def kx3(f:Fn)(cs:List Ex):Ex:=λE=>bnd (qJ cs E) λE xs=>match f (letAll xs)with
 |some (.ok _ y)=>if y.2.pure then some (.ok E (.dp,y.2))else none|some (.exc _ c)=>some (.exc E c)|none=>none
def vz:Sd->Sd->Option Sd:=λx y=>match x.2,y.2 with
 |.tup a,.int k=>if -(2 ^ 63)<=k/\k<2 ^ 63/\a.length*k.toNat<=big/\qK x then some (.no,.tup (List.replicate k.toNat a).flatten)else none|_,_=>W7 x y
def sRz(c:Str):Sm:=λE=>some (.xc E c)
def Zz(f:Fn)(cs:List Ex):Ex:=λE=>match qJ cs E with
 |some (.ok E xs)=>(match f (letAll xs)with
  |some (.ok _ y)=>some (.ok E y)|some (.exc _ c)=>some (.exc E c)
  |none=>none)
 |_=>none
def vkh(i:Nat):Option Fl->Option Fl
 |some (.nx E)=>some (.nx (E.set i none))|some (.rt E x)=>some (.rt (E.set i none) x)|some (.ct E)=>some (.ct (E.set i none))|some (.bk E)=>some (.bk (E.set i none))|_=>none
def QJ(cs:List Str)(i:Nat)(b h:Sm):Sm:=λE=>match b E with
 |some (.xc E c)=>if c∈cs then vkh i (h (E.set i (some (.no,.obj c []))))else none|r=>r
def vj(t:List (Str×Bool)):D->Option D
 |.obj c _=>(t.lookup c).map .bl|_=>none
def wwu:D->Bool
 |.tup _=>true|_=>false
def Jk(x:D):Bool:=jX 6 x&&wwu x
def qxw(kc vc:Ex):Ex:=λE=>bnd (kc E) λE k=>bnd (vc E) λE v=>if Jk k.2=true then some (.ok E (.rt,.dct [(k.2,v.2)]))else none
def Q9:Sd->Option Sd:=λx=>match x.2 with
 |.dct kvs=>if kvs.length<=big/\unm kvs=true then some (.rt,.lst (kvs.map (·.1)))else none|_=>none
end Q
namespace Q
open PySem
def QQ(i:Nat)(kc vc:Ex):Sm:=λE=>ofE (vc E) λE v=>if K6 E[i]?=true then ofE (kc E) λE k=>match E[i]?,k.2 with
 |some (some (o,.lst xs)),.int j=>if o=.no then none else(match ixN xs.length j with
  |some n=>some (.nx (E.set i (some (.rt,.lst (xs.set n v.2)))))
  |none=>none)
 |_,_=>none
 else none
def mkD:D×D:=(.str "",.non)
def KZ(kv:List (Int×Int)):D:=.dct (mkD::kv.map λp=>(.int p.1,.int p.2))
def V6 : List (D × D) -> Option (List (Int × Int))
  |[]=>some []|(.int k, .int v)::r=>(V6 r).map ((k, v):: ·)|_=>none
def W0:D->Option (List (Int×Int)):=λd=>match d with
 |.dct ((.str _,.non)::kvs)=>V6 kvs|_=>none
def zx(kv:List (Int×Int))(k:Int):Option Int:=(kv.find? λp=>decide (p.1=k)).map (·.2)
def zJ(kv:List (Int×Int))(k v:Int):List (Int×Int):=if(kv.any λp=>decide (p.1=k))=true then kv.map (λp=>if p.1=k then(p.1,v)else p)else kv++[(k,v)]
def W8:D->D->Option D:=λx y=>match x,W0 y with
 |.int k,some kv=>some (.bl (zx kv k).isSome)|_,_=>none
def wqc:D->D->Option D:=λy x=>match x,W0 y with
 |.int k,some kv=>(zx kv k).map .int|_,_=>none
def wv3(a b:Ex):Ex:=λE=>bnd (a E) λE x=>bnd (b E) λE y=>val E ((wqc x.2 y.2).map λd=>(.dp,d))
def QY:List D->Option (List (Int×Int))
 |[]=>some []|.tup [.int a,.int b]::r=>(QY r).map ((a,b):: ·)|_=>none
def kq4:Sd->Option Sd:=λx=>match x.2 with
 |.lst ds=>(match QY ds with
  |some ps=>if ps.length<big then some (.rt,KZ (ps.foldl (λkv p=>zJ kv p.1 p.2) []))else none
  |none=>none)
 |_=>none
def qxc(z:Str):D->Option D:=λd=>match d with
 |.lst ds=>(match J5 ds with
  |some ys=>if(ys.map (·.length)).sum+ys.length*z.length<=100000 then some (.str (Txt.join z ys))else none
  |none=>none)
 |_=>none
def vk8(z:Str)(c:Ex):Ex:=λE=>bnd (c E) λE x=>val E ((qxc z x.2).map λd=>(.dp,d))
def vqu:D->Option (List D)
 |.tup xs=>some xs|_=>none
def vjl(c:Ex):Ev (List D):=λE=>bnd (c E) λE x=>val E ((vqu x.2).map (zq 0))
def itV(i:Nat):Ev (List D):=λE=>match E[i]? with
 |some (some (_,.lst ds))=>if D.pures ds=true then some (.ok E ds)else none|_=>none
end Q
namespace Q
open PySem
def D.at:List Nat->D->Option D
 |[],d=>some d
 |n::p,.tup ds=>match ds[n]? with
  |some d=>D.at p d|none=>none
 |n::p,.lst ds=>match ds[n]? with
  |some d=>D.at p d|none=>none
 |_::_,_=>none
def D.put(d':D):List Nat->D->D
 |[],_=>d'
 |n::p,.tup ds=>match ds[n]? with
  |some d=>.tup (ds.set n (D.put d' p d))|none=>.tup ds
 |n::p,.lst ds=>match ds[n]? with
  |some d=>.lst (ds.set n (D.put d' p d))|none=>.lst ds
 |_::_,d=>d
mutual
noncomputable def D.dat:D->PyData
 |.non=>.none|.bl b=>.bool b|.int i=>.int i|.str z=>.str z|.tup ds=>.tuple (D.dats ds)|.lst ds=>.list (D.dats ds)|.dct _=>.none|.obj _ _=>.none
noncomputable def D.dats:List D->List PyData
 |[]=>[]|d::ds=>D.dat d::D.dats ds
end
def Qk:D->Option D
 |.dct kvs=>if unm kvs=true then some (.int kvs.length)else none|_=>none
def wvb:Option (Option Sd)->Bool
 |some (some (.rt,.dct kvs))=>unm kvs|_=>false
def xq(kvs:List (D×D))(k:D):Option D:=(kvs.find? λp=>decide (p.1=k)).map (·.2)
noncomputable def qxv(i:Nat)(kc vc:Ex):Ex:=λE=>if wvb E[i]?=true then bnd (kc E) λE k=>bnd (vc E) λE v=>(match E[i]? with
 |some (some (.rt,.dct kvs))=>if Jk k.2=true/\kvs.length<big/\unm kvs=true/\v.2.pure=true/\D.pures (kvs.map (·.2))=true then(match xq kvs k.2 with
  |some d=>some (.ok E (.dp,d))
  |none=>some (.ok (E.set i (some (.rt,.dct (kvs++[(k.2,v.2)])))) (.dp,v.2)))else none
 |_=>none)else none
def Zq(f:Fn)(i:Nat)(cs:List Ex):Ex:=λE=>bnd (qJ cs E) λE xs=>match E[i]? with
 | some (some x)=>(match f (letAll xs++[x])with
  |some (.ok E' y)=>(match E'[xs.length]? with
   |some (some x')=>some (.ok (E.set i (some x')) y)
   |_=>none)
  |some (.exc _ c)=>some (.exc (E.set i none) c)
  |none=>none)
 |_=>none
end Q
namespace Q
open PySem PySem.Spec PyProof.Rows L2 L3
section
variable {X:Cx}{Z:Fx0}{K:Frag}{pn:List Nat}{q qa qb:Bool}{a b c:Ex}{u:Ts}{tg e ea eb:Expr}{st:Stmt}{O:L2.St}{H:Hp}{L:Ls}{E:En}{pos p p2:Pos}{x:Str}
theorem kjs(a:Str):∀r,(VZ a r).Perm (a::r)
 |[]=>List.Perm.refl _
 |b::r=>by
  unfold VZ
  split
  ·exact((kjs a r).cons b).trans (List.Perm.swap ..)
  ·exact List.Perm.refl _
theorem jwb:∀r,(zZ r).Perm r
 |[]=>List.Perm.refl _|a::r=>(kjs a _).trans ((jwb r).cons a)
def leS(a b:Str):Prop:=Spec.ltCps b.cps.toList a.cps.toList=false
theorem leS_iff{a b:Str}:leS a b↔a.cps.toList<=b.cps.toList:=by
 unfold leS;rw[ltCps_eq,decide_eq_false_iff_not,List.not_lt]
theorem kwd{a b c:Str}(h:leS a b)(h':leS b c):leS a c:=leS_iff.mpr (List.le_trans (leS_iff.mp h) (leS_iff.mp h'))
theorem vjh{a b:Str}(h:leS a b)(h':leS b a):a=b:=by
 have:=List.le_antisymm (leS_iff.mp h) (leS_iff.mp h');cases a;cases b;simp only at this
 congr 1
 exact Array.toList_inj.mp this
theorem qwh{a b:Str}(h:¬leS a b):leS b a:=by
 rw[leS_iff]at h ⊢;exact List.le_of_lt (List.not_le.mp h)
theorem kvr:∀{a:Str} {r:List Str},risingS a r=true->(a::r).Pairwise leS
 |a,[],_=>by simp
 |a,b::r,h=>by
  have h:(!(Spec.ltCps b.cps.toList a.cps.toList)&&risingS b r)=true:=h;rw[Bool.and_eq_true,Bool.not_eq_true']at h;have ih:=kvr h.2;refine List.pairwise_cons.mpr ⟨λc hc=>?_,ih⟩;rcases aD hc with rfl|hc
  ·exact h.1
  ·exact kwd h.1 ((List.pairwise_cons.mp ih).1 c hc)
theorem qqw{r:List Str}(h:sortedS r=true):r.Pairwise leS:=by
 cases r with|nil=>exact .nil|cons a r=>exact kvr h
theorem qwx{a:Str}:∀{r:List Str},r.Pairwise leS->(VZ a r).Pairwise leS
 | [],_=>by simp[VZ]
 | b::r,h=>by
  rw[List.pairwise_cons]at h;unfold VZ
  by_cases hl:Spec.ltCps b.cps.toList a.cps.toList=true
  ·rw[X9 hl];refine List.pairwise_cons.mpr ⟨λc hc=>?_,qwx h.2⟩;rcases aD ((kjs a r).mem_iff.mp hc)with rfl|hc
   ·exact qwh (by unfold leS;rw[hl];exact λz=>nomatch z)
   ·exact h.1 c hc
  ·rw[Xb hl];have ml:leS a b:=by unfold leS;exact Bool.eq_false_iff.mpr hl
   refine List.pairwise_cons.mpr ⟨λc hc=>?_,List.pairwise_cons.mpr h⟩;rcases aD hc with rfl|hc
   ·exact ml
   ·exact kwd ml (h.1 c hc)
theorem kzv:∀{r:List Str},(zZ r).Pairwise leS
 |[]=>.nil|a::r=>qwx kzv
theorem qzh{r s:List Str}(p:s.Perm r)(h:sortedS s=true):s=zZ r:=
 List.Perm.eq_of_pairwise (λa b _ _ h1 h2=>vjh h1 h2) (qqw h) kzv (p.trans (jwb r).symm)
theorem qkc{ns:List Str}:∀{us:List Value},Vals (ns.map V.str) us->StrsAre us ns:=by
 induction ns with
 | nil=>intro us r;rw[List.map_nil]at r;cases r;exact .nil
 | cons n ns ih=>
  intro us r;rw[List.map_cons]at r;cases r with
  |cons r1 r2=>
   obtain⟨t,e⟩:=r1;subst e;exact .cons n t (ih r2)
theorem qql{us:List Value}{ns:List Str}(h:StrsAre us ns):Vals (ns.map V.str) us:=by
 induction h with|nil=>exact .nil|cons y t _ ih=>exact .cons ⟨t,rfl⟩ ih
theorem qqn{us:List Value}{ns:List Int}(h:IntsAre us ns):Vals (ns.map V.int) us:=by
 induction h with|nil=>exact .nil|cons y t _ ih=>exact .cons ⟨t,rfl⟩ ih
theorem kqg{g:Bool}:∀{ds:List D} {bs:List Str} {xs:List V} {as:List Addr},J5 ds=some bs->RepA K H g ds xs as->xs=bs.map V.str/\∀z∈bs,z.length<=sizeLine
 | [],bs,xs,as,h,r=>by
  cases oq9 h;unfold RepA at r;exact⟨r.1,λ_ z=>nomatch z⟩
 | d::ds,bs,xs,as,h,r=>by
  cases d with
  | str b=>
   unfold J5 at h;cases hb:J5 ds with
   |none=>rw[hb]at h;cases h
   |some ic=>
    rw[hb]at h;cases oq9 h;unfold RepA at r;obtain⟨x,rr,c1,c2,rfl,rfl,h1,h2⟩:=r;unfold RepL at h1;obtain⟨i1,i2⟩:=kqg hb h2;exact⟨by rw[h1.1,i1];rfl,λz hz=>(aD hz).elim (λe=>e▸h1.2.2) (i2 z)⟩
  |_=>unfold J5 at h;cases h
theorem qj0{g:Bool}:∀{bs:List Str},(∀z∈bs,z.length<=sizeLine)->RepA K H g (bs.map D.str) (bs.map V.str) []
 |[],_=>by unfold RepA;exact⟨rfl,rfl⟩
 |b::bs,h=>by
  rw[List.map_cons,List.map_cons];unfold RepA;exact⟨_,_,[],[],rfl,rfl,Kv (h b X7),qj0 λz hz=>h z (lc9 _ hz)⟩
def tPo(Z:Fx0):Option Ex->TO
 |none=>qqr|some c=>vz6 (tV Z true c)
theorem K8:PO X none (tPo Z none):=vvn
theorem K3(h:QV X Z true c e):PO X (some e) (tPo Z (some c)):=vvm h
theorem qvp{α:Type}{co:Option Ex}{F:En->Option Int->Option (Res α)}{r:Res α}{G:Option Int->Hp->Prop}(m:Mt E O L)(w:World Z.K H L)(h:bnd (W3 co E) F=some r)(xc:Xc Z O H L r)
  (k:∀E1 l,F E1 l=some r->∀L1 H1,Mt E1 O L1->World Z.K H1 L1->Step H L H1 L1->k4 H H1->G l H1):tPo Z co O H G:=by
 cases co with
 | none=>exact k E none h L H m w Step.refl xQ
 | some c=>
  have h:bnd (bnd (c E) λE x=>match x.2 with|.int i=>some (.ok E (some i))|_=>none) F=some r:=h;have h':bnd (c E) (λE x=>bnd (match x.2 with|.int i=>some (.ok E (some i))|_=>none) F)=some r:=by
   cases hc:c E with|none=>rw[hc]at h;exact h|some y=>rw[hc]at h;cases y<;>exact h
  show tV Z true c O H λx H1=>∃i,x=.int i/\G (some i) H1
  refine vk m w h' xc λE1 s h1 x L1 H1 e1 e2 m1 w1 ok fr sr st sm=>?_
  cases hs:s.2 with
  |int i=>
   rw[hs]at h1;exact⟨i,v5 ok (e2.trans hs),k E1 (some i) h1 L1 H1 m1 w1 st (sm rfl)⟩
  |_=>rw[hs]at h1;cases h1
theorem kzz(n d:Nat)(v:Option Int):HT.sIx n d v=z8 n d v:=by
 cases v<;>rfl
theorem RepA.drop{K:Frag}{H:Hp}{g:Bool}:∀(n:Nat) {ds:List D} {xs:List V} {as:List Addr},RepA K H g ds xs as->∃bs,RepA K H g (ds.drop n) (xs.drop n) bs/\∀b∈bs,b∈as
 |0,ds,xs,as,h=>⟨as,h,λ_ h=>h⟩
 |n+1,[],xs,as,h=>by
  unfold RepA at h;obtain⟨rfl,rfl⟩:=h;exact⟨[],by simp only[List.drop_nil];unfold RepA;exact⟨rfl,rfl⟩,λ_ h=>h⟩
 |n+1,d::ds,xs,as,h=>by
  unfold RepA at h;obtain⟨x,r,bs,cs,rfl,rfl,h1,h2⟩:=h;obtain⟨es,r2,hb⟩:=RepA.drop n h2;exact⟨es,r2,λb h=>lr9 _ (hb b h)⟩
theorem RepA.take{K:Frag}{H:Hp}{g:Bool}:∀(n:Nat) {ds:List D} {xs:List V} {as:List Addr},RepA K H g ds xs as->∃bs,RepA K H g (ds.take n) (xs.take n) bs/\∀b∈bs,b∈as
 |0,ds,xs,as,h=>⟨[],by simp only[List.take_zero];unfold RepA;exact⟨rfl,rfl⟩,λ_ h=>nomatch h⟩
 |n+1,[],xs,as,h=>by
  unfold RepA at h;obtain⟨rfl,rfl⟩:=h;exact⟨[],by simp only[List.take_nil];unfold RepA;exact⟨rfl,rfl⟩,λ_ h=>h⟩
 |n+1,d::ds,xs,as,h=>by
  unfold RepA at h;obtain⟨x,r,bs,cs,rfl,rfl,h1,h2⟩:=h;obtain⟨es,r2,hb⟩:=RepA.take n h2;refine⟨bs++es,?_,λb h=>(aA h).elim (λz=>ll9 _ z) λz=>lr9 _ (hb b z)⟩;rw[List.take_succ_cons,List.take_succ_cons];unfold RepA;exact⟨x,r.take n,bs,es,rfl,rfl,h1,r2⟩
theorem RepA.cut{K:Frag}{H:Hp}{g:Bool}{ds:List D}{xs:List V}{as:List Addr}(h:RepA K H g ds xs as)(lo hi:Option Int):∃bs,RepA K H g (zV ds lo hi) (QX xs lo hi) bs/\∀b∈bs,b∈as:=by
 have hl:=h.len;unfold zV QX;rw[kzz,kzz,<-hl];obtain⟨bs,r,hb⟩:=h.drop (z8 ds.length 0 lo);obtain⟨cs,r2,hc⟩:=r.take (z8 ds.length ds.length hi - z8 ds.length 0 lo);exact⟨cs,r2,λb h=>hb b (hc b h)⟩
theorem vv0{x:Sl}{s:Sd}{lo hi:Option Int}{Q:VK}(ok:x.ok K H)(hf:fSl (x.o,x.d) lo hi=some s)(k:∀(z:Sl) H',z.o=s.1->z.d=s.2->Out K H H' z x.frz->Q z.v H'):vkn K x.v lo hi H Q:=by
 unfold fSl at hf;dsimp only at hf;cases hx:x.d with
 | lst ds=>
  rw[hx]at hf;dsimp only at hf
  split at hf
  ·rename_i hl;cases oq9 hf;obtain⟨l,xs,bs,ev,q3,r3,h3⟩:=J7 ok (.inl hx) (by rw[hx];exact hl);have q3:LsR K H l xs:=by rcases q3 with⟨_,z⟩|⟨z,_⟩;exact z;rw[hx]at z;cases z
   obtain⟨cs,r4,h4⟩:=r3.cut lo hi;exact .inl ⟨l,xs,ev,K7 q3,λp hp=>k ⟨.rt,.lst _,.ref p,p::cs⟩ _ rfl rfl (V2 hp r4 λb hb=>h3 b (h4 b hb))⟩
  ·cases hf
 | tup ds=>
  rw[hx]at hf;dsimp only at hf
  split at hf
  ·rename_i hl;cases oq9 hf;obtain⟨l,xs,bs,ev,q3,r3,h3⟩:=J7 ok (.inr hx) (by rw[hx];exact hl.1);have q3:SqT K H l xs:=by rcases q3 with⟨z,_⟩|⟨_,z⟩;rw[hx]at z;cases z;exact z
   obtain⟨cs,r4,h4⟩:=r3.cut lo hi;refine .inr (.inl ⟨l,xs,ev,q3,?_,λp hp=>k ⟨.no,.tup _,.ref p,cs⟩ _ rfl rfl (kjd hp r4 λb hb=>h3 b (h4 b hb))⟩);rw[kzz,kzz,<-r3.len];exact hl.2
  ·cases hf
 | str z=>
  rw[hx]at hf;dsimp only at hf
  split at hf
  ·rename_i hl;cases oq9 hf;obtain⟨e,hz⟩:=z6 ok hx;exact .inr (.inr ⟨z,e,hz,k ⟨.dp,.str _,.str _,[]⟩ H rfl rfl (wv8 hl)⟩)
  ·cases hf
 |_=>rw[hx]at hf;cases hf
theorem JZ{lo hi:Option Ex}{elo ehi:Option Expr}(ha:QV X Z q a ea)(hl:PO X elo (tPo Z lo))(hh:PO X ehi (tPo Z hi))(hK:autoParam (X.K=Z.K) Ŕ):QE X Z q (cSl a lo hi) (.Subscript ea (.Slice elo ehi none p2) pos):=
 qk (vj4 (wvr Z.K hK) ha hl hh) fun O H Q az=>ex8 az λE L r m w hc xc k=>by
  refine vk m w (show bnd (a E) _=some r from hc) xc λE1 s h1 x L1 H1 e1 e2 m1 w1 ok fr sr st sm=>?_
  refine qvp m1 w1 h1 (xc.step st) λE2 l h2 L2 H2 m2 w2 bo dj=>?_
  refine qvp m2 w2 h2 (xc.step (st.trans bo)) λE3 u h3 L3 H3 m3 w3 de sm3=>?_
  obtain⟨z,hz,rfl⟩:=Jq h3;have k1:=WQ ok fr bo dj;have k2:=WQ k1.1 k1.2 de sm3;refine vv0 k2.1 (by rw[e1,e2];exact hz) λy H' ho hd o=>?_
  obtain⟨w4,ip⟩:=Q1 w3 ((st.trans bo).trans de) o k2.2 (λb hb=>k2.1.some (Sl.frz_as hb)) (jwz sr λb hb=>Sl.frz_as hb);have gm:q=true->k4 H H3:=λhq=>qw (sm hq) (qw dj sm3)
  exact k _ _ rfl y L3 H' ho hd m3 w4 ip λhq=>⟨qw (gm hq) o.same,λb hb=>z9 (gm hq) (o.new b hb)⟩
def tAV(Z:Fx0)(cs:List Ex):TA:=fun O H Q=>∃E L r,Mt E O L/\World Z.K H L/\qJ cs E=some r/\Xc Z O H L r /\
 ∀E' ys,r=.ok E' ys->∀(xs:List Sl) L' H',xs.map Sl.sd=ys->Mt E' O L'->World Z.K H' L'->(∀x∈xs,x.ok Z.K H')->Step H L H' L'->k4 H H'->Q (xs.map Sl.v) H'
def QAV(X:Cx)(Z:Fx0)(cs:List Ex)(es:List Expr):Prop:=PA X es (tAV Z cs)
theorem wwa:QAV X Z [] []:=W1 wW fun O H Q az=>ex8 az λE L r m w hc xc k=>by
 cases oq9 hc;exact k _ _ rfl [] L H rfl m w (λ_ z=>nomatch z) Step.refl xQ
theorem wje{cs:List Ex}{es:List Expr}(h:QV X Z true c e)(hs:QAV X Z cs es)(cb:autoParam (starEach (e::es) X.env=(false,eval e X.env)::starEach es X.env) Ŕ):QAV X Z (c::cs) (e::es):=
 W1 (qY h hs cb) fun O H Q az=>ex8 az λE L r m w hc xc k=>by
  refine vk m w (show bnd (c E) _=some r from hc) xc λE1 s h1 x L1 H1 e1 e2 m1 w1 ok fr sr st sm=>?_
  rcases xw h1 with⟨E2,ys,h2,h3⟩|⟨E2,cc,h2,h3⟩
  ·cases oq9 h3;refine⟨E1,L1,_,m1,w1,h2,(λ_ _ z=>by cases z),λE' p9 z xs L2 H2 e3 m2 w2 gz bo dj=>?_⟩;injection z with z1 z2;subst z1 z2;refine k _ _ rfl (x::xs) L2 H2 (by rw[List.map_cons,e3];simp[Sl.sd,e1,e2]) m2 w2 (λy hy=>?_) (st.trans bo) (qw (sm rfl) dj);rcases aD hy with rfl|hy
   ·exact(WQ ok fr bo dj).1
   ·exact gz y hy
  ·exact⟨E1,L1,_,m1,w1,h2,(xc.step st).map h3,λE' s' z=>by cases z⟩
theorem vvb{k n:Nat}{ps:List Str}{f:Fn}{cs:List Ex}{es:List Expr}(D:kZ X.prog X.w X.K X.mg X.base k x ps (spF Z.K Z.mg n f))(hr:Room k X.A)(g:xk X Z.EX)(ha:QAV X Z cs (e::es))(hn:autoParam (cs.length=n) Ŕ)(hg:autoParam (Gl X x) Ŕ)(df:autoParam ((x==("__debug__":Str))=false) ŕ)
  (he:autoParam (starEach (e::es) X.env=(false,eval e X.env)::starEach es X.env) Ŕ) (bu:autoParam ((backTo pos (starEach es X.env)).any (·.1)=false) Ŕ):
  QE X Z true (kx3 f cs) (.Call (.Name x p) (e::es) [] pos):=qk (qvu D hr g ha hg df he bu) fun O H Q az=>ex8 az λE L r m w hc xc kk=>by
 have hc:bnd (qJ cs E) _=some r:=hc;rcases xw hc with⟨E1,ys,h1,h2⟩|⟨E1,cc,h1,h2⟩
 rotate_left
 ·exact⟨E,L,_,m,w,h1,xc.map h2,λE' s' z=>by cases z⟩
 refine⟨E,L,_,m,w,h1,(λ_ _ z=>by cases z),λE' p9 z xs L1 H1 e1 m1 w1 ok1 st sm=>?_⟩;injection z with z1 z2;subst z1 z2;rw [Xw];have av:xs.length=n:=by rw[<-hn,<-ZW h1,<-e1,X4]
 cases hf:f (letAll ys)with
 | none=>rw[hf]at h2;cases h2
 | some fr=>
  rw[hf]at h2;have ev:xs.map Sl.v=(xs.map Sl.let).map Sl.v:=by rw[Xs];rfl
  have wl:World Z.K H1 ((xs.map Sl.let).map some):=by
   refine⟨λy hy=>?_,by rw[K9];exact Y6,λa ha=>by rw[K9]at ha;exact nomatch ha⟩;obtain⟨y',hy',e⟩:=aE hy;cases e;obtain⟨t,ht,rfl⟩:=aE hy';exact V1 (ok1 t ht)
  rw[ev];refine⟨xs.map Sl.let,fr,rfl,by rw[X4];exact av,wl,by rw[<-e1]at hf;rw[kv3];exact hf,λE' c ee C H' hm s'=>?_,λE' a ee y H' e2 e3 w' s'=>?_⟩
  ·subst ee;cases oq9 h2;have jg:k4 H1 H':=λb ob hb=>s'.keep b ob hb λz=>by rw[K9]at z;exact nomatch z
   exact xc _ _ rfl C L1 H' hm m1 ⟨λy hy=>RepO.kp (w1.ok y hy) (Kp.of_same jg),w1.nd,w1.ds⟩ (st.trans ⟨λb ob hb _=>jg b ob hb,λ_ h=>.inl h,λ_ h=>.inl h⟩)
  ·subst ee;dsimp only at h2
   split at h2
   ·rename_i hp;cases oq9 h2;have jg:k4 H1 H':=λb ob hb=>s'.keep b ob hb λz=>by rw[K9]at z;exact nomatch z
    have w2:World Z.K H' L1:=⟨λy hy=>RepO.kp (w1.ok y hy) (Kp.of_same jg),w1.nd,w1.ds⟩;obtain⟨z,rp⟩:=RepL.pu (g':=false) (RepO.wk (w'.ok y X7)) (by rw[e3];exact hp);have bo:Step H L H' L1:=st.trans ⟨λb ob hb _=>jg b ob hb,λ_ h=>.inl h,λ_ h=>.inl h⟩;exact kk _ _ rfl ⟨.dp,y.d,y.v,[]⟩ L1 H' rfl e3 m1 (w2.consPu rp rfl) (Jz (x:=⟨.dp,y.d,y.v,[]⟩) bo (λb hb=>nomatch hb) rfl) λ_=>⟨qw sm jg,λ_ z=>(nomatch z)⟩
   ·cases h2
end
theorem vz1{prog:Program}{w:PySem.World}{A:Around}{E:Value->Shared->Prop}{s:Shared}{t:Addr}{items:Array Value}{x:Value}{e:Value->Bool}{j:Nat}{Q:Value->Shared->Prop}
  (ht:IsTup s.heap t items) (he:∀y∈items,SeqAt.EqAt A.in1 s y x (e y)) (hj:j<items.size) (h1:e items[j]=true) (h2:∀m (hm:m<items.size),m<j->e items[m]=false)
  (h:Q (.int j s.toks) { s with toks:=s.toks+1 }):wpAny (model prog w) A (call (.builtin "tuple.index") [.ref t,x]) Q E s:=by
 refine Xy PySem.F.slot_tuple_index ht.typeIs PySem.F.entry_tuple_index ?_ (PySem.F.args_tuple_index_2 _ _);show wpAny _ _ (Builtin.Tuple.tupleItemsOf (.ref t) >>= _) _ _ s;refine X0 (tupleItemsOf_ ht ?_);dsimp only;refine X0 (X1 ?_);refine X0 (X1 ?_);rw[Std.Legacy.Range.forIn_eq_forIn_range'];refine X0 (wpAny_forIn_list _ (λjq b s'=>b=(none,())/\s'=s/\∃k,k<=j/\jq=List.range' k (items.size - k)) _ ?_ ?_ _ _ ⟨rfl,rfl,0,Yg _,?_⟩)
 ·rintro i jq b s' ⟨rfl,rfl,k,hk,hr⟩;obtain⟨n,hn⟩:∃n,items.size - k=n+1:=⟨items.size - k - 1,⋯⟩;rw[hn,List.range'_succ]at hr;injection hr with hi m8;subst hi;have hi:i<items.size:=⋯
  rw[show items[i]?=some items[i]from Yd hi];dsimp only;refine X0 (he items[i] (Array.getElem_mem hi) _ _ _ _ ?_)
  by_cases hij:i=j
  ·subst hij;rw[h1,X9 rfl];unfold retInt;refine X0 (X0 (wpAny_mkInt (X1 (X1 ?_))));exact X1 ⟨_,rfl,h⟩
  ·rw[h2 i hi ⋯,Xb ⋯];refine X1 ⟨rfl,rfl,i+1,⋯,?_⟩;rw[m8]
   congr 1
   omega
 ·rintro b s' ⟨rfl,rfl,k,hk,hr⟩;have:items.size - k=0:=by
   have:=congrArg List.length hr
   simpa using this.symm
  omega
 ·simp
theorem wvs{prog:Program}{w:PySem.World}{A:Around}{E:Value->Shared->Prop}{s:Shared}{l:Addr}{items:Array Value}{k:Int}{t:Tok}{Q:Value->Shared->Prop}
  (ht:IsTup s.heap l items) (h:Q .notImplemented s):wpAny (model prog w) A (call (.builtin "int.__rmul__") [.int k t,.ref l]) Q E s:=by
 refine Xy PySem.F.slot_int_rmul (typeIs_int s k t) PySem.F.entry_int_rmul ?_ (PySem.F.args_int_rmul_2 _ _);obtain⟨o,e,c,n,hd⟩:=ht;show wpAny _ _ (asInt? (.ref l) >>= _) _ _ s;unfold asInt?;refine X0 (X0 (wpAny_load e ?_));rw[hd];refine X1 ?_;dsimp only;refine X0 (Z8 ?_);exact X1 ⟨_,rfl,h⟩
theorem mulT{prog:Program}{w:PySem.World}{A:Around}{E:Value->Shared->Prop}{s:Shared}{l:Addr}{items:Array Value}{k:Int}{t:Tok}{Q:Value->Shared->Prop}
  (ht:IsTup s.heap l items) (h1:-(2 ^ 63)<=k) (h2:k<2 ^ 63) (hz:items.size*k.toNat<=sizeLine)
  (se:(items.isEmpty=true\/k=1)->Q (.ref l) s)
  (hsz:(List.foldl (λx1 x2=>x1++x2) #[] (List.replicate k.toNat items)).size<=sizeLine)
  (fz:Q (.ref s.heap.objs.size) { s with heap:=s.heap.push { cls:=.type "tuple",data:=.seq (List.foldl (λx1 x2=>x1++x2) #[] (List.replicate k.toNat items)) } })
  : wpAny (model prog w) A (call (.builtin "tuple.__mul__") [.ref l,.int k t]) Q E s:=by
 refine Xy PySem.F.slot_tuple_mul ht.typeIs PySem.F.entry_tuple_mul ?_ (PySem.F.args_tuple_mul_2 _ _);show wpAny _ _ (if(decide (k < -2 ^ 63)||decide (k>=2 ^ 63))=true then _ else _) _ _ s;rw [Xb (by simp;omega)];show wpAny _ _ (Builtin.Tuple.tupleItemsOf (.ref l) >>= _) _ _ s;refine X0 (tupleItemsOf_ ht ?_)
 by_cases hs:(items.isEmpty||k==1)=true
 ·rw[X9 hs];unfold Builtin.Tuple.tupleIsExact;refine X0 (X0 (wpAny_typeOf ht.typeIs (X1 ?_)));rw[X9 ⋯];refine X0 (Z8 ?_);refine X1 ⟨_,rfl,se ?_⟩
  simpa using hs
 ·rw[Xb hs];have bj:items.isEmpty=false:=by
   cases h:items.isEmpty<;>simp_all
  have hm:((items.size:Int)*k)<=(sizeLine:Int)\/k<=0:=by
   by_cases hk:k<=0
   ·exact .inr hk
   ·refine .inl ?_;have e:((k.toNat:Nat):Int)=k:=Int.toNat_of_nonneg ⋯;have:((items.size*k.toNat:Nat):Int)<=(sizeLine:Int):=Int.ofNat_le.mpr hz;rw[Int.natCast_mul,e]at this;exact this
  dsimp only
  by_cases hk:k<=0
  ·rw[X9 (by simp[hk])];have e:k.toNat=0:=⋯
   rw[e]at fz;unfold Builtin.Tuple.tupleExact;exact X0 (Xp (X1 ⟨_,rfl,fz⟩) (show(0:Nat)<=sizeLine from Yg _))
  ·rw[Xb (by simp[hk,bj])];have hm:=hm.resolve_right hk;have iz:(sizeLine:Int)=16777216:=⋯
   rw[Xb ⋯];rw[Xb (by unfold Builtin.Tuple.tupleTooMany;simp;omega)];unfold Builtin.Tuple.tupleExact;exact X0 (Xp (X1 ⟨_,rfl,fz⟩) hsz)
section
variable {X:Cx}{Z:Fx0}{K:Frag}{pn:List Nat}{q qa qb:Bool}{a b c:Ex}{u:Ts}{tg e ea eb:Expr}{st:Stmt}{O:L2.St}{H:Hp}{L:Ls}{E:En}{pos p p2:Pos}{x:Str}
def vzt(K:Frag):R2:=λx y H Q=>∃l k xs,x=.ref l/\y=.int k/\SqT K H l xs/\-(2 ^ 63)<=k/\k<2 ^ 63/\xs.length*k.toNat<=sizeLine/\((xs=[]\/k=1)->Q (.ref l) H)/\∀p,H p=none->Q (.ref p) (upd H p (.tup (List.replicate k.toNat xs).flatten))
theorem op_repT:OpR X (binaryOp .Mult) (vzt X.K):=by
 intro pins s O H x y v u Q I rx ry h;obtain⟨l,k,xs,rfl,rfl,hq,h1,h2,hz,q1,q2⟩:=h;cases rx;obtain⟨t,rfl⟩:=ry;obtain⟨ai,r,ht,hl⟩:=I.tuple hq;have av:=r.length;have f0:List.foldl (λx1 x2=>x1++x2) #[] (List.replicate k.toNat ai.toArray)=(List.replicate k.toNat ai).flatten.toArray:=by
  have:=kju ai k.toNat [];rw[List.nil_append]at this;exact this
 have hz2:(List.replicate k.toNat xs).flatten.length<=sizeLine:=by rw[qwf,Nat.mul_comm];exact hz
 refine wpAny_binaryOp_repeat_ref (T:="tuple") (U:="int") ⋯ ht.typeIs (λs'=>typeIs_int s' k t) rfl F.fills_int_mul F.slot_int_rmul (show seqRepeat? (Value.type "tuple")=pure (some (Value.builtin "tuple.__mul__"))from rfl) F.slot_int_index.lookup
  (wvs ht ⟨rfl,ht.typeIs,mulT ht h1 h2 (by rw[X5,<-av];exact hz) (λhs=>?_) ?_ ?_⟩)
 ·refine⟨.ref l,H,I,rfl,q1 ?_⟩;rcases hs with hs|hs
  ·left;have:ai=[]:=by simpa using hs
   subst this
   simpa using av
  ·exact .inr hs
 ·rw[f0,X5,<-(r.rep k.toNat).length];exact hz2
 ·rw[f0];exact⟨.ref _,_,I.laid (t':=s.toks) (o:=.tup _) (λb o e=>X3 _ e) (X8 _) ⟨hz2,_,r.rep k.toNat,IsTupD.new _ _⟩,rfl,q2 _ (I.hok.fresh (X8 _))⟩
def vzw(K:Frag):R2:=λx y H Q=>vzt K x y H Q\/vv7 K x y H Q
theorem wk4(hK:autoParam (X.K=K) Ŕ):OpR X (binaryOp .Mult) (vzw K):=by subst hK;exact op_repT.or wk5
theorem vxj:Ad2 K (vzw K) vz:=by
 intro H x y s Q ox oy hf k;cases hx:x.d with
 | tup ds=>
  cases hy:y.d with
  | int n=>
   unfold vz at hf;rw [show(x.o,x.d).2=x.d from rfl,show(y.o,y.d).2=y.d from rfl,hx,hy]at hf;dsimp only at hf
   split at hf
   ·rename_i hc;cases oq9 hf;obtain⟨l,xs,bs,e3,q3,r3,h3⟩:=J7 ox (.inr hx) (by rw[hx];exact hc.2.2.2);have q3:SqT K H l xs:=by rcases q3 with⟨z,_⟩|⟨_,z⟩;rw[hx]at z;cases z;exact z
    obtain⟨cs,r4,h4⟩:=r3.reps n.toNat;refine .inl ⟨l,n,xs,e3,v5 oy hy,q3,hc.1,hc.2.1,by rw[<-r3.len];exact hc.2.2.1,λhs=>?_,λp hp=>?_⟩
    ·refine k ⟨.no,.tup _,.ref l,cs⟩ H rfl rfl ⟨xQ,?_,λb hb=>(nomatch hb),Y6,λb hb=>ll9 _ (h3 b (h4 b hb))⟩;show RepL K H true (.tup _) (.ref l) cs;unfold RepL;refine⟨l,xs,rfl,q3,?_⟩;have e:(List.replicate n.toNat xs).flatten=xs:=by
      rcases hs with hs|hs
      ·subst hs;simp
      ·subst hs;simp
     rw[e]at r4;exact r4
    ·exact k ⟨.no,.tup _,.ref p,cs⟩ _ rfl rfl (kjd hp r4 λb hb=>ll9 _ (h3 b (h4 b hb)))
   ·cases hf
  |_=>
   refine .inr (vqm H x y s Q ox oy ?_ k);unfold vz at hf;rw[show(x.o,x.d).2=x.d from rfl,show(y.o,y.d).2=y.d from rfl,hx,hy]at hf;rw[hx,hy];exact hf
 |_=>
  refine .inr (vqm H x y s Q ox oy ?_ k);unfold vz at hf;rw[show(x.o,x.d).2=x.d from rfl,hx]at hf;rw[hx];exact hf
theorem qwb{h:Heap}:∀{ds:List D} {us:List Value},CReps h ds us->us.map (dec h)=ds
 |[],_,r=>by unfold CReps at r;rw[r];rfl
 |z::ds,_,r=>by
  unfold CReps at r;obtain⟨u,rr,rfl,h1,h2⟩:=r;rw[List.map_cons,kx0 h1,qwb h2]
def wvz(K:Frag)(C:Hp->List V->Prop):List V->Hp->VK->Prop:=λvs H Q=>∃v d ds as bs xs j,vs=[v]/\RepL K H true d v as/\C H xs/\RepA K H true ds xs bs/\d.flat 30=true/\D.flats 30 ds=true/\(ds.findIdx? λz=>peq z d)=some j/\Q (.int j) H
theorem vj5{o:Expr}{to:TE}{t:TA}{apos au:Pos}(hu:X.A.units+64<cLine)(ho:PE X o to)(ha:PA X [e] t)
  (cx:autoParam (attributeBase o "index" X.env (eval o X.env)=eval o X.env) Ŕ)
  (fh:autoParam (((backTo au (starEach [e] X.env)).all (λx=>!x.1)&&(backToKw au (keywordEach [] X.env)).all (λx=>x.1.isSome)
   && decide ([e].length+([]:List Keyword).length+(if([]:List Keyword).isEmpty then 0 else 1)<30))=true) Ŕ)
  (cy:autoParam ((apos.endLine==au.line)=true) Ŕ) (hs:autoParam (starEach [e] X.env=(false,eval e X.env)::starEach [] X.env) Ŕ) (bn:autoParam ((backTo au (starEach [] X.env)).any (·.1)=false) Ŕ):
  PE X (.Call (.Attribute o "index" apos) [e] [] au) (fun O H Q=>to O H λx H1=>(∃p xs,x=.ref p/\LsR X.K H1 p xs/\t O H1 λvs H2=>wvz X.K (λH xs=>LsR X.K H p xs) vs H2 Q)\/∃p xs,x=.ref p/\SqT X.K H1 p xs/\t O H1 λvs H2=>wvz X.K (λH xs=>SqT X.K H p xs) vs H2 Q):=by
 intro pins s O H Q I h;refine wpAny_Call_method_late cx fh cy rfl (thn (ho pins s O H _ I h) λv s1 ⟨x,H1,I1,r1,qq⟩=>?_);have eqs:∀{s2:Shared} {H2:Hp} {d:D} {v:V} {as:List Addr} {w:Value} {us:List Value} {ds:List D},L2.Inv X pins O H2 s2->RepL X.K H2 true d v as->RelV v w->d.flat 30=true->D.flats 30 ds=true->CReps s2.heap ds us->∀y∈us.toArray,SeqAt.EqAt X.A.in1 s2 y w (peq (dec s2.heap y) d):=fun {s2 H2 d v as w us ds} I2 rd rw f1 f2 cr y hy=>by
  have c1:=V8 I2 rd f1 rw;obtain⟨d',hd,c⟩:=jzy cr (by simpa using hy);rw[kx0 c];exact Wx 30 (jxb f2 hd) c c1 (by have:=L3.in1_units X.A;omega)
 have idx:∀{h:Heap} {ds:List D} {us:List Value} {d:D} {j:Nat},CReps h ds us->(ds.findIdx? λz=>peq z d)=some j->∃hj:j<us.toArray.size,peq (dec h us.toArray[j]) d=true/\∀m (hm:m<us.toArray.size),m<j->peq (dec h us.toArray[m]) d=false:=fun {h ds us d j} cr hf=>by
  have e:=qwb cr;subst e;rw[List.findIdx?_eq_some_iff_getElem]at hf;obtain⟨hj,h1,h2⟩:=hf;have hj':j<us.length:=by simpa using hj
  refine⟨by simpa using hj',by simpa using h1,λm hm hmj=>?_⟩;have:=h2 m hmj
  simpa using this
 rcases qq with⟨pp,zs,rfl,ty,q1⟩|⟨pp,zs,rfl,ty,q1⟩
 ·cases r1;have hA:=ha au pins s1 O H1 _ I1 q1;rw[hs]at hA ⊢;obtain⟨z,ai,n,r,e0⟩:=ty.is I1;refine⟨"list","list.index",F.plainAttrs_list,F.slot_list_index,F.type_list_index,⟨_,e0,rfl⟩,λa e2=>?_,?_⟩
  ·cases e2;exact⟨_,e0,rfl⟩
  refine Calls.callWith_builtin (by show(false||(backTo au (starEach [] X.env)).any (·.1))=false;rw[bn]<;>rfl) (Calls.evalArgs_plain ?_);refine thn hA λus s2 ⟨vs,H2,I2,r2,d2⟩=>?_
  obtain⟨v,d,ds,as,bs,xs,j,rfl,rd,hq,ra,f1,f2,hf,q2⟩:=d2;obtain⟨w,rfl,rw1⟩:=r2.one;obtain⟨z2,gb,n2,r3,e3⟩:=hq.is I2;have cr:=creps_of I2 ra f2 r3;obtain⟨hj,h1,h2⟩:=idx cr hf;have hsz:gb.toArray.size<=16777216:=by rw[X5,<-r3.length];exact z2
  exact call_meets F.slot_list_index ⟨_,e3,rfl⟩ F.entry_list_index (F.args_list_index_2 _ _) (SeqAt.list_indexAt pp gb.toArray n2 none #[] w (λy=>peq (dec s2.heap y) d) j hj ⋯ h1 h2) ⟨e3,eqs I2 rd rw1 f1 f2 cr,.int _,H2,I2.tok _,⟨_,rfl⟩,q2⟩
 ·cases r1;have hA:=ha au pins s1 O H1 _ I1 q1;rw[hs]at hA ⊢;obtain⟨ai,r,ht,hz⟩:=I1.tuple ty;have hd0:=I1.tupleD ty;refine⟨"tuple","tuple.index",F.plainAttrs_tuple,F.slot_tuple_index,F.type_tuple_index,ht.typeIs,λa e2=>?_,?_⟩
  ·cases e2;exact hd0
  refine Calls.callWith_builtin (by show(false||(backTo au (starEach [] X.env)).any (·.1))=false;rw[bn]<;>rfl) (Calls.evalArgs_plain ?_);refine thn hA λus s2 ⟨vs,H2,I2,r2,d2⟩=>?_
  obtain⟨v,d,ds,as,bs,xs,j,rfl,rd,hq,ra,f1,f2,hf,q2⟩:=d2;obtain⟨w,rfl,rw1⟩:=r2.one;obtain⟨gb,r3,ht2,hz2⟩:=I2.tuple hq;have cr:=creps_of I2 ra f2 r3;obtain⟨hj,h1,h2⟩:=idx cr hf;exact vz1 (e:=λy=>peq (dec s2.heap y) d) ht2 (eqs I2 rd rw1 f1 f2 cr) hj h1 h2 ⟨.int _,H2,I2.tok _,⟨_,rfl⟩,q2⟩
theorem kxr{apos au:Pos}(hu:X.A.units+64<cLine)(ha:QV X Z q a ea)(hb:QV X Z true b eb)(hK:autoParam (X.K=Z.K) Ŕ)
  (cx:autoParam (attributeBase ea "index" X.env (eval ea X.env)=eval ea X.env) Ŕ)
  (fh:autoParam (((backTo au (starEach [eb] X.env)).all (λx=>!x.1)&&(backToKw au (keywordEach [] X.env)).all (λx=>x.1.isSome)
   && decide ([eb].length+([]:List Keyword).length+(if([]:List Keyword).isEmpty then 0 else 1)<30))=true) Ŕ)
  (cy:autoParam ((apos.endLine==au.line)=true) Ŕ) (hs:autoParam (starEach [eb] X.env=(false,eval eb X.env)::starEach [] X.env) Ŕ) (bn:autoParam ((backTo au (starEach [] X.env)).any (·.1)=false) Ŕ):
  QE X Z q (YX a b) (.Call (.Attribute ea "index" apos) [eb] [] au):=qk (vj5 hu ha (qY hb wW hs) cx fh cy hs bn) fun O H Q az=>ex8 az λE L r m w hc xc k=>by
 refine vk m w (show bnd (a E) _=some r from hc) xc λE1 s h1 x L1 H1 e1 e2 m1 w1 ok fr sr st sm=>?_
 split at h1
 rotate_left
 ·cases h1
 rename_i hsq;rw [hK];have fin:∀{ds:List D},(x.d=.lst ds\/x.d=.tup ds)->∀(C:Hp->List V->Prop),(∀H2,x.ok Z.K H2->∃xs bs,C H2 xs/\RepA Z.K H2 true ds xs bs)->tV Z true b O H1 λv H2=>wvz Z.K C [v] H2 Q:=fun {ds} hx C hC=>by
  refine vk m1 w1 h1 (xc.step st) λE2 s2 h2 y L2 H2 e3 e4 m2 w2 gz sk si bo dj=>?_
  obtain⟨z,hz,rfl⟩:=Jq h2;have kx:=WQ ok fr bo (dj rfl);obtain⟨xs,bs,c1,c2⟩:=hC H2 kx.1;have key:∃j:Nat,y.d.flat 30=true/\D.flats 30 ds=true/\(ds.findIdx? λz=>peq z y.d)=some j/\z=(.dp,.int j):=by
   unfold pu2 kwq at hz;rw[<-e2,<-e4]at hz;have i3:(if y.d.flat 30&&D.flats 30 ds then(ds.findIdx? λz=>peq z y.d).map λ(j:Nat)=>D.int (j:Int)else none).map (λd=>((Own.dp,d):Sd))=some z:=by
    rcases hx with hx|hx<;>(rw[hx]at hz;exact hz)
   split at i3
   ·rename_i hf;rw[Bool.and_eq_true]at hf;cases hj:ds.findIdx? λz=>peq z y.d with|none=>rw[hj]at i3;cases i3|some j=>rw[hj]at i3;exact⟨j,hf.1,hf.2,rfl,(oq9 i3).symm⟩
   ·cases i3
  obtain⟨j,f1,f2,f3,rfl⟩:=key;refine⟨y.v,y.d,ds,y.as,bs,xs,j,rfl,RepO.wk gz,c1,c2,f1,f2,f3,?_⟩;have gm:q=true->k4 H H2:=λhq=>qw (sm hq) (dj rfl)
  exact k _ _ rfl ⟨.dp,.int j,.int j,[]⟩ L2 H2 rfl rfl m2 (w2.consPu (x:=⟨.dp,.int j,.int j,[]⟩) (show RepL Z.K H2 false (.int j) (.int j) []from vX) rfl) (Jz (x:=⟨.dp,.int j,.int j,[]⟩) (st.trans bo) (λb hb=>nomatch hb) rfl) λhq=>⟨gm hq,λ_ z=>(nomatch z)⟩
 have wkA:∀{ds:List D} {xs:List V} {bs:List Addr} {H2:Hp},RepA Z.K H2 (x.o != .dp) ds xs bs->RepA Z.K H2 true ds xs bs:=fun {ds xs bs H2} r=>by
  cases ho:(x.o != .dp)with|true=>rw[ho]at r;exact r|false=>rw[ho]at r;exact r.wk
 cases hx:x.d with
 |lst ds=>
  obtain⟨l,xs,bs,ev,q3,r3,h3,_⟩:=items ok (.inl hx);have q3:LsR Z.K H1 l xs:=by rcases q3 with⟨_,z⟩|⟨z,_⟩;exact z;rw[hx]at z;cases z
  refine .inl ⟨l,xs,ev,q3,fin (.inl hx) _ λH2 gz=>?_⟩;obtain⟨l2,ys,cs,ev2,q4,r4,_⟩:=items gz (.inl hx);have:l2=l:=by have:=ev2.symm.trans ev;exact V.ref.inj this
  subst this;rcases q4 with⟨_,z⟩|⟨z,_⟩
  ·exact⟨ys,cs,z,wkA r4⟩
  ·rw[hx]at z;cases z
 |tup ds=>
  obtain⟨l,xs,bs,ev,q3,r3,h3,_⟩:=items ok (.inr hx);have q3:SqT Z.K H1 l xs:=by rcases q3 with⟨z,_⟩|⟨_,z⟩;rw[hx]at z;cases z;exact z
  refine .inr ⟨l,xs,ev,q3,fin (.inr hx) _ λH2 gz=>?_⟩;obtain⟨l2,ys,cs,ev2,q4,r4,_⟩:=items gz (.inr hx);have:l2=l:=by have:=ev2.symm.trans ev;exact V.ref.inj this
  subst this;rcases q4 with⟨z,_⟩|⟨_,z⟩
  ·rw[hx]at z;cases z
  ·exact⟨ys,cs,z,wkA r4⟩
 |_=>rw[<-e2,hx]at hsq;cases hsq
end
theorem kx4:bootBuiltins "enumerate"=some (.type "enumerate"):=boot_enumerate
section
variable {X:Cx}{Z:Fx0}{K:Frag}{pn:List Nat}{q qa qb:Bool}{a b c:Ex}{u:Ts}{tg e ea eb:Expr}{st:Stmt}{O:L2.St}{H:Hp}{L:Ls}{E:En}{pos p p2 i8:Pos}{x:Str}{fj:List Expr}{k1:Nat}
theorem jxf:∀(ds:List D) (k:Nat),(zq k ds).length=ds.length
 |[],_=>rfl|d::ds,k=>by rw[zq,Xv,Xv,jxf ds]
theorem kwu:∀(ds:List D) (k i:Nat),(zq k ds)[i]?=(ds[i]?).map λd=>.tup [.int ((k+i:Nat):Int),d]
 |[],_,_=>by simp[zq]|d::ds,k,0=>by simp[zq]
 |d::ds,k,i+1=>by
  rw[zq,List.getElem?_cons_succ,List.getElem?_cons_succ,kwu ds,show k+1+i=k+(i+1)from by omega]
theorem qzp{H2:Hp}{T:Addr}{d1 d2:D}{v1 v2:V}{b1 b2:List Addr}(hT:H2 T=none)(r1:RepL K H2 true d1 v1 b1)(r2:RepL K H2 true d2 v2 b2):RepL K (upd H2 T (.tup [v1,v2])) true (.tup [d1,d2]) (.ref T) (b1++b2):=by
 have sm:k4 H2 (upd H2 T (.tup [v1,v2])):=vw hT;unfold RepL;refine⟨T,[v1,v2],rfl,.inl (.inl wJ),?_⟩;unfold RepA;refine⟨v1,[v2],b1,b2,rfl,rfl,r1.kp (Kp.of_same sm),?_⟩;unfold RepA;refine⟨v2,[],b2,[],rfl,by simp,r2.kp (Kp.of_same sm),?_⟩;unfold RepA;exact⟨rfl,rfl⟩
end
theorem RepA.erase{K:Frag}{H:Hp}{g:Bool}:∀{j:Nat} {ds:List D} {xs:List V} {as:List Addr},RepA K H g ds xs as->∃bs,RepA K H g (ds.eraseIdx j) (xs.eraseIdx j) bs/\bs.Sublist as
 |j,[],xs,as,h=>by
  unfold RepA at h;obtain⟨rfl,rfl⟩:=h;exact⟨[],by simp only[List.eraseIdx_nil];unfold RepA;exact⟨rfl,rfl⟩,Yq _⟩
 |0,d::ds,xs,as,h=>by
  unfold RepA at h;obtain⟨x,r,bs,cs,rfl,rfl,h1,h2⟩:=h;exact⟨cs,h2,List.sublist_append_right _ _⟩
 |j+1,d::ds,xs,as,h=>by
  unfold RepA at h;obtain⟨x,r,bs,cs,rfl,rfl,h1,h2⟩:=h;obtain⟨es,r2,hs⟩:=RepA.erase (j:=j) h2;refine⟨bs++es,?_,List.Sublist.append (Yq _) hs⟩;rw[Z1,Z1];unfold RepA;exact⟨x,r.eraseIdx j,bs,es,rfl,rfl,h1,r2⟩
theorem wkv{n:Nat}{i:Int}{j:Nat}(h:_root_.Q.ixN n i=some j):seqIndex? i n=some j/\j<n/\-(n:Int)<=i/\i<n:=by
 have e:L2.ixN n i=some j:=by
  unfold _root_.Q.ixN at h;unfold L2.ixN
  by_cases h0:0<=i
  ·rw[X9 h0]at h ⊢;exact h
  ·rw[Xb h0]at h ⊢;exact h
 exact kz6 e
section
variable {X:Cx}{Z:Fx0}{K:Frag}{pn:List Nat}{q qa qb:Bool}{a b c:Ex}{u:Ts}{tg e ea eb:Expr}{st:Stmt}{O:L2.St}{H:Hp}{L:Ls}{E:En}{pos p p2 i8:Pos}{x:Str}{fj:List Expr}{k1:Nat}
theorem ww1 {i:Nat} {o:Expr} {apos au:Pos} (hb:PE X (.Call (.Attribute o "pop" apos) [e] [] au) (tBM Z.K "list" vko (JX i) (qze (tV Z q c) wv4))):QE X Z false (Zv i c) (.Call (.Attribute o "pop" apos) [e] [] au):=qk hb fun O H Q az=>ex8 az λE L r m w hc xc k=>by
 unfold Zv at hc;cases h0:E[i]? with
 | none=>rw [h0]at hc;cases hc
 | some s0 =>
  cases s0 with
  | none=>rw [h0]at hc;cases hc
  | some s0 =>
   obtain ⟨o0,d0⟩:=s0;cases d0 with
   | lst ds0 =>
    rw [h0,X9 (show K6 (some (some (o0,D.lst ds0)))=true from rfl)]at hc;obtain ⟨x0,a1,a2,a3,a4⟩:=m.get h0;refine ⟨x0.v,a4,vq4 (w.ok x0 (ww a1)) a3,?_⟩;refine vk m w hc xc λE1 s h1 x L1 H1 e1 e2 m1 w1 ll fr sr st sm=>?_
    cases hE:E1[i]? with
    | none=>rw[hE]at h1;cases h1
    | some s1=>
     cases s1 with
     | none=>rw[hE]at h1;cases h1
     | some s1=>
      obtain ⟨oo,dd⟩:=s1;rw [hE]at h1;cases dd with
      | lst ds=>
       cases hs:s.2 with
       | int kk=>
        rw [hs]at h1;dsimp only at h1
        by_cases fm:oo=.no
        ·rw [X9 fm]at h1;cases h1
        ·rw [Xb fm]at h1;cases hj:_root_.Q.ixN ds.length kk with
         | none=>rw[hj]at h1;cases h1
         | some j=>
          rw [hj]at h1;dsimp only at h1;cases hd:ds[j]? with
          | none=>rw[hd]at h1;cases h1
          | some d=>
           rw[hd]at h1;dsimp only at h1
           split at h1
           rotate_left
           ·cases h1
           rename_i hp;rw[Bool.and_eq_true]at hp;obtain⟨hp,hsm⟩:=hp;obtain⟨jg,dj⟩:=jxr hsm;cases oq9 h1;obtain⟨y,b1,b2,b3,b4⟩:=m1.get hE;have hv:y.v=x0.v:=by rw[a4]at b4;exact(oq9 (oq9 b4)).symm
           obtain⟨l,xs,bs,c1,c2,c3,c4,c5⟩:=kxv (w1.ok y (ww b1)) b3 (by rw[b2];exact fm);have ex0:x0.v=.ref l:=hv▸c1;rw[ex0];obtain⟨vv,ic,f1,f2,f3⟩:=c5.get hd;obtain⟨g1,g2,g3,g4⟩:=wkv hj;have av:=c5.len;have jn:(2:Int) ^ 63=9223372036854775808:=⋯
           obtain⟨_,rp⟩:=RepL.pu (g':=false) f2 hp;obtain⟨cs,r6,f9⟩:=c5.erase (j:=j);refine⟨l,xs,kk,j,vv,rfl,by rw[v5 ll (e2.trans hs)],c2,?_,?_,by rw[<-av];exact g1,f1,?_⟩
           ·have:(2:Int) ^ 62=4611686018427387904:=⋯
            omega
           ·have:(2:Int) ^ 62=4611686018427387904:=⋯
            omega
           have yn:y.own.Nodup:=by
            obtain⟨A,B,e,_⟩:=jxj b1;have:=w1.nd;rw[e,jW,kJ,Xd]at this;exact(List.nodup_append.mp this.2.1).1
           have hoo:y.o=.rt\/y.o=.dp:=by
            rw[b2];cases oo with|no=>exact absurd rfl fm|rt=>exact .inl rfl|dp=>exact .inr rfl
           obtain⟨w3,s3⟩:=kqq (T:=[]) (o':=y.o) (ds':=ds.eraseIdx j) (xs':=xs.eraseIdx j) (by simpa using w1) b1 c2 c3 c4 c1 r6 (by
            rcases hoo with hoo|hoo
            ·exact .inl ⟨hoo,λa ha=>.inl (f9.subset ha)⟩
            ·refine .inr ⟨hoo,hoo,?_,λa ha=>.inl (f9.subset ha)⟩;unfold Sl.own at yn;rw[hoo,c3]at yn;exact f9.nodup (List.nodup_cons.mp yn).2)
           have ke:∀a o,H1 a=some o->a≠l->upd H1 l (.lst (xs.eraseIdx j)) a=some o:=λa o e ne=>by rw[kz ne];exact e
           have rp2:RepL Z.K (upd H1 l (.lst (xs.eraseIdx j))) false d vv []:=by
            refine rp.kp ⟨λa zs e=>ke a _ e λz=>?_,λa o u e=>ke a _ e λz=>?_,λa ha=>nomatch ha⟩
            ·subst z;rw[c2]at e;cases e
            ·subst z;rw[c2]at e;cases e
           have mm:=m1.set (x:=⟨y.o,.lst (ds.eraseIdx j),y.v,l::cs⟩) i;rw[Ww b4]at mm;refine k _ _ rfl ⟨.dp,d,vv,[]⟩ _ _ rfl rfl (by rw[<-b2];exact mm) (w3.consPu rp2 rfl) (Jz (x:=⟨.dp,d,vv,[]⟩) (st.trans (by simpa using s3)) (λb hb=>nomatch hb) rfl) λz=>nomatch z
       |_=>rw[hs]at h1;cases h1
      |_=>cases h1
   |_=>rw[h0]at hc;cases hc
end
end Q
namespace L3
open PySem PySem.Spec PyProof.Rows L2
def tX(X:Cx)(x:Addr):Cx:={ X with A:=X.A.mark (some (.ref x)),calm:=false,xe:=λ_ _=>False }
abbrev exO(o:Obj):HO:=.frz o (.ext λ_=>True)
section
variable {X:Cx}{pins:List (Addr×Obj)}{O:L2.St}{H:Hp}{s:Shared}{x:Addr}{ox:Obj}
theorem vq7(I:Inv X pins O H s):Inv (tX X x) pins O H s:=
 ⟨⟨I.ok.mod,I.ok.kind,I.ok.glob,I.ok.blt,I.ok.above,I.ok.inj,I.ok.has,I.ok.cab,λz=>(by cases z),I.ok.frames,I.ok.stk,I.ok.exf,I.ok.bs,I.ok.bsz,I.ok.noex,I.ok.exfs,I.ok.funs,I.ok.frf⟩,I.os,I.bare,I.base,I.loc,I.cell,I.free,I.freeC,I.pin,I.hok,I.len⟩
theorem vwl(ok:X.Ok)(I:Inv (tX X x) pins O H s):Inv X pins O H s:=⟨ok,I.os,I.bare,I.base,I.loc,I.cell,I.free,I.freeC,I.pin,I.hok,I.len⟩
theorem vwm(I:Inv X pins O H s)(e:s.heap.get? x=some ox)(f:FpX X pins H x):Inv X pins O (upd H x (exO ox)) s:=by
 obtain⟨hn,f1,f2,f3,f4,f5⟩:=f;refine⟨I.ok,I.os,I.bare,⟨I.base.keep,I.base.slot,λb o q n hx=>?_,I.base.there,λb xs q=>?_,λb o u q=>?_,λb ps q=>?_⟩,I.loc,I.cell,?_,λy c q=>?_,λp hp=>?_,λb u q=>?_,I.len⟩
 ·have hb:b≠x:=by
   rintro rfl;rcases f3 with z|z
   ·exact hx z
   ·rw[z]at q;cases q
  rw[kz hb];exact I.base.free b o q n hx
 ·have:=I.base.tups b xs q;rw[kz (xK this hn)];exact this
 ·have:=I.base.frzs b o u q;rw[kz (xK this hn)];exact this
 ·obtain⟨more,this⟩:=I.base.tbls b ps q;exact⟨more,by rw[kz (xK this hn)];exact this⟩
 ·rw[kz (Ne.symm f1)];exact I.free
 ·rw[kz (f4 y c q)];exact I.freeC y c q
 ·obtain⟨a1,a2,a3⟩:=I.pin p hp;exact⟨a1,by rw[kz (f5 p hp)];exact a2,a3⟩
 ·by_cases hb:b=x
  ·subst hb;rw[wJ]at q;cases q;exact⟨e,trivial,⟨_,e⟩,λ_ _ _ _=>trivial⟩
  ·rw[kz hb]at q;exact(I.hok b u q).stay (λc v _ q=>q) (λc q=>by rw[kz (xK q hn)];exact q) λc xs q=>by rw[kz (xK q hn)];exact q
end
abbrev vz4(K:Frag)(UC:Addr)(i:Nat)(tb:XK->TS)(ts:TS):TS:=λD O H=>∃E:XK,tb E D O H/\∀x Cv H',E Cv none H'->H' x=none->∃C,Cv=.ref C/\PySem.W.exmOne K (.ref C) (.ref UC)=some true/\XCls K C /\
 ∀o,ExAt K x o C->ts { nx:=fun σ' H''=>D.nx (σ'.set i none) H'',rt:=D.rt,bk:=fun σ' H''=>D.bk (σ'.set i none) H'',ct:=fun σ' H''=>D.ct (σ'.set i none) H'' } (O.set i (some (.ref x))) (upd H' x (exO o))
theorem vvj{X:Cx}{ux n:Str}{np j' pos:Pos}{UC:Addr}{i:Nat}{st b0:Stmt}{gn:List Stmt}{tb:XK->TS}{ts:TS}(hN:X.N.Nodup)(hi:X.N[i]?=some n)(hk:X.env.scope.names.lookup n=some .local)(top:z7 X)(hU:X.mg ux=some (.ref UC))(hb:PSX X st tb)
  (hs:∀x,PSs (tX X x) (b0::gn) ts) (hg:autoParam (Gl X ux) Ŕ) (df:autoParam ((ux==("__debug__":Str))=false) ŕ):
  PS X (.Try [st] [.ExceptHandler (some (.Name ux np)) (some n) (b0::gn) j'] [] [] pos) (vz4 X.K UC i tb ts):=by
 intro pins s O H D I ⟨E,h1,h2⟩;refine wpAny_Try_except (wpAny_execs_cons (Zi (hb E pins s O H D I h1) (λf s1 q=>?_) (λe s1 q=>?_)))
 ·cases f with|next=>exact wpAny_execs_nil (wpAny_execs_nil q)|ret v=>exact q|brk=>exact q|cont=>exact q
 ·obtain⟨H',x,Cv,rfl,I1,f1,q1⟩:=q;refine qja top rfl I1 f1 λL T s2 _ t2=>jxa t2 λs3 t3=>?_
  obtain⟨C,rfl,hm,xc,ht⟩:=h2 x Cv H' q1 t3.fx.1;refine wpAny_handleBy_cons (codeAny_handlers_test ?_) (λz=>nomatch z);obtain⟨vs,ho,hv⟩:=t3.f.ex;have I3:Inv (tX X x) pins O H' s3:=vq7 t3.inv;refine kjo I3 hg hU ?_ df;have at3:PySem.W.InstAt s3.heap x { cls:=.ref C,data:=.fields vs } C none:=⟨ho,rfl,rfl,trivial⟩;refine Lk (PySem.W.exm_one t3.inv.kIn at3.type hm) ?_;show codeAny _ _ _ _ s3;refine codeAny_handlers_suite_as (jxa t3 λs4 t4=>?_);obtain⟨vs4,ho4,hv4⟩:=t4.f.ex;have I4:Inv (tX X x) pins O (upd H' x (exO { cls:=.ref C,data:=.fields vs4 })) s4:=vq7 (vwm t4.inv ho4 t4.fx);refine jwy (X:=tX X x) I4 hN hi (.inl hk) (v:=.ref x) (u:=.ref x) rfl (λs5 I5=>?_) (.inr hk);refine Zi (hs x pins s5 _ _ _ I5 (ht _ ⟨rfl,rfl,rfl,xc⟩)) (λf s6 q=>?_) λ_ _ z=>z.elim
  have bk:∀{σ6:L2.St} {H6:Hp},Inv (tX X x) pins σ6 H6 s6->Inv X pins σ6 H6 s6:=λz=>vwl I.ok z
  show wpAny _ _ _ _ _ s6;cases f with
  |next=>
   obtain⟨σ6,H6,I6,q6⟩:=q;exact jx6 (bk I6) hN hi hk λs7 I7=>⟨_,_,I7,q6⟩
  |brk=>
   obtain⟨σ6,H6,I6,q6⟩:=q;exact jx6 (bk I6) hN hi hk λs7 I7=>⟨_,_,I7,q6⟩
  |cont=>
   obtain⟨σ6,H6,I6,q6⟩:=q;exact jx6 (bk I6) hN hi hk λs7 I7=>⟨_,_,I7,q6⟩
  |ret v=>
   obtain⟨v',σ6,H6,I6,r6,q6⟩:=q;exact jx6 (bk I6) hN hi hk λs7 I7=>⟨v',_,_,I7,r6,q6⟩
def wv6(K:Frag):List V->Hp->VK->Prop:=λxs H Q=>∃x o C b,ExAt K x o C/\H x=some (exO o)/\((∃U,xs=[.ref x,.ref U]/\kitOne K (.ref C) (.ref U)=some b)\/∃U,xs=[.ref x,.ty U]/\kitOne K (.ref C) (.type U)=some b)/\Q (.bl b) H
theorem vk5{X:Cx}:CallR X (.builtin "isinstance") (wv6 X.K):=by
 intro pins s O H xs us Q I r ⟨x,o,C,b,a,e,h,q⟩;have px:s.heap.get? x=some o:=(show ObjOk X.prog X.w H s.heap x (exO o)from I.hok x _ e).1;have b5:∃o,PySem.W.InstAt s.heap x o C none:=⟨o,px,a.cls,a.no,by rw[a.di];trivial⟩;rcases h with⟨U,rfl,hk⟩|⟨U,rfl,hk⟩
 ·obtain⟨u1,u2,rfl,e1,e2⟩:=vqs r;cases e1;cases e2;exact PySem.W.kia_one (kv6 a.xc) I.kIn b5 hk (λz=>nomatch z) λtk=>⟨.bl b,H,I.tok _,rfl,q⟩
 ·obtain⟨u1,u2,rfl,e1,e2⟩:=vqs r;cases e1;cases(show u2=Value.type U from e2);exact PySem.W.kia_one (kv6 a.xc) I.kIn b5 hk (λz=>nomatch z) λtk=>⟨.bl b,H,I.tok _,rfl,q⟩
end L3
namespace Q
open PySem PySem.Spec PyProof.Rows L2 L3
theorem jxi:bootBuiltins "ValueError"=some (.type "ValueError"):=by decide +kernel
theorem qqj{K:Frag}{C:Addr}(ga:findIn K (.ref C) "__getattribute__"=some (some (.builtin "BaseException.__getattribute__")))(gt:findIn K (.ref C) "__getattr__"=some none)(fa:findIn K (.ref C) "__class__"=some (some (.builtin "object.__class__")))
  (fg:PySem.W.specialIn K (.builtin "object.__class__") "__get__"=some (some (.builtin "getset_descriptor.__get__"))) (ft:PySem.W.takesIn K (.builtin "object.__class__")=some true) (ob:PySem.W.mroIn K C (.type "object")=some true) (bx:PySem.W.mroIn K C (.type "BaseException")=some true) (cl:PySem.W.isClsIn K C=true):XCls K C:=
 ⟨ga,gt,by
  obtain⟨cd,hc⟩:=Option.isSome_iff_exists.mp (show(PySem.W.clsIn K C).isSome=true from cl);unfold PySem.W.findObj;rw[hc,Option.bind_some,fa,Option.bind_some];simp[fg,ft],ob,bx,cl⟩
def Q5(K:Frag)(u:V)(t:List (Str×Bool)):Prop:=∀c b,t.lookup c=some b->∃C,nsIn K mainGlobals c=some (some (.ref C))/\((∃U,u=.ref U/\kitOne K (.ref C) (.ref U)=some b)\/∃U,u=.ty U/\kitOne K (.ref C) (.type U)=some b)
theorem Zw{K:Frag}{u:V}:Q5 K u []:=λ_ _ z=>nomatch z
theorem qjl{K:Frag}{u:V}{c:Str}{b:Bool}{C:Addr}{t:List (Str×Bool)}(h:nsIn K mainGlobals c=some (some (.ref C)))(k:(∃U,u=.ref U/\kitOne K (.ref C) (.ref U)=some b)\/∃U,u=.ty U/\kitOne K (.ref C) (.type U)=some b)(r:Q5 K u t):Q5 K u ((c,b)::t):=λc' b' z=>by
 rw[Yy]at z
 split at z
 ·rename_i e;cases eq_of_beq e;cases z;exact⟨C,h,k⟩
 ·exact r c' b' z
theorem Vx{K:Frag}{c:Str}{b:Bool}{C U:Addr}{t:List (Str×Bool)}(h:nsIn K mainGlobals c=some (some (.ref C)))(k:kitOne K (.ref C) (.ref U)=some b)(r:Q5 K (.ref U) t):Q5 K (.ref U) ((c,b)::t):=qjl h (.inl ⟨U,rfl,k⟩) r
theorem qjk{K:Frag}{c:Str}{b:Bool}{C:Addr}{U:String}{t:List (Str×Bool)}(h:nsIn K mainGlobals c=some (some (.ref C)))(k:kitOne K (.ref C) (.type U)=some b)(r:Q5 K (.ty U) t):Q5 K (.ty U) ((c,b)::t):=qjl h (.inr ⟨U,rfl,k⟩) r
theorem wqt{K:Frag}{u:V}{t:List (Str×Bool)}(ht:Q5 K u t):Ad1 K (λv H Q=>wv6 K [v,u] H Q) (pu1 (vj t)):=by
 intro H x s Q ok hf k;have ok:=RepO.wk ok;unfold pu1 at hf;obtain⟨o,d,v,as⟩:=x;cases d with
 | obj c fs=>
  unfold vj at hf;cases hl:t.lookup c with
  |none=>simp only[hl]at hf;cases hf
  |some b=>
   simp only[hl]at hf;cases oq9 hf;dsimp only at ok;unfold RepL at ok;obtain⟨e0,x,ob,C,rfl,h1,h2,h3⟩:=ok;obtain⟨C',h4,h5⟩:=ht c b hl;rw[h3]at h4;cases oq9 (oq9 h4);refine⟨x,ob,C,b,h2,h1,?_,k ⟨.dp,.bl b,.bl b,[]⟩ H rfl rfl xv⟩;rcases h5 with⟨U,rfl,h5⟩|⟨U,rfl,h5⟩
   ·exact .inl ⟨U,rfl,h5⟩
   ·exact .inr ⟨U,rfl,h5⟩
 |_=>cases hf
section
variable {X:Cx}{Z:Fx0}{pn:List Nat}{q:Bool}{a b c:Ex}{e ea eb:Expr}{es:List Expr}{pos p p2:Pos}{t:List (Str×Bool)}{y:Str}{u:V}
theorem XV(ha:QV X Z q a ea)(hm:X.mg "isinstance"=none)(hu:PE X (.Name y p2) (tC u))(hK:X.K=Z.K)(ht:Q5 X.K u t)(hg:autoParam (Gl X "isinstance") Ŕ)
  (he:autoParam (starEach [ea,.Name y p2] X.env=(false,eval ea X.env)::starEach [.Name y p2] X.env) Ŕ) (he2:autoParam (starEach [.Name y p2] X.env=(false,eval (.Name y p2) X.env)::starEach [] X.env) Ŕ) (bu:autoParam ((backTo pos (starEach [.Name y p2] X.env)).any (·.1)=false) Ŕ):
  QE X Z q (cF1 (pu1 (vj t)) a) (.Call (.Name "isinstance" p) [ea,.Name y p2] [] pos):=by
 rw[hK]at ht;have hc:CallR X (.builtin "isinstance") (wv6 Z.K):=hK▸vk5;exact qk (kqr hc hg hm jxh (qY ha (qY hu wW he2) he) ⋯ ⋯ he bu) fun O H Q h=>XZ (r:=λv H Q=>wv6 Z.K [v,u] H Q) (wqt ht) h
theorem kxq{x:Str}{C:Addr}{z:Str}{np au:Pos}(c:ECls X.K X.mg x C)(hm:Z.mg x=some (.ref C))(g:xk X Z.EX)(hz:PE X e (tC (.str z)))(hg:autoParam (Gl X x) Ŕ)(hc:autoParam (X.calm=true) Ŕ)(df:autoParam ((x==("__debug__":Str))=false) ŕ)
  (he:autoParam (starEach [e] X.env=(false,eval e X.env)::starEach [] X.env) Ŕ) (bu:autoParam (((backTo au (starEach [e] X.env)).any (·.1))=false) Ŕ):
  QS X Z pn (sRz x) (.Raise (some (.Call (.Name x np) [e] [] au)) none pos):=Kk (vj0 c g (qY hz wW he) hg hc df he bu) λD O H az=>ex7 az λE L r m w hr k=>by
 cases oq9 hr;exact⟨show(1:Nat)<=sizeLine by decide,k C O L H hm Pn.refl m w Step.refl⟩
def QEX(X:Cx)(Z:Fx0)(q:Bool)(c:Ex)(e:Expr):Prop:=PEX X e λEX=>tQ ⟨Z.K,Z.mg,EX⟩ q c
theorem vvp{t t':XK->TE}(h:PEX X e t)(w:∀E O H Q,t' E O H Q->t E O H Q):PEX X e t':=λE pins s O H Q I q=>h E pins s O H Q I (w E O H Q q)
theorem vva{k n:Nat}{x:Str}{ps:List Str}{f:Fn}{cs:List Ex}(D:kZ X.prog X.w X.K X.mg X.base k x ps (spF Z.K Z.mg n f))(hr:Room k X.A)(ha:QA X.nox ⟨Z.K,Z.mg,λ_ _ _=>False⟩ q cs (e::es))(hn:autoParam (cs.length=n) Ŕ)(hg:autoParam (Gl X x) Ŕ)(df:autoParam ((x==("__debug__":Str))=false) ŕ)
  (he:autoParam (starEach (e::es) X.env=(false,eval e X.env)::starEach es X.env) Ŕ) (bu:autoParam ((backTo pos (starEach es X.env)).any (·.1)=false) Ŕ):
  QEX X Z false (Zz f cs) (.Call (.Name x p) (e::es) [] pos):=vvp (vj3 D hr ha hg df he bu) λEX O H Q az=>ex8 az λE L r m w hc xc kk=>by
 have hc:Zz f cs E=some r:=hc;unfold Zz at hc
 split at hc
 ·rename_i E1 ys hA;refine⟨E,L,_,m,w,hA,(λ_ _ z=>by cases z),λE' p9 z xs L1 H1 e1 m1 w1 st sm=>?_⟩;injection z with z1 z2;subst z1 z2;show spF _ _ _ _ _ _ _ _;rw[Xw];have av:xs.length=n:=by
   rw[<-hn];have:ys.length=cs.length:=ZW hA;rw[<-this,<-e1,X4]
  cases hf:f (letAll ys)with
  | none=>rw[hf]at hc;cases hc
  | some fr=>
   rw[hf]at hc;obtain⟨wl,sl⟩:=jxp w1;have ev:xs.map Sl.v=(xs.map Sl.let).map Sl.v:=by rw[Xs];rfl
   rw[ev];refine⟨xs.map Sl.let,fr,rfl,by rw[X4];exact av,wl.left,by rw[<-e1]at hf;rw[kv3];exact hf,λE' c ee C H' hm s'=>?_,λE' a ee y H' e2 e3 w' s'=>?_⟩
   ·subst ee;cases oq9 hc;obtain⟨w2,s2⟩:=stay wl s' ⟨λ_ z=>(nomatch z),Y6,λ_ z=>(nomatch z)⟩;exact xc _ _ rfl C L1 H' hm m1 w2 ((st.trans sl).trans s2)
   ·subst ee;cases oq9 hc;obtain⟨w2,s2⟩:=stay wl s' w';exact kk _ _ rfl y L1 H' e2 e3 m1 w2 ((st.trans sl).trans s2) λhq=>nomatch hq
 ·cases hc
theorem Mt.unset:∀{E:En} {O:L2.St} {L:Ls} (i:Nat),Mt E O L->Mt (E.set i none) (O.set i none) (L.set i none)
 |_,_,_,_,.nil=>.nil|_,_,_,0,.un m=>.un m|_,_,_,0,.cons m=>.un m|_,_,_,i+1,.un m=>.un (Mt.unset i m)|_,_,_,i+1,.cons m=>.cons (Mt.unset i m)
theorem WZ:∀(L:Ls) (i:Nat),(sls (L.set i none)).Sublist (sls L)
 |[],_=>Yq _|none::L,0=>Yq _|some x::L,0=>List.Sublist.cons _ (Yq _)|none::L,i+1=>WZ L i|some x::L,i+1=>List.Sublist.cons_cons _ (WZ L i)
theorem World.unset{K:Frag}{H:Hp}{L:Ls}{i:Nat}(w:World K H L):World K H (L.set i none):=w.sub (WZ L i)
theorem Step.unset{H H':Hp}{L L':Ls}{i:Nat}(s:Step H L H' L'):Step H L H' (L'.set i none):=s.sub (WZ L' i)
theorem World.unset1{K:Frag}{H:Hp}{L:Ls}{x:Sl}{i:Nat}(w:World K H (some x::L)):World K H (some x::L.set i none):=w.sub (List.Sublist.cons_cons _ (WZ L i))
theorem Step.unset1{H H':Hp}{L L':Ls}{x:Sl}{i:Nat}(s:Step H L H' (some x::L')):Step H L H' (some x::L'.set i none):=s.sub (List.Sublist.cons_cons _ (WZ L' i))
def kxf(K:Frag)(mg:Str->Option Value)(UC:Addr)(cs:List Str):Prop:=∀c∈cs,∃C,mg c=some (.ref C)/\nsIn K mainGlobals c=some (some (.ref C))/\PySem.W.exmOne K (.ref C) (.ref UC)=some true/\XCls K C
theorem qq9{K:Frag}{mg:Str->Option Value}{UC:Addr}:kxf K mg UC []:=λ_ z=>nomatch z
theorem kk0{K:Frag}{mg:Str->Option Value}{UC C:Addr}{c:Str}{cs:List Str}(e:ECls K mg c C)(h:nsIn K mainGlobals c=some (some (.ref C)))(k:PySem.W.exmOne K (.ref C) (.ref UC)=some true)(r:kxf K mg UC cs):kxf K mg UC (c::cs):=λc' hc=>by
 rcases aD hc with rfl|hc
 ·exact⟨C,e.bd,h,k,e.xc⟩
 ·exact r c' hc
theorem qzb{UC:Addr}{i:Nat}{cs:List Str}{B h:Sm}{tb:XK->TS}{D:Ends}{O:L2.St}{H:Hp}(hK:X.K=Z.K)(ca:kxf X.K Z.mg UC cs)(hp:i∉pn)
  (hb:∀(EX:XK) E L r,Mt E O L->World Z.K H L->B E=some r->(∀E' c,r=.xc E' c->∀C L' H',Z.mg c=some (.ref C)->Mt E' O L'->World Z.K H' L'->Step H L H' L'->EX (.ref C) none H')->((∀E' c,r≠.xc E' c)->FlP Z pn D O H L r)->tb EX D O H)
  (hr:tS Z pn (QJ cs i B h) D O H):vz4 X.K UC i tb (tS ⟨Z.K,Z.mg,λ_ _ _=>False⟩ pn h) D O H:=by
 obtain⟨E,L,r,m,w,hr,k⟩:=hr;have hr:QJ cs i B h E=some r:=hr;cases hB:B E with
 | none=>unfold QJ at hr;rw[hB]at hr;cases hr
 | some rb=>
  refine⟨λCv _ H'=>∃E1 c C L1,rb=.xc E1 c/\Cv=.ref C/\Z.mg c=some (.ref C)/\Mt E1 O L1/\World Z.K H' L1/\Step H L H' L1,hb _ E L rb m w hB (λE' c e C L' H' hm m' w' st=>⟨E',c,C,L',e,rfl,hm,m',w',st⟩) (λbj=>?_),?_⟩
  ·unfold QJ at hr;rw [hB]at hr;cases rb with| xc E1 c1=>exact absurd rfl (bj E1 c1)| nx E1=>cases oq9 hr;exact k| ct E1=>cases oq9 hr;exact k| bk E1=>cases oq9 hr;exact k| rt E1 x=>cases oq9 hr;exact k
  ·rintro x Cv H' ⟨E1,c,C,L1,rfl,rfl,hm,m1,w1,gl⟩ hx;unfold QJ at hr;rw [hB]at hr;dsimp only at hr
   by_cases hc:c∈cs
   ·rw[X9 hc]at hr;obtain⟨C',g1,g2,g3,g4⟩:=ca c hc;rw[hm]at g1;cases oq9 g1;refine⟨C,rfl,g3,g4,λo b5=>?_⟩;have sm:k4 H' (upd H' x (exO o)):=vw hx
    let y:Sl:=⟨.no,.obj c [],.ref x,[]⟩
    have wy:World Z.K (upd H' x (exO o)) (some y::L1):=by
     refine World.consPu ⟨λt ht=>RepO.kp (w1.ok t ht) (Kp.of_same sm),w1.nd,w1.ds⟩ ?_ rfl;show RepL Z.K _ true (.obj c []) (.ref x) [];unfold RepL;exact⟨rfl,x,o,C,rfl,wJ,hK▸b5,hK▸g2⟩
    have sy:Step H L (upd H' x (exO o)) (some y::L1):=by
     refine⟨λb ob q hn=>sm b ob (gl.keep b ob q hn),λb hb=>gl.own b (by rw[kJ]at hb;exact hb),λb hb=>gl.frz b (by rw[vY]at hb;exact hb)⟩
    cases h2:h (E1.set i (some (.no,.obj c [])))with
    | none=>rw[h2]at hr;cases hr
    | some r2=>
     rw[h2]at hr;refine⟨_,_,r2,Zj (x:=y) m1 rfl rfl,wy.set,h2,?_⟩;have sy2:Step H L (upd H' x (exO o)) (L1.set i (some y)):=sy.trans Step.set;have pp:Pn pn O (O.set i (some (V.ref x))):=Pn.refl.set hp;cases r2 with
     |nx E2=>
      cases oq9 hr;intro σ' L' H2 p' m' w' dh;exact k _ _ H2 ((pp.trans p').set hp) (Mt.unset i m') w'.unset (sy2.trans dh).unset
     |ct E2=>
      cases oq9 hr;intro σ' L' H2 p' m' w' dh;exact k _ _ H2 ((pp.trans p').set hp) (Mt.unset i m') w'.unset (sy2.trans dh).unset
     |bk E2=>
      cases oq9 hr;intro σ' L' H2 p' m' w' dh;exact k _ _ H2 ((pp.trans p').set hp) (Mt.unset i m') w'.unset (sy2.trans dh).unset
     |rt E2 a2=>
      cases oq9 hr;intro z σ' L' H2 e1 e2 p' m' w' dh;exact k z _ _ H2 e1 e2 ((pp.trans p').set hp) (Mt.unset i m') w'.unset1 (sy2.trans dh).unset1
     |xc E2 c2=>cases hr
   ·rw[Xb hc]at hr;cases hr
theorem wj4{ux n:Str}{np j' i8:Pos}{UC:Addr}{i:Nat}{b0:Stmt}{gn:List Stmt}{cs:List Str}{h:Sm}(hN:X.N.Nodup)(hi:X.N[i]?=some n)(hk:X.env.scope.names.lookup n=some .local)(top:z7 X)(hU:X.mg ux=some (.ref UC))(hK:X.K=Z.K)(ca:kxf X.K Z.mg UC cs)(hb:QEX X Z q b e)
  (hs:∀x,QSs (tX X x) ⟨Z.K,Z.mg,λ_ _ _=>False⟩ pn h (b0::gn)) (hp:autoParam (i∉pn) ŕ) (n9:autoParam (swapsWith e none pos.line X.env=pure false) Ŕ) (hg:autoParam (Gl X ux) Ŕ) (df:autoParam ((ux==("__debug__":Str))=false) ŕ):
  QS X Z pn (QJ cs i (qzm b) h) (.Try [.Expr e pos] [.ExceptHandler (some (.Name ux np)) (some n) (b0::gn) j'] [] [] i8):=
 Kk (vvj hN hi hk top hU (qzx hb n9) hs hg df) λD O H hr=>qzb hK ca hp (λEX E L r m w hB hx hk=>by
  have hB:ofE (b E) (λE _=>some (.nx E))=some r:=hB;rcases jw3 hB with⟨E1,s,h1,h2⟩|⟨E1,c,h1,rfl⟩
  ·cases oq9 h2;refine⟨E,L,_,m,w,h1,(λ_ _ z=>by cases z),λE' s' z x L' H' e1 e2 m' w' st sm=>?_⟩;injection z with z1 z2;subst z1 z2;exact hk (λ_ _ z=>nomatch z) O L' H' Pn.refl m' w'.tail (st.trans Step.drop)
  ·exact⟨E,L,_,m,w,h1,(λE' c' e C L' H' hm m' w' st=>by injection e with z1 z2;subst z1 z2;exact hx _ _ rfl C L' H' hm m' w' st),λE' s' z=>by cases z⟩) hr
end
end Q
namespace Q
open PySem PySem.Spec PyProof.Rows L2 L3
section
variable {X:Cx}{pins:List (Addr×Obj)}{O:L2.St}{H:Hp}{s:Shared}{a b:Addr}{es:List Ent}{A:Around}{E:Value->Shared->Prop}{k:Kd}
mutual
theorem jzt(I:Inv X pins O H s):∀{d:D} {v:V} {u:Value},PuR X.K H d v->RelV v u->jw s.heap d u
 |.non,_,_,h,r=>by unfold PuR at h;rw[h]at r;unfold jw;exact r|.int _,_,_,h,r=>by unfold PuR at h;rw[h]at r;unfold jw;exact r
 |.tup ds,_,_,h,r=>by
  unfold PuR at h;obtain⟨a,xs,rfl,q,ra⟩:=h;cases r;obtain⟨ai,rv,p,_⟩:=I.tuple q;unfold jw;exact⟨a,ai,rfl,p,purs_creps I ra rv⟩
 |.bl _,_,_,h,_=>by unfold PuR at h;exact h.elim|.str _,_,_,h,_=>by unfold PuR at h;exact h.elim|.lst _,_,_,h,_=>by unfold PuR at h;exact h.elim|.dct _,_,_,h,_=>by unfold PuR at h;exact h.elim|.obj _ _,_,_,h,_=>by unfold PuR at h;exact h.elim
theorem purs_creps(I:Inv X pins O H s):∀{ds:List D} {xs:List V} {us:List Value},PuRs X.K H ds xs->Vals xs us->CReps s.heap ds us
 | [],_,_,h,r=>by unfold PuRs at h;rw[h]at r;cases r;unfold CReps;rfl
 | d::ds,_,_,h,r=>by
  unfold PuRs at h;obtain⟨x,rr,rfl,h1,h2⟩:=h;cases r with
  |cons r1 r2=>
   unfold CReps;exact⟨_,_,rfl,jzt I h1 r1,purs_creps I h2 r2⟩
end
mutual
theorem vks{K:Frag}{g:Bool}:∀{n:Nat} {d:D} {v:V} {as:List Addr},jX n d=true->RepL K H g d v as->PuR K H d v
 |_,.non,_,_,_,h=>by unfold RepL at h;unfold PuR;exact h.1|_,.int _,_,_,_,h=>by unfold RepL at h;unfold PuR;exact h.1|0,.tup _,_,_,hk,_=>by unfold jX at hk;cases hk
 |n+1,.tup ds,_,_,hk,h=>by
  unfold jX at hk;unfold RepL at h;obtain⟨a,xs,e,q,ra⟩:=h;unfold PuR;exact⟨a,xs,e,q,purs_of hk ra⟩
 |n,.bl _,_,_,hk,_=>by cases n<;>(unfold jX at hk;cases hk)|n,.str _,_,_,hk,_=>by cases n<;>(unfold jX at hk;cases hk)|n,.lst _,_,_,hk,_=>by cases n<;>(unfold jX at hk;cases hk)|n,.dct _,_,_,hk,_=>by cases n<;>(unfold jX at hk;cases hk)|n,.obj _ _,_,_,hk,_=>by cases n<;>(unfold jX at hk;cases hk)
theorem purs_of{K:Frag}{g:Bool}:∀{n:Nat} {ds:List D} {xs:List V} {as:List Addr},keyDs n ds=true->RepA K H g ds xs as->PuRs K H ds xs
 |_,[],_,_,_,h=>by unfold RepA at h;unfold PuRs;exact h.1
 |n,d::ds,_,_,hk,h=>by
  unfold keyDs at hk;rw[Bool.and_eq_true]at hk;unfold RepA at h;obtain⟨x,r,bs,cs,rfl,rfl,h1,h2⟩:=h;unfold PuRs;exact⟨x,r,rfl,vks hk.1 h1,purs_of hk.2 h2⟩
end
theorem vqd{ep:Nat}(I:Inv X pins O H s)(h:H a=some (qx a es ep))(hn:(es.map (·.1)).Nodup)(hk:∀x∈es,PuR X.K H x.1.1 (.ref x.2.1)):s.heap.DictOfH (kzs X.prog X.w) a es:=by
 obtain⟨⟨o,ds,h1,h2,h3,h4⟩,_⟩:=(show ObjOk X.prog X.w H s.heap a (qx a es ep)from I.hok a _ h);exact⟨o,ds,ep,h1,h2,h3,h4,λx hx=>jzt I (hk x hx) rfl,hn⟩
theorem vqk:∀(es:List Ent) (k:Kd),(atKey es k).isSome=decide (k.1∈es.map (·.1.1))
 | [],k=>by simp[atKey]
 | x::es,k=>by
  have ih:=vqk es k
  by_cases h:x.1=k
  ·have:k.1∈(x::es).map (·.1.1):=by rw[<-h];simp
   rw[Xl this];simp[atKey,Ym,h]
  ·have e1:atKey (x::es) k=atKey es k:=by simp[atKey,Ym,h]
   have e2:(k.1∈(x::es).map (·.1.1))↔k.1∈es.map (·.1.1):=by
    rw[List.map_cons,Y1];exact⟨λz=>z.elim (λq=>absurd (Subtype.ext q.symm) h) id,.inr⟩
   rw[e1,ih];exact decide_eq_decide.mpr e2.symm
theorem vv3(hu:A.units+64<cLine):(kzs X.prog X.w).room A.in1:=by show A.units+1+40<cLine;omega
end
theorem vqf{K:Frag}{H:Hp}{y:Sl}{kvs:List (D×D)}(ok:y.ok K H)(hd:y.d=.dct kvs)(hu:unm kvs=true):∃a xs,y.v=.ref a/\DcN K H a (kvs.map (·.1)) xs:=by
 have h:=RepO.wk ok;rw[hd]at h;unfold RepL at h;obtain⟨a,xs,bs,e,_,q,_⟩:=h;exact⟨a,xs,e,DcA.un q hu⟩
theorem kkz{K:Frag}{H:Hp}{x:Sl}(ok:x.ok K H)(hk:Jk x.d=true):∃b,x.v=.ref b/\PuR K H x.d (.ref b):=by
 unfold Jk at hk;rw[Bool.and_eq_true]at hk;have h:=vks hk.1 (RepO.wk ok);cases hd:x.d with
 |tup ds=>
  rw[hd]at h;have h':=h;unfold PuR at h;obtain⟨a,xs,e,_⟩:=h;exact⟨a,e,e▸h'⟩
 |_=>rw[hd]at hk;cases hk.2
theorem vx1{P:Program}{w:PySem.World}{H:Hp}(h:Heap):ObjOk P w H (h.push { cls:=.type "dict",data:=.dict #[] }) h.objs.size (qx h.objs.size [] 0):=
 ⟨⟨_,#[],X6 _ rfl,⟨rfl,rfl,rfl⟩,rfl,rfl⟩,⟨_,X6 _ rfl⟩,λh1 h2 ⟨o,ds,a1,a2⟩ k=>⟨o,ds,k o a1,a2⟩⟩
end Q
namespace Q
open PySem PySem.Spec PyProof.Rows L2 L3
section
variable {K:Frag}{H:Hp}{g:Bool}{k:Kd}{b:Addr}{d:D}{x:V}{r:Value}{cs:List Addr}
theorem kvt{q : D}(hx : RepL K H g d x cs): ∀{kvs : List (D × D)} {xs : List V} {bs : List Addr}, RepP K H g kvs xs bs -> RepP K H g (kvs ++ [(q, d)]) (xs ++ [x]) (bs ++ cs)
  | [], _, _, h=>by
    unfold RepP at h;obtain⟨rfl, rfl⟩:= h;show RepP K H g [(q, d)] [x] cs;unfold RepP;exact⟨x, [], cs, [], rfl, by simp, hx, by unfold RepP; exact⟨rfl, rfl⟩⟩
  | (p, e)::kvs, _, _, h=>by
    unfold RepP at h;obtain⟨y, rr, b1, b2, rfl, rfl, h1, h2⟩:= h;rw[List.cons_append];unfold RepP;exact⟨y, rr ++ [x], b1, b2 ++ cs, rfl, by rw[Y3], h1, kvt hx h2⟩
theorem kvh:∀{xs:List V} {us:List Value},Vals xs us->RelV x r->Vals (xs++[x]) (us++[r])
 |_,_,.nil,h=>.cons h .nil|_,_,.cons a t,h=>.cons a (kvh t h)
end
theorem qvj{K:Frag}{H:Hp}{T L:Ls}{i:Nat}{y:Sl}{l:Addr}{es es':List Ent}{ep ep':Nat}{xs':List V}{bs cs:List Addr}{kvs':List (D×D)}(w:World K H (T++L))(hy:L[i]?=some (some y))(hH:H l=some (qx l es ep))(ho:y.o=.rt)(ha:y.as=l::bs)(hv:y.v=.ref l)
  (r:RepP K H true kvs' xs' cs) (hc:∀a∈cs,a∈bs\/a∈j8 T\/a∈jZ T) (hs:(l==sysModules)=false) (h2:es'.length<=sizeLine) (h3:(es'.map (·.1)).Nodup) (h4:kvs'.map (·.1)=es'.map (·.1.1)) (h5:∀n∈es',PuR K H n.1.1 (.ref n.2.1)) (h6:Vals xs' (es'.map (·.2.2))):
  World K (upd H l (qx l es' ep')) (L.set i (some ⟨.rt,.dct kvs',y.v,l::cs⟩))/\Step H (T++L) (upd H l (qx l es' ep')) (L.set i (some ⟨.rt,.dct kvs',y.v,l::cs⟩)):=by
 have hl:l∈y.own:=by unfold Sl.own;rw[ho,ha];simp
 have oL:l∈j8 L:=mem_owned.mpr ⟨y,ww hy,hl⟩;have oy:l∈j8 (T++L):=by rw[jW];exact lr9 _ oL
 have nd:=w.nd;rw[jW,Xd]at nd;have nT:l∉j8 T:=λz=>nd.2.2 l z l oL rfl
 have nF:l∉jZ T:=λz=>w.ds l oy (by rw[kX];exact ll9 _ z)
 have nb:l∉bs:=λz=>by
  have:l∈y.frz:=by unfold Sl.frz;rw[ho,ha];exact z
  exact w.ds l oy (by rw[kX];exact lr9 _ (mem_frozen.mpr ⟨y,ww hy,this⟩))
 have nc:l∉cs:=λz=>by
  rcases hc l z with q|q|q
  ·exact nb q
  ·exact nT q
  ·exact nF q
 have kp:Kp H (upd H l (qx l es' ep')) cs:=by
  have k2:∀a o,H a=some o->a≠l->upd H l (qx l es' ep') a=some o:=λa o e ne=>by rw[kz ne];exact e
  refine⟨λa zs e=>k2 a _ e λz=>?_,λa o u e=>k2 a _ e λz=>?_,λa ha o e=>k2 a o e λz=>nc (z▸ha)⟩
  ·subst z;rw[hH]at e;cases e
  ·subst z;rw[hH]at e;cases e
 refine World.writeAt w hy hl (y':=⟨.rt,.dct kvs',y.v,l::cs⟩) ⟨l,xs',cs,hv,r.kp kp,.inl ⟨es',ep',wJ,hs,h2,h3,h4,λn hn=>PuR.kp kp (h5 n hn),h6⟩,rfl⟩ (by simp[Sl.own]) (λa h=>?_) (λa h=>?_) (λa h z=>?_)
 ·have:a=l:=by simpa [Sl.own]using h
  subst this;exact .inl hl
 ·rcases hc a (by simpa [Sl.frz]using h)with q|q
  ·exact .inl (by rw[ha];exact lc9 _ q)
  ·exact .inr q
 ·have:a=l:=by simpa [Sl.own]using h
  subst this;exact nc (by simpa [Sl.frz]using z)
end Q
namespace Q
open PySem PySem.Spec PyProof.Rows L2 L3
def KJ(h:Heap)(a:Addr)(ts:List DictEntry)(ep:Nat):Prop:=∃ob fu,h.get? a=some ob/\ob.ExactDict/\ob.data=.dict fu ep/\fu.toList=ts
theorem vx2{X:Cx}{pins:List (Addr×Obj)}{O:L2.St}{H:Hp}{s:Shared}{a:Addr}{es:List Ent}{ep:Nat}(I:Inv X pins O H s)(h:H a=some (qx a es ep)):KJ s.heap a (es.map λx=>(⟨Qx x.1.1,.ref x.2.1,x.2.2⟩:DictEntry)) ep:=by
 obtain⟨⟨o,ds,h1,h2,h3,h4⟩,_⟩:=(show ObjOk X.prog X.w H s.heap a (qx a es ep)from I.hok a _ h);exact⟨o,ds,h1,h2,h3,h4⟩
mutual
theorem qv5{K:Frag}{H:Hp}:∀{d:D} {v:V},PuR K H d v->RepL K H true d v []
 |.non,_,h=>by unfold PuR at h;unfold RepL;exact⟨h,rfl⟩|.int _,_,h=>by unfold PuR at h;unfold RepL;exact⟨h,rfl⟩
 |.tup ds,_,h=>by
  unfold PuR at h;obtain⟨a,xs,e,s,r⟩:=h;unfold RepL;exact⟨a,xs,e,s,rep_purs r⟩
 |.bl _,_,h=>by unfold PuR at h;exact h.elim|.str _,_,h=>by unfold PuR at h;exact h.elim|.lst _,_,h=>by unfold PuR at h;exact h.elim|.dct _,_,h=>by unfold PuR at h;exact h.elim|.obj _ _,_,h=>by unfold PuR at h;exact h.elim
theorem rep_purs{K:Frag}{H:Hp}:∀{ds:List D} {xs:List V},PuRs K H ds xs->RepA K H true ds xs []
 |[],_,h=>by unfold PuRs at h;unfold RepA;exact⟨h,rfl⟩
 |d::ds,_,h=>by
  unfold PuRs at h;obtain⟨x,r,e,h1,h2⟩:=h;unfold RepA;exact⟨x,r,[],[],e,rfl,qv5 h1,rep_purs h2⟩
end
end Q
namespace Q
open PySem PySem.Spec PyProof.Rows L2 L3
def wq7(K:Frag)(p:Addr)(Q:VK)(ps:List (V×V))(H2:Hp):Prop:=∃x y,ps=[(x,y)]/\H2 p=some (qx p [] 0)/\∃(b:Addr) (kd:Kd),x=.ref b/\PuR K H2 kd.1 (.ref b)/\∀r ep',RelV y r->Q (.ref p) (upd H2 p (qx p [(kd,b,r)] ep'))
abbrev wvk(K:Frag)(tk tv:TE):TE:=fun O H Q=>∀p,H p=none->(p==sysModules)=false->tk O (upd H p (qx p [] 0)) λx H1=>tv O H1 λy H2=>wq7 K p Q [(x,y)] H2
theorem vvs{X:Cx}{K:Frag}{pos:Pos}{k v:Expr}{tk tv:TE}(hu:X.A.units+64<cLine)(hk:PE X k tk)(hv:PE X v tv)(hK:autoParam (X.K=K) Ŕ):PE X (.Dict [some k] [v] pos) (wvk K tk tv):=by
 subst hK;intro pins s O H Q I h;have hn:=I.hok.fresh (X8 s.heap.objs.size);have I1:=I.laid (a:=s.heap.objs.size) (o:=qx s.heap.objs.size [] 0) (h':=s.heap.push { cls:=.type "dict",data:=.dict #[] }) (t':=s.toks) (λ_ _ q=>X3 _ q) (X8 _) (vx1 s.heap);refine wpAny_Dict_any rfl rfl (by simp) (by simp) (thn (vj1 hk hv vvl pins _ O _ (wq7 X.K s.heap.objs.size Q) I1 (h _ hn (Ya (Nat.ne_of_gt I.big)))) λvs s2 hz=>?_);obtain⟨ps,H2,I2,i4,x,y,ep,e,b,kd,ex,pk,q⟩:=hz;subst ep ex;cases i4 with
 |@cons p1 p2 t1 t2 h1 h2=>
  cases h2;obtain⟨u,r⟩:=p2;obtain rfl:u=Value.ref b:=h1.1;have h1:RelV y r:=h1.2;unfold storeAll;rw[List.forIn_cons];refine X0 (X0 (wpAny_dictSet_heap (knd:=kzs X.prog X.w) (xs:=[]) (k:=kd) (by show X.A.units+40<cLine;omega) (jzt I2 pk rfl) (vqd I2 e Y6 (λ_ z=>absurd z Xm)) (λh' dd hs=>X1 ?_) (Yg _)));show wpAny (model X.prog X.w) X.A (forIn [] PUnit.unit _) _ _ _;rw[List.forIn_nil];refine X1 ?_;obtain⟨o,ds,ep',hq,g2,g3,g4,_,_⟩:=dd;exact⟨.ref s.heap.objs.size,_,qxh (ob:=qx s.heap.objs.size [(kd,b,r)] ep') I2 (by rw[e];exact True.intro) hs ⟨o,hq⟩ ⟨⟨o,ds,hq,g2,g3,g4⟩,⟨o,hq⟩,λh1 h2 ⟨o,ds,a1,a2⟩ k=>⟨o,ds,k o a1,a2⟩⟩,rfl,q r ep' h1⟩
section
variable {X:Cx}{Z:Fx0}{q:Bool}{kc vc:Ex}{ke ve:Expr}{pos:Pos}
theorem wjb(hu:X.A.units+64<cLine)(hk:QE X Z q kc ke)(hv:QE X Z q vc ve)(hK:autoParam (X.K=Z.K) Ŕ):QE X Z q (qxw kc vc) (.Dict [some ke] [ve] pos):=qk (vvs hu hk hv hK) fun O H Q az=>ex8 az λE L r m w hc xc k=>by
 intro p hp hs;have oh:k4 H (upd H p (qx p [] 0)):=vw hp;have st0:Step H L (upd H p (qx p [] 0)) L:=⟨λb ob h _=>oh b ob h,λ_ h=>.inl h,λ_ h=>.inl h⟩;have nL:p∉j8 L:=λz=>w.own_some z hp
 have nF:p∉jZ L:=λz=>w.frz_some z hp
 have w0:World Z.K (upd H p (qx p [] 0)) L:=⟨λt ht=>RepO.kp (w.ok t ht) (Kp.of_same oh),w.nd,w.ds⟩;have wd:World Z.K (upd H p (qx p [] 0)) ([some ⟨.rt,.dct [],.ref p,[p]⟩]++L):=by
  refine World.cons w0 ⟨p,[],[],rfl,by unfold RepP;exact⟨rfl,rfl⟩,.inl ⟨[],0,wJ,hs,Yg _,Y6,rfl,λ_ z=>absurd z Xm,Paired.nil⟩,rfl⟩ (by simp[Sl.own]) (λb hb ho=>?_) (λb hb ho=>?_) (λb hb=>by simp[Sl.frz]at hb) (λb _ hb=>by simp[Sl.frz]at hb)
  ·have:b=p:=by simpa [Sl.own]using hb
   exact nL (this▸ho)
  ·have:b=p:=by simpa [Sl.own]using hb
   exact nF (this▸ho)
 refine WK m w0 (show bnd (kc E) _=some r from hc) (xc.step st0) λE1 s1 h1 x L1 H1 e1 e2 m1 w1 gl jg=>?_
 obtain⟨wd1,sd1⟩:=wq2 wd gl w1;have s1':Step H L H1 L1:=(st0.trans gl).trans Step.drop;refine WK m1 w1.tail (show bnd (vc E1) _=some r from h1) (xc.step s1') λE2 s2 h2 y L2 H2 e3 e4 m2 w2 bo dj=>?_
 have pm:(([some ⟨.rt,.dct [],.ref p,[p]⟩]:Ls)++(some x::L1)).Perm (([some x,some ⟨.rt,.dct [],.ref p,[p]⟩]:Ls)++L1):=List.Perm.swap _ _ _;obtain⟨wd2,sd2⟩:=wq2 (wd1.perm pm) bo w2;have mi:(([some x,some ⟨.rt,.dct [],.ref p,[p]⟩]:Ls)++(some y::L2)).Perm (([some x,some y]:Ls)++(some ⟨.rt,.dct [],.ref p,[p]⟩::L2)):=List.Perm.cons _ (List.Perm.swap _ _ _);have w3:=wd2.perm mi;have de:Step (upd H p (qx p [] 0)) ([some ⟨.rt,.dct [],.ref p,[p]⟩]++L) H2 ([some x,some y]++(some ⟨.rt,.dct [],.ref p,[p]⟩::L2)):=(sd1.perm (List.Perm.refl _) pm).trans (sd2.perm (List.Perm.refl _) mi)
 by_cases rm:Jk s1.2=true
 ·rw [X9 rm]at h2;cases oq9 h2;have ll:x.ok Z.K H2:=w3.ok x (by simp);have nt:Jk x.d=true:=by rw[e2];exact rm
  obtain⟨b,eb,pb⟩:=kkz ll nt;have lc:jX 6 x.d=true:=by unfold Jk at nt;rw[Bool.and_eq_true]at nt;exact nt.1
  obtain⟨a,xs0,bs0,ea,_,q4,_⟩:=(show RepR Z.K H2 (.dct []) (.ref p) [p]from w3.ok ⟨.rt,.dct [],.ref p,[p]⟩ (by simp));obtain⟨es,ep,g1,_⟩:=DcA.un (kvs:=[]) q4 rfl;have hH2:H2 p=some (qx p [] 0):=by
   have n1:p∉j8 (some x::L1):=λz=>by
    rcases gl.own p z with z|z
    ·exact nL z
    ·rw[wJ]at z;cases z
   have hH1:H1 p=some (qx p [] 0):=gl.keep p _ wJ nL;exact bo.keep p _ hH1 λz=>n1 (by rw[kJ];exact lr9 _ z)
  have rv:RepL Z.K H2 true s2.2 y.v y.as:=by rw[<-e4];exact RepO.wk (w3.ok y (by simp))
  refine⟨x.v,y.v,rfl,hH2,b,⟨x.d,lc⟩,eb,pb,λrr ep' og=>?_⟩;obtain⟨w4,ip⟩:=qvj (ep':=ep') (es':=[(⟨x.d,lc⟩,b,rr)]) (xs':=[y.v]) (cs:=y.as) (kvs':=[(x.d,s2.2)]) (bs:=[]) (i:=0) (y:=⟨.rt,.dct [],.ref p,[p]⟩) w3 rfl hH2 rfl rfl rfl
   (by unfold RepP;exact⟨y.v,[],y.as,[],rfl,by simp,rv,by unfold RepP;exact⟨rfl,rfl⟩⟩)
   (λc iq=>.inr (by
    rcases Sl.as_of iq with z|z
    ·exact .inl (by simpa using .inr z)
    ·exact .inr (by simpa using .inr z))) hs (by show(1:Nat)<=sizeLine;decide) (List.nodup_cons.mpr ⟨Xm,Y6⟩) rfl (λn hn=>by rw[aC hn];exact pb) (.cons og .nil)
  have stA:Step (upd H p (qx p [] 0)) ([some ⟨.rt,.dct [],.ref p,[p]⟩]++L) _ _:=de.trans ip;refine k _ _ rfl ⟨.rt,.dct [(x.d,s2.2)],.ref p,p::y.as⟩ L2 _ rfl (congrArg (λd=>D.dct [(d,s2.2)]) e2) m2 w4 ?_ λhq=>?_
  ·refine⟨λc ob h hn=>stA.keep c ob (oh c ob h) λz=>?_,λc iq=>?_,λc iq=>?_⟩
   ·rw[List.singleton_append,kJ]at z;rcases aA z with z|z
    ·have:c=p:=by simpa [Sl.own]using z
     rw[this,hp]at h;cases h
    ·exact hn z
   ·rcases stA.own c iq with z|z
    ·rw[List.singleton_append,kJ]at z;rcases aA z with z|z
     ·have:c=p:=by simpa [Sl.own]using z
      exact .inr (this▸hp)
     ·exact .inl z
    ·exact .inr (by
      cases hc0:H c with
      |none=>rfl
      |some ob=>rw[oh c ob hc0]at z;cases z)
   ·have hcp:c=p->H c=none:=λz=>z▸hp
    rcases stA.frz c iq with z|z|z
    ·rw[List.singleton_append,vY]at z;rcases aA z with z|z
     ·simp[Sl.frz]at z
     ·exact .inl z
    ·rw[List.singleton_append,kJ]at z;rcases aA z with z|z
     ·have:c=p:=by simpa [Sl.own]using z
      exact .inr (.inr (this▸hp))
     ·exact .inr (.inl z)
    ·exact .inr (.inr (by
      cases hc0:H c with
      |none=>rfl
      |some ob=>rw[oh c ob hc0]at z;cases z))
  ·refine⟨λc ob h=>?_,λc iq=>?_⟩
   ·have bj:c≠p:=λz=>by rw[z,hp]at h;cases h
    rw[kz bj];exact(dj hq).1 c ob ((jg hq).1 c ob (oh c ob h))
   ·have:c=p:=by simpa [Sl.own]using iq
    exact this▸hp
 ·rw[Xb rm]at h2;cases h2
end
end Q
namespace Q
open PySem PySem.Spec PyProof.Rows L2 L3
section
variable {prog:Program}{w:PySem.World}{A:Around}{E:Value->Shared->Prop}{s:Shared}{a it:Addr}{ts:List DictEntry}{ep i:Nat}
theorem qwo{Q:Value->Shared->Prop}(hs:(a==sysModules)=false)(hd:KJ s.heap a ts ep)
  (q:Q (.ref s.heap.objs.size) { s with heap:=s.heap.push { cls:=.type "dict_keyiterator",data:=.fields #[.ref a,.int 0 0,.int ts.length 0,.int ep 0] } }):wpAny (model prog w) A (pyIter (.ref a)) Q E s:=by
 obtain⟨ob,fu,g1,g2,g3,g4⟩:=hd;have ty:s.TypeIs (.ref a) "dict":=⟨ob,g1,g2.1⟩;have hl:fu.size=ts.length:=by rw[<-g4];simp
 refine wpAny_pyIter_slot ty F.slot_dict_iter (Xy F.slot_dict_iter ty F.entry_dict_iter ?_ (F.args_dict_iter_1 _));unfold Builtin.«dict.__iter__» Builtin.Dict.dictSlotNone;refine X0 (X0 (wpAny_notOrdered_dict ty ?_));show wpAny _ _ (pure (Value.ref a)) _ _ s;refine X1 ?_;show wpAny _ _ (Builtin.Dict.showsAll a >>= _) _ _ s;unfold Builtin.Dict.showsAll;rw[Xb (by rw[hs];exact Bool.false_ne_true)];refine X0 (X1 (X0 (wpAny_dictEntries g1 g3 (X0 (wpAny_dictEpoch g1 g3 ?_)))));refine X0 (Xp (X1 ⟨_,rfl,"dict_keyiterator",_,⟨_,X6 _ rfl,rfl⟩,F.slot_dict_keyiterator_next.lookup,?_⟩))
 simpa [rawInt,hl]using q
theorem qwn{en:DictEntry}{Q:Option Value->Shared->Prop}(hi:s.heap.IsKeyIter it a i ts.length ep)(hd:KJ s.heap a ts ep)(hx:ts[i]?=some en)
  (q:∀h',h'.IsKeyIter it a (i+1) ts.length ep->Heap.SameBut it s.heap h'->Q (some en.key) { s with heap:=h' }):wpAny (model prog w) A (pyNext (.ref it)) Q E s:=by
 have ty:=hi.typeIs;obtain⟨o,h1,h2,h3⟩:=hi;obtain⟨ob,fu,g1,g2,g3,g4⟩:=hd;have hl:fu.size=ts.length:=by rw[<-g4];simp
 have bv:i<fu.size:=by rw[hl];exact(List.getElem?_eq_some_iff.mp hx).1
 have hen:fu[i]=en:=by
  rw[<-g4,Yb,Yd bv]at hx;exact oq9 hx
 have ow:Builtin.Dict_items.ownsTuple "dict_keyiterator"=false:=⋯
 unfold pyNext;refine X0 (Zd (Y7 (name:=Str.ofString "__next__") ty F.slot_dict_keyiterator_next (Xy F.slot_dict_keyiterator_next ty F.entry_dict_keyiterator_next ?_ (F.args_dict_keyiterator_next_1 _))));refine X0 (X1 (X0 (X0 ?_)))
 first
  |refine X0 (Yz ty (X1 (X0 (Z9 h1 h3 ?_))))
  |refine X0 (wpAny_typeNameOf_keyiter ty (X1 (X0 (Z9 h1 h3 ?_))))
 simp only[ow,Bool.false_eq_true,if_false];show wpAny _ _ (if(Value.ref a==Value.none)=true then _ else _) _ _ s;rw[Xb (show ¬((Value.ref a==Value.none)=true)from λz=>nomatch z)];refine X0 (X1 (X0 (wpAny_dictEntries g1 g3 ?_)));rw[Xb (by rw[hl];simp)];refine X0 (X1 (X0 (wpAny_dictEpoch g1 g3 ?_)));rw[Xb (by simp)];refine X1 ?_;simp only[show ¬((i:Int)<0)from by omega,if_false,Xu,Yd bv,hen];refine X0 ?_
 first
  |refine X0 (Yz ty (X1 (X0 (wpAny_isOneOf_keyiter ty ?_))))
  |refine X0 (wpAny_typeNameOf_keyiter ty (X1 (X0 (wpAny_isOneOf_keyiter ty ?_))))
 show wpAny _ _ (setField (.ref it) 1 (rawInt ((i:Int)+1)) >>= _) _ _ s;refine X0 (Ye h1 h3 (by simp) ?_);have gy:(s.heap.update it (Obj.mapFields (·.setIfInBounds 1 (rawInt ((i:Int)+1))))).IsKeyIter it a (i+1) ts.length ep:=⟨_,Xz _ h1 (Yw (Yn h3 _)),(Obj.cls_mapFields ..).trans h2,by rw[Yn h3];simp[rawInt]⟩;refine X0 (Y0 (X0 (wpAny_isOneOf_keyiter (s:={ s with heap:=s.heap.update it (Obj.mapFields (·.setIfInBounds 1 (rawInt ((i:Int)+1)))) }) gy.typeIs ?_)));show wpAny _ _ (pure en.key) _ _ _;exact X1 (X1 ⟨_,rfl,X1 (q _ gy (Xx ..))⟩)
theorem qwm{Q:Option Value->Shared->Prop}(hh:A.handled=none)(hi:s.heap.IsKeyIter it a i ts.length ep)(hd:KJ s.heap a ts ep)(hx:ts.length<=i)(q:∀h',Heap.ExtBut it s.heap h'->Q none { s with heap:=h' }):wpAny (model prog w) A (pyNext (.ref it)) Q E s:=by
 have ty:=hi.typeIs;obtain⟨o,h1,h2,h3⟩:=hi;obtain⟨ob,fu,g1,g2,g3,g4⟩:=hd;have hl:fu.size=ts.length:=by rw[<-g4];simp
 have ow:Builtin.Dict_items.ownsTuple "dict_keyiterator"=false:=⋯
 unfold pyNext;refine X0 (Zd (Y7 (name:=Str.ofString "__next__") ty F.slot_dict_keyiterator_next (Xy F.slot_dict_keyiterator_next ty F.entry_dict_keyiterator_next ?_ (F.args_dict_keyiterator_next_1 _))));refine X0 (X1 (X0 (X0 ?_)))
 first
  |refine X0 (Yz ty (X1 (X0 (Z9 h1 h3 ?_))))
  |refine X0 (wpAny_typeNameOf_keyiter ty (X1 (X0 (Z9 h1 h3 ?_))))
 simp only[ow,Bool.false_eq_true,if_false];show wpAny _ _ (if(Value.ref a==Value.none)=true then _ else _) _ _ s;rw[Xb (show ¬((Value.ref a==Value.none)=true)from λz=>nomatch z)];refine X0 (X1 (X0 (wpAny_dictEntries g1 g3 ?_)));rw[Xb (by rw[hl];simp)];refine X0 (X1 (X0 (wpAny_dictEpoch g1 g3 ?_)));rw[Xb (by simp)];refine X1 ?_;simp only[show ¬((i:Int)<0)from by omega,if_false,Xu,Array.getElem?_eq_none (show fu.size<=i by omega)];refine X0 ?_
 first
  |refine X0 (Yz ty (X1 ?_))
  |refine X0 (wpAny_typeNameOf_keyiter ty (X1 ?_))
 show wpAny _ _ (setField (.ref it) 0 .none >>= _) _ _ s;refine X0 (Ye h1 h3 (by simp) ?_);show wpAny _ _ (newExc (.type "StopIteration") [] >>= _) _ _ _;refine X0 ?_;simp only[newExc,newTuple];refine X0 (Xp (X0 (m:=firstArgMember _ _) (wpAny_of_eq (a:=Value.none) (by first|rfl|(simp only[firstArgMember];rfl)) (Xp ?_ (by size_fits)))) (by size_fits));simp only[raiseNew];refine X0 (wpAny_handled ?_);rw[show A.in1.handled=none from hh];have tyS:∀(hq:Heap) (ob:Obj),ob.cls=.type "StopIteration"->(hq.push ob).get? hq.objs.size=some ob->Shared.TypeIs { s with heap:=hq.push ob } (.ref hq.objs.size) "StopIteration":=λhq ob h1 h2=>⟨_,h2,h1⟩
 refine X0 (X1 (wpAny_throw ?_));refine X0 (wpAny_isInstance (b:=true) (tyS _ _ rfl (X6 _ rfl)) isSubtype_stop ?_);exact X1 (q _ (((Xx ..).extBut.push _).push _))
theorem jxg{h h':Heap}(hd:KJ h a ts ep)(k:∀o,h.get? a=some o->h'.get? a=some o):KJ h' a ts ep:=by
 obtain⟨ob,fu,g1,g⟩:=hd;exact⟨ob,fu,k ob g1,g⟩
theorem kze{h:Heap}(hd:KJ h a ts ep):a<h.objs.size:=by
 obtain⟨ob,fu,g1,g⟩:=hd;exact Xa g1
theorem qk6(hh:A.handled=none)(I:Addr)(bj:a≠I):PySem.Walks prog w A I [I,a] [I] ts.length (λi v=>∃en,ts[i]?=some en/\v=en.key) (λi h=>h.IsKeyIter I a i ts.length ep/\KJ h a ts ep) where
 sub:=λb hb=>by simp at hb;simp[hb]
 frame:=λ_ _ _ st hk=>⟨st.1.at λo e=>hk I (by simp) o e,jxg st.2 λo e=>hk a (by simp) o e⟩
 item:=λi s Q E hi st hQ=>qwn st.1 st.2 (X2 hi) λh' gy gw=>
  hQ _ h' s.toks ⟨_,X2 hi,rfl⟩ ⟨gy,jxg st.2 λo e=>gw.extBut a o bj e⟩ λb o hb e=>gw.extBut b o (λh=>hb (by simp[h])) e
 done:=λs Q E st hQ=>qwm hh st.1 st.2 (X8 _) λh' he'=>hQ h' s.toks λb o hb e=>he' b o (λh=>hb (by simp[h])) e
 self:=λ_ _ _ _ st hQ=>wpAny_pyIter_keyiter st.1 hQ
theorem qzg(lo:(a==sysModules)=false):PySem.W.KdlSrc prog w "dict" a a ts.length (λi v=>∃en,ts[i]?=some en/\v=en.key) (λh=>KJ h a ts ep) where
 type:=λ_ hm=>by obtain⟨ob,fu,g1,g2,_⟩:=hm;exact⟨ob,g1,g2.1⟩
 there:=λ_ hm=>⟨kze hm,kze hm⟩
 keep:=λ_ _ hm hk=>jxg hm λo e=>hk a (.inl rfl) o e
 notList:=⋯
 notTuple:=⋯
 hint:=λ_ _ _ _ hm hq=>PySem.W.kdl_hint_dict (by obtain⟨ob,fu,g1,g2,_⟩:=hm;exact⟨ob,g1,g2.1⟩) hq
 iter:=λ_ _ hh hm=>⟨_,_,(λ_ _ hq=>qwo lo hm hq),qk6 hh _ (Xg (kze hm)),⟨⟨_,X6 _ rfl,rfl,rfl⟩,jxg hm λo e=>X3 _ e⟩⟩
end
def vkp(K:Frag):List V->Hp->VK->Prop:=λxs H Q=>∃a es ep,xs=[.ref a]/\H a=some (qx a es ep)/\(a==sysModules)=false/\es.length<=sizeLine/\∀l,H l=none->Q (.ref l) (upd H l (.lst (es.map λn=>V.ref n.2.1)))
theorem kvj:∀(es:List Ent),Vals (es.map λn=>V.ref n.2.1) (es.map λn=>Value.ref n.2.1)
 |[]=>.nil|n::es=>.cons rfl (kvj es)
theorem kqa{X:Cx}{K:Frag}(hc:autoParam (X.calm=true) Ŕ):CallR X (.type "list") (vkp K):=by
 intro pins s O H xs us Q I r h;obtain⟨a,es,ep,rfl,hH,hs,hl,q⟩:=h;obtain⟨u,rfl,rx⟩:=zW r;cases rx;refine PySem.W.kdl_call (qzg (ts:=es.map λx=>(⟨Qx x.1.1,.ref x.2.1,x.2.2⟩:DictEntry)) (ep:=ep) hs) (I.ok.hd hc) (vx2 I hH) (by rw[X4];exact hl) λh' tk aq c kp e bb=>?_
 have he:aq.toList=es.map λn=>Value.ref n.2.1:=by
  refine List.ext_getElem? λi=>?_
  rw[Xn];have hn:aq.size=es.length:=by have:=bb.1;simpa using this
  cases hv:aq[i]? with
  |none=>rw[Yb,hv,Yl (by have:=Array.getElem?_eq_none_iff.mp hv;omega)];rfl
  |some v=>
   obtain⟨en,h1,h2⟩:=bb.2 i v hv;rw[Yb,hv,h2];rw[Xn]at h1;cases hes:es[i]? with|none=>rw[hes]at h1;cases h1|some n=>rw[hes]at h1;cases oq9 h1;rfl
 refine⟨.ref s.heap.objs.size,_,I.laid kp (X8 _) (show ObjOk X.prog X.w _ h' _ (.lst (es.map λn=>V.ref n.2.1))from⟨by rw[X4];exact hl,es.map λn=>Value.ref n.2.1,c,kvj es,by rw[<-he];simpa using e⟩),rfl,q _ (I.hok.fresh (X8 _))⟩
theorem kvv{K:Frag}{H:Hp}:∀{es:List Ent},(∀n∈es,PuR K H n.1.1 (.ref n.2.1))->RepA K H true (es.map (·.1.1)) (es.map λn=>V.ref n.2.1) []
 |[],_=>by unfold RepA;exact⟨rfl,rfl⟩
 |n::es,h=>by
  rw[List.map_cons,List.map_cons];unfold RepA;exact⟨_,_,[],[],rfl,rfl,qv5 (h n X7),kvv λm hm=>h m (lc9 _ hm)⟩
theorem qk2{K:Frag}:Ad1 K (λv H Q=>vkp K [v] H Q) Q9:=by
 intro H x s Q ok hf k;unfold Q9 at hf;cases hx:x.d with
 | dct kvs=>
  rw[show(x.o,x.d).2=D.dct kvs from hx]at hf;have hf:(if kvs.length<=big/\unm kvs=true then some (Own.rt,D.lst (kvs.map (·.1)))else none)=some s:=hf
  split at hf
  rotate_left
  ·cases hf
  rename_i av;cases oq9 hf;have okL:RepL K H true (.dct kvs) x.v x.as:=by rw[<-hx];exact V1 ok
  unfold RepL at okL;obtain⟨a,xs,bs,ev,rp,q4,eas⟩:=okL;obtain⟨es,ep,g1,g2,g3,g4,g5,g6,g7⟩:=DcA.un q4 av.2;refine⟨a,es,ep,by rw[ev],g1,g2,g3,λl hl=>k ⟨.rt,.lst (kvs.map (·.1)),.ref l,[l]⟩ _ rfl rfl ⟨vw hl,⟨l,_,[],rfl,?_,wJ,rfl⟩,λb hb=>?_,by simp[Sl.own],λb hb=>?_⟩⟩
  ·rw[g5];exact(kvv g6).kp (Kp.of_same (vw hl))
  ·have:b=l:=by simpa [Sl.own]using hb
   exact this▸hl
  ·simp[Sl.frz]at hb
 |_=>rw[show(x.o,x.d).2=_ from hx]at hf;cases hf
end Q
namespace Q
open PySem PySem.Spec PyProof.Rows L2 L3
theorem RepA.put{K:Frag}{H:Hp}{g:Bool}{d:D}{x:V}{cs:List Addr}(hx:RepL K H g d x cs):∀{ds:List D} {xs:List V} {bs:List Addr} (n:Nat),RepA K H g ds xs bs->∃es,RepA K H g (ds.set n d) (xs.set n x) es/\∀a∈es,a∈bs\/a∈cs
 | [],_,bs,n,h=>by
  have h0:=h;unfold RepA at h0;obtain⟨rfl,rfl⟩:=h0;exact⟨[],by simpa using h,λ_ z=>nomatch z⟩
 | e::ds,_,_,n,h=>by
  unfold RepA at h;obtain⟨y,r,b1,b2,rfl,rfl,h1,h2⟩:=h;cases n with
  | zero=>
   refine⟨cs++b2,?_,λa ha=>?_⟩
   ·rw[List.set_cons_zero,List.set_cons_zero];unfold RepA;exact⟨x,r,cs,b2,rfl,rfl,hx,h2⟩
   ·rcases aA ha with z|z
    ·exact .inr z
    ·exact .inl (lr9 _ z)
  | succ n=>
   obtain⟨es,i1,i2⟩:=RepA.put hx n h2;refine⟨b1++es,?_,λa ha=>?_⟩
   ·rw[List.set_cons_succ,List.set_cons_succ];unfold RepA;exact⟨y,r.set n x,b1,es,rfl,rfl,h1,i1⟩
   ·rcases aA ha with z|z
    ·exact .inl (ll9 _ z)
    ·exact(i2 a z).imp (lr9 _) id
section
variable {X:Cx}{Z:Fx0}{pn:List Nat}{q:Bool}{kc vc:Ex}{o ke ve:Expr}{pos bz:Pos}
theorem qvh {i:Nat} (ho:PE X o (JX i)) (hk:QV X Z true kc ke) (hv:QE X Z q vc ve) (hs:autoParam (swapsWithSole [.Subscript o ke bz] ve pos.line X.env=pure false) Ŕ) (hw:autoParam (swappedStores [.Subscript o ke bz] ve X.env=pure none) Ŕ)
  (h1:autoParam ((assignEach [.Subscript o ke bz] X.env).map (·.2)=[assign (.Subscript o ke bz) X.env]) Ŕ)
  (ha:autoParam (∀ v,assign (.Subscript o ke bz) X.env v=(do
   let ov <-holding [v] (eval o X.env)
   let iv <-holding [v,ov] (eval ke X.env)
   standAt bz
   holding [v,ov,iv] (setItem ov iv v)
   release [v,ov,iv] [])) Ŗ):
  QS X Z pn (QQ i kc vc) (.Assign [.Subscript o ke bz] ve pos):=Kk (wjn hv (wjs ho hk qzk ha) hs hw h1) λD O H az=>ex7 az λE L r m w hr k=>
 qv2 m w hr k λE1 s1 h1 x L1 H1 e1 e2 m1 w1 gl _=>by
  by_cases hd:K6 E1[i]?=true
  ·rw [X9 hd]at h1;obtain ⟨s0,hd0⟩:∃s0,E1[i]?=some (some s0):=by
    cases h0:E1[i]? with
    | none=>rw[h0]at hd;cases hd
    | some s0=>
     cases s0 with| none=>rw[h0]at hd;cases hd| some s0=>exact⟨s0,rfl⟩
   obtain ⟨y0,a1,a2,a3,a4⟩:=m1.get hd0;refine ⟨y0.v,a4,?_⟩;have stL:Step H L H1 L1:=gl.trans Step.drop;rcases jw3 h1 with⟨E2,ky,hk1,gi⟩|⟨E2,c,hk1,rfl⟩
   ·refine ⟨E1,L1,_,m1,w1.tail,hk1,(λ_ _ z=>by cases z),λE' s' z zk L2 H2 f1 f2 m2 w2 okz frz _ bo sm=>?_⟩;injection z with z1 z2;subst z1 z2;cases hE:E2[i]? with
    | none=>rw[hE]at gi;cases gi
    | some s2=>
     cases s2 with
     | none=>rw[hE]at gi;cases gi
     | some s2=>
      obtain⟨oo,dd⟩:=s2;rw [hE]at gi;cases dd with
      | lst ds=>
       cases hkd:ky.2 with
       | int j=>
        rw [hkd]at gi;dsimp only at gi
        by_cases fm:oo=.no
        ·rw[X9 fm]at gi;cases gi
        ·rw[Xb fm]at gi;cases hj:ixN ds.length j with
         | none=>rw[hj]at gi;cases gi
         | some n=>
          rw[hj]at gi;cases oq9 gi;obtain⟨y,b1,b2,b3,b4⟩:=m2.get hE;have hyv:y.v=y0.v:=by rw[a4]at b4;exact(oq9 (oq9 b4)).symm
          obtain⟨w3,de⟩:=wq2 (T:=[some x]) w1 bo w2;obtain⟨l,xs,bs,c1,c2,c3,c4,c5⟩:=kxv (w2.ok y (ww b1)) b3 (by rw[b2];exact fm);have c6:RepA Z.K H2 true ds xs bs:=by
           cases hb:(y.o != .dp)with|true=>rw[hb]at c5;exact c5|false=>rw[hb]at c5;exact c5.wk
          have rx:RepL Z.K H2 true s1.2 x.v x.as:=by rw[<-e2];exact RepO.wk (w3.ok x X7)
          obtain⟨es,g1,g2⟩:=RepA.put rx n c6;obtain⟨w4,ip⟩:=kqq (T:=[some x]) (o':=.rt) (ds':=ds.set n s1.2) (xs':=xs.set n x.v) w3 b1 c2 c3 c4 c1 g1 (.inl ⟨rfl,λa ha=>(g2 a ha).imp id λz=>by
           rcases Sl.as_of z with z|z
           ·exact .inl (by simpa using z)
           ·exact .inr (by simpa using z)⟩)
          have nt:zk.v=.int j:=v5 okz (by rw[f2];exact hkd);refine⟨l,xs,j,n,hyv▸c1,nt,c2,by rw[<-c6.len,<-qwu];exact hj,?_⟩;have lm:Step H L _ _:=(gl.trans de).trans ip;refine k O _ _ Pn.refl ?_ w4 lm;have:=m2.set (x:=⟨.rt,.lst (ds.set n s1.2),y.v,l::es⟩) i;rw[Ww b4]at this;exact this
       |_=>rw[hkd]at gi;cases gi
      |_=>cases gi
   ·exact⟨E1,L1,_,m1,w1.tail,hk1,(λE' c' e C L' H' hm m' w' st=>by injection e with z1 z2;subst z1 z2;exact k C O L' H' hm Pn.refl m' w' (stL.trans st)),λE' s' z=>by cases z⟩
  ·rw[Xb hd]at h1;cases h1
end
end Q
namespace Q
open PySem PySem.Spec PyProof.Rows L2 L3
abbrev dkI(kv:List (Int×Int)):List (Key×V):=kv.map λp=>(Sum.inl p.1,V.int p.2)
theorem vxx(kv:List (Int×Int))(k:Int):J8 (dkI kv) (Sum.inl k)=(zx kv k).map V.int:=by
 induction kv with
 | nil=>rfl
 | cons p r ih=>
  unfold J8 zx at ih ⊢;rw[show dkI (p::r)=(Sum.inl p.1,V.int p.2)::dkI r from rfl,Ym,Ym]
  by_cases h:p.1=k
  ·have h1:decide ((Sum.inl p.1:Key)=Sum.inl k)=true:=Xl (by rw[h]);have h2:decide (p.1=k)=true:=Xl h;simp only[h1,h2];rfl
  ·have h1:decide ((Sum.inl p.1:Key)=Sum.inl k)=false:=Xh λz=>h (Sum.inl.inj z)
   have h2:decide (p.1=k)=false:=Xh h;simp only[h1,h2];exact ih
theorem wji(kv:List (Int×Int))(k v:Int):wv7 (dkI kv) (Sum.inl k) (V.int v)=dkI (zJ kv k v):=by
 have ha:((dkI kv).any λp=>decide (p.1=(Sum.inl k:Key)))=kv.any λp=>decide (p.1=k):=by
  unfold dkI;rw[List.any_map]
  congr 1
  funext p;show decide ((Sum.inl p.1:Key)=Sum.inl k)=decide (p.1=k);exact decide_eq_decide.mpr ⟨λz=>Sum.inl.inj z,λz=>by rw[z]⟩
 unfold wv7 zJ;rw[ha]
 by_cases h:(kv.any λp=>decide (p.1=k))=true
 ·rw[X9 h,X9 h];unfold dkI;rw[Xs,Xs];refine List.map_congr_left λp _=>?_
  show(if(Sum.inl p.1:Key)=Sum.inl k then _ else _)=_
  by_cases z:p.1=k
  ·rw[X9 (by rw[z])];show _=(Sum.inl (if p.1=k then(p.1,v)else p).1,V.int (if p.1=k then(p.1,v)else p).2);rw[X9 z]
  ·rw[Xb λq=>z (Sum.inl.inj q)];show _=(Sum.inl (if p.1=k then(p.1,v)else p).1,V.int (if p.1=k then(p.1,v)else p).2);rw[Xb z]
 ·rw[Xb h,Xb h];unfold dkI;rw[Xq];rfl
theorem kwl : ∀{kvs : List (D × D)} {kv : List (Int × Int)}, V6 kvs = some kv -> kvs = kv.map λp=>(D.int p.1, D.int p.2)
  | [], kv, h=>by cases oq9 h; rfl
  | (a, b)::r, kv, h=>by
    cases a with
    | int k=>
      cases b with
      | int v=>
        have h : (V6 r).map ((k, v):: ·) = some kv:= h;cases hr : V6 r with
        | none=>rw[hr]at h; cases h
        | some q=>
          rw[hr]at h;cases oq9 h;rw[List.map_cons, <-kwl hr]
      |_=>cases h
    |_=>cases b <;> cases h
theorem kwk : ∀(kv : List (Int × Int)), V6 (kv.map λp=>(D.int p.1, D.int p.2)) = some kv
  | []=>rfl
  | (a, b)::r=>by
    show(V6 (r.map λp=>(D.int p.1, D.int p.2))).map ((a, b):: ·) = _;rw[kwk r]; rfl
theorem vq8(kv:List (Int×Int)):W0 (KZ kv)=some kv:=kwk kv
theorem kvu{K:Frag}{H:Hp}{g:Bool}:∀{kv:List (Int×Int)} {xs:List V} {bs:List Addr},RepP K H g (kv.map λp=>(D.int p.1,D.int p.2)) xs bs->xs=kv.map λp=>V.int p.2
 |[],_,_,h=>by
  have h:RepP K H g [] _ _:=h;unfold RepP at h;exact h.1
 |p::r,_,_,h=>by
  rw[List.map_cons]at h;unfold RepP at h;obtain⟨y,rr,b1,b2,rfl,_,h1,h2⟩:=h;unfold RepL at h1;rw[h1.1,kvu h2,List.map_cons]
theorem kwj{K:Frag}{H:Hp}{g:Bool}:∀(kv:List (Int×Int)),RepP K H g (kv.map λp=>(D.int p.1,D.int p.2)) (kv.map λp=>V.int p.2) []
 |[]=>by show RepP K H g [] [] [];unfold RepP;exact⟨rfl,rfl⟩
 |p::r=>by
  rw[List.map_cons,List.map_cons];unfold RepP;exact⟨_,_,[],[],rfl,rfl,vX,kwj r⟩
theorem vw9{K:Frag}{H:Hp}{g:Bool}(kv:List (Int×Int)):RepP K H g (mkD::kv.map λp=>(D.int p.1,D.int p.2)) (V.non::kv.map λp=>V.int p.2) []:=by
 unfold mkD RepP;exact⟨_,_,[],[],rfl,rfl,by unfold RepL;exact⟨rfl,rfl⟩,kwj kv⟩
theorem qjn:∀{a:List (Int×V)} {kv:List (Int×Int)},(kv.map λp=>D.int p.1)=a.map (λp=>D.int p.1)->(kv.map λp=>V.int p.2)=a.map (·.2)->(a.map λp=>((Sum.inl p.1:Key),p.2))=dkI kv
 |[],[],_,_=>rfl|[],_::_,h,_=>by simp at h|_::_,[],h,_=>by simp at h
 |p::a,q::kv,h,h'=>by
  rw[List.map_cons,List.map_cons]at h h';injection h with h1 h2;injection h' with h3 h4;injection h1 with h1;unfold dkI;rw[List.map_cons,List.map_cons,qjn h2 h4,<-h1,<-h3]
theorem vqc{K:Frag}{H:Hp}{y:Sl}{kv:List (Int×Int)}(ok:y.ok K H)(hd:W0 y.d=some kv):∃a,y.v=.ref a/\H a=some (.dK (dkI kv))/\∃bs,y.as=a::bs:=by
 have h:=RepO.wk ok;cases hy:y.d with
 | dct kvs=>
  rw [hy]at hd h;cases kvs with
  | nil=>cases hd
  | cons e kvs=>
   obtain⟨a,b⟩:=e;cases a with
   | str m=>
    cases b with
    | non=>
     have hd:V6 kvs=some kv:=hd;have e:=kwl hd;subst e;unfold RepL at h;obtain⟨a,xs,bs,ev,rp,qa,eas⟩:=h;rcases qa with⟨es,ep,_,_,_,_,g5,g6,_⟩|⟨kvn,mm,g1,g2,g3⟩
     ·exfalso;rw[List.map_cons]at g5;cases es with
      |nil=>cases g5
      |cons n es=>
       rw[List.map_cons]at g5;injection g5 with g5 _;have:=g6 n X7;rw[<-g5]at this;unfold PuR at this;exact this
     ·refine⟨a,ev,?_,bs,eas⟩;rw[g1]
      congr 2
      unfold RepP at rp;obtain⟨y1,rr,_,_,rfl,_,_,r2⟩:=rp;have e1:=kvu r2;rw[List.map_cons,Xs]at g2;injection g2 with _ g2;injection g3 with _ g3;refine qjn g2 ?_;rw[<-e1];exact g3
    |_=>cases hd
   |_=>cases b<;>cases hd
 |_=>rw[hy]at hd;cases hd
section
def wxz(kl:Bool):R2:=λx y H Q=>∃(k:Int) (a:Addr) (kv:List (Int×Int)),x=.int k/\y=.ref a/\H a=some (.dK (dkI kv))/\Q (.bl (if kl then !(zx kv k).isSome else(zx kv k).isSome)) H
theorem vqe{H:Hp}{a:Addr}{kv:List (Int×Int)}(k:Int)(e:H a=some (.dK (dkI kv))):DGet H a (.int k) ((zx kv k).map V.int):=by
 rw[<-vxx];exact DGet.k (k:=Sum.inl k) e
theorem wwo{X:Cx}(hu:X.A.units+64<cLine):OpR X (compareOp .In) (wxz false):=by
 intro pins s O H x y u v Q I rx ry ⟨k,a,kv,e1,e2,hd,q⟩;subst e1 e2;cases ry;refine d_in ⋯ I (vqe k hd) rx λs' I'=>⟨.bl _,H,I',rfl,?_⟩
 rw[Option.isSome_map];exact q
theorem wqv{K:Frag}:Ad2 K (wxz false) (pu2 W8):=by
 intro H x y s Q ox oy hf k;unfold pu2 W8 at hf;dsimp only at hf;cases hx:x.d with
 | int j=>
  rw[hx]at hf;cases hi:W0 y.d with
  |none=>rw[hi]at hf;cases hf
  |some kv=>
   rw[hi]at hf;cases oq9 hf;obtain⟨a,e,q,_⟩:=vqc oy hi;exact⟨j,a,kv,v5 ox hx,e,q,k ⟨.dp,.bl _,.bl _,[]⟩ H rfl rfl xv⟩
 |_=>rw[hx]at hf;cases hf
theorem wqo(x y s:Sd)(h:pu2 W8 x y=some s):∃k,s.2=.bl k:=by
 unfold pu2 W8 at h;cases hx:x.2 with
 |int j=>
  rw[hx]at h;cases hi:W0 y.2 with|none=>rw[hi]at h;cases h|some kv=>rw[hi]at h;cases oq9 h;exact⟨_,rfl⟩
 |_=>rw[hx]at h;cases h
end
section
variable {X:Cx}{Z:Fx0}{pn:List Nat}{q qa:Bool}{a b c kc vc:Ex}{o ea eb ec ke ve:Expr}{pos bz au:Pos}
theorem ww5(hu:X.A.units+64<cLine)(ha:QV X Z qa a ea)(hb:QV X Z true b eb)(hs:wxi eb):QV X Z qa (wv3 a b) (.Subscript ea eb pos):=
 qk (vvt ⋯ ha hb hs) fun O H Q az=>ex8 az λE L r m w hc xc k=>by
  refine vk m w (show bnd (a E) _=some r from hc) xc λE1 s h1 x L1 H1 e1 e2 m1 w1 ok fr sr st sm=>?_
  refine vk m1 w1 h1 (xc.step st) λE2 s2 h2 y L2 H2 e3 e4 m2 w2 gz sk si bo dj=>?_
  obtain⟨z,hz,rfl⟩:=Jq h2;have kx:=WQ ok fr bo (dj rfl);unfold wqc at hz;cases hy:s2.2 with
  | int j=>
   rw [hy]at hz;cases hi:W0 s.2 with
   | none=>rw[hi]at hz;cases hz
   | some kv=>
    rw[hi]at hz;dsimp only at hz;cases hv:zx kv j with
    | none=>rw[hv]at hz;cases hz
    | some v=>
     rw[hv]at hz;cases oq9 hz;obtain⟨l,e,q,_⟩:=vqc kx.1 (by rw[e2];exact hi);refine⟨l,.int v,e,?_,?_⟩
     ·rw[v5 gz (by rw[e4];exact hy)];have:=vqe j q;rw[hv]at this;exact this
     ·exact k _ _ rfl ⟨.dp,.int v,.int v,[]⟩ L2 H2 rfl rfl m2 w2 (show RepL Z.K H2 false (.int v) (.int v) []from vX) (λ_ hb=>nomatch hb) (λ_ hb=>nomatch hb) (st.trans bo) λhq=>qw (sm hq) (dj rfl)
  |_=>rw[hy]at hz;cases hz
theorem qzu(kv:List (Int×Int))(k v:Int):(zJ kv k v).length<=kv.length+1:=by
 unfold zJ
 split
 ·rw[X4];omega
 ·rw[Xj];simp
end
end Q
namespace PySem
theorem qkj:typeLookup (.type "list") "keys"=pure none:=am_miss_of_fast (by decide +kernel)
theorem kva{prog:Program}{w:World}{A:Around}{E:Value->Shared->Prop}{s:Shared}{a:Addr}{o:Obj}{xs:Array Value}{k:Nat}{Q:Option Value->Shared->Prop}
  (hx:s.heap.get? a=some o) (hc:o.cls=.type "list") (fy:o.data=.seq xs k) (hd:o.dict=none) (hA:A.handled=none)
  (h:∀h' tk,(∀b ob,s.heap.get? b=some ob->h'.get? b=some ob)->Q none { s with heap:=h',toks:=tk }):
  wpAny (model prog w) A (getAttr? (.ref a) "keys") Q E s:=by
 obtain⟨c,dct,dat,sl⟩:=o;simp only at hc fy hd;subst hc fy hd;obtain⟨hp,g,d,tk,os⟩:=s;have hT:∀oq,(⟨hp,g,d,oq,os⟩:Shared).TypeIs (.ref a) "list":=λ_=>⟨_,hx,rfl⟩
 have f1:=sub_AttributeError;have f3:=F.slot_list_getattribute.lookup;have f4:=F.slot_list_getattribute.bind (.ref a);have f5:=am_list_getattr_none;unfold getAttr? getAttrBy? getAttrBy
 repeat (any_goals (first|assumption|exact hT _|((with_reducible show wpAny _ _ (call (Value.builtin "list.__getattribute__") _ _) _ _ _);refine call_meets F.slot_list_getattribute (hT _) am_entry_list_getattribute (F.args_list_getattribute_2 _ _) (meets_getattribute_miss_list a xs k sl "keys" _ qkj ⋯ ⋯) ⟨hx,hA,λh' oq e om=>?_⟩)|wp_step))
 obtain⟨t',u',he⟩:=om.there;show wpAny _ _ (getattributeRaised _ _ _ _ _ _ _) _ _ _;unfold getattributeRaised
 repeat (any_goals (first|assumption|wp_step))
 exact h _ _ om.keeps
namespace F
theorem entry_dict_update_loop:entryFor table "dict.update.loop"=some Builtin.«dict.update.loop»:=entryFor_of_tree (by kernel_rfl)
theorem plain_dict_update_loop:plainId "dict.update.loop"=true:=by decide +kernel
end F
section
variable {prog:Program}{w:World}{A:Around}{R:Result->Shared->Prop}{I:Addr}{fp wr:List Addr}{G:Array GenState->Array GenState->Prop}{n:Nat}{P:Nat->Value->Prop}{St:Nat->Shared->Prop}{K:Type}[DecidableEq K]{knd:KeyKind prog w K}
theorem qkr{s:Shared}{T:Addr}{u v:Value}{E:Value->Shared->Prop}{Q:List Value->Shared->Prop}(h:s.heap.IsTuple T #[u,v])(hq:Q [u,v] s):wpAny (model prog w) A (Builtin.Dict.pairItems (.ref T)) Q E s:=by
 obtain⟨o,ho,hc,m,hd⟩:=h;have hT:s.TypeIs (.ref T) "tuple":=⟨o,ho,hc⟩;unfold Builtin.Dict.pairItems;refine X0 (wpAny_typeOf hT ?_);obtain⟨hp,g,d,tk,os⟩:=s;obtain⟨cls,dct,dat,sl⟩:=o;simp only at hc hd;subst hc hd
 repeat (any_goals (first|assumption|wp_step))
theorem jz6(W:WalksS prog w A.in1 I fp wr G n P St)(S:Addr)(md:S∉fp){h₀:Heap}{more:List (K×Value)}(hn:more.length=n)(hz:n<=sizeLine)
  (jh:∀i v,P i v->∃T u x k,v=.ref T/\T∉S::wr/\h₀.IsTuple T #[u,x]/\more[i]?=some (k,x)/\knd.is k u=true):
  ∀(k i:Nat) (c:Tok) (s:Shared),n - i=k->i<=n->St i s->(∀b o,b∉S::wr->h₀.get? b=some o->s.heap.get? b=some o) ->
   s.heap.DictOf knd S (merged [] (more.take i)) ->
   (∀s',Moved (S::wr) G s s'->s'.heap.DictOf knd S (merged [] more)->R (.ok (.ret .none)) s') ->
   codeAny (model prog w) A (.builtin "dict.update.loop" ⟨[.ref S,.ref I,.int i c,.none],[]⟩) R s:=by
 have pq:S∉wr:=λh=>md (W.sub _ h)
 have f9:∀b∈wr,b∈S::wr:=λb hb=>lc9 _ hb
 intro k
 induction k with
 | zero=>
  intro i c s hk hi cb hh hS hR;have i6:i=n:=⋯
  subst i6;refine Z3 F.entry_dict_update_loop ?_;rw[Yo F.plain_dict_update_loop _];show wpAny _ A.in1 (pyNext (.ref I) >>= _) _ _ s;refine X0 (W.done s _ _ cb λs' hm=>?_);show wpAny _ A.in1 (Builtin.Dict.addKeywords S [] >>= _) _ _ s';refine X0 (X1 (X1 (hR s' (hm.mono f9) ?_)));rw[<-hn,List.take_length]at hS;obtain⟨o,es,ep,ho,jq⟩:=hS;exact⟨o,es,ep,hm.heap S _ pq ho,jq⟩
 | succ k ih=>
  intro i c s hk hi cb hh hS hR;have bv:i<n:=⋯
  refine Z3 F.entry_dict_update_loop ?_;rw[Yo F.plain_dict_update_loop _];show wpAny _ A.in1 (pyNext (.ref I) >>= _) _ _ s;refine X0 (W.item i s _ _ bv cb λv s' hP nr hm=>?_);obtain⟨T,u,x,kk,rfl,hTn,hT,hmo,eh⟩:=jh i v hP;have jd:s'.heap.DictOf knd S (merged [] (more.take i)):=by
   obtain⟨o,es,ep,ho,jq⟩:=hS;exact⟨o,es,ep,hm.heap S _ pq ho,jq⟩
  have sf:s'.heap.IsTuple T #[u,x]:=by
   obtain⟨o,ho,jq⟩:=hT;exact⟨o,hm.heap T o (λz=>hTn (lc9 _ z)) (hh T o hTn ho),jq⟩
  have fq:(merged [] (more.take i)).length<=sizeLine:=by
   have e1:=merged_length_le ([]:List (K×Value)) (more.take i);have e2:(more.take i).length<=more.length:=by rw[Yc];omega
   have e3:([]:List (K×Value)).length=0:=rfl;omega
  show wpAny _ A.in1 (holding [Value.ref T] _ >>= _) _ _ s';refine X0 (Y0 (X0 (wpAny_tryCatch (qkr sf ?_))));show wpAny _ A.in1 (holding [u,x] (dictSet S u x)) _ _ s';refine Y0 (wpAny_dictSet_pairs (hsz:=fq) eh jd λh' jl gw=>?_);refine X1 ⟨plainId_quiet F.plain_dict_update_loop _,?_⟩;show codeAny _ _ (.builtin "dict.update.loop" ⟨[.ref S,.ref I,.int ((i+1:Nat):Int) 0,.none],[]⟩) R _;refine ih (i+1) 0 _ ⋯ bv (W.frame _ s' _ _ nr (Zh _) λb hb o e=>?_) (λb o hb e=>?_) (by rw[merged_take_succ [] more i (kk,x) hmo];exact jl) λkh nk mx=>?_
  ·rw[gw.2 b (λh:b=S=>md (by rw[<-h];exact hb))];exact e
  ·have hbS:b≠S:=λz=>hb (by rw[z];exact X7)
   show h'.get? b=_;rw[gw.2 b hbS];exact hm.heap b o (λz=>hb (lc9 _ z)) (hh b o hb e)
  ·refine hR kh (Moved.trans W.gtrans ((hm.mono f9).then_heap (Zh _) λb o hb e=>?_) nk) mx;rw[gw.2 b (λh:b=S=>hb (by rw[h];exact X7))];exact e
theorem kko{E:Value->Shared->Prop}{s:Shared}{l:Addr}{items:Array Value}{more:List (K×Value)}{o:Obj}{m:Nat}{Q:Value->Shared->Prop}
  (hh:A.handled=none) (ho:s.heap.get? l=some o) (hc:o.cls=.type "list") (fy:o.data=.seq items m) (hd:o.dict=none) (hn:more.length=items.size) (hz:items.size<=sizeLine)
  (jh:∀(i:Nat) (v:Value),items[i]?=some v->∃T u x k,v=.ref T/\s.heap.IsTuple T #[u,x]/\more[i]?=some (k,x)/\knd.is k u=true)
  (h:∀(h':Heap) (tk:Nat),h'.DictOf knd s.heap.objs.size (merged [] more)->(∀b o,b<s.heap.objs.size->s.heap.get? b=some o->h'.get? b=some o)->Q (.ref s.heap.objs.size) { s with heap:=h',toks:=tk }):
  wpAny (model prog w) A (call (.type "dict") [.ref l]) Q E s:=by
 refine callType_codes (Q₁:=λobj s₁=>obj=Value.ref s.heap.objs.size/\s₁={ s with heap:=s.heap.push { cls:=Value.type "dict",data:=Data.dict #[] } }) F.kt_called_dict (F.kt_typeCall_dict_1 _) F.entry_dict_init (kt_code_dict_new _ ⟨rfl,rfl⟩) ?_;rintro obj s₁ ⟨rfl,rfl⟩;have fz:(s.heap.push { cls:=.type "dict",data:=.dict #[] }).DictOf knd s.heap.objs.size []:=Heap.DictOf.new s.heap;have iu:(s.heap.push { cls:=.type "dict",data:=.dict #[] }).get? l=some o:=X3 _ ho;have hT:Shared.TypeIs { s with heap:=s.heap.push { cls:=.type "dict",data:=.dict #[] } } (.ref l) "list":=⟨_,iu,hc⟩;have qh:l<s.heap.objs.size:=Xa ho;refine⟨fz.typeIs,F.args_dict_init_2 _ _,?_⟩;unfold Builtin.«dict.__init__»;refine X0 ?_;unfold Builtin.Dict.selfAndRest;refine X0 (wpAny_notOrdered_dict fz.typeIs ?_);show wpAny _ _ (pure (s.heap.objs.size,[Value.ref l])) _ _ _;refine X1 ?_;show wpAny _ _ (Builtin.Dict.updateFrom "dict.__init__" s.heap.objs.size (.ref l) [] .none) _ _ _;unfold Builtin.Dict.updateFrom;refine X0 (wpAny_typeOf hT ?_);rw[X9 ⋯];refine X0 (kva iu hc fy hd (by simp[hh]) λh' tk hk=>?_);rw[X9 (show(none:Option Value).isNone=true from rfl)];have hkS:∀b q,s.heap.get? b=some q->h'.get? b=some q:=λb q e=>hk b q (X3 _ e)
 have gr:h'.IsList l items:=⟨o,hkS _ _ ho,hc,m,fy⟩;have hS1:h'.DictOf knd s.heap.objs.size []:=by
  obtain⟨q,es,ep,hq,jq⟩:=fz;exact⟨q,es,ep,hk _ _ hq,jq⟩
 have lw:s.heap.objs.size<h'.objs.size:=by
  obtain⟨q,es,ep,hq,jq⟩:=hS1;exact Xa hq
 refine X0 (Z8 (X0 (wpAny_pyIter_list gr ?_)));refine X1 ⟨plainId_quiet F.plain_dict_update_loop _,?_⟩;have hneI:l≠h'.objs.size:=Xg (Nat.lt_trans qh lw);refine jz6 (h₀:=s.heap) (A:=A.in1) ((Walks.list (A:=A.in1.in1) (by simp[hh]) h'.objs.size l hneI items).toS) s.heap.objs.size ?_ hn hz (λi v hv=>?_) (items.size - 0) 0 0 _ ⋯ (Yg _)
  ⟨⟨_,X6 _ rfl,rfl,rfl⟩,gr.push _⟩ (λb q hb e=>X3 _ (hkS b q e)) (hS1.push _) λs' hm jd=>?_
 ·simp only[Y1,Xm,or_false,not_or];exact⟨Xg lw,Nat.ne_of_gt qh⟩
 ·obtain⟨T,u,x,k,e1,e2,e3,e4⟩:=jh i v hv;refine⟨T,u,x,k,e1,?_,e2,e3,e4⟩;obtain⟨q,hq,_⟩:=e2;have:=Xa hq;simp only[Y1,Xm,or_false,not_or];exact⟨Xg this,Xg (Nat.lt_trans this lw)⟩
 ·obtain⟨h2,g',d',oq,qr⟩:=s';have eg:g'=s.gens:=hm.gens;have ed:d'=s.drawn:=hm.drawn;have eo:qr=s.os:=hm.os;subst eg;subst ed;subst eo;refine⟨rfl,h h2 oq jd λb q hb e=>?_⟩;refine hm.heap b q ?_ (X3 _ (hkS b q e));simp only[Y1,Xm,or_false,not_or];exact⟨Xg hb,Xg (Nat.lt_trans hb lw)⟩
end
end PySem
namespace Q
open PySem PySem.Spec PyProof.Rows L2 L3
noncomputable def qvd(K:Frag):List V->Hp->VK->Prop:=λxs H Q=>∃(a:Addr) (ts:List V) (ps:List (Int×Int)),xs=[.ref a]/\SqL K H a ts/\ts.length=ps.length /\
 (∀i (h:i<ps.length),∃T,ts[i]?=some (.ref T)/\SqT K H T [.int ps[i].1,.int ps[i].2])/\ps.length<big/\∀l,H l=none->Q (.ref l) (upd H l (.dK (dkI (ps.foldl (λkv p=>zJ kv p.1 p.2) []))))
theorem kwp:∀(ps kv:List (Int×Int)),(ps.foldl (λkv p=>zJ kv p.1 p.2) kv).length<=kv.length+ps.length
 |[],kv=>by simp
 |p::ps,kv=>by
  rw[List.foldl_cons,Xv];have:=kwp ps (zJ kv p.1 p.2);have:=qzu kv p.1 p.2;omega
theorem qx5:∀(ps:List (Int×Int)) (more:List (Key×Value)) (kv:List (Int×Int)) (vs:List (Key×Value)),KV (dkI ps) more->KV (dkI kv) vs->KV (dkI (ps.foldl (λkv p=>zJ kv p.1 p.2) kv)) (more.foldl (λaq kv=>stored aq kv.1 kv.2) vs)
 | [],_,kv,vs,h,h'=>by cases h;exact h'
 | p::ps,_,kv,vs,h,h'=>by
  cases h with
  |cons h1 h2=>
   rename_i m more;obtain⟨k,x⟩:=m;obtain⟨e,rx⟩:=h1;have e:(Sum.inl p.1:Key)=k:=e;subst e;rw[List.foldl_cons,List.foldl_cons];refine qx5 ps more _ _ h2 ?_;rw[<-wji];exact KV.put h' _ rx
theorem qw9{X:Cx}{pins:List (Addr×Obj)}{O:L2.St}{H:Hp}{s:Shared}(I:Inv X pins O H s):∀(ps:List (Int×Int)) (ts:List V) (ai:List Value),ts.length=ps.length ->
  (∀ i (h:i<ps.length),∃T,ts[i]?=some (.ref T)/\SqT X.K H T [.int ps[i].1,.int ps[i].2])->Vals ts ai ->
  ∃ more:List (Key×Value),more.length=ai.length/\KV (dkI ps) more/\∀(i:Nat) (v:Value),ai[i]?=some v->∃T u x k,v=.ref T/\s.heap.IsTuple T #[u,x]/\more[i]?=some (k,x)/\(z3 X.prog X.w).is k u=true
 | [],ts,ai,hl,_,hv=>by
  cases ts with| nil=>cases hv;exact⟨[],rfl,.nil,λi v h=>by simp at h⟩| cons=>cases hl
 | p :: ps,[],_,hl,_,_=>by cases hl
 | p :: ps,t::ts,_,hl,hp,hv=>by
  cases hv with
  | cons h1 h2=>
   rename_i u us;obtain⟨T,e1,e2⟩:=hp 0 (by simp);have e1:t=.ref T:=by simpa using e1
   subst e1;cases h1;obtain⟨ii,rv,tp,_⟩:=I.tuple e2;obtain⟨u1,u2,rfl,r1,r2⟩:∃u1 u2,ii=[u1,u2]/\RelV (.int p.1) u1/\RelV (.int p.2) u2:=by
    cases rv with
    |cons a b=>
     cases b with|cons c d=>cases d;exact⟨_,_,rfl,a,c⟩
   obtain⟨more,m1,m2,m3⟩:=qw9 I ps ts us (by simpa using hl) (λi h=>by
    obtain⟨T,a,b⟩:=hp (i+1) (by simpa using h);exact⟨T,by simpa using a,by simpa using b⟩) h2
   refine⟨(Sum.inl p.1,u2)::more,by rw[Xv,Xv,m1],.cons ⟨rfl,r2⟩ m2,λi v h=>?_⟩;cases i with
   |zero=>
    have h:Value.ref T=v:=by simpa using h
    subst h;exact⟨T,u1,u2,Sum.inl p.1,rfl,tp,rfl,vjj (k:=Sum.inl p.1) r1⟩
   |succ i=>exact m3 i v (by simpa using h)
theorem qqa{X:Cx}(hc:autoParam (X.calm=true) Ŕ):CallR X (.type "dict") (qvd X.K):=by
 intro pins s O H xs us Q I r h;obtain⟨a,ts,ps,rfl,hq,hl,hp,hb,q⟩:=h;obtain⟨u,rfl,rx⟩:=zW r;cases rx;obtain⟨ai,rv,⟨o,n,ho,dy,hd,fy⟩,hz⟩:=I.list hq;obtain⟨more,m1,m2,m3⟩:=qw9 I ps ts ai hl hp rv;refine kko (knd:=z3 X.prog X.w) (more:=more) (I.ok.hd hc) ho dy fy hd (by rw[m1];simp) (by rw[X5,<-rv.length];exact hz) (λi v hv=>m3 i v (by simpa using hv)) λh' tk dd kp=>?_
 have jn:=I.big;refine⟨.ref s.heap.objs.size,_,I.laid (a:=s.heap.objs.size) (o:=.dK (dkI (ps.foldl (λkv p=>zJ kv p.1 p.2) []))) (t':=tk) (λb ob e=>kp b ob (Xa e) e) (X8 _) (wqf ?_ (Ya (Nat.ne_of_gt jn)) (qx5 ps more [] [] m2 .nil) dd),rfl,q _ (I.hok.fresh (X8 _))⟩;rw[X4];have:=kwp ps [];have e3:([]:List (Int×Int)).length=0:=rfl;have:big=sizeLine:=rfl;omega
theorem qvo:∀{ds:List D} {ps:List (Int×Int)},QY ds=some ps->ds=ps.map λp=>D.tup [.int p.1,.int p.2]
 | [],ps,h=>by cases oq9 h;rfl
 | .tup [.int a,.int b]::r,ps,h=>by
  have h:(QY r).map ((a,b):: ·)=some ps:=h;cases hr:QY r with
  |none=>rw[hr]at h;cases h
  |some q=>
   rw[hr]at h;cases oq9 h;rw[List.map_cons,<-qvo hr]
theorem qvn : ∀(ps : List (Int × Int)), QY (ps.map λp=>D.tup [.int p.1, .int p.2]) = some ps
  | []=>rfl
  | (a, b)::r=>by
    show(QY (r.map λp=>D.tup [.int p.1, .int p.2])).map ((a, b):: ·) = _;rw[qvn r]; rfl
theorem vkf{K:Frag}:Ad1 K (λv H Q=>qvd K [v] H Q) kq4:=by
 intro H x s Q ok hf k;unfold kq4 at hf;cases hx:x.d with
 | lst ds=>
  rw [show(x.o,x.d).2=D.lst ds from hx]at hf;dsimp only at hf;cases hp:QY ds with
  | none=>rw[hp]at hf;cases hf
  | some ps=>
   rw[hp]at hf;dsimp only at hf
   by_cases hl:ps.length<big
   ·rw[X9 hl]at hf;cases oq9 hf;have e:=qvo hp;subst e;obtain⟨a,xs,bs,ev,q1,ra⟩:=items ok (.inl hx);have hq:SqL K H a xs:=by
     rcases q1 with⟨_,z⟩|⟨z,_⟩
     ·exact z.sq
     ·rw[hx]at z;cases z
    refine⟨a,xs,ps,by rw[ev],hq,by rw[<-ra.1.len,X4],λi hi=>?_,hl,λl ln=>k ⟨.rt,KZ _,.ref l,[l]⟩ _ rfl rfl ⟨vw ln,⟨l,_,[],rfl,vw9 _,.inr ⟨(ps.foldl (λkv p=>zJ kv p.1 p.2) []).map λp=>(p.1,V.int p.2),"",by rw[wJ,Xs];rfl,by unfold mkD;rw[List.map_cons,Xs,Xs];rfl,by rw[Xs];rfl⟩,rfl⟩,λb hb=>?_,by simp[Sl.own],λb hb=>?_⟩⟩
    ·obtain⟨v,cs,g1,g2,_⟩:=RepA.get (i:=i) (d:=D.tup [.int ps[i].1,.int ps[i].2]) ra.1 (by rw[Xn,X2 hi];rfl);unfold RepL at g2;obtain⟨T,ys,e1,e2,e3⟩:=g2;refine⟨T,by rw[g1,e1],?_⟩;unfold RepA at e3;obtain⟨y1,r1,_,_,rfl,_,f1,f2⟩:=e3;unfold RepA at f2;obtain⟨y2,r2,_,_,rfl,_,f3,f4⟩:=f2;unfold RepA at f4;obtain⟨rfl,_⟩:=f4;unfold RepL at f1 f3;rw[f1.1,f3.1]at e2;exact e2
    ·have:b=l:=by simpa [Sl.own]using hb
     exact this▸ln
    ·simp[Sl.frz]at hb
   ·rw[Xb hl]at hf;cases hf
 |_=>rw[show(x.o,x.d).2=_ from hx]at hf;cases hf
theorem qxu{X:Cx}(K:Frag)(hK:autoParam (X.K=K) Ŕ)(hc:autoParam (X.calm=true) Ŕ):CallR X (.type "dict") (qvd K):=by subst hK;exact qqa hc
end Q
namespace Q
open PySem PySem.Spec PyProof.Rows L2 L3
theorem wwd{X:Cx}{Z:Fx0}{q:Bool}:QA X Z q [] []:=W1 wW fun O H Q az=>ex8 az λE L r m w hc xc k=>by
 cases oq9 hc;exact k _ _ rfl [] L H rfl m w Step.refl λ_=>⟨λ_ _ z=>z,λ_ z=>(nomatch z)⟩
theorem wj9{X:Cx}{Z:Fx0}{q:Bool}{c:Ex}{o e:Expr}{z:Str}{apos au:Pos}(ho:PE X o (tC (.str z)))(hc:QV X Z q c e)(hK:autoParam (X.K=Z.K) Ŕ)
  (cx:autoParam (attributeBase o "join" X.env (eval o X.env)=eval o X.env) Ŕ)
  (fh:autoParam (((backTo au (starEach [e] X.env)).all (λx=>!x.1)&&(backToKw au (keywordEach [] X.env)).all (λx=>x.1.isSome)
   && decide ([e].length+([]:List Keyword).length+(if([]:List Keyword).isEmpty then 0 else 1)<30))=true) Ŕ)
  (cy:autoParam ((apos.endLine==au.line)=true) Ŕ) (hs:autoParam (starEach [e] X.env=(false,eval e X.env)::starEach [] X.env) Ŕ) (bn:autoParam ((backTo au (starEach [] X.env)).any (·.1)=false) Ŕ):
  QE X Z q (vk8 z c) (.Call (.Attribute o "join" apos) [e] [] au):=
 qk (wjx PySem.F.plainAttrs_str PySem.F.slot_str_join PySem.F.type_str_join vw8 ho (qY hc wW hs) cx fh cy hs bn) fun O H Q az=>ex8 az λE L r m w ig xc k=>by
  refine⟨?_,?_⟩
  ·rfl
  ·refine vk m w (show bnd (c E) _=some r from ig) xc λE1 s h1 x L1 H1 e1 e2 m1 w1 ok fr sr st sm=>?_
   obtain⟨y,hz,rfl⟩:=Jq h1;unfold qxc at hz;cases hx:s.2 with
   | lst ds=>
    rw [hx]at hz;dsimp only at hz;cases hp:J5 ds with
    | none=>rw[hp]at hz;cases hz
    | some ys=>
     rw[hp]at hz;dsimp only at hz
     by_cases hl:(ys.map (·.length)).sum+ys.length*z.length<=100000
     ·rw[X9 hl]at hz;cases oq9 hz;obtain⟨a,xs,bs,ev,q1,ra⟩:=items ok (.inl (by rw[e2];exact hx));have hq:SqL Z.K H1 a xs:=by
       rcases q1 with⟨_,t⟩|⟨t,_⟩
       ·exact t.sq
       ·rw[e2,hx]at t;cases t
      have ex:=(kqg hp ra.1).1;subst ex;have av:(Txt.join z ys).length<=sizeLine:=joinOk_length (joinOk_of ⋯);refine⟨z,a,ys,rfl,by rw[ev],by rw[hK];exact hq,⋯,?_⟩;exact k _ _ rfl ⟨.dp,.str (Txt.join z ys),.str (Txt.join z ys),[]⟩ L1 H1 rfl rfl m1 (w1.consPu (x:=⟨.dp,.str (Txt.join z ys),.str (Txt.join z ys),[]⟩) (show RepL Z.K H1 false (.str _) (.str _) []from Kv av) rfl) (Jz (x:=⟨.dp,.str (Txt.join z ys),.str (Txt.join z ys),[]⟩) st (λb hb=>nomatch hb) rfl) λhq=>⟨sm hq,λ_ t=>(nomatch t)⟩
     ·rw[Xb hl]at hz;cases hz
   |_=>rw[hx]at hz;cases hz
end Q
namespace PySem
section
variable {prog:Program}{w:World}{A:Around}{E:Value->Shared->Prop}{s:Shared}
theorem kww(hh:A.handled=none)(it t:Addr)(bj:t≠it)(items:Array Value):Draws prog w A it [it,t] items.size (λi v=>items[i]?=some v) (λi h=>h.IsTupleIter it t i/\h.IsTuple t items) where
 live:=λ_ _ st=>let ⟨o,ho,_⟩:=st.1;⟨o,ho⟩
 frame:=λ_ _ _ st hk=>by
  obtain⟨⟨o,ho,r⟩,o2,io,r2⟩:=st;exact⟨⟨o,hk it (by simp) o ho,r⟩,o2,hk t (by simp) o2 io,r2⟩
 item:=λi s Q E hi st hQ=>by
  obtain⟨fb,ht⟩:=st;obtain⟨o,ho,hc,hd⟩:=id fb;obtain⟨o2,io,mj,n2,i5⟩:=id ht;have hx:items[i]?=some items[i]:=by simp[hi]
  unfold Builtin.SmallTypes.nextOf;refine X0 (Y7 (name:=Str.ofString "__next__") fb.typeIs F.slot_tuple_iterator_next (Xy F.slot_tuple_iterator_next fb.typeIs F.entry_tuple_iterator_next ?_ (F.args_tuple_iterator_next_1 _)));show wpAny _ _ (field (.ref it) 0 >>= _) _ _ s;refine X0 (Ys ho hd (x:=.ref t) rfl ?_);show wpAny _ _ (if(Value.ref t==Value.none)=true then _ else _) _ _ s;rw[Xb (show ¬((Value.ref t==Value.none)=true)from Bool.false_ne_true)];show wpAny _ _ (field (.ref it) 1 >>= _) _ _ s;refine X0 (Ys ho hd (x:=.int i 0) rfl ?_);show wpAny _ _ (seqItems? (.ref t) >>= _) _ _ s;refine X0 (wpAny_seqItems io i5 ?_);simp only[Xu,hx];refine X0 (Ye ho hd (by simp) (X1 ⟨items[i],rfl,X1 (hQ _ _ s.toks hx ⟨⟨_,Xz _ ho (Yw (Yn hd _)),(Obj.cls_mapFields ..).trans hc,by rw[Yn hd];simp[rawInt]⟩,o2,(Z6 _ _ (Ne.symm bj)).trans io,mj,n2,i5⟩ (Xx ..))⟩))
 done:=λs Q E st hE=>by
  obtain⟨fb,ht⟩:=st;obtain⟨o,ho,hc,hd⟩:=id fb;obtain⟨o2,io,mj,n2,i5⟩:=id ht;have hx:items[items.size]?=none:=by simp
  unfold Builtin.SmallTypes.nextOf;refine X0 (Y7 (name:=Str.ofString "__next__") fb.typeIs F.slot_tuple_iterator_next (Xy F.slot_tuple_iterator_next fb.typeIs F.entry_tuple_iterator_next ?_ (F.args_tuple_iterator_next_1 _)));show wpAny _ _ (field (.ref it) 0 >>= _) _ _ s;refine X0 (Ys ho hd (x:=.ref t) rfl ?_);show wpAny _ _ (if(Value.ref t==Value.none)=true then _ else _) _ _ s;rw[Xb (show ¬((Value.ref t==Value.none)=true)from Bool.false_ne_true)];show wpAny _ _ (field (.ref it) 1 >>= _) _ _ s;refine X0 (Ys ho hd (x:=.int items.size 0) rfl ?_);show wpAny _ _ (seqItems? (.ref t) >>= _) _ _ s;refine X0 (wpAny_seqItems io i5 ?_);simp only[Xu,hx];refine X0 (Z8 (X0 (Ye ho hd (by simp) ?_)));show wpAny _ _ (newExc (.type "StopIteration") [] >>= _) _ _ _;refine X0 ?_;simp only[newExc,newTuple];refine X0 (Xp ?_ (by size_fits));refine X0 (m:=firstArgMember _ _) (wpAny_of_eq (a:=Value.none) (by first|rfl|(simp only[firstArgMember];rfl)) ?_);refine Xp ?_ (by size_fits);simp only[raiseNew];refine X0 (wpAny_handled ?_)
  first|rw[show A.in1.handled=none from hh]|rw[hh]
  refine X0 (X1 (wpAny_throw ?_));exact hE _ _ (((Xx ..).extBut.push _).push _) ⟨_,X6 _ rfl,rfl⟩
theorem vwx(t:Addr)(items:Array Value)(n:Nat)(dct:Option Addr)(sl:Array (Option Value)):
  Meets (Builtin.«enumerate.__new__» ⟨[.type "enumerate",.ref t],[]⟩) (λ_ R s=>s.heap.get? t=some { cls:=.type "tuple",dict:=dct,data:=.seq items n,slots:=sl } /\
   R (.ok (.ret (.ref (s.heap.push { cls:=.type "tuple_iterator",data:=.fields #[.ref t,.int 0 0] }).objs.size)))
    { s with heap:=(s.heap.push { cls:=.type "tuple_iterator",data:=.fields #[.ref t,.int 0 0] }).push { cls:=.type "enumerate",data:=.fields #[.none,.bool false,.ref s.heap.objs.size,rawInt 0,.none,.none] } }):=
 .of_wp λprog w A R s h=>by
  obtain⟨hp,g,d,tk,os⟩:=s;obtain⟨hl,h⟩:=h;have f9:=sub_enumerate;have hL:Heap.IsTuple (Shared.heap ⟨hp,g,d,tk,os⟩) t items:=⟨_,hl,rfl,n,rfl⟩
  wp_walk using AutoSeq1.wpAny_loadPart' hl
  refine wpAny_stack_any λst=>X1 ?_
  split
  ·rename_i c _ _ _ _ _;cases(c==Value.type "enumerate") <;>
   ·wp_walk using AutoSeq1.wpAny_loadPart' hl,wpAny_pyIter_tuple hL
    exact⟨_,rfl,h⟩
  ·wp_walk using AutoSeq1.wpAny_loadPart' hl,wpAny_pyIter_tuple hL
   exact⟨_,rfl,h⟩
theorem vjv{t:Addr}{items:Array Value}{Q:Value->Shared->Prop}(hL:s.heap.IsTuple t items)
  (h:∀h',IsEnum h' (s.heap.objs.size+1) s.heap.objs.size 0 .none->h'.IsTupleIter s.heap.objs.size t 0->h'.objs.size=s.heap.objs.size+2 ->
   (∀b o,s.heap.get? b=some o->h'.get? b=some o)->Q (.ref (s.heap.objs.size+1)) { s with heap:=h' }):
  wpAny (model prog w) A (call (.type "enumerate") [.ref t]) Q E s:=by
 obtain⟨⟨c,dct,dt,sl⟩,hl,hc,n,hd⟩:=hL
 replace hc:c=.type "tuple":=hc
 replace hd:dt=.seq items n:=hd
 subst hc hd;refine callType_new F.called_enumerate ⋯ (F.typeCall_enumerate_1 _) (F.newCall_enumerate_1 _) (λobj=>F.args_object_init_2 obj _) F.entry_enumerate_new (vwx t items n dct sl) ⟨hl,?_⟩;have hz:(s.heap.push { cls:=.type "tuple_iterator",data:=.fields #[.ref t,.int 0 0] }).objs.size=s.heap.objs.size+1:=Zf ..;show _/\_;rw[hz];have he:IsEnum ((s.heap.push { cls:=.type "tuple_iterator",data:=.fields #[.ref t,.int 0 0] }).push { cls:=.type "enumerate",data:=.fields #[.none,.bool false,.ref s.heap.objs.size,rawInt 0,.none,.none] }) (s.heap.objs.size+1) s.heap.objs.size 0 .none:=by
  have:=X6 (s.heap.push { cls:=.type "tuple_iterator",data:=.fields #[.ref t,.int 0 0] }) (o:={ cls:=.type "enumerate",data:=.fields #[.none,.bool false,.ref s.heap.objs.size,rawInt 0,.none,.none] }) rfl;rw[hz]at this;exact this
 exact⟨⟨_,he,rfl⟩,h _ he ⟨_,X3 _ (X6 _ rfl),rfl,rfl⟩ (by rw[Zf,hz]) λb o x=>X3 _ (X3 _ x)⟩
end
end PySem
namespace Q
open PySem PySem.Spec PyProof.Rows L2 L3
def ItT(K:Frag)(l:Addr):It:=⟨λi H=>∃xs x,SqT K H l xs/\xs[i]?=some x,
 λi H v H'=>∃T x,H T=none/\v=.ref T/\H'=upd H T (.tup [.int i,x])/\∀xs,SqT K H l xs->xs[i]?=some x,
 λi H=>∃xs,SqT K H l xs/\xs.length=i⟩
theorem qza{P:Program}{w:PySem.World}{K:Frag}{fj:List Expr}{k1:Nat}{pos:Pos}{e it l:Addr}(n1:e≠it)(n2:l≠e)(n3:l≠it):
  Turn P w K (.Tuple fj k1 pos) (ItT K l) [e,it] e (λi h=>(∃dz,IsEnum h e it (i:Int) dz)/\h.IsTupleIter it l i) where
 mem:=by simp
 obj:=λi h st b hb=>by
  obtain⟨⟨dz,h1⟩,o4,e4,c4,d4⟩:=st;simp only[Y1,Xm,or_false]at hb;rcases hb with rfl|rfl
  ·exact⟨_,h1,λv z=>by cases z⟩
  ·exact⟨_,e4,λv z=>by rw[d4]at z;cases z⟩
 keep:=λi h h' st k=>by
  obtain⟨⟨dz,h1⟩,o4,e4,c4,d4⟩:=st;exact⟨⟨dz,k _ (by simp) _ h1⟩,o4,k _ (by simp) _ e4,c4,d4⟩
 item:=by
  intro X hP hw hK hc i pins s O H E I hf st hg;subst hP hw hK;obtain⟨xs,x,q1,hx⟩:=hg;obtain⟨ie,rv1,p1,oz⟩:=I.tuple q1;obtain⟨u1,hu1,ru1⟩:=rv1.get hx;obtain⟨⟨dz,t1⟩,t2⟩:=st;have hi:i<ie.toArray.size:=by rw[X5];exact(List.getElem?_eq_some_iff.mp hu1).1
  refine wpAny_pyNext_enum_itemD (kww (A:=X.A.in1) (by have:=I.ok.hd hc;simpa using this) it l n3 ie.toArray) t1 ⟨t2,p1⟩ hi n1 (by simp only[Y1,Xm,or_false,not_or];exact⟨n1,n2.symm⟩) λu2 h1 tk hP2 g1 g2 gT gs gk=>?_
  have e2:u2=u1:=by
   have:ie[i]?=some u2:=by simpa using hP2
   rw[hu1]at this;exact(oq9 this).symm
  subst e2;refine⟨_,rfl,wpAny_letOwnedTupleGo_enum (s:={ s with heap:=h1,toks:=tk+1 }) g1 λh2 f1 sb=>?_⟩;have fT:wK X pins H s.heap.objs.size:=I.fpOk (X8 _) (I.hok.fresh (X8 _));have nT:∀b∈[e,it],b≠s.heap.objs.size:=λb hb ee=>by
   obtain⟨o,eo,_⟩:∃o,s.heap.get? b=some o/\True:=by
    simp only[Y1,Xm,or_false]at hb;obtain⟨o4,e4,_⟩:=t2;rcases hb with rfl|rfl
    ·exact⟨_,t1,trivial⟩
    ·exact⟨_,e4,trivial⟩
   exact absurd (Xa eo) (by rw[ee];exact Yp _)
  have kk:∀b o,b∉[e,it]->s.heap.get? b=some o->h2.get? b=some o:=λb o hb ee=>by
   simp only[Y1,Xm,or_false,not_or]at hb;exact(sb.2 b hb.1).trans (gk b o hb.1 hb.2 ee)
  have I1:L2.Inv X pins O H { s with heap:=h2,toks:=tk+1 }:=kjp [e,it] I kk hf;have nz:s.heap.objs.size≠e:=λee=>nT e (by simp) ee.symm
  have I2:=kwi (a:=s.heap.objs.size) (o:=.tup [.int (i:Int),x]) I1 fT.1 fT.2.1 fT.2.2.2.1 fT.2.2.2.2.1 fT.2.2.2.2.2
   (show ObjOk X.prog X.w _ h2 _ (.tup [.int (i:Int),x])from⟨by show(2:Nat)<=sizeLine;decide,[.int i tk,u2],.cons ⟨_,rfl⟩ (.cons ru1 .nil),⟨_,(sb.2 _ nz).trans gT,rfl,rfl,0,rfl⟩⟩)
  refine⟨.ref s.heap.objs.size,_,I2,rfl,⟨_,x,fT.1,rfl,rfl,λzs hzs=>by rw[I.tuple_inj hzs q1];exact hx⟩,?_,λb hb=>by rw[kz (nT b hb)];exact(hf b hb).1⟩;obtain⟨o4,e4,c4,d4⟩:=g2.1;exact⟨⟨u2,f1⟩,o4,(sb.2 _ n1.symm).trans e4,c4,d4⟩
 done:=by
  intro X hP hw hK hc i pins s O H E I hf st hg;subst hP hw hK;obtain⟨xs,q1,hx⟩:=hg;obtain⟨ie,rv1,p1,oz⟩:=I.tuple q1;obtain⟨⟨dz,t1⟩,t2⟩:=st;have gr:=rv1.length;have hsz:ie.toArray.size=i:=by rw[X5,<-gr];exact hx
  refine wpAny_pyNext_enum_endD (kww (A:=X.A.in1) (by have:=I.ok.hd hc;simpa using this) it l n3 ie.toArray) t1 (by rw[hsz];exact⟨t2,p1⟩) λh' kk=>⟨rfl,?_⟩
  refine kjp (t':=s.toks) [it] I (λb o hb ee=>kk b o (by simpa using hb) ee) λb hb=>hf b (by
   simp only[Y1,Xm,or_false]at hb ⊢;exact .inr hb)
 self:=λ_ _ _ _ _ st h=>by obtain⟨⟨dz,h1⟩,_⟩:=st;exact wpAny_pyIter_enum h1 h
abbrev iEnT(K:Frag)(ta:TA):TI:=fun O H R=>ta O H λvs H1=>∃l,vs=[.ref l]/\(∃xs,SqT K H1 l xs/\(xs.length<=sizeLine->R (ItT K l) H1))
section
variable {X:Cx}{Z:Fx0}{K:Frag}{pn:List Nat}{q:Bool}{c:Ex}{e:Expr}{O:L2.St}{H:Hp}{L:Ls}{E:En}{pos p i8:Pos}{fj:List Expr}{k1:Nat}
theorem wjr(K:Frag){ta:TA}(hg:Gl X "enumerate")(hm:X.mg "enumerate"=none)(ha:PA X [e] ta)(hK:autoParam (X.K=K) Ŕ)
  (hs:autoParam (starEach [e] X.env=[(false,eval e X.env)]) Ŕ):PI X (.Tuple fj k1 i8) (.Call (.Name "enumerate" p) [e] [] pos) (iEnT K ta):=by
 subst hK;intro pins s O H R I h;refine Call_ (Q7 I hg hm kx4 (Yh (thn (ha pos pins s O H _ I h) λus s1 ⟨vs,H1,I1,r1,q1⟩=>?_) (by rw[hs];rfl) rfl));obtain⟨l,rfl,xs,q1,q⟩:=q1;obtain⟨u1,rfl,e1⟩:=zW r1;cases e1;obtain⟨ie,rv1,p1,oz⟩:=I1.tuple q1;have lt:l<s1.heap.objs.size:=by obtain⟨_,ee,_⟩:=p1;exact Xa ee
 refine vjv p1 λh' g1 g2 gs gk=>?_
 refine wpAny_pyIter_enum g1 ⟨_,[_,s1.heap.objs.size],_,_,H1,rfl,I1.kept (t':=s1.toks) gk,
  qza (e:=s1.heap.objs.size+1) (it:=s1.heap.objs.size) (l:=l) (Nat.succ_ne_self _) (Xg (Nat.lt_succ_of_lt lt)) (Xg lt),⟨⟨_,g1⟩,g2⟩,λb hb=>?_,q oz⟩
 have fq:s1.heap.objs.size<=b:=by
  simp only[Y1,Xm,or_false]at hb;rcases hb with rfl|rfl<;>omega
 exact I1.fpOk fq (I1.hok.fresh fq)
theorem qqp{x:Sl}{es:List D}{l:Addr}{H1:Hp}(hx:x.d=.tup es)(ev:x.v=.ref l):∀H2:Hp,x.let.ok K H2->∃ys cs,SqT K H2 l ys/\RepA K H2 true es ys cs/\∀b∈cs,b∈x.as:=λH2 hok=>by
 obtain⟨a',ys,cs,n6,q4,r4,h4,_⟩:=items hok (.inr hx);have:a'=l:=by have:=n6.symm.trans ev;exact V.ref.inj this
 subst this;rcases q4 with⟨z,_⟩|⟨_,z⟩
 ·rw[show x.let.d=D.tup es from hx]at z;cases z
 ·exact⟨ys,cs,z,r4,h4⟩
theorem vv9(h:QE X Z q c e)(hg:Gl X "enumerate")(hm:X.mg "enumerate"=none)(hK:autoParam (X.K=Z.K) Ŕ)(hs:autoParam (starEach [e] X.env=[(false,eval e X.env)]) Ŕ):QI X Z q (.Tuple fj k1 i8) (vjl c) (.Call (.Name "enumerate" p) [e] [] pos):=λpins s O H R I az=>ex8 az λE L r m w hc xc k=>by
 refine(wjr Z.K hg hm (qY h wW hs) hK hs) pins s O H R I ?_;refine WK m w (show bnd (c E) _=some r from hc) xc λE1 s h1 x L1 H1 e1 e2 m1 w1 st sm=>?_
 obtain⟨ds,hd,rfl⟩:=Jq h1;have ok:=w1.head;have wT:World Z.K H1 (L1++[x.let].map some):=by
  refine World.comm (L:=[some x.let]) ?_;exact w1.tail.consNo (V1 ok) rfl λb hb=>w1.apart b hb
 have sT:Step H L H1 (L1++[x.let].map some):=by
  refine⟨st.keep,λb hb=>?_,λb hb=>?_⟩
  ·have:b∈j8 L1:=by simpa [VJ]using hb
   exact st.own b (by rw[kJ];exact lr9 _ this)
  ·have:b∈jZ L1\/b∈x.as:=by simpa [VJ]using hb
   rcases this with z|z
   ·exact st.frz b (by rw[vY];exact lr9 _ z)
   ·exact kqi st b z
 cases hx:x.d with
 | tup es=>
  rw[<-e2,hx]at hd;have jl:zq 0 es=ds:=oq9 hd;subst jl;obtain⟨a,xs,bs,ev,q3,r3,h3,_⟩:=items ok (.inr hx);have q3:SqT Z.K H1 a xs:=by rcases q3 with⟨z,_⟩|⟨_,z⟩;rw[hx]at z;cases z;exact z
  have again:=qqp (K:=Z.K) (H1:=H1) hx ev;refine⟨a,by rw[ev],xs,q3,λav=>k _ _ rfl (ItT Z.K a) [x.let] L1 H1 m1 wT sT (by rw[jxf,r3.len];exact av) (λhq=>(sm hq).1) ⟨λt ht=>by rw[aC ht];rfl,λi H2 hok hi=>?_,λH2 hok=>?_,λi H2 v H3 d hok hy gu=>?_⟩⟩
  ·obtain⟨ys,cs,s1,s2,_⟩:=again H2 (hok _ (aB rfl));have hl:=s2.len;rw[jxf]at hi;exact⟨ys,ys[i]'⋯,s1,X2 ⋯⟩
  ·obtain⟨ys,cs,s1,s2,_⟩:=again H2 (hok _ (aB rfl));exact⟨ys,s1,by rw[jxf,s2.len]⟩
  ·obtain⟨ys,cs,s1,s2,s3⟩:=again H2 (hok _ (aB rfl));obtain⟨T,x',hT,rfl,rfl,hy⟩:=hy;rw[kwu]at gu;cases hes:es[i]? with
   |none=>rw[hes]at gu;cases gu
   |some d0=>
    rw[hes]at gu;cases oq9 gu;obtain⟨v',ic,f1,f2,f3⟩:=s2.get hes;have:v'=x':=by have:=hy ys s1;rw[f1]at this;exact oq9 this
    subst this;have rp:=qzp (v1:=.int ((0+i:Nat):Int)) hT vX f2;rw[show((0+i:Nat):Int)=(i:Int)from by omega]at rp ⊢;exact⟨⟨.no,_,.ref T,[]++ic⟩,rfl,rfl,rfl,vw hT,rp,λb hb=>⟨x.let,aB rfl,s3 b (f3 b (by simpa using hb))⟩⟩
 |_=>rw[<-e2,hx]at hd;cases hd
end
end Q
namespace Q
open PySem PySem.Spec PyProof.Rows L2 L3
theorem kw1:∀{ds:List D} {i:Nat} {d:D},D.pures ds=true->ds[i]?=some d->d.pure=true
 |[],_,_,_,h=>by simp at h
 |a::ds,0,d,h,e=>by
  have e:a=d:=by simpa using e
  subst e;unfold D.pures at h;rw[Bool.and_eq_true]at h;exact h.1
 |a::ds,i+1,d,h,e=>by
  unfold D.pures at h;rw[Bool.and_eq_true]at h;exact kw1 h.2 (by simpa using e)
theorem ww6{X:Cx}{Z:Fx0}{tg e:Expr}{i:Nat}(h:PE X e (JX i))(hK:autoParam (X.K=Z.K) Ŕ):QIS X Z true tg (itV i) e:=λpins s O H R I az=>ex8 az λE L r m w hc xc k=>by
 refine(hK▸vkv h) pins s O H R I ?_;unfold itV at hc;cases hE:E[i]? with
 | none=>rw[hE]at hc;cases hc
 | some s0=>
  cases s0 with
  | none=>rw[hE]at hc;cases hc
  | some s0=>
   obtain⟨oo,dd⟩:=s0;rw [hE]at hc;cases dd with
   | lst ds=>
    dsimp only at hc
    by_cases hp:D.pures ds=true
    ·rw[X9 hp]at hc;cases oq9 hc;obtain⟨x,a1,a2,a3,a4⟩:=m.get hE;have ll:=w.ok x (ww a1);obtain⟨a,xs,bs,ev,q3,r3,h3,_⟩:=items ll (.inl a3);have q3:LsR Z.K H a xs:=by rcases q3 with⟨_,z⟩|⟨z,_⟩;exact z;rw[a3]at z;cases z
     have again:∀H2:Hp,k4 H H2->∃g ys cs,SqL Z.K H2 a ys/\RepA Z.K H2 g ds ys cs:=λH2 hs=>by
      obtain⟨a',ys,cs,n6,q4,r4,h4,_⟩:=items (RepO.kp ll (Kp.of_same hs):x.ok Z.K H2) (.inl a3);have:a'=a:=by have:=n6.symm.trans ev;exact V.ref.inj this
      subst this;rcases q4 with⟨_,z⟩|⟨z,_⟩
      ·exact⟨_,ys,cs,z.sq,r4⟩
      ·rw[a3]at z;cases z
     refine⟨x.v,a4,.inl ⟨a,xs,ev,q3.sq,λav=>k _ _ rfl (Itl Z.K a) [] L H m (by rw[List.map_nil,Xw];exact w) (by rw[List.map_nil,Xw];exact Step.refl) (by rw[r3.len];exact av) (λ_=>xQ) ⟨λt ht=>(nomatch ht),λj H2 _ hs hj=>?_,λH2 _ hs=>?_,λj H2 v H3 d _ hs hy gu=>?_⟩⟩⟩
     ·obtain⟨g,ys,cs,s1,s2⟩:=again H2 (hs rfl);have hl:=s2.len;exact⟨ys,ys[j]'⋯,s1,X2 ⋯⟩
     ·obtain⟨g,ys,cs,s1,s2⟩:=again H2 (hs rfl);exact⟨ys,s1,by rw[s2.len];exact X8 _⟩
     ·obtain⟨g,ys,cs,s1,s2⟩:=again H2 (hs rfl);obtain⟨e3,hy⟩:=hy;subst e3;obtain⟨v',ic,f1,f2,f3⟩:=s2.get gu;have:v'=v:=by have:=hy ys s1;rw[f1]at this;exact oq9 this
      subst this;exact⟨⟨.no,d,v',[]⟩,rfl,rfl,rfl,xQ,(RepL.pu (g':=true) f2 (kw1 hp gu)).2,λb hb=>(nomatch hb)⟩
    ·rw[Xb hp]at hc;cases hc
   |_=>cases hc
end Q
namespace L3
open PySem PySem.Spec PyProof.Rows L2
def wvy(K:Frag):List V->Hp->VK->Prop:=λxs H Q=>∃(x:Addr) (o:Obj) (C:Addr) (b:Bool) (tp:Addr) (us:List Addr),ExAt K x o C/\H x=some (exO o)/\xs=[.ref x,.ref tp]/\SqT K H tp (us.map V.ref)/\PySem.W.kitAny K (.ref C) (us.map Value.ref)=some b/\Q (.bl b) H
theorem kvi:∀{us:List Addr} {ai:List Value},Vals (us.map V.ref) ai->ai=us.map Value.ref
 |[],_,.nil=>rfl
 |u::us,_,.cons h r=>by
  cases(show _=Value.ref u from h);rw[kvi r];rfl
theorem vk4{X:Cx}:CallR X (.builtin "isinstance") (wvy X.K):=by
 intro pins s O H xs us Q I r h;obtain⟨x,o,C,b,tp,cs,a,e,rfl,ht,hk,q⟩:=h;have px:s.heap.get? x=some o:=(show ObjOk X.prog X.w H s.heap x (exO o)from I.hok x _ e).1;have b5:∃o,PySem.W.InstAt s.heap x o C none:=⟨o,px,a.cls,a.no,by rw[a.di];trivial⟩;obtain⟨u1,u2,rfl,e1,e2⟩:=vqs r;cases e1;cases e2;obtain⟨ai,rv,⟨ot,h1,h2,n,h3⟩,_⟩:=I.tuple ht;have hi:=kvi rv;subst hi;obtain⟨oc,od,oda,lx⟩:=ot;cases h2;cases h3;exact PySem.W.kia_tup (kv6 a.xc) I.kIn b5 h1 hk (λz=>nomatch z) λtk=>⟨.bl b,H,I.tok _,rfl,q⟩
end L3
namespace Q
open PySem PySem.Spec PyProof.Rows L2 L3
def kxd(K:Frag)(us:List Addr)(t:List (Str×Bool)):Prop:=∀c b,t.lookup c=some b->∃C,nsIn K mainGlobals c=some (some (.ref C))/\PySem.W.kitAny K (.ref C) (us.map Value.ref)=some b
theorem vwk{K:Frag}{us:List Addr}:kxd K us []:=λ_ _ z=>nomatch z
theorem qjm{K:Frag}{us:List Addr}{c:Str}{b:Bool}{C:Addr}{t:List (Str×Bool)}(h:nsIn K mainGlobals c=some (some (.ref C)))(k:PySem.W.kitAny K (.ref C) (us.map Value.ref)=some b)(r:kxd K us t):kxd K us ((c,b)::t):=λc' b' z=>by
 rw[Yy]at z
 split at z
 ·rename_i e;cases eq_of_beq e;cases z;exact⟨C,h,k⟩
 ·exact r c' b' z
theorem qwl{K:Frag}{C:Value}:PySem.W.kitAny K C (([]:List Addr).map Value.ref)=some false:=rfl
theorem z4{K:Frag}{C:Value}{u:Addr}{us:List Addr}{b:Bool}(h:kitOne K C (.ref u)=some false)(r:PySem.W.kitAny K C (us.map Value.ref)=some b):PySem.W.kitAny K C ((u::us).map Value.ref)=some b:=by
 rw[List.map_cons];unfold PySem.W.kitAny;rw[h];exact r
def vzy(K:Frag)(us:List Addr):V->Hp->VK->Prop:=λv H Q=>(us.map V.ref).length<=sizeLine/\∀p,H p=none->wvy K [v,.ref p] (upd H p (.tup (us.map V.ref))) Q
theorem wqu{K:Frag}{us:List Addr}{t:List (Str×Bool)}(hl:us.length<=1000)(ht:kxd K us t):Ad1 K (vzy K us) (pu1 (vj t)):=by
 intro H x s Q ok hf k;have ok:=RepO.wk ok;unfold pu1 at hf;obtain⟨o,d,v,as⟩:=x;cases d with
 | obj c fs=>
  unfold vj at hf;cases ln:t.lookup c with
  |none=>simp only[ln]at hf;cases hf
  |some b=>
   simp only[ln]at hf;cases oq9 hf;dsimp only at ok;unfold RepL at ok;obtain⟨e0,x,ob,C,rfl,h1,h2,h3⟩:=ok;obtain⟨C',h4,h5⟩:=ht c b ln;rw[h3]at h4;cases oq9 (oq9 h4);refine⟨by rw[X4];exact Y2 hl ⋯,λp hp=>⟨x,ob,C,b,p,us,h2,?_,rfl,SqT.of wJ,h5,k ⟨.dp,.bl b,.bl b,[]⟩ _ rfl rfl (jx4 (vw hp) qj1)⟩⟩;exact vw hp _ _ h1
 |_=>cases hf
def tCs:List Addr->TA
 |[]=>wv4|u::us=>qze (tC (.ref u)) (tCs us)
theorem vz2{us:List Addr}{O:L2.St}{H:Hp}:∀{Q:List V->Hp->Prop},Q (us.map V.ref) H->tCs us O H Q:=by
 induction us with|nil=>intro Q h;exact h|cons u us ih=>intro Q h;exact ih (Q:=λxs H2=>Q (V.ref u::xs) H2) h
section
variable {X:Cx}{Z:Fx0}{pn:List Nat}{q:Bool}{a:Ex}{ea:Expr}{es:List Expr}{pos p p2:Pos}{t:List (Str×Bool)}{us:List Addr}{k1:Nat}
theorem ww7(ha:QV X Z q a ea)(hm:X.mg "isinstance"=none)(hu:PA X es (tCs us))(hK:X.K=Z.K)(ht:kxd X.K us t)(hl:us.length<=1000:=by simp)(hg:autoParam (Gl X "isinstance") Ŕ)
  (he:autoParam (starEach [ea,.Tuple es k1 p2] X.env=(false,eval ea X.env)::starEach [.Tuple es k1 p2] X.env) Ŕ) (he2:autoParam (starEach [.Tuple es k1 p2] X.env=(false,eval (.Tuple es k1 p2) X.env)::starEach [] X.env) Ŕ) (bu:autoParam ((backTo pos (starEach [.Tuple es k1 p2] X.env)).any (·.1)=false) Ŕ):
  QE X Z q (cF1 (pu1 (vj t)) a) (.Call (.Name "isinstance" p) [ea,.Tuple es k1 p2] [] pos):=by
 rw[hK]at ht;have hc:CallR X (.builtin "isinstance") (wvy Z.K):=hK▸vk4;refine qk (kqr hc hg hm jxh (qY ha (qY (vkx hu) wW he2) he) ⋯ ⋯ he bu) fun O H Q h=>?_
 have h2:tUn (vzy Z.K us) (tV Z q a) O H Q:=XZ (wqu hl ht) h;obtain⟨E,L,R,m,w,iq,xc,kk⟩:=h2;exact⟨E,L,R,m,w,iq,xc,λE' s' z x L' H' e1 e2 m' w' ok fr sr st sm=>vz2 (kk E' s' z x L' H' e1 e2 m' w' ok fr sr st sm)⟩
end
end Q
namespace PySem
section
variable {prog:Program}{w:World}{K:Type}[DecidableEq K]{knd:HeapKind prog w K}{A:Around}{E:Value->Shared->Prop}{s:Shared}
theorem jqv{d a:Addr}{xs:List (K×Addr×Value)}{k:K}{v:Value}{Q:Value->Shared->Prop}(hu:knd.room A)(eh:knd.is s.heap k a)(hm:s.heap.DictOfH knd d xs)
  (h1:∀p,atKey xs k=some p->Q p.2 { s with toks:=s.toks+knd.draws k })
  (h2:atKey xs k=none->∀h',h'.DictOfH knd d (storedH xs k a v)->Heap.SameBut d s.heap h'->Q v { s with heap:=h',toks:=s.toks+knd.draws k })
  (hsz:xs.length<=sizeLine:=by size_fits):
  wpAny (model prog w) A (dictSetDefault d (.ref a) v) Q E s:=by
 obtain⟨o,es,ep,ho,hc,hd,he,his,hn⟩:=hm;unfold dictSetDefault
 try with_reducible refine Y0 ?_
 refine X0 (knd.pyHash hu eh ?_);refine X0 (wpAny_dictFind_heap (s:={ s with toks:=s.toks+knd.draws k }) hu eh ho hd he his hn ?_ ?_)
 ·intro fm;have hnot:k∉xs.map (·.1):=not_mem_keys_of_get fm;refine X0 (Z8 (X0 (wpAny_updateDictKeys (hz:=by have e:=size_of_entries he;omega) (s:={ s with toks:=s.toks+knd.draws k }) ho hd (X1 (h2 (atKey_none_of_get fm) _ ⟨_,_,ep+1,Xz _ ho (Obj.isFreed_of_dict (Obj.data_mapDictKeys hd _)),
   hc.mapDictKeys _,Obj.data_mapDictKeys hd _,?_,?_,?_⟩ (Xx ..))))))
  ·rw[storedH_new (atKey_none_of_get fm)];simp[he,entryOfKey]
  ·rw[storedH_new (atKey_none_of_get fm)];intro x hx;rcases aA hx with hx|hx
   ·exact knd.keeps (his x hx) ho hd (Xx ..)
   ·simp only[List.mem_singleton]at hx;subst hx;exact knd.keeps eh ho hd (Xx ..)
  ·rw[storedH_new (atKey_none_of_get fm)];rw[Xq,Xd];refine⟨hn,by simp,?_⟩;intro x hx y hy;simp only[List.map_cons,List.map_nil,List.mem_singleton]at hy;subst hy;exact λe=>hnot (e▸hx)
 ·intro j p hj;refine X0 (wpAny_dictEntries (s:={ s with toks:=s.toks+knd.draws k }) ho hd ?_);rw[entry_at he j,hj];exact X0 (Z8 (X1 (h1 _ (atKey_of_get hn hj))))
theorem jvr(knd:HeapKind prog w K)(d a:Addr)(hd:(d==sysModules)=false)(jc:Value):
  MeetsIn prog w (Builtin.«dict.setdefault» ⟨[.ref d,.ref a,jc],[]⟩) (λA R s=>knd.room A.in1/\∃k xs,knd.is s.heap k a/\s.heap.DictOfH knd d xs/\xs.length<=sizeLine /\
   (∀p,atKey xs k=some p->R (.ok (.ret p.2)) { s with toks:=s.toks+knd.draws k }) /\
   (atKey xs k=none->∀h',h'.DictOfH knd d (storedH xs k a jc)->Heap.SameBut d s.heap h'->R (.ok (.ret jc)) { s with heap:=h',toks:=s.toks+knd.draws k })):=
 .of_wp λA R s ⟨hu,k,xs,eh,hm,hz,h1,h2⟩=>by
  unfold Builtin.«dict.setdefault»;refine X0 ?_;unfold Builtin.Dict.keyAndDefault;refine X0 (wpAny_notOrdered_dict hm.typeIs ?_);show wpAny _ _ (pure (d,Value.ref a,some jc)) _ _ s;refine X1 ?_;show wpAny _ _ (if(d==sysModules)=true then _ else(dictSetDefault d (.ref a) jc >>= _)) _ _ s;rw[Xb (by rw[hd];exact Bool.false_ne_true)];exact X0 (jqv (hsz:=hz) hu eh hm (λp hp=>X1 ⟨p.2,rfl,h1 p hp⟩) λhn h' hm' gw=>X1 ⟨jc,rfl,h2 hn h' hm' gw⟩)
end
end PySem
namespace Q
open PySem PySem.Spec PyProof.Rows L2 L3
section
variable {X:Cx}{Z:Fx0}{pn:List Nat}{q:Bool}{c:Ex}{e ep:Expr}{i:Nat}{p:List Nat}{pos:Pos}
theorem vzq{K:Frag}{H:Hp}{x:Sl}(ok:x.ok K H)(h:x.d.pure=true):RepL K H false x.d x.v []:=(RepL.pu (g':=false) (RepO.wk ok) h).2
end
end Q
namespace PySem
section
variable {prog:Program}{w:World}{A:Around}{E:Value->Shared->Prop}{s:Shared}
def qz6(h:Heap)(d:Addr)(n:Nat):Prop:=∃o es ep,h.get? d=some o/\o.cls=.type "dict"/\o.data=.dict es ep/\es.size=n
theorem kjl(d:Addr)(hd:(d==sysModules)=false):
  MeetsIn prog w (Builtin.«dict.__len__» ⟨[.ref d],[]⟩) (λ_ R s=>∃n,qz6 s.heap d n/\R (.ok (.ret (.int n s.toks))) { s with toks:=s.toks+1 }):=
 .of_wp λA R s ⟨n,⟨o,es,ep,ho,hc,fy,hz⟩,h⟩=>by
  show wpAny _ _ (dictSize d >>= _) _ _ s;unfold dictSize;refine X0 (X0 (wpAny_dictEntries ho fy (X1 ?_)));show wpAny _ _ (Builtin.Dict.pendingCount d >>= _) _ _ s;refine X0 (wpAny_pendingCount_other hd ?_);refine wpAny_ret_mkInt ?_;rw[Nat.add_zero,hz];exact h
theorem kkl{d:Addr}{n:Nat}{Q:Value->Shared->Prop}(hd:(d==sysModules)=false)(hm:qz6 s.heap d n)(lq:(n:Int)<2 ^ 63)
  (h:Q (.int n (s.toks+1)) { s with toks:=s.toks+1+1 }):wpAny (model prog w) A (Builtin.«len» ⟨[.ref d],[]⟩) (λfin s'=>∃r,fin=.done (.ret r)/\Q r s') E s:=by
 have ht:s.TypeIs (.ref d) "dict":=by obtain⟨o,es,ep,ho,hc,_⟩:=hm;exact⟨o,ho,hc⟩
 unfold Builtin.«len»;refine X0 (m:=oneArg "len" _) (X1 ?_);refine X0 (m:=callSpecial? (.ref d) (Str.ofString "__len__")) (Y7 (name:=Str.ofString "__len__") ht F.slot_dict_len
  (call_meetsIn F.slot_dict_len ht F.entry_dict_len (F.args_dict_len_1 _) (kjl d hd) ⟨n,hm,?_⟩))
 show wpAny _ _ _ _ _ { s with toks:=s.toks+1 };refine X0 (Y0 (X1 ?_));refine X0 (wpAny_letGo ?_);show wpAny _ _ (if((n:Nat):Int)<0 then _ else _) _ _ _;rw[Xb ⋯];show wpAny _ _ (if((n:Nat):Int)>=2 ^ 63 then _ else _) _ _ _;rw[Xb ⋯];exact X0 (wpAny_mkInt (X1 ⟨_,rfl,h⟩))
theorem kkn{d:Addr}{n:Nat}{Q:Value->Shared->Prop}(hd:(d==sysModules)=false)(hm:qz6 s.heap d n)(lq:(n:Int)<2 ^ 63)
  (h:Q (.int n (s.toks+1)) { s with toks:=s.toks+1+1 }):wpAny (model prog w) A (call (.builtin "len") [.ref d]) Q E s:=
 Calls.call_function_entry kind_len plain_len entry_len (args_len1 _) (kkl hd hm lq h)
end
end PySem
namespace Q
open PySem PySem.Spec PyProof.Rows L2 L3
def vzx(K:Frag):List V->Hp->VK->Prop:=λxs H Q=>∃a ks vs,xs=[.ref a]/\DcN K H a ks vs/\Q (.int ks.length) H
theorem kk3{X:Cx}(K:Frag):CallR X (.builtin "len") (vzx K):=by
 intro pins s O H xs us Q I r ⟨a,ks,vs,e,⟨es,ep,hH,hs,hl,_,hk,_⟩,q⟩;subst e;cases r with
 | cons r1 r2=>
  cases r2;cases r1;obtain⟨ob,fu,g1,g2,g3,g4⟩:=vx2 I hH;have av:ks.length=fu.size:=by
   have:=congrArg List.length g4;rw[X4,Xi]at this;rw[hk,X4];exact this.symm
  have hz:es.length=ks.length:=by rw[hk,X4]
  exact kkn (n:=ks.length) hs ⟨ob,fu,ep,g1,g2.1,g3,av.symm⟩ (by rw[sizeLine_eq]at hl;omega) ⟨.int ks.length,H,I.tok _,⟨_,rfl⟩,q⟩
theorem kzj{K:Frag}:Ad1 K (λv H Q=>vzx K [v] H Q) (pu1 Qk):=by
 intro H x s Q ok hf k;have hf:(Qk x.d).map (λd=>(Own.dp,d))=some s:=hf;cases hd:x.d with
 | dct kvs=>
  rw[hd]at hf;unfold Qk at hf;dsimp only at hf
  by_cases hu:unm kvs=true
  ·rw[X9 hu]at hf;cases oq9 hf;obtain⟨a,xs,e,dn⟩:=vqf ok hd hu;refine⟨a,kvs.map (·.1),xs,by rw[e],dn,?_⟩;rw[X4];exact k ⟨.dp,.int kvs.length,.int kvs.length,[]⟩ H rfl rfl (jx4 (λ_ _ h=>h) vX)
  ·rw[Xb hu]at hf;cases hf
 |_=>rw[hd]at hf;cases hf
section
variable {X:Cx}{pins:List (Addr×Obj)}{O:L2.St}{H:Hp}{s:Shared}{a b:Addr}{es:List Ent}{A:Around}{E:Value->Shared->Prop}{k:Kd}{r:Value}
theorem vjz{ep:Nat}{Q:Value->Shared->Prop}(hu:A.units+64<cLine)(I:Inv X pins O H s)(e:H a=some (qx a es ep))(hs:(a==sysModules)=false)(h2:es.length<=sizeLine)(h3:(es.map (·.1)).Nodup)(h5:∀x∈es,PuR X.K H x.1.1 (.ref x.2.1))(hk:PuR X.K H k.1 (.ref b))
  (h1:∀p,atKey es k=some p->∀s',Inv X pins O H s'->Q p.2 s') (h4:atKey es k=none->∀ep' s',Inv X pins O (upd H a (qx a (storedH es k b r) ep')) s'->Q r s'):
  wpAny (model X.prog X.w) A (call (.builtin "dict.setdefault") [.ref a,.ref b,r]) Q E s:=by
 have dd:=vqd I e h3 h5;refine call_meetsIn PySem.F.slot_dict_setdefault dd.typeIs PySem.F.entry_dict_setdefault (PySem.F.args_dict_setdefault_3 _ _ _) (jvr (kzs X.prog X.w) a b hs r) ⟨?_,k,es,jzt I hk rfl,dd,h2,λp hp=>h1 p hp _ (I.tok _),λhn h' dd' nw=>?_⟩
 ·exact vv3 hu
 ·obtain⟨q,ds,ep',hq,g2,g3,g4,_,_⟩:=dd';exact h4 hn ep' _ (qxh I (by rw[e];exact True.intro) nw ⟨q,hq⟩ ⟨⟨q,ds,hq,g2,g3,g4⟩,⟨q,hq⟩,λh1 h2 ⟨o,ds,a1,a2⟩ k=>⟨o,ds,k o a1,a2⟩⟩)
end
abbrev qzd(K:Frag)(td ty tx:TE):TE:=fun O H Q=>td O H λx H1=>∃a,x=.ref a/\(∃es ep,H1 a=some (qx a es ep))/\ty O H1 λy H2=>tx O H2 λz H3=>∃b k es ep,y=.ref b/\H3 a=some (qx a es ep)/\(a==sysModules)=false/\es.length<=sizeLine/\(es.map (·.1)).Nodup/\(∀x∈es,PuR K H3 x.1.1 (.ref x.2.1))/\PuR K H3 k.1 (.ref b) /\
 (∀p,atKey es k=some p->∃v,RelV v p.2/\Q v H3)/\(atKey es k=none->∀r ep',RelV z r->Q z (upd H3 a (qx a (storedH es k b r) ep')))
section
variable {X:Cx}{o e f:Expr}{apos au:Pos}{td ty tx:TE}
theorem qkp(hu:X.A.units+64<cLine)(ho:PE X o td)(he:PE X e ty)(hf:PE X f tx)(m:M2 X o "setdefault" apos e f au):PE X (.Call (.Attribute o "setdefault" apos) [e,f] [] au) (qzd X.K td ty tx):=by
 intro pins s O H Q I h;refine wpAny_Call_method m.base m.few m.line PySem.F.plainAttrs_dict PySem.F.slot_dict_setdefault PySem.F.type_dict_setdefault (thn (ho pins s O H _ I h) λu s1 ⟨x,H1,I1,rx,a,ex,⟨es0,ep0,d⟩,q1⟩=>?_);subst ex;obtain rfl:u=Value.ref a:=rx;obtain⟨ob,fu,g1,g2,g3,g4⟩:=vx2 I1 d;refine⟨⟨ob,g1,g2.1⟩,λb z=>by cases z;exact⟨ob,g1,g2.2.1⟩,?_⟩;rw[m.trees];refine Calls.callWith_builtin rfl (Calls.evalArgs_plain (Calls.spliced_cons (thn (he pins s1 O H1 _ I1 q1) λiv s2 ⟨y,H2,I2,ry,q2⟩=>
  Calls.spliced_cons (thn (hf pins s2 O H2 _ I2 q2) λfv s3 ⟨z,H3,I3,rz,b,k,es,ep,ey,ea,hs,hl,hn,h5,hk,q4,q5⟩=>Calls.spliced_nil ?_))))
 subst ey;obtain rfl:iv=Value.ref b:=ry;exact vjz hu I3 ea hs hl hn h5 hk (λp hp s4 I4=>by obtain⟨v,rv,q3⟩:=q4 p hp;exact⟨v,H3,I4,rv,q3⟩) λbj ep' s4 I4=>⟨z,_,I4,rz,q5 bj fv ep' rz⟩
end
theorem qx1 {K : Frag} {H : Hp} {k : Kd}: ∀{kvs : List (D × D)} {xs : List V} {bs : List Addr} {es : List Ent}, RepP K H true kvs xs bs -> kvs.map (·.1) = es.map (·.1.1) -> Vals xs (es.map (·.2.2)) -> D.pures (kvs.map (·.2)) = true ->
    (∀ p, atKey es k = some p -> ∃d v, xq kvs k.1 = some d /\ RelV v p.2 /\ RepL K H false d v [] /\ d.pure = true) /\ (atKey es k = none -> xq kvs k.1 = none)
  | [], _, _, [], _, _, _, _=>⟨λp h=>(by cases h), λ_=>rfl⟩| [], _, _, _::_, _, h, _, _=>by cases h| _ :: _, _, _, [], _, h, _, _=>by cases h
  | (q, d)::kvs, xs, bs, e::es, hr, hk, hv, hp=>by
    unfold RepP at hr;obtain⟨x, r, b1, c1, rfl, _, h1, h2⟩:= hr;rw [List.map_cons, List.map_cons]at hk;injection hk with k1 k2;rw [List.map_cons]at hv hp;cases hv with
    | cons v1 v2=>
      unfold D.pures at hp;rw [Bool.and_eq_true]at hp;have ih:= qx1 (k:= k) h2 k2 v2 hp.2;have k1 : q = e.1.1:= k1
      by_cases he : e.1 = k
      · have hq : q = k.1:= by rw[k1, he]
        have hg : xq ((q, d)::kvs) k.1 = some d:= by unfold xq; rw[List.find?_cons_of_pos (by simp[hq])]; rfl
        have ha : atKey (e::es) k = some e.2:= by
          obtain⟨ek, ev⟩:= e;have he : ek = k:= he;simp[atKey, he]
        refine⟨λp hp'=> ?_, λhn=> ?_⟩
        · rw[ha]at hp'
          cases oq9 hp';exact⟨d, x, hg, v1, (RepL.pu (g':= false) h1 hp.1).2, hp.1⟩
        · rw[ha]at hn; cases hn
      · have hq : q≠k.1:= λz=>he (Subtype.ext (by rw[<-k1]; exact z))
        have hg : xq ((q, d)::kvs) k.1 = xq kvs k.1:= by unfold xq; rw[List.find?_cons_of_neg (by simp[hq])]
        have ha : atKey (e::es) k = atKey es k:= by
          obtain⟨ek, ev⟩:= e;have he : ¬ek = k:= he;simp[atKey, he]
        rw[hg, ha];exact ih
section
variable {X:Cx}{Z:Fx0}{pn:List Nat}{q qa:Bool}{kc vc a b:Ex}{o ke ve ea eb:Expr}{pos bz apos au:Pos}
theorem wj5{i:Nat}(hu:X.A.units+64<cLine)(ho:PE X o (JX i))(hk:QV X Z true kc ke)(hv:QV X Z true vc ve)(hK:autoParam (X.K=Z.K) Ŕ)(hm:M2 X o "setdefault" apos ke ve au:=by exact⟨rfl,rfl,rfl,rfl⟩):QE X Z false (qxv i kc vc) (.Call (.Attribute o "setdefault" apos) [ke,ve] [] au):=
 qk (hK▸qkp hu ho hk hv hm) fun O H Q az=>ex8 az λE L r m w hc xc k=>by
  unfold qxv at hc
  by_cases hD:wvb E[i]?=true
  rotate_left
  ·rw[Xb hD]at hc;cases hc
  rw[X9 hD]at hc;obtain⟨kvs0,h0,hu0⟩:∃kvs,E[i]?=some (some (.rt,.dct kvs))/\unm kvs=true:=by
   unfold wvb at hD
   split at hD
   ·rename_i kvs h;exact⟨kvs,h,hD⟩
   ·cases hD
  obtain⟨x0,a1,a2,a3,a4⟩:=m.get h0;obtain⟨l0,xs0,el0,⟨es0,ep0,hH0,_⟩⟩:=vqf (w.ok x0 (ww a1)) a3 hu0;refine⟨x0.v,a4,l0,el0,⟨es0,ep0,hH0⟩,?_⟩;refine vk m w hc xc λE2 s2 h2 y L2 H2 e3 e4 m2 w2 gz sk si bo dj=>?_
  refine vk m2 w2 h2 (xc.step bo) λE3 s3 h3 t L3 H3 e5 e6 m3 w3 ok3 oi sr3 de sm3=>?_
  split at h3
  rotate_left
  ·cases h3
  rename_i kvs hE
  split at h3
  rotate_left
  ·cases h3
  rename_i hcond;obtain⟨eh,av,hunm,hpv,hps⟩:=hcond;obtain⟨z,b1,b2,b3,b4⟩:=m3.get hE;have hzv:z.v=x0.v:=by rw[a4]at b4;exact(oq9 (oq9 b4)).symm
  have okz:RepR Z.K H3 (.dct kvs) z.v z.as:=by
   have:=w3.ok z (ww b1);unfold Sl.ok at this;rw[b2,b3]at this;exact this
  obtain⟨l,xs,bs,c1,c2,c3,c4⟩:=okz;have hll:l=l0:=by
   have:V.ref l=V.ref l0:=by rw[<-c1,hzv,el0]
   injection this
  subst hll;obtain⟨es,ep,d1,d2,d3,d4,d5,d6,d7⟩:=DcA.un c3 hunm;have ok2':y.ok Z.K H3:=RepO.kp gz (Kp.of_same (sm3 rfl));obtain⟨b,eb,pb⟩:=kkz ok2' (by rw[e4];exact eh);have lc:jX 6 y.d=true:=by
   have:Jk y.d=true:=by rw[e4];exact eh
   unfold Jk at this;rw[Bool.and_eq_true]at this;exact this.1
  have ht:=vzq ok3 (by rw[e6];exact hpv);obtain⟨g1,g2⟩:=qx1 (k:=⟨y.d,lc⟩) c2 d5 d7 hps;have hyk:(⟨y.d,lc⟩:Kd).1=s2.2:=e4;have fq:es.length<sizeLine:=by
   have:=congrArg List.length d5;rw[X4,X4]at this;rw[<-this];exact av
  refine⟨b,⟨y.d,lc⟩,es,ep,eb,d1,d2,d3,d4,d6,pb,λp hp=>?_,λhn rr ep' og=>?_⟩
  ·obtain⟨d,v',q1,q2,q3,q4⟩:=g1 p hp;rw[hyk]at q1;rw[q1]at h3;cases oq9 h3;exact⟨v',q2,k _ _ rfl ⟨.dp,d,v',[]⟩ L3 H3 rfl rfl m3 (w3.consPu q3 rfl) (Jz (x:=⟨.dp,d,v',[]⟩) (bo.trans de) (λb hb=>nomatch hb) rfl) λz=>nomatch z⟩
  ·have q1:=g2 hn;rw[hyk]at q1;rw[q1]at h3;cases oq9 h3;have hmem:=vqk es (⟨y.d,lc⟩:Kd);rw[hn]at hmem;have hnm:y.d∉es.map (·.1.1):=of_decide_eq_false hmem.symm;rw[storedH_new hn];have rt:RepL Z.K H3 true s3.2 t.v []:=by rw[<-e6];exact(RepL.pu (g':=true) (RepO.wk ok3) (by rw[e6];exact hpv)).2
   have rp:=kvt (q:=s2.2) rt c2;rw[Xw]at rp;obtain⟨w4,ip⟩:=qvj (ep':=ep') (T:=[]) (i:=i) (y:=z) (es':=es++[(⟨y.d,lc⟩,b,rr)]) (xs':=xs++[t.v]) (cs:=bs) (kvs':=kvs++[(s2.2,s3.2)]) (by simpa using w3) b1 d1 b2 c4 c1 rp (λa h=>.inl h) d2 (by rw[Xj,Yk];omega) (by
    rw[Xq,Xd];refine⟨d4,List.nodup_cons.mpr ⟨Xm,Y6⟩,λp hp' q hq e=>?_⟩;have:q=⟨y.d,lc⟩:=aC hq;subst this e;obtain⟨n,p6,ou⟩:=aE hp';exact hnm (List.mem_map.mpr ⟨n,p6,by rw[ou]⟩)) (by rw[Xq,Xq,d5,<-e4];rfl) (λn jo=>by
    rcases aA jo with z|z
    ·exact d6 n z
    ·rw[aC z];exact pb) (by rw[Xq];exact kvh d7 og)
   have ht2:RepL Z.K (upd H3 l (qx l (es++[(⟨y.d,lc⟩,b,rr)]) ep')) false s3.2 t.v []:=by
    rw[<-e6];refine ht.kp ⟨λa zs e=>?_,λa o u e=>?_,λa ha=>nomatch ha⟩
    ·rw[kz (λz=>by subst z;rw[d1]at e;cases e)];exact e
    ·rw[kz (λz=>by subst z;rw[d1]at e;cases e)];exact e
   have mm:=m3.set (x:=⟨.rt,.dct (kvs++[(s2.2,s3.2)]),z.v,l::bs⟩) i;rw[Ww b4]at mm;exact k _ _ rfl ⟨.dp,s3.2,t.v,[]⟩ _ _ rfl rfl mm (w4.consPu ht2 rfl) (Jz (x:=⟨.dp,s3.2,t.v,[]⟩) ((bo.trans de).trans (by simpa using ip)) (λb hb=>nomatch hb) rfl) λz=>nomatch z
end
end Q
namespace Q
open PySem PySem.Spec PyProof.Rows L2 L3
noncomputable def spM(K:Frag)(mg:Str->Option Value)(n:Nat)(f:Fn):Sp:=λvs H Q E=>∃(xs:List Sl) (y:Sl) (r:Res Sd),vs=xs.map Sl.v++[y.v]/\xs.length=n/\World K H ((xs++[y]).map some)/\f ((xs++[y]).map Sl.sd)=some r /\
 (∀E' c,r=.exc E' c->∀C H',mg c=some (.ref C)->Step H ((xs++[y]).map some) H' []->E (.ref C) none H') /\
 ∀E' a,r=.ok E' a->∃sd,E'[n]?=some (some sd)/\∀(x y':Sl) H',x.o=a.1->x.d=a.2->y'.o=sd.1->y'.d=sd.2->y'.v=y.v->World K H' [some x,some y']->Step H ((xs++[y]).map some) H' [some x,some y']->Q x.v H'
theorem qqv{K:Frag}{mg:Str->Option Value}{n:Nat}{f:Fn}{ps:List Str}(hn:ps.length=n+1):∀vs H Q E,spM K mg n f vs H Q E->vs.length=ps.length:=λvs H Q E ⟨xs,y,r,e,hl,_⟩=>by rw[e,Xj,X4,hl,hn];rfl
theorem kqf{L:Ls}{x y:Sl}{i:Nat}(h:L[i]?=some (some y)):(sls [some x,some y]).Sublist (sls (some x::L)):=by
 have:y∈sls L:=mem_sls.mpr (ww h);show(x::[y]).Sublist (x::sls L);exact(List.singleton_sublist.mpr this).cons₂ x
theorem qx6{X:Cx}{K:Frag}{mg:Str->Option Value}{N:List Str}{n nn:Nat}{B:Sm}{body:List Stmt}{H:Hp}{vs:List V}{Q:VK}{E:XK}(hN:N.length=nn)(t:QSs X ⟨K,mg,E⟩ [n] B body)(h:spM K mg n (fn nn B) vs H Q E):
  ∃t,PSs X body t/\t { nx:=λ_ H'=>Q .non H',rt:=Q } (L2.start N vs) H:=by
 refine⟨_,t,?_⟩;obtain⟨xs,y,r,rfl,hl,w,hf,hx,hk⟩:=h;unfold fn at hf;rw[X4,Xs]at hf;have m:=jzx (xs++[y]) (nn - (xs++[y]).length);have e1:L2.start N (xs.map Sl.v++[y.v])=(xs++[y]).map (λx=>some x.v)++List.replicate (nn - (xs++[y]).length) none:=by
  unfold L2.start;rw[show xs.map Sl.v++[y.v]=(xs++[y]).map Sl.v by simp,Xs,X4,hN];rfl
 have hy0:(L2.start N (xs.map Sl.v++[y.v]))[n]?=some (some y.v):=by
  rw[e1,Yu (by simp[hl])];simp[hl]
 have wL:World K H ((xs++[y]).map some++List.replicate (nn - (xs++[y]).length) none):=w.same (by simp);have sL:Step H ((xs++[y]).map some) H ((xs++[y]).map some++List.replicate (nn - (xs++[y]).length) none):=Step.refl.same (List.Perm.refl _) (by simp);have fin:∀{E1:En} {σ':L2.St} {L':Ls} {sd:Sd},E1[n]?=some (some sd)->Pn [n] (L2.start N (xs.map Sl.v++[y.v])) σ'->Mt E1 σ' L'->∃y':Sl,L'[n]?=some (some y')/\y'.o=sd.1/\y'.d=sd.2/\y'.v=y.v:=λhE p m'=>by
  obtain⟨y',a1,a2,a3,a4⟩:=m'.get hE;refine⟨y',a1,a2,a3,?_⟩;have:=p n (aB rfl);rw[a4,hy0]at this;exact oq9 (oq9 this)
 cases hB:B ((xs++[y]).map (λx=>some x.sd)++List.replicate (nn - (xs++[y]).length) none)with
 | none=>rw[show(some∘Sl.sd)=(λx:Sl=>some x.sd)from rfl,hB]at hf;cases hf
 | some g=>
  rw[show(some∘Sl.sd)=(λx:Sl=>some x.sd)from rfl,hB]at hf;refine⟨_,_,g,e1▸m,wL,hB,?_⟩;cases g with
  |nx E1=>
   cases oq9 hf;intro σ' L' H' p m' w' s';obtain⟨sd,hE,hk⟩:=hk _ _ rfl;obtain⟨y',b1,b2,b3,b4⟩:=fin hE p m';have wx:World K H' (some (⟨.dp,.non,.non,[]⟩:Sl)::L'):=w'.consPu (show RepL K H' false .non .non []from kxm) rfl;have sx:Step H ((xs++[y]).map some) H' (some (⟨.dp,.non,.non,[]⟩:Sl)::L'):=Jz (x:=⟨.dp,.non,.non,[]⟩) (sL.trans s') (λb hb=>(nomatch hb)) rfl;exact hk ⟨.dp,.non,.non,[]⟩ y' H' rfl rfl b2 b3 b4 (wx.sub (kqf b1)) (sx.sub (kqf b1))
  |rt E1 a=>
   cases oq9 hf;intro x σ' L' H' e2 e3 p m' w' s';obtain⟨sd,hE,hk⟩:=hk _ _ rfl;obtain⟨y',b1,b2,b3,b4⟩:=fin hE p m';exact hk x y' H' e2 e3 b2 b3 b4 (w'.sub (kqf b1)) ((sL.trans s').sub (kqf b1))
  |xc E1 c=>
   cases oq9 hf;intro C σ' L' H' hm _ m' w' s';exact hx _ _ rfl C H' hm ((sL.trans s').sub (by simp))
  |ct E1=>cases hf|bk E1=>cases hf
noncomputable def tAM(Z:Fx0)(q:Bool)(cs:List Ex)(i:Nat):TA:=fun O H Q=>∃E L r,Mt E O L/\World Z.K H L/\qJ cs E=some r/\Xc Z O H L r /\
 ∀E' ys,r=.ok E' ys->∀(xs:List Sl) L' H',xs.map Sl.sd=ys->Mt E' O L'->World Z.K H' (xs.map some++L')->Step H L H' (xs.map some++L')->(q=true->k4 H H'/\∀b∈j8 (xs.map some),H b=none)->∃v,O[i]?=some (some v)/\Q (xs.map Sl.v++[v]) H'
section
variable {X:Cx}{Z:Fx0}{q:Bool}{c:Ex}{cs:List Ex}{e:Expr}{es:List Expr}{pos p:Pos}{x:Str}{ps:List Str}{k n i:Nat}{f:Fn}
theorem wz2(h:PE X e (JX i))(cb:autoParam (starEach [e] X.env=(false,eval e X.env)::starEach [] X.env) Ŕ):PA X [e] (tAM Z q [] i):=W1 (qY h wW cb) fun O H Q az=>ex8 az λE L r m w hc xc k=>by
 cases oq9 hc;obtain⟨v,hv,q⟩:=k _ _ rfl [] L H rfl m w Step.refl λ_=>⟨λ_ _ z=>z,λ_ z=>(nomatch z)⟩
 exact⟨v,hv,q⟩
theorem wj7(h:QE X Z q c e)(hs:PA X es (tAM Z q cs i))(cb:autoParam (starEach (e::es) X.env=(false,eval e X.env)::starEach es X.env) Ŕ):PA X (e::es) (tAM Z q (c::cs) i):=
 W1 (qY h hs cb) fun O H Q az=>ex8 az λE L r m w hc xc k=>by
  refine WK m w (show bnd (c E) _=some r from hc) xc λE1 s h1 x L1 H1 e1 e2 m1 w1 st sm=>?_
  have s1:Step H L H1 L1:=st.trans Step.drop;rcases xw h1 with⟨E2,ys,h2,h3⟩|⟨E2,cc,h2,h3⟩
  ·cases oq9 h3;refine⟨E1,L1,_,m1,w1.tail,h2,(λ_ _ z=>by cases z),λE' p9 z xs L2 H2 e3 m2 w2 bo dj=>?_⟩;injection z with z1 z2;subst z1 z2;obtain⟨w3,de⟩:=wq2 (T:=[some x]) w1 bo w2;refine k _ _ rfl (x::xs) L2 H2 (by rw[List.map_cons,e3];simp[Sl.sd,e1,e2]) m2 w3 (st.trans de) λhq=>?_
   obtain⟨a1,a2⟩:=sm hq;obtain⟨b1,b2⟩:=dj hq;refine⟨qw a1 b1,λb hb=>?_⟩;rw[List.map_cons,kJ]at hb;rcases aA hb with z|z
   ·exact a2 b z
   ·exact z9 a1 (b2 b z)
  ·exact⟨E1,L1,_,m1,w1.tail,h2,(xc.step s1).map h3,λE' s' z=>by cases z⟩
theorem qzi{L:Ls}{y:Sl}(h:L[i]?=some (some y)):(sls L).Perm (y::sls (L.set i none)):=by
 have:=(jx2 h).filterMap id;exact this
theorem qvi(D:kZ X.prog X.w X.K X.mg X.base k x ps (spM Z.K Z.mg n f))(hr:Room k X.A)(g:xk X Z.EX)(ha:PA X (e::es) (tAM Z q cs i))(hn:autoParam (cs.length=n) Ŕ)(hg:autoParam (Gl X x) Ŕ)(df:autoParam ((x==("__debug__":Str))=false) ŕ)
  (he:autoParam (starEach (e::es) X.env=(false,eval e X.env)::starEach es X.env) Ŕ) (bu:autoParam ((backTo pos (starEach es X.env)).any (·.1)=false) Ŕ):
  QE X Z false (Zq f i cs) (.Call (.Name x p) (e::es) [] pos):=qk (qvu D hr g ha hg df he bu) fun O H Q az=>ex8 az λE L r m w hc xc kk=>by
 rcases xw (show bnd (qJ cs E) _=some r from hc)with⟨E1,ys,h1,h2⟩|⟨E1,cc,h1,h2⟩
 rotate_left
 ·exact⟨E,L,_,m,w,h1,xc.map h2,λE' s' z=>by cases z⟩
 refine⟨E,L,_,m,w,h1,(λ_ _ z=>by cases z),λE' p9 z xs L1 H1 e1 m1 w1 st sm=>?_⟩;injection z with z1 z2;subst z1 z2;have av:xs.length=n:=by rw[<-hn,<-ZW h1,<-e1,X4]
 have hyl:ys.length=n:=by rw[<-hn];exact ZW h1
 split at h2
 rotate_left
 ·cases h2
 rename_i x0 hE;obtain⟨o0,d0⟩:=x0;obtain⟨y,a1,a2,a3,a4⟩:=m1.get hE;refine⟨y.v,a4,?_⟩;dsimp only;rw [Xw];obtain⟨wl,sl⟩:=jxp w1;have pm:(sls ((xs.map Sl.let).map some++L1)).Perm (sls ((xs.map Sl.let++[y]).map some++L1.set i none)):=by
  have e2:∀A B:Ls,sls (A++B)=sls A++sls B:=λA B=>List.filterMap_append ..
  rw[Xq,Y3,e2,e2];exact List.Perm.append_left _ (qzi a1)
 have wl2:=wl.same pm;have lj:Step H L H1 ((xs.map Sl.let++[y]).map some++L1.set i none):=(st.trans sl).trans (Step.refl.same (List.Perm.refl _) pm);cases hf:f (letAll ys++[(o0,d0)])with
 | none=>rw[hf]at h2;cases h2
 | some fr=>
  rw[hf]at h2;refine⟨xs.map Sl.let,y,fr,by rw[Xs];rfl,by rw[X4];exact av,wl2.left,?_,λE' c ee C H' hm s'=>?_,λE' a ee=>?_⟩
  ·rw[Xq,kv3,e1];show f (letAll ys++[(y.o,y.d)])=some fr;rw[a2,a3];exact hf
  ·subst ee;cases oq9 h2;obtain⟨w2,s2⟩:=stay wl2 s' ⟨λ_ z=>(nomatch z),Y6,λ_ z=>(nomatch z)⟩;exact xc _ _ rfl C _ H' hm (qw6 i m1) w2 (lj.trans s2)
  ·subst ee;dsimp only at h2
   split at h2
   rotate_left
   ·cases h2
   rename_i x' hE';cases oq9 h2;rw[hyl]at hE';refine⟨x',hE',λx y' H' e2 e3 e4 e5 e6 w' s'=>?_⟩;obtain⟨w2,s2⟩:=stay wl2 s' w';have mi:([some x,some y']++L1.set i none).Perm (some y'::(some x::L1.set i none)):=List.Perm.swap ..;have w3:=(w2.perm mi).set (i:=i+1);rw[List.set_cons_succ,List.set_set]at w3;have s3:Step H L H' (some x::L1.set i (some y')):=by
    have:=(lj.trans (s2.perm (List.Perm.refl _) mi)).trans (Step.set (i:=i+1));rw[List.set_cons_succ,List.set_set]at this;exact this
   have mm:=Zj (i:=i) (x:=y') (s:=x') m1 e4 e5;rw[e6,Ww a4]at mm;exact kk _ _ rfl x _ H' e2 e3 mm w3 s3 λz=>nomatch z
end
end Q
namespace Q
open PySem PySem.Spec PyProof.Rows L2 L3
theorem qwk{P:Program}{w:PySem.World}{K:Frag}{mg mb:Str->Option Value}{CX:CXT}{k:Nat}{fa a:Addr}{fd:FuncData}{x:Str}{sp:Sp}{s₁:Shared}{vs:List Value}{ns:List Int}
  (KX:K.In s₁.heap) (hns:s₁.heap.Ns mainGlobals mg) (hb:s₁.heap.Ns builtinsNs mb) (hbb:∀x:Str,x≠"__name__"->mb x=bootBuiltins x) (hlim:s₁.heap.NoLimit) (hg:s₁.gens=#[])
  (ha:s₁.heap.get? a=some { cls:=.type "list",data:=.seq vs.toArray }) (hi:IntsAre vs ns) (hl:ns.length<=sizeLine) (hr:Room k callerA)
  (F:∀base:Heap,K.In base->base.Ns mainGlobals mg->FnOk P w K mg base CX k fa fd [x] sp) (pj:∀(s:Shared) (u:Value),BindsTo s fd ⟨[u],[]⟩ [(x,u)])
  (ji:∀H:Hp,wxh H->LsR K H a (ns.map V.int)->sp [.ref a] H (λv _=>v=.bl true) λ_ _ _=>False)
  (hCX:∀H e s',CX [] H s₁ (λ_ _ _=>False) e s'->False):
  codeAny (model P w) callerA (.call (.ref fa) ⟨[.ref a],[]⟩) (λr s'=>r=.ok (.ret (.bool true))/\OldK s₁.heap s'.heap/\s'.os=s₁.os/\AllBare s'.gens) s₁:=by
 have rv:=qqn hi;have lenV:=hi.length;have rj:∀H:Hp,wxh H->LsR K H a (ns.map V.int)->HOk P w H s₁.heap->(∀b,H b≠none->b=a)->(H a≠none->K.lookup a=none) ->
   codeAny (model P w) callerA (.call (.ref fa) ⟨[.ref a],[]⟩) (λr s'=>r=.ok (.ret (.bool true))/\OldK s₁.heap s'.heap/\s'.os=s₁.os/\AllBare s'.gens) s₁:=by
  intro H hO hS hok hA hK;have il:∀{b:Addr} {o:Obj},s₁.heap.get? b=some o->H b=none->(Q6 s₁.heap H).get? b=some o:=λe n=>vjn e n
  have rg:∀{b:Addr} {o:Obj} {es:Array DictEntry} {ep:Nat},s₁.heap.get? b=some o->o.data=.dict es ep->H b=none:=fun {b o es ep} e d=>by
   cases q:H b with
   | none=>rfl
   | some u=>
    have e':b=a:=hA b (by rw[q];simp);subst e';rw[ha]at e;cases e;have d':Data.seq vs.toArray _=Data.dict es ep:=d;cases d'
  have nsK:∀{b:Addr} {m:Str->Option Value},s₁.heap.Ns b m->(Q6 s₁.heap H).Ns b m:=fun {b m} ⟨o,es,ep,e,d,r⟩=>⟨o,es,ep,il e (rg e d),d,r⟩
  have hKb:K.In (Q6 s₁.heap H):=λb o e=>il (KX b o e) (by
   cases q:H b with
   | none=>rfl
   | some u=>
    have e':b=a:=hA b (by rw[q];simp);subst e';rw[hK (by rw[q];simp)]at e;cases e)
  have hM:Mod K mg (Q6 s₁.heap H):=⟨hKb,nsK hns,⟨mb,nsK hb,hbb⟩,let ⟨mc,h1,h2⟩:=hlim;⟨mc,nsK h1,h2⟩⟩;have e0:Env0 P w K mg (Q6 s₁.heap H) callerA [] s₁ H:=⟨rfl,hM,λb o e=>vw6 e,Nat.le_of_eq (qwy _ _),trivial,λb hb=>absurd (show b∈([]:List Addr)from hb) (by simp),hok,.of_eq hg⟩;refine codeAny_mono ((F _ hKb (nsK hns)).run callerA [] s₁ H ⟨[.ref a],[]⟩ [.ref a] [.ref a] _ _ hr e0 (pj s₁ (.ref a)) (.cons rfl .nil) (ji H hO hS)) λr s' h=>?_
  cases r with
  | error e=>exact(hCX H e s' h).elim
  | ok fl=>
   cases fl with
   | next=>exact False.elim h| brk=>exact False.elim h| cont=>exact False.elim h
   | ret u=>
    obtain⟨v,H',os,bare,un,hok',r',q⟩:=h;have q':v=.bl true:=q;subst q';obtain rfl:u=Value.bool true:=r';refine⟨rfl,OldK.of_keep λb o e=>?_,os,bare⟩;cases q:H b with
    | none=>exact un.keep b o e q (by intro z;exact absurd (show b∈([]:List Addr)from z) (by simp)) (by simp)
    | some u=>
     rcases hO b with z|⟨ob,xs,z⟩
     ·rw[q]at z;cases z
     ·have z2:=un.frzs b ob _ z;obtain⟨e1,_⟩:=hok b _ z;obtain⟨e2,_⟩:=hok' b _ z2;rw[e]at e1;cases e1;exact e2
 cases hk:K.lookup a with
 | some o=>
  have e:=KX a o hk;rw[ha]at e;cases e;refine rj (λ_=>none) (λ_=>.inl rfl) (.inr ⟨vs.toArray,_,hk,by rw[X5,lenV];exact hl,by simpa using rv⟩) (λb u z=>by have z':(none:Option HO)=some u:=z;cases z') (λb z=>absurd rfl z) λz=>absurd rfl z
 | none=>
  refine rj (λb=>if b=a then some (.frz { cls:=.type "list",data:=.seq vs.toArray } (.lst (ns.map V.int)))else none) (λb=>?_) (.inl (.inr ⟨{ cls:=.type "list",data:=.seq vs.toArray },X9 rfl⟩)) (λb u z=>?_) (λb z=>?_) λ_=>hk
  ·by_cases hb:b=a
   ·exact .inr ⟨_,_,X9 hb⟩
   ·exact .inl (Xb hb)
  ·by_cases hb:b=a
   ·have z':=(X9 hb).symm.trans z;cases z';subst hb;exact⟨ha,by rw[X4];exact hl,vs,_,rv,ha⟩
   ·have z':=(Xb hb).symm.trans z;cases z'
  ·by_cases hb:b=a
   ·exact hb
   ·exact absurd (Xb hb) z
@[elab_as_elim] theorem wzb {P:List Value->Prop}(us:List Value)(e:us.length=1)(h:∀a,P [a]):P us:=by
 cases us with|nil=>cases e|cons a us=>cases List.eq_nil_of_length_eq_zero (Nat.succ.inj e);exact h a
@[elab_as_elim] theorem wza {P:List Value->Prop}(us:List Value)(e:us.length=2)(h:∀a b,P [a,b]):P us:=by
 cases us with|nil=>cases e|cons a us=>exact wzb (P:=λl=>P (a::l)) us (Nat.succ.inj e) λb=>h a b
@[elab_as_elim] theorem wz9 {P:List Value->Prop}(us:List Value)(e:us.length=3)(h:∀a b c,P [a,b,c]):P us:=by
 cases us with|nil=>cases e|cons a us=>exact wza (P:=λl=>P (a::l)) us (Nat.succ.inj e) λb c=>h a b c
@[elab_as_elim] theorem wz8 {P:List Value->Prop}(us:List Value)(e:us.length=4)(h:∀a b c d,P [a,b,c,d]):P us:=by
 cases us with|nil=>cases e|cons a us=>exact wz9 (P:=λl=>P (a::l)) us (Nat.succ.inj e) λb c d=>h a b c d
@[elab_as_elim] theorem wz7 {P:List Value->Prop}(us:List Value)(e:us.length=5)(h:∀a b c d f,P [a,b,c,d,f]):P us:=by
 cases us with|nil=>cases e|cons a us=>exact wz8 (P:=λl=>P (a::l)) us (Nat.succ.inj e) λb c d f=>h a b c d f
@[elab_as_elim] theorem len6 {P:List Value->Prop}(us:List Value)(e:us.length=6)(h:∀a b c d f g,P [a,b,c,d,f,g]):P us:=by
 cases us with|nil=>cases e|cons a us=>exact wz7 (P:=λl=>P (a::l)) us (Nat.succ.inj e) λb c d f g=>h a b c d f g
theorem jxs{K:Frag}{H:Hp}{g:Bool}:∀(ns:List Int),RepA K H g (ns.map D.int) (ns.map V.int) []
 |[]=>by unfold RepA;exact⟨rfl,rfl⟩
 |n::ns=>by
  rw[List.map_cons,List.map_cons];unfold RepA;exact⟨_,_,[],[],rfl,rfl,vX,jxs ns⟩
theorem wkl{K:Frag}{mg:Str->Option Value}{f:Fn}{H:Hp}{a:Addr}{ns:List Int}(h:∃E o,f [(.no,.lst (ns.map D.int))]=some (.ok E (o,.bl true)))(hs:LsR K H a (ns.map V.int))(hO:wxh H):
  spF K mg 1 f [.ref a] H (λv _=>v=.bl true) λ_ _ _=>False:=by
 obtain⟨E,o,h⟩:=h;have key:∃as,RepL K H true (.lst (ns.map D.int)) (.ref a) as/\(∀b∈as,False):=by
  rcases hs with(hs|⟨ob,hs⟩)|hs
  ·rcases hO a with z|⟨_,_,z⟩<;>(rw[hs]at z;cases z)
  ·refine⟨[],?_,λb hb=>nomatch hb⟩;unfold RepL;exact⟨a,ns.map V.int,[],rfl,jxs ns,.inr ⟨rfl,.inl ⟨ob,hs⟩,rfl⟩⟩
  ·refine⟨[],?_,λb hb=>nomatch hb⟩;unfold RepL;exact⟨a,ns.map V.int,[],rfl,jxs ns,.inr ⟨rfl,.inr hs,rfl⟩⟩
 obtain⟨as,r,hn⟩:=key;refine⟨[⟨.no,.lst (ns.map D.int),.ref a,as⟩],_,rfl,rfl,?_,h,(λE' c z=>by cases z),λE' s z x H' e1 e2 w' st=>?_⟩
 ·exact⟨λx hx=>by rw[oq9 (aC hx)];exact r,by simp[Sl.own],λb hb=>by simp[Sl.own]at hb⟩
 ·injection z with z1 z2;subst z2;exact WX w'.head e2
section
open PySem.W PySem.Calls
theorem walkQ{l:OpenLaw}{n k:Nat}{q:Program}{qK:List Str}{XP:(Str->Option Value)->Heap->Prop}{YP:PySem.World->Heap->Prop}{d:DefRec}{K:Params->Frag}{f:Fn}{x:Str}
  (hn:l.most=some n) (ou:n<=sizeLine) (hdf:d.params.defaults=[]) (hr:Room k callerA)
  (hY:∀(w:PySem.World) (h:Heap),YP w h->(K w.params).In h)
  (F:∀(w:PySem.World) (mg:Str->Option Value) (fa:Addr) (h:Heap),(K w.params).In h->h.Ns mainGlobals mg->mg d.name=some (.ref fa) ->
   ∃fd:FuncData,(∀(s:Shared) (u:Value),BindsTo s fd ⟨[u],[]⟩ [(x,u)])/\∀base:Heap,(K w.params).In base->base.Ns mainGlobals mg->FnOk l.prog w (K w.params) mg base (CXE l.prog w) k fa fd [x] (spF (K w.params) mg 1 f))
  (ji:∀(ns:List Int),ns.length<=n->(∀i∈ns,Builtin.Int.intBits i<=1048576)->∃E o,f [(.no,.lst (ns.map D.int))]=some (.ok E (o,.bl true))):
  WalkO q qK XP YP l.row.toRowW d [] (λf vs=>PySem.call f vs):=by
 intro w s0 s1 mg mb G Y fa o pm cd gh dV kV ho hd i9 hD hmg hg args cq as ly hlay hrd hwl hlo;obtain rfl:dV=.none:=Dflts.none hD hdf;obtain rfl:kV=.none:=Dflts.noKw hD;obtain⟨a,vs,ns,rfl,rfl,hobj,pc,av⟩:=Att.script_of hn ly hwl;have ql:=kzh hlay;have KX:=hY w _ Y;obtain⟨fd,hb,hF⟩:=F w mg fa _ KX G.T.g hmg;refine enter_call (codeAny_mono (qwk KX G.T.g G.T.b G.T.builtins G.T.nolimit hg hobj pc (Y2 av ou) hr hF hb (λH hO hS=>wkl (ji ns av ql) hS hO) (λ_ _ _ ⟨_,_,_,_,_,_,_,_,_,_,_,_,_,_,_,z⟩=>z)) λr s' hq=>?_);obtain⟨rfl,h2,h3,h4⟩:=hq;exact⟨.inl ⟨.bool true,.bool true,[],rfl,λ_=>rfl,.bool true,Att.post_true l _,λ_=>⟨List.Pairwise.nil,λ_ hm=>(nomatch hm)⟩⟩,h2,h3,h4⟩
end
end Q
namespace Q
open PySem PySem.Spec PyProof.Rows L2 L3
section
variable {P:Program}{w:PySem.World}{K:Frag}{mg:Str->Option Value}{base h:Heap}{x:Str}{st:Stmt}{ps:List Str}{k:Nat}{sp:Sp}
noncomputable def Gf(K:Frag)(x:Str)(st:Stmt):Prop:=∃(f:Addr) (oc:Value) (od:Option Addr) (kV dc pm:Value) (an:Option Addr) (cd ct:Value) (sl:Array (Option Value)),nsIn K mainGlobals x=some (some (.ref f))/\K.lookup f=some ⟨oc,od,.func (PySem.W.fnOf x x (QK st) (Q0 st) (kW st) .none kV dc pm an cd ct),sl⟩/\PySem.W.codeIn K cd x=true/\PySem.W.keepIn K (.ref f)=true
theorem Gf.mk{f:Addr}{oc:Value}{od:Option Addr}{kV dc pm:Value}{an:Option Addr}{cd ct:Value}{sl:Array (Option Value)}(a:nsIn K mainGlobals x=some (some (.ref f)))(l:K.lookup f=some ⟨oc,od,.func (PySem.W.fnOf x x (QK st) (Q0 st) (kW st) .none kV dc pm an cd ct),sl⟩)(c:PySem.W.codeIn K cd x=true)(k:PySem.W.keepIn K (.ref f)=true):Gf K x st:=⟨f,oc,od,kV,dc,pm,an,cd,ct,sl,a,l,c,k⟩
theorem Gf.d(g:Gf K x st)(X:K.In h)(G:h.Ns mainGlobals mg)(ok:∀{f:Addr} {fd:FuncData},Fun K x x st f fd->FnOk P w K mg base (CXE P w) k f fd ps sp)
  (hb:∀(kV gh pm:Value) (an:Option Addr) (bi ct:Value) (us:List Value),us.length=ps.length->bindArgs (PySem.W.fnOf x x (QK st) (Q0 st) (kW st) .none kV gh pm an bi ct) ⟨us,[]⟩=pure (ps.zip us):=by
   intro _ _ _ _ _ _ us hl
   first
   |exact wzb us hl λ_=>rfl|exact wza us hl λ_ _=>rfl|exact wz9 us hl λ_ _ _=>rfl|exact wz8 us hl λ_ _ _ _=>rfl|exact wz7 us hl λ_ _ _ _ _=>rfl
   |exact len6 us hl λ_ _ _ _ _ _=>rfl):kZ P w K mg base k x ps sp:=by
 obtain⟨f,oc,od,kV,dc,pm,an,cd,ct,sl,a,l,c,kp⟩:=g;exact⟨f,_,ok (qx3 l c kp),(qx3 l c kp).binds hb,kp,Y5 X G a⟩
theorem Gf.law{fa:Addr}{y:Str}(g:Gf K "law" st)(X:K.In h)(G:h.Ns mainGlobals mg)(hfa:mg "law"=some (.ref fa))(ok:∀{base:Heap} {f:Addr} {fd:FuncData},Fun K "law" "law" st f fd->FnOk P w K mg base (CXE P w) k f fd [y] sp)
  (hb:∀(kV gh pm:Value) (an:Option Addr) (bi ct:Value) (s:Shared) (v:Value),BindsTo s (PySem.W.fnOf "law" "law" (QK st) (Q0 st) (kW st) .none kV gh pm an bi ct) ⟨[v],[]⟩ [(y,v)]:=by
   intros
   exact .of_eq rfl):
  ∃fd:FuncData,(∀(s:Shared) (v:Value),BindsTo s fd ⟨[v],[]⟩ [(y,v)])/\∀base:Heap,K.In base->base.Ns mainGlobals mg->FnOk P w K mg base (CXE P w) k fa fd [y] sp:=by
 obtain⟨f,oc,od,kV,dc,pm,an,cd,ct,sl,a,l,c,kp⟩:=g;have e:=hfa.symm.trans (Y5 X G a);cases e;exact⟨_,hb kV dc pm an cd ct,λbase _ _=>ok (qx3 l c kp)⟩
end
end Q
namespace Q
open PySem L2
theorem mkS{N P:List Str}{sc:Scope}(h1:autoParam (sc.kind=.function) Ŕ)(h2:autoParam (sc.isCoroutine=false) Ŕ)(h3:autoParam (sc.isGenerator=false) Ŕ)(h4:autoParam (N.Nodup) ŗ)(h5:autoParam (N.take P.length=P) Ŕ)(h6:autoParam (∀x∈P,sc.names.lookup x=some .local\/sc.names.lookup x=some .cell) ŗ)(h7:autoParam (∀y∈sc.names,y.2≠.free) ŗ):FnScope N P sc:=⟨h1,h2,h3,h4,h5,h6,h7⟩
end Q
namespace Q
open PySem PySem.Spec PyProof.Rows L2 L3
section
variable {X:Cx}{Z:Fx0}{pn:List Nat}{q qa:Bool}{a b c:Ex}{e ea eb:Expr}{pos p:Pos}
theorem kI{z:Int}{j}:QE X Z true (cC (.int z)) (.Constant (.int z) j p):=q_C vkz λ_=>vX
theorem ki{z:Int}{j}:QV X Z true (vE (cC (.int z))) (.Constant (.int z) j p):=j5 kI
theorem kN{j}:QE X Z true (cC .non) (.Constant .none j p):=q_C wjv λ_=>kxm
theorem kn{j}:QV X Z true (vE (cC .non)) (.Constant .none j p):=j5 kN
theorem kS{z:Str}{j}(h:autoParam (z.length<=sizeLine) ŕ):QE X Z true (cC (.str z)) (.Constant (.str z) j p):=q_C kw5 λ_=>Kv h
theorem ks{z:Str}{j}(h:autoParam (z.length<=sizeLine) ŕ):QV X Z true (vE (cC (.str z))) (.Constant (.str z) j p):=j5 (kS h)
theorem vv(i:Nat){x:Str}(hN:autoParam (X.N[i]?=some x) Ŕ)(hv:autoParam (Vis X.env.scope x) ř)(hd:autoParam ((x==("__debug__":Str))=false) ŕ)
  (i9:autoParam ((x==("__classdict__":Str))=false) ŕ):QV X Z true (vV i) (.Name x pos):=q_vV (pv i hN hv hd i9)
theorem cv(i:Nat){x:Str}(hN:autoParam (X.N[i]?=some x) Ŕ)(hv:autoParam (Vis X.env.scope x) ř)(hd:autoParam ((x==("__debug__":Str))=false) ŕ)
  (i9:autoParam ((x==("__classdict__":Str))=false) ŕ):QE X Z true (cV i) (.Name x pos):=q_V (pv i hN hv hd i9)
theorem kx(ha:QV X Z qa a ea)(hb:QV X Z true b eb)(hs:kzk eb:=by exact λ_ _=>rfl)(hK:autoParam (X.K=Z.K) Ŕ):QV X Z qa (j6 a b) (.Subscript ea eb pos):=q_ix ha hb hs hK
theorem qA{i:Nat}{y:Str}{bz:Pos}(hN:X.N.Nodup)(h:QE X Z q a ea)(hi:autoParam (X.N[i]?=some y) Ŕ)(hx:autoParam (Loc X.env.scope y) Ś)(hp:autoParam (i∉pn) ŕ)(hs:autoParam (swapsWith ea (some (.Name y bz)) pos.line X.env=pure false) Ŕ)(hf:autoParam (X.fn y=true\/X.env.scope.names.lookup y=some .local) Ř):
  QS X Z pn (j9 i a) (.Assign [.Name y bz] ea pos):=wwb hN hi hx h hp hs hf
theorem gN{i:Nat}{x:Str}(hN:X.N.Nodup)(hi:autoParam (X.N[i]?=some x) Ŕ)(hx:autoParam (Loc X.env.scope x) Ś)(hf:autoParam (X.fn x=true\/X.env.scope.names.lookup x=some .local) Ř)(hp:autoParam (i∉pn) ŕ):QG X Z pn (.n i) (.Name x pos):=Vk (xW hN hi hx hf) hp
theorem qC{k m n:Nat}{x:Str}{ps:List Str}{f:Fn}{cs:List Ex}{es:List Expr}(D:kZ X.prog X.w X.K X.mg X.base k x ps (spF Z.K Z.mg n f))(hr:Room m X.A)(ha:QA X Z q cs (e::es))(g:xk X Z.EX:=by exact xV)(fq:autoParam (k<=m) ŕ)(hn:autoParam (cs.length=n) Ŕ)(hg:autoParam (Gl X x) Ŕ)(df:autoParam ((x==("__debug__":Str))=false) ŕ)
  (he:autoParam (starEach (e::es) X.env=(false,eval e X.env)::starEach es X.env) Ŕ) (bu:autoParam ((backTo pos (starEach es X.env)).any (·.1)=false) Ŕ):
  QE X Z q (jQ f cs) (.Call (.Name x p) (e::es) [] pos):=wjc D (hr.mono fq) g ha hn hg df he bu
theorem qF{tg iter:Expr}{ss:List Stmt}{it:Ev (List D)}{t:Tg}{B:Sm}(hi:QI X Z q tg it iter)(hg:QG X Z pn t tg)(hb:QSs X Z pn B ss)(hp:PassesOwn (model X.prog X.w) X.A X.env X.xe:=by exact vvy ⟨_,_,rfl,rfl⟩)(hc:autoParam (X.calm=true) Ŕ)(hs:autoParam (∀x,foldedSetIterable iter X.env x=pure x) Ŗ):QS X Z pn (vx it t B) (.For tg iter ss [] pos):=ww9 hp hc hi hg hb hs
theorem oA(ha:QV X Z qa a ea)(hb:QV X Z true b eb)(hK:autoParam (X.K=Z.K) Ŕ):QE X Z qa (cF2 jz a b) (.BinOp ea .Add eb pos):=qV (wk6 hK) wqy ha hb
theorem oX(ha:QV X Z qa a ea)(hb:QV X Z true b eb)(hK:autoParam (X.K=Z.K) Ŕ):QE X Z qa (cF2 vz a b) (.BinOp ea .Mult eb pos):=qV (wk4 hK) vxj ha hb
theorem oM(ha:QV X Z qa a ea)(hb:QV X Z true b eb):QE X Z qa (cF2 (pu2 jJ) a b) (.BinOp ea .Mod eb pos):=qV wk3 wqr ha hb
theorem qP{i:Nat}{x:Str}{apos au xp:Pos}(h:QE X Z q c e)(hN:autoParam (X.N[i]?=some x) Ŕ)(hv:autoParam (Vis X.env.scope x) ř)(hd:autoParam ((x==("__debug__":Str))=false) ŕ)
  (i9:autoParam ((x==("__classdict__":Str))=false) ŕ) (cx:autoParam (attributeBase (.Name x xp) "append" X.env (eval (.Name x xp) X.env)=eval (.Name x xp) X.env) Ŕ)
  (fh:autoParam (((backTo au (starEach [e] X.env)).all (λx=>!x.1)&&(backToKw au (keywordEach [] X.env)).all (λx=>x.1.isSome)
   && decide ([e].length+([]:List Keyword).length+(if([]:List Keyword).isEmpty then 0 else 1)<30))=true) Ŕ)
  (cy:autoParam ((apos.endLine==au.line)=true) Ŕ) (hs:autoParam (starEach [e] X.env=(false,eval e X.env)::starEach [] X.env) Ŕ) (bn:autoParam ((backTo au (starEach [] X.env)).any (·.1)=false) Ŕ) (hK:autoParam (X.K=Z.K) Ŕ)
  (n9:autoParam (swapsWith (.Call (.Attribute (.Name x xp) "append" apos) [e] [] au) none pos.line X.env=pure false) Ŕ):
  QS X Z pn (qX qW i c) (.Expr (.Call (.Attribute (.Name x xp) "append" apos) [e] [] au) pos):=wwc (vq0 Z.K PySem.F.plainAttrs_list PySem.F.slot_list_append PySem.F.type_list_append qw7 (pv i hN hv hd i9) (qY h wW hs) cx fh cy hs bn hK) n9
theorem qL(ha:QV X Z q a ea)(hm:X.mg "len"=none)(hK:autoParam (X.K=Z.K) Ŕ)(hg:autoParam (Gl X "len") Ŕ)(he:autoParam (starEach [ea] X.env=(false,eval ea X.env)::starEach [] X.env) Ŕ)(bu:autoParam ((backTo pos (starEach [] X.env)).any (·.1)=false) Ŕ):QE X Z q (cF1 (pu1 kY) a) (.Call (.Name "len" p) [ea] [] pos):=wjd (hK▸vx6 X.K) wqs ha hm qjy hg ⋯ ⋯ he bu
theorem qT(ha:QV X Z q a ea)(hm:X.mg "tuple"=none)(hK:autoParam (X.K=Z.K) Ŕ)(hg:autoParam (Gl X "tuple") Ŕ)(he:autoParam (starEach [ea] X.env=(false,eval ea X.env)::starEach [] X.env) Ŕ)(bu:autoParam ((backTo pos (starEach [] X.env)).any (·.1)=false) Ŕ):QE X Z q (cF1 JJ a) (.Call (.Name "tuple" p) [ea] [] pos):=xJ (qxs hK) vke ha hm vkd hg ⋯ ⋯ he bu
variable {iter ei tg:Expr}{dq:List Expr}{scope:Scope}{it:Ev (List D)}{tt:Tg}{u:Ts}
theorem qm(o:Own)(k:Nat)(R:List Nat)(m:Nat)(N:List Str)(hi:QI X Z q tg it iter)
  (hg:N.Nodup->∀cl C s0 H0 fp,QG (lcE X scope N cl C s0 H0 fp Z.EX) Z ((List.range R.length).map (k + ·)) tt tg) (ht:∀cl C s0 H0 fp,PTs (lcE X scope N cl C s0 H0 fp Z.EX) dq (tT Z q u)) (he:∀cl C s0 H0 fp,QE (lcE X scope N cl C s0 H0 fp Z.EX) Z q c ei)
  (hN:autoParam (N.Nodup) ŗ) (gx:xk X Z.EX:=by exact xV) (top:z7 X:=by exact⟨_,_,rfl,rfl⟩) (hR:autoParam (R.Nodup) ŕ) (hm:autoParam (X.N.length=m) Ŕ) (hr:autoParam (∀j∈R,j<m) ŕ) (hc:autoParam (X.calm=true) Ŕ) (hk:autoParam (scope.kind=.function) Ŕ) (ja:autoParam (KW X.N X.env.scope scope N k R=true) Ŕ) (hs:autoParam (∀x,foldedSetIterable iter X.env x=pure x) Ŗ):
  QE X Z q (cLC o k R it tt u c) (.ListComp ei [⟨tg,iter,dq,0⟩] scope pos):=wz3 N hi (hg hN) ht he gx top hR (hm▸hr) hc hk ja hs
theorem qM{x:Str}{p':Pos}(o:Own)(k:Nat)(R:List Nat)(m:Nat)(N:List Str)(hi:QI X Z q (.Name x p') it iter)(he:∀cl C s0 H0 fp,QE (lcE X scope N cl C s0 H0 fp Z.EX) Z q c ei)
  (hN:autoParam (N.Nodup) ŗ) (gx:xk X Z.EX:=by exact xV) (top:z7 X:=by exact⟨_,_,rfl,rfl⟩) (hR:autoParam (R.Nodup) ŕ) (hm:autoParam (X.N.length=m) Ŕ) (hr:autoParam (∀j∈R,j<m) ŕ) (hc:autoParam (X.calm=true) Ŕ) (hk:autoParam (scope.kind=.function) Ŕ) (ja:autoParam (KW X.N X.env.scope scope N k R=true) Ŕ) (hs:autoParam (∀x,foldedSetIterable iter X.env x=pure x) Ŗ)
  (hg:N.Nodup->∀cl C s0 H0 fp,QG (lcE X scope N cl C s0 H0 fp Z.EX) Z ((List.range R.length).map (k + ·)) (.n 0) (.Name x p'):=by exact λh _ _ _ _ _=>Vk (xW (i:=0) h rfl (by trivial))):
  QE X Z q (cLC o k R it (.n 0) tYes c) (.ListComp ei [⟨.Name x p',iter,[],0⟩] scope pos):=wz3 N hi (hg hN) (λ_ _ _ _ _=>Zx) he gx top hR (hm▸hr) hc hk ja hs
end
end Q
namespace Q
def ddS(ss:List PySem.Str):List PySem.Str:=ss.foldl (λl k=>if l.any (· == k)then l else l++[k]) []
def ddI(ss:List Int):List Int:=ss.foldl (λl k=>if l.any (· == k)then l else l++[k]) []
def XQ:Sd->Option Sd:=λx=>match x.2 with
 |.lst ds=>(match J5 ds with
  |some ss=>if ss.length<64 then some (.rt,.lst ((zZ (ddS ss)).map .str))else none
  |none=>none)
 |_=>none
end Q
namespace Sw
open PySem PyProof.Rows
section
variable {prog:Program}{w:World}{A:Around}{E:Value->Shared->Prop}{s:Shared}
def tx(w:World):Bool:=w.params.followText "set-order"
structure Ok (prog:Program)(w:World)(o:Obj)(es:Array (Int×Value))(ep:Nat)(t:SetTable):Prop where
 ex:o.ExactSet
 d:o.data=.set es ep t
 el:ElemsOf (PySem.strKind prog w) es.toList
 b:es.size<scanBound
 f:t.fits es.size=true
 led:t.led=!tx w
 pl:t.plain=false\/es.size=0
def YQ(es:List (Int×Value)):List Str:=es.map λe=>strOf e.2
def Has(prog:Program)(w:World)(h:Heap)(a:Addr)(ls:List Str):Prop:=∃o es ep t,h.get? a=some o/\Ok prog w o es ep t/\(YQ es.toList).Perm ls
theorem vqb{l:List (Int×Value)}(h:ElemsOf (PySem.strKind prog w) l){e:Int×Value}(he:e∈l):∃k t,e.2=.str k t:=by
 obtain⟨⟨k,hk,_⟩,_⟩:=h e he;obtain⟨t,ht⟩:=Value.isStrOf_shape hk;exact⟨k,t,ht⟩
theorem wky{l:List (Int×Value)}(h:ElemsOf (PySem.strKind prog w) l)(k:Str):(∃e∈l,(PySem.strKind prog w).is k e.2=true)↔k∈YQ l:=by
 unfold YQ;rw[List.mem_map];constructor
 ·rintro ⟨e,he,hk⟩;obtain⟨t,ht⟩:=Value.isStrOf_shape hk;exact⟨e,he,by rw[ht];rfl⟩
 ·rintro ⟨e,he,hk⟩;obtain⟨k',t,ht⟩:=vqb h he;rw[ht]at hk;cases(show k'=k from hk);exact⟨e,he,by rw[ht];exact strKind_is _ _ _ _⟩
theorem vwf(t:SetTable)(es:Array (Int×Value))(h:Int)(x:Value):(layNew t es h x).2.1.led=t.led/\((layNew t es h x).2.1.plain=true->t.plain=true):=by
 unfold layNew
 split
 ·rename_i slot wd _;show((t.put slot).1.orStandIn _).led=_/\(((t.put slot).1.orStandIn _).plain=true->_);unfold SetTable.orStandIn
  split
  ·exact⟨rfl,λh=>h⟩
  ·exact⟨rfl,λh=>nomatch h⟩
 ·exact⟨rfl,λh=>nomatch h⟩
theorem qv6(t:SetTable)(es:Array (Int×Value))(n:Nat):(relayAll t es n).2.1.led=t.led/\((relayAll t es n).2.1.plain=true->t.plain=true):=by
 unfold relayAll
 split
 ·rename_i t' order hr;dsimp only
  split
  ·unfold SetTable.relaid SetTable.laid at hr;rw[Option.bind_eq_bind,Option.bind_eq_some_iff]at hr;obtain⟨ow,_,e⟩:=hr;cases oq9 e;exact⟨rfl,λh=>h⟩
  ·exact⟨rfl,λh=>nomatch h⟩
 ·exact⟨rfl,λh=>nomatch h⟩
theorem vza{h:Heap}{a:Addr}{o:Obj}{es es':Array (Int×Value)}{ep:Nat}{t t':SetTable}(ho:h.get? a=some o)(hd:o.data=.set es ep t):(h.update a (Obj.putSet es' t')).get? a=some { o with data:=.set es' (ep+1) t' }:=by
 have:=Xz (Obj.putSet es' t') ho (by rw[putSet_of es' t' hd];rfl)
 rwa [putSet_of es' t' hd]at this
theorem tail{g:Bool->Sem Unit}(hg:∀(b:Bool) (s₁:Shared) (Q':Unit->Shared->Prop),Q' () s₁->wpAny (model prog w) A (g b) Q' E s₁)
  {a:Addr} {o:Obj} {es dv:Array (Int×Value)} {ep:Nat} {t t2:SetTable} {ls:List Str} {ju:Bool} {R:Option Bool->Shared->Prop} (ho:s.heap.get? a=some o) (hd:o.data=.set es ep t) (hex:o.ExactSet)
  (hel:ElemsOf (PySem.strKind prog w) dv.toList) (hb:dv.size<scanBound) (hf:t2.fits dv.size=true) (pw:t2.led=!tx w) (bu:t2.plain=false) (hp:(YQ dv.toList).Perm ls)
  (h:∀h',Heap.SameBut a s.heap h'->Has prog w h' a ls->R (some true) { s with heap:=h' }):
  wpAny (model prog w) A (do
    storeSet a dv t2
    if(!ju&&t2.tooFull)=true then do
      g (relayAll t2 dv (SetTable.grown dv.size)).2.2
      storeSet a (relayAll t2 dv (SetTable.grown dv.size)).1 (relayAll t2 dv (SetTable.grown dv.size)).2.1
      pure (some true)
     else pure (some true)) R E s:=by
 refine X0 (wpAny_storeSet_of ho hd ?_ (fits_of_scanBound hb));have je:=vza (es':=dv) (t':=t2) ho hd;have ku:=Xx s.heap a (Obj.putSet dv t2)
 split
 ·have r1:=relayAll_perm t2 dv (SetTable.grown dv.size);have r2:=relayAll_fits t2 dv (SetTable.grown dv.size);obtain⟨r3,r4⟩:=qv6 t2 dv (SetTable.grown dv.size);generalize relayAll t2 dv (SetTable.grown dv.size)=V at r1 r2 r3 r4 ⊢;obtain⟨es2,t3,gv⟩:=V;dsimp only at r1 r2 r3 r4 ⊢;have hz:es2.size=dv.size:=by rw[<-Xi,r1.length_eq,Xi]
  refine X0 (hg _ _ _ ?_);refine X0 (wpAny_storeSet_of je rfl ?_ (fits_of_scanBound (by rw[hz];exact hb)));refine X1 (h _ (ku.trans (Xx _ a _)) ⟨_,es2,_,t3,vza je rfl,⟨hex,rfl,hel.perm r1,by rw[hz];exact hb,r2,r3.trans pw,.inl ?_⟩,(r1.map _).trans hp⟩);cases hq:t3.plain with|false=>rfl|true=>rw[r4 hq]at bu;cases bu
 ·exact X1 (h _ ku ⟨_,dv,_,t2,je,⟨hex,rfl,hel,hb,hf,pw,.inl bu⟩,hp⟩)
theorem add{a:Addr}{k:Str}{tk:Tok}{ls:List Str}{Q:Bool->Shared->Prop}(hS:Has prog w s.heap a ls)(hl:ls.length+1<scanBound)
  (h:∀b h',Heap.SameBut a s.heap h'->Has prog w h' a (step_dedup ls k)->Q b { s with heap:=h' }):wpAny (model prog w) A (setAddHashed a (.str k tk) ((PySem.strKind prog w).hash k)) Q E s:=by
 obtain⟨o,es,ep,t,ho,hk,hp⟩:=hS;have hsz:es.size=ls.length:=by rw[<-hp.length_eq];unfold YQ;rw[X4,Xi]
 have eh:(PySem.strKind prog w).is k (.str k tk)=true:=strKind_is _ _ _ _;have hmk:(∃e∈es.toList,(PySem.strKind prog w).is k e.2=true)↔k∈ls:=(wky hk.el k).trans hp.mem_iff;unfold setAddHashed setAddHashedIn;refine Y0 (X0 (Zc ho hk.d hk.f ?_));dsimp only;rw[byScan_of rfl hk.b hk.el];simp only[↓reduceIte];unfold setAddByScan;refine X0 ?_;refine X0 (Z8 ?_);refine X0 (wpAny_setScan_of eh ho hk.d hk.f hk.el ?_);cases hr:List.findIdx? (λe=>(PySem.strKind prog w).is k e.2) es.toList with
 | some j=>
  dsimp only;obtain⟨hj,hpj,_⟩:=List.findIdx?_eq_some_iff_getElem.mp hr;have i6:k∈ls:=hmk.mp ⟨_,Y8 hj,hpj⟩;have cb:step_dedup ls k=ls:=by unfold step_dedup;rw[X9 (List.any_eq_true.mpr ⟨k,i6,by simp⟩)]
  refine X1 (X1 ?_);have:=h false s.heap (Heap.SameBut.refl a s.heap) (by rw[cb];exact⟨o,es,ep,t,ho,hk,hp⟩);exact this
 | none=>
  dsimp only;have hni:k∉ls:=λi6=>by
   obtain⟨e,he,hq⟩:=hmk.mpr i6;have:=List.findIdx?_eq_none_iff.mp hr e he;rw[hq]at this;cases this
  have cb:step_dedup ls k=ls++[k]:=by
   unfold step_dedup;rw[Xb];intro hh;obtain⟨y,hy,e⟩:=List.any_eq_true.mp hh;rw[eq_of_beq e]at hy;exact hni hy
  rw[cb]at h;have hgw:∀(b:Bool) {s₁:Shared} {Q':Unit->Shared->Prop},Q' () s₁->wpAny (model prog w) A (match b with|true=>PySem.rule "set.scan.the-table-gave-way" | false=>pure ()) Q' E s₁:=
   λb s₁ Q' hq=>by cases b<;>first|exact X1 hq|exact Z8 hq
  have l1:=layNew_perm t es ((PySem.strKind prog w).hash k) (.str k tk);have l2:=layNew_fits t es ((PySem.strKind prog w).hash k) (.str k tk);obtain⟨l3,l4⟩:=vwf t es ((PySem.strKind prog w).hash k) (.str k tk);generalize layNew t es ((PySem.strKind prog w).hash k) (.str k tk)=V at l1 l2 l3 l4 ⊢;obtain⟨dv,t1,wd,gv⟩:=V;dsimp only at l1 l2 l3 l4 ⊢;rw[Array.toList_push]at l1;have qp:ElemsOf (PySem.strKind prog w) dv.toList:=(hk.el.push eh rfl).perm l1;have oz:dv.size=ls.length+1:=by rw[<-Xi,l1.length_eq,Xj,Xi,hsz];rfl
  have pe:(YQ dv.toList).Perm (ls++[k]):=by
   refine(l1.map λe=>strOf e.2).trans ?_;rw[Xq];exact hp.append (List.Perm.refl _)
  refine X0 (hgw _ ?_)
  split
  ·refine X0 ?_;rw[hashByValue_scannable 8 rfl];refine X1 ?_;refine tail ?_ ho hk.d hk.ex qp (by rw[oz];exact hl) (SetTable.fits_plain_off l2) (l3.trans hk.led) rfl pe λh' a1 a2=>?_
   ·intro b s₁ Q' hq;cases b<;>first|exact X1 hq|exact Z8 hq
   ·exact X1 (h true h' a1 a2)
  ·rename_i bu;refine X0 (X1 ?_);refine tail ?_ ho hk.d hk.ex qp (by rw[oz];exact hl) l2 (l3.trans hk.led) (show t1.plain=false from Bool.eq_false_iff.mpr bu) pe λh' a1 a2=>?_
   ·intro b s₁ Q' hq;cases b<;>first|exact X1 hq|exact Z8 hq
   ·exact X1 (h true h' a1 a2)
def dd(ss:List Str):List Str:=ss.foldl step_dedup []
theorem vx3{ss:List Str}{i:Nat}{x:Str}(h:ss[i]?=some x):dd (ss.take (i+1))=step_dedup (dd (ss.take i)) x:=by
 obtain⟨hl,e⟩:=List.getElem?_eq_some_iff.mp h;unfold dd;rw[List.take_succ,h,List.foldl_append];rfl
theorem wqi(ss:List Str):(dd ss).length<=ss.length:=foldl_step_dedup_nil_length_le ss
theorem qqt:∀{vs:List Value} {ss:List Str},StrsAre vs ss->∀(i:Nat) (v:Value),vs[i]?=some v->∃x t,v=.str x t/\ss[i]?=some x
 |_,_,.nil,i,v,h=>by cases i<;>cases h|_,_,.cons x t r,0,v,h=>by cases oq9 h;exact⟨x,t,rfl,rfl⟩|_,_,.cons x t r,i+1,v,h=>qqt r i v h
theorem kqh:∀{vs:List Value} {ss:List Str},StrsAre vs ss->vs.length=ss.length
 |_,_,.nil=>rfl|_,_,.cons x t r=>congrArg (· + 1) (kqh r)
theorem Has.same{h h':Heap}{a:Addr}{ls:List Str}(x:Has prog w h a ls)(e:∀o,h.get? a=some o->h'.get? a=some o):Has prog w h' a ls:=by
 obtain⟨o,es,ep,t,ho,r⟩:=x;exact⟨o,es,ep,t,e _ ho,r⟩
theorem loop{R:Result->Shared->Prop}{I:Addr}{fp wr:List Addr}{G:Array GenState->Array GenState->Prop}{n:Nat}{P:Nat->Value->Prop}{St:Nat->Shared->Prop}(W:WalksS prog w A.in1 I fp wr G n P St)(S:Addr)(md:S∉fp)
  {ss:List Str} (hn:ss.length=n) (jh:∀i v,P i v->∃x t,v=.str x t/\ss[i]?=some x) (hb:n+1<scanBound):∀(k i:Nat) (s:Shared),n - i=k->i<=n->St i s->Has prog w s.heap S (dd (ss.take i)) ->
   (∀s',Moved (S::wr) G s s'->Has prog w s'.heap S (dd ss)->R (.ok (.ret .none)) s')->codeAny (model prog w) A (.builtin "set.update.loop" ⟨[.ref S,.ref I],[]⟩) R s:=by
 have pq:S∉wr:=λh=>md (W.sub _ h)
 have f9:∀b∈wr,b∈S::wr:=λb hb=>lc9 _ hb
 intro k
 induction k with
 | zero=>
  intro i s hk hi cb hS hR;cases(show i=n by omega);refine Z3 F.entry_set_update_loop ?_;rw[Yo F.plain_set_update_loop _];show wpAny _ A.in1 (pyNext (.ref I) >>= _) _ _ s;refine X0 (W.done s _ _ cb λs' hm=>?_);refine X1 (hR s' (hm.mono f9) ?_);rw[<-hn,List.take_length]at hS;exact hS.same λo e=>hm.heap S _ pq e
 | succ k ih=>
  intro i s hk hi cb hS hR;refine Z3 F.entry_set_update_loop ?_;rw[Yo F.plain_set_update_loop _];show wpAny _ A.in1 (pyNext (.ref I) >>= _) _ _ s;refine X0 (W.item i s _ _ ⋯ cb λv s' hP nr hm=>?_);obtain⟨x,t,rfl,hx⟩:=jh i v hP;have jd:Has prog w s'.heap S (dd (ss.take i)):=hS.same λo e=>hm.heap S _ pq e
  show wpAny _ A.in1 (holding [Value.str x t] (setAdd S (.str x t)) >>= _) _ _ s';refine X0 (Y0 ?_);unfold setAdd;refine Y0 ?_;refine X0 ((PySem.strKind prog w).pyHash (k:=x) (strKind_is _ _ _ _) ?_);have fq:(dd (ss.take i)).length+1<scanBound:=by have:=wqi (ss.take i);rw[Yc]at this;omega
  refine add jd fq λb h' a1 a2=>?_
  rw[<-vx3 hx]at a2;refine X1 ⟨plainId_quiet F.plain_set_update_loop _,ih (i+1) _ ⋯ ⋯ (W.frame _ s' _ _ nr (Zh _) λb hb o e=>?_) a2 λkh nk mx=>?_⟩
  ·rw[a1.2 b (λh:b=S=>md (by rw[<-h];exact hb))];exact e
  ·refine hR kh (Moved.trans W.gtrans ((hm.mono f9).then_heap (Zh _) λb o hb e=>?_) nk) mx;rw[a1.2 b (λh:b=S=>hb (by rw[h];exact X7))];exact e
def fresh(w:World):Obj:={ cls:=.type "set",dict:=none,data:=.set #[] 0 (.fresh 0 0 (!tx w)) }
theorem qx4{h:Heap}{a:Addr}(e:h.get? a=some (fresh w)):Has prog w h a []:=
 ⟨_,#[],0,.fresh 0 0 (!tx w),e,⟨⟨rfl,rfl,rfl⟩,rfl,(λe he=>nomatch he),⋯,by rfl,rfl,.inr rfl⟩,.refl _⟩
theorem made(a:Value){Q₁:Value->Shared->Prop}(h:Q₁ (.ref s.heap.objs.size) { s with heap:=s.heap.push (fresh w) }):
  codeAny (model prog w) A (.call (.builtin "set.__new__") ⟨[.type "set",a],[]⟩) (wants Q₁ E) s:=by
 refine codeAny_of_tree ?_;show wpAny _ A.in1 (do checkBuiltinCall "set.__new__" ⟨[.type "set",a],[]⟩;again (.builtin "set.__new__" ⟨[.type "set",a],[]⟩)) _ _ s;refine X0 (wpAny_of_eq (F.newCall_set_1 a) (X1 ⟨plainId_quiet F.plain_set_new _,Z3 F.entry_set_new ?_⟩));rw[Yo F.plain_set_new _];unfold Builtin.«set.__new__» Builtin.Frozenset.newClass;have f9:=sub_set_self;obtain⟨hp,g,d,tk,os⟩:=s;dsimp only
 wp_walk
 refine Zg (X1 ?_);dsimp only;simp only[newObj];refine X0 (wpAny_alloc (X1 ?_));exact X1 h
set_option maxHeartbeats 8000000 in
theorem vk3{l:Addr}{items:Array Value}{ss:List Str}{Q:Value->Shared->Prop}(hh:A.handled=none)(hl:s.heap.IsList l items)(hi:StrsAre items.toList ss)(hb:items.size+1<scanBound)
  (h:∀(h':Heap) (tk:Nat),Has prog w h' s.heap.objs.size (dd ss)->(∀b o,b<s.heap.objs.size->s.heap.get? b=some o->h'.get? b=some o)->Q (.ref s.heap.objs.size) { s with heap:=h',toks:=tk }):
  wpAny (model prog w) A (call (.type "set") [.ref l]) Q E s:=by
 obtain⟨c,tl,hmro⟩:=F.called_set.mro;have hmade:=F.called_set.made;have f9:=F.called_set.sub;refine wpAny_call (codeAny_of_tree ?_);show wpAny _ _ (callAny (.type "set") _) _ _ _;refine X1 ⟨Code.quiet_builtin _ (by decide +kernel),Z3 F.entry_type_call ?_⟩;rw [Around.under_plain (weight_type_call_type "set" [.ref l] []) rfl];have h1:=F.called_set.notType;have h2:=F.called_set.canCreate;have hct:=F.typeCall_set_1 (.ref l)
 repeat (any_goals (first|assumption|wp_step))
 refine codeAny_mono (made (.ref l) (E:=E) (Q₁:=λobj s₁=>obj=.ref s.heap.objs.size/\s₁={ s with heap:=s.heap.push (fresh w) }) ⟨rfl,rfl⟩) λr s₁ hr=>?_
 cases r with
 | error e=>exact hr
 | ok fl=>
 cases fl with
 | ret obj=>
  obtain⟨rfl,rfl⟩:=hr;have hS:(s.heap.push (fresh w)).get? s.heap.objs.size=some (fresh w):=X6 _ rfl;have hT:Shared.TypeIs { s with heap:=s.heap.push (fresh w) } (.ref s.heap.objs.size) "set":=⟨_,hS,rfl⟩;have hli:=F.called_set.init.lookup;have hbi:=F.called_set.init.bind (.ref s.heap.objs.size)
  repeat (any_goals (first|assumption|wp_step))
  refine codeAny_mono (codeAny_call_builtin (R:=wants (λr s₂=>r=.none/\∃h' tk,s₂={ s with heap:=h',toks:=tk }/\Has prog w h' s.heap.objs.size (dd ss) /\
    (∀b o,b<s.heap.objs.size->s.heap.get? b=some o->h'.get? b=some o)) E) F.called_set.init.plain F.entry_set_init (check_set_init_1 hT ?_)) λr₂ s₂ hr₂=>?_
  ·obtain⟨ol,hol,dy,nl,hdl⟩:=hl;obtain⟨ocls,sj,odata,mv⟩:=ol;simp only at dy hdl;subst dy;subst hdl;have hol':(s.heap.push (fresh w)).get? l=some { cls:=.type "list",dict:=sj,data:=.seq items nl,slots:=mv }:=X3 _ hol;have hsls:=F.sub_list_set;have hslf:=F.sub_list_frozenset;have bj:(Value.type "list" == Value.type "dict")=false:=⋯
   have gr:(s.heap.push (fresh w)).IsList l items:=⟨_,hol',rfl,nl,rfl⟩;have qh:l<s.heap.objs.size:=Xa hol;have p5:({ cls:=.type "set",dict:=none,data:=.set #[] 0 (.fresh 0 0 (!tx w)) }:Obj)=fresh w:=rfl;unfold Builtin.«set.__init__» noKeywords Builtin.Frozenset.updateFrom;generalize hPI:pyIter=PI
   wp_walk
   subst hPI;refine wpAny_pyIter_list gr ?_;refine X0 (wpAny_runValue ?_);have hh3:A.in1.in1.in1.handled=none:=by simp[hh]
   have hsz:(s.heap.push (fresh w)).objs.size=s.heap.objs.size+1:=Zf ..;refine loop ((Walks.list hh3 _ l (by rw[hsz];exact Xg (Nat.lt_succ_of_lt qh)) items).toS) s.heap.objs.size (by rw[hsz];simp only[Y1,Xm,or_false,not_or];exact⟨Xg (Nat.lt_succ_self _),Nat.ne_of_gt qh⟩) (ss:=ss) ?_ (λi v hv=>qqt hi i v (by rw[Yb];exact hv)) hb (items.size - 0) 0 _ ⋯ (Yg _)
    ⟨⟨_,X6 _ rfl,rfl,rfl⟩,gr.push _⟩ ?_ ?_
   ·rw[<-kqh hi,Xi]
   ·exact qx4 (X3 _ hS)
   ·intro s' hm jd;obtain⟨h',g',d',oq,qr⟩:=s';have eg:g'=s.gens:=hm.gens;have ed:d'=s.drawn:=hm.drawn;have eo:qr=s.os:=hm.os;subst eg;subst ed;subst eo;show wpAny _ _ _ _ _ _;refine X1 ?_;show wpAny _ _ (ret Value.none) _ _ _;refine X1 ⟨rfl,h',oq,rfl,jd,λb o hb e=>?_⟩;exact hm.heap b o (by simp only[Y1,Xm,or_false,not_or];rw[hsz];exact⟨Xg hb,Xg (Nat.lt_succ_of_lt hb)⟩) (X3 _ (X3 _ e))
  ·cases r₂ with
   | error e=>exact hr₂
   | ok fl₂=>
    cases fl₂ with
    |ret r=>
     obtain⟨rfl,h',tk,rfl,jd,cf⟩:=hr₂
     repeat (any_goals (first|assumption|wp_step))
     exact h _ _ jd cf
    |_=>exact hr₂.elim
 |_=>exact hr.elim
end
theorem slot_next:Slot "set_iterator" "__next__" "set_iterator.__next__" :=
 .of (owner:="set_iterator") (n:="__next__") (by rw[typeLookup_type,builtinLookup_eq_fast];kernel_rfl) (by decide +kernel) (by decide +kernel) (by decide +kernel)
  (by first|exact .inl (by decide +kernel)|exact .inr (by decide +kernel)) (by rw[isSubtype_type];kernel_rfl)
theorem kvp:Slot "set_iterator" "__iter__" "set_iterator.__iter__" :=
 .of (owner:="set_iterator") (n:="__iter__") (by rw[typeLookup_type,builtinLookup_eq_fast];kernel_rfl) (by decide +kernel) (by decide +kernel) (by decide +kernel)
  (by first|exact .inl (by decide +kernel)|exact .inr (by decide +kernel)) (by rw[isSubtype_type];kernel_rfl)
theorem jwf:entryFor table "set_iterator.__next__"=some Builtin.«set_iterator.__next__»:=entryFor_of_tree (by kernel_rfl)
theorem qq5:entryFor table "set_iterator.__iter__"=some Builtin.«dict_keyiterator.__iter__»:=entryFor_alias (id':="dict_keyiterator.__iter__") (by kernel_rfl) rfl (by decide +kernel) (by kernel_rfl)
theorem qq6:entryFor table "set.__iter__"=some Builtin.«frozenset.__iter__»:=entryFor_alias (id':="frozenset.__iter__") (by kernel_rfl) rfl (by decide +kernel) (by kernel_rfl)
theorem jxk(a:Value):argsOk "set_iterator.__next__" ⟨[a],[]⟩:=by unfold argsOk;kernel_rfl
theorem qz1(a:Value):argsOk "set_iterator.__iter__" ⟨[a],[]⟩:=by unfold argsOk;kernel_rfl
theorem qz2(a:Value):argsOk "set.__iter__" ⟨[a],[]⟩:=by unfold argsOk;kernel_rfl
section
variable {prog:Program}{w:World}{A:Around}{E:Value->Shared->Prop}{s:Shared}
theorem wqj{src:Source}{n:Nat}{Q:Nat->Shared->Prop}(hn:n≠0)(h:∀i d,i<n->Q i { s with drawn:=d }):wpAny (model prog w) A (choose src n) Q E s:=
 λ_ _ _=>⟨hn,h _ _ (Nat.mod_lt _ (Nat.pos_of_ne_zero hn))⟩
theorem ZJ{α:Type}:∀{l:List α} {i:Nat} (h:i<l.length),(l[i]::l.eraseIdx i).Perm l
 |a::l,0,h=>List.Perm.refl _
 |a::l,i+1,h=>by
  have hi:i<l.length:=Nat.lt_of_succ_lt_succ h;exact(List.Perm.swap a (l[i]'hi) _).trans ((ZJ hi).cons a)
theorem drawn{α:Type}:∀(n:Nat) (xs:List α) (s:Shared) {Q:List α->Shared->Prop},xs.length=n->(∀ys d,ys.Perm xs->Q ys { s with drawn:=d })->wpAny (model prog w) A (drawOrder n xs) Q E s
 | 0,xs,s,Q,hl,h=>by
  cases xs with|nil=>exact X1 (h [] s.drawn (.refl _))|cons=>cases hl
 | n+1,xs,s,Q,hl,h=>by
  cases xs with
  |nil=>cases hl
  |cons x xs=>
   unfold drawOrder;refine X0 (wqj (by simp) λi d hi=>?_);rw[X2 hi];refine X0 (drawn n _ _ (by rw[List.length_eraseIdx,X9 hi];exact Nat.succ.inj hl) λys d' hp=>?_);exact X1 (h _ d' ((hp.cons _).trans (ZJ hi)))
theorem qvq{α:Type}(f:Nat->Nat):∀(n k:Nat) (l:List α) (out:Array α),l.length=n->(pickOrder.go f n k l out).toList.Perm (out.toList++l)
 |0,k,l,out,hl=>by
  cases l with|nil=>unfold pickOrder.go;simp|cons=>cases hl
 |n+1,k,l,out,hl=>by
  have hi:f k % l.length<l.length:=Nat.mod_lt _ ⋯;unfold pickOrder.go;rw[X2 hi];refine(qvq f n (k+1) _ _ (by rw[List.length_eraseIdx,X9 hi];omega)).trans ?_;rw[Array.toList_push,Y3];exact(List.Perm.refl _).append (ZJ hi)
theorem kw4{α:Type}(f:Nat->Nat)(xs:Array α):(pickOrder f xs).toList.Perm xs.toList:=by
 unfold pickOrder;exact qvq f _ 0 _ #[] (by simp)
end
section
variable {prog:Program}{w:World}{A:Around}{E:Value->Shared->Prop}{s:Shared}
def It(h:Heap)(I a:Addr)(f:Value)(i n ep:Nat):Prop:=∃o,h.get? I=some o/\o.cls=.type "set_iterator"/\o.data=.fields #[f,.int i 0,.ref a,.int n 0,.int ep 0]
theorem It.at'{h h':Heap}{I a:Addr}{f:Value}{i n ep:Nat}(x:It h I a f i n ep)(e:∀o,h.get? I=some o->h'.get? I=some o):It h' I a f i n ep:=by
 obtain⟨o,ho,r⟩:=x;exact⟨o,e _ ho,r⟩
def Stn(h:Heap)(a:Addr)(n ep:Nat):Prop:=∃o es t,h.get? a=some o/\o.data=.set es ep t/\t.fits es.size=true/\es.size=n
theorem qv1{I a:Addr}{f:Value}{i n ep:Nat}{Q:Value->Shared->Prop}(fb:It s.heap I a f i n ep)(h:Q (.ref I) s):wpAny (model prog w) A (pyIter (.ref I)) Q E s:=by
 obtain⟨o,ho,hc,hd⟩:=fb;have hT:s.TypeIs (.ref I) "set_iterator":=⟨o,ho,hc⟩;refine wpAny_pyIter_slot hT kvp (Xy kvp hT qq5 ?_ (qz1 _));show wpAny _ _ (ret (.ref I)) _ _ s;exact X1 ⟨_,rfl,"set_iterator",_,hT,slot_next.lookup,h⟩
theorem wkx{I a:Addr}{sl nx i n ep:Nat}{v:Value}{Q:Option Value->Shared->Prop}(fb:It s.heap I a (.int sl 0) i n ep)(hs:Stn s.heap a n ep)
  (hN:∀(A':Around) (E':Value->Shared->Prop) (R:Option (Value×Nat)->Shared->Prop),R (some (v,nx)) s->wpAny (model prog w) A' (setNext a sl i ep) R E' s)
  (hQ:∀h',It h' I a (.int nx 0) (i+1) n ep->Heap.SameBut I s.heap h'->Q (some v) { s with heap:=h' }):wpAny (model prog w) A (pyNext (.ref I)) Q E s:=by
 obtain⟨o,ho,hc,hd⟩:=fb;obtain⟨os,es,t,i',bc,hf,hn⟩:=hs;have hT:s.TypeIs (.ref I) "set_iterator":=⟨o,ho,hc⟩;unfold pyNext;refine X0 (Zd (Y7 (name:=Str.ofString "__next__") hT slot_next (Xy slot_next hT jwf ?_ (jxk _))));show wpAny _ _ (fieldsOf (.ref I) >>= _) _ _ s;refine X0 (Z9 ho hd ?_);show wpAny _ _ (setEntries a >>= _) _ _ s;refine X0 (wpAny_setEntries_of i' bc hf ?_);rw[Xb (by rw[hn];simp)];show wpAny _ _ (setNext a ((sl:Int)).toNat ((i:Int)).toNat ((ep:Int)).toNat >>= _) _ _ s;rw[Xu,Xu,Xu];refine X0 (hN _ _ _ ?_);refine X0 (Ye ho hd (by simp) ?_);have p7:=Yn hd (·.setIfInBounds 0 (rawInt nx));have je:=Xz (Obj.mapFields (·.setIfInBounds 0 (rawInt nx))) ho (Yw p7);refine X0 (Ye je p7 (by simp) (X1 ⟨v,rfl,X1 (hQ _ ?_ ((Xx ..).trans (Xx ..)))⟩));have i5:=Yn p7 (·.setIfInBounds 1 (rawInt (i+1)));refine⟨_,Xz _ je (Yw i5),(Obj.cls_mapFields ..).trans ((Obj.cls_mapFields ..).trans hc),?_⟩;rw[i5];simp[rawInt]
theorem wkw{I a T:Addr}{i n ep:Nat}{v:Value}{pl:List Nat}{p:Nat}{Q:Option Value->Shared->Prop}(fb:It s.heap I a (.ref T) i n ep)(hs:Stn s.heap a n ep)(sf:∃o k,s.heap.get? T=some o/\o.data=.seq (pl.map λ(j:Nat)=>rawInt j).toArray k)
  (hp:pl[i]?=some p)
  (hN:∀(A':Around) (E':Value->Shared->Prop) (R:Value->Shared->Prop),R v s->wpAny (model prog w) A' (setNextDrawn a p ep) R E' s)
  (hQ:∀h',It h' I a (.ref T) (i+1) n ep->Heap.SameBut I s.heap h'->Q (some v) { s with heap:=h' }):wpAny (model prog w) A (pyNext (.ref I)) Q E s:=by
 obtain⟨o,ho,hc,hd⟩:=fb;obtain⟨os,es,t,i',bc,hf,hn⟩:=hs;obtain⟨oT,kT,hoT,ny⟩:=sf;have hT:s.TypeIs (.ref I) "set_iterator":=⟨o,ho,hc⟩;unfold pyNext;refine X0 (Zd (Y7 (name:=Str.ofString "__next__") hT slot_next (Xy slot_next hT jwf ?_ (jxk _))));show wpAny _ _ (fieldsOf (.ref I) >>= _) _ _ s;refine X0 (Z9 ho hd ?_);show wpAny _ _ (setEntries a >>= _) _ _ s;refine X0 (wpAny_setEntries_of i' bc hf ?_);rw[Xb (by rw[hn];simp)];show wpAny _ _ (seqItems? (.ref T) >>= _) _ _ s;refine X0 (wpAny_seqItems hoT ny ?_);have hg:(pl.map λ(j:Nat)=>rawInt j).toArray[((i:Int)).toNat]?=some (.int p 0):=by
  rw[Xu,List.getElem?_toArray,Xn,hp];rfl
 dsimp only;rw[hg];show wpAny _ _ (setNextDrawn a ((p:Int)).toNat ((ep:Int)).toNat >>= _) _ _ s;rw[Xu,Xu];refine X0 (hN _ _ _ ?_);have i5:=Yn hd (·.setIfInBounds 1 (rawInt (i+1)));refine X0 (Ye ho hd (by simp) (X1 ⟨v,rfl,X1 (hQ _ ?_ (Xx ..))⟩));refine⟨_,Xz _ ho (Yw i5),(Obj.cls_mapFields ..).trans hc,?_⟩;rw[i5];simp[rawInt]
theorem wx7{I a:Addr}{sl i n ep:Nat}{Q:Option Value->Shared->Prop}(hh:A.handled=none)(fb:It s.heap I a (.int sl 0) i n ep)(hs:Stn s.heap a n ep)
  (hN:∀(A':Around) (E':Value->Shared->Prop) (R:Option (Value×Nat)->Shared->Prop),R none s->wpAny (model prog w) A' (setNext a sl i ep) R E' s)
  (hQ:∀h',Heap.ExtBut I s.heap h'->Q none { s with heap:=h' }):wpAny (model prog w) A (pyNext (.ref I)) Q E s:=by
 obtain⟨o,ho,hc,hd⟩:=fb;obtain⟨os,es,t,i',bc,hf,hn⟩:=hs;have hT:s.TypeIs (.ref I) "set_iterator":=⟨o,ho,hc⟩;unfold pyNext;refine X0 (Zd (Y7 (name:=Str.ofString "__next__") hT slot_next (Xy slot_next hT jwf ?_ (jxk _))));show wpAny _ _ (fieldsOf (.ref I) >>= _) _ _ s;refine X0 (Z9 ho hd ?_);show wpAny _ _ (setEntries a >>= _) _ _ s;refine X0 (wpAny_setEntries_of i' bc hf ?_);rw[Xb (by rw[hn];simp)];show wpAny _ _ (setNext a ((sl:Int)).toNat ((i:Int)).toNat ((ep:Int)).toNat >>= _) _ _ s;rw[Xu,Xu,Xu];refine X0 (hN _ _ _ ?_);refine X0 (Ye ho hd (by simp) ?_);show wpAny _ _ (newExc (.type "StopIteration") [] >>= _) _ _ _;refine X0 ?_;simp only[newExc,newTuple];refine X0 (Xp ?_ (by size_fits));refine X0 (m:=firstArgMember _ _) (wpAny_of_eq (a:=Value.none) (by first|rfl|(simp only[firstArgMember];rfl)) ?_);refine Xp ?_ (by size_fits);simp only[raiseNew];refine X0 (wpAny_handled ?_);rw[show A.in1.handled=none from hh];refine X0 (X1 (wpAny_throw ?_));refine X0 (wpAny_isInstance (T:="StopIteration") (b:=true) ⟨_,X6 _ rfl,rfl⟩ isSubtype_stop ?_);exact X1 (hQ _ (((Xx ..).extBut.push _).push _))
theorem wx6{I a T:Addr}{i n ep:Nat}{pl:List Nat}{Q:Option Value->Shared->Prop}(hh:A.handled=none)(fb:It s.heap I a (.ref T) i n ep)(hs:Stn s.heap a n ep)(sf:∃o k,s.heap.get? T=some o/\o.data=.seq (pl.map λ(j:Nat)=>rawInt j).toArray k)
  (hp:pl[i]?=none) (hQ:∀h',Heap.ExtBut I s.heap h'->Q none { s with heap:=h' }):wpAny (model prog w) A (pyNext (.ref I)) Q E s:=by
 obtain⟨o,ho,hc,hd⟩:=fb;obtain⟨os,es,t,i',bc,hf,hn⟩:=hs;obtain⟨oT,kT,hoT,ny⟩:=sf;have hT:s.TypeIs (.ref I) "set_iterator":=⟨o,ho,hc⟩;unfold pyNext;refine X0 (Zd (Y7 (name:=Str.ofString "__next__") hT slot_next (Xy slot_next hT jwf ?_ (jxk _))));show wpAny _ _ (fieldsOf (.ref I) >>= _) _ _ s;refine X0 (Z9 ho hd ?_);show wpAny _ _ (setEntries a >>= _) _ _ s;refine X0 (wpAny_setEntries_of i' bc hf ?_);rw[Xb (by rw[hn];simp)];show wpAny _ _ (seqItems? (.ref T) >>= _) _ _ s;refine X0 (wpAny_seqItems hoT ny ?_);have hg:(pl.map λ(j:Nat)=>rawInt j).toArray[((i:Int)).toNat]?=none:=by
  rw[Xu,List.getElem?_toArray,Xn,hp];rfl
 dsimp only;rw[hg];have p7:=Yn hd (·.setIfInBounds 0 (rawInt 0));have je:=Xz (Obj.mapFields (·.setIfInBounds 0 (rawInt 0))) ho (Yw p7);refine X0 (Ye ho hd (by simp) ?_);refine X0 (Ye je p7 (by simp) ?_);show wpAny _ _ (newExc (.type "StopIteration") [] >>= _) _ _ _;refine X0 ?_;simp only[newExc,newTuple];refine X0 (Xp ?_ (by size_fits));refine X0 (m:=firstArgMember _ _) (wpAny_of_eq (a:=Value.none) (by first|rfl|(simp only[firstArgMember];rfl)) ?_);refine Xp ?_ (by size_fits);simp only[raiseNew];refine X0 (wpAny_handled ?_);rw[show A.in1.handled=none from hh];refine X0 (X1 (wpAny_throw ?_));refine X0 (wpAny_isInstance (T:="StopIteration") (b:=true) ⟨_,X6 _ rfl,rfl⟩ isSubtype_stop ?_);exact X1 (hQ _ ((((Xx ..).trans (Xx ..)).extBut.push _).push _))
end
section
variable {prog:Program}{w:World}{A:Around}{E:Value->Shared->Prop}{s:Shared}
theorem qqk(hh:A.handled=none)(I a:Addr)(bj:a≠I){o:Obj}{es:Array (Int×Value)}{ep:Nat}{t:SetTable}(hd:o.data=.set es ep t)(hf:t.fits es.size=true){cq:List Value}(hl:cq.length=es.size)(sl:Nat->Nat)
  (hN:∀(i:Nat) (s:Shared) (A':Around) (E':Value->Shared->Prop) (R:Option (Value×Nat)->Shared->Prop),s.heap.get? a=some o->i<=es.size->R (cq[i]?.map λv=>(v,sl (i+1))) s->wpAny (model prog w) A' (setNext a (sl i) i ep) R E' s):
  Walks prog w A I [I,a] [I] es.size (λi v=>cq[i]?=some v) (λi h=>It h I a (.int (sl i) 0) i es.size ep/\h.get? a=some o) where
 sub:=λb hb=>by simp at hb;simp[hb]
 frame:=λ_ _ _ st hk=>⟨st.1.at' λo e=>hk I (by simp) o e,hk a (by simp) _ st.2⟩
 item:=λi s Q E hi st hQ=>by
  have hv:cq[i]?=some (cq[i]'⋯):=X2 _;refine wkx (nx:=sl (i+1)) (v:=cq[i]'⋯) st.1 ⟨o,es,t,st.2,hd,hf,rfl⟩ (λA' E' R hR=>hN i s A' E' R st.2 (Nat.le_of_lt hi) (by rw[hv];exact hR)) λh' gy gw=>?_
  exact hQ _ h' s.toks hv ⟨gy,(gw.extBut a o bj st.2)⟩ λb o hb e=>gw.extBut b o (λh=>hb (by simp[h])) e
 done:=λs Q E st hQ=>by
  refine wx7 hh st.1 ⟨o,es,t,st.2,hd,hf,rfl⟩ (λA' E' R hR=>hN es.size s A' E' R st.2 (X8 _) (by rw[Yl ⋯];exact hR)) λh' he=>?_
  exact hQ h' s.toks λb o hb e=>he b o (λh=>hb (by simp[h])) e
 self:=λ_ _ _ _ st hQ=>qv1 st.1 hQ
theorem vqp(hh:A.handled=none)(I a T:Addr)(bj:a≠I)(hneT:T≠I){o oT:Obj}{es:Array (Int×Value)}{ep k:Nat}{t:SetTable}(hd:o.data=.set es ep t)(hf:t.fits es.size=true){pl:List Nat}(hp:pl.Perm (List.range es.size))(ny:oT.data=.seq (pl.map λ(j:Nat)=>rawInt j).toArray k):
  Walks prog w A I [I,a,T] [I] es.size (λi v=>(pl.map λj=>(es.getD j (0,.none)).2)[i]?=some v) (λi h=>It h I a (.ref T) i es.size ep/\h.get? a=some o/\h.get? T=some oT) where
 sub:=λb hb=>by simp at hb;simp[hb]
 frame:=λ_ _ _ st hk=>⟨st.1.at' λo e=>hk I (by simp) o e,hk a (by simp) _ st.2.1,hk T (by simp) _ st.2.2⟩
 item:=λi s Q E hi st hQ=>by
  have av:pl.length=es.size:=by rw[hp.length_eq,Yj]
  have hv:pl[i]?=some (pl[i]'⋯):=X2 _;have bv:pl[i]'⋯<es.size:=List.mem_range.mp (hp.mem_iff.mp (Y8 _));refine wkw (p:=pl[i]'⋯) (v:=(es.getD (pl[i]'⋯) (0,.none)).2) st.1 ⟨o,es,t,st.2.1,hd,hf,rfl⟩ ⟨oT,k,st.2.2,ny⟩ hv (λA' E' R hR=>?_) λh' gy gw=>?_
  ·unfold setNextDrawn;refine X0 (Zc st.2.1 hd hf ?_);dsimp only;rw[Xb (by simp),Yd bv];refine X1 ?_;rw[Array.getD_eq_getD_getElem?,Yd bv]at hR;exact hR
  ·exact hQ _ h' s.toks (by rw[Xn,hv];rfl) ⟨gy,(gw.extBut a o bj st.2.1),(gw.extBut T oT hneT st.2.2)⟩ λb o hb e=>gw.extBut b o (λh=>hb (by simp[h])) e
 done:=λs Q E st hQ=>by
  have av:pl.length=es.size:=by rw[hp.length_eq,Yj]
  refine wx6 hh st.1 ⟨o,es,t,st.2.1,hd,hf,rfl⟩ ⟨oT,k,st.2.2,ny⟩ (Yl ⋯) λh' he=>?_
  exact hQ h' s.toks λb o hb e=>he b o (λh=>hb (by simp[h])) e
 self:=λ_ _ _ _ st hQ=>qv1 st.1 hQ
theorem qw4(lh:tx w=true){a:Addr}{o:Obj}{es:Array (Int×Value)}{ep:Nat}{t:SetTable}(hd:o.data=.set es ep t)(hf:t.fits es.size=true):
  ∀(i:Nat) (s:Shared) (A':Around) (E':Value->Shared->Prop) (R:Option (Value×Nat)->Shared->Prop),s.heap.get? a=some o->i<=es.size->R (((pickOrder (w.params.setOrder a ep) es).toList.map (·.2))[i]?.map λv=>(v,0)) s->wpAny (model prog w) A' (setNext a 0 i ep) R E' s:=by
 intro i s A' E' R ho hi hR;unfold setNext;refine X0 (Zc ho hd hf ?_);unfold setsByText;refine X0 (X0 (Zg (X1 ?_)));show wpAny _ _ (if tx w=true then _ else _) _ _ _;rw[X9 lh];rw[Xb (by simp)];unfold setWalk;refine X0 (X0 (Zc ho hd hf ?_));unfold setsByText;refine X0 (X0 (Zg (X1 ?_)));show wpAny _ _ (if tx w=true then _ else _) _ _ _;rw[X9 lh];refine X0 (Zg (X1 ?_));refine X1 ?_;rw[Xn,Yb,Option.map_map]at hR;exact hR
end
section
variable {prog:Program}{w:World}{A:Around}{E:Value->Shared->Prop}{s:Shared}
theorem qx8{t:SetTable}{n:Nat}(h:t.fits n=true):t.place.size=n:=by
 simp only[SetTable.fits,Bool.and_eq_true,beq_iff_eq]at h;exact h.1
def sl1(t:SetTable)(i:Nat):Nat:=if i=0 then 0 else t.place.getD 0 0+1
theorem vjd(lh:tx w=false){a:Addr}{o:Obj}{es:Array (Int×Value)}{ep:Nat}{t:SetTable}(hk:Ok prog w o es ep t)(h1:es.size<=1):
  ∀ (i:Nat) (s:Shared) (A':Around) (E':Value->Shared->Prop) (R:Option (Value×Nat)->Shared->Prop),s.heap.get? a=some o->i<=es.size->R ((es.toList.map (·.2))[i]?.map λv=>(v,sl1 t (i+1))) s->wpAny (model prog w) A' (setNext a (sl1 t i) i ep) R E' s:=by
 intro i s A' E' R ho hi hR;have hsz:=qx8 hk.f;unfold setNext;refine X0 (Zc ho hk.d hk.f ?_);unfold setsByText;refine X0 (X0 (Zg (X1 ?_)));show wpAny _ _ (if tx w=true then _ else _) _ _ _;rw [Xb (by rw[lh];decide)];show wpAny _ _ (if(!t.plain&&decide (es.size>1))=true then _ else _) _ _ _;rw [Xb (by rw[Xh ⋯];simp)];show wpAny _ _ ((if(!t.led && !es.isEmpty)=true then _ else pure ()) >>= _) _ _ _;rw [Xb (by rw[hk.led,lh];simp)];refine X0 (X1 ?_);refine X1 ?_;obtain⟨es⟩:=es;obtain⟨mask,⟨pl⟩,du,fi,le,mo,pln⟩:=t;cases es with
 | nil=>
  cases pl with
  | nil=>
   have hi0:i=0:=by simpa using hi
   subst hi0;exact hR
  | cons=>cases hsz
 | cons e es=>
  cases es with
  | cons=>exact absurd h1 (by simp)
  | nil=>
   cases pl with
   | nil=>cases hsz
   | cons p pl=>
    cases pl with
    | cons=>cases hsz
    | nil=>
     have hb0:SetTable.below #[p] 0=0:=by
      show SetTable.below.go #[p] 0 1 0 1=0;unfold SetTable.below.go;rw[X9 ⋯,Xb (by simp)];rfl
     have hb1:SetTable.below #[p] (p+1)=1:=by
      show SetTable.below.go #[p] (p+1) 1 0 1=1;unfold SetTable.below.go;rw[X9 ⋯,X9 (by simp)];rfl
     rcases(show i=0\/i=1 by have:i<=1:=hi;omega)with rfl|rfl
     ·show R (match (#[e]:Array (Int×Value))[SetTable.below #[p] 0]?,(#[p]:Array Nat)[SetTable.below #[p] 0]? with|some (_,x),some j=>some (x,j+1)|_,_=>none) s;rw[hb0];exact hR
     ·show R (match (#[e]:Array (Int×Value))[SetTable.below #[p] (p+1)]?,(#[p]:Array Nat)[SetTable.below #[p] (p+1)]? with|some (_,x),some j=>some (x,j+1)|_,_=>none) s;rw[hb1];exact hR
theorem qqm{es:Array (Int×Value)}{pl:List Nat}(hp:pl.Perm (List.range es.size)):(pl.map λj=>(es.getD j (0,.none)).2).Perm (es.toList.map (·.2)):=by
 refine(hp.map _).trans (.of_eq ?_);apply List.ext_getElem
 ·simp
 ·intro i h1 h2;simp at h1;simp[Array.getD_eq_getD_getElem?,h1]
end
section
variable {prog:Program}{w:World}{A:Around}{E:Value->Shared->Prop}{s:Shared}
theorem vjx{a:Addr}{o:Obj}{es:Array (Int×Value)}{ep:Nat}{t:SetTable}(ho:s.heap.get? a=some o)(hk:Ok prog w o es ep t){Q:Bool->Shared->Prop}(h:Q (!tx w&&(!t.plain&&decide (es.size>1))) s):wpAny (model prog w) A (setDrawn a) Q E s:=by
 unfold setDrawn;refine X0 (Zc ho hk.d hk.f ?_);unfold setsByText;refine X0 (X0 (Zg (X1 ?_)));exact X1 h
theorem vwi{a:Addr}{o:Obj}{es:Array (Int×Value)}{ep:Nat}{t:SetTable}{Q:Value->Shared->Prop}(ho:s.heap.get? a=some o)(hk:Ok prog w o es ep t)
  (h:∀(h':Heap) (d:Drawn) (I:Addr) (fp:List Addr) (cq:List Value) (St:Nat->Heap->Prop),(∀b o,s.heap.get? b=some o->h'.get? b=some o)->s.heap.objs.size<=I->(∀b∈fp,b=a\/s.heap.objs.size<=b) ->
   (∀A':Around,A'.handled=none->Walks prog w A' I fp [I] es.size (λi v=>cq[i]?=some v) St)->St 0 h'->cq.Perm (es.toList.map (·.2))->Q (.ref I) { s with heap:=h',drawn:=d }):wpAny (model prog w) A (pyIter (.ref a)) Q E s:=by
 have hT:s.TypeIs (.ref a) "set":=⟨o,ho,hk.ex.1⟩;have iw:a<s.heap.objs.size:=Xa ho;refine wpAny_pyIter_slot hT F.slot_set_iter (Xy F.slot_set_iter hT qq6 ?_ (qz2 _));unfold Builtin.«frozenset.__iter__» Builtin.Frozenset.slot0 slotArgs;simp only[List.isEmpty_nil,Bool.not_true,Bool.false_eq_true,↓reduceIte,bind_assoc,List.length_nil,bne_self_eq_false];unfold Builtin.Frozenset.addrOf Builtin.Frozenset.sizeOf;refine X0 (X1 ?_)
 try dsimp only
 refine X0 (X1 ?_);refine X0 (X0 (wpAny_setEntries_of ho hk.d hk.f (X1 ?_)));refine X0 (vjx ho hk ?_)
 by_cases hdr:(!tx w&&(!t.plain&&decide (es.size>1)))=true
 ·rw [X9 hdr];refine X0 (drawn es.size _ s (by simp) λpl d hp=>?_);refine X0 (wpAny_newTuple ?_ (hsz:=by rw[X4,hp.length_eq,Yj];exact fits_of_scanBound hk.b));refine X0 (wpAny_setEpoch_of (X3 _ ho) hk.d hk.f ?_);refine X0 (Xp (X1 ⟨_,rfl,"set_iterator",_,⟨_,X6 _ rfl,rfl⟩,slot_next.lookup,?_⟩));have hsz:(s.heap.push (seqObj "tuple" (pl.map λ(i:Nat)=>rawInt i).toArray 0)).objs.size=s.heap.objs.size+1:=Zf ..;refine h _ d _ [_,a,s.heap.objs.size] (pl.map λj=>(es.getD j (0,.none)).2) _ (λb o e=>X3 _ (X3 _ e)) (by rw[hsz];exact Zh _) (λb hb=>?_)
   (λA' hh=>vqp hh _ a s.heap.objs.size (by rw[hsz];exact Xg (Nat.lt_succ_of_lt iw)) (by rw[hsz];exact Xg (Nat.lt_succ_self _)) (o:=o) (oT:=seqObj "tuple" (pl.map λ(i:Nat)=>rawInt i).toArray 0) hk.d hk.f hp rfl)
   ⟨⟨_,X6 _ rfl,rfl,rfl⟩,X3 _ (X3 _ ho),X3 _ (X6 _ rfl)⟩ (qqm hp)
  rcases aD hb with rfl|hb
  ·exact .inr (by rw[hsz];exact Zh _)
  rcases aD hb with rfl|hb
  ·exact .inl rfl
  ·rw[aC hb];exact .inr (X8 _)
 ·rw [Xb hdr];refine X0 (X1 ?_);refine X0 (wpAny_setEpoch_of ho hk.d hk.f ?_);refine X0 (Xp (X1 ⟨_,rfl,"set_iterator",_,⟨_,X6 _ rfl,rfl⟩,slot_next.lookup,?_⟩));have hfp:∀b∈[s.heap.objs.size,a],b=a\/s.heap.objs.size<=b:=λb hb=>by
   rcases aD hb with rfl|hb
   ·exact .inr (X8 _)
   ·exact .inl (aC hb)
  cases lh:tx w with
  | true=>
   refine h _ s.drawn _ [_,a] ((pickOrder (w.params.setOrder a ep) es).toList.map (·.2)) _ (λb o e=>X3 _ e) (X8 _) hfp
    (λA' hh=>qqk hh _ a (Xg iw) (o:=o) hk.d hk.f (by rw[X4,(kw4 _ es).length_eq,Xi]) (λ_=>0) (qw4 lh hk.d hk.f))
    ⟨⟨_,X6 _ rfl,rfl,rfl⟩,X3 _ ho⟩ ((kw4 _ es).map _)
  | false=>
   have h1:es.size<=1:=by
    rcases hk.pl with hp|hp
    ·rw[lh,hp]at hdr;simp at hdr;exact hdr
    ·omega
   refine h _ s.drawn _ [_,a] (es.toList.map (·.2)) _ (λb o e=>X3 _ e) (X8 _) hfp
    (λA' hh=>qqk hh _ a (Xg iw) (o:=o) hk.d hk.f (by rw[X4,Xi]) (sl1 t) (vjd lh hk h1))
    ⟨⟨_,X6 _ rfl,rfl,rfl⟩,X3 _ ho⟩ (.refl _)
theorem vwq{a:Addr}{Q:Bool->Shared->Prop}(hT:s.TypeIs (.ref a) "set")(h:Q false s):wpAny (model prog w) A (Builtin.List.listLengthHint (.ref a)) Q E s:=by
 unfold Builtin.List.listLengthHint;refine X0 (Z2 hT F.slot_set_len.lookup ?_);generalize lp:("set.__len__":String)=id0
 wp_delta
 rw[show splitId id0=some ("set","__len__")from by subst lp;decide +kernel];subst lp;refine X0 (wpAny_isInstance (T:="set") (b:=true) hT sub_set_self ?_);refine wpAny_ite_split (λml=>absurd ml ⋯) (λ_=>?_);refine wpAny_ite_split (λ_=>?_) (λml=>absurd (by decide +kernel) ml);refine X0 (wpAny_typeOf hT ?_);exact X1 h
theorem qqs:∀{vs:List Value},(∀v∈vs,∃x t,v=Value.str x t)->StrsAre vs (vs.map strOf)
 |[],_=>.nil
 |v::vs,h=>by
  obtain⟨x,t,rfl⟩:=h v X7;exact .cons x t (qqs λv hv=>h v (lc9 _ hv))
theorem qq8{a:Addr}{ls:List Str}{Q:List Value->Shared->Prop}(hh:A.handled=none)(hS:Has prog w s.heap a ls)
  (h:∀(h':Heap) (d:Drawn) (tk:Nat) (vs:List Value) (ss:List Str),(∀b o,s.heap.get? b=some o->h'.get? b=some o)->s.heap.objs.size<h'.objs.size->StrsAre vs ss->ss.Perm ls->Q vs { s with heap:=h',drawn:=d,toks:=tk }):
  wpAny (model prog w) A (collect (.ref a)) Q E s:=by
 obtain⟨o,es,ep,t,ho,hk,hp⟩:=hS;have iw:a<s.heap.objs.size:=Xa ho;unfold collect;refine X0 (wpAny_runValue (Z3 F.entry_proto_collect ?_));rw[Yo F.plain_proto_collect _];show wpAny _ A.in1 (newList [] >>= λl=>again (.builtin "list.__iadd__" ⟨[l,.ref a],[]⟩)) _ _ s;refine X0 (Xp ?_);refine X1 ⟨plainId_quiet F.plain_list_iadd _,Z3 F.entry_list_iadd ?_⟩;rw[Yo F.plain_list_iadd _];have je:(s.heap.push { cls:=.type "list",data:=.seq ([]:List Value).toArray }).get? a=some o:=X3 _ ho;have hT1:Shared.TypeIs { s with heap:=s.heap.push { cls:=.type "list",data:=.seq ([]:List Value).toArray } } (.ref a) "set":=⟨o,je,hk.ex.1⟩;show wpAny _ A.in1 (Builtin.List.listExtendWith (.ref s.heap.objs.size) (.ref a) (.ref s.heap.objs.size)) _ _ _;unfold Builtin.List.listExtendWith;refine X0 (wpAny_typeOf hT1 ?_);have h1:Builtin.List.listSameRef (.ref s.heap.objs.size) (.ref a)=false:=by simp[Builtin.List.listSameRef];exact Nat.ne_of_gt iw
 have h2:(Value.type "set" == Value.type "list")=false:=⋯
 have h3:(Value.type "set" == Value.type "tuple")=false:=⋯
 simp only[h1,h2,h3,Bool.or_false,Bool.false_eq_true,if_false];refine X0 (vwi je hk λh' d I fp cq St dz hI hfp W st0 hv=>?_);refine X0 (Y0 (vwq ⟨o,dz _ _ je,hk.ex.1⟩ ?_));show wpAny _ A.in1 (PySem.rule "list.extend.makes-room" >>= λ_=>Builtin.List.listTouch (.ref s.heap.objs.size) >>= λ_=>
  again (.builtin "list.extend.loop" ⟨[.ref s.heap.objs.size,.ref I,.ref s.heap.objs.size],[]⟩)) _ _ _
 refine X0 (Z8 ?_);have hsz:(s.heap.push { cls:=.type "list",data:=.seq ([]:List Value).toArray }).objs.size=s.heap.objs.size+1:=Zf ..;have hI':s.heap.objs.size+1<=I:=by rw[<-hsz];exact hI
 have md:s.heap.objs.size∉fp:=λhm=>by
  rcases hfp _ hm with e|e
  ·exact absurd e (Nat.ne_of_gt iw)
  ·have e:s.heap.objs.size+1<=s.heap.objs.size:=by rw[<-hsz];exact e
   exact absurd e (Nat.not_succ_le_self _)
 have hS₁:h'.get? s.heap.objs.size=some { cls:=.type "list",data:=.seq ([]:List Value).toArray }:=dz _ _ (X6 _ rfl);refine X0 ?_;show wpAny _ A.in1 (updateSeq s.heap.objs.size (·.push .none) >>= λ_=>updateSeq s.heap.objs.size (·.pop)) _ _ _;refine X0 (wpAny_updateSeq hS₁ rfl ?_);have hS₂:=Xz (Obj.mapSeq (·.push Value.none)) hS₁ rfl;refine wpAny_updateSeq hS₂ rfl ?_;have hS₃:=Xz (Obj.mapSeq (·.pop)) hS₂ rfl;have oth:∀b o,b≠s.heap.objs.size->h'.get? b=some o->((h'.update s.heap.objs.size (Obj.mapSeq (·.push Value.none))).update s.heap.objs.size (Obj.mapSeq (·.pop))).get? b=some o:=
  λb o hb e=>(Z6 _ _ (Ne.symm hb)).trans ((Z6 _ _ (Ne.symm hb)).trans e)
 have WW:=W A.in1 hh;have av:cq.length=es.size:=by rw[hv.length_eq,X4,Xi]
 refine X1 ⟨plainId_quiet F.plain_extend_loop _,codeAny_extend_loopS WW.toS (fits_of_scanBound hk.b) _ md _ es.size 0 _ _ _ rfl (Yg _) (WW.frame 0 h' _ st0 λb hb o e=>oth b o (λe'=>md (e'▸hb)) e) hS₃ (ItemsOf.nil _) λs' f7 c' hm jd bb=>?_⟩;show wpAny _ A (load s.heap.objs.size >>= _) _ _ s';refine X0 (wpAny_load jd ?_);have mf:f7.toList=cq:=by
  apply List.ext_getElem?;intro j
  by_cases hj:j<es.size
  ·have hj1:j<f7.size:=by rw[bb.1];exact hj
   rw[Yb,Yd hj1];exact(bb.2 j _ (Yd hj1)).symm
  ·rw[Yl (by rw[Xi,bb.1];omega),Yl ⋯]
 refine X1 ?_;rw[mf,Moved.eq_with hm];refine h _ d _ cq (cq.map strOf) (λb o e=>?_) (Xa jd) ?_ ?_
 ·have hb:b<s.heap.objs.size:=Xa e;have hbS:b≠s.heap.objs.size:=Xg hb;refine hm.heap b o (λhmem=>?_) (oth b o hbS (dz b o (X3 _ e)));rcases aD hmem with e'|hmem
  ·exact hbS e'
  ·rw[aC hmem]at hb;exact absurd hb (Nat.not_lt.mpr (Nat.le_of_succ_le hI'))
 ·exact qqs λv hvm=>by
   obtain⟨e,he,rfl⟩:=aE (hv.mem_iff.mp hvm);exact vqb hk.el he
 ·refine((hv.map strOf).trans (.of_eq ?_)).trans hp;rw[Xs];rfl
end
section
variable {prog:Program}{w:World}{A:Around}{E:Value->Shared->Prop}{s:Shared}
theorem qkd{a:Addr}{ls:List Str}{Q:Value->Shared->Prop}(hh:A.handled=none)(hS:Has prog w s.heap a ls)(h64:ls.length<64)
  (h:∀(h':Heap) (d:Drawn) (tk l e:Nat) (out:Array Value) (ss:List Str),(∀b o,s.heap.get? b=some o->h'.get? b=some o)->s.heap.objs.size<=l->h'.get? l=some (seqObj "list" out e)->StrsAre out.toList ss->ss.Perm ls->sortedS ss=true->Q (.ref l) { s with heap:=h',drawn:=d,toks:=tk }):
  wpAny (model prog w) A (call (.builtin "sorted") [.ref a]) Q E s:=by
 refine Calls.call_function_entry kind_sorted plain_sorted entry_sorted (args_sorted1 _) ?_;unfold Builtin.«sorted»;refine X0 (m:=checkCount "sorted" 1 1 _) (X1 ?_);refine X0 (qq8 (by simpa using hh) hS λh' d tk vs ss dz hsz hv hp=>?_);have h64':vs.length<64:=by rw[kqh hv,hp.length_eq];exact h64
 refine X0 (wpAny_newList ?_ (hsz:=by rw[sizeLine_eq];omega));have so:(h'.push (seqObj "list" vs.toArray 0)).get? h'.objs.size=some (seqObj "list" vs.toArray 0):=X6 _ rfl;refine X0 (Y0 (Xy slot_list_sort ⟨_,so,rfl⟩ entry_list_sort (list_sort_treeK strKind_oneLt so hv.keysOf (λv₁ v₂ jq e=>keyKind_strs (by rw[<-e];exact hv)) h64' λdh a1 a2=>⟨_,rfl,?_⟩) (args_list_sort _)));obtain⟨lg,h1,h2,h3⟩:=sorted_out_str hv a1 a2;obtain⟨e,he⟩:=sortedHeap_at (out:=(arrOf dh).map (·.2)) so;refine X1 ⟨_,rfl,h _ d tk _ e _ lg (λb o q=>?_) (Nat.le_of_lt hsz) he h1 (h2.trans hp) h3⟩;have hb:=Xa (dz b o q);show(sortedHeap (h'.push (seqObj "list" vs.toArray 0)) h'.objs.size vs _).get? b=some o;rw[sortedHeap_old (Xg hb) (by rw[size_push'];exact Nat.lt_succ_of_lt hb)];exact X3 _ (dz b o q)
end
end Sw
namespace Q
open PySem PySem.Spec PyProof.Rows L2 L3 Sw
section
variable {X:Cx}{Z:Fx0}{K:Frag}{q:Bool}{a:Ex}{e ea:Expr}{O:L2.St}{H:Hp}{pos p p2 ez:Pos}{x y:Str}{pins:List (Addr×Obj)}{s:Shared}
theorem Inv.dr{d:Drawn}(I:L2.Inv X pins O H s):L2.Inv X pins O H { s with drawn:=d }:=⟨I.ok,I.os,I.bare,I.base,I.loc,I.cell,I.free,I.freeC,I.pin,I.hok,I.len⟩
def wzj(X:Cx)(f:Value)(r:List Str->Hp->VK->Prop):Prop:=
 ∀(pins:List (Addr×Obj)) (s:Shared) (O:L2.St) (H:Hp) (b:Addr) (ls:List Str) (Q:VK),L2.Inv X pins O H s->Has X.prog X.w s.heap b ls->r ls H Q->wpAny (model X.prog X.w) X.A (call f [.ref b]) (EP X pins O Q) X.xe s
def wvw(K:Frag)(r:List Str->Hp->VK->Prop):List V->Hp->VK->Prop:=λxs H Q=>∃p ss,xs=[.ref p]/\SqL K H p (ss.map V.str)/\ss.length<4000/\r (dd ss) H Q
theorem vvq{id:String}{r:List Str->Hp->VK->Prop}{t:TE}(hc:X.calm=true)(hf:wzj X (.builtin id) r)(hg:Gl X x)(hm:X.mg x=none)(hv:bootBuiltins x=some (.builtin id))(pd:Gl X "set")(lf:X.mg "set"=none)(hv2:bootBuiltins "set"=some (.type "set"))
  (ha:PE X e t) (hn:autoParam (x≠"__name__") ŕ) (df:autoParam ((x==("__debug__":Str))=false) ŕ) (ou:autoParam (("set":Str)≠"__name__") ŕ) (hdb2:autoParam ((("set":Str)==("__debug__":Str))=false) ŕ)
  (he:autoParam (starEach [e] X.env=(false,eval e X.env)::starEach [] X.env) Ŕ):
  PE X (.Call (.Name x p) [.Call (.Name "set" p2) [e] [] ez] [] pos) (fun O H Q=>t O H λv H1=>wvw X.K r [v] H1 Q):=by
 intro pins s O H Q I h;refine Yx (Q7 I hg hm hv ?_ hn df);refine PyProof.Rows.callWith_builtin1 ?_ rfl rfl;show wpAny _ _ (spliced ((false,eval (.Call (.Name "set" p2) [e] [] ez) X.env)::[])) _ _ s;refine Calls.spliced_cons ?_;refine Yx (Q7 I pd lf hv2 ?_ ou hdb2);refine Yh (thn (qY ha wW he ez pins s O H (λvs H1=>wvw X.K r vs H1 Q) I ?_) λus s1 ⟨vs,H1,I1,r1,q1⟩=>?_) he rfl
 ·exact h
 obtain⟨b,ss,rfl,hq,hl,q⟩:=q1;obtain⟨u,rfl,rx⟩:=zW r1;cases rx;obtain⟨ai,r',pl,hz⟩:=I1.list hq;have av:=r'.length;rw[X4]at av hz;refine vk3 (I1.ok.hd hc) pl.isList (by simpa using qkc r') (by simp;unfold scanBound;omega) λh' tk hS dz=>?_
 have I2:L2.Inv X pins O H1 { s1 with heap:=h',toks:=tk }:=I1.kept λb u q=>dz b u (Xa q) q
 exact Calls.spliced_nil (hf pins _ O H1 _ (dd ss) Q I2 hS q)
theorem qkg(hc:X.calm=true):wzj X (.builtin "sorted") (λls H Q=>ls.length<64/\∀l,H l=none->Q (.ref l) (upd H l (.lst ((zZ ls).map V.str)))):=by
 intro pins s O H b ls Q I hS h;refine qkd (I.ok.hd hc) hS h.1 λh' d tk l e out ss dz hl hg h1 h2 h3=>?_
 have e1:=qzh h2 h3;subst e1;have hz:(zZ ls).length<=sizeLine:=by rw[(jwb ls).length_eq,sizeLine_eq];omega
 refine⟨.ref l,_,Inv.dr (I.laid (t':=tk) (o:=.lst ((zZ ls).map V.str)) dz hl ?_),rfl,h.2 l (I.hok.fresh hl)⟩;exact⟨by rw[X4];exact hz,out.toList,e,qql h1,by simpa using hg⟩
end
section
variable {X:Cx}{Z:Fx0}{K:Frag}{q:Bool}{a:Ex}{e ea:Expr}{O:L2.St}{H:Hp}{pos p p2 ez:Pos}{x y:Str}{pins:List (Addr×Obj)}{s:Shared}
theorem wqh{ss:List Str}{z:Str}(h:z∈ddS ss):z∈ss:=by
 have:∀(l aq:List Str),z∈l.foldl (λl k=>if l.any (· == k)then l else l++[k]) aq->z∈aq\/z∈l:=by
  intro l
  induction l with
  | nil=>intro aq h;exact .inl h
  | cons k l ih=>
   intro aq h;rcases ih _ h with h|h
   ·dsimp only at h
    split at h
    ·exact .inl h
    ·rcases aA h with h|h
     ·exact .inl h
     ·exact .inr (by rw[aC h];exact X7)
   ·exact .inr (lc9 _ h)
 rcases this ss [] h with h|h
 ·cases h
 ·exact h
def rSS(K:Frag):List V->Hp->VK->Prop:=wvw K λls H Q=>ls.length<64/\∀l,H l=none->Q (.ref l) (upd H l (.lst ((zZ ls).map V.str)))
theorem qqd:Ad1 K (λv H Q=>rSS K [v] H Q) XQ:=by
 intro H x s Q ok hf k;unfold XQ at hf;dsimp only at hf;cases hx:x.d with
 | lst ds=>
  rw[hx]at hf;dsimp only at hf;obtain⟨l,xs,bs,ev,q3,r3,_⟩:=items ok (.inl hx);have q3:LsR K H l xs:=by rcases q3 with⟨_,z⟩|⟨z,_⟩;exact z;rw[hx]at z;cases z
  cases hs:J5 ds with
  | some ss=>
   rw[hs]at hf;dsimp only at hf
   split at hf
   ·rename_i hl;cases oq9 hf;obtain⟨e1,e2⟩:=kqg hs r3;subst e1;refine⟨l,ss,by rw[ev],K7 q3,⋯,Nat.lt_of_le_of_lt (wqi ss) hl,λp hp=>?_⟩;exact k ⟨.rt,.lst _,.ref p,p::[]⟩ _ rfl rfl (V2 hp (qj0 λz hz=>e2 z (wqh ((jwb _).mem_iff.mp hz))) λb hb=>nomatch hb)
   ·cases hf
  |none=>rw[hs]at hf;cases hf
 |_=>rw[hx]at hf;cases hf
theorem qvg(hK:X.K=Z.K)(hc:X.calm=true)(ha:QV X Z q a ea)(hm:X.mg "sorted"=none)(lf:X.mg "set"=none)(hg:autoParam (Gl X "sorted") Ŕ)(pd:autoParam (Gl X "set") Ŕ)(he:autoParam (starEach [ea] X.env=(false,eval ea X.env)::starEach [] X.env) Ŕ):
  QE X Z q (cF1 XQ a) (.Call (.Name "sorted" p) [.Call (.Name "set" p2) [ea] [] ez] [] pos):=
 qk (vvq hc (qkg hc) hg hm rfl pd lf rfl ha (he:=he)) fun O H Q h=>by
  have:=XZ (r:=λv H Q=>rSS Z.K [v] H Q) qqd h;rw[hK];exact this
end
end Q
namespace Q
open PySem
def VX(z:Str):Str:=⟨((List.range z.length).map λk=>z.cps.getD (z.length - 1 - k) 0).toArray⟩
def qxb:D->Option D
 |.str z=>if z.length<=sizeLine then some (.str (VX z))else none|_=>none
end Q
namespace Q
open PySem PySem.Spec PyProof.Rows L2 L3
section
variable {X:Cx}{Z:Fx0}{K:Frag}{H:Hp}{q g:Bool}{a:Ex}{e:Expr}{p2 pos:Pos}{x:Str}{d:D}{ds:List D}{v:V}{vs:List V}
theorem vzp(z:Str)(u:Tok):Txt.sliceBy z none none (-1,u)=VX z:=by
 have h:=step_rev_list z u;unfold VX;cases hz:Txt.sliceBy z none none (-1,u)with
 |mk c=>
  rw[hz]at h
  congr 1
  exact Array.toList_inj.mp (by rw[h,List.toList_toArray])
def vzs:V->Hp->VK->Prop:=λv H Q=>∃z:Str,v=.str z/\z.length<=sizeLine/\Q (.str (VX z)) H
theorem vvr{te:TE}{d':Expr}(he:PE X e te)(cb:PE X d' (tC (.int (-1)))):PE X (.Subscript e (.Slice none none (some d') p2) pos) (tUn vzs te):=by
 intro pins s O H Q I h;refine Subscript_ (thn (he pins s O H _ I h) λv s1 ⟨x,H1,I1,r1,q1⟩=>?_);obtain⟨z,rfl,hz,q⟩:=q1;obtain⟨t0,rfl⟩:=r1;refine wpAny_Slice (evalPart_none_step (evalPart_none_step (evalPart_some_step (thn (cb pins s1 O H1 (λy H2=>y=.int (-1)/\H2=H1) I1 ⟨rfl,rfl⟩) λvs s2 ⟨y,H2,I2,r2,q2⟩=>?_))));obtain⟨rfl,rfl⟩:=q2;obtain⟨t,rfl⟩:=r2;have I4:Inv X pins O H2 { s2 with heap:=s2.heap.push { cls:=.type "slice",data:=.fields #[.none,.none,.int (-1) t] } }:=I2.kept (t':=s2.toks) λb ob q=>X3 _ q
 show wpAny (model X.prog X.w) X.A (subscriptTail e (.Slice none none (some d') p2) (.str z t0) (.ref s2.heap.objs.size)) (EP X pins O Q) X.xe { s2 with heap:=s2.heap.push { cls:=.type "slice",data:=.fields #[.none,.none,.int (-1) t] } };refine tail_any (ops:=[.ref s2.heap.objs.size,.str z t0]) (typeIs_str _ _ _) F.slot_str_getitem.lookup ?_ (by ac_rfl);refine Z0 (l:=none) (u:=none) (st:=some (-1,t)) ⟨_,X6 _ rfl,rfl,rfl⟩ rfl (post_val_or_str ⟨Y2 (Txt.sliceBy_le z _ _ (-1,t) (show(-1:Int)≠0 by decide)) hz,λt' c=>?_⟩);exact⟨.str (VX z),H2,I4.kept (t':=c) λ_ _ h=>h,⟨t',by rw[<-vzp z t];rfl⟩,q⟩
theorem vxh:Ad1 K vzs (pu1 qxb):=by
 intro H x s Q ok hf k;unfold pu1 qxb at hf;dsimp only at hf;cases hx:x.d with
 | str z=>
  rw[hx]at hf;dsimp only at hf
  split at hf
  ·rename_i hz;cases oq9 hf;refine⟨z,(z6 ok hx).1,hz,?_⟩;exact k ⟨.dp,.str _,.str _,[]⟩ H rfl rfl (wv8 (by unfold VX;show(List.toArray _).size<=_;simp;exact hz))
  ·cases hf
 |_=>rw[hx]at hf;cases hf
theorem wwk{j:_}{p3 p4:Pos}:PE X (.UnaryOp .USub (.Constant (.int 1) j p3) p4) (tC (.int (-1))):=qk (wwh vxz vkz) fun O H Q h=>⟨1,rfl,h⟩
theorem wj6{j:_}{p3 p4:Pos}(ha:QV X Z q a e):QE X Z q (cF1 (pu1 qxb) a) (.Subscript e (.Slice none none (some (.UnaryOp .USub (.Constant (.int 1) j p3) p4)) p2) pos):=
 qk (vvr ha wwk) fun O H Q h=>XZ vxh h
def wvg(o:Obj)(xs:List V):Prop:=o.cls=.type "tuple"/\o.dict=none/\∃ai n,o.data=.seq ai n/\ai.size<=sizeLine/\Vals xs ai.toList
theorem kz0{b:Addr}{o:Obj}(h:K.lookup b=some o)(m:wvg o vs):SqT K H b vs:=by
 obtain⟨m1,m2,ai,n,m3,m4,m5⟩:=m;exact .inr ⟨o,ai,n,h,m1,m2,m3,m4,m5⟩
theorem vv5:RepA K H g [] [] []:=by unfold RepA;exact⟨rfl,rfl⟩
theorem W9(h:RepL K H g d v [])(r:RepA K H g ds vs []):RepA K H g (d::ds) (v::vs) []:=by
 unfold RepA;exact⟨v,vs,[],[],rfl,rfl,h,r⟩
theorem wvt{b:Addr}(h:SqT K H b vs)(r:RepA K H g ds vs []):RepL K H g (.tup ds) (.ref b) []:=by
 unfold RepL;exact⟨b,vs,rfl,h,r⟩
def wxl(K:Frag)(mg:Str->Option Value)(x:Str)(d:D):Prop:=∃v,Cst mg x v/\∀H,RepL K H false d v []
theorem wz4(c:wxl Z.K X.mg x d)(hg:autoParam (Gl X x) Ŕ)(hd:autoParam ((x==("__debug__":Str))=false) ŕ):QE X Z true (cC d) (.Name x pos):=by
 obtain⟨v,c,r⟩:=c;exact q_C (Kq c hg hd) r
end
end Q
namespace Q
open PySem
def out(f:Fn)(xs:List Sd):Option (Sd ⊕ Str):=match f xs with
 |some (.ok _ y)=>some (.inl y)|some (.exc _ c)=>some (.inr c)|none=>none
theorem wkg(n:Nat)(h:300<=n):(10:Nat) ^ 70<2 ^ n:=Xf (show(10:Nat) ^ 70<2 ^ 240 by decide) (Nat.pow_le_pow_right ⋯ ⋯)
theorem mul_l{o1 o2:Own}{a b:Int}(h1:-18446744073709551616<a)(h2:a<18446744073709551616):W7 (o1,.int a) (o2,.int b)=some (.dp,.int (a*b)):=by
 have:WY a b=true:=by
  have:qv0 a=true:=by unfold qv0;rw[Xl (show -(2 ^ 64)<a by omega),Xl (show a<2 ^ 64 by omega)];rfl
  unfold WY;rw[this];rfl
 show(if WY a b=true then _ else _)=_;rw[X9 this]
theorem add_i{o1 o2:Own}{a b:Int}:jz (o1,.int a) (o2,.int b)=some (.dp,.int (a+b)):=rfl
theorem sub_i{a b:Int}:wqb (.int a) (.int b)=some (.int (a - b)):=rfl
theorem div_i{a b:Int}(h:0<b)(h2:b<10 ^ 70):v4 (.int a) (.int b)=some (.int (a / b)):=by
 have hb:b.natAbs.log2<9000:=by
  exact(Nat.log2_lt ⋯).mpr (Nat.lt_trans (show b.natAbs<10 ^ 70 by omega) (wkg 9000 ⋯))
 show(if 0<b/\b.natAbs.log2<9000 then some (a / b)else none).map _=_;rw[X9 ⟨h,hb⟩];rfl
theorem mod_i{a b:Int}(h:0<b):jJ (.int a) (.int b)=some (.int (a % b)):=by
 show(if 0<b then some (a % b)else none).map _=_;rw[X9 h];rfl
theorem QZ{a b:Int}:fEq (.int a) (.int b)=some (.bl (a==b)):=rfl
theorem lt_ii{a b:Int}:fLt (.int a) (.int b)=some (.bl (decide (a<b))):=rfl
theorem gt_ii{a b:Int}:fGt (.int a) (.int b)=some (.bl (decide (b<a))):=rfl
theorem le_ii{a b:Int}:fLe (.int a) (.int b)=some (.bl (decide (a<=b))):=rfl
theorem ge_ii{a b:Int}:fGe (.int a) (.int b)=some (.bl (decide (b<=a))):=rfl
theorem zQ{xs:List D}{i:Int}{d:D}(h0:0<=i)(h:xs[i.toNat]?=some d):jK (.lst xs) (.int i)=some d:=by
 show((ixN xs.length i).bind λj=>xs[j]?)=some d;have hl:i.toNat<xs.length:=(List.getElem?_eq_some_iff.mp h).1;unfold ixN;rw[X9 h0,X9 ⋯];exact h
theorem ix_t{xs:List D}{i:Int}{d:D}(h0:0<=i)(h:xs[i.toNat]?=some d):jK (.tup xs) (.int i)=some d:=by
 show((ixN xs.length i).bind λj=>xs[j]?)=some d;have hl:i.toNat<xs.length:=(List.getElem?_eq_some_iff.mp h).1;unfold ixN;rw[X9 h0,X9 ⋯];exact h
theorem len_l{xs:List D}:kY (.lst xs)=some (.int xs.length):=rfl
theorem len_t{xs:List D}:kY (.tup xs)=some (.int xs.length):=rfl
theorem qk1{o1 o2:Own}{a b:List D}(h1:o1≠.dp)(h2:o2≠.dp)(hl:a.length+b.length<10000):jz (o1,.lst a) (o2,.lst b)=some (.rt,.lst (a++b)):=by
 show(if a.length+b.length<=big/\qK (o1,.lst a)/\qK (o2,.lst b)then _ else _)=_;rw[X9 ⟨by unfold big;omega,by cases o1<;>simp_all [qK],by cases o2<;>simp_all [qK]⟩]
theorem tup_l{o:Own}{xs:List D}(h:o≠.dp):JJ (o,.lst xs)=some (.no,.tup xs):=by
 show(if qK (o,.lst xs)then _ else _)=_;rw[X9 (by cases o<;>simp_all [qK])]
abbrev XP:=Str->Prop
theorem nd{α:Sort _}{a b:α}(h:a=b):a=b:=h
@[irreducible] noncomputable def Eo {α:Type} (m:Option (Res α)) (P:En->α->Prop) (X:XP):Prop:=match m with
 |some (.ok E a)=>P E a|some (.exc _ c)=>X c|none=>False
@[irreducible] noncomputable def Vo {α:Type} (m:Option α) (P:α->Prop):Prop:=match m with
 |some a=>P a|none=>False
@[irreducible] noncomputable def Oo (f:Fn) (xs:List Sd) (P:Sd->Prop) (X:XP):Prop:=match f xs with
 |some (.ok _ y)=>P y|some (.exc _ c)=>X c|none=>False
@[irreducible] noncomputable def Po (r:Option Fl) (N C:En->Prop) (R:Sd->Prop) (X:XP):Prop:=match r with
 |some (.nx E)=>N E|some (.ct E)=>C E|some (.rt _ x)=>R x|some (.xc _ c)=>X c|_=>False
abbrev noX:XP:=λ_=>False
section
variable {α β:Type}{P:En->α->Prop}{X:XP}{N C:En->Prop}{R:Sd->Prop}{E:En}
theorem JQ{a:α}:Eo (some (.ok E a)) P X=P E a:=nd (by ac_rfl)
theorem qxg{c:Str}:Eo (some (.exc E c):Option (Res α)) P X=X c:=nd (by ac_rfl)
theorem qxe:Eo (none:Option (Res α)) P X=False:=nd (by ac_rfl)
theorem k9{m:Option (Res β)}{f:En->β->Option (Res α)}:Eo (bnd m f) P X=Eo m (λE a=>Eo (f E a) P X) X:=by
 cases m with|none=>ac_rfl|some r=>cases r<;>ac_rfl
theorem vo_some{a:α}{P:α->Prop}:Vo (some a) P=P a:=nd (by ac_rfl)
theorem vo_map{x:Option β}{f:β->α}{P:α->Prop}:Vo (x.map f) P=Vo x (λa=>P (f a)):=by cases x<;>ac_rfl
theorem J3{x:Option α}:Eo (val E x) P X=Vo x (P E):=by cases x<;>ac_rfl
theorem wjp{E:En}:Po (some (.nx E)) N C R X=N E:=nd (by ac_rfl)
theorem wwg{E:En}{x:Sd}:Po (some (.rt E x)) N C R X=R x:=nd (by ac_rfl)
theorem Wq{m:Option (Res α)}{f:En->α->Option Fl}:Po (ofE m f) N C R X=Eo m (λE a=>Po (f E a) N C R X) X:=by
 cases m with|none=>ac_rfl|some r=>cases r<;>ac_rfl
theorem vku{a b:Sm}:Po (j4 a b E) N C R X=Po (a E) (λE=>Po (b E) N C R X) C R X:=by
 unfold j4 Po;cases a E with|none=>ac_rfl|some r=>cases r<;>ac_rfl
theorem Eo.mono{m:Option (Res α)}{P':En->α->Prop}(h:Eo m P X)(k:∀E a,P E a->P' E a):Eo m P' X:=by
 cases m with
 |none=>exists h
 |some r=>cases r with|ok E a=>exists k E a h|exc E c=>exists h
theorem Oo.mono{f:Fn}{xs:List Sd}{P P':Sd->Prop}(h:Oo f xs P X)(k:∀y,P y->P' y):Oo f xs P' X:=by
 unfold Oo at h ⊢;cases hf:f xs with
 |none=>rw[hf]at h;exists h
 |some r=>rw[hf]at h;cases r with|ok E a=>exists k a h|exc E c=>exists h
theorem Oo.out{f:Fn}{xs:List Sd}{P:Sd->Prop}(h:Oo f xs P noX):∃E y,f xs=some (.ok E y)/\P y:=by
 unfold Oo at h;cases hf:f xs with
 |none=>rw[hf]at h;exists (show False from h).elim
 |some r=>rw[hf]at h;cases r with|ok E a=>with_unfolding_all exact⟨E,a,rfl,h⟩|exc E c=>exists (show False from h).elim
theorem qv{n:Nat}{b:Sm}{xs:List Sd}{P:Sd->Prop}(h:Po (b (xs.map some++List.replicate (n - xs.length) none)) (λ_=>P (.dp,.non)) (λ_=>False) P X):Oo (fn n b) xs P X:=by
 unfold Oo fn;unfold Po at h;cases hb:b (xs.map some++List.replicate (n - xs.length) none)with|none=>rw[hb]at h;exists h|some r=>rw[hb]at h;cases r<;>exists h
theorem vww{f:Fn}{cs:List Ex}{P:En->Sd->Prop}:Eo (jQ f cs E) P X=Eo (qJ cs E) (λE xs=>Oo f (letAll xs) (P E) X) X:=by
 unfold jQ;rw[k9]
 congr 1
 funext E xs;unfold Oo;cases f (letAll xs)with|none=>ac_rfl|some r=>cases r<;>ac_rfl
theorem vju{f:Fn}{cs:List Ex}{P:En->Sd->Prop}:Eo (kx3 f cs E) P X=Eo (qJ cs E) (λE xs=>Oo f (letAll xs) (λy=>y.2.pure=true/\P E (.dp,y.2)) X) X:=by
 unfold kx3;rw[k9]
 congr 1
 funext E xs;unfold Oo;cases f (letAll xs)with
 | none=>ac_rfl
 | some r=>
  cases r with
  |exc=>ac_rfl
  |ok E1 y=>
   dsimp only
   by_cases hp:y.2.pure=true
   ·rw[X9 hp];with_unfolding_all exact propext ⟨λh=>⟨hp,h⟩,λh=>h.2⟩
   ·rw[Xb hp];with_unfolding_all exact propext ⟨λh=>(show False from h).elim,λh=>hp h.1⟩
def wve(d:D){α:Type}(a b:Option α):Option α:=match d with
 |.bl k=>if k=true then a else b|_=>none
theorem vx9(a b:Ex):Kw a b E=bnd (a E) λE x=>wve x.2 (b E) (some (.ok E (.dp,.bl false))):=by
 unfold Kw wve
 congr 1
 funext E x;cases x.2 with|bl k=>cases k<;>ac_rfl|_=>ac_rfl
theorem wqm(a b:Ex):cOr a b E=bnd (a E) λE x=>wve x.2 (some (.ok E (.dp,.bl true))) (b E):=by
 unfold cOr wve
 congr 1
 funext E x;cases x.2 with|bl k=>cases k<;>ac_rfl|_=>ac_rfl
theorem kxs{tg:Tg}{b:Sm}(I:En->List D->Prop)(hs:∀E d ds,I E (d::ds)->Vo (tg.put d E) λE1=>Po (b E1) (λE2=>I E2 ds) (λE2=>I E2 ds) R X)(h1:∀E,I E []->N E):∀ds E,I E ds->Po (Kx tg b ds E) N C R X
 | [],E,h=>by exists h1 E h
 | d::ds,E,h=>by
  have h2:=hs E d ds h;unfold Kx;cases hp:tg.put d E with
  | none=>rw[hp]at h2;exists (show False from h2).elim
  | some E1=>
   rw[hp]at h2;have h2:Po (b E1) (λE2=>I E2 ds) (λE2=>I E2 ds) R X:=by exists h2
   dsimp only;cases hb:b E1 with
   |none=>rw[hb]at h2;exists (show False from h2).elim
   |some r=>
    rw[hb]at h2;cases r with|nx E2=>exists kxs I hs h1 ds E2 h2|ct E2=>exists kxs I hs h1 ds E2 h2|rt E2 x=>exists h2|xc E2 c=>exists h2|bk E2=>exists (show False from h2).elim
theorem K5{it:Ev (List D)}{tg:Tg}{b:Sm}(I:En->List D->Prop)(h0:Eo (it E) I X)(hs:∀E d ds,I E (d::ds)->Vo (tg.put d E) λE1=>Po (b E1) (λE2=>I E2 ds) (λE2=>I E2 ds) R X)(h1:∀E,I E []->N E):Po (vx it tg b E) N C R X:=by
 show Po (ofE (it E) λE ds=>Kx tg b ds E) N C R X;rw[Wq]
 exists h0.mono λE ds h=>kxs I hs h1 ds E h
theorem qj6{t:Ts}{b:Sm}(I:Nat->En->Prop)(hs:∀n E,I n E->Eo (t E) (λE1 k=>if k=true then Po (b E1) (λE2=>∃m,m<n/\I m E2) (λE2=>∃m,m<n/\I m E2) R X else N E1) X):∀n E,I n E->Po (sWhile t b E) N C R X:=by
 intro n
 induction n using Nat.strongRecOn with
 | _ n ih=>
  intro E h;have h2:=hs n E h;rw [sWhile];cases ht:t E with
  | none=>rw[ht]at h2;exists (show False from h2).elim
  | some r=>
   rw [ht]at h2;cases r with
   | exc E1 c=>exists h2
   | ok E1 k=>
    cases k with
    | false=>exists h2
    | true=>
     have h2:Po (b E1) (λE2=>∃m,m<n/\I m E2) (λE2=>∃m,m<n/\I m E2) R X:=by exists h2
     dsimp only;cases hb:b E1 with
     |none=>rw[hb]at h2;exists (show False from h2).elim
     |some r=>
      rw[hb]at h2;cases r with|nx E2=>exact(show ∃m,m<n/\I m E2 by exists h2).elim λm hh=>ih m hh.1 E2 hh.2|ct E2=>exact(show ∃m,m<n/\I m E2 by exists h2).elim λm hh=>ih m hh.1 E2 hh.2|rt E2 x=>exists h2|xc E2 c=>exists h2|bk E2=>exists (show False from h2).elim
theorem qxf{tg:Tg}{t:Ts}{c:Ex}{P:En->List Sd->Prop}(J:En->List D->List Sd->Prop)(hs:∀B d ds aq,J B (d::ds) aq->Vo (tg.put d B) λB1=>Eo (t B1) (λB2 k=>if k=true then Eo (c B2) (λB3 y=>J B3 ds (aq++[y])) X else J B2 ds aq) X)(h1:∀B aq,J B [] aq->P B aq):∀ds B aq,J B ds aq->Eo (lcL tg t c ds B aq) P X
 | [],B,aq,h=>by exists h1 B aq h
 | d::ds,B,aq,h=>by
  have h2:=hs B d ds aq h;unfold lcL;cases hp:tg.put d B with
  | none=>rw[hp]at h2;exists (show False from h2).elim
  | some B1=>
   rw[hp]at h2;have h2:Eo (t B1) (λB2 k=>if k=true then Eo (c B2) (λB3 y=>J B3 ds (aq++[y])) X else J B2 ds aq) X:=by exists h2
   dsimp only;rw[k9];refine h2.mono λB2 k h3=>?_
   cases k with
   |false=>exists qxf J hs h1 ds B2 aq h3
   |true=>
    show Eo (bnd (c B2) _) P X;rw[k9]
    exists Eo.mono (P:=λB3 y=>J B3 ds (aq++[y])) h3 λB3 y h4=>qxf J hs h1 ds B3 _ h4
theorem V3{o:Own}{k:Nat}{r:List Nat}{it:Ev (List D)}{tg:Tg}{t:Ts}{c:Ex}{P:En->Sd->Prop}(J:En->En->List D->List Sd->Prop)(h0:Eo (it E) (λE1 ds=>J E1 (Q4 k r E1) ds []) X)
  (hs:∀E1 B d ds aq,J E1 B (d::ds) aq->Vo (tg.put d B) λB1=>Eo (t B1) (λB2 k=>if k=true then Eo (c B2) (λB3 y=>J E1 B3 ds (aq++[y])) X else J E1 B2 ds aq) X) (h1:∀E1 B aq,J E1 B [] aq->Eo (mkL o (J0 k r B E1) aq) P X):Eo (cLC o k r it tg t c E) P X:=by
 unfold cLC;rw[k9];refine h0.mono λE1 ds hJ=>?_
 have:=qxf (P:=λB aq=>Eo (mkL o (J0 k r B E1) aq) P X) (J E1) (hs E1) (h1 E1) ds _ _ hJ;cases hl:lcL tg t c ds (Q4 k r E1) []with|none=>rw[hl]at this;exists (show False from this).elim|some q=>rw[hl]at this;cases q<;>exists this
end
theorem mulT_i{o1:Own}{a:Int}{y:Sd}:vz (o1,.int a) y=W7 (o1,.int a) y:=by
 unfold vz;ac_rfl
theorem mulT_l{o1:Own}{a:List D}{y:Sd}:vz (o1,.lst a) y=W7 (o1,.lst a) y:=by
 unfold vz;ac_rfl
def sl(q:Option (Option Sd)):Option Sd:=match q with
 |some (some x)=>some x|_=>none
theorem sl_some{x:Sd}:sl (some (some x))=some x:=nd (by ac_rfl)
def wxe(d:D)(a b:Prop):Prop:=match d with
 |.bl k=>if k=true then a else b|_=>False
theorem andP_bl{k:Bool}{a b:Prop}:wxe (.bl k) a b=if k=true then a else b:=nd (by ac_rfl)
def Wo{α:Type}(m:Option α)(E:En)(P:En->α->Prop):Prop:=Vo m (P E)
theorem wo_some{α:Type}{a:α}{E:En}{P:En->α->Prop}:Wo (some a) E P=P E a:=by unfold Wo;exact vo_some
theorem wo_map{α β:Type}{x:Option β}{f:β->α}{E:En}{P:En->α->Prop}:Wo (x.map f) E P=Wo x E (λE a=>P E (f a)):=by unfold Wo;exact vo_map
def Oe(f:Fn)(xs:List Sd)(E:En)(P:En->Sd->Prop)(X:XP):Prop:=Oo f xs (P E) X
def intP(d:D)(P:Int->Prop):Prop:=match d with
 |.int i=>P i|_=>False
def Ie(d:D)(E:En)(P:En->Int->Prop):Prop:=intP d (P E)
theorem ie_i{i:Int}{E:En}{P:En->Int->Prop}:Ie (.int i) E P=P E i:=nd (by ac_rfl)
section
variable {P:En->Sd->Prop}{T:En->Bool->Prop}{X:XP}{N C:En->Prop}{R:Sd->Prop}{E:En}{e:Option Sd}{a b c:Ex}{t u:Ts}{i:Nat}
theorem w_seq{a b:Sm}:Po (j4 a b (e::E)) N C R X=Po (a (e::E)) (λE=>Po (b E) N C R X) C R X:=vku
theorem w_asg:Po (j9 i c (e::E)) N C R X=Eo (c (e::E)) (λE x=>N (E.set i (some x))) X:=by unfold j9;rw[Wq];ac_rfl
theorem w_ret:Po (jY c (e::E)) N C R X=Eo (c (e::E)) (λ_ x=>R x) X:=by unfold jY;rw[Wq];ac_rfl
theorem w_pass:Po (q9 (e::E)) N C R X=N (e::E):=nd (by ac_rfl)
theorem w_if{a b:Sm}:Po (sIf t a b (e::E)) N C R X=Eo (t (e::E)) (λE k=>if k=true then Po (a E) N C R X else Po (b E) N C R X) X:=by
 unfold sIf;rw[Wq];congr 1;funext E k;cases k<;>ac_rfl
theorem w_vV:Eo (vV i (e::E)) P X=Wo (sl (e::E)[i]?) (e::E) P:=by
 unfold vV Wo;cases(e::E)[i]? with|none=>ac_rfl|some q=>cases q<;>ac_rfl
theorem w_cV:Eo (cV i (e::E)) P X=Wo (sl (e::E)[i]?) (e::E) (λE x=>P (E.set i (some (.no,x.2))) (.no,x.2)):=by
 unfold cV Wo;cases(e::E)[i]? with|none=>ac_rfl|some q=>cases q<;>ac_rfl
theorem w_cMv:Eo (cMv i (e::E)) P X=Wo (sl (e::E)[i]?) (e::E) (λE x=>P (E.set i none) x):=by
 unfold cMv Wo;cases(e::E)[i]? with|none=>ac_rfl|some q=>cases q<;>ac_rfl
theorem w_cC{d:D}:Eo (cC d (e::E)) P X=P (e::E) (.dp,d):=nd (by ac_rfl)
theorem w_vE:Eo (vE c (e::E)) P X=Eo (c (e::E)) (λE x=>P E (.no,x.2)) X:=by unfold vE;rw[k9];ac_rfl
theorem w_cH:Eo (cH c (e::E)) P X=Eo (c (e::E)) (λE x=>if x.1=.no then P E (.no,x.2)else if x.2.pure=true then P E (.dp,x.2)else False) X:=by
 unfold cH;rw[k9]
 congr 1
 funext E x
 by_cases h:x.1=.no
 ·rw[X9 h,X9 h];ac_rfl
 ·rw[Xb h,Xb h]
  by_cases h2:x.2.pure=true
  ·rw[X9 h2,X9 h2];ac_rfl
  ·rw[Xb h2,Xb h2];ac_rfl
theorem w_f1{f:Sd->Option Sd}:Eo (cF1 f a (e::E)) P X=Eo (a (e::E)) (λE x=>Wo (f x) E P) X:=by
 unfold cF1;rw[k9];congr 1;funext E x;exact J3
theorem w_f2{f:Sd->Sd->Option Sd}:Eo (cF2 f a b (e::E)) P X=Eo (a (e::E)) (λE x=>Eo (b E) (λE y=>Wo (f x y) E P) X) X:=by
 unfold cF2;rw[k9];congr 1;funext E x;rw[k9];congr 1;funext E y;exact J3
theorem w_ix:Eo (j6 a b (e::E)) P X=Eo (a (e::E)) (λE x=>Eo (b E) (λE y=>Wo (jK x.2 y.2) E (λE d=>P E (sub x.1,d))) X) X:=by
 unfold j6;rw[k9];congr 1;funext E x;rw[k9];congr 1;funext E y;rw[J3];exact vo_map
theorem w_tE:Eo (tE c (e::E)) T X=Eo (c (e::E)) (λE x=>Wo (truth x.2) E T) X:=by
 unfold tE;rw[k9];congr 1;funext E x;exact J3
theorem w_tEQ:Eo (tEQ c (e::E)) T X=Eo (c (e::E)) (λE x=>Wo (truthQ x.2) E T) X:=by
 unfold tEQ;rw[k9];congr 1;funext E x;exact J3
theorem w_tNot:Eo (tNot t (e::E)) T X=Eo (t (e::E)) (λE k=>T E (!k)) X:=by unfold tNot;rw[k9];ac_rfl
theorem w_tAnd:Eo (tAnd t u (e::E)) T X=Eo (t (e::E)) (λE k=>if k=true then Eo (u E) T X else T E false) X:=by
 unfold tAnd;rw[k9];congr 1;funext E k;cases k<;>ac_rfl
theorem w_tOr:Eo (tOr t u (e::E)) T X=Eo (t (e::E)) (λE k=>if k=true then T E true else Eo (u E) T X) X:=by
 unfold tOr;rw[k9];congr 1;funext E k;cases k<;>ac_rfl
theorem w_tYes:Eo (tYes (e::E)) T X=T (e::E) true:=nd (by ac_rfl)
theorem w_cIf:Eo (cIf t a b (e::E)) P X=Eo (t (e::E)) (λE k=>if k=true then Eo (a E) P X else Eo (b E) P X) X:=by
 unfold cIf;rw[k9];congr 1;funext E k;cases k<;>ac_rfl
theorem w_cAnd:Eo (Kw a b (e::E)) P X=Eo (a (e::E)) (λE x=>wxe x.2 (Eo (b E) P X) (P E (.dp,.bl false))) X:=by
 rw[vx9,k9];congr 1;funext E x;cases x.2 with|bl k=>cases k<;>ac_rfl|_=>ac_rfl
theorem w_cOr:Eo (cOr a b (e::E)) P X=Eo (a (e::E)) (λE x=>wxe x.2 (P E (.dp,.bl true)) (Eo (b E) P X)) X:=by
 rw[wqm,k9];congr 1;funext E x;cases x.2 with|bl k=>cases k<;>ac_rfl|_=>ac_rfl
theorem w_cNotQ:Eo (vk7 c (e::E)) P X=Eo (c (e::E)) (λE x=>Wo (truthQ x.2) E (λE k=>P E (.dp,.bl (!k)))) X:=by
 unfold vk7;rw[k9];congr 1;funext E x;rw[J3];exact vo_map
theorem w_call{f:Fn}{cs:List Ex}:Eo (jQ f cs (e::E)) P X=Eo (qJ cs (e::E)) (λE xs=>Oe f (letAll xs) E P X) X:=by exists vww
theorem w_callB{f:Fn}{cs:List Ex}:Eo (kx3 f cs (e::E)) P X=Eo (qJ cs (e::E)) (λE xs=>Oe f (letAll xs) E (λE y=>y.2.pure=true/\P E (.dp,y.2)) X) X:=by exists vju
theorem w_partN{P:En->Option Int->Prop}:Eo (W3 none (e::E)) P X=P (e::E) none:=nd (by ac_rfl)
theorem w_partS{P:En->Option Int->Prop}:Eo (W3 (some c) (e::E)) P X=Eo (c (e::E)) (λE x=>Ie x.2 E (λE i=>P E (some i))) X:=by
 show Eo (bnd (c (e::E)) _) P X=_;rw[k9];congr 1;funext E x;unfold Ie;cases x.2<;>ac_rfl
theorem w_sl{lo hi:Option Ex}:Eo (cSl a lo hi (e::E)) P X=Eo (a (e::E)) (λE x=>Eo (W3 lo E) (λE l=>Eo (W3 hi E) (λE h=>Wo (fSl x l h) E P) X) X) X:=by
 unfold cSl;rw[k9];congr 1;funext E x;rw[k9];congr 1;funext E l;rw[k9];congr 1;funext E h;exact J3
theorem w_idx:Eo (YX a b (e::E)) P X=Eo (a (e::E)) (λE x=>if isSq x.2=true then Eo (b E) (λE y=>Wo (kwq x.2 y.2) E (λE d=>P E (.dp,d))) X else False) X:=by
 unfold YX;rw[k9];congr 1;funext E x;cases isSq x.2 with
 |false=>ac_rfl
 |true=>
  show Eo (bnd (b E) _) P X=_;rw[k9];rw[X9 rfl]
  congr 1;funext E y;rw[J3];unfold pu2;exact vo_map
theorem w_itS{P:En->List D->Prop}:Eo (itS c (e::E)) P X=Eo (c (e::E)) (λE x=>Wo (seqOf x.2) E P) X:=by
 unfold itS;rw[k9]
 congr 1
 funext E x;exact J3
end
theorem args_nil{e:Option Sd}{E:En}{P:En->List Sd->Prop}{X:XP}:Eo (qJ [] (e::E)) P X=P (e::E) []:=nd (by ac_rfl)
theorem args_cons{e:Option Sd}{E:En}{c:Ex}{cs:List Ex}{P:En->List Sd->Prop}{X:XP}:Eo (qJ (c::cs) (e::E)) P X=Eo (c (e::E)) (λE x=>Eo (qJ cs E) (λE xs=>P E (x::xs)) X) X:=by
 show Eo (bnd (c (e::E)) λE x=>bnd (qJ cs E) λE xs=>some (.ok E (x::xs))) P X=_;rw[k9]
 congr 1
 funext E x;rw[k9]
 ac_rfl
theorem eo_tup{e:Option Sd}{E:En}{cs:List Ex}{P:En->Sd->Prop}{X:XP}:Eo (kK .no cs (e::E)) P X=Eo (qJ cs (e::E)) (λE xs=>P E (.no,.tup (xs.map (·.2)))) X:=by
 unfold kK;rw[k9]
 ac_rfl
theorem eo_lst{e:Option Sd}{E:En}{cs:List Ex}{P:En->Sd->Prop}{X:XP}:Eo (kw .rt cs (e::E)) P X=Eo (qJ cs (e::E)) (λE xs=>P E (.rt,.lst (xs.map (·.2)))) X:=by
 unfold kw;rw[k9]
 ac_rfl
theorem vwj{c:Ex}{E:En}{P:En->List D->Prop}{X:XP}(h:Eo (c E) (λE x=>∃n:Int,x.2=.int n/\n<=1000/\-1000<=n/\P E (k7 0 n)) X):Eo (vK c E) P X:=by
 unfold vK;rw[k9];refine h.mono ?_;rintro E ⟨o,d⟩ ⟨n,rfl,h1,h2,h3⟩;have:xj n=true:=by unfold xj;rw[Xl ⋯,Xl ⋯];ac_rfl
 show Eo (if xj n=true/\n.toNat<=big then _ else _) P X;rw[X9 ⟨this,by unfold big;omega⟩]
 exists h3
theorem wqp{i:Nat}{c:Ex}{E:En}{o:Own}{xs:List D}{N C:En->Prop}{R:Sd->Prop}{X:XP}(h0:E[i]?=some (some (o,.lst xs)))
  (h:Eo (c E) (λE1 x=>∃o ys,E1[i]?=some (some (o,.lst ys))/\o≠.no/\ys.length<10000/\N (E1.set i (some (if o=.dp/\xX x then .dp else .rt,.lst (ys++[x.2]))))) X):Po (qX qW i c E) N C R X:=by
 unfold qX;rw[h0,X9 (show K6 (some (some (o,.lst xs)))=true from rfl),Wq];refine h.mono ?_;rintro E1 x ⟨o,ys,h1,h2,h3,h4⟩;rw[h1];dsimp only;have hg:qW ys x.2=some (ys++[x.2]):=by unfold qW;rw[X9 (by unfold big;omega)]
 rw[Xb h2,hg]
 exists h4
theorem zY{i:Nat}{c:Ex}{E:En}{xs:List D}{N C:En->Prop}{R:Sd->Prop}{X:XP}(h0:E[i]?=some (some (.rt,.lst xs)))
  (h:Eo (c E) (λE1 x=>∃ys,E1[i]?=some (some (.rt,.lst ys))/\ys.length<10000/\N (E1.set i (some (.rt,.lst (ys++[x.2]))))) X):Po (qX qW i c E) N C R X:=
 wqp h0 (h.mono λE1 x ⟨ys,h1,h2,h3⟩=>⟨.rt,ys,h1,⋯,h2,by rw[Xb (by rintro ⟨z,_⟩;cases z)];exists h3⟩)
theorem rng_ok{n:Int}(h1:-1000<=n)(h2:n<=1000):(xj n=true/\n.toNat<=big)=True:=by
 have:xj n=true:=by unfold xj;rw[Xl ⋯,Xl ⋯];ac_rfl
 with_unfolding_all exact eq_true ⟨this,by unfold big;omega⟩
theorem kzc{α:Type}{p:Prop}[Decidable p]{a:Option (Res α)}{P:En->α->Prop}{X:XP}:Eo (if p then a else none) P X=(p/\Eo a P X):=by
 by_cases h:p
 ·rw[X9 h];with_unfolding_all exact propext ⟨λz=>⟨h,z⟩,λz=>z.2⟩
 ·rw[Xb h];with_unfolding_all exact propext ⟨λz=>z.elim,λz=>h z.1⟩
theorem w_R1{c:Ex}{e:Option Sd}{E:En}{P:En->List D->Prop}{X:XP}:Eo (vK c (e::E)) P X=Eo (c (e::E)) (λE x=>Ie x.2 E λE n=>(xj n=true/\n.toNat<=big)/\P E (k7 0 n)) X:=by
 unfold vK;rw[k9];congr 1;funext E x;cases x.2 with|int n=>exists kzc|_=>ac_rfl
theorem w_LR1{c:Ex}{e:Option Sd}{E:En}{P:En->Sd->Prop}{X:XP}:Eo (Wk c (e::E)) P X=Eo (c (e::E)) (λE x=>Ie x.2 E λE n=>(xj n=true/\n.toNat<=big)/\P E (.rt,.lst (k7 0 n))) X:=by
 unfold Wk;rw[k9];congr 1;funext E x;cases x.2 with|int n=>exists kzc|_=>ac_rfl
theorem W4{o:Own}{xs:List D}{lo hi:Option Int}(h:o≠.dp):fSl (o,.lst xs) lo hi=some (.rt,.lst (zV xs lo hi)):=by
 show(if qK (o,.lst xs)then _ else _)=_;rw[X9 (by cases o<;>simp_all [qK])]
theorem sub_no:sub .no=.no:=nd (by ac_rfl)
theorem sub_rt:sub .rt=.no:=nd (by ac_rfl)
theorem sub_dp:sub .dp=.dp:=nd (by ac_rfl)
theorem Oo.use{ι:Sort _}{f:Fn}{xs:List Sd}{g:ι->Sd}{S:ι->Prop}{E:En}{P:En->Sd->Prop}{X:XP}(h:Oo f xs (λy=>∃i,y=g i/\S i) X)(k:∀i,S i->P E (g i)):Oe f xs E P X:=h.mono λy ⟨i,e,s⟩=>e▸k i s
theorem Oo.via{f:Fn}{xs:List Sd}{S:Sd->Prop}{E:En}{P:En->Sd->Prop}{X:XP}(h:Oo f xs S X)(k:∀y,S y->P E y):Oe f xs E P X:=h.mono k
theorem xx{E:En}{ys:List Sd}{P:En->Sd->Prop}{X:XP}:Eo (mkL .rt E ys) P X=P E (.rt,.lst (ys.map (·.2))):=nd (by ac_rfl)
theorem wjo{i:Nat}{c:Ex}{E:En}{o:Own}{xs:List D}{P:En->Sd->Prop}{X:XP}(h0:E[i]?=some (some (o,.lst xs)))
  (h:Eo (c E) (λE1 x=>∃(o:Own) (ys:List D) (k:Int) (d:D),E1[i]?=some (some (o,.lst ys))/\o≠.no/\x.2=.int k/\0<=k/\k<=1000/\ys[k.toNat]?=some d/\d.pure=true/\P (E1.set i (some (o,.lst (ys.eraseIdx k.toNat)))) (.dp,d)) X):Eo (Zv i c E) P X:=by
 unfold Zv;rw[h0,X9 (show K6 (some (some (o,D.lst xs)))=true from rfl),k9];refine h.mono ?_;rintro E1 ⟨o',d'⟩ ⟨o,ys,k,d,h1,h2,e,k0,k1,h3,h4,h5⟩;have e:d'=.int k:=e;subst e;have hl:k.toNat<ys.length:=(List.getElem?_eq_some_iff.mp h3).1;have hx:ixN ys.length k=some k.toNat:=by unfold ixN;rw[X9 k0,X9 ⋯]
 have hs:xj k=true:=by unfold xj;rw[Xl ⋯,Xl ⋯];ac_rfl
 rw[h1];dsimp only;rw[Xb h2,hx];dsimp only;rw[h3];dsimp only;rw[h4,hs,X9 ⋯,JQ];exact h5
theorem w_rz{c:Str}{e:Option Sd}{E:En}{N C:En->Prop}{R:Sd->Prop}{X:XP}:Po (sRz c (e::E)) N C R X=X c:=nd (by ac_rfl)
def Ox(f:Fn)(xs:List Sd)(E:En)(P:En->Sd->Prop)(Y:En->Str->Prop):Prop:=Oo f xs (P E) (Y E)
theorem Oo.ox{f:Fn}{xs:List Sd}{S:Sd->Prop}{W:XP}{E:En}{P:En->Sd->Prop}{Y:En->Str->Prop}(h:Oo f xs S W)(k:∀y,S y->P E y)(l:∀c,W c->Y E c):Ox f xs E P Y:=by
 unfold Ox Oo at *;cases hf:f xs with
 |none=>rw[hf]at h;exists h
 |some r=>rw[hf]at h;cases r with|ok E a=>exists k a h|exc E c=>exists l c h
theorem wjq{i:Nat}{m:Option Fl}{N C:En->Prop}{R:Sd->Prop}{X:XP}:Po (vkh i m) N C R X=Po m (λE=>N (E.set i none)) (λE=>C (E.set i none)) R noX:=by
 cases m with|none=>ac_rfl|some r=>cases r<;>ac_rfl
theorem w_tryE{cs:List Str}{i:Nat}{f:Fn}{as:List Ex}{h:Sm}{e:Option Sd}{E:En}{N C:En->Prop}{R:Sd->Prop}{X:XP}:Po (QJ cs i (qzm (Zz f as)) h (e::E)) N C R X =
  Eo (qJ as (e::E)) (λE xs=>Ox f (letAll xs) E (λE _=>N E) (λE c=>c∈cs/\Po (h (E.set i (some (.no,.obj c [])))) (λE=>N (E.set i none)) (λE=>C (E.set i none)) R noX)) noX:=by
 unfold QJ qzm Zz;cases qJ as (e::E)with
 | none=>ac_rfl
 | some r=>
  cases r with
  | exc E1 c=>ac_rfl
  | ok E1 xs=>
   rw [JQ];unfold Ox Oo;dsimp only;cases f (letAll xs)with
   | none=>ac_rfl
   | some r=>
    cases r with
    | ok E2 y=>ac_rfl
    | exc E2 c=>
     dsimp only[ofE]
     by_cases hc:c∈cs
     ·rw[X9 hc,wjq]
      with_unfolding_all exact propext ⟨λz=>⟨hc,z⟩,λz=>z.2⟩
     ·rw[Xb hc]
      with_unfolding_all exact propext ⟨λz=>(show False from z).elim,λz=>absurd z.1 hc⟩
theorem V0{t:List (Str×Bool)}{c:Str}{k:Bool}{fs:List (Str×D)}(h:t.lookup c=some k):vj t (.obj c fs)=some (.bl k):=by unfold vj;dsimp only;rw[h];rfl
theorem Oo.any{f:Fn}{xs:List Sd}{P:Sd->Prop}{X:XP}(h:Oo f xs P noX):Oo f xs P X:=by
 unfold Oo at *;cases hf:f xs with
 |none=>rw[hf]at h;exists h
 |some r=>rw[hf]at h;cases r with|ok E a=>exists h|exc E c=>exists (show False from h).elim
section
variable {c kc vc:Ex}{e:Option Sd}{E:En}{X:XP}{N C:En->Prop}{R:Sd->Prop}
theorem vxw{P:En->Sd->Prop}:Eo (qxw kc vc (e::E)) P X=Eo (kc (e::E)) (λE k=>Eo (vc E) (λE v=>Jk k.2=true/\P E (.rt,.dct [(k.2,v.2)])) X) X:=by
 unfold qxw;rw[k9];congr 1;funext E k;rw[k9];congr 1;funext E v;rw[kzc,JQ]
end
theorem wkh{o:Own}{kvs:List (D×D)}(h:kvs.length<=10000)(hu:unm kvs=true):Q9 (o,.dct kvs)=some (.rt,.lst (kvs.map (·.1))):=by
 unfold Q9;dsimp only;rw[X9 ⟨by unfold big;omega,hu⟩]
section
variable {a b c kc vc:Ex}{e:Option Sd}{E:En}{X:XP}{N C:En->Prop}{R:Sd->Prop}{P:En->Sd->Prop}
theorem vxv:Eo (wv3 a b (e::E)) P X=Eo (a (e::E)) (λE x=>Eo (b E) (λE y=>Wo (wqc x.2 y.2) E (λE d=>P E (.dp,d))) X) X:=by
 unfold wv3;rw[k9];congr 1;funext E x;rw[k9];congr 1;funext E y;rw[J3];exact vo_map
theorem vxu{z:Str}:Eo (vk8 z c (e::E)) P X=Eo (c (e::E)) (λE x=>Wo (qxc z x.2) E (λE d=>P E (.dp,d))) X:=by
 unfold vk8;rw[k9];congr 1;funext E x;rw[J3];exact vo_map
theorem vqr{P:En->List D->Prop}:Eo (vjl c (e::E)) P X=Eo (c (e::E)) (λE x=>Wo (vqu x.2) E (λE ds=>P E (zq 0 ds))) X:=by
 unfold vjl;rw[k9];congr 1;funext E x;rw[J3];exact vo_map
theorem v_is{i:Nat}{o:Own}{ds:List D}{P:En->List D->Prop}(h:E[i]?=some (some (o,.lst ds)))(hp:D.pures ds=true)(k:P E ds):Eo (itV i E) P X:=by
 unfold itV;rw[h];dsimp only;rw[X9 hp,JQ];exact k
theorem kw0{i:Nat}(h:Eo (vc E) (λE1 v=>K6 E1[i]?=true/\Eo (kc E1) (λE2 k=>∃(o:Own) (xs:List D) (j:Int) (n:Nat),E2[i]?=some (some (o,.lst xs))/\o≠.no/\k.2=.int j/\ixN xs.length j=some n/\N (E2.set i (some (.rt,.lst (xs.set n v.2))))) X) X):Po (QQ i kc vc E) N C R X:=by
 unfold QQ;rw[Wq];refine h.mono ?_;rintro E1 v ⟨e1,h1⟩;rw[X9 e1,Wq];refine h1.mono ?_;rintro E2 k ⟨o,xs,j,n,e2,ho,hk,hn,h4⟩;rw[e2,hk];dsimp only;rw[Xb ho,hn];dsimp only;rw[wjp];exact h4
end
theorem wq0{k:Int}{kv:List (Int×Int)}:W8 (.int k) (KZ kv)=some (.bl (zx kv k).isSome):=by
 unfold W8;rw[vq8]
theorem wwt{k v:Int}{kv:List (Int×Int)}(h:zx kv k=some v):wqc (KZ kv) (.int k)=some (.int v):=by
 unfold wqc;rw[vq8];dsimp only;rw[h];rfl
theorem wqg{o:Own}{ps:List (Int×Int)}(h:ps.length<10000):kq4 (o,.lst (ps.map λp=>D.tup [.int p.1,.int p.2]))=some (.rt,KZ (ps.foldl (λkv p=>zJ kv p.1 p.2) [])):=by
 unfold kq4;dsimp only;rw[qvn];dsimp only;rw[X9 (by unfold big;omega)]
section
variable {a b c kc vc:Ex}{cs:List Ex}{e:Option Sd}{E:En}{X:XP}{N C:En->Prop}{R:Sd->Prop}{P:En->Sd->Prop}{i r n:Nat}{t:Ts}
theorem qjg{kvs:List (D×D)}(h:unm kvs=true):Qk (.dct kvs)=some (.int kvs.length):=X9 h
theorem vv1(h0:wvb E[i]?=true)(h:Eo (kc E) (λE1 k=>Eo (vc E1) (λE2 v=>∃kvs,E2[i]?=some (some (.rt,.dct kvs))/\(Jk k.2=true/\kvs.length<10000/\unm kvs=true/\v.2.pure=true/\D.pures (kvs.map (·.2))=true) /\
  (∀d,xq kvs k.2=some d->P E2 (.dp,d))/\(xq kvs k.2=none->P (E2.set i (some (.rt,.dct (kvs++[(k.2,v.2)])))) (.dp,v.2))) X) X):Eo (qxv i kc vc E) P X:=by
 unfold qxv;rw[X9 h0,k9];refine h.mono ?_;intro E1 k h1;rw[k9];refine h1.mono ?_;rintro E2 v ⟨kvs,e2,hc,h3,h4⟩;rw[e2];dsimp only;rw[X9 ⟨hc.1,by unfold big;omega,hc.2.2⟩];cases hg:xq kvs k.2 with|none=>dsimp only;rw[JQ];exact h4 hg|some d=>dsimp only;rw[JQ];exact h3 d hg
def WV(s:Option (Option Sd))(Q:Sd->Prop):Prop:=match s with
 |some (some x)=>Q x|_=>False
def Om(m:Option Fl)(n:Nat)(N:En->Prop)(P:Sd->Sd->Prop)(X:XP):Prop:=match m with
 |some (.nx E)=>N E|some (.rt E x)=>WV E[n]? (P x)|some (.xc _ c)=>X c|_=>False
def Oom(f:Fn)(xs:List Sd)(n:Nat)(P:Sd->Sd->Prop)(X:XP):Prop:=match f xs with
 |some (.ok E y)=>WV E[n]? (P y)|some (.exc _ c)=>X c|none=>False
theorem vq2{nn:Nat}{b:Sm}{xs:List Sd}{P:Sd->Sd->Prop}(h:Om (b (xs.map some++List.replicate (nn - xs.length) none)) n (λE=>WV E[n]? (P (.dp,.non))) P X):Oom (fn nn b) xs n P X:=by
 unfold Oom fn;cases hb:b (xs.map some++List.replicate (nn - xs.length) none)with
 |none=>rw[hb]at h;exact h.elim
 |some f=>
  rw[hb]at h;cases f with|nx E=>exact h|rt E x=>exact h|xc E c=>exact h|ct E=>exact h.elim|bk E=>exact h.elim
theorem Wv{a b:Sm}{P:Sd->Sd->Prop}(h:Om (a E) n (λE=>Om (b E) n N P X) P X):Om (j4 a b E) n N P X:=by
 unfold j4;cases ha:a E with
 |none=>rw[ha]at h;exact h.elim
 |some f=>
  rw[ha]at h;cases f with|nx E=>exact h|rt E x=>exact h|xc E c=>exact h|ct E=>exact h.elim|bk E=>exact h.elim
theorem qw1{P:Sd->Sd->Prop}(h:Eo (c E) (λE x=>WV E[n]? (P x)) X):Om (jY c E) n N P X:=by
 unfold jY;cases hc:c E with
 |none=>rw[hc,qxe]at h;exact h.elim
 |some f=>
  rw[hc]at h;cases f with|ok E x=>rw[JQ]at h;exact h|exc E c=>rw[qxg]at h;exact h
theorem wk7{a b:Sm}{P:Sd->Sd->Prop}(h:Eo (t E) (λE k=>if k=true then Om (a E) n N P X else Om (b E) n N P X) X):Om (sIf t a b E) n N P X:=by
 unfold sIf;cases hc:t E with
 | none=>rw[hc,qxe]at h;exact h.elim
 | some f=>
  rw[hc]at h;cases f with
  |ok E k=>
   rw[JQ]at h;cases k with|true=>rw[X9 rfl]at h;exact h|false=>rw[Xb ⋯]at h;exact h
  |exc E c=>rw[qxg]at h;exact h
theorem Zk{m:Option Fl}{P:Sd->Sd->Prop}(h:Po m N (λ_=>False) (λ_=>False) X):Om m n N P X:=by
 cases m with
 |none=>exists h
 |some f=>
  cases f with|nx E=>rw[wjp]at h;exact h|rt E x=>rw[wwg]at h;exact h.elim|xc E c=>exists h|ct E=>exists h|bk E=>exists h
theorem qjx{f:Fn}(h:Eo (qJ cs E) (λE1 xs=>∃x,E1[i]?=some (some x)/\Oom f (letAll xs++[x]) xs.length (λy x'=>P (E1.set i (some x')) y) X) X):Eo (Zq f i cs E) P X:=by
 unfold Zq;rw [k9];refine h.mono ?_;rintro E1 xs ⟨x,e1,h1⟩;rw [e1];dsimp only;unfold Oom at h1;cases hf:f (letAll xs++[x])with
 | none=>rw[hf]at h1;exact h1.elim
 | some rr=>
  rw[hf]at h1;cases rr with
  | exc E' c=>dsimp only;rw[qxg];exact h1
  | ok E' y=>
   dsimp only at h1 ⊢;unfold WV at h1;cases hs:E'[xs.length]? with
   |none=>rw[hs]at h1;exact h1.elim
   |some s=>
    rw[hs]at h1;cases s with|none=>exact h1.elim|some x'=>dsimp only at h1 ⊢;rw[JQ];exact h1
theorem Oom.mono{f:Fn}{xs:List Sd}{P Q:Sd->Sd->Prop}{X Y:XP}(h:Oom f xs n P X)(hp:∀y x,P y x->Q y x)(hx:∀c,X c->Y c):Oom f xs n Q Y:=by
 unfold Oom at h ⊢;cases hf:f xs with
 | none=>rw[hf]at h;exact h.elim
 | some rr=>
  rw[hf]at h;cases rr with
  | exc E' c=>exact hx c h
  | ok E' y=>
   dsimp only at h ⊢;unfold WV at h ⊢;cases hs:E'[n]? with
   |none=>rw[hs]at h;exact h.elim
   |some s=>
    rw[hs]at h;cases s with|none=>exact h.elim|some x'=>exact hp _ _ h
end
end Q
namespace C
open PySem Q
def jvh:Fn:=fn 4
  (j4 (j9 2 (kw .rt []))
  (j4 (vx (itS (cV 1)) (.n 3) (j4 (qX qW 2 (cF2 (pu2 jJ) (vV 0) (vV 3)))
  (j9 0 (cF2 (pu2 v4) (vV 0) (vV 3)))))
  (jY (cMv 2))))
noncomputable def m__law_signs:Fn:=fn 11
  (j4 (j9 2 (cC (.str "abcdefghijklmnopqrstuvwxyz")))
  (j4 (sTup [3,4,5] (jQ jvh [(cV 0),(kw .rt [(cC (.int 8)),(cC (.int 840)),(cC (.int 8))])]))
  (j4 (j9 4 (cF2 (pu2 jJ) (vV 4) (vE (cF2 jz (vV 3) (C9 1)))))
  (j4 (j9 6 (kw .rt []))
  (j4 (vx (vK (vV 1)) (.n 7) (j4 (j9 8 (cC (.str "")))
  (j4 (vx (vK (vE (cF2 jz (vV 3) (C9 1)))) (.n 9) (j4 (j9 10 (cF2 jz (vE (cF2 (pu2 v4) (vV 0) (vE (cF2 jz (C9 53761) (vE (cF2 vz (vE (cF2 vz (C9 26) (vV 9))) (vV 9))))))) (vE (cF2 vz (vE (cF2 vz (vV 7) (vE (cF2 jz (vV 5) (C9 1))))) (vE (cF1 (pu1 Jw) (vE (cF2 (pu2 fEq) (vV 9) (vV 4)))))))))
  (j9 8 (cF2 jz (vV 8) (j6 (vV 2) (vE (cF2 (pu2 jJ) (vV 10) (C9 26))))))))
  (qX qW 6 (cV 8)))))
  (jY (cF1 vwt (vV 6))))))))
noncomputable def m_read_by:Fn:=fn 8
  (j4 (sIf (tOr (tE (cF2 (f2First fIsNon) (vV 1) (vE (cC .non)))) (tE (cF2 (pu2 wq) (vV 2) (j6 (vV 0) (C9 0))))) (jY (cC .non)) q9)
  (j4 (j9 4 (cH (j6 (vV 1) (C9 1))))
  (j4 (j9 5 (cH (j6 (j6 (j6 (j6 (vV 0) (C9 1)) (j6 (vV 1) (C9 0))) (C9 2)) (vE (YX (j6 (vV 0) (C9 0)) (vV 2))))))
  (j4 (j9 6 (cH (j6 (vV 5) (vE (cIf (tE (cF2 (pu2 z5) (vV 3) (vV 4))) (YX (vV 4) (vV 3)) (cF1 (pu1 kY) (vV 4)))))))
  (j4 (sIf (tE (cF2 (f2First fIsNon) (vV 6) (vE (cC .non)))) (jY (cC .non)) q9)
  (j4 (j9 7 (cF2 jz (vV 4) (vE (kK .no [(cV 3)]))))
  (jY (kK .no [(cH (j6 (vV 6) (C9 0))),(cF1 JJ (vE (cLC .rt 1 [7] (itS (cH (j6 (vV 6) (C9 1)))) (.n 0) tYes (cH (j6 (vV 1) (vV 0))))))]))))))))
noncomputable def m__law_case:Fn:=fn 8
  (j4 (j9 4 (cF2 (pu2 jJ) (j6 (vV 0) (C9 1)) (vE (cF1 (pu1 kY) (vV 1)))))
  (j4 (j9 5 (Wk (vE (cF2 jz (j6 (vV 1) (vV 2)) (vE (cF1 (pu1 Jw) (vE (cF2 (pu2 fEq) (vV 3) (j6 (vV 1) (vV 2))))))))))
  (j4 (sIf (tOr (tE (cF2 (pu2 fEq) (j6 (vV 0) (C9 0)) (C9 0))) (tE (cF2 (pu2 fLt) (vE (cF1 (pu1 kY) (vV 5))) (j6 (vV 1) (vV 4))))) (jY (cC .non)) q9)
  (j4 (j9 6 (kw .rt []))
  (j4 (vx (itS (cSl (vV 0) (some (C9 2)) (some (vE (cF2 jz (C9 2) (j6 (vV 1) (vV 4))))))) (.n 7) (qX qW 6 (Zv 5 (vE (cF2 (pu2 jJ) (vV 7) (vE (cF1 (pu1 kY) (vV 5))))))))
  (jY (kK .no [(cV 4),(cF1 JJ (vV 6))])))))))
noncomputable def m__law_plain(dr:Fn):Fn:=fn 14
  (j4 (j9 3 (jQ jvh [(jQ dr [(cV 0),(cV 1)]),(cF2 jz (vE (cF2 jz (vE (kw .rt [(cC (.int 24)),(cC (.int 8)),(cC (.int 8))])) (vE (cF2 vz (vE (kw .rt [(cC (.int 12))])) (C9 6))))) (vE (cF2 vz (vE (kw .rt [(cC (.int 2))])) (C9 6))))]))
  (j4 (j9 4 (cH (j6 (vE (kw .rt [(cF2 jz (C9 1) (vE (cF2 (pu2 jJ) (j6 (vV 3) (C9 0)) (C9 4)))),(cC (.int 5)),(cC (.int 6))])) (vE (cF2 vz (vE (cF1 (pu1 Jw) (vE (cF2 (pu2 fEq) (j6 (vV 3) (C9 1)) (C9 3))))) (vE (cF2 jz (C9 1) (vE (cF2 (pu2 jJ) (j6 (vV 3) (C9 2)) (C9 2))))))))))
  (j4 (j9 5 (cF2 jz (vE (kw .rt [(cC (.int 0))])) (vE (cLC .rt 1 [3,4] (itR2 (C9 1) (vV 4)) (.n 0) tYes (cF2 (pu2 jJ) (j6 (vV 1) (vE (cF2 jz (C9 3) (vV 0)))) (vE (cF2 jz (C9 3) (vE (cF1 (pu1 Jw) (vE (Kw (vE (cF2 (pu2 fEq) (j6 (vV 1) (C9 2)) (C9 5))) (cF2 (pu2 fLt) (vV 2) (C9 4)))))))))))))
  (j4 (j9 6 (kw .rt []))
  (j4 (j9 7 (cF2 jz (vV 1) (C9 1)))
  (j4 (vx (vK (vV 4)) (.n 8) (j4 (j9 9 (kw .rt []))
  (j4 (vx (vK (vE (cF1 (pu1 kY) (vV 2)))) (.n 10) (j4 (j9 11 (kw .rt []))
  (j4 (vx (vK (vE (cF2 jz (j6 (vV 5) (vV 8)) (C9 1)))) (.n 12) (j4 (j9 13 (jQ jvh [(jQ dr [(cV 0),(cV 7)]),(kw .rt [(cC (.int 6)),(cC (.int 60)),(cC (.int 60)),(cC (.int 60)),(cC (.int 60))])]))
  (j4 (j9 7 (cF2 jz (vV 7) (C9 1)))
  (qX qW 11 (jQ m__law_case [(cV 13),(cV 5),(cV 8),(cV 12)])))))
  (qX qW 9 (cV 11)))))
  (qX qW 6 (kK .no [(cH (j6 (vV 5) (vV 8))),(cF2 (pu2 fEq) (j6 (vV 3) (vE (cF2 jz (C9 9) (vV 8)))) (C9 1)),(cV 9)])))))
  (jY (kK .no [(kK .no [(cF1 xZ (vV 2)),(cV 6)]),(cV 7)]))))))))
end C
local macro_rules
 | `(tactic| simp![$ts,*])=>`(tactic| simp(config:={ maxSteps:=1000000,failIfUnchanged:=false,implicitDefEqProofs:=true }) (disch:=omega) only[↓Q.w_seq,↓Q.w_asg,↓Q.w_ret,↓Q.w_pass,↓Q.w_if,↓Q.w_vV,↓Q.w_cV,↓Q.w_cMv,↓Q.w_cC,↓Q.w_vE,↓Q.w_cH,↓Q.w_f1,↓Q.w_f2,↓Q.w_ix,↓Q.w_tE,↓Q.w_tEQ,↓Q.w_tNot,↓Q.w_tAnd,↓Q.w_tOr,↓Q.w_tYes,↓Q.w_cIf,↓Q.w_cAnd,↓Q.w_cOr,↓Q.w_cNotQ,↓Q.w_call,↓Q.w_callB,↓Q.w_partN,↓Q.w_partS,↓Q.w_sl,↓Q.w_idx,↓Q.w_itS,↓Q.w_rz,↓Q.w_tryE,↓Q.w_R1,↓Q.w_LR1,Q.rng_ok,true_and,↓Q.ie_i,Q.isSq,Q.sl_some,↓Q.andP_bl,↓Q.vo_some,↓Q.vo_map,↓Q.wo_some,↓Q.wo_map,↓Q.args_nil,↓Q.args_cons,↓Q.eo_tup,↓Q.eo_lst,Q.letAll,Q.pu2,Q.pu1,Q.f2First,Q.fIsNon,Q.fNotNon,Q.isNon,List.map_cons,List.map_nil,List.cons_append,List.nil_append,Xv,List.length_nil,X4,Nat.reduceAdd,Nat.reduceSub,List.replicate,List.set_cons_zero,List.set_cons_succ,List.getElem?_cons_zero,List.getElem?_cons_succ,Q.len_l,Q.len_t,Q.lt_ii,Q.gt_ii,Q.le_ii,Q.ge_ii,Q.add_i,Q.sub_i,Q.div_i,Q.mod_i,Q.mulT_i,Q.mulT_l,Q.mul_l,Option.map_some,Q.truth,Q.truthQ,Q.D.pure,↓reduceIte,if_true,if_false,ite_true,ite_false,Q.sub_no,Q.sub_rt,Q.sub_dp,Bool.false_eq_true,reduceCtorEq,Bool.not_true,Bool.not_false,Q.Tg.put,Q.setAll,Q.seqOf,Q.lstOf,$ts,*])
namespace C
open Q PySem
abbrev most:Int:=1000*10 ^ 64
abbrev iL(ns:List Int):D:=.lst (ns.map D.int)
def Each(G:D->Sd->Prop):List D->List Sd->Prop
 |[],[]=>True|d::ds,y::ys=>G d y/\Each G ds ys|_,_=>False
theorem Each.snoc{G:D->Sd->Prop}{d:D}{y:Sd}(h:G d y):∀{ds:List D} {ys:List Sd},Each G ds ys->Each G (ds++[d]) (ys++[y])
 |[],[],_=>⟨h,trivial⟩|_::_,_::_,r=>⟨r.1,Each.snoc h r.2⟩
theorem JY{X:XP}{E:En}{o:Own}{r:List Nat}{it:Ev (List D)}{c:Ex}{P:En->Sd->Prop}(jq:En)(G:D->Sd->Prop)(h0:Eo (it E) (λE1 ds=>r.map (at' E1)=jq/\(∀d∈ds,Eo (c (some (.no,d)::jq)) (λB y=>(∃q,B=q::jq)/\G d y) X)/\∀ys,Each G ds ys->Eo (mkL o (back r jq (clr r E1)) ys) P X) X):Eo (cLC o 1 r it (.n 0) tYes c E) P X:=by
 refine V3 (λE1 B ds2 aq=>∃ds ds1 q,ds=ds1++ds2/\B=q::jq/\Each G ds1 aq/\(∀d∈ds,Eo (c (some (.no,d)::jq)) (λB y=>(∃q,B=q::jq)/\G d y) X)/\∀ys,Each G ds ys->Eo (mkL o (back r jq (clr r E1)) ys) P X) ?_ ?_ ?_
 ·refine h0.mono λE1 ds ⟨h1,h2,h3⟩=>⟨ds,[],none,rfl,by rw[<-h1];rfl,trivial,h2,h3⟩
 ·rintro E1 B d ds2 aq ⟨ds,ds1,q,e,rfl,hE,h2,h3⟩;have hp:(Tg.n 0).put d (q::jq)=some (some (.no,d)::jq):=rfl;rw[hp,vo_some,show tYes (some (Own.no,d)::jq)=some (.ok (some (Own.no,d)::jq) true)from rfl,JQ,X9 rfl];refine(h2 d (by rw[e];simp)).mono ?_;rintro B y ⟨⟨q',rfl⟩,hG⟩;exact⟨ds,ds1++[d],q',by rw[e];simp,rfl,hE.snoc hG,h2,h3⟩
 ·rintro E1 B aq ⟨ds,ds1,q,e,rfl,hE,h2,h3⟩;rw[Xw]at e;subst e;exact h3 aq hE
theorem kwy{G:D->Sd->Prop}{S:Int->Prop}(hG:∀d y,G d y->∃i,y.2=.int i/\S i):∀{ds:List D} {ys:List Sd},Each G ds ys->∃ps:List Int,ys.map (·.2)=ps.map D.int/\ps.length=ds.length/\∀p∈ps,S p
 |[],[],_=>⟨[],rfl,rfl,λ_ h=>nomatch h⟩
 |d::ds,y::ys,r=>by
  obtain⟨i,e,s⟩:=hG d y r.1;obtain⟨ps,h1,h2,h3⟩:=kwy hG r.2;exact⟨i::ps,by simp[e,h1],by simp[h2],λp hp=>(aD hp).elim (λz=>z▸s) (h3 p)⟩
theorem qv7{n:Int}:k7 n n=[]:=by unfold k7;rw[Int.sub_self];rfl
theorem kkv{k n:Int}(h:k<n):k7 k n=.int k::k7 (k+1) n:=by
 unfold k7;have:(n - k).toNat=(n - (k+1)).toNat+1:=by
  obtain⟨m,hm⟩:=Int.eq_ofNat_of_zero_le (show 0<=n - (k+1)by omega);rw[hm,show n - k=(m+1:Nat)by omega];rfl
 rw[this,List.range_succ_eq_map,List.map_cons,Xs]
 congr 1
 ·simp
 ·apply List.map_congr_left;intro i _;simp only[Function.comp]
  congr 1
  omega
theorem Qq{k n:Int}{d:D}{ds:List D}(hk:k<=n)(h:d::ds=k7 k n):k<n/\d=.int k/\ds=k7 (k+1) n:=by
 by_cases hl:k<n
 ·rw[kkv hl]at h;injection h with h1 h2;exact⟨hl,h1,h2⟩
 ·have:k=n:=⋯
  subst this;rw[qv7]at h;cases h
theorem Q8{k n:Int}(hk:k<=n)(h:[]=k7 k n):k=n:=by
 by_cases hl:k<n
 ·rw[kkv hl]at h;cases h
 ·omega
theorem kz3{k n:Int}{d:D}(h:d∈k7 k n):∃i:Int,k<=i/\i<n/\d=.int i:=by
 unfold k7 at h;obtain⟨j,hj,rfl⟩:=aE h;have:=List.mem_range.mp hj;exact⟨k+j,⋯,⋯,rfl⟩
theorem vwb{k n:Int}(h:k<=n):((k7 k n).length:Int)=n - k:=by
 unfold k7;rw[X4,Yj];omega
theorem kwg(z:Str)(i:Int)(h0:0<=i)(h1:i<z.cps.size):∃c:Nat,jK (.str z) (.int i)=some (.str ⟨#[c]⟩):=by
 have:i.toNat<z.cps.toList.length:=by rw[Xi];omega
 refine⟨z.cps.toList[i.toNat],?_⟩;show((ixN z.cps.size i).bind λj=>(z.cps.toList[j]?).map λc=>D.str ⟨#[c]⟩)=_;unfold ixN;rw[X9 h0,X9 h1];show((z.cps.toList[i.toNat]?).map λc=>D.str ⟨#[c]⟩)=_;rw[X2 this];rfl
theorem VW{o1 o2:Own}{a b:Str}(h:a.cps.size+b.cps.size<=10000):jz (o1,.str a) (o2,.str b)=some (.dp,.str (a++b)):=by
 show(if a.cps.size+b.cps.size<=big then _ else _)=_;rw[X9 (by unfold big;omega)]
theorem kqk(a b:Str):(a++b).cps.size=a.cps.size+b.cps.size:=by
 show(a.cps++b.cps).size=_;exact Array.size_append
theorem kxi:∀(ss:List Str),J5 (ss.map D.str)=some ss
 |[]=>rfl|s::ss=>by rw[List.map_cons,J5,kxi ss];rfl
abbrev sL(ss:List Str):D:=.lst (ss.map D.str)
theorem ixI(ks:List Int)(S:Int->Prop)(hS:∀k∈ks,S k)(i:Int)(h0:0<=i)(h1:i<ks.length):∃v,jK (iL ks) (.int i)=some (.int v)/\S v/\ks[i.toNat]?=some v:=by
 have hl:i.toNat<ks.length:=⋯
 refine⟨ks[i.toNat],zQ h0 (by rw[Xn,X2 hl];rfl),hS _ (Y8 hl),X2 hl⟩
def Gd(n:Int)(g:D):Prop:=g=.str "fresh"\/g=.str "any"\/∃i:Int,0<=i/\i<n/\g=.int i
def Fd(n:Int)(g:D):Prop:=g=.str "new"\/g=.non\/∃i:Int,0<=i/\i<n/\g=.int i
def St(own:Int)(d:D):Prop:=∃(z:Str) (g:D) (to:Int) (fs:List D),d=.tup [.str z,g,.int to,.tup fs]/\Gd own g/\(∀f∈fs,Fd own f)/\fs.length<=3
def Rm(d:D):Prop:=∃(kp:Int) (gd:Bool) (ss:List D),d=.tup [.int kp,.bl gd,.lst ss]/\0<=kp/\kp<=3/\(∀s∈ss,St kp s)/\ss.length<=14
def Rms(rs:List D):Prop:=1<=rs.length/\rs.length<=4/\∀r∈rs,Rm r
def Rmw(rs:List D):Prop:=1<=rs.length/\rs.length<=12/\∀r∈rs,Rm r
instance {rs:List D}:Coe (Rms rs) (Rmw rs):=⟨λh=>⟨h.1,by have:=h.2.1;omega,h.2.2⟩⟩
def Sx(sgs:List Str)(aj:List Int)(d:D):Prop:=∃(z:Str) (g:D) (to:Int) (fs:List D),d=.tup [.str z,g,.int to,.tup fs]/\z∈sgs/\0<=to/\to<aj.length/\(fs.length:Int)=aj.getD to.toNat 0
def At(d:D):Prop:=d=.non\/∃i,d=.int i
theorem zj{n:Nat}:∀{ks:List D},(∀k∈ks,k.flat n=true)->D.flats n ks=true
 |[],_=>by cases n<;>simp[D.flats]|k::ks,h=>by rw[D.flats,h k X7,zj λe he=>h e (lc9 _ he)];rfl
mutual
theorem jx3:∀{n:Nat} (d:D),d.flat n=true->peq d d=true
 |n,.non,_=>by simp[peq]|n,.bl b,_=>by simp[peq]|n,.int b,_=>by simp[peq]|n,.str b,_=>by simp[peq]|0,.tup xs,h=>by simp[D.flat]at h|0,.lst xs,h=>by simp[D.flat]at h|n+1,.tup xs,h=>by rw[peq];exact peqs_refl xs (by simpa [D.flat]using h)|n+1,.lst xs,h=>by rw[peq];exact peqs_refl xs (by simpa [D.flat]using h)|n,.dct _,h=>by cases n<;>simp[D.flat]at h|n,.obj _ _,h=>by cases n<;>simp[D.flat]at h
theorem peqs_refl:∀{n:Nat} (ds:List D),D.flats n ds=true->peqs ds ds=true
 |_,[],_=>by simp[peqs]
 |n,d::ds,h=>by
  rw[D.flats,Bool.and_eq_true]at h;rw[peqs,jx3 d h.1,peqs_refl ds h.2];rfl
end
theorem kxz{d:D}(h:d.flat 40=true):fNe d d=some (.bl false):=by unfold fNe;rw[h,jx3 d h];rfl
def fitB(ks:List D)(d g:D):Bool:=match g with
 |.int i=>peq (ks.getD i.toNat .non) d|.str s=>if s="fresh" then !ks.any λz=>peq z d else true|_=>true
theorem p0(a b:D):jK (.tup [a,b]) (.int 0)=some a:=rfl
theorem p1(a b:D):jK (.tup [a,b]) (.int 1)=some b:=rfl
theorem t0(a b c:D):jK (.tup [a,b,c]) (.int 0)=some a:=rfl
theorem t1(a b c:D):jK (.tup [a,b,c]) (.int 1)=some b:=rfl
theorem t2(a b c:D):jK (.tup [a,b,c]) (.int 2)=some c:=rfl
def wq3(ks:List D)(d f:D):D:=match f with
 |.int i=>ks.getD i.toNat .non|.str _=>d|_=>.non
theorem Qz{G:D->Sd->Prop}{h:D->D}(hG:∀d y,G d y->y.2=h d):∀{ds:List D} {ys:List Sd},Each G ds ys->ys.map (·.2)=ds.map h
 |[],[],_=>rfl|d::ds,y::ys,r=>by rw[List.map_cons,List.map_cons,hG d y r.1,Qz hG r.2]
abbrev j7(ss:List Str)(rs:List D):D:=.tup [sL ss,.lst rs]
def wx9(z:Str)(ks:List D)(d s:D):Bool:=match s with
 |.tup [.str w,g,_,_]=>(w==z)&&fitB ks d g|_=>false
def qx9(p:D->Bool):Nat->List D->List D
 |_,[]=>[]|k,s::r=>if p s=true then .int k::qx9 p (k+1) r else qx9 p (k+1) r
def qz0(ks:List D)(d s:D):D:=match s with
 |.tup [_,_,to,.tup fs]=>.tup [to,.tup (fs.map (wq3 ks d))]|_=>.non
theorem qjb{α:Type}[DecidableEq α]:∀{l m:List α},l.Nodup->(∀x∈l,x∈m)->l.length<=m.length
 |[],_,_,_=>Yg _
 |a::l,m,nd,h=>by
  rw[List.nodup_cons]at nd;have ha:=h a X7;have:=qjb (l:=l) (m:=m.erase a) nd.2 λx hx=>(List.mem_erase_of_ne (by rintro rfl;exact nd.1 hx)).mpr (h x (lc9 _ hx))
  have hl:=List.length_erase_of_mem ha;have:0<m.length:=List.length_pos_of_mem ha;simp only[Xv];omega
theorem xY{o:Own}{xs:List D}(h:o≠.dp):xZ (o,.lst xs)=some (.rt,.lst xs):=by
 show(if qK (o,.lst xs)then _ else _)=_;rw[X9 (by cases o<;>simp_all [qK])]
theorem VQ{z:Str}{ss:List Str}:wq (.str z) (sL ss)=some (.bl (!ss.any λw=>w==z)):=by
 show Wj (.str z) (sL ss)=_;unfold Wj;have:fIn (.str z) (sL ss)=some (.bl (ss.any λw=>w==z)):=by
  show(if(D.str z).flat 30&&D.flats 30 (ss.map D.str)then some (D.bl ((ss.map D.str).any λw=>peq w (.str z)))else none)=_;rw[show(D.str z).flat 30=true from rfl,zj (ks:=ss.map D.str) (λk hk=>by obtain⟨w,_,rfl⟩:=aE hk;rfl),List.any_map];rfl
 rw[this];rfl
def wr(x:Int):Int:=if x<=0 then x else x - 10 ^ 60
theorem ZV{p:Int}{ks:List Int}:z5 (.int p) (.tup (ks.map D.int))=some (.bl (ks.any λw=>w==p)):=by
 show(if(D.int p).flat 30&&D.flats 30 (ks.map D.int)then some (D.bl ((ks.map D.int).any λw=>peq w (.int p)))else none)=_;rw[show(D.int p).flat 30=true from rfl,zj (ks:=ks.map D.int) (λk hk=>by obtain⟨w,_,rfl⟩:=aE hk;rfl),List.any_map];rfl
def zw(own k:Int):Int:=own+(if k=own then 1 else 0)
def Cs(aj:List Int)(b:Int)(c:D):Prop:=c=.non\/∃(to:Int) (fs:List Int),c=.tup [.int to,.tup (fs.map D.int)]/\0<=to/\to<aj.length/\(∀f∈fs,0<=f/\f<b)/\fs.Nodup/\(fs.length:Int)=aj.getD to.toNat 0
theorem ZJ{α:Type}:∀{l:List α} {i:Nat} (h:i<l.length),(l[i]::l.eraseIdx i).Perm l
 |a::l,0,h=>List.Perm.refl _
 |a::l,i+1,h=>by
  have:=ZJ (l:=l) (i:=i) (by simpa using h);rw[List.getElem_cons_succ,Z1];exact(List.Perm.swap ..).trans (this.cons a)
theorem kwr{α β:Type}(f:α->β):∀(l:List α) (i:Nat),(l.map f).eraseIdx i=(l.eraseIdx i).map f
 |[],_=>rfl|a::l,0=>rfl|a::l,i+1=>by rw[List.map_cons,Z1,Z1,List.map_cons,kwr f l i]
theorem vws(a b:Int):Jw (.bl (a==b))=some (.int (if a=b then 1 else 0)):=by
 by_cases h:a=b
 ·rw[X9 h,show(a==b)=true by simpa using h];rfl
 ·rw[Xb h,show(a==b)=false by simpa using h];rfl
def Pr(aj:List Int)(n:Nat)(own:Int)(d:D):Prop:=∃(gd:Bool) (st:List D),d=.tup [.int own,.bl gd,.lst st]/\st.length=n/\∀c∈st,∃cs:List D,c=.lst cs/\(cs.length:Int)=own+1/\∀k:Nat,k<cs.length->∃z,cs[k]?=some z/\Cs aj (zw own k) z
def Prs(aj:List Int)(n:Nat)(rs:List D):Prop:=rs.length=aj.length/\∀i:Nat,i<aj.length->∃r,rs[i]?=some r/\Pr aj n (aj.getD i 0) r
theorem kzb{α:Type}{p:α->Bool}:∀{l:List α},l.any p=true->l.findIdx? p=some (l.findIdx p)
 | [],h=>by cases h
 | a::l,h=>by
  rw[List.findIdx?_cons,List.findIdx_cons];cases hp:p a with
  |true=>simp
  |false=>
   rw[List.any_cons,hp,Bool.false_or]at h;rw[kzb h];simp
theorem wx2{α:Type}{p:α->Bool}{l:List α}(h:l.any p=true):l.findIdx p<l.length:=by
 obtain⟨x,hx,hp⟩:=List.any_eq_true.mp h;exact List.findIdx_lt_length_of_exists ⟨x,hx,hp⟩
theorem wx1{α:Type}{p:α->Bool}{l:List α}(h:l.any p=false):l.findIdx p=l.length:=by
 rw[List.findIdx_eq_length];intro x hx;cases hp:p x with|false=>rfl|true=>rw[List.any_eq_true.mpr ⟨x,hx,hp⟩]at h;cases h
theorem wwv{z:Str}{ss:List Str}(h:(ss.any λw=>w==z)=true):kwq (sL ss) (.str z)=some (.int (ss.findIdx λw=>w==z:Nat)):=by
 show(if(D.str z).flat 30&&D.flats 30 (ss.map D.str)then((ss.map D.str).findIdx? λw=>peq w (.str z)).map λ(j:Nat)=>D.int (j:Int)else none)=_;rw[show(D.str z).flat 30=true from rfl,zj (ks:=ss.map D.str) (λk hk=>by obtain⟨w,_,rfl⟩:=aE hk;rfl),List.findIdx?_map];have:ss.findIdx? ((λw=>peq w (.str z))∘D.str)=ss.findIdx? λw=>w==z:=rfl
 rw[this,kzb h];rfl
theorem wq1{p:Int}{ks:List Int}(h:(ks.any λw=>w==p)=true):kwq (.tup (ks.map D.int)) (.int p)=some (.int (ks.findIdx λw=>w==p:Nat)):=by
 show(if(D.int p).flat 30&&D.flats 30 (ks.map D.int)then((ks.map D.int).findIdx? λw=>peq w (.int p)).map λ(j:Nat)=>D.int (j:Int)else none)=_;rw[show(D.int p).flat 30=true from rfl,zj (ks:=ks.map D.int) (λk hk=>by obtain⟨w,_,rfl⟩:=aE hk;rfl),List.findIdx?_map];have:ks.findIdx? ((λw=>peq w (.int p))∘D.int)=ks.findIdx? λw=>w==p:=rfl
 rw[this,kzb h];rfl
theorem vql{a b:List D}(hl:a.length+b.length<=10000):jz (.no,.tup a) (.no,.tup b)=some (.no,.tup (a++b)):=by
 show(if a.length+b.length<=big/\qK (.no,.tup a)/\qK (.no,.tup b)then _ else _)=_;rw[X9 ⟨by unfold big;omega,rfl,rfl⟩]
abbrev iT(ks:List Int):D:=.tup (ks.map D.int)
def Q3(ks:List Int)(p:Int)(f:Int):Int:=(ks++[p]).getD f.toNat 0
def vx5(ks:List Int)(p:Int)(c:D):D:=match c with
 |.tup [to,.tup fs]=>.tup [to,.tup (fs.map λf=>match f with|.int i=>.int (Q3 ks p i)|_=>.non)]
 |_=>.non
theorem caseD_is{ks fs:List Int}{p to:Int}:vx5 ks p (.tup [.int to,iT fs])=.tup [.int to,iT (fs.map (Q3 ks p))]:=by
 unfold vx5 iT;simp[Xs,Function.comp]
def VY(ss:List Str)(st:List D)(ks:List Int)(z:Str)(p:Int):D:=match st[ss.findIdx λw=>w==z]? with
 |some (.lst cs)=>cs.getD (ks.findIdx λw=>w==p) .non|_=>.non
def Vz(ss:List Str)(st:List D)(ks:List Int)(z:Str)(p:Int):D:=if(ss.any λw=>w==z)=true then vx5 ks p (VY ss st ks z p)else .non
def Cas(aj:List Int)(n:Nat)(own:Int)(st:List D):Prop:=st.length=n/\∀c∈st,∃cs:List D,c=.lst cs/\(cs.length:Int)=own+1/\∀k:Nat,k<cs.length->∃z,cs[k]?=some z/\Cs aj (zw own k) z
theorem wx3{ks:List Int}{p:Int}:(ks.findIdx λw=>w==p)<=ks.length:=List.findIdx_le_length
theorem vqi{aj:List Int}{ss:List Str}{st:List D}{ks:List Int}{z:Str}(p:Int)(h:Cas aj ss.length ks.length st)(hz:(ss.any λw=>w==z)=true):∃cs,st[ss.findIdx λw=>w==z]?=some (.lst cs)/\(cs.length:Int)=ks.length+1/\cs[ks.findIdx λw=>w==p]?=some (VY ss st ks z p)/\Cs aj (zw ks.length (ks.findIdx λw=>w==p:Nat)) (VY ss st ks z p):=by
 have hj:(ss.findIdx λw=>w==z)<st.length:=by rw[h.1];exact wx2 hz
 obtain⟨cs,e,hl,hc⟩:=h.2 st[ss.findIdx λw=>w==z] (Y8 hj);have hg:st[ss.findIdx λw=>w==z]?=some (.lst cs):=by rw[X2 hj,e]
 have fq:=wx3 (ks:=ks) (p:=p);obtain⟨c,e2,hC⟩:=hc (ks.findIdx λw=>w==p) ⋯;have hca:VY ss st ks z p=c:=by unfold VY;rw[hg];dsimp only;rw[Xe,e2];rfl
 exact⟨cs,hg,hl,by rw[hca];exact e2,by rw[hca];exact hC⟩
theorem qw5{ks:List Int}{p f:Int}(h0:0<=f)(h1:f<=ks.length):jK (.tup (ks.map D.int++[.int p])) (.int f)=some (.int (Q3 ks p f)):=by
 refine ix_t h0 ?_;rw[show ks.map D.int++[D.int p]=(ks++[p]).map D.int by simp,Xn];unfold Q3;rw[Xe,X2 (by simp;omega)];rfl
theorem vxd{own:Int}{k:Int}:zw own k<=own+1:=by unfold zw;split<;>omega
theorem vv6{aj:List Int}{ss:List Str}{rs st:List D}{kp gd:D}{room:Int}{ks:List Int}{z:Str}{p:Int}(h0:0<=room)(hr:rs[room.toNat]?=some (.tup [kp,gd,.lst st]))(hc:Cas aj ss.length ks.length st)(hl:ks.length<=1000):
  Oo m_read_by [(.no,j7 ss rs),(.no,.tup [.int room,iT ks]),(.no,.str z),(.no,.int p)] (λy=>y.2=Vz ss st ks z p) noX:=by
 have hi:jK (.lst rs) (.int room)=some (.tup [kp,gd,.lst st]):=zQ h0 hr;unfold Vz;cases hz:(ss.any λw=>w==z)with
 | false=>
  unfold m_read_by;refine qv ?_;simp![p0,VQ,hz]
 | true=>
  obtain⟨cs,g1,g2,g3,g4⟩:=vqi p hc hz;have hx:jK (.lst st) (.int (ss.findIdx λw=>w==z:Nat))=some (.lst cs):=zQ ⋯ (by rw[Xu];exact g1);have hy:jK (.lst cs) (.int (ks.findIdx λw=>w==p:Nat))=some (VY ss st ks z p):=zQ ⋯ (by rw[Xu];exact g3);have kf:=vql (a:=ks.map D.int) (b:=[.int p]) (by simp;omega);have lr:=wwv hz;generalize VY ss st ks z p=c at g4 hy;have fin:∀(to:Int) (fs:List Int) (E:En) (hE:Q4 1 [7] E=none::[some (.no,.tup (ks.map D.int++[.int p]))]) (hb:back [7] [some (Own.no,D.tup (ks.map D.int++[.int p]))] (clr [7] E)=E) (hi:itS (cH (j6 (vV 6) (C9 1))) E=some (.ok E (fs.map D.int))) (P:En->Sd->Prop),(∀f∈fs,0<=f/\f<zw ks.length (ks.findIdx λw=>w==p:Nat))->P E (.rt,.lst ((fs.map (Q3 ks p)).map D.int))->Eo (cLC .rt 1 [7] (itS (cH (j6 (vV 6) (C9 1)))) (.n 0) tYes (cH (j6 (vV 1) (vV 0))) E) P noX:=by
   intro to fs E hE hb hi P qe hP;refine JY [some (.no,.tup (ks.map D.int++[.int p]))] (λf y=>y.2=match f with|.int i=>.int (Q3 ks p i)|_=>.non) ?_;rw[hi,JQ];refine⟨by have:=hE;unfold Q4 at this;simpa using this,λf hf=>?_,λys hy=>?_⟩
   ·obtain⟨i,kt,rfl⟩:=aE hf;have hb:=vxd (own:=ks.length) (k:=(ks.findIdx λw=>w==p:Nat));have:=qe i kt;simp![qw5 (ks:=ks) (p:=p) (f:=i) this.1 ⋯];exact⟨⟨_,rfl⟩,trivial⟩
   ·rw[xx,Qz (h:=λf=>match f with|.int i=>.int (Q3 ks p i)|_=>.non) (λd y h=>h) hy,hb];rw[Xs]at hP ⊢;exact hP
  rw[X9 rfl];cases hp:(ks.any λw=>w==p)with
  | true=>
   have hii:=wq1 hp;unfold m_read_by;refine qv ?_;rcases g4 with rfl|⟨to,fs,rfl,t0',t1',qe,_⟩
   ·simp![p0,p1,VQ,hz,hi,t2,lr,hx,ZV,hp,hii,hy];rfl
   ·simp![p0,p1,VQ,hz,hi,t2,lr,hx,ZV,hp,hii,hy,kf];refine fin to fs _ rfl rfl rfl _ qe ?_;simp![tup_l (o:=.no) (xs:=(fs.map (Q3 ks p)).map D.int) ⋯];exact caseD_is.symm
  | false=>
   rw[wx1 hp]at hy;unfold m_read_by;refine qv ?_;rcases g4 with rfl|⟨to,fs,rfl,t0',t1',qe,_⟩
   ·simp![p0,p1,VQ,hz,hi,t2,lr,hx,ZV,hp,hy];rfl
   ·simp![p0,p1,VQ,hz,hi,t2,lr,hx,ZV,hp,hy,kf];refine fin to fs _ rfl rfl rfl _ qe ?_;simp![tup_l (o:=.no) (xs:=(fs.map (Q3 ks p)).map D.int) ⋯];exact caseD_is.symm
inductive DR1 (ns:List Int)(k:Int):En->List D->Prop
 |mk (x:Int) (f:Int) (j:Int) {o3:Own} {o4:Own} {l5:Option Sd} {jq:List D} (h0:0<=x) (h1:x<10000000000) (h2:0<=j) (h3:j<=8) (h4:jq=k7 j 8):DR1 ns k [some (.no,iL ns),some (.no,.int k),some (.dp,.int most),some (o3,.int x),some (o4,.int f),l5] jq
def Go(rs:List D)(s:D)(w:Str×Int)(k:Nat)(s':D):Prop:=∃(room:Int) (ks st:List D) (gd:D),s=.tup [.int room,.tup ks]/\0<=room/\rs[room.toNat]?=some (.tup [.int ks.length,gd,.lst st])/\(∀s∈st,St ks.length s)/\(∀k∈ks,At k)/\∃h:k<st.length,D.int k∈qx9 (wx9 w.1 ks (.int w.2)) 0 st/\s'=qz0 ks (.int w.2) st[k]
abbrev Lg:=List ((Str×Int)×Nat)
def wqz(rs:List D):D->Lg->D->Prop
 |s,[],s'=>s=s'|s,x::r,s'=>∃m,Go rs s x.1 x.2 m/\wqz rs m r s'
abbrev wxm(L:Lg):List D:=L.map λx=>.int x.2
theorem kx1{xs:List D}{c:Int}(h0:0<=c)(h1:c<=xs.length):zV xs none (some c)=xs.take c.toNat:=by
 unfold zV z8;dsimp only;rw[Xb ⋯,List.drop_zero,Nat.sub_zero,Nat.min_eq_left (Int.toNat_le.mpr h1)]
end C
namespace C
open Q PySem
def Ok2(aj:List Int)(s:D):Prop:=s=.non\/∃(room:Int) (ks:List Int),s=.tup [.int room,iT ks]/\0<=room/\room<aj.length/\(ks.length:Int)=aj.getD room.toNat 0
def Rd(aj:List Int)(ss:List Str)(rs:List D)(s:D)(w:Str×Int)(s':D):Prop:=(s=.non/\s'=.non)\/∃(room:Int) (ks:List Int) (st:List D) (kp gd:D),s=.tup [.int room,iT ks]/\0<=room/\rs[room.toNat]?=some (.tup [kp,gd,.lst st])/\Cas aj ss.length ks.length st/\ks.length<=3/\s'=Vz ss st ks w.1 w.2
theorem qzq{aj:List Int}{ss:List Str}{rs:List D}{s:D}(w:Str×Int)(hP:Prs aj ss.length rs)(hk:∀p∈aj,0<=p/\p<=3)(h:Ok2 aj s):∃s',Rd aj ss rs s w s'/\Ok2 aj s'/\((ss.any λz=>z==w.1)=false->s'=.non):=by
 rcases h with rfl|⟨room,ks,rfl,r0,r1,hl⟩
 ·exact⟨.non,.inl ⟨rfl,rfl⟩,.inl rfl,λ_=>rfl⟩
 ·obtain⟨r,er,gd,st,rfl,iz,cb⟩:=hP.2 room.toNat ⋯;have hk3:=hk (aj.getD room.toNat 0) (by rw[Xe,X2 ⋯];exact Y8 _);have qt:Cas aj ss.length ks.length st:=⟨iz,by rw[hl];exact cb⟩;refine⟨Vz ss st ks w.1 w.2,.inr ⟨room,ks,st,_,_,rfl,r0,er,qt,⋯,rfl⟩,?_,λhz=>?_⟩
  ·unfold Vz;cases hz:(ss.any λz=>z==w.1)with
   |false=>exact .inl rfl
   |true=>
    obtain⟨cs,g1,g2,g3,g4⟩:=vqi w.2 qt hz;rw[X9 rfl];rcases g4 with e|⟨to,fs,e,t0,t1,_,_,js⟩
    ·rw[e];exact .inl rfl
    ·rw[e,caseD_is];exact .inr ⟨to,_,rfl,t0,t1,by rw[X4];exact js⟩
  ·unfold Vz;rw[hz];rfl
theorem qj2{aj:List Int}{ss:List Str}{rs:List D}{s s':D}{w:Str×Int}(h:Rd aj ss rs s w s'):Oo m_read_by [(.no,j7 ss rs),(.no,s),(.no,.str w.1),(.no,.int w.2)] (λy=>y.2=s') noX:=by
 rcases h with⟨rfl,rfl⟩|⟨room,ks,st,kp,gd,rfl,r0,er,hc,hl,rfl⟩
 ·unfold m_read_by;refine qv ?_;simp![]
 ·exact vv6 r0 er hc ⋯
abbrev st0:D:=.tup [.int 0,iT []]
def wq5(rs:List D)(s:D):Bool:=match s with
 |.tup [.int room,_]=>(match rs[room.toNat]? with
  |some (.tup [_,.bl b,_])=>b
  |_=>false)
 |_=>false
end C
namespace C
open Q PySem
noncomputable section
def wQ(K:List D)(d:D):List D:=if d∈K then K else K++[d]
def XJ:D->List D
 |.tup [_,.tup ks]=>ks|_=>[]
def wxp(rs:List D):D->List D
 |.tup [.int r,_]=>(match rs.getD r.toNat .non with
  |.tup [_,_,.lst st]=>st
  |_=>[])
 |_=>[]
def wwx(rs:List D):D->Bool
 |.tup [.int r,_]=>(match rs.getD r.toNat .non with
  |.tup [_,.bl b,_]=>b
  |_=>false)
 |_=>false
def bh(ks st:List D)(p:Int):D->D
 |.int k=>qz0 ks (.int p) (st.getD k.toNat .non)|_=>.non
def vjc(rs:List D)(w:Str×Int)(s:D):List D:=(qx9 (wx9 w.1 (XJ s) (.int w.2)) 0 (wxp rs s)).map (bh (XJ s) (wxp rs s) w.2)
def wvn(rs:List D)(w:Str×Int)(K:List D):List D:=(K.flatMap (vjc rs w)).foldl wQ []
def wxq(rs:List D):List (Str×Int)->List D->List D
 |[],K=>K|w::ws,K=>wxq rs ws (wvn rs w K)
end
def SokV(aj:List Int)(V:List D)(s:D):Prop:=∃(room:Int) (ks:List D),s=.tup [.int room,.tup ks]/\0<=room/\room<aj.length/\(ks.length:Int)=aj.getD room.toNat 0/\(∀k∈ks,At k)/\∀k∈ks,k∈V
def Kin(aj:List Int)(V K:List D):Prop:=K.Nodup/\∀s∈K,SokV aj V s
abbrev Kvs:=List (D×D)
abbrev Lws:=List (Str×Int)
def Wd(rs:List D)(s0:D)(pre:List (Str×Int))(kvs:List (D×D)):Prop:=∀e∈kvs,∃L:Lg,e.2=.lst (wxm L)/\L.map (·.1)=pre/\wqz rs s0 L e.1
inductive WO1 (ss:List Str)(rs V:List D)(aj:List Int)(s0:D)(pre:Lws)(kvs:Kvs)(z:Str)(p:Int):En->List D->Prop
 |mk (mn:Kvs) (sv:Kvs) (kv:Kvs) {l5:Option Sd} {l6:Option Sd} {l7:Option Sd} {l8:Option Sd} {jq:List D} (h0:jq=sv.map (λe=>D.tup [e.1,e.2])) (h1:kvs=mn++sv) (h2:kv.map (·.1)=((mn.map (·.1)).flatMap (vjc rs (z,p))).foldl wQ []) (h3:Kin aj V (kv.map (·.1))) (h4:Wd rs s0 (pre++[(z,p)]) kv):WO1 ss rs V aj s0 pre kvs z p [some (.no,j7 ss rs),some (.no,.dct kvs),some (.no,.str z),some (.no,.int p),some (.rt,.dct kv),l5,l6,l7,l8] jq
inductive WO2 (ss:List Str)(rs V:List D)(aj:List Int)(s0:D)(pre:Lws)(kvs:Kvs)(z:Str)(p:Int)(room:Int)(ks st:List D)(L:Lg)(mn:Kvs):En->List D->Prop
 |mk (f1:List D) (kv:Kvs) {l7:Option Sd} {l8:Option Sd} {jq:List D} (h0:qx9 (wx9 z ks (.int p)) 0 st=f1++jq) (h1:kv.map (·.1)=(f1.map (bh ks st p)).foldl wQ (((mn.map (·.1)).flatMap (vjc rs (z,p))).foldl wQ [])) (h2:Kin aj V (kv.map (·.1))) (h3:Wd rs s0 (pre++[(z,p)]) kv):WO2 ss rs V aj s0 pre kvs z p room ks st L mn [some (.no,j7 ss rs),some (.no,.dct kvs),some (.no,.str z),some (.no,.int p),some (.rt,.dct kv),some (.no,.tup [.int room,.tup ks]),some (.no,.lst (wxm L)),l7,l8] jq
abbrev rwD(ws:List (Str×Int)):List D:=ws.map λw=>.tup [.str w.1,.int w.2]
inductive WB1 (ss:List Str)(rs:List D)(s0:D)(ws:Lws):En->List D->Prop
 |mk (w1:Lws) (w2:Lws) (kv:Kvs) {l3:Option Sd} {l4:Option Sd} {jq:List D} (h0:jq=rwD w2) (h1:ws=w1++w2) (h2:kv.map (·.1)=wxq rs w1 [s0]) (h3:Wd rs s0 w1 kv):WB1 ss rs s0 ws [some (.no,j7 ss rs),some (.no,.lst (rwD ws)),some (.rt,.dct kv),l3,l4,none,none] jq
inductive WB2 (ss:List Str)(rs:List D)(ws:Lws)(kv:Kvs):En->List D->Prop
 |mk (mn:Kvs) (sv:Kvs) {o2:Own} {l3:Option Sd} {l4:Option Sd} {l5:Option Sd} {l6:Option Sd} {jq:List D} (h0:jq=sv.map (λe=>D.tup [e.1,e.2])) (h1:kv=mn++sv) (h2:(mn.map (·.1)).any (wwx rs)=false):WB2 ss rs ws kv [some (.no,j7 ss rs),some (.no,.lst (rwD ws)),some (o2,.dct kv),l3,l4,l5,l6] jq
noncomputable section
end
end C
namespace B
open PySem Q
def m_keepers_in:Fn:=fn 2
  (jY (cIf (tE (cF2 (pu2 fEq) (vV 1) (vE (cC (.int (-1)))))) (cC (.int 0)) (cH (j6 (j6 (j6 (vV 0) (C9 1)) (vV 1)) (C9 0)))))
def m_standing_in:Fn:=fn 2
  (jY (cIf (tE (cF2 (pu2 fEq) (vV 0) (vE (cC (.int (-1)))))) (cC .non) (kK .no [(cV 0),(cF1 JJ (vV 1))])))
noncomputable def m_first_standings:Fn:=fn 7
  (j4 (j9 3 (jQ m_keepers_in [(cV 0),(cH (j6 (vV 2) (C9 0)))]))
  (j4 (j9 4 (cF1 kq4 (vE (cLC .rt 2 [] (itS (cH (j6 (vV 2) (C9 2)))) (.t [0,1]) tYes (kK .no [(cV 1),(cV 0)])))))
  (j4 (j9 5 (kw .rt []))
  (j4 (vx (vK (vE (jQ m_keepers_in [(cV 1),(cH (j6 (vV 2) (C9 1)))]))) (.n 6) (qX qW 5 (cIf (tE (cF2 (pu2 W8) (vV 6) (vV 4))) (cH (wv3 (vV 4) (vV 6))) (cF2 jz (vV 3) (vE (cF1 (pu1 kY) (vE (cLC .rt 1 [3] (itV 5) (.n 0) (tE (cF2 (pu2 fGe) (vV 0) (vV 1))) (cV 0)))))))))
  (jY (kK .no [(jQ m_standing_in [(cH (j6 (vV 2) (C9 0))),(Wk (vV 3))]),(kx3 m_standing_in [(j6 (vV 2) (C9 1)),(vV 5)])]))))))
def m_names_of:Fn:=fn 1
  (jY (cIf (tE (cF2 (f2First fIsNon) (vV 0) (vE (cC .non)))) (kK .no []) (cH (j6 (vV 0) (C9 1)))))
def m_room_of:Fn:=fn 1
  (jY (cIf (tE (cF2 (f2First fIsNon) (vV 0) (vE (cC .non)))) (cC (.int (-1))) (cH (j6 (vV 0) (C9 0)))))
noncomputable def m_pair_of:Fn:=fn 4
  (j4 (j9 1 (jQ m_names_of [(cH (j6 (vV 0) (C9 0)))]))
  (j4 (j9 2 (jQ m_names_of [(cH (j6 (vV 0) (C9 1)))]))
  (j4 (j9 3 (cLC .rt 2 [2] (vjl (cV 1)) (.t [0,1]) (tE (cF2 (pu2 z5) (vV 1) (vV 2))) (kK .no [(cV 0),(YX (vV 2) (vV 1))])))
  (jY (kK .no [(jQ m_room_of [(cH (j6 (vV 0) (C9 0)))]),(jQ m_room_of [(cH (j6 (vV 0) (C9 1)))]),(cF1 JJ (vV 3))])))))
def m_read_by_both:Fn:=fn 5
  (jY (kK .no [(jQ C.m_read_by [(cV 0),(cH (j6 (vV 2) (C9 0))),(cV 3),(cV 4)]),(jQ C.m_read_by [(cV 1),(cH (j6 (vV 2) (C9 1))),(cV 3),(cV 4)])]))
def m_held_by_both:Fn:=fn 2
  (j4 (j9 1 (jQ m_names_of [(cH (j6 (vV 0) (C9 0)))]))
  (jY (cF2 jz (vV 1) (vE (cF1 JJ (vE (cLC .rt 1 [1] (itS (jQ m_names_of [(cH (j6 (vV 0) (C9 1)))])) (.n 0) (tE (cF2 (pu2 wq) (vV 0) (vV 1))) (cV 0))))))))
def m_is_good_in:Fn:=fn 2
  (jY (Kw (vE (cF2 (pu2 fNe) (vV 1) (vE (cC (.int (-1)))))) (cH (j6 (j6 (j6 (vV 0) (C9 1)) (vV 1)) (C9 1)))))
end B
namespace B
open Q PySem C
abbrev Sn:=Option (Int×List Int)
def stn:Sn->D
 |none=>.non|some p=>.tup [.int p.1,iT p.2]
def nms:Sn->List Int
 |none=>[]|some p=>p.2
def rmO:Sn->Int
 |none=>-1|some p=>p.1
theorem jzw(s:Sn):Oo m_names_of [(.no,stn s)] (λy=>y=(.no,iT (nms s))) noX:=by
 cases s with
 |none=>
  unfold m_names_of;refine qv ?_;simp![stn];rfl
 |some p=>
  unfold m_names_of;refine qv ?_;simp![stn,p1];rfl
theorem kqp(s:Sn):Oo m_room_of [(.no,stn s)] (λy=>∃o':Own,y=(o',.int (rmO s))/\True) noX:=by
 cases s with
 |none=>
  unfold m_room_of;refine qv ?_;simp![stn];exact⟨_,rfl,trivial⟩
 |some p=>
  unfold m_room_of;refine qv ?_;simp![stn,p0];exact⟨_,rfl,trivial⟩
theorem vxc{aj ay:List Int}{ss:List Str}{rs rs':List D}{s s' t t':D}{w:Str×Int}(h:Rd aj ss rs s w s')(h':Rd ay ss rs' t w t'):Oo m_read_by_both [(.no,j7 ss rs),(.no,j7 ss rs'),(.no,.tup [s,t]),(.no,.str w.1),(.no,.int w.2)] (λy=>y=(.no,.tup [s',t'])) noX:=by
 unfold m_read_by_both;refine qv ?_;simp![p0,p1];refine(qj2 h).via ?_;rintro ⟨o,d⟩ e;cases(show d=s' from e);simp![p0,p1];refine(qj2 h').via ?_;rintro ⟨o',d⟩ e;cases(show d=t' from e);simp![]
def V7(o t:List Int):List Int:=o++t.filter λn=>!(o.any λw=>w==n)
theorem wkd{p:Int}{ks:List Int}:wq (.int p) (.tup (ks.map D.int))=some (.bl (!(ks.any λw=>w==p))):=by
 show Wj (.int p) (.tup (ks.map D.int))=_;unfold Wj;have:fIn (.int p) (.tup (ks.map D.int))=some (.bl (ks.any λw=>w==p)):=ZV;rw[this];rfl
theorem kz8(a b:Sn)(ha:(nms a).length<=100)(hb:(nms b).length<=100):Oo m_held_by_both [(.no,.tup [stn a,stn b])] (λy=>y=(.no,iT (V7 (nms a) (nms b)))) noX:=by
 unfold m_held_by_both;refine qv ?_;simp![p0,p1];refine(jzw a).via ?_;rintro _ rfl;simp![p0,p1];refine V3 (λE1 B ds aq=>E1=[some (Own.no,D.tup [stn a,stn b]),some (.no,iT (nms a))]/\∃q f1 f2,B=[q,some (.no,iT (nms a))]/\nms b=f1++f2/\ds=f2.map D.int/\aq.map (·.2)=(f1.filter λn=>!(nms a).any λw=>w==n).map D.int) ?_ ?_ ?_
 ·simp![p0,p1];refine(jzw b).via ?_;rintro _ rfl;simp![];exact⟨none,[],nms b,rfl,rfl,rfl,rfl⟩
 ·rintro E1 B d ds aq ⟨rfl,q,f1,f2,rfl,hf,bc,bb⟩;cases f2 with
  | nil=>cases bc
  | cons z f2=>
   rw[List.map_cons]at bc;injection bc with e1 e2;subst e1 e2;simp![wkd];cases hz:((nms a).any λw=>w==z)with
   |true=>
    simp![];refine⟨_,f1++[z],f2,rfl,by rw[hf];simp,rfl,?_⟩;rw[bb,List.filter_append];simp[hz]
   |false=>
    simp![];refine⟨_,f1++[z],f2,rfl,by rw[hf];simp,rfl,?_⟩;rw[Xq,bb,List.filter_append];simp[hz]
 ·rintro E1 B aq ⟨rfl,q,f1,f2,rfl,hf,bc,bb⟩;cases f2 with
  |cons=>cases bc
  |nil=>
   rw[Xw]at hf;subst hf;have fq:((nms b).filter λn=>!(nms a).any λw=>w==n).length<=100:=Y2 (List.length_filter_le _ _) hb;rw[xx,bb];simp![Q.tup_l (o:=.no) (xs:=((nms b).filter λn=>!(nms a).any λw=>w==n).map D.int) ⋯,vql (a:=(nms a).map D.int) (b:=((nms b).filter λn=>!(nms a).any λw=>w==n).map D.int) (by rw[X4,X4];omega)];unfold V7 iT;rw[Xq]
def J6(t:List Int):Nat->List Int->List (Int×Int)
 |_,[]=>[]|k,n::o=>if(t.any λw=>w==n)=true then((k:Int),((t.findIdx λw=>w==n:Nat):Int))::J6 t (k+1) o else J6 t (k+1) o
abbrev prs(l:List (Int×Int)):List D:=l.map λp=>.tup [.int p.1,.int p.2]
def v6(a b:Sn):D:=.tup [.int (rmO a),.int (rmO b),.tup (prs (J6 (nms b) 0 (nms a)))]
theorem qkq(a b:Sn)(ha:(nms a).length<=100)(hb:(nms b).length<=100):Oo m_pair_of [(.no,.tup [stn a,stn b])] (λy=>y=(.no,v6 a b)) noX:=by
 unfold m_pair_of;refine qv ?_;simp![p0,p1];refine(jzw a).via ?_;rintro _ rfl;simp![p0,p1];refine(jzw b).via ?_;rintro _ rfl;simp![];refine V3 (λE1 B ds aq=>E1=[some (Own.no,D.tup [stn a,stn b]),some (Own.no,iT (nms a)),some (Own.no,iT (nms b)),none]/\∃(q0 q1:Option Sd) (f1 f2:List Int),B=[q0,q1,some (.no,iT (nms b))]/\nms a=f1++f2/\ds=zq f1.length (f2.map D.int)/\aq.map (·.2)++prs (J6 (nms b) f1.length f2)=prs (J6 (nms b) 0 (nms a))) ?_ ?_ ?_
 ·simp![↓vqr,show vqu (iT (nms a))=some ((nms a).map D.int)from rfl];exact⟨none,none,[],nms a,rfl,rfl,rfl,rfl⟩
 ·rintro E1 B d ds aq ⟨rfl,q0,q1,f1,f2,rfl,hf,bc,bb⟩;cases f2 with
  | nil=>cases bc
  | cons z f2=>
   have bc:d::ds=.tup [.int f1.length,.int z]::zq (f1.length+1) (f2.map D.int):=bc;injection bc with e1 e2;subst e1 e2;simp![ZV];have gr:(f1++[z]).length=f1.length+1:=by simp
   cases hz:((nms b).any λw=>w==z)with
   |false=>
    simp![];refine⟨_,_,f1++[z],f2,rfl,by rw[hf];simp,by rw[gr],?_⟩;rw[<-bb,gr]
    congr 2
    conv=>rhs;unfold J6
    rw[hz,Xb ⋯]
   |true=>
    simp![wq1 hz];refine⟨_,_,f1++[z],f2,rfl,by rw[hf];simp,by rw[gr],?_⟩;rw[<-bb,gr,Xq,Y3]
    congr 1
    conv=>rhs;unfold J6
    rw[hz,X9 rfl];rfl
 ·rintro E1 B aq ⟨rfl,q0,q1,f1,f2,rfl,hf,bc,bb⟩;cases f2 with
  |cons=>cases bc
  |nil=>
   have bb:aq.map (·.2)=prs (J6 (nms b) 0 (nms a)):=by rw[<-bb];simp[J6]
   rw[xx,bb,show J0 2 [2] [q0,q1,some (Own.no,iT (nms b))] [some (Own.no,D.tup [stn a,stn b]),some (Own.no,iT (nms a)),some (Own.no,iT (nms b)),none]=[some (Own.no,D.tup [stn a,stn b]),some (Own.no,iT (nms a)),some (Own.no,iT (nms b)),none]from rfl];simp![p0,p1];refine(kqp a).use ?_;intro o1 _;simp![p0,p1];refine(kqp b).use ?_;intro o2 _;simp![Q.tup_l (o:=.rt) (xs:=prs (J6 (nms b) 0 (nms a))) ⋯];rfl
def Kpr(rs:List D)(room k:Int):Prop:=(room=-1/\k=0)\/(0<=room/\∃g st,rs[room.toNat]?=some (.tup [.int k,g,st]))
theorem eqi{a b:Int}{k:Bool}(h:(a==b)=k):fEq (.int a) (.int b)=some (.bl k):=by rw[<-h];rfl
theorem kq0{ss:List Str}{rs:List D}{room k:Int}(h:Kpr rs room k):Oo m_keepers_in [(.no,j7 ss rs),(.no,.int room)] (λy=>∃o':Own,y=(o',.int k)/\True) noX:=by
 unfold m_keepers_in;refine qv ?_;rcases h with⟨rfl,rfl⟩|⟨h0,g,st,hr⟩
 ·simp![eqi (a:=-1) (b:=-1) rfl];exact⟨_,rfl,trivial⟩
 ·have bj:(room == -1)=false:=Ya ⋯;have hi:jK (.lst rs) (.int room)=some (.tup [.int k,g,st]):=zQ h0 hr;simp![p0,p1,eqi bj,hi,show jK (.tup [.int k,g,st]) (.int 0)=some (.int k)from rfl];exact⟨_,rfl,trivial⟩
def Vj(room:Int)(ks:List Int):Sn:=if room=-1 then none else some (room,ks)
theorem kj2(room:Int)(ks:List Int)(o:Own)(ho:o≠.dp):Oo m_standing_in [(.no,.int room),(o,iL ks)] (λy=>∃o':Own,y=(o',stn (Vj room ks))/\True) noX:=by
 unfold m_standing_in Vj;refine qv ?_
 by_cases h:room=-1
 ·subst h;simp![eqi (a:=-1) (b:=-1) rfl];exact⟨_,rfl,trivial⟩
 ·have bj:(room == -1)=false:=Ya h;rw[Xb h];simp![eqi bj,Q.tup_l (o:=o) (xs:=ks.map D.int) ho];exact⟨_,rfl,trivial⟩
def nmF(own:Int)(kv:List (Int×Int)):Nat->List Int
 |0=>[]
 |n+1=>nmF own kv n++[match zx kv n with
  |some i=>i
  |none=>own+((nmF own kv n).filter λx=>decide (own<=x)).length]
theorem jz1:∀(ks:List Int),D.pures (ks.map D.int)=true
 |[]=>rfl
 |k::ks=>by
  rw[List.map_cons];unfold D.pures;rw[jz1 ks];rfl
theorem qjc(own:Int)(kv:List (Int×Int))(n:Nat):nmF own kv (n+1)=nmF own kv n++[match zx kv n with|some i=>i|none=>own+((nmF own kv n).filter λx=>decide (own<=x)).length]:=rfl
theorem vkm(k:Int):k7 0 k=(((List.range k.toNat).map λ(i:Nat)=>(i:Int)).map D.int):=by
 unfold k7;rw[Xs,Int.sub_zero];refine List.map_congr_left λi _=>?_
 show D.int (0+(i:Int))=D.int i;rw[Int.zero_add]
theorem qzv(s:Sn):(stn s).pure=true:=by
 cases s with
 |none=>rfl
 |some p=>
  show D.pures [.int p.1,.tup (p.2.map D.int)]=true;simp only[D.pures,D.pure,jz1,Bool.and_self]
theorem kv0(own:Int)(kv:List (Int×Int)):∀n,(nmF own kv n).length=n
 |0=>rfl|n+1=>by unfold nmF;rw[Xj,kv0 own kv n];rfl
def kvS(sh:List (Int×Int)):List (Int×Int):=(sh.map λp=>(p.2,p.1)).foldl (λkv p=>zJ kv p.1 p.2) []
theorem vjr {ss:List Str} {rs rs':List D} {p q k k':Int} {sh:List (Int×Int)} (hp:Kpr rs p k) (hq:Kpr rs' q k') (hk:0<=k) (gi:k<=100) (cf:0<=k') (hk2':k'<=100) (hsh:sh.length<=100):
  Oo m_first_standings [(.no,j7 ss rs),(.no,j7 ss rs'),(.no,.tup [.int p,.int q,.tup (prs sh)])] (λy=>y=(.no,.tup [stn (Vj p ((List.range k.toNat).map λ(i:Nat)=>(i:Int))),stn (Vj q (nmF k (kvS sh) k'.toNat))])) noX:=by
 have t0:jK (.tup [.int p,.int q,.tup (prs sh)]) (.int 0)=some (.int p):=rfl;have t1:jK (.tup [.int p,.int q,.tup (prs sh)]) (.int 1)=some (.int q):=rfl;have t2:jK (.tup [.int p,.int q,.tup (prs sh)]) (.int 2)=some (.tup (prs sh)):=rfl;unfold m_first_standings;refine qv ?_;simp![t0,t1,t2];refine (kq0 hp).use ?_;intro o1 _;simp![t0,t1,t2];refine V3 (λE1 B ds aq=>E1=[some (Own.no,j7 ss rs),some (Own.no,j7 ss rs'),some (Own.no,D.tup [D.int p,D.int q,D.tup (prs sh)]),some (o1,D.int k),none,none,none]/\∃(q0 q1:Option Sd) (f1 f2:List (Int×Int)),B=[q0,q1]/\sh=f1++f2/\ds=prs f2/\aq.map (·.2)=prs (f1.map λp=>(p.2,p.1))) ?_ ?_ ?_
 ·simp![t2];exact ⟨none,none,[],sh,rfl,rfl,rfl,rfl⟩
 ·rintro E1 B d ds aq ⟨rfl,q0,q1,f1,f2,rfl,hf,bc,bb⟩;cases f2 with
  | nil=>cases bc
  | cons z f2=>
   have bc:d::ds=.tup [.int z.1,.int z.2]::prs f2:=bc;injection bc with e1 e2;subst e1 e2;simp![];refine⟨_,_,f1++[z],f2,rfl,by rw[hf];simp,rfl,?_⟩;rw [Xq,bb,Xq];simp [prs]
 ·rintro E1 B aq ⟨rfl,q0,q1,f1,f2,rfl,hf,bc,bb⟩;cases f2 with
  | cons=>cases bc
  | nil =>
   rw [Xw]at hf;subst hf;rw [xx,bb,show J0 2 [] [q0,q1] [some (Own.no,j7 ss rs),some (Own.no,j7 ss rs'),some (Own.no,D.tup [D.int p,D.int q,D.tup (prs sh)]),some (o1,D.int k),none,none,none]=[some (Own.no,j7 ss rs),some (Own.no,j7 ss rs'),some (Own.no,D.tup [D.int p,D.int q,D.tup (prs sh)]),some (o1,D.int k),none,none,none]from rfl];have gu:kq4 (Own.no,D.lst (prs (sh.map λp=>(p.2,p.1))))=some (.rt,KZ (kvS sh)):=wqg (by rw[X4];omega);simp![gu];refine K5 (λE jq=>∃(j:Int) (l6:Option Sd),E=[some (Own.no,j7 ss rs),some (Own.no,j7 ss rs'),some (Own.no,D.tup [D.int p,D.int q,D.tup (prs sh)]),some (o1,D.int k),some (.rt,KZ (kvS sh)),some (.rt,iL (nmF k (kvS sh) j.toNat)),l6]/\0<=j/\j<=k'/\jq=k7 j k') ?_ ?_ ?_
   ·simp![t0,t1,t2];refine(kq0 hq).use ?_;intro o2 _;simp![];exact⟨0,_,rfl,⋯,cf,rfl⟩
   ·rintro E d ds ⟨j,l6,rfl,j0,j1,hr⟩;obtain⟨hj,rfl,rfl⟩:=Qq j1 hr;have hjn:(j+1).toNat=j.toNat+1:=⋯
    have hjc:((j.toNat:Nat):Int)=j:=⋯
    simp![];refine zY rfl ?_;cases hv:zx (kvS sh) j with
    | some v=>
     simp![↓vxv,wq0,wwt hv,hv,Option.isSome_some];refine⟨_,rfl,by rw[X4,kv0];omega,j+1,some (.no,.int j),?_,⋯,⋯,rfl⟩;rw [hjn,qjc,hjc,hv];simp
    | none=>
     simp![↓vxv,wq0,hv,Option.isSome_none];have hge:∀z:Int,fGe (.int z) (.int k)=some (.bl (decide (k<=z))):=λz=>rfl
     refine V3 (λE1 B ds aq=>E1=[some (Own.no,j7 ss rs),some (Own.no,j7 ss rs'),some (Own.no,D.tup [D.int p,D.int q,D.tup (prs sh)]),some (o1,D.int k),some (.rt,KZ (kvS sh)),some (.rt,iL (nmF k (kvS sh) j.toNat)),some (.no,.int j)]/\∃(q0:Option Sd) (f1 f2:List Int),B=[q0,some (o1,.int k)]/\nmF k (kvS sh) j.toNat=f1++f2/\ds=f2.map D.int/\aq.map (·.2)=(f1.filter λx=>decide (k<=x)).map D.int) ?_ ?_ ?_
     ·refine v_is rfl (jz1 _) ?_;exact⟨rfl,none,[],_,rfl,rfl,rfl,rfl⟩
     ·rintro E1 B d ds aq ⟨rfl,q0,f1,f2,rfl,hf,bc,bb⟩;cases f2 with
      | nil=>cases bc
      | cons z f2=>
       rw[List.map_cons]at bc;injection bc with e1 e2;subst e1 e2;simp![hge]
       by_cases hz:k<=z
       ·have i3:decide (k<=z)=true:=Xl hz;simp![i3];refine⟨_,f1++[z],f2,rfl,by rw[hf];simp,rfl,?_⟩;rw[Xq,bb,List.filter_append];simp[hz]
       ·have i3:decide (k<=z)=false:=Xh hz;simp![i3];refine⟨_,f1++[z],f2,rfl,by rw[hf];simp,rfl,?_⟩;rw[bb,List.filter_append];simp[hz]
     ·rintro E1 B aq ⟨rfl,q0,f1,f2,rfl,hf,bc,bb⟩;cases f2 with
      |cons=>cases bc
      |nil=>
       rw[Xw]at hf;rw[xx,bb,<-hf];simp![];refine⟨_,rfl,by rw[X4,kv0];omega,j+1,some (.no,.int j),?_,⋯,⋯,rfl⟩;rw[hjn,qjc,hjc,hv];have:∀(l:List Int) (v:Int),l.map D.int++[D.int v]=(l++[v]).map D.int:=λl v=>by simp
       rw[this];rfl
   ·rintro E ⟨j,l6,rfl,j0,j1,hr⟩;have:=Q8 j1 hr;subst this;simp![t0,t1,t2];rw[vkm];refine(kj2 p ((List.range k.toNat).map λ(i:Nat)=>(i:Int)) .no ⋯).use ?_;intro o3 _;simp![t0,t1,t2];refine(kj2 q (nmF k (kvS sh) j.toNat) .no ⋯).use ?_;intro o4 _;refine⟨qzv _,?_⟩;simp![]
abbrev rngL(k:Int):List Int:=(List.range k.toNat).map λ(i:Nat)=>(i:Int)
def wzf(p k:Int):Sn:=Vj p (rngL k)
def wze(q k k':Int)(sh:List (Int×Int)):Sn:=Vj q (nmF k (kvS sh) k'.toNat)
section
variable {f:Int->Int}
def qQ(aj:List Int)(s:Sn):Prop:=∀room ks,s=some (room,ks)->0<=room/\room<aj.length/\(ks.length:Int)=aj.getD room.toNat 0
end
end B
namespace B
open PySem Q
def m__law_cell_at:Fn:=fn 2
  (j4 (sIf (tE (cF2 (pu2 fLt) (vV 1) (vE (cF1 (pu1 kY) (vV 0))))) (jY (cH (j6 (vV 0) (vV 1)))) q9)
  (jY (cC (.int 0))))
noncomputable def m__law_stream:Fn:=fn 5
  (j4 (j9 2 (kw .rt []))
  (j4 (sIf (tE (cF2 (pu2 fEq) (vE (cF2 (pu2 jJ) (vV 0) (C9 2))) (C9 1))) (j4 (j9 0 (cF2 (pu2 v4) (vV 0) (C9 2)))
  (j4 (vx (vK (vV 1)) (.n 3) (j4 (qX qW 2 (cF2 (pu2 jJ) (vV 0) (C9 2147483647)))
  (j9 0 (cF2 (pu2 v4) (vV 0) (C9 2147483647)))))
  (jY (cMv 2)))) q9)
  (j4 (j9 4 (cF2 jz (vE (cF2 (pu2 jJ) (vE (cF2 (pu2 v4) (vV 0) (C9 2))) (C9 2147483647))) (C9 48271)))
  (j4 (vx (vK (vE (cF2 jz (vV 1) (C9 1)))) (.n 3) (j4 (j9 4 (cF2 (pu2 jJ) (vE (cF2 jz (vE (cF2 jz (vE (cF2 vz (vV 4) (vV 4))) (vE (cF2 vz (C9 48271) (vV 4))))) (vV 3))) (C9 2147483647)))
  (qX qW 2 (cF2 (pu2 jJ) (vE (cF2 jz (vE (cF2 vz (vV 4) (C9 40692))) (vE (cF2 vz (C9 7) (vV 3))))) (C9 2147483399)))))
  (jY (cSl (vV 2) (some (C9 1)) none))))))
noncomputable def m__law_signs:Fn:=fn 7
  (j4 (j9 1 (cC (.str "abcdefghijklmnopqrstuvwxyz")))
  (j4 (j9 2 (jQ m__law_stream [(cV 0),(cC (.int 9))]))
  (j4 (j9 3 (vk8 "" (vE (cLC .rt 1 [1] (itS (cSl (vV 2) none (some (vE (cF2 jz (C9 1) (vE (cF2 (pu2 jJ) (vV 0) (C9 8)))))))) (.n 0) tYes (cH (j6 (vV 1) (vE (cF2 (pu2 jJ) (vV 0) (C9 26)))))))))
  (j4 (j9 4 (cF2 (pu2 jJ) (vE (cF2 (pu2 v4) (vV 0) (C9 8))) (vE (cF1 (pu1 kY) (vV 3)))))
  (j4 (j9 5 (kw .rt []))
  (j4 (vx (vK (j6 (vE (kw .rt [(cC (.int 1)),(cC (.int 2)),(cC (.int 1)),(cC (.int 2)),(cC (.int 2)),(cC (.int 1)),(cC (.int 2)),(cC (.int 3))])) (vE (cF2 (pu2 jJ) (vE (cF2 (pu2 v4) (vV 0) (C9 64))) (C9 8))))) (.n 6) (qX qW 5 (cF2 jz (vE (cF2 jz (vE (cSl (vV 3) none (some (vV 4)))) (j6 (vV 1) (vE (cF2 jz (vE (cF2 (pu2 jJ) (j6 (vV 2) (C9 8)) (C9 24))) (vV 6)))))) (vE (cSl (vV 3) (some (vE (cF2 jz (vV 4) (C9 1)))) none)))))
  (jY (cMv 5))))))))
def m__law_fills:Fn:=fn 6
  (j4 (j9 3 (Wk (vV 2)))
  (j4 (j9 4 (kw .rt []))
  (j4 (vx (vK (vV 1)) (.n 5) (j4 (qX qW 4 (Zv 3 (vE (cF2 (pu2 jJ) (vV 0) (vE (cF1 (pu1 kY) (vV 3)))))))
  (j9 0 (cF2 jz (vE (cF2 (pu2 v4) (vV 0) (C9 7))) (vE (cF2 vz (C9 5) (vV 5)))))))
  (jY (cF1 JJ (vV 4))))))
noncomputable def m__law_case:Fn:=fn 5
  (j4 (sIf (tE (cF2 (pu2 fEq) (vE (cF2 (pu2 jJ) (vV 0) (C9 5))) (C9 4))) (jY (cC .non)) q9)
  (j4 (j9 3 (cLC .rt 1 [1,2] (vK (vE (cF1 (pu1 kY) (vV 1)))) (.n 0) (tE (cF2 (pu2 fLe) (j6 (vV 1) (vV 0)) (vV 2))) (cV 0)))
  (j4 (j9 4 (cH (j6 (vV 3) (vE (cF2 (pu2 jJ) (vE (cF2 (pu2 v4) (vV 0) (C9 5))) (vE (cF1 (pu1 kY) (vV 3))))))))
  (jY (kK .no [(cV 4),(jQ m__law_fills [(cF2 (pu2 v4) (vV 0) (C9 35)),(cH (j6 (vV 1) (vV 4))),(cV 2)])])))))
noncomputable def m__law_plain:Fn:=fn 13
  (j4 (j9 2 (jQ m__law_stream [(cV 0),(cC (.int 90))]))
  (j4 (j9 3 (cH (j6 (vE (kw .rt [(cC (.int 1)),(cC (.int 2)),(cC (.int 3)),(cC (.int 4)),(cC (.int 5)),(cC (.int 2)),(cC (.int 4)),(cC (.int 6))])) (vE (cF2 (pu2 jJ) (j6 (vV 2) (C9 0)) (C9 8))))))
  (j4 (j9 4 (cC (.int 2)))
  (j4 (sIf (tAnd (tE (cF2 (pu2 fEq) (vV 3) (C9 3))) (tE (cF2 (pu2 fEq) (vE (cF2 (pu2 jJ) (j6 (vV 2) (C9 1)) (C9 3))) (C9 0)))) (j9 4 (cC (.int 3))) q9)
  (j4 (j9 5 (cF2 jz (vE (kw .rt [(cC (.int 0))])) (vE (cLC .rt 1 [2,4] (vK (vE (cF2 (pu2 wqb) (vV 3) (C9 1)))) (.n 0) tYes (cF2 (pu2 jJ) (vE (cF2 (pu2 v4) (j6 (vV 1) (vE (cF2 jz (C9 1) (vV 0)))) (C9 3))) (vE (cF2 jz (vV 2) (C9 1))))))))
  (j4 (j9 6 (kw .rt []))
  (j4 (j9 7 (cC (.int 8)))
  (j4 (vx (vK (vV 3)) (.n 8) (j4 (j9 9 (kw .rt []))
  (j4 (vx (vK (vE (cF1 (pu1 kY) (vV 1)))) (.n 10) (j4 (j9 11 (kw .rt []))
  (j4 (vx (vK (vE (cF2 jz (j6 (vV 5) (vV 8)) (C9 1)))) (.n 12) (j4 (qX qW 11 (jQ m__law_case [(cH (j6 (vV 2) (vV 7))),(cV 5),(cF2 jz (j6 (vV 5) (vV 8)) (vE (cF1 (pu1 Jw) (vE (cF2 (pu2 fEq) (vV 12) (j6 (vV 5) (vV 8)))))))]))
  (j9 7 (cF2 jz (vV 7) (C9 1)))))
  (qX qW 9 (cV 11)))))
  (j4 (qX qW 6 (kK .no [(cH (j6 (vV 5) (vV 8))),(cF2 (pu2 fEq) (vE (cF2 (pu2 jJ) (j6 (vV 2) (vV 7)) (C9 2))) (C9 0)),(cV 9)]))
  (j9 7 (cF2 jz (vV 7) (C9 1)))))))
  (jY (kK .no [(cF1 xZ (vV 1)),(cV 6)]))))))))))
end B
namespace B
open Q PySem C
theorem vq3{f:Fn}{xs:List Sd}{P:Sd->Prop}(h:Oo f xs P noX):∃y,P y/\Oo f xs (λy'=>y'=y) noX:=by
 unfold Oo at h ⊢;cases hf:f xs with
 |none=>rw[hf]at h;exact absurd (show False by exists h) id
 |some r=>
  rw[hf]at h;cases r with|ok E y=>exact⟨y,by with_unfolding_all exact h,by exists rfl⟩|exc E c=>exact absurd (show False by exists h) id
def Jv(ns:List Int)(k:Nat):Int:=ns.getD k 0
theorem V9(ns:List Int)(k:Nat)(hn:ns.length<=10000):Oo m__law_cell_at [(.no,iL ns),(.no,.int k)] (λy=>∃o':Own,y=(o',.int (Jv ns k))/\True) noX:=by
 unfold m__law_cell_at;refine qv ?_;simp![]
 by_cases h:(k:Int)<ns.length
 ·have hx:jK (iL ns) (.int k)=some (.int (Jv ns k)):=by
   refine zQ ⋯ ?_;unfold Jv;rw[Xu,Xn,X2 ⋯,Xe,X2 ⋯];rfl
  have hd:decide ((k:Int)<ns.length)=true:=Xl h;rw[X9 hd];simp![hx];exact⟨_,rfl,trivial⟩
 ·have hd:¬decide ((k:Int)<ns.length)=true:=by rw[Xh h];decide
  rw[Xb hd];refine⟨.dp,?_,trivial⟩;rw[show Jv ns k=0 by unfold Jv;rw[Xe,Yl ⋯];rfl]
def St(n:Int)(xs:List Int):Prop:=(xs.length:Int)=n/\∀x∈xs,0<=x/\x<2147483647
theorem kvl(c n:Int)(hn:0<=n)(ou:n<=100):Oo m__law_stream [(.no,.int c),(.no,.int n)] (λy=>∃xs,y=(.rt,iL xs)/\St n xs) noX:=by
 unfold m__law_stream;refine qv ?_
 by_cases h:c % 2=1
 ·have hd:(c % 2==1)=true:=by simp[h]
  simp![eqi hd];refine K5 (λE jq=>∃(j v:Int) (xs:List Int) (l3:Option Sd),E=[some (.dp,.int v),some (.no,.int n),some (.rt,iL xs),l3,none]/\0<=j/\j<=n/\jq=k7 j n/\St j xs) ?_ ?_ ?_
  ·simp![];exact⟨0,_,[],_,rfl,⋯,hn,rfl,rfl,λ_ z=>nomatch z⟩
  ·rintro E d ds ⟨j,v,xs,l3,rfl,j0,j1,hr,hx⟩;obtain⟨hj,rfl,rfl⟩:=Qq j1 hr;simp![];refine zY rfl ?_;simp![];refine⟨_,rfl,by rw[X4];have:=hx.1;omega,?_⟩;simp![];refine⟨j+1,v / 2147483647,xs++[v % 2147483647],some (.no,.int j),by simp,⋯,⋯,rfl,by have:=hx.1;simp;omega,λx hm=>?_⟩;rcases aA hm with z|z
   ·exact hx.2 x z
   ·rw[aC z];omega
  ·rintro E ⟨j,v,xs,l3,rfl,j0,j1,hr,hx⟩;have:=Q8 j1 hr;subst this;simp![];exact⟨xs,rfl,hx⟩
 ·have hd:(c % 2==1)=false:=Ya h;simp![eqi hd];refine K5 (λE jq=>∃(j v:Int) (xs:List Int) (l3:Option Sd),E=[some (.no,.int c),some (.no,.int n),some (.rt,iL xs),l3,some (.dp,.int v)]/\0<=j/\j<=n+1/\jq=k7 j (n+1)/\St j xs/\0<=v/\v<4294967296) ?_ ?_ ?_
  ·simp![];exact⟨0,_,[],_,rfl,⋯,⋯,rfl,⟨rfl,λ_ z=>nomatch z⟩,⋯,⋯⟩
  ·rintro E d ds ⟨j,v,xs,l3,rfl,j0,j1,hr,hx,v0,v1⟩;obtain⟨hj,rfl,rfl⟩:=Qq j1 hr;have hm:=mul_l (o1:=.dp) (o2:=.dp) (a:=v) (b:=v) ⋯ ⋯;simp![hm];generalize hw:(v*v+48271*v+j) % 2147483647=u;have u0:0<=u/\u<2147483647:=by rw[<-hw];omega
   have lf:=mul_l (o1:=.dp) (o2:=.dp) (a:=u) (b:=40692) ⋯ ⋯;refine zY rfl ?_;simp![lf];refine⟨_,rfl,by rw[X4];have:=hx.1;omega,?_⟩;refine⟨j+1,u,xs++[(u*40692+7*j) % 2147483399],some (.no,.int j),by simp,⋯,⋯,rfl,⟨by have:=hx.1;simp;omega,λx hm=>?_⟩,⋯,⋯⟩;rcases aA hm with z|z
   ·exact hx.2 x z
   ·rw[aC z];omega
  ·rintro E ⟨j,v,xs,l3,rfl,j0,j1,hr,hx,v0,v1⟩;have:=Q8 j1 hr;subst this;simp![W4 (o:=.rt) (xs:=xs.map D.int) (lo:=some 1) (hi:=none) ⋯];have hl:=hx.1;have hcut:zV (xs.map D.int) (some 1) none=(xs.drop 1).map D.int:=by
    unfold zV z8;dsimp only;rw[Xb ⋯,X4,show min (1:Int).toNat xs.length=1 by show min 1 xs.length=1;omega,<-List.map_drop,Z7 (by rw[X4,Yf];omega)]
   rw[hcut];exact⟨xs.drop 1,rfl,by rw[Yf];omega,λx hm=>hx.2 x (List.mem_of_mem_drop hm)⟩
theorem qv4(n:Nat):((List.range n).map λ(j:Nat)=>(j:Int)).Nodup:=List.Pairwise.map (λ(j:Nat)=>(j:Int)) (λa b h e=>h (by have:(a:Int)=(b:Int):=e;omega)) List.nodup_range
theorem vjt(x ib free:Int)(h0:0<=ib)(h1:ib<=free)(h2:free<=100):Oo m__law_fills [(.no,.int x),(.no,.int ib),(.no,.int free)] (λy=>∃fs:List Int,y=(.no,.tup (fs.map D.int))/\(fs.length:Int)=ib/\(∀f∈fs,0<=f/\f<free)/\fs.Nodup) noX:=by
 unfold m__law_fills;refine qv ?_;simp![];rw[vkm];refine K5 (λE jq=>∃(j v:Int) (o:Own) (sm fl:List Int) (l5:Option Sd),E=[some (o,.int v),some (.no,.int ib),some (.no,.int free),some (.rt,iL sm),some (.rt,iL fl),l5]/\0<=j/\j<=ib/\jq=k7 j ib/\(fl.length:Int)=j/\(sm.length:Int)+fl.length=free/\(fl++sm).Nodup/\∀f∈fl++sm,0<=f/\f<free) ?_ ?_ ?_
 ·simp![];refine⟨0,x,.no,(List.range free.toNat).map λ(j:Nat)=>(j:Int),[],none,rfl,⋯,h0,rfl,rfl,?_,?_,?_⟩
  ·simp;omega
  ·rw[List.nil_append];exact qv4 _
  ·intro f hf;rw[List.nil_append]at hf;obtain⟨j,hj,rfl⟩:=aE hf;have:=List.mem_range.mp hj;omega
 ·rintro E d ds ⟨j,v,o,sm,fl,l5,rfl,j0,j1,hr,hl,hs,hn,hm⟩;obtain⟨hj,rfl,rfl⟩:=Qq j1 hr;have hsm:0<sm.length:=⋯
  have u0:=Y4 v (show(sm.length:Int)≠0 by omega);have u1:=Xr v (show(0:Int)<sm.length by omega);have hi:(v % sm.length).toNat<sm.length:=⋯
  simp![];refine zY rfl ?_;refine wjo rfl ?_;simp![mod_i (a:=v) (b:=(sm.length:Int)) ⋯];refine⟨.rt,_,_,.int (sm[(v % sm.length).toNat]),rfl,⋯,rfl,u0,⋯,by rw[Xn,X2 hi];rfl,rfl,?_⟩;simp![];refine⟨_,rfl,by rw[X4];omega,?_⟩;simp![];have pm:(fl++[sm[(v % sm.length).toNat]]++sm.eraseIdx (v % sm.length).toNat).Perm (fl++sm):=by
   rw[Y3];exact List.Perm.append_left fl (ZJ hi)
  refine⟨j+1,v / 7+5*j,.dp,sm.eraseIdx (v % sm.length).toNat,fl++[sm[(v % sm.length).toNat]],some (.no,.int j),?_,⋯,⋯,rfl,?_,?_,pm.nodup_iff.mpr hn,λf hf=>hm f (pm.mem_iff.mp hf)⟩
  ·simp only[iL,Xq,List.map_cons,List.map_nil,kwr]
  ·rw[Xj];simp;omega
  ·rw[List.length_eraseIdx_of_lt hi,Xj];simp;omega
 ·rintro E ⟨j,v,o,sm,fl,l5,rfl,j0,j1,hr,hl,hs,hn,hm⟩;have:=Q8 j1 hr;subst this;simp![Q.tup_l (o:=.rt) (xs:=fl.map D.int) ⋯];exact⟨fl,rfl,hl,λf hf=>hm f (ll9 _ hf),(List.nodup_append.mp hn).1⟩
theorem vk2(x free:Int)(aj:List Int)(hk:∀p∈aj,0<=p/\p<=3)(oe:aj[0]?=some 0)(hl:aj.length<=100)(hf:0<=free)(hf2:free<=100):Oo m__law_case [(.no,.int x),(.no,iL aj),(.no,.int free)] (λy=>Cs aj free y.2) noX:=by
 have av:0<aj.length:=by
  cases aj with| nil=>cases oe| cons=>simp
 unfold m__law_case;refine qv ?_
 by_cases h:x % 5=4
 ·have hd:(x % 5==4)=true:=by simp[h]
  simp![eqi hd];exact .inl rfl
 ·have hd:(x % 5==4)=false:=Ya h;simp![eqi hd];refine V3 (λE1 B ds aq=>E1=[some (.no,.int x),some (.no,iL aj),some (.no,.int free),none,none]/\∃(j:Int) (q0:Option Sd) (fl:List Int),B=[q0,some (.no,iL aj),some (.no,.int free)]/\0<=j/\j<=aj.length/\ds=k7 j aj.length/\aq.map (·.2)=fl.map D.int/\(∀t∈fl,0<=t/\t<aj.length/\aj.getD t.toNat 0<=free)/\(0<j->fl≠[])/\(fl.length:Int)<=j) ?_ ?_ ?_
  ·simp![];exact⟨0,none,[],rfl,⋯,⋯,rfl,rfl,λ_ z=>(nomatch z),λz=>absurd z ⋯,by simp⟩
  ·rintro E1 B d ds aq ⟨rfl,j,q0,fl,rfl,j0,j1,hr,bb,js,bj,fq⟩;obtain⟨hj,rfl,rfl⟩:=Qq j1 hr;have hjl:j.toNat<aj.length:=⋯
   have hx:jK (iL aj) (.int j)=some (.int (aj.getD j.toNat 0)):=zQ j0 (by rw[Xn,X2 hjl,Xe,X2 hjl];rfl)
   by_cases hz:aj.getD j.toNat 0<=free
   ·have i3:decide (aj.getD j.toNat 0<=free)=true:=Xl hz;simp![hx,i3];refine⟨j+1,_,fl++[j],rfl,⋯,⋯,rfl,by rw[Xq,Xq,bb];rfl,λt ht=>?_,λ_=>by simp,by simp;omega⟩;rcases aA ht with q|q
    ·exact js t q
    ·rw[aC q];exact⟨j0,⋯,hz⟩
   ·have i3:decide (aj.getD j.toNat 0<=free)=false:=Xh hz;have hj0:0<j:=by
     rcases Int.lt_or_eq_of_le j0 with q|q
     ·exact q
     ·subst q;exfalso;apply hz;rw[Xe];show(aj[0]?).getD 0<=free;rw[oe];exact hf
    simp![hx,i3];exact⟨j+1,_,fl,rfl,⋯,⋯,rfl,bb,js,λ_=>bj hj0,⋯⟩
  ·rintro E1 B aq ⟨rfl,j,q0,fl,rfl,j0,j1,hr,bb,js,bj,fq⟩;have:=Q8 j1 hr;subst this;have hfl0:0<fl.length:=List.length_pos_iff.mpr (bj ⋯);have u0:=Y4 (x / 5) (show(fl.length:Int)≠0 by omega);have u1:=Xr (x / 5) (show(0:Int)<fl.length by omega);have hi:(x / 5 % fl.length).toNat<fl.length:=⋯
   obtain⟨t,et⟩:∃t,fl[(x / 5 % fl.length).toNat]?=some t:=⟨_,X2 hi⟩;obtain⟨t0,t1,t2⟩:=js t (List.mem_of_getElem? et);have hx:jK (iL fl) (.int (x / 5 % fl.length))=some (.int t):=zQ u0 (by rw[Xn,et];rfl);have htl:t.toNat<aj.length:=⋯
   have hy:jK (iL aj) (.int t)=some (.int (aj.getD t.toNat 0)):=zQ t0 (by rw[Xn,X2 htl,Xe,X2 htl];rfl);have rm:=hk (aj.getD t.toNat 0) (by rw[Xe,X2 htl];exact Y8 _);rw[xx,bb,show J0 1 [1,2] [q0,some (Own.no,iL aj),some (Own.no,D.int free)] [some (Own.no,D.int x),some (Own.no,iL aj),some (Own.no,D.int free),none,none]=[some (Own.no,D.int x),some (Own.no,iL aj),some (Own.no,D.int free),none,none]from rfl];simp![mod_i (a:=x / 5) (b:=(fl.length:Int)) ⋯,hx,hy];refine(vjt (x / 35) (aj.getD t.toNat 0) free rm.1 t2 hf2).use ?_;rintro fs ⟨f1,f2,f3⟩;simp![];exact .inr ⟨t,fs,rfl,t0,t1,f2,f3,f1⟩
def Gdr(rs:List D)(room:Int)(g:Bool):Prop:=(room=-1/\g=false)\/(0<=room/\∃k st,rs[room.toNat]?=some (.tup [k,.bl g,st]))
theorem nei{a b:Int}{k:Bool}(h:(a==b)=k):fNe (.int a) (.int b)=some (.bl !k):=by rw[<-h];rfl
theorem qx0{ss:List Str}{rs:List D}{room:Int}{g:Bool}(h:Gdr rs room g):Oo m_is_good_in [(.no,j7 ss rs),(.no,.int room)] (λy=>∃o':Own,y=(o',.bl g)/\True) noX:=by
 unfold m_is_good_in;refine qv ?_;rcases h with⟨rfl,rfl⟩|⟨h0,k,st,hr⟩
 ·simp![nei (a:=-1) (b:=-1) rfl];exact⟨_,rfl,trivial⟩
 ·have bj:(room == -1)=false:=Ya ⋯;have hi:jK (.lst rs) (.int room)=some (.tup [k,.bl g,st]):=zQ h0 hr;simp![p0,p1,nei bj,hi,show jK (.tup [k,.bl g,st]) (.int 1)=some (.bl g)from rfl];exact⟨_,rfl,trivial⟩
theorem qjp:∀(l:List (Int×Int)),D.flats 38 (prs l)=true
 |[]=>by unfold prs;rw[List.map_nil];simp[D.flats]
 |p::l=>by
  have ih:=qjp l;unfold prs at ih ⊢;rw[List.map_cons];simp only[D.flats,D.flat,ih,Bool.and_self]
theorem vwr(r r':Int)(l:List (Int×Int)):(D.tup [.int r,.int r',.tup (prs l)]).flat 40=true:=by
 have:=qjp l;simp only[D.flat,D.flats,this,Bool.and_self]
theorem vvo{m:Option Fl}{N N' C:En->Prop}{R:Sd->Prop}{X:XP}(h:Po m N C R X)(k:∀E,N E->N' E):Po m N' C R X:=by
 cases m with
 |none=>exists h
 |some r=>cases r with|nx E=>exists k E h|bk E=>exists h|ct E=>exists h|rt E x=>exists h|xc E c=>exists h
theorem ZQ{a b:Sm}{E:En}{N C:En->Prop}{R:Sd->Prop}{X:XP}(I:En->Prop)(h1:Po (a E) I C R X)(h2:∀E,I E->Po (b E) N C R X):Po (j4 a b E) N C R X:=by
 rw[vku];exact vvo h1 h2
inductive PlC (c:Int)(ss:List Str)(xs:List Int)(size m:Int)(aj:List Int)(rs:List D)(r own:Int)(st:List D)(s:Int):En->List D->Prop
 |mk (k:Int) (b5:Int) (cs:List D) {o5:Own} {o7:Own} {jp:Option Sd} {jq:List D} (h0:sub o5=.no) (h1:0<=k) (h2:k<=own+1) (h3:jq=k7 k (own+1)) (h4:(cs.length:Int)=k) (h5:8<=b5) (h6:b5<=8+(3*(m+1)+1)*r+(m+1)*s+k) (h7:∀k:Nat,k<cs.length->∃z,cs[k]?=some z/\Cs aj (zw own k) z):PlC c ss xs size m aj rs r own st s [some (.no,.int c),some (.no,sL ss),some (.rt,iL xs),some (.no,.int size),some (.dp,.int m),some (o5,iL aj),some (.rt,.lst rs),some (o7,.int b5),some (.no,.int r),some (.rt,.lst st),some (.no,.int s),some (.rt,.lst cs),jp] jq
inductive PlB (c:Int)(ss:List Str)(xs:List Int)(size m:Int)(aj:List Int)(rs:List D)(r own:Int):En->List D->Prop
 |mk (s:Int) (b5:Int) (st:List D) {o5:Own} {o7:Own} {jm:Option Sd} {lu:Option Sd} {jp:Option Sd} {jq:List D} (h0:sub o5=.no) (h1:0<=s) (h2:s<=ss.length) (h3:jq=k7 s ss.length) (h4:(st.length:Int)=s) (h5:8<=b5) (h6:b5<=8+(3*(m+1)+1)*r+(m+1)*s) (h7:∀c∈st,∃cs:List D,c=.lst cs/\(cs.length:Int)=own+1/\∀k:Nat,k<cs.length->∃z,cs[k]?=some z/\Cs aj (zw own k) z):PlB c ss xs size m aj rs r own [some (.no,.int c),some (.no,sL ss),some (.rt,iL xs),some (.no,.int size),some (.dp,.int m),some (o5,iL aj),some (.rt,.lst rs),some (o7,.int b5),some (.no,.int r),some (.rt,.lst st),jm,lu,jp] jq
inductive PlA (c:Int)(ss:List Str)(xs:List Int)(size m:Int)(aj:List Int):En->List D->Prop
 |mk (r:Int) (b5:Int) (rs:List D) {l8:Option Sd} {l9:Option Sd} {jm:Option Sd} {lu:Option Sd} {jp:Option Sd} {o5:Own} {o7:Own} {jq:List D} (h0:sub o5=.no) (h1:0<=r) (h2:r<=size) (h3:jq=k7 r size) (h4:(rs.length:Int)=r) (h5:8<=b5) (h6:b5<=8+(3*(m+1)+1)*r) (h7:∀i:Nat,i<rs.length->∃d,rs[i]?=some d/\Pr aj ss.length (aj.getD i 0) d):PlA c ss xs size m aj [some (.no,.int c),some (.no,sL ss),some (.rt,iL xs),some (.no,.int size),some (.dp,.int m),some (o5,iL aj),some (.rt,.lst rs),some (o7,.int b5),l8,l9,jm,lu,jp] jq
theorem kw3(c:Int)(ss:List Str)(hs:1<=ss.length)(hs2:ss.length<=3):Oo m__law_plain [(.no,.int c),(.no,sL ss)] (λy=>∃rs,y=(.no,j7 ss rs)/\∃aj:List Int,1<=aj.length/\aj.length<=6/\aj[0]?=some 0/\(∀p∈aj,0<=p/\p<=3)/\Prs aj ss.length rs) noX:=by
 unfold m__law_plain;refine qv ?_;simp![];refine(kvl c 90 ⋯ ⋯).use ?_;intro xs hx;have hxl:=hx.1;have ix:∀i:Int,0<=i->i<90->∃v:Int,jK (iL xs) (.int i)=some (.int v)/\0<=v:=λi i0 i1=>by
  obtain⟨v,e,h,_⟩:=ixI xs _ hx.2 i i0 ⋯;exact⟨v,e,h.1⟩
 obtain⟨v0,e0,a0⟩:=ix 0 ⋯ ⋯;obtain⟨v1,e1,a1⟩:=ix 1 ⋯ ⋯;have q0:=Y4 v0 (show(8:Int)≠0 by decide);have q1:=Xr v0 (show(0:Int)<8 by decide);obtain⟨size,esz,sz0,sz1⟩:∃sz:Int,jK (.lst [.int 1,.int 2,.int 3,.int 4,.int 5,.int 2,.int 4,.int 6]) (.int (v0 % 8))=some (.int sz)/\1<=sz/\sz<=6:=by
  generalize v0 % 8=t at q0 q1;have:t=0\/t=1\/t=2\/t=3\/t=4\/t=5\/t=6\/t=7:=⋯
  rcases this with rfl|rfl|rfl|rfl|rfl|rfl|rfl|rfl<;>exact⟨_,rfl,⋯,⋯⟩
 refine ZQ (λE=>E=[some (.no,.int c),some (.no,sL ss),some (.rt,iL xs),some (.no,.int size),none,none,none,none,none,none,none,none,none]) ?_ ?_
 ·simp![e0,esz]
 rintro E rfl;refine ZQ (λE=>E=[some (.no,.int c),some (.no,sL ss),some (.rt,iL xs),some (.no,.int size),some (.dp,.int 2),none,none,none,none,none,none,none,none]) ?_ ?_
 ·simp![]
 rintro E rfl;refine ZQ (λE=>∃m:Int,E=[some (.no,.int c),some (.no,sL ss),some (.rt,iL xs),some (.no,.int size),some (.dp,.int m),none,none,none,none,none,none,none,none]/\((m=2)\/(m=3/\size=3))) ?_ ?_
 ·by_cases h3:size=3
  ·have hb:(size==3)=true:=by simp[h3]
   by_cases h4:v1 % 3=0
   ·have dm:(v1 % 3==0)=true:=by simp[h4]
    simp![e1,eqi hb,eqi dm];exact⟨3,rfl,.inr ⟨rfl,h3⟩⟩
   ·have dm:(v1 % 3==0)=false:=Ya h4;simp![e1,eqi hb,eqi dm];exact⟨2,rfl,.inl rfl⟩
  ·have hb:(size==3)=false:=Ya h3;simp![eqi hb];exact⟨2,rfl,.inl rfl⟩
 rintro E ⟨m,rfl,hm⟩;have hm0:2<=m/\m<=3:=by rcases hm with rfl|⟨rfl,_⟩<;>omega
 simp![];refine JY [some (.rt,iL xs),some (.dp,.int m)] (λ_ y=>∃i,y=(.dp,.int i)/\0<=i/\i<=m) ?_;simp![];refine⟨rfl,λd jl=>?_,λys hy=>?_⟩
 ·obtain⟨i,i0,i1,rfl⟩:=kz3 jl;obtain⟨w,ew,aw⟩:=ix (1+i) ⋯ ⋯;have:=Y4 (w / 3) (show m+1≠0 by omega);have:=Xr (w / 3) (show 0<m+1 by omega);simp![ew,mod_i (a:=w / 3) (b:=m+1) ⋯];exact⟨⟨_,rfl⟩,_,rfl,⋯,⋯⟩
 obtain⟨ks,h1,h2,h3⟩:=kwy (S:=λi=>0<=i/\i<=m) (λd y ⟨i,h,s⟩=>⟨i,by rw[h],s⟩) hy;rw [xx,h1];simp only[back,clr,at',List.map_cons,List.map_nil,List.set_cons_zero,List.set_cons_succ];have hkl:((0::ks).length:Int)=size:=by rw[Xv];have:=vwb (k:=0) (n:=size - 1) ⋯;omega
 have hkm:∀p∈(0::ks:List Int),0<=p/\p<=m:=λp hp=>by
  rcases aD hp with rfl|hp
  ·exact⟨⋯,⋯⟩
  ·exact h3 p hp
 have hk3:∀p∈(0::ks:List Int),0<=p/\p<=3:=λp hp=>by have:=hkm p hp;omega
 have kf:jz (.no,.lst [.int 0]) (.no,.lst (ks.map D.int))=some (.rt,iL (0::ks)):=qk1 ⋯ ⋯ (by rw[X4];simp at hkl ⊢;omega);have oe:(0::ks:List Int)[0]?=some 0:=rfl;simp![kf];generalize (0::ks:List Int)=aj at hkl hkm hk3 kf oe;refine K5 (PlA c ss xs size m aj) ?_ ?_ ?_
 ·simp![];exact⟨0,8,[],rfl,⋯,⋯,rfl,rfl,⋯,⋯,λi hi=>nomatch hi⟩
 ·rintro E d ds ⟨r,b5,rs,hs5,r0,r1,hr,hrl,ni,nh,hrs⟩;obtain⟨hrk,rfl,rfl⟩:=Qq r1 hr;obtain⟨own,eo,⟨ow0,ow1⟩,how⟩:=ixI aj _ hkm r r0 ⋯;simp![];refine K5 (PlB c ss xs size m aj rs r own) ?_ ?_ ?_
  ·simp![];exact⟨0,b5,[],hs5,⋯,⋯,rfl,rfl,⋯,⋯,λc hc=>nomatch hc⟩
  ·rintro E d ds ⟨s,b5,st,hs5,s0,s1,hr,iz,ni,nh,cb⟩;obtain⟨hsk,rfl,rfl⟩:=Qq s1 hr;simp![];refine K5 (PlC c ss xs size m aj rs r own st s) ?_ ?_ ?_
   ·simp![eo,hs5];exact⟨0,b5,[],hs5,⋯,⋯,rfl,rfl,⋯,⋯,λc hc=>nomatch hc⟩
   ·rintro E d ds ⟨k,b5,cs,hs5,k0,k1,hr,dy,ni,nh,nu⟩;obtain⟨hkk,rfl,rfl⟩:=Qq k1 hr;have jb:b5<90:=by rcases hm with rfl|⟨rfl,_⟩<;>omega
    obtain⟨w,ew,aw⟩:=ix b5 ⋯ jb;have hb1:own+(if k=own then(1:Int)else 0)=zw own k:=rfl;have hB0:0<=zw own k/\zw own k<=4:=by unfold zw;split<;>omega
    simp![];refine zY rfl ?_;simp![eo,ew,QZ,vws,hb1,hs5];refine(vk2 w (zw own k) aj hk3 oe ⋯ hB0.1 ⋯).via ?_;intro y hy;simp![];refine⟨_,rfl,⋯,k+1,b5+1,cs++[y.2],rfl,⋯,⋯,rfl,by simp;omega,⋯,⋯,?_⟩;intro j hj;rw[Xj,Yk]at hj
    by_cases hj2:j<cs.length
    ·obtain⟨z,z1,z2⟩:=nu j hj2;exact⟨z,by rw[Yu hj2];exact z1,z2⟩
    ·have:j=cs.length:=⋯
     subst this;exact⟨y.2,by simp,by rw[dy];exact hy⟩
   ·rintro E ⟨k,b5,cs,hs5,k0,k1,hr,dy,ni,nh,nu⟩;have:=Q8 k1 hr;subst this;refine zY rfl ?_;simp![];refine⟨_,rfl,⋯,s+1,b5,st++[.lst cs],hs5,⋯,⋯,rfl,by simp;omega,⋯,by rcases hm with rfl|⟨rfl,_⟩<;>omega,λc hc=>?_⟩;rcases aA hc with z|z
    ·exact cb c z
    ·rw[aC z];exact⟨cs,rfl,dy,nu⟩
  ·rintro E ⟨s,b5,st,hs5,s0,s1,hr,iz,ni,nh,cb⟩;have:=Q8 s1 hr;subst this;have jb:b5<90:=by rcases hm with rfl|⟨rfl,_⟩<;>omega
   obtain⟨w,ew,_⟩:=ix b5 ⋯ jb;simp![];refine zY rfl ?_;simp![eo,ew,QZ,hs5];refine⟨_,rfl,⋯,?_⟩;simp![];refine PlA.mk (r+1) (b5+1) (rs++[.tup [.int own,.bl (w % 2==0),.lst st]]) hs5 ?_ ?_ rfl ?_ ?_ ?_ ?_
   ·omega
   ·omega
   ·simp;omega
   ·omega
   ·rcases hm with rfl|⟨rfl,_⟩<;>omega
   intro j hj;rw[Xj,Yk]at hj
   by_cases hj2:j<rs.length
   ·obtain⟨z,z1,z2⟩:=hrs j hj2;exact⟨z,by rw[Yu hj2];exact z1,z2⟩
   ·have:j=rs.length:=⋯
    subst this;refine⟨_,by simp;rfl,?_⟩;have hg:aj.getD rs.length 0=own:=by rw[Xe,show rs.length=r.toNat by omega,how];rfl
    rw[hg];exact⟨_,st,rfl,⋯,cb⟩
 ·rintro E ⟨r,b5,rs,hs5,r0,r1,hr,hrl,ni,nh,hrs⟩;have:=Q8 r1 hr;subst this;simp![xY (o:=.no) (xs:=ss.map D.str) ⋯];exact⟨rs,rfl,aj,⋯,⋯,oe,hk3,⟨⋯,λi hi=>hrs i ⋯⟩⟩
theorem kwx{G:D->Sd->Prop}(hG:∀d y,G d y->∃c:Nat,y.2=.str ⟨#[c]⟩):∀{ds:List D} {ys:List Sd},Each G ds ys->∃ps:List Str,ys.map (·.2)=ps.map D.str/\ps.length=ds.length/\∀p∈ps,p.length=1
 |[],[],_=>⟨[],rfl,rfl,λ_ h=>nomatch h⟩
 |d::ds,y::ys,r=>by
  obtain⟨i,e⟩:=hG d y r.1;obtain⟨ps,h1,h2,h3⟩:=kwx hG r.2;exact⟨⟨#[i]⟩::ps,by simp[e,h1],by simp[h2],λp hp=>(aD hp).elim (λz=>z▸rfl) (h3 p)⟩
theorem kzt:∀{ps:List Str},(∀p∈ps,p.length=1)->(ps.map (·.length)).sum=ps.length
 |[],_=>rfl|p::ps,h=>by rw[List.map_cons,List.sum_cons,h p X7,kzt λq hq=>h q (lc9 _ hq),Xv];omega
theorem vjk{y:Str}{ys:List Str}(h:y.length=1):1<=(Str.join "" (y::ys)).length:=by
 cases ys with
 |nil=>show 1<=y.length;omega
 |cons z ys=>
  show 1<=(y++""++Str.join "" (z::ys)).cps.size;rw[kqk,kqk];have:y.cps.size=1:=h;omega
theorem vwg{ps:List Str}(h:∀p∈ps,p.length=1)(h0:1<=ps.length)(h1:ps.length<=100):∃z:Str,qxc "" (.lst (ps.map D.str))=some (.str z)/\1<=z.cps.size/\z.cps.size<=100:=by
 have hz:("":Str).length=0:=rfl;have hs:=kzt h;refine⟨Txt.join "" ps,?_,?_,?_⟩
 ·unfold qxc;dsimp only;rw[kxi];dsimp only;rw[X9 (by rw[hs,hz];omega)]
 ·show 1<=(Txt.join "" ps).length;unfold Txt.join;rw[StrLaws.glued_eq_join];cases ps with|nil=>cases h0|cons y ys=>exact vjk (h y X7)
 ·show(Txt.join "" ps).length<=100;unfold Txt.join;rw[StrLaws.glued_eq_join];have:=StrLaws.join_length_le "" ps;rw[hs,hz]at this;omega
theorem vzj{o:Own}{z:Str}{lo hi:Option Int}(h:z.cps.size<=100):fSl (o,.str z) lo hi=some (.dp,.str (Txt.slice z lo hi)):=by
 have hl:(Txt.slice z lo hi).length<=z.length:=Txt.slice_le z lo hi;have h:z.length<=100:=h;show(if(Txt.slice z lo hi).length<=big then _ else none)=_;rw[X9 (by unfold big;omega)]
theorem qqz(c:Int):Oo m__law_signs [(.no,.int c)] (λy=>∃ss,y=(.rt,sL ss)/\1<=ss.length/\ss.length<=3) noX:=by
 have m0:=Y4 c (show(8:Int)≠0 by decide);have m1:=Xr c (show(0:Int)<8 by decide);unfold m__law_signs;refine qv ?_;simp![];refine(kvl c 9 ⋯ ⋯).use ?_;intro xs hx;have hxl:=hx.1;simp![↓vxu];have iz:fSl (Own.no,iL xs) none (some (1+c % 8))=some (.rt,iL (xs.take (1+c % 8).toNat)):=by
  rw[show iL xs=.lst (xs.map D.int)from rfl,W4 (o:=.no) ⋯,kx1 ⋯ (by rw[X4];omega),<-List.map_take]
 have hsl':fSl (Own.rt,iL xs) none (some (1+c % 8))=some (.rt,iL (xs.take (1+c % 8).toNat)):=by
  rw[show iL xs=.lst (xs.map D.int)from rfl,W4 (o:=.rt) ⋯,kx1 ⋯ (by rw[X4];omega),<-List.map_take]
 refine JY [some (.dp,.str "abcdefghijklmnopqrstuvwxyz")] (λ_ y=>∃c:Nat,y.2=.str ⟨#[c]⟩) ?_;simp![iz,hsl'];refine⟨rfl,λd hd=>?_,λys hys=>?_⟩
 ·obtain⟨t,ht,rfl⟩:=aE hd;have t0:=Y4 t (show(26:Int)≠0 by decide);have t1:=Xr t (show(0:Int)<26 by decide);obtain⟨ch,hc⟩:=kwg "abcdefghijklmnopqrstuvwxyz" (t % 26) t0 t1;simp![hc];exact⟨⟨_,rfl⟩,ch,rfl⟩
 obtain⟨ps,h1,h2,h3⟩:=kwx (λd y h=>h) hys;have bu:ps.length=(1+c % 8).toNat:=by rw[h2,X4,Yc];omega
 obtain⟨z,hz,z0,z1⟩:=vwg h3 ⋯ ⋯;rw[xx,h1];simp only[back,clr,at',List.map_cons,List.map_nil,List.set_cons_zero,List.set_cons_succ];have av:kY (.str z)=some (.int z.cps.size):=rfl;simp![hz,av,mod_i (a:=c / 8) (b:=(z.cps.size:Int)) ⋯];generalize jb:c / 8 % (z.cps.size:Int)=a;obtain⟨m,em,mm0,mm1⟩:∃m:Int,jK (.lst [.int 1,.int 2,.int 1,.int 2,.int 2,.int 1,.int 2,.int 3]) (.int (c / 64 % 8))=some (.int m)/\1<=m/\m<=3:=by
  have q0:=Y4 (c / 64) (show(8:Int)≠0 by decide);have q1:=Xr (c / 64) (show(0:Int)<8 by decide);generalize c / 64 % 8=t at q0 q1;have:t=0\/t=1\/t=2\/t=3\/t=4\/t=5\/t=6\/t=7:=⋯
  rcases this with rfl|rfl|rfl|rfl|rfl|rfl|rfl|rfl<;>exact⟨_,rfl,⋯,⋯⟩
 obtain⟨v,ev,⟨v0,_⟩,_⟩:=ixI xs _ hx.2 8 ⋯ ⋯;refine K5 (λE jq=>∃(j:Int) (ss:List Str) (l6:Option Sd) (o1 o3:Own),E=[some (.no,.int c),some (o1,.str "abcdefghijklmnopqrstuvwxyz"),some (.rt,iL xs),some (o3,.str z),some (.dp,.int a),some (.rt,sL ss),l6]/\0<=j/\j<=m/\jq=k7 j m/\(ss.length:Int)=j) ?_ ?_ ?_
 ·simp![em];exact⟨0,[],_,_,_,rfl,⋯,⋯,rfl,rfl⟩
 ·rintro E d ds ⟨j,ss,l6,o1,o3,rfl,j0,j1,hr,hl⟩;obtain⟨hj,rfl,rfl⟩:=Qq j1 hr;have u0:=Y4 v (show(24:Int)≠0 by decide);have u1:=Xr v (show(0:Int)<24 by decide);obtain⟨ch,hc⟩:=kwg "abcdefghijklmnopqrstuvwxyz" (v % 24+j) ⋯ (show v % 24+j<26 by omega);have s1:=vzj (o:=.no) (z:=z) (lo:=none) (hi:=some a) ⋯;have s2:=vzj (o:=.no) (z:=z) (lo:=some (a+1)) (hi:=none) ⋯;have s1':=vzj (o:=o3) (z:=z) (lo:=none) (hi:=some a) ⋯;have s2':=vzj (o:=o3) (z:=z) (lo:=some (a+1)) (hi:=none) ⋯;have g1:(Txt.slice z none (some a)).cps.size<=100:=Y2 (Txt.slice_le z none (some a)) z1;have g2:(Txt.slice z (some (a+1)) none).cps.size<=100:=Y2 (Txt.slice_le z (some (a+1)) none) z1;generalize Txt.slice z none (some a)=w1 at s1 s1' g1;generalize Txt.slice z (some (a+1)) none=w2 at s2 s2' g2;have ku:((⟨#[ch]⟩:Str).cps.size)=1:=rfl;have a1:=VW (o1:=.no) (o2:=.no) (a:=w1) (b:=⟨#[ch]⟩) (by rw[ku];omega);have a2:=VW (o1:=.no) (o2:=.no) (a:=w1++⟨#[ch]⟩) (b:=w2) (by rw[kqk,ku];omega);have a1':=VW (o1:=.no) (o2:=sub o1) (a:=w1) (b:=⟨#[ch]⟩) (by rw[ku];omega);simp![];refine zY rfl ?_;simp![s1,s2,s1',s2',ev,hc,a1,a2,a1'];refine⟨_,rfl,by rw[X4];omega,?_⟩;rw[show ∀w:Str,ss.map D.str++[D.str w]=(ss++[w]).map D.str from λw=>by simp];exact⟨j+1,ss++[_],_,_,_,rfl,⋯,⋯,rfl,by simp;omega⟩
 ·rintro E ⟨j,ss,l6,o1,o3,rfl,j0,j1,hr,hl⟩;have:=Q8 j1 hr;subst this;simp![];exact⟨ss,rfl,⋯,⋯⟩
theorem wkn{aj:List Int}{n:Nat}{rs:List D}{p:Int}(hP:Prs aj n rs)(h0:-1<=p)(h1:p<aj.length):∃k g,Kpr rs p k/\Gdr rs p g/\(p=-1->k=0)/\(0<=p->k=aj.getD p.toNat 0):=by
 by_cases h:p=-1
 ·exact⟨0,false,.inl ⟨h,rfl⟩,.inl ⟨h,rfl⟩,λ_=>rfl,λz=>by omega⟩
 ·obtain⟨r,er,gd,st,rfl,_⟩:=hP.2 p.toNat ⋯;exact⟨_,gd,.inr ⟨⋯,_,_,er⟩,.inr ⟨⋯,_,_,er⟩,λz=>absurd z h,λ_=>rfl⟩
theorem vzh{aj:List Int}{s:Sn}(h:qQ aj s):-1<=rmO s/\rmO s<aj.length:=by
 cases s with|none=>exact⟨Int.le_refl _,by show(-1:Int)<_;omega⟩|some P=>obtain⟨a,b⟩:=P;obtain⟨h0,h1,_⟩:=h a b rfl;exact⟨by show -1<=a;omega,h1⟩
theorem qqy{aj:List Int}{p:Int}{ks:List Int}(h0:-1<=p)(h1:p<aj.length)(h2:0<=p->(ks.length:Int)=aj.getD p.toNat 0):qQ aj (Vj p ks):=by
 intro room ks' e;unfold Vj at e
 split at e
 ·cases e
 ·injection e with e;injection e with e1 e2;subst e1 e2;exact⟨⋯,h1,h2 ⋯⟩
def wq3(S:Sn)(c:Int):D:=if c∈nms S then .int ((nms S).findIdx λw=>w==c:Nat)else .non
end B
namespace F
open Q PySem C
def wvc(aq:List Int):D->List Int
 |.int i=>if i∈aq then aq else aq++[i]|_=>aq
def W5(ks:List D):List Int:=ks.foldl wvc []
def plc(ns:List Int):D->D
 |.int i=>.int (ns.findIdx λw=>w==i:Nat)|d=>d
def pr(ks:List D):List D:=ks.map (plc (W5 ks))
def wj:Nat->List D->List (D×D)
 |_,[]=>[]|n,d::K=>(d,.int n)::wj (n+1) K
def wv(K:List D):List (D×D):=wj 0 K
theorem qqh:∀(a b:List D) (n:Nat),wj n (a++b)=wj n a++wj (n+a.length) b
 |[],b,n=>by simp[wj]
 |d::a,b,n=>by
  rw[List.cons_append,wj,wj,qqh a b (n+1),List.cons_append,Xv]
  congr 3
  omega
theorem kxh:∀(K:List D) (n:Nat),(wj n K).length=K.length
 |[],_=>rfl|d::K,n=>by rw[wj,Xv,kxh K,Xv]
theorem kzm:∀(K:List D) (n:Nat),(wj n K).map (·.1)=K
 |[],_=>rfl|d::K,n=>by rw[wj,List.map_cons,kzm K]
theorem kzl:∀(K:List D) (n:Nat),D.pures ((wj n K).map (·.2))=true
 |[],_=>rfl
 |d::K,n=>by
  rw[wj,List.map_cons];show(D.pure (.int n)&&D.pures ((wj (n+1) K).map (·.2)))=true;rw[kzl K];rfl
theorem qqg:∀(K:List D) (n:Nat) (p:D),xq (wj n K) p=if p∈K then some (.int (n+K.idxOf p:Nat))else none
 | [],_,p=>by simp[wj,xq]
 | d::K,n,p=>by
  by_cases h:d=p
  ·subst h;unfold xq;rw[wj,List.find?_cons_of_pos (by simp),X9 X7];simp
  ·have ih:=qqg K (n+1) p;have e:xq (wj n (d::K)) p=xq (wj (n+1) K) p:=by
    unfold xq;rw[wj,List.find?_cons_of_neg (by simpa using h)]
   rw[e,ih]
   by_cases hm:p∈K
   ·rw[X9 hm,X9 (lc9 _ hm),List.idxOf_cons,show(d==p)=false by simpa using h]
    congr 2
    simp;omega
   ·rw[Xb hm,Xb (λz=>by rcases aD z with z|z;exact h z.symm;exact hm z)]
theorem qqi(K:List D)(p:D):wv (K++[p])=wv K++[(p,.int K.length)]:=by
 unfold wv;rw[qqh,Nat.zero_add];rfl
theorem vwo(K:List D)(p:D):((wQ K p).idxOf p:Int)=if p∈K then(K.idxOf p:Int)else K.length:=by
 unfold wQ
 by_cases h:p∈K
 ·rw[X9 h,X9 h]
 ·rw[Xb h,Xb h,List.idxOf_append,Xb h];simp
def vx4(K:List D)(s:D):List D×D:=match s with
 |.tup [room,.tup ks]=>(wQ K (.tup [room,.tup (pr ks)]),.tup [.int ((wQ K (.tup [room,.tup (pr ks)])).idxOf (.tup [room,.tup (pr ks)]):Nat),iT (W5 ks)])|_=>(K,.non)
end F
namespace F
open Q PySem C
def obD(rs:List D)(s:D)(z:Str)(p:Int):Option D:=match vjc rs (z,p) s with
 |[]=>some .non|[d]=>some d|_=>none
def vqh(rs:List D)(s:D)(z:Str):List D->List D->Option (List D×List D)
 |[],K=>some (K,[])
 |.int p::ps,K=>match obD rs s z p with
  |none=>none|some d=>(vqh rs s z ps (vx4 K d).1).map λr=>(r.1,(vx4 K d).2::r.2)
 |_::_,_=>none
end F
namespace F
open Q PySem C
def wqk(rs:List D)(s:D)(z:Str)(K:List D):Option (List D×List D):=vqh rs s z (k7 0 ((W5 (XJ s)).length+1)) K
def vkk(rs:List D)(s:D):List Str->List D->Option (List D×List D)
 |[],K=>some (K,[])
 |z::zs,K=>match wqk rs s z K with
  |none=>none|some r=>(vkk rs s zs r.1).map λq=>(q.1,.lst r.2::q.2)
def wq5(rs:List D)(s:D):D:=match s with
 |.tup [.int room,_]=>(match rs[room.toNat]? with
  |some (.tup [_,g,_])=>g
  |_=>.non)
 |_=>.non
def vzn(rs:List D)(s:D)(st:List D):D:=.tup [.int (W5 (XJ s)).length,wq5 rs s,.lst st]
def vze(ss:List Str)(rs K af:List D):Option (List D×List D):=(vkk rs (K.getD af.length .non) ss K).map λr=>(r.1,af++[vzn rs (K.getD af.length .non) r.2])
inductive Run (ss:List Str)(rs:List D):List D->List D->Option (List D×List D)->Prop
 |stop {K af:List D}:¬af.length<K.length->Run ss rs K af (some (K,af))
 |fail {K af:List D}:af.length<K.length->vze ss rs K af=none->Run ss rs K af none
 |go {K af K' kr:List D} {r:Option (List D×List D)}:af.length<K.length->vze ss rs K af=some (K',kr)->Run ss rs K' kr r->Run ss rs K af r
end F
namespace F
open Q PySem C
def ltr:List Nat:=("abcdefghijklmnopqrstuvwxyz":Str).cps.toList
end F
namespace F
open Q PySem C
def FA(g:D)(fs:List D):Prop:=(∀(i j:Nat) (f:D),f≠.non->fs[i]?=some f->fs[j]?=some f->i=j)/\(D.str "new"∈fs->g≠.str "any"/\g∉fs)
end F
namespace F
open Q PySem C
def Cpt(ap:Bool)(g g':D):Prop:=(g=.str "fresh"/\∃i,g'=.int i)\/(g'=.str "fresh"/\∃i,g=.int i)\/(ap=true/\∃i j:Int,g=.int i/\g'=.int j/\i≠j)
def wzi(ap:Bool)(st:List D):Prop:=(∀(i j:Nat) (z:Str) (g g' t t' f f':D),i<j->st[i]?=some (.tup [.str z,g,t,f])->st[j]?=some (.tup [.str z,g',t',f'])->Cpt ap g g')/\(ap=true->∀(z:Str) (g t:D) (fs:List D),D.tup [.str z,g,t,.tup fs]∈st->FA g fs)
end F
namespace F
open Q PySem C
def Asks(ap:Bool)(f8:Int)(as:List D):Prop:=as.Pairwise (Cpt ap)/\(∀a∈as,Gd f8 a)/\as.length<=4
end F
namespace F
open Q PySem C
noncomputable def m__law_fills:Fn:=fn 9
  (j4 (j9 5 (cF2 jz (vE (kw .rt [(cC (.str "new")),(cC .non)])) (vE (Wk (vV 2)))))
  (j4 (j9 6 (kw .rt []))
  (j4 (vx (itS (cSl (vV 0) none (some (vV 3)))) (.n 7) (j4 (j9 8 (cH (j6 (vV 5) (vE (cF2 (pu2 jJ) (vV 7) (vE (cF1 (pu1 kY) (vV 5))))))))
  (j4 (sIf (tAnd (tEQ (vV 4)) (tE (cF2 (f2First fNotNon) (vV 8) (vE (cC .non))))) (sIf (tOr (tE (cF2 (pu2 z5) (vV 8) (vV 6))) (tOr (tAnd (tE (cF2 (pu2 fEq) (vV 8) (vE (cC (.str "new"))))) (tOr (tE (cF2 (pu2 fEq) (vV 1) (vE (cC (.str "any"))))) (tE (cF2 (pu2 z5) (vV 1) (vV 6))))) (tAnd (tE (cF2 (pu2 fEq) (vV 8) (vV 1))) (tE (cF2 (pu2 z5) (vE (cC (.str "new"))) (vV 6)))))) (j9 8 (cC .non)) q9) q9)
  (qX qW 6 (cV 8)))))
  (jY (cF1 JJ (vV 6))))))
def FAb(ap:Bool)(g:D)(fs:List D):Prop:=ap=true->FA g fs
inductive FJ1 (zs:List Int)(g:D)(f8 there:Int)(ap:Bool)(LL:List D):En->List D->Prop
 |mk (fs:List D) (ws:List Int) {l7:Option Sd} {l8:Option Sd} {jq:List D} (h0:jq=ws.map D.int) (h1:(fs.length+ws.length:Int)=there) (h2:(∀f∈fs,Fd f8 f)) (h3:FAb ap g fs):FJ1 zs g f8 there ap LL [some (.no,iL zs),some (.no,g),some (.no,.int f8),some (.no,.int there),some (.no,.bl ap),some (.rt,.lst LL),some (.rt,.lst fs),l7,l8] jq
def Ltr(b st:Int)(b5:Nat)(i:Nat)(z:Str):Prop:=z.cps.toList[b5]?=some (ltr.getD ((b+i*(st+1)) % 26).toNat 0)
inductive FJ2 (x n sz am st b:Int):En->List D->Prop
 |mk (k:Int) (ss:List Str) {l7:Option Sd} {l8:Option Sd} {l9:Option Sd} {jm:Option Sd} {jq:List D} (h0:0<=k) (h1:k<=n) (h2:jq=k7 k n) (h3:(ss.length:Int)=k) (h4:∀i:Nat,i<ss.length->Ltr b st am.toNat i (ss.getD i "")):FJ2 x n sz am st b [some (.no,.int x),some (.no,.int n),some (.dp,.str "abcdefghijklmnopqrstuvwxyz"),some (.no,.int sz),some (.dp,.int am),some (.no,.int st),some (.rt,sL ss),l7,l8,l9,jm] jq
inductive FJ3 (x n sz am st b k:Int)(ss:List Str):En->List D->Prop
 |mk (j:Int) (z:Str) {l9:Option Sd} {jm:Option Sd} {o8:Own} {jq:List D} (h0:0<=j) (h1:j<=sz+1) (h2:jq=k7 j (sz+1)) (h3:(z.cps.size:Int)=j) (h4:(am<j->Ltr b st am.toNat ss.length z)):FJ3 x n sz am st b k ss [some (.no,.int x),some (.no,.int n),some (.dp,.str "abcdefghijklmnopqrstuvwxyz"),some (.no,.int sz),some (.dp,.int am),some (.no,.int st),some (.rt,sL ss),some (.no,.int k),some (o8,.str z),l9,jm] jq
end F
namespace F
open Q PySem C
inductive SJ1 (ns:List Int)(a:Int)(ss:List Str)(hs ks:List Int)(v0:Int)(ap:Bool):En->List D->Prop
 |mk (r:Nat) (rs:List D) {l7 l8 l9 jm lu jp lz r9:Option Sd} {jq:List D} (h1:jq=k7 r (1+v0)) (h2:(r:Int)<=1+v0) (h3:rs.length=r) (h4:∀i:Nat,i<r->∃(gd:Bool) (st:List D),rs[i]?=some (.tup [.int (ks.getD i 0),.bl gd,.lst st])/\(∀s∈st,St (ks.getD i 0) s/\Sx ss ks s)/\st.length<=12/\wzi ap st):SJ1 ns a ss hs ks v0 ap [some (.no,iL ns),some (.no,.int a),some (.no,sL ss),some (.rt,iL hs),some (.dp,.int (1+v0)),some (.rt,iL ks),some (.rt,.lst rs),l7,l8,l9,jm,lu,jp,lz,r9] jq
def Sgn(ss:List Str)(j:Nat)(st:List D):Prop:=∀s∈st,∃i,i<j/\∃(hi:i<ss.length) (g t f:D),s=.tup [.str ss[i],g,t,f]
inductive SJ2 (ns:List Int)(a:Int)(ss:List Str)(hs ks:List Int)(v0:Int)(ap:Bool)(rs:List D)(r:Nat)(f8:Int):En->List D->Prop
 |mk (j:Nat) (st:List D) {l9 jm lu jp lz r9:Option Sd} {jq:List D} (h1:jq=k7 j ss.length) (h2:j<=ss.length) (h3:∀s∈st,St f8 s/\Sx ss ks s) (h4:st.length<=4*j) (h5:wzi ap st) (h6:Sgn ss j st):SJ2 ns a ss hs ks v0 ap rs r f8 [some (.no,iL ns),some (.no,.int a),some (.no,sL ss),some (.rt,iL hs),some (.dp,.int (1+v0)),some (.rt,iL ks),some (.rt,.lst rs),some (.no,.int r),some (.rt,.lst st),l9,jm,lu,jp,lz,r9] jq
def Ads(ss:List Str)(j:Nat)(hj:j<ss.length)(ap:Bool)(as add:List D):Prop:=∀(i:Nat) (d:D),add[i]?=some d->∃(g t:D) (fs:List D),as[i]?=some g/\d=.tup [.str ss[j],g,t,.tup fs]/\(ap=true->FA g fs)
inductive SJ3 (ns:List Int)(a:Int)(ss:List Str)(hs ks:List Int)(v0:Int)(ap:Bool)(rs:List D)(r:Nat)(f8:Int)(st:List D)(j:Nat)(hj:j<ss.length)(ys:List Int):En->List D->Prop
 |mk (k:Nat) (as add bo:List D) {lu jp lz r9:Option Sd} {jq:List D} (h0:bo=st++add) (h1:Asks ap f8 as) (h2:k<=as.length) (h3:jq=zq k (as.drop k)) (h4:add.length=k) (h5:∀s∈add,St f8 s/\Sx ss ks s) (h6:Ads ss j hj ap as add):SJ3 ns a ss hs ks v0 ap rs r f8 st j hj ys [some (.no,iL ns),some (.no,.int a),some (.no,sL ss),some (.rt,iL hs),some (.dp,.int (1+v0)),some (.rt,iL ks),some (.rt,.lst rs),some (.no,.int r),some (.rt,.lst bo),some (.no,.int j),some (.no,iL ys),lu,jp,lz,r9] jq
end F
namespace F
open Q PySem C
def wql(K:List D)(d:D):D:=match d with
 |.tup [room,.tup ks]=>.tup [.int (K.idxOf (.tup [room,.tup (pr ks)]):Nat),iT (W5 ks)]|_=>.non
def wxa(rs:List D)(s:D)(z:Str)(L:List D)(d:D):D:=match d with
 |.int p=>(match obD rs s z p with
  |some d=>wql L d
  |none=>.non)
 |_=>.non
def wxr(s:D):List D:=k7 0 ((W5 (XJ s)).length+1)
def vzd(ss:List Str)(rs L:List D)(s:D):List D:=ss.map λz=>.lst ((wxr s).map (wxa rs s z L))
def wxj(L:List D)(e:D):Prop:=∀room ks,e=.tup [room,.tup ks]->D.tup [room,.tup (pr ks)]∈L
def Clo(zs:List Str)(rs L:List D)(s:D):Prop:=∀z∈zs,∀p:Int,D.int p∈wxr s->∃e,obD rs s z p=some e/\wxj L e
def Nrm(t:D):Prop:=∃room ks,t=.tup [room,.tup (pr ks)]
def Inv(ss:List Str)(rs K af:List D):Prop:=af.length<=K.length/\(∀i,i<af.length->Clo ss rs K (K.getD i .non)/\∀L,K <+: L->af[i]?=some (vzn rs (K.getD i .non) (vzd ss rs L (K.getD i .non))))/\∀t∈K,Nrm t
end F
namespace G
open Q PySem C F
def m_is_small:Fn:=fn 1
  (jY (Kw (vE (cF2 (pu2 fLe) (vE (cF1 (pu1 kY) (j6 (vV 0) (C9 1)))) (C9 12))) (cF1 (pu1 wqd) (vE (cLC .rt 1 [] (itS (cH (j6 (vV 0) (C9 1)))) (.n 0) tYes (cF2 (pu2 fLe) (j6 (vV 0) (C9 0)) (C9 3)))))))
def fl(own:Int):D->D
 |.int f=>if f=own then .str "new" else .int f|d=>d
end G
namespace G
open Q PySem C F
def nN(t:D):Nat:=(W5 (XJ t)).length
end G
namespace J
open Q PySem C B F
def m_is_small:Fn:=fn 1
  (jY (Kw (vE (cF2 (pu2 fLe) (vE (cF1 (pu1 kY) (j6 (vV 0) (C9 1)))) (C9 12))) (cF1 (pu1 wqd) (vE (cLC .rt 1 [] (itS (cH (j6 (vV 0) (C9 1)))) (.n 0) tYes (cF2 (pu2 fLe) (j6 (vV 0) (C9 0)) (C9 3)))))))
noncomputable def m_is_good_by:Fn:=fn 3
  (j4 (sIf (tE (cF2 (pu2 fEq) (vV 0) (vE (cC (.str "both"))))) (jY (Kw (vV 1) (cV 2))) q9)
  (j4 (sIf (tE (cF2 (pu2 fEq) (vV 0) (vE (cC (.str "either"))))) (jY (cOr (vV 1) (cV 2))) q9)
  (j4 (sIf (tE (cF2 (pu2 fEq) (vV 0) (vE (cC (.str "first"))))) (jY (Kw (vV 1) (vk7 (vV 2)))) q9)
  (jY (cF2 (pu2 fNe) (vV 1) (vV 2))))))
def m_joined_case:Fn:=fn 3
  (j4 (j9 2 (jQ B.m_pair_of [(cV 0)]))
  (j4 (sIf (tE (cF2 (pu2 fEq) (vV 2) (vE (kK .no [(cC (.int (-1))),(cC (.int (-1))),(kK .no [])])))) (jY (cC .non)) q9)
  (jY (kK .no [(qxv 1 (vV 2) (vE (cF1 (pu1 Qk) (vV 1)))),(jQ B.m_held_by_both [(cV 0)])]))))
noncomputable def m_joined_room:Fn:=fn 10
  (j4 (j9 5 (jQ B.m_first_standings [(cV 1),(cV 2),(cV 3)]))
  (j4 (j9 6 (cF1 (pu1 kY) (vE (jQ B.m_held_by_both [(cV 5)]))))
  (j4 (j9 7 (kw .rt []))
  (j4 (vx (itS (cH (j6 (vV 1) (C9 0)))) (.n 8) (j4 (j9 9 (cLC .rt 1 [1,2,5,8] (vK (vE (cF2 jz (vV 6) (C9 1)))) (.n 0) tYes (jQ B.m_read_by_both [(cV 1),(cV 2),(cV 3),(cV 4),(cV 0)])))
  (qX qW 7 (cLC .rt 1 [4] (itS (cV 9)) (.n 0) tYes (Zq m_joined_case 1 [(cV 0)])))))
  (jY (kK .no [(cV 6),(jQ m_is_good_by [(cV 0),(jQ B.m_is_good_in [(cV 1),(cH (j6 (vV 3) (C9 0)))]),(jQ B.m_is_good_in [(cV 2),(cH (j6 (vV 3) (C9 1)))])]),(cV 7)]))))))
noncomputable def m_joined:Fn:=fn 5
  (j4 (sIf (tOr (tE (cF2 (pu2 wq) (vV 0) (vE (cC (.tup [(.str "both"),(.str "either"),(.str "first"),(.str "one")]))))) (tE (cF2 (pu2 fNe) (j6 (vV 1) (C9 0)) (j6 (vV 2) (C9 0))))) (sRz "NoFit") q9)
  (j4 (sIf (tOr (tNot (tEQ (vE (jQ m_is_small [(cV 1)])))) (tNot (tEQ (vE (jQ m_is_small [(cV 2)]))))) (sRz "TooGreat") q9)
  (j4 (j9 3 (qxw (cC (.tup [(.int 0),(.int 0),(.tup [])])) (cC (.int 0))))
  (j4 (j9 4 (kw .rt []))
  (j4 (sWhile (tE (cF2 (pu2 fLt) (vE (cF1 (pu1 kY) (vV 4))) (vE (cF1 (pu1 Qk) (vV 3))))) (j4 (sIf (tE (cF2 (pu2 fGt) (vE (cF1 (pu1 Qk) (vV 3))) (C9 40))) (sRz "TooGreat") q9)
  (qX qW 4 (Zq m_joined_room 3 [(cV 0),(cV 1),(cV 2),(cH (j6 (vE (cF1 Q9 (vV 3))) (vE (cF1 (pu1 kY) (vV 4)))))]))))
  (jY (kK .no [(kK .no [(cF1 xZ (j6 (vV 1) (C9 0))),(cV 4)]),(cF1 Q9 (vV 3))])))))))
def JV:D->Int
 |.int i=>i|_=>0
def vxm:D->Sn
 |.tup [.int r,.tup ks]=>some (r,ks.map JV)|_=>none
def rdF(ss:List Str)(rs:List D)(S:Sn)(z:Str)(c:Int):Sn:=match S with
 |none=>none
 |some (room,ks)=>(match rs[room.toNat]? with
  |some (.tup [_,_,.lst st])=>vxm (Vz ss st ks z c)
  |_=>none)
theorem vzb{aj:List Int}{d:D}(h:Ok2 aj d):stn (vxm d)=d/\qQ aj (vxm d):=by
 rcases h with rfl|⟨room,ks,rfl,r0,r1,hl⟩
 ·exact⟨rfl,λ_ _ e=>nomatch e⟩
 ·have e:vxm (.tup [.int room,iT ks])=some (room,ks):=by
   show some (room,(ks.map D.int).map JV)=_;rw[Xs]
   congr 2
   exact List.map_id ks
  rw[e];refine⟨rfl,λa b e=>?_⟩;cases e;exact⟨r0,r1,hl⟩
theorem wkb{aj:List Int}{S:Sn}(h:qQ aj S):Ok2 aj (stn S):=by
 cases S with|none=>exact .inl rfl|some x=>obtain⟨a,b,c⟩:=h x.1 x.2 rfl;exact .inr ⟨x.1,x.2,rfl,a,b,c⟩
theorem qj3{aj:List Int}{ss:List Str}{rs:List D}{S:Sn}(z:Str)(c:Int)(hP:Prs aj ss.length rs)(hk:∀p∈aj,0<=p/\p<=3)(hS:qQ aj S):Rd aj ss rs (stn S) (z,c) (stn (rdF ss rs S z c))/\qQ aj (rdF ss rs S z c):=by
 obtain⟨s',h1,h2,_⟩:=qzq (z,c) hP hk (wkb hS);obtain⟨g1,g2⟩:=vzb h2;have e:rdF ss rs S z c=vxm s':=by
  rcases id h1 with⟨h3,rfl⟩|⟨room,ks,st,kp,gd,h3,_,hr,_,_,h4⟩
  ·cases S with| none=>rfl| some x=>cases h3
  ·cases S with
   | none=>cases h3
   | some x=>
    have h3:(D.tup [.int x.1,iT x.2])=.tup [.int room,iT ks]:=h3;injection h3 with h3;injection h3 with e1 h3;injection h3 with e2 _;injection e1 with e1;injection e2 with e2;have e2:x.2=ks:=(List.map_inj_right λa b h=>by injection h).mp e2;show(match rs[x.1.toNat]? with
     |some (.tup [_,_,.lst st])=>vxm (Vz ss st x.2 z c)
     |_=>none)=_
    rw[e1,hr,e2,h4]
 rw[e,g1];exact⟨h1,g2⟩
def kpF(rs:List D)(p:Int):Int:=if p=-1 then 0 else(match rs[p.toNat]? with
 |some (.tup [.int k,_,_])=>k
 |_=>0)
def gdF(rs:List D)(p:Int):Bool:=if p=-1 then false else(match rs[p.toNat]? with
 |some (.tup [_,.bl g,_])=>g
 |_=>false)
theorem wko{rs:List D}{p k:Int}(h:Kpr rs p k):kpF rs p=k:=by
 rcases h with⟨rfl,rfl⟩|⟨h0,g,st,e⟩
 ·rfl
 ·unfold kpF;rw[Xb ⋯,e]
theorem wq6{rs:List D}{p:Int}{g:Bool}(h:Gdr rs p g):gdF rs p=g:=by
 rcases h with⟨rfl,rfl⟩|⟨h0,k,st,e⟩
 ·rfl
 ·unfold gdF;rw[Xb ⋯,e]
theorem XW{aj:List Int}{n:Nat}{rs:List D}{p:Int}(hP:Prs aj n rs)(hk:∀p∈aj,0<=p/\p<=3)(h0:-1<=p)(h1:p<aj.length):Kpr rs p (kpF rs p)/\Gdr rs p (gdF rs p)/\0<=kpF rs p/\kpF rs p<=3/\(0<=p->kpF rs p=aj.getD p.toNat 0):=by
 obtain⟨k,g,a,b,c,d⟩:=wkn hP h0 h1;rw[wko a,wq6 b];refine⟨a,b,?_⟩
 by_cases hp:p=-1
 ·rw[c hp];exact⟨⋯,⋯,λh=>by omega⟩
 ·have hd:=d ⋯;have hm:aj.getD p.toNat 0∈aj:=by rw[Xe,X2 ⋯];exact Y8 _
  rw[hd];exact⟨(hk _ hm).1,(hk _ hm).2,λ_=>rfl⟩
def xz(K:List D)(x:Sn×Sn):List D×D:=if rmO x.1=-1/\rmO x.2=-1 then(K,.non)else(wQ K (v6 x.1 x.2),.tup [.int ((wQ K (v6 x.1 x.2)).idxOf (v6 x.1 x.2):Nat),iT (V7 (nms x.1) (nms x.2))])
theorem qji:∀l:List (Int×Int),keyDs 4 (prs l)=true
 |[]=>rfl
 |p::l=>by
  show(jX 4 (.tup [.int p.1,.int p.2])&&keyDs 4 (prs l))=true;rw[qji l];rfl
theorem vq6(r r':Int)(l:List (Int×Int)):Jk (.tup [.int r,.int r',.tup (prs l)])=true:=by
 have:keyDs 5 [D.int r,.int r',.tup (prs l)]=true:=by
  show(jX 5 (.int r)&&(jX 5 (.int r')&&(keyDs 4 (prs l)&&true)))=true;rw[qji];rfl
 show(keyDs 5 [D.int r,.int r',.tup (prs l)]&&true)=true;rw[this];rfl
def IsP(d:D):Prop:=∃(r r':Int) (l:List (Int×Int)),d=.tup [.int r,.int r',.tup (prs l)]
theorem vxy{K:List D}(h:∀d∈K,IsP d):unm (wv K)=true:=by
 cases K with|nil=>rfl|cons d K=>obtain⟨r,r',l,rfl⟩:=h d X7;rfl
theorem qqx{aj:List Int}{S:Sn}(h:qQ aj S)(e:rmO S=-1):S=none:=by
 cases S with|none=>rfl|some x=>have:=(h x.1 x.2 rfl).1;have e:x.1=-1:=e;omega
theorem WJ{aj:List Int}{S:Sn}(hk:∀p∈aj,0<=p/\p<=3)(h:qQ aj S):(nms S).length<=3:=by
 cases S with
 |none=>exact Yg _
 |some x=>
  obtain⟨a,b,c⟩:=h x.1 x.2 rfl;have hm:aj.getD x.1.toNat 0∈aj:=by rw[Xe,X2 ⋯];exact Y8 _
  have:=(hk _ hm).2;show x.2.length<=3;omega
theorem vk1{aj ay:List Int}{K:List D}{a b:Sn}(ha:qQ aj a)(hb:qQ ay b)(hk:∀p∈aj,0<=p/\p<=3)(cf:∀p∈ay,0<=p/\p<=3)(hK:∀d∈K,IsP d)(hl:K.length<9000):
  Oom m_joined_case [(.no,.tup [stn a,stn b]),(.rt,.dct (wv K))] 1 (λy x'=>y.2=(xz K (a,b)).2/\x'=(.rt,.dct (wv (xz K (a,b)).1))) noX:=by
 have la:=WJ hk ha;have lb:=WJ cf hb;have hu:=vxy hK;unfold m_joined_case;refine vq2 ?_;refine Wv (Zk ?_);simp![];refine(qkq a b ⋯ ⋯).via ?_;intro y hy;subst hy
 by_cases hn:rmO a=-1/\rmO b=-1
 ·have ea:=qqx ha hn.1;have eb:=qqx hb hn.2;subst ea eb;have e:fEq (v6 none none) (.tup [.int (-1),.int (-1),.tup []])=some (.bl true):=rfl;simp![];refine Wv (wk7 ?_);simp![e];refine qw1 ?_;simp![]
  first|exact⟨rfl,rfl⟩|trivial
 ·have e:fEq (v6 a b) (.tup [.int (-1),.int (-1),.tup []])=some (.bl false):=by
   unfold fEq v6;rw[vwr,show(D.tup [.int (-1),.int (-1),.tup []]).flat 40=true from rfl];show some (D.bl ((rmO a == -1)&&((rmO b == -1)&&_)))=_
   by_cases h1:rmO a=-1
   ·have h2:(rmO b == -1)=false:=Ya λh=>hn ⟨h1,h⟩
    rw[h2];simp
   ·rw[Ya h1];rfl
  simp![];refine Wv (wk7 ?_);simp![e];refine Zk ?_;simp![];refine qw1 ?_;simp![];refine vv1 hu ?_;simp![qjg hu];have hz:=qqg K 0 (v6 a b);have my:(wv K).length=K.length:=kxh K 0;have hc:xz K (a,b)=(wQ K (v6 a b),.tup [.int ((wQ K (v6 a b)).idxOf (v6 a b):Nat),iT (V7 (nms a) (nms b))]):=Xb hn;refine⟨wv K,rfl,⟨vq6 _ _ _,by rw[my];omega,hu,kzl _ _⟩,λd hd=>?_,λjo=>?_⟩
  ·have hm:v6 a b∈K:=by
    by_cases hm:v6 a b∈K
    ·exact hm
    ·rw[Xb hm]at hz;unfold wv at hd;rw[hz]at hd;cases hd
   rw[X9 hm,Nat.zero_add]at hz;unfold wv at hd;rw[hz]at hd;cases oq9 hd;have e1:wQ K (v6 a b)=K:=by unfold wQ;rw[X9 hm]
   refine(kz8 a b ⋯ ⋯).via ?_;intro y hy;subst hy;simp![];rw[hc,e1]
   first|exact⟨rfl,rfl⟩|trivial
  ·have hm:v6 a b∉K:=λhm=>by
    rw[X9 hm]at hz;unfold wv at jo;rw[hz]at jo;cases jo
   have e1:wQ K (v6 a b)=K++[v6 a b]:=by unfold wQ;rw[Xb hm]
   have e2:=vwo K (v6 a b);rw[Xb hm]at e2;refine(kz8 a b ⋯ ⋯).via ?_;intro y hy;subst hy;simp![my];rw[hc];dsimp only;rw[e2,e1,qqi]
   first|exact⟨rfl,rfl⟩|trivial
end J
namespace J
open Q PySem C B F
def vW:List (Sn×Sn)->List D->List D×List D
 |[],K=>(K,[])|x::r,K=>((vW r (xz K x).1).1,(xz K x).2::(vW r (xz K x).1).2)
def lat(x:Sn×Sn):D:=.tup [stn x.1,stn x.2]
def wZ(ss:List Str)(rs rs':List D)(S T:Sn)(own:Nat)(z:Str):List (Sn×Sn):=(List.range (own+1)).map λ(c:Nat)=>(rdF ss rs S z c,rdF ss rs' T z c)
def vJ(ss:List Str)(rs rs':List D)(S T:Sn)(own:Nat):List Str->List D->List D×List D
 |[],K=>(K,[])|z::zs,K=>((vJ ss rs rs' S T own zs (vW (wZ ss rs rs' S T own z) K).1).1,.lst (vW (wZ ss rs rs' S T own z) K).2::(vJ ss rs rs' S T own zs (vW (wZ ss rs rs' S T own z) K).1).2)
def byW(w:Str)(g g':Bool):Bool:=if w == "both" then g&&g' else if w == "either" then g||g' else if w == "first" then g && !g' else g != g'
theorem good_by{w:Str}{g g':Bool}:Oo m_is_good_by [(.no,.str w),(.no,.bl g),(.no,.bl g')] (λy=>∃o':Own,y=(o',.bl (byW w g g'))/\True) noX:=by
 have e:∀z:Str,fEq (.str w) (.str z)=some (.bl (w==z)):=λ_=>rfl
 have ne:fNe (.bl g) (.bl g')=some (.bl (g != g')):=by cases g<;>cases g'<;>rfl
 unfold m_is_good_by byW;refine qv ?_;cases h1:w==("both":Str)with
 | true=>
  cases g<;>simp![e,h1]<;>exact⟨_,rfl,trivial⟩
 | false=>
  cases h2:w==("either":Str)with
  | true=>cases g<;>simp![e,h1,h2]<;>exact⟨_,rfl,trivial⟩
  | false=>
   cases h3:w==("first":Str)with
   |true=>cases g<;>simp![e,h1,h2,h3]<;>exact⟨_,rfl,trivial⟩
   |false=>
    simp![e,h1,h2,h3,ne];exact⟨_,rfl,trivial⟩
structure Kj (K:List D):Prop where
 nd:K.Nodup
 ok:∀d∈K,IsP d
theorem qjw{K:List D}{x:Sn×Sn}(h:Kj K):Kj (xz K x).1/\K.length<=(xz K x).1.length/\(xz K x).1.length<=K.length+1:=by
 unfold xz
 split
 ·exact⟨h,X8 _,Zh _⟩
 ·dsimp only;unfold wQ
  split
  ·exact⟨h,X8 _,Zh _⟩
  ·rename_i hm;refine⟨⟨List.nodup_append.mpr ⟨h.nd,by simp,λa ha b hb e=>?_⟩,λd hd=>?_⟩,by simp,by simp⟩
   ·rw[aC hb]at e;exact hm (e▸ha)
   ·rcases aA hd with hd|hd
    ·exact h.ok d hd
    ·rw[aC hd];exact⟨_,_,_,rfl⟩
theorem kk1:∀{l:List (Sn×Sn)} {K:List D},Kj K->Kj (vW l K).1/\K.length<=(vW l K).1.length/\(vW l K).1.length<=K.length+l.length
 |[],K,h=>⟨h,X8 _,X8 _⟩
 |x::l,K,h=>by
  obtain⟨a,b,c⟩:=qjw (x:=x) h;obtain⟨d,e,f⟩:=kk1 (l:=l) a;refine⟨d,Y2 b e,?_⟩;show(vW l (xz K x).1).1.length<=K.length+(l.length+1);omega
theorem kj4{ss:List Str}{rs rs':List D}{S T:Sn}{own:Nat}:∀{zs:List Str} {K:List D},Kj K->Kj (vJ ss rs rs' S T own zs K).1/\K.length<=(vJ ss rs rs' S T own zs K).1.length/\(vJ ss rs rs' S T own zs K).1.length<=K.length+zs.length*(own+1)
 |[],K,h=>⟨h,X8 _,by simp[vJ]⟩
 |z::zs,K,h=>by
  obtain⟨a,b,c⟩:=kk1 (l:=wZ ss rs rs' S T own z) h;obtain⟨d,e,f⟩:=kj4 (ss:=ss) (rs:=rs) (rs':=rs') (S:=S) (T:=T) (own:=own) (zs:=zs) a;have hl:(wZ ss rs rs' S T own z).length=own+1:=by unfold wZ;rw[X4,Yj]
  refine⟨d,Y2 b e,?_⟩;show(vJ ss rs rs' S T own zs (vW (wZ ss rs rs' S T own z) K).1).1.length<=K.length+(zs.length+1)*(own+1);rw[Nat.add_mul];omega
section
variable {aj ay:List Int}{ss:List Str}{rs rs':List D}
def pS(rs:List D):D->Sn
 |.tup [.int p,_,_]=>wzf p (kpF rs p)|_=>none
def vxn:List D->List (Int×Int)
 |[]=>[]|.tup [.int i,.int j]::r=>(i,j)::vxn r|_::r=>vxn r
theorem vzk:∀l:List (Int×Int),vxn (prs l)=l
 |[]=>rfl
 |p::l=>by
  show(p.1,p.2)::vxn (prs l)=_;rw[vzk l]
def pT(rs rs':List D):D->Sn
 |.tup [.int p,.int q,.tup sh]=>wze q (kpF rs p) (kpF rs' q) (vxn sh)|_=>none
def pO(rs rs':List D)(P:D):Nat:=(V7 (nms (pS rs P)) (nms (pT rs rs' P))).length
def gS(rs:List D):D->Bool
 |.tup [.int p,_,_]=>gdF rs p|_=>false
def gT(rs:List D):D->Bool
 |.tup [_,.int q,_]=>gdF rs q|_=>false
def qzn(w:Str)(ss:List Str)(rs rs':List D)(P:D)(st:List D):D:=.tup [.int (pO rs rs' P),.bl (byW w (gS rs P) (gT rs' P)),.lst st]
def Pok(aj ay:List Int)(P:D):Prop:=∃(p q:Int) (sh:List (Int×Int)),P=.tup [.int p,.int q,.tup (prs sh)]/\-1<=p/\p<aj.length/\-1<=q/\q<ay.length/\sh.length<=3
theorem qwz{a b:List Int}(ha:a.length<=3)(hb:b.length<=3):(V7 a b).length<=6:=by
 unfold V7;rw[Xj];have:=List.length_filter_le (λn=>!(a.any λw=>w==n)) b;omega
theorem vj9{P:D}(hP:Prs aj ss.length rs)(hk:∀p∈aj,0<=p/\p<=3)(h:Pok aj ay P):qQ aj (pS rs P):=by
 obtain⟨p,q,sh,rfl,h0,h1,_⟩:=h;obtain⟨_,_,c,_,e⟩:=XW hP hk h0 h1;refine qqy h0 h1 λhp=>?_
 rw[<-e hp];show((List.map _ (List.range _)).length:Int)=_;rw[X4,Yj];omega
theorem vj8{P:D}(cp:Prs ay ss.length rs')(cf:∀p∈ay,0<=p/\p<=3)(h:Pok aj ay P):qQ ay (pT rs rs' P):=by
 obtain⟨p,q,sh,rfl,_,_,h0,h1,_⟩:=h;obtain⟨_,_,c,_,e⟩:=XW cp cf h0 h1;refine qqy h0 h1 λhp=>?_
 rw[<-e hp,kv0];omega
theorem vjs{P:D}(hP:Prs aj ss.length rs)(hk:∀p∈aj,0<=p/\p<=3)(cp:Prs ay ss.length rs')(cf:∀p∈ay,0<=p/\p<=3)(h:Pok aj ay P):
  Oo m_first_standings [(.no,j7 ss rs),(.no,j7 ss rs'),(.no,P)] (λy=>y=(.no,lat (pS rs P,pT rs rs' P))) noX:=by
 obtain⟨p,q,sh,rfl,h0,h1,h2,h3,h4⟩:=h;obtain⟨a,_,c,d,_⟩:=XW hP hk h0 h1;obtain⟨a',_,c',d',_⟩:=XW cp cf h2 h3;refine(vjr a a' c ⋯ c' ⋯ ⋯).mono λy hy=>?_
 rw[hy];show _=(Own.no,D.tup [stn (wzf p (kpF rs p)),stn (wze q (kpF rs p) (kpF rs' q) (vxn (prs sh)))]);rw[vzk];rfl
theorem wk1{P:D}(hP:Prs aj ss.length rs)(hk:∀p∈aj,0<=p/\p<=3)(cp:Prs ay ss.length rs')(cf:∀p∈ay,0<=p/\p<=3)(h:Pok aj ay P):pO rs rs' P<=6:=qwz (WJ hk (vj9 hP hk h)) (WJ cf (vj8 cp cf h))
theorem kv5{x:Sn×Sn}{S T:Sn}{own:Nat}{z:Str}(hP:Prs aj ss.length rs)(hk:∀p∈aj,0<=p/\p<=3)(cp:Prs ay ss.length rs')(cf:∀p∈ay,0<=p/\p<=3)(hS:qQ aj S)(hT:qQ ay T)(h:x∈wZ ss rs rs' S T own z):qQ aj x.1/\qQ ay x.2:=by
 obtain⟨c,_,rfl⟩:=aE h;exact⟨(qj3 z c hP hk hS).2,(qj3 z c cp cf hT).2⟩
theorem kqp{w:Str}{P:D}{K:List D}(hs:ss.length<=3)(hP:Prs aj ss.length rs)(hk:∀p∈aj,0<=p/\p<=3)(cp:Prs ay ss.length rs')(cf:∀p∈ay,0<=p/\p<=3)(h:Pok aj ay P)(hK:Kj K)(hl:K.length<=1000):
  Oom m_joined_room [(.no,.str w),(.no,j7 ss rs),(.no,j7 ss rs'),(.no,P),(.rt,.dct (wv K))] 4
   (λy x'=>y=(.no,qzn w ss rs rs' P (vJ ss rs rs' (pS rs P) (pT rs rs' P) (pO rs rs' P) ss K).2)/\x'=(.rt,.dct (wv (vJ ss rs rs' (pS rs P) (pT rs rs' P) (pO rs rs' P) ss K).1))) noX:=by
 have hS:=vj9 hP hk h;have hT:=vj8 (rs:=rs) cp cf h;have hO:=wk1 hP hk cp cf h;have lS:=WJ hk hS;have lT:=WJ cf hT;have hfi:=vjs hP hk cp cf h;have q0:∀a b:D,jK (.tup [a,b]) (.int 0)=some a:=λ_ _=>rfl
 unfold m_joined_room;refine vq2 ?_;refine Wv (Zk ?_);simp![];refine hfi.via ?_;intro y hy;subst hy;simp![];refine Wv (Zk ?_);simp![];refine(kz8 (pS rs P) (pT rs rs' P) ⋯ ⋯).via ?_;intro y hy;subst hy;simp![];refine Wv (Zk ?_);simp![];refine Wv (Zk ?_);have hown:((V7 (nms (pS rs P)) (nms (pT rs rs' P))).length:Int)=(pO rs rs' P:Nat):=rfl;rw [hown];generalize hOd:pO rs rs' P=own at *;generalize hSd:pS rs P=S at *;generalize hTd:pT rs rs' P=T at *;refine K5 (λE jq=>∃(K1 aq:List D) (zs:List Str) (l8 l9:Option Sd),E=[some (.no,.str w),some (.no,j7 ss rs),some (.no,j7 ss rs'),some (.no,P),some (.rt,.dct (wv K1)),some (.no,lat (S,T)),some (.dp,.int own),some (.rt,.lst aq),l8,l9]/\jq=zs.map D.str/\Kj K1/\(∀z∈zs,z∈ss)/\K1.length+zs.length*7<=K.length+21/\aq.length+zs.length=ss.length/\vJ ss rs rs' S T own ss K=((vJ ss rs rs' S T own zs K1).1,aq++(vJ ss rs rs' S T own zs K1).2)) ?_ ?_ ?_
 ·simp![q0];exact⟨K,[],ss,_,_,rfl,rfl,hK,λ_ h=>h,⋯,by simp,by simp⟩
 ·rintro E d ds ⟨K1,aq,zs,l8,l9,rfl,bc,hK1,hzs,gr,mf,nq⟩;cases zs with
  | nil=>cases bc
  | cons z zs=>
   rw [List.map_cons]at bc;injection bc with e1 e2;subst e1 e2;rw [Xv]at gr mf;simp![];refine JY [some (.no,j7 ss rs),some (.no,j7 ss rs'),some (.no,lat (S,T)),some (.no,.str z)] (λd y=>y.2=lat (rdF ss rs S z (JV d),rdF ss rs' T z (JV d))) ?_;refine vwj ?_;simp![];refine⟨_,rfl,⋯,⋯,rfl,λd hd=>?_,λys hy=>?_⟩
   ·obtain⟨c,c0,c1,rfl⟩:=kz3 hd;simp![];refine(vxc (w:=(z,c)) (qj3 z c hP hk hS).1 (qj3 z c cp cf hT).1).via ?_;intro y hy;subst hy;exact⟨⟨_,rfl⟩,rfl⟩
   have hm:(k7 0 ((own:Int)+1)).map (λd=>lat (rdF ss rs S z (JV d),rdF ss rs' T z (JV d)))=(wZ ss rs rs' S T own z).map lat:=by
    unfold k7 wZ;rw[Xs,Xs];rw[show((own:Int)+1 - 0).toNat=own+1 by omega];refine List.map_congr_left λc _=>?_
    show lat (rdF ss rs S z (0+(c:Int)),rdF ss rs' T z (0+(c:Int)))=_;rw[Int.zero_add];rfl
   rw [xx,Qz (h:=λd=>lat (rdF ss rs S z (JV d),rdF ss rs' T z (JV d))) (λ_ _ h=>h) hy,hm];simp only[back,clr,at',List.map_cons,List.map_nil,List.set_cons_zero,List.set_cons_succ];simp![];have hlo:∀x∈wZ ss rs rs' S T own z,qQ aj x.1/\qQ ay x.2:=λx hx=>kv5 hP hk cp cf hS hT hx
   have hll:(wZ ss rs rs' S T own z).length=own+1:=by unfold wZ;rw[X4,Yj]
   have hcj:=kk1 (l:=wZ ss rs rs' S T own z) hK1;have hsg:vJ ss rs rs' S T own (z::zs) K1=((vJ ss rs rs' S T own zs (vW (wZ ss rs rs' S T own z) K1).1).1,.lst (vW (wZ ss rs rs' S T own z) K1).2::(vJ ss rs rs' S T own zs (vW (wZ ss rs rs' S T own z) K1).1).2):=rfl;rw [hsg]at nq;generalize wZ ss rs rs' S T own z=L at *;refine zY rfl ?_;refine V3 (λE1 B ds ka=>E1=[some (.no,.str w),some (.no,j7 ss rs),some (.no,j7 ss rs'),some (.no,P),some (.rt,.dct (wv K1)),some (.no,lat (S,T)),some (.dp,.int own),some (.rt,.lst aq),some (.no,.str z),some (.no,.lst (L.map lat))]/\∃(q:Option Sd) (K2:List D) (xs:List (Sn×Sn)),B=[q,some (.rt,.dct (wv K2))]/\ds=xs.map lat/\Kj K2/\(∀x∈xs,x∈L)/\K2.length+xs.length<=K1.length+L.length/\vW L K1=((vW xs K2).1,ka.map (·.2)++(vW xs K2).2)) ?_ ?_ ?_
   ·simp![];exact⟨none,K1,L,rfl,rfl,hK1,λ_ h=>h,X8 _,by simp⟩
   ·rintro E1 B d ds ka ⟨rfl,q,K2,xs,rfl,bc,hK2,hxs,hl2,hc⟩;cases xs with
    | nil=>cases bc
    | cons x xs=>
     rw[List.map_cons]at bc;injection bc with e1 e2;subst e1 e2;rw[Xv]at hl2;obtain⟨o1,o2⟩:=hlo x (hxs x X7);simp![];refine qjx ?_;simp![];refine⟨_,rfl,(vk1 (K:=K2) o1 o2 hk cf hK2.ok ⋯).mono (λy' x' h=>?_) λc h=>h.elim⟩;obtain⟨h1,rfl⟩:=h;have hi:=qjw (x:=x) hK2;refine⟨_,(xz K2 x).1,xs,rfl,rfl,hi.1,λx' om=>hxs x' (lc9 _ om),⋯,?_⟩;rw[hc,vW];simp[h1]
   ·rintro E1 B ka ⟨rfl,q,K2,xs,rfl,bc,hK2,hxs,hl2,hc⟩;cases xs with
    | cons=>cases bc
    | nil=>
     rw[xx];simp only[J0,back,clr,at',List.drop,List.map_cons,List.map_nil,List.set_cons_zero,List.set_cons_succ];have hc:vW L K1=(K2,ka.map (·.2)):=by rw[hc];simp[vW]
     rw[hc]at nq hcj;refine⟨aq,rfl,⋯,K2,aq++[.lst (ka.map (·.2))],zs,_,_,rfl,rfl,hK2,λz' i3=>hzs z' (lc9 _ i3),?_,?_,?_⟩
     ·have:=hcj.2.2;dsimp only at this;omega
     ·rw[Xj,Yk];omega
     ·rw[nq];simp
 ·rintro E ⟨K1,aq,zs,l8,l9,rfl,bc,hK1,hzs,gr,mf,nq⟩;cases zs with
  | cons=>cases bc
  | nil=>
   obtain⟨p,q,sh,rfl,h0,h1,h2,h3,h4⟩:=h;obtain⟨_,g1,_⟩:=XW hP hk h0 h1;obtain⟨_,g2,_⟩:=XW cp cf h2 h3;have t0:jK (.tup [.int p,.int q,.tup (prs sh)]) (.int 0)=some (.int p):=rfl;have t1:jK (.tup [.int p,.int q,.tup (prs sh)]) (.int 1)=some (.int q):=rfl;have nq:vJ ss rs rs' S T own ss K=(K1,aq):=by rw[nq];simp[vJ]
   rw[nq];refine qw1 ?_;simp![t0,t1];refine(qx0 g1).use ?_;intro _ _;simp![t1];refine(qx0 g2).use ?_;intro _ _;simp![];refine good_by.use ?_;intro _ _;simp![];have e:qzn w ss rs rs' (D.tup [D.int p,D.int q,D.tup (prs sh)]) aq=.tup [.int own,.bl (byW w (gdF rs p) (gdF rs' q)),.lst aq]:=by
    unfold qzn;rw[hOd];rfl
   rw[e];exact⟨rfl,rfl⟩
theorem kzx(t:List Int):∀(k:Nat) (o:List Int),(J6 t k o).length<=o.length
 |_,[]=>X8 _
 |k,n::o=>by
  have:=kzx t (k+1) o;unfold J6
  split<;>simp<;>omega
theorem vj7{a b:Sn}(ha:qQ aj a)(hb:qQ ay b)(hk:∀p∈aj,0<=p/\p<=3):Pok aj ay (v6 a b):=by
 obtain⟨a0,a1⟩:=vzh ha;obtain⟨b0,b1⟩:=vzh hb;exact⟨_,_,_,rfl,a0,a1,b0,b1,Y2 (kzx _ _ _) (WJ hk ha)⟩
theorem qxo{K:List D}{x:Sn×Sn}(hK:∀d∈K,Pok aj ay d)(ha:qQ aj x.1)(hb:qQ ay x.2)(hk:∀p∈aj,0<=p/\p<=3):∀d∈(xz K x).1,Pok aj ay d:=by
 intro d hd;unfold xz at hd
 split at hd
 ·exact hK d hd
 ·dsimp only at hd;unfold wQ at hd
  split at hd
  ·exact hK d hd
  ·rcases aA hd with hd|hd
   ·exact hK d hd
   ·rw[aC hd];exact vj7 ha hb hk
theorem kq8(hk:∀p∈aj,0<=p/\p<=3):∀{l:List (Sn×Sn)} {K:List D},(∀d∈K,Pok aj ay d)->(∀x∈l,qQ aj x.1/\qQ ay x.2)->∀d∈(vW l K).1,Pok aj ay d
 |[],K,h,_=>h|x::l,K,h,hl=>kq8 hk (l:=l) (qxo h (hl x X7).1 (hl x X7).2 hk) λy hy=>hl y (lc9 _ hy)
theorem kks{S T:Sn}{own:Nat}(hP:Prs aj ss.length rs)(hk:∀p∈aj,0<=p/\p<=3)(cp:Prs ay ss.length rs')(cf:∀p∈ay,0<=p/\p<=3)(hS:qQ aj S)(hT:qQ ay T):∀{zs:List Str} {K:List D},(∀d∈K,Pok aj ay d)->∀d∈(vJ ss rs rs' S T own zs K).1,Pok aj ay d
 |[],K,h=>h|z::zs,K,h=>kks hP hk cp cf hS hT (zs:=zs) (kq8 hk h λx hx=>kv5 hP hk cp cf hS hT hx)
noncomputable def qzf(w:Str)(ss:List Str)(rs rs' K af:List D):List D×List D:=
 ((vJ ss rs rs' (pS rs (K.getD af.length .non)) (pT rs rs' (K.getD af.length .non)) (pO rs rs' (K.getD af.length .non)) ss K).1,
  af++[qzn w ss rs rs' (K.getD af.length .non) (vJ ss rs rs' (pS rs (K.getD af.length .non)) (pT rs rs' (K.getD af.length .non)) (pO rs rs' (K.getD af.length .non)) ss K).2])
inductive RunJ (w:Str)(ss:List Str)(rs rs':List D):List D->List D->Option (List D×List D)->Prop
 |stop {K af:List D}:¬af.length<K.length->RunJ w ss rs rs' K af (some (K,af))
 |great {K af:List D}:af.length<K.length->40<K.length->RunJ w ss rs rs' K af none
 |go {K af:List D} {r:Option (List D×List D)}:af.length<K.length->K.length<=40->RunJ w ss rs rs' (qzf w ss rs rs' K af).1 (qzf w ss rs rs' K af).2 r->RunJ w ss rs rs' K af r
abbrev P0:D:=.tup [.int 0,.int 0,.tup []]
structure Mst (aj ay:List Int)(K af:List D):Prop where
 kj:Kj K
 ok:∀d∈K,Pok aj ay d
 le:af.length<=K.length
theorem qjd{w:Str}{K af:List D}(hP:Prs aj ss.length rs)(hk:∀p∈aj,0<=p/\p<=3)(cp:Prs ay ss.length rs')(cf:∀p∈ay,0<=p/\p<=3)(h:Mst aj ay K af)(bv:af.length<K.length):
  Mst aj ay (qzf w ss rs rs' K af).1 (qzf w ss rs rs' K af).2:=by
 have i6:K.getD af.length .non∈K:=by rw[Xe,X2 bv];exact Y8 _
 have ph:=h.ok _ i6;obtain⟨a,b,c⟩:=kj4 (ss:=ss) (rs:=rs) (rs':=rs') (S:=pS rs (K.getD af.length .non)) (T:=pT rs rs' (K.getD af.length .non)) (own:=pO rs rs' (K.getD af.length .non)) (zs:=ss) h.kj;refine⟨a,kks hP hk cp cf (vj9 hP hk ph) (vj8 cp cf ph) h.ok,?_⟩;show(af++[_]).length<=_;rw[Xj,Yk];exact Y2 bv b
def wkt:D->Int
 |.tup [.int k,_,_]=>k|_=>0
def wV(rs:List D):Bool:=decide (rs.length<=12)&&rs.all λr=>decide (wkt r<=3)
theorem qxz(g:D->Bool):∀ds:List D,bls (ds.map λd=>D.bl (g d))=some (ds.map g)
 |[]=>rfl
 |d::ds=>by
  rw[List.map_cons,bls,qxz g ds];rfl
theorem wqq(g:D->Bool)(ds:List D):wqd (.lst (ds.map λd=>D.bl (g d)))=some (.bl (ds.all g)):=by
 show(bls (ds.map λd=>D.bl (g d))).map _=_;rw[qxz];simp[List.all_map,Function.comp_def]
theorem jzr{d0:D}{rs:List D}(h:∀r∈rs,∃(own:Int) (a b:D),r=.tup [.int own,a,b]):Oo m_is_small [(.no,.tup [d0,.lst rs])] (λy=>∃o':Own,y=(o',.bl (wV rs))/\True) noX:=by
 have q1:∀a b:D,jK (.tup [a,b]) (.int 1)=some b:=λ_ _=>rfl
 have t0:∀a b c:D,jK (.tup [a,b,c]) (.int 0)=some a:=λ_ _ _=>rfl
 unfold m_is_small;refine qv ?_
 by_cases hl:rs.length<=12
 ·have e:fLe (.int rs.length) (.int 12)=some (.bl true):=by rw[le_ii,Xl ⋯]
  simp![q1,e];refine JY [] (λd y=>y.2=.bl (decide (wkt d<=3))) ?_;simp![q1];refine⟨λd hd=>?_,λys hy=>?_⟩
  ·obtain⟨own,a,b,rfl⟩:=h d hd;simp![t0];exact⟨⟨_,rfl⟩,rfl⟩
  ·rw[xx,Qz (h:=λd=>.bl (decide (wkt d<=3))) (λ_ _ h=>h) hy];simp![wqq (λd=>decide (wkt d<=3))];exact⟨_,by unfold wV;rw[Xl hl];rfl,trivial⟩
 ·have e:fLe (.int rs.length) (.int 12)=some (.bl false):=by rw[le_ii,Xh ⋯]
  simp![q1,e];exact⟨_,by unfold wV;rw[Xh hl];rfl,trivial⟩
theorem qj5{n:Nat}(hP:Prs aj n rs):∀r∈rs,∃(own:Int) (a b:D),r=.tup [.int own,a,b]:=λr hr=>by
 obtain⟨i,hi,e⟩:=List.getElem_of_mem hr;obtain⟨r',e',gd,st,h',_⟩:=hP.2 i (by rw[<-hP.1];exact hi);rw[X2 hi,e]at e';cases oq9 e';exact⟨_,_,_,h'⟩
theorem kw2{n:Nat}(hP:Prs aj n rs)(hk:∀p∈aj,0<=p/\p<=3)(h12:aj.length<=12):wV rs=true:=by
 unfold wV;rw[Xl (by rw[hP.1];exact h12),Bool.true_and,Ze];intro r hr;obtain⟨i,hi,e⟩:=List.getElem_of_mem hr;have kt:i<aj.length:=by rw[<-hP.1];exact hi
 obtain⟨r',e',gd,st,h',_⟩:=hP.2 i kt;rw[X2 hi,e]at e';cases oq9 e';rw[h'];have hm:aj.getD i 0∈aj:=by rw[Xe,X2 kt];exact Y8 _
 exact Xl (hk _ hm).2
theorem kwf{w:Str}(hw:w∈(["both","either","first","one"]:List Str))(hs:ss.length<=3)(h1:1<=aj.length)(h12:aj.length<=12)(h1':1<=ay.length)(h12':ay.length<=12)(hP:Prs aj ss.length rs)(hk:∀p∈aj,0<=p/\p<=3)(cp:Prs ay ss.length rs')(cf:∀p∈ay,0<=p/\p<=3):
  Oo m_joined [(.no,.str w),(.no,j7 ss rs),(.no,j7 ss rs')] (λy=>∃K af,y=(.no,.tup [j7 ss af,.lst K])/\RunJ w ss rs rs' [P0] [] (some (K,af))/\Mst aj ay K af) (λc=>c="TooGreat"/\RunJ w ss rs rs' [P0] [] none):=by
 have hwn:wq (.str w) (.tup [.str "both",.str "either",.str "first",.str "one"])=some (.bl false):=by
  simp only[Y1,Xm,or_false]at hw;rcases hw with rfl|rfl|rfl|rfl<;>rfl
 have q0:∀a b:D,jK (.tup [a,b]) (.int 0)=some a:=λ_ _=>rfl
 have bj:fNe (sL ss) (sL ss)=some (.bl false):=kxz (show D.flats 39 (ss.map D.str)=true from zj λd hd=>by obtain⟨w,_,rfl⟩:=aE hd;rfl);unfold m_joined;refine qv ?_;simp![hwn,q0,bj];have jg:=jzr (d0:=sL ss) (qj5 hP);have dj:=jzr (d0:=sL ss) (qj5 cp);rw [kw2 hP hk h12]at jg;rw [kw2 cp cf h12']at dj;refine jg.any.use ?_;intro _ _;simp![];refine dj.any.use ?_;intro _ _;simp![↓vxw];refine⟨vq6 0 0 [],?_⟩;have cb:Mst aj ay [P0] []:=⟨⟨by simp,λd hd=>by rw[aC hd];exact⟨0,0,[],rfl⟩⟩,λd hd=>by rw[aC hd];exact⟨0,0,[],rfl,⋯,⋯,⋯,⋯,Yg _⟩,Yg _⟩;refine qj6 (λn E=>∃(K af:List D),E=[some (.no,.str w),some (.no,j7 ss rs),some (.no,j7 ss rs'),some (.rt,.dct (wv K)),some (.rt,.lst af)]/\Mst aj ay K af/\K.length<=100/\n=200 - af.length/\∀r,RunJ w ss rs rs' K af r->RunJ w ss rs rs' [P0] [] r) ?_ 200 _ ⟨[P0],[],rfl,cb,⋯,rfl,λr h=>h⟩;rintro n E ⟨K,af,rfl,hm,hl,rfl,hrun⟩;have hu:=vxy hm.kj.ok;have fq:=hm.le;have my:(wv K).length=K.length:=kxh K 0;have me:∀o,Q9 (o,.dct (wv K))=some (.rt,.lst K):=λo=>by
  rw[wkh (by rw[my];omega) hu];unfold wv;rw[kzm]
 by_cases bv:af.length<K.length
 ·have hd:decide ((af.length:Int)<(K.length:Int))=true:=Xl ⋯
  by_cases h40:K.length<=40
  ·have hg:fGt (.int K.length) (.int 40)=some (.bl false):=by rw[gt_ii,Xh ⋯]
   have hix:jK (.lst K) (.int af.length)=some (K.getD af.length .non):=zQ ⋯ (by rw[Xu,X2 bv,Xe,X2 bv];rfl);have i6:K.getD af.length .non∈K:=by rw[Xe,X2 bv];exact Y8 _
   have hms:=qjd (w:=w) hP hk cp cf hm bv;have hro:=kqp (w:=w) hs hP hk cp cf (hm.ok _ i6) hm.kj ⋯;have iz:=(kj4 (ss:=ss) (rs:=rs) (rs':=rs') (S:=pS rs (K.getD af.length .non)) (T:=pT rs rs' (K.getD af.length .non)) (own:=pO rs rs' (K.getD af.length .non)) (zs:=ss) hm.kj).2.2;have hO:=wk1 hP hk cp cf (hm.ok _ i6);have on:ss.length*(pO rs rs' (K.getD af.length .non)+1)<=3*7:=Nat.mul_le_mul hs ⋯;simp![qjg hu,my,hd,hg];refine zY rfl ?_;refine qjx ?_;simp![me,hix];refine⟨_,rfl,hro.mono (λy x' h=>?_) λc h=>h.elim⟩;obtain⟨rfl,rfl⟩:=h;refine⟨af,rfl,⋯,_,?_,_,_,rfl,hms,?_,rfl,λr h=>hrun r (.go bv h40 h)⟩
   ·show 200 - (af++[_]).length<_;rw[Xj,Yk];omega
   ·show(vJ ss rs rs' _ _ _ ss K).1.length<=100;omega
  ·have hg:fGt (.int K.length) (.int 40)=some (.bl true):=by rw[gt_ii,Xl ⋯]
   simp![qjg hu,my,hd,hg];exact hrun _ (.great bv ⋯)
 ·have hd:decide ((af.length:Int)<(K.length:Int))=false:=Xh ⋯;simp![qjg hu,my,hd,me,q0,xY (o:=.no) (xs:=ss.map D.str) ⋯];exact⟨K,af,rfl,hrun _ (.stop bv),hm⟩
end
end J
namespace Kp
open Q PySem C
abbrev Is(f:Fn)(xs:List Sd)(b:Bool):Prop:=Oo f xs (λy=>∃o':Own,y=(o',.bl b)/\True) noX
def wzh(d:D)(n:Int):Bool:=match d with
 |.int i=>decide (0<=i)&&decide (i<n)|_=>false
def K6:D->Bool
 |.lst _=>true|_=>false
theorem bk(E:En):back [] [] (clr [] E)=E:=rfl
def ivD:D->Int
 |.int i=>i|_=>0
def wqa(e rq:Int)(d:D):Bool:=match d with
 |.tup fs=>decide ((fs.length:Int)=rq)&&(fs.all (λd=>wzh d e)&&decide (((ddI (fs.map ivD)).length:Int)=rq))|_=>false
def vx4(ks:List Int)(e:Int)(d:D):Bool:=isNon d||match d with
 |.tup [a,b]=>wzh a ks.length&&wqa e (ks.getD (ivD a).toNat 0) b|_=>false
end Kp
namespace Nk63
open PySem Q
def m_is_small : Fn:= G.m_is_small
def m_read_by : Fn:= C.m_read_by
def m_keepers_in : Fn:= B.m_keepers_in
def m_standing_in : Fn:= B.m_standing_in
def m_first_standings : Fn:= B.m_first_standings
def m_read_by_both : Fn:= B.m_read_by_both
def m_names_of : Fn:= B.m_names_of
def m_room_of : Fn:= B.m_room_of
def m_pair_of : Fn:= B.m_pair_of
def m_held_by_both : Fn:= B.m_held_by_both
def m_is_good_in : Fn:= B.m_is_good_in
def m_is_good_by : Fn:= J.m_is_good_by
def m_joined_case : Fn:= J.m_joined_case
def m_joined_room : Fn:= J.m_joined_room
noncomputable def m_joined:Fn:=fn 5
  (j4 (sIf (tOr (tE (cF2 (pu2 wq) (vV 0) (vE (cC (.tup [(.str "both"),(.str "either"),(.str "first"),(.str "one")]))))) (tE (cF2 (pu2 fNe) (j6 (vV 1) (C9 0)) (j6 (vV 2) (C9 0))))) (sRz "NoFit") q9)
  (j4 (sIf (tOr (tNot (tEQ (vE (jQ m_is_small [(cV 1)])))) (tNot (tEQ (vE (jQ m_is_small [(cV 2)]))))) (sRz "TooGreat") q9)
  (j4 (j9 3 (qxw (cC (.tup [(.int 0),(.int 0),(.tup [])])) (cC (.int 0))))
  (j4 (j9 4 (kw .rt []))
  (j4 (sWhile (tE (cF2 (pu2 fLt) (vE (cF1 (pu1 kY) (vV 4))) (vE (cF1 (pu1 Qk) (vV 3))))) (j4 (sIf (tE (cF2 (pu2 fGt) (vE (cF1 (pu1 Qk) (vV 3))) (C9 40))) (sRz "TooGreat") q9)
  (qX qW 4 (Zq m_joined_room 3 [(cV 0),(cV 1),(cV 2),(cH (j6 (vE (cF1 Q9 (vV 3))) (vE (cF1 (pu1 kY) (vV 4)))))]))))
  (jY (kK .no [(kK .no [(cF1 xZ (j6 (vV 1) (C9 0))),(cV 4)]),(cF1 Q9 (vV 3))])))))))
def m__law_cell_at : Fn:= B.m__law_cell_at
def m__law_stream : Fn:= B.m__law_stream
def m__law_signs : Fn:= B.m__law_signs
def m__law_fills : Fn:= B.m__law_fills
def m__law_case : Fn:= B.m__law_case
def m__law_plain : Fn:= B.m__law_plain
noncomputable def ZK:Fn:=fn 4
  (j4 (j9 2 (cF1 xZ (j6 (vV 0) (C9 1))))
  (j4 (sIf (tE (cF2 (pu2 fEq) (vE (cF2 (pu2 jJ) (vV 1) (C9 2))) (C9 0))) (sWhile (tE (cF2 (pu2 fLt) (vE (cF1 (pu1 kY) (vV 2))) (vE (cF2 jz (C9 13) (vE (cF2 (pu2 jJ) (vE (cF2 (pu2 v4) (vV 1) (C9 2))) (C9 5))))))) (qX qW 2 (kK .no [(cC (.int 0)),(cF2 (pu2 fEq) (vE (cF2 (pu2 jJ) (vE (cF1 (pu1 kY) (vV 2))) (C9 2))) (C9 0)),(cLC .rt 1 [] (itS (cH (j6 (vV 0) (C9 0)))) (.n 0) tYes (kw .rt [(cC .non)]))]))) (j4 (j9 3 (cF2 jz (C9 4) (vE (cF2 (pu2 jJ) (vE (cF2 (pu2 v4) (vV 1) (C9 2))) (C9 3)))))
  (qX qW 2 (kK .no [(cV 3),(cF2 (pu2 fEq) (vE (cF2 (pu2 jJ) (vE (cF2 (pu2 v4) (vV 1) (C9 6))) (C9 2))) (C9 0)),(cLC .rt 1 [3] (itS (cH (j6 (vV 0) (C9 0)))) (.n 0) tYes (cF2 vz (vE (kw .rt [(cC .non)])) (vE (cF2 jz (vV 1) (C9 1)))))]))))
  (jY (kK .no [(cF1 xZ (j6 (vV 0) (C9 0))),(cV 2)]))))
noncomputable def YV:Fn:=fn 8
  (j4 (j9 2 (cF1 xZ (j6 (vV 0) (C9 0))))
  (j4 (j9 3 (cF2 (pu2 jJ) (vV 1) (vE (cF1 (pu1 kY) (vV 2)))))
  (j4 (sIf (tAnd (tE (cF2 (pu2 fEq) (vE (cF2 (pu2 jJ) (vE (cF2 (pu2 v4) (vV 1) (C9 3))) (C9 3))) (C9 0))) (tE (cF2 (pu2 fGt) (vE (cF1 (pu1 kY) (vV 2))) (C9 1)))) (j4 (j9 4 (cF2 jz (vE (cSl (vV 2) none (some (vV 3)))) (vE (cSl (vV 2) (some (vE (cF2 jz (vV 3) (C9 1)))) none))))
  (j4 (j9 5 (cLC .rt 3 [3] (itS (cH (j6 (vV 0) (C9 1)))) (.t [0,1,2]) tYes (kK .no [(cV 0),(cV 1),(cF2 jz (vE (cSl (vV 2) none (some (vV 3)))) (vE (cSl (vV 2) (some (vE (cF2 jz (vV 3) (C9 1)))) none)))])))
  (jY (kK .no [(cV 4),(cV 5)])))) q9)
  (j4 (j9 6 (cH (j6 (vV 2) (vV 3))))
  (j4 (j9 7 (cH (j6 (vE (cC (.str "abcdefghijklmnopqrstuvwxyz"))) (vE (cF2 (pu2 jJ) (vE (cF2 (pu2 v4) (vV 1) (C9 9))) (C9 26))))))
  (j4 (sIf (tE (cF2 (pu2 fLt) (vE (cF1 (pu1 kY) (vV 6))) (C9 8))) (QQ 2 (vV 3) (cF2 jz (vV 6) (vV 7))) (QQ 2 (vV 3) (cSl (vV 6) none (some (C9 7)))))
  (j4 (sIf (tE (cF2 (pu2 fNe) (vV 2) (vE (cF1 XQ (vV 2))))) (jY (cC .non)) q9)
  (jY (kK .no [(cV 2),(cF1 xZ (j6 (vV 0) (C9 1)))])))))))))
noncomputable def jqo:Fn:=fn 4
  (j4 (j9 1 (kw .rt [(cC (.str "both")),(cC (.str "either")),(cC (.str "first")),(cC (.str "one"))]))
  (j4 (sIf (tE (cF2 (pu2 fLt) (vE (cF2 (pu2 jJ) (vV 0) (C9 7))) (C9 5))) (jY (cH (j6 (vV 1) (vE (cF2 (pu2 jJ) (vE (cF2 (pu2 v4) (vV 0) (C9 7))) (C9 4)))))) q9)
  (j4 (j9 2 (cH (j6 (vV 1) (vE (cF2 (pu2 jJ) (vE (cF2 (pu2 v4) (vV 0) (C9 7))) (C9 4))))))
  (j4 (j9 3 (kw .rt [(cC (.str "")),(cC (.str "second")),(cC (.str "two")),(cC (.str "none")),(cC (.str "Both")),(cC (.str "ONE")),(cC (.str " one")),(cF2 jz (vV 2) (vE (cC (.str " ")))),(cF1 (pu1 qxb) (vV 2))]))
  (j4 (j9 3 (cF2 jz (vV 3) (vE (kw .rt [(cF2 jz (vV 2) (vE (cC (.str "s")))),(cSl (vV 2) (some (C9 1)) none),(cF2 jz (vV 2) (vV 2))]))))
  (jY (cH (j6 (vV 3) (vE (cF2 (pu2 jJ) (vE (cF2 (pu2 v4) (vV 0) (C9 28))) (C9 12)))))))))))
noncomputable def Qw:Fn:=fn 6
  (j4 (j9 3 (cC (.str "none")))
  (j4 (QJ ["NoFit","TooGreat"] 4 (qzm (Zz m_joined [(cV 0),(cV 1),(cV 2)])) (j4 (j9 3 (cC (.str "odd")))
  (j4 (j9 5 (cF1 (pu1 (vj [("NoFit",false),("TooGreat",false)])) (vV 4)))
  (j4 (sIf (tAnd (tEQ (vE (cF1 (pu1 (vj [("NoFit",true),("TooGreat",true)])) (vV 4)))) (tAnd (tNot (tEQ (vV 5))) (tNot (tEQ (vE (cF1 (pu1 (vj [("NoFit",true),("TooGreat",false)])) (vV 4))))))) (j9 3 (cH (j6 (vE (kw .rt [(cC (.str "odd")),(cC (.str "great"))])) (vE (cF1 (pu1 Jw) (vE (cF1 (pu1 (vj [("NoFit",false),("TooGreat",true)])) (vV 4)))))))) q9)
  (sIf (tAnd (tEQ (vE (cF1 (pu1 (vj [("NoFit",true),("TooGreat",true)])) (vV 4)))) (tAnd (tNot (tEQ (vV 5))) (tNot (tEQ (vE (cF1 (pu1 (vj [("NoFit",false),("TooGreat",true)])) (vV 4))))))) (j9 3 (cH (j6 (vE (kw .rt [(cC (.str "odd")),(cC (.str "unlike"))])) (vE (cF1 (pu1 Jw) (vE (cF1 (pu1 (vj [("NoFit",true),("TooGreat",false)])) (vV 4)))))))) q9)))))
  (jY (cMv 3))))
noncomputable def m_law:Fn:=fn 14
  (j4 (j9 1 (jQ m__law_signs [(jQ m__law_cell_at [(cV 0),(cC (.int 0))])]))
  (j4 (j9 2 (jQ m__law_plain [(jQ m__law_cell_at [(cV 0),(cC (.int 1))]),(cV 1)]))
  (j4 (j9 3 (jQ m__law_plain [(jQ m__law_cell_at [(cV 0),(cC (.int 2))]),(cV 1)]))
  (j4 (j9 4 (jQ jqo [(jQ m__law_cell_at [(cV 0),(cC (.int 3))])]))
  (j4 (j9 5 (cF2 (pu2 jJ) (vE (jQ m__law_cell_at [(cV 0),(cC (.int 4))])) (C9 4)))
  (j4 (j9 6 (jQ m__law_cell_at [(cV 0),(cC (.int 5))]))
  (j4 (j9 7 (kw .rt [(cV 2),(cV 3)]))
  (j4 (j9 8 (cC (.str "none")))
  (j4 (sIf (tE (cF2 (pu2 z5) (vV 5) (vE (kK .no [(cC (.int 1)),(cC (.int 3))])))) (j4 (QQ 7 (vE (cF2 (pu2 jJ) (vV 6) (C9 2))) (jQ ZK [(cH (j6 (vV 7) (vE (cF2 (pu2 jJ) (vV 6) (C9 2))))),(cF2 (pu2 v4) (vV 6) (C9 2))]))
  (j4 (sIf (tE (cF2 (pu2 fEq) (vE (cF2 (pu2 jJ) (vE (cF2 (pu2 v4) (vV 6) (C9 100))) (C9 3))) (C9 0))) (QQ 7 (vE (cF2 (pu2 wqb) (C9 1) (vE (cF2 (pu2 jJ) (vV 6) (C9 2))))) (jQ ZK [(cH (j6 (vV 7) (vE (cF2 (pu2 wqb) (C9 1) (vE (cF2 (pu2 jJ) (vV 6) (C9 2))))))),(cF2 (pu2 v4) (vV 6) (C9 3))])) q9)
  (j9 8 (cC (.str "great"))))) q9)
  (j4 (j9 9 (cF2 (pu2 jJ) (vE (cF2 (pu2 v4) (vV 6) (C9 7))) (C9 2)))
  (j4 (sIf (tAnd (tE (cF2 (pu2 fGt) (vV 5) (C9 1))) (tE (cF2 (f2First fNotNon) (vE (jQ YV [(cH (j6 (vV 7) (vV 9))),(jQ m__law_cell_at [(cV 0),(cC (.int 6))])])) (vE (cC .non))))) (j4 (QQ 7 (vV 9) (jQ YV [(cH (j6 (vV 7) (vV 9))),(jQ m__law_cell_at [(cV 0),(cC (.int 6))])]))
  (j9 8 (cC (.str "unlike")))) q9)
  (j4 (sIf (tE (cF2 (pu2 wq) (vV 4) (vE (kK .no [(cC (.str "both")),(cC (.str "either")),(cC (.str "first")),(cC (.str "one"))])))) (j9 8 (cC (.str "unlike"))) q9)
  (j4 (j9 10 (cLC .rt 1 [] (itS (cV 7)) (.n 0) tYes (kK .no [(cF1 xZ (j6 (vV 0) (C9 0))),(cF1 xZ (j6 (vV 0) (C9 1)))])))
  (j4 (j9 11 (jQ Qw [(cV 4),(cH (j6 (vV 7) (C9 0))),(cH (j6 (vV 7) (C9 1)))]))
  (j4 (sIf (tOr (tE (cF2 (pu2 fNe) (vV 7) (vV 10))) (tAnd (tE (cF2 (pu2 fNe) (vV 11) (vV 8))) (tOr (tE (cF2 (pu2 fNe) (vV 8) (vE (cC (.str "none"))))) (tE (cF2 (pu2 fNe) (vV 11) (vE (cC (.str "great")))))))) (jY (cC (.bl false))) q9)
  (j4 (j9 12 (cLC .rt 1 [1] (vK (C9 2)) (.n 0) tYes (kK .no [(cF1 xZ (vV 1)),(kw .rt [(kK .no [(cC (.int 0)),(cF2 (pu2 fEq) (vV 0) (C9 1)),(cLC .rt 1 [] (itS (cV 1)) (.n 0) tYes (kw .rt [(kK .no [(cC (.int 0)),(kK .no [])])]))])])])))
  (j4 (vx (itS (kw .rt [(cC (.str "both")),(cC (.str "either")),(cC (.str "first")),(cC (.str "one"))])) (.n 13) (sIf (tE (cF2 (pu2 fNe) (vE (jQ Qw [(cV 13),(cH (j6 (vV 12) (C9 0))),(cH (j6 (vV 12) (C9 1)))])) (vE (cC (.str "none"))))) (jY (cC (.bl false))) q9))
  (jY (cF2 (pu2 fEq) (vE (jQ Qw [(cV 4),(cH (j6 (vV 7) (C9 0))),(cH (j6 (vV 7) (C9 1)))])) (vV 11))))))))))))))))))))
end Nk63
namespace Nk63
open Q PySem C B J
theorem wqe:m__law_cell_at=B.m__law_cell_at:=rfl
theorem vwy:m__law_signs=B.m__law_signs:=rfl
theorem vwz:m__law_plain=B.m__law_plain:=rfl
theorem vjw:m_joined=J.m_joined:=rfl
def Rf(r:D):Prop:=∃(own:Int) (g:Bool) (st:List D),r=.tup [.int own,.bl g,.lst st]/\st.length<=3/\∀x∈st,x.flat 35=true
theorem qzo{rs:List D}{r:D}(h:r∈rs)(hk:3<wkt r):wV rs=false:=by
 unfold wV;rw[Bool.and_eq_false_iff];refine .inr (List.all_eq_false.mpr ⟨r,h,?_⟩);rw[Xh ⋯];decide
theorem qwe{rs:List D}(h:12<rs.length):wV rs=false:=by
 unfold wV;rw[Xh ⋯];rfl
theorem wkf{o1 o2:Own}{k:Int}(h1:o1≠.dp)(h0:0<=k)(hk:k<1000):W7 (o1,.lst [.non]) (o2,.int k)=some (.rt,.lst (List.replicate k.toNat [D.non]).flatten):=by
 show(if -(2 ^ 63)<=k/\k<2 ^ 63/\[D.non].length*k.toNat<=big/\qK (o1,.lst [.non])then _ else _)=_;rw[X9 ⟨⋯,⋯,by unfold big;simp;omega,by cases o1<;>simp_all [qK]⟩]
theorem qw3(n k:Nat):D.flats n (List.replicate k [D.non]).flatten=true:=zj λd hd=>by
 obtain⟨l,hl,hd⟩:=List.mem_flatten.mp hd;rw[List.eq_of_mem_replicate hl]at hd;rw[aC hd];cases n<;>rfl
theorem kq3{ss:List Str}{rs:List D}(cell:Int)(hs:ss.length<=3)(hr:∀r∈rs,Rf r)(hl:rs.length<=12):
  Oo ZK [(.no,j7 ss rs),(.no,.int cell)] (λy=>∃i7,y=(.no,j7 ss i7)/\(∀r∈i7,Rf r)/\wV i7=false/\i7.length<=20) noX:=by
 have q0:∀a b:D,jK (.tup [a,b]) (.int 0)=some a:=λ_ _=>rfl
 have q1:∀a b:D,jK (.tup [a,b]) (.int 1)=some b:=λ_ _=>rfl
 have bk:∀E:En,back [] [] (clr [] E)=E:=λ_=>rfl
 have e2:∀a b:Int,fEq (.int a) (.int b)=some (.bl (a==b)):=λa b=>QZ
 have hm:jJ (.int cell) (.int 2)=some (.int (cell % 2)):=mod_i ⋯;unfold ZK;refine qv ?_
 by_cases hc:cell % 2=0
 ·have hq:fEq (.int (cell % 2)) (.int 0)=some (.bl true):=by rw[QZ,hc];rfl
  have w0:=Y4 (cell / 2) (show(5:Int)≠0 by decide);have w1:=Xr (cell / 2) (show(0:Int)<5 by decide);have hm5:jJ (.int (cell / 2)) (.int 5)=some (.int (cell / 2 % 5)):=mod_i ⋯;generalize cell / 2 % 5=t at w0 w1 hm5;simp![q1,xY (o:=.no) (xs:=rs) ⋯,hm,hq];refine qj6 (λn E=>∃(i7:List D) (l3:Option Sd),E=[some (.no,j7 ss rs),some (.no,.int cell),some (.rt,.lst i7),l3]/\(∀r∈i7,Rf r)/\i7.length<=17/\n=20 - i7.length) ?_ (20 - rs.length) _ ⟨rs,_,rfl,hr,⋯,rfl⟩;rintro n E ⟨i7,l3,rfl,h2,hl2,rfl⟩
  by_cases bv:(i7.length:Int)<13+t
  ·have hd:decide ((i7.length:Int)<13+t)=true:=Xl bv;simp![hm5,hd];refine zY rfl ?_;simp![mod_i (a:=(i7.length:Int)) (b:=2) ⋯,e2];refine JY [] (λ_ y=>y.2=.lst [.non]) ?_;simp![q0];refine⟨λd hd=>⟨⟨_,rfl⟩,trivial⟩,λys hy=>?_⟩;rw[xx,Qz (h:=λ_=>D.lst [.non]) (λ_ _ h=>h) hy,bk];simp![];refine⟨_,rfl,⋯,_,?_,_,_,rfl,λr hr'=>?_,?_,rfl⟩
   ·simp;omega
   ·rcases aA hr' with hr'|hr'
    ·exact h2 r hr'
    ·rw[aC hr'];exact⟨0,_,_,rfl,by rw[X4,X4];exact hs,λd hd=>by obtain⟨w,_,rfl⟩:=aE hd;rfl⟩
   ·simp;omega
  ·have hd:decide ((i7.length:Int)<13+t)=false:=Xh bv;simp![hm5,hd,q0,xY (o:=.no) (xs:=ss.map D.str) ⋯];exact⟨i7,rfl,h2,qwe ⋯,⋯⟩
 ·have hq:fEq (.int (cell % 2)) (.int 0)=some (.bl false):=by rw[QZ,Ya hc]
  have w0:=Y4 (cell / 2) (show(3:Int)≠0 by decide);have w1:=Xr (cell / 2) (show(0:Int)<3 by decide);have on:jJ (.int (cell / 2)) (.int 3)=some (.int (cell / 2 % 3)):=mod_i ⋯;have hm6:jJ (.int (cell / 6)) (.int 2)=some (.int (cell / 6 % 2)):=mod_i ⋯;generalize cell / 2 % 3=t at w0 w1 on;simp![q1,xY (o:=.no) (xs:=rs) ⋯,hm,hq,on];refine zY rfl ?_;simp![hm6,e2];refine JY [some (.no,.int (4+t))] (λ_ y=>y.2=.lst (List.replicate (4+t+1).toNat [D.non]).flatten) ?_;simp![q0];refine⟨rfl,λd hd=>?_,λys hy=>?_⟩
  ·simp![wkf (o1:=.no) (o2:=.no) (k:=4+t+1) ⋯ ⋯ ⋯,wkf (o1:=.rt) (o2:=.no) (k:=4+t+1) ⋯ ⋯ ⋯];exact⟨⟨_,rfl⟩,trivial⟩
  rw[xx,Qz (h:=λ_=>D.lst (List.replicate (4+t+1).toNat [D.non]).flatten) (λ_ _ h=>h) hy];simp only[back,clr,at',List.map_cons,List.map_nil,List.set_cons_zero,List.set_cons_succ];simp![q0,xY (o:=.no) (xs:=ss.map D.str) ⋯];refine⟨rs,rfl,⋯,_,rfl,λr hr'=>?_,?_,by simp;omega⟩
  ·rcases aA hr' with hr'|hr'
   ·exact hr r hr'
   ·rw[aC hr'];refine⟨_,_,_,rfl,by rw[X4,X4];exact hs,λd hd=>?_⟩;obtain⟨w,_,rfl⟩:=aE hd;exact qw3 34 _
  ·exact qzo (List.mem_append.mpr (.inr (aB rfl))) (show 3<4+t by omega)
theorem wvq{z:Str}{j:Int}(h0:0<=j)(h1:j<=z.cps.size):(Txt.slice z none (some j)).cps.toList=z.cps.toList.take j.toNat:=by
 have:=StrLaws.sliceText_to (x:=z) (j:=j) ⟨h0,by rw[Xi];exact h1⟩;rw[show Txt.slice z none (some j)=StrLaws.sliceText z none (some j)from rfl,this];simp
theorem qj8:∀a b:List Str,peqs (a.map D.str) (b.map D.str)=decide (a=b)
 | [],[]=>by simp[peqs]| [],_::_=>by simp[peqs]| _::_,[]=>by simp[peqs]
 | x::a,y::b=>by
  rw[List.map_cons,List.map_cons,peqs,qj8 a b,peq]
  by_cases h:x=y
  ·subst h;simp
  ·have:(x==y)=false:=by simpa using h
   rw[this];simp[h]
theorem kza(ss:List Str):(sL ss).flat 40=true:=by
 show D.flats 39 (ss.map D.str)=true;exact zj λd hd=>by obtain⟨w,_,rfl⟩:=aE hd;rfl
theorem wke(a b:List Str):fNe (sL a) (sL b)=some (.bl (!decide (a=b))):=by
 unfold fNe;rw[kza,kza];show some (D.bl (!peqs (a.map D.str) (b.map D.str)))=_;rw[qj8]
theorem qx7{n:Nat}:∀{ds:List D},D.flats n ds=true->∀d∈ds,d.flat n=true
 |a::x,h,d,hd=>by
  rw[D.flats,Bool.and_eq_true]at h;rcases aD hd with rfl|hd
  ·exact h.1
  ·exact qx7 h.2 d hd
def Oth(ss:List Str)(d:D):Prop:=d=.non\/∃lg rs',d=j7 lg rs'/\lg≠ss/\lg.length<=3/\(∀r∈rs',Rf r)/\rs'.length<=20
theorem kx1{xs:List D}{j:Int}(h0:0<=j):zV xs none (some j)=xs.take j.toNat:=by
 unfold zV z8;dsimp only;rw[Xb ⋯,List.drop_zero,Nat.sub_zero]
 by_cases h:j.toNat<=xs.length
 ·rw[Nat.min_eq_left h]
 ·rw[Nat.min_eq_right ⋯,Z7 (X8 _),Z7 ⋯]
theorem qjt{xs:List D}{j:Int}(h0:0<=j):zV xs (some j) none=xs.drop j.toNat:=by
 unfold zV z8;dsimp only;rw[Xb ⋯,Z7 (by rw[Yf];omega)]
 by_cases h:j.toNat<=xs.length
 ·rw[Nat.min_eq_left h]
 ·rw[Nat.min_eq_right ⋯,List.drop_eq_nil_of_le (X8 _),List.drop_eq_nil_of_le ⋯]
theorem vja{ss:List Str}{rs:List D}(cell:Int)(h1:1<=ss.length)(hs:ss.length<=3)(hr:∀r∈rs,Rf r)(hl:rs.length<=20):
  Oo YV [(.no,j7 ss rs),(.no,.int cell)] (λy=>∃d o',y=(o',d)/\Oth ss d) noX:=by
 have q0:∀a b:D,jK (.tup [a,b]) (.int 0)=some a:=λ_ _=>rfl
 have q1:∀a b:D,jK (.tup [a,b]) (.int 1)=some b:=λ_ _=>rfl
 have a0:=Y4 cell (show(ss.length:Int)≠0 by omega);have a1:=Xr cell (show(0:Int)<ss.length by omega);have ha:jJ (.int cell) (.int ss.length)=some (.int (cell % ss.length)):=mod_i ⋯;generalize cell % ss.length=b5 at a0 a1 ha;have h3:jJ (.int (cell / 3)) (.int 3)=some (.int (cell / 3 % 3)):=mod_i ⋯;generalize cell / 3 % 3=t at h3;unfold YV;refine qv ?_
 by_cases hc:t=0/\1<ss.length
 ·have e1:fEq (.int t) (.int 0)=some (.bl true):=by rw[hc.1];rfl
  have e2:fGt (.int ss.length) (.int 1)=some (.bl true):=by rw[gt_ii,Xl ⋯]
  simp![q0,xY (o:=.no) (xs:=ss.map D.str) ⋯,ha,h3,e1,e2,W4 (o:=.rt) (xs:=ss.map D.str) (lo:=none) (hi:=some b5) ⋯,W4 (o:=.rt) (xs:=ss.map D.str) (lo:=some (b5+1)) (hi:=none) ⋯];rw [kx1 a0,qjt ⋯];rw [qk1 ⋯ ⋯ (by rw[Yc,Yf,X4];omega)];simp![];refine V3 (λE1 B ds aq=>E1=[some (.no,j7 ss rs),some (.no,.int cell),some (.rt,.lst (ss.map D.str)),some (.dp,.int b5),some (.rt,.lst ((ss.map D.str).take b5.toNat++(ss.map D.str).drop (b5+1).toNat)),none,none,none]/\∃(l0 l1 l2:Option Sd) (o:Own) (pre:List D),B=[l0,l1,l2,some (o,.int b5)]/\rs=pre++ds/\(∀y∈aq,Rf y.2)/\aq.length=pre.length) ?_ ?_ ?_
  ·simp![q1];exact⟨_,_,_,_,[],rfl,rfl,(λy h=>nomatch h),rfl⟩
  ·rintro E1 B d ds aq ⟨rfl,l0,l1,l2,o,pre,rfl,bc,mf,iw⟩;obtain⟨own,g,st,rfl,cb,js⟩:=hr d (by rw[bc];simp);simp![W4 (o:=.no) (xs:=st) (lo:=none) (hi:=some b5) ⋯,W4 (o:=.no) (xs:=st) (lo:=some (b5+1)) (hi:=none) ⋯];rw[kx1 a0,qjt ⋯];rw[qk1 ⋯ ⋯ (by rw[Yc,Yf];omega)];simp![];refine⟨_,_,_,_,pre++[.tup [.int own,.bl g,.lst st]],rfl,by rw[bc];simp,λy hy=>?_,by simp[iw]⟩;rcases aA hy with hy|hy
   ·exact mf y hy
   ·rw[aC hy];refine⟨own,g,_,rfl,?_,λx hx=>?_⟩
    ·rw[Xj,Yc,Yf];omega
    ·rcases aA hx with hx|hx
     ·exact js x (List.mem_of_mem_take hx)
     ·exact js x (List.mem_of_mem_drop hx)
  ·rintro E1 B aq ⟨rfl,l0,l1,l2,o,pre,rfl,bc,mf,iw⟩;rw[Xw]at bc;rw[xx];simp only[J0,back,clr,at',List.drop,List.map_cons,List.map_nil,List.set_cons_zero,List.set_cons_succ];simp![];refine⟨_,_,rfl,.inr ⟨ss.take b5.toNat++ss.drop (b5+1).toNat,aq.map (·.2),?_,λe=>?_,?_,λr hr'=>?_,?_⟩⟩
   ·show _=D.tup [.lst ((ss.take b5.toNat++ss.drop (b5+1).toNat).map D.str),_];rw[Xq,List.map_take,List.map_drop]
   ·have:=congrArg List.length e;rw[Xj,Yc,Yf]at this;omega
   ·rw[Xj,Yc,Yf];omega
   ·obtain⟨y,hy,rfl⟩:=aE hr';exact mf y hy
   ·rw[X4,iw,<-bc];exact hl
 have cs:(fEq (.int t) (.int 0)=some (.bl false)/\fNeg (.int 1)=some (.int (-1)))\/(fEq (.int t) (.int 0)=some (.bl true)/\fGt (.int ss.length) (.int 1)=some (.bl false)):=by
  by_cases ht:t=0
  ·exact .inr ⟨by rw[ht];rfl,by rw[gt_ii,Xh λh=>hc ⟨ht,⋯⟩]⟩
  ·exact .inl ⟨by rw[QZ,Ya ht],rfl⟩
 have c0:=Y4 (cell / 9) (show(26:Int)≠0 by decide);have c1:=Xr (cell / 9) (show(0:Int)<26 by decide);have h26:jJ (.int (cell / 9)) (.int 26)=some (.int (cell / 9 % 26)):=mod_i ⋯;obtain⟨ch,ff⟩:=kwg "abcdefghijklmnopqrstuvwxyz" (cell / 9 % 26) c0 c1;generalize cell / 9 % 26=lt at h26 ff;have hn:b5.toNat<ss.length:=⋯
 have hx:jK (.lst (ss.map D.str)) (.int b5)=some (.str ss[b5.toNat]):=zQ a0 (by rw[Xn,X2 hn];rfl);generalize hz:ss[b5.toNat]=z at hx;have hix:Q.ixN (ss.map D.str).length b5=some b5.toNat:=by
  unfold Q.ixN;rw[X9 a0,X9 (by rw[X4];exact a1)]
 have fin:∀z':Str,z'≠z->∃(b:Bool) (x:List D),(∀o,XQ (o,.lst ((ss.map D.str).set b5.toNat (.str z')))=some (.rt,.lst x))/\fNe (.lst ((ss.map D.str).set b5.toNat (.str z'))) (.lst x)=some (.bl b)/\Oth ss (j7 (ss.set b5.toNat z') rs)/\(D.tup [.lst ((ss.map D.str).set b5.toNat (.str z')),.lst rs])=j7 (ss.set b5.toNat z') rs:=λz' sw=>by
  have em:(ss.map D.str).set b5.toNat (.str z')=(ss.set b5.toNat z').map D.str:=by rw[List.map_set]
  rw[em];refine⟨!decide (ss.set b5.toNat z'=zZ (ddS (ss.set b5.toNat z'))),(zZ (ddS (ss.set b5.toNat z'))).map D.str,λo=>?_,wke _ _,.inr ⟨ss.set b5.toNat z',rs,rfl,λe=>sw ?_,by rw[Yt];exact hs,hr,hl⟩,rfl⟩
  ·unfold XQ;dsimp only;rw[kxi];dsimp only;rw[X9 (by rw[Yt];omega)]
  ·have:(ss.set b5.toNat z')[b5.toNat]'(by rw[Yt];exact hn)=z':=List.getElem_set_self _;rw[<-this,<-hz]
   congr 1
 generalize hR:j4 (sIf (tAnd _ _) _ _) _=R;simp![q0,xY (o:=.no) (xs:=ss.map D.str) ⋯,ha];subst hR;refine ZQ (λE=>E=[some (.no,j7 ss rs),some (.no,.int cell),some (.rt,.lst (ss.map D.str)),some (.dp,.int b5),none,none,none,none]) ?_ ?_
 ·rcases cs with⟨e1,e2⟩|⟨e1,e2⟩<;>simp![h3,e1,e2]
 rintro E rfl
 by_cases h8:z.cps.size<8
 ·have bv:fLt (.int z.cps.size) (.int 8)=some (.bl true):=by rw[lt_ii,Xl ⋯]
  have av:kY (.str z)=some (.int z.cps.size):=rfl;have had:∀o1 o2,jz (o1,.str z) (o2,.str ⟨#[ch]⟩)=some (.dp,.str (z++⟨#[ch]⟩)):=λo1 o2=>VW (by show z.cps.size+1<=10000;omega)
  have sw:z++⟨#[ch]⟩≠z:=λe=>by
   have:(z++(⟨#[ch]⟩:Str)).cps.size=z.cps.size+1:=by
    show(z.cps++#[ch]).size=_;rw[Array.size_append];rfl
   rw[e]at this;omega
  obtain⟨b,x,f1,f2,f3,f4⟩:=fin _ sw;simp![hx,h26,ff,av,bv];refine kw0 ?_;simp![had];refine⟨rfl,_,_,_,b5.toNat,rfl,⋯,rfl,hix,?_⟩;cases b with
  |true=>
   simp![f1,f2];exact⟨_,_,rfl,.inl rfl⟩
  |false=>
   simp![f1,f2,q1,xY (o:=.no) (xs:=rs) ⋯];exact⟨_,_,rfl,by rw[f4];exact f3⟩
 ·have bv:fLt (.int z.cps.size) (.int 8)=some (.bl false):=by rw[lt_ii,Xh ⋯]
  have av:kY (.str z)=some (.int z.cps.size):=rfl;have hs7:=wvq (z:=z) (j:=7) ⋯ ⋯;have hl7:(Txt.slice z none (some 7)).cps.size=7:=by
   have:=congrArg List.length hs7;rw[Yc,Xi,Xi]at this;have e7:(7:Int).toNat=7:=rfl;omega
  have iz:∀o,fSl (o,.str z) none (some 7)=some (.dp,.str (Txt.slice z none (some 7))):=λo=>by
   show(if(Txt.slice z none (some 7)).length<=big then _ else _)=_;rw[X9 (by show(Txt.slice z none (some 7)).cps.size<=big;rw[hl7];decide)]
  have sw:Txt.slice z none (some 7)≠z:=λe=>by rw[e]at hl7;omega
  obtain⟨b,x,f1,f2,f3,f4⟩:=fin _ sw;simp![hx,h26,ff,av,bv];refine kw0 ?_;simp![iz];refine⟨rfl,_,_,_,b5.toNat,rfl,⋯,rfl,hix,?_⟩;cases b with
  |true=>
   simp![f1,f2];exact⟨_,_,rfl,.inl rfl⟩
  |false=>
   simp![f1,f2,q1,xY (o:=.no) (xs:=rs) ⋯];exact⟨_,_,rfl,by rw[f4];exact f3⟩
end Nk63
namespace Nk63
open Q PySem C B J
theorem qwa{xs:List D}{t:Int}(h0:0<=t)(h1:t<xs.length):∃a∈xs,jK (.lst xs) (.int t)=some a:=
 ⟨xs[t.toNat]'⋯,Y8 _,zQ h0 (X2 ⋯)⟩
theorem pick{L:List D}{t:Int}{E:En}{P:En->D->Prop}(h0:0<=t)(h1:t<L.length)(h:∀a∈L,P E a):Wo (jK (.lst L) (.int t)) E P:=by
 obtain⟨a,ha,e⟩:=qwa h0 h1;rw[e,wo_some];exact h a ha
abbrev WS:List Str:=["both","either","first","one"]
theorem vqn(c:Int):Oo jqo [(.no,.int c)] (λy=>∃p:Own×Str,y=(p.1,.str p.2)/\True) noX:=by
 have w0:=Y4 (c / 7) (show(4:Int)≠0 by decide);have w1:=Xr (c / 7) (show(0:Int)<4 by decide);have hm4:jJ (.int (c / 7)) (.int 4)=some (.int (c / 7 % 4)):=mod_i ⋯;generalize c / 7 % 4=t at w0 w1 hm4;have v0:=Y4 (c / 28) (show(12:Int)≠0 by decide);have v1:=Xr (c / 28) (show(0:Int)<12 by decide);have su:jJ (.int (c / 28)) (.int 12)=some (.int (c / 28 % 12)):=mod_i ⋯;generalize c / 28 % 12=t2 at v0 v1 su;have hm7:jJ (.int c) (.int 7)=some (.int (c % 7)):=mod_i ⋯;generalize c % 7=t7 at hm7;obtain⟨a,hmem,ha⟩:=qwa (xs:=[.str "both",.str "either",.str "first",.str "one"]) w0 (by simp;omega);obtain⟨z,rfl,hz⟩:∃z:Str,a=.str z/\z.cps.size<=6:=by
  simp only[Y1,Xm,or_false]at hmem;rcases hmem with rfl|rfl|rfl|rfl
  ·exact⟨_,rfl,⋯⟩
  ·exact⟨_,rfl,⋯⟩
  ·exact⟨_,rfl,⋯⟩
  ·exact⟨_,rfl,⋯⟩
 unfold jqo;refine qv ?_
 by_cases h5:t7<5
 ·have e:fLt (.int t7) (.int 5)=some (.bl true):=by rw[lt_ii,Xl h5]
  simp![hm7,e,hm4,ha];exact⟨(_,z),rfl,trivial⟩
 ·have e:fLt (.int t7) (.int 5)=some (.bl false):=by rw[lt_ii,Xh h5]
  have a1:∀o1 o2,jz (o1,.str z) (o2,.str " ")=some (.dp,.str (z++" ")):=λ_ _=>VW (by show z.cps.size+1<=10000;omega)
  have a2:∀o1 o2,jz (o1,.str z) (o2,.str "s")=some (.dp,.str (z++"s")):=λ_ _=>VW (by show z.cps.size+1<=10000;omega)
  have a3:∀o1 o2,jz (o1,.str z) (o2,.str z)=some (.dp,.str (z++z)):=λ_ _=>VW ⋯
  have a4:qxb (.str z)=some (.str (VX z)):=X9 (Y2 hz ⋯);have a5:∀o,fSl (o,.str z) (some 1) none=some (.dp,.str (Txt.slice z (some 1) none)):=λo=>vzj ⋯
  simp![hm7,e,hm4,ha,a1,a2,a3,a4,a5];rw[qk1 ⋯ ⋯ (by simp)];simp![su];refine pick v0 (by simp;omega) λb hb=>?_
  simp![];simp only[Y1,Xm,or_false]at hb;rcases hb with rfl|rfl|rfl|rfl|rfl|rfl|rfl|rfl|rfl|rfl|rfl|rfl
  all_goals exact⟨(_,_),rfl,trivial⟩
theorem jx9{w:Str}{ss lg:List Str}{rs rs':List D}(h:w∉WS\/ss≠lg):Oo J.m_joined [(.no,.str w),(.no,j7 ss rs),(.no,j7 lg rs')] (λ_=>False) (λc=>c="NoFit"):=by
 have q0:∀a b:D,jK (.tup [a,b]) (.int 0)=some a:=λ_ _=>rfl
 have hn:wq (.str w) (.tup (WS.map D.str))=some (.bl (!WS.any λx=>x==w)):=by
  have:=@VQ w WS;unfold wq at this ⊢;dsimp only[sL]at this ⊢;exact this
 unfold J.m_joined;refine qv ?_;cases hw:(WS.any λx=>x==w)with
 | false=>
  have hn:wq (.str w) (.tup [.str "both",.str "either",.str "first",.str "one"])=some (.bl true):=by rw[hw]at hn;exact hn
  simp![hn]
 | true=>
  have hn:wq (.str w) (.tup [.str "both",.str "either",.str "first",.str "one"])=some (.bl false):=by rw[hw]at hn;exact hn
  have nw:ss≠lg:=by
   rcases h with h|h
   ·obtain⟨x,hx,e⟩:=List.any_eq_true.mp hw;have e:x=w:=by simpa using e
    exact absurd (e▸hx) h
   ·exact h
  have bj:fNe (sL ss) (sL lg)=some (.bl true):=by rw[wke,Xh nw];rfl
  simp![hn,q0,bj]
theorem qwt{w:Str}{ss:List Str}{rs rs':List D}(hw:w∈WS)(h1:∀r∈rs,Rf r)(h2:∀r∈rs',Rf r)(h:wV rs=false\/wV rs'=false):Oo J.m_joined [(.no,.str w),(.no,j7 ss rs),(.no,j7 ss rs')] (λ_=>False) (λc=>c="TooGreat"):=by
 have q0:∀a b:D,jK (.tup [a,b]) (.int 0)=some a:=λ_ _=>rfl
 have hwn:wq (.str w) (.tup [.str "both",.str "either",.str "first",.str "one"])=some (.bl false):=by
  simp only[Y1,Xm,or_false]at hw;rcases hw with rfl|rfl|rfl|rfl<;>rfl
 have bj:fNe (sL ss) (sL ss)=some (.bl false):=kxz (kza ss);have s1:=jzr (d0:=sL ss) (rs:=rs) λr hr=>by obtain⟨own,g,st,rfl,_⟩:=h1 r hr;exact⟨_,_,_,rfl⟩
 have s2:=jzr (d0:=sL ss) (rs:=rs') λr hr=>by obtain⟨own,g,st,rfl,_⟩:=h2 r hr;exact⟨_,_,_,rfl⟩
 unfold J.m_joined;refine qv ?_;simp![hwn,q0,bj];refine s1.any.use ?_;intro _ _;cases hb:wV rs with
 | false=>simp![]
 | true=>
  simp![];refine s2.any.use ?_;intro _ _;have dm:wV rs'=false:=by
   rcases h with h|h
   ·rw[hb]at h;cases h
   ·exact h
  rw[dm];simp![]
theorem fix0:vj [("NoFit",false),("TooGreat",false)] (.obj "NoFit" [])=some (.bl false)/\vj [("NoFit",true),("TooGreat",true)] (.obj "NoFit" [])=some (.bl true)/\vj [("NoFit",true),("TooGreat",false)] (.obj "NoFit" [])=some (.bl true)/\vj [("NoFit",false),("TooGreat",true)] (.obj "NoFit" [])=some (.bl false):=⟨V0 ⋯,V0 ⋯,V0 ⋯,V0 ⋯⟩
theorem fix1:vj [("NoFit",false),("TooGreat",false)] (.obj "TooGreat" [])=some (.bl false)/\vj [("NoFit",true),("TooGreat",true)] (.obj "TooGreat" [])=some (.bl true)/\vj [("NoFit",true),("TooGreat",false)] (.obj "TooGreat" [])=some (.bl false)/\vj [("NoFit",false),("TooGreat",true)] (.obj "TooGreat" [])=some (.bl true):=⟨V0 ⋯,V0 ⋯,V0 ⋯,V0 ⋯⟩
theorem jv6{w:Str}{m m':D}{a b c:Prop}(h:Oo J.m_joined [(.no,.str w),(.no,m),(.no,m')] (λ_=>a) (λx=>(x="NoFit"/\b)\/(x="TooGreat"/\c))):
  Oo Qw [(.no,.str w),(.no,m),(.no,m')] (λy=>∃p:Own×Str,y=(p.1,.str p.2)/\((p.2="none"/\a)\/(p.2="unlike"/\b)\/(p.2="great"/\c))) noX:=by
 unfold Qw;rw[vjw];refine qv ?_;simp![];refine h.ox (λy h=>?_) (λx hx=>?_)
 ·simp![];exact⟨(_,"none"),rfl,.inl ⟨rfl,h⟩⟩
 ·have g0:jK (.lst [.str "odd",.str "unlike"]) (.int 1)=some (.str "unlike"):=rfl;have g1:jK (.lst [.str "odd",.str "great"]) (.int 1)=some (.str "great"):=rfl;have i1:Jw (.bl true)=some (.int 1):=rfl;rcases hx with⟨rfl,hx⟩|⟨rfl,hx⟩
  ·obtain⟨f1,f2,f3,f4⟩:=fix0;refine⟨by simp,?_⟩;simp![f1,f2,f3,f4,g0,i1];exact⟨(_,"unlike"),rfl,.inr (.inl ⟨rfl,hx⟩)⟩
  ·obtain⟨f1,f2,f3,f4⟩:=fix1;refine⟨by simp,?_⟩;simp![f1,f2,f3,f4,g1,i1];exact⟨(_,"great"),rfl,.inr (.inr ⟨rfl,hx⟩)⟩
end Nk63
namespace Nk63
open Q PySem C B J
theorem qw8{f:Fn}{xs:List Sd}{P P':Sd->Prop}{X X':XP}(h:Oo f xs P X)(k:∀y,P y->P' y)(l:∀c,X c->X' c):Oo f xs P' X':=by
 unfold Oo at h ⊢;cases hf:f xs with
 |none=>rw[hf]at h;exists h
 |some r=>rw[hf]at h;cases r with|ok E a=>exists k a h|exc E c=>exists l c h
section
variable {aj ay:List Int}{ss:List Str}{rs rs':List D}{I:D->Prop}
theorem qxp{K:List D}{x:Sn×Sn}(hK:∀d∈K,I d)(h:I (v6 x.1 x.2)):∀d∈(xz K x).1,I d:=by
 intro d hd;unfold xz at hd
 split at hd
 ·exact hK d hd
 ·dsimp only at hd;unfold wQ at hd
  split at hd
  ·exact hK d hd
  ·rcases aA hd with hd|hd
   ·exact hK d hd
   ·rw[aC hd];exact h
theorem kq9:∀{l:List (Sn×Sn)} {K:List D},(∀d∈K,I d)->(∀x∈l,I (v6 x.1 x.2))->∀d∈(vW l K).1,I d
 |[],K,h,_=>h|x::l,K,h,hl=>kq9 (l:=l) (qxp h (hl x X7)) λy hy=>hl y (lc9 _ hy)
theorem kkt{S T:Sn}{own:Nat}(hI:∀z,∀x∈wZ ss rs rs' S T own z,I (v6 x.1 x.2)):∀{zs:List Str} {K:List D},(∀d∈K,I d)->∀d∈(vJ ss rs rs' S T own zs K).1,I d
 |[],K,h=>h|z::zs,K,h=>kkt hI (zs:=zs) (kq9 h (hI z))
theorem qv3{w:Str}{K af:List D}{r:Option (List D×List D)}(hP:Prs aj ss.length rs)(hk:∀p∈aj,0<=p/\p<=3)(cp:Prs ay ss.length rs')(cf:∀p∈ay,0<=p/\p<=3)
  (hI:∀a b,qQ aj a->qQ ay b->I (v6 a b)) (h:RunJ w ss rs rs' K af r):Mst aj ay K af->(∀d∈K,I d)->r=none->∃K':List D,K'.Nodup/\(∀d∈K',I d)/\40<K'.length:=by
 induction h with
 |stop _=>intro _ _ e;cases e|great _ h40=>intro hm hK _;exact⟨_,hm.kj.nd,hK,h40⟩
 |@go K af r bv _ _ ih=>
  intro hm hK e;have i6:K.getD af.length .non∈K:=by rw[Xe,X2 bv];exact Y8 _
  have ph:=hm.ok _ i6;refine ih (qjd hP hk cp cf hm bv) (kkt (λz x hx=>?_) hK) e;have:=kv5 hP hk cp cf (vj9 hP hk ph) (vj8 (rs:=rs) cp cf ph) hx;exact hI _ _ this.1 this.2
end
def Jj(ss:List Str)(b:Bool):D:=.tup [.int 0,.bl b,.lst (ss.map λ_=>.lst [.tup [.int 0,.tup []]])]
theorem kvo(ss:List Str)(b:Bool):Prs [0] ss.length [Jj ss b]:=by
 refine⟨rfl,λi hi=>?_⟩;have hi:i=0:=by simp at hi;exact hi
 subst hi;refine⟨_,rfl,b,_,rfl,by rw[X4],λc hc=>?_⟩;obtain⟨w,_,rfl⟩:=aE hc;refine⟨_,rfl,rfl,λk hk=>?_⟩;have hk:k=0:=by simp at hk;exact hk
 subst hk;exact⟨_,rfl,.inr ⟨0,[],rfl,⋯,⋯,(λ_ h=>nomatch h),Y6,rfl⟩⟩
theorem sn0{s:Sn}(h:qQ [0] s):nms s=[]/\(rmO s=-1\/rmO s=0):=by
 cases s with
 |none=>exact⟨rfl,.inl rfl⟩
 |some x=>
  obtain⟨a,b,c⟩:=h x.1 x.2 rfl;have b:x.1<1:=b;have e:x.1=0:=⋯
  have c:(x.2.length:Int)=0:=by rw[c,e];rfl
  exact⟨List.length_eq_zero_iff.mp (show x.2.length=0 by omega),.inr e⟩
def L4:List D:=[.tup [.int (-1),.int (-1),.tup []],.tup [.int (-1),.int 0,.tup []],.tup [.int 0,.int (-1),.tup []],.tup [.int 0,.int 0,.tup []]]
theorem qke{w:Str}(hw:w∈WS){ss:List Str}(hs:ss.length<=3)(b b':Bool):
  Oo Qw [(.no,.str w),(.no,j7 ss [Jj ss b]),(.no,j7 ss [Jj ss b'])] (λy=>∃p:Own×Str,y=(p.1,.str p.2)/\p.2="none") noX:=by
 have hk:∀p∈[(0:Int)],0<=p/\p<=3:=λp hp=>by rw[aC hp];decide
 have hP:=kvo ss b;have cp:=kvo ss b';have hj:=kwf hw hs ⋯ ⋯ ⋯ ⋯ hP hk cp hk;have fm:¬RunJ w ss [Jj ss b] [Jj ss b'] [P0] [] none:=λh=>by
  have cb:Mst [0] [0] [P0] []:=⟨⟨by simp,λd hd=>by rw[aC hd];exact⟨0,0,[],rfl⟩⟩,λd hd=>by rw[aC hd];exact⟨0,0,[],rfl,⋯,⋯,⋯,⋯,Yg _⟩,Yg _⟩;obtain⟨K,h1,h2,h3⟩:=qv3 (I:=λd=>d∈L4) hP hk cp hk (λa b ha hb=>by
   obtain⟨a1,a2⟩:=sn0 ha;obtain⟨b1,b2⟩:=sn0 hb;unfold v6;rw[a1,b1];show D.tup [.int (rmO a),.int (rmO b),.tup []]∈L4;rcases a2 with a2|a2<;>rcases b2 with b2|b2<;>rw[a2,b2]<;>simp[L4]) h cb (λd hd=>by rw[aC hd];simp[L4,P0]) rfl
  have:=qjb h1 h2;have e:L4.length=4:=rfl;omega
 refine(jv6 (a:=True) (b:=False) (c:=False) (qw8 hj (λy _=>trivial) λc hc=>?_)).mono λy hy=>?_
 ·exact absurd hc.2 fm
 ·obtain⟨p,e,h⟩:=hy;rcases h with h|h|h
  ·exact⟨p,e,h.1⟩
  ·exact h.2.elim
  ·exact h.2.elim
end Nk63
namespace Nk63
open Q PySem C B J
inductive Bent (ss:List Str)(rs rs':List D):D->D->Str->Prop
 |same:Bent ss rs rs' (j7 ss rs) (j7 ss rs') "none"
 |great {r0 r1:List D}:(∀r∈r0,Rf r)->(∀r∈r1,Rf r)->r0.length<=20->r1.length<=20->(wV r0=false\/wV r1=false)->Bent ss rs rs' (j7 ss r0) (j7 ss r1) "great"
 |unlike {s0 s1:List Str} {r0 r1:List D}:(∀r∈r0,Rf r)->(∀r∈r1,Rf r)->s0≠s1->Bent ss rs rs' (j7 s0 r0) (j7 s1 r1) "unlike"
theorem vzo{aj:List Int}{n:Nat}{rs:List D}(hn:n<=3)(hP:Prs aj n rs):∀r∈rs,Rf r:=λr hr=>by
 obtain⟨i,hi,e⟩:=List.getElem_of_mem hr;obtain⟨r',e',gd,st,h',hl,hc⟩:=hP.2 i (by rw[<-hP.1];exact hi);rw[X2 hi,e]at e';cases oq9 e';refine⟨_,gd,st,h',⋯,λc hcm=>?_⟩;obtain⟨cs,rfl,_,hz⟩:=hc c hcm;refine zj (n:=34) λz hzm=>?_
 obtain⟨k,hk,e2⟩:=List.getElem_of_mem hzm;obtain⟨z',e3,h3⟩:=hz k hk;rw[X2 hk,e2]at e3;cases oq9 e3;rcases h3 with rfl|⟨to,fs,rfl,_⟩
 ·rfl
 ·have:D.flats 32 (fs.map D.int)=true:=zj λd hd=>by obtain⟨w,_,rfl⟩:=aE hd;rfl
  simp only[D.flat,D.flats,this,Bool.and_self]
theorem YK{ss:List Str}{rs:List D}(h:∀r∈rs,Rf r):(j7 ss rs).flat 39=true:=by
 have F1:D.flats 37 (ss.map D.str)=true:=zj λd hd=>by obtain⟨w,_,rfl⟩:=aE hd;rfl
 have F2:D.flats 37 rs=true:=zj λr hr=>by
  obtain⟨own,g,st,rfl,_,hf⟩:=h r hr;have:D.flats 35 st=true:=zj λx hx=>hf x hx
  simp only[D.flat,D.flats,this,Bool.and_self]
 simp only[D.flat,D.flats,F1,F2,Bool.and_self]
theorem wkm(ns:List Int)(hnl:ns.length<=63):Oo m_law [(.no,iL ns)] (λy=>y.2=.bl true) noX:=by
 unfold m_law;rw [wqe,vwy,vwz];generalize hR:j4 (sIf (tE (cF2 (pu2 z5) (vV 5) _)) _ _) _=R;refine qv ?_;simp![];refine(V9 ns 0 ⋯).use ?_;intro _ _;simp![];refine(qqz _).use ?_;rintro ss ⟨ku,hs3⟩;simp![];refine(V9 ns 1 ⋯).use ?_;intro _ _;simp![];refine(kw3 _ ss ku hs3).use ?_;rintro rs ⟨aj,k1,k6,k0,hk,hP⟩;simp![];refine(V9 ns 2 ⋯).use ?_;intro _ _;simp![];refine(kw3 _ ss ku hs3).use ?_;rintro rs' ⟨ay,k1',k6',k0',cf,cp⟩;simp![];refine(V9 ns 3 ⋯).use ?_;intro _ _;simp![];refine(vqn _).use ?_;rintro ⟨ow,w⟩ _;simp![];refine(V9 ns 4 ⋯).use ?_;intro _ _;simp![mod_i (a:=Jv ns 4) (b:=4) ⋯];refine(V9 ns 5 ⋯).use ?_;intro _ _;simp![];subst hR;have w0:=Y4 (Jv ns 4) (show(4:Int)≠0 by decide);have w1:=Xr (Jv ns 4) (show(0:Int)<4 by decide);generalize Jv ns 4 % 4=way at w0 w1;generalize Jv ns 5=cell;have hrf:=vzo hs3 hP;have lv:=vzo hs3 cp;have hl6:rs.length<=6:=by rw[hP.1];exact k6
 have hl6':rs'.length<=6:=by rw[cp.1];exact k6'
 refine ZQ (λE=>∃(m0 m1:D) (ms:Str) (o6 o8:Own),E=[some (.no,iL ns),some (.no,sL ss),some (.no,j7 ss rs),some (.no,j7 ss rs'),some (ow,.str w),some (.dp,.int way),some (o6,.int cell),some (.rt,.lst [m0,m1]),some (o8,.str ms),none,none,none,none,none]/\(∃r0 r1,m0=j7 ss r0/\m1=j7 ss r1/\(∀r∈r0,Rf r)/\(∀r∈r1,Rf r)/\r0.length<=20/\r1.length<=20)/\Bent ss rs rs' m0 m1 ms) ?_ ?_
 ·have same:Bent ss rs rs' (j7 ss rs) (j7 ss rs') "none":=.same
  by_cases hw:way=1\/way=3
  rotate_left
  ·have i6:z5 (.int way) (.tup [.int 1,.int 3])=some (.bl false):=by
    rcases(show way=0\/way=2 by omega)with rfl|rfl<;>rfl
   simp![i6];exact⟨_,_,_,_,_,rfl,⟨rs,rs',rfl,rfl,hrf,lv,⋯,⋯⟩,same⟩
  have i6:z5 (.int way) (.tup [.int 1,.int 3])=some (.bl true):=by
   rcases hw with rfl|rfl<;>rfl
  have on:jJ (.int (cell / 100)) (.int 3)=some (.int (cell / 100 % 3)):=mod_i ⋯;have c0:=Y4 cell (show(2:Int)≠0 by decide);have c1:=Xr cell (show(0:Int)<2 by decide);have lf:jJ (.int cell) (.int 2)=some (.int (cell % 2)):=mod_i ⋯;obtain⟨ra,rb,n,m,x1,x2,x3,x4,x5,x6,x7,x8,x9⟩:∃(ra rb:List D) (n m:Nat),jK (.lst [j7 ss rs,j7 ss rs']) (.int (cell % 2))=some (j7 ss ra)/\(∀r∈ra,Rf r)/\(∀r∈rb,Rf r)/\ra.length<=12/\rb.length<=12/\(∀g,jK (.lst ([j7 ss rs,j7 ss rs'].set n g)) (.int (1 - cell % 2))=some (j7 ss rb))/\Q.ixN 2 (cell % 2)=some n/\(∀g,Q.ixN ([j7 ss rs,j7 ss rs'].set n g).length (1 - cell % 2)=some m) /\
    ∀g g',(∀r∈g,Rf r)->(∀r∈g',Rf r)->g.length<=20->g'.length<=20->wV g=false->(∃r0 r1,([j7 ss rs,j7 ss rs'].set n (j7 ss g)).set m (j7 ss g')=[j7 ss r0,j7 ss r1]/\(g'=rb->[j7 ss rs,j7 ss rs'].set n (j7 ss g)=[j7 ss r0,j7 ss r1])/\(∀r∈r0,Rf r)/\(∀r∈r1,Rf r)/\r0.length<=20/\r1.length<=20/\(wV r0=false\/wV r1=false)):=by
   rcases(show cell % 2=0\/cell % 2=1 by omega)with h2|h2
   ·rw[h2];exact⟨rs,rs',0,1,rfl,hrf,lv,⋯,⋯,λ_=>rfl,rfl,λ_=>rfl,λg g' a b c d e=>⟨g,g',rfl,λh=>by rw[h];rfl,a,b,c,d,.inl e⟩⟩
   ·rw[h2];exact⟨rs',rs,1,0,rfl,lv,hrf,⋯,⋯,λ_=>rfl,rfl,λ_=>rfl,λg g' a b c d e=>⟨g',g,rfl,λh=>by rw[h];rfl,b,a,d,c,.inr e⟩⟩
  generalize cell % 2=j at *;simp![i6];refine kw0 ?_;simp![lf,x1];refine(kq3 _ hs3 x2 x4).use ?_;rintro g0 ⟨a1,a2,a3⟩;simp![lf];refine⟨rfl,_,_,_,n,rfl,⋯,rfl,x7,?_⟩
  by_cases h3:cell / 100 % 3=0
  ·have e3:fEq (.int (cell / 100 % 3)) (.int 0)=some (.bl true):=by rw[h3];rfl
   have x6:=x6 (j7 ss g0);have x8:=x8 (j7 ss g0);have x9:=λg'=>x9 g0 g' a1
   generalize [j7 ss rs,j7 ss rs'].set n (j7 ss g0)=xs at *;simp![on,e3];refine kw0 ?_;simp![lf,x6];refine(kq3 _ hs3 x3 x5).use ?_;rintro g1 ⟨b1,b2,b3⟩;simp![lf];obtain⟨r0,r1,y1,_,y3,y4,y5,y6,y7⟩:=x9 g1 b1 a3 b3 a2;refine⟨rfl,_,_,_,m,rfl,⋯,rfl,x8,?_⟩;rw[y1];simp![];exact⟨_,_,_,_,_,rfl,⟨r0,r1,rfl,rfl,y3,y4,y5,y6⟩,.great y3 y4 y5 y6 y7⟩
  ·have e3:fEq (.int (cell / 100 % 3)) (.int 0)=some (.bl false):=by rw[QZ,Ya h3]
   obtain⟨r0,r1,_,y1,y3,y4,y5,y6,y7⟩:=x9 g0 rb a1 x3 a3 ⋯ a2;rw[y1 rfl];simp![on,e3];exact⟨_,_,_,_,_,rfl,⟨r0,r1,rfl,rfl,y3,y4,y5,y6⟩,.great y3 y4 y5 y6 y7⟩
 rintro E ⟨m0,m1,ms,o6,o8,rfl,⟨r0,r1,rfl,rfl,hr0,hr1,hl0,gr⟩,hB⟩;generalize hR:j4 (sIf (tE (cF2 (pu2 wq) (vV 4) _)) _ _) _=R;have ni:=Y4 (cell / 7) (show(2:Int)≠0 by decide);have nh:=Xr (cell / 7) (show(0:Int)<2 by decide);have hma:jJ (.int (cell / 7)) (.int 2)=some (.int (cell / 7 % 2)):=mod_i ⋯;generalize cell / 7 % 2=b5 at ni nh hma;have h0:jK (.lst [j7 ss r0,j7 ss r1]) (.int 0)=some (j7 ss r0):=rfl;have h1:jK (.lst [j7 ss r0,j7 ss r1]) (.int 1)=some (j7 ss r1):=rfl;obtain⟨r,jb,og,hrl⟩:∃r:List D,jK (.lst [j7 ss r0,j7 ss r1]) (.int b5)=some (j7 ss r)/\(∀x∈r,Rf x)/\r.length<=20:=by
  rcases(show b5=0\/b5=1 by omega)with rfl|rfl
  ·exact⟨r0,h0,hr0,hl0⟩
  ·exact⟨r1,h1,hr1,gr⟩
 have key:∀E:En,(∃(m0 m1:D) (ms:Str) (o6 o8 o9:Own),E=[some (.no,iL ns),some (.no,sL ss),some (.no,j7 ss rs),some (.no,j7 ss rs'),some (ow,.str w),some (.dp,.int way),some (o6,.int cell),some (.rt,.lst [m0,m1]),some (o8,.str ms),some (o9,.int b5),none,none,none,none]/\Bent ss rs rs' m0 m1 ms)->Po (R E) (λx=>False) (λx=>False) (λy=>y.2=.bl true) noX:=by
  rintro E ⟨m0,m1,ms,o6,o8,o9,rfl,hB⟩;subst hR;clear jb og hrl r;have hf:m0.flat 39=true/\m1.flat 39=true/\(∃a b,m0=.tup [.lst a,.lst b])/\∃a b,m1=.tup [.lst a,.lst b]:=by
   cases hB with| same=>exact⟨YK hrf,YK lv,⟨_,_,rfl⟩,_,_,rfl⟩| great a b=>exact⟨YK a,YK b,⟨_,_,rfl⟩,_,_,rfl⟩| unlike a b=>exact⟨YK a,YK b,⟨_,_,rfl⟩,_,_,rfl⟩
  obtain⟨f0,f1,⟨a0,b0,e0⟩,a1,b1,e1⟩:=hf;generalize hR:j4 (j9 10 _) _=R;have pz:∀(gc:Str) (E:En),(∃(o4 o6 o8 o9:Own),E=[some (.no,iL ns),some (.no,sL ss),some (.no,j7 ss rs),some (.no,j7 ss rs'),some (o4,.str w),some (.dp,.int way),some (o6,.int cell),some (.rt,.lst [m0,m1]),some (o8,.str gc),some (o9,.int b5),none,none,none,none])->Oo Qw [(.no,.str w),(.no,m0),(.no,m1)] (λy=>∃p:Own×Str,y=(p.1,.str p.2)/\(p.2=gc\/(gc="none"/\p.2="great"))) noX->Po (R E) (λx=>False) (λx=>False) (λy=>y.2=.bl true) noX:=by
   rintro gc E ⟨o4,o6,o8,o9,rfl⟩ hto;subst hR;obtain⟨y,⟨p,rfl,hp⟩,hdet⟩:=vq3 hto;have q0:∀a b:D,jK (.tup [a,b]) (.int 0)=some a:=λ_ _=>rfl
   have q1:∀a b:D,jK (.tup [a,b]) (.int 1)=some b:=λ_ _=>rfl
   have l0:∀a b:D,jK (.lst [a,b]) (.int 0)=some a:=λ_ _=>rfl
   have l1:∀a b:D,jK (.lst [a,b]) (.int 1)=some b:=λ_ _=>rfl
   have bk:∀E:En,back [] [] (clr [] E)=E:=λ_=>rfl
   have js:(D.lst [m0,m1]).flat 40=true:=by simp only[D.flat,D.flats,f0,f1,Bool.and_self]
   have bj:=kxz js;have nstr:∀a b:Str,fNe (.str a) (.str b)=some (.bl (!(a==b))):=λ_ _=>rfl
   have es:fEq (.str p.2) (.str p.2)=some (.bl true):=by show some (D.bl (p.2==p.2))=_;simp
   simp![];refine JY [] (λd y=>y.2=d) ?_;simp![];refine⟨λd hd=>?_,λys hy=>?_⟩
   ·simp only[Y1,Xm,or_false]at hd;rcases hd with rfl|rfl
    ·rw[e0];simp![q0,q1,xY (o:=.no) (xs:=a0) ⋯,xY (o:=.no) (xs:=b0) ⋯];exact⟨⟨_,rfl⟩,trivial⟩
    ·rw[e1];simp![q0,q1,xY (o:=.no) (xs:=a1) ⋯,xY (o:=.no) (xs:=b1) ⋯];exact⟨⟨_,rfl⟩,trivial⟩
   rw[xx,Qz (h:=λd=>d) (λ_ _ h=>h) hy,bk,List.map_id'];simp![l0,l1];refine hdet.via ?_;intro y hy;subst hy;refine ZQ (λE=>E=[some (.no,iL ns),some (.no,sL ss),some (.no,j7 ss rs),some (.no,j7 ss rs'),some (.no,.str w),some (.dp,.int way),some (o6,.int cell),some (.no,.lst [m0,m1]),some (o8,.str gc),some (o9,.int b5),some (.rt,.lst [m0,m1]),some (p.1,.str p.2),none,none]) ?_ ?_
   ·rcases hp with hp|⟨pe,hp2⟩
    ·have n1:fNe (.str p.2) (.str gc)=some (.bl false):=by rw[nstr,hp];simp
     simp![bj,n1]
    ·have n1:fNe (.str p.2) (.str gc)=some (.bl true):=by rw[pe,hp2];rfl
     have n2:fNe (.str gc) (.str "none")=some (.bl false):=by rw[pe];rfl
     have n3:fNe (.str p.2) (.str "great")=some (.bl false):=by rw[hp2];rfl
     simp![bj,n1,n2,n3]
   rintro E rfl;simp![];refine JY [some (.no,sL ss)] (λd y=>y.2=j7 ss [Jj ss (JV d==1)]) ?_;simp![];refine⟨rfl,λd hd=>?_,λys hy=>?_⟩
   ·obtain⟨k,k0,k1,rfl⟩:=kz3 hd;simp![xY (o:=.no) (xs:=ss.map D.str) ⋯,QZ (a:=k) (b:=1)];refine JY [] (λ_ y=>y.2=.lst [.tup [.int 0,.tup []]]) ?_;simp![];refine⟨λd hd=>⟨⟨_,rfl⟩,trivial⟩,λys hy=>?_⟩;rw[xx,Qz (h:=λ_=>D.lst [.tup [.int 0,.tup []]]) (λ_ _ h=>h) hy,bk];simp![];refine⟨⟨_,rfl⟩,?_⟩;show j7 ss [D.tup [_,_,.lst ((ss.map D.str).map λ_=>D.lst [.tup [.int 0,.tup []]])]]=_;rw[Xs];rfl
   rw[xx,Qz (h:=λd=>j7 ss [Jj ss (JV d==1)]) (λ_ _ h=>h) hy];rw[show(k7 0 2).map (λd=>j7 ss [Jj ss (JV d==1)])=[j7 ss [Jj ss false],j7 ss [Jj ss true]]from rfl];simp only[back,clr,at',List.map_cons,List.map_nil,List.set_cons_zero,List.set_cons_succ];simp![];refine K5 (λE jq=>∃(ws:List Str) (o12:Own) (lz:Option Sd),E=[some (.no,iL ns),some (.no,sL ss),some (.no,j7 ss rs),some (.no,j7 ss rs'),some (.no,.str w),some (.dp,.int way),some (o6,.int cell),some (.no,.lst [m0,m1]),some (o8,.str gc),some (o9,.int b5),some (.rt,.lst [m0,m1]),some (p.1,.str p.2),some (.rt,.lst [j7 ss [Jj ss false],j7 ss [Jj ss true]]),lz]/\jq=ws.map D.str/\∀x∈ws,x∈WS) ?_ ?_ ?_
   ·simp![];exact⟨WS,.no,_,rfl,rfl,λ_ h=>h⟩
   ·rintro E d ds ⟨ws,o12,lz,rfl,bc,hws⟩;cases ws with
    |nil=>cases bc
    |cons x ws=>
     rw[List.map_cons]at bc;injection bc with e1 e2;subst e1 e2;have nn:fNe (.str "none") (.str "none")=some (.bl false):=rfl;simp![l0,l1];refine(qke (hws x X7) hs3 false true).via ?_;rintro y ⟨q,rfl,hq⟩;rw[hq];simp![nn];exact⟨ws,.no,_,rfl,rfl,λx' om=>hws x' (lc9 _ om)⟩
   ·rintro E ⟨ws,o12,lz,rfl,bc,hws⟩;simp![l0,l1];refine hdet.via ?_;intro y hy;subst hy;simp![es]
  by_cases hw:w∈WS
  ·have hnw:wq (.str w) (.tup [.str "both",.str "either",.str "first",.str "one"])=some (.bl false):=by
    simp only[Y1,Xm,or_false]at hw;rcases hw with rfl|rfl|rfl|rfl<;>rfl
   simp![hnw];refine pz _ _ ⟨_,_,_,_,rfl⟩ ?_;cases hB with
   | same=>
    have hj:=kwf hw hs3 k1 ⋯ k1' ⋯ hP hk cp cf;refine(jv6 (a:=True) (b:=False) (c:=True) (qw8 hj (λy _=>trivial) λc hc=>.inr ⟨hc.1,trivial⟩)).mono λy hy=>?_
    obtain⟨p,e,h⟩:=hy;rcases h with h|h|h
    ·exact⟨p,e,.inl h.1⟩
    ·exact h.2.elim
    ·exact⟨p,e,.inr ⟨rfl,h.1⟩⟩
   | great a b _ _ hsm=>
    refine(jv6 (a:=False) (b:=False) (c:=True) (qw8 (qwt hw a b hsm) (λy h=>h) λc hc=>.inr ⟨hc,trivial⟩)).mono λy hy=>?_
    obtain⟨p,e,h⟩:=hy;rcases h with h|h|h
    ·exact h.2.elim
    ·exact h.2.elim
    ·exact⟨p,e,.inl h.1⟩
   | unlike a b bj=>
    refine(jv6 (a:=False) (b:=True) (c:=False) (qw8 (jx9 (.inr bj)) (λy h=>h) λc hc=>.inl ⟨hc,trivial⟩)).mono λy hy=>?_
    obtain⟨p,e,h⟩:=hy;rcases h with h|h|h
    ·exact h.2.elim
    ·exact⟨p,e,.inl h.1⟩
    ·exact h.2.elim
  ·have hnw:wq (.str w) (.tup [.str "both",.str "either",.str "first",.str "one"])=some (.bl true):=by
    have:=@VQ w WS;have hz:(WS.any λx=>x==w)=false:=by
     rw[List.any_eq_false];intro x hx e;have e:x=w:=by simpa using e
     exact hw (e▸hx)
    rw[hz]at this;unfold wq at this ⊢;dsimp only[sL]at this ⊢;exact this
   simp![hnw];refine pz _ _ ⟨_,_,_,_,rfl⟩ ?_;have hj:Oo J.m_joined [(.no,.str w),(.no,m0),(.no,m1)] (λ_=>False) (λc=>c="NoFit"):=by
    cases hB with|same=>exact jx9 (.inl hw)|great=>exact jx9 (.inl hw)|unlike=>exact jx9 (.inl hw)
   refine(jv6 (a:=False) (b:=True) (c:=False) (qw8 hj (λy h=>h) λc hc=>.inl ⟨hc,trivial⟩)).mono λy hy=>?_
   obtain⟨p,e,h⟩:=hy;rcases h with h|h|h
   ·exact h.2.elim
   ·exact⟨p,e,.inl h.1⟩
   ·exact h.2.elim
 by_cases hw1:1<way
 rotate_left
 ·have hd:decide (1<way)=false:=Xh hw1;simp![hma,hd];exact key _ ⟨_,_,_,_,_,_,rfl,hB⟩
 have hd:decide (1<way)=true:=Xl hw1;obtain⟨y,⟨d,o',rfl,hoth⟩,hdet⟩:=vq3 (vja (ss:=ss) (rs:=r) (Jv ns 6) ku hs3 og hrl);simp![hma,hd,jb];refine(V9 ns 6 ⋯).use ?_;intro _ _;simp![];refine hdet.via ?_;intro y hy;subst hy;rcases hoth with rfl|⟨s',r',rfl,nw,hs3',hr',ln⟩
 ·simp![];exact key _ ⟨_,_,_,_,_,_,rfl,hB⟩
 ·simp![];refine kw0 ?_;simp![jb];refine(V9 ns 6 ⋯).use ?_;intro _ _;simp![];refine hdet.via ?_;intro y hy;subst hy;simp![];rcases(show b5=0\/b5=1 by omega)with rfl|rfl
  ·refine⟨rfl,_,_,_,0,rfl,⋯,rfl,rfl,?_⟩;simp![];exact key _ ⟨_,_,_,_,_,_,rfl,.unlike hr' hr1 nw⟩
  ·refine⟨rfl,_,_,_,1,rfl,⋯,rfl,rfl,?_⟩;simp![];exact key _ ⟨_,_,_,_,_,_,rfl,.unlike hr0 hr' (Ne.symm nw)⟩
theorem law_true(ns:List Int)(hl:ns.length<=63)(hb:∀i∈ns,Builtin.Int.intBits i<=1048576):∃E o,m_law [(.no,.lst (ns.map D.int))]=some (.ok E (o,.bl true)):=by
 obtain⟨E,⟨o,d⟩,h,hd⟩:=(wkm ns hl).out;have hd:d=.bl true:=hd;subst hd;exact⟨E,o,h⟩
end Nk63
namespace Nk63
open PySem L2 L3 Q
def top(i:Nat):Stmt:=PySem.Challenge.pw_freshrooms_k63_not_joined.main.body.getD i (.Pass ⟨0,0,0,0⟩)
abbrev jxu:Stmt:=top 14
abbrev kj9:Stmt:=top 15
abbrev jvu:Stmt:=top 26
abbrev jvb:Stmt:=top 23
abbrev jq4:Stmt:=top 19
abbrev jqw:Stmt:=top 20
abbrev jxt:Stmt:=top 25
abbrev kj8:Stmt:=top 24
abbrev kja:Stmt:=top 21
abbrev jqx:Stmt:=top 22
abbrev jvv:Stmt:=top 27
abbrev jvw:Stmt:=top 34
abbrev jvd:Stmt:=top 33
abbrev jvc:Stmt:=top 32
abbrev kqo:Stmt:=top 31
abbrev jv0:Stmt:=top 36
abbrev jve:Stmt:=top 37
abbrev jvx:Stmt:=top 38
abbrev jvz:Stmt:=top 39
abbrev jwt:Stmt:=top 40
abbrev jvy:Stmt:=top 41
abbrev jqz:Stmt:=top 42
abbrev jkv:Stmt:=top 43
abbrev jws:Stmt:=top 44
abbrev jqy:Stmt:=top 45
abbrev vv2:Stmt:=top 46
theorem kxl:FnScope ["plain"] ["plain"] (kW jxu):=mkS
theorem sc_read_by:FnScope ["plain","standing","sign","name","names","cases","case","held"] ["plain","standing","sign","name"] (kW kj9):=mkS
theorem kql:FnScope ["plain","room"] ["plain","room"] (kW jvu):=mkS
theorem kkc:FnScope ["room","names"] ["room","names"] (kW jvb):=mkS
theorem sc_first_standings:FnScope ["one","other","pair","own","shared","names","j"] ["one","other","pair"] (kW jq4):=mkS
theorem kj6:FnScope ["one","other","standings","sign","name"] ["one","other","standings","sign","name"] (kW jqw):=mkS
theorem kxk:FnScope ["standing"] ["standing"] (kW jxt):=mkS
theorem qkh:FnScope ["standing"] ["standing"] (kW kj8):=mkS
theorem sc_pair_of:FnScope ["standings","ours","theirs","shared"] ["standings"] (kW kja):=mkS
theorem sc_held_by_both:FnScope ["standings","ours"] ["standings"] (kW jqx):=mkS
theorem kqm:FnScope ["plain","room"] ["plain","room"] (kW jvv):=mkS
theorem kqn:FnScope ["word","ours","theirs"] ["word","ours","theirs"] (kW jvw):=mkS
theorem sc_joined_case:FnScope ["standings","numbers","pair"] ["standings","numbers"] (kW jvd):=mkS
theorem sc_joined_room:FnScope ["word","one","other","pair","numbers","standings","own","steps","sign","later"] ["word","one","other","pair","numbers"] (kW jvc):=mkS
theorem sc_joined:FnScope ["word","one","other","numbers","rooms"] ["word","one","other"] (kW kqo):=mkS
theorem kj7:FnScope ["_law_script","_law_k"] ["_law_script","_law_k"] (kW jv0):=mkS
theorem sc__law_stream:FnScope ["_law_cell","_law_many","_law_found","_law_k","_law_number"] ["_law_cell","_law_many"] (kW jve):=mkS
theorem sc__law_signs:FnScope ["_law_cell","_law_letters","_law_xs","_law_base","_law_at","_law_found","_law_k"] ["_law_cell"] (kW jvx):=mkS
theorem sc__law_fills:FnScope ["_law_number","_law_need","_law_free","_law_pool","_law_found","_law_k"] ["_law_number","_law_need","_law_free"] (kW jvz):=mkS
theorem sc__law_case:FnScope ["_law_number","_law_sizes","_law_free","_law_rooms","_law_to"] ["_law_number","_law_sizes","_law_free"] (kW jwt):=mkS
theorem sc__law_plain:FnScope ["_law_cell","_law_signs_here","_law_xs","_law_many","_law_most","_law_sizes","_law_rooms","_law_at","_law_room","_law_steps","_law_s","_law_cases","_law_i"] ["_law_cell","_law_signs_here"] (kW jvy):=mkS
theorem sc__law_greater:FnScope ["_law_plain_here","_law_cell","_law_rooms","_law_keepers"] ["_law_plain_here","_law_cell"] (kW jqz):=mkS
theorem sc__law_other_signs:FnScope ["_law_plain_here","_law_cell","_law_signs_here","_law_at","_law_kept","_law_rooms","_law_word_here","_law_letter"] ["_law_plain_here","_law_cell"] (kW jkv):=mkS
theorem sc__law_word:FnScope ["_law_cell","_law_words","_law_word_here","_law_some"] ["_law_cell"] (kW jws):=mkS
theorem sc__law_refused:FnScope ["_law_word_here","_law_one","_law_other","_law_found","e","_law_others"] ["_law_word_here","_law_one","_law_other"] (kW jqy):=mkS
theorem sc_law:FnScope ["_law_script","_law_signs_here","_law_one","_law_other","_law_word_here","_law_way","_law_cell","_law_bent","_law_due","_law_at","_law_kept","_law_told","_law_small","_law_known"] ["_law_script"] (kW vv2):=mkS
structure Txt (K:Frag)(mg:Str->Option Value)(ac a7 ae ao a9 ag ak ah aa a8:Addr):Prop where
 b_ValueError:mg "ValueError"=none
 b_all:mg "all"=none
 b_dict:mg "dict"=none
 b_enumerate:mg "enumerate"=none
 b_int:mg "int"=none
 b_isinstance:mg "isinstance"=none
 b_len:mg "len"=none
 b_list:mg "list"=none
 b_range:mg "range"=none
 b_set:mg "set"=none
 b_sorted:mg "sorted"=none
 b_tuple:mg "tuple"=none
 c_SMALL_ROOMS:Cst mg "SMALL_ROOMS" (V.int (12))
 c_SMALL_KEEPERS:Cst mg "SMALL_KEEPERS" (V.int (3))
 c_NOWHERE:Cst mg "NOWHERE" (V.int (-1))
 c_FIRST_PAIR:wxl K mg "FIRST_PAIR" (.tup [(.int 0),(.int 0),(.tup [])])
 c_WORDS:wxl K mg "WORDS" (.tup [(.str "both"),(.str "either"),(.str "first"),(.str "one")])
 c_MOST_ROOMS:Cst mg "MOST_ROOMS" (V.int (40))
 n_NoFit:nsIn K mainGlobals "NoFit"=some (some (.ref ac))
 m_NoFit:mg "NoFit"=some (.ref ac)
 e_NoFit:ECls K mg "NoFit" ac
 n_TooGreat:nsIn K mainGlobals "TooGreat"=some (some (.ref a7))
 m_TooGreat:mg "TooGreat"=some (.ref a7)
 e_TooGreat:ECls K mg "TooGreat" a7
 n_RoomError:nsIn K mainGlobals "RoomError"=some (some (.ref ae))
 m_RoomError:mg "RoomError"=some (.ref ae)
 n_NoWay:nsIn K mainGlobals "NoWay"=some (some (.ref ao))
 m_NoWay:mg "NoWay"=some (.ref ao)
 n_NotSingle:nsIn K mainGlobals "NotSingle"=some (some (.ref a9))
 m_NotSingle:mg "NotSingle"=some (.ref a9)
 n_NoText:nsIn K mainGlobals "NoText"=some (some (.ref ag))
 m_NoText:mg "NoText"=some (.ref ag)
 n_NoRow:nsIn K mainGlobals "NoRow"=some (some (.ref ak))
 m_NoRow:mg "NoRow"=some (.ref ak)
 n_NoName:nsIn K mainGlobals "NoName"=some (some (.ref ah))
 m_NoName:mg "NoName"=some (.ref ah)
 n_NoMachine:nsIn K mainGlobals "NoMachine"=some (some (.ref aa))
 m_NoMachine:mg "NoMachine"=some (.ref aa)
 n_NoExchange:nsIn K mainGlobals "NoExchange"=some (some (.ref a8))
 m_NoExchange:mg "NoExchange"=some (.ref a8)
 h_TooGreat_RoomError:PySem.W.exmOne K (.ref a7) (.ref ae)=some true
 h_NoFit_RoomError:PySem.W.exmOne K (.ref ac) (.ref ae)=some true
 i_TooGreat_TooGreat:kitOne K (.ref a7) (.ref a7)=some true
 i_NoFit_TooGreat:kitOne K (.ref ac) (.ref a7)=some false
 i_TooGreat_ValueError:kitOne K (.ref a7) (.type "ValueError")=some true
 i_NoFit_ValueError:kitOne K (.ref ac) (.type "ValueError")=some true
 i_TooGreat_NoFit:kitOne K (.ref a7) (.ref ac)=some false
 i_NoFit_NoFit:kitOne K (.ref ac) (.ref ac)=some true
 i_TooGreat_NoWay:kitOne K (.ref a7) (.ref ao)=some false
 i_TooGreat_NotSingle:kitOne K (.ref a7) (.ref a9)=some false
 i_TooGreat_NoText:kitOne K (.ref a7) (.ref ag)=some false
 i_TooGreat_NoRow:kitOne K (.ref a7) (.ref ak)=some false
 i_TooGreat_NoName:kitOne K (.ref a7) (.ref ah)=some false
 i_TooGreat_NoMachine:kitOne K (.ref a7) (.ref aa)=some false
 i_TooGreat_NoExchange:kitOne K (.ref a7) (.ref a8)=some false
 i_NoFit_NoWay:kitOne K (.ref ac) (.ref ao)=some false
 i_NoFit_NotSingle:kitOne K (.ref ac) (.ref a9)=some false
 i_NoFit_NoText:kitOne K (.ref ac) (.ref ag)=some false
 i_NoFit_NoRow:kitOne K (.ref ac) (.ref ak)=some false
 i_NoFit_NoName:kitOne K (.ref ac) (.ref ah)=some false
 i_NoFit_NoMachine:kitOne K (.ref ac) (.ref aa)=some false
 i_NoFit_NoExchange:kitOne K (.ref ac) (.ref a8)=some false
section
variable (P:Program)(w:PySem.World)(K:Frag)(mg:Str->Option Value)(base:Heap)
abbrev kqd:=kZ P w K mg base 1 "is_small" ["plain"] (spF K mg 1 m_is_small)
abbrev kxb:=kZ P w K mg base 1 "read_by" ["plain","standing","sign","name"] (spF K mg 4 m_read_by)
abbrev jze:=kZ P w K mg base 1 "keepers_in" ["plain","room"] (spF K mg 2 m_keepers_in)
abbrev jxl:=kZ P w K mg base 1 "standing_in" ["room","names"] (spF K mg 2 m_standing_in)
abbrev jv8:=kZ P w K mg base 2 "first_standings" ["one","other","pair"] (spF K mg 3 m_first_standings)
abbrev jwn:=kZ P w K mg base 2 "read_by_both" ["one","other","standings","sign","name"] (spF K mg 5 m_read_by_both)
abbrev jz9:=kZ P w K mg base 1 "names_of" ["standing"] (spF K mg 1 m_names_of)
abbrev kxa:=kZ P w K mg base 1 "room_of" ["standing"] (spF K mg 1 m_room_of)
abbrev kxc:=kZ P w K mg base 2 "pair_of" ["standings"] (spF K mg 1 m_pair_of)
abbrev jv3:=kZ P w K mg base 2 "held_by_both" ["standings"] (spF K mg 1 m_held_by_both)
abbrev jzf:=kZ P w K mg base 1 "is_good_in" ["plain","room"] (spF K mg 2 m_is_good_in)
abbrev jzg:=kZ P w K mg base 1 "is_good_by" ["word","ours","theirs"] (spF K mg 3 m_is_good_by)
abbrev jxn:=kZ P w K mg base 3 "joined_case" ["standings","numbers"] (spM K mg 1 m_joined_case)
abbrev jxm:=kZ P w K mg base 4 "joined_room" ["word","one","other","pair","numbers"] (spM K mg 4 m_joined_room)
abbrev qk5:=kZ P w K mg base 5 "joined" ["word","one","other"] (spF K mg 3 m_joined)
abbrev jwq:=kZ P w K mg base 1 "_law_cell_at" ["_law_script","_law_k"] (spF K mg 2 m__law_cell_at)
abbrev jvl:=kZ P w K mg base 1 "_law_stream" ["_law_cell","_law_many"] (spF K mg 2 m__law_stream)
abbrev jzh:=kZ P w K mg base 2 "_law_signs" ["_law_cell"] (spF K mg 1 m__law_signs)
abbrev jzj:=kZ P w K mg base 1 "_law_fills" ["_law_number","_law_need","_law_free"] (spF K mg 3 m__law_fills)
abbrev kk8:=kZ P w K mg base 2 "_law_case" ["_law_number","_law_sizes","_law_free"] (spF K mg 3 m__law_case)
abbrev jzi:=kZ P w K mg base 3 "_law_plain" ["_law_cell","_law_signs_here"] (spF K mg 2 m__law_plain)
abbrev jwp:=kZ P w K mg base 1 "_law_greater" ["_law_plain_here","_law_cell"] (spF K mg 2 ZK)
abbrev jqu:=kZ P w K mg base 1 "_law_other_signs" ["_law_plain_here","_law_cell"] (spF K mg 2 YV)
abbrev kk7:=kZ P w K mg base 1 "_law_word" ["_law_cell"] (spF K mg 1 jqo)
abbrev jwo:=kZ P w K mg base 6 "_law_refused" ["_law_word_here","_law_one","_law_other"] (spF K mg 3 Qw)
end
section
variable {ac a7 ae ao a9 ag ak ah aa a8:Addr}
variable {P:Program}{w:PySem.World}{K:Frag}{mg:Str->Option Value}{base:Heap}{f:Addr}{fd:FuncData}
theorem kxx(T:Txt K mg ac a7 ae ao a9 ag ak ah aa a8)  (F:Fun K "is_small" "is_small" jxu f fd):FnOk P w K mg base (CXE P w) 1 f fd ["plain"] (spF K mg 1 m_is_small):=
 v3 F kxl (v7 rfl) λbi A outer s H vs Q E hr h=>v8 rfl
  (jx (kQ (qzt (j5 (K4 vw1 (zX (g:=λa b=>decide (a<=b))) (j5 (qL (kx (vv 0) ki) T.b_len)) (j5 (q_C (Kq T.c_SMALL_ROOMS) (λ_=>vX))) (k8 _))) (kvz (wjd (vx7 K) wqx (j5 (qM .rt 1 [] 1 ["room"] (zz (jV (kx (vv 0) ki))) (λ_ _ _ _ _=>(K4 vw1 (zX (g:=λa b=>decide (a<=b))) (kx (vv 0) ki) (j5 (q_C (Kq T.c_SMALL_KEEPERS) (λ_=>vX))) (k8 _))))) T.b_all wqn))))) h
theorem qkw(T:Txt K mg ac a7 ae ao a9 ag ak ah aa a8)  (F:Fun K "read_by" "read_by" kj9 f fd):FnOk P w K mg base (CXE P w) 1 f fd ["plain","standing","sign","name"] (spF K mg 4 m_read_by):=
 v3 F sc_read_by (v7 rfl) λbi A outer s H vs Q E hr h=>have nd:=sc_read_by.nd;v8 rfl
  (jk (qZ (QW.pt (qvf (kq qj9 qk3 (vv 1) kn (k8 _) qjz) (kvy (kq (jzv hr.units) kj1 (vv 2) (kx (vv 0) ki) (by rfl) kj0)))) (jx (kQ kN)) v9) (jk (qA nd (jV (kx (vv 1) ki))) (jk (qA nd (jV (kx (kx (kx (kx (vv 0) ki) (kx (vv 1) ki)) ki) (j5 (kxr hr.units (kx (vv 0) ki) (vv 2)))))) (jk (qA nd (jV (kx (vv 5) (j5 (ZY (kq (vw5 hr.units) vxk (vv 3) (vv 4) (by rfl) vxf) (kxr hr.units (vv 4) (vv 3)) (qL (vv 4) T.b_len)))))) (jk (qZ (kq qj9 qk3 (vv 6) kn (k8 _) qjz) (jx (kQ kN)) v9) (jk (qA nd (oA (vv 4) (j5 (qz (o:=.no) (j3 (cv 3) jv))))) (jx (kQ (qz (o:=.no) (j3 (jV (kx (vv 6) ki)) (j3 (qT (j5 (qM .rt 1 [7] 8 ["fill","held"] (zz (jV (kx (vv 6) ki))) (λ_ _ _ _ _=>(jV (kx (vv 1) (vv 0)))))) T.b_tuple) jv))))))))))) h
theorem kqt(T:Txt K mg ac a7 ae ao a9 ag ak ah aa a8)  (F:Fun K "keepers_in" "keepers_in" jvu f fd):FnOk P w K mg base (CXE P w) 1 f fd ["plain","room"] (spF K mg 2 m_keepers_in):=
 v3 F kql (v7 rfl) λbi A outer s H vs Q E hr h=>v8 rfl
  (jx (kQ (ZY (kq (wY hr.units) wX (vv 1) (j5 (q_C (Kq T.c_NOWHERE) (λ_=>vX))) (k8 _) zK) kI (jV (kx (kx (kx (vv 0) ki) (vv 1)) ki))))) h
theorem kkh(T:Txt K mg ac a7 ae ao a9 ag ak ah aa a8)  (F:Fun K "standing_in" "standing_in" jvb f fd):FnOk P w K mg base (CXE P w) 1 f fd ["room","names"] (spF K mg 2 m_standing_in):=
 v3 F kkc (v7 rfl) λbi A outer s H vs Q E hr h=>v8 rfl
  (jx (kQ (ZY (kq (wY hr.units) wX (vv 0) (j5 (q_C (Kq T.c_NOWHERE) (λ_=>vX))) (k8 _) zK) kN (qz (o:=.no) (j3 (cv 0) (j3 (qT (vv 1) T.b_tuple) jv)))))) h
theorem jx5(T:Txt K mg ac a7 ae ao a9 ag ak ah aa a8)(bt:jze P w K mg base)(bg:jxl P w K mg base)(F:Fun K "first_standings" "first_standings" jq4 f fd):FnOk P w K mg base (CXE P w) 2 f fd ["one","other","pair"] (spF K mg 3 m_first_standings):=
 v3 F sc_first_standings (v7 rfl) λbi A outer s H vs Q E hr h=>have nd:=sc_first_standings.nd;v8 rfl
  (jk (qA nd (qC bt hr (j3 (cv 0) (j3 (jV (kx (vv 2) ki)) jv)))) (jk (qA nd (xJ (qxu K) vkf (j5 (qm .rt 2 [] 7 ["i","j"] (zz (jV (kx (vv 2) ki))) (λhN _ _ _ _ _=>(ww8 (is:=[0,1]) (qvs K (t:=gNs [0,1]) (n:=2) (Wz (xW (i:=0) hN rfl (by trivial)) (Wz (xW (i:=1) hN rfl (by trivial)) kxt))))) (λ_ _ _ _ _=>Zx) (λ_ _ _ _ _=>(qz (o:=.no) (j3 (cv 1) (j3 (cv 0) jv)))))) T.b_dict vxb)) (jk (qA nd (vq (o:=.rt) jv)) (jk (qF (J9 (j5 (qC bt hr (j3 (cv 1) (j3 (jV (kx (vv 2) ki)) jv)))) rfl T.b_range) (gN nd) (jx (qP (ZY (kq (wwo hr.units) wqv (vv 6) (vv 4) (by rfl) wqo) (jV (ww5 hr.units (vv 4) (vv 6) (λ_ _=>rfl))) (oA (vv 3) (j5 (qL (j5 (ww4 (o:=.rt) (k:=1) (R:=[3]) ["name","own"] (ww6 (pv 5)) (λ_ _ _ _ _=>(Vk (xW (i:=0) (show(["name","own"]:List Str).Nodup by decide +kernel) rfl (by trivial)))) (λ_ _ _ _ _=>(qzs (kq wwn (zX (g:=λa b=>decide (b<=a))) (vv 0) (vv 1) (k8 _) K0))) (λ_ _ _ _ _=>(cv 0)) xV ⟨_,_,rfl,rfl⟩ ⋯ (show ∀j∈([3]:List Nat) ,j<7 by decide))) T.b_len))))))) (jx (kQ (qz (o:=.no) (j3 (qC bg hr (j3 (jV (kx (vv 2) ki)) (j3 (wj8 (vv 3) T.b_range T.b_list) jv))) (j3 (vvb bg (hr.mono ⋯) xV (wje (kx (vv 2) ki) (wje (vv 5) wwa))) jv))))))))) h
theorem kjf(T:Txt K mg ac a7 ae ao a9 ag ak ah aa a8)(da:kxb P w K mg base)(F:Fun K "read_by_both" "read_by_both" jqw f fd):FnOk P w K mg base (CXE P w) 2 f fd ["one","other","standings","sign","name"] (spF K mg 5 m_read_by_both):=
 v3 F kj6 (v7 rfl) λbi A outer s H vs Q E hr h=>v8 rfl
  (jx (kQ (qz (o:=.no) (j3 (qC da hr (j3 (cv 0) (j3 (jV (kx (vv 2) ki)) (j3 (cv 3) (j3 (cv 4) jv))))) (j3 (qC da hr (j3 (cv 1) (j3 (jV (kx (vv 2) ki)) (j3 (cv 3) (j3 (cv 4) jv))))) jv))))) h
theorem kxw(T:Txt K mg ac a7 ae ao a9 ag ak ah aa a8)  (F:Fun K "names_of" "names_of" jxt f fd):FnOk P w K mg base (CXE P w) 1 f fd ["standing"] (spF K mg 1 m_names_of):=
 v3 F kxk (v7 rfl) λbi A outer s H vs Q E hr h=>v8 rfl
  (jx (kQ (ZY (kq qj9 qk3 (vv 0) kn (k8 _) qjz) (qz (o:=.no) jv) (jV (kx (vv 0) ki))))) h
theorem qkv(T:Txt K mg ac a7 ae ao a9 ag ak ah aa a8)  (F:Fun K "room_of" "room_of" kj8 f fd):FnOk P w K mg base (CXE P w) 1 f fd ["standing"] (spF K mg 1 m_room_of):=
 v3 F qkh (v7 rfl) λbi A outer s H vs Q E hr h=>v8 rfl
  (jx (kQ (ZY (kq qj9 qk3 (vv 0) kn (k8 _) qjz) (q_C (Kq T.c_NOWHERE) (λ_=>vX)) (jV (kx (vv 0) ki))))) h
theorem qkx(T:Txt K mg ac a7 ae ao a9 ag ak ah aa a8)(b9:jz9 P w K mg base)(db:kxa P w K mg base)(F:Fun K "pair_of" "pair_of" kja f fd):FnOk P w K mg base (CXE P w) 2 f fd ["standings"] (spF K mg 1 m_pair_of):=
 v3 F sc_pair_of (v7 rfl) λbi A outer s H vs Q E hr h=>have nd:=sc_pair_of.nd;v8 rfl
  (jk (qA nd (qC b9 hr (j3 (jV (kx (vv 0) ki)) jv))) (jk (qA nd (qC b9 hr (j3 (jV (kx (vv 0) ki)) jv))) (jk (XY (i:=3) (o:=.rt) (k:=2) (R:=[2]) ["i","name","theirs"] nd rfl (by trivial) (vv9 (cv 1) rfl T.b_enumerate) (λ_ _ _ _ _=>(ww8 (is:=[0,1]) (qvs K (t:=gNs [0,1]) (n:=2) (Wz (xW (i:=0) (show(["i","name","theirs"]:List Str).Nodup by decide +kernel) rfl (by trivial)) (Wz (xW (i:=1) (show(["i","name","theirs"]:List Str).Nodup by decide +kernel) rfl (by trivial)) kxt))))) (λ_ _ _ _ _=>(qzs (kq (vw5 hr.units) vxk (vv 1) (vv 2) (by rfl) vxf))) (λ_ _ _ _ _=>(qz (o:=.no) (j3 (cv 0) (j3 (kxr hr.units (vv 2) (vv 1)) jv)))) xV ⟨_,_,rfl,rfl⟩ ⋯ (show ∀j∈([2]:List Nat) ,j<4 by decide)) (jx (kQ (qz (o:=.no) (j3 (qC db hr (j3 (jV (kx (vv 0) ki)) jv)) (j3 (qC db hr (j3 (jV (kx (vv 0) ki)) jv)) (j3 (qT (vv 3) T.b_tuple) jv))))))))) h
theorem kjg(T:Txt K mg ac a7 ae ao a9 ag ak ah aa a8)(b9:jz9 P w K mg base)(F:Fun K "held_by_both" "held_by_both" jqx f fd):FnOk P w K mg base (CXE P w) 2 f fd ["standings"] (spF K mg 1 m_held_by_both):=
 v3 F sc_held_by_both (v7 rfl) λbi A outer s H vs Q E hr h=>have nd:=sc_held_by_both.nd;v8 rfl
  (jk (qA nd (qC b9 hr (j3 (jV (kx (vv 0) ki)) jv))) (jx (kQ (oA (vv 1) (j5 (qT (j5 (qm .rt 1 [1] 2 ["name","ours"] (zz (qC b9 hr (j3 (jV (kx (vv 0) ki)) jv))) (λhN _ _ _ _ _=>(Vk (xW (i:=0) hN rfl (by trivial)))) (λ_ _ _ _ _=>(qzs (kq (jzv hr.units) kj1 (vv 0) (vv 1) (by rfl) kj0))) (λ_ _ _ _ _=>(cv 0)))) T.b_tuple)))))) h
theorem kqu(T:Txt K mg ac a7 ae ao a9 ag ak ah aa a8)  (F:Fun K "is_good_in" "is_good_in" jvv f fd):FnOk P w K mg base (CXE P w) 1 f fd ["plain","room"] (spF K mg 2 m_is_good_in):=
 v3 F kqm (v7 rfl) λbi A outer s H vs Q E hr h=>v8 rfl
  (jx (kQ (qzt (j5 (K4 (KQ hr.units) Kz (vv 1) (j5 (q_C (Kq T.c_NOWHERE) (λ_=>vX))) (k8 _))) (kvz (jV (kx (kx (kx (vv 0) ki) (vv 1)) ki)))))) h
theorem kqv(T:Txt K mg ac a7 ae ao a9 ag ak ah aa a8)  (F:Fun K "is_good_by" "is_good_by" jvw f fd):FnOk P w K mg base (CXE P w) 1 f fd ["word","ours","theirs"] (spF K mg 3 m_is_good_by):=
 v3 F kqn (v7 rfl) λbi A outer s H vs Q E hr h=>v8 rfl
  (jk (qZ (kq (wY hr.units) wX (vv 0) ks (k8 _) zK) (jx (kQ (qzt (vv 1) (kvz (cv 2))))) v9) (jk (qZ (kq (wY hr.units) wX (vv 0) ks (k8 _) zK) (jx (kQ (q_or (vv 1) (kvz (cv 2))))) v9) (jk (qZ (kq (wY hr.units) wX (vv 0) ks (k8 _) zK) (jx (kQ (qzt (vv 1) (kvz (ww2 (vv 2)))))) v9) (jx (kQ (K4 (KQ hr.units) Kz (vv 1) (vv 2) (k8 _))))))) h
theorem kkj(T:Txt K mg ac a7 ae ao a9 ag ak ah aa a8)(dw:kxc P w K mg base)(b6:jv3 P w K mg base)(F:Fun K "joined_case" "joined_case" jvd f fd):FnOk P w K mg base (CXE P w) 3 f fd ["standings","numbers"] (spM K mg 1 m_joined_case):=
 v3 F sc_joined_case (qqv rfl) λbi A outer s H vs Q E hr h=>have nd:=sc_joined_case.nd;qx6 rfl
  (jk (qA nd (qC dw hr (j3 (cv 0) jv))) (jk (qZ (kq (wY hr.units) wX (vv 2) (j5 (qz (o:=.no) (j3 (q_C (Kq T.c_NOWHERE) (λ_=>vX)) (j3 (q_C (Kq T.c_NOWHERE) (λ_=>vX)) (j3 (qz (o:=.no) jv) jv))))) (k8 _) zK) (jx (kQ kN)) v9) (jx (kQ (qz (o:=.no) (j3 (wj5 (i:=1) hr.units (pv 1) (vv 2) (j5 (wjd (kk3 K) kzj (vv 1) T.b_len qjy))) (j3 (QE.weak (qC b6 hr (j3 (cv 0) jv))) wwd))))))) h
theorem kki(T:Txt K mg ac a7 ae ao a9 ag ak ah aa a8)(bf:jv8 P w K mg base)(b6:jv3 P w K mg base)(ck:jzg P w K mg base)(bw:jwn P w K mg base)(bq:jzf P w K mg base)(c9:jxn P w K mg base)(F:Fun K "joined_room" "joined_room" jvc f fd):FnOk P w K mg base (CXE P w) 4 f fd ["word","one","other","pair","numbers"] (spM K mg 4 m_joined_room):=
 v3 F sc_joined_room (qqv rfl) λbi A outer s H vs Q E hr h=>have nd:=sc_joined_room.nd;qx6 rfl
  (jk (qA nd (qC bf hr (j3 (cv 1) (j3 (cv 2) (j3 (cv 3) jv))))) (jk (qA nd (qL (j5 (qC b6 hr (j3 (cv 5) jv))) T.b_len)) (jk (qA nd (vq (o:=.rt) jv)) (jk (qF (zz (jV (kx (vv 1) ki))) (gN nd) (jk (XY (i:=9) (o:=.rt) (k:=1) (R:=[1,2,5,8]) ["name","one","other","standings","sign"] nd rfl (by trivial) (J9 (j5 (oA (vv 6) ki)) rfl T.b_range) (λ_ _ _ _ _=>(Vk (xW (i:=0) (show(["name","one","other","standings","sign"]:List Str).Nodup by decide +kernel) rfl (by trivial)))) (λ_ _ _ _ _=>Zx) (λ_ _ _ _ _=>(qC bw hr (j3 (cv 1) (j3 (cv 2) (j3 (cv 3) (j3 (cv 4) (j3 (cv 0) jv))))))) xV ⟨_,_,rfl,rfl⟩ ⋯ (show ∀j∈([1,2,5,8]:List Nat) ,j<10 by decide)) (jx (qP (qM .rt 1 [4] 10 ["both","numbers"] (zz (QE.weak (cv 9))) (λ_ _ _ _ _=>(qvi (i:=1) c9 (hr.mono ⋯) xV (wj7 (cv 0) (wz2 (i:=1) (pv 1)))))))))) (jx (kQ (qz (o:=.no) (j3 (cv 6) (j3 (qC ck hr (j3 (cv 0) (j3 (qC bq hr (j3 (cv 1) (j3 (jV (kx (vv 3) ki)) jv))) (j3 (qC bq hr (j3 (cv 2) (j3 (jV (kx (vv 3) ki)) jv))) jv)))) (j3 (cv 7) jv)))))))))) h
theorem qw2(T:Txt K mg ac a7 ae ao a9 ag ak ah aa a8)(cm:kqd P w K mg base)(c8:jxm P w K mg base)(F:Fun K "joined" "joined" kqo f fd):FnOk P w K mg base (CXE P w) 5 f fd ["word","one","other"] (spF K mg 3 m_joined):=
 v3 F sc_joined (v7 rfl) λbi A outer s H vs Q E hr h=>have nd:=sc_joined.nd;v8 rfl
  (jk (qZ (QW.pt (qvf (kq (jzv hr.units) kj1 (vv 0) (j5 (wz4 T.c_WORDS)) (by rfl) kj0) (kvy (kq (KQ hr.units) Kz (kx (vv 1) ki) (kx (vv 2) ki) (k8 _) W2)))) (jx (kxq T.e_NoFit T.m_NoFit xV kw5)) v9) (jk (qZ (QW.pt (qvf (YY (V4 (j5 (qC cm hr (j3 (cv 1) jv))))) (kvy (YY (V4 (j5 (qC cm hr (j3 (cv 2) jv)))))))) (jx (kxq T.e_TooGreat T.m_TooGreat xV kw5)) v9) (jk (qA nd (wjb hr.units (wz4 T.c_FIRST_PAIR) kI)) (jk (qA nd (vq (o:=.rt) jv)) (jk (qve (vvy ⟨_,_,rfl,rfl⟩) (kq qvz (zX (g:=λa b=>decide (a<b))) (j5 (qL (vv 4) T.b_len)) (j5 (wjd (kk3 K) kzj (vv 3) T.b_len qjy)) (k8 _) K0) (jk (qZ (kq vw2 (zX (g:=λa b=>decide (b<a))) (j5 (wjd (kk3 K) kzj (vv 3) T.b_len qjy)) (j5 (q_C (Kq T.c_MOST_ROOMS) (λ_=>vX))) (k8 _) K0) (jx (kxq T.e_TooGreat T.m_TooGreat xV kw5)) v9) (jx (qP (qvi (i:=3) c8 (hr.mono ⋯) xV (wj7 (cv 0) (wj7 (cv 1) (wj7 (cv 2) (wj7 (jV (kx (j5 (xJ (kqa rfl) qk2 (vv 3) T.b_list J4)) (j5 (qL (vv 4) T.b_len)))) (wz2 (i:=3) (pv 3))))))))))) (jx (kQ (qz (o:=.no) (j3 (qz (o:=.no) (j3 (xJ (Qv K) Qj (kx (vv 1) ki) T.b_list J4) (j3 (cv 4) jv))) (j3 (xJ (kqa rfl) qk2 (vv 3) T.b_list J4) jv)))))))))) h
theorem kjj(T:Txt K mg ac a7 ae ao a9 ag ak ah aa a8)  (F:Fun K "_law_cell_at" "_law_cell_at" jv0 f fd):FnOk P w K mg base (CXE P w) 1 f fd ["_law_script","_law_k"] (spF K mg 2 m__law_cell_at):=
 v3 F kj7 (v7 rfl) λbi A outer s H vs Q E hr h=>v8 rfl
  (jk (qZ (kq qvz (zX (g:=λa b=>decide (a<b))) (vv 1) (j5 (qL (vv 0) T.b_len)) (k8 _) K0) (jx (kQ (jV (kx (vv 0) (vv 1))))) v9) (jx (kQ kI))) h
theorem kkk(T:Txt K mg ac a7 ae ao a9 ag ak ah aa a8)  (F:Fun K "_law_stream" "_law_stream" jve f fd):FnOk P w K mg base (CXE P w) 1 f fd ["_law_cell","_law_many"] (spF K mg 2 m__law_stream):=
 v3 F sc__law_stream (v7 rfl) λbi A outer s H vs Q E hr h=>have nd:=sc__law_stream.nd;v8 rfl
  (jk (qA nd (vq (o:=.rt) jv)) (jk (qZ (kq (wY hr.units) wX (j5 (oM (vv 0) ki)) ki (k8 _) zK) (jk (qA nd (qV vZ vQ (vv 0) ki)) (jk (qF (J9 (vv 1) rfl T.b_range) (gN nd) (jk (qP (oM (vv 0) ki)) (jx (qA nd (qV vZ vQ (vv 0) ki))))) (jx (kQ (ww3 (pv 2)))))) v9) (jk (qA nd (oA (j5 (oM (j5 (qV vZ vQ (vv 0) ki)) ki)) ki)) (jk (qF (J9 (j5 (oA (vv 1) ki)) rfl T.b_range) (gN nd) (jk (qA nd (oM (j5 (oA (j5 (oA (j5 (oX (vv 4) (vv 4))) (j5 (oX ki (vv 4))))) (vv 3))) ki)) (jx (qP (oM (j5 (oA (j5 (oX (vv 4) ki)) (j5 (oX ki (vv 3))))) ki))))) (jx (kQ (JZ (vv 2) (K3 ki) K8))))))) h
theorem kqw(T:Txt K mg ac a7 ae ao a9 ag ak ah aa a8)(b8:jvl P w K mg base)(F:Fun K "_law_signs" "_law_signs" jvx f fd):FnOk P w K mg base (CXE P w) 2 f fd ["_law_cell"] (spF K mg 1 m__law_signs):=
 v3 F sc__law_signs (v7 rfl) λbi A outer s H vs Q E hr h=>have nd:=sc__law_signs.nd;v8 rfl
  (jk (qA nd kS) (jk (qA nd (qC b8 hr (j3 (cv 0) (j3 kI jv)))) (jk (qA nd (wj9 kw5 (j5 (qM .rt 1 [1] 7 ["_law_x","_law_letters"] (zz (JZ (vv 2) K8 (K3 (j5 (oA ki (j5 (oM (vv 0) ki))))))) (λ_ _ _ _ _=>(jV (kx (vv 1) (j5 (oM (vv 0) ki))))))))) (jk (qA nd (oM (j5 (qV vZ vQ (vv 0) ki)) (j5 (qL (vv 3) T.b_len)))) (jk (qA nd (vq (o:=.rt) jv)) (jk (qF (J9 (kx (j5 (vq (o:=.rt) (j3 kI (j3 kI (j3 kI (j3 kI (j3 kI (j3 kI (j3 kI (j3 kI jv)))))))))) (j5 (oM (j5 (qV vZ vQ (vv 0) ki)) ki))) rfl T.b_range) (gN nd) (jx (qP (oA (j5 (oA (j5 (JZ (vv 3) K8 (K3 (vv 4)))) (kx (vv 1) (j5 (oA (j5 (oM (kx (vv 2) ki) ki)) (vv 6)))))) (j5 (JZ (vv 3) (K3 (j5 (oA (vv 4) ki))) K8)))))) (jx (kQ (ww3 (pv 5)))))))))) h
theorem kqy(T:Txt K mg ac a7 ae ao a9 ag ak ah aa a8)  (F:Fun K "_law_fills" "_law_fills" jvz f fd):FnOk P w K mg base (CXE P w) 1 f fd ["_law_number","_law_need","_law_free"] (spF K mg 3 m__law_fills):=
 v3 F sc__law_fills (v7 rfl) λbi A outer s H vs Q E hr h=>have nd:=sc__law_fills.nd;v8 rfl
  (jk (qA nd (wj8 (vv 2) T.b_range T.b_list)) (jk (qA nd (vq (o:=.rt) jv)) (jk (qF (J9 (vv 1) rfl T.b_range) (gN nd) (jk (qP (ww1 (i:=3) (vq0 K PySem.F.plainAttrs_list PySem.F.slot_list_pop PySem.F.type_list_pop vje (pv 3) (qY (j5 (oM (vv 0) (j5 (qL (vv 3) T.b_len)))) wW)))) (jx (qA nd (oA (j5 (qV vZ vQ (vv 0) ki)) (j5 (oX ki (vv 5)))))))) (jx (kQ (qT (vv 4) T.b_tuple)))))) h
theorem kwa(T:Txt K mg ac a7 ae ao a9 ag ak ah aa a8)(ci:jzj P w K mg base)(F:Fun K "_law_case" "_law_case" jwt f fd):FnOk P w K mg base (CXE P w) 2 f fd ["_law_number","_law_sizes","_law_free"] (spF K mg 3 m__law_case):=
 v3 F sc__law_case (v7 rfl) λbi A outer s H vs Q E hr h=>have nd:=sc__law_case.nd;v8 rfl
  (jk (qZ (kq (wY hr.units) wX (j5 (oM (vv 0) ki)) ki (k8 _) zK) (jx (kQ kN)) v9) (jk (XY (i:=3) (o:=.rt) (k:=1) (R:=[1,2]) ["_law_to","_law_sizes","_law_free"] nd rfl (by trivial) (J9 (j5 (qL (vv 1) T.b_len)) rfl T.b_range) (λ_ _ _ _ _=>(Vk (xW (i:=0) (show(["_law_to","_law_sizes","_law_free"]:List Str).Nodup by decide +kernel) rfl (by trivial)))) (λ_ _ _ _ _=>(qzs (kq vw1 (zX (g:=λa b=>decide (a<=b))) (kx (vv 1) (vv 0)) (vv 2) (k8 _) K0))) (λ_ _ _ _ _=>(cv 0)) xV ⟨_,_,rfl,rfl⟩ ⋯ (show ∀j∈([1,2]:List Nat) ,j<5 by decide)) (jk (qA nd (jV (kx (vv 3) (j5 (oM (j5 (qV vZ vQ (vv 0) ki)) (j5 (qL (vv 3) T.b_len))))))) (jx (kQ (qz (o:=.no) (j3 (cv 4) (j3 (qC ci hr (j3 (qV vZ vQ (vv 0) ki) (j3 (jV (kx (vv 1) (vv 4))) (j3 (cv 2) jv)))) jv)))))))) h
theorem kqx(T:Txt K mg ac a7 ae ao a9 ag ak ah aa a8)(b8:jvl P w K mg base)(d8:kk8 P w K mg base)(F:Fun K "_law_plain" "_law_plain" jvy f fd):FnOk P w K mg base (CXE P w) 3 f fd ["_law_cell","_law_signs_here"] (spF K mg 2 m__law_plain):=
 v3 F sc__law_plain (v7 rfl) λbi A outer s H vs Q E hr h=>have nd:=sc__law_plain.nd;v8 rfl
  (jk (qA nd (qC b8 hr (j3 (cv 0) (j3 kI jv)))) (jk (qA nd (jV (kx (j5 (vq (o:=.rt) (j3 kI (j3 kI (j3 kI (j3 kI (j3 kI (j3 kI (j3 kI (j3 kI jv)))))))))) (j5 (oM (kx (vv 2) ki) ki))))) (jk (qA nd kI) (jk (qZ (QW.pt (V5 (kq (wY hr.units) wX (vv 3) ki (k8 _) zK) (jxx (kq (wY hr.units) wX (j5 (oM (kx (vv 2) ki) ki)) ki (k8 _) zK)))) (jx (qA nd kI)) v9) (jk (qA nd (oA (j5 (vq (o:=.rt) (j3 kI jv))) (j5 (qM .rt 1 [2,4] 13 ["_law_k","_law_xs","_law_most"] (J9 (j5 (qV qvy qz3 (vv 3) ki)) rfl T.b_range) (λ_ _ _ _ _=>(oM (j5 (qV vZ vQ (kx (vv 1) (j5 (oA ki (vv 0)))) ki)) (j5 (oA (vv 2) ki)))))))) (jk (qA nd (vq (o:=.rt) jv)) (jk (qA nd kI) (jk (qF (J9 (vv 3) rfl T.b_range) (gN nd) (jk (qA nd (vq (o:=.rt) jv)) (jk (qF (J9 (j5 (qL (vv 1) T.b_len)) rfl T.b_range) (gN nd) (jk (qA nd (vq (o:=.rt) jv)) (jk (qF (J9 (j5 (oA (kx (vv 5) (vv 8)) ki)) rfl T.b_range) (gN nd) (jk (qP (qC d8 hr (j3 (jV (kx (vv 2) (vv 7))) (j3 (cv 5) (j3 (oA (kx (vv 5) (vv 8)) (j5 (xJ kk4 qz4 (j5 (K4 (wY hr.units) wX (vv 12) (kx (vv 5) (vv 8)) (k8 _))) T.b_int qxx))) jv))))) (jx (qA nd (oA (vv 7) ki))))) (jx (qP (cv 11)))))) (jk (qP (qz (o:=.no) (j3 (jV (kx (vv 5) (vv 8))) (j3 (K4 (wY hr.units) wX (j5 (oM (kx (vv 2) (vv 7)) ki)) ki (k8 _)) (j3 (cv 9) jv))))) (jx (qA nd (oA (vv 7) ki))))))) (jx (kQ (qz (o:=.no) (j3 (xJ (Qv K) Qj (vv 1) T.b_list J4) (j3 (cv 6) jv))))))))))))) h
theorem kji(T:Txt K mg ac a7 ae ao a9 ag ak ah aa a8)  (F:Fun K "_law_greater" "_law_greater" jqz f fd):FnOk P w K mg base (CXE P w) 1 f fd ["_law_plain_here","_law_cell"] (spF K mg 2 ZK):=
 v3 F sc__law_greater (v7 rfl) λbi A outer s H vs Q E hr h=>have nd:=sc__law_greater.nd;v8 rfl
  (jk (qA nd (xJ (Qv K) Qj (kx (vv 0) ki) T.b_list J4)) (jk (qZ (kq (wY hr.units) wX (j5 (oM (vv 1) ki)) ki (k8 _) zK) (jx (qve (vvy ⟨_,_,rfl,rfl⟩) (kq qvz (zX (g:=λa b=>decide (a<b))) (j5 (qL (vv 2) T.b_len)) (j5 (oA ki (j5 (oM (j5 (qV vZ vQ (vv 1) ki)) ki)))) (k8 _) K0) (jx (qP (qz (o:=.no) (j3 kI (j3 (K4 (wY hr.units) wX (j5 (oM (j5 (qL (vv 2) T.b_len)) ki)) ki (k8 _)) (j3 (qM .rt 1 [] 4 ["_law_sign"] (zz (jV (kx (vv 0) ki))) (λ_ _ _ _ _=>(vq (o:=.rt) (j3 kN jv)))) jv)))))))) (jk (qA nd (oA ki (j5 (oM (j5 (qV vZ vQ (vv 1) ki)) ki)))) (jx (qP (qz (o:=.no) (j3 (cv 3) (j3 (K4 (wY hr.units) wX (j5 (oM (j5 (qV vZ vQ (vv 1) ki)) ki)) ki (k8 _)) (j3 (qM .rt 1 [3] 4 ["_law_sign","_law_keepers"] (zz (jV (kx (vv 0) ki))) (λ_ _ _ _ _=>(oX (j5 (vq (o:=.rt) (j3 kN jv))) (j5 (oA (vv 1) ki))))) jv)))))))) (jx (kQ (qz (o:=.no) (j3 (xJ (Qv K) Qj (kx (vv 0) ki) T.b_list J4) (j3 (cv 2) jv))))))) h
theorem jwu(T:Txt K mg ac a7 ae ao a9 ag ak ah aa a8)  (F:Fun K "_law_other_signs" "_law_other_signs" jkv f fd):FnOk P w K mg base (CXE P w) 1 f fd ["_law_plain_here","_law_cell"] (spF K mg 2 YV):=
 v3 F sc__law_other_signs (v7 rfl) λbi A outer s H vs Q E hr h=>have nd:=sc__law_other_signs.nd;v8 rfl
  (jk (qA nd (xJ (Qv K) Qj (kx (vv 0) ki) T.b_list J4)) (jk (qA nd (oM (vv 1) (j5 (qL (vv 2) T.b_len)))) (jk (qZ (QW.pt (V5 (kq (wY hr.units) wX (j5 (oM (j5 (qV vZ vQ (vv 1) ki)) ki)) ki (k8 _) zK) (jxx (kq vw2 (zX (g:=λa b=>decide (b<a))) (j5 (qL (vv 2) T.b_len)) ki (k8 _) K0)))) (jk (qA nd (oA (j5 (JZ (vv 2) K8 (K3 (vv 3)))) (j5 (JZ (vv 2) (K3 (j5 (oA (vv 3) ki))) K8)))) (jk (XY (i:=5) (o:=.rt) (k:=3) (R:=[3]) ["_law_keepers","_law_good","_law_steps","_law_at"] nd rfl (by trivial) (zz (jV (kx (vv 0) ki))) (λ_ _ _ _ _=>(ww8 (is:=[0,1,2]) (qvs K (t:=gNs [0,1,2]) (n:=3) (Wz (xW (i:=0) (show(["_law_keepers","_law_good","_law_steps","_law_at"]:List Str).Nodup by decide +kernel) rfl (by trivial)) (Wz (xW (i:=1) (show(["_law_keepers","_law_good","_law_steps","_law_at"]:List Str).Nodup by decide +kernel) rfl (by trivial)) (Wz (xW (i:=2) (show(["_law_keepers","_law_good","_law_steps","_law_at"]:List Str).Nodup by decide +kernel) rfl (by trivial)) kxt)))))) (λ_ _ _ _ _=>Zx) (λ_ _ _ _ _=>(qz (o:=.no) (j3 (cv 0) (j3 (cv 1) (j3 (oA (j5 (JZ (vv 2) K8 (K3 (vv 3)))) (j5 (JZ (vv 2) (K3 (j5 (oA (vv 3) ki))) K8))) jv))))) xV ⟨_,_,rfl,rfl⟩ ⋯ (show ∀j∈([3]:List Nat) ,j<8 by decide)) (jx (kQ (qz (o:=.no) (j3 (cv 4) (j3 (cv 5) jv))))))) v9) (jk (qA nd (jV (kx (vv 2) (vv 3)))) (jk (qA nd (jV (kx ks (j5 (oM (j5 (qV vZ vQ (vv 1) ki)) ki))))) (jk (qZ (kq qvz (zX (g:=λa b=>decide (a<b))) (j5 (qL (vv 6) T.b_len)) ki (k8 _) K0) (jx (qvh (i:=2) (pv 2) (vv 3) (oA (vv 6) (vv 7)))) (jx (qvh (i:=2) (pv 2) (vv 3) (JZ (vv 6) K8 (K3 ki))))) (jk (qZ (kq (KQ hr.units) Kz (vv 2) (j5 (qvg rfl rfl (vv 2) T.b_sorted T.b_set)) (k8 _) W2) (jx (kQ kN)) v9) (jx (kQ (qz (o:=.no) (j3 (cv 2) (j3 (xJ (Qv K) Qj (kx (vv 0) ki) T.b_list J4) jv)))))))))))) h
theorem kw9(T:Txt K mg ac a7 ae ao a9 ag ak ah aa a8)  (F:Fun K "_law_word" "_law_word" jws f fd):FnOk P w K mg base (CXE P w) 1 f fd ["_law_cell"] (spF K mg 1 jqo):=
 v3 F sc__law_word (v7 rfl) λbi A outer s H vs Q E hr h=>have nd:=sc__law_word.nd;v8 rfl
  (jk (qA nd (vq (o:=.rt) (j3 kS (j3 kS (j3 kS (j3 kS jv)))))) (jk (qZ (kq qvz (zX (g:=λa b=>decide (a<b))) (j5 (oM (vv 0) ki)) ki (k8 _) K0) (jx (kQ (jV (kx (vv 1) (j5 (oM (j5 (qV vZ vQ (vv 0) ki)) ki)))))) v9) (jk (qA nd (jV (kx (vv 1) (j5 (oM (j5 (qV vZ vQ (vv 0) ki)) ki))))) (jk (qA nd (vq (o:=.rt) (j3 kS (j3 kS (j3 kS (j3 kS (j3 kS (j3 kS (j3 kS (j3 (oA (vv 2) ks) (j3 (wj6 (vv 2)) jv))))))))))) (jk (qA nd (oA (vv 3) (j5 (vq (o:=.rt) (j3 (oA (vv 2) ks) (j3 (JZ (vv 2) (K3 ki) K8) (j3 (oA (vv 2) (vv 2)) jv))))))) (jx (kQ (jV (kx (vv 3) (j5 (oM (j5 (qV vZ vQ (vv 0) ki)) ki))))))))))) h
theorem kjh(T:Txt K mg ac a7 ae ao a9 ag ak ah aa a8)(fe:qk5 P w K mg base)(F:Fun K "_law_refused" "_law_refused" jqy f fd):FnOk P w K mg base (CXE P w) 6 f fd ["_law_word_here","_law_one","_law_other"] (spF K mg 3 Qw):=
 v3 F sc__law_refused (v7 rfl) λbi A outer s H vs Q E hr h=>have nd:=sc__law_refused.nd;v8 rfl
  (jk (qA nd kS) (jk (wj4 (i:=4) (cs:=["NoFit","TooGreat"]) nd rfl rfl ⟨_,_,rfl,rfl⟩ T.m_RoomError rfl (kk0 T.e_NoFit T.n_NoFit T.h_NoFit_RoomError (kk0 T.e_TooGreat T.n_TooGreat T.h_TooGreat_RoomError qq9)) (vva fe (hr.mono ⋯) (j3 (cv 0) (j3 (cv 1) (j3 (cv 2) jv)))) (λx_x=>(jk (qA nd kS) (jk (qA nd (ww7 (us:=[a8,aa,ah,ak,ag,a9,ao]) (vv 4) T.b_isinstance (qY (JW T.m_NoExchange) (qY (JW T.m_NoMachine) (qY (JW T.m_NoName) (qY (JW T.m_NoRow) (qY (JW T.m_NoText) (qY (JW T.m_NotSingle) (qY (JW T.m_NoWay) wW))))))) rfl (qjm T.n_NoFit (z4 T.i_NoFit_NoExchange (z4 T.i_NoFit_NoMachine (z4 T.i_NoFit_NoName (z4 T.i_NoFit_NoRow (z4 T.i_NoFit_NoText (z4 T.i_NoFit_NotSingle (z4 T.i_NoFit_NoWay qwl))))))) (qjm T.n_TooGreat (z4 T.i_TooGreat_NoExchange (z4 T.i_TooGreat_NoMachine (z4 T.i_TooGreat_NoName (z4 T.i_TooGreat_NoRow (z4 T.i_TooGreat_NoText (z4 T.i_TooGreat_NotSingle (z4 T.i_TooGreat_NoWay qwl))))))) vwk)))) (jk (qZ (QW.pt (V5 (V4 (j5 (XV (vv 4) T.b_isinstance (qvw (v:=.ty "ValueError") rfl T.b_ValueError jxi rfl) rfl (qjk T.n_NoFit T.i_NoFit_ValueError (qjk T.n_TooGreat T.i_TooGreat_ValueError Zw))))) (V5 (YY (V4 (vv 5))) (jxx (YY (V4 (j5 (XV (vv 4) T.b_isinstance (JW T.m_NoFit) rfl (Vx T.n_NoFit T.i_NoFit_NoFit (Vx T.n_TooGreat T.i_TooGreat_NoFit Zw)))))))))) (jx (qA nd (jV (kx (j5 (vq (o:=.rt) (j3 kS (j3 kS jv)))) (j5 (xJ kk4 qz4 (j5 (XV (vv 4) T.b_isinstance (JW T.m_TooGreat) rfl (Vx T.n_NoFit T.i_NoFit_TooGreat (Vx T.n_TooGreat T.i_TooGreat_TooGreat Zw)))) T.b_int qxx)))))) v9) (jx (qZ (QW.pt (V5 (V4 (j5 (XV (vv 4) T.b_isinstance (qvw (v:=.ty "ValueError") rfl T.b_ValueError jxi rfl) rfl (qjk T.n_NoFit T.i_NoFit_ValueError (qjk T.n_TooGreat T.i_TooGreat_ValueError Zw))))) (V5 (YY (V4 (vv 5))) (jxx (YY (V4 (j5 (XV (vv 4) T.b_isinstance (JW T.m_TooGreat) rfl (Vx T.n_NoFit T.i_NoFit_TooGreat (Vx T.n_TooGreat T.i_TooGreat_TooGreat Zw)))))))))) (jx (qA nd (jV (kx (j5 (vq (o:=.rt) (j3 kS (j3 kS jv)))) (j5 (xJ kk4 qz4 (j5 (XV (vv 4) T.b_isinstance (JW T.m_NoFit) rfl (Vx T.n_NoFit T.i_NoFit_NoFit (Vx T.n_TooGreat T.i_TooGreat_NoFit Zw)))) T.b_int qxx)))))) v9))))))) (jx (kQ (ww3 (pv 3)))))) h
theorem wk8(T:Txt K mg ac a7 ae ao a9 ag ak ah aa a8)(cj:jzh P w K mg base)(br:jzi P w K mg base)(cz:kk7 P w K mg base)(ax:jwq P w K mg base)(ba:jwo P w K mg base)(be:jwp P w K mg base)(b7:jqu P w K mg base)(F:Fun K "law" "law" vv2 f fd):FnOk P w K mg base (CXE P w) 7 f fd ["_law_script"] (spF K mg 1 m_law):=
 v3 F sc_law (v7 rfl) λbi A outer s H vs Q E hr h=>have nd:=sc_law.nd;v8 rfl
  (jk (qA nd (qC cj hr (j3 (qC ax hr (j3 (cv 0) (j3 kI jv))) jv))) (jk (qA nd (qC br hr (j3 (qC ax hr (j3 (cv 0) (j3 kI jv))) (j3 (cv 1) jv)))) (jk (qA nd (qC br hr (j3 (qC ax hr (j3 (cv 0) (j3 kI jv))) (j3 (cv 1) jv)))) (jk (qA nd (qC cz hr (j3 (qC ax hr (j3 (cv 0) (j3 kI jv))) jv))) (jk (qA nd (oM (j5 (qC ax hr (j3 (cv 0) (j3 kI jv)))) ki)) (jk (qA nd (qC ax hr (j3 (cv 0) (j3 kI jv)))) (jk (qA nd (vq (o:=.rt) (j3 (cv 2) (j3 (cv 3) jv)))) (jk (qA nd kS) (jk (qZ (kq (vw5 hr.units) vxk (vv 5) (j5 (qz (o:=.no) (j3 kI (j3 kI jv)))) (by rfl) vxf) (jk (qvh (i:=7) (pv 7) (j5 (oM (vv 6) ki)) (qC be hr (j3 (jV (kx (vv 7) (j5 (oM (vv 6) ki)))) (j3 (qV vZ vQ (vv 6) ki) jv)))) (jk (qZ (kq (wY hr.units) wX (j5 (oM (j5 (qV vZ vQ (vv 6) ki)) ki)) ki (k8 _) zK) (jx (qvh (i:=7) (pv 7) (j5 (qV qvy qz3 ki (j5 (oM (vv 6) ki)))) (qC be hr (j3 (jV (kx (vv 7) (j5 (qV qvy qz3 ki (j5 (oM (vv 6) ki)))))) (j3 (qV vZ vQ (vv 6) ki) jv))))) v9) (jx (qA nd kS)))) v9) (jk (qA nd (oM (j5 (qV vZ vQ (vv 6) ki)) ki)) (jk (qZ (QW.pt (V5 (kq vw2 (zX (g:=λa b=>decide (b<a))) (vv 5) ki (k8 _) K0) (jxx (kq vw0 vxi (j5 (qC b7 hr (j3 (jV (kx (vv 7) (vv 9))) (j3 (qC ax hr (j3 (cv 0) (j3 kI jv))) jv)))) kn (k8 _) vxe)))) (jk (qvh (i:=7) (pv 7) (vv 9) (qC b7 hr (j3 (jV (kx (vv 7) (vv 9))) (j3 (qC ax hr (j3 (cv 0) (j3 kI jv))) jv)))) (jx (qA nd kS))) v9) (jk (qZ (kq (jzv hr.units) kj1 (vv 4) (j5 (qz (o:=.no) (j3 kS (j3 kS (j3 kS (j3 kS jv)))))) (by rfl) kj0) (jx (qA nd kS)) v9) (jk (XY (i:=10) (o:=.rt) (k:=1) (R:=[]) ["_law_plain_here"] nd rfl (by trivial) (zz (cv 7)) (λ_ _ _ _ _=>(Vk (xW (i:=0) (show(["_law_plain_here"]:List Str).Nodup by decide +kernel) rfl (by trivial)))) (λ_ _ _ _ _=>Zx) (λ_ _ _ _ _=>(qz (o:=.no) (j3 (xJ (Qv K) Qj (kx (vv 0) ki) T.b_list J4) (j3 (xJ (Qv K) Qj (kx (vv 0) ki) T.b_list J4) jv)))) xV ⟨_,_,rfl,rfl⟩ ⋯ (show ∀j∈([]:List Nat) ,j<14 by decide)) (jk (qA nd (qC ba hr (j3 (cv 4) (j3 (jV (kx (vv 7) ki)) (j3 (jV (kx (vv 7) ki)) jv))))) (jk (qZ (QW.pt (qvf (kq (KQ hr.units) Kz (vv 7) (vv 10) (k8 _) W2) (kvy (QW.pt (V5 (kq (KQ hr.units) Kz (vv 11) (vv 8) (k8 _) W2) (jxx (QW.pt (qvf (kq (KQ hr.units) Kz (vv 8) ks (k8 _) W2) (kvy (kq (KQ hr.units) Kz (vv 11) ks (k8 _) W2)))))))))) (jx (kQ (q_C wjy (λ_=>qj1)))) v9) (jk (XY (i:=12) (o:=.rt) (k:=1) (R:=[1]) ["_law_k","_law_signs_here"] nd rfl (by trivial) (J9 ki rfl T.b_range) (λ_ _ _ _ _=>(Vk (xW (i:=0) (show(["_law_k","_law_signs_here"]:List Str).Nodup by decide +kernel) rfl (by trivial)))) (λ_ _ _ _ _=>Zx) (λ_ _ _ _ _=>(qz (o:=.no) (j3 (xJ (Qv K) Qj (vv 1) T.b_list J4) (j3 (vq (o:=.rt) (j3 (qz (o:=.no) (j3 kI (j3 (K4 (wY hr.units) wX (vv 0) ki (k8 _)) (j3 (qM .rt 1 [] 2 ["_law_sign"] (zz (cv 1)) (λ_ _ _ _ _=>(vq (o:=.rt) (j3 (qz (o:=.no) (j3 kI (j3 (qz (o:=.no) jv) jv))) jv)))) jv)))) jv)) jv)))) xV ⟨_,_,rfl,rfl⟩ ⋯ (show ∀j∈([1]:List Nat) ,j<14 by decide)) (jk (qF (zz (vq (o:=.rt) (j3 kS (j3 kS (j3 kS (j3 kS jv)))))) (gN nd) (jx (qZ (kq (KQ hr.units) Kz (j5 (qC ba hr (j3 (cv 13) (j3 (jV (kx (vv 12) ki)) (j3 (jV (kx (vv 12) ki)) jv))))) ks (k8 _) W2) (jx (kQ (q_C wjy (λ_=>qj1)))) v9))) (jx (kQ (K4 (wY hr.units) wX (j5 (qC ba hr (j3 (cv 4) (j3 (jV (kx (vv 7) ki)) (j3 (jV (kx (vv 7) ki)) jv))))) (vv 11) (k8 _))))))))))))))))))))) h
end
theorem all_mk{l:PySem.W.OpenLaw}{w:PySem.World}{K:Frag}{h:Heap}{mg:Str->Option Value}{fa:Addr}(X:K.In h)(G:h.Ns mainGlobals mg)(hfa:mg "law"=some (.ref fa)){dg cn fw dk:Value}{cg cw gf:Addr}{dl cu ir:Obj}{ac a7 ae ao a9 ag ak ah aa a8:Addr}
  (g0:Gf K "is_small" jxu)
  (g1:Gf K "read_by" kj9)
  (g2:Gf K "keepers_in" jvu)
  (g3:Gf K "standing_in" jvb)
  (g4:Gf K "first_standings" jq4)
  (g5:Gf K "read_by_both" jqw)
  (g6:Gf K "names_of" jxt)
  (g7:Gf K "room_of" kj8)
  (g8:Gf K "pair_of" kja)
  (g9:Gf K "held_by_both" jqx)
  (g10:Gf K "is_good_in" jvv)
  (g11:Gf K "is_good_by" jvw)
  (g12:Gf K "joined_case" jvd)
  (g13:Gf K "joined_room" jvc)
  (g14:Gf K "joined" kqo)
  (g15:Gf K "_law_cell_at" jv0)
  (g16:Gf K "_law_stream" jve)
  (g17:Gf K "_law_signs" jvx)
  (g18:Gf K "_law_fills" jvz)
  (g19:Gf K "_law_case" jwt)
  (g20:Gf K "_law_plain" jvy)
  (g21:Gf K "_law_greater" jqz)
  (g22:Gf K "_law_other_signs" jkv)
  (g23:Gf K "_law_word" jws)
  (g24:Gf K "_law_refused" jqy)
  (g25:Gf K "law" vv2)
  (q_SMALL_ROOMS:nsIn K mainGlobals "SMALL_ROOMS"=some (some dg)) (r_SMALL_ROOMS:RelV (V.int (12)) dg)
  (q_SMALL_KEEPERS:nsIn K mainGlobals "SMALL_KEEPERS"=some (some cn)) (r_SMALL_KEEPERS:RelV (V.int (3)) cn)
  (q_NOWHERE:nsIn K mainGlobals "NOWHERE"=some (some fw)) (r_NOWHERE:RelV (V.int (-1)) fw)
  (q_MOST_ROOMS:nsIn K mainGlobals "MOST_ROOMS"=some (some dk)) (r_MOST_ROOMS:RelV (V.int (40)) dk)
  (q_FIRST_PAIR:nsIn K mainGlobals "FIRST_PAIR"=some (some (.ref cg)))
  (q_WORDS:nsIn K mainGlobals "WORDS"=some (some (.ref gf)))
  (l_FIRST_PAIR:K.lookup cg=some dl)
  (t_FIRST_PAIR:wvg dl [(V.int 0),(V.int 0),.ref cw])
  (l_FIRST_PAIR_2:K.lookup cw=some cu)
  (t_FIRST_PAIR_2:wvg cu [])
  (l_WORDS:K.lookup gf=some ir)
  (t_WORDS:wvg ir [(V.str "both"),(V.str "either"),(V.str "first"),(V.str "one")])
  (z_ValueError:nsIn K mainGlobals "ValueError"=some none)
  (z_all:nsIn K mainGlobals "all"=some none)
  (z_dict:nsIn K mainGlobals "dict"=some none)
  (z_enumerate:nsIn K mainGlobals "enumerate"=some none)
  (z_int:nsIn K mainGlobals "int"=some none)
  (z_isinstance:nsIn K mainGlobals "isinstance"=some none)
  (z_len:nsIn K mainGlobals "len"=some none)
  (z_list:nsIn K mainGlobals "list"=some none)
  (z_range:nsIn K mainGlobals "range"=some none)
  (z_set:nsIn K mainGlobals "set"=some none)
  (z_sorted:nsIn K mainGlobals "sorted"=some none)
  (z_tuple:nsIn K mainGlobals "tuple"=some none)
  (n_NoFit:nsIn K mainGlobals "NoFit"=some (some (.ref ac)))
  (ec_NoFit:PySem.W.excIn K ac bmV "ValueError.__new__"=true) (ga_NoFit:findIn K (.ref ac) "__getattribute__"=some (some (.builtin "BaseException.__getattribute__"))) (gt_NoFit:findIn K (.ref ac) "__getattr__"=some none) (fa_NoFit:findIn K (.ref ac) "__class__"=some (some (.builtin "object.__class__"))) (fg_NoFit:PySem.W.specialIn K (.builtin "object.__class__") "__get__"=some (some (.builtin "getset_descriptor.__get__"))) (ft_NoFit:PySem.W.takesIn K (.builtin "object.__class__")=some true) (ob_NoFit:PySem.W.mroIn K ac (.type "object")=some true) (bx_NoFit:PySem.W.mroIn K ac (.type "BaseException")=some true) (cl_NoFit:PySem.W.isClsIn K ac=true)
  (n_TooGreat:nsIn K mainGlobals "TooGreat"=some (some (.ref a7)))
  (ec_TooGreat:PySem.W.excIn K a7 bmV "ValueError.__new__"=true) (ga_TooGreat:findIn K (.ref a7) "__getattribute__"=some (some (.builtin "BaseException.__getattribute__"))) (gt_TooGreat:findIn K (.ref a7) "__getattr__"=some none) (fa_TooGreat:findIn K (.ref a7) "__class__"=some (some (.builtin "object.__class__"))) (fg_TooGreat:PySem.W.specialIn K (.builtin "object.__class__") "__get__"=some (some (.builtin "getset_descriptor.__get__"))) (ft_TooGreat:PySem.W.takesIn K (.builtin "object.__class__")=some true) (ob_TooGreat:PySem.W.mroIn K a7 (.type "object")=some true) (bx_TooGreat:PySem.W.mroIn K a7 (.type "BaseException")=some true) (cl_TooGreat:PySem.W.isClsIn K a7=true)
  (n_RoomError:nsIn K mainGlobals "RoomError"=some (some (.ref ae)))
  (n_NoWay:nsIn K mainGlobals "NoWay"=some (some (.ref ao)))
  (n_NotSingle:nsIn K mainGlobals "NotSingle"=some (some (.ref a9)))
  (n_NoText:nsIn K mainGlobals "NoText"=some (some (.ref ag)))
  (n_NoRow:nsIn K mainGlobals "NoRow"=some (some (.ref ak)))
  (n_NoName:nsIn K mainGlobals "NoName"=some (some (.ref ah)))
  (n_NoMachine:nsIn K mainGlobals "NoMachine"=some (some (.ref aa)))
  (n_NoExchange:nsIn K mainGlobals "NoExchange"=some (some (.ref a8)))
  (h_TooGreat_RoomError:PySem.W.exmOne K (.ref a7) (.ref ae)=some true)
  (h_NoFit_RoomError:PySem.W.exmOne K (.ref ac) (.ref ae)=some true)
  (i_TooGreat_TooGreat:kitOne K (.ref a7) (.ref a7)=some true)
  (i_NoFit_TooGreat:kitOne K (.ref ac) (.ref a7)=some false)
  (i_TooGreat_ValueError:kitOne K (.ref a7) (.type "ValueError")=some true)
  (i_NoFit_ValueError:kitOne K (.ref ac) (.type "ValueError")=some true)
  (i_TooGreat_NoFit:kitOne K (.ref a7) (.ref ac)=some false)
  (i_NoFit_NoFit:kitOne K (.ref ac) (.ref ac)=some true)
  (i_TooGreat_NoWay:kitOne K (.ref a7) (.ref ao)=some false)
  (i_TooGreat_NotSingle:kitOne K (.ref a7) (.ref a9)=some false)
  (i_TooGreat_NoText:kitOne K (.ref a7) (.ref ag)=some false)
  (i_TooGreat_NoRow:kitOne K (.ref a7) (.ref ak)=some false)
  (i_TooGreat_NoName:kitOne K (.ref a7) (.ref ah)=some false)
  (i_TooGreat_NoMachine:kitOne K (.ref a7) (.ref aa)=some false)
  (i_TooGreat_NoExchange:kitOne K (.ref a7) (.ref a8)=some false)
  (i_NoFit_NoWay:kitOne K (.ref ac) (.ref ao)=some false)
  (i_NoFit_NotSingle:kitOne K (.ref ac) (.ref a9)=some false)
  (i_NoFit_NoText:kitOne K (.ref ac) (.ref ag)=some false)
  (i_NoFit_NoRow:kitOne K (.ref ac) (.ref ak)=some false)
  (i_NoFit_NoName:kitOne K (.ref ac) (.ref ah)=some false)
  (i_NoFit_NoMachine:kitOne K (.ref ac) (.ref aa)=some false)
  (i_NoFit_NoExchange:kitOne K (.ref ac) (.ref a8)=some false)
  : ∃fd:FuncData,(∀(s:Shared) (v:Value),BindsTo s fd ⟨[v],[]⟩ [("_law_script",v)])/\∀base:Heap,K.In base->base.Ns mainGlobals mg->FnOk l.prog w K mg base (CXE l.prog w) 7 fa fd ["_law_script"] (spF K mg 1 m_law):=by
 have T:Txt K mg ac a7 ae ao a9 ag ak ah aa a8:=⟨Y9 X G z_ValueError,Y9 X G z_all,Y9 X G z_dict,Y9 X G z_enumerate,Y9 X G z_int,Y9 X G z_isinstance,Y9 X G z_len,Y9 X G z_list,Y9 X G z_range,Y9 X G z_set,Y9 X G z_sorted,Y9 X G z_tuple,⟨_,Y5 X G q_SMALL_ROOMS,r_SMALL_ROOMS⟩,⟨_,Y5 X G q_SMALL_KEEPERS,r_SMALL_KEEPERS⟩,⟨_,Y5 X G q_NOWHERE,r_NOWHERE⟩,⟨_,⟨_,Y5 X G q_FIRST_PAIR,(show RelV (.ref cg) _ from rfl)⟩,λH=>(wvt (kz0 l_FIRST_PAIR t_FIRST_PAIR) (W9 vX (W9 vX (W9 (wvt (kz0 l_FIRST_PAIR_2 t_FIRST_PAIR_2) vv5) vv5))))⟩,⟨_,⟨_,Y5 X G q_WORDS,(show RelV (.ref gf) _ from rfl)⟩,λH=>(wvt (kz0 l_WORDS t_WORDS) (W9 (Kv ⋯) (W9 (Kv ⋯) (W9 (Kv ⋯) (W9 (Kv ⋯) vv5)))))⟩,⟨_,Y5 X G q_MOST_ROOMS,r_MOST_ROOMS⟩,n_NoFit,Y5 X G n_NoFit,⟨Y5 X G n_NoFit,ec_NoFit,qqj ga_NoFit gt_NoFit fa_NoFit fg_NoFit ft_NoFit ob_NoFit bx_NoFit cl_NoFit⟩,n_TooGreat,Y5 X G n_TooGreat,⟨Y5 X G n_TooGreat,ec_TooGreat,qqj ga_TooGreat gt_TooGreat fa_TooGreat fg_TooGreat ft_TooGreat ob_TooGreat bx_TooGreat cl_TooGreat⟩,n_RoomError,Y5 X G n_RoomError,n_NoWay,Y5 X G n_NoWay,n_NotSingle,Y5 X G n_NotSingle,n_NoText,Y5 X G n_NoText,n_NoRow,Y5 X G n_NoRow,n_NoName,Y5 X G n_NoName,n_NoMachine,Y5 X G n_NoMachine,n_NoExchange,Y5 X G n_NoExchange,h_TooGreat_RoomError,h_NoFit_RoomError,i_TooGreat_TooGreat,i_NoFit_TooGreat,i_TooGreat_ValueError,i_NoFit_ValueError,i_TooGreat_NoFit,i_NoFit_NoFit,i_TooGreat_NoWay,i_TooGreat_NotSingle,i_TooGreat_NoText,i_TooGreat_NoRow,i_TooGreat_NoName,i_TooGreat_NoMachine,i_TooGreat_NoExchange,i_NoFit_NoWay,i_NoFit_NotSingle,i_NoFit_NoText,i_NoFit_NoRow,i_NoFit_NoName,i_NoFit_NoMachine,i_NoFit_NoExchange⟩;refine g25.law X G hfa fun {base _ _} F=>?_
 have cm:kqd l.prog w K mg base:=g0.d X G (kxx T );have da:kxb l.prog w K mg base:=g1.d X G (qkw T );have bt:jze l.prog w K mg base:=g2.d X G (kqt T );have bg:jxl l.prog w K mg base:=g3.d X G (kkh T );have bf:jv8 l.prog w K mg base:=g4.d X G (jx5 T bt bg);have bw:jwn l.prog w K mg base:=g5.d X G (kjf T da);have b9:jz9 l.prog w K mg base:=g6.d X G (kxw T );have db:kxa l.prog w K mg base:=g7.d X G (qkv T );have dw:kxc l.prog w K mg base:=g8.d X G (qkx T b9 db);have b6:jv3 l.prog w K mg base:=g9.d X G (kjg T b9);have bq:jzf l.prog w K mg base:=g10.d X G (kqu T );have ck:jzg l.prog w K mg base:=g11.d X G (kqv T );have c9:jxn l.prog w K mg base:=g12.d X G (kkj T dw b6);have c8:jxm l.prog w K mg base:=g13.d X G (kki T bf b6 ck bw bq c9);have fe:qk5 l.prog w K mg base:=g14.d X G (qw2 T cm c8);have ax:jwq l.prog w K mg base:=g15.d X G (kjj T );have b8:jvl l.prog w K mg base:=g16.d X G (kkk T );have cj:jzh l.prog w K mg base:=g17.d X G (kqw T b8);have ci:jzj l.prog w K mg base:=g18.d X G (kqy T );have d8:kk8 l.prog w K mg base:=g19.d X G (kwa T ci);have br:jzi l.prog w K mg base:=g20.d X G (kqx T b8 d8);have be:jwp l.prog w K mg base:=g21.d X G (kji T );have b7:jqu l.prog w K mg base:=g22.d X G (jwu T );have cz:kk7 l.prog w K mg base:=g23.d X G (kw9 T );have ba:jwo l.prog w K mg base:=g24.d X G (kjh T fe);exact wk8 T cj br cz ax ba be b7 F
end Nk63
namespace PySem.W.Fast
def tw14887297062177087866:=()
def tw12673651198871976222:=()
def tw8773992270364103444:=()
def tw7653202967051060068:=()
def tw8080333344550644799:=()
def tw8791016584746873463:=()
def tw17372941569839516530:=()
def tw13168577343098172842:=()
def tw10904400356863512675:=()
def tw10206102796097502502:=()
def tw102419933727489721:=()
def tw10808125652054406074:=()
def tw14268240617333613095:=()
def tw7558604756099816768:=()
def tw962659641670978334:=()
def tw14602249306511031104:=()
def tw2361681887135391985:=()
def tw2318640941630661267:=()
def tw15132814866719725727:=()
def tw214203988132134565:=()
def tw7522762379716063677:=()
def tw14628489622884864508:=()
def tw7800663781106158544:=()
def tw4941182164702306809:=()
def tw14507707370408436359:=()
def tw3800376279723409116:=()
def tw7887217700706576319:=()
def tw14238110898187476300:=()
def tw16695863202948672567:=()
def tw7708461287933141117:=()
def tw10463593988914904088:=()
def tw3692207004880662302:=()
def tw14903377211430245925:=()
def tw5016898682803961832:=()
def tw2240056050846894912:=()
def tw193366933145482670:=()
def tw2924281129832842528:=()
def tw16275258114122989678:=()
def tw16717764638149314100:=()
def tw3161304275237115922:=()
def tw10725907910495593604:=()
def tw705619333356287887:=()
def tw13830786291534868147:=()
def tw6956862369309496493:=()
def tw1617563178198887540:=()
def tw8411948172932100487:=()
def tw10117329562713088367:=()
def tw10219967848228127461:=()
def tw13993740487597536596:=()
def tw5159762759606626258:=()
def tw7625355818137846958:=()
def tw2271732958092296576:=()
def tw5629898671819773151:=()
def tw5165079613783081786:=()
def tw17810741648448824174:=()
def tw1871969653886089015:=()
def tw2084972103442738814:=()
def tw14192591289789704796:=()
def tw3368068797912067388:=()
def tw9523350751137781197:=()
def tw9037566319658096182:=()
def tw10853099312938414639:=()
def tw1688038085589386094:=()
def tw6007418704970039516:=()
def tw8564926120266237213:=()
def tw6698718128881542902:=()
def tw16141912363556427269:=()
def tw5829380063734927807:=()
def tw6219316680559446946:=()
def tw1438611775117925965:=()
def tw11977114877218686942:=()
def tw11141871764041176262:=()
def tw5277676957890067027:=()
def tw11367498324811171899:=()
def tw3835047828713277609:=()
def tw732148145618419088:=()
def tw3639348181574975605:=()
def tw9217996952552695936:=()
def tw2283328446408135007:=()
def tw12340919598753540428:=()
def tw10949974678864929343:=()
def tw1044073581626024465:=()
def tw11611166389317980695:=()
def tw16415844614611664422:=()
def tw1075768675785609408:=()
def tw17035908865702699457:=()
def tw13702819763293039081:=()
def tw17491670826731195589:=()
def tw14083711724549871743:=()
def tw8416412716025923267:=()
def tw522999572241123904:=()
def tw11953643194538967594:=()
def tw3909261430086262142:=()
def tw11751852641030191223:=()
def tw5871052713069226443:=()
def tw9088375821960271063:=()
def tw12321634727501710542:=()
def tw4278778413221504137:=()
def tw18120536802704226752:=()
def tw15855159494502001651:=()
def tw14174307767785523745:=()
def tw7802009954088392366:=()
def tw14469215727027312006:=()
def tw16899581048742614230:=()
def tw222011998234283504:=()
def tw15575362381851438330:=()
def tw16289270386845038060:=()
def tw10695715221165671866:=()
def tw10370724243217827555:=()
def tw3637949912950215368:=()
def tw12806014294795388525:=()
def tw11887324229510049392:=()
def tw5008721306123681827:=()
def tw5594385237915762964:=()
def tw11612371625077081532:=()
def tw1536067100762738944:=()
def tw15199936092232285358:=()
def tw14547172930942437244:=()
def tw14841174135581809201:=()
def tw2885063673311916526:=()
def tw17510898818365905752:=()
def tw4661726733319509699:=()
def tw5232975272776826830:=()
end PySem.W.Fast
open PySem PySem.W PyProof.Rows
set_option maxRecDepth 100000 in
set_option maxHeartbeats 0 in
theorem PySem.Challenge.cw_freshrooms_k63_not_joined_holds : PySem.Challenge.rw_freshrooms_k63_not_joined.Holds := by
 w_on;o_law;k_head;(case hw=>w_witness2)
 k_fill
 refine Q.walkQ (l:=PySem.Challenge.rw_freshrooms_k63_not_joined) (n:=63) (k:=7) (x:="_law_script") (f:=Nk63.m_law) rfl ⋯ rfl ⟨rfl,⋯,⋯,rfl⟩ (fun w h Y=>PySem.W.kIn_of Y) ?F Nk63.law_true
 case F =>
  intro w mg fa h KX G hmg
  refine' Nk63.all_mk KX G hmg ?_ ?_ ?_ ?_ ?_ ?_ ?_ ?_ ?_ ?_ ?_ ?_ ?_ ?_ ?_ ?_ ?_ ?_ ?_ ?_ ?_ ?_ ?_ ?_ ?_ ?_ ?q_SMALL_ROOMS ?r_SMALL_ROOMS ?q_SMALL_KEEPERS ?r_SMALL_KEEPERS ?q_NOWHERE ?r_NOWHERE ?q_MOST_ROOMS ?r_MOST_ROOMS ?q_FIRST_PAIR ?q_WORDS ?l_FIRST_PAIR ?t_FIRST_PAIR ?l_FIRST_PAIR_2 ?t_FIRST_PAIR_2 ?l_WORDS ?t_WORDS ?z_ValueError ?z_all ?z_dict ?z_enumerate ?z_int ?z_isinstance ?z_len ?z_list ?z_range ?z_set ?z_sorted ?z_tuple ?n_NoFit ?ec_NoFit ?ga_NoFit ?gt_NoFit ?fa_NoFit ?fg_NoFit ?ft_NoFit ?ob_NoFit ?bx_NoFit ?cl_NoFit ?n_TooGreat ?ec_TooGreat ?ga_TooGreat ?gt_TooGreat ?fa_TooGreat ?fg_TooGreat ?ft_TooGreat ?ob_TooGreat ?bx_TooGreat ?cl_TooGreat ?n_RoomError ?n_NoWay ?n_NotSingle ?n_NoText ?n_NoRow ?n_NoName ?n_NoMachine ?n_NoExchange ?h_TooGreat_RoomError ?h_NoFit_RoomError ?i_TooGreat_TooGreat ?i_NoFit_TooGreat ?i_TooGreat_ValueError ?i_NoFit_ValueError ?i_TooGreat_NoFit ?i_NoFit_NoFit ?i_TooGreat_NoWay ?i_TooGreat_NotSingle ?i_TooGreat_NoText ?i_TooGreat_NoRow ?i_TooGreat_NoName ?i_TooGreat_NoMachine ?i_TooGreat_NoExchange ?i_NoFit_NoWay ?i_NoFit_NotSingle ?i_NoFit_NoText ?i_NoFit_NoRow ?i_NoFit_NoName ?i_NoFit_NoMachine ?i_NoFit_NoExchange
  all_goals try (refine' Q.Gf.mk ?a ?b ?c ?d;(case a=>k_is);(case b=>k_is);(case c=>k_is);(case d=>k_is))
  (case q_SMALL_ROOMS=>k_is)
  (case r_SMALL_ROOMS=>exact ⟨_,rfl⟩)
  (case q_SMALL_KEEPERS=>k_is)
  (case r_SMALL_KEEPERS=>exact ⟨_,rfl⟩)
  (case q_NOWHERE=>k_is)
  (case r_NOWHERE=>exact ⟨_,rfl⟩)
  (case q_MOST_ROOMS=>k_is)
  (case r_MOST_ROOMS=>exact ⟨_,rfl⟩)
  (case q_FIRST_PAIR=>k_is)
  (case q_WORDS=>k_is)
  (case l_FIRST_PAIR=>k_is)
  (case t_FIRST_PAIR=>exact ⟨rfl,rfl,_,_,rfl,⋯,(.cons ⟨_,rfl⟩ (.cons ⟨_,rfl⟩ (.cons rfl .nil)))⟩)
  (case l_FIRST_PAIR_2=>k_is)
  (case t_FIRST_PAIR_2=>exact ⟨rfl,rfl,_,_,rfl,⋯,.nil⟩)
  (case l_WORDS=>k_is)
  (case t_WORDS=>exact ⟨rfl,rfl,_,_,rfl,⋯,(.cons ⟨_,rfl⟩ (.cons ⟨_,rfl⟩ (.cons ⟨_,rfl⟩ (.cons ⟨_,rfl⟩ .nil))))⟩)
  (case z_ValueError=>k_is)
  (case z_all=>k_is)
  (case z_dict=>k_is)
  (case z_enumerate=>k_is)
  (case z_int=>k_is)
  (case z_isinstance=>k_is)
  (case z_len=>k_is)
  (case z_list=>k_is)
  (case z_range=>k_is)
  (case z_set=>k_is)
  (case z_sorted=>k_is)
  (case z_tuple=>k_is)
  (case n_NoFit=>k_is)
  (case ec_NoFit=>k_exc)
  (case ga_NoFit=>k_is)
  (case gt_NoFit=>k_is)
  (case fa_NoFit=>k_is)
  (case fg_NoFit=>k_is)
  (case ft_NoFit=>k_is)
  (case ob_NoFit=>k_is)
  (case bx_NoFit=>k_is)
  (case cl_NoFit=>k_is)
  (case n_TooGreat=>k_is)
  (case ec_TooGreat=>k_exc)
  (case ga_TooGreat=>k_is)
  (case gt_TooGreat=>k_is)
  (case fa_TooGreat=>k_is)
  (case fg_TooGreat=>k_is)
  (case ft_TooGreat=>k_is)
  (case ob_TooGreat=>k_is)
  (case bx_TooGreat=>k_is)
  (case cl_TooGreat=>k_is)
  (case n_RoomError=>k_is)
  (case n_NoWay=>k_is)
  (case n_NotSingle=>k_is)
  (case n_NoText=>k_is)
  (case n_NoRow=>k_is)
  (case n_NoName=>k_is)
  (case n_NoMachine=>k_is)
  (case n_NoExchange=>k_is)
  (case h_TooGreat_RoomError=>kts_exm)
  (case h_NoFit_RoomError=>kts_exm)
  (case i_TooGreat_TooGreat=>kit_is)
  (case i_NoFit_TooGreat=>kit_is)
  (case i_TooGreat_ValueError=>kit_is)
  (case i_NoFit_ValueError=>kit_is)
  (case i_TooGreat_NoFit=>kit_is)
  (case i_NoFit_NoFit=>kit_is)
  (case i_TooGreat_NoWay=>kit_is)
  (case i_TooGreat_NotSingle=>kit_is)
  (case i_TooGreat_NoText=>kit_is)
  (case i_TooGreat_NoRow=>kit_is)
  (case i_TooGreat_NoName=>kit_is)
  (case i_TooGreat_NoMachine=>kit_is)
  (case i_TooGreat_NoExchange=>kit_is)
  (case i_NoFit_NoWay=>kit_is)
  (case i_NoFit_NotSingle=>kit_is)
  (case i_NoFit_NoText=>kit_is)
  (case i_NoFit_NoRow=>kit_is)
  (case i_NoFit_NoName=>kit_is)
  (case i_NoFit_NoMachine=>kit_is)
  (case i_NoFit_NoExchange=>kit_is)
