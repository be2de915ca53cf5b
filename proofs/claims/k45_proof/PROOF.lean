import PyProof.Rows.All
import Wide.All
import OpenK.AllK
import Wide.FinOn
import Lean
import PySem.Challenge.RW_freshrooms_k45_not_compared
open PySem.W(Frag kitOne nsIn findIn)
set_option Elab.async false
set_option linter.all false
set_option bootstrap.genMatcherCode false
set_option compiler.extract_closed false
set_option maxRecDepth 100000
local macro_rules|`(⋯)=>`(by first|decide|omega)
local macro_rules|`(tactic|ac_rfl)=>`(tactic|with_unfolding_all rfl)
local macro_rules|`(tactic|exists$e)=>`(tactic|with_unfolding_all exact$e)
theorem aA{α}{a:α}{s t:List α}:a∈s++t->a∈s∨a∈t:=List.mem_append.mp
theorem aB{α}{a b:α}:a=b->a∈[b]:=List.mem_singleton.mpr
theorem aC{α}{a b:α}:a∈[b]->a=b:=List.mem_singleton.mp
theorem aD{α}{a b:α}{l:List α}:a∈b::l->a=b∨a∈l:=List.mem_cons.mp
theorem aE{α β}{f:α->β}{l:List α}{b:β}:b∈l.map f->∃a,a∈l∧f a=b:=List.mem_map.mp
local macro_rules|`(tactic|trivial)=>`(tactic|first|exact Or.inl rfl|exact Or.inr rfl)
def Ŕq(_:True:=by rfl):True:=trivial
def Ŕq.z:True:=trivial
open Ŕq renaming _auto_1→Ŕ
def ŕq(_:True:=by decide):True:=trivial
def ŕq.z:True:=trivial
open ŕq renaming _auto_1→ŕ
def Ŗq(_:True:=by intro _;rfl):True:=trivial
def Ŗq.z:True:=trivial
open Ŗq renaming _auto_1→Ŗ
def ŗq(_:True:=by decide +kernel):True:=trivial
def ŗq.z:True:=trivial
open ŗq renaming _auto_1→ŗ
def Řq(_:True:=by first|exact .inl rfl|exact .inr rfl|assumption):True:=trivial
def Řq.z:True:=trivial
open Řq renaming _auto_1→Ř
def řq(_:True:=by first|exact Or.inl rfl|exact Or.inr (Or.inl rfl)|exact Or.inr (Or.inr rfl)):True:=trivial
def řq.z:True:=trivial
open řq renaming _auto_1→ř
def Śq(_:True:=by trivial):True:=trivial
def Śq.z:True:=trivial
open Śq renaming _auto_1→Ś
def śq(_:True:=by first|exact .inl rfl|exact .inr rfl):True:=trivial
def śq.z:True:=trivial
open śq renaming _auto_1→ś
theorem oq9{α : Type _}{a b : α}(h:some a=some b):a=b:=Option.some.inj h
theorem lr9{α : Type _}{a : α}{b : List α}(c : List α)(h:a ∈ b):a ∈ c ++ b:=List.mem_append_right c h
theorem ll9{α : Type _}{a : α}{b : List α}(c : List α)(h:a ∈ b):a ∈ b ++ c:=List.mem_append_left c h
theorem lc9{α : Type _}{a : α}{l : List α}(b : α)(h:a ∈ l):a ∈ b::l:=List.mem_cons_of_mem b h
section
open PySem PySem.Spec PyProof.Rows
theorem X0:type_of% @wpAny_bind:=@wpAny_bind
theorem X1:type_of% @Heap.get?_push_of_some:=@Heap.get?_push_of_some
theorem X2:type_of% @wpAny_pure:=@wpAny_pure
theorem X3:type_of% @List.getElem?_eq_getElem:=@List.getElem?_eq_getElem
theorem X4:type_of% @List.length_map:=@List.length_map
theorem X5:type_of% @List.size_toArray:=@List.size_toArray
theorem X6:type_of% @Heap.get?_push_size:=@Heap.get?_push_size
theorem X7:type_of% @List.mem_cons_self:=@List.mem_cons_self
theorem X8:type_of% @if_pos:=@if_pos
theorem X9:type_of% @Nat.le_refl:=@Nat.le_refl
theorem Xa:type_of% @Heap.lt_size:=@Heap.lt_size
theorem Xb:type_of% @if_neg:=@if_neg
theorem Xd:type_of% @List.map_append:=@List.map_append
theorem Xe:type_of% @List.nodup_append:=@List.nodup_append
theorem Xf:type_of% @List.length_append:=@List.length_append
theorem Xg:type_of% @Nat.ne_of_lt:=@Nat.ne_of_lt
theorem Xh:type_of% @Nat.lt_of_lt_of_le:=@Nat.lt_of_lt_of_le
theorem Xi:type_of% @decide_eq_false:=@decide_eq_false
theorem Xj:type_of% @Array.length_toList:=@Array.length_toList
theorem Xk:type_of% @List.mem_map_of_mem:=@List.mem_map_of_mem
theorem Xl:type_of% @decide_eq_true:=@decide_eq_true
theorem Xm:type_of% @List.length_cons:=@List.length_cons
theorem Xn:type_of% @List.getD_eq_getElem?_getD:=@List.getD_eq_getElem?_getD
theorem Xp:type_of% @List.getElem?_map:=@List.getElem?_map
def Xq:type_of% @List.not_mem_nil:=@List.not_mem_nil
theorem Xr:type_of% @List.append_nil:=@List.append_nil
theorem Xs:type_of% @List.map_map:=@List.map_map
theorem Xu:type_of% @Int.emod_lt_of_pos:=@Int.emod_lt_of_pos
theorem Xv:type_of% @wpAny_newObj_type:=@wpAny_newObj_type
theorem Xw:type_of% @Int.toNat_natCast:=@Int.toNat_natCast
theorem Xx:type_of% @Heap.get?_update_self:=@Heap.get?_update_self
theorem Xy:type_of% @List.append_assoc:=@List.append_assoc
theorem Xz:type_of% @wpAny_holding:=@wpAny_holding
theorem Y0:type_of% @wpAny_call_entry:=@wpAny_call_entry
theorem Y1:type_of% @PySem.W.mg_of:=@PySem.W.mg_of
theorem Y2:type_of% @Int.emod_nonneg:=@Int.emod_nonneg
theorem Y3:type_of% @PySem.W.mg_none_of:=@PySem.W.mg_none_of
theorem Y4:type_of% @List.nodup_nil:=@List.nodup_nil
theorem Y5:type_of% @PyProof.Rows.callWith_type1:=@PyProof.Rows.callWith_type1
theorem Y6:type_of% @List.mem_cons:=@List.mem_cons
theorem Y7:type_of% @Heap.SameBut.update:=@Heap.SameBut.update
theorem Y8:type_of% @Nat.le_trans:=@Nat.le_trans
theorem Y9:type_of% @beq_false_of_ne:=@beq_false_of_ne
theorem Ya:type_of% @List.length_take:=@List.length_take
theorem Yb:type_of% @List.length_drop:=@List.length_drop
theorem Yc:type_of% @List.getElem_mem:=@List.getElem_mem
theorem Yd:type_of% @wpAny_callSpecial?_slot:=@wpAny_callSpecial?_slot
theorem Ye:type_of% @List.getElem?_set_ne:=@List.getElem?_set_ne
theorem Yf:type_of% @wpAny_Call_Name_kw:=@wpAny_Call_Name_kw
theorem Yg:type_of% @Nat.zero_le:=@Nat.zero_le
theorem Yh:type_of% @Nat.lt_irrefl:=@Nat.lt_irrefl
theorem Yi:type_of% @List.length_singleton:=@List.length_singleton
theorem Yj:type_of% @Array.getElem?_toList:=@Array.getElem?_toList
theorem Yk:type_of% @wpAny_setField:=@wpAny_setField
theorem Yl:type_of% @List.find?_cons:=@List.find?_cons
theorem Ym:type_of% @wpAny_specialOf:=@wpAny_specialOf
theorem Yn:type_of% @Around.under_plainId:=@Around.under_plainId
theorem Yo:type_of% @List.filter_cons_of_pos:=@List.filter_cons_of_pos
theorem Yp:type_of% @List.Sublist.refl:=@List.Sublist.refl
def Yq:type_of% @List.length_range:=@List.length_range
theorem Yr:type_of% @PySem.mem_of_lookup:=@PySem.mem_of_lookup
theorem Ys:type_of% @wpAny_field:=@wpAny_field
theorem Yt:type_of% @List.length_set:=@List.length_set
theorem Yu:type_of% @Array.getElem?_eq_getElem:=@Array.getElem?_eq_getElem
theorem Yv:type_of% @List.length_replicate:=@List.length_replicate
theorem Yw:type_of% @List.getElem?_eq_none:=@List.getElem?_eq_none
theorem Yx:type_of% @wpAny_mono:=@wpAny_mono
theorem Yy:type_of% @List.lookup_cons:=@List.lookup_cons
theorem Yz:type_of% @List.eraseIdx_cons_succ:=@List.eraseIdx_cons_succ
theorem Z0:type_of% @List.filter_cons_of_neg:=@List.filter_cons_of_neg
theorem Z1:type_of% @codeAny_builtin:=@codeAny_builtin
theorem Z2:type_of% @Heap.get?_update_ne:=@Heap.get?_update_ne
theorem Z3:type_of% @List.map_congr_left:=@List.map_congr_left
theorem Z4:type_of% @List.getElem?_set_self:=@List.getElem?_set_self
theorem Z5:type_of% @Heap.get?_update_other:=@Heap.get?_update_other
theorem Z6:type_of% @List.take_of_length_le:=@List.take_of_length_le
theorem Z7:type_of% @List.all_eq_true:=@List.all_eq_true
theorem Z8:type_of% @Obj.data_mapFields:=@Obj.data_mapFields
theorem Z9:type_of% @Obj.isFreed_of_fields:=@Obj.isFreed_of_fields
theorem Za:type_of% @wpAny_execs_nil:=@wpAny_execs_nil
theorem Zb:type_of% @wpAny_passesOwn:=@wpAny_passesOwn
theorem Zc:type_of% @List.flatten_cons:=@List.flatten_cons
theorem Zd:type_of% @List.flatMap_cons:=@List.flatMap_cons
theorem Ze:type_of% @wpAny_setState_of:=@wpAny_setState_of
theorem Zf:type_of% @Heap.size_push:=@Heap.size_push
theorem Zg:type_of% @wpAny_seqItems:=@wpAny_seqItems
theorem Zh:type_of% @wpAny_askSetting:=@wpAny_askSetting
theorem Zi:type_of% @Ne.symm:=@Ne.symm
theorem Zj:type_of% @wpAny_rule:=@wpAny_rule
end
noncomputable section
namespace L2
open PySem PySem.Spec PyProof.Rows
abbrev Key:=Sum Int Str
def Wz:Key->Value->Bool
 |.inl k,v=>Value.isInt k v|.inr x,v=>Value.isStrOf x v
def keyH(w:World):Key->Int
 |.inl k=>hashInt k|.inr x=>hashStr w x
theorem Kj:∀{k:Key} {v:Value},Wz k v=true->(∃i t,k=Sum.inl i/\v=Value.int i t)\/(∃x t,k=Sum.inr x/\v=Value.str x t)
 |.inl i,v,h=>by
  obtain⟨t,e⟩:=Value.isInt_shape (k:=i) (v:=v) h;exact .inl ⟨i,t,rfl,e⟩
 |.inr x,v,h=>by
  obtain⟨t,e⟩:=Value.isStrOf_shape (x:=x) (v:=v) h;exact .inr ⟨x,t,rfl,e⟩
theorem qw4(i:Int)(t:Tok):Wz (.inl i) (.int i t)=true:=by simp[Wz,Value.isInt]
theorem qw3(x:Str)(t:Tok):Wz (.inr x) (.str x t)=true:=by simp[Wz,Value.isStrOf]
theorem wk9(a b:Int):decide ((Sum.inl a:Key)=Sum.inl b)=(a==b):=by
 by_cases e:a=b
 ·subst e;simp
 ·have h:¬(Sum.inl a:Key)=Sum.inl b:=λq=>e (Sum.inl.inj q)
  rw[Xi h];exact(beq_eq_false_iff_ne.mpr e).symm
theorem wk5(a b:Str):decide ((Sum.inr a:Key)=Sum.inr b)=decide (a=b):=by
 by_cases e:a=b
 ·subst e;simp
 ·have h:¬(Sum.inr a:Key)=Sum.inr b:=λq=>e (Sum.inr.inj q)
  rw[Xi h,Xi e]
theorem wk8(a:Int)(b:Str):decide ((Sum.inl a:Key)=Sum.inr b)=false:=Xi (λq=>nomatch q)
theorem wk6(a:Str)(b:Int):decide ((Sum.inr a:Key)=Sum.inl b)=false:=Xi (λq=>nomatch q)
noncomputable def xx(prog:Program)(w:World):PySem.KeyKind prog w Key where
 is:=Wz
 hash:=keyH w
 inj:=λv a b ha hb=>by
  rcases Kj ha with⟨i,t,rfl,rfl⟩|⟨x,t,rfl,rfl⟩
  ·rcases Kj hb with⟨j,u,rfl,e⟩|⟨y,u,rfl,e⟩
   ·injection e with e1 _;rw[e1]
   ·exact nomatch e
  ·rcases Kj hb with⟨j,u,rfl,e⟩|⟨y,u,rfl,e⟩
   ·exact nomatch e
   ·injection e with e1 _;rw[e1]
 byValue:=λk v h=>by
  rcases Kj h with⟨i,t,rfl,rfl⟩|⟨x,t,rfl,rfl⟩<;>rfl
 pyHash:=λhv h=>by
  rcases Kj hv with⟨i,t,rfl,rfl⟩|⟨x,t,rfl,rfl⟩
  ·exact wpAny_pyHash_int h
  ·exact wpAny_pyHash_str h
 eqBool:=λhu hv h=>by
  rcases Kj hu with⟨i,t,rfl,rfl⟩|⟨x,t,rfl,rfl⟩
  ·rcases Kj hv with⟨j,u,rfl,rfl⟩|⟨y,u,rfl,rfl⟩
   ·rw[wk9]at h;exact wpAny_eqBool_int h
   ·rw[wk8]at h;exact SeqAt.EqAt.int_str i t y u _ _ _ _ h
  ·rcases Kj hv with⟨j,u,rfl,rfl⟩|⟨y,u,rfl,rfl⟩
   ·rw[wk6]at h;exact SeqAt.EqAt.str_int x t j u _ _ _ _ h
   ·rw[wk5]at h;exact wpAny_eqBool_str h
 «strs»:=λk x t v h=>by
  rcases Kj h with⟨i,u,rfl,e⟩|⟨y,u,rfl,e⟩
  ·exact nomatch e
  ·injection e with e1 _;subst e1;cases v<;>rfl
theorem kxi(prog:Program)(w:World)(i:Int)(t:Tok):(xx prog w).is (.inl i) (.int i t)=true:=qw4 i t
theorem kxh(prog:Program)(w:World)(x:Str)(t:Tok):(xx prog w).is (.inr x) (.str x t)=true:=qw3 x t
inductive V where
 |non|bl (b:Bool)|int (i:Int)|str (x:Str)|byt (b:Array UInt8)|flt (b:UInt64)|ref (a:Addr)|ty (n:String)
 deriving DecidableEq
def RelV:V->Value->Prop
 |.non,u=>u=Value.none|.bl b,u=>u=Value.bool b|.int i,u=>∃t,u=Value.int i t|.str x,u=>∃t,u=Value.str x t|.byt b,u=>∃t,u=Value.bytes b t|.flt b,u=>∃t,u=Value.float b t|.ref a,u=>u=Value.ref a|.ty n,u=>u=Value.type n
abbrev Vals:List V->List Value->Prop:=Paired RelV
theorem Vals.length{xs:List V}{us:List Value}(r:Vals xs us):xs.length=us.length:=Paired.length r
theorem Vals.get:∀{xs:List V} {us:List Value} {i:Nat} {x:V},Vals xs us->xs[i]?=some x->∃u,us[i]?=some u/\RelV x u
 |_,_,_,_,.nil,e=>by simp at e|_,_,0,_,.cons r _,e=>by simp at e;subst e;exact⟨_,rfl,r⟩
 |_,_,i+1,x,.cons _ t,e=>by
  obtain⟨u,h1,h2⟩:=Vals.get (i:=i) (x:=x) t (by simpa using e);exact⟨u,by simpa using h1,h2⟩
theorem Vals.set{x:V}{u:Value}(r:RelV x u):∀{xs:List V} {us:List Value} (i:Nat),Vals xs us->Vals (xs.set i x) (us.set i u)
 |_,_,_,.nil=>.nil|_,_,0,.cons _ t=>.cons r t|_,_,i+1,.cons q t=>.cons q (Vals.set r i t)
theorem Vals.append:∀{xs ys:List V} {us ws:List Value},Vals xs us->Vals ys ws->Vals (xs++ys) (us++ws)
 |_,_,_,_,.nil,s=>s|_,_,_,_,.cons r t,s=>.cons r (Vals.append t s)
theorem Vals.take:∀{xs:List V} {us:List Value} (n:Nat),Vals xs us->Vals (xs.take n) (us.take n)
 |_,_,0,_=>.nil|_,_,_+1,.nil=>.nil|_,_,n+1,.cons r t=>.cons r (Vals.take n t)
theorem Vals.drop:∀{xs:List V} {us:List Value} (n:Nat),Vals xs us->Vals (xs.drop n) (us.drop n)
 |_,_,0,r=>r|_,_,_+1,.nil=>.nil|_,_,n+1,.cons _ t=>Vals.drop n t
def RelO:Option V->Option Value->Prop
 |some v,some u=>RelV v u|none,none=>True|_,_=>False
def KV{κ:Type}:List (κ×V)->List (κ×Value)->Prop:=Paired λ(p:κ×V) (q:κ×Value)=>p.1=q.1/\RelV p.2 q.2
def kV:Key->V
 |.inl i=>.int i|.inr x=>.str x
inductive HO where
 |lst (xs:List V)
 |tup (xs:List V)
 |dK (kvs:List (Key×V))|dT (kvs:List (List Key×V))
 |set (S:Int->Bool) (n:Nat)
 |ins (C dx:Addr) (fs:List (Str×V))
 |own (x:Addr)
 |xd (fs:List (Str×V))
 |met (f x:Addr)
 |rng (lo hi:Int)
 |frz (o:Obj) (u:HO)
 |tbl (ps:Array Value)
 |ext (φ:Heap->Prop)
abbrev Hp:=Addr->Option HO
def IsTupD(h:Heap)(a:Addr)(items:Array Value):Prop:=∃o,h.get? a=some o/\o.cls=.type "tuple"/\o.dict=none/\∃n,o.data=.seq items n
theorem IsTupD.tup{h:Heap}{a:Addr}{items:Array Value}(p:IsTupD h a items):IsTup h a items:=by
 obtain⟨o,e,c,_,n,d⟩:=p;exact⟨o,e,c,n,d⟩
theorem IsTupD.new(h:Heap)(xs:Array Value):IsTupD (h.push { cls:=.type "tuple",data:=.seq xs }) h.objs.size xs:=⟨_,X6 _ rfl,rfl,rfl,0,rfl⟩
def upd(H:Hp)(a:Addr)(o:HO):Hp:=λb=>if b=a then some o else H b
theorem vK{H:Hp}{a:Addr}{o:HO}:upd H a o a=some o:=by unfold upd;rw[X8 rfl]
theorem kz{H:Hp}{a b:Addr}{o:HO}(h:b≠a):upd H a o b=H b:=by unfold upd;rw[Xb h]
theorem wY{H:Hp}{a b:Addr}{o:HO}(h:H a=some o)(h':H b=none):a≠b:=by
 intro e;subst e;rw[h]at h';cases h'
section
variable (P:Program)(w:World)
noncomputable def ObjOk(H : Hp)(h : Heap)(a : Addr): HO -> Prop
  |.lst xs=>xs.length<=sizeLine /\ ∃(ah : List Value) (n : Nat), Vals xs ah /\ h.get? a = some { cls:= .type "list", data:= .seq ah.toArray n }|.tup xs=>xs.length<=sizeLine /\ ∃ah : List Value, Vals xs ah /\ IsTupD h a ah.toArray|.dK kvs=>kvs.length<=sizeLine /\ (a==sysModules) = false /\ ∃vs, KV kvs vs /\ h.DictOf (xx P w) a vs
  |.dT kvs=>kvs.length<=sizeLine /\ (a==sysModules) = false /\ ∃xs : List (List Key × Addr × Value),
      Paired (λ(p : List Key × V) (q : List Key × Addr × Value)=>p.1 = q.1 /\ H q.2.1 = some (.tup (p.1.map kV)) /\ RelV p.2 q.2.2) kvs xs /\
      ∃o es ep, h.get? a = some o /\ o.ExactDict /\ o.data = .dict es ep /\ es.toList = xs.map (entryOfKey (tupleKind (xx P w))) /\ (xs.map (·.1)).Nodup
  |.set S n=>h.SetOf (intKind P w) a S n
  |.ins C dx fs=>H dx = some (.own a) /\ fs.length<=1000 /\ dx≠a /\ h.get? a = some (PySem.W.instObj C dx) /\
      ∃mA, h.Ns1 dx mA /\ (∀f, RelO (fs.lookup f) (mA f)) /\ PySem.Within mA (fs.map (·.1))
  |.own _=> ∃o, h.get? a = some o|.xd fs=> ∃mA, h.Ns1 a mA /\ ∀f, RelO (fs.lookup f) (mA f)|.rng lo hi=> ∃t u v, h.get? a = some { cls:= .type "range", data:= .fields #[.int lo t, .int hi u, .int 1 v] }|.frz o u=>h.get? a = some o /\ ObjOk H h a u|.tbl ps=>h.get? a = some { cls:= .none, data:= .fields ps }|.met f x=>h.get? a = some (PySem.W.methodObj (.ref f) (.ref x))|.ext φ=>φ h /\ (∃o, h.get? a = some o) /\ ∀h1 h2 : Heap, φ h1 -> (∀o, h1.get? a = some o -> h2.get? a = some o) -> φ h2
def HOk(H:Hp)(h:Heap):Prop:=∀a o,H a=some o->ObjOk P w H h a o
end
section
variable {P:Program}{w:World}{H H':Hp}{h h':Heap}{a:Addr}{o:HO}
theorem ObjOk.lt(x:ObjOk P w H h a o):a<h.objs.size:=by
 cases o with|lst xs=>obtain⟨_,_,_,_,e⟩:=x;exact Xa e|tup xs=>obtain⟨_,_,_,p⟩:=x;exact p.tup.lt|dK kvs=>obtain⟨_,_,_,_,o,_,_,e,_⟩:=x;exact Xa e|dT kvs=>obtain⟨_,_,_,_,o,_,_,e,_⟩:=x;exact Xa e|set S n=>obtain⟨o,_,_,_,e,_⟩:=x;exact Xa e|ins C dx fs=>obtain⟨_,_,_,e,_⟩:=x;exact Xa e|own y=>obtain⟨_,e⟩:=x;exact Xa e|xd fs=>obtain⟨_,⟨_,_,_,e,_⟩,_⟩:=x;exact Xa e|rng lo hi=>obtain⟨_,_,_,e⟩:=x;exact Xa e|frz ob u=>obtain⟨e,_⟩:=x;exact Xa e|tbl ps=>exact Xa (show h.get? a=some _ from x)|met f y=>exact Xa (show h.get? a=some _ from x)|ext φ=>obtain⟨_,⟨_,e⟩,_⟩:=x;exact Xa e
theorem Paired.mapP{α β:Type}{F G:α->β->Prop}:∀{l₁:List α} {l₂:List β},Paired F l₁ l₂->(∀a b,F a b->G a b)->Paired G l₁ l₂
 |_,_,.nil,_=>.nil|_,_,.cons r t,f=>.cons (f _ _ r) (Paired.mapP t f)
theorem ObjOk.stay(x:ObjOk P w H h a o)(k:∀b u,(b=a\/H b=some (.own a))->h.get? b=some u->h'.get? b=some u)
  (ho:∀b,H b=some (.own a)->H' b=some (.own a)) (ht:∀b xs,H b=some (.tup xs)->H' b=some (.tup xs)):ObjOk P w H' h' a o:=by
 induction o with
 |lst xs=>obtain⟨z,ah,n,r,e⟩:=x;exact⟨z,ah,n,r,k _ _ (.inl rfl) e⟩|tup xs=>obtain⟨z,ah,r,ob,e,c⟩:=x;exact⟨z,ah,r,ob,k _ _ (.inl rfl) e,c⟩|dK kvs=>obtain⟨z,y,vs,r,ob,es,ep,e,c⟩:=x;exact⟨z,y,vs,r,ob,es,ep,k _ _ (.inl rfl) e,c⟩
 |dT kvs=>
  obtain⟨z,y,xs,r,ob,es,ep,e,c⟩:=x;exact⟨z,y,xs,Paired.mapP r λp q z=>⟨z.1,ht _ _ z.2.1,z.2.2⟩,ob,es,ep,k _ _ (.inl rfl) e,c⟩
 |set S n=>obtain⟨ob,es,ep,t,e,c⟩:=x;exact⟨ob,es,ep,t,k _ _ (.inl rfl) e,c⟩
 |ins C dx fs=>
  obtain⟨d,z,ne,e,mA,⟨od,es,ep,e2,c⟩,r⟩:=x;exact⟨ho _ d,z,ne,k _ _ (.inl rfl) e,mA,⟨od,es,ep,k _ _ (.inr d) e2,c⟩,r⟩
 |own y=>obtain⟨ob,e⟩:=x;exact⟨ob,k _ _ (.inl rfl) e⟩|xd fs=>obtain⟨mA,⟨od,es,ep,e,c⟩,r⟩:=x;exact⟨mA,⟨od,es,ep,k _ _ (.inl rfl) e,c⟩,r⟩|rng lo hi=>obtain⟨t,u,v,e⟩:=x;exact⟨t,u,v,k _ _ (.inl rfl) e⟩|frz ob u ih=>obtain⟨e,q⟩:=x;exact⟨k _ _ (.inl rfl) e,ih q⟩
 |tbl ps=>
  have e:h.get? a=some { cls:=.none,data:=.fields ps }:=x;show h'.get? a=some { cls:=.none,data:=.fields ps };exact k a _ (.inl rfl) e
 |met f y=>
  have e:h.get? a=some (PySem.W.methodObj (.ref f) (.ref y)):=x;show h'.get? a=some (PySem.W.methodObj (.ref f) (.ref y));exact k a _ (.inl rfl) e
 |ext φ=>obtain⟨p,⟨o,e⟩,st⟩:=x;exact⟨st _ _ p λo q=>k _ _ (.inl rfl) q,⟨o,k _ _ (.inl rfl) e⟩,st⟩
theorem HOk.lt(x:HOk P w H h)(e:H a=some o):a<h.objs.size:=(x a o e).lt
theorem HOk.fresh(x:HOk P w H h)(e:h.objs.size<=a):H a=none:=by
 cases q:H a with|none=>rfl|some u=>exact absurd (Xh (x.lt q) e) (Yh _)
theorem HOk.kept(x:HOk P w H h)(k:∀b u,h.get? b=some u->h'.get? b=some u):HOk P w H h':=λa o e=>
 (x a o e).stay (λb u _ q=>k b u q) (λ_ q=>q) λ_ _ q=>q
theorem HOk.laid(x:HOk P w H h)(k:∀b u,h.get? b=some u->h'.get? b=some u)(hp:h.objs.size<=a)(new:ObjOk P w (upd H a o) h' a o):HOk P w (upd H a o) h':=λb u e=>by
 have hn:=x.fresh hp
 by_cases hb:b=a
 ·subst hb;rw[vK]at e;cases e;exact new
 ·rw[kz hb]at e;exact(x b u e).stay (λc v _ q=>k c v q) (λc q=>by rw[kz (wY q hn)];exact q) λc xs q=>by rw[kz (wY q hn)];exact q
end
def Rd(H:Hp)(a:Addr)(u:HO):Prop:=H a=some u\/∃o,H a=some (.frz o u)
theorem Rd.ok{P:Program}{w:World}{H:Hp}{h:Heap}{a:Addr}{u:HO}(r:Rd H a u)(x:HOk P w H h):ObjOk P w H h a u:=by
 rcases r with r|⟨o,r⟩
 ·exact x a u r
 ·obtain⟨_,q⟩:=x a _ r;exact q
def Mut:Option HO->Prop
 |some (.lst _)=>True|some (.dK _)=>True|some (.dT _)=>True|some (.set _ _)=>True|some (.ins _ _ _)=>True|some (.ext _)=>True|_=>False
section
variable {P:Program}{w:World}{H:Hp}{h h':Heap}{x e:Addr}{o':HO}
theorem HOk.write(ok:HOk P w H h)(mu:Mut (H x))(he:e=x\/H e=some (.own x))(k:∀b u,b≠e->h.get? b=some u->h'.get? b=some u)(om:∃u,h'.get? e=some u)
  (new:ObjOk P w (upd H x o') h' x o'):HOk P w (upd H x o') h':=λb u q=>by
 have tq:∀c y,H c=some (.own y)->c≠x:=λc y r z=>by subst z;rw[r]at mu;exact mu
 have ntup:∀c xs,H c=some (.tup xs)->c≠x:=λc xs r z=>by subst z;rw[r]at mu;exact mu
 by_cases hb:b=x
 ·subst hb;rw[vK]at q;cases q;exact new
 ·rw[kz hb]at q
  by_cases hbe:b=e
  ·have q':H b=some (.own x):=by
    rcases he with z|z
    ·exact absurd (hbe.trans z) hb
    ·rw[hbe];exact z
   rw[q]at q';cases q';obtain⟨v,hv⟩:=om;exact⟨v,by rw[hbe];exact hv⟩
  ·refine(ok b u q).stay (λc v hc r=>k c v ?_ r) (λc r=>by rw[kz (tq c b r)];exact r) λc xs r=>by rw[kz (ntup c xs r)];exact r
   rcases hc with rfl|hc
   ·exact hbe
   ·rintro rfl;rcases he with z|z
    ·exact tq c b hc z
    ·rw[hc]at z;cases z;exact hb rfl
end
structure Un (fs ex:List Addr)(H H':Hp)(h h':Heap):Prop where
 keep:∀b o,h.get? b=some o->H b=none->b∉fs->b∉ex->h'.get? b=some o
 slot:∀b o,h.get? b=some o->H b=none->b∈fs->b∉ex->∃sl,h'.get? b=some { o with slots:=sl }
 free:∀b o,h.get? b=some o->H b=none->b∉ex->H' b=none
 there:∀b o,h.get? b=some o->b∉ex->∃o',h'.get? b=some o'
 tups:∀b xs,H b=some (.tup xs)->H' b=some (.tup xs)
 frzs:∀b o u,H b=some (.frz o u)->H' b=some (.frz o u)
 tbls:∀b ps,H b=some (.tbl ps)->∃more,H' b=some (.tbl (ps++more))
section
variable {fs fs' ex ex':List Addr}{H H1 H2:Hp}{h h1 h2 h':Heap}{a x e:Addr}{o:HO}
theorem Un.any(u:Un fs ex H H1 h h1){b:Addr}{ob:Obj}(q:h.get? b=some ob)(n:H b=none)(hx:b∉ex):∃sl,h1.get? b=some { ob with slots:=sl }:=by
 by_cases hb:b∈fs
 ·exact u.slot b ob q n hb hx
 ·exact⟨ob.slots,u.keep b ob q n hb hx⟩
theorem Un.kept(k:∀b u,h.get? b=some u->h'.get? b=some u):Un fs ex H H h h':=
 ⟨λb ob q _ _ _=>k b ob q,λb ob q _ _ _=>⟨ob.slots,k b ob q⟩,λ_ _ _ n _=>n,λb ob q _=>⟨ob,k b ob q⟩,λ_ _ q=>q,λ_ _ _ q=>q,λ_ ps q=>⟨#[],by rw[q];simp⟩⟩
theorem Un.refl:Un fs ex H H h h:=Un.kept λ_ _ q=>q
theorem Un.laid(k:∀b u,h.get? b=some u->h'.get? b=some u)(hp:h.objs.size<=a)(hn:H a=none):Un fs ex H (upd H a o) h h' where
 keep:=λb u q _ _ _=>k b u q
 slot:=λb u q _ _ _=>⟨u.slots,k b u q⟩
 free:=λb u q n _=>by rw[kz (Xg (Xh (Xa q) hp))];exact n
 there:=λb u q _=>⟨u,k b u q⟩
 tups:=λb xs q=>by rw[kz (wY q hn)];exact q
 frzs:=λb u xs q=>by rw[kz (wY q hn)];exact q
 tbls:=λb ps q=>⟨#[],by rw[kz (wY q hn),q];simp⟩
theorem Un.write(mu:Mut (H x))(he:e=x\/H e=some (.own x))(k:∀b u,b≠e->h.get? b=some u->h'.get? b=some u)(om:∃u,h'.get? e=some u):Un fs ex H (upd H x o) h h':=by
 have hx:∀b,H b=none->b≠x:=λb n z=>by subst z;rw[n]at mu;exact mu
 have hb:∀b,H b=none->b≠e:=λb n z=>by
  subst z;rcases he with r|r
  ·exact hx b n r
  ·rw[n]at r;cases r
 have hm:∀b u,H b=some u->¬Mut (some u)->b≠x:=λb u q nm z=>by subst z;rw[q]at mu;exact nm mu
 refine⟨λb u q n _ _=>k b u (hb b n) q,λb u q n _ _=>⟨u.slots,k b u (hb b n) q⟩,λb u q n _=>by rw[kz (hx b n)];exact n,λb u q _=>?_,
  λb xs q=>by rw[kz (hm b _ q λz=>z)];exact q,λb u xs q=>by rw[kz (hm b _ q λz=>z)];exact q,λb ps q=>⟨#[],by rw[kz (hm b _ q λz=>z),q];simp⟩⟩
 by_cases hbe:b=e
 ·subst hbe;exact om
 ·exact⟨u,k b u hbe q⟩
end
def trk(h:Heap)(H:Hp):List Addr:=(List.range h.objs.size).filter λa=>(H a).isSome
def KW(h:Heap)(H:Hp):Heap:=PySem.W.hideAll h (trk h H)
theorem qw9(h:Heap)(H:Hp):(KW h H).objs.size=h.objs.size:=PySem.W.hideAll_size _ _
theorem vj2{h:Heap}{H:Hp}{b:Addr}{o:Obj}(e:h.get? b=some o)(n:H b=none):(KW h H).get? b=some o:=
 PySem.W.hideAll_get _ e λhm=>by
  have q:(H b).isSome=true:=(List.mem_filter.mp hm).2;rw[n]at q;simp at q
theorem vvk{h:Heap}{H:Hp}{b:Addr}{o:Obj}(e:(KW h H).get? b=some o):h.get? b=some o/\H b=none:=by
 have e':h.get? b=some o:=PySem.W.of_hideAll (trk h H) e;refine⟨e',?_⟩;cases q:H b with
 |none=>rfl
 |some x=>
  have hm:b∈trk h H:=List.mem_filter.mpr ⟨List.mem_range.mpr (Xa e'),by simp[q]⟩;have z:(KW h H).get? b=none:=PySem.W.hideAll_none (trk h H) hm;rw[z]at e;cases e
def vwu(g h:Heap)(L:Addr):List (Addr×Obj):=(List.range h.objs.size).filterMap λa=>if a=L\/(g.get? a).isSome=true then none else(h.get? a).map λo=>(a,o)
def jq(g h:Heap)(L d:Addr):List (Addr×Obj):=(vwu g h L).filter λp=>decide (p.1≠d)
structure Mod (K:Frag)(mg:Str->Option Value)(base:Heap):Prop where
 kin:K.In base
 glob:base.Ns mainGlobals mg
 blt:∃mb,base.Ns builtinsNs mb/\∀x:Str,x≠"__name__"->mb x=bootBuiltins x
 nolimit:base.NoLimit
structure Cx where
 prog:Program
 w:World
 K:Frag
 mg:Str->Option Value
 base:Heap
 A:Around
 N:List Str
 s₀:Shared
 H₀:Hp
 env:Env
 outer:List Env
 stack:List Env
 ex:List Addr
 fn:Str->Bool
 calm:Bool
 pn:List (Addr×Obj)
 xe:Value->Shared->Prop
def frs(l:List Env):List Addr:=l.filterMap (·.frame)
abbrev Cx.fs(X:Cx):List Addr:=frs X.outer
def Vis(sc:Scope)(x:Str):Prop:=sc.names.lookup x=some .local\/sc.names.lookup x=some .cell\/sc.names.lookup x=some .free
def Loc(sc:Scope)(x:Str):Prop:=sc.names.lookup x=some .local\/sc.names.lookup x=some .cell
def wzc(env:Env)(h:Heap)(m:Str->Option Value)(x:Str)(u:Value):Prop:=
 (env.kindOf x=some .local/\m x=some u)\/((env.kindOf x=some .cell\/env.kindOf x=some .free)/\∃c,env.cells.lookup x=some c/\h.IsCell c (some u))
structure Cx.Ok (X:Cx):Prop where
 mod:Mod X.K X.mg X.base
 kind:X.env.scope.kind=.function
 glob:X.env.globals=mainGlobals
 blt:X.env.builtins=builtinsNs
 above:X.s₀.heap.objs.size<=X.env.locals
 inj:∀x y c,X.env.cells.lookup x=some c->X.env.cells.lookup y=some c->x=y
 has:∀x,(X.env.kindOf x=some .cell\/X.env.kindOf x=some .free)->∃c,X.env.cells.lookup x=some c
 cab:∀x c,X.fn x=true->X.env.cells.lookup x=some c->X.s₀.heap.objs.size<=c
 hd:X.calm=true->X.A.handled=none
 frames:X.A.frames=some X.stack
 stk:X.stack=X.outer\/(X.stack=X.env::X.outer/\X.env.frame=some X.env.locals)
 exf:∀b∈X.ex,b≠X.env.locals/\∀x c,X.env.cells.lookup x=some c->c≠b
 bs:∀b o,X.base.get? b=some o->X.s₀.heap.get? b=some o/\X.H₀ b=none
 bsz:X.base.objs.size<=X.s₀.heap.objs.size
 noex:∀b o,X.base.get? b=some o->b∉X.ex
 exfs:∀b∈X.ex,b∉X.fs
 funs:X.s₀.heap.FunFrames X.base X.outer
 frf:∀b∈X.fs,X.H₀ b=none
structure Inv (X:Cx)(pins:List (Addr×Obj))(O:List (Option V))(H:Hp)(s:Shared):Prop where
 ok:X.Ok
 os:s.os=X.s₀.os
 bare:AllBare s.gens
 base:Un X.fs X.ex X.H₀ H X.s₀.heap s.heap
 loc:∃m,s.heap.Ns X.env.locals m/\∀(i:Nat) (x:Str) (v:V),X.N[i]?=some x->O[i]?=some (some v)->Vis X.env.scope x->∃u,RelV v u/\wzc X.env s.heap m x u
 cell:∀x c,X.env.cells.lookup x=some c->∃v,s.heap.IsCell c v
 free:H X.env.locals=none
 freeC:∀x c,X.env.cells.lookup x=some c->H c=none
 pin:∀p∈X.pn++pins,s.heap.get? p.1=some p.2/\H p.1=none/\p.1≠X.env.locals/\p.1∉X.fs/\∀v,p.2.data≠.cell v
 hok:HOk X.prog X.w H s.heap
 len:O.length=X.N.length
section
variable {X:Cx}{pins:List (Addr×Obj)}{O:List (Option V)}{H H':Hp}{s:Shared}{h':Heap}
theorem Cx.Ok.nofr(ok:X.Ok){b:Addr}{o:Obj}(e:X.base.get? b=some o):b∉X.fs:=λhb=>by
 have:=(ok.funs.mem hb).1;rw[e]at this;cases this
theorem Inv.bs(I:Inv X pins O H s):∀b o,X.base.get? b=some o->s.heap.get? b=some o/\H b=none:=λb o e=>
 ⟨I.base.keep b o (I.ok.bs b o e).1 (I.ok.bs b o e).2 (I.ok.nofr e) (I.ok.noex b o e),I.base.free b o (I.ok.bs b o e).1 (I.ok.bs b o e).2 (I.ok.noex b o e)⟩
theorem Inv.bk(I:Inv X pins O H s):∀b o,X.base.get? b=some o->s.heap.get? b=some o:=λb o e=>(I.bs b o e).1
theorem Inv.mod(I:Inv X pins O H s):Mod X.K X.mg X.base:=I.ok.mod
theorem Inv.kIn(I:Inv X pins O H s):X.K.In s.heap:=I.ok.mod.kin.keeps I.bk
theorem Inv.lt(I:Inv X pins O H s):X.env.locals<s.heap.objs.size:=let ⟨_,hn,_⟩:=I.loc;hn.lt
theorem Inv.sz(I:Inv X pins O H s):X.s₀.heap.objs.size<=s.heap.objs.size:=Y8 I.ok.above (Nat.le_of_lt I.lt)
theorem Inv.nofs(I:Inv X pins O H s){a:Addr}(h:s.heap.objs.size<=a):a∉X.fs:=λhb=>by
 obtain⟨_,o,ho,_⟩:=I.ok.funs.mem hb;exact absurd (Xh (Xa ho) (Y8 I.sz h)) (Yh _)
theorem Inv.cne(I:Inv X pins O H s):∀x c,X.env.cells.lookup x=some c->c≠X.env.locals:=λx c e z=>by
 obtain⟨v,o,ho,hd⟩:=I.cell x c e;obtain⟨m,⟨o',es,ep,ja,jy,_⟩,_⟩:=I.loc;rw[z,ja]at ho;cases ho;rw[jy]at hd;cases hd
theorem Inv.funs(I:Inv X pins O H s):s.heap.FunFrames X.base X.outer:=by
 have all:∀(l:List Env),(∀b∈frs l,b∈X.fs)->X.s₀.heap.FunFrames X.base l->s.heap.FunFrames X.base l:=by
  intro l
  induction l with
  |nil=>intro _ _;trivial
  |cons env r ih=>
   intro hs hl;obtain⟨hk,⟨L,o,hf,hn,ho,hd⟩,hr⟩:=hl;have hL:L∈X.fs:=hs L (by unfold frs;rw[List.filterMap_cons,hf];exact X7);obtain⟨sl,e⟩:=I.base.slot L o ho (I.ok.frf L hL) hL λz=>I.ok.exfs L z hL
   exact⟨hk,⟨L,_,hf,hn,e,hd⟩,ih (λb hb=>hs b (by unfold frs;rw[List.filterMap_cons,hf];exact lc9 _ hb)) hr⟩
 exact all X.outer (λ_ hb=>hb) I.ok.funs
theorem Inv.stack(I:Inv X pins O H s):s.heap.FunFrames X.base X.stack:=by
 rcases I.ok.stk with e|⟨e,hf⟩
 ·rw[e];exact I.funs
 ·rw[e];obtain⟨m,hn,_⟩:=I.loc;refine .cons (by rw[I.ok.kind];decide) hf hn ?_ I.funs;exact Heap.get?_none_of_le (Y8 I.ok.bsz I.ok.above)
theorem Inv.stkSub(I:Inv X pins O H s):∀b∈frs X.stack,b∈X.env.locals::X.fs:=λb hb=>by
 rcases I.ok.stk with e|⟨e,hf⟩
 ·rw[e]at hb;exact lc9 _ hb
 ·rw[e]at hb;unfold frs at hb;rw[List.filterMap_cons,hf]at hb;exact hb
theorem Inv.stkFree(I:Inv X pins O H s):∀b∈frs X.stack,H b=none:=λb hb=>by
 rcases aD (I.stkSub b hb)with e|hb
 ·rw[e];exact I.free
 ·obtain⟨_,o,ho,_⟩:=I.ok.funs.mem hb;exact I.base.free b o ho (I.ok.frf b hb) λz=>I.ok.exfs b z hb
theorem Inv.step{g':Array GenState}{t':Nat}{d':Drawn}{ch:List Addr}(I:Inv X pins O H s)
  (fq:∀b∈ch,(b∈X.ex\/X.s₀.heap.objs.size<=b)/\b≠X.env.locals/\(∀x c,X.env.cells.lookup x=some c->c≠b)/\∀p∈X.pn++pins,p.1≠b)
  (keep:∀b o,b≠X.env.locals->b∉X.fs->b∉ch->s.heap.get? b=some o->H b=none->h'.get? b=some o)
  (slot:∀b o,b≠X.env.locals->b∈X.fs->b∉ch->s.heap.get? b=some o->H b=none->∃sl,h'.get? b=some { o with slots:=sl }) (free:∀b o,b∉ch->s.heap.get? b=some o->H b=none->H' b=none)
  (there:∀b o,b∉ch->s.heap.get? b=some o->∃o',h'.get? b=some o')
  (tups:∀b xs,H b=some (.tup xs)->H' b=some (.tup xs)) (frzs:∀b o u,H b=some (.frz o u)->H' b=some (.frz o u)) (tbls:∀b ps,H b=some (.tbl ps)->∃more,H' b=some (.tbl (ps++more)))
  (ns:∀m,s.heap.Ns X.env.locals m->h'.Ns X.env.locals m) (hok:HOk X.prog X.w H' h') (hg:AllBare g'):
  Inv X pins O H' { s with heap:=h',gens:=g',drawn:=d',toks:=t' }:=by
 have p9:∀b o,X.s₀.heap.get? b=some o->b≠X.env.locals:=λb o e=>Xg (Xh (Xa e) I.ok.above)
 have lm:∀b o,X.s₀.heap.get? b=some o->b∉X.ex->b∉ch:=λb o e hx hb=>by
  rcases(fq b hb).1 with z|z
  ·exact hx z
  ·exact absurd (Xh (Xa e) z) (Yh _)
 have gj:∀x c,X.env.cells.lookup x=some c->∀v,s.heap.IsCell c v->h'.IsCell c v:=λx c e v ⟨o,ho,hd⟩=>by
  have kg:c∉ch:=λz=>(fq c z).2.2.1 x c e rfl
  by_cases hc:c∈X.fs
  ·obtain⟨sl,q⟩:=slot c o (I.cne x c e) hc kg ho (I.freeC x c e);exact⟨_,q,hd⟩
  ·exact⟨o,keep c o (I.cne x c e) hc kg ho (I.freeC x c e),hd⟩
 refine⟨I.ok,I.os,hg,⟨λb o e n hb hx=>?_,λb o e n hb hx=>?_,λb o e n hx=>?_,λb o e hx=>?_,λb xs e=>tups b xs (I.base.tups b xs e),λb o xs e=>frzs b o xs (I.base.frzs b o xs e),λb ps e=>?_⟩,?_,λx c e=>?_,?_,λx c e=>?_,λp hp=>?_,hok,I.len⟩
 ·exact keep b o (p9 b o e) hb (lm b o e hx) (I.base.keep b o e n hb hx) (I.base.free b o e n hx)
 ·obtain⟨sl,e1⟩:=I.base.slot b o e n hb hx;obtain⟨sl',e2⟩:=slot b _ (p9 b o e) hb (lm b o e hx) e1 (I.base.free b o e n hx);exact⟨sl',e2⟩
 ·obtain⟨o',e1⟩:=I.base.there b o e hx;exact free b o' (lm b o e hx) e1 (I.base.free b o e n hx)
 ·obtain⟨o',e1⟩:=I.base.there b o e hx;exact there b o' (lm b o e hx) e1
 ·obtain⟨m1,e1⟩:=I.base.tbls b ps e;obtain⟨m2,e2⟩:=tbls b _ e1;exact⟨m1++m2,by rw[e2,Array.append_assoc]⟩
 ·obtain⟨m,hn,hl⟩:=I.loc;refine⟨m,ns m hn,λi x v e1 e2 e3=>?_⟩;obtain⟨u,r,l⟩:=hl i x v e1 e2 e3;refine⟨u,r,?_⟩;rcases l with l|⟨k,c,e,z⟩
  ·exact .inl l
  ·exact .inr ⟨k,c,e,gj x c e _ z⟩
 ·obtain⟨v,z⟩:=I.cell x c e;exact⟨v,gj x c e v z⟩
 ·obtain⟨m,⟨o,_,_,ho,_⟩,_⟩:=I.loc;exact free _ o (λz=>(fq _ z).2.1 rfl) ho I.free
 ·obtain⟨v,o,ho,hd⟩:=I.cell x c e;exact free c o (λz=>(fq c z).2.2.1 x c e rfl) ho (I.freeC x c e)
 ·obtain⟨e,n,ne,nf,d⟩:=I.pin p hp;have kg:p.1∉ch:=λz=>(fq p.1 z).2.2.2 p hp rfl
  exact⟨keep p.1 p.2 ne nf kg e n,free p.1 p.2 kg e n,ne,nf,d⟩
theorem Inv.un{t':Nat}(I:Inv X pins O H s)(u:Un X.fs [] H H' s.heap h')(hok:HOk X.prog X.w H' h'):Inv X pins O H' { s with heap:=h',toks:=t' }:=by
 obtain⟨m,⟨o,es,ep,ho,r⟩,_⟩:=id I.loc;obtain⟨sl,hL⟩:=u.any ho I.free (by simp);exact I.step (g':=s.gens) (d':=s.drawn) (ch:=[]) (λ_ z=>nomatch z) (λb o _ hb _ e n=>u.keep b o e n hb (by simp)) (λb o _ hb _ e n=>u.slot b o e n hb (by simp)) (λb o _ e n=>u.free b o e n (by simp)) (λb o _ e=>u.there b o e (by simp)) u.tups u.frzs u.tbls (λm' hm=>by
  obtain⟨o',es',ep',ja,r'⟩:=hm;rw[ho]at ja;cases ja;exact⟨_,es',ep',hL,r'⟩) hok I.bare
theorem Inv.call{g':Array GenState}{t':Nat}{d':Drawn}{ch:List Addr}(I:Inv X pins O H s)(u:Un (frs X.stack) ch H H' s.heap h')(hok:HOk X.prog X.w H' h')(hg:AllBare g')
  (fq:∀b∈ch,(b∈X.ex\/X.s₀.heap.objs.size<=b)/\b≠X.env.locals/\(∀x c,X.env.cells.lookup x=some c->c≠b)/\∀p∈X.pn++pins,p.1≠b):
  Inv X pins O H' { s with heap:=h',gens:=g',drawn:=d',toks:=t' }:=by
 obtain⟨m,⟨o,es,ep,ho,r⟩,_⟩:=id I.loc;obtain⟨sl,hL⟩:=u.any ho I.free λz=>(fq _ z).2.1 rfl
 exact I.step (ch:=ch) fq (λb o hL hb hc e n=>u.keep b o e n (λz=>(aD (I.stkSub b z)).elim hL hb) hc) (λb o _ _ hc e n=>u.any e n hc) (λb o hc e n=>u.free b o e n hc) (λb o hc e=>u.there b o e hc) u.tups u.frzs u.tbls (λm' hm=>by
  obtain⟨o',es',ep',ja,r'⟩:=hm;rw[ho]at ja;cases ja;exact⟨_,es',ep',hL,r'⟩) hok hg
theorem Inv.turned{t':Nat}{it:Addr}(I:Inv X pins O H s)(k:∀b o,b≠it->s.heap.get? b=some o->h'.get? b=some o)(hn:H it=none)(hL:it≠X.env.locals)
  (h1:it∈X.ex\/X.s₀.heap.objs.size<=it) (h2:∀x c,X.env.cells.lookup x=some c->c≠it) (h3:∀p∈X.pn++pins,p.1≠it):Inv X pins O H { s with heap:=h',toks:=t' }:=by
 have qf:∀b u,H b=some u->b≠it:=λb u e z=>by rw[z,hn]at e;cases e
 refine I.step (g':=s.gens) (d':=s.drawn) (ch:=[it]) (λb hb=>?_) (λb o _ _ hc e _=>k b o (λz=>hc (by simp[z])) e) (λb o _ _ hc e _=>⟨o.slots,k b o (λz=>hc (by simp[z])) e⟩) (λ_ _ _ _ n=>n)
  (λb o hc e=>⟨o,k b o (λz=>hc (by simp[z])) e⟩) (λ_ _ e=>e) (λ_ _ _ e=>e) (λb ps e=>⟨#[],by rw[e];simp⟩) (λm hm=>?_) (λb u e=>?_) I.bare
 ·have e:b=it:=by simpa using hb
  subst e;exact⟨h1,hL,h2,h3⟩
 ·obtain⟨o,es,ep,ho,r⟩:=hm;exact⟨o,es,ep,k _ o (Zi hL) ho,r⟩
 ·refine(I.hok b u e).stay (λc v hc q=>k c v ?_ q) (λ_ q=>q) λ_ _ q=>q
  rcases hc with z|z
  ·rw[z];exact qf b u e
  ·exact qf c _ z
theorem Inv.tok(I:Inv X pins O H s)(t:Nat):Inv X pins O H { s with toks:=t }:=I.un (h':=s.heap) (t':=t) Un.refl I.hok
theorem Inv.kept{t':Nat}(I:Inv X pins O H s)(k:∀b u,s.heap.get? b=some u->h'.get? b=some u):Inv X pins O H { s with heap:=h',toks:=t' }:=I.un (Un.kept k) (I.hok.kept k)
theorem Inv.laid{a:Addr}{o:HO}{t':Nat}(I:Inv X pins O H s)(k:∀b u,s.heap.get? b=some u->h'.get? b=some u)(hp:s.heap.objs.size<=a)(new:ObjOk X.prog X.w (upd H a o) h' a o):
  Inv X pins O (upd H a o) { s with heap:=h',toks:=t' }:=I.un (Un.laid k hp (I.hok.fresh hp)) (I.hok.laid k hp new)
theorem Inv.write{x e:Addr}{o:HO}{t':Nat}(I:Inv X pins O H s)(mu:Mut (H x))(he:e=x\/H e=some (.own x))(k:∀b u,b≠e->s.heap.get? b=some u->h'.get? b=some u)(om:∃u,h'.get? e=some u)
  (new:ObjOk X.prog X.w (upd H x o) h' x o):Inv X pins O (upd H x o) { s with heap:=h',toks:=t' }:=I.un (Un.write mu he k om) (I.hok.write mu he k om new)
theorem Inv.pins_of{d9:List (Addr×Obj)}(I:Inv X pins O H s)(h:∀p∈d9,s.heap.get? p.1=some p.2/\H p.1=none/\p.1≠X.env.locals/\p.1∉X.fs/\∀v,p.2.data≠.cell v):Inv X d9 O H s:=
 ⟨I.ok,I.os,I.bare,I.base,I.loc,I.cell,I.free,I.freeC,λp hp=>(aA hp).elim (λz=>I.pin p (ll9 _ z)) (h p),I.hok,I.len⟩
theorem kqd{N:List Str}(hN:N.Nodup){i j:Nat}{x:Str}(a:N[i]?=some x)(b:N[j]?=some x):i=j:=by
 obtain⟨h1,e1⟩:=List.getElem?_eq_some_iff.mp a;obtain⟨h2,e2⟩:=List.getElem?_eq_some_iff.mp b;exact(List.getElem_inj hN).mp (e1.trans e2.symm)
theorem qq4{M:Model}{A:Around}{E:Value->Shared->Prop}{i:Nat}{x:Str}{v:V}{u:Value}{Q:Unit->Shared->Prop}(I:Inv X pins O H s)(hN:X.N.Nodup)(hi:X.N[i]?=some x)(hx:Loc X.env.scope x)(r:RelV v u)
  (h:∀s',Inv X pins (O.set i (some v)) H s'->(∃a,Heap.SameBut a s.heap s'.heap/\(a=X.env.locals\/X.env.cells.lookup x=some a))->Q () s') (hf:autoParam (X.fn x=true\/X.env.scope.names.lookup x=some .local) Ř):wpAny M A (storeName X.env x u) Q E s:=by
 obtain⟨m,hn,hl⟩:=id I.loc;have n9:(X.env.scope.kind == .class||(X.env.scope.kind == .module&&X.env.locals != X.env.globals))=false:=by rw[I.ok.kind];rfl
 have sx:i < O.length:=by rw[I.len];exact(List.getElem?_eq_some_iff.mp hi).1
 have cne:=I.cne;have iq:∀{a:Addr} {h':Heap},(∃o,s.heap.get? a=some o/\H a=none)->Heap.SameBut a s.heap h'->HOk X.prog X.w H h':=fun {a h'} ha hs b ob e=>by
  obtain⟨_,_,bv⟩:=ha;refine(I.hok b ob e).stay (λc w' hc q=>(hs.2 c ?_).trans q) (λ_ q=>q) λ_ _ q=>q
  rintro rfl;rcases hc with rfl|hc
  ·rw[bv]at e;cases e
  ·rw[bv]at hc;cases hc
 rcases hx with hk|hk
 ·refine wpAny_storeName_local hk hn (λh' lp hs=>?_) n9;obtain⟨oL,_,_,sk,_⟩:=id hn;refine h _ ⟨I.ok,I.os,I.bare,⟨λb o e n hb hx=>?_,λb o e n hb hx=>?_,I.base.free,λb o e hx=>?_,I.base.tups,I.base.frzs,I.base.tbls⟩,⟨_,lp,λj y v' e1 e2 e3=>?_⟩,λy c e=>?_,I.free,I.freeC,λp hp=>?_,iq ⟨oL,sk,I.free⟩ hs,by simpa using I.len⟩ ⟨_,hs,.inl rfl⟩
  ·exact(hs.2 b (Xg (Xh (Xa e) I.ok.above))).trans (I.base.keep b o e n hb hx)
  ·obtain⟨sl,e1⟩:=I.base.slot b o e n hb hx;exact⟨sl,(hs.2 b (Xg (Xh (Xa e) I.ok.above))).trans e1⟩
  ·obtain⟨o',e1⟩:=I.base.there b o e hx;exact⟨o',(hs.2 b (Xg (Xh (Xa e) I.ok.above))).trans e1⟩
  ·by_cases hj:j=i
   ·subst hj;rw[hi]at e1;cases e1;rw[Z4 sx]at e2;cases e2;exact⟨u,r,.inl ⟨hk,by simp⟩⟩
   ·rw[Ye (Zi hj)]at e2;obtain⟨u',r',q⟩:=hl j y v' e1 e2 e3;refine⟨u',r',?_⟩;rcases q with⟨k,e⟩|⟨k,c,e,z⟩
    ·refine .inl ⟨k,?_⟩;have:y≠x:=λe=>hj (kqd hN e1 (e▸hi))
     simp[this,e]
    ·exact .inr ⟨k,c,e,z.sameBut hs (cne y c e)⟩
  ·obtain⟨w',z⟩:=I.cell y c e;exact⟨w',z.sameBut hs (cne y c e)⟩
  ·obtain⟨e,n,ne,nf,d⟩:=I.pin p hp;exact⟨(hs.2 p.1 ne).trans e,n,ne,nf,d⟩
 ·have hfn:X.fn x=true:=by
   rcases hf with z|z
   ·exact z
   ·rw[z]at hk;cases hk
  obtain⟨c,hc⟩:=I.ok.has x (.inl hk);obtain⟨w',z⟩:=I.cell x c hc;refine wpAny_storeName_cell I.ok.kind hk hc z (λh' gu hs=>?_);obtain⟨oc,hoc,hocd⟩:=id z;refine h { s with heap:=h' } ⟨I.ok,I.os,I.bare,⟨λb o e n hb hx=>?_,λb o e n hb hx=>?_,I.base.free,λb o e hx=>?_,I.base.tups,I.base.frzs,I.base.tbls⟩,⟨m,hn.sameBut hs (Zi (cne x c hc)),λj y v' e1 e2 e3=>?_⟩,λy c' e=>?_,I.free,I.freeC,λp hp=>?_,iq ⟨oc,hoc,I.freeC x c hc⟩ hs,by simpa using I.len⟩ ⟨c,hs,.inr hc⟩
  ·exact(hs.2 b (Xg (Xh (Xa e) (I.ok.cab x c hfn hc)))).trans (I.base.keep b o e n hb hx)
  ·obtain⟨sl,e1⟩:=I.base.slot b o e n hb hx;exact⟨sl,(hs.2 b (Xg (Xh (Xa e) (I.ok.cab x c hfn hc)))).trans e1⟩
  ·obtain⟨o',e1⟩:=I.base.there b o e hx;exact⟨o',(hs.2 b (Xg (Xh (Xa e) (I.ok.cab x c hfn hc)))).trans e1⟩
  ·by_cases hj:j=i
   ·subst hj;rw[hi]at e1;cases e1;rw[Z4 sx]at e2;cases e2;exact⟨u,r,.inr ⟨.inl hk,c,hc,gu⟩⟩
   ·rw[Ye (Zi hj)]at e2;obtain⟨u',r',q⟩:=hl j y v' e1 e2 e3;refine⟨u',r',?_⟩;rcases q with q|⟨k,c',e,z'⟩
    ·exact .inl q
    ·refine .inr ⟨k,c',e,z'.sameBut hs ?_⟩;rintro rfl;exact hj (kqd hN e1 (I.ok.inj _ _ _ e hc▸hi))
  ·by_cases ij:c'=c
   ·subst ij;exact⟨_,gu⟩
   ·obtain⟨w2,z2⟩:=I.cell y c' e;exact⟨w2,z2.sameBut hs ij⟩
  ·obtain⟨e,n,ne,nf,d⟩:=I.pin p hp;refine⟨(hs.2 p.1 ?_).trans e,n,ne,nf,d⟩;intro q;rw[q,hoc]at e;have q':oc=p.2:=oq9 e;exact d w' (by rw[<-q'];exact hocd)
theorem WV{M:Model}{A:Around}{E:Value->Shared->Prop}{i:Nat}{x:Str}{v:V}{u:Value}{Q:Unit->Shared->Prop}(I:Inv X pins O H s)(hN:X.N.Nodup)(hi:X.N[i]?=some x)(hx:Loc X.env.scope x)(r:RelV v u)
  (h:∀s',Inv X pins (O.set i (some v)) H s'->Q () s') (hf:autoParam (X.fn x=true\/X.env.scope.names.lookup x=some .local) Ř):wpAny M A (storeName X.env x u) Q E s:=
 qq4 I hN hi hx r (λs' I' _=>h s' I') hf
theorem Inv.call'{s':Shared}{ch:List Addr}(I:Inv X pins O H s)(ho:s'.os=s.os)(u:Un (frs X.stack) ch H H' s.heap s'.heap)(hok:HOk X.prog X.w H' s'.heap)(hg:AllBare s'.gens)
  (fq:∀b∈ch,(b∈X.ex\/X.s₀.heap.objs.size<=b)/\b≠X.env.locals/\(∀x c,X.env.cells.lookup x=some c->c≠b)/\∀p∈X.pn++pins,p.1≠b):Inv X pins O H' s':=by
 obtain⟨h',g',d',t',o'⟩:=s';have e:o'=s.os:=ho;subst e;exact I.call (g':=g') (t':=t') (d':=d') u hok hg fq
end
abbrev XK:=Value->Option Addr->Hp->Prop
abbrev St:=List (Option V)
abbrev VK:=V->Hp->Prop
abbrev TE:=St->Hp->VK->Prop
abbrev TT:=St->Hp->(Bool->Hp->Prop)->Prop
abbrev TA:=St->Hp->(List V->Hp->Prop)->Prop
structure Ends where
 nx:St->Hp->Prop
 rt:VK
 bk:St->Hp->Prop:=λ_ _=>False
 ct:St->Hp->Prop:=λ_ _=>False
abbrev TS:=Ends->St->Hp->Prop
def EP(X:Cx)(pins:List (Addr×Obj))(O:St)(Q:VK)(u:Value)(s':Shared):Prop:=∃v H',Inv X pins O H' s'/\RelV v u/\Q v H'
def TP(X:Cx)(pins:List (Addr×Obj))(O:St)(Q:Bool->Hp->Prop)(b:Bool)(s':Shared):Prop:=∃H',Inv X pins O H' s'/\Q b H'
def AP(X:Cx)(pins:List (Addr×Obj))(O:St)(Q:List V->Hp->Prop)(us:List Value)(s':Shared):Prop:=∃vs H',Inv X pins O H' s'/\Vals vs us/\Q vs H'
def SP(X:Cx)(pins:List (Addr×Obj))(D:Ends)(f:Flow)(s':Shared):Prop:=
 match f with
 |.next=>∃ σ' H',Inv X pins σ' H' s'/\D.nx σ' H'|.brk=>∃ σ' H',Inv X pins σ' H' s'/\D.bk σ' H'|.cont=>∃ σ' H',Inv X pins σ' H' s'/\D.ct σ' H'|.ret u=>∃v σ' H',Inv X pins σ' H' s'/\RelV v u/\D.rt v H'
def PE(X:Cx)(e:Expr)(t:TE):Prop:=
 ∀(pins:List (Addr×Obj)) (s:Shared) (O:St) (H:Hp) (Q:VK),Inv X pins O H s->t O H Q->wpAny (model X.prog X.w) X.A (eval e X.env) (EP X pins O Q) X.xe s
def PT(X:Cx)(e:Expr)(t:TT):Prop:=
 ∀(pins:List (Addr×Obj)) (s:Shared) (O:St) (H:Hp) (Q:Bool->Hp->Prop),Inv X pins O H s->t O H Q->wpAny (model X.prog X.w) X.A (isTrue e X.env (eval e X.env)) (TP X pins O Q) X.xe s
def PW(X:Cx)(e:Expr)(t:TT):Prop:=
 ∀(fu:Sem Value) (pins:List (Addr×Obj)) (s:Shared) (O:St) (H:Hp) (Q:Bool->Hp->Prop),Inv X pins O H s->t O H Q->wpAny (model X.prog X.w) X.A (isTrue e X.env fu) (TP X pins O Q) X.xe s
theorem PW.pt{X:Cx}{e:Expr}{t:TT}(h:PW X e t):PT X e t:=h _
def PA(X:Cx)(es:List Expr)(t:TA):Prop:=
 ∀(pos:Pos) (pins:List (Addr×Obj)) (s:Shared) (O:St) (H:Hp) (Q:List V->Hp->Prop),Inv X pins O H s->t O H Q->wpAny (model X.prog X.w) X.A (spliced (backTo pos (starEach es X.env))) (AP X pins O Q) X.xe s
def PS(X:Cx)(st:Stmt)(t:TS):Prop:=
 ∀(pins:List (Addr×Obj)) (s:Shared) (O:St) (H:Hp) (D:Ends),Inv X pins O H s->t D O H->wpAny (model X.prog X.w) X.A (exec st X.env) (SP X pins D) X.xe s
def PSs(X:Cx)(st:List Stmt)(t:TS):Prop:=
 ∀(pins:List (Addr×Obj)) (s:Shared) (O:St) (H:Hp) (D:Ends),Inv X pins O H s->t D O H->wpAny (model X.prog X.w) X.A (execs st X.env) (SP X pins D) X.xe s
theorem thn{α:Type}{t:Sem α}{Q Q':α->Shared->Prop}{M:Model}{A:Around}{E:Value->Shared->Prop}{s:Shared}(h:wpAny M A t Q E s)(hQ:∀a s,Q a s->Q' a s):wpAny M A t Q' E s:=Yx h hQ λ_ _ x=>x
section
variable {X:Cx}
abbrev JZ(i:Nat):TE:=fun O H Q=>∃v,O[i]?=some (some v)/\Q v H
abbrev tC(v:V):TE:=λ_ H Q=>Q v H
theorem wj9{i:Nat}{x:Str}{pos:Pos}(hN:X.N[i]?=some x)(hv:Vis X.env.scope x)(hd:autoParam ((x==("__debug__":Str))=false) ŕ)(gr:autoParam ((x==("__classdict__":Str))=false) ŕ):PE X (.Name x pos) (JZ i):=by
 intro pins s O H Q I h;obtain⟨v,e,h⟩:=h;obtain⟨m,hn,hl⟩:=I.loc;obtain⟨u,r,l⟩:=hl i x v hN e hv;have fin:EP X pins O Q u s:=⟨v,H,I,r,h⟩;rcases l with⟨hk,hm⟩|⟨hk,c,hc,hcell⟩
 ·exact wpAny_Name (wpAny_loadName_local I.ok.kind hk hn hm fin) hd
 ·rcases hk with hk|hk
  ·exact wpAny_Name (wpAny_loadName_cell I.ok.kind hk hc hcell fin) hd
  ·exact wpAny_Name (wpAny_loadName_free I.ok.kind hk hc hcell fin gr) hd
theorem wje{i j pos}:PE X (.Constant (.int i) j pos) (tC (.int i)):=λ_ _ _ H _ I h=>wpAny_Constant_int ⟨.int i,H,I.tok _,⟨_,rfl⟩,h⟩
theorem ww2{b j pos}:PE X (.Constant (.bool b) j pos) (tC (.bl b)):=λ_ _ _ H _ I h=>Constant_bool ⟨.bl b,H,I,rfl,h⟩
theorem wjc{j pos}:PE X (.Constant .none j pos) (tC .non):=λ_ _ _ H _ I h=>Constant_none ⟨.non,H,I,rfl,h⟩
theorem kzo{x j pos}:PE X (.Constant (.str x) j pos) (tC (.str x)):=λ_ _ _ H _ I h=>Calls.Constant_str ⟨.str x,H,I.tok _,⟨_,rfl⟩,h⟩
def Gl(X:Cx)(x:Str):Prop:=X.env.kindOf x=some .globalImplicit
theorem WX{E:Value->Shared->Prop}{pins:List (Addr×Obj)}{s:Shared}{O:St}{H:Hp}{x:Str}{u:Value}{pos:Pos}{Q:Value->Shared->Prop}(I:Inv X pins O H s)(hg:Gl X x)(hm:X.mg x=some u)(h:Q u s)
  (hd:autoParam ((x==("__debug__":Str))=false) ŕ):wpAny (model X.prog X.w) X.A (eval (.Name x pos) X.env) Q E s:=
 Calls.Name_function_global I.ok.kind hg (Calls.loadGlobal_global (by rw[I.ok.glob];exact I.mod.glob.keeps I.bk) hm h) hd
theorem Jk{E:Value->Shared->Prop}{pins:List (Addr×Obj)}{s:Shared}{O:St}{H:Hp}{x:Str}{u:Value}{pos:Pos}{Q:Value->Shared->Prop}(I:Inv X pins O H s)(hg:Gl X x)(hm:X.mg x=none)(hv:bootBuiltins x=some u)(h:Q u s)
  (hn:autoParam (x≠"__name__") ŕ) (hd:autoParam ((x==("__debug__":Str))=false) ŕ):wpAny (model X.prog X.w) X.A (eval (.Name x pos) X.env) Q E s:=by
 obtain⟨mb,h1,h2⟩:=I.mod.blt;exact Calls.Name_function_global I.ok.kind hg (Calls.loadGlobal_builtin (by rw[I.ok.glob];exact I.mod.glob.keeps I.bk) hm (by rw[I.ok.blt];exact h1.keeps I.bk) ((h2 x hn).trans hv) h) hd
theorem qv5{x:Str}{v:V}{u:Value}{pos:Pos}(hg:Gl X x)(hm:X.mg x=some u)(r:RelV v u)(hd:autoParam ((x==("__debug__":Str))=false) ŕ):PE X (.Name x pos) (tC v):=
 λ_ _ _ H _ I h=>WX I hg hm ⟨v,H,I,r,h⟩ hd
theorem qv7{x:Str}{v:V}{u:Value}{pos:Pos}(hg:Gl X x)(hm:X.mg x=none)(hv:bootBuiltins x=some u)(r:RelV v u)(hn:autoParam (x≠"__name__") ŕ)(hd:autoParam ((x==("__debug__":Str))=false) ŕ):PE X (.Name x pos) (tC v):=
 λ_ _ _ H _ I h=>Jk I hg hm hv ⟨v,H,I,r,h⟩ hn hd
variable {a b:Expr}{ta tb:TE}{pos:Pos}
variable {tA tB':TT}{jq:List Expr}
abbrev tAnd(t u:TT):TT:=fun O H Q=>t O H λc H1=>if c=true then u O H1 Q else Q false H1
abbrev tOr(t u:TT):TT:=fun O H Q=>t O H λc H1=>if c=true then Q true H1 else u O H1 Q
abbrev tNot(t:TT):TT:=fun O H Q=>t O H λc H1=>Q (!c) H1
theorem vqr(ha:PT X a tA):PW X (.BoolOp .And [a] pos) tA:=by
 intro wh pins s O H Q I h;refine isTrue_and (thn (ha pins s O H Q I h) λc s1 e=>?_);cases c with|true=>exact isTrue_and_nil e|false=>exact e
theorem vzu(ha:PT X a tA):PW X (.BoolOp .Or [a] pos) tA:=by
 intro wh pins s O H Q I h;refine isTrue_or (thn (ha pins s O H Q I h) λc s1 e=>?_);cases c with|false=>exact isTrue_or_nil e|true=>exact e
theorem vzv(ha:PT X a tA)(hb:PW X (.BoolOp .And (b::jq) pos) tB'):PW X (.BoolOp .And (a::b::jq) pos) (tAnd tA tB'):=by
 intro wh pins s O H Q I h;refine isTrue_and (thn (ha pins s O H _ I h) λc s1 ⟨H1,I1,q1⟩=>?_);cases c with|true=>exact hb wh pins s1 O H1 Q I1 q1|false=>exact⟨H1,I1,q1⟩
theorem wvx(ha:PT X a tA)(hb:PW X (.BoolOp .Or (b::jq) pos) tB'):PW X (.BoolOp .Or (a::b::jq) pos) (tOr tA tB'):=by
 intro wh pins s O H Q I h;refine isTrue_or (thn (ha pins s O H _ I h) λc s1 ⟨H1,I1,q1⟩=>?_);cases c with|true=>exact⟨H1,I1,q1⟩|false=>exact hb wh pins s1 O H1 Q I1 q1
theorem vzx(ha:PT X a tA):PT X (.UnaryOp .Not a pos) (tNot tA):=by
 intro pins s O H Q I h;exact isTrue_not (ha pins s O H (λc H1=>Q (!c) H1) I h)
abbrev wv8(ta tb:TE):TE:=fun O H Q=>ta O H λx H1=>∃c,x=.bl c/\if c=true then tb O H1 Q else Q (.bl false) H1
theorem wjb{op}{t:TE}(h:PE X a t):PE X (.BoolOp op [a] pos) t:=λpins s O H Q I hw=>BoolOp_one (h pins s O H Q I hw)
theorem wjg(ha:PE X a ta)(hb:PE X (.BoolOp .And (b::jq) pos) tb):PE X (.BoolOp .And (a::b::jq) pos) (wv8 ta tb):=by
 intro pins s O H Q I h;refine BoolOp_and (thn (ha pins s O H _ I h) λv s1 ⟨x,H1,I1,r1,q1⟩=>?_);obtain⟨c,rfl,q1⟩:=q1;cases r1;refine wpAny_truthy_bool ?_;cases c with|true=>exact hb pins s1 O H1 Q I1 q1|false=>exact⟨.bl false,H1,I1,rfl,q1⟩
abbrev tIf(t:TT)(ta tb:TE):TE:=fun O H Q=>t O H λc H1=>if c=true then ta O H1 Q else tb O H1 Q
theorem qzi{c:Expr}(hc:PT X c tA)(ha:PE X a ta)(hb:PE X b tb):PE X (.IfExp c a b pos) (tIf tA ta tb):=by
 intro pins s O H Q I h;refine wpAny_IfExp (thn (hc pins s O H _ I h) λd s1 ⟨H1,I1,q1⟩=>?_);cases d with|true=>exact ha pins s1 O H1 Q I1 q1|false=>exact hb pins s1 O H1 Q I1 q1
end
def SqL(K:Frag)(H:Hp)(a:Addr)(xs:List V):Prop:=
 Rd H a (.lst xs) \/
  ∃(o:Obj) (ah:Array Value) (n:Nat),K.lookup a=some o/\o.cls=.type "list"/\o.dict=none/\o.data=.seq ah n/\ah.size<=sizeLine/\Vals xs ah.toList
def SqT(K:Frag)(H:Hp)(a:Addr)(xs:List V):Prop:=
 Rd H a (.tup xs) \/
  ∃(o:Obj) (ah:Array Value) (n:Nat),K.lookup a=some o/\o.cls=.type "tuple"/\o.dict=none/\o.data=.seq ah n/\ah.size<=sizeLine/\Vals xs ah.toList
def absV:Value->Option V
 |.none=>some .non|.bool b=>some (.bl b)|.int i _=>some (.int i)|.str x _=>some (.str x)|.bytes b _=>some (.byt b)|.float b _=>some (.flt b)|.ref a=>some (.ref a)|.type n=>some (.ty n)|_=>none
theorem RelV.abs{x:V}{u:Value}(r:RelV x u):absV u=some x:=by
 cases x with|non=>cases r;rfl|bl _=>cases r;rfl|int _=>obtain⟨t,rfl⟩:=r;rfl|str _=>obtain⟨t,rfl⟩:=r;rfl|byt _=>obtain⟨t,rfl⟩:=r;rfl|flt _=>obtain⟨t,rfl⟩:=r;rfl|ref _=>cases r;rfl|ty _=>cases r;rfl
theorem RelV.inj{x y:V}{u:Value}(r:RelV x u)(q:RelV y u):x=y:=oq9 (r.abs.symm.trans q.abs)
theorem Vals.inj:∀{xs ys:List V} {us:List Value},Vals xs us->Vals ys us->xs=ys
 |_,_,_,.nil,.nil=>rfl|_,_,_,.cons r t,.cons r' t'=>by rw[r.inj r',Vals.inj t t']
section
variable {X:Cx}{pins:List (Addr×Obj)}{O:St}{H:Hp}{s:Shared}{a:Addr}{xs ys:List V}
theorem SqL.of{K:Frag}(h:H a=some (.lst xs)):SqL K H a xs:=.inl (.inl h)
theorem SqT.of{K:Frag}(h:H a=some (.tup xs)):SqT K H a xs:=.inl (.inl h)
theorem Inv.list(I:Inv X pins O H s)(h:SqL X.K H a xs):∃ah:List Value,Vals xs ah/\PlainL s.heap a ah.toArray/\xs.length<=sizeLine:=by
 rcases h with h|⟨o,ah,n,hk,hc,hd,hs,hz,r⟩
 ·obtain⟨z,ah,n,r,e⟩:=h.ok I.hok;exact⟨ah,r,⟨_,n,e,rfl,rfl,rfl⟩,z⟩
 ·refine⟨ah.toList,r,⟨o,n,I.kIn a o hk,hc,hd,by simpa using hs⟩,?_⟩;have e:=r.length;simp only[Xj]at e;omega
theorem Inv.tuple(I:Inv X pins O H s)(h:SqT X.K H a xs):∃ah:List Value,Vals xs ah/\IsTup s.heap a ah.toArray/\xs.length<=sizeLine:=by
 rcases h with h|⟨o,ah,n,hk,hc,_,hs,hz,r⟩
 ·obtain⟨z,ah,r,p⟩:=h.ok I.hok;exact⟨ah,r,p.tup,z⟩
 ·refine⟨ah.toList,r,⟨o,I.kIn a o hk,hc,n,by simpa using hs⟩,?_⟩;have e:=r.length;simp only[Xj]at e;omega
theorem Inv.tupleD(I:Inv X pins O H s)(h:SqT X.K H a xs):∃o,s.heap.get? a=some o/\o.dict=none:=by
 rcases h with h|⟨o,ah,n,hk,hc,hd,hs,hz,r⟩
 ·obtain⟨z,ah,r,o,e,_,d,_⟩:=h.ok I.hok;exact⟨o,e,d⟩
 ·exact⟨o,I.kIn a o hk,hd⟩
theorem Inv.list_inj(I:Inv X pins O H s)(h:SqL X.K H a xs)(h':SqL X.K H a ys):xs=ys:=by
 obtain⟨ah,r,⟨o,n,e,_,_,d⟩,_⟩:=I.list h;obtain⟨its',r',⟨o',n',e',_,_,d'⟩,_⟩:=I.list h';rw[e]at e';cases e';rw[d]at d';injection d' with d1 _;have:ah=its':=by simpa using congrArg Array.toList d1
 subst this;exact r.inj r'
theorem Inv.tuple_inj(I:Inv X pins O H s)(h:SqT X.K H a xs)(h':SqT X.K H a ys):xs=ys:=by
 obtain⟨ah,r,⟨o,e,_,n,d⟩,_⟩:=I.tuple h;obtain⟨its',r',⟨o',e',_,n',d'⟩,_⟩:=I.tuple h';rw[e]at e';cases e';rw[d]at d';injection d' with d1 _;have:ah=its':=by simpa using congrArg Array.toList d1
 subst this;exact r.inj r'
end
abbrev Cx.wish(X:Cx)(E:Value->Shared->Prop):Cx:={ X with xe:=E }
abbrev Cx.nox(X:Cx):Cx:=X.wish λ_ _=>False
theorem Cx.Ok.wish{X:Cx}(ok:X.Ok)(E:Value->Shared->Prop):(X.wish E).Ok:=
 ⟨ok.mod,ok.kind,ok.glob,ok.blt,ok.above,ok.inj,ok.has,ok.cab,ok.hd,ok.frames,ok.stk,ok.exf,ok.bs,ok.bsz,ok.noex,ok.exfs,ok.funs,ok.frf⟩
theorem Cx.Ok.unwish{X:Cx}{E:Value->Shared->Prop}(ok:(X.wish E).Ok):X.Ok:=
 ⟨ok.mod,ok.kind,ok.glob,ok.blt,ok.above,ok.inj,ok.has,ok.cab,ok.hd,ok.frames,ok.stk,ok.exf,ok.bs,ok.bsz,ok.noex,ok.exfs,ok.funs,ok.frf⟩
section
variable {X:Cx}{pins:List (Addr×Obj)}{O:St}{H:Hp}{s:Shared}{E:Value->Shared->Prop}
theorem Inv.wish(I:Inv X pins O H s)(E:Value->Shared->Prop):Inv (X.wish E) pins O H s:=⟨I.ok.wish E,I.os,I.bare,I.base,I.loc,I.cell,I.free,I.freeC,I.pin,I.hok,I.len⟩
theorem Inv.unwish(I:Inv (X.wish E) pins O H s):Inv X pins O H s:=⟨I.ok.unwish,I.os,I.bare,I.base,I.loc,I.cell,I.free,I.freeC,I.pin,I.hok,I.len⟩
theorem SP.unwish{D:Ends}{f:Flow}{s':Shared}(h:SP (X.wish E) pins D f s'):SP X pins D f s':=by
 cases f with|next=>obtain⟨σ',H',I,q⟩:=h;exact⟨σ',H',I.unwish,q⟩|brk=>obtain⟨σ',H',I,q⟩:=h;exact⟨σ',H',I.unwish,q⟩|cont=>obtain⟨σ',H',I,q⟩:=h;exact⟨σ',H',I.unwish,q⟩|ret u=>obtain⟨v,σ',H',I,r,q⟩:=h;exact⟨v,σ',H',I.unwish,r,q⟩
end
section
variable {X:Cx}{st:Stmt}{jq:List Stmt}{t u:TS}{e:Expr}{te:TE}{pos:Pos}
abbrev wv5:TS:=λD O H=>D.nx O H
abbrev tSeq(t u:TS):TS:=λD O H=>t { D with nx:=u D } O H
theorem vqy:PSs X [] wv5:=λ_ _ O H _ I h=>Za ⟨O,H,I,h⟩
theorem qza(h1:PS X st t)(h2:PSs X jq u):PSs X (st::jq) (tSeq t u):=by
 intro pins s O H D I h;refine wpAny_execs_cons (thn (h1 pins s O H { D with nx:=u D } I h) λf s1 q=>?_);cases f with
 |next=>
  obtain⟨σ',H',I',q⟩:=q;exact h2 pins s1 σ' H' D I' q
 |ret v=>exact q|brk=>exact q|cont=>exact q
theorem vqx(h1:PS X st t):PSs X [st] t:=by
 intro pins s O H D I h;refine wpAny_execs_cons (thn (h1 pins s O H D I h) λf s1 q=>?_);cases f with|next=>exact Za q|ret v=>exact q|brk=>exact q|cont=>exact q
theorem Inv.quiet{pins:List (Addr×Obj)}{O:St}{H:Hp}{s:Shared}(I:Inv X pins O H s):interactive X.env=false:=by simp[interactive,I.ok.kind]
abbrev vq9(te:TE):TS:=λD O H=>te O H λ_ H1=>D.nx O H1
theorem vv0(he:PE X e te)(hs:autoParam (swapsWith e none pos.line X.env=pure false) Ŕ):PS X (.Expr e pos) (vq9 te):=by
 intro pins s O H D I h;exact wpAny_Expr_any (thn (he pins s O H _ I h) λv s1 ⟨x,H1,I1,r1,q1⟩=>⟨O,H1,I1,q1⟩) I.quiet hs
abbrev tRet(te:TE):TS:=λD O H=>te O H D.rt
theorem wj0(he:PE X e te):PS X (.Return (some e) pos) (tRet te):=by
 intro pins s O H D I h;exact wpAny_Return_some (thn (he pins s O H _ I h) λv s1 ⟨x,H1,I1,r1,q1⟩=>⟨x,O,H1,I1,r1,q1⟩)
abbrev wx8(c:TT)(t u:TS):TS:=λD O H=>c O H λb H1=>if b=true then t D O H1 else u D O H1
theorem wvy{c:Expr}{a b:List Stmt}{tc:TT}(hc:PT X c tc)(ha:PSs X a t)(hb:PSs X b u):PS X (.If c a b pos) (wx8 tc t u):=by
 intro pins s O H D I h;refine wpAny_If (thn (hc pins s O H _ I h) λd s1 ⟨H1,I1,q1⟩=>?_);cases d with|true=>exact ha pins s1 O H1 D I1 q1|false=>exact hb pins s1 O H1 D I1 q1
end
abbrev TG:=V->St->Hp->(St->Hp->Prop)->Prop
abbrev TGs:=List V->St->Hp->(St->Hp->Prop)->Prop
def PG(X:Cx)(f7:Expr)(t:TG):Prop:=
 ∀(pins:List (Addr×Obj)) (s:Shared) (O:St) (H:Hp) (v:V) (u:Value) (Q:St->Hp->Prop),Inv X pins O H s->RelV v u->t v O H Q ->
  wpAny (model X.prog X.w) X.A (assign f7 X.env u) (λ_ s'=>∃ σ' H',Inv X pins σ' H' s'/\Q σ' H') X.xe s
def PGs(X:Cx)(ts:List Expr)(t:TGs):Prop:=
 ∀(pins:List (Addr×Obj)) (s:Shared) (O:St) (H:Hp) (vs:List V) (us:List Value) (Q:St->Hp->Prop),Inv X pins O H s->Vals vs us->t vs O H Q ->
  wpAny (model X.prog X.w) X.A (assignInOrder ((assignEach ts X.env).map (·.2)) us) (λ_ s'=>∃ σ' H',Inv X pins σ' H' s'/\Q σ' H') X.xe s
abbrev wx1:=V->V->V->Hp->(Hp->Prop)->Prop
def wza(X:Cx)(t:wx1):Prop:=
 ∀(pins:List (Addr×Obj)) (s:Shared) (O:St) (H:Hp) (o i v:V) (ov iv u:Value) (Q:Hp->Prop),Inv X pins O H s->RelV o ov->RelV i iv->RelV v u->t o i v H Q ->
  wpAny (model X.prog X.w) X.A (setItem ov iv u) (λ_ s'=>∃H',Inv X pins O H' s'/\Q H') X.xe s
abbrev TIp:=V->V->Hp->VK->Prop
def PIp(X:Cx)(op:Operator)(t:TIp):Prop:=
 ∀(pins:List (Addr×Obj)) (s:Shared) (O:St) (H:Hp) (x y:V) (v u:Value) (Q:VK),Inv X pins O H s->RelV x v->RelV y u->t x y H Q ->
  wpAny (model X.prog X.w) X.A (inplaceOp op v u) (EP X pins O Q) X.xe s
section
variable {X:Cx}{pos:Pos}
abbrev Zz(i:Nat):TG:=λv O H Q=>Q (O.set i (some v)) H
theorem xz{i:Nat}{x:Str}(hN:X.N.Nodup)(hi:X.N[i]?=some x)(hx:Loc X.env.scope x)(hf:autoParam (X.fn x=true\/X.env.scope.names.lookup x=some .local) Ř):PG X (.Name x pos) (Zz i):=by
 intro pins s O H v u Q I r h;exact wpAny_assign_Name (WV I hN hi hx r (λs' I'=>⟨_,H,I',h⟩) hf)
abbrev wz1:TGs:=λvs O H Q=>vs=[]/\Q O H
abbrev wkq(t:TG)(u:TGs):TGs:=λvs O H Q=>∃v r,vs=v::r/\t v O H fun σ' H'=>u r σ' H' Q
theorem kj1:PGs X [] wz1:=by
 intro pins s O H vs us Q I r h;obtain⟨e,h⟩:=h;subst e;cases r;exact assignInOrder_nil ⟨O,H,I,h⟩
theorem zY{e:Expr}{es:List Expr}{t:TG}{u:TGs}(h1:PG X e t)(h2:PGs X es u)
  (hs:autoParam ((assignEach (e::es) X.env).map (·.2)=assign e X.env::(assignEach es X.env).map (·.2)) Ŕ):PGs X (e::es) (wkq t u):=by
 intro pins s O H vs us Q I r h;obtain⟨v,vr,e1,h⟩:=h;subst e1;cases r with
 |cons r rr=>
  rw[hs];refine assignInOrder_cons (thn (h1 pins s O H _ _ _ I r h) λ_ s1 ⟨σ1,H1,I1,q1⟩=>?_);exact h2 pins s1 σ1 H1 _ _ Q I1 rr q1
abbrev gSub(to ti:TE)(t:wx1):TG:=λv O H Q=>to O H λo H1=>ti O H1 λi H2=>t o i v H2 λH3=>Q O H3
theorem wj8{o i:Expr}{to ti:TE}{t:wx1}(ho:PE X o to)(hi:PE X i ti)(hs:wza X t)
  (ha:autoParam (∀v,assign (.Subscript o i pos) X.env v=(do
   let ov <-holding [v] (eval o X.env)
   let iv <-holding [v,ov] (eval i X.env)
   standAt pos
   holding [v,ov,iv] (setItem ov iv v)
   release [v,ov,iv] [])) Ŗ):PG X (.Subscript o i pos) (gSub to ti t):=by
 intro pins s O H v u Q I r h;rw[ha];refine X0 (Xz (thn (ho pins s O H _ I h) λov s1 ⟨x,H1,I1,r1,q1⟩=>?_));refine X0 (Xz (thn (hi pins s1 O H1 _ I1 q1) λiv s2 ⟨y,H2,I2,r2,q2⟩=>?_));refine X0 (wpAny_standAt (X0 (Xz (thn (hs pins s2 O H2 x y v ov iv u _ I2 r1 r2 r q2) λ_ s3 ⟨H3,I3,q3⟩=>?_))));exact wpAny_release ⟨O,H3,I3,q3⟩
abbrev wx9(te:TE)(g:TG):TS:=λD O H=>te O H λx H1=>g x O H1 D.nx
theorem wj3{tg e:Expr}{te:TE}{g:TG}(he:PE X e te)(hg:PG X tg g)(hs:autoParam (swapsWithSole [tg] e pos.line X.env=pure false) Ŕ)(hw:autoParam (swappedStores [tg] e X.env=pure none) Ŕ)
  (h1:autoParam ((assignEach [tg] X.env).map (·.2)=[assign tg X.env]) Ŕ):PS X (.Assign [tg] e pos) (wx9 te g):=by
 intro pins s O H D I h;refine wpAny_Assign_stores (thn (he pins s O H _ I h) λv s1 ⟨x,H1,I1,r1,q1⟩=>?_) hs hw;rw[h1];exact thn (hg pins s1 O H1 x v _ I1 r1 q1) λ_ s2 q=>q
theorem vzz{i:Nat}{x:Str}{e:Expr}{te:TE}{bj:Pos}(hN:X.N.Nodup)(hi:X.N[i]?=some x)(hx:Loc X.env.scope x)(he:PE X e te)(hs:autoParam (swapsWith e (some (.Name x bj)) pos.line X.env=pure false) Ŕ)(hf:autoParam (X.fn x=true\/X.env.scope.names.lookup x=some .local) Ř):
  PS X (.Assign [.Name x bj] e pos) (wx9 te (Zz i)):=by
 intro pins s O H D I h;refine wpAny_Assign_Name (thn (he pins s O H _ I h) λv s1 ⟨y,H1,I1,r1,q1⟩=>?_) hs;exact WV I1 hN hi hx r1 (λs2 I2=>⟨_,H1,I2,q1⟩) hf
abbrev tAug(i:Nat)(te:TE)(ti:TIp):TS:=λD O H=>∃x,O[i]?=some (some x)/\te O H λy H1=>ti x y H1 λz H2=>D.nx (O.set i (some z)) H2
theorem wj2{i:Nat}{x:Str}{e:Expr}{te:TE}{op:Operator}{ti:TIp}{bj:Pos}(hN:X.N.Nodup)(hi:X.N[i]?=some x)(hx:Loc X.env.scope x)(he:PE X e te)(ho:PIp X op ti)(hf:autoParam (X.fn x=true\/X.env.scope.names.lookup x=some .local) Ř):
  PS X (.AugAssign (.Name x bj) op e pos) (tAug i te ti):=by
 intro pins s O H D I h;obtain⟨v,e1,h⟩:=h;obtain⟨m,hn,hl⟩:=I.loc;have vis:Vis X.env.scope x:=by rcases hx with k|k;exact .inl k;exact .inr (.inl k)
 obtain⟨u,r,l⟩:=hl i x v hi e1 vis;refine wpAny_AugAssign_Name ?_;have go:wpAny (model X.prog X.w) X.A (eval e X.env) (λw s₂=>wpAny (model X.prog X.w) X.A (inplaceOp op u w) (λr s₃=>wpAny (model X.prog X.w) X.A (storeName X.env x r) (λ_=>SP X pins D .next) X.xe s₃) X.xe s₂) X.xe s:=by
  refine thn (he pins s O H _ I h) λw s1 ⟨y,H1,I1,r1,q1⟩=>?_
  refine thn (ho pins s1 O H1 v y u w _ I1 r r1 q1) λz s2 ⟨zv,H2,I2,r2,q2⟩=>?_
  exact WV I2 hN hi hx r2 (λs3 I3=>⟨_,H2,I3,q2⟩) hf
 rcases l with⟨hk,hm⟩|⟨hk,c,hc,hcell⟩
 ·exact wpAny_loadName_local I.ok.kind hk hn hm go
 ·rcases hk with hk|hk
  ·exact wpAny_loadName_cell I.ok.kind hk hc hcell go
  ·rcases hx with k|k
   ·have:X.env.scope.names.lookup x=some .free:=hk;rw[k]at this;cases this
   ·have:X.env.scope.names.lookup x=some .free:=hk;rw[k]at this;cases this
def ipI(f:Int->Int->Int):TIp:=λx y H Q=>∃i j,x=.int i/\y=.int j/\Q (.int (f i j)) H
theorem vkh:PIp X .Add (ipI λi j=>i+j):=by
 intro pins s O H x y v u Q I r1 r2 h;obtain⟨i,j,e1,e2,q⟩:=h;subst e1;subst e2;obtain⟨t,rfl⟩:=r1;obtain⟨t',rfl⟩:=r2;exact iadd_int ⟨.int _,H,I.tok _,⟨_,rfl⟩,q⟩
end
section
variable {X:Cx}{pos:Pos}
abbrev vxk(c:TT)(tb:TS):TS:=λD O H=>∃W:Nat->St->Hp->Prop,(∃m,W m O H)/\∀m O H,W m O H ->
 c O H λb H1=>if b=true then ∃N:St->Hp->Prop,(∀ σ' H',N σ' H'->∃m',m'<m/\W m' σ' H')/\tb { D with nx:=N,ct:=N,bk:=D.nx } O H1 else D.nx O H1
theorem qzb{c:Expr}{body:List Stmt}{tc:TT}{tb:TS}(hp:PassesOwn (model X.prog X.w) X.A X.env X.xe)(hc:PT X c tc)(hb:PSs X body tb):PS X (.While c body [] pos) (vxk tc tb):=by
 intro pins s O H D I h;obtain⟨W,⟨m0,w0⟩,fv⟩:=h;refine wpAny_While (codeAny_whileLoop (λn s'=>∃ σ' H',Inv X pins σ' H' s'/\W n σ' H') ?_ m0 ⟨O,H,I,w0⟩);rintro n s1 ⟨σ1,H1,I1,w1⟩;refine Zb hp (thn (hc pins s1 σ1 H1 _ I1 (fv n σ1 H1 w1)) λb s2 ⟨H2,I2,q2⟩=>?_);cases b with
 | true=>
  obtain⟨N,hN,q2⟩:=q2;rw[X8 rfl];refine Zb hp (thn (hb pins s2 σ1 H2 _ I2 q2) λf s3 q3=>?_);cases f with
  |next=>
   obtain⟨σ3,H3,I3,n3⟩:=q3;obtain⟨m',hm,w3⟩:=hN σ3 H3 n3;exact⟨m',hm,σ3,H3,I3,w3⟩
  |cont=>
   obtain⟨σ3,H3,I3,n3⟩:=q3;obtain⟨m',hm,w3⟩:=hN σ3 H3 n3;exact⟨m',hm,σ3,H3,I3,w3⟩
  |brk=>exact q3|ret v=>exact q3
 |false=>
  rw[Xb Bool.false_ne_true];exact Za ⟨σ1,H2,I2,q2⟩
end
structure It where
 go:Nat->Hp->Prop
 yld:Nat->Hp->V->Hp->Prop
 stop:Nat->Hp->Prop
def v8(X:Cx)(pins:List (Addr×Obj))(H:Hp)(b:Addr):Prop:=
 H b=none/\b≠X.env.locals/\b∉X.fs/\(b∈X.ex\/X.s₀.heap.objs.size<=b)/\(∀x c,X.env.cells.lookup x=some c->c≠b)/\∀p∈X.pn++pins,p.1≠b
theorem Inv.fpOk{X:Cx}{pins:List (Addr×Obj)}{O:St}{H H':Hp}{s:Shared}{b:Addr}(I:Inv X pins O H s)(hb:s.heap.objs.size<=b)(hn:H' b=none):v8 X pins H' b:=by
 refine⟨hn,Nat.ne_of_gt (Xh I.lt hb),I.nofs hb,.inr (Y8 I.sz hb),λx c e z=>?_,λp hp z=>?_⟩
 ·obtain⟨v,q⟩:=I.cell x c e;exact absurd (Xh q.lt (by rw[z];exact hb)) (Yh _)
 ·exact absurd (Xh (Xa (I.pin p hp).1) (by rw[z];exact hb)) (Yh _)
structure Turn (P:Program)(w:World)(K:Frag)(tg:Expr)(J:It)(fp:List Addr)(it:Addr)(tn:Nat->Heap->Prop):Prop where
 mem:it∈fp
 obj:∀i h,tn i h->∀b∈fp,∃o,h.get? b=some o/\∀v,o.data≠.cell v
 keep:∀i h h',tn i h->(∀b∈fp,∀o,h.get? b=some o->h'.get? b=some o)->tn i h'
 item:∀(X:Cx),X.prog=P->X.w=w->X.K=K->X.calm=true->∀(i:Nat) (pins:List (Addr×Obj)) (s:Shared) (O:St) (H:Hp) (E:Value->Shared->Prop),Inv X pins O H s->(∀b∈fp,v8 X pins H b)->tn i s.heap->J.go i H ->
  wpAny (model P w) X.A (pyNext (.ref it)) (λr s1=>∃u,r=some u /\
   wpAny (model P w) X.A (letOwnedTupleGo tg (.ref it) u) (λ_ s2=>∃x H',Inv X pins O H' s2/\RelV x u/\J.yld i H x H'/\tn (i+1) s2.heap/\∀b∈fp,H' b=none) E s1) E s
 done:∀(X:Cx),X.prog=P->X.w=w->X.K=K->X.calm=true->∀(i:Nat) (pins:List (Addr×Obj)) (s:Shared) (O:St) (H:Hp) (E:Value->Shared->Prop),Inv X pins O H s->(∀b∈fp,v8 X pins H b)->tn i s.heap->J.stop i H ->
  wpAny (model P w) X.A (pyNext (.ref it)) (λr s1=>r=none/\Inv X pins O H s1) E s
 self:∀(A:Around) (i:Nat) (s:Shared) (Q:Value->Shared->Prop) (E:Value->Shared->Prop),tn i s.heap->Q (.ref it) s->wpAny (model P w) A (pyIter (.ref it)) Q E s
abbrev TI:=St->Hp->(It->Hp->Prop)->Prop
def PIE(X:Cx)(pins:List (Addr×Obj))(O:St)(tg:Expr)(R:It->Hp->Prop)(itv:Value)(s2:Shared):Prop:=
 ∃(it:Addr) (fp:List Addr) (tn:Nat->Heap->Prop) (J:It) (H':Hp),itv=.ref it/\Inv X pins O H' s2/\Turn X.prog X.w X.K tg J fp it tn/\tn 0 s2.heap/\(∀b∈fp,v8 X pins H' b)/\R J H'
def PI(X:Cx)(tg b6:Expr)(wi:TI):Prop:=
 ∀(pins:List (Addr×Obj)) (s:Shared) (O:St) (H:Hp) (R:It->Hp->Prop),Inv X pins O H s->wi O H R ->
  wpAny (model X.prog X.w) X.A (eval b6 X.env) (λv s1=>wpAny (model X.prog X.w) X.A (pyIter v) (PIE X pins O tg R) X.xe s1) X.xe s
theorem vj4 {M : Model} {A : Around} {E : Value -> Shared -> Prop} {s : Shared} {tg : Expr} {it : Addr} {u : Value} {o : Obj} {n : String} {vs : Array Value} {Q : Unit -> Shared -> Prop} (ho : s.heap.get? it = some o) (hc : o.cls = .type n) (hd : o.data = .fields vs)
    (hn : ["enumerate", "zip", "dict_itemiterator", "dict_reverseitemiterator", "odict_iterator", "itertools.zip_longest", "itertools.pairwise"].contains n = false) (hQ : Q () s): wpAny M A (letOwnedTupleGo tg (.ref it) u) Q E s:= by
  unfold letOwnedTupleGo;cases tg <;> first
    |exact X2 hQ
    |(cases u <;> first
        |exact X2 hQ
        | (refine X0 (wpAny_load ho ?_)
           rw[hc, hd];show wpAny M A (if(["enumerate", "zip", "dict_itemiterator", "dict_reverseitemiterator", "odict_iterator", "itertools.zip_longest", "itertools.pairwise"].contains n&&vs[0]? == some (rawInt _)) = true then _ else _) Q E s;rw[Xb (by intro h; rw[hn, Bool.false_and]at h; cases h)];exact X2 hQ))
def Itl(K:Frag)(a:Addr):It:=
 ⟨λi H=>∃xs x,SqL K H a xs/\xs[i]?=some x,λi H x H'=>H'=H/\∀xs,SqL K H a xs->xs[i]?=some x,λi H=>∃xs,SqL K H a xs/\xs.length<=i⟩
def Itt(K:Frag)(a:Addr):It:=
 ⟨λi H=>∃xs x,SqT K H a xs/\xs[i]?=some x,λi H x H'=>H'=H/\∀xs,SqT K H a xs->xs[i]?=some x,λi H=>∃xs,SqT K H a xs/\xs.length<=i⟩
def Itr(lo:Int)(n:Nat):It:=⟨λi _=>i<n,λi H x H'=>H'=H/\x=.int (lo+i),λi _=>n<=i⟩
theorem qkx{P:Program}{w:World}{K:Frag}{tg:Expr}(a it:Addr):Turn P w K tg (Itl K a) [it] it (λi h=>h.IsListIter it a i) where
 mem:=by simp
 obj:=λi h st b hb=>by
  have e:b=it:=by simpa using hb
  subst e;obtain⟨o,e,c,d⟩:=st;exact⟨o,e,λv z=>by rw[d]at z;cases z⟩
 keep:=λi h h' st k=>st.at λo e=>k it (by simp) o e
 item:=by
  intro X hP hw hK hc i pins s O H E I hf st hg;subst hP hw hK;obtain⟨xs,x,hq,hx⟩:=hg;obtain⟨ah,rv,p,hz⟩:=I.list hq;obtain⟨u,hu,ru⟩:=rv.get hx;obtain⟨f0,f1,f2,f3,f4,f5⟩:=hf it (by simp);refine wpAny_pyNext_list_item st p.isList (x:=u) (by simpa using hu) λh' ef sb=>?_
  have I1:Inv X pins O H { s with heap:=h' }:=I.turned (t':=s.toks) (λb o hb e=>(sb.2 b hb).trans e) f0 f1 f3 f4 f5;obtain⟨o,e,c,d⟩:=id ef;exact⟨u,rfl,vj4 (s:={ s with heap:=h' }) e c d ⋯ ⟨x,H,I1,ru,⟨rfl,λys hy=>by rw[I.list_inj hy hq];exact hx⟩,ef,λb hb=>(hf b hb).1⟩⟩
 done:=by
  intro X hP hw hK hc i pins s O H E I hf st hg;subst hP hw hK;obtain⟨xs,hq,hx⟩:=hg;obtain⟨ah,rv,p,hz⟩:=I.list hq;obtain⟨f0,f1,f2,f3,f4,f5⟩:=hf it (by simp);have hl:=rv.length;exact wpAny_pyNext_list_end (I.ok.hd hc) st p.isList (by simp;omega) λh' eb=>⟨rfl,I.turned (t':=s.toks) (λb o hb e=>eb b o hb e) f0 f1 f3 f4 f5⟩
 self:=λ_ _ _ _ _ st h=>wpAny_pyIter_listiter st h
theorem qjm{P:Program}{w:World}{K:Frag}{tg:Expr}(a it:Addr):Turn P w K tg (Itt K a) [it] it (λi h=>h.IsTupleIter it a i) where
 mem:=by simp
 obj:=λi h st b hb=>by
  have e:b=it:=by simpa using hb
  subst e;obtain⟨o,e,c,d⟩:=st;exact⟨o,e,λv z=>by rw[d]at z;cases z⟩
 keep:=λi h h' st k=>st.at λo e=>k it (by simp) o e
 item:=by
  intro X hP hw hK hc i pins s O H E I hf st hg;subst hP hw hK;obtain⟨xs,x,hq,hx⟩:=hg;obtain⟨ah,rv,p,hz⟩:=I.tuple hq;obtain⟨u,hu,ru⟩:=rv.get hx;obtain⟨f0,f1,f2,f3,f4,f5⟩:=hf it (by simp);refine wpAny_pyNext_tuple_item st (show s.heap.IsTuple a ah.toArray from p) (x:=u) (by simpa using hu) λh' ef sb=>?_
  have I1:Inv X pins O H { s with heap:=h' }:=I.turned (t':=s.toks) (λb o hb e=>(sb.2 b hb).trans e) f0 f1 f3 f4 f5;obtain⟨o,e,c,d⟩:=id ef;exact⟨u,rfl,vj4 (s:={ s with heap:=h' }) e c d ⋯ ⟨x,H,I1,ru,⟨rfl,λys hy=>by rw[I.tuple_inj hy hq];exact hx⟩,ef,λb hb=>(hf b hb).1⟩⟩
 done:=by
  intro X hP hw hK hc i pins s O H E I hf st hg;subst hP hw hK;obtain⟨xs,hq,hx⟩:=hg;obtain⟨ah,rv,p,hz⟩:=I.tuple hq;obtain⟨f0,f1,f2,f3,f4,f5⟩:=hf it (by simp);have hl:=rv.length;exact wpAny_pyNext_tuple_end (I.ok.hd hc) st (show s.heap.IsTuple a ah.toArray from p) (by simp;omega) λh' eb=>⟨rfl,I.turned (t':=s.toks) (λb o hb e=>eb b o hb e) f0 f1 f3 f4 f5⟩
 self:=λ_ _ _ _ _ st h=>wpAny_pyIter_tupleiter st h
theorem qjn{P:Program}{w:World}{K:Frag}{tg:Expr}(it:Addr)(lo:Int)(n:Nat):Turn P w K tg (Itr lo n) [it] it (λi h=>IsRangeIter h it (lo+(i:Nat)*1) ((n:Int) - (i:Nat)) 1) where
 mem:=by simp
 obj:=λi h st b hb=>by
  have e:b=it:=by simpa using hb
  subst e;exact⟨_,st,λv z=>by
   have z':Data.fields _=Data.cell v:=z;cases z'⟩
 keep:=λi h h' st k=>k it (by simp) _ st
 item:=by
  intro X hP hw hK hc i pins s O H E I hf st hg;subst hP hw hK;obtain⟨f0,f1,f2,f3,f4,f5⟩:=hf it (by simp);have W:=Walks.range (prog:=X.prog) (w:=X.w) (I.ok.hd hc) it lo 1 n;refine W.item i s _ _ hg st λv h' tk hv ef kk=>?_
  obtain⟨t,rfl⟩:=hv;have I1:Inv X pins O H { s with heap:=h',toks:=tk }:=I.turned (λb o hb e=>kk b o (by simpa using hb) e) f0 f1 f3 f4 f5;refine⟨_,rfl,vj4 (s:={ s with heap:=h',toks:=tk }) (n:="range_iterator") ef rfl rfl ⋯ ⟨.int (lo+i),H,I1,⟨t,?_⟩,⟨rfl,rfl⟩,ef,λb hb=>(hf b hb).1⟩⟩;rw[Int.mul_one]
 done:=by
  intro X hP hw hK hc i pins s O H E I hf st hg;subst hP hw hK;obtain⟨f0,f1,f2,f3,f4,f5⟩:=hf it (by simp);exact wpAny_pyNext_range_end (I.ok.hd hc) st (by have:n<=i:=hg;omega) λh' eb=>⟨rfl,I.turned (t':=s.toks) (λb o hb e=>eb b o hb e) f0 f1 f3 f4 f5⟩
 self:=λ_ _ _ _ _ st h=>wpAny_pyIter_rangeiter st h
section
variable {X:Cx}{tg:Expr}
theorem qz2{pins:List (Addr×Obj)}{O:St}{H:Hp}{s:Shared}{R:It->Hp->Prop}{E:Value->Shared->Prop}{lo hi:Int}{t u v:Tok}{tk:Nat}(I:Inv X pins O H s)(h1:-(2 ^ 62)<=lo)(h2:lo<2 ^ 62)(h3:-(2 ^ 62)<=hi)(h4:hi<2 ^ 62)
  (q:R (Itr lo (hi - lo).toNat) H):wpAny (model X.prog X.w) X.A (pyIter (.ref s.heap.objs.size)) (PIE X pins O tg R) E { s with heap:=s.heap.push { cls:=.type "range",data:=.fields #[.int lo t,.int hi u,.int 1 v] },toks:=tk }:=by
 refine wpAny_pyIter_range (IsRange.new ..) (small_one h1 h2 h3 h4) ?_;have I1:Inv X pins O H { s with heap:=s.heap.push { cls:=.type "range",data:=.fields #[.int lo t,.int hi u,.int 1 v] },toks:=tk }:=I.kept λb o e=>X1 _ e
 refine⟨(s.heap.push { cls:=.type "range",data:=.fields #[.int lo t,.int hi u,.int 1 v] }).objs.size,[(s.heap.push { cls:=.type "range",data:=.fields #[.int lo t,.int hi u,.int 1 v] }).objs.size],_,_,H,rfl,
  I1.kept (t':=tk) λb o e=>X1 _ e,qjn _ lo (hi - lo).toNat,?_,λb hb=>?_,q⟩
 ·have e1:lo+((0:Nat):Int)*1=lo:=by simp
  have e2:(((hi - lo).toNat:Nat):Int) - ((0:Nat):Int)=Builtin.Range.rangeSize lo hi 1:=by rw[rangeSize_one];split<;>omega
  show IsRangeIter _ _ (lo+((0:Nat):Int)*1) ((((hi - lo).toNat:Nat):Int) - ((0:Nat):Int)) 1;rw[e1,e2];exact X6 _ rfl
 ·have e:b=(s.heap.push { cls:=.type "range",data:=.fields #[.int lo t,.int hi u,.int 1 v] }).objs.size:=by simpa using hb
  subst e;exact I1.fpOk (X9 _) (I1.hok.fresh (X9 _))
abbrev wwi(ta:TA):TI:=fun O H R=>ta O H λvs H1=>∃j:Int,vs=[.int j]/\-(2 ^ 62)<=j/\j<2 ^ 62/\R (Itr 0 j.toNat) H1
theorem qv2{a:Expr}{ta:TA}{p pos:Pos}(hg:Gl X "range")(hm:X.mg "range"=none)(ha:PA X [a] ta)(hs:autoParam (starEach [a] X.env=[(false,eval a X.env)]) Ŕ):PI X tg (.Call (.Name "range" p) [a] [] pos) (wwi ta):=by
 intro pins s O H R I h;refine Call_ (Jk I hg hm boot_range (Y5 (thn (ha pos pins s O H _ I h) λus s1 ⟨vs,H1,I1,r1,q1⟩=>?_) hs rfl));obtain⟨j,e,q1,q2,q⟩:=q1;subst e;cases r1 with
 |cons r rr=>
  cases rr;obtain⟨t,rfl⟩:=r;exact call_range_1 (qz2 I1 ⋯ ⋯ q1 q2 (by simpa using q))
abbrev tFor(wi:TI)(g:TG)(tb:TS):TS:=λD O H=>wi O H λJ H1=>∃W:Nat->Nat->St->Hp->Prop,(∃m,W 0 m O H1)/\∀i m O H,W i m O H ->
 (J.stop i H/\D.nx O H)\/(J.go i H/\∃N:St->Hp->Prop,(∀ σ' H',N σ' H'->∃m',m'<m/\W (i+1) m' σ' H')/\∀x H',J.yld i H x H'->g x O H' fun σ2 H2=>tb { D with nx:=N,ct:=N,bk:=D.nx } σ2 H2)
def K8(fp:List Addr)(h:Heap):List (Addr×Obj):=fp.filterMap λb=>(h.get? b).map λo=>(b,o)
theorem jxy{fp:List Addr}{h:Heap}{b:Addr}{o:Obj}(hb:b∈fp)(e:h.get? b=some o):(b,o)∈K8 fp h:=List.mem_filterMap.mpr ⟨b,hb,by rw[e];rfl⟩
theorem kvk{fp:List Addr}{h:Heap}{p:Addr×Obj}(hp:p∈K8 fp h):p.1∈fp/\h.get? p.1=some p.2:=by
 obtain⟨b,hb,e⟩:=List.mem_filterMap.mp hp;cases q:h.get? b with
 |none=>rw[q]at e;cases e
 |some o=>
  rw[q]at e;have e':(b,o)=p:=oq9 e;subst e';exact⟨hb,q⟩
theorem Inv.pinned{pins:List (Addr×Obj)}{O:St}{H:Hp}{s:Shared}{fp:List Addr}(I:Inv X pins O H s)(hf:∀b∈fp,v8 X pins H b)(ho:∀b∈fp,∃o,s.heap.get? b=some o/\∀v,o.data≠.cell v):Inv X (pins++K8 fp s.heap) O H s:=
 I.pins_of λp hp=>(aA hp).elim (λz=>I.pin p (lr9 _ z)) λz=>by
  obtain⟨hb,e⟩:=kvk z;obtain⟨f0,f1,f2,_⟩:=hf p.1 hb;obtain⟨o,e',d⟩:=ho p.1 hb;rw[e]at e';cases e';exact⟨e,f0,f1,f2,d⟩
theorem Inv.unpinned{pins pl:List (Addr×Obj)}{O:St}{H:Hp}{s:Shared}(I:Inv X (pins++pl) O H s):Inv X pins O H s:=I.pins_of λp hp=>I.pin p (lr9 _ (ll9 _ hp))
theorem wj1{b6:Expr}{body:List Stmt}{wi:TI}{g:TG}{tb:TS}{pos:Pos}(hp:PassesOwn (model X.prog X.w) X.A X.env X.xe)(hc:X.calm=true)(hi:PI X tg b6 wi)(hg:PG X tg g)(hb:PSs X body tb)
  (hs:autoParam (∀x,foldedSetIterable b6 X.env x=pure x) Ŗ):PS X (.For tg b6 body [] pos) (tFor wi g tb):=by
 intro pins s O H D I h;refine wpAny_For (thn (hi pins s O H _ I h) λv s1 h1=>thn h1 λitv s2 h2=>?_) hs;obtain⟨it,fp,tn,J,H2,e,I2,T,c8,f2,W,⟨m0,w0⟩,fv⟩:=h2;subst e;have ic:∀{H':Hp},(∀b∈fp,H' b=none)->∀b∈fp,v8 X pins H' b:=λhn b hb=>⟨hn b hb,(f2 b hb).2⟩
 refine codeAny_forLoop_any (λn s'=>∃i σ' H',Inv X pins σ' H' s'/\tn i s'.heap/\(∀b∈fp,H' b=none)/\W i n σ' H') ?_ m0 ⟨0,O,H2,I2,c8,λb hb=>(f2 b hb).1,w0⟩;rintro n s3 ⟨i,σ3,H3,I3,fc,fr3,w3⟩;rcases fv i n σ3 H3 w3 with⟨stop,qn⟩|⟨go,N,hN,step⟩
 ·refine Zb hp (thn (T.done X rfl rfl rfl hc i pins s3 σ3 H3 X.xe I3 (ic fr3) fc stop) λr s4 ⟨hr,I4⟩=>?_);subst hr;exact Za ⟨σ3,H3,I4,qn⟩
 ·refine Zb hp (thn (T.item X rfl rfl rfl hc i pins s3 σ3 H3 X.xe I3 (ic fr3) fc go) λr s4 ⟨u,hr,h4⟩=>?_);subst hr;refine Zb hp (thn h4 λ_ s5 ⟨x,H5,I5,r5,y5,la,fr5⟩=>?_);have I5':=I5.pinned (ic fr5) (T.obj _ _ la);refine Zb hp (thn (hg _ s5 σ3 H5 x u _ I5' r5 (step x H5 y5)) λ_ s6 ⟨σ6,H6,I6,q6⟩=>?_);refine Zb hp (thn (hb _ s6 σ6 H6 _ I6 q6) λf s7 q7=>?_);have again:∀{σ7:St} {H7:Hp},Inv X (pins++K8 fp s5.heap) σ7 H7 s7->N σ7 H7->∃m,m<n/\∃i σ' H',Inv X pins σ' H' s7/\tn i s7.heap/\(∀b∈fp,H' b=none)/\W i m σ' H':=fun {σ7 H7} I7 n7=>by
   obtain⟨m',hm,w7⟩:=hN σ7 H7 n7;refine⟨m',hm,i+1,σ7,H7,I7.unpinned,T.keep _ _ _ la λb hb o e=>(I7.pin (b,o) (lr9 _ (lr9 _ (jxy hb e)))).1,λb hb=>?_,w7⟩;obtain⟨o,e,d⟩:=T.obj _ _ la b hb;exact(I7.pin (b,o) (lr9 _ (lr9 _ (jxy hb e)))).2.1
  cases f with|next=>obtain⟨σ7,H7,I7,n7⟩:=q7;exact again I7 n7|cont=>obtain⟨σ7,H7,I7,n7⟩:=q7;exact again I7 n7|brk=>obtain⟨σ7,H7,I7,q7⟩:=q7;exact⟨σ7,H7,I7.unpinned,q7⟩|ret v=>obtain⟨x7,σ7,H7,I7,r7,q7⟩:=q7;exact⟨x7,σ7,H7,I7.unpinned,r7,q7⟩
end
abbrev R2:=V->V->Hp->VK->Prop
def OpR(X:Cx)(f:Value->Value->Sem Value)(r:R2):Prop:=
 ∀(pins:List (Addr×Obj)) (s:Shared) (O:St) (H:Hp) (x y:V) (v u:Value) (Q:VK),Inv X pins O H s->RelV x v->RelV y u->r x y H Q ->
  wpAny (model X.prog X.w) X.A (f v u) (EP X pins O Q) X.xe s
def CallR(X:Cx)(f:Value)(r:List V->Hp->VK->Prop):Prop:=
 ∀(pins:List (Addr×Obj)) (s:Shared) (O:St) (H:Hp) (xs:List V) (us:List Value) (Q:VK),Inv X pins O H s->Vals xs us->r xs H Q ->
  wpAny (model X.prog X.w) X.A (call f us) (EP X pins O Q) X.xe s
def TruR(X:Cx)(r:V->Hp->(Bool->Hp->Prop)->Prop):Prop:=
 ∀(pins:List (Addr×Obj)) (s:Shared) (O:St) (H:Hp) (x:V) (v:Value) (Q:Bool->Hp->Prop),Inv X pins O H s->RelV x v->r x H Q ->
  wpAny (model X.prog X.w) X.A (truthy v) (TP X pins O Q) X.xe s
abbrev tOp(r:R2)(ta tb:TE):TE:=fun O H Q=>ta O H λx H1=>tb O H1 λy H2=>r x y H2 Q
abbrev tUn(r:V->Hp->VK->Prop)(ta:TE):TE:=fun O H Q=>ta O H λx H1=>r x H1 Q
def rI(C:Int->Int->Prop)(g:Int->Int->V):R2:=λx y H Q=>∃i j,x=.int i/\y=.int j/\C i j/\Q (g i j) H
def rI0(g:Int->Int->V):R2:=λx y H Q=>∃i j,x=.int i/\y=.int j/\Q (g i j) H
section
variable {X:Cx}{a b c:Expr}{ta tb tc:TE}{pos:Pos}
theorem wwy(ha:PE X a ta)(hb:PE X b tb){pins:List (Addr×Obj)}{s:Shared}{O:St}{H:Hp}{R:V->V->Hp->Prop}(I:Inv X pins O H s)
  (h:ta O H λx H1=>tb O H1 λy H2=>R x y H2) {Q:Value->Shared->Prop} {f:Value->Value->Sem Value}
  (hf:∀v u s2 x y H2,Inv X pins O H2 s2->RelV x v->RelV y u->R x y H2->wpAny (model X.prog X.w) X.A (f v u) Q X.xe s2):
  wpAny (model X.prog X.w) X.A (eval a X.env) (λv s₁=>wpAny (model X.prog X.w) X.A (eval b X.env) (λu s₂=>wpAny (model X.prog X.w) X.A (f v u) Q X.xe s₂) X.xe s₁) X.xe s:=by
 refine thn (ha pins s O H _ I h) λv s1 ⟨x,H1,I1,r1,q1⟩=>?_
 refine thn (hb pins s1 O H1 _ I1 q1) λu s2 ⟨y,H2,I2,r2,q2⟩=>?_
 exact hf v u s2 x y H2 I2 r1 r2 q2
theorem ww0{op:Operator}{r:R2}(ho:OpR X (binaryOp op) r)(ha:PE X a ta)(hb:PE X b tb):PE X (.BinOp a op b pos) (tOp r ta tb):=by
 intro pins s O H Q I h;exact wpAny_BinOp (wwy ha hb I h λv u s2 x y H2 I2 rx ry q=>ho pins s2 O H2 x y v u Q I2 rx ry q)
theorem opI{f:Value->Value->Sem Value}{C:Int->Int->Prop}{g:Int->Int->Int}
  (rule:∀(i j:Int) (t u:Tok) (s:Shared) (Q:Value->Shared->Prop) (E:Value->Shared->Prop),C i j->Q (.int (g i j) s.toks) { s with toks:=s.toks+1 }->wpAny (model X.prog X.w) X.A (f (.int i t) (.int j u)) Q E s):
  OpR X f (rI C λi j=>.int (g i j)):=by
 intro pins s O H x y v u Q I rx ry h;obtain⟨i,j,rfl,rfl,hc,q⟩:=h;obtain⟨t,rfl⟩:=rx;obtain⟨t',rfl⟩:=ry;exact rule i j t t' s _ _ hc ⟨.int (g i j),H,I.tok _,⟨_,rfl⟩,q⟩
theorem wxs{f:Value->Value->Sem Value}{g:Int->Int->Int}
  (rule:∀(i j:Int) (t u:Tok) (s:Shared) (Q:Value->Shared->Prop) (E:Value->Shared->Prop),Q (.int (g i j) s.toks) { s with toks:=s.toks+1 }->wpAny (model X.prog X.w) X.A (f (.int i t) (.int j u)) Q E s):
  OpR X f (rI0 λi j=>.int (g i j)):=by
 intro pins s O H x y v u Q I rx ry h;obtain⟨i,j,rfl,rfl,q⟩:=h;obtain⟨t,rfl⟩:=rx;obtain⟨t',rfl⟩:=ry;exact rule i j t t' s _ _ ⟨.int (g i j),H,I.tok _,⟨_,rfl⟩,q⟩
theorem wqx{f:Value->Value->Sem Value}{g:Int->Int->Bool}
  (rule:∀(i j:Int) (t u:Tok) (s:Shared) (Q:Value->Shared->Prop) (E:Value->Shared->Prop),Q (.bool (g i j)) s->wpAny (model X.prog X.w) X.A (f (.int i t) (.int j u)) Q E s):
  OpR X f (rI0 λi j=>.bl (g i j)):=by
 intro pins s O H x y v u Q I rx ry h;obtain⟨i,j,rfl,rfl,q⟩:=h;obtain⟨t,rfl⟩:=rx;obtain⟨t',rfl⟩:=ry;exact rule i j t t' s _ _ ⟨.bl (g i j),H,I,rfl,q⟩
theorem op_add:OpR X (binaryOp .Add) (rI0 λi j=>.int (i+j)):=wxs λ_ _ _ _ _ _ _ q=>add_int q
theorem kvg:OpR X (binaryOp .Sub) (rI0 λi j=>.int (i - j)):=wxs λ_ _ _ _ _ _ _ q=>sub_int q
theorem wjj:OpR X (binaryOp .Mod) (rI (λ_ j=>0<j) λi j=>.int (i % j)):=opI λi j _ _ _ _ _ hc q=>by
 have h1:(0:Int)<j:=hc;exact mod_int' ⋯ (by rw[Int.fmod_eq_emod_of_nonneg i ⋯];exact q)
end
section
variable {X:Cx}{a b c:Expr}{ta tb tc:TE}{pos:Pos}
theorem qwl{pins:List (Addr×Obj)}{O:St}{H:Hp}{s:Shared}{Q:VK}{k k':Bool}(I:Inv X pins O H s)(q:Q (.bl k) H)(e:k=k'):EP X pins O Q (.bool k') s:=by
 subst e;exact⟨.bl k,H,I,rfl,q⟩
theorem qvc:OpR X (compareOp .Lt) (rI0 λi j=>.bl (decide (i<j))):=wqx λ_ _ _ _ _ _ _ q=>lt_int q
theorem vvh:OpR X (compareOp .LtE) (rI0 λi j=>.bl (decide (i<=j))):=wqx λ_ _ _ _ _ _ _ q=>le_int q
theorem wjk:OpR X (compareOp .Gt) (rI0 λi j=>.bl (decide (j<i))):=wqx λ_ _ _ _ _ _ _ q=>gt_int q
theorem ww6:OpR X (compareOp .GtE) (rI0 λi j=>.bl (decide (j<=i))):=wqx λ_ _ _ _ _ _ _ q=>ge_int q
theorem qvd:OpR X (compareOp .In) (λx y H Q=>∃i j,x=.str i/\y=.str j/\Q (.bl (!(Builtin.Str.occurrences j i 0 j.length 1).isEmpty)) H):=by
 intro pins s O H x y v u Q I rx ry h;obtain⟨i,j,rfl,rfl,q⟩:=h;obtain⟨t,rfl⟩:=rx;obtain⟨t',rfl⟩:=ry;exact in_str (qwl I q rfl)
theorem kvi : OpR X (compareOp .Is) (λx y H Q=>y = .non /\ Q (.bl (decide (x = .non))) H):= by
  intro pins s O H x y v u Q I rx ry h;obtain⟨rfl, q⟩:= h;cases ry;refine is_none_gen (qwl I q ?_);cases x <;> first
    |(cases rx; rfl)
    |(obtain⟨t, rfl⟩:= rx; rfl)
theorem qvb : OpR X (compareOp .IsNot) (λx y H Q=>y = .non /\ Q (.bl (!decide (x = .non))) H):= by
  intro pins s O H x y v u Q I rx ry h;obtain⟨rfl, q⟩:= h;cases ry;refine isnot_none_gen (qwl I q ?_);cases x <;> first
    |(cases rx; rfl)
    |(obtain⟨t, rfl⟩:= rx; rfl)
theorem OpR.or{f:Value->Value->Sem Value}{r r':R2}(h:OpR X f r)(h':OpR X f r'):OpR X f (λx y H Q=>r x y H Q\/r' x y H Q):=by
 intro pins s O H x y v u Q I rx ry q;rcases q with q|q
 ·exact h pins s O H x y v u Q I rx ry q
 ·exact h' pins s O H x y v u Q I rx ry q
def kq(b:Expr){op:CmpOp}(h:autoParam (op≠.In) ŕ)(h2:autoParam (op≠.NotIn) ŕ):behindInMarks op b=false:=by
 have e1:(op==CmpOp.In)=false:=by cases op<;>first|rfl|exact absurd rfl h
 have e2:(op==CmpOp.NotIn)=false:=by cases op<;>first|rfl|exact absurd rfl h2
 cases b<;>simp[behindInMarks,e1,e2]
theorem vv9{op:CmpOp}{r:R2}(ho:OpR X (compareOp op) r)(ha:PE X a ta)(hb:PE X b tb)(hm:behindInMarks op b=false):PE X (.Compare a [op] [b] pos) (tOp r ta tb):=by
 intro pins s O H Q I h;exact wpAny_Compare1 (wwy ha hb I h λv u s2 x y H2 I2 rx ry q=>ho pins s2 O H2 x y v u Q I2 rx ry q) hm
abbrev wv4(t:TE):TT:=fun O H Q=>t O H λx H'=>∃k,x=.bl k/\Q k H'
theorem vqw{op:CmpOp}{r:R2}(ho:OpR X (compareOp op) r)(ha:PE X a ta)(hb:PE X b tb)(hm:behindInMarks op b=false):PT X (.Compare a [op] [b] pos) (wv4 (tOp r ta tb)):=by
 intro pins s O H Q I h;refine wpAny_isTrue_Compare1 (thn (ha pins s O H _ I h) λv s1 ⟨x,H1,I1,r1,q1⟩=>thn (hb pins s1 O H1 _ I1 q1) λu s2 ⟨y,H2,I2,r2,q2⟩=>
  thn (ho pins s2 O H2 x y v u _ I2 r1 r2 q2) λc s3 ⟨z,H3,I3,r3,k,e,q3⟩=>?_) hm
 subst e;cases r3;exact wpAny_truthy_bool ⟨H3,I3,q3⟩
noncomputable def wx0(K:Frag)(x:V)(H:Hp)(k:Bool):Prop:=
 match x with
 |.non=>k=false|.bl b=>k=b|.int i=>k=(i != 0)|.str y=>y.length<=sizeLine/\k=((y.length:Int) != 0)|.byt y=>y.size<=sizeLine/\k=((y.size:Int) != 0)|.ref p=>(∃xs,SqL K H p xs/\k=!xs.isEmpty)\/(∃xs,SqT K H p xs/\k=!xs.isEmpty)\/∃kvs,H p=some (.dK kvs)/\k=!kvs.isEmpty|_=>False
theorem qkb{κ:Type}{kvs:List (κ×V)}{vs:List (κ×Value)}(r:KV kvs vs):(!vs.isEmpty)=!kvs.isEmpty:=by
 cases r<;>rfl
theorem kkf{xs:List V}{ah:List Value}(r:Vals xs ah):(!ah.toArray.isEmpty)=!xs.isEmpty:=by
 cases r<;>simp
theorem W2:(sizeLine:Nat)<2 ^ 63:=by rw[sizeLine_eq];decide
theorem vxi:TruR X (λx H Q=>∃k,wx0 X.K x H k/\Q k H):=by
 intro pins s O H x v Q I rx h;obtain⟨k,e,q⟩:=h;have hl:=W2;have hs:sizeLine=16777216:=sizeLine_eq;cases x with
 | non=>
  cases rx;have e':k=false:=e;subst e';exact truthy_none ⟨H,I,q⟩
 | bl b=>
  cases rx;have e':k=b:=e;subst e';exact wpAny_truthy_bool ⟨H,I,q⟩
 | int i=>
  obtain⟨t,rfl⟩:=rx;have e':k=(i != 0):=e;subst e';exact PySem.P.truthy_int ⟨H,I,q⟩
 | str y=>
  obtain⟨t,rfl⟩:=rx;obtain⟨hy,e'⟩:y.length<=sizeLine/\k=((y.length:Int) != 0):=e;subst e';exact PySem.P.truthy_str ⋯ ⟨H,I.tok _,q⟩
 | byt y=>
  obtain⟨t,rfl⟩:=rx;obtain⟨hy,e'⟩:y.size<=sizeLine/\k=((y.size:Int) != 0):=e;subst e';exact PySem.W.truthy_bytes ⋯ ⟨H,I.tok _,q⟩
 | ref p=>
  cases rx;have e':(∃xs,SqL X.K H p xs/\k=!xs.isEmpty)\/(∃xs,SqT X.K H p xs/\k=!xs.isEmpty)\/∃kvs,H p=some (.dK kvs)/\k=!kvs.isEmpty:=e;rcases e' with⟨xs,hx,e'⟩|⟨xs,hx,e'⟩|⟨kvs,hx,e'⟩
  ·subst e';obtain⟨ah,r,pl,hz⟩:=I.list hx;have av:=r.length;exact wpAny_truthy_list pl.isList (by simp only[X5];omega) ⟨H,I.tok _,by rw[kkf r];exact q⟩
  ·subst e';obtain⟨ah,r,pl,hz⟩:=I.tuple hx;have av:=r.length;exact truthy_tuple pl (by simp only[X5];omega) ⟨H,I.tok _,by rw[kkf r];exact q⟩
  ·subst e';obtain⟨hz,hS,vs,r,m⟩:kvs.length<=sizeLine/\(p==sysModules)=false/\∃vs,KV kvs vs/\s.heap.DictOf (xx X.prog X.w) p vs:=I.hok p _ hx;have av:kvs.length=vs.length:=Paired.length r;exact wpAny_truthy_dict hS m ⋯ ⟨H,I.tok _,by rw[qkb r];exact q⟩
 |_=>exact(show False from e).elim
theorem qz9(ha:PE X a ta)(he:∀fu,isTrue a X.env fu=(do let v <-fu;standAt a.pos;holding [v] (truthy v))):
  PT X a (fun O H Q=>ta O H λx H'=>∃k,wx0 X.K x H' k/\Q k H'):=by
 intro pins s O H Q I h;exact isTrue_plain (thn (ha pins s O H _ I h) λv s1 ⟨x,H1,I1,r1,q1⟩=>vxi pins s1 O H1 x v Q I1 r1 q1) (he _)
theorem op_add_str:OpR X (binaryOp .Add) (λx y H Q=>∃i j,x=.str i/\y=.str j/\i.length+j.length<=sizeLine/\Q (.str (i++j)) H):=by
 intro pins s O H x y v u Q I rx ry h;obtain⟨i,j,rfl,rfl,hz,q⟩:=h;obtain⟨t,rfl⟩:=rx;obtain⟨t',rfl⟩:=ry;exact add_str (λt' tk=>⟨.str (i++j),H,I.tok _,⟨_,rfl⟩,q⟩) hz
theorem z5{x:V}{us:List Value}(r:Vals [x] us):∃u,us=[u]/\RelV x u:=by
 cases r with|cons r1 r2=>cases r2;exact⟨_,rfl,r1⟩
theorem vq5{x y:V}{us:List Value}(r:Vals [x,y] us):∃u w',us=[u,w']/\RelV x u/\RelV y w':=by
 cases r with
 |cons r1 r2=>
  cases r2 with|cons r3 r4=>cases r4;exact⟨_,_,rfl,r1,r3⟩
theorem qx0:CallR X (.type "int") (λxs H Q=>(∃i,xs=[.int i]/\Q (.int i) H)\/∃k,xs=[.bl k]/\Q (.int (if k then 1 else 0)) H):=by
 intro pins s O H xs us Q I r h;rcases h with⟨i,rfl,q⟩|⟨k,rfl,q⟩
 ·obtain⟨u,rfl,t,rfl⟩:=z5 r;exact call_int_int ⟨.int i,H,I,⟨_,rfl⟩,q⟩
 ·obtain⟨u,rfl,r1⟩:=z5 r;cases r1;exact call_int_bool ⟨.int (if k then 1 else 0),H,I.tok _,⟨_,rfl⟩,q⟩
end
theorem RelO.some_of{v:V}{o:Option Value}(r:RelO (some v) o):∃u,o=some u/\RelV v u:=by
 cases o with|none=>exact(show False from r).elim|some u=>exact⟨u,rfl,r⟩
structure Cls (K:Frag)(C:Addr):Prop where
 pg:PySem.W.plainGet K C Str.empty=true
 hd:PySem.W.hasDictIn K C=true
 po:PySem.W.plainOver K C=true
 sa:findIn K (.ref C) "__setattr__"=some (some (.builtin "object.__setattr__"))
section
variable {X:Cx}{pins:List (Addr×Obj)}{O:St}{H:Hp}{s:Shared}{A:Around}{E:Value->Shared->Prop}{Q:Value->Shared->Prop}{c:Value}{b:Bool}
inductive TyOf (K:Frag)(H:Hp):V->Value->Prop where
 | non:TyOf K H .non (.type "NoneType")
 | bl (x:Bool):TyOf K H (.bl x) (.type "bool")
 | int (i:Int):TyOf K H (.int i) (.type "int")
 | str (x:Str):TyOf K H (.str x) (.type "str")
 | flt (x:UInt64):TyOf K H (.flt x) (.type "float")
 | lst {a:Addr} {xs:List V} (e:H a=some (.lst xs)):TyOf K H (.ref a) (.type "list")
 | frz {a:Addr} {o:Obj} {xs:List V} (e:H a=some (.frz o (.lst xs))):TyOf K H (.ref a) (.type "list")
 | tup {a:Addr} {xs:List V} (e:H a=some (.tup xs)):TyOf K H (.ref a) (.type "tuple")
 | dK {a:Addr} {kvs:List (Key×V)} (e:H a=some (.dK kvs)):TyOf K H (.ref a) (.type "dict")
 | dT {a:Addr} {kvs:List (List Key×V)} (e:H a=some (.dT kvs)):TyOf K H (.ref a) (.type "dict")
 | ins {a C dx:Addr} {fs:List (Str×V)} (e:H a=some (.ins C dx fs)) (cl:Cls K C) (ha:findIn K (.ref C) "__class__"=some (some (.builtin "object.__class__")))
   (hn:PySem.W.specialIn K (.builtin "object.__class__") "__get__"=some (some (.builtin "getset_descriptor.__get__"))) (htk:PySem.W.takesIn K (.builtin "object.__class__")=some true)
   (hm:PySem.W.mroIn K C (.type "object")=some true):TyOf K H (.ref a) (.ref C)
end
structure Room (k:Nat)(A:Around):Prop where
 hd:A.handled=none
 dp:A.depth+3*k+5<recursionLimit
 un:A.units+16*k+200<cLine
 gd:A.guards=some []
theorem Room.mono{j k:Nat}{A:Around}(r:Room k A)(h:j<=k):Room j A:=⟨r.hd,by have:=r.dp;omega,by have:=r.un;omega,r.gd⟩
theorem Room.deeper{k:Nat}{A:Around}(r:Room (k+1) A)(env:Env):Room k (A.deeper env):=
 ⟨r.hd,by have:=r.dp;show A.depth+1+3*k+5<_;omega,by have:=r.un;show A.units+3+16*k+200<_;omega,r.gd⟩
theorem Room.depth{k:Nat}{A:Around}(r:Room k A):A.depth<recursionLimit:=by have:=r.dp;omega
theorem Room.units{k:Nat}{A:Around}(r:Room k A):A.units+64<cLine:=by have:=r.un;omega
abbrev wqs:TA:=λ_ H Q=>Q [] H
abbrev qxq(ta:TE)(tr:TA):TA:=fun O H Q=>ta O H λx H1=>tr O H1 λxs H2=>Q (x::xs) H2
section
variable {X:Cx}{e:Expr}{es:List Expr}{te:TE}{t:TA}{pos:Pos}
def wq:PA X [] wqs:=λ_ _ _ _ H Q I h=>Calls.spliced_nil ⟨[],H,I,.nil,h⟩
theorem qZ(ha:PE X e te)(hr:PA X es t)(hs:autoParam (starEach (e::es) X.env=(false,eval e X.env)::starEach es X.env) Ŕ):PA X (e::es) (qxq te t):=by
 intro pos pins s O H Q I h;rw[hs];show wpAny _ _ (spliced ((false,eval e X.env)::backTo pos (starEach es X.env))) _ _ s;refine Calls.spliced_cons (thn (ha pins s O H _ I h) λu s1 ⟨x,H1,I1,r1,q1⟩=>?_);exact thn (hr pos pins s1 O H1 _ I1 q1) λus s2 ⟨xs,H2,I2,r2,q2⟩=>⟨x::xs,H2,I2,.cons r1 r2,q2⟩
abbrev tTup(t:TA):TE:=fun O H Q=>t O H λxs H1=>xs.length<=sizeLine/\∀p,H1 p=none->Q (.ref p) (upd H1 p (.tup xs))
abbrev tLst(t:TA):TE:=fun O H Q=>t O H λxs H1=>xs.length<=sizeLine/\∀p,H1 p=none->Q (.ref p) (upd H1 p (.lst xs))
theorem vka{x1}(h:PA X es t):PE X (.Tuple es x1 pos) (tTup t):=by
 intro pins s O H Q I hq;refine wpAny_Tuple_spliced (thn (h pos pins s O H _ I hq) λus s1 ⟨xs,H1,I1,r,z,q⟩=>⟨by rw[<-r.length];exact z,?_⟩);have hf:H1 s1.heap.objs.size=none:=I1.hok.fresh (X9 _);refine⟨.ref s1.heap.objs.size,upd H1 s1.heap.objs.size (.tup xs),I1.laid (t':=s1.toks) (λb u e=>X1 _ e) (X9 _) ?_,rfl,q _ hf⟩;exact⟨z,us,r,⟨_,X6 _ rfl,rfl,rfl,_,rfl⟩⟩
theorem wjd(h:PA X es t):PE X (.List es pos) (tLst t):=by
 intro pins s O H Q I hq;refine wpAny_List_spliced (thn (h pos pins s O H _ I hq) λus s1 ⟨xs,H1,I1,r,z,q⟩=>⟨by rw[<-r.length];exact z,?_⟩);have hf:H1 s1.heap.objs.size=none:=I1.hok.fresh (X9 _);refine⟨.ref s1.heap.objs.size,upd H1 s1.heap.objs.size (.lst xs),I1.laid (t':=s1.toks) (λb u e=>X1 _ e) (X9 _) ?_,rfl,q _ hf⟩;exact⟨z,us,0,r,X6 _ rfl⟩
end
abbrev Sp:=List V->Hp->VK->XK->Prop
abbrev CXT:=List Env->Hp->Shared->XK->Value->Shared->Prop
structure Env0 (P:Program)(w:World)(K:Frag)(mg:Str->Option Value)(base:Heap)(A:Around)(outer:List Env)(s:Shared)(H:Hp):Prop where
 frames:A.frames=some outer
 mod:Mod K mg base
 bs:∀b o,base.get? b=some o->s.heap.get? b=some o/\H b=none
 bsz:base.objs.size<=s.heap.objs.size
 funs:s.heap.FunFrames base outer
 frf:∀b∈frs outer,H b=none
 hok:HOk P w H s.heap
 bare:AllBare s.gens
def CE(outer:List Env)(P:Program)(w:World)(H:Hp)(s:Shared)(Q:VK)(u:Value)(s':Shared):Prop:=
 ∃v H',s'.os=s.os/\AllBare s'.gens/\Un (frs outer) [] H H' s.heap s'.heap/\HOk P w H' s'.heap/\RelV v u/\Q v H'
def CR(CX:CXT)(outer:List Env)(P:Program)(w:World)(H:Hp)(s:Shared)(Q:VK)(E:XK)(r:Result)(s':Shared):Prop:=
 match r with
 |.ok (.ret u)=>CE outer P w H s Q u s'|.ok _=>False|.error e=>CX outer H s E e s'
structure FnOk (P:Program)(w:World)(K:Frag)(mg:Str->Option Value)(base:Heap)(CX:CXT)(k:Nat)(f:Addr)(fd:FuncData)(ps:List Str)(sp:Sp):Prop where
 len:∀vs H Q E,sp vs H Q E->vs.length=ps.length
 run:∀(A:Around) (outer:List Env) (s:Shared) (H:Hp) (args:Args) (us:List Value) (vs:List V) (Q:VK) (E:XK),Room k A->Env0 P w K mg base A outer s H->BindsTo s fd args (ps.zip us)->Vals vs us->sp vs H Q E ->
  codeAny (model P w) A (.call (.ref f) args) (CR CX outer P w H s Q E) s
section
variable {X:Cx}{pins:List (Addr×Obj)}{O:St}{H:Hp}{s s':Shared}
theorem Inv.env0(I:Inv X pins O H s):Env0 X.prog X.w X.K X.mg X.base X.A X.stack s H:=
 ⟨I.ok.frames,I.ok.mod,I.bs,Y8 I.ok.bsz I.sz,I.stack,I.stkFree,I.hok,I.bare⟩
theorem Inv.after{Q:VK}{u:Value}(I:Inv X pins O H s)(h:CE X.stack X.prog X.w H s Q u s'):EP X pins O Q u s':=by
 obtain⟨v,H',os,bare,un,hok,r,q⟩:=h;obtain⟨hh,g,d,t,nj⟩:=s';obtain rfl:nj=s.os:=os;exact⟨v,H',I.call (h':=hh) (g':=g) (d':=d) (t':=t) (ch:=[]) un hok bare (λb z=>absurd z (by simp)),r,q⟩
end
abbrev qxr(sp:Sp)(mh:List V)(E:XK)(t:TA):TE:=fun O H Q=>t O H λvs H1=>sp (vs++mh) H1 Q E
def Binds(K:Frag)(fd:FuncData)(ps:List Str)(ds:List Value):Prop:=
 ∀(s:Shared) (us:List Value),K.In s.heap->(us++ds).length=ps.length->BindsTo s fd ⟨us,[]⟩ (ps.zip (us++ds))
theorem Binds.all{K:Frag}{fd:FuncData}{ps:List Str}(h:∀us:List Value,us.length=ps.length->bindArgs fd ⟨us,[]⟩=pure (ps.zip us)):Binds K fd ps []:=λs us _ hl=>by
 rw[Xr]at hl ⊢;exact .of_eq (h us hl)
def qxj(CX:CXT)(X:Cx)(E:XK):Prop:=∀(pins:List (Addr×Obj)) (O:St) (H:Hp) (s:Shared) (e:Value) (s':Shared),Inv X pins O H s->CX X.stack H s E e s'->X.xe e s'
section
variable {X:Cx}{CX:CXT}{k:Nat}{f C:Addr}{fd:FuncData}{ps:List Str}{sp:Sp}{mh:List V}{ds:List Value}{E:XK}{x m:Str}{p pos br:Pos}{e o:Expr}{es:List Expr}{ta:TE}{t:TA}
theorem vz2{pins:List (Addr×Obj)}{O:St}{H:Hp}{s:Shared}{Q:VK}{us:List Value}{vs:List V}(F:FnOk X.prog X.w X.K X.mg X.base CX k f fd ps sp)(hr:Room k X.A)(hb:Binds X.K fd ps ds)(hd:Vals mh ds)(hx:qxj CX X E)
  (I:Inv X pins O H s) (r:Vals vs us) (h:sp (vs++mh) H Q E):wpAny (model X.prog X.w) X.A (call (.ref f) us) (EP X pins O Q) X.xe s:=by
 have r2:Vals (vs++mh) (us++ds):=r.append hd;have hl:(us++ds).length=ps.length:=by rw[<-r2.length];exact F.len _ _ _ _ h
 refine wpAny_call (codeAny_mono (F.run X.A X.stack s H ⟨us,[]⟩ (us++ds) (vs++mh) Q E hr I.env0 (hb s us I.kIn hl) r2 h) λr s' hq=>?_);cases r with
 |error e=>exact hx pins O H s e s' I hq
 |ok fl=>
  cases fl with|ret u=>exact I.after hq|next=>exact False.elim hq|brk=>exact False.elim hq|cont=>exact False.elim hq
theorem vva(F:FnOk X.prog X.w X.K X.mg X.base CX k f fd ps sp)(hr:Room k X.A)(hg:Gl X x)(hm:X.mg x=some (.ref f))(hk:PySem.W.keepIn X.K (.ref f)=true)(hb:Binds X.K fd ps ds)(hd:Vals mh ds)(hx:qxj CX X E)
  (ha:PA X (e::es) t) (db:autoParam ((x==("__debug__":Str))=false) ŕ) (he:autoParam (starEach (e::es) X.env=(false,eval e X.env)::starEach es X.env) Ŕ) (bp:autoParam ((backTo pos (starEach es X.env)).any (·.1)=false) Ŕ):
  PE X (.Call (.Name x p) (e::es) [] pos) (qxr sp mh E t):=by
 intro pins s O H Q I h;refine Yf (WX I hg hm ?_ db);refine PySem.W.callWith_K (h₀:=X.base) I.ok.mod.kin hk (thn (ha pos pins s O H _ I h) λus s1 ⟨vs,H1,I1,r,q⟩=>⟨I1.kIn,?_⟩) he bp;exact vz2 F hr hb hd hx I1 r q
end
structure FnScope (N P:List Str)(sc:Scope):Prop where
 kind:sc.kind=.function
 co:sc.isCoroutine=false
 gen:sc.isGenerator=false
 nd:N.Nodup
 pre:N.take P.length=P
 par:∀x∈P,sc.names.lookup x=some .local\/sc.names.lookup x=some .cell
 nofree:∀y∈sc.names,y.2≠.free
theorem kwj{kindOf : Str -> Option NameKind}{x : Str}: ∀{binds : List (Str × Value)} {m : Str -> Option Value}, (∀v, (x, v)∉binds) -> bindL kindOf binds m x = m x
  | [], _, _=>rfl
  | (n, v)::r, m, h=>by
    unfold bindL;rw[kwj λw hw=>h w (lc9 _ hw)]
    split
    · have : x≠n:= by rintro rfl; exact h v X7
      simp[this]
    · rfl
theorem kwl{kindOf : Str -> Option NameKind}{x : Str}: ∀{binds : List (Str × Value)} {m : Str -> Option Value}, (∀v, (x, v)∉binds) -> bindC kindOf binds m x = m x
  | [], _, _=>rfl
  | (n, v)::r, m, h=>by
    unfold bindC;rw[kwl λw hw=>h w (lc9 _ hw)]
    split
    · rfl
    · have : x≠n:= by rintro rfl; exact h v X7
      simp[this]
theorem kwk{kindOf:Str->Option NameKind}{x:Str}{v:Value}:∀{P:List Str} {vs:List Value} {i:Nat} {m:Str->Option Value},P.Nodup->P[i]?=some x->vs[i]?=some v->kindOf x=some .local ->
  bindL kindOf (P.zip vs) m x=some v
 |[],_,_,_,_,h,_,_=>by simp at h|_::_,[],_,_,_,_,h,_=>by simp at h
 |p::P,w::vs,0,m,nd,h1,h2,hk=>by
  simp at h1 h2;subst h1;subst h2;show bindL kindOf ((p,w)::P.zip vs) m p=_;unfold bindL;rw[kwj λv hv=>(List.nodup_cons.mp nd).1 (List.of_mem_zip hv).1,X8 hk];simp
 |p::P,w::vs,i+1,m,nd,h1,h2,hk=>by
  show bindL kindOf ((p,w)::P.zip vs) m x=_;unfold bindL;exact kwk (i:=i) (List.nodup_cons.mp nd).2 (by simpa using h1) (by simpa using h2) hk
theorem kwm{kindOf:Str->Option NameKind}{x:Str}{v:Value}:∀{P:List Str} {vs:List Value} {i:Nat} {m:Str->Option Value},P.Nodup->P[i]?=some x->vs[i]?=some v->kindOf x≠some .local ->
  bindC kindOf (P.zip vs) m x=some v
 |[],_,_,_,_,h,_,_=>by simp at h|_::_,[],_,_,_,_,h,_=>by simp at h
 |p::P,w::vs,0,m,nd,h1,h2,hk=>by
  simp at h1 h2;subst h1;subst h2;show bindC kindOf ((p,w)::P.zip vs) m p=_;unfold bindC;rw[kwl λv hv=>(List.nodup_cons.mp nd).1 (List.of_mem_zip hv).1,Xb hk];simp
 |p::P,w::vs,i+1,m,nd,h1,h2,hk=>by
  show bindC kindOf ((p,w)::P.zip vs) m x=_;unfold bindC;exact kwm (i:=i) (List.nodup_cons.mp nd).2 (by simpa using h1) (by simpa using h2) hk
def start(N:List Str)(vs:List V):St:=vs.map some++List.replicate (N.length - vs.length) none
noncomputable def zJ(CX:CXT)(P:Program)(w:World)(K:Frag)(mg:Str->Option Value)(base:Heap)(N:List Str)(qual:Str)(scope:Scope)(f:Addr)(cd:Value)(A:Around)(outer:List Env)(s:Shared)(H:Hp)(E:XK):Cx where
 prog:=P
 w:=w
 K:=K
 mg:=mg
 base:=base
 A:=A.deeper (envOfC qual scope s.heap.objs.size f cd)
 N:=N
 s₀:=s
 H₀:=H
 env:=envOfC qual scope s.heap.objs.size f cd
 outer:=outer
 stack:=envOfC qual scope s.heap.objs.size f cd::outer
 ex:=[]
 calm:=true
 fn:=λ_=>true
 pn:=[]
 xe:=λe s'=>wpAny (model P w) (A.deeper (envOfC qual scope s.heap.objs.size f cd)) (leaving (envOfC qual scope s.heap.objs.size f cd) e) (λ_ jg=>CX outer H s E e jg) (λe' jg=>CX outer H s E e' jg) s'
theorem qjc{sc:Scope}{n:Nat}{x:Str}(h:sc.names.lookup x=some .cell):∃c,(cellsFrom n sc.names []).lookup x=some c:=by
 have q:=PySem.W.cellsFrom_some sc.names n [] (.inl h);exact Option.isSome_iff_exists.mp q
theorem qw6{CX:CXT}{P:Program}{w:World}{K:Frag}{mg:Str->Option Value}{base:Heap}{N ps:List Str}{qual:Str}{scope:Scope}{f:Addr}{cd:Value}{A:Around}{outer:List Env}{s s1:Shared}{H:Hp}{E:XK}{us:List Value}{vs:List V}
  (S:FnScope N ps scope) (hd:A.handled=none) (e0:Env0 P w K mg base A outer s H) (hl:vs.length=ps.length) (r:Vals vs us)
  (x:InCallC s s.heap.objs.size (bindL (envOfC qual scope s.heap.objs.size f cd).kindOf (ps.zip us) λ_=>none) (cellsFrom (s.heap.objs.size+1) scope.names []) (bindC (envOfC qual scope s.heap.objs.size f cd).kindOf (ps.zip us) λ_=>none) s1):
  Inv (zJ CX P w K mg base N qual scope f cd A outer s H E) [] (start N vs) H s1:=by
 have bp:ps.length<=N.length:=by have:=congrArg List.length S.pre;rw[Ya]at this;omega
 obtain⟨h1,tk,rfl,hk⟩:=x.done;have su:∀b:Addr,b∉(zJ CX P w K mg base N qual scope f cd A outer s H E).ex:=λb z=>absurd (show b∈([]:List Addr)from z) (by simp)
 refine⟨⟨e0.mod,S.kind,rfl,rfl,X9 _,λy z c h1 h2=>?_,λy hy=>?_,λy c _ h=>?_,λ_=>hd,Around.frames_deeper e0.frames,.inr ⟨rfl,rfl⟩,λb z=>absurd z (su b),e0.bs,e0.bsz,λb _ _=>su b,λb z=>absurd z (su b),e0.funs,e0.frf⟩,
  rfl,e0.bare,Un.kept hk,⟨_,x.toInCall.ns,λi y v h1 h2 h3=>?_⟩,λy c h=>⟨_,x.cell y c h⟩,e0.hok.fresh (X9 _),λy c h=>?_,λp hp=>absurd (show p∈([]:List (Addr×Obj))from hp) (by simp),e0.hok.kept hk,?_⟩
 ·exact name_of_addr x.apart (Yr h1) (Yr h2)
 ·have hy:scope.names.lookup y=some .cell\/scope.names.lookup y=some .free:=hy;rcases hy with hy|hy
  ·exact qjc hy
  ·exact absurd rfl (S.nofree _ (Yr hy))
 ·exact Nat.le_of_lt (x.above y c (Yr h))
 ·have hi:i<vs.length:=by
   unfold start at h2
   by_cases hi:i<vs.length
   ·exact hi
   ·rw[List.getElem?_append_right (by simpa using hi)]at h2;rw[List.getElem?_replicate]at h2
    split at h2<;>cases h2
  have ha:vs[i]?=some v:=by
   unfold start at h2;rw[List.getElem?_append_left (by simpa using hi),Xp]at h2;cases e:vs[i]? with|none=>rw[e]at h2;cases h2|some a=>rw[e]at h2;cases h2;rfl
  obtain⟨u,hu,rv⟩:=r.get ha;have hp:ps[i]?=some y:=by
   rw[<-S.pre,List.getElem?_take_of_lt ⋯];exact h1
  have ndP:ps.Nodup:=by rw[<-S.pre];exact S.nd.sublist (List.take_sublist _ _)
  refine⟨u,rv,?_⟩;rcases S.par y (List.mem_of_getElem? hp)with k|k
  ·exact .inl ⟨k,kwk ndP hp hu k⟩
  ·obtain⟨c,e⟩:=qjc (n:=s.heap.objs.size+1) k;refine .inr ⟨.inl k,c,e,?_⟩;have q:=x.cell y c e;rw[kwm ndP hp hu (by show scope.names.lookup y≠_;rw[k];decide)]at q;exact q
 ·exact e0.hok.fresh (Nat.le_of_lt (x.above y c (Yr h)))
 ·unfold start;show _=N.length;rw[Xf,X4,Yv];omega
theorem wkr{CX:CXT}{P:Program}{w:World}{K:Frag}{mg:Str->Option Value}{base:Heap}{k:Nat}{f:Addr}{name qual:Str}{params:Arguments}{body:List Stmt}{scope:Scope}{dV kV fy pm bi ct oc:Value}{an od:Option Addr}
  {jr:Array (Option Value)} {N ps:List Str} {sp:Sp} (lk:K.lookup f=some ⟨oc,od,.func (PySem.W.fnOf name qual params body scope dV kV fy pm an bi ct),jr⟩) (gr:PySem.W.codeIn K bi qual=true) (S:FnScope N ps scope)
  (len:∀vs H Q E,sp vs H Q E->vs.length=ps.length)
  (gq:∀(A:Around) (outer:List Env) (s:Shared) (H:Hp) (vs:List V) (Q:VK) (E:XK),Room k (A.deeper (envOfC qual scope s.heap.objs.size f bi))->sp vs H Q E ->
   ∃t,PSs (zJ CX P w K mg base N qual scope f bi A outer s H E) body t/\t { nx:=λ_ H'=>Q .non H',rt:=Q } (start N vs) H):
  FnOk P w K mg base CX (k+1) f (PySem.W.fnOf name qual params body scope dV kV fy pm an bi ct) ps sp:=by
 refine⟨len,λA outer s H args us vs Q E hr e0 hb r je=>?_⟩;have hl:=len _ _ _ _ je;have KX:K.In s.heap:=e0.mod.kin.keeps λb o e=>(e0.bs b o e).1
 have lim:s.heap.NoLimit:=e0.mod.nolimit.keeps λb o e=>(e0.bs b o e).1
 have rq:∀y∈ps.zip us,scope.names.lookup y.1=some .local\/(scope.names.lookup y.1=some .cell/\((cellsFrom (s.heap.objs.size+1) scope.names []).lookup y.1).isSome=true):=λ⟨n,v⟩ hy=>by
  rcases S.par n (List.of_mem_zip hy).1 with q|q
  ·exact .inl q
  ·exact .inr ⟨q,PySem.W.cellsFrom_some _ _ _ (.inl q)⟩
 refine codeAny_call_function hr.depth (KX _ _ lk) rfl S.co S.gen rfl (PySem.W.codeRec_of KX gr) (hb _ _ _ _ ?_);refine wpAny_newFunctionEnv_cells S.kind rq λenv he s1 x=>?_
 subst he;refine⟨lim.keeps x.toInCall.keep,codeAny_func ?_⟩;obtain⟨t,ht,hq⟩:=gq A outer s H vs Q E (hr.deeper _) je;have I:Inv (zJ CX P w K mg base N qual scope f bi A outer s H E) [] (start N vs) H s1:=qw6 S hr.hd e0 hl r x;refine Yx (ht [] s1 (start N vs) H _ I hq) (λfl s' hs=>?_) λe s' hs=>hs
 have fin:∀{σ':St} {H':Hp} {v:V} {u:Value},Inv (zJ CX P w K mg base N qual scope f bi A outer s H E) [] σ' H' s'->RelV v u->Q v H'->CE outer P w H s Q u s':=
  fun {σ' H' v u} J rv q=>⟨v,H',J.os,J.bare,J.base,J.hok,rv,q⟩
 cases fl with
 |ret u=>
  obtain⟨v,σ',H',J,rv,q⟩:=hs;exact fin J rv q
 |next=>
  obtain⟨σ',H',J,q⟩:=hs;exact fin (v:=V.non) (u:=Value.none) J rfl q
 |brk=>
  obtain⟨_,_,_,q⟩:=hs;exact False.elim q
 |cont=>
  obtain⟨_,_,_,q⟩:=hs;exact False.elim q
section
variable {X:Cx}{x:Str}{p pos:Pos}{e:Expr}{es:List Expr}{t:TA}{id T:String}{r:List V->Hp->VK->Prop}
abbrev tCB(r:List V->Hp->VK->Prop)(t:TA):TE:=fun O H Q=>t O H λvs H1=>r vs H1 Q
theorem kq6(hc:CallR X (.builtin id) r)(hg:Gl X x)(hm:X.mg x=none)(hv:bootBuiltins x=some (.builtin id))(ha:PA X (e::es) t)(hn:autoParam (x≠"__name__") ŕ)(db:autoParam ((x==("__debug__":Str))=false) ŕ)
  (he:autoParam (starEach (e::es) X.env=(false,eval e X.env)::starEach es X.env) Ŕ) (bp:autoParam ((backTo pos (starEach es X.env)).any (·.1)=false) Ŕ):PE X (.Call (.Name x p) (e::es) [] pos) (tCB r t):=by
 intro pins s O H Q I h;refine Yf (Jk I hg hm hv ?_ hn db);exact PyProof.Rows.callWith_builtin1 (thn (ha pos pins s O H _ I h) λus s1 ⟨vs,H1,I1,r1,q1⟩=>hc pins s1 O H1 vs us Q I1 r1 q1) he bp
theorem qv6(hc:CallR X (.type T) r)(hg:Gl X x)(hm:X.mg x=none)(hv:bootBuiltins x=some (.type T))(ha:PA X (e::es) t)(hn:autoParam (x≠"__name__") ŕ)(db:autoParam ((x==("__debug__":Str))=false) ŕ)
  (he:autoParam (starEach (e::es) X.env=(false,eval e X.env)::starEach es X.env) Ŕ) (bp:autoParam ((backTo pos (starEach es X.env)).any (·.1)=false) Ŕ):PE X (.Call (.Name x p) (e::es) [] pos) (tCB r t):=by
 intro pins s O H Q I h;refine Yf (Jk I hg hm hv ?_ hn db);exact Y5 (thn (ha pos pins s O H _ I h) λus s1 ⟨vs,H1,I1,r1,q1⟩=>hc pins s1 O H1 vs us Q I1 r1 q1) he bp
end
end L2
namespace HT
open PySem PyProof.Rows
section
variable {prog:Program}{w:World}{A:Around}{E:Value->Shared->Prop}{s:Shared}
theorem cat_tup{t b:Addr}{vs ws:List Value}{Q:Value->Shared->Prop}(ht:IsTup s.heap t vs.toArray)(hb:IsTup s.heap b ws.toArray)(hv:vs≠[])
  (h1:ws=[]->Q (.ref t) s) (h2:ws≠[]->Q (.ref s.heap.objs.size) { s with heap:=s.heap.push { cls:=.type "tuple",data:=.seq (vs++ws).toArray } })
  (hsz:vs.length+ws.length<=sizeLine):wpAny (model prog w) A (binaryOp .Add (.ref t) (.ref b)) Q E s:=by
 obtain⟨⟨cls,dd,data,sl⟩,ho,hc,n,hd⟩:=id ht;obtain⟨⟨cls2,dd2,data2,lw⟩,im,m6,n2,i5⟩:=id hb;simp only at hc hd m6 i5;subst hc hd m6 i5;have e:vs.toArray++ws.toArray=(vs++ws).toArray:=by simp
 by_cases hw:ws=[]
 ·exact concat_meets ⟨_,ho,rfl⟩ ⟨_,im,rfl⟩ noFill_tuple_add seq_tuple_add PySem.F.slot_tuple_add PySem.F.entry_tuple_add (PySem.F.args_tuple_add_2 _ _)
   (tuple_addW1 t b vs.toArray ws.toArray n n2 dd dd2 sl lw (by simpa using hv) (by simp[hw])) ⟨ho,im,h1 hw⟩
 ·refine concat_meets ⟨_,ho,rfl⟩ ⟨_,im,rfl⟩ noFill_tuple_add seq_tuple_add PySem.F.slot_tuple_add PySem.F.entry_tuple_add (PySem.F.args_tuple_add_2 _ _)
   (tuple_addW2 t b vs.toArray ws.toArray n n2 dd dd2 sl lw (by simpa using hv) (by simpa using hw) (by rw[X5,X5];exact hsz)) ⟨ho,im,?_⟩
  rw[e];exact h2 hw
def sIx(n d:Nat):Option Int->Nat
 |none=>d|some v=>if v<0 then(v+(n:Int)).toNat else min v.toNat n
theorem vz1(n d:Nat)(hd:d<=n)(o:Option Int):sIx n d o<=n:=by
 cases o with
 |none=>exact hd
 |some v=>
  show(if v<0 then(v+(n:Int)).toNat else min v.toNat n)<=n
  by_cases hv:v<0
  ·rw[X8 hv];omega
  ·rw[Xb hv];exact Nat.min_le_right _ _
theorem qwy(v:Int)(n d:Nat):(if v<0 then max (v+(n:Int)) 0 else min v (n:Int))=((sIx n d (some v):Nat):Int):=by
 show(if v<0 then max (v+(n:Int)) 0 else min v (n:Int))=(((if v<0 then(v+(n:Int)).toNat else min v.toNat n):Nat):Int)
 by_cases hv:v<0
 ·simp only[X8 hv];omega
 ·simp only[Xb hv];omega
theorem qkl(lo hi:Option Int)(n:Nat):Builtin.Slice.sliceAdjust lo hi 1 (n:Int)=(((sIx n 0 lo:Nat):Int),((sIx n n hi:Nat):Int)):=by
 have h1:¬((1:Int)<0):=⋯
 unfold Builtin.Slice.sliceAdjust;simp only[h1,if_false];refine Prod.ext ?_ ?_
 ·cases lo with|none=>rfl|some v=>exact qwy v n 0
 ·cases hi with|none=>rfl|some v=>exact qwy v n n
theorem qk0(i j:Nat):Builtin.Slice.slicePlaces (i:Int) (j:Int) 1=j - i:=by
 unfold Builtin.Slice.slicePlaces;have h1:(1:Int)>0:=⋯
 simp only[h1,if_true,Int.ediv_one]
 split<;>omega
theorem kk7{v:Value}{o:Option Int}{Q:Option Int->Shared->Prop}(p:IsPart v o)(h:Q o s):wpAny (model prog w) A (Builtin.Slice.slicePartIndex v) Q E s:=by
 cases p with|none=>exact slicePart_none h|int i t=>exact slicePart_int h
theorem jzh{sl:Addr}{vl vu:Value}{lo hi:Option Int}{n:Nat}{Q:Int×Int×Nat->Shared->Prop}(hs:s.heap.IsSliceOf sl vl vu .none)(pl:IsPart vl lo)(pu:IsPart vu hi)
  (h:Q (((sIx n 0 lo:Nat):Int),1,sIx n n hi - sIx n 0 lo) s):wpAny (model prog w) A (Builtin.Slice.sliceApplied (.ref sl) (pure (n:Int))) Q E s:=by
 obtain⟨os,jc,oq,bn⟩:=id hs;unfold Builtin.Slice.sliceApplied Builtin.Slice.sliceFields;refine X0 (X0 (Ys jc bn (x:=vl) rfl (X0 (Ys jc bn (x:=vu) rfl (X0 (Ys jc bn (x:=.none) rfl (X2 ?_)))))));refine X0 (slicePart_none ?_);show wpAny _ _ (if((1:Int)==0)=true then _ else _) _ _ s;rw[Xb ⋯];refine X0 (kk7 pl (X0 (kk7 pu (X0 (X2 ?_)))));show wpAny _ _ (match Builtin.Slice.sliceAdjust lo hi 1 (n:Int)with|(lo,hi)=>pure (lo,(1:Int),Builtin.Slice.slicePlaces lo hi 1)) _ _ s;rw[qkl lo hi n];show wpAny _ _ (pure (((sIx n 0 lo:Nat):Int),(1:Int),Builtin.Slice.slicePlaces ((sIx n 0 lo:Nat):Int) ((sIx n n hi:Nat):Int) 1)) _ _ s;rw[qk0];exact X2 h
theorem qze(xs:Array Value)(i k:Nat):((List.range k).filterMap λ(m:Nat)=>xs[((i:Int)+(m:Int)*1).toNat]?).toArray=((xs.toList.drop i).take k).toArray:=by
 have e:(λ(m:Nat)=>xs[((i:Int)+(m:Int)*1).toNat]?)=λm=>xs[i+m]?:=by
  funext m;have:((i:Int)+(m:Int)*1).toNat=i+m:=⋯
  rw[this]
 rw[e];have:=pick_run xs i k;rw[List.filterMap_map]at this;have e2:((λx=>xs[x]?)∘λx=>i+x)=λm=>xs[i+m]?:=rfl
 rw[e2]at this;rw[this]
theorem getItem_tuple_cut{t sl:Addr}{items:Array Value}{vl vu:Value}{lo hi:Option Int}{Q:Value->Shared->Prop}(ht:IsTup s.heap t items)(hs:s.heap.IsSliceOf sl vl vu .none)(pl:IsPart vl lo)(pu:IsPart vu hi)
  (hw:¬(sIx items.size 0 lo=0/\sIx items.size items.size hi=items.size))
  (h:Q (.ref s.heap.objs.size) { s with heap:=s.heap.push { cls:=.type "tuple",data:=.seq ((items.toList.drop (sIx items.size 0 lo)).take (sIx items.size items.size hi - sIx items.size 0 lo)).toArray } })
  (hsz:items.size<=sizeLine):wpAny (model prog w) A (getItem (.ref t) (.ref sl)) Q E s:=by
 have io:sizeOk (.seq ((items.toList.drop (sIx items.size 0 lo)).take (sIx items.size items.size hi - sIx items.size 0 lo)).toArray):=by
  show((items.toList.drop (sIx items.size 0 lo)).take (sIx items.size items.size hi - sIx items.size 0 lo)).toArray.size<=sizeLine;rw[X5,Ya,Yb,Xj];omega
 have hj:sIx items.size items.size hi<=items.size:=vz1 _ _ (X9 _) hi;obtain⟨os,jc,oq,bn⟩:=id hs;have hTs:s.TypeIs (.ref sl) "slice":=⟨os,jc,oq⟩;unfold getItem
 try with_reducible refine Xz ?_
 first|refine X0 (X2 ?_)|skip
 refine X0 (wpAny_sequenceKey ht.typeIs ⋯ ?_);refine X0 (Yd (name:=Str.ofString "__getitem__") ht.typeIs PyProof.Rows.slot_tuple_getitem
  (Y0 PyProof.Rows.slot_tuple_getitem ht.typeIs entry_tuple_getitem ?_ (args_tuple_getitem _ _)))
 show wpAny _ _ (Builtin.Tuple.tupleItemsOf (.ref t) >>= _) _ _ s;refine X0 (tupleItemsOf_ ht ?_);refine X0 (wpAny_typeOf hTs ?_);rw[X8 ⋯];refine X0 (jzh hs pl pu ?_);have ig:¬((((sIx items.size 0 lo:Nat):Int)==0&&(1:Int)==1&&(sIx items.size items.size hi - sIx items.size 0 lo)==items.size)=true):=by
  intro q;rw[Bool.and_eq_true,Bool.and_eq_true]at q;have q1:((sIx items.size 0 lo:Nat):Int)=0:=eq_of_beq q.1.1;have q2:sIx items.size items.size hi - sIx items.size 0 lo=items.size:=eq_of_beq q.2;exact hw ⟨⋯,⋯⟩
 show wpAny _ _ (if(((sIx items.size 0 lo:Nat):Int)==0&&(1:Int)==1&&(sIx items.size items.size hi - sIx items.size 0 lo)==items.size)=true then _ else _) _ _ s;rw[Xb ig,qze]
 first
  |exact X0 (m:=Builtin.Tuple.tupleExact _) (Xv (X2 ⟨_,rfl,X2 h⟩) io)
  |exact X0 (m:=Builtin.Tuple.tupleExact _) (Xv (X0 (X2 (X2 ⟨_,rfl,X2 h⟩))) io)
  |exact X0 (X0 (m:=Builtin.Tuple.tupleExact _) (Xv (X2 (X2 ⟨_,rfl,X2 h⟩)) io))
  |exact X0 (X0 (m:=Builtin.Tuple.tupleExact _) (Xv (X2 ⟨_,rfl,X2 h⟩) io))
end
end HT
namespace L2
open PySem PySem.Spec PyProof.Rows
abbrev TO:=St->Hp->(Option Int->Hp->Prop)->Prop
def PO(X:Cx)(e:Option Expr)(t:TO):Prop:=
 ∀(pins:List (Addr×Obj)) (s:Shared) (O:St) (H:Hp) (Q:Option Int->Hp->Prop),Inv X pins O H s->t O H Q ->
  wpAny (model X.prog X.w) X.A (evalPart e X.env) (λu s'=>∃o H',Inv X pins O H' s'/\IsPart u o/\Q o H') X.xe s
abbrev qq0:TO:=λ_ H Q=>Q none H
abbrev vxn(t:TE):TO:=fun O H Q=>t O H λx H1=>∃i,x=.int i/\Q (some i) H1
section
variable {X:Cx}{e:Expr}{te:TE}{lo hi:Option Expr}{tl th:TO}{pos p2:Pos}
theorem vv4:PO X none qq0:=by
 intro pins s O H Q I h;rw[evalPart_none];exact X2 ⟨none,H,I,.none,h⟩
theorem vv2(h:PE X e te):PO X (some e) (vxn te):=by
 intro pins s O H Q I hw;rw[evalPart_some];refine thn (h pins s O H _ I hw) λu s1 ⟨x,H1,I1,r1,q1⟩=>?_
 obtain⟨i,rfl,q⟩:=q1;obtain⟨t,rfl⟩:=r1;exact⟨some i,H1,I1,.int i t,q⟩
noncomputable def SlR(X:Cx)(r:V->Option Int->Option Int->Hp->VK->Prop):Prop:=
 ∀(pins:List (Addr×Obj)) (s:Shared) (O:St) (H:Hp) (x:V) (v vl vu:Value) (lo hi:Option Int) (sl:Addr) (Q:VK),Inv X pins O H s->RelV x v->s.heap.IsSliceOf sl vl vu .none->IsPart vl lo->IsPart vu hi->r x lo hi H Q ->
  ∃T id,typeLookup (.type T) "__getitem__"=pure (some (.builtin id))/\s.TypeIs v T/\wpAny (model X.prog X.w) X.A (getItem v (.ref sl)) (EP X pins O Q) X.xe s
theorem SlR.or{r r':V->Option Int->Option Int->Hp->VK->Prop}(h:SlR X r)(h':SlR X r'):SlR X (λx lo hi H Q=>r x lo hi H Q\/r' x lo hi H Q):=by
 intro pins s O H x v vl vu lo hi sl Q I rx hs pl pu q;rcases q with q|q
 ·exact h pins s O H x v vl vu lo hi sl Q I rx hs pl pu q
 ·exact h' pins s O H x v vl vu lo hi sl Q I rx hs pl pu q
abbrev tSl(r:V->Option Int->Option Int->Hp->VK->Prop)(te:TE)(tl th:TO):TE:=fun O H Q=>te O H λx H1=>tl O H1 λl H2=>th O H2 λu H3=>r x l u H3 Q
theorem qzg{r:V->Option Int->Option Int->Hp->VK->Prop}(hr:SlR X r)(he:PE X e te)(hl:PO X lo tl)(hu:PO X hi th):PE X (.Subscript e (.Slice lo hi none p2) pos) (tSl r te tl th):=by
 intro pins s O H Q I h;refine Subscript_ (thn (he pins s O H _ I h) λv s1 ⟨x,H1,I1,r1,q1⟩=>?_);refine wpAny_Slice (thn (hl pins s1 O H1 _ I1 q1) λvl s2 ⟨l,H2,I2,pl,q2⟩=>thn (hu pins s2 O H2 _ I2 q2) λvu s3 ⟨u,H3,I3,pu,q3⟩=>?_);rw[evalPart_none];refine X2 ?_;have I4:Inv X pins O H3 { s3 with heap:=s3.heap.push { cls:=.type "slice",data:=.fields #[vl,vu,.none] } }:=I3.kept (t':=s3.toks) λb ob q=>X1 _ q
 obtain⟨T,id,hT,ht,hg⟩:=hr pins { s3 with heap:=s3.heap.push { cls:=.type "slice",data:=.fields #[vl,vu,.none] } } O H3 x v vl vu l u s3.heap.objs.size Q I4 r1 (Heap.IsSliceOf.new ..) pl pu q3;show wpAny (model X.prog X.w) X.A (subscriptTail e (.Slice lo hi none p2) v (.ref s3.heap.objs.size)) (EP X pins O Q) X.xe { s3 with heap:=s3.heap.push { cls:=.type "slice",data:=.fields #[vl,vu,.none] } };exact tail_any (ops:=[.ref s3.heap.objs.size,v]) ht hT hg (by ac_rfl)
def Q0(xs:List V)(lo hi:Option Int):List V:=(xs.drop (HT.sIx xs.length 0 lo)).take (HT.sIx xs.length xs.length hi - HT.sIx xs.length 0 lo)
theorem kjq(xs:List V)(lo hi:Option Int):(Q0 xs lo hi).length<=xs.length:=by
 unfold Q0;rw[Ya,Yb];omega
def wxe(K:Frag):V->Option Int->Option Int->Hp->VK->Prop:=λx lo hi H Q=>∃a xs,x=.ref a/\SqT K H a xs /\
 ¬(HT.sIx xs.length 0 lo=0/\HT.sIx xs.length xs.length hi=xs.length)/\∀p,H p=none->Q (.ref p) (upd H p (.tup (Q0 xs lo hi)))
theorem sl_tup:SlR X (wxe X.K):=by
 intro pins s O H x v vl vu lo hi sl Q I rx hs pl pu h;obtain⟨a,xs,rfl,hx,hw,q⟩:=h;cases rx;obtain⟨ah,r,ht,hz⟩:=I.tuple hx;have av:ah.toArray.size=xs.length:=by rw[X5];exact r.length.symm
 refine⟨"tuple",_,PyProof.Rows.slot_tuple_getitem.lookup,ht.typeIs,?_⟩;refine HT.getItem_tuple_cut ht hs pl pu (by rw[av];exact hw) ?_ (by rw[av];exact hz);rw[av];refine⟨.ref s.heap.objs.size,_,I.laid (t':=s.toks) (o:=.tup (Q0 xs lo hi)) (λb ob q=>X1 _ q) (X9 _) ?_,rfl,q _ (I.hok.fresh (X9 _))⟩;exact⟨Y8 (kjq xs lo hi) hz,_,(r.drop (HT.sIx xs.length 0 lo)).take (HT.sIx xs.length xs.length hi - HT.sIx xs.length 0 lo),IsTupD.new _ _⟩
def vze(K:Frag):R2:=λx y H Q=>∃a b xs ys,x=.ref a/\y=.ref b/\SqT K H a xs/\SqT K H b ys/\xs≠[]/\xs.length+ys.length<=sizeLine /\
 (ys=[]->Q (.ref a) H)/\(ys≠[]->∀p,H p=none->Q (.ref p) (upd H p (.tup (xs++ys))))
theorem Vals.nil_iff{xs:List V}{us:List Value}(r:Vals xs us):us=[]↔xs=[]:=by
 cases r with|nil=>simp|cons _ _=>simp
theorem vvi:OpR X (binaryOp .Add) (vze X.K):=by
 intro pins s O H x y v u Q I rx ry h;obtain⟨a,b,xs,ys,rfl,rfl,ha,hb,hx,hz,q1,q2⟩:=h;cases rx;cases ry;obtain⟨ah,r1,p1,_⟩:=I.tuple ha;obtain⟨gc,r2,p2,_⟩:=I.tuple hb;refine HT.cat_tup p1 p2 (λz=>hx (r1.nil_iff.mp z)) (λz=>⟨.ref a,H,I,rfl,q1 (r2.nil_iff.mp z)⟩) (λz=>?_) (by rw[<-r1.length,<-r2.length];exact hz);refine⟨.ref s.heap.objs.size,_,I.laid (t':=s.toks) (o:=.tup (xs++ys)) (λb ob q=>X1 _ q) (X9 _) ?_,rfl,q2 (λw=>z (r2.nil_iff.mpr w)) _ (I.hok.fresh (X9 _))⟩;exact⟨by rw[Xf];exact hz,_,r1.append r2,IsTupD.new _ _⟩
end
def ixN(n:Nat)(i:Int):Option Nat:=if 0<=i then(if i<n then some i.toNat else none)else if -(n:Int)<=i then some (i+n).toNat else none
def atI{α:Type}(xs:List α)(i:Int):Option α:=(ixN xs.length i).bind λj=>xs[j]?
theorem kxm{n:Nat}{i:Int}{j:Nat}(h:ixN n i=some j):seqIndex? i n=some j/\j<n/\-(n:Int)<=i/\i<n:=by
 unfold ixN at h
 by_cases h0:0<=i
 ·rw[X8 h0]at h
  by_cases h1:i<n
  ·rw[X8 h1]at h;have e:i.toNat=j:=oq9 h;exact⟨by rw[seqIndex_of h0 h1,e],⋯,⋯,h1⟩
  ·rw[Xb h1]at h;cases h
 ·rw[Xb h0]at h
  by_cases h1:-(n:Int)<=i
  ·rw[X8 h1]at h;have e:(i+n).toNat=j:=oq9 h;exact⟨by rw[seqIndex_neg ⋯ h1,e],⋯,h1,⋯⟩
  ·rw[Xb h1]at h;cases h
theorem kz1{α:Type}{xs:List α}{i:Int}{v:α}(h:atI xs i=some v):∃j,seqIndex? i xs.length=some j/\xs[j]?=some v/\j<xs.length/\-(xs.length:Int)<=i/\i<xs.length:=by
 unfold atI at h;cases e:ixN xs.length i with
 |none=>rw[e]at h;cases h
 |some j=>
  rw[e]at h;obtain⟨h1,h2,h3,h4⟩:=kxm e;exact⟨j,h1,h,h2,h3,h4⟩
def kz3(b:Expr):Prop:=∀o i,subscripted b false o i=operate [o,i] (getItem o i)
def IxR(X:Cx)(r:R2):Prop:=
 ∀(value slice:Expr) (pins:List (Addr×Obj)) (s:Shared) (O:St) (H:Hp) (x y:V) (v u:Value) (Q:VK),Inv X pins O H s->RelV x v->RelV y u->r x y H Q ->
  subscripted slice false v u=operate [v,u] (getItem v u)->wpAny (model X.prog X.w) X.A (subscriptTail value slice v u) (EP X pins O Q) X.xe s
def MtR(X:Cx)(id:String)(r:V->List V->Hp->VK->Prop):Prop:=
 ∀(pins:List (Addr×Obj)) (s:Shared) (O:St) (H:Hp) (x:V) (xs:List V) (v:Value) (us:List Value) (Q:VK),Inv X pins O H s->RelV x v->Vals xs us->r x xs H Q ->
  wpAny (model X.prog X.w) X.A (call (.builtin id) (v::us)) (EP X pins O Q) X.xe s
section
variable {X:Cx}{a b:Expr}{ta tb:TE}{pos:Pos}
theorem IxR.or{r r':R2}(h:IxR X r)(h':IxR X r'):IxR X (λx y H Q=>r x y H Q\/r' x y H Q):=by
 intro value slice pins s O H x y v u Q I rx ry q hs;rcases q with q|q
 ·exact h value slice pins s O H x y v u Q I rx ry q hs
 ·exact h' value slice pins s O H x y v u Q I rx ry q hs
theorem ww1{r:R2}(hr:IxR X r)(ha:PE X a ta)(hb:PE X b tb)(hs:kz3 b):PE X (.Subscript a b pos) (tOp r ta tb):=by
 intro pins s O H Q I h;exact Subscript_ (wwy ha hb I h λv u s2 x y H2 I2 rx ry q=>hr a b pins s2 O H2 x y v u Q I2 rx ry q (hs _ _))
def wxl(K:Frag):R2:=λx y H Q=>∃p xs i v,x=.ref p/\y=.int i/\SqL K H p xs/\atI xs i=some v/\Q v H
def wxj(K:Frag):R2:=λx y H Q=>∃p xs i v,x=.ref p/\y=.int i/\SqT K H p xs/\atI xs i=some v/\Q v H
def wxk:R2:=λx y H Q=>∃z i c,x=.str z/\y=.int i/\z.length<=sizeLine/\atI z.cps.toList i=some c/\Q (.str ⟨#[c]⟩) H
theorem ix_list:IxR X (wxl X.K):=by
 intro value slice pins s O H x y v u Q I rx ry h hs;obtain⟨p,xs,i,z,rfl,rfl,hq,he,q⟩:=h;cases rx;obtain⟨t,rfl⟩:=ry;obtain⟨ah,r,pl,hz⟩:=I.list hq;obtain⟨j,h1,h2,h3,h4,h5⟩:=kz1 he;obtain⟨w,ew,jb⟩:=r.get h2;have hl:=r.length;have hn:=W2;have fin:EP X pins O Q w s:=⟨z,H,I,jb,q⟩
 by_cases h0:0<=i
 ·have hj:i.toNat=j:=by
   rw[seqIndex_of h0 h5]at h1;exact oq9 h1
  exact item_listR pl.isList h0 ⋯ (by rw[hj];simpa using ew) fin hs
 ·have hj:(i+(ah.toArray.size:Int)).toNat=j:=by
   rw[seqIndex_neg ⋯ h4]at h1;rw[X5,<-hl];exact oq9 h1
  exact subscriptTail_builtinR (x:=w) pl.isList.typeIs slot_list_getitem.lookup
   (wpAny_getItem_list_neg (Q:=λr s'=>r=w/\EP X pins O Q r s') pl.isList ⋯ (by rw[X5]<;>omega) ⋯ (by rw[hj];simpa using ew) ⟨rfl,fin⟩) hs
theorem ix_tup:IxR X (wxj X.K):=by
 intro value slice pins s O H x y v u Q I rx ry h hs;obtain⟨p,xs,i,z,rfl,rfl,hq,he,q⟩:=h;cases rx;obtain⟨t,rfl⟩:=ry;obtain⟨ah,r,pl,hz⟩:=I.tuple hq;obtain⟨j,h1,h2,h3,h4,h5⟩:=kz1 he;obtain⟨w,ew,jb⟩:=r.get h2;have hl:=r.length;have hn:=W2;have fin:EP X pins O Q w s:=⟨z,H,I,jb,q⟩;exact subscriptTail_builtinR (x:=w) pl.typeIs slot_tuple_getitem.lookup
  (getItem_tuple (j:=j) (Q:=λr s'=>r=w/\EP X pins O Q r s') pl ⋯ ⋯ (by rw[X5,<-hl];exact h1) (by simpa using ew) ⟨rfl,fin⟩) hs
theorem kvq:IxR X wxk:=by
 intro value slice pins s O H x y v u Q I rx ry h hs;obtain⟨z,i,c,rfl,rfl,hz,he,q⟩:=h;obtain⟨t,rfl⟩:=rx;obtain⟨t',rfl⟩:=ry;obtain⟨j,h1,h2,h3,h4,h5⟩:=kz1 he;have hl:z.cps.toList.length=z.length:=by simp[Str.length]
 rw[hl]at h1 h4 h5;have hn:=W2;exact tail_any (typeIs_str s z t) slot_str_getitem.lookup (getItem_str (c:=c) (by
  have e1:decide (i < -(2 ^ 63:Int))=false:=Xi ⋯;have e2:decide (i>=2 ^ 63)=false:=Xi ⋯;rw[e1,e2,Bool.or_false]) (by rw[h1];simpa using h2) ⟨.str ⟨#[c]⟩,H,I.tok _,⟨_,rfl⟩,q⟩) hs
def rIx(K:Frag):R2:=λx y H Q=>wxl K x y H Q\/wxj K x y H Q\/wxk x y H Q
theorem wkb:IxR X (rIx X.K):=ix_list.or (ix_tup.or kvq)
theorem qk9(ah:List Value)(n j:Nat)(u:Value):Obj.mapSeq (·.setIfInBounds j u) { cls:=.type "list",data:=.seq ah.toArray n }={ cls:=.type "list",data:=.seq (ah.set j u).toArray n }:=by
 simp[Obj.mapSeq]
theorem Inv.lst{pins:List (Addr×Obj)}{O:St}{H:Hp}{s:Shared}{p:Addr}{xs:List V}(I:Inv X pins O H s)(h:H p=some (.lst xs)):
  ∃(ah:List Value) (n:Nat),Vals xs ah/\s.heap.get? p=some { cls:=.type "list",data:=.seq ah.toArray n }/\xs.length<=sizeLine:=by
 obtain⟨z,ah,n,r,e⟩:=I.hok p _ h;exact⟨ah,n,r,e,z⟩
theorem Inv.lstUpd{pins:List (Addr×Obj)}{O:St}{H:Hp}{s:Shared}{p:Addr}{xs ys:List V}{ah its':List Value}{n n':Nat}{f:Obj->Obj}(I:Inv X pins O H s)(h:H p=some (.lst xs))
  (ho:s.heap.get? p=some { cls:=.type "list",data:=.seq ah.toArray n }) (hf:f { cls:=.type "list",data:=.seq ah.toArray n }={ cls:=.type "list",data:=.seq its'.toArray n' }) (r:Vals ys its') (hz:ys.length<=sizeLine) (t:Nat):
  Inv X pins O (upd H p (.lst ys)) { s with heap:=s.heap.update p f,toks:=t }:=by
 have e:(s.heap.update p f).get? p=some { cls:=.type "list",data:=.seq its'.toArray n' }:=by
  rw[Xx f ho (by rw[hf]<;>rfl),hf]
 refine I.write (x:=p) (e:=p) (by rw[h];trivial) (.inl rfl) (λb u hb q=>(Z5 _ _ (Zi hb)).trans q) ⟨_,e⟩ ?_;exact⟨hz,its',n',r,e⟩
def wvi:V->V->V->Hp->(Hp->Prop)->Prop:=λo i v H Q=>∃p xs k j,o=.ref p/\i=.int k/\H p=some (.lst xs)/\ixN xs.length k=some j/\Q (upd H p (.lst (xs.set j v)))
theorem qxv:wza X wvi:=by
 intro pins s O H o i v ov iv u Q I ro ri rv h;obtain⟨p,xs,k,j,rfl,rfl,hp,hj,q⟩:=h;cases ro;obtain⟨t,rfl⟩:=ri;obtain⟨ah,n,r,ho,hz⟩:=I.lst hp;obtain⟨h1,h2,h3,h4⟩:=kxm hj;have hl:=r.length;have hn:=W2;have I':Inv X pins O (upd H p (.lst (xs.set j v))) { s with heap:=s.heap.update p (Obj.mapSeq (·.setIfInBounds j u)) }:=
  I.lstUpd hp ho (qk9 ah n j u) (r.set rv j) (by rw[Yt];exact hz) s.toks
 by_cases h0:0<=k
 ·have hk:k.toNat=j:=by
   rw[seqIndex_of h0 h4]at h1;exact oq9 h1
  exact PySem.W.ki_setAt ho h0 ⋯ (by rw[X5,<-hl];exact h4) (by rw[hk];exact⟨_,I',q⟩)
 ·have hk:(k+(ah.toArray.size:Int)).toNat=j:=by
   rw[seqIndex_neg ⋯ h3]at h1;rw[X5,<-hl];exact oq9 h1
  exact PySem.W.ki_setBack ho ⋯ (by rw[X5,<-hl];exact h3) ⋯ (by rw[hk];exact⟨_,I',q⟩)
theorem kqz(lo hi:Option Int)(n:Nat):(sliceBounds lo hi none n).1=((HT.sIx n 0 lo:Nat):Int)/\(sliceBounds lo hi none n).2.1=((HT.sIx n n hi:Nat):Int)/\(sliceBounds lo hi none n).2.2=1:=by
 refine⟨?_,?_,rfl⟩
 ·cases lo with
  |none=>simp[sliceBounds,HT.sIx]
  |some i=>
   simp only[sliceBounds,HT.sIx,Option.getD_none,show(1:Int)>0 by decide,if_true]
   by_cases h:i<0
   ·simp only[h,if_true]<;>omega
   ·simp only[h,if_false]<;>omega
 ·cases hi with
  |none=>simp[sliceBounds,HT.sIx]
  |some i=>
   simp only[sliceBounds,HT.sIx,Option.getD_none,show(1:Int)>0 by decide,if_true]
   by_cases h:i<0
   ·simp only[h,if_true]<;>omega
   ·simp only[h,if_false]<;>omega
theorem kku(ah:List Value)(lo hi:Option Int):slicePick ah.toArray lo hi none=((ah.drop (HT.sIx ah.length 0 lo)).take (HT.sIx ah.length ah.length hi - HT.sIx ah.length 0 lo)).toArray:=by
 obtain⟨h1,h2,h3⟩:=kqz lo hi ah.toArray.size;unfold slicePick;rw[h1,h2,h3];simp only[sliceRange_one,pick_run,X5]<;>rfl
def wxg(K:Frag):V->Option Int->Option Int->Hp->VK->Prop:=λx lo hi H Q=>∃a xs,x=.ref a/\SqL K H a xs/\∀p,H p=none->Q (.ref p) (upd H p (.lst (Q0 xs lo hi)))
theorem sl_list:SlR X (wxg X.K):=by
 intro pins s O H x v vl vu lo hi sl Q I rx hs pl pu h;obtain⟨a,xs,rfl,hx,q⟩:=h;cases rx;obtain⟨ah,r,ht,hz⟩:=I.list hx;have av:=r.length;refine⟨"list",_,slot_list_getitem.lookup,ht.isList.typeIs,?_⟩;refine wpAny_getItem_list_slice ht.isList hs pl pu .none (by simp) ?_ (by rw[X5]<;>omega);rw[kku,<-av];refine⟨.ref s.heap.objs.size,_,I.laid (t':=s.toks) (o:=.lst (Q0 xs lo hi)) (λb ob q=>X1 _ q) (X9 _) ?_,rfl,q _ (I.hok.fresh (X9 _))⟩;exact⟨Y8 (kjq xs lo hi) hz,_,0,(r.drop (HT.sIx xs.length 0 lo)).take (HT.sIx xs.length xs.length hi - HT.sIx xs.length 0 lo),X6 _ rfl⟩
theorem kvh:OpR X (compareOp .NotIn) (λx y H Q=>∃i j,x=.str i/\y=.str j/\Q (.bl (!(!(Builtin.Str.occurrences j i 0 j.length 1).isEmpty))) H):=by
 intro pins s O H x y v u Q I rx ry h;obtain⟨i,j,rfl,rfl,q⟩:=h;obtain⟨t,rfl⟩:=rx;obtain⟨t',rfl⟩:=ry;exact notIn_str ⟨.bl _,H,I,rfl,q⟩
theorem call_len_seq:CallR X (.builtin "len") (λxs H Q=>∃p ys,xs=[.ref p]/\(SqL X.K H p ys\/SqT X.K H p ys)/\Q (.int ys.length) H):=by
 intro pins s O H xs us Q I r h;obtain⟨p,ys,rfl,hq,q⟩:=h;obtain⟨u,rfl,rx⟩:=z5 r;cases rx;have hn:=W2;rcases hq with hq|hq
 ·obtain⟨ah,r',pl,hz⟩:=I.list hq;have av:=r'.length;exact Calls.call_len_list pl.isList (by simp only[X5]<;>omega) ⟨.int ys.length,H,I.tok _,⟨s.toks+1,by rw[X5,av]⟩,q⟩
 ·obtain⟨ah,r',pl,hz⟩:=I.tuple hq;have av:=r'.length;exact len_tuple pl (by simp only[X5]<;>omega) ⟨.int ys.length,H,I.tok _,⟨s.toks+1,by rw[X5,av]⟩,q⟩
theorem call_len_str:CallR X (.builtin "len") (λxs H Q=>∃z,xs=[.str z]/\z.length<=sizeLine/\Q (.int z.length) H):=by
 intro pins s O H xs us Q I r h;obtain⟨z,rfl,hz,q⟩:=h;obtain⟨u,rfl,t,rfl⟩:=z5 r;have hn:=W2;exact len_str ⋯ ⟨.int z.length,H,I.tok _,⟨_,rfl⟩,q⟩
theorem CallR.or{f:Value}{r r':List V->Hp->VK->Prop}(h:CallR X f r)(h':CallR X f r'):CallR X f (λxs H Q=>r xs H Q\/r' xs H Q):=by
 intro pins s O H xs us Q I rs q;rcases q with q|q
 ·exact h pins s O H xs us Q I rs q
 ·exact h' pins s O H xs us Q I rs q
theorem kwe:CallR X (.type "list") (λxs H Q=>∃p ys,xs=[.ref p]/\(SqL X.K H p ys\/SqT X.K H p ys)/\∀l,H l=none->Q (.ref l) (upd H l (.lst ys))):=by
 intro pins s O H xs us Q I r h;obtain⟨p,ys,rfl,hq,q⟩:=h;obtain⟨u,rfl,rx⟩:=z5 r;cases rx;have fin:∀(ah:List Value),Vals ys ah->ys.length<=sizeLine->∀(h':Heap) (c':Nat),(∀b o',s.heap.get? b=some o'->h'.get? b=some o') ->
   h'.get? s.heap.objs.size=some { cls:=.type "list",dict:=none,data:=.seq ah.toArray c',slots:=#[] }->EP X pins O Q (.ref s.heap.objs.size) { s with heap:=h' }:=λah r' hz h' c' kp e=>
  ⟨.ref s.heap.objs.size,_,I.laid (t':=s.toks) kp (X9 _) (show ObjOk X.prog X.w _ h' _ (.lst ys)from⟨hz,ah,c',r',e⟩),rfl,q _ (I.hok.fresh (X9 _))⟩
 rcases hq with hq|hq
 ·obtain⟨ah,r',pl,hz⟩:=I.list hq;have av:=r'.length;obtain⟨o,ho,hc,n,hd⟩:=pl.isList;exact call_list_seq p (.inl rfl) ho hc hd (λh' c' kp e=>fin ah r' hz h' c' kp e) (by simp only[X5]<;>omega)
 ·obtain⟨ah,r',pl,hz⟩:=I.tuple hq;have av:=r'.length;obtain⟨o,ho,hc,n,hd⟩:=pl;exact call_list_seq p (.inr rfl) ho hc hd (λh' c' kp e=>fin ah r' hz h' c' kp e) (by simp only[X5]<;>omega)
theorem kqm:CallR X (.type "tuple") (λxs H Q=>∃p ys,xs=[.ref p]/\((SqL X.K H p ys/\∀l,H l=none->Q (.ref l) (upd H l (.tup ys)))\/(SqT X.K H p ys/\Q (.ref p) H))):=by
 intro pins s O H xs us Q I r h;obtain⟨p,ys,rfl,h⟩:=h;obtain⟨u,rfl,rx⟩:=z5 r;cases rx;rcases h with⟨hq,q⟩|⟨hq,q⟩
 ·obtain⟨ah,r',pl,hz⟩:=I.list hq;have av:=r'.length;refine call_tuple_list pl.isList (λh' kp=>?_) (by simp only[X5]<;>omega);have I1:Inv X pins O H { s with heap:=h' }:=I.kept (t':=s.toks) kp;have I2:Inv X pins O (upd H h'.objs.size (.tup ys)) { s with heap:=h'.push { cls:=.type "tuple",data:=.seq ah.toArray } }:=
   I1.laid (t':=s.toks) (λb o e=>X1 _ e) (X9 _) (show ObjOk X.prog X.w _ _ _ (.tup ys)from⟨hz,ah,r',IsTupD.new _ _⟩)
  exact⟨.ref h'.objs.size,_,I2,rfl,q _ (I1.hok.fresh (X9 _))⟩
 ·obtain⟨ah,r',pl,hz⟩:=I.tuple hq;exact call_tuple_same pl ⟨.ref p,H,I,rfl,q⟩
noncomputable def tyV(K : Frag)(T : String)(x : V)(H : Hp): Prop:= match x with
  |.str _=>T = "str"|.int _=>T = "int"
  |.ref p=>(T = "list" /\ ∃xs, SqL K H p xs) \/ (T = "tuple" /\ ∃o, K.lookup p = some o /\ o.cls = .type "tuple" /\ o.dict = none) \/
      (T = "dict" /\ ((∃kvs, H p = some (.dK kvs)) \/ ∃kvs, H p = some (.dT kvs))) \/ (T = "set" /\ ∃S n, H p = some (.set S n))
  |_=>False
theorem vxf{pins:List (Addr×Obj)}{O:St}{H:Hp}{s:Shared}{T:String}{x:V}{v:Value}(I:Inv X pins O H s)(r:RelV x v)(ty:tyV X.K T x H):
  s.TypeIs v T/\∀a,v=.ref a->∃ob,s.heap.get? a=some ob/\ob.dict=none:=by
 cases x with
 | str z=>
  obtain⟨t,rfl⟩:=r;cases(show T="str" from ty);exact⟨typeIs_str s z t,λ_ e=>nomatch e⟩
 | int i=>
  obtain⟨t,rfl⟩:=r;cases(show T="int" from ty);exact⟨typeIs_int s i t,λ_ e=>nomatch e⟩
 | ref p=>
  cases r;rcases ty with⟨rfl,xs,hq⟩|⟨rfl,o,hk,hc,hd⟩|⟨rfl,hk⟩|⟨rfl,S,n,hk⟩
  ·obtain⟨ah,_,pl,_⟩:=I.list hq;refine⟨pl.isList.typeIs,λa e=>?_⟩;cases e;obtain⟨o,n,e,c,hd,_⟩:=pl;exact⟨o,e,hd⟩
  ·refine⟨⟨o,I.kIn p o hk,hc⟩,λa e=>?_⟩;cases e;exact⟨o,I.kIn _ o hk,hd⟩
  ·have z:∃o,s.heap.get? p=some o/\o.ExactDict:=by
    rcases hk with⟨kvs,hk⟩|⟨kvs,hk⟩
    ·obtain⟨_,_,_,_,o,_,_,e,ex,_⟩:=I.hok p _ hk;exact⟨o,e,ex⟩
    ·obtain⟨_,_,_,_,o,_,_,e,ex,_⟩:=I.hok p _ hk;exact⟨o,e,ex⟩
   obtain⟨o,e,ex⟩:=z;refine⟨⟨o,e,ex.1⟩,λa e2=>?_⟩;cases e2;exact⟨o,e,ex.2.1⟩
  ·obtain⟨o,_,_,_,e,ex,_⟩:=I.hok p _ hk;refine⟨⟨o,e,ex.1⟩,λa e2=>?_⟩;cases e2;exact⟨o,e,ex.2.1⟩
 |_=>exact False.elim ty
abbrev tBM(K:Frag)(T:String)(r:V->List V->Hp->VK->Prop)(to:TE)(t:TA):TE:=fun O H Q=>to O H λx H1=>tyV K T x H1/\t O H1 λxs H2=>r x xs H2 Q
variable {o e:Expr}{es:List Expr}{to:TE}{t:TA}{name:Str}{br az:Pos}{T id:String}{r:V->List V->Hp->VK->Prop}
theorem wjf(pa:PlainAttrs T)(slot:Slot T name id)(qr:typeOf (.builtin id)=pure (.type "method_descriptor"))(hm:MtR X id r)(ho:PE X o to)(ha:PA X (e::es) t)
  (cz:autoParam (attributeBase o name X.env (eval o X.env)=eval o X.env) Ŕ)
  (fk:autoParam (((backTo az (starEach (e::es) X.env)).all (λx=>!x.1)&&(backToKw az (keywordEach [] X.env)).all (λx=>x.1.isSome)
   && decide ((e::es).length+([]:List Keyword).length+(if([]:List Keyword).isEmpty then 0 else 1)<30))=true) Ŕ)
  (de:autoParam ((br.endLine==az.line)=true) Ŕ) (hs:autoParam (starEach (e::es) X.env=(false,eval e X.env)::starEach es X.env) Ŕ) (bu:autoParam ((backTo az (starEach es X.env)).any (·.1)=false) Ŕ):
  PE X (.Call (.Attribute o name br) (e::es) [] az) (tBM X.K T r to t):=by
 intro pins s O H Q I h;refine wpAny_Call_method_late cz fk de rfl (thn (ho pins s O H _ I h) λv s1 ⟨x,H1,I1,r1,ty,q1⟩=>?_);obtain⟨h1,h2⟩:=vxf I1 r1 ty;refine⟨T,id,pa,slot,qr,h1,h2,?_⟩;have hA:=ha az pins s1 O H1 _ I1 q1;rw[hs]at hA ⊢;refine Calls.callWith_builtin (by show(false||(backTo az (starEach es X.env)).any (·.1))=false;rw[bu]<;>rfl) (Calls.evalArgs_plain ?_);exact thn hA λus s2 ⟨vs,H2,I2,r2,q2⟩=>hm pins s2 O H2 x vs v us Q I2 r1 r2 q2
end
def MtM(X:Cx)(id:String)(r:V->List V->Hp->VK->Prop):Prop:=
 ∀(pins:List (Addr×Obj)) (s:Shared) (O:St) (H:Hp) (x:V) (xs:List V) (v:Value) (us:List Value) (Q:VK),Inv X pins O H s->RelV x v->Vals xs us->r x xs H Q ->
  wpAny (model X.prog X.w) X.A (call (.builtin id) (v::us)) (EP X pins O Q) X.xe s
theorem Vals.one:∀{x:V} {us:List Value},Vals [x] us->∃u,us=[u]/\RelV x u
 |_,_,.cons r .nil=>⟨_,rfl,r⟩
theorem Vals.eraseIdx:∀{xs:List V} {us:List Value} (i:Nat),Vals xs us->Vals (xs.eraseIdx i) (us.eraseIdx i)
 |_,_,_,.nil=>.nil|_,_,0,.cons _ t=>t|_,_,i+1,.cons r t=>.cons r (Vals.eraseIdx i t)
theorem Vals.rep{xs:List V}{us:List Value}(h:Vals xs us):∀k:Nat,Vals (List.replicate k xs).flatten (List.replicate k us).flatten
 |0=>.nil
 |k+1=>by
  rw[List.replicate_succ,List.replicate_succ,Zc,Zc];exact Vals.append h (Vals.rep h k)
theorem kvl{α:Type}:∀(l:List α) (i:Nat),(l.eraseIdx i).length<=l.length
 |[],_=>X9 _|_::_,0=>Nat.le_succ _|_::r,i+1=>Nat.succ_le_succ (kvl r i)
theorem kjk(ah:List Value):∀(k:Nat) (ao:List Value),
  List.foldl (λx1 x2=>x1++x2) ao.toArray (List.replicate k ah.toArray)=(ao++(List.replicate k ah).flatten).toArray
 | 0,ao=>by simp
 | k+1,ao=>by
  have e:ao.toArray++ah.toArray=(ao++ah).toArray:=by simp
  have e2:(ao++ah)++(List.replicate k ah).flatten=ao++(List.replicate (k+1) ah).flatten:=by
   rw[List.replicate_succ,Zc,Xy]
  rw[<-e2,<-kjk ah k (ao++ah),<-e,List.replicate_succ,List.foldl_cons]
section
variable {X:Cx}{pins:List (Addr×Obj)}{O:St}{H:Hp}{s:Shared}{l b:Addr}{xs ys zs:List V}
theorem Inv.lset{ah its':List Value}{n:Nat}{f:Array Value->Array Value}{t':Nat}(I:Inv X pins O H s)(hH:H l=some (.lst xs))
  (e:s.heap.get? l=some { cls:=.type "list",data:=.seq ah.toArray n }) (hf:f ah.toArray=its'.toArray) (hv:Vals ys its') (hz:ys.length<=sizeLine):
  Inv X pins O (upd H l (.lst ys)) { s with heap:=s.heap.update l (Obj.mapSeq f),toks:=t' }:=by
 have q:=PySem.IsL.update e f;rw[hf]at q;refine I.write (x:=l) (e:=l) (by rw[hH];exact trivial) (.inl rfl) (λb' u hb hu=>(Z5 s.heap (Obj.mapSeq f) (Zi hb)).trans hu) ⟨_,q⟩ ?_;exact⟨hz,its',_,hv,q⟩
theorem Inv.lnew{ah:List Value}{t':Nat}(I:Inv X pins O H s)(hv:Vals ys ah)(hz:ys.length<=sizeLine):
  Inv X pins O (upd H s.heap.objs.size (.lst ys)) { s with heap:=s.heap.push { cls:=.type "list",data:=.seq ah.toArray },toks:=t' }:=
 I.laid (λ_ _ q=>X1 _ q) (X9 _) ⟨hz,ah,0,hv,X6 _ rfl⟩
theorem Inv.fresh(I:Inv X pins O H s):H s.heap.objs.size=none:=I.hok.fresh (X9 _)
theorem Inv.lstM(I:Inv X pins O H s)(hH:H l=some (.lst xs)):xs.length<=sizeLine/\∃(ah:List Value) (n:Nat),Vals xs ah/\xs.length=ah.length/\s.heap.get? l=some { cls:=.type "list",data:=.seq ah.toArray n }:=by
 obtain⟨z,ah,n,r,e⟩:=I.hok l _ hH;exact⟨z,ah,n,r,r.length,e⟩
theorem qzo{n:Nat}(h:n<=sizeLine):Builtin.List.listTooLong n=false:=by
 unfold Builtin.List.listTooLong;exact Xi ⋯
end
section
variable {X:Cx}
def kx5:V->List V->Hp->VK->Prop:=λx vs H Q=>∃l xs y,x=.ref l/\vs=[y]/\H l=some (.lst xs)/\xs.length<sizeLine/\Q .non (upd H l (.lst (xs++[y])))
theorem qvm:MtM X "list.append" kx5:=by
 intro pins s O H x vs v us Q I rx rv h;obtain⟨l,xs,y,rfl,rfl,hH,hz,q⟩:=h;cases rx;obtain⟨u,rfl,ru⟩:=rv.one;obtain⟨z,ah,n,r,hl,e⟩:=I.lstM hH;refine call_meets F.slot_list_append ⟨_,e,rfl⟩ F.entry_list_append (F.args_list_append_2 _ _) (PySem.list_append l ah.toArray n u (by rw[X5];omega)) ⟨e,?_⟩;refine⟨.non,_,I.lset (its':=ah++[u]) hH e (by simp) (r.append (.cons ru .nil)) ?_,rfl,q⟩;rw[Xf,Yi];omega
def vk2:V->List V->Hp->VK->Prop:=λx vs H Q=>∃l xs i k y,x=.ref l/\vs=[.int i]/\H l=some (.lst xs)/\-(2 ^ 63)<=i/\i<2 ^ 63/\seqIndex? i xs.length=some k/\xs[k]?=some y/\Q y (upd H l (.lst (xs.eraseIdx k)))
theorem qzr:MtM X "list.pop" vk2:=by
 intro pins s O H x vs v us Q I rx rv h;obtain⟨l,xs,i,k,y,rfl,rfl,hH,h1,h2,hk,hy,q⟩:=h;cases rx;obtain⟨u,rfl,ru⟩:=rv.one;obtain⟨t,rfl⟩:=ru;obtain⟨z,ah,n,r,hl,e⟩:=I.lstM hH;obtain⟨w,hw,jb⟩:=r.get hy;refine call_meets F.slot_list_pop ⟨_,e,rfl⟩ F.entry_list_pop (F.args_list_pop_2 _ _)
  (MeetsSeq.list_pop_at l ah.toArray n i t k w (fitsIndex_both h1 h2) (by rw[X5,<-hl];exact hk) (by rw[<-Yj];exact hw) (by rw[X5];omega)) ⟨e,?_⟩
 refine⟨y,_,I.lset (its':=ah.eraseIdx k) hH e ?_ (r.eraseIdx k) ?_,jb,q⟩
 ·show ah.toArray.eraseIdxIfInBounds k=(ah.eraseIdx k).toArray;rw[List.eraseIdxIfInBounds_toArray]
 ·have:=kvl xs k;omega
theorem qvt{α:Type}(xs:List α)(k:Nat):(List.replicate k xs).flatten.length=k*xs.length:=by
 induction k with|zero=>simp|succ k ih=>rw[List.replicate_succ,Zc,Xf,ih,Nat.succ_mul,Nat.add_comm]
end
end L2
namespace Att
open PySem PySem.W PySem.Calls PyProof.Rows
theorem kjh{P:Params}{h:Heap}:∀(ns:List Int) (vs:List Value),WellAll P h vs (ns.map WData.int)->IntsAre vs ns:=by
 intro ns
 induction ns with
 | nil=>
  intro vs w;rw[List.map_nil]at w;cases w;exact .nil
 | cons n ns ih=>
  intro vs w;rw[List.map_cons]at w;cases w with
  |cons a b=>
   cases a;exact .cons _ _ (ih _ b)
theorem script_of{l : OpenLaw}{n : Nat}(hn : l.most = some n){P : Params}{h : Heap}{args : List WData}{cw : List Value}
    (lx : l.row.toRowW.claim.pre args = true) (hwl : WellAll P h cw args):
    ∃ a vs ns, cw = [Value.ref a] /\ args = [WData.list (ns.map WData.int)] /\ h.get? a = some { cls:= .type "list", data:= .seq vs.toArray } /\ IntsAre vs ns /\ ns.length<=n:= by
  have hsh : WShape.hasAll [] args [.list .int] = true:= (pre_splitW lx).1;have hc : l.pre.holds [] { args:= args } = true:= (pre_splitW lx).2;obtain⟨d, r, rfl, h1, h2⟩:= hasAllW_cons hsh;obtain rfl:= hasAllW_nil h2;obtain⟨xs, rfl, h3⟩:= hasW_list h1;obtain⟨ns, rfl⟩:= items_int h3;have av : ns.length<=n:= by
    unfold OpenLaw.pre at hc;have h4 : (WTm.not (.lt (.lit (.int (n : Int))) (.len (.arg 0)))).holds [] { args:= [.list (ns.map .int)] } = true:= by
      have h4:= (holds_andW hc).1;rw[hn]at h4;exact h4
    have h5:= condW_of h4 (w_not (w_lt w_lit (w_len_list (w_arg rfl))));rw[X4]at h5;refine Nat.le_of_not_lt λq=> ?_
    have q' : (n : Int)<((ns.length : Nat): Int):= by omega
    first
      |(rw[Xl q']at h5; exact absurd h5 ⋯)
      |(simp at h5; omega)
  cases hwl with
  | cons w1 w2=>
    cases w2;cases w1 with|list ho nq=>exact⟨_, _, ns, rfl, rfl, ho, kjh ns _ nq, av⟩
theorem post_true(l:OpenLaw)(args:List WData):l.row.toRowW.claim.post args (.bool true) args=true:=
 postW_of (r:=l.row.toRowW) (X:=(true==true))
  (show WShape.has [] (.bool true) .bool=true by first|rfl|decide|simp[WShape.has,WShape.arms,WShape.armsAll])
  (show(WTm.eq .res (.lit (.bool true))).value [] { args:=args,res:=some (.bool true),after:=args }=some (.bool (true==true))from w_eq_bool (w_res rfl) w_lit) rfl
end Att
namespace L2
open PySem PySem.Spec PyProof.Rows
def wx2(H:Hp):Prop:=∀b,H b=none\/∃o xs,H b=some (.frz o (.lst xs))
def wW(s:Stmt):Arguments:=match s with
 |.FunctionDef _ a _ _ _ _ _ _ _ _=>a|_=>{ posonlyargs:=[],args:=[],vararg:=none,kwonlyargs:=[],kw_defaults:=[],kwarg:=none,defaults:=[] }
def zj(s:Stmt):List Stmt:=match s with
 |.FunctionDef _ _ b _ _ _ _ _ _ _=>b|_=>[]
def k9(s:Stmt):Scope:=match s with
 |.FunctionDef _ _ _ _ _ _ sc _ _ _=>sc|_=>{ kind:=.function,names:=[],isGenerator:=false,isCoroutine:=false }
abbrev E0:XK:=λ_ _ _=>False
structure Fun (K:Frag)(x qual:Str)(st:Stmt)(f:Addr)(fd:FuncData):Prop where
 ex:∃(oc:Value) (od:Option Addr) (kV fy pm:Value) (an:Option Addr) (bi ct:Value) (jr:Array (Option Value)),
  fd=PySem.W.fnOf x qual (wW st) (zj st) (k9 st) .none kV fy pm an bi ct/\K.lookup f=some ⟨oc,od,.func fd,jr⟩/\PySem.W.codeIn K bi qual=true
 kp:PySem.W.keepIn K (.ref f)=true
section
variable {P:Program}{w:World}{K:Frag}{mg:Str->Option Value}{base:Heap}
theorem Fun.binds{x qual:Str}{st:Stmt}{f:Addr}{fd:FuncData}{ps:List Str}(F:Fun K x qual st f fd)
  (h:∀(kV fy pm:Value) (an:Option Addr) (bi ct:Value) (us:List Value),us.length=ps.length->bindArgs (PySem.W.fnOf x qual (wW st) (zj st) (k9 st) .none kV fy pm an bi ct) ⟨us,[]⟩=pure (ps.zip us)):Binds K fd ps []:=by
 obtain⟨oc,od,kV,fy,pm,an,bi,ct,jr,rfl,lk,gr⟩:=F.ex;exact .all (h kV fy pm an bi ct)
theorem qwf{x qual:Str}{st:Stmt}{f:Addr}{oc:Value}{od an:Option Addr}{jr:Array (Option Value)}{kV fy pm bi ct:Value}(l:K.lookup f=some ⟨oc,od,.func (PySem.W.fnOf x qual (wW st) (zj st) (k9 st) .none kV fy pm an bi ct),jr⟩)
  (c:PySem.W.codeIn K bi qual=true) (k:PySem.W.keepIn K (.ref f)=true):Fun K x qual st f (PySem.W.fnOf x qual (wW st) (zj st) (k9 st) .none kV fy pm an bi ct):=⟨⟨oc,od,kV,fy,pm,an,bi,ct,jr,rfl,l,c⟩,k⟩
end
section
variable {X:Cx}
theorem pv(i:Nat){x:Str}{pos:Pos}(hN:autoParam (X.N[i]?=some x) Ŕ)(hv:autoParam (Vis X.env.scope x) ř)(hd:autoParam ((x==("__debug__":Str))=false) ŕ)
  (gr:autoParam ((x==("__classdict__":Str))=false) ŕ):PE X (.Name x pos) (JZ i):=wj9 hN hv hd gr
end
def k8(H H':Hp):Prop:=∀b o,H b=some o->H' b=some o
section
variable {κ:Type}[DecidableEq κ]
def zw(kvs:List (κ×V))(k:κ):Option V:=(kvs.find? λkv=>decide (kv.1=k)).map (·.2)
def wqw(kvs:List (κ×V))(k:κ)(v:V):List (κ×V):=
 if(kvs.any λkv=>decide (kv.1=k))=true then kvs.map (λkv=>if kv.1=k then(kv.1,v)else kv)else kvs++[(k,v)]
theorem kz4{p:κ×V}{r:List (κ×V)}{k:κ}(e:p.1=k):zw (p::r) k=some p.2:=by simp[zw,Yl,e]
theorem kz5{p:κ×V}{r:List (κ×V)}{k:κ}(e:¬p.1=k):zw (p::r) k=zw r k:=by simp[zw,Yl,e]
theorem RelO.isSome_eq{o:Option V}{u:Option Value}(r:RelO o u):o.isSome=u.isSome:=by
 cases o with
 |none=>cases u with|none=>rfl|some _=>exact(show False from r).elim
 |some _=>cases u with|none=>exact(show False from r).elim|some _=>rfl
theorem KV.val{kvs:List (κ×V)}{vs:List (κ×Value)}(r:KV kvs vs)(k:κ):RelO (zw kvs k) (valueAt vs k):=by
 unfold KV at r
 induction r with
 | nil=>exact True.intro
 | @cons p q ps qs h t ih=>
  obtain⟨h1,h2⟩:=h
  by_cases e:p.1=k
  ·have e':q.1=k:=h1.symm.trans e;have b:valueAt (q::qs) k=some q.2:=by simp[valueAt,Yl,e']
   rw[kz4 e,b];exact h2
  ·have e':¬q.1=k:=λz=>e (h1.trans z)
   have b:valueAt (q::qs) k=valueAt qs k:=by simp[valueAt,Yl,e']
   rw[kz5 e,b];exact ih
theorem KV.any{kvs:List (κ×V)}{vs:List (κ×Value)}(r:KV kvs vs)(k:κ):(kvs.any λkv=>decide (kv.1=k))=vs.any λkv=>decide (kv.1=k):=by
 unfold KV at r
 induction r with|nil=>rfl|cons h t ih=>rw[List.any_cons,List.any_cons,ih,h.1]
theorem KV.repl{kvs:List (κ×V)}{vs:List (κ×Value)}(r:KV kvs vs)(k:κ){y:V}{u:Value}(ry:RelV y u):
  KV (kvs.map λkv=>if kv.1=k then(kv.1,y)else kv) (vs.map λkv=>if kv.1=k then(kv.1,u)else kv):=by
 unfold KV at r ⊢
 induction r with
 |nil=>exact .nil
 |@cons p q ps qs h t ih=>
  rw[List.map_cons,List.map_cons];refine .cons ?_ ih;obtain⟨h1,h2⟩:=h
  by_cases e:p.1=k
  ·rw[X8 e,X8 (h1.symm.trans e)];exact⟨h1,ry⟩
  ·rw[Xb e,Xb (λz=>e (h1.trans z))];exact⟨h1,h2⟩
theorem KV.put{kvs:List (κ×V)}{vs:List (κ×Value)}(r:KV kvs vs)(k:κ){y:V}{u:Value}(ry:RelV y u):KV (wqw kvs k y) (stored vs k u):=by
 unfold wqw stored;rw[r.any k]
 by_cases e:(vs.any λkv=>decide (kv.1=k))=true
 ·rw[X8 e,X8 e];exact r.repl k ry
 ·rw[Xb e,Xb e];exact Paired.snoc r ⟨rfl,ry⟩
theorem KV.length{kvs:List (κ×V)}{vs:List (κ×Value)}(r:KV kvs vs):kvs.length=vs.length:=Paired.length r
end
theorem qzx{P:Program}{w:World}{k:Key}{u:Value}(r:RelV (kV k) u):(xx P w).is k u=true:=by
 cases k with|inl i=>obtain⟨t,e⟩:=(show ∃t,u=Value.int i t from r);subst e;exact kxi P w i t|inr x=>obtain⟨t,e⟩:=(show ∃t,u=Value.str x t from r);subst e;exact kxh P w x t
theorem kvr{P:Program}{w:World}:∀{ks:List Key} {us:List Value},Vals (ks.map kV) us->ItemsAre (xx P w) ks us
 |[],_,r=>by rw[List.map_nil]at r;cases r;exact .nil
 |k::ks,_,r=>by
  rw[List.map_cons]at r;cases r with|cons h t=>exact .cons (qzx h) (kvr t)
abbrev KT(H:Hp):List (List Key×V)->List (List Key×Addr×Value)->Prop:=Paired λp q=>p.1=q.1/\H q.2.1=some (.tup (p.1.map kV))/\RelV p.2 q.2.2
theorem KT.val{H:Hp}{kvs:List (List Key×V)}{xs:List (List Key×Addr×Value)}(r:KT H kvs xs)(k:List Key):RelO (zw kvs k) ((atKey xs k).map (·.2)):=by
 induction r with
 | nil=>exact True.intro
 | @cons p q ps qs h t ih=>
  obtain⟨h1,_,h2⟩:=h
  by_cases e:p.1=k
  ·have e':q.1=k:=h1.symm.trans e;have b:atKey (q::qs) k=some q.2:=by simp[atKey,Yl,e']
   rw[kz4 e,b];exact h2
  ·have e':¬q.1=k:=λz=>e (h1.trans z)
   have b:atKey (q::qs) k=atKey qs k:=by simp[atKey,Yl,e']
   rw[kz5 e,b];exact ih
section
variable {P:Program}{w:World}{H:Hp}{h:Heap}{a:Addr}
theorem qz1{u:HO}(ok:HOk P w H h)(e:Rd H a u):ObjOk P w H h a u:=e.ok ok
theorem vjb{kvs:List (Key×V)}(ok:HOk P w H h)(e:Rd H a (.dK kvs)):kvs.length<=sizeLine/\(a==sysModules)=false/\∃vs,KV kvs vs/\h.DictOf (xx P w) a vs:=
 show ObjOk P w H h a (.dK kvs)from qz1 ok e
theorem qw2{ks:List Key}(ok:HOk P w H h)(e:H a=some (.tup (ks.map kV))):(tupleKind (xx P w)).is h ks a:=by
 obtain⟨_,ah,r,o,h1,h2,_,n,h3⟩:=(show ObjOk P w H h a (.tup (ks.map kV))from ok a _ e);exact⟨o,ah.toArray,n,h1,h2,h3,by simpa using kvr r⟩
theorem vwg{kvs:List (List Key×V)}(ok:HOk P w H h)(e:Rd H a (.dT kvs)):kvs.length<=sizeLine/\(a==sysModules)=false /\
  ∃ xs,KT H kvs xs/\h.DictOfH (tupleKind (xx P w)) a xs:=by
 obtain⟨z,y,xs,r,o,es,ep,h1,h2,h3,h4,h5⟩:=(show ObjOk P w H h a (.dT kvs)from qz1 ok e);refine⟨z,y,xs,r,o,es,ep,h1,h2,h3,h4,λx hx=>?_,h5⟩;have all:∀{l:List (List Key×V)} {m:List (List Key×Addr×Value)},KT H l m->∀x∈m,(tupleKind (xx P w)).is h x.1 x.2.1:=by
  intro l m q
  induction q with
  | nil=>intro x hx;exact nomatch hx
  | @cons p q ps qs hq t ih=>
   intro x hx;rcases aD hx with e|hx
   ·subst e;exact qw2 ok (by rw[<-hq.1];exact hq.2.1)
   ·exact ih x hx
 exact all r x hx
end
def DGet(H:Hp)(a:Addr)(y:V)(r:Option V):Prop:=
 (∃kvs k,Rd H a (.dK kvs)/\y=kV k/\r=zw kvs k)\/∃kvs k b,Rd H a (.dT kvs)/\y=.ref b/\H b=some (.tup (k.map kV))/\r=zw kvs k
theorem DGet.k{H:Hp}{a:Addr}{kvs:List (Key×V)}{k:Key}(e:H a=some (.dK kvs)):DGet H a (kV k) (zw kvs k):=.inl ⟨kvs,k,.inl e,rfl,rfl⟩
section
variable {X:Cx}{pins:List (Addr×Obj)}{O:St}{H:Hp}{s:Shared}{a:Addr}{y v:V}{u r:Value}{o:Option V}{A:Around}{E:Value->Shared->Prop}
theorem Inv.big(I:Inv X pins O H s):sysModules<s.heap.objs.size:=by
 have h:mainGlobals<s.heap.objs.size:=(I.mod.glob.keeps I.bk).lt;exact Nat.lt_trans ⋯ h
theorem qwu{Q:Value->Shared->Prop}(hu:A.units+1<cLine)(I:Inv X pins O H s)(g:DGet H a y (some v))(ry:RelV y u)(h:∀w' s',Inv X pins O H s'->RelV v w'->Q w' s'):
  wpAny (model X.prog X.w) A (getItem (.ref a) u) Q E s:=by
 rcases g with⟨kvs,k,e,ey,l⟩|⟨kvs,k,b,e,ey,eb,l⟩
 ·subst ey;obtain⟨z,hd,vs,gz,dd⟩:=vjb I.hok e;obtain⟨w',hw,jb⟩:=RelO.some_of (v:=v) (o:=valueAt vs k) (by rw[l];exact gz.val k);exact wpAny_getItem_of (qzx ry) dd.mapOf hw (h w' _ (I.tok _) jb)
 ·subst ey;cases(show u=Value.ref b from ry);obtain⟨z,hd,xs,gz,dd⟩:=vwg I.hok e;obtain⟨w',hw,jb⟩:=RelO.some_of (v:=v) (o:=(atKey xs k).map (·.2)) (by rw[l];exact gz.val k);obtain⟨p,hp,hp2⟩:=Option.map_eq_some_iff.mp hw;refine wpAny_getItem_heap (tupleKind_room_in1 hu) (qw2 I.hok eb) dd hp ?_;rw[hp2];exact h w' _ (I.tok _) jb
theorem d_in{Q:Value->Shared->Prop}(hu:A.units+1<cLine)(I:Inv X pins O H s)(g:DGet H a y o)(ry:RelV y u)(h:∀s',Inv X pins O H s'->Q (.bool o.isSome) s'):
  wpAny (model X.prog X.w) A (compareOp .In u (.ref a)) Q E s:=by
 rcases g with⟨kvs,k,e,ey,l⟩|⟨kvs,k,b,e,ey,eb,l⟩
 ·subst ey;obtain⟨z,hd,vs,gz,dd⟩:=vjb I.hok e;refine wpAny_in_of (qzx ry) hd dd.mapOf ?_;rw[<-(gz.val k).isSome_eq,<-l];exact h _ (I.tok _)
 ·subst ey;cases(show u=Value.ref b from ry);obtain⟨z,hd,xs,gz,dd⟩:=vwg I.hok e;refine wpAny_in_heap (tupleKind_room_in1 hu) (qw2 I.hok eb) hd dd ?_;have q:=(gz.val k).isSome_eq;rw[Option.isSome_map]at q;rw[<-q,<-l];exact h _ (I.tok _)
theorem qwt{h':Heap}{t':Nat}{ob:HO}(I:Inv X pins O H s)(mu:Mut (H a))(hs:Heap.SameBut a s.heap h')(he:∃q,h'.get? a=some q)(new:ObjOk X.prog X.w (upd H a ob) h' a ob):
  Inv X pins O (upd H a ob) { s with heap:=h',toks:=t' }:=
 I.write (x:=a) (e:=a) mu (.inl rfl) (λb q hb z=>(hs.2 b hb).trans z) he new
theorem wky{P:Program}{w:World}{H':Hp}{h':Heap}{kvs:List (Key×V)}{vs:List (Key×Value)}(z:kvs.length<=sizeLine)(hd:(a==sysModules)=false)(gz:KV kvs vs)(dd:h'.DictOf (xx P w) a vs):
  ObjOk P w H' h' a (.dK kvs):=⟨z,hd,vs,gz,dd⟩
end
section
variable {X:Cx}{pins:List (Addr×Obj)}{O:St}{H:Hp}{s:Shared}{a:Addr}{kvs:List (Key×V)}{k:Key}{u:Value}{A:Around}{E:Value->Shared->Prop}
theorem wwt{Q:Value->Shared->Prop}(I:Inv X pins O H s)(e:Rd H a (.dK kvs))(h:∀t s',Inv X pins O H s'->Q (.int kvs.length t) s'):wpAny (model X.prog X.w) A (call (.builtin "len") [.ref a]) Q E s:=by
 obtain⟨z,hd,vs,gz,dd⟩:=vjb I.hok e;refine call_len_dict hd dd (by rw[<-gz.length];rw[sizeLine_eq]at z;omega) ?_;rw[<-gz.length];exact h _ _ (I.tok _)
end
def wqm(i:Expr):Prop:=∀ov iv,subscripted i false ov iv=operate [ov,iv] (getItem ov iv)
theorem qq1{prog:Program}{w:World}{A:Around}{E:Value->Shared->Prop}{s:Shared}{env:Env}{value slice:Expr}{pos:Pos}{T id:String}{Q:Value->Shared->Prop}
  (hl:typeLookup (.type T) "__getitem__"=pure (some (.builtin id))) (hs:wqm slice)
  (h:wpAny (model prog w) A (eval value env) (λo s₁=>wpAny (model prog w) A (eval slice env) (λi s₂=>s₂.TypeIs o T/\wpAny (model prog w) A (getItem o i) Q E s₂) E s₁) E s):
  wpAny (model prog w) A (eval (.Subscript value slice pos) env) Q E s:=by
 refine Subscript_ (Yx h (λo s₁ h₁=>Yx h₁ (λi s₂ h₂=>?_) λ_ _ x=>x) λ_ _ x=>x);obtain⟨hT,h₂⟩:=h₂;unfold subscriptTail;refine X0 ?_;rw[getitemInPython_of_ne hT.not_modules];refine X0 (Ym hT hl ?_);have fin:wpAny (model prog w) A (subscripted slice false o i) (λr s₃=>wpAny (model prog w) A (letTemporaryGo value o r >>= λ_=>pure r) Q E s₃) E s₂:=by
  rw[hs o i];exact wpAny_operating (Yx h₂ (λr s₃ h₃=>X0 (wpAny_letTemporaryGo (X2 h₃))) λ_ _ x=>x)
 first
  |exact X2 (X0 fin)
  |exact X0 (X2 (X0 fin))
  |exact X0 fin
theorem kxv{X:Cx}{pins:List (Addr×Obj)}{O:St}{H:Hp}{s:Shared}{a:Addr}{y:V}{o:Option V}(I:Inv X pins O H s)(g:DGet H a y o):s.TypeIs (.ref a) "dict":=by
 rcases g with⟨kvs,k,e,_,_⟩|⟨kvs,k,b,e,_,_,_⟩
 ·obtain⟨_,_,vs,_,dd⟩:=vjb I.hok e;exact dd.typeIs
 ·obtain⟨_,_,xs,_,dd⟩:=vwg I.hok e;exact dd.typeIs
abbrev wv7(td ty:TE):TE:=fun O H Q=>td O H λx H1=>ty O H1 λy H2=>∃a v,x=.ref a/\DGet H2 a y (some v)/\Q v H2
section
variable {X:Cx}{o i e value:Expr}{pos bj i8:Pos}{td ty tv:TE}
theorem vv8(hu:X.A.units+1<cLine)(ho:PE X o td)(hi:PE X i ty)(hs:wqm i):PE X (.Subscript o i pos) (wv7 td ty):=by
 intro pins s O H Q I h;refine qq1 PySem.F.slot_dict_getitem.lookup hs (thn (ho pins s O H _ I h) λu s1 ⟨x,H1,I1,rx,q1⟩=>thn (hi pins s1 O H1 _ I1 q1) λiv s2 ⟨y,H2,I2,ry,a,v,ex,g,q2⟩=>?_);subst ex;obtain rfl:u=Value.ref a:=rx;exact⟨kxv I2 g,qwu hu I2 g ry λw' s3 I3 jb=>⟨v,H2,I3,jb,q2⟩⟩
end
def vjx:List (TE×TE)->St->Hp->(List (V×V)->Hp->Prop)->Prop
 |[],_,H,Q=>Q [] H|(tk,tv)::r,O,H,Q=>tk O H λx H1=>tv O H1 λy H2=>vjx r O H2 λps H3=>Q ((x,y)::ps) H3
abbrev VV:List (V×V)->List (Value×Value)->Prop:=Paired λp q=>RelV p.1 q.1/\RelV p.2 q.2
noncomputable def PPs(X:Cx)(pos:Pos)(keys:List (Option Expr))(nv:List Expr)(trs:List (TE×TE)):Prop:=
 ∀(pins:List (Addr×Obj)) (s:Shared) (O:St) (H:Hp) (Q:List (V×V)->Hp->Prop),Inv X pins O H s->vjx trs O H Q ->
  wpAny (model X.prog X.w) X.A (evalPairs (pairTrees keys nv X.env pos)) (λvs s'=>∃ps H',Inv X pins O H' s'/\VV ps vs/\Q ps H') X.xe s
theorem vv1{X:Cx}{pos:Pos}:PPs X pos [] [] []:=λpins s O H Q I h=>pairTrees_nil_walk ⟨[],H,I,.nil,h⟩
theorem qzd{X:Cx}{pos:Pos}{k v:Expr}{ks:List (Option Expr)}{vs:List Expr}{tk tv:TE}{trs:List (TE×TE)}(hk:PE X k tk)(hv:PE X v tv)(hr:PPs X pos ks vs trs):
  PPs X pos (some k::ks) (v::vs) ((tk,tv)::trs):=λpins s O H Q I h=>
 pairTrees_cons_walk (thn (hk pins s O H _ I h) λu s1 ⟨x,H1,I1,rx,q1⟩=>thn (hv pins s1 O H1 _ I1 q1) λw2 s2 ⟨y,H2,I2,ry,q2⟩=>
  thn (hr pins s2 O H2 _ I2 q2) λws s3 ⟨ps,H3,I3,gz,q3⟩=>⟨(x,y)::ps,H3,I3,.cons ⟨rx,ry⟩ gz,q3⟩)
section
variable {X:Cx}
theorem qwz:CallR X (.builtin "len") (λxs H Q=>∃a kvs,xs=[V.ref a]/\H a=some (.dK kvs)/\Q (.int kvs.length) H):=by
 intro pins s O H xs us Q I r h;obtain⟨a,kvs,rfl,ha,q⟩:=h;obtain⟨u,rfl,ru⟩:=z5 r;cases ru;exact wwt I (.inl ha) λt s' I'=>⟨.int kvs.length,H,I',⟨t,rfl⟩,q⟩
end
end L2
set_option maxHeartbeats 4000000
namespace L3
open PySem PySem.Spec PyProof.Rows L2
abbrev qvw(eh:List Expr)(env:Env):Sem Bool:=
 forIn eh true λc r=>if r=true then do let ok <-isTrue c env (eval c env);pure (ForInStep.yield ok)else pure (ForInStep.yield r)
theorem jw4 (env : Env): ∀(l : List (Str × NameKind)) (cs : List (Str × Addr)), (∀y ∈ l, y.2 = .free -> ∃c, env.cells.lookup y.1 = some c) ->
    (∀x c, cs.lookup x = some c -> env.cells.lookup x = some c) ->
    ∃ cl, (forIn l cs (λ(x : Str × NameKind) (r : List (Str × Addr))=>if(x.2==NameKind.free) = true then do let a <-cellOf env x.1; pure (ForInStep.yield ((x.1, a)::r))else pure (ForInStep.yield r)): Sem (List (Str × Addr))) = pure cl /\
      (∀x c, cl.lookup x = some c -> env.cells.lookup x = some c) /\ (∀x c, cs.lookup x = some c -> ∃c', cl.lookup x = some c') /\ ∀y ∈ l, y.2 = .free -> ∃c, cl.lookup y.1 = some c
  | [], cs, _, hs=>⟨cs, rfl, hs, λx c h=>⟨c, h⟩, λ_ h=>nomatch h⟩
  | (n, k)::r, cs, hl, hs=>by
    by_cases hk : k = .free
    · subst hk
      obtain⟨c, hc⟩:= hl (n, .free) X7 rfl;have jm : ∀x d, ((n, c)::cs).lookup x = some d -> env.cells.lookup x = some d:= λx d h=>by
        rw[Yy]at h;cases hx : x==n with
        | true=>
          rw[hx]at h;have e : x = n:= by simpa using hx
          have e2 : c = d:= by simpa using h
          subst e; subst e2;exact hc
        | false=>rw[hx]at h; exact hs x d h
      obtain⟨cl, e, a, b, d⟩:= jw4 env r ((n, c)::cs) (λy hy=>hl y (lc9 _ hy)) jm;refine⟨cl, ?_, a, λx c' h=> ?_, λy hy hf=> ?_⟩
      · rw[List.forIn_cons]
        have q : cellOf env n = pure c:= by unfold cellOf; rw[hc]
        simp only[beq_self_eq_true, if_true, q, pure_bind];exact e
      · cases hx : x==n with| true=>exact b x c (by rw[Yy, hx])| false=>exact b x c' (by rw[Yy, hx]; exact h)
      · rcases aD hy with z|z
        · subst z
          exact b n c (by rw[Yy]; simp)
        · exact d y z hf
    · obtain⟨cl, e, a, b, d⟩:= jw4 env r cs (λy hy=>hl y (lc9 _ hy)) hs
      refine⟨cl, ?_, a, b, λy hy hf=> ?_⟩
      · rw[List.forIn_cons]
        have q : (k==NameKind.free) = false:= by simpa using hk
        simp only[q, Bool.false_eq_true, if_false, pure_bind];exact e
      · rcases aD hy with z|z
        · subst z
          exact absurd hf hk
        · exact d y z hf
theorem kkk{scope:Scope}{env:Env}(h:∀y∈scope.names,y.2=.free->∃c,env.cells.lookup y.1=some c):
  ∃cl,closureFor scope env=pure cl/\(∀x c,cl.lookup x=some c->env.cells.lookup x=some c)/\∀y∈scope.names,y.2=.free->∃c,cl.lookup y.1=some c:=by
 obtain⟨cl,e,a,_,d⟩:=jw4 env scope.names [] h (λx c h=>nomatch h);refine⟨cl,?_,a,d⟩;unfold closureFor;have e':=congrArg (λt:Sem (List (Str×Addr))=>t >>= pure) e
 simpa using e'
def lcX(X:Cx)(scope:Scope)(N:List Str)(cl:List (Str×Addr))(C:Addr)(s0:Shared)(H0:Hp)(fp:List Addr):Cx:=
 { X with N:=N,s₀:=s0,H₀:=H0,env:=compEnvC scope cl C X.env,outer:=X.stack,ex:=fp,fn:=λ_=>false,pn:=[],xe:=λ_ _=>False }
def Jx(k:Nat)(R:List Nat)(O:L2.St):L2.St:=List.replicate k none++R.map λj=>(O[j]?).join
structure LcOk (X:Cx)(scope:Scope)(N:List Str)(k:Nat)(R:List Nat):Prop where
 kind:scope.kind=.function
 nocell:∀y∈scope.names,y.2≠.cell
 names:∀y∈scope.names,y.2=.local->scope.names.lookup y.1=some .local
 caps:∀y∈scope.names,y.2=.free->X.env.kindOf y.1=some .cell\/X.env.kindOf y.1=some .free
 len:N.length=k+R.length
 outs:∀i j x,R[i]?=some j->N[k+i]?=some x->X.N[j]?=some x/\scope.names.lookup x=some .free
noncomputable def K9(XN:List Str)(sc scope:Scope)(N:List Str)(k:Nat)(R:List Nat):Bool:=
 scope.names.all (λy=>y.2 != .cell)&&scope.names.all (λy=>y.2 != .local||scope.names.lookup y.1==some .local) &&
 scope.names.all (λy=>y.2 != .free||(sc.names.lookup y.1==some .cell||sc.names.lookup y.1==some .free)) &&
 (N.length==k+R.length)&&(R.zip (N.drop k)).all (λp=>XN[p.1]? == some p.2&&scope.names.lookup p.2==some .free)
theorem kzw{X:Cx}{scope:Scope}{N:List Str}{k:Nat}{R:List Nat}(hk:scope.kind=.function)(h:K9 X.N X.env.scope scope N k R=true):LcOk X scope N k R:=by
 unfold K9 at h;simp only[Bool.and_eq_true,Z7,bne_iff_ne,Bool.or_eq_true,beq_iff_eq]at h;obtain⟨⟨⟨⟨h1,h2⟩,h3⟩,h4⟩,h5⟩:=h;refine⟨hk,λy hy=>h1 y hy,λy hy e=>(h2 y hy).resolve_left (λz=>z e),λy hy e=>(h3 y hy).resolve_left (λz=>z e),h4,λi j x e1 e2=>?_⟩;have m:(j,x)∈R.zip (N.drop k):=by
  refine List.mem_of_getElem? (i:=i) ?_;rw[List.getElem?_zip_eq_some];exact⟨e1,by rw[List.getElem?_drop];exact e2⟩
 exact h5 (j,x) m
theorem jkj {env : Env} {x : Str} {q : NameKind}: ∀{names : List (Str × NameKind)}, (names.map λ(n, k)=>if(k==NameKind.free&&env.scope.kind == .function&&env.kindOf n==some .cell)then(n, NameKind.cell)else(n, k)).lookup x = some q ->
    (x, q) ∈ names \/ (q = .cell /\ (x, NameKind.free) ∈ names)
  | [], h=>nomatch h
  | (n, k)::r, h=>by
    have h : List.lookup x ((if(k==NameKind.free&&env.scope.kind == .function&&env.kindOf n==some .cell) = true then(n, NameKind.cell)else(n, k))::(r.map λ(n, k)=>if(k==NameKind.free&&env.scope.kind == .function&&env.kindOf n==some .cell)then(n, NameKind.cell)else(n, k))) = some q:= h
    by_cases hc : (k==NameKind.free&&env.scope.kind == .function&&env.kindOf n==some .cell) = true
    · rw[X8 hc, Yy]at h
      cases hx : x==n with
      | true=>
        rw[hx]at h;have e : x = n:= by simpa using hx
        have e2 : NameKind.cell = q:= by simpa using h
        subst e;simp only[Bool.and_eq_true, beq_iff_eq]at hc;obtain⟨⟨e3, _⟩, _⟩:= hc;subst e3;exact .inr ⟨e2.symm, X7⟩
      | false=>
        rw[hx]at h;rcases jkj (names:= r) h with z|⟨z, y⟩
        · exact .inl (lc9 _ z)
        · exact .inr ⟨z, lc9 _ y⟩
    · rw[Xb hc, Yy]at h
      cases hx : x==n with
      | true=>
        rw[hx]at h;have e : x = n:= by simpa using hx
        have e2 : k = q:= by simpa using h
        subst e; subst e2;exact .inl X7
      | false=>
        rw[hx]at h;rcases jkj (names:= r) h with z|⟨z, y⟩
        · exact .inl (lc9 _ z)
        · exact .inr ⟨z, lc9 _ y⟩
section
variable {X:Cx}{pins:List (Addr×Obj)}{O:L2.St}{H:Hp}{s:Shared}
theorem wjz{scope:Scope}{N:List Str}{k:Nat}{R:List Nat}{cl:List (Str×Addr)}{C:Addr}(sc:LcOk X scope N k R)(bv:∀y∈scope.names,y.2=.free->∃c,cl.lookup y.1=some c)
  {x:Str} (h:(compEnvC scope cl C X.env).kindOf x=some .cell\/(compEnvC scope cl C X.env).kindOf x=some .free):∃c,cl.lookup x=some c:=by
 rcases h with h|h
 ·rcases jkj (env:=X.env) (names:=scope.names) h with z|⟨_,z⟩
  ·exact absurd rfl (sc.nocell _ z)
  ·exact bv _ z rfl
 ·rcases jkj (env:=X.env) (names:=scope.names) h with z|⟨z,_⟩
  ·exact bv _ z rfl
  ·cases z
theorem wk0{scope:Scope}{N:List Str}{k:Nat}{R:List Nat}{cl:List (Str×Addr)}{C:Addr}{fp:List Addr}(I:Inv X pins O H s)(sc:LcOk X scope N k R)(hf:∀b∈fp,v8 X pins H b)(ho:∀b∈fp,∃o,s.heap.get? b=some o)
  (hC:s.heap.objs.size<=C) (en:∀x c,cl.lookup x=some c->X.env.cells.lookup x=some c) (bv:∀y∈scope.names,y.2=.free->∃c,cl.lookup y.1=some c):(lcX X scope N cl C s H fp).Ok where
 mod:=I.ok.mod
 kind:=sc.kind
 glob:=I.ok.glob
 blt:=I.ok.blt
 above:=hC
 inj:=λx y c h1 h2=>I.ok.inj x y c (en _ _ h1) (en _ _ h2)
 has:=λx h=>wjz sc bv h
 cab:=λx c h=>by cases h
 hd:=I.ok.hd
 frames:=I.ok.frames
 stk:=.inl rfl
 exf:=λb hb=>by
  obtain⟨o,e⟩:=ho b hb;exact⟨Xg (Xh (Xa e) hC),λx c h=>(hf b hb).2.2.2.2.1 x c (en x c h)⟩
 bs:=λb o e=>I.bs b o e
 bsz:=Y8 I.ok.bsz I.sz
 noex:=λb o e hb=>by
  rcases(hf b hb).2.2.2.1 with z|z
  ·exact I.ok.noex b o e z
  ·exact absurd (Xh (Xa e) (Y8 I.ok.bsz z)) (Yh _)
 exfs:=λb hb hs=>by
  rcases aD (I.stkSub b hs)with z|z
  ·exact(hf b hb).2.1 z
  ·exact(hf b hb).2.2.1 z
 funs:=I.stack
 frf:=I.stkFree
theorem vxt(I:Inv X pins O H s){a:Addr}(h:s.heap.objs.size<=a):a∉frs X.stack:=λz=>by
 rcases aD (I.stkSub a z)with e|e
 ·subst e;exact absurd (Xh I.lt h) (Yh _)
 ·exact I.nofs h e
theorem vvs {scope:Scope} {N:List Str} {k:Nat} {R:List Nat} {cl:List (Str×Addr)} {C D:Addr} {fp:List Addr} {h1:Heap} {t:Nat} {m:Str->Option Value} {oD:Obj} (I:Inv X pins O H s) (sc:LcOk X scope N k R)
  (hf:∀ b∈fp,v8 X pins H b) (ho:∀b∈fp,∃o,s.heap.get? b=some o)
  (hC:s.heap.objs.size<=C) (hD:s.heap.objs.size<=D) (oe:D≠C) (en:∀x c,cl.lookup x=some c->X.env.cells.lookup x=some c) (bv:∀y∈scope.names,y.2=.free->∃c,cl.lookup y.1=some c)
  (f8:∀ b o,s.heap.get? b=some o->h1.get? b=some o) (hn:h1.Ns C m) (eD:h1.get? D=some oD) (dD:∀v,oD.data≠.cell v):
  Inv (lcX X scope N cl C s H fp) [(D,oD)] (Jx k R O) H { s with heap:=h1,toks:=t } where
 ok:=wk0 I sc hf ho hC en bv
 os:=rfl
 bare:=I.bare
 base:=Un.kept f8
 loc:=⟨m,hn,λi x v e1 e2 vis=>by
  obtain⟨mX,hnX,hl⟩:=I.loc;unfold Jx at e2
  by_cases hi:i<k
  ·rw [List.getElem?_append_left (by rw[Yv];exact hi),List.getElem?_replicate,X8 hi]at e2;cases e2
  ·have hk:k<=i:=Nat.le_of_not_lt hi;rw [List.getElem?_append_right (by rw[Yv];exact hk),Yv,Xp]at e2;cases er:R[i - k]? with
   | none=>rw[er]at e2;cases e2
   | some j=>
    rw [er]at e2;have ej:(O[j]?).join=some v:=by simpa using e2
    have ej':O[j]?=some (some v):=by
     cases q:O[j]? with
     | none=>rw[q]at ej;cases ej
     | some z=>rw[q]at ej;cases z with| none=>cases ej| some z=>rw[show z=v by simpa using ej]
    obtain⟨o1,o2⟩:=sc.outs (i - k) j x er (by rw[show k+(i - k)=i by omega];exact e1);have cap:=sc.caps (x,.free) (Yr o2) rfl;have visX:Vis X.env.scope x:=cap.elim (λz=>.inr (.inl z)) λz=>.inr (.inr z)
    obtain⟨u,ru,q⟩:=hl j x v o1 ej' visX;refine⟨u,ru,?_⟩;rcases q with⟨q,_⟩|⟨_,c,ec,hc⟩
    ·rcases cap with z|z
     ·rw[z]at q;cases q
     ·rw[z]at q;cases q
    ·obtain⟨c',ec'⟩:=bv (x,.free) (Yr o2) rfl;have e:c'=c:=oq9 ((en x c' ec').symm.trans ec);subst e;refine .inr ⟨?_,c',ec',?_⟩
     ·rcases vis with z|z|z
      ·rcases jkj (env:=X.env) (names:=scope.names) z with y|⟨y,_⟩
       ·have y':=sc.names _ y rfl;rw[o2]at y';cases y'
       ·cases y
      ·exact .inl z
      ·exact .inr z
     ·obtain⟨o,h1,h2⟩:=hc;exact⟨o,f8 _ _ h1,h2⟩⟩
 cell:=λx c h=>by
  obtain⟨v,o,h1,h2⟩:=I.cell x c (en x c h);exact⟨v,o,f8 _ _ h1,h2⟩
 free:=I.hok.fresh hC
 freeC:=λx c h=>I.freeC x c (en x c h)
 pin:=λp hp=>by
  have e:p=(D,oD):=by
   have hp:p∈([]++[(D,oD)]:List (Addr×Obj)):=hp
   simpa using hp
  subst e;exact⟨eD,I.hok.fresh hD,oe,vxt I hD,dD⟩
 hok:=I.hok.kept f8
 len:=by
  show(Jx k R O).length=N.length;unfold Jx;rw[sc.len,Xf,Yv,X4]
theorem kjg{a:Addr}{o:HO}(I:Inv X pins O H s)(hn:H a=none)(hL:a≠X.env.locals)(h1:a∈X.ex\/X.s₀.heap.objs.size<=a)(h2:∀x c,X.env.cells.lookup x=some c->c≠a)(h3:∀p∈X.pn++pins,p.1≠a)
  (new:ObjOk X.prog X.w (upd H a o) s.heap a o):Inv X pins O (upd H a o) s:=by
 have hok:HOk X.prog X.w (upd H a o) s.heap:=λb u e=>by
  by_cases hb:b=a
  ·subst hb;rw[vK]at e;cases e;exact new
  ·rw[kz hb]at e;exact(I.hok b u e).stay (λ_ _ _ q=>q) (λc q=>by rw[kz (wY q hn)];exact q) λc xs q=>by rw[kz (wY q hn)];exact q
 have na:∀b:Addr,b∉[a]->b≠a:=λb hb z=>hb (by rw[z];exact aB rfl)
 exact I.step (h':=s.heap) (H':=upd H a o) (g':=s.gens) (t':=s.toks) (d':=s.drawn) (ch:=[a])
  (λb hb=>by rw[aC hb];exact⟨h1,hL,h2,h3⟩) (λb o _ _ _ e _=>e) (λb o _ _ _ e _=>⟨o.slots,e⟩) (λb o hb _ q=>by rw[kz (na b hb)];exact q)
  (λb o _ e=>⟨o,e⟩) (λb xs q=>by rw[kz (wY q hn)];exact q) (λb o u q=>by rw[kz (wY q hn)];exact q) (λb ps q=>⟨#[],by rw[kz (wY q hn),q];simp⟩)
  (λm hm=>hm) hok I.bare
end
def PTs(X:Cx)(eh:List Expr)(t:TT):Prop:=
 ∀(pins:List (Addr×Obj)) (s:Shared) (O:L2.St) (H:Hp) (Q:Bool->Hp->Prop),Inv X pins O H s->t O H Q->wpAny (model X.prog X.w) X.A (qvw eh X.env) (TP X pins O Q) X.xe s
abbrev tYes:TT:=λ_ H Q=>Q true H
theorem vqv{X:Cx}:PTs X [] tYes:=λ_ _ _ H _ I h=>wpAny_tests_nil ⟨H,I,h⟩
theorem vqu{X:Cx}{c:Expr}{t:TT}(hc:PT X c t):PTs X [c] t:=λpins s O H Q I h=>wpAny_tests_one (hc pins s O H Q I h)
noncomputable def LcW(g:TG)(tt:TT)(te:TE)(Q:VK)(J:It)(W:Nat->Nat->List V->L2.St->Hp->Prop):Prop:=∀i m ys O H,W i m ys O H ->
 (J.stop i H/\ys.length<=sizeLine/\∀p,H p=none->Q (.ref p) (upd H p (.lst ys))) \/
 (J.go i H/\∀x H1,J.yld i H x H1->g x O H1 fun σ2 H2=>∃(Ny:VK) (Nn:Hp->Prop),(∀y H4,Ny y H4->ys.length<=sizeLine/\∃m',m'<m/\W (i+1) m' (ys++[y]) σ2 H4) /\
  (∀H4,Nn H4->∃m',m'<m/\W (i+1) m' ys σ2 H4)/\tt σ2 H2 λb H3=>if b=true then te σ2 H3 Ny else Nn H3)
abbrev tLC(wi:TI)(g:TG)(tt:TT)(te:TE)(k:Nat)(R:List Nat):TE:=fun O H Q=>wi O H λJ H1=>
 ∃W:Nat->Nat->List V->L2.St->Hp->Prop,(∃m,W 0 m [] (Jx k R O) H1)/\LcW g tt te Q J W
abbrev YQ(ah:List Value)(n:Nat):Obj:={ cls:=.type "list",data:=.seq ah.toArray n }
section
variable {X:Cx}
theorem op_mulI:OpR X (binaryOp .Mult) (rI IntMulOk λi j=>.int (i*j)):=opI λ_ _ _ _ _ _ _ hc q=>mul_int q hc
def wqo(_i j:Int):Prop:=0<j/\j.natAbs.log2<9000
theorem vz:OpR X (binaryOp .FloorDiv) (rI wqo λi j=>.int (i / j)):=opI λi j _ _ _ _ _ hc q=>by
 have h1:(0:Int)<j:=hc.1;exact floordiv_int ⋯ (by rw[Int.fdiv_eq_ediv_of_nonneg i ⋯];exact q) (.inl (PyProof.noPylong_of_log2 hc.2))
theorem vkw:∀{bs:List Bool} {ah:List Value} {i:Nat} {v:Value},Vals (bs.map V.bl) ah->ah[i]?=some v->∃b,bs[i]?=some b/\v=.bool b
 |[],_,_,_,.nil,e=>by simp at e
 |b::bs,_,0,v,.cons r _,e=>by
  simp at e;subst e;exact⟨b,rfl,r⟩
 |b::bs,_,i+1,v,.cons _ t,e=>by
  obtain⟨b',e1,e2⟩:=vkw (i:=i) t (by simpa using e);exact⟨b',by simpa using e1,e2⟩
theorem kv6(bs:List Bool):((List.range bs.length).all λi=>(bs[i]?).getD true)=bs.all id:=by
 rw[Bool.eq_iff_iff,Z7,Z7];constructor
 ·intro h b hb;obtain⟨i,hi,e⟩:=List.getElem_of_mem hb;have:=h i (List.mem_range.mpr hi);rw[X3 hi,e]at this;exact this
 ·intro h i hi;have lf:=List.mem_range.mp hi;rw[X3 lf];exact h _ (Yc lf)
def wvn(K:Frag):List V->Hp->VK->Prop:=λxs H Q=>∃(p:Addr) (bs:List Bool),xs=[.ref p]/\SqL K H p (bs.map V.bl)/\Q (.bl (bs.all id)) H
theorem vjh(hc:X.calm=true):CallR X (.builtin "all") (wvn X.K):=by
 intro pins s O H xs us Q I r h;obtain⟨p,bs,rfl,hq,q⟩:=h;obtain⟨u,rfl,ru⟩:=z5 r;cases ru;obtain⟨ah,rv,pl,hz⟩:=I.list hq;have hl:=pl.isList;have cx:p<s.heap.objs.size:=by obtain⟨_,e,_⟩:=hl;exact Xa e
 have av:bs.length=ah.length:=by rw[<-rv.length,X4]
 refine call_all_walk (wpAny_pyIter_list hl ?_);refine⟨s.heap.objs.size,[s.heap.objs.size,p],[s.heap.objs.size],ah.toArray.size,_,_,λi=>(bs[i]?).getD true,rfl,Walks.list (A:=X.A.in1) (I.ok.hd hc) _ p (Xg cx) ah.toArray,
  ⟨⟨_,X6 _ rfl,rfl,rfl⟩,hl.push _⟩,λi v s' Q' E' hP hQ=>?_,λh' tk hk=>?_⟩
 ·obtain⟨b,e,rfl⟩:=vkw rv (by simpa using hP);simp only[e,Option.getD_some]at hQ;exact wpAny_truthy_bool hQ
 ·have e:((List.range ah.toArray.size).all λi=>(bs[i]?).getD true)=bs.all id:=by
   rw[X5,<-av];exact kv6 bs
  rw[e];refine⟨.bl _,H,I.kept (t':=tk) (h':=h') λb o e=>hk b o (λz=>?_) (X1 _ e),rfl,q⟩;exact absurd (Xa e) (by rw[aC z];exact Yh _)
def Its(x:Str):It:=⟨λi _=>i<x.cps.size,λi H v H'=>H'=H/\∃c,x.cps[i]?=some c/\v=.str ⟨#[c]⟩,λi _=>i=x.cps.size⟩
theorem kz6{P:Program}{w:World}{K:Frag}{tg:Expr}{x:Str}{t:Tok}{it:Addr}{ty:String}
  (W:∀A':Around,A'.handled=none->Walks P w A' it [it] [it] x.cps.size (SignAt x) (λi h=>h.IsStrIter it ty x t i))
  (rz:∀(A:Around) (i:Nat) (s:Shared) (Q:Value->Shared->Prop) (E:Value->Shared->Prop),s.heap.IsStrIter it ty x t i->Q (.ref it) s->wpAny (model P w) A (pyIter (.ref it)) Q E s)
  (qr:["enumerate","zip","dict_itemiterator","dict_reverseitemiterator","odict_iterator","itertools.zip_longest","itertools.pairwise"].contains ty=false):
  Turn P w K tg (Its x) [it] it (λi h=>h.IsStrIter it ty x t i) where
 mem:=by simp
 obj:=λi h st b hb=>by
  have e:b=it:=by simpa using hb
  subst e;obtain⟨o,e,c,d⟩:=st;exact⟨o,e,λv z=>by rw[d]at z;cases z⟩
 keep:=λi h h' st k=>by
  obtain⟨o,e,r⟩:=st;exact⟨o,k it (by simp) o e,r⟩
 item:=by
  intro X hP hw hK hc i pins s O H E I hf st hg;subst hP hw hK;obtain⟨f0,f1,f2,f3,f4,f5⟩:=hf it (by simp);refine(W X.A (I.ok.hd hc)).item i s _ _ hg st λv h' tk hv ef kk=>?_
  obtain⟨c,u,ij,rfl⟩:=hv;have I1:Inv X pins O H { s with heap:=h',toks:=tk }:=I.turned (λb o hb e=>kk b o (by simpa using hb) e) f0 f1 f3 f4 f5;obtain⟨o,e,c1,d⟩:=id ef;exact⟨_,rfl,vj4 (s:={ s with heap:=h',toks:=tk }) e c1 d qr ⟨.str ⟨#[c]⟩,H,I1,⟨u,rfl⟩,⟨rfl,c,ij,rfl⟩,ef,λb hb=>(hf b hb).1⟩⟩
 done:=by
  intro X hP hw hK hc i pins s O H E I hf st hg;subst hP hw hK;obtain⟨f0,f1,f2,f3,f4,f5⟩:=hf it (by simp);have mv:i=x.cps.size:=hg;subst mv;exact(W X.A (I.ok.hd hc)).done s _ _ st λh' tk kk=>⟨rfl,I.turned (λb o hb e=>kk b o (by simpa using hb) e) f0 f1 f3 f4 f5⟩
 self:=λA i s Q E st hQ=>rz A i s Q E st hQ
def wxf:V->Option Int->Option Int->Hp->VK->Prop:=λx lo hi H Q=>∃z,x=.str z/\z.length<=sizeLine/\Q (.str (Txt.slice z lo hi)) H
theorem vxz:SlR X wxf:=by
 intro pins s O H x v vl vu lo hi sl Q I rx hs pl pu h;obtain⟨z,rfl,hz,q⟩:=h;obtain⟨t,rfl⟩:=rx;refine⟨"str",_,F.slot_str_getitem.lookup,typeIs_str _ _ _,?_⟩;have fin:∀(t':Tok) (k:Nat),EP X pins O Q (.str (Txt.slice z lo hi) t') { s with toks:=k }:=λt' k=>⟨.str _,H,I.tok k,⟨t',rfl⟩,q⟩
 have gf:(Txt.slice z lo hi).length<=sizeLine:=Y8 (Txt.slice_le z _ _) hz;cases pl with
 |none=>cases pu with|none=>exact wpAny_getItem_str_slice (l:=none) (u:=none) (st:=none) hs rfl (post_val_or_str ⟨gf,fin⟩)|int j tj=>exact wpAny_getItem_str_slice (l:=none) (u:=some (j,tj)) (st:=none) hs rfl (post_val_or_str ⟨gf,fin⟩)
 |int i ti=>cases pu with|none=>exact wpAny_getItem_str_slice (l:=some (i,ti)) (u:=none) (st:=none) hs rfl (post_val_or_str ⟨gf,fin⟩)|int j tj=>exact wpAny_getItem_str_slice (l:=some (i,ti)) (u:=some (j,tj)) (st:=none) hs rfl (post_val_or_str ⟨gf,fin⟩)
def vz9:R2:=λx y H Q=>∃z n,x=.str z/\y=.int n/\(z.length<=1024/\n<=1024/\-1024<=n)/\Q (.str (Txt.mul z n)) H
theorem vvg:OpR X (binaryOp .Mult) vz9:=by
 intro pins s O H x y v u Q I rx ry h;obtain⟨z,n,rfl,rfl,⟨h1,h2,h3⟩,q⟩:=h;obtain⟨t,rfl⟩:=rx;obtain⟨t',rfl⟩:=ry;exact SB.mul (mulOk_of 1024 1024 h1 h2 ⋯ ⋯ ⋯) λt' k=>⟨.str _,H,I.tok k,⟨t',rfl⟩,q⟩
theorem kz9:∀{ys:List Str} {ah:List Value},Vals (ys.map V.str) ah->StrsAre ah ys
 |[],_,.nil=>.nil|_::_,_,.cons ⟨t,e⟩ r=>by subst e;exact .cons _ t (kz9 r)
def wvk(K:Frag):V->List V->Hp->VK->Prop:=λx vs H Q=>∃z p ys,x=.str z/\vs=[.ref p]/\SqL K H p (ys.map V.str)/\(ys.map (·.length)).sum+ys.length*z.length<=16777216/\Q (.str (Txt.join z ys)) H
theorem vvn:MtR X "str.join" (wvk X.K):=by
 intro pins s O H x xs v us Q I rx rv h;obtain⟨z,p,ys,rfl,rfl,hq,hok,q⟩:=h;obtain⟨t,rfl⟩:=rx;obtain⟨u,rfl,ru⟩:=rv.one;cases ru;obtain⟨ah,rs,pl,hz⟩:=I.list hq;exact join_list pl.isList (kz9 rs) hok λt' k=>⟨.str _,H,I.tok k,⟨t',rfl⟩,q⟩
def vk1(K:Frag):V->Option Int->Option Int->Hp->VK->Prop:=λx lo hi H Q=>wxg K x lo hi H Q\/wxe K x lo hi H Q\/wxf x lo hi H Q
theorem wvd(K:Frag)(hK:autoParam (X.K=K) Ŕ):SlR X (vk1 K):=by subst hK;exact sl_list.or (sl_tup.or vxz)
def qqk(K:Frag):List V->Hp->VK->Prop:=λxs H Q=>(∃p ys,xs=[.ref p]/\(SqL K H p ys\/SqT K H p ys)/\Q (.int ys.length) H)\/(∃z,xs=[.str z]/\z.length<=sizeLine/\Q (.int z.length) H)\/(∃a kvs,xs=[V.ref a]/\H a=some (.dK kvs)/\Q (.int kvs.length) H)
theorem vwo(K:Frag)(hK:autoParam (X.K=K) Ŕ):CallR X (.builtin "len") (qqk K):=by subst hK;exact call_len_seq.or (call_len_str.or qwz)
theorem qx2:CallR X (.type "int") (λxs H Q=>(∃i,xs=[.int i]/\Q (.int i) H)\/∃k,xs=[.bl k]/\Q (.int (if k then 1 else 0)) H):=qx0
theorem vwp(K:Frag)(hK:autoParam (X.K=K) Ŕ)(hc:autoParam (X.calm=true) Ŕ):CallR X (.builtin "all") (wvn K):=by subst hK;exact vjh hc
theorem vkd(K:Frag){o e:Expr}{es:List Expr}{T:String}{name:Str}{id:String}{r:V->List V->Hp->VK->Prop}{to:TE}{t:TA}{br az:Pos}
  (pa:PlainAttrs T) (slot:Slot T name id) (qr:typeOf (.builtin id)=pure (.type "method_descriptor")) (hm:MtR X id r) (ho:PE X o to) (ha:PA X (e::es) t)
  (cz:autoParam (attributeBase o name X.env (eval o X.env)=eval o X.env) Ŕ)
  (fk:autoParam (((backTo az (starEach (e::es) X.env)).all (λx=>!x.1)&&(backToKw az (keywordEach [] X.env)).all (λx=>x.1.isSome)
   && decide ((e::es).length+([]:List Keyword).length+(if([]:List Keyword).isEmpty then 0 else 1)<30))=true) Ŕ)
  (de:autoParam ((br.endLine==az.line)=true) Ŕ) (hs:autoParam (starEach (e::es) X.env=(false,eval e X.env)::starEach es X.env) Ŕ) (bu:autoParam ((backTo az (starEach es X.env)).any (·.1)=false) Ŕ) (hK:autoParam (X.K=K) Ŕ):
  PE X (.Call (.Attribute o name br) (e::es) [] az) (tBM K T r to t):=by subst hK;exact wjf pa slot qr hm ho ha cz fk de hs bu
theorem wq6:bootBuiltins "len"=some (.builtin "len"):=by decide +kernel
theorem jxc:bootBuiltins "isinstance"=some (.builtin "isinstance"):=by decide +kernel
theorem wq7:bootBuiltins "all"=some (.builtin "all"):=by decide +kernel
theorem qx4:bootBuiltins "int"=some (.type "int"):=by decide +kernel
theorem Kx:bootBuiltins "list"=some (.type "list"):=by decide +kernel
theorem vjp:bootBuiltins "tuple"=some (.type "tuple"):=by decide +kernel
theorem vws:bootBuiltins "dict"=some (.type "dict"):=by decide +kernel
end
def Cst(mg:Str->Option Value)(x:Str)(v:V):Prop:=∃u,mg x=some u/\RelV v u
section
variable {X:Cx}{x:Str}{p pos:Pos}{e:Expr}{es:List Expr}{t:TA}{ps:List Str}{sp:Sp}{k:Nat}{v:V}
theorem V4(c:Cst X.mg x v)(hg:autoParam (Gl X x) Ŕ)(hd:autoParam ((x==("__debug__":Str))=false) ŕ):PE X (.Name x pos) (tC v):=by
 obtain⟨u,m,r⟩:=c;exact qv5 hg m r hd
end
theorem qje:∀{ns:List Int} {m:Nat},PySem.W.WData.weightAll (ns.map PySem.W.WData.int)<=m->∀n∈ns,Builtin.Int.intBits n<=m
 | [],_,_,_,h=>nomatch h
 | a::r,m,h,n,hn=>by
  have h':(if a==0 then 0 else a.natAbs.log2+1)+1+PySem.W.WData.weightAll (r.map PySem.W.WData.int)<=m:=h;rcases aD hn with z|z
  ·subst z;have e:Builtin.Int.intBits n=(if n==0 then 0 else n.natAbs.log2+1):=rfl;rw[e];omega
  ·exact qje (m:=m) ⋯ n z
theorem kz0{ns:List Int}(h:PySem.W.WData.layableAll [PySem.W.WData.list (ns.map PySem.W.WData.int)]=true):∀n∈ns,Builtin.Int.intBits n<=1048576:=by
 have h1:(PySem.W.WData.list (ns.map PySem.W.WData.int)).layable=true:=(PySem.W.layW_cons h).1;unfold PySem.W.WData.layable at h1;simp only[Bool.and_eq_true,decide_eq_true_eq]at h1;have h2:PySem.W.WData.weightAll (ns.map PySem.W.WData.int)<=2 ^ 20:=h1.2;exact qje (by simpa using h2)
inductive D where
 |non|bl (b:Bool)|int (i:Int)|str (z:Str)|lst (xs:List D)|tup (xs:List D)
section
variable {X:Cx}{pins:List (Addr×Obj)}{O:L2.St}{H:Hp}{s:Shared}
theorem in1_units(A:Around):A.in1.units<=A.units+1:=by
 first|exact X9 _|(show A.units+1<=A.units+1;exact X9 _)|(unfold Around.in1;simp)
end
section
variable {X:Cx}
def qqj(K:Frag):List V->Hp->VK->Prop:=λxs H Q=>∃p ys,xs=[.ref p]/\(SqL K H p ys\/SqT K H p ys)/\∀l,H l=none->Q (.ref l) (upd H l (.lst ys))
theorem VQ(K:Frag)(hK:autoParam (X.K=K) Ŕ):CallR X (.type "list") (qqj K):=by subst hK;exact kwe
end
abbrev LET:Str:="abcdefghijklmnopqrstuvwxyz"
def Wd(z:Str):Prop:=1<=z.length/\z.length<=8/\∀ch∈z.cps.toList,ch∈LET.cps.toList
section
variable {X:Cx}{pins:List (Addr×Obj)}{O:L2.St}{H:Hp}{s:Shared}
theorem jwu{t':Nat}{h':Heap}(fp:List Addr)(I:Inv X pins O H s)(k:∀b o,b∉fp->s.heap.get? b=some o->h'.get? b=some o)(hf:∀b∈fp,v8 X pins H b):Inv X pins O H { s with heap:=h',toks:=t' }:=by
 have qf:∀b u,H b=some u->b∉fp:=λb u e z=>by rw[(hf b z).1]at e;cases e
 refine I.step (g':=s.gens) (d':=s.drawn) (ch:=fp) (λb hb=>?_) (λb o _ _ hc e _=>k b o hc e) (λb o _ _ hc e _=>⟨o.slots,k b o hc e⟩) (λ_ _ _ _ n=>n)
  (λb o hc e=>⟨o,k b o hc e⟩) (λ_ _ e=>e) (λ_ _ _ e=>e) (λb ps e=>⟨#[],by rw[e];simp⟩) (λm hm=>?_) (λb u e=>?_) I.bare
 ·obtain⟨_,f1,_,f3,f4,f5⟩:=hf b hb;exact⟨f3,f1,f4,f5⟩
 ·obtain⟨o,es,ep,ho,r⟩:=hm;exact⟨o,es,ep,k _ o (λz=>(hf _ z).2.1 rfl) ho,r⟩
 ·refine(I.hok b u e).stay (λc v hc q=>k c v ?_ q) (λ_ q=>q) λ_ _ q=>q
  rcases hc with z|z
  ·rw[z];exact qf b u e
  ·exact qf c _ z
end
section
variable {X:Cx}
def qql:List V->Hp->VK->Prop:=λxs H Q=>(∃i,xs=[.int i]/\Q (.int i) H)\/(∃k,xs=[.bl k]/\Q (.int (if k then 1 else 0)) H)\/∃(x:Str) (n:Int),xs=[.str x]/\PySem.intText? x=some n/\x.length<=640/\Q (.int n) H
theorem kjt:CallR X (.type "int") qql:=by
 intro pins s O H xs us Q I r h;rcases h with h|h|⟨x,n,rfl,hx,hl,q⟩
 ·exact qx2 pins s O H xs us Q I r (.inl h)
 ·exact qx2 pins s O H xs us Q I r (.inr h)
 ·obtain⟨u,rfl,t,rfl⟩:=z5 r;exact PySem.W.KIN.call_text hx hl ⟨.int n,H,I.tok _,⟨_,rfl⟩,q⟩
end
end L3
namespace L2
open PySem PySem.Spec PyProof.Rows
section
variable {P:Program}{w:World}{H H':Hp}{h h':Heap}{a:Addr}{o:HO}
theorem ObjOk.obj(x:ObjOk P w H h a o):∃u,h.get? a=some u:=by
 cases o with|lst xs=>obtain⟨_,_,_,_,e⟩:=x;exact⟨_,e⟩|tup xs=>obtain⟨_,_,_,p⟩:=x;obtain⟨u,e,_⟩:=p;exact⟨u,e⟩|dK kvs=>obtain⟨_,_,_,_,o,_,_,e,_⟩:=x;exact⟨_,e⟩|dT kvs=>obtain⟨_,_,_,_,o,_,_,e,_⟩:=x;exact⟨_,e⟩|set S n=>obtain⟨o,_,_,_,e,_⟩:=x;exact⟨_,e⟩|ins C dx fs=>obtain⟨_,_,_,e,_⟩:=x;exact⟨_,e⟩|own y=>obtain⟨_,e⟩:=x;exact⟨_,e⟩|xd fs=>obtain⟨_,⟨_,_,_,e,_⟩,_⟩:=x;exact⟨_,e⟩|rng lo hi=>obtain⟨_,_,_,e⟩:=x;exact⟨_,e⟩|frz ob u=>obtain⟨e,_⟩:=x;exact⟨_,e⟩|tbl ps=>exact⟨_,x⟩|met f y=>exact⟨_,x⟩|ext φ=>obtain⟨_,⟨_,e⟩,_⟩:=x;exact⟨_,e⟩
end
section
variable {X:Cx}{pins:List (Addr×Obj)}{O:List (Option V)}{H H':Hp}{s:Shared}{h':Heap}
theorem Inv.stepN{g':Array GenState}{t':Nat}{d':Drawn}{ch:List Addr}(I:Inv X pins O H s)
  (fq:∀b∈ch,(b∈X.ex\/X.s₀.heap.get? b=none)/\b≠X.env.locals/\(∀x c,X.env.cells.lookup x=some c->c≠b)/\∀p∈X.pn++pins,p.1≠b)
  (keep:∀b o,b≠X.env.locals->b∉X.fs->b∉ch->s.heap.get? b=some o->H b=none->h'.get? b=some o)
  (slot:∀b o,b≠X.env.locals->b∈X.fs->b∉ch->s.heap.get? b=some o->H b=none->∃sl,h'.get? b=some { o with slots:=sl }) (free:∀b o,b∉ch->s.heap.get? b=some o->H b=none->H' b=none)
  (there:∀b o,b∉ch->s.heap.get? b=some o->∃o',h'.get? b=some o')
  (tups:∀b xs,H b=some (.tup xs)->H' b=some (.tup xs)) (frzs:∀b o u,H b=some (.frz o u)->H' b=some (.frz o u)) (tbls:∀b ps,H b=some (.tbl ps)->∃more,H' b=some (.tbl (ps++more)))
  (ns:∀m,s.heap.Ns X.env.locals m->h'.Ns X.env.locals m) (hok:HOk X.prog X.w H' h') (hg:AllBare g'):
  Inv X pins O H' { s with heap:=h',gens:=g',drawn:=d',toks:=t' }:=by
 have p9:∀b o,X.s₀.heap.get? b=some o->b≠X.env.locals:=λb o e=>Xg (Xh (Xa e) I.ok.above)
 have lm:∀b o,X.s₀.heap.get? b=some o->b∉X.ex->b∉ch:=λb o e hx hb=>by
  rcases(fq b hb).1 with z|z
  ·exact hx z
  ·rw[z]at e;cases e
 have gj:∀x c,X.env.cells.lookup x=some c->∀v,s.heap.IsCell c v->h'.IsCell c v:=λx c e v ⟨o,ho,hd⟩=>by
  have kg:c∉ch:=λz=>(fq c z).2.2.1 x c e rfl
  by_cases hc:c∈X.fs
  ·obtain⟨sl,q⟩:=slot c o (I.cne x c e) hc kg ho (I.freeC x c e);exact⟨_,q,hd⟩
  ·exact⟨o,keep c o (I.cne x c e) hc kg ho (I.freeC x c e),hd⟩
 refine⟨I.ok,I.os,hg,⟨λb o e n hb hx=>?_,λb o e n hb hx=>?_,λb o e n hx=>?_,λb o e hx=>?_,λb xs e=>tups b xs (I.base.tups b xs e),λb o xs e=>frzs b o xs (I.base.frzs b o xs e),λb ps e=>?_⟩,?_,λx c e=>?_,?_,λx c e=>?_,λp hp=>?_,hok,I.len⟩
 ·exact keep b o (p9 b o e) hb (lm b o e hx) (I.base.keep b o e n hb hx) (I.base.free b o e n hx)
 ·obtain⟨sl,e1⟩:=I.base.slot b o e n hb hx;obtain⟨sl',e2⟩:=slot b _ (p9 b o e) hb (lm b o e hx) e1 (I.base.free b o e n hx);exact⟨sl',e2⟩
 ·obtain⟨o',e1⟩:=I.base.there b o e hx;exact free b o' (lm b o e hx) e1 (I.base.free b o e n hx)
 ·obtain⟨o',e1⟩:=I.base.there b o e hx;exact there b o' (lm b o e hx) e1
 ·obtain⟨m1,e1⟩:=I.base.tbls b ps e;obtain⟨m2,e2⟩:=tbls b _ e1;exact⟨m1++m2,by rw[e2,Array.append_assoc]⟩
 ·obtain⟨m,hn,hl⟩:=I.loc;refine⟨m,ns m hn,λi x v e1 e2 e3=>?_⟩;obtain⟨u,r,l⟩:=hl i x v e1 e2 e3;refine⟨u,r,?_⟩;rcases l with l|⟨k,c,e,z⟩
  ·exact .inl l
  ·exact .inr ⟨k,c,e,gj x c e _ z⟩
 ·obtain⟨v,z⟩:=I.cell x c e;exact⟨v,gj x c e v z⟩
 ·obtain⟨m,⟨o,_,_,ho,_⟩,_⟩:=I.loc;exact free _ o (λz=>(fq _ z).2.1 rfl) ho I.free
 ·obtain⟨v,o,ho,hd⟩:=I.cell x c e;exact free c o (λz=>(fq c z).2.2.1 x c e rfl) ho (I.freeC x c e)
 ·obtain⟨e,n,ne,nf,d⟩:=I.pin p hp;have kg:p.1∉ch:=λz=>(fq p.1 z).2.2.2 p hp rfl
  exact⟨keep p.1 p.2 ne nf kg e n,free p.1 p.2 kg e n,ne,nf,d⟩
theorem Inv.callN{g':Array GenState}{t':Nat}{d':Drawn}{ch:List Addr}(I:Inv X pins O H s)(u:Un (frs X.stack) ch H H' s.heap h')(hok:HOk X.prog X.w H' h')(hg:AllBare g')
  (fq:∀b∈ch,(b∈X.ex\/X.s₀.heap.get? b=none)/\b≠X.env.locals/\(∀x c,X.env.cells.lookup x=some c->c≠b)/\∀p∈X.pn++pins,p.1≠b):
  Inv X pins O H' { s with heap:=h',gens:=g',drawn:=d',toks:=t' }:=by
 obtain⟨m,⟨o,es,ep,ho,r⟩,_⟩:=id I.loc;obtain⟨sl,hL⟩:=u.any ho I.free λz=>(fq _ z).2.1 rfl
 exact I.stepN (ch:=ch) fq (λb o hL hb hc e n=>u.keep b o e n (λz=>(aD (I.stkSub b z)).elim hL hb) hc) (λb o _ _ hc e n=>u.any e n hc) (λb o hc e n=>u.free b o e n hc) (λb o hc e=>u.there b o e hc) u.tups u.frzs u.tbls (λm' hm=>by
  obtain⟨o',es',ep',ja,r'⟩:=hm;rw[ho]at ja;cases ja;exact⟨_,es',ep',hL,r'⟩) hok hg
end
end L2
namespace L3
open PySem PySem.Spec PyProof.Rows L2
theorem kjb{e:Value}{env env0:Env}(h:env.frame=env0.frame):noteFrame e env=noteFrame e env0:=by
 unfold noteFrame PySem.frameOf;rw[h]
structure Fl0 (h:Heap)(x:Addr)(C:Value)(vs:Array Value):Prop where
 ob:h.get? x=some { cls:=C,data:=.fields vs }
 sz:1<vs.size
structure FlT (h:Heap)(x T:Addr)(C:Value)(fl:Value):Prop where
 ex:∃vs,h.get? x=some { cls:=C,data:=.fields vs }/\vs[1]?=some (.ref T)
 tb:∃oT ts,h.get? T=some oT/\oT.data=.fields ts/\ts[3]?=some fl
 ne:T≠x
structure Chg (fs ch:List Addr)(h h':Heap):Prop where
 keep:∀b o,h.get? b=some o->b∉fs->b∉ch->h'.get? b=some o
 slot:∀b o,h.get? b=some o->b∉ch->∃sl,h'.get? b=some { cls:=o.cls,dict:=o.dict,data:=o.data,slots:=sl }
 size:h.objs.size<=h'.objs.size
theorem Chg.trans{fs ch ch':List Addr}{h h1 h2:Heap}(a:Chg fs ch h h1)(b:Chg fs ch' h1 h2)(hc:∀x∈ch',x∈ch\/h.get? x=none):Chg fs ch h h2 where
 keep:=λx o e h1 h2=>b.keep x o (a.keep x o e h1 h2) h1 λz=>(hc x z).elim h2 λq=>by rw[q]at e;cases e
 slot:=λx o e hn=>by
  obtain⟨sl,e1⟩:=a.slot x o e hn;obtain⟨lw,e2⟩:=b.slot x _ e1 λz=>(hc x z).elim hn λq=>by rw[q]at e;cases e
  exact⟨lw,e2⟩
 size:=Y8 a.size b.size
theorem Chg.mono{fs ch ch':List Addr}{h h1:Heap}(a:Chg fs ch h h1)(hc:∀x∈ch,x∈ch'):Chg fs ch' h h1:=⟨λb o e h1 h2=>a.keep b o e h1 λz=>h2 (hc b z),λb o e h2=>a.slot b o e λz=>h2 (hc b z),a.size⟩
theorem Chg.of_upd{fs : List Addr}{h : Heap}{a : Addr}{f : Obj -> Obj}: Chg fs [a] h (h.update a f):=
  ⟨λb o e _ hn=>by rw[Z2 _ _ _ _ (λz=>hn (aB z))]; exact e,
   λb o e hn=>⟨o.slots, by rw[Z2 _ _ _ _ (λz=>hn (aB z))]; exact e⟩, by rw[Heap.size_update]; exact X9 _⟩
theorem Chg.of_push{fs:List Addr}{h:Heap}{o:Obj}:Chg fs [] h (h.push o):=
 ⟨λb o e _ _=>X1 _ e,λb o e _=>⟨o.slots,X1 _ e⟩,by rw[Zf];omega⟩
theorem Chg.of_slots{fs:List Addr}{h h':Heap}(s:Heap.SlotsOnly fs h h'):Chg fs [] h h':=
 ⟨λb o e hn _=>(s.2.1 b hn).trans e,λb o e _=>s.2.2 b o e,by rw[s.1];exact X9 _⟩
theorem Chg.refl{fs ch:List Addr}{h:Heap}:Chg fs ch h h:=⟨λ_ _ e _ _=>e,λb o e _=>⟨o.slots,e⟩,X9 _⟩
section
variable {M:Model}{A:Around}{E:Value->Shared->Prop}{s:Shared}{base:Heap}{env:Env}{outer:List Env}{L x T:Addr}{C fl:Value}
theorem kw6{head:Value}{hadNext:Bool}{vs:Array Value}{Q:Unit->Shared->Prop}(hA:A.frames=some (env::outer))(hF:s.heap.FunFrames base (env::outer))(hL:env.frame=some L)(ho:Fl0 s.heap x C vs)
  (h:∀h' T',Chg (frs (env::outer)) [x] s.heap h'->s.heap.objs.size<=T'->FlT h' x T' C (rawInt ↑L)->Q () { s with heap:=h' }):
  wpAny M A (do
   let a <-PySem.frameOf env
   let pl <-entryPlaceOf L hadNext
   let b <-EntryCells.newEntry head a Value.none (rawInt ↑L) Value.none pl
   setField (Value.ref x) 1 b) Q E s:=by
 refine X0 (wpAny_frameOf_fun hA hF hL λh1 s1=>?_);have hx:x∉frs (env::outer):=λz=>by
  obtain⟨_,o,e,hn⟩:=hF.mem z;rw[ho.ob]at e;cases e;exact hn _ rfl
 have o1:h1.get? x=some { cls:=C,data:=.fields vs }:=(s1.2.1 x hx).trans ho.ob;have fin:∀pl:List Value,IsPlace pl->wpAny M A (do
   let b <-EntryCells.newEntry head (Value.ref L) Value.none (rawInt ↑L) Value.none pl
   setField (Value.ref x) 1 b) Q E { s with heap:=h1 }:=λpl bp=>by
  refine X0 ?_;unfold EntryCells.newEntry newFields;have har:([head,Value.ref L,Value.none,rawInt ↑L,Value.none]++if pl.isEmpty=true then List.replicate 6 Value.none else pl).toArray[3]?=some (rawInt ↑L):=by simp
  have hsz:([head,Value.ref L,Value.none,rawInt ↑L,Value.none]++if pl.isEmpty=true then List.replicate 6 Value.none else pl).toArray.size<=sizeLine+2:=by
   rcases bp with rfl|⟨_,_,_,_,_,_,_,rfl⟩<;>simp<;>decide
  generalize ([head,Value.ref L,Value.none,rawInt ↑L,Value.none]++if pl.isEmpty=true then List.replicate 6 Value.none else pl).toArray=ar at har hsz;refine Xv ?_ hsz;have o2:(h1.push { cls:=.type "traceback",data:=.fields ar }).get? x=some { cls:=C,data:=.fields vs }:=X1 _ o1;refine Yk (s:={ s with heap:=h1.push _ }) o2 rfl ho.sz ?_;have bt:h1.objs.size≠x:=λe=>absurd (Xa o1) (by rw[<-e];exact Yh _)
  have o3:((h1.push { cls:=.type "traceback",data:=.fields ar }).update x (Obj.mapFields λy=>y.setIfInBounds 1 (.ref h1.objs.size))).get? h1.objs.size=some { cls:=.type "traceback",data:=.fields ar }:=by
   rw[Z2 _ _ _ _ bt];exact X6 _ rfl
  refine h _ h1.objs.size (((Chg.of_slots s1).mono (λ_ z=>nomatch z)).trans ((Chg.of_push.mono λ_ z=>nomatch z).trans (ch:=[x]) Chg.of_upd λy hy=>.inl hy) λy hy=>.inl hy) (by rw[s1.1];exact X9 _) ⟨⟨vs.setIfInBounds 1 (.ref h1.objs.size),?_,Array.getElem?_setIfInBounds_self_of_lt ho.sz⟩,⟨_,_,o3,rfl,har⟩,bt⟩;exact Xx _ o2 rfl
 exact X0 (wpAny_entryPlaceOf λpl bp=>fin pl bp)
theorem wwa{vs:Array Value}{Q:Unit->Shared->Prop}(hA:A.frames=some (env::outer))(hF:s.heap.FunFrames base (env::outer))(hL:env.frame=some L)(ho:Fl0 s.heap x C vs)(hv:vs[1]?=some .none)
  (h:∀h' T',Chg (frs (env::outer)) [x] s.heap h'->s.heap.objs.size<=T'->FlT h' x T' C (rawInt ↑L)->Q () { s with heap:=h' }):wpAny M A (noteFrame (.ref x) env) Q E s:=by
 unfold noteFrame;rw[hL];refine X0 (Ys ho.ob rfl hv ?_);exact kw6 (hadNext:=false) hA hF hL ho h
theorem upd3{T:Addr}{oT:Obj}{ts:Array Value}{v:Value}{h:Heap}(e:h.get? T=some oT)(ed:oT.data=.fields ts)(h3:3<ts.size):
  ∃o' ts',(h.update T (Obj.mapFields λy=>y.setIfInBounds 3 v)).get? T=some o'/\o'.data=.fields ts'/\ts'[3]?=some v:=by
 obtain⟨c,d,dt,sl⟩:=oT;cases(show dt=.fields ts from ed);exact⟨_,ts.setIfInBounds 3 v,Xx _ e rfl,rfl,Array.getElem?_setIfInBounds_self_of_lt h3⟩
theorem ww9{Q:Unit->Shared->Prop}(hA:A.frames=some (env::outer))(hF:s.heap.FunFrames base (env::outer))(hL:env.frame=some L)(f:FlT s.heap x T C fl)
  (h:∀h' T',Chg (frs (env::outer)) [x,T] s.heap h'->(s.heap.objs.size<=T'\/T'=T)->FlT h' x T' C (rawInt ↑L)->Q () { s with heap:=h' }):wpAny M A (noteFrame (.ref x) env) Q E s:=by
 obtain⟨⟨vs,e1,v1⟩,⟨oT,ts,e2,d2,v2⟩,bt⟩:=f;have h3:3<ts.size:=by
  rw[Array.getElem?_eq_some_iff]at v2;exact v2.1
 have h1:1<vs.size:=by
  rw[Array.getElem?_eq_some_iff]at v1;exact v1.1
 unfold noteFrame;rw [hL];refine X0 (Ys e1 rfl v1 ?_);show wpAny M A (if((Value.ref T != Value.none)=true)then _ else _) Q E s;rw [X8 (show(Value.ref T != Value.none)=true from rfl)];refine X0 (Ys e2 d2 v2 ?_)
 by_cases hf:(fl==rawInt ↑L)=true
 ·rw[X8 hf];have e:fl=rawInt ↑L:=eq_of_beq hf;subst e;exact X2 (h s.heap T Chg.refl (.inr rfl) ⟨⟨vs,e1,v1⟩,⟨oT,ts,e2,d2,v2⟩,bt⟩)
 ·rw[Xb hf];refine X0 (Yk e2 d2 h3 ?_);have c1:Chg (frs (env::outer)) [x,T] s.heap (s.heap.update T (Obj.mapFields λy=>y.setIfInBounds 3 Value.none)):=Chg.of_upd.mono λy hy=>by
   rw[aC hy];simp
  have e1':(s.heap.update T (Obj.mapFields λy=>y.setIfInBounds 3 Value.none)).get? x=some { cls:=C,data:=.fields vs }:=by
   rw[Z2 _ _ _ _ bt.symm];exact e1
  have hF':(s.heap.update T (Obj.mapFields λy=>y.setIfInBounds 3 Value.none)).FunFrames base (env::outer):=by
   refine hF.of_keeps λb o e hn=>⟨o,?_,rfl⟩
   rw[Z2 _ _ _ _ λz=>?_]
   ·exact e
   ·rw[z,e2]at e;cases e;exact hn _ d2
  refine kw6 (s:={ s with heap:=s.heap.update T _ }) (hadNext:=true) hA hF' hL ⟨e1',h1⟩ λh' T' c2 hs f'=>?_
  refine h h' T' (c1.trans (c2.mono (ch':=[x,T]) λy hy=>by rw[aC hy];simp) λy hy=>.inl hy) (.inl ?_) f';rw[Heap.size_update]at hs;exact hs
theorem wks{Q:Unit->Shared->Prop}{fr:Option Addr}(f:FlT s.heap x T C fl)(h:∀h',Chg (frs outer) [x,T] s.heap h'->FlT h' x T C (fr.elim Value.none λf=>rawInt ↑f)->Q () { s with heap:=h' }):wpAny M A (setFlight (.ref x) fr) Q E s:=by
 obtain⟨⟨vs,e1,v1⟩,⟨oT,ts,e2,d2,v2⟩,bt⟩:=f;have h3:3<ts.size:=by
  rw[Array.getElem?_eq_some_iff]at v2;exact v2.1
 unfold setFlight;refine X0 (Ys e1 rfl v1 ?_);rw[X8 (show(Value.ref T != Value.none)=true from rfl)];refine Yk e2 d2 h3 (h _ (Chg.of_upd.mono λy hy=>by rw[aC hy];simp) ⟨⟨vs,?_,v1⟩,upd3 e2 d2 h3,bt⟩);rw[Z2 _ _ _ _ bt.symm];exact e1
end
theorem vjm:plainId "BaseException.__getattribute__"=true:=by decide +kernel
theorem vwr:builtinKind "BaseException.__getattribute__"=some .slot:=by decide +kernel
theorem vjl:splitId "BaseException.__getattribute__"=some ("BaseException","__getattribute__"):=by decide +kernel
structure XCls (K:Frag)(C:Addr):Prop where
 ga:findIn K (.ref C) "__getattribute__"=some (some (.builtin "BaseException.__getattribute__"))
 gt:findIn K (.ref C) "__getattr__"=some none
 fo:PySem.W.findObj K C none "__class__"=some (.bind (.builtin "getset_descriptor.__get__") (.builtin "object.__class__"))
 ob:PySem.W.mroIn K C (.type "object")=some true
 bx:PySem.W.mroIn K C (.type "BaseException")=some true
 cl:(PySem.W.clsIn K C).isSome=true
section
variable {P:Program}{w:World}{A:Around}{E:Value->Shared->Prop}{s:Shared}{K:Frag}{x C:Addr}{ox:Obj}
theorem Lk{α:Type}{M:Model}{A:Around}{E:Value->Shared->Prop}{s:Shared}{t:Sem α}{r:α}{Q:α->Shared->Prop}(l:PySem.W.Looks M s.heap t r)(q:Q r s):wpAny M A t Q E s:=l A Q E s (λ_ _ e=>e) q
theorem vjo{nm:Value}{Q:Unit->Shared->Prop}(KI:K.In s.heap)(X:XCls K C)(b8:PySem.W.InstAt s.heap x ox C none)(q:Q () s):
  wpAny (model P w) A (checkBuiltinCall "BaseException.__getattribute__" { pos:=[.ref x,nm] }) Q E s:=by
 rw[checkBuiltinCall.eq_1,vwr,vjl];refine X0 ?_;unfold isInstance;refine X0 (Lk b8.type (Lk (PySem.W.looks_mroIn KI X.bx) ?_));rw[Xb ⋯];have h:=F.args_bexc_ga (.ref x) nm;unfold argsOk at h;show wpAny _ A (match Manifest.signature? "BaseException.__getattribute__" with|some sig=>Bind.checkArgs "BaseException.__getattribute__" sig { pos:=[.ref x,nm] }|x=>pure ()) Q E s;cases hs:Manifest.signature? "BaseException.__getattribute__" with
 |none=>exact X2 q
 |some sig=>
  rw[hs]at h;have h:Bind.checkArgs "BaseException.__getattribute__" sig { pos:=[.ref x,nm] }=pure ():=h;show wpAny _ A (Bind.checkArgs "BaseException.__getattribute__" sig { pos:=[.ref x,nm] }) Q E s;rw[h];exact X2 q
theorem www:(Value.builtin "BaseException.__getattribute__" == Value.builtin "object.__getattribute__")=false:=⋯
theorem vjn{Q:Option Value->Shared->Prop}(KI:K.In s.heap)(X:XCls K C)(b8:PySem.W.InstAt s.heap x ox C none)(q:Q (some (.ref C)) { s with toks:=s.toks+1 }):
  wpAny (model P w) A (getAttr? (.ref x) "__class__") Q E s:=by
 unfold getAttr?;refine X0 (wpAny_mkText ?_);unfold getAttrBy?;refine X0 (wpAny_attempt ?_);unfold getAttrBy;refine Xz (X0 (Lk (s:={ s with toks:=s.toks+1 }) b8.type (X0 (Lk (s:={ s with toks:=s.toks+1 }) (PySem.W.looks_findIn KI X.ga) ?_))));dsimp only;rw[Xb (by rw[www,Bool.and_false];decide)];unfold getAttrByItsOwn;refine X0 (Lk (s:={ s with toks:=s.toks+1 }) (PySem.W.looks_hook (K:=K) KI (r:=none) X.gt) ?_);refine X0 (wpAny_attempt (Xz ?_));unfold callGetattribute;rw[Xb ⋯];unfold boundAndCalled;rw[F.excAttr_ValueError.ga.bind];refine X0 (X2 ?_);refine wpAny_call (codeAny_call_builtin vjm F.entry_bexc_ga (vjo (s:={ s with toks:=s.toks+1 }) KI X b8 ?_));unfold Builtin.«object.__getattribute__»;have jp:slotArgs "__getattribute__" 1 { pos:=[.ref x]++[.str "__class__" s.toks] }=pure (.ref x,[.str "__class__" s.toks]):=rfl;rw[jp];refine X0 (X2 ?_);show wpAny _ A.in1 (Builtin.ObjectAttr.attrName (.str "__class__" s.toks) >>= _) _ _ _;refine X0 (X2 ?_);refine X0 (Lk (s:={ s with toks:=s.toks+1 }) b8.type ?_);refine X0 (Lk (s:={ s with toks:=s.toks+1 }) (PySem.W.looks_find KI b8 X.fo) ?_);show wpAny _ A.in1 (Builtin.ObjectAttr.bindTo (.builtin "getset_descriptor.__get__") (.builtin "object.__class__") (.ref x) (.ref C)) _ _ _;unfold Builtin.ObjectAttr.bindTo;refine X0 (Xz (wpAny_call (PySem.W.class_get (s:={ s with toks:=s.toks+1 }) KI b8 X.ob ?_)));refine X2 ?_;exact X2 (X2 q)
theorem qwv{h:Heap}(KI:K.In h)(X:XCls K C):∃o cd,h.get? C=some o/\o.data=.cls cd:=by
 have c:=X.cl;unfold PySem.W.clsIn at c
 split at c
 ·rename_i e;exact⟨_,_,KI _ _ e,rfl⟩
 ·cases c
theorem kqh(X:XCls K C):PySem.W.KitX K (.ref x) (.ref C) (λh=>∃ox,PySem.W.InstAt h x ox C none) where
 ty:=λM h KI ⟨ox,a⟩=>a.type
 it:=λM h KI _=>by
  obtain⟨o,cd,e,d⟩:=qwv KI X;intro A Q E s hk q;unfold isType;refine X0 (PySem.W.Looks.ld e A _ _ s hk ?_);rw[d];exact X2 q
 ne:=λh tp dd ah n sl KI e=>by
  obtain⟨o,cd,e',d⟩:=qwv KI X
  by_cases z:C=tp
  ·subst z;rw[e']at e;cases e;cases d
  ·simpa using z
 ca:=λKI ⟨ox,a⟩ q=>vjn KI X a q
end
def FpX(X:Cx)(pins:List (Addr×Obj))(H:Hp)(b:Addr):Prop:=
 H b=none/\b≠X.env.locals/\b∉X.fs/\(b∈X.ex\/X.s₀.heap.get? b=none)/\(∀x c,X.env.cells.lookup x=some c->c≠b)/\∀p∈X.pn++pins,p.1≠b
section
variable {X:Cx}{pins:List (Addr×Obj)}{O:L2.St}{H:Hp}{s:Shared}
theorem vj1{P:Program}{w:World}{H:Hp}{h:Heap}{b:Addr}(k:HOk P w H h)(e:h.get? b=none):H b=none:=by
 cases q:H b with
 |none=>rfl
 |some u=>
  obtain⟨o,z⟩:=(k b u q).obj;rw[e]at z;cases z
theorem fpX{H':Hp}{b:Addr}(I:Inv X pins O H s)(hb:s.heap.get? b=none)(hn:H' b=none):FpX X pins H' b:=by
 refine⟨hn,λz=>?_,λz=>?_,?_,λx c e z=>?_,λp hp z=>?_⟩
 ·obtain⟨m,⟨o,_,_,ho,_⟩,_⟩:=I.loc;rw[<-z,hb]at ho;cases ho
 ·obtain⟨_,o,e,_⟩:=I.ok.funs.mem z
  by_cases hx:b∈X.ex
  ·exact I.ok.exfs b hx z
  ·obtain⟨o',e'⟩:=I.base.there b o e hx;rw[hb]at e';cases e'
 ·by_cases hx:b∈X.ex
  ·exact .inl hx
  ·cases e:X.s₀.heap.get? b with
   |none=>exact .inr rfl
   |some o=>
    obtain⟨o',e'⟩:=I.base.there b o e hx;rw[hb]at e';cases e'
 ·obtain⟨v,o,ho,_⟩:=I.cell x c e;rw[z,hb]at ho;cases ho
 ·have:=(I.pin p hp).1;rw[z,hb]at this;cases this
theorem FpX.of{b:Addr}(h:v8 X pins H b):FpX X pins H b:=⟨h.1,h.2.1,h.2.2.1,h.2.2.2.1.imp id λz=>Heap.get?_none_of_le z,h.2.2.2.2⟩
theorem kxn{h':Heap}{ch:List Addr}(I:Inv X pins O H s)(c:Chg (frs X.stack) ch s.heap h')(hf:∀b∈ch,FpX X pins H b):Inv X pins O H { s with heap:=h' }:=by
 refine I.callN (g':=s.gens) (t':=s.toks) (d':=s.drawn) (ch:=ch) ⟨λb o e _ h1 h2=>c.keep b o e h1 h2,λb o e _ _ h2=>c.slot b o e h2,λ_ _ _ n _=>n,λb o e h2=>?_,λ_ _ e=>e,λ_ _ _ e=>e,λ_ _ e=>⟨#[],by rw[e];simp⟩⟩ (λb u e=>?_) I.bare λb hb=>?_
 ·obtain⟨sl,q⟩:=c.slot b o e h2;exact⟨_,q⟩
 ·have no:∀d v,H d=some v->d∉frs X.stack/\d∉ch:=λd v e=>⟨λz=>(by rw[I.stkFree d z]at e;cases e),λz=>(by rw[(hf d z).1]at e;cases e)⟩
  refine(I.hok b u e).stay (λd v hc q=>?_) (λ_ q=>q) λ_ _ q=>q
  rcases hc with z|z
  ·rw[z]at q ⊢;exact c.keep b v q (no b u e).1 (no b u e).2
  ·exact c.keep d v q (no d _ z).1 (no d _ z).2
 ·obtain⟨_,f1,_,f3,f4,f5⟩:=hf b hb;exact⟨f3,f1,f4,f5⟩
end
structure Fx (X:Cx)(pins:List (Addr×Obj))(H:Hp)(h:Heap)(x:Addr)(C:Value):Prop where
 fp:FpX X pins H x
 st:(∃vs,Fl0 h x C vs/\vs[1]?=some .none)\/∃T fl,FlT h x T C fl/\FpX X pins H T
structure Xt (X:Cx)(pins:List (Addr×Obj))(O:L2.St)(H:Hp)(x T:Addr)(C fl:Value)(s:Shared):Prop where
 inv:Inv X pins O H s
 fx:FpX X pins H x
 fT:FpX X pins H T
 f:FlT s.heap x T C fl
theorem Xt.to{X:Cx}{pins:List (Addr×Obj)}{O:L2.St}{H:Hp}{x T:Addr}{C fl:Value}{s:Shared}(h:Xt X pins O H x T C fl s):Fx X pins H s.heap x C:=⟨h.fx,.inr ⟨T,fl,h.f,h.fT⟩⟩
def Xo(X:Cx)(E:XK)(e:Value)(s:Shared):Prop:=∃pins O H x C,e=.ref x/\Inv X pins O H s/\Fx X pins H s.heap x C/\E C none H
def wV(X:Cx)(E:XK):Prop:=∀pins O H s x C,Inv X pins O H s->Fx X pins H s.heap x C->E C none H->X.xe (.ref x) s
abbrev Cx.ex'(X:Cx)(E:XK):Cx:=X.wish (Xo X E)
theorem J8{X:Cx}{E:XK}:wV (Cx.ex' X E) E:=λpins O H s x C I f q=>⟨pins,O,H,x,C,rfl,I.unwish,⟨f.fp,f.st⟩,q⟩
def xK(X:Cx):Prop:=∃env0 out,X.stack=env0::out/\X.env.frame=env0.frame
section
variable {X:Cx}{pins:List (Addr×Obj)}{O:L2.St}{H:Hp}{s:Shared}{M:Model}{E':Value->Shared->Prop}{x T:Addr}{C fl:Value}
theorem kzr{A:Around}{Q:Unit->Shared->Prop}(top:xK X)(hA:A.frames=X.A.frames)(I:Inv X pins O H s)(f:Fx X pins H s.heap x C)(h:∀L T s',X.env.frame=some L->Xt X pins O H x T C (rawInt ↑L) s'->Q () s'):
  wpAny M A (noteFrame (.ref x) X.env) Q E' s:=by
 obtain⟨env0,out,e1,e2⟩:=top;have hF:=I.stack;have mj:A.frames=some (env0::out):=by rw[hA,I.ok.frames,e1]
 rw[e1]at hF;obtain⟨_,⟨L,o,hL,_⟩,_⟩:=id hF;rw[kjb e2];have r9:X.env.frame=some L:=e2.trans hL;rcases f.st with⟨vs,f0,hv⟩|⟨T,fl,fT,pT⟩
 ·refine wwa mj hF hL f0 hv λh' T' c hs md=>h L T' _ r9 ⟨?_,f.fp,fpX I (Heap.get?_none_of_le hs) (I.hok.fresh hs),md⟩
  rw[<-e1]at c;exact kxn I c λb hb=>by rw[aC hb];exact f.fp
 ·refine ww9 mj hF hL fT λh' T' c hs md=>?_
  rw[<-e1]at c;refine h L T' _ r9 ⟨kxn I c λb hb=>?_,f.fp,?_,md⟩
  ·simp only[Y6,Xq,or_false]at hb;rcases hb with rfl|rfl
   ·exact f.fp
   ·exact pT
  ·rcases hs with hs|hs
   ·exact fpX I (Heap.get?_none_of_le hs) (I.hok.fresh hs)
   ·rw[hs];exact pT
theorem ZQ{A:Around}{Q:Unit->Shared->Prop}{fr:Option Addr}(t:Xt X pins O H x T C fl s)(h:∀s',Xt X pins O H x T C (fr.elim Value.none λf=>rawInt ↑f) s'->Q () s'):wpAny M A (setFlight (.ref x) fr) Q E' s:=by
 refine wks (outer:=X.stack) t.f λh' c md=>h _ ⟨kxn t.inv c λb hb=>?_,t.fx,t.fT,md⟩
 simp only[Y6,Xq,or_false]at hb;rcases hb with rfl|rfl
 ·exact t.fx
 ·exact t.fT
theorem wjh{α:Type}{A:Around}{what:String}{kh:Env}{Q:α->Shared->Prop}(t:Xt X pins O H x T C fl s)(h:∀s' md,Xt X pins O H x T C md s'->E' (.ref x) s'):wpAny M A (PySem.passOn what (.ref x) kh:Sem α) Q E' s:=by
 unfold PySem.passOn;obtain⟨vs,e1,v1⟩:=t.f.ex;refine X0 (Ys e1 rfl v1 ?_);rw[Xb (show ¬(Value.ref T==Value.none)=true by intro z;cases z)];refine X0 (ZQ t λs' t'=>?_);exact wpAny_throw (h s' _ t')
theorem qv9{E:XK}(top:xK X):PassesOwn M X.A X.env (Xo X E):=by
 rintro e s' ⟨pins,O,H,x,C,rfl,I,f,q⟩;unfold notedBy;refine kzr top rfl I f λL T s1 _ t=>?_
 unfold cameBackBy;obtain⟨vs,e1,v1⟩:=t.f.ex;refine X0 (Ys e1 rfl v1 ?_);rw[Xb (show ¬(Value.ref T==Value.none)=true by intro z;cases z)];exact ZQ t λs2 t2=>⟨pins,O,H,x,C,rfl,t2.inv,t2.to,q⟩
end
def CXE(P:Program)(w:World):CXT:=λouter H s E e s'=>∃x T C fl H',e=.ref x/\s'.os=s.os/\AllBare s'.gens/\Un (frs outer) [] H H' s.heap s'.heap/\HOk P w H' s'.heap /\
 s.heap.get? x=none/\s.heap.get? T=none/\H' x=none/\H' T=none/\FlT s'.heap x T C fl/\E C none H'
theorem ww3{X:Cx}{E:XK}(g:wV X E):qxj (CXE X.prog X.w) X E:=by
 rintro pins O H s e s' I ⟨x,T,C,fl,H',rfl,os,bare,un,hok,hx,hT,nx,nT,f,q⟩;refine g pins O H' s' x C (I.call' os un hok bare λb hb=>nomatch hb) ⟨fpX I hx nx,.inr ⟨T,fl,f,fpX I hT nT⟩⟩ q
theorem vq8{CX:CXT}{P:Program}{w:World}{K:Frag}{mg:Str->Option Value}{base:Heap}{N:List Str}{qual:Str}{scope:Scope}{f:Addr}{cd:Value}{A:Around}{outer:List Env}{s:Shared}{H:Hp}{E:XK}:
  xK (zJ CX P w K mg base N qual scope f cd A outer s H E):=⟨_,_,rfl,rfl⟩
theorem kvm{P:Program}{w:World}{K:Frag}{mg:Str->Option Value}{base:Heap}{N:List Str}{qual:Str}{scope:Scope}{f:Addr}{cd:Value}{A:Around}{outer:List Env}{s:Shared}{H:Hp}{E:XK}{e:Value}{s':Shared}
  (h:Xo (zJ (CXE P w) P w K mg base N qual scope f cd A outer s H E) E e s'):(zJ (CXE P w) P w K mg base N qual scope f cd A outer s H E).xe e s':=by
 obtain⟨pins,O,H',x,C,rfl,I,fx,q⟩:=h;show wpAny (model P w) _ (leaving _ (.ref x)) _ _ s';unfold leaving;refine X0 (kzr (X:=zJ (CXE P w) P w K mg base N qual scope f cd A outer s H E) vq8 rfl I fx λL T s1 _ t=>?_);refine ZQ t λs2 t2=>?_
 have ge:∀b,FpX (zJ (CXE P w) P w K mg base N qual scope f cd A outer s H E) pins H' b->s.heap.get? b=none:=λb hb=>hb.2.2.2.1.elim (λz=>nomatch z) λz=>z
 exact⟨x,T,C,_,H',rfl,t2.inv.os,t2.inv.bare,t2.inv.base,t2.inv.hok,ge x t2.fx,ge T t2.fT,t2.fx.1,t2.fT.1,t2.f,q⟩
section
variable {P:Program}{w:World}{K:Frag}{mg:Str->Option Value}{base:Heap}
theorem qY{x qual:Str}{st:Stmt}{f:Addr}{fd:FuncData}{N ps:List Str}{k:Nat}{sp:Sp}(F:Fun K x qual st f fd)(S:FnScope N ps (k9 st))(len:∀vs H Q E,sp vs H Q E->vs.length=ps.length)
  (gq:∀(bi:Value) (A:Around) (outer:List Env) (s:Shared) (H:Hp) (vs:List V) (Q:VK) (E:XK),Room k (A.deeper (envOfC qual (k9 st) s.heap.objs.size f bi))->sp vs H Q E ->
   ∃t,PSs (Cx.ex' (zJ (CXE P w) P w K mg base N qual (k9 st) f bi A outer s H E) E) (zj st) t/\t { nx:=λ_ H'=>Q .non H',rt:=Q } (L2.start N vs) H):FnOk P w K mg base (CXE P w) (k+1) f fd ps sp:=by
 obtain⟨oc,od,kV,fy,pm,an,bi,ct,jr,rfl,lk,gr⟩:=F.ex;refine wkr lk gr S len λA outer s H vs Q E hr je=>?_
 obtain⟨t,h,q⟩:=gq bi A outer s H vs Q E hr je;exact⟨t,λpins s' O H' D I hw=>Yx (h pins s' O H' D (I.wish _) hw) (λf jg z=>z.unwish) λe jg z=>kvm z,q⟩
def kY(P:Program)(w:World)(K:Frag)(mg:Str->Option Value)(base:Heap)(k:Nat)(x:Str)(ps:List Str)(sp:Sp):Prop:=
 ∃(f:Addr) (fd:FuncData),FnOk P w K mg base (CXE P w) k f fd ps sp/\Binds K fd ps []/\PySem.W.keepIn K (.ref f)=true/\mg x=some (.ref f)
end
section
variable {X:Cx}{x:Str}{p pos:Pos}{e:Expr}{es:List Expr}{t:TA}{ps:List Str}{sp:Sp}{k:Nat}{v:V}{E:XK}
theorem vkc(D:kY X.prog X.w X.K X.mg X.base k x ps sp)(hr:Room k X.A)(g:wV X E)(ha:PA X (e::es) t)(hg:autoParam (Gl X x) Ŕ)(db:autoParam ((x==("__debug__":Str))=false) ŕ)
  (he:autoParam (starEach (e::es) X.env=(false,eval e X.env)::starEach es X.env) Ŕ) (bp:autoParam ((backTo pos (starEach es X.env)).any (·.1)=false) Ŕ):
  PE X (.Call (.Name x p) (e::es) [] pos) (qxr sp [] E t):=by
 obtain⟨f,fd,F,b,kp,m⟩:=D;exact vva F hr hg m kp b .nil (ww3 g) ha db he bp
end
abbrev lcE(X:Cx)(scope:Scope)(N:List Str)(cl:List (Str×Addr))(C:Addr)(s0:Shared)(H0:Hp)(fp:List Addr)(EX:XK):Cx:=Cx.ex' (lcX X scope N cl C s0 H0 fp) EX
section
variable {prog:Program}{w:World}{A:Around}{R:Result->Shared->Prop}{s:Shared}
theorem vvu{fb f7 b6:Expr}{eh:List Expr}{scope:Scope}{pos:Pos}{it ao:Value}{env:Env}(Ex:Value->Shared->Prop)(I:Nat->Shared->Prop)
  (fv:∀n s,I n s->wpAny (model prog w) A (pyNext it) (λr s1=>match r with
   | none=>R (.ok .next) s1
   | some v=>wpAny (model prog w) A (letOwnedTupleGo f7 it v) (λ_ s2=>wpAny (model prog w) A (assign f7 env v) (λ_ s3=>
     wpAny (model prog w) A (qvw eh env) (λok s4=>
      if ok=true then
       wpAny (model prog w) A (eval fb env) (λx s5=>wpAny (model prog w) A (call (.builtin "list.append") [ao,x]) (λ_ s6=>∃m,m<n/\I m s6) Ex s5) Ex s4
      else ∃m,m<n/\I m s4) Ex s3) Ex s2) Ex s1) Ex s)
  (hx:∀e s,Ex e s->notedBy (model prog w) A env (λe s'=>R (.error e) s') e s) (n:Nat) (h:I n s):codeAny (model prog w) A (.compLoop (.ListComp fb [⟨f7,b6,eh,0⟩] scope pos) 0 it ao env) R s:=by
 refine codeAny_loop rfl I (λn s hI=>?_) n h;show wpAny _ A ((compTurn (.ListComp fb [⟨f7,b6,eh,0⟩] scope pos) 0 it ao env).onRaise _) _ _ s;refine wpAny_noted ?_;rw[compTurn_list];refine Yx (E:=Ex) (X0 (wpAny_standAt (X0 (thn (fv n s hI) λr s1 h1=>?_)))) (λ_ _ q=>q) (λe s q=>?_)
 rotate_left
 ·exact hx e s q
 cases r with
 |none=>exact X2 h1
 |some v=>
  refine X0 (thn h1 λ_ s2 h2=>?_);refine X0 (thn h2 λ_ s3 h3=>?_);refine X0 (thn h3 λok s4 h4=>?_);cases ok with|false=>exact X2 ⟨rfl,h4⟩|true=>exact X0 (X0 (thn h4 λx s5 h5=>X0 (thn h5 λ_ s6 h6=>X2 (X2 ⟨rfl,h6⟩))))
end
section
variable {X:Cx}{tg b6 fb:Expr}{eh:List Expr}{scope:Scope}{N:List Str}{k:Nat}{R:List Nat}{g:TG}{tt:TT}{te:TE}{pos:Pos}
theorem vkg{EX:XK}{pins d9:List (Addr×Obj)}{O σ':L2.St}{H2 H':Hp}{s2 s':Shared}{fp:List Addr}{cl:List (Str×Addr)}{C x T:Addr}{Cc fl:Value}{Q:Value->Shared->Prop}{ao:Value}{use:Option (Value->Sem Unit)}(gx:wV X EX)
  (I2:Inv X pins O H2 s2) (f2:∀b∈fp,v8 X pins H2 b) (hC:s2.heap.objs.size<=C) (t:Xt (lcX X scope N cl C s2 H2 fp) d9 σ' H' x T Cc fl s') (q:EX Cc none H'):
  compPost (model X.prog X.w) X.A X.xe use Q ao C (.error (.ref x)) s':=by
 obtain⟨m,hn,_⟩:=t.inv.loc;refine⟨m,hn,λh' sb kh _=>?_⟩;have J1:Inv X pins O H' s':=I2.call' t.inv.os t.inv.base t.inv.hok t.inv.bare λb hb=>⟨(f2 b hb).2.2.2.1,(f2 b hb).2.1,(f2 b hb).2.2.2.2.1,(f2 b hb).2.2.2.2.2⟩
 have fC:v8 X pins H' C:=I2.fpOk hC t.inv.free;have J2:Inv X pins O H' { s' with heap:=h',toks:=s'.toks }:=J1.turned (it:=C) (λb o hb e=>(sb.2 b hb).trans e) fC.1 fC.2.1 fC.2.2.2.1 fC.2.2.2.2.1 fC.2.2.2.2.2;have fp':∀b,FpX (lcX X scope N cl C s2 H2 fp) d9 H' b->FpX X pins H' b:=λb hb=>by
  rcases hb.2.2.2.1 with z|z
  ·exact⟨hb.1,(FpX.of (f2 b z)).2⟩
  ·exact fpX I2 z hb.1
 have nx:x≠C:=t.fx.2.1;have nT:T≠C:=t.fT.2.1;have f:FlT h' x T Cc fl:=by
  obtain⟨⟨vs,e1,v1⟩,⟨oT,ts,e2,d2,v2⟩,bt⟩:=t.f;exact⟨⟨vs,(sb.2 x nx).trans e1,v1⟩,⟨oT,ts,(sb.2 T nT).trans e2,d2,v2⟩,bt⟩
 refine wjh (X:=X) (pins:=pins) (O:=O) (H:=H') (s:={ s' with heap:=h' }) ⟨J2,fp' x t.fx,fp' T t.fT,f⟩ λs3 md t3=>gx pins O H' s3 x Cc t3.inv t3.to q
theorem kvp{EX:XK}{pins:List (Addr×Obj)}{O:L2.St}{H2:Hp}{s2:Shared}{it:Addr}{fp:List Addr}{tn:Nat->Heap->Prop}{J:It}{Q:VK}{W:Nat->Nat->List V->L2.St->Hp->Prop}{cl:List (Str×Addr)}{E:Value->Shared->Prop}
  {RR:Value->Addr->Result->Shared->Prop} (hc:X.calm=true) (top:xK X) (sc:LcOk X scope N k R)
  (en:∀x c,cl.lookup x=some c->X.env.cells.lookup x=some c) (bv:∀y∈scope.names,y.2=.free->∃c,cl.lookup y.1=some c)
  (hg:∀C s0 H0 fp,PG (lcE X scope N cl C s0 H0 fp EX) tg g) (ht:∀C s0 H0 fp,PTs (lcE X scope N cl C s0 H0 fp EX) eh tt) (he:∀C s0 H0 fp,PE (lcE X scope N cl C s0 H0 fp EX) fb te)
  (I2:Inv X pins O H2 s2) (T:Turn X.prog X.w X.K tg J fp it tn) (c8:tn 0 s2.heap) (f2:∀b∈fp,v8 X pins H2 b) (w0:∃m,W 0 m [] (Jx k R O) H2) (fv:LcW g tt te Q J W)
  (hRR:∀D C oC m ys H' s',Inv X (pins++[(C,oC)]) O (upd H' D (.lst ys)) s'->s'.heap.get? C=some oC->s'.heap.Ns C m->v8 X pins (upd H' D (.lst ys)) C->Q (.ref D) (upd H' D (.lst ys))->RR (.ref D) C (.ok .next) s')
  (hER:∀D C s' d9 σ' H' x T Cc fl,s2.heap.objs.size<=C->Xt (lcX X scope N cl C s2 H2 fp) d9 σ' H' x T Cc fl s'->EX Cc none H'->RR (.ref D) C (.error (.ref x)) s'):
  wpAny (model X.prog X.w) X.A (newList []) (λao s3=>wpAny (model X.prog X.w) X.A (newFunctionEnv scope X.env.globals cl [] X.env.qual none .none (some X.env)) (λkh s4=>
   codeAny (model X.prog X.w) X.A (.compStart (.ListComp fb [⟨tg,b6,eh,0⟩] scope pos) 0 (.ref it) ao { kh with scope:=relabel scope X.env }) (RR ao kh.locals) s4) E s3) E s2:=by
 have qh:∀b∈fp,∃o,s2.heap.get? b=some o:=λb hb=>let ⟨o,e,_⟩:=T.obj 0 _ c8 b hb;⟨o,e⟩
 refine Xv (wpAny_newFunctionEnv sc.nocell (by intro y hy;simp at hy) (λh1 ny pc=>?_) sc.kind);dsimp only at ny pc ⊢;generalize eH:s2.heap.push { cls:=.type "list",dict:=none,data:=.seq ([]:List Value).toArray }=Hx at ny pc ⊢;have eC:Hx.objs.size=s2.heap.objs.size+1:=by rw[<-eH,Zf]
 generalize eD:s2.heap.objs.size=D at eC;generalize eC':Hx.objs.size=C at ny pc eC ⊢;have oe:D≠C:=⋯
 have hC:s2.heap.objs.size<=C:=⋯
 have hD:s2.heap.objs.size<=D:=⋯
 have f8:∀b o,s2.heap.get? b=some o->h1.get? b=some o:=λb o e=>by
  exact pc.extBut b o (Xg (Xh (Xa e) hC)) (X1 _ (eH▸X1 _ e))
 have accD:h1.get? D=some (YQ [] 0):=by
  refine pc.extBut _ _ oe (X1 _ ?_);rw [<-eH,<-eD];exact X6 _ rfl
 have below:∀b∈fp,b≠D/\b≠C:=λb hb=>by
  obtain⟨o,e⟩:=qh b hb;exact⟨Xg (Xh (Xa e) hD),Xg (Xh (Xa e) hC)⟩
 have ic:∀{H':Hp} {oD:Obj},(∀b∈fp,H' b=none)->∀b∈fp,v8 (lcE X scope N cl C s2 H2 fp EX) [(D,oD)] H' b:=fun {H' oD} hn b hb=>by
  obtain⟨_,f1,f3,f4,f5,f6⟩:=f2 b hb;refine⟨hn b hb,(below b hb).2,λz=>?_,.inl hb,λx c h=>f5 x c (en x c h),λp hp=>?_⟩
  ·rcases aD (I2.stkSub b z)with y|y
   ·exact f1 y
   ·exact f3 y
  ·have e:p=(D,oD):=by
    have hp:p∈([]++[(D,oD)]:List (Addr×Obj)):=hp
    simpa using hp
   rw [e];exact(below b hb).1.symm
 have loop:∀s3:Shared,s3={ s2 with heap:=h1,toks:=s2.toks+([]:List (Str×Value)).length } ->
   codeAny (model X.prog X.w) X.A (.compLoop (.ListComp fb [⟨tg,b6,eh,0⟩] scope pos) 0 (.ref it) (.ref D) (compEnvC scope cl C X.env)) (RR (.ref D) C) s3:=by
  rintro s3 rfl;obtain⟨m0,w0⟩:=w0;have hxx:∀e s,Xo (lcX X scope N cl C s2 H2 fp) EX e s->notedBy (model X.prog X.w) X.A (compEnvC scope cl C X.env) (λe s'=>RR (.ref D) C (.error e) s') e s:=by
   rintro e s ⟨d9,σ',H',x,Cc,rfl,I',f',q'⟩;have top':xK (lcX X scope N cl C s2 H2 fp):=top;exact kzr (X:=lcX X scope N cl C s2 H2 fp) top' rfl I' f' λL T s1 _ t=>hER D C s1 d9 σ' H' x T Cc _ hC t q'
  refine vvu (Xo (lcX X scope N cl C s2 H2 fp) EX) (λn s'=>∃i ys ah nn σ' H',Inv (lcE X scope N cl C s2 H2 fp EX) [(D,YQ ah nn)] σ' H' s'/\Vals ys ah/\tn i s'.heap/\(∀b∈fp,H' b=none)/\W i n ys σ' H') ?_ hxx m0
   ⟨0,[],[],0,_,H2,(vvs I2 sc f2 qh hC hD oe en bv f8 ny accD (λv z=>by cases z)).wish _,.nil,T.keep _ _ _ c8 (λb hb o e=>f8 b o e),λb hb=>(f2 b hb).1,w0⟩
  rintro n s3 ⟨i,ys,ah,nn,σ3,H3,I3,rv,fc,fr3,w3⟩;rcases fv i n ys σ3 H3 w3 with⟨stop,hz,qn⟩|⟨go,step⟩
  ·refine thn (T.done (lcE X scope N cl C s2 H2 fp EX) rfl rfl rfl hc i _ s3 σ3 H3 _ I3 (ic fr3) fc stop) λr s4 ⟨hr,I4⟩=>?_
   subst hr;show RR (.ref D) C (.ok .next) s4;have hD4:=I4.pin (D,YQ ah nn) (by show _∈([]++[(D,YQ ah nn)]:List (Addr×Obj));simp);have J1:Inv X pins O H3 s4:=I2.call' I4.os I4.base I4.hok I4.bare λb hb=>⟨(f2 b hb).2.2.2.1,(f2 b hb).2.1,(f2 b hb).2.2.2.2.1,(f2 b hb).2.2.2.2.2⟩
   have fD:v8 X pins H3 D:=I2.fpOk hD hD4.2.1;have fC:v8 X pins H3 C:=I2.fpOk hC I4.free;have J2:Inv X pins O (upd H3 D (.lst ys)) s4:=kjg J1 hD4.2.1 fD.2.1 fD.2.2.2.1 fD.2.2.2.2.1 fD.2.2.2.2.2 ⟨hz,ah,nn,rv,hD4.1⟩;obtain⟨mC,nC,_⟩:=I4.loc;obtain⟨oC,es,ep,hoC,hdC,mf⟩:=id nC;have fC':v8 X pins (upd H3 D (.lst ys)) C:=⟨by rw[kz oe.symm];exact fC.1,fC.2⟩;refine hRR D C oC mC ys H3 s4 (J2.pins_of λp hp=>?_) hoC nC fC' (qn D hD4.2.1);rcases aA hp with z|z
   ·exact J2.pin p (lr9 _ z)
   ·rw[aC z];exact⟨hoC,fC'.1,fC'.2.1,fC'.2.2.1,λv y=>by rw[hdC]at y;cases y⟩
  ·refine thn (T.item (lcE X scope N cl C s2 H2 fp EX) rfl rfl rfl hc i _ s3 σ3 H3 _ I3 (ic fr3) fc go) λr s4 ⟨u,hr,h4⟩=>?_
   subst hr;refine thn h4 λ_ s5 ⟨x,H5,I5,r5,y5,la,fr5⟩=>?_
   have I5':=I5.pinned (ic fr5) (T.obj _ _ la);have ip:∀{σ':L2.St} {H':Hp} {s':Shared} {pl:List (Addr×Obj)},Inv (lcE X scope N cl C s2 H2 fp EX) (pl++K8 fp s5.heap) σ' H' s'->tn (i+1) s'.heap/\∀b∈fp,H' b=none:=fun {σ' H' s' pl} I'=>by
    have q:∀b∈fp,∀o,s5.heap.get? b=some o->s'.heap.get? b=some o/\H' b=none:=λb hb o e=>by
     obtain⟨a1,a2,_⟩:=I'.pin (b,o) (lr9 _ (lr9 _ (jxy hb e)));exact⟨a1,a2⟩
    refine⟨T.keep _ _ _ la λb hb o e=>(q b hb o e).1,λb hb=>?_⟩;obtain⟨o,e,_⟩:=T.obj _ _ la b hb;exact(q b hb o e).2
   refine thn (hg C s2 H2 fp _ s5 σ3 H5 x u _ I5' r5 (step x H5 y5)) λ_ s6 ⟨σ6,H6,I6,Ny,Nn,hNy,hNn,q6⟩=>?_
   refine thn (ht C s2 H2 fp _ s6 σ6 H6 _ I6 q6) λok s7 ⟨H7,I7,q7⟩=>?_
   cases ok with
   | false=>
    obtain⟨m',hm,w7⟩:=hNn _ q7;exact⟨m',hm,i+1,ys,ah,nn,σ6,H7,I7.unpinned,rv,(ip I7).1,(ip I7).2,w7⟩
   | true=>
    refine thn (he C s2 H2 fp _ s7 σ6 H7 _ I7 q7) λu8 s8 ⟨y,H8,I8,r8,q8⟩=>?_
    obtain⟨hz,m',hm,w8⟩:=hNy _ _ q8;have pD:=I8.pin (D,YQ ah nn) (lr9 _ (ll9 _ (aB rfl)));have av:=rv.length;refine append_at (hsz:=by rw[X5];omega) pD.1 λh9 sb9 e9=>?_
    have I8a:Inv (lcE X scope N cl C s2 H2 fp EX) ([]++K8 fp s5.heap) σ6 H8 s8:=I8.pins_of λp hp=>I8.pin p (lr9 _ (lr9 _ hp))
    have I9:Inv (lcE X scope N cl C s2 H2 fp EX) ([]++K8 fp s5.heap) σ6 H8 { s8 with heap:=h9,toks:=s8.toks }:=I8a.turned (it:=D) (λb o hb e=>(sb9.2 b hb).trans e) pD.2.1 oe (.inr hD)
     (λx c h z=>by
      obtain⟨v,q⟩:=I2.cell x c (en x c h);exact absurd (Xh q.lt (by rw[z];exact hD)) (Yh _))
     (λp hp z=>by
      have hp:p∈([]++([]++K8 fp s5.heap):List (Addr×Obj)):=hp;have hp:p∈K8 fp s5.heap:=by simpa using hp
      exact(below p.1 (kvk hp).1).1 z)
    have e9':h9.get? D=some (YQ (ah++[u8]) (nn+1)):=by rw[e9];simp[List.push_toArray]
    refine⟨m',hm,i+1,ys++[y],ah++[u8],nn+1,σ6,H8,I9.pins_of λp hp=>?_,rv.append (.cons r8 .nil),(ip I9).1,(ip I9).2,w8⟩;rw[aC hp];exact⟨e9',pD.2.1,pD.2.2.1,pD.2.2.2.1,λv z=>by cases z⟩
 exact codeAny_compStart_list (loop _ rfl) (T.self _ 0 _ _ _ (T.keep _ _ _ c8 λb hb o e=>f8 b o e) (loop _ rfl))
theorem vkb{EX:XK}{wi:TI}(N:List Str)(k:Nat)(R:List Nat)(hi:PI X tg b6 wi)
  (hg:∀cl C s0 H0 fp,PG (lcE X scope N cl C s0 H0 fp EX) tg g) (ht:∀cl C s0 H0 fp,PTs (lcE X scope N cl C s0 H0 fp EX) eh tt) (he:∀cl C s0 H0 fp,PE (lcE X scope N cl C s0 H0 fp EX) fb te)
  (gx:wV X EX) (top:xK X) (hc:autoParam (X.calm=true) Ŕ) (hk:autoParam (scope.kind=.function) Ŕ) (jd:autoParam (K9 X.N X.env.scope scope N k R=true) Ŕ) (hs:autoParam (∀x,foldedSetIterable b6 X.env x=pure x) Ŗ):
  PE X (.ListComp fb [⟨tg,b6,eh,0⟩] scope pos) (tLC wi g tt te k R):=by
 intro pins s O H Q I h;have sc:=kzw hk jd;obtain⟨cl,js,en,bv⟩:=kkk (scope:=scope) (env:=X.env) λy hy e=>I.ok.has y.1 (sc.caps y hy e)
 rw[eval_ListComp];refine wpAny_comprehension_free (use:=none) rfl hs js sc.kind sc.names (thn (hi pins s O H _ I h) λv s1 h1=>thn h1 λitv s2 h2=>?_);obtain⟨it,fp,tn,J,H2,e,I2,T,c8,f2,W,w0,fv⟩:=h2;subst e;refine kvp (EX:=EX) (RR:=λao C=>compPost (model X.prog X.w) X.A X.xe none (EP X pins O Q) ao C) hc top sc en bv (hg cl) (ht cl) (he cl) I2 T c8 f2 w0 fv ?_ ?_
 rotate_left
 ·intro D C s' d9 σ' H' x T Cc fl hC t q;exact vkg gx I2 f2 hC t q
 intro D C oC m ys H' s' I' _ nC fC q;exact⟨m,nC,λh' sb=>⟨.ref D,_,I'.unpinned.turned (it:=C) (t':=s'.toks) (λb o hb e=>(sb.2 b hb).trans e) fC.1 fC.2.1 fC.2.2.2.1 fC.2.2.2.2.1 fC.2.2.2.2.2,rfl,q⟩⟩
end
abbrev bmV:List Value:=[.type "ValueError",.type "Exception",.type "BaseException",.type "object"]
structure ECls (K:Frag)(mg:Str->Option Value)(x:Str)(C:Addr):Prop where
 bd:mg x=some (.ref C)
 ec:PySem.W.excIn K C bmV "ValueError.__new__"=true
 xc:XCls K C
theorem vvd{K:Frag}{h:Heap}{C:Addr}{bmB:List Value}{ml:String}(KI:K.In h)(e:PySem.W.excIn K C bmB ml=true):
  ∃ bm N nm q bs hdct sn sub ab col dd k0 k1 k2 k3 k5 mN,h.get? C=some (excClassObj nm q C N bs bm hdct sn sub ab col dd k0 k1 k2 k3 k5 ml)/\h.Ns N mN/\mN "__init__"=none/\OwnTail h bmB bm:=by
 unfold PySem.W.excIn at e
 split at e
 ·rename_i dict cd sl hl
  split at e
  ·rename_i bm C' k0 k1 k2 k3 n k5 hm hs;simp only[Bool.and_eq_true,beq_iff_eq,Bool.not_eq_true']at e;obtain⟨⟨⟨⟨⟨e1,e2⟩,e3⟩,e4⟩,e5⟩,e6⟩:=e;subst e1 e2;have g:=KI _ _ hl;obtain⟨nm,bs,mro,ns,qn,hd,hdel,sn,sub,ab,col⟩:=cd;dsimp only at hm e3 e5 e6;subst hm e3;have jp:sl=#[k0,k1,k2,k3,some (Value.builtin n),k5]:=by
    apply Array.toList_inj.mp;rw[hs]
   subst jp;exact⟨_,ns,nm,qn,bs,hd,hdel,sn,sub,ab,dict,k0,k1,k2,k3,k5,h.nsMap ns,g,Heap.Ns.of_isNs (PySem.W.isNs_of_in KI e5),PySem.W.nsMap_none_of_in KI e5 e6,PySem.W.tail_of_in KI e4⟩
  ·cases e
 ·cases e
section
variable {X:Cx}{x:Str}{np az pos:Pos}{e:Expr}{es:List Expr}{ta:TA}{C:Addr}{E:XK}
abbrev vxm(E:XK)(C:Addr)(ta:TA):TS:=λ_ O H=>ta O H λvs H1=>vs.length<=sizeLine/\E (.ref C) none H1
theorem qzc(c:ECls X.K X.mg x C)(g:wV X E)(ha:PA X (e::es) ta)(hg:autoParam (Gl X x) Ŕ)(hc:autoParam (X.calm=true) Ŕ)(db:autoParam ((x==("__debug__":Str))=false) ŕ)
  (he:autoParam (starEach (e::es) X.env=(false,eval e X.env)::starEach es X.env) Ŕ) (bp:autoParam (((backTo az (starEach (e::es) X.env)).any (·.1))=false) Ŕ):
  PS X (.Raise (some (.Call (.Name x np) (e::es) [] az)) none pos) (vxm E C ta):=by
 intro pins s O H D I h;obtain⟨bm,N,nm,q,bs,hdct,sn,sub,ab,col,dd,k0,k1,k2,k3,k5,mN,o1,o2,o3,o4⟩:=vvd I.ok.mod.kin c.ec;refine wpAny_Raise_call_subT (nm:=nm) (q:=q) (C:=C) (N:=N) (bs:=bs) (bm:=bm) (hdct:=hdct) (sn:=sn) (sub:=sub) (ab:=ab) (col:=col) (dd:=dd) (k0:=k0) (k1:=k1) (k2:=k2) (k3:=k3) (k5:=k5) (bmB:=bmV) F.excBase_ValueError (o4.hasType (X:="BaseException") rfl) (I.ok.hd hc) bp o3 (WX I hg c.bd ⟨rfl,?_⟩ db);obtain⟨y0,r0,jt⟩:∃y r,backTo az (starEach (e::es) X.env)=(false,y)::r:=by rw[he];exact⟨_,_,rfl⟩
 have je:=ha az pins s O H _ I h;rw[jt]at je ⊢;refine Calls.evalArgs_plain (thn je λus s2 ⟨vs,H1,I1,r1,q1⟩=>⟨rfl,by rw[<-r1.length];exact q1.1,I1.bk _ _ o1,?_,?_,λh' ea made=>?_⟩)
 ·obtain⟨o,es',ep,ho,r⟩:=o2;exact⟨o,es',ep,I1.bk _ _ ho,r⟩
 ·exact o4.keeps λb o e=>I1.bk b o e
 ·obtain⟨t,m1,m2,m3⟩:=made.there;have J:Inv X pins O H1 { s2 with heap:=h',toks:=s2.toks }:=I1.kept made.keeps;exact g pins O H1 _ ea (.ref C) J ⟨fpX I1 made.new (vj1 I1.hok made.new),.inl ⟨_,⟨m1,by show(1:Nat)<6;decide⟩,rfl⟩⟩ q1.2
def XX(X:Cx)(pins:List (Addr×Obj))(O:L2.St)(E:XK)(e:Value)(s:Shared):Prop:=∃H x C,e=.ref x/\Inv X pins O H s/\Fx X pins H s.heap x C/\E C none H
def PSX(X:Cx)(st:Stmt)(t:XK->TS):Prop:=∀(E:XK) (pins:List (Addr×Obj)) (s:Shared) (O:L2.St) (H:Hp) (D:Ends),Inv X pins O H s->t E D O H->wpAny (model X.prog X.w) X.A (exec st X.env) (SP X pins D) (XX X pins O E) s
def PEX(X:Cx)(ex:Expr)(t:XK->TE):Prop:=∀(E:XK) (pins:List (Addr×Obj)) (s:Shared) (O:L2.St) (H:Hp) (Q:VK),Inv X pins O H s->t E O H Q->wpAny (model X.prog X.w) X.A (eval ex X.env) (EP X pins O Q) (XX X pins O E) s
theorem qzf{k:Nat}{ps:List Str}{sp:Sp}(D:kY X.prog X.w X.K X.mg X.base k x ps sp)(hr:Room k X.A)(ha:PA X.nox (e::es) ta)(hg:autoParam (Gl X x) Ŕ)(db:autoParam ((x==("__debug__":Str))=false) ŕ)
  (he:autoParam (starEach (e::es) X.env=(false,eval e X.env)::starEach es X.env) Ŕ) (bp:autoParam ((backTo pos (starEach es X.env)).any (·.1)=false) Ŕ):
  PEX X (.Call (.Name x np) (e::es) [] pos) (λE=>qxr sp [] E ta):=by
 obtain⟨f,fd,F,hb,kp,m⟩:=D;intro E pins s O H Q I h;refine Yf (WX I hg m ?_ db);refine PySem.W.callWith_K (h₀:=X.base) I.ok.mod.kin kp (Yx (ha pos pins s O H _ (I.wish _) h) (λus s1 ⟨vs,H1,I1,r,q⟩=>⟨I1.kIn,?_⟩) λ_ _ z=>z.elim) he bp;have I1:=I1.unwish;have q:sp (vs++[]) H1 Q E:=q;have hl:us.length=ps.length:=by
  rw[<-r.length];have:=F.len _ _ _ _ q
  rwa [Xr]at this
 refine wpAny_call (codeAny_mono (F.run X.A X.stack s1 H1 ⟨us,[]⟩ us vs Q E hr I1.env0 (by have:=hb s1 us I1.kIn (by rw[Xr];exact hl);rwa [Xr]at this) r (by rwa [Xr]at q)) λrr s' hq=>?_);cases rr with
 |error e=>
  obtain⟨x,T,C,fl,H',rfl,os,bare,un,hok,hx,hT,nx,nT,f,q⟩:=hq;exact⟨H',x,C,rfl,I1.call' os un hok bare (λb hb=>nomatch hb),⟨fpX I1 hx nx,.inr ⟨T,fl,f,fpX I1 hT nT⟩⟩,q⟩
 |ok fl=>
  cases fl with|ret u=>exact I1.after hq|next=>exact False.elim hq|brk=>exact False.elim hq|cont=>exact False.elim hq
theorem kzk{ex:Expr}{t:XK->TE}(h:PEX X ex t)(hs:autoParam (swapsWith ex none pos.line X.env=pure false) Ŕ):PSX X (.Expr ex pos) (λE=>vq9 (t E)):=by
 intro E pins s O H D I hw;exact wpAny_Expr_any (thn (h E pins s O H _ I hw) λv s1 ⟨x,H1,I1,r1,q1⟩=>⟨O,H1,I1,q1⟩) I.quiet hs
end
section
variable {X:Cx}{pins:List (Addr×Obj)}{O:L2.St}{H:Hp}{s:Shared}{x:Addr}{ox:Obj}
theorem qw7{σ':L2.St}{h':Heap}{t':Nat}{m':Str->Option Value}(I:Inv X pins O H s)(hs:Heap.SameBut X.env.locals s.heap h')(lp:h'.Ns X.env.locals m')(hl:σ'.length=X.N.length)
  (hv:∀(j:Nat) (y:Str) (v:V),X.N[j]?=some y->σ'[j]?=some (some v)->Vis X.env.scope y->∃u,RelV v u/\wzc X.env h' m' y u):Inv X pins σ' H { s with heap:=h',toks:=t' }:=by
 have nL:∀b o,X.s₀.heap.get? b=some o->b≠X.env.locals:=λb o e=>Xg (Xh (Xa e) I.ok.above)
 refine⟨I.ok,I.os,I.bare,⟨λb o e n hb hx=>?_,λb o e n hb hx=>?_,I.base.free,λb o e hx=>?_,I.base.tups,I.base.frzs,I.base.tbls⟩,⟨m',lp,hv⟩,λy c e=>?_,I.free,I.freeC,λp hp=>?_,λb ob e=>?_,hl⟩
 ·exact(hs.2 b (nL b o e)).trans (I.base.keep b o e n hb hx)
 ·obtain⟨sl,e1⟩:=I.base.slot b o e n hb hx;exact⟨sl,(hs.2 b (nL b o e)).trans e1⟩
 ·obtain⟨o',e1⟩:=I.base.there b o e hx;exact⟨o',(hs.2 b (nL b o e)).trans e1⟩
 ·obtain⟨w',z⟩:=I.cell y c e;exact⟨w',z.sameBut hs (I.cne y c e)⟩
 ·obtain⟨e,n,ne,nf,d⟩:=I.pin p hp;exact⟨(hs.2 p.1 ne).trans e,n,ne,nf,d⟩
 ·refine(I.hok b ob e).stay (λc w' hc q=>(hs.2 c ?_).trans q) (λ_ q=>q) λ_ _ q=>q
  rintro rfl;rcases hc with rfl|hc
  ·rw[I.free]at e;cases e
  ·rw[I.free]at hc;cases hc
theorem jx6{M:Model}{A:Around}{E:Value->Shared->Prop}{n:Str}{i:Nat}{pos:Pos}{Q:Unit->Shared->Prop}(I:Inv X pins O H s)(hN:X.N.Nodup)(hi:X.N[i]?=some n)(hk:X.env.scope.names.lookup n=some .local)
  (h:∀s',Inv X pins (O.set i none) H s'->Q () s'):wpAny M A (do bindName X.env n Value.none;unbindBehindTheSuite X.env n pos) Q E s:=by
 refine X0 (wpAny_bindName (WV I hN hi (.inl hk) (v:=.non) (u:=.none) rfl (λs1 I1=>?_) (.inr hk)));have sx:i < O.length:=by rw[I.len];exact(List.getElem?_eq_some_iff.mp hi).1
 obtain⟨m,hn,hl⟩:=id I1.loc;obtain⟨u,ru,lk⟩:=hl i n .non hi (Z4 sx) (.inl hk);have hm:m n=some u:=by
  rcases lk with⟨_,z⟩|⟨z,_⟩
  ·exact z
  ·rcases z with z|z
   ·have z:X.env.scope.names.lookup n=some .cell:=z;rw[hk]at z;cases z
   ·have z:X.env.scope.names.lookup n=some .free:=z;rw[hk]at z;cases z
 have n9:(X.env.scope.kind == .class||(X.env.scope.kind == .module&&X.env.locals != X.env.globals))=false:=by rw[I.ok.kind];rfl
 unfold unbindBehindTheSuite;refine wpAny_onRaise (wpAny_unbindName_local hk hn hm n9 λh' u' lp sb=>h _ ?_);refine qw7 (t':=s1.toks) I1 sb lp (by rw[Yt];exact I.len) λj y v e1 e2 e3=>?_
 by_cases hj:j=i
 ·subst hj;rw[Z4 sx]at e2;cases e2
 ·rw[Ye (Zi hj)]at e2;obtain⟨u2,r2,l2⟩:=hl j y v e1 (by rw[Ye (Zi hj)];exact e2) e3;refine⟨u2,r2,?_⟩;rcases l2 with⟨k,e⟩|⟨k,c,e,z⟩
  ·refine .inl ⟨k,?_⟩;have:y≠n:=λe=>hj (kqd hN e1 (e▸hi))
   simp[this,e]
  ·exact .inr ⟨k,c,e,z.sameBut sb (I.cne y c e)⟩
end
structure ExAt (K:Frag)(x:Addr)(ox:Obj)(C:Addr):Prop where
 cls:ox.cls=.ref C
 no:PySem.W.notCls ox=true
 di:ox.dict=none
 xc:XCls K C
theorem J9{X:Cx}{x:Str}{pos:Pos}{C:Addr}(h:X.mg x=some (.ref C))(hg:autoParam (Gl X x) Ŕ)(hd:autoParam ((x==("__debug__":Str))=false) ŕ):PE X (.Name x pos) (tC (.ref C)):=qv5 hg h (v:=.ref C) rfl hd
end L3
namespace Q
open PySem
inductive D where
 |non|bl (b:Bool)|int (i:Int)|str (z:Str)|tup (xs:List D)|lst (xs:List D)|dct (kvs:List (D×D))|obj (c:Str) (fs:List (Str×D))
instance:DecidableEq D:=λa b=>Classical.propDecidable (a=b)
instance:Inhabited D:=⟨.non⟩
mutual
noncomputable def D.pure:D->Bool
 |.tup xs=>D.pures xs|.lst _=>false|.dct _=>false|.obj _ _=>false|_=>true
noncomputable def D.pures:List D->Bool
 |[]=>true|a::x=>D.pure a&&D.pures x
end
theorem D.pures_all:∀xs:List D,D.pures xs=xs.all D.pure
 |[]=>by simp[D.pures]|a::x=>by rw[D.pures,List.all_cons,D.pures_all x]
@[simp] theorem D.pures_map {α:Type}(f:α->D)(xs:List α)(h:∀x∈xs,(f x).pure=true):D.pures (xs.map f)=true:=by
 rw[D.pures_all,Z7];intro d hd;obtain⟨x,hx,rfl⟩:=aE hd;exact h x hx
mutual
noncomputable def peq:D->D->Bool
 |.non,.non=>true|.bl a,.bl b=>a==b|.bl a,.int b=>(if a then 1 else 0)==b|.int a,.bl b=>a==(if b then 1 else 0)|.int a,.int b=>a==b|.str a,.str b=>a==b|.lst as,.lst bs=>peqs as bs|.tup as,.tup bs=>peqs as bs|_,_=>false
noncomputable def peqs:List D->List D->Bool
 |[],[]=>true|a::as,b::bs=>peq a b&&peqs as bs|_,_=>false
end
mutual
noncomputable def D.flat:Nat->D->Bool
 |0,.tup _=>false|0,.lst _=>false|n+1,.tup xs=>D.flats n xs|n+1,.lst xs=>D.flats n xs|_,.dct _=>false|_,.obj _ _=>false|_,_=>true
noncomputable def D.flats:Nat->List D->Bool
 |_,[]=>true|n,a::x=>D.flat n a&&D.flats n x
end
mutual
noncomputable def jV:Nat->D->Bool
 |_,.non=>true|_,.int _=>true|n+1,.tup xs=>keyDs n xs|_,_=>false
noncomputable def keyDs:Nat->List D->Bool
 |_,[]=>true|n,a::x=>jV n a&&keyDs n x
end
def unm : List (D × D) -> Bool
  |(.str _, _)::_=>false|_=>true
inductive Own where
 |no|rt|dp
 deriving DecidableEq
abbrev Sd:=Own×D
abbrev En:=List (Option Sd)
inductive Res (α:Type) where
 |ok (E:En) (a:α)
 |exc (E:En) (c:Str)
abbrev Ev(α:Type):=En->Option (Res α)
abbrev Ex:=Ev Sd
def bnd{α β:Type}(m:Option (Res α))(f:En->α->Option (Res β)):Option (Res β):=
 match m with
 |some (.ok E a)=>f E a|some (.exc E c)=>some (.exc E c)|none=>none
@[simp] theorem wz4 {α β:Type}(E:En)(a:α)(f:En->α->Option (Res β)):bnd (some (.ok E a)) f=f E a:=rfl
@[simp] theorem wwx {α β:Type}(E:En)(c:Str)(f:En->α->Option (Res β)):bnd (some (.exc E c)) f=some (.exc E c):=rfl
@[simp] theorem wv1 {α β:Type}(f:En->α->Option (Res β)):bnd none f=none:=rfl
def val{α:Type}(E:En)(x:Option α):Option (Res α):=x.map (Res.ok E)
@[simp] theorem wqp {α:Type}(E:En)(x:α):val E (some x)=some (.ok E x):=rfl
@[simp] theorem wqq {α:Type}(E:En):val E (none:Option α)=none:=rfl
def cC(d:D):Ex:=λE=>some (.ok E (.dp,d))
def cV(i:Nat):Ex:=λE=>match E[i]? with
 |some (some (_,d))=>some (.ok (E.set i (some (.no,d))) (.no,d))|_=>none
def cMv(i:Nat):Ex:=λE=>match E[i]? with
 |some (some x)=>some (.ok (E.set i none) x)|_=>none
def vV(i:Nat):Ex:=λE=>match E[i]? with
 |some (some x)=>some (.ok E x)|_=>none
def vE(c:Ex):Ex:=λE=>bnd (c E) λE x=>some (.ok E (.no,x.2))
abbrev C9(z:Int):Ex:=vE (cC (.int z))
def cH(v:Ex):Ex:=λE=>bnd (v E) λE x=>if x.1=.no then some (.ok E (.no,x.2))else if x.2.pure then some (.ok E (.dp,x.2))else none
def cF1(f:Sd->Option Sd)(a:Ex):Ex:=λE=>bnd (a E) λE x=>val E (f x)
def cF2(f:Sd->Sd->Option Sd)(a b:Ex):Ex:=λE=>bnd (a E) λE x=>bnd (b E) λE y=>val E (f x y)
def pu1(f:D->Option D):Sd->Option Sd:=λx=>(f x.2).map λd=>(.dp,d)
def pu2(f:D->D->Option D):Sd->Sd->Option Sd:=λx y=>(f x.2 y.2).map λd=>(.dp,d)
def wxz:D->List D
 |.lst xs=>xs|.tup xs=>xs|.dct kvs=>kvs.map (·.2)|_=>[]
def q9(x:Sd):Bool:=x.1 != .dp||D.pures (wxz x.2)
def sub:Own->Own
 |.dp=>.dp|_=>.no
def ixN(n:Nat)(i:Int):Option Nat:=if 0<=i then(if i<n then some i.toNat else none)else if -(n:Int)<=i then some (i+n).toNat else none
def ixD:D->D->Option D
 |.lst xs,.int i=>(ixN xs.length i).bind λj=>xs[j]?|.tup xs,.int i=>(ixN xs.length i).bind λj=>xs[j]?|.str z,.int i=>(ixN z.cps.size i).bind λj=>(z.cps.toList[j]?).map λc=>.str ⟨#[c]⟩|.dct kvs,k=>(kvs.find? λe=>decide (e.1=k)).map (·.2)|_,_=>none
def big:Nat:=16777216
def i2(f:Int->Int->Option Int):D->D->Option D
 |.int a,.int b=>(f a b).map .int|_,_=>none
def c2(f:Int->Int->Bool):D->D->Option D
 |.int a,.int b=>some (.bl (f a b))|_,_=>none
def qq8(a:Int):Bool:=decide (-(2 ^ 64)<a)&&decide (a<2 ^ 64)
noncomputable def jJ:Sd->Sd->Option Sd:=λx y=>match x.2,y.2 with
 |.int a,.int b=>some (.dp,.int (a+b))|.str a,.str b=>if a.cps.size+b.cps.size<=big then some (.dp,.str (a++b))else none|.lst a,.lst b=>if a.length+b.length<=big/\q9 x/\q9 y then some (.rt,.lst (a++b))else none|.tup a,.tup b=>if a.length+b.length<=big/\q9 x/\q9 y then some (.no,.tup (a++b))else none|_,_=>none
def XJ(a b:Int):Bool:=qq8 a||qq8 b||(decide (a.natAbs.log2<2000000)&&decide (b.natAbs.log2<2000000))
noncomputable def V3:Sd->Sd->Option Sd:=λx y=>match x.2,y.2 with
 |.int a,.int b=>if XJ a b then some (.dp,.int (a*b))else none|.lst a,.int k=>if -(2 ^ 63)<=k/\k<2 ^ 63/\a.length*k.toNat<=big/\q9 x then some (.rt,.lst (List.replicate k.toNat a).flatten)else none|.str z,.int n=>if(z.cps.size<=1024/\n<=1024/\-1024<=n)/\(Txt.mul z n).cps.size<=big then some (.dp,.str (Txt.mul z n))else none|_,_=>none
def Vq:D->D->Option D:=i2 λa b=>some (a - b)
def v5:D->D->Option D:=i2 λa b=>if 0<b/\b.natAbs.log2<9000 then some (a / b)else none
def jQ:D->D->Option D:=i2 λa b=>if 0<b then some (a % b)else none
def fEq:D->D->Option D:=λa b=>if a.flat 40&&b.flat 40 then some (.bl (peq a b))else none
def fNe:D->D->Option D:=λa b=>if a.flat 40&&b.flat 40 then some (.bl (!peq a b))else none
def isNon:D->Bool
 |.non=>true|_=>false
def fLt:D->D->Option D:=c2 λa b=>decide (a<b)
def fLe:D->D->Option D:=c2 λa b=>decide (a<=b)
def fGt:D->D->Option D:=c2 λa b=>decide (b<a)
def fGe:D->D->Option D:=c2 λa b=>decide (b<=a)
def fNeg:D->Option D
 |.int a=>some (.int (-a))|_=>none
def wwp(a b:Str):Bool:=!(Builtin.Str.occurrences b a 0 b.length 1).isEmpty
noncomputable def fIn:D->D->Option D:=λx y=>match y with
 |.lst ys=>if x.flat 30&&D.flats 30 ys then some (.bl (ys.any λz=>peq z x))else none|.tup ys=>if x.flat 30&&D.flats 30 ys then some (.bl (ys.any λz=>peq z x))else none
 |.str b=>(match x with
  |.str a=>some (.bl (wwp a b))
  |_=>none)
 |.dct kvs=>some (.bl (kvs.any λe=>decide (e.1=x)))|_=>none
def Vj:D->D->Option D:=λx y=>(fIn x y).bind λd=>match d with
 |.bl k=>some (.bl (!k))|_=>none
def qk:D->Option D
 |.lst xs=>some (.int xs.length)|.tup xs=>some (.int xs.length)|.str z=>some (.int z.length)|_=>none
def kind:D->String
 |.non=>"NoneType"|.bl _=>"bool"|.int _=>"int"|.str _=>"str"|.tup _=>"tuple"|.lst _=>"list"|.dct _=>"dict"|.obj _ _=>""
def fIsNon:D->Option D:=λd=>some (.bl (isNon d))
def fNotNon:D->Option D:=λd=>some (.bl (!isNon d))
abbrev Ts:=Ev Bool
def truth:D->Option Bool
 |.bl b=>some b|.non=>some false|.int i=>some (i != 0)|.str z=>some (z.cps.size != 0)|.lst xs=>some (!xs.isEmpty)|.tup xs=>some (!xs.isEmpty)|.dct xs=>some (!xs.isEmpty)|.obj _ _=>none
def tE(c:Ex):Ts:=λE=>bnd (c E) λE x=>val E (truth x.2)
def tAnd(a b:Ts):Ts:=λE=>bnd (a E) λE x=>if x then b E else some (.ok E false)
def tOr(a b:Ts):Ts:=λE=>bnd (a E) λE x=>if x then some (.ok E true)else b E
def tNot(a:Ts):Ts:=λE=>bnd (a E) λE x=>some (.ok E (!x))
def tYes:Ts:=λE=>some (.ok E true)
def cIf(t:Ts)(a b:Ex):Ex:=λE=>bnd (t E) λE x=>if x then a E else b E
def K7(a b:Ex):Ex:=λE=>bnd (a E) λE x=>match x.2 with
 |.bl true=>b E|.bl false=>some (.ok E (.dp,.bl false))|_=>none
def cOr(a b:Ex):Ex:=λE=>bnd (a E) λE x=>match x.2 with
 |.bl true=>some (.ok E (.dp,.bl true))|.bl false=>b E|_=>none
def ww:D->D->Option D:=λx y=>match y with
 |.dct _=>none|_=>fIn x y
def QX:D->D->Option D:=λx y=>match y with
 |.dct _=>none|_=>Vj x y
def f2First(f:D->Option D):Sd->Sd->Option Sd:=λx y=>if isNon y.2 then(f x.2).map λd=>(.dp,d)else none
def jz:D->D->Option D:=λx y=>match x with
 |.dct _=>none|_=>ixD x y
def j6(a b:Ex):Ex:=λE=>bnd (a E) λE x=>bnd (b E) λE y=>val E ((jz x.2 y.2).map λd=>(sub x.1,d))
def truthQ:D->Option Bool:=λd=>match d with
 |.dct _=>none|_=>truth d
def tEQ(c:Ex):Ts:=λE=>bnd (c E) λE x=>val E (truthQ x.2)
def q5:List Ex->Ev (List Sd)
 |[],E=>some (.ok E [])|c::cs,E=>bnd (c E) λE x=>bnd (q5 cs E) λE xs=>some (.ok E (x::xs))
def xk(x:Sd):Bool:=x.1 == .dp||x.2.pure
def kQ(o:Own)(cs:List Ex):Ex:=λE=>bnd (q5 cs E) λE xs=>if o=.dp then(if xs.all xk then some (.ok E (.dp,.lst (xs.map (·.2))))else none)else some (.ok E (.rt,.lst (xs.map (·.2))))
def kX(o:Own)(cs:List Ex):Ex:=λE=>bnd (q5 cs E) λE xs=>if o=.dp then(if xs.all xk then some (.ok E (.dp,.tup (xs.map (·.2))))else none)else some (.ok E (.no,.tup (xs.map (·.2))))
inductive Fl where
 |nx (E:En)|rt (E:En) (x:Sd)|ct (E:En)|bk (E:En)|xc (E:En) (c:Str)
abbrev Sm:=En->Option Fl
def ofE{α:Type}(m:Option (Res α))(f:En->α->Option Fl):Option Fl:=
 match m with
 |some (.ok E a)=>f E a|some (.exc E c)=>some (.xc E c)|none=>none
@[simp] theorem wxt {α:Type}(E:En)(a:α)(f:En->α->Option Fl):ofE (some (.ok E a)) f=f E a:=rfl
@[simp] theorem ww8 {α:Type}(E:En)(c:Str)(f:En->α->Option Fl):ofE (some (.exc E c)) f=some (.xc E c):=rfl
@[simp] theorem wqy {α:Type}(f:En->α->Option Fl):ofE none f=none:=rfl
def j4(a b:Sm):Sm:=λE=>match a E with
 |some (.nx E)=>b E|r=>r
def v7:Sm:=λE=>some (.nx E)
def j8(i:Nat)(c:Ex):Sm:=λE=>ofE (c E) λE x=>some (.nx (E.set i (some x)))
def qxw(c:Ex):Sm:=λE=>ofE (c E) λE _=>some (.nx E)
def k7(c:Ex):Sm:=λE=>ofE (c E) λE x=>some (.rt E x)
def sRetN:Sm:=λE=>some (.rt E (.dp,.non))
def sIf(t:Ts)(a b:Sm):Sm:=λE=>ofE (t E) λE x=>if x then a E else b E
inductive Tg where
 |n (i:Nat)|t (ts:List Nat)
def setAll:List Nat->List D->En->Option En
 |[],[],E=>some E|i::is,d::ds,E=>setAll is ds (E.set i (some (.no,d)))|_,_,_=>none
def Tg.put:Tg->D->En->Option En
 |.n i,d,E=>some (E.set i (some (.no,d)))|.t is,.tup ds,E=>setAll is ds E|.t is,.lst ds,E=>setAll is ds E|.t _,_,_=>none
def sTup(is:List Nat)(c:Ex):Sm:=λE=>ofE (c E) λE x=>(Tg.put (.t is) x.2 E).map .nx
def JY(tg:Tg)(b:Sm):List D->En->Option Fl
 | [],E=>some (.nx E)
 | d::ds,E=>match tg.put d E with
  |none=>none
  |some E=>match b E with
   |some (.nx E)=>JY tg b ds E|some (.ct E)=>JY tg b ds E|some (.bk E)=>some (.nx E)|r=>r
def v3(it:Ev (List D))(tg:Tg)(b:Sm):Sm:=λE=>ofE (it E) λE ds=>JY tg b ds E
def sWhile(t:Ts)(b:Sm)(E:En):Option Fl:=
 match t E with
 |some (.ok E true)=>(match b E with
  |some (.nx E)=>sWhile t b E|some (.ct E)=>sWhile t b E|some (.bk E)=>some (.nx E)
  |r=>r)
 |some (.ok E false)=>some (.nx E)|some (.exc E c)=>some (.xc E c)|none=>none
partial_fixpoint
def whN(t:Ts)(b:Sm):Nat->En->Option Fl
 | 0,_=>none
 | n+1,E=>match t E with
  |some (.ok E true)=>(match b E with
   |some (.nx E)=>whN t b n E|some (.ct E)=>whN t b n E|some (.bk E)=>some (.nx E)
   |r=>r)
  |some (.ok E false)=>some (.nx E)|some (.exc E c)=>some (.xc E c)|none=>none
theorem vq1{t:Ts}{b:Sm}:∀{E:En} {r:Fl},sWhile t b E=some r->∃n,whN t b n E=some r:=by
 intro E r;refine sWhile.partial_correctness t b (λE r=>∃n,whN t b n E=some r) ?_ E r;intro f ih E r h;cases ht:t E with
 | none=>rw[ht]at h;cases h
 | some q=>
  cases q with
  | exc E1 c=>rw[ht]at h;exact⟨1,by simp only[whN,ht];exact h⟩
  | ok E1 k=>
   rw[ht]at h;cases k with
   | false=>exact⟨1,by simp only[whN,ht];exact h⟩
   | true=>
    dsimp only at h;cases hb:b E1 with
    |none=>rw[hb]at h;cases h
    |some g=>
     rw[hb]at h;cases g with|nx E2=>obtain⟨n,hn⟩:=ih _ _ h;exact⟨n+1,by simp only[whN,ht,hb];exact hn⟩|ct E2=>obtain⟨n,hn⟩:=ih _ _ h;exact⟨n+1,by simp only[whN,ht,hb];exact hn⟩|bk E2=>exact⟨1,by simp only[whN,ht,hb];exact h⟩|rt E2 x=>exact⟨1,by simp only[whN,ht,hb];exact h⟩|xc E2 c=>exact⟨1,by simp only[whN,ht,hb];exact h⟩
def at'{α:Type}(L:List (Option α))(j:Nat):Option α:=(L[j]?).join
def clr{α:Type}:List Nat->List (Option α)->List (Option α)
 |[],L=>L|j::R,L=>clr R (L.set j none)
def back{α:Type}:List Nat->List (Option α)->List (Option α)->List (Option α)
 |j::R,q::B,L=>back R B (L.set j q)|_,_,L=>L
def KQ(k:Nat)(R:List Nat)(E:En):En:=List.replicate k none++R.map (at' E)
def J5(k:Nat)(R:List Nat)(B E:En):En:=back R (B.drop k) (clr R E)
def lcL(tg:Tg)(t:Ts)(c:Ex):List D->En->List Sd->Option (Res (List Sd))
 |[],B,ao=>some (.ok B ao)
 |d::ds,B,ao=>match tg.put d B with
  |none=>none|some B=>bnd (t B) λB x=>if x then bnd (c B) λB y=>lcL tg t c ds B (ao++[y])else lcL tg t c ds B ao
def mkL(o:Own)(E:En)(xs:List Sd):Option (Res Sd):=
 if o=.dp then(if xs.all xk then some (.ok E (.dp,.lst (xs.map (·.2))))else none)else some (.ok E (.rt,.lst (xs.map (·.2))))
def cLC(o:Own)(k:Nat)(R:List Nat)(it:Ev (List D))(tg:Tg)(t:Ts)(c:Ex):Ex:=λE=>bnd (it E) λE ds=>
 match lcL tg t c ds (KQ k R E) []with
 |some (.ok B xs)=>mkL o (J5 k R B E) xs|some (.exc B e)=>some (.exc (J5 k R B E) e)|none=>none
def JQ:Option (Option Sd)->Bool
 |some (some (_,.lst _))=>true|_=>false
def qw(f:List D->D->Option (List D))(i:Nat)(c:Ex):Sm:=λE=>if JQ E[i]? then ofE (c E) λE x=>match E[i]? with
 |some (some (o,.lst xs))=>if o=.no then none else(match f xs x.2 with
  |some ys=>some (.nx (E.set i (some (if o=.dp/\xk x then .dp else .rt,.lst ys))))
  |none=>none)
 |_=>none
 else none
def qQ:List D->D->Option (List D):=λxs d=>if xs.length<big then some (xs++[d])else none
def J4:D->Option D
 |.int i=>some (.int i)|.bl k=>some (.int (if k then 1 else 0))|.str z=>if z.length<=640 then(PySem.intText? z).map .int else none|_=>none
def J7:Sd->Option Sd:=λx=>match x.2 with
 |.lst xs=>if q9 x then some (.rt,.lst xs)else none|.tup xs=>if q9 x then some (.rt,.lst xs)else none|_=>none
def Jj:Sd->Option Sd:=λx=>match x.2 with
 |.lst xs=>if q9 x then some (.no,.tup xs)else none|.tup xs=>if q9 x then some (.no,.tup xs)else none|_=>none
def bls:List D->Option (List Bool)
 |[]=>some []|.bl b::ds=>(bls ds).map (b :: ·)|_=>none
def wkv:D->Option D
 |.lst ds=>(bls ds).map λbs=>.bl (bs.all id)|_=>none
def seqOf:D->Option (List D)
 |.lst xs=>some xs|.tup xs=>some xs|.str z=>if z.cps.size<=big then some (z.cps.toList.map λc=>.str ⟨#[c]⟩)else none|_=>none
def itS(c:Ex):Ev (List D):=λE=>bnd (c E) λE x=>val E (seqOf x.2)
def xq(i:Int):Bool:=decide (-(2 ^ 62)<=i)&&decide (i<2 ^ 62)
def jZ(lo hi:Int):List D:=(List.range (hi - lo).toNat).map λ(k:Nat)=>.int (lo+(k:Int))
def vY(c:Ex):Ev (List D):=λE=>bnd (c E) λE x=>match x.2 with
 |.int j=>if xq j/\j.toNat<=big then some (.ok E (jZ 0 j))else none|_=>none
def itR2(c d:Ex):Ev (List D):=λE=>bnd (c E) λE x=>bnd (d E) λE y=>match x.2,y.2 with
 |.int i,.int j=>if xq i/\xq j/\(j - i).toNat<=big then some (.ok E (jZ i j))else none|_,_=>none
def Qv(c:Ex):Ex:=λE=>bnd (c E) λE x=>match x.2 with
 |.int j=>if xq j/\j.toNat<=big then some (.ok E (.rt,.lst (jZ 0 j)))else none|_=>none
abbrev Fn:=List Sd->Option (Res Sd)
def fn(n:Nat)(b:Sm):Fn:=λxs=>match b (xs.map some++List.replicate (n - xs.length) none)with
 |some (.rt E x)=>some (.ok E x)|some (.nx E)=>some (.ok E (.dp,.non))|some (.xc E c)=>some (.exc E c)|_=>none
def letAll(xs:List Sd):List Sd:=xs.map λx=>(.no,x.2)
def jK(f:Fn)(cs:List Ex):Ex:=λE=>bnd (q5 cs E) λE xs=>match f (letAll xs)with
 |some (.ok _ y)=>some (.ok E y)|some (.exc _ c)=>some (.exc E c)|none=>none
end Q
namespace Q
open PySem PySem.Spec PyProof.Rows L2 L3
mutual
noncomputable def V0:D->Int
 |.int i=>hashInt i|.tup xs=>reduceHash (Builtin.Tuple.tupleHashOf (hashDs xs))|_=>4238894112
noncomputable def hashDs:List D->List Int
 |[]=>[]|a::x=>V0 a::hashDs x
end
def Kd:Type:={ d:D // jV 6 d=true }
instance:DecidableEq Kd:=λa b=>Classical.propDecidable (a=b)
abbrev Ent:=Kd×Addr×Value
def qV(a:Addr)(es:List Ent)(ep:Nat):HO:=.ext λh=>∃o ds,h.get? a=some o/\o.ExactDict/\o.data=.dict ds ep/\ds.toList=es.map λx=>(⟨V0 x.1.1,.ref x.2.1,x.2.2⟩:DictEntry)
mutual
noncomputable def PuR(K:Frag)(H:Hp):D->V->Prop
 |.non,v=>v=.non|.int i,v=>v=.int i|.tup ds,v=>∃a xs,v=.ref a/\SqT K H a xs/\PuRs K H ds xs|_,_=>False
noncomputable def PuRs(K:Frag)(H:Hp):List D->List V->Prop
 |[],xs=>xs=[]|d::ds,xs=>∃x r,xs=x::r/\PuR K H d x/\PuRs K H ds r
end
def DcN(K:Frag)(H:Hp)(a:Addr)(ks:List D)(vs:List V):Prop:=∃(es:List Ent) (ep:Nat),H a=some (qV a es ep)/\(a==sysModules)=false/\es.length<=sizeLine/\(es.map (·.1)).Nodup/\ks=es.map (·.1.1)/\(∀x∈es,PuR K H x.1.1 (.ref x.2.1))/\Vals vs (es.map (·.2.2))
def DcI(H:Hp)(a:Addr)(ks:List D)(vs:List V):Prop:=∃(kv:List (Int×V)) (m:Str),H a=some (.dK (kv.map λp=>(Sum.inl p.1,p.2)))/\ks=.str m::kv.map (λp=>D.int p.1)/\vs=.non::kv.map (·.2)
def DcA(K:Frag)(H:Hp)(a:Addr)(ks:List D)(vs:List V):Prop:=DcN K H a ks vs\/DcI H a ks vs
theorem DcA.un{K:Frag}{H:Hp}{a:Addr}{kvs:List (D×D)}{vs:List V}(h:DcA K H a (kvs.map (·.1)) vs)(hu:unm kvs=true):DcN K H a (kvs.map (·.1)) vs:=by
 rcases h with h|⟨kv,m,_,h,_⟩
 ·exact h
 ·cases kvs with
  |nil=>cases h
  |cons p r=>
   obtain⟨k,d⟩:=p;rw[List.map_cons]at h;injection h with h1 _;have h1:k=.str m:=h1;subst h1;cases hu
def wzb(K:Frag)(a:Addr)(xs:List V):Prop:=∃(ah:Array Value) (n:Nat),K.lookup a=some { cls:=.type "list",data:=.seq ah n }/\ah.size<=sizeLine/\Vals xs ah.toList
def wv2(K:Frag)(H:Hp)(a:Addr)(xs:List V):Prop:=(∃o,H a=some (.frz o (.lst xs)))\/wzb K a xs
def LsR(K:Frag)(H:Hp)(a:Addr)(xs:List V):Prop:=Rd H a (.lst xs)\/wzb K a xs
theorem LsR.of{K:Frag}{H:Hp}{a:Addr}{xs:List V}(h:wv2 K H a xs):LsR K H a xs:=h.imp .inr id
theorem LsR.sq{K:Frag}{H:Hp}{a:Addr}{xs:List V}(h:LsR K H a xs):SqL K H a xs:=by
 rcases h with h|⟨ah,n,h1,h2,h3⟩
 ·exact .inl h
 ·exact .inr ⟨_,ah,n,h1,rfl,rfl,rfl,h2,h3⟩
theorem LsR.is{X:Cx}{pins:List (Addr×Obj)}{O:L2.St}{H:Hp}{s:Shared}{a:Addr}{xs:List V}(I:L2.Inv X pins O H s)(h:LsR X.K H a xs):xs.length<=sizeLine/\∃(ah:List Value) (n:Nat),Vals xs ah/\s.heap.get? a=some { cls:=.type "list",data:=.seq ah.toArray n }:=by
 rcases h with h|⟨ah,n,h1,h2,h3⟩
 ·obtain⟨z,ah,n,r,e⟩:=h.ok I.hok;exact⟨z,ah,n,r,e⟩
 ·have hl:=h3.length;simp only[Xj]at hl;exact⟨⋯,ah.toList,n,h3,by simpa using I.kIn a _ h1⟩
def ExD(K:Frag)(H:Hp)(c:Str)(v:V):Prop:=∃x o C,v=.ref x/\H x=some (.frz o (.ext λ_=>True))/\ExAt K x o C/\nsIn K mainGlobals c=some (some (.ref C))
mutual
noncomputable def RepL(K:Frag)(H:Hp)(g:Bool):D->V->List Addr->Prop
 |.non,v,as=>v=.non/\as=[]|.bl b,v,as=>v=.bl b/\as=[]|.int i,v,as=>v=.int i/\as=[]|.str z,v,as=>v=.str z/\as=[]/\z.length<=sizeLine|.tup ds,v,as=>∃a xs,v=.ref a/\SqT K H a xs/\RepA K H g ds xs as|.lst ds,v,as=>∃a xs bs,v=.ref a/\RepA K H g ds xs bs/\((H a=some (.lst xs)/\as=a::bs)\/(g=true/\wv2 K H a xs/\as=bs))|.dct kvs,v,as=>∃a xs bs,v=.ref a/\RepP K H g kvs xs bs/\DcA K H a (kvs.map (·.1)) xs/\as=a::bs|.obj c _,v,as=>as=[]/\ExD K H c v
noncomputable def RepA(K:Frag)(H:Hp)(g:Bool):List D->List V->List Addr->Prop
 |[],xs,as=>xs=[]/\as=[]|d::ds,xs,as=>∃x r bs cs,xs=x::r/\as=bs++cs/\RepL K H g d x bs/\RepA K H g ds r cs
noncomputable def RepP(K:Frag)(H:Hp)(g:Bool):List (D×D)->List V->List Addr->Prop
 |[],xs,as=>xs=[]/\as=[]|(_,d)::ds,xs,as=>∃x r bs cs,xs=x::r/\as=bs++cs/\RepL K H g d x bs/\RepP K H g ds r cs
end
def RepR(K:Frag)(H:Hp):D->V->List Addr->Prop
 |.lst ds,v,as=>∃a xs bs,v=.ref a/\RepA K H true ds xs bs/\H a=some (.lst xs)/\as=a::bs|.dct kvs,v,as=>∃a xs bs,v=.ref a/\RepP K H true kvs xs bs/\DcA K H a (kvs.map (·.1)) xs/\as=a::bs|_,_,_=>False
def RepO(K:Frag)(H:Hp):Own->D->V->List Addr->Prop
 |.no=>RepL K H true|.rt=>RepR K H|.dp=>RepL K H false
section
variable {K:Frag}{H H':Hp}
def Kp(H H':Hp)(as:List Addr):Prop:=(∀a xs,H a=some (.tup xs)->H' a=some (.tup xs))/\(∀a o u,H a=some (.frz o u)->H' a=some (.frz o u))/\∀a∈as,∀ob,H a=some ob->H' a=some ob
theorem Kp.left{as bs:List Addr}(k:Kp H H' (as++bs)):Kp H H' as:=⟨k.1,k.2.1,λa ha=>k.2.2 a (ll9 _ ha)⟩
theorem Kp.right{as bs:List Addr}(k:Kp H H' (as++bs)):Kp H H' bs:=⟨k.1,k.2.1,λa ha=>k.2.2 a (lr9 _ ha)⟩
theorem Kp.tail{a:Addr}{bs:List Addr}(k:Kp H H' (a::bs)):Kp H H' bs:=⟨k.1,k.2.1,λb hb=>k.2.2 b (lc9 _ hb)⟩
theorem Kp.tupT{as:List Addr}{a:Addr}{xs:List V}(k:Kp H H' as)(h:SqT K H a xs):SqT K H' a xs:=by
 rcases h with(h|⟨o,h⟩)|h
 ·exact .inl (.inl (k.1 a xs h))
 ·exact .inl (.inr ⟨o,k.2.1 a o _ h⟩)
 ·exact .inr h
theorem Kp.frzL{as:List Addr}{a:Addr}{xs:List V}(k:Kp H H' as)(h:wv2 K H a xs):wv2 K H' a xs:=by
 rcases h with⟨o,h⟩|h
 ·exact .inl ⟨o,k.2.1 a o _ h⟩
 ·exact .inr h
mutual
theorem PuR.kp{as:List Addr}(k:Kp H H' as):∀{d:D} {v:V},PuR K H d v->PuR K H' d v
 |.non,_,h=>by unfold PuR at h ⊢;exact h|.int _,_,h=>by unfold PuR at h ⊢;exact h
 |.tup ds,_,h=>by
  unfold PuR at h ⊢;obtain⟨a,xs,e,s,r⟩:=h;exact⟨a,xs,e,k.tupT s,PuRs.kp k r⟩
 |.bl _,_,h=>by unfold PuR at h;exact h.elim|.str _,_,h=>by unfold PuR at h;exact h.elim|.lst _,_,h=>by unfold PuR at h;exact h.elim|.dct _,_,h=>by unfold PuR at h;exact h.elim|.obj _ _,_,h=>by unfold PuR at h;exact h.elim
theorem PuRs.kp{as:List Addr}(k:Kp H H' as):∀{ds:List D} {xs:List V},PuRs K H ds xs->PuRs K H' ds xs
 |[],_,h=>by unfold PuRs at h ⊢;exact h
 |d::ds,_,h=>by
  unfold PuRs at h ⊢;obtain⟨x,r,e,h1,h2⟩:=h;exact⟨x,r,e,PuR.kp k h1,PuRs.kp k h2⟩
end
theorem Kp.dcn{a:Addr}{bs:List Addr}{ks:List D}{vs:List V}(k:Kp H H' (a::bs))(h:DcN K H a ks vs):DcN K H' a ks vs:=by
 obtain⟨es,ep,e,h1,h2,h3,h4,h5,h6⟩:=h;exact⟨es,ep,k.2.2 a X7 _ e,h1,h2,h3,h4,λx hx=>PuR.kp k (h5 x hx),h6⟩
theorem Kp.dca{a:Addr}{bs:List Addr}{ks:List D}{vs:List V}(k:Kp H H' (a::bs))(h:DcA K H a ks vs):DcA K H' a ks vs:=by
 rcases h with h|⟨kv,m,e,h⟩
 ·exact .inl (k.dcn h)
 ·exact .inr ⟨kv,m,k.2.2 a X7 _ e,h⟩
theorem Kp.of_same{as:List Addr}(s:k8 H H'):Kp H H' as:=⟨λa xs h=>s a _ h,λa o u h=>s a _ h,λa _ ob h=>s a ob h⟩
mutual
theorem RepL.kp{g:Bool}:∀{d:D} {v:V} {as:List Addr},RepL K H g d v as->Kp H H' as->RepL K H' g d v as
 | .non,_,_,h,_=>by unfold RepL at h ⊢;exact h| .bl _,_,_,h,_=>by unfold RepL at h ⊢;exact h| .int _,_,_,h,_=>by unfold RepL at h ⊢;exact h| .str _,_,_,h,_=>by unfold RepL at h ⊢;exact h
 | .tup ds,_,_,h,k=>by
  unfold RepL at h ⊢;obtain⟨a,xs,e,s,r⟩:=h;exact⟨a,xs,e,k.tupT s,RepA.kp r k⟩
 | .lst ds,_,_,h,k=>by
  unfold RepL at h ⊢;obtain⟨a,xs,bs,e,r,q⟩:=h;refine⟨a,xs,bs,e,?_,?_⟩
  ·rcases q with⟨_,rfl⟩|⟨_,_,rfl⟩
   ·exact RepA.kp r k.tail
   ·exact RepA.kp r k
  ·rcases q with⟨h1,rfl⟩|⟨hg,h1,rfl⟩
   ·exact .inl ⟨k.2.2 a X7 _ h1,rfl⟩
   ·exact .inr ⟨hg,k.frzL h1,rfl⟩
 |.dct kvs,_,_,h,k=>by
  unfold RepL at h ⊢;obtain⟨a,xs,bs,e,r,q,rfl⟩:=h;exact⟨a,xs,bs,e,RepP.kp r k.tail,k.dca q,rfl⟩
 |.obj _ _,_,_,h,k=>by
  unfold RepL at h ⊢;obtain⟨e,x,o,C,h1,h2,h3⟩:=h;exact⟨e,x,o,C,h1,k.2.1 _ _ _ h2,h3⟩
theorem RepA.kp{g:Bool}:∀{ds:List D} {xs:List V} {as:List Addr},RepA K H g ds xs as->Kp H H' as->RepA K H' g ds xs as
 |[],_,_,h,_=>by unfold RepA at h ⊢;exact h
 |d::ds,_,_,h,k=>by
  unfold RepA at h ⊢;obtain⟨x,r,bs,cs,e1,rfl,h1,h2⟩:=h;exact⟨x,r,bs,cs,e1,rfl,RepL.kp h1 k.left,RepA.kp h2 k.right⟩
theorem RepP.kp{g : Bool}: ∀{ds : List (D × D)} {xs : List V} {as : List Addr}, RepP K H g ds xs as -> Kp H H' as -> RepP K H' g ds xs as
  | [], _, _, h, _=>by unfold RepP at h ⊢; exact h
  | (q, d)::ds, _, _, h, k=>by
    unfold RepP at h ⊢;obtain⟨x, r, bs, cs, e1, rfl, h1, h2⟩:= h;exact⟨x, r, bs, cs, e1, rfl, RepL.kp h1 k.left, RepP.kp h2 k.right⟩
end
mutual
theorem RepL.wk:∀{d:D} {v:V} {as:List Addr},RepL K H false d v as->RepL K H true d v as
 |.non,_,_,h=>by unfold RepL at h ⊢;exact h|.bl _,_,_,h=>by unfold RepL at h ⊢;exact h|.int _,_,_,h=>by unfold RepL at h ⊢;exact h|.str _,_,_,h=>by unfold RepL at h ⊢;exact h
 |.tup ds,_,_,h=>by
  unfold RepL at h ⊢;obtain⟨a,xs,e,s,r⟩:=h;exact⟨a,xs,e,s,RepA.wk r⟩
 |.lst ds,_,_,h=>by
  unfold RepL at h ⊢;obtain⟨a,xs,bs,e,r,q⟩:=h;refine⟨a,xs,bs,e,RepA.wk r,?_⟩;rcases q with q|⟨z,_⟩
  ·exact .inl q
  ·cases z
 |.dct kvs,_,_,h=>by
  unfold RepL at h ⊢;obtain⟨a,xs,bs,e,r,q,z⟩:=h;exact⟨a,xs,bs,e,RepP.wk r,q,z⟩
 |.obj _ _,_,_,h=>by unfold RepL at h ⊢;exact h
theorem RepA.wk:∀{ds:List D} {xs:List V} {as:List Addr},RepA K H false ds xs as->RepA K H true ds xs as
 |[],_,_,h=>by unfold RepA at h ⊢;exact h
 |d::ds,_,_,h=>by
  unfold RepA at h ⊢;obtain⟨x,r,bs,cs,e1,e2,h1,h2⟩:=h;exact⟨x,r,bs,cs,e1,e2,RepL.wk h1,RepA.wk h2⟩
theorem RepP.wk : ∀{ds : List (D × D)} {xs : List V} {as : List Addr}, RepP K H false ds xs as -> RepP K H true ds xs as
  | [], _, _, h=>by unfold RepP at h ⊢; exact h
  | (q, d)::ds, _, _, h=>by
    unfold RepP at h ⊢;obtain⟨x, r, bs, cs, e1, e2, h1, h2⟩:= h;exact⟨x, r, bs, cs, e1, e2, RepL.wk h1, RepP.wk h2⟩
end
mutual
theorem RepL.al{g:Bool}:∀{d:D} {v:V} {as:List Addr},RepL K H g d v as->∀a∈as,(∃xs,H a=some (.lst xs))\/(∃ φ,H a=some (.ext φ))\/∃kvs,H a=some (.dK kvs)
 | .non,_,_,h=>by unfold RepL at h;rw[h.2];exact λ_ z=>nomatch z| .bl _,_,_,h=>by unfold RepL at h;rw[h.2];exact λ_ z=>nomatch z| .int _,_,_,h=>by unfold RepL at h;rw[h.2];exact λ_ z=>nomatch z| .str _,_,_,h=>by unfold RepL at h;rw[h.2.1];exact λ_ z=>nomatch z
 | .tup ds,_,_,h=>by
  unfold RepL at h;obtain⟨a,xs,e,s,r⟩:=h;exact RepA.al r
 | .lst ds,_,_,h=>by
  unfold RepL at h;obtain⟨a,xs,bs,e,r,q⟩:=h;rcases q with⟨h1,rfl⟩|⟨_,_,rfl⟩
  ·intro b hb;rcases aD hb with rfl|hb
   ·exact .inl ⟨_,h1⟩
   ·exact RepA.al r b hb
  ·exact RepA.al r
 | .dct kvs,_,_,h=>by
  unfold RepL at h;obtain⟨a,xs,bs,e,r,q,rfl⟩:=h;intro b hb;rcases aD hb with rfl|hb
  ·rcases q with⟨es,ep,q,_⟩|⟨kv,m,q,_⟩
   ·exact .inr (.inl ⟨_,q⟩)
   ·exact .inr (.inr ⟨_,q⟩)
  ·exact RepP.al r b hb
 |.obj _ _,_,_,h=>by unfold RepL at h;rw[h.1];exact λ_ z=>nomatch z
theorem RepA.al{g:Bool}:∀{ds:List D} {xs:List V} {as:List Addr},RepA K H g ds xs as->∀a∈as,(∃xs,H a=some (.lst xs))\/(∃ φ,H a=some (.ext φ))\/∃kvs,H a=some (.dK kvs)
 |[],_,_,h=>by unfold RepA at h;rw[h.2];exact λ_ z=>nomatch z
 |d::ds,_,_,h=>by
  unfold RepA at h;obtain⟨x,r,bs,cs,e1,rfl,h1,h2⟩:=h;intro a ha;rcases aA ha with ha|ha
  ·exact RepL.al h1 a ha
  ·exact RepA.al h2 a ha
theorem RepP.al{g : Bool}: ∀{ds : List (D × D)} {xs : List V} {as : List Addr}, RepP K H g ds xs as -> ∀a ∈ as, (∃xs, H a = some (.lst xs)) \/ (∃ φ, H a = some (.ext φ)) \/ ∃kvs, H a = some (.dK kvs)
  | [], _, _, h=>by unfold RepP at h; rw[h.2]; exact λ_ z=>nomatch z
  | (_, d)::ds, _, _, h=>by
    unfold RepP at h;obtain⟨x, r, bs, cs, e1, rfl, h1, h2⟩:= h;intro a ha;rcases aA ha with ha|ha
    · exact RepL.al h1 a ha
    · exact RepP.al h2 a ha
end
mutual
theorem RepL.pu{g g':Bool}:∀{d:D} {v:V} {as:List Addr},RepL K H g d v as->d.pure=true->as=[]/\RepL K H g' d v []
 |.non,_,_,h,_=>by unfold RepL at h ⊢;exact⟨h.2,h.1,rfl⟩|.bl _,_,_,h,_=>by unfold RepL at h ⊢;exact⟨h.2,h.1,rfl⟩|.int _,_,_,h,_=>by unfold RepL at h ⊢;exact⟨h.2,h.1,rfl⟩|.str _,_,_,h,_=>by unfold RepL at h ⊢;exact⟨h.2.1,h.1,rfl,h.2.2⟩
 |.tup ds,_,_,h,p=>by
  unfold RepL at h ⊢;obtain⟨a,xs,e,s,r⟩:=h;obtain⟨z,r'⟩:=RepA.pu (g':=g') r (by unfold D.pure at p;exact p);exact⟨z,a,xs,e,s,r'⟩
 |.lst ds,_,_,h,p=>by unfold D.pure at p;cases p|.dct ds,_,_,h,p=>by unfold D.pure at p;cases p|.obj _ _,_,_,h,p=>by unfold D.pure at p;cases p
theorem RepA.pu{g g':Bool}:∀{ds:List D} {xs:List V} {as:List Addr},RepA K H g ds xs as->D.pures ds=true->as=[]/\RepA K H g' ds xs []
 |[],_,_,h,_=>by unfold RepA at h ⊢;exact⟨h.2,h.1,rfl⟩
 |d::ds,_,_,h,p=>by
  unfold RepA at h ⊢;unfold D.pures at p;rw[Bool.and_eq_true]at p;obtain⟨x,r,bs,cs,e1,rfl,h1,h2⟩:=h;obtain⟨rfl,q1⟩:=RepL.pu (g':=g') h1 p.1;obtain⟨rfl,q2⟩:=RepA.pu (g':=g') h2 p.2;exact⟨rfl,x,r,[],[],e1,rfl,q1,q2⟩
end
theorem RepR.wk:∀{d:D} {v:V} {as:List Addr},RepR K H d v as->RepL K H true d v as
 |.lst ds,_,_,h=>by
  obtain⟨a,xs,bs,e,r,q,z⟩:=h;unfold RepL;exact⟨a,xs,bs,e,r,.inl ⟨q,z⟩⟩
 |.dct kvs,_,_,h=>by
  obtain⟨a,xs,bs,e,r,q,z⟩:=h;unfold RepL;exact⟨a,xs,bs,e,r,q,z⟩
theorem RepR.kp:∀{d:D} {v:V} {as:List Addr},RepR K H d v as->Kp H H' as->RepR K H' d v as
 |.lst ds,_,_,h,k=>by
  obtain⟨a,xs,bs,e,r,q,rfl⟩:=h;exact⟨a,xs,bs,e,r.kp k.tail,k.2.2 a X7 _ q,rfl⟩
 |.dct kvs,_,_,h,k=>by
  obtain⟨a,xs,bs,e,r,q,rfl⟩:=h;exact⟨a,xs,bs,e,r.kp k.tail,k.dca q,rfl⟩
theorem RepO.wk:∀{o:Own} {d:D} {v:V} {as:List Addr},RepO K H o d v as->RepL K H true d v as
 |.no,_,_,_,h=>h|.rt,_,_,_,h=>RepR.wk h|.dp,_,_,_,h=>RepL.wk h
theorem RepO.kp:∀{o:Own} {d:D} {v:V} {as:List Addr},RepO K H o d v as->Kp H H' as->RepO K H' o d v as
 |.no,_,_,_,h,k=>RepL.kp h k|.rt,_,_,_,h,k=>RepR.kp h k|.dp,_,_,_,h,k=>RepL.kp h k
end
structure Sl where
 o:Own
 d:D
 v:V
 as:List Addr
def Sl.own(x:Sl):List Addr:=match x.o with
 |.no=>[]|.rt=>x.as.take 1|.dp=>x.as
def Sl.frz(x:Sl):List Addr:=match x.o with
 |.no=>x.as|.rt=>x.as.drop 1|.dp=>[]
theorem Sl.parts(x:Sl):x.own++x.frz=x.as:=by
 unfold Sl.own Sl.frz;cases x.o with|no=>rfl|rt=>exact List.take_append_drop 1 x.as|dp=>exact Xr _
theorem Sl.own_as{x:Sl}{a:Addr}(h:a∈x.own):a∈x.as:=by rw[<-x.parts];exact ll9 _ h
theorem Sl.frz_as{x:Sl}{a:Addr}(h:a∈x.frz):a∈x.as:=by rw[<-x.parts];exact lr9 _ h
theorem Sl.as_of{x:Sl}{a:Addr}(h:a∈x.as):a∈x.own\/a∈x.frz:=by rw[<-x.parts]at h;exact aA h
def Sl.let(x:Sl):Sl:={ x with o:=.no }
abbrev Ls:=List (Option Sl)
def j7(L:Ls):List Addr:=L.flatMap λx=>x.elim [] Sl.own
def jY(L:Ls):List Addr:=L.flatMap λx=>x.elim [] Sl.frz
@[simp] theorem wji:j7 []=[]:=rfl
@[simp] theorem vx5:jY []=[]:=rfl
@[simp] theorem kw (x:Sl)(L:Ls):j7 (some x::L)=x.own++j7 L:=by simp[j7]
@[simp] theorem v9 (x:Sl)(L:Ls):jY (some x::L)=x.frz++jY L:=by simp[jY]
@[simp] theorem qk3 (L:Ls):j7 (none::L)=j7 L:=by simp[j7]
@[simp] theorem kxp (L:Ls):jY (none::L)=jY L:=by simp[jY]
@[simp] theorem jX (L T:Ls):j7 (L++T)=j7 L++j7 T:=by simp[j7]
@[simp] theorem kZ (L T:Ls):jY (L++T)=jY L++jY T:=by simp[jY]
theorem mem_owned{L:Ls}{a:Addr}:a∈j7 L↔∃x,some x∈L/\a∈x.own:=by
 unfold j7;rw[List.mem_flatMap];constructor
 ·rintro ⟨y,hy,h⟩;cases y with|none=>exact nomatch h|some x=>exact⟨x,hy,h⟩
 ·rintro ⟨x,hx,h⟩;exact⟨some x,hx,h⟩
theorem mem_frozen{L:Ls}{a:Addr}:a∈jY L↔∃x,some x∈L/\a∈x.frz:=by
 unfold jY;rw[List.mem_flatMap];constructor
 ·rintro ⟨y,hy,h⟩;cases y with|none=>exact nomatch h|some x=>exact⟨x,hy,h⟩
 ·rintro ⟨x,hx,h⟩;exact⟨some x,hx,h⟩
def Sl.ok(K:Frag)(H:Hp)(x:Sl):Prop:=RepO K H x.o x.d x.v x.as
theorem Sl.ok.al{K:Frag}{H:Hp}{x:Sl}(h:x.ok K H):∀a∈x.as,(∃xs,H a=some (.lst xs))\/(∃ φ,H a=some (.ext φ))\/∃kvs,H a=some (.dK kvs):=(RepO.wk h).al
theorem Sl.ok.some{K:Frag}{H:Hp}{x:Sl}(h:x.ok K H){a:Addr}(ha:a∈x.as):H a≠none:=λz=>by
 rcases h.al a ha with⟨xs,e⟩|⟨xs,e⟩|⟨xs,e⟩<;>(rw[z]at e;cases e)
structure World (K:Frag)(H:Hp)(L:Ls):Prop where
 ok:∀x,some x∈L->x.ok K H
 nd:(j7 L).Nodup
 ds:∀a∈j7 L,a∉jY L
structure Step (H:Hp)(L:Ls)(H':Hp)(L':Ls):Prop where
 keep:∀a ob,H a=some ob->a∉j7 L->H' a=some ob
 own:∀a∈j7 L',a∈j7 L\/H a=none
 frz:∀a∈jY L',a∈jY L\/a∈j7 L\/H a=none
section
variable {K:Frag}{H H1 H2 H':Hp}{L L1 L2' L' T:Ls}{x y:Sl}
theorem World.own_al(w:World K H L){a:Addr}(h:a∈j7 L):(∃xs,H a=some (.lst xs))\/(∃ φ,H a=some (.ext φ))\/∃kvs,H a=some (.dK kvs):=by
 obtain⟨x,hx,ha⟩:=mem_owned.mp h;exact(w.ok x hx).al a (Sl.own_as ha)
theorem World.own_some(w:World K H L){a:Addr}(h:a∈j7 L):H a≠none:=by
 obtain⟨x,hx,ha⟩:=mem_owned.mp h;exact(w.ok x hx).some (Sl.own_as ha)
theorem World.frz_some(w:World K H L){a:Addr}(h:a∈jY L):H a≠none:=by
 obtain⟨x,hx,ha⟩:=mem_frozen.mp h;exact(w.ok x hx).some (Sl.frz_as ha)
theorem Step.refl:Step H L H L:=⟨λ_ _ h _=>h,λ_ h=>.inl h,λ_ h=>.inl h⟩
theorem Step.trans(a:Step H L H1 L1)(b:Step H1 L1 H2 L2'):Step H L H2 L2' where
 keep:=λc ob h hn=>b.keep c ob (a.keep c ob h hn) λz=>(a.own c z).elim hn λe=>by rw[h]at e;cases e
 own:=λc hc=>by
  rcases b.own c hc with z|z
  ·exact a.own c z
  ·by_cases h:c∈j7 L
   ·exact .inl h
   ·refine .inr ?_;cases e:H c with|none=>rfl|some ob=>rw[a.keep c ob e h]at z;cases z
 frz:=λc hc=>by
  rcases b.frz c hc with z|z|z
  ·exact a.frz c z
  ·exact .inr (a.own c z)
  ·by_cases h:c∈j7 L
   ·exact .inr (.inl h)
   ·refine .inr (.inr ?_);cases e:H c with|none=>rfl|some ob=>rw[a.keep c ob e h]at z;cases z
theorem Step.kp(a:Step H L H' L')(w:World K H L){as:List Addr}(h:∀b∈as,b∉j7 L):Kp H H' as:=by
 have no:∀b ob,H b=some ob->(∀xs,ob≠.lst xs)->(∀ φ,ob≠.ext φ)->(∀kvs,ob≠.dK kvs)->H' b=some ob:=λb ob e h1 h2 h3=>a.keep b ob e λz=>by
  rcases w.own_al z with⟨xs,q⟩|⟨es,q⟩|⟨es,q⟩
  ·rw[e]at q;cases q;exact h1 _ rfl
  ·rw[e]at q;cases q;exact h2 _ rfl
  ·rw[e]at q;cases q;exact h3 _ rfl
 exact⟨λb xs e=>no b _ e (λ_ z=>(nomatch z)) (λ_ z=>(nomatch z)) (λ_ z=>(nomatch z)),λb o u e=>no b _ e (λ_ z=>(nomatch z)) (λ_ z=>(nomatch z)) (λ_ z=>(nomatch z)),λb hb ob e=>a.keep b ob e (h b hb)⟩
theorem Step.frame(a:Step H L H' L')(w:World K H (L++T))(w':World K H' L')(wL:World K H L):World K H' (L'++T):=by
 have nd:=w.nd;rw [jX,Xe]at nd;have dis:∀b∈j7 L,b∉j7 T:=λb hb hT=>nd.2.2 b hb b hT rfl
 have jn:∀x,some x∈T->x.ok K H:=λx hx=>w.ok x (lr9 _ hx)
 have nT:∀x,some x∈T->∀b∈x.as,b∉j7 L:=λx hx b hb hL=>by
  rcases Sl.as_of hb with z|z
  ·exact dis b hL (mem_owned.mpr ⟨x,hx,z⟩)
  ·refine w.ds b (by rw[jX];exact ll9 _ hL) ?_;rw[kZ];exact lr9 _ (mem_frozen.mpr ⟨x,hx,z⟩)
 refine⟨λx hx=>?_,?_,λb hb=>?_⟩
 ·rcases aA hx with hx|hx
  ·exact w'.ok x hx
  ·exact(jn x hx).kp (a.kp wL (nT x hx))
 ·rw[jX,Xe];refine⟨w'.nd,nd.2.1,λb hb c hc e=>?_⟩;subst e;obtain⟨x,hx,gh⟩:=mem_owned.mp hc;rcases a.own b hb with z|z
  ·exact dis b z hc
  ·exact(jn x hx).some (Sl.own_as gh) z
 ·rw[jX]at hb;rw[kZ];intro hf;rcases aA hb with hb|hb
  ·rcases aA hf with hf|hf
   ·exact w'.ds b hb hf
   ·obtain⟨x,hx,gh⟩:=mem_frozen.mp hf;rcases a.own b hb with z|z
    ·exact nT x hx b (Sl.frz_as gh) z
    ·exact(jn x hx).some (Sl.frz_as gh) z
  ·rcases aA hf with hf|hf
   ·obtain⟨x,hx,gh⟩:=mem_owned.mp hb;rcases a.frz b hf with z|z|z
    ·exact w.ds b (by rw[jX];exact lr9 _ hb) (by rw[kZ];exact ll9 _ z)
    ·exact dis b z hb
    ·exact(jn x hx).some (Sl.own_as gh) z
   ·exact w.ds b (by rw[jX];exact lr9 _ hb) (by rw[kZ];exact lr9 _ hf)
theorem World.left(w:World K H (L++T)):World K H L:=by
 have nd:=w.nd;rw[jX,Xe]at nd;exact⟨λx hx=>w.ok x (ll9 _ hx),nd.1,λa ha hf=>w.ds a (by rw[jX];exact ll9 _ ha) (by rw[kZ];exact ll9 _ hf)⟩
theorem World.right(w:World K H (L++T)):World K H T:=by
 have nd:=w.nd;rw[jX,Xe]at nd;exact⟨λx hx=>w.ok x (lr9 _ hx),nd.2.1,λa ha hf=>w.ds a (by rw[jX];exact lr9 _ ha) (by rw[kZ];exact lr9 _ hf)⟩
theorem World.comm(w:World K H (L++T)):World K H (T++L):=by
 refine⟨λx hx=>w.ok x ?_,?_,λa ha hf=>w.ds a ?_ ?_⟩
 ·rcases aA hx with h|h
  ·exact lr9 _ h
  ·exact ll9 _ h
 ·have nd:=w.nd;rw[jX,Xe]at nd ⊢;exact⟨nd.2.1,nd.1,λa ha b hb e=>nd.2.2 b hb a ha e.symm⟩
 ·rw[jX]at ha ⊢;rcases aA ha with h|h
  ·exact lr9 _ h
  ·exact ll9 _ h
 ·rw[kZ]at hf ⊢;rcases aA hf with h|h
  ·exact lr9 _ h
  ·exact ll9 _ h
theorem World.tail{q:Option Sl}(w:World K H (q::L)):World K H L:=World.right (L:=[q]) w
theorem World.head(w:World K H (some x::L)):x.ok K H:=w.ok x X7
theorem World.apart(w:World K H (some x::L)):∀a∈x.as,a∉j7 L:=λa ha hL=>by
 rcases Sl.as_of ha with z|z
 ·have nd:=w.nd;rw[kw,Xe]at nd;exact nd.2.2 a z a hL rfl
 ·exact w.ds a (by rw[kw];exact lr9 _ hL) (by rw[v9];exact ll9 _ z)
theorem World.cons(w:World K H L)(h:x.ok K H)(n:x.own.Nodup)(h1:∀a∈x.own,a∉j7 L)(h2:∀a∈x.own,a∉jY L)(h3:∀a∈x.frz,a∉j7 L)(h4:∀a∈x.own,a∉x.frz):World K H (some x::L):=by
 refine⟨λy hy=>?_,?_,λa ha hf=>?_⟩
 ·rcases aD hy with z|z
  ·cases z;exact h
  ·exact w.ok y z
 ·rw[kw,Xe];exact⟨n,w.nd,λa ha b hb e=>by subst e;exact h1 a ha hb⟩
 ·rw[kw]at ha;rw[v9]at hf;rcases aA ha with ha|ha
  ·rcases aA hf with hf|hf
   ·exact h4 a ha hf
   ·exact h2 a ha hf
  ·rcases aA hf with hf|hf
   ·exact h3 a hf ha
   ·exact w.ds a ha hf
theorem World.consNo(w:World K H L)(h:x.ok K H)(ho:x.o=.no)(h3:∀a∈x.as,a∉j7 L):World K H (some x::L):=by
 have e1:x.own=[]:=by unfold Sl.own;rw[ho]
 have e2:x.frz=x.as:=by unfold Sl.frz;rw[ho]
 exact w.cons h (by rw[e1];exact Y4) (by rw[e1];exact λ_ z=>nomatch z) (by rw[e1];exact λ_ z=>nomatch z) (by rw[e2];exact h3) (by rw[e1];exact λ_ z=>nomatch z)
theorem World.consPu(w:World K H L)(h:x.ok K H)(e:x.as=[]):World K H (some x::L):=by
 have e1:∀a,a∉x.own:=λa ha=>by have:=Sl.own_as ha;rw[e]at this;exact nomatch this
 have e2:∀a,a∉x.frz:=λa ha=>by have:=Sl.frz_as ha;rw[e]at this;exact nomatch this
 have e3:x.own=[]:=List.eq_nil_iff_forall_not_mem.mpr e1;exact w.cons h (by rw[e3];exact Y4) (λa z=>absurd z (e1 a)) (λa z=>absurd z (e1 a)) (λa z=>absurd z (e2 a)) (λa z=>absurd z (e1 a))
theorem jqo{L:Ls}{i:Nat}{q:Option Sl}(h:some y∈L.set i q):q=some y\/some y∈L:=by
 rcases List.mem_or_eq_of_mem_set h with z|z
 ·exact .inr z
 ·exact .inl z.symm
theorem YK{i:Nat}{a:Addr}(h:a∈j7 (L.set i (some x))):a∈x.own\/a∈j7 L:=by
 obtain⟨y,hy,ha⟩:=mem_owned.mp h;rcases jqo hy with z|z
 ·cases z;exact .inl ha
 ·exact .inr (mem_owned.mpr ⟨y,z,ha⟩)
theorem jkk{i:Nat}{a:Addr}(h:a∈jY (L.set i (some x))):a∈x.frz\/a∈jY L:=by
 obtain⟨y,hy,ha⟩:=mem_frozen.mp h;rcases jqo hy with z|z
 ·cases z;exact .inl ha
 ·exact .inr (mem_frozen.mpr ⟨y,z,ha⟩)
theorem jqk:∀{L:Ls} {i:Nat},(x.own++j7 L).Nodup->(j7 (L.set i (some x))).Nodup
 |[],_,h=>by simp
 |q::L,0,h=>by
  rw[List.set_cons_zero,kw];have e:j7 (q::L)=q.elim [] Sl.own++j7 L:=by simp[j7]
  rw[e,Xe]at h;obtain⟨h1,h2,h3⟩:=h;rw[Xe]at h2 ⊢;exact⟨h1,h2.2.1,λa ha b hb=>h3 a ha b (lr9 _ hb)⟩
 |q::L,i+1,h=>by
  rw[List.set_cons_succ];have e:∀M:Ls,j7 (q::M)=q.elim [] Sl.own++j7 M:=λM=>by simp[j7]
  rw[e]at h ⊢;rw[Xe]at h;obtain⟨h1,h2,h3⟩:=h;rw[Xe]at h2;rw[Xe];refine⟨h2.1,jqk (by rw[Xe];exact⟨h1,h2.2.1,λa ha b hb=>h3 a ha b (lr9 _ hb)⟩),λa ha b hb e=>?_⟩;subst e;rcases YK hb with z|z
  ·exact h3 a z a (ll9 _ ha) rfl
  ·exact h2.2.2 a ha a z rfl
theorem World.set{i:Nat}(w:World K H (some x::L)):World K H (L.set i (some x)):=by
 refine⟨λy hy=>?_,jqk (by have:=w.nd;rwa [kw]at this),λa ha hf=>?_⟩
 ·rcases jqo hy with z|z
  ·cases z;exact w.head
  ·exact w.ok y (lc9 _ z)
 ·refine w.ds a ?_ ?_
  ·rw[kw];exact List.mem_append.mpr (YK ha)
  ·rw[v9];exact List.mem_append.mpr (jkk hf)
theorem Step.set{i:Nat}:Step H (some x::L) H (L.set i (some x)) where
 keep:=λ_ _ h _=>h
 own:=λa ha=>.inl (by rw[kw];exact List.mem_append.mpr (YK ha))
 frz:=λa ha=>.inl (by rw[v9];exact List.mem_append.mpr (jkk ha))
theorem Step.drop{q:Option Sl}:Step H (q::L) H L where
 keep:=λ_ _ h _=>h
 own:=λa ha=>.inl (by rw[show(q::L:Ls)=[q]++L from rfl,jX];exact lr9 _ ha)
 frz:=λa ha=>.inl (by rw[show(q::L:Ls)=[q]++L from rfl,kZ];exact lr9 _ ha)
theorem vx{i:Nat}(h:L[i]?=some (some x)):some x∈L:=List.mem_of_getElem? h
theorem QZ(x:Sl):x.let.own=[]/\x.let.frz=x.as/\x.let.as=x.as:=⟨rfl,rfl,rfl⟩
theorem kvf{i:Nat}{a:Addr}(h:a∈j7 (L.set i (some x.let))):a∈j7 L:=by
 rcases YK h with z|z
 ·exact nomatch z
 ·exact z
theorem kxk:∀{L:Ls} {i:Nat},(j7 L).Nodup->(∀a∈j7 L,a∉jY L)->L[i]?=some (some x)->∀a∈x.as,a∉j7 (L.set i (some x.let))
 | [],_,_,_,h,_,_=>by simp at h
 | q::L,0,nd,ds,h,a,ha=>by
  have e:q=some x:=by simpa using h
  subst e;rw[List.set_cons_zero,kw];intro hm;have hm:a∈j7 L:=by simpa [QZ]using hm
  rcases Sl.as_of ha with z|z
  ·rw[kw,Xe]at nd;exact nd.2.2 a z a hm rfl
  ·exact ds a (by rw[kw];exact lr9 _ hm) (by rw[v9];exact ll9 _ z)
 | q::L,i+1,nd,ds,h,a,ha=>by
  have h:L[i]?=some (some x):=by simpa using h
  rw[List.set_cons_succ];have e:∀M:Ls,j7 (q::M)=q.elim [] Sl.own++j7 M:=λM=>by simp[j7]
  have f:jY (q::L)=q.elim [] Sl.frz++jY L:=by simp[jY]
  rw[e];intro hm;rw[e,Xe]at nd;rcases aA hm with hm|hm
  ·rcases Sl.as_of ha with z|z
   ·exact nd.2.2 a hm a (mem_owned.mpr ⟨x,vx h,z⟩) rfl
   ·exact ds a (by rw[e];exact ll9 _ hm) (by rw[f];exact lr9 _ (mem_frozen.mpr ⟨x,vx h,z⟩))
  ·exact kxk (L:=L) nd.2.1 (λb hb hf=>ds b (by rw[e];exact lr9 _ hb) (by rw[f];exact lr9 _ hf)) h a ha hm
theorem V7(h:x.ok K H):x.let.ok K H:=RepO.wk h
theorem World.let{i:Nat}(w:World K H L)(h:L[i]?=some (some x)):World K H (L.set i (some x.let)):=by
 have out:=kxk w.nd w.ds h;refine⟨λy hy=>?_,jqk (by rw[(QZ x).1];exact w.nd),λa ha hf=>?_⟩
 ·rcases jqo hy with z|z
  ·cases z;exact V7 (w.ok x (vx h))
  ·exact w.ok y z
 ·rcases jkk hf with z|z
  ·exact out a z ha
  ·exact w.ds a (kvf ha) z
theorem World.read{i:Nat}(w:World K H L)(h:L[i]?=some (some x)):World K H (some x.let::L.set i (some x.let)):=
 (w.let h).consNo (V7 (w.ok x (vx h))) rfl (kxk (x:=x) w.nd w.ds h)
theorem Step.read{i:Nat}(h:L[i]?=some (some x)):Step H L H (some x.let::L.set i (some x.let)) where
 keep:=λ_ _ h _=>h
 own:=λa ha=>.inl (by rw[kw,(QZ x).1]at ha;exact kvf ha)
 frz:=λa ha=>by
  have hx:=vx h;have q:∀a∈x.as,a∈jY L\/a∈j7 L\/H a=none:=λa ha=>by
   rcases Sl.as_of ha with z|z
   ·exact .inr (.inl (mem_owned.mpr ⟨x,hx,z⟩))
   ·exact .inl (mem_frozen.mpr ⟨x,hx,z⟩)
  rw[v9]at ha;rcases aA ha with z|z
  ·exact q a z
  ·rcases jkk z with z|z
   ·exact q a z
   ·exact .inl z
end
inductive Mt:En->L2.St->Ls->Prop
 |nil:Mt [] [] []
 |un {E:En} {O:L2.St} {L:Ls} {y:Option V}:Mt E O L->Mt (none::E) (y :: O) (none::L)
 |cons {E:En} {O:L2.St} {L:Ls} {x:Sl}:Mt E O L->Mt (some (x.o,x.d)::E) (some x.v :: O) (some x::L)
theorem Mt.get:∀{E:En} {O:L2.St} {L:Ls} {i:Nat} {o:Own} {d:D},Mt E O L->E[i]?=some (some (o,d))->∃x,L[i]?=some (some x)/\x.o=o/\x.d=d/\O[i]?=some (some x.v)
 |_,_,_,_,_,_,.nil,h=>by simp at h|_,_,_,0,_,_,.un _,h=>by simp at h|_,_,_,i+1,_,_,.un m,h=>by simpa using m.get (i:=i) (by simpa using h)
 |_,_,_,0,_,_,.cons (x:=x) m,h=>by
  simp only[List.getElem?_cons_zero,Option.some.injEq,Prod.mk.injEq]at h;exact⟨x,by simp,h.1,h.2,by simp⟩
 |_,_,_,i+1,_,_,.cons m,h=>by simpa using m.get (i:=i) (by simpa using h)
theorem Mt.set{x:Sl}:∀{E:En} {O:L2.St} {L:Ls} (i:Nat),Mt E O L->Mt (E.set i (some (x.o,x.d))) (O.set i (some x.v)) (L.set i (some x))
 |_,_,_,_,.nil=>.nil|_,_,_,0,.un m=>.cons m|_,_,_,i+1,.un m=>.un (m.set i)|_,_,_,0,.cons m=>.cons m|_,_,_,i+1,.cons m=>.cons (m.set i)
theorem Mt.let{x:Sl}:∀{E:En} {O:L2.St} {L:Ls} {i:Nat},Mt E O L->L[i]?=some (some x)->Mt (E.set i (some (.no,x.d))) O (L.set i (some x.let))
 |_,_,_,_,.nil,h=>by simp at h|_,_,_,0,.un m,h=>by simp at h|_,_,_,i+1,.un m,h=>.un (m.let (i:=i) (by simpa using h))
 |_,_,_,0,.cons (x:=y) m,h=>by
  have e:y=x:=by simpa using h
  subst e;exact .cons (x:=y.let) m
 |_,_,_,i+1,.cons m,h=>.cons (m.let (i:=i) (by simpa using h))
theorem Mt.len:∀{E:En} {O:L2.St} {L:Ls},Mt E O L->E.length=O.length/\L.length=O.length
 |_,_,_,.nil=>⟨rfl,rfl⟩|_,_,_,.un m=>by simp[m.len]|_,_,_,.cons m=>by simp[m.len]
def sls(L:Ls):List Sl:=L.filterMap id
theorem KJ(L:Ls):j7 L=(sls L).flatMap Sl.own:=by
 induction L with
 |nil=>rfl
 |cons q L ih=>
  cases q with|none=>rw[qk3,ih];rfl|some x=>rw[kw,ih];rfl
theorem Q9(L:Ls):jY L=(sls L).flatMap Sl.frz:=by
 induction L with
 |nil=>rfl
 |cons q L ih=>
  cases q with|none=>rw[kxp,ih];rfl|some x=>rw[v9,ih];rfl
theorem mem_sls{L:Ls}{x:Sl}:x∈sls L↔some x∈L:=by simp[sls]
@[simp] theorem Qq (L T:Ls):sls (L++T)=sls L++sls T:=by simp[sls]
@[simp] theorem qxu (L:Ls):sls (none::L)=sls L:=rfl
@[simp] theorem kzb (x:Sl)(L:Ls):sls (some x::L)=x::sls L:=rfl
@[simp] theorem wva:sls []=[]:=rfl
@[simp] theorem wvb (T:List Sl):sls (T.map some)=T:=by simp[sls]
@[simp] theorem vqb (k:Nat):sls (List.replicate k none)=[]:=by
 induction k with|zero=>rfl|succ k ih=>rw[List.replicate_succ,qxu,ih]
theorem ZZ{α β:Type}(f:α->List β){l l':List α}(h:l.Sublist l'):(l.flatMap f).Sublist (l'.flatMap f):=by
 induction h with|slnil=>exact Yp _|cons a _ ih=>rw[Zd];exact List.Sublist.trans ih (List.sublist_append_right _ _)|cons_cons a _ ih=>rw[Zd,Zd];exact List.Sublist.append (Yp _) ih
section
variable {K:Frag}{H H':Hp}{L L' M M':Ls}
theorem World.same(w:World K H L)(p:(sls L).Perm (sls L')):World K H L':=by
 have po:(j7 L).Perm (j7 L'):=by rw[KJ,KJ];exact p.flatMap_right _
 have pf:(jY L).Perm (jY L'):=by rw[Q9,Q9];exact p.flatMap_right _
 exact⟨λx hx=>w.ok x (mem_sls.mp (p.mem_iff.mpr (mem_sls.mpr hx))),po.nodup_iff.mp w.nd,λa ha hf=>w.ds a (po.mem_iff.mpr ha) (pf.mem_iff.mpr hf)⟩
theorem Step.same(s:Step H L H' L')(p:(sls L).Perm (sls M))(p':(sls L').Perm (sls M')):Step H M H' M':=by
 have po:(j7 L).Perm (j7 M):=by rw[KJ,KJ];exact p.flatMap_right _
 have pf:(jY L).Perm (jY M):=by rw[Q9,Q9];exact p.flatMap_right _
 have po':(j7 L').Perm (j7 M'):=by rw[KJ,KJ];exact p'.flatMap_right _
 have pf':(jY L').Perm (jY M'):=by rw[Q9,Q9];exact p'.flatMap_right _
 exact⟨λa ob h hn=>s.keep a ob h λz=>hn (po.mem_iff.mp z),λa ha=>(s.own a (po'.mem_iff.mpr ha)).imp (λz=>po.mem_iff.mp z) id,
  λa ha=>(s.frz a (pf'.mem_iff.mpr ha)).imp (λz=>pf.mem_iff.mp z) λz=>z.imp (λz=>po.mem_iff.mp z) id⟩
theorem World.sub(w:World K H L)(p:(sls L').Sublist (sls L)):World K H L':=by
 refine⟨λx hx=>w.ok x (mem_sls.mp (p.subset (mem_sls.mpr hx))),?_,λa ha hf=>w.ds a ?_ ?_⟩
 ·have:=w.nd;rw[KJ]at this ⊢;exact(ZZ _ p).nodup this
 ·rw[KJ]at ha ⊢;exact(ZZ _ p).subset ha
 ·rw[Q9]at hf ⊢;exact(ZZ _ p).subset hf
theorem Step.sub(s:Step H L H' L')(p:(sls M).Sublist (sls L')):Step H L H' M:=by
 refine⟨s.keep,λa ha=>s.own a ?_,λa ha=>s.frz a ?_⟩
 ·rw[KJ]at ha ⊢;exact(ZZ _ p).subset ha
 ·rw[Q9]at ha ⊢;exact(ZZ _ p).subset ha
end
theorem jx2:∀{L:Ls} {j:Nat},(sls (at' L j::L.set j none)).Perm (sls L)
 | [],j=>by simp[at',sls]
 | q::L,0=>by
  cases q with|none=>simp[at',sls]|some x=>simp[at',sls]
 | q::L,j+1=>by
  have ih:=jx2 (L:=L) (j:=j);have e:at' (q::L) (j+1)=at' L j:=by simp[at']
  rw[e,List.set_cons_succ];have e2:∀(a b:Option Sl) (M:Ls),(sls (a::b::M)).Perm (sls (b::a::M)):=λa b M=>by
   cases a<;>cases b<;>simp[sls]
   exact List.Perm.swap ..
  refine(e2 _ _ _).trans ?_;cases q with|none=>simpa [sls]using ih|some y=>simpa [sls]using ih
theorem qjb:∀{R:List Nat} {L:Ls},R.Nodup->(sls (R.map (at' L)++clr R L)).Perm (sls L)
 | [],L,_=>by simp[clr]
 | j::R,L,h=>by
  rw[List.nodup_cons]at h;have e:R.map (at' L)=R.map (at' (L.set j none)):=by
   apply Z3;intro i hi;have:j≠i:=λe=>h.1 (e▸hi)
   unfold at';rw[Ye this]
  rw[List.map_cons,List.cons_append,clr,e];have ih:=qjb (R:=R) (L:=L.set j none) h.2;refine List.Perm.trans ?_ (jx2 (L:=L) (j:=j));cases hq:at' L j with|none=>simpa [sls]using ih|some x=>simpa [sls]using ih
theorem qww{α:Type}:∀{R:List Nat} {L:List (Option α)},(clr R L).length=L.length
 |[],_=>rfl|j::R,L=>by rw[clr,qww,Yt]
theorem qwx{α:Type}:∀{R:List Nat} {L:List (Option α)} {j:Nat},j∈R->at' (clr R L) j=none
 | [],_,_,h=>by cases h
 | i :: R,L,j,h=>by
  rw [clr]
  by_cases hR:j∈R
  ·exact qwx hR
  ·have e:j=i:=by simpa [hR]using h
   subst e;have gen:∀{R:List Nat} {M:List (Option α)},j∉R->at' (clr R M) j=at' M j:=by
    intro R
    induction R with
    |nil=>intro M _;rfl
    |cons r R ih=>
     intro M h;rw[Y6,not_or]at h;rw[clr,ih h.2];unfold at';rw[Ye (Zi h.1)]
   rw[gen hR];unfold at'
   by_cases hl:j<L.length
   ·rw[Z4 hl];rfl
   ·rw[List.set_eq_of_length_le ⋯,Yw ⋯];rfl
theorem kwn:∀{R:List Nat} {B L:Ls},R.Nodup->(∀j∈R,at' L j=none)->(∀j∈R,j<L.length)->B.length=R.length->(sls (back R B L)).Perm (sls (B++L))
 | [],B,L,_,_,_,hl=>by
  have:B=[]:=by simpa using hl
  subst this;simp [back]
 | j :: R,[],L,_,_,_,hl=>by simp at hl
 | j :: R,q::B,L,hn,hz,hr,hl=>by
  rw [List.nodup_cons]at hn;rw [back];have hj:=hr j X7;have ih:=kwn (R:=R) (B:=B) (L:=L.set j q) hn.2 (λi hi=>by
   have:j≠i:=λe=>hn.1 (e▸hi)
   unfold at';rw [Ye this];exact hz i (lc9 _ hi)) (λi hi=>by rw[Yt];exact hr i (lc9 _ hi)) (by simpa using hl)
  refine ih.trans ?_;have sp:∀{M:Ls} {i:Nat},at' M i=none->i<M.length->(sls (M.set i q)).Perm (sls (q::M)):=by
   intro M
   induction M with
   | nil=>intro i _ h;simp at h
   | cons r M ihM=>
    intro i h1 h2;cases i with
    | zero=>
     have:r=none:=by simpa [at']using h1
     subst this;cases q<;>simp[sls]
    | succ i=>
     have:=ihM (i:=i) (by simpa [at']using h1) (by simpa using h2);rw[List.set_cons_succ];cases r with
     | none=>cases q<;>simpa [sls]using this
     | some y=>
      cases q with
      |none=>simpa [sls]using this
      |some x=>
       simp only[kzb]at this ⊢;exact(this.cons y).trans (List.Perm.swap ..)
  rw[Qq,List.cons_append];have h1:=sp (hz j X7) hj;have h2:(sls B++sls (L.set j q)).Perm (sls B++sls (q::L)):=h1.append_left _;refine h2.trans ?_;cases q with
  |none=>simp
  |some x=>
   simp only[kzb,Qq];exact List.perm_middle
section
variable {K:Frag}{H H1 H2 H':Hp}{L L1 L' T:Ls}{x y:Sl}
theorem XV(p:L.Perm L'):(j7 L).Perm (j7 L'):=p.flatMap_right _
theorem jwv(p:L.Perm L'):(jY L).Perm (jY L'):=p.flatMap_right _
theorem World.perm(w:World K H L)(p:L.Perm L'):World K H L':=
 ⟨λx hx=>w.ok x (p.mem_iff.mpr hx),(XV p).nodup_iff.mp w.nd,λa ha hf=>w.ds a ((XV p).mem_iff.mpr ha) ((jwv p).mem_iff.mpr hf)⟩
theorem Step.perm(s : Step H L H' L'){M M' : Ls}(p : L.Perm M)(p' : L'.Perm M'): Step H M H' M':=
  ⟨λa ob h hn=>s.keep a ob h λz=>hn ((XV p).mem_iff.mp z),
   λa ha=>(s.own a ((XV p').mem_iff.mpr ha)).imp (λz=>(XV p).mem_iff.mp z) id,
   λa ha=>(s.frz a ((jwv p').mem_iff.mpr ha)).imp (λz=>(jwv p).mem_iff.mp z) λz=>z.imp (λz=>(XV p).mem_iff.mp z) id⟩
theorem Step.frm(s:Step H L H' L'):Step H (L++T) H' (L'++T) where
 keep:=λa ob h hn=>s.keep a ob h λz=>hn (by rw[jX];exact ll9 _ z)
 own:=λa ha=>by
  rw[jX]at ha ⊢;rcases aA ha with z|z
  ·exact(s.own a z).imp (ll9 _) id
  ·exact .inl (lr9 _ z)
 frz:=λa ha=>by
  rw[kZ]at ha ⊢;rw[jX];rcases aA ha with z|z
  ·exact(s.frz a z).imp (ll9 _) λz=>z.imp (ll9 _) id
  ·exact .inl (lr9 _ z)
theorem wkk(w:World K H (T++L))(s:Step H L H' L')(w':World K H' L'):World K H' (T++L')/\Step H (T++L) H' (T++L'):=by
 have w1:World K H (L++T):=w.comm;exact⟨(s.frame w1 w' w1.left).comm,s.frm.perm List.perm_append_comm List.perm_append_comm⟩
end
theorem ex8{α β γ:Type}{P:Prop}{a b c d e:α->β->γ->Prop}(h:∃x y z,a x y z/\b x y z/\c x y z/\d x y z/\e x y z)(f:∀x y z,a x y z->b x y z->c x y z->d x y z->e x y z->P):P:=
 h.elim λx h=>h.elim λy h=>h.elim λz h=>f x y z h.1 h.2.1 h.2.2.1 h.2.2.2.1 h.2.2.2.2
theorem ex7{α β γ:Type}{P:Prop}{a b c d:α->β->γ->Prop}(h:∃x y z,a x y z/\b x y z/\c x y z/\d x y z)(f:∀x y z,a x y z->b x y z->c x y z->d x y z->P):P:=
 h.elim λx h=>h.elim λy h=>h.elim λz h=>f x y z h.1 h.2.1 h.2.2.1 h.2.2.2
theorem qx{X:Cx}{e:Expr}{t t':TE}(h:PE X e t)(w:∀ O H Q,t' O H Q->t O H Q):PE X e t':=λpins s O H Q I q=>h pins s O H Q I (w O H Q q)
theorem qqu{X:Cx}{e:Expr}{t t':TT}(h:PT X e t)(w:∀ O H Q,t' O H Q->t O H Q):PT X e t':=λpins s O H Q I q=>h pins s O H Q I (w O H Q q)
theorem zQ{X:Cx}{e:Stmt}{t t':TS}(h:PS X e t)(w:∀D O H,t' D O H->t D O H):PS X e t':=λpins s O H D I q=>h pins s O H D I (w D O H q)
theorem qqv{X:Cx}{e:List Stmt}{t t':TS}(h:PSs X e t)(w:∀D O H,t' D O H->t D O H):PSs X e t':=λpins s O H D I q=>h pins s O H D I (w D O H q)
structure Fx0 where
 K:Frag
 mg:Str->Option Value
 EX:XK
def Xc{α:Type}(Z:Fx0)(O:L2.St)(H:Hp)(L:Ls)(r:Res α):Prop:=∀E' c,r=.exc E' c->∀C L' H',Z.mg c=some (.ref C)->Mt E' O L'->World Z.K H' L'->Step H L H' L'->Z.EX (.ref C) none H'
theorem Xc.step{α:Type}{Z:Fx0}{O:L2.St}{H H1:Hp}{L L1:Ls}{r:Res α}(x:Xc Z O H L r)(s:Step H L H1 L1):Xc Z O H1 L1 r:=λE' c e C L' H' hm m w s'=>x E' c e C L' H' hm m w (s.trans s')
theorem Xc.map{α β:Type}{Z:Fx0}{O:L2.St}{H:Hp}{L:Ls}{r:Res α}{E':En}{c:Str}(x:Xc Z O H L r)(e:r=.exc E' c):Xc Z O H L (.exc E' c:Res β):=λE1 c1 e1=>by
 injection e1 with h1 h2;subst h1 h2;exact x _ _ e
def tQ(Z:Fx0)(q:Bool)(c:Ex):TE:=fun O H Q=>∃E L r,Mt E O L/\World Z.K H L/\c E=some r/\Xc Z O H L r /\
 ∀E' a,r=.ok E' a->∀(x:Sl) L' H',x.o=a.1->x.d=a.2->Mt E' O L'->World Z.K H' (some x::L')->Step H L H' (some x::L')->(q=true->k8 H H'/\∀b∈x.own,H b=none)->Q x.v H'
def Src(H:Hp)(L:Ls)(as:List Addr):Prop:=∀b∈as,b∈jY L\/b∈j7 L\/H b=none
theorem Src.back{H H1:Hp}{L L1:Ls}{as:List Addr}(h:Src H1 L1 as)(s:Step H L H1 L1):Src H L as:=λb hb=>by
 rcases h b hb with z|z|z
 ·exact s.frz b z
 ·exact .inr (s.own b z)
 ·by_cases ho:b∈j7 L
  ·exact .inr (.inl ho)
  ·refine .inr (.inr ?_);cases e:H b with|none=>rfl|some ob=>rw[s.keep b ob e ho]at z;cases z
def tV(Z:Fx0)(q:Bool)(c:Ex):TE:=fun O H Q=>∃E L r,Mt E O L/\World Z.K H L/\c E=some r/\Xc Z O H L r /\
 ∀E' a,r=.ok E' a->∀(x:Sl) L' H',x.o=a.1->x.d=a.2->Mt E' O L'->World Z.K H' L'->x.ok Z.K H'->(∀b∈x.frz,b∉j7 L')->Src H L x.as->Step H L H' L'->(q=true->k8 H H')->Q x.v H'
def QE(X:Cx)(Z:Fx0)(q:Bool)(c:Ex)(e:Expr):Prop:=PE X e (tQ Z q c)
def QV(X:Cx)(Z:Fx0)(q:Bool)(c:Ex)(e:Expr):Prop:=PE X e (tV Z q c)
section
variable {X:Cx}{Z:Fx0}{q qa qb:Bool}{a b c:Ex}{e ea eb:Expr}{pos:Pos}{α:Type}{O:L2.St}{H:Hp}{L:Ls}{E:En}
theorem wK{β:Type}{m:Option (Res α)}{F:En->α->Option (Res β)}{r:Res β}(h:bnd m F=some r):(∃E1 x,m=some (.ok E1 x)/\F E1 x=some r)\/∃E1 c,m=some (.exc E1 c)/\r=.exc E1 c:=by
 cases m with
 |none=>cases h
 |some q=>
  cases q with|ok E1 x=>exact .inl ⟨E1,x,rfl,h⟩|exc E1 c=>exact .inr ⟨E1,c,rfl,(oq9 h).symm⟩
theorem Wk{F:En->Sd->Option (Res α)}{r:Res α}{G:VK}(m:Mt E O L)(w:World Z.K H L)(h:bnd (a E) F=some r)(xc:Xc Z O H L r)
  (k:∀E1 s,F E1 s=some r->∀(x:Sl) L1 H1,x.o=s.1->x.d=s.2->Mt E1 O L1->World Z.K H1 (some x::L1)->Step H L H1 (some x::L1)->(q=true->k8 H H1/\∀b∈x.own,H b=none)->G x.v H1):tQ Z q a O H G:=by
 rcases wK h with⟨E1,s,h1,h2⟩|⟨E1,c,h1,h2⟩
 ·exact⟨E,L,_,m,w,h1,(λ_ _ z=>by cases z),λE' s' z x L' H' e1 e2 m' w' st sm=>by
   injection z with z1 z2;subst z1 z2;exact k _ _ h2 x L' H' e1 e2 m' w' st sm⟩
 ·exact⟨E,L,_,m,w,h1,xc.map h2,λE' s' z=>by cases z⟩
theorem vk{F:En->Sd->Option (Res α)}{r:Res α}{G:VK}(m:Mt E O L)(w:World Z.K H L)(h:bnd (a E) F=some r)(xc:Xc Z O H L r)
  (k:∀E1 s,F E1 s=some r->∀(x:Sl) L1 H1,x.o=s.1->x.d=s.2->Mt E1 O L1->World Z.K H1 L1->x.ok Z.K H1->(∀b∈x.frz,b∉j7 L1)->Src H L x.as->Step H L H1 L1->(q=true->k8 H H1)->G x.v H1):tV Z q a O H G:=by
 rcases wK h with⟨E1,s,h1,h2⟩|⟨E1,c,h1,h2⟩
 ·exact⟨E,L,_,m,w,h1,(λ_ _ z=>by cases z),λE' s' z x L' H' e1 e2 m' w' ok fr sr st sm=>by
   injection z with z1 z2;subst z1 z2;exact k _ _ h2 x L' H' e1 e2 m' w' ok fr sr st sm⟩
 ·exact⟨E,L,_,m,w,h1,xc.map h2,λE' s' z=>by cases z⟩
theorem Q5{x:Sl}{K:Frag}{H1 H2:Hp}{L1 L2':Ls}(ok:x.ok K H1)(fr:∀b∈x.frz,b∉j7 L1)(st:Step H1 L1 H2 L2')(sm:k8 H1 H2):x.ok K H2/\∀b∈x.frz,b∉j7 L2':=
 ⟨RepO.kp ok (Kp.of_same sm),λb hb ho=>(st.own b ho).elim (fr b hb) λz=>ok.some (Sl.frz_as hb) z⟩
theorem J3{x:Option α}{r:Res α}(h:val E x=some r):∃y,x=some y/\r=.ok E y:=by
 cases x with|none=>cases h|some y=>exact⟨y,rfl,(oq9 h).symm⟩
theorem kkt{x:Sl}{H1:Hp}{L1:Ls}(st:Step H L H1 (some x::L1)):Src H L x.as:=λb hb=>by
 rcases Sl.as_of hb with z|z
 ·exact .inr (st.own b (by rw[kw];exact ll9 _ z))
 ·exact st.frz b (by rw[v9];exact ll9 _ z)
theorem j5(h:QE X Z q c e):QV X Z q (vE c) e:=qx h fun O H Q b7=>ex8 b7 λE L r m w hc xc k=>
 Wk m w hc xc λE1 s h1 x L1 H1 e1 e2 m1 w1 st sm=>by
  cases oq9 h1;exact k _ _ rfl x.let L1 H1 rfl e2 m1 w1.tail (V7 w1.head) (λb hb=>w1.apart b hb) (kkt (x:=x) st) (st.trans Step.drop) λhq=>(sm hq).1
theorem Q6{x:Sl}{H1:Hp}{L1:Ls}(st:Step H L H1 L1)(sr:Src H L x.as)(ho:x.own=[]):Step H L H1 (some x::L1) where
 keep:=st.keep
 own:=λb hb=>by rw[kw,ho]at hb;exact st.own b hb
 frz:=λb hb=>by
  rw[v9]at hb;rcases aA hb with z|z
  ·exact sr b (Sl.frz_as z)
  ·exact st.frz b z
theorem qv8{x:Sl}(h:x.o=.no):x.own=[]:=by unfold Sl.own;rw[h]
theorem Zw{x:Sl}(h:x.o=.no):x.frz=x.as:=by unfold Sl.frz;rw[h]
theorem vve{x:Sl}(h:x.as=[]):x.own=[]:=List.eq_nil_iff_forall_not_mem.mpr λa ha=>by have:=Sl.own_as ha;rw[h]at this;exact nomatch this
theorem jW(h:QV X Z q c e):QE X Z q (cH c) e:=qx h fun O H Q b7=>ex8 b7 λE L r m w hc xc k=>
 vk m w hc xc λE1 s h1 x L1 H1 e1 e2 m1 w1 ok fr sr st sm=>by
  by_cases ho:s.1=.no
  ·rw[X8 ho]at h1;cases oq9 h1;have eo:x.o=.no:=e1.trans ho;exact k _ _ rfl x L1 H1 eo e2 m1 (w1.consNo ok eo λb hb=>fr b (by rw[Zw eo];exact hb)) (Q6 st sr (qv8 eo)) λhq=>⟨sm hq,by rw[qv8 eo];exact λ_ z=>(nomatch z)⟩
  ·rw[Xb ho]at h1
   by_cases hp:s.2.pure=true
   ·rw[X8 hp]at h1;cases oq9 h1;obtain⟨z,rp⟩:=RepL.pu (g':=false) (RepO.wk ok) (by rw[e2];exact hp);exact k _ _ rfl ⟨.dp,x.d,x.v,[]⟩ L1 H1 rfl e2 m1 (w1.consPu rp rfl) (Q6 (x:=⟨.dp,x.d,x.v,[]⟩) st (λb hb=>nomatch hb) rfl) λhq=>⟨sm hq,λ_ z=>(nomatch z)⟩
   ·rw[Xb hp]at h1;cases h1
theorem q_C{d:D}{v:V}(h:PE X e (tC v))(hr:∀H,RepL Z.K H false d v []):QE X Z true (cC d) e:=qx h fun O H Q b7=>ex8 b7 λE L r m w hc xc k=>by
 cases oq9 hc;exact k _ _ rfl ⟨.dp,d,v,[]⟩ L H rfl rfl m (w.consPu (hr H) rfl) (Q6 (x:=⟨.dp,d,v,[]⟩) Step.refl (λb hb=>nomatch hb) rfl) λ_=>⟨λ_ _ z=>z,λ_ z=>(nomatch z)⟩
theorem q_V{i:Nat}(h:PE X e (JZ i)):QE X Z true (cV i) e:=qx h fun O H Q b7=>ex8 b7 λE L r m w hc xc k=>by
 unfold cV at hc
 split at hc
 ·rename_i o d hE;cases oq9 hc;obtain⟨x,h1,h2,h3,h4⟩:=m.get hE;refine⟨x.v,h4,k _ _ rfl x.let _ H rfl h3 ?_ (w.read h1) (Step.read h1) λ_=>⟨λ_ _ z=>z,λ_ z=>(nomatch z)⟩⟩;have:=m.let h1
  rwa [h3]at this
 ·cases hc
theorem vvm:∀{E:En} {O:L2.St} {L:Ls} (j:Nat),Mt E O L->Mt (E.set j none) O (L.set j none):=by
 intro E O L j m
 induction m generalizing j with
 |nil=>exact .nil
 |un m ih=>cases j with|zero=>exact .un m|succ j=>exact .un (ih j)
 |cons m ih=>cases j with|zero=>exact .un m|succ j=>exact .cons (ih j)
theorem kj2{x:Sl}:∀{L:Ls} {i:Nat},L[i]?=some (some x)->(none::L).Perm (some x::L.set i none)
 |[],_,h=>by simp at h
 |q::L,0,h=>by
  have e:q=some x:=by simpa using h
  subst e;exact List.Perm.swap ..
 |q::L,i+1,h=>by
  have:=kj2 (L:=L) (i:=i) (by simpa using h);rw[List.set_cons_succ];exact(List.Perm.swap ..).trans ((this.cons q).trans (List.Perm.swap ..))
theorem WY{i:Nat}(h:PE X e (JZ i)):QE X Z false (cMv i) e:=qx h fun O H Q b7=>ex8 b7 λE L r m w hc xc k=>by
 unfold cMv at hc
 split at hc
 ·rename_i s hE;cases oq9 hc;obtain⟨o,d⟩:=s;obtain⟨x,h1,h2,h3,h4⟩:=m.get hE;have wn:World Z.K H (none::L):=⟨λy hy=>w.ok y (by simpa using hy),by simpa using w.nd,by simpa using w.ds⟩;have sn:Step H L H (none::L):=⟨λ_ _ z _=>z,λa z=>.inl (by simpa using z),λa z=>.inl (by simpa using z)⟩;exact⟨x.v,h4,k _ _ rfl x _ H h2 h3 (vvm i m) (wn.perm (kj2 h1)) (sn.trans (Step.refl.perm (List.Perm.refl _) (kj2 h1))) λz=>(nomatch z)⟩
 ·cases hc
theorem q_vV{i:Nat}(h:PE X e (JZ i)):QV X Z true (vV i) e:=qx h fun O H Q b7=>ex8 b7 λE L r m w hc xc k=>by
 unfold vV at hc
 split at hc
 ·rename_i s hE;cases oq9 hc;obtain⟨o,d⟩:=s;obtain⟨x,h1,h2,h3,h4⟩:=m.get hE;have hx:=vx h1;refine⟨x.v,h4,k _ _ rfl x L H h2 h3 m w (w.ok x hx) (λb hb ho=>w.ds b ho (mem_frozen.mpr ⟨x,hx,hb⟩)) (λb hb=>?_) Step.refl λ_=>λ_ _ z=>z⟩;rcases Sl.as_of hb with z|z
  ·exact .inr (.inl (mem_owned.mpr ⟨x,hx,z⟩))
  ·exact .inl (mem_frozen.mpr ⟨x,hx,z⟩)
 ·cases hc
structure Out (K:Frag)(H H':Hp)(z:Sl)(fr:List Addr):Prop where
 same:k8 H H'
 ok:z.ok K H'
 new:∀b∈z.own,H b=none
 nd:z.own.Nodup
 fr:∀b∈z.frz,b∈fr
def Ad1(K:Frag)(r:V->Hp->VK->Prop)(f:Sd->Option Sd):Prop:=∀(H:Hp) (x:Sl) (s:Sd) (Q:VK),x.ok K H->f (x.o,x.d)=some s->(∀(z:Sl) H',z.o=s.1->z.d=s.2->Out K H H' z x.frz->Q z.v H')->r x.v H Q
def Ad2(K:Frag)(r:R2)(f:Sd->Sd->Option Sd):Prop:=∀(H:Hp) (x y:Sl) (s:Sd) (Q:VK),x.ok K H->y.ok K H->f (x.o,x.d) (y.o,y.d)=some s->(∀(z:Sl) H',z.o=s.1->z.d=s.2->Out K H H' z (x.frz++y.frz)->Q z.v H')->r x.v y.v H Q
theorem jzm{K:Frag}{H H':Hp}{d:D}{v:V}{fr:List Addr}(s:k8 H H')(r:RepL K H' false d v []):Out K H H' ⟨.dp,d,v,[]⟩ fr:=⟨s,r,λ_ h=>(nomatch h),Y4,λ_ h=>(nomatch h)⟩
theorem wZ{H:Hp}:k8 H H:=λ_ _ z=>z
theorem qv{H H1 H2:Hp}(a:k8 H H1)(b:k8 H1 H2):k8 H H2:=λc ob h=>b c ob (a c ob h)
theorem Vx{z:Sl}{fr:List Addr}{H1 H2:Hp}{L1:Ls}(w:World Z.K H1 L1)(st:Step H L H1 L1)(o:Out Z.K H1 H2 z fr)(ap:∀b∈fr,b∉j7 L1)(al:∀b∈fr,H1 b≠none)(sr:Src H L fr):
  World Z.K H2 (some z::L1)/\Step H L H2 (some z::L1):=by
 have w2:World Z.K H2 L1:=⟨λx hx=>RepO.kp (w.ok x hx) (Kp.of_same o.same),w.nd,w.ds⟩;refine⟨w2.cons o.ok o.nd (λb hb ho=>w.own_some ho (o.new b hb)) (λb hb hf=>w.frz_some hf (o.new b hb)) (λb hb=>ap b (o.fr b hb)) (λb hb hf=>al b (o.fr b hf) (o.new b hb)),?_⟩;refine⟨λb ob h hn=>o.same b ob (st.keep b ob h hn),λb hb=>?_,λb hb=>?_⟩
 ·rw[kw]at hb;rcases aA hb with z|z
  ·by_cases ho:b∈j7 L
   ·exact .inl ho
   ·refine .inr ?_;cases e:H b with|none=>rfl|some ob=>have:=o.new b z;rw[st.keep b ob e ho]at this;cases this
  ·exact st.own b z
 ·rw[v9]at hb;rcases aA hb with z|z
  ·exact sr b (o.fr b z)
  ·exact st.frz b z
theorem jx1{as bs:List Addr}(h:Src H L as)(hb:∀b∈bs,b∈as):Src H L bs:=λb z=>h b (hb b z)
theorem vqa{as bs:List Addr}(h:Src H L as)(h':Src H L bs):Src H L (as++bs):=λb z=>(aA z).elim (h b) (h' b)
theorem Jz{H H1:Hp}{b:Addr}(s:k8 H H1)(h:H1 b=none):H b=none:=by
 cases e:H b with|none=>rfl|some ob=>rw[s b ob e]at h;cases h
theorem WK{r:V->Hp->VK->Prop}{f:Sd->Option Sd}(ad:Ad1 Z.K r f){Q:VK}(h:tQ Z q (cF1 f a) O H Q):tUn r (tV Z q a) O H Q:=by
 obtain⟨E,L,R,m,w,hc,xc,k⟩:=h;refine vk m w hc xc λE1 s h1 x L1 H1 e1 e2 m1 w1 ok fr sr st sm=>?_
 obtain⟨z,hz,rfl⟩:=J3 h1;refine ad H1 x z Q ok (by rw[e1,e2];exact hz) λy H' ho hd o=>?_
 obtain⟨w3,fc⟩:=Vx w1 st o fr (λb hb=>ok.some (Sl.frz_as hb)) (jx1 sr λb hb=>Sl.frz_as hb);exact k _ _ rfl y L1 H' ho hd m1 w3 fc λhq=>⟨qv (sm hq) o.same,λb hb=>Jz (sm hq) (o.new b hb)⟩
theorem kqp{r:R2}{f:Sd->Sd->Option Sd}(ad:Ad2 Z.K r f){Q:VK}(h:tQ Z qa (cF2 f a b) O H Q):tOp r (tV Z qa a) (tV Z true b) O H Q:=by
 obtain⟨E,L,R,m,w,hc,xc,k⟩:=h;refine vk m w hc xc λE1 s h1 x L1 H1 e1 e2 m1 w1 ok fr sr st sm=>?_
 refine vk m1 w1 h1 (xc.step st) λE2 s2 h2 y L2 H2 e3 e4 m2 w2 gy tm se c8 dq=>?_
 obtain⟨z,hz,rfl⟩:=J3 h2;have kx:=Q5 ok fr c8 (dq rfl);refine ad H2 x y z Q kx.1 gy (by rw[e1,e2,e3,e4];exact hz) λy' H' ho hd o=>?_
 obtain⟨w3,fc⟩:=Vx w2 (st.trans c8) o (λb hb=>(aA hb).elim (kx.2 b) (tm b)) (λb hb=>(aA hb).elim (λz=>kx.1.some (Sl.frz_as z)) λz=>gy.some (Sl.frz_as z))
  (vqa (jx1 sr λb hb=>Sl.frz_as hb) (jx1 (se.back st) λb hb=>Sl.frz_as hb))
 exact k _ _ rfl y' L2 H' ho hd m2 w3 fc λhq=>⟨qv (sm hq) (qv (dq rfl) o.same),λb hb=>Jz (qv (sm hq) (dq rfl)) (o.new b hb)⟩
theorem qW{op:Operator}{r:R2}{f:Sd->Sd->Option Sd}(ho:OpR X (binaryOp op) r)(ad:Ad2 Z.K r f)(ha:QV X Z qa a ea)(hb:QV X Z true b eb):QE X Z qa (cF2 f a b) (.BinOp ea op eb pos):=
 qx (ww0 ho ha hb) fun O H Q h=>kqp ad h
theorem K0{op:CmpOp}{r:R2}{f:Sd->Sd->Option Sd}(ho:OpR X (compareOp op) r)(ad:Ad2 Z.K r f)(ha:QV X Z qa a ea)(hb:QV X Z true b eb)(hm:behindInMarks op eb=false):QE X Z qa (cF2 f a b) (.Compare ea [op] [eb] pos):=
 qx (vv9 ho ha hb hm) fun O H Q h=>kqp ad h
theorem RepA.get{K:Frag}{H:Hp}{g:Bool}:∀{ds:List D} {xs:List V} {as:List Addr} {i:Nat} {d:D},RepA K H g ds xs as->ds[i]?=some d->∃v bs,xs[i]?=some v/\RepL K H g d v bs/\∀b∈bs,b∈as
 | [],_,_,_,_,_,e=>by simp at e
 | d::ds,_,_,i,d',h,e=>by
  unfold RepA at h;obtain⟨x,r,bs,cs,rfl,rfl,h1,h2⟩:=h;cases i with
  |zero=>
   have e:d=d':=by simpa using e
   subst e;exact⟨x,bs,by simp,h1,λb hb=>ll9 _ hb⟩
  |succ i=>
   obtain⟨v,dn,e1,e2,e3⟩:=RepA.get (i:=i) h2 (by simpa using e);exact⟨v,dn,by simpa using e1,e2,λb hb=>lr9 _ (e3 b hb)⟩
theorem RepA.len{K:Frag}{H:Hp}{g:Bool}:∀{ds:List D} {xs:List V} {as:List Addr},RepA K H g ds xs as->ds.length=xs.length
 |[],_,_,h=>by unfold RepA at h;rw[h.1];rfl
 |d::ds,_,_,h=>by
  unfold RepA at h;obtain⟨x,r,bs,cs,rfl,rfl,h1,h2⟩:=h;simp[RepA.len h2]
theorem items{K:Frag}{H:Hp}{x:Sl}{ds:List D}(ok:x.ok K H)(h:x.d=.lst ds\/x.d=.tup ds):∃a xs bs,x.v=.ref a/\((x.d=.lst ds/\LsR K H a xs)\/(x.d=.tup ds/\SqT K H a xs))/\RepA K H (x.o != .dp) ds xs bs/\(∀b∈bs,b∈x.as)/\(x.o≠.dp->∀b∈bs,b∈x.frz):=by
 obtain⟨o,d,v,as⟩:=x;dsimp only at h;rcases h with rfl|rfl
 ·cases o with
  |no=>
   have ok:RepL K H true (.lst ds) v as:=ok;unfold RepL at ok;obtain⟨a,xs,bs,rfl,r,q⟩:=ok;rcases q with⟨q,rfl⟩|⟨_,q,rfl⟩
   ·exact⟨a,xs,bs,rfl,.inl ⟨rfl,.inl (.inl q)⟩,r,λb hb=>lc9 _ hb,λ_ b hb=>lc9 _ hb⟩
   ·exact⟨a,xs,as,rfl,.inl ⟨rfl,.of q⟩,r,λb hb=>hb,λ_ b hb=>hb⟩
  |rt=>
   obtain⟨a,xs,bs,rfl,r,q,rfl⟩:=(show RepR K H (.lst ds) v as from ok);exact⟨a,xs,bs,rfl,.inl ⟨rfl,.inl (.inl q)⟩,r,λb hb=>lc9 _ hb,λ_ b hb=>by simpa [Sl.frz]using hb⟩
  |dp=>
   have ok:RepL K H false (.lst ds) v as:=ok;unfold RepL at ok;obtain⟨a,xs,bs,rfl,r,q⟩:=ok;rcases q with⟨q,rfl⟩|⟨z,_⟩
   ·exact⟨a,xs,bs,rfl,.inl ⟨rfl,.inl (.inl q)⟩,r,λb hb=>lc9 _ hb,λz=>absurd rfl z⟩
   ·cases z
 ·cases o with
  |no=>
   have ok:RepL K H true (.tup ds) v as:=ok;unfold RepL at ok;obtain⟨a,xs,rfl,q,r⟩:=ok;exact⟨a,xs,as,rfl,.inr ⟨rfl,q⟩,r,λb hb=>hb,λ_ b hb=>hb⟩
  |rt=>exact(show RepR K H (.tup ds) v as from ok).elim
  |dp=>
   have ok:RepL K H false (.tup ds) v as:=ok;unfold RepL at ok;obtain⟨a,xs,rfl,q,r⟩:=ok;exact⟨a,xs,as,rfl,.inr ⟨rfl,q⟩,r,λb hb=>hb,λz=>absurd rfl z⟩
theorem xZ{K:Frag}{H:Hp}{x:Sl}{ds:List D}(ok:x.ok K H)(h:x.d=.lst ds\/x.d=.tup ds)(hl:q9 (x.o,x.d)=true):∃a xs bs,x.v=.ref a/\((x.d=.lst ds/\LsR K H a xs)\/(x.d=.tup ds/\SqT K H a xs))/\RepA K H true ds xs bs/\(∀b∈bs,b∈x.frz):=by
 obtain⟨a,xs,bs,e,q,r,h1,h2⟩:=items ok h
 by_cases ho:x.o=.dp
 ·have hp:D.pures ds=true:=by
   unfold q9 at hl;rw[show(x.o,x.d).1=Own.dp from ho]at hl;have:wxz x.d=ds:=by rcases h with h|h<;>rw[h]<;>rfl
   simpa [this]using hl
  obtain⟨rfl,r'⟩:=RepA.pu (g':=true) r hp;exact⟨a,xs,[],e,q,r',λ_ z=>nomatch z⟩
 ·have:(x.o != Own.dp)=true:=by simpa using ho
  rw[this]at r;exact⟨a,xs,bs,e,q,r,h2 ho⟩
end
section
variable {K:Frag}{H:Hp}{x y:Sl}
theorem qX{i:Int}(ok:x.ok K H)(h:x.d=.int i):x.v=.int i:=by
 have:=RepO.wk ok;rw[h]at this;unfold RepL at this;exact this.1
theorem qvg{i:Bool}(ok:x.ok K H)(h:x.d=.bl i):x.v=.bl i:=by
 have:=RepO.wk ok;rw[h]at this;unfold RepL at this;exact this.1
theorem wjt(ok:x.ok K H)(h:x.d=.non):x.v=.non:=by
 have:=RepO.wk ok;rw[h]at this;unfold RepL at this;exact this.1
theorem xW{z:Str}(ok:x.ok K H)(h:x.d=.str z):x.v=.str z/\z.length<=sizeLine:=by
 have:=RepO.wk ok;rw[h]at this;unfold RepL at this;exact⟨this.1,this.2.2⟩
theorem wj{i:Int}{g:Bool}:RepL K H g (.int i) (.int i) []:=by unfold RepL;exact⟨rfl,rfl⟩
theorem qqg{i:Bool}{g:Bool}:RepL K H g (.bl i) (.bl i) []:=by unfold RepL;exact⟨rfl,rfl⟩
theorem qqf{g:Bool}:RepL K H g .non .non []:=by unfold RepL;exact⟨rfl,rfl⟩
theorem YZ{z:Str}{g:Bool}(h:z.length<=sizeLine):RepL K H g (.str z) (.str z) []:=by unfold RepL;exact⟨rfl,rfl,h⟩
theorem QJ{i:Int}{fr:List Addr}:Out K H H ⟨.dp,.int i,.int i,[]⟩ fr:=jzm wZ wj
theorem wX{i:Bool}{fr:List Addr}:Out K H H ⟨.dp,.bl i,.bl i,[]⟩ fr:=jzm wZ qqg
theorem ww5{z:Str}{fr:List Addr}(h:z.length<=sizeLine):Out K H H ⟨.dp,.str z,.str z,[]⟩ fr:=jzm wZ (YZ h)
theorem wqj{C:Int->Int->Prop}{g:Int->Int->Int}{f:Int->Int->Option Int}(h:∀i j k,f i j=some k->C i j/\k=g i j):Ad2 K (rI C λi j=>.int (g i j)) (pu2 (i2 f)):=by
 intro H x y s Q ox oy hf k;unfold pu2 i2 at hf;dsimp only at hf
 split at hf
 ·rename_i i j e1 e2;cases hk:f i j with
  |none=>rw[hk]at hf;cases hf
  |some n=>
   rw[hk]at hf;cases oq9 hf;obtain⟨hc,rfl⟩:=h i j n hk;exact⟨i,j,qX ox e1,qX oy e2,hc,k ⟨.dp,.int (g i j),.int (g i j),[]⟩ H rfl rfl QJ⟩
 ·cases hf
theorem wwz{g:Int->Int->Int}{f:Int->Int->Option Int}(h:∀i j,f i j=some (g i j)):Ad2 K (rI0 λi j=>.int (g i j)) (pu2 (i2 f)):=by
 intro H x y s Q ox oy hf k;unfold pu2 i2 at hf;dsimp only at hf
 split at hf
 ·rename_i i j e1 e2;rw[h]at hf;cases oq9 hf;exact⟨i,j,qX ox e1,qX oy e2,k ⟨.dp,.int (g i j),.int (g i j),[]⟩ H rfl rfl QJ⟩
 ·cases hf
theorem Jv{g:Int->Int->Bool}:Ad2 K (rI0 λi j=>.bl (g i j)) (pu2 (c2 g)):=by
 intro H x y s Q ox oy hf k;unfold pu2 c2 at hf;dsimp only at hf
 split at hf
 ·rename_i i j e1 e2;cases oq9 hf;exact⟨i,j,qX ox e1,qX oy e2,k ⟨.dp,.bl (g i j),.bl (g i j),[]⟩ H rfl rfl wX⟩
 ·cases hf
theorem ZV:Ad2 K (rI0 λi j=>.int (i - j)) (pu2 Vq):=wwz λ_ _=>rfl
theorem vW:Ad2 K (rI wqo λi j=>.int (i / j)) (pu2 v5):=wqj λi j k h=>by
 split at h
 ·rename_i c;exact⟨c,(oq9 h).symm⟩
 ·cases h
theorem wqe:Ad2 K (rI (λ_ j=>0<j) λi j=>.int (i % j)) (pu2 jQ):=wqj λi j k h=>by
 split at h
 ·rename_i c;exact⟨c,(oq9 h).symm⟩
 ·cases h
end
def vzf(K:Frag):R2:=λx y H Q=>∃l b xs zs,x=.ref l/\y=.ref b/\LsR K H l xs/\LsR K H b zs/\xs.length+zs.length<=sizeLine/\∀p,H p=none->Q (.ref p) (upd H p (.lst (xs++zs)))
theorem op_catL{X:Cx}:OpR X (binaryOp .Add) (vzf X.K):=by
 intro pins s O H x y v u Q I rx ry h;obtain⟨l,b,xs,zs,rfl,rfl,hH,hB,hz,q⟩:=h;cases rx;cases ry;obtain⟨z,ah,n,r,e⟩:=hH.is I;obtain⟨z2,gc,n2,r2,e2⟩:=hB.is I;have hl:=r.length;have hl2:=r2.length;refine PySem.P.add_list e e2 ?_ (by rw[X5,X5];omega);have ea:ah.toArray++gc.toArray=(ah++gc).toArray:=by simp
 rw[ea];exact⟨.ref _,_,I.lnew (t':=s.toks) (r.append r2) (by rw[Xf];omega),rfl,q _ I.fresh⟩
def vzg(K:Frag):R2:=λx y H Q=>∃a b ys,x=.ref a/\y=.ref b/\SqT K H a []/\SqT K H b ys/\Q (.ref b) H
theorem op_catE{X:Cx}:OpR X (binaryOp .Add) (vzg X.K):=by
 intro pins s O H x y v u Q I rx ry h;obtain⟨a,b,ys,rfl,rfl,ha,hb,q⟩:=h;cases rx;cases ry;obtain⟨ah,r1,p1,_⟩:=I.tuple ha;obtain⟨gc,r2,p2,_⟩:=I.tuple hb;obtain⟨⟨cls,dd,data,sl⟩,ho,hc,n,hd⟩:=id p1;obtain⟨⟨cls2,dd2,data2,lw⟩,im,m6,n2,i5⟩:=id p2;simp only at hc hd m6 i5;subst hc hd m6 i5;have e:ah=[]:=r1.nil_iff.mpr rfl;subst e;exact concat_meets ⟨_,ho,rfl⟩ ⟨_,im,rfl⟩ noFill_tuple_add seq_tuple_add PySem.F.slot_tuple_add PySem.F.entry_tuple_add (PySem.F.args_tuple_add_2 _ _)
   (tuple_addW0 a b [].toArray gc.toArray n n2 dd dd2 sl lw (by simp)) ⟨ho,im,⟨.ref b,H,I,rfl,q⟩⟩
def vzh(K:Frag):R2:=λx y H Q=>rI0 (λi j=>.int (i+j)) x y H Q\/(∃i j,x=.str i/\y=.str j/\i.length+j.length<=sizeLine/\Q (.str (i++j)) H)\/vzf K x y H Q\/vzg K x y H Q\/vze K x y H Q
theorem wjn{X:Cx}{K:Frag}(hK:X.K=K):OpR X (binaryOp .Add) (vzh K):=by subst hK;exact op_add.or (op_add_str.or (op_catL.or (op_catE.or vvi)))
theorem RepA.app{K:Frag}{H:Hp}{g:Bool}{ds':List D}{xs':List V}{dn:List Addr}(h':RepA K H g ds' xs' dn):∀{ds:List D} {xs:List V} {as:List Addr},RepA K H g ds xs as->RepA K H g (ds++ds') (xs++xs') (as++dn)
 |[],_,_,h=>by unfold RepA at h;rw[h.1,h.2];exact h'
 |d::ds,_,_,h=>by
  unfold RepA at h;obtain⟨x,r,bs,cs,rfl,rfl,h1,h2⟩:=h;rw[List.cons_append];unfold RepA;exact⟨x,r++xs',bs,cs++dn,rfl,by rw[Xy],h1,RepA.app h' h2⟩
theorem vq{H:Hp}{p:Addr}{o:HO}(h:H p=none):k8 H (upd H p o):=λb u q=>by rw[kz (wY q h)];exact q
theorem KZ{K:Frag}{H:Hp}{p:Addr}{ds:List D}{xs:List V}{bs fr:List Addr}(hp:H p=none)(r:RepA K H true ds xs bs)(hb:∀b∈bs,b∈fr):Out K H (upd H p (.lst xs)) ⟨.rt,.lst ds,.ref p,p::bs⟩ fr:=by
 refine⟨vq hp,⟨p,xs,bs,rfl,r.kp (Kp.of_same (vq hp)),vK,rfl⟩,λb hb=>?_,?_,λb dw=>hb b (by simpa [Sl.frz]using dw)⟩
 ·have:b=p:=by simpa [Sl.own]using hb
  rw[this];exact hp
 ·simp[Sl.own]
theorem kj4{K:Frag}{H:Hp}{p:Addr}{ds:List D}{xs:List V}{bs fr:List Addr}(hp:H p=none)(r:RepA K H true ds xs bs)(hb:∀b∈bs,b∈fr):Out K H (upd H p (.tup xs)) ⟨.no,.tup ds,.ref p,bs⟩ fr:=by
 refine⟨vq hp,?_,λb hb=>(nomatch hb),Y4,λb dw=>hb b dw⟩;show RepL K _ true (.tup ds) (.ref p) bs;unfold RepL;exact⟨p,xs,rfl,SqT.of vK,r.kp (Kp.of_same (vq hp))⟩
theorem wql{K:Frag}:Ad2 K (vzh K) jJ:=by
 intro H x y s Q ox oy hf k;unfold jJ at hf;dsimp only at hf
 split at hf
 ·rename_i i j e1 e2;cases oq9 hf;exact .inl ⟨i,j,qX ox e1,qX oy e2,k ⟨.dp,.int _,.int _,[]⟩ H rfl rfl QJ⟩
 ·rename_i i j e1 e2
  split at hf
  ·rename_i hl;cases oq9 hf;have lq:(i++j).length<=sizeLine:=by rw[strLen_append];exact hl
   exact .inr (.inl ⟨i,j,(xW ox e1).1,(xW oy e2).1,hl,k ⟨.dp,.str _,.str _,[]⟩ H rfl rfl (ww5 lq)⟩)
  ·cases hf
 ·rename_i i j e1 e2
  split at hf
  ·rename_i hl;cases oq9 hf;obtain⟨a,xs,bs,e3,q3,r3,h3⟩:=xZ ox (.inl e1) hl.2.1;obtain⟨b,ys,cs,e4,q4,r4,h4⟩:=xZ oy (.inl e2) hl.2.2;have q3:LsR K H a xs:=by rcases q3 with⟨_,z⟩|⟨z,_⟩;exact z;rw[e1]at z;cases z
   have q4:LsR K H b ys:=by rcases q4 with⟨_,z⟩|⟨z,_⟩;exact z;rw[e2]at z;cases z
   refine .inr (.inr (.inl ⟨a,b,xs,ys,e3,e4,q3,q4,by rw[<-r3.len,<-r4.len];exact hl.1,λp hp=>?_⟩));exact k ⟨.rt,.lst (i++j),.ref p,p::(bs++cs)⟩ _ rfl rfl (KZ hp (r4.app r3) λb hb=>(aA hb).elim (λz=>ll9 _ (h3 b z)) λz=>lr9 _ (h4 b z))
  ·cases hf
 ·rename_i i j e1 e2
  split at hf
  ·rename_i hl;cases oq9 hf;obtain⟨a,xs,bs,e3,q3,r3,h3⟩:=xZ ox (.inr e1) hl.2.1;obtain⟨b,ys,cs,e4,q4,r4,h4⟩:=xZ oy (.inr e2) hl.2.2;have q3:SqT K H a xs:=by rcases q3 with⟨z,_⟩|⟨_,z⟩;rw[e1]at z;cases z;exact z
   have q4:SqT K H b ys:=by rcases q4 with⟨z,_⟩|⟨_,z⟩;rw[e2]at z;cases z;exact z
   have ap:=r4.app r3;have mj:∀b∈bs++cs,b∈x.frz++y.frz:=λb hb=>(aA hb).elim (λz=>ll9 _ (h3 b z)) λz=>lr9 _ (h4 b z)
   have same:∀c zs,zs=xs++ys->SqT K H c zs->Q (.ref c) H:=λc zs e hq=>by
    refine k ⟨.no,.tup (i++j),.ref c,bs++cs⟩ H rfl rfl ⟨wZ,?_,λb hb=>(nomatch hb),Y4,mj⟩;show RepL K H true (.tup (i++j)) (.ref c) (bs++cs);unfold RepL;exact⟨c,zs,rfl,hq,by rw[e];exact ap⟩
   by_cases hx:xs=[]
   ·subst hx;exact .inr (.inr (.inr (.inl ⟨a,b,ys,e3,e4,q3,q4,same b ys rfl q4⟩)))
   ·refine .inr (.inr (.inr (.inr ⟨a,b,xs,ys,e3,e4,q3,q4,hx,by rw[<-r3.len,<-r4.len];exact hl.1,λhy=>?_,λhy p hp=>?_⟩)))
    ·exact same a xs (by rw[hy,Xr]) q3
    ·exact k ⟨.no,.tup (i++j),.ref p,bs++cs⟩ _ rfl rfl (kj4 hp ap mj)
  ·cases hf
 ·cases hf
def tT(Z:Fx0)(q:Bool)(c:Ts):TT:=fun O H Q=>∃E L r,Mt E O L/\World Z.K H L/\c E=some r/\Xc Z O H L r /\
 ∀E' k,r=.ok E' k->∀L' H',Mt E' O L'->World Z.K H' L'->Step H L H' L'->(q=true->k8 H H')->Q k H'
def QT(X:Cx)(Z:Fx0)(q:Bool)(c:Ts)(e:Expr):Prop:=PT X e (tT Z q c)
def QW(X:Cx)(Z:Fx0)(q:Bool)(c:Ts)(e:Expr):Prop:=PW X e (tT Z q c)
section
variable {X:Cx}{Z:Fx0}{q qa qb:Bool}{a b c:Ex}{u v:Ts}{e ea eb:Expr}{es:List Expr}{pos:Pos}{α β:Type}{O:L2.St}{H:Hp}{L:Ls}{E:En}
theorem vk3{e:Expr}{t t':TT}(h:PW X e t)(w:∀ O H Q,t' O H Q->t O H Q):PW X e t':=λwh pins s O H Q I q=>h wh pins s O H Q I (w O H Q q)
theorem qxp{F:En->Bool->Option (Res α)}{r:Res α}{G:Bool->Hp->Prop}(m:Mt E O L)(w:World Z.K H L)(h:bnd (u E) F=some r)(xc:Xc Z O H L r)
  (k:∀E1 s,F E1 s=some r->∀L1 H1,Mt E1 O L1->World Z.K H1 L1->Step H L H1 L1->(q=true->k8 H H1)->G s H1):tT Z q u O H G:=by
 rcases wK h with⟨E1,s,h1,h2⟩|⟨E1,c,h1,h2⟩
 ·exact⟨E,L,_,m,w,h1,(λ_ _ z=>by cases z),λE' s' z L' H' m' w' st sm=>by
   injection z with z1 z2;subst z1 z2;exact k _ _ h2 L' H' m' w' st sm⟩
 ·exact⟨E,L,_,m,w,h1,xc.map h2,λE' s' z=>by cases z⟩
theorem jzz(ha:QT X Z q u ea):QW X Z q u (.BoolOp .And [ea] pos):=vqr ha
theorem qqp(ha:QT X Z q u ea):QW X Z q u (.BoolOp .Or [ea] pos):=vzu ha
theorem W1(ha:QT X Z q u ea)(hb:QW X Z q v (.BoolOp .And (eb::es) pos)):QW X Z q (Q.tAnd u v) (.BoolOp .And (ea::eb::es) pos):=
 vk3 (vzv ha hb) fun O H Q b7=>ex8 b7 λE L r m w hc xc k=>qxp m w hc xc λE1 s h1 L1 H1 m1 w1 st sm=>by
  cases s with
  |true=>
   rw[X8 rfl]at h1 ⊢;exact⟨E1,L1,r,m1,w1,h1,xc.step st,λE' k' z L' H' m' w' ef iu=>k E' k' z L' H' m' w' (st.trans ef) λhq=>qv (sm hq) (iu hq)⟩
  |false=>
   rw[Xb ⋯]at h1 ⊢;cases oq9 h1;exact k _ _ rfl L1 H1 m1 w1 st sm
theorem vql(ha:QT X Z q u ea)(hb:QW X Z q v (.BoolOp .Or (eb::es) pos)):QW X Z q (Q.tOr u v) (.BoolOp .Or (ea::eb::es) pos):=
 vk3 (wvx ha hb) fun O H Q b7=>ex8 b7 λE L r m w hc xc k=>qxp m w hc xc λE1 s h1 L1 H1 m1 w1 st sm=>by
  cases s with
  |false=>
   rw[Xb ⋯]at h1 ⊢;exact⟨E1,L1,r,m1,w1,h1,xc.step st,λE' k' z L' H' m' w' ef iu=>k E' k' z L' H' m' w' (st.trans ef) λhq=>qv (sm hq) (iu hq)⟩
  |true=>
   rw[X8 rfl]at h1 ⊢;cases oq9 h1;exact k _ _ rfl L1 H1 m1 w1 st sm
theorem QW.pt(h:QW X Z q u e):QT X Z q u e:=PW.pt h
theorem VX(ha:QT X Z q u ea):QT X Z q (Q.tNot u) (.UnaryOp .Not ea pos):=
 qqu (vzx ha) fun O H Q b7=>ex8 b7 λE L r m w hc xc k=>qxp m w hc xc λE1 s h1 L1 H1 m1 w1 st sm=>by
  cases oq9 h1;exact k _ _ rfl L1 H1 m1 w1 st sm
theorem kJ{op:CmpOp}{r:R2}{f:Sd->Sd->Option Sd}(ho:OpR X (compareOp op) r)(ad:Ad2 Z.K r f)(ha:QV X Z qa a ea)(hb:QV X Z true b eb)(hm:behindInMarks op eb=false)(hf:∀x y s,f x y=some s->∃k,s.2=.bl k):QT X Z qa (Q.tE (cF2 f a b)) (.Compare ea [op] [eb] pos):=
 qqu (vqw ho ha hb hm) fun O H Q b7=>ex8 b7 λE L r m w hc xc k=>by
  refine kqp ad ?_;have gu:bnd (cF2 f a b E) (λE x=>val E (truth x.2))=some r:=hc;rcases wK gu with⟨E1,s,h1,h2⟩|⟨E1,c,h1,h2⟩
  ·refine⟨E,L,_,m,w,h1,(λ_ _ z=>by cases z),λE' s' z x L' H' e1 e2 m' w' st sm=>?_⟩;injection z with z1 z2;subst z1 z2;obtain⟨kk,hk⟩:∃k,s.2=.bl k:=by
    unfold cF2 at h1;rcases wK h1 with⟨E2,s2,h3,h4⟩|⟨_,_,_,z⟩
    ·rcases wK h4 with⟨E3,s3,h5,h6⟩|⟨_,_,_,z⟩
     ·obtain⟨y,hy,z⟩:=J3 h6;cases z;exact hf _ _ _ hy
     ·cases z
    ·cases z
   rw[hk]at h2;cases oq9 h2;exact⟨kk,qvg w'.head (e2.trans hk),k _ _ rfl L' H' m' w'.tail (st.trans Step.drop) λhq=>(sm hq).1⟩
  ·exact⟨E,L,_,m,w,h1,xc.map h2,λE' s' z=>by cases z⟩
end
def Pn(pn:List Nat)(O σ':L2.St):Prop:=∀p∈pn,σ'[p]?=O[p]?
theorem Pn.refl{pn:List Nat}{O:L2.St}:Pn pn O O:=λ_ _=>rfl
theorem Pn.trans{pn:List Nat}{O σ1 σ2:L2.St}(a:Pn pn O σ1)(b:Pn pn σ1 σ2):Pn pn O σ2:=λp hp=>(b p hp).trans (a p hp)
theorem Pn.set{pn:List Nat}{O σ1:L2.St}{i:Nat}{y:Option V}(a:Pn pn O σ1)(h:i∉pn):Pn pn O (σ1.set i y):=λp hp=>by
 have:i≠p:=λe=>h (e▸hp)
 rw[Ye this];exact a p hp
noncomputable def FlP(Z:Fx0)(pn:List Nat)(D:Ends)(O:L2.St)(H:Hp)(L:Ls):Fl->Prop
 |.nx E'=>∀ σ' L' H',Pn pn O σ'->Mt E' σ' L'->World Z.K H' L'->Step H L H' L'->D.nx σ' H'|.ct E'=>∀ σ' L' H',Pn pn O σ'->Mt E' σ' L'->World Z.K H' L'->Step H L H' L'->D.ct σ' H'|.bk E'=>∀ σ' L' H',Pn pn O σ'->Mt E' σ' L'->World Z.K H' L'->Step H L H' L'->D.bk σ' H'|.rt E' a=>∀(x:Sl) σ' L' H',x.o=a.1->x.d=a.2->Pn pn O σ'->Mt E' σ' L'->World Z.K H' (some x::L')->Step H L H' (some x::L')->D.rt x.v H'|.xc E' c=>∀C σ' L' H',Z.mg c=some (.ref C)->Pn pn O σ'->Mt E' σ' L'->World Z.K H' L'->Step H L H' L'->Z.EX (.ref C) none H'
theorem FlP.step{Z:Fx0}{pn:List Nat}{D:Ends}{O σ1:L2.St}{H H1:Hp}{L L1:Ls}{r:Fl}(k:FlP Z pn D O H L r)(s:Step H L H1 L1)(p:Pn pn O σ1):FlP Z pn D σ1 H1 L1 r:=by
 cases r with|nx E'=>exact fun σ' L' H' p' m w s'=>k σ' L' H' (p.trans p') m w (s.trans s')|ct E'=>exact fun σ' L' H' p' m w s'=>k σ' L' H' (p.trans p') m w (s.trans s')|bk E'=>exact fun σ' L' H' p' m w s'=>k σ' L' H' (p.trans p') m w (s.trans s')|rt E' a=>exact λx σ' L' H' e1 e2 p' m w s'=>k x σ' L' H' e1 e2 (p.trans p') m w (s.trans s')|xc E' c=>exact λC σ' L' H' hm p' m w s'=>k C σ' L' H' hm (p.trans p') m w (s.trans s')
theorem FlP.xc{α:Type}{Z:Fx0}{pn:List Nat}{D:Ends}{O:L2.St}{H:Hp}{L:Ls}{E':En}{c:Str}(k:FlP Z pn D O H L (.xc E' c)):Xc Z O H L (.exc E' c:Res α):=λE1 c1 e C L' H' hm m w s=>by
 injection e with h1 h2;subst h1 h2;exact k C O L' H' hm Pn.refl m w s
def tS(Z:Fx0)(pn:List Nat)(c:Sm):TS:=λD O H=>∃E L r,Mt E O L/\World Z.K H L/\c E=some r/\FlP Z pn D O H L r
def QS(X:Cx)(Z:Fx0)(pn:List Nat)(c:Sm)(st:Stmt):Prop:=PS X st (tS Z pn c)
def QSs(X:Cx)(Z:Fx0)(pn:List Nat)(c:Sm)(st:List Stmt):Prop:=PSs X st (tS Z pn c)
section
variable {X:Cx}{Z:Fx0}{pn:List Nat}{q qa qb:Bool}{a b c:Ex}{u v:Ts}{A B:Sm}{e ea eb:Expr}{st:Stmt}{ss tt:List Stmt}{pos:Pos}{α:Type}{O:L2.St}{H:Hp}{L:Ls}{E:En}{D:Ends}
theorem XY{m:Option (Res α)}{F:En->α->Option Fl}{r:Fl}(h:ofE m F=some r):(∃E1 x,m=some (.ok E1 x)/\F E1 x=some r)\/∃E1 c,m=some (.exc E1 c)/\r=.xc E1 c:=by
 cases m with
 |none=>cases h
 |some q=>
  cases q with|ok E1 x=>exact .inl ⟨E1,x,rfl,h⟩|exc E1 c=>exact .inr ⟨E1,c,rfl,(oq9 h).symm⟩
theorem Vv{F:En->Sd->Option Fl}{r:Fl}{G:VK}(m:Mt E O L)(w:World Z.K H L)(h:ofE (a E) F=some r)(k:FlP Z pn D O H L r)
  (g:∀E1 s,F E1 s=some r->∀(x:Sl) L1 H1,x.o=s.1->x.d=s.2->Mt E1 O L1->World Z.K H1 (some x::L1)->Step H L H1 (some x::L1)->(q=true->k8 H H1/\∀b∈x.own,H b=none)->G x.v H1):tQ Z q a O H G:=by
 rcases XY h with⟨E1,s,h1,h2⟩|⟨E1,c,h1,rfl⟩
 ·exact⟨E,L,_,m,w,h1,(λ_ _ z=>by cases z),λE' s' z x L' H' e1 e2 m' w' st sm=>by
   injection z with z1 z2;subst z1 z2;exact g _ _ h2 x L' H' e1 e2 m' w' st sm⟩
 ·exact⟨E,L,_,m,w,h1,k.xc,λE' s' z=>by cases z⟩
theorem vxx{F:En->Bool->Option Fl}{r:Fl}{G:Bool->Hp->Prop}(m:Mt E O L)(w:World Z.K H L)(h:ofE (u E) F=some r)(k:FlP Z pn D O H L r)
  (g:∀E1 s,F E1 s=some r->∀L1 H1,Mt E1 O L1->World Z.K H1 L1->Step H L H1 L1->G s H1):tT Z q u O H G:=by
 rcases XY h with⟨E1,s,h1,h2⟩|⟨E1,c,h1,rfl⟩
 ·exact⟨E,L,_,m,w,h1,(λ_ _ z=>by cases z),λE' s' z L' H' m' w' st sm=>by
   injection z with z1 z2;subst z1 z2;exact g _ _ h2 L' H' m' w' st⟩
 ·exact⟨E,L,_,m,w,h1,k.xc,λE' s' z=>by cases z⟩
theorem vZ:QSs X Z pn v7 []:=qqv vqy λD O H b7=>ex7 b7 λE L r m w hc k=>by
 cases oq9 hc;exact k O L H Pn.refl m w Step.refl
theorem jk(h1:QS X Z pn A st)(h2:QSs X Z pn B ss):QSs X Z pn (j4 A B) (st::ss):=qqv (qza h1 h2) λD O H b7=>ex7 b7 λE L r m w hc k=>by
 unfold j4 at hc;cases ha:A E with
 |none=>rw[ha]at hc;cases hc
 |some f=>
  rw[ha]at hc;cases f with|nx E1=>exact⟨E,L,_,m,w,ha,fun σ' L' H' p m' w' s=>⟨E1,L',r,m',w',hc,k.step s p⟩⟩|ct E1=>cases oq9 hc;exact⟨E,L,_,m,w,ha,k⟩|bk E1=>cases oq9 hc;exact⟨E,L,_,m,w,ha,k⟩|rt E1 x=>cases oq9 hc;exact⟨E,L,_,m,w,ha,k⟩|xc E1 x=>cases oq9 hc;exact⟨E,L,_,m,w,ha,k⟩
theorem jx(h1:QS X Z pn A st):QSs X Z pn A [st]:=vqx h1
theorem kK(h:QE X Z q a ea):QS X Z pn (k7 a) (.Return (some ea) pos):=zQ (wj0 h) λD O H b7=>ex7 b7 λE L r m w hc k=>
 Vv m w hc k λE1 s h1 x L1 H1 e1 e2 m1 w1 st _=>by
  cases oq9 h1;exact k x O L1 H1 e1 e2 Pn.refl m1 w1 st
theorem vw(hc:QT X Z q u e)(ha:QSs X Z pn A ss)(hb:QSs X Z pn B tt):QS X Z pn (sIf u A B) (.If e ss tt pos):=zQ (wvy hc ha hb) λD O H b7=>ex7 b7 λE L r m w hc k=>
 vxx m w hc k λE1 s h1 L1 H1 m1 w1 st=>by
  cases s with|true=>rw[X8 rfl]at h1 ⊢;exact⟨E1,L1,r,m1,w1,h1,k.step st Pn.refl⟩|false=>rw[Xb ⋯]at h1 ⊢;exact⟨E1,L1,r,m1,w1,h1,k.step st Pn.refl⟩
theorem W3{x:Sl}{i:Nat}{s:Sd}(m:Mt E O L)(e1:x.o=s.1)(e2:x.d=s.2):Mt (E.set i (some s)) (O.set i (some x.v)) (L.set i (some x)):=by
 have:=m.set (x:=x) i;rw[e1,e2]at this;exact this
theorem wvv{i:Nat}{y:Str}{bj:Pos}(hN:X.N.Nodup)(hi:X.N[i]?=some y)(hx:Loc X.env.scope y)(h:QE X Z q a ea)(hp:autoParam (i∉pn) ŕ)(hs:autoParam (swapsWith ea (some (.Name y bj)) pos.line X.env=pure false) Ŕ)(hf:autoParam (X.fn y=true\/X.env.scope.names.lookup y=some .local) Ř):
  QS X Z pn (j8 i a) (.Assign [.Name y bj] ea pos):=zQ (vzz hN hi hx h hs hf) λD O H b7=>ex7 b7 λE L r m w hc k=>
 Vv m w hc k λE1 s h1 x L1 H1 e1 e2 m1 w1 st _=>by
  cases oq9 h1;exact k (O.set i (some x.v)) (L1.set i (some x)) H1 (Pn.refl.set hp) (W3 m1 e1 e2) w1.set (st.trans Step.set)
theorem vzt{i:Nat}{y:Str}{bj:Pos}(hp:i∉pn)(h:PS X (.Assign [.Name y bj] ea pos) (λD O H=>tQ Z q a O H λv H1=>D.nx (O.set i (some v)) H1)):
  QS X Z pn (j8 i a) (.Assign [.Name y bj] ea pos):=zQ h λD O H b7=>ex7 b7 λE L r m w hc k=>
 Vv m w hc k λE1 s h1 x L1 H1 e1 e2 m1 w1 st _=>by
  cases oq9 h1;exact k (O.set i (some x.v)) (L1.set i (some x)) H1 (Pn.refl.set hp) (W3 m1 e1 e2) w1.set (st.trans Step.set)
theorem kq0(hp:PassesOwn (model X.prog X.w) X.A X.env X.xe)(hc:QT X Z q u e)(hb:QSs X Z pn B ss):QS X Z pn (sWhile u B) (.While e ss [] pos):=zQ (qzb hp hc hb) λD O H b7=>ex7 b7 λE L r m w hr k=>by
 obtain⟨n0,hn⟩:=vq1 hr;refine⟨λn σ1 H1=>∃E1 L1,Mt E1 σ1 L1/\World Z.K H1 L1/\whN u B n E1=some r/\Step H L H1 L1/\Pn pn O σ1,⟨n0,E,L,m,w,hn,Step.refl,Pn.refl⟩,?_⟩;rintro n σ1 H1 ⟨E1,L1,m1,w1,h1,fz,p1⟩;cases n with
 | zero=>cases h1
 | succ n=>
  have k1:=k.step fz p1;unfold whN at h1;cases ht:u E1 with
  | none=>rw[ht]at h1;cases h1
  | some f=>
   rw [ht]at h1;cases f with
   | exc E2 c=>
    cases oq9 h1;exact⟨E1,L1,_,m1,w1,ht,k1.xc,λE' s' z=>by cases z⟩
   | ok E2 kk=>
    refine⟨E1,L1,_,m1,w1,ht,(λ_ _ z=>by cases z),λE' s' z L' H' m' w' st sm=>?_⟩;injection z with z1 z2;subst z1 z2;cases kk with
    | false=>
     rw[Xb ⋯];cases oq9 h1;exact k1 σ1 L' H' Pn.refl m' w' st
    | true=>
     rw[X8 rfl];dsimp only at h1;refine⟨fun σ2 H2=>∃E2 L2,Mt E2 σ2 L2/\World Z.K H2 L2/\whN u B n E2=some r/\Step H L H2 L2/\Pn pn O σ2,fun σ2 H2 h2=>⟨n,⋯,h2⟩,?_⟩;cases hB:B E2 with
     |none=>rw[hB]at h1;cases h1
     |some g=>
      rw[hB]at h1;have k2:=k1.step st Pn.refl;refine⟨E2,L',g,m',w',hB,?_⟩;cases g with|nx E3=>exact fun σ3 L3 H3 p3 m3 w3 s3=>⟨E3,L3,m3,w3,h1,fz.trans (st.trans s3),p1.trans p3⟩|ct E3=>exact fun σ3 L3 H3 p3 m3 w3 s3=>⟨E3,L3,m3,w3,h1,fz.trans (st.trans s3),p1.trans p3⟩|bk E3=>cases oq9 h1;exact k2|rt E3 x=>cases oq9 h1;exact k2|xc E3 c=>cases oq9 h1;exact k2
end
structure Walks (K:Frag)(J:It)(T:List Sl)(ds:List D):Prop where
 no:∀t∈T,t.o=.no
 go:∀i H,(∀t∈T,t.ok K H)->i<ds.length->J.go i H
 stop:∀H,(∀t∈T,t.ok K H)->J.stop ds.length H
 yld:∀i H v H' d,(∀t∈T,t.ok K H)->J.yld i H v H'->ds[i]?=some d->∃z:Sl,z.o=.no/\z.d=d/\z.v=v/\k8 H H'/\z.ok K H'/\∀b∈z.as,∃t∈T,b∈t.as
def tI(Z:Fx0)(q:Bool)(it:Ev (List D)):TI:=fun O H R=>∃E L r,Mt E O L/\World Z.K H L/\it E=some r/\Xc Z O H L r /\
 ∀E' ds,r=.ok E' ds->∀J T L' H',Mt E' O L'->World Z.K H' (L'++T.map some)->Step H L H' (L'++T.map some)->ds.length<=sizeLine->(q=true->k8 H H')->Walks Z.K J T ds->R J H'
def QI(X:Cx)(Z:Fx0)(q:Bool)(tg:Expr)(it:Ev (List D))(e:Expr):Prop:=PI X tg e (tI Z q it)
def wx5(K:Frag)(H0:Hp)(T:List Sl)(H:Hp):Prop:=(∀t∈T,t.ok K H)/\∀t∈T,Kp H0 H t.as
structure WalksD (K:Frag)(H0:Hp)(J:It)(T:List Sl)(ds:List D):Prop where
 no:∀t∈T,t.o=.no
 go:∀i H,wx5 K H0 T H->i<ds.length->J.go i H
 stop:∀H,wx5 K H0 T H->J.stop ds.length H
 yld:∀i H v H' d,wx5 K H0 T H->J.yld i H v H'->ds[i]?=some d->∃z:Sl,z.o=.no/\z.d=d/\z.v=v/\k8 H H'/\z.ok K H'/\∀b∈z.as,∃t∈T,b∈t.as
theorem Walks.D{K:Frag}{H0:Hp}{J:It}{T:List Sl}{ds:List D}(h:Walks K J T ds):WalksD K H0 J T ds:=⟨h.no,λi H o=>h.go i H o.1,λH o=>h.stop H o.1,λi H v H' d o=>h.yld i H v H' d o.1⟩
def tID(Z:Fx0)(q:Bool)(it:Ev (List D)):TI:=fun O H R=>∃E L r,Mt E O L/\World Z.K H L/\it E=some r/\Xc Z O H L r /\
 ∀E' ds,r=.ok E' ds->∀J T L' H',Mt E' O L'->World Z.K H' (L'++T.map some)->Step H L H' (L'++T.map some)->ds.length<=sizeLine->(q=true->k8 H H')->WalksD Z.K H' J T ds->R J H'
def QID(X:Cx)(Z:Fx0)(q:Bool)(tg:Expr)(it:Ev (List D))(e:Expr):Prop:=PI X tg e (tID Z q it)
theorem QI.D{X:Cx}{Z:Fx0}{q:Bool}{tg:Expr}{it:Ev (List D)}{e:Expr}(h:QI X Z q tg it e):QID X Z q tg it e:=λpins s O H R I hz=>h pins s O H R I (by
 obtain⟨E,L,r,m,w,e,x,k⟩:=hz;exact⟨E,L,r,m,w,e,x,λE' ds z J T L' H' m' w' st hl sm wk=>k E' ds z J T L' H' m' w' st hl sm wk.D⟩)
structure WalksS (K:Frag)(q:Bool)(H0:Hp)(J:It)(T:List Sl)(ds:List D):Prop where
 no:∀t∈T,t.o=.no
 go:∀i H,(∀t∈T,t.ok K H)->(q=true->k8 H0 H)->i<ds.length->J.go i H
 stop:∀H,(∀t∈T,t.ok K H)->(q=true->k8 H0 H)->J.stop ds.length H
 yld:∀i H v H' d,(∀t∈T,t.ok K H)->(q=true->k8 H0 H)->J.yld i H v H'->ds[i]?=some d->∃z:Sl,z.o=.no/\z.d=d/\z.v=v/\k8 H H'/\z.ok K H'/\∀b∈z.as,∃t∈T,b∈t.as
theorem vq3{K:Frag}{q:Bool}{H0:Hp}{J:It}{T:List Sl}{ds:List D}(h:Walks K J T ds):WalksS K q H0 J T ds:=⟨h.no,λi H o _=>h.go i H o,λH o _=>h.stop H o,λi H v H' d o _=>h.yld i H v H' d o⟩
def tIS(Z:Fx0)(q:Bool)(it:Ev (List D)):TI:=fun O H R=>∃E L r,Mt E O L/\World Z.K H L/\it E=some r/\Xc Z O H L r /\
 ∀E' ds,r=.ok E' ds->∀J T L' H',Mt E' O L'->World Z.K H' (L'++T.map some)->Step H L H' (L'++T.map some)->ds.length<=sizeLine->(q=true->k8 H H')->WalksS Z.K q H J T ds->R J H'
def QIS(X:Cx)(Z:Fx0)(q:Bool)(tg:Expr)(it:Ev (List D))(e:Expr):Prop:=PI X tg e (tIS Z q it)
theorem wxp{X:Cx}{Z:Fx0}{q:Bool}{tg:Expr}{it:Ev (List D)}{e:Expr}(h:QI X Z q tg it e):QIS X Z q tg it e:=λpins s O H R I hz=>h pins s O H R I (by
 obtain⟨E,L,r,m,w,e,x,k⟩:=hz;exact⟨E,L,r,m,w,e,x,λE' ds z J T L' H' m' w' st hl sm wk=>k E' ds z J T L' H' m' w' st hl sm (vq3 wk)⟩)
def tG(Z:Fx0)(pn:List Nat)(tg:Tg):TG:=λv O H Q=>∃(E:En) (L:Ls) (z:Sl) (E':En),Mt E O L/\World Z.K H (some z::L)/\z.o=.no/\z.v=v/\tg.put z.d E=some E' /\
 ∀ σ' L',Pn pn O σ'->Mt E' σ' L'->World Z.K H L'->Step H (some z::L) H L'->Q σ' H
def QG(X:Cx)(Z:Fx0)(pn:List Nat)(tg:Tg)(e:Expr):Prop:=PG X e (tG Z pn tg)
section
variable {X:Cx}{Z:Fx0}{pn:List Nat}{e:Expr}{O:L2.St}{H:Hp}{L:Ls}{E:En}
theorem vk9{t t':TG}(h:PG X e t)(w:∀v O H Q,t' v O H Q->t v O H Q):PG X e t':=λpins s O H x v Q I r q=>h pins s O H x v Q I r (w x O H Q q)
theorem WJ{i:Nat}(h:PG X e (Zz i))(hp:autoParam (i∉pn) ŕ):QG X Z pn (.n i) e:=vk9 h λv O H Q ⟨E,L,z,E',m,w,ho,hv,cg,k⟩=>by
 cases oq9 cg;rw[<-hv];exact k (O.set i (some z.v)) (L.set i (some z)) (Pn.refl.set hp) (W3 m ho rfl) w.set Step.set
def gNs:List Nat->TGs
 |[]=>wz1|i::is=>wkq (Zz i) (gNs is)
theorem qwd{Q:L2.St->Hp->Prop}{M:Ls}{σ0:L2.St}:∀{is:List Nat} {ds:List D} {xs:List V} {bs:List Addr} {E:En} {L:Ls} {O:L2.St} {E':En},Mt E O L->World Z.K H L->RepA Z.K H true ds xs bs->(∀b∈bs,b∉j7 L)->(∀b∈bs,b∈jY M)->Step H M H L->Pn pn σ0 O ->
  setAll is ds E=some E'->(∀i∈is,i∉pn)->(∀ σ' L',Pn pn σ0 σ'->Mt E' σ' L'->World Z.K H L'->Step H M H L'->Q σ' H)->gNs is xs O H Q
 | [],[],xs,bs,E,L,O,E',m,w,r,_,_,st,p,e,_,k=>by
  cases oq9 e;unfold RepA at r;exact⟨r.1,k O L p m w st⟩
 | [],_::_,_,_,_,_,_,_,_,_,_,_,_,_,_,e,_,_=>by cases e| _::_,[],_,_,_,_,_,_,_,_,_,_,_,_,_,e,_,_=>by cases e
 | i::is,d::ds,xs,bs,E,L,O,E',m,w,r,hb,hf,st,p,e,hi,k=>by
  unfold RepA at r;obtain⟨x,rr,cs,es,rfl,rfl,h1,h2⟩:=r;have w1:World Z.K H (some ⟨.no,d,x,cs⟩::L):=w.consNo (x:=⟨.no,d,x,cs⟩) h1 rfl λb dw=>hb b (ll9 _ dw)
  have s1:Step H M H (L.set i (some ⟨.no,d,x,cs⟩)):=by
   refine⟨λ_ _ h _=>h,λa ha=>?_,λa ha=>?_⟩
   ·rcases YK ha with z|z
    ·exact nomatch z
    ·exact st.own a z
   ·rcases jkk ha with z|z
    ·exact .inl (hf a (ll9 _ z))
    ·exact st.frz a z
  exact⟨x,rr,rfl,qwd (is:=is) (W3 (x:=⟨.no,d,x,cs⟩) (s:=(.no,d)) m rfl rfl) w1.set h2 (λb dw ho=>by
   rcases YK ho with z|z
   ·exact nomatch z
   ·exact hb b (lr9 _ dw) z) (λb dw=>hf b (lr9 _ dw)) s1 (p.set (hi i X7)) e (λj hj=>hi j (lc9 _ hj)) k⟩
theorem kk8:∀{is:List Nat} {ds:List D} {E E':En},setAll is ds E=some E'->is.length=ds.length
 |[],[],_,_,_=>rfl|[],_::_,_,_,e=>by cases e|_::_,[],_,_,e=>by cases e|i::is,d::ds,E,E',e=>by rw[Xm,Xm,kk8 (E:=E.set i (some (.no,d))) e]
def wwl(K:Frag)(n:Nat)(t:TGs):TG:=λv O H Q=>∃a xs,v=.ref a/\(SqT K H a xs\/SqL K H a xs)/\xs.length=n/\t xs O H Q
section
variable {prog:Program}{w:PySem.World}{A:Around}{E':Value->Shared->Prop}
theorem kwa{it t:Addr}{items:Array Value}(bt:t≠it):∀(n i:Nat) (s:Shared) (Q:List Value->Shared->Prop),s.heap.IsListIter it t i->s.heap.IsList t items->i+n<=items.size ->
  (∀h',h'.IsListIter it t (i+n)->Heap.SameBut it s.heap h'->Q ((items.toList.drop i).take n) { s with heap:=h' })->wpAny (model prog w) A (draw (.ref it) n) Q E' s
 | 0,i,s,Q,fh,_,_,hQ=>by
  show wpAny _ _ (pure []) Q E' s;exact X2 (by simpa using hQ s.heap fh (Heap.SameBut.refl ..))
 | n+1,i,s,Q,fh,ht,gf,hQ=>by
  have cx:i<items.size:=⋯
  show wpAny _ _ (pyNext (.ref it) >>= _) Q E' s;refine X0 (wpAny_pyNext_list_item fh ht (x:=items[i]) (by simp[cx]) λh₁ mz pw=>?_);have ht₁:h₁.IsList t items:=by
   obtain⟨o,ho,r⟩:=ht;exact⟨o,(pw.2 t bt).trans ho,r⟩
  refine X0 (Xz (kwa bt n (i+1) _ _ mz ht₁ ⋯ λh₂ hit₂ hs₂=>X2 ?_));have hd:items.toList.drop i=items[i]::items.toList.drop (i+1):=by simp[List.drop_eq_getElem_cons,cx]
  have:=hQ h₂ (by rw[show i+(n+1)=i+1+n by omega];exact hit₂) (pw.trans hs₂);rw[hd,List.take_succ_cons]at this;exact this
theorem jzf{s:Shared}{t:Addr}{items:Array Value}{Q:List Value->Shared->Prop}(hh:A.handled=none)(ht:s.heap.IsList t items)
  (hQ:∀h',Heap.ExtBut s.heap.objs.size s.heap h'->Q items.toList { s with heap:=h' }):wpAny (model prog w) A (unpackItems (.ref t) items.size none) Q E' s:=by
 have cx:t≠s.heap.objs.size:=by obtain⟨o,ho,_⟩:=ht;exact Xg (Xa ho)
 unfold unpackItems;refine X0 ?_;unfold notIterableAtAll;refine X0 (Ym ht.typeIs slot_list_iter.lookup ?_);refine X2 ?_;simp only[Bool.false_eq_true,if_false];refine X0 (Xz (wpAny_pyIter_list ht ?_));have ht0:∀o:Obj,(s.heap.push o).IsList t items:=λo=>by
  obtain⟨ob,ho,r⟩:=ht;exact⟨ob,X1 _ ho,r⟩
 refine X0 (Xz (kwa cx items.size 0 _ _ ⟨_,X6 _ rfl,rfl,rfl⟩ (ht0 _) ⋯ λh₁ mz pw=>?_));have nq:List.take items.size (List.drop 0 items.toList)=items.toList:=by
  rw[List.drop_zero];exact Z6 (by simp)
 rw[nq];rw[Xb (by simp)];have ht₁:h₁.IsList t items:=by
  obtain⟨o,ho,r⟩:=ht0 _;exact⟨o,(pw.2 t cx).trans ho,r⟩
 refine X0 (Xz (wpAny_pyNext_list_end hh mz ht₁ (by simp) λh₂ he₂=>?_));simp only[Option.isSome_none,Bool.false_eq_true,if_false];exact X2 (hQ h₂ λb o hb e=>he₂ b o hb (pw.extBut b o hb (X1 _ e)))
theorem jz3{s:Shared}{env:Env}{fm:List Expr}{x1}{pos:Pos}{t:Addr}{items:Array Value}{Q:Unit->Shared->Prop}(hh:A.handled=none)(ht:s.heap.IsList t items)
  (hn:(assignEach fm env).length=items.size) (rj:(assignEach fm env).findIdx? (·.1)=none)
  (h:∀h',Heap.ExtBut s.heap.objs.size s.heap h'->wpAny (model prog w) A (assignInOrder ((assignEach fm env).map (·.2)) items.toList) Q E' { s with heap:=h' }):
  wpAny (model prog w) A (assign (.Tuple fm x1 pos) env (.ref t)) Q E' s:=by
 rw[assign_Tuple];refine X0 (wpAny_standAt ?_);unfold unpack;rw[hn,rj];exact X0 (Xz (jzf hh ht h))
end
theorem ZJ(K:Frag){es:List Expr}{k:Nat}{t:TGs}{n:Nat}{pos:Pos}(h:PGs X es t)(hc:autoParam (X.calm=true) Ŕ)(hK:autoParam (X.K=K) Ŕ)
  (hn:autoParam ((assignEach es X.env).length=n) Ŕ) (cq:autoParam ((assignEach es X.env).findIdx? (·.1)=none) Ŕ):PG X (.Tuple es k pos) (wwl K n t):=by
 subst hK;intro pins s O H v u Q I r hw;obtain⟨a,xs,e1,hq,hl,hw⟩:=hw;subst e1;cases r;rcases hq with hq|hq
 ·obtain⟨ah,rv,ht,hz⟩:=I.tuple hq;refine assign_Tuple_tuple (I.ok.hd hc) ht (by simp[hn,<-hl,rv.length]) cq λh' hx=>?_
  have I1:L2.Inv X pins O H { s with heap:=h' }:=I.kept (t':=s.toks) λb o e=>hx b o (Xg (Xa e)) e
  exact h pins _ O H xs _ Q I1 (by simpa using rv) hw
 ·obtain⟨ah,rv,ht,hz⟩:=I.list hq;refine jz3 (I.ok.hd hc) ht.isList (by simp[hn,<-hl,rv.length]) cq λh' hx=>?_
  have I1:L2.Inv X pins O H { s with heap:=h' }:=I.kept (t':=s.toks) λb o e=>hx b o (Xg (Xa e)) e
  exact h pins _ O H xs _ Q I1 (by simpa using rv) hw
theorem vzm{is:List Nat}(h:PG X e (wwl Z.K is.length (gNs is)))(hp:autoParam (∀i∈is,i∉pn) ŕ):QG X Z pn (.t is) e:=vk9 h λv O H Q ⟨E,L,z,E',m,w,ho,hv,cg,k⟩=>by
 have fin:∀ds:List D,(z.d=.lst ds\/z.d=.tup ds)->setAll is ds E=some E'->wwl Z.K is.length (gNs is) v O H Q:=λds hd cg=>by
  obtain⟨a,xs,bs,e1,q1,r,h1,h2⟩:=items w.head hd;rw[ho]at r;refine⟨a,xs,hv.symm.trans e1,?_,by rw[kk8 cg,r.len],qwd (M:=some z::L) m w.tail r (λb hb=>w.apart b (h1 b hb)) (λb hb=>?_) Step.drop Pn.refl cg hp k⟩
  ·rcases q1 with⟨_,z'⟩|⟨_,z'⟩
   ·exact .inr z'.sq
   ·exact .inl z'
  ·rw[v9,Zw ho];exact ll9 _ (h1 b hb)
 cases hd:z.d with|tup ds=>rw[hd]at cg;exact fin ds (.inr hd) cg|lst ds=>rw[hd]at cg;exact fin ds (.inl hd) cg|_=>rw[hd]at cg;cases cg
end
section
variable {X:Cx}{Z:Fx0}{pn:List Nat}{q:Bool}{tg b6:Expr}{it:Ev (List D)}{t:Tg}{B:Sm}{ss:List Stmt}{pos:Pos}{O:L2.St}{H:Hp}{L:Ls}{E:En}
theorem kke{K:Frag}{T:List Sl}{H1 H2:Hp}{L1:Ls}{z:Sl}(w:World K H1 (L1++T.map some))(hT:∀t∈T,t.o=.no)(sm:k8 H1 H2)(ok:z.ok K H2)(ho:z.o=.no)(hz:∀b∈z.as,∃t∈T,b∈t.as):
  World K H2 ((some z::L1)++T.map some)/\Step H1 (L1++T.map some) H2 ((some z::L1)++T.map some):=by
 have w2:World K H2 (L1++T.map some):=⟨λx hx=>RepO.kp (w.ok x hx) (Kp.of_same sm),w.nd,w.ds⟩;have hf:∀b∈z.as,b∈jY (L1++T.map some):=λb hb=>by
  obtain⟨t,ht,hbt⟩:=hz b hb;rw[kZ];exact lr9 _ (mem_frozen.mpr ⟨t,Xk ht,by rw[Zw (hT t ht)];exact hbt⟩)
 refine⟨w2.consNo ok ho λb hb hL=>w2.ds b hL (hf b hb),λa ob h _=>sm a ob h,λa ha=>?_,λa ha=>?_⟩
 ·rw[List.cons_append,kw,qv8 ho]at ha;exact .inl ha
 ·rw[List.cons_append,v9,Zw ho]at ha;rcases aA ha with q|q
  ·exact .inl (hf a q)
  ·exact .inl q
theorem stay{K:Frag}{T L1 L2:Ls}{H1 H2:Hp}(w:World K H1 (L1++T))(s:Step H1 L1 H2 L2)(w2:World K H2 L2):World K H2 (L2++T)/\Step H1 (L1++T) H2 (L2++T):=⟨s.frame w w2 w.left,s.frm⟩
theorem Step.dropT{T:Ls}{H1:Hp}{L1:Ls}:Step H1 (L1++T) H1 L1:=⟨λ_ _ h _=>h,λa ha=>.inl (by rw[jX];exact ll9 _ ha),λa ha=>.inl (by rw[kZ];exact ll9 _ ha)⟩
theorem Kp.trans{H H1 H2:Hp}{as:List Addr}(a:Kp H H1 as)(b:Kp H1 H2 as):Kp H H2 as:=⟨λc xs e=>b.1 c xs (a.1 c xs e),λc o u e=>b.2.1 c o u (a.2.1 c o u e),λc hc ob e=>b.2.2 c hc ob (a.2.2 c hc ob e)⟩
theorem kzm{K:Frag}{H2 H3:Hp}{L2 L3:Ls}{T:List Sl}(w:World K H2 (L2++T.map some))(hT:∀t∈T,t.o=.no)(s:Step H2 L2 H3 L3){H0:Hp}(h:∀t∈T,Kp H0 H2 t.as):∀t∈T,Kp H0 H3 t.as:=λt ht=>
 (h t ht).trans (s.kp w.left λb hb z=>w.ds b (by rw[jX];exact ll9 _ z) (by
  rw[kZ];exact lr9 _ (mem_frozen.mpr ⟨t,Xk ht,by rw[Zw (hT t ht)];exact hb⟩)))
theorem vzn(hp:PassesOwn (model X.prog X.w) X.A X.env X.xe)(hc:X.calm=true)(hi:QID X Z q tg it b6)(hg:QG X Z pn t tg)(hb:QSs X Z pn B ss)(hs:autoParam (∀x,foldedSetIterable b6 X.env x=pure x) Ŗ):QS X Z pn (v3 it t B) (.For tg b6 ss [] pos):=zQ (wj1 hp hc hi hg hb hs) λD O H b7=>ex7 b7 λE L r m w hr k=>by
 have hr:ofE (it E) (λE ds=>JY t B ds E)=some r:=hr;rcases XY hr with⟨E1,ds,h1,h2⟩|⟨E1,c,h1,rfl⟩
 rotate_left
 ·exact⟨E,L,_,m,w,h1,k.xc,λE' s' z=>by cases z⟩
 refine⟨E,L,_,m,w,h1,(λ_ _ z=>by cases z),λE' ds' z J T L' H' m' w' st hz _ wk=>?_⟩;injection z with z1 z2;subst z1 z2;have jn:∀{H2:Hp} {L2:Ls},World Z.K H2 (L2++T.map some)->∀t∈T,t.ok Z.K H2:=λw2 t ht=>w2.ok t (lr9 _ (Xk ht))
 refine⟨λi n σ1 H1=>∃E1 L1,Mt E1 σ1 L1/\World Z.K H1 (L1++T.map some)/\Step H L H1 (L1++T.map some)/\Pn pn O σ1/\JY t B (ds.drop i) E1=some r/\i<=ds.length/\n=ds.length - i/\∀t∈T,Kp H' H1 t.as,⟨_,E1,L',m',w',st,Pn.refl,h2,Yg _,rfl,λ_ _=>Kp.of_same wZ⟩,?_⟩;rintro i n σ1 H1 ⟨E1,L1,m1,w1,fz,p1,f1,hi,rfl,pins⟩
 by_cases cx:i<ds.length
 ·have hd:ds.drop i=ds[i]::ds.drop (i+1):=List.drop_eq_getElem_cons cx;rw [hd]at f1;unfold JY at f1;cases cg:t.put ds[i] E1 with
  | none=>rw[cg]at f1;cases f1
  | some E2=>
   rw[cg]at f1;dsimp only at f1;refine .inr ⟨wk.go i H1 ⟨jn w1,pins⟩ cx,fun σ2 H2=>∃E2 L2,Mt E2 σ2 L2/\World Z.K H2 (L2++T.map some)/\Step H L H2 (L2++T.map some)/\Pn pn O σ2/\JY t B (ds.drop (i+1)) E2=some r/\∀t∈T,Kp H' H2 t.as,fun σ2 H2 ⟨E2,L2,a1,a2,a3,a4,a5,a6⟩=>⟨ds.length - (i+1),⋯,E2,L2,a1,a2,a3,a4,a5,cx,rfl,a6⟩,λv H2 hy=>?_⟩;obtain⟨z,zo,zd,zv,sm,sj,zas⟩:=wk.yld i H1 v H2 ds[i] ⟨jn w1,pins⟩ hy (X3 cx);obtain⟨wz,sz⟩:=kke w1 wk.no sm sj zo zas;refine⟨E1,L1,z,E2,m1,wz.left,zo,zv,by rw[zd];exact cg,fun σ2 L2 p2 m2 w2 c8=>?_⟩;obtain⟨w3,fc⟩:=stay wz c8 w2;have iw:Step H L H2 (L2++T.map some):=fz.trans (sz.trans fc);have mn:∀t∈T,Kp H' H2 t.as:=λt ht=>(pins t ht).trans (Kp.of_same sm)
   cases hB:B E2 with
   | none=>rw[hB]at f1;cases f1
   | some g=>
    rw[hB]at f1;refine⟨E2,L2,g,m2,w2,hB,?_⟩;have fin:∀{g:Fl},g=r->(∀ σ',D.nx σ'=D.nx σ')->FlP Z pn D σ2 H2 (L2++T.map some) g:=λe _=>e▸k.step iw (p1.trans p2)
    cases g with
    |nx E3=>
     intro σ3 L3 H3 p3 m3 w4 s3;obtain⟨w5,s5⟩:=stay w3 s3 w4;exact⟨E3,L3,m3,w5,iw.trans s5,(p1.trans p2).trans p3,f1,kzm w3 wk.no s3 mn⟩
    |ct E3=>
     intro σ3 L3 H3 p3 m3 w4 s3;obtain⟨w5,s5⟩:=stay w3 s3 w4;exact⟨E3,L3,m3,w5,iw.trans s5,(p1.trans p2).trans p3,f1,kzm w3 wk.no s3 mn⟩
    |bk E3=>
     have e:=oq9 f1;subst e;intro σ3 L3 H3 p3 m3 w4 s3;exact k σ3 L3 H3 ((p1.trans p2).trans p3) m3 w4 ((iw.trans Step.dropT).trans s3)
    |rt E3 x=>
     have e:=oq9 f1;subst e;intro y σ3 L3 H3 e1 e2 p3 m3 w4 s3;exact k y σ3 L3 H3 e1 e2 ((p1.trans p2).trans p3) m3 w4 ((iw.trans Step.dropT).trans s3)
    |xc E3 c=>
     have e:=oq9 f1;subst e;intro C σ3 L3 H3 hm p3 m3 w4 s3;exact k C σ3 L3 H3 hm ((p1.trans p2).trans p3) m3 w4 ((iw.trans Step.dropT).trans s3)
 ·have e:i=ds.length:=⋯
  subst e;rw[List.drop_length]at f1;cases oq9 f1;exact .inl ⟨wk.stop H1 ⟨jn w1,pins⟩,k σ1 L1 H1 p1 m1 w1.left (fz.trans Step.dropT)⟩
theorem wvt(hp:PassesOwn (model X.prog X.w) X.A X.env X.xe)(hc:X.calm=true)(hi:QI X Z q tg it b6)(hg:QG X Z pn t tg)(hb:QSs X Z pn B ss)(hs:autoParam (∀x,foldedSetIterable b6 X.env x=pure x) Ŗ):QS X Z pn (v3 it t B) (.For tg b6 ss [] pos):=vzn hp hc hi.D hg hb hs
end
mutual
noncomputable def jw(h:Heap):D->Value->Prop
 |.non,u=>u=.none|.bl b,u=>u=.bool b|.int i,u=>∃t,u=.int i t|.str z,u=>∃t,u=.str z t|.tup ds,u=>∃a us,u=.ref a/\h.IsTuple a us.toArray/\CReps h ds us|.lst ds,u=>∃a us,u=.ref a/\h.IsList a us.toArray/\CReps h ds us|.dct _,_=>False|.obj _ _,_=>False
noncomputable def CReps(h:Heap):List D->List Value->Prop
 |[],us=>us=[]|d::ds,us=>∃u r,us=u::r/\jw h d u/\CReps h ds r
end
theorem qj7{n:Nat}{k:List (D×D)}:D.flat n (.dct k)=false:=by cases n<;>simp[D.flat]
theorem qj6{n:Nat}{c:Str}{k:List (Str×D)}:D.flat n (.obj c k)=false:=by cases n<;>simp[D.flat]
section
variable {X:Cx}{pins:List (Addr×Obj)}{O:L2.St}{H:Hp}{s:Shared}
mutual
theorem Q7(I:Inv X pins O H s){g:Bool}:∀{n:Nat} {d:D} {v:V} {as:List Addr} {u:Value},RepL X.K H g d v as->d.flat n=true->RelV v u->jw s.heap d u
 | _,.non,_,_,_,h,_,r=>by
  unfold RepL at h;rw[h.1]at r;unfold jw;exact r
 | _,.bl _,_,_,_,h,_,r=>by
  unfold RepL at h;rw[h.1]at r;unfold jw;exact r
 | _,.int _,_,_,_,h,_,r=>by
  unfold RepL at h;rw[h.1]at r;unfold jw;exact r
 | _,.str _,_,_,_,h,_,r=>by
  unfold RepL at h;rw[h.1]at r;unfold jw;exact r
 | 0,.tup ds,_,_,_,h,f,r=>by unfold D.flat at f;cases f
 | n+1,.tup ds,_,_,_,h,f,r=>by
  unfold RepL at h;unfold D.flat at f;obtain⟨a,xs,rfl,q,ra⟩:=h;cases r;obtain⟨ah,rv,p,_⟩:=I.tuple q;unfold jw;exact⟨a,ah,rfl,p,creps_of I ra f rv⟩
 | 0,.lst ds,_,_,_,h,f,r=>by unfold D.flat at f;cases f
 | n+1,.lst ds,_,_,_,h,f,r=>by
  unfold RepL at h;unfold D.flat at f;obtain⟨a,xs,bs,rfl,ra,q⟩:=h;cases r;have q':SqL X.K H a xs:=by
   rcases q with⟨q,_⟩|⟨_,q,_⟩
   ·exact SqL.of q
   ·exact(LsR.of q).sq
  obtain⟨ah,rv,p,_⟩:=I.list q';unfold jw;exact⟨a,ah,rfl,p.isList,creps_of I ra f rv⟩
 |_,.dct _,_,_,_,h,f,r=>by rw[qj7]at f;cases f|_,.obj _ _,_,_,_,h,f,r=>by rw[qj6]at f;cases f
theorem creps_of(I:Inv X pins O H s){g:Bool}:∀{n:Nat} {ds:List D} {xs:List V} {as:List Addr} {us:List Value},RepA X.K H g ds xs as->D.flats n ds=true->Vals xs us->CReps s.heap ds us
 | _,[],_,_,_,h,_,r=>by
  unfold RepA at h;rw[h.1]at r;cases r;unfold CReps;rfl
 | n,d::ds,_,_,_,h,f,r=>by
  unfold RepA at h;unfold D.flats at f;rw[Bool.and_eq_true]at f;obtain⟨x,rr,bs,cs,rfl,rfl,h1,h2⟩:=h;cases r with
  |cons r1 r2=>
   unfold CReps;exact⟨_,_,rfl,Q7 I h1 f.1 r1,creps_of I h2 f.2 r2⟩
end
end
theorem CReps.len{h:Heap}:∀{ds:List D} {us:List Value},CReps h ds us->ds.length=us.length
 |[],_,r=>by unfold CReps at r;rw[r];rfl
 |d::ds,_,r=>by
  unfold CReps at r;obtain⟨u,rr,rfl,_,h2⟩:=r;simp[CReps.len h2]
theorem CReps.get{h:Heap}:∀{ds:List D} {us:List Value} {j:Nat} {d:D},CReps h ds us->ds[j]?=some d->∃u,us[j]?=some u/\jw h d u
 | [],_,_,_,_,e=>by simp at e
 | d::ds,_,j,d',r,e=>by
  unfold CReps at r;obtain⟨u,rr,rfl,h1,h2⟩:=r;cases j with
  |zero=>
   have e:d=d':=by simpa using e
   subst e;exact⟨u,by simp,h1⟩
  |succ j=>
   obtain⟨w,e1,e2⟩:=CReps.get (j:=j) h2 (by simpa using e);exact⟨w,by simpa using e1,e2⟩
theorem vq6{h:Heap}{a:Addr}{x y:Array Value}(p:h.IsTuple a x)(q:h.IsTuple a y):x=y:=by
 obtain⟨o,h1,_,n,h2⟩:=p;obtain⟨o',h3,_,n',h4⟩:=q;rw[h1]at h3;cases h3;rw[h2]at h4;injection h4
theorem vvq{h:Heap}{a:Addr}{x y:Array Value}(p:h.IsList a x)(q:h.IsList a y):x=y:=by
 obtain⟨o,h1,_,n,h2⟩:=p;obtain⟨o',h3,_,n',h4⟩:=q;rw[h1]at h3;cases h3;rw[h2]at h4;injection h4
theorem qvr{h:Heap}{a:Addr}{x y:Array Value}(p:h.IsList a x)(q:h.IsTuple a y):False:=by
 obtain⟨o,h1,h2,_⟩:=p;obtain⟨o',h3,h4,_⟩:=q;rw[h1]at h3;cases h3;rw[h2]at h4;exact absurd (Value.type.inj h4) ⋯
mutual
theorem jzp{h:Heap}:∀{d d':D} {u:Value},jw h d u->jw h d' u->d=d'
 | .non,d',u,a,b=>by
  unfold jw at a;subst a;cases d'<;>unfold jw at b<;>first|rfl|exact b.elim|(cases b;done)|(obtain⟨_,b⟩:=b;cases b;done)|(obtain⟨_,_,b,_⟩:=b;cases b)
 | .bl k,d',u,a,b=>by
  unfold jw at a;subst a;cases d'<;>unfold jw at b<;>first|exact b.elim|(cases b;rfl)|(cases b;done)|(obtain⟨_,b⟩:=b;cases b;done)|(obtain⟨_,_,b,_⟩:=b;cases b)
 | .int k,d',u,a,b=>by
  unfold jw at a;obtain⟨t,rfl⟩:=a;cases d'<;>unfold jw at b<;>first|exact b.elim|(cases b;done)|(obtain⟨_,b⟩:=b;cases b;rfl)|(obtain⟨_,b⟩:=b;cases b;done)|(obtain⟨_,_,b,_⟩:=b;cases b)
 | .str k,d',u,a,b=>by
  unfold jw at a;obtain⟨t,rfl⟩:=a;cases d'<;>unfold jw at b<;>first|exact b.elim|(cases b;done)|(obtain⟨_,b⟩:=b;cases b;rfl)|(obtain⟨_,b⟩:=b;cases b;done)|(obtain⟨_,_,b,_⟩:=b;cases b)
 | .tup ds,d',u,a,b=>by
  unfold jw at a;obtain⟨x,us,rfl,p,r⟩:=a;cases d' with
  |tup es=>
   unfold jw at b;obtain⟨y,ws,e,p',r'⟩:=b;cases e;have e2:us=ws:=by simpa using vq6 p p'
   subst e2;rw[creps_inj r r']
  |lst es=>
   unfold jw at b;obtain⟨y,ws,e,p',r'⟩:=b;cases e;exact(qvr p' p).elim
  |non=>unfold jw at b;cases b|bl k=>unfold jw at b;cases b|int k=>unfold jw at b;obtain⟨_,b⟩:=b;cases b|str k=>unfold jw at b;obtain⟨_,b⟩:=b;cases b|dct k=>unfold jw at b;exact b.elim|obj k l=>unfold jw at b;exact b.elim
 | .lst ds,d',u,a,b=>by
  unfold jw at a;obtain⟨x,us,rfl,p,r⟩:=a;cases d' with
  |lst es=>
   unfold jw at b;obtain⟨y,ws,e,p',r'⟩:=b;cases e;have e2:us=ws:=by simpa using vvq p p'
   subst e2;rw[creps_inj r r']
  |tup es=>
   unfold jw at b;obtain⟨y,ws,e,p',r'⟩:=b;cases e;exact(qvr p p').elim
  |non=>unfold jw at b;cases b|bl k=>unfold jw at b;cases b|int k=>unfold jw at b;obtain⟨_,b⟩:=b;cases b|str k=>unfold jw at b;obtain⟨_,b⟩:=b;cases b|dct k=>unfold jw at b;exact b.elim|obj k l=>unfold jw at b;exact b.elim
 |.dct k,_,_,a,_=>by unfold jw at a;exact a.elim|.obj k l,_,_,a,_=>by unfold jw at a;exact a.elim
theorem creps_inj{h:Heap}:∀{ds ds':List D} {us:List Value},CReps h ds us->CReps h ds' us->ds=ds'
 | [],ds',us,a,b=>by
  unfold CReps at a;subst a;cases ds' with|nil=>rfl|cons d ds=>unfold CReps at b;obtain⟨_,_,e,_⟩:=b;cases e
 | d::ds,ds',us,a,b=>by
  unfold CReps at a;obtain⟨u,r,rfl,h1,h2⟩:=a;cases ds' with
  |nil=>unfold CReps at b;cases b
  |cons d' ds'=>
   unfold CReps at b;obtain⟨u',r',e,h3,h4⟩:=b;cases e;rw[jzp h1 h3,creps_inj h2 h4]
end
mutual
theorem jx4:∀{n:Nat} {d:D},d.flat n=true->peq d d=true
 |_,.non,_=>by unfold peq;rfl|_,.bl b,_=>by unfold peq;simp|_,.int b,_=>by unfold peq;simp|_,.str b,_=>by unfold peq;simp|0,.tup ds,f=>by unfold D.flat at f;cases f|n+1,.tup ds,f=>by unfold peq;unfold D.flat at f;exact peqs_refl f|0,.lst ds,f=>by unfold D.flat at f;cases f|n+1,.lst ds,f=>by unfold peq;unfold D.flat at f;exact peqs_refl f|_,.dct _,f=>by rw[qj7]at f;cases f|_,.obj _ _,f=>by rw[qj6]at f;cases f
theorem peqs_refl:∀{n:Nat} {d:List D},D.flats n d=true->peqs d d=true
 |_,[],_=>by unfold peqs;rfl
 |n,d::ds,f=>by
  unfold D.flats at f;rw[Bool.and_eq_true]at f;unfold peqs;rw[jx4 f.1,peqs_refl f.2];rfl
end
theorem jxa : ∀{n : Nat} {ds : List D} {j : Nat} {d : D}, D.flats n ds = true -> ds[j]? = some d -> d.flat n = true
  | _, [], _, _, _, e=>by simp at e
  | n, d::ds, j, d', f, e=>by
    unfold D.flats at f;rw[Bool.and_eq_true]at f;cases j with
    | zero => have e : d = d':= by simpa using e
              subst e; exact f.1
    |succ j=>exact jxa (j:= j) f.2 (by simpa using e)
def pAt(as bs:List D)(j:Nat):Bool:=match as[j]?,bs[j]? with
 |some a,some b=>peq a b|_,_=>true
theorem jwc:∀(as bs:List D),as.length=bs.length->(List.range as.length).all (pAt as bs)=peqs as bs
 |[],[],_=>by unfold peqs;rfl
 |a::as,b::bs,h=>by
  have ih:=jwc as bs (by simpa using h);rw[Xm,List.range_succ_eq_map,List.all_cons,List.all_map];unfold peqs;rw[<-ih];rfl
 |[],_::_,h=>by simp at h|_::_,[],h=>by simp at h
theorem jzl:∀(as bs:List D),as.length≠bs.length->peqs as bs=false
 |[],[],h=>by simp at h
 |a::as,b::bs,h=>by
  unfold peqs;rw[jzl as bs (by simpa using h),Bool.and_false]
 |[],_::_,_=>by unfold peqs;rfl|_::_,[],_=>by unfold peqs;rfl
theorem kz7(as bs:List D):((List.range (min as.length bs.length)).all (pAt as bs)&&as.length==bs.length)=peqs as bs:=by
 by_cases e:as.length=bs.length
 ·rw[<-e,Nat.min_self,jwc as bs e];simp[e]
 ·rw[jzl as bs e];have:(as.length==bs.length)=false:=by simpa using e
  rw[this,Bool.and_false]
section
variable {s:Shared}
theorem kx8{as bs:List D}{us ws:List Value}{A:Around}(ra:CReps s.heap as us)(rb:CReps s.heap bs ws)
  (h:∀(j:Nat) (d d':D) (u w:Value),as[j]?=some d->bs[j]?=some d'->jw s.heap d u->jw s.heap d' w->SeqAt.EqAt A s u w (peq d d')):
  ∀j (h1:j<us.toArray.size) (h2:j<ws.toArray.size),SeqAt.EqAt A s us.toArray[j] ws.toArray[j] (pAt as bs j):=λj h1 h2=>by
 have l1:=ra.len;have l2:=rb.len;simp only[X5]at h1 h2;have ha:j<as.length:=⋯
 have hb:j<bs.length:=⋯
 obtain⟨u,eu,ru⟩:=ra.get (X3 ha);obtain⟨w,ew,jb⟩:=rb.get (X3 hb);have e1:us.toArray[j]=u:=by
  obtain⟨_,q⟩:=List.getElem?_eq_some_iff.mp eu
  simpa using q
 have e2:ws.toArray[j]=w:=by
  obtain⟨_,q⟩:=List.getElem?_eq_some_iff.mp ew
  simpa using q
 have e3:pAt as bs j=peq as[j] bs[j]:=by
  unfold pAt;rw[X3 ha,X3 hb]
 rw[e1,e2,e3];exact h j _ _ u w (X3 ha) (X3 hb) ru jb
inductive Cv (h:Heap):D->Value->Prop
 |non:Cv h .non .none
 |bl (b:Bool):Cv h (.bl b) (.bool b)
 |int (i:Int) (t:_):Cv h (.int i) (.int i t)
 |str (z:Str) (t:_):Cv h (.str z) (.str z t)
 |lst {ds:List D} {a:Addr} {us:List Value} (p:h.IsList a us.toArray) (q:CReps h ds us):Cv h (.lst ds) (.ref a)
 |tup {ds:List D} {a:Addr} {us:List Value} (p:h.IsTuple a us.toArray) (q:CReps h ds us):Cv h (.tup ds) (.ref a)
theorem crv{h:Heap}{d:D}{u:Value}(r:jw h d u):Cv h d u:=by
 cases d<;>unfold jw at r
 all_goals first|exact r.elim|(subst r;constructor)|(obtain⟨_,rfl⟩:=r;constructor)|(obtain⟨_,_,rfl,p,q⟩:=r;first|exact .lst p q|exact .tup p q)
theorem vz7{A:Around}{d d':D}{u w:Value}(hu:A.units<cLine)(r:jw s.heap d u)(r':jw s.heap d' w)
  (el:∀(as bs:List D) (us ws:List Value),(d=.lst as\/d=.tup as)->(d'=.lst bs\/d'=.tup bs)->CReps s.heap as us->CReps s.heap bs ws->∀j (h1:j<us.toArray.size) (h2:j<ws.toArray.size),SeqAt.EqAt A.in1 s us.toArray[j] ws.toArray[j] (pAt as bs j)):
  SeqAt.RcAt A s u w (peq d d'):=by
 cases crv r<;>cases crv r'<;>unfold peq
 ·exact SeqAt.RcAt.none_none
 ·exact SeqAt.RcAt.none_bool _
 ·exact SeqAt.RcAt.none_int _ _
 ·exact SeqAt.RcAt.none_str _ _
 ·exact SeqAt.RcAt.none_list ‹_› hu
 ·exact SeqAt.RcAt.none_tuple ‹_› hu
 ·exact SeqAt.RcAt.bool_none _
 ·exact SeqAt.RcAt.bool_bool _ _
 ·exact SeqAt.RcAt.bool_int _ _ _
 ·exact SeqAt.RcAt.bool_str _ _ _
 ·exact SeqAt.RcAt.bool_list _ ‹_› hu
 ·exact SeqAt.RcAt.bool_tuple _ ‹_› hu
 ·exact SeqAt.RcAt.int_none _ _
 ·exact SeqAt.RcAt.int_bool _ _ _
 ·exact SeqAt.RcAt.int_int _ _ _ _
 ·exact SeqAt.RcAt.int_str _ _ _ _
 ·exact SeqAt.RcAt.int_list _ _ ‹_› hu
 ·exact SeqAt.RcAt.int_tuple _ _ ‹_› hu
 ·exact SeqAt.RcAt.str_none _ _
 ·exact SeqAt.RcAt.str_bool _ _ _
 ·exact SeqAt.RcAt.str_int _ _ _ _
 ·exact SeqAt.RcAt.str_str _ _ _ _
 ·exact SeqAt.RcAt.str_list _ _ ‹_› hu
 ·exact SeqAt.RcAt.str_tuple _ _ ‹_› hu
 ·exact SeqAt.RcAt.list_none ‹_› hu
 ·exact SeqAt.RcAt.list_bool _ ‹_› hu
 ·exact SeqAt.RcAt.list_int _ _ ‹_› hu
 ·exact SeqAt.RcAt.list_str _ _ ‹_› hu
 ·rename_i as a us p ra bs b ws p' rb;have l1:=ra.len;have l2:=rb.len
  by_cases hl:as.length=bs.length
  ·rw[<-jwc as bs hl];have z:=SeqAt.RcAt.lists (A:=A) (s:=s) (e:=pAt as bs) p p' (by simp only[X5];omega) hu (el as bs us ws (.inl rfl) (.inl rfl) ra rb);rw[X5,<-l1]at z;exact z
  ·rw[jzl as bs hl];exact SeqAt.RcAt.lists_lengths p p' (by simp only[X5,bne_iff_ne];omega) hu
 ·exact SeqAt.RcAt.list_tuple ‹_› ‹_› hu
 ·exact SeqAt.RcAt.tuple_none ‹_› hu
 ·exact SeqAt.RcAt.tuple_bool _ ‹_› hu
 ·exact SeqAt.RcAt.tuple_int _ _ ‹_› hu
 ·exact SeqAt.RcAt.tuple_str _ _ ‹_› hu
 ·exact SeqAt.RcAt.tuple_list ‹_› ‹_› hu
 ·rename_i as a us p ra bs b ws p' rb;have l1:=ra.len;have l2:=rb.len;rw[<-kz7 as bs];have z:=SeqAt.RcAt.tuples (A:=A) (s:=s) (e:=pAt as bs) p p' hu (el as bs us ws (.inr rfl) (.inr rfl) ra rb);rw[X5,X5,<-l1,<-l2]at z;exact z
theorem wvh{A:Around}{d d':D}{u w:Value}(hu:A.units<cLine)(r:jw s.heap d u)(r':jw s.heap d' w)
  (el:∀(as bs:List D) (us ws:List Value),(d=.lst as\/d=.tup as)->(d'=.lst bs\/d'=.tup bs)->CReps s.heap as us->CReps s.heap bs ws->∀j (h1:j<us.toArray.size) (h2:j<ws.toArray.size),SeqAt.EqAt A.in1 s us.toArray[j] ws.toArray[j] (pAt as bs j)):
  SeqAt.RcNeAt A s u w (!peq d d'):=by
 cases crv r<;>cases crv r'<;>unfold peq
 ·exact SeqAt.RcNeAt.none_none
 ·exact SeqAt.RcNeAt.none_bool _
 ·exact SeqAt.RcNeAt.none_int _ _
 ·exact SeqAt.RcNeAt.none_str _ _
 ·exact SeqAt.RcNeAt.none_list ‹_› hu
 ·exact SeqAt.RcNeAt.none_tuple ‹_› hu
 ·exact SeqAt.RcNeAt.bool_none _
 ·exact SeqAt.RcNeAt.bool_bool _ _
 ·exact SeqAt.RcNeAt.bool_int _ _ _
 ·exact SeqAt.RcNeAt.bool_str _ _ _
 ·exact SeqAt.RcNeAt.bool_list _ ‹_› hu
 ·exact SeqAt.RcNeAt.bool_tuple _ ‹_› hu
 ·exact SeqAt.RcNeAt.int_none _ _
 ·exact SeqAt.RcNeAt.int_bool _ _ _
 ·exact SeqAt.RcNeAt.int_int _ _ _ _
 ·exact SeqAt.RcNeAt.int_str _ _ _ _
 ·exact SeqAt.RcNeAt.int_list _ _ ‹_› hu
 ·exact SeqAt.RcNeAt.int_tuple _ _ ‹_› hu
 ·exact SeqAt.RcNeAt.str_none _ _
 ·exact SeqAt.RcNeAt.str_bool _ _ _
 ·exact SeqAt.RcNeAt.str_int _ _ _ _
 ·exact SeqAt.RcNeAt.str_str _ _ _ _
 ·exact SeqAt.RcNeAt.str_list _ _ ‹_› hu
 ·exact SeqAt.RcNeAt.str_tuple _ _ ‹_› hu
 ·exact SeqAt.RcNeAt.list_none ‹_› hu
 ·exact SeqAt.RcNeAt.list_bool _ ‹_› hu
 ·exact SeqAt.RcNeAt.list_int _ _ ‹_› hu
 ·exact SeqAt.RcNeAt.list_str _ _ ‹_› hu
 ·rename_i as a us p ra bs b ws p' rb;have l1:=ra.len;have l2:=rb.len
  by_cases hl:as.length=bs.length
  ·rw[<-jwc as bs hl];have z:=SeqAt.RcNeAt.lists (A:=A) (s:=s) (e:=pAt as bs) p p' (by simp only[X5];omega) hu (el as bs us ws (.inl rfl) (.inl rfl) ra rb);rw[X5,<-l1]at z;exact z
  ·rw[jzl as bs hl];exact SeqAt.RcNeAt.lists_lengths p p' (by simp only[X5,bne_iff_ne];omega) hu
 ·exact SeqAt.RcNeAt.list_tuple ‹_› ‹_› hu
 ·exact SeqAt.RcNeAt.tuple_none ‹_› hu
 ·exact SeqAt.RcNeAt.tuple_bool _ ‹_› hu
 ·exact SeqAt.RcNeAt.tuple_int _ _ ‹_› hu
 ·exact SeqAt.RcNeAt.tuple_str _ _ ‹_› hu
 ·exact SeqAt.RcNeAt.tuple_list ‹_› ‹_› hu
 ·rename_i as a us p ra bs b ws p' rb;have l1:=ra.len;have l2:=rb.len;rw[<-kz7 as bs];have z:=SeqAt.RcNeAt.tuples (A:=A) (s:=s) (e:=pAt as bs) p p' hu (el as bs us ws (.inr rfl) (.inr rfl) ra rb);rw[X5,X5,<-l1,<-l2]at z;exact z
theorem kql{A:Around}{a a':Addr}{b:Bool}(ly:Value.ref a=Value.ref a'->b=true)(rc:SeqAt.RcAt A s (.ref a) (.ref a') b):SeqAt.EqAt A s (.ref a) (.ref a') b:=by
 by_cases e:a=a'
 ·subst e;rw[ly rfl];exact SeqAt.EqAt.same _
 ·exact SeqAt.EqAt.of_refs e rc
theorem wwq{A:Around}{d d':D}{u w:Value}(hu:A.units<cLine)(r:jw s.heap d u)(r':jw s.heap d' w)(ly:u=w->peq d d'=true)(rc:SeqAt.RcAt A s u w (peq d d')):SeqAt.EqAt A s u w (peq d d'):=by
 cases crv r<;>cases crv r'<;>try unfold peq
 ·exact SeqAt.EqAt.same _
 ·exact SeqAt.EqAt.none_bool _
 ·exact SeqAt.EqAt.none_int _ _
 ·exact SeqAt.EqAt.none_str _ _
 ·exact SeqAt.EqAt.none_list ‹_› hu
 ·exact SeqAt.EqAt.none_tuple ‹_› hu
 ·exact SeqAt.EqAt.bool_none _
 ·exact SeqAt.EqAt.bool_bool _ _
 ·exact SeqAt.EqAt.bool_int _ _ _
 ·exact SeqAt.EqAt.bool_str _ _ _
 ·exact SeqAt.EqAt.bool_list _ ‹_› hu
 ·exact SeqAt.EqAt.bool_tuple _ ‹_› hu
 ·exact SeqAt.EqAt.int_none _ _
 ·exact SeqAt.EqAt.int_bool _ _ _
 ·exact SeqAt.EqAt.int_int _ _ _ _
 ·exact SeqAt.EqAt.int_str _ _ _ _
 ·exact SeqAt.EqAt.int_list _ _ ‹_› hu
 ·exact SeqAt.EqAt.int_tuple _ _ ‹_› hu
 ·exact SeqAt.EqAt.str_none _ _
 ·exact SeqAt.EqAt.str_bool _ _ _
 ·exact SeqAt.EqAt.str_int _ _ _ _
 ·exact SeqAt.EqAt.str_str _ _ _ _
 ·exact SeqAt.EqAt.str_list _ _ ‹_› hu
 ·exact SeqAt.EqAt.str_tuple _ _ ‹_› hu
 ·exact SeqAt.EqAt.list_none ‹_› hu
 ·exact SeqAt.EqAt.list_bool _ ‹_› hu
 ·exact SeqAt.EqAt.list_int _ _ ‹_› hu
 ·exact SeqAt.EqAt.list_str _ _ ‹_› hu
 ·exact kql ly rc
 ·exact kql ly rc
 ·exact SeqAt.EqAt.tuple_none ‹_› hu
 ·exact SeqAt.EqAt.tuple_bool _ ‹_› hu
 ·exact SeqAt.EqAt.tuple_int _ _ ‹_› hu
 ·exact SeqAt.EqAt.tuple_str _ _ ‹_› hu
 ·exact kql ly rc
 ·exact kql ly rc
theorem VY:∀(n:Nat) {d d':D} {u w:Value} {A:Around},d.flat n=true->jw s.heap d u->jw s.heap d' w->A.units+n<cLine->SeqAt.EqAt A s u w (peq d d')
 | n,d,d',u,w,A,f,r,r',hu=>by
  refine wwq ⋯ r r' (λe=>?_) (vz7 ⋯ r r' λas bs us ws h1 h2 ra rb=>?_)
  rotate_left
  ·cases n with
   |zero=>rcases h1 with rfl|rfl<;>(unfold D.flat at f;cases f)
   |succ n=>
    have fs:D.flats n as=true:=by rcases h1 with rfl|rfl<;>(unfold D.flat at f;exact f)
    exact kx8 ra rb λj d d' u w e1 e2 q1 q2=>VY n (jxa fs e1) q1 q2 (by have:=L3.in1_units A;omega)
  ·subst e;rw[jzp r' r];exact jx4 f
end
section
variable {X:Cx}{Z:Fx0}{K:Frag}
def wxo(K:Frag):R2:=λx y H Q=>∃d d' as bs,RepL K H true d x as/\RepL K H true d' y bs/\d.flat 40=true/\d'.flat 40=true/\Q (.bl (peq d d')) H
def wxi(K:Frag):R2:=λx y H Q=>∃d d' as bs,RepL K H true d x as/\RepL K H true d' y bs/\d.flat 40=true/\d'.flat 40=true/\Q (.bl (!peq d d')) H
theorem wv(hu:X.A.units+64<cLine)(hK:autoParam (X.K=K) Ŕ):OpR X (compareOp .Eq) (wxo K):=by
 subst hK;intro pins s O H x y v u Q I rx ry h;obtain⟨d,d',as,bs,h1,h2,f1,f2,q⟩:=h;have c1:=Q7 I h1 f1 rx;have c2:=Q7 I h2 f2 ry;refine vz7 ⋯ c1 c2 (λas bs us ws e1 e2 ra rb=>kx8 ra rb λj d d' u w e3 e4 q1 q2=>?_) _ _ _ _ ⟨.bl _,H,I,rfl,q⟩;have fs:D.flats 39 as=true:=by rcases e1 with rfl|rfl<;>(unfold D.flat at f1;exact f1)
 exact VY 39 (jxa fs e3) q1 q2 (by have:=L3.in1_units X.A;omega)
theorem qve(hu:X.A.units+64<cLine)(hK:autoParam (X.K=K) Ŕ):OpR X (compareOp .NotEq) (wxi K):=by
 subst hK;intro pins s O H x y v u Q I rx ry h;obtain⟨d,d',as,bs,h1,h2,f1,f2,q⟩:=h;have c1:=Q7 I h1 f1 rx;have c2:=Q7 I h2 f2 ry;refine wvh ⋯ c1 c2 (λas bs us ws e1 e2 ra rb=>kx8 ra rb λj d d' u w e3 e4 q1 q2=>?_) _ _ _ _ ⟨.bl _,H,I,rfl,q⟩;have fs:D.flats 39 as=true:=by rcases e1 with rfl|rfl<;>(unfold D.flat at f1;exact f1)
 exact VY 39 (jxa fs e3) q1 q2 (by have:=L3.in1_units X.A;omega)
theorem wx:Ad2 K (wxo K) (pu2 fEq):=by
 intro H x y s Q ox oy hf k;unfold pu2 fEq at hf;dsimp only at hf
 by_cases hc:(x.d.flat 40&&y.d.flat 40)=true
 ·rw[X8 hc]at hf;rw[Bool.and_eq_true]at hc;cases oq9 hf;exact⟨x.d,y.d,x.as,y.as,RepO.wk ox,RepO.wk oy,hc.1,hc.2,k ⟨.dp,.bl _,.bl _,[]⟩ H rfl rfl wX⟩
 ·rw[Xb hc]at hf;cases hf
theorem qxh:Ad2 K (wxi K) (pu2 fNe):=by
 intro H x y s Q ox oy hf k;unfold pu2 fNe at hf;dsimp only at hf
 by_cases hc:(x.d.flat 40&&y.d.flat 40)=true
 ·rw[X8 hc]at hf;rw[Bool.and_eq_true]at hc;cases oq9 hf;exact⟨x.d,y.d,x.as,y.as,RepO.wk ox,RepO.wk oy,hc.1,hc.2,k ⟨.dp,.bl _,.bl _,[]⟩ H rfl rfl wX⟩
 ·rw[Xb hc]at hf;cases hf
end
end Q
namespace Q
open PySem PySem.Spec PyProof.Rows L2 L3
mutual
noncomputable def YJ:D->Nat
 |.tup xs=>drwDs xs+1|_=>1
noncomputable def drwDs:List D->Nat
 |[]=>0|a::x=>YJ a+drwDs x
end
mutual
theorem kzy:∀{n:Nat} {d:D},jV n d=true->d.flat n=true
 |n,.non,_=>by cases n<;>rfl|n,.bl _,h=>by cases n<;>(unfold jV at h;cases h)|n,.int _,_=>by cases n<;>rfl|n,.str _,h=>by cases n<;>(unfold jV at h;cases h)|0,.tup _,h=>by unfold jV at h;cases h|n+1,.tup xs,h=>by unfold jV at h;unfold D.flat;exact keys_flat h|n,.lst _,h=>by cases n<;>(unfold jV at h;cases h)|n,.dct _,h=>by cases n<;>(unfold jV at h;cases h)|n,.obj _ _,h=>by cases n<;>(unfold jV at h;cases h)
theorem keys_flat:∀{n:Nat} {ds:List D},keyDs n ds=true->D.flats n ds=true
 |_,[],_=>by unfold D.flats;rfl
 |n,a::x,h=>by
  unfold keyDs at h;rw[Bool.and_eq_true]at h;unfold D.flats;rw[kzy h.1,keys_flat h.2];rfl
end
mutual
theorem qw1:∀{n m:Nat} {a b:D},jV n a=true->jV m b=true->peq a b=decide (a=b)
 | n,m,.non,b,_,hb=>by
  cases b with| non=>simp[peq]| int _=>simp[peq]| tup _=>simp[peq]| _=>cases m<;>(unfold jV at hb;cases hb)
 | n,m,.int i,b,_,hb=>by
  cases b with| non=>simp[peq]| int j=>by_cases h:i=j<;>simp[peq,h]| tup _=>simp[peq]| _=>cases m<;>(unfold jV at hb;cases hb)
 | 0,_,.tup _,_,ha,_=>by unfold jV at ha;cases ha
 | n+1,m,.tup xs,b,ha,hb=>by
  cases b with
  | non=>simp[peq]| int j=>simp[peq]
  | tup ys=>
   cases m with
   |zero=>unfold jV at hb;cases hb
   |succ m=>
    unfold jV at ha hb;have:=keys_peq ha hb;rw[show peq (.tup xs) (.tup ys)=peqs xs ys by simp[peq],this]
    by_cases h:xs=ys<;>simp[h]
  |_=>cases m<;>(unfold jV at hb;cases hb)
 |n,_,.bl _,_,ha,_=>by cases n<;>(unfold jV at ha;cases ha)|n,_,.str _,_,ha,_=>by cases n<;>(unfold jV at ha;cases ha)|n,_,.lst _,_,ha,_=>by cases n<;>(unfold jV at ha;cases ha)|n,_,.dct _,_,ha,_=>by cases n<;>(unfold jV at ha;cases ha)|n,_,.obj _ _,_,ha,_=>by cases n<;>(unfold jV at ha;cases ha)
theorem keys_peq:∀{n m:Nat} {a b:List D},keyDs n a=true->keyDs m b=true->peqs a b=decide (a=b)
 |_,_,[],[],_,_=>by simp[peqs]|_,_,[],_::_,_,_=>by simp[peqs]|_,_,_::_,[],_,_=>by simp[peqs]
 |n,m,a::x,b::y,ha,hb=>by
  unfold keyDs at ha hb;rw[Bool.and_eq_true]at ha hb;rw[show peqs (a::x) (b::y)=(peq a b&&peqs x y)by simp[peqs],qw1 ha.1 hb.1,keys_peq ha.2 hb.2]
  by_cases h1:a=b<;>by_cases h2:x=y<;>simp[h1,h2]
end
section
variable {prog:Program}{w:PySem.World}{A:Around}{E:Value->Shared->Prop}{s:Shared}
theorem qj4{Q:Int->Shared->Prop}(h:Q 4238894112 { s with toks:=s.toks+1 }):wpAny (model prog w) A (pyHash .none) Q E s:=by
 have ty:s.TypeIs Value.none "NoneType":=rfl;unfold pyHash;unfold pyHashByItsType;refine X0 ?_;rw[cRoomFor,Xb (show ¬([Value.none].any Value.onHeap)=true by decide)];refine X2 (X0 (Ym ty F.slot_NoneType_hash.lookup ?_));show wpAny _ _ (if(some (Value.builtin "NoneType.__hash__")==some Value.none)=true then _ else _) Q E s;rw[Xb (show ¬(some (Value.builtin "NoneType.__hash__")==some Value.none)=true by rw[beq_builtin_none];exact Bool.false_ne_true)];refine X0 (Ym ty F.slot_NoneType_hash.lookup ?_);show wpAny _ _ (callSpecialIfBoundUnlessNone? Value.none "__hash__" _ >>= _) Q E s;refine X0 (wpAny_callSpecialIfBoundUnlessNone?_slot ty F.slot_NoneType_hash (Y0 F.slot_NoneType_hash ty F.entry_NoneType_hash ?_ (F.args_NoneType_hash_1 _)));show wpAny _ _ (retInt 4238894112) _ _ s;refine wpAny_ret_mkInt ?_;show wpAny _ _ (if(decide (-(2:Int) ^ 63<=(4238894112:Int))&&decide ((4238894112:Int)<2 ^ 63))=true then _ else _) Q E _;rw[X8 ⋯];exact X2 h
theorem kjj{d:D}:∀ds:List D,hashDs (ds++[d])=hashDs ds++[V0 d]
 |[]=>by simp[hashDs]|a::x=>by rw[List.cons_append,hashDs,hashDs,kjj x];rfl
theorem kki{d:D}:∀ds:List D,drwDs (ds++[d])=drwDs ds+YJ d
 |[]=>by simp[drwDs]|a::x=>by rw[List.cons_append,drwDs,drwDs,kki x];omega
theorem wkm:∀(n:Nat) {d:D} {u:Value} {A:Around} {s:Shared} {Q:Int->Shared->Prop},jV n d=true->jw s.heap d u->A.units+4*n<cLine->Q (V0 d) { s with toks:=s.toks+YJ d }->wpAny (model prog w) A (pyHash u) Q E s:=by
 intro n
 induction n with
 | zero=>
  intro d u A s Q hk hr hu h;cases d with| non=>unfold jw at hr;subst hr;exact qj4 h| int i=>unfold jw at hr;obtain⟨t,rfl⟩:=hr;exact wpAny_pyHash_int h| _=>unfold jV at hk;cases hk
 | succ n ih=>
  intro d u A s Q hk hr hu h;cases d with
  | non=>unfold jw at hr;subst hr;exact qj4 h| int i=>unfold jw at hr;obtain⟨t,rfl⟩:=hr;exact wpAny_pyHash_int h
  | tup ds=>
   unfold jV at hk;unfold jw at hr;obtain⟨a,us,rfl,ht,hi⟩:=hr;have ty:=ht.typeIs;obtain⟨ob,nr,en,nn,my⟩:=ht;unfold pyHash;unfold pyHashByItsType;refine X0 (wpAny_cRoomFor_or (.inr ⋯) ?_);refine X0 (Ym ty F.slot_tuple_hash.lookup ?_);show wpAny _ _ (if(some (Value.builtin "tuple.__hash__")==some Value.none)=true then _ else _) Q E s;rw [Xb (show ¬(some (Value.builtin "tuple.__hash__")==some Value.none)=true by rw[beq_builtin_none];exact Bool.false_ne_true)];refine X0 (Ym ty F.slot_tuple_hash.lookup ?_);show wpAny _ _ (callSpecialIfBoundUnlessNone? (Value.ref a) "__hash__" _ >>= _) Q E s;refine X0 (wpAny_callSpecialIfBoundUnlessNone?_slot ty F.slot_tuple_hash (Y0 F.slot_tuple_hash ty F.entry_tuple_hash ?_ (F.args_tuple_hash_1 _)));show wpAny _ _ (Builtin.Tuple.tupleItemsOf (Value.ref a) >>= _) _ _ s;refine X0 (wpAny_tupleItemsOf nr my ?_);refine X0 ?_;rw [<-Array.forIn_toList];refine wpAny_forIn_list _ (λjq (b:Array Int) s'=>∃pre post,ds=pre++post/\keyDs n post=true/\CReps s.heap post jq/\b.toList=hashDs pre/\s'={ s with toks:=s.toks+drwDs pre }) _ ?_ ?_ _ _ ⟨[],ds,rfl,hk,hi,rfl,rfl⟩
   ·rintro x jq b s' ⟨pre,post,rfl,jh,hl,hb,rfl⟩;cases post with
    | nil=>unfold CReps at hl;cases hl
    | cons d post=>
     unfold CReps at hl;obtain⟨u1,r1,e1,h1,h2⟩:=hl;injection e1 with e1 e2;subst e1 e2;unfold keyDs at jh;rw[Bool.and_eq_true]at jh;have ru:A.in1.units+4*n<cLine:=by show A.units+1+4*n<cLine;omega
     have fin:∃p q,pre++d::post=p++q/\keyDs n q=true/\CReps s.heap q jq/\(b.push (V0 d)).toList=hashDs p/\({ s with toks:=s.toks+drwDs pre+YJ d }:Shared)={ s with toks:=s.toks+drwDs p }:=
      ⟨pre++[d],post,by simp,jh.2,h2,by rw[kjj,<-hb];simp,by rw[kki,Nat.add_assoc]⟩
     refine X0 (ih jh.1 h1 ru ?_)
     first
      |exact X2 fin
      |exact X0 (X2 (X2 fin))
   ·rintro b s' ⟨pre,post,rfl,jh,hl,hb,rfl⟩;have:post=[]:=by
     cases post with|nil=>rfl|cons d post=>unfold CReps at hl;obtain⟨_,_,z,_⟩:=hl;cases z
    subst this;rw[Xr]at h;show wpAny _ _ (retInt (Builtin.Tuple.tupleHashOf b.toList)) _ _ _;rw[hb];refine wpAny_ret_mkInt ?_;generalize hv:Builtin.Tuple.tupleHashOf (hashDs pre)=v;have h:Q (reduceHash v) { s with toks:=s.toks+drwDs pre+1 }:=by rw[<-hv];unfold V0 YJ at h;rw[Nat.add_assoc];exact h
    show wpAny _ _ (if(decide (-(2:Int) ^ 63<=v)&&decide (v<2 ^ 63))=true then _ else _) Q E _;unfold reduceHash at h
    by_cases hq:(decide (-(2:Int) ^ 63<=v)&&decide (v<2 ^ 63))=true
    ·rw[X8 hq]at h ⊢;exact X2 h
    ·rw[Xb hq]at h ⊢;exact X0 (Zj (X2 h))
  |_=>unfold jV at hk;cases hk
theorem vqk:∀(n m:Nat) {d:D} {u:Value} {A:Around} {s:Shared} {Q:Bool->Shared->Prop},n<=m->jV n d=true->jw s.heap d u->Q true s->wpAny (model prog w) A (eqIsQuiet m u) Q E s:=by
 have byv:∀(m:Nat) {v:Value} {A:Around} {s:Shared} {Q:Bool->Shared->Prop},carriedByValue v=true->Q true s->wpAny (model prog w) A (eqIsQuiet m v) Q E s:=λm v A s Q hv h=>by
  rw [eqIsQuiet_byValue m hv];exact X2 h
 intro n
 induction n with
 | zero=>
  intro m d u A s Q _ hk hr h;cases d with| non=>unfold jw at hr;subst hr;exact byv m rfl h| int i=>unfold jw at hr;obtain⟨t,rfl⟩:=hr;exact byv m rfl h| _=>unfold jV at hk;cases hk
 | succ n ih=>
  intro m d u A s Q hm hk hr h;cases d with
  | non=>unfold jw at hr;subst hr;exact byv m rfl h| int i=>unfold jw at hr;obtain⟨t,rfl⟩:=hr;exact byv m rfl h
  | tup ds=>
   unfold jV at hk;unfold jw at hr;obtain⟨a,us,rfl,ht,hi⟩:=hr;have ty:=ht.typeIs;obtain⟨ob,nr,en,nn,my⟩:=ht;cases m with
   | zero=>omega
   | succ m=>
    unfold eqIsQuiet;refine X0 (Ym ty F.slot_tuple_eq.lookup ?_);show wpAny _ _ (isInstance (Value.ref a) (.type "tuple") >>= _) _ _ s;refine X0 (wpAny_isInstance ty isSubtype_tuple_tuple ?_);simp only[Bool.not_true,Bool.false_eq_true,if_false];refine X0 (Zg nr my (X0 ?_));show wpAny _ _ (forIn us.toArray _ _) _ _ s;rw[<-Array.forIn_toList];refine wpAny_forIn_list _ (λjq r s'=>r.1=none/\s'=s/\∃post,keyDs n post=true/\CReps s.heap post jq) _ ?_ ?_ _ _ ⟨rfl,rfl,ds,hk,hi⟩
    ·rintro v jq r s' ⟨hr,rfl,post,jh,hl⟩;cases post with
     |nil=>unfold CReps at hl;cases hl
     |cons d post=>
      unfold CReps at hl;obtain⟨u1,r1,e1,h1,h2⟩:=hl;injection e1 with e1 e2;subst e1 e2;unfold keyDs at jh;rw[Bool.and_eq_true]at jh;refine X0 (ih m ⋯ jh.1 h1 ?_);simp only[Bool.not_true,Bool.false_eq_true,if_false];exact X2 ⟨rfl,rfl,post,jh.2,h2⟩
    ·rintro ⟨r1,r2⟩ s' ⟨hr,rfl,_⟩;simp only at hr;subst hr;exact X2 h
  |_=>unfold jV at hk;cases hk
end
mutual
theorem kkj{h h':Heap}{x:Addr}{o:Obj}{es:Array DictEntry}{ep:Nat}(ho:h.get? x=some o)(hd:o.data=.dict es ep)(hs:Heap.SameBut x h h'):∀{n:Nat} {d:D} {u:Value},jV n d=true->jw h d u->jw h' d u
 | _,.non,_,_,r=>by unfold jw at r ⊢;exact r| n,.bl _,_,hk,_=>by cases n<;>(unfold jV at hk;cases hk)| _,.int _,_,_,r=>by unfold jw at r ⊢;exact r| n,.str _,_,hk,_=>by cases n<;>(unfold jV at hk;cases hk)| 0,.tup _,_,hk,_=>by unfold jV at hk;cases hk
 | n+1,.tup ds,_,hk,r=>by
  unfold jV at hk;unfold jw at r ⊢;obtain⟨a,us,e,⟨ob,nr,hc,nn,my⟩,hi⟩:=r;have bt:a≠x:=by
   rintro rfl;rw[ho]at nr;cases nr;rw[hd]at my;cases my
  exact⟨a,us,e,⟨ob,(hs.2 a bt).trans nr,hc,nn,my⟩,creps_keeps ho hd hs hk hi⟩
 |n,.lst _,_,hk,_=>by cases n<;>(unfold jV at hk;cases hk)|n,.dct _,_,hk,_=>by cases n<;>(unfold jV at hk;cases hk)|n,.obj _ _,_,hk,_=>by cases n<;>(unfold jV at hk;cases hk)
theorem creps_keeps{h h':Heap}{x:Addr}{o:Obj}{es:Array DictEntry}{ep:Nat}(ho:h.get? x=some o)(hd:o.data=.dict es ep)(hs:Heap.SameBut x h h'):∀{n:Nat} {ds:List D} {us:List Value},keyDs n ds=true->CReps h ds us->CReps h' ds us
 |_,[],_,_,r=>by unfold CReps at r ⊢;exact r
 |n,d::ds,_,hk,r=>by
  unfold keyDs at hk;rw[Bool.and_eq_true]at hk;unfold CReps at r ⊢;obtain⟨u,rr,e,h1,h2⟩:=r;exact⟨u,rr,e,kkj ho hd hs hk.1 h1,creps_keeps ho hd hs hk.2 h2⟩
end
noncomputable def ZW(prog:Program)(w:PySem.World):HeapKind prog w Kd where
 is:=λh k a=>jw h k.1 (.ref a)
 hash:=λk=>V0 k.1
 draws:=λk=>YJ k.1
 room:=λA=>A.units+40<cLine
 inj:=λhx hy=>Subtype.ext (jzp hx hy)
 keeps:=fun {h h' k a d o es ep} x ho hd hs=>kkj ho hd hs k.2 x
 pyHash:=fun {A E s k a Q} hu hk h=>wkm 6 k.2 hk (Nat.lt_of_le_of_lt (Nat.add_le_add_left ⋯ _) hu) h
 eqBool:=fun {A E s x y a b Q} hu hx hy h=>by
  have e:peq x.1 y.1=decide (x=y):=by
   rw[qw1 x.2 y.2]
   by_cases z:x=y
   ·rw[Xl z,Xl (congrArg Subtype.val z)]
   ·rw[Xi z,Xi λq=>z (Subtype.ext q)]
  have:=VY (s:=s) 6 (A:=A) (kzy x.2) hx hy (Nat.lt_of_le_of_lt (Nat.add_le_add_left ⋯ _) hu);rw[e]at this;exact this prog w E Q h
 quiet:=fun {A E s k a Q} hk h=>vqk 6 8 ⋯ k.2 hk h
abbrev Sl.sd(x:Sl):Sd:=(x.o,x.d)
def tA(Z:Fx0)(q:Bool)(cs:List Ex):TA:=fun O H Q=>∃E L r,Mt E O L/\World Z.K H L/\q5 cs E=some r/\Xc Z O H L r /\
 ∀E' ys,r=.ok E' ys->∀(xs:List Sl) L' H',xs.map Sl.sd=ys->Mt E' O L'->World Z.K H' (xs.map some++L')->Step H L H' (xs.map some++L')->(q=true->k8 H H'/\∀b∈j7 (xs.map some),H b=none)->Q (xs.map Sl.v) H'
def QA(X:Cx)(Z:Fx0)(q:Bool)(cs:List Ex)(es:List Expr):Prop:=PA X es (tA Z q cs)
theorem kzp{X:Cx}{es:List Expr}{t t':TA}(h:PA X es t)(w:∀ O H Q,t' O H Q->t O H Q):PA X es t':=λpos pins s O H Q I q=>h pos pins s O H Q I (w O H Q q)
section
variable {X:Cx}{Z:Fx0}{pn:List Nat}{q:Bool}{c:Ex}{cs:List Ex}{e:Expr}{es:List Expr}{pos:Pos}{O:L2.St}{H:Hp}{L:Ls}{E:En}
theorem jv:QA X Z true [] []:=kzp wq fun O H Q b7=>ex8 b7 λE L r m w hc xc k=>by
 cases oq9 hc;exact k _ _ rfl [] L H rfl m w Step.refl λ_=>⟨λ_ _ z=>z,λ_ z=>(nomatch z)⟩
theorem j3(h:QE X Z q c e)(hs:QA X Z q cs es)(cq:autoParam (starEach (e::es) X.env=(false,eval e X.env)::starEach es X.env) Ŕ):QA X Z q (c::cs) (e::es):=
 kzp (qZ h hs cq) fun O H Q b7=>ex8 b7 λE L r m w hc xc k=>by
  refine Wk m w (show bnd (c E) _=some r from hc) xc λE1 s h1 x L1 H1 e1 e2 m1 w1 st sm=>?_
  have s1:Step H L H1 L1:=st.trans Step.drop;rcases wK h1 with⟨E2,ys,h2,h3⟩|⟨E2,cc,h2,h3⟩
  ·cases oq9 h3;refine⟨E1,L1,_,m1,w1.tail,h2,(λ_ _ z=>by cases z),λE' ys' z xs L2 H2 e3 m2 w2 c8 dq=>?_⟩;injection z with z1 z2;subst z1 z2;obtain⟨w3,fc⟩:=wkk (T:=[some x]) w1 c8 w2;refine k _ _ rfl (x::xs) L2 H2 (by rw[List.map_cons,e3];simp[Sl.sd,e1,e2]) m2 w3 (st.trans fc) λhq=>?_
   obtain⟨a1,a2⟩:=sm hq;obtain⟨b1,b2⟩:=dq hq;refine⟨qv a1 b1,λb hb=>?_⟩;rw[List.map_cons,kw]at hb;rcases aA hb with z|z
   ·exact a2 b z
   ·exact Jz a1 (b2 b z)
  ·exact⟨E1,L1,_,m1,w1.tail,h2,(xc.step s1).map h3,λE' s' z=>by cases z⟩
end
section
variable {X:Cx}{Z:Fx0}{q:Bool}{cs:List Ex}{es:List Expr}{pos:Pos}{O:L2.St}{H:Hp}{L:Ls}{E:En}{α:Type}
theorem jw7:∀{cs:List Ex} {E E':En} {ys:List Sd},q5 cs E=some (.ok E' ys)->ys.length=cs.length
 | [],E,E',ys,h=>by cases oq9 h;rfl
 | c::cs,E,E',ys,h=>by
  rcases wK (show bnd (c E) _=some _ from h)with⟨E1,x,h1,h2⟩|⟨_,_,_,z⟩
  ·rcases wK h2 with⟨E2,xs,h3,h4⟩|⟨_,_,_,z⟩
   ·cases oq9 h4;rw[Xm,Xm,jw7 h3]
   ·cases z
  ·cases z
theorem vww{F:En->List Sd->Option (Res α)}{r:Res α}{G:List V->Hp->Prop}(m:Mt E O L)(w:World Z.K H L)(h:bnd (q5 cs E) F=some r)(xc:Xc Z O H L r)
  (k:∀E1 ys,F E1 ys=some r->ys.length=cs.length->∀(xs:List Sl) L1 H1,xs.map Sl.sd=ys->Mt E1 O L1->World Z.K H1 (xs.map some++L1)->Step H L H1 (xs.map some++L1)->(q=true->k8 H H1/\∀b∈j7 (xs.map some),H b=none)->G (xs.map Sl.v) H1):tA Z q cs O H G:=by
 rcases wK h with⟨E1,s,h1,h2⟩|⟨E1,c,h1,h2⟩
 ·exact⟨E,L,_,m,w,h1,(λ_ _ z=>by cases z),λE' s' z xs L' H' e1 m' w' st sm=>by
   injection z with z1 z2;subst z1 z2;exact k _ _ h2 (jw7 h1) xs L' H' e1 m' w' st sm⟩
 ·exact⟨E,L,_,m,w,h1,xc.map h2,λE' s' z=>by cases z⟩
theorem jwf{K:Frag}{H:Hp}(g:Bool):∀{xs:List Sl},(∀x∈xs,x.ok K H)->(g=false->∀x∈xs,xk x.sd=true)->∃bs,RepA K H g (xs.map Sl.d) (xs.map Sl.v) bs/\(∀b∈bs,∃x∈xs,b∈x.as)/\(g=false->bs=j7 (xs.map some))/\(g=true->bs=xs.flatMap Sl.as)
 | [],_,_=>⟨[],by unfold RepA;exact⟨rfl,rfl⟩,λ_ h=>(nomatch h),λ_=>rfl,λ_=>rfl⟩
 | x :: xs,h,ht=>by
  obtain⟨bs,r,hb,ho,hg⟩:=jwf g (xs:=xs) (λy hy=>h y (lc9 _ hy)) λhg y hy=>ht hg y (lc9 _ hy)
  have hx:=h x X7;have lc:∃cs,RepL K H g x.d x.v cs/\(∀b∈cs,b∈x.as)/\(g=false->cs=x.own)/\(g=true->cs=x.as):=by
   cases g with
   | true=>exact⟨x.as,RepO.wk hx,λb hb=>hb,(λz=>by cases z),λ_=>rfl⟩
   | false=>
    have t:=ht rfl x X7;unfold xk at t
    by_cases ho:x.o=.dp
    ·refine⟨x.as,?_,λb hb=>hb,λ_=>?_,λz=>by cases z⟩
     ·have:=hx;unfold Sl.ok at this;rw[ho]at this;exact this
     ·unfold Sl.own;rw[ho]
    ·have hp:x.d.pure=true:=by
      rcases Bool.or_eq_true_iff.mp t with z|z
      ·exact absurd (by simpa using z) ho
      ·exact z
     obtain⟨z,rp⟩:=RepL.pu (g':=false) (RepO.wk hx) hp;exact⟨[],rp,λ_ h=>(nomatch h),λ_=>(vve z).symm,λz=>by cases z⟩
  obtain⟨cs,r1,h1,h2,h3⟩:=lc;refine⟨cs++bs,?_,λb dw=>?_,λmv=>?_,λmv=>?_⟩
  ·rw[List.map_cons,List.map_cons];unfold RepA;exact⟨x.v,xs.map Sl.v,cs,bs,rfl,rfl,r1,r⟩
  ·rcases aA dw with z|z
   ·exact⟨x,X7,h1 b z⟩
   ·obtain⟨y,hy,hby⟩:=hb b z;exact⟨y,lc9 _ hy,hby⟩
  ·rw[List.map_cons,kw,h2 mv,ho mv]
  ·rw[Zd,h3 mv,hg mv]
theorem qzt{K:Frag}{H:Hp}{p:Addr}{xs:List Sl}{L:Ls}(w:World K H (xs.map some++L))(hp:H p=none):
  ∃bs,World K (upd H p (.lst (xs.map Sl.v))) (some ⟨.rt,.lst (xs.map Sl.d),.ref p,p::bs⟩::L)/\Step H (xs.map some++L) (upd H p (.lst (xs.map Sl.v))) (some ⟨.rt,.lst (xs.map Sl.d),.ref p,p::bs⟩::L):=by
 obtain⟨bs,r,hb,_,_⟩:=jwf true (xs:=xs) (λx hx=>w.ok x (ll9 _ (Xk hx))) (λz=>by cases z);have ap:∀b∈bs,b∉j7 L:=λb dw hL=>by
  obtain⟨x,hx,gh⟩:=hb b dw;rcases Sl.as_of gh with z|z
  ·have nd:=w.nd;rw[jX,Xe]at nd;exact nd.2.2 b (mem_owned.mpr ⟨x,Xk hx,z⟩) b hL rfl
  ·exact w.ds b (by rw[jX];exact lr9 _ hL) (by rw[kZ];exact ll9 _ (mem_frozen.mpr ⟨x,Xk hx,z⟩))
 have al:∀b∈bs,H b≠none:=λb dw=>by
  obtain⟨x,hx,gh⟩:=hb b dw;exact(w.ok x (ll9 _ (Xk hx))).some gh
 have sr:Src H (xs.map some++L) bs:=λb dw=>by
  obtain⟨x,hx,gh⟩:=hb b dw;rcases Sl.as_of gh with z|z
  ·exact .inr (.inl (by rw[jX];exact ll9 _ (mem_owned.mpr ⟨x,Xk hx,z⟩)))
  ·exact .inl (by rw[kZ];exact ll9 _ (mem_frozen.mpr ⟨x,Xk hx,z⟩))
 have o:Out K H (upd H p (.lst (xs.map Sl.v))) ⟨.rt,.lst (xs.map Sl.d),.ref p,p::bs⟩ bs:=KZ hp r λb hb=>hb
 have st:Step H (xs.map some++L) H L:=⟨λ_ _ h _=>h,λa ha=>.inl (by rw[jX];exact lr9 _ ha),λa ha=>.inl (by rw[kZ];exact lr9 _ ha)⟩;exact⟨bs,Vx (Z:=⟨K,λ_=>none,λ_ _ _=>True⟩) w.right st o ap al sr⟩
theorem qzs{K:Frag}{H:Hp}{p:Addr}{xs:List Sl}{L:Ls}(w:World K H (xs.map some++L))(hp:H p=none):
  ∃bs,World K (upd H p (.tup (xs.map Sl.v))) (some ⟨.no,.tup (xs.map Sl.d),.ref p,bs⟩::L)/\Step H (xs.map some++L) (upd H p (.tup (xs.map Sl.v))) (some ⟨.no,.tup (xs.map Sl.d),.ref p,bs⟩::L):=by
 obtain⟨bs,r,hb,_,_⟩:=jwf true (xs:=xs) (λx hx=>w.ok x (ll9 _ (Xk hx))) (λz=>by cases z);have ap:∀b∈bs,b∉j7 L:=λb dw hL=>by
  obtain⟨x,hx,gh⟩:=hb b dw;rcases Sl.as_of gh with z|z
  ·have nd:=w.nd;rw[jX,Xe]at nd;exact nd.2.2 b (mem_owned.mpr ⟨x,Xk hx,z⟩) b hL rfl
  ·exact w.ds b (by rw[jX];exact lr9 _ hL) (by rw[kZ];exact ll9 _ (mem_frozen.mpr ⟨x,Xk hx,z⟩))
 have al:∀b∈bs,H b≠none:=λb dw=>by
  obtain⟨x,hx,gh⟩:=hb b dw;exact(w.ok x (ll9 _ (Xk hx))).some gh
 have sr:Src H (xs.map some++L) bs:=λb dw=>by
  obtain⟨x,hx,gh⟩:=hb b dw;rcases Sl.as_of gh with z|z
  ·exact .inr (.inl (by rw[jX];exact ll9 _ (mem_owned.mpr ⟨x,Xk hx,z⟩)))
  ·exact .inl (by rw[kZ];exact ll9 _ (mem_frozen.mpr ⟨x,Xk hx,z⟩))
 have o:Out K H (upd H p (.tup (xs.map Sl.v))) ⟨.no,.tup (xs.map Sl.d),.ref p,bs⟩ bs:=kj4 hp r λb hb=>hb
 have st:Step H (xs.map some++L) H L:=⟨λ_ _ h _=>h,λa ha=>.inl (by rw[jX];exact lr9 _ ha),λa ha=>.inl (by rw[kZ];exact lr9 _ ha)⟩;exact⟨bs,Vx (Z:=⟨K,λ_=>none,λ_ _ _=>True⟩) w.right st o ap al sr⟩
theorem qvq{K:Frag}{H H':Hp}{xs:List Sl}{L:Ls}{d:D}{v:V}{ps:List Addr}(w:World K H (xs.map some++L))(ht:∀x∈xs,xk x.sd=true)(hp:∀b∈ps,H b=none)(nd:ps.Nodup)(sm:k8 H H')
  (rep:∀bs,RepA K H false (xs.map Sl.d) (xs.map Sl.v) bs->RepL K H' false d v (ps++bs)):
  World K H' (some ⟨.dp,d,v,ps++j7 (xs.map some)⟩::L)/\Step H (xs.map some++L) H' (some ⟨.dp,d,v,ps++j7 (xs.map some)⟩::L):=by
 obtain⟨bs,r,hb,ho,_⟩:=jwf false (xs:=xs) (λx hx=>w.ok x (ll9 _ (Xk hx))) (λ_=>ht);have e:=ho rfl;subst e;have w2:World K H' (xs.map some++L):=⟨λx hx=>RepO.kp (w.ok x hx) (Kp.of_same sm),w.nd,w.ds⟩;have ndx:=w.nd;rw[jX,Xe]at ndx;have al:∀b∈j7 (xs.map some),H b≠none:=λb hb=>w.own_some (by rw[jX];exact ll9 _ hb)
 refine⟨w2.right.cons (x:=⟨.dp,d,v,ps++j7 (xs.map some)⟩) (rep _ r) ?_ (λa ha hL=>?_) (λa ha hf=>?_) (λa ha=>(nomatch ha)) (λa ha=>λz=>(nomatch z)),⟨λa ob h _=>sm a ob h,λa ha=>?_,λa ha=>?_⟩⟩
 ·show(ps++j7 (xs.map some)).Nodup;rw[Xe];exact⟨nd,ndx.1,λa ha b hb e=>by subst e;exact al a hb (hp a ha)⟩
 ·rcases aA (show a∈ps++j7 (xs.map some)from ha)with z|z
  ·exact w.own_some (by rw[jX];exact lr9 _ hL) (hp a z)
  ·exact ndx.2.2 a z a hL rfl
 ·rcases aA (show a∈ps++j7 (xs.map some)from ha)with z|z
  ·exact w.frz_some (by rw[kZ];exact lr9 _ hf) (hp a z)
  ·exact w.ds a (by rw[jX];exact ll9 _ z) (by rw[kZ];exact lr9 _ hf)
 ·rw[kw]at ha;rcases aA ha with z|z
  ·rcases aA (show a∈ps++j7 (xs.map some)from z)with y|y
   ·exact .inr (hp a y)
   ·exact .inl (by rw[jX];exact ll9 _ y)
  ·exact .inl (by rw[jX];exact lr9 _ z)
 ·rw[v9]at ha;exact .inl (by rw[kZ];exact lr9 _ ha)
theorem wqu{xs:List Sl}{ys:List Sd}(h:xs.map Sl.sd=ys):xs.map Sl.d=ys.map (·.2):=by rw[<-h,Xs];rfl
theorem kze{xs:List Sl}{ys:List Sd}(h:xs.map Sl.sd=ys)(ht:ys.all xk=true):∀x∈xs,xk x.sd=true:=λx hx=>by
 rw[<-h,List.all_map,Z7]at ht;exact ht x hx
theorem kzu{o:Own}{xs:List Sl}{ys:List Sd}{E':En}{r:Res Sd}{L':Ls}{H1:Hp}{Q:VK}{Hq:Hp}{Lq:Ls}(h:mkL o E' ys=some r)(e:xs.map Sl.sd=ys)(w:World Z.K H1 (xs.map some++L'))(st:Step Hq Lq H1 (xs.map some++L'))(sm:q=true->k8 Hq H1/\∀b∈j7 (xs.map some),Hq b=none)
  (k:∀E'' a,r=.ok E'' a->∀(x:Sl) L'' H',x.o=a.1->x.d=a.2->Mt E'' O L''->World Z.K H' (some x::L'')->Step Hq Lq H' (some x::L'')->(q=true->k8 Hq H'/\∀b∈x.own,Hq b=none)->Q x.v H') (m:Mt E' O L'):
  ∀ p,H1 p=none->Q (.ref p) (upd H1 p (.lst (xs.map Sl.v))):=by
 intro p hp;unfold mkL at h
 by_cases ho:o=.dp
 ·rw[X8 ho]at h
  by_cases ht:ys.all xk=true
  ·rw[X8 ht]at h;cases oq9 h;obtain⟨w2,s2⟩:=qvq (d:=.lst (xs.map Sl.d)) (v:=.ref p) (ps:=[p]) w (kze e ht) (λb hb=>by rw[aC hb];exact hp) (by simp) (vq (o:=.lst (xs.map Sl.v)) hp) (λbs r=>by
    unfold RepL;exact⟨p,_,bs,rfl,r.kp (Kp.of_same (vq hp)),.inl ⟨vK,rfl⟩⟩)
   refine k _ _ rfl ⟨.dp,.lst (xs.map Sl.d),.ref p,_⟩ L' _ rfl (by rw[wqu e]) m w2 (st.trans s2) λhq=>⟨qv (sm hq).1 (vq hp),λb hb=>?_⟩
   rcases aA (show b∈[p]++j7 (xs.map some)from hb)with z|z
   ·rw[aC z];exact Jz (sm hq).1 hp
   ·exact(sm hq).2 b z
  ·rw[Xb ht]at h;cases h
 ·rw[Xb ho]at h;cases oq9 h;obtain⟨bs,w2,s2⟩:=qzt w hp;refine k _ _ rfl ⟨.rt,.lst (xs.map Sl.d),.ref p,p::bs⟩ L' _ rfl (by rw[wqu e]) m w2 (st.trans s2) λhq=>⟨qv (sm hq).1 (vq hp),λb hb=>?_⟩
  have:b=p:=by simpa [Sl.own]using hb
  rw[this];exact Jz (sm hq).1 hp
theorem vxp{xs:List Sl}{ys:List Sd}{n:Nat}(h:xs.map Sl.sd=ys)(hl:ys.length=n)(hz:n<=1000):(xs.map Sl.v).length<=sizeLine:=by
 have:xs.length=n:=by rw[<-hl,<-h,X4]
 rw[X4,this];exact Y8 hz ⋯
theorem vQ{o:Own}(h:QA X Z q cs es)(hz:autoParam (cs.length<=1000) ŕ):QE X Z q (kQ o cs) (.List es pos):=qx (wjd h) fun O H Q b7=>ex8 b7 λE L r m w hc xc k=>
 vww m w (show bnd (q5 cs E) _=some r from hc) xc λE1 ys h1 hl xs L1 H1 e1 m1 w1 st sm=>⟨vxp e1 hl hz,kzu (o:=o) (E':=E1) (ys:=ys) (by unfold mkL;exact h1) e1 w1 st sm k m1⟩
theorem qK{o:Own}{x1}(h:QA X Z q cs es)(hz:autoParam (cs.length<=1000) ŕ):QE X Z q (kX o cs) (.Tuple es x1 pos):=qx (vka h) fun O H Q b7=>ex8 b7 λE L r m w hc xc k=>
 vww m w (show bnd (q5 cs E) _=some r from hc) xc λE1 ys h1 hl xs L1 H1 e1 m1 w1 st sm=>⟨vxp e1 hl hz,λp hp=>by
  by_cases ho:o=.dp
  ·rw[X8 ho]at h1
   by_cases ht:ys.all xk=true
   ·rw[X8 ht]at h1;cases oq9 h1;obtain⟨w2,s2⟩:=qvq (d:=.tup (xs.map Sl.d)) (v:=.ref p) (ps:=[]) w1 (kze e1 ht) (λb hb=>(nomatch hb)) (by simp) (vq (o:=.tup (xs.map Sl.v)) hp) (λbs r=>by
     unfold RepL;exact⟨p,_,rfl,SqT.of vK,r.kp (Kp.of_same (vq hp))⟩)
    exact k _ _ rfl ⟨.dp,.tup (xs.map Sl.d),.ref p,_⟩ L1 _ rfl (by rw[wqu e1]) m1 w2 (st.trans s2) λhq=>⟨qv (sm hq).1 (vq hp),λb hb=>(sm hq).2 b hb⟩
   ·rw[Xb ht]at h1;cases h1
  ·rw[Xb ho]at h1;cases oq9 h1;obtain⟨bs,w2,s2⟩:=qzs w1 hp;exact k _ _ rfl ⟨.no,.tup (xs.map Sl.d),.ref p,bs⟩ L1 _ rfl (by rw[wqu e1]) m1 w2 (st.trans s2) λhq=>⟨qv (sm hq).1 (vq hp),λb hb=>(nomatch hb)⟩⟩
end
noncomputable def spF(K:Frag)(mg:Str->Option Value)(n:Nat)(f:Fn):Sp:=λvs H Q E=>∃(xs:List Sl) (r:Res Sd),vs=xs.map Sl.v/\xs.length=n/\World K H (xs.map some)/\f (xs.map Sl.sd)=some r /\
 (∀E' c,r=.exc E' c->∀C H',mg c=some (.ref C)->Step H (xs.map some) H' []->E (.ref C) none H') /\
 ∀E' a,r=.ok E' a->∀(x:Sl) H',x.o=a.1->x.d=a.2->World K H' [some x]->Step H (xs.map some) H' [some x]->Q x.v H'
theorem qz{K:Frag}{mg:Str->Option Value}{n:Nat}{f:Fn}{ps:List Str}(hn:ps.length=n):∀vs H Q E,spF K mg n f vs H Q E->vs.length=ps.length:=λvs H Q E ⟨xs,r,e,hl,_⟩=>by rw[e,X4,hl,hn]
theorem kqf:∀(xs:List Sl) (k:Nat),Mt (xs.map (λx=>some x.sd)++List.replicate k none) (xs.map (λx=>some x.v)++List.replicate k none) (xs.map some++List.replicate k none)
 |[],0=>.nil
 |[],k+1=>by
  rw[List.map_nil,List.map_nil,List.map_nil,List.replicate_succ,List.replicate_succ,List.replicate_succ];exact .un (kqf [] k)
 |x::xs,k=>.cons (x:=x) (kqf xs k)
theorem qJ{X:Cx}{K:Frag}{mg:Str->Option Value}{N:List Str}{n nn:Nat}{B:Sm}{body:List Stmt}{H:Hp}{vs:List V}{Q:VK}{E:XK}(hN:N.length=nn)(t:QSs X ⟨K,mg,E⟩ [] B body)(h:spF K mg n (fn nn B) vs H Q E):
  ∃t,PSs X body t/\t { nx:=λ_ H'=>Q .non H',rt:=Q } (L2.start N vs) H:=by
 refine⟨_,t,?_⟩;obtain⟨xs,r,rfl,hl,w,hf,hx,hk⟩:=h;unfold fn at hf;rw[X4,Xs]at hf;have m:=kqf xs (nn - xs.length);have e1:L2.start N (xs.map Sl.v)=xs.map (λx=>some x.v)++List.replicate (nn - xs.length) none:=by
  unfold L2.start;rw[Xs,X4,hN];rfl
 have wL:World K H (xs.map some++List.replicate (nn - xs.length) none):=w.same (by simp);have sL:Step H (xs.map some) H (xs.map some++List.replicate (nn - xs.length) none):=Step.refl.same (List.Perm.refl _) (by simp);cases hB:B (xs.map (λx=>some x.sd)++List.replicate (nn - xs.length) none)with
 | none=>rw[show(some∘Sl.sd)=(λx:Sl=>some x.sd)from rfl,hB]at hf;cases hf
 | some g=>
  rw[show(some∘Sl.sd)=(λx:Sl=>some x.sd)from rfl,hB]at hf;refine⟨_,_,g,e1▸m,wL,hB,?_⟩;cases g with
  |nx E1=>
   cases oq9 hf;intro σ' L' H' _ m' w' s';exact hk _ _ rfl ⟨.dp,.non,.non,[]⟩ H' rfl rfl (World.consPu (x:=⟨.dp,.non,.non,[]⟩) (L:=[]) ⟨λ_ z=>(nomatch z),Y4,λ_ z=>(nomatch z)⟩ (show RepL K H' false .non .non []from qqf) rfl) (Q6 (x:=⟨.dp,.non,.non,[]⟩) ((sL.trans s').sub (by simp)) (λb hb=>(nomatch hb)) rfl)
  |rt E1 a=>
   cases oq9 hf;intro x σ' L' H' e2 e3 _ m' w' s';exact hk _ _ rfl x H' e2 e3 (w'.sub (by simp)) ((sL.trans s').sub (by simp))
  |xc E1 c=>
   cases oq9 hf;intro C σ' L' H' hm _ m' w' s';exact hx _ _ rfl C H' hm ((sL.trans s').sub (by simp))
  |ct E1=>cases hf|bk E1=>cases hf
section
variable {X:Cx}{Z:Fx0}{q:Bool}{cs:List Ex}{e:Expr}{es:List Expr}{pos p:Pos}{x:Str}{ps:List Str}{k n:Nat}{f:Fn}
theorem JK:∀xs:List Sl,j7 ((xs.map Sl.let).map some)=[]
 |[]=>rfl|x::xs=>by rw[List.map_cons,List.map_cons,kw,JK xs];rfl
theorem jww:∀xs:List Sl,jY ((xs.map Sl.let).map some)=xs.flatMap Sl.as
 |[]=>rfl|x::xs=>by rw[List.map_cons,List.map_cons,v9,jww xs,Zd];rfl
theorem kxj(xs:List Sl):(xs.map Sl.let).map Sl.sd=letAll (xs.map Sl.sd):=by
 unfold letAll;rw[Xs,Xs];rfl
theorem jxj{K:Frag}{H:Hp}{xs:List Sl}{L:Ls}(w:World K H (xs.map some++L)):World K H ((xs.map Sl.let).map some++L)/\Step H (xs.map some++L) H ((xs.map Sl.let).map some++L):=by
 have nd:=w.nd;rw[jX,Xe]at nd;have cl:∀a∈xs.flatMap Sl.as,a∈j7 (xs.map some)\/a∈jY (xs.map some):=λa ha=>by
  obtain⟨x,hx,hax⟩:=List.mem_flatMap.mp ha;exact(Sl.as_of hax).imp (λz=>mem_owned.mpr ⟨x,Xk hx,z⟩) λz=>mem_frozen.mpr ⟨x,Xk hx,z⟩
 refine⟨⟨λx hx=>?_,by rw[jX,JK];exact nd.2.1,λa ha hf=>?_⟩,λ_ _ h _=>h,λa ha=>?_,λa ha=>?_⟩
 ·rcases aA hx with hx|hx
  ·obtain⟨y,hy,e⟩:=aE hx;cases e;obtain⟨z,hz,rfl⟩:=aE hy;exact V7 (w.ok z (ll9 _ (Xk hz)))
  ·exact w.ok x (lr9 _ hx)
 ·rw[jX,JK]at ha;rw[kZ,jww]at hf;rcases aA hf with z|z
  ·rcases cl a z with z|z
   ·exact nd.2.2 a z a ha rfl
   ·exact w.ds a (by rw[jX];exact lr9 _ ha) (by rw[kZ];exact ll9 _ z)
  ·exact w.ds a (by rw[jX];exact lr9 _ ha) (by rw[kZ];exact lr9 _ z)
 ·rw[jX,JK]at ha;exact .inl (by rw[jX];exact lr9 _ ha)
 ·rw[kZ,jww]at ha;rw[kZ,jX];rcases aA ha with z|z
  ·rcases cl a z with z|z
   ·exact .inr (.inl (ll9 _ z))
   ·exact .inl (ll9 _ z)
  ·exact .inl (lr9 _ z)
theorem vzq(D:kY X.prog X.w X.K X.mg X.base k x ps (spF Z.K Z.mg n f))(hr:Room k X.A)(g:wV X Z.EX)(ha:QA X Z q cs (e::es))(hn:autoParam (cs.length=n) Ŕ)(hg:autoParam (Gl X x) Ŕ)(db:autoParam ((x==("__debug__":Str))=false) ŕ)
  (he:autoParam (starEach (e::es) X.env=(false,eval e X.env)::starEach es X.env) Ŕ) (bp:autoParam ((backTo pos (starEach es X.env)).any (·.1)=false) Ŕ):
  QE X Z q (jK f cs) (.Call (.Name x p) (e::es) [] pos):=qx (vkc D hr g ha hg db he bp) fun O H Q b7=>ex8 b7 λE L r m w hc xc kk=>
 vww m w (show bnd (q5 cs E) _=some r from hc) xc λE1 ys h1 hl xs L1 H1 e1 m1 w1 st sm=>by
  rw [Xr];have av:xs.length=n:=by rw[<-hn,<-hl,<-e1,X4]
  cases hf:f (letAll ys)with
  | none=>rw[hf]at h1;cases h1
  | some fr=>
   rw[hf]at h1;obtain⟨wl,sl⟩:=jxj w1;have ev:xs.map Sl.v=(xs.map Sl.let).map Sl.v:=by rw[Xs];rfl
   rw[ev];refine⟨xs.map Sl.let,fr,rfl,by rw[X4];exact av,wl.left,by rw[<-e1]at hf;rw[kxj];exact hf,λE' c ee C H' hm s'=>?_,λE' a ee y H' e2 e3 w' s'=>?_⟩
   ·subst ee;cases oq9 h1;obtain⟨w2,s2⟩:=stay wl s' ⟨λ_ z=>(nomatch z),Y4,λ_ z=>(nomatch z)⟩;exact xc _ _ rfl C L1 H' hm m1 w2 ((st.trans sl).trans s2)
   ·subst ee;cases oq9 h1;obtain⟨w2,s2⟩:=stay wl s' w';refine kk _ _ rfl y L1 H' e2 e3 m1 w2 ((st.trans sl).trans s2) λhq=>?_
    obtain⟨a1,a2⟩:=sm hq;refine⟨λb ob hb=>s'.keep b ob (a1 b ob hb) λz=>?_,λb hb=>?_⟩
    ·rw[JK]at z;exact nomatch z
    ·rcases s'.own b (by rw[kw];exact ll9 _ hb)with z|z
     ·rw[JK]at z;exact nomatch z
     ·exact Jz a1 z
end
def vza(K:Frag):R2:=λx y H Q=>∃l k xs,x=.ref l/\y=.int k/\LsR K H l xs/\-(2 ^ 63)<=k/\k<2 ^ 63/\xs.length*k.toNat<=sizeLine /\
 ∀p,H p=none->Q (.ref p) (upd H p (.lst (List.replicate k.toNat xs).flatten))
theorem op_repR{X:Cx}:OpR X (binaryOp .Mult) (vza X.K):=by
 intro pins s O H x y v u Q I rx ry h;obtain⟨l,k,xs,rfl,rfl,hH,h1,h2,hz,q⟩:=h;cases rx;obtain⟨t,rfl⟩:=ry;obtain⟨z,ah,n,r,e⟩:=hH.is I;have hl:=r.length;have av:ah.toArray.size*k.toNat<=sizeLine:=by rw[X5,<-hl];exact hz
 have hcap:¬ah.toArray.size*k.toNat>(2 ^ 63 - 1) / 8:=by
  have:(sizeLine:Nat)<=(2 ^ 63 - 1) / 8:=⋯
  omega
 have hfit:¬(!Builtin.List.listFitsIndex k)=true:=by
  rw[fitsIndex_both h1 h2];exact Bool.false_ne_true
 have rn:¬Builtin.List.listTooLong (ah.toArray.size*k.toNat)=true:=by
  rw[qzo av];exact Bool.false_ne_true
 have dz:List.foldl (λx1 x2=>x1++x2) #[] (List.replicate (if ah.toArray.isEmpty=true then 0 else k.toNat) ah.toArray)=(List.replicate k.toNat ah).flatten.toArray:=by
  have f0:∀m:Nat,List.foldl (λx1 x2=>x1++x2) #[] (List.replicate m ah.toArray)=(List.replicate m ah).flatten.toArray:=λm=>by
   have:=kjk ah m [];rw[List.nil_append]at this;exact this
  rw[f0];cases ah with|nil=>simp|cons a r'=>rw[Xb (by simp)]
 refine wpAny_binaryOp_repeat_ref (T:="list") (U:="int") ⋯ ⟨_,e,rfl⟩ (λs'=>typeIs_int s' k t) noFill_list_mul F.fills_int_mul F.slot_int_rmul repeat_list F.slot_int_index.lookup
  (call_meets F.slot_int_rmul (typeIs_int s k t) F.entry_int_rmul (F.args_int_rmul_2 _ _) (int___rmul___int_list k t l ah.toArray n)
   ⟨e,rfl,⟨_,e,rfl⟩,call_meets F.slot_list_mul ⟨_,e,rfl⟩ F.entry_list_mul (F.args_list_mul_2 _ _) (AutoListH.list___mul___list_int_3 l ah.toArray n k t hfit hcap rn) ⟨e,?_⟩⟩)
 rw[dz];exact⟨.ref _,_,I.lnew (t':=s.toks) (r.rep k.toNat) (by rw[qvt,Nat.mul_comm];exact hz),rfl,q _ I.fresh⟩
def vqj(K:Frag):R2:=λx y H Q=>rI IntMulOk (λi j=>.int (i*j)) x y H Q\/vza K x y H Q\/vz9 x y H Q
theorem wjm{X:Cx}{K:Frag}(hK:autoParam (X.K=K) Ŕ):OpR X (binaryOp .Mult) (vqj K):=by subst hK;exact op_mulI.or (op_repR.or vvg)
theorem kzv{a:Int}(h:a.natAbs.log2<2000000):Builtin.Int.intBits a<=2000000:=by
 unfold Builtin.Int.intBits
 split
 ·exact Yg _
 ·omega
theorem mulOk_of{a b:Int}(h:XJ a b=true):IntMulOk a b:=by
 unfold XJ qq8 at h;simp only[Bool.or_eq_true,Bool.and_eq_true,decide_eq_true_eq]at h;rcases h with(h|h)|h
 ·exact .of_left (intBits_le_64 h.1 h.2)
 ·exact .of_right (intBits_le_64 h.1 h.2)
 ·have h1:=kzv h.1;have h2:=kzv h.2;unfold IntMulOk Builtin.Int.intTooBig;have e:(2:Nat) ^ 27=134217728:=⋯
  have hb:bitsLine=134217728:=e;simp only[Bool.and_eq_true,decide_eq_true_eq,not_and];intro _ _;omega
theorem RepA.reps{K:Frag}{H:Hp}{ds:List D}{xs:List V}{bs:List Addr}(h:RepA K H true ds xs bs):∀k:Nat,∃cs,RepA K H true (List.replicate k ds).flatten (List.replicate k xs).flatten cs/\∀b∈cs,b∈bs
 |0=>⟨[],by simp only[List.replicate_zero,List.flatten_nil];unfold RepA;exact⟨rfl,rfl⟩,λ_ z=>(nomatch z)⟩
 |k+1=>by
  obtain⟨cs,r,hc⟩:=RepA.reps h k;rw[List.replicate_succ,List.replicate_succ,Zc,Zc];exact⟨bs++cs,r.app h,λb hb=>(aA hb).elim id (hc b)⟩
theorem vkz{K:Frag}:Ad2 K (vqj K) V3:=by
 intro H x y s Q ox oy hf k;unfold V3 at hf;dsimp only at hf
 split at hf
 ·rename_i i j e1 e2
  split at hf
  ·rename_i hm;cases oq9 hf;exact .inl ⟨i,j,qX ox e1,qX oy e2,mulOk_of hm,k ⟨.dp,.int _,.int _,[]⟩ H rfl rfl QJ⟩
  ·cases hf
 ·rename_i a n e1 e2
  split at hf
  ·rename_i hc;cases oq9 hf;obtain⟨l,xs,bs,e3,q3,r3,h3⟩:=xZ ox (.inl e1) hc.2.2.2;have q3:LsR K H l xs:=by rcases q3 with⟨_,z⟩|⟨z,_⟩;exact z;rw[e1]at z;cases z
   obtain⟨cs,r4,h4⟩:=r3.reps n.toNat;refine .inr (.inl ⟨l,n,xs,e3,qX oy e2,q3,hc.1,hc.2.1,by rw[<-r3.len];exact hc.2.2.1,λp hp=>?_⟩);exact k ⟨.rt,.lst _,.ref p,p::cs⟩ _ rfl rfl (KZ hp r4 λb hb=>ll9 _ (h3 b (h4 b hb)))
  ·cases hf
 ·rename_i z n e1 e2
  split at hf
  ·rename_i hc;cases oq9 hf;exact .inr (.inr ⟨z,n,(xW ox e1).1,qX oy e2,hc.1,k ⟨.dp,.str _,.str _,[]⟩ H rfl rfl (ww5 hc.2)⟩)
  ·cases hf
 ·cases hf
def dec(h:Heap)(u:Value):D:=open Classical in if e:∃d,jw h d u then e.choose else .non
theorem ZK{h:Heap}{u:Value}{d:D}(r:jw h d u):dec h u=d:=by
 unfold dec;have e:∃d,jw h d u:=⟨d,r⟩;rw[dif_pos e];exact jzp e.choose_spec r
theorem kju{h:Heap}{d:D}:∀{ds:List D} {us:List Value},CReps h ds us->us.any (λu=>peq (dec h u) d)=ds.any λz=>peq z d
 |[],_,r=>by unfold CReps at r;rw[r];rfl
 |z::ds,_,r=>by
  unfold CReps at r;obtain⟨u,rr,rfl,h1,h2⟩:=r;rw[List.any_cons,List.any_cons,ZK h1,kju h2]
theorem jzo{h:Heap}:∀{ds:List D} {us:List Value} {u:Value},CReps h ds us->u∈us->∃d∈ds,jw h d u
 | [],_,_,r,hu=>by unfold CReps at r;rw[r]at hu;cases hu
 | z::ds,_,u,r,hu=>by
  unfold CReps at r;obtain⟨u',rr,rfl,h1,h2⟩:=r;rcases aD hu with rfl|hu
  ·exact⟨z,X7,h1⟩
  ·obtain⟨d,hd,c⟩:=jzo h2 hu;exact⟨d,lc9 _ hd,c⟩
theorem jx9:∀{n:Nat} {ds:List D} {d:D},D.flats n ds=true->d∈ds->d.flat n=true
 |_,[],_,_,h=>by cases h
 |n,z::ds,d,f,h=>by
  unfold D.flats at f;rw[Bool.and_eq_true]at f;rcases aD h with rfl|h
  ·exact f.1
  ·exact jx9 f.2 h
section
variable {X:Cx}{Z:Fx0}{K:Frag}{q qa qb:Bool}{a b c:Ex}{u v:Ts}{e ea eb:Expr}{es:List Expr}{pos p:Pos}{O:L2.St}{H:Hp}{L:Ls}{E:En}
def qqn(K:Frag)(jf:Bool):R2:=λx y H Q=>∃d ds as bs p xs,RepL K H true d x as/\y=.ref p/\(SqL K H p xs\/SqT K H p xs)/\RepA K H true ds xs bs/\d.flat 30=true/\D.flats 30 ds=true/\Q (.bl (if jf then !(ds.any λz=>peq z d)else ds.any λz=>peq z d)) H
theorem vvj(hu:X.A.units+64<cLine):OpR X (compareOp .In) (qqn X.K false):=by
 intro pins s O H x y v u Q I rx ry h;obtain⟨d,ds,as,bs,p,xs,h1,rfl,hq,ra,f1,f2,q⟩:=h;cases ry;have c1:=Q7 I h1 f1 rx;have he:∀{us:List Value},CReps s.heap ds us->∀w,w∈us.toArray->SeqAt.EqAt X.A.in1 s w v (peq (dec s.heap w) d):=fun {us} cr w hw=>by
  obtain⟨d',hd,c⟩:=jzo cr (by simpa using hw);rw[ZK c];exact VY 30 (jx9 f2 hd) c c1 (by have:=L3.in1_units X.A;omega)
 rcases hq with hq|hq
 ·obtain⟨ah,r,pl,hz⟩:=I.list hq;have cr:=creps_of I ra f2 r;refine SeqAt.in_listAt _ pl.isList (he cr) ⟨.bl _,H,I,rfl,?_⟩;rw[List.any_toArray,kju cr];exact q
 ·obtain⟨ah,r,pl,hz⟩:=I.tuple hq;have cr:=creps_of I ra f2 r;refine SeqAt.in_tupleAt _ pl (he cr) ⟨.bl _,H,I,rfl,?_⟩;rw[List.any_toArray,kju cr];exact q
theorem qk4(hu:X.A.units+64<cLine):OpR X (compareOp .NotIn) (qqn X.K true):=by
 intro pins s O H x y v u Q I rx ry h;obtain⟨d,ds,as,bs,p,xs,h1,rfl,hq,ra,f1,f2,q⟩:=h;cases ry;have c1:=Q7 I h1 f1 rx;have he:∀{us:List Value},CReps s.heap ds us->∀w,w∈us.toArray->SeqAt.EqAt X.A.in1 s w v (peq (dec s.heap w) d):=fun {us} cr w hw=>by
  obtain⟨d',hd,c⟩:=jzo cr (by simpa using hw);rw[ZK c];exact VY 30 (jx9 f2 hd) c c1 (by have:=L3.in1_units X.A;omega)
 rcases hq with hq|hq
 ·obtain⟨ah,r,pl,hz⟩:=I.list hq;have cr:=creps_of I ra f2 r;refine SeqAt.notIn_listAt _ pl.isList (he cr) ⟨.bl _,H,I,rfl,?_⟩;rw[List.any_toArray,kju cr];exact q
 ·obtain⟨ah,r,pl,hz⟩:=I.tuple hq;have cr:=creps_of I ra f2 r;refine SeqAt.notIn_tupleAt _ pl (he cr) ⟨.bl _,H,I,rfl,?_⟩;rw[List.any_toArray,kju cr];exact q
def qqm(jf:Bool):R2:=λx y H Q=>∃i j,x=.str i/\y=.str j/\Q (.bl (if jf then !wwp i j else wwp i j)) H
theorem opInStr:OpR X (compareOp .In) (qqm false):=λpins s O H x y v u Q I rx ry ⟨i,j,e1,e2,q⟩=>qvd pins s O H x y v u Q I rx ry ⟨i,j,e1,e2,q⟩
theorem opNotInStr:OpR X (compareOp .NotIn) (qqm true):=λpins s O H x y v u Q I rx ry ⟨i,j,e1,e2,q⟩=>kvh pins s O H x y v u Q I rx ry ⟨i,j,e1,e2,q⟩
def vzd(K:Frag)(jf:Bool):R2:=λx y H Q=>qqm jf x y H Q\/qqn K jf x y H Q
theorem qzn(hu:X.A.units+64<cLine)(hK:autoParam (X.K=K) Ŕ):OpR X (compareOp .In) (vzd K false):=by subst hK;exact opInStr.or (vvj hu)
theorem kzq(hu:X.A.units+64<cLine)(hK:autoParam (X.K=K) Ŕ):OpR X (compareOp .NotIn) (vzd K true):=by subst hK;exact opNotInStr.or (qk4 hu)
theorem J6{H:Hp}{l:Addr}{xs:List V}(h:LsR K H l xs):SqL K H l xs:=h.sq
theorem kqi{x y:Sl}{ys:List D}{jf:Bool}{Q:VK}(ox:x.ok K H)(oy:y.ok K H)(hy:y.d=.lst ys\/y.d=.tup ys)(hc:(x.d.flat 30&&D.flats 30 ys)=true)
  (k:Q (.bl (if jf then !(ys.any λz=>peq z x.d)else ys.any λz=>peq z x.d)) H):vzd K jf x.v y.v H Q:=by
 rw[Bool.and_eq_true]at hc;obtain⟨l,xs,bs,e3,q3,r3,_⟩:=items oy hy;have r3':RepA K H true ys xs bs:=by
  cases ho:(y.o != .dp)with|true=>rw[ho]at r3;exact r3|false=>rw[ho]at r3;exact r3.wk
 refine .inr ⟨x.d,ys,x.as,bs,l,xs,RepO.wk ox,e3,?_,r3',hc.1,hc.2,k⟩;rcases q3 with⟨_,z⟩|⟨_,z⟩
 ·exact .inl (J6 z)
 ·exact .inr z
theorem vju:Ad2 K (vzd K false) (pu2 ww):=by
 intro H x y s Q ox oy hf k;unfold pu2 ww fIn at hf;dsimp only at hf;cases hy:y.d with
 | lst ys=>
  rw[hy]at hf;dsimp only at hf
  split at hf
  ·rename_i hc;cases oq9 hf;exact kqi ox oy (.inl hy) hc (k ⟨.dp,.bl _,.bl _,[]⟩ H rfl rfl wX)
  ·cases hf
 | tup ys=>
  rw[hy]at hf;dsimp only at hf
  split at hf
  ·rename_i hc;cases oq9 hf;exact kqi ox oy (.inr hy) hc (k ⟨.dp,.bl _,.bl _,[]⟩ H rfl rfl wX)
  ·cases hf
 | str b=>
  rw[hy]at hf;dsimp only at hf
  split at hf
  ·rename_i a hx;cases oq9 hf;exact .inl ⟨a,b,(xW ox hx).1,(xW oy hy).1,k ⟨.dp,.bl _,.bl _,[]⟩ H rfl rfl wX⟩
  ·cases hf
 |_=>rw[hy]at hf;cases hf
theorem qjh:Ad2 K (vzd K true) (pu2 QX):=by
 intro H x y s Q ox oy hf k;unfold pu2 QX Vj fIn at hf;dsimp only at hf;cases hy:y.d with
 | lst ys=>
  rw[hy]at hf;dsimp only at hf
  split at hf
  ·rename_i hc;cases oq9 hf;exact kqi ox oy (.inl hy) hc (k ⟨.dp,.bl _,.bl _,[]⟩ H rfl rfl wX)
  ·cases hf
 | tup ys=>
  rw[hy]at hf;dsimp only at hf
  split at hf
  ·rename_i hc;cases oq9 hf;exact kqi ox oy (.inr hy) hc (k ⟨.dp,.bl _,.bl _,[]⟩ H rfl rfl wX)
  ·cases hf
 | str b=>
  rw[hy]at hf;dsimp only at hf
  split at hf
  ·rename_i a hx;cases oq9 hf;exact .inl ⟨a,b,(xW ox hx).1,(xW oy hy).1,k ⟨.dp,.bl _,.bl _,[]⟩ H rfl rfl wX⟩
  ·cases hf
 |_=>rw[hy]at hf;cases hf
theorem jzj{g:Bool}{d:D}{v:V}{as:List Addr}(h:RepL K H g d v as):decide (v=.non)=isNon d:=by
 cases d with|non=>unfold RepL at h;rw[h.1];rfl|bl _=>unfold RepL at h;rw[h.1];rfl|int _=>unfold RepL at h;rw[h.1];rfl|str _=>unfold RepL at h;rw[h.1];rfl|tup _=>unfold RepL at h;obtain⟨a,xs,e,_⟩:=h;rw[e];rfl|lst _=>unfold RepL at h;obtain⟨a,xs,bs,e,_⟩:=h;rw[e];rfl|dct _=>unfold RepL at h;obtain⟨a,xs,bs,e,_⟩:=h;rw[e];rfl|obj _ _=>unfold RepL at h;obtain⟨_,x,o,C,e,_⟩:=h;rw[e];rfl
theorem kwp:Ad2 K (λx y H Q=>y=.non/\Q (.bl (decide (x=.non))) H) (f2First fIsNon):=by
 intro H x y s Q ox oy hf k;unfold f2First fIsNon at hf;dsimp only at hf
 split at hf
 ·rename_i hy;cases oq9 hf;have e:=jzj (RepO.wk oy);rw[hy]at e;refine⟨of_decide_eq_true e,?_⟩;rw[jzj (RepO.wk ox)];exact k ⟨.dp,.bl _,.bl _,[]⟩ H rfl rfl wX
 ·cases hf
theorem qxg:Ad2 K (λx y H Q=>y=.non/\Q (.bl (!decide (x=.non))) H) (f2First fNotNon):=by
 intro H x y s Q ox oy hf k;unfold f2First fNotNon at hf;dsimp only at hf
 split at hf
 ·rename_i hy;cases oq9 hf;have e:=jzj (RepO.wk oy);rw[hy]at e;refine⟨of_decide_eq_true e,?_⟩;rw[jzj (RepO.wk ox)];exact k ⟨.dp,.bl _,.bl _,[]⟩ H rfl rfl wX
 ·cases hf
theorem qw5(n:Nat)(i:Int):_root_.Q.ixN n i=L2.ixN n i:=rfl
theorem vvx{x y:Sl}{d:D}{Q:VK}(ox:x.ok K H)(oy:y.ok K H)(hf:jz x.d y.d=some d)(k:∀z:Sl,z.o=sub x.o->z.d=d->z.ok K H->(∀b∈z.frz,b∈x.frz)->(∀b∈z.as,b∈x.as)->Q z.v H):rIx K x.v y.v H Q:=by
 have seq:∀ds:List D,(x.d=.lst ds\/x.d=.tup ds)->∀i:Int,y.d=.int i->((_root_.Q.ixN ds.length i).bind λj=>ds[j]?)=some d->rIx K x.v y.v H Q:=by
  intro ds hx i hy hd;obtain⟨l,xs,bs,e3,q3,r3,h3,h4⟩:=items ox hx;cases hj:_root_.Q.ixN ds.length i with
  | none=>rw[hj]at hd;cases hd
  | some j=>
   rw [hj]at hd;obtain⟨v,cs,e4,r4,h5⟩:=r3.get (show ds[j]?=some d from hd);have gl:atI xs i=some v:=by
    unfold atI;rw[<-r3.len,<-qw5,hj];exact e4
   have fin:Q v H:=by
    cases ho:x.o with
    | dp=>
     rw[ho]at r4;exact k ⟨.dp,d,v,cs⟩ (by rw[ho];rfl) rfl r4 (λb hb=>(nomatch hb)) λb hb=>h3 b (h5 b hb)
    | no=>
     rw[ho]at r4;exact k ⟨.no,d,v,cs⟩ (by rw[ho];rfl) rfl r4 (λb hb=>h4 (by rw[ho];exact(λz=>nomatch z)) b (h5 b hb)) λb hb=>h3 b (h5 b hb)
    | rt=>
     rw[ho]at r4;exact k ⟨.no,d,v,cs⟩ (by rw[ho];rfl) rfl r4 (λb hb=>h4 (by rw[ho];exact(λz=>nomatch z)) b (h5 b hb)) λb hb=>h3 b (h5 b hb)
   rcases q3 with⟨_,z⟩|⟨_,z⟩
   ·exact .inl ⟨l,xs,i,v,e3,qX oy hy,J6 z,gl,fin⟩
   ·exact .inr (.inl ⟨l,xs,i,v,e3,qX oy hy,z,gl,fin⟩)
 unfold jz at hf;cases hx:x.d with
 | lst ds=>
  rw [hx]at hf;cases hy:y.d with| int i=>rw[hy]at hf;exact seq ds (.inl hx) i hy hf| _=>rw[hy]at hf;cases hf
 | tup ds=>
  rw [hx]at hf;cases hy:y.d with| int i=>rw[hy]at hf;exact seq ds (.inr hx) i hy hf| _=>rw[hy]at hf;cases hf
 | str z=>
  rw [hx]at hf;cases hy:y.d with
  | int i=>
   rw [hy]at hf;have hf:((_root_.Q.ixN z.cps.size i).bind λj=>(z.cps.toList[j]?).map λc=>D.str ⟨#[c]⟩)=some d:=hf;cases hj:_root_.Q.ixN z.cps.size i with
   | none=>rw[hj]at hf;cases hf
   | some j=>
    rw[hj]at hf;cases hc:z.cps.toList[j]? with
    | none=>rw[Option.bind_some,hc]at hf;cases hf
    | some c=>
     rw[Option.bind_some,hc]at hf;cases oq9 hf;have gl:atI z.cps.toList i=some c:=by
      unfold atI;rw[Xj,<-qw5,hj];exact hc
     obtain⟨e1,hz⟩:=xW ox hx;refine .inr (.inr ⟨z,i,c,e1,qX oy hy,hz,gl,?_⟩);have rp:∀g,RepL K H g (.str ⟨#[c]⟩) (.str ⟨#[c]⟩) []:=λg=>YZ (show(1:Nat)<=sizeLine by decide)
     cases ho:x.o with|dp=>exact k ⟨.dp,.str ⟨#[c]⟩,.str ⟨#[c]⟩,[]⟩ (by rw[ho];rfl) rfl (rp false) (λb hb=>(nomatch hb)) λb hb=>(nomatch hb)|no=>exact k ⟨.no,.str ⟨#[c]⟩,.str ⟨#[c]⟩,[]⟩ (by rw[ho];rfl) rfl (rp true) (λb hb=>(nomatch hb)) λb hb=>(nomatch hb)|rt=>exact k ⟨.no,.str ⟨#[c]⟩,.str ⟨#[c]⟩,[]⟩ (by rw[ho];rfl) rfl (rp true) (λb hb=>(nomatch hb)) λb hb=>(nomatch hb)
  |_=>rw[hy]at hf;cases hf
 |non=>rw[hx]at hf;cases hf|bl _=>rw[hx]at hf;cases hf|int _=>rw[hx]at hf;cases hf|dct _=>rw[hx]at hf;cases hf|obj _ _=>rw[hx]at hf;cases hf
theorem q_ix(ha:QV X Z qa a ea)(hb:QV X Z true b eb)(hs:kz3 eb)(hK:autoParam (X.K=Z.K) Ŕ):QV X Z qa (j6 a b) (.Subscript ea eb pos):=
 qx (ww1 (hK▸wkb) ha hb hs) fun O H Q b7=>ex8 b7 λE L r m w hc xc k=>by
  refine vk m w (show bnd (a E) _=some r from hc) xc λE1 s h1 x L1 H1 e1 e2 m1 w1 ok fr sr st sm=>?_
  refine vk m1 w1 h1 (xc.step st) λE2 s2 h2 y L2 H2 e3 e4 m2 w2 gy tm se c8 dq=>?_
  obtain⟨z,hz,rfl⟩:=J3 h2;cases hf:jz s.2 s2.2 with
  |none=>rw[hf]at hz;cases hz
  |some d=>
   rw[hf]at hz;cases oq9 hz;have kx:=Q5 ok fr c8 (dq rfl);refine vvx kx.1 gy (by rw[e2,e4];exact hf) λz zo zd sj zf za=>?_
   exact k _ _ rfl z L2 H2 (by rw[zo,e1]) zd m2 w2 sj (λb hb=>kx.2 b (zf b hb)) (jx1 sr za) (st.trans c8) λhq=>qv (sm hq) (dq rfl)
theorem Qj(ht:QT X Z q u e)(ha:QE X Z q a ea)(hb:QE X Z q b eb):QE X Z q (cIf u a b) (.IfExp e ea eb pos):=qx (qzi ht ha hb) fun O H Q b7=>ex8 b7 λE L r m w hc xc k=>
 qxp m w (show bnd (u E) _=some r from hc) xc λE1 s h1 L1 H1 m1 w1 st sm=>by
  have fin:∀{c:Ex},c E1=some r->tQ Z q c O H1 Q:=λhc=>⟨E1,L1,r,m1,w1,hc,xc.step st,λE' a z x L' H' e1 e2 m' w' ef iu=>k E' a z x L' H' e1 e2 m' w' (st.trans ef) λhq=>⟨qv (sm hq) (iu hq).1,λb hb=>Jz (sm hq) ((iu hq).2 b hb)⟩⟩
  cases s with|true=>rw[X8 rfl]at h1 ⊢;exact fin h1|false=>rw[Xb ⋯]at h1 ⊢;exact fin h1
theorem qqs{op}(h:QE X Z q a ea):QE X Z q a (.BoolOp op [ea] pos):=wjb h
theorem vqq(ha:QV X Z q a ea)(hb:QE X Z q b (.BoolOp .And (eb::es) pos)):QE X Z q (K7 a b) (.BoolOp .And (ea::eb::es) pos):=qx (wjg ha hb) fun O H Q b7=>ex8 b7 λE L r m w hc xc k=>
 vk m w (show bnd (a E) _=some r from hc) xc λE1 s h1 x L1 H1 e1 e2 m1 w1 ok fr sr st sm=>by
  cases hs:s.2 with
  | bl kk=>
   rw[hs]at h1;refine⟨kk,qvg ok (e2.trans hs),?_⟩;cases kk with
   |true=>
    rw[X8 rfl];exact⟨E1,L1,r,m1,w1,h1,xc.step st,λE' a z x L' H' e1 e2 m' w' ef iu=>k E' a z x L' H' e1 e2 m' w' (st.trans ef) λhq=>⟨qv (sm hq) (iu hq).1,λb hb=>Jz (sm hq) ((iu hq).2 b hb)⟩⟩
   |false=>
    rw[Xb ⋯];cases oq9 h1;obtain⟨w3,fc⟩:=Vx w1 st (wX (K:=Z.K) (H:=H1) (i:=false) (fr:=[])) (λ_ z=>(nomatch z)) (λ_ z=>(nomatch z)) (λ_ z=>(nomatch z));exact k _ _ rfl ⟨.dp,.bl false,.bl false,[]⟩ L1 H1 rfl rfl m1 w3 fc λhq=>⟨sm hq,λ_ z=>(nomatch z)⟩
  |_=>rw[hs]at h1;cases h1
theorem truV{x:Sl}{k:Bool}(ok:x.ok K H)(h:truth x.d=some k)(hd:∀kvs,x.d≠.dct kvs):wx0 K x.v H k:=by
 cases hx:x.d with
 |non=>rw[hx]at h;rw[wjt ok hx];exact(oq9 h).symm|bl b=>rw[hx]at h;rw[qvg ok hx];exact(oq9 h).symm|int i=>rw[hx]at h;rw[qX ok hx];exact(oq9 h).symm
 |str z=>
  rw[hx]at h;obtain⟨e,hz⟩:=xW ok hx;rw[e];refine⟨hz,?_⟩;rw[<-oq9 h];show(z.cps.size != 0)=(((z.cps.size:Nat):Int) != 0);rw[Bool.eq_iff_iff];simp
 |lst ds=>
  rw[hx]at h;obtain⟨a,xs,bs,e,q,r,_⟩:=items ok (.inl hx);rw[e];have q':LsR K H a xs:=by rcases q with⟨_,z⟩|⟨z,_⟩;exact z;rw[hx]at z;cases z
  refine .inl ⟨xs,J6 q',?_⟩;rw[<-oq9 h];have:=r.len;cases ds<;>cases xs<;>simp_all
 |tup ds=>
  rw[hx]at h;obtain⟨a,xs,bs,e,q,r,_⟩:=items ok (.inr hx);rw[e];have q':SqT K H a xs:=by rcases q with⟨z,_⟩|⟨_,z⟩;rw[hx]at z;cases z;exact z
  refine .inr (.inl ⟨xs,q',?_⟩);rw[<-oq9 h];have:=r.len;cases ds<;>cases xs<;>simp_all
 |dct kvs=>exact absurd hx (hd kvs)|obj c f=>rw[hx]at h;cases h
theorem qkz{d:D}{k:Bool}(h:truthQ d=some k):truth d=some k/\∀kvs,d≠.dct kvs:=by
 cases d<;>first|exact⟨h,λ_ z=>nomatch z⟩|cases h
theorem K4(h:QV X Z q a ea)(he:autoParam (∀fu,isTrue ea X.env fu=(do let v <-fu;standAt ea.pos;holding [v] (truthy v))) Ŗ)(hK:autoParam (X.K=Z.K) Ŕ):QT X Z q (tEQ a) ea:=qqu (qz9 h he) fun O H Q b7=>ex8 b7 λE L r m w hc xc k=>
 vk m w (show bnd (a E) _=some r from hc) xc λE1 s h1 x L1 H1 e1 e2 m1 w1 ok fr sr st sm=>by
  obtain⟨kk,hk,rfl⟩:=J3 h1;obtain⟨h2,h3⟩:=qkz hk;exact⟨kk,hK▸truV ok (by rw[e2];exact h2) (by rw[e2];exact h3),k _ _ rfl L1 H1 m1 w1 st sm⟩
end
theorem jxe{α:Type}:∀{L:List α} {i:Nat} {q:α},L[i]?=some q->∃A B,L=A++q::B/\∀q',L.set i q'=A++q'::B
 |[],_,_,h=>by simp at h
 |a::L,0,q,h=>by
  have e:a=q:=by simpa using h
  subst e;exact⟨[],L,rfl,λ_=>rfl⟩
 |a::L,i+1,q,h=>by
  obtain⟨A,B,e,f⟩:=jxe (L:=L) (i:=i) (by simpa using h);exact⟨a::A,B,by rw[e];rfl,λq'=>by rw[List.set_cons_succ,f];rfl⟩
section
variable {K:Frag}{H:Hp}{M T L:Ls}{y y':Sl}{l:Addr}{ob:HO}
theorem World.write(w:World K H (some y::(T++M)))(hl:l∈y.own)(ok':y'.ok K (upd H l ob))(nd:y'.own.Nodup)(h1:∀a∈y'.own,a∈y.own\/a∈j7 T)(h2:∀a∈y'.frz,a∈y.as\/a∈j7 T\/a∈jY T)(h3:∀a∈y'.own,a∉y'.frz):
  World K (upd H l ob) (some y'::M)/\Step H (some y::(T++M)) (upd H l ob) (some y'::M):=by
 have wn:=w.nd;rw [kw,jX,Xe,Xe]at wn;obtain⟨n1,⟨n2,n3,n4⟩,n5⟩:=wn;have oy:l∈j7 (some y::(T++M)):=by rw[kw];exact ll9 _ hl
 have i4:=w.own_al oy;have ds:∀a,(a∈y.own\/a∈j7 T\/a∈j7 M)->¬(a∈y.frz\/a∈jY T\/a∈jY M):=λa ha hf=>by
  refine w.ds a ?_ ?_
  ·rw[kw,jX];rcases ha with z|z|z
   ·exact ll9 _ z
   ·exact lr9 _ (ll9 _ z)
   ·exact lr9 _ (lr9 _ z)
  ·rw[v9,kZ];rcases hf with z|z|z
   ·exact ll9 _ z
   ·exact lr9 _ (ll9 _ z)
   ·exact lr9 _ (lr9 _ z)
 have noM:∀z,some z∈M->l∉z.as:=λz hz ha=>by
  rcases Sl.as_of ha with q|q
  ·exact n5 l hl l (lr9 _ (mem_owned.mpr ⟨z,hz,q⟩)) rfl
  ·exact ds l (.inl hl) (.inr (.inr (mem_frozen.mpr ⟨z,hz,q⟩)))
 have ke:∀a o,H a=some o->a≠l->upd H l ob a=some o:=λa o e ne=>by rw[kz ne];exact e
 have kp:∀as:List Addr,l∉as->Kp H (upd H l ob) as:=λas hn=>by
  refine⟨λa xs e=>ke a _ e λz=>?_,λa o u e=>ke a _ e λz=>?_,λa ha o e=>ke a o e λz=>hn (z▸ha)⟩
  ·subst z;rcases i4 with⟨_,q⟩|⟨_,q⟩|⟨_,q⟩<;>(rw[e]at q;cases q)
  ·subst z;rcases i4 with⟨_,q⟩|⟨_,q⟩|⟨_,q⟩<;>(rw[e]at q;cases q)
 have wM:World K (upd H l ob) M:=by
  have w1:World K H M:=w.tail.right;exact⟨λz hz=>RepO.kp (w1.ok z hz) (kp _ (noM z hz)),w1.nd,w1.ds⟩
 refine⟨wM.cons ok' nd (λa ha hM=>?_) (λa ha hM=>?_) (λa ha hM=>?_) h3,λa o e hn=>ke a o e λz=>hn (z▸oy),λa ha=>?_,λa ha=>?_⟩
 ·rcases h1 a ha with z|z
  ·exact n5 a z a (lr9 _ hM) rfl
  ·exact n4 a z a hM rfl
 ·rcases h1 a ha with z|z
  ·exact ds a (.inl z) (.inr (.inr hM))
  ·exact ds a (.inr (.inl z)) (.inr (.inr hM))
 ·rcases h2 a ha with z|z|z
  ·rcases Sl.as_of z with z|z
   ·exact n5 a z a (lr9 _ hM) rfl
   ·exact ds a (.inr (.inr hM)) (.inl z)
  ·exact n4 a z a hM rfl
  ·exact ds a (.inr (.inr hM)) (.inr (.inl z))
 ·rw[kw]at ha;rw[kw,jX];rcases aA ha with z|z
  ·rcases h1 a z with z|z
   ·exact .inl (ll9 _ z)
   ·exact .inl (lr9 _ (ll9 _ z))
  ·exact .inl (lr9 _ (lr9 _ z))
 ·rw[v9]at ha;rw[kw,jX,v9,kZ];rcases aA ha with z|z
  ·rcases h2 a z with z|z|z
   ·rcases Sl.as_of z with z|z
    ·exact .inr (.inl (ll9 _ z))
    ·exact .inl (ll9 _ z)
   ·exact .inr (.inl (lr9 _ (ll9 _ z)))
   ·exact .inl (lr9 _ (ll9 _ z))
  ·exact .inl (lr9 _ (lr9 _ z))
theorem World.writeAt{i:Nat}(w:World K H (T++L))(hy:L[i]?=some (some y))(hl:l∈y.own)(ok':y'.ok K (upd H l ob))(nd:y'.own.Nodup)(h1:∀a∈y'.own,a∈y.own\/a∈j7 T)(h2:∀a∈y'.frz,a∈y.as\/a∈j7 T\/a∈jY T)(h3:∀a∈y'.own,a∉y'.frz):
  World K (upd H l ob) (L.set i (some y'))/\Step H (T++L) (upd H l ob) (L.set i (some y')):=by
 obtain⟨A,B,e,f⟩:=jxe hy;rw[f];subst e;have p:(T++(A++some y::B)).Perm (some y::(T++(A++B))):=by
  refine(List.Perm.append_left T (List.perm_middle (a:=some y) (l₁:=A) (l₂:=B))).trans List.perm_middle
 obtain⟨w2,s2⟩:=World.write (M:=A++B) (w.perm p) hl ok' nd h1 h2 h3;exact⟨w2.perm List.perm_middle.symm,s2.perm p.symm List.perm_middle.symm⟩
end
theorem RepA.snoc{K:Frag}{H:Hp}{g:Bool}{d:D}{x:V}{cs:List Addr}(h:RepL K H g d x cs){ds:List D}{xs:List V}{bs:List Addr}(r:RepA K H g ds xs bs):RepA K H g (ds++[d]) (xs++[x]) (bs++cs):=by
 refine RepA.app ?_ r;unfold RepA;exact⟨x,[],cs,[],rfl,by simp,h,by unfold RepA;exact⟨rfl,rfl⟩⟩
theorem kxa{K:Frag}{H:Hp}{y:Sl}{ds:List D}(ok:y.ok K H)(hd:y.d=.lst ds)(ho:y.o≠.no):∃l xs bs,y.v=.ref l/\H l=some (.lst xs)/\y.as=l::bs/\l∈y.own/\RepA K H (y.o != .dp) ds xs bs:=by
 obtain⟨o,d,v,as⟩:=y;dsimp only at hd ho;subst hd;cases o with
 |no=>exact absurd rfl ho
 |rt=>
  obtain⟨a,xs,bs,rfl,r,q,rfl⟩:=(show RepR K H (.lst ds) v as from ok);exact⟨a,xs,bs,rfl,q,rfl,by simp[Sl.own],r⟩
 |dp=>
  have ok:RepL K H false (.lst ds) v as:=ok;unfold RepL at ok;obtain⟨a,xs,bs,rfl,r,q⟩:=ok;rcases q with⟨q,rfl⟩|⟨z,_⟩
  ·exact⟨a,xs,bs,rfl,q,rfl,by simp[Sl.own],r⟩
  ·cases z
theorem kq4{K:Frag}{H:Hp}{T L:Ls}{i:Nat}{y:Sl}{l:Addr}{xs xs':List V}{bs cs:List Addr}{o':Own}{ds':List D}(w:World K H (T++L))(hy:L[i]?=some (some y))(hH:H l=some (.lst xs))(ha:y.as=l::bs)(hl:l∈y.own)(hv:y.v=.ref l)
  (r:RepA K H (o' != .dp) ds' xs' cs) (hc:(o'=.rt/\∀a∈cs,a∈bs\/a∈j7 T\/a∈jY T)\/(o'=.dp/\y.o=.dp/\cs.Nodup/\∀a∈cs,a∈bs\/a∈j7 T)):
  World K (upd H l (.lst xs')) (L.set i (some ⟨o',.lst ds',y.v,l::cs⟩))/\Step H (T++L) (upd H l (.lst xs')) (L.set i (some ⟨o',.lst ds',y.v,l::cs⟩)):=by
 have oL:l∈j7 L:=mem_owned.mpr ⟨y,vx hy,hl⟩;have oy:l∈j7 (T++L):=by rw[jX];exact lr9 _ oL
 have nd:=w.nd;rw [jX,Xe]at nd;have nT:l∉j7 T:=λz=>nd.2.2 l z l oL rfl
 have nF:l∉jY T:=λz=>w.ds l oy (by rw[kZ];exact ll9 _ z)
 have yn:y.own.Nodup:=by
  obtain⟨A,B,e,_⟩:=jxe hy;have:=nd.2.1;rw[e,jX,kw,Xe]at this;exact(List.nodup_append.mp this.2.1).1
 have nb:l∉bs:=λz=>by
  cases ho:y.o with
  | no=>unfold Sl.own at hl;rw[ho]at hl;exact nomatch hl
  | rt=>
   have:l∈y.frz:=by unfold Sl.frz;rw[ho,ha];exact z
   exact w.ds l oy (by rw[kZ];exact lr9 _ (mem_frozen.mpr ⟨y,vx hy,this⟩))
  | dp=>
   unfold Sl.own at yn;rw[ho,ha]at yn;exact(List.nodup_cons.mp yn).1 z
 have nc:l∉cs:=λz=>by
  rcases hc with⟨_,hc⟩|⟨_,_,_,hc⟩
  ·rcases hc l z with q|q|q
   ·exact nb q
   ·exact nT q
   ·exact nF q
  ·rcases hc l z with q|q
   ·exact nb q
   ·exact nT q
 have kp:Kp H (upd H l (.lst xs')) cs:=by
  have k2:∀a o,H a=some o->a≠l->upd H l (.lst xs') a=some o:=λa o e ne=>by rw[kz ne];exact e
  refine⟨λa zs e=>k2 a _ e λz=>?_,λa o u e=>k2 a _ e λz=>?_,λa ha o e=>k2 a o e λz=>nc (z▸ha)⟩
  ·subst z;rw[hH]at e;cases e
  ·subst z;rw[hH]at e;cases e
 have r':=r.kp kp;rcases hc with⟨rfl,hc⟩|⟨rfl,hdp,hnd,hc⟩
 ·refine World.writeAt w hy hl (y':=⟨.rt,.lst ds',y.v,l::cs⟩) ⟨l,xs',cs,hv,r',vK,rfl⟩ (by simp[Sl.own]) (λa h=>?_) (λa h=>?_) (λa h z=>?_)
  ·have:a=l:=by simpa [Sl.own]using h
   subst this;exact .inl hl
  ·rcases hc a (by simpa [Sl.frz]using h)with q|q
   ·exact .inl (by rw[ha];exact lc9 _ q)
   ·exact .inr q
  ·have:a=l:=by simpa [Sl.own]using h
   subst this;exact nc (by simpa [Sl.frz]using z)
 ·have oa:y.own=y.as:=by unfold Sl.own;rw[hdp]
  refine World.writeAt w hy hl (y':=⟨.dp,.lst ds',y.v,l::cs⟩) ?_ (List.nodup_cons.mpr ⟨nc,hnd⟩) (λa h=>?_) (λa h=>(nomatch h)) (λa h z=>(nomatch z))
  ·show RepL K _ false (.lst ds') y.v (l::cs);unfold RepL;exact⟨l,xs',cs,hv,r',.inl ⟨vK,rfl⟩⟩
  ·rcases aD (show a∈l::cs from h)with q|q
   ·subst q;exact .inl hl
   ·rcases hc a q with q|q
    ·exact .inl (by rw[oa,ha];exact lc9 _ q)
    ·exact .inr q
section
variable {X:Cx}{Z:Fx0}{pn:List Nat}{q:Bool}{c:Ex}{e:Expr}{O:L2.St}{H:Hp}{L:Ls}{E:En}
theorem vkf{K:Frag}{x:Sl}{ds:List D}(ok:x.ok K H)(hd:x.d=.lst ds):tyV K "list" x.v H:=by
 obtain⟨a,xs,bs,e1,q1,_⟩:=items ok (.inl hd);rw[e1];rcases q1 with⟨_,z⟩|⟨z,_⟩
 ·exact .inl ⟨rfl,xs,z.sq⟩
 ·rw[hd]at z;cases z
theorem wwk{K:Frag}{x:Sl}(ok:x.ok K H)(b:Bool)(hb:b=false->xk x.sd=true):∃cs,RepL K H b x.d x.v cs/\(∀a∈cs,a∈x.as)/\(b=false->∀a∈cs,a∈x.own)/\(b=false->x.own.Nodup->cs.Nodup):=by
 cases b with
 | true=>exact⟨x.as,RepO.wk ok,λ_ h=>h,(λz=>by cases z),(λz=>by cases z)⟩
 | false=>
  have t:=hb rfl;unfold xk at t
  by_cases ho:x.o=.dp
  ·have e:x.own=x.as:=by unfold Sl.own;rw[ho]
   refine⟨x.as,?_,λ_ h=>h,λ_ a h=>by rw[e];exact h,λ_ n=>by rw[e]at n;exact n⟩;have:=ok;unfold Sl.ok at this;rw[ho]at this;exact this
  ·have hp:x.d.pure=true:=by
    rcases Bool.or_eq_true_iff.mp t with z|z
    ·exact absurd (by simpa using z) ho
    ·exact z
   obtain⟨z,rp⟩:=RepL.pu (g':=false) (RepO.wk ok) hp;exact⟨[],rp,λ_ h=>(nomatch h),λ_ _ h=>(nomatch h),λ_ _=>Y4⟩
theorem XQ{α:Type}{l:List α}{i:Nat}{x:α}(h:l[i]?=some x):l.set i x=l:=by
 obtain⟨h1,h2⟩:=List.getElem?_eq_some_iff.mp h;rw[<-h2];simp
theorem mut1 {D':Ends} {f:List D->D->Option (List D)} {i:Nat} {r:Fl} {G:V->V->Hp->Prop} (m:Mt E O L) (w:World Z.K H L) (hc:qw f i c E=some r) (k:FlP Z pn D' O H L r)
  (g:∀ (l:Addr) (x:V) (xs:List V) (ds ds':List D) (d:D) (bs cs:List Addr) (H1:Hp) (gg:Bool),f ds d=some ds'->H1 l=some (.lst xs)->RepA Z.K H1 gg ds xs bs->RepL Z.K H1 gg d x cs ->
   (∀ xs' es,RepA Z.K H1 gg ds' xs' es->(∀a∈es,a∈bs\/a∈cs)->((bs++cs).Nodup->es.Nodup)->D'.nx O (upd H1 l (.lst xs')))->G (.ref l) x H1):
  ∃ v,O[i]?=some (some v)/\tyV Z.K "list" v H/\tQ Z q c O H (G v):=by
 unfold qw at hc;cases h0:E[i]? with
 | none=>rw[h0]at hc;cases hc
 | some s0 =>
  cases s0 with
  | none=>rw[h0]at hc;cases hc
  | some s0=>
   obtain ⟨o0,d0⟩:=s0;cases d0 with
   | lst ds0=>
    rw [h0,X8 (show JQ (some (some (o0,D.lst ds0)))=true from rfl)]at hc;obtain ⟨x0,a1,a2,a3,a4⟩:=m.get h0;refine ⟨x0.v,a4,vkf (w.ok x0 (vx a1)) a3,?_⟩;refine Vv m w hc k λE1 s h1 x L1 H1 e1 e2 m1 w1 st _=>?_
    cases hE:E1[i]? with
    | none=>rw[hE]at h1;cases h1
    | some s1=>
     cases s1 with
     | none=>rw[hE]at h1;cases h1
     | some s1=>
      obtain⟨oo,dd⟩:=s1;rw [hE]at h1;cases dd with
      | lst ds=>
       dsimp only at h1
       by_cases ig:oo=.no
       ·rw [X8 ig]at h1;cases h1
       ·rw [Xb ig]at h1;cases hfd:f ds s.2 with
        | none=>rw[hfd]at h1;cases h1
        | some ds'=>
         rw[hfd]at h1;obtain⟨y,b1,b2,b3,b4⟩:=m1.get hE;have hv:y.v=x0.v:=by rw[a4]at b4;exact(oq9 (oq9 b4)).symm
         obtain⟨l,xs,bs,c1,c2,c3,c4,c5⟩:=kxa (w1.ok y (lc9 _ (vx b1))) b3 (by rw[b2];exact ig);have ex0:x0.v=.ref l:=hv▸c1;rw[ex0];have wT:World Z.K H1 ([some x]++L1):=w1;have lr:=w1.head;have nd:=w1.nd;rw[kw,Xe]at nd;have oT:j7 [some x]=x.own:=by simp
         have fT:jY [some x]=x.frz:=by simp
         by_cases hd:oo=.dp/\xk s=true
         ·rw[X8 hd]at h1;cases oq9 h1;have hyo:y.o=.dp:=b2.trans hd.1;rw[hyo]at c5;obtain⟨cs,r1,h3,h4,h5⟩:=wwk lr false λ_=>by rw[show x.sd=s from by simp[Sl.sd,e1,e2]];exact hd.2
          refine g l x.v xs ds ds' s.2 bs cs H1 false hfd c2 c5 (by rw[<-e2];exact r1) λxs' es re he hn=>?_
          have ynd:(bs++cs).Nodup:=by
           have yo:y.own=l::bs:=by unfold Sl.own;rw[hyo,c3]
           obtain⟨A,B,e,_⟩:=jxe b1;have q:=nd.2.1;rw[e,jX,kw,Xe]at q;have q2:=(List.nodup_append.mp q.2.1).1;rw[yo]at q2;rw[Xe];refine⟨(List.nodup_cons.mp q2).2,h5 rfl nd.1,λa ha b hb ma=>?_⟩;subst ma;exact nd.2.2 a (h4 rfl a hb) a (mem_owned.mpr ⟨y,vx b1,by rw[yo];exact lc9 _ ha⟩) rfl
          obtain⟨w3,s3⟩:=kq4 (o':=.dp) (ds':=ds') (xs':=xs') wT b1 c2 c3 c4 c1 re (.inr ⟨rfl,hyo,hn ynd,λa ha=>(he a ha).imp id λz=>by rw[oT];exact h4 rfl a z⟩);refine k O _ _ Pn.refl ?_ w3 (st.trans s3);have:=m1.set (x:=⟨.dp,.lst ds',y.v,l::es⟩) i;rw[XQ b4]at this;exact this
         ·rw[Xb hd]at h1;cases oq9 h1;have c6:RepA Z.K H1 true ds xs bs:=by
           cases hb:(y.o != .dp)with|true=>rw[hb]at c5;exact c5|false=>rw[hb]at c5;exact c5.wk
          refine g l x.v xs ds ds' s.2 bs x.as H1 true hfd c2 c6 (by rw[<-e2];exact RepO.wk lr) λxs' es re he hn=>?_
          obtain⟨w3,s3⟩:=kq4 (o':=.rt) (ds':=ds') (xs':=xs') wT b1 c2 c3 c4 c1 re (.inl ⟨rfl,λa ha=>(he a ha).imp id λz=>by rw[oT,fT];exact Sl.as_of z⟩);refine k O _ _ Pn.refl ?_ w3 (st.trans s3);have:=m1.set (x:=⟨.rt,.lst ds',y.v,l::es⟩) i;rw[XQ b4]at this;exact this
      |_=>cases h1
   |_=>rw[h0]at hc;cases hc
theorem wvw{i:Nat}{o:Expr}{br az pos:Pos}(hb:PE X (.Call (.Attribute o "append" br) [e] [] az) (tBM Z.K "list" kx5 (JZ i) (qxq (tQ Z q c) wqs)))(hs:autoParam (swapsWith (.Call (.Attribute o "append" br) [e] [] az) none pos.line X.env=pure false) Ŕ):
  QS X Z pn (qw qQ i c) (.Expr (.Call (.Attribute o "append" br) [e] [] az) pos):=zQ (vv0 hb hs) λD O H b7=>ex7 b7 λE L r m w hc k=>
 mut1 (G:=λv x H1=>kx5 v [x] H1 λ_ H2=>D.nx O H2) m w hc k λl x xs ds ds' d bs cs H1 gg hf hH ra rx fin=>by
  unfold qQ at hf
  by_cases hl:ds.length<big
  ·rw[X8 hl]at hf;cases oq9 hf;exact⟨l,xs,x,rfl,rfl,hH,by rw[<-ra.len];exact hl,fin (xs++[x]) (bs++cs) (RepA.snoc rx ra) (λa ha=>aA ha) λh=>h⟩
  ·rw[Xb hl]at hf;cases hf
end
section
variable {X:Cx}{Z:Fx0}{pn:List Nat}{q:Bool}{a b c:Ex}{tg e ea eb:Expr}{O:L2.St}{H:Hp}{L:Ls}{E:En}{pos p:Pos}
theorem vxq{pins:List (Addr×Obj)}{H1:Hp}{s1:Shared}{x:Str}{t:Tok}{R:It->Hp->Prop}(I1:L2.Inv X pins O H1 s1)(q:R (Its x) H1):wpAny (model X.prog X.w) X.A (pyIter (.str x t)) (PIE X pins O tg R) X.xe s1:=by
 have fp:∀b∈[s1.heap.objs.size],v8 X pins H1 b:=λb hb=>by
  have e:b=s1.heap.objs.size:=by simpa using hb
  subst e;exact I1.fpOk (X9 _) (I1.hok.fresh (X9 _))
 cases ha:x.cps.all (· < 128)
 ·exact wpAny_pyIter_wide ha ⟨s1.heap.objs.size,[s1.heap.objs.size],_,_,H1,rfl,I1.kept (t':=s1.toks) λb o e=>X1 _ e,kz6 (λA' hA=>PySem.Walks.strWide hA _ x t) (λ_ _ _ _ _ st h=>wpAny_pyIter_striter_wide st h) ⋯,⟨_,X6 _ rfl,rfl,rfl⟩,fp,q⟩
 ·exact wpAny_pyIter_ascii ha ⟨s1.heap.objs.size,[s1.heap.objs.size],_,_,H1,rfl,I1.kept (t':=s1.toks) λb o e=>X1 _ e,kz6 (λA' hA=>PySem.Walks.strAscii hA _ x t) (λ_ _ _ _ _ st h=>wpAny_pyIter_striter_ascii st h) ⋯,⟨_,X6 _ rfl,rfl,rfl⟩,fp,q⟩
theorem wjr{K:Frag}{H:Hp}(c:Nat):Sl.ok K H ⟨.no,.str ⟨#[c]⟩,.str ⟨#[c]⟩,[]⟩:=by
 show RepL K H true _ _ _;exact YZ (show(1:Nat)<=sizeLine by decide)
theorem wjq{K:Frag}{H:Hp}(i:Int):Sl.ok K H ⟨.no,.int i,.int i,[]⟩:=by
 show RepL K H true _ _ _;exact wj
def iAny(K:Frag)(tl:TE):TI:=fun O H R=>tl O H λx H1=>(∃a xs,x=.ref a/\SqL K H1 a xs/\(xs.length<=sizeLine->R (Itl K a) H1))\/(∃a xs,x=.ref a/\SqT K H1 a xs/\(xs.length<=sizeLine->R (Itt K a) H1))\/∃z,x=.str z/\R (Its z) H1
theorem vk8{l:Expr}{tl:TE}(hl:PE X l tl):PI X tg l (iAny X.K tl):=by
 intro pins s O H R I h;have h':tl O H λx H1=>(∃a xs,x=.ref a/\SqL X.K H1 a xs/\(xs.length<=sizeLine->R (Itl X.K a) H1))\/(∃a xs,x=.ref a/\SqT X.K H1 a xs/\(xs.length<=sizeLine->R (Itt X.K a) H1))\/∃z,x=.str z/\R (Its z) H1:=h
 refine thn (hl pins s O H _ I h') λv s1 ⟨x,H1,I1,r1,q1⟩=>?_
 rcases q1 with⟨a,xs,rfl,hq,q⟩|⟨a,xs,rfl,hq,q⟩|⟨z,rfl,q⟩
 ·cases r1;obtain⟨ah,rv,p,hz⟩:=I1.list hq;refine wpAny_pyIter_list p.isList ?_;refine⟨s1.heap.objs.size,[s1.heap.objs.size],_,_,H1,rfl,I1.kept (t':=s1.toks) λb o e=>X1 _ e,qkx a _,⟨_,X6 _ rfl,rfl,rfl⟩,λb hb=>?_,q hz⟩;have e:b=s1.heap.objs.size:=by simpa using hb
  subst e;exact I1.fpOk (X9 _) (I1.hok.fresh (X9 _))
 ·cases r1;obtain⟨ah,rv,p,hz⟩:=I1.tuple hq;refine wpAny_pyIter_tuple (show s1.heap.IsTuple a ah.toArray from p) ?_;refine⟨s1.heap.objs.size,[s1.heap.objs.size],_,_,H1,rfl,I1.kept (t':=s1.toks) λb o e=>X1 _ e,qjm a _,⟨_,X6 _ rfl,rfl,rfl⟩,λb hb=>?_,q hz⟩;have e:b=s1.heap.objs.size:=by simpa using hb
  subst e;exact I1.fpOk (X9 _) (I1.hok.fresh (X9 _))
 ·obtain⟨t,rfl⟩:=r1;exact vxq I1 q
theorem xY(h:QE X Z q c e)(hK:autoParam (X.K=Z.K) Ŕ):QI X Z q tg (itS c) e:=λpins s O H R I b7=>ex8 b7 λE L r m w hc xc k=>by
 refine(hK▸vk8 h) pins s O H R I ?_;refine Wk m w (show bnd (c E) _=some r from hc) xc λE1 s h1 x L1 H1 e1 e2 m1 w1 st sm=>?_
 obtain⟨ds,hd,rfl⟩:=J3 h1;have ok:=w1.head;have wT:World Z.K H1 (L1++[x.let].map some):=by
  refine World.comm (L:=[some x.let]) ?_;exact w1.tail.consNo (V7 ok) rfl λb hb=>w1.apart b hb
 have sT:Step H L H1 (L1++[x.let].map some):=by
  refine⟨st.keep,λb hb=>?_,λb hb=>?_⟩
  ·have:b∈j7 L1:=by simpa [QZ]using hb
   exact st.own b (by rw[kw];exact lr9 _ this)
  ·have:b∈jY L1\/b∈x.as:=by simpa [QZ]using hb
   rcases this with z|z
   ·exact st.frz b (by rw[v9];exact lr9 _ z)
   ·exact kkt st b z
 cases hx:x.d with
 | lst es=>
  rw[<-e2,hx]at hd;have jy:es=ds:=oq9 hd;subst jy;obtain⟨a,xs,bs,ev,q3,r3,h3,_⟩:=items ok (.inl hx);have q3:LsR Z.K H1 a xs:=by rcases q3 with⟨_,z⟩|⟨z,_⟩;exact z;rw[hx]at z;cases z
  have again:∀H2:Hp,(∀t∈[x.let],t.ok Z.K H2)->∃ys cs,SqL Z.K H2 a ys/\RepA Z.K H2 true es ys cs/\∀b∈cs,b∈x.as:=λH2 hok=>by
   obtain⟨a',ys,cs,nh,q4,r4,h4,_⟩:=items (hok x.let (aB rfl)) (.inl hx);have:a'=a:=by have:=nh.symm.trans ev;exact V.ref.inj this
   subst this;rcases q4 with⟨_,z⟩|⟨z,_⟩
   ·exact⟨ys,cs,z.sq,r4,h4⟩
   ·rw[show x.let.d=D.lst es from hx]at z;cases z
  refine .inl ⟨a,xs,ev,q3.sq,λav=>k _ _ rfl (Itl Z.K a) [x.let] L1 H1 m1 wT sT (by rw[r3.len];exact av) (λhq=>(sm hq).1) ⟨λt ht=>by rw[aC ht];rfl,λi H2 hok hi=>?_,λH2 hok=>?_,λi H2 v H3 d hok hy gp=>?_⟩⟩
  ·obtain⟨ys,cs,s1,s2,_⟩:=again H2 hok;have hl:=s2.len;exact⟨ys,ys[i]'⋯,s1,X3 ⋯⟩
  ·obtain⟨ys,cs,s1,s2,_⟩:=again H2 hok;exact⟨ys,s1,by rw[s2.len];exact X9 _⟩
  ·obtain⟨ys,cs,s1,s2,s3⟩:=again H2 hok;obtain⟨e3,hy⟩:=hy;subst e3;obtain⟨v',dn,f1,f2,f3⟩:=s2.get gp;have:v'=v:=by have:=hy ys s1;rw[f1]at this;exact oq9 this
   subst this;exact⟨⟨.no,d,v',dn⟩,rfl,rfl,rfl,wZ,f2,λb hb=>⟨x.let,aB rfl,s3 b (f3 b hb)⟩⟩
 | tup es=>
  rw[<-e2,hx]at hd;have jy:es=ds:=oq9 hd;subst jy;obtain⟨a,xs,bs,ev,q3,r3,h3,_⟩:=items ok (.inr hx);have q3:SqT Z.K H1 a xs:=by rcases q3 with⟨z,_⟩|⟨_,z⟩;rw[hx]at z;cases z;exact z
  have again:∀H2:Hp,(∀t∈[x.let],t.ok Z.K H2)->∃ys cs,SqT Z.K H2 a ys/\RepA Z.K H2 true es ys cs/\∀b∈cs,b∈x.as:=λH2 hok=>by
   obtain⟨a',ys,cs,nh,q4,r4,h4,_⟩:=items (hok x.let (aB rfl)) (.inr hx);have:a'=a:=by have:=nh.symm.trans ev;exact V.ref.inj this
   subst this;rcases q4 with⟨z,_⟩|⟨_,z⟩
   ·rw[show x.let.d=D.tup es from hx]at z;cases z
   ·exact⟨ys,cs,z,r4,h4⟩
  refine .inr (.inl ⟨a,xs,ev,q3,λav=>k _ _ rfl (Itt Z.K a) [x.let] L1 H1 m1 wT sT (by rw[r3.len];exact av) (λhq=>(sm hq).1) ⟨λt ht=>by rw[aC ht];rfl,λi H2 hok hi=>?_,λH2 hok=>?_,λi H2 v H3 d hok hy gp=>?_⟩⟩)
  ·obtain⟨ys,cs,s1,s2,_⟩:=again H2 hok;have hl:=s2.len;exact⟨ys,ys[i]'⋯,s1,X3 ⋯⟩
  ·obtain⟨ys,cs,s1,s2,_⟩:=again H2 hok;exact⟨ys,s1,by rw[s2.len];exact X9 _⟩
  ·obtain⟨ys,cs,s1,s2,s3⟩:=again H2 hok;obtain⟨e3,hy⟩:=hy;subst e3;obtain⟨v',dn,f1,f2,f3⟩:=s2.get gp;have:v'=v:=by have:=hy ys s1;rw[f1]at this;exact oq9 this
   subst this;exact⟨⟨.no,d,v',dn⟩,rfl,rfl,rfl,wZ,f2,λb hb=>⟨x.let,aB rfl,s3 b (f3 b hb)⟩⟩
 | str z=>
  rw[<-e2,hx]at hd;have hd:(if z.cps.size<=big then some (z.cps.toList.map λc=>D.str ⟨#[c]⟩)else none)=some ds:=hd
  split at hd
  ·rename_i hz;cases oq9 hd;refine .inr (.inr ⟨z,(xW ok hx).1,k _ _ rfl (Its z) [] L1 H1 m1 (by simpa using w1.tail) (by simpa using (st.trans Step.drop)) (by rw[X4,Xj];exact hz) (λhq=>(sm hq).1) ⟨λt ht=>(nomatch ht),λi H2 _ hi=>?_,λH2 _=>?_,λi H2 v H3 d _ hy gp=>?_⟩⟩)
   ·show i<z.cps.size
    simpa using hi
   ·show(z.cps.toList.map λc=>D.str ⟨#[c]⟩).length=z.cps.size;simp
   ·obtain⟨e3,cc,hc,rfl⟩:=hy;subst e3;rw[Xp,Yj,hc]at gp;cases oq9 gp;exact⟨⟨.no,.str ⟨#[cc]⟩,.str ⟨#[cc]⟩,[]⟩,rfl,rfl,rfl,wZ,wjr cc,λb hb=>(nomatch hb)⟩
  ·cases hd
 |non=>rw[<-e2,hx]at hd;cases hd|bl _=>rw[<-e2,hx]at hd;cases hd|int _=>rw[<-e2,hx]at hd;cases hd|dct _=>rw[<-e2,hx]at hd;cases hd|obj _ _=>rw[<-e2,hx]at hd;cases hd
theorem qjk{K:Frag}(lo hi:Int):Walks K (Itr lo (hi - lo).toNat) [] (jZ lo hi):=by
 have hl:(jZ lo hi).length=(hi - lo).toNat:=by simp[jZ]
 refine⟨λt ht=>(nomatch ht),λi H _ lf=>by rw[hl]at lf;exact lf,λH _=>by rw[hl];exact X9 _,λi H v H' d _ hy hd=>?_⟩;obtain⟨e,rfl⟩:=hy;subst e;unfold jZ at hd;rw[Xp]at hd;cases hr:(List.range (hi - lo).toNat)[i]? with
 | none=>rw[hr]at hd;cases hd
 | some j=>
  rw[hr]at hd;have:j=i:=by
   obtain⟨_,h2⟩:=List.getElem?_eq_some_iff.mp hr
   simpa using h2.symm
  subst this;cases oq9 hd;exact⟨⟨.no,.int (lo+(j:Int)),.int (lo+(j:Int)),[]⟩,rfl,rfl,rfl,wZ,wjq _,λb hb=>(nomatch hb)⟩
theorem jxl{i:Int}(h:xq i=true):-(2 ^ 62)<=i/\i<2 ^ 62:=by
 unfold xq at h
 simpa using h
theorem JJ(ha:QV X Z q a ea)(hg:Gl X "range")(hm:X.mg "range"=none)(cq:autoParam (starEach [ea] X.env=[(false,eval ea X.env)]) Ŕ):QI X Z q tg (vY a) (.Call (.Name "range" p) [ea] [] pos):=λpins s O H R I b7=>ex8 b7 λE L r m w hc xc k=>by
 refine(qv2 hg hm (qZ ha wq cq) cq) pins s O H R I ?_;refine vk m w (show bnd (a E) _=some r from hc) xc λE1 s h1 x L1 H1 e1 e2 m1 w1 ok fr sr st sm=>?_
 cases hx:s.2 with
 | int j=>
  rw[hx]at h1;dsimp only at h1
  split at h1
  ·rename_i hj;cases oq9 h1;obtain⟨j1,j2⟩:=jxl hj.1;have hv:=qX ok (e2.trans hx);refine⟨j,by rw[hv],j1,j2,?_⟩;have wk:=qjk (K:=Z.K) 0 j;rw[Int.sub_zero]at wk;exact k _ _ rfl (Itr 0 j.toNat) [] L1 H1 m1 (by simpa using w1) (by simpa using st) (by simp only[jZ,X4,Yq,Int.sub_zero];exact hj.2) sm wk
  ·cases h1
 |_=>rw[hx]at h1;cases h1
theorem Mt.clr:∀{R:List Nat} {E:En} {L:Ls},Mt E O L->Mt (Q.clr R E) O (Q.clr R L)
 | [],_,_,m=>m
 | j::R,E,L,m=>by
  have un:∀{E:En} {O:L2.St} {L:Ls} (j:Nat),Mt E O L->Mt (E.set j none) O (L.set j none):=by
   intro E O L j m
   induction m generalizing j with
   |nil=>exact .nil
   |un m ih=>cases j with|zero=>exact .un m|succ j=>exact .un (ih j)
   |cons m ih=>cases j with|zero=>exact .un m|succ j=>exact .cons (ih j)
  show Mt (Q.clr R (E.set j none)) O (Q.clr R (L.set j none));exact Mt.clr (un j m)
theorem Mt.drop:∀{E:En} {O:L2.St} {L:Ls} (k:Nat),Mt E O L->Mt (E.drop k) (O.drop k) (L.drop k)
 |_,_,_,0,m=>m|_,_,_,k+1,.nil=>.nil|_,_,_,k+1,.un m=>m.drop k|_,_,_,k+1,.cons m=>m.drop k
theorem Mt.none_at:∀{E:En} {O:L2.St} {L:Ls} {j:Nat},Mt E O L->E[j]?=some none->L[j]?=some none
 |_,_,_,_,.nil,h=>by simp at h|_,_,_,0,.un _,_=>by simp|_,_,_,j+1,.un m,h=>by simpa using m.none_at (j:=j) (by simpa using h)|_,_,_,0,.cons _,h=>by simp at h|_,_,_,j+1,.cons m,h=>by simpa using m.none_at (j:=j) (by simpa using h)
theorem Mt.pick:∀{R:List Nat},Mt E O L->Mt (R.map (at' E)) (R.map (at' O)) (R.map (at' L))
 | [],_=>.nil
 | j::R,m=>by
  rw[List.map_cons,List.map_cons,List.map_cons];cases hE:E[j]? with
  | none=>
   have hl:=m.len;have:L[j]?=none:=by rw[List.getElem?_eq_none_iff]at hE ⊢;omega
   rw[show at' E j=none from by unfold at';rw[hE];rfl,show at' L j=none from by unfold at';rw[this];rfl];exact .un m.pick
  | some s=>
   cases s with
   |none=>
    have:L[j]?=some none:=m.none_at hE;rw[show at' E j=none from by unfold at';rw[hE];rfl,show at' L j=none from by unfold at';rw[this];rfl];exact .un m.pick
   |some s=>
    obtain⟨o,d⟩:=s;obtain⟨x,h1,h2,h3,h4⟩:=m.get hE;rw[show at' E j=some (x.o,x.d)from by unfold at';rw[hE,h2,h3];rfl,show at' L j=some x from by unfold at';rw[h1];rfl,show at' O j=some x.v from by unfold at';rw[h4];rfl];exact .cons m.pick
theorem Mt.rep:∀{k:Nat},Mt E O L->Mt (List.replicate k none++E) (List.replicate k none++O) (List.replicate k none++L)
 |0,m=>by simpa using m
 |k+1,m=>by
  rw[List.replicate_succ,List.replicate_succ,List.replicate_succ];exact .un m.rep
theorem Mt.back:∀{R:List Nat} {B:En} {τ:L2.St} {M:Ls} {E:En} {L:Ls},Mt E O L->Mt B τ M->(∀(i j:Nat) (v:V),R[i]?=some j->τ[i]?=some (some v)->O[j]?=some (some v))->Mt (Q.back R B E) O (Q.back R M L)
 | [],B,τ,M,E,L,m,_,_=>by simpa [Q.back]using m| j::R,_,_,_,E,L,m,.nil,_=>by simpa [Q.back]using m
 | j::R,_,_,_,E,L,m,.un mB,h=>by
  have un:∀{E:En} {O:L2.St} {L:Ls} (j:Nat),Mt E O L->Mt (E.set j none) O (L.set j none):=by
   intro E O L j m
   induction m generalizing j with
   |nil=>exact .nil
   |un m ih=>cases j with|zero=>exact .un m|succ j=>exact .un (ih j)
   |cons m ih=>cases j with|zero=>exact .un m|succ j=>exact .cons (ih j)
  show Mt (Q.back R _ (E.set j none)) O (Q.back R _ (L.set j none));exact Mt.back (un j m) mB λi jj v e1 e2=>h (i+1) jj v (by simpa using e1) (by simpa using e2)
 |j::R,_,_,_,E,L,m,.cons (x:=x) mB,h=>by
  have h0:=h 0 j x.v (by simp) (by simp);have m1:=m.set (x:=x) j;rw[XQ h0]at m1;show Mt (Q.back R _ (E.set j _)) O (Q.back R _ (L.set j _));exact Mt.back m1 mB λi jj v e1 e2=>h (i+1) jj v (by simpa using e1) (by simpa using e2)
section
variable {b6 fb:Expr}{eh:List Expr}{scope:Scope}{N:List Str}{k:Nat}{R:List Nat}{it:Ev (List D)}{tt:Tg}{u:Ts}{o:Own}{q1 q2:Bool}
theorem vvt:Jx k R O=List.replicate k none++R.map (at' O):=rfl
theorem wwe{K:Frag}{M:Ls}(hR:R.Nodup)(w:World K H (L++M)):World K H ((List.replicate k none++R.map (at' L))++(Q.clr R L++M))/\Step H (L++M) H ((List.replicate k none++R.map (at' L))++(Q.clr R L++M)):=by
 have p:(sls (L++M)).Perm (sls ((List.replicate k none++R.map (at' L))++(Q.clr R L++M))):=by
  have:=qjb (R:=R) (L:=L) hR;rw[Qq]at this;simp only[Qq,vqb,List.nil_append];rw[<-Xy];exact(this.append_right _).symm
 exact⟨w.same p,Step.refl.same (List.Perm.refl _) p⟩
theorem wjy{K:Frag}{B:Ls}{M:Ls}{H2:Hp}(hR:R.Nodup)(hr:∀j∈R,j<L.length)(hB:B.length=k+R.length)(w:World K H2 (B++(Q.clr R L++M))):World K H2 (Q.back R (B.drop k) (Q.clr R L)++M)/\Step H2 (B++(Q.clr R L++M)) H2 (Q.back R (B.drop k) (Q.clr R L)++M):=by
 have p:=kwn (R:=R) (B:=B.drop k) (L:=Q.clr R L) hR (λj hj=>qwx hj) (λj hj=>by rw[qww];exact hr j hj) (by rw[Yb,hB];omega);have p2:(sls (Q.back R (B.drop k) (Q.clr R L)++M)).Perm (sls (B.drop k++(Q.clr R L++M))):=by
  rw[Qq,<-Xy,Qq (B.drop k++Q.clr R L)];exact p.append_right _
 have sub:(sls (B.drop k++(Q.clr R L++M))).Sublist (sls (B++(Q.clr R L++M))):=by
  rw[Qq,Qq B];refine List.Sublist.append ?_ (Yp _);unfold sls;exact(List.drop_sublist k B).filterMap _
 exact⟨(w.sub sub).same p2.symm,(Step.refl.sub sub).same (List.Perm.refl _) p2.symm⟩
theorem jzr:∀{is:List Nat} {es:List D} {E E':En},setAll is es E=some E'->E'.length=E.length
 |[],[],_,_,h=>by cases oq9 h;rfl|[],_::_,_,_,h=>by cases h|_::_,[],_,_,h=>by cases h|i::is,d::es,E,E',h=>by rw[jzr (E:=E.set i (some (.no,d))) h,Yt]
theorem vqt{t:Tg}{d:D}{E E':En}(h:t.put d E=some E'):E'.length=E.length:=by
 cases t with
 |n i=>cases oq9 h;rw[Yt]
 |t is=>
  cases d with|tup es=>exact jzr (show setAll is es E=some E' from h)|lst es=>exact jzr (show setAll is es E=some E' from h)|_=>cases h
theorem kxl{nN:Nat}{Q:VK}(hσ:O.length=nN)(hR:R.Nodup)(hr:∀j∈R,j<nN)(h:tQ Z q (cLC o k R it tt u c) O H Q):tLC (tIS Z q it) (tG Z ((List.range R.length).map (k + ·)) tt) (tT Z q u) (tQ Z q c) k R O H Q:=by
 obtain⟨E,L,r,m,w,ij,xc,kk⟩:=h;have ij:bnd (it E) (λE ds=>match lcL tt u c ds (KQ k R E) []with
  | some (.ok B xs)=>mkL o (J5 k R B E) xs| some (.exc B e)=>some (.exc (J5 k R B E) e)
  | none=>none)=some r:=ij
 rcases wK ij with⟨E1,ds,h1,h2⟩|⟨E1,cc,h1,h2⟩
 rotate_left
 ·exact⟨E,L,_,m,w,h1,xc.map h2,λE' s' z=>by cases z⟩
 refine⟨E,L,_,m,w,h1,(λ_ _ z=>by cases z),λE' ds' z J T L1 H1 m1 w1 st hz sm wk=>?_⟩;injection z with z1 z2;subst z1 z2;have hL1:∀j∈R,j<L1.length:=λj hj=>by have:=m1.len;have:=hr j hj;omega
 obtain⟨wB,sB⟩:=wwe (k:=k) hR w1;cases hrB:lcL tt u c ds (KQ k R E1) []with
 | none=>rw[hrB]at h2;cases h2
 | some rB=>
  rw [hrB]at h2;have jn:∀{H2:Hp} {A B:Ls},World Z.K H2 (A++(B++(_root_.Q.clr R L1++T.map some)))->∀t∈T,t.ok Z.K H2:=λw2 t ht=>w2.ok t (lr9 _ (lr9 _ (lr9 _ (Xk ht))))
  have mB0:Mt (KQ k R E1) (Jx k R O) (List.replicate k none++R.map (at' L1)):=(m1.pick (R:=R)).rep;have t5:∀{B:En} {LB:Ls} {τ:L2.St} {H2:Hp} {A:Ls},Mt B τ LB->τ.length=k+R.length->Pn ((List.range R.length).map (k + ·)) (Jx k R O) τ->World Z.K H2 (LB++(A++(_root_.Q.clr R L1++T.map some))) ->
    Mt (J5 k R B E1) O (_root_.Q.back R (LB.drop k) (_root_.Q.clr R L1))/\World Z.K H2 (A++_root_.Q.back R (LB.drop k) (_root_.Q.clr R L1))/\Step H2 (LB++(A++(_root_.Q.clr R L1++T.map some))) H2 (A++_root_.Q.back R (LB.drop k) (_root_.Q.clr R L1)):=fun {B LB τ H2 A} mB lB pB wB2=>by
   have hl:LB.length=k+R.length:=by rw[mB.len.2];exact lB
   have pm:(LB++(A++(_root_.Q.clr R L1++T.map some))).Perm (LB++(_root_.Q.clr R L1++(A++T.map some))):=by
    refine List.Perm.append_left _ ?_;rw [<-Xy,<-Xy];exact List.Perm.append_right _ List.perm_append_comm
   obtain⟨w3,s3⟩:=wjy (k:=k) hR hL1 hl (wB2.perm pm);have si:(_root_.Q.back R (LB.drop k) (_root_.Q.clr R L1)++(A++T.map some)).Perm ((A++_root_.Q.back R (LB.drop k) (_root_.Q.clr R L1))++T.map some):=by
    rw [<-Xy];exact List.Perm.append_right _ List.perm_append_comm
   refine⟨?_,(w3.perm si).left,(s3.perm pm.symm si).trans Step.dropT⟩;refine Mt.back (m1.clr) (mB.drop k) λi j v e1 e2=>?_
   have hi:i<R.length:=(List.getElem?_eq_some_iff.mp e1).1;have e3:=pB (k+i) (List.mem_map.mpr ⟨i,List.mem_range.mpr hi,rfl⟩);rw [List.getElem?_drop,e3,vvt,List.getElem?_append_right (by simp),Yv,show k+i - k=i from by omega,Xp,e1]at e2;have e4:at' O j=some v:=by simpa using e2
   unfold at' at e4;cases hh:O[j]? with| none=>rw[hh]at e4;cases e4| some s=>rw[hh]at e4;rw[show s=some v from e4]
  refine⟨λi n ys τ H2=>∃(B:En) (LB:Ls) (ao:List Sl),Mt B τ LB/\τ.length=k+R.length/\Pn ((List.range R.length).map (k + ·)) (Jx k R O) τ/\World Z.K H2 (LB++(ao.map some++(_root_.Q.clr R L1++T.map some)))/\Step H L H2 (LB++(ao.map some++(_root_.Q.clr R L1++T.map some))) /\
   ys=ao.map Sl.v/\lcL tt u c (ds.drop i) B (ao.map Sl.sd)=some rB/\i<=ds.length/\ao.length<=i/\n=ds.length - i/\(q=true->k8 H H2/\∀b∈j7 (ao.map some),H b=none),⟨_,KQ k R E1,_,[],mB0,by simp[Jx],Pn.refl,wB,st.trans sB,rfl,hrB,Yg _,Yg _,rfl,λhq=>⟨sm hq,λ_ z=>(nomatch z)⟩⟩,?_⟩
  rintro i n ys τ H2 ⟨B,LB,ao,mB,lB,pB,wB2,sB2,rfl,f1,hi,bg,rfl,smB⟩
  by_cases cx:i<ds.length
  rotate_left
  ·have e:i=ds.length:=⋯
   subst e;rw [List.drop_length]at f1;cases oq9 f1;obtain⟨m3,w3,s3⟩:=t5 mB lB pB wB2;refine .inl ⟨wk.stop H2 (jn wB2) (λhq=>(smB hq).1),by rw[X4];omega,?_⟩;exact kzu (O:=O) (Q:=Q) (o:=o) (xs:=ao) h2 rfl w3 (sB2.trans s3) smB kk m3
  ·have hd:ds.drop i=ds[i]::ds.drop (i+1):=List.drop_eq_getElem_cons cx;rw [hd]at f1;unfold lcL at f1;cases cg:tt.put ds[i] B with
   | none=>rw[cg]at f1;cases f1
   | some B2=>
    rw [cg]at f1;dsimp only at f1;refine .inr ⟨wk.go i H2 (jn wB2) (λhq=>(smB hq).1) cx,λv H3 hy=>?_⟩;obtain⟨z,zo,zd,zv,smz,sj,zas⟩:=wk.yld i H2 v H3 ds[i] (jn wB2) (λhq=>(smB hq).1) hy (X3 cx);have pm:(LB++(ao.map some++(_root_.Q.clr R L1++T.map some))).Perm ((LB++(ao.map some++_root_.Q.clr R L1))++T.map some):=by
     rw[<-Xy (ao.map some),<-Xy]
    obtain⟨wz,sz⟩:=kke (wB2.perm pm) wk.no smz sj zo zas;have wz':World Z.K H3 ((some z::LB)++(ao.map some++(_root_.Q.clr R L1++T.map some))):=wz.perm (by
     rw[List.cons_append,List.cons_append];exact List.Perm.cons _ pm.symm)
    have sz':Step H2 (LB++(ao.map some++(_root_.Q.clr R L1++T.map some))) H3 ((some z::LB)++(ao.map some++(_root_.Q.clr R L1++T.map some))):=sz.perm pm.symm (by
     rw[List.cons_append,List.cons_append];exact List.Perm.cons _ pm.symm)
    refine⟨B,LB,z,B2,mB,wz'.left,zo,zv,by rw[zd];exact cg,fun τ2 LB2 p2 mB2 wB3 sB3=>?_⟩;obtain⟨w4,s4⟩:=stay wz' sB3 wB3;have lB2:τ2.length=k+R.length:=by
     have h1:=mB2.len.1;have h2:=mB.len.1;have h3:=vqt cg;omega
    have p3:=pB.trans p2;have qo:Step H L H3 (LB2++(ao.map some++(_root_.Q.clr R L1++T.map some))):=sB2.trans (sz'.trans s4);have gm:q=true->k8 H H3/\∀b∈j7 (ao.map some),H b=none:=λhq=>⟨qv (smB hq).1 smz,(smB hq).2⟩
    refine⟨λy H5=>∃(B:En) (LB:Ls) (dy:List Sl),Mt B τ2 LB/\World Z.K H5 (LB++(dy.map some++(_root_.Q.clr R L1++T.map some)))/\Step H L H5 (LB++(dy.map some++(_root_.Q.clr R L1++T.map some)))/\ao.map Sl.v++[y]=dy.map Sl.v/\dy.length=ao.length+1/\lcL tt u c (ds.drop (i+1)) B (dy.map Sl.sd)=some rB/\(q=true->k8 H H5/\∀b∈j7 (dy.map some),H b=none),
     λH5=>∃B LB,Mt B τ2 LB/\World Z.K H5 (LB++(ao.map some++(_root_.Q.clr R L1++T.map some)))/\Step H L H5 (LB++(ao.map some++(_root_.Q.clr R L1++T.map some)))/\lcL tt u c (ds.drop (i+1)) B (ao.map Sl.sd)=some rB/\(q=true->k8 H H5/\∀b∈j7 (ao.map some),H b=none),
     λy H5 ⟨B5,LB5,acc5,c1,c2,c3,c4,c5,c6,c7⟩=>⟨by rw[X4];omega,ds.length - (i+1),⋯,B5,LB5,acc5,c1,lB2,p3,c2,c3,c4,c6,cx,⋯,rfl,c7⟩,
     λH5 ⟨B5,LB5,c1,c2,c3,c6,c7⟩=>⟨ds.length - (i+1),⋯,B5,LB5,ao,c1,lB2,p3,c2,c3,rfl,c6,cx,⋯,rfl,c7⟩,?_⟩
    have xcB:∀{α:Type} {H6:Hp} {L6:Ls} {B6:En} {cc:Str} {A:Ls},rB=.exc B6 cc->World Z.K H6 (L6++(A++(_root_.Q.clr R L1++T.map some)))->Step H L H6 (L6++(A++(_root_.Q.clr R L1++T.map some)))->Xc Z τ2 H6 L6 (.exc B6 cc:Res α):=fun {α H6 L6 B6 cc A} er w6 s6 E7 c7 e7 C L7 H7 hm m7 w7 s7=>by
     injection e7 with e8 e9;subst e8 e9;subst er;cases oq9 h2;obtain⟨w8,s8⟩:=stay w6 s7 w7;obtain⟨m9,w9,s9⟩:=t5 m7 lB2 p3 w8;exact xc _ _ rfl C _ H7 hm m9 w9.right ((s6.trans (s8.trans s9)).trans ⟨λ_ _ h _=>h,λa ha=>.inl (by rw[jX];exact lr9 _ ha),λa ha=>.inl (by rw[kZ];exact lr9 _ ha)⟩)
    rcases wK f1 with⟨B4,kb,g1,g2⟩|⟨B4,cc,g1,g2⟩
    rotate_left
    ·exact⟨B2,LB2,_,mB2,wB3,g1,xcB g2 w4 qo,λE' s' z=>by cases z⟩
    refine⟨B2,LB2,_,mB2,wB3,g1,(λ_ _ z=>by cases z),λE' s' z LB4 H4 mB4 wB4 sB4 sm4=>?_⟩;injection z with z1 z2;subst z1 z2;obtain⟨w5,s5⟩:=stay w4 sB4 wB4;have kl:=qo.trans s5;cases kb with
    | false=>
     rw[Xb ⋯]at g2 ⊢;exact⟨B4,LB4,mB4,w5,kl,g2,λhq=>⟨qv (gm hq).1 (sm4 hq),(gm hq).2⟩⟩
    | true=>
     rw[X8 rfl]at g2 ⊢;rcases wK g2 with⟨B6,y,g3,g4⟩|⟨B6,cc,g3,g4⟩
     rotate_left
     ·exact⟨B4,LB4,_,mB4,wB4,g3,xcB g4 w5 kl,λE' s' z=>by cases z⟩
     refine⟨B4,LB4,_,mB4,wB4,g3,(λ_ _ z=>by cases z),λE' s' z x LB6 H6 ex ey mB6 wB6 sB6 sm6=>?_⟩;injection z with z1 z2;subst z1 z2;obtain⟨w7,s7⟩:=stay w5 sB6 wB6;have pm3:((some x::LB6)++(ao.map some++(_root_.Q.clr R L1++T.map some))).Perm (LB6++((ao++[x]).map some++(_root_.Q.clr R L1++T.map some))):=by
      rw[Xd,List.cons_append];have:(LB6++(ao.map some++[x].map some++(_root_.Q.clr R L1++T.map some)))=(LB6++ao.map some)++some x::(_root_.Q.clr R L1++T.map some):=by simp
      rw[this];refine List.Perm.trans ?_ List.perm_middle.symm;rw[Xy]
     refine⟨B6,LB6,ao++[x],mB6,w7.perm pm3,(kl.trans s7).perm (List.Perm.refl _) pm3,by simp,by simp,?_,λhq=>⟨qv (gm hq).1 (qv (sm4 hq) (sm6 hq).1),λb hb=>?_⟩⟩
     ·rw[Xd,show[x].map Sl.sd=[y]from by simp[Sl.sd,ex,ey]];exact g4
     ·rw[Xd,jX]at hb;rcases aA hb with hb|hb
      ·exact(gm hq).2 b hb
      ·have hb:b∈x.own:=by simpa using hb
       exact Jz (qv (gm hq).1 (sm4 hq)) ((sm6 hq).2 b hb)
theorem wxq(N:List Str)(hi:QI X Z q tg it b6)
  (hg:∀cl C s0 H0 fp,QG (lcE X scope N cl C s0 H0 fp Z.EX) Z ((List.range R.length).map (k + ·)) tt tg) (ht:∀cl C s0 H0 fp,PTs (lcE X scope N cl C s0 H0 fp Z.EX) eh (tT Z q u)) (he:∀cl C s0 H0 fp,QE (lcE X scope N cl C s0 H0 fp Z.EX) Z q c fb)
  (gx:wV X Z.EX) (top:xK X) (hR:R.Nodup) (hr:∀j∈R,j<X.N.length) (hc:autoParam (X.calm=true) Ŕ) (hk:autoParam (scope.kind=.function) Ŕ) (jd:autoParam (K9 X.N X.env.scope scope N k R=true) Ŕ) (hs:autoParam (∀x,foldedSetIterable b6 X.env x=pure x) Ŗ):
  QE X Z q (cLC o k R it tt u c) (.ListComp fb [⟨tg,b6,eh,0⟩] scope pos):=λpins s O H Q I hw=>
 vkb (EX:=Z.EX) N k R (wxp hi) hg ht he gx top hc hk jd hs pins s O H Q I (kxl I.len hR hr hw)
theorem wvp(N:List Str)(hi:QIS X Z q tg it b6)
  (hg:∀cl C s0 H0 fp,QG (lcE X scope N cl C s0 H0 fp Z.EX) Z ((List.range R.length).map (k + ·)) tt tg) (ht:∀cl C s0 H0 fp,PTs (lcE X scope N cl C s0 H0 fp Z.EX) eh (tT Z q u)) (he:∀cl C s0 H0 fp,QE (lcE X scope N cl C s0 H0 fp Z.EX) Z q c fb)
  (gx:wV X Z.EX) (top:xK X) (hR:R.Nodup) (hr:∀j∈R,j<X.N.length) (hc:autoParam (X.calm=true) Ŕ) (hk:autoParam (scope.kind=.function) Ŕ) (jd:autoParam (K9 X.N X.env.scope scope N k R=true) Ŕ) (hs:autoParam (∀x,foldedSetIterable b6 X.env x=pure x) Ŗ):
  QE X Z q (cLC o k R it tt u c) (.ListComp fb [⟨tg,b6,eh,0⟩] scope pos):=λpins s O H Q I hw=>
 vkb (EX:=Z.EX) N k R hi hg ht he gx top hc hk jd hs pins s O H Q I (kxl I.len hR hr hw)
theorem qqw{EX:XK}{wi:TI}{g:TG}{tte:TT}{te:TE}{i:Nat}{y:Str}{py j':Pos}(N:List Str)(k:Nat)(R:List Nat)(hN:X.N.Nodup)(hy:X.N[i]?=some y)(hx:Loc X.env.scope y)(hi:PI X tg b6 wi)
  (hg:∀cl C s0 H0 fp,PG (lcE X scope N cl C s0 H0 fp EX) tg g) (ht:∀cl C s0 H0 fp,PTs (lcE X scope N cl C s0 H0 fp EX) eh tte) (he:∀cl C s0 H0 fp,PE (lcE X scope N cl C s0 H0 fp EX) fb te) (gx:wV X EX) (top:xK X)
  (qi:autoParam (swapsWith (.ListComp fb [⟨tg,b6,eh,0⟩] scope pos) (some (.Name y py)) j'.line X.env=pure true) Ŕ)
  (hc:autoParam (X.calm=true) Ŕ) (hk:autoParam (scope.kind=.function) Ŕ) (jd:autoParam (K9 X.N X.env.scope scope N k R=true) Ŕ) (hs:autoParam (∀x,foldedSetIterable b6 X.env x=pure x) Ŗ)
  (hf:autoParam (X.fn y=true\/X.env.scope.names.lookup y=some .local) ś):
  PS X (.Assign [.Name y py] (.ListComp fb [⟨tg,b6,eh,0⟩] scope pos) j') (λD O H=>tLC wi g tte te k R O H λv H1=>D.nx (O.set i (some v)) H1):=by
 intro pins s O H D I h;have sc:=kzw hk jd;obtain⟨cl,js,en,bv⟩:=kkk (scope:=scope) (env:=X.env) λy hy e=>I.ok.has y.1 (sc.caps y hy e)
 rw[exec_Assign_Name_used _ _ _ _ qi];refine X0 (wpAny_standAt (X0 ?_));show wpAny _ X.A (do let _ <-comprehension (.ListComp fb [⟨tg,b6,eh,0⟩] scope pos) scope X.env _ (newList []) false (eval b6 X.env) (some (assign (.Name y py) X.env))) _ _ s;refine X0 (thn (wpAny_comprehension_free (use:=some (assign (.Name y py) X.env)) (Q:=λ_ s'=>SP X pins D .next s') rfl hs js sc.kind sc.names
  (thn (hi pins s O H _ I h) λv s1 h1=>thn h1 λitv s2 h2=>?_)) λ_ s' hq=>X2 (X2 hq))
 obtain⟨it,fp,tn,J,H2,e,I2,T,c8,f2,W,w0,fv⟩:=h2;subst e;refine kvp (EX:=EX) (RR:=λao C=>compPost (model X.prog X.w) X.A X.xe (some (assign (.Name y py) X.env)) (λ_ s'=>SP X pins D .next s') ao C) hc top sc en bv (hg cl) (ht cl) (he cl) I2 T c8 f2 w0 fv ?_ ?_
 rotate_left
 ·intro D' C s' d9 σ' H' x T Cc fl hC t q;exact vkg gx I2 f2 hC t q
 intro L C oC m ys H' s' I' eC nC fC q;show wpAny _ X.A (assign (.Name y py) X.env (.ref L)) _ _ s';refine wpAny_assign_Name (WV I' hN hy hx (v:=.ref L) rfl (λjg I''=>?_) hf);have pC:=I''.pin (C,oC) (lr9 _ (lr9 _ (aB rfl)));refine⟨m,nC.at' λo e=>?_,λh' sb=>⟨_,_,I''.unpinned.turned (it:=C) (t':=jg.toks) (λb o hb e=>(sb.2 b hb).trans e) fC.1 fC.2.1 fC.2.2.2.1 fC.2.2.2.2.1 fC.2.2.2.2.2,q⟩⟩;rw[eC]at e;cases e;exact pC.1
theorem kq1{i:Nat}{y:Str}{py j':Pos}(N:List Str)(hN:X.N.Nodup)(hy:X.N[i]?=some y)(hx:Loc X.env.scope y)(hi:QI X Z q tg it b6)
  (hg:∀cl C s0 H0 fp,QG (lcE X scope N cl C s0 H0 fp Z.EX) Z ((List.range R.length).map (k + ·)) tt tg) (ht:∀cl C s0 H0 fp,PTs (lcE X scope N cl C s0 H0 fp Z.EX) eh (tT Z q u)) (he:∀cl C s0 H0 fp,QE (lcE X scope N cl C s0 H0 fp Z.EX) Z q c fb)
  (gx:wV X Z.EX) (top:xK X) (hR:R.Nodup) (hr:∀j∈R,j<X.N.length) (hp:autoParam (i∉pn) ŕ)
  (qi:autoParam (swapsWith (.ListComp fb [⟨tg,b6,eh,0⟩] scope pos) (some (.Name y py)) j'.line X.env=pure true) Ŕ)
  (hc:autoParam (X.calm=true) Ŕ) (hk:autoParam (scope.kind=.function) Ŕ) (jd:autoParam (K9 X.N X.env.scope scope N k R=true) Ŕ) (hs:autoParam (∀x,foldedSetIterable b6 X.env x=pure x) Ŗ)
  (hf:autoParam (X.fn y=true\/X.env.scope.names.lookup y=some .local) ś):
  QS X Z pn (j8 i (cLC o k R it tt u c)) (.Assign [.Name y py] (.ListComp fb [⟨tg,b6,eh,0⟩] scope pos) j'):=
 vzt (q:=q) hp λpins s O H D I hw=>qqw N k R hN hy hx (wxp hi) hg ht he gx top qi hc hk jd hs hf pins s O H D I (kxl I.len hR hr hw)
end
end
section
variable {X:Cx}{Z:Fx0}{K:Frag}{pn:List Nat}{q qa qb:Bool}{a b c:Ex}{u:Ts}{tg e ea eb:Expr}{O:L2.St}{H:Hp}{L:Ls}{E:En}{pos p:Pos}{x:Str}{id T:String}{r:List V->Hp->VK->Prop}{f:Sd->Option Sd}{g:Sd->Sd->Option Sd}
theorem qz4:PTs X [] (tT Z q _root_.Q.tYes):=λpins s O H Q I b7=>ex8 b7 λE L r m w hc xc k=>by
 cases oq9 hc;exact vqv pins s O H Q I (k _ _ rfl L H m w Step.refl λ_=>wZ)
theorem qz3(h:QT X Z q u e):PTs X [e] (tT Z q u):=vqu h
theorem wxr(hc:CallR X (.builtin id) r)(ad:Ad1 Z.K (λv H Q=>r [v] H Q) f)(ha:QV X Z q a ea)(hm:X.mg x=none)(hv:bootBuiltins x=some (.builtin id))(hg:autoParam (Gl X x) Ŕ)(hn:autoParam (x≠"__name__") ŕ)(db:autoParam ((x==("__debug__":Str))=false) ŕ)
  (he:autoParam (starEach [ea] X.env=(false,eval ea X.env)::starEach [] X.env) Ŕ) (bp:autoParam ((backTo pos (starEach [] X.env)).any (·.1)=false) Ŕ):QE X Z q (cF1 f a) (.Call (.Name x p) [ea] [] pos):=
 qx (kq6 hc hg hm hv (qZ ha wq he) hn db he bp) fun O H Q h=>WK (r:=λv H Q=>r [v] H Q) ad h
theorem zX(hc:CallR X (.type T) r)(ad:Ad1 Z.K (λv H Q=>r [v] H Q) f)(ha:QV X Z q a ea)(hm:X.mg x=none)(hv:bootBuiltins x=some (.type T))(hg:autoParam (Gl X x) Ŕ)(hn:autoParam (x≠"__name__") ŕ)(db:autoParam ((x==("__debug__":Str))=false) ŕ)
  (he:autoParam (starEach [ea] X.env=(false,eval ea X.env)::starEach [] X.env) Ŕ) (bp:autoParam ((backTo pos (starEach [] X.env)).any (·.1)=false) Ŕ):QE X Z q (cF1 f a) (.Call (.Name x p) [ea] [] pos):=
 qx (qv6 hc hg hm hv (qZ ha wq he) hn db he bp) fun O H Q h=>WK (r:=λv H Q=>r [v] H Q) ad h
theorem wqf:Ad1 K (λv H Q=>qqk K [v] H Q) (pu1 qk):=by
 intro H x s Q ok hf k;unfold pu1 at hf;have fin:∀n:Nat,qk x.d=some (.int n)->Q (.int n) H:=λn e=>by
  rw[show(x.o,x.d).2=x.d from rfl,e]at hf;cases oq9 hf;exact k ⟨.dp,.int n,.int n,[]⟩ H rfl rfl QJ
 cases hx:x.d with
 |lst ds=>
  obtain⟨l,xs,bs,e,q,r,_⟩:=items ok (.inl hx);refine .inl ⟨l,xs,by rw[e],?_,by rw[<-r.len];exact fin ds.length (by rw[hx];rfl)⟩;rcases q with⟨_,z⟩|⟨_,z⟩
  ·exact .inl (J6 z)
  ·exact .inr z
 |tup ds=>
  obtain⟨l,xs,bs,e,q,r,_⟩:=items ok (.inr hx);refine .inl ⟨l,xs,by rw[e],?_,by rw[<-r.len];exact fin ds.length (by rw[hx];rfl)⟩;rcases q with⟨_,z⟩|⟨_,z⟩
  ·exact .inl (J6 z)
  ·exact .inr z
 |str z=>
  obtain⟨e,hz⟩:=xW ok hx;exact .inr (.inl ⟨z,by rw[e],hz,fin z.length (by rw[hx];rfl)⟩)
 |_=>rw[show(x.o,x.d).2=x.d from rfl,hx]at hf;cases hf
theorem qxi:Ad1 K (λv H Q=>qql [v] H Q) (pu1 J4):=by
 intro H x s Q ok hf k;unfold pu1 J4 at hf;dsimp only at hf
 split at hf
 ·rename_i i e;cases oq9 hf;exact .inl ⟨i,by rw[qX ok e],k ⟨.dp,.int _,.int _,[]⟩ H rfl rfl QJ⟩
 ·rename_i i e;cases oq9 hf;exact .inr (.inl ⟨i,by rw[qvg ok e],k ⟨.dp,.int _,.int _,[]⟩ H rfl rfl QJ⟩)
 ·rename_i z e
  split at hf
  ·rename_i hz;cases ht:PySem.intText? z with
   |none=>rw[ht]at hf;cases hf
   |some n=>
    rw[ht]at hf;cases oq9 hf;exact .inr (.inr ⟨z,n,by rw[(xW ok e).1],ht,hz,k ⟨.dp,.int _,.int _,[]⟩ H rfl rfl QJ⟩)
  ·cases hf
 ·cases hf
theorem V1:Ad1 K (λv H Q=>qqj K [v] H Q) J7:=by
 intro H x s Q ok hf k;unfold J7 at hf;dsimp only at hf
 split at hf
 ·rename_i ds e
  split at hf
  ·rename_i hl;cases oq9 hf;obtain⟨l,xs,bs,ev,q3,r3,h3⟩:=xZ ok (.inl e) hl;have q3:LsR K H l xs:=by rcases q3 with⟨_,z⟩|⟨z,_⟩;exact z;rw[e]at z;cases z
   exact⟨l,xs,by rw[ev],.inl (J6 q3),λp hp=>k ⟨.rt,.lst ds,.ref p,p::bs⟩ _ rfl rfl (KZ hp r3 h3)⟩
  ·cases hf
 ·rename_i ds e
  split at hf
  ·rename_i hl;cases oq9 hf;obtain⟨l,xs,bs,ev,q3,r3,h3⟩:=xZ ok (.inr e) hl;have q3:SqT K H l xs:=by rcases q3 with⟨z,_⟩|⟨_,z⟩;rw[e]at z;cases z;exact z
   exact⟨l,xs,by rw[ev],.inr q3,λp hp=>k ⟨.rt,.lst ds,.ref p,p::bs⟩ _ rfl rfl (KZ hp r3 h3)⟩
  ·cases hf
 ·cases hf
def kzj(K:Frag):List V->Hp->VK->Prop:=λxs H Q=>∃p ys,xs=[.ref p]/\((SqL K H p ys/\∀l,H l=none->Q (.ref l) (upd H l (.tup ys)))\/(SqT K H p ys/\Q (.ref p) H))
theorem qx1(hK:X.K=K):CallR X (.type "tuple") (kzj K):=by subst hK;exact kqm
theorem vjt:Ad1 K (λv H Q=>kzj K [v] H Q) Jj:=by
 intro H x s Q ok hf k;unfold Jj at hf;dsimp only at hf
 split at hf
 ·rename_i ds e
  split at hf
  ·rename_i hl;cases oq9 hf;obtain⟨l,xs,bs,ev,q3,r3,h3⟩:=xZ ok (.inl e) hl;have q3:LsR K H l xs:=by rcases q3 with⟨_,z⟩|⟨z,_⟩;exact z;rw[e]at z;cases z
   exact⟨l,xs,by rw[ev],.inl ⟨J6 q3,λp hp=>k ⟨.no,.tup ds,.ref p,bs⟩ _ rfl rfl (kj4 hp r3 h3)⟩⟩
  ·cases hf
 ·rename_i ds e
  split at hf
  ·rename_i hl;cases oq9 hf;obtain⟨l,xs,bs,ev,q3,r3,h3⟩:=xZ ok (.inr e) hl;have q3:SqT K H l xs:=by rcases q3 with⟨z,_⟩|⟨_,z⟩;rw[e]at z;cases z;exact z
   refine⟨l,xs,by rw[ev],.inr ⟨q3,k ⟨.no,.tup ds,.ref l,bs⟩ H rfl rfl ⟨wZ,?_,λb hb=>(nomatch hb),Y4,λb hb=>h3 b hb⟩⟩⟩;show RepL K H true (.tup ds) (.ref l) bs;unfold RepL;exact⟨l,xs,rfl,q3,r3⟩
  ·cases hf
 ·cases hf
theorem qx6{g:Bool}:∀{ds:List D} {bs:List Bool} {xs:List V} {as:List Addr},bls ds=some bs->RepA K H g ds xs as->xs=bs.map V.bl
 | [],bs,xs,as,h,r=>by
  cases oq9 h;unfold RepA at r;exact r.1
 | d::ds,bs,xs,as,h,r=>by
  cases d with
  | bl b=>
   unfold bls at h;cases hb:bls ds with
   |none=>rw[hb]at h;cases h
   |some dn=>
    rw[hb]at h;cases oq9 h;unfold RepA at r;obtain⟨x,rr,c1,c2,rfl,rfl,h1,h2⟩:=r;unfold RepL at h1;rw[h1.1,qx6 hb h2];rfl
  |_=>unfold bls at h;cases h
theorem wqk:Ad1 K (λv H Q=>wvn K [v] H Q) (pu1 wkv):=by
 intro H x s Q ok hf k;unfold pu1 wkv at hf;dsimp only at hf
 split at hf
 ·rename_i ds e;cases hb:bls ds with
  |none=>rw[hb]at hf;cases hf
  |some bs=>
   rw[hb]at hf;cases oq9 hf;obtain⟨l,xs,cs,ev,q3,r3,_⟩:=items ok (.inl e);have q3:LsR K H l xs:=by rcases q3 with⟨_,z⟩|⟨z,_⟩;exact z;rw[e]at z;cases z
   exact⟨l,bs,by rw[ev],by rw[<-qx6 hb r3];exact J6 q3,k ⟨.dp,.bl _,.bl _,[]⟩ H rfl rfl wX⟩
 ·cases hf
theorem Kk{g:Int->Int->Bool}:∀x y s,pu2 (c2 g) x y=some s->∃k,s.2=.bl k:=by
 intro x y s h;unfold pu2 c2 at h
 split at h
 ·cases oq9 h;exact⟨_,rfl⟩
 ·cases h
theorem JX:∀x y s,pu2 fEq x y=some s->∃k,s.2=.bl k:=by
 intro x y s h;unfold pu2 fEq at h
 split at h
 ·cases oq9 h;exact⟨_,rfl⟩
 ·cases h
theorem vjq:∀x y s,pu2 fNe x y=some s->∃k,s.2=.bl k:=by
 intro x y s h;unfold pu2 fNe at h
 split at h
 ·cases oq9 h;exact⟨_,rfl⟩
 ·cases h
theorem vkl{x y d:D}(h:fIn x y=some d):∃k,d=.bl k:=by
 unfold fIn at h
 split at h
 ·split at h
  ·cases oq9 h;exact⟨_,rfl⟩
  ·cases h
 ·split at h
  ·cases oq9 h;exact⟨_,rfl⟩
  ·cases h
 ·split at h
  ·cases oq9 h;exact⟨_,rfl⟩
  ·cases h
 ·cases oq9 h;exact⟨_,rfl⟩
 ·cases h
theorem vjr:∀x y s,pu2 ww x y=some s->∃k,s.2=.bl k:=by
 intro x y s h;unfold pu2 ww at h
 split at h
 ·cases h
 ·cases hf:fIn x.2 y.2 with
  |none=>rw[hf]at h;cases h
  |some d=>
   rw[hf]at h;cases oq9 h;exact vkl hf
theorem qjd:∀x y s,pu2 QX x y=some s->∃k,s.2=.bl k:=by
 intro x y s h;unfold pu2 QX Vj at h
 split at h
 ·cases h
 ·cases hf:fIn x.2 y.2 with
  |none=>rw[hf]at h;cases h
  |some d=>
   obtain⟨k,rfl⟩:=vkl hf;rw[hf]at h;cases oq9 h;exact⟨_,rfl⟩
theorem kwi:∀x y s,f2First fIsNon x y=some s->∃k,s.2=.bl k:=by
 intro x y s h;unfold f2First fIsNon at h
 split at h
 ·cases oq9 h;exact⟨_,rfl⟩
 ·cases h
theorem qx9:∀x y s,f2First fNotNon x y=some s->∃k,s.2=.bl k:=by
 intro x y s h;unfold f2First fNotNon at h
 split at h
 ·cases oq9 h;exact⟨_,rfl⟩
 ·cases h
theorem kkp:∀{xs:List V} {us:List Value},xs.length=us.length->(∀(i:Nat) (x:V) (u:Value),xs[i]?=some x->us[i]?=some u->RelV x u)->Vals xs us
 |[],[],_,_=>.nil|[],_::_,h,_=>by simp at h|_::_,[],h,_=>by simp at h|x::xs,u::us,h,f=>.cons (f 0 x u (by simp) (by simp)) (kkp (by simpa using h) λi x u e1 e2=>f (i+1) x u (by simpa using e1) (by simpa using e2))
theorem vqm{p2 bw:Pos}(ha:QV X Z q a ea)(t8:X.mg "range"=none)(rg:X.mg "list"=none)(hc:autoParam (X.calm=true) Ŕ)(qt:autoParam (Gl X "range") Ŕ)(qc:autoParam (Gl X "list") Ŕ)
  (cq:autoParam (starEach [ea] X.env=(false,eval ea X.env)::starEach [] X.env) Ŕ) (bp:autoParam ((backTo bw (starEach [] X.env)).any (·.1)=false) Ŕ)
  (ie:autoParam (starEach [.Call (.Name "range" p2) [ea] [] bw] X.env=(false,eval (.Call (.Name "range" p2) [ea] [] bw) X.env)::starEach [] X.env) Ŕ) (lb:autoParam ((backTo pos (starEach [] X.env)).any (·.1)=false) Ŕ):
  QE X Z q (Qv a) (.Call (.Name "list" p) [.Call (.Name "range" p2) [ea] [] bw] [] pos):=by
 have hr:PE X (.Call (.Name "range" p2) [ea] [] bw) (fun O H Q=>tV Z q a O H λv H1=>∃j:Int,v=.int j/\∀pp,H1 pp=none->Q (.ref pp) (upd H1 pp (.rng 0 j))):=by
  intro pins s O H Q I h;refine Call_ (Jk I qt t8 boot_range (Y5 (thn (qZ ha wq cq bw pins s O H (λvs H1=>∃j:Int,vs=[.int j]/\∀pp,H1 pp=none->Q (.ref pp) (upd H1 pp (.rng 0 j))) I ?_) λus s1 ⟨vs,H1,I1,r1,j,e,q1⟩=>?_) cq bp))
  ·obtain⟨E,L,r,m,w,ij,xc,k⟩:=h;exact⟨E,L,r,m,w,ij,xc,λE' s' z x L' H' e1 e2 m' w' ok fr sr st sm=>by
    obtain⟨j,ej,qj⟩:=k E' s' z x L' H' e1 e2 m' w' ok fr sr st sm;exact⟨j,by rw[ej],qj⟩⟩
  ·subst e;obtain⟨u,rfl,t,rfl⟩:=r1.one;refine call_range_1 ⟨.ref s1.heap.objs.size,_,I1.laid (o:=.rng 0 j) (λb o e=>X1 _ e) (X9 _) ⟨_,_,_,X6 _ rfl⟩,rfl,q1 _ I1.fresh⟩
 intro pins s O H Q I ⟨E,L,r,m,w,ij,xc,k⟩;refine Yf (Jk I qc rg Kx ?_);refine Y5 (thn (qZ hr wq ie pos pins s O H (λvs H1=>∃pp j,vs=[.ref pp]/\H1 pp=some (.rng 0 j)/\xq j=true/\j.toNat<=big/\∀l,H1 l=none->Q (.ref l) (upd H1 l (.lst ((List.range j.toNat).map λ(i:Nat)=>V.int (0+(i:Int)))))) I ?_) λus s1 ⟨vs,H1,I1,r1,pp,j,e,hp,h62,ka,q1⟩=>?_) ie lb
 ·refine vk m w (show bnd (a E) _=some r from ij) xc λE1 s h1 x L1 H1 e1 e2 m1 w1 ok fr sr st sm=>?_
  cases hx:s.2 with
  | int j=>
   rw [hx]at h1;dsimp only at h1
   split at h1
   ·rename_i hj;cases oq9 h1;refine⟨j,qX ok (e2.trans hx),λpp hpp=>⟨pp,j,rfl,vK,hj.1,hj.2,λl hl=>?_⟩⟩;have s1:k8 H1 (upd H1 pp (.rng 0 j)):=vq hpp;have w2:World Z.K (upd H1 pp (.rng 0 j)) L1:=⟨λx hx=>RepO.kp (w1.ok x hx) (Kp.of_same s1),w1.nd,w1.ds⟩;have c8:Step H L (upd H1 pp (.rng 0 j)) L1:=st.trans ⟨λb ob z _=>s1 b ob z,λb z=>.inl z,λb z=>.inl z⟩;have ra:∀(n:Nat) (ns:List Nat) (Hx:Hp),RepA Z.K Hx true (ns.map λ(i:Nat)=>D.int (0+(i:Int))) (ns.map λ(i:Nat)=>V.int (0+(i:Int))) []:=by
     intro n ns Hx
     induction ns with
     |nil=>unfold RepA;exact⟨rfl,rfl⟩
     |cons i ns ih=>
      rw[List.map_cons,List.map_cons];unfold RepA;exact⟨_,_,[],[],rfl,rfl,wj,ih⟩
    have o:=KZ (K:=Z.K) (H:=upd H1 pp (.rng 0 j)) (fr:=[]) hl (ra 0 (List.range j.toNat) (upd H1 pp (.rng 0 j))) (λ_ z=>(nomatch z));obtain⟨w3,fc⟩:=Vx w2 c8 o (λ_ z=>(nomatch z)) (λ_ z=>(nomatch z)) (λ_ z=>(nomatch z));refine k _ _ rfl ⟨.rt,.lst (jZ 0 j),.ref l,[l]⟩ L1 _ rfl rfl m1 (by simpa [jZ]using w3) (by simpa [jZ]using fc) λhq=>⟨qv (sm hq) (qv s1 o.same),λb hb=>?_⟩
    have:b=l:=by simpa [Sl.own]using hb
    subst this;exact Jz (qv (sm hq) s1) hl
   ·cases h1
  | _=>rw[hx]at h1;cases h1
 ·subst e;obtain⟨u,rfl,rx⟩:=r1.one;cases rx;obtain⟨t1,t2,t3,hg⟩:=(show ObjOk X.prog X.w H1 s1.heap pp (.rng 0 j)from I1.hok pp _ hp);obtain⟨j1,j2⟩:=jxl h62;have e2:Builtin.Range.rangeSize 0 j 1=((j.toNat:Nat):Int):=by rw[rangeSize_one];split<;>omega
  refine call_list_range (n:=j.toNat) (I1.ok.hd hc) (show IsRange s1.heap pp 0 j 1 t1 t2 t3 from hg) (small_one ⋯ ⋯ j1 j2) e2 ka λh' tk dy c' kp e4 fh=>?_
  obtain⟨hs,pe⟩:=fh;have hv:Vals ((List.range j.toNat).map λ(i:Nat)=>V.int (0+(i:Int))) dy.toList:=kkp (by simp[hs]) λi x u ex eu=>by
   rw[Yj]at eu;obtain⟨t,rfl⟩:=pe i u eu;rw[Xp]at ex;cases hr:(List.range j.toNat)[i]? with
   | none=>rw[hr]at ex;cases ex
   | some m=>
    rw[hr]at ex;have hm:m=i:=by
     obtain⟨_,h2⟩:=List.getElem?_eq_some_iff.mp hr
     simpa using h2.symm
    subst hm;cases oq9 ex;exact⟨t,by rw[Int.mul_one]⟩
  refine⟨.ref s1.heap.objs.size,_,I1.laid (a:=s1.heap.objs.size) (o:=.lst ((List.range j.toNat).map λ(i:Nat)=>V.int (0+(i:Int)))) (t':=tk) kp (X9 _) ⟨by rw[X4,Yq];exact ka,dy.toList,c',hv,by simpa using e4⟩,rfl,q1 _ I1.fresh⟩
end
end Q
namespace Q
open PySem
def xX(n d:Nat):Option Int->Nat
 |none=>d|some v=>if v<0 then(v+(n:Int)).toNat else min v.toNat n
def z7(xs:List D)(lo hi:Option Int):List D:=(xs.drop (xX xs.length 0 lo)).take (xX xs.length xs.length hi - xX xs.length 0 lo)
noncomputable def fSl:Sd->Option Int->Option Int->Option Sd:=λx lo hi=>match x.2 with
 |.lst xs=>if q9 x then some (.rt,.lst (z7 xs lo hi))else none|.tup xs=>if q9 x/\¬(xX xs.length 0 lo=0/\xX xs.length xs.length hi=xs.length)then some (.no,.tup (z7 xs lo hi))else none|.str z=>if(Txt.slice z lo hi).length<=big then some (.dp,.str (Txt.slice z lo hi))else none|_=>none
def V6:Option Ex->Ev (Option Int)
 |none,E=>some (.ok E none)
 |some c,E=>bnd (c E) λE x=>match x.2 with
  |.int i=>some (.ok E (some i))|_=>none
def cSl(a:Ex)(lo hi:Option Ex):Ex:=λE=>bnd (a E) λE x=>bnd (V6 lo E) λE l=>bnd (V6 hi E) λE h=>val E (fSl x l h)
def xV:Nat->List D->List D
 |_,[]=>[]|k,d::ds=>.tup [.int k,d]::xV (k+1) ds
def lstOf:D->Option (List D)
 |.lst xs=>some xs|_=>none
def zx:List D->Option (List Str)
 |[]=>some []|.str z::ds=>(zx ds).map (z :: ·)|_=>none
def wkg:List D->Option (List Int)
 |[]=>some []|.int z::ds=>(wkg ds).map (z :: ·)|_=>none
def Kq(a:Str):List Str->List Str
 |[]=>[a]|b::r=>if Spec.ltCps b.cps.toList a.cps.toList then b::Kq a r else a::b::r
def wJ:List Str->List Str
 |[]=>[]|a::r=>Kq a (wJ r)
def wqz(a:Int):List Int->List Int
 |[]=>[a]|b::r=>if b<a then b::wqz a r else a::b::r
def vxy:List Int->List Int
 |[]=>[]|a::r=>wqz a (vxy r)
def vw9:Sd->Option Sd:=λx=>match x.2 with
 | .lst ds=>(match zx ds with
  |some ss=>if ss.length<64 then some (.rt,.lst ((wJ ss).map .str))else none
  |none=>(match wkg ds with
   |some is=>if is.length<64 then some (.rt,.lst ((vxy is).map .int))else none
   |none=>none))
 |_=>none
def kw2:D->D->Option D:=λxs x=>match xs with
 |.lst ys=>if x.flat 30&&D.flats 30 ys then(ys.findIdx? λz=>peq z x).map λ(j:Nat)=>D.int (j:Int)else none|.tup ys=>if x.flat 30&&D.flats 30 ys then(ys.findIdx? λz=>peq z x).map λ(j:Nat)=>D.int (j:Int)else none|_=>none
def isSq:D->Bool
 |.lst _=>true|.tup _=>true|_=>false
def Wj(a b:Ex):Ex:=λE=>bnd (a E) λE x=>if isSq x.2 then bnd (b E) λE y=>val E (pu2 kw2 x y)else none
noncomputable def YY(i:Nat)(c:Ex):Ex:=λE=>if JQ E[i]? then bnd (c E) λE x=>match E[i]?,x.2 with
 | some (some (o,.lst xs)),.int k=>if o=.no then none else(match ixN xs.length k with
  |some j=>(match xs[j]? with
   |some d=>if d.pure&&xq k then some (.ok (E.set i (some (o,.lst (xs.eraseIdx j)))) (.dp,d))else none
   |none=>none)
  |none=>none)
 |_,_=>none
 else none
def kwf(f:Fn)(cs:List Ex):Ex:=λE=>bnd (q5 cs E) λE xs=>match f (letAll xs)with
 |some (.ok _ y)=>if y.2.pure then some (.ok E (.dp,y.2))else none|some (.exc _ c)=>some (.exc E c)|none=>none
def vj:Sd->Sd->Option Sd:=λx y=>match x.2,y.2 with
 |.tup a,.int k=>if -(2 ^ 63)<=k/\k<2 ^ 63/\a.length*k.toNat<=big/\q9 x then some (.no,.tup (List.replicate k.toNat a).flatten)else none|_,_=>V3 x y
def sRz(c:Str):Sm:=λE=>some (.xc E c)
def JV(f:Fn)(cs:List Ex):Ex:=λE=>match q5 cs E with
 |some (.ok E xs)=>(match f (letAll xs)with
  |some (.ok _ y)=>some (.ok E y)|some (.exc _ c)=>some (.exc E c)
  |none=>none)
 |_=>none
def vjw(i:Nat):Option Fl->Option Fl
 |some (.nx E)=>some (.nx (E.set i none))|some (.rt E x)=>some (.rt (E.set i none) x)|some (.ct E)=>some (.ct (E.set i none))|some (.bk E)=>some (.bk (E.set i none))|_=>none
def zq(cs:List Str)(i:Nat)(b h:Sm):Sm:=λE=>match b E with
 |some (.xc E c)=>if c∈cs then vjw i (h (E.set i (some (.no,.obj c []))))else none|r=>r
def v6(t:List (Str×Bool)):D->Option D
 |.obj c _=>(t.lookup c).map .bl|_=>none
def wwg:D->Bool
 |.tup _=>true|_=>false
def v4(x:D):Bool:=jV 6 x&&wwg x
def W0:D->D->Option D:=λx y=>match y with
 |.dct kvs=>if v4 x=true/\unm kvs=true then some (.bl (!decide (x∈kvs.map (·.1))))else none|_=>none
def Qw(kvs:List (D×D))(k v:D):List (D×D):=if k∈kvs.map (·.1)then kvs.map λe=>if e.1=k then(k,v)else e else kvs++[(k,v)]
def vw1:Option (Option Sd)->Bool
 |some (some (.rt,.dct _))=>true|_=>false
def qxx(i:Nat)(kc vc:Ex):Sm:=λE=>ofE (vc E) λE v=>if vw1 E[i]?=true then ofE (kc E) λE k=>match E[i]? with
 |some (some (.rt,.dct kvs))=>if v4 k.2=true/\kvs.length<big/\unm kvs=true then some (.nx (E.set i (some (.rt,.dct (Qw kvs k.2 v.2)))))else none|_=>none
 else none
def vjj(kc vc:Ex):Ex:=λE=>bnd (kc E) λE k=>bnd (vc E) λE v=>if v4 k.2=true then some (.ok E (.rt,.dct [(k.2,v.2)]))else none
end Q
namespace Q
open PySem
def QK(i:Nat)(kc vc:Ex):Sm:=λE=>ofE (vc E) λE v=>if JQ E[i]?=true then ofE (kc E) λE k=>match E[i]?,k.2 with
 |some (some (o,.lst xs)),.int j=>if o=.no then none else(match ixN xs.length j with
  |some n=>some (.nx (E.set i (some (.rt,.lst (xs.set n v.2)))))
  |none=>none)
 |_,_=>none
 else none
def XW(f:Int->Int->Int)(i:Nat)(c:Ex):Sm:=λE=>match E[i]? with
 |some (some (_,.int a))=>ofE (c E) λE x=>(match x.2 with
  |.int b=>some (.nx (E.set i (some (.dp,.int (f a b)))))
  |_=>none)
 |_=>none
def mkD:D×D:=(.str "",.non)
def K2(kv:List (Int×Int)):D:=.dct (mkD::kv.map λp=>(.int p.1,.int p.2))
def Q2 : List (D × D) -> Option (List (Int × Int))
  |[]=>some []|(.int k, .int v)::r=>(Q2 r).map ((k, v):: ·)|_=>none
def VJ:D->Option (List (Int×Int)):=λd=>match d with
 |.dct ((.str _,.non)::kvs)=>Q2 kvs|_=>none
def z6(kv:List (Int×Int))(k:Int):Option Int:=(kv.find? λp=>decide (p.1=k)).map (·.2)
def xQ(kv:List (Int×Int))(k v:Int):List (Int×Int):=if(kv.any λp=>decide (p.1=k))=true then kv.map (λp=>if p.1=k then(p.1,v)else p)else kv++[(k,v)]
def VW:D->D->Option D:=λx y=>match x,VJ y with
 |.int k,some kv=>some (.bl (z6 kv k).isSome)|_,_=>none
def wku:D->D->Option D:=λy x=>match x,VJ y with
 |.int k,some kv=>(z6 kv k).map .int|_,_=>none
def wqr(a b:Ex):Ex:=λE=>bnd (a E) λE x=>bnd (b E) λE y=>val E ((wku x.2 y.2).map λd=>(.dp,d))
def Q8:List D->Option (List (Int×Int))
 |[]=>some []|.tup [.int a,.int b]::r=>(Q8 r).map ((a,b):: ·)|_=>none
def W5:Sd->Option Sd:=λx=>match x.2 with
 |.lst ds=>(match Q8 ds with
  |some ps=>if ps.length<big then some (.rt,K2 (ps.foldl (λkv p=>xQ kv p.1 p.2) []))else none
  |none=>none)
 |_=>none
def qwn(z:Str):D->Option D:=λd=>match d with
 |.lst ds=>(match zx ds with
  |some ys=>if(ys.map (·.length)).sum+ys.length*z.length<=100000 then some (.str (Txt.join z ys))else none
  |none=>none)
 |_=>none
def vji(z:Str)(c:Ex):Ex:=λE=>bnd (c E) λE x=>val E ((qwn z x.2).map λd=>(.dp,d))
def vq7:D->Option (List D)
 |.tup xs=>some xs|_=>none
def qzz(c:Ex):Ev (List D):=λE=>bnd (c E) λE x=>val E ((vq7 x.2).map (xV 0))
def itV(i:Nat):Ev (List D):=λE=>match E[i]? with
 |some (some (_,.lst ds))=>if D.pures ds=true then some (.ok E ds)else none|_=>none
end Q
namespace Q
open PySem
def D.at:List Nat->D->Option D
 |[],d=>some d
 |n::p,.tup ds=>match ds[n]? with
  |some d=>D.at p d|none=>none
 |n::p,.lst ds=>match ds[n]? with
  |some d=>D.at p d|none=>none
 |_::_,_=>none
def D.put(d':D):List Nat->D->D
 |[],_=>d'
 |n::p,.tup ds=>match ds[n]? with
  |some d=>.tup (ds.set n (D.put d' p d))|none=>.tup ds
 |n::p,.lst ds=>match ds[n]? with
  |some d=>.lst (ds.set n (D.put d' p d))|none=>.lst ds
 |_::_,d=>d
mutual
noncomputable def D.dat:D->PyData
 |.non=>.none|.bl b=>.bool b|.int i=>.int i|.str z=>.str z|.tup ds=>.tuple (D.dats ds)|.lst ds=>.list (D.dats ds)|.dct _=>.none|.obj _ _=>.none
noncomputable def D.dats:List D->List PyData
 |[]=>[]|d::ds=>D.dat d::D.dats ds
end
def wQ(kvs:List (D×D))(k:D):Option D:=(kvs.find? λp=>decide (p.1=k)).map (·.2)
end Q
namespace Q
open PySem PySem.Spec PyProof.Rows L2 L3
section
variable {X:Cx}{Z:Fx0}{K:Frag}{pn:List Nat}{q qa qb:Bool}{a b c:Ex}{u:Ts}{tg e ea eb:Expr}{st:Stmt}{O:L2.St}{H:Hp}{L:Ls}{E:En}{pos p p2:Pos}{x:Str}
theorem kji(a:Str):∀r,(Kq a r).Perm (a::r)
 |[]=>List.Perm.refl _
 |b::r=>by
  unfold Kq
  split
  ·exact((kji a r).cons b).trans (List.Perm.swap ..)
  ·exact List.Perm.refl _
theorem jwa:∀r,(wJ r).Perm r
 |[]=>List.Perm.refl _|a::r=>(kji a _).trans ((jwa r).cons a)
def leS(a b:Str):Prop:=Spec.ltCps b.cps.toList a.cps.toList=false
theorem leS_iff{a b:Str}:leS a b↔a.cps.toList<=b.cps.toList:=by
 unfold leS;rw[ltCps_eq,decide_eq_false_iff_not,List.not_lt]
theorem kvo{a b c:Str}(h:leS a b)(h':leS b c):leS a c:=leS_iff.mpr (List.le_trans (leS_iff.mp h) (leS_iff.mp h'))
theorem qzv{a b:Str}(h:leS a b)(h':leS b a):a=b:=by
 have:=List.le_antisymm (leS_iff.mp h) (leS_iff.mp h');cases a;cases b;simp only at this
 congr 1
 exact Array.toList_inj.mp this
theorem qvv{a b:Str}(h:¬leS a b):leS b a:=by
 rw[leS_iff]at h ⊢;exact List.le_of_lt (List.not_le.mp h)
theorem kv0:∀{a:Str} {r:List Str},risingS a r=true->(a::r).Pairwise leS
 |a,[],_=>by simp
 |a,b::r,h=>by
  have h:(!(Spec.ltCps b.cps.toList a.cps.toList)&&risingS b r)=true:=h;rw[Bool.and_eq_true,Bool.not_eq_true']at h;have ih:=kv0 h.2;refine List.pairwise_cons.mpr ⟨λc hc=>?_,ih⟩;rcases aD hc with rfl|hc
  ·exact h.1
  ·exact kvo h.1 ((List.pairwise_cons.mp ih).1 c hc)
theorem qq5{r:List Str}(h:sortedS r=true):r.Pairwise leS:=by
 cases r with|nil=>exact .nil|cons a r=>exact kv0 h
theorem qw8{a:Str}:∀{r:List Str},r.Pairwise leS->(Kq a r).Pairwise leS
 | [],_=>by simp[Kq]
 | b::r,h=>by
  rw[List.pairwise_cons]at h;unfold Kq
  by_cases hl:Spec.ltCps b.cps.toList a.cps.toList=true
  ·rw[X8 hl];refine List.pairwise_cons.mpr ⟨λc hc=>?_,qw8 h.2⟩;rcases aD ((kji a r).mem_iff.mp hc)with rfl|hc
   ·exact qvv (by unfold leS;rw[hl];exact λz=>nomatch z)
   ·exact h.1 c hc
  ·rw[Xb hl];have ma:leS a b:=by unfold leS;exact Bool.eq_false_iff.mpr hl
   refine List.pairwise_cons.mpr ⟨λc hc=>?_,List.pairwise_cons.mpr h⟩;rcases aD hc with rfl|hc
   ·exact ma
   ·exact kvo ma (h.1 c hc)
theorem kza:∀{r:List Str},(wJ r).Pairwise leS
 |[]=>.nil|a::r=>qw8 kza
theorem qxs{r s:List Str}(p:s.Perm r)(h:sortedS s=true):s=wJ r:=
 List.Perm.eq_of_pairwise (λa b _ _ h1 h2=>qzv h1 h2) (qq5 h) kza (p.trans (jwa r).symm)
theorem qjp{ns:List Str}:∀{us:List Value},Vals (ns.map V.str) us->StrsAre us ns:=by
 induction ns with
 | nil=>intro us r;rw[List.map_nil]at r;cases r;exact .nil
 | cons n ns ih=>
  intro us r;rw[List.map_cons]at r;cases r with
  |cons r1 r2=>
   obtain⟨t,e⟩:=r1;subst e;exact .cons n t (ih r2)
theorem qku{us:List Value}{ns:List Str}(h:StrsAre us ns):Vals (ns.map V.str) us:=by
 induction h with|nil=>exact .nil|cons y t _ ih=>exact .cons ⟨t,rfl⟩ ih
theorem qkw{us:List Value}{ns:List Int}(h:IntsAre us ns):Vals (ns.map V.int) us:=by
 induction h with|nil=>exact .nil|cons y t _ ih=>exact .cons ⟨t,rfl⟩ ih
theorem kkq{g:Bool}:∀{ds:List D} {bs:List Str} {xs:List V} {as:List Addr},zx ds=some bs->RepA K H g ds xs as->xs=bs.map V.str/\∀z∈bs,z.length<=sizeLine
 | [],bs,xs,as,h,r=>by
  cases oq9 h;unfold RepA at r;exact⟨r.1,λ_ z=>nomatch z⟩
 | d::ds,bs,xs,as,h,r=>by
  cases d with
  | str b=>
   unfold zx at h;cases hb:zx ds with
   |none=>rw[hb]at h;cases h
   |some dn=>
    rw[hb]at h;cases oq9 h;unfold RepA at r;obtain⟨x,rr,c1,c2,rfl,rfl,h1,h2⟩:=r;unfold RepL at h1;obtain⟨i1,i2⟩:=kkq hb h2;exact⟨by rw[h1.1,i1];rfl,λz hz=>(aD hz).elim (λe=>e▸h1.2.2) (i2 z)⟩
  |_=>unfold zx at h;cases h
theorem kzg{g:Bool}:∀{bs:List Str},(∀z∈bs,z.length<=sizeLine)->RepA K H g (bs.map D.str) (bs.map V.str) []
 |[],_=>by unfold RepA;exact⟨rfl,rfl⟩
 |b::bs,h=>by
  rw[List.map_cons,List.map_cons];unfold RepA;exact⟨_,_,[],[],rfl,rfl,YZ (h b X7),kzg λz hz=>h z (lc9 _ hz)⟩
def tPo(Z:Fx0):Option Ex->TO
 |none=>qq0|some c=>vxn (tV Z true c)
theorem K5:PO X none (tPo Z none):=vv4
theorem Kw(h:QV X Z true c e):PO X (some e) (tPo Z (some c)):=vv2 h
theorem qv0{α:Type}{co:Option Ex}{F:En->Option Int->Option (Res α)}{r:Res α}{G:Option Int->Hp->Prop}(m:Mt E O L)(w:World Z.K H L)(h:bnd (V6 co E) F=some r)(xc:Xc Z O H L r)
  (k:∀E1 l,F E1 l=some r->∀L1 H1,Mt E1 O L1->World Z.K H1 L1->Step H L H1 L1->k8 H H1->G l H1):tPo Z co O H G:=by
 cases co with
 | none=>exact k E none h L H m w Step.refl wZ
 | some c=>
  have h:bnd (bnd (c E) λE x=>match x.2 with|.int i=>some (.ok E (some i))|_=>none) F=some r:=h;have h':bnd (c E) (λE x=>bnd (match x.2 with|.int i=>some (.ok E (some i))|_=>none) F)=some r:=by
   cases hc:c E with|none=>rw[hc]at h;exact h|some y=>rw[hc]at h;cases y<;>exact h
  show tV Z true c O H λx H1=>∃i,x=.int i/\G (some i) H1
  refine vk m w h' xc λE1 s h1 x L1 H1 e1 e2 m1 w1 ok fr sr st sm=>?_
  cases hs:s.2 with
  |int i=>
   rw[hs]at h1;exact⟨i,qX ok (e2.trans hs),k E1 (some i) h1 L1 H1 m1 w1 st (sm rfl)⟩
  |_=>rw[hs]at h1;cases h1
theorem kzf(n d:Nat)(v:Option Int):HT.sIx n d v=xX n d v:=by
 cases v<;>rfl
theorem RepA.drop{K:Frag}{H:Hp}{g:Bool}:∀(n:Nat) {ds:List D} {xs:List V} {as:List Addr},RepA K H g ds xs as->∃bs,RepA K H g (ds.drop n) (xs.drop n) bs/\∀b∈bs,b∈as
 |0,ds,xs,as,h=>⟨as,h,λ_ h=>h⟩
 |n+1,[],xs,as,h=>by
  unfold RepA at h;obtain⟨rfl,rfl⟩:=h;exact⟨[],by simp only[List.drop_nil];unfold RepA;exact⟨rfl,rfl⟩,λ_ h=>h⟩
 |n+1,d::ds,xs,as,h=>by
  unfold RepA at h;obtain⟨x,r,bs,cs,rfl,rfl,h1,h2⟩:=h;obtain⟨es,r2,hb⟩:=RepA.drop n h2;exact⟨es,r2,λb h=>lr9 _ (hb b h)⟩
theorem RepA.take{K:Frag}{H:Hp}{g:Bool}:∀(n:Nat) {ds:List D} {xs:List V} {as:List Addr},RepA K H g ds xs as->∃bs,RepA K H g (ds.take n) (xs.take n) bs/\∀b∈bs,b∈as
 |0,ds,xs,as,h=>⟨[],by simp only[List.take_zero];unfold RepA;exact⟨rfl,rfl⟩,λ_ h=>nomatch h⟩
 |n+1,[],xs,as,h=>by
  unfold RepA at h;obtain⟨rfl,rfl⟩:=h;exact⟨[],by simp only[List.take_nil];unfold RepA;exact⟨rfl,rfl⟩,λ_ h=>h⟩
 |n+1,d::ds,xs,as,h=>by
  unfold RepA at h;obtain⟨x,r,bs,cs,rfl,rfl,h1,h2⟩:=h;obtain⟨es,r2,hb⟩:=RepA.take n h2;refine⟨bs++es,?_,λb h=>(aA h).elim (λz=>ll9 _ z) λz=>lr9 _ (hb b z)⟩;rw[List.take_succ_cons,List.take_succ_cons];unfold RepA;exact⟨x,r.take n,bs,es,rfl,rfl,h1,r2⟩
theorem RepA.cut{K:Frag}{H:Hp}{g:Bool}{ds:List D}{xs:List V}{as:List Addr}(h:RepA K H g ds xs as)(lo hi:Option Int):∃bs,RepA K H g (z7 ds lo hi) (Q0 xs lo hi) bs/\∀b∈bs,b∈as:=by
 have hl:=h.len;unfold z7 Q0;rw[kzf,kzf,<-hl];obtain⟨bs,r,hb⟩:=h.drop (xX ds.length 0 lo);obtain⟨cs,r2,hc⟩:=r.take (xX ds.length ds.length hi - xX ds.length 0 lo);exact⟨cs,r2,λb h=>hb b (hc b h)⟩
theorem vqc{x:Sl}{s:Sd}{lo hi:Option Int}{Q:VK}(ok:x.ok K H)(hf:fSl (x.o,x.d) lo hi=some s)(k:∀(z:Sl) H',z.o=s.1->z.d=s.2->Out K H H' z x.frz->Q z.v H'):vk1 K x.v lo hi H Q:=by
 unfold fSl at hf;dsimp only at hf;cases hx:x.d with
 | lst ds=>
  rw[hx]at hf;dsimp only at hf
  split at hf
  ·rename_i hl;cases oq9 hf;obtain⟨l,xs,bs,ev,q3,r3,h3⟩:=xZ ok (.inl hx) (by rw[hx];exact hl);have q3:LsR K H l xs:=by rcases q3 with⟨_,z⟩|⟨z,_⟩;exact z;rw[hx]at z;cases z
   obtain⟨cs,r4,h4⟩:=r3.cut lo hi;exact .inl ⟨l,xs,ev,J6 q3,λp hp=>k ⟨.rt,.lst _,.ref p,p::cs⟩ _ rfl rfl (KZ hp r4 λb hb=>h3 b (h4 b hb))⟩
  ·cases hf
 | tup ds=>
  rw[hx]at hf;dsimp only at hf
  split at hf
  ·rename_i hl;cases oq9 hf;obtain⟨l,xs,bs,ev,q3,r3,h3⟩:=xZ ok (.inr hx) (by rw[hx];exact hl.1);have q3:SqT K H l xs:=by rcases q3 with⟨z,_⟩|⟨_,z⟩;rw[hx]at z;cases z;exact z
   obtain⟨cs,r4,h4⟩:=r3.cut lo hi;refine .inr (.inl ⟨l,xs,ev,q3,?_,λp hp=>k ⟨.no,.tup _,.ref p,cs⟩ _ rfl rfl (kj4 hp r4 λb hb=>h3 b (h4 b hb))⟩);rw[kzf,kzf,<-r3.len];exact hl.2
  ·cases hf
 | str z=>
  rw[hx]at hf;dsimp only at hf
  split at hf
  ·rename_i hl;cases oq9 hf;obtain⟨e,hz⟩:=xW ok hx;exact .inr (.inr ⟨z,e,hz,k ⟨.dp,.str _,.str _,[]⟩ H rfl rfl (ww5 hl)⟩)
  ·cases hf
 |_=>rw[hx]at hf;cases hf
theorem K3{lo hi:Option Ex}{elo ehi:Option Expr}(ha:QV X Z q a ea)(hl:PO X elo (tPo Z lo))(hh:PO X ehi (tPo Z hi))(hK:autoParam (X.K=Z.K) Ŕ):QE X Z q (cSl a lo hi) (.Subscript ea (.Slice elo ehi none p2) pos):=
 qx (qzg (wvd Z.K hK) ha hl hh) fun O H Q b7=>ex8 b7 λE L r m w hc xc k=>by
  refine vk m w (show bnd (a E) _=some r from hc) xc λE1 s h1 x L1 H1 e1 e2 m1 w1 ok fr sr st sm=>?_
  refine qv0 m1 w1 h1 (xc.step st) λE2 l h2 L2 H2 m2 w2 c8 dq=>?_
  refine qv0 m2 w2 h2 (xc.step (st.trans c8)) λE3 u h3 L3 H3 m3 w3 fc sm3=>?_
  obtain⟨z,hz,rfl⟩:=J3 h3;have k1:=Q5 ok fr c8 dq;have k2:=Q5 k1.1 k1.2 fc sm3;refine vqc k2.1 (by rw[e1,e2];exact hz) λy H' ho hd o=>?_
  obtain⟨w4,iw⟩:=Vx w3 ((st.trans c8).trans fc) o k2.2 (λb hb=>k2.1.some (Sl.frz_as hb)) (jx1 sr λb hb=>Sl.frz_as hb);have iu:q=true->k8 H H3:=λhq=>qv (sm hq) (qv dq sm3)
  exact k _ _ rfl y L3 H' ho hd m3 w4 iw λhq=>⟨qv (iu hq) o.same,λb hb=>Jz (iu hq) (o.new b hb)⟩
def tAV(Z:Fx0)(cs:List Ex):TA:=fun O H Q=>∃E L r,Mt E O L/\World Z.K H L/\q5 cs E=some r/\Xc Z O H L r /\
 ∀E' ys,r=.ok E' ys->∀(xs:List Sl) L' H',xs.map Sl.sd=ys->Mt E' O L'->World Z.K H' L'->(∀x∈xs,x.ok Z.K H')->Step H L H' L'->k8 H H'->Q (xs.map Sl.v) H'
def QAV(X:Cx)(Z:Fx0)(cs:List Ex)(es:List Expr):Prop:=PA X es (tAV Z cs)
theorem wvu:QAV X Z [] []:=kzp wq fun O H Q b7=>ex8 b7 λE L r m w hc xc k=>by
 cases oq9 hc;exact k _ _ rfl [] L H rfl m w (λ_ z=>nomatch z) Step.refl wZ
theorem vzr{cs:List Ex}{es:List Expr}(h:QV X Z true c e)(hs:QAV X Z cs es)(cq:autoParam (starEach (e::es) X.env=(false,eval e X.env)::starEach es X.env) Ŕ):QAV X Z (c::cs) (e::es):=
 kzp (qZ h hs cq) fun O H Q b7=>ex8 b7 λE L r m w hc xc k=>by
  refine vk m w (show bnd (c E) _=some r from hc) xc λE1 s h1 x L1 H1 e1 e2 m1 w1 ok fr sr st sm=>?_
  rcases wK h1 with⟨E2,ys,h2,h3⟩|⟨E2,cc,h2,h3⟩
  ·cases oq9 h3;refine⟨E1,L1,_,m1,w1,h2,(λ_ _ z=>by cases z),λE' ys' z xs L2 H2 e3 m2 w2 gy c8 dq=>?_⟩;injection z with z1 z2;subst z1 z2;refine k _ _ rfl (x::xs) L2 H2 (by rw[List.map_cons,e3];simp[Sl.sd,e1,e2]) m2 w2 (λy hy=>?_) (st.trans c8) (qv (sm rfl) dq);rcases aD hy with rfl|hy
   ·exact(Q5 ok fr c8 dq).1
   ·exact gy y hy
  ·exact⟨E1,L1,_,m1,w1,h2,(xc.step st).map h3,λE' s' z=>by cases z⟩
theorem vqp{k n:Nat}{ps:List Str}{f:Fn}{cs:List Ex}{es:List Expr}(D:kY X.prog X.w X.K X.mg X.base k x ps (spF Z.K Z.mg n f))(hr:Room k X.A)(g:wV X Z.EX)(ha:QAV X Z cs (e::es))(hn:autoParam (cs.length=n) Ŕ)(hg:autoParam (Gl X x) Ŕ)(db:autoParam ((x==("__debug__":Str))=false) ŕ)
  (he:autoParam (starEach (e::es) X.env=(false,eval e X.env)::starEach es X.env) Ŕ) (bp:autoParam ((backTo pos (starEach es X.env)).any (·.1)=false) Ŕ):
  QE X Z true (kwf f cs) (.Call (.Name x p) (e::es) [] pos):=qx (vkc D hr g ha hg db he bp) fun O H Q b7=>ex8 b7 λE L r m w hc xc kk=>by
 have hc:bnd (q5 cs E) _=some r:=hc;rcases wK hc with⟨E1,ys,h1,h2⟩|⟨E1,cc,h1,h2⟩
 rotate_left
 ·exact⟨E,L,_,m,w,h1,xc.map h2,λE' s' z=>by cases z⟩
 refine⟨E,L,_,m,w,h1,(λ_ _ z=>by cases z),λE' ys' z xs L1 H1 e1 m1 w1 ok1 st sm=>?_⟩;injection z with z1 z2;subst z1 z2;rw [Xr];have av:xs.length=n:=by rw[<-hn,<-jw7 h1,<-e1,X4]
 cases hf:f (letAll ys)with
 | none=>rw[hf]at h2;cases h2
 | some fr=>
  rw[hf]at h2;have ev:xs.map Sl.v=(xs.map Sl.let).map Sl.v:=by rw[Xs];rfl
  have wl:World Z.K H1 ((xs.map Sl.let).map some):=by
   refine⟨λy hy=>?_,by rw[JK];exact Y4,λa ha=>by rw[JK]at ha;exact nomatch ha⟩;obtain⟨y',hy',e⟩:=aE hy;cases e;obtain⟨t,ht,rfl⟩:=aE hy';exact V7 (ok1 t ht)
  rw[ev];refine⟨xs.map Sl.let,fr,rfl,by rw[X4];exact av,wl,by rw[<-e1]at hf;rw[kxj];exact hf,λE' c ee C H' hm s'=>?_,λE' a ee y H' e2 e3 w' s'=>?_⟩
  ·subst ee;cases oq9 h2;have jl:k8 H1 H':=λb ob hb=>s'.keep b ob hb λz=>by rw[JK]at z;exact nomatch z
   exact xc _ _ rfl C L1 H' hm m1 ⟨λy hy=>RepO.kp (w1.ok y hy) (Kp.of_same jl),w1.nd,w1.ds⟩ (st.trans ⟨λb ob hb _=>jl b ob hb,λ_ h=>.inl h,λ_ h=>.inl h⟩)
  ·subst ee;dsimp only at h2
   split at h2
   ·rename_i hp;cases oq9 h2;have jl:k8 H1 H':=λb ob hb=>s'.keep b ob hb λz=>by rw[JK]at z;exact nomatch z
    have w2:World Z.K H' L1:=⟨λy hy=>RepO.kp (w1.ok y hy) (Kp.of_same jl),w1.nd,w1.ds⟩;obtain⟨z,rp⟩:=RepL.pu (g':=false) (RepO.wk (w'.ok y X7)) (by rw[e3];exact hp);have c8:Step H L H' L1:=st.trans ⟨λb ob hb _=>jl b ob hb,λ_ h=>.inl h,λ_ h=>.inl h⟩;exact kk _ _ rfl ⟨.dp,y.d,y.v,[]⟩ L1 H' rfl e3 m1 (w2.consPu rp rfl) (Q6 (x:=⟨.dp,y.d,y.v,[]⟩) c8 (λb hb=>nomatch hb) rfl) λ_=>⟨qv sm jl,λ_ z=>(nomatch z)⟩
   ·cases h2
end
theorem vxg{prog:Program}{w:PySem.World}{A:Around}{E:Value->Shared->Prop}{s:Shared}{t:Addr}{items:Array Value}{x:Value}{e:Value->Bool}{j:Nat}{Q:Value->Shared->Prop}
  (ht:IsTup s.heap t items) (he:∀y∈items,SeqAt.EqAt A.in1 s y x (e y)) (hj:j<items.size) (h1:e items[j]=true) (h2:∀m (hm:m<items.size),m<j->e items[m]=false)
  (h:Q (.int j s.toks) { s with toks:=s.toks+1 }):wpAny (model prog w) A (call (.builtin "tuple.index") [.ref t,x]) Q E s:=by
 refine Y0 PySem.F.slot_tuple_index ht.typeIs PySem.F.entry_tuple_index ?_ (PySem.F.args_tuple_index_2 _ _);show wpAny _ _ (Builtin.Tuple.tupleItemsOf (.ref t) >>= _) _ _ s;refine X0 (tupleItemsOf_ ht ?_);dsimp only;refine X0 (X2 ?_);refine X0 (X2 ?_);rw[Std.Legacy.Range.forIn_eq_forIn_range'];refine X0 (wpAny_forIn_list _ (λjq b s'=>b=(none,())/\s'=s/\∃k,k<=j/\jq=List.range' k (items.size - k)) _ ?_ ?_ _ _ ⟨rfl,rfl,0,Yg _,?_⟩)
 ·rintro i jq b s' ⟨rfl,rfl,k,hk,hr⟩;obtain⟨n,hn⟩:∃n,items.size - k=n+1:=⟨items.size - k - 1,⋯⟩;rw[hn,List.range'_succ]at hr;injection hr with hi mf;subst hi;have hi:i<items.size:=⋯
  rw[show items[i]?=some items[i]from Yu hi];dsimp only;refine X0 (he items[i] (Array.getElem_mem hi) _ _ _ _ ?_)
  by_cases hij:i=j
  ·subst hij;rw[h1,X8 rfl];unfold retInt;refine X0 (X0 (wpAny_mkInt (X2 (X2 ?_))));exact X2 ⟨_,rfl,h⟩
  ·rw[h2 i hi ⋯,Xb ⋯];refine X2 ⟨rfl,rfl,i+1,⋯,?_⟩;rw[mf]
   congr 1
   omega
 ·rintro b s' ⟨rfl,rfl,k,hk,hr⟩;have:items.size - k=0:=by
   have:=congrArg List.length hr
   simpa using this.symm
  omega
 ·simp
theorem wvf{prog:Program}{w:PySem.World}{A:Around}{E:Value->Shared->Prop}{s:Shared}{l:Addr}{items:Array Value}{k:Int}{t:Tok}{Q:Value->Shared->Prop}
  (ht:IsTup s.heap l items) (h:Q .notImplemented s):wpAny (model prog w) A (call (.builtin "int.__rmul__") [.int k t,.ref l]) Q E s:=by
 refine Y0 PySem.F.slot_int_rmul (typeIs_int s k t) PySem.F.entry_int_rmul ?_ (PySem.F.args_int_rmul_2 _ _);obtain⟨o,e,c,n,hd⟩:=ht;show wpAny _ _ (asInt? (.ref l) >>= _) _ _ s;unfold asInt?;refine X0 (X0 (wpAny_load e ?_));rw[hd];refine X2 ?_;dsimp only;refine X0 (Zj ?_);exact X2 ⟨_,rfl,h⟩
theorem mulT{prog:Program}{w:PySem.World}{A:Around}{E:Value->Shared->Prop}{s:Shared}{l:Addr}{items:Array Value}{k:Int}{t:Tok}{Q:Value->Shared->Prop}
  (ht:IsTup s.heap l items) (h1:-(2 ^ 63)<=k) (h2:k<2 ^ 63) (hz:items.size*k.toNat<=sizeLine)
  (t9:(items.isEmpty=true\/k=1)->Q (.ref l) s)
  (hsz:(List.foldl (λx1 x2=>x1++x2) #[] (List.replicate k.toNat items)).size<=sizeLine)
  (dz:Q (.ref s.heap.objs.size) { s with heap:=s.heap.push { cls:=.type "tuple",data:=.seq (List.foldl (λx1 x2=>x1++x2) #[] (List.replicate k.toNat items)) } })
  : wpAny (model prog w) A (call (.builtin "tuple.__mul__") [.ref l,.int k t]) Q E s:=by
 refine Y0 PySem.F.slot_tuple_mul ht.typeIs PySem.F.entry_tuple_mul ?_ (PySem.F.args_tuple_mul_2 _ _);show wpAny _ _ (if(decide (k < -2 ^ 63)||decide (k>=2 ^ 63))=true then _ else _) _ _ s;rw [Xb (by simp;omega)];show wpAny _ _ (Builtin.Tuple.tupleItemsOf (.ref l) >>= _) _ _ s;refine X0 (tupleItemsOf_ ht ?_)
 by_cases hs:(items.isEmpty||k==1)=true
 ·rw[X8 hs];unfold Builtin.Tuple.tupleIsExact;refine X0 (X0 (wpAny_typeOf ht.typeIs (X2 ?_)));rw[X8 ⋯];refine X0 (Zj ?_);refine X2 ⟨_,rfl,t9 ?_⟩
  simpa using hs
 ·rw[Xb hs];have bt:items.isEmpty=false:=by
   cases h:items.isEmpty<;>simp_all
  have hm:((items.size:Int)*k)<=(sizeLine:Int)\/k<=0:=by
   by_cases hk:k<=0
   ·exact .inr hk
   ·refine .inl ?_;have e:((k.toNat:Nat):Int)=k:=Int.toNat_of_nonneg ⋯;have:((items.size*k.toNat:Nat):Int)<=(sizeLine:Int):=Int.ofNat_le.mpr hz;rw[Int.natCast_mul,e]at this;exact this
  dsimp only
  by_cases hk:k<=0
  ·rw[X8 (by simp[hk])];have e:k.toNat=0:=⋯
   rw[e]at dz;unfold Builtin.Tuple.tupleExact;exact X0 (Xv (X2 ⟨_,rfl,dz⟩) (show(0:Nat)<=sizeLine from Yg _))
  ·rw[Xb (by simp[hk,bt])];have hm:=hm.resolve_right hk;have jp:(sizeLine:Int)=16777216:=⋯
   rw[Xb ⋯];rw[Xb (by unfold Builtin.Tuple.tupleTooMany;simp;omega)];unfold Builtin.Tuple.tupleExact;exact X0 (Xv (X2 ⟨_,rfl,dz⟩) hsz)
section
variable {X:Cx}{Z:Fx0}{K:Frag}{pn:List Nat}{q qa qb:Bool}{a b c:Ex}{u:Ts}{tg e ea eb:Expr}{st:Stmt}{O:L2.St}{H:Hp}{L:Ls}{E:En}{pos p p2:Pos}{x:Str}
def vz8(K:Frag):R2:=λx y H Q=>∃l k xs,x=.ref l/\y=.int k/\SqT K H l xs/\-(2 ^ 63)<=k/\k<2 ^ 63/\xs.length*k.toNat<=sizeLine/\((xs=[]\/k=1)->Q (.ref l) H)/\∀p,H p=none->Q (.ref p) (upd H p (.tup (List.replicate k.toNat xs).flatten))
theorem op_repT:OpR X (binaryOp .Mult) (vz8 X.K):=by
 intro pins s O H x y v u Q I rx ry h;obtain⟨l,k,xs,rfl,rfl,hq,h1,h2,hz,q1,q2⟩:=h;cases rx;obtain⟨t,rfl⟩:=ry;obtain⟨ah,r,ht,hl⟩:=I.tuple hq;have av:=r.length;have f0:List.foldl (λx1 x2=>x1++x2) #[] (List.replicate k.toNat ah.toArray)=(List.replicate k.toNat ah).flatten.toArray:=by
  have:=kjk ah k.toNat [];rw[List.nil_append]at this;exact this
 have hz2:(List.replicate k.toNat xs).flatten.length<=sizeLine:=by rw[qvt,Nat.mul_comm];exact hz
 refine wpAny_binaryOp_repeat_ref (T:="tuple") (U:="int") ⋯ ht.typeIs (λs'=>typeIs_int s' k t) rfl F.fills_int_mul F.slot_int_rmul (show seqRepeat? (Value.type "tuple")=pure (some (Value.builtin "tuple.__mul__"))from rfl) F.slot_int_index.lookup
  (wvf ht ⟨rfl,ht.typeIs,mulT ht h1 h2 (by rw[X5,<-av];exact hz) (λhs=>?_) ?_ ?_⟩)
 ·refine⟨.ref l,H,I,rfl,q1 ?_⟩;rcases hs with hs|hs
  ·left;have:ah=[]:=by simpa using hs
   subst this
   simpa using av
  ·exact .inr hs
 ·rw[f0,X5,<-(r.rep k.toNat).length];exact hz2
 ·rw[f0];exact⟨.ref _,_,I.laid (t':=s.toks) (o:=.tup _) (λb o e=>X1 _ e) (X9 _) ⟨hz2,_,r.rep k.toNat,IsTupD.new _ _⟩,rfl,q2 _ (I.hok.fresh (X9 _))⟩
def vzb(K:Frag):R2:=λx y H Q=>vz8 K x y H Q\/vqj K x y H Q
theorem wjl(hK:autoParam (X.K=K) Ŕ):OpR X (binaryOp .Mult) (vzb K):=by subst hK;exact op_repT.or wjm
theorem vwv:Ad2 K (vzb K) vj:=by
 intro H x y s Q ox oy hf k;cases hx:x.d with
 | tup ds=>
  cases hy:y.d with
  | int n=>
   unfold vj at hf;rw [show(x.o,x.d).2=x.d from rfl,show(y.o,y.d).2=y.d from rfl,hx,hy]at hf;dsimp only at hf
   split at hf
   ·rename_i hc;cases oq9 hf;obtain⟨l,xs,bs,e3,q3,r3,h3⟩:=xZ ox (.inr hx) (by rw[hx];exact hc.2.2.2);have q3:SqT K H l xs:=by rcases q3 with⟨z,_⟩|⟨_,z⟩;rw[hx]at z;cases z;exact z
    obtain⟨cs,r4,h4⟩:=r3.reps n.toNat;refine .inl ⟨l,n,xs,e3,qX oy hy,q3,hc.1,hc.2.1,by rw[<-r3.len];exact hc.2.2.1,λhs=>?_,λp hp=>?_⟩
    ·refine k ⟨.no,.tup _,.ref l,cs⟩ H rfl rfl ⟨wZ,?_,λb hb=>(nomatch hb),Y4,λb hb=>ll9 _ (h3 b (h4 b hb))⟩;show RepL K H true (.tup _) (.ref l) cs;unfold RepL;refine⟨l,xs,rfl,q3,?_⟩;have e:(List.replicate n.toNat xs).flatten=xs:=by
      rcases hs with hs|hs
      ·subst hs;simp
      ·subst hs;simp
     rw[e]at r4;exact r4
    ·exact k ⟨.no,.tup _,.ref p,cs⟩ _ rfl rfl (kj4 hp r4 λb hb=>ll9 _ (h3 b (h4 b hb)))
   ·cases hf
  |_=>
   refine .inr (vkz H x y s Q ox oy ?_ k);unfold vj at hf;rw[show(x.o,x.d).2=x.d from rfl,show(y.o,y.d).2=y.d from rfl,hx,hy]at hf;rw[hx,hy];exact hf
 |_=>
  refine .inr (vkz H x y s Q ox oy ?_ k);unfold vj at hf;rw[show(x.o,x.d).2=x.d from rfl,hx]at hf;rw[hx];exact hf
theorem qvp{h:Heap}:∀{ds:List D} {us:List Value},CReps h ds us->us.map (dec h)=ds
 |[],_,r=>by unfold CReps at r;rw[r];rfl
 |z::ds,_,r=>by
  unfold CReps at r;obtain⟨u,rr,rfl,h1,h2⟩:=r;rw[List.map_cons,ZK h1,qvp h2]
def wvm(K:Frag)(C:Hp->List V->Prop):List V->Hp->VK->Prop:=λvs H Q=>∃v d ds as bs xs j,vs=[v]/\RepL K H true d v as/\C H xs/\RepA K H true ds xs bs/\d.flat 30=true/\D.flats 30 ds=true/\(ds.findIdx? λz=>peq z d)=some j/\Q (.int j) H
theorem qzh{o:Expr}{to:TE}{t:TA}{br az:Pos}(hu:X.A.units+64<cLine)(ho:PE X o to)(ha:PA X [e] t)
  (cz:autoParam (attributeBase o "index" X.env (eval o X.env)=eval o X.env) Ŕ)
  (fk:autoParam (((backTo az (starEach [e] X.env)).all (λx=>!x.1)&&(backToKw az (keywordEach [] X.env)).all (λx=>x.1.isSome)
   && decide ([e].length+([]:List Keyword).length+(if([]:List Keyword).isEmpty then 0 else 1)<30))=true) Ŕ)
  (de:autoParam ((br.endLine==az.line)=true) Ŕ) (hs:autoParam (starEach [e] X.env=(false,eval e X.env)::starEach [] X.env) Ŕ) (bu:autoParam ((backTo az (starEach [] X.env)).any (·.1)=false) Ŕ):
  PE X (.Call (.Attribute o "index" br) [e] [] az) (fun O H Q=>to O H λx H1=>(∃p xs,x=.ref p/\LsR X.K H1 p xs/\t O H1 λvs H2=>wvm X.K (λH xs=>LsR X.K H p xs) vs H2 Q)\/∃p xs,x=.ref p/\SqT X.K H1 p xs/\t O H1 λvs H2=>wvm X.K (λH xs=>SqT X.K H p xs) vs H2 Q):=by
 intro pins s O H Q I h;refine wpAny_Call_method_late cz fk de rfl (thn (ho pins s O H _ I h) λv s1 ⟨x,H1,I1,r1,qq⟩=>?_);have eqs:∀{s2:Shared} {H2:Hp} {d:D} {v:V} {as:List Addr} {w:Value} {us:List Value} {ds:List D},L2.Inv X pins O H2 s2->RepL X.K H2 true d v as->RelV v w->d.flat 30=true->D.flats 30 ds=true->CReps s2.heap ds us->∀y∈us.toArray,SeqAt.EqAt X.A.in1 s2 y w (peq (dec s2.heap y) d):=fun {s2 H2 d v as w us ds} I2 rd rw f1 f2 cr y hy=>by
  have c1:=Q7 I2 rd f1 rw;obtain⟨d',hd,c⟩:=jzo cr (by simpa using hy);rw[ZK c];exact VY 30 (jx9 f2 hd) c c1 (by have:=L3.in1_units X.A;omega)
 have idx:∀{h:Heap} {ds:List D} {us:List Value} {d:D} {j:Nat},CReps h ds us->(ds.findIdx? λz=>peq z d)=some j->∃hj:j<us.toArray.size,peq (dec h us.toArray[j]) d=true/\∀m (hm:m<us.toArray.size),m<j->peq (dec h us.toArray[m]) d=false:=fun {h ds us d j} cr hf=>by
  have e:=qvp cr;subst e;rw[List.findIdx?_eq_some_iff_getElem]at hf;obtain⟨hj,h1,h2⟩:=hf;have hj':j<us.length:=by simpa using hj
  refine⟨by simpa using hj',by simpa using h1,λm hm hmj=>?_⟩;have:=h2 m hmj
  simpa using this
 rcases qq with⟨pp,zs,rfl,ty,q1⟩|⟨pp,zs,rfl,ty,q1⟩
 ·cases r1;have hA:=ha az pins s1 O H1 _ I1 q1;rw[hs]at hA ⊢;obtain⟨z,ah,n,r,e0⟩:=ty.is I1;refine⟨"list","list.index",F.plainAttrs_list,F.slot_list_index,F.type_list_index,⟨_,e0,rfl⟩,λa e2=>?_,?_⟩
  ·cases e2;exact⟨_,e0,rfl⟩
  refine Calls.callWith_builtin (by show(false||(backTo az (starEach [] X.env)).any (·.1))=false;rw[bu]<;>rfl) (Calls.evalArgs_plain ?_);refine thn hA λus s2 ⟨vs,H2,I2,r2,d2⟩=>?_
  obtain⟨v,d,ds,as,bs,xs,j,rfl,rd,hq,ra,f1,f2,hf,q2⟩:=d2;obtain⟨w,rfl,rw1⟩:=r2.one;obtain⟨z2,gc,n2,r3,e3⟩:=hq.is I2;have cr:=creps_of I2 ra f2 r3;obtain⟨hj,h1,h2⟩:=idx cr hf;have hsz:gc.toArray.size<=16777216:=by rw[X5,<-r3.length];exact z2
  exact call_meets F.slot_list_index ⟨_,e3,rfl⟩ F.entry_list_index (F.args_list_index_2 _ _) (SeqAt.list_indexAt pp gc.toArray n2 none #[] w (λy=>peq (dec s2.heap y) d) j hj ⋯ h1 h2) ⟨e3,eqs I2 rd rw1 f1 f2 cr,.int _,H2,I2.tok _,⟨_,rfl⟩,q2⟩
 ·cases r1;have hA:=ha az pins s1 O H1 _ I1 q1;rw[hs]at hA ⊢;obtain⟨ah,r,ht,hz⟩:=I1.tuple ty;have pj:=I1.tupleD ty;refine⟨"tuple","tuple.index",F.plainAttrs_tuple,F.slot_tuple_index,F.type_tuple_index,ht.typeIs,λa e2=>?_,?_⟩
  ·cases e2;exact pj
  refine Calls.callWith_builtin (by show(false||(backTo az (starEach [] X.env)).any (·.1))=false;rw[bu]<;>rfl) (Calls.evalArgs_plain ?_);refine thn hA λus s2 ⟨vs,H2,I2,r2,d2⟩=>?_
  obtain⟨v,d,ds,as,bs,xs,j,rfl,rd,hq,ra,f1,f2,hf,q2⟩:=d2;obtain⟨w,rfl,rw1⟩:=r2.one;obtain⟨gc,r3,ht2,hz2⟩:=I2.tuple hq;have cr:=creps_of I2 ra f2 r3;obtain⟨hj,h1,h2⟩:=idx cr hf;exact vxg (e:=λy=>peq (dec s2.heap y) d) ht2 (eqs I2 rd rw1 f1 f2 cr) hj h1 h2 ⟨.int _,H2,I2.tok _,⟨_,rfl⟩,q2⟩
theorem kx6{br az:Pos}(hu:X.A.units+64<cLine)(ha:QV X Z q a ea)(hb:QV X Z true b eb)(hK:autoParam (X.K=Z.K) Ŕ)
  (cz:autoParam (attributeBase ea "index" X.env (eval ea X.env)=eval ea X.env) Ŕ)
  (fk:autoParam (((backTo az (starEach [eb] X.env)).all (λx=>!x.1)&&(backToKw az (keywordEach [] X.env)).all (λx=>x.1.isSome)
   && decide ([eb].length+([]:List Keyword).length+(if([]:List Keyword).isEmpty then 0 else 1)<30))=true) Ŕ)
  (de:autoParam ((br.endLine==az.line)=true) Ŕ) (hs:autoParam (starEach [eb] X.env=(false,eval eb X.env)::starEach [] X.env) Ŕ) (bu:autoParam ((backTo az (starEach [] X.env)).any (·.1)=false) Ŕ):
  QE X Z q (Wj a b) (.Call (.Attribute ea "index" br) [eb] [] az):=qx (qzh hu ha (qZ hb wq hs) cz fk de hs bu) fun O H Q b7=>ex8 b7 λE L r m w hc xc k=>by
 refine vk m w (show bnd (a E) _=some r from hc) xc λE1 s h1 x L1 H1 e1 e2 m1 w1 ok fr sr st sm=>?_
 split at h1
 rotate_left
 ·cases h1
 rename_i hsq;rw [hK];have fin:∀{ds:List D},(x.d=.lst ds\/x.d=.tup ds)->∀(C:Hp->List V->Prop),(∀H2,x.ok Z.K H2->∃xs bs,C H2 xs/\RepA Z.K H2 true ds xs bs)->tV Z true b O H1 λv H2=>wvm Z.K C [v] H2 Q:=fun {ds} hx C hC=>by
  refine vk m1 w1 h1 (xc.step st) λE2 s2 h2 y L2 H2 e3 e4 m2 w2 gy tm se c8 dq=>?_
  obtain⟨z,hz,rfl⟩:=J3 h2;have kx:=Q5 ok fr c8 (dq rfl);obtain⟨xs,bs,c1,c2⟩:=hC H2 kx.1;have lc:∃j:Nat,y.d.flat 30=true/\D.flats 30 ds=true/\(ds.findIdx? λz=>peq z y.d)=some j/\z=(.dp,.int j):=by
   unfold pu2 kw2 at hz;rw[<-e2,<-e4]at hz;have ik:(if y.d.flat 30&&D.flats 30 ds then(ds.findIdx? λz=>peq z y.d).map λ(j:Nat)=>D.int (j:Int)else none).map (λd=>((Own.dp,d):Sd))=some z:=by
    rcases hx with hx|hx<;>(rw[hx]at hz;exact hz)
   split at ik
   ·rename_i hf;rw[Bool.and_eq_true]at hf;cases hj:ds.findIdx? λz=>peq z y.d with|none=>rw[hj]at ik;cases ik|some j=>rw[hj]at ik;exact⟨j,hf.1,hf.2,rfl,(oq9 ik).symm⟩
   ·cases ik
  obtain⟨j,f1,f2,f3,rfl⟩:=lc;refine⟨y.v,y.d,ds,y.as,bs,xs,j,rfl,RepO.wk gy,c1,c2,f1,f2,f3,?_⟩;have iu:q=true->k8 H H2:=λhq=>qv (sm hq) (dq rfl)
  exact k _ _ rfl ⟨.dp,.int j,.int j,[]⟩ L2 H2 rfl rfl m2 (w2.consPu (x:=⟨.dp,.int j,.int j,[]⟩) (show RepL Z.K H2 false (.int j) (.int j) []from wj) rfl) (Q6 (x:=⟨.dp,.int j,.int j,[]⟩) (st.trans c8) (λb hb=>nomatch hb) rfl) λhq=>⟨iu hq,λ_ z=>(nomatch z)⟩
 have wkA:∀{ds:List D} {xs:List V} {bs:List Addr} {H2:Hp},RepA Z.K H2 (x.o != .dp) ds xs bs->RepA Z.K H2 true ds xs bs:=fun {ds xs bs H2} r=>by
  cases ho:(x.o != .dp)with|true=>rw[ho]at r;exact r|false=>rw[ho]at r;exact r.wk
 cases hx:x.d with
 |lst ds=>
  obtain⟨l,xs,bs,ev,q3,r3,h3,_⟩:=items ok (.inl hx);have q3:LsR Z.K H1 l xs:=by rcases q3 with⟨_,z⟩|⟨z,_⟩;exact z;rw[hx]at z;cases z
  refine .inl ⟨l,xs,ev,q3,fin (.inl hx) _ λH2 gy=>?_⟩;obtain⟨l2,ys,cs,ev2,q4,r4,_⟩:=items gy (.inl hx);have:l2=l:=by have:=ev2.symm.trans ev;exact V.ref.inj this
  subst this;rcases q4 with⟨_,z⟩|⟨z,_⟩
  ·exact⟨ys,cs,z,wkA r4⟩
  ·rw[hx]at z;cases z
 |tup ds=>
  obtain⟨l,xs,bs,ev,q3,r3,h3,_⟩:=items ok (.inr hx);have q3:SqT Z.K H1 l xs:=by rcases q3 with⟨z,_⟩|⟨_,z⟩;rw[hx]at z;cases z;exact z
  refine .inr ⟨l,xs,ev,q3,fin (.inr hx) _ λH2 gy=>?_⟩;obtain⟨l2,ys,cs,ev2,q4,r4,_⟩:=items gy (.inr hx);have:l2=l:=by have:=ev2.symm.trans ev;exact V.ref.inj this
  subst this;rcases q4 with⟨z,_⟩|⟨_,z⟩
  ·rw[hx]at z;cases z
  ·exact⟨ys,cs,z,wkA r4⟩
 |_=>rw[<-e2,hx]at hsq;cases hsq
end
theorem kwh:bootBuiltins "enumerate"=some (.type "enumerate"):=boot_enumerate
section
variable {X:Cx}{Z:Fx0}{K:Frag}{pn:List Nat}{q qa qb:Bool}{a b c:Ex}{u:Ts}{tg e ea eb:Expr}{st:Stmt}{O:L2.St}{H:Hp}{L:Ls}{E:En}{pos p p2 i8:Pos}{x:Str}{fm:List Expr}{k1:Nat}
theorem jxb:∀(ds:List D) (k:Nat),(xV k ds).length=ds.length
 |[],_=>rfl|d::ds,k=>by rw[xV,Xm,Xm,jxb ds]
theorem kw5:∀(ds:List D) (k i:Nat),(xV k ds)[i]?=(ds[i]?).map λd=>.tup [.int ((k+i:Nat):Int),d]
 |[],_,_=>by simp[xV]|d::ds,k,0=>by simp[xV]
 |d::ds,k,i+1=>by
  rw[xV,List.getElem?_cons_succ,List.getElem?_cons_succ,kw5 ds,show k+1+i=k+(i+1)from by omega]
theorem qz0{H2:Hp}{T:Addr}{d1 d2:D}{v1 v2:V}{b1 b2:List Addr}(hT:H2 T=none)(r1:RepL K H2 true d1 v1 b1)(r2:RepL K H2 true d2 v2 b2):RepL K (upd H2 T (.tup [v1,v2])) true (.tup [d1,d2]) (.ref T) (b1++b2):=by
 have sm:k8 H2 (upd H2 T (.tup [v1,v2])):=vq hT;unfold RepL;refine⟨T,[v1,v2],rfl,.inl (.inl vK),?_⟩;unfold RepA;refine⟨v1,[v2],b1,b2,rfl,rfl,r1.kp (Kp.of_same sm),?_⟩;unfold RepA;refine⟨v2,[],b2,[],rfl,by simp,r2.kp (Kp.of_same sm),?_⟩;unfold RepA;exact⟨rfl,rfl⟩
end
theorem RepA.erase{K:Frag}{H:Hp}{g:Bool}:∀{j:Nat} {ds:List D} {xs:List V} {as:List Addr},RepA K H g ds xs as->∃bs,RepA K H g (ds.eraseIdx j) (xs.eraseIdx j) bs/\bs.Sublist as
 |j,[],xs,as,h=>by
  unfold RepA at h;obtain⟨rfl,rfl⟩:=h;exact⟨[],by simp only[List.eraseIdx_nil];unfold RepA;exact⟨rfl,rfl⟩,Yp _⟩
 |0,d::ds,xs,as,h=>by
  unfold RepA at h;obtain⟨x,r,bs,cs,rfl,rfl,h1,h2⟩:=h;exact⟨cs,h2,List.sublist_append_right _ _⟩
 |j+1,d::ds,xs,as,h=>by
  unfold RepA at h;obtain⟨x,r,bs,cs,rfl,rfl,h1,h2⟩:=h;obtain⟨es,r2,hs⟩:=RepA.erase (j:=j) h2;refine⟨bs++es,?_,List.Sublist.append (Yp _) hs⟩;rw[Yz,Yz];unfold RepA;exact⟨x,r.eraseIdx j,bs,es,rfl,rfl,h1,r2⟩
theorem wkc{n:Nat}{i:Int}{j:Nat}(h:_root_.Q.ixN n i=some j):seqIndex? i n=some j/\j<n/\-(n:Int)<=i/\i<n:=by
 have e:L2.ixN n i=some j:=by
  unfold _root_.Q.ixN at h;unfold L2.ixN
  by_cases h0:0<=i
  ·rw[X8 h0]at h ⊢;exact h
  ·rw[Xb h0]at h ⊢;exact h
 exact kxm e
section
variable {X:Cx}{Z:Fx0}{K:Frag}{pn:List Nat}{q qa qb:Bool}{a b c:Ex}{u:Ts}{tg e ea eb:Expr}{st:Stmt}{O:L2.St}{H:Hp}{L:Ls}{E:En}{pos p p2 i8:Pos}{x:Str}{fm:List Expr}{k1:Nat}
theorem wvo {i:Nat} {o:Expr} {br az:Pos} (hb:PE X (.Call (.Attribute o "pop" br) [e] [] az) (tBM Z.K "list" vk2 (JZ i) (qxq (tV Z q c) wqs))):QE X Z false (YY i c) (.Call (.Attribute o "pop" br) [e] [] az):=qx hb fun O H Q b7=>ex8 b7 λE L r m w hc xc k=>by
 unfold YY at hc;cases h0:E[i]? with
 | none=>rw [h0]at hc;cases hc
 | some s0 =>
  cases s0 with
  | none=>rw [h0]at hc;cases hc
  | some s0 =>
   obtain ⟨o0,d0⟩:=s0;cases d0 with
   | lst ds0 =>
    rw [h0,X8 (show JQ (some (some (o0,D.lst ds0)))=true from rfl)]at hc;obtain ⟨x0,a1,a2,a3,a4⟩:=m.get h0;refine ⟨x0.v,a4,vkf (w.ok x0 (vx a1)) a3,?_⟩;refine vk m w hc xc λE1 s h1 x L1 H1 e1 e2 m1 w1 lr fr sr st sm=>?_
    cases hE:E1[i]? with
    | none=>rw[hE]at h1;cases h1
    | some s1=>
     cases s1 with
     | none=>rw[hE]at h1;cases h1
     | some s1=>
      obtain ⟨oo,dd⟩:=s1;rw [hE]at h1;cases dd with
      | lst ds=>
       cases hs:s.2 with
       | int kk=>
        rw [hs]at h1;dsimp only at h1
        by_cases ig:oo=.no
        ·rw [X8 ig]at h1;cases h1
        ·rw [Xb ig]at h1;cases hj:_root_.Q.ixN ds.length kk with
         | none=>rw[hj]at h1;cases h1
         | some j=>
          rw [hj]at h1;dsimp only at h1;cases hd:ds[j]? with
          | none=>rw[hd]at h1;cases h1
          | some d=>
           rw[hd]at h1;dsimp only at h1
           split at h1
           rotate_left
           ·cases h1
           rename_i hp;rw[Bool.and_eq_true]at hp;obtain⟨hp,hsm⟩:=hp;obtain⟨jl,dq⟩:=jxl hsm;cases oq9 h1;obtain⟨y,b1,b2,b3,b4⟩:=m1.get hE;have hv:y.v=x0.v:=by rw[a4]at b4;exact(oq9 (oq9 b4)).symm
           obtain⟨l,xs,bs,c1,c2,c3,c4,c5⟩:=kxa (w1.ok y (vx b1)) b3 (by rw[b2];exact ig);have ex0:x0.v=.ref l:=hv▸c1;rw[ex0];obtain⟨vv,dn,f1,f2,f3⟩:=c5.get hd;obtain⟨g1,g2,g3,g4⟩:=wkc hj;have av:=c5.len;have ka:(2:Int) ^ 63=9223372036854775808:=⋯
           obtain⟨_,rp⟩:=RepL.pu (g':=false) f2 hp;obtain⟨cs,r6,ff⟩:=c5.erase (j:=j);refine⟨l,xs,kk,j,vv,rfl,by rw[qX lr (e2.trans hs)],c2,?_,?_,by rw[<-av];exact g1,f1,?_⟩
           ·have:(2:Int) ^ 62=4611686018427387904:=⋯
            omega
           ·have:(2:Int) ^ 62=4611686018427387904:=⋯
            omega
           have yn:y.own.Nodup:=by
            obtain⟨A,B,e,_⟩:=jxe b1;have:=w1.nd;rw[e,jX,kw,Xe]at this;exact(List.nodup_append.mp this.2.1).1
           have hoo:y.o=.rt\/y.o=.dp:=by
            rw[b2];cases oo with|no=>exact absurd rfl ig|rt=>exact .inl rfl|dp=>exact .inr rfl
           obtain⟨w3,s3⟩:=kq4 (T:=[]) (o':=y.o) (ds':=ds.eraseIdx j) (xs':=xs.eraseIdx j) (by simpa using w1) b1 c2 c3 c4 c1 r6 (by
            rcases hoo with hoo|hoo
            ·exact .inl ⟨hoo,λa ha=>.inl (ff.subset ha)⟩
            ·refine .inr ⟨hoo,hoo,?_,λa ha=>.inl (ff.subset ha)⟩;unfold Sl.own at yn;rw[hoo,c3]at yn;exact ff.nodup (List.nodup_cons.mp yn).2)
           have ke:∀a o,H1 a=some o->a≠l->upd H1 l (.lst (xs.eraseIdx j)) a=some o:=λa o e ne=>by rw[kz ne];exact e
           have rp2:RepL Z.K (upd H1 l (.lst (xs.eraseIdx j))) false d vv []:=by
            refine rp.kp ⟨λa zs e=>ke a _ e λz=>?_,λa o u e=>ke a _ e λz=>?_,λa ha=>nomatch ha⟩
            ·subst z;rw[c2]at e;cases e
            ·subst z;rw[c2]at e;cases e
           have mm:=m1.set (x:=⟨y.o,.lst (ds.eraseIdx j),y.v,l::cs⟩) i;rw[XQ b4]at mm;refine k _ _ rfl ⟨.dp,d,vv,[]⟩ _ _ rfl rfl (by rw[<-b2];exact mm) (w3.consPu rp2 rfl) (Q6 (x:=⟨.dp,d,vv,[]⟩) (st.trans (by simpa using s3)) (λb hb=>nomatch hb) rfl) λz=>nomatch z
       |_=>rw[hs]at h1;cases h1
      |_=>cases h1
   |_=>rw[h0]at hc;cases hc
end
end Q
namespace L3
open PySem PySem.Spec PyProof.Rows L2
def tX(X:Cx)(x:Addr):Cx:={ X with A:=X.A.mark (some (.ref x)),calm:=false,xe:=λ_ _=>False }
abbrev exO(o:Obj):HO:=.frz o (.ext λ_=>True)
section
variable {X:Cx}{pins:List (Addr×Obj)}{O:L2.St}{H:Hp}{s:Shared}{x:Addr}{ox:Obj}
theorem vki(I:Inv X pins O H s):Inv (tX X x) pins O H s:=
 ⟨⟨I.ok.mod,I.ok.kind,I.ok.glob,I.ok.blt,I.ok.above,I.ok.inj,I.ok.has,I.ok.cab,λz=>(by cases z),I.ok.frames,I.ok.stk,I.ok.exf,I.ok.bs,I.ok.bsz,I.ok.noex,I.ok.exfs,I.ok.funs,I.ok.frf⟩,I.os,I.bare,I.base,I.loc,I.cell,I.free,I.freeC,I.pin,I.hok,I.len⟩
theorem vw2(ok:X.Ok)(I:Inv (tX X x) pins O H s):Inv X pins O H s:=⟨ok,I.os,I.bare,I.base,I.loc,I.cell,I.free,I.freeC,I.pin,I.hok,I.len⟩
theorem vw3(I:Inv X pins O H s)(e:s.heap.get? x=some ox)(f:FpX X pins H x):Inv X pins O (upd H x (exO ox)) s:=by
 obtain⟨hn,f1,f2,f3,f4,f5⟩:=f;refine⟨I.ok,I.os,I.bare,⟨I.base.keep,I.base.slot,λb o q n hx=>?_,I.base.there,λb xs q=>?_,λb o u q=>?_,λb ps q=>?_⟩,I.loc,I.cell,?_,λy c q=>?_,λp hp=>?_,λb u q=>?_,I.len⟩
 ·have hb:b≠x:=by
   rintro rfl;rcases f3 with z|z
   ·exact hx z
   ·rw[z]at q;cases q
  rw[kz hb];exact I.base.free b o q n hx
 ·have:=I.base.tups b xs q;rw[kz (wY this hn)];exact this
 ·have:=I.base.frzs b o u q;rw[kz (wY this hn)];exact this
 ·obtain⟨more,this⟩:=I.base.tbls b ps q;exact⟨more,by rw[kz (wY this hn)];exact this⟩
 ·rw[kz (Zi f1)];exact I.free
 ·rw[kz (f4 y c q)];exact I.freeC y c q
 ·obtain⟨a1,a2,a3⟩:=I.pin p hp;exact⟨a1,by rw[kz (f5 p hp)];exact a2,a3⟩
 ·by_cases hb:b=x
  ·subst hb;rw[vK]at q;cases q;exact⟨e,trivial,⟨_,e⟩,λ_ _ _ _=>trivial⟩
  ·rw[kz hb]at q;exact(I.hok b u q).stay (λc v _ q=>q) (λc q=>by rw[kz (wY q hn)];exact q) λc xs q=>by rw[kz (wY q hn)];exact q
end
abbrev vxl(K:Frag)(UC:Addr)(i:Nat)(tb:XK->TS)(ts:TS):TS:=λD O H=>∃E:XK,tb E D O H/\∀x Cv H',E Cv none H'->H' x=none->∃C,Cv=.ref C/\PySem.W.exmOne K (.ref C) (.ref UC)=some true/\XCls K C /\
 ∀o,ExAt K x o C->ts { nx:=fun σ' H''=>D.nx (σ'.set i none) H'',rt:=D.rt,bk:=fun σ' H''=>D.bk (σ'.set i none) H'',ct:=fun σ' H''=>D.ct (σ'.set i none) H'' } (O.set i (some (.ref x))) (upd H' x (exO o))
theorem vqz{X:Cx}{ux n:Str}{np jt pos:Pos}{UC:Addr}{i:Nat}{st b0:Stmt}{gi:List Stmt}{tb:XK->TS}{ts:TS}(hN:X.N.Nodup)(hi:X.N[i]?=some n)(hk:X.env.scope.names.lookup n=some .local)(top:xK X)(hU:X.mg ux=some (.ref UC))(hb:PSX X st tb)
  (hs:∀x,PSs (tX X x) (b0::gi) ts) (hg:autoParam (Gl X ux) Ŕ) (db:autoParam ((ux==("__debug__":Str))=false) ŕ):
  PS X (.Try [st] [.ExceptHandler (some (.Name ux np)) (some n) (b0::gi) jt] [] [] pos) (vxl X.K UC i tb ts):=by
 intro pins s O H D I ⟨E,h1,h2⟩;refine wpAny_Try_except (wpAny_execs_cons (Yx (hb E pins s O H D I h1) (λf s1 q=>?_) (λe s1 q=>?_)))
 ·cases f with|next=>exact Za (Za q)|ret v=>exact q|brk=>exact q|cont=>exact q
 ·obtain⟨H',x,Cv,rfl,I1,f1,q1⟩:=q;refine kzr top rfl I1 f1 λL T s2 _ t2=>ZQ t2 λs3 t3=>?_
  obtain⟨C,rfl,hm,xc,ht⟩:=h2 x Cv H' q1 t3.fx.1;refine wpAny_handleBy_cons (codeAny_handlers_test ?_) (λz=>nomatch z);obtain⟨vs,ho,hv⟩:=t3.f.ex;have I3:Inv (tX X x) pins O H' s3:=vki t3.inv;refine WX I3 hg hU ?_ db;have at3:PySem.W.InstAt s3.heap x { cls:=.ref C,data:=.fields vs } C none:=⟨ho,rfl,rfl,trivial⟩;refine Lk (PySem.W.exm_one t3.inv.kIn at3.type hm) ?_;show codeAny _ _ _ _ s3;refine codeAny_handlers_suite_as (ZQ t3 λs4 t4=>?_);obtain⟨vs4,ho4,hv4⟩:=t4.f.ex;have I4:Inv (tX X x) pins O (upd H' x (exO { cls:=.ref C,data:=.fields vs4 })) s4:=vki (vw3 t4.inv ho4 t4.fx);refine WV (X:=tX X x) I4 hN hi (.inl hk) (v:=.ref x) (u:=.ref x) rfl (λs5 I5=>?_) (.inr hk);refine Yx (hs x pins s5 _ _ _ I5 (ht _ ⟨rfl,rfl,rfl,xc⟩)) (λf s6 q=>?_) λ_ _ z=>z.elim
  have bk:∀{σ6:L2.St} {H6:Hp},Inv (tX X x) pins σ6 H6 s6->Inv X pins σ6 H6 s6:=λz=>vw2 I.ok z
  show wpAny _ _ _ _ _ s6;cases f with
  |next=>
   obtain⟨σ6,H6,I6,q6⟩:=q;exact jx6 (bk I6) hN hi hk λs7 I7=>⟨_,_,I7,q6⟩
  |brk=>
   obtain⟨σ6,H6,I6,q6⟩:=q;exact jx6 (bk I6) hN hi hk λs7 I7=>⟨_,_,I7,q6⟩
  |cont=>
   obtain⟨σ6,H6,I6,q6⟩:=q;exact jx6 (bk I6) hN hi hk λs7 I7=>⟨_,_,I7,q6⟩
  |ret v=>
   obtain⟨v',σ6,H6,I6,r6,q6⟩:=q;exact jx6 (bk I6) hN hi hk λs7 I7=>⟨v',_,_,I7,r6,q6⟩
def wqv(K:Frag):List V->Hp->VK->Prop:=λxs H Q=>∃x o C b,ExAt K x o C/\H x=some (exO o)/\((∃U,xs=[.ref x,.ref U]/\kitOne K (.ref C) (.ref U)=some b)\/∃U,xs=[.ref x,.ty U]/\kitOne K (.ref C) (.type U)=some b)/\Q (.bl b) H
theorem vjg{X:Cx}:CallR X (.builtin "isinstance") (wqv X.K):=by
 intro pins s O H xs us Q I r ⟨x,o,C,b,a,e,h,q⟩;have px:s.heap.get? x=some o:=(show ObjOk X.prog X.w H s.heap x (exO o)from I.hok x _ e).1;have b8:∃o,PySem.W.InstAt s.heap x o C none:=⟨o,px,a.cls,a.no,by rw[a.di];trivial⟩;rcases h with⟨U,rfl,hk⟩|⟨U,rfl,hk⟩
 ·obtain⟨u1,u2,rfl,e1,e2⟩:=vq5 r;cases e1;cases e2;exact PySem.W.kia_one (kqh a.xc) I.kIn b8 hk (λz=>nomatch z) λtk=>⟨.bl b,H,I.tok _,rfl,q⟩
 ·obtain⟨u1,u2,rfl,e1,e2⟩:=vq5 r;cases e1;cases(show u2=Value.type U from e2);exact PySem.W.kia_one (kqh a.xc) I.kIn b8 hk (λz=>nomatch z) λtk=>⟨.bl b,H,I.tok _,rfl,q⟩
end L3
namespace Q
open PySem PySem.Spec PyProof.Rows L2 L3
theorem jxd:bootBuiltins "ValueError"=some (.type "ValueError"):=by decide +kernel
theorem qks{K:Frag}{C:Addr}(ga:findIn K (.ref C) "__getattribute__"=some (some (.builtin "BaseException.__getattribute__")))(gt:findIn K (.ref C) "__getattr__"=some none)(fa:findIn K (.ref C) "__class__"=some (some (.builtin "object.__class__")))
  (fg:PySem.W.specialIn K (.builtin "object.__class__") "__get__"=some (some (.builtin "getset_descriptor.__get__"))) (ft:PySem.W.takesIn K (.builtin "object.__class__")=some true) (ob:PySem.W.mroIn K C (.type "object")=some true) (bx:PySem.W.mroIn K C (.type "BaseException")=some true) (cl:PySem.W.isClsIn K C=true):XCls K C:=
 ⟨ga,gt,by
  obtain⟨cd,hc⟩:=Option.isSome_iff_exists.mp (show(PySem.W.clsIn K C).isSome=true from cl);unfold PySem.W.findObj;rw[hc,Option.bind_some,fa,Option.bind_some];simp[fg,ft],ob,bx,cl⟩
def KK(K:Frag)(u:V)(t:List (Str×Bool)):Prop:=∀c b,t.lookup c=some b->∃C,nsIn K mainGlobals c=some (some (.ref C))/\((∃U,u=.ref U/\kitOne K (.ref C) (.ref U)=some b)\/∃U,u=.ty U/\kitOne K (.ref C) (.type U)=some b)
theorem W9{K:Frag}{u:V}:KK K u []:=λ_ _ z=>nomatch z
theorem qj0{K:Frag}{u:V}{c:Str}{b:Bool}{C:Addr}{t:List (Str×Bool)}(h:nsIn K mainGlobals c=some (some (.ref C)))(k:(∃U,u=.ref U/\kitOne K (.ref C) (.ref U)=some b)\/∃U,u=.ty U/\kitOne K (.ref C) (.type U)=some b)(r:KK K u t):KK K u ((c,b)::t):=λc' b' z=>by
 rw[Yy]at z
 split at z
 ·rename_i e;cases eq_of_beq e;cases z;exact⟨C,h,k⟩
 ·exact r c' b' z
theorem Qx{K:Frag}{c:Str}{b:Bool}{C U:Addr}{t:List (Str×Bool)}(h:nsIn K mainGlobals c=some (some (.ref C)))(k:kitOne K (.ref C) (.ref U)=some b)(r:KK K (.ref U) t):KK K (.ref U) ((c,b)::t):=qj0 h (.inl ⟨U,rfl,k⟩) r
theorem kzz{K:Frag}{c:Str}{b:Bool}{C:Addr}{U:String}{t:List (Str×Bool)}(h:nsIn K mainGlobals c=some (some (.ref C)))(k:kitOne K (.ref C) (.type U)=some b)(r:KK K (.ty U) t):KK K (.ty U) ((c,b)::t):=qj0 h (.inr ⟨U,rfl,k⟩) r
theorem wqg{K:Frag}{u:V}{t:List (Str×Bool)}(ht:KK K u t):Ad1 K (λv H Q=>wqv K [v,u] H Q) (pu1 (v6 t)):=by
 intro H x s Q ok hf k;have ok:=RepO.wk ok;unfold pu1 at hf;obtain⟨o,d,v,as⟩:=x;cases d with
 | obj c fs=>
  unfold v6 at hf;cases hl:t.lookup c with
  |none=>simp only[hl]at hf;cases hf
  |some b=>
   simp only[hl]at hf;cases oq9 hf;dsimp only at ok;unfold RepL at ok;obtain⟨e0,x,ob,C,rfl,h1,h2,h3⟩:=ok;obtain⟨C',h4,h5⟩:=ht c b hl;rw[h3]at h4;cases oq9 (oq9 h4);refine⟨x,ob,C,b,h2,h1,?_,k ⟨.dp,.bl b,.bl b,[]⟩ H rfl rfl wX⟩;rcases h5 with⟨U,rfl,h5⟩|⟨U,rfl,h5⟩
   ·exact .inl ⟨U,rfl,h5⟩
   ·exact .inr ⟨U,rfl,h5⟩
 |_=>cases hf
section
variable {X:Cx}{Z:Fx0}{pn:List Nat}{q:Bool}{a b c:Ex}{e ea eb:Expr}{es:List Expr}{pos p p2:Pos}{t:List (Str×Bool)}{y:Str}{u:V}
theorem Wv(ha:QV X Z q a ea)(hm:X.mg "isinstance"=none)(hu:PE X (.Name y p2) (tC u))(hK:X.K=Z.K)(ht:KK X.K u t)(hg:autoParam (Gl X "isinstance") Ŕ)
  (he:autoParam (starEach [ea,.Name y p2] X.env=(false,eval ea X.env)::starEach [.Name y p2] X.env) Ŕ) (he2:autoParam (starEach [.Name y p2] X.env=(false,eval (.Name y p2) X.env)::starEach [] X.env) Ŕ) (bp:autoParam ((backTo pos (starEach [.Name y p2] X.env)).any (·.1)=false) Ŕ):
  QE X Z q (cF1 (pu1 (v6 t)) a) (.Call (.Name "isinstance" p) [ea,.Name y p2] [] pos):=by
 rw[hK]at ht;have hc:CallR X (.builtin "isinstance") (wqv Z.K):=hK▸vjg;exact qx (kq6 hc hg hm jxc (qZ ha (qZ hu wq he2) he) ⋯ ⋯ he bp) fun O H Q h=>WK (r:=λv H Q=>wqv Z.K [v,u] H Q) (wqg ht) h
theorem qqq{x:Str}{C:Addr}{z:Str}{np az:Pos}(c:ECls X.K X.mg x C)(hm:Z.mg x=some (.ref C))(g:wV X Z.EX)(hz:PE X e (tC (.str z)))(hg:autoParam (Gl X x) Ŕ)(hc:autoParam (X.calm=true) Ŕ)(db:autoParam ((x==("__debug__":Str))=false) ŕ)
  (he:autoParam (starEach [e] X.env=(false,eval e X.env)::starEach [] X.env) Ŕ) (bp:autoParam (((backTo az (starEach [e] X.env)).any (·.1))=false) Ŕ):
  QS X Z pn (sRz x) (.Raise (some (.Call (.Name x np) [e] [] az)) none pos):=zQ (qzc c g (qZ hz wq he) hg hc db he bp) λD O H b7=>ex7 b7 λE L r m w hr k=>by
 cases oq9 hr;exact⟨show(1:Nat)<=sizeLine by decide,k C O L H hm Pn.refl m w Step.refl⟩
def QEX(X:Cx)(Z:Fx0)(q:Bool)(c:Ex)(e:Expr):Prop:=PEX X e λEX=>tQ ⟨Z.K,Z.mg,EX⟩ q c
theorem qv3{t t':XK->TE}(h:PEX X e t)(w:∀E O H Q,t' E O H Q->t E O H Q):PEX X e t':=λE pins s O H Q I q=>h E pins s O H Q I (w E O H Q q)
theorem vqo{k n:Nat}{x:Str}{ps:List Str}{f:Fn}{cs:List Ex}(D:kY X.prog X.w X.K X.mg X.base k x ps (spF Z.K Z.mg n f))(hr:Room k X.A)(ha:QA X.nox ⟨Z.K,Z.mg,λ_ _ _=>False⟩ q cs (e::es))(hn:autoParam (cs.length=n) Ŕ)(hg:autoParam (Gl X x) Ŕ)(db:autoParam ((x==("__debug__":Str))=false) ŕ)
  (he:autoParam (starEach (e::es) X.env=(false,eval e X.env)::starEach es X.env) Ŕ) (bp:autoParam ((backTo pos (starEach es X.env)).any (·.1)=false) Ŕ):
  QEX X Z false (JV f cs) (.Call (.Name x p) (e::es) [] pos):=qv3 (qzf D hr ha hg db he bp) λEX O H Q b7=>ex8 b7 λE L r m w hc xc kk=>by
 have hc:JV f cs E=some r:=hc;unfold JV at hc
 split at hc
 ·rename_i E1 ys hA;refine⟨E,L,_,m,w,hA,(λ_ _ z=>by cases z),λE' ys' z xs L1 H1 e1 m1 w1 st sm=>?_⟩;injection z with z1 z2;subst z1 z2;show spF _ _ _ _ _ _ _ _;rw[Xr];have av:xs.length=n:=by
   rw[<-hn];have:ys.length=cs.length:=jw7 hA;rw[<-this,<-e1,X4]
  cases hf:f (letAll ys)with
  | none=>rw[hf]at hc;cases hc
  | some fr=>
   rw[hf]at hc;obtain⟨wl,sl⟩:=jxj w1;have ev:xs.map Sl.v=(xs.map Sl.let).map Sl.v:=by rw[Xs];rfl
   rw[ev];refine⟨xs.map Sl.let,fr,rfl,by rw[X4];exact av,wl.left,by rw[<-e1]at hf;rw[kxj];exact hf,λE' c ee C H' hm s'=>?_,λE' a ee y H' e2 e3 w' s'=>?_⟩
   ·subst ee;cases oq9 hc;obtain⟨w2,s2⟩:=stay wl s' ⟨λ_ z=>(nomatch z),Y4,λ_ z=>(nomatch z)⟩;exact xc _ _ rfl C L1 H' hm m1 w2 ((st.trans sl).trans s2)
   ·subst ee;cases oq9 hc;obtain⟨w2,s2⟩:=stay wl s' w';exact kk _ _ rfl y L1 H' e2 e3 m1 w2 ((st.trans sl).trans s2) λhq=>nomatch hq
 ·cases hc
theorem Mt.unset:∀{E:En} {O:L2.St} {L:Ls} (i:Nat),Mt E O L->Mt (E.set i none) (O.set i none) (L.set i none)
 |_,_,_,_,.nil=>.nil|_,_,_,0,.un m=>.un m|_,_,_,0,.cons m=>.un m|_,_,_,i+1,.un m=>.un (Mt.unset i m)|_,_,_,i+1,.cons m=>.cons (Mt.unset i m)
theorem YX:∀(L:Ls) (i:Nat),(sls (L.set i none)).Sublist (sls L)
 |[],_=>Yp _|none::L,0=>Yp _|some x::L,0=>List.Sublist.cons _ (Yp _)|none::L,i+1=>YX L i|some x::L,i+1=>List.Sublist.cons_cons _ (YX L i)
theorem World.unset{K:Frag}{H:Hp}{L:Ls}{i:Nat}(w:World K H L):World K H (L.set i none):=w.sub (YX L i)
theorem Step.unset{H H':Hp}{L L':Ls}{i:Nat}(s:Step H L H' L'):Step H L H' (L'.set i none):=s.sub (YX L' i)
theorem World.unset1{K:Frag}{H:Hp}{L:Ls}{x:Sl}{i:Nat}(w:World K H (some x::L)):World K H (some x::L.set i none):=w.sub (List.Sublist.cons_cons _ (YX L i))
theorem Step.unset1{H H':Hp}{L L':Ls}{x:Sl}{i:Nat}(s:Step H L H' (some x::L')):Step H L H' (some x::L'.set i none):=s.sub (List.Sublist.cons_cons _ (YX L' i))
def kwu(K:Frag)(mg:Str->Option Value)(UC:Addr)(cs:List Str):Prop:=∀c∈cs,∃C,mg c=some (.ref C)/\nsIn K mainGlobals c=some (some (.ref C))/\PySem.W.exmOne K (.ref C) (.ref UC)=some true/\XCls K C
theorem qki{K:Frag}{mg:Str->Option Value}{UC:Addr}:kwu K mg UC []:=λ_ z=>nomatch z
theorem kjr{K:Frag}{mg:Str->Option Value}{UC C:Addr}{c:Str}{cs:List Str}(e:ECls K mg c C)(h:nsIn K mainGlobals c=some (some (.ref C)))(k:PySem.W.exmOne K (.ref C) (.ref UC)=some true)(r:kwu K mg UC cs):kwu K mg UC (c::cs):=λc' hc=>by
 rcases aD hc with rfl|hc
 ·exact⟨C,e.bd,h,k,e.xc⟩
 ·exact r c' hc
theorem qxo{UC:Addr}{i:Nat}{cs:List Str}{B h:Sm}{tb:XK->TS}{D:Ends}{O:L2.St}{H:Hp}(hK:X.K=Z.K)(ca:kwu X.K Z.mg UC cs)(hp:i∉pn)
  (hb:∀(EX:XK) E L r,Mt E O L->World Z.K H L->B E=some r->(∀E' c,r=.xc E' c->∀C L' H',Z.mg c=some (.ref C)->Mt E' O L'->World Z.K H' L'->Step H L H' L'->EX (.ref C) none H')->((∀E' c,r≠.xc E' c)->FlP Z pn D O H L r)->tb EX D O H)
  (hr:tS Z pn (zq cs i B h) D O H):vxl X.K UC i tb (tS ⟨Z.K,Z.mg,λ_ _ _=>False⟩ pn h) D O H:=by
 obtain⟨E,L,r,m,w,hr,k⟩:=hr;have hr:zq cs i B h E=some r:=hr;cases hB:B E with
 | none=>unfold zq at hr;rw[hB]at hr;cases hr
 | some rb=>
  refine⟨λCv _ H'=>∃E1 c C L1,rb=.xc E1 c/\Cv=.ref C/\Z.mg c=some (.ref C)/\Mt E1 O L1/\World Z.K H' L1/\Step H L H' L1,hb _ E L rb m w hB (λE' c e C L' H' hm m' w' st=>⟨E',c,C,L',e,rfl,hm,m',w',st⟩) (λbt=>?_),?_⟩
  ·unfold zq at hr;rw [hB]at hr;cases rb with| xc E1 c1=>exact absurd rfl (bt E1 c1)| nx E1=>cases oq9 hr;exact k| ct E1=>cases oq9 hr;exact k| bk E1=>cases oq9 hr;exact k| rt E1 x=>cases oq9 hr;exact k
  ·rintro x Cv H' ⟨E1,c,C,L1,rfl,rfl,hm,m1,w1,fz⟩ hx;unfold zq at hr;rw [hB]at hr;dsimp only at hr
   by_cases hc:c∈cs
   ·rw[X8 hc]at hr;obtain⟨C',g1,g2,g3,g4⟩:=ca c hc;rw[hm]at g1;cases oq9 g1;refine⟨C,rfl,g3,g4,λo b8=>?_⟩;have sm:k8 H' (upd H' x (exO o)):=vq hx
    let y:Sl:=⟨.no,.obj c [],.ref x,[]⟩
    have wy:World Z.K (upd H' x (exO o)) (some y::L1):=by
     refine World.consPu ⟨λt ht=>RepO.kp (w1.ok t ht) (Kp.of_same sm),w1.nd,w1.ds⟩ ?_ rfl;show RepL Z.K _ true (.obj c []) (.ref x) [];unfold RepL;exact⟨rfl,x,o,C,rfl,vK,hK▸b8,hK▸g2⟩
    have sy:Step H L (upd H' x (exO o)) (some y::L1):=by
     refine⟨λb ob q hn=>sm b ob (fz.keep b ob q hn),λb hb=>fz.own b (by rw[kw]at hb;exact hb),λb hb=>fz.frz b (by rw[v9]at hb;exact hb)⟩
    cases h2:h (E1.set i (some (.no,.obj c [])))with
    | none=>rw[h2]at hr;cases hr
    | some r2=>
     rw[h2]at hr;refine⟨_,_,r2,W3 (x:=y) m1 rfl rfl,wy.set,h2,?_⟩;have sy2:Step H L (upd H' x (exO o)) (L1.set i (some y)):=sy.trans Step.set;have pp:Pn pn O (O.set i (some (V.ref x))):=Pn.refl.set hp;cases r2 with
     |nx E2=>
      cases oq9 hr;intro σ' L' H2 p' m' w' ef;exact k _ _ H2 ((pp.trans p').set hp) (Mt.unset i m') w'.unset (sy2.trans ef).unset
     |ct E2=>
      cases oq9 hr;intro σ' L' H2 p' m' w' ef;exact k _ _ H2 ((pp.trans p').set hp) (Mt.unset i m') w'.unset (sy2.trans ef).unset
     |bk E2=>
      cases oq9 hr;intro σ' L' H2 p' m' w' ef;exact k _ _ H2 ((pp.trans p').set hp) (Mt.unset i m') w'.unset (sy2.trans ef).unset
     |rt E2 a2=>
      cases oq9 hr;intro z σ' L' H2 e1 e2 p' m' w' ef;exact k z _ _ H2 e1 e2 ((pp.trans p').set hp) (Mt.unset i m') w'.unset1 (sy2.trans ef).unset1
     |xc E2 c2=>cases hr
   ·rw[Xb hc]at hr;cases hr
end
end Q
namespace Q
open PySem PySem.Spec PyProof.Rows L2 L3
section
variable {X:Cx}{pins:List (Addr×Obj)}{O:L2.St}{H:Hp}{s:Shared}{a b:Addr}{es:List Ent}{A:Around}{E:Value->Shared->Prop}{k:Kd}
mutual
theorem W4(I:Inv X pins O H s):∀{d:D} {v:V} {u:Value},PuR X.K H d v->RelV v u->jw s.heap d u
 |.non,_,_,h,r=>by unfold PuR at h;rw[h]at r;unfold jw;exact r|.int _,_,_,h,r=>by unfold PuR at h;rw[h]at r;unfold jw;exact r
 |.tup ds,_,_,h,r=>by
  unfold PuR at h;obtain⟨a,xs,rfl,q,ra⟩:=h;cases r;obtain⟨ah,rv,p,_⟩:=I.tuple q;unfold jw;exact⟨a,ah,rfl,p,purs_creps I ra rv⟩
 |.bl _,_,_,h,_=>by unfold PuR at h;exact h.elim|.str _,_,_,h,_=>by unfold PuR at h;exact h.elim|.lst _,_,_,h,_=>by unfold PuR at h;exact h.elim|.dct _,_,_,h,_=>by unfold PuR at h;exact h.elim|.obj _ _,_,_,h,_=>by unfold PuR at h;exact h.elim
theorem purs_creps(I:Inv X pins O H s):∀{ds:List D} {xs:List V} {us:List Value},PuRs X.K H ds xs->Vals xs us->CReps s.heap ds us
 | [],_,_,h,r=>by unfold PuRs at h;rw[h]at r;cases r;unfold CReps;rfl
 | d::ds,_,_,h,r=>by
  unfold PuRs at h;obtain⟨x,rr,rfl,h1,h2⟩:=h;cases r with
  |cons r1 r2=>
   unfold CReps;exact⟨_,_,rfl,W4 I h1 r1,purs_creps I h2 r2⟩
end
mutual
theorem vk5{K:Frag}{g:Bool}:∀{n:Nat} {d:D} {v:V} {as:List Addr},jV n d=true->RepL K H g d v as->PuR K H d v
 |_,.non,_,_,_,h=>by unfold RepL at h;unfold PuR;exact h.1|_,.int _,_,_,_,h=>by unfold RepL at h;unfold PuR;exact h.1|0,.tup _,_,_,hk,_=>by unfold jV at hk;cases hk
 |n+1,.tup ds,_,_,hk,h=>by
  unfold jV at hk;unfold RepL at h;obtain⟨a,xs,e,q,ra⟩:=h;unfold PuR;exact⟨a,xs,e,q,purs_of hk ra⟩
 |n,.bl _,_,_,hk,_=>by cases n<;>(unfold jV at hk;cases hk)|n,.str _,_,_,hk,_=>by cases n<;>(unfold jV at hk;cases hk)|n,.lst _,_,_,hk,_=>by cases n<;>(unfold jV at hk;cases hk)|n,.dct _,_,_,hk,_=>by cases n<;>(unfold jV at hk;cases hk)|n,.obj _ _,_,_,hk,_=>by cases n<;>(unfold jV at hk;cases hk)
theorem purs_of{K:Frag}{g:Bool}:∀{n:Nat} {ds:List D} {xs:List V} {as:List Addr},keyDs n ds=true->RepA K H g ds xs as->PuRs K H ds xs
 |_,[],_,_,_,h=>by unfold RepA at h;unfold PuRs;exact h.1
 |n,d::ds,_,_,hk,h=>by
  unfold keyDs at hk;rw[Bool.and_eq_true]at hk;unfold RepA at h;obtain⟨x,r,bs,cs,rfl,rfl,h1,h2⟩:=h;unfold PuRs;exact⟨x,r,rfl,vk5 hk.1 h1,purs_of hk.2 h2⟩
end
theorem qj9{ep:Nat}(I:Inv X pins O H s)(h:H a=some (qV a es ep))(hn:(es.map (·.1)).Nodup)(hk:∀x∈es,PuR X.K H x.1.1 (.ref x.2.1)):s.heap.DictOfH (ZW X.prog X.w) a es:=by
 obtain⟨⟨o,ds,h1,h2,h3,h4⟩,_⟩:=(show ObjOk X.prog X.w H s.heap a (qV a es ep)from I.hok a _ h);exact⟨o,ds,ep,h1,h2,h3,h4,λx hx=>W4 I (hk x hx) rfl,hn⟩
theorem qxb:∀(es:List Ent) (k:Kd),(atKey es k).isSome=decide (k.1∈es.map (·.1.1))
 | [],k=>by simp[atKey]
 | x::es,k=>by
  have ih:=qxb es k
  by_cases h:x.1=k
  ·have:k.1∈(x::es).map (·.1.1):=by rw[<-h];simp
   rw[Xl this];simp[atKey,Yl,h]
  ·have e1:atKey (x::es) k=atKey es k:=by simp[atKey,Yl,h]
   have e2:(k.1∈(x::es).map (·.1.1))↔k.1∈es.map (·.1.1):=by
    rw[List.map_cons,Y6];exact⟨λz=>z.elim (λq=>absurd (Subtype.ext q.symm) h) id,.inr⟩
   rw[e1,ih];exact decide_eq_decide.mpr e2.symm
theorem kx4(hu:A.units+64<cLine):(ZW X.prog X.w).room A.in1:=by show A.units+1+40<cLine;omega
theorem qws{ks:List D}{vs:List V}{Q:Value->Shared->Prop}(hu:A.units+64<cLine)(I:Inv X pins O H s)(d:DcN X.K H a ks vs)(hk:PuR X.K H k.1 (.ref b))(h:∀s',Inv X pins O H s'->Q (.bool (!decide (k.1∈ks))) s'):wpAny (model X.prog X.w) A (compareOp .NotIn (.ref b) (.ref a)) Q E s:=by
 obtain⟨es,ep,e,h1,h2,h3,rfl,h5,h6⟩:=d;refine wpAny_notIn_heap (knd:=ZW X.prog X.w) (kx4 hu) (W4 I hk rfl) h1 (qj9 I e h3 h5) ?_;rw[qxb];exact h _ (I.tok _)
end
def wxn(K:Frag)(jf:Bool):R2:=λx y H Q=>∃(k:Kd) (b a:Addr) (ks:List D) (vs:List V),x=.ref b/\y=.ref a/\PuR K H k.1 (.ref b)/\DcN K H a ks vs/\Q (.bl (if jf then !decide (k.1∈ks)else decide (k.1∈ks))) H
theorem qzm{X:Cx}{K:Frag}(hu:X.A.units+64<cLine)(hK:autoParam (X.K=K) Ŕ):OpR X (compareOp .NotIn) (wxn K true):=by
 subst hK;intro pins s O H x y u v Q I rx ry ⟨k,b,a,ks,vs,e1,e2,hk,hd,q⟩;subst e1 e2;cases rx;cases ry;exact qws hu I hd hk λs' I'=>⟨.bl _,H,I',rfl,q⟩
theorem wq2{K:Frag}{H:Hp}{y:Sl}{kvs:List (D×D)}(ok:y.ok K H)(hd:y.d=.dct kvs)(hu:unm kvs=true):∃a xs,y.v=.ref a/\DcN K H a (kvs.map (·.1)) xs:=by
 have h:=RepO.wk ok;rw[hd]at h;unfold RepL at h;obtain⟨a,xs,bs,e,_,q,_⟩:=h;exact⟨a,xs,e,DcA.un q hu⟩
theorem jwe{K:Frag}{H:Hp}{x:Sl}(ok:x.ok K H)(hk:v4 x.d=true):∃b,x.v=.ref b/\PuR K H x.d (.ref b):=by
 unfold v4 at hk;rw[Bool.and_eq_true]at hk;have h:=vk5 hk.1 (RepO.wk ok);cases hd:x.d with
 |tup ds=>
  rw[hd]at h;have h':=h;unfold PuR at h;obtain⟨a,xs,e,_⟩:=h;exact⟨a,e,e▸h'⟩
 |_=>rw[hd]at hk;cases hk.2
theorem qxf{K:Frag}:Ad2 K (wxn K true) (pu2 W0):=by
 intro H x y s Q ox oy hf k;unfold pu2 W0 at hf;dsimp only at hf;cases hy:y.d with
 | dct kvs=>
  rw[hy]at hf;dsimp only at hf
  by_cases hk:v4 x.d=true/\unm kvs=true
  ·rw[X8 hk]at hf;cases oq9 hf;obtain⟨a,xs,e,q⟩:=wq2 oy hy hk.2;obtain⟨b,eb,pb⟩:=jwe ox hk.1;have ji:jV 6 x.d=true:=by have hk:=hk.1;unfold v4 at hk;rw[Bool.and_eq_true]at hk;exact hk.1
   exact⟨⟨x.d,ji⟩,b,a,_,xs,eb,e,pb,q,k ⟨.dp,.bl _,.bl _,[]⟩ H rfl rfl wX⟩
  ·rw[Xb hk]at hf;cases hf
 |_=>rw[hy]at hf;cases hf
theorem qx8(x y s:Sd)(h:pu2 W0 x y=some s):∃k,s.2=.bl k:=by
 unfold pu2 W0 at h;cases hy:y.2 with
 |dct kvs=>
  rw[hy]at h;dsimp only at h
  by_cases hk:v4 x.2=true/\unm kvs=true
  ·rw[X8 hk]at h;cases oq9 h;exact⟨_,rfl⟩
  ·rw[Xb hk]at h;cases h
 |_=>rw[hy]at h;cases h
theorem vwj{P:Program}{w:PySem.World}{H:Hp}(h:Heap):ObjOk P w H (h.push { cls:=.type "dict",data:=.dict #[] }) h.objs.size (qV h.objs.size [] 0):=
 ⟨⟨_,#[],X6 _ rfl,⟨rfl,rfl,rfl⟩,rfl,rfl⟩,⟨_,X6 _ rfl⟩,λh1 h2 ⟨o,ds,a1,a2⟩ k=>⟨o,ds,k o a1,a2⟩⟩
end Q
namespace Q
open PySem PySem.Spec PyProof.Rows L2 L3
section
variable {K:Frag}{H:Hp}{g:Bool}{k:Kd}{b:Addr}{d:D}{x:V}{r:Value}{cs:List Addr}
theorem qqe (hx : RepL K H g d x cs) (hr : RelV x r): ∀{kvs : List (D × D)} {xs : List V} {bs : List Addr} {es : List Ent}, RepP K H g kvs xs bs -> kvs.map (·.1) = es.map (·.1.1) -> Vals xs (es.map (·.2.2)) ->
    ∃ xs' dn, RepP K H g (kvs.map λe=>if e.1 = k.1 then(k.1, d)else e) xs' dn /\ Vals xs' ((es.map (putAt k r)).map (·.2.2)) /\ ∀a ∈ dn, a ∈ bs \/ a ∈ cs
  | [], _, _, [], h, _, _=>⟨[], [], by unfold RepP; exact⟨rfl, rfl⟩, Paired.nil, λ_ z=>nomatch z⟩| [], _, _, _::_, _, h, _=>by simp at h| _ :: _, _, _, [], _, h, _=>by simp at h
  | (q, e)::kvs, _, _, n::es, h, hk, hv=>by
    unfold RepP at h;obtain⟨y, rr, b1, b2, rfl, rfl, h1, h2⟩:= h;rw [List.map_cons, List.map_cons]at hk;injection hk with k1 k2;rw [List.map_cons]at hv;cases hv with
    | cons v1 v2=>
      obtain⟨xs', dn, i1, i2, i3⟩:= qqe hx hr h2 k2 v2
      by_cases hq : q = k.1
      · have hn : n.1 = k:= Subtype.ext (by rw[<-hq]; exact k1.symm)
        refine⟨x::xs', cs ++ dn, ?_, ?_, λa ha=> ?_⟩
        · rw[List.map_cons, X8 hq]
          unfold RepP;exact⟨x, xs', cs, dn, rfl, rfl, hx, i1⟩
        · rw[List.map_cons, List.map_cons]
          refine .cons ?_ i2;unfold putAt;rw[X8 hn];exact hr
        · rcases aA ha with z|z
          · exact .inr z
          · exact(i3 a z).imp (lr9 _) id
      · have hn : ¬n.1 = k:= λz=>hq (by rw[<-z]; exact k1)
        refine⟨y::xs', b1 ++ dn, ?_, ?_, λa ha=> ?_⟩
        · rw[List.map_cons, Xb hq]
          unfold RepP;exact⟨y, xs', b1, dn, rfl, rfl, h1, i1⟩
        · rw[List.map_cons, List.map_cons]
          refine .cons ?_ i2;unfold putAt;rw[Xb hn];exact v1
        · rcases aA ha with z|z
          · exact .inl (ll9 _ z)
          · exact(i3 a z).imp (lr9 _) id
theorem kv3{q : D}(hx : RepL K H g d x cs): ∀{kvs : List (D × D)} {xs : List V} {bs : List Addr}, RepP K H g kvs xs bs -> RepP K H g (kvs ++ [(q, d)]) (xs ++ [x]) (bs ++ cs)
  | [], _, _, h=>by
    unfold RepP at h;obtain⟨rfl, rfl⟩:= h;show RepP K H g [(q, d)] [x] cs;unfold RepP;exact⟨x, [], cs, [], rfl, by simp, hx, by unfold RepP; exact⟨rfl, rfl⟩⟩
  | (p, e)::kvs, _, _, h=>by
    unfold RepP at h;obtain⟨y, rr, b1, b2, rfl, rfl, h1, h2⟩:= h;rw[List.cons_append];unfold RepP;exact⟨y, rr ++ [x], b1, b2 ++ cs, rfl, by rw[Xy], h1, kv3 hx h2⟩
theorem kqs:∀{xs:List V} {us:List Value},Vals xs us->RelV x r->Vals (xs++[x]) (us++[r])
 |_,_,.nil,h=>.cons h .nil|_,_,.cons a t,h=>.cons a (kqs t h)
theorem vqs{kvs:List (D×D)}{xs:List V}{bs:List Addr}{es:List Ent}(hx:RepL K H g d x cs)(hr:RelV x r)(h:RepP K H g kvs xs bs)(hk:kvs.map (·.1)=es.map (·.1.1))(hv:Vals xs (es.map (·.2.2)))(hn:(es.map (·.1)).Nodup)(hp:∀n∈es,PuR K H n.1.1 (.ref n.2.1))(hb:PuR K H k.1 (.ref b)):
  ∃ xs' dn,RepP K H g (Qw kvs k.1 d) xs' dn/\(Qw kvs k.1 d).map (·.1)=(storedH es k b r).map (·.1.1)/\Vals xs' ((storedH es k b r).map (·.2.2))/\((storedH es k b r).map (·.1)).Nodup/\(∀n∈storedH es k b r,PuR K H n.1.1 (.ref n.2.1))/\(storedH es k b r).length<=es.length+1/\∀a∈dn,a∈bs\/a∈cs:=by
 have hm:=qxb es k;rw [<-hk]at hm;cases ha:atKey es k with
 | some p=>
  rw[ha]at hm;have iz:k.1∈kvs.map (·.1):=of_decide_eq_true hm.symm;rw[storedH_old ha];unfold Qw;rw[X8 iz];obtain⟨xs',dn,i1,i2,i3⟩:=qqe (k:=k) hx hr h hk hv;refine⟨xs',dn,i1,?_,i2,by rw[keys_map_putAt];exact hn,λn lp=>?_,by rw[X4];omega,i3⟩
  ·have e1:(es.map (putAt k r)).map (·.1.1)=es.map (·.1.1):=by
    rw[Xs];refine Z3 λn _=>?_
    show(putAt k r n).1.1=n.1.1;unfold putAt
    by_cases z:n.1=k
    ·rw[X8 z]
    ·rw[Xb z]
   rw[e1,<-hk,Xs];refine Z3 λe _=>?_
   show(if e.1=k.1 then(k.1,d)else e).1=e.1
   by_cases z:e.1=k.1
   ·rw[X8 z];exact z.symm
   ·rw[Xb z]
  ·obtain⟨m,oi,rfl⟩:=aE lp;have:=hp m oi;unfold putAt
   by_cases z:m.1=k
   ·rw[X8 z];exact this
   ·rw[Xb z];exact this
 | none=>
  rw[ha]at hm;have iz:¬k.1∈kvs.map (·.1):=of_decide_eq_false hm.symm;rw[storedH_new ha];unfold Qw;rw[Xb iz];refine⟨xs++[x],bs++cs,kv3 hx h,by rw[Xd,Xd,hk];rfl,by rw[Xd];exact kqs hv hr,?_,λn lp=>?_,by simp,λa z=>aA z⟩
  ·rw[Xd,Xe];refine⟨hn,by simp,λp ir q hq e=>?_⟩;have:q=k:=by simpa using hq
   subst this e;obtain⟨n,ny,oh⟩:=aE ir;exact iz (by rw[hk];exact List.mem_map.mpr ⟨n,ny,by rw[oh]⟩)
  ·rcases aA lp with z|z
   ·exact hp n z
   ·rw[aC z];exact hb
end
section
variable {X:Cx}{pins:List (Addr×Obj)}{O:L2.St}{H:Hp}{s:Shared}{a b:Addr}{es:List Ent}{A:Around}{E:Value->Shared->Prop}{k:Kd}{r:Value}
theorem vwi{ep:Nat}{Q:Unit->Shared->Prop}(hu:A.units+64<cLine)(I:Inv X pins O H s)(e:H a=some (qV a es ep))(h2:es.length<=sizeLine)(h3:(es.map (·.1)).Nodup)(h5:∀x∈es,PuR X.K H x.1.1 (.ref x.2.1))(hk:PuR X.K H k.1 (.ref b))
  (h:∀ep' s',Inv X pins O (upd H a (qV a (storedH es k b r) ep')) s'->Q () s'):wpAny (model X.prog X.w) A (setItem (.ref a) (.ref b) r) Q E s:=by
 refine wpAny_setItem_heap (knd:=ZW X.prog X.w) (hsz:=h2) (kx4 hu) (W4 I hk rfl) (qj9 I e h3 h5) λh' dd hs=>?_
 obtain⟨q,ds,ep',hq,g2,g3,g4,_,_⟩:=dd;exact h ep' _ (qwt I (by rw[e];exact True.intro) hs ⟨q,hq⟩ ⟨⟨q,ds,hq,g2,g3,g4⟩,⟨q,hq⟩,λh1 h2 ⟨o,ds,a1,a2⟩ k=>⟨o,ds,k o a1,a2⟩⟩)
end
theorem qqt{K:Frag}{H:Hp}{T L:Ls}{i:Nat}{y:Sl}{l:Addr}{es es':List Ent}{ep ep':Nat}{xs':List V}{bs cs:List Addr}{kvs':List (D×D)}(w:World K H (T++L))(hy:L[i]?=some (some y))(hH:H l=some (qV l es ep))(ho:y.o=.rt)(ha:y.as=l::bs)(hv:y.v=.ref l)
  (r:RepP K H true kvs' xs' cs) (hc:∀a∈cs,a∈bs\/a∈j7 T\/a∈jY T) (hs:(l==sysModules)=false) (h2:es'.length<=sizeLine) (h3:(es'.map (·.1)).Nodup) (h4:kvs'.map (·.1)=es'.map (·.1.1)) (h5:∀n∈es',PuR K H n.1.1 (.ref n.2.1)) (h6:Vals xs' (es'.map (·.2.2))):
  World K (upd H l (qV l es' ep')) (L.set i (some ⟨.rt,.dct kvs',y.v,l::cs⟩))/\Step H (T++L) (upd H l (qV l es' ep')) (L.set i (some ⟨.rt,.dct kvs',y.v,l::cs⟩)):=by
 have hl:l∈y.own:=by unfold Sl.own;rw[ho,ha];simp
 have oL:l∈j7 L:=mem_owned.mpr ⟨y,vx hy,hl⟩;have oy:l∈j7 (T++L):=by rw[jX];exact lr9 _ oL
 have nd:=w.nd;rw[jX,Xe]at nd;have nT:l∉j7 T:=λz=>nd.2.2 l z l oL rfl
 have nF:l∉jY T:=λz=>w.ds l oy (by rw[kZ];exact ll9 _ z)
 have nb:l∉bs:=λz=>by
  have:l∈y.frz:=by unfold Sl.frz;rw[ho,ha];exact z
  exact w.ds l oy (by rw[kZ];exact lr9 _ (mem_frozen.mpr ⟨y,vx hy,this⟩))
 have nc:l∉cs:=λz=>by
  rcases hc l z with q|q|q
  ·exact nb q
  ·exact nT q
  ·exact nF q
 have kp:Kp H (upd H l (qV l es' ep')) cs:=by
  have k2:∀a o,H a=some o->a≠l->upd H l (qV l es' ep') a=some o:=λa o e ne=>by rw[kz ne];exact e
  refine⟨λa zs e=>k2 a _ e λz=>?_,λa o u e=>k2 a _ e λz=>?_,λa ha o e=>k2 a o e λz=>nc (z▸ha)⟩
  ·subst z;rw[hH]at e;cases e
  ·subst z;rw[hH]at e;cases e
 refine World.writeAt w hy hl (y':=⟨.rt,.dct kvs',y.v,l::cs⟩) ⟨l,xs',cs,hv,r.kp kp,.inl ⟨es',ep',vK,hs,h2,h3,h4,λn hn=>PuR.kp kp (h5 n hn),h6⟩,rfl⟩ (by simp[Sl.own]) (λa h=>?_) (λa h=>?_) (λa h z=>?_)
 ·have:a=l:=by simpa [Sl.own]using h
  subst this;exact .inl hl
 ·rcases hc a (by simpa [Sl.frz]using h)with q|q
  ·exact .inl (by rw[ha];exact lc9 _ q)
  ·exact .inr q
 ·have:a=l:=by simpa [Sl.own]using h
  subst this;exact nc (by simpa [Sl.frz]using z)
abbrev vqf(K:Frag)(td ty tv:TE):TS:=λD O H=>tv O H λv H1=>td O H1 λx H2=>ty O H2 λy H3=>∃a b k es ep,x=.ref a/\y=.ref b/\H3 a=some (qV a es ep)/\es.length<=sizeLine/\(es.map (·.1)).Nodup/\(∀n∈es,PuR K H3 n.1.1 (.ref n.2.1))/\PuR K H3 k.1 (.ref b)/\∀r ep',RelV v r->D.nx O (upd H3 a (qV a (storedH es k b r) ep'))
theorem qqx{X:Cx}{o i value:Expr}{td ty tv:TE}{pos bj:Pos}(hu:X.A.units+64<cLine)(ho:PE X o td)(hi:PE X i ty)(hv:PE X value tv)(hs:swapsWith value (some (.Subscript o i bj)) pos.line X.env=pure false):
  PS X (.Assign [.Subscript o i bj] value pos) (vqf X.K td ty tv):=by
 intro pins s O H D I h;refine wpAny_Assign_Subscript (thn (hv pins s O H _ I h) λr s1 hq1=>?_) hs;obtain⟨v,H1,I1,rv,q1⟩:=hq1;refine thn (ho pins s1 O H1 _ I1 q1) λu s2 hq2=>?_
 obtain⟨x,H2,I2,rx,q2⟩:=hq2;refine thn (hi pins s2 O H2 _ I2 q2) λiv s3 hq3=>?_
 obtain⟨y,H3,I3,ry,a,b,k,es,ep,ex,ey,e,h2,h3,h5,hk,q3⟩:=hq3;subst ex ey;obtain rfl:u=Value.ref a:=rx;obtain rfl:iv=Value.ref b:=ry;exact vwi hu I3 e h2 h3 h5 hk λep' s4 I4=>⟨O,_,I4,q3 r ep' rv⟩
section
variable {X:Cx}{Z:Fx0}{pn:List Nat}{q:Bool}{kc vc:Ex}{o ke ve:Expr}{pos bj:Pos}
theorem vzo {i:Nat} (hu:X.A.units+64<cLine) (hK:X.K=Z.K) (ho:PE X o (JZ i)) (hk:QV X Z true kc ke) (hv:QE X Z q vc ve) (hs:autoParam (swapsWith ve (some (.Subscript o ke bj)) pos.line X.env=pure false) Ŕ):
  QS X Z pn (qxx i kc vc) (.Assign [.Subscript o ke bj] ve pos):=zQ (qqx hu ho hk hv hs) λD O H b7=>ex7 b7 λE L r m w hr k=>
 Vv m w hr k λE1 s1 h1 x L1 H1 e1 e2 m1 w1 fz _=>by
  by_cases hd:vw1 E1[i]?=true
  ·rw [X8 hd]at h1;obtain ⟨d0,pj⟩:∃d0,E1[i]?=some (some (.rt,d0)):=by
    cases h0:E1[i]? with
    | none=>rw[h0]at hd;cases hd
    | some s0=>
     cases s0 with
     | none=>rw[h0]at hd;cases hd
     | some s0=>
      obtain⟨oo,dd⟩:=s0;cases oo with| rt=>exact⟨dd,rfl⟩| no=>rw[h0]at hd;cases hd| dp=>rw[h0]at hd;cases hd
   obtain ⟨y0,a1,a2,a3,a4⟩:=m1.get pj;refine ⟨y0.v,a4,?_⟩;have stL:Step H L H1 L1:=fz.trans Step.drop;rcases XY h1 with⟨E2,ky,hk1,dk⟩|⟨E2,c,hk1,rfl⟩
   ·refine⟨E1,L1,_,m1,w1.tail,hk1,(λ_ _ z=>by cases z),λE' s' z zk L2 H2 f1 f2 m2 w2 okz frz _ c8 sm=>?_⟩;injection z with z1 z2;subst z1 z2;cases hE:E2[i]? with
    | none=>rw[hE]at dk;cases dk
    | some s2=>
     cases s2 with
     | none=>rw[hE]at dk;cases dk
     | some s2=>
      obtain⟨oo,dd⟩:=s2;rw [hE]at dk;cases oo with
      | no=>cases dd<;>cases dk| dp=>cases dd<;>cases dk
      | rt=>
       cases dd with
       | dct kvs=>
        dsimp only at dk
        by_cases hc:v4 ky.2=true/\kvs.length<big/\unm kvs=true
        ·rw[X8 hc]at dk;cases oq9 dk;obtain⟨y,b1,b2,b3,b4⟩:=m2.get hE;have hyv:y.v=y0.v:=by rw[a4]at b4;exact(oq9 (oq9 b4)).symm
         obtain⟨w3,fc⟩:=wkk (T:=[some x]) w1 c8 w2;have oky:y.ok Z.K H2:=w2.ok y (vx b1);obtain⟨yo,yd,yv,yas⟩:=y;dsimp only at b2 b3 hyv;subst b2 b3;obtain⟨a,xs,bs,e4,rp,q4,e5⟩:=(show RepR Z.K H2 (.dct kvs) yv yas from oky);obtain⟨es,ep,g1,g2,g3,g4,g5,g6,g7⟩:=DcA.un q4 hc.2.2;have ju:v4 zk.d=true:=by rw[f2];exact hc.1
         obtain⟨b,eb,pb⟩:=jwe okz ju;have ji:jV 6 zk.d=true:=by unfold v4 at ju;rw[Bool.and_eq_true]at ju;exact ju.1
         have av:es.length<sizeLine:=by
          have:=congrArg List.length g5;rw[X4,X4]at this;rw[<-this];exact hc.2.1
         have rx:RepL Z.K H2 true s1.2 x.v x.as:=by rw[<-e2];exact RepO.wk (w3.ok x X7)
         refine⟨a,b,⟨zk.d,ji⟩,es,ep,hyv▸e4,eb,g1,g3,g4,by rw[hK];exact g6,by rw[hK];exact pb,λrr ep' nw=>?_⟩;obtain⟨xs',dn,p1,p2,p3,p4,p5,p6,p7⟩:=vqs (k:=⟨zk.d,ji⟩) (b:=b) rx nw rp g5 g7 g4 g6 pb;obtain⟨w4,iw⟩:=qqt (ep':=ep') (T:=[some x]) (i:=i) (y:=⟨.rt,.dct kvs,yv,yas⟩) w3 b1 g1 rfl e5 e4 p1 (λc gu=>(p7 c gu).imp id λz=>by
          rcases Sl.as_of z with z|z
          ·exact .inl (by simpa using z)
          ·exact .inr (by simpa using z)) g2 ⋯ p4 p2 p5 p3
         have la:Step H L _ _:=(fz.trans fc).trans iw;refine k O _ _ Pn.refl ?_ w4 la;have:=m2.set (x:=⟨.rt,.dct (Qw kvs zk.d s1.2),yv,a::dn⟩) i;rw[XQ b4]at this;rw[<-f2];exact this
        ·rw[Xb hc]at dk;cases dk
       |_=>cases dk
   ·exact⟨E1,L1,_,m1,w1.tail,hk1,(λE' c' e C L' H' hm m' w' st=>by injection e with z1 z2;subst z1 z2;exact k C O L' H' hm Pn.refl m' w' (stL.trans st)),λE' s' z=>by cases z⟩
  ·rw[Xb hd]at h1;cases h1
end
end Q
namespace Q
open PySem PySem.Spec PyProof.Rows L2 L3
def wkp(K:Frag)(p:Addr)(Q:VK)(ps:List (V×V))(H2:Hp):Prop:=∃x y,ps=[(x,y)]/\H2 p=some (qV p [] 0)/\∃(b:Addr) (kd:Kd),x=.ref b/\PuR K H2 kd.1 (.ref b)/\∀r ep',RelV y r->Q (.ref p) (upd H2 p (qV p [(kd,b,r)] ep'))
abbrev wv6(K:Frag)(tk tv:TE):TE:=fun O H Q=>∀p,H p=none->(p==sysModules)=false->tk O (upd H p (qV p [] 0)) λx H1=>tv O H1 λy H2=>wkp K p Q [(x,y)] H2
theorem vv7{X:Cx}{K:Frag}{pos:Pos}{k v:Expr}{tk tv:TE}(hu:X.A.units+64<cLine)(hk:PE X k tk)(hv:PE X v tv)(hK:autoParam (X.K=K) Ŕ):PE X (.Dict [some k] [v] pos) (wv6 K tk tv):=by
 subst hK;intro pins s O H Q I h;have hn:=I.hok.fresh (X9 s.heap.objs.size);have I1:=I.laid (a:=s.heap.objs.size) (o:=qV s.heap.objs.size [] 0) (h':=s.heap.push { cls:=.type "dict",data:=.dict #[] }) (t':=s.toks) (λ_ _ q=>X1 _ q) (X9 _) (vwj s.heap);refine wpAny_Dict_any rfl rfl (by simp) (by simp) (thn (qzd hk hv vv1 pins _ O _ (wkp X.K s.heap.objs.size Q) I1 (h _ hn (Y9 (Nat.ne_of_gt I.big)))) λvs s2 hz=>?_);obtain⟨ps,H2,I2,gz,x,y,ep,e,b,kd,ex,pk,q⟩:=hz;subst ep ex;cases gz with
 |@cons p1 p2 t1 t2 h1 h2=>
  cases h2;obtain⟨u,r⟩:=p2;obtain rfl:u=Value.ref b:=h1.1;have h1:RelV y r:=h1.2;unfold storeAll;rw[List.forIn_cons];refine X0 (X0 (wpAny_dictSet_heap (knd:=ZW X.prog X.w) (xs:=[]) (k:=kd) (by show X.A.units+40<cLine;omega) (W4 I2 pk rfl) (qj9 I2 e Y4 (λ_ z=>absurd z Xq)) (λh' dd hs=>X2 ?_) (Yg _)));show wpAny (model X.prog X.w) X.A (forIn [] PUnit.unit _) _ _ _;rw[List.forIn_nil];refine X2 ?_;obtain⟨o,ds,ep',hq,g2,g3,g4,_,_⟩:=dd;exact⟨.ref s.heap.objs.size,_,qwt (ob:=qV s.heap.objs.size [(kd,b,r)] ep') I2 (by rw[e];exact True.intro) hs ⟨o,hq⟩ ⟨⟨o,ds,hq,g2,g3,g4⟩,⟨o,hq⟩,λh1 h2 ⟨o,ds,a1,a2⟩ k=>⟨o,ds,k o a1,a2⟩⟩,rfl,q r ep' h1⟩
section
variable {X:Cx}{Z:Fx0}{q:Bool}{kc vc:Ex}{ke ve:Expr}{pos:Pos}
theorem vzp(hu:X.A.units+64<cLine)(hk:QE X Z q kc ke)(hv:QE X Z q vc ve)(hK:autoParam (X.K=Z.K) Ŕ):QE X Z q (vjj kc vc) (.Dict [some ke] [ve] pos):=qx (vv7 hu hk hv hK) fun O H Q b7=>ex8 b7 λE L r m w hc xc k=>by
 intro p hp hs;have ni:k8 H (upd H p (qV p [] 0)):=vq hp;have st0:Step H L (upd H p (qV p [] 0)) L:=⟨λb ob h _=>ni b ob h,λ_ h=>.inl h,λ_ h=>.inl h⟩;have nL:p∉j7 L:=λz=>w.own_some z hp
 have nF:p∉jY L:=λz=>w.frz_some z hp
 have w0:World Z.K (upd H p (qV p [] 0)) L:=⟨λt ht=>RepO.kp (w.ok t ht) (Kp.of_same ni),w.nd,w.ds⟩;have wd:World Z.K (upd H p (qV p [] 0)) ([some ⟨.rt,.dct [],.ref p,[p]⟩]++L):=by
  refine World.cons w0 ⟨p,[],[],rfl,by unfold RepP;exact⟨rfl,rfl⟩,.inl ⟨[],0,vK,hs,Yg _,Y4,rfl,λ_ z=>absurd z Xq,Paired.nil⟩,rfl⟩ (by simp[Sl.own]) (λb hb ho=>?_) (λb hb ho=>?_) (λb hb=>by simp[Sl.frz]at hb) (λb _ hb=>by simp[Sl.frz]at hb)
  ·have:b=p:=by simpa [Sl.own]using hb
   exact nL (this▸ho)
  ·have:b=p:=by simpa [Sl.own]using hb
   exact nF (this▸ho)
 refine Wk m w0 (show bnd (kc E) _=some r from hc) (xc.step st0) λE1 s1 h1 x L1 H1 e1 e2 m1 w1 fz jl=>?_
 obtain⟨wd1,sd1⟩:=wkk wd fz w1;have s1':Step H L H1 L1:=(st0.trans fz).trans Step.drop;refine Wk m1 w1.tail (show bnd (vc E1) _=some r from h1) (xc.step s1') λE2 s2 h2 y L2 H2 e3 e4 m2 w2 c8 dq=>?_
 have pm:(([some ⟨.rt,.dct [],.ref p,[p]⟩]:Ls)++(some x::L1)).Perm (([some x,some ⟨.rt,.dct [],.ref p,[p]⟩]:Ls)++L1):=List.Perm.swap _ _ _;obtain⟨wd2,sd2⟩:=wkk (wd1.perm pm) c8 w2;have si:(([some x,some ⟨.rt,.dct [],.ref p,[p]⟩]:Ls)++(some y::L2)).Perm (([some x,some y]:Ls)++(some ⟨.rt,.dct [],.ref p,[p]⟩::L2)):=List.Perm.cons _ (List.Perm.swap _ _ _);have w3:=wd2.perm si;have fc:Step (upd H p (qV p [] 0)) ([some ⟨.rt,.dct [],.ref p,[p]⟩]++L) H2 ([some x,some y]++(some ⟨.rt,.dct [],.ref p,[p]⟩::L2)):=(sd1.perm (List.Perm.refl _) pm).trans (sd2.perm (List.Perm.refl _) si)
 by_cases qp:v4 s1.2=true
 ·rw [X8 qp]at h2;cases oq9 h2;have lr:x.ok Z.K H2:=w3.ok x (by simp);have ju:v4 x.d=true:=by rw[e2];exact qp
  obtain⟨b,eb,pb⟩:=jwe lr ju;have ji:jV 6 x.d=true:=by unfold v4 at ju;rw[Bool.and_eq_true]at ju;exact ju.1
  obtain⟨a,xs0,bs0,ea,_,q4,_⟩:=(show RepR Z.K H2 (.dct []) (.ref p) [p]from w3.ok ⟨.rt,.dct [],.ref p,[p]⟩ (by simp));obtain⟨es,ep,g1,_⟩:=DcA.un (kvs:=[]) q4 rfl;have hH2:H2 p=some (qV p [] 0):=by
   have n1:p∉j7 (some x::L1):=λz=>by
    rcases fz.own p z with z|z
    ·exact nL z
    ·rw[vK]at z;cases z
   have hH1:H1 p=some (qV p [] 0):=fz.keep p _ vK nL;exact c8.keep p _ hH1 λz=>n1 (by rw[kw];exact lr9 _ z)
  have rv:RepL Z.K H2 true s2.2 y.v y.as:=by rw[<-e4];exact RepO.wk (w3.ok y (by simp))
  refine⟨x.v,y.v,rfl,hH2,b,⟨x.d,ji⟩,eb,pb,λrr ep' nw=>?_⟩;obtain⟨w4,iw⟩:=qqt (ep':=ep') (es':=[(⟨x.d,ji⟩,b,rr)]) (xs':=[y.v]) (cs:=y.as) (kvs':=[(x.d,s2.2)]) (bs:=[]) (i:=0) (y:=⟨.rt,.dct [],.ref p,[p]⟩) w3 rfl hH2 rfl rfl rfl
   (by unfold RepP;exact⟨y.v,[],y.as,[],rfl,by simp,rv,by unfold RepP;exact⟨rfl,rfl⟩⟩)
   (λc gu=>.inr (by
    rcases Sl.as_of gu with z|z
    ·exact .inl (by simpa using .inr z)
    ·exact .inr (by simpa using .inr z))) hs (by show(1:Nat)<=sizeLine;decide) (List.nodup_cons.mpr ⟨Xq,Y4⟩) rfl (λn hn=>by rw[aC hn];exact pb) (.cons nw .nil)
  have stA:Step (upd H p (qV p [] 0)) ([some ⟨.rt,.dct [],.ref p,[p]⟩]++L) _ _:=fc.trans iw;refine k _ _ rfl ⟨.rt,.dct [(x.d,s2.2)],.ref p,p::y.as⟩ L2 _ rfl (congrArg (λd=>D.dct [(d,s2.2)]) e2) m2 w4 ?_ λhq=>?_
  ·refine⟨λc ob h hn=>stA.keep c ob (ni c ob h) λz=>?_,λc gu=>?_,λc gu=>?_⟩
   ·rw[List.singleton_append,kw]at z;rcases aA z with z|z
    ·have:c=p:=by simpa [Sl.own]using z
     rw[this,hp]at h;cases h
    ·exact hn z
   ·rcases stA.own c gu with z|z
    ·rw[List.singleton_append,kw]at z;rcases aA z with z|z
     ·have:c=p:=by simpa [Sl.own]using z
      exact .inr (this▸hp)
     ·exact .inl z
    ·exact .inr (by
      cases hc0:H c with
      |none=>rfl
      |some ob=>rw[ni c ob hc0]at z;cases z)
   ·have hcp:c=p->H c=none:=λz=>z▸hp
    rcases stA.frz c gu with z|z|z
    ·rw[List.singleton_append,v9]at z;rcases aA z with z|z
     ·simp[Sl.frz]at z
     ·exact .inl z
    ·rw[List.singleton_append,kw]at z;rcases aA z with z|z
     ·have:c=p:=by simpa [Sl.own]using z
      exact .inr (.inr (this▸hp))
     ·exact .inr (.inl z)
    ·exact .inr (.inr (by
      cases hc0:H c with
      |none=>rfl
      |some ob=>rw[ni c ob hc0]at z;cases z))
  ·refine⟨λc ob h=>?_,λc gu=>?_⟩
   ·have bt:c≠p:=λz=>by rw[z,hp]at h;cases h
    rw[kz bt];exact(dq hq).1 c ob ((jl hq).1 c ob (ni c ob h))
   ·have:c=p:=by simpa [Sl.own]using gu
    exact this▸hp
 ·rw[Xb qp]at h2;cases h2
end
end Q
namespace Q
open PySem PySem.Spec PyProof.Rows L2 L3
theorem RepA.put{K:Frag}{H:Hp}{g:Bool}{d:D}{x:V}{cs:List Addr}(hx:RepL K H g d x cs):∀{ds:List D} {xs:List V} {bs:List Addr} (n:Nat),RepA K H g ds xs bs->∃es,RepA K H g (ds.set n d) (xs.set n x) es/\∀a∈es,a∈bs\/a∈cs
 | [],_,bs,n,h=>by
  have h0:=h;unfold RepA at h0;obtain⟨rfl,rfl⟩:=h0;exact⟨[],by simpa using h,λ_ z=>nomatch z⟩
 | e::ds,_,_,n,h=>by
  unfold RepA at h;obtain⟨y,r,b1,b2,rfl,rfl,h1,h2⟩:=h;cases n with
  | zero=>
   refine⟨cs++b2,?_,λa ha=>?_⟩
   ·rw[List.set_cons_zero,List.set_cons_zero];unfold RepA;exact⟨x,r,cs,b2,rfl,rfl,hx,h2⟩
   ·rcases aA ha with z|z
    ·exact .inr z
    ·exact .inl (lr9 _ z)
  | succ n=>
   obtain⟨es,i1,i2⟩:=RepA.put hx n h2;refine⟨b1++es,?_,λa ha=>?_⟩
   ·rw[List.set_cons_succ,List.set_cons_succ];unfold RepA;exact⟨y,r.set n x,b1,es,rfl,rfl,h1,i1⟩
   ·rcases aA ha with z|z
    ·exact .inl (ll9 _ z)
    ·exact(i2 a z).imp (lr9 _) id
section
variable {X:Cx}{Z:Fx0}{pn:List Nat}{q:Bool}{kc vc:Ex}{o ke ve:Expr}{pos bj:Pos}
theorem qqr {i:Nat} (ho:PE X o (JZ i)) (hk:QV X Z true kc ke) (hv:QE X Z q vc ve) (hs:autoParam (swapsWithSole [.Subscript o ke bj] ve pos.line X.env=pure false) Ŕ) (hw:autoParam (swappedStores [.Subscript o ke bj] ve X.env=pure none) Ŕ)
  (h1:autoParam ((assignEach [.Subscript o ke bj] X.env).map (·.2)=[assign (.Subscript o ke bj) X.env]) Ŕ)
  (ha:autoParam (∀ v,assign (.Subscript o ke bj) X.env v=(do
   let ov <-holding [v] (eval o X.env)
   let iv <-holding [v,ov] (eval ke X.env)
   standAt bj
   holding [v,ov,iv] (setItem ov iv v)
   release [v,ov,iv] [])) Ŗ):
  QS X Z pn (QK i kc vc) (.Assign [.Subscript o ke bj] ve pos):=zQ (wj3 hv (wj8 ho hk qxv ha) hs hw h1) λD O H b7=>ex7 b7 λE L r m w hr k=>
 Vv m w hr k λE1 s1 h1 x L1 H1 e1 e2 m1 w1 fz _=>by
  by_cases hd:JQ E1[i]?=true
  ·rw [X8 hd]at h1;obtain ⟨s0,pj⟩:∃s0,E1[i]?=some (some s0):=by
    cases h0:E1[i]? with
    | none=>rw[h0]at hd;cases hd
    | some s0=>
     cases s0 with| none=>rw[h0]at hd;cases hd| some s0=>exact⟨s0,rfl⟩
   obtain ⟨y0,a1,a2,a3,a4⟩:=m1.get pj;refine ⟨y0.v,a4,?_⟩;have stL:Step H L H1 L1:=fz.trans Step.drop;rcases XY h1 with⟨E2,ky,hk1,dk⟩|⟨E2,c,hk1,rfl⟩
   ·refine ⟨E1,L1,_,m1,w1.tail,hk1,(λ_ _ z=>by cases z),λE' s' z zk L2 H2 f1 f2 m2 w2 okz frz _ c8 sm=>?_⟩;injection z with z1 z2;subst z1 z2;cases hE:E2[i]? with
    | none=>rw[hE]at dk;cases dk
    | some s2=>
     cases s2 with
     | none=>rw[hE]at dk;cases dk
     | some s2=>
      obtain⟨oo,dd⟩:=s2;rw [hE]at dk;cases dd with
      | lst ds=>
       cases hkd:ky.2 with
       | int j=>
        rw [hkd]at dk;dsimp only at dk
        by_cases ig:oo=.no
        ·rw[X8 ig]at dk;cases dk
        ·rw[Xb ig]at dk;cases hj:ixN ds.length j with
         | none=>rw[hj]at dk;cases dk
         | some n=>
          rw[hj]at dk;cases oq9 dk;obtain⟨y,b1,b2,b3,b4⟩:=m2.get hE;have hyv:y.v=y0.v:=by rw[a4]at b4;exact(oq9 (oq9 b4)).symm
          obtain⟨w3,fc⟩:=wkk (T:=[some x]) w1 c8 w2;obtain⟨l,xs,bs,c1,c2,c3,c4,c5⟩:=kxa (w2.ok y (vx b1)) b3 (by rw[b2];exact ig);have c6:RepA Z.K H2 true ds xs bs:=by
           cases hb:(y.o != .dp)with|true=>rw[hb]at c5;exact c5|false=>rw[hb]at c5;exact c5.wk
          have rx:RepL Z.K H2 true s1.2 x.v x.as:=by rw[<-e2];exact RepO.wk (w3.ok x X7)
          obtain⟨es,g1,g2⟩:=RepA.put rx n c6;obtain⟨w4,iw⟩:=kq4 (T:=[some x]) (o':=.rt) (ds':=ds.set n s1.2) (xs':=xs.set n x.v) w3 b1 c2 c3 c4 c1 g1 (.inl ⟨rfl,λa ha=>(g2 a ha).imp id λz=>by
           rcases Sl.as_of z with z|z
           ·exact .inl (by simpa using z)
           ·exact .inr (by simpa using z)⟩)
          have ju:zk.v=.int j:=qX okz (by rw[f2];exact hkd);refine⟨l,xs,j,n,hyv▸c1,ju,c2,by rw[<-c6.len,<-qw5];exact hj,?_⟩;have la:Step H L _ _:=(fz.trans fc).trans iw;refine k O _ _ Pn.refl ?_ w4 la;have:=m2.set (x:=⟨.rt,.lst (ds.set n s1.2),y.v,l::es⟩) i;rw[XQ b4]at this;exact this
       |_=>rw[hkd]at dk;cases dk
      |_=>cases dk
   ·exact⟨E1,L1,_,m1,w1.tail,hk1,(λE' c' e C L' H' hm m' w' st=>by injection e with z1 z2;subst z1 z2;exact k C O L' H' hm Pn.refl m' w' (stL.trans st)),λE' s' z=>by cases z⟩
  ·rw[Xb hd]at h1;cases h1
theorem vzs{i:Nat}{y:Str}{op:Operator}{f:Int->Int->Int}(hN:X.N.Nodup)(hi:X.N[i]?=some y)(hx:Loc X.env.scope y)(ho:PIp X op (ipI f))(h:QE X Z q vc ve)(hp:autoParam (i∉pn) ŕ)(hf:autoParam (X.fn y=true\/X.env.scope.names.lookup y=some .local) Ř):
  QS X Z pn (XW f i vc) (.AugAssign (.Name y bj) op ve pos):=zQ (wj2 hN hi hx h ho hf) λD O H b7=>ex7 b7 λE L r m w hr k=>by
 unfold XW at hr;cases hE:E[i]? with
 | none=>rw[hE]at hr;cases hr
 | some s0=>
  cases s0 with
  | none=>rw[hE]at hr;cases hr
  | some s0=>
   obtain⟨oo,dd⟩:=s0;rw [hE]at hr;cases dd with
   | int a=>
    dsimp only at hr;obtain⟨x0,a1,a2,a3,a4⟩:=m.get hE;have ha:x0.v=.int a:=qX (w.ok x0 (vx a1)) a3;refine⟨x0.v,a4,?_⟩;refine Vv m w hr k λE1 s h1 x L1 H1 e1 e2 m1 w1 st _=>?_
    cases hs:s.2 with
    | int b=>
     rw[hs]at h1;cases oq9 h1;refine⟨a,b,ha,qX w1.head (by rw[e2];exact hs),?_⟩;have w2:World Z.K H1 (some ⟨.dp,.int (f a b),.int (f a b),[]⟩::L1):=w1.tail.cons (show RepL Z.K H1 false (.int (f a b)) (.int (f a b)) []from wj) Y4 (λ_ z=>nomatch z) (λ_ z=>nomatch z) (λ_ z=>nomatch z) (λ_ z=>nomatch z);have s2:Step H L H1 (some ⟨.dp,.int (f a b),.int (f a b),[]⟩::L1):=by
      refine⟨st.keep,λb hb=>st.own b ?_,λb hb=>st.frz b ?_⟩
      ·rw[kw]at hb ⊢;rcases aA hb with z|z
       ·exact nomatch z
       ·exact lr9 _ z
      ·rw[v9]at hb ⊢;rcases aA hb with z|z
       ·exact nomatch z
       ·exact lr9 _ z
     exact k (O.set i (some (.int (f a b)))) (L1.set i (some ⟨.dp,.int (f a b),.int (f a b),[]⟩)) H1 (Pn.refl.set hp) (W3 (x:=⟨.dp,.int (f a b),.int (f a b),[]⟩) m1 rfl rfl) w2.set (s2.trans Step.set)
    |_=>rw[hs]at h1;cases h1
   |_=>cases hr
end
end Q
namespace Q
open PySem PySem.Spec PyProof.Rows L2 L3
abbrev dkI(kv:List (Int×Int)):List (Key×V):=kv.map λp=>(Sum.inl p.1,V.int p.2)
theorem vxd(kv:List (Int×Int))(k:Int):zw (dkI kv) (Sum.inl k)=(z6 kv k).map V.int:=by
 induction kv with
 | nil=>rfl
 | cons p r ih=>
  unfold zw z6 at ih ⊢;rw[show dkI (p::r)=(Sum.inl p.1,V.int p.2)::dkI r from rfl,Yl,Yl]
  by_cases h:p.1=k
  ·have h1:decide ((Sum.inl p.1:Key)=Sum.inl k)=true:=Xl (by rw[h]);have h2:decide (p.1=k)=true:=Xl h;simp only[h1,h2];rfl
  ·have h1:decide ((Sum.inl p.1:Key)=Sum.inl k)=false:=Xi λz=>h (Sum.inl.inj z)
   have h2:decide (p.1=k)=false:=Xi h;simp only[h1,h2];exact ih
theorem vzw(kv:List (Int×Int))(k v:Int):wqw (dkI kv) (Sum.inl k) (V.int v)=dkI (xQ kv k v):=by
 have ha:((dkI kv).any λp=>decide (p.1=(Sum.inl k:Key)))=kv.any λp=>decide (p.1=k):=by
  unfold dkI;rw[List.any_map]
  congr 1
  funext p;show decide ((Sum.inl p.1:Key)=Sum.inl k)=decide (p.1=k);exact decide_eq_decide.mpr ⟨λz=>Sum.inl.inj z,λz=>by rw[z]⟩
 unfold wqw xQ;rw[ha]
 by_cases h:(kv.any λp=>decide (p.1=k))=true
 ·rw[X8 h,X8 h];unfold dkI;rw[Xs,Xs];refine Z3 λp _=>?_
  show(if(Sum.inl p.1:Key)=Sum.inl k then _ else _)=_
  by_cases z:p.1=k
  ·rw[X8 (by rw[z])];show _=(Sum.inl (if p.1=k then(p.1,v)else p).1,V.int (if p.1=k then(p.1,v)else p).2);rw[X8 z]
  ·rw[Xb λq=>z (Sum.inl.inj q)];show _=(Sum.inl (if p.1=k then(p.1,v)else p).1,V.int (if p.1=k then(p.1,v)else p).2);rw[Xb z]
 ·rw[Xb h,Xb h];unfold dkI;rw[Xd];rfl
theorem kvv : ∀{kvs : List (D × D)} {kv : List (Int × Int)}, Q2 kvs = some kv -> kvs = kv.map λp=>(D.int p.1, D.int p.2)
  | [], kv, h=>by cases oq9 h; rfl
  | (a, b)::r, kv, h=>by
    cases a with
    | int k=>
      cases b with
      | int v=>
        have h : (Q2 r).map ((k, v):: ·) = some kv:= h;cases hr : Q2 r with
        | none=>rw[hr]at h; cases h
        | some q=>
          rw[hr]at h;cases oq9 h;rw[List.map_cons, <-kvv hr]
      |_=>cases h
    |_=>cases b <;> cases h
theorem kvu : ∀(kv : List (Int × Int)), Q2 (kv.map λp=>(D.int p.1, D.int p.2)) = some kv
  | []=>rfl
  | (a, b)::r=>by
    show(Q2 (r.map λp=>(D.int p.1, D.int p.2))).map ((a, b):: ·) = _;rw[kvu r]; rfl
theorem vkk(kv:List (Int×Int)):VJ (K2 kv)=some kv:=kvu kv
theorem kv4{K:Frag}{H:Hp}{g:Bool}:∀{kv:List (Int×Int)} {xs:List V} {bs:List Addr},RepP K H g (kv.map λp=>(D.int p.1,D.int p.2)) xs bs->xs=kv.map λp=>V.int p.2
 |[],_,_,h=>by
  have h:RepP K H g [] _ _:=h;unfold RepP at h;exact h.1
 |p::r,_,_,h=>by
  rw[List.map_cons]at h;unfold RepP at h;obtain⟨y,rr,b1,b2,rfl,_,h1,h2⟩:=h;unfold RepL at h1;rw[h1.1,kv4 h2,List.map_cons]
theorem kvt{K:Frag}{H:Hp}{g:Bool}:∀(kv:List (Int×Int)),RepP K H g (kv.map λp=>(D.int p.1,D.int p.2)) (kv.map λp=>V.int p.2) []
 |[]=>by show RepP K H g [] [] [];unfold RepP;exact⟨rfl,rfl⟩
 |p::r=>by
  rw[List.map_cons,List.map_cons];unfold RepP;exact⟨_,_,[],[],rfl,rfl,wj,kvt r⟩
theorem vvp{K:Frag}{H:Hp}{g:Bool}(kv:List (Int×Int)):RepP K H g (mkD::kv.map λp=>(D.int p.1,D.int p.2)) (V.non::kv.map λp=>V.int p.2) []:=by
 unfold mkD RepP;exact⟨_,_,[],[],rfl,rfl,by unfold RepL;exact⟨rfl,rfl⟩,kvt kv⟩
theorem qj3:∀{a:List (Int×V)} {kv:List (Int×Int)},(kv.map λp=>D.int p.1)=a.map (λp=>D.int p.1)->(kv.map λp=>V.int p.2)=a.map (·.2)->(a.map λp=>((Sum.inl p.1:Key),p.2))=dkI kv
 |[],[],_,_=>rfl|[],_::_,h,_=>by simp at h|_::_,[],h,_=>by simp at h
 |p::a,q::kv,h,h'=>by
  rw[List.map_cons,List.map_cons]at h h';injection h with h1 h2;injection h' with h3 h4;injection h1 with h1;unfold dkI;rw[List.map_cons,List.map_cons,qj3 h2 h4,<-h1,<-h3]
theorem vkp{K:Frag}{H:Hp}{y:Sl}{kv:List (Int×Int)}(ok:y.ok K H)(hd:VJ y.d=some kv):∃a,y.v=.ref a/\H a=some (.dK (dkI kv))/\∃bs,y.as=a::bs:=by
 have h:=RepO.wk ok;cases hy:y.d with
 | dct kvs=>
  rw [hy]at hd h;cases kvs with
  | nil=>cases hd
  | cons e kvs=>
   obtain⟨a,b⟩:=e;cases a with
   | str m=>
    cases b with
    | non=>
     have hd:Q2 kvs=some kv:=hd;have e:=kvv hd;subst e;unfold RepL at h;obtain⟨a,xs,bs,ev,rp,qa,eas⟩:=h;rcases qa with⟨es,ep,_,_,_,_,g5,g6,_⟩|⟨kvn,mm,g1,g2,g3⟩
     ·exfalso;rw[List.map_cons]at g5;cases es with
      |nil=>cases g5
      |cons n es=>
       rw[List.map_cons]at g5;injection g5 with g5 _;have:=g6 n X7;rw[<-g5]at this;unfold PuR at this;exact this
     ·refine⟨a,ev,?_,bs,eas⟩;rw[g1]
      congr 2
      unfold RepP at rp;obtain⟨y1,rr,_,_,rfl,_,_,r2⟩:=rp;have e1:=kv4 r2;rw[List.map_cons,Xs]at g2;injection g2 with _ g2;injection g3 with _ g3;refine qj3 g2 ?_;rw[<-e1];exact g3
    |_=>cases hd
   |_=>cases b<;>cases hd
 |_=>rw[hy]at hd;cases hd
section
def wxm(jf:Bool):R2:=λx y H Q=>∃(k:Int) (a:Addr) (kv:List (Int×Int)),x=.int k/\y=.ref a/\H a=some (.dK (dkI kv))/\Q (.bl (if jf then !(z6 kv k).isSome else(z6 kv k).isSome)) H
theorem vkq{H:Hp}{a:Addr}{kv:List (Int×Int)}(k:Int)(e:H a=some (.dK (dkI kv))):DGet H a (.int k) ((z6 kv k).map V.int):=by
 rw[<-vxd];exact DGet.k (k:=Sum.inl k) e
theorem ww7{X:Cx}(hu:X.A.units+64<cLine):OpR X (compareOp .In) (wxm false):=by
 intro pins s O H x y u v Q I rx ry ⟨k,a,kv,e1,e2,hd,q⟩;subst e1 e2;cases ry;refine d_in ⋯ I (vkq k hd) rx λs' I'=>⟨.bl _,H,I',rfl,?_⟩
 rw[Option.isSome_map];exact q
theorem wqi{K:Frag}:Ad2 K (wxm false) (pu2 VW):=by
 intro H x y s Q ox oy hf k;unfold pu2 VW at hf;dsimp only at hf;cases hx:x.d with
 | int j=>
  rw[hx]at hf;cases hi:VJ y.d with
  |none=>rw[hi]at hf;cases hf
  |some kv=>
   rw[hi]at hf;cases oq9 hf;obtain⟨a,e,q,_⟩:=vkp oy hi;exact⟨j,a,kv,qX ox hx,e,q,k ⟨.dp,.bl _,.bl _,[]⟩ H rfl rfl wX⟩
 |_=>rw[hx]at hf;cases hf
theorem wq8(x y s:Sd)(h:pu2 VW x y=some s):∃k,s.2=.bl k:=by
 unfold pu2 VW at h;cases hx:x.2 with
 |int j=>
  rw[hx]at h;cases hi:VJ y.2 with|none=>rw[hi]at h;cases h|some kv=>rw[hi]at h;cases oq9 h;exact⟨_,rfl⟩
 |_=>rw[hx]at h;cases h
end
section
variable {X:Cx}{Z:Fx0}{pn:List Nat}{q qa:Bool}{a b c kc vc:Ex}{o ea eb ec ke ve:Expr}{pos bj az:Pos}
theorem wvq(hu:X.A.units+64<cLine)(ha:QV X Z qa a ea)(hb:QV X Z true b eb)(hs:wqm eb):QV X Z qa (wqr a b) (.Subscript ea eb pos):=
 qx (vv8 ⋯ ha hb hs) fun O H Q b7=>ex8 b7 λE L r m w hc xc k=>by
  refine vk m w (show bnd (a E) _=some r from hc) xc λE1 s h1 x L1 H1 e1 e2 m1 w1 ok fr sr st sm=>?_
  refine vk m1 w1 h1 (xc.step st) λE2 s2 h2 y L2 H2 e3 e4 m2 w2 gy tm se c8 dq=>?_
  obtain⟨z,hz,rfl⟩:=J3 h2;have kx:=Q5 ok fr c8 (dq rfl);unfold wku at hz;cases hy:s2.2 with
  | int j=>
   rw [hy]at hz;cases hi:VJ s.2 with
   | none=>rw[hi]at hz;cases hz
   | some kv=>
    rw[hi]at hz;dsimp only at hz;cases hv:z6 kv j with
    | none=>rw[hv]at hz;cases hz
    | some v=>
     rw[hv]at hz;cases oq9 hz;obtain⟨l,e,q,_⟩:=vkp kx.1 (by rw[e2];exact hi);refine⟨l,.int v,e,?_,?_⟩
     ·rw[qX gy (by rw[e4];exact hy)];have:=vkq j q;rw[hv]at this;exact this
     ·exact k _ _ rfl ⟨.dp,.int v,.int v,[]⟩ L2 H2 rfl rfl m2 w2 (show RepL Z.K H2 false (.int v) (.int v) []from wj) (λ_ hb=>nomatch hb) (λ_ hb=>nomatch hb) (st.trans c8) λhq=>qv (sm hq) (dq rfl)
  |_=>rw[hy]at hz;cases hz
theorem qz7(kv:List (Int×Int))(k v:Int):(xQ kv k v).length<=kv.length+1:=by
 unfold xQ
 split
 ·rw[X4];omega
 ·rw[Xf];simp
end
end Q
namespace PySem
theorem qjw:typeLookup (.type "list") "keys"=pure none:=am_miss_of_fast (by decide +kernel)
theorem kqj{prog:Program}{w:World}{A:Around}{E:Value->Shared->Prop}{s:Shared}{a:Addr}{o:Obj}{xs:Array Value}{k:Nat}{Q:Option Value->Shared->Prop}
  (hx:s.heap.get? a=some o) (hc:o.cls=.type "list") (i7:o.data=.seq xs k) (hd:o.dict=none) (hA:A.handled=none)
  (h:∀h' tk,(∀b ob,s.heap.get? b=some ob->h'.get? b=some ob)->Q none { s with heap:=h',toks:=tk }):
  wpAny (model prog w) A (getAttr? (.ref a) "keys") Q E s:=by
 obtain⟨c,dct,dat,sl⟩:=o;simp only at hc i7 hd;subst hc i7 hd;obtain⟨hp,g,d,tk,os⟩:=s;have hT:∀mr,(⟨hp,g,d,mr,os⟩:Shared).TypeIs (.ref a) "list":=λ_=>⟨_,hx,rfl⟩
 have f1:=sub_AttributeError;have f3:=F.slot_list_getattribute.lookup;have f4:=F.slot_list_getattribute.bind (.ref a);have f5:=am_list_getattr_none;unfold getAttr? getAttrBy? getAttrBy
 repeat (any_goals (first|assumption|exact hT _|((with_reducible show wpAny _ _ (call (Value.builtin "list.__getattribute__") _ _) _ _ _);refine call_meets F.slot_list_getattribute (hT _) am_entry_list_getattribute (F.args_list_getattribute_2 _ _) (meets_getattribute_miss_list a xs k sl "keys" _ qjw ⋯ ⋯) ⟨hx,hA,λh' mr e hx'=>?_⟩)|wp_step))
 obtain⟨t',u',he⟩:=hx'.there;show wpAny _ _ (getattributeRaised _ _ _ _ _ _ _) _ _ _;unfold getattributeRaised
 repeat (any_goals (first|assumption|wp_step))
 exact h _ _ hx'.keeps
namespace F
theorem entry_dict_update_loop:entryFor table "dict.update.loop"=some Builtin.«dict.update.loop»:=entryFor_of_tree (by kernel_rfl)
theorem plain_dict_update_loop:plainId "dict.update.loop"=true:=by decide +kernel
end F
section
variable {prog:Program}{w:World}{A:Around}{R:Result->Shared->Prop}{I:Addr}{fp wr:List Addr}{G:Array GenState->Array GenState->Prop}{n:Nat}{P:Nat->Value->Prop}{St:Nat->Shared->Prop}{K:Type}[DecidableEq K]{knd:KeyKind prog w K}
theorem qk2{s:Shared}{T:Addr}{u v:Value}{E:Value->Shared->Prop}{Q:List Value->Shared->Prop}(h:s.heap.IsTuple T #[u,v])(hq:Q [u,v] s):wpAny (model prog w) A (Builtin.Dict.pairItems (.ref T)) Q E s:=by
 obtain⟨o,ho,hc,m,hd⟩:=h;have hT:s.TypeIs (.ref T) "tuple":=⟨o,ho,hc⟩;unfold Builtin.Dict.pairItems;refine X0 (wpAny_typeOf hT ?_);obtain⟨hp,g,d,tk,os⟩:=s;obtain⟨cls,dct,dat,sl⟩:=o;simp only at hc hd;subst hc hd
 repeat (any_goals (first|assumption|wp_step))
theorem jz2(W:WalksS prog w A.in1 I fp wr G n P St)(S:Addr)(m8:S∉fp){h₀:Heap}{more:List (K×Value)}(hn:more.length=n)(hz:n<=sizeLine)
  (km:∀i v,P i v->∃T u x k,v=.ref T/\T∉S::wr/\h₀.IsTuple T #[u,x]/\more[i]?=some (k,x)/\knd.is k u=true):
  ∀(k i:Nat) (c:Tok) (s:Shared),n - i=k->i<=n->St i s->(∀b o,b∉S::wr->h₀.get? b=some o->s.heap.get? b=some o) ->
   s.heap.DictOf knd S (merged [] (more.take i)) ->
   (∀s',Moved (S::wr) G s s'->s'.heap.DictOf knd S (merged [] more)->R (.ok (.ret .none)) s') ->
   codeAny (model prog w) A (.builtin "dict.update.loop" ⟨[.ref S,.ref I,.int i c,.none],[]⟩) R s:=by
 have so:S∉wr:=λh=>m8 (W.sub _ h)
 have ff:∀b∈wr,b∈S::wr:=λb hb=>lc9 _ hb
 intro k
 induction k with
 | zero=>
  intro i c s hk hi cq hh hS hR;have iz:i=n:=⋯
  subst iz;refine Z1 F.entry_dict_update_loop ?_;rw[Yn F.plain_dict_update_loop _];show wpAny _ A.in1 (pyNext (.ref I) >>= _) _ _ s;refine X0 (W.done s _ _ cq λs' hm=>?_);show wpAny _ A.in1 (Builtin.Dict.addKeywords S [] >>= _) _ _ s';refine X0 (X2 (X2 (hR s' (hm.mono ff) ?_)));rw[<-hn,List.take_length]at hS;obtain⟨o,es,ep,ho,jq⟩:=hS;exact⟨o,es,ep,hm.heap S _ so ho,jq⟩
 | succ k ih=>
  intro i c s hk hi cq hh hS hR;have cx:i<n:=⋯
  refine Z1 F.entry_dict_update_loop ?_;rw[Yn F.plain_dict_update_loop _];show wpAny _ A.in1 (pyNext (.ref I) >>= _) _ _ s;refine X0 (W.item i s _ _ cx cq λv s' hP nu hm=>?_);obtain⟨T,u,x,kk,rfl,hTn,hT,hmo,lz⟩:=km i v hP;have iy:s'.heap.DictOf knd S (merged [] (more.take i)):=by
   obtain⟨o,es,ep,ho,jq⟩:=hS;exact⟨o,es,ep,hm.heap S _ so ho,jq⟩
  have t7:s'.heap.IsTuple T #[u,x]:=by
   obtain⟨o,ho,jq⟩:=hT;exact⟨o,hm.heap T o (λz=>hTn (lc9 _ z)) (hh T o hTn ho),jq⟩
  have gf:(merged [] (more.take i)).length<=sizeLine:=by
   have e1:=merged_length_le ([]:List (K×Value)) (more.take i);have e2:(more.take i).length<=more.length:=by rw[Ya];omega
   have e3:([]:List (K×Value)).length=0:=rfl;omega
  show wpAny _ A.in1 (holding [Value.ref T] _ >>= _) _ _ s';refine X0 (Xz (X0 (wpAny_tryCatch (qk2 t7 ?_))));show wpAny _ A.in1 (holding [u,x] (dictSet S u x)) _ _ s';refine Xz (wpAny_dictSet_pairs (hsz:=gf) lz iy λh' jy jm=>?_);refine X2 ⟨plainId_quiet F.plain_dict_update_loop _,?_⟩;show codeAny _ _ (.builtin "dict.update.loop" ⟨[.ref S,.ref I,.int ((i+1:Nat):Int) 0,.none],[]⟩) R _;refine ih (i+1) 0 _ ⋯ cx (W.frame _ s' _ _ nu (Nat.le_succ _) λb hb o e=>?_) (λb o hb e=>?_) (by rw[merged_take_succ [] more i (kk,x) hmo];exact jy) λjg nk n6=>?_
  ·rw[jm.2 b (λh:b=S=>m8 (by rw[<-h];exact hb))];exact e
  ·have hbS:b≠S:=λz=>hb (by rw[z];exact X7)
   show h'.get? b=_;rw[jm.2 b hbS];exact hm.heap b o (λz=>hb (lc9 _ z)) (hh b o hb e)
  ·refine hR jg (Moved.trans W.gtrans ((hm.mono ff).then_heap (Nat.le_succ _) λb o hb e=>?_) nk) n6;rw[jm.2 b (λh:b=S=>hb (by rw[h];exact X7))];exact e
theorem kk5{E:Value->Shared->Prop}{s:Shared}{l:Addr}{items:Array Value}{more:List (K×Value)}{o:Obj}{m:Nat}{Q:Value->Shared->Prop}
  (hh:A.handled=none) (ho:s.heap.get? l=some o) (hc:o.cls=.type "list") (i7:o.data=.seq items m) (hd:o.dict=none) (hn:more.length=items.size) (hz:items.size<=sizeLine)
  (km:∀(i:Nat) (v:Value),items[i]?=some v->∃T u x k,v=.ref T/\s.heap.IsTuple T #[u,x]/\more[i]?=some (k,x)/\knd.is k u=true)
  (h:∀(h':Heap) (tk:Nat),h'.DictOf knd s.heap.objs.size (merged [] more)->(∀b o,b<s.heap.objs.size->s.heap.get? b=some o->h'.get? b=some o)->Q (.ref s.heap.objs.size) { s with heap:=h',toks:=tk }):
  wpAny (model prog w) A (call (.type "dict") [.ref l]) Q E s:=by
 refine callType_codes (Q₁:=λobj s₁=>obj=Value.ref s.heap.objs.size/\s₁={ s with heap:=s.heap.push { cls:=Value.type "dict",data:=Data.dict #[] } }) F.kt_called_dict (F.kt_typeCall_dict_1 _) F.entry_dict_init (kt_code_dict_new _ ⟨rfl,rfl⟩) ?_;rintro obj s₁ ⟨rfl,rfl⟩;have dz:(s.heap.push { cls:=.type "dict",data:=.dict #[] }).DictOf knd s.heap.objs.size []:=Heap.DictOf.new s.heap;have ja:(s.heap.push { cls:=.type "dict",data:=.dict #[] }).get? l=some o:=X1 _ ho;have hT:Shared.TypeIs { s with heap:=s.heap.push { cls:=.type "dict",data:=.dict #[] } } (.ref l) "list":=⟨_,ja,hc⟩;have t6:l<s.heap.objs.size:=Xa ho;refine⟨dz.typeIs,F.args_dict_init_2 _ _,?_⟩;unfold Builtin.«dict.__init__»;refine X0 ?_;unfold Builtin.Dict.selfAndRest;refine X0 (wpAny_notOrdered_dict dz.typeIs ?_);show wpAny _ _ (pure (s.heap.objs.size,[Value.ref l])) _ _ _;refine X2 ?_;show wpAny _ _ (Builtin.Dict.updateFrom "dict.__init__" s.heap.objs.size (.ref l) [] .none) _ _ _;unfold Builtin.Dict.updateFrom;refine X0 (wpAny_typeOf hT ?_);rw[X8 ⋯];refine X0 (kqj ja hc i7 hd (by simp[hh]) λh' tk hk=>?_);rw[X8 (show(none:Option Value).isNone=true from rfl)];have hkS:∀b q,s.heap.get? b=some q->h'.get? b=some q:=λb q e=>hk b q (X1 _ e)
 have gw:h'.IsList l items:=⟨o,hkS _ _ ho,hc,m,i7⟩;have hS1:h'.DictOf knd s.heap.objs.size []:=by
  obtain⟨q,es,ep,hq,jq⟩:=dz;exact⟨q,es,ep,hk _ _ hq,jq⟩
 have ll:s.heap.objs.size<h'.objs.size:=by
  obtain⟨q,es,ep,hq,jq⟩:=hS1;exact Xa hq
 refine X0 (Zj (X0 (wpAny_pyIter_list gw ?_)));refine X2 ⟨plainId_quiet F.plain_dict_update_loop _,?_⟩;have hneI:l≠h'.objs.size:=Xg (Nat.lt_trans t6 ll);refine jz2 (h₀:=s.heap) (A:=A.in1) ((Walks.list (A:=A.in1.in1) (by simp[hh]) h'.objs.size l hneI items).toS) s.heap.objs.size ?_ hn hz (λi v hv=>?_) (items.size - 0) 0 0 _ ⋯ (Yg _)
  ⟨⟨_,X6 _ rfl,rfl,rfl⟩,gw.push _⟩ (λb q hb e=>X1 _ (hkS b q e)) (hS1.push _) λs' hm iy=>?_
 ·simp only[Y6,Xq,or_false,not_or];exact⟨Xg ll,Nat.ne_of_gt t6⟩
 ·obtain⟨T,u,x,k,e1,e2,e3,e4⟩:=km i v hv;refine⟨T,u,x,k,e1,?_,e2,e3,e4⟩;obtain⟨q,hq,_⟩:=e2;have:=Xa hq;simp only[Y6,Xq,or_false,not_or];exact⟨Xg this,Xg (Nat.lt_trans this ll)⟩
 ·obtain⟨h2,g',d',mr,nj⟩:=s';have eg:g'=s.gens:=hm.gens;have ed:d'=s.drawn:=hm.drawn;have eo:nj=s.os:=hm.os;subst eg;subst ed;subst eo;refine⟨rfl,h h2 mr iy λb q hb e=>?_⟩;refine hm.heap b q ?_ (X1 _ (hkS b q e));simp only[Y6,Xq,or_false,not_or];exact⟨Xg hb,Xg (Nat.lt_trans hb ll)⟩
end
end PySem
namespace Q
open PySem PySem.Spec PyProof.Rows L2 L3
noncomputable def qqo(K:Frag):List V->Hp->VK->Prop:=λxs H Q=>∃(a:Addr) (ts:List V) (ps:List (Int×Int)),xs=[.ref a]/\SqL K H a ts/\ts.length=ps.length /\
 (∀i (h:i<ps.length),∃T,ts[i]?=some (.ref T)/\SqT K H T [.int ps[i].1,.int ps[i].2])/\ps.length<big/\∀l,H l=none->Q (.ref l) (upd H l (.dK (dkI (ps.foldl (λkv p=>xQ kv p.1 p.2) []))))
theorem kw1:∀(ps kv:List (Int×Int)),(ps.foldl (λkv p=>xQ kv p.1 p.2) kv).length<=kv.length+ps.length
 |[],kv=>by simp
 |p::ps,kv=>by
  rw[List.foldl_cons,Xm];have:=kw1 ps (xQ kv p.1 p.2);have:=qz7 kv p.1 p.2;omega
theorem qwh:∀(ps:List (Int×Int)) (more:List (Key×Value)) (kv:List (Int×Int)) (vs:List (Key×Value)),KV (dkI ps) more->KV (dkI kv) vs->KV (dkI (ps.foldl (λkv p=>xQ kv p.1 p.2) kv)) (more.foldl (λao kv=>stored ao kv.1 kv.2) vs)
 | [],_,kv,vs,h,h'=>by cases h;exact h'
 | p::ps,_,kv,vs,h,h'=>by
  cases h with
  |cons h1 h2=>
   rename_i m more;obtain⟨k,x⟩:=m;obtain⟨e,rx⟩:=h1;have e:(Sum.inl p.1:Key)=k:=e;subst e;rw[List.foldl_cons,List.foldl_cons];refine qwh ps more _ _ h2 ?_;rw[<-vzw];exact KV.put h' _ rx
theorem qvn{X:Cx}{pins:List (Addr×Obj)}{O:L2.St}{H:Hp}{s:Shared}(I:Inv X pins O H s):∀(ps:List (Int×Int)) (ts:List V) (ah:List Value),ts.length=ps.length ->
  (∀ i (h:i<ps.length),∃T,ts[i]?=some (.ref T)/\SqT X.K H T [.int ps[i].1,.int ps[i].2])->Vals ts ah ->
  ∃ more:List (Key×Value),more.length=ah.length/\KV (dkI ps) more/\∀(i:Nat) (v:Value),ah[i]?=some v->∃T u x k,v=.ref T/\s.heap.IsTuple T #[u,x]/\more[i]?=some (k,x)/\(xx X.prog X.w).is k u=true
 | [],ts,ah,hl,_,hv=>by
  cases ts with| nil=>cases hv;exact⟨[],rfl,.nil,λi v h=>by simp at h⟩| cons=>cases hl
 | p :: ps,[],_,hl,_,_=>by cases hl
 | p :: ps,t::ts,_,hl,hp,hv=>by
  cases hv with
  | cons h1 h2=>
   rename_i u us;obtain⟨T,e1,e2⟩:=hp 0 (by simp);have e1:t=.ref T:=by simpa using e1
   subst e1;cases h1;obtain⟨ii,rv,tp,_⟩:=I.tuple e2;obtain⟨u1,u2,rfl,r1,r2⟩:∃u1 u2,ii=[u1,u2]/\RelV (.int p.1) u1/\RelV (.int p.2) u2:=by
    cases rv with
    |cons a b=>
     cases b with|cons c d=>cases d;exact⟨_,_,rfl,a,c⟩
   obtain⟨more,m1,m2,m3⟩:=qvn I ps ts us (by simpa using hl) (λi h=>by
    obtain⟨T,a,b⟩:=hp (i+1) (by simpa using h);exact⟨T,by simpa using a,by simpa using b⟩) h2
   refine⟨(Sum.inl p.1,u2)::more,by rw[Xm,Xm,m1],.cons ⟨rfl,r2⟩ m2,λi v h=>?_⟩;cases i with
   |zero=>
    have h:Value.ref T=v:=by simpa using h
    subst h;exact⟨T,u1,u2,Sum.inl p.1,rfl,tp,rfl,qzx (k:=Sum.inl p.1) r1⟩
   |succ i=>exact m3 i v (by simpa using h)
theorem qkj{X:Cx}(hc:autoParam (X.calm=true) Ŕ):CallR X (.type "dict") (qqo X.K):=by
 intro pins s O H xs us Q I r h;obtain⟨a,ts,ps,rfl,hq,hl,hp,hb,q⟩:=h;obtain⟨u,rfl,rx⟩:=z5 r;cases rx;obtain⟨ah,rv,⟨o,n,ho,en,hd,i7⟩,hz⟩:=I.list hq;obtain⟨more,m1,m2,m3⟩:=qvn I ps ts ah hl hp rv;refine kk5 (knd:=xx X.prog X.w) (more:=more) (I.ok.hd hc) ho en i7 hd (by rw[m1];simp) (by rw[X5,<-rv.length];exact hz) (λi v hv=>m3 i v (by simpa using hv)) λh' tk dd kp=>?_
 have ka:=I.big;refine⟨.ref s.heap.objs.size,_,I.laid (a:=s.heap.objs.size) (o:=.dK (dkI (ps.foldl (λkv p=>xQ kv p.1 p.2) []))) (t':=tk) (λb ob e=>kp b ob (Xa e) e) (X9 _) (wky ?_ (Y9 (Nat.ne_of_gt ka)) (qwh ps more [] [] m2 .nil) dd),rfl,q _ (I.hok.fresh (X9 _))⟩;rw[X4];have:=kw1 ps [];have e3:([]:List (Int×Int)).length=0:=rfl;have:big=sizeLine:=rfl;omega
theorem qqz:∀{ds:List D} {ps:List (Int×Int)},Q8 ds=some ps->ds=ps.map λp=>D.tup [.int p.1,.int p.2]
 | [],ps,h=>by cases oq9 h;rfl
 | .tup [.int a,.int b]::r,ps,h=>by
  have h:(Q8 r).map ((a,b):: ·)=some ps:=h;cases hr:Q8 r with
  |none=>rw[hr]at h;cases h
  |some q=>
   rw[hr]at h;cases oq9 h;rw[List.map_cons,<-qqz hr]
theorem qqy : ∀(ps : List (Int × Int)), Q8 (ps.map λp=>D.tup [.int p.1, .int p.2]) = some ps
  | []=>rfl
  | (a, b)::r=>by
    show(Q8 (r.map λp=>D.tup [.int p.1, .int p.2])).map ((a, b):: ·) = _;rw[qqy r]; rfl
theorem vjv{K:Frag}:Ad1 K (λv H Q=>qqo K [v] H Q) W5:=by
 intro H x s Q ok hf k;unfold W5 at hf;cases hx:x.d with
 | lst ds=>
  rw [show(x.o,x.d).2=D.lst ds from hx]at hf;dsimp only at hf;cases hp:Q8 ds with
  | none=>rw[hp]at hf;cases hf
  | some ps=>
   rw[hp]at hf;dsimp only at hf
   by_cases hl:ps.length<big
   ·rw[X8 hl]at hf;cases oq9 hf;have e:=qqz hp;subst e;obtain⟨a,xs,bs,ev,q1,ra⟩:=items ok (.inl hx);have hq:SqL K H a xs:=by
     rcases q1 with⟨_,z⟩|⟨z,_⟩
     ·exact z.sq
     ·rw[hx]at z;cases z
    refine⟨a,xs,ps,by rw[ev],hq,by rw[<-ra.1.len,X4],λi hi=>?_,hl,λl lq=>k ⟨.rt,K2 _,.ref l,[l]⟩ _ rfl rfl ⟨vq lq,⟨l,_,[],rfl,vvp _,.inr ⟨(ps.foldl (λkv p=>xQ kv p.1 p.2) []).map λp=>(p.1,V.int p.2),"",by rw[vK,Xs];rfl,by unfold mkD;rw[List.map_cons,Xs,Xs];rfl,by rw[Xs];rfl⟩,rfl⟩,λb hb=>?_,by simp[Sl.own],λb hb=>?_⟩⟩
    ·obtain⟨v,cs,g1,g2,_⟩:=RepA.get (i:=i) (d:=D.tup [.int ps[i].1,.int ps[i].2]) ra.1 (by rw[Xp,X3 hi];rfl);unfold RepL at g2;obtain⟨T,ys,e1,e2,e3⟩:=g2;refine⟨T,by rw[g1,e1],?_⟩;unfold RepA at e3;obtain⟨y1,r1,_,_,rfl,_,f1,f2⟩:=e3;unfold RepA at f2;obtain⟨y2,r2,_,_,rfl,_,f3,f4⟩:=f2;unfold RepA at f4;obtain⟨rfl,_⟩:=f4;unfold RepL at f1 f3;rw[f1.1,f3.1]at e2;exact e2
    ·have:b=l:=by simpa [Sl.own]using hb
     exact this▸lq
    ·simp[Sl.frz]at hb
   ·rw[Xb hl]at hf;cases hf
 |_=>rw[show(x.o,x.d).2=_ from hx]at hf;cases hf
theorem qx3{X:Cx}(K:Frag)(hK:autoParam (X.K=K) Ŕ)(hc:autoParam (X.calm=true) Ŕ):CallR X (.type "dict") (qqo K):=by subst hK;exact qkj hc
end Q
namespace Q
open PySem PySem.Spec PyProof.Rows L2 L3
theorem vzk{X:Cx}{Z:Fx0}{q:Bool}{c:Ex}{o e:Expr}{z:Str}{br az:Pos}(ho:PE X o (tC (.str z)))(hc:QV X Z q c e)(hK:autoParam (X.K=Z.K) Ŕ)
  (cz:autoParam (attributeBase o "join" X.env (eval o X.env)=eval o X.env) Ŕ)
  (fk:autoParam (((backTo az (starEach [e] X.env)).all (λx=>!x.1)&&(backToKw az (keywordEach [] X.env)).all (λx=>x.1.isSome)
   && decide ([e].length+([]:List Keyword).length+(if([]:List Keyword).isEmpty then 0 else 1)<30))=true) Ŕ)
  (de:autoParam ((br.endLine==az.line)=true) Ŕ) (hs:autoParam (starEach [e] X.env=(false,eval e X.env)::starEach [] X.env) Ŕ) (bu:autoParam ((backTo az (starEach [] X.env)).any (·.1)=false) Ŕ):
  QE X Z q (vji z c) (.Call (.Attribute o "join" br) [e] [] az):=
 qx (wjf PySem.F.plainAttrs_str PySem.F.slot_str_join PySem.F.type_str_join vvn ho (qZ hc wq hs) cz fk de hs bu) fun O H Q b7=>ex8 b7 λE L r m w ij xc k=>by
  refine⟨?_,?_⟩
  ·rfl
  ·refine vk m w (show bnd (c E) _=some r from ij) xc λE1 s h1 x L1 H1 e1 e2 m1 w1 ok fr sr st sm=>?_
   obtain⟨y,hz,rfl⟩:=J3 h1;unfold qwn at hz;cases hx:s.2 with
   | lst ds=>
    rw [hx]at hz;dsimp only at hz;cases hp:zx ds with
    | none=>rw[hp]at hz;cases hz
    | some ys=>
     rw[hp]at hz;dsimp only at hz
     by_cases hl:(ys.map (·.length)).sum+ys.length*z.length<=100000
     ·rw[X8 hl]at hz;cases oq9 hz;obtain⟨a,xs,bs,ev,q1,ra⟩:=items ok (.inl (by rw[e2];exact hx));have hq:SqL Z.K H1 a xs:=by
       rcases q1 with⟨_,t⟩|⟨t,_⟩
       ·exact t.sq
       ·rw[e2,hx]at t;cases t
      have ex:=(kkq hp ra.1).1;subst ex;have av:(Txt.join z ys).length<=sizeLine:=joinOk_length (joinOk_of ⋯);refine⟨z,a,ys,rfl,by rw[ev],by rw[hK];exact hq,⋯,?_⟩;exact k _ _ rfl ⟨.dp,.str (Txt.join z ys),.str (Txt.join z ys),[]⟩ L1 H1 rfl rfl m1 (w1.consPu (x:=⟨.dp,.str (Txt.join z ys),.str (Txt.join z ys),[]⟩) (show RepL Z.K H1 false (.str _) (.str _) []from YZ av) rfl) (Q6 (x:=⟨.dp,.str (Txt.join z ys),.str (Txt.join z ys),[]⟩) st (λb hb=>nomatch hb) rfl) λhq=>⟨sm hq,λ_ t=>(nomatch t)⟩
     ·rw[Xb hl]at hz;cases hz
   |_=>rw[hx]at hz;cases hz
end Q
namespace PySem
section
variable {prog:Program}{w:World}{A:Around}{E:Value->Shared->Prop}{s:Shared}
theorem kw7(hh:A.handled=none)(it t:Addr)(bt:t≠it)(items:Array Value):Draws prog w A it [it,t] items.size (λi v=>items[i]?=some v) (λi h=>h.IsTupleIter it t i/\h.IsTuple t items) where
 live:=λ_ _ st=>let ⟨o,ho,_⟩:=st.1;⟨o,ho⟩
 frame:=λ_ _ _ st hk=>by
  obtain⟨⟨o,ho,r⟩,o2,im,r2⟩:=st;exact⟨⟨o,hk it (by simp) o ho,r⟩,o2,hk t (by simp) o2 im,r2⟩
 item:=λi s Q E hi st hQ=>by
  obtain⟨fh,ht⟩:=st;obtain⟨o,ho,hc,hd⟩:=id fh;obtain⟨o2,im,m6,n2,i5⟩:=id ht;have hx:items[i]?=some items[i]:=by simp[hi]
  unfold Builtin.SmallTypes.nextOf;refine X0 (Yd (name:=Str.ofString "__next__") fh.typeIs F.slot_tuple_iterator_next (Y0 F.slot_tuple_iterator_next fh.typeIs F.entry_tuple_iterator_next ?_ (F.args_tuple_iterator_next_1 _)));show wpAny _ _ (field (.ref it) 0 >>= _) _ _ s;refine X0 (Ys ho hd (x:=.ref t) rfl ?_);show wpAny _ _ (if(Value.ref t==Value.none)=true then _ else _) _ _ s;rw[Xb (show ¬((Value.ref t==Value.none)=true)from Bool.false_ne_true)];show wpAny _ _ (field (.ref it) 1 >>= _) _ _ s;refine X0 (Ys ho hd (x:=.int i 0) rfl ?_);show wpAny _ _ (seqItems? (.ref t) >>= _) _ _ s;refine X0 (Zg im i5 ?_);simp only[Xw,hx];refine X0 (Yk ho hd (by simp) (X2 ⟨items[i],rfl,X2 (hQ _ _ s.toks hx ⟨⟨_,Xx _ ho (Z9 (Z8 hd _)),(Obj.cls_mapFields ..).trans hc,by rw[Z8 hd];simp[rawInt]⟩,o2,(Z5 _ _ (Zi bt)).trans im,m6,n2,i5⟩ (Y7 ..))⟩))
 done:=λs Q E st hE=>by
  obtain⟨fh,ht⟩:=st;obtain⟨o,ho,hc,hd⟩:=id fh;obtain⟨o2,im,m6,n2,i5⟩:=id ht;have hx:items[items.size]?=none:=by simp
  unfold Builtin.SmallTypes.nextOf;refine X0 (Yd (name:=Str.ofString "__next__") fh.typeIs F.slot_tuple_iterator_next (Y0 F.slot_tuple_iterator_next fh.typeIs F.entry_tuple_iterator_next ?_ (F.args_tuple_iterator_next_1 _)));show wpAny _ _ (field (.ref it) 0 >>= _) _ _ s;refine X0 (Ys ho hd (x:=.ref t) rfl ?_);show wpAny _ _ (if(Value.ref t==Value.none)=true then _ else _) _ _ s;rw[Xb (show ¬((Value.ref t==Value.none)=true)from Bool.false_ne_true)];show wpAny _ _ (field (.ref it) 1 >>= _) _ _ s;refine X0 (Ys ho hd (x:=.int items.size 0) rfl ?_);show wpAny _ _ (seqItems? (.ref t) >>= _) _ _ s;refine X0 (Zg im i5 ?_);simp only[Xw,hx];refine X0 (Zj (X0 (Yk ho hd (by simp) ?_)));show wpAny _ _ (newExc (.type "StopIteration") [] >>= _) _ _ _;refine X0 ?_;simp only[newExc,newTuple];refine X0 (Xv ?_ (by size_fits));refine X0 (m:=firstArgMember _ _) (wpAny_of_eq (a:=Value.none) (by first|rfl|(simp only[firstArgMember];rfl)) ?_);refine Xv ?_ (by size_fits);simp only[raiseNew];refine X0 (wpAny_handled ?_)
  first|rw[show A.in1.handled=none from hh]|rw[hh]
  refine X0 (X2 (wpAny_throw ?_));exact hE _ _ (((Y7 ..).extBut.push _).push _) ⟨_,X6 _ rfl,rfl⟩
theorem vwd(t:Addr)(items:Array Value)(n:Nat)(dct:Option Addr)(sl:Array (Option Value)):
  Meets (Builtin.«enumerate.__new__» ⟨[.type "enumerate",.ref t],[]⟩) (λ_ R s=>s.heap.get? t=some { cls:=.type "tuple",dict:=dct,data:=.seq items n,slots:=sl } /\
   R (.ok (.ret (.ref (s.heap.push { cls:=.type "tuple_iterator",data:=.fields #[.ref t,.int 0 0] }).objs.size)))
    { s with heap:=(s.heap.push { cls:=.type "tuple_iterator",data:=.fields #[.ref t,.int 0 0] }).push { cls:=.type "enumerate",data:=.fields #[.none,.bool false,.ref s.heap.objs.size,rawInt 0,.none,.none] } }):=
 .of_wp λprog w A R s h=>by
  obtain⟨hp,g,d,tk,os⟩:=s;obtain⟨hl,h⟩:=h;have ff:=sub_enumerate;have hL:Heap.IsTuple (Shared.heap ⟨hp,g,d,tk,os⟩) t items:=⟨_,hl,rfl,n,rfl⟩
  wp_walk using AutoSeq1.wpAny_loadPart' hl
  refine wpAny_stack_any λst=>X2 ?_
  split
  ·rename_i c _ _ _ _ _;cases(c==Value.type "enumerate") <;>
   ·wp_walk using AutoSeq1.wpAny_loadPart' hl,wpAny_pyIter_tuple hL
    exact⟨_,rfl,h⟩
  ·wp_walk using AutoSeq1.wpAny_loadPart' hl,wpAny_pyIter_tuple hL
   exact⟨_,rfl,h⟩
theorem vj8{t:Addr}{items:Array Value}{Q:Value->Shared->Prop}(hL:s.heap.IsTuple t items)
  (h:∀h',IsEnum h' (s.heap.objs.size+1) s.heap.objs.size 0 .none->h'.IsTupleIter s.heap.objs.size t 0->h'.objs.size=s.heap.objs.size+2 ->
   (∀b o,s.heap.get? b=some o->h'.get? b=some o)->Q (.ref (s.heap.objs.size+1)) { s with heap:=h' }):
  wpAny (model prog w) A (call (.type "enumerate") [.ref t]) Q E s:=by
 obtain⟨⟨c,dct,dt,sl⟩,hl,hc,n,hd⟩:=hL
 replace hc:c=.type "tuple":=hc
 replace hd:dt=.seq items n:=hd
 subst hc hd;refine callType_new F.called_enumerate ⋯ (F.typeCall_enumerate_1 _) (F.newCall_enumerate_1 _) (λobj=>F.args_object_init_2 obj _) F.entry_enumerate_new (vwd t items n dct sl) ⟨hl,?_⟩;have hz:(s.heap.push { cls:=.type "tuple_iterator",data:=.fields #[.ref t,.int 0 0] }).objs.size=s.heap.objs.size+1:=Zf ..;show _/\_;rw[hz];have he:IsEnum ((s.heap.push { cls:=.type "tuple_iterator",data:=.fields #[.ref t,.int 0 0] }).push { cls:=.type "enumerate",data:=.fields #[.none,.bool false,.ref s.heap.objs.size,rawInt 0,.none,.none] }) (s.heap.objs.size+1) s.heap.objs.size 0 .none:=by
  have:=X6 (s.heap.push { cls:=.type "tuple_iterator",data:=.fields #[.ref t,.int 0 0] }) (o:={ cls:=.type "enumerate",data:=.fields #[.none,.bool false,.ref s.heap.objs.size,rawInt 0,.none,.none] }) rfl;rw[hz]at this;exact this
 exact⟨⟨_,he,rfl⟩,h _ he ⟨_,X1 _ (X6 _ rfl),rfl,rfl⟩ (by rw[Zf,hz]) λb o x=>X1 _ (X1 _ x)⟩
end
end PySem
namespace Q
open PySem PySem.Spec PyProof.Rows L2 L3
def ItT(K:Frag)(l:Addr):It:=⟨λi H=>∃xs x,SqT K H l xs/\xs[i]?=some x,
 λi H v H'=>∃T x,H T=none/\v=.ref T/\H'=upd H T (.tup [.int i,x])/\∀xs,SqT K H l xs->xs[i]?=some x,
 λi H=>∃xs,SqT K H l xs/\xs.length=i⟩
theorem qxn{P:Program}{w:PySem.World}{K:Frag}{fm:List Expr}{k1:Nat}{pos:Pos}{e it l:Addr}(n1:e≠it)(n2:l≠e)(n3:l≠it):
  Turn P w K (.Tuple fm k1 pos) (ItT K l) [e,it] e (λi h=>(∃f8,IsEnum h e it (i:Int) f8)/\h.IsTupleIter it l i) where
 mem:=by simp
 obj:=λi h st b hb=>by
  obtain⟨⟨f8,h1⟩,o4,e4,c4,d4⟩:=st;simp only[Y6,Xq,or_false]at hb;rcases hb with rfl|rfl
  ·exact⟨_,h1,λv z=>by cases z⟩
  ·exact⟨_,e4,λv z=>by rw[d4]at z;cases z⟩
 keep:=λi h h' st k=>by
  obtain⟨⟨f8,h1⟩,o4,e4,c4,d4⟩:=st;exact⟨⟨f8,k _ (by simp) _ h1⟩,o4,k _ (by simp) _ e4,c4,d4⟩
 item:=by
  intro X hP hw hK hc i pins s O H E I hf st hg;subst hP hw hK;obtain⟨xs,x,q1,hx⟩:=hg;obtain⟨i6,rv1,p1,ou⟩:=I.tuple q1;obtain⟨u1,hu1,ru1⟩:=rv1.get hx;obtain⟨⟨f8,t1⟩,t2⟩:=st;have hi:i<i6.toArray.size:=by rw[X5];exact(List.getElem?_eq_some_iff.mp hu1).1
  refine wpAny_pyNext_enum_itemD (kw7 (A:=X.A.in1) (by have:=I.ok.hd hc;simpa using this) it l n3 i6.toArray) t1 ⟨t2,p1⟩ hi n1 (by simp only[Y6,Xq,or_false,not_or];exact⟨n1,n2.symm⟩) λu2 h1 tk hP2 g1 g2 gT gs gk=>?_
  have e2:u2=u1:=by
   have:i6[i]?=some u2:=by simpa using hP2
   rw[hu1]at this;exact(oq9 this).symm
  subst e2;refine⟨_,rfl,wpAny_letOwnedTupleGo_enum (s:={ s with heap:=h1,toks:=tk+1 }) g1 λh2 f1 sb=>?_⟩;have fT:v8 X pins H s.heap.objs.size:=I.fpOk (X9 _) (I.hok.fresh (X9 _));have nT:∀b∈[e,it],b≠s.heap.objs.size:=λb hb ee=>by
   obtain⟨o,eo,_⟩:∃o,s.heap.get? b=some o/\True:=by
    simp only[Y6,Xq,or_false]at hb;obtain⟨o4,e4,_⟩:=t2;rcases hb with rfl|rfl
    ·exact⟨_,t1,trivial⟩
    ·exact⟨_,e4,trivial⟩
   exact absurd (Xa eo) (by rw[ee];exact Yh _)
  have kk:∀b o,b∉[e,it]->s.heap.get? b=some o->h2.get? b=some o:=λb o hb ee=>by
   simp only[Y6,Xq,or_false,not_or]at hb;exact(sb.2 b hb.1).trans (gk b o hb.1 hb.2 ee)
  have I1:L2.Inv X pins O H { s with heap:=h2,toks:=tk+1 }:=jwu [e,it] I kk hf;have nz:s.heap.objs.size≠e:=λee=>nT e (by simp) ee.symm
  have I2:=kjg (a:=s.heap.objs.size) (o:=.tup [.int (i:Int),x]) I1 fT.1 fT.2.1 fT.2.2.2.1 fT.2.2.2.2.1 fT.2.2.2.2.2
   (show ObjOk X.prog X.w _ h2 _ (.tup [.int (i:Int),x])from⟨by show(2:Nat)<=sizeLine;decide,[.int i tk,u2],.cons ⟨_,rfl⟩ (.cons ru1 .nil),⟨_,(sb.2 _ nz).trans gT,rfl,rfl,0,rfl⟩⟩)
  refine⟨.ref s.heap.objs.size,_,I2,rfl,⟨_,x,fT.1,rfl,rfl,λzs hzs=>by rw[I.tuple_inj hzs q1];exact hx⟩,?_,λb hb=>by rw[kz (nT b hb)];exact(hf b hb).1⟩;obtain⟨o4,e4,c4,d4⟩:=g2.1;exact⟨⟨u2,f1⟩,o4,(sb.2 _ n1.symm).trans e4,c4,d4⟩
 done:=by
  intro X hP hw hK hc i pins s O H E I hf st hg;subst hP hw hK;obtain⟨xs,q1,hx⟩:=hg;obtain⟨i6,rv1,p1,ou⟩:=I.tuple q1;obtain⟨⟨f8,t1⟩,t2⟩:=st;have gw:=rv1.length;have hsz:i6.toArray.size=i:=by rw[X5,<-gw];exact hx
  refine wpAny_pyNext_enum_endD (kw7 (A:=X.A.in1) (by have:=I.ok.hd hc;simpa using this) it l n3 i6.toArray) t1 (by rw[hsz];exact⟨t2,p1⟩) λh' kk=>⟨rfl,?_⟩
  refine jwu (t':=s.toks) [it] I (λb o hb ee=>kk b o (by simpa using hb) ee) λb hb=>hf b (by
   simp only[Y6,Xq,or_false]at hb ⊢;exact .inr hb)
 self:=λ_ _ _ _ _ st h=>by obtain⟨⟨f8,h1⟩,_⟩:=st;exact wpAny_pyIter_enum h1 h
abbrev iEnT(K:Frag)(ta:TA):TI:=fun O H R=>ta O H λvs H1=>∃l,vs=[.ref l]/\(∃xs,SqT K H1 l xs/\(xs.length<=sizeLine->R (ItT K l) H1))
section
variable {X:Cx}{Z:Fx0}{K:Frag}{pn:List Nat}{q:Bool}{c:Ex}{e:Expr}{O:L2.St}{H:Hp}{L:Ls}{E:En}{pos p i8:Pos}{fm:List Expr}{k1:Nat}
theorem wj7(K:Frag){ta:TA}(hg:Gl X "enumerate")(hm:X.mg "enumerate"=none)(ha:PA X [e] ta)(hK:autoParam (X.K=K) Ŕ)
  (hs:autoParam (starEach [e] X.env=[(false,eval e X.env)]) Ŕ):PI X (.Tuple fm k1 i8) (.Call (.Name "enumerate" p) [e] [] pos) (iEnT K ta):=by
 subst hK;intro pins s O H R I h;refine Call_ (Jk I hg hm kwh (Y5 (thn (ha pos pins s O H _ I h) λus s1 ⟨vs,H1,I1,r1,q1⟩=>?_) (by rw[hs];rfl) rfl));obtain⟨l,rfl,xs,q1,q⟩:=q1;obtain⟨u1,rfl,e1⟩:=z5 r1;cases e1;obtain⟨i6,rv1,p1,ou⟩:=I1.tuple q1;have lt:l<s1.heap.objs.size:=by obtain⟨_,ee,_⟩:=p1;exact Xa ee
 refine vj8 p1 λh' g1 g2 gs gk=>?_
 refine wpAny_pyIter_enum g1 ⟨_,[_,s1.heap.objs.size],_,_,H1,rfl,I1.kept (t':=s1.toks) gk,
  qxn (e:=s1.heap.objs.size+1) (it:=s1.heap.objs.size) (l:=l) (Nat.succ_ne_self _) (Xg (Nat.lt_succ_of_lt lt)) (Xg lt),⟨⟨_,g1⟩,g2⟩,λb hb=>?_,q ou⟩
 have gf:s1.heap.objs.size<=b:=by
  simp only[Y6,Xq,or_false]at hb;rcases hb with rfl|rfl<;>omega
 exact I1.fpOk gf (I1.hok.fresh gf)
theorem qky{x:Sl}{es:List D}{l:Addr}{H1:Hp}(hx:x.d=.tup es)(ev:x.v=.ref l):∀H2:Hp,x.let.ok K H2->∃ys cs,SqT K H2 l ys/\RepA K H2 true es ys cs/\∀b∈cs,b∈x.as:=λH2 hok=>by
 obtain⟨a',ys,cs,nh,q4,r4,h4,_⟩:=items hok (.inr hx);have:a'=l:=by have:=nh.symm.trans ev;exact V.ref.inj this
 subst this;rcases q4 with⟨z,_⟩|⟨_,z⟩
 ·rw[show x.let.d=D.tup es from hx]at z;cases z
 ·exact⟨ys,cs,z,r4,h4⟩
theorem vqn(h:QE X Z q c e)(hg:Gl X "enumerate")(hm:X.mg "enumerate"=none)(hK:autoParam (X.K=Z.K) Ŕ)(hs:autoParam (starEach [e] X.env=[(false,eval e X.env)]) Ŕ):QI X Z q (.Tuple fm k1 i8) (qzz c) (.Call (.Name "enumerate" p) [e] [] pos):=λpins s O H R I b7=>ex8 b7 λE L r m w hc xc k=>by
 refine(wj7 Z.K hg hm (qZ h wq hs) hK hs) pins s O H R I ?_;refine Wk m w (show bnd (c E) _=some r from hc) xc λE1 s h1 x L1 H1 e1 e2 m1 w1 st sm=>?_
 obtain⟨ds,hd,rfl⟩:=J3 h1;have ok:=w1.head;have wT:World Z.K H1 (L1++[x.let].map some):=by
  refine World.comm (L:=[some x.let]) ?_;exact w1.tail.consNo (V7 ok) rfl λb hb=>w1.apart b hb
 have sT:Step H L H1 (L1++[x.let].map some):=by
  refine⟨st.keep,λb hb=>?_,λb hb=>?_⟩
  ·have:b∈j7 L1:=by simpa [QZ]using hb
   exact st.own b (by rw[kw];exact lr9 _ this)
  ·have:b∈jY L1\/b∈x.as:=by simpa [QZ]using hb
   rcases this with z|z
   ·exact st.frz b (by rw[v9];exact lr9 _ z)
   ·exact kkt st b z
 cases hx:x.d with
 | tup es=>
  rw[<-e2,hx]at hd;have jy:xV 0 es=ds:=oq9 hd;subst jy;obtain⟨a,xs,bs,ev,q3,r3,h3,_⟩:=items ok (.inr hx);have q3:SqT Z.K H1 a xs:=by rcases q3 with⟨z,_⟩|⟨_,z⟩;rw[hx]at z;cases z;exact z
  have again:=qky (K:=Z.K) (H1:=H1) hx ev;refine⟨a,by rw[ev],xs,q3,λav=>k _ _ rfl (ItT Z.K a) [x.let] L1 H1 m1 wT sT (by rw[jxb,r3.len];exact av) (λhq=>(sm hq).1) ⟨λt ht=>by rw[aC ht];rfl,λi H2 hok hi=>?_,λH2 hok=>?_,λi H2 v H3 d hok hy gp=>?_⟩⟩
  ·obtain⟨ys,cs,s1,s2,_⟩:=again H2 (hok _ (aB rfl));have hl:=s2.len;rw[jxb]at hi;exact⟨ys,ys[i]'⋯,s1,X3 ⋯⟩
  ·obtain⟨ys,cs,s1,s2,_⟩:=again H2 (hok _ (aB rfl));exact⟨ys,s1,by rw[jxb,s2.len]⟩
  ·obtain⟨ys,cs,s1,s2,s3⟩:=again H2 (hok _ (aB rfl));obtain⟨T,x',hT,rfl,rfl,hy⟩:=hy;rw[kw5]at gp;cases hes:es[i]? with
   |none=>rw[hes]at gp;cases gp
   |some d0=>
    rw[hes]at gp;cases oq9 gp;obtain⟨v',dn,f1,f2,f3⟩:=s2.get hes;have:v'=x':=by have:=hy ys s1;rw[f1]at this;exact oq9 this
    subst this;have rp:=qz0 (v1:=.int ((0+i:Nat):Int)) hT wj f2;rw[show((0+i:Nat):Int)=(i:Int)from by omega]at rp ⊢;exact⟨⟨.no,_,.ref T,[]++dn⟩,rfl,rfl,rfl,vq hT,rp,λb hb=>⟨x.let,aB rfl,s3 b (f3 b (by simpa using hb))⟩⟩
 |_=>rw[<-e2,hx]at hd;cases hd
end
end Q
namespace Q
open PySem PySem.Spec PyProof.Rows L2 L3
theorem kva:∀{ds:List D} {i:Nat} {d:D},D.pures ds=true->ds[i]?=some d->d.pure=true
 |[],_,_,_,h=>by simp at h
 |a::ds,0,d,h,e=>by
  have e:a=d:=by simpa using e
  subst e;unfold D.pures at h;rw[Bool.and_eq_true]at h;exact h.1
 |a::ds,i+1,d,h,e=>by
  unfold D.pures at h;rw[Bool.and_eq_true]at h;exact kva h.2 (by simpa using e)
theorem wvr{X:Cx}{Z:Fx0}{tg e:Expr}{i:Nat}(h:PE X e (JZ i))(hK:autoParam (X.K=Z.K) Ŕ):QIS X Z true tg (itV i) e:=λpins s O H R I b7=>ex8 b7 λE L r m w hc xc k=>by
 refine(hK▸vk8 h) pins s O H R I ?_;unfold itV at hc;cases hE:E[i]? with
 | none=>rw[hE]at hc;cases hc
 | some s0=>
  cases s0 with
  | none=>rw[hE]at hc;cases hc
  | some s0=>
   obtain⟨oo,dd⟩:=s0;rw [hE]at hc;cases dd with
   | lst ds=>
    dsimp only at hc
    by_cases hp:D.pures ds=true
    ·rw[X8 hp]at hc;cases oq9 hc;obtain⟨x,a1,a2,a3,a4⟩:=m.get hE;have lr:=w.ok x (vx a1);obtain⟨a,xs,bs,ev,q3,r3,h3,_⟩:=items lr (.inl a3);have q3:LsR Z.K H a xs:=by rcases q3 with⟨_,z⟩|⟨z,_⟩;exact z;rw[a3]at z;cases z
     have again:∀H2:Hp,k8 H H2->∃g ys cs,SqL Z.K H2 a ys/\RepA Z.K H2 g ds ys cs:=λH2 hs=>by
      obtain⟨a',ys,cs,nh,q4,r4,h4,_⟩:=items (RepO.kp lr (Kp.of_same hs):x.ok Z.K H2) (.inl a3);have:a'=a:=by have:=nh.symm.trans ev;exact V.ref.inj this
      subst this;rcases q4 with⟨_,z⟩|⟨z,_⟩
      ·exact⟨_,ys,cs,z.sq,r4⟩
      ·rw[a3]at z;cases z
     refine⟨x.v,a4,.inl ⟨a,xs,ev,q3.sq,λav=>k _ _ rfl (Itl Z.K a) [] L H m (by rw[List.map_nil,Xr];exact w) (by rw[List.map_nil,Xr];exact Step.refl) (by rw[r3.len];exact av) (λ_=>wZ) ⟨λt ht=>(nomatch ht),λj H2 _ hs hj=>?_,λH2 _ hs=>?_,λj H2 v H3 d _ hs hy gp=>?_⟩⟩⟩
     ·obtain⟨g,ys,cs,s1,s2⟩:=again H2 (hs rfl);have hl:=s2.len;exact⟨ys,ys[j]'⋯,s1,X3 ⋯⟩
     ·obtain⟨g,ys,cs,s1,s2⟩:=again H2 (hs rfl);exact⟨ys,s1,by rw[s2.len];exact X9 _⟩
     ·obtain⟨g,ys,cs,s1,s2⟩:=again H2 (hs rfl);obtain⟨e3,hy⟩:=hy;subst e3;obtain⟨v',dn,f1,f2,f3⟩:=s2.get gp;have:v'=v:=by have:=hy ys s1;rw[f1]at this;exact oq9 this
      subst this;exact⟨⟨.no,d,v',[]⟩,rfl,rfl,rfl,wZ,(RepL.pu (g':=true) f2 (kva hp gp)).2,λb hb=>(nomatch hb)⟩
    ·rw[Xb hp]at hc;cases hc
   |_=>cases hc
end Q
namespace L3
open PySem PySem.Spec PyProof.Rows L2
def wvl(K:Frag):List V->Hp->VK->Prop:=λxs H Q=>∃(x:Addr) (o:Obj) (C:Addr) (b:Bool) (tp:Addr) (us:List Addr),ExAt K x o C/\H x=some (exO o)/\xs=[.ref x,.ref tp]/\SqT K H tp (us.map V.ref)/\PySem.W.kitAny K (.ref C) (us.map Value.ref)=some b/\Q (.bl b) H
theorem kqt:∀{us:List Addr} {ah:List Value},Vals (us.map V.ref) ah->ah=us.map Value.ref
 |[],_,.nil=>rfl
 |u::us,_,.cons h r=>by
  cases(show _=Value.ref u from h);rw[kqt r];rfl
theorem vjf{X:Cx}:CallR X (.builtin "isinstance") (wvl X.K):=by
 intro pins s O H xs us Q I r h;obtain⟨x,o,C,b,tp,cs,a,e,rfl,ht,hk,q⟩:=h;have px:s.heap.get? x=some o:=(show ObjOk X.prog X.w H s.heap x (exO o)from I.hok x _ e).1;have b8:∃o,PySem.W.InstAt s.heap x o C none:=⟨o,px,a.cls,a.no,by rw[a.di];trivial⟩;obtain⟨u1,u2,rfl,e1,e2⟩:=vq5 r;cases e1;cases e2;obtain⟨ah,rv,⟨ot,h1,h2,n,h3⟩,_⟩:=I.tuple ht;have hi:=kqt rv;subst hi;obtain⟨oc,od,oda,jr⟩:=ot;cases h2;cases h3;exact PySem.W.kia_tup (kqh a.xc) I.kIn b8 h1 hk (λz=>nomatch z) λtk=>⟨.bl b,H,I.tok _,rfl,q⟩
end L3
namespace Q
open PySem PySem.Spec PyProof.Rows L2 L3
def kwt(K:Frag)(us:List Addr)(t:List (Str×Bool)):Prop:=∀c b,t.lookup c=some b->∃C,nsIn K mainGlobals c=some (some (.ref C))/\PySem.W.kitAny K (.ref C) (us.map Value.ref)=some b
theorem vw0{K:Frag}{us:List Addr}:kwt K us []:=λ_ _ z=>nomatch z
theorem qj1{K:Frag}{us:List Addr}{c:Str}{b:Bool}{C:Addr}{t:List (Str×Bool)}(h:nsIn K mainGlobals c=some (some (.ref C)))(k:PySem.W.kitAny K (.ref C) (us.map Value.ref)=some b)(r:kwt K us t):kwt K us ((c,b)::t):=λc' b' z=>by
 rw[Yy]at z
 split at z
 ·rename_i e;cases eq_of_beq e;cases z;exact⟨C,h,k⟩
 ·exact r c' b' z
theorem qw0{K:Frag}{C:Value}:PySem.W.kitAny K C (([]:List Addr).map Value.ref)=some false:=rfl
theorem xw{K:Frag}{C:Value}{u:Addr}{us:List Addr}{b:Bool}(h:kitOne K C (.ref u)=some false)(r:PySem.W.kitAny K C (us.map Value.ref)=some b):PySem.W.kitAny K C ((u::us).map Value.ref)=some b:=by
 rw[List.map_cons];unfold PySem.W.kitAny;rw[h];exact r
def vzc(K:Frag)(us:List Addr):V->Hp->VK->Prop:=λv H Q=>(us.map V.ref).length<=sizeLine/\∀p,H p=none->wvl K [v,.ref p] (upd H p (.tup (us.map V.ref))) Q
theorem wqh{K:Frag}{us:List Addr}{t:List (Str×Bool)}(hl:us.length<=1000)(ht:kwt K us t):Ad1 K (vzc K us) (pu1 (v6 t)):=by
 intro H x s Q ok hf k;have ok:=RepO.wk ok;unfold pu1 at hf;obtain⟨o,d,v,as⟩:=x;cases d with
 | obj c fs=>
  unfold v6 at hf;cases lq:t.lookup c with
  |none=>simp only[lq]at hf;cases hf
  |some b=>
   simp only[lq]at hf;cases oq9 hf;dsimp only at ok;unfold RepL at ok;obtain⟨e0,x,ob,C,rfl,h1,h2,h3⟩:=ok;obtain⟨C',h4,h5⟩:=ht c b lq;rw[h3]at h4;cases oq9 (oq9 h4);refine⟨by rw[X4];exact Y8 hl ⋯,λp hp=>⟨x,ob,C,b,p,us,h2,?_,rfl,SqT.of vK,h5,k ⟨.dp,.bl b,.bl b,[]⟩ _ rfl rfl (jzm (vq hp) qqg)⟩⟩;exact vq hp _ _ h1
 |_=>cases hf
def tCs:List Addr->TA
 |[]=>wqs|u::us=>qxq (tC (.ref u)) (tCs us)
theorem vxj{us:List Addr}{O:L2.St}{H:Hp}:∀{Q:List V->Hp->Prop},Q (us.map V.ref) H->tCs us O H Q:=by
 induction us with|nil=>intro Q h;exact h|cons u us ih=>intro Q h;exact ih (Q:=λxs H2=>Q (V.ref u::xs) H2) h
section
variable {X:Cx}{Z:Fx0}{pn:List Nat}{q:Bool}{a:Ex}{ea:Expr}{es:List Expr}{pos p p2:Pos}{t:List (Str×Bool)}{us:List Addr}{k1:Nat}
theorem wvs(ha:QV X Z q a ea)(hm:X.mg "isinstance"=none)(hu:PA X es (tCs us))(hK:X.K=Z.K)(ht:kwt X.K us t)(hl:us.length<=1000:=by simp)(hg:autoParam (Gl X "isinstance") Ŕ)
  (he:autoParam (starEach [ea,.Tuple es k1 p2] X.env=(false,eval ea X.env)::starEach [.Tuple es k1 p2] X.env) Ŕ) (he2:autoParam (starEach [.Tuple es k1 p2] X.env=(false,eval (.Tuple es k1 p2) X.env)::starEach [] X.env) Ŕ) (bp:autoParam ((backTo pos (starEach [.Tuple es k1 p2] X.env)).any (·.1)=false) Ŕ):
  QE X Z q (cF1 (pu1 (v6 t)) a) (.Call (.Name "isinstance" p) [ea,.Tuple es k1 p2] [] pos):=by
 rw[hK]at ht;have hc:CallR X (.builtin "isinstance") (wvl Z.K):=hK▸vjf;refine qx (kq6 hc hg hm jxc (qZ ha (qZ (vka hu) wq he2) he) ⋯ ⋯ he bp) fun O H Q h=>?_
 have h2:tUn (vzc Z.K us) (tV Z q a) O H Q:=WK (wqh hl ht) h;obtain⟨E,L,R,m,w,gu,xc,kk⟩:=h2;exact⟨E,L,R,m,w,gu,xc,λE' s' z x L' H' e1 e2 m' w' ok fr sr st sm=>vxj (kk E' s' z x L' H' e1 e2 m' w' ok fr sr st sm)⟩
end
end Q
namespace Q
open PySem PySem.Spec PyProof.Rows L2 L3
theorem qwc {K : Frag} {H : Hp} {k : Kd}: ∀{kvs : List (D × D)} {xs : List V} {bs : List Addr} {es : List Ent}, RepP K H true kvs xs bs -> kvs.map (·.1) = es.map (·.1.1) -> Vals xs (es.map (·.2.2)) -> D.pures (kvs.map (·.2)) = true ->
    (∀ p, atKey es k = some p -> ∃d v, wQ kvs k.1 = some d /\ RelV v p.2 /\ RepL K H false d v [] /\ d.pure = true) /\ (atKey es k = none -> wQ kvs k.1 = none)
  | [], _, _, [], _, _, _, _=>⟨λp h=>(by cases h), λ_=>rfl⟩| [], _, _, _::_, _, h, _, _=>by cases h| _ :: _, _, _, [], _, h, _, _=>by cases h
  | (q, d)::kvs, xs, bs, e::es, hr, hk, hv, hp=>by
    unfold RepP at hr;obtain⟨x, r, b1, c1, rfl, _, h1, h2⟩:= hr;rw [List.map_cons, List.map_cons]at hk;injection hk with k1 k2;rw [List.map_cons]at hv hp;cases hv with
    | cons v1 v2=>
      unfold D.pures at hp;rw [Bool.and_eq_true]at hp;have ih:= qwc (k:= k) h2 k2 v2 hp.2;have k1 : q = e.1.1:= k1
      by_cases he : e.1 = k
      · have hq : q = k.1:= by rw[k1, he]
        have hg : wQ ((q, d)::kvs) k.1 = some d:= by unfold wQ; rw[List.find?_cons_of_pos (by simp[hq])]; rfl
        have ha : atKey (e::es) k = some e.2:= by
          obtain⟨ek, ev⟩:= e;have he : ek = k:= he;simp[atKey, he]
        refine⟨λp ir=> ?_, λhn=> ?_⟩
        · rw[ha]at ir
          cases oq9 ir;exact⟨d, x, hg, v1, (RepL.pu (g':= false) h1 hp.1).2, hp.1⟩
        · rw[ha]at hn; cases hn
      · have hq : q≠k.1:= λz=>he (Subtype.ext (by rw[<-k1]; exact z))
        have hg : wQ ((q, d)::kvs) k.1 = wQ kvs k.1:= by unfold wQ; rw[List.find?_cons_of_neg (by simp[hq])]
        have ha : atKey (e::es) k = atKey es k:= by
          obtain⟨ek, ev⟩:= e;have he : ¬ek = k:= he;simp[atKey, he]
        rw[hg, ha];exact ih
end Q
namespace Q
open PySem PySem.Spec PyProof.Rows L2 L3
theorem qvy{P:Program}{w:PySem.World}{K:Frag}{mg mb:Str->Option Value}{CX:CXT}{k:Nat}{fa a:Addr}{fd:FuncData}{x:Str}{sp:Sp}{s₁:Shared}{vs:List Value}{ns:List Int}
  (KX:K.In s₁.heap) (hns:s₁.heap.Ns mainGlobals mg) (hb:s₁.heap.Ns builtinsNs mb) (hbb:∀x:Str,x≠"__name__"->mb x=bootBuiltins x) (hlim:s₁.heap.NoLimit) (hg:s₁.gens=#[])
  (ha:s₁.heap.get? a=some { cls:=.type "list",data:=.seq vs.toArray }) (hi:IntsAre vs ns) (hl:ns.length<=sizeLine) (hr:Room k callerA)
  (F:∀base:Heap,K.In base->base.Ns mainGlobals mg->FnOk P w K mg base CX k fa fd [x] sp) (ph:∀(s:Shared) (u:Value),BindsTo s fd ⟨[u],[]⟩ [(x,u)])
  (je:∀H:Hp,wx2 H->LsR K H a (ns.map V.int)->sp [.ref a] H (λv _=>v=.bl true) λ_ _ _=>False)
  (hCX:∀H e s',CX [] H s₁ (λ_ _ _=>False) e s'->False):
  codeAny (model P w) callerA (.call (.ref fa) ⟨[.ref a],[]⟩) (λr s'=>r=.ok (.ret (.bool true))/\OldK s₁.heap s'.heap/\s'.os=s₁.os/\AllBare s'.gens) s₁:=by
 have rv:=qkw hi;have lenV:=hi.length;have tf:∀H:Hp,wx2 H->LsR K H a (ns.map V.int)->HOk P w H s₁.heap->(∀b,H b≠none->b=a)->(H a≠none->K.lookup a=none) ->
   codeAny (model P w) callerA (.call (.ref fa) ⟨[.ref a],[]⟩) (λr s'=>r=.ok (.ret (.bool true))/\OldK s₁.heap s'.heap/\s'.os=s₁.os/\AllBare s'.gens) s₁:=by
  intro H hO hS hok hA hK;have il:∀{b:Addr} {o:Obj},s₁.heap.get? b=some o->H b=none->(KW s₁.heap H).get? b=some o:=λe n=>vj2 e n
  have su:∀{b:Addr} {o:Obj} {es:Array DictEntry} {ep:Nat},s₁.heap.get? b=some o->o.data=.dict es ep->H b=none:=fun {b o es ep} e d=>by
   cases q:H b with
   | none=>rfl
   | some u=>
    have e':b=a:=hA b (by rw[q];simp);subst e';rw[ha]at e;cases e;have d':Data.seq vs.toArray _=Data.dict es ep:=d;cases d'
  have nsK:∀{b:Addr} {m:Str->Option Value},s₁.heap.Ns b m->(KW s₁.heap H).Ns b m:=fun {b m} ⟨o,es,ep,e,d,r⟩=>⟨o,es,ep,il e (su e d),d,r⟩
  have hKb:K.In (KW s₁.heap H):=λb o e=>il (KX b o e) (by
   cases q:H b with
   | none=>rfl
   | some u=>
    have e':b=a:=hA b (by rw[q];simp);subst e';rw[hK (by rw[q];simp)]at e;cases e)
  have hM:Mod K mg (KW s₁.heap H):=⟨hKb,nsK hns,⟨mb,nsK hb,hbb⟩,let ⟨mc,h1,h2⟩:=hlim;⟨mc,nsK h1,h2⟩⟩;have e0:Env0 P w K mg (KW s₁.heap H) callerA [] s₁ H:=⟨rfl,hM,λb o e=>vvk e,Nat.le_of_eq (qw9 _ _),trivial,λb hb=>absurd (show b∈([]:List Addr)from hb) (by simp),hok,.of_eq hg⟩;refine codeAny_mono ((F _ hKb (nsK hns)).run callerA [] s₁ H ⟨[.ref a],[]⟩ [.ref a] [.ref a] _ _ hr e0 (ph s₁ (.ref a)) (.cons rfl .nil) (je H hO hS)) λr s' h=>?_
  cases r with
  | error e=>exact(hCX H e s' h).elim
  | ok fl=>
   cases fl with
   | next=>exact False.elim h| brk=>exact False.elim h| cont=>exact False.elim h
   | ret u=>
    obtain⟨v,H',os,bare,un,hok',r',q⟩:=h;have q':v=.bl true:=q;subst q';obtain rfl:u=Value.bool true:=r';refine⟨rfl,OldK.of_keep λb o e=>?_,os,bare⟩;cases q:H b with
    | none=>exact un.keep b o e q (by intro z;exact absurd (show b∈([]:List Addr)from z) (by simp)) (by simp)
    | some u=>
     rcases hO b with z|⟨ob,xs,z⟩
     ·rw[q]at z;cases z
     ·have z2:=un.frzs b ob _ z;obtain⟨e1,_⟩:=hok b _ z;obtain⟨e2,_⟩:=hok' b _ z2;rw[e]at e1;cases e1;exact e2
 cases hk:K.lookup a with
 | some o=>
  have e:=KX a o hk;rw[ha]at e;cases e;refine tf (λ_=>none) (λ_=>.inl rfl) (.inr ⟨vs.toArray,_,hk,by rw[X5,lenV];exact hl,by simpa using rv⟩) (λb u z=>by have z':(none:Option HO)=some u:=z;cases z') (λb z=>absurd rfl z) λz=>absurd rfl z
 | none=>
  refine tf (λb=>if b=a then some (.frz { cls:=.type "list",data:=.seq vs.toArray } (.lst (ns.map V.int)))else none) (λb=>?_) (.inl (.inr ⟨{ cls:=.type "list",data:=.seq vs.toArray },X8 rfl⟩)) (λb u z=>?_) (λb z=>?_) λ_=>hk
  ·by_cases hb:b=a
   ·exact .inr ⟨_,_,X8 hb⟩
   ·exact .inl (Xb hb)
  ·by_cases hb:b=a
   ·have z':=(X8 hb).symm.trans z;cases z';subst hb;exact⟨ha,by rw[X4];exact hl,vs,_,rv,ha⟩
   ·have z':=(Xb hb).symm.trans z;cases z'
  ·by_cases hb:b=a
   ·exact hb
   ·exact absurd (Xb hb) z
@[elab_as_elim] theorem wxy {P:List Value->Prop}(us:List Value)(e:us.length=1)(h:∀a,P [a]):P us:=by
 cases us with|nil=>cases e|cons a us=>cases List.eq_nil_of_length_eq_zero (Nat.succ.inj e);exact h a
@[elab_as_elim] theorem wxx {P:List Value->Prop}(us:List Value)(e:us.length=2)(h:∀a b,P [a,b]):P us:=by
 cases us with|nil=>cases e|cons a us=>exact wxy (P:=λl=>P (a::l)) us (Nat.succ.inj e) λb=>h a b
@[elab_as_elim] theorem wxw {P:List Value->Prop}(us:List Value)(e:us.length=3)(h:∀a b c,P [a,b,c]):P us:=by
 cases us with|nil=>cases e|cons a us=>exact wxx (P:=λl=>P (a::l)) us (Nat.succ.inj e) λb c=>h a b c
@[elab_as_elim] theorem wxv {P:List Value->Prop}(us:List Value)(e:us.length=4)(h:∀a b c d,P [a,b,c,d]):P us:=by
 cases us with|nil=>cases e|cons a us=>exact wxw (P:=λl=>P (a::l)) us (Nat.succ.inj e) λb c d=>h a b c d
@[elab_as_elim] theorem wxu {P:List Value->Prop}(us:List Value)(e:us.length=5)(h:∀a b c d f,P [a,b,c,d,f]):P us:=by
 cases us with|nil=>cases e|cons a us=>exact wxv (P:=λl=>P (a::l)) us (Nat.succ.inj e) λb c d f=>h a b c d f
@[elab_as_elim] theorem len6 {P:List Value->Prop}(us:List Value)(e:us.length=6)(h:∀a b c d f g,P [a,b,c,d,f,g]):P us:=by
 cases us with|nil=>cases e|cons a us=>exact wxu (P:=λl=>P (a::l)) us (Nat.succ.inj e) λb c d f g=>h a b c d f g
theorem jxm{K:Frag}{H:Hp}{g:Bool}:∀(ns:List Int),RepA K H g (ns.map D.int) (ns.map V.int) []
 |[]=>by unfold RepA;exact⟨rfl,rfl⟩
 |n::ns=>by
  rw[List.map_cons,List.map_cons];unfold RepA;exact⟨_,_,[],[],rfl,rfl,wj,jxm ns⟩
theorem wk1{K:Frag}{mg:Str->Option Value}{f:Fn}{H:Hp}{a:Addr}{ns:List Int}(h:∃E o,f [(.no,.lst (ns.map D.int))]=some (.ok E (o,.bl true)))(hs:LsR K H a (ns.map V.int))(hO:wx2 H):
  spF K mg 1 f [.ref a] H (λv _=>v=.bl true) λ_ _ _=>False:=by
 obtain⟨E,o,h⟩:=h;have lc:∃as,RepL K H true (.lst (ns.map D.int)) (.ref a) as/\(∀b∈as,False):=by
  rcases hs with(hs|⟨ob,hs⟩)|hs
  ·rcases hO a with z|⟨_,_,z⟩<;>(rw[hs]at z;cases z)
  ·refine⟨[],?_,λb hb=>nomatch hb⟩;unfold RepL;exact⟨a,ns.map V.int,[],rfl,jxm ns,.inr ⟨rfl,.inl ⟨ob,hs⟩,rfl⟩⟩
  ·refine⟨[],?_,λb hb=>nomatch hb⟩;unfold RepL;exact⟨a,ns.map V.int,[],rfl,jxm ns,.inr ⟨rfl,.inr hs,rfl⟩⟩
 obtain⟨as,r,hn⟩:=lc;refine⟨[⟨.no,.lst (ns.map D.int),.ref a,as⟩],_,rfl,rfl,?_,h,(λE' c z=>by cases z),λE' s z x H' e1 e2 w' st=>?_⟩
 ·exact⟨λx hx=>by rw[oq9 (aC hx)];exact r,by simp[Sl.own],λb hb=>by simp[Sl.own]at hb⟩
 ·injection z with z1 z2;subst z2;exact qvg w'.head e2
section
open PySem.W PySem.Calls
theorem walkQ{l:OpenLaw}{n k:Nat}{q:Program}{q9:List Str}{XP:(Str->Option Value)->Heap->Prop}{YP:PySem.World->Heap->Prop}{d:DefRec}{K:Params->Frag}{f:Fn}{x:Str}
  (hn:l.most=some n) (oh:n<=sizeLine) (hdf:d.params.defaults=[]) (hr:Room k callerA)
  (hY:∀(w:PySem.World) (h:Heap),YP w h->(K w.params).In h)
  (F:∀(w:PySem.World) (mg:Str->Option Value) (fa:Addr) (h:Heap),(K w.params).In h->h.Ns mainGlobals mg->mg d.name=some (.ref fa) ->
   ∃fd:FuncData,(∀(s:Shared) (u:Value),BindsTo s fd ⟨[u],[]⟩ [(x,u)])/\∀base:Heap,(K w.params).In base->base.Ns mainGlobals mg->FnOk l.prog w (K w.params) mg base (CXE l.prog w) k fa fd [x] (spF (K w.params) mg 1 f))
  (je:∀(ns:List Int),ns.length<=n->(∀i∈ns,Builtin.Int.intBits i<=1048576)->∃E o,f [(.no,.lst (ns.map D.int))]=some (.ok E (o,.bl true))):
  WalkO q q9 XP YP l.row.toRowW d [] (λf vs=>PySem.call f vs):=by
 intro w s0 s1 mg mb G Y fa o pm cd fy dV kV ho hd gr hD hmg hg args cw as lx hlay hrd hwl hlo;obtain rfl:dV=.none:=Dflts.none hD hdf;obtain rfl:kV=.none:=Dflts.noKw hD;obtain⟨a,vs,ns,rfl,rfl,hobj,rm,av⟩:=Att.script_of hn lx hwl;have p8:=kz0 hlay;have KX:=hY w _ Y;obtain⟨fd,hb,hF⟩:=F w mg fa _ KX G.T.g hmg;refine enter_call (codeAny_mono (qvy KX G.T.g G.T.b G.T.builtins G.T.nolimit hg hobj rm (Y8 av oh) hr hF hb (λH hO hS=>wk1 (je ns av p8) hS hO) (λ_ _ _ ⟨_,_,_,_,_,_,_,_,_,_,_,_,_,_,_,z⟩=>z)) λr s' hq=>?_);obtain⟨rfl,h2,h3,h4⟩:=hq;exact⟨.inl ⟨.bool true,.bool true,[],rfl,λ_=>rfl,.bool true,Att.post_true l _,λ_=>⟨List.Pairwise.nil,λ_ hm=>(nomatch hm)⟩⟩,h2,h3,h4⟩
end
end Q
namespace Q
open PySem PySem.Spec PyProof.Rows L2 L3
section
variable {P:Program}{w:PySem.World}{K:Frag}{mg:Str->Option Value}{base h:Heap}{x:Str}{st:Stmt}{ps:List Str}{k:Nat}{sp:Sp}
noncomputable def Gf(K:Frag)(x:Str)(st:Stmt):Prop:=∃(f:Addr) (oc:Value) (od:Option Addr) (kV dc pm:Value) (an:Option Addr) (cd ct:Value) (sl:Array (Option Value)),nsIn K mainGlobals x=some (some (.ref f))/\K.lookup f=some ⟨oc,od,.func (PySem.W.fnOf x x (wW st) (zj st) (k9 st) .none kV dc pm an cd ct),sl⟩/\PySem.W.codeIn K cd x=true/\PySem.W.keepIn K (.ref f)=true
theorem Gf.mk{f:Addr}{oc:Value}{od:Option Addr}{kV dc pm:Value}{an:Option Addr}{cd ct:Value}{sl:Array (Option Value)}(a:nsIn K mainGlobals x=some (some (.ref f)))(l:K.lookup f=some ⟨oc,od,.func (PySem.W.fnOf x x (wW st) (zj st) (k9 st) .none kV dc pm an cd ct),sl⟩)(c:PySem.W.codeIn K cd x=true)(k:PySem.W.keepIn K (.ref f)=true):Gf K x st:=⟨f,oc,od,kV,dc,pm,an,cd,ct,sl,a,l,c,k⟩
theorem Gf.d(g:Gf K x st)(X:K.In h)(G:h.Ns mainGlobals mg)(ok:∀{f:Addr} {fd:FuncData},Fun K x x st f fd->FnOk P w K mg base (CXE P w) k f fd ps sp)
  (hb:∀(kV fy pm:Value) (an:Option Addr) (bi ct:Value) (us:List Value),us.length=ps.length->bindArgs (PySem.W.fnOf x x (wW st) (zj st) (k9 st) .none kV fy pm an bi ct) ⟨us,[]⟩=pure (ps.zip us):=by
   intro _ _ _ _ _ _ us hl
   first
   |exact wxy us hl λ_=>rfl|exact wxx us hl λ_ _=>rfl|exact wxw us hl λ_ _ _=>rfl|exact wxv us hl λ_ _ _ _=>rfl|exact wxu us hl λ_ _ _ _ _=>rfl
   |exact len6 us hl λ_ _ _ _ _ _=>rfl):kY P w K mg base k x ps sp:=by
 obtain⟨f,oc,od,kV,dc,pm,an,cd,ct,sl,a,l,c,kp⟩:=g;exact⟨f,_,ok (qwf l c kp),(qwf l c kp).binds hb,kp,Y1 X G a⟩
theorem Gf.law{fa:Addr}{y:Str}(g:Gf K "law" st)(X:K.In h)(G:h.Ns mainGlobals mg)(hfa:mg "law"=some (.ref fa))(ok:∀{base:Heap} {f:Addr} {fd:FuncData},Fun K "law" "law" st f fd->FnOk P w K mg base (CXE P w) k f fd [y] sp)
  (hb:∀(kV fy pm:Value) (an:Option Addr) (bi ct:Value) (s:Shared) (v:Value),BindsTo s (PySem.W.fnOf "law" "law" (wW st) (zj st) (k9 st) .none kV fy pm an bi ct) ⟨[v],[]⟩ [(y,v)]:=by
   intros
   exact .of_eq rfl):
  ∃fd:FuncData,(∀(s:Shared) (v:Value),BindsTo s fd ⟨[v],[]⟩ [(y,v)])/\∀base:Heap,K.In base->base.Ns mainGlobals mg->FnOk P w K mg base (CXE P w) k fa fd [y] sp:=by
 obtain⟨f,oc,od,kV,dc,pm,an,cd,ct,sl,a,l,c,kp⟩:=g;have e:=hfa.symm.trans (Y1 X G a);cases e;exact⟨_,hb kV dc pm an cd ct,λbase _ _=>ok (qwf l c kp)⟩
end
end Q
namespace Q
open PySem L2
theorem mkS{N P:List Str}{sc:Scope}(h1:autoParam (sc.kind=.function) Ŕ)(h2:autoParam (sc.isCoroutine=false) Ŕ)(h3:autoParam (sc.isGenerator=false) Ŕ)(h4:autoParam (N.Nodup) ŗ)(h5:autoParam (N.take P.length=P) Ŕ)(h6:autoParam (∀x∈P,sc.names.lookup x=some .local\/sc.names.lookup x=some .cell) ŗ)(h7:autoParam (∀y∈sc.names,y.2≠.free) ŗ):FnScope N P sc:=⟨h1,h2,h3,h4,h5,h6,h7⟩
end Q
namespace Q
open PySem PySem.Spec PyProof.Rows L2 L3
section
variable {X:Cx}{Z:Fx0}{pn:List Nat}{q qa:Bool}{a b c:Ex}{e ea eb:Expr}{pos p:Pos}
theorem kI{z:Int}{j}:QE X Z true (cC (.int z)) (.Constant (.int z) j p):=q_C wje λ_=>wj
theorem ki{z:Int}{j}:QV X Z true (vE (cC (.int z))) (.Constant (.int z) j p):=j5 kI
theorem kN{j}:QE X Z true (cC .non) (.Constant .none j p):=q_C wjc λ_=>qqf
theorem kn{j}:QV X Z true (vE (cC .non)) (.Constant .none j p):=j5 kN
theorem kS{z:Str}{j}(h:autoParam (z.length<=sizeLine) ŕ):QE X Z true (cC (.str z)) (.Constant (.str z) j p):=q_C kzo λ_=>YZ h
theorem ks{z:Str}{j}(h:autoParam (z.length<=sizeLine) ŕ):QV X Z true (vE (cC (.str z))) (.Constant (.str z) j p):=j5 (kS h)
theorem vv(i:Nat){x:Str}(hN:autoParam (X.N[i]?=some x) Ŕ)(hv:autoParam (Vis X.env.scope x) ř)(hd:autoParam ((x==("__debug__":Str))=false) ŕ)
  (gr:autoParam ((x==("__classdict__":Str))=false) ŕ):QV X Z true (vV i) (.Name x pos):=q_vV (pv i hN hv hd gr)
theorem cv(i:Nat){x:Str}(hN:autoParam (X.N[i]?=some x) Ŕ)(hv:autoParam (Vis X.env.scope x) ř)(hd:autoParam ((x==("__debug__":Str))=false) ŕ)
  (gr:autoParam ((x==("__classdict__":Str))=false) ŕ):QE X Z true (cV i) (.Name x pos):=q_V (pv i hN hv hd gr)
theorem kx(ha:QV X Z qa a ea)(hb:QV X Z true b eb)(hs:kz3 eb:=by exact λ_ _=>rfl)(hK:autoParam (X.K=Z.K) Ŕ):QV X Z qa (j6 a b) (.Subscript ea eb pos):=q_ix ha hb hs hK
theorem qA{i:Nat}{y:Str}{bj:Pos}(hN:X.N.Nodup)(h:QE X Z q a ea)(hi:autoParam (X.N[i]?=some y) Ŕ)(hx:autoParam (Loc X.env.scope y) Ś)(hp:autoParam (i∉pn) ŕ)(hs:autoParam (swapsWith ea (some (.Name y bj)) pos.line X.env=pure false) Ŕ)(hf:autoParam (X.fn y=true\/X.env.scope.names.lookup y=some .local) Ř):
  QS X Z pn (j8 i a) (.Assign [.Name y bj] ea pos):=wvv hN hi hx h hp hs hf
theorem gn{i:Nat}{x:Str}(hN:X.N.Nodup)(hi:autoParam (X.N[i]?=some x) Ŕ)(hx:autoParam (Loc X.env.scope x) Ś)(hf:autoParam (X.fn x=true\/X.env.scope.names.lookup x=some .local) Ř):PG X (.Name x pos) (Zz i):=xz hN hi hx hf
theorem gN{i:Nat}{x:Str}(hN:X.N.Nodup)(hi:autoParam (X.N[i]?=some x) Ŕ)(hx:autoParam (Loc X.env.scope x) Ś)(hf:autoParam (X.fn x=true\/X.env.scope.names.lookup x=some .local) Ř)(hp:autoParam (i∉pn) ŕ):QG X Z pn (.n i) (.Name x pos):=WJ (xz hN hi hx hf) hp
theorem qC{k m n:Nat}{x:Str}{ps:List Str}{f:Fn}{cs:List Ex}{es:List Expr}(D:kY X.prog X.w X.K X.mg X.base k x ps (spF Z.K Z.mg n f))(hr:Room m X.A)(ha:QA X Z q cs (e::es))(g:wV X Z.EX:=by exact J8)(gf:autoParam (k<=m) ŕ)(hn:autoParam (cs.length=n) Ŕ)(hg:autoParam (Gl X x) Ŕ)(db:autoParam ((x==("__debug__":Str))=false) ŕ)
  (he:autoParam (starEach (e::es) X.env=(false,eval e X.env)::starEach es X.env) Ŕ) (bp:autoParam ((backTo pos (starEach es X.env)).any (·.1)=false) Ŕ):
  QE X Z q (jK f cs) (.Call (.Name x p) (e::es) [] pos):=vzq D (hr.mono gf) g ha hn hg db he bp
theorem qF{tg b6:Expr}{ss:List Stmt}{it:Ev (List D)}{t:Tg}{B:Sm}(hi:QI X Z q tg it b6)(hg:QG X Z pn t tg)(hb:QSs X Z pn B ss)(hp:PassesOwn (model X.prog X.w) X.A X.env X.xe:=by exact qv9 ⟨_,_,rfl,rfl⟩)(hc:autoParam (X.calm=true) Ŕ)(hs:autoParam (∀x,foldedSetIterable b6 X.env x=pure x) Ŗ):QS X Z pn (v3 it t B) (.For tg b6 ss [] pos):=wvt hp hc hi hg hb hs
theorem oA(ha:QV X Z qa a ea)(hb:QV X Z true b eb)(hK:autoParam (X.K=Z.K) Ŕ):QE X Z qa (cF2 jJ a b) (.BinOp ea .Add eb pos):=qW (wjn hK) wql ha hb
theorem oX(ha:QV X Z qa a ea)(hb:QV X Z true b eb)(hK:autoParam (X.K=Z.K) Ŕ):QE X Z qa (cF2 vj a b) (.BinOp ea .Mult eb pos):=qW (wjl hK) vwv ha hb
theorem oM(ha:QV X Z qa a ea)(hb:QV X Z true b eb):QE X Z qa (cF2 (pu2 jQ) a b) (.BinOp ea .Mod eb pos):=qW wjj wqe ha hb
theorem qP{i:Nat}{x:Str}{br az xp:Pos}(h:QE X Z q c e)(hN:autoParam (X.N[i]?=some x) Ŕ)(hv:autoParam (Vis X.env.scope x) ř)(hd:autoParam ((x==("__debug__":Str))=false) ŕ)
  (gr:autoParam ((x==("__classdict__":Str))=false) ŕ) (cz:autoParam (attributeBase (.Name x xp) "append" X.env (eval (.Name x xp) X.env)=eval (.Name x xp) X.env) Ŕ)
  (fk:autoParam (((backTo az (starEach [e] X.env)).all (λx=>!x.1)&&(backToKw az (keywordEach [] X.env)).all (λx=>x.1.isSome)
   && decide ([e].length+([]:List Keyword).length+(if([]:List Keyword).isEmpty then 0 else 1)<30))=true) Ŕ)
  (de:autoParam ((br.endLine==az.line)=true) Ŕ) (hs:autoParam (starEach [e] X.env=(false,eval e X.env)::starEach [] X.env) Ŕ) (bu:autoParam ((backTo az (starEach [] X.env)).any (·.1)=false) Ŕ) (hK:autoParam (X.K=Z.K) Ŕ)
  (qi:autoParam (swapsWith (.Call (.Attribute (.Name x xp) "append" br) [e] [] az) none pos.line X.env=pure false) Ŕ):
  QS X Z pn (qw qQ i c) (.Expr (.Call (.Attribute (.Name x xp) "append" br) [e] [] az) pos):=wvw (vkd Z.K PySem.F.plainAttrs_list PySem.F.slot_list_append PySem.F.type_list_append qvm (pv i hN hv hd gr) (qZ h wq hs) cz fk de hs bu hK) qi
theorem qL(ha:QV X Z q a ea)(hm:X.mg "len"=none)(hK:autoParam (X.K=Z.K) Ŕ)(hg:autoParam (Gl X "len") Ŕ)(he:autoParam (starEach [ea] X.env=(false,eval ea X.env)::starEach [] X.env) Ŕ)(bp:autoParam ((backTo pos (starEach [] X.env)).any (·.1)=false) Ŕ):QE X Z q (cF1 (pu1 qk) a) (.Call (.Name "len" p) [ea] [] pos):=wxr (hK▸vwo X.K) wqf ha hm wq6 hg ⋯ ⋯ he bp
theorem qT(ha:QV X Z q a ea)(hm:X.mg "tuple"=none)(hK:autoParam (X.K=Z.K) Ŕ)(hg:autoParam (Gl X "tuple") Ŕ)(he:autoParam (starEach [ea] X.env=(false,eval ea X.env)::starEach [] X.env) Ŕ)(bp:autoParam ((backTo pos (starEach [] X.env)).any (·.1)=false) Ŕ):QE X Z q (cF1 Jj a) (.Call (.Name "tuple" p) [ea] [] pos):=zX (qx1 hK) vjt ha hm vjp hg ⋯ ⋯ he bp
variable {b6 fb tg:Expr}{eh:List Expr}{scope:Scope}{it:Ev (List D)}{tt:Tg}{u:Ts}
theorem qm(o:Own)(k:Nat)(R:List Nat)(m:Nat)(N:List Str)(hi:QI X Z q tg it b6)
  (hg:N.Nodup->∀cl C s0 H0 fp,QG (lcE X scope N cl C s0 H0 fp Z.EX) Z ((List.range R.length).map (k + ·)) tt tg) (ht:∀cl C s0 H0 fp,PTs (lcE X scope N cl C s0 H0 fp Z.EX) eh (tT Z q u)) (he:∀cl C s0 H0 fp,QE (lcE X scope N cl C s0 H0 fp Z.EX) Z q c fb)
  (hN:autoParam (N.Nodup) ŗ) (gx:wV X Z.EX:=by exact J8) (top:xK X:=by exact⟨_,_,rfl,rfl⟩) (hR:autoParam (R.Nodup) ŕ) (hm:autoParam (X.N.length=m) Ŕ) (hr:autoParam (∀j∈R,j<m) ŕ) (hc:autoParam (X.calm=true) Ŕ) (hk:autoParam (scope.kind=.function) Ŕ) (jd:autoParam (K9 X.N X.env.scope scope N k R=true) Ŕ) (hs:autoParam (∀x,foldedSetIterable b6 X.env x=pure x) Ŗ):
  QE X Z q (cLC o k R it tt u c) (.ListComp fb [⟨tg,b6,eh,0⟩] scope pos):=wxq N hi (hg hN) ht he gx top hR (hm▸hr) hc hk jd hs
theorem qM{x:Str}{p':Pos}(o:Own)(k:Nat)(R:List Nat)(m:Nat)(N:List Str)(hi:QI X Z q (.Name x p') it b6)(he:∀cl C s0 H0 fp,QE (lcE X scope N cl C s0 H0 fp Z.EX) Z q c fb)
  (hN:autoParam (N.Nodup) ŗ) (gx:wV X Z.EX:=by exact J8) (top:xK X:=by exact⟨_,_,rfl,rfl⟩) (hR:autoParam (R.Nodup) ŕ) (hm:autoParam (X.N.length=m) Ŕ) (hr:autoParam (∀j∈R,j<m) ŕ) (hc:autoParam (X.calm=true) Ŕ) (hk:autoParam (scope.kind=.function) Ŕ) (jd:autoParam (K9 X.N X.env.scope scope N k R=true) Ŕ) (hs:autoParam (∀x,foldedSetIterable b6 X.env x=pure x) Ŗ)
  (hg:N.Nodup->∀cl C s0 H0 fp,QG (lcE X scope N cl C s0 H0 fp Z.EX) Z ((List.range R.length).map (k + ·)) (.n 0) (.Name x p'):=by exact λh _ _ _ _ _=>WJ (xz (i:=0) h rfl (by trivial))):
  QE X Z q (cLC o k R it (.n 0) tYes c) (.ListComp fb [⟨.Name x p',b6,[],0⟩] scope pos):=wxq N hi (hg hN) (λ_ _ _ _ _=>qz4) he gx top hR (hm▸hr) hc hk jd hs
end
end Q
namespace Q
def ddS(ss:List PySem.Str):List PySem.Str:=ss.foldl (λl k=>if l.any (· == k)then l else l++[k]) []
def ddI(ss:List Int):List Int:=ss.foldl (λl k=>if l.any (· == k)then l else l++[k]) []
def KY:Sd->Option Sd:=λx=>match x.2 with
 |.lst ds=>(match zx ds with
  |some ss=>if ss.length<64 then some (.rt,.lst ((wJ (ddS ss)).map .str))else none
  |none=>none)
 |_=>none
end Q
namespace Sw
open PySem PyProof.Rows
section
variable {prog:Program}{w:World}{A:Around}{E:Value->Shared->Prop}{s:Shared}
def tx(w:World):Bool:=w.params.followText "set-order"
structure Ok (prog:Program)(w:World)(o:Obj)(es:Array (Int×Value))(ep:Nat)(t:SetTable):Prop where
 ex:o.ExactSet
 d:o.data=.set es ep t
 el:ElemsOf (PySem.strKind prog w) es.toList
 b:es.size<scanBound
 f:t.fits es.size=true
 led:t.led=!tx w
 pl:t.plain=false\/es.size=0
def Zq(es:List (Int×Value)):List Str:=es.map λe=>strOf e.2
def Has(prog:Program)(w:World)(h:Heap)(a:Addr)(ls:List Str):Prop:=∃o es ep t,h.get? a=some o/\Ok prog w o es ep t/\(Zq es.toList).Perm ls
theorem vkm{l:List (Int×Value)}(h:ElemsOf (PySem.strKind prog w) l){e:Int×Value}(he:e∈l):∃k t,e.2=.str k t:=by
 obtain⟨⟨k,hk,_⟩,_⟩:=h e he;obtain⟨t,ht⟩:=Value.isStrOf_shape hk;exact⟨k,t,ht⟩
theorem wkf{l:List (Int×Value)}(h:ElemsOf (PySem.strKind prog w) l)(k:Str):(∃e∈l,(PySem.strKind prog w).is k e.2=true)↔k∈Zq l:=by
 unfold Zq;rw[List.mem_map];constructor
 ·rintro ⟨e,he,hk⟩;obtain⟨t,ht⟩:=Value.isStrOf_shape hk;exact⟨e,he,by rw[ht];rfl⟩
 ·rintro ⟨e,he,hk⟩;obtain⟨k',t,ht⟩:=vkm h he;rw[ht]at hk;cases(show k'=k from hk);exact⟨e,he,by rw[ht];exact strKind_is _ _ _ _⟩
theorem vvv(t:SetTable)(es:Array (Int×Value))(h:Int)(x:Value):(layNew t es h x).2.1.led=t.led/\((layNew t es h x).2.1.plain=true->t.plain=true):=by
 unfold layNew
 split
 ·rename_i slot wd _;show((t.put slot).1.orStandIn _).led=_/\(((t.put slot).1.orStandIn _).plain=true->_);unfold SetTable.orStandIn
  split
  ·exact⟨rfl,λh=>h⟩
  ·exact⟨rfl,λh=>nomatch h⟩
 ·exact⟨rfl,λh=>nomatch h⟩
theorem qqh(t:SetTable)(es:Array (Int×Value))(n:Nat):(relayAll t es n).2.1.led=t.led/\((relayAll t es n).2.1.plain=true->t.plain=true):=by
 unfold relayAll
 split
 ·rename_i t' order hr;dsimp only
  split
  ·unfold SetTable.relaid SetTable.laid at hr;rw[Option.bind_eq_bind,Option.bind_eq_some_iff]at hr;obtain⟨ow,_,e⟩:=hr;cases oq9 e;exact⟨rfl,λh=>h⟩
  ·exact⟨rfl,λh=>nomatch h⟩
 ·exact⟨rfl,λh=>nomatch h⟩
theorem vxr{h:Heap}{a:Addr}{o:Obj}{es es':Array (Int×Value)}{ep:Nat}{t t':SetTable}(ho:h.get? a=some o)(hd:o.data=.set es ep t):(h.update a (Obj.putSet es' t')).get? a=some { o with data:=.set es' (ep+1) t' }:=by
 have:=Xx (Obj.putSet es' t') ho (by rw[putSet_of es' t' hd];rfl)
 rwa [putSet_of es' t' hd]at this
theorem tail{g:Bool->Sem Unit}(hg:∀(b:Bool) (s₁:Shared) (Q':Unit->Shared->Prop),Q' () s₁->wpAny (model prog w) A (g b) Q' E s₁)
  {a:Addr} {o:Obj} {es ez:Array (Int×Value)} {ep:Nat} {t t2:SetTable} {ls:List Str} {kt:Bool} {R:Option Bool->Shared->Prop} (ho:s.heap.get? a=some o) (hd:o.data=.set es ep t) (hex:o.ExactSet)
  (hel:ElemsOf (PySem.strKind prog w) ez.toList) (hb:ez.size<scanBound) (hf:t2.fits ez.size=true) (rl:t2.led=!tx w) (bp:t2.plain=false) (hp:(Zq ez.toList).Perm ls)
  (h:∀h',Heap.SameBut a s.heap h'->Has prog w h' a ls->R (some true) { s with heap:=h' }):
  wpAny (model prog w) A (do
    storeSet a ez t2
    if(!kt&&t2.tooFull)=true then do
      g (relayAll t2 ez (SetTable.grown ez.size)).2.2
      storeSet a (relayAll t2 ez (SetTable.grown ez.size)).1 (relayAll t2 ez (SetTable.grown ez.size)).2.1
      pure (some true)
     else pure (some true)) R E s:=by
 refine X0 (wpAny_storeSet_of ho hd ?_ (fits_of_scanBound hb));have jo:=vxr (es':=ez) (t':=t2) ho hd;have lg:=Y7 s.heap a (Obj.putSet ez t2)
 split
 ·have r1:=relayAll_perm t2 ez (SetTable.grown ez.size);have r2:=relayAll_fits t2 ez (SetTable.grown ez.size);obtain⟨r3,r4⟩:=qqh t2 ez (SetTable.grown ez.size);generalize relayAll t2 ez (SetTable.grown ez.size)=V at r1 r2 r3 r4 ⊢;obtain⟨es2,t3,gv⟩:=V;dsimp only at r1 r2 r3 r4 ⊢;have hz:es2.size=ez.size:=by rw[<-Xj,r1.length_eq,Xj]
  refine X0 (hg _ _ _ ?_);refine X0 (wpAny_storeSet_of jo rfl ?_ (fits_of_scanBound (by rw[hz];exact hb)));refine X2 (h _ (lg.trans (Y7 _ a _)) ⟨_,es2,_,t3,vxr jo rfl,⟨hex,rfl,hel.perm r1,by rw[hz];exact hb,r2,r3.trans rl,.inl ?_⟩,(r1.map _).trans hp⟩);cases hq:t3.plain with|false=>rfl|true=>rw[r4 hq]at bp;cases bp
 ·exact X2 (h _ lg ⟨_,ez,_,t2,jo,⟨hex,rfl,hel,hb,hf,rl,.inl bp⟩,hp⟩)
theorem add{a:Addr}{k:Str}{tk:Tok}{ls:List Str}{Q:Bool->Shared->Prop}(hS:Has prog w s.heap a ls)(hl:ls.length+1<scanBound)
  (h:∀b h',Heap.SameBut a s.heap h'->Has prog w h' a (step_dedup ls k)->Q b { s with heap:=h' }):wpAny (model prog w) A (setAddHashed a (.str k tk) ((PySem.strKind prog w).hash k)) Q E s:=by
 obtain⟨o,es,ep,t,ho,hk,hp⟩:=hS;have hsz:es.size=ls.length:=by rw[<-hp.length_eq];unfold Zq;rw[X4,Xj]
 have lz:(PySem.strKind prog w).is k (.str k tk)=true:=strKind_is _ _ _ _;have hmk:(∃e∈es.toList,(PySem.strKind prog w).is k e.2=true)↔k∈ls:=(wkf hk.el k).trans hp.mem_iff;unfold setAddHashed setAddHashedIn;refine Xz (X0 (Ze ho hk.d hk.f ?_));dsimp only;rw[byScan_of rfl hk.b hk.el];simp only[↓reduceIte];unfold setAddByScan;refine X0 ?_;refine X0 (Zj ?_);refine X0 (wpAny_setScan_of lz ho hk.d hk.f hk.el ?_);cases hr:List.findIdx? (λe=>(PySem.strKind prog w).is k e.2) es.toList with
 | some j=>
  dsimp only;obtain⟨hj,hpj,_⟩:=List.findIdx?_eq_some_iff_getElem.mp hr;have iz:k∈ls:=hmk.mp ⟨_,Yc hj,hpj⟩;have cq:step_dedup ls k=ls:=by unfold step_dedup;rw[X8 (List.any_eq_true.mpr ⟨k,iz,by simp⟩)]
  refine X2 (X2 ?_);have:=h false s.heap (Heap.SameBut.refl a s.heap) (by rw[cq];exact⟨o,es,ep,t,ho,hk,hp⟩);exact this
 | none=>
  dsimp only;have hni:k∉ls:=λiz=>by
   obtain⟨e,he,hq⟩:=hmk.mpr iz;have:=List.findIdx?_eq_none_iff.mp hr e he;rw[hq]at this;cases this
  have cq:step_dedup ls k=ls++[k]:=by
   unfold step_dedup;rw[Xb];intro hh;obtain⟨y,hy,e⟩:=List.any_eq_true.mp hh;rw[eq_of_beq e]at hy;exact hni hy
  rw[cq]at h;have hgw:∀(b:Bool) {s₁:Shared} {Q':Unit->Shared->Prop},Q' () s₁->wpAny (model prog w) A (match b with|true=>PySem.rule "set.scan.the-table-gave-way" | false=>pure ()) Q' E s₁:=
   λb s₁ Q' hq=>by cases b<;>first|exact X2 hq|exact Zj hq
  have l1:=layNew_perm t es ((PySem.strKind prog w).hash k) (.str k tk);have l2:=layNew_fits t es ((PySem.strKind prog w).hash k) (.str k tk);obtain⟨l3,l4⟩:=vvv t es ((PySem.strKind prog w).hash k) (.str k tk);generalize layNew t es ((PySem.strKind prog w).hash k) (.str k tk)=V at l1 l2 l3 l4 ⊢;obtain⟨ez,t1,wd,gv⟩:=V;dsimp only at l1 l2 l3 l4 ⊢;rw[Array.toList_push]at l1;have sv:ElemsOf (PySem.strKind prog w) ez.toList:=(hk.el.push lz rfl).perm l1;have ou:ez.size=ls.length+1:=by rw[<-Xj,l1.length_eq,Xf,Xj,hsz];rfl
  have hp1:(Zq ez.toList).Perm (ls++[k]):=by
   refine(l1.map λe=>strOf e.2).trans ?_;rw[Xd];exact hp.append (List.Perm.refl _)
  refine X0 (hgw _ ?_)
  split
  ·refine X0 ?_;rw[hashByValue_scannable 8 rfl];refine X2 ?_;refine tail ?_ ho hk.d hk.ex sv (by rw[ou];exact hl) (SetTable.fits_plain_off l2) (l3.trans hk.led) rfl hp1 λh' a1 a2=>?_
   ·intro b s₁ Q' hq;cases b<;>first|exact X2 hq|exact Zj hq
   ·exact X2 (h true h' a1 a2)
  ·rename_i bp;refine X0 (X2 ?_);refine tail ?_ ho hk.d hk.ex sv (by rw[ou];exact hl) l2 (l3.trans hk.led) (show t1.plain=false from Bool.eq_false_iff.mpr bp) hp1 λh' a1 a2=>?_
   ·intro b s₁ Q' hq;cases b<;>first|exact X2 hq|exact Zj hq
   ·exact X2 (h true h' a1 a2)
def dd(ss:List Str):List Str:=ss.foldl step_dedup []
theorem vwk{ss:List Str}{i:Nat}{x:Str}(h:ss[i]?=some x):dd (ss.take (i+1))=step_dedup (dd (ss.take i)) x:=by
 obtain⟨hl,e⟩:=List.getElem?_eq_some_iff.mp h;unfold dd;rw[List.take_succ,h,List.foldl_append];rfl
theorem wq1(ss:List Str):(dd ss).length<=ss.length:=foldl_step_dedup_nil_length_le ss
theorem qq3:∀{vs:List Value} {ss:List Str},StrsAre vs ss->∀(i:Nat) (v:Value),vs[i]?=some v->∃x t,v=.str x t/\ss[i]?=some x
 |_,_,.nil,i,v,h=>by cases i<;>cases h|_,_,.cons x t r,0,v,h=>by cases oq9 h;exact⟨x,t,rfl,rfl⟩|_,_,.cons x t r,i+1,v,h=>qq3 r i v h
theorem kkr:∀{vs:List Value} {ss:List Str},StrsAre vs ss->vs.length=ss.length
 |_,_,.nil=>rfl|_,_,.cons x t r=>congrArg (· + 1) (kkr r)
theorem Has.same{h h':Heap}{a:Addr}{ls:List Str}(x:Has prog w h a ls)(e:∀o,h.get? a=some o->h'.get? a=some o):Has prog w h' a ls:=by
 obtain⟨o,es,ep,t,ho,r⟩:=x;exact⟨o,es,ep,t,e _ ho,r⟩
theorem loop{R:Result->Shared->Prop}{I:Addr}{fp wr:List Addr}{G:Array GenState->Array GenState->Prop}{n:Nat}{P:Nat->Value->Prop}{St:Nat->Shared->Prop}(W:WalksS prog w A.in1 I fp wr G n P St)(S:Addr)(m8:S∉fp)
  {ss:List Str} (hn:ss.length=n) (km:∀i v,P i v->∃x t,v=.str x t/\ss[i]?=some x) (hb:n+1<scanBound):∀(k i:Nat) (s:Shared),n - i=k->i<=n->St i s->Has prog w s.heap S (dd (ss.take i)) ->
   (∀s',Moved (S::wr) G s s'->Has prog w s'.heap S (dd ss)->R (.ok (.ret .none)) s')->codeAny (model prog w) A (.builtin "set.update.loop" ⟨[.ref S,.ref I],[]⟩) R s:=by
 have so:S∉wr:=λh=>m8 (W.sub _ h)
 have ff:∀b∈wr,b∈S::wr:=λb hb=>lc9 _ hb
 intro k
 induction k with
 | zero=>
  intro i s hk hi cq hS hR;cases(show i=n by omega);refine Z1 F.entry_set_update_loop ?_;rw[Yn F.plain_set_update_loop _];show wpAny _ A.in1 (pyNext (.ref I) >>= _) _ _ s;refine X0 (W.done s _ _ cq λs' hm=>?_);refine X2 (hR s' (hm.mono ff) ?_);rw[<-hn,List.take_length]at hS;exact hS.same λo e=>hm.heap S _ so e
 | succ k ih=>
  intro i s hk hi cq hS hR;refine Z1 F.entry_set_update_loop ?_;rw[Yn F.plain_set_update_loop _];show wpAny _ A.in1 (pyNext (.ref I) >>= _) _ _ s;refine X0 (W.item i s _ _ ⋯ cq λv s' hP nu hm=>?_);obtain⟨x,t,rfl,hx⟩:=km i v hP;have iy:Has prog w s'.heap S (dd (ss.take i)):=hS.same λo e=>hm.heap S _ so e
  show wpAny _ A.in1 (holding [Value.str x t] (setAdd S (.str x t)) >>= _) _ _ s';refine X0 (Xz ?_);unfold setAdd;refine Xz ?_;refine X0 ((PySem.strKind prog w).pyHash (k:=x) (strKind_is _ _ _ _) ?_);have gf:(dd (ss.take i)).length+1<scanBound:=by have:=wq1 (ss.take i);rw[Ya]at this;omega
  refine add iy gf λb h' a1 a2=>?_
  rw[<-vwk hx]at a2;refine X2 ⟨plainId_quiet F.plain_set_update_loop _,ih (i+1) _ ⋯ ⋯ (W.frame _ s' _ _ nu (Nat.le_succ _) λb hb o e=>?_) a2 λjg nk n6=>?_⟩
  ·rw[a1.2 b (λh:b=S=>m8 (by rw[<-h];exact hb))];exact e
  ·refine hR jg (Moved.trans W.gtrans ((hm.mono ff).then_heap (Nat.le_succ _) λb o hb e=>?_) nk) n6;rw[a1.2 b (λh:b=S=>hb (by rw[h];exact X7))];exact e
def fresh(w:World):Obj:={ cls:=.type "set",dict:=none,data:=.set #[] 0 (.fresh 0 0 (!tx w)) }
theorem qwg{h:Heap}{a:Addr}(e:h.get? a=some (fresh w)):Has prog w h a []:=
 ⟨_,#[],0,.fresh 0 0 (!tx w),e,⟨⟨rfl,rfl,rfl⟩,rfl,(λe he=>nomatch he),⋯,by rfl,rfl,.inr rfl⟩,.refl _⟩
theorem made(a:Value){Q₁:Value->Shared->Prop}(h:Q₁ (.ref s.heap.objs.size) { s with heap:=s.heap.push (fresh w) }):
  codeAny (model prog w) A (.call (.builtin "set.__new__") ⟨[.type "set",a],[]⟩) (wants Q₁ E) s:=by
 refine codeAny_of_tree ?_;show wpAny _ A.in1 (do checkBuiltinCall "set.__new__" ⟨[.type "set",a],[]⟩;again (.builtin "set.__new__" ⟨[.type "set",a],[]⟩)) _ _ s;refine X0 (wpAny_of_eq (F.newCall_set_1 a) (X2 ⟨plainId_quiet F.plain_set_new _,Z1 F.entry_set_new ?_⟩));rw[Yn F.plain_set_new _];unfold Builtin.«set.__new__» Builtin.Frozenset.newClass;have ff:=sub_set_self;obtain⟨hp,g,d,tk,os⟩:=s;dsimp only
 wp_walk
 refine Zh (X2 ?_);dsimp only;simp only[newObj];refine X0 (wpAny_alloc (X2 ?_));exact X2 h
set_option maxHeartbeats 8000000 in
theorem vje{l:Addr}{items:Array Value}{ss:List Str}{Q:Value->Shared->Prop}(hh:A.handled=none)(hl:s.heap.IsList l items)(hi:StrsAre items.toList ss)(hb:items.size+1<scanBound)
  (h:∀(h':Heap) (tk:Nat),Has prog w h' s.heap.objs.size (dd ss)->(∀b o,b<s.heap.objs.size->s.heap.get? b=some o->h'.get? b=some o)->Q (.ref s.heap.objs.size) { s with heap:=h',toks:=tk }):
  wpAny (model prog w) A (call (.type "set") [.ref l]) Q E s:=by
 obtain⟨c,tl,hmro⟩:=F.called_set.mro;have hmade:=F.called_set.made;have ff:=F.called_set.sub;refine wpAny_call (codeAny_of_tree ?_);show wpAny _ _ (callAny (.type "set") _) _ _ _;refine X2 ⟨Code.quiet_builtin _ (by decide +kernel),Z1 F.entry_type_call ?_⟩;rw [Around.under_plain (weight_type_call_type "set" [.ref l] []) rfl];have h1:=F.called_set.notType;have h2:=F.called_set.canCreate;have hct:=F.typeCall_set_1 (.ref l)
 repeat (any_goals (first|assumption|wp_step))
 refine codeAny_mono (made (.ref l) (E:=E) (Q₁:=λobj s₁=>obj=.ref s.heap.objs.size/\s₁={ s with heap:=s.heap.push (fresh w) }) ⟨rfl,rfl⟩) λr s₁ hr=>?_
 cases r with
 | error e=>exact hr
 | ok fl=>
 cases fl with
 | ret obj=>
  obtain⟨rfl,rfl⟩:=hr;have hS:(s.heap.push (fresh w)).get? s.heap.objs.size=some (fresh w):=X6 _ rfl;have hT:Shared.TypeIs { s with heap:=s.heap.push (fresh w) } (.ref s.heap.objs.size) "set":=⟨_,hS,rfl⟩;have hli:=F.called_set.init.lookup;have hbi:=F.called_set.init.bind (.ref s.heap.objs.size)
  repeat (any_goals (first|assumption|wp_step))
  refine codeAny_mono (codeAny_call_builtin (R:=wants (λr s₂=>r=.none/\∃h' tk,s₂={ s with heap:=h',toks:=tk }/\Has prog w h' s.heap.objs.size (dd ss) /\
    (∀b o,b<s.heap.objs.size->s.heap.get? b=some o->h'.get? b=some o)) E) F.called_set.init.plain F.entry_set_init (check_set_init_1 hT ?_)) λr₂ s₂ hr₂=>?_
  ·obtain⟨ol,hol,en,nl,hdl⟩:=hl;obtain⟨ocls,rh,odata,n8⟩:=ol;simp only at en hdl;subst en;subst hdl;have hol':(s.heap.push (fresh w)).get? l=some { cls:=.type "list",dict:=rh,data:=.seq items nl,slots:=n8 }:=X1 _ hol;have hsls:=F.sub_list_set;have hslf:=F.sub_list_frozenset;have bt:(Value.type "list" == Value.type "dict")=false:=⋯
   have gw:(s.heap.push (fresh w)).IsList l items:=⟨_,hol',rfl,nl,rfl⟩;have t6:l<s.heap.objs.size:=Xa hol;have mj:({ cls:=.type "set",dict:=none,data:=.set #[] 0 (.fresh 0 0 (!tx w)) }:Obj)=fresh w:=rfl;unfold Builtin.«set.__init__» noKeywords Builtin.Frozenset.updateFrom;generalize hPI:pyIter=PI
   wp_walk
   subst hPI;refine wpAny_pyIter_list gw ?_;refine X0 (wpAny_runValue ?_);have hh3:A.in1.in1.in1.handled=none:=by simp[hh]
   have hsz:(s.heap.push (fresh w)).objs.size=s.heap.objs.size+1:=Zf ..;refine loop ((Walks.list hh3 _ l (by rw[hsz];exact Xg (Nat.lt_succ_of_lt t6)) items).toS) s.heap.objs.size (by rw[hsz];simp only[Y6,Xq,or_false,not_or];exact⟨Xg (Nat.lt_succ_self _),Nat.ne_of_gt t6⟩) (ss:=ss) ?_ (λi v hv=>qq3 hi i v (by rw[Yj];exact hv)) hb (items.size - 0) 0 _ ⋯ (Yg _)
    ⟨⟨_,X6 _ rfl,rfl,rfl⟩,gw.push _⟩ ?_ ?_
   ·rw[<-kkr hi,Xj]
   ·exact qwg (X1 _ hS)
   ·intro s' hm iy;obtain⟨h',g',d',mr,nj⟩:=s';have eg:g'=s.gens:=hm.gens;have ed:d'=s.drawn:=hm.drawn;have eo:nj=s.os:=hm.os;subst eg;subst ed;subst eo;show wpAny _ _ _ _ _ _;refine X2 ?_;show wpAny _ _ (ret Value.none) _ _ _;refine X2 ⟨rfl,h',mr,rfl,iy,λb o hb e=>?_⟩;exact hm.heap b o (by simp only[Y6,Xq,or_false,not_or];rw[hsz];exact⟨Xg hb,Xg (Nat.lt_succ_of_lt hb)⟩) (X1 _ (X1 _ e))
  ·cases r₂ with
   | error e=>exact hr₂
   | ok fl₂=>
    cases fl₂ with
    |ret r=>
     obtain⟨rfl,h',tk,rfl,iy,cy⟩:=hr₂
     repeat (any_goals (first|assumption|wp_step))
     exact h _ _ iy cy
    |_=>exact hr₂.elim
 |_=>exact hr.elim
end
theorem slot_next:Slot "set_iterator" "__next__" "set_iterator.__next__" :=
 .of (owner:="set_iterator") (n:="__next__") (by rw[typeLookup_type,builtinLookup_eq_fast];kernel_rfl) (by decide +kernel) (by decide +kernel) (by decide +kernel)
  (by first|exact .inl (by decide +kernel)|exact .inr (by decide +kernel)) (by rw[isSubtype_type];kernel_rfl)
theorem kqy:Slot "set_iterator" "__iter__" "set_iterator.__iter__" :=
 .of (owner:="set_iterator") (n:="__iter__") (by rw[typeLookup_type,builtinLookup_eq_fast];kernel_rfl) (by decide +kernel) (by decide +kernel) (by decide +kernel)
  (by first|exact .inl (by decide +kernel)|exact .inr (by decide +kernel)) (by rw[isSubtype_type];kernel_rfl)
theorem jwg:entryFor table "set_iterator.__next__"=some Builtin.«set_iterator.__next__»:=entryFor_of_tree (by kernel_rfl)
theorem qke:entryFor table "set_iterator.__iter__"=some Builtin.«dict_keyiterator.__iter__»:=entryFor_alias (id':="dict_keyiterator.__iter__") (by kernel_rfl) rfl (by decide +kernel) (by kernel_rfl)
theorem qkf:entryFor table "set.__iter__"=some Builtin.«frozenset.__iter__»:=entryFor_alias (id':="frozenset.__iter__") (by kernel_rfl) rfl (by decide +kernel) (by kernel_rfl)
theorem jxf(a:Value):argsOk "set_iterator.__next__" ⟨[a],[]⟩:=by unfold argsOk;kernel_rfl
theorem qxc(a:Value):argsOk "set_iterator.__iter__" ⟨[a],[]⟩:=by unfold argsOk;kernel_rfl
theorem qxd(a:Value):argsOk "set.__iter__" ⟨[a],[]⟩:=by unfold argsOk;kernel_rfl
section
variable {prog:Program}{w:World}{A:Around}{E:Value->Shared->Prop}{s:Shared}
theorem wq3{src:Source}{n:Nat}{Q:Nat->Shared->Prop}(hn:n≠0)(h:∀i d,i<n->Q i { s with drawn:=d }):wpAny (model prog w) A (choose src n) Q E s:=
 λ_ _ _=>⟨hn,h _ _ (Nat.mod_lt _ (Nat.pos_of_ne_zero hn))⟩
theorem WZ{α:Type}:∀{l:List α} {i:Nat} (h:i<l.length),(l[i]::l.eraseIdx i).Perm l
 |a::l,0,h=>List.Perm.refl _
 |a::l,i+1,h=>by
  have hi:i<l.length:=Nat.lt_of_succ_lt_succ h;exact(List.Perm.swap a (l[i]'hi) _).trans ((WZ hi).cons a)
theorem drawn{α:Type}:∀(n:Nat) (xs:List α) (s:Shared) {Q:List α->Shared->Prop},xs.length=n->(∀ys d,ys.Perm xs->Q ys { s with drawn:=d })->wpAny (model prog w) A (drawOrder n xs) Q E s
 | 0,xs,s,Q,hl,h=>by
  cases xs with|nil=>exact X2 (h [] s.drawn (.refl _))|cons=>cases hl
 | n+1,xs,s,Q,hl,h=>by
  cases xs with
  |nil=>cases hl
  |cons x xs=>
   unfold drawOrder;refine X0 (wq3 (by simp) λi d hi=>?_);rw[X3 hi];refine X0 (drawn n _ _ (by rw[List.length_eraseIdx,X8 hi];exact Nat.succ.inj hl) λys d' hp=>?_);exact X2 (h _ d' ((hp.cons _).trans (WZ hi)))
theorem qv1{α:Type}(f:Nat->Nat):∀(n k:Nat) (l:List α) (out:Array α),l.length=n->(pickOrder.go f n k l out).toList.Perm (out.toList++l)
 |0,k,l,out,hl=>by
  cases l with|nil=>unfold pickOrder.go;simp|cons=>cases hl
 |n+1,k,l,out,hl=>by
  have hi:f k % l.length<l.length:=Nat.mod_lt _ ⋯;unfold pickOrder.go;rw[X3 hi];refine(qv1 f n (k+1) _ _ (by rw[List.length_eraseIdx,X8 hi];omega)).trans ?_;rw[Array.toList_push,Xy];exact(List.Perm.refl _).append (WZ hi)
theorem kvd{α:Type}(f:Nat->Nat)(xs:Array α):(pickOrder f xs).toList.Perm xs.toList:=by
 unfold pickOrder;exact qv1 f _ 0 _ #[] (by simp)
end
section
variable {prog:Program}{w:World}{A:Around}{E:Value->Shared->Prop}{s:Shared}
def It(h:Heap)(I a:Addr)(f:Value)(i n ep:Nat):Prop:=∃o,h.get? I=some o/\o.cls=.type "set_iterator"/\o.data=.fields #[f,.int i 0,.ref a,.int n 0,.int ep 0]
theorem It.at'{h h':Heap}{I a:Addr}{f:Value}{i n ep:Nat}(x:It h I a f i n ep)(e:∀o,h.get? I=some o->h'.get? I=some o):It h' I a f i n ep:=by
 obtain⟨o,ho,r⟩:=x;exact⟨o,e _ ho,r⟩
def Stn(h:Heap)(a:Addr)(n ep:Nat):Prop:=∃o es t,h.get? a=some o/\o.data=.set es ep t/\t.fits es.size=true/\es.size=n
theorem qq9{I a:Addr}{f:Value}{i n ep:Nat}{Q:Value->Shared->Prop}(fh:It s.heap I a f i n ep)(h:Q (.ref I) s):wpAny (model prog w) A (pyIter (.ref I)) Q E s:=by
 obtain⟨o,ho,hc,hd⟩:=fh;have hT:s.TypeIs (.ref I) "set_iterator":=⟨o,ho,hc⟩;refine wpAny_pyIter_slot hT kqy (Y0 kqy hT qke ?_ (qxc _));show wpAny _ _ (ret (.ref I)) _ _ s;exact X2 ⟨_,rfl,"set_iterator",_,hT,slot_next.lookup,h⟩
theorem wke{I a:Addr}{sl nx i n ep:Nat}{v:Value}{Q:Option Value->Shared->Prop}(fh:It s.heap I a (.int sl 0) i n ep)(hs:Stn s.heap a n ep)
  (hN:∀(A':Around) (E':Value->Shared->Prop) (R:Option (Value×Nat)->Shared->Prop),R (some (v,nx)) s->wpAny (model prog w) A' (setNext a sl i ep) R E' s)
  (hQ:∀h',It h' I a (.int nx 0) (i+1) n ep->Heap.SameBut I s.heap h'->Q (some v) { s with heap:=h' }):wpAny (model prog w) A (pyNext (.ref I)) Q E s:=by
 obtain⟨o,ho,hc,hd⟩:=fh;obtain⟨os,es,t,jc,bn,hf,hn⟩:=hs;have hT:s.TypeIs (.ref I) "set_iterator":=⟨o,ho,hc⟩;unfold pyNext;refine X0 (wpAny_attempt (Yd (name:=Str.ofString "__next__") hT slot_next (Y0 slot_next hT jwg ?_ (jxf _))));show wpAny _ _ (fieldsOf (.ref I) >>= _) _ _ s;refine X0 (wpAny_fieldsOf ho hd ?_);show wpAny _ _ (setEntries a >>= _) _ _ s;refine X0 (wpAny_setEntries_of jc bn hf ?_);rw[Xb (by rw[hn];simp)];show wpAny _ _ (setNext a ((sl:Int)).toNat ((i:Int)).toNat ((ep:Int)).toNat >>= _) _ _ s;rw[Xw,Xw,Xw];refine X0 (hN _ _ _ ?_);refine X0 (Yk ho hd (by simp) ?_);have oz:=Z8 hd (·.setIfInBounds 0 (rawInt nx));have jo:=Xx (Obj.mapFields (·.setIfInBounds 0 (rawInt nx))) ho (Z9 oz);refine X0 (Yk jo oz (by simp) (X2 ⟨v,rfl,X2 (hQ _ ?_ ((Y7 ..).trans (Y7 ..)))⟩));have i5:=Z8 oz (·.setIfInBounds 1 (rawInt (i+1)));refine⟨_,Xx _ jo (Z9 i5),(Obj.cls_mapFields ..).trans ((Obj.cls_mapFields ..).trans hc),?_⟩;rw[i5];simp[rawInt]
theorem wkd{I a T:Addr}{i n ep:Nat}{v:Value}{pl:List Nat}{p:Nat}{Q:Option Value->Shared->Prop}(fh:It s.heap I a (.ref T) i n ep)(hs:Stn s.heap a n ep)(t7:∃o k,s.heap.get? T=some o/\o.data=.seq (pl.map λ(j:Nat)=>rawInt j).toArray k)
  (hp:pl[i]?=some p)
  (hN:∀(A':Around) (E':Value->Shared->Prop) (R:Value->Shared->Prop),R v s->wpAny (model prog w) A' (setNextDrawn a p ep) R E' s)
  (hQ:∀h',It h' I a (.ref T) (i+1) n ep->Heap.SameBut I s.heap h'->Q (some v) { s with heap:=h' }):wpAny (model prog w) A (pyNext (.ref I)) Q E s:=by
 obtain⟨o,ho,hc,hd⟩:=fh;obtain⟨os,es,t,jc,bn,hf,hn⟩:=hs;obtain⟨oT,kT,hoT,oj⟩:=t7;have hT:s.TypeIs (.ref I) "set_iterator":=⟨o,ho,hc⟩;unfold pyNext;refine X0 (wpAny_attempt (Yd (name:=Str.ofString "__next__") hT slot_next (Y0 slot_next hT jwg ?_ (jxf _))));show wpAny _ _ (fieldsOf (.ref I) >>= _) _ _ s;refine X0 (wpAny_fieldsOf ho hd ?_);show wpAny _ _ (setEntries a >>= _) _ _ s;refine X0 (wpAny_setEntries_of jc bn hf ?_);rw[Xb (by rw[hn];simp)];show wpAny _ _ (seqItems? (.ref T) >>= _) _ _ s;refine X0 (Zg hoT oj ?_);have hg:(pl.map λ(j:Nat)=>rawInt j).toArray[((i:Int)).toNat]?=some (.int p 0):=by
  rw[Xw,List.getElem?_toArray,Xp,hp];rfl
 dsimp only;rw[hg];show wpAny _ _ (setNextDrawn a ((p:Int)).toNat ((ep:Int)).toNat >>= _) _ _ s;rw[Xw,Xw];refine X0 (hN _ _ _ ?_);have i5:=Z8 hd (·.setIfInBounds 1 (rawInt (i+1)));refine X0 (Yk ho hd (by simp) (X2 ⟨v,rfl,X2 (hQ _ ?_ (Y7 ..))⟩));refine⟨_,Xx _ ho (Z9 i5),(Obj.cls_mapFields ..).trans hc,?_⟩;rw[i5];simp[rawInt]
theorem wws{I a:Addr}{sl i n ep:Nat}{Q:Option Value->Shared->Prop}(hh:A.handled=none)(fh:It s.heap I a (.int sl 0) i n ep)(hs:Stn s.heap a n ep)
  (hN:∀(A':Around) (E':Value->Shared->Prop) (R:Option (Value×Nat)->Shared->Prop),R none s->wpAny (model prog w) A' (setNext a sl i ep) R E' s)
  (hQ:∀h',Heap.ExtBut I s.heap h'->Q none { s with heap:=h' }):wpAny (model prog w) A (pyNext (.ref I)) Q E s:=by
 obtain⟨o,ho,hc,hd⟩:=fh;obtain⟨os,es,t,jc,bn,hf,hn⟩:=hs;have hT:s.TypeIs (.ref I) "set_iterator":=⟨o,ho,hc⟩;unfold pyNext;refine X0 (wpAny_attempt (Yd (name:=Str.ofString "__next__") hT slot_next (Y0 slot_next hT jwg ?_ (jxf _))));show wpAny _ _ (fieldsOf (.ref I) >>= _) _ _ s;refine X0 (wpAny_fieldsOf ho hd ?_);show wpAny _ _ (setEntries a >>= _) _ _ s;refine X0 (wpAny_setEntries_of jc bn hf ?_);rw[Xb (by rw[hn];simp)];show wpAny _ _ (setNext a ((sl:Int)).toNat ((i:Int)).toNat ((ep:Int)).toNat >>= _) _ _ s;rw[Xw,Xw,Xw];refine X0 (hN _ _ _ ?_);refine X0 (Yk ho hd (by simp) ?_);show wpAny _ _ (newExc (.type "StopIteration") [] >>= _) _ _ _;refine X0 ?_;simp only[newExc,newTuple];refine X0 (Xv ?_ (by size_fits));refine X0 (m:=firstArgMember _ _) (wpAny_of_eq (a:=Value.none) (by first|rfl|(simp only[firstArgMember];rfl)) ?_);refine Xv ?_ (by size_fits);simp only[raiseNew];refine X0 (wpAny_handled ?_);rw[show A.in1.handled=none from hh];refine X0 (X2 (wpAny_throw ?_));refine X0 (wpAny_isInstance (T:="StopIteration") (b:=true) ⟨_,X6 _ rfl,rfl⟩ isSubtype_stop ?_);exact X2 (hQ _ (((Y7 ..).extBut.push _).push _))
theorem wwr{I a T:Addr}{i n ep:Nat}{pl:List Nat}{Q:Option Value->Shared->Prop}(hh:A.handled=none)(fh:It s.heap I a (.ref T) i n ep)(hs:Stn s.heap a n ep)(t7:∃o k,s.heap.get? T=some o/\o.data=.seq (pl.map λ(j:Nat)=>rawInt j).toArray k)
  (hp:pl[i]?=none) (hQ:∀h',Heap.ExtBut I s.heap h'->Q none { s with heap:=h' }):wpAny (model prog w) A (pyNext (.ref I)) Q E s:=by
 obtain⟨o,ho,hc,hd⟩:=fh;obtain⟨os,es,t,jc,bn,hf,hn⟩:=hs;obtain⟨oT,kT,hoT,oj⟩:=t7;have hT:s.TypeIs (.ref I) "set_iterator":=⟨o,ho,hc⟩;unfold pyNext;refine X0 (wpAny_attempt (Yd (name:=Str.ofString "__next__") hT slot_next (Y0 slot_next hT jwg ?_ (jxf _))));show wpAny _ _ (fieldsOf (.ref I) >>= _) _ _ s;refine X0 (wpAny_fieldsOf ho hd ?_);show wpAny _ _ (setEntries a >>= _) _ _ s;refine X0 (wpAny_setEntries_of jc bn hf ?_);rw[Xb (by rw[hn];simp)];show wpAny _ _ (seqItems? (.ref T) >>= _) _ _ s;refine X0 (Zg hoT oj ?_);have hg:(pl.map λ(j:Nat)=>rawInt j).toArray[((i:Int)).toNat]?=none:=by
  rw[Xw,List.getElem?_toArray,Xp,hp];rfl
 dsimp only;rw[hg];have oz:=Z8 hd (·.setIfInBounds 0 (rawInt 0));have jo:=Xx (Obj.mapFields (·.setIfInBounds 0 (rawInt 0))) ho (Z9 oz);refine X0 (Yk ho hd (by simp) ?_);refine X0 (Yk jo oz (by simp) ?_);show wpAny _ _ (newExc (.type "StopIteration") [] >>= _) _ _ _;refine X0 ?_;simp only[newExc,newTuple];refine X0 (Xv ?_ (by size_fits));refine X0 (m:=firstArgMember _ _) (wpAny_of_eq (a:=Value.none) (by first|rfl|(simp only[firstArgMember];rfl)) ?_);refine Xv ?_ (by size_fits);simp only[raiseNew];refine X0 (wpAny_handled ?_);rw[show A.in1.handled=none from hh];refine X0 (X2 (wpAny_throw ?_));refine X0 (wpAny_isInstance (T:="StopIteration") (b:=true) ⟨_,X6 _ rfl,rfl⟩ isSubtype_stop ?_);exact X2 (hQ _ ((((Y7 ..).trans (Y7 ..)).extBut.push _).push _))
end
section
variable {prog:Program}{w:World}{A:Around}{E:Value->Shared->Prop}{s:Shared}
theorem qkt(hh:A.handled=none)(I a:Addr)(bt:a≠I){o:Obj}{es:Array (Int×Value)}{ep:Nat}{t:SetTable}(hd:o.data=.set es ep t)(hf:t.fits es.size=true){cw:List Value}(hl:cw.length=es.size)(sl:Nat->Nat)
  (hN:∀(i:Nat) (s:Shared) (A':Around) (E':Value->Shared->Prop) (R:Option (Value×Nat)->Shared->Prop),s.heap.get? a=some o->i<=es.size->R (cw[i]?.map λv=>(v,sl (i+1))) s->wpAny (model prog w) A' (setNext a (sl i) i ep) R E' s):
  Walks prog w A I [I,a] [I] es.size (λi v=>cw[i]?=some v) (λi h=>It h I a (.int (sl i) 0) i es.size ep/\h.get? a=some o) where
 sub:=λb hb=>by simp at hb;simp[hb]
 frame:=λ_ _ _ st hk=>⟨st.1.at' λo e=>hk I (by simp) o e,hk a (by simp) _ st.2⟩
 item:=λi s Q E hi st hQ=>by
  have hv:cw[i]?=some (cw[i]'⋯):=X3 _;refine wke (nx:=sl (i+1)) (v:=cw[i]'⋯) st.1 ⟨o,es,t,st.2,hd,hf,rfl⟩ (λA' E' R hR=>hN i s A' E' R st.2 (Nat.le_of_lt hi) (by rw[hv];exact hR)) λh' mt jm=>?_
  exact hQ _ h' s.toks hv ⟨mt,(jm.extBut a o bt st.2)⟩ λb o hb e=>jm.extBut b o (λh=>hb (by simp[h])) e
 done:=λs Q E st hQ=>by
  refine wws hh st.1 ⟨o,es,t,st.2,hd,hf,rfl⟩ (λA' E' R hR=>hN es.size s A' E' R st.2 (X9 _) (by rw[Yw ⋯];exact hR)) λh' he=>?_
  exact hQ h' s.toks λb o hb e=>he b o (λh=>hb (by simp[h])) e
 self:=λ_ _ _ _ st hQ=>qq9 st.1 hQ
theorem vq2(hh:A.handled=none)(I a T:Addr)(bt:a≠I)(hneT:T≠I){o oT:Obj}{es:Array (Int×Value)}{ep k:Nat}{t:SetTable}(hd:o.data=.set es ep t)(hf:t.fits es.size=true){pl:List Nat}(hp:pl.Perm (List.range es.size))(oj:oT.data=.seq (pl.map λ(j:Nat)=>rawInt j).toArray k):
  Walks prog w A I [I,a,T] [I] es.size (λi v=>(pl.map λj=>(es.getD j (0,.none)).2)[i]?=some v) (λi h=>It h I a (.ref T) i es.size ep/\h.get? a=some o/\h.get? T=some oT) where
 sub:=λb hb=>by simp at hb;simp[hb]
 frame:=λ_ _ _ st hk=>⟨st.1.at' λo e=>hk I (by simp) o e,hk a (by simp) _ st.2.1,hk T (by simp) _ st.2.2⟩
 item:=λi s Q E hi st hQ=>by
  have av:pl.length=es.size:=by rw[hp.length_eq,Yq]
  have hv:pl[i]?=some (pl[i]'⋯):=X3 _;have cx:pl[i]'⋯<es.size:=List.mem_range.mp (hp.mem_iff.mp (Yc _));refine wkd (p:=pl[i]'⋯) (v:=(es.getD (pl[i]'⋯) (0,.none)).2) st.1 ⟨o,es,t,st.2.1,hd,hf,rfl⟩ ⟨oT,k,st.2.2,oj⟩ hv (λA' E' R hR=>?_) λh' mt jm=>?_
  ·unfold setNextDrawn;refine X0 (Ze st.2.1 hd hf ?_);dsimp only;rw[Xb (by simp),Yu cx];refine X2 ?_;rw[Array.getD_eq_getD_getElem?,Yu cx]at hR;exact hR
  ·exact hQ _ h' s.toks (by rw[Xp,hv];rfl) ⟨mt,(jm.extBut a o bt st.2.1),(jm.extBut T oT hneT st.2.2)⟩ λb o hb e=>jm.extBut b o (λh=>hb (by simp[h])) e
 done:=λs Q E st hQ=>by
  have av:pl.length=es.size:=by rw[hp.length_eq,Yq]
  refine wwr hh st.1 ⟨o,es,t,st.2.1,hd,hf,rfl⟩ ⟨oT,k,st.2.2,oj⟩ (Yw ⋯) λh' he=>?_
  exact hQ h' s.toks λb o hb e=>he b o (λh=>hb (by simp[h])) e
 self:=λ_ _ _ _ st hQ=>qq9 st.1 hQ
theorem qvj(lj:tx w=true){a:Addr}{o:Obj}{es:Array (Int×Value)}{ep:Nat}{t:SetTable}(hd:o.data=.set es ep t)(hf:t.fits es.size=true):
  ∀(i:Nat) (s:Shared) (A':Around) (E':Value->Shared->Prop) (R:Option (Value×Nat)->Shared->Prop),s.heap.get? a=some o->i<=es.size->R (((pickOrder (w.params.setOrder a ep) es).toList.map (·.2))[i]?.map λv=>(v,0)) s->wpAny (model prog w) A' (setNext a 0 i ep) R E' s:=by
 intro i s A' E' R ho hi hR;unfold setNext;refine X0 (Ze ho hd hf ?_);unfold setsByText;refine X0 (X0 (Zh (X2 ?_)));show wpAny _ _ (if tx w=true then _ else _) _ _ _;rw[X8 lj];rw[Xb (by simp)];unfold setWalk;refine X0 (X0 (Ze ho hd hf ?_));unfold setsByText;refine X0 (X0 (Zh (X2 ?_)));show wpAny _ _ (if tx w=true then _ else _) _ _ _;rw[X8 lj];refine X0 (Zh (X2 ?_));refine X2 ?_;rw[Xp,Yj,Option.map_map]at hR;exact hR
end
section
variable {prog:Program}{w:World}{A:Around}{E:Value->Shared->Prop}{s:Shared}
theorem qwj{t:SetTable}{n:Nat}(h:t.fits n=true):t.place.size=n:=by
 simp only[SetTable.fits,Bool.and_eq_true,beq_iff_eq]at h;exact h.1
def sl1(t:SetTable)(i:Nat):Nat:=if i=0 then 0 else t.place.getD 0 0+1
theorem qzq(lj:tx w=false){a:Addr}{o:Obj}{es:Array (Int×Value)}{ep:Nat}{t:SetTable}(hk:Ok prog w o es ep t)(h1:es.size<=1):
  ∀ (i:Nat) (s:Shared) (A':Around) (E':Value->Shared->Prop) (R:Option (Value×Nat)->Shared->Prop),s.heap.get? a=some o->i<=es.size->R ((es.toList.map (·.2))[i]?.map λv=>(v,sl1 t (i+1))) s->wpAny (model prog w) A' (setNext a (sl1 t i) i ep) R E' s:=by
 intro i s A' E' R ho hi hR;have hsz:=qwj hk.f;unfold setNext;refine X0 (Ze ho hk.d hk.f ?_);unfold setsByText;refine X0 (X0 (Zh (X2 ?_)));show wpAny _ _ (if tx w=true then _ else _) _ _ _;rw [Xb (by rw[lj];decide)];show wpAny _ _ (if(!t.plain&&decide (es.size>1))=true then _ else _) _ _ _;rw [Xb (by rw[Xi ⋯];simp)];show wpAny _ _ ((if(!t.led && !es.isEmpty)=true then _ else pure ()) >>= _) _ _ _;rw [Xb (by rw[hk.led,lj];simp)];refine X0 (X2 ?_);refine X2 ?_;obtain⟨es⟩:=es;obtain⟨mask,⟨pl⟩,du,fi,le,mo,pln⟩:=t;cases es with
 | nil=>
  cases pl with
  | nil=>
   have hi0:i=0:=by simpa using hi
   subst hi0;exact hR
  | cons=>cases hsz
 | cons e es=>
  cases es with
  | cons=>exact absurd h1 (by simp)
  | nil=>
   cases pl with
   | nil=>cases hsz
   | cons p pl=>
    cases pl with
    | cons=>cases hsz
    | nil=>
     have hb0:SetTable.below #[p] 0=0:=by
      show SetTable.below.go #[p] 0 1 0 1=0;unfold SetTable.below.go;rw[X8 ⋯,Xb (by simp)];rfl
     have qy:SetTable.below #[p] (p+1)=1:=by
      show SetTable.below.go #[p] (p+1) 1 0 1=1;unfold SetTable.below.go;rw[X8 ⋯,X8 (by simp)];rfl
     rcases(show i=0\/i=1 by have:i<=1:=hi;omega)with rfl|rfl
     ·show R (match (#[e]:Array (Int×Value))[SetTable.below #[p] 0]?,(#[p]:Array Nat)[SetTable.below #[p] 0]? with|some (_,x),some j=>some (x,j+1)|_,_=>none) s;rw[hb0];exact hR
     ·show R (match (#[e]:Array (Int×Value))[SetTable.below #[p] (p+1)]?,(#[p]:Array Nat)[SetTable.below #[p] (p+1)]? with|some (_,x),some j=>some (x,j+1)|_,_=>none) s;rw[qy];exact hR
theorem qkv{es:Array (Int×Value)}{pl:List Nat}(hp:pl.Perm (List.range es.size)):(pl.map λj=>(es.getD j (0,.none)).2).Perm (es.toList.map (·.2)):=by
 refine(hp.map _).trans (.of_eq ?_);apply List.ext_getElem
 ·simp
 ·intro i h1 h2;simp at h1;simp[Array.getD_eq_getD_getElem?,h1]
end
section
variable {prog:Program}{w:World}{A:Around}{E:Value->Shared->Prop}{s:Shared}
theorem vja{a:Addr}{o:Obj}{es:Array (Int×Value)}{ep:Nat}{t:SetTable}(ho:s.heap.get? a=some o)(hk:Ok prog w o es ep t){Q:Bool->Shared->Prop}(h:Q (!tx w&&(!t.plain&&decide (es.size>1))) s):wpAny (model prog w) A (setDrawn a) Q E s:=by
 unfold setDrawn;refine X0 (Ze ho hk.d hk.f ?_);unfold setsByText;refine X0 (X0 (Zh (X2 ?_)));exact X2 h
theorem vvy{a:Addr}{o:Obj}{es:Array (Int×Value)}{ep:Nat}{t:SetTable}{Q:Value->Shared->Prop}(ho:s.heap.get? a=some o)(hk:Ok prog w o es ep t)
  (h:∀(h':Heap) (d:Drawn) (I:Addr) (fp:List Addr) (cw:List Value) (St:Nat->Heap->Prop),(∀b o,s.heap.get? b=some o->h'.get? b=some o)->s.heap.objs.size<=I->(∀b∈fp,b=a\/s.heap.objs.size<=b) ->
   (∀A':Around,A'.handled=none->Walks prog w A' I fp [I] es.size (λi v=>cw[i]?=some v) St)->St 0 h'->cw.Perm (es.toList.map (·.2))->Q (.ref I) { s with heap:=h',drawn:=d }):wpAny (model prog w) A (pyIter (.ref a)) Q E s:=by
 have hT:s.TypeIs (.ref a) "set":=⟨o,ho,hk.ex.1⟩;have i4:a<s.heap.objs.size:=Xa ho;refine wpAny_pyIter_slot hT F.slot_set_iter (Y0 F.slot_set_iter hT qkf ?_ (qxd _));unfold Builtin.«frozenset.__iter__» Builtin.Frozenset.slot0 slotArgs;simp only[List.isEmpty_nil,Bool.not_true,Bool.false_eq_true,↓reduceIte,bind_assoc,List.length_nil,bne_self_eq_false];unfold Builtin.Frozenset.addrOf Builtin.Frozenset.sizeOf;refine X0 (X2 ?_)
 try dsimp only
 refine X0 (X2 ?_);refine X0 (X0 (wpAny_setEntries_of ho hk.d hk.f (X2 ?_)));refine X0 (vja ho hk ?_)
 by_cases hdr:(!tx w&&(!t.plain&&decide (es.size>1)))=true
 ·rw [X8 hdr];refine X0 (drawn es.size _ s (by simp) λpl d hp=>?_);refine X0 (wpAny_newTuple ?_ (hsz:=by rw[X4,hp.length_eq,Yq];exact fits_of_scanBound hk.b));refine X0 (wpAny_setEpoch_of (X1 _ ho) hk.d hk.f ?_);refine X0 (Xv (X2 ⟨_,rfl,"set_iterator",_,⟨_,X6 _ rfl,rfl⟩,slot_next.lookup,?_⟩));have hsz:(s.heap.push (seqObj "tuple" (pl.map λ(i:Nat)=>rawInt i).toArray 0)).objs.size=s.heap.objs.size+1:=Zf ..;refine h _ d _ [_,a,s.heap.objs.size] (pl.map λj=>(es.getD j (0,.none)).2) _ (λb o e=>X1 _ (X1 _ e)) (by rw[hsz];exact Nat.le_succ _) (λb hb=>?_)
   (λA' hh=>vq2 hh _ a s.heap.objs.size (by rw[hsz];exact Xg (Nat.lt_succ_of_lt i4)) (by rw[hsz];exact Xg (Nat.lt_succ_self _)) (o:=o) (oT:=seqObj "tuple" (pl.map λ(i:Nat)=>rawInt i).toArray 0) hk.d hk.f hp rfl)
   ⟨⟨_,X6 _ rfl,rfl,rfl⟩,X1 _ (X1 _ ho),X1 _ (X6 _ rfl)⟩ (qkv hp)
  rcases aD hb with rfl|hb
  ·exact .inr (by rw[hsz];exact Nat.le_succ _)
  rcases aD hb with rfl|hb
  ·exact .inl rfl
  ·rw[aC hb];exact .inr (X9 _)
 ·rw [Xb hdr];refine X0 (X2 ?_);refine X0 (wpAny_setEpoch_of ho hk.d hk.f ?_);refine X0 (Xv (X2 ⟨_,rfl,"set_iterator",_,⟨_,X6 _ rfl,rfl⟩,slot_next.lookup,?_⟩));have hfp:∀b∈[s.heap.objs.size,a],b=a\/s.heap.objs.size<=b:=λb hb=>by
   rcases aD hb with rfl|hb
   ·exact .inr (X9 _)
   ·exact .inl (aC hb)
  cases lj:tx w with
  | true=>
   refine h _ s.drawn _ [_,a] ((pickOrder (w.params.setOrder a ep) es).toList.map (·.2)) _ (λb o e=>X1 _ e) (X9 _) hfp
    (λA' hh=>qkt hh _ a (Xg i4) (o:=o) hk.d hk.f (by rw[X4,(kvd _ es).length_eq,Xj]) (λ_=>0) (qvj lj hk.d hk.f))
    ⟨⟨_,X6 _ rfl,rfl,rfl⟩,X1 _ ho⟩ ((kvd _ es).map _)
  | false=>
   have h1:es.size<=1:=by
    rcases hk.pl with hp|hp
    ·rw[lj,hp]at hdr;simp at hdr;exact hdr
    ·omega
   refine h _ s.drawn _ [_,a] (es.toList.map (·.2)) _ (λb o e=>X1 _ e) (X9 _) hfp
    (λA' hh=>qkt hh _ a (Xg i4) (o:=o) hk.d hk.f (by rw[X4,Xj]) (sl1 t) (qzq lj hk h1))
    ⟨⟨_,X6 _ rfl,rfl,rfl⟩,X1 _ ho⟩ (.refl _)
theorem vw5{a:Addr}{Q:Bool->Shared->Prop}(hT:s.TypeIs (.ref a) "set")(h:Q false s):wpAny (model prog w) A (Builtin.List.listLengthHint (.ref a)) Q E s:=by
 unfold Builtin.List.listLengthHint;refine X0 (Ym hT F.slot_set_len.lookup ?_);generalize ly:("set.__len__":String)=id0
 wp_delta
 rw[show splitId id0=some ("set","__len__")from by subst ly;decide +kernel];subst ly;refine X0 (wpAny_isInstance (T:="set") (b:=true) hT sub_set_self ?_);refine wpAny_ite_split (λma=>absurd ma ⋯) (λ_=>?_);refine wpAny_ite_split (λ_=>?_) (λma=>absurd (by decide +kernel) ma);refine X0 (wpAny_typeOf hT ?_);exact X2 h
theorem qq2:∀{vs:List Value},(∀v∈vs,∃x t,v=Value.str x t)->StrsAre vs (vs.map strOf)
 |[],_=>.nil
 |v::vs,h=>by
  obtain⟨x,t,rfl⟩:=h v X7;exact .cons x t (qq2 λv hv=>h v (lc9 _ hv))
theorem qkh{a:Addr}{ls:List Str}{Q:List Value->Shared->Prop}(hh:A.handled=none)(hS:Has prog w s.heap a ls)
  (h:∀(h':Heap) (d:Drawn) (tk:Nat) (vs:List Value) (ss:List Str),(∀b o,s.heap.get? b=some o->h'.get? b=some o)->s.heap.objs.size<h'.objs.size->StrsAre vs ss->ss.Perm ls->Q vs { s with heap:=h',drawn:=d,toks:=tk }):
  wpAny (model prog w) A (collect (.ref a)) Q E s:=by
 obtain⟨o,es,ep,t,ho,hk,hp⟩:=hS;have i4:a<s.heap.objs.size:=Xa ho;unfold collect;refine X0 (wpAny_runValue (Z1 F.entry_proto_collect ?_));rw[Yn F.plain_proto_collect _];show wpAny _ A.in1 (newList [] >>= λl=>again (.builtin "list.__iadd__" ⟨[l,.ref a],[]⟩)) _ _ s;refine X0 (Xv ?_);refine X2 ⟨plainId_quiet F.plain_list_iadd _,Z1 F.entry_list_iadd ?_⟩;rw[Yn F.plain_list_iadd _];have jo:(s.heap.push { cls:=.type "list",data:=.seq ([]:List Value).toArray }).get? a=some o:=X1 _ ho;have hT1:Shared.TypeIs { s with heap:=s.heap.push { cls:=.type "list",data:=.seq ([]:List Value).toArray } } (.ref a) "set":=⟨o,jo,hk.ex.1⟩;show wpAny _ A.in1 (Builtin.List.listExtendWith (.ref s.heap.objs.size) (.ref a) (.ref s.heap.objs.size)) _ _ _;unfold Builtin.List.listExtendWith;refine X0 (wpAny_typeOf hT1 ?_);have h1:Builtin.List.listSameRef (.ref s.heap.objs.size) (.ref a)=false:=by simp[Builtin.List.listSameRef];exact Nat.ne_of_gt i4
 have h2:(Value.type "set" == Value.type "list")=false:=⋯
 have h3:(Value.type "set" == Value.type "tuple")=false:=⋯
 simp only[h1,h2,h3,Bool.or_false,Bool.false_eq_true,if_false];refine X0 (vvy jo hk λh' d I fp cw St f8 hI hfp W st0 hv=>?_);refine X0 (Xz (vw5 ⟨o,f8 _ _ jo,hk.ex.1⟩ ?_));show wpAny _ A.in1 (PySem.rule "list.extend.makes-room" >>= λ_=>Builtin.List.listTouch (.ref s.heap.objs.size) >>= λ_=>
  again (.builtin "list.extend.loop" ⟨[.ref s.heap.objs.size,.ref I,.ref s.heap.objs.size],[]⟩)) _ _ _
 refine X0 (Zj ?_);have hsz:(s.heap.push { cls:=.type "list",data:=.seq ([]:List Value).toArray }).objs.size=s.heap.objs.size+1:=Zf ..;have hI':s.heap.objs.size+1<=I:=by rw[<-hsz];exact hI
 have m8:s.heap.objs.size∉fp:=λhm=>by
  rcases hfp _ hm with e|e
  ·exact absurd e (Nat.ne_of_gt i4)
  ·have e:s.heap.objs.size+1<=s.heap.objs.size:=by rw[<-hsz];exact e
   exact absurd e (Nat.not_succ_le_self _)
 have hS₁:h'.get? s.heap.objs.size=some { cls:=.type "list",data:=.seq ([]:List Value).toArray }:=f8 _ _ (X6 _ rfl);refine X0 ?_;show wpAny _ A.in1 (updateSeq s.heap.objs.size (·.push .none) >>= λ_=>updateSeq s.heap.objs.size (·.pop)) _ _ _;refine X0 (wpAny_updateSeq hS₁ rfl ?_);have hS₂:=Xx (Obj.mapSeq (·.push Value.none)) hS₁ rfl;refine wpAny_updateSeq hS₂ rfl ?_;have hS₃:=Xx (Obj.mapSeq (·.pop)) hS₂ rfl;have oth:∀b o,b≠s.heap.objs.size->h'.get? b=some o->((h'.update s.heap.objs.size (Obj.mapSeq (·.push Value.none))).update s.heap.objs.size (Obj.mapSeq (·.pop))).get? b=some o:=
  λb o hb e=>(Z5 _ _ (Zi hb)).trans ((Z5 _ _ (Zi hb)).trans e)
 have WW:=W A.in1 hh;have av:cw.length=es.size:=by rw[hv.length_eq,X4,Xj]
 refine X2 ⟨plainId_quiet F.plain_extend_loop _,codeAny_extend_loopS WW.toS (fits_of_scanBound hk.b) _ m8 _ es.size 0 _ _ _ rfl (Yg _) (WW.frame 0 h' _ st0 λb hb o e=>oth b o (λe'=>m8 (e'▸hb)) e) hS₃ (ItemsOf.nil _) λs' dy c' hm iy bg=>?_⟩;show wpAny _ A (load s.heap.objs.size >>= _) _ _ s';refine X0 (wpAny_load iy ?_);have qd:dy.toList=cw:=by
  apply List.ext_getElem?;intro j
  by_cases hj:j<es.size
  ·have hj1:j<dy.size:=by rw[bg.1];exact hj
   rw[Yj,Yu hj1];exact(bg.2 j _ (Yu hj1)).symm
  ·rw[Yw (by rw[Xj,bg.1];omega),Yw ⋯]
 refine X2 ?_;rw[qd,Moved.eq_with hm];refine h _ d _ cw (cw.map strOf) (λb o e=>?_) (Xa iy) ?_ ?_
 ·have hb:b<s.heap.objs.size:=Xa e;have hbS:b≠s.heap.objs.size:=Xg hb;refine hm.heap b o (λhmem=>?_) (oth b o hbS (f8 b o (X1 _ e)));rcases aD hmem with e'|hmem
  ·exact hbS e'
  ·rw[aC hmem]at hb;exact absurd hb (Nat.not_lt.mpr (Nat.le_of_succ_le hI'))
 ·exact qq2 λv hvm=>by
   obtain⟨e,he,rfl⟩:=aE (hv.mem_iff.mp hvm);exact vkm hk.el he
 ·refine((hv.map strOf).trans (.of_eq ?_)).trans hp;rw[Xs];rfl
end
section
variable {prog:Program}{w:World}{A:Around}{E:Value->Shared->Prop}{s:Shared}
theorem qjq{a:Addr}{ls:List Str}{Q:Value->Shared->Prop}(hh:A.handled=none)(hS:Has prog w s.heap a ls)(h64:ls.length<64)
  (h:∀(h':Heap) (d:Drawn) (tk l e:Nat) (out:Array Value) (ss:List Str),(∀b o,s.heap.get? b=some o->h'.get? b=some o)->s.heap.objs.size<=l->h'.get? l=some (seqObj "list" out e)->StrsAre out.toList ss->ss.Perm ls->sortedS ss=true->Q (.ref l) { s with heap:=h',drawn:=d,toks:=tk }):
  wpAny (model prog w) A (call (.builtin "sorted") [.ref a]) Q E s:=by
 refine Calls.call_function_entry kind_sorted plain_sorted entry_sorted (args_sorted1 _) ?_;unfold Builtin.«sorted»;refine X0 (m:=checkCount "sorted" 1 1 _) (X2 ?_);refine X0 (qkh (by simpa using hh) hS λh' d tk vs ss f8 hsz hv hp=>?_);have h64':vs.length<64:=by rw[kkr hv,hp.length_eq];exact h64
 refine X0 (wpAny_newList ?_ (hsz:=by rw[sizeLine_eq];omega));have sk:(h'.push (seqObj "list" vs.toArray 0)).get? h'.objs.size=some (seqObj "list" vs.toArray 0):=X6 _ rfl;refine X0 (Xz (Y0 slot_list_sort ⟨_,sk,rfl⟩ entry_list_sort (list_sort_treeK strKind_oneLt sk hv.keysOf (λv₁ v₂ jq e=>keyKind_strs (by rw[<-e];exact hv)) h64' λef a1 a2=>⟨_,rfl,?_⟩) (args_list_sort _)));obtain⟨lv,h1,h2,h3⟩:=sorted_out_str hv a1 a2;obtain⟨e,he⟩:=sortedHeap_at (out:=(arrOf ef).map (·.2)) sk;refine X2 ⟨_,rfl,h _ d tk _ e _ lv (λb o q=>?_) (Nat.le_of_lt hsz) he h1 (h2.trans hp) h3⟩;have hb:=Xa (f8 b o q);show(sortedHeap (h'.push (seqObj "list" vs.toArray 0)) h'.objs.size vs _).get? b=some o;rw[sortedHeap_old (Xg hb) (by rw[size_push'];exact Nat.lt_succ_of_lt hb)];exact X1 _ (f8 b o q)
end
end Sw
namespace Q
open PySem PySem.Spec PyProof.Rows L2 L3 Sw
section
variable {X:Cx}{Z:Fx0}{K:Frag}{q:Bool}{a:Ex}{e ea:Expr}{O:L2.St}{H:Hp}{pos p p2 bw:Pos}{x y:Str}{pins:List (Addr×Obj)}{s:Shared}
theorem Inv.dr{d:Drawn}(I:L2.Inv X pins O H s):L2.Inv X pins O H { s with drawn:=d }:=⟨I.ok,I.os,I.bare,I.base,I.loc,I.cell,I.free,I.freeC,I.pin,I.hok,I.len⟩
def wz9(X:Cx)(f:Value)(r:List Str->Hp->VK->Prop):Prop:=
 ∀(pins:List (Addr×Obj)) (s:Shared) (O:L2.St) (H:Hp) (b:Addr) (ls:List Str) (Q:VK),L2.Inv X pins O H s->Has X.prog X.w s.heap b ls->r ls H Q->wpAny (model X.prog X.w) X.A (call f [.ref b]) (EP X pins O Q) X.xe s
def wvj(K:Frag)(r:List Str->Hp->VK->Prop):List V->Hp->VK->Prop:=λxs H Q=>∃p ss,xs=[.ref p]/\SqL K H p (ss.map V.str)/\ss.length<4000/\r (dd ss) H Q
theorem vv6{id:String}{r:List Str->Hp->VK->Prop}{t:TE}(hc:X.calm=true)(hf:wz9 X (.builtin id) r)(hg:Gl X x)(hm:X.mg x=none)(hv:bootBuiltins x=some (.builtin id))(pe:Gl X "set")(lh:X.mg "set"=none)(hv2:bootBuiltins "set"=some (.type "set"))
  (ha:PE X e t) (hn:autoParam (x≠"__name__") ŕ) (db:autoParam ((x==("__debug__":Str))=false) ŕ) (oh:autoParam (("set":Str)≠"__name__") ŕ) (hdb2:autoParam ((("set":Str)==("__debug__":Str))=false) ŕ)
  (he:autoParam (starEach [e] X.env=(false,eval e X.env)::starEach [] X.env) Ŕ):
  PE X (.Call (.Name x p) [.Call (.Name "set" p2) [e] [] bw] [] pos) (fun O H Q=>t O H λv H1=>wvj X.K r [v] H1 Q):=by
 intro pins s O H Q I h;refine Yf (Jk I hg hm hv ?_ hn db);refine PyProof.Rows.callWith_builtin1 ?_ rfl rfl;show wpAny _ _ (spliced ((false,eval (.Call (.Name "set" p2) [e] [] bw) X.env)::[])) _ _ s;refine Calls.spliced_cons ?_;refine Yf (Jk I pe lh hv2 ?_ oh hdb2);refine Y5 (thn (qZ ha wq he bw pins s O H (λvs H1=>wvj X.K r vs H1 Q) I ?_) λus s1 ⟨vs,H1,I1,r1,q1⟩=>?_) he rfl
 ·exact h
 obtain⟨b,ss,rfl,hq,hl,q⟩:=q1;obtain⟨u,rfl,rx⟩:=z5 r1;cases rx;obtain⟨ah,r',pl,hz⟩:=I1.list hq;have av:=r'.length;rw[X4]at av hz;refine vje (I1.ok.hd hc) pl.isList (by simpa using qjp r') (by simp;unfold scanBound;omega) λh' tk hS f8=>?_
 have I2:L2.Inv X pins O H1 { s1 with heap:=h',toks:=tk }:=I1.kept λb u q=>f8 b u (Xa q) q
 exact Calls.spliced_nil (hf pins _ O H1 _ (dd ss) Q I2 hS q)
theorem qjr(hc:X.calm=true):wz9 X (.builtin "sorted") (λls H Q=>ls.length<64/\∀l,H l=none->Q (.ref l) (upd H l (.lst ((wJ ls).map V.str)))):=by
 intro pins s O H b ls Q I hS h;refine qjq (I.ok.hd hc) hS h.1 λh' d tk l e out ss f8 hl hg h1 h2 h3=>?_
 have e1:=qxs h2 h3;subst e1;have hz:(wJ ls).length<=sizeLine:=by rw[(jwa ls).length_eq,sizeLine_eq];omega
 refine⟨.ref l,_,Inv.dr (I.laid (t':=tk) (o:=.lst ((wJ ls).map V.str)) f8 hl ?_),rfl,h.2 l (I.hok.fresh hl)⟩;exact⟨by rw[X4];exact hz,out.toList,e,qku h1,by simpa using hg⟩
end
section
variable {X:Cx}{Z:Fx0}{K:Frag}{q:Bool}{a:Ex}{e ea:Expr}{O:L2.St}{H:Hp}{pos p p2 bw:Pos}{x y:Str}{pins:List (Addr×Obj)}{s:Shared}
theorem wq0{ss:List Str}{z:Str}(h:z∈ddS ss):z∈ss:=by
 have:∀(l ao:List Str),z∈l.foldl (λl k=>if l.any (· == k)then l else l++[k]) ao->z∈ao\/z∈l:=by
  intro l
  induction l with
  | nil=>intro ao h;exact .inl h
  | cons k l ih=>
   intro ao h;rcases ih _ h with h|h
   ·dsimp only at h
    split at h
    ·exact .inl h
    ·rcases aA h with h|h
     ·exact .inl h
     ·exact .inr (by rw[aC h];exact X7)
   ·exact .inr (lc9 _ h)
 rcases this ss [] h with h|h
 ·cases h
 ·exact h
def rSS(K:Frag):List V->Hp->VK->Prop:=wvj K λls H Q=>ls.length<64/\∀l,H l=none->Q (.ref l) (upd H l (.lst ((wJ ls).map V.str)))
theorem qkm:Ad1 K (λv H Q=>rSS K [v] H Q) KY:=by
 intro H x s Q ok hf k;unfold KY at hf;dsimp only at hf;cases hx:x.d with
 | lst ds=>
  rw[hx]at hf;dsimp only at hf;obtain⟨l,xs,bs,ev,q3,r3,_⟩:=items ok (.inl hx);have q3:LsR K H l xs:=by rcases q3 with⟨_,z⟩|⟨z,_⟩;exact z;rw[hx]at z;cases z
  cases hs:zx ds with
  | some ss=>
   rw[hs]at hf;dsimp only at hf
   split at hf
   ·rename_i hl;cases oq9 hf;obtain⟨e1,e2⟩:=kkq hs r3;subst e1;refine⟨l,ss,by rw[ev],J6 q3,⋯,Nat.lt_of_le_of_lt (wq1 ss) hl,λp hp=>?_⟩;exact k ⟨.rt,.lst _,.ref p,p::[]⟩ _ rfl rfl (KZ hp (kzg λz hz=>e2 z (wq0 ((jwa _).mem_iff.mp hz))) λb hb=>nomatch hb)
   ·cases hf
  |none=>rw[hs]at hf;cases hf
 |_=>rw[hx]at hf;cases hf
theorem kv7(hK:X.K=Z.K)(hc:X.calm=true)(ha:QV X Z q a ea)(hm:X.mg "sorted"=none)(lh:X.mg "set"=none)(hg:autoParam (Gl X "sorted") Ŕ)(pe:autoParam (Gl X "set") Ŕ)(he:autoParam (starEach [ea] X.env=(false,eval ea X.env)::starEach [] X.env) Ŕ):
  QE X Z q (cF1 KY a) (.Call (.Name "sorted" p) [.Call (.Name "set" p2) [ea] [] bw] [] pos):=
 qx (vv6 hc (qjr hc) hg hm rfl pe lh rfl ha (he:=he)) fun O H Q h=>by
  have:=WK (r:=λv H Q=>rSS Z.K [v] H Q) qkm h;rw[hK];exact this
end
end Q
namespace Q
open PySem PySem.Spec PyProof.Rows L2 L3
section
variable {X:Cx}{Z:Fx0}{K:Frag}{H:Hp}{q g:Bool}{a:Ex}{e:Expr}{p2 pos:Pos}{x:Str}{d:D}{ds:List D}{v:V}{vs:List V}
def wx3(o:Obj)(xs:List V):Prop:=o.cls=.type "tuple"/\o.dict=none/\∃ah n,o.data=.seq ah n/\ah.size<=sizeLine/\Vals xs ah.toList
theorem qvl{b:Addr}{o:Obj}(h:K.lookup b=some o)(m:wx3 o vs):SqT K H b vs:=by
 obtain⟨m1,m2,ah,n,m3,m4,m5⟩:=m;exact .inr ⟨o,ah,n,h,m1,m2,m3,m4,m5⟩
theorem vz6:RepA K H g [] [] []:=by unfold RepA;exact⟨rfl,rfl⟩
theorem vqh(h:RepL K H g d v [])(r:RepA K H g ds vs []):RepA K H g (d::ds) (v::vs) []:=by
 unfold RepA;exact⟨v,vs,[],[],rfl,rfl,h,r⟩
theorem wxd{b:Addr}(h:SqT K H b vs)(r:RepA K H g ds vs []):RepL K H g (.tup ds) (.ref b) []:=by
 unfold RepL;exact⟨b,vs,rfl,h,r⟩
def wzd(K:Frag)(mg:Str->Option Value)(x:Str)(d:D):Prop:=∃v,Cst mg x v/\∀H,RepL K H false d v []
theorem q_CD(c:wzd Z.K X.mg x d)(hg:autoParam (Gl X x) Ŕ)(hd:autoParam ((x==("__debug__":Str))=false) ŕ):QE X Z true (cC d) (.Name x pos):=by
 obtain⟨v,c,r⟩:=c;exact q_C (V4 c hg hd) r
end
end Q
namespace Q
open PySem
def WQ:Sd->Option Sd:=λx=>match x.2 with
 |.lst xs=>if q9 x then some (.rt,.lst xs.reverse)else none|_=>none
def bI(u:Ts)(a b:Ex):Sm:=λE=>match u E with
 |some (.ok E k)=>ofE ((if k=true then a else b) E) λE _=>some (.nx E)|_=>none
def wv0:D->D->Option D:=λy x=>match y with
 |.dct kvs=>if v4 x=true/\unm kvs=true/\D.pures (kvs.map (·.2))=true then wQ kvs x else none|_=>none
def vxe(a b:Ex):Ex:=λE=>bnd (a E) λE x=>bnd (b E) λE y=>val E ((wv0 x.2 y.2).map λd=>(.dp,d))
end Q
namespace PySem
section
variable {prog:Program}{w:World}{A:Around}{E:Value->Shared->Prop}{s:Shared}
theorem vqg:typeLookup (.type "list_reverseiterator") "__len__"=pure none:=am_miss_of_fast (by decide +kernel)
theorem qxz:typeLookup (.type "list_reverseiterator") "__length_hint__"=pure (some (.builtin "list_reverseiterator.__length_hint__")):=by
 rw[typeLookup_type,builtinLookup_eq_fast];have h:fastLookup "list_reverseiterator" "__length_hint__"=some (some (.builtin "list_reverseiterator.__length_hint__")):=by kernel_rfl
 simp only[h]
theorem Q1{α:Type}{c:Prop}[Decidable c]{M:Model}{t e:Sem α}{Q:α->Shared->Prop}(h:¬c)(k:wpAny M A e Q E s):wpAny M A (if c then t else e) Q E s:=by rw[Xb h];exact k
theorem vvz{α:Type}{c:Prop}[Decidable c]{M:Model}{t e:Sem α}{Q:α->Shared->Prop}(h:c)(k:wpAny M A t Q E s):wpAny M A (if c then t else e) Q E s:=by rw[X8 h];exact k
theorem kjy{r l:Addr}{i:Int}{Q:Bool->Shared->Prop}(hr:s.heap.IsRevIter r l i)(h:Q false s):wpAny (model prog w) A (Builtin.List.listLengthHint (.ref r)) Q E s:=by
 have hT:=hr.typeIs;unfold Builtin.List.listLengthHint;refine X0 (Ym hT vqg ?_);dsimp only;refine Q1 ⋯ (Q1 ⋯ (X0 (Ym hT qxz ?_)));have sp:splitId "list_reverseiterator.__length_hint__"=some ("list_reverseiterator","__length_hint__"):=by decide +kernel
 dsimp only;simp only[sp];refine X0 (wpAny_isInstance (b:=true) hT (by first|exact F.sub_lri_self|exact isSubtype_self _|rfl) ?_);exact Q1 ⋯ (vvz (by decide +kernel) (Q1 ⋯ (X2 h)))
theorem kqn{Q:Value->Shared->Prop}{I l:Addr}{items:Array Value}(hh:A.handled=none)(hI:s.heap.IsRevIter I l (items.size - 1))(hl:s.heap.IsList l items)(bt:l≠I)(hz:items.size<=sizeLine)
  (h:∀(h':Heap) (tk:Nat) (ao:Array Value) (c:Nat),(∀b o,b≠I->s.heap.get? b=some o->h'.get? b=some o)->h'.get? s.heap.objs.size=some { cls:=.type "list",data:=.seq ao c }->ItemsOf (λi v=>items[items.size - 1 - i]?=some v) ao items.size->Q (.ref s.heap.objs.size) { s with heap:=h',toks:=tk }):
  wpAny (model prog w) A (call (.type "list") [.ref I]) Q E s:=by
 refine callType_codes (Q₁:=λobj s₁=>obj=Value.ref s.heap.objs.size/\s₁={ s with heap:=s.heap.push { cls:=Value.type "list",data:=Data.seq #[] } }) F.called_list (F.typeCall_list_1 _) F.entry_list_init (code_list_new _ ⟨rfl,rfl⟩) ?_;rintro obj s₁ ⟨rfl,rfl⟩;have dz:(s.heap.push { cls:=Value.type "list",data:=Data.seq #[] }).get? s.heap.objs.size=some { cls:=Value.type "list",data:=Data.seq #[] }:=X6 _ rfl;have hT:Shared.TypeIs { s with heap:=s.heap.push { cls:=Value.type "list",data:=Data.seq #[] } } (.ref s.heap.objs.size) "list":=⟨_,dz,rfl⟩;have hI':(s.heap.push { cls:=Value.type "list",data:=Data.seq #[] }).IsRevIter I l (items.size - 1):=hI.at λo e=>X1 _ e
 refine⟨hT,F.args_list_init_2 _ _,?_⟩;have hm:∃n,Obj.mapSeq (λ_=>#[]) ({ cls:=Value.type "list",data:=Data.seq #[] }:Obj)={ cls:=Value.type "list",data:=Data.seq #[] n }:=⟨_,by unfold Obj.mapSeq;rfl⟩;obtain⟨n0,hm⟩:=hm;have mw:s.heap.objs.size≠I:=λe=>by
  obtain⟨o,ho,_⟩:=hI;exact absurd (Xa ho) (by rw[e];exact Yh _)
 have pq:s.heap.objs.size≠l:=λe=>by
  obtain⟨o,ho,_⟩:=hl;exact absurd (Xa ho) (by rw[e];exact Yh _)
 unfold Builtin.«list.__init__»;refine Q1 (λz=>nomatch z) (Q1 (λz=>absurd z (by simp)) (X0 (PyProof.Rows.listItems_at dz rfl (X0 (PyProof.Rows.listUpdate_at dz rfl ?_)))));have sb:=Y7 (s.heap.push { cls:=Value.type "list",data:=Data.seq #[] }) s.heap.objs.size (Obj.mapSeq (λ_=>#[]));have hS:=Xx (Obj.mapSeq (λ_=>(#[]:Array Value))) dz rfl;rw[hm]at hS;generalize (s.heap.push { cls:=Value.type "list",data:=Data.seq #[] }).update s.heap.objs.size (Obj.mapSeq (λ_=>#[]))=h1 at sb hS;have hI1:h1.IsRevIter I l (items.size - 1):=hI'.at λo e=>sb.extBut I o (Zi mw) e
 have gw:h1.IsList l items:=by
  obtain⟨o,ho,r⟩:=hl;exact⟨o,sb.extBut l o (Zi pq) (X1 _ ho),r⟩
 refine X0 (wpAny_letGo ?_);show wpAny _ _ (Builtin.List.listExtendWith (.ref s.heap.objs.size) (.ref I) .none) _ _ _;unfold Builtin.List.listExtendWith;have hT1:Shared.TypeIs { s with heap:=h1 } (.ref I) "list_reverseiterator":=hI1.typeIs;refine X0 (wpAny_typeOf hT1 (Q1 ?_ ?_))
 ·have e1:Builtin.List.listSameRef (.ref s.heap.objs.size) (.ref I)=false:=by
   show(s.heap.objs.size==I)=false;exact Y9 mw
  rw[e1];decide
 refine X0 (wpAny_pyIter_revIter hI1 (X0 (Xz (kjy hI1 ?_))));refine Q1 ⋯ ?_;have W:=(Walks.listRev (prog:=prog) (w:=w) (A:=A.in1.in1) (by simp[hh]) I l bt items).toS;refine X2 ⟨plainId_quiet (by decide +kernel) _,?_⟩;refine codeAny_extend_loopS (A:=A.in1) W hz s.heap.objs.size ?_ .none (items.size - 0) 0 _ #[] n0 rfl (Yg _) ⟨Yg _,by simpa using hI1,gw⟩ hS ⟨rfl,λj v e=>by simp at e⟩ λs' dy c' oi iy bg=>?_
 ·simp only[Y6,Xq,or_false,not_or];exact⟨mw,pq⟩
 ·obtain⟨h2,g',d',mr,nj⟩:=s';have eg:g'=s.gens:=oi.gens;have ed:d'=s.drawn:=oi.drawn;have eo:nj=s.os:=oi.os;subst eg;subst ed;subst eo;refine⟨rfl,h h2 mr dy c' (λb o hb e=>?_) iy bg⟩;have cx:=Xa e;refine oi.heap b o ?_ (sb.extBut b o (Xg cx) (X1 _ e));simp only[Y6,Xq,or_false,not_or];exact⟨Xg cx,hb⟩
end
end PySem
namespace Q
open PySem PySem.Spec PyProof.Rows L2 L3
section
variable {X:Cx}{Z:Fx0}{pn:List Nat}{q:Bool}{a b:Ex}{e ea:Expr}{p pos:Pos}
theorem wja{ta:TE}{p2 bw:Pos}(ha:PE X ea ta)(t8:X.mg "reversed"=none)(rg:X.mg "list"=none)(hc:autoParam (X.calm=true) Ŕ)(qt:autoParam (Gl X "reversed") Ŕ)(qc:autoParam (Gl X "list") Ŕ)
  (cq:autoParam (starEach [ea] X.env=(false,eval ea X.env)::starEach [] X.env) Ŕ) (bp:autoParam ((backTo bw (starEach [] X.env)).any (·.1)=false) Ŕ)
  (ie:autoParam (starEach [.Call (.Name "reversed" p2) [ea] [] bw] X.env=(false,eval (.Call (.Name "reversed" p2) [ea] [] bw) X.env)::starEach [] X.env) Ŕ) (lb:autoParam ((backTo pos (starEach [] X.env)).any (·.1)=false) Ŕ):
  PE X (.Call (.Name "list" p) [.Call (.Name "reversed" p2) [ea] [] bw] [] pos) (fun O H Q=>ta O H λv H1=>∃l ys,[v]=[.ref l]/\SqL X.K H1 l ys/\∀pp,H1 pp=none->Q (.ref pp) (upd H1 pp (.lst ys.reverse))):=by
 intro pins s O H Q I h;refine Yf (Jk I qc rg Kx ?_);refine Y5 ?_ ie lb;rw[ie];show wpAny _ _ (spliced ((false,eval (.Call (.Name "reversed" p2) [ea] [] bw) X.env)::backTo pos (starEach [] X.env))) _ _ s;refine Calls.spliced_cons (thn (Q:=λu s2=>∃(H1:Hp) (I0 l:Addr) (ys:List V) (ah:List Value),u=.ref I0/\L2.Inv X pins O H1 s2/\v8 X pins H1 I0/\s2.heap.IsRevIter I0 l (ah.toArray.size - 1)/\s2.heap.IsList l ah.toArray/\l≠I0/\Vals ys ah/\ys.length<=sizeLine/\∀pp,H1 pp=none->Q (.ref pp) (upd H1 pp (.lst ys.reverse))) ?_ λu s2 hu=>?_)
 ·refine Call_ (Jk I qt t8 boot_reversed (Y5 (thn (qZ ha wq cq bw pins s O H (λvs H1=>∃l ys,vs=[.ref l]/\SqL X.K H1 l ys/\∀pp,H1 pp=none->Q (.ref pp) (upd H1 pp (.lst ys.reverse))) I ?_) λus s1 ⟨vs,H1,I1,r1,l,ys,e,hq,q1⟩=>?_) cq bp))
  ·exact h
  ·subst e;obtain⟨u,rfl,rx⟩:=z5 r1;cases rx;obtain⟨ah,r',pl,hz⟩:=I1.list hq;refine call_reversed_list pl.isList ⟨H1,s1.heap.objs.size,l,ys,ah,rfl,I1.kept (t':=s1.toks) (λb o e=>X1 _ e),I1.fpOk (X9 _) (I1.hok.fresh (X9 _)),⟨_,X6 _ rfl,rfl,rfl⟩,pl.isList.push _,?_,r',hz,q1⟩;obtain⟨o,ho,_⟩:=pl.isList;exact Xg (Xa ho)
 ·obtain⟨H1,I0,l,ys,ah,rfl,I2,f0,hri,hls,bt,hv,hz,hq⟩:=hu;refine thn (Calls.spliced_nil (Q:=λus s3=>us=[]/\s3=s2) ⟨rfl,rfl⟩) ?_;rintro us s3 ⟨rfl,rfl⟩;refine kqn (I.ok.hd hc) hri hls bt (by rw[X5,<-hv.length];exact hz) λh' tk ao c kp e fh=>?_
  have fT:v8 X pins H1 s3.heap.objs.size:=I2.fpOk (X9 _) (I2.hok.fresh (X9 _));have I3:L2.Inv X pins O H1 { s3 with heap:=h',toks:=tk }:=jwu [I0] I2 (λb o hb ee=>kp b o (λz=>hb (by rw[z];exact X7)) ee) (λb hb=>by rw[aC hb];exact f0);have hva:Vals ys.reverse ao.toList:=by
   obtain⟨hs,hg⟩:=fh;have hs:ao.size=ah.length:=by simpa using hs
   rw[X5]at hg;have hl:=hv.length;refine kkp (by simp[hs,hl]) λi x u ex eu=>?_
   rw[Yj]at eu;have hi:i<ah.length:=by rw[<-hs];exact(Array.getElem?_eq_some_iff.mp eu).1
   have h2:=hg i u eu;rw[List.getElem?_reverse ⋯]at ex;obtain⟨u',hu',ru'⟩:=hv.get ex;rw[List.getElem?_toArray,show ah.length - 1 - i=ys.length - 1 - i by omega,hu']at h2;cases oq9 h2;exact ru'
  have I4:=kjg (a:=s3.heap.objs.size) (o:=.lst ys.reverse) I3 fT.1 fT.2.1 fT.2.2.2.1 fT.2.2.2.2.1 fT.2.2.2.2.2 (show ObjOk X.prog X.w _ h' _ (.lst ys.reverse)from⟨by rw[List.length_reverse];exact hz,ao.toList,c,hva,by simpa using e⟩);exact⟨.ref s3.heap.objs.size,_,I4,rfl,hq _ fT.1⟩
theorem qva{g:Bool}{K:Frag}{H:Hp}:∀{ds:List D} {xs:List V} {as:List Addr},RepA K H g ds xs as->∃on,RepA K H g ds.reverse xs.reverse on/\∀b∈on,b∈as
 |[],xs,as,h=>by
  unfold RepA at h;obtain⟨rfl,rfl⟩:=h;exact⟨[],by unfold RepA;exact⟨rfl,rfl⟩,λ_ z=>z⟩
 |d::ds,xs,as,h=>by
  unfold RepA at h;obtain⟨x,r,bs,cs,rfl,rfl,h1,h2⟩:=h;obtain⟨on,i1,i2⟩:=qva h2;refine⟨on++bs,by rw[List.reverse_cons,List.reverse_cons];exact RepA.snoc h1 i1,λb hb=>?_⟩;rcases aA hb with z|z
  ·exact lr9 _ (i2 b z)
  ·exact ll9 _ z
def wxh(K:Frag):V->Hp->VK->Prop:=λv H Q=>∃l ys,[v]=[V.ref l]/\SqL K H l ys/\∀pp,H pp=none->Q (.ref pp) (upd H pp (.lst ys.reverse))
theorem wqd{K:Frag}:Ad1 K (wxh K) WQ:=by
 intro H x s Q ok hf k;unfold WQ at hf;dsimp only at hf
 split at hf
 ·rename_i ds e
  split at hf
  ·rename_i hl;cases oq9 hf;obtain⟨l,xs,bs,ev,q3,r3,h3⟩:=xZ ok (.inl e) hl;have q3:LsR K H l xs:=by rcases q3 with⟨_,z⟩|⟨z,_⟩;exact z;rw[e]at z;cases z
   obtain⟨on,i1,i2⟩:=qva r3;exact⟨l,xs,by rw[ev],J6 q3,λp hp=>k ⟨.rt,.lst ds.reverse,.ref p,p::on⟩ _ rfl rfl (KZ hp i1 λb hb=>h3 b (i2 b hb))⟩
  ·cases hf
 ·cases hf
theorem vzj{p2 bw:Pos}(ha:QV X Z q a ea)(t8:X.mg "reversed"=none)(rg:X.mg "list"=none)(hK:autoParam (X.K=Z.K) Ŕ)(hc:autoParam (X.calm=true) Ŕ)(qt:autoParam (Gl X "reversed") Ŕ)(qc:autoParam (Gl X "list") Ŕ)
  (cq:autoParam (starEach [ea] X.env=(false,eval ea X.env)::starEach [] X.env) Ŕ) (bp:autoParam ((backTo bw (starEach [] X.env)).any (·.1)=false) Ŕ)
  (ie:autoParam (starEach [.Call (.Name "reversed" p2) [ea] [] bw] X.env=(false,eval (.Call (.Name "reversed" p2) [ea] [] bw) X.env)::starEach [] X.env) Ŕ) (lb:autoParam ((backTo pos (starEach [] X.env)).any (·.1)=false) Ŕ):
  QE X Z q (cF1 WQ a) (.Call (.Name "list" p) [.Call (.Name "reversed" p2) [ea] [] bw] [] pos):=
 qx (wja ha t8 rg hc qt qc cq bp ie lb) fun O H Q h=>WK (r:=wxh X.K) (hK▸wqd) h
end
end Q
namespace Q
open PySem PySem.Spec PyProof.Rows L2 L3
section
variable {P:Program}{w:PySem.World}{K:Frag}{mg:Str->Option Value}{base h:Heap}{x:Str}{st:Stmt}{ps:List Str}{k:Nat}{sp:Sp}
def wx6(K:Frag)(x qual:Str)(st:Stmt)(f:Addr)(fd:FuncData):Prop:=∃(oc:Value) (od:Option Addr) (dV kV fy pm:Value) (an:Option Addr) (bi ct:Value) (jr:Array (Option Value)),
  fd=PySem.W.fnOf x qual (wW st) (zj st) (k9 st) dV kV fy pm an bi ct/\K.lookup f=some ⟨oc,od,.func fd,jr⟩/\PySem.W.codeIn K bi qual=true
theorem vwx{qual:Str}{f:Addr}{fd:FuncData}{N:List Str}(F:wx6 K x qual st f fd)(S:FnScope N ps (k9 st))(len:∀vs H Q E,sp vs H Q E->vs.length=ps.length)
  (gq:∀(bi:Value) (A:Around) (outer:List Env) (s:Shared) (H:Hp) (vs:List V) (Q:VK) (E:XK),Room k (A.deeper (envOfC qual (k9 st) s.heap.objs.size f bi))->sp vs H Q E ->
   ∃t,PSs (Cx.ex' (zJ (CXE P w) P w K mg base N qual (k9 st) f bi A outer s H E) E) (zj st) t/\t { nx:=λ_ H'=>Q .non H',rt:=Q } (L2.start N vs) H):FnOk P w K mg base (CXE P w) (k+1) f fd ps sp:=by
 obtain⟨oc,od,dV,kV,fy,pm,an,bi,ct,jr,rfl,lk,gr⟩:=F;refine wkr lk gr S len λA outer s H vs Q E hr je=>?_
 obtain⟨t,h,q⟩:=gq bi A outer s H vs Q E hr je;exact⟨t,λpins s' O H' D I hw=>Yx (h pins s' O H' D (I.wish _) hw) (λf jg z=>z.unwish) λe jg z=>kvm z,q⟩
def DefD(P:Program)(w:PySem.World)(K:Frag)(mg:Str->Option Value)(base:Heap)(k:Nat)(x:Str)(ps:List Str)(sp:Sp):Prop:=
 ∃(f:Addr) (fd:FuncData),FnOk P w K mg base (CXE P w) k f fd ps sp/\(Binds K fd ps []/\Binds K fd ps [.none])/\PySem.W.keepIn K (.ref f)=true/\mg x=some (.ref f)
theorem DefD.e(d:DefD P w K mg base k x ps sp):kY P w K mg base k x ps sp:=by
 obtain⟨f,fd,a,b,c⟩:=d;exact⟨f,fd,a,b.1,c⟩
noncomputable def GfD(K:Frag)(x:Str)(st:Stmt):Prop:=∃(f dt:Addr) (oc:Value) (od:Option Addr) (kV dc pm:Value) (an:Option Addr) (cd ct:Value) (sl:Array (Option Value)) (ot:Obj) (n:Nat),nsIn K mainGlobals x=some (some (.ref f))/\K.lookup f=some ⟨oc,od,.func (PySem.W.fnOf x x (wW st) (zj st) (k9 st) (.ref dt) kV dc pm an cd ct),sl⟩/\PySem.W.codeIn K cd x=true/\PySem.W.keepIn K (.ref f)=true/\K.lookup dt=some ot/\ot.data=.seq #[.none] n
theorem GfD.mk{f dt:Addr}{oc:Value}{od:Option Addr}{kV dc pm:Value}{an:Option Addr}{cd ct:Value}{sl:Array (Option Value)}{ot:Obj}{n:Nat}(a:nsIn K mainGlobals x=some (some (.ref f)))(l:K.lookup f=some ⟨oc,od,.func (PySem.W.fnOf x x (wW st) (zj st) (k9 st) (.ref dt) kV dc pm an cd ct),sl⟩)(c:PySem.W.codeIn K cd x=true)(k:PySem.W.keepIn K (.ref f)=true)(e1:K.lookup dt=some ot)(e2:ot.data=.seq #[.none] n):GfD K x st:=⟨f,dt,oc,od,kV,dc,pm,an,cd,ct,sl,ot,n,a,l,c,k,e1,e2⟩
end
section
variable {X:Cx}{x:Str}{np pos:Pos}{e:Expr}{es:List Expr}{ta:TA}
theorem qv4{k:Nat}{ps:List Str}{sp:Sp}(D:DefD X.prog X.w X.K X.mg X.base k x ps sp)(hr:Room k X.A)(ha:PA X.nox (e::es) ta)(hg:autoParam (Gl X x) Ŕ)(db:autoParam ((x==("__debug__":Str))=false) ŕ)
  (he:autoParam (starEach (e::es) X.env=(false,eval e X.env)::starEach es X.env) Ŕ) (bp:autoParam ((backTo pos (starEach es X.env)).any (·.1)=false) Ŕ):
  PEX X (.Call (.Name x np) (e::es) [] pos) (λE=>qxr sp [.non] E ta):=by
 obtain⟨f,fd,F,hb,kp,m⟩:=D;intro E pins s O H Q I h;refine Yf (WX I hg m ?_ db);refine PySem.W.callWith_K (h₀:=X.base) I.ok.mod.kin kp (Yx (ha pos pins s O H _ (I.wish _) h) (λus s1 ⟨vs,H1,I1,r,q⟩=>⟨I1.kIn,?_⟩) λ_ _ z=>z.elim) he bp;have I1:=I1.unwish;have q:sp (vs++[.non]) H1 Q E:=q;have r2:Vals (vs++[.non]) (us++[.none]):=r.append (.cons rfl .nil);have hl:(us++[Value.none]).length=ps.length:=by
  rw[<-r2.length];exact F.len _ _ _ _ q
 refine wpAny_call (codeAny_mono (F.run X.A X.stack s1 H1 ⟨us,[]⟩ (us++[.none]) (vs++[.non]) Q E hr I1.env0 (hb.2 s1 us I1.kIn hl) r2 q) λrr s' hq=>?_);cases rr with
 |error e=>
  obtain⟨x,T,C,fl,H',rfl,os,bare,un,hok,hx,hT,nx,nT,f,q⟩:=hq;exact⟨H',x,C,rfl,I1.call' os un hok bare (λb hb=>nomatch hb),⟨fpX I1 hx nx,.inr ⟨T,fl,f,fpX I1 hT nT⟩⟩,q⟩
 |ok fl=>
  cases fl with|ret u=>exact I1.after hq|next=>exact False.elim hq|brk=>exact False.elim hq|cont=>exact False.elim hq
theorem vzy{c:Expr}{a b:Stmt}{tc:TT}{t u:XK->TS}(hc:PT X.nox c tc)(ha:PSX X a t)(hb:PSX X b u):PSX X (.If c [a] [b] pos) (λE=>wx8 tc (t E) (u E)):=by
 intro E pins s O H D I h;refine wpAny_If (Yx (hc pins s O H _ (I.wish _) h) (λd s1 ⟨H1,I1,q1⟩=>?_) λ_ _ z=>z.elim);have I1:=I1.unwish;have fin:∀{st:Stmt} {T:XK->TS},PSX X st T->T E D O H1->wpAny (model X.prog X.w) X.A (execs [st] X.env) (SP X pins D) (XX X pins O E) s1:=λhs q=>by
  refine wpAny_execs_cons (Yx (hs E pins s1 O H1 D I1 q) (λf s2 q=>?_) λ_ _ z=>z);cases f with|next=>exact Za q|ret v=>exact q|brk=>exact q|cont=>exact q
 cases d with|true=>exact fin ha q1|false=>exact fin hb q1
end
end Q
namespace Q
open PySem PySem.Spec PyProof.Rows L2 L3
theorem wqa{fd:FuncData}{dt:Addr}{ot:Obj}{n:Nat}(hd:fd.defaults=.ref dt)(h1:fd.params.posonlyargs=[])(h2:fd.params.args.map (·.arg)=(["one","other","pair"]:List Str))(h3:fd.params.vararg=none)(h4:fd.params.kwonlyargs=[])(h5:fd.params.kwarg=none)
  {s:Shared} (hs:s.heap.get? dt=some ot) (ht:ot.data=.seq #[.none] n) (a b:Value):BindsTo s fd ⟨[a,b],[]⟩ [("one",a),("other",b),("pair",.none)]:=by
 intro M A E Q q;unfold bindArgs;simp only[h1,h2,h3,h4,h5,hd];refine X0 (X2 (X0 (Zg hs ht ?_)));exact wpAny_of_eq (by rfl) q
theorem wq9{fd:FuncData}{dt:Addr}{ot:Obj}{n:Nat}(hd:fd.defaults=.ref dt)(h1:fd.params.posonlyargs=[])(h2:fd.params.args.map (·.arg)=(["one","other","pair"]:List Str))(h3:fd.params.vararg=none)(h4:fd.params.kwonlyargs=[])(h5:fd.params.kwarg=none)
  {s:Shared} (hs:s.heap.get? dt=some ot) (ht:ot.data=.seq #[.none] n) (a b c:Value):BindsTo s fd ⟨[a,b,c],[]⟩ [("one",a),("other",b),("pair",c)]:=by
 intro M A E Q q;unfold bindArgs;simp only[h1,h2,h3,h4,h5,hd];refine X0 (X2 (X0 (Zg hs ht ?_)));exact wpAny_of_eq (by rfl) q
section
variable {P:Program}{w:PySem.World}{K:Frag}{mg:Str->Option Value}{base h:Heap}{x:Str}{st:Stmt}{k:Nat}{sp:Sp}
theorem wwd{p:List Value->Prop}:∀us:List Value,us.length=2->(∀a b,p [a,b])->p us
 |[_,_],_,h=>h _ _
theorem wwc{p:List Value->Prop}:∀us:List Value,us.length=3->(∀a b c,p [a,b,c])->p us
 |[_,_,_],_,h=>h _ _ _
theorem GfD.d(g:GfD K x st)(X:K.In h)(G:h.Ns mainGlobals mg)(ok:∀{f:Addr} {fd:FuncData},wx6 K x x st f fd->FnOk P w K mg base (CXE P w) k f fd ["one","other","pair"] sp)
  (h1:autoParam ((wW st).posonlyargs=[]) Ŕ) (h2:autoParam ((wW st).args.map (·.arg)=(["one","other","pair"]:List Str)) Ŕ) (h3:autoParam ((wW st).vararg=none) Ŕ) (h4:autoParam ((wW st).kwonlyargs=[]) Ŕ) (h5:autoParam ((wW st).kwarg=none) Ŕ):DefD P w K mg base k x ["one","other","pair"] sp:=by
 obtain⟨f,dt,oc,od,kV,dc,pm,an,cd,ct,sl,ot,n,a,l,c,kp,e1,e2⟩:=g;refine⟨f,_,ok ⟨oc,od,.ref dt,kV,dc,pm,an,cd,ct,sl,rfl,l,c⟩,⟨λs us kin hl=>?_,λs us kin hl=>?_⟩,kp,Y1 X G a⟩
 ·rw[Xr]at hl ⊢;have hl:us.length=3:=hl;obtain⟨u1,u2,u3,rfl⟩:∃a b c,us=[a,b,c]:=wwc (p:=λus=>∃a b c,us=[a,b,c]) us hl λa b c=>⟨a,b,c,rfl⟩
  exact wq9 rfl h1 h2 h3 h4 h5 (kin dt _ e1) e2 u1 u2 u3
 ·have hl:us.length=2:=by rw[Xf]at hl;exact Nat.add_right_cancel hl
  obtain⟨u1,u2,rfl⟩:∃a b,us=[a,b]:=wwd (p:=λus=>∃a b,us=[a,b]) us hl λa b=>⟨a,b,rfl⟩
  exact wqa rfl h1 h2 h3 h4 h5 (kin dt _ e1) e2 u1 u2
end
section
variable {X:Cx}{Z:Fx0}{pn:List Nat}{q:Bool}{u:Ts}{b1 b2:Ex}{e e1 e2:Expr}{es:List Expr}{p pos p1 p2 pi:Pos}
theorem kwg:∀{cs:List Ex} {E E':En} {ys:List Sd},q5 (cs++[cC .non]) E=some (.ok E' ys)->∃zs o,q5 cs E=some (.ok E' zs)/\ys=zs++[(o,.non)]
 | [],E,E',ys,h=>by
  have h:bnd (cC .non E) (λE x=>bnd (q5 [] E) λE xs=>some (.ok E (x::xs)))=some (.ok E' ys):=h;cases oq9 h;exact⟨[],_,rfl,rfl⟩
 | c::cs,E,E',ys,h=>by
  have h:bnd (c E) (λE x=>bnd (q5 (cs++[cC .non]) E) λE xs=>some (.ok E (x::xs)))=some (.ok E' ys):=h;rcases wK h with⟨E1,y,h1,h2⟩|⟨E1,cc,h1,h2⟩
  ·rcases wK h2 with⟨E2,xs,h3,h4⟩|⟨E2,cc,h3,h4⟩
   ·cases oq9 h4;obtain⟨zs,o,i1,i2⟩:=kwg h3;refine⟨y::zs,o,?_,by rw[i2];rfl⟩;show bnd (c E) (λE x=>bnd (q5 cs E) λE xs=>some (.ok E (x::xs)))=_;rw[h1];show bnd (q5 cs E1) (λE xs=>some (.ok E (y::xs)))=_;rw[i1];rfl
   ·cases h4
  ·cases h2
theorem qz6{k n:Nat}{x:Str}{ps:List Str}{f:Fn}{cs:List Ex}(D:DefD X.prog X.w X.K X.mg X.base k x ps (spF Z.K Z.mg n f))(hr:Room k X.A)(ha:QA X.nox ⟨Z.K,Z.mg,λ_ _ _=>False⟩ q cs (e::es))(hn:autoParam (cs.length+1=n) Ŕ)(hg:autoParam (Gl X x) Ŕ)(db:autoParam ((x==("__debug__":Str))=false) ŕ)
  (he:autoParam (starEach (e::es) X.env=(false,eval e X.env)::starEach es X.env) Ŕ) (bp:autoParam ((backTo pos (starEach es X.env)).any (·.1)=false) Ŕ):
  QEX X Z false (JV f (cs++[cC .non])) (.Call (.Name x p) (e::es) [] pos):=qv3 (qv4 D hr ha hg db he bp) λEX O H Q b7=>ex8 b7 λE L r m w hc xc kk=>by
 have hc:JV f (cs++[cC .non]) E=some r:=hc;unfold JV at hc
 split at hc
 ·rename_i E1 ys hA;obtain⟨zs,o,hA2,rfl⟩:=kwg hA;refine⟨E,L,_,m,w,hA2,(λ_ _ z=>by cases z),λE' ys' z xs L1 H1 e1 m1 w1 st sm=>?_⟩;injection z with z1 z2;subst z1 z2;show spF _ _ _ _ _ _ _ _;have av:xs.length+1=n:=by
   rw[<-hn];have:zs.length=cs.length:=jw7 hA2;rw[<-this,<-e1,X4]
  cases hf:f (letAll (zs++[(o,.non)]))with
  | none=>rw[hf]at hc;cases hc
  | some fr=>
   rw[hf]at hc;obtain⟨wl,sl⟩:=jxj w1
   let nn:Sl:=⟨.no,.non,.non,[]⟩
   have ev:xs.map Sl.v++[.non]=(xs.map Sl.let++[nn]).map Sl.v:=by rw[Xd,Xs];rfl
   have wn:World Z.K H1 ((xs.map Sl.let++[nn]).map some):=by
    rw[Xd];refine World.comm (L:=[some nn]) (wl.left.consPu ?_ rfl);show RepL Z.K H1 true _root_.Q.D.non V.non [];unfold RepL;exact⟨rfl,rfl⟩
   have pm:(some nn::((xs.map Sl.let).map some++L1)).Perm ((xs.map Sl.let++[nn]).map some++L1):=by
    rw[Xd,Xy];exact List.perm_middle.symm
   have stn:Step H1 ((xs.map Sl.let).map some++L1) H1 (some nn::((xs.map Sl.let).map some++L1)):=⟨λ_ _ z _=>z,λa z=>.inl (by simpa [Sl.own,nn]using z),λa z=>.inl (by simpa [Sl.frz,nn]using z)⟩;have wn2:World Z.K H1 ((xs.map Sl.let++[nn]).map some++L1):=by
    refine World.perm (wl.consPu (x:=nn) ?_ rfl) pm;show RepL Z.K H1 true _root_.Q.D.non V.non [];unfold RepL;exact⟨rfl,rfl⟩
   have lw:=sl.trans (stn.trans (Step.refl.perm (List.Perm.refl _) pm));rw[ev];refine⟨xs.map Sl.let++[nn],fr,rfl,by rw[Xf,X4];exact av,wn,?_,λE' c ee C H' hm s'=>?_,λE' a ee y H' e2 e3 w' s'=>?_⟩
   ·rw[<-e1]at hf;rw[<-hf,Xd]
    congr 1
    unfold letAll;rw[Xd]
    congr 1
    rw[Xs,Xs];rfl
   ·subst ee;cases oq9 hc;obtain⟨w2,s2⟩:=stay wn2 s' ⟨λ_ z=>(nomatch z),Y4,λ_ z=>(nomatch z)⟩;exact xc _ _ rfl C L1 H' hm m1 w2 ((st.trans lw).trans s2)
   ·subst ee;cases oq9 hc;obtain⟨w2,s2⟩:=stay wn2 s' w';exact kk _ _ rfl y L1 H' e2 e3 m1 w2 ((st.trans lw).trans s2) λhq=>nomatch hq
 ·cases hc
theorem vzi{ux n:Str}{np jt i8:Pos}{UC:Addr}{i:Nat}{b0:Stmt}{gi:List Stmt}{cs:List Str}{h:Sm}(hN:X.N.Nodup)(hi:X.N[i]?=some n)(hk:X.env.scope.names.lookup n=some .local)(top:xK X)(hU:X.mg ux=some (.ref UC))(hK:X.K=Z.K)(ca:kwu X.K Z.mg UC cs)(ht:QT X.nox ⟨Z.K,Z.mg,λ_ _ _=>False⟩ q u e)(qy:QEX X Z false b1 e1)(hb2:QEX X Z false b2 e2)
  (hs:∀x,QSs (tX X x) ⟨Z.K,Z.mg,λ_ _ _=>False⟩ pn h (b0::gi)) (hp:autoParam (i∉pn) ŕ) (hsw1:autoParam (swapsWith e1 none p1.line X.env=pure false) Ŕ) (hsw2:autoParam (swapsWith e2 none p2.line X.env=pure false) Ŕ) (hg:autoParam (Gl X ux) Ŕ) (db:autoParam ((ux==("__debug__":Str))=false) ŕ):
  QS X Z pn (zq cs i (bI u b1 b2) h) (.Try [.If e [.Expr e1 p1] [.Expr e2 p2] pi] [.ExceptHandler (some (.Name ux np)) (some n) (b0::gi) jt] [] [] i8):=
 zQ (vqz hN hi hk top hU (vzy ht (kzk qy hsw1) (kzk hb2 hsw2)) hs hg db) λD O H hr=>qxo hK ca hp (λEX E L r m w hB hx hk=>by
  unfold bI at hB;cases hu:u E with
  | none=>rw[hu]at hB;cases hB
  | some ru=>
   rw [hu]at hB;cases ru with
   | exc _ _=>cases hB
   | ok E0 kk=>
    refine⟨E,L,_,m,w,hu,(λ_ _ z=>by cases z),λE' k' z L0 H0 m0 w0 st0 ni=>?_⟩;injection z with z1 z2;subst z1 z2;have fin:∀b:Ex,ofE (b E0) (λE _=>some (.nx E))=some r->vq9 (tQ ⟨Z.K,Z.mg,EX⟩ false b) D O H0:=λb hB=>by
     rcases XY hB with⟨E1,s,h1,h2⟩|⟨E1,c,h1,rfl⟩
     ·cases oq9 h2;refine⟨E0,L0,_,m0,w0,h1,(λ_ _ z=>by cases z),λE' s' z x L' H' e1 e2 m' w' st sm=>?_⟩;injection z with z1 z2;subst z1 z2;exact hk (λ_ _ z=>nomatch z) O L' H' Pn.refl m' w'.tail (st0.trans (st.trans Step.drop))
     ·exact⟨E0,L0,_,m0,w0,h1,(λE' c' e C L' H' hm m' w' st=>by injection e with z1 z2;subst z1 z2;exact hx _ _ rfl C L' H' hm m' w' (st0.trans st)),λE' s' z=>by cases z⟩
    cases kk with
    |true=>exact fin b1 hB
    |false=>exact fin b2 hB) hr
end
end Q
namespace Q
open PySem PySem.Spec PyProof.Rows L2 L3
abbrev vxo(K:Frag)(td ty:TE):TE:=fun O H Q=>td O H λx H1=>ty O H1 λy H2=>∃(a b:Addr) (k:Kd) (es:List Ent) (ep:Nat) (v:V) (p:Addr×Value),x=.ref a/\y=.ref b/\H2 a=some (qV a es ep)/\(es.map (·.1)).Nodup/\(∀x∈es,PuR K H2 x.1.1 (.ref x.2.1))/\PuR K H2 k.1 (.ref b)/\atKey es k=some p/\RelV v p.2/\Q v H2
section
variable {X:Cx}{Z:Fx0}{q qa:Bool}{a b:Ex}{td ty:TE}{o i ea eb:Expr}{pos:Pos}
theorem qzj(hu:X.A.units+64<cLine)(ho:PE X o td)(hi:PE X i ty)(hs:wqm i):PE X (.Subscript o i pos) (vxo X.K td ty):=by
 intro pins s O H Q I h;refine qq1 PySem.F.slot_dict_getitem.lookup hs (thn (ho pins s O H _ I h) λu s1 ⟨x,H1,I1,rx,q1⟩=>thn (hi pins s1 O H1 _ I1 q1) λiv s2 ⟨y,H2,I2,ry,a,b,k,es,ep,v,p,ex,ey,d,hn,hks,hk,hp,rv,q2⟩=>?_);subst ex ey;obtain rfl:u=Value.ref a:=rx;obtain rfl:iv=Value.ref b:=ry;have dd:=qj9 I2 d hn hks;exact⟨dd.typeIs,wpAny_getItem_heap (kx4 hu) (W4 I2 hk rfl) dd hp ⟨v,H2,I2.tok _,rv,q2⟩⟩
theorem vzl(hu:X.A.units+64<cLine)(ha:QV X Z qa a ea)(hb:QV X Z true b eb)(hs:wqm eb)(hK:autoParam (X.K=Z.K) Ŕ):QV X Z qa (vxe a b) (.Subscript ea eb pos):=
 qx (hK▸qzj hu ha hb hs) fun O H Q b7=>ex8 b7 λE L r m w hc xc k=>by
  refine vk m w (show bnd (a E) _=some r from hc) xc λE1 s h1 x L1 H1 e1 e2 m1 w1 ok fr sr st sm=>?_
  refine vk m1 w1 h1 (xc.step st) λE2 s2 h2 y L2 H2 e3 e4 m2 w2 gy tm se c8 dq=>?_
  obtain⟨z,hz0,rfl⟩:=J3 h2;have kx:=Q5 ok fr c8 (dq rfl);obtain⟨d,hz,rfl⟩:=Option.map_eq_some_iff.mp hz0;unfold wv0 at hz;cases hy:s.2 with
  | dct kvs=>
   rw[hy]at hz;dsimp only at hz
   by_cases hc:v4 s2.2=true/\unm kvs=true/\D.pures (kvs.map (·.2))=true
   ·rw[X8 hc]at hz;obtain⟨b,eb,pb⟩:=jwe gy (by rw[e4];exact hc.1);have ji:jV 6 y.d=true:=by
     have:v4 y.d=true:=by rw[e4];exact hc.1
     unfold v4 at this;rw[Bool.and_eq_true]at this;exact this.1
    have h:=RepO.wk kx.1;rw[e2,hy]at h;unfold RepL at h;obtain⟨l,xs,bs,e,rp,dc,_⟩:=h;obtain⟨es,ep,d1,d2,d3,d4,d5,d6,d7⟩:=DcA.un dc hc.2.1;obtain⟨g1,g2⟩:=qwc (k:=⟨y.d,ji⟩) rp d5 d7 hc.2.2;have hyk:(⟨y.d,ji⟩:Kd).1=s2.2:=e4;cases gl:atKey es ⟨y.d,ji⟩with
    |none=>
     have:=g2 gl;rw[hyk,hz]at this;cases this
    |some p=>
     obtain⟨d',v',q1,q2,q3,q4⟩:=g1 p gl;rw[hyk,hz]at q1;cases oq9 q1;exact⟨l,b,⟨y.d,ji⟩,es,ep,v',p,e,eb,d1,d4,d6,pb,gl,q2,k _ _ rfl ⟨.dp,d,v',[]⟩ L2 H2 rfl rfl m2 w2 q3 (λ_ hb=>nomatch hb) (λ_ hb=>nomatch hb) (st.trans c8) λhq=>qv (sm hq) (dq rfl)⟩
   ·rw[Xb hc]at hz;cases hz
  |_=>rw[hy]at hz;cases hz
end
end Q
namespace Q
open PySem
def out(f:Fn)(xs:List Sd):Option (Sd ⊕ Str):=match f xs with
 |some (.ok _ y)=>some (.inl y)|some (.exc _ c)=>some (.inr c)|none=>none
theorem wjx(n:Nat)(h:300<=n):(10:Nat) ^ 70<2 ^ n:=Xh (show(10:Nat) ^ 70<2 ^ 240 by decide) (Nat.pow_le_pow_right ⋯ ⋯)
theorem mul_l{o1 o2:Own}{a b:Int}(h1:-18446744073709551616<a)(h2:a<18446744073709551616):V3 (o1,.int a) (o2,.int b)=some (.dp,.int (a*b)):=by
 have:XJ a b=true:=by
  have:qq8 a=true:=by unfold qq8;rw[Xl (show -(2 ^ 64)<a by omega),Xl (show a<2 ^ 64 by omega)];rfl
  unfold XJ;rw[this];rfl
 show(if XJ a b=true then _ else _)=_;rw[X8 this]
theorem add_i{o1 o2:Own}{a b:Int}:jJ (o1,.int a) (o2,.int b)=some (.dp,.int (a+b)):=rfl
theorem sub_i{a b:Int}:Vq (.int a) (.int b)=some (.int (a - b)):=rfl
theorem div_i{a b:Int}(h:0<b)(h2:b<10 ^ 70):v5 (.int a) (.int b)=some (.int (a / b)):=by
 have hb:b.natAbs.log2<9000:=by
  exact(Nat.log2_lt ⋯).mpr (Nat.lt_trans (show b.natAbs<10 ^ 70 by omega) (wjx 9000 ⋯))
 show(if 0<b/\b.natAbs.log2<9000 then some (a / b)else none).map _=_;rw[X8 ⟨h,hb⟩];rfl
theorem mod_i{a b:Int}(h:0<b):jQ (.int a) (.int b)=some (.int (a % b)):=by
 show(if 0<b then some (a % b)else none).map _=_;rw[X8 h];rfl
theorem V8{a b:Int}:fEq (.int a) (.int b)=some (.bl (a==b)):=rfl
theorem lt_ii{a b:Int}:fLt (.int a) (.int b)=some (.bl (decide (a<b))):=rfl
theorem gt_ii{a b:Int}:fGt (.int a) (.int b)=some (.bl (decide (b<a))):=rfl
theorem le_ii{a b:Int}:fLe (.int a) (.int b)=some (.bl (decide (a<=b))):=rfl
theorem ge_ii{a b:Int}:fGe (.int a) (.int b)=some (.bl (decide (b<=a))):=rfl
theorem zV{xs:List D}{i:Int}{d:D}(h0:0<=i)(h:xs[i.toNat]?=some d):jz (.lst xs) (.int i)=some d:=by
 show((ixN xs.length i).bind λj=>xs[j]?)=some d;have hl:i.toNat<xs.length:=(List.getElem?_eq_some_iff.mp h).1;unfold ixN;rw[X8 h0,X8 ⋯];exact h
theorem wz0{xs:List D}{i:Int}{d:D}(h0:0<=i)(h:xs[i.toNat]?=some d):jz (.tup xs) (.int i)=some d:=by
 show((ixN xs.length i).bind λj=>xs[j]?)=some d;have hl:i.toNat<xs.length:=(List.getElem?_eq_some_iff.mp h).1;unfold ixN;rw[X8 h0,X8 ⋯];exact h
theorem len_l{xs:List D}:qk (.lst xs)=some (.int xs.length):=rfl
theorem len_t{xs:List D}:qk (.tup xs)=some (.int xs.length):=rfl
theorem qjg{o1 o2:Own}{a b:List D}(h1:o1≠.dp)(h2:o2≠.dp)(hl:a.length+b.length<10000):jJ (o1,.lst a) (o2,.lst b)=some (.rt,.lst (a++b)):=by
 show(if a.length+b.length<=big/\q9 (o1,.lst a)/\q9 (o2,.lst b)then _ else _)=_;rw[X8 ⟨by unfold big;omega,by cases o1<;>simp_all [q9],by cases o2<;>simp_all [q9]⟩]
theorem tup_l{o:Own}{xs:List D}(h:o≠.dp):Jj (o,.lst xs)=some (.no,.tup xs):=by
 show(if q9 (o,.lst xs)then _ else _)=_;rw[X8 (by cases o<;>simp_all [q9])]
abbrev XP:=Str->Prop
theorem nd{α:Sort _}{a b:α}(h:a=b):a=b:=h
@[irreducible] noncomputable def Eo {α:Type} (m:Option (Res α)) (P:En->α->Prop) (X:XP):Prop:=match m with
 |some (.ok E a)=>P E a|some (.exc _ c)=>X c|none=>False
@[irreducible] noncomputable def Vo {α:Type} (m:Option α) (P:α->Prop):Prop:=match m with
 |some a=>P a|none=>False
@[irreducible] noncomputable def Oo (f:Fn) (xs:List Sd) (P:Sd->Prop) (X:XP):Prop:=match f xs with
 |some (.ok _ y)=>P y|some (.exc _ c)=>X c|none=>False
@[irreducible] noncomputable def Po (r:Option Fl) (N C:En->Prop) (R:Sd->Prop) (X:XP):Prop:=match r with
 |some (.nx E)=>N E|some (.ct E)=>C E|some (.rt _ x)=>R x|some (.xc _ c)=>X c|_=>False
abbrev noX:XP:=λ_=>False
section
variable {α β:Type}{P:En->α->Prop}{X:XP}{N C:En->Prop}{R:Sd->Prop}{E:En}
theorem VZ{a:α}:Eo (some (.ok E a)) P X=P E a:=nd (by ac_rfl)
theorem kj{m:Option (Res β)}{f:En->β->Option (Res α)}:Eo (bnd m f) P X=Eo m (λE a=>Eo (f E a) P X) X:=by
 cases m with|none=>ac_rfl|some r=>cases r<;>ac_rfl
theorem vo_some{a:α}{P:α->Prop}:Vo (some a) P=P a:=nd (by ac_rfl)
theorem vo_map{x:Option β}{f:β->α}{P:α->Prop}:Vo (x.map f) P=Vo x (λa=>P (f a)):=by cases x<;>ac_rfl
theorem zW{x:Option α}:Eo (val E x) P X=Vo x (P E):=by cases x<;>ac_rfl
theorem vv3{E:En}:Po (some (.nx E)) N C R X=N E:=nd (by ac_rfl)
theorem JW{m:Option (Res α)}{f:En->α->Option Fl}:Po (ofE m f) N C R X=Eo m (λE a=>Po (f E a) N C R X) X:=by
 cases m with|none=>ac_rfl|some r=>cases r<;>ac_rfl
theorem vk7{a b:Sm}:Po (j4 a b E) N C R X=Po (a E) (λE=>Po (b E) N C R X) C R X:=by
 unfold j4 Po;cases a E with|none=>ac_rfl|some r=>cases r<;>ac_rfl
theorem Eo.mono{m:Option (Res α)}{P':En->α->Prop}(h:Eo m P X)(k:∀E a,P E a->P' E a):Eo m P' X:=by
 cases m with
 |none=>exists h
 |some r=>cases r with|ok E a=>exists k E a h|exc E c=>exists h
theorem Oo.mono{f:Fn}{xs:List Sd}{P P':Sd->Prop}(h:Oo f xs P X)(k:∀y,P y->P' y):Oo f xs P' X:=by
 unfold Oo at h ⊢;cases hf:f xs with
 |none=>rw[hf]at h;exists h
 |some r=>rw[hf]at h;cases r with|ok E a=>exists k a h|exc E c=>exists h
theorem Oo.out{f:Fn}{xs:List Sd}{P:Sd->Prop}(h:Oo f xs P noX):∃E y,f xs=some (.ok E y)/\P y:=by
 unfold Oo at h;cases hf:f xs with
 |none=>rw[hf]at h;exists (show False from h).elim
 |some r=>rw[hf]at h;cases r with|ok E a=>with_unfolding_all exact⟨E,a,rfl,h⟩|exc E c=>exists (show False from h).elim
theorem kW{n:Nat}{b:Sm}{xs:List Sd}{P:Sd->Prop}(h:Po (b (xs.map some++List.replicate (n - xs.length) none)) (λ_=>P (.dp,.non)) (λ_=>False) P X):Oo (fn n b) xs P X:=by
 unfold Oo fn;unfold Po at h;cases hb:b (xs.map some++List.replicate (n - xs.length) none)with|none=>rw[hb]at h;exists h|some r=>rw[hb]at h;cases r<;>exists h
theorem vwc{f:Fn}{cs:List Ex}{P:En->Sd->Prop}:Eo (jK f cs E) P X=Eo (q5 cs E) (λE xs=>Oo f (letAll xs) (P E) X) X:=by
 unfold jK;rw[kj]
 congr 1
 funext E xs;unfold Oo;cases f (letAll xs)with|none=>ac_rfl|some r=>cases r<;>ac_rfl
theorem vj7{f:Fn}{cs:List Ex}{P:En->Sd->Prop}:Eo (kwf f cs E) P X=Eo (q5 cs E) (λE xs=>Oo f (letAll xs) (λy=>y.2.pure=true/\P E (.dp,y.2)) X) X:=by
 unfold kwf;rw[kj]
 congr 1
 funext E xs;unfold Oo;cases f (letAll xs)with
 | none=>ac_rfl
 | some r=>
  cases r with
  |exc=>ac_rfl
  |ok E1 y=>
   dsimp only
   by_cases hp:y.2.pure=true
   ·rw[X8 hp];with_unfolding_all exact propext ⟨λh=>⟨hp,h⟩,λh=>h.2⟩
   ·rw[Xb hp];with_unfolding_all exact propext ⟨λh=>(show False from h).elim,λh=>hp h.1⟩
def wz7(d:D){α:Type}(a b:Option α):Option α:=match d with
 |.bl k=>if k=true then a else b|_=>none
theorem vwq(a b:Ex):K7 a b E=bnd (a E) λE x=>wz7 x.2 (b E) (some (.ok E (.dp,.bl false))):=by
 unfold K7 wz7
 congr 1
 funext E x;cases x.2 with|bl k=>cases k<;>ac_rfl|_=>ac_rfl
theorem kx7{tg:Tg}{b:Sm}(I:En->List D->Prop)(hs:∀E d ds,I E (d::ds)->Vo (tg.put d E) λE1=>Po (b E1) (λE2=>I E2 ds) (λE2=>I E2 ds) R X)(h1:∀E,I E []->N E):∀ds E,I E ds->Po (JY tg b ds E) N C R X
 | [],E,h=>by exists h1 E h
 | d::ds,E,h=>by
  have h2:=hs E d ds h;unfold JY;cases hp:tg.put d E with
  | none=>rw[hp]at h2;exists (show False from h2).elim
  | some E1=>
   rw[hp]at h2;have h2:Po (b E1) (λE2=>I E2 ds) (λE2=>I E2 ds) R X:=by exists h2
   dsimp only;cases hb:b E1 with
   |none=>rw[hb]at h2;exists (show False from h2).elim
   |some r=>
    rw[hb]at h2;cases r with|nx E2=>exists kx7 I hs h1 ds E2 h2|ct E2=>exists kx7 I hs h1 ds E2 h2|rt E2 x=>exists h2|xc E2 c=>exists h2|bk E2=>exists (show False from h2).elim
theorem zK{it:Ev (List D)}{tg:Tg}{b:Sm}(I:En->List D->Prop)(h0:Eo (it E) I X)(hs:∀E d ds,I E (d::ds)->Vo (tg.put d E) λE1=>Po (b E1) (λE2=>I E2 ds) (λE2=>I E2 ds) R X)(h1:∀E,I E []->N E):Po (v3 it tg b E) N C R X:=by
 show Po (ofE (it E) λE ds=>JY tg b ds E) N C R X;rw[JW]
 exists h0.mono λE ds h=>kx7 I hs h1 ds E h
theorem jzk{t:Ts}{b:Sm}(I:Nat->En->Prop)(hs:∀n E,I n E->Eo (t E) (λE1 k=>if k=true then Po (b E1) (λE2=>∃m,m<n/\I m E2) (λE2=>∃m,m<n/\I m E2) R X else N E1) X):∀n E,I n E->Po (sWhile t b E) N C R X:=by
 intro n
 induction n using Nat.strongRecOn with
 | _ n ih=>
  intro E h;have h2:=hs n E h;rw [sWhile];cases ht:t E with
  | none=>rw[ht]at h2;exists (show False from h2).elim
  | some r=>
   rw [ht]at h2;cases r with
   | exc E1 c=>exists h2
   | ok E1 k=>
    cases k with
    | false=>exists h2
    | true=>
     have h2:Po (b E1) (λE2=>∃m,m<n/\I m E2) (λE2=>∃m,m<n/\I m E2) R X:=by exists h2
     dsimp only;cases hb:b E1 with
     |none=>rw[hb]at h2;exists (show False from h2).elim
     |some r=>
      rw[hb]at h2;cases r with|nx E2=>exact(show ∃m,m<n/\I m E2 by exists h2).elim λm hh=>ih m hh.1 E2 hh.2|ct E2=>exact(show ∃m,m<n/\I m E2 by exists h2).elim λm hh=>ih m hh.1 E2 hh.2|rt E2 x=>exists h2|xc E2 c=>exists h2|bk E2=>exists (show False from h2).elim
theorem qwp{tg:Tg}{t:Ts}{c:Ex}{P:En->List Sd->Prop}(J:En->List D->List Sd->Prop)(hs:∀B d ds ao,J B (d::ds) ao->Vo (tg.put d B) λB1=>Eo (t B1) (λB2 k=>if k=true then Eo (c B2) (λB3 y=>J B3 ds (ao++[y])) X else J B2 ds ao) X)(h1:∀B ao,J B [] ao->P B ao):∀ds B ao,J B ds ao->Eo (lcL tg t c ds B ao) P X
 | [],B,ao,h=>by exists h1 B ao h
 | d::ds,B,ao,h=>by
  have h2:=hs B d ds ao h;unfold lcL;cases hp:tg.put d B with
  | none=>rw[hp]at h2;exists (show False from h2).elim
  | some B1=>
   rw[hp]at h2;have h2:Eo (t B1) (λB2 k=>if k=true then Eo (c B2) (λB3 y=>J B3 ds (ao++[y])) X else J B2 ds ao) X:=by exists h2
   dsimp only;rw[kj];refine h2.mono λB2 k h3=>?_
   cases k with
   |false=>exists qwp J hs h1 ds B2 ao h3
   |true=>
    show Eo (bnd (c B2) _) P X;rw[kj]
    exists Eo.mono (P:=λB3 y=>J B3 ds (ao++[y])) h3 λB3 y h4=>qwp J hs h1 ds B3 _ h4
theorem V5{o:Own}{k:Nat}{r:List Nat}{it:Ev (List D)}{tg:Tg}{t:Ts}{c:Ex}{P:En->Sd->Prop}(J:En->En->List D->List Sd->Prop)(h0:Eo (it E) (λE1 ds=>J E1 (KQ k r E1) ds []) X)
  (hs:∀E1 B d ds ao,J E1 B (d::ds) ao->Vo (tg.put d B) λB1=>Eo (t B1) (λB2 k=>if k=true then Eo (c B2) (λB3 y=>J E1 B3 ds (ao++[y])) X else J E1 B2 ds ao) X) (h1:∀E1 B ao,J E1 B [] ao->Eo (mkL o (J5 k r B E1) ao) P X):Eo (cLC o k r it tg t c E) P X:=by
 unfold cLC;rw[kj];refine h0.mono λE1 ds hJ=>?_
 have:=qwp (P:=λB ao=>Eo (mkL o (J5 k r B E1) ao) P X) (J E1) (hs E1) (h1 E1) ds _ _ hJ;cases hl:lcL tg t c ds (KQ k r E1) []with|none=>rw[hl]at this;exists (show False from this).elim|some q=>rw[hl]at this;cases q<;>exists this
end
theorem mulT_i{o1:Own}{a:Int}{y:Sd}:vj (o1,.int a) y=V3 (o1,.int a) y:=by
 unfold vj;ac_rfl
theorem mulT_l{o1:Own}{a:List D}{y:Sd}:vj (o1,.lst a) y=V3 (o1,.lst a) y:=by
 unfold vj;ac_rfl
def sl(q:Option (Option Sd)):Option Sd:=match q with
 |some (some x)=>some x|_=>none
theorem sl_some{x:Sd}:sl (some (some x))=some x:=nd (by ac_rfl)
def wz6(d:D)(a b:Prop):Prop:=match d with
 |.bl k=>if k=true then a else b|_=>False
theorem andP_bl{k:Bool}{a b:Prop}:wz6 (.bl k) a b=if k=true then a else b:=nd (by ac_rfl)
def Wo{α:Type}(m:Option α)(E:En)(P:En->α->Prop):Prop:=Vo m (P E)
theorem wo_some{α:Type}{a:α}{E:En}{P:En->α->Prop}:Wo (some a) E P=P E a:=by unfold Wo;exact vo_some
theorem wo_map{α β:Type}{x:Option β}{f:β->α}{E:En}{P:En->α->Prop}:Wo (x.map f) E P=Wo x E (λE a=>P E (f a)):=by unfold Wo;exact vo_map
def Oe(f:Fn)(xs:List Sd)(E:En)(P:En->Sd->Prop)(X:XP):Prop:=Oo f xs (P E) X
def intP(d:D)(P:Int->Prop):Prop:=match d with
 |.int i=>P i|_=>False
def Ie(d:D)(E:En)(P:En->Int->Prop):Prop:=intP d (P E)
theorem ie_i{i:Int}{E:En}{P:En->Int->Prop}:Ie (.int i) E P=P E i:=nd (by ac_rfl)
section
variable {P:En->Sd->Prop}{T:En->Bool->Prop}{X:XP}{N C:En->Prop}{R:Sd->Prop}{E:En}{e:Option Sd}{a b c:Ex}{t u:Ts}{i:Nat}
theorem w_seq{a b:Sm}:Po (j4 a b (e::E)) N C R X=Po (a (e::E)) (λE=>Po (b E) N C R X) C R X:=vk7
theorem w_asg:Po (j8 i c (e::E)) N C R X=Eo (c (e::E)) (λE x=>N (E.set i (some x))) X:=by unfold j8;rw[JW];ac_rfl
theorem w_ret:Po (k7 c (e::E)) N C R X=Eo (c (e::E)) (λ_ x=>R x) X:=by unfold k7;rw[JW];ac_rfl
theorem w_pass:Po (v7 (e::E)) N C R X=N (e::E):=nd (by ac_rfl)
theorem w_if{a b:Sm}:Po (sIf t a b (e::E)) N C R X=Eo (t (e::E)) (λE k=>if k=true then Po (a E) N C R X else Po (b E) N C R X) X:=by
 unfold sIf;rw[JW];congr 1;funext E k;cases k<;>ac_rfl
theorem w_vV:Eo (vV i (e::E)) P X=Wo (sl (e::E)[i]?) (e::E) P:=by
 unfold vV Wo;cases(e::E)[i]? with|none=>ac_rfl|some q=>cases q<;>ac_rfl
theorem w_cV:Eo (cV i (e::E)) P X=Wo (sl (e::E)[i]?) (e::E) (λE x=>P (E.set i (some (.no,x.2))) (.no,x.2)):=by
 unfold cV Wo;cases(e::E)[i]? with|none=>ac_rfl|some q=>cases q<;>ac_rfl
theorem w_cMv:Eo (cMv i (e::E)) P X=Wo (sl (e::E)[i]?) (e::E) (λE x=>P (E.set i none) x):=by
 unfold cMv Wo;cases(e::E)[i]? with|none=>ac_rfl|some q=>cases q<;>ac_rfl
theorem w_cC{d:D}:Eo (cC d (e::E)) P X=P (e::E) (.dp,d):=nd (by ac_rfl)
theorem w_vE:Eo (vE c (e::E)) P X=Eo (c (e::E)) (λE x=>P E (.no,x.2)) X:=by unfold vE;rw[kj];ac_rfl
theorem w_cH:Eo (cH c (e::E)) P X=Eo (c (e::E)) (λE x=>if x.1=.no then P E (.no,x.2)else if x.2.pure=true then P E (.dp,x.2)else False) X:=by
 unfold cH;rw[kj]
 congr 1
 funext E x
 by_cases h:x.1=.no
 ·rw[X8 h,X8 h];ac_rfl
 ·rw[Xb h,Xb h]
  by_cases h2:x.2.pure=true
  ·rw[X8 h2,X8 h2];ac_rfl
  ·rw[Xb h2,Xb h2];ac_rfl
theorem w_f1{f:Sd->Option Sd}:Eo (cF1 f a (e::E)) P X=Eo (a (e::E)) (λE x=>Wo (f x) E P) X:=by
 unfold cF1;rw[kj];congr 1;funext E x;exact zW
theorem w_f2{f:Sd->Sd->Option Sd}:Eo (cF2 f a b (e::E)) P X=Eo (a (e::E)) (λE x=>Eo (b E) (λE y=>Wo (f x y) E P) X) X:=by
 unfold cF2;rw[kj];congr 1;funext E x;rw[kj];congr 1;funext E y;exact zW
theorem w_ix:Eo (j6 a b (e::E)) P X=Eo (a (e::E)) (λE x=>Eo (b E) (λE y=>Wo (jz x.2 y.2) E (λE d=>P E (sub x.1,d))) X) X:=by
 unfold j6;rw[kj];congr 1;funext E x;rw[kj];congr 1;funext E y;rw[zW];exact vo_map
theorem w_tE:Eo (tE c (e::E)) T X=Eo (c (e::E)) (λE x=>Wo (truth x.2) E T) X:=by
 unfold tE;rw[kj];congr 1;funext E x;exact zW
theorem w_tEQ:Eo (tEQ c (e::E)) T X=Eo (c (e::E)) (λE x=>Wo (truthQ x.2) E T) X:=by
 unfold tEQ;rw[kj];congr 1;funext E x;exact zW
theorem w_tNot:Eo (tNot t (e::E)) T X=Eo (t (e::E)) (λE k=>T E (!k)) X:=by unfold tNot;rw[kj];ac_rfl
theorem w_tAnd:Eo (tAnd t u (e::E)) T X=Eo (t (e::E)) (λE k=>if k=true then Eo (u E) T X else T E false) X:=by
 unfold tAnd;rw[kj];congr 1;funext E k;cases k<;>ac_rfl
theorem w_tOr:Eo (tOr t u (e::E)) T X=Eo (t (e::E)) (λE k=>if k=true then T E true else Eo (u E) T X) X:=by
 unfold tOr;rw[kj];congr 1;funext E k;cases k<;>ac_rfl
theorem w_tYes:Eo (tYes (e::E)) T X=T (e::E) true:=nd (by ac_rfl)
theorem w_cIf:Eo (cIf t a b (e::E)) P X=Eo (t (e::E)) (λE k=>if k=true then Eo (a E) P X else Eo (b E) P X) X:=by
 unfold cIf;rw[kj];congr 1;funext E k;cases k<;>ac_rfl
theorem w_cAnd:Eo (K7 a b (e::E)) P X=Eo (a (e::E)) (λE x=>wz6 x.2 (Eo (b E) P X) (P E (.dp,.bl false))) X:=by
 rw[vwq,kj];congr 1;funext E x;cases x.2 with|bl k=>cases k<;>ac_rfl|_=>ac_rfl
theorem w_call{f:Fn}{cs:List Ex}:Eo (jK f cs (e::E)) P X=Eo (q5 cs (e::E)) (λE xs=>Oe f (letAll xs) E P X) X:=by exists vwc
theorem w_callB{f:Fn}{cs:List Ex}:Eo (kwf f cs (e::E)) P X=Eo (q5 cs (e::E)) (λE xs=>Oe f (letAll xs) E (λE y=>y.2.pure=true/\P E (.dp,y.2)) X) X:=by exists vj7
theorem w_partN{P:En->Option Int->Prop}:Eo (V6 none (e::E)) P X=P (e::E) none:=nd (by ac_rfl)
theorem w_partS{P:En->Option Int->Prop}:Eo (V6 (some c) (e::E)) P X=Eo (c (e::E)) (λE x=>Ie x.2 E (λE i=>P E (some i))) X:=by
 show Eo (bnd (c (e::E)) _) P X=_;rw[kj];congr 1;funext E x;unfold Ie;cases x.2<;>ac_rfl
theorem w_sl{lo hi:Option Ex}:Eo (cSl a lo hi (e::E)) P X=Eo (a (e::E)) (λE x=>Eo (V6 lo E) (λE l=>Eo (V6 hi E) (λE h=>Wo (fSl x l h) E P) X) X) X:=by
 unfold cSl;rw[kj];congr 1;funext E x;rw[kj];congr 1;funext E l;rw[kj];congr 1;funext E h;exact zW
theorem w_idx:Eo (Wj a b (e::E)) P X=Eo (a (e::E)) (λE x=>if isSq x.2=true then Eo (b E) (λE y=>Wo (kw2 x.2 y.2) E (λE d=>P E (.dp,d))) X else False) X:=by
 unfold Wj;rw[kj];congr 1;funext E x;cases isSq x.2 with
 |false=>ac_rfl
 |true=>
  show Eo (bnd (b E) _) P X=_;rw[kj];rw[X8 rfl]
  congr 1;funext E y;rw[zW];unfold pu2;exact vo_map
theorem w_itS{P:En->List D->Prop}:Eo (itS c (e::E)) P X=Eo (c (e::E)) (λE x=>Wo (seqOf x.2) E P) X:=by
 unfold itS;rw[kj]
 congr 1
 funext E x;exact zW
end
theorem args_nil{e:Option Sd}{E:En}{P:En->List Sd->Prop}{X:XP}:Eo (q5 [] (e::E)) P X=P (e::E) []:=nd (by ac_rfl)
theorem args_cons{e:Option Sd}{E:En}{c:Ex}{cs:List Ex}{P:En->List Sd->Prop}{X:XP}:Eo (q5 (c::cs) (e::E)) P X=Eo (c (e::E)) (λE x=>Eo (q5 cs E) (λE xs=>P E (x::xs)) X) X:=by
 show Eo (bnd (c (e::E)) λE x=>bnd (q5 cs E) λE xs=>some (.ok E (x::xs))) P X=_;rw[kj]
 congr 1
 funext E x;rw[kj]
 ac_rfl
theorem eo_tup{e:Option Sd}{E:En}{cs:List Ex}{P:En->Sd->Prop}{X:XP}:Eo (kX .no cs (e::E)) P X=Eo (q5 cs (e::E)) (λE xs=>P E (.no,.tup (xs.map (·.2)))) X:=by
 unfold kX;rw[kj]
 ac_rfl
theorem eo_lst{e:Option Sd}{E:En}{cs:List Ex}{P:En->Sd->Prop}{X:XP}:Eo (kQ .rt cs (e::E)) P X=Eo (q5 cs (e::E)) (λE xs=>P E (.rt,.lst (xs.map (·.2)))) X:=by
 unfold kQ;rw[kj]
 ac_rfl
theorem wqb{i:Nat}{c:Ex}{E:En}{o:Own}{xs:List D}{N C:En->Prop}{R:Sd->Prop}{X:XP}(h0:E[i]?=some (some (o,.lst xs)))
  (h:Eo (c E) (λE1 x=>∃o ys,E1[i]?=some (some (o,.lst ys))/\o≠.no/\ys.length<10000/\N (E1.set i (some (if o=.dp/\xk x then .dp else .rt,.lst (ys++[x.2]))))) X):Po (qw qQ i c E) N C R X:=by
 unfold qw;rw[h0,X8 (show JQ (some (some (o,.lst xs)))=true from rfl),JW];refine h.mono ?_;rintro E1 x ⟨o,ys,h1,h2,h3,h4⟩;rw[h1];dsimp only;have hg:qQ ys x.2=some (ys++[x.2]):=by unfold qQ;rw[X8 (by unfold big;omega)]
 rw[Xb h2,hg]
 exists h4
theorem xJ{i:Nat}{c:Ex}{E:En}{xs:List D}{N C:En->Prop}{R:Sd->Prop}{X:XP}(h0:E[i]?=some (some (.rt,.lst xs)))
  (h:Eo (c E) (λE1 x=>∃ys,E1[i]?=some (some (.rt,.lst ys))/\ys.length<10000/\N (E1.set i (some (.rt,.lst (ys++[x.2]))))) X):Po (qw qQ i c E) N C R X:=
 wqb h0 (h.mono λE1 x ⟨ys,h1,h2,h3⟩=>⟨.rt,ys,h1,⋯,h2,by rw[Xb (by rintro ⟨z,_⟩;cases z)];exists h3⟩)
theorem rng_ok{n:Int}(h1:-1000<=n)(h2:n<=1000):(xq n=true/\n.toNat<=big)=True:=by
 have:xq n=true:=by unfold xq;rw[Xl ⋯,Xl ⋯];ac_rfl
 with_unfolding_all exact eq_true ⟨this,by unfold big;omega⟩
theorem kxs{α:Type}{p:Prop}[Decidable p]{a:Option (Res α)}{P:En->α->Prop}{X:XP}:Eo (if p then a else none) P X=(p/\Eo a P X):=by
 by_cases h:p
 ·rw[X8 h];with_unfolding_all exact propext ⟨λz=>⟨h,z⟩,λz=>z.2⟩
 ·rw[Xb h];with_unfolding_all exact propext ⟨λz=>z.elim,λz=>h z.1⟩
theorem w_R1{c:Ex}{e:Option Sd}{E:En}{P:En->List D->Prop}{X:XP}:Eo (vY c (e::E)) P X=Eo (c (e::E)) (λE x=>Ie x.2 E λE n=>(xq n=true/\n.toNat<=big)/\P E (jZ 0 n)) X:=by
 unfold vY;rw[kj];congr 1;funext E x;cases x.2 with|int n=>exists kxs|_=>ac_rfl
theorem w_LR1{c:Ex}{e:Option Sd}{E:En}{P:En->Sd->Prop}{X:XP}:Eo (Qv c (e::E)) P X=Eo (c (e::E)) (λE x=>Ie x.2 E λE n=>(xq n=true/\n.toNat<=big)/\P E (.rt,.lst (jZ 0 n))) X:=by
 unfold Qv;rw[kj];congr 1;funext E x;cases x.2 with|int n=>exists kxs|_=>ac_rfl
theorem V9{o:Own}{xs:List D}{lo hi:Option Int}(h:o≠.dp):fSl (o,.lst xs) lo hi=some (.rt,.lst (z7 xs lo hi)):=by
 show(if q9 (o,.lst xs)then _ else _)=_;rw[X8 (by cases o<;>simp_all [q9])]
theorem sub_no:sub .no=.no:=nd (by ac_rfl)
theorem sub_rt:sub .rt=.no:=nd (by ac_rfl)
theorem sub_dp:sub .dp=.dp:=nd (by ac_rfl)
theorem Oo.use{ι:Sort _}{f:Fn}{xs:List Sd}{g:ι->Sd}{S:ι->Prop}{E:En}{P:En->Sd->Prop}{X:XP}(h:Oo f xs (λy=>∃i,y=g i/\S i) X)(k:∀i,S i->P E (g i)):Oe f xs E P X:=h.mono λy ⟨i,e,s⟩=>e▸k i s
theorem Oo.via{f:Fn}{xs:List Sd}{S:Sd->Prop}{E:En}{P:En->Sd->Prop}{X:XP}(h:Oo f xs S X)(k:∀y,S y->P E y):Oe f xs E P X:=h.mono k
theorem z4{E:En}{ys:List Sd}{P:En->Sd->Prop}{X:XP}:Eo (mkL .rt E ys) P X=P E (.rt,.lst (ys.map (·.2))):=nd (by ac_rfl)
theorem wj4{i:Nat}{c:Ex}{E:En}{o:Own}{xs:List D}{P:En->Sd->Prop}{X:XP}(h0:E[i]?=some (some (o,.lst xs)))
  (h:Eo (c E) (λE1 x=>∃(o:Own) (ys:List D) (k:Int) (d:D),E1[i]?=some (some (o,.lst ys))/\o≠.no/\x.2=.int k/\0<=k/\k<=1000/\ys[k.toNat]?=some d/\d.pure=true/\P (E1.set i (some (o,.lst (ys.eraseIdx k.toNat)))) (.dp,d)) X):Eo (YY i c E) P X:=by
 unfold YY;rw[h0,X8 (show JQ (some (some (o,D.lst xs)))=true from rfl),kj];refine h.mono ?_;rintro E1 ⟨o',d'⟩ ⟨o,ys,k,d,h1,h2,e,k0,k1,h3,h4,h5⟩;have e:d'=.int k:=e;subst e;have hl:k.toNat<ys.length:=(List.getElem?_eq_some_iff.mp h3).1;have hx:ixN ys.length k=some k.toNat:=by unfold ixN;rw[X8 k0,X8 ⋯]
 have hs:xq k=true:=by unfold xq;rw[Xl ⋯,Xl ⋯];ac_rfl
 rw[h1];dsimp only;rw[Xb h2,hx];dsimp only;rw[h3];dsimp only;rw[h4,hs,X8 ⋯,VZ];exact h5
theorem w_rz{c:Str}{e:Option Sd}{E:En}{N C:En->Prop}{R:Sd->Prop}{X:XP}:Po (sRz c (e::E)) N C R X=X c:=nd (by ac_rfl)
def Ox(f:Fn)(xs:List Sd)(E:En)(P:En->Sd->Prop)(Y:En->Str->Prop):Prop:=Oo f xs (P E) (Y E)
theorem Oo.ox{f:Fn}{xs:List Sd}{S:Sd->Prop}{W:XP}{E:En}{P:En->Sd->Prop}{Y:En->Str->Prop}(h:Oo f xs S W)(k:∀y,S y->P E y)(l:∀c,W c->Y E c):Ox f xs E P Y:=by
 unfold Ox Oo at *;cases hf:f xs with
 |none=>rw[hf]at h;exists h
 |some r=>rw[hf]at h;cases r with|ok E a=>exists k a h|exc E c=>exists l c h
theorem wj5{i:Nat}{m:Option Fl}{N C:En->Prop}{R:Sd->Prop}{X:XP}:Po (vjw i m) N C R X=Po m (λE=>N (E.set i none)) (λE=>C (E.set i none)) R noX:=by
 cases m with|none=>ac_rfl|some r=>cases r<;>ac_rfl
theorem w_tryE{cs:List Str}{i:Nat}{f:Fn}{as:List Ex}{h:Sm}{e:Option Sd}{E:En}{N C:En->Prop}{R:Sd->Prop}{X:XP}:Po (zq cs i (qxw (JV f as)) h (e::E)) N C R X =
  Eo (q5 as (e::E)) (λE xs=>Ox f (letAll xs) E (λE _=>N E) (λE c=>c∈cs/\Po (h (E.set i (some (.no,.obj c [])))) (λE=>N (E.set i none)) (λE=>C (E.set i none)) R noX)) noX:=by
 unfold zq qxw JV;cases q5 as (e::E)with
 | none=>ac_rfl
 | some r=>
  cases r with
  | exc E1 c=>ac_rfl
  | ok E1 xs=>
   rw [VZ];unfold Ox Oo;dsimp only;cases f (letAll xs)with
   | none=>ac_rfl
   | some r=>
    cases r with
    | ok E2 y=>ac_rfl
    | exc E2 c=>
     dsimp only[ofE]
     by_cases hc:c∈cs
     ·rw[X8 hc,wj5]
      with_unfolding_all exact propext ⟨λz=>⟨hc,z⟩,λz=>z.2⟩
     ·rw[Xb hc]
      with_unfolding_all exact propext ⟨λz=>(show False from z).elim,λz=>absurd z.1 hc⟩
theorem Q4{t:List (Str×Bool)}{c:Str}{k:Bool}{fs:List (Str×D)}(h:t.lookup c=some k):v6 t (.obj c fs)=some (.bl k):=by unfold v6;dsimp only;rw[h];rfl
theorem Oo.any{f:Fn}{xs:List Sd}{P:Sd->Prop}{X:XP}(h:Oo f xs P noX):Oo f xs P X:=by
 unfold Oo at *;cases hf:f xs with
 |none=>rw[hf]at h;exists h
 |some r=>rw[hf]at h;cases r with|ok E a=>exists h|exc E c=>exists (show False from h).elim
section
variable {c kc vc:Ex}{e:Option Sd}{E:En}{X:XP}{N C:En->Prop}{R:Sd->Prop}
theorem vxc{P:En->Sd->Prop}:Eo (vjj kc vc (e::E)) P X=Eo (kc (e::E)) (λE k=>Eo (vc E) (λE v=>v4 k.2=true/\P E (.rt,.dct [(k.2,v.2)])) X) X:=by
 unfold vjj;rw[kj];congr 1;funext E k;rw[kj];congr 1;funext E v;rw[kxs,VZ]
theorem vwh{i:Nat}(h:Eo (vc E) (λE1 v=>(∃kvs,E1[i]?=some (some (.rt,.dct kvs)))/\Eo (kc E1) (λE2 k=>∃kvs,E2[i]?=some (some (.rt,.dct kvs))/\v4 k.2=true/\(kvs.length<10000/\unm kvs=true)/\N (E2.set i (some (.rt,.dct (Qw kvs k.2 v.2))))) X) X):Po (qxx i kc vc E) N C R X:=by
 unfold qxx;rw[JW];refine h.mono ?_;rintro E1 v ⟨⟨kvs,e1⟩,h1⟩;rw[e1,X8 (show vw1 (some (some (Own.rt,D.dct kvs)))=true from rfl),JW];refine h1.mono ?_;rintro E2 k ⟨kvs2,e2,h2,h3,h4⟩;rw[e2];dsimp only;rw[X8 ⟨h2,by unfold big;omega,h3.2⟩,vv3];exact h4
end
theorem wwb{x:D}{kvs:List (D×D)}(h:v4 x=true)(hu:unm kvs=true):W0 x (.dct kvs)=some (.bl (!decide (x∈kvs.map (·.1)))):=by
 unfold W0;dsimp only;rw[X8 ⟨h,hu⟩]
section
variable {a b c kc vc:Ex}{e:Option Sd}{E:En}{X:XP}{N C:En->Prop}{R:Sd->Prop}{P:En->Sd->Prop}
theorem vxb:Eo (wqr a b (e::E)) P X=Eo (a (e::E)) (λE x=>Eo (b E) (λE y=>Wo (wku x.2 y.2) E (λE d=>P E (.dp,d))) X) X:=by
 unfold wqr;rw[kj];congr 1;funext E x;rw[kj];congr 1;funext E y;rw[zW];exact vo_map
theorem vx9{z:Str}:Eo (vji z c (e::E)) P X=Eo (c (e::E)) (λE x=>Wo (qwn z x.2) E (λE d=>P E (.dp,d))) X:=by
 unfold vji;rw[kj];congr 1;funext E x;rw[zW];exact vo_map
theorem vq4{P:En->List D->Prop}:Eo (qzz c (e::E)) P X=Eo (c (e::E)) (λE x=>Wo (vq7 x.2) E (λE ds=>P E (xV 0 ds))) X:=by
 unfold qzz;rw[kj];congr 1;funext E x;rw[zW];exact vo_map
theorem v_is{i:Nat}{o:Own}{ds:List D}{P:En->List D->Prop}(h:E[i]?=some (some (o,.lst ds)))(hp:D.pures ds=true)(k:P E ds):Eo (itV i E) P X:=by
 unfold itV;rw[h];dsimp only;rw[X8 hp,VZ];exact k
theorem kv9{i:Nat}(h:Eo (vc E) (λE1 v=>JQ E1[i]?=true/\Eo (kc E1) (λE2 k=>∃(o:Own) (xs:List D) (j:Int) (n:Nat),E2[i]?=some (some (o,.lst xs))/\o≠.no/\k.2=.int j/\ixN xs.length j=some n/\N (E2.set i (some (.rt,.lst (xs.set n v.2))))) X) X):Po (QK i kc vc E) N C R X:=by
 unfold QK;rw[JW];refine h.mono ?_;rintro E1 v ⟨e1,h1⟩;rw[X8 e1,JW];refine h1.mono ?_;rintro E2 k ⟨o,xs,j,n,e2,ho,hk,hn,h4⟩;rw[e2,hk];dsimp only;rw[Xb ho,hn];dsimp only;rw[vv3];exact h4
theorem vkx{f:Int->Int->Int}{i:Nat}{o:Own}{x:Int}(h0:E[i]?=some (some (o,.int x)))(h:Eo (vc E) (λE1 v=>∃y:Int,v.2=.int y/\N (E1.set i (some (.dp,.int (f x y))))) X):Po (XW f i vc E) N C R X:=by
 unfold XW;rw[h0];dsimp only;rw[JW];refine h.mono ?_;rintro E1 v ⟨y,e1,h1⟩;rw[e1];dsimp only;rw[vv3];exact h1
end
theorem wki{k:Int}{kv:List (Int×Int)}:VW (.int k) (K2 kv)=some (.bl (z6 kv k).isSome):=by
 unfold VW;rw[vkk]
theorem wwf{k v:Int}{kv:List (Int×Int)}(h:z6 kv k=some v):wku (K2 kv) (.int k)=some (.int v):=by
 unfold wku;rw[vkk];dsimp only;rw[h];rfl
theorem wkz{o:Own}{ps:List (Int×Int)}(h:ps.length<10000):W5 (o,.lst (ps.map λp=>D.tup [.int p.1,.int p.2]))=some (.rt,K2 (ps.foldl (λkv p=>xQ kv p.1 p.2) [])):=by
 unfold W5;dsimp only;rw[qqy];dsimp only;rw[X8 (by unfold big;omega)]
end Q
namespace C
open PySem Q
def jvf:Fn:=fn 4
  (j4 (j8 2 (kQ .rt []))
  (j4 (v3 (itS (cV 1)) (.n 3) (j4 (qw qQ 2 (cF2 (pu2 jQ) (vV 0) (vV 3)))
  (j8 0 (cF2 (pu2 v5) (vV 0) (vV 3)))))
  (k7 (cMv 2))))
noncomputable def m__law_signs:Fn:=fn 11
  (j4 (j8 2 (cC (.str "abcdefghijklmnopqrstuvwxyz")))
  (j4 (sTup [3,4,5] (jK jvf [(cV 0),(kQ .rt [(cC (.int 8)),(cC (.int 840)),(cC (.int 8))])]))
  (j4 (j8 4 (cF2 (pu2 jQ) (vV 4) (vE (cF2 jJ (vV 3) (C9 1)))))
  (j4 (j8 6 (kQ .rt []))
  (j4 (v3 (vY (vV 1)) (.n 7) (j4 (j8 8 (cC (.str "")))
  (j4 (v3 (vY (vE (cF2 jJ (vV 3) (C9 1)))) (.n 9) (j4 (j8 10 (cF2 jJ (vE (cF2 (pu2 v5) (vV 0) (vE (cF2 jJ (C9 53761) (vE (cF2 vj (vE (cF2 vj (C9 26) (vV 9))) (vV 9))))))) (vE (cF2 vj (vE (cF2 vj (vV 7) (vE (cF2 jJ (vV 5) (C9 1))))) (vE (cF1 (pu1 J4) (vE (cF2 (pu2 fEq) (vV 9) (vV 4)))))))))
  (j8 8 (cF2 jJ (vV 8) (j6 (vV 2) (vE (cF2 (pu2 jQ) (vV 10) (C9 26))))))))
  (qw qQ 6 (cV 8)))))
  (k7 (cF1 vw9 (vV 6))))))))
noncomputable def m_read_by:Fn:=fn 8
  (j4 (sIf (tOr (tE (cF2 (f2First fIsNon) (vV 1) (vE (cC .non)))) (tE (cF2 (pu2 QX) (vV 2) (j6 (vV 0) (C9 0))))) (k7 (cC .non)) v7)
  (j4 (j8 4 (cH (j6 (vV 1) (C9 1))))
  (j4 (j8 5 (cH (j6 (j6 (j6 (j6 (vV 0) (C9 1)) (j6 (vV 1) (C9 0))) (C9 2)) (vE (Wj (j6 (vV 0) (C9 0)) (vV 2))))))
  (j4 (j8 6 (cH (j6 (vV 5) (vE (cIf (tE (cF2 (pu2 ww) (vV 3) (vV 4))) (Wj (vV 4) (vV 3)) (cF1 (pu1 qk) (vV 4)))))))
  (j4 (sIf (tE (cF2 (f2First fIsNon) (vV 6) (vE (cC .non)))) (k7 (cC .non)) v7)
  (j4 (j8 7 (cF2 jJ (vV 4) (vE (kX .no [(cV 3)]))))
  (k7 (kX .no [(cH (j6 (vV 6) (C9 0))),(cF1 Jj (vE (cLC .rt 1 [7] (itS (cH (j6 (vV 6) (C9 1)))) (.n 0) tYes (cH (j6 (vV 1) (vV 0))))))]))))))))
noncomputable def m__law_case:Fn:=fn 8
  (j4 (j8 4 (cF2 (pu2 jQ) (j6 (vV 0) (C9 1)) (vE (cF1 (pu1 qk) (vV 1)))))
  (j4 (j8 5 (Qv (vE (cF2 jJ (j6 (vV 1) (vV 2)) (vE (cF1 (pu1 J4) (vE (cF2 (pu2 fEq) (vV 3) (j6 (vV 1) (vV 2))))))))))
  (j4 (sIf (tOr (tE (cF2 (pu2 fEq) (j6 (vV 0) (C9 0)) (C9 0))) (tE (cF2 (pu2 fLt) (vE (cF1 (pu1 qk) (vV 5))) (j6 (vV 1) (vV 4))))) (k7 (cC .non)) v7)
  (j4 (j8 6 (kQ .rt []))
  (j4 (v3 (itS (cSl (vV 0) (some (C9 2)) (some (vE (cF2 jJ (C9 2) (j6 (vV 1) (vV 4))))))) (.n 7) (qw qQ 6 (YY 5 (vE (cF2 (pu2 jQ) (vV 7) (vE (cF1 (pu1 qk) (vV 5))))))))
  (k7 (kX .no [(cV 4),(cF1 Jj (vV 6))])))))))
noncomputable def m__law_plain(dr:Fn):Fn:=fn 14
  (j4 (j8 3 (jK jvf [(jK dr [(cV 0),(cV 1)]),(cF2 jJ (vE (cF2 jJ (vE (kQ .rt [(cC (.int 24)),(cC (.int 8)),(cC (.int 8))])) (vE (cF2 vj (vE (kQ .rt [(cC (.int 12))])) (C9 6))))) (vE (cF2 vj (vE (kQ .rt [(cC (.int 2))])) (C9 6))))]))
  (j4 (j8 4 (cH (j6 (vE (kQ .rt [(cF2 jJ (C9 1) (vE (cF2 (pu2 jQ) (j6 (vV 3) (C9 0)) (C9 4)))),(cC (.int 5)),(cC (.int 6))])) (vE (cF2 vj (vE (cF1 (pu1 J4) (vE (cF2 (pu2 fEq) (j6 (vV 3) (C9 1)) (C9 3))))) (vE (cF2 jJ (C9 1) (vE (cF2 (pu2 jQ) (j6 (vV 3) (C9 2)) (C9 2))))))))))
  (j4 (j8 5 (cF2 jJ (vE (kQ .rt [(cC (.int 0))])) (vE (cLC .rt 1 [3,4] (itR2 (C9 1) (vV 4)) (.n 0) tYes (cF2 (pu2 jQ) (j6 (vV 1) (vE (cF2 jJ (C9 3) (vV 0)))) (vE (cF2 jJ (C9 3) (vE (cF1 (pu1 J4) (vE (K7 (vE (cF2 (pu2 fEq) (j6 (vV 1) (C9 2)) (C9 5))) (cF2 (pu2 fLt) (vV 2) (C9 4)))))))))))))
  (j4 (j8 6 (kQ .rt []))
  (j4 (j8 7 (cF2 jJ (vV 1) (C9 1)))
  (j4 (v3 (vY (vV 4)) (.n 8) (j4 (j8 9 (kQ .rt []))
  (j4 (v3 (vY (vE (cF1 (pu1 qk) (vV 2)))) (.n 10) (j4 (j8 11 (kQ .rt []))
  (j4 (v3 (vY (vE (cF2 jJ (j6 (vV 5) (vV 8)) (C9 1)))) (.n 12) (j4 (j8 13 (jK jvf [(jK dr [(cV 0),(cV 7)]),(kQ .rt [(cC (.int 6)),(cC (.int 60)),(cC (.int 60)),(cC (.int 60)),(cC (.int 60))])]))
  (j4 (j8 7 (cF2 jJ (vV 7) (C9 1)))
  (qw qQ 11 (jK m__law_case [(cV 13),(cV 5),(cV 8),(cV 12)])))))
  (qw qQ 9 (cV 11)))))
  (qw qQ 6 (kX .no [(cH (j6 (vV 5) (vV 8))),(cF2 (pu2 fEq) (j6 (vV 3) (vE (cF2 jJ (C9 9) (vV 8)))) (C9 1)),(cV 9)])))))
  (k7 (kX .no [(kX .no [(cF1 J7 (vV 2)),(cV 6)]),(cV 7)]))))))))
end C
local macro_rules
 | `(tactic| simp![$ts,*])=>`(tactic| simp(config:={ maxSteps:=1000000,failIfUnchanged:=false,implicitDefEqProofs:=true }) (disch:=omega) only[↓Q.w_seq,↓Q.w_asg,↓Q.w_ret,↓Q.w_pass,↓Q.w_if,↓Q.w_vV,↓Q.w_cV,↓Q.w_cMv,↓Q.w_cC,↓Q.w_vE,↓Q.w_cH,↓Q.w_f1,↓Q.w_f2,↓Q.w_ix,↓Q.w_tE,↓Q.w_tEQ,↓Q.w_tNot,↓Q.w_tAnd,↓Q.w_tOr,↓Q.w_tYes,↓Q.w_cIf,↓Q.w_cAnd,↓Q.w_call,↓Q.w_callB,↓Q.w_partN,↓Q.w_partS,↓Q.w_sl,↓Q.w_idx,↓Q.w_itS,↓Q.w_rz,↓Q.w_tryE,↓Q.w_R1,↓Q.w_LR1,Q.rng_ok,true_and,↓Q.ie_i,Q.isSq,Q.sl_some,↓Q.andP_bl,↓Q.vo_some,↓Q.vo_map,↓Q.wo_some,↓Q.wo_map,↓Q.args_nil,↓Q.args_cons,↓Q.eo_tup,↓Q.eo_lst,Q.letAll,Q.pu2,Q.pu1,Q.f2First,Q.fIsNon,Q.fNotNon,Q.isNon,List.map_cons,List.map_nil,List.cons_append,List.nil_append,Xm,List.length_nil,X4,Nat.reduceAdd,Nat.reduceSub,List.replicate,List.set_cons_zero,List.set_cons_succ,List.getElem?_cons_zero,List.getElem?_cons_succ,Q.len_l,Q.len_t,Q.lt_ii,Q.gt_ii,Q.le_ii,Q.ge_ii,Q.add_i,Q.sub_i,Q.div_i,Q.mod_i,Q.mulT_i,Q.mulT_l,Q.mul_l,Option.map_some,Q.truth,Q.truthQ,Q.D.pure,↓reduceIte,if_true,if_false,ite_true,ite_false,Q.sub_no,Q.sub_rt,Q.sub_dp,Bool.false_eq_true,reduceCtorEq,Bool.not_true,Bool.not_false,Q.Tg.put,Q.setAll,Q.seqOf,Q.lstOf,$ts,*])
namespace C
open Q PySem
abbrev most:Int:=1000*10 ^ 64
abbrev iL(ns:List Int):D:=.lst (ns.map D.int)
def Each(G:D->Sd->Prop):List D->List Sd->Prop
 |[],[]=>True|d::ds,y::ys=>G d y/\Each G ds ys|_,_=>False
theorem Each.snoc{G:D->Sd->Prop}{d:D}{y:Sd}(h:G d y):∀{ds:List D} {ys:List Sd},Each G ds ys->Each G (ds++[d]) (ys++[y])
 |[],[],_=>⟨h,trivial⟩|_::_,_::_,r=>⟨r.1,Each.snoc h r.2⟩
theorem Vk{X:XP}{E:En}{o:Own}{r:List Nat}{it:Ev (List D)}{c:Ex}{P:En->Sd->Prop}(jq:En)(G:D->Sd->Prop)(h0:Eo (it E) (λE1 ds=>r.map (at' E1)=jq/\(∀d∈ds,Eo (c (some (.no,d)::jq)) (λB y=>(∃q,B=q::jq)/\G d y) X)/\∀ys,Each G ds ys->Eo (mkL o (back r jq (clr r E1)) ys) P X) X):Eo (cLC o 1 r it (.n 0) tYes c E) P X:=by
 refine V5 (λE1 B ds2 ao=>∃ds ds1 q,ds=ds1++ds2/\B=q::jq/\Each G ds1 ao/\(∀d∈ds,Eo (c (some (.no,d)::jq)) (λB y=>(∃q,B=q::jq)/\G d y) X)/\∀ys,Each G ds ys->Eo (mkL o (back r jq (clr r E1)) ys) P X) ?_ ?_ ?_
 ·refine h0.mono λE1 ds ⟨h1,h2,h3⟩=>⟨ds,[],none,rfl,by rw[<-h1];rfl,trivial,h2,h3⟩
 ·rintro E1 B d ds2 ao ⟨ds,ds1,q,e,rfl,hE,h2,h3⟩;have hp:(Tg.n 0).put d (q::jq)=some (some (.no,d)::jq):=rfl;rw[hp,vo_some,show tYes (some (Own.no,d)::jq)=some (.ok (some (Own.no,d)::jq) true)from rfl,VZ,X8 rfl];refine(h2 d (by rw[e];simp)).mono ?_;rintro B y ⟨⟨q',rfl⟩,hG⟩;exact⟨ds,ds1++[d],q',by rw[e];simp,rfl,hE.snoc hG,h2,h3⟩
 ·rintro E1 B ao ⟨ds,ds1,q,e,rfl,hE,h2,h3⟩;rw[Xr]at e;subst e;exact h3 ao hE
theorem kw9{G:D->Sd->Prop}{S:Int->Prop}(hG:∀d y,G d y->∃i,y.2=.int i/\S i):∀{ds:List D} {ys:List Sd},Each G ds ys->∃ps:List Int,ys.map (·.2)=ps.map D.int/\ps.length=ds.length/\∀p∈ps,S p
 |[],[],_=>⟨[],rfl,rfl,λ_ h=>nomatch h⟩
 |d::ds,y::ys,r=>by
  obtain⟨i,e,s⟩:=hG d y r.1;obtain⟨ps,h1,h2,h3⟩:=kw9 hG r.2;exact⟨i::ps,by simp[e,h1],by simp[h2],λp hp=>(aD hp).elim (λz=>z▸s) (h3 p)⟩
theorem qqi{n:Int}:jZ n n=[]:=by unfold jZ;rw[Int.sub_self];rfl
theorem kk9{k n:Int}(h:k<n):jZ k n=.int k::jZ (k+1) n:=by
 unfold jZ;have:(n - k).toNat=(n - (k+1)).toNat+1:=by
  obtain⟨m,hm⟩:=Int.eq_ofNat_of_zero_le (show 0<=n - (k+1)by omega);rw[hm,show n - k=(m+1:Nat)by omega];rfl
 rw[this,List.range_succ_eq_map,List.map_cons,Xs]
 congr 1
 ·simp
 ·apply Z3;intro i _;simp only[Function.comp]
  congr 1
  omega
theorem Kz{k n:Int}{d:D}{ds:List D}(hk:k<=n)(h:d::ds=jZ k n):k<n/\d=.int k/\ds=jZ (k+1) n:=by
 by_cases hl:k<n
 ·rw[kk9 hl]at h;injection h with h1 h2;exact⟨hl,h1,h2⟩
 ·have:k=n:=⋯
  subst this;rw[qqi]at h;cases h
theorem Kv{k n:Int}(hk:k<=n)(h:[]=jZ k n):k=n:=by
 by_cases hl:k<n
 ·rw[kk9 hl]at h;cases h
 ·omega
theorem qvo{k n:Int}{d:D}(h:d∈jZ k n):∃i:Int,k<=i/\i<n/\d=.int i:=by
 unfold jZ at h;obtain⟨j,hj,rfl⟩:=aE h;have:=List.mem_range.mp hj;exact⟨k+j,⋯,⋯,rfl⟩
theorem vvr{k n:Int}(h:k<=n):((jZ k n).length:Int)=n - k:=by
 unfold jZ;rw[X4,Yq];omega
theorem kvq(z:Str)(i:Int)(h0:0<=i)(h1:i<z.cps.size):∃c:Nat,jz (.str z) (.int i)=some (.str ⟨#[c]⟩):=by
 have:i.toNat<z.cps.toList.length:=by rw[Xj];omega
 refine⟨z.cps.toList[i.toNat],?_⟩;show((ixN z.cps.size i).bind λj=>(z.cps.toList[j]?).map λc=>D.str ⟨#[c]⟩)=_;unfold ixN;rw[X8 h0,X8 h1];show((z.cps.toList[i.toNat]?).map λc=>D.str ⟨#[c]⟩)=_;rw[X3 this];rfl
theorem qjf{o1 o2:Own}{a b:Str}(h:a.cps.size+b.cps.size<=10000):jJ (o1,.str a) (o2,.str b)=some (.dp,.str (a++b)):=by
 show(if a.cps.size+b.cps.size<=big then _ else _)=_;rw[X8 (by unfold big;omega)]
theorem kkv(a b:Str):(a++b).cps.size=a.cps.size+b.cps.size:=by
 show(a.cps++b.cps).size=_;exact Array.size_append
theorem kks:∀(ss:List Str),zx (ss.map D.str)=some ss
 |[]=>rfl|s::ss=>by rw[List.map_cons,zx,kks ss];rfl
abbrev sL(ss:List Str):D:=.lst (ss.map D.str)
theorem ixI(ks:List Int)(S:Int->Prop)(hS:∀k∈ks,S k)(i:Int)(h0:0<=i)(h1:i<ks.length):∃v,jz (iL ks) (.int i)=some (.int v)/\S v/\ks[i.toNat]?=some v:=by
 have hl:i.toNat<ks.length:=⋯
 refine⟨ks[i.toNat],zV h0 (by rw[Xp,X3 hl];rfl),hS _ (Yc hl),X3 hl⟩
def Gd(n:Int)(g:D):Prop:=g=.str "fresh"\/g=.str "any"\/∃i:Int,0<=i/\i<n/\g=.int i
def Fd(n:Int)(g:D):Prop:=g=.str "new"\/g=.non\/∃i:Int,0<=i/\i<n/\g=.int i
def St(own:Int)(d:D):Prop:=∃(z:Str) (g:D) (to:Int) (fs:List D),d=.tup [.str z,g,.int to,.tup fs]/\Gd own g/\(∀f∈fs,Fd own f)/\fs.length<=3
def Rm(d:D):Prop:=∃(kp:Int) (gd:Bool) (ss:List D),d=.tup [.int kp,.bl gd,.lst ss]/\0<=kp/\kp<=3/\(∀s∈ss,St kp s)/\ss.length<=14
def Rms(rs:List D):Prop:=1<=rs.length/\rs.length<=4/\∀r∈rs,Rm r
def Rmw(rs:List D):Prop:=1<=rs.length/\rs.length<=12/\∀r∈rs,Rm r
instance {rs:List D}:Coe (Rms rs) (Rmw rs):=⟨λh=>⟨h.1,by have:=h.2.1;omega,h.2.2⟩⟩
def Sx(sgs:List Str)(ai:List Int)(d:D):Prop:=∃(z:Str) (g:D) (to:Int) (fs:List D),d=.tup [.str z,g,.int to,.tup fs]/\z∈sgs/\0<=to/\to<ai.length/\(fs.length:Int)=ai.getD to.toNat 0
def At(d:D):Prop:=d=.non\/∃i,d=.int i
theorem zZ{n:Nat}:∀{ks:List D},(∀k∈ks,k.flat n=true)->D.flats n ks=true
 |[],_=>by cases n<;>simp[D.flats]|k::ks,h=>by rw[D.flats,h k X7,zZ λe he=>h e (lc9 _ he)];rfl
mutual
theorem jx4:∀{n:Nat} (d:D),d.flat n=true->peq d d=true
 |n,.non,_=>by simp[peq]|n,.bl b,_=>by simp[peq]|n,.int b,_=>by simp[peq]|n,.str b,_=>by simp[peq]|0,.tup xs,h=>by simp[D.flat]at h|0,.lst xs,h=>by simp[D.flat]at h|n+1,.tup xs,h=>by rw[peq];exact peqs_refl xs (by simpa [D.flat]using h)|n+1,.lst xs,h=>by rw[peq];exact peqs_refl xs (by simpa [D.flat]using h)|n,.dct _,h=>by cases n<;>simp[D.flat]at h|n,.obj _ _,h=>by cases n<;>simp[D.flat]at h
theorem peqs_refl:∀{n:Nat} (ds:List D),D.flats n ds=true->peqs ds ds=true
 |_,[],_=>by simp[peqs]
 |n,d::ds,h=>by
  rw[D.flats,Bool.and_eq_true]at h;rw[peqs,jx4 d h.1,peqs_refl ds h.2];rfl
end
theorem kxg{d:D}(h:d.flat 40=true):fNe d d=some (.bl false):=by unfold fNe;rw[h,jx4 d h];rfl
def fitB(ks:List D)(d g:D):Bool:=match g with
 |.int i=>peq (ks.getD i.toNat .non) d|.str s=>if s="fresh" then !ks.any λz=>peq z d else true|_=>true
theorem p0(a b:D):jz (.tup [a,b]) (.int 0)=some a:=rfl
theorem p1(a b:D):jz (.tup [a,b]) (.int 1)=some b:=rfl
theorem t0(a b c:D):jz (.tup [a,b,c]) (.int 0)=some a:=rfl
theorem t1(a b c:D):jz (.tup [a,b,c]) (.int 1)=some b:=rfl
theorem t2(a b c:D):jz (.tup [a,b,c]) (.int 2)=some c:=rfl
def wkl(ks:List D)(d f:D):D:=match f with
 |.int i=>ks.getD i.toNat .non|.str _=>d|_=>.non
theorem W6{G:D->Sd->Prop}{h:D->D}(hG:∀d y,G d y->y.2=h d):∀{ds:List D} {ys:List Sd},Each G ds ys->ys.map (·.2)=ds.map h
 |[],[],_=>rfl|d::ds,y::ys,r=>by rw[List.map_cons,List.map_cons,hG d y r.1,W6 hG r.2]
abbrev j9(ss:List Str)(rs:List D):D:=.tup [sL ss,.lst rs]
def wwu(z:Str)(ks:List D)(d s:D):Bool:=match s with
 |.tup [.str w,g,_,_]=>(w==z)&&fitB ks d g|_=>false
def qwk(p:D->Bool):Nat->List D->List D
 |_,[]=>[]|k,s::r=>if p s=true then .int k::qwk p (k+1) r else qwk p (k+1) r
def qxa(ks:List D)(d s:D):D:=match s with
 |.tup [_,_,to,.tup fs]=>.tup [to,.tup (fs.map (wkl ks d))]|_=>.non
theorem kzs{α:Type}[DecidableEq α]:∀{l m:List α},l.Nodup->(∀x∈l,x∈m)->l.length<=m.length
 |[],_,_,_=>Yg _
 |a::l,m,nd,h=>by
  rw[List.nodup_cons]at nd;have ha:=h a X7;have:=kzs (l:=l) (m:=m.erase a) nd.2 λx hx=>(List.mem_erase_of_ne (by rintro rfl;exact nd.1 hx)).mpr (h x (lc9 _ hx))
  have hl:=List.length_erase_of_mem ha;have:0<m.length:=List.length_pos_of_mem ha;simp only[Xm];omega
theorem z8{o:Own}{xs:List D}(h:o≠.dp):J7 (o,.lst xs)=some (.rt,.lst xs):=by
 show(if q9 (o,.lst xs)then _ else _)=_;rw[X8 (by cases o<;>simp_all [q9])]
theorem Zx{z:Str}{ss:List Str}:QX (.str z) (sL ss)=some (.bl (!ss.any λw=>w==z)):=by
 show Vj (.str z) (sL ss)=_;unfold Vj;have:fIn (.str z) (sL ss)=some (.bl (ss.any λw=>w==z)):=by
  show(if(D.str z).flat 30&&D.flats 30 (ss.map D.str)then some (D.bl ((ss.map D.str).any λw=>peq w (.str z)))else none)=_;rw[show(D.str z).flat 30=true from rfl,zZ (ks:=ss.map D.str) (λk hk=>by obtain⟨w,_,rfl⟩:=aE hk;rfl),List.any_map];rfl
 rw[this];rfl
def wr(x:Int):Int:=if x<=0 then x else x - 10 ^ 60
theorem Q3{p:Int}{ks:List Int}:ww (.int p) (.tup (ks.map D.int))=some (.bl (ks.any λw=>w==p)):=by
 show(if(D.int p).flat 30&&D.flats 30 (ks.map D.int)then some (D.bl ((ks.map D.int).any λw=>peq w (.int p)))else none)=_;rw[show(D.int p).flat 30=true from rfl,zZ (ks:=ks.map D.int) (λk hk=>by obtain⟨w,_,rfl⟩:=aE hk;rfl),List.any_map];rfl
def z9(own k:Int):Int:=own+(if k=own then 1 else 0)
def Cs(ai:List Int)(b:Int)(c:D):Prop:=c=.non\/∃(to:Int) (fs:List Int),c=.tup [.int to,.tup (fs.map D.int)]/\0<=to/\to<ai.length/\(∀f∈fs,0<=f/\f<b)/\fs.Nodup/\(fs.length:Int)=ai.getD to.toNat 0
theorem WZ{α:Type}:∀{l:List α} {i:Nat} (h:i<l.length),(l[i]::l.eraseIdx i).Perm l
 |a::l,0,h=>List.Perm.refl _
 |a::l,i+1,h=>by
  have:=WZ (l:=l) (i:=i) (by simpa using h);rw[List.getElem_cons_succ,Yz];exact(List.Perm.swap ..).trans (this.cons a)
theorem kw4{α β:Type}(f:α->β):∀(l:List α) (i:Nat),(l.map f).eraseIdx i=(l.eraseIdx i).map f
 |[],_=>rfl|a::l,0=>rfl|a::l,i+1=>by rw[List.map_cons,Yz,Yz,List.map_cons,kw4 f l i]
theorem vw7(a b:Int):J4 (.bl (a==b))=some (.int (if a=b then 1 else 0)):=by
 by_cases h:a=b
 ·rw[X8 h,show(a==b)=true by simpa using h];rfl
 ·rw[Xb h,show(a==b)=false by simpa using h];rfl
def Pr(ai:List Int)(n:Nat)(own:Int)(d:D):Prop:=∃(gd:Bool) (st:List D),d=.tup [.int own,.bl gd,.lst st]/\st.length=n/\∀c∈st,∃cs:List D,c=.lst cs/\(cs.length:Int)=own+1/\∀k:Nat,k<cs.length->∃z,cs[k]?=some z/\Cs ai (z9 own k) z
def Prs(ai:List Int)(n:Nat)(rs:List D):Prop:=rs.length=ai.length/\∀i:Nat,i<ai.length->∃r,rs[i]?=some r/\Pr ai n (ai.getD i 0) r
theorem kxq{α:Type}{p:α->Bool}:∀{l:List α},l.any p=true->l.findIdx? p=some (l.findIdx p)
 | [],h=>by cases h
 | a::l,h=>by
  rw[List.findIdx?_cons,List.findIdx_cons];cases hp:p a with
  |true=>simp
  |false=>
   rw[List.any_cons,hp,Bool.false_or]at h;rw[kxq h];simp
theorem wwn{α:Type}{p:α->Bool}{l:List α}(h:l.any p=true):l.findIdx p<l.length:=by
 obtain⟨x,hx,hp⟩:=List.any_eq_true.mp h;exact List.findIdx_lt_length_of_exists ⟨x,hx,hp⟩
theorem wwm{α:Type}{p:α->Bool}{l:List α}(h:l.any p=false):l.findIdx p=l.length:=by
 rw[List.findIdx_eq_length];intro x hx;cases hp:p x with|false=>rfl|true=>rw[List.any_eq_true.mpr ⟨x,hx,hp⟩]at h;cases h
theorem wwh{z:Str}{ss:List Str}(h:(ss.any λw=>w==z)=true):kw2 (sL ss) (.str z)=some (.int (ss.findIdx λw=>w==z:Nat)):=by
 show(if(D.str z).flat 30&&D.flats 30 (ss.map D.str)then((ss.map D.str).findIdx? λw=>peq w (.str z)).map λ(j:Nat)=>D.int (j:Int)else none)=_;rw[show(D.str z).flat 30=true from rfl,zZ (ks:=ss.map D.str) (λk hk=>by obtain⟨w,_,rfl⟩:=aE hk;rfl),List.findIdx?_map];have:ss.findIdx? ((λw=>peq w (.str z))∘D.str)=ss.findIdx? λw=>w==z:=rfl
 rw[this,kxq h];rfl
theorem wkj{p:Int}{ks:List Int}(h:(ks.any λw=>w==p)=true):kw2 (.tup (ks.map D.int)) (.int p)=some (.int (ks.findIdx λw=>w==p:Nat)):=by
 show(if(D.int p).flat 30&&D.flats 30 (ks.map D.int)then((ks.map D.int).findIdx? λw=>peq w (.int p)).map λ(j:Nat)=>D.int (j:Int)else none)=_;rw[show(D.int p).flat 30=true from rfl,zZ (ks:=ks.map D.int) (λk hk=>by obtain⟨w,_,rfl⟩:=aE hk;rfl),List.findIdx?_map];have:ks.findIdx? ((λw=>peq w (.int p))∘D.int)=ks.findIdx? λw=>w==p:=rfl
 rw[this,kxq h];rfl
theorem vky{a b:List D}(hl:a.length+b.length<=10000):jJ (.no,.tup a) (.no,.tup b)=some (.no,.tup (a++b)):=by
 show(if a.length+b.length<=big/\q9 (.no,.tup a)/\q9 (.no,.tup b)then _ else _)=_;rw[X8 ⟨by unfold big;omega,rfl,rfl⟩]
abbrev iT(ks:List Int):D:=.tup (ks.map D.int)
def K6(ks:List Int)(p:Int)(f:Int):Int:=(ks++[p]).getD f.toNat 0
def vwn(ks:List Int)(p:Int)(c:D):D:=match c with
 |.tup [to,.tup fs]=>.tup [to,.tup (fs.map λf=>match f with|.int i=>.int (K6 ks p i)|_=>.non)]
 |_=>.non
theorem caseD_is{ks fs:List Int}{p to:Int}:vwn ks p (.tup [.int to,iT fs])=.tup [.int to,iT (fs.map (K6 ks p))]:=by
 unfold vwn iT;simp[Xs,Function.comp]
def Vz(ss:List Str)(st:List D)(ks:List Int)(z:Str)(p:Int):D:=match st[ss.findIdx λw=>w==z]? with
 |some (.lst cs)=>cs.getD (ks.findIdx λw=>w==p) .non|_=>.non
def QY(ss:List Str)(st:List D)(ks:List Int)(z:Str)(p:Int):D:=if(ss.any λw=>w==z)=true then vwn ks p (Vz ss st ks z p)else .non
def Cas(ai:List Int)(n:Nat)(own:Int)(st:List D):Prop:=st.length=n/\∀c∈st,∃cs:List D,c=.lst cs/\(cs.length:Int)=own+1/\∀k:Nat,k<cs.length->∃z,cs[k]?=some z/\Cs ai (z9 own k) z
theorem wwo{ks:List Int}{p:Int}:(ks.findIdx λw=>w==p)<=ks.length:=List.findIdx_le_length
theorem vku{ai:List Int}{ss:List Str}{st:List D}{ks:List Int}{z:Str}(p:Int)(h:Cas ai ss.length ks.length st)(hz:(ss.any λw=>w==z)=true):∃cs,st[ss.findIdx λw=>w==z]?=some (.lst cs)/\(cs.length:Int)=ks.length+1/\cs[ks.findIdx λw=>w==p]?=some (Vz ss st ks z p)/\Cs ai (z9 ks.length (ks.findIdx λw=>w==p:Nat)) (Vz ss st ks z p):=by
 have hj:(ss.findIdx λw=>w==z)<st.length:=by rw[h.1];exact wwn hz
 obtain⟨cs,e,hl,hc⟩:=h.2 st[ss.findIdx λw=>w==z] (Yc hj);have hg:st[ss.findIdx λw=>w==z]?=some (.lst cs):=by rw[X3 hj,e]
 have gf:=wwo (ks:=ks) (p:=p);obtain⟨c,e2,hC⟩:=hc (ks.findIdx λw=>w==p) ⋯;have hca:Vz ss st ks z p=c:=by unfold Vz;rw[hg];dsimp only;rw[Xn,e2];rfl
 exact⟨cs,hg,hl,by rw[hca];exact e2,by rw[hca];exact hC⟩
theorem qvk{ks:List Int}{p f:Int}(h0:0<=f)(h1:f<=ks.length):jz (.tup (ks.map D.int++[.int p])) (.int f)=some (.int (K6 ks p f)):=by
 refine wz0 h0 ?_;rw[show ks.map D.int++[D.int p]=(ks++[p]).map D.int by simp,Xp];unfold K6;rw[Xn,X3 (by simp;omega)];rfl
theorem vwt{own:Int}{k:Int}:z9 own k<=own+1:=by unfold z9;split<;>omega
theorem vqi{ai:List Int}{ss:List Str}{rs st:List D}{kp gd:D}{room:Int}{ks:List Int}{z:Str}{p:Int}(h0:0<=room)(hr:rs[room.toNat]?=some (.tup [kp,gd,.lst st]))(hc:Cas ai ss.length ks.length st)(hl:ks.length<=1000):
  Oo m_read_by [(.no,j9 ss rs),(.no,.tup [.int room,iT ks]),(.no,.str z),(.no,.int p)] (λy=>y.2=QY ss st ks z p) noX:=by
 have hi:jz (.lst rs) (.int room)=some (.tup [kp,gd,.lst st]):=zV h0 hr;unfold QY;cases hz:(ss.any λw=>w==z)with
 | false=>
  unfold m_read_by;refine kW ?_;simp![p0,Zx,hz]
 | true=>
  obtain⟨cs,g1,g2,g3,g4⟩:=vku p hc hz;have hx:jz (.lst st) (.int (ss.findIdx λw=>w==z:Nat))=some (.lst cs):=zV ⋯ (by rw[Xw];exact g1);have hy:jz (.lst cs) (.int (ks.findIdx λw=>w==p:Nat))=some (Vz ss st ks z p):=zV ⋯ (by rw[Xw];exact g3);have i9:=vky (a:=ks.map D.int) (b:=[.int p]) (by simp;omega);have li:=wwh hz;generalize Vz ss st ks z p=c at g4 hy;have fin:∀(to:Int) (fs:List Int) (E:En) (hE:KQ 1 [7] E=none::[some (.no,.tup (ks.map D.int++[.int p]))]) (hb:back [7] [some (Own.no,D.tup (ks.map D.int++[.int p]))] (clr [7] E)=E) (hi:itS (cH (j6 (vV 6) (C9 1))) E=some (.ok E (fs.map D.int))) (P:En->Sd->Prop),(∀f∈fs,0<=f/\f<z9 ks.length (ks.findIdx λw=>w==p:Nat))->P E (.rt,.lst ((fs.map (K6 ks p)).map D.int))->Eo (cLC .rt 1 [7] (itS (cH (j6 (vV 6) (C9 1)))) (.n 0) tYes (cH (j6 (vV 1) (vV 0))) E) P noX:=by
   intro to fs E hE hb hi P pz hP;refine Vk [some (.no,.tup (ks.map D.int++[.int p]))] (λf y=>y.2=match f with|.int i=>.int (K6 ks p i)|_=>.non) ?_;rw[hi,VZ];refine⟨by have:=hE;unfold KQ at this;simpa using this,λf hf=>?_,λys hy=>?_⟩
   ·obtain⟨i,lf,rfl⟩:=aE hf;have hb:=vwt (own:=ks.length) (k:=(ks.findIdx λw=>w==p:Nat));have:=pz i lf;simp![qvk (ks:=ks) (p:=p) (f:=i) this.1 ⋯];exact⟨⟨_,rfl⟩,trivial⟩
   ·rw[z4,W6 (h:=λf=>match f with|.int i=>.int (K6 ks p i)|_=>.non) (λd y h=>h) hy,hb];rw[Xs]at hP ⊢;exact hP
  rw[X8 rfl];cases hp:(ks.any λw=>w==p)with
  | true=>
   have hii:=wkj hp;unfold m_read_by;refine kW ?_;rcases g4 with rfl|⟨to,fs,rfl,t0',t1',pz,_⟩
   ·simp![p0,p1,Zx,hz,hi,t2,li,hx,Q3,hp,hii,hy];rfl
   ·simp![p0,p1,Zx,hz,hi,t2,li,hx,Q3,hp,hii,hy,i9];refine fin to fs _ rfl rfl rfl _ pz ?_;simp![tup_l (o:=.no) (xs:=(fs.map (K6 ks p)).map D.int) ⋯];exact caseD_is.symm
  | false=>
   rw[wwm hp]at hy;unfold m_read_by;refine kW ?_;rcases g4 with rfl|⟨to,fs,rfl,t0',t1',pz,_⟩
   ·simp![p0,p1,Zx,hz,hi,t2,li,hx,Q3,hp,hy];rfl
   ·simp![p0,p1,Zx,hz,hi,t2,li,hx,Q3,hp,hy,i9];refine fin to fs _ rfl rfl rfl _ pz ?_;simp![tup_l (o:=.no) (xs:=(fs.map (K6 ks p)).map D.int) ⋯];exact caseD_is.symm
inductive DR1 (ns:List Int)(k:Int):En->List D->Prop
 |mk (x:Int) (f:Int) (j:Int) {o3:Own} {o4:Own} {l5:Option Sd} {jq:List D} (h0:0<=x) (h1:x<10000000000) (h2:0<=j) (h3:j<=8) (h4:jq=jZ j 8):DR1 ns k [some (.no,iL ns),some (.no,.int k),some (.dp,.int most),some (o3,.int x),some (o4,.int f),l5] jq
def Go(rs:List D)(s:D)(w:Str×Int)(k:Nat)(s':D):Prop:=∃(room:Int) (ks st:List D) (gd:D),s=.tup [.int room,.tup ks]/\0<=room/\rs[room.toNat]?=some (.tup [.int ks.length,gd,.lst st])/\(∀s∈st,St ks.length s)/\(∀k∈ks,At k)/\∃h:k<st.length,D.int k∈qwk (wwu w.1 ks (.int w.2)) 0 st/\s'=qxa ks (.int w.2) st[k]
abbrev Lg:=List ((Str×Int)×Nat)
def wqn(rs:List D):D->Lg->D->Prop
 |s,[],s'=>s=s'|s,x::r,s'=>∃m,Go rs s x.1 x.2 m/\wqn rs m r s'
abbrev wx7(L:Lg):List D:=L.map λx=>.int x.2
theorem kwc{xs:List D}{c:Int}(h0:0<=c)(h1:c<=xs.length):z7 xs none (some c)=xs.take c.toNat:=by
 unfold z7 xX;dsimp only;rw[Xb ⋯,List.drop_zero,Nat.sub_zero,Nat.min_eq_left (Int.toNat_le.mpr h1)]
end C
namespace C
open Q PySem
def Ok2(ai:List Int)(s:D):Prop:=s=.non\/∃(room:Int) (ks:List Int),s=.tup [.int room,iT ks]/\0<=room/\room<ai.length/\(ks.length:Int)=ai.getD room.toNat 0
def Rd(ai:List Int)(ss:List Str)(rs:List D)(s:D)(w:Str×Int)(s':D):Prop:=(s=.non/\s'=.non)\/∃(room:Int) (ks:List Int) (st:List D) (kp gd:D),s=.tup [.int room,iT ks]/\0<=room/\rs[room.toNat]?=some (.tup [kp,gd,.lst st])/\Cas ai ss.length ks.length st/\ks.length<=3/\s'=QY ss st ks w.1 w.2
theorem qz1{ai:List Int}{ss:List Str}{rs:List D}{s:D}(w:Str×Int)(hP:Prs ai ss.length rs)(hk:∀p∈ai,0<=p/\p<=3)(h:Ok2 ai s):∃s',Rd ai ss rs s w s'/\Ok2 ai s'/\((ss.any λz=>z==w.1)=false->s'=.non):=by
 rcases h with rfl|⟨room,ks,rfl,r0,r1,hl⟩
 ·exact⟨.non,.inl ⟨rfl,rfl⟩,.inl rfl,λ_=>rfl⟩
 ·obtain⟨r,er,gd,st,rfl,jp,cq⟩:=hP.2 room.toNat ⋯;have hk3:=hk (ai.getD room.toNat 0) (by rw[Xn,X3 ⋯];exact Yc _);have sf:Cas ai ss.length ks.length st:=⟨jp,by rw[hl];exact cq⟩;refine⟨QY ss st ks w.1 w.2,.inr ⟨room,ks,st,_,_,rfl,r0,er,sf,⋯,rfl⟩,?_,λhz=>?_⟩
  ·unfold QY;cases hz:(ss.any λz=>z==w.1)with
   |false=>exact .inl rfl
   |true=>
    obtain⟨cs,g1,g2,g3,g4⟩:=vku w.2 sf hz;rw[X8 rfl];rcases g4 with e|⟨to,fs,e,t0,t1,_,_,kf⟩
    ·rw[e];exact .inl rfl
    ·rw[e,caseD_is];exact .inr ⟨to,_,rfl,t0,t1,by rw[X4];exact kf⟩
  ·unfold QY;rw[hz];rfl
theorem kzh{ai:List Int}{ss:List Str}{rs:List D}{s s':D}{w:Str×Int}(h:Rd ai ss rs s w s'):Oo m_read_by [(.no,j9 ss rs),(.no,s),(.no,.str w.1),(.no,.int w.2)] (λy=>y.2=s') noX:=by
 rcases h with⟨rfl,rfl⟩|⟨room,ks,st,kp,gd,rfl,r0,er,hc,hl,rfl⟩
 ·unfold m_read_by;refine kW ?_;simp![]
 ·exact vqi r0 er hc ⋯
abbrev st0:D:=.tup [.int 0,iT []]
def wkn(rs:List D)(s:D):Bool:=match s with
 |.tup [.int room,_]=>(match rs[room.toNat]? with
  |some (.tup [_,.bl b,_])=>b
  |_=>false)
 |_=>false
end C
namespace C
open Q PySem
noncomputable section
def Qk(K:List D)(d:D):List D:=if d∈K then K else K++[d]
def YV:D->List D
 |.tup [_,.tup ks]=>ks|_=>[]
def wxa(rs:List D):D->List D
 |.tup [.int r,_]=>(match rs.getD r.toNat .non with
  |.tup [_,_,.lst st]=>st
  |_=>[])
 |_=>[]
def wwj(rs:List D):D->Bool
 |.tup [.int r,_]=>(match rs.getD r.toNat .non with
  |.tup [_,.bl b,_]=>b
  |_=>false)
 |_=>false
def bh(ks st:List D)(p:Int):D->D
 |.int k=>qxa ks (.int p) (st.getD k.toNat .non)|_=>.non
def qzp(rs:List D)(w:Str×Int)(s:D):List D:=(qwk (wwu w.1 (YV s) (.int w.2)) 0 (wxa rs s)).map (bh (YV s) (wxa rs s) w.2)
def wv9(rs:List D)(w:Str×Int)(K:List D):List D:=(K.flatMap (qzp rs w)).foldl Qk []
def wxb(rs:List D):List (Str×Int)->List D->List D
 |[],K=>K|w::ws,K=>wxb rs ws (wv9 rs w K)
end
def SokV(ai:List Int)(V:List D)(s:D):Prop:=∃(room:Int) (ks:List D),s=.tup [.int room,.tup ks]/\0<=room/\room<ai.length/\(ks.length:Int)=ai.getD room.toNat 0/\(∀k∈ks,At k)/\∀k∈ks,k∈V
def Kin(ai:List Int)(V K:List D):Prop:=K.Nodup/\∀s∈K,SokV ai V s
abbrev Kvs:=List (D×D)
abbrev Lws:=List (Str×Int)
def Wd(rs:List D)(s0:D)(pre:List (Str×Int))(kvs:List (D×D)):Prop:=∀e∈kvs,∃L:Lg,e.2=.lst (wx7 L)/\L.map (·.1)=pre/\wqn rs s0 L e.1
inductive WO1 (ss:List Str)(rs V:List D)(ai:List Int)(s0:D)(pre:Lws)(kvs:Kvs)(z:Str)(p:Int):En->List D->Prop
 |mk (mi:Kvs) (pd:Kvs) (kv:Kvs) {l5:Option Sd} {l6:Option Sd} {l7:Option Sd} {l8:Option Sd} {jq:List D} (h0:jq=pd.map (λe=>D.tup [e.1,e.2])) (h1:kvs=mi++pd) (h2:kv.map (·.1)=((mi.map (·.1)).flatMap (qzp rs (z,p))).foldl Qk []) (h3:Kin ai V (kv.map (·.1))) (h4:Wd rs s0 (pre++[(z,p)]) kv):WO1 ss rs V ai s0 pre kvs z p [some (.no,j9 ss rs),some (.no,.dct kvs),some (.no,.str z),some (.no,.int p),some (.rt,.dct kv),l5,l6,l7,l8] jq
inductive WO2 (ss:List Str)(rs V:List D)(ai:List Int)(s0:D)(pre:Lws)(kvs:Kvs)(z:Str)(p:Int)(room:Int)(ks st:List D)(L:Lg)(mi:Kvs):En->List D->Prop
 |mk (f1:List D) (kv:Kvs) {l7:Option Sd} {l8:Option Sd} {jq:List D} (h0:qwk (wwu z ks (.int p)) 0 st=f1++jq) (h1:kv.map (·.1)=(f1.map (bh ks st p)).foldl Qk (((mi.map (·.1)).flatMap (qzp rs (z,p))).foldl Qk [])) (h2:Kin ai V (kv.map (·.1))) (h3:Wd rs s0 (pre++[(z,p)]) kv):WO2 ss rs V ai s0 pre kvs z p room ks st L mi [some (.no,j9 ss rs),some (.no,.dct kvs),some (.no,.str z),some (.no,.int p),some (.rt,.dct kv),some (.no,.tup [.int room,.tup ks]),some (.no,.lst (wx7 L)),l7,l8] jq
abbrev rwD(ws:List (Str×Int)):List D:=ws.map λw=>.tup [.str w.1,.int w.2]
inductive WB1 (ss:List Str)(rs:List D)(s0:D)(ws:Lws):En->List D->Prop
 |mk (w1:Lws) (w2:Lws) (kv:Kvs) {l3:Option Sd} {l4:Option Sd} {jq:List D} (h0:jq=rwD w2) (h1:ws=w1++w2) (h2:kv.map (·.1)=wxb rs w1 [s0]) (h3:Wd rs s0 w1 kv):WB1 ss rs s0 ws [some (.no,j9 ss rs),some (.no,.lst (rwD ws)),some (.rt,.dct kv),l3,l4,none,none] jq
inductive WB2 (ss:List Str)(rs:List D)(ws:Lws)(kv:Kvs):En->List D->Prop
 |mk (mi:Kvs) (pd:Kvs) {o2:Own} {l3:Option Sd} {l4:Option Sd} {l5:Option Sd} {l6:Option Sd} {jq:List D} (h0:jq=pd.map (λe=>D.tup [e.1,e.2])) (h1:kv=mi++pd) (h2:(mi.map (·.1)).any (wwj rs)=false):WB2 ss rs ws kv [some (.no,j9 ss rs),some (.no,.lst (rwD ws)),some (o2,.dct kv),l3,l4,l5,l6] jq
noncomputable section
end
end C
namespace B
open PySem Q
def m_keepers_in:Fn:=fn 2
  (k7 (cIf (tE (cF2 (pu2 fEq) (vV 1) (vE (cC (.int (-1)))))) (cC (.int 0)) (cH (j6 (j6 (j6 (vV 0) (C9 1)) (vV 1)) (C9 0)))))
def m_standing_in:Fn:=fn 2
  (k7 (cIf (tE (cF2 (pu2 fEq) (vV 0) (vE (cC (.int (-1)))))) (cC .non) (kX .no [(cV 0),(cF1 Jj (vV 1))])))
noncomputable def m_first_standings:Fn:=fn 7
  (j4 (j8 3 (jK m_keepers_in [(cV 0),(cH (j6 (vV 2) (C9 0)))]))
  (j4 (j8 4 (cF1 W5 (vE (cLC .rt 2 [] (itS (cH (j6 (vV 2) (C9 2)))) (.t [0,1]) tYes (kX .no [(cV 1),(cV 0)])))))
  (j4 (j8 5 (kQ .rt []))
  (j4 (v3 (vY (vE (jK m_keepers_in [(cV 1),(cH (j6 (vV 2) (C9 1)))]))) (.n 6) (qw qQ 5 (cIf (tE (cF2 (pu2 VW) (vV 6) (vV 4))) (cH (wqr (vV 4) (vV 6))) (cF2 jJ (vV 3) (vE (cF1 (pu1 qk) (vE (cLC .rt 1 [3] (itV 5) (.n 0) (tE (cF2 (pu2 fGe) (vV 0) (vV 1))) (cV 0)))))))))
  (k7 (kX .no [(jK m_standing_in [(cH (j6 (vV 2) (C9 0))),(Qv (vV 3))]),(kwf m_standing_in [(j6 (vV 2) (C9 1)),(vV 5)])]))))))
def m_names_of:Fn:=fn 1
  (k7 (cIf (tE (cF2 (f2First fIsNon) (vV 0) (vE (cC .non)))) (kX .no []) (cH (j6 (vV 0) (C9 1)))))
def m_room_of:Fn:=fn 1
  (k7 (cIf (tE (cF2 (f2First fIsNon) (vV 0) (vE (cC .non)))) (cC (.int (-1))) (cH (j6 (vV 0) (C9 0)))))
noncomputable def m_pair_of:Fn:=fn 4
  (j4 (j8 1 (jK m_names_of [(cH (j6 (vV 0) (C9 0)))]))
  (j4 (j8 2 (jK m_names_of [(cH (j6 (vV 0) (C9 1)))]))
  (j4 (j8 3 (cLC .rt 2 [2] (qzz (cV 1)) (.t [0,1]) (tE (cF2 (pu2 ww) (vV 1) (vV 2))) (kX .no [(cV 0),(Wj (vV 2) (vV 1))])))
  (k7 (kX .no [(jK m_room_of [(cH (j6 (vV 0) (C9 0)))]),(jK m_room_of [(cH (j6 (vV 0) (C9 1)))]),(cF1 Jj (vV 3))])))))
def m_read_by_both:Fn:=fn 5
  (k7 (kX .no [(jK C.m_read_by [(cV 0),(cH (j6 (vV 2) (C9 0))),(cV 3),(cV 4)]),(jK C.m_read_by [(cV 1),(cH (j6 (vV 2) (C9 1))),(cV 3),(cV 4)])]))
def m_held_by_both:Fn:=fn 2
  (j4 (j8 1 (jK m_names_of [(cH (j6 (vV 0) (C9 0)))]))
  (k7 (cF2 jJ (vV 1) (vE (cF1 Jj (vE (cLC .rt 1 [1] (itS (jK m_names_of [(cH (j6 (vV 0) (C9 1)))])) (.n 0) (tE (cF2 (pu2 QX) (vV 0) (vV 1))) (cV 0))))))))
def m_is_good_in:Fn:=fn 2
  (k7 (K7 (vE (cF2 (pu2 fNe) (vV 1) (vE (cC (.int (-1)))))) (cH (j6 (j6 (j6 (vV 0) (C9 1)) (vV 1)) (C9 1)))))
def m_agrees:Fn:=fn 3
  (k7 (cF2 (pu2 fEq) (vE (jK m_is_good_in [(cV 0),(cH (j6 (vV 2) (C9 0)))])) (vE (jK m_is_good_in [(cV 1),(cH (j6 (vV 2) (C9 1)))]))))
end B
namespace B
open Q PySem C
abbrev Sn:=Option (Int×List Int)
def stn:Sn->D
 |none=>.non|some p=>.tup [.int p.1,iT p.2]
def nms:Sn->List Int
 |none=>[]|some p=>p.2
def rmO:Sn->Int
 |none=>-1|some p=>p.1
theorem jzn(s:Sn):Oo m_names_of [(.no,stn s)] (λy=>y=(.no,iT (nms s))) noX:=by
 cases s with
 |none=>
  unfold m_names_of;refine kW ?_;simp![stn];rfl
 |some p=>
  unfold m_names_of;refine kW ?_;simp![stn,p1];rfl
theorem qqb(s:Sn):Oo m_room_of [(.no,stn s)] (λy=>∃o':Own,y=(o',.int (rmO s))/\True) noX:=by
 cases s with
 |none=>
  unfold m_room_of;refine kW ?_;simp![stn];exact⟨_,rfl,trivial⟩
 |some p=>
  unfold m_room_of;refine kW ?_;simp![stn,p0];exact⟨_,rfl,trivial⟩
theorem qx5{ai aq:List Int}{ss:List Str}{rs ay:List D}{s s' t t':D}{w:Str×Int}(h:Rd ai ss rs s w s')(h':Rd aq ss ay t w t'):Oo m_read_by_both [(.no,j9 ss rs),(.no,j9 ss ay),(.no,.tup [s,t]),(.no,.str w.1),(.no,.int w.2)] (λy=>y=(.no,.tup [s',t'])) noX:=by
 unfold m_read_by_both;refine kW ?_;simp![p0,p1];refine(kzh h).via ?_;rintro ⟨o,d⟩ e;cases(show d=s' from e);simp![p0,p1];refine(kzh h').via ?_;rintro ⟨o',d⟩ e;cases(show d=t' from e);simp![]
def z3(o t:List Int):List Int:=o++t.filter λn=>!(o.any λw=>w==n)
theorem wju{p:Int}{ks:List Int}:QX (.int p) (.tup (ks.map D.int))=some (.bl (!(ks.any λw=>w==p))):=by
 show Vj (.int p) (.tup (ks.map D.int))=_;unfold Vj;have:fIn (.int p) (.tup (ks.map D.int))=some (.bl (ks.any λw=>w==p)):=Q3;rw[this];rfl
theorem qwa(a b:Sn)(ha:(nms a).length<=100)(hb:(nms b).length<=100):Oo m_held_by_both [(.no,.tup [stn a,stn b])] (λy=>y=(.no,iT (z3 (nms a) (nms b)))) noX:=by
 unfold m_held_by_both;refine kW ?_;simp![p0,p1];refine(jzn a).via ?_;rintro _ rfl;simp![p0,p1];refine V5 (λE1 B ds ao=>E1=[some (Own.no,D.tup [stn a,stn b]),some (.no,iT (nms a))]/\∃q f1 f2,B=[q,some (.no,iT (nms a))]/\nms b=f1++f2/\ds=f2.map D.int/\ao.map (·.2)=(f1.filter λn=>!(nms a).any λw=>w==n).map D.int) ?_ ?_ ?_
 ·simp![p0,p1];refine(jzn b).via ?_;rintro _ rfl;simp![];exact⟨none,[],nms b,rfl,rfl,rfl,rfl⟩
 ·rintro E1 B d ds ao ⟨rfl,q,f1,f2,rfl,hf,bn,bg⟩;cases f2 with
  | nil=>cases bn
  | cons z f2=>
   rw[List.map_cons]at bn;injection bn with e1 e2;subst e1 e2;simp![wju];cases hz:((nms a).any λw=>w==z)with
   |true=>
    simp![];refine⟨_,f1++[z],f2,rfl,by rw[hf];simp,rfl,?_⟩;rw[bg,List.filter_append];simp[hz]
   |false=>
    simp![];refine⟨_,f1++[z],f2,rfl,by rw[hf];simp,rfl,?_⟩;rw[Xd,bg,List.filter_append];simp[hz]
 ·rintro E1 B ao ⟨rfl,q,f1,f2,rfl,hf,bn,bg⟩;cases f2 with
  |cons=>cases bn
  |nil=>
   rw[Xr]at hf;subst hf;have gf:((nms b).filter λn=>!(nms a).any λw=>w==n).length<=100:=Y8 (List.length_filter_le _ _) hb;rw[z4,bg];simp![Q.tup_l (o:=.no) (xs:=((nms b).filter λn=>!(nms a).any λw=>w==n).map D.int) ⋯,vky (a:=(nms a).map D.int) (b:=((nms b).filter λn=>!(nms a).any λw=>w==n).map D.int) (by rw[X4,X4];omega)];unfold z3 iT;rw[Xd]
def vJ(t:List Int):Nat->List Int->List (Int×Int)
 |_,[]=>[]|k,n::o=>if(t.any λw=>w==n)=true then((k:Int),((t.findIdx λw=>w==n:Nat):Int))::vJ t (k+1) o else vJ t (k+1) o
abbrev prs(l:List (Int×Int)):List D:=l.map λp=>.tup [.int p.1,.int p.2]
def V2(a b:Sn):D:=.tup [.int (rmO a),.int (rmO b),.tup (prs (vJ (nms b) 0 (nms a)))]
theorem qk1(a b:Sn)(ha:(nms a).length<=100)(hb:(nms b).length<=100):Oo m_pair_of [(.no,.tup [stn a,stn b])] (λy=>y=(.no,V2 a b)) noX:=by
 unfold m_pair_of;refine kW ?_;simp![p0,p1];refine(jzn a).via ?_;rintro _ rfl;simp![p0,p1];refine(jzn b).via ?_;rintro _ rfl;simp![];refine V5 (λE1 B ds ao=>E1=[some (Own.no,D.tup [stn a,stn b]),some (Own.no,iT (nms a)),some (Own.no,iT (nms b)),none]/\∃(q0 q1:Option Sd) (f1 f2:List Int),B=[q0,q1,some (.no,iT (nms b))]/\nms a=f1++f2/\ds=xV f1.length (f2.map D.int)/\ao.map (·.2)++prs (vJ (nms b) f1.length f2)=prs (vJ (nms b) 0 (nms a))) ?_ ?_ ?_
 ·simp![↓vq4,show vq7 (iT (nms a))=some ((nms a).map D.int)from rfl];exact⟨none,none,[],nms a,rfl,rfl,rfl,rfl⟩
 ·rintro E1 B d ds ao ⟨rfl,q0,q1,f1,f2,rfl,hf,bn,bg⟩;cases f2 with
  | nil=>cases bn
  | cons z f2=>
   have bn:d::ds=.tup [.int f1.length,.int z]::xV (f1.length+1) (f2.map D.int):=bn;injection bn with e1 e2;subst e1 e2;simp![Q3];have gw:(f1++[z]).length=f1.length+1:=by simp
   cases hz:((nms b).any λw=>w==z)with
   |false=>
    simp![];refine⟨_,_,f1++[z],f2,rfl,by rw[hf];simp,by rw[gw],?_⟩;rw[<-bg,gw]
    congr 2
    conv=>rhs;unfold vJ
    rw[hz,Xb ⋯]
   |true=>
    simp![wkj hz];refine⟨_,_,f1++[z],f2,rfl,by rw[hf];simp,by rw[gw],?_⟩;rw[<-bg,gw,Xd,Xy]
    congr 1
    conv=>rhs;unfold vJ
    rw[hz,X8 rfl];rfl
 ·rintro E1 B ao ⟨rfl,q0,q1,f1,f2,rfl,hf,bn,bg⟩;cases f2 with
  |cons=>cases bn
  |nil=>
   have bg:ao.map (·.2)=prs (vJ (nms b) 0 (nms a)):=by rw[<-bg];simp[vJ]
   rw[z4,bg,show J5 2 [2] [q0,q1,some (Own.no,iT (nms b))] [some (Own.no,D.tup [stn a,stn b]),some (Own.no,iT (nms a)),some (Own.no,iT (nms b)),none]=[some (Own.no,D.tup [stn a,stn b]),some (Own.no,iT (nms a)),some (Own.no,iT (nms b)),none]from rfl];simp![p0,p1];refine(qqb a).use ?_;intro o1 _;simp![p0,p1];refine(qqb b).use ?_;intro o2 _;simp![Q.tup_l (o:=.rt) (xs:=prs (vJ (nms b) 0 (nms a))) ⋯];rfl
def Kpr(rs:List D)(room k:Int):Prop:=(room=-1/\k=0)\/(0<=room/\∃g st,rs[room.toNat]?=some (.tup [.int k,g,st]))
theorem eqi{a b:Int}{k:Bool}(h:(a==b)=k):fEq (.int a) (.int b)=some (.bl k):=by rw[<-h];rfl
theorem kkd{ss:List Str}{rs:List D}{room k:Int}(h:Kpr rs room k):Oo m_keepers_in [(.no,j9 ss rs),(.no,.int room)] (λy=>∃o':Own,y=(o',.int k)/\True) noX:=by
 unfold m_keepers_in;refine kW ?_;rcases h with⟨rfl,rfl⟩|⟨h0,g,st,hr⟩
 ·simp![eqi (a:=-1) (b:=-1) rfl];exact⟨_,rfl,trivial⟩
 ·have bt:(room == -1)=false:=Y9 ⋯;have hi:jz (.lst rs) (.int room)=some (.tup [.int k,g,st]):=zV h0 hr;simp![p0,p1,eqi bt,hi,show jz (.tup [.int k,g,st]) (.int 0)=some (.int k)from rfl];exact⟨_,rfl,trivial⟩
def QQ(room:Int)(ks:List Int):Sn:=if room=-1 then none else some (room,ks)
theorem jzq(room:Int)(ks:List Int)(o:Own)(ho:o≠.dp):Oo m_standing_in [(.no,.int room),(o,iL ks)] (λy=>∃o':Own,y=(o',stn (QQ room ks))/\True) noX:=by
 unfold m_standing_in QQ;refine kW ?_
 by_cases h:room=-1
 ·subst h;simp![eqi (a:=-1) (b:=-1) rfl];exact⟨_,rfl,trivial⟩
 ·have bt:(room == -1)=false:=Y9 h;rw[Xb h];simp![eqi bt,Q.tup_l (o:=o) (xs:=ks.map D.int) ho];exact⟨_,rfl,trivial⟩
def nmF(own:Int)(kv:List (Int×Int)):Nat->List Int
 |0=>[]
 |n+1=>nmF own kv n++[match z6 kv n with
  |some i=>i
  |none=>own+((nmF own kv n).filter λx=>decide (own<=x)).length]
theorem jxx:∀(ks:List Int),D.pures (ks.map D.int)=true
 |[]=>rfl
 |k::ks=>by
  rw[List.map_cons];unfold D.pures;rw[jxx ks];rfl
theorem kzt(own:Int)(kv:List (Int×Int))(n:Nat):nmF own kv (n+1)=nmF own kv n++[match z6 kv n with|some i=>i|none=>own+((nmF own kv n).filter λx=>decide (own<=x)).length]:=rfl
theorem vk0(k:Int):jZ 0 k=(((List.range k.toNat).map λ(i:Nat)=>(i:Int)).map D.int):=by
 unfold jZ;rw[Xs,Int.sub_zero];refine Z3 λi _=>?_
 show D.int (0+(i:Int))=D.int i;rw[Int.zero_add]
theorem qz8(s:Sn):(stn s).pure=true:=by
 cases s with
 |none=>rfl
 |some p=>
  show D.pures [.int p.1,.tup (p.2.map D.int)]=true;simp only[D.pures,D.pure,jxx,Bool.and_self]
theorem kqe(own:Int)(kv:List (Int×Int)):∀n,(nmF own kv n).length=n
 |0=>rfl|n+1=>by unfold nmF;rw[Xf,kqe own kv n];rfl
def kvS(sh:List (Int×Int)):List (Int×Int):=(sh.map λp=>(p.2,p.1)).foldl (λkv p=>xQ kv p.1 p.2) []
theorem vj5 {ss:List Str} {rs ay:List D} {p q k k':Int} {sh:List (Int×Int)} (hp:Kpr rs p k) (hq:Kpr ay q k') (hk:0<=k) (dk:k<=100) (cy:0<=k') (hk2':k'<=100) (hsh:sh.length<=100):
  Oo m_first_standings [(.no,j9 ss rs),(.no,j9 ss ay),(.no,.tup [.int p,.int q,.tup (prs sh)])] (λy=>y=(.no,.tup [stn (QQ p ((List.range k.toNat).map λ(i:Nat)=>(i:Int))),stn (QQ q (nmF k (kvS sh) k'.toNat))])) noX:=by
 have t0:jz (.tup [.int p,.int q,.tup (prs sh)]) (.int 0)=some (.int p):=rfl;have t1:jz (.tup [.int p,.int q,.tup (prs sh)]) (.int 1)=some (.int q):=rfl;have t2:jz (.tup [.int p,.int q,.tup (prs sh)]) (.int 2)=some (.tup (prs sh)):=rfl;unfold m_first_standings;refine kW ?_;simp![t0,t1,t2];refine (kkd hp).use ?_;intro o1 _;simp![t0,t1,t2];refine V5 (λE1 B ds ao=>E1=[some (Own.no,j9 ss rs),some (Own.no,j9 ss ay),some (Own.no,D.tup [D.int p,D.int q,D.tup (prs sh)]),some (o1,D.int k),none,none,none]/\∃(q0 q1:Option Sd) (f1 f2:List (Int×Int)),B=[q0,q1]/\sh=f1++f2/\ds=prs f2/\ao.map (·.2)=prs (f1.map λp=>(p.2,p.1))) ?_ ?_ ?_
 ·simp![t2];exact ⟨none,none,[],sh,rfl,rfl,rfl,rfl⟩
 ·rintro E1 B d ds ao ⟨rfl,q0,q1,f1,f2,rfl,hf,bn,bg⟩;cases f2 with
  | nil=>cases bn
  | cons z f2=>
   have bn:d::ds=.tup [.int z.1,.int z.2]::prs f2:=bn;injection bn with e1 e2;subst e1 e2;simp![];refine⟨_,_,f1++[z],f2,rfl,by rw[hf];simp,rfl,?_⟩;rw [Xd,bg,Xd];simp [prs]
 ·rintro E1 B ao ⟨rfl,q0,q1,f1,f2,rfl,hf,bn,bg⟩;cases f2 with
  | cons=>cases bn
  | nil =>
   rw [Xr]at hf;subst hf;rw [z4,bg,show J5 2 [] [q0,q1] [some (Own.no,j9 ss rs),some (Own.no,j9 ss ay),some (Own.no,D.tup [D.int p,D.int q,D.tup (prs sh)]),some (o1,D.int k),none,none,none]=[some (Own.no,j9 ss rs),some (Own.no,j9 ss ay),some (Own.no,D.tup [D.int p,D.int q,D.tup (prs sh)]),some (o1,D.int k),none,none,none]from rfl];have gp:W5 (Own.no,D.lst (prs (sh.map λp=>(p.2,p.1))))=some (.rt,K2 (kvS sh)):=wkz (by rw[X4];omega);simp![gp];refine zK (λE jq=>∃(j:Int) (l6:Option Sd),E=[some (Own.no,j9 ss rs),some (Own.no,j9 ss ay),some (Own.no,D.tup [D.int p,D.int q,D.tup (prs sh)]),some (o1,D.int k),some (.rt,K2 (kvS sh)),some (.rt,iL (nmF k (kvS sh) j.toNat)),l6]/\0<=j/\j<=k'/\jq=jZ j k') ?_ ?_ ?_
   ·simp![t0,t1,t2];refine(kkd hq).use ?_;intro o2 _;simp![];exact⟨0,_,rfl,⋯,cy,rfl⟩
   ·rintro E d ds ⟨j,l6,rfl,j0,j1,hr⟩;obtain⟨hj,rfl,rfl⟩:=Kz j1 hr;have hjn:(j+1).toNat=j.toNat+1:=⋯
    have hjc:((j.toNat:Nat):Int)=j:=⋯
    simp![];refine xJ rfl ?_;cases hv:z6 (kvS sh) j with
    | some v=>
     simp![↓vxb,wki,wwf hv,hv,Option.isSome_some];refine⟨_,rfl,by rw[X4,kqe];omega,j+1,some (.no,.int j),?_,⋯,⋯,rfl⟩;rw [hjn,kzt,hjc,hv];simp
    | none=>
     simp![↓vxb,wki,hv,Option.isSome_none];have hge:∀z:Int,fGe (.int z) (.int k)=some (.bl (decide (k<=z))):=λz=>rfl
     refine V5 (λE1 B ds ao=>E1=[some (Own.no,j9 ss rs),some (Own.no,j9 ss ay),some (Own.no,D.tup [D.int p,D.int q,D.tup (prs sh)]),some (o1,D.int k),some (.rt,K2 (kvS sh)),some (.rt,iL (nmF k (kvS sh) j.toNat)),some (.no,.int j)]/\∃(q0:Option Sd) (f1 f2:List Int),B=[q0,some (o1,.int k)]/\nmF k (kvS sh) j.toNat=f1++f2/\ds=f2.map D.int/\ao.map (·.2)=(f1.filter λx=>decide (k<=x)).map D.int) ?_ ?_ ?_
     ·refine v_is rfl (jxx _) ?_;exact⟨rfl,none,[],_,rfl,rfl,rfl,rfl⟩
     ·rintro E1 B d ds ao ⟨rfl,q0,f1,f2,rfl,hf,bn,bg⟩;cases f2 with
      | nil=>cases bn
      | cons z f2=>
       rw[List.map_cons]at bn;injection bn with e1 e2;subst e1 e2;simp![hge]
       by_cases hz:k<=z
       ·have ik:decide (k<=z)=true:=Xl hz;simp![ik];refine⟨_,f1++[z],f2,rfl,by rw[hf];simp,rfl,?_⟩;rw[Xd,bg,List.filter_append];simp[hz]
       ·have ik:decide (k<=z)=false:=Xi hz;simp![ik];refine⟨_,f1++[z],f2,rfl,by rw[hf];simp,rfl,?_⟩;rw[bg,List.filter_append];simp[hz]
     ·rintro E1 B ao ⟨rfl,q0,f1,f2,rfl,hf,bn,bg⟩;cases f2 with
      |cons=>cases bn
      |nil=>
       rw[Xr]at hf;rw[z4,bg,<-hf];simp![];refine⟨_,rfl,by rw[X4,kqe];omega,j+1,some (.no,.int j),?_,⋯,⋯,rfl⟩;rw[hjn,kzt,hjc,hv];have:∀(l:List Int) (v:Int),l.map D.int++[D.int v]=(l++[v]).map D.int:=λl v=>by simp
       rw[this];rfl
   ·rintro E ⟨j,l6,rfl,j0,j1,hr⟩;have:=Kv j1 hr;subst this;simp![t0,t1,t2];rw[vk0];refine(jzq p ((List.range k.toNat).map λ(i:Nat)=>(i:Int)) .no ⋯).use ?_;intro o3 _;simp![t0,t1,t2];refine(jzq q (nmF k (kvS sh) j.toNat) .no ⋯).use ?_;intro o4 _;refine⟨qz8 _,?_⟩;simp![]
abbrev rngL(k:Int):List Int:=(List.range k.toNat).map λ(i:Nat)=>(i:Int)
def wz3(p k:Int):Sn:=QQ p (rngL k)
def wz2(q k k':Int)(sh:List (Int×Int)):Sn:=QQ q (nmF k (kvS sh) k'.toNat)
section
variable {f:Int->Int}
def xv(ai:List Int)(s:Sn):Prop:=∀room ks,s=some (room,ks)->0<=room/\room<ai.length/\(ks.length:Int)=ai.getD room.toNat 0
end
end B
namespace B
open PySem Q
def m__law_cell_at:Fn:=fn 2
  (j4 (sIf (tE (cF2 (pu2 fLt) (vV 1) (vE (cF1 (pu1 qk) (vV 0))))) (k7 (cH (j6 (vV 0) (vV 1)))) v7)
  (k7 (cC (.int 0))))
noncomputable def m__law_stream:Fn:=fn 5
  (j4 (j8 2 (kQ .rt []))
  (j4 (sIf (tE (cF2 (pu2 fEq) (vE (cF2 (pu2 jQ) (vV 0) (C9 2))) (C9 1))) (j4 (j8 0 (cF2 (pu2 v5) (vV 0) (C9 2)))
  (j4 (v3 (vY (vV 1)) (.n 3) (j4 (qw qQ 2 (cF2 (pu2 jQ) (vV 0) (C9 2147483647)))
  (j8 0 (cF2 (pu2 v5) (vV 0) (C9 2147483647)))))
  (k7 (cMv 2)))) v7)
  (j4 (j8 4 (cF2 jJ (vE (cF2 (pu2 jQ) (vE (cF2 (pu2 v5) (vV 0) (C9 2))) (C9 2147483647))) (C9 48271)))
  (j4 (v3 (vY (vE (cF2 jJ (vV 1) (C9 1)))) (.n 3) (j4 (j8 4 (cF2 (pu2 jQ) (vE (cF2 jJ (vE (cF2 jJ (vE (cF2 vj (vV 4) (vV 4))) (vE (cF2 vj (C9 48271) (vV 4))))) (vV 3))) (C9 2147483647)))
  (qw qQ 2 (cF2 (pu2 jQ) (vE (cF2 jJ (vE (cF2 vj (vV 4) (C9 40692))) (vE (cF2 vj (C9 7) (vV 3))))) (C9 2147483399)))))
  (k7 (cSl (vV 2) (some (C9 1)) none))))))
noncomputable def m__law_signs:Fn:=fn 7
  (j4 (j8 1 (cC (.str "abcdefghijklmnopqrstuvwxyz")))
  (j4 (j8 2 (jK m__law_stream [(cV 0),(cC (.int 9))]))
  (j4 (j8 3 (vji "" (vE (cLC .rt 1 [1] (itS (cSl (vV 2) none (some (vE (cF2 jJ (C9 1) (vE (cF2 (pu2 jQ) (vV 0) (C9 8)))))))) (.n 0) tYes (cH (j6 (vV 1) (vE (cF2 (pu2 jQ) (vV 0) (C9 26)))))))))
  (j4 (j8 4 (cF2 (pu2 jQ) (vE (cF2 (pu2 v5) (vV 0) (C9 8))) (vE (cF1 (pu1 qk) (vV 3)))))
  (j4 (j8 5 (kQ .rt []))
  (j4 (v3 (vY (j6 (vE (kQ .rt [(cC (.int 1)),(cC (.int 2)),(cC (.int 1)),(cC (.int 2)),(cC (.int 2)),(cC (.int 1)),(cC (.int 2)),(cC (.int 3))])) (vE (cF2 (pu2 jQ) (vE (cF2 (pu2 v5) (vV 0) (C9 64))) (C9 8))))) (.n 6) (qw qQ 5 (cF2 jJ (vE (cF2 jJ (vE (cSl (vV 3) none (some (vV 4)))) (j6 (vV 1) (vE (cF2 jJ (vE (cF2 (pu2 jQ) (j6 (vV 2) (C9 8)) (C9 24))) (vV 6)))))) (vE (cSl (vV 3) (some (vE (cF2 jJ (vV 4) (C9 1)))) none)))))
  (k7 (cMv 5))))))))
def m__law_fills:Fn:=fn 6
  (j4 (j8 3 (Qv (vV 2)))
  (j4 (j8 4 (kQ .rt []))
  (j4 (v3 (vY (vV 1)) (.n 5) (j4 (qw qQ 4 (YY 3 (vE (cF2 (pu2 jQ) (vV 0) (vE (cF1 (pu1 qk) (vV 3)))))))
  (j8 0 (cF2 jJ (vE (cF2 (pu2 v5) (vV 0) (C9 7))) (vE (cF2 vj (C9 5) (vV 5)))))))
  (k7 (cF1 Jj (vV 4))))))
noncomputable def m__law_case:Fn:=fn 5
  (j4 (sIf (tE (cF2 (pu2 fEq) (vE (cF2 (pu2 jQ) (vV 0) (C9 5))) (C9 4))) (k7 (cC .non)) v7)
  (j4 (j8 3 (cLC .rt 1 [1,2] (vY (vE (cF1 (pu1 qk) (vV 1)))) (.n 0) (tE (cF2 (pu2 fLe) (j6 (vV 1) (vV 0)) (vV 2))) (cV 0)))
  (j4 (j8 4 (cH (j6 (vV 3) (vE (cF2 (pu2 jQ) (vE (cF2 (pu2 v5) (vV 0) (C9 5))) (vE (cF1 (pu1 qk) (vV 3))))))))
  (k7 (kX .no [(cV 4),(jK m__law_fills [(cF2 (pu2 v5) (vV 0) (C9 35)),(cH (j6 (vV 1) (vV 4))),(cV 2)])])))))
noncomputable def m__law_plain:Fn:=fn 13
  (j4 (j8 2 (jK m__law_stream [(cV 0),(cC (.int 90))]))
  (j4 (j8 3 (cH (j6 (vE (kQ .rt [(cC (.int 1)),(cC (.int 2)),(cC (.int 3)),(cC (.int 4)),(cC (.int 5)),(cC (.int 2)),(cC (.int 4)),(cC (.int 6))])) (vE (cF2 (pu2 jQ) (j6 (vV 2) (C9 0)) (C9 8))))))
  (j4 (j8 4 (cC (.int 2)))
  (j4 (sIf (tAnd (tE (cF2 (pu2 fEq) (vV 3) (C9 3))) (tE (cF2 (pu2 fEq) (vE (cF2 (pu2 jQ) (j6 (vV 2) (C9 1)) (C9 3))) (C9 0)))) (j8 4 (cC (.int 3))) v7)
  (j4 (j8 5 (cF2 jJ (vE (kQ .rt [(cC (.int 0))])) (vE (cLC .rt 1 [2,4] (vY (vE (cF2 (pu2 Vq) (vV 3) (C9 1)))) (.n 0) tYes (cF2 (pu2 jQ) (vE (cF2 (pu2 v5) (j6 (vV 1) (vE (cF2 jJ (C9 1) (vV 0)))) (C9 3))) (vE (cF2 jJ (vV 2) (C9 1))))))))
  (j4 (j8 6 (kQ .rt []))
  (j4 (j8 7 (cC (.int 8)))
  (j4 (v3 (vY (vV 3)) (.n 8) (j4 (j8 9 (kQ .rt []))
  (j4 (v3 (vY (vE (cF1 (pu1 qk) (vV 1)))) (.n 10) (j4 (j8 11 (kQ .rt []))
  (j4 (v3 (vY (vE (cF2 jJ (j6 (vV 5) (vV 8)) (C9 1)))) (.n 12) (j4 (qw qQ 11 (jK m__law_case [(cH (j6 (vV 2) (vV 7))),(cV 5),(cF2 jJ (j6 (vV 5) (vV 8)) (vE (cF1 (pu1 J4) (vE (cF2 (pu2 fEq) (vV 12) (j6 (vV 5) (vV 8)))))))]))
  (j8 7 (cF2 jJ (vV 7) (C9 1)))))
  (qw qQ 9 (cV 11)))))
  (j4 (qw qQ 6 (kX .no [(cH (j6 (vV 5) (vV 8))),(cF2 (pu2 fEq) (vE (cF2 (pu2 jQ) (j6 (vV 2) (vV 7)) (C9 2))) (C9 0)),(cV 9)]))
  (j8 7 (cF2 jJ (vV 7) (C9 1)))))))
  (k7 (kX .no [(cF1 J7 (vV 1)),(cV 6)]))))))))))
end B
namespace B
open Q PySem C
theorem wjo{f:Fn}{xs:List Sd}{P:Sd->Prop}(h:Oo f xs P noX):∃y,P y/\Oo f xs (λy'=>y'=y) noX:=by
 unfold Oo at h ⊢;cases hf:f xs with
 |none=>rw[hf]at h;exact absurd (show False by exists h) id
 |some r=>
  rw[hf]at h;cases r with|ok E y=>exact⟨y,by with_unfolding_all exact h,by exists rfl⟩|exc E c=>exact absurd (show False by exists h) id
def xj(ns:List Int)(k:Nat):Int:=ns.getD k 0
theorem Qz(ns:List Int)(k:Nat)(hn:ns.length<=10000):Oo m__law_cell_at [(.no,iL ns),(.no,.int k)] (λy=>∃o':Own,y=(o',.int (xj ns k))/\True) noX:=by
 unfold m__law_cell_at;refine kW ?_;simp![]
 by_cases h:(k:Int)<ns.length
 ·have hx:jz (iL ns) (.int k)=some (.int (xj ns k)):=by
   refine zV ⋯ ?_;unfold xj;rw[Xw,Xp,X3 ⋯,Xn,X3 ⋯];rfl
  have hd:decide ((k:Int)<ns.length)=true:=Xl h;rw[X8 hd];simp![hx];exact⟨_,rfl,trivial⟩
 ·have hd:¬decide ((k:Int)<ns.length)=true:=by rw[Xi h];decide
  rw[Xb hd];refine⟨.dp,?_,trivial⟩;rw[show xj ns k=0 by unfold xj;rw[Xn,Yw ⋯];rfl]
def St(n:Int)(xs:List Int):Prop:=(xs.length:Int)=n/\∀x∈xs,0<=x/\x<2147483647
theorem kqv(c n:Int)(hn:0<=n)(oh:n<=100):Oo m__law_stream [(.no,.int c),(.no,.int n)] (λy=>∃xs,y=(.rt,iL xs)/\St n xs) noX:=by
 unfold m__law_stream;refine kW ?_
 by_cases h:c % 2=1
 ·have hd:(c % 2==1)=true:=by simp[h]
  simp![eqi hd];refine zK (λE jq=>∃(j v:Int) (xs:List Int) (l3:Option Sd),E=[some (.dp,.int v),some (.no,.int n),some (.rt,iL xs),l3,none]/\0<=j/\j<=n/\jq=jZ j n/\St j xs) ?_ ?_ ?_
  ·simp![];exact⟨0,_,[],_,rfl,⋯,hn,rfl,rfl,λ_ z=>nomatch z⟩
  ·rintro E d ds ⟨j,v,xs,l3,rfl,j0,j1,hr,hx⟩;obtain⟨hj,rfl,rfl⟩:=Kz j1 hr;simp![];refine xJ rfl ?_;simp![];refine⟨_,rfl,by rw[X4];have:=hx.1;omega,?_⟩;simp![];refine⟨j+1,v / 2147483647,xs++[v % 2147483647],some (.no,.int j),by simp,⋯,⋯,rfl,by have:=hx.1;simp;omega,λx hm=>?_⟩;rcases aA hm with z|z
   ·exact hx.2 x z
   ·rw[aC z];omega
  ·rintro E ⟨j,v,xs,l3,rfl,j0,j1,hr,hx⟩;have:=Kv j1 hr;subst this;simp![];exact⟨xs,rfl,hx⟩
 ·have hd:(c % 2==1)=false:=Y9 h;simp![eqi hd];refine zK (λE jq=>∃(j v:Int) (xs:List Int) (l3:Option Sd),E=[some (.no,.int c),some (.no,.int n),some (.rt,iL xs),l3,some (.dp,.int v)]/\0<=j/\j<=n+1/\jq=jZ j (n+1)/\St j xs/\0<=v/\v<4294967296) ?_ ?_ ?_
  ·simp![];exact⟨0,_,[],_,rfl,⋯,⋯,rfl,⟨rfl,λ_ z=>nomatch z⟩,⋯,⋯⟩
  ·rintro E d ds ⟨j,v,xs,l3,rfl,j0,j1,hr,hx,v0,v1⟩;obtain⟨hj,rfl,rfl⟩:=Kz j1 hr;have hm:=mul_l (o1:=.dp) (o2:=.dp) (a:=v) (b:=v) ⋯ ⋯;simp![hm];generalize hw:(v*v+48271*v+j) % 2147483647=u;have u0:0<=u/\u<2147483647:=by rw[<-hw];omega
   have lh:=mul_l (o1:=.dp) (o2:=.dp) (a:=u) (b:=40692) ⋯ ⋯;refine xJ rfl ?_;simp![lh];refine⟨_,rfl,by rw[X4];have:=hx.1;omega,?_⟩;refine⟨j+1,u,xs++[(u*40692+7*j) % 2147483399],some (.no,.int j),by simp,⋯,⋯,rfl,⟨by have:=hx.1;simp;omega,λx hm=>?_⟩,⋯,⋯⟩;rcases aA hm with z|z
   ·exact hx.2 x z
   ·rw[aC z];omega
  ·rintro E ⟨j,v,xs,l3,rfl,j0,j1,hr,hx,v0,v1⟩;have:=Kv j1 hr;subst this;simp![V9 (o:=.rt) (xs:=xs.map D.int) (lo:=some 1) (hi:=none) ⋯];have hl:=hx.1;have hcut:z7 (xs.map D.int) (some 1) none=(xs.drop 1).map D.int:=by
    unfold z7 xX;dsimp only;rw[Xb ⋯,X4,show min (1:Int).toNat xs.length=1 by show min 1 xs.length=1;omega,<-List.map_drop,Z6 (by rw[X4,Yb];omega)]
   rw[hcut];exact⟨xs.drop 1,rfl,by rw[Yb];omega,λx hm=>hx.2 x (List.mem_of_mem_drop hm)⟩
theorem qqc(n:Nat):((List.range n).map λ(j:Nat)=>(j:Int)).Nodup:=List.Pairwise.map (λ(j:Nat)=>(j:Int)) (λa b h e=>h (by have:(a:Int)=(b:Int):=e;omega)) List.nodup_range
theorem vj6(x ib free:Int)(h0:0<=ib)(h1:ib<=free)(h2:free<=100):Oo m__law_fills [(.no,.int x),(.no,.int ib),(.no,.int free)] (λy=>∃fs:List Int,y=(.no,.tup (fs.map D.int))/\(fs.length:Int)=ib/\(∀f∈fs,0<=f/\f<free)/\fs.Nodup) noX:=by
 unfold m__law_fills;refine kW ?_;simp![];rw[vk0];refine zK (λE jq=>∃(j v:Int) (o:Own) (sm fl:List Int) (l5:Option Sd),E=[some (o,.int v),some (.no,.int ib),some (.no,.int free),some (.rt,iL sm),some (.rt,iL fl),l5]/\0<=j/\j<=ib/\jq=jZ j ib/\(fl.length:Int)=j/\(sm.length:Int)+fl.length=free/\(fl++sm).Nodup/\∀f∈fl++sm,0<=f/\f<free) ?_ ?_ ?_
 ·simp![];refine⟨0,x,.no,(List.range free.toNat).map λ(j:Nat)=>(j:Int),[],none,rfl,⋯,h0,rfl,rfl,?_,?_,?_⟩
  ·simp;omega
  ·rw[List.nil_append];exact qqc _
  ·intro f hf;rw[List.nil_append]at hf;obtain⟨j,hj,rfl⟩:=aE hf;have:=List.mem_range.mp hj;omega
 ·rintro E d ds ⟨j,v,o,sm,fl,l5,rfl,j0,j1,hr,hl,hs,hn,hm⟩;obtain⟨hj,rfl,rfl⟩:=Kz j1 hr;have hsm:0<sm.length:=⋯
  have u0:=Y2 v (show(sm.length:Int)≠0 by omega);have u1:=Xu v (show(0:Int)<sm.length by omega);have hi:(v % sm.length).toNat<sm.length:=⋯
  simp![];refine xJ rfl ?_;refine wj4 rfl ?_;simp![mod_i (a:=v) (b:=(sm.length:Int)) ⋯];refine⟨.rt,_,_,.int (sm[(v % sm.length).toNat]),rfl,⋯,rfl,u0,⋯,by rw[Xp,X3 hi];rfl,rfl,?_⟩;simp![];refine⟨_,rfl,by rw[X4];omega,?_⟩;simp![];have pm:(fl++[sm[(v % sm.length).toNat]]++sm.eraseIdx (v % sm.length).toNat).Perm (fl++sm):=by
   rw[Xy];exact List.Perm.append_left fl (WZ hi)
  refine⟨j+1,v / 7+5*j,.dp,sm.eraseIdx (v % sm.length).toNat,fl++[sm[(v % sm.length).toNat]],some (.no,.int j),?_,⋯,⋯,rfl,?_,?_,pm.nodup_iff.mpr hn,λf hf=>hm f (pm.mem_iff.mp hf)⟩
  ·simp only[iL,Xd,List.map_cons,List.map_nil,kw4]
  ·rw[Xf];simp;omega
  ·rw[List.length_eraseIdx_of_lt hi,Xf];simp;omega
 ·rintro E ⟨j,v,o,sm,fl,l5,rfl,j0,j1,hr,hl,hs,hn,hm⟩;have:=Kv j1 hr;subst this;simp![Q.tup_l (o:=.rt) (xs:=fl.map D.int) ⋯];exact⟨fl,rfl,hl,λf hf=>hm f (ll9 _ hf),(List.nodup_append.mp hn).1⟩
theorem vjd(x free:Int)(ai:List Int)(hk:∀p∈ai,0<=p/\p<=3)(og:ai[0]?=some 0)(hl:ai.length<=100)(hf:0<=free)(hf2:free<=100):Oo m__law_case [(.no,.int x),(.no,iL ai),(.no,.int free)] (λy=>Cs ai free y.2) noX:=by
 have av:0<ai.length:=by
  cases ai with| nil=>cases og| cons=>simp
 unfold m__law_case;refine kW ?_
 by_cases h:x % 5=4
 ·have hd:(x % 5==4)=true:=by simp[h]
  simp![eqi hd];exact .inl rfl
 ·have hd:(x % 5==4)=false:=Y9 h;simp![eqi hd];refine V5 (λE1 B ds ao=>E1=[some (.no,.int x),some (.no,iL ai),some (.no,.int free),none,none]/\∃(j:Int) (q0:Option Sd) (fl:List Int),B=[q0,some (.no,iL ai),some (.no,.int free)]/\0<=j/\j<=ai.length/\ds=jZ j ai.length/\ao.map (·.2)=fl.map D.int/\(∀t∈fl,0<=t/\t<ai.length/\ai.getD t.toNat 0<=free)/\(0<j->fl≠[])/\(fl.length:Int)<=j) ?_ ?_ ?_
  ·simp![];exact⟨0,none,[],rfl,⋯,⋯,rfl,rfl,λ_ z=>(nomatch z),λz=>absurd z ⋯,by simp⟩
  ·rintro E1 B d ds ao ⟨rfl,j,q0,fl,rfl,j0,j1,hr,bg,kf,bt,gf⟩;obtain⟨hj,rfl,rfl⟩:=Kz j1 hr;have hjl:j.toNat<ai.length:=⋯
   have hx:jz (iL ai) (.int j)=some (.int (ai.getD j.toNat 0)):=zV j0 (by rw[Xp,X3 hjl,Xn,X3 hjl];rfl)
   by_cases hz:ai.getD j.toNat 0<=free
   ·have ik:decide (ai.getD j.toNat 0<=free)=true:=Xl hz;simp![hx,ik];refine⟨j+1,_,fl++[j],rfl,⋯,⋯,rfl,by rw[Xd,Xd,bg];rfl,λt ht=>?_,λ_=>by simp,by simp;omega⟩;rcases aA ht with q|q
    ·exact kf t q
    ·rw[aC q];exact⟨j0,⋯,hz⟩
   ·have ik:decide (ai.getD j.toNat 0<=free)=false:=Xi hz;have hj0:0<j:=by
     rcases Int.lt_or_eq_of_le j0 with q|q
     ·exact q
     ·subst q;exfalso;apply hz;rw[Xn];show(ai[0]?).getD 0<=free;rw[og];exact hf
    simp![hx,ik];exact⟨j+1,_,fl,rfl,⋯,⋯,rfl,bg,kf,λ_=>bt hj0,⋯⟩
  ·rintro E1 B ao ⟨rfl,j,q0,fl,rfl,j0,j1,hr,bg,kf,bt,gf⟩;have:=Kv j1 hr;subst this;have hfl0:0<fl.length:=List.length_pos_iff.mpr (bt ⋯);have u0:=Y2 (x / 5) (show(fl.length:Int)≠0 by omega);have u1:=Xu (x / 5) (show(0:Int)<fl.length by omega);have hi:(x / 5 % fl.length).toNat<fl.length:=⋯
   obtain⟨t,et⟩:∃t,fl[(x / 5 % fl.length).toNat]?=some t:=⟨_,X3 hi⟩;obtain⟨t0,t1,t2⟩:=kf t (List.mem_of_getElem? et);have hx:jz (iL fl) (.int (x / 5 % fl.length))=some (.int t):=zV u0 (by rw[Xp,et];rfl);have htl:t.toNat<ai.length:=⋯
   have hy:jz (iL ai) (.int t)=some (.int (ai.getD t.toNat 0)):=zV t0 (by rw[Xp,X3 htl,Xn,X3 htl];rfl);have qp:=hk (ai.getD t.toNat 0) (by rw[Xn,X3 htl];exact Yc _);rw[z4,bg,show J5 1 [1,2] [q0,some (Own.no,iL ai),some (Own.no,D.int free)] [some (Own.no,D.int x),some (Own.no,iL ai),some (Own.no,D.int free),none,none]=[some (Own.no,D.int x),some (Own.no,iL ai),some (Own.no,D.int free),none,none]from rfl];simp![mod_i (a:=x / 5) (b:=(fl.length:Int)) ⋯,hx,hy];refine(vj6 (x / 35) (ai.getD t.toNat 0) free qp.1 t2 hf2).use ?_;rintro fs ⟨f1,f2,f3⟩;simp![];exact .inr ⟨t,fs,rfl,t0,t1,f2,f3,f1⟩
def Gdr(rs:List D)(room:Int)(g:Bool):Prop:=(room=-1/\g=false)\/(0<=room/\∃k st,rs[room.toNat]?=some (.tup [k,.bl g,st]))
theorem nei{a b:Int}{k:Bool}(h:(a==b)=k):fNe (.int a) (.int b)=some (.bl !k):=by rw[<-h];rfl
theorem qwb{ss:List Str}{rs:List D}{room:Int}{g:Bool}(h:Gdr rs room g):Oo m_is_good_in [(.no,j9 ss rs),(.no,.int room)] (λy=>∃o':Own,y=(o',.bl g)/\True) noX:=by
 unfold m_is_good_in;refine kW ?_;rcases h with⟨rfl,rfl⟩|⟨h0,k,st,hr⟩
 ·simp![nei (a:=-1) (b:=-1) rfl];exact⟨_,rfl,trivial⟩
 ·have bt:(room == -1)=false:=Y9 ⋯;have hi:jz (.lst rs) (.int room)=some (.tup [k,.bl g,st]):=zV h0 hr;simp![p0,p1,nei bt,hi,show jz (.tup [k,.bl g,st]) (.int 1)=some (.bl g)from rfl];exact⟨_,rfl,trivial⟩
theorem eqb(a b:Bool):fEq (.bl a) (.bl b)=some (.bl (a==b)):=by cases a<;>cases b<;>rfl
theorem qxe{ss:List Str}{rs ay:List D}{p q:Int}{g g':Bool}{d:D}(h:Gdr rs p g)(h':Gdr ay q g'):Oo m_agrees [(.no,j9 ss rs),(.no,j9 ss ay),(.no,.tup [.int p,.int q,d])] (λy=>∃o':Own,y=(o',.bl (g==g'))/\True) noX:=by
 have t0:jz (.tup [.int p,.int q,d]) (.int 0)=some (.int p):=rfl;have t1:jz (.tup [.int p,.int q,d]) (.int 1)=some (.int q):=rfl;unfold m_agrees;refine kW ?_;simp![t0,t1];refine(qwb h).use ?_;intro o1 _;simp![t0,t1];refine(qwb h').use ?_;intro o2 _;simp![eqb];exact⟨_,rfl,trivial⟩
theorem vv5{m:Option Fl}{N N' C:En->Prop}{R:Sd->Prop}{X:XP}(h:Po m N C R X)(k:∀E,N E->N' E):Po m N' C R X:=by
 cases m with
 |none=>exists h
 |some r=>cases r with|nx E=>exists k E h|bk E=>exists h|ct E=>exists h|rt E x=>exists h|xc E c=>exists h
theorem Ww{a b:Sm}{E:En}{N C:En->Prop}{R:Sd->Prop}{X:XP}(I:En->Prop)(h1:Po (a E) I C R X)(h2:∀E,I E->Po (b E) N C R X):Po (j4 a b E) N C R X:=by
 rw[vk7];exact vv5 h1 h2
inductive PlC (c:Int)(ss:List Str)(xs:List Int)(size m:Int)(ai:List Int)(rs:List D)(r own:Int)(st:List D)(s:Int):En->List D->Prop
 |mk (k:Int) (b8:Int) (cs:List D) {o5:Own} {o7:Own} {ko:Option Sd} {jq:List D} (h0:sub o5=.no) (h1:0<=k) (h2:k<=own+1) (h3:jq=jZ k (own+1)) (h4:(cs.length:Int)=k) (h5:8<=b8) (h6:b8<=8+(3*(m+1)+1)*r+(m+1)*s+k) (h7:∀k:Nat,k<cs.length->∃z,cs[k]?=some z/\Cs ai (z9 own k) z):PlC c ss xs size m ai rs r own st s [some (.no,.int c),some (.no,sL ss),some (.rt,iL xs),some (.no,.int size),some (.dp,.int m),some (o5,iL ai),some (.rt,.lst rs),some (o7,.int b8),some (.no,.int r),some (.rt,.lst st),some (.no,.int s),some (.rt,.lst cs),ko] jq
inductive PlB (c:Int)(ss:List Str)(xs:List Int)(size m:Int)(ai:List Int)(rs:List D)(r own:Int):En->List D->Prop
 |mk (s:Int) (b8:Int) (st:List D) {o5:Own} {o7:Own} {kr:Option Sd} {lu:Option Sd} {ko:Option Sd} {jq:List D} (h0:sub o5=.no) (h1:0<=s) (h2:s<=ss.length) (h3:jq=jZ s ss.length) (h4:(st.length:Int)=s) (h5:8<=b8) (h6:b8<=8+(3*(m+1)+1)*r+(m+1)*s) (h7:∀c∈st,∃cs:List D,c=.lst cs/\(cs.length:Int)=own+1/\∀k:Nat,k<cs.length->∃z,cs[k]?=some z/\Cs ai (z9 own k) z):PlB c ss xs size m ai rs r own [some (.no,.int c),some (.no,sL ss),some (.rt,iL xs),some (.no,.int size),some (.dp,.int m),some (o5,iL ai),some (.rt,.lst rs),some (o7,.int b8),some (.no,.int r),some (.rt,.lst st),kr,lu,ko] jq
inductive PlA (c:Int)(ss:List Str)(xs:List Int)(size m:Int)(ai:List Int):En->List D->Prop
 |mk (r:Int) (b8:Int) (rs:List D) {l8:Option Sd} {l9:Option Sd} {kr:Option Sd} {lu:Option Sd} {ko:Option Sd} {o5:Own} {o7:Own} {jq:List D} (h0:sub o5=.no) (h1:0<=r) (h2:r<=size) (h3:jq=jZ r size) (h4:(rs.length:Int)=r) (h5:8<=b8) (h6:b8<=8+(3*(m+1)+1)*r) (h7:∀i:Nat,i<rs.length->∃d,rs[i]?=some d/\Pr ai ss.length (ai.getD i 0) d):PlA c ss xs size m ai [some (.no,.int c),some (.no,sL ss),some (.rt,iL xs),some (.no,.int size),some (.dp,.int m),some (o5,iL ai),some (.rt,.lst rs),some (o7,.int b8),l8,l9,kr,lu,ko] jq
theorem kvc(c:Int)(ss:List Str)(hs:1<=ss.length)(hs2:ss.length<=3):Oo m__law_plain [(.no,.int c),(.no,sL ss)] (λy=>∃rs,y=(.no,j9 ss rs)/\∃ai:List Int,1<=ai.length/\ai.length<=6/\ai[0]?=some 0/\(∀p∈ai,0<=p/\p<=3)/\Prs ai ss.length rs) noX:=by
 unfold m__law_plain;refine kW ?_;simp![];refine(kqv c 90 ⋯ ⋯).use ?_;intro xs hx;have hxl:=hx.1;have ix:∀i:Int,0<=i->i<90->∃v:Int,jz (iL xs) (.int i)=some (.int v)/\0<=v:=λi i0 i1=>by
  obtain⟨v,e,h,_⟩:=ixI xs _ hx.2 i i0 ⋯;exact⟨v,e,h.1⟩
 obtain⟨v0,e0,a0⟩:=ix 0 ⋯ ⋯;obtain⟨v1,e1,a1⟩:=ix 1 ⋯ ⋯;have q0:=Y2 v0 (show(8:Int)≠0 by decide);have q1:=Xu v0 (show(0:Int)<8 by decide);obtain⟨size,esz,sz0,sz1⟩:∃sz:Int,jz (.lst [.int 1,.int 2,.int 3,.int 4,.int 5,.int 2,.int 4,.int 6]) (.int (v0 % 8))=some (.int sz)/\1<=sz/\sz<=6:=by
  generalize v0 % 8=t at q0 q1;have:t=0\/t=1\/t=2\/t=3\/t=4\/t=5\/t=6\/t=7:=⋯
  rcases this with rfl|rfl|rfl|rfl|rfl|rfl|rfl|rfl<;>exact⟨_,rfl,⋯,⋯⟩
 refine Ww (λE=>E=[some (.no,.int c),some (.no,sL ss),some (.rt,iL xs),some (.no,.int size),none,none,none,none,none,none,none,none,none]) ?_ ?_
 ·simp![e0,esz]
 rintro E rfl;refine Ww (λE=>E=[some (.no,.int c),some (.no,sL ss),some (.rt,iL xs),some (.no,.int size),some (.dp,.int 2),none,none,none,none,none,none,none,none]) ?_ ?_
 ·simp![]
 rintro E rfl;refine Ww (λE=>∃m:Int,E=[some (.no,.int c),some (.no,sL ss),some (.rt,iL xs),some (.no,.int size),some (.dp,.int m),none,none,none,none,none,none,none,none]/\((m=2)\/(m=3/\size=3))) ?_ ?_
 ·by_cases h3:size=3
  ·have hb:(size==3)=true:=by simp[h3]
   by_cases h4:v1 % 3=0
   ·have dw:(v1 % 3==0)=true:=by simp[h4]
    simp![e1,eqi hb,eqi dw];exact⟨3,rfl,.inr ⟨rfl,h3⟩⟩
   ·have dw:(v1 % 3==0)=false:=Y9 h4;simp![e1,eqi hb,eqi dw];exact⟨2,rfl,.inl rfl⟩
  ·have hb:(size==3)=false:=Y9 h3;simp![eqi hb];exact⟨2,rfl,.inl rfl⟩
 rintro E ⟨m,rfl,hm⟩;have hm0:2<=m/\m<=3:=by rcases hm with rfl|⟨rfl,_⟩<;>omega
 simp![];refine Vk [some (.rt,iL xs),some (.dp,.int m)] (λ_ y=>∃i,y=(.dp,.int i)/\0<=i/\i<=m) ?_;simp![];refine⟨rfl,λd jy=>?_,λys hy=>?_⟩
 ·obtain⟨i,i0,i1,rfl⟩:=qvo jy;obtain⟨w,ew,aw⟩:=ix (1+i) ⋯ ⋯;have:=Y2 (w / 3) (show m+1≠0 by omega);have:=Xu (w / 3) (show 0<m+1 by omega);simp![ew,mod_i (a:=w / 3) (b:=m+1) ⋯];exact⟨⟨_,rfl⟩,_,rfl,⋯,⋯⟩
 obtain⟨ks,h1,h2,h3⟩:=kw9 (S:=λi=>0<=i/\i<=m) (λd y ⟨i,h,s⟩=>⟨i,by rw[h],s⟩) hy;rw [z4,h1];simp only[back,clr,at',List.map_cons,List.map_nil,List.set_cons_zero,List.set_cons_succ];have hkl:((0::ks).length:Int)=size:=by rw[Xm];have:=vvr (k:=0) (n:=size - 1) ⋯;omega
 have hkm:∀p∈(0::ks:List Int),0<=p/\p<=m:=λp hp=>by
  rcases aD hp with rfl|hp
  ·exact⟨⋯,⋯⟩
  ·exact h3 p hp
 have hk3:∀p∈(0::ks:List Int),0<=p/\p<=3:=λp hp=>by have:=hkm p hp;omega
 have i9:jJ (.no,.lst [.int 0]) (.no,.lst (ks.map D.int))=some (.rt,iL (0::ks)):=qjg ⋯ ⋯ (by rw[X4];simp at hkl ⊢;omega);have og:(0::ks:List Int)[0]?=some 0:=rfl;simp![i9];generalize (0::ks:List Int)=ai at hkl hkm hk3 i9 og;refine zK (PlA c ss xs size m ai) ?_ ?_ ?_
 ·simp![];exact⟨0,8,[],rfl,⋯,⋯,rfl,rfl,⋯,⋯,λi hi=>nomatch hi⟩
 ·rintro E d ds ⟨r,b8,rs,hs5,r0,r1,hr,nt,ng,ms,hrs⟩;obtain⟨hrk,rfl,rfl⟩:=Kz r1 hr;obtain⟨own,eo,⟨ow0,ow1⟩,how⟩:=ixI ai _ hkm r r0 ⋯;simp![];refine zK (PlB c ss xs size m ai rs r own) ?_ ?_ ?_
  ·simp![];exact⟨0,b8,[],hs5,⋯,⋯,rfl,rfl,⋯,⋯,λc hc=>nomatch hc⟩
  ·rintro E d ds ⟨s,b8,st,hs5,s0,s1,hr,jp,ng,ms,cq⟩;obtain⟨hsk,rfl,rfl⟩:=Kz s1 hr;simp![];refine zK (PlC c ss xs size m ai rs r own st s) ?_ ?_ ?_
   ·simp![eo,hs5];exact⟨0,b8,[],hs5,⋯,⋯,rfl,rfl,⋯,⋯,λc hc=>nomatch hc⟩
   ·rintro E d ds ⟨k,b8,cs,hs5,k0,k1,hr,en,ng,ms,oq⟩;obtain⟨hkk,rfl,rfl⟩:=Kz k1 hr;have gl:b8<90:=by rcases hm with rfl|⟨rfl,_⟩<;>omega
    obtain⟨w,ew,aw⟩:=ix b8 ⋯ gl;have qy:own+(if k=own then(1:Int)else 0)=z9 own k:=rfl;have hB0:0<=z9 own k/\z9 own k<=4:=by unfold z9;split<;>omega
    simp![];refine xJ rfl ?_;simp![eo,ew,V8,vw7,qy,hs5];refine(vjd w (z9 own k) ai hk3 og ⋯ hB0.1 ⋯).via ?_;intro y hy;simp![];refine⟨_,rfl,⋯,k+1,b8+1,cs++[y.2],rfl,⋯,⋯,rfl,by simp;omega,⋯,⋯,?_⟩;intro j hj;rw[Xf,Yi]at hj
    by_cases hj2:j<cs.length
    ·obtain⟨z,z1,z2⟩:=oq j hj2;exact⟨z,by rw[List.getElem?_append_left hj2];exact z1,z2⟩
    ·have:j=cs.length:=⋯
     subst this;exact⟨y.2,by simp,by rw[en];exact hy⟩
   ·rintro E ⟨k,b8,cs,hs5,k0,k1,hr,en,ng,ms,oq⟩;have:=Kv k1 hr;subst this;refine xJ rfl ?_;simp![];refine⟨_,rfl,⋯,s+1,b8,st++[.lst cs],hs5,⋯,⋯,rfl,by simp;omega,⋯,by rcases hm with rfl|⟨rfl,_⟩<;>omega,λc hc=>?_⟩;rcases aA hc with z|z
    ·exact cq c z
    ·rw[aC z];exact⟨cs,rfl,en,oq⟩
  ·rintro E ⟨s,b8,st,hs5,s0,s1,hr,jp,ng,ms,cq⟩;have:=Kv s1 hr;subst this;have gl:b8<90:=by rcases hm with rfl|⟨rfl,_⟩<;>omega
   obtain⟨w,ew,_⟩:=ix b8 ⋯ gl;simp![];refine xJ rfl ?_;simp![eo,ew,V8,hs5];refine⟨_,rfl,⋯,?_⟩;simp![];refine PlA.mk (r+1) (b8+1) (rs++[.tup [.int own,.bl (w % 2==0),.lst st]]) hs5 ?_ ?_ rfl ?_ ?_ ?_ ?_
   ·omega
   ·omega
   ·simp;omega
   ·omega
   ·rcases hm with rfl|⟨rfl,_⟩<;>omega
   intro j hj;rw[Xf,Yi]at hj
   by_cases hj2:j<rs.length
   ·obtain⟨z,z1,z2⟩:=hrs j hj2;exact⟨z,by rw[List.getElem?_append_left hj2];exact z1,z2⟩
   ·have:j=rs.length:=⋯
    subst this;refine⟨_,by simp;rfl,?_⟩;have hg:ai.getD rs.length 0=own:=by rw[Xn,show rs.length=r.toNat by omega,how];rfl
    rw[hg];exact⟨_,st,rfl,⋯,cq⟩
 ·rintro E ⟨r,b8,rs,hs5,r0,r1,hr,nt,ng,ms,hrs⟩;have:=Kv r1 hr;subst this;simp![z8 (o:=.no) (xs:=ss.map D.str) ⋯];exact⟨rs,rfl,ai,⋯,⋯,og,hk3,⟨⋯,λi hi=>hrs i ⋯⟩⟩
theorem kw8{G:D->Sd->Prop}(hG:∀d y,G d y->∃c:Nat,y.2=.str ⟨#[c]⟩):∀{ds:List D} {ys:List Sd},Each G ds ys->∃ps:List Str,ys.map (·.2)=ps.map D.str/\ps.length=ds.length/\∀p∈ps,p.length=1
 |[],[],_=>⟨[],rfl,rfl,λ_ h=>nomatch h⟩
 |d::ds,y::ys,r=>by
  obtain⟨i,e⟩:=hG d y r.1;obtain⟨ps,h1,h2,h3⟩:=kw8 hG r.2;exact⟨⟨#[i]⟩::ps,by simp[e,h1],by simp[h2],λp hp=>(aD hp).elim (λz=>z▸rfl) (h3 p)⟩
theorem kz8:∀{ps:List Str},(∀p∈ps,p.length=1)->(ps.map (·.length)).sum=ps.length
 |[],_=>rfl|p::ps,h=>by rw[List.map_cons,List.sum_cons,h p X7,kz8 λq hq=>h q (lc9 _ hq),Xm];omega
theorem qzy{y:Str}{ys:List Str}(h:y.length=1):1<=(Str.join "" (y::ys)).length:=by
 cases ys with
 |nil=>show 1<=y.length;omega
 |cons z ys=>
  show 1<=(y++""++Str.join "" (z::ys)).cps.size;rw[kkv,kkv];have:y.cps.size=1:=h;omega
theorem vvw{ps:List Str}(h:∀p∈ps,p.length=1)(h0:1<=ps.length)(h1:ps.length<=100):∃z:Str,qwn "" (.lst (ps.map D.str))=some (.str z)/\1<=z.cps.size/\z.cps.size<=100:=by
 have hz:("":Str).length=0:=rfl;have hs:=kz8 h;refine⟨Txt.join "" ps,?_,?_,?_⟩
 ·unfold qwn;dsimp only;rw[kks];dsimp only;rw[X8 (by rw[hs,hz];omega)]
 ·show 1<=(Txt.join "" ps).length;unfold Txt.join;rw[StrLaws.glued_eq_join];cases ps with|nil=>cases h0|cons y ys=>exact qzy (h y X7)
 ·show(Txt.join "" ps).length<=100;unfold Txt.join;rw[StrLaws.glued_eq_join];have:=StrLaws.join_length_le "" ps;rw[hs,hz]at this;omega
theorem wqt{o:Own}{z:Str}{lo hi:Option Int}(h:z.cps.size<=100):fSl (o,.str z) lo hi=some (.dp,.str (Txt.slice z lo hi)):=by
 have hl:(Txt.slice z lo hi).length<=z.length:=Txt.slice_le z lo hi;have h:z.length<=100:=h;show(if(Txt.slice z lo hi).length<=big then _ else none)=_;rw[X8 (by unfold big;omega)]
theorem qq7(c:Int):Oo m__law_signs [(.no,.int c)] (λy=>∃ss,y=(.rt,sL ss)/\1<=ss.length/\ss.length<=3) noX:=by
 have m0:=Y2 c (show(8:Int)≠0 by decide);have m1:=Xu c (show(0:Int)<8 by decide);unfold m__law_signs;refine kW ?_;simp![];refine(kqv c 9 ⋯ ⋯).use ?_;intro xs hx;have hxl:=hx.1;simp![↓vx9];have jp:fSl (Own.no,iL xs) none (some (1+c % 8))=some (.rt,iL (xs.take (1+c % 8).toNat)):=by
  rw[show iL xs=.lst (xs.map D.int)from rfl,V9 (o:=.no) ⋯,kwc ⋯ (by rw[X4];omega),<-List.map_take]
 have hsl':fSl (Own.rt,iL xs) none (some (1+c % 8))=some (.rt,iL (xs.take (1+c % 8).toNat)):=by
  rw[show iL xs=.lst (xs.map D.int)from rfl,V9 (o:=.rt) ⋯,kwc ⋯ (by rw[X4];omega),<-List.map_take]
 refine Vk [some (.dp,.str "abcdefghijklmnopqrstuvwxyz")] (λ_ y=>∃c:Nat,y.2=.str ⟨#[c]⟩) ?_;simp![jp,hsl'];refine⟨rfl,λd hd=>?_,λys hys=>?_⟩
 ·obtain⟨t,ht,rfl⟩:=aE hd;have t0:=Y2 t (show(26:Int)≠0 by decide);have t1:=Xu t (show(0:Int)<26 by decide);obtain⟨ch,hc⟩:=kvq "abcdefghijklmnopqrstuvwxyz" (t % 26) t0 t1;simp![hc];exact⟨⟨_,rfl⟩,ch,rfl⟩
 obtain⟨ps,h1,h2,h3⟩:=kw8 (λd y h=>h) hys;have bp:ps.length=(1+c % 8).toNat:=by rw[h2,X4,Ya];omega
 obtain⟨z,hz,z0,z1⟩:=vvw h3 ⋯ ⋯;rw[z4,h1];simp only[back,clr,at',List.map_cons,List.map_nil,List.set_cons_zero,List.set_cons_succ];have av:qk (.str z)=some (.int z.cps.size):=rfl;simp![hz,av,mod_i (a:=c / 8) (b:=(z.cps.size:Int)) ⋯];generalize gl:c / 8 % (z.cps.size:Int)=a;obtain⟨m,em,mm0,mm1⟩:∃m:Int,jz (.lst [.int 1,.int 2,.int 1,.int 2,.int 2,.int 1,.int 2,.int 3]) (.int (c / 64 % 8))=some (.int m)/\1<=m/\m<=3:=by
  have q0:=Y2 (c / 64) (show(8:Int)≠0 by decide);have q1:=Xu (c / 64) (show(0:Int)<8 by decide);generalize c / 64 % 8=t at q0 q1;have:t=0\/t=1\/t=2\/t=3\/t=4\/t=5\/t=6\/t=7:=⋯
  rcases this with rfl|rfl|rfl|rfl|rfl|rfl|rfl|rfl<;>exact⟨_,rfl,⋯,⋯⟩
 obtain⟨v,ev,⟨v0,_⟩,_⟩:=ixI xs _ hx.2 8 ⋯ ⋯;refine zK (λE jq=>∃(j:Int) (ss:List Str) (l6:Option Sd) (o1 o3:Own),E=[some (.no,.int c),some (o1,.str "abcdefghijklmnopqrstuvwxyz"),some (.rt,iL xs),some (o3,.str z),some (.dp,.int a),some (.rt,sL ss),l6]/\0<=j/\j<=m/\jq=jZ j m/\(ss.length:Int)=j) ?_ ?_ ?_
 ·simp![em];exact⟨0,[],_,_,_,rfl,⋯,⋯,rfl,rfl⟩
 ·rintro E d ds ⟨j,ss,l6,o1,o3,rfl,j0,j1,hr,hl⟩;obtain⟨hj,rfl,rfl⟩:=Kz j1 hr;have u0:=Y2 v (show(24:Int)≠0 by decide);have u1:=Xu v (show(0:Int)<24 by decide);obtain⟨ch,hc⟩:=kvq "abcdefghijklmnopqrstuvwxyz" (v % 24+j) ⋯ (show v % 24+j<26 by omega);have s1:=wqt (o:=.no) (z:=z) (lo:=none) (hi:=some a) ⋯;have s2:=wqt (o:=.no) (z:=z) (lo:=some (a+1)) (hi:=none) ⋯;have s1':=wqt (o:=o3) (z:=z) (lo:=none) (hi:=some a) ⋯;have s2':=wqt (o:=o3) (z:=z) (lo:=some (a+1)) (hi:=none) ⋯;have g1:(Txt.slice z none (some a)).cps.size<=100:=Y8 (Txt.slice_le z none (some a)) z1;have g2:(Txt.slice z (some (a+1)) none).cps.size<=100:=Y8 (Txt.slice_le z (some (a+1)) none) z1;generalize Txt.slice z none (some a)=w1 at s1 s1' g1;generalize Txt.slice z (some (a+1)) none=w2 at s2 s2' g2;have lg:((⟨#[ch]⟩:Str).cps.size)=1:=rfl;have a1:=qjf (o1:=.no) (o2:=.no) (a:=w1) (b:=⟨#[ch]⟩) (by rw[lg];omega);have a2:=qjf (o1:=.no) (o2:=.no) (a:=w1++⟨#[ch]⟩) (b:=w2) (by rw[kkv,lg];omega);have a1':=qjf (o1:=.no) (o2:=sub o1) (a:=w1) (b:=⟨#[ch]⟩) (by rw[lg];omega);simp![];refine xJ rfl ?_;simp![s1,s2,s1',s2',ev,hc,a1,a2,a1'];refine⟨_,rfl,by rw[X4];omega,?_⟩;rw[show ∀w:Str,ss.map D.str++[D.str w]=(ss++[w]).map D.str from λw=>by simp];exact⟨j+1,ss++[_],_,_,_,rfl,⋯,⋯,rfl,by simp;omega⟩
 ·rintro E ⟨j,ss,l6,o1,o3,rfl,j0,j1,hr,hl⟩;have:=Kv j1 hr;subst this;simp![];exact⟨ss,rfl,⋯,⋯⟩
theorem wk3{ai:List Int}{n:Nat}{rs:List D}{p:Int}(hP:Prs ai n rs)(h0:-1<=p)(h1:p<ai.length):∃k g,Kpr rs p k/\Gdr rs p g/\(p=-1->k=0)/\(0<=p->k=ai.getD p.toNat 0):=by
 by_cases h:p=-1
 ·exact⟨0,false,.inl ⟨h,rfl⟩,.inl ⟨h,rfl⟩,λ_=>rfl,λz=>by omega⟩
 ·obtain⟨r,er,gd,st,rfl,_⟩:=hP.2 p.toNat ⋯;exact⟨_,gd,.inr ⟨⋯,_,_,er⟩,.inr ⟨⋯,_,_,er⟩,λz=>absurd z h,λ_=>rfl⟩
theorem qxt{ai:List Int}{s:Sn}(h:xv ai s):-1<=rmO s/\rmO s<ai.length:=by
 cases s with|none=>exact⟨Int.le_refl _,by show(-1:Int)<_;omega⟩|some P=>obtain⟨a,b⟩:=P;obtain⟨h0,h1,_⟩:=h a b rfl;exact⟨by show -1<=a;omega,h1⟩
theorem qq6{ai:List Int}{p:Int}{ks:List Int}(h0:-1<=p)(h1:p<ai.length)(h2:0<=p->(ks.length:Int)=ai.getD p.toNat 0):xv ai (QQ p ks):=by
 intro room ks' e;unfold QQ at e
 split at e
 ·cases e
 ·injection e with e;injection e with e1 e2;subst e1 e2;exact⟨⋯,h1,h2 ⋯⟩
def wkl(S:Sn)(c:Int):D:=if c∈nms S then .int ((nms S).findIdx λw=>w==c:Nat)else .non
end B
namespace F
open Q PySem C
def wqz(ao:List Int):D->List Int
 |.int i=>if i∈ao then ao else ao++[i]|_=>ao
def Vw(ks:List D):List Int:=ks.foldl wqz []
def plc(ns:List Int):D->D
 |.int i=>.int (ns.findIdx λw=>w==i:Nat)|d=>d
def pr(ks:List D):List D:=ks.map (plc (Vw ks))
def vwl(K:List D)(s:D):List D×D:=match s with
 |.tup [room,.tup ks]=>(Qk K (.tup [room,.tup (pr ks)]),.tup [.int ((Qk K (.tup [room,.tup (pr ks)])).idxOf (.tup [room,.tup (pr ks)]):Nat),iT (Vw ks)])|_=>(K,.non)
end F
namespace F
open Q PySem C
def obD(rs:List D)(s:D)(z:Str)(p:Int):Option D:=match qzp rs (z,p) s with
 |[]=>some .non|[d]=>some d|_=>none
def vkt(rs:List D)(s:D)(z:Str):List D->List D->Option (List D×List D)
 |[],K=>some (K,[])
 |.int p::ps,K=>match obD rs s z p with
  |none=>none|some d=>(vkt rs s z ps (vwl K d).1).map λr=>(r.1,(vwl K d).2::r.2)
 |_::_,_=>none
end F
namespace F
open Q PySem C
def wq4(rs:List D)(s:D)(z:Str)(K:List D):Option (List D×List D):=vkt rs s z (jZ 0 ((Vw (YV s)).length+1)) K
def vjy(rs:List D)(s:D):List Str->List D->Option (List D×List D)
 |[],K=>some (K,[])
 |z::zs,K=>match wq4 rs s z K with
  |none=>none|some r=>(vjy rs s zs r.1).map λq=>(q.1,.lst r.2::q.2)
def wkn(rs:List D)(s:D):D:=match s with
 |.tup [.int room,_]=>(match rs[room.toNat]? with
  |some (.tup [_,g,_])=>g
  |_=>.non)
 |_=>.non
def vz4(rs:List D)(s:D)(st:List D):D:=.tup [.int (Vw (YV s)).length,wkn rs s,.lst st]
def vxv(ss:List Str)(rs K ax:List D):Option (List D×List D):=(vjy rs (K.getD ax.length .non) ss K).map λr=>(r.1,ax++[vz4 rs (K.getD ax.length .non) r.2])
inductive Run (ss:List Str)(rs:List D):List D->List D->Option (List D×List D)->Prop
 |stop {K ax:List D}:¬ax.length<K.length->Run ss rs K ax (some (K,ax))
 |fail {K ax:List D}:ax.length<K.length->vxv ss rs K ax=none->Run ss rs K ax none
 |go {K ax K' ku:List D} {r:Option (List D×List D)}:ax.length<K.length->vxv ss rs K ax=some (K',ku)->Run ss rs K' ku r->Run ss rs K ax r
end F
namespace F
open Q PySem C
def ltr:List Nat:=("abcdefghijklmnopqrstuvwxyz":Str).cps.toList
end F
namespace F
open Q PySem C
def FA(g:D)(fs:List D):Prop:=(∀(i j:Nat) (f:D),f≠.non->fs[i]?=some f->fs[j]?=some f->i=j)/\(D.str "new"∈fs->g≠.str "any"/\g∉fs)
end F
namespace F
open Q PySem C
def Cpt(ap:Bool)(g g':D):Prop:=(g=.str "fresh"/\∃i,g'=.int i)\/(g'=.str "fresh"/\∃i,g=.int i)\/(ap=true/\∃i j:Int,g=.int i/\g'=.int j/\i≠j)
def wz8(ap:Bool)(st:List D):Prop:=(∀(i j:Nat) (z:Str) (g g' t t' f f':D),i<j->st[i]?=some (.tup [.str z,g,t,f])->st[j]?=some (.tup [.str z,g',t',f'])->Cpt ap g g')/\(ap=true->∀(z:Str) (g t:D) (fs:List D),D.tup [.str z,g,t,.tup fs]∈st->FA g fs)
end F
namespace F
open Q PySem C
def Asks(ap:Bool)(fe:Int)(as:List D):Prop:=as.Pairwise (Cpt ap)/\(∀a∈as,Gd fe a)/\as.length<=4
end F
namespace F
open Q PySem C
noncomputable def m__law_fills:Fn:=fn 9
  (j4 (j8 5 (cF2 jJ (vE (kQ .rt [(cC (.str "new")),(cC .non)])) (vE (Qv (vV 2)))))
  (j4 (j8 6 (kQ .rt []))
  (j4 (v3 (itS (cSl (vV 0) none (some (vV 3)))) (.n 7) (j4 (j8 8 (cH (j6 (vV 5) (vE (cF2 (pu2 jQ) (vV 7) (vE (cF1 (pu1 qk) (vV 5))))))))
  (j4 (sIf (tAnd (tEQ (vV 4)) (tE (cF2 (f2First fNotNon) (vV 8) (vE (cC .non))))) (sIf (tOr (tE (cF2 (pu2 ww) (vV 8) (vV 6))) (tOr (tAnd (tE (cF2 (pu2 fEq) (vV 8) (vE (cC (.str "new"))))) (tOr (tE (cF2 (pu2 fEq) (vV 1) (vE (cC (.str "any"))))) (tE (cF2 (pu2 ww) (vV 1) (vV 6))))) (tAnd (tE (cF2 (pu2 fEq) (vV 8) (vV 1))) (tE (cF2 (pu2 ww) (vE (cC (.str "new"))) (vV 6)))))) (j8 8 (cC .non)) v7) v7)
  (qw qQ 6 (cV 8)))))
  (k7 (cF1 Jj (vV 6))))))
def FAb(ap:Bool)(g:D)(fs:List D):Prop:=ap=true->FA g fs
inductive FJ1 (zs:List Int)(g:D)(fe there:Int)(ap:Bool)(LL:List D):En->List D->Prop
 |mk (fs:List D) (ws:List Int) {l7:Option Sd} {l8:Option Sd} {jq:List D} (h0:jq=ws.map D.int) (h1:(fs.length+ws.length:Int)=there) (h2:(∀f∈fs,Fd fe f)) (h3:FAb ap g fs):FJ1 zs g fe there ap LL [some (.no,iL zs),some (.no,g),some (.no,.int fe),some (.no,.int there),some (.no,.bl ap),some (.rt,.lst LL),some (.rt,.lst fs),l7,l8] jq
def Ltr(b st:Int)(b8:Nat)(i:Nat)(z:Str):Prop:=z.cps.toList[b8]?=some (ltr.getD ((b+i*(st+1)) % 26).toNat 0)
inductive FJ2 (x n sz am st b:Int):En->List D->Prop
 |mk (k:Int) (ss:List Str) {l7:Option Sd} {l8:Option Sd} {l9:Option Sd} {kr:Option Sd} {jq:List D} (h0:0<=k) (h1:k<=n) (h2:jq=jZ k n) (h3:(ss.length:Int)=k) (h4:∀i:Nat,i<ss.length->Ltr b st am.toNat i (ss.getD i "")):FJ2 x n sz am st b [some (.no,.int x),some (.no,.int n),some (.dp,.str "abcdefghijklmnopqrstuvwxyz"),some (.no,.int sz),some (.dp,.int am),some (.no,.int st),some (.rt,sL ss),l7,l8,l9,kr] jq
inductive FJ3 (x n sz am st b k:Int)(ss:List Str):En->List D->Prop
 |mk (j:Int) (z:Str) {l9:Option Sd} {kr:Option Sd} {o8:Own} {jq:List D} (h0:0<=j) (h1:j<=sz+1) (h2:jq=jZ j (sz+1)) (h3:(z.cps.size:Int)=j) (h4:(am<j->Ltr b st am.toNat ss.length z)):FJ3 x n sz am st b k ss [some (.no,.int x),some (.no,.int n),some (.dp,.str "abcdefghijklmnopqrstuvwxyz"),some (.no,.int sz),some (.dp,.int am),some (.no,.int st),some (.rt,sL ss),some (.no,.int k),some (o8,.str z),l9,kr] jq
end F
namespace F
open Q PySem C
inductive SJ1 (ns:List Int)(a:Int)(ss:List Str)(hs ks:List Int)(v0:Int)(ap:Bool):En->List D->Prop
 |mk (r:Nat) (rs:List D) {l7 l8 l9 kr lu ko qu ql:Option Sd} {jq:List D} (h1:jq=jZ r (1+v0)) (h2:(r:Int)<=1+v0) (h3:rs.length=r) (h4:∀i:Nat,i<r->∃(gd:Bool) (st:List D),rs[i]?=some (.tup [.int (ks.getD i 0),.bl gd,.lst st])/\(∀s∈st,St (ks.getD i 0) s/\Sx ss ks s)/\st.length<=12/\wz8 ap st):SJ1 ns a ss hs ks v0 ap [some (.no,iL ns),some (.no,.int a),some (.no,sL ss),some (.rt,iL hs),some (.dp,.int (1+v0)),some (.rt,iL ks),some (.rt,.lst rs),l7,l8,l9,kr,lu,ko,qu,ql] jq
def Sgn(ss:List Str)(j:Nat)(st:List D):Prop:=∀s∈st,∃i,i<j/\∃(hi:i<ss.length) (g t f:D),s=.tup [.str ss[i],g,t,f]
inductive SJ2 (ns:List Int)(a:Int)(ss:List Str)(hs ks:List Int)(v0:Int)(ap:Bool)(rs:List D)(r:Nat)(fe:Int):En->List D->Prop
 |mk (j:Nat) (st:List D) {l9 kr lu ko qu ql:Option Sd} {jq:List D} (h1:jq=jZ j ss.length) (h2:j<=ss.length) (h3:∀s∈st,St fe s/\Sx ss ks s) (h4:st.length<=4*j) (h5:wz8 ap st) (h6:Sgn ss j st):SJ2 ns a ss hs ks v0 ap rs r fe [some (.no,iL ns),some (.no,.int a),some (.no,sL ss),some (.rt,iL hs),some (.dp,.int (1+v0)),some (.rt,iL ks),some (.rt,.lst rs),some (.no,.int r),some (.rt,.lst st),l9,kr,lu,ko,qu,ql] jq
def Ads(ss:List Str)(j:Nat)(hj:j<ss.length)(ap:Bool)(as add:List D):Prop:=∀(i:Nat) (d:D),add[i]?=some d->∃(g t:D) (fs:List D),as[i]?=some g/\d=.tup [.str ss[j],g,t,.tup fs]/\(ap=true->FA g fs)
inductive SJ3 (ns:List Int)(a:Int)(ss:List Str)(hs ks:List Int)(v0:Int)(ap:Bool)(rs:List D)(r:Nat)(fe:Int)(st:List D)(j:Nat)(hj:j<ss.length)(ys:List Int):En->List D->Prop
 |mk (k:Nat) (as add c8:List D) {lu ko qu ql:Option Sd} {jq:List D} (h0:c8=st++add) (h1:Asks ap fe as) (h2:k<=as.length) (h3:jq=xV k (as.drop k)) (h4:add.length=k) (h5:∀s∈add,St fe s/\Sx ss ks s) (h6:Ads ss j hj ap as add):SJ3 ns a ss hs ks v0 ap rs r fe st j hj ys [some (.no,iL ns),some (.no,.int a),some (.no,sL ss),some (.rt,iL hs),some (.dp,.int (1+v0)),some (.rt,iL ks),some (.rt,.lst rs),some (.no,.int r),some (.rt,.lst c8),some (.no,.int j),some (.no,iL ys),lu,ko,qu,ql] jq
end F
namespace F
open Q PySem C
def wq5(K:List D)(d:D):D:=match d with
 |.tup [room,.tup ks]=>.tup [.int (K.idxOf (.tup [room,.tup (pr ks)]):Nat),iT (Vw ks)]|_=>.non
def wwv(rs:List D)(s:D)(z:Str)(L:List D)(d:D):D:=match d with
 |.int p=>(match obD rs s z p with
  |some d=>wq5 L d
  |none=>.non)
 |_=>.non
def wxc(s:D):List D:=jZ 0 ((Vw (YV s)).length+1)
def vxu(ss:List Str)(rs L:List D)(s:D):List D:=ss.map λz=>.lst ((wxc s).map (wwv rs s z L))
def wx4(L:List D)(e:D):Prop:=∀room ks,e=.tup [room,.tup ks]->D.tup [room,.tup (pr ks)]∈L
def Clo(zs:List Str)(rs L:List D)(s:D):Prop:=∀z∈zs,∀p:Int,D.int p∈wxc s->∃e,obD rs s z p=some e/\wx4 L e
def Nrm(t:D):Prop:=∃room ks,t=.tup [room,.tup (pr ks)]
def Inv(ss:List Str)(rs K ax:List D):Prop:=ax.length<=K.length/\(∀i,i<ax.length->Clo ss rs K (K.getD i .non)/\∀L,K <+: L->ax[i]?=some (vz4 rs (K.getD i .non) (vxu ss rs L (K.getD i .non))))/\∀t∈K,Nrm t
end F
namespace G
open Q PySem C F
def m_is_small:Fn:=fn 1
  (k7 (K7 (vE (cF2 (pu2 fLe) (vE (cF1 (pu1 qk) (j6 (vV 0) (C9 1)))) (C9 12))) (cF1 (pu1 wkv) (vE (cLC .rt 1 [] (itS (cH (j6 (vV 0) (C9 1)))) (.n 0) tYes (cF2 (pu2 fLe) (j6 (vV 0) (C9 0)) (C9 3)))))))
def fl(own:Int):D->D
 |.int f=>if f=own then .str "new" else .int f|d=>d
end G
namespace G
open Q PySem C F
def nN(t:D):Nat:=(Vw (YV t)).length
end G
namespace J
open Q PySem C B F
def m_is_small:Fn:=fn 1
  (k7 (K7 (vE (cF2 (pu2 fLe) (vE (cF1 (pu1 qk) (j6 (vV 0) (C9 1)))) (C9 12))) (cF1 (pu1 wkv) (vE (cLC .rt 1 [] (itS (cH (j6 (vV 0) (C9 1)))) (.n 0) tYes (cF2 (pu2 fLe) (j6 (vV 0) (C9 0)) (C9 3)))))))
def wkh:D->Int
 |.int i=>i|_=>0
def Zk:D->Sn
 |.tup [.int r,.tup ks]=>some (r,ks.map wkh)|_=>none
def rdF(ss:List Str)(rs:List D)(S:Sn)(z:Str)(c:Int):Sn:=match S with
 |none=>none
 |some (room,ks)=>(match rs[room.toNat]? with
  |some (.tup [_,_,.lst st])=>Zk (QY ss st ks z c)
  |_=>none)
theorem vxs{ai:List Int}{d:D}(h:Ok2 ai d):stn (Zk d)=d/\xv ai (Zk d):=by
 rcases h with rfl|⟨room,ks,rfl,r0,r1,hl⟩
 ·exact⟨rfl,λ_ _ e=>nomatch e⟩
 ·have e:Zk (.tup [.int room,iT ks])=some (room,ks):=by
   show some (room,(ks.map D.int).map wkh)=_;rw[Xs]
   congr 2
   exact List.map_id ks
  rw[e];refine⟨rfl,λa b e=>?_⟩;cases e;exact⟨r0,r1,hl⟩
theorem wjs{ai:List Int}{S:Sn}(h:xv ai S):Ok2 ai (stn S):=by
 cases S with|none=>exact .inl rfl|some x=>obtain⟨a,b,c⟩:=h x.1 x.2 rfl;exact .inr ⟨x.1,x.2,rfl,a,b,c⟩
theorem kzi{ai:List Int}{ss:List Str}{rs:List D}{S:Sn}(z:Str)(c:Int)(hP:Prs ai ss.length rs)(hk:∀p∈ai,0<=p/\p<=3)(hS:xv ai S):Rd ai ss rs (stn S) (z,c) (stn (rdF ss rs S z c))/\xv ai (rdF ss rs S z c):=by
 obtain⟨s',h1,h2,_⟩:=qz1 (z,c) hP hk (wjs hS);obtain⟨g1,g2⟩:=vxs h2;have e:rdF ss rs S z c=Zk s':=by
  rcases id h1 with⟨h3,rfl⟩|⟨room,ks,st,kp,gd,h3,_,hr,_,_,h4⟩
  ·cases S with| none=>rfl| some x=>cases h3
  ·cases S with
   | none=>cases h3
   | some x=>
    have h3:(D.tup [.int x.1,iT x.2])=.tup [.int room,iT ks]:=h3;injection h3 with h3;injection h3 with e1 h3;injection h3 with e2 _;injection e1 with e1;injection e2 with e2;have e2:x.2=ks:=(List.map_inj_right λa b h=>by injection h).mp e2;show(match rs[x.1.toNat]? with
     |some (.tup [_,_,.lst st])=>Zk (QY ss st x.2 z c)
     |_=>none)=_
    rw[e1,hr,e2,h4]
 rw[e,g1];exact⟨h1,g2⟩
def kpF(rs:List D)(p:Int):Int:=if p=-1 then 0 else(match rs[p.toNat]? with
 |some (.tup [.int k,_,_])=>k
 |_=>0)
def gdF(rs:List D)(p:Int):Bool:=if p=-1 then false else(match rs[p.toNat]? with
 |some (.tup [_,.bl g,_])=>g
 |_=>false)
theorem wk4{rs:List D}{p k:Int}(h:Kpr rs p k):kpF rs p=k:=by
 rcases h with⟨rfl,rfl⟩|⟨h0,g,st,e⟩
 ·rfl
 ·unfold kpF;rw[Xb ⋯,e]
theorem wko{rs:List D}{p:Int}{g:Bool}(h:Gdr rs p g):gdF rs p=g:=by
 rcases h with⟨rfl,rfl⟩|⟨h0,k,st,e⟩
 ·rfl
 ·unfold gdF;rw[Xb ⋯,e]
theorem Wx{ai:List Int}{n:Nat}{rs:List D}{p:Int}(hP:Prs ai n rs)(hk:∀p∈ai,0<=p/\p<=3)(h0:-1<=p)(h1:p<ai.length):Kpr rs p (kpF rs p)/\Gdr rs p (gdF rs p)/\0<=kpF rs p/\kpF rs p<=3/\(0<=p->kpF rs p=ai.getD p.toNat 0):=by
 obtain⟨k,g,a,b,c,d⟩:=wk3 hP h0 h1;rw[wk4 a,wko b];refine⟨a,b,?_⟩
 by_cases hp:p=-1
 ·rw[c hp];exact⟨⋯,⋯,λh=>by omega⟩
 ·have hd:=d ⋯;have hm:ai.getD p.toNat 0∈ai:=by rw[Xn,X3 ⋯];exact Yc _
  rw[hd];exact⟨(hk _ hm).1,(hk _ hm).2,λ_=>rfl⟩
def vwm(K:List D)(x:Sn×Sn):List D×D:=if rmO x.1=-1/\rmO x.2=-1 then(K,.non)else(Qk K (V2 x.1 x.2),.tup [.int ((Qk K (V2 x.1 x.2)).idxOf (V2 x.1 x.2):Nat),iT (z3 (nms x.1) (nms x.2))])
theorem kzx:∀l:List (Int×Int),keyDs 4 (prs l)=true
 |[]=>rfl
 |p::l=>by
  show(jV 4 (.tup [.int p.1,.int p.2])&&keyDs 4 (prs l))=true;rw[kzx l];rfl
theorem wk7(r r':Int)(l:List (Int×Int)):v4 (.tup [.int r,.int r',.tup (prs l)])=true:=by
 have:keyDs 5 [D.int r,.int r',.tup (prs l)]=true:=by
  show(jV 5 (.int r)&&(jV 5 (.int r')&&(keyDs 4 (prs l)&&true)))=true;rw[kzx];rfl
 show(keyDs 5 [D.int r,.int r',.tup (prs l)]&&true)=true;rw[this];rfl
theorem Jw{ai:List Int}{S:Sn}(hk:∀p∈ai,0<=p/\p<=3)(h:xv ai S):(nms S).length<=3:=by
 cases S with
 |none=>exact Yg _
 |some x=>
  obtain⟨a,b,c⟩:=h x.1 x.2 rfl;have hm:ai.getD x.1.toNat 0∈ai:=by rw[Xn,X3 ⋯];exact Yc _
  have:=(hk _ hm).2;show x.2.length<=3;omega
end J
namespace J
open Q PySem C B F
def kwd:List (Sn×Sn)->List D->List D×List D
 |[],K=>(K,[])|x::r,K=>((kwd r (vwm K x).1).1,(vwm K x).2::(kwd r (vwm K x).1).2)
def lat(x:Sn×Sn):D:=.tup [stn x.1,stn x.2]
def qvz(ss:List Str)(rs ay:List D)(S T:Sn)(own:Nat)(z:Str):List (Sn×Sn):=(List.range (own+1)).map λ(c:Nat)=>(rdF ss rs S z c,rdF ss ay T z c)
def kzc(ss:List Str)(rs ay:List D)(S T:Sn)(own:Nat):List Str->List D->List D×List D
 |[],K=>(K,[])|z::zs,K=>((kzc ss rs ay S T own zs (kwd (qvz ss rs ay S T own z) K).1).1,.lst (kwd (qvz ss rs ay S T own z) K).2::(kzc ss rs ay S T own zs (kwd (qvz ss rs ay S T own z) K).1).2)
def byW(w:Str)(g g':Bool):Bool:=if w == "both" then g&&g' else if w == "either" then g||g' else if w == "first" then g && !g' else g != g'
section
variable {ai aq:List Int}{ss:List Str}{rs ay:List D}
def pS(rs:List D):D->Sn
 |.tup [.int p,_,_]=>wz3 p (kpF rs p)|_=>none
def W8:List D->List (Int×Int)
 |[]=>[]|.tup [.int i,.int j]::r=>(i,j)::W8 r|_::r=>W8 r
theorem vz0:∀l:List (Int×Int),W8 (prs l)=l
 |[]=>rfl
 |p::l=>by
  show(p.1,p.2)::W8 (prs l)=_;rw[vz0 l]
def pT(rs ay:List D):D->Sn
 |.tup [.int p,.int q,.tup sh]=>wz2 q (kpF rs p) (kpF ay q) (W8 sh)|_=>none
def pO(rs ay:List D)(P:D):Nat:=(z3 (nms (pS rs P)) (nms (pT rs ay P))).length
def gS(rs:List D):D->Bool
 |.tup [.int p,_,_]=>gdF rs p|_=>false
def gT(rs:List D):D->Bool
 |.tup [_,.int q,_]=>gdF rs q|_=>false
def wve(w:Str)(ss:List Str)(rs ay:List D)(P:D)(st:List D):D:=.tup [.int (pO rs ay P),.bl (byW w (gS rs P) (gT ay P)),.lst st]
def Pok(ai aq:List Int)(P:D):Prop:=∃(p q:Int) (sh:List (Int×Int)),P=.tup [.int p,.int q,.tup (prs sh)]/\-1<=p/\p<ai.length/\-1<=q/\q<aq.length/\sh.length<=3
theorem kvy{a b:List Int}(ha:a.length<=3)(hb:b.length<=3):(z3 a b).length<=6:=by
 unfold z3;rw[Xf];have:=List.length_filter_le (λn=>!(a.any λw=>w==n)) b;omega
theorem vvc{P:D}(hP:Prs ai ss.length rs)(hk:∀p∈ai,0<=p/\p<=3)(h:Pok ai aq P):xv ai (pS rs P):=by
 obtain⟨p,q,sh,rfl,h0,h1,_⟩:=h;obtain⟨_,_,c,_,e⟩:=Wx hP hk h0 h1;refine qq6 h0 h1 λhp=>?_
 rw[<-e hp];show((List.map _ (List.range _)).length:Int)=_;rw[X4,Yq];omega
theorem vvb{P:D}(ei:Prs aq ss.length ay)(cy:∀p∈aq,0<=p/\p<=3)(h:Pok ai aq P):xv aq (pT rs ay P):=by
 obtain⟨p,q,sh,rfl,_,_,h0,h1,_⟩:=h;obtain⟨_,_,c,_,e⟩:=Wx ei cy h0 h1;refine qq6 h0 h1 λhp=>?_
 rw[<-e hp,kqe];omega
theorem qj8{P:D}(hP:Prs ai ss.length rs)(hk:∀p∈ai,0<=p/\p<=3)(ei:Prs aq ss.length ay)(cy:∀p∈aq,0<=p/\p<=3)(h:Pok ai aq P):
  Oo m_first_standings [(.no,j9 ss rs),(.no,j9 ss ay),(.no,P)] (λy=>y=(.no,lat (pS rs P,pT rs ay P))) noX:=by
 obtain⟨p,q,sh,rfl,h0,h1,h2,h3,h4⟩:=h;obtain⟨a,_,c,d,_⟩:=Wx hP hk h0 h1;obtain⟨a',_,c',d',_⟩:=Wx ei cy h2 h3;refine(vj5 a a' c ⋯ c' ⋯ ⋯).mono λy hy=>?_
 rw[hy];show _=(Own.no,D.tup [stn (wz3 p (kpF rs p)),stn (wz2 q (kpF rs p) (kpF ay q) (W8 (prs sh)))]);rw[vz0];rfl
theorem ww4{P:D}(hP:Prs ai ss.length rs)(hk:∀p∈ai,0<=p/\p<=3)(ei:Prs aq ss.length ay)(cy:∀p∈aq,0<=p/\p<=3)(h:Pok ai aq P):pO rs ay P<=6:=kvy (Jw hk (vvc hP hk h)) (Jw cy (vvb ei cy h))
theorem kzd(t:List Int):∀(k:Nat) (o:List Int),(vJ t k o).length<=o.length
 |_,[]=>X9 _
 |k,n::o=>by
  have:=kzd t (k+1) o;unfold vJ
  split<;>simp<;>omega
theorem qzk{a b:Sn}(ha:xv ai a)(hb:xv aq b)(hk:∀p∈ai,0<=p/\p<=3):Pok ai aq (V2 a b):=by
 obtain⟨a0,a1⟩:=qxt ha;obtain⟨b0,b1⟩:=qxt hb;exact⟨_,_,_,rfl,a0,a1,b0,b1,Y8 (kzd _ _ _) (Jw hk ha)⟩
noncomputable def vxw(w:Str)(ss:List Str)(rs ay K ax:List D):List D×List D:=
 ((kzc ss rs ay (pS rs (K.getD ax.length .non)) (pT rs ay (K.getD ax.length .non)) (pO rs ay (K.getD ax.length .non)) ss K).1,
  ax++[wve w ss rs ay (K.getD ax.length .non) (kzc ss rs ay (pS rs (K.getD ax.length .non)) (pT rs ay (K.getD ax.length .non)) (pO rs ay (K.getD ax.length .non)) ss K).2])
inductive RunJ (w:Str)(ss:List Str)(rs ay:List D):List D->List D->Option (List D×List D)->Prop
 |stop {K ax:List D}:¬ax.length<K.length->RunJ w ss rs ay K ax (some (K,ax))
 |great {K ax:List D}:ax.length<K.length->40<K.length->RunJ w ss rs ay K ax none
 |go {K ax:List D} {r:Option (List D×List D)}:ax.length<K.length->K.length<=40->RunJ w ss rs ay (vxw w ss rs ay K ax).1 (vxw w ss rs ay K ax).2 r->RunJ w ss rs ay K ax r
abbrev P0:D:=.tup [.int 0,.int 0,.tup []]
def wka:D->Int
 |.tup [.int k,_,_]=>k|_=>0
def vX(rs:List D):Bool:=decide (rs.length<=12)&&rs.all λr=>decide (wka r<=3)
theorem qx7(g:D->Bool):∀ds:List D,bls (ds.map λd=>D.bl (g d))=some (ds.map g)
 |[]=>rfl
 |d::ds=>by
  rw[List.map_cons,bls,qx7 g ds];rfl
theorem wqc(g:D->Bool)(ds:List D):wkv (.lst (ds.map λd=>D.bl (g d)))=some (.bl (ds.all g)):=by
 show(bls (ds.map λd=>D.bl (g d))).map _=_;rw[qx7];simp[List.all_map,Function.comp_def]
theorem small_is{d0:D}{rs:List D}(h:∀r∈rs,∃(own:Int) (a b:D),r=.tup [.int own,a,b]):Oo m_is_small [(.no,.tup [d0,.lst rs])] (λy=>∃o':Own,y=(o',.bl (vX rs))/\True) noX:=by
 have q1:∀a b:D,jz (.tup [a,b]) (.int 1)=some b:=λ_ _=>rfl
 have t0:∀a b c:D,jz (.tup [a,b,c]) (.int 0)=some a:=λ_ _ _=>rfl
 unfold m_is_small;refine kW ?_
 by_cases hl:rs.length<=12
 ·have e:fLe (.int rs.length) (.int 12)=some (.bl true):=by rw[le_ii,Xl ⋯]
  simp![q1,e];refine Vk [] (λd y=>y.2=.bl (decide (wka d<=3))) ?_;simp![q1];refine⟨λd hd=>?_,λys hy=>?_⟩
  ·obtain⟨own,a,b,rfl⟩:=h d hd;simp![t0];exact⟨⟨_,rfl⟩,rfl⟩
  ·rw[z4,W6 (h:=λd=>.bl (decide (wka d<=3))) (λ_ _ h=>h) hy];simp![wqc (λd=>decide (wka d<=3))];exact⟨_,by unfold vX;rw[Xl hl];rfl,trivial⟩
 ·have e:fLe (.int rs.length) (.int 12)=some (.bl false):=by rw[le_ii,Xi ⋯]
  simp![q1,e];exact⟨_,by unfold vX;rw[Xi hl];rfl,trivial⟩
theorem kzl{n:Nat}(hP:Prs ai n rs):∀r∈rs,∃(own:Int) (a b:D),r=.tup [.int own,a,b]:=λr hr=>by
 obtain⟨i,hi,e⟩:=List.getElem_of_mem hr;obtain⟨r',e',gd,st,h',_⟩:=hP.2 i (by rw[<-hP.1];exact hi);rw[X3 hi,e]at e';cases oq9 e';exact⟨_,_,_,h'⟩
theorem kvb{n:Nat}(hP:Prs ai n rs)(hk:∀p∈ai,0<=p/\p<=3)(h12:ai.length<=12):vX rs=true:=by
 unfold vX;rw[Xl (by rw[hP.1];exact h12),Bool.true_and,Z7];intro r hr;obtain⟨i,hi,e⟩:=List.getElem_of_mem hr;have lf:i<ai.length:=by rw[<-hP.1];exact hi
 obtain⟨r',e',gd,st,h',_⟩:=hP.2 i lf;rw[X3 hi,e]at e';cases oq9 e';rw[h'];have hm:ai.getD i 0∈ai:=by rw[Xn,X3 lf];exact Yc _
 exact Xl (hk _ hm).2
end
end J
namespace Kp
open Q PySem C
abbrev Is(f:Fn)(xs:List Sd)(b:Bool):Prop:=Oo f xs (λy=>∃o':Own,y=(o',.bl b)/\True) noX
def wz5(d:D)(n:Int):Bool:=match d with
 |.int i=>decide (0<=i)&&decide (i<n)|_=>false
def JQ:D->Bool
 |.lst _=>true|_=>false
theorem bk(E:En):back [] [] (clr [] E)=E:=rfl
def ivD:D->Int
 |.int i=>i|_=>0
def wkt(e qg:Int)(d:D):Bool:=match d with
 |.tup fs=>decide ((fs.length:Int)=qg)&&(fs.all (λd=>wz5 d e)&&decide (((ddI (fs.map ivD)).length:Int)=qg))|_=>false
def vwl(ks:List Int)(e:Int)(d:D):Bool:=isNon d||match d with
 |.tup [a,b]=>wz5 a ks.length&&wkt e (ks.getD (ivD a).toNat 0) b|_=>false
def rk:D->D
 |.tup (a::_)=>a|_=>.non
end Kp
namespace Nk45
open PySem Q
def m_is_small : Fn:= G.m_is_small
def m_read_by : Fn:= C.m_read_by
def m_is_good_in : Fn:= B.m_is_good_in
def m_agrees : Fn:= B.m_agrees
def m_keepers_in : Fn:= B.m_keepers_in
def m_standing_in : Fn:= B.m_standing_in
def m_first_standings : Fn:= B.m_first_standings
def m_names_of : Fn:= B.m_names_of
def m_held_by_both : Fn:= B.m_held_by_both
def m_room_of : Fn:= B.m_room_of
def m_pair_of : Fn:= B.m_pair_of
def m_read_by_both : Fn:= B.m_read_by_both
noncomputable def Zv:Fn:=fn 8
  (j4 (j8 3 (jK m_first_standings [(cV 0),(cV 1),(cV 2)]))
  (j4 (j8 4 (Qv (vE (cF2 jJ (vE (cF1 (pu1 qk) (vE (jK m_held_by_both [(cV 3)])))) (C9 1)))))
  (j4 (j8 5 (kQ .rt []))
  (j4 (v3 (itS (cF1 KY (vE (cF2 jJ (j6 (vV 0) (C9 0)) (j6 (vV 1) (C9 0)))))) (.n 6) (v3 (itS (cV 4)) (.n 7) (qw qQ 5 (kX .no [(cV 6),(cV 7),(jK m_pair_of [(jK m_read_by_both [(cV 0),(cV 1),(cV 3),(cV 6),(cV 7)])])]))))
  (k7 (cMv 5))))))
def ZY:Fn:=fn 2
  (j4 (j8 1 (cC (.int 0)))
  (j4 (sWhile (tE (cF2 (pu2 ww) (vV 1) (vV 0))) (XW (λa b=>a+b) 1 (cC (.int 1))))
  (k7 (cMv 1))))
noncomputable def ZX:Fn:=fn 10
  (j4 (j8 4 (jK m_first_standings [(cV 0),(cV 1),(cV 2)]))
  (j4 (j8 5 (kQ .rt []))
  (j4 (v3 (itS (cV 3)) (.t [6,7]) (j4 (j8 8 (jK m_held_by_both [(cV 4)]))
  (j4 (j8 9 (cIf (tE (cF2 (pu2 fLt) (vV 7) (vE (cF1 (pu1 qk) (vV 8))))) (cH (j6 (vV 8) (vV 7))) (jK ZY [(cV 8)])))
  (j4 (qw qQ 5 (kX .no [(cV 6),(cV 9)]))
  (j8 4 (jK m_read_by_both [(cV 0),(cV 1),(cV 4),(cV 6),(cV 9)]))))))
  (k7 (cMv 5)))))
def jv6:Fn:=fn 4
  (j4 (j8 2 (kQ .rt []))
  (j4 (j8 3 (cH (vxe (vV 0) (vV 1))))
  (j4 (sWhile (tE (cF2 (f2First fNotNon) (vV 3) (vE (cC .non)))) (j4 (qw qQ 2 (kX .no [(cH (j6 (vV 3) (C9 1))),(cH (j6 (vV 3) (C9 2)))]))
  (j8 3 (cH (vxe (vV 0) (j6 (vV 3) (C9 0)))))))
  (k7 (cF1 WQ (vV 2))))))
noncomputable def jv7:Fn:=fn 10
  (j4 (j8 3 (vjj (cV 2) (cC .non)))
  (j4 (j8 4 (kQ .rt [(cV 2)]))
  (j4 (j8 5 (cC (.int 0)))
  (j4 (sWhile (tE (cF2 (pu2 fLt) (vV 5) (vE (cF1 (pu1 qk) (vV 4))))) (j4 (j8 6 (cH (j6 (vV 4) (vV 5))))
  (j4 (sIf (tNot (tEQ (vE (jK m_agrees [(cV 0),(cV 1),(cV 6)])))) (k7 (kX .no [(cC (.str "apart")),(jK ZX [(cV 0),(cV 1),(cV 2),(jK jv6 [(cV 3),(cV 6)])])])) v7)
  (j4 (v3 (itS (jK Zv [(cV 0),(cV 1),(cV 6)])) (.t [7,8,9]) (sIf (tE (cF2 (pu2 W0) (vV 9) (vV 3))) (j4 (qxx 3 (vV 9) (kX .no [(cV 6),(cV 7),(cV 8)]))
  (qw qQ 4 (cV 9))) v7))
  (XW (λa b=>a+b) 5 (cC (.int 1)))))))
  (k7 (kX .no [(cC (.str "alike")),(cV 4)]))))))
noncomputable def Jq:Fn:=fn 3
  (j4 (sIf (tE (cF2 (pu2 fNe) (j6 (vV 0) (C9 0)) (j6 (vV 1) (C9 0)))) (sRz "NoFit") v7)
  (j4 (sIf (tOr (tNot (tEQ (vE (jK m_is_small [(cV 0)])))) (tNot (tEQ (vE (jK m_is_small [(cV 1)]))))) (sRz "TooGreat") v7)
  (k7 (jK jv7 [(cV 0),(cV 1),(cIf (tE (cF2 (f2First fIsNon) (vV 2) (vE (cC .non)))) (cC (.tup [(.int 0),(.int 0),(.tup [])])) (cV 2))]))))
def m__law_cell_at : Fn:= B.m__law_cell_at
def m__law_stream : Fn:= B.m__law_stream
def m__law_signs : Fn:= B.m__law_signs
def m__law_fills : Fn:= B.m__law_fills
def m__law_case : Fn:= B.m__law_case
def m__law_plain : Fn:= B.m__law_plain
noncomputable def W7:Fn:=fn 4
  (j4 (j8 2 (cF1 J7 (j6 (vV 0) (C9 1))))
  (j4 (sIf (tE (cF2 (pu2 fEq) (vE (cF2 (pu2 jQ) (vV 1) (C9 2))) (C9 0))) (sWhile (tE (cF2 (pu2 fLt) (vE (cF1 (pu1 qk) (vV 2))) (vE (cF2 jJ (C9 13) (vE (cF2 (pu2 jQ) (vE (cF2 (pu2 v5) (vV 1) (C9 2))) (C9 5))))))) (qw qQ 2 (kX .no [(cC (.int 0)),(cF2 (pu2 fEq) (vE (cF2 (pu2 jQ) (vE (cF1 (pu1 qk) (vV 2))) (C9 2))) (C9 0)),(cLC .rt 1 [] (itS (cH (j6 (vV 0) (C9 0)))) (.n 0) tYes (kQ .rt [(cC .non)]))]))) (j4 (j8 3 (cF2 jJ (C9 4) (vE (cF2 (pu2 jQ) (vE (cF2 (pu2 v5) (vV 1) (C9 2))) (C9 3)))))
  (qw qQ 2 (kX .no [(cV 3),(cF2 (pu2 fEq) (vE (cF2 (pu2 jQ) (vE (cF2 (pu2 v5) (vV 1) (C9 6))) (C9 2))) (C9 0)),(cLC .rt 1 [3] (itS (cH (j6 (vV 0) (C9 0)))) (.n 0) tYes (cF2 vj (vE (kQ .rt [(cC .non)])) (vE (cF2 jJ (vV 1) (C9 1)))))]))))
  (k7 (kX .no [(cF1 J7 (j6 (vV 0) (C9 0))),(cV 2)]))))
noncomputable def Wq:Fn:=fn 8
  (j4 (j8 2 (cF1 J7 (j6 (vV 0) (C9 0))))
  (j4 (j8 3 (cF2 (pu2 jQ) (vV 1) (vE (cF1 (pu1 qk) (vV 2)))))
  (j4 (sIf (tAnd (tE (cF2 (pu2 fEq) (vE (cF2 (pu2 jQ) (vE (cF2 (pu2 v5) (vV 1) (C9 3))) (C9 3))) (C9 0))) (tE (cF2 (pu2 fGt) (vE (cF1 (pu1 qk) (vV 2))) (C9 1)))) (j4 (j8 4 (cF2 jJ (vE (cSl (vV 2) none (some (vV 3)))) (vE (cSl (vV 2) (some (vE (cF2 jJ (vV 3) (C9 1)))) none))))
  (j4 (j8 5 (cLC .rt 3 [3] (itS (cH (j6 (vV 0) (C9 1)))) (.t [0,1,2]) tYes (kX .no [(cV 0),(cV 1),(cF2 jJ (vE (cSl (vV 2) none (some (vV 3)))) (vE (cSl (vV 2) (some (vE (cF2 jJ (vV 3) (C9 1)))) none)))])))
  (k7 (kX .no [(cV 4),(cV 5)])))) v7)
  (j4 (j8 6 (cH (j6 (vV 2) (vV 3))))
  (j4 (j8 7 (cH (j6 (vE (cC (.str "abcdefghijklmnopqrstuvwxyz"))) (vE (cF2 (pu2 jQ) (vE (cF2 (pu2 v5) (vV 1) (C9 9))) (C9 26))))))
  (j4 (sIf (tE (cF2 (pu2 fLt) (vE (cF1 (pu1 qk) (vV 6))) (C9 8))) (QK 2 (vV 3) (cF2 jJ (vV 6) (vV 7))) (QK 2 (vV 3) (cSl (vV 6) none (some (C9 7)))))
  (j4 (sIf (tE (cF2 (pu2 fNe) (vV 2) (vE (cF1 KY (vV 2))))) (k7 (cC .non)) v7)
  (k7 (kX .no [(cV 2),(cF1 J7 (j6 (vV 0) (C9 1)))])))))))))
noncomputable def K1:Fn:=fn 6
  (j4 (j8 3 (cC (.str "none")))
  (j4 (zq ["NoFit","TooGreat"] 4 (bI (tE (cF2 (pu2 fEq) (vV 2) (C9 0))) (JV Jq ([(cV 0),(cV 1)]++[cC .non])) (JV Jq [(cV 0),(cV 1),(kX .no [(cC (.int 0)),(cC (.int 0)),(kX .no [])])])) (j4 (j8 3 (cC (.str "odd")))
  (j4 (j8 5 (cF1 (pu1 (v6 [("NoFit",false),("TooGreat",false)])) (vV 4)))
  (j4 (sIf (tAnd (tEQ (vE (cF1 (pu1 (v6 [("NoFit",true),("TooGreat",true)])) (vV 4)))) (tAnd (tNot (tEQ (vV 5))) (tNot (tEQ (vE (cF1 (pu1 (v6 [("NoFit",true),("TooGreat",false)])) (vV 4))))))) (j8 3 (cH (j6 (vE (kQ .rt [(cC (.str "odd")),(cC (.str "great"))])) (vE (cF1 (pu1 J4) (vE (cF1 (pu1 (v6 [("NoFit",false),("TooGreat",true)])) (vV 4)))))))) v7)
  (sIf (tAnd (tEQ (vE (cF1 (pu1 (v6 [("NoFit",true),("TooGreat",true)])) (vV 4)))) (tAnd (tNot (tEQ (vV 5))) (tNot (tEQ (vE (cF1 (pu1 (v6 [("NoFit",false),("TooGreat",true)])) (vV 4))))))) (j8 3 (cH (j6 (vE (kQ .rt [(cC (.str "odd")),(cC (.str "unlike"))])) (vE (cF1 (pu1 J4) (vE (cF1 (pu1 (v6 [("NoFit",true),("TooGreat",false)])) (vV 4)))))))) v7)))))
  (k7 (cMv 3))))
noncomputable def m_law:Fn:=fn 11
  (j4 (j8 1 (jK m__law_signs [(jK m__law_cell_at [(cV 0),(cC (.int 0))])]))
  (j4 (j8 2 (jK m__law_plain [(jK m__law_cell_at [(cV 0),(cC (.int 1))]),(cV 1)]))
  (j4 (j8 3 (jK m__law_plain [(jK m__law_cell_at [(cV 0),(cC (.int 2))]),(cV 1)]))
  (j4 (j8 4 (cF2 (pu2 jQ) (vE (jK m__law_cell_at [(cV 0),(cC (.int 3))])) (C9 5)))
  (j4 (j8 5 (jK m__law_cell_at [(cV 0),(cC (.int 4))]))
  (j4 (j8 6 (kQ .rt [(cV 2),(cV 3)]))
  (j4 (j8 7 (cC (.str "none")))
  (j4 (sIf (tE (cF2 (pu2 ww) (vV 4) (vE (kX .no [(cC (.int 1)),(cC (.int 3))])))) (j4 (QK 6 (vE (cF2 (pu2 jQ) (vV 5) (C9 2))) (jK W7 [(cH (j6 (vV 6) (vE (cF2 (pu2 jQ) (vV 5) (C9 2))))),(cF2 (pu2 v5) (vV 5) (C9 2))]))
  (j4 (sIf (tE (cF2 (pu2 fEq) (vE (cF2 (pu2 jQ) (vE (cF2 (pu2 v5) (vV 5) (C9 100))) (C9 3))) (C9 0))) (QK 6 (vE (cF2 (pu2 Vq) (C9 1) (vE (cF2 (pu2 jQ) (vV 5) (C9 2))))) (jK W7 [(cH (j6 (vV 6) (vE (cF2 (pu2 Vq) (C9 1) (vE (cF2 (pu2 jQ) (vV 5) (C9 2))))))),(cF2 (pu2 v5) (vV 5) (C9 3))])) v7)
  (j8 7 (cC (.str "great"))))) v7)
  (j4 (j8 8 (cF2 (pu2 jQ) (vE (cF2 (pu2 v5) (vV 5) (C9 7))) (C9 2)))
  (j4 (sIf (tAnd (tE (cF2 (pu2 fGt) (vV 4) (C9 1))) (tE (cF2 (f2First fNotNon) (vE (jK Wq [(cH (j6 (vV 6) (vV 8))),(jK m__law_cell_at [(cV 0),(cC (.int 5))])])) (vE (cC .non))))) (j4 (QK 6 (vV 8) (jK Wq [(cH (j6 (vV 6) (vV 8))),(jK m__law_cell_at [(cV 0),(cC (.int 5))])]))
  (j8 7 (cC (.str "unlike")))) v7)
  (j4 (j8 9 (cLC .rt 1 [] (itS (cV 6)) (.n 0) tYes (kX .no [(cF1 J7 (j6 (vV 0) (C9 0))),(cF1 J7 (j6 (vV 0) (C9 1)))])))
  (j4 (j8 10 (cF2 (pu2 jQ) (vE (cF2 (pu2 v5) (vE (jK m__law_cell_at [(cV 0),(cC (.int 3))])) (C9 5))) (C9 2)))
  (j4 (sIf (tOr (tE (cF2 (pu2 fNe) (vE (jK K1 [(cH (j6 (vV 6) (C9 0))),(cH (j6 (vV 6) (C9 1))),(cV 10)])) (vV 7))) (tE (cF2 (pu2 fNe) (vV 6) (vV 9)))) (k7 (cC (.bl false))) v7)
  (k7 (K7 (vE (cF2 (pu2 fEq) (vE (jK K1 [(cV 2),(cV 3),(cF2 (pu2 Vq) (C9 1) (vV 10))])) (vE (cC (.str "none"))))) (cF2 (pu2 fEq) (vE (jK K1 [(cH (j6 (vV 6) (C9 0))),(cH (j6 (vV 6) (C9 1))),(cF2 (pu2 Vq) (C9 1) (vV 10))])) (vV 7)))))))))))))))))
end Nk45
namespace Nk45
open Q PySem C B J
theorem wkx:m__law_cell_at=B.m__law_cell_at:=rfl
theorem vwe:m__law_signs=B.m__law_signs:=rfl
theorem vwf:m__law_plain=B.m__law_plain:=rfl
def Rf(r:D):Prop:=∃(own:Int) (g:Bool) (st:List D),r=.tup [.int own,.bl g,.lst st]/\st.length<=3/\∀x∈st,x.flat 35=true
theorem qxy{rs:List D}{r:D}(h:r∈rs)(hk:3<wka r):vX rs=false:=by
 unfold vX;rw[Bool.and_eq_false_iff];refine .inr (List.all_eq_false.mpr ⟨r,h,?_⟩);rw[Xi ⋯];decide
theorem qvs{rs:List D}(h:12<rs.length):vX rs=false:=by
 unfold vX;rw[Xi ⋯];rfl
theorem wjw{o1 o2:Own}{k:Int}(h1:o1≠.dp)(h0:0<=k)(hk:k<1000):V3 (o1,.lst [.non]) (o2,.int k)=some (.rt,.lst (List.replicate k.toNat [D.non]).flatten):=by
 show(if -(2 ^ 63)<=k/\k<2 ^ 63/\[D.non].length*k.toNat<=big/\q9 (o1,.lst [.non])then _ else _)=_;rw[X8 ⟨⋯,⋯,by unfold big;simp;omega,by cases o1<;>simp_all [q9]⟩]
theorem qvh(n k:Nat):D.flats n (List.replicate k [D.non]).flatten=true:=zZ λd hd=>by
 obtain⟨l,hl,hd⟩:=List.mem_flatten.mp hd;rw[List.eq_of_mem_replicate hl]at hd;rw[aC hd];cases n<;>rfl
theorem kkg{ss:List Str}{rs:List D}(cell:Int)(hs:ss.length<=3)(hr:∀r∈rs,Rf r)(hl:rs.length<=12):
  Oo W7 [(.no,j9 ss rs),(.no,.int cell)] (λy=>∃ia,y=(.no,j9 ss ia)/\(∀r∈ia,Rf r)/\vX ia=false/\ia.length<=20) noX:=by
 have q0:∀a b:D,jz (.tup [a,b]) (.int 0)=some a:=λ_ _=>rfl
 have q1:∀a b:D,jz (.tup [a,b]) (.int 1)=some b:=λ_ _=>rfl
 have bk:∀E:En,back [] [] (clr [] E)=E:=λ_=>rfl
 have e2:∀a b:Int,fEq (.int a) (.int b)=some (.bl (a==b)):=λa b=>V8
 have hm:jQ (.int cell) (.int 2)=some (.int (cell % 2)):=mod_i ⋯;unfold W7;refine kW ?_
 by_cases hc:cell % 2=0
 ·have hq:fEq (.int (cell % 2)) (.int 0)=some (.bl true):=by rw[V8,hc];rfl
  have w0:=Y2 (cell / 2) (show(5:Int)≠0 by decide);have w1:=Xu (cell / 2) (show(0:Int)<5 by decide);have hm5:jQ (.int (cell / 2)) (.int 5)=some (.int (cell / 2 % 5)):=mod_i ⋯;generalize cell / 2 % 5=t at w0 w1 hm5;simp![q1,z8 (o:=.no) (xs:=rs) ⋯,hm,hq];refine jzk (λn E=>∃(ia:List D) (l3:Option Sd),E=[some (.no,j9 ss rs),some (.no,.int cell),some (.rt,.lst ia),l3]/\(∀r∈ia,Rf r)/\ia.length<=17/\n=20 - ia.length) ?_ (20 - rs.length) _ ⟨rs,_,rfl,hr,⋯,rfl⟩;rintro n E ⟨ia,l3,rfl,h2,hl2,rfl⟩
  by_cases cx:(ia.length:Int)<13+t
  ·have hd:decide ((ia.length:Int)<13+t)=true:=Xl cx;simp![hm5,hd];refine xJ rfl ?_;simp![mod_i (a:=(ia.length:Int)) (b:=2) ⋯,e2];refine Vk [] (λ_ y=>y.2=.lst [.non]) ?_;simp![q0];refine⟨λd hd=>⟨⟨_,rfl⟩,trivial⟩,λys hy=>?_⟩;rw[z4,W6 (h:=λ_=>D.lst [.non]) (λ_ _ h=>h) hy,bk];simp![];refine⟨_,rfl,⋯,_,?_,_,_,rfl,λr hr'=>?_,?_,rfl⟩
   ·simp;omega
   ·rcases aA hr' with hr'|hr'
    ·exact h2 r hr'
    ·rw[aC hr'];exact⟨0,_,_,rfl,by rw[X4,X4];exact hs,λd hd=>by obtain⟨w,_,rfl⟩:=aE hd;rfl⟩
   ·simp;omega
  ·have hd:decide ((ia.length:Int)<13+t)=false:=Xi cx;simp![hm5,hd,q0,z8 (o:=.no) (xs:=ss.map D.str) ⋯];exact⟨ia,rfl,h2,qvs ⋯,⋯⟩
 ·have hq:fEq (.int (cell % 2)) (.int 0)=some (.bl false):=by rw[V8,Y9 hc]
  have w0:=Y2 (cell / 2) (show(3:Int)≠0 by decide);have w1:=Xu (cell / 2) (show(0:Int)<3 by decide);have qe:jQ (.int (cell / 2)) (.int 3)=some (.int (cell / 2 % 3)):=mod_i ⋯;have hm6:jQ (.int (cell / 6)) (.int 2)=some (.int (cell / 6 % 2)):=mod_i ⋯;generalize cell / 2 % 3=t at w0 w1 qe;simp![q1,z8 (o:=.no) (xs:=rs) ⋯,hm,hq,qe];refine xJ rfl ?_;simp![hm6,e2];refine Vk [some (.no,.int (4+t))] (λ_ y=>y.2=.lst (List.replicate (4+t+1).toNat [D.non]).flatten) ?_;simp![q0];refine⟨rfl,λd hd=>?_,λys hy=>?_⟩
  ·simp![wjw (o1:=.no) (o2:=.no) (k:=4+t+1) ⋯ ⋯ ⋯,wjw (o1:=.rt) (o2:=.no) (k:=4+t+1) ⋯ ⋯ ⋯];exact⟨⟨_,rfl⟩,trivial⟩
  rw[z4,W6 (h:=λ_=>D.lst (List.replicate (4+t+1).toNat [D.non]).flatten) (λ_ _ h=>h) hy];simp only[back,clr,at',List.map_cons,List.map_nil,List.set_cons_zero,List.set_cons_succ];simp![q0,z8 (o:=.no) (xs:=ss.map D.str) ⋯];refine⟨rs,rfl,⋯,_,rfl,λr hr'=>?_,?_,by simp;omega⟩
  ·rcases aA hr' with hr'|hr'
   ·exact hr r hr'
   ·rw[aC hr'];refine⟨_,_,_,rfl,by rw[X4,X4];exact hs,λd hd=>?_⟩;obtain⟨w,_,rfl⟩:=aE hd;exact qvh 34 _
  ·exact qxy (List.mem_append.mpr (.inr (aB rfl))) (show 3<4+t by omega)
theorem wvc{z:Str}{j:Int}(h0:0<=j)(h1:j<=z.cps.size):(Txt.slice z none (some j)).cps.toList=z.cps.toList.take j.toNat:=by
 have:=StrLaws.sliceText_to (x:=z) (j:=j) ⟨h0,by rw[Xj];exact h1⟩;rw[show Txt.slice z none (some j)=StrLaws.sliceText z none (some j)from rfl,this];simp
theorem kzn:∀a b:List Str,peqs (a.map D.str) (b.map D.str)=decide (a=b)
 | [],[]=>by simp[peqs]| [],_::_=>by simp[peqs]| _::_,[]=>by simp[peqs]
 | x::a,y::b=>by
  rw[List.map_cons,List.map_cons,peqs,kzn a b,peq]
  by_cases h:x=y
  ·subst h;simp
  ·have:(x==y)=false:=by simpa using h
   rw[this];simp[h]
theorem kqk(ss:List Str):(sL ss).flat 40=true:=by
 show D.flats 39 (ss.map D.str)=true;exact zZ λd hd=>by obtain⟨w,_,rfl⟩:=aE hd;rfl
theorem wjv(a b:List Str):fNe (sL a) (sL b)=some (.bl (!decide (a=b))):=by
 unfold fNe;rw[kqk,kqk];show some (D.bl (!peqs (a.map D.str) (b.map D.str)))=_;rw[kzn]
theorem qwi{n:Nat}:∀{ds:List D},D.flats n ds=true->∀d∈ds,d.flat n=true
 |a::x,h,d,hd=>by
  rw[D.flats,Bool.and_eq_true]at h;rcases aD hd with rfl|hd
  ·exact h.1
  ·exact qwi h.2 d hd
def Oth(ss:List Str)(d:D):Prop:=d=.non\/∃lv ay,d=j9 lv ay/\lv≠ss/\lv.length<=3/\(∀r∈ay,Rf r)/\ay.length<=20
theorem kwc{xs:List D}{j:Int}(h0:0<=j):z7 xs none (some j)=xs.take j.toNat:=by
 unfold z7 xX;dsimp only;rw[Xb ⋯,List.drop_zero,Nat.sub_zero]
 by_cases h:j.toNat<=xs.length
 ·rw[Nat.min_eq_left h]
 ·rw[Nat.min_eq_right ⋯,Z6 (X9 _),Z6 ⋯]
theorem qja{xs:List D}{j:Int}(h0:0<=j):z7 xs (some j) none=xs.drop j.toNat:=by
 unfold z7 xX;dsimp only;rw[Xb ⋯,Z6 (by rw[Yb];omega)]
 by_cases h:j.toNat<=xs.length
 ·rw[Nat.min_eq_left h]
 ·rw[Nat.min_eq_right ⋯,List.drop_eq_nil_of_le (X9 _),List.drop_eq_nil_of_le ⋯]
theorem qzl{ss:List Str}{rs:List D}(cell:Int)(h1:1<=ss.length)(hs:ss.length<=3)(hr:∀r∈rs,Rf r)(hl:rs.length<=20):
  Oo Wq [(.no,j9 ss rs),(.no,.int cell)] (λy=>∃d o',y=(o',d)/\Oth ss d) noX:=by
 have q0:∀a b:D,jz (.tup [a,b]) (.int 0)=some a:=λ_ _=>rfl
 have q1:∀a b:D,jz (.tup [a,b]) (.int 1)=some b:=λ_ _=>rfl
 have a0:=Y2 cell (show(ss.length:Int)≠0 by omega);have a1:=Xu cell (show(0:Int)<ss.length by omega);have ha:jQ (.int cell) (.int ss.length)=some (.int (cell % ss.length)):=mod_i ⋯;generalize cell % ss.length=b8 at a0 a1 ha;have h3:jQ (.int (cell / 3)) (.int 3)=some (.int (cell / 3 % 3)):=mod_i ⋯;generalize cell / 3 % 3=t at h3;unfold Wq;refine kW ?_
 by_cases hc:t=0/\1<ss.length
 ·have e1:fEq (.int t) (.int 0)=some (.bl true):=by rw[hc.1];rfl
  have e2:fGt (.int ss.length) (.int 1)=some (.bl true):=by rw[gt_ii,Xl ⋯]
  simp![q0,z8 (o:=.no) (xs:=ss.map D.str) ⋯,ha,h3,e1,e2,V9 (o:=.rt) (xs:=ss.map D.str) (lo:=none) (hi:=some b8) ⋯,V9 (o:=.rt) (xs:=ss.map D.str) (lo:=some (b8+1)) (hi:=none) ⋯];rw [kwc a0,qja ⋯];rw [qjg ⋯ ⋯ (by rw[Ya,Yb,X4];omega)];simp![];refine V5 (λE1 B ds ao=>E1=[some (.no,j9 ss rs),some (.no,.int cell),some (.rt,.lst (ss.map D.str)),some (.dp,.int b8),some (.rt,.lst ((ss.map D.str).take b8.toNat++(ss.map D.str).drop (b8+1).toNat)),none,none,none]/\∃(l0 l1 l2:Option Sd) (o:Own) (pre:List D),B=[l0,l1,l2,some (o,.int b8)]/\rs=pre++ds/\(∀y∈ao,Rf y.2)/\ao.length=pre.length) ?_ ?_ ?_
  ·simp![q1];exact⟨_,_,_,_,[],rfl,rfl,(λy h=>nomatch h),rfl⟩
  ·rintro E1 B d ds ao ⟨rfl,l0,l1,l2,o,pre,rfl,bn,qd,i4⟩;obtain⟨own,g,st,rfl,cq,kf⟩:=hr d (by rw[bn];simp);simp![V9 (o:=.no) (xs:=st) (lo:=none) (hi:=some b8) ⋯,V9 (o:=.no) (xs:=st) (lo:=some (b8+1)) (hi:=none) ⋯];rw[kwc a0,qja ⋯];rw[qjg ⋯ ⋯ (by rw[Ya,Yb];omega)];simp![];refine⟨_,_,_,_,pre++[.tup [.int own,.bl g,.lst st]],rfl,by rw[bn];simp,λy hy=>?_,by simp[i4]⟩;rcases aA hy with hy|hy
   ·exact qd y hy
   ·rw[aC hy];refine⟨own,g,_,rfl,?_,λx hx=>?_⟩
    ·rw[Xf,Ya,Yb];omega
    ·rcases aA hx with hx|hx
     ·exact kf x (List.mem_of_mem_take hx)
     ·exact kf x (List.mem_of_mem_drop hx)
  ·rintro E1 B ao ⟨rfl,l0,l1,l2,o,pre,rfl,bn,qd,i4⟩;rw[Xr]at bn;rw[z4];simp only[J5,back,clr,at',List.drop,List.map_cons,List.map_nil,List.set_cons_zero,List.set_cons_succ];simp![];refine⟨_,_,rfl,.inr ⟨ss.take b8.toNat++ss.drop (b8+1).toNat,ao.map (·.2),?_,λe=>?_,?_,λr hr'=>?_,?_⟩⟩
   ·show _=D.tup [.lst ((ss.take b8.toNat++ss.drop (b8+1).toNat).map D.str),_];rw[Xd,List.map_take,List.map_drop]
   ·have:=congrArg List.length e;rw[Xf,Ya,Yb]at this;omega
   ·rw[Xf,Ya,Yb];omega
   ·obtain⟨y,hy,rfl⟩:=aE hr';exact qd y hy
   ·rw[X4,i4,<-bn];exact hl
 have cs:(fEq (.int t) (.int 0)=some (.bl false)/\fNeg (.int 1)=some (.int (-1)))\/(fEq (.int t) (.int 0)=some (.bl true)/\fGt (.int ss.length) (.int 1)=some (.bl false)):=by
  by_cases ht:t=0
  ·exact .inr ⟨by rw[ht];rfl,by rw[gt_ii,Xi λh=>hc ⟨ht,⋯⟩]⟩
  ·exact .inl ⟨by rw[V8,Y9 ht],rfl⟩
 have c0:=Y2 (cell / 9) (show(26:Int)≠0 by decide);have c1:=Xu (cell / 9) (show(0:Int)<26 by decide);have h26:jQ (.int (cell / 9)) (.int 26)=some (.int (cell / 9 % 26)):=mod_i ⋯;obtain⟨ch,fq⟩:=kvq "abcdefghijklmnopqrstuvwxyz" (cell / 9 % 26) c0 c1;generalize cell / 9 % 26=lt at h26 fq;have hn:b8.toNat<ss.length:=⋯
 have hx:jz (.lst (ss.map D.str)) (.int b8)=some (.str ss[b8.toNat]):=zV a0 (by rw[Xp,X3 hn];rfl);generalize hz:ss[b8.toNat]=z at hx;have mx:Q.ixN (ss.map D.str).length b8=some b8.toNat:=by
  unfold Q.ixN;rw[X8 a0,X8 (by rw[X4];exact a1)]
 have fin:∀z':Str,z'≠z->∃(b:Bool) (x:List D),(∀o,KY (o,.lst ((ss.map D.str).set b8.toNat (.str z')))=some (.rt,.lst x))/\fNe (.lst ((ss.map D.str).set b8.toNat (.str z'))) (.lst x)=some (.bl b)/\Oth ss (j9 (ss.set b8.toNat z') rs)/\(D.tup [.lst ((ss.map D.str).set b8.toNat (.str z')),.lst rs])=j9 (ss.set b8.toNat z') rs:=λz' sw=>by
  have em:(ss.map D.str).set b8.toNat (.str z')=(ss.set b8.toNat z').map D.str:=by rw[List.map_set]
  rw[em];refine⟨!decide (ss.set b8.toNat z'=wJ (ddS (ss.set b8.toNat z'))),(wJ (ddS (ss.set b8.toNat z'))).map D.str,λo=>?_,wjv _ _,.inr ⟨ss.set b8.toNat z',rs,rfl,λe=>sw ?_,by rw[Yt];exact hs,hr,hl⟩,rfl⟩
  ·unfold KY;dsimp only;rw[kks];dsimp only;rw[X8 (by rw[Yt];omega)]
  ·have:(ss.set b8.toNat z')[b8.toNat]'(by rw[Yt];exact hn)=z':=List.getElem_set_self _;rw[<-this,<-hz]
   congr 1
 generalize hR:j4 (sIf (tAnd _ _) _ _) _=R;simp![q0,z8 (o:=.no) (xs:=ss.map D.str) ⋯,ha];subst hR;refine Ww (λE=>E=[some (.no,j9 ss rs),some (.no,.int cell),some (.rt,.lst (ss.map D.str)),some (.dp,.int b8),none,none,none,none]) ?_ ?_
 ·rcases cs with⟨e1,e2⟩|⟨e1,e2⟩<;>simp![h3,e1,e2]
 rintro E rfl
 by_cases h8:z.cps.size<8
 ·have cx:fLt (.int z.cps.size) (.int 8)=some (.bl true):=by rw[lt_ii,Xl ⋯]
  have av:qk (.str z)=some (.int z.cps.size):=rfl;have had:∀o1 o2,jJ (o1,.str z) (o2,.str ⟨#[ch]⟩)=some (.dp,.str (z++⟨#[ch]⟩)):=λo1 o2=>qjf (by show z.cps.size+1<=10000;omega)
  have sw:z++⟨#[ch]⟩≠z:=λe=>by
   have:(z++(⟨#[ch]⟩:Str)).cps.size=z.cps.size+1:=by
    show(z.cps++#[ch]).size=_;rw[Array.size_append];rfl
   rw[e]at this;omega
  obtain⟨b,x,f1,f2,f3,f4⟩:=fin _ sw;simp![hx,h26,fq,av,cx];refine kv9 ?_;simp![had];refine⟨rfl,_,_,_,b8.toNat,rfl,⋯,rfl,mx,?_⟩;cases b with
  |true=>
   simp![f1,f2];exact⟨_,_,rfl,.inl rfl⟩
  |false=>
   simp![f1,f2,q1,z8 (o:=.no) (xs:=rs) ⋯];exact⟨_,_,rfl,by rw[f4];exact f3⟩
 ·have cx:fLt (.int z.cps.size) (.int 8)=some (.bl false):=by rw[lt_ii,Xi ⋯]
  have av:qk (.str z)=some (.int z.cps.size):=rfl;have hs7:=wvc (z:=z) (j:=7) ⋯ ⋯;have hl7:(Txt.slice z none (some 7)).cps.size=7:=by
   have:=congrArg List.length hs7;rw[Ya,Xj,Xj]at this;have e7:(7:Int).toNat=7:=rfl;omega
  have jp:∀o,fSl (o,.str z) none (some 7)=some (.dp,.str (Txt.slice z none (some 7))):=λo=>by
   show(if(Txt.slice z none (some 7)).length<=big then _ else _)=_;rw[X8 (by show(Txt.slice z none (some 7)).cps.size<=big;rw[hl7];decide)]
  have sw:Txt.slice z none (some 7)≠z:=λe=>by rw[e]at hl7;omega
  obtain⟨b,x,f1,f2,f3,f4⟩:=fin _ sw;simp![hx,h26,fq,av,cx];refine kv9 ?_;simp![jp];refine⟨rfl,_,_,_,b8.toNat,rfl,⋯,rfl,mx,?_⟩;cases b with
  |true=>
   simp![f1,f2];exact⟨_,_,rfl,.inl rfl⟩
  |false=>
   simp![f1,f2,q1,z8 (o:=.no) (xs:=rs) ⋯];exact⟨_,_,rfl,by rw[f4];exact f3⟩
end Nk45
namespace Nk45
open Q PySem C B J
theorem vxa{a b:Ex}{e:Option Sd}{E:En}{P:En->Sd->Prop}{X:XP}:Eo (vxe a b (e::E)) P X=Eo (a (e::E)) (λE x=>Eo (b E) (λE y=>Wo (wv0 x.2 y.2) E (λE d=>P E (.dp,d))) X) X:=by
 unfold vxe;rw[kj];congr 1;funext E x;rw[kj];congr 1;funext E y;rw[zW];exact vo_map
theorem qwr:m_first_standings=B.m_first_standings:=rfl
theorem vkn:m_held_by_both=B.m_held_by_both:=rfl
theorem vko:m_read_by_both=B.m_read_by_both:=rfl
theorem wkw:m_pair_of=B.m_pair_of:=rfl
theorem vj9:m_agrees=B.m_agrees:=rfl
theorem qwq:m_is_small=J.m_is_small:=rfl
def J0(i:Int):List (List (Int×Int)):=[[],[(i,0)],[(i,1)],[(i,2)]]
def AllS:List (List (Int×Int)):=(J0 0).flatMap λa=>(J0 1).flatMap λb=>(J0 2).map λc=>a++(b++c)
def rms:List Int:=[-1,0,1,2,3,4,5]
def AllP:List D:=rms.flatMap λp=>rms.flatMap λq=>AllS.map λs=>.tup [.int p,.int q,.tup (prs s)]
theorem qvu{α β:Type}{f:α->List β}{n:Nat}:∀(l:List α),(∀a∈l,(f a).length=n)->(l.flatMap f).length=l.length*n
 |[],_=>by simp
 |a::l,h=>by
  rw[Zd,Xf,qvu l λb hb=>h b (lc9 _ hb),h a X7,Xm,Nat.add_mul];omega
theorem vjs:AllP.length=3136:=by
 unfold AllP;rw[qvu (n:=448)]
 ·rfl
 ·intro p _;rw[qvu (n:=64)]
  ·rfl
  ·intro q _;rw[X4];rfl
theorem vvf{i j:Int}(h0:0<=j)(h1:j<3):[(i,j)]∈J0 i:=by
 rcases(show j=0\/j=1\/j=2 by omega)with rfl|rfl|rfl<;>simp[J0]
theorem YW(t:List Int)(ht:t.length<=3)(k:Nat)(n:Int)(o:List Int):∃a∈J0 k,vJ t k (n::o)=a++vJ t (k+1) o:=by
 have e:vJ t k (n::o)=if(t.any λw=>w==n)=true then((k:Int),((t.findIdx λw=>w==n:Nat):Int))::vJ t (k+1) o else vJ t (k+1) o:=rfl
 rw[e]
 by_cases h:(t.any λw=>w==n)=true
 ·obtain⟨x,hx,e⟩:=List.any_eq_true.mp h;have:=List.findIdx_lt_length_of_exists (xs:=t) (p:=λw=>w==n) ⟨x,hx,e⟩;rw[X8 h];exact⟨_,vvf (i:=k) (j:=((t.findIdx λw=>w==n:Nat):Int)) ⋯ ⋯,rfl⟩
 ·rw[Xb h];exact⟨[],by simp[J0],rfl⟩
theorem vqd{t o:List Int}(ht:t.length<=3)(ho:o.length<=3):vJ t 0 o∈AllS:=by
 have em:∀i,[]∈J0 i:=λi=>by simp[J0]
 have mk:∀{a b c},a∈J0 0->b∈J0 1->c∈J0 2->a++(b++c)∈AllS:=λha hb hc=>List.mem_flatMap.mpr ⟨_,ha,List.mem_flatMap.mpr ⟨_,hb,List.mem_map.mpr ⟨_,hc,rfl⟩⟩⟩
 match o,ho with
 |[],_=>exact mk (em 0) (em 1) (em 2)
 |[x],_=>
  obtain⟨a,ha,e⟩:=YW t ht 0 x [];rw[e];exact mk ha (em 1) (em 2)
 |[x,y],_=>
  obtain⟨a,ha,e⟩:=YW t ht 0 x [y];obtain⟨b,hb,e2⟩:=YW t ht 1 y [];rw[e,e2];exact mk ha hb (em 2)
 |[x,y,z],_=>
  obtain⟨a,ha,e⟩:=YW t ht 0 x [y,z];obtain⟨b,hb,e2⟩:=YW t ht 1 y [z];obtain⟨c,hc,e3⟩:=YW t ht 2 z [];rw[e,e2,e3];have:=mk ha hb hc
  simpa [vJ]using this
theorem qqd{p:Int}(h0:-1<=p)(h1:p<6):p∈rms:=by
 rcases(show p=-1\/p=0\/p=1\/p=2\/p=3\/p=4\/p=5 by omega)with rfl|rfl|rfl|rfl|rfl|rfl|rfl<;>simp[rms]
def Pin(ai aq:List Int)(d:D):Prop:=Pok ai aq d/\d∈AllP
section
variable {ai aq:List Int}{ss:List Str}{rs ay:List D}
theorem wj6{a b:Sn}(h6:ai.length<=6)(me:aq.length<=6)(ha:xv ai a)(hb:xv aq b)(hk:∀p∈ai,0<=p/\p<=3)(cy:∀p∈aq,0<=p/\p<=3):Pin ai aq (V2 a b):=by
 obtain⟨a0,a1⟩:=qxt ha;obtain⟨b0,b1⟩:=qxt hb;refine⟨qzk ha hb hk,List.mem_flatMap.mpr ⟨_,qqd a0 ⋯,List.mem_flatMap.mpr ⟨_,qqd b0 ⋯,List.mem_map.mpr ⟨_,vqd (Jw cy hb) (Jw hk ha),rfl⟩⟩⟩⟩
theorem wvz(h1:1<=ai.length)(h1':1<=aq.length):Pin ai aq P0:=by
 refine⟨⟨0,0,[],rfl,⋯,⋯,⋯,⋯,Yg _⟩,List.mem_flatMap.mpr ⟨0,by simp[rms],List.mem_flatMap.mpr ⟨0,by simp[rms],List.mem_map.mpr ⟨[],⋯,rfl⟩⟩⟩⟩
theorem kq5{d:D}(h:Pin ai aq d):v4 d=true/\d.pure=true:=by
 obtain⟨⟨p,q,sh,rfl,_⟩,_⟩:=h;refine⟨wk7 _ _ _,?_⟩;have:D.pures (prs sh)=true:=D.pures_map _ _ λx _=>rfl
 show(true&&(true&&(D.pures (prs sh)&&true)))=true;rw[this];rfl
theorem qj2(a:Str):∀l:List Str,(Kq a l).length=l.length+1
 |[]=>rfl
 |b::l=>by
  unfold Kq
  split
  ·rw[Xm,qj2 a l,Xm]
  ·rfl
theorem kqx:∀l:List Str,(wJ l).length=l.length
 |[]=>rfl|a::l=>by rw[wJ,qj2,kqx l];rfl
theorem vkr:∀(l ao:List Str),(l.foldl (λl k=>if l.any (· == k)then l else l++[k]) ao).length<=ao.length+l.length
 |[],ao=>X9 _
 |a::l,ao=>by
  rw[List.foldl_cons];have:=vkr l (if ao.any (· == a)then ao else ao++[a])
  split at this
  ·rw[Xm];rename_i h;rw[X8 h];omega
  ·rename_i h;rw[Xb h];rw[Xf,Yi]at this;rw[Xm];omega
abbrev stD(x:Str×Int×D):D:=.tup [.str x.1,.int x.2.1,x.2.2]
theorem vw6{P:D}(hs:ss.length<=3)(h6:ai.length<=6)(me:aq.length<=6)(hP:Prs ai ss.length rs)(hk:∀p∈ai,0<=p/\p<=3)(ei:Prs aq ss.length ay)(cy:∀p∈aq,0<=p/\p<=3)(h:Pok ai aq P):
  Oo Zv [(.no,j9 ss rs),(.no,j9 ss ay),(.no,P)] (λy=>∃L:List (Str×Int×D),y=(.rt,.lst (L.map stD))/\∀x∈L,0<=x.2.1/\Pin ai aq x.2.2) noX:=by
 have hS:=vvc hP hk h;have hT:=vvb (rs:=rs) ei cy h;have hO:=ww4 hP hk ei cy h;have lS:=Jw hk hS;have lT:=Jw cy hT;have hfi:=qj8 hP hk ei cy h;have hown:((z3 (nms (pS rs P)) (nms (pT rs ay P))).length:Int)=(pO rs ay P:Nat):=rfl;have q0:∀a b:D,jz (.tup [a,b]) (.int 0)=some a:=λ_ _=>rfl
 unfold Zv;rw [qwr,vkn,wkw,vko];refine kW ?_;simp![];refine hfi.via ?_;intro y hy;subst hy;simp![];refine(qwa (pS rs P) (pT rs ay P) ⋯ ⋯).via ?_;intro y hy;subst hy;simp![hown];generalize pO rs ay P=own at *;generalize pS rs P=S at *;generalize pT rs ay P=T at *;have sg:∀o,KY (o,.lst (ss.map D.str++ss.map D.str))=some (.rt,.lst ((wJ (ddS (ss++ss))).map D.str)):=λo=>by
  rw [<-Xd];unfold KY;dsimp only;rw [kks];dsimp only;rw [X8 (by rw[Xf];omega)]
 have hzl:(wJ (ddS (ss++ss))).length<=6:=by
  rw [kqx];have:=vkr (ss++ss) [];rw [Xf]at this;show(ddS (ss++ss)).length<=6;unfold ddS;simp at this ⊢;omega
 generalize wJ (ddS (ss++ss))=zz at sg hzl;have i9:jJ (.no,sL ss) (.no,sL ss)=some (.rt,.lst (ss.map D.str++ss.map D.str)):=qjg ⋯ ⋯ (by rw[X4];omega);have nt:(jZ 0 ((own:Int)+1)).length=own+1:=by unfold jZ;rw[X4,Yq];omega
 refine zK (λE jq=>∃(o4:Own) (L:List (Str×Int×D)) (zs:List Str) (l6 l7:Option Sd),E=[some (.no,j9 ss rs),some (.no,j9 ss ay),some (.no,P),some (.no,lat (S,T)),some (o4,.lst (jZ 0 ((own:Int)+1))),some (.rt,.lst (L.map stD)),l6,l7]/\o4≠.dp/\jq=zs.map D.str/\zs.length<=6/\L.length+zs.length*7<=42/\∀x∈L,0<=x.2.1/\Pin ai aq x.2.2) ?_ ?_ ?_
 ·simp![q0,i9,sg];exact⟨.rt,[],zz,_,_,rfl,⋯,rfl,hzl,by rw[List.length_nil];omega,λx hx=>nomatch hx⟩
 ·rintro E d ds ⟨o4,L,zs,l6,l7,rfl,ho4,bn,hz6,hl,hL⟩;cases zs with
  | nil=>cases bn
  | cons z zs=>
   rw[List.map_cons]at bn;injection bn with e1 e2;subst e1 e2;rw[Xm]at hz6 hl;simp![];refine zK (λE jq=>∃(L2:List (Str×Int×D)) (pre:List D) (l7:Option Sd),E=[some (.no,j9 ss rs),some (.no,j9 ss ay),some (.no,P),some (.no,lat (S,T)),some (.no,.lst (jZ 0 ((own:Int)+1))),some (.rt,.lst (L2.map stD)),some (.no,.str z),l7]/\jZ 0 ((own:Int)+1)=pre++jq/\L2.length=L.length+pre.length/\∀x∈L2,0<=x.2.1/\Pin ai aq x.2.2) ?_ ?_ ?_
   ·simp![];exact⟨L,[],_,rfl,rfl,rfl,hL⟩
   ·rintro E d ds ⟨L2,pre,l7,rfl,hpr,hl2,hL2⟩;obtain⟨c,c0,c1,rfl⟩:=qvo (show d∈jZ 0 ((own:Int)+1)by rw[hpr];simp);have av:=congrArg List.length hpr;rw[nt,Xf,Xm]at av;obtain⟨r1,r2⟩:=kzi z c hP hk hS;obtain⟨r1',r2'⟩:=kzi z c ei cy hT;simp![];refine xJ rfl ?_;simp![];refine(qx5 (w:=(z,c)) r1 r1').via ?_;intro y hy;subst hy;simp![];have l1:=Jw hk r2;have l2:=Jw cy r2';refine(qk1 (rdF ss rs S z c) (rdF ss ay T z c) ⋯ ⋯).via ?_;intro y hy;subst hy;simp![];refine⟨_,rfl,by rw[X4];omega,L2++[(z,c,V2 (rdF ss rs S z c) (rdF ss ay T z c))],pre++[.int c],_,by rw[Xd];rfl,by rw[hpr];simp,by simp;omega,λx hx=>?_⟩;rcases aA hx with hx|hx
    ·exact hL2 x hx
    ·rw[aC hx];exact⟨c0,wj6 h6 me r2 r2' hk cy⟩
   ·rintro E ⟨L2,pre,l7,rfl,hpr,hl2,hL2⟩;rw[Xr]at hpr;rw[<-hpr,nt]at hl2;exact⟨_,L2,zs,_,_,rfl,⋯,rfl,⋯,⋯,hL2⟩
 ·rintro E ⟨o4,L,zs,l6,l7,rfl,ho4,bn,hz6,hl,hL⟩;simp![];exact⟨L,rfl,hL⟩
end
end Nk45
namespace Nk45
open Q PySem C B J
theorem qwm{ks:List Int}{i:Int}(h:(ks.any λw=>w==i)=true):(ks.filter λx=>decide (i+1<=x)).length<(ks.filter λx=>decide (i<=x)).length:=by
 induction ks with
 | nil=>cases h
 | cons a ks ih=>
  have mono:∀l:List Int,(l.filter λx=>decide (i+1<=x)).length<=(l.filter λx=>decide (i<=x)).length:=λl=>by
   induction l with
   | nil=>exact X9 _
   | cons b l ih=>
    by_cases h1:i+1<=b
    ·rw[Yo (by simpa using h1),Yo (by simp;omega)];simp;omega
    ·rw[Z0 (by simpa using h1)]
     by_cases h2:i<=b
     ·rw[Yo (by simpa using h2)];simp;omega
     ·rw[Z0 (by simpa using h2)];exact ih
  rw[List.any_cons,Bool.or_eq_true]at h
  by_cases ha:a=i
  ·rw[Z0 (by simp;omega),Yo (by simp;omega),Xm];have:=mono ks;omega
  ·have h:=ih (h.resolve_left (by simpa using ha))
   by_cases h1:i+1<=a
   ·rw[Yo (by simpa using h1),Yo (by simp;omega)];simp;omega
   ·rw[Z0 (by simpa using h1),Z0 (by simp;omega)];exact h
theorem qzu(ks:List Int):Oo ZY [(.no,iT ks)] (λy=>∃p:Own×Int,y=(p.1,.int p.2)/\True) noX:=by
 unfold ZY;refine kW ?_;simp![];refine jzk (λn E=>∃(o o1:Own) (i:Int),E=[some (o,iT ks),some (o1,.int i)]/\n=(ks.filter λx=>decide (i<=x)).length) ?_ _ _ ⟨_,_,0,rfl,rfl⟩;rintro n E ⟨o,o1,i,rfl,rfl⟩;cases h:(ks.any λw=>w==i)with
 |true=>
  have e:ww (.int i) (iT ks)=some (.bl true):=by rw[Q3,h]
  simp![e];refine vkx rfl ?_;simp![];exact⟨_,rfl,_,qwm h,_,_,i+1,rfl,rfl⟩
 |false=>
  have e:ww (.int i) (iT ks)=some (.bl false):=by rw[Q3,h]
  simp![e];exact⟨(_,i),rfl,trivial⟩
abbrev Kvs:=List (D×D)
abbrev wyD(p:D)(z:Str)(i:Int):D:=.tup [p,.str z,.int i]
inductive Wy:Kvs->Prop
 |one {P:D}:Wy [(P,.non)]
 |more {W:Kvs} {k p:D} {z:Str} {i:Int}:Wy W->k∉W.map (·.1)->p∈W.map (·.1)->0<=i->Wy (W++[(k,wyD p z i)])
theorem qj5{W:Kvs}{k v x:D}:wQ (W++[(k,v)]) x=if x∈W.map (·.1)then wQ W x else if k=x then some v else none:=by
 unfold wQ;rw[List.find?_append]
 by_cases h:x∈W.map (·.1)
 ·rw[X8 h];obtain⟨e,he,hx⟩:=aE h;have:(W.find? λp=>decide (p.1=x)).isSome=true:=by
   rw[List.find?_isSome];exact⟨e,he,Xl hx⟩
  obtain⟨y,hy⟩:=Option.isSome_iff_exists.mp this;rw[hy];rfl
 ·rw[Xb h];have:(W.find? λp=>decide (p.1=x))=none:=by
   rw[List.find?_eq_none];intro e he hx;exact h (List.mem_map.mpr ⟨e,he,of_decide_eq_true hx⟩)
  rw[this]
  by_cases hk:k=x
  ·rw[X8 hk];simp[hk]
  ·rw[Xb hk];simp[hk]
theorem vq0{W:Kvs}(h:Wy W):∃rk:D->Nat,∀k∈W.map (·.1),rk k<W.length/\∃v,wQ W k=some v/\(v=.non\/∃p z i,v=wyD p z i/\0<=i/\p∈W.map (·.1)/\rk p<rk k):=by
 induction h with
 | @one P=>
  refine⟨λ_=>0,λk hk=>⟨Nat.zero_lt_one,.non,?_,.inl rfl⟩⟩;have hk:k=P:=aC hk;subst hk;simp[wQ]
 | @more W k p z i hW hk hp hi ih=>
  obtain⟨rk,ih⟩:=ih;refine⟨λx=>if x=k then W.length else rk x,λx hx=>?_⟩;have hap:∀y,y∈W.map (·.1)->y∈(W++[(k,wyD p z i)]).map (·.1):=λy hy=>by rw[Xd];exact List.mem_append.mpr (.inl hy)
  by_cases hxk:x=k
  ·subst hxk;have hpx:p≠x:=λe=>hk (e▸hp)
   refine⟨by simp,wyD p z i,?_,.inr ⟨p,z,i,rfl,hi,hap p hp,?_⟩⟩
   ·rw[qj5,Xb hk,X8 rfl]
   ·dsimp only;rw[Xb hpx,X8 rfl];exact(ih p hp).1
  ·have hxW:x∈W.map (·.1):=by
    rw[Xd]at hx;rcases aA hx with hx|hx
    ·exact hx
    ·exact absurd (aC hx) hxk
   obtain⟨a,v,b,c⟩:=ih x hxW;refine⟨?_,v,?_,?_⟩
   ·dsimp only;rw[Xb hxk,Xf,Yi];omega
   ·rw[qj5,X8 hxW,b]
   ·rcases c with c|⟨p',z',i',e,h0,ir,hr⟩
    ·exact .inl c
    ·refine .inr ⟨p',z',i',e,h0,hap p' ir,?_⟩;have:p'≠k:=λe=>hk (e▸ir)
     dsimp only;rw[Xb this,Xb hxk];exact hr
theorem qxm{W:Kvs}(h:Wy W):(∀k∈W.map (·.1),D.pure k=true)->D.pures (W.map (·.2))=true:=by
 induction h with
 |one=>intro _;rfl
 |@more W k p z i hW hk hp hi ih=>
  intro ir;have g1:=ih λx hx=>ir x (by rw[Xd];exact List.mem_append.mpr (.inl hx))
  have g2:=ir p (by rw[Xd];exact List.mem_append.mpr (.inl hp));rw[Xd,D.pures_all,List.all_append,<-D.pures_all,g1];show(D.pures [p,.str z,.int i]&&true)=true;show((D.pure p&&(true&&(true&&true)))&&true)=true;rw[g2];rfl
abbrev rwI(x:Str×Int):D:=.tup [.str x.1,.int x.2]
theorem wvg{o:Own}{xs:List D}(h:o≠.dp):WQ (o,.lst xs)=some (.rt,.lst xs.reverse):=by
 unfold WQ;dsimp only;rw[X8 (by cases o<;>simp_all [q9])]
theorem kvz{W:Kvs}{k v:D}(h:wQ W k=some v)(hp:D.pures (W.map (·.2))=true):D.pure v=true:=by
 unfold wQ at h;obtain⟨e,he,rfl⟩:=Option.map_eq_some_iff.mp h;rw[D.pures_all,Z7]at hp;exact hp _ (List.mem_map.mpr ⟨e,List.mem_of_find?_eq_some he,rfl⟩)
theorem wv3{W:Kvs}{k:D}(hW:Wy W)(hu:unm W=true)(hK:∀k∈W.map (·.1),v4 k=true/\D.pure k=true)(hl:W.length<=5000)(hk:k∈W.map (·.1)):
  Oo jv6 [(.no,.dct W),(.no,k)] (λy=>∃L:List (Str×Int),y=(.rt,.lst (L.map rwI))/\L.length<=5000/\∀x∈L,0<=x.2) noX:=by
 obtain⟨rk,hr⟩:=vq0 hW;have hpu:=qxm hW λk hk=>(hK k hk).2
 have mx:∀x∈W.map (·.1),wv0 (.dct W) x=wQ W x:=λx hx=>X8 ⟨(hK x hx).1,hu,hpu⟩
 have t0:∀a b c:D,jz (.tup [a,b,c]) (.int 0)=some a:=λ_ _ _=>rfl
 have t1:∀a b c:D,jz (.tup [a,b,c]) (.int 1)=some b:=λ_ _ _=>rfl
 have t2:∀a b c:D,jz (.tup [a,b,c]) (.int 2)=some c:=λ_ _ _=>rfl
 obtain⟨a,v,b,c⟩:=hr k hk;unfold jv6;refine kW ?_;simp![↓vxa,mx k hk,b,kvz b hpu];refine jzk (λn E=>∃(v:D) (L:List (Str×Int)),E=[some (.no,.dct W),some (.no,k),some (.rt,.lst (L.map rwI)),some (.dp,v)]/\(v=.non\/∃p z i,v=wyD p z i/\0<=i/\p∈W.map (·.1)/\rk p+1<n)/\L.length+n<=5000/\∀x∈L,0<=x.2) ?_ 5000 _ ⟨v,[],rfl,?_,by simp,λx hx=>nomatch hx⟩
 ·rintro n E ⟨v,L,rfl,hv,hL,hx⟩;rcases hv with rfl|⟨p,z,i,rfl,h0,hp,hn⟩
  ·simp![];rw[wvg ⋯];simp![];exact⟨L.reverse,by rw[List.map_reverse],by rw[List.length_reverse];omega,λx h=>hx x (List.mem_reverse.mp h)⟩
  ·obtain⟨a,v',b,c⟩:=hr p hp;simp![];refine xJ rfl ?_;simp![t1,t2];refine⟨_,rfl,by rw[X4];omega,?_⟩;simp![↓vxa,t0,mx p hp,b,kvz b hpu];refine⟨n - 1,⋯,v',L++[(z,i)],by rw[Xd];rfl,?_,by rw[Xf,Yi];omega,λx h=>?_⟩
   ·rcases c with c|⟨p',z',i',e,h0',ir,hr'⟩
    ·exact .inl c
    ·exact .inr ⟨p',z',i',e,h0',ir,⋯⟩
   ·rcases aA h with h|h
    ·exact hx x h
    ·rw[aC h];exact h0
 ·rcases c with c|⟨p',z',i',e,h0',ir,hr'⟩
  ·exact .inl c
  ·exact .inr ⟨p',z',i',e,h0',ir,⋯⟩
end Nk45
namespace Nk45
open Q PySem C B J
section
variable {ai aq:List Int}{ss:List Str}{rs ay:List D}
theorem vz3{P:D}(L:List (Str×Int))(hl:L.length<=5000)(hL:∀x∈L,0<=x.2)(hP:Prs ai ss.length rs)(hk:∀p∈ai,0<=p/\p<=3)(ei:Prs aq ss.length ay)(cy:∀p∈aq,0<=p/\p<=3)(h:Pok ai aq P):
  Oo ZX [(.no,j9 ss rs),(.no,j9 ss ay),(.no,P),(.no,.lst (L.map rwI))] (λy=>∃p:Own×D,y=(p.1,p.2)/\True) noX:=by
 have hS:=vvc hP hk h;have hT:=vvb (rs:=rs) ei cy h;have hfi:=qj8 hP hk ei cy h;unfold ZX;rw [qwr,vkn,vko];refine kW ?_;simp![];refine hfi.via ?_;intro y hy;subst hy;simp![];generalize pS rs P=S at *;generalize pT rs ay P=T at *;refine zK (λE jq=>∃(S T:Sn) (L2:List (Str×Int)) (ao:List D) (l6 l7 l8 l9:Option Sd),E=[some (.no,j9 ss rs),some (.no,j9 ss ay),some (.no,P),some (.no,.lst (L.map rwI)),some (.no,lat (S,T)),some (.rt,.lst ao),l6,l7,l8,l9]/\jq=L2.map rwI/\xv ai S/\xv aq T/\ao.length+L2.length<=5000/\∀x∈L2,0<=x.2) ?_ ?_ ?_
 ·simp![];exact⟨S,T,L,[],_,_,_,_,rfl,rfl,hS,hT,by simpa using hl,hL⟩
 ·rintro E d ds ⟨S,T,L2,ao,l6,l7,l8,l9,rfl,bn,hS,hT,i4,hL2⟩;cases L2 with
  | nil=>cases bn
  | cons x L2=>
   rw[List.map_cons]at bn;injection bn with e1 e2;subst e1 e2;rw[Xm]at i4;obtain⟨z,i⟩:=x;have h0:0<=i:=hL2 (z,i) X7;have lS:=Jw hk hS;have lT:=Jw cy hT;have hh:=kvy lS lT;generalize hR:j4 (j8 9 _) _=R;simp![];refine(qwa S T ⋯ ⋯).via ?_;intro y hy;subst hy;simp![];subst hR;refine Ww (λE=>∃(o9:Own) (c:Int),E=[some (.no,j9 ss rs),some (.no,j9 ss ay),some (.no,P),some (.no,.lst (L.map rwI)),some (.no,lat (S,T)),some (.rt,.lst ao),some (.no,.str z),some (.no,.int i),some (.no,iT (z3 (nms S) (nms T))),some (o9,.int c)]) ?_ ?_
   ·by_cases hi:i<(z3 (nms S) (nms T)).length
    ·have hd:decide (i<((z3 (nms S) (nms T)).length:Int))=true:=Xl hi;have hg:jz (iT (z3 (nms S) (nms T))) (.int i)=some (.int ((z3 (nms S) (nms T))[i.toNat]'⋯)):=wz0 h0 (by rw[Xp,X3 ⋯];rfl);simp![hd,hg];exact⟨_,_,rfl⟩
    ·have hd:decide (i<((z3 (nms S) (nms T)).length:Int))=false:=Xi hi;simp![hd];refine(qzu _).via ?_;rintro y ⟨p,rfl,_⟩;simp![];exact⟨_,_,rfl⟩
   ·rintro E ⟨o9,c,rfl⟩;obtain⟨r1,r2⟩:=kzi z c hP hk hS;obtain⟨r1',r2'⟩:=kzi z c ei cy hT;simp![];refine xJ rfl ?_;simp![];refine⟨_,rfl,⋯,?_⟩;simp![];refine(qx5 (w:=(z,c)) r1 r1').via ?_;intro y hy;subst hy;exact⟨_,_,L2,_,_,_,_,_,rfl,rfl,r2,r2',by rw[Xf,Yi];omega,λx hx=>hL2 x (lc9 _ hx)⟩
 ·rintro E ⟨S,T,L2,ao,l6,l7,l8,l9,rfl,bn,hS,hT,i4,hL2⟩;simp![];exact⟨(_,_),rfl,trivial⟩
end
end Nk45
namespace Nk45
open Q PySem C B J
section
variable {ai aq:List Int}{ss:List Str}{rs ay:List D}
structure Ws (ai aq:List Int)(P:D)(W:Kvs):Prop where
 wy:Wy W
 nd:(W.map (·.1)).Nodup
 pin:∀k∈W.map (·.1),Pin ai aq k
theorem Ws.le{P:D}{W:Kvs}(h:Ws ai aq P W):W.length<=3136:=by
 have:=kzs h.nd λk hk=>(h.pin k hk).2
 rw[X4,vjs]at this;exact this
theorem Ws.unm{P:D}{W:Kvs}(h:Ws ai aq P W):unm W=true:=by
 cases W with
 |nil=>rfl
 |cons e W=>
  obtain⟨k,v⟩:=e;obtain⟨⟨p,q,sh,rfl,_⟩,_⟩:=h.pin k X7;rfl
theorem Ws.more{P k p:D}{z:Str}{i:Int}{W:Kvs}(h:Ws ai aq P W)(hk:k∉W.map (·.1))(hp:p∈W.map (·.1))(h0:0<=i)(hpin:Pin ai aq k):Ws ai aq P (W++[(k,wyD p z i)]):=by
 refine⟨.more h.wy hk hp h0,?_,λx hx=>?_⟩
 ·rw[Xd];refine List.nodup_append.mpr ⟨h.nd,by simp,λa ha b hb e=>?_⟩;have hb:b=k:=aC hb;rw[hb]at e;exact hk (e▸ha)
 ·rw[Xd]at hx;rcases aA hx with hx|hx
  ·exact h.pin x hx
  ·rw[aC hx];exact hpin
theorem kwz{P:D}(hs:ss.length<=3)(h6:ai.length<=6)(me:aq.length<=6)(hP:Prs ai ss.length rs)(hk:∀p∈ai,0<=p/\p<=3)(ei:Prs aq ss.length ay)(cy:∀p∈aq,0<=p/\p<=3)(h:Pin ai aq P):
  Oo jv7 [(.no,j9 ss rs),(.no,j9 ss ay),(.no,P)] (λy=>∃p:Own×D,y=(p.1,p.2)/\True) noX:=by
 unfold jv7;rw [vj9];refine kW ?_;simp![↓vxc];refine⟨(kq5 h).1,?_⟩;have cq:Ws ai aq P [(P,.non)]:=⟨.one,by simp,λk hk=>by rw[aC hk];exact h⟩;refine jzk (λn E=>∃(W:Kvs) (o5:Own) (i:Nat) (l6 l7 l8 l9:Option Sd),E=[some (.no,j9 ss rs),some (.no,j9 ss ay),some (.no,P),some (.rt,.dct W),some (.rt,.lst (W.map (·.1))),some (o5,.int i),l6,l7,l8,l9]/\Ws ai aq P W/\n=4000 - i) ?_ 4000 _ ⟨[(P,.non)],_,0,_,_,_,_,rfl,cq,rfl⟩;rintro n E ⟨W,o5,i,l6,l7,l8,l9,rfl,hW,rfl⟩;have hWl:=hW.le
 by_cases cx:i<W.length
 rotate_left
 ·have hd:decide ((i:Int)<(W.length:Int))=false:=Xi ⋯;simp![hd];exact⟨(_,_),rfl,trivial⟩
 have hd:decide ((i:Int)<(W.length:Int))=true:=Xl ⋯;obtain⟨k,mq,mx⟩:∃k∈W.map (·.1),jz (.lst (W.map (·.1))) (.int i)=some k:=by
  have hl:i<(W.map (·.1)).length:=by rw[X4];exact cx
  exact⟨(W.map (·.1))[i],Yc hl,zV ⋯ (by rw[Xw];exact X3 hl)⟩
 have jh:=hW.pin k mq;have hag:∃b:Bool,Oo B.m_agrees [(.no,j9 ss rs),(.no,j9 ss ay),(.no,k)] (λy=>∃o':Own,y=(o',.bl b)/\True) noX:=by
  obtain⟨⟨p,q,sh,rfl,a0,a1,b0,b1,_⟩,_⟩:=jh;exact⟨_,qxe (Wx hP hk a0 a1).2.1 (Wx ei cy b0 b1).2.1⟩
 obtain⟨b,hag⟩:=hag;have mj:=vw6 hs h6 me hP hk ei cy jh.1;generalize hR:j4 (v3 _ _ _) _=R;simp![hd,mx];refine hag.via ?_;rintro y ⟨o',rfl,_⟩;cases b with
 | false=>
  simp![];refine(wv3 hW.wy hW.unm (λx hx=>kq5 (hW.pin x hx)) ⋯ mq).via ?_;rintro y ⟨L,rfl,hl,hL⟩;simp![];refine(vz3 L hl hL hP hk ei cy h.1).via ?_;rintro y ⟨p,rfl,_⟩;simp![];exact⟨(_,_),rfl,trivial⟩
 | true=>
  simp![];subst hR;simp![];refine zK (λE jq=>∃(W:Kvs) (o5 o6:Own) (l7 l8 l9:Option Sd) (L:List (Str×Int×D)),E=[some (.no,j9 ss rs),some (.no,j9 ss ay),some (.no,P),some (.rt,.dct W),some (.rt,.lst (W.map (·.1))),some (o5,.int i),some (o6,k),l7,l8,l9]/\Ws ai aq P W/\k∈W.map (·.1)/\jq=L.map stD/\∀x∈L,0<=x.2.1/\Pin ai aq x.2.2) ?_ ?_ ?_
  ·simp![];refine mj.via ?_;rintro y ⟨L,rfl,hL⟩;simp![];exact⟨W,_,_,_,_,_,L,rfl,hW,mq,rfl,hL⟩
  ·rintro E d ds ⟨W,o5,o6,l7,l8,l9,L,rfl,hW,mq,bn,hL⟩;cases L with
   | nil=>cases bn
   | cons x L=>
    rw[List.map_cons]at bn;injection bn with e1 e2;subst e1 e2;obtain⟨z,c,d⟩:=x;obtain⟨c0,hd⟩:=hL (z,c,d) X7;have r9:=λx hx=>hL x (lc9 (z,c,d) hx)
    have hWl:=hW.le;have hn:=wwb (kq5 hd).1 hW.unm
    by_cases hm:d∈W.map (·.1)
    ·rw[Xl hm]at hn;simp![hn];exact⟨W,_,_,_,_,_,L,rfl,hW,mq,rfl,r9⟩
    ·rw[Xi hm]at hn;simp![hn];refine vwh ?_;simp![];refine⟨⟨W,rfl⟩,W,rfl,(kq5 hd).1,⟨⋯,hW.unm⟩,?_⟩;rw[show Qw W d (.tup [k,.str z,.int c])=W++[(d,wyD k z c)]from Xb hm];simp![];refine xJ rfl ?_;simp![];refine⟨_,rfl,by rw[X4];omega,W++[(d,wyD k z c)],o5,.no,some (.no,.str z),some (.no,.int c),some (.no,d),L,?_,hW.more hm mq c0 hd,?_,rfl,r9⟩
     ·rw[Xd];rfl
     ·rw[Xd];exact List.mem_append.mpr (.inl mq)
  ·rintro E ⟨W,o5,o6,l7,l8,l9,L,rfl,hW,mq,bn,hL⟩;simp![];refine vkx rfl ?_;simp![];exact⟨_,rfl,4000 - (i+1),⋯,W,_,i+1,_,_,_,_,rfl,hW,rfl⟩
end
end Nk45
namespace Nk45
open Q PySem C B J
theorem vvo{f:Fn}{xs:List Sd}{P P':Sd->Prop}{X X':XP}(h:Oo f xs P X)(k:∀y,P y->P' y)(l:∀c,X c->X' c):Oo f xs P' X':=by
 unfold Oo at h ⊢;cases hf:f xs with
 |none=>rw[hf]at h;exists h
 |some r=>rw[hf]at h;cases r with|ok E a=>exists k a h|exc E c=>exists l c h
theorem vxh{cs:List Str}{i:Nat}{u:Ts}{a b:Ex}{hd:Sm}{E:En}{N C:En->Prop}{R:Sd->Prop}{X:XP}(h:Eo (u E) (λE1 k=>Po (zq cs i (qxw (if k=true then a else b)) hd E1) N C R X) noX):Po (zq cs i (bI u a b) hd E) N C R X:=by
 unfold zq bI;cases hu:u E with
 | none=>rw[hu]at h;exists h.elim
 | some r=>
  rw[hu]at h;cases r with
  |exc E1 c=>exists h.elim
  |ok E1 k=>
   rw[VZ]at h;unfold zq qxw at h;exact h
theorem kxx{ss lv:List Str}{rs ay:List D}{x:D}(h:ss≠lv):Oo Jq [(.no,j9 ss rs),(.no,j9 lv ay),(.no,x)] (λ_=>False) (λc=>c="NoFit"):=by
 have q0:∀a b:D,jz (.tup [a,b]) (.int 0)=some a:=λ_ _=>rfl
 have bt:fNe (sL ss) (sL lv)=some (.bl true):=by rw[wjv,Xi h];rfl
 unfold Jq;refine kW ?_;simp![q0,bt]
theorem kxy{ss:List Str}{rs ay:List D}{x:D}(h1:∀r∈rs,Rf r)(h2:∀r∈ay,Rf r)(h:vX rs=false\/vX ay=false):Oo Jq [(.no,j9 ss rs),(.no,j9 ss ay),(.no,x)] (λ_=>False) (λc=>c="TooGreat"):=by
 have q0:∀a b:D,jz (.tup [a,b]) (.int 0)=some a:=λ_ _=>rfl
 have bt:fNe (sL ss) (sL ss)=some (.bl false):=kxg (kqk ss);have s1:=J.small_is (d0:=sL ss) (rs:=rs) λr hr=>by obtain⟨own,g,st,rfl,_⟩:=h1 r hr;exact⟨_,_,_,rfl⟩
 have s2:=J.small_is (d0:=sL ss) (rs:=ay) λr hr=>by obtain⟨own,g,st,rfl,_⟩:=h2 r hr;exact⟨_,_,_,rfl⟩
 unfold Jq;rw[qwq];refine kW ?_;simp![q0,bt];refine s1.any.use ?_;intro _ _;cases hb:vX rs with
 | false=>simp![]
 | true=>
  simp![];refine s2.any.use ?_;intro _ _;have dw:vX ay=false:=by
   rcases h with h|h
   ·rw[hb]at h;cases h
   ·exact h
  rw[dw];simp![]
section
variable {ai aq:List Int}{ss:List Str}{rs ay:List D}
theorem kxw{x:D}(hx:x=.non\/x=P0)(hs:ss.length<=3)(h1:1<=ai.length)(h6:ai.length<=6)(h1':1<=aq.length)(me:aq.length<=6)(hP:Prs ai ss.length rs)(hk:∀p∈ai,0<=p/\p<=3)(ei:Prs aq ss.length ay)(cy:∀p∈aq,0<=p/\p<=3):
  Oo Jq [(.no,j9 ss rs),(.no,j9 ss ay),(.no,x)] (λ_=>True) noX:=by
 have q0:∀a b:D,jz (.tup [a,b]) (.int 0)=some a:=λ_ _=>rfl
 have bt:fNe (sL ss) (sL ss)=some (.bl false):=kxg (kqk ss);have jl:=J.small_is (d0:=sL ss) (kzl hP);have dq:=J.small_is (d0:=sL ss) (kzl ei);rw[kvb hP hk ⋯]at jl;rw[kvb ei cy ⋯]at dq;have hse:=kwz hs h6 me hP hk ei cy (wvz h1 h1');unfold Jq;rw[qwq];refine kW ?_;simp![q0,bt];refine jl.any.use ?_;intro _ _;simp![];refine dq.any.use ?_;intro _ _;rcases hx with rfl|rfl
 ·simp![];refine hse.via ?_;intro y _;trivial
 ·simp![];refine hse.via ?_;intro y _;trivial
end
theorem fix0:v6 [("NoFit",false),("TooGreat",false)] (.obj "NoFit" [])=some (.bl false)/\v6 [("NoFit",true),("TooGreat",true)] (.obj "NoFit" [])=some (.bl true)/\v6 [("NoFit",true),("TooGreat",false)] (.obj "NoFit" [])=some (.bl true)/\v6 [("NoFit",false),("TooGreat",true)] (.obj "NoFit" [])=some (.bl false):=⟨Q4 ⋯,Q4 ⋯,Q4 ⋯,Q4 ⋯⟩
theorem fix1:v6 [("NoFit",false),("TooGreat",false)] (.obj "TooGreat" [])=some (.bl false)/\v6 [("NoFit",true),("TooGreat",true)] (.obj "TooGreat" [])=some (.bl true)/\v6 [("NoFit",true),("TooGreat",false)] (.obj "TooGreat" [])=some (.bl false)/\v6 [("NoFit",false),("TooGreat",true)] (.obj "TooGreat" [])=some (.bl true):=⟨Q4 ⋯,Q4 ⋯,Q4 ⋯,Q4 ⋯⟩
theorem qjv{b:Int}{m m':D}{fw:Str}(hb:b=0\/b=1)(h:∀x,x=.non\/x=P0->Oo Jq [(.no,m),(.no,m'),(.no,x)] (λ_=>fw="none") (λx=>(x="NoFit"/\fw="unlike")\/(x="TooGreat"/\fw="great"))):
  Oo K1 [(.no,m),(.no,m'),(.no,.int b)] (λy=>∃p:Own×Str,y=(p.1,.str p.2)/\p.2=fw) noX:=by
 have g0:jz (.lst [.str "odd",.str "unlike"]) (.int 1)=some (.str "unlike"):=rfl;have g1:jz (.lst [.str "odd",.str "great"]) (.int 1)=some (.str "great"):=rfl;have i1:J4 (.bl true)=some (.int 1):=rfl;obtain⟨f1,f2,f3,f4⟩:=fix0;obtain⟨k1,k2,k3,k4⟩:=fix1;unfold K1;refine kW ?_;simp![];refine vxh ?_;rcases hb with rfl|rfl
 ·have e:fEq (.int 0) (.int 0)=some (.bl true):=rfl;simp![e];refine(h .non (.inl rfl)).ox (λy h=>?_) (λx hx=>?_)
  ·simp![];exact⟨(_,"none"),rfl,h.symm⟩
  ·rcases hx with⟨rfl,hx⟩|⟨rfl,hx⟩
   ·refine⟨by simp,?_⟩;simp![f1,f2,f3,f4,g0,i1];exact⟨(_,"unlike"),rfl,hx.symm⟩
   ·refine⟨by simp,?_⟩;simp![k1,k2,k3,k4,g1,i1];exact⟨(_,"great"),rfl,hx.symm⟩
 ·have e:fEq (.int 1) (.int 0)=some (.bl false):=rfl;simp![e];refine(h P0 (.inr rfl)).ox (λy h=>?_) (λx hx=>?_)
  ·simp![];exact⟨(_,"none"),rfl,h.symm⟩
  ·rcases hx with⟨rfl,hx⟩|⟨rfl,hx⟩
   ·refine⟨by simp,?_⟩;simp![f1,f2,f3,f4,g0,i1];exact⟨(_,"unlike"),rfl,hx.symm⟩
   ·refine⟨by simp,?_⟩;simp![k1,k2,k3,k4,g1,i1];exact⟨(_,"great"),rfl,hx.symm⟩
inductive Bent (ss:List Str)(rs ay:List D):D->D->Str->Prop
 |same:Bent ss rs ay (j9 ss rs) (j9 ss ay) "none"
 |great {r0 r1:List D}:(∀r∈r0,Rf r)->(∀r∈r1,Rf r)->r0.length<=20->r1.length<=20->(vX r0=false\/vX r1=false)->Bent ss rs ay (j9 ss r0) (j9 ss r1) "great"
 |unlike {s0 s1:List Str} {r0 r1:List D}:(∀r∈r0,Rf r)->(∀r∈r1,Rf r)->s0≠s1->Bent ss rs ay (j9 s0 r0) (j9 s1 r1) "unlike"
theorem vz5{ai:List Int}{n:Nat}{rs:List D}(hn:n<=3)(hP:Prs ai n rs):∀r∈rs,Rf r:=λr hr=>by
 obtain⟨i,hi,e⟩:=List.getElem_of_mem hr;obtain⟨r',e',gd,st,h',hl,hc⟩:=hP.2 i (by rw[<-hP.1];exact hi);rw[X3 hi,e]at e';cases oq9 e';refine⟨_,gd,st,h',⋯,λc hcm=>?_⟩;obtain⟨cs,rfl,_,hz⟩:=hc c hcm;refine zZ (n:=34) λz hzm=>?_
 obtain⟨k,hk,e2⟩:=List.getElem_of_mem hzm;obtain⟨z',e3,h3⟩:=hz k hk;rw[X3 hk,e2]at e3;cases oq9 e3;rcases h3 with rfl|⟨to,fs,rfl,_⟩
 ·rfl
 ·have:D.flats 32 (fs.map D.int)=true:=zZ λd hd=>by obtain⟨w,_,rfl⟩:=aE hd;rfl
  simp only[D.flat,D.flats,this,Bool.and_self]
theorem XZ{ss:List Str}{rs:List D}(h:∀r∈rs,Rf r):(j9 ss rs).flat 39=true:=by
 have F1:D.flats 37 (ss.map D.str)=true:=zZ λd hd=>by obtain⟨w,_,rfl⟩:=aE hd;rfl
 have F2:D.flats 37 rs=true:=zZ λr hr=>by
  obtain⟨own,g,st,rfl,_,hf⟩:=h r hr;have:D.flats 35 st=true:=zZ λx hx=>hf x hx
  simp only[D.flat,D.flats,this,Bool.and_self]
 simp only[D.flat,D.flats,F1,F2,Bool.and_self]
end Nk45
namespace Nk45
open Q PySem C B J
section
variable {ai aq:List Int}{ss:List Str}{rs ay:List D}
theorem refd{b:Int}{m m':D}{fw:Str}(hb:b=0\/b=1)(hs:ss.length<=3)(h1:1<=ai.length)(h6:ai.length<=6)(h1':1<=aq.length)(me:aq.length<=6)(hP:Prs ai ss.length rs)(hk:∀p∈ai,0<=p/\p<=3)(ei:Prs aq ss.length ay)(cy:∀p∈aq,0<=p/\p<=3)(hB:Bent ss rs ay m m' fw):
  Oo K1 [(.no,m),(.no,m'),(.no,.int b)] (λy=>∃p:Own×Str,y=(p.1,.str p.2)/\p.2=fw) noX:=
 qjv hb λx hx=>by
  cases hB with|same=>exact vvo (kxw hx hs h1 h6 h1' me hP hk ei cy) (λ_ _=>rfl) λ_ h=>h.elim|great a b _ _ hsm=>exact vvo (kxy a b hsm) (λ_ h=>h.elim) λc hc=>.inr ⟨hc,rfl⟩|unlike a b bt=>exact vvo (kxx bt) (λ_ h=>h.elim) λc hc=>.inl ⟨hc,rfl⟩
end
theorem wk2(ns:List Int)(hnl:ns.length<=63):Oo m_law [(.no,iL ns)] (λy=>y.2=.bl true) noX:=by
 unfold m_law;rw [wkx,vwe,vwf];generalize hR:j4 (sIf (tE (cF2 (pu2 ww) (vV 4) _)) _ _) _=R;refine kW ?_;simp![];refine(Qz ns 0 ⋯).use ?_;intro _ _;simp![];refine(qq7 _).use ?_;rintro ss ⟨lg,hs3⟩;simp![];refine(Qz ns 1 ⋯).use ?_;intro _ _;simp![];refine(kvc _ ss lg hs3).use ?_;rintro rs ⟨ai,k1,k6,k0,hk,hP⟩;simp![];refine(Qz ns 2 ⋯).use ?_;intro _ _;simp![];refine(kvc _ ss lg hs3).use ?_;rintro ay ⟨aq,k1',k6',k0',cy,ei⟩;simp![];refine(Qz ns 3 ⋯).use ?_;intro _ _;simp![mod_i (a:=xj ns 3) (b:=5) ⋯];refine(Qz ns 4 ⋯).use ?_;intro _ _;simp![];subst hR;have w0:=Y2 (xj ns 3) (show(5:Int)≠0 by decide);have w1:=Xu (xj ns 3) (show(0:Int)<5 by decide);generalize xj ns 3 % 5=way at w0 w1;generalize xj ns 4=cell;have hrf:=vz5 hs3 hP;have ln:=vz5 hs3 ei;have hl6:rs.length<=6:=by rw[hP.1];exact k6
 have hl6':ay.length<=6:=by rw[ei.1];exact k6'
 refine Ww (λE=>∃(m0 m1:D) (fw:Str) (o6 o8:Own),E=[some (.no,iL ns),some (.no,sL ss),some (.no,j9 ss rs),some (.no,j9 ss ay),some (.dp,.int way),some (o6,.int cell),some (.rt,.lst [m0,m1]),some (o8,.str fw),none,none,none]/\(∃r0 r1,m0=j9 ss r0/\m1=j9 ss r1/\(∀r∈r0,Rf r)/\(∀r∈r1,Rf r)/\r0.length<=20/\r1.length<=20)/\Bent ss rs ay m0 m1 fw) ?_ ?_
 ·have same:Bent ss rs ay (j9 ss rs) (j9 ss ay) "none":=.same
  by_cases hw:way=1\/way=3
  rotate_left
  ·have iz:ww (.int way) (.tup [.int 1,.int 3])=some (.bl false):=by
    rcases(show way=0\/way=2\/way=4 by omega)with rfl|rfl|rfl<;>rfl
   simp![iz];exact⟨_,_,_,_,_,rfl,⟨rs,ay,rfl,rfl,hrf,ln,⋯,⋯⟩,same⟩
  have iz:ww (.int way) (.tup [.int 1,.int 3])=some (.bl true):=by
   rcases hw with rfl|rfl<;>rfl
  have qe:jQ (.int (cell / 100)) (.int 3)=some (.int (cell / 100 % 3)):=mod_i ⋯;have c0:=Y2 cell (show(2:Int)≠0 by decide);have c1:=Xu cell (show(0:Int)<2 by decide);have lh:jQ (.int cell) (.int 2)=some (.int (cell % 2)):=mod_i ⋯;obtain⟨ra,rb,n,m,x1,x2,x3,x4,x5,x6,x7,x8,x9⟩:∃(ra rb:List D) (n m:Nat),jz (.lst [j9 ss rs,j9 ss ay]) (.int (cell % 2))=some (j9 ss ra)/\(∀r∈ra,Rf r)/\(∀r∈rb,Rf r)/\ra.length<=12/\rb.length<=12/\(∀g,jz (.lst ([j9 ss rs,j9 ss ay].set n g)) (.int (1 - cell % 2))=some (j9 ss rb))/\Q.ixN 2 (cell % 2)=some n/\(∀g,Q.ixN ([j9 ss rs,j9 ss ay].set n g).length (1 - cell % 2)=some m) /\
    ∀g g',(∀r∈g,Rf r)->(∀r∈g',Rf r)->g.length<=20->g'.length<=20->vX g=false->(∃r0 r1,([j9 ss rs,j9 ss ay].set n (j9 ss g)).set m (j9 ss g')=[j9 ss r0,j9 ss r1]/\(g'=rb->[j9 ss rs,j9 ss ay].set n (j9 ss g)=[j9 ss r0,j9 ss r1])/\(∀r∈r0,Rf r)/\(∀r∈r1,Rf r)/\r0.length<=20/\r1.length<=20/\(vX r0=false\/vX r1=false)):=by
   rcases(show cell % 2=0\/cell % 2=1 by omega)with h2|h2
   ·rw[h2];exact⟨rs,ay,0,1,rfl,hrf,ln,⋯,⋯,λ_=>rfl,rfl,λ_=>rfl,λg g' a b c d e=>⟨g,g',rfl,λh=>by rw[h];rfl,a,b,c,d,.inl e⟩⟩
   ·rw[h2];exact⟨ay,rs,1,0,rfl,ln,hrf,⋯,⋯,λ_=>rfl,rfl,λ_=>rfl,λg g' a b c d e=>⟨g',g,rfl,λh=>by rw[h];rfl,b,a,d,c,.inr e⟩⟩
  generalize cell % 2=j at *;simp![iz];refine kv9 ?_;simp![lh,x1];refine(kkg _ hs3 x2 x4).use ?_;rintro g0 ⟨a1,a2,a3⟩;simp![lh];refine⟨rfl,_,_,_,n,rfl,⋯,rfl,x7,?_⟩
  by_cases h3:cell / 100 % 3=0
  ·have e3:fEq (.int (cell / 100 % 3)) (.int 0)=some (.bl true):=by rw[h3];rfl
   have x6:=x6 (j9 ss g0);have x8:=x8 (j9 ss g0);have x9:=λg'=>x9 g0 g' a1
   generalize [j9 ss rs,j9 ss ay].set n (j9 ss g0)=xs at *;simp![qe,e3];refine kv9 ?_;simp![lh,x6];refine(kkg _ hs3 x3 x5).use ?_;rintro g1 ⟨b1,b2,b3⟩;simp![lh];obtain⟨r0,r1,y1,_,y3,y4,y5,y6,y7⟩:=x9 g1 b1 a3 b3 a2;refine⟨rfl,_,_,_,m,rfl,⋯,rfl,x8,?_⟩;rw[y1];simp![];exact⟨_,_,_,_,_,rfl,⟨r0,r1,rfl,rfl,y3,y4,y5,y6⟩,.great y3 y4 y5 y6 y7⟩
  ·have e3:fEq (.int (cell / 100 % 3)) (.int 0)=some (.bl false):=by rw[V8,Y9 h3]
   obtain⟨r0,r1,_,y1,y3,y4,y5,y6,y7⟩:=x9 g0 rb a1 x3 a3 ⋯ a2;rw[y1 rfl];simp![qe,e3];exact⟨_,_,_,_,_,rfl,⟨r0,r1,rfl,rfl,y3,y4,y5,y6⟩,.great y3 y4 y5 y6 y7⟩
 rintro E ⟨m0,m1,fw,o6,o8,rfl,⟨r0,r1,rfl,rfl,hr0,hr1,hl0,gw⟩,hB⟩;generalize hR:j4 (j8 9 _) _=R;have ng:=Y2 (cell / 7) (show(2:Int)≠0 by decide);have ms:=Xu (cell / 7) (show(0:Int)<2 by decide);have hma:jQ (.int (cell / 7)) (.int 2)=some (.int (cell / 7 % 2)):=mod_i ⋯;generalize cell / 7 % 2=b8 at ng ms hma;have h0:jz (.lst [j9 ss r0,j9 ss r1]) (.int 0)=some (j9 ss r0):=rfl;have h1:jz (.lst [j9 ss r0,j9 ss r1]) (.int 1)=some (j9 ss r1):=rfl;obtain⟨r,gl,nw,nt⟩:∃r:List D,jz (.lst [j9 ss r0,j9 ss r1]) (.int b8)=some (j9 ss r)/\(∀x∈r,Rf x)/\r.length<=20:=by
  rcases(show b8=0\/b8=1 by omega)with rfl|rfl
  ·exact⟨r0,h0,hr0,hl0⟩
  ·exact⟨r1,h1,hr1,gw⟩
 have lc:∀E:En,(∃(m0 m1:D) (fw:Str) (o4 o5 o7 o8:Own),E=[some (.no,iL ns),some (.no,sL ss),some (.no,j9 ss rs),some (.no,j9 ss ay),some (o4,.int way),some (o5,.int cell),some (.rt,.lst [m0,m1]),some (o7,.str fw),some (o8,.int b8),none,none]/\Bent ss rs ay m0 m1 fw)->Po (R E) (λx=>False) (λx=>False) (λy=>y.2=.bl true) noX:=by
  rintro E ⟨m0,m1,fw,o4,o5,o7,o8,rfl,hB⟩;subst hR;clear gl nw nt r;have hf:m0.flat 39=true/\m1.flat 39=true/\(∃a b,m0=.tup [.lst a,.lst b])/\∃a b,m1=.tup [.lst a,.lst b]:=by
   cases hB with|same=>exact⟨XZ hrf,XZ ln,⟨_,_,rfl⟩,_,_,rfl⟩|great a b=>exact⟨XZ a,XZ b,⟨_,_,rfl⟩,_,_,rfl⟩|unlike a b=>exact⟨XZ a,XZ b,⟨_,_,rfl⟩,_,_,rfl⟩
  obtain⟨f0,f1,⟨a0,b0,e0⟩,a1,b1,e1⟩:=hf;have q0:∀a b:D,jz (.tup [a,b]) (.int 0)=some a:=λ_ _=>rfl
  have q1:∀a b:D,jz (.tup [a,b]) (.int 1)=some b:=λ_ _=>rfl
  have l0:∀a b:D,jz (.lst [a,b]) (.int 0)=some a:=λ_ _=>rfl
  have l1:∀a b:D,jz (.lst [a,b]) (.int 1)=some b:=λ_ _=>rfl
  have bk:∀E:En,back [] [] (clr [] E)=E:=λ_=>rfl
  have kf:(D.lst [m0,m1]).flat 40=true:=by simp only[D.flat,D.flats,f0,f1,Bool.and_self]
  have bt:=kxg kf;have n1:fNe (.str fw) (.str fw)=some (.bl false):=by show some (D.bl (!(fw==fw)))=_;simp
  have e1':∀z:Str,fEq (.str z) (.str z)=some (.bl true):=λz=>by show some (D.bl (z==z))=_;simp
  have t0:=Y2 (xj ns 3 / 5) (show(2:Int)≠0 by decide);have t1:=Xu (xj ns 3 / 5) (show(0:Int)<2 by decide);have ht:jQ (.int (xj ns 3 / 5)) (.int 2)=some (.int (xj ns 3 / 5 % 2)):=mod_i ⋯;have rf:∀{b:Int} {m m':D} {fw:Str},b=0\/b=1->Bent ss rs ay m m' fw->Oo K1 [(.no,m),(.no,m'),(.no,.int b)] (λy=>∃p:Own×Str,y=(p.1,.str p.2)/\p.2=fw) noX:=λhb hB=>refd hb hs3 k1 k6 k1' k6' hP hk ei cy hB
  simp![];refine Vk [] (λd y=>y.2=d) ?_;simp![];refine⟨λd hd=>?_,λys hy=>?_⟩
  ·simp only[Y6,Xq,or_false]at hd;rcases hd with rfl|rfl
   ·rw[e0];simp![q0,q1,z8 (o:=.no) (xs:=a0) ⋯,z8 (o:=.no) (xs:=b0) ⋯];exact⟨⟨_,rfl⟩,trivial⟩
   ·rw[e1];simp![q0,q1,z8 (o:=.no) (xs:=a1) ⋯,z8 (o:=.no) (xs:=b1) ⋯];exact⟨⟨_,rfl⟩,trivial⟩
  rw[z4,W6 (h:=λd=>d) (λ_ _ h=>h) hy,bk,List.map_id'];simp![];refine(Qz ns 3 ⋯).use ?_;intro _ _;simp![ht];generalize xj ns 3 / 5 % 2=t at t0 t1 ht;have b1:t=0\/t=1:=⋯
  have b2:1 - t=0\/1 - t=1:=⋯
  simp![l0,l1];refine(rf b1 hB).via ?_;rintro y ⟨p,rfl,rfl⟩;simp![n1,bt];refine(rf b2 .same).via ?_;rintro y ⟨p2,rfl,hp2⟩;rw[hp2];simp![e1',l0,l1];refine(rf b2 hB).via ?_;rintro y ⟨p3,rfl,hp3⟩;rw[hp3];simp![e1']
 by_cases hw1:1<way
 rotate_left
 ·have hd:decide (1<way)=false:=Xi hw1;simp![hma,hd];exact lc _ ⟨_,_,_,_,_,_,_,rfl,hB⟩
 have hd:decide (1<way)=true:=Xl hw1;obtain⟨y,⟨d,o',rfl,hoth⟩,hdet⟩:=wjo (qzl (ss:=ss) (rs:=r) (xj ns 5) lg hs3 nw nt);simp![hma,hd,gl];refine(Qz ns 5 ⋯).use ?_;intro _ _;simp![];refine hdet.via ?_;intro y hy;subst hy;rcases hoth with rfl|⟨s',r',rfl,sg,hs3',hr',lq⟩
 ·simp![];exact lc _ ⟨_,_,_,_,_,_,_,rfl,hB⟩
 ·simp![];refine kv9 ?_;simp![gl];refine(Qz ns 5 ⋯).use ?_;intro _ _;simp![];refine hdet.via ?_;intro y hy;subst hy;simp![];rcases(show b8=0\/b8=1 by omega)with rfl|rfl
  ·refine⟨rfl,_,_,_,0,rfl,⋯,rfl,rfl,?_⟩;simp![];exact lc _ ⟨_,_,_,_,_,_,_,rfl,.unlike hr' hr1 sg⟩
  ·refine⟨rfl,_,_,_,1,rfl,⋯,rfl,rfl,?_⟩;simp![];exact lc _ ⟨_,_,_,_,_,_,_,rfl,.unlike hr0 hr' (Zi sg)⟩
theorem law_true(ns:List Int)(hl:ns.length<=63)(hb:∀i∈ns,Builtin.Int.intBits i<=1048576):∃E o,m_law [(.no,.lst (ns.map D.int))]=some (.ok E (o,.bl true)):=by
 obtain⟨E,⟨o,d⟩,h,hd⟩:=(wk2 ns hl).out;have hd:d=.bl true:=hd;subst hd;exact⟨E,o,h⟩
end Nk45
namespace Nk45
open PySem L2 L3 Q
def top(i:Nat):Stmt:=PySem.Challenge.pw_freshrooms_k45_not_compared.main.body.getD i (.Pass ⟨0,0,0,0⟩)
abbrev jxq:Stmt:=top 14
abbrev jzv:Stmt:=top 15
abbrev jvt:Stmt:=top 29
abbrev kkz:Stmt:=top 19
abbrev jvs:Stmt:=top 28
abbrev jv9:Stmt:=top 25
abbrev jq5:Stmt:=top 21
abbrev jxp:Stmt:=top 27
abbrev jqv:Stmt:=top 24
abbrev jzu:Stmt:=top 26
abbrev jzw:Stmt:=top 23
abbrev jqt:Stmt:=top 22
abbrev jvr:Stmt:=top 20
abbrev jqu:Stmt:=top 35
abbrev jva:Stmt:=top 34
abbrev jxn:Stmt:=top 33
abbrev jxo:Stmt:=top 32
abbrev jxr:Stmt:=top 31
abbrev jqy:Stmt:=top 37
abbrev jvb:Stmt:=top 38
abbrev jvu:Stmt:=top 39
abbrev jvw:Stmt:=top 40
abbrev jws:Stmt:=top 41
abbrev jvv:Stmt:=top 42
abbrev jqx:Stmt:=top 43
abbrev jkt:Stmt:=top 44
abbrev jqw:Stmt:=top 45
abbrev vqe:Stmt:=top 46
theorem kx1:FnScope ["plain"] ["plain"] (k9 jxq):=mkS
theorem sc_read_by:FnScope ["plain","standing","sign","name","names","cases","case","held"] ["plain","standing","sign","name"] (k9 jzv):=mkS
theorem kky:FnScope ["plain","room"] ["plain","room"] (k9 jvt):=mkS
theorem qqa:FnScope ["one","other","pair"] ["one","other","pair"] (k9 kkz):=mkS
theorem kkx:FnScope ["plain","room"] ["plain","room"] (k9 jvs):=mkS
theorem kjz:FnScope ["room","names"] ["room","names"] (k9 jv9):=mkS
theorem sc_first_standings:FnScope ["one","other","pair","own","shared","names","j"] ["one","other","pair"] (k9 jq5):=mkS
theorem kx0:FnScope ["standing"] ["standing"] (k9 jxp):=mkS
theorem sc_held_by_both:FnScope ["standings","ours"] ["standings"] (k9 jqv):=mkS
theorem qjs:FnScope ["standing"] ["standing"] (k9 jzu):=mkS
theorem sc_pair_of:FnScope ["standings","ours","theirs","shared"] ["standings"] (k9 jzw):=mkS
theorem jzs:FnScope ["one","other","standings","sign","name"] ["one","other","standings","sign","name"] (k9 jqt):=mkS
theorem sc_steps_from:FnScope ["one","other","pair","standings","names","steps","sign","name"] ["one","other","pair"] (k9 jvr):=mkS
theorem sc_least_beside:FnScope ["names","least"] ["names"] (k9 jqu):=mkS
theorem sc_parting_row:FnScope ["one","other","first","steps","standings","row","sign","place","held","name"] ["one","other","first","steps"] (k9 jva):=mkS
theorem sc_steps_to:FnScope ["ways","pair","steps","way"] ["ways","pair"] (k9 jxn):=mkS
theorem sc_searched:FnScope ["one","other","first","ways","found","done","pair","sign","name","later"] ["one","other","first"] (k9 jxo):=mkS
theorem kx2:FnScope ["one","other","pair"] ["one","other","pair"] (k9 jxr):=mkS
theorem jzt:FnScope ["_law_script","_law_k"] ["_law_script","_law_k"] (k9 jqy):=mkS
theorem sc__law_stream:FnScope ["_law_cell","_law_many","_law_found","_law_k","_law_number"] ["_law_cell","_law_many"] (k9 jvb):=mkS
theorem sc__law_signs:FnScope ["_law_cell","_law_letters","_law_xs","_law_base","_law_at","_law_found","_law_k"] ["_law_cell"] (k9 jvu):=mkS
theorem sc__law_fills:FnScope ["_law_number","_law_need","_law_free","_law_pool","_law_found","_law_k"] ["_law_number","_law_need","_law_free"] (k9 jvw):=mkS
theorem sc__law_case:FnScope ["_law_number","_law_sizes","_law_free","_law_rooms","_law_to"] ["_law_number","_law_sizes","_law_free"] (k9 jws):=mkS
theorem sc__law_plain:FnScope ["_law_cell","_law_signs_here","_law_xs","_law_many","_law_most","_law_sizes","_law_rooms","_law_at","_law_room","_law_steps","_law_s","_law_cases","_law_i"] ["_law_cell","_law_signs_here"] (k9 jvv):=mkS
theorem sc__law_greater:FnScope ["_law_plain_here","_law_cell","_law_rooms","_law_keepers"] ["_law_plain_here","_law_cell"] (k9 jqx):=mkS
theorem sc__law_other_signs:FnScope ["_law_plain_here","_law_cell","_law_signs_here","_law_at","_law_kept","_law_rooms","_law_word","_law_letter"] ["_law_plain_here","_law_cell"] (k9 jkt):=mkS
theorem sc__law_refused:FnScope ["_law_one","_law_other","_law_bit","_law_found","e","_law_others"] ["_law_one","_law_other","_law_bit"] (k9 jqw):=mkS
theorem sc_law:FnScope ["_law_script","_law_signs_here","_law_one","_law_other","_law_way","_law_cell","_law_bent","_law_due","_law_at","_law_kept","_law_bit"] ["_law_script"] (k9 vqe):=mkS
structure Txt (K:Frag)(mg:Str->Option Value)(ae a7 ac aj aa af ak ag a9 a8:Addr):Prop where
 b_ValueError:mg "ValueError"=none
 b_all:mg "all"=none
 b_dict:mg "dict"=none
 b_enumerate:mg "enumerate"=none
 b_int:mg "int"=none
 b_isinstance:mg "isinstance"=none
 b_len:mg "len"=none
 b_list:mg "list"=none
 b_range:mg "range"=none
 b_reversed:mg "reversed"=none
 b_set:mg "set"=none
 b_sorted:mg "sorted"=none
 b_tuple:mg "tuple"=none
 c_SMALL_ROOMS:Cst mg "SMALL_ROOMS" (V.int (12))
 c_SMALL_KEEPERS:Cst mg "SMALL_KEEPERS" (V.int (3))
 c_NOWHERE:Cst mg "NOWHERE" (V.int (-1))
 c_FIRST_PAIR:wzd K mg "FIRST_PAIR" (.tup [(.int 0),(.int 0),(.tup [])])
 n_NoFit:nsIn K mainGlobals "NoFit"=some (some (.ref ae))
 m_NoFit:mg "NoFit"=some (.ref ae)
 e_NoFit:ECls K mg "NoFit" ae
 n_TooGreat:nsIn K mainGlobals "TooGreat"=some (some (.ref a7))
 m_TooGreat:mg "TooGreat"=some (.ref a7)
 e_TooGreat:ECls K mg "TooGreat" a7
 n_RoomError:nsIn K mainGlobals "RoomError"=some (some (.ref ac))
 m_RoomError:mg "RoomError"=some (.ref ac)
 n_NoWay:nsIn K mainGlobals "NoWay"=some (some (.ref aj))
 m_NoWay:mg "NoWay"=some (.ref aj)
 n_NotSingle:nsIn K mainGlobals "NotSingle"=some (some (.ref aa))
 m_NotSingle:mg "NotSingle"=some (.ref aa)
 n_NoText:nsIn K mainGlobals "NoText"=some (some (.ref af))
 m_NoText:mg "NoText"=some (.ref af)
 n_NoRow:nsIn K mainGlobals "NoRow"=some (some (.ref ak))
 m_NoRow:mg "NoRow"=some (.ref ak)
 n_NoName:nsIn K mainGlobals "NoName"=some (some (.ref ag))
 m_NoName:mg "NoName"=some (.ref ag)
 n_NoMachine:nsIn K mainGlobals "NoMachine"=some (some (.ref a9))
 m_NoMachine:mg "NoMachine"=some (.ref a9)
 n_NoExchange:nsIn K mainGlobals "NoExchange"=some (some (.ref a8))
 m_NoExchange:mg "NoExchange"=some (.ref a8)
 h_TooGreat_RoomError:PySem.W.exmOne K (.ref a7) (.ref ac)=some true
 h_NoFit_RoomError:PySem.W.exmOne K (.ref ae) (.ref ac)=some true
 i_TooGreat_TooGreat:kitOne K (.ref a7) (.ref a7)=some true
 i_NoFit_TooGreat:kitOne K (.ref ae) (.ref a7)=some false
 i_TooGreat_ValueError:kitOne K (.ref a7) (.type "ValueError")=some true
 i_NoFit_ValueError:kitOne K (.ref ae) (.type "ValueError")=some true
 i_TooGreat_NoFit:kitOne K (.ref a7) (.ref ae)=some false
 i_NoFit_NoFit:kitOne K (.ref ae) (.ref ae)=some true
 i_TooGreat_NoWay:kitOne K (.ref a7) (.ref aj)=some false
 i_TooGreat_NotSingle:kitOne K (.ref a7) (.ref aa)=some false
 i_TooGreat_NoText:kitOne K (.ref a7) (.ref af)=some false
 i_TooGreat_NoRow:kitOne K (.ref a7) (.ref ak)=some false
 i_TooGreat_NoName:kitOne K (.ref a7) (.ref ag)=some false
 i_TooGreat_NoMachine:kitOne K (.ref a7) (.ref a9)=some false
 i_TooGreat_NoExchange:kitOne K (.ref a7) (.ref a8)=some false
 i_NoFit_NoWay:kitOne K (.ref ae) (.ref aj)=some false
 i_NoFit_NotSingle:kitOne K (.ref ae) (.ref aa)=some false
 i_NoFit_NoText:kitOne K (.ref ae) (.ref af)=some false
 i_NoFit_NoRow:kitOne K (.ref ae) (.ref ak)=some false
 i_NoFit_NoName:kitOne K (.ref ae) (.ref ag)=some false
 i_NoFit_NoMachine:kitOne K (.ref ae) (.ref a9)=some false
 i_NoFit_NoExchange:kitOne K (.ref ae) (.ref a8)=some false
section
variable (P:Program)(w:PySem.World)(K:Frag)(mg:Str->Option Value)(base:Heap)
abbrev kkn:=kY P w K mg base 1 "is_small" ["plain"] (spF K mg 1 m_is_small)
abbrev kwr:=kY P w K mg base 1 "read_by" ["plain","standing","sign","name"] (spF K mg 4 m_read_by)
abbrev jzb:=kY P w K mg base 1 "is_good_in" ["plain","room"] (spF K mg 2 m_is_good_in)
abbrev qjj:=kY P w K mg base 2 "agrees" ["one","other","pair"] (spF K mg 3 m_agrees)
abbrev jza:=kY P w K mg base 1 "keepers_in" ["plain","room"] (spF K mg 2 m_keepers_in)
abbrev jxg:=kY P w K mg base 1 "standing_in" ["room","names"] (spF K mg 2 m_standing_in)
abbrev jq8:=kY P w K mg base 2 "first_standings" ["one","other","pair"] (spF K mg 3 m_first_standings)
abbrev jz4:=kY P w K mg base 1 "names_of" ["standing"] (spF K mg 1 m_names_of)
abbrev jv0:=kY P w K mg base 2 "held_by_both" ["standings"] (spF K mg 1 m_held_by_both)
abbrev kwq:=kY P w K mg base 1 "room_of" ["standing"] (spF K mg 1 m_room_of)
abbrev kws:=kY P w K mg base 2 "pair_of" ["standings"] (spF K mg 1 m_pair_of)
abbrev jqz:=kY P w K mg base 2 "read_by_both" ["one","other","standings","sign","name"] (spF K mg 5 m_read_by_both)
abbrev jz9:=kY P w K mg base 3 "steps_from" ["one","other","pair"] (spF K mg 3 Zv)
abbrev jwn:=kY P w K mg base 1 "least_beside" ["names"] (spF K mg 1 ZY)
abbrev jxh:=kY P w K mg base 3 "parting_row" ["one","other","first","steps"] (spF K mg 4 ZX)
abbrev kkl:=kY P w K mg base 1 "steps_to" ["ways","pair"] (spF K mg 2 jv6)
abbrev kkm:=kY P w K mg base 4 "searched" ["one","other","first"] (spF K mg 3 jv7)
abbrev kko:=DefD P w K mg base 5 "compared" ["one","other","pair"] (spF K mg 3 Jq)
abbrev jwq:=kY P w K mg base 1 "_law_cell_at" ["_law_script","_law_k"] (spF K mg 2 m__law_cell_at)
abbrev jvi:=kY P w K mg base 1 "_law_stream" ["_law_cell","_law_many"] (spF K mg 2 m__law_stream)
abbrev jzc:=kY P w K mg base 2 "_law_signs" ["_law_cell"] (spF K mg 1 m__law_signs)
abbrev jze:=kY P w K mg base 1 "_law_fills" ["_law_number","_law_need","_law_free"] (spF K mg 3 m__law_fills)
abbrev kjw:=kY P w K mg base 2 "_law_case" ["_law_number","_law_sizes","_law_free"] (spF K mg 3 m__law_case)
abbrev jzd:=kY P w K mg base 3 "_law_plain" ["_law_cell","_law_signs_here"] (spF K mg 2 m__law_plain)
abbrev jwp:=kY P w K mg base 1 "_law_greater" ["_law_plain_here","_law_cell"] (spF K mg 2 W7)
abbrev jqr:=kY P w K mg base 1 "_law_other_signs" ["_law_plain_here","_law_cell"] (spF K mg 2 Wq)
abbrev jwo:=kY P w K mg base 6 "_law_refused" ["_law_one","_law_other","_law_bit"] (spF K mg 3 K1)
end
section
variable {ae a7 ac aj aa af ak ag a9 a8:Addr}
variable {P:Program}{w:PySem.World}{K:Frag}{mg:Str->Option Value}{base:Heap}{f:Addr}{fd:FuncData}
theorem kxe(T:Txt K mg ae a7 ac aj aa af ak ag a9 a8)  (F:Fun K "is_small" "is_small" jxq f fd):FnOk P w K mg base (CXE P w) 1 f fd ["plain"] (spF K mg 1 m_is_small):=
 qY F kx1 (qz rfl) λbi A outer s H vs Q E hr h=>qJ rfl
  (jx (kK (vqq (j5 (K0 vvh (Jv (g:=λa b=>decide (a<=b))) (j5 (qL (kx (vv 0) ki) T.b_len)) (j5 (q_C (V4 T.c_SMALL_ROOMS) (λ_=>wj))) (kq _))) (qqs (wxr (vwp K) wqk (j5 (qM .rt 1 [] 1 ["room"] (xY (jW (kx (vv 0) ki))) (λ_ _ _ _ _=>(K0 vvh (Jv (g:=λa b=>decide (a<=b))) (kx (vv 0) ki) (j5 (q_C (V4 T.c_SMALL_KEEPERS) (λ_=>wj))) (kq _))))) T.b_all wq7))))) h
theorem qk6(T:Txt K mg ae a7 ac aj aa af ak ag a9 a8)  (F:Fun K "read_by" "read_by" jzv f fd):FnOk P w K mg base (CXE P w) 1 f fd ["plain","standing","sign","name"] (spF K mg 4 m_read_by):=
 qY F sc_read_by (qz rfl) λbi A outer s H vs Q E hr h=>have nd:=sc_read_by.nd;qJ rfl
  (jk (vw (QW.pt (vql (kJ kvi kwp (vv 1) kn (kq _) kwi) (qqp (kJ (kzq hr.units) qjh (vv 2) (kx (vv 0) ki) (by rfl) qjd)))) (jx (kK kN)) vZ) (jk (qA nd (jW (kx (vv 1) ki))) (jk (qA nd (jW (kx (kx (kx (kx (vv 0) ki) (kx (vv 1) ki)) ki) (j5 (kx6 hr.units (kx (vv 0) ki) (vv 2)))))) (jk (qA nd (jW (kx (vv 5) (j5 (Qj (kJ (qzn hr.units) vju (vv 3) (vv 4) (by rfl) vjr) (kx6 hr.units (vv 4) (vv 3)) (qL (vv 4) T.b_len)))))) (jk (vw (kJ kvi kwp (vv 6) kn (kq _) kwi) (jx (kK kN)) vZ) (jk (qA nd (oA (vv 4) (j5 (qK (o:=.no) (j3 (cv 3) jv))))) (jx (kK (qK (o:=.no) (j3 (jW (kx (vv 6) ki)) (j3 (qT (j5 (qM .rt 1 [7] 8 ["fill","held"] (xY (jW (kx (vv 6) ki))) (λ_ _ _ _ _=>(jW (kx (vv 1) (vv 0)))))) T.b_tuple) jv))))))))))) h
theorem kq9(T:Txt K mg ae a7 ac aj aa af ak ag a9 a8)  (F:Fun K "is_good_in" "is_good_in" jvt f fd):FnOk P w K mg base (CXE P w) 1 f fd ["plain","room"] (spF K mg 2 m_is_good_in):=
 qY F kky (qz rfl) λbi A outer s H vs Q E hr h=>qJ rfl
  (jx (kK (vqq (j5 (K0 (qve hr.units) qxh (vv 1) (j5 (q_C (V4 T.c_NOWHERE) (λ_=>wj))) (kq _))) (qqs (jW (kx (kx (kx (vv 0) ki) (vv 1)) ki)))))) h
theorem qvf(T:Txt K mg ae a7 ac aj aa af ak ag a9 a8)(bz:jzb P w K mg base)(F:Fun K "agrees" "agrees" kkz f fd):FnOk P w K mg base (CXE P w) 2 f fd ["one","other","pair"] (spF K mg 3 m_agrees):=
 qY F qqa (qz rfl) λbi A outer s H vs Q E hr h=>qJ rfl
  (jx (kK (K0 (wv hr.units) wx (j5 (qC bz hr (j3 (cv 0) (j3 (jW (kx (vv 2) ki)) jv)))) (j5 (qC bz hr (j3 (cv 1) (j3 (jW (kx (vv 2) ki)) jv)))) (kq _)))) h
theorem kq8(T:Txt K mg ae a7 ac aj aa af ak ag a9 a8)  (F:Fun K "keepers_in" "keepers_in" jvs f fd):FnOk P w K mg base (CXE P w) 1 f fd ["plain","room"] (spF K mg 2 m_keepers_in):=
 qY F kkx (qz rfl) λbi A outer s H vs Q E hr h=>qJ rfl
  (jx (kK (Qj (kJ (wv hr.units) wx (vv 1) (j5 (q_C (V4 T.c_NOWHERE) (λ_=>wj))) (kq _) JX) kI (jW (kx (kx (kx (vv 0) ki) (vv 1)) ki))))) h
theorem kk1(T:Txt K mg ae a7 ac aj aa af ak ag a9 a8)  (F:Fun K "standing_in" "standing_in" jv9 f fd):FnOk P w K mg base (CXE P w) 1 f fd ["room","names"] (spF K mg 2 m_standing_in):=
 qY F kjz (qz rfl) λbi A outer s H vs Q E hr h=>qJ rfl
  (jx (kK (Qj (kJ (wv hr.units) wx (vv 0) (j5 (q_C (V4 T.c_NOWHERE) (λ_=>wj))) (kq _) JX) kN (qK (o:=.no) (j3 (cv 0) (j3 (qT (vv 1) T.b_tuple) jv)))))) h
theorem jx5(T:Txt K mg ae a7 ac aj aa af ak ag a9 a8)(c9:jza P w K mg base)(bq:jxg P w K mg base)(F:Fun K "first_standings" "first_standings" jq5 f fd):FnOk P w K mg base (CXE P w) 2 f fd ["one","other","pair"] (spF K mg 3 m_first_standings):=
 qY F sc_first_standings (qz rfl) λbi A outer s H vs Q E hr h=>have nd:=sc_first_standings.nd;qJ rfl
  (jk (qA nd (qC c9 hr (j3 (cv 0) (j3 (jW (kx (vv 2) ki)) jv)))) (jk (qA nd (zX (qx3 K) vjv (j5 (qm .rt 2 [] 7 ["i","j"] (xY (jW (kx (vv 2) ki))) (λhN _ _ _ _ _=>(vzm (is:=[0,1]) (ZJ K (t:=gNs [0,1]) (n:=2) (zY (xz (i:=0) hN rfl (by trivial)) (zY (xz (i:=1) hN rfl (by trivial)) kj1))))) (λ_ _ _ _ _=>qz4) (λ_ _ _ _ _=>(qK (o:=.no) (j3 (cv 1) (j3 (cv 0) jv)))))) T.b_dict vws)) (jk (qA nd (vQ (o:=.rt) jv)) (jk (qF (JJ (j5 (qC c9 hr (j3 (cv 1) (j3 (jW (kx (vv 2) ki)) jv)))) rfl T.b_range) (gN nd) (jx (qP (Qj (kJ (ww7 hr.units) wqi (vv 6) (vv 4) (by rfl) wq8) (jW (wvq hr.units (vv 4) (vv 6) (λ_ _=>rfl))) (oA (vv 3) (j5 (qL (j5 (wvp (o:=.rt) (k:=1) (R:=[3]) ["name","own"] (wvr (pv 5)) (λ_ _ _ _ _=>(WJ (xz (i:=0) (show(["name","own"]:List Str).Nodup by decide +kernel) rfl (by trivial)))) (λ_ _ _ _ _=>(qz3 (kJ ww6 (Jv (g:=λa b=>decide (b<=a))) (vv 0) (vv 1) (kq _) Kk))) (λ_ _ _ _ _=>(cv 0)) J8 ⟨_,_,rfl,rfl⟩ ⋯ (show ∀j∈([3]:List Nat) ,j<7 by decide))) T.b_len))))))) (jx (kK (qK (o:=.no) (j3 (qC bq hr (j3 (jW (kx (vv 2) ki)) (j3 (vqm (vv 3) T.b_range T.b_list) jv))) (j3 (vqp bq (hr.mono ⋯) J8 (vzr (kx (vv 2) ki) (vzr (vv 5) wvu))) jv))))))))) h
theorem kxd(T:Txt K mg ae a7 ac aj aa af ak ag a9 a8)  (F:Fun K "names_of" "names_of" jxp f fd):FnOk P w K mg base (CXE P w) 1 f fd ["standing"] (spF K mg 1 m_names_of):=
 qY F kx0 (qz rfl) λbi A outer s H vs Q E hr h=>qJ rfl
  (jx (kK (Qj (kJ kvi kwp (vv 0) kn (kq _) kwi) (qK (o:=.no) jv) (jW (kx (vv 0) ki))))) h
theorem kj7(T:Txt K mg ae a7 ac aj aa af ak ag a9 a8)(be:jz4 P w K mg base)(F:Fun K "held_by_both" "held_by_both" jqv f fd):FnOk P w K mg base (CXE P w) 2 f fd ["standings"] (spF K mg 1 m_held_by_both):=
 qY F sc_held_by_both (qz rfl) λbi A outer s H vs Q E hr h=>have nd:=sc_held_by_both.nd;qJ rfl
  (jk (qA nd (qC be hr (j3 (jW (kx (vv 0) ki)) jv))) (jx (kK (oA (vv 1) (j5 (qT (j5 (qm .rt 1 [1] 2 ["name","ours"] (xY (qC be hr (j3 (jW (kx (vv 0) ki)) jv))) (λhN _ _ _ _ _=>(WJ (xz (i:=0) hN rfl (by trivial)))) (λ_ _ _ _ _=>(qz3 (kJ (kzq hr.units) qjh (vv 0) (vv 1) (by rfl) qjd))) (λ_ _ _ _ _=>(cv 0)))) T.b_tuple)))))) h
theorem qk5(T:Txt K mg ae a7 ac aj aa af ak ag a9 a8)  (F:Fun K "room_of" "room_of" jzu f fd):FnOk P w K mg base (CXE P w) 1 f fd ["standing"] (spF K mg 1 m_room_of):=
 qY F qjs (qz rfl) λbi A outer s H vs Q E hr h=>qJ rfl
  (jx (kK (Qj (kJ kvi kwp (vv 0) kn (kq _) kwi) (q_C (V4 T.c_NOWHERE) (λ_=>wj)) (jW (kx (vv 0) ki))))) h
theorem qk7(T:Txt K mg ae a7 ac aj aa af ak ag a9 a8)(be:jz4 P w K mg base)(dh:kwq P w K mg base)(F:Fun K "pair_of" "pair_of" jzw f fd):FnOk P w K mg base (CXE P w) 2 f fd ["standings"] (spF K mg 1 m_pair_of):=
 qY F sc_pair_of (qz rfl) λbi A outer s H vs Q E hr h=>have nd:=sc_pair_of.nd;qJ rfl
  (jk (qA nd (qC be hr (j3 (jW (kx (vv 0) ki)) jv))) (jk (qA nd (qC be hr (j3 (jW (kx (vv 0) ki)) jv))) (jk (kq1 (i:=3) (o:=.rt) (k:=2) (R:=[2]) ["i","name","theirs"] nd rfl (by trivial) (vqn (cv 1) rfl T.b_enumerate) (λ_ _ _ _ _=>(vzm (is:=[0,1]) (ZJ K (t:=gNs [0,1]) (n:=2) (zY (xz (i:=0) (show(["i","name","theirs"]:List Str).Nodup by decide +kernel) rfl (by trivial)) (zY (xz (i:=1) (show(["i","name","theirs"]:List Str).Nodup by decide +kernel) rfl (by trivial)) kj1))))) (λ_ _ _ _ _=>(qz3 (kJ (qzn hr.units) vju (vv 1) (vv 2) (by rfl) vjr))) (λ_ _ _ _ _=>(qK (o:=.no) (j3 (cv 0) (j3 (kx6 hr.units (vv 2) (vv 1)) jv)))) J8 ⟨_,_,rfl,rfl⟩ ⋯ (show ∀j∈([2]:List Nat) ,j<4 by decide)) (jx (kK (qK (o:=.no) (j3 (qC dh hr (j3 (jW (kx (vv 0) ki)) jv)) (j3 (qC dh hr (j3 (jW (kx (vv 0) ki)) jv)) (j3 (qT (vv 3) T.b_tuple) jv))))))))) h
theorem kj5(T:Txt K mg ae a7 ac aj aa af ak ag a9 a8)(dg:kwr P w K mg base)(F:Fun K "read_by_both" "read_by_both" jqt f fd):FnOk P w K mg base (CXE P w) 2 f fd ["one","other","standings","sign","name"] (spF K mg 5 m_read_by_both):=
 qY F jzs (qz rfl) λbi A outer s H vs Q E hr h=>qJ rfl
  (jx (kK (qK (o:=.no) (j3 (qC dg hr (j3 (cv 0) (j3 (jW (kx (vv 2) ki)) (j3 (cv 3) (j3 (cv 4) jv))))) (j3 (qC dg hr (j3 (cv 1) (j3 (jW (kx (vv 2) ki)) (j3 (cv 3) (j3 (cv 4) jv))))) jv))))) h
theorem kq7(T:Txt K mg ae a7 ac aj aa af ak ag a9 a8)(b5:jq8 P w K mg base)(b9:jv0 P w K mg base)(f9:kws P w K mg base)(ba:jqz P w K mg base)(F:Fun K "steps_from" "steps_from" jvr f fd):FnOk P w K mg base (CXE P w) 3 f fd ["one","other","pair"] (spF K mg 3 Zv):=
 qY F sc_steps_from (qz rfl) λbi A outer s H vs Q E hr h=>have nd:=sc_steps_from.nd;qJ rfl
  (jk (qA nd (qC b5 hr (j3 (cv 0) (j3 (cv 1) (j3 (cv 2) jv))))) (jk (qA nd (vqm (j5 (oA (j5 (qL (j5 (qC b9 hr (j3 (cv 3) jv))) T.b_len)) ki)) T.b_range T.b_list)) (jk (qA nd (vQ (o:=.rt) jv)) (jk (qF (xY (kv7 rfl rfl (j5 (oA (kx (vv 0) ki) (kx (vv 1) ki))) T.b_sorted T.b_set)) (gN nd) (jx (qF (xY (cv 4)) (gN nd) (jx (qP (qK (o:=.no) (j3 (cv 6) (j3 (cv 7) (j3 (qC f9 hr (j3 (qC ba hr (j3 (cv 0) (j3 (cv 1) (j3 (cv 3) (j3 (cv 6) (j3 (cv 7) jv)))))) jv)) jv))))))))) (jx (kK (WY (pv 5)))))))) h
theorem kj6(T:Txt K mg ae a7 ac aj aa af ak ag a9 a8)  (F:Fun K "least_beside" "least_beside" jqu f fd):FnOk P w K mg base (CXE P w) 1 f fd ["names"] (spF K mg 1 ZY):=
 qY F sc_least_beside (qz rfl) λbi A outer s H vs Q E hr h=>have nd:=sc_least_beside.nd;qJ rfl
  (jk (qA nd kI) (jk (kq0 (qv9 ⟨_,_,rfl,rfl⟩) (kJ (qzn hr.units) vju (vv 1) (vv 0) (by rfl) vjr) (jx (vzs (i:=1) nd rfl (by trivial) vkh kI))) (jx (kK (WY (pv 1)))))) h
theorem kk2(T:Txt K mg ae a7 ac aj aa af ak ag a9 a8)(b5:jq8 P w K mg base)(b9:jv0 P w K mg base)(ba:jqz P w K mg base)(ce:jwn P w K mg base)(F:Fun K "parting_row" "parting_row" jva f fd):FnOk P w K mg base (CXE P w) 3 f fd ["one","other","first","steps"] (spF K mg 4 ZX):=
 qY F sc_parting_row (qz rfl) λbi A outer s H vs Q E hr h=>have nd:=sc_parting_row.nd;qJ rfl
  (jk (qA nd (qC b5 hr (j3 (cv 0) (j3 (cv 1) (j3 (cv 2) jv))))) (jk (qA nd (vQ (o:=.rt) jv)) (jk (qF (xY (cv 3)) (vzm (is:=[6,7]) (ZJ K (t:=gNs [6,7]) (n:=2) (zY (gn nd) (zY (gn nd) kj1)))) (jk (qA nd (qC b9 hr (j3 (cv 4) jv))) (jk (qA nd (Qj (kJ qvc (Jv (g:=λa b=>decide (a<b))) (vv 7) (j5 (qL (vv 8) T.b_len)) (kq _) Kk) (jW (kx (vv 8) (vv 7))) (qC ce hr (j3 (cv 8) jv)))) (jk (qP (qK (o:=.no) (j3 (cv 6) (j3 (cv 9) jv)))) (jx (qA nd (qC ba hr (j3 (cv 0) (j3 (cv 1) (j3 (cv 4) (j3 (cv 6) (j3 (cv 9) jv)))))))))))) (jx (kK (WY (pv 5))))))) h
theorem kxb(T:Txt K mg ae a7 ac aj aa af ak ag a9 a8)  (F:Fun K "steps_to" "steps_to" jxn f fd):FnOk P w K mg base (CXE P w) 1 f fd ["ways","pair"] (spF K mg 2 jv6):=
 qY F sc_steps_to (qz rfl) λbi A outer s H vs Q E hr h=>have nd:=sc_steps_to.nd;qJ rfl
  (jk (qA nd (vQ (o:=.rt) jv)) (jk (qA nd (jW (vzl hr.units (vv 0) (vv 1) (λ_ _=>rfl)))) (jk (kq0 (qv9 ⟨_,_,rfl,rfl⟩) (kJ qvb qxg (vv 3) kn (kq _) qx9) (jk (qP (qK (o:=.no) (j3 (jW (kx (vv 3) ki)) (j3 (jW (kx (vv 3) ki)) jv)))) (jx (qA nd (jW (vzl hr.units (vv 0) (kx (vv 3) ki) (λ_ _=>rfl))))))) (jx (kK (vzj (vv 2) T.b_reversed T.b_list)))))) h
theorem kxc(T:Txt K mg ae a7 ac aj aa af ak ag a9 a8)(ci:jz9 P w K mg base)(fj:qjj P w K mg base)(cf:jxh P w K mg base)(dl:kkl P w K mg base)(F:Fun K "searched" "searched" jxo f fd):FnOk P w K mg base (CXE P w) 4 f fd ["one","other","first"] (spF K mg 3 jv7):=
 qY F sc_searched (qz rfl) λbi A outer s H vs Q E hr h=>have nd:=sc_searched.nd;qJ rfl
  (jk (qA nd (vzp hr.units (cv 2) kN)) (jk (qA nd (vQ (o:=.rt) (j3 (cv 2) jv))) (jk (qA nd kI) (jk (kq0 (qv9 ⟨_,_,rfl,rfl⟩) (kJ qvc (Jv (g:=λa b=>decide (a<b))) (vv 5) (j5 (qL (vv 4) T.b_len)) (kq _) Kk) (jk (qA nd (jW (kx (vv 4) (vv 5)))) (jk (vw (VX (K4 (j5 (qC fj hr (j3 (cv 0) (j3 (cv 1) (j3 (cv 6) jv))))))) (jx (kK (qK (o:=.no) (j3 kS (j3 (qC cf hr (j3 (cv 0) (j3 (cv 1) (j3 (cv 2) (j3 (qC dl hr (j3 (cv 3) (j3 (cv 6) jv))) jv))))) jv))))) vZ) (jk (qF (xY (qC ci hr (j3 (cv 0) (j3 (cv 1) (j3 (cv 6) jv))))) (vzm (is:=[7,8,9]) (ZJ K (t:=gNs [7,8,9]) (n:=3) (zY (gn nd) (zY (gn nd) (zY (gn nd) kj1))))) (jx (vw (kJ (qzm hr.units) qxf (vv 9) (vv 3) (by rfl) qx8) (jk (vzo (i:=3) hr.units rfl (pv 3) (vv 9) (qK (o:=.no) (j3 (cv 6) (j3 (cv 7) (j3 (cv 8) jv))))) (jx (qP (cv 9)))) vZ))) (jx (vzs (i:=5) nd rfl (by trivial) vkh kI)))))) (jx (kK (qK (o:=.no) (j3 kS (j3 (cv 4) jv))))))))) h
theorem kxf(T:Txt K mg ae a7 ac aj aa af ak ag a9 a8)(dm:kkm P w K mg base)(cm:kkn P w K mg base)(F:wx6 K "compared" "compared" jxr f fd):FnOk P w K mg base (CXE P w) 5 f fd ["one","other","pair"] (spF K mg 3 Jq):=
 vwx F kx2 (qz rfl) λbi A outer s H vs Q E hr h=>qJ rfl
  (jk (vw (kJ (qve hr.units) qxh (kx (vv 0) ki) (kx (vv 1) ki) (kq _) vjq) (jx (qqq T.e_NoFit T.m_NoFit J8 kzo)) vZ) (jk (vw (QW.pt (vql (VX (K4 (j5 (qC cm hr (j3 (cv 0) jv))))) (qqp (VX (K4 (j5 (qC cm hr (j3 (cv 1) jv)))))))) (jx (qqq T.e_TooGreat T.m_TooGreat J8 kzo)) vZ) (jx (kK (qC dm hr (j3 (cv 0) (j3 (cv 1) (j3 (Qj (kJ kvi kwp (vv 2) kn (kq _) kwi) (q_CD T.c_FIRST_PAIR) (cv 2)) jv)))))))) h
theorem kja(T:Txt K mg ae a7 ac aj aa af ak ag a9 a8)  (F:Fun K "_law_cell_at" "_law_cell_at" jqy f fd):FnOk P w K mg base (CXE P w) 1 f fd ["_law_script","_law_k"] (spF K mg 2 m__law_cell_at):=
 qY F jzt (qz rfl) λbi A outer s H vs Q E hr h=>qJ rfl
  (jk (vw (kJ qvc (Jv (g:=λa b=>decide (a<b))) (vv 1) (j5 (qL (vv 0) T.b_len)) (kq _) Kk) (jx (kK (jW (kx (vv 0) (vv 1))))) vZ) (jx (kK kI))) h
theorem kk3(T:Txt K mg ae a7 ac aj aa af ak ag a9 a8)  (F:Fun K "_law_stream" "_law_stream" jvb f fd):FnOk P w K mg base (CXE P w) 1 f fd ["_law_cell","_law_many"] (spF K mg 2 m__law_stream):=
 qY F sc__law_stream (qz rfl) λbi A outer s H vs Q E hr h=>have nd:=sc__law_stream.nd;qJ rfl
  (jk (qA nd (vQ (o:=.rt) jv)) (jk (vw (kJ (wv hr.units) wx (j5 (oM (vv 0) ki)) ki (kq _) JX) (jk (qA nd (qW vz vW (vv 0) ki)) (jk (qF (JJ (vv 1) rfl T.b_range) (gN nd) (jk (qP (oM (vv 0) ki)) (jx (qA nd (qW vz vW (vv 0) ki))))) (jx (kK (WY (pv 2)))))) vZ) (jk (qA nd (oA (j5 (oM (j5 (qW vz vW (vv 0) ki)) ki)) ki)) (jk (qF (JJ (j5 (oA (vv 1) ki)) rfl T.b_range) (gN nd) (jk (qA nd (oM (j5 (oA (j5 (oA (j5 (oX (vv 4) (vv 4))) (j5 (oX ki (vv 4))))) (vv 3))) ki)) (jx (qP (oM (j5 (oA (j5 (oX (vv 4) ki)) (j5 (oX ki (vv 3))))) ki))))) (jx (kK (K3 (vv 2) (Kw ki) K5))))))) h
theorem kqa(T:Txt K mg ae a7 ac aj aa af ak ag a9 a8)(bc:jvi P w K mg base)(F:Fun K "_law_signs" "_law_signs" jvu f fd):FnOk P w K mg base (CXE P w) 2 f fd ["_law_cell"] (spF K mg 1 m__law_signs):=
 qY F sc__law_signs (qz rfl) λbi A outer s H vs Q E hr h=>have nd:=sc__law_signs.nd;qJ rfl
  (jk (qA nd kS) (jk (qA nd (qC bc hr (j3 (cv 0) (j3 kI jv)))) (jk (qA nd (vzk kzo (j5 (qM .rt 1 [1] 7 ["_law_x","_law_letters"] (xY (K3 (vv 2) K5 (Kw (j5 (oA ki (j5 (oM (vv 0) ki))))))) (λ_ _ _ _ _=>(jW (kx (vv 1) (j5 (oM (vv 0) ki))))))))) (jk (qA nd (oM (j5 (qW vz vW (vv 0) ki)) (j5 (qL (vv 3) T.b_len)))) (jk (qA nd (vQ (o:=.rt) jv)) (jk (qF (JJ (kx (j5 (vQ (o:=.rt) (j3 kI (j3 kI (j3 kI (j3 kI (j3 kI (j3 kI (j3 kI (j3 kI jv)))))))))) (j5 (oM (j5 (qW vz vW (vv 0) ki)) ki))) rfl T.b_range) (gN nd) (jx (qP (oA (j5 (oA (j5 (K3 (vv 3) K5 (Kw (vv 4)))) (kx (vv 1) (j5 (oA (j5 (oM (kx (vv 2) ki) ki)) (vv 6)))))) (j5 (K3 (vv 3) (Kw (j5 (oA (vv 4) ki))) K5)))))) (jx (kK (WY (pv 5)))))))))) h
theorem kqc(T:Txt K mg ae a7 ac aj aa af ak ag a9 a8)  (F:Fun K "_law_fills" "_law_fills" jvw f fd):FnOk P w K mg base (CXE P w) 1 f fd ["_law_number","_law_need","_law_free"] (spF K mg 3 m__law_fills):=
 qY F sc__law_fills (qz rfl) λbi A outer s H vs Q E hr h=>have nd:=sc__law_fills.nd;qJ rfl
  (jk (qA nd (vqm (vv 2) T.b_range T.b_list)) (jk (qA nd (vQ (o:=.rt) jv)) (jk (qF (JJ (vv 1) rfl T.b_range) (gN nd) (jk (qP (wvo (i:=3) (vkd K PySem.F.plainAttrs_list PySem.F.slot_list_pop PySem.F.type_list_pop qzr (pv 3) (qZ (j5 (oM (vv 0) (j5 (qL (vv 3) T.b_len)))) wq)))) (jx (qA nd (oA (j5 (qW vz vW (vv 0) ki)) (j5 (oX ki (vv 5)))))))) (jx (kK (qT (vv 4) T.b_tuple)))))) h
theorem kvj(T:Txt K mg ae a7 ac aj aa af ak ag a9 a8)(cn:jze P w K mg base)(F:Fun K "_law_case" "_law_case" jws f fd):FnOk P w K mg base (CXE P w) 2 f fd ["_law_number","_law_sizes","_law_free"] (spF K mg 3 m__law_case):=
 qY F sc__law_case (qz rfl) λbi A outer s H vs Q E hr h=>have nd:=sc__law_case.nd;qJ rfl
  (jk (vw (kJ (wv hr.units) wx (j5 (oM (vv 0) ki)) ki (kq _) JX) (jx (kK kN)) vZ) (jk (kq1 (i:=3) (o:=.rt) (k:=1) (R:=[1,2]) ["_law_to","_law_sizes","_law_free"] nd rfl (by trivial) (JJ (j5 (qL (vv 1) T.b_len)) rfl T.b_range) (λ_ _ _ _ _=>(WJ (xz (i:=0) (show(["_law_to","_law_sizes","_law_free"]:List Str).Nodup by decide +kernel) rfl (by trivial)))) (λ_ _ _ _ _=>(qz3 (kJ vvh (Jv (g:=λa b=>decide (a<=b))) (kx (vv 1) (vv 0)) (vv 2) (kq _) Kk))) (λ_ _ _ _ _=>(cv 0)) J8 ⟨_,_,rfl,rfl⟩ ⋯ (show ∀j∈([1,2]:List Nat) ,j<5 by decide)) (jk (qA nd (jW (kx (vv 3) (j5 (oM (j5 (qW vz vW (vv 0) ki)) (j5 (qL (vv 3) T.b_len))))))) (jx (kK (qK (o:=.no) (j3 (cv 4) (j3 (qC cn hr (j3 (qW vz vW (vv 0) ki) (j3 (jW (kx (vv 1) (vv 4))) (j3 (cv 2) jv)))) jv)))))))) h
theorem kqb(T:Txt K mg ae a7 ac aj aa af ak ag a9 a8)(bc:jvi P w K mg base)(d8:kjw P w K mg base)(F:Fun K "_law_plain" "_law_plain" jvv f fd):FnOk P w K mg base (CXE P w) 3 f fd ["_law_cell","_law_signs_here"] (spF K mg 2 m__law_plain):=
 qY F sc__law_plain (qz rfl) λbi A outer s H vs Q E hr h=>have nd:=sc__law_plain.nd;qJ rfl
  (jk (qA nd (qC bc hr (j3 (cv 0) (j3 kI jv)))) (jk (qA nd (jW (kx (j5 (vQ (o:=.rt) (j3 kI (j3 kI (j3 kI (j3 kI (j3 kI (j3 kI (j3 kI (j3 kI jv)))))))))) (j5 (oM (kx (vv 2) ki) ki))))) (jk (qA nd kI) (jk (vw (QW.pt (W1 (kJ (wv hr.units) wx (vv 3) ki (kq _) JX) (jzz (kJ (wv hr.units) wx (j5 (oM (kx (vv 2) ki) ki)) ki (kq _) JX)))) (jx (qA nd kI)) vZ) (jk (qA nd (oA (j5 (vQ (o:=.rt) (j3 kI jv))) (j5 (qM .rt 1 [2,4] 13 ["_law_k","_law_xs","_law_most"] (JJ (j5 (qW kvg ZV (vv 3) ki)) rfl T.b_range) (λ_ _ _ _ _=>(oM (j5 (qW vz vW (kx (vv 1) (j5 (oA ki (vv 0)))) ki)) (j5 (oA (vv 2) ki)))))))) (jk (qA nd (vQ (o:=.rt) jv)) (jk (qA nd kI) (jk (qF (JJ (vv 3) rfl T.b_range) (gN nd) (jk (qA nd (vQ (o:=.rt) jv)) (jk (qF (JJ (j5 (qL (vv 1) T.b_len)) rfl T.b_range) (gN nd) (jk (qA nd (vQ (o:=.rt) jv)) (jk (qF (JJ (j5 (oA (kx (vv 5) (vv 8)) ki)) rfl T.b_range) (gN nd) (jk (qP (qC d8 hr (j3 (jW (kx (vv 2) (vv 7))) (j3 (cv 5) (j3 (oA (kx (vv 5) (vv 8)) (j5 (zX kjt qxi (j5 (K0 (wv hr.units) wx (vv 12) (kx (vv 5) (vv 8)) (kq _))) T.b_int qx4))) jv))))) (jx (qA nd (oA (vv 7) ki))))) (jx (qP (cv 11)))))) (jk (qP (qK (o:=.no) (j3 (jW (kx (vv 5) (vv 8))) (j3 (K0 (wv hr.units) wx (j5 (oM (kx (vv 2) (vv 7)) ki)) ki (kq _)) (j3 (cv 9) jv))))) (jx (qA nd (oA (vv 7) ki))))))) (jx (kK (qK (o:=.no) (j3 (zX (VQ K) V1 (vv 1) T.b_list Kx) (j3 (cv 6) jv))))))))))))) h
theorem kj9(T:Txt K mg ae a7 ac aj aa af ak ag a9 a8)  (F:Fun K "_law_greater" "_law_greater" jqx f fd):FnOk P w K mg base (CXE P w) 1 f fd ["_law_plain_here","_law_cell"] (spF K mg 2 W7):=
 qY F sc__law_greater (qz rfl) λbi A outer s H vs Q E hr h=>have nd:=sc__law_greater.nd;qJ rfl
  (jk (qA nd (zX (VQ K) V1 (kx (vv 0) ki) T.b_list Kx)) (jk (vw (kJ (wv hr.units) wx (j5 (oM (vv 1) ki)) ki (kq _) JX) (jx (kq0 (qv9 ⟨_,_,rfl,rfl⟩) (kJ qvc (Jv (g:=λa b=>decide (a<b))) (j5 (qL (vv 2) T.b_len)) (j5 (oA ki (j5 (oM (j5 (qW vz vW (vv 1) ki)) ki)))) (kq _) Kk) (jx (qP (qK (o:=.no) (j3 kI (j3 (K0 (wv hr.units) wx (j5 (oM (j5 (qL (vv 2) T.b_len)) ki)) ki (kq _)) (j3 (qM .rt 1 [] 4 ["_law_sign"] (xY (jW (kx (vv 0) ki))) (λ_ _ _ _ _=>(vQ (o:=.rt) (j3 kN jv)))) jv)))))))) (jk (qA nd (oA ki (j5 (oM (j5 (qW vz vW (vv 1) ki)) ki)))) (jx (qP (qK (o:=.no) (j3 (cv 3) (j3 (K0 (wv hr.units) wx (j5 (oM (j5 (qW vz vW (vv 1) ki)) ki)) ki (kq _)) (j3 (qM .rt 1 [3] 4 ["_law_sign","_law_keepers"] (xY (jW (kx (vv 0) ki))) (λ_ _ _ _ _=>(oX (j5 (vQ (o:=.rt) (j3 kN jv))) (j5 (oA (vv 1) ki))))) jv)))))))) (jx (kK (qK (o:=.no) (j3 (zX (VQ K) V1 (kx (vv 0) ki) T.b_list Kx) (j3 (cv 2) jv))))))) h
theorem jwt(T:Txt K mg ae a7 ac aj aa af ak ag a9 a8)  (F:Fun K "_law_other_signs" "_law_other_signs" jkt f fd):FnOk P w K mg base (CXE P w) 1 f fd ["_law_plain_here","_law_cell"] (spF K mg 2 Wq):=
 qY F sc__law_other_signs (qz rfl) λbi A outer s H vs Q E hr h=>have nd:=sc__law_other_signs.nd;qJ rfl
  (jk (qA nd (zX (VQ K) V1 (kx (vv 0) ki) T.b_list Kx)) (jk (qA nd (oM (vv 1) (j5 (qL (vv 2) T.b_len)))) (jk (vw (QW.pt (W1 (kJ (wv hr.units) wx (j5 (oM (j5 (qW vz vW (vv 1) ki)) ki)) ki (kq _) JX) (jzz (kJ wjk (Jv (g:=λa b=>decide (b<a))) (j5 (qL (vv 2) T.b_len)) ki (kq _) Kk)))) (jk (qA nd (oA (j5 (K3 (vv 2) K5 (Kw (vv 3)))) (j5 (K3 (vv 2) (Kw (j5 (oA (vv 3) ki))) K5)))) (jk (kq1 (i:=5) (o:=.rt) (k:=3) (R:=[3]) ["_law_keepers","_law_good","_law_steps","_law_at"] nd rfl (by trivial) (xY (jW (kx (vv 0) ki))) (λ_ _ _ _ _=>(vzm (is:=[0,1,2]) (ZJ K (t:=gNs [0,1,2]) (n:=3) (zY (xz (i:=0) (show(["_law_keepers","_law_good","_law_steps","_law_at"]:List Str).Nodup by decide +kernel) rfl (by trivial)) (zY (xz (i:=1) (show(["_law_keepers","_law_good","_law_steps","_law_at"]:List Str).Nodup by decide +kernel) rfl (by trivial)) (zY (xz (i:=2) (show(["_law_keepers","_law_good","_law_steps","_law_at"]:List Str).Nodup by decide +kernel) rfl (by trivial)) kj1)))))) (λ_ _ _ _ _=>qz4) (λ_ _ _ _ _=>(qK (o:=.no) (j3 (cv 0) (j3 (cv 1) (j3 (oA (j5 (K3 (vv 2) K5 (Kw (vv 3)))) (j5 (K3 (vv 2) (Kw (j5 (oA (vv 3) ki))) K5))) jv))))) J8 ⟨_,_,rfl,rfl⟩ ⋯ (show ∀j∈([3]:List Nat) ,j<8 by decide)) (jx (kK (qK (o:=.no) (j3 (cv 4) (j3 (cv 5) jv))))))) vZ) (jk (qA nd (jW (kx (vv 2) (vv 3)))) (jk (qA nd (jW (kx ks (j5 (oM (j5 (qW vz vW (vv 1) ki)) ki))))) (jk (vw (kJ qvc (Jv (g:=λa b=>decide (a<b))) (j5 (qL (vv 6) T.b_len)) ki (kq _) Kk) (jx (qqr (i:=2) (pv 2) (vv 3) (oA (vv 6) (vv 7)))) (jx (qqr (i:=2) (pv 2) (vv 3) (K3 (vv 6) K5 (Kw ki))))) (jk (vw (kJ (qve hr.units) qxh (vv 2) (j5 (kv7 rfl rfl (vv 2) T.b_sorted T.b_set)) (kq _) vjq) (jx (kK kN)) vZ) (jx (kK (qK (o:=.no) (j3 (cv 2) (j3 (zX (VQ K) V1 (kx (vv 0) ki) T.b_list Kx) jv)))))))))))) h
theorem kj8(T:Txt K mg ae a7 ac aj aa af ak ag a9 a8)(cj:kko P w K mg base)(F:Fun K "_law_refused" "_law_refused" jqw f fd):FnOk P w K mg base (CXE P w) 6 f fd ["_law_one","_law_other","_law_bit"] (spF K mg 3 K1):=
 qY F sc__law_refused (qz rfl) λbi A outer s H vs Q E hr h=>have nd:=sc__law_refused.nd;qJ rfl
  (jk (qA nd kS) (jk (vzi (i:=4) (cs:=["NoFit","TooGreat"]) nd rfl rfl ⟨_,_,rfl,rfl⟩ T.m_RoomError rfl (kjr T.e_NoFit T.n_NoFit T.h_NoFit_RoomError (kjr T.e_TooGreat T.n_TooGreat T.h_TooGreat_RoomError qki)) (kJ (wv hr.units) wx (vv 2) ki (kq _) JX) (qz6 cj (hr.mono ⋯) (j3 (cv 0) (j3 (cv 1) jv))) (vqo cj.e (hr.mono ⋯) (j3 (cv 0) (j3 (cv 1) (j3 (qK (o:=.no) (j3 kI (j3 kI (j3 (qK (o:=.no) jv) jv)))) jv)))) (λx_x=>(jk (qA nd kS) (jk (qA nd (wvs (us:=[a8,a9,ag,ak,af,aa,aj]) (vv 4) T.b_isinstance (qZ (J9 T.m_NoExchange) (qZ (J9 T.m_NoMachine) (qZ (J9 T.m_NoName) (qZ (J9 T.m_NoRow) (qZ (J9 T.m_NoText) (qZ (J9 T.m_NotSingle) (qZ (J9 T.m_NoWay) wq))))))) rfl (qj1 T.n_NoFit (xw T.i_NoFit_NoExchange (xw T.i_NoFit_NoMachine (xw T.i_NoFit_NoName (xw T.i_NoFit_NoRow (xw T.i_NoFit_NoText (xw T.i_NoFit_NotSingle (xw T.i_NoFit_NoWay qw0))))))) (qj1 T.n_TooGreat (xw T.i_TooGreat_NoExchange (xw T.i_TooGreat_NoMachine (xw T.i_TooGreat_NoName (xw T.i_TooGreat_NoRow (xw T.i_TooGreat_NoText (xw T.i_TooGreat_NotSingle (xw T.i_TooGreat_NoWay qw0))))))) vw0)))) (jk (vw (QW.pt (W1 (K4 (j5 (Wv (vv 4) T.b_isinstance (qv7 (v:=.ty "ValueError") rfl T.b_ValueError jxd rfl) rfl (kzz T.n_NoFit T.i_NoFit_ValueError (kzz T.n_TooGreat T.i_TooGreat_ValueError W9))))) (W1 (VX (K4 (vv 5))) (jzz (VX (K4 (j5 (Wv (vv 4) T.b_isinstance (J9 T.m_NoFit) rfl (Qx T.n_NoFit T.i_NoFit_NoFit (Qx T.n_TooGreat T.i_TooGreat_NoFit W9)))))))))) (jx (qA nd (jW (kx (j5 (vQ (o:=.rt) (j3 kS (j3 kS jv)))) (j5 (zX kjt qxi (j5 (Wv (vv 4) T.b_isinstance (J9 T.m_TooGreat) rfl (Qx T.n_NoFit T.i_NoFit_TooGreat (Qx T.n_TooGreat T.i_TooGreat_TooGreat W9)))) T.b_int qx4)))))) vZ) (jx (vw (QW.pt (W1 (K4 (j5 (Wv (vv 4) T.b_isinstance (qv7 (v:=.ty "ValueError") rfl T.b_ValueError jxd rfl) rfl (kzz T.n_NoFit T.i_NoFit_ValueError (kzz T.n_TooGreat T.i_TooGreat_ValueError W9))))) (W1 (VX (K4 (vv 5))) (jzz (VX (K4 (j5 (Wv (vv 4) T.b_isinstance (J9 T.m_TooGreat) rfl (Qx T.n_NoFit T.i_NoFit_TooGreat (Qx T.n_TooGreat T.i_TooGreat_TooGreat W9)))))))))) (jx (qA nd (jW (kx (j5 (vQ (o:=.rt) (j3 kS (j3 kS jv)))) (j5 (zX kjt qxi (j5 (Wv (vv 4) T.b_isinstance (J9 T.m_NoFit) rfl (Qx T.n_NoFit T.i_NoFit_NoFit (Qx T.n_TooGreat T.i_TooGreat_NoFit W9)))) T.b_int qx4)))))) vZ))))))) (jx (kK (WY (pv 3)))))) h
theorem wjp(T:Txt K mg ae a7 ac aj aa af ak ag a9 a8)(cp:jzc P w K mg base)(cb:jzd P w K mg base)(au:jwq P w K mg base)(bo:jwp P w K mg base)(bb:jqr P w K mg base)(bf:jwo P w K mg base)(F:Fun K "law" "law" vqe f fd):FnOk P w K mg base (CXE P w) 7 f fd ["_law_script"] (spF K mg 1 m_law):=
 qY F sc_law (qz rfl) λbi A outer s H vs Q E hr h=>have nd:=sc_law.nd;qJ rfl
  (jk (qA nd (qC cp hr (j3 (qC au hr (j3 (cv 0) (j3 kI jv))) jv))) (jk (qA nd (qC cb hr (j3 (qC au hr (j3 (cv 0) (j3 kI jv))) (j3 (cv 1) jv)))) (jk (qA nd (qC cb hr (j3 (qC au hr (j3 (cv 0) (j3 kI jv))) (j3 (cv 1) jv)))) (jk (qA nd (oM (j5 (qC au hr (j3 (cv 0) (j3 kI jv)))) ki)) (jk (qA nd (qC au hr (j3 (cv 0) (j3 kI jv)))) (jk (qA nd (vQ (o:=.rt) (j3 (cv 2) (j3 (cv 3) jv)))) (jk (qA nd kS) (jk (vw (kJ (qzn hr.units) vju (vv 4) (j5 (qK (o:=.no) (j3 kI (j3 kI jv)))) (by rfl) vjr) (jk (qqr (i:=6) (pv 6) (j5 (oM (vv 5) ki)) (qC bo hr (j3 (jW (kx (vv 6) (j5 (oM (vv 5) ki)))) (j3 (qW vz vW (vv 5) ki) jv)))) (jk (vw (kJ (wv hr.units) wx (j5 (oM (j5 (qW vz vW (vv 5) ki)) ki)) ki (kq _) JX) (jx (qqr (i:=6) (pv 6) (j5 (qW kvg ZV ki (j5 (oM (vv 5) ki)))) (qC bo hr (j3 (jW (kx (vv 6) (j5 (qW kvg ZV ki (j5 (oM (vv 5) ki)))))) (j3 (qW vz vW (vv 5) ki) jv))))) vZ) (jx (qA nd kS)))) vZ) (jk (qA nd (oM (j5 (qW vz vW (vv 5) ki)) ki)) (jk (vw (QW.pt (W1 (kJ wjk (Jv (g:=λa b=>decide (b<a))) (vv 4) ki (kq _) Kk) (jzz (kJ qvb qxg (j5 (qC bb hr (j3 (jW (kx (vv 6) (vv 8))) (j3 (qC au hr (j3 (cv 0) (j3 kI jv))) jv)))) kn (kq _) qx9)))) (jk (qqr (i:=6) (pv 6) (vv 8) (qC bb hr (j3 (jW (kx (vv 6) (vv 8))) (j3 (qC au hr (j3 (cv 0) (j3 kI jv))) jv)))) (jx (qA nd kS))) vZ) (jk (kq1 (i:=9) (o:=.rt) (k:=1) (R:=[]) ["_law_plain_here"] nd rfl (by trivial) (xY (cv 6)) (λ_ _ _ _ _=>(WJ (xz (i:=0) (show(["_law_plain_here"]:List Str).Nodup by decide +kernel) rfl (by trivial)))) (λ_ _ _ _ _=>qz4) (λ_ _ _ _ _=>(qK (o:=.no) (j3 (zX (VQ K) V1 (kx (vv 0) ki) T.b_list Kx) (j3 (zX (VQ K) V1 (kx (vv 0) ki) T.b_list Kx) jv)))) J8 ⟨_,_,rfl,rfl⟩ ⋯ (show ∀j∈([]:List Nat) ,j<11 by decide)) (jk (qA nd (oM (j5 (qW vz vW (j5 (qC au hr (j3 (cv 0) (j3 kI jv)))) ki)) ki)) (jk (vw (QW.pt (vql (kJ (qve hr.units) qxh (j5 (qC bf hr (j3 (jW (kx (vv 6) ki)) (j3 (jW (kx (vv 6) ki)) (j3 (cv 10) jv))))) (vv 7) (kq _) vjq) (qqp (kJ (qve hr.units) qxh (vv 6) (vv 9) (kq _) vjq)))) (jx (kK (q_C ww2 (λ_=>qqg)))) vZ) (jx (kK (vqq (j5 (K0 (wv hr.units) wx (j5 (qC bf hr (j3 (cv 2) (j3 (cv 3) (j3 (qW kvg ZV ki (vv 10)) jv))))) ks (kq _))) (qqs (K0 (wv hr.units) wx (j5 (qC bf hr (j3 (jW (kx (vv 6) ki)) (j3 (jW (kx (vv 6) ki)) (j3 (qW kvg ZV ki (vv 10)) jv))))) (vv 7) (kq _))))))))))))))))))) h
end
theorem all_mk{l:PySem.W.OpenLaw}{w:PySem.World}{K:Frag}{h:Heap}{mg:Str->Option Value}{fa:Addr}(X:K.In h)(G:h.Ns mainGlobals mg)(hfa:mg "law"=some (.ref fa)){dj cu gb:Value}{ck df:Addr}{dv da:Obj}{ae a7 ac aj aa af ak ag a9 a8:Addr}
  (g0:Gf K "is_small" jxq)
  (g1:Gf K "read_by" jzv)
  (g2:Gf K "is_good_in" jvt)
  (g3:Gf K "agrees" kkz)
  (g4:Gf K "keepers_in" jvs)
  (g5:Gf K "standing_in" jv9)
  (g6:Gf K "first_standings" jq5)
  (g7:Gf K "names_of" jxp)
  (g8:Gf K "held_by_both" jqv)
  (g9:Gf K "room_of" jzu)
  (g10:Gf K "pair_of" jzw)
  (g11:Gf K "read_by_both" jqt)
  (g12:Gf K "steps_from" jvr)
  (g13:Gf K "least_beside" jqu)
  (g14:Gf K "parting_row" jva)
  (g15:Gf K "steps_to" jxn)
  (g16:Gf K "searched" jxo)
  (g17:GfD K "compared" jxr)
  (g18:Gf K "_law_cell_at" jqy)
  (g19:Gf K "_law_stream" jvb)
  (g20:Gf K "_law_signs" jvu)
  (g21:Gf K "_law_fills" jvw)
  (g22:Gf K "_law_case" jws)
  (g23:Gf K "_law_plain" jvv)
  (g24:Gf K "_law_greater" jqx)
  (g25:Gf K "_law_other_signs" jkt)
  (g26:Gf K "_law_refused" jqw)
  (g27:Gf K "law" vqe)
  (q_SMALL_ROOMS:nsIn K mainGlobals "SMALL_ROOMS"=some (some dj)) (r_SMALL_ROOMS:RelV (V.int (12)) dj)
  (q_SMALL_KEEPERS:nsIn K mainGlobals "SMALL_KEEPERS"=some (some cu)) (r_SMALL_KEEPERS:RelV (V.int (3)) cu)
  (q_NOWHERE:nsIn K mainGlobals "NOWHERE"=some (some gb)) (r_NOWHERE:RelV (V.int (-1)) gb)
  (q_FIRST_PAIR:nsIn K mainGlobals "FIRST_PAIR"=some (some (.ref ck)))
  (l_FIRST_PAIR:K.lookup ck=some dv)
  (t_FIRST_PAIR:wx3 dv [(V.int 0),(V.int 0),.ref df])
  (l_FIRST_PAIR_2:K.lookup df=some da)
  (t_FIRST_PAIR_2:wx3 da [])
  (z_ValueError:nsIn K mainGlobals "ValueError"=some none)
  (z_all:nsIn K mainGlobals "all"=some none)
  (z_dict:nsIn K mainGlobals "dict"=some none)
  (z_enumerate:nsIn K mainGlobals "enumerate"=some none)
  (z_int:nsIn K mainGlobals "int"=some none)
  (z_isinstance:nsIn K mainGlobals "isinstance"=some none)
  (z_len:nsIn K mainGlobals "len"=some none)
  (z_list:nsIn K mainGlobals "list"=some none)
  (z_range:nsIn K mainGlobals "range"=some none)
  (z_reversed:nsIn K mainGlobals "reversed"=some none)
  (z_set:nsIn K mainGlobals "set"=some none)
  (z_sorted:nsIn K mainGlobals "sorted"=some none)
  (z_tuple:nsIn K mainGlobals "tuple"=some none)
  (n_NoFit:nsIn K mainGlobals "NoFit"=some (some (.ref ae)))
  (ec_NoFit:PySem.W.excIn K ae bmV "ValueError.__new__"=true) (ga_NoFit:findIn K (.ref ae) "__getattribute__"=some (some (.builtin "BaseException.__getattribute__"))) (gt_NoFit:findIn K (.ref ae) "__getattr__"=some none) (fa_NoFit:findIn K (.ref ae) "__class__"=some (some (.builtin "object.__class__"))) (fg_NoFit:PySem.W.specialIn K (.builtin "object.__class__") "__get__"=some (some (.builtin "getset_descriptor.__get__"))) (ft_NoFit:PySem.W.takesIn K (.builtin "object.__class__")=some true) (ob_NoFit:PySem.W.mroIn K ae (.type "object")=some true) (bx_NoFit:PySem.W.mroIn K ae (.type "BaseException")=some true) (cl_NoFit:PySem.W.isClsIn K ae=true)
  (n_TooGreat:nsIn K mainGlobals "TooGreat"=some (some (.ref a7)))
  (ec_TooGreat:PySem.W.excIn K a7 bmV "ValueError.__new__"=true) (ga_TooGreat:findIn K (.ref a7) "__getattribute__"=some (some (.builtin "BaseException.__getattribute__"))) (gt_TooGreat:findIn K (.ref a7) "__getattr__"=some none) (fa_TooGreat:findIn K (.ref a7) "__class__"=some (some (.builtin "object.__class__"))) (fg_TooGreat:PySem.W.specialIn K (.builtin "object.__class__") "__get__"=some (some (.builtin "getset_descriptor.__get__"))) (ft_TooGreat:PySem.W.takesIn K (.builtin "object.__class__")=some true) (ob_TooGreat:PySem.W.mroIn K a7 (.type "object")=some true) (bx_TooGreat:PySem.W.mroIn K a7 (.type "BaseException")=some true) (cl_TooGreat:PySem.W.isClsIn K a7=true)
  (n_RoomError:nsIn K mainGlobals "RoomError"=some (some (.ref ac)))
  (n_NoWay:nsIn K mainGlobals "NoWay"=some (some (.ref aj)))
  (n_NotSingle:nsIn K mainGlobals "NotSingle"=some (some (.ref aa)))
  (n_NoText:nsIn K mainGlobals "NoText"=some (some (.ref af)))
  (n_NoRow:nsIn K mainGlobals "NoRow"=some (some (.ref ak)))
  (n_NoName:nsIn K mainGlobals "NoName"=some (some (.ref ag)))
  (n_NoMachine:nsIn K mainGlobals "NoMachine"=some (some (.ref a9)))
  (n_NoExchange:nsIn K mainGlobals "NoExchange"=some (some (.ref a8)))
  (h_TooGreat_RoomError:PySem.W.exmOne K (.ref a7) (.ref ac)=some true)
  (h_NoFit_RoomError:PySem.W.exmOne K (.ref ae) (.ref ac)=some true)
  (i_TooGreat_TooGreat:kitOne K (.ref a7) (.ref a7)=some true)
  (i_NoFit_TooGreat:kitOne K (.ref ae) (.ref a7)=some false)
  (i_TooGreat_ValueError:kitOne K (.ref a7) (.type "ValueError")=some true)
  (i_NoFit_ValueError:kitOne K (.ref ae) (.type "ValueError")=some true)
  (i_TooGreat_NoFit:kitOne K (.ref a7) (.ref ae)=some false)
  (i_NoFit_NoFit:kitOne K (.ref ae) (.ref ae)=some true)
  (i_TooGreat_NoWay:kitOne K (.ref a7) (.ref aj)=some false)
  (i_TooGreat_NotSingle:kitOne K (.ref a7) (.ref aa)=some false)
  (i_TooGreat_NoText:kitOne K (.ref a7) (.ref af)=some false)
  (i_TooGreat_NoRow:kitOne K (.ref a7) (.ref ak)=some false)
  (i_TooGreat_NoName:kitOne K (.ref a7) (.ref ag)=some false)
  (i_TooGreat_NoMachine:kitOne K (.ref a7) (.ref a9)=some false)
  (i_TooGreat_NoExchange:kitOne K (.ref a7) (.ref a8)=some false)
  (i_NoFit_NoWay:kitOne K (.ref ae) (.ref aj)=some false)
  (i_NoFit_NotSingle:kitOne K (.ref ae) (.ref aa)=some false)
  (i_NoFit_NoText:kitOne K (.ref ae) (.ref af)=some false)
  (i_NoFit_NoRow:kitOne K (.ref ae) (.ref ak)=some false)
  (i_NoFit_NoName:kitOne K (.ref ae) (.ref ag)=some false)
  (i_NoFit_NoMachine:kitOne K (.ref ae) (.ref a9)=some false)
  (i_NoFit_NoExchange:kitOne K (.ref ae) (.ref a8)=some false)
  : ∃fd:FuncData,(∀(s:Shared) (v:Value),BindsTo s fd ⟨[v],[]⟩ [("_law_script",v)])/\∀base:Heap,K.In base->base.Ns mainGlobals mg->FnOk l.prog w K mg base (CXE l.prog w) 7 fa fd ["_law_script"] (spF K mg 1 m_law):=by
 have T:Txt K mg ae a7 ac aj aa af ak ag a9 a8:=⟨Y3 X G z_ValueError,Y3 X G z_all,Y3 X G z_dict,Y3 X G z_enumerate,Y3 X G z_int,Y3 X G z_isinstance,Y3 X G z_len,Y3 X G z_list,Y3 X G z_range,Y3 X G z_reversed,Y3 X G z_set,Y3 X G z_sorted,Y3 X G z_tuple,⟨_,Y1 X G q_SMALL_ROOMS,r_SMALL_ROOMS⟩,⟨_,Y1 X G q_SMALL_KEEPERS,r_SMALL_KEEPERS⟩,⟨_,Y1 X G q_NOWHERE,r_NOWHERE⟩,⟨_,⟨_,Y1 X G q_FIRST_PAIR,(show RelV (.ref ck) _ from rfl)⟩,λH=>(wxd (qvl l_FIRST_PAIR t_FIRST_PAIR) (vqh wj (vqh wj (vqh (wxd (qvl l_FIRST_PAIR_2 t_FIRST_PAIR_2) vz6) vz6))))⟩,n_NoFit,Y1 X G n_NoFit,⟨Y1 X G n_NoFit,ec_NoFit,qks ga_NoFit gt_NoFit fa_NoFit fg_NoFit ft_NoFit ob_NoFit bx_NoFit cl_NoFit⟩,n_TooGreat,Y1 X G n_TooGreat,⟨Y1 X G n_TooGreat,ec_TooGreat,qks ga_TooGreat gt_TooGreat fa_TooGreat fg_TooGreat ft_TooGreat ob_TooGreat bx_TooGreat cl_TooGreat⟩,n_RoomError,Y1 X G n_RoomError,n_NoWay,Y1 X G n_NoWay,n_NotSingle,Y1 X G n_NotSingle,n_NoText,Y1 X G n_NoText,n_NoRow,Y1 X G n_NoRow,n_NoName,Y1 X G n_NoName,n_NoMachine,Y1 X G n_NoMachine,n_NoExchange,Y1 X G n_NoExchange,h_TooGreat_RoomError,h_NoFit_RoomError,i_TooGreat_TooGreat,i_NoFit_TooGreat,i_TooGreat_ValueError,i_NoFit_ValueError,i_TooGreat_NoFit,i_NoFit_NoFit,i_TooGreat_NoWay,i_TooGreat_NotSingle,i_TooGreat_NoText,i_TooGreat_NoRow,i_TooGreat_NoName,i_TooGreat_NoMachine,i_TooGreat_NoExchange,i_NoFit_NoWay,i_NoFit_NotSingle,i_NoFit_NoText,i_NoFit_NoRow,i_NoFit_NoName,i_NoFit_NoMachine,i_NoFit_NoExchange⟩;refine g27.law X G hfa fun {base _ _} F=>?_
 have cm:kkn l.prog w K mg base:=g0.d X G (kxe T );have dg:kwr l.prog w K mg base:=g1.d X G (qk6 T );have bz:jzb l.prog w K mg base:=g2.d X G (kq9 T );have fj:qjj l.prog w K mg base:=g3.d X G (qvf T bz);have c9:jza l.prog w K mg base:=g4.d X G (kq8 T );have bq:jxg l.prog w K mg base:=g5.d X G (kk1 T );have b5:jq8 l.prog w K mg base:=g6.d X G (jx5 T c9 bq);have be:jz4 l.prog w K mg base:=g7.d X G (kxd T );have b9:jv0 l.prog w K mg base:=g8.d X G (kj7 T be);have dh:kwq l.prog w K mg base:=g9.d X G (qk5 T );have f9:kws l.prog w K mg base:=g10.d X G (qk7 T be dh);have ba:jqz l.prog w K mg base:=g11.d X G (kj5 T dg);have ci:jz9 l.prog w K mg base:=g12.d X G (kq7 T b5 b9 f9 ba);have ce:jwn l.prog w K mg base:=g13.d X G (kj6 T );have cf:jxh l.prog w K mg base:=g14.d X G (kk2 T b5 b9 ba ce);have dl:kkl l.prog w K mg base:=g15.d X G (kxb T );have dm:kkm l.prog w K mg base:=g16.d X G (kxc T ci fj cf dl);have cj:kko l.prog w K mg base:=g17.d X G (kxf T dm cm);have au:jwq l.prog w K mg base:=g18.d X G (kja T );have bc:jvi l.prog w K mg base:=g19.d X G (kk3 T );have cp:jzc l.prog w K mg base:=g20.d X G (kqa T bc);have cn:jze l.prog w K mg base:=g21.d X G (kqc T );have d8:kjw l.prog w K mg base:=g22.d X G (kvj T cn);have cb:jzd l.prog w K mg base:=g23.d X G (kqb T bc d8);have bo:jwp l.prog w K mg base:=g24.d X G (kj9 T );have bb:jqr l.prog w K mg base:=g25.d X G (jwt T );have bf:jwo l.prog w K mg base:=g26.d X G (kj8 T cj);exact wjp T cp cb au bo bb bf F
end Nk45
namespace PySem.W.Fast
def tw16586536305393156821:=()
def tw9504501181202462410:=()
def tw1621050008329323255:=()
def tw5073019712662216193:=()
def tw11826702752768464755:=()
def tw16994105902870384139:=()
def tw445944569695018666:=()
def tw7296830576125356129:=()
def tw3693558299054825807:=()
def tw8299425216700599174:=()
def tw7460241935569956456:=()
def tw1773871989481825232:=()
def tw4316376263368072635:=()
def tw10707430851455924053:=()
def tw8342526643281687487:=()
def tw13095684209104327497:=()
def tw1055549392588354251:=()
def tw2612062964485438737:=()
def tw11822372840832025831:=()
def tw14638630053713034897:=()
def tw2638231713985367067:=()
def tw13107374544735794508:=()
def tw2084159203374585969:=()
def tw13450092404557689942:=()
def tw15831843146069766095:=()
def tw5791810808995016042:=()
def tw7925781244194805333:=()
def tw280449306170966168:=()
def tw7197102496815618756:=()
def tw13160111852905286392:=()
def tw4185567935683368422:=()
def tw2489967949553584128:=()
def tw1607494220550298408:=()
def tw13501972854701096897:=()
def tw3820805079803243382:=()
def tw13094605274096467071:=()
def tw9992586605395506558:=()
def tw16642067066521419279:=()
def tw18175862752660959408:=()
def tw11065261859731645214:=()
def tw4525554283479353067:=()
def tw5359582468425196464:=()
def tw4165878745753155208:=()
def tw3625321254453921289:=()
def tw12909139776546604606:=()
def tw1657256698477032397:=()
def tw14666681748393460632:=()
def tw17692082360485568256:=()
def tw17206570675375332437:=()
def tw14341855166867721454:=()
def tw3698163358344290536:=()
def tw7950115481069560653:=()
def tw2971649121725943101:=()
def tw12416563254526539339:=()
def tw3291849934081728431:=()
def tw4978036944905734145:=()
def tw8281449397142673129:=()
def tw18247824353266773577:=()
def tw12218636157179584218:=()
def tw13618247985167956855:=()
def tw551516233571514372:=()
def tw12393773079490573464:=()
def tw41637288946375076:=()
def tw17999555938489783897:=()
def tw10806138390099046052:=()
def tw1745076883293148116:=()
def tw13157404125320750167:=()
def tw17214176813711854782:=()
def tw11225141043320064913:=()
def tw18289001695134041415:=()
def tw5698663995546526602:=()
def tw17411140035636180248:=()
def tw2567614468705606233:=()
def tw9607839556390697728:=()
def tw14871354041624413881:=()
def tw17231018784124553146:=()
def tw4034163424602977209:=()
def tw4434455319442089679:=()
def tw16085720301263268064:=()
def tw3431735776484010835:=()
def tw13060076265164387730:=()
def tw13343074364139290444:=()
def tw9924103381529202256:=()
def tw7738404287650782467:=()
def tw5110911426501789545:=()
def tw3670706661594332267:=()
def tw17408711339651309869:=()
def tw7753022574543764117:=()
def tw12434229338111864496:=()
def tw16379827893096346338:=()
def tw2732063404490135263:=()
def tw6272984712711721704:=()
def tw11419046646651335954:=()
def tw7281411580135140924:=()
def tw3367644892338799440:=()
def tw15532268372448565560:=()
def tw6747253092287491429:=()
def tw12679002292141205001:=()
def tw15259002475627759331:=()
def tw13027687620658633223:=()
def tw1840584280041988628:=()
def tw11533958740453589899:=()
def tw263806655847495263:=()
def tw10651774622889846842:=()
def tw10214432873965184865:=()
def tw820240243181679466:=()
def tw4990877648485931543:=()
def tw3152033211480834903:=()
def tw11526079749020369794:=()
def tw15052763618430772532:=()
def tw2810739926925073433:=()
def tw3298648971995802831:=()
def tw5022815276094116720:=()
def tw3372304765106374744:=()
def tw1133886977173630327:=()
def tw3702937494871385458:=()
def tw18312444861798158760:=()
def tw10499534048943957833:=()
def tw5503812335619506436:=()
def tw9363480005105490385:=()
def tw13628241671907977184:=()
def tw878064253509664585:=()
def tw3215564475087391849:=()
def tw3517815703505101058:=()
def tw17454230836541922404:=()
def tw12536441565170803338:=()
def tw5351631824640230307:=()
def tw11571026430852174991:=()
def tw11911696239907326954:=()
def tw18219067794266240889:=()
end PySem.W.Fast
open PySem PySem.W PyProof.Rows
set_option maxRecDepth 100000 in
set_option maxHeartbeats 0 in
theorem PySem.Challenge.cw_freshrooms_k45_not_compared_holds : PySem.Challenge.rw_freshrooms_k45_not_compared.Holds := by
 w_on;o_law;k_head;(case hw=>w_witness2)
 k_fill
 refine Q.walkQ (l:=PySem.Challenge.rw_freshrooms_k45_not_compared) (n:=63) (k:=7) (x:="_law_script") (f:=Nk45.m_law) rfl ⋯ rfl ⟨rfl,⋯,⋯,rfl⟩ (fun w h Y=>PySem.W.kIn_of Y) ?F Nk45.law_true
 case F =>
  intro w mg fa h KX G hmg
  refine' Nk45.all_mk KX G hmg ?_ ?_ ?_ ?_ ?_ ?_ ?_ ?_ ?_ ?_ ?_ ?_ ?_ ?_ ?_ ?_ ?_ ?_ ?_ ?_ ?_ ?_ ?_ ?_ ?_ ?_ ?_ ?_ ?q_SMALL_ROOMS ?r_SMALL_ROOMS ?q_SMALL_KEEPERS ?r_SMALL_KEEPERS ?q_NOWHERE ?r_NOWHERE ?q_FIRST_PAIR ?l_FIRST_PAIR ?t_FIRST_PAIR ?l_FIRST_PAIR_2 ?t_FIRST_PAIR_2 ?z_ValueError ?z_all ?z_dict ?z_enumerate ?z_int ?z_isinstance ?z_len ?z_list ?z_range ?z_reversed ?z_set ?z_sorted ?z_tuple ?n_NoFit ?ec_NoFit ?ga_NoFit ?gt_NoFit ?fa_NoFit ?fg_NoFit ?ft_NoFit ?ob_NoFit ?bx_NoFit ?cl_NoFit ?n_TooGreat ?ec_TooGreat ?ga_TooGreat ?gt_TooGreat ?fa_TooGreat ?fg_TooGreat ?ft_TooGreat ?ob_TooGreat ?bx_TooGreat ?cl_TooGreat ?n_RoomError ?n_NoWay ?n_NotSingle ?n_NoText ?n_NoRow ?n_NoName ?n_NoMachine ?n_NoExchange ?h_TooGreat_RoomError ?h_NoFit_RoomError ?i_TooGreat_TooGreat ?i_NoFit_TooGreat ?i_TooGreat_ValueError ?i_NoFit_ValueError ?i_TooGreat_NoFit ?i_NoFit_NoFit ?i_TooGreat_NoWay ?i_TooGreat_NotSingle ?i_TooGreat_NoText ?i_TooGreat_NoRow ?i_TooGreat_NoName ?i_TooGreat_NoMachine ?i_TooGreat_NoExchange ?i_NoFit_NoWay ?i_NoFit_NotSingle ?i_NoFit_NoText ?i_NoFit_NoRow ?i_NoFit_NoName ?i_NoFit_NoMachine ?i_NoFit_NoExchange
  all_goals try (refine' Q.Gf.mk ?a ?b ?c ?d;(case a=>k_is);(case b=>k_is);(case c=>k_is);(case d=>k_is))
  all_goals try (refine' Q.GfD.mk ?a ?b ?c ?d ?e ?f;(case a=>k_is);(case b=>k_is);(case c=>k_is);(case d=>k_is);(case e=>k_is);(case f=>rfl))
  (case q_SMALL_ROOMS=>k_is)
  (case r_SMALL_ROOMS=>exact ⟨_,rfl⟩)
  (case q_SMALL_KEEPERS=>k_is)
  (case r_SMALL_KEEPERS=>exact ⟨_,rfl⟩)
  (case q_NOWHERE=>k_is)
  (case r_NOWHERE=>exact ⟨_,rfl⟩)
  (case q_FIRST_PAIR=>k_is)
  (case l_FIRST_PAIR=>k_is)
  (case t_FIRST_PAIR=>exact ⟨rfl,rfl,_,_,rfl,⋯,(.cons ⟨_,rfl⟩ (.cons ⟨_,rfl⟩ (.cons rfl .nil)))⟩)
  (case l_FIRST_PAIR_2=>k_is)
  (case t_FIRST_PAIR_2=>exact ⟨rfl,rfl,_,_,rfl,⋯,.nil⟩)
  (case z_ValueError=>k_is)
  (case z_all=>k_is)
  (case z_dict=>k_is)
  (case z_enumerate=>k_is)
  (case z_int=>k_is)
  (case z_isinstance=>k_is)
  (case z_len=>k_is)
  (case z_list=>k_is)
  (case z_range=>k_is)
  (case z_reversed=>k_is)
  (case z_set=>k_is)
  (case z_sorted=>k_is)
  (case z_tuple=>k_is)
  (case n_NoFit=>k_is)
  (case ec_NoFit=>k_exc)
  (case ga_NoFit=>k_is)
  (case gt_NoFit=>k_is)
  (case fa_NoFit=>k_is)
  (case fg_NoFit=>k_is)
  (case ft_NoFit=>k_is)
  (case ob_NoFit=>k_is)
  (case bx_NoFit=>k_is)
  (case cl_NoFit=>k_is)
  (case n_TooGreat=>k_is)
  (case ec_TooGreat=>k_exc)
  (case ga_TooGreat=>k_is)
  (case gt_TooGreat=>k_is)
  (case fa_TooGreat=>k_is)
  (case fg_TooGreat=>k_is)
  (case ft_TooGreat=>k_is)
  (case ob_TooGreat=>k_is)
  (case bx_TooGreat=>k_is)
  (case cl_TooGreat=>k_is)
  (case n_RoomError=>k_is)
  (case n_NoWay=>k_is)
  (case n_NotSingle=>k_is)
  (case n_NoText=>k_is)
  (case n_NoRow=>k_is)
  (case n_NoName=>k_is)
  (case n_NoMachine=>k_is)
  (case n_NoExchange=>k_is)
  (case h_TooGreat_RoomError=>kts_exm)
  (case h_NoFit_RoomError=>kts_exm)
  (case i_TooGreat_TooGreat=>kit_is)
  (case i_NoFit_TooGreat=>kit_is)
  (case i_TooGreat_ValueError=>kit_is)
  (case i_NoFit_ValueError=>kit_is)
  (case i_TooGreat_NoFit=>kit_is)
  (case i_NoFit_NoFit=>kit_is)
  (case i_TooGreat_NoWay=>kit_is)
  (case i_TooGreat_NotSingle=>kit_is)
  (case i_TooGreat_NoText=>kit_is)
  (case i_TooGreat_NoRow=>kit_is)
  (case i_TooGreat_NoName=>kit_is)
  (case i_TooGreat_NoMachine=>kit_is)
  (case i_TooGreat_NoExchange=>kit_is)
  (case i_NoFit_NoWay=>kit_is)
  (case i_NoFit_NotSingle=>kit_is)
  (case i_NoFit_NoText=>kit_is)
  (case i_NoFit_NoRow=>kit_is)
  (case i_NoFit_NoName=>kit_is)
  (case i_NoFit_NoMachine=>kit_is)
  (case i_NoFit_NoExchange=>kit_is)
