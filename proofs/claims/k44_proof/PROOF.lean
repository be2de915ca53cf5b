import PyProof.Rows.All
import Wide.All
import OpenK.AllK
import Wide.FinOn
import Lean
import PySem.Challenge.RW_freshrooms_k44_rows_tell_it
open PySem.W(Frag kitOne nsIn findIn)
set_option Elab.async false
set_option linter.all false
set_option bootstrap.genMatcherCode false
set_option compiler.extract_closed false
set_option maxRecDepth 100000
local macro_rules|`(⋯)=>`(by first|decide|omega)
local macro_rules|`(tactic|ac_rfl)=>`(tactic|with_unfolding_all rfl)
local macro_rules|`(tactic|exists$e)=>`(tactic|with_unfolding_all exact$e)
abbrev VP9:=PySem.Value->PySem.Shared->Prop
abbrev LA9:=List (PySem.Addr×PySem.Obj)
abbrev Kq9(k:List Int):=∀p∈k,0<=p/\p<=3
theorem aA{α}{a:α}{s t:List α}:a∈s++t->a∈s∨a∈t:=List.mem_append.mp
theorem aB{α}{a b:α}:a=b->a∈[b]:=List.mem_singleton.mpr
theorem aC{α}{a b:α}:a∈[b]->a=b:=List.mem_singleton.mp
theorem aD{α}{a b:α}{l:List α}:a∈b::l->a=b∨a∈l:=List.mem_cons.mp
theorem aE{α β}{f:α->β}{l:List α}{b:β}:b∈l.map f->∃a,a∈l∧f a=b:=List.mem_map.mp
local macro_rules|`(tactic|trivial)=>`(tactic|first|exact Or.inl rfl|exact Or.inr rfl)
def Ŕq(_:True:=by rfl):True:=trivial
def Ŕq.z:True:=trivial
open Ŕq renaming _auto_1→Ŕ
def ŕq(_:True:=by decide):True:=trivial
def ŕq.z:True:=trivial
open ŕq renaming _auto_1→ŕ
def Ŗq(_:True:=by intro _;rfl):True:=trivial
def Ŗq.z:True:=trivial
open Ŗq renaming _auto_1→Ŗ
def ŗq(_:True:=by decide +kernel):True:=trivial
def ŗq.z:True:=trivial
open ŗq renaming _auto_1→ŗ
def Řq(_:True:=by first|exact .inl rfl|exact .inr rfl|assumption):True:=trivial
def Řq.z:True:=trivial
open Řq renaming _auto_1→Ř
def řq(_:True:=by first|exact Or.inl rfl|exact Or.inr (Or.inl rfl)|exact Or.inr (Or.inr rfl)):True:=trivial
def řq.z:True:=trivial
open řq renaming _auto_1→ř
def Śq(_:True:=by trivial):True:=trivial
def Śq.z:True:=trivial
open Śq renaming _auto_1→Ś
def śq(_:True:=by first|exact .inl rfl|exact .inr rfl):True:=trivial
def śq.z:True:=trivial
open śq renaming _auto_1→ś
theorem oq9{α : Type _}{a b : α}(h:some a=some b):a=b:=Option.some.inj h
theorem lr9{α : Type _}{a : α}{b : List α}(c : List α)(h:a ∈ b):a ∈ c ++ b:=List.mem_append_right c h
theorem ll9{α : Type _}{a : α}{b : List α}(c : List α)(h:a ∈ b):a ∈ b ++ c:=List.mem_append_left c h
theorem lc9{α : Type _}{a : α}{l : List α}(b : α)(h:a ∈ l):a ∈ b::l:=List.mem_cons_of_mem b h
section
open PySem PySem.Spec PyProof.Rows
theorem X0:type_of% @wpAny_bind:=@wpAny_bind
theorem X1:type_of% @List.getElem?_eq_getElem:=@List.getElem?_eq_getElem
theorem X2:type_of% @Heap.get?_push_of_some:=@Heap.get?_push_of_some
theorem X3:type_of% @List.length_map:=@List.length_map
theorem X4:type_of% @List.getD_eq_getElem?_getD:=@List.getD_eq_getElem?_getD
theorem X5:type_of% @wpAny_pure:=@wpAny_pure
theorem X6:type_of% @List.mem_cons_self:=@List.mem_cons_self
theorem X7:type_of% @List.size_toArray:=@List.size_toArray
theorem X8:type_of% @if_pos:=@if_pos
theorem X9:type_of% @List.map_append:=@List.map_append
theorem Xa:type_of% @Heap.get?_push_size:=@Heap.get?_push_size
theorem Xb:type_of% @Nat.le_refl:=@Nat.le_refl
theorem Xd:type_of% @List.length_append:=@List.length_append
theorem Xe:type_of% @List.nodup_append:=@List.nodup_append
theorem Xf:type_of% @if_neg:=@if_neg
theorem Xg:type_of% @Heap.lt_size:=@Heap.lt_size
theorem Xh:type_of% @List.getElem?_map:=@List.getElem?_map
theorem Xi:type_of% @decide_eq_true:=@decide_eq_true
theorem Xj:type_of% @decide_eq_false:=@decide_eq_false
theorem Xk:type_of% @Nat.ne_of_lt:=@Nat.ne_of_lt
theorem Xl:type_of% @Nat.lt_of_lt_of_le:=@Nat.lt_of_lt_of_le
theorem Xm:type_of% @List.map_map:=@List.map_map
theorem Xn:type_of% @List.mem_map_of_mem:=@List.mem_map_of_mem
theorem Xp:type_of% @List.length_cons:=@List.length_cons
def Xq:type_of% @Int.toNat_natCast:=@Int.toNat_natCast
theorem Xr:type_of% @Array.length_toList:=@Array.length_toList
theorem Xs:type_of% @List.nodup_nil:=@List.nodup_nil
theorem Xu:type_of% @List.append_assoc:=@List.append_assoc
theorem Xv:type_of% @List.not_mem_nil:=@List.not_mem_nil
theorem Xw:type_of% @List.getElem_mem:=@List.getElem_mem
theorem Xx:type_of% @List.getElem?_eq_none:=@List.getElem?_eq_none
theorem Xy:type_of% @Int.emod_lt_of_pos:=@Int.emod_lt_of_pos
theorem Xz:type_of% @wpAny_newObj_type:=@wpAny_newObj_type
theorem Y0:type_of% @List.length_singleton:=@List.length_singleton
theorem Y1:type_of% @Heap.get?_update_self:=@Heap.get?_update_self
theorem Y2:type_of% @PyProof.Rows.callWith_type1:=@PyProof.Rows.callWith_type1
theorem Y3:type_of% @PySem.W.mg_none_of:=@PySem.W.mg_none_of
theorem Y4:type_of% @List.mem_cons:=@List.mem_cons
theorem Y5:type_of% @wpAny_call_entry:=@wpAny_call_entry
theorem Y6:type_of% @Int.emod_nonneg:=@Int.emod_nonneg
theorem Y7:type_of% @List.append_nil:=@List.append_nil
theorem Y8:type_of% @beq_false_of_ne:=@beq_false_of_ne
theorem Y9:type_of% @wpAny_holding:=@wpAny_holding
theorem Ya:type_of% @Heap.SameBut.update:=@Heap.SameBut.update
theorem Yb:type_of% @List.getElem?_append_left:=@List.getElem?_append_left
theorem Yc:type_of% @List.length_range:=@List.length_range
theorem Yd:type_of% @Nat.zero_le:=@Nat.zero_le
theorem Ye:type_of% @Nat.le_trans:=@Nat.le_trans
theorem Yf:type_of% @List.map_congr_left:=@List.map_congr_left
theorem Yg:type_of% @PySem.W.kia_one:=@PySem.W.kia_one
theorem Yh:type_of% @List.filter_cons_of_pos:=@List.filter_cons_of_pos
theorem Yi:type_of% @List.filter_append:=@List.filter_append
theorem Yj:type_of% @List.find?_cons:=@List.find?_cons
theorem Yk:type_of% @wpAny_callSpecial?_slot:=@wpAny_callSpecial?_slot
theorem Yl:type_of% @List.filter_cons_of_neg:=@List.filter_cons_of_neg
theorem Ym:type_of% @List.getElem?_set_ne:=@List.getElem?_set_ne
theorem Yn:type_of% @wpAny_Call_Name_kw:=@wpAny_Call_Name_kw
theorem Yo:type_of% @List.getElem?_append_right:=@List.getElem?_append_right
theorem Yp:type_of% @Nat.lt_irrefl:=@Nat.lt_irrefl
def Yq:type_of% @List.foldl_cons:=@List.foldl_cons
theorem Yr:type_of% @Array.getElem?_toList:=@Array.getElem?_toList
theorem Ys:type_of% @wpAny_setField:=@wpAny_setField
theorem Yt:type_of% @wpAny_specialOf:=@wpAny_specialOf
theorem Yu:type_of% @Around.under_plainId:=@Around.under_plainId
theorem Yv:type_of% @List.findIdx_lt_length_of_exists:=@List.findIdx_lt_length_of_exists
theorem Yw:type_of% @PySem.mem_of_lookup:=@PySem.mem_of_lookup
theorem Yx:type_of% @wpAny_field:=@wpAny_field
theorem Yy:type_of% @List.length_set:=@List.length_set
theorem Yz:type_of% @Array.getElem?_eq_getElem:=@Array.getElem?_eq_getElem
theorem Z0:type_of% @List.length_replicate:=@List.length_replicate
theorem Z1:type_of% @List.length_take:=@List.length_take
theorem Z2:type_of% @List.all_eq_true:=@List.all_eq_true
theorem Z3:type_of% @List.Sublist.refl:=@List.Sublist.refl
theorem Z4:type_of% @of_decide_eq_true:=@of_decide_eq_true
theorem Z5:type_of% @List.eraseIdx_cons_succ:=@List.eraseIdx_cons_succ
theorem Z6:type_of% @codeAny_builtin:=@codeAny_builtin
theorem Z7:type_of% @List.getElem_of_mem:=@List.getElem_of_mem
theorem Z8:type_of% @Heap.get?_update_ne:=@Heap.get?_update_ne
theorem Z9:type_of% @List.getElem?_set_self:=@List.getElem?_set_self
theorem Za:type_of% @Heap.get?_update_other:=@Heap.get?_update_other
theorem Zb:type_of% @List.take_of_length_le:=@List.take_of_length_le
theorem Zc:type_of% @Obj.data_mapFields:=@Obj.data_mapFields
theorem Zd:type_of% @List.perm_append_comm:=@List.perm_append_comm
theorem Ze:type_of% @Obj.isFreed_of_fields:=@Obj.isFreed_of_fields
theorem Zf:type_of% @wpAny_passesOwn:=@wpAny_passesOwn
theorem Zg:type_of% @List.nodup_cons:=@List.nodup_cons
theorem Zh:type_of% @List.flatten_cons:=@List.flatten_cons
theorem Zi:type_of% @List.flatMap_cons:=@List.flatMap_cons
theorem Zj:type_of% @wpAny_setState_of:=@wpAny_setState_of
theorem Zk:type_of% @List.any_cons:=@List.any_cons
theorem Zl:type_of% @List.length_drop:=@List.length_drop
theorem Zm:type_of% @List.lookup_cons:=@List.lookup_cons
theorem Zn:type_of% @Heap.size_push:=@Heap.size_push
theorem Zo:type_of% @wpAny_askSetting:=@wpAny_askSetting
theorem Zp:type_of% @wpAny_rule:=@wpAny_rule
end
noncomputable section
namespace L2
open PySem PySem.Spec PyProof.Rows
abbrev Key:=Sum Int Str
def Wz:Key->Value->Bool
 |.inl k,v=>Value.isInt k v|.inr x,v=>Value.isStrOf x v
def keyH(w:World):Key->Int
 |.inl k=>hashInt k|.inr x=>hashStr w x
theorem K6:∀{k:Key} {v:Value},Wz k v=true->(∃i t,k=Sum.inl i/\v=Value.int i t)\/(∃x t,k=Sum.inr x/\v=Value.str x t)
 |.inl i,v,h=>by
  obtain⟨t,e⟩:=Value.isInt_shape (k:=i) (v:=v) h;exact .inl ⟨i,t,rfl,e⟩
 |.inr x,v,h=>by
  obtain⟨t,e⟩:=Value.isStrOf_shape (x:=x) (v:=v) h;exact .inr ⟨x,t,rfl,e⟩
theorem qwx(i:Int)(t:Tok):Wz (.inl i) (.int i t)=true:=by simp[Wz,Value.isInt]
theorem qww(x:Str)(t:Tok):Wz (.inr x) (.str x t)=true:=by simp[Wz,Value.isStrOf]
theorem wqb(a b:Int):decide ((Sum.inl a:Key)=Sum.inl b)=(a==b):=by
 by_cases e:a=b
 ·subst e;simp
 ·have h:¬(Sum.inl a:Key)=Sum.inl b:=λq=>e (Sum.inl.inj q)
  rw[Xj h];exact(beq_eq_false_iff_ne.mpr e).symm
theorem wq7(a b:Str):decide ((Sum.inr a:Key)=Sum.inr b)=decide (a=b):=by
 by_cases e:a=b
 ·subst e;simp
 ·have h:¬(Sum.inr a:Key)=Sum.inr b:=λq=>e (Sum.inr.inj q)
  rw[Xj h,Xj e]
theorem wqa(a:Int)(b:Str):decide ((Sum.inl a:Key)=Sum.inr b)=false:=Xj (λq=>nomatch q)
theorem wq8(a:Str)(b:Int):decide ((Sum.inr a:Key)=Sum.inl b)=false:=Xj (λq=>nomatch q)
noncomputable def xX(prog:Program)(w:World):PySem.KeyKind prog w Key where
 is:=Wz
 hash:=keyH w
 inj:=λv a b ha hb=>by
  rcases K6 ha with⟨i,t,rfl,rfl⟩|⟨x,t,rfl,rfl⟩
  ·rcases K6 hb with⟨j,u,rfl,e⟩|⟨y,u,rfl,e⟩
   ·injection e with e1 _;rw[e1]
   ·exact nomatch e
  ·rcases K6 hb with⟨j,u,rfl,e⟩|⟨y,u,rfl,e⟩
   ·exact nomatch e
   ·injection e with e1 _;rw[e1]
 byValue:=λk v h=>by
  rcases K6 h with⟨i,t,rfl,rfl⟩|⟨x,t,rfl,rfl⟩<;>rfl
 pyHash:=λhv h=>by
  rcases K6 hv with⟨i,t,rfl,rfl⟩|⟨x,t,rfl,rfl⟩
  ·exact wpAny_pyHash_int h
  ·exact wpAny_pyHash_str h
 eqBool:=λhu hv h=>by
  rcases K6 hu with⟨i,t,rfl,rfl⟩|⟨x,t,rfl,rfl⟩
  ·rcases K6 hv with⟨j,u,rfl,rfl⟩|⟨y,u,rfl,rfl⟩
   ·rw[wqb]at h;exact wpAny_eqBool_int h
   ·rw[wqa]at h;exact SeqAt.EqAt.int_str i t y u _ _ _ _ h
  ·rcases K6 hv with⟨j,u,rfl,rfl⟩|⟨y,u,rfl,rfl⟩
   ·rw[wq8]at h;exact SeqAt.EqAt.str_int x t j u _ _ _ _ h
   ·rw[wq7]at h;exact wpAny_eqBool_str h
 «strs»:=λk x t v h=>by
  rcases K6 h with⟨i,u,rfl,e⟩|⟨y,u,rfl,e⟩
  ·exact nomatch e
  ·injection e with e1 _;subst e1;cases v<;>rfl
theorem kz3(prog:Program)(w:World)(i:Int)(t:Tok):(xX prog w).is (.inl i) (.int i t)=true:=qwx i t
theorem kz2(prog:Program)(w:World)(x:Str)(t:Tok):(xX prog w).is (.inr x) (.str x t)=true:=qww x t
inductive V where
 |non|bl (b:Bool)|int (i:Int)|str (x:Str)|byt (b:Array UInt8)|flt (b:UInt64)|ref (a:Addr)|ty (n:String)
 deriving DecidableEq
def RelV:V->Value->Prop
 |.non,u=>u=Value.none|.bl b,u=>u=Value.bool b|.int i,u=>∃t,u=Value.int i t|.str x,u=>∃t,u=Value.str x t|.byt b,u=>∃t,u=Value.bytes b t|.flt b,u=>∃t,u=Value.float b t|.ref a,u=>u=Value.ref a|.ty n,u=>u=Value.type n
abbrev Vals:List V->List Value->Prop:=Paired RelV
theorem Vals.length{xs:List V}{us:List Value}(r:Vals xs us):xs.length=us.length:=Paired.length r
theorem Vals.get:∀{xs:List V} {us:List Value} {i:Nat} {x:V},Vals xs us->xs[i]?=some x->∃u,us[i]?=some u/\RelV x u
 |_,_,_,_,.nil,e=>by simp at e|_,_,0,_,.cons r _,e=>by simp at e;subst e;exact⟨_,rfl,r⟩
 |_,_,i+1,x,.cons _ t,e=>by
  obtain⟨u,h1,h2⟩:=Vals.get (i:=i) (x:=x) t (by simpa using e);exact⟨u,by simpa using h1,h2⟩
theorem Vals.set{x:V}{u:Value}(r:RelV x u):∀{xs:List V} {us:List Value} (i:Nat),Vals xs us->Vals (xs.set i x) (us.set i u)
 |_,_,_,.nil=>.nil|_,_,0,.cons _ t=>.cons r t|_,_,i+1,.cons q t=>.cons q (Vals.set r i t)
theorem Vals.append:∀{xs ys:List V} {us ws:List Value},Vals xs us->Vals ys ws->Vals (xs++ys) (us++ws)
 |_,_,_,_,.nil,s=>s|_,_,_,_,.cons r t,s=>.cons r (Vals.append t s)
theorem Vals.take:∀{xs:List V} {us:List Value} (n:Nat),Vals xs us->Vals (xs.take n) (us.take n)
 |_,_,0,_=>.nil|_,_,_+1,.nil=>.nil|_,_,n+1,.cons r t=>.cons r (Vals.take n t)
theorem Vals.drop:∀{xs:List V} {us:List Value} (n:Nat),Vals xs us->Vals (xs.drop n) (us.drop n)
 |_,_,0,r=>r|_,_,_+1,.nil=>.nil|_,_,n+1,.cons _ t=>Vals.drop n t
def RelO:Option V->Option Value->Prop
 |some v,some u=>RelV v u|none,none=>True|_,_=>False
def KV{κ:Type}:List (κ×V)->List (κ×Value)->Prop:=Paired λ(p:κ×V) (q:κ×Value)=>p.1=q.1/\RelV p.2 q.2
def kV:Key->V
 |.inl i=>.int i|.inr x=>.str x
inductive HO where
 |lst (xs:List V)
 |tup (xs:List V)
 |dK (kvs:List (Key×V))|dT (kvs:List (List Key×V))
 |set (S:Int->Bool) (n:Nat)
 |ins (C dx:Addr) (fs:List (Str×V))
 |own (x:Addr)
 |xd (fs:List (Str×V))
 |met (f x:Addr)
 |rng (lo hi:Int)
 |frz (o:Obj) (u:HO)
 |tbl (ps:Array Value)
 |ext (φ:Heap->Prop)
abbrev Hp:=Addr->Option HO
def IsTupD(h:Heap)(a:Addr)(items:Array Value):Prop:=∃o,h.get? a=some o/\o.cls=.type "tuple"/\o.dict=none/\∃n,o.data=.seq items n
theorem IsTupD.tup{h:Heap}{a:Addr}{items:Array Value}(p:IsTupD h a items):IsTup h a items:=by
 obtain⟨o,e,c,_,n,d⟩:=p;exact⟨o,e,c,n,d⟩
theorem IsTupD.new(h:Heap)(xs:Array Value):IsTupD (h.push { cls:=.type "tuple",data:=.seq xs }) h.objs.size xs:=⟨_,Xa _ rfl,rfl,rfl,0,rfl⟩
def upd(H:Hp)(a:Addr)(o:HO):Hp:=λb=>if b=a then some o else H b
theorem x3{H:Hp}{a:Addr}{o:HO}:upd H a o a=some o:=by unfold upd;rw[X8 rfl]
theorem q5{H:Hp}{a b:Addr}{o:HO}(h:b≠a):upd H a o b=H b:=by unfold upd;rw[Xf h]
theorem J9{H:Hp}{a b:Addr}{o:HO}(h:H a=some o)(h':H b=none):a≠b:=by
 intro e;subst e;rw[h]at h';cases h'
section
variable (P:Program)(w:World)
noncomputable def ObjOk(H : Hp)(h : Heap)(a : Addr): HO -> Prop
  |.lst xs=>xs.length<=sizeLine /\ ∃(a8 : List Value) (n : Nat), Vals xs a8 /\ h.get? a = some { cls:= .type "list", data:= .seq a8.toArray n }|.tup xs=>xs.length<=sizeLine /\ ∃a8 : List Value, Vals xs a8 /\ IsTupD h a a8.toArray|.dK kvs=>kvs.length<=sizeLine /\ (a==sysModules) = false /\ ∃vs, KV kvs vs /\ h.DictOf (xX P w) a vs
  |.dT kvs=>kvs.length<=sizeLine /\ (a==sysModules) = false /\ ∃xs : List (List Key × Addr × Value),
      Paired (λ(p : List Key × V) (q : List Key × Addr × Value)=>p.1 = q.1 /\ H q.2.1 = some (.tup (p.1.map kV)) /\ RelV p.2 q.2.2) kvs xs /\
      ∃o es ep, h.get? a = some o /\ o.ExactDict /\ o.data = .dict es ep /\ es.toList = xs.map (entryOfKey (tupleKind (xX P w))) /\ (xs.map (·.1)).Nodup
  |.set S n=>h.SetOf (intKind P w) a S n
  |.ins C dx fs=>H dx = some (.own a) /\ fs.length<=1000 /\ dx≠a /\ h.get? a = some (PySem.W.instObj C dx) /\
      ∃mA, h.Ns1 dx mA /\ (∀f, RelO (fs.lookup f) (mA f)) /\ PySem.Within mA (fs.map (·.1))
  |.own _=> ∃o, h.get? a = some o|.xd fs=> ∃mA, h.Ns1 a mA /\ ∀f, RelO (fs.lookup f) (mA f)|.rng lo hi=> ∃t u v, h.get? a = some { cls:= .type "range", data:= .fields #[.int lo t, .int hi u, .int 1 v] }|.frz o u=>h.get? a = some o /\ ObjOk H h a u|.tbl ps=>h.get? a = some { cls:= .none, data:= .fields ps }|.met f x=>h.get? a = some (PySem.W.methodObj (.ref f) (.ref x))|.ext φ=>φ h /\ (∃o, h.get? a = some o) /\ ∀h1 h2 : Heap, φ h1 -> (∀o, h1.get? a = some o -> h2.get? a = some o) -> φ h2
def HOk(H:Hp)(h:Heap):Prop:=∀a o,H a=some o->ObjOk P w H h a o
end
section
variable {P:Program}{w:World}{H H':Hp}{h h':Heap}{a:Addr}{o:HO}
theorem ObjOk.lt(x:ObjOk P w H h a o):a<h.objs.size:=by
 cases o with|lst xs=>obtain⟨_,_,_,_,e⟩:=x;exact Xg e|tup xs=>obtain⟨_,_,_,p⟩:=x;exact p.tup.lt|dK kvs=>obtain⟨_,_,_,_,o,_,_,e,_⟩:=x;exact Xg e|dT kvs=>obtain⟨_,_,_,_,o,_,_,e,_⟩:=x;exact Xg e|set S n=>obtain⟨o,_,_,_,e,_⟩:=x;exact Xg e|ins C dx fs=>obtain⟨_,_,_,e,_⟩:=x;exact Xg e|own y=>obtain⟨_,e⟩:=x;exact Xg e|xd fs=>obtain⟨_,⟨_,_,_,e,_⟩,_⟩:=x;exact Xg e|rng lo hi=>obtain⟨_,_,_,e⟩:=x;exact Xg e|frz ob u=>obtain⟨e,_⟩:=x;exact Xg e|tbl ps=>exact Xg (show h.get? a=some _ from x)|met f y=>exact Xg (show h.get? a=some _ from x)|ext φ=>obtain⟨_,⟨_,e⟩,_⟩:=x;exact Xg e
theorem Paired.mapP{α β:Type}{F G:α->β->Prop}:∀{l₁:List α} {l₂:List β},Paired F l₁ l₂->(∀a b,F a b->G a b)->Paired G l₁ l₂
 |_,_,.nil,_=>.nil|_,_,.cons r t,f=>.cons (f _ _ r) (Paired.mapP t f)
theorem ObjOk.stay(x:ObjOk P w H h a o)(k:∀b u,(b=a\/H b=some (.own a))->h.get? b=some u->h'.get? b=some u)
  (ho:∀b,H b=some (.own a)->H' b=some (.own a)) (ht:∀b xs,H b=some (.tup xs)->H' b=some (.tup xs)):ObjOk P w H' h' a o:=by
 induction o with
 |lst xs=>obtain⟨z,a8,n,r,e⟩:=x;exact⟨z,a8,n,r,k _ _ (.inl rfl) e⟩|tup xs=>obtain⟨z,a8,r,ob,e,c⟩:=x;exact⟨z,a8,r,ob,k _ _ (.inl rfl) e,c⟩|dK kvs=>obtain⟨z,y,vs,r,ob,es,ep,e,c⟩:=x;exact⟨z,y,vs,r,ob,es,ep,k _ _ (.inl rfl) e,c⟩
 |dT kvs=>
  obtain⟨z,y,xs,r,ob,es,ep,e,c⟩:=x;exact⟨z,y,xs,Paired.mapP r λp q z=>⟨z.1,ht _ _ z.2.1,z.2.2⟩,ob,es,ep,k _ _ (.inl rfl) e,c⟩
 |set S n=>obtain⟨ob,es,ep,t,e,c⟩:=x;exact⟨ob,es,ep,t,k _ _ (.inl rfl) e,c⟩
 |ins C dx fs=>
  obtain⟨d,z,ne,e,mA,⟨od,es,ep,e2,c⟩,r⟩:=x;exact⟨ho _ d,z,ne,k _ _ (.inl rfl) e,mA,⟨od,es,ep,k _ _ (.inr d) e2,c⟩,r⟩
 |own y=>obtain⟨ob,e⟩:=x;exact⟨ob,k _ _ (.inl rfl) e⟩|xd fs=>obtain⟨mA,⟨od,es,ep,e,c⟩,r⟩:=x;exact⟨mA,⟨od,es,ep,k _ _ (.inl rfl) e,c⟩,r⟩|rng lo hi=>obtain⟨t,u,v,e⟩:=x;exact⟨t,u,v,k _ _ (.inl rfl) e⟩|frz ob u ih=>obtain⟨e,q⟩:=x;exact⟨k _ _ (.inl rfl) e,ih q⟩
 |tbl ps=>
  have e:h.get? a=some { cls:=.none,data:=.fields ps }:=x;show h'.get? a=some { cls:=.none,data:=.fields ps };exact k a _ (.inl rfl) e
 |met f y=>
  have e:h.get? a=some (PySem.W.methodObj (.ref f) (.ref y)):=x;show h'.get? a=some (PySem.W.methodObj (.ref f) (.ref y));exact k a _ (.inl rfl) e
 |ext φ=>obtain⟨p,⟨o,e⟩,st⟩:=x;exact⟨st _ _ p λo q=>k _ _ (.inl rfl) q,⟨o,k _ _ (.inl rfl) e⟩,st⟩
theorem HOk.lt(x:HOk P w H h)(e:H a=some o):a<h.objs.size:=(x a o e).lt
theorem HOk.fresh(x:HOk P w H h)(e:h.objs.size<=a):H a=none:=by
 cases q:H a with|none=>rfl|some u=>exact absurd (Xl (x.lt q) e) (Yp _)
theorem HOk.kept(x:HOk P w H h)(k:∀b u,h.get? b=some u->h'.get? b=some u):HOk P w H h':=λa o e=>
 (x a o e).stay (λb u _ q=>k b u q) (λ_ q=>q) λ_ _ q=>q
theorem HOk.laid(x:HOk P w H h)(k:∀b u,h.get? b=some u->h'.get? b=some u)(hp:h.objs.size<=a)(new:ObjOk P w (upd H a o) h' a o):HOk P w (upd H a o) h':=λb u e=>by
 have hn:=x.fresh hp
 by_cases hb:b=a
 ·subst hb;rw[x3]at e;cases e;exact new
 ·rw[q5 hb]at e;exact(x b u e).stay (λc v _ q=>k c v q) (λc q=>by rw[q5 (J9 q hn)];exact q) λc xs q=>by rw[q5 (J9 q hn)];exact q
end
def Rd(H:Hp)(a:Addr)(u:HO):Prop:=H a=some u\/∃o,H a=some (.frz o u)
theorem Rd.ok{P:Program}{w:World}{H:Hp}{h:Heap}{a:Addr}{u:HO}(r:Rd H a u)(x:HOk P w H h):ObjOk P w H h a u:=by
 rcases r with r|⟨o,r⟩
 ·exact x a u r
 ·obtain⟨_,q⟩:=x a _ r;exact q
def Mut:Option HO->Prop
 |some (.lst _)=>True|some (.dK _)=>True|some (.dT _)=>True|some (.set _ _)=>True|some (.ins _ _ _)=>True|some (.ext _)=>True|_=>False
section
variable {P:Program}{w:World}{H:Hp}{h h':Heap}{x e:Addr}{o':HO}
theorem HOk.write(ok:HOk P w H h)(mu:Mut (H x))(he:e=x\/H e=some (.own x))(k:∀b u,b≠e->h.get? b=some u->h'.get? b=some u)(ni:∃u,h'.get? e=some u)
  (new:ObjOk P w (upd H x o') h' x o'):HOk P w (upd H x o') h':=λb u q=>by
 have qy:∀c y,H c=some (.own y)->c≠x:=λc y r z=>by subst z;rw[r]at mu;exact mu
 have ntup:∀c xs,H c=some (.tup xs)->c≠x:=λc xs r z=>by subst z;rw[r]at mu;exact mu
 by_cases hb:b=x
 ·subst hb;rw[x3]at q;cases q;exact new
 ·rw[q5 hb]at q
  by_cases hbe:b=e
  ·have q':H b=some (.own x):=by
    rcases he with z|z
    ·exact absurd (hbe.trans z) hb
    ·rw[hbe];exact z
   rw[q]at q';cases q';obtain⟨v,hv⟩:=ni;exact⟨v,by rw[hbe];exact hv⟩
  ·refine(ok b u q).stay (λc v hc r=>k c v ?_ r) (λc r=>by rw[q5 (qy c b r)];exact r) λc xs r=>by rw[q5 (ntup c xs r)];exact r
   rcases hc with rfl|hc
   ·exact hbe
   ·rintro rfl;rcases he with z|z
    ·exact qy c b hc z
    ·rw[hc]at z;cases z;exact hb rfl
end
structure Un (fs ex:List Addr)(H H':Hp)(h h':Heap):Prop where
 keep:∀b o,h.get? b=some o->H b=none->b∉fs->b∉ex->h'.get? b=some o
 slot:∀b o,h.get? b=some o->H b=none->b∈fs->b∉ex->∃sl,h'.get? b=some { o with slots:=sl }
 free:∀b o,h.get? b=some o->H b=none->b∉ex->H' b=none
 there:∀b o,h.get? b=some o->b∉ex->∃o',h'.get? b=some o'
 tups:∀b xs,H b=some (.tup xs)->H' b=some (.tup xs)
 frzs:∀b o u,H b=some (.frz o u)->H' b=some (.frz o u)
 tbls:∀b ps,H b=some (.tbl ps)->∃more,H' b=some (.tbl (ps++more))
section
variable {fs fs' ex ex':List Addr}{H H1 H2:Hp}{h h1 h2 h':Heap}{a x e:Addr}{o:HO}
theorem Un.any(u:Un fs ex H H1 h h1){b:Addr}{ob:Obj}(q:h.get? b=some ob)(n:H b=none)(hx:b∉ex):∃sl,h1.get? b=some { ob with slots:=sl }:=by
 by_cases hb:b∈fs
 ·exact u.slot b ob q n hb hx
 ·exact⟨ob.slots,u.keep b ob q n hb hx⟩
theorem Un.kept(k:∀b u,h.get? b=some u->h'.get? b=some u):Un fs ex H H h h':=
 ⟨λb ob q _ _ _=>k b ob q,λb ob q _ _ _=>⟨ob.slots,k b ob q⟩,λ_ _ _ n _=>n,λb ob q _=>⟨ob,k b ob q⟩,λ_ _ q=>q,λ_ _ _ q=>q,λ_ ps q=>⟨#[],by rw[q];simp⟩⟩
theorem Un.refl:Un fs ex H H h h:=Un.kept λ_ _ q=>q
theorem Un.laid(k:∀b u,h.get? b=some u->h'.get? b=some u)(hp:h.objs.size<=a)(hn:H a=none):Un fs ex H (upd H a o) h h' where
 keep:=λb u q _ _ _=>k b u q
 slot:=λb u q _ _ _=>⟨u.slots,k b u q⟩
 free:=λb u q n _=>by rw[q5 (Xk (Xl (Xg q) hp))];exact n
 there:=λb u q _=>⟨u,k b u q⟩
 tups:=λb xs q=>by rw[q5 (J9 q hn)];exact q
 frzs:=λb u xs q=>by rw[q5 (J9 q hn)];exact q
 tbls:=λb ps q=>⟨#[],by rw[q5 (J9 q hn),q];simp⟩
theorem Un.write(mu:Mut (H x))(he:e=x\/H e=some (.own x))(k:∀b u,b≠e->h.get? b=some u->h'.get? b=some u)(ni:∃u,h'.get? e=some u):Un fs ex H (upd H x o) h h':=by
 have hx:∀b,H b=none->b≠x:=λb n z=>by subst z;rw[n]at mu;exact mu
 have hb:∀b,H b=none->b≠e:=λb n z=>by
  subst z;rcases he with r|r
  ·exact hx b n r
  ·rw[n]at r;cases r
 have hm:∀b u,H b=some u->¬Mut (some u)->b≠x:=λb u q nm z=>by subst z;rw[q]at mu;exact nm mu
 refine⟨λb u q n _ _=>k b u (hb b n) q,λb u q n _ _=>⟨u.slots,k b u (hb b n) q⟩,λb u q n _=>by rw[q5 (hx b n)];exact n,λb u q _=>?_,
  λb xs q=>by rw[q5 (hm b _ q λz=>z)];exact q,λb u xs q=>by rw[q5 (hm b _ q λz=>z)];exact q,λb ps q=>⟨#[],by rw[q5 (hm b _ q λz=>z),q];simp⟩⟩
 by_cases hbe:b=e
 ·subst hbe;exact ni
 ·exact⟨u,k b u hbe q⟩
end
def trk(h:Heap)(H:Hp):List Addr:=(List.range h.objs.size).filter λa=>(H a).isSome
def K7(h:Heap)(H:Hp):Heap:=PySem.W.hideAll h (trk h H)
theorem qx5(h:Heap)(H:Hp):(K7 h H).objs.size=h.objs.size:=PySem.W.hideAll_size _ _
theorem vjt{h:Heap}{H:Hp}{b:Addr}{o:Obj}(e:h.get? b=some o)(n:H b=none):(K7 h H).get? b=some o:=
 PySem.W.hideAll_get _ e λhm=>by
  have q:(H b).isSome=true:=(List.mem_filter.mp hm).2;rw[n]at q;simp at q
theorem vwq{h:Heap}{H:Hp}{b:Addr}{o:Obj}(e:(K7 h H).get? b=some o):h.get? b=some o/\H b=none:=by
 have e':h.get? b=some o:=PySem.W.of_hideAll (trk h H) e;refine⟨e',?_⟩;cases q:H b with
 |none=>rfl
 |some x=>
  have hm:b∈trk h H:=List.mem_filter.mpr ⟨List.mem_range.mpr (Xg e'),by simp[q]⟩;have z:(K7 h H).get? b=none:=PySem.W.hideAll_none (trk h H) hm;rw[z]at e;cases e
structure Mod (K:Frag)(mg:Str->Option Value)(base:Heap):Prop where
 kin:K.In base
 glob:base.Ns mainGlobals mg
 blt:∃mb,base.Ns builtinsNs mb/\∀x:Str,x≠"__name__"->mb x=bootBuiltins x
 nolimit:base.NoLimit
structure Cx where
 prog:Program
 w:World
 K:Frag
 mg:Str->Option Value
 base:Heap
 A:Around
 N:List Str
 s₀:Shared
 H₀:Hp
 env:Env
 outer:List Env
 stack:List Env
 ex:List Addr
 fn:Str->Bool
 calm:Bool
 pn:LA9
 xe:VP9
def frs(l:List Env):List Addr:=l.filterMap (·.frame)
abbrev Cx.fs(X:Cx):List Addr:=frs X.outer
def Vis(sc:Scope)(x:Str):Prop:=sc.names.lookup x=some .local\/sc.names.lookup x=some .cell\/sc.names.lookup x=some .free
def Loc(sc:Scope)(x:Str):Prop:=sc.names.lookup x=some .local\/sc.names.lookup x=some .cell
def Look(env:Env)(h:Heap)(m:Str->Option Value)(x:Str)(u:Value):Prop:=
 (env.kindOf x=some .local/\m x=some u)\/((env.kindOf x=some .cell\/env.kindOf x=some .free)/\∃c,env.cells.lookup x=some c/\h.IsCell c (some u))
structure Cx.Ok (X:Cx):Prop where
 mod:Mod X.K X.mg X.base
 kind:X.env.scope.kind=.function
 glob:X.env.globals=mainGlobals
 blt:X.env.builtins=builtinsNs
 above:X.s₀.heap.objs.size<=X.env.locals
 inj:∀x y c,X.env.cells.lookup x=some c->X.env.cells.lookup y=some c->x=y
 has:∀x,(X.env.kindOf x=some .cell\/X.env.kindOf x=some .free)->∃c,X.env.cells.lookup x=some c
 cab:∀x c,X.fn x=true->X.env.cells.lookup x=some c->X.s₀.heap.objs.size<=c
 hd:X.calm=true->X.A.handled=none
 frames:X.A.frames=some X.stack
 stk:X.stack=X.outer\/(X.stack=X.env::X.outer/\X.env.frame=some X.env.locals)
 exf:∀b∈X.ex,b≠X.env.locals/\∀x c,X.env.cells.lookup x=some c->c≠b
 bs:∀b o,X.base.get? b=some o->X.s₀.heap.get? b=some o/\X.H₀ b=none
 bsz:X.base.objs.size<=X.s₀.heap.objs.size
 noex:∀b o,X.base.get? b=some o->b∉X.ex
 exfs:∀b∈X.ex,b∉X.fs
 funs:X.s₀.heap.FunFrames X.base X.outer
 frf:∀b∈X.fs,X.H₀ b=none
structure Inv (X:Cx)(pins:LA9)(σ:List (Option V))(H:Hp)(s:Shared):Prop where
 ok:X.Ok
 os:s.os=X.s₀.os
 bare:AllBare s.gens
 base:Un X.fs X.ex X.H₀ H X.s₀.heap s.heap
 loc:∃m,s.heap.Ns X.env.locals m/\∀(i:Nat) (x:Str) (v:V),X.N[i]?=some x->σ[i]?=some (some v)->Vis X.env.scope x->∃u,RelV v u/\Look X.env s.heap m x u
 cell:∀x c,X.env.cells.lookup x=some c->∃v,s.heap.IsCell c v
 free:H X.env.locals=none
 freeC:∀x c,X.env.cells.lookup x=some c->H c=none
 pin:∀p∈X.pn++pins,s.heap.get? p.1=some p.2/\H p.1=none/\p.1≠X.env.locals/\p.1∉X.fs/\∀v,p.2.data≠.cell v
 hok:HOk X.prog X.w H s.heap
 len:σ.length=X.N.length
section
variable {X:Cx}{pins:LA9}{σ:List (Option V)}{H H':Hp}{s:Shared}{h':Heap}
theorem Cx.Ok.nofr(ok:X.Ok){b:Addr}{o:Obj}(e:X.base.get? b=some o):b∉X.fs:=λhb=>by
 have:=(ok.funs.mem hb).1;rw[e]at this;cases this
theorem Inv.bs(I:Inv X pins σ H s):∀b o,X.base.get? b=some o->s.heap.get? b=some o/\H b=none:=λb o e=>
 ⟨I.base.keep b o (I.ok.bs b o e).1 (I.ok.bs b o e).2 (I.ok.nofr e) (I.ok.noex b o e),I.base.free b o (I.ok.bs b o e).1 (I.ok.bs b o e).2 (I.ok.noex b o e)⟩
theorem Inv.bk(I:Inv X pins σ H s):∀b o,X.base.get? b=some o->s.heap.get? b=some o:=λb o e=>(I.bs b o e).1
theorem Inv.mod(I:Inv X pins σ H s):Mod X.K X.mg X.base:=I.ok.mod
theorem Inv.kIn(I:Inv X pins σ H s):X.K.In s.heap:=I.ok.mod.kin.keeps I.bk
theorem Inv.lt(I:Inv X pins σ H s):X.env.locals<s.heap.objs.size:=let ⟨_,hn,_⟩:=I.loc;hn.lt
theorem Inv.sz(I:Inv X pins σ H s):X.s₀.heap.objs.size<=s.heap.objs.size:=Ye I.ok.above (Nat.le_of_lt I.lt)
theorem Inv.nofs(I:Inv X pins σ H s){a:Addr}(h:s.heap.objs.size<=a):a∉X.fs:=λhb=>by
 obtain⟨_,o,ho,_⟩:=I.ok.funs.mem hb;exact absurd (Xl (Xg ho) (Ye I.sz h)) (Yp _)
theorem Inv.cne(I:Inv X pins σ H s):∀x c,X.env.cells.lookup x=some c->c≠X.env.locals:=λx c e z=>by
 obtain⟨v,o,ho,hd⟩:=I.cell x c e;obtain⟨m,⟨o',es,ep,ik,ju,_⟩,_⟩:=I.loc;rw[z,ik]at ho;cases ho;rw[ju]at hd;cases hd
theorem Inv.funs(I:Inv X pins σ H s):s.heap.FunFrames X.base X.outer:=by
 have all:∀(l:List Env),(∀b∈frs l,b∈X.fs)->X.s₀.heap.FunFrames X.base l->s.heap.FunFrames X.base l:=by
  intro l
  induction l with
  |nil=>intro _ _;trivial
  |cons env r ih=>
   intro hs hl;obtain⟨hk,⟨L,o,hf,hn,ho,hd⟩,hr⟩:=hl;have hL:L∈X.fs:=hs L (by unfold frs;rw[List.filterMap_cons,hf];exact X6);obtain⟨sl,e⟩:=I.base.slot L o ho (I.ok.frf L hL) hL λz=>I.ok.exfs L z hL
   exact⟨hk,⟨L,_,hf,hn,e,hd⟩,ih (λb hb=>hs b (by unfold frs;rw[List.filterMap_cons,hf];exact lc9 _ hb)) hr⟩
 exact all X.outer (λ_ hb=>hb) I.ok.funs
theorem Inv.stack(I:Inv X pins σ H s):s.heap.FunFrames X.base X.stack:=by
 rcases I.ok.stk with e|⟨e,hf⟩
 ·rw[e];exact I.funs
 ·rw[e];obtain⟨m,hn,_⟩:=I.loc;refine .cons (by rw[I.ok.kind];decide) hf hn ?_ I.funs;exact Heap.get?_none_of_le (Ye I.ok.bsz I.ok.above)
theorem Inv.stkSub(I:Inv X pins σ H s):∀b∈frs X.stack,b∈X.env.locals::X.fs:=λb hb=>by
 rcases I.ok.stk with e|⟨e,hf⟩
 ·rw[e]at hb;exact lc9 _ hb
 ·rw[e]at hb;unfold frs at hb;rw[List.filterMap_cons,hf]at hb;exact hb
theorem Inv.stkFree(I:Inv X pins σ H s):∀b∈frs X.stack,H b=none:=λb hb=>by
 rcases aD (I.stkSub b hb)with e|hb
 ·rw[e];exact I.free
 ·obtain⟨_,o,ho,_⟩:=I.ok.funs.mem hb;exact I.base.free b o ho (I.ok.frf b hb) λz=>I.ok.exfs b z hb
theorem Inv.step{g':Array GenState}{t':Nat}{d':Drawn}{ch:List Addr}(I:Inv X pins σ H s)
  (dw:∀b∈ch,(b∈X.ex\/X.s₀.heap.objs.size<=b)/\b≠X.env.locals/\(∀x c,X.env.cells.lookup x=some c->c≠b)/\∀p∈X.pn++pins,p.1≠b)
  (keep:∀b o,b≠X.env.locals->b∉X.fs->b∉ch->s.heap.get? b=some o->H b=none->h'.get? b=some o)
  (slot:∀b o,b≠X.env.locals->b∈X.fs->b∉ch->s.heap.get? b=some o->H b=none->∃sl,h'.get? b=some { o with slots:=sl }) (free:∀b o,b∉ch->s.heap.get? b=some o->H b=none->H' b=none)
  (there:∀b o,b∉ch->s.heap.get? b=some o->∃o',h'.get? b=some o')
  (tups:∀b xs,H b=some (.tup xs)->H' b=some (.tup xs)) (frzs:∀b o u,H b=some (.frz o u)->H' b=some (.frz o u)) (tbls:∀b ps,H b=some (.tbl ps)->∃more,H' b=some (.tbl (ps++more)))
  (ns:∀m,s.heap.Ns X.env.locals m->h'.Ns X.env.locals m) (hok:HOk X.prog X.w H' h') (hg:AllBare g'):
  Inv X pins σ H' { s with heap:=h',gens:=g',drawn:=d',toks:=t' }:=by
 have om:∀b o,X.s₀.heap.get? b=some o->b≠X.env.locals:=λb o e=>Xk (Xl (Xg e) I.ok.above)
 have ku:∀b o,X.s₀.heap.get? b=some o->b∉X.ex->b∉ch:=λb o e hx hb=>by
  rcases(dw b hb).1 with z|z
  ·exact hx z
  ·exact absurd (Xl (Xg e) z) (Yp _)
 have fw:∀x c,X.env.cells.lookup x=some c->∀v,s.heap.IsCell c v->h'.IsCell c v:=λx c e v ⟨o,ho,hd⟩=>by
  have jd:c∉ch:=λz=>(dw c z).2.2.1 x c e rfl
  by_cases hc:c∈X.fs
  ·obtain⟨sl,q⟩:=slot c o (I.cne x c e) hc jd ho (I.freeC x c e);exact⟨_,q,hd⟩
  ·exact⟨o,keep c o (I.cne x c e) hc jd ho (I.freeC x c e),hd⟩
 refine⟨I.ok,I.os,hg,⟨λb o e n hb hx=>?_,λb o e n hb hx=>?_,λb o e n hx=>?_,λb o e hx=>?_,λb xs e=>tups b xs (I.base.tups b xs e),λb o xs e=>frzs b o xs (I.base.frzs b o xs e),λb ps e=>?_⟩,?_,λx c e=>?_,?_,λx c e=>?_,λp hp=>?_,hok,I.len⟩
 ·exact keep b o (om b o e) hb (ku b o e hx) (I.base.keep b o e n hb hx) (I.base.free b o e n hx)
 ·obtain⟨sl,e1⟩:=I.base.slot b o e n hb hx;obtain⟨sl',e2⟩:=slot b _ (om b o e) hb (ku b o e hx) e1 (I.base.free b o e n hx);exact⟨sl',e2⟩
 ·obtain⟨o',e1⟩:=I.base.there b o e hx;exact free b o' (ku b o e hx) e1 (I.base.free b o e n hx)
 ·obtain⟨o',e1⟩:=I.base.there b o e hx;exact there b o' (ku b o e hx) e1
 ·obtain⟨m1,e1⟩:=I.base.tbls b ps e;obtain⟨m2,e2⟩:=tbls b _ e1;exact⟨m1++m2,by rw[e2,Array.append_assoc]⟩
 ·obtain⟨m,hn,hl⟩:=I.loc;refine⟨m,ns m hn,λi x v e1 e2 e3=>?_⟩;obtain⟨u,r,l⟩:=hl i x v e1 e2 e3;refine⟨u,r,?_⟩;rcases l with l|⟨k,c,e,z⟩
  ·exact .inl l
  ·exact .inr ⟨k,c,e,fw x c e _ z⟩
 ·obtain⟨v,z⟩:=I.cell x c e;exact⟨v,fw x c e v z⟩
 ·obtain⟨m,⟨o,_,_,ho,_⟩,_⟩:=I.loc;exact free _ o (λz=>(dw _ z).2.1 rfl) ho I.free
 ·obtain⟨v,o,ho,hd⟩:=I.cell x c e;exact free c o (λz=>(dw c z).2.2.1 x c e rfl) ho (I.freeC x c e)
 ·obtain⟨e,n,ne,nf,d⟩:=I.pin p hp;have jd:p.1∉ch:=λz=>(dw p.1 z).2.2.2 p hp rfl
  exact⟨keep p.1 p.2 ne nf jd e n,free p.1 p.2 jd e n,ne,nf,d⟩
theorem Inv.un{t':Nat}(I:Inv X pins σ H s)(u:Un X.fs [] H H' s.heap h')(hok:HOk X.prog X.w H' h'):Inv X pins σ H' { s with heap:=h',toks:=t' }:=by
 obtain⟨m,⟨o,es,ep,ho,r⟩,_⟩:=id I.loc;obtain⟨sl,hL⟩:=u.any ho I.free (by simp);exact I.step (g':=s.gens) (d':=s.drawn) (ch:=[]) (λ_ z=>nomatch z) (λb o _ hb _ e n=>u.keep b o e n hb (by simp)) (λb o _ hb _ e n=>u.slot b o e n hb (by simp)) (λb o _ e n=>u.free b o e n (by simp)) (λb o _ e=>u.there b o e (by simp)) u.tups u.frzs u.tbls (λm' hm=>by
  obtain⟨o',es',ep',ik,r'⟩:=hm;rw[ho]at ik;cases ik;exact⟨_,es',ep',hL,r'⟩) hok I.bare
theorem Inv.call{g':Array GenState}{t':Nat}{d':Drawn}{ch:List Addr}(I:Inv X pins σ H s)(u:Un (frs X.stack) ch H H' s.heap h')(hok:HOk X.prog X.w H' h')(hg:AllBare g')
  (dw:∀b∈ch,(b∈X.ex\/X.s₀.heap.objs.size<=b)/\b≠X.env.locals/\(∀x c,X.env.cells.lookup x=some c->c≠b)/\∀p∈X.pn++pins,p.1≠b):
  Inv X pins σ H' { s with heap:=h',gens:=g',drawn:=d',toks:=t' }:=by
 obtain⟨m,⟨o,es,ep,ho,r⟩,_⟩:=id I.loc;obtain⟨sl,hL⟩:=u.any ho I.free λz=>(dw _ z).2.1 rfl
 exact I.step (ch:=ch) dw (λb o hL hb hc e n=>u.keep b o e n (λz=>(aD (I.stkSub b z)).elim hL hb) hc) (λb o _ _ hc e n=>u.any e n hc) (λb o hc e n=>u.free b o e n hc) (λb o hc e=>u.there b o e hc) u.tups u.frzs u.tbls (λm' hm=>by
  obtain⟨o',es',ep',ik,r'⟩:=hm;rw[ho]at ik;cases ik;exact⟨_,es',ep',hL,r'⟩) hok hg
theorem Inv.turned{t':Nat}{it:Addr}(I:Inv X pins σ H s)(k:∀b o,b≠it->s.heap.get? b=some o->h'.get? b=some o)(hn:H it=none)(hL:it≠X.env.locals)
  (h1:it∈X.ex\/X.s₀.heap.objs.size<=it) (h2:∀x c,X.env.cells.lookup x=some c->c≠it) (h3:∀p∈X.pn++pins,p.1≠it):Inv X pins σ H { s with heap:=h',toks:=t' }:=by
 have qd:∀b u,H b=some u->b≠it:=λb u e z=>by rw[z,hn]at e;cases e
 refine I.step (g':=s.gens) (d':=s.drawn) (ch:=[it]) (λb hb=>?_) (λb o _ _ hc e _=>k b o (λz=>hc (by simp[z])) e) (λb o _ _ hc e _=>⟨o.slots,k b o (λz=>hc (by simp[z])) e⟩) (λ_ _ _ _ n=>n)
  (λb o hc e=>⟨o,k b o (λz=>hc (by simp[z])) e⟩) (λ_ _ e=>e) (λ_ _ _ e=>e) (λb ps e=>⟨#[],by rw[e];simp⟩) (λm hm=>?_) (λb u e=>?_) I.bare
 ·have e:b=it:=by simpa using hb
  subst e;exact⟨h1,hL,h2,h3⟩
 ·obtain⟨o,es,ep,ho,r⟩:=hm;exact⟨o,es,ep,k _ o (Ne.symm hL) ho,r⟩
 ·refine(I.hok b u e).stay (λc v hc q=>k c v ?_ q) (λ_ q=>q) λ_ _ q=>q
  rcases hc with z|z
  ·rw[z];exact qd b u e
  ·exact qd c _ z
theorem Inv.tok(I:Inv X pins σ H s)(t:Nat):Inv X pins σ H { s with toks:=t }:=I.un (h':=s.heap) (t':=t) Un.refl I.hok
theorem Inv.kept{t':Nat}(I:Inv X pins σ H s)(k:∀b u,s.heap.get? b=some u->h'.get? b=some u):Inv X pins σ H { s with heap:=h',toks:=t' }:=I.un (Un.kept k) (I.hok.kept k)
theorem Inv.laid{a:Addr}{o:HO}{t':Nat}(I:Inv X pins σ H s)(k:∀b u,s.heap.get? b=some u->h'.get? b=some u)(hp:s.heap.objs.size<=a)(new:ObjOk X.prog X.w (upd H a o) h' a o):
  Inv X pins σ (upd H a o) { s with heap:=h',toks:=t' }:=I.un (Un.laid k hp (I.hok.fresh hp)) (I.hok.laid k hp new)
theorem Inv.write{x e:Addr}{o:HO}{t':Nat}(I:Inv X pins σ H s)(mu:Mut (H x))(he:e=x\/H e=some (.own x))(k:∀b u,b≠e->s.heap.get? b=some u->h'.get? b=some u)(ni:∃u,h'.get? e=some u)
  (new:ObjOk X.prog X.w (upd H x o) h' x o):Inv X pins σ (upd H x o) { s with heap:=h',toks:=t' }:=I.un (Un.write mu he k ni) (I.hok.write mu he k ni new)
theorem Inv.pins_of{cj:LA9}(I:Inv X pins σ H s)(h:∀p∈cj,s.heap.get? p.1=some p.2/\H p.1=none/\p.1≠X.env.locals/\p.1∉X.fs/\∀v,p.2.data≠.cell v):Inv X cj σ H s:=
 ⟨I.ok,I.os,I.bare,I.base,I.loc,I.cell,I.free,I.freeC,λp hp=>(aA hp).elim (λz=>I.pin p (ll9 _ z)) (h p),I.hok,I.len⟩
theorem qj8{N:List Str}(hN:N.Nodup){i j:Nat}{x:Str}(a:N[i]?=some x)(b:N[j]?=some x):i=j:=by
 obtain⟨h1,e1⟩:=List.getElem?_eq_some_iff.mp a;obtain⟨h2,e2⟩:=List.getElem?_eq_some_iff.mp b;exact(List.getElem_inj hN).mp (e1.trans e2.symm)
theorem qqo{M:Model}{A:Around}{E:VP9}{i:Nat}{x:Str}{v:V}{u:Value}{Q:Unit->Shared->Prop}(I:Inv X pins σ H s)(hN:X.N.Nodup)(hi:X.N[i]?=some x)(hx:Loc X.env.scope x)(r:RelV v u)
  (h:∀s',Inv X pins (σ.set i (some v)) H s'->(∃a,Heap.SameBut a s.heap s'.heap/\(a=X.env.locals\/X.env.cells.lookup x=some a))->Q () s') (hf:autoParam (X.fn x=true\/X.env.scope.names.lookup x=some .local) Ř):wpAny M A (storeName X.env x u) Q E s:=by
 obtain⟨m,hn,hl⟩:=id I.loc;have hcls:(X.env.scope.kind == .class||(X.env.scope.kind == .module&&X.env.locals != X.env.globals))=false:=by rw[I.ok.kind];rfl
 have hiσ:i < σ.length:=by rw[I.len];exact(List.getElem?_eq_some_iff.mp hi).1
 have cne:=I.cne;have ib:∀{a:Addr} {h':Heap},(∃o,s.heap.get? a=some o/\H a=none)->Heap.SameBut a s.heap h'->HOk X.prog X.w H h':=fun {a h'} ha hs b ob e=>by
  obtain⟨_,_,bf⟩:=ha;refine(I.hok b ob e).stay (λc w' hc q=>(hs.2 c ?_).trans q) (λ_ q=>q) λ_ _ q=>q
  rintro rfl;rcases hc with rfl|hc
  ·rw[bf]at e;cases e
  ·rw[bf]at hc;cases hc
 rcases hx with hk|hk
 ·refine wpAny_storeName_local hk hn (λh' sk hs=>?_) hcls;obtain⟨oL,_,_,qo,_⟩:=id hn;refine h _ ⟨I.ok,I.os,I.bare,⟨λb o e n hb hx=>?_,λb o e n hb hx=>?_,I.base.free,λb o e hx=>?_,I.base.tups,I.base.frzs,I.base.tbls⟩,⟨_,sk,λj y v' e1 e2 e3=>?_⟩,λy c e=>?_,I.free,I.freeC,λp hp=>?_,ib ⟨oL,qo,I.free⟩ hs,by simpa using I.len⟩ ⟨_,hs,.inl rfl⟩
  ·exact(hs.2 b (Xk (Xl (Xg e) I.ok.above))).trans (I.base.keep b o e n hb hx)
  ·obtain⟨sl,e1⟩:=I.base.slot b o e n hb hx;exact⟨sl,(hs.2 b (Xk (Xl (Xg e) I.ok.above))).trans e1⟩
  ·obtain⟨o',e1⟩:=I.base.there b o e hx;exact⟨o',(hs.2 b (Xk (Xl (Xg e) I.ok.above))).trans e1⟩
  ·by_cases hj:j=i
   ·subst hj;rw[hi]at e1;cases e1;rw[Z9 hiσ]at e2;cases e2;exact⟨u,r,.inl ⟨hk,by simp⟩⟩
   ·rw[Ym (Ne.symm hj)]at e2;obtain⟨u',r',q⟩:=hl j y v' e1 e2 e3;refine⟨u',r',?_⟩;rcases q with⟨k,e⟩|⟨k,c,e,z⟩
    ·refine .inl ⟨k,?_⟩;have:y≠x:=λe=>hj (qj8 hN e1 (e▸hi))
     simp[this,e]
    ·exact .inr ⟨k,c,e,z.sameBut hs (cne y c e)⟩
  ·obtain⟨w',z⟩:=I.cell y c e;exact⟨w',z.sameBut hs (cne y c e)⟩
  ·obtain⟨e,n,ne,nf,d⟩:=I.pin p hp;exact⟨(hs.2 p.1 ne).trans e,n,ne,nf,d⟩
 ·have hfn:X.fn x=true:=by
   rcases hf with z|z
   ·exact z
   ·rw[z]at hk;cases hk
  obtain⟨c,hc⟩:=I.ok.has x (.inl hk);obtain⟨w',z⟩:=I.cell x c hc;refine wpAny_storeName_cell I.ok.kind hk hc z (λh' hc' hs=>?_);obtain⟨oc,hoc,hocd⟩:=id z;refine h { s with heap:=h' } ⟨I.ok,I.os,I.bare,⟨λb o e n hb hx=>?_,λb o e n hb hx=>?_,I.base.free,λb o e hx=>?_,I.base.tups,I.base.frzs,I.base.tbls⟩,⟨m,hn.sameBut hs (Ne.symm (cne x c hc)),λj y v' e1 e2 e3=>?_⟩,λy c' e=>?_,I.free,I.freeC,λp hp=>?_,ib ⟨oc,hoc,I.freeC x c hc⟩ hs,by simpa using I.len⟩ ⟨c,hs,.inr hc⟩
  ·exact(hs.2 b (Xk (Xl (Xg e) (I.ok.cab x c hfn hc)))).trans (I.base.keep b o e n hb hx)
  ·obtain⟨sl,e1⟩:=I.base.slot b o e n hb hx;exact⟨sl,(hs.2 b (Xk (Xl (Xg e) (I.ok.cab x c hfn hc)))).trans e1⟩
  ·obtain⟨o',e1⟩:=I.base.there b o e hx;exact⟨o',(hs.2 b (Xk (Xl (Xg e) (I.ok.cab x c hfn hc)))).trans e1⟩
  ·by_cases hj:j=i
   ·subst hj;rw[hi]at e1;cases e1;rw[Z9 hiσ]at e2;cases e2;exact⟨u,r,.inr ⟨.inl hk,c,hc,hc'⟩⟩
   ·rw[Ym (Ne.symm hj)]at e2;obtain⟨u',r',q⟩:=hl j y v' e1 e2 e3;refine⟨u',r',?_⟩;rcases q with q|⟨k,c',e,z'⟩
    ·exact .inl q
    ·refine .inr ⟨k,c',e,z'.sameBut hs ?_⟩;rintro rfl;exact hj (qj8 hN e1 (I.ok.inj _ _ _ e hc▸hi))
  ·by_cases i6:c'=c
   ·subst i6;exact⟨_,hc'⟩
   ·obtain⟨w2,z2⟩:=I.cell y c' e;exact⟨w2,z2.sameBut hs i6⟩
  ·obtain⟨e,n,ne,nf,d⟩:=I.pin p hp;refine⟨(hs.2 p.1 ?_).trans e,n,ne,nf,d⟩;intro q;rw[q,hoc]at e;have q':oc=p.2:=oq9 e;exact d w' (by rw[<-q'];exact hocd)
theorem jzn{M:Model}{A:Around}{E:VP9}{i:Nat}{x:Str}{v:V}{u:Value}{Q:Unit->Shared->Prop}(I:Inv X pins σ H s)(hN:X.N.Nodup)(hi:X.N[i]?=some x)(hx:Loc X.env.scope x)(r:RelV v u)
  (h:∀s',Inv X pins (σ.set i (some v)) H s'->Q () s') (hf:autoParam (X.fn x=true\/X.env.scope.names.lookup x=some .local) Ř):wpAny M A (storeName X.env x u) Q E s:=
 qqo I hN hi hx r (λs' I' _=>h s' I') hf
theorem Inv.call'{s':Shared}{ch:List Addr}(I:Inv X pins σ H s)(ho:s'.os=s.os)(u:Un (frs X.stack) ch H H' s.heap s'.heap)(hok:HOk X.prog X.w H' s'.heap)(hg:AllBare s'.gens)
  (dw:∀b∈ch,(b∈X.ex\/X.s₀.heap.objs.size<=b)/\b≠X.env.locals/\(∀x c,X.env.cells.lookup x=some c->c≠b)/\∀p∈X.pn++pins,p.1≠b):Inv X pins σ H' s':=by
 obtain⟨h',g',d',t',o'⟩:=s';have e:o'=s.os:=ho;subst e;exact I.call (g':=g') (t':=t') (d':=d') u hok hg dw
end
abbrev XK:=Value->Option Addr->Hp->Prop
abbrev St:=List (Option V)
abbrev VK:=V->Hp->Prop
abbrev TE:=St->Hp->VK->Prop
abbrev TT:=St->Hp->(Bool->Hp->Prop)->Prop
abbrev TA:=St->Hp->(List V->Hp->Prop)->Prop
structure Ends where
 nx:St->Hp->Prop
 rt:VK
 bk:St->Hp->Prop:=λ_ _=>False
 ct:St->Hp->Prop:=λ_ _=>False
abbrev TS:=Ends->St->Hp->Prop
def EP(X:Cx)(pins:LA9)(σ:St)(Q:VK)(u:Value)(s':Shared):Prop:=∃v H',Inv X pins σ H' s'/\RelV v u/\Q v H'
def TP(X:Cx)(pins:LA9)(σ:St)(Q:Bool->Hp->Prop)(b:Bool)(s':Shared):Prop:=∃H',Inv X pins σ H' s'/\Q b H'
def AP(X:Cx)(pins:LA9)(σ:St)(Q:List V->Hp->Prop)(us:List Value)(s':Shared):Prop:=∃vs H',Inv X pins σ H' s'/\Vals vs us/\Q vs H'
def SP(X:Cx)(pins:LA9)(D:Ends)(f:Flow)(s':Shared):Prop:=
 match f with
 |.next=>∃ σ' H',Inv X pins σ' H' s'/\D.nx σ' H'|.brk=>∃ σ' H',Inv X pins σ' H' s'/\D.bk σ' H'|.cont=>∃ σ' H',Inv X pins σ' H' s'/\D.ct σ' H'|.ret u=>∃v σ' H',Inv X pins σ' H' s'/\RelV v u/\D.rt v H'
def PE(X:Cx)(e:Expr)(t:TE):Prop:=
 ∀(pins:LA9) (s:Shared) (σ:St) (H:Hp) (Q:VK),Inv X pins σ H s->t σ H Q->wpAny (model X.prog X.w) X.A (eval e X.env) (EP X pins σ Q) X.xe s
def PT(X:Cx)(e:Expr)(t:TT):Prop:=
 ∀(pins:LA9) (s:Shared) (σ:St) (H:Hp) (Q:Bool->Hp->Prop),Inv X pins σ H s->t σ H Q->wpAny (model X.prog X.w) X.A (isTrue e X.env (eval e X.env)) (TP X pins σ Q) X.xe s
def PW(X:Cx)(e:Expr)(t:TT):Prop:=
 ∀(dz:Sem Value) (pins:LA9) (s:Shared) (σ:St) (H:Hp) (Q:Bool->Hp->Prop),Inv X pins σ H s->t σ H Q->wpAny (model X.prog X.w) X.A (isTrue e X.env dz) (TP X pins σ Q) X.xe s
theorem PW.pt{X:Cx}{e:Expr}{t:TT}(h:PW X e t):PT X e t:=h _
def PA(X:Cx)(es:List Expr)(t:TA):Prop:=
 ∀(pos:Pos) (pins:LA9) (s:Shared) (σ:St) (H:Hp) (Q:List V->Hp->Prop),Inv X pins σ H s->t σ H Q->wpAny (model X.prog X.w) X.A (spliced (backTo pos (starEach es X.env))) (AP X pins σ Q) X.xe s
def PS(X:Cx)(st:Stmt)(t:TS):Prop:=
 ∀(pins:LA9) (s:Shared) (σ:St) (H:Hp) (D:Ends),Inv X pins σ H s->t D σ H->wpAny (model X.prog X.w) X.A (exec st X.env) (SP X pins D) X.xe s
def PSs(X:Cx)(st:List Stmt)(t:TS):Prop:=
 ∀(pins:LA9) (s:Shared) (σ:St) (H:Hp) (D:Ends),Inv X pins σ H s->t D σ H->wpAny (model X.prog X.w) X.A (execs st X.env) (SP X pins D) X.xe s
theorem thn{α:Type}{t:Sem α}{Q Q':α->Shared->Prop}{M:Model}{A:Around}{E:VP9}{s:Shared}(h:wpAny M A t Q E s)(hQ:∀a s,Q a s->Q' a s):wpAny M A t Q' E s:=wpAny_mono h hQ λ_ _ x=>x
section
variable {X:Cx}
abbrev z4(i:Nat):TE:=fun σ H Q=>∃v,σ[i]?=some (some v)/\Q v H
abbrev tC(v:V):TE:=λ_ H Q=>Q v H
theorem wk9{i:Nat}{x:Str}{pos:Pos}(hN:X.N[i]?=some x)(hv:Vis X.env.scope x)(hd:autoParam ((x==("__debug__":Str))=false) ŕ)(fm:autoParam ((x==("__classdict__":Str))=false) ŕ):PE X (.Name x pos) (z4 i):=by
 intro pins s σ H Q I h;obtain⟨v,e,h⟩:=h;obtain⟨m,hn,hl⟩:=I.loc;obtain⟨u,r,l⟩:=hl i x v hN e hv;have fin:EP X pins σ Q u s:=⟨v,H,I,r,h⟩;rcases l with⟨hk,hm⟩|⟨hk,c,hc,hcell⟩
 ·exact wpAny_Name (wpAny_loadName_local I.ok.kind hk hn hm fin) hd
 ·rcases hk with hk|hk
  ·exact wpAny_Name (wpAny_loadName_cell I.ok.kind hk hc hcell fin) hd
  ·exact wpAny_Name (wpAny_loadName_free I.ok.kind hk hc hcell fin fm) hd
theorem wkg{i j pos}:PE X (.Constant (.int i) j pos) (tC (.int i)):=λ_ _ _ H _ I h=>wpAny_Constant_int ⟨.int i,H,I.tok _,⟨_,rfl⟩,h⟩
theorem wx7{b j pos}:PE X (.Constant (.bool b) j pos) (tC (.bl b)):=λ_ _ _ H _ I h=>Constant_bool ⟨.bl b,H,I,rfl,h⟩
theorem wkd{j pos}:PE X (.Constant .none j pos) (tC .non):=λ_ _ _ H _ I h=>Constant_none ⟨.non,H,I,rfl,h⟩
theorem vq7{x j pos}:PE X (.Constant (.str x) j pos) (tC (.str x)):=λ_ _ _ H _ I h=>Calls.Constant_str ⟨.str x,H,I.tok _,⟨_,rfl⟩,h⟩
def Gl(X:Cx)(x:Str):Prop:=X.env.kindOf x=some .globalImplicit
theorem qwq{E:VP9}{pins:LA9}{s:Shared}{σ:St}{H:Hp}{x:Str}{u:Value}{pos:Pos}{Q:VP9}(I:Inv X pins σ H s)(hg:Gl X x)(hm:X.mg x=some u)(h:Q u s)
  (hd:autoParam ((x==("__debug__":Str))=false) ŕ):wpAny (model X.prog X.w) X.A (eval (.Name x pos) X.env) Q E s:=
 Calls.Name_function_global I.ok.kind hg (Calls.loadGlobal_global (by rw[I.ok.glob];exact I.mod.glob.keeps I.bk) hm h) hd
theorem zq{E:VP9}{pins:LA9}{s:Shared}{σ:St}{H:Hp}{x:Str}{u:Value}{pos:Pos}{Q:VP9}(I:Inv X pins σ H s)(hg:Gl X x)(hm:X.mg x=none)(hv:bootBuiltins x=some u)(h:Q u s)
  (hn:autoParam (x≠"__name__") ŕ) (hd:autoParam ((x==("__debug__":Str))=false) ŕ):wpAny (model X.prog X.w) X.A (eval (.Name x pos) X.env) Q E s:=by
 obtain⟨mb,h1,h2⟩:=I.mod.blt;exact Calls.Name_function_global I.ok.kind hg (Calls.loadGlobal_builtin (by rw[I.ok.glob];exact I.mod.glob.keeps I.bk) hm (by rw[I.ok.blt];exact h1.keeps I.bk) ((h2 x hn).trans hv) h) hd
theorem vwd{x:Str}{v:V}{u:Value}{pos:Pos}(hg:Gl X x)(hm:X.mg x=some u)(r:RelV v u)(hd:autoParam ((x==("__debug__":Str))=false) ŕ):PE X (.Name x pos) (tC v):=
 λ_ _ _ H _ I h=>qwq I hg hm ⟨v,H,I,r,h⟩ hd
theorem vwh{x:Str}{v:V}{u:Value}{pos:Pos}(hg:Gl X x)(hm:X.mg x=none)(hv:bootBuiltins x=some u)(r:RelV v u)(hn:autoParam (x≠"__name__") ŕ)(hd:autoParam ((x==("__debug__":Str))=false) ŕ):PE X (.Name x pos) (tC v):=
 λ_ _ _ H _ I h=>zq I hg hm hv ⟨v,H,I,r,h⟩ hn hd
variable {a b:Expr}{ta tb:TE}{pos:Pos}
variable {tA tB':TT}{a9:List Expr}
abbrev tAnd(t u:TT):TT:=fun σ H Q=>t σ H λc H1=>if c=true then u σ H1 Q else Q false H1
abbrev tOr(t u:TT):TT:=fun σ H Q=>t σ H λc H1=>if c=true then Q true H1 else u σ H1 Q
abbrev tNot(t:TT):TT:=fun σ H Q=>t σ H λc H1=>Q (!c) H1
theorem vvv(ha:PT X a tA):PW X (.BoolOp .And [a] pos) tA:=by
 intro wh pins s σ H Q I h;refine isTrue_and (thn (ha pins s σ H Q I h) λc s1 e=>?_);cases c with|true=>exact isTrue_and_nil e|false=>exact e
theorem wjv(ha:PT X a tA):PW X (.BoolOp .Or [a] pos) tA:=by
 intro wh pins s σ H Q I h;refine isTrue_or (thn (ha pins s σ H Q I h) λc s1 e=>?_);cases c with|false=>exact isTrue_or_nil e|true=>exact e
theorem wjw(ha:PT X a tA)(hb:PW X (.BoolOp .And (b::a9) pos) tB'):PW X (.BoolOp .And (a::b::a9) pos) (tAnd tA tB'):=by
 intro wh pins s σ H Q I h;refine isTrue_and (thn (ha pins s σ H _ I h) λc s1 ⟨H1,I1,q1⟩=>?_);cases c with|true=>exact hb wh pins s1 σ H1 Q I1 q1|false=>exact⟨H1,I1,q1⟩
theorem wx4(ha:PT X a tA)(hb:PW X (.BoolOp .Or (b::a9) pos) tB'):PW X (.BoolOp .Or (a::b::a9) pos) (tOr tA tB'):=by
 intro wh pins s σ H Q I h;refine isTrue_or (thn (ha pins s σ H _ I h) λc s1 ⟨H1,I1,q1⟩=>?_);cases c with|true=>exact⟨H1,I1,q1⟩|false=>exact hb wh pins s1 σ H1 Q I1 q1
theorem wjz(ha:PT X a tA):PT X (.UnaryOp .Not a pos) (tNot tA):=by
 intro pins s σ H Q I h;exact isTrue_not (ha pins s σ H (λc H1=>Q (!c) H1) I h)
abbrev wwf(ta tb:TE):TE:=fun σ H Q=>ta σ H λx H1=>∃c,x=.bl c/\if c=true then tb σ H1 Q else Q (.bl false) H1
theorem wkc{op}{t:TE}(h:PE X a t):PE X (.BoolOp op [a] pos) t:=λpins s σ H Q I hw=>BoolOp_one (h pins s σ H Q I hw)
theorem wkj(ha:PE X a ta)(hb:PE X (.BoolOp .And (b::a9) pos) tb):PE X (.BoolOp .And (a::b::a9) pos) (wwf ta tb):=by
 intro pins s σ H Q I h;refine BoolOp_and (thn (ha pins s σ H _ I h) λv s1 ⟨x,H1,I1,r1,q1⟩=>?_);obtain⟨c,rfl,q1⟩:=q1;cases r1;refine wpAny_truthy_bool ?_;cases c with|true=>exact hb pins s1 σ H1 Q I1 q1|false=>exact⟨.bl false,H1,I1,rfl,q1⟩
abbrev tIf(t:TT)(ta tb:TE):TE:=fun σ H Q=>t σ H λc H1=>if c=true then ta σ H1 Q else tb σ H1 Q
theorem vjc{c:Expr}(hc:PT X c tA)(ha:PE X a ta)(hb:PE X b tb):PE X (.IfExp c a b pos) (tIf tA ta tb):=by
 intro pins s σ H Q I h;refine wpAny_IfExp (thn (hc pins s σ H _ I h) λd s1 ⟨H1,I1,q1⟩=>?_);cases d with|true=>exact ha pins s1 σ H1 Q I1 q1|false=>exact hb pins s1 σ H1 Q I1 q1
end
def SqL(K:Frag)(H:Hp)(a:Addr)(xs:List V):Prop:=
 Rd H a (.lst xs) \/
  ∃(o:Obj) (a8:Array Value) (n:Nat),K.lookup a=some o/\o.cls=.type "list"/\o.dict=none/\o.data=.seq a8 n/\a8.size<=sizeLine/\Vals xs a8.toList
def SqT(K:Frag)(H:Hp)(a:Addr)(xs:List V):Prop:=
 Rd H a (.tup xs) \/
  ∃(o:Obj) (a8:Array Value) (n:Nat),K.lookup a=some o/\o.cls=.type "tuple"/\o.dict=none/\o.data=.seq a8 n/\a8.size<=sizeLine/\Vals xs a8.toList
def absV:Value->Option V
 |.none=>some .non|.bool b=>some (.bl b)|.int i _=>some (.int i)|.str x _=>some (.str x)|.bytes b _=>some (.byt b)|.float b _=>some (.flt b)|.ref a=>some (.ref a)|.type n=>some (.ty n)|_=>none
theorem RelV.abs{x:V}{u:Value}(r:RelV x u):absV u=some x:=by
 cases x with|non=>cases r;rfl|bl _=>cases r;rfl|int _=>obtain⟨t,rfl⟩:=r;rfl|str _=>obtain⟨t,rfl⟩:=r;rfl|byt _=>obtain⟨t,rfl⟩:=r;rfl|flt _=>obtain⟨t,rfl⟩:=r;rfl|ref _=>cases r;rfl|ty _=>cases r;rfl
theorem RelV.inj{x y:V}{u:Value}(r:RelV x u)(q:RelV y u):x=y:=oq9 (r.abs.symm.trans q.abs)
theorem Vals.inj:∀{xs ys:List V} {us:List Value},Vals xs us->Vals ys us->xs=ys
 |_,_,_,.nil,.nil=>rfl|_,_,_,.cons r t,.cons r' t'=>by rw[r.inj r',Vals.inj t t']
section
variable {X:Cx}{pins:LA9}{σ:St}{H:Hp}{s:Shared}{a:Addr}{xs ys:List V}
theorem SqL.of{K:Frag}(h:H a=some (.lst xs)):SqL K H a xs:=.inl (.inl h)
theorem SqT.of{K:Frag}(h:H a=some (.tup xs)):SqT K H a xs:=.inl (.inl h)
theorem Inv.list(I:Inv X pins σ H s)(h:SqL X.K H a xs):∃a8:List Value,Vals xs a8/\PlainL s.heap a a8.toArray/\xs.length<=sizeLine:=by
 rcases h with h|⟨o,a8,n,hk,hc,hd,hs,hz,r⟩
 ·obtain⟨z,a8,n,r,e⟩:=h.ok I.hok;exact⟨a8,r,⟨_,n,e,rfl,rfl,rfl⟩,z⟩
 ·refine⟨a8.toList,r,⟨o,n,I.kIn a o hk,hc,hd,by simpa using hs⟩,?_⟩;have e:=r.length;simp only[Xr]at e;omega
theorem Inv.tuple(I:Inv X pins σ H s)(h:SqT X.K H a xs):∃a8:List Value,Vals xs a8/\IsTup s.heap a a8.toArray/\xs.length<=sizeLine:=by
 rcases h with h|⟨o,a8,n,hk,hc,_,hs,hz,r⟩
 ·obtain⟨z,a8,r,p⟩:=h.ok I.hok;exact⟨a8,r,p.tup,z⟩
 ·refine⟨a8.toList,r,⟨o,I.kIn a o hk,hc,n,by simpa using hs⟩,?_⟩;have e:=r.length;simp only[Xr]at e;omega
theorem Inv.tupleD(I:Inv X pins σ H s)(h:SqT X.K H a xs):∃o,s.heap.get? a=some o/\o.dict=none:=by
 rcases h with h|⟨o,a8,n,hk,hc,hd,hs,hz,r⟩
 ·obtain⟨z,a8,r,o,e,_,d,_⟩:=h.ok I.hok;exact⟨o,e,d⟩
 ·exact⟨o,I.kIn a o hk,hd⟩
theorem Inv.list_inj(I:Inv X pins σ H s)(h:SqL X.K H a xs)(h':SqL X.K H a ys):xs=ys:=by
 obtain⟨a8,r,⟨o,n,e,_,_,d⟩,_⟩:=I.list h;obtain⟨its',r',⟨o',n',e',_,_,d'⟩,_⟩:=I.list h';rw[e]at e';cases e';rw[d]at d';injection d' with d1 _;have:a8=its':=by simpa using congrArg Array.toList d1
 subst this;exact r.inj r'
theorem Inv.tuple_inj(I:Inv X pins σ H s)(h:SqT X.K H a xs)(h':SqT X.K H a ys):xs=ys:=by
 obtain⟨a8,r,⟨o,e,_,n,d⟩,_⟩:=I.tuple h;obtain⟨its',r',⟨o',e',_,n',d'⟩,_⟩:=I.tuple h';rw[e]at e';cases e';rw[d]at d';injection d' with d1 _;have:a8=its':=by simpa using congrArg Array.toList d1
 subst this;exact r.inj r'
end
abbrev Cx.wish(X:Cx)(E:VP9):Cx:={ X with xe:=E }
theorem Cx.Ok.wish{X:Cx}(ok:X.Ok)(E:VP9):(X.wish E).Ok:=
 ⟨ok.mod,ok.kind,ok.glob,ok.blt,ok.above,ok.inj,ok.has,ok.cab,ok.hd,ok.frames,ok.stk,ok.exf,ok.bs,ok.bsz,ok.noex,ok.exfs,ok.funs,ok.frf⟩
theorem Cx.Ok.unwish{X:Cx}{E:VP9}(ok:(X.wish E).Ok):X.Ok:=
 ⟨ok.mod,ok.kind,ok.glob,ok.blt,ok.above,ok.inj,ok.has,ok.cab,ok.hd,ok.frames,ok.stk,ok.exf,ok.bs,ok.bsz,ok.noex,ok.exfs,ok.funs,ok.frf⟩
section
variable {X:Cx}{pins:LA9}{σ:St}{H:Hp}{s:Shared}{E:VP9}
theorem Inv.wish(I:Inv X pins σ H s)(E:VP9):Inv (X.wish E) pins σ H s:=⟨I.ok.wish E,I.os,I.bare,I.base,I.loc,I.cell,I.free,I.freeC,I.pin,I.hok,I.len⟩
theorem Inv.unwish(I:Inv (X.wish E) pins σ H s):Inv X pins σ H s:=⟨I.ok.unwish,I.os,I.bare,I.base,I.loc,I.cell,I.free,I.freeC,I.pin,I.hok,I.len⟩
theorem SP.unwish{D:Ends}{f:Flow}{s':Shared}(h:SP (X.wish E) pins D f s'):SP X pins D f s':=by
 cases f with|next=>obtain⟨σ',H',I,q⟩:=h;exact⟨σ',H',I.unwish,q⟩|brk=>obtain⟨σ',H',I,q⟩:=h;exact⟨σ',H',I.unwish,q⟩|cont=>obtain⟨σ',H',I,q⟩:=h;exact⟨σ',H',I.unwish,q⟩|ret u=>obtain⟨v,σ',H',I,r,q⟩:=h;exact⟨v,σ',H',I.unwish,r,q⟩
end
section
variable {X:Cx}{st:Stmt}{a9:List Stmt}{t u:TS}{e:Expr}{te:TE}{pos:Pos}
abbrev wwb:TS:=λD σ H=>D.nx σ H
abbrev tSeq(t u:TS):TS:=λD σ H=>t { D with nx:=u D } σ H
theorem vw3:PSs X [] wwb:=λ_ _ σ H _ I h=>wpAny_execs_nil ⟨σ,H,I,h⟩
theorem vj6(h1:PS X st t)(h2:PSs X a9 u):PSs X (st::a9) (tSeq t u):=by
 intro pins s σ H D I h;refine wpAny_execs_cons (thn (h1 pins s σ H { D with nx:=u D } I h) λf s1 q=>?_);cases f with
 |next=>
  obtain⟨σ',H',I',q⟩:=q;exact h2 pins s1 σ' H' D I' q
 |ret v=>exact q|brk=>exact q|cont=>exact q
theorem vw2(h1:PS X st t):PSs X [st] t:=by
 intro pins s σ H D I h;refine wpAny_execs_cons (thn (h1 pins s σ H D I h) λf s1 q=>?_);cases f with|next=>exact wpAny_execs_nil q|ret v=>exact q|brk=>exact q|cont=>exact q
theorem Inv.quiet{pins:LA9}{σ:St}{H:Hp}{s:Shared}(I:Inv X pins σ H s):interactive X.env=false:=by simp[interactive,I.ok.kind]
abbrev wwc(te:TE):TS:=λD σ H=>te σ H λ_ H1=>D.nx σ H1
theorem vw4(he:PE X e te)(hs:autoParam (swapsWith e none pos.line X.env=pure false) Ŕ):PS X (.Expr e pos) (wwc te):=by
 intro pins s σ H D I h;exact wpAny_Expr_any (thn (he pins s σ H _ I h) λv s1 ⟨x,H1,I1,r1,q1⟩=>⟨σ,H1,I1,q1⟩) I.quiet hs
abbrev tRet(te:TE):TS:=λD σ H=>te σ H D.rt
theorem wk1(he:PE X e te):PS X (.Return (some e) pos) (tRet te):=by
 intro pins s σ H D I h;exact wpAny_Return_some (thn (he pins s σ H _ I h) λv s1 ⟨x,H1,I1,r1,q1⟩=>⟨x,σ,H1,I1,r1,q1⟩)
abbrev tIfS(c:TT)(t u:TS):TS:=λD σ H=>c σ H λb H1=>if b=true then t D σ H1 else u D σ H1
theorem wx5{c:Expr}{a b:List Stmt}{tc:TT}(hc:PT X c tc)(ha:PSs X a t)(hb:PSs X b u):PS X (.If c a b pos) (tIfS tc t u):=by
 intro pins s σ H D I h;refine wpAny_If (thn (hc pins s σ H _ I h) λd s1 ⟨H1,I1,q1⟩=>?_);cases d with|true=>exact ha pins s1 σ H1 D I1 q1|false=>exact hb pins s1 σ H1 D I1 q1
end
abbrev TG:=V->St->Hp->(St->Hp->Prop)->Prop
abbrev TGs:=List V->St->Hp->(St->Hp->Prop)->Prop
def PG(X:Cx)(dl:Expr)(t:TG):Prop:=
 ∀(pins:LA9) (s:Shared) (σ:St) (H:Hp) (v:V) (u:Value) (Q:St->Hp->Prop),Inv X pins σ H s->RelV v u->t v σ H Q ->
  wpAny (model X.prog X.w) X.A (assign dl X.env u) (λ_ s'=>∃ σ' H',Inv X pins σ' H' s'/\Q σ' H') X.xe s
def PGs(X:Cx)(ts:List Expr)(t:TGs):Prop:=
 ∀(pins:LA9) (s:Shared) (σ:St) (H:Hp) (vs:List V) (us:List Value) (Q:St->Hp->Prop),Inv X pins σ H s->Vals vs us->t vs σ H Q ->
  wpAny (model X.prog X.w) X.A (assignInOrder ((assignEach ts X.env).map (·.2)) us) (λ_ s'=>∃ σ' H',Inv X pins σ' H' s'/\Q σ' H') X.xe s
abbrev wz4:=V->V->V->Hp->(Hp->Prop)->Prop
def xj7(X:Cx)(t:wz4):Prop:=
 ∀(pins:LA9) (s:Shared) (σ:St) (H:Hp) (o i v:V) (ov iv u:Value) (Q:Hp->Prop),Inv X pins σ H s->RelV o ov->RelV i iv->RelV v u->t o i v H Q ->
  wpAny (model X.prog X.w) X.A (setItem ov iv u) (λ_ s'=>∃H',Inv X pins σ H' s'/\Q H') X.xe s
abbrev TIp:=V->V->Hp->VK->Prop
def PIp(X:Cx)(op:Operator)(t:TIp):Prop:=
 ∀(pins:LA9) (s:Shared) (σ:St) (H:Hp) (x y:V) (v u:Value) (Q:VK),Inv X pins σ H s->RelV x v->RelV y u->t x y H Q ->
  wpAny (model X.prog X.w) X.A (inplaceOp op v u) (EP X pins σ Q) X.xe s
section
variable {X:Cx}{pos:Pos}
abbrev qxb(i:Nat):TG:=λv σ H Q=>Q (σ.set i (some v)) H
theorem vY{i:Nat}{x:Str}(hN:X.N.Nodup)(hi:X.N[i]?=some x)(hx:Loc X.env.scope x)(hf:autoParam (X.fn x=true\/X.env.scope.names.lookup x=some .local) Ř):PG X (.Name x pos) (qxb i):=by
 intro pins s σ H v u Q I r h;exact wpAny_assign_Name (jzn I hN hi hx r (λs' I'=>⟨_,H,I',h⟩) hf)
abbrev xj1:TGs:=λvs σ H Q=>vs=[]/\Q σ H
abbrev wqo(t:TG)(u:TGs):TGs:=λvs σ H Q=>∃v r,vs=v::r/\t v σ H fun σ' H'=>u r σ' H' Q
theorem JJ:PGs X [] xj1:=by
 intro pins s σ H vs us Q I r h;obtain⟨e,h⟩:=h;subst e;cases r;exact assignInOrder_nil ⟨σ,H,I,h⟩
theorem vq{e:Expr}{es:List Expr}{t:TG}{u:TGs}(h1:PG X e t)(h2:PGs X es u)
  (hs:autoParam ((assignEach (e::es) X.env).map (·.2)=assign e X.env::(assignEach es X.env).map (·.2)) Ŕ):PGs X (e::es) (wqo t u):=by
 intro pins s σ H vs us Q I r h;obtain⟨v,vr,e1,h⟩:=h;subst e1;cases r with
 |cons r rr=>
  rw[hs];refine assignInOrder_cons (thn (h1 pins s σ H _ _ _ I r h) λ_ s1 ⟨σ1,H1,I1,q1⟩=>?_);exact h2 pins s1 σ1 H1 _ _ Q I1 rr q1
abbrev gSub(to ti:TE)(t:wz4):TG:=λv σ H Q=>to σ H λo H1=>ti σ H1 λi H2=>t o i v H2 λH3=>Q σ H3
theorem vq5{o i:Expr}{to ti:TE}{t:wz4}(ho:PE X o to)(hi:PE X i ti)(hs:xj7 X t)
  (ha:autoParam (∀v,assign (.Subscript o i pos) X.env v=(do
   let ov <-holding [v] (eval o X.env)
   let iv <-holding [v,ov] (eval i X.env)
   standAt pos
   holding [v,ov,iv] (setItem ov iv v)
   release [v,ov,iv] [])) Ŗ):PG X (.Subscript o i pos) (gSub to ti t):=by
 intro pins s σ H v u Q I r h;rw[ha];refine X0 (Y9 (thn (ho pins s σ H _ I h) λov s1 ⟨x,H1,I1,r1,q1⟩=>?_));refine X0 (Y9 (thn (hi pins s1 σ H1 _ I1 q1) λiv s2 ⟨y,H2,I2,r2,q2⟩=>?_));refine X0 (wpAny_standAt (X0 (Y9 (thn (hs pins s2 σ H2 x y v ov iv u _ I2 r1 r2 r q2) λ_ s3 ⟨H3,I3,q3⟩=>?_))));exact wpAny_release ⟨σ,H3,I3,q3⟩
abbrev wzb(te:TE)(g:TG):TS:=λD σ H=>te σ H λx H1=>g x σ H1 D.nx
theorem qvn{tg e:Expr}{te:TE}{g:TG}(he:PE X e te)(hg:PG X tg g)(hs:autoParam (swapsWithSole [tg] e pos.line X.env=pure false) Ŕ)(hw:autoParam (swappedStores [tg] e X.env=pure none) Ŕ)
  (h1:autoParam ((assignEach [tg] X.env).map (·.2)=[assign tg X.env]) Ŕ):PS X (.Assign [tg] e pos) (wzb te g):=by
 intro pins s σ H D I h;refine wpAny_Assign_stores (thn (he pins s σ H _ I h) λv s1 ⟨x,H1,I1,r1,q1⟩=>?_) hs hw;rw[h1];exact thn (hg pins s1 σ H1 x v _ I1 r1 q1) λ_ s2 q=>q
theorem wk0{i:Nat}{x:Str}{e:Expr}{te:TE}{ao:Pos}(hN:X.N.Nodup)(hi:X.N[i]?=some x)(hx:Loc X.env.scope x)(he:PE X e te)(hs:autoParam (swapsWith e (some (.Name x ao)) pos.line X.env=pure false) Ŕ)(hf:autoParam (X.fn x=true\/X.env.scope.names.lookup x=some .local) Ř):
  PS X (.Assign [.Name x ao] e pos) (wzb te (qxb i)):=by
 intro pins s σ H D I h;refine wpAny_Assign_Name (thn (he pins s σ H _ I h) λv s1 ⟨y,H1,I1,r1,q1⟩=>?_) hs;exact jzn I1 hN hi hx r1 (λs2 I2=>⟨_,H1,I2,q1⟩) hf
abbrev tAug(i:Nat)(te:TE)(ti:TIp):TS:=λD σ H=>∃x,σ[i]?=some (some x)/\te σ H λy H1=>ti x y H1 λz H2=>D.nx (σ.set i (some z)) H2
theorem wk3{i:Nat}{x:Str}{e:Expr}{te:TE}{op:Operator}{ti:TIp}{ao:Pos}(hN:X.N.Nodup)(hi:X.N[i]?=some x)(hx:Loc X.env.scope x)(he:PE X e te)(ho:PIp X op ti)(hf:autoParam (X.fn x=true\/X.env.scope.names.lookup x=some .local) Ř):
  PS X (.AugAssign (.Name x ao) op e pos) (tAug i te ti):=by
 intro pins s σ H D I h;obtain⟨v,e1,h⟩:=h;obtain⟨m,hn,hl⟩:=I.loc;have vis:Vis X.env.scope x:=by rcases hx with k|k;exact .inl k;exact .inr (.inl k)
 obtain⟨u,r,l⟩:=hl i x v hi e1 vis;refine wpAny_AugAssign_Name ?_;have go:wpAny (model X.prog X.w) X.A (eval e X.env) (λw s₂=>wpAny (model X.prog X.w) X.A (inplaceOp op u w) (λr s₃=>wpAny (model X.prog X.w) X.A (storeName X.env x r) (λ_=>SP X pins D .next) X.xe s₃) X.xe s₂) X.xe s:=by
  refine thn (he pins s σ H _ I h) λw s1 ⟨y,H1,I1,r1,q1⟩=>?_
  refine thn (ho pins s1 σ H1 v y u w _ I1 r r1 q1) λz s2 ⟨zv,H2,I2,r2,q2⟩=>?_
  exact jzn I2 hN hi hx r2 (λs3 I3=>⟨_,H2,I3,q2⟩) hf
 rcases l with⟨hk,hm⟩|⟨hk,c,hc,hcell⟩
 ·exact wpAny_loadName_local I.ok.kind hk hn hm go
 ·rcases hk with hk|hk
  ·exact wpAny_loadName_cell I.ok.kind hk hc hcell go
  ·rcases hx with k|k
   ·have:X.env.scope.names.lookup x=some .free:=hk;rw[k]at this;cases this
   ·have:X.env.scope.names.lookup x=some .free:=hk;rw[k]at this;cases this
def ipI(f:Int->Int->Int):TIp:=λx y H Q=>∃i j,x=.int i/\y=.int j/\Q (.int (f i j)) H
theorem vqi:PIp X .Add (ipI λi j=>i+j):=by
 intro pins s σ H x y v u Q I r1 r2 h;obtain⟨i,j,e1,e2,q⟩:=h;subst e1;subst e2;obtain⟨t,rfl⟩:=r1;obtain⟨t',rfl⟩:=r2;exact iadd_int ⟨.int _,H,I.tok _,⟨_,rfl⟩,q⟩
end
section
variable {X:Cx}{pos:Pos}
abbrev vzr(c:TT)(tb:TS):TS:=λD σ H=>∃W:Nat->St->Hp->Prop,(∃m,W m σ H)/\∀m σ H,W m σ H ->
 c σ H λb H1=>if b=true then ∃N:St->Hp->Prop,(∀ σ' H',N σ' H'->∃m',m'<m/\W m' σ' H')/\tb { D with nx:=N,ct:=N,bk:=D.nx } σ H1 else D.nx σ H1
theorem vj7{c:Expr}{body:List Stmt}{tc:TT}{tb:TS}(hp:PassesOwn (model X.prog X.w) X.A X.env X.xe)(hc:PT X c tc)(hb:PSs X body tb):PS X (.While c body [] pos) (vzr tc tb):=by
 intro pins s σ H D I h;obtain⟨W,⟨m0,w0⟩,e6⟩:=h;refine wpAny_While (codeAny_whileLoop (λn s'=>∃ σ' H',Inv X pins σ' H' s'/\W n σ' H') ?_ m0 ⟨σ,H,I,w0⟩);rintro n s1 ⟨σ1,H1,I1,w1⟩;refine Zf hp (thn (hc pins s1 σ1 H1 _ I1 (e6 n σ1 H1 w1)) λb s2 ⟨H2,I2,q2⟩=>?_);cases b with
 | true=>
  obtain⟨N,hN,q2⟩:=q2;rw[X8 rfl];refine Zf hp (thn (hb pins s2 σ1 H2 _ I2 q2) λf s3 q3=>?_);cases f with
  |next=>
   obtain⟨σ3,H3,I3,n3⟩:=q3;obtain⟨m',hm,w3⟩:=hN σ3 H3 n3;exact⟨m',hm,σ3,H3,I3,w3⟩
  |cont=>
   obtain⟨σ3,H3,I3,n3⟩:=q3;obtain⟨m',hm,w3⟩:=hN σ3 H3 n3;exact⟨m',hm,σ3,H3,I3,w3⟩
  |brk=>exact q3|ret v=>exact q3
 |false=>
  rw[Xf Bool.false_ne_true];exact wpAny_execs_nil ⟨σ1,H2,I2,q2⟩
end
structure It where
 go:Nat->Hp->Prop
 yld:Nat->Hp->V->Hp->Prop
 stop:Nat->Hp->Prop
def v9(X:Cx)(pins:LA9)(H:Hp)(b:Addr):Prop:=
 H b=none/\b≠X.env.locals/\b∉X.fs/\(b∈X.ex\/X.s₀.heap.objs.size<=b)/\(∀x c,X.env.cells.lookup x=some c->c≠b)/\∀p∈X.pn++pins,p.1≠b
theorem Inv.fpOk{X:Cx}{pins:LA9}{σ:St}{H H':Hp}{s:Shared}{b:Addr}(I:Inv X pins σ H s)(hb:s.heap.objs.size<=b)(hn:H' b=none):v9 X pins H' b:=by
 refine⟨hn,Nat.ne_of_gt (Xl I.lt hb),I.nofs hb,.inr (Ye I.sz hb),λx c e z=>?_,λp hp z=>?_⟩
 ·obtain⟨v,q⟩:=I.cell x c e;exact absurd (Xl q.lt (by rw[z];exact hb)) (Yp _)
 ·exact absurd (Xl (Xg (I.pin p hp).1) (by rw[z];exact hb)) (Yp _)
structure Turn (P:Program)(w:World)(K:Frag)(tg:Expr)(J:It)(fp:List Addr)(it:Addr)(tn:Nat->Heap->Prop):Prop where
 mem:it∈fp
 obj:∀i h,tn i h->∀b∈fp,∃o,h.get? b=some o/\∀v,o.data≠.cell v
 keep:∀i h h',tn i h->(∀b∈fp,∀o,h.get? b=some o->h'.get? b=some o)->tn i h'
 item:∀(X:Cx),X.prog=P->X.w=w->X.K=K->X.calm=true->∀(i:Nat) (pins:LA9) (s:Shared) (σ:St) (H:Hp) (E:VP9),Inv X pins σ H s->(∀b∈fp,v9 X pins H b)->tn i s.heap->J.go i H ->
  wpAny (model P w) X.A (pyNext (.ref it)) (λr s1=>∃u,r=some u /\
   wpAny (model P w) X.A (letOwnedTupleGo tg (.ref it) u) (λ_ s2=>∃x H',Inv X pins σ H' s2/\RelV x u/\J.yld i H x H'/\tn (i+1) s2.heap/\∀b∈fp,H' b=none) E s1) E s
 done:∀(X:Cx),X.prog=P->X.w=w->X.K=K->X.calm=true->∀(i:Nat) (pins:LA9) (s:Shared) (σ:St) (H:Hp) (E:VP9),Inv X pins σ H s->(∀b∈fp,v9 X pins H b)->tn i s.heap->J.stop i H ->
  wpAny (model P w) X.A (pyNext (.ref it)) (λr s1=>r=none/\Inv X pins σ H s1) E s
 self:∀(A:Around) (i:Nat) (s:Shared) (Q:VP9) (E:VP9),tn i s.heap->Q (.ref it) s->wpAny (model P w) A (pyIter (.ref it)) Q E s
abbrev TI:=St->Hp->(It->Hp->Prop)->Prop
def PIE(X:Cx)(pins:LA9)(σ:St)(tg:Expr)(R:It->Hp->Prop)(itv:Value)(s2:Shared):Prop:=
 ∃(it:Addr) (fp:List Addr) (tn:Nat->Heap->Prop) (J:It) (H':Hp),itv=.ref it/\Inv X pins σ H' s2/\Turn X.prog X.w X.K tg J fp it tn/\tn 0 s2.heap/\(∀b∈fp,v9 X pins H' b)/\R J H'
def PI(X:Cx)(tg ae:Expr)(wi:TI):Prop:=
 ∀(pins:LA9) (s:Shared) (σ:St) (H:Hp) (R:It->Hp->Prop),Inv X pins σ H s->wi σ H R ->
  wpAny (model X.prog X.w) X.A (eval ae X.env) (λv s1=>wpAny (model X.prog X.w) X.A (pyIter v) (PIE X pins σ tg R) X.xe s1) X.xe s
theorem vjx {M : Model} {A : Around} {E : Value -> Shared -> Prop} {s : Shared} {tg : Expr} {it : Addr} {u : Value} {o : Obj} {n : String} {vs : Array Value} {Q : Unit -> Shared -> Prop} (ho : s.heap.get? it = some o) (hc : o.cls = .type n) (hd : o.data = .fields vs)
    (hn : ["enumerate", "zip", "dict_itemiterator", "dict_reverseitemiterator", "odict_iterator", "itertools.zip_longest", "itertools.pairwise"].contains n = false) (hQ : Q () s): wpAny M A (letOwnedTupleGo tg (.ref it) u) Q E s:= by
  unfold letOwnedTupleGo;cases tg <;> first
    |exact X5 hQ
    |(cases u <;> first
        |exact X5 hQ
        | (refine X0 (wpAny_load ho ?_)
           rw[hc, hd];show wpAny M A (if(["enumerate", "zip", "dict_itemiterator", "dict_reverseitemiterator", "odict_iterator", "itertools.zip_longest", "itertools.pairwise"].contains n&&vs[0]? == some (rawInt _)) = true then _ else _) Q E s;rw[Xf (by intro h; rw[hn, Bool.false_and]at h; cases h)];exact X5 hQ))
def Itl(K:Frag)(a:Addr):It:=
 ⟨λi H=>∃xs x,SqL K H a xs/\xs[i]?=some x,λi H x H'=>H'=H/\∀xs,SqL K H a xs->xs[i]?=some x,λi H=>∃xs,SqL K H a xs/\xs.length<=i⟩
def Itt(K:Frag)(a:Addr):It:=
 ⟨λi H=>∃xs x,SqT K H a xs/\xs[i]?=some x,λi H x H'=>H'=H/\∀xs,SqT K H a xs->xs[i]?=some x,λi H=>∃xs,SqT K H a xs/\xs.length<=i⟩
def Itr(lo:Int)(n:Nat):It:=⟨λi _=>i<n,λi H x H'=>H'=H/\x=.int (lo+i),λi _=>n<=i⟩
theorem qqh{P:Program}{w:World}{K:Frag}{tg:Expr}(a it:Addr):Turn P w K tg (Itl K a) [it] it (λi h=>h.IsListIter it a i) where
 mem:=by simp
 obj:=λi h st b hb=>by
  have e:b=it:=by simpa using hb
  subst e;obtain⟨o,e,c,d⟩:=st;exact⟨o,e,λv z=>by rw[d]at z;cases z⟩
 keep:=λi h h' st k=>st.at λo e=>k it (by simp) o e
 item:=by
  intro X hP hw hK hc i pins s σ H E I hf st hg;subst hP hw hK;obtain⟨xs,x,hq,hx⟩:=hg;obtain⟨a8,rv,p,hz⟩:=I.list hq;obtain⟨u,hu,ru⟩:=rv.get hx;obtain⟨f0,f1,f2,f3,f4,f5⟩:=hf it (by simp);refine wpAny_pyNext_list_item st p.isList (x:=u) (by simpa using hu) λh' eh sb=>?_
  have I1:Inv X pins σ H { s with heap:=h' }:=I.turned (t':=s.toks) (λb o hb e=>(sb.2 b hb).trans e) f0 f1 f3 f4 f5;obtain⟨o,e,c,d⟩:=id eh;exact⟨u,rfl,vjx (s:={ s with heap:=h' }) e c d ⋯ ⟨x,H,I1,ru,⟨rfl,λys hy=>by rw[I.list_inj hy hq];exact hx⟩,eh,λb hb=>(hf b hb).1⟩⟩
 done:=by
  intro X hP hw hK hc i pins s σ H E I hf st hg;subst hP hw hK;obtain⟨xs,hq,hx⟩:=hg;obtain⟨a8,rv,p,hz⟩:=I.list hq;obtain⟨f0,f1,f2,f3,f4,f5⟩:=hf it (by simp);have hl:=rv.length;exact wpAny_pyNext_list_end (I.ok.hd hc) st p.isList (by simp;omega) λh' eb=>⟨rfl,I.turned (t':=s.toks) (λb o hb e=>eb b o hb e) f0 f1 f3 f4 f5⟩
 self:=λ_ _ _ _ _ st h=>wpAny_pyIter_listiter st h
theorem qk4{P:Program}{w:World}{K:Frag}{tg:Expr}(a it:Addr):Turn P w K tg (Itt K a) [it] it (λi h=>h.IsTupleIter it a i) where
 mem:=by simp
 obj:=λi h st b hb=>by
  have e:b=it:=by simpa using hb
  subst e;obtain⟨o,e,c,d⟩:=st;exact⟨o,e,λv z=>by rw[d]at z;cases z⟩
 keep:=λi h h' st k=>st.at λo e=>k it (by simp) o e
 item:=by
  intro X hP hw hK hc i pins s σ H E I hf st hg;subst hP hw hK;obtain⟨xs,x,hq,hx⟩:=hg;obtain⟨a8,rv,p,hz⟩:=I.tuple hq;obtain⟨u,hu,ru⟩:=rv.get hx;obtain⟨f0,f1,f2,f3,f4,f5⟩:=hf it (by simp);refine wpAny_pyNext_tuple_item st (show s.heap.IsTuple a a8.toArray from p) (x:=u) (by simpa using hu) λh' eh sb=>?_
  have I1:Inv X pins σ H { s with heap:=h' }:=I.turned (t':=s.toks) (λb o hb e=>(sb.2 b hb).trans e) f0 f1 f3 f4 f5;obtain⟨o,e,c,d⟩:=id eh;exact⟨u,rfl,vjx (s:={ s with heap:=h' }) e c d ⋯ ⟨x,H,I1,ru,⟨rfl,λys hy=>by rw[I.tuple_inj hy hq];exact hx⟩,eh,λb hb=>(hf b hb).1⟩⟩
 done:=by
  intro X hP hw hK hc i pins s σ H E I hf st hg;subst hP hw hK;obtain⟨xs,hq,hx⟩:=hg;obtain⟨a8,rv,p,hz⟩:=I.tuple hq;obtain⟨f0,f1,f2,f3,f4,f5⟩:=hf it (by simp);have hl:=rv.length;exact wpAny_pyNext_tuple_end (I.ok.hd hc) st (show s.heap.IsTuple a a8.toArray from p) (by simp;omega) λh' eb=>⟨rfl,I.turned (t':=s.toks) (λb o hb e=>eb b o hb e) f0 f1 f3 f4 f5⟩
 self:=λ_ _ _ _ _ st h=>wpAny_pyIter_tupleiter st h
theorem qk5{P:Program}{w:World}{K:Frag}{tg:Expr}(it:Addr)(lo:Int)(n:Nat):Turn P w K tg (Itr lo n) [it] it (λi h=>IsRangeIter h it (lo+(i:Nat)*1) ((n:Int) - (i:Nat)) 1) where
 mem:=by simp
 obj:=λi h st b hb=>by
  have e:b=it:=by simpa using hb
  subst e;exact⟨_,st,λv z=>by
   have z':Data.fields _=Data.cell v:=z;cases z'⟩
 keep:=λi h h' st k=>k it (by simp) _ st
 item:=by
  intro X hP hw hK hc i pins s σ H E I hf st hg;subst hP hw hK;obtain⟨f0,f1,f2,f3,f4,f5⟩:=hf it (by simp);have W:=Walks.range (prog:=X.prog) (w:=X.w) (I.ok.hd hc) it lo 1 n;refine W.item i s _ _ hg st λv h' tk hv eh kk=>?_
  obtain⟨t,rfl⟩:=hv;have I1:Inv X pins σ H { s with heap:=h',toks:=tk }:=I.turned (λb o hb e=>kk b o (by simpa using hb) e) f0 f1 f3 f4 f5;refine⟨_,rfl,vjx (s:={ s with heap:=h',toks:=tk }) (n:="range_iterator") eh rfl rfl ⋯ ⟨.int (lo+i),H,I1,⟨t,?_⟩,⟨rfl,rfl⟩,eh,λb hb=>(hf b hb).1⟩⟩;rw[Int.mul_one]
 done:=by
  intro X hP hw hK hc i pins s σ H E I hf st hg;subst hP hw hK;obtain⟨f0,f1,f2,f3,f4,f5⟩:=hf it (by simp);exact wpAny_pyNext_range_end (I.ok.hd hc) st (by have:n<=i:=hg;omega) λh' eb=>⟨rfl,I.turned (t':=s.toks) (λb o hb e=>eb b o hb e) f0 f1 f3 f4 f5⟩
 self:=λ_ _ _ _ _ st h=>wpAny_pyIter_rangeiter st h
section
variable {X:Cx}{tg:Expr}
theorem qzz{pins:LA9}{σ:St}{H:Hp}{s:Shared}{R:It->Hp->Prop}{E:VP9}{lo hi:Int}{t u v:Tok}{tk:Nat}(I:Inv X pins σ H s)(h1:-(2 ^ 62)<=lo)(h2:lo<2 ^ 62)(h3:-(2 ^ 62)<=hi)(h4:hi<2 ^ 62)
  (q:R (Itr lo (hi - lo).toNat) H):wpAny (model X.prog X.w) X.A (pyIter (.ref s.heap.objs.size)) (PIE X pins σ tg R) E { s with heap:=s.heap.push { cls:=.type "range",data:=.fields #[.int lo t,.int hi u,.int 1 v] },toks:=tk }:=by
 refine wpAny_pyIter_range (IsRange.new ..) (small_one h1 h2 h3 h4) ?_;have I1:Inv X pins σ H { s with heap:=s.heap.push { cls:=.type "range",data:=.fields #[.int lo t,.int hi u,.int 1 v] },toks:=tk }:=I.kept λb o e=>X2 _ e
 refine⟨(s.heap.push { cls:=.type "range",data:=.fields #[.int lo t,.int hi u,.int 1 v] }).objs.size,[(s.heap.push { cls:=.type "range",data:=.fields #[.int lo t,.int hi u,.int 1 v] }).objs.size],_,_,H,rfl,
  I1.kept (t':=tk) λb o e=>X2 _ e,qk5 _ lo (hi - lo).toNat,?_,λb hb=>?_,q⟩
 ·have e1:lo+((0:Nat):Int)*1=lo:=by simp
  have e2:(((hi - lo).toNat:Nat):Int) - ((0:Nat):Int)=Builtin.Range.rangeSize lo hi 1:=by rw[rangeSize_one];split<;>omega
  show IsRangeIter _ _ (lo+((0:Nat):Int)*1) ((((hi - lo).toNat:Nat):Int) - ((0:Nat):Int)) 1;rw[e1,e2];exact Xa _ rfl
 ·have e:b=(s.heap.push { cls:=.type "range",data:=.fields #[.int lo t,.int hi u,.int 1 v] }).objs.size:=by simpa using hb
  subst e;exact I1.fpOk (Xb _) (I1.hok.fresh (Xb _))
abbrev wxp(ta:TA):TI:=fun σ H R=>ta σ H λvs H1=>∃j:Int,vs=[.int j]/\-(2 ^ 62)<=j/\j<2 ^ 62/\R (Itr 0 j.toNat) H1
theorem qvt{a:Expr}{ta:TA}{p pos:Pos}(hg:Gl X "range")(hm:X.mg "range"=none)(ha:PA X [a] ta)(hs:autoParam (starEach [a] X.env=[(false,eval a X.env)]) Ŕ):PI X tg (.Call (.Name "range" p) [a] [] pos) (wxp ta):=by
 intro pins s σ H R I h;refine Call_ (zq I hg hm boot_range (Y2 (thn (ha pos pins s σ H _ I h) λus s1 ⟨vs,H1,I1,r1,q1⟩=>?_) hs rfl));obtain⟨j,e,q1,q2,q⟩:=q1;subst e;cases r1 with
 |cons r rr=>
  cases rr;obtain⟨t,rfl⟩:=r;exact call_range_1 (qzz I1 ⋯ ⋯ q1 q2 (by simpa using q))
abbrev tFor(wi:TI)(g:TG)(tb:TS):TS:=λD σ H=>wi σ H λJ H1=>∃W:Nat->Nat->St->Hp->Prop,(∃m,W 0 m σ H1)/\∀i m σ H,W i m σ H ->
 (J.stop i H/\D.nx σ H)\/(J.go i H/\∃N:St->Hp->Prop,(∀ σ' H',N σ' H'->∃m',m'<m/\W (i+1) m' σ' H')/\∀x H',J.yld i H x H'->g x σ H' fun σ2 H2=>tb { D with nx:=N,ct:=N,bk:=D.nx } σ2 H2)
def Kj(fp:List Addr)(h:Heap):LA9:=fp.filterMap λb=>(h.get? b).map λo=>(b,o)
theorem jz0{fp:List Addr}{h:Heap}{b:Addr}{o:Obj}(hb:b∈fp)(e:h.get? b=some o):(b,o)∈Kj fp h:=List.mem_filterMap.mpr ⟨b,hb,by rw[e];rfl⟩
theorem kw7{fp:List Addr}{h:Heap}{p:Addr×Obj}(hp:p∈Kj fp h):p.1∈fp/\h.get? p.1=some p.2:=by
 obtain⟨b,hb,e⟩:=List.mem_filterMap.mp hp;cases q:h.get? b with
 |none=>rw[q]at e;cases e
 |some o=>
  rw[q]at e;have e':(b,o)=p:=oq9 e;subst e';exact⟨hb,q⟩
theorem Inv.pinned{pins:LA9}{σ:St}{H:Hp}{s:Shared}{fp:List Addr}(I:Inv X pins σ H s)(hf:∀b∈fp,v9 X pins H b)(ho:∀b∈fp,∃o,s.heap.get? b=some o/\∀v,o.data≠.cell v):Inv X (pins++Kj fp s.heap) σ H s:=
 I.pins_of λp hp=>(aA hp).elim (λz=>I.pin p (lr9 _ z)) λz=>by
  obtain⟨hb,e⟩:=kw7 z;obtain⟨f0,f1,f2,_⟩:=hf p.1 hb;obtain⟨o,e',d⟩:=ho p.1 hb;rw[e]at e';cases e';exact⟨e,f0,f1,f2,d⟩
theorem Inv.unpinned{pins pl:LA9}{σ:St}{H:Hp}{s:Shared}(I:Inv X (pins++pl) σ H s):Inv X pins σ H s:=I.pins_of λp hp=>I.pin p (lr9 _ (ll9 _ hp))
theorem wk2{ae:Expr}{body:List Stmt}{wi:TI}{g:TG}{tb:TS}{pos:Pos}(hp:PassesOwn (model X.prog X.w) X.A X.env X.xe)(hc:X.calm=true)(hi:PI X tg ae wi)(hg:PG X tg g)(hb:PSs X body tb)
  (hs:autoParam (∀x,foldedSetIterable ae X.env x=pure x) Ŗ):PS X (.For tg ae body [] pos) (tFor wi g tb):=by
 intro pins s σ H D I h;refine wpAny_For (thn (hi pins s σ H _ I h) λv s1 h1=>thn h1 λitv s2 h2=>?_) hs;obtain⟨it,fp,tn,J,H2,e,I2,T,bg,f2,W,⟨m0,w0⟩,e6⟩:=h2;subst e;have gj:∀{H':Hp},(∀b∈fp,H' b=none)->∀b∈fp,v9 X pins H' b:=λhn b hb=>⟨hn b hb,(f2 b hb).2⟩
 refine codeAny_forLoop_any (λn s'=>∃i σ' H',Inv X pins σ' H' s'/\tn i s'.heap/\(∀b∈fp,H' b=none)/\W i n σ' H') ?_ m0 ⟨0,σ,H2,I2,bg,λb hb=>(f2 b hb).1,w0⟩;rintro n s3 ⟨i,σ3,H3,I3,dh,fr3,w3⟩;rcases e6 i n σ3 H3 w3 with⟨stop,qn⟩|⟨go,N,hN,step⟩
 ·refine Zf hp (thn (T.done X rfl rfl rfl hc i pins s3 σ3 H3 X.xe I3 (gj fr3) dh stop) λr s4 ⟨hr,I4⟩=>?_);subst hr;exact wpAny_execs_nil ⟨σ3,H3,I4,qn⟩
 ·refine Zf hp (thn (T.item X rfl rfl rfl hc i pins s3 σ3 H3 X.xe I3 (gj fr3) dh go) λr s4 ⟨u,hr,h4⟩=>?_);subst hr;refine Zf hp (thn h4 λ_ s5 ⟨x,H5,I5,r5,y5,jf,fr5⟩=>?_);have I5':=I5.pinned (gj fr5) (T.obj _ _ jf);refine Zf hp (thn (hg _ s5 σ3 H5 x u _ I5' r5 (step x H5 y5)) λ_ s6 ⟨σ6,H6,I6,q6⟩=>?_);refine Zf hp (thn (hb _ s6 σ6 H6 _ I6 q6) λf s7 q7=>?_);have again:∀{σ7:St} {H7:Hp},Inv X (pins++Kj fp s5.heap) σ7 H7 s7->N σ7 H7->∃m,m<n/\∃i σ' H',Inv X pins σ' H' s7/\tn i s7.heap/\(∀b∈fp,H' b=none)/\W i m σ' H':=fun {σ7 H7} I7 n7=>by
   obtain⟨m',hm,w7⟩:=hN σ7 H7 n7;refine⟨m',hm,i+1,σ7,H7,I7.unpinned,T.keep _ _ _ jf λb hb o e=>(I7.pin (b,o) (lr9 _ (lr9 _ (jz0 hb e)))).1,λb hb=>?_,w7⟩;obtain⟨o,e,d⟩:=T.obj _ _ jf b hb;exact(I7.pin (b,o) (lr9 _ (lr9 _ (jz0 hb e)))).2.1
  cases f with|next=>obtain⟨σ7,H7,I7,n7⟩:=q7;exact again I7 n7|cont=>obtain⟨σ7,H7,I7,n7⟩:=q7;exact again I7 n7|brk=>obtain⟨σ7,H7,I7,q7⟩:=q7;exact⟨σ7,H7,I7.unpinned,q7⟩|ret v=>obtain⟨x7,σ7,H7,I7,r7,q7⟩:=q7;exact⟨x7,σ7,H7,I7.unpinned,r7,q7⟩
end
abbrev R2:=V->V->Hp->VK->Prop
def OpR(X:Cx)(f:Value->Value->Sem Value)(r:R2):Prop:=
 ∀(pins:LA9) (s:Shared) (σ:St) (H:Hp) (x y:V) (v u:Value) (Q:VK),Inv X pins σ H s->RelV x v->RelV y u->r x y H Q ->
  wpAny (model X.prog X.w) X.A (f v u) (EP X pins σ Q) X.xe s
def CallR(X:Cx)(f:Value)(r:List V->Hp->VK->Prop):Prop:=
 ∀(pins:LA9) (s:Shared) (σ:St) (H:Hp) (xs:List V) (us:List Value) (Q:VK),Inv X pins σ H s->Vals xs us->r xs H Q ->
  wpAny (model X.prog X.w) X.A (call f us) (EP X pins σ Q) X.xe s
def TruR(X:Cx)(r:V->Hp->(Bool->Hp->Prop)->Prop):Prop:=
 ∀(pins:LA9) (s:Shared) (σ:St) (H:Hp) (x:V) (v:Value) (Q:Bool->Hp->Prop),Inv X pins σ H s->RelV x v->r x H Q ->
  wpAny (model X.prog X.w) X.A (truthy v) (TP X pins σ Q) X.xe s
abbrev tOp(r:R2)(ta tb:TE):TE:=fun σ H Q=>ta σ H λx H1=>tb σ H1 λy H2=>r x y H2 Q
abbrev tUn(r:V->Hp->VK->Prop)(ta:TE):TE:=fun σ H Q=>ta σ H λx H1=>r x H1 Q
def rI(C:Int->Int->Prop)(g:Int->Int->V):R2:=λx y H Q=>∃i j,x=.int i/\y=.int j/\C i j/\Q (g i j) H
def rI0(g:Int->Int->V):R2:=λx y H Q=>∃i j,x=.int i/\y=.int j/\Q (g i j) H
section
variable {X:Cx}{a b c:Expr}{ta tb tc:TE}{pos:Pos}
theorem wz1(ha:PE X a ta)(hb:PE X b tb){pins:LA9}{s:Shared}{σ:St}{H:Hp}{R:V->V->Hp->Prop}(I:Inv X pins σ H s)
  (h:ta σ H λx H1=>tb σ H1 λy H2=>R x y H2) {Q:VP9} {f:Value->Value->Sem Value}
  (hf:∀v u s2 x y H2,Inv X pins σ H2 s2->RelV x v->RelV y u->R x y H2->wpAny (model X.prog X.w) X.A (f v u) Q X.xe s2):
  wpAny (model X.prog X.w) X.A (eval a X.env) (λv s₁=>wpAny (model X.prog X.w) X.A (eval b X.env) (λu s₂=>wpAny (model X.prog X.w) X.A (f v u) Q X.xe s₂) X.xe s₁) X.xe s:=by
 refine thn (ha pins s σ H _ I h) λv s1 ⟨x,H1,I1,r1,q1⟩=>?_
 refine thn (hb pins s1 σ H1 _ I1 q1) λu s2 ⟨y,H2,I2,r2,q2⟩=>?_
 exact hf v u s2 x y H2 I2 r1 r2 q2
theorem wx6{op:Operator}{r:R2}(ho:OpR X (binaryOp op) r)(ha:PE X a ta)(hb:PE X b tb):PE X (.BinOp a op b pos) (tOp r ta tb):=by
 intro pins s σ H Q I h;exact wpAny_BinOp (wz1 ha hb I h λv u s2 x y H2 I2 rx ry q=>ho pins s2 σ H2 x y v u Q I2 rx ry q)
theorem opI{f:Value->Value->Sem Value}{C:Int->Int->Prop}{g:Int->Int->Int}
  (rule:∀(i j:Int) (t u:Tok) (s:Shared) (Q:VP9) (E:VP9),C i j->Q (.int (g i j) s.toks) { s with toks:=s.toks+1 }->wpAny (model X.prog X.w) X.A (f (.int i t) (.int j u)) Q E s):
  OpR X f (rI C λi j=>.int (g i j)):=by
 intro pins s σ H x y v u Q I rx ry h;obtain⟨i,j,rfl,rfl,hc,q⟩:=h;obtain⟨t,rfl⟩:=rx;obtain⟨t',rfl⟩:=ry;exact rule i j t t' s _ _ hc ⟨.int (g i j),H,I.tok _,⟨_,rfl⟩,q⟩
theorem wzt{f:Value->Value->Sem Value}{g:Int->Int->Int}
  (rule:∀(i j:Int) (t u:Tok) (s:Shared) (Q:VP9) (E:VP9),Q (.int (g i j) s.toks) { s with toks:=s.toks+1 }->wpAny (model X.prog X.w) X.A (f (.int i t) (.int j u)) Q E s):
  OpR X f (rI0 λi j=>.int (g i j)):=by
 intro pins s σ H x y v u Q I rx ry h;obtain⟨i,j,rfl,rfl,q⟩:=h;obtain⟨t,rfl⟩:=rx;obtain⟨t',rfl⟩:=ry;exact rule i j t t' s _ _ ⟨.int (g i j),H,I.tok _,⟨_,rfl⟩,q⟩
theorem wxd{f:Value->Value->Sem Value}{g:Int->Int->Bool}
  (rule:∀(i j:Int) (t u:Tok) (s:Shared) (Q:VP9) (E:VP9),Q (.bool (g i j)) s->wpAny (model X.prog X.w) X.A (f (.int i t) (.int j u)) Q E s):
  OpR X f (rI0 λi j=>.bl (g i j)):=by
 intro pins s σ H x y v u Q I rx ry h;obtain⟨i,j,rfl,rfl,q⟩:=h;obtain⟨t,rfl⟩:=rx;obtain⟨t',rfl⟩:=ry;exact rule i j t t' s _ _ ⟨.bl (g i j),H,I,rfl,q⟩
def xja(i j:Int):Prop:=0<=j/\j<=1000000/\i.natAbs<2 ^ 64
theorem op_add:OpR X (binaryOp .Add) (rI0 λi j=>.int (i+j)):=wzt λ_ _ _ _ _ _ _ q=>add_int q
theorem YW:OpR X (binaryOp .Sub) (rI0 λi j=>.int (i - j)):=wzt λ_ _ _ _ _ _ _ q=>sub_int q
theorem wkn:OpR X (binaryOp .Mod) (rI (λ_ j=>0<j) λi j=>.int (i % j)):=opI λi j _ _ _ _ _ hc q=>by
 have h1:(0:Int)<j:=hc;exact mod_int' ⋯ (by rw[Int.fmod_eq_emod_of_nonneg i ⋯];exact q)
theorem qj7:OpR X (binaryOp .Pow) (rI xja λi j=>.int (i ^ j.toNat)):=opI λ_ _ _ _ _ _ _ hc q=>pow_int_small hc.1 hc.2.1 hc.2.2 q
end
section
variable {X:Cx}{a b c:Expr}{ta tb tc:TE}{pos:Pos}
theorem qxg{pins:LA9}{σ:St}{H:Hp}{s:Shared}{Q:VK}{k k':Bool}(I:Inv X pins σ H s)(q:Q (.bl k) H)(e:k=k'):EP X pins σ Q (.bool k') s:=by
 subst e;exact⟨.bl k,H,I,rfl,q⟩
theorem vje:OpR X (compareOp .Lt) (rI0 λi j=>.bl (decide (i<j))):=wxd λ_ _ _ _ _ _ _ q=>lt_int q
theorem vwm:OpR X (compareOp .LtE) (rI0 λi j=>.bl (decide (i<=j))):=wxd λ_ _ _ _ _ _ _ q=>le_int q
theorem wxb:OpR X (compareOp .GtE) (rI0 λi j=>.bl (decide (j<=i))):=wxd λ_ _ _ _ _ _ _ q=>ge_int q
theorem qw5:OpR X (compareOp .In) (λx y H Q=>∃i j,x=.str i/\y=.str j/\Q (.bl (!(Builtin.Str.occurrences j i 0 j.length 1).isEmpty)) H):=by
 intro pins s σ H x y v u Q I rx ry h;obtain⟨i,j,rfl,rfl,q⟩:=h;obtain⟨t,rfl⟩:=rx;obtain⟨t',rfl⟩:=ry;exact in_str (qxg I q rfl)
theorem YJ : OpR X (compareOp .Is) (λx y H Q=>y = .non /\ Q (.bl (decide (x = .non))) H):= by
  intro pins s σ H x y v u Q I rx ry h;obtain⟨rfl, q⟩:= h;cases ry;refine is_none_gen (qxg I q ?_);cases x <;> first
    |(cases rx; rfl)
    |(obtain⟨t, rfl⟩:= rx; rfl)
theorem kqc : OpR X (compareOp .IsNot) (λx y H Q=>y = .non /\ Q (.bl (!decide (x = .non))) H):= by
  intro pins s σ H x y v u Q I rx ry h;obtain⟨rfl, q⟩:= h;cases ry;refine isnot_none_gen (qxg I q ?_);cases x <;> first
    |(cases rx; rfl)
    |(obtain⟨t, rfl⟩:= rx; rfl)
theorem OpR.or{f:Value->Value->Sem Value}{r r':R2}(h:OpR X f r)(h':OpR X f r'):OpR X f (λx y H Q=>r x y H Q\/r' x y H Q):=by
 intro pins s σ H x y v u Q I rx ry q;rcases q with q|q
 ·exact h pins s σ H x y v u Q I rx ry q
 ·exact h' pins s σ H x y v u Q I rx ry q
theorem kz(b:Expr){op:CmpOp}(h:autoParam (op≠.In) ŕ)(h2:autoParam (op≠.NotIn) ŕ):behindInMarks op b=false:=by
 have e1:(op==CmpOp.In)=false:=by cases op<;>first|rfl|exact absurd rfl h
 have e2:(op==CmpOp.NotIn)=false:=by cases op<;>first|rfl|exact absurd rfl h2
 cases b<;>simp[behindInMarks,e1,e2]
theorem vwg{op:CmpOp}{r:R2}(ho:OpR X (compareOp op) r)(ha:PE X a ta)(hb:PE X b tb)(hm:behindInMarks op b=false):PE X (.Compare a [op] [b] pos) (tOp r ta tb):=by
 intro pins s σ H Q I h;exact wpAny_Compare1 (wz1 ha hb I h λv u s2 x y H2 I2 rx ry q=>ho pins s2 σ H2 x y v u Q I2 rx ry q) hm
abbrev ww9(t:TE):TT:=fun σ H Q=>t σ H λx H'=>∃k,x=.bl k/\Q k H'
theorem vw1{op:CmpOp}{r:R2}(ho:OpR X (compareOp op) r)(ha:PE X a ta)(hb:PE X b tb)(hm:behindInMarks op b=false):PT X (.Compare a [op] [b] pos) (ww9 (tOp r ta tb)):=by
 intro pins s σ H Q I h;refine wpAny_isTrue_Compare1 (thn (ha pins s σ H _ I h) λv s1 ⟨x,H1,I1,r1,q1⟩=>thn (hb pins s1 σ H1 _ I1 q1) λu s2 ⟨y,H2,I2,r2,q2⟩=>
  thn (ho pins s2 σ H2 x y v u _ I2 r1 r2 q2) λc s3 ⟨z,H3,I3,r3,k,e,q3⟩=>?_) hm
 subst e;cases r3;exact wpAny_truthy_bool ⟨H3,I3,q3⟩
noncomputable def ww3(K:Frag)(x:V)(H:Hp)(k:Bool):Prop:=
 match x with
 |.non=>k=false|.bl b=>k=b|.int i=>k=(i != 0)|.str y=>y.length<=sizeLine/\k=((y.length:Int) != 0)|.byt y=>y.size<=sizeLine/\k=((y.size:Int) != 0)|.ref p=>(∃xs,SqL K H p xs/\k=!xs.isEmpty)\/(∃xs,SqT K H p xs/\k=!xs.isEmpty)\/∃kvs,H p=some (.dK kvs)/\k=!kvs.isEmpty|_=>False
theorem qkp{κ:Type}{kvs:List (κ×V)}{vs:List (κ×Value)}(r:KV kvs vs):(!vs.isEmpty)=!kvs.isEmpty:=by
 cases r<;>rfl
theorem kki{xs:List V}{a8:List Value}(r:Vals xs a8):(!a8.toArray.isEmpty)=!xs.isEmpty:=by
 cases r<;>simp
theorem Vj:(sizeLine:Nat)<2 ^ 63:=by rw[sizeLine_eq];decide
theorem vki:TruR X (λx H Q=>∃k,ww3 X.K x H k/\Q k H):=by
 intro pins s σ H x v Q I rx h;obtain⟨k,e,q⟩:=h;have hl:=Vj;have hs:sizeLine=16777216:=sizeLine_eq;cases x with
 | non=>
  cases rx;have e':k=false:=e;subst e';exact truthy_none ⟨H,I,q⟩
 | bl b=>
  cases rx;have e':k=b:=e;subst e';exact wpAny_truthy_bool ⟨H,I,q⟩
 | int i=>
  obtain⟨t,rfl⟩:=rx;have e':k=(i != 0):=e;subst e';exact PySem.P.truthy_int ⟨H,I,q⟩
 | str y=>
  obtain⟨t,rfl⟩:=rx;obtain⟨hy,e'⟩:y.length<=sizeLine/\k=((y.length:Int) != 0):=e;subst e';exact PySem.P.truthy_str ⋯ ⟨H,I.tok _,q⟩
 | byt y=>
  obtain⟨t,rfl⟩:=rx;obtain⟨hy,e'⟩:y.size<=sizeLine/\k=((y.size:Int) != 0):=e;subst e';exact PySem.W.truthy_bytes ⋯ ⟨H,I.tok _,q⟩
 | ref p=>
  cases rx;have e':(∃xs,SqL X.K H p xs/\k=!xs.isEmpty)\/(∃xs,SqT X.K H p xs/\k=!xs.isEmpty)\/∃kvs,H p=some (.dK kvs)/\k=!kvs.isEmpty:=e;rcases e' with⟨xs,hx,e'⟩|⟨xs,hx,e'⟩|⟨kvs,hx,e'⟩
  ·subst e';obtain⟨a8,r,pl,hz⟩:=I.list hx;have ab:=r.length;exact wpAny_truthy_list pl.isList (by simp only[X7];omega) ⟨H,I.tok _,by rw[kki r];exact q⟩
  ·subst e';obtain⟨a8,r,pl,hz⟩:=I.tuple hx;have ab:=r.length;exact truthy_tuple pl (by simp only[X7];omega) ⟨H,I.tok _,by rw[kki r];exact q⟩
  ·subst e';obtain⟨hz,hS,vs,r,m⟩:kvs.length<=sizeLine/\(p==sysModules)=false/\∃vs,KV kvs vs/\s.heap.DictOf (xX X.prog X.w) p vs:=I.hok p _ hx;have ab:kvs.length=vs.length:=Paired.length r;exact wpAny_truthy_dict hS m ⋯ ⟨H,I.tok _,by rw[qkp r];exact q⟩
 |_=>exact(show False from e).elim
theorem vj5(ha:PE X a ta)(he:∀dz,isTrue a X.env dz=(do let v <-dz;standAt a.pos;holding [v] (truthy v))):
  PT X a (fun σ H Q=>ta σ H λx H'=>∃k,ww3 X.K x H' k/\Q k H'):=by
 intro pins s σ H Q I h;exact isTrue_plain (thn (ha pins s σ H _ I h) λv s1 ⟨x,H1,I1,r1,q1⟩=>vki pins s1 σ H1 x v Q I1 r1 q1) (he _)
theorem op_add_str:OpR X (binaryOp .Add) (λx y H Q=>∃i j,x=.str i/\y=.str j/\i.length+j.length<=sizeLine/\Q (.str (i++j)) H):=by
 intro pins s σ H x y v u Q I rx ry h;obtain⟨i,j,rfl,rfl,hz,q⟩:=h;obtain⟨t,rfl⟩:=rx;obtain⟨t',rfl⟩:=ry;exact add_str (λt' tk=>⟨.str (i++j),H,I.tok _,⟨_,rfl⟩,q⟩) hz
theorem xq{x:V}{us:List Value}(r:Vals [x] us):∃u,us=[u]/\RelV x u:=by
 cases r with|cons r1 r2=>cases r2;exact⟨_,rfl,r1⟩
theorem qzl{x y:V}{us:List Value}(r:Vals [x,y] us):∃u w',us=[u,w']/\RelV x u/\RelV y w':=by
 cases r with
 |cons r1 r2=>
  cases r2 with|cons r3 r4=>cases r4;exact⟨_,_,rfl,r1,r3⟩
theorem qxv(hc:X.calm=true):CallR X (.builtin "min") (λxs H Q=>∃i j,xs=[.int i,.int j]/\Q (.int (if j<i then j else i)) H):=by
 intro pins s σ H xs us Q I r h;obtain⟨i,j,rfl,q⟩:=h;obtain⟨u,w',rfl,⟨t,rfl⟩,⟨t',rfl⟩⟩:=qzl r;refine min_two_ints (I.ok.hd hc) λh' tk k=>⟨_,H,I.kept k,?_,q⟩
 by_cases hj:j<i
 ·rw[X8 hj,X8 hj];exact⟨_,rfl⟩
 ·rw[Xf hj,Xf hj];exact⟨_,rfl⟩
theorem qxy:CallR X (.type "int") (λxs H Q=>(∃i,xs=[.int i]/\Q (.int i) H)\/∃k,xs=[.bl k]/\Q (.int (if k then 1 else 0)) H):=by
 intro pins s σ H xs us Q I r h;rcases h with⟨i,rfl,q⟩|⟨k,rfl,q⟩
 ·obtain⟨u,rfl,t,rfl⟩:=xq r;exact call_int_int ⟨.int i,H,I,⟨_,rfl⟩,q⟩
 ·obtain⟨u,rfl,r1⟩:=xq r;cases r1;exact call_int_bool ⟨.int (if k then 1 else 0),H,I.tok _,⟨_,rfl⟩,q⟩
end
structure ObjM (h:Heap)(x dx C:Addr)(mA:Str->Option Value):Prop where
 obj:h.get? x=some (PySem.W.instObj C dx)
 ns:h.Ns1 dx mA
 ne:dx≠x
theorem qwk{h:Heap}{dx:Addr}{mA:Str->Option Value}(n:h.Ns1 dx mA):∃od,h.get? dx=some od/\∀name,PySem.W.lookIn name od=some (mA name):=by
 obtain⟨o,es,ep,ho,hd,hk,_,hm⟩:=n;refine⟨o,ho,λname=>?_⟩;have e:=hm name;unfold nsFind findBy at e;rw[<-Array.find?_toList]at e;unfold PySem.W.lookIn;rw[hd];dsimp only
 split
 ·rename_i y q;rw[q]at e;exact congrArg some e
 ·rename_i q;rw[q]at e;have a:es.toList.any (·.refKey)=false:=by
   rw[List.any_eq_false];intro y hy;obtain⟨z,t,im⟩:=hk y (Array.mem_toList_iff.mp hy);simp[DictEntry.refKey,im]
  have a':¬es.toList.any (·.refKey)=true:=by rw[a];exact Bool.false_ne_true
  rw[Xf a'];exact congrArg some e
theorem ObjM.look{h:Heap}{x dx C:Addr}{mA:Str->Option Value}(I:ObjM h x dx C mA):∃od,PySem.W.InstAt h x (PySem.W.instObj C dx) C (some od)/\∀name,PySem.W.lookIn name od=some (mA name):=
 let ⟨od,ho,hl⟩:=qwk I.ns
 ⟨od,⟨I.obj,rfl,rfl,ho⟩,hl⟩
theorem RelO.some_of{v:V}{o:Option Value}(r:RelO (some v) o):∃u,o=some u/\RelV v u:=by
 cases o with|none=>exact(show False from r).elim|some u=>exact⟨u,rfl,r⟩
section
variable {P:Program}{w:World}{H H':Hp}{h h':Heap}{a C dx:Addr}{fs fs':List (Str×V)}
theorem vxb(hok:HOk P w H h)(e:H a=some (.ins C dx fs)):∃mA,ObjM h a dx C mA/\(∀f,RelO (fs.lookup f) (mA f))/\PySem.Within mA (fs.map (·.1))/\fs.length<=1000/\H dx=some (.own a):=by
 obtain⟨d,z,ne,ob,mA,n,r,q⟩:=(show ObjOk P w H h a (.ins C dx fs)from hok a _ e);exact⟨mA,⟨ob,n,ne⟩,r,q,z,d⟩
end
structure Cls (K:Frag)(C:Addr):Prop where
 pg:PySem.W.plainGet K C Str.empty=true
 hd:PySem.W.hasDictIn K C=true
 po:PySem.W.plainOver K C=true
 sa:findIn K (.ref C) "__setattr__"=some (some (.builtin "object.__setattr__"))
theorem Cls.get{K:Frag}{C:Addr}(c:Cls K C)(f:Str):PySem.W.plainGet K C f=true:=c.pg
section
variable {X:Cx}{pins:LA9}{σ:St}{H:Hp}{s:Shared}{A:Around}{E:VP9}{Q:VP9}{c:Value}{b:Bool}
inductive TyOf (K:Frag)(H:Hp):V->Value->Prop where
 | non:TyOf K H .non (.type "NoneType")
 | bl (x:Bool):TyOf K H (.bl x) (.type "bool")
 | int (i:Int):TyOf K H (.int i) (.type "int")
 | str (x:Str):TyOf K H (.str x) (.type "str")
 | flt (x:UInt64):TyOf K H (.flt x) (.type "float")
 | lst {a:Addr} {xs:List V} (e:H a=some (.lst xs)):TyOf K H (.ref a) (.type "list")
 | frz {a:Addr} {o:Obj} {xs:List V} (e:H a=some (.frz o (.lst xs))):TyOf K H (.ref a) (.type "list")
 | tup {a:Addr} {xs:List V} (e:H a=some (.tup xs)):TyOf K H (.ref a) (.type "tuple")
 | dK {a:Addr} {kvs:List (Key×V)} (e:H a=some (.dK kvs)):TyOf K H (.ref a) (.type "dict")
 | dT {a:Addr} {kvs:List (List Key×V)} (e:H a=some (.dT kvs)):TyOf K H (.ref a) (.type "dict")
 | ins {a C dx:Addr} {fs:List (Str×V)} (e:H a=some (.ins C dx fs)) (cl:Cls K C) (ha:findIn K (.ref C) "__class__"=some (some (.builtin "object.__class__")))
   (hn:PySem.W.specialIn K (.builtin "object.__class__") "__get__"=some (some (.builtin "getset_descriptor.__get__"))) (htk:PySem.W.takesIn K (.builtin "object.__class__")=some true)
   (hm:PySem.W.mroIn K C (.type "object")=some true):TyOf K H (.ref a) (.ref C)
theorem qwz{x:V}{u t:Value}(I:Inv X pins σ H s)(rx:RelV x u)(ty:TyOf X.K H x t)(e:kitOne X.K t c=some b)(h:∀tk,Q (.bool b) { s with toks:=tk }):
  wpAny (model X.prog X.w) A (call (.builtin "isinstance") [u,c]) Q E s:=by
 cases ty with
 |non=>cases(show u=Value.none from rx);exact Yg PySem.W.kitx_none I.kIn True.intro e (λz=>nomatch z) h
 |bl y=>cases(show u=Value.bool y from rx);exact Yg PySem.W.kitx_bool I.kIn True.intro e (λz=>nomatch z) h
 |int i=>obtain⟨t,q⟩:=(show ∃t,u=Value.int i t from rx);cases q;exact Yg PySem.W.kitx_int I.kIn True.intro e (λz=>nomatch z) h
 |str y=>obtain⟨t,q⟩:=(show ∃t,u=Value.str y t from rx);cases q;exact Yg PySem.W.kitx_str I.kIn True.intro e (λz=>nomatch z) h
 |flt y=>obtain⟨t,q⟩:=(show ∃t,u=Value.float y t from rx);cases q;exact Yg PySem.W.kitx_float I.kIn True.intro e (λz=>nomatch z) h
 |@lst a xs ea=>
  cases(show u=Value.ref a from rx);obtain⟨_,_,n,_,h1⟩:=(show ObjOk X.prog X.w H s.heap a (.lst xs)from I.hok a _ ea);exact Yg PySem.W.kitx_list I.kIn ⟨_,h1,rfl⟩ e (λz=>nomatch z) h
 |@frz a ob xs ea=>
  cases(show u=Value.ref a from rx);obtain⟨_,_,_,n,_,h1⟩:=(show ObjOk X.prog X.w H s.heap a (.frz ob (.lst xs))from I.hok a _ ea);exact Yg PySem.W.kitx_list I.kIn ⟨_,h1,rfl⟩ e (λz=>nomatch z) h
 |@tup a xs ea=>
  cases(show u=Value.ref a from rx);obtain⟨_,_,_,p⟩:=(show ObjOk X.prog X.w H s.heap a (.tup xs)from I.hok a _ ea);obtain⟨o,h1,h2,_⟩:=p;exact Yg PySem.W.kitx_tuple I.kIn ⟨o,h1,h2⟩ e (λz=>nomatch z) h
 |@dK a kvs ea=>
  cases(show u=Value.ref a from rx);obtain⟨_,_,vs,_,p⟩:=(show ObjOk X.prog X.w H s.heap a (.dK kvs)from I.hok a _ ea);obtain⟨o,es,ep,h1,h2,_⟩:=p;exact Yg PySem.W.kitx_dict I.kIn ⟨o,h1,h2.1⟩ e (λz=>nomatch z) h
 |@dT a kvs ea=>
  cases(show u=Value.ref a from rx);obtain⟨_,_,xs,_,o,es,ep,h1,h2,_⟩:=(show ObjOk X.prog X.w H s.heap a (.dT kvs)from I.hok a _ ea);exact Yg PySem.W.kitx_dict I.kIn ⟨o,h1,h2.1⟩ e (λz=>nomatch z) h
 |@ins a C dx fs ea cl ha hn htk hm=>
  cases(show u=Value.ref a from rx);obtain⟨mA,O,_⟩:=vxb I.hok ea;obtain⟨od,J,_⟩:=O.look;exact Yg (PySem.W.kitx_own (cl.get _) cl.hd ha hn htk hm) I.kIn J e (λz=>nomatch z) h
end
structure Room (k:Nat)(A:Around):Prop where
 hd:A.handled=none
 dp:A.depth+3*k+5<recursionLimit
 un:A.units+16*k+200<cLine
 gd:A.guards=some []
theorem Room.mono{j k:Nat}{A:Around}(r:Room k A)(h:j<=k):Room j A:=⟨r.hd,by have:=r.dp;omega,by have:=r.un;omega,r.gd⟩
theorem Room.deeper{k:Nat}{A:Around}(r:Room (k+1) A)(env:Env):Room k (A.deeper env):=
 ⟨r.hd,by have:=r.dp;show A.depth+1+3*k+5<_;omega,by have:=r.un;show A.units+3+16*k+200<_;omega,r.gd⟩
theorem Room.depth{k:Nat}{A:Around}(r:Room k A):A.depth<recursionLimit:=by have:=r.dp;omega
theorem Room.units{k:Nat}{A:Around}(r:Room k A):A.units+64<cLine:=by have:=r.un;omega
abbrev wwa:TA:=λ_ H Q=>Q [] H
abbrev vv7(ta:TE)(tr:TA):TA:=fun σ H Q=>ta σ H λx H1=>tr σ H1 λxs H2=>Q (x::xs) H2
section
variable {X:Cx}{e:Expr}{es:List Expr}{te:TE}{t:TA}{pos:Pos}
theorem wJ:PA X [] wwa:=λ_ _ _ _ H Q I h=>Calls.spliced_nil ⟨[],H,I,.nil,h⟩
theorem wj(ha:PE X e te)(hr:PA X es t)(hs:autoParam (starEach (e::es) X.env=(false,eval e X.env)::starEach es X.env) Ŕ):PA X (e::es) (vv7 te t):=by
 intro pos pins s σ H Q I h;rw[hs];show wpAny _ _ (spliced ((false,eval e X.env)::backTo pos (starEach es X.env))) _ _ s;refine Calls.spliced_cons (thn (ha pins s σ H _ I h) λu s1 ⟨x,H1,I1,r1,q1⟩=>?_);exact thn (hr pos pins s1 σ H1 _ I1 q1) λus s2 ⟨xs,H2,I2,r2,q2⟩=>⟨x::xs,H2,I2,.cons r1 r2,q2⟩
abbrev tTup(t:TA):TE:=fun σ H Q=>t σ H λxs H1=>xs.length<=sizeLine/\∀p,H1 p=none->Q (.ref p) (upd H1 p (.tup xs))
abbrev tLst(t:TA):TE:=fun σ H Q=>t σ H λxs H1=>xs.length<=sizeLine/\∀p,H1 p=none->Q (.ref p) (upd H1 p (.lst xs))
theorem wka{x1}(h:PA X es t):PE X (.Tuple es x1 pos) (tTup t):=by
 intro pins s σ H Q I hq;refine wpAny_Tuple_spliced (thn (h pos pins s σ H _ I hq) λus s1 ⟨xs,H1,I1,r,z,q⟩=>⟨by rw[<-r.length];exact z,?_⟩);have hf:H1 s1.heap.objs.size=none:=I1.hok.fresh (Xb _);refine⟨.ref s1.heap.objs.size,upd H1 s1.heap.objs.size (.tup xs),I1.laid (t':=s1.toks) (λb u e=>X2 _ e) (Xb _) ?_,rfl,q _ hf⟩;exact⟨z,us,r,⟨_,Xa _ rfl,rfl,rfl,_,rfl⟩⟩
theorem wke(h:PA X es t):PE X (.List es pos) (tLst t):=by
 intro pins s σ H Q I hq;refine wpAny_List_spliced (thn (h pos pins s σ H _ I hq) λus s1 ⟨xs,H1,I1,r,z,q⟩=>⟨by rw[<-r.length];exact z,?_⟩);have hf:H1 s1.heap.objs.size=none:=I1.hok.fresh (Xb _);refine⟨.ref s1.heap.objs.size,upd H1 s1.heap.objs.size (.lst xs),I1.laid (t':=s1.toks) (λb u e=>X2 _ e) (Xb _) ?_,rfl,q _ hf⟩;exact⟨z,us,0,r,Xa _ rfl⟩
end
abbrev Sp:=List V->Hp->VK->XK->Prop
abbrev CXT:=List Env->Hp->Shared->XK->Value->Shared->Prop
structure Env0 (P:Program)(w:World)(K:Frag)(mg:Str->Option Value)(base:Heap)(A:Around)(outer:List Env)(s:Shared)(H:Hp):Prop where
 frames:A.frames=some outer
 mod:Mod K mg base
 bs:∀b o,base.get? b=some o->s.heap.get? b=some o/\H b=none
 bsz:base.objs.size<=s.heap.objs.size
 funs:s.heap.FunFrames base outer
 frf:∀b∈frs outer,H b=none
 hok:HOk P w H s.heap
 bare:AllBare s.gens
def CE(outer:List Env)(P:Program)(w:World)(H:Hp)(s:Shared)(Q:VK)(u:Value)(s':Shared):Prop:=
 ∃v H',s'.os=s.os/\AllBare s'.gens/\Un (frs outer) [] H H' s.heap s'.heap/\HOk P w H' s'.heap/\RelV v u/\Q v H'
def CR(CX:CXT)(outer:List Env)(P:Program)(w:World)(H:Hp)(s:Shared)(Q:VK)(E:XK)(r:Result)(s':Shared):Prop:=
 match r with
 |.ok (.ret u)=>CE outer P w H s Q u s'|.ok _=>False|.error e=>CX outer H s E e s'
structure FnOk (P:Program)(w:World)(K:Frag)(mg:Str->Option Value)(base:Heap)(CX:CXT)(k:Nat)(f:Addr)(fd:FuncData)(ps:List Str)(sp:Sp):Prop where
 len:∀vs H Q E,sp vs H Q E->vs.length=ps.length
 run:∀(A:Around) (outer:List Env) (s:Shared) (H:Hp) (args:Args) (us:List Value) (vs:List V) (Q:VK) (E:XK),Room k A->Env0 P w K mg base A outer s H->BindsTo s fd args (ps.zip us)->Vals vs us->sp vs H Q E ->
  codeAny (model P w) A (.call (.ref f) args) (CR CX outer P w H s Q E) s
section
variable {X:Cx}{pins:LA9}{σ:St}{H:Hp}{s s':Shared}
theorem Inv.env0(I:Inv X pins σ H s):Env0 X.prog X.w X.K X.mg X.base X.A X.stack s H:=
 ⟨I.ok.frames,I.ok.mod,I.bs,Ye I.ok.bsz I.sz,I.stack,I.stkFree,I.hok,I.bare⟩
theorem Inv.after{Q:VK}{u:Value}(I:Inv X pins σ H s)(h:CE X.stack X.prog X.w H s Q u s'):EP X pins σ Q u s':=by
 obtain⟨v,H',os,bare,un,hok,r,q⟩:=h;obtain⟨hh,g,d,t,nh⟩:=s';obtain rfl:nh=s.os:=os;exact⟨v,H',I.call (h':=hh) (g':=g) (d':=d) (t':=t) (ch:=[]) un hok bare (λb z=>absurd z (by simp)),r,q⟩
end
abbrev vv8(sp:Sp)(lm:List V)(E:XK)(t:TA):TE:=fun σ H Q=>t σ H λvs H1=>sp (vs++lm) H1 Q E
def Binds(K:Frag)(fd:FuncData)(ps:List Str)(ds:List Value):Prop:=
 ∀(s:Shared) (us:List Value),K.In s.heap->(us++ds).length=ps.length->BindsTo s fd ⟨us,[]⟩ (ps.zip (us++ds))
theorem Binds.all{K:Frag}{fd:FuncData}{ps:List Str}(h:∀us:List Value,us.length=ps.length->bindArgs fd ⟨us,[]⟩=pure (ps.zip us)):Binds K fd ps []:=λs us _ hl=>by
 rw[Y7]at hl ⊢;exact .of_eq (h us hl)
def qzh(CX:CXT)(X:Cx)(E:XK):Prop:=∀(pins:LA9) (σ:St) (H:Hp) (s:Shared) (e:Value) (s':Shared),Inv X pins σ H s->CX X.stack H s E e s'->X.xe e s'
section
variable {X:Cx}{CX:CXT}{k:Nat}{f C:Addr}{fd:FuncData}{ps:List Str}{sp:Sp}{lm:List V}{ds:List Value}{E:XK}{x m:Str}{p pos bb:Pos}{e o:Expr}{es:List Expr}{ta:TE}{t:TA}
theorem wj3{pins:LA9}{σ:St}{H:Hp}{s:Shared}{Q:VK}{us:List Value}{vs:List V}(F:FnOk X.prog X.w X.K X.mg X.base CX k f fd ps sp)(hr:Room k X.A)(hb:Binds X.K fd ps ds)(hd:Vals lm ds)(hx:qzh CX X E)
  (I:Inv X pins σ H s) (r:Vals vs us) (h:sp (vs++lm) H Q E):wpAny (model X.prog X.w) X.A (call (.ref f) us) (EP X pins σ Q) X.xe s:=by
 have r2:Vals (vs++lm) (us++ds):=r.append hd;have hl:(us++ds).length=ps.length:=by rw[<-r2.length];exact F.len _ _ _ _ h
 refine wpAny_call (codeAny_mono (F.run X.A X.stack s H ⟨us,[]⟩ (us++ds) (vs++lm) Q E hr I.env0 (hb s us I.kIn hl) r2 h) λr s' hq=>?_);cases r with
 |error e=>exact hx pins σ H s e s' I hq
 |ok fl=>
  cases fl with|ret u=>exact I.after hq|next=>exact False.elim hq|brk=>exact False.elim hq|cont=>exact False.elim hq
theorem qvx(F:FnOk X.prog X.w X.K X.mg X.base CX k f fd ps sp)(hr:Room k X.A)(hg:Gl X x)(hm:X.mg x=some (.ref f))(hk:PySem.W.keepIn X.K (.ref f)=true)(hb:Binds X.K fd ps ds)(hd:Vals lm ds)(hx:qzh CX X E)
  (ha:PA X (e::es) t) (dn:autoParam ((x==("__debug__":Str))=false) ŕ) (he:autoParam (starEach (e::es) X.env=(false,eval e X.env)::starEach es X.env) Ŕ) (bh:autoParam ((backTo pos (starEach es X.env)).any (·.1)=false) Ŕ):
  PE X (.Call (.Name x p) (e::es) [] pos) (vv8 sp lm E t):=by
 intro pins s σ H Q I h;refine Yn (qwq I hg hm ?_ dn);refine PySem.W.callWith_K (h₀:=X.base) I.ok.mod.kin hk (thn (ha pos pins s σ H _ I h) λus s1 ⟨vs,H1,I1,r,q⟩=>⟨I1.kIn,?_⟩) he bh;exact wj3 F hr hb hd hx I1 r q
end
structure FnScope (N P:List Str)(sc:Scope):Prop where
 kind:sc.kind=.function
 co:sc.isCoroutine=false
 gen:sc.isGenerator=false
 nd:N.Nodup
 pre:N.take P.length=P
 par:∀x∈P,sc.names.lookup x=some .local\/sc.names.lookup x=some .cell
 nofree:∀y∈sc.names,y.2≠.free
theorem kx7{kindOf : Str -> Option NameKind}{x : Str}: ∀{binds : List (Str × Value)} {m : Str -> Option Value}, (∀v, (x, v)∉binds) -> bindL kindOf binds m x = m x
  | [], _, _=>rfl
  | (n, v)::r, m, h=>by
    unfold bindL;rw[kx7 λw hw=>h w (lc9 _ hw)]
    split
    · have : x≠n:= by rintro rfl; exact h v X6
      simp[this]
    · rfl
theorem kx9{kindOf : Str -> Option NameKind}{x : Str}: ∀{binds : List (Str × Value)} {m : Str -> Option Value}, (∀v, (x, v)∉binds) -> bindC kindOf binds m x = m x
  | [], _, _=>rfl
  | (n, v)::r, m, h=>by
    unfold bindC;rw[kx9 λw hw=>h w (lc9 _ hw)]
    split
    · rfl
    · have : x≠n:= by rintro rfl; exact h v X6
      simp[this]
theorem kx8{kindOf:Str->Option NameKind}{x:Str}{v:Value}:∀{P:List Str} {vs:List Value} {i:Nat} {m:Str->Option Value},P.Nodup->P[i]?=some x->vs[i]?=some v->kindOf x=some .local ->
  bindL kindOf (P.zip vs) m x=some v
 |[],_,_,_,_,h,_,_=>by simp at h|_::_,[],_,_,_,_,h,_=>by simp at h
 |p::P,w::vs,0,m,nd,h1,h2,hk=>by
  simp at h1 h2;subst h1;subst h2;show bindL kindOf ((p,w)::P.zip vs) m p=_;unfold bindL;rw[kx7 λv hv=>(List.nodup_cons.mp nd).1 (List.of_mem_zip hv).1,X8 hk];simp
 |p::P,w::vs,i+1,m,nd,h1,h2,hk=>by
  show bindL kindOf ((p,w)::P.zip vs) m x=_;unfold bindL;exact kx8 (i:=i) (List.nodup_cons.mp nd).2 (by simpa using h1) (by simpa using h2) hk
theorem kxa{kindOf:Str->Option NameKind}{x:Str}{v:Value}:∀{P:List Str} {vs:List Value} {i:Nat} {m:Str->Option Value},P.Nodup->P[i]?=some x->vs[i]?=some v->kindOf x≠some .local ->
  bindC kindOf (P.zip vs) m x=some v
 |[],_,_,_,_,h,_,_=>by simp at h|_::_,[],_,_,_,_,h,_=>by simp at h
 |p::P,w::vs,0,m,nd,h1,h2,hk=>by
  simp at h1 h2;subst h1;subst h2;show bindC kindOf ((p,w)::P.zip vs) m p=_;unfold bindC;rw[kx9 λv hv=>(List.nodup_cons.mp nd).1 (List.of_mem_zip hv).1,Xf hk];simp
 |p::P,w::vs,i+1,m,nd,h1,h2,hk=>by
  show bindC kindOf ((p,w)::P.zip vs) m x=_;unfold bindC;exact kxa (i:=i) (List.nodup_cons.mp nd).2 (by simpa using h1) (by simpa using h2) hk
def start(N:List Str)(vs:List V):St:=vs.map some++List.replicate (N.length - vs.length) none
noncomputable def zW(CX:CXT)(P:Program)(w:World)(K:Frag)(mg:Str->Option Value)(base:Heap)(N:List Str)(qual:Str)(scope:Scope)(f:Addr)(cd:Value)(A:Around)(outer:List Env)(s:Shared)(H:Hp)(E:XK):Cx where
 prog:=P
 w:=w
 K:=K
 mg:=mg
 base:=base
 A:=A.deeper (envOfC qual scope s.heap.objs.size f cd)
 N:=N
 s₀:=s
 H₀:=H
 env:=envOfC qual scope s.heap.objs.size f cd
 outer:=outer
 stack:=envOfC qual scope s.heap.objs.size f cd::outer
 ex:=[]
 calm:=true
 fn:=λ_=>true
 pn:=[]
 xe:=λe s'=>wpAny (model P w) (A.deeper (envOfC qual scope s.heap.objs.size f cd)) (leaving (envOfC qual scope s.heap.objs.size f cd) e) (λ_ ie=>CX outer H s E e ie) (λe' ie=>CX outer H s E e' ie) s'
theorem qjv{sc:Scope}{n:Nat}{x:Str}(h:sc.names.lookup x=some .cell):∃c,(cellsFrom n sc.names []).lookup x=some c:=by
 have q:=PySem.W.cellsFrom_some sc.names n [] (.inl h);exact Option.isSome_iff_exists.mp q
theorem qx0{CX:CXT}{P:Program}{w:World}{K:Frag}{mg:Str->Option Value}{base:Heap}{N ps:List Str}{qual:Str}{scope:Scope}{f:Addr}{cd:Value}{A:Around}{outer:List Env}{s s1:Shared}{H:Hp}{E:XK}{us:List Value}{vs:List V}
  (S:FnScope N ps scope) (hd:A.handled=none) (e0:Env0 P w K mg base A outer s H) (hl:vs.length=ps.length) (r:Vals vs us)
  (x:InCallC s s.heap.objs.size (bindL (envOfC qual scope s.heap.objs.size f cd).kindOf (ps.zip us) λ_=>none) (cellsFrom (s.heap.objs.size+1) scope.names []) (bindC (envOfC qual scope s.heap.objs.size f cd).kindOf (ps.zip us) λ_=>none) s1):
  Inv (zW CX P w K mg base N qual scope f cd A outer s H E) [] (start N vs) H s1:=by
 have bh:ps.length<=N.length:=by have:=congrArg List.length S.pre;rw[Z1]at this;omega
 obtain⟨h1,tk,rfl,hk⟩:=x.done;have pd:∀b:Addr,b∉(zW CX P w K mg base N qual scope f cd A outer s H E).ex:=λb z=>absurd (show b∈([]:List Addr)from z) (by simp)
 refine⟨⟨e0.mod,S.kind,rfl,rfl,Xb _,λy z c h1 h2=>?_,λy hy=>?_,λy c _ h=>?_,λ_=>hd,Around.frames_deeper e0.frames,.inr ⟨rfl,rfl⟩,λb z=>absurd z (pd b),e0.bs,e0.bsz,λb _ _=>pd b,λb z=>absurd z (pd b),e0.funs,e0.frf⟩,
  rfl,e0.bare,Un.kept hk,⟨_,x.toInCall.ns,λi y v h1 h2 h3=>?_⟩,λy c h=>⟨_,x.cell y c h⟩,e0.hok.fresh (Xb _),λy c h=>?_,λp hp=>absurd (show p∈([]:LA9)from hp) (by simp),e0.hok.kept hk,?_⟩
 ·exact name_of_addr x.apart (Yw h1) (Yw h2)
 ·have hy:scope.names.lookup y=some .cell\/scope.names.lookup y=some .free:=hy;rcases hy with hy|hy
  ·exact qjv hy
  ·exact absurd rfl (S.nofree _ (Yw hy))
 ·exact Nat.le_of_lt (x.above y c (Yw h))
 ·have hi:i<vs.length:=by
   unfold start at h2
   by_cases hi:i<vs.length
   ·exact hi
   ·rw[Yo (by simpa using hi)]at h2;rw[List.getElem?_replicate]at h2
    split at h2<;>cases h2
  have ha:vs[i]?=some v:=by
   unfold start at h2;rw[Yb (by simpa using hi),Xh]at h2;cases e:vs[i]? with|none=>rw[e]at h2;cases h2|some a=>rw[e]at h2;cases h2;rfl
  obtain⟨u,hu,rv⟩:=r.get ha;have hp:ps[i]?=some y:=by
   rw[<-S.pre,List.getElem?_take_of_lt ⋯];exact h1
  have ndP:ps.Nodup:=by rw[<-S.pre];exact S.nd.sublist (List.take_sublist _ _)
  refine⟨u,rv,?_⟩;rcases S.par y (List.mem_of_getElem? hp)with k|k
  ·exact .inl ⟨k,kx8 ndP hp hu k⟩
  ·obtain⟨c,e⟩:=qjv (n:=s.heap.objs.size+1) k;refine .inr ⟨.inl k,c,e,?_⟩;have q:=x.cell y c e;rw[kxa ndP hp hu (by show scope.names.lookup y≠_;rw[k];decide)]at q;exact q
 ·exact e0.hok.fresh (Nat.le_of_lt (x.above y c (Yw h)))
 ·unfold start;show _=N.length;rw[Xd,X3,Z0];omega
theorem wqp{CX:CXT}{P:Program}{w:World}{K:Frag}{mg:Str->Option Value}{base:Heap}{k:Nat}{f:Addr}{name qual:Str}{params:Arguments}{body:List Stmt}{scope:Scope}{dV kV en pm ax ct oc:Value}{an od:Option Addr}
  {je:Array (Option Value)} {N ps:List Str} {sp:Sp} (lk:K.lookup f=some ⟨oc,od,.func (PySem.W.fnOf name qual params body scope dV kV en pm an ax ct),je⟩) (fm:PySem.W.codeIn K ax qual=true) (S:FnScope N ps scope)
  (len:∀vs H Q E,sp vs H Q E->vs.length=ps.length)
  (fv:∀(A:Around) (outer:List Env) (s:Shared) (H:Hp) (vs:List V) (Q:VK) (E:XK),Room k (A.deeper (envOfC qual scope s.heap.objs.size f ax))->sp vs H Q E ->
   ∃t,PSs (zW CX P w K mg base N qual scope f ax A outer s H E) body t/\t { nx:=λ_ H'=>Q .non H',rt:=Q } (start N vs) H):
  FnOk P w K mg base CX (k+1) f (PySem.W.fnOf name qual params body scope dV kV en pm an ax ct) ps sp:=by
 refine⟨len,λA outer s H args us vs Q E hr e0 hb r j'=>?_⟩;have hl:=len _ _ _ _ j';have KX:K.In s.heap:=e0.mod.kin.keeps λb o e=>(e0.bs b o e).1
 have lim:s.heap.NoLimit:=e0.mod.nolimit.keeps λb o e=>(e0.bs b o e).1
 have rg:∀y∈ps.zip us,scope.names.lookup y.1=some .local\/(scope.names.lookup y.1=some .cell/\((cellsFrom (s.heap.objs.size+1) scope.names []).lookup y.1).isSome=true):=λ⟨n,v⟩ hy=>by
  rcases S.par n (List.of_mem_zip hy).1 with q|q
  ·exact .inl q
  ·exact .inr ⟨q,PySem.W.cellsFrom_some _ _ _ (.inl q)⟩
 refine codeAny_call_function hr.depth (KX _ _ lk) rfl S.co S.gen rfl (PySem.W.codeRec_of KX fm) (hb _ _ _ _ ?_);refine wpAny_newFunctionEnv_cells S.kind rg λenv he s1 x=>?_
 subst he;refine⟨lim.keeps x.toInCall.keep,codeAny_func ?_⟩;obtain⟨t,ht,hq⟩:=fv A outer s H vs Q E (hr.deeper _) j';have I:Inv (zW CX P w K mg base N qual scope f ax A outer s H E) [] (start N vs) H s1:=qx0 S hr.hd e0 hl r x;refine wpAny_mono (ht [] s1 (start N vs) H _ I hq) (λfl s' hs=>?_) λe s' hs=>hs
 have fin:∀{σ':St} {H':Hp} {v:V} {u:Value},Inv (zW CX P w K mg base N qual scope f ax A outer s H E) [] σ' H' s'->RelV v u->Q v H'->CE outer P w H s Q u s':=
  fun {σ' H' v u} J rv q=>⟨v,H',J.os,J.bare,J.base,J.hok,rv,q⟩
 cases fl with
 |ret u=>
  obtain⟨v,σ',H',J,rv,q⟩:=hs;exact fin J rv q
 |next=>
  obtain⟨σ',H',J,q⟩:=hs;exact fin (v:=V.non) (u:=Value.none) J rfl q
 |brk=>
  obtain⟨_,_,_,q⟩:=hs;exact False.elim q
 |cont=>
  obtain⟨_,_,_,q⟩:=hs;exact False.elim q
section
variable {X:Cx}{x:Str}{p pos:Pos}{e:Expr}{es:List Expr}{t:TA}{id T:String}{r:List V->Hp->VK->Prop}
abbrev tCB(r:List V->Hp->VK->Prop)(t:TA):TE:=fun σ H Q=>t σ H λvs H1=>r vs H1 Q
theorem kqa(hc:CallR X (.builtin id) r)(hg:Gl X x)(hm:X.mg x=none)(hv:bootBuiltins x=some (.builtin id))(ha:PA X (e::es) t)(hn:autoParam (x≠"__name__") ŕ)(dn:autoParam ((x==("__debug__":Str))=false) ŕ)
  (he:autoParam (starEach (e::es) X.env=(false,eval e X.env)::starEach es X.env) Ŕ) (bh:autoParam ((backTo pos (starEach es X.env)).any (·.1)=false) Ŕ):PE X (.Call (.Name x p) (e::es) [] pos) (tCB r t):=by
 intro pins s σ H Q I h;refine Yn (zq I hg hm hv ?_ hn dn);exact PyProof.Rows.callWith_builtin1 (thn (ha pos pins s σ H _ I h) λus s1 ⟨vs,H1,I1,r1,q1⟩=>hc pins s1 σ H1 vs us Q I1 r1 q1) he bh
theorem qvw(hc:CallR X (.type T) r)(hg:Gl X x)(hm:X.mg x=none)(hv:bootBuiltins x=some (.type T))(ha:PA X (e::es) t)(hn:autoParam (x≠"__name__") ŕ)(dn:autoParam ((x==("__debug__":Str))=false) ŕ)
  (he:autoParam (starEach (e::es) X.env=(false,eval e X.env)::starEach es X.env) Ŕ) (bh:autoParam ((backTo pos (starEach es X.env)).any (·.1)=false) Ŕ):PE X (.Call (.Name x p) (e::es) [] pos) (tCB r t):=by
 intro pins s σ H Q I h;refine Yn (zq I hg hm hv ?_ hn dn);exact Y2 (thn (ha pos pins s σ H _ I h) λus s1 ⟨vs,H1,I1,r1,q1⟩=>hc pins s1 σ H1 vs us Q I1 r1 q1) he bh
end
end L2
namespace HT
open PySem PyProof.Rows
section
variable {prog:Program}{w:World}{A:Around}{E:VP9}{s:Shared}
theorem cat_tup{t b:Addr}{vs ws:List Value}{Q:VP9}(ht:IsTup s.heap t vs.toArray)(hb:IsTup s.heap b ws.toArray)(hv:vs≠[])
  (h1:ws=[]->Q (.ref t) s) (h2:ws≠[]->Q (.ref s.heap.objs.size) { s with heap:=s.heap.push { cls:=.type "tuple",data:=.seq (vs++ws).toArray } })
  (hsz:vs.length+ws.length<=sizeLine):wpAny (model prog w) A (binaryOp .Add (.ref t) (.ref b)) Q E s:=by
 obtain⟨⟨cls,dd,data,sl⟩,ho,hc,n,hd⟩:=id ht;obtain⟨⟨cls2,dd2,data2,lc⟩,fu,lp,n2,gb⟩:=id hb;simp only at hc hd lp gb;subst hc hd lp gb;have e:vs.toArray++ws.toArray=(vs++ws).toArray:=by simp
 by_cases hw:ws=[]
 ·exact concat_meets ⟨_,ho,rfl⟩ ⟨_,fu,rfl⟩ noFill_tuple_add seq_tuple_add PySem.F.slot_tuple_add PySem.F.entry_tuple_add (PySem.F.args_tuple_add_2 _ _)
   (tuple_addW1 t b vs.toArray ws.toArray n n2 dd dd2 sl lc (by simpa using hv) (by simp[hw])) ⟨ho,fu,h1 hw⟩
 ·refine concat_meets ⟨_,ho,rfl⟩ ⟨_,fu,rfl⟩ noFill_tuple_add seq_tuple_add PySem.F.slot_tuple_add PySem.F.entry_tuple_add (PySem.F.args_tuple_add_2 _ _)
   (tuple_addW2 t b vs.toArray ws.toArray n n2 dd dd2 sl lc (by simpa using hv) (by simpa using hw) (by rw[X7,X7];exact hsz)) ⟨ho,fu,?_⟩
  rw[e];exact h2 hw
def sIx(n d:Nat):Option Int->Nat
 |none=>d|some v=>if v<0 then(v+(n:Int)).toNat else min v.toNat n
theorem wj2(n d:Nat)(hd:d<=n)(o:Option Int):sIx n d o<=n:=by
 cases o with
 |none=>exact hd
 |some v=>
  show(if v<0 then(v+(n:Int)).toNat else min v.toNat n)<=n
  by_cases hv:v<0
  ·rw[X8 hv];omega
  ·rw[Xf hv];exact Nat.min_le_right _ _
theorem qxt(v:Int)(n d:Nat):(if v<0 then max (v+(n:Int)) 0 else min v (n:Int))=((sIx n d (some v):Nat):Int):=by
 show(if v<0 then max (v+(n:Int)) 0 else min v (n:Int))=(((if v<0 then(v+(n:Int)).toNat else min v.toNat n):Nat):Int)
 by_cases hv:v<0
 ·simp only[X8 hv];omega
 ·simp only[Xf hv];omega
theorem qq1(lo hi:Option Int)(n:Nat):Builtin.Slice.sliceAdjust lo hi 1 (n:Int)=(((sIx n 0 lo:Nat):Int),((sIx n n hi:Nat):Int)):=by
 have h1:¬((1:Int)<0):=⋯
 unfold Builtin.Slice.sliceAdjust;simp only[h1,if_false];refine Prod.ext ?_ ?_
 ·cases lo with|none=>rfl|some v=>exact qxt v n 0
 ·cases hi with|none=>rfl|some v=>exact qxt v n n
theorem qkc(i j:Nat):Builtin.Slice.slicePlaces (i:Int) (j:Int) 1=j - i:=by
 unfold Builtin.Slice.slicePlaces;have h1:(1:Int)>0:=⋯
 simp only[h1,if_true,Int.ediv_one]
 split<;>omega
theorem kk8{v:Value}{o:Option Int}{Q:Option Int->Shared->Prop}(p:IsPart v o)(h:Q o s):wpAny (model prog w) A (Builtin.Slice.slicePartIndex v) Q E s:=by
 cases p with|none=>exact slicePart_none h|int i t=>exact slicePart_int h
theorem jzh{sl:Addr}{vl vu:Value}{lo hi:Option Int}{n:Nat}{Q:Int×Int×Nat->Shared->Prop}(hs:s.heap.IsSliceOf sl vl vu .none)(pl:IsPart vl lo)(pu:IsPart vu hi)
  (h:Q (((sIx n 0 lo:Nat):Int),1,sIx n n hi - sIx n 0 lo) s):wpAny (model prog w) A (Builtin.Slice.sliceApplied (.ref sl) (pure (n:Int))) Q E s:=by
 obtain⟨os,io,fg,av⟩:=id hs;unfold Builtin.Slice.sliceApplied Builtin.Slice.sliceFields;refine X0 (X0 (Yx io av (x:=vl) rfl (X0 (Yx io av (x:=vu) rfl (X0 (Yx io av (x:=.none) rfl (X5 ?_)))))));refine X0 (slicePart_none ?_);show wpAny _ _ (if((1:Int)==0)=true then _ else _) _ _ s;rw[Xf ⋯];refine X0 (kk8 pl (X0 (kk8 pu (X0 (X5 ?_)))));show wpAny _ _ (match Builtin.Slice.sliceAdjust lo hi 1 (n:Int)with|(lo,hi)=>pure (lo,(1:Int),Builtin.Slice.slicePlaces lo hi 1)) _ _ s;rw[qq1 lo hi n];show wpAny _ _ (pure (((sIx n 0 lo:Nat):Int),(1:Int),Builtin.Slice.slicePlaces ((sIx n 0 lo:Nat):Int) ((sIx n n hi:Nat):Int) 1)) _ _ s;rw[qkc];exact X5 h
theorem vj9(xs:Array Value)(i k:Nat):((List.range k).filterMap λ(m:Nat)=>xs[((i:Int)+(m:Int)*1).toNat]?).toArray=((xs.toList.drop i).take k).toArray:=by
 have e:(λ(m:Nat)=>xs[((i:Int)+(m:Int)*1).toNat]?)=λm=>xs[i+m]?:=by
  funext m;have:((i:Int)+(m:Int)*1).toNat=i+m:=⋯
  rw[this]
 rw[e];have:=pick_run xs i k;rw[List.filterMap_map]at this;have e2:((λx=>xs[x]?)∘λx=>i+x)=λm=>xs[i+m]?:=rfl
 rw[e2]at this;rw[this]
theorem getItem_tuple_cut{t sl:Addr}{items:Array Value}{vl vu:Value}{lo hi:Option Int}{Q:VP9}(ht:IsTup s.heap t items)(hs:s.heap.IsSliceOf sl vl vu .none)(pl:IsPart vl lo)(pu:IsPart vu hi)
  (hw:¬(sIx items.size 0 lo=0/\sIx items.size items.size hi=items.size))
  (h:Q (.ref s.heap.objs.size) { s with heap:=s.heap.push { cls:=.type "tuple",data:=.seq ((items.toList.drop (sIx items.size 0 lo)).take (sIx items.size items.size hi - sIx items.size 0 lo)).toArray } })
  (hsz:items.size<=sizeLine):wpAny (model prog w) A (getItem (.ref t) (.ref sl)) Q E s:=by
 have f7:sizeOk (.seq ((items.toList.drop (sIx items.size 0 lo)).take (sIx items.size items.size hi - sIx items.size 0 lo)).toArray):=by
  show((items.toList.drop (sIx items.size 0 lo)).take (sIx items.size items.size hi - sIx items.size 0 lo)).toArray.size<=sizeLine;rw[X7,Z1,Zl,Xr];omega
 have hj:sIx items.size items.size hi<=items.size:=wj2 _ _ (Xb _) hi;obtain⟨os,io,fg,av⟩:=id hs;have hTs:s.TypeIs (.ref sl) "slice":=⟨os,io,fg⟩;unfold getItem
 try with_reducible refine Y9 ?_
 first|refine X0 (X5 ?_)|skip
 refine X0 (wpAny_sequenceKey ht.typeIs ⋯ ?_);refine X0 (Yk (name:=Str.ofString "__getitem__") ht.typeIs PyProof.Rows.slot_tuple_getitem
  (Y5 PyProof.Rows.slot_tuple_getitem ht.typeIs entry_tuple_getitem ?_ (args_tuple_getitem _ _)))
 show wpAny _ _ (Builtin.Tuple.tupleItemsOf (.ref t) >>= _) _ _ s;refine X0 (tupleItemsOf_ ht ?_);refine X0 (wpAny_typeOf hTs ?_);rw[X8 ⋯];refine X0 (jzh hs pl pu ?_);have gf:¬((((sIx items.size 0 lo:Nat):Int)==0&&(1:Int)==1&&(sIx items.size items.size hi - sIx items.size 0 lo)==items.size)=true):=by
  intro q;rw[Bool.and_eq_true,Bool.and_eq_true]at q;have q1:((sIx items.size 0 lo:Nat):Int)=0:=eq_of_beq q.1.1;have q2:sIx items.size items.size hi - sIx items.size 0 lo=items.size:=eq_of_beq q.2;exact hw ⟨⋯,⋯⟩
 show wpAny _ _ (if(((sIx items.size 0 lo:Nat):Int)==0&&(1:Int)==1&&(sIx items.size items.size hi - sIx items.size 0 lo)==items.size)=true then _ else _) _ _ s;rw[Xf gf,vj9]
 first
  |exact X0 (m:=Builtin.Tuple.tupleExact _) (Xz (X5 ⟨_,rfl,X5 h⟩) f7)
  |exact X0 (m:=Builtin.Tuple.tupleExact _) (Xz (X0 (X5 (X5 ⟨_,rfl,X5 h⟩))) f7)
  |exact X0 (X0 (m:=Builtin.Tuple.tupleExact _) (Xz (X5 (X5 ⟨_,rfl,X5 h⟩)) f7))
  |exact X0 (X0 (m:=Builtin.Tuple.tupleExact _) (Xz (X5 ⟨_,rfl,X5 h⟩) f7))
end
end HT
namespace L2
open PySem PySem.Spec PyProof.Rows
abbrev TO:=St->Hp->(Option Int->Hp->Prop)->Prop
def PO(X:Cx)(e:Option Expr)(t:TO):Prop:=
 ∀(pins:LA9) (s:Shared) (σ:St) (H:Hp) (Q:Option Int->Hp->Prop),Inv X pins σ H s->t σ H Q ->
  wpAny (model X.prog X.w) X.A (evalPart e X.env) (λu s'=>∃o H',Inv X pins σ H' s'/\IsPart u o/\Q o H') X.xe s
abbrev qqk:TO:=λ_ H Q=>Q none H
abbrev vzs(t:TE):TO:=fun σ H Q=>t σ H λx H1=>∃i,x=.int i/\Q (some i) H1
theorem qkq{ns:List Int}:∀{us:List Value},Vals (ns.map V.int) us->IntsAre us ns:=by
 induction ns with
 | nil=>intro us r;rw[List.map_nil]at r;cases r;exact .nil
 | cons n ns ih=>
  intro us r;rw[List.map_cons]at r;cases r with
  |cons r1 r2=>
   obtain⟨t,e⟩:=r1;subst e;exact .cons n t (ih r2)
section
variable {X:Cx}{e:Expr}{te:TE}{lo hi:Option Expr}{tl th:TO}{pos p2:Pos}
theorem vwa:PO X none qqk:=by
 intro pins s σ H Q I h;rw[evalPart_none];exact X5 ⟨none,H,I,.none,h⟩
theorem vw8(h:PE X e te):PO X (some e) (vzs te):=by
 intro pins s σ H Q I hw;rw[evalPart_some];refine thn (h pins s σ H _ I hw) λu s1 ⟨x,H1,I1,r1,q1⟩=>?_
 obtain⟨i,rfl,q⟩:=q1;obtain⟨t,rfl⟩:=r1;exact⟨some i,H1,I1,.int i t,q⟩
noncomputable def SlR(X:Cx)(r:V->Option Int->Option Int->Hp->VK->Prop):Prop:=
 ∀(pins:LA9) (s:Shared) (σ:St) (H:Hp) (x:V) (v vl vu:Value) (lo hi:Option Int) (sl:Addr) (Q:VK),Inv X pins σ H s->RelV x v->s.heap.IsSliceOf sl vl vu .none->IsPart vl lo->IsPart vu hi->r x lo hi H Q ->
  ∃T id,typeLookup (.type T) "__getitem__"=pure (some (.builtin id))/\s.TypeIs v T/\wpAny (model X.prog X.w) X.A (getItem v (.ref sl)) (EP X pins σ Q) X.xe s
theorem SlR.or{r r':V->Option Int->Option Int->Hp->VK->Prop}(h:SlR X r)(h':SlR X r'):SlR X (λx lo hi H Q=>r x lo hi H Q\/r' x lo hi H Q):=by
 intro pins s σ H x v vl vu lo hi sl Q I rx hs pl pu q;rcases q with q|q
 ·exact h pins s σ H x v vl vu lo hi sl Q I rx hs pl pu q
 ·exact h' pins s σ H x v vl vu lo hi sl Q I rx hs pl pu q
abbrev tSl(r:V->Option Int->Option Int->Hp->VK->Prop)(te:TE)(tl th:TO):TE:=fun σ H Q=>te σ H λx H1=>tl σ H1 λl H2=>th σ H2 λu H3=>r x l u H3 Q
theorem vja{r:V->Option Int->Option Int->Hp->VK->Prop}(hr:SlR X r)(he:PE X e te)(hl:PO X lo tl)(hu:PO X hi th):PE X (.Subscript e (.Slice lo hi none p2) pos) (tSl r te tl th):=by
 intro pins s σ H Q I h;refine Subscript_ (thn (he pins s σ H _ I h) λv s1 ⟨x,H1,I1,r1,q1⟩=>?_);refine wpAny_Slice (thn (hl pins s1 σ H1 _ I1 q1) λvl s2 ⟨l,H2,I2,pl,q2⟩=>thn (hu pins s2 σ H2 _ I2 q2) λvu s3 ⟨u,H3,I3,pu,q3⟩=>?_);rw[evalPart_none];refine X5 ?_;have I4:Inv X pins σ H3 { s3 with heap:=s3.heap.push { cls:=.type "slice",data:=.fields #[vl,vu,.none] } }:=I3.kept (t':=s3.toks) λb ob q=>X2 _ q
 obtain⟨T,id,hT,ht,hg⟩:=hr pins { s3 with heap:=s3.heap.push { cls:=.type "slice",data:=.fields #[vl,vu,.none] } } σ H3 x v vl vu l u s3.heap.objs.size Q I4 r1 (Heap.IsSliceOf.new ..) pl pu q3;show wpAny (model X.prog X.w) X.A (subscriptTail e (.Slice lo hi none p2) v (.ref s3.heap.objs.size)) (EP X pins σ Q) X.xe { s3 with heap:=s3.heap.push { cls:=.type "slice",data:=.fields #[vl,vu,.none] } };exact tail_any (ops:=[.ref s3.heap.objs.size,v]) ht hT hg (by ac_rfl)
def Q9(xs:List V)(lo hi:Option Int):List V:=(xs.drop (HT.sIx xs.length 0 lo)).take (HT.sIx xs.length xs.length hi - HT.sIx xs.length 0 lo)
theorem kjq(xs:List V)(lo hi:Option Int):(Q9 xs lo hi).length<=xs.length:=by
 unfold Q9;rw[Z1,Zl];omega
def wze(K:Frag):V->Option Int->Option Int->Hp->VK->Prop:=λx lo hi H Q=>∃a xs,x=.ref a/\SqT K H a xs /\
 ¬(HT.sIx xs.length 0 lo=0/\HT.sIx xs.length xs.length hi=xs.length)/\∀p,H p=none->Q (.ref p) (upd H p (.tup (Q9 xs lo hi)))
theorem sl_tup:SlR X (wze X.K):=by
 intro pins s σ H x v vl vu lo hi sl Q I rx hs pl pu h;obtain⟨a,xs,rfl,hx,hw,q⟩:=h;cases rx;obtain⟨a8,r,ht,hz⟩:=I.tuple hx;have ab:a8.toArray.size=xs.length:=by rw[X7];exact r.length.symm
 refine⟨"tuple",_,PyProof.Rows.slot_tuple_getitem.lookup,ht.typeIs,?_⟩;refine HT.getItem_tuple_cut ht hs pl pu (by rw[ab];exact hw) ?_ (by rw[ab];exact hz);rw[ab];refine⟨.ref s.heap.objs.size,_,I.laid (t':=s.toks) (o:=.tup (Q9 xs lo hi)) (λb ob q=>X2 _ q) (Xb _) ?_,rfl,q _ (I.hok.fresh (Xb _))⟩;exact⟨Ye (kjq xs lo hi) hz,_,(r.drop (HT.sIx xs.length 0 lo)).take (HT.sIx xs.length xs.length hi - HT.sIx xs.length 0 lo),IsTupD.new _ _⟩
def wjg(K:Frag):R2:=λx y H Q=>∃a b xs ys,x=.ref a/\y=.ref b/\SqT K H a xs/\SqT K H b ys/\xs≠[]/\xs.length+ys.length<=sizeLine /\
 (ys=[]->Q (.ref a) H)/\(ys≠[]->∀p,H p=none->Q (.ref p) (upd H p (.tup (xs++ys))))
theorem Vals.nil_iff{xs:List V}{us:List Value}(r:Vals xs us):us=[]↔xs=[]:=by
 cases r with|nil=>simp|cons _ _=>simp
theorem vwn:OpR X (binaryOp .Add) (wjg X.K):=by
 intro pins s σ H x y v u Q I rx ry h;obtain⟨a,b,xs,ys,rfl,rfl,ha,hb,hx,hz,q1,q2⟩:=h;cases rx;cases ry;obtain⟨a8,r1,p1,_⟩:=I.tuple ha;obtain⟨fc,r2,p2,_⟩:=I.tuple hb;refine HT.cat_tup p1 p2 (λz=>hx (r1.nil_iff.mp z)) (λz=>⟨.ref a,H,I,rfl,q1 (r2.nil_iff.mp z)⟩) (λz=>?_) (by rw[<-r1.length,<-r2.length];exact hz);refine⟨.ref s.heap.objs.size,_,I.laid (t':=s.toks) (o:=.tup (xs++ys)) (λb ob q=>X2 _ q) (Xb _) ?_,rfl,q2 (λw=>z (r2.nil_iff.mpr w)) _ (I.hok.fresh (Xb _))⟩;exact⟨by rw[Xd];exact hz,_,r1.append r2,IsTupD.new _ _⟩
end
def ixN(n:Nat)(i:Int):Option Nat:=if 0<=i then(if i<n then some i.toNat else none)else if -(n:Int)<=i then some (i+n).toNat else none
def atI{α:Type}(xs:List α)(i:Int):Option α:=(ixN xs.length i).bind λj=>xs[j]?
theorem kz7{n:Nat}{i:Int}{j:Nat}(h:ixN n i=some j):seqIndex? i n=some j/\j<n/\-(n:Int)<=i/\i<n:=by
 unfold ixN at h
 by_cases h0:0<=i
 ·rw[X8 h0]at h
  by_cases h1:i<n
  ·rw[X8 h1]at h;have e:i.toNat=j:=oq9 h;exact⟨by rw[seqIndex_of h0 h1,e],⋯,⋯,h1⟩
  ·rw[Xf h1]at h;cases h
 ·rw[Xf h0]at h
  by_cases h1:-(n:Int)<=i
  ·rw[X8 h1]at h;have e:(i+n).toNat=j:=oq9 h;exact⟨by rw[seqIndex_neg ⋯ h1,e],⋯,h1,⋯⟩
  ·rw[Xf h1]at h;cases h
theorem kzj{α:Type}{xs:List α}{i:Int}{v:α}(h:atI xs i=some v):∃j,seqIndex? i xs.length=some j/\xs[j]?=some v/\j<xs.length/\-(xs.length:Int)<=i/\i<xs.length:=by
 unfold atI at h;cases e:ixN xs.length i with
 |none=>rw[e]at h;cases h
 |some j=>
  rw[e]at h;obtain⟨h1,h2,h3,h4⟩:=kz7 e;exact⟨j,h1,h,h2,h3,h4⟩
def kva(b:Expr):Prop:=∀o i,subscripted b false o i=operate [o,i] (getItem o i)
def IxR(X:Cx)(r:R2):Prop:=
 ∀(value slice:Expr) (pins:LA9) (s:Shared) (σ:St) (H:Hp) (x y:V) (v u:Value) (Q:VK),Inv X pins σ H s->RelV x v->RelV y u->r x y H Q ->
  subscripted slice false v u=operate [v,u] (getItem v u)->wpAny (model X.prog X.w) X.A (subscriptTail value slice v u) (EP X pins σ Q) X.xe s
def MtR(X:Cx)(id:String)(r:V->List V->Hp->VK->Prop):Prop:=
 ∀(pins:LA9) (s:Shared) (σ:St) (H:Hp) (x:V) (xs:List V) (v:Value) (us:List Value) (Q:VK),Inv X pins σ H s->RelV x v->Vals xs us->r x xs H Q ->
  wpAny (model X.prog X.w) X.A (call (.builtin id) (v::us)) (EP X pins σ Q) X.xe s
section
variable {X:Cx}{a b:Expr}{ta tb:TE}{pos:Pos}
theorem IxR.or{r r':R2}(h:IxR X r)(h':IxR X r'):IxR X (λx y H Q=>r x y H Q\/r' x y H Q):=by
 intro value slice pins s σ H x y v u Q I rx ry q hs;rcases q with q|q
 ·exact h value slice pins s σ H x y v u Q I rx ry q hs
 ·exact h' value slice pins s σ H x y v u Q I rx ry q hs
theorem wkf{r:R2}(hr:IxR X r)(ha:PE X a ta)(hb:PE X b tb)(hs:kva b):PE X (.Subscript a b pos) (tOp r ta tb):=by
 intro pins s σ H Q I h;exact Subscript_ (wz1 ha hb I h λv u s2 x y H2 I2 rx ry q=>hr a b pins s2 σ H2 x y v u Q I2 rx ry q (hs _ _))
def wzl(K:Frag):R2:=λx y H Q=>∃p xs i v,x=.ref p/\y=.int i/\SqL K H p xs/\atI xs i=some v/\Q v H
def wzj(K:Frag):R2:=λx y H Q=>∃p xs i v,x=.ref p/\y=.int i/\SqT K H p xs/\atI xs i=some v/\Q v H
def wzk:R2:=λx y H Q=>∃z i c,x=.str z/\y=.int i/\z.length<=sizeLine/\atI z.cps.toList i=some c/\Q (.str ⟨#[c]⟩) H
theorem ix_list:IxR X (wzl X.K):=by
 intro value slice pins s σ H x y v u Q I rx ry h hs;obtain⟨p,xs,i,z,rfl,rfl,hq,he,q⟩:=h;cases rx;obtain⟨t,rfl⟩:=ry;obtain⟨a8,r,pl,hz⟩:=I.list hq;obtain⟨j,h1,h2,h3,h4,h5⟩:=kzj he;obtain⟨w,ew,il⟩:=r.get h2;have hl:=r.length;have hn:=Vj;have fin:EP X pins σ Q w s:=⟨z,H,I,il,q⟩
 by_cases h0:0<=i
 ·have hj:i.toNat=j:=by
   rw[seqIndex_of h0 h5]at h1;exact oq9 h1
  exact item_listR pl.isList h0 ⋯ (by rw[hj];simpa using ew) fin hs
 ·have hj:(i+(a8.toArray.size:Int)).toNat=j:=by
   rw[seqIndex_neg ⋯ h4]at h1;rw[X7,<-hl];exact oq9 h1
  exact subscriptTail_builtinR (x:=w) pl.isList.typeIs slot_list_getitem.lookup
   (wpAny_getItem_list_neg (Q:=λr s'=>r=w/\EP X pins σ Q r s') pl.isList ⋯ (by rw[X7]<;>omega) ⋯ (by rw[hj];simpa using ew) ⟨rfl,fin⟩) hs
theorem ix_tup:IxR X (wzj X.K):=by
 intro value slice pins s σ H x y v u Q I rx ry h hs;obtain⟨p,xs,i,z,rfl,rfl,hq,he,q⟩:=h;cases rx;obtain⟨t,rfl⟩:=ry;obtain⟨a8,r,pl,hz⟩:=I.tuple hq;obtain⟨j,h1,h2,h3,h4,h5⟩:=kzj he;obtain⟨w,ew,il⟩:=r.get h2;have hl:=r.length;have hn:=Vj;have fin:EP X pins σ Q w s:=⟨z,H,I,il,q⟩;exact subscriptTail_builtinR (x:=w) pl.typeIs slot_tuple_getitem.lookup
  (getItem_tuple (j:=j) (Q:=λr s'=>r=w/\EP X pins σ Q r s') pl ⋯ ⋯ (by rw[X7,<-hl];exact h1) (by simpa using ew) ⟨rfl,fin⟩) hs
theorem qji:IxR X wzk:=by
 intro value slice pins s σ H x y v u Q I rx ry h hs;obtain⟨z,i,c,rfl,rfl,hz,he,q⟩:=h;obtain⟨t,rfl⟩:=rx;obtain⟨t',rfl⟩:=ry;obtain⟨j,h1,h2,h3,h4,h5⟩:=kzj he;have hl:z.cps.toList.length=z.length:=by simp[Str.length]
 rw[hl]at h1 h4 h5;have hn:=Vj;exact tail_any (typeIs_str s z t) slot_str_getitem.lookup (getItem_str (c:=c) (by
  have e1:decide (i < -(2 ^ 63:Int))=false:=Xj ⋯;have e2:decide (i>=2 ^ 63)=false:=Xj ⋯;rw[e1,e2,Bool.or_false]) (by rw[h1];simpa using h2) ⟨.str ⟨#[c]⟩,H,I.tok _,⟨_,rfl⟩,q⟩) hs
def rIx(K:Frag):R2:=λx y H Q=>wzl K x y H Q\/wzj K x y H Q\/wzk x y H Q
theorem vqh:IxR X (rIx X.K):=ix_list.or (ix_tup.or qji)
theorem qkn(a8:List Value)(n j:Nat)(u:Value):Obj.mapSeq (·.setIfInBounds j u) { cls:=.type "list",data:=.seq a8.toArray n }={ cls:=.type "list",data:=.seq (a8.set j u).toArray n }:=by
 simp[Obj.mapSeq]
theorem Inv.lst{pins:LA9}{σ:St}{H:Hp}{s:Shared}{p:Addr}{xs:List V}(I:Inv X pins σ H s)(h:H p=some (.lst xs)):
  ∃(a8:List Value) (n:Nat),Vals xs a8/\s.heap.get? p=some { cls:=.type "list",data:=.seq a8.toArray n }/\xs.length<=sizeLine:=by
 obtain⟨z,a8,n,r,e⟩:=I.hok p _ h;exact⟨a8,n,r,e,z⟩
theorem Inv.lstUpd{pins:LA9}{σ:St}{H:Hp}{s:Shared}{p:Addr}{xs ys:List V}{a8 its':List Value}{n n':Nat}{f:Obj->Obj}(I:Inv X pins σ H s)(h:H p=some (.lst xs))
  (ho:s.heap.get? p=some { cls:=.type "list",data:=.seq a8.toArray n }) (hf:f { cls:=.type "list",data:=.seq a8.toArray n }={ cls:=.type "list",data:=.seq its'.toArray n' }) (r:Vals ys its') (hz:ys.length<=sizeLine) (t:Nat):
  Inv X pins σ (upd H p (.lst ys)) { s with heap:=s.heap.update p f,toks:=t }:=by
 have e:(s.heap.update p f).get? p=some { cls:=.type "list",data:=.seq its'.toArray n' }:=by
  rw[Y1 f ho (by rw[hf]<;>rfl),hf]
 refine I.write (x:=p) (e:=p) (by rw[h];trivial) (.inl rfl) (λb u hb q=>(Za _ _ (Ne.symm hb)).trans q) ⟨_,e⟩ ?_;exact⟨hz,its',n',r,e⟩
def wwm:V->V->V->Hp->(Hp->Prop)->Prop:=λo i v H Q=>∃p xs k j,o=.ref p/\i=.int k/\H p=some (.lst xs)/\ixN xs.length k=some j/\Q (upd H p (.lst (xs.set j v)))
theorem kzw:xj7 X wwm:=by
 intro pins s σ H o i v ov iv u Q I ro ri rv h;obtain⟨p,xs,k,j,rfl,rfl,hp,hj,q⟩:=h;cases ro;obtain⟨t,rfl⟩:=ri;obtain⟨a8,n,r,ho,hz⟩:=I.lst hp;obtain⟨h1,h2,h3,h4⟩:=kz7 hj;have hl:=r.length;have hn:=Vj;have I':Inv X pins σ (upd H p (.lst (xs.set j v))) { s with heap:=s.heap.update p (Obj.mapSeq (·.setIfInBounds j u)) }:=
  I.lstUpd hp ho (qkn a8 n j u) (r.set rv j) (by rw[Yy];exact hz) s.toks
 by_cases h0:0<=k
 ·have hk:k.toNat=j:=by
   rw[seqIndex_of h0 h4]at h1;exact oq9 h1
  exact PySem.W.ki_setAt ho h0 ⋯ (by rw[X7,<-hl];exact h4) (by rw[hk];exact⟨_,I',q⟩)
 ·have hk:(k+(a8.toArray.size:Int)).toNat=j:=by
   rw[seqIndex_neg ⋯ h3]at h1;rw[X7,<-hl];exact oq9 h1
  exact PySem.W.ki_setBack ho ⋯ (by rw[X7,<-hl];exact h3) ⋯ (by rw[hk];exact⟨_,I',q⟩)
theorem kvk(lo hi:Option Int)(n:Nat):(sliceBounds lo hi none n).1=((HT.sIx n 0 lo:Nat):Int)/\(sliceBounds lo hi none n).2.1=((HT.sIx n n hi:Nat):Int)/\(sliceBounds lo hi none n).2.2=1:=by
 refine⟨?_,?_,rfl⟩
 ·cases lo with
  |none=>simp[sliceBounds,HT.sIx]
  |some i=>
   simp only[sliceBounds,HT.sIx,Option.getD_none,show(1:Int)>0 by decide,if_true]
   by_cases h:i<0
   ·simp only[h,if_true]<;>omega
   ·simp only[h,if_false]<;>omega
 ·cases hi with
  |none=>simp[sliceBounds,HT.sIx]
  |some i=>
   simp only[sliceBounds,HT.sIx,Option.getD_none,show(1:Int)>0 by decide,if_true]
   by_cases h:i<0
   ·simp only[h,if_true]<;>omega
   ·simp only[h,if_false]<;>omega
theorem kkx(a8:List Value)(lo hi:Option Int):slicePick a8.toArray lo hi none=((a8.drop (HT.sIx a8.length 0 lo)).take (HT.sIx a8.length a8.length hi - HT.sIx a8.length 0 lo)).toArray:=by
 obtain⟨h1,h2,h3⟩:=kvk lo hi a8.toArray.size;unfold slicePick;rw[h1,h2,h3];simp only[sliceRange_one,pick_run,X7]<;>rfl
def wzg(K:Frag):V->Option Int->Option Int->Hp->VK->Prop:=λx lo hi H Q=>∃a xs,x=.ref a/\SqL K H a xs/\∀p,H p=none->Q (.ref p) (upd H p (.lst (Q9 xs lo hi)))
theorem sl_list:SlR X (wzg X.K):=by
 intro pins s σ H x v vl vu lo hi sl Q I rx hs pl pu h;obtain⟨a,xs,rfl,hx,q⟩:=h;cases rx;obtain⟨a8,r,ht,hz⟩:=I.list hx;have ab:=r.length;refine⟨"list",_,slot_list_getitem.lookup,ht.isList.typeIs,?_⟩;refine wpAny_getItem_list_slice ht.isList hs pl pu .none (by simp) ?_ (by rw[X7]<;>omega);rw[kkx,<-ab];refine⟨.ref s.heap.objs.size,_,I.laid (t':=s.toks) (o:=.lst (Q9 xs lo hi)) (λb ob q=>X2 _ q) (Xb _) ?_,rfl,q _ (I.hok.fresh (Xb _))⟩;exact⟨Ye (kjq xs lo hi) hz,_,0,(r.drop (HT.sIx xs.length 0 lo)).take (HT.sIx xs.length xs.length hi - HT.sIx xs.length 0 lo),Xa _ rfl⟩
theorem kw3:OpR X (compareOp .NotIn) (λx y H Q=>∃i j,x=.str i/\y=.str j/\Q (.bl (!(!(Builtin.Str.occurrences j i 0 j.length 1).isEmpty))) H):=by
 intro pins s σ H x y v u Q I rx ry h;obtain⟨i,j,rfl,rfl,q⟩:=h;obtain⟨t,rfl⟩:=rx;obtain⟨t',rfl⟩:=ry;exact notIn_str ⟨.bl _,H,I,rfl,q⟩
theorem call_len_seq:CallR X (.builtin "len") (λxs H Q=>∃p ys,xs=[.ref p]/\(SqL X.K H p ys\/SqT X.K H p ys)/\Q (.int ys.length) H):=by
 intro pins s σ H xs us Q I r h;obtain⟨p,ys,rfl,hq,q⟩:=h;obtain⟨u,rfl,rx⟩:=xq r;cases rx;have hn:=Vj;rcases hq with hq|hq
 ·obtain⟨a8,r',pl,hz⟩:=I.list hq;have ab:=r'.length;exact Calls.call_len_list pl.isList (by simp only[X7]<;>omega) ⟨.int ys.length,H,I.tok _,⟨s.toks+1,by rw[X7,ab]⟩,q⟩
 ·obtain⟨a8,r',pl,hz⟩:=I.tuple hq;have ab:=r'.length;exact len_tuple pl (by simp only[X7]<;>omega) ⟨.int ys.length,H,I.tok _,⟨s.toks+1,by rw[X7,ab]⟩,q⟩
theorem call_len_str:CallR X (.builtin "len") (λxs H Q=>∃z,xs=[.str z]/\z.length<=sizeLine/\Q (.int z.length) H):=by
 intro pins s σ H xs us Q I r h;obtain⟨z,rfl,hz,q⟩:=h;obtain⟨u,rfl,t,rfl⟩:=xq r;have hn:=Vj;exact len_str ⋯ ⟨.int z.length,H,I.tok _,⟨_,rfl⟩,q⟩
theorem CallR.or{f:Value}{r r':List V->Hp->VK->Prop}(h:CallR X f r)(h':CallR X f r'):CallR X f (λxs H Q=>r xs H Q\/r' xs H Q):=by
 intro pins s σ H xs us Q I rs q;rcases q with q|q
 ·exact h pins s σ H xs us Q I rs q
 ·exact h' pins s σ H xs us Q I rs q
theorem kx3:CallR X (.type "list") (λxs H Q=>∃p ys,xs=[.ref p]/\(SqL X.K H p ys\/SqT X.K H p ys)/\∀l,H l=none->Q (.ref l) (upd H l (.lst ys))):=by
 intro pins s σ H xs us Q I r h;obtain⟨p,ys,rfl,hq,q⟩:=h;obtain⟨u,rfl,rx⟩:=xq r;cases rx;have fin:∀(a8:List Value),Vals ys a8->ys.length<=sizeLine->∀(h':Heap) (c':Nat),(∀b o',s.heap.get? b=some o'->h'.get? b=some o') ->
   h'.get? s.heap.objs.size=some { cls:=.type "list",dict:=none,data:=.seq a8.toArray c',slots:=#[] }->EP X pins σ Q (.ref s.heap.objs.size) { s with heap:=h' }:=λa8 r' hz h' c' kp e=>
  ⟨.ref s.heap.objs.size,_,I.laid (t':=s.toks) kp (Xb _) (show ObjOk X.prog X.w _ h' _ (.lst ys)from⟨hz,a8,c',r',e⟩),rfl,q _ (I.hok.fresh (Xb _))⟩
 rcases hq with hq|hq
 ·obtain⟨a8,r',pl,hz⟩:=I.list hq;have ab:=r'.length;obtain⟨o,ho,hc,n,hd⟩:=pl.isList;exact call_list_seq p (.inl rfl) ho hc hd (λh' c' kp e=>fin a8 r' hz h' c' kp e) (by simp only[X7]<;>omega)
 ·obtain⟨a8,r',pl,hz⟩:=I.tuple hq;have ab:=r'.length;obtain⟨o,ho,hc,n,hd⟩:=pl;exact call_list_seq p (.inr rfl) ho hc hd (λh' c' kp e=>fin a8 r' hz h' c' kp e) (by simp only[X7]<;>omega)
theorem kv1:CallR X (.type "tuple") (λxs H Q=>∃p ys,xs=[.ref p]/\((SqL X.K H p ys/\∀l,H l=none->Q (.ref l) (upd H l (.tup ys)))\/(SqT X.K H p ys/\Q (.ref p) H))):=by
 intro pins s σ H xs us Q I r h;obtain⟨p,ys,rfl,h⟩:=h;obtain⟨u,rfl,rx⟩:=xq r;cases rx;rcases h with⟨hq,q⟩|⟨hq,q⟩
 ·obtain⟨a8,r',pl,hz⟩:=I.list hq;have ab:=r'.length;refine call_tuple_list pl.isList (λh' kp=>?_) (by simp only[X7]<;>omega);have I1:Inv X pins σ H { s with heap:=h' }:=I.kept (t':=s.toks) kp;have I2:Inv X pins σ (upd H h'.objs.size (.tup ys)) { s with heap:=h'.push { cls:=.type "tuple",data:=.seq a8.toArray } }:=
   I1.laid (t':=s.toks) (λb o e=>X2 _ e) (Xb _) (show ObjOk X.prog X.w _ _ _ (.tup ys)from⟨hz,a8,r',IsTupD.new _ _⟩)
  exact⟨.ref h'.objs.size,_,I2,rfl,q _ (I1.hok.fresh (Xb _))⟩
 ·obtain⟨a8,r',pl,hz⟩:=I.tuple hq;exact call_tuple_same pl ⟨.ref p,H,I,rfl,q⟩
noncomputable def tyV(K : Frag)(T : String)(x : V)(H : Hp): Prop:= match x with
  |.str _=>T = "str"|.int _=>T = "int"
  |.ref p=>(T = "list" /\ ∃xs, SqL K H p xs) \/ (T = "tuple" /\ ∃o, K.lookup p = some o /\ o.cls = .type "tuple" /\ o.dict = none) \/
      (T = "dict" /\ ((∃kvs, H p = some (.dK kvs)) \/ ∃kvs, H p = some (.dT kvs))) \/ (T = "set" /\ ∃S n, H p = some (.set S n))
  |_=>False
theorem vzp{pins:LA9}{σ:St}{H:Hp}{s:Shared}{T:String}{x:V}{v:Value}(I:Inv X pins σ H s)(r:RelV x v)(ty:tyV X.K T x H):
  s.TypeIs v T/\∀a,v=.ref a->∃ob,s.heap.get? a=some ob/\ob.dict=none:=by
 cases x with
 | str z=>
  obtain⟨t,rfl⟩:=r;cases(show T="str" from ty);exact⟨typeIs_str s z t,λ_ e=>nomatch e⟩
 | int i=>
  obtain⟨t,rfl⟩:=r;cases(show T="int" from ty);exact⟨typeIs_int s i t,λ_ e=>nomatch e⟩
 | ref p=>
  cases r;rcases ty with⟨rfl,xs,hq⟩|⟨rfl,o,hk,hc,hd⟩|⟨rfl,hk⟩|⟨rfl,S,n,hk⟩
  ·obtain⟨a8,_,pl,_⟩:=I.list hq;refine⟨pl.isList.typeIs,λa e=>?_⟩;cases e;obtain⟨o,n,e,c,hd,_⟩:=pl;exact⟨o,e,hd⟩
  ·refine⟨⟨o,I.kIn p o hk,hc⟩,λa e=>?_⟩;cases e;exact⟨o,I.kIn _ o hk,hd⟩
  ·have z:∃o,s.heap.get? p=some o/\o.ExactDict:=by
    rcases hk with⟨kvs,hk⟩|⟨kvs,hk⟩
    ·obtain⟨_,_,_,_,o,_,_,e,ex,_⟩:=I.hok p _ hk;exact⟨o,e,ex⟩
    ·obtain⟨_,_,_,_,o,_,_,e,ex,_⟩:=I.hok p _ hk;exact⟨o,e,ex⟩
   obtain⟨o,e,ex⟩:=z;refine⟨⟨o,e,ex.1⟩,λa e2=>?_⟩;cases e2;exact⟨o,e,ex.2.1⟩
  ·obtain⟨o,_,_,_,e,ex,_⟩:=I.hok p _ hk;refine⟨⟨o,e,ex.1⟩,λa e2=>?_⟩;cases e2;exact⟨o,e,ex.2.1⟩
 |_=>exact False.elim ty
abbrev tBM(K:Frag)(T:String)(r:V->List V->Hp->VK->Prop)(to:TE)(t:TA):TE:=fun σ H Q=>to σ H λx H1=>tyV K T x H1/\t σ H1 λxs H2=>r x xs H2 Q
variable {o e:Expr}{es:List Expr}{to:TE}{t:TA}{name:Str}{bb ai:Pos}{T id:String}{r:V->List V->Hp->VK->Prop}
theorem wki(pa:PlainAttrs T)(slot:Slot T name id)(px:typeOf (.builtin id)=pure (.type "method_descriptor"))(hm:MtR X id r)(ho:PE X o to)(ha:PA X (e::es) t)
  (ce:autoParam (attributeBase o name X.env (eval o X.env)=eval o X.env) Ŕ)
  (dy:autoParam (((backTo ai (starEach (e::es) X.env)).all (λx=>!x.1)&&(backToKw ai (keywordEach [] X.env)).all (λx=>x.1.isSome)
   && decide ((e::es).length+([]:List Keyword).length+(if([]:List Keyword).isEmpty then 0 else 1)<30))=true) Ŕ)
  (ck:autoParam ((bb.endLine==ai.line)=true) Ŕ) (hs:autoParam (starEach (e::es) X.env=(false,eval e X.env)::starEach es X.env) Ŕ) (bd:autoParam ((backTo ai (starEach es X.env)).any (·.1)=false) Ŕ):
  PE X (.Call (.Attribute o name bb) (e::es) [] ai) (tBM X.K T r to t):=by
 intro pins s σ H Q I h;refine wpAny_Call_method_late ce dy ck rfl (thn (ho pins s σ H _ I h) λv s1 ⟨x,H1,I1,r1,ty,q1⟩=>?_);obtain⟨h1,h2⟩:=vzp I1 r1 ty;refine⟨T,id,pa,slot,px,h1,h2,?_⟩;have hA:=ha ai pins s1 σ H1 _ I1 q1;rw[hs]at hA ⊢;refine Calls.callWith_builtin (by show(false||(backTo ai (starEach es X.env)).any (·.1))=false;rw[bd]<;>rfl) (Calls.evalArgs_plain ?_);exact thn hA λus s2 ⟨vs,H2,I2,r2,q2⟩=>hm pins s2 σ H2 x vs v us Q I2 r1 r2 q2
end
def MtM(X:Cx)(id:String)(r:V->List V->Hp->VK->Prop):Prop:=
 ∀(pins:LA9) (s:Shared) (σ:St) (H:Hp) (x:V) (xs:List V) (v:Value) (us:List Value) (Q:VK),Inv X pins σ H s->RelV x v->Vals xs us->r x xs H Q ->
  wpAny (model X.prog X.w) X.A (call (.builtin id) (v::us)) (EP X pins σ Q) X.xe s
theorem Vals.one:∀{x:V} {us:List Value},Vals [x] us->∃u,us=[u]/\RelV x u
 |_,_,.cons r .nil=>⟨_,rfl,r⟩
theorem Vals.eraseIdx:∀{xs:List V} {us:List Value} (i:Nat),Vals xs us->Vals (xs.eraseIdx i) (us.eraseIdx i)
 |_,_,_,.nil=>.nil|_,_,0,.cons _ t=>t|_,_,i+1,.cons r t=>.cons r (Vals.eraseIdx i t)
theorem Vals.rep{xs:List V}{us:List Value}(h:Vals xs us):∀k:Nat,Vals (List.replicate k xs).flatten (List.replicate k us).flatten
 |0=>.nil
 |k+1=>by
  rw[List.replicate_succ,List.replicate_succ,Zh,Zh];exact Vals.append h (Vals.rep h k)
theorem kwb{α:Type}:∀(l:List α) (i:Nat),(l.eraseIdx i).length<=l.length
 |[],_=>Xb _|_::_,0=>Nat.le_succ _|_::r,i+1=>Nat.succ_le_succ (kwb r i)
theorem kjn(a8:List Value):∀(k:Nat) (aa:List Value),
  List.foldl (λx1 x2=>x1++x2) aa.toArray (List.replicate k a8.toArray)=(aa++(List.replicate k a8).flatten).toArray
 | 0,aa=>by simp
 | k+1,aa=>by
  have e:aa.toArray++a8.toArray=(aa++a8).toArray:=by simp
  have e2:(aa++a8)++(List.replicate k a8).flatten=aa++(List.replicate (k+1) a8).flatten:=by
   rw[List.replicate_succ,Zh,Xu]
  rw[<-e2,<-kjn a8 k (aa++a8),<-e,List.replicate_succ,Yq]
section
variable {X:Cx}{pins:LA9}{σ:St}{H:Hp}{s:Shared}{l b:Addr}{xs ys zs:List V}
theorem Inv.lset{a8 its':List Value}{n:Nat}{f:Array Value->Array Value}{t':Nat}(I:Inv X pins σ H s)(hH:H l=some (.lst xs))
  (e:s.heap.get? l=some { cls:=.type "list",data:=.seq a8.toArray n }) (hf:f a8.toArray=its'.toArray) (hv:Vals ys its') (hz:ys.length<=sizeLine):
  Inv X pins σ (upd H l (.lst ys)) { s with heap:=s.heap.update l (Obj.mapSeq f),toks:=t' }:=by
 have q:=PySem.IsL.update e f;rw[hf]at q;refine I.write (x:=l) (e:=l) (by rw[hH];exact trivial) (.inl rfl) (λb' u hb hu=>(Za s.heap (Obj.mapSeq f) (Ne.symm hb)).trans hu) ⟨_,q⟩ ?_;exact⟨hz,its',_,hv,q⟩
theorem Inv.lnew{a8:List Value}{t':Nat}(I:Inv X pins σ H s)(hv:Vals ys a8)(hz:ys.length<=sizeLine):
  Inv X pins σ (upd H s.heap.objs.size (.lst ys)) { s with heap:=s.heap.push { cls:=.type "list",data:=.seq a8.toArray },toks:=t' }:=
 I.laid (λ_ _ q=>X2 _ q) (Xb _) ⟨hz,a8,0,hv,Xa _ rfl⟩
theorem Inv.fresh(I:Inv X pins σ H s):H s.heap.objs.size=none:=I.hok.fresh (Xb _)
theorem Inv.lstM(I:Inv X pins σ H s)(hH:H l=some (.lst xs)):xs.length<=sizeLine/\∃(a8:List Value) (n:Nat),Vals xs a8/\xs.length=a8.length/\s.heap.get? l=some { cls:=.type "list",data:=.seq a8.toArray n }:=by
 obtain⟨z,a8,n,r,e⟩:=I.hok l _ hH;exact⟨z,a8,n,r,r.length,e⟩
theorem vjg{n:Nat}(h:n<=sizeLine):Builtin.List.listTooLong n=false:=by
 unfold Builtin.List.listTooLong;exact Xj ⋯
end
section
variable {X:Cx}
def kxs:V->List V->Hp->VK->Prop:=λx vs H Q=>∃l xs y,x=.ref l/\vs=[y]/\H l=some (.lst xs)/\xs.length<sizeLine/\Q .non (upd H l (.lst (xs++[y])))
theorem qwe:MtM X "list.append" kxs:=by
 intro pins s σ H x vs v us Q I rx rv h;obtain⟨l,xs,y,rfl,rfl,hH,hz,q⟩:=h;cases rx;obtain⟨u,rfl,ru⟩:=rv.one;obtain⟨z,a8,n,r,hl,e⟩:=I.lstM hH;refine call_meets F.slot_list_append ⟨_,e,rfl⟩ F.entry_list_append (F.args_list_append_2 _ _) (PySem.list_append l a8.toArray n u (by rw[X7];omega)) ⟨e,?_⟩;refine⟨.non,_,I.lset (its':=a8++[u]) hH e (by simp) (r.append (.cons ru .nil)) ?_,rfl,q⟩;rw[Xd,Y0];omega
def vks:V->List V->Hp->VK->Prop:=λx vs H Q=>∃l xs i k y,x=.ref l/\vs=[.int i]/\H l=some (.lst xs)/\-(2 ^ 63)<=i/\i<2 ^ 63/\seqIndex? i xs.length=some k/\xs[k]?=some y/\Q y (upd H l (.lst (xs.eraseIdx k)))
theorem vji:MtM X "list.pop" vks:=by
 intro pins s σ H x vs v us Q I rx rv h;obtain⟨l,xs,i,k,y,rfl,rfl,hH,h1,h2,hk,hy,q⟩:=h;cases rx;obtain⟨u,rfl,ru⟩:=rv.one;obtain⟨t,rfl⟩:=ru;obtain⟨z,a8,n,r,hl,e⟩:=I.lstM hH;obtain⟨w,hw,il⟩:=r.get hy;refine call_meets F.slot_list_pop ⟨_,e,rfl⟩ F.entry_list_pop (F.args_list_pop_2 _ _)
  (MeetsSeq.list_pop_at l a8.toArray n i t k w (fitsIndex_both h1 h2) (by rw[X7,<-hl];exact hk) (by rw[<-Yr];exact hw) (by rw[X7];omega)) ⟨e,?_⟩
 refine⟨y,_,I.lset (its':=a8.eraseIdx k) hH e ?_ (r.eraseIdx k) ?_,il,q⟩
 ·show a8.toArray.eraseIdxIfInBounds k=(a8.eraseIdx k).toArray;rw[List.eraseIdxIfInBounds_toArray]
 ·have:=kwb xs k;omega
theorem qwn{α:Type}(xs:List α)(k:Nat):(List.replicate k xs).flatten.length=k*xs.length:=by
 induction k with|zero=>simp|succ k ih=>rw[List.replicate_succ,Zh,Xd,ih,Nat.succ_mul,Nat.add_comm]
end
end L2
namespace Att
open PySem PySem.W PySem.Calls PyProof.Rows
theorem kjk{P:Params}{h:Heap}:∀(ns:List Int) (vs:List Value),WellAll P h vs (ns.map WData.int)->IntsAre vs ns:=by
 intro ns
 induction ns with
 | nil=>
  intro vs w;rw[List.map_nil]at w;cases w;exact .nil
 | cons n ns ih=>
  intro vs w;rw[List.map_cons]at w;cases w with
  |cons a b=>
   cases a;exact .cons _ _ (ih _ b)
theorem script_of{l : OpenLaw}{n : Nat}(hn : l.most = some n){P : Params}{h : Heap}{args : List WData}{ca : List Value}
    (ko : l.row.toRowW.claim.pre args = true) (lr : WellAll P h ca args):
    ∃ a vs ns, ca = [Value.ref a] /\ args = [WData.list (ns.map WData.int)] /\ h.get? a = some { cls:= .type "list", data:= .seq vs.toArray } /\ IntsAre vs ns /\ ns.length<=n:= by
  have mr : WShape.hasAll [] args [.list .int] = true:= (pre_splitW ko).1;have hc : l.pre.holds [] { args:= args } = true:= (pre_splitW ko).2;obtain⟨d, r, rfl, h1, h2⟩:= hasAllW_cons mr;obtain rfl:= hasAllW_nil h2;obtain⟨xs, rfl, h3⟩:= hasW_list h1;obtain⟨ns, rfl⟩:= items_int h3;have ab : ns.length<=n:= by
    unfold OpenLaw.pre at hc;have h4 : (WTm.not (.lt (.lit (.int (n : Int))) (.len (.arg 0)))).holds [] { args:= [.list (ns.map .int)] } = true:= by
      have h4:= (holds_andW hc).1;rw[hn]at h4;exact h4
    have h5:= condW_of h4 (w_not (w_lt w_lit (w_len_list (w_arg rfl))));rw[X3]at h5;refine Nat.le_of_not_lt λq=> ?_
    have q' : (n : Int)<((ns.length : Nat): Int):= by omega
    first
      |(rw[Xi q']at h5; exact absurd h5 ⋯)
      |(simp at h5; omega)
  cases lr with
  | cons w1 w2=>
    cases w2;cases w1 with|list ho m6=>exact⟨_, _, ns, rfl, rfl, ho, kjk ns _ m6, ab⟩
theorem post_true(l:OpenLaw)(args:List WData):l.row.toRowW.claim.post args (.bool true) args=true:=
 postW_of (r:=l.row.toRowW) (X:=(true==true))
  (show WShape.has [] (.bool true) .bool=true by first|rfl|decide|simp[WShape.has,WShape.arms,WShape.armsAll])
  (show(WTm.eq .res (.lit (.bool true))).value [] { args:=args,res:=some (.bool true),after:=args }=some (.bool (true==true))from w_eq_bool (w_res rfl) w_lit) rfl
end Att
namespace L2
open PySem PySem.Spec PyProof.Rows
def wz6(H:Hp):Prop:=∀b,H b=none\/∃o xs,H b=some (.frz o (.lst xs))
def xj(s:Stmt):Arguments:=match s with
 |.FunctionDef _ a _ _ _ _ _ _ _ _=>a|_=>{ posonlyargs:=[],args:=[],vararg:=none,kwonlyargs:=[],kw_defaults:=[],kwarg:=none,defaults:=[] }
def z5(s:Stmt):List Stmt:=match s with
 |.FunctionDef _ _ b _ _ _ _ _ _ _=>b|_=>[]
def jX(s:Stmt):Scope:=match s with
 |.FunctionDef _ _ _ _ _ _ sc _ _ _=>sc|_=>{ kind:=.function,names:=[],isGenerator:=false,isCoroutine:=false }
structure Fun (K:Frag)(x qual:Str)(st:Stmt)(f:Addr)(fd:FuncData):Prop where
 ex:∃(oc:Value) (od:Option Addr) (kV en pm:Value) (an:Option Addr) (ax ct:Value) (je:Array (Option Value)),
  fd=PySem.W.fnOf x qual (xj st) (z5 st) (jX st) .none kV en pm an ax ct/\K.lookup f=some ⟨oc,od,.func fd,je⟩/\PySem.W.codeIn K ax qual=true
 kp:PySem.W.keepIn K (.ref f)=true
section
variable {P:Program}{w:World}{K:Frag}{mg:Str->Option Value}{base:Heap}
theorem Fun.binds{x qual:Str}{st:Stmt}{f:Addr}{fd:FuncData}{ps:List Str}(F:Fun K x qual st f fd)
  (h:∀(kV en pm:Value) (an:Option Addr) (ax ct:Value) (us:List Value),us.length=ps.length->bindArgs (PySem.W.fnOf x qual (xj st) (z5 st) (jX st) .none kV en pm an ax ct) ⟨us,[]⟩=pure (ps.zip us)):Binds K fd ps []:=by
 obtain⟨oc,od,kV,en,pm,an,ax,ct,je,rfl,lk,fm⟩:=F.ex;exact .all (h kV en pm an ax ct)
theorem qxc{x qual:Str}{st:Stmt}{f:Addr}{oc:Value}{od an:Option Addr}{je:Array (Option Value)}{kV en pm ax ct:Value}(l:K.lookup f=some ⟨oc,od,.func (PySem.W.fnOf x qual (xj st) (z5 st) (jX st) .none kV en pm an ax ct),je⟩)
  (c:PySem.W.codeIn K ax qual=true) (k:PySem.W.keepIn K (.ref f)=true):Fun K x qual st f (PySem.W.fnOf x qual (xj st) (z5 st) (jX st) .none kV en pm an ax ct):=⟨⟨oc,od,kV,en,pm,an,ax,ct,je,rfl,l,c⟩,k⟩
end
section
variable {X:Cx}
theorem pv(i:Nat){x:Str}{pos:Pos}(hN:autoParam (X.N[i]?=some x) Ŕ)(hv:autoParam (Vis X.env.scope x) ř)(hd:autoParam ((x==("__debug__":Str))=false) ŕ)
  (fm:autoParam ((x==("__classdict__":Str))=false) ŕ):PE X (.Name x pos) (z4 i):=wk9 hN hv hd fm
end
def jY(H H':Hp):Prop:=∀b o,H b=some o->H' b=some o
section
variable {κ:Type}[DecidableEq κ]
def zY(kvs:List (κ×V))(k:κ):Option V:=(kvs.find? λkv=>decide (kv.1=k)).map (·.2)
def wvu(kvs:List (κ×V))(k:κ)(v:V):List (κ×V):=
 if(kvs.any λkv=>decide (kv.1=k))=true then kvs.map (λkv=>if kv.1=k then(kv.1,v)else kv)else kvs++[(k,v)]
theorem kzl{p:κ×V}{r:List (κ×V)}{k:κ}(e:p.1=k):zY (p::r) k=some p.2:=by simp[zY,Yj,e]
theorem kzm{p:κ×V}{r:List (κ×V)}{k:κ}(e:¬p.1=k):zY (p::r) k=zY r k:=by simp[zY,Yj,e]
theorem RelO.isSome_eq{o:Option V}{u:Option Value}(r:RelO o u):o.isSome=u.isSome:=by
 cases o with
 |none=>cases u with|none=>rfl|some _=>exact(show False from r).elim
 |some _=>cases u with|none=>exact(show False from r).elim|some _=>rfl
theorem KV.val{kvs:List (κ×V)}{vs:List (κ×Value)}(r:KV kvs vs)(k:κ):RelO (zY kvs k) (valueAt vs k):=by
 unfold KV at r
 induction r with
 | nil=>exact True.intro
 | @cons p q ps qs h t ih=>
  obtain⟨h1,h2⟩:=h
  by_cases e:p.1=k
  ·have e':q.1=k:=h1.symm.trans e;have b:valueAt (q::qs) k=some q.2:=by simp[valueAt,Yj,e']
   rw[kzl e,b];exact h2
  ·have e':¬q.1=k:=λz=>e (h1.trans z)
   have b:valueAt (q::qs) k=valueAt qs k:=by simp[valueAt,Yj,e']
   rw[kzm e,b];exact ih
theorem KV.any{kvs:List (κ×V)}{vs:List (κ×Value)}(r:KV kvs vs)(k:κ):(kvs.any λkv=>decide (kv.1=k))=vs.any λkv=>decide (kv.1=k):=by
 unfold KV at r
 induction r with|nil=>rfl|cons h t ih=>rw[Zk,Zk,ih,h.1]
theorem KV.repl{kvs:List (κ×V)}{vs:List (κ×Value)}(r:KV kvs vs)(k:κ){y:V}{u:Value}(ry:RelV y u):
  KV (kvs.map λkv=>if kv.1=k then(kv.1,y)else kv) (vs.map λkv=>if kv.1=k then(kv.1,u)else kv):=by
 unfold KV at r ⊢
 induction r with
 |nil=>exact .nil
 |@cons p q ps qs h t ih=>
  rw[List.map_cons,List.map_cons];refine .cons ?_ ih;obtain⟨h1,h2⟩:=h
  by_cases e:p.1=k
  ·rw[X8 e,X8 (h1.symm.trans e)];exact⟨h1,ry⟩
  ·rw[Xf e,Xf (λz=>e (h1.trans z))];exact⟨h1,h2⟩
theorem KV.put{kvs:List (κ×V)}{vs:List (κ×Value)}(r:KV kvs vs)(k:κ){y:V}{u:Value}(ry:RelV y u):KV (wvu kvs k y) (stored vs k u):=by
 unfold wvu stored;rw[r.any k]
 by_cases e:(vs.any λkv=>decide (kv.1=k))=true
 ·rw[X8 e,X8 e];exact r.repl k ry
 ·rw[Xf e,Xf e];exact Paired.snoc r ⟨rfl,ry⟩
theorem KV.length{kvs:List (κ×V)}{vs:List (κ×Value)}(r:KV kvs vs):kvs.length=vs.length:=Paired.length r
end
theorem vjq{P:Program}{w:World}{k:Key}{u:Value}(r:RelV (kV k) u):(xX P w).is k u=true:=by
 cases k with|inl i=>obtain⟨t,e⟩:=(show ∃t,u=Value.int i t from r);subst e;exact kz3 P w i t|inr x=>obtain⟨t,e⟩:=(show ∃t,u=Value.str x t from r);subst e;exact kz2 P w x t
theorem kwg{P:Program}{w:World}:∀{ks:List Key} {us:List Value},Vals (ks.map kV) us->ItemsAre (xX P w) ks us
 |[],_,r=>by rw[List.map_nil]at r;cases r;exact .nil
 |k::ks,_,r=>by
  rw[List.map_cons]at r;cases r with|cons h t=>exact .cons (vjq h) (kwg t)
abbrev KT(H:Hp):List (List Key×V)->List (List Key×Addr×Value)->Prop:=Paired λp q=>p.1=q.1/\H q.2.1=some (.tup (p.1.map kV))/\RelV p.2 q.2.2
theorem KT.val{H:Hp}{kvs:List (List Key×V)}{xs:List (List Key×Addr×Value)}(r:KT H kvs xs)(k:List Key):RelO (zY kvs k) ((atKey xs k).map (·.2)):=by
 induction r with
 | nil=>exact True.intro
 | @cons p q ps qs h t ih=>
  obtain⟨h1,_,h2⟩:=h
  by_cases e:p.1=k
  ·have e':q.1=k:=h1.symm.trans e;have b:atKey (q::qs) k=some q.2:=by simp[atKey,Yj,e']
   rw[kzl e,b];exact h2
  ·have e':¬q.1=k:=λz=>e (h1.trans z)
   have b:atKey (q::qs) k=atKey qs k:=by simp[atKey,Yj,e']
   rw[kzm e,b];exact ih
section
variable {P:Program}{w:World}{H:Hp}{h:Heap}{a:Addr}
theorem qzy{u:HO}(ok:HOk P w H h)(e:Rd H a u):ObjOk P w H h a u:=e.ok ok
theorem vk4{kvs:List (Key×V)}(ok:HOk P w H h)(e:Rd H a (.dK kvs)):kvs.length<=sizeLine/\(a==sysModules)=false/\∃vs,KV kvs vs/\h.DictOf (xX P w) a vs:=
 show ObjOk P w H h a (.dK kvs)from qzy ok e
theorem qwv{ks:List Key}(ok:HOk P w H h)(e:H a=some (.tup (ks.map kV))):(tupleKind (xX P w)).is h ks a:=by
 obtain⟨_,a8,r,o,h1,h2,_,n,h3⟩:=(show ObjOk P w H h a (.tup (ks.map kV))from ok a _ e);exact⟨o,a8.toArray,n,h1,h2,h3,by simpa using kwg r⟩
theorem vxr{kvs:List (List Key×V)}(ok:HOk P w H h)(e:Rd H a (.dT kvs)):kvs.length<=sizeLine/\(a==sysModules)=false /\
  ∃ xs,KT H kvs xs/\h.DictOfH (tupleKind (xX P w)) a xs:=by
 obtain⟨z,y,xs,r,o,es,ep,h1,h2,h3,h4,h5⟩:=(show ObjOk P w H h a (.dT kvs)from qzy ok e);refine⟨z,y,xs,r,o,es,ep,h1,h2,h3,h4,λx hx=>?_,h5⟩;have all:∀{l:List (List Key×V)} {m:List (List Key×Addr×Value)},KT H l m->∀x∈m,(tupleKind (xX P w)).is h x.1 x.2.1:=by
  intro l m q
  induction q with
  | nil=>intro x hx;exact nomatch hx
  | @cons p q ps qs hq t ih=>
   intro x hx;rcases aD hx with e|hx
   ·subst e;exact qwv ok (by rw[<-hq.1];exact hq.2.1)
   ·exact ih x hx
 exact all r x hx
end
def DGet(H:Hp)(a:Addr)(y:V)(r:Option V):Prop:=
 (∃kvs k,Rd H a (.dK kvs)/\y=kV k/\r=zY kvs k)\/∃kvs k b,Rd H a (.dT kvs)/\y=.ref b/\H b=some (.tup (k.map kV))/\r=zY kvs k
theorem DGet.k{H:Hp}{a:Addr}{kvs:List (Key×V)}{k:Key}(e:H a=some (.dK kvs)):DGet H a (kV k) (zY kvs k):=.inl ⟨kvs,k,.inl e,rfl,rfl⟩
section
variable {X:Cx}{pins:LA9}{σ:St}{H:Hp}{s:Shared}{a:Addr}{y v:V}{u r:Value}{o:Option V}{A:Around}{E:VP9}
theorem Inv.big(I:Inv X pins σ H s):sysModules<s.heap.objs.size:=by
 have h:mainGlobals<s.heap.objs.size:=(I.mod.glob.keeps I.bk).lt;exact Nat.lt_trans ⋯ h
theorem qxq{Q:VP9}(hu:A.units+1<cLine)(I:Inv X pins σ H s)(g:DGet H a y (some v))(ry:RelV y u)(h:∀w' s',Inv X pins σ H s'->RelV v w'->Q w' s'):
  wpAny (model X.prog X.w) A (getItem (.ref a) u) Q E s:=by
 rcases g with⟨kvs,k,e,ey,l⟩|⟨kvs,k,b,e,ey,eb,l⟩
 ·subst ey;obtain⟨z,hd,vs,gh,dd⟩:=vk4 I.hok e;obtain⟨w',hw,il⟩:=RelO.some_of (v:=v) (o:=valueAt vs k) (by rw[l];exact gh.val k);exact wpAny_getItem_of (vjq ry) dd.mapOf hw (h w' _ (I.tok _) il)
 ·subst ey;cases(show u=Value.ref b from ry);obtain⟨z,hd,xs,gh,dd⟩:=vxr I.hok e;obtain⟨w',hw,il⟩:=RelO.some_of (v:=v) (o:=(atKey xs k).map (·.2)) (by rw[l];exact gh.val k);obtain⟨p,hp,hp2⟩:=Option.map_eq_some_iff.mp hw;refine wpAny_getItem_heap (tupleKind_room_in1 hu) (qwv I.hok eb) dd hp ?_;rw[hp2];exact h w' _ (I.tok _) il
theorem d_in{Q:VP9}(hu:A.units+1<cLine)(I:Inv X pins σ H s)(g:DGet H a y o)(ry:RelV y u)(h:∀s',Inv X pins σ H s'->Q (.bool o.isSome) s'):
  wpAny (model X.prog X.w) A (compareOp .In u (.ref a)) Q E s:=by
 rcases g with⟨kvs,k,e,ey,l⟩|⟨kvs,k,b,e,ey,eb,l⟩
 ·subst ey;obtain⟨z,hd,vs,gh,dd⟩:=vk4 I.hok e;refine wpAny_in_of (vjq ry) hd dd.mapOf ?_;rw[<-(gh.val k).isSome_eq,<-l];exact h _ (I.tok _)
 ·subst ey;cases(show u=Value.ref b from ry);obtain⟨z,hd,xs,gh,dd⟩:=vxr I.hok e;refine wpAny_in_heap (tupleKind_room_in1 hu) (qwv I.hok eb) hd dd ?_;have q:=(gh.val k).isSome_eq;rw[Option.isSome_map]at q;rw[<-q,<-l];exact h _ (I.tok _)
theorem qxp{h':Heap}{t':Nat}{ob:HO}(I:Inv X pins σ H s)(mu:Mut (H a))(hs:Heap.SameBut a s.heap h')(he:∃q,h'.get? a=some q)(new:ObjOk X.prog X.w (upd H a ob) h' a ob):
  Inv X pins σ (upd H a ob) { s with heap:=h',toks:=t' }:=
 I.write (x:=a) (e:=a) mu (.inl rfl) (λb q hb z=>(hs.2 b hb).trans z) he new
theorem wqy{P:Program}{w:World}{H':Hp}{h':Heap}{kvs:List (Key×V)}{vs:List (Key×Value)}(z:kvs.length<=sizeLine)(hd:(a==sysModules)=false)(gh:KV kvs vs)(dd:h'.DictOf (xX P w) a vs):
  ObjOk P w H' h' a (.dK kvs):=⟨z,hd,vs,gh,dd⟩
end
section
variable {X:Cx}{pins:LA9}{σ:St}{H:Hp}{s:Shared}{a:Addr}{kvs:List (Key×V)}{k:Key}{u:Value}{A:Around}{E:VP9}
theorem wxz{Q:VP9}(I:Inv X pins σ H s)(e:Rd H a (.dK kvs))(h:∀t s',Inv X pins σ H s'->Q (.int kvs.length t) s'):wpAny (model X.prog X.w) A (call (.builtin "len") [.ref a]) Q E s:=by
 obtain⟨z,hd,vs,gh,dd⟩:=vk4 I.hok e;refine call_len_dict hd dd (by rw[<-gh.length];rw[sizeLine_eq]at z;omega) ?_;rw[<-gh.length];exact h _ _ (I.tok _)
end
def wvm(i:Expr):Prop:=∀ov iv,subscripted i false ov iv=operate [ov,iv] (getItem ov iv)
theorem qql{prog:Program}{w:World}{A:Around}{E:VP9}{s:Shared}{env:Env}{value slice:Expr}{pos:Pos}{T id:String}{Q:VP9}
  (hl:typeLookup (.type T) "__getitem__"=pure (some (.builtin id))) (hs:wvm slice)
  (h:wpAny (model prog w) A (eval value env) (λo s₁=>wpAny (model prog w) A (eval slice env) (λi s₂=>s₂.TypeIs o T/\wpAny (model prog w) A (getItem o i) Q E s₂) E s₁) E s):
  wpAny (model prog w) A (eval (.Subscript value slice pos) env) Q E s:=by
 refine Subscript_ (wpAny_mono h (λo s₁ h₁=>wpAny_mono h₁ (λi s₂ h₂=>?_) λ_ _ x=>x) λ_ _ x=>x);obtain⟨hT,h₂⟩:=h₂;unfold subscriptTail;refine X0 ?_;rw[getitemInPython_of_ne hT.not_modules];refine X0 (Yt hT hl ?_);have fin:wpAny (model prog w) A (subscripted slice false o i) (λr s₃=>wpAny (model prog w) A (letTemporaryGo value o r >>= λ_=>pure r) Q E s₃) E s₂:=by
  rw[hs o i];exact wpAny_operating (wpAny_mono h₂ (λr s₃ h₃=>X0 (wpAny_letTemporaryGo (X5 h₃))) λ_ _ x=>x)
 first
  |exact X5 (X0 fin)
  |exact X0 (X5 (X0 fin))
  |exact X0 fin
theorem kzf{X:Cx}{pins:LA9}{σ:St}{H:Hp}{s:Shared}{a:Addr}{y:V}{o:Option V}(I:Inv X pins σ H s)(g:DGet H a y o):s.TypeIs (.ref a) "dict":=by
 rcases g with⟨kvs,k,e,_,_⟩|⟨kvs,k,b,e,_,_,_⟩
 ·obtain⟨_,_,vs,_,dd⟩:=vk4 I.hok e;exact dd.typeIs
 ·obtain⟨_,_,xs,_,dd⟩:=vxr I.hok e;exact dd.typeIs
abbrev wwe(td ty:TE):TE:=fun σ H Q=>td σ H λx H1=>ty σ H1 λy H2=>∃a v,x=.ref a/\DGet H2 a y (some v)/\Q v H2
section
variable {X:Cx}{o i e value:Expr}{pos ao jo:Pos}{td ty tv:TE}
theorem vwf(hu:X.A.units+1<cLine)(ho:PE X o td)(hi:PE X i ty)(hs:wvm i):PE X (.Subscript o i pos) (wwe td ty):=by
 intro pins s σ H Q I h;refine qql PySem.F.slot_dict_getitem.lookup hs (thn (ho pins s σ H _ I h) λu s1 ⟨x,H1,I1,rx,q1⟩=>thn (hi pins s1 σ H1 _ I1 q1) λiv s2 ⟨y,H2,I2,ry,a,v,ex,g,q2⟩=>?_);subst ex;obtain rfl:u=Value.ref a:=rx;exact⟨kzf I2 g,qxq hu I2 g ry λw' s3 I3 il=>⟨v,H2,I3,il,q2⟩⟩
end
def vkj:List (TE×TE)->St->Hp->(List (V×V)->Hp->Prop)->Prop
 |[],_,H,Q=>Q [] H|(tk,tv)::r,σ,H,Q=>tk σ H λx H1=>tv σ H1 λy H2=>vkj r σ H2 λps H3=>Q ((x,y)::ps) H3
abbrev VV:List (V×V)->List (Value×Value)->Prop:=Paired λp q=>RelV p.1 q.1/\RelV p.2 q.2
noncomputable def PPs(X:Cx)(pos:Pos)(keys:List (Option Expr))(m8:List Expr)(trs:List (TE×TE)):Prop:=
 ∀(pins:LA9) (s:Shared) (σ:St) (H:Hp) (Q:List (V×V)->Hp->Prop),Inv X pins σ H s->vkj trs σ H Q ->
  wpAny (model X.prog X.w) X.A (evalPairs (pairTrees keys m8 X.env pos)) (λvs s'=>∃ps H',Inv X pins σ H' s'/\VV ps vs/\Q ps H') X.xe s
theorem vw6{X:Cx}{pos:Pos}:PPs X pos [] [] []:=λpins s σ H Q I h=>pairTrees_nil_walk ⟨[],H,I,.nil,h⟩
theorem vj8{X:Cx}{pos:Pos}{k v:Expr}{ks:List (Option Expr)}{vs:List Expr}{tk tv:TE}{trs:List (TE×TE)}(hk:PE X k tk)(hv:PE X v tv)(hr:PPs X pos ks vs trs):
  PPs X pos (some k::ks) (v::vs) ((tk,tv)::trs):=λpins s σ H Q I h=>
 pairTrees_cons_walk (thn (hk pins s σ H _ I h) λu s1 ⟨x,H1,I1,rx,q1⟩=>thn (hv pins s1 σ H1 _ I1 q1) λw2 s2 ⟨y,H2,I2,ry,q2⟩=>
  thn (hr pins s2 σ H2 _ I2 q2) λws s3 ⟨ps,H3,I3,gh,q3⟩=>⟨(x,y)::ps,H3,I3,.cons ⟨rx,ry⟩ gh,q3⟩)
section
variable {X:Cx}
theorem qxw:CallR X (.builtin "len") (λxs H Q=>∃a kvs,xs=[V.ref a]/\H a=some (.dK kvs)/\Q (.int kvs.length) H):=by
 intro pins s σ H xs us Q I r h;obtain⟨a,kvs,rfl,ha,q⟩:=h;obtain⟨u,rfl,ru⟩:=xq r;cases ru;exact wxz I (.inl ha) λt s' I'=>⟨.int kvs.length,H,I',⟨t,rfl⟩,q⟩
end
end L2
set_option maxHeartbeats 4000000
namespace L3
open PySem PySem.Spec PyProof.Rows L2
abbrev qwr(cu:List Expr)(env:Env):Sem Bool:=
 forIn cu true λc r=>if r=true then do let ok <-isTrue c env (eval c env);pure (ForInStep.yield ok)else pure (ForInStep.yield r)
theorem jw2 (env : Env): ∀(l : List (Str × NameKind)) (cs : List (Str × Addr)), (∀y ∈ l, y.2 = .free -> ∃c, env.cells.lookup y.1 = some c) ->
    (∀x c, cs.lookup x = some c -> env.cells.lookup x = some c) ->
    ∃ cl, (forIn l cs (λ(x : Str × NameKind) (r : List (Str × Addr))=>if(x.2==NameKind.free) = true then do let a <-cellOf env x.1; pure (ForInStep.yield ((x.1, a)::r))else pure (ForInStep.yield r)): Sem (List (Str × Addr))) = pure cl /\
      (∀x c, cl.lookup x = some c -> env.cells.lookup x = some c) /\ (∀x c, cs.lookup x = some c -> ∃c', cl.lookup x = some c') /\ ∀y ∈ l, y.2 = .free -> ∃c, cl.lookup y.1 = some c
  | [], cs, _, hs=>⟨cs, rfl, hs, λx c h=>⟨c, h⟩, λ_ h=>nomatch h⟩
  | (n, k)::r, cs, hl, hs=>by
    by_cases hk : k = .free
    · subst hk
      obtain⟨c, hc⟩:= hl (n, .free) X6 rfl;have iw : ∀x d, ((n, c)::cs).lookup x = some d -> env.cells.lookup x = some d:= λx d h=>by
        rw[Zm]at h;cases hx : x==n with
        | true=>
          rw[hx]at h;have e : x = n:= by simpa using hx
          have e2 : c = d:= by simpa using h
          subst e; subst e2;exact hc
        | false=>rw[hx]at h; exact hs x d h
      obtain⟨cl, e, a, b, d⟩:= jw2 env r ((n, c)::cs) (λy hy=>hl y (lc9 _ hy)) iw;refine⟨cl, ?_, a, λx c' h=> ?_, λy hy hf=> ?_⟩
      · rw[List.forIn_cons]
        have q : cellOf env n = pure c:= by unfold cellOf; rw[hc]
        simp only[beq_self_eq_true, if_true, q, pure_bind];exact e
      · cases hx : x==n with| true=>exact b x c (by rw[Zm, hx])| false=>exact b x c' (by rw[Zm, hx]; exact h)
      · rcases aD hy with z|z
        · subst z
          exact b n c (by rw[Zm]; simp)
        · exact d y z hf
    · obtain⟨cl, e, a, b, d⟩:= jw2 env r cs (λy hy=>hl y (lc9 _ hy)) hs
      refine⟨cl, ?_, a, b, λy hy hf=> ?_⟩
      · rw[List.forIn_cons]
        have q : (k==NameKind.free) = false:= by simpa using hk
        simp only[q, Bool.false_eq_true, if_false, pure_bind];exact e
      · rcases aD hy with z|z
        · subst z
          exact absurd hf hk
        · exact d y z hf
theorem kkn{scope:Scope}{env:Env}(h:∀y∈scope.names,y.2=.free->∃c,env.cells.lookup y.1=some c):
  ∃cl,closureFor scope env=pure cl/\(∀x c,cl.lookup x=some c->env.cells.lookup x=some c)/\∀y∈scope.names,y.2=.free->∃c,cl.lookup y.1=some c:=by
 obtain⟨cl,e,a,_,d⟩:=jw2 env scope.names [] h (λx c h=>nomatch h);refine⟨cl,?_,a,d⟩;unfold closureFor;have e':=congrArg (λt:Sem (List (Str×Addr))=>t >>= pure) e
 simpa using e'
def lcX(X:Cx)(scope:Scope)(N:List Str)(cl:List (Str×Addr))(C:Addr)(s0:Shared)(H0:Hp)(fp:List Addr):Cx:=
 { X with N:=N,s₀:=s0,H₀:=H0,env:=compEnvC scope cl C X.env,outer:=X.stack,ex:=fp,fn:=λ_=>false,pn:=[],xe:=λ_ _=>False }
def Jj(k:Nat)(R:List Nat)(σ:L2.St):L2.St:=List.replicate k none++R.map λj=>(σ[j]?).join
structure LcOk (X:Cx)(scope:Scope)(N:List Str)(k:Nat)(R:List Nat):Prop where
 kind:scope.kind=.function
 nocell:∀y∈scope.names,y.2≠.cell
 names:∀y∈scope.names,y.2=.local->scope.names.lookup y.1=some .local
 caps:∀y∈scope.names,y.2=.free->X.env.kindOf y.1=some .cell\/X.env.kindOf y.1=some .free
 len:N.length=k+R.length
 outs:∀i j x,R[i]?=some j->N[k+i]?=some x->X.N[j]?=some x/\scope.names.lookup x=some .free
noncomputable def Jz(XN:List Str)(sc scope:Scope)(N:List Str)(k:Nat)(R:List Nat):Bool:=
 scope.names.all (λy=>y.2 != .cell)&&scope.names.all (λy=>y.2 != .local||scope.names.lookup y.1==some .local) &&
 scope.names.all (λy=>y.2 != .free||(sc.names.lookup y.1==some .cell||sc.names.lookup y.1==some .free)) &&
 (N.length==k+R.length)&&(R.zip (N.drop k)).all (λp=>XN[p.1]? == some p.2&&scope.names.lookup p.2==some .free)
theorem qje{X:Cx}{scope:Scope}{N:List Str}{k:Nat}{R:List Nat}(hk:scope.kind=.function)(h:Jz X.N X.env.scope scope N k R=true):LcOk X scope N k R:=by
 unfold Jz at h;simp only[Bool.and_eq_true,Z2,bne_iff_ne,Bool.or_eq_true,beq_iff_eq]at h;obtain⟨⟨⟨⟨h1,h2⟩,h3⟩,h4⟩,h5⟩:=h;refine⟨hk,λy hy=>h1 y hy,λy hy e=>(h2 y hy).resolve_left (λz=>z e),λy hy e=>(h3 y hy).resolve_left (λz=>z e),h4,λi j x e1 e2=>?_⟩;have m:(j,x)∈R.zip (N.drop k):=by
  refine List.mem_of_getElem? (i:=i) ?_;rw[List.getElem?_zip_eq_some];exact⟨e1,by rw[List.getElem?_drop];exact e2⟩
 exact h5 (j,x) m
theorem jkh {env : Env} {x : Str} {q : NameKind}: ∀{names : List (Str × NameKind)}, (names.map λ(n, k)=>if(k==NameKind.free&&env.scope.kind == .function&&env.kindOf n==some .cell)then(n, NameKind.cell)else(n, k)).lookup x = some q ->
    (x, q) ∈ names \/ (q = .cell /\ (x, NameKind.free) ∈ names)
  | [], h=>nomatch h
  | (n, k)::r, h=>by
    have h : List.lookup x ((if(k==NameKind.free&&env.scope.kind == .function&&env.kindOf n==some .cell) = true then(n, NameKind.cell)else(n, k))::(r.map λ(n, k)=>if(k==NameKind.free&&env.scope.kind == .function&&env.kindOf n==some .cell)then(n, NameKind.cell)else(n, k))) = some q:= h
    by_cases hc : (k==NameKind.free&&env.scope.kind == .function&&env.kindOf n==some .cell) = true
    · rw[X8 hc, Zm]at h
      cases hx : x==n with
      | true=>
        rw[hx]at h;have e : x = n:= by simpa using hx
        have e2 : NameKind.cell = q:= by simpa using h
        subst e;simp only[Bool.and_eq_true, beq_iff_eq]at hc;obtain⟨⟨e3, _⟩, _⟩:= hc;subst e3;exact .inr ⟨e2.symm, X6⟩
      | false=>
        rw[hx]at h;rcases jkh (names:= r) h with z|⟨z, y⟩
        · exact .inl (lc9 _ z)
        · exact .inr ⟨z, lc9 _ y⟩
    · rw[Xf hc, Zm]at h
      cases hx : x==n with
      | true=>
        rw[hx]at h;have e : x = n:= by simpa using hx
        have e2 : k = q:= by simpa using h
        subst e; subst e2;exact .inl X6
      | false=>
        rw[hx]at h;rcases jkh (names:= r) h with z|⟨z, y⟩
        · exact .inl (lc9 _ z)
        · exact .inr ⟨z, lc9 _ y⟩
section
variable {X:Cx}{pins:LA9}{σ:L2.St}{H:Hp}{s:Shared}
theorem wq0{scope:Scope}{N:List Str}{k:Nat}{R:List Nat}{cl:List (Str×Addr)}{C:Addr}(sc:LcOk X scope N k R)(bf:∀y∈scope.names,y.2=.free->∃c,cl.lookup y.1=some c)
  {x:Str} (h:(compEnvC scope cl C X.env).kindOf x=some .cell\/(compEnvC scope cl C X.env).kindOf x=some .free):∃c,cl.lookup x=some c:=by
 rcases h with h|h
 ·rcases jkh (env:=X.env) (names:=scope.names) h with z|⟨_,z⟩
  ·exact absurd rfl (sc.nocell _ z)
  ·exact bf _ z rfl
 ·rcases jkh (env:=X.env) (names:=scope.names) h with z|⟨z,_⟩
  ·exact bf _ z rfl
  ·cases z
theorem wq1{scope:Scope}{N:List Str}{k:Nat}{R:List Nat}{cl:List (Str×Addr)}{C:Addr}{fp:List Addr}(I:Inv X pins σ H s)(sc:LcOk X scope N k R)(hf:∀b∈fp,v9 X pins H b)(ho:∀b∈fp,∃o,s.heap.get? b=some o)
  (hC:s.heap.objs.size<=C) (da:∀x c,cl.lookup x=some c->X.env.cells.lookup x=some c) (bf:∀y∈scope.names,y.2=.free->∃c,cl.lookup y.1=some c):(lcX X scope N cl C s H fp).Ok where
 mod:=I.ok.mod
 kind:=sc.kind
 glob:=I.ok.glob
 blt:=I.ok.blt
 above:=hC
 inj:=λx y c h1 h2=>I.ok.inj x y c (da _ _ h1) (da _ _ h2)
 has:=λx h=>wq0 sc bf h
 cab:=λx c h=>by cases h
 hd:=I.ok.hd
 frames:=I.ok.frames
 stk:=.inl rfl
 exf:=λb hb=>by
  obtain⟨o,e⟩:=ho b hb;exact⟨Xk (Xl (Xg e) hC),λx c h=>(hf b hb).2.2.2.2.1 x c (da x c h)⟩
 bs:=λb o e=>I.bs b o e
 bsz:=Ye I.ok.bsz I.sz
 noex:=λb o e hb=>by
  rcases(hf b hb).2.2.2.1 with z|z
  ·exact I.ok.noex b o e z
  ·exact absurd (Xl (Xg e) (Ye I.ok.bsz z)) (Yp _)
 exfs:=λb hb hs=>by
  rcases aD (I.stkSub b hs)with z|z
  ·exact(hf b hb).2.1 z
  ·exact(hf b hb).2.2.1 z
 funs:=I.stack
 frf:=I.stkFree
theorem vzy(I:Inv X pins σ H s){a:Addr}(h:s.heap.objs.size<=a):a∉frs X.stack:=λz=>by
 rcases aD (I.stkSub a z)with e|e
 ·subst e;exact absurd (Xl I.lt h) (Yp _)
 ·exact I.nofs h e
theorem vx0 {scope:Scope} {N:List Str} {k:Nat} {R:List Nat} {cl:List (Str×Addr)} {C D:Addr} {fp:List Addr} {h1:Heap} {t:Nat} {m:Str->Option Value} {oD:Obj} (I:Inv X pins σ H s) (sc:LcOk X scope N k R)
  (hf:∀ b∈fp,v9 X pins H b) (ho:∀b∈fp,∃o,s.heap.get? b=some o)
  (hC:s.heap.objs.size<=C) (hD:s.heap.objs.size<=D) (oe:D≠C) (da:∀x c,cl.lookup x=some c->X.env.cells.lookup x=some c) (bf:∀y∈scope.names,y.2=.free->∃c,cl.lookup y.1=some c)
  (cx:∀ b o,s.heap.get? b=some o->h1.get? b=some o) (hn:h1.Ns C m) (eD:h1.get? D=some oD) (dD:∀v,oD.data≠.cell v):
  Inv (lcX X scope N cl C s H fp) [(D,oD)] (Jj k R σ) H { s with heap:=h1,toks:=t } where
 ok:=wq1 I sc hf ho hC da bf
 os:=rfl
 bare:=I.bare
 base:=Un.kept cx
 loc:=⟨m,hn,λi x v e1 e2 vis=>by
  obtain⟨mX,hnX,hl⟩:=I.loc;unfold Jj at e2
  by_cases hi:i<k
  ·rw [Yb (by rw[Z0];exact hi),List.getElem?_replicate,X8 hi]at e2;cases e2
  ·have hk:k<=i:=Nat.le_of_not_lt hi;rw [Yo (by rw[Z0];exact hk),Z0,Xh]at e2;cases er:R[i - k]? with
   | none=>rw[er]at e2;cases e2
   | some j=>
    rw [er]at e2;have ej:(σ[j]?).join=some v:=by simpa using e2
    have ej':σ[j]?=some (some v):=by
     cases q:σ[j]? with
     | none=>rw[q]at ej;cases ej
     | some z=>rw[q]at ej;cases z with| none=>cases ej| some z=>rw[show z=v by simpa using ej]
    obtain⟨o1,o2⟩:=sc.outs (i - k) j x er (by rw[show k+(i - k)=i by omega];exact e1);have cap:=sc.caps (x,.free) (Yw o2) rfl;have visX:Vis X.env.scope x:=cap.elim (λz=>.inr (.inl z)) λz=>.inr (.inr z)
    obtain⟨u,ru,q⟩:=hl j x v o1 ej' visX;refine⟨u,ru,?_⟩;rcases q with⟨q,_⟩|⟨_,c,ec,hc⟩
    ·rcases cap with z|z
     ·rw[z]at q;cases q
     ·rw[z]at q;cases q
    ·obtain⟨c',ec'⟩:=bf (x,.free) (Yw o2) rfl;have e:c'=c:=oq9 ((da x c' ec').symm.trans ec);subst e;refine .inr ⟨?_,c',ec',?_⟩
     ·rcases vis with z|z|z
      ·rcases jkh (env:=X.env) (names:=scope.names) z with y|⟨y,_⟩
       ·have y':=sc.names _ y rfl;rw[o2]at y';cases y'
       ·cases y
      ·exact .inl z
      ·exact .inr z
     ·obtain⟨o,h1,h2⟩:=hc;exact⟨o,cx _ _ h1,h2⟩⟩
 cell:=λx c h=>by
  obtain⟨v,o,h1,h2⟩:=I.cell x c (da x c h);exact⟨v,o,cx _ _ h1,h2⟩
 free:=I.hok.fresh hC
 freeC:=λx c h=>I.freeC x c (da x c h)
 pin:=λp hp=>by
  have e:p=(D,oD):=by
   have hp:p∈([]++[(D,oD)]:LA9):=hp
   simpa using hp
  subst e;exact⟨eD,I.hok.fresh hD,oe,vzy I hD,dD⟩
 hok:=I.hok.kept cx
 len:=by
  show(Jj k R σ).length=N.length;unfold Jj;rw[sc.len,Xd,Z0,X3]
theorem kjj{a:Addr}{o:HO}(I:Inv X pins σ H s)(hn:H a=none)(hL:a≠X.env.locals)(h1:a∈X.ex\/X.s₀.heap.objs.size<=a)(h2:∀x c,X.env.cells.lookup x=some c->c≠a)(h3:∀p∈X.pn++pins,p.1≠a)
  (new:ObjOk X.prog X.w (upd H a o) s.heap a o):Inv X pins σ (upd H a o) s:=by
 have hok:HOk X.prog X.w (upd H a o) s.heap:=λb u e=>by
  by_cases hb:b=a
  ·subst hb;rw[x3]at e;cases e;exact new
  ·rw[q5 hb]at e;exact(I.hok b u e).stay (λ_ _ _ q=>q) (λc q=>by rw[q5 (J9 q hn)];exact q) λc xs q=>by rw[q5 (J9 q hn)];exact q
 have na:∀b:Addr,b∉[a]->b≠a:=λb hb z=>hb (by rw[z];exact aB rfl)
 exact I.step (h':=s.heap) (H':=upd H a o) (g':=s.gens) (t':=s.toks) (d':=s.drawn) (ch:=[a])
  (λb hb=>by rw[aC hb];exact⟨h1,hL,h2,h3⟩) (λb o _ _ _ e _=>e) (λb o _ _ _ e _=>⟨o.slots,e⟩) (λb o hb _ q=>by rw[q5 (na b hb)];exact q)
  (λb o _ e=>⟨o,e⟩) (λb xs q=>by rw[q5 (J9 q hn)];exact q) (λb o u q=>by rw[q5 (J9 q hn)];exact q) (λb ps q=>⟨#[],by rw[q5 (J9 q hn),q];simp⟩)
  (λm hm=>hm) hok I.bare
end
def PTs(X:Cx)(cu:List Expr)(t:TT):Prop:=
 ∀(pins:LA9) (s:Shared) (σ:L2.St) (H:Hp) (Q:Bool->Hp->Prop),Inv X pins σ H s->t σ H Q->wpAny (model X.prog X.w) X.A (qwr cu X.env) (TP X pins σ Q) X.xe s
abbrev tYes:TT:=λ_ H Q=>Q true H
theorem vw0{X:Cx}:PTs X [] tYes:=λ_ _ _ H _ I h=>wpAny_tests_nil ⟨H,I,h⟩
theorem vvz{X:Cx}{c:Expr}{t:TT}(hc:PT X c t):PTs X [c] t:=λpins s σ H Q I h=>wpAny_tests_one (hc pins s σ H Q I h)
noncomputable def LcW(g:TG)(tt:TT)(te:TE)(Q:VK)(J:It)(W:Nat->Nat->List V->L2.St->Hp->Prop):Prop:=∀i m ys σ H,W i m ys σ H ->
 (J.stop i H/\ys.length<=sizeLine/\∀p,H p=none->Q (.ref p) (upd H p (.lst ys))) \/
 (J.go i H/\∀x H1,J.yld i H x H1->g x σ H1 fun σ2 H2=>∃(Ny:VK) (Nn:Hp->Prop),(∀y H4,Ny y H4->ys.length<=sizeLine/\∃m',m'<m/\W (i+1) m' (ys++[y]) σ2 H4) /\
  (∀H4,Nn H4->∃m',m'<m/\W (i+1) m' ys σ2 H4)/\tt σ2 H2 λb H3=>if b=true then te σ2 H3 Ny else Nn H3)
abbrev tLC(wi:TI)(g:TG)(tt:TT)(te:TE)(k:Nat)(R:List Nat):TE:=fun σ H Q=>wi σ H λJ H1=>
 ∃W:Nat->Nat->List V->L2.St->Hp->Prop,(∃m,W 0 m [] (Jj k R σ) H1)/\LcW g tt te Q J W
abbrev W4(a8:List Value)(n:Nat):Obj:={ cls:=.type "list",data:=.seq a8.toArray n }
section
variable {X:Cx}
theorem op_mulI:OpR X (binaryOp .Mult) (rI IntMulOk λi j=>.int (i*j)):=opI λ_ _ _ _ _ _ _ hc q=>mul_int q hc
def wvn(_i j:Int):Prop:=0<j/\j.natAbs.log2<9000
theorem xx:OpR X (binaryOp .FloorDiv) (rI wvn λi j=>.int (i / j)):=opI λi j _ _ _ _ _ hc q=>by
 have h1:(0:Int)<j:=hc.1;exact floordiv_int ⋯ (by rw[Int.fdiv_eq_ediv_of_nonneg i ⋯];exact q) (.inl (PyProof.noPylong_of_log2 hc.2))
def kinds:List String:=["NoneType","bool","int","str","list","tuple","dict"]
def wqf(T U:String):Bool:=T==U||(T == "bool" && U == "int")
theorem kz6{K:Frag}{T U:String}(hT:T∈kinds)(hU:U∈kinds.tail):kitOne K (.type T) (.type U)=some (wqf T U):=by
 simp only[kinds,List.tail_cons,Y4,Xv,or_false]at hT hU;rcases hT with rfl|rfl|rfl|rfl|rfl|rfl|rfl<;>rcases hU with rfl|rfl|rfl|rfl|rfl|rfl<;>ac_rfl
def wzm(K:Frag):List V->Hp->VK->Prop:=λxs H Q=>∃x T U,xs=[x,.ty U]/\TyOf K H x (.type T)/\T∈kinds/\U∈kinds.tail/\Q (.bl (wqf T U)) H
theorem vk7:CallR X (.builtin "isinstance") (wzm X.K):=by
 intro pins s σ H xs us Q I r h;obtain⟨x,T,U,rfl,ty,hT,hU,q⟩:=h;obtain⟨u,w',rfl,r1,r2⟩:=qzl r;cases(show w'=Value.type U from r2);exact qwz I r1 ty (kz6 hT hU) λtk=>⟨.bl _,H,I.tok _,rfl,q⟩
theorem vqs:∀{bs:List Bool} {a8:List Value} {i:Nat} {v:Value},Vals (bs.map V.bl) a8->a8[i]?=some v->∃b,bs[i]?=some b/\v=.bool b
 |[],_,_,_,.nil,e=>by simp at e
 |b::bs,_,0,v,.cons r _,e=>by
  simp at e;subst e;exact⟨b,rfl,r⟩
 |b::bs,_,i+1,v,.cons _ t,e=>by
  obtain⟨b',e1,e2⟩:=vqs (i:=i) t (by simpa using e);exact⟨b',by simpa using e1,e2⟩
theorem kvp(bs:List Bool):((List.range bs.length).all λi=>(bs[i]?).getD true)=bs.all id:=by
 rw[Bool.eq_iff_iff,Z2,Z2];constructor
 ·intro h b hb;obtain⟨i,hi,e⟩:=Z7 hb;have:=h i (List.mem_range.mpr hi);rw[X1 hi,e]at this;exact this
 ·intro h i hi;have kl:=List.mem_range.mp hi;rw[X1 kl];exact h _ (Xw kl)
def wwq(K:Frag):List V->Hp->VK->Prop:=λxs H Q=>∃(p:Addr) (bs:List Bool),xs=[.ref p]/\SqL K H p (bs.map V.bl)/\Q (.bl (bs.all id)) H
theorem vk8(hc:X.calm=true):CallR X (.builtin "all") (wwq X.K):=by
 intro pins s σ H xs us Q I r h;obtain⟨p,bs,rfl,hq,q⟩:=h;obtain⟨u,rfl,ru⟩:=xq r;cases ru;obtain⟨a8,rv,pl,hz⟩:=I.list hq;have hl:=pl.isList;have cb:p<s.heap.objs.size:=by obtain⟨_,e,_⟩:=hl;exact Xg e
 have ab:bs.length=a8.length:=by rw[<-rv.length,X3]
 refine call_all_walk (wpAny_pyIter_list hl ?_);refine⟨s.heap.objs.size,[s.heap.objs.size,p],[s.heap.objs.size],a8.toArray.size,_,_,λi=>(bs[i]?).getD true,rfl,Walks.list (A:=X.A.in1) (I.ok.hd hc) _ p (Xk cb) a8.toArray,
  ⟨⟨_,Xa _ rfl,rfl,rfl⟩,hl.push _⟩,λi v s' Q' E' hP hQ=>?_,λh' tk hk=>?_⟩
 ·obtain⟨b,e,rfl⟩:=vqs rv (by simpa using hP);simp only[e,Option.getD_some]at hQ;exact wpAny_truthy_bool hQ
 ·have e:((List.range a8.toArray.size).all λi=>(bs[i]?).getD true)=bs.all id:=by
   rw[X7,<-ab];exact kvp bs
  rw[e];refine⟨.bl _,H,I.kept (t':=tk) (h':=h') λb o e=>hk b o (λz=>?_) (X2 _ e),rfl,q⟩;exact absurd (Xg e) (by rw[aC z];exact Yp _)
def Its(x:Str):It:=⟨λi _=>i<x.cps.size,λi H v H'=>H'=H/\∃c,x.cps[i]?=some c/\v=.str ⟨#[c]⟩,λi _=>i=x.cps.size⟩
theorem kzo{P:Program}{w:World}{K:Frag}{tg:Expr}{x:Str}{t:Tok}{it:Addr}{ty:String}
  (W:∀A':Around,A'.handled=none->Walks P w A' it [it] [it] x.cps.size (SignAt x) (λi h=>h.IsStrIter it ty x t i))
  (p8:∀(A:Around) (i:Nat) (s:Shared) (Q:VP9) (E:VP9),s.heap.IsStrIter it ty x t i->Q (.ref it) s->wpAny (model P w) A (pyIter (.ref it)) Q E s)
  (px:["enumerate","zip","dict_itemiterator","dict_reverseitemiterator","odict_iterator","itertools.zip_longest","itertools.pairwise"].contains ty=false):
  Turn P w K tg (Its x) [it] it (λi h=>h.IsStrIter it ty x t i) where
 mem:=by simp
 obj:=λi h st b hb=>by
  have e:b=it:=by simpa using hb
  subst e;obtain⟨o,e,c,d⟩:=st;exact⟨o,e,λv z=>by rw[d]at z;cases z⟩
 keep:=λi h h' st k=>by
  obtain⟨o,e,r⟩:=st;exact⟨o,k it (by simp) o e,r⟩
 item:=by
  intro X hP hw hK hc i pins s σ H E I hf st hg;subst hP hw hK;obtain⟨f0,f1,f2,f3,f4,f5⟩:=hf it (by simp);refine(W X.A (I.ok.hd hc)).item i s _ _ hg st λv h' tk hv eh kk=>?_
  obtain⟨c,u,i6,rfl⟩:=hv;have I1:Inv X pins σ H { s with heap:=h',toks:=tk }:=I.turned (λb o hb e=>kk b o (by simpa using hb) e) f0 f1 f3 f4 f5;obtain⟨o,e,c1,d⟩:=id eh;exact⟨_,rfl,vjx (s:={ s with heap:=h',toks:=tk }) e c1 d px ⟨.str ⟨#[c]⟩,H,I1,⟨u,rfl⟩,⟨rfl,c,i6,rfl⟩,eh,λb hb=>(hf b hb).1⟩⟩
 done:=by
  intro X hP hw hK hc i pins s σ H E I hf st hg;subst hP hw hK;obtain⟨f0,f1,f2,f3,f4,f5⟩:=hf it (by simp);have md:i=x.cps.size:=hg;subst md;exact(W X.A (I.ok.hd hc)).done s _ _ st λh' tk kk=>⟨rfl,I.turned (λb o hb e=>kk b o (by simpa using hb) e) f0 f1 f3 f4 f5⟩
 self:=λA i s Q E st hQ=>p8 A i s Q E st hQ
def wzf:V->Option Int->Option Int->Hp->VK->Prop:=λx lo hi H Q=>∃z,x=.str z/\z.length<=sizeLine/\Q (.str (Txt.slice z lo hi)) H
theorem wj0:SlR X wzf:=by
 intro pins s σ H x v vl vu lo hi sl Q I rx hs pl pu h;obtain⟨z,rfl,hz,q⟩:=h;obtain⟨t,rfl⟩:=rx;refine⟨"str",_,F.slot_str_getitem.lookup,typeIs_str _ _ _,?_⟩;have fin:∀(t':Tok) (k:Nat),EP X pins σ Q (.str (Txt.slice z lo hi) t') { s with toks:=k }:=λt' k=>⟨.str _,H,I.tok k,⟨t',rfl⟩,q⟩
 have ff:(Txt.slice z lo hi).length<=sizeLine:=Ye (Txt.slice_le z _ _) hz;cases pl with
 |none=>cases pu with|none=>exact wpAny_getItem_str_slice (l:=none) (u:=none) (st:=none) hs rfl (post_val_or_str ⟨ff,fin⟩)|int j tj=>exact wpAny_getItem_str_slice (l:=none) (u:=some (j,tj)) (st:=none) hs rfl (post_val_or_str ⟨ff,fin⟩)
 |int i ti=>cases pu with|none=>exact wpAny_getItem_str_slice (l:=some (i,ti)) (u:=none) (st:=none) hs rfl (post_val_or_str ⟨ff,fin⟩)|int j tj=>exact wpAny_getItem_str_slice (l:=some (i,ti)) (u:=some (j,tj)) (st:=none) hs rfl (post_val_or_str ⟨ff,fin⟩)
def wjc:R2:=λx y H Q=>∃z n,x=.str z/\y=.int n/\(z.length<=1024/\n<=1024/\-1024<=n)/\Q (.str (Txt.mul z n)) H
theorem vwl:OpR X (binaryOp .Mult) wjc:=by
 intro pins s σ H x y v u Q I rx ry h;obtain⟨z,n,rfl,rfl,⟨h1,h2,h3⟩,q⟩:=h;obtain⟨t,rfl⟩:=rx;obtain⟨t',rfl⟩:=ry;exact SB.mul (mulOk_of 1024 1024 h1 h2 ⋯ ⋯ ⋯) λt' k=>⟨.str _,H,I.tok k,⟨t',rfl⟩,q⟩
theorem kzs:∀{ys:List Str} {a8:List Value},Vals (ys.map V.str) a8->StrsAre a8 ys
 |[],_,.nil=>.nil|_::_,_,.cons ⟨t,e⟩ r=>by subst e;exact .cons _ t (kzs r)
def wwo(K:Frag):V->List V->Hp->VK->Prop:=λx vs H Q=>∃z p ys,x=.str z/\vs=[.ref p]/\SqL K H p (ys.map V.str)/\(ys.map (·.length)).sum+ys.length*z.length<=16777216/\Q (.str (Txt.join z ys)) H
theorem vwt:MtR X "str.join" (wwo X.K):=by
 intro pins s σ H x xs v us Q I rx rv h;obtain⟨z,p,ys,rfl,rfl,hq,hok,q⟩:=h;obtain⟨t,rfl⟩:=rx;obtain⟨u,rfl,ru⟩:=rv.one;cases ru;obtain⟨a8,rs,pl,hz⟩:=I.list hq;exact join_list pl.isList (kzs rs) hok λt' k=>⟨.str _,H,I.tok k,⟨t',rfl⟩,q⟩
def vkr(K:Frag):V->Option Int->Option Int->Hp->VK->Prop:=λx lo hi H Q=>wzg K x lo hi H Q\/wze K x lo hi H Q\/wzf x lo hi H Q
theorem wwi(K:Frag)(hK:autoParam (X.K=K) Ŕ):SlR X (vkr K):=by subst hK;exact sl_list.or (sl_tup.or wj0)
def qvc(K:Frag):List V->Hp->VK->Prop:=λxs H Q=>(∃p ys,xs=[.ref p]/\(SqL K H p ys\/SqT K H p ys)/\Q (.int ys.length) H)\/(∃z,xs=[.str z]/\z.length<=sizeLine/\Q (.int z.length) H)\/(∃a kvs,xs=[V.ref a]/\H a=some (.dK kvs)/\Q (.int kvs.length) H)
theorem vxw(K:Frag)(hK:autoParam (X.K=K) Ŕ):CallR X (.builtin "len") (qvc K):=by subst hK;exact call_len_seq.or (call_len_str.or qxw)
theorem qz0:CallR X (.type "int") (λxs H Q=>(∃i,xs=[.int i]/\Q (.int i) H)\/∃k,xs=[.bl k]/\Q (.int (if k then 1 else 0)) H):=qxy
theorem vxx(K:Frag)(hK:autoParam (X.K=K) Ŕ)(hc:autoParam (X.calm=true) Ŕ):CallR X (.builtin "all") (wwq K):=by subst hK;exact vk8 hc
theorem vqa(K:Frag){o e:Expr}{es:List Expr}{T:String}{name:Str}{id:String}{r:V->List V->Hp->VK->Prop}{to:TE}{t:TA}{bb ai:Pos}
  (pa:PlainAttrs T) (slot:Slot T name id) (px:typeOf (.builtin id)=pure (.type "method_descriptor")) (hm:MtR X id r) (ho:PE X o to) (ha:PA X (e::es) t)
  (ce:autoParam (attributeBase o name X.env (eval o X.env)=eval o X.env) Ŕ)
  (dy:autoParam (((backTo ai (starEach (e::es) X.env)).all (λx=>!x.1)&&(backToKw ai (keywordEach [] X.env)).all (λx=>x.1.isSome)
   && decide ((e::es).length+([]:List Keyword).length+(if([]:List Keyword).isEmpty then 0 else 1)<30))=true) Ŕ)
  (ck:autoParam ((bb.endLine==ai.line)=true) Ŕ) (hs:autoParam (starEach (e::es) X.env=(false,eval e X.env)::starEach es X.env) Ŕ) (bd:autoParam ((backTo ai (starEach es X.env)).any (·.1)=false) Ŕ) (hK:autoParam (X.K=K) Ŕ):
  PE X (.Call (.Attribute o name bb) (e::es) [] ai) (tBM K T r to t):=by subst hK;exact wki pa slot px hm ho ha ce dy ck hs bd
theorem wv8:bootBuiltins "len"=some (.builtin "len"):=by decide +kernel
theorem kv3:bootBuiltins "isinstance"=some (.builtin "isinstance"):=by decide +kernel
theorem wv9:bootBuiltins "all"=some (.builtin "all"):=by decide +kernel
theorem wv7:bootBuiltins "min"=some (.builtin "min"):=by decide +kernel
theorem vqr:bootBuiltins "int"=some (.type "int"):=by decide +kernel
theorem vz0:bootBuiltins "bool"=some (.type "bool"):=by decide +kernel
theorem Ww:bootBuiltins "list"=some (.type "list"):=by decide +kernel
theorem vkc:bootBuiltins "tuple"=some (.type "tuple"):=by decide +kernel
theorem vxz:bootBuiltins "dict"=some (.type "dict"):=by decide +kernel
end
def Cst(mg:Str->Option Value)(x:Str)(v:V):Prop:=∃u,mg x=some u/\RelV v u
section
variable {X:Cx}{x:Str}{p pos:Pos}{e:Expr}{es:List Expr}{t:TA}{ps:List Str}{sp:Sp}{k:Nat}{v:V}
theorem V3(c:Cst X.mg x v)(hg:autoParam (Gl X x) Ŕ)(hd:autoParam ((x==("__debug__":Str))=false) ŕ):PE X (.Name x pos) (tC v):=by
 obtain⟨u,m,r⟩:=c;exact vwd hg m r hd
end
theorem qk0:∀{ns:List Int} {m:Nat},PySem.W.WData.weightAll (ns.map PySem.W.WData.int)<=m->∀n∈ns,Builtin.Int.intBits n<=m
 | [],_,_,_,h=>nomatch h
 | a::r,m,h,n,hn=>by
  have h':(if a==0 then 0 else a.natAbs.log2+1)+1+PySem.W.WData.weightAll (r.map PySem.W.WData.int)<=m:=h;rcases aD hn with z|z
  ·subst z;have e:Builtin.Int.intBits n=(if n==0 then 0 else n.natAbs.log2+1):=rfl;rw[e];omega
  ·exact qk0 (m:=m) ⋯ n z
theorem kzi{ns:List Int}(h:PySem.W.WData.layableAll [PySem.W.WData.list (ns.map PySem.W.WData.int)]=true):∀n∈ns,Builtin.Int.intBits n<=1048576:=by
 have h1:(PySem.W.WData.list (ns.map PySem.W.WData.int)).layable=true:=(PySem.W.layW_cons h).1;unfold PySem.W.WData.layable at h1;simp only[Bool.and_eq_true,decide_eq_true_eq]at h1;have h2:PySem.W.WData.weightAll (ns.map PySem.W.WData.int)<=2 ^ 20:=h1.2;exact qk0 (by simpa using h2)
section
variable {X:Cx}{pins:LA9}{σ:L2.St}{H:Hp}{s:Shared}
theorem in1_units(A:Around):A.in1.units<=A.units+1:=by
 first|exact Xb _|(show A.units+1<=A.units+1;exact Xb _)|(unfold Around.in1;simp)
end
section
variable {X:Cx}
def qvb(K:Frag):List V->Hp->VK->Prop:=λxs H Q=>∃p ys,xs=[.ref p]/\(SqL K H p ys\/SqT K H p ys)/\∀l,H l=none->Q (.ref l) (upd H l (.lst ys))
theorem jzw(K:Frag)(hK:autoParam (X.K=K) Ŕ):CallR X (.type "list") (qvb K):=by subst hK;exact kx3
end
section
variable {X:Cx}{pins:LA9}{σ:L2.St}{H:Hp}{s:Shared}
theorem jwt{t':Nat}{h':Heap}(fp:List Addr)(I:Inv X pins σ H s)(k:∀b o,b∉fp->s.heap.get? b=some o->h'.get? b=some o)(hf:∀b∈fp,v9 X pins H b):Inv X pins σ H { s with heap:=h',toks:=t' }:=by
 have qd:∀b u,H b=some u->b∉fp:=λb u e z=>by rw[(hf b z).1]at e;cases e
 refine I.step (g':=s.gens) (d':=s.drawn) (ch:=fp) (λb hb=>?_) (λb o _ _ hc e _=>k b o hc e) (λb o _ _ hc e _=>⟨o.slots,k b o hc e⟩) (λ_ _ _ _ n=>n)
  (λb o hc e=>⟨o,k b o hc e⟩) (λ_ _ e=>e) (λ_ _ _ e=>e) (λb ps e=>⟨#[],by rw[e];simp⟩) (λm hm=>?_) (λb u e=>?_) I.bare
 ·obtain⟨_,f1,_,f3,f4,f5⟩:=hf b hb;exact⟨f3,f1,f4,f5⟩
 ·obtain⟨o,es,ep,ho,r⟩:=hm;exact⟨o,es,ep,k _ o (λz=>(hf _ z).2.1 rfl) ho,r⟩
 ·refine(I.hok b u e).stay (λc v hc q=>k c v ?_ q) (λ_ q=>q) λ_ _ q=>q
  rcases hc with z|z
  ·rw[z];exact qd b u e
  ·exact qd c _ z
end
section
variable {X:Cx}
def qvd:List V->Hp->VK->Prop:=λxs H Q=>(∃i,xs=[.int i]/\Q (.int i) H)\/(∃k,xs=[.bl k]/\Q (.int (if k then 1 else 0)) H)\/∃(x:Str) (n:Int),xs=[.str x]/\PySem.intText? x=some n/\x.length<=640/\Q (.int n) H
theorem kx4:CallR X (.type "int") qvd:=by
 intro pins s σ H xs us Q I r h;rcases h with h|h|⟨x,n,rfl,hx,hl,q⟩
 ·exact qz0 pins s σ H xs us Q I r (.inl h)
 ·exact qz0 pins s σ H xs us Q I r (.inr h)
 ·obtain⟨u,rfl,t,rfl⟩:=xq r;exact PySem.W.KIN.call_text hx hl ⟨.int n,H,I.tok _,⟨_,rfl⟩,q⟩
end
end L3
namespace L2
open PySem PySem.Spec PyProof.Rows
section
variable {X:Cx}{pins:LA9}{σ:List (Option V)}{H H':Hp}{s:Shared}{h':Heap}
theorem Inv.stepN{g':Array GenState}{t':Nat}{d':Drawn}{ch:List Addr}(I:Inv X pins σ H s)
  (dw:∀b∈ch,(b∈X.ex\/X.s₀.heap.get? b=none)/\b≠X.env.locals/\(∀x c,X.env.cells.lookup x=some c->c≠b)/\∀p∈X.pn++pins,p.1≠b)
  (keep:∀b o,b≠X.env.locals->b∉X.fs->b∉ch->s.heap.get? b=some o->H b=none->h'.get? b=some o)
  (slot:∀b o,b≠X.env.locals->b∈X.fs->b∉ch->s.heap.get? b=some o->H b=none->∃sl,h'.get? b=some { o with slots:=sl }) (free:∀b o,b∉ch->s.heap.get? b=some o->H b=none->H' b=none)
  (there:∀b o,b∉ch->s.heap.get? b=some o->∃o',h'.get? b=some o')
  (tups:∀b xs,H b=some (.tup xs)->H' b=some (.tup xs)) (frzs:∀b o u,H b=some (.frz o u)->H' b=some (.frz o u)) (tbls:∀b ps,H b=some (.tbl ps)->∃more,H' b=some (.tbl (ps++more)))
  (ns:∀m,s.heap.Ns X.env.locals m->h'.Ns X.env.locals m) (hok:HOk X.prog X.w H' h') (hg:AllBare g'):
  Inv X pins σ H' { s with heap:=h',gens:=g',drawn:=d',toks:=t' }:=by
 have om:∀b o,X.s₀.heap.get? b=some o->b≠X.env.locals:=λb o e=>Xk (Xl (Xg e) I.ok.above)
 have ku:∀b o,X.s₀.heap.get? b=some o->b∉X.ex->b∉ch:=λb o e hx hb=>by
  rcases(dw b hb).1 with z|z
  ·exact hx z
  ·rw[z]at e;cases e
 have fw:∀x c,X.env.cells.lookup x=some c->∀v,s.heap.IsCell c v->h'.IsCell c v:=λx c e v ⟨o,ho,hd⟩=>by
  have jd:c∉ch:=λz=>(dw c z).2.2.1 x c e rfl
  by_cases hc:c∈X.fs
  ·obtain⟨sl,q⟩:=slot c o (I.cne x c e) hc jd ho (I.freeC x c e);exact⟨_,q,hd⟩
  ·exact⟨o,keep c o (I.cne x c e) hc jd ho (I.freeC x c e),hd⟩
 refine⟨I.ok,I.os,hg,⟨λb o e n hb hx=>?_,λb o e n hb hx=>?_,λb o e n hx=>?_,λb o e hx=>?_,λb xs e=>tups b xs (I.base.tups b xs e),λb o xs e=>frzs b o xs (I.base.frzs b o xs e),λb ps e=>?_⟩,?_,λx c e=>?_,?_,λx c e=>?_,λp hp=>?_,hok,I.len⟩
 ·exact keep b o (om b o e) hb (ku b o e hx) (I.base.keep b o e n hb hx) (I.base.free b o e n hx)
 ·obtain⟨sl,e1⟩:=I.base.slot b o e n hb hx;obtain⟨sl',e2⟩:=slot b _ (om b o e) hb (ku b o e hx) e1 (I.base.free b o e n hx);exact⟨sl',e2⟩
 ·obtain⟨o',e1⟩:=I.base.there b o e hx;exact free b o' (ku b o e hx) e1 (I.base.free b o e n hx)
 ·obtain⟨o',e1⟩:=I.base.there b o e hx;exact there b o' (ku b o e hx) e1
 ·obtain⟨m1,e1⟩:=I.base.tbls b ps e;obtain⟨m2,e2⟩:=tbls b _ e1;exact⟨m1++m2,by rw[e2,Array.append_assoc]⟩
 ·obtain⟨m,hn,hl⟩:=I.loc;refine⟨m,ns m hn,λi x v e1 e2 e3=>?_⟩;obtain⟨u,r,l⟩:=hl i x v e1 e2 e3;refine⟨u,r,?_⟩;rcases l with l|⟨k,c,e,z⟩
  ·exact .inl l
  ·exact .inr ⟨k,c,e,fw x c e _ z⟩
 ·obtain⟨v,z⟩:=I.cell x c e;exact⟨v,fw x c e v z⟩
 ·obtain⟨m,⟨o,_,_,ho,_⟩,_⟩:=I.loc;exact free _ o (λz=>(dw _ z).2.1 rfl) ho I.free
 ·obtain⟨v,o,ho,hd⟩:=I.cell x c e;exact free c o (λz=>(dw c z).2.2.1 x c e rfl) ho (I.freeC x c e)
 ·obtain⟨e,n,ne,nf,d⟩:=I.pin p hp;have jd:p.1∉ch:=λz=>(dw p.1 z).2.2.2 p hp rfl
  exact⟨keep p.1 p.2 ne nf jd e n,free p.1 p.2 jd e n,ne,nf,d⟩
theorem Inv.callN{g':Array GenState}{t':Nat}{d':Drawn}{ch:List Addr}(I:Inv X pins σ H s)(u:Un (frs X.stack) ch H H' s.heap h')(hok:HOk X.prog X.w H' h')(hg:AllBare g')
  (dw:∀b∈ch,(b∈X.ex\/X.s₀.heap.get? b=none)/\b≠X.env.locals/\(∀x c,X.env.cells.lookup x=some c->c≠b)/\∀p∈X.pn++pins,p.1≠b):
  Inv X pins σ H' { s with heap:=h',gens:=g',drawn:=d',toks:=t' }:=by
 obtain⟨m,⟨o,es,ep,ho,r⟩,_⟩:=id I.loc;obtain⟨sl,hL⟩:=u.any ho I.free λz=>(dw _ z).2.1 rfl
 exact I.stepN (ch:=ch) dw (λb o hL hb hc e n=>u.keep b o e n (λz=>(aD (I.stkSub b z)).elim hL hb) hc) (λb o _ _ hc e n=>u.any e n hc) (λb o hc e n=>u.free b o e n hc) (λb o hc e=>u.there b o e hc) u.tups u.frzs u.tbls (λm' hm=>by
  obtain⟨o',es',ep',ik,r'⟩:=hm;rw[ho]at ik;cases ik;exact⟨_,es',ep',hL,r'⟩) hok hg
end
end L2
namespace L3
open PySem PySem.Spec PyProof.Rows L2
theorem kjf{e:Value}{env env0:Env}(h:env.frame=env0.frame):noteFrame e env=noteFrame e env0:=by
 unfold noteFrame PySem.frameOf;rw[h]
structure Fl0 (h:Heap)(x:Addr)(C:Value)(vs:Array Value):Prop where
 ob:h.get? x=some { cls:=C,data:=.fields vs }
 sz:1<vs.size
structure FlT (h:Heap)(x T:Addr)(C:Value)(fl:Value):Prop where
 ex:∃vs,h.get? x=some { cls:=C,data:=.fields vs }/\vs[1]?=some (.ref T)
 tb:∃oT ts,h.get? T=some oT/\oT.data=.fields ts/\ts[3]?=some fl
 ne:T≠x
structure Chg (fs ch:List Addr)(h h':Heap):Prop where
 keep:∀b o,h.get? b=some o->b∉fs->b∉ch->h'.get? b=some o
 slot:∀b o,h.get? b=some o->b∉ch->∃sl,h'.get? b=some { cls:=o.cls,dict:=o.dict,data:=o.data,slots:=sl }
 size:h.objs.size<=h'.objs.size
theorem Chg.trans{fs ch ch':List Addr}{h h1 h2:Heap}(a:Chg fs ch h h1)(b:Chg fs ch' h1 h2)(hc:∀x∈ch',x∈ch\/h.get? x=none):Chg fs ch h h2 where
 keep:=λx o e h1 h2=>b.keep x o (a.keep x o e h1 h2) h1 λz=>(hc x z).elim h2 λq=>by rw[q]at e;cases e
 slot:=λx o e hn=>by
  obtain⟨sl,e1⟩:=a.slot x o e hn;obtain⟨lc,e2⟩:=b.slot x _ e1 λz=>(hc x z).elim hn λq=>by rw[q]at e;cases e
  exact⟨lc,e2⟩
 size:=Ye a.size b.size
theorem Chg.mono{fs ch ch':List Addr}{h h1:Heap}(a:Chg fs ch h h1)(hc:∀x∈ch,x∈ch'):Chg fs ch' h h1:=⟨λb o e h1 h2=>a.keep b o e h1 λz=>h2 (hc b z),λb o e h2=>a.slot b o e λz=>h2 (hc b z),a.size⟩
theorem Chg.of_upd{fs : List Addr}{h : Heap}{a : Addr}{f : Obj -> Obj}: Chg fs [a] h (h.update a f):=
  ⟨λb o e _ hn=>by rw[Z8 _ _ _ _ (λz=>hn (aB z))]; exact e,
   λb o e hn=>⟨o.slots, by rw[Z8 _ _ _ _ (λz=>hn (aB z))]; exact e⟩, by rw[Heap.size_update]; exact Xb _⟩
theorem Chg.of_push{fs:List Addr}{h:Heap}{o:Obj}:Chg fs [] h (h.push o):=
 ⟨λb o e _ _=>X2 _ e,λb o e _=>⟨o.slots,X2 _ e⟩,by rw[Zn];omega⟩
theorem Chg.of_slots{fs:List Addr}{h h':Heap}(s:Heap.SlotsOnly fs h h'):Chg fs [] h h':=
 ⟨λb o e hn _=>(s.2.1 b hn).trans e,λb o e _=>s.2.2 b o e,by rw[s.1];exact Xb _⟩
theorem Chg.refl{fs ch:List Addr}{h:Heap}:Chg fs ch h h:=⟨λ_ _ e _ _=>e,λb o e _=>⟨o.slots,e⟩,Xb _⟩
section
variable {M:Model}{A:Around}{E:VP9}{s:Shared}{base:Heap}{env:Env}{outer:List Env}{L x T:Addr}{C fl:Value}
theorem kwx{head:Value}{hadNext:Bool}{vs:Array Value}{Q:Unit->Shared->Prop}(hA:A.frames=some (env::outer))(hF:s.heap.FunFrames base (env::outer))(hL:env.frame=some L)(ho:Fl0 s.heap x C vs)
  (h:∀h' T',Chg (frs (env::outer)) [x] s.heap h'->s.heap.objs.size<=T'->FlT h' x T' C (rawInt ↑L)->Q () { s with heap:=h' }):
  wpAny M A (do
   let a <-PySem.frameOf env
   let pl <-entryPlaceOf L hadNext
   let b <-EntryCells.newEntry head a Value.none (rawInt ↑L) Value.none pl
   setField (Value.ref x) 1 b) Q E s:=by
 refine X0 (wpAny_frameOf_fun hA hF hL λh1 s1=>?_);have hx:x∉frs (env::outer):=λz=>by
  obtain⟨_,o,e,hn⟩:=hF.mem z;rw[ho.ob]at e;cases e;exact hn _ rfl
 have o1:h1.get? x=some { cls:=C,data:=.fields vs }:=(s1.2.1 x hx).trans ho.ob;have fin:∀pl:List Value,IsPlace pl->wpAny M A (do
   let b <-EntryCells.newEntry head (Value.ref L) Value.none (rawInt ↑L) Value.none pl
   setField (Value.ref x) 1 b) Q E { s with heap:=h1 }:=λpl bh=>by
  refine X0 ?_;unfold EntryCells.newEntry newFields;have har:([head,Value.ref L,Value.none,rawInt ↑L,Value.none]++if pl.isEmpty=true then List.replicate 6 Value.none else pl).toArray[3]?=some (rawInt ↑L):=by simp
  have hsz:([head,Value.ref L,Value.none,rawInt ↑L,Value.none]++if pl.isEmpty=true then List.replicate 6 Value.none else pl).toArray.size<=sizeLine+2:=by
   rcases bh with rfl|⟨_,_,_,_,_,_,_,rfl⟩<;>simp<;>decide
  generalize ([head,Value.ref L,Value.none,rawInt ↑L,Value.none]++if pl.isEmpty=true then List.replicate 6 Value.none else pl).toArray=ar at har hsz;refine Xz ?_ hsz;have o2:(h1.push { cls:=.type "traceback",data:=.fields ar }).get? x=some { cls:=C,data:=.fields vs }:=X2 _ o1;refine Ys (s:={ s with heap:=h1.push _ }) o2 rfl ho.sz ?_;have b8:h1.objs.size≠x:=λe=>absurd (Xg o1) (by rw[<-e];exact Yp _)
  have o3:((h1.push { cls:=.type "traceback",data:=.fields ar }).update x (Obj.mapFields λy=>y.setIfInBounds 1 (.ref h1.objs.size))).get? h1.objs.size=some { cls:=.type "traceback",data:=.fields ar }:=by
   rw[Z8 _ _ _ _ b8];exact Xa _ rfl
  refine h _ h1.objs.size (((Chg.of_slots s1).mono (λ_ z=>nomatch z)).trans ((Chg.of_push.mono λ_ z=>nomatch z).trans (ch:=[x]) Chg.of_upd λy hy=>.inl hy) λy hy=>.inl hy) (by rw[s1.1];exact Xb _) ⟨⟨vs.setIfInBounds 1 (.ref h1.objs.size),?_,Array.getElem?_setIfInBounds_self_of_lt ho.sz⟩,⟨_,_,o3,rfl,har⟩,b8⟩;exact Y1 _ o2 rfl
 exact X0 (wpAny_entryPlaceOf λpl bh=>fin pl bh)
theorem wxg{vs:Array Value}{Q:Unit->Shared->Prop}(hA:A.frames=some (env::outer))(hF:s.heap.FunFrames base (env::outer))(hL:env.frame=some L)(ho:Fl0 s.heap x C vs)(hv:vs[1]?=some .none)
  (h:∀h' T',Chg (frs (env::outer)) [x] s.heap h'->s.heap.objs.size<=T'->FlT h' x T' C (rawInt ↑L)->Q () { s with heap:=h' }):wpAny M A (noteFrame (.ref x) env) Q E s:=by
 unfold noteFrame;rw[hL];refine X0 (Yx ho.ob rfl hv ?_);exact kwx (hadNext:=false) hA hF hL ho h
theorem upd3{T:Addr}{oT:Obj}{ts:Array Value}{v:Value}{h:Heap}(e:h.get? T=some oT)(ed:oT.data=.fields ts)(h3:3<ts.size):
  ∃o' ts',(h.update T (Obj.mapFields λy=>y.setIfInBounds 3 v)).get? T=some o'/\o'.data=.fields ts'/\ts'[3]?=some v:=by
 obtain⟨c,d,dt,sl⟩:=oT;cases(show dt=.fields ts from ed);exact⟨_,ts.setIfInBounds 3 v,Y1 _ e rfl,rfl,Array.getElem?_setIfInBounds_self_of_lt h3⟩
theorem wxf{Q:Unit->Shared->Prop}(hA:A.frames=some (env::outer))(hF:s.heap.FunFrames base (env::outer))(hL:env.frame=some L)(f:FlT s.heap x T C fl)
  (h:∀h' T',Chg (frs (env::outer)) [x,T] s.heap h'->(s.heap.objs.size<=T'\/T'=T)->FlT h' x T' C (rawInt ↑L)->Q () { s with heap:=h' }):wpAny M A (noteFrame (.ref x) env) Q E s:=by
 obtain⟨⟨vs,e1,v1⟩,⟨oT,ts,e2,d2,v2⟩,b8⟩:=f;have h3:3<ts.size:=by
  rw[Array.getElem?_eq_some_iff]at v2;exact v2.1
 have h1:1<vs.size:=by
  rw[Array.getElem?_eq_some_iff]at v1;exact v1.1
 unfold noteFrame;rw [hL];refine X0 (Yx e1 rfl v1 ?_);show wpAny M A (if((Value.ref T != Value.none)=true)then _ else _) Q E s;rw [X8 (show(Value.ref T != Value.none)=true from rfl)];refine X0 (Yx e2 d2 v2 ?_)
 by_cases hf:(fl==rawInt ↑L)=true
 ·rw[X8 hf];have e:fl=rawInt ↑L:=eq_of_beq hf;subst e;exact X5 (h s.heap T Chg.refl (.inr rfl) ⟨⟨vs,e1,v1⟩,⟨oT,ts,e2,d2,v2⟩,b8⟩)
 ·rw[Xf hf];refine X0 (Ys e2 d2 h3 ?_);have c1:Chg (frs (env::outer)) [x,T] s.heap (s.heap.update T (Obj.mapFields λy=>y.setIfInBounds 3 Value.none)):=Chg.of_upd.mono λy hy=>by
   rw[aC hy];simp
  have e1':(s.heap.update T (Obj.mapFields λy=>y.setIfInBounds 3 Value.none)).get? x=some { cls:=C,data:=.fields vs }:=by
   rw[Z8 _ _ _ _ b8.symm];exact e1
  have hF':(s.heap.update T (Obj.mapFields λy=>y.setIfInBounds 3 Value.none)).FunFrames base (env::outer):=by
   refine hF.of_keeps λb o e hn=>⟨o,?_,rfl⟩
   rw[Z8 _ _ _ _ λz=>?_]
   ·exact e
   ·rw[z,e2]at e;cases e;exact hn _ d2
  refine kwx (s:={ s with heap:=s.heap.update T _ }) (hadNext:=true) hA hF' hL ⟨e1',h1⟩ λh' T' c2 hs f'=>?_
  refine h h' T' (c1.trans (c2.mono (ch':=[x,T]) λy hy=>by rw[aC hy];simp) λy hy=>.inl hy) (.inl ?_) f';rw[Heap.size_update]at hs;exact hs
theorem wqr{Q:Unit->Shared->Prop}{fr:Option Addr}(f:FlT s.heap x T C fl)(h:∀h',Chg (frs outer) [x,T] s.heap h'->FlT h' x T C (fr.elim Value.none λf=>rawInt ↑f)->Q () { s with heap:=h' }):wpAny M A (setFlight (.ref x) fr) Q E s:=by
 obtain⟨⟨vs,e1,v1⟩,⟨oT,ts,e2,d2,v2⟩,b8⟩:=f;have h3:3<ts.size:=by
  rw[Array.getElem?_eq_some_iff]at v2;exact v2.1
 unfold setFlight;refine X0 (Yx e1 rfl v1 ?_);rw[X8 (show(Value.ref T != Value.none)=true from rfl)];refine Ys e2 d2 h3 (h _ (Chg.of_upd.mono λy hy=>by rw[aC hy];simp) ⟨⟨vs,?_,v1⟩,upd3 e2 d2 h3,b8⟩);rw[Z8 _ _ _ _ b8.symm];exact e1
end
structure XCls (K:Frag)(C:Addr):Prop where
 ga:findIn K (.ref C) "__getattribute__"=some (some (.builtin "BaseException.__getattribute__"))
 gt:findIn K (.ref C) "__getattr__"=some none
 fo:PySem.W.findObj K C none "__class__"=some (.bind (.builtin "getset_descriptor.__get__") (.builtin "object.__class__"))
 ob:PySem.W.mroIn K C (.type "object")=some true
 bx:PySem.W.mroIn K C (.type "BaseException")=some true
 cl:(PySem.W.clsIn K C).isSome=true
def FpX(X:Cx)(pins:LA9)(H:Hp)(b:Addr):Prop:=
 H b=none/\b≠X.env.locals/\b∉X.fs/\(b∈X.ex\/X.s₀.heap.get? b=none)/\(∀x c,X.env.cells.lookup x=some c->c≠b)/\∀p∈X.pn++pins,p.1≠b
section
variable {X:Cx}{pins:LA9}{σ:L2.St}{H:Hp}{s:Shared}
theorem fpX{H':Hp}{b:Addr}(I:Inv X pins σ H s)(hb:s.heap.get? b=none)(hn:H' b=none):FpX X pins H' b:=by
 refine⟨hn,λz=>?_,λz=>?_,?_,λx c e z=>?_,λp hp z=>?_⟩
 ·obtain⟨m,⟨o,_,_,ho,_⟩,_⟩:=I.loc;rw[<-z,hb]at ho;cases ho
 ·obtain⟨_,o,e,_⟩:=I.ok.funs.mem z
  by_cases hx:b∈X.ex
  ·exact I.ok.exfs b hx z
  ·obtain⟨o',e'⟩:=I.base.there b o e hx;rw[hb]at e';cases e'
 ·by_cases hx:b∈X.ex
  ·exact .inl hx
  ·cases e:X.s₀.heap.get? b with
   |none=>exact .inr rfl
   |some o=>
    obtain⟨o',e'⟩:=I.base.there b o e hx;rw[hb]at e';cases e'
 ·obtain⟨v,o,ho,_⟩:=I.cell x c e;rw[z,hb]at ho;cases ho
 ·have:=(I.pin p hp).1;rw[z,hb]at this;cases this
theorem FpX.of{b:Addr}(h:v9 X pins H b):FpX X pins H b:=⟨h.1,h.2.1,h.2.2.1,h.2.2.2.1.imp id λz=>Heap.get?_none_of_le z,h.2.2.2.2⟩
theorem kz8{h':Heap}{ch:List Addr}(I:Inv X pins σ H s)(c:Chg (frs X.stack) ch s.heap h')(hf:∀b∈ch,FpX X pins H b):Inv X pins σ H { s with heap:=h' }:=by
 refine I.callN (g':=s.gens) (t':=s.toks) (d':=s.drawn) (ch:=ch) ⟨λb o e _ h1 h2=>c.keep b o e h1 h2,λb o e _ _ h2=>c.slot b o e h2,λ_ _ _ n _=>n,λb o e h2=>?_,λ_ _ e=>e,λ_ _ _ e=>e,λ_ _ e=>⟨#[],by rw[e];simp⟩⟩ (λb u e=>?_) I.bare λb hb=>?_
 ·obtain⟨sl,q⟩:=c.slot b o e h2;exact⟨_,q⟩
 ·have no:∀d v,H d=some v->d∉frs X.stack/\d∉ch:=λd v e=>⟨λz=>(by rw[I.stkFree d z]at e;cases e),λz=>(by rw[(hf d z).1]at e;cases e)⟩
  refine(I.hok b u e).stay (λd v hc q=>?_) (λ_ q=>q) λ_ _ q=>q
  rcases hc with z|z
  ·rw[z]at q ⊢;exact c.keep b v q (no b u e).1 (no b u e).2
  ·exact c.keep d v q (no d _ z).1 (no d _ z).2
 ·obtain⟨_,f1,_,f3,f4,f5⟩:=hf b hb;exact⟨f3,f1,f4,f5⟩
end
structure Fx (X:Cx)(pins:LA9)(H:Hp)(h:Heap)(x:Addr)(C:Value):Prop where
 fp:FpX X pins H x
 st:(∃vs,Fl0 h x C vs/\vs[1]?=some .none)\/∃T fl,FlT h x T C fl/\FpX X pins H T
structure Xt (X:Cx)(pins:LA9)(σ:L2.St)(H:Hp)(x T:Addr)(C fl:Value)(s:Shared):Prop where
 inv:Inv X pins σ H s
 fx:FpX X pins H x
 fT:FpX X pins H T
 f:FlT s.heap x T C fl
theorem Xt.to{X:Cx}{pins:LA9}{σ:L2.St}{H:Hp}{x T:Addr}{C fl:Value}{s:Shared}(h:Xt X pins σ H x T C fl s):Fx X pins H s.heap x C:=⟨h.fx,.inr ⟨T,fl,h.f,h.fT⟩⟩
def Xo(X:Cx)(E:XK)(e:Value)(s:Shared):Prop:=∃pins σ H x C,e=.ref x/\Inv X pins σ H s/\Fx X pins H s.heap x C/\E C none H
def wY(X:Cx)(E:XK):Prop:=∀pins σ H s x C,Inv X pins σ H s->Fx X pins H s.heap x C->E C none H->X.xe (.ref x) s
abbrev Cx.ex'(X:Cx)(E:XK):Cx:=X.wish (Xo X E)
theorem zV{X:Cx}{E:XK}:wY (Cx.ex' X E) E:=λpins σ H s x C I f q=>⟨pins,σ,H,x,C,rfl,I.unwish,⟨f.fp,f.st⟩,q⟩
def zj(X:Cx):Prop:=∃env0 out,X.stack=env0::out/\X.env.frame=env0.frame
section
variable {X:Cx}{pins:LA9}{σ:L2.St}{H:Hp}{s:Shared}{M:Model}{E':VP9}{x T:Addr}{C fl:Value}
theorem qw8{A:Around}{Q:Unit->Shared->Prop}(top:zj X)(hA:A.frames=X.A.frames)(I:Inv X pins σ H s)(f:Fx X pins H s.heap x C)(h:∀L T s',X.env.frame=some L->Xt X pins σ H x T C (rawInt ↑L) s'->Q () s'):
  wpAny M A (noteFrame (.ref x) X.env) Q E' s:=by
 obtain⟨env0,out,e1,e2⟩:=top;have hF:=I.stack;have kf:A.frames=some (env0::out):=by rw[hA,I.ok.frames,e1]
 rw[e1]at hF;obtain⟨_,⟨L,o,hL,_⟩,_⟩:=id hF;rw[kjf e2];have pq:X.env.frame=some L:=e2.trans hL;rcases f.st with⟨vs,f0,hv⟩|⟨T,fl,fT,pT⟩
 ·refine wxg kf hF hL f0 hv λh' T' c hs lv=>h L T' _ pq ⟨?_,f.fp,fpX I (Heap.get?_none_of_le hs) (I.hok.fresh hs),lv⟩
  rw[<-e1]at c;exact kz8 I c λb hb=>by rw[aC hb];exact f.fp
 ·refine wxf kf hF hL fT λh' T' c hs lv=>?_
  rw[<-e1]at c;refine h L T' _ pq ⟨kz8 I c λb hb=>?_,f.fp,?_,lv⟩
  ·simp only[Y4,Xv,or_false]at hb;rcases hb with rfl|rfl
   ·exact f.fp
   ·exact pT
  ·rcases hs with hs|hs
   ·exact fpX I (Heap.get?_none_of_le hs) (I.hok.fresh hs)
   ·rw[hs];exact pT
theorem kqy{A:Around}{Q:Unit->Shared->Prop}{fr:Option Addr}(t:Xt X pins σ H x T C fl s)(h:∀s',Xt X pins σ H x T C (fr.elim Value.none λf=>rawInt ↑f) s'->Q () s'):wpAny M A (setFlight (.ref x) fr) Q E' s:=by
 refine wqr (outer:=X.stack) t.f λh' c lv=>h _ ⟨kz8 t.inv c λb hb=>?_,t.fx,t.fT,lv⟩
 simp only[Y4,Xv,or_false]at hb;rcases hb with rfl|rfl
 ·exact t.fx
 ·exact t.fT
theorem wkk{α:Type}{A:Around}{what:String}{ji:Env}{Q:α->Shared->Prop}(t:Xt X pins σ H x T C fl s)(h:∀s' lv,Xt X pins σ H x T C lv s'->E' (.ref x) s'):wpAny M A (PySem.passOn what (.ref x) ji:Sem α) Q E' s:=by
 unfold PySem.passOn;obtain⟨vs,e1,v1⟩:=t.f.ex;refine X0 (Yx e1 rfl v1 ?_);rw[Xf (show ¬(Value.ref T==Value.none)=true by intro z;cases z)];refine X0 (kqy t λs' t'=>?_);exact wpAny_throw (h s' _ t')
theorem qw2{E:XK}(top:zj X):PassesOwn M X.A X.env (Xo X E):=by
 rintro e s' ⟨pins,σ,H,x,C,rfl,I,f,q⟩;unfold notedBy;refine qw8 top rfl I f λL T s1 _ t=>?_
 unfold cameBackBy;obtain⟨vs,e1,v1⟩:=t.f.ex;refine X0 (Yx e1 rfl v1 ?_);rw[Xf (show ¬(Value.ref T==Value.none)=true by intro z;cases z)];exact kqy t λs2 t2=>⟨pins,σ,H,x,C,rfl,t2.inv,t2.to,q⟩
end
def CXE(P:Program)(w:World):CXT:=λouter H s E e s'=>∃x T C fl H',e=.ref x/\s'.os=s.os/\AllBare s'.gens/\Un (frs outer) [] H H' s.heap s'.heap/\HOk P w H' s'.heap /\
 s.heap.get? x=none/\s.heap.get? T=none/\H' x=none/\H' T=none/\FlT s'.heap x T C fl/\E C none H'
theorem wkl{X:Cx}{E:XK}(g:wY X E):qzh (CXE X.prog X.w) X E:=by
 rintro pins σ H s e s' I ⟨x,T,C,fl,H',rfl,os,bare,un,hok,hx,hT,nx,nT,f,q⟩;refine g pins σ H' s' x C (I.call' os un hok bare λb hb=>nomatch hb) ⟨fpX I hx nx,.inr ⟨T,fl,f,fpX I hT nT⟩⟩ q
theorem vv6{CX:CXT}{P:Program}{w:World}{K:Frag}{mg:Str->Option Value}{base:Heap}{N:List Str}{qual:Str}{scope:Scope}{f:Addr}{cd:Value}{A:Around}{outer:List Env}{s:Shared}{H:Hp}{E:XK}:
  zj (zW CX P w K mg base N qual scope f cd A outer s H E):=⟨_,_,rfl,rfl⟩
theorem kwc{P:Program}{w:World}{K:Frag}{mg:Str->Option Value}{base:Heap}{N:List Str}{qual:Str}{scope:Scope}{f:Addr}{cd:Value}{A:Around}{outer:List Env}{s:Shared}{H:Hp}{E:XK}{e:Value}{s':Shared}
  (h:Xo (zW (CXE P w) P w K mg base N qual scope f cd A outer s H E) E e s'):(zW (CXE P w) P w K mg base N qual scope f cd A outer s H E).xe e s':=by
 obtain⟨pins,σ,H',x,C,rfl,I,fx,q⟩:=h;show wpAny (model P w) _ (leaving _ (.ref x)) _ _ s';unfold leaving;refine X0 (qw8 (X:=zW (CXE P w) P w K mg base N qual scope f cd A outer s H E) vv6 rfl I fx λL T s1 _ t=>?_);refine kqy t λs2 t2=>?_
 have ge:∀b,FpX (zW (CXE P w) P w K mg base N qual scope f cd A outer s H E) pins H' b->s.heap.get? b=none:=λb hb=>hb.2.2.2.1.elim (λz=>nomatch z) λz=>z
 exact⟨x,T,C,_,H',rfl,t2.inv.os,t2.inv.bare,t2.inv.base,t2.inv.hok,ge x t2.fx,ge T t2.fT,t2.fx.1,t2.fT.1,t2.f,q⟩
section
variable {P:Program}{w:World}{K:Frag}{mg:Str->Option Value}{base:Heap}
theorem qx{x qual:Str}{st:Stmt}{f:Addr}{fd:FuncData}{N ps:List Str}{k:Nat}{sp:Sp}(F:Fun K x qual st f fd)(S:FnScope N ps (jX st))(len:∀vs H Q E,sp vs H Q E->vs.length=ps.length)
  (fv:∀(ax:Value) (A:Around) (outer:List Env) (s:Shared) (H:Hp) (vs:List V) (Q:VK) (E:XK),Room k (A.deeper (envOfC qual (jX st) s.heap.objs.size f ax))->sp vs H Q E ->
   ∃t,PSs (Cx.ex' (zW (CXE P w) P w K mg base N qual (jX st) f ax A outer s H E) E) (z5 st) t/\t { nx:=λ_ H'=>Q .non H',rt:=Q } (L2.start N vs) H):FnOk P w K mg base (CXE P w) (k+1) f fd ps sp:=by
 obtain⟨oc,od,kV,en,pm,an,ax,ct,je,rfl,lk,fm⟩:=F.ex;refine wqp lk fm S len λA outer s H vs Q E hr j'=>?_
 obtain⟨t,h,q⟩:=fv ax A outer s H vs Q E hr j';exact⟨t,λpins s' σ H' D I hw=>wpAny_mono (h pins s' σ H' D (I.wish _) hw) (λf ie z=>z.unwish) λe ie z=>kwc z,q⟩
def kK(P:Program)(w:World)(K:Frag)(mg:Str->Option Value)(base:Heap)(k:Nat)(x:Str)(ps:List Str)(sp:Sp):Prop:=
 ∃(f:Addr) (fd:FuncData),FnOk P w K mg base (CXE P w) k f fd ps sp/\Binds K fd ps []/\PySem.W.keepIn K (.ref f)=true/\mg x=some (.ref f)
end
section
variable {X:Cx}{x:Str}{p pos:Pos}{e:Expr}{es:List Expr}{t:TA}{ps:List Str}{sp:Sp}{k:Nat}{v:V}{E:XK}
theorem vq9(D:kK X.prog X.w X.K X.mg X.base k x ps sp)(hr:Room k X.A)(g:wY X E)(ha:PA X (e::es) t)(hg:autoParam (Gl X x) Ŕ)(dn:autoParam ((x==("__debug__":Str))=false) ŕ)
  (he:autoParam (starEach (e::es) X.env=(false,eval e X.env)::starEach es X.env) Ŕ) (bh:autoParam ((backTo pos (starEach es X.env)).any (·.1)=false) Ŕ):
  PE X (.Call (.Name x p) (e::es) [] pos) (vv8 sp [] E t):=by
 obtain⟨f,fd,F,b,kp,m⟩:=D;exact qvx F hr hg m kp b .nil (wkl g) ha dn he bh
end
abbrev lcE(X:Cx)(scope:Scope)(N:List Str)(cl:List (Str×Addr))(C:Addr)(s0:Shared)(H0:Hp)(fp:List Addr)(EX:XK):Cx:=Cx.ex' (lcX X scope N cl C s0 H0 fp) EX
section
variable {prog:Program}{w:World}{A:Around}{R:Result->Shared->Prop}{s:Shared}
theorem vx2{d9 dl ae:Expr}{cu:List Expr}{scope:Scope}{pos:Pos}{it aa:Value}{env:Env}(Ex:VP9)(I:Nat->Shared->Prop)
  (e6:∀n s,I n s->wpAny (model prog w) A (pyNext it) (λr s1=>match r with
   | none=>R (.ok .next) s1
   | some v=>wpAny (model prog w) A (letOwnedTupleGo dl it v) (λ_ s2=>wpAny (model prog w) A (assign dl env v) (λ_ s3=>
     wpAny (model prog w) A (qwr cu env) (λok s4=>
      if ok=true then
       wpAny (model prog w) A (eval d9 env) (λx s5=>wpAny (model prog w) A (call (.builtin "list.append") [aa,x]) (λ_ s6=>∃m,m<n/\I m s6) Ex s5) Ex s4
      else ∃m,m<n/\I m s4) Ex s3) Ex s2) Ex s1) Ex s)
  (hx:∀e s,Ex e s->notedBy (model prog w) A env (λe s'=>R (.error e) s') e s) (n:Nat) (h:I n s):codeAny (model prog w) A (.compLoop (.ListComp d9 [⟨dl,ae,cu,0⟩] scope pos) 0 it aa env) R s:=by
 refine codeAny_loop rfl I (λn s hI=>?_) n h;show wpAny _ A ((compTurn (.ListComp d9 [⟨dl,ae,cu,0⟩] scope pos) 0 it aa env).onRaise _) _ _ s;refine wpAny_noted ?_;rw[compTurn_list];refine wpAny_mono (E:=Ex) (X0 (wpAny_standAt (X0 (thn (e6 n s hI) λr s1 h1=>?_)))) (λ_ _ q=>q) (λe s q=>?_)
 rotate_left
 ·exact hx e s q
 cases r with
 |none=>exact X5 h1
 |some v=>
  refine X0 (thn h1 λ_ s2 h2=>?_);refine X0 (thn h2 λ_ s3 h3=>?_);refine X0 (thn h3 λok s4 h4=>?_);cases ok with|false=>exact X5 ⟨rfl,h4⟩|true=>exact X0 (X0 (thn h4 λx s5 h5=>X0 (thn h5 λ_ s6 h6=>X5 (X5 ⟨rfl,h6⟩))))
end
section
variable {X:Cx}{tg ae d9:Expr}{cu:List Expr}{scope:Scope}{N:List Str}{k:Nat}{R:List Nat}{g:TG}{tt:TT}{te:TE}{pos:Pos}
theorem vqf{EX:XK}{pins cj:LA9}{σ σ':L2.St}{H2 H':Hp}{s2 s':Shared}{fp:List Addr}{cl:List (Str×Addr)}{C x T:Addr}{Cc fl:Value}{Q:VP9}{aa:Value}{use:Option (Value->Sem Unit)}(gx:wY X EX)
  (I2:Inv X pins σ H2 s2) (f2:∀b∈fp,v9 X pins H2 b) (hC:s2.heap.objs.size<=C) (t:Xt (lcX X scope N cl C s2 H2 fp) cj σ' H' x T Cc fl s') (q:EX Cc none H'):
  compPost (model X.prog X.w) X.A X.xe use Q aa C (.error (.ref x)) s':=by
 obtain⟨m,hn,_⟩:=t.inv.loc;refine⟨m,hn,λh' sb ji _=>?_⟩;have J1:Inv X pins σ H' s':=I2.call' t.inv.os t.inv.base t.inv.hok t.inv.bare λb hb=>⟨(f2 b hb).2.2.2.1,(f2 b hb).2.1,(f2 b hb).2.2.2.2.1,(f2 b hb).2.2.2.2.2⟩
 have fC:v9 X pins H' C:=I2.fpOk hC t.inv.free;have J2:Inv X pins σ H' { s' with heap:=h',toks:=s'.toks }:=J1.turned (it:=C) (λb o hb e=>(sb.2 b hb).trans e) fC.1 fC.2.1 fC.2.2.2.1 fC.2.2.2.2.1 fC.2.2.2.2.2;have fp':∀b,FpX (lcX X scope N cl C s2 H2 fp) cj H' b->FpX X pins H' b:=λb hb=>by
  rcases hb.2.2.2.1 with z|z
  ·exact⟨hb.1,(FpX.of (f2 b z)).2⟩
  ·exact fpX I2 z hb.1
 have nx:x≠C:=t.fx.2.1;have nT:T≠C:=t.fT.2.1;have f:FlT h' x T Cc fl:=by
  obtain⟨⟨vs,e1,v1⟩,⟨oT,ts,e2,d2,v2⟩,b8⟩:=t.f;exact⟨⟨vs,(sb.2 x nx).trans e1,v1⟩,⟨oT,ts,(sb.2 T nT).trans e2,d2,v2⟩,b8⟩
 refine wkk (X:=X) (pins:=pins) (σ:=σ) (H:=H') (s:={ s' with heap:=h' }) ⟨J2,fp' x t.fx,fp' T t.fT,f⟩ λs3 lv t3=>gx pins σ H' s3 x Cc t3.inv t3.to q
theorem kwe{EX:XK}{pins:LA9}{σ:L2.St}{H2:Hp}{s2:Shared}{it:Addr}{fp:List Addr}{tn:Nat->Heap->Prop}{J:It}{Q:VK}{W:Nat->Nat->List V->L2.St->Hp->Prop}{cl:List (Str×Addr)}{E:VP9}
  {RR:Value->Addr->Result->Shared->Prop} (hc:X.calm=true) (top:zj X) (sc:LcOk X scope N k R)
  (da:∀x c,cl.lookup x=some c->X.env.cells.lookup x=some c) (bf:∀y∈scope.names,y.2=.free->∃c,cl.lookup y.1=some c)
  (hg:∀C s0 H0 fp,PG (lcE X scope N cl C s0 H0 fp EX) tg g) (ht:∀C s0 H0 fp,PTs (lcE X scope N cl C s0 H0 fp EX) cu tt) (he:∀C s0 H0 fp,PE (lcE X scope N cl C s0 H0 fp EX) d9 te)
  (I2:Inv X pins σ H2 s2) (T:Turn X.prog X.w X.K tg J fp it tn) (bg:tn 0 s2.heap) (f2:∀b∈fp,v9 X pins H2 b) (w0:∃m,W 0 m [] (Jj k R σ) H2) (e6:LcW g tt te Q J W)
  (hRR:∀D C oC m ys H' s',Inv X (pins++[(C,oC)]) σ (upd H' D (.lst ys)) s'->s'.heap.get? C=some oC->s'.heap.Ns C m->v9 X pins (upd H' D (.lst ys)) C->Q (.ref D) (upd H' D (.lst ys))->RR (.ref D) C (.ok .next) s')
  (hER:∀D C s' cj σ' H' x T Cc fl,s2.heap.objs.size<=C->Xt (lcX X scope N cl C s2 H2 fp) cj σ' H' x T Cc fl s'->EX Cc none H'->RR (.ref D) C (.error (.ref x)) s'):
  wpAny (model X.prog X.w) X.A (newList []) (λaa s3=>wpAny (model X.prog X.w) X.A (newFunctionEnv scope X.env.globals cl [] X.env.qual none .none (some X.env)) (λji s4=>
   codeAny (model X.prog X.w) X.A (.compStart (.ListComp d9 [⟨tg,ae,cu,0⟩] scope pos) 0 (.ref it) aa { ji with scope:=relabel scope X.env }) (RR aa ji.locals) s4) E s3) E s2:=by
 have qc:∀b∈fp,∃o,s2.heap.get? b=some o:=λb hb=>let ⟨o,e,_⟩:=T.obj 0 _ bg b hb;⟨o,e⟩
 refine Xz (wpAny_newFunctionEnv sc.nocell (by intro y hy;simp at hy) (λh1 nr qr=>?_) sc.kind);dsimp only at nr qr ⊢;generalize eH:s2.heap.push { cls:=.type "list",dict:=none,data:=.seq ([]:List Value).toArray }=Hx at nr qr ⊢;have eC:Hx.objs.size=s2.heap.objs.size+1:=by rw[<-eH,Zn]
 generalize eD:s2.heap.objs.size=D at eC;generalize eC':Hx.objs.size=C at nr qr eC ⊢;have oe:D≠C:=⋯
 have hC:s2.heap.objs.size<=C:=⋯
 have hD:s2.heap.objs.size<=D:=⋯
 have cx:∀b o,s2.heap.get? b=some o->h1.get? b=some o:=λb o e=>by
  exact qr.extBut b o (Xk (Xl (Xg e) hC)) (X2 _ (eH▸X2 _ e))
 have accD:h1.get? D=some (W4 [] 0):=by
  refine qr.extBut _ _ oe (X2 _ ?_);rw [<-eH,<-eD];exact Xa _ rfl
 have below:∀b∈fp,b≠D/\b≠C:=λb hb=>by
  obtain⟨o,e⟩:=qc b hb;exact⟨Xk (Xl (Xg e) hD),Xk (Xl (Xg e) hC)⟩
 have gj:∀{H':Hp} {oD:Obj},(∀b∈fp,H' b=none)->∀b∈fp,v9 (lcE X scope N cl C s2 H2 fp EX) [(D,oD)] H' b:=fun {H' oD} hn b hb=>by
  obtain⟨_,f1,f3,f4,f5,f6⟩:=f2 b hb;refine⟨hn b hb,(below b hb).2,λz=>?_,.inl hb,λx c h=>f5 x c (da x c h),λp hp=>?_⟩
  ·rcases aD (I2.stkSub b z)with y|y
   ·exact f1 y
   ·exact f3 y
  ·have e:p=(D,oD):=by
    have hp:p∈([]++[(D,oD)]:LA9):=hp
    simpa using hp
   rw [e];exact(below b hb).1.symm
 have loop:∀s3:Shared,s3={ s2 with heap:=h1,toks:=s2.toks+([]:List (Str×Value)).length } ->
   codeAny (model X.prog X.w) X.A (.compLoop (.ListComp d9 [⟨tg,ae,cu,0⟩] scope pos) 0 (.ref it) (.ref D) (compEnvC scope cl C X.env)) (RR (.ref D) C) s3:=by
  rintro s3 rfl;obtain⟨m0,w0⟩:=w0;have hxx:∀e s,Xo (lcX X scope N cl C s2 H2 fp) EX e s->notedBy (model X.prog X.w) X.A (compEnvC scope cl C X.env) (λe s'=>RR (.ref D) C (.error e) s') e s:=by
   rintro e s ⟨cj,σ',H',x,Cc,rfl,I',f',q'⟩;have top':zj (lcX X scope N cl C s2 H2 fp):=top;exact qw8 (X:=lcX X scope N cl C s2 H2 fp) top' rfl I' f' λL T s1 _ t=>hER D C s1 cj σ' H' x T Cc _ hC t q'
  refine vx2 (Xo (lcX X scope N cl C s2 H2 fp) EX) (λn s'=>∃i ys a8 nn σ' H',Inv (lcE X scope N cl C s2 H2 fp EX) [(D,W4 a8 nn)] σ' H' s'/\Vals ys a8/\tn i s'.heap/\(∀b∈fp,H' b=none)/\W i n ys σ' H') ?_ hxx m0
   ⟨0,[],[],0,_,H2,(vx0 I2 sc f2 qc hC hD oe da bf cx nr accD (λv z=>by cases z)).wish _,.nil,T.keep _ _ _ bg (λb hb o e=>cx b o e),λb hb=>(f2 b hb).1,w0⟩
  rintro n s3 ⟨i,ys,a8,nn,σ3,H3,I3,rv,dh,fr3,w3⟩;rcases e6 i n ys σ3 H3 w3 with⟨stop,hz,qn⟩|⟨go,step⟩
  ·refine thn (T.done (lcE X scope N cl C s2 H2 fp EX) rfl rfl rfl hc i _ s3 σ3 H3 _ I3 (gj fr3) dh stop) λr s4 ⟨hr,I4⟩=>?_
   subst hr;show RR (.ref D) C (.ok .next) s4;have hD4:=I4.pin (D,W4 a8 nn) (by show _∈([]++[(D,W4 a8 nn)]:LA9);simp);have J1:Inv X pins σ H3 s4:=I2.call' I4.os I4.base I4.hok I4.bare λb hb=>⟨(f2 b hb).2.2.2.1,(f2 b hb).2.1,(f2 b hb).2.2.2.2.1,(f2 b hb).2.2.2.2.2⟩
   have fD:v9 X pins H3 D:=I2.fpOk hD hD4.2.1;have fC:v9 X pins H3 C:=I2.fpOk hC I4.free;have J2:Inv X pins σ (upd H3 D (.lst ys)) s4:=kjj J1 hD4.2.1 fD.2.1 fD.2.2.2.1 fD.2.2.2.2.1 fD.2.2.2.2.2 ⟨hz,a8,nn,rv,hD4.1⟩;obtain⟨mC,nC,_⟩:=I4.loc;obtain⟨oC,es,ep,hoC,hdC,ly⟩:=id nC;have fC':v9 X pins (upd H3 D (.lst ys)) C:=⟨by rw[q5 oe.symm];exact fC.1,fC.2⟩;refine hRR D C oC mC ys H3 s4 (J2.pins_of λp hp=>?_) hoC nC fC' (qn D hD4.2.1);rcases aA hp with z|z
   ·exact J2.pin p (lr9 _ z)
   ·rw[aC z];exact⟨hoC,fC'.1,fC'.2.1,fC'.2.2.1,λv y=>by rw[hdC]at y;cases y⟩
  ·refine thn (T.item (lcE X scope N cl C s2 H2 fp EX) rfl rfl rfl hc i _ s3 σ3 H3 _ I3 (gj fr3) dh go) λr s4 ⟨u,hr,h4⟩=>?_
   subst hr;refine thn h4 λ_ s5 ⟨x,H5,I5,r5,y5,jf,fr5⟩=>?_
   have I5':=I5.pinned (gj fr5) (T.obj _ _ jf);have ic:∀{σ':L2.St} {H':Hp} {s':Shared} {pl:LA9},Inv (lcE X scope N cl C s2 H2 fp EX) (pl++Kj fp s5.heap) σ' H' s'->tn (i+1) s'.heap/\∀b∈fp,H' b=none:=fun {σ' H' s' pl} I'=>by
    have q:∀b∈fp,∀o,s5.heap.get? b=some o->s'.heap.get? b=some o/\H' b=none:=λb hb o e=>by
     obtain⟨a1,a2,_⟩:=I'.pin (b,o) (lr9 _ (lr9 _ (jz0 hb e)));exact⟨a1,a2⟩
    refine⟨T.keep _ _ _ jf λb hb o e=>(q b hb o e).1,λb hb=>?_⟩;obtain⟨o,e,_⟩:=T.obj _ _ jf b hb;exact(q b hb o e).2
   refine thn (hg C s2 H2 fp _ s5 σ3 H5 x u _ I5' r5 (step x H5 y5)) λ_ s6 ⟨σ6,H6,I6,Ny,Nn,hNy,hNn,q6⟩=>?_
   refine thn (ht C s2 H2 fp _ s6 σ6 H6 _ I6 q6) λok s7 ⟨H7,I7,q7⟩=>?_
   cases ok with
   | false=>
    obtain⟨m',hm,w7⟩:=hNn _ q7;exact⟨m',hm,i+1,ys,a8,nn,σ6,H7,I7.unpinned,rv,(ic I7).1,(ic I7).2,w7⟩
   | true=>
    refine thn (he C s2 H2 fp _ s7 σ6 H7 _ I7 q7) λu8 s8 ⟨y,H8,I8,r8,q8⟩=>?_
    obtain⟨hz,m',hm,w8⟩:=hNy _ _ q8;have pD:=I8.pin (D,W4 a8 nn) (lr9 _ (ll9 _ (aB rfl)));have ab:=rv.length;refine append_at (hsz:=by rw[X7];omega) pD.1 λh9 sb9 e9=>?_
    have I8a:Inv (lcE X scope N cl C s2 H2 fp EX) ([]++Kj fp s5.heap) σ6 H8 s8:=I8.pins_of λp hp=>I8.pin p (lr9 _ (lr9 _ hp))
    have I9:Inv (lcE X scope N cl C s2 H2 fp EX) ([]++Kj fp s5.heap) σ6 H8 { s8 with heap:=h9,toks:=s8.toks }:=I8a.turned (it:=D) (λb o hb e=>(sb9.2 b hb).trans e) pD.2.1 oe (.inr hD)
     (λx c h z=>by
      obtain⟨v,q⟩:=I2.cell x c (da x c h);exact absurd (Xl q.lt (by rw[z];exact hD)) (Yp _))
     (λp hp z=>by
      have hp:p∈([]++([]++Kj fp s5.heap):LA9):=hp;have hp:p∈Kj fp s5.heap:=by simpa using hp
      exact(below p.1 (kw7 hp).1).1 z)
    have e9':h9.get? D=some (W4 (a8++[u8]) (nn+1)):=by rw[e9];simp[List.push_toArray]
    refine⟨m',hm,i+1,ys++[y],a8++[u8],nn+1,σ6,H8,I9.pins_of λp hp=>?_,rv.append (.cons r8 .nil),(ic I9).1,(ic I9).2,w8⟩;rw[aC hp];exact⟨e9',pD.2.1,pD.2.2.1,pD.2.2.2.1,λv z=>by cases z⟩
 exact codeAny_compStart_list (loop _ rfl) (T.self _ 0 _ _ _ (T.keep _ _ _ bg λb hb o e=>cx b o e) (loop _ rfl))
theorem vq8{EX:XK}{wi:TI}(N:List Str)(k:Nat)(R:List Nat)(hi:PI X tg ae wi)
  (hg:∀cl C s0 H0 fp,PG (lcE X scope N cl C s0 H0 fp EX) tg g) (ht:∀cl C s0 H0 fp,PTs (lcE X scope N cl C s0 H0 fp EX) cu tt) (he:∀cl C s0 H0 fp,PE (lcE X scope N cl C s0 H0 fp EX) d9 te)
  (gx:wY X EX) (top:zj X) (hc:autoParam (X.calm=true) Ŕ) (hk:autoParam (scope.kind=.function) Ŕ) (gu:autoParam (Jz X.N X.env.scope scope N k R=true) Ŕ) (hs:autoParam (∀x,foldedSetIterable ae X.env x=pure x) Ŗ):
  PE X (.ListComp d9 [⟨tg,ae,cu,0⟩] scope pos) (tLC wi g tt te k R):=by
 intro pins s σ H Q I h;have sc:=qje hk gu;obtain⟨cl,jh,da,bf⟩:=kkn (scope:=scope) (env:=X.env) λy hy e=>I.ok.has y.1 (sc.caps y hy e)
 rw[eval_ListComp];refine wpAny_comprehension_free (use:=none) rfl hs jh sc.kind sc.names (thn (hi pins s σ H _ I h) λv s1 h1=>thn h1 λitv s2 h2=>?_);obtain⟨it,fp,tn,J,H2,e,I2,T,bg,f2,W,w0,e6⟩:=h2;subst e;refine kwe (EX:=EX) (RR:=λaa C=>compPost (model X.prog X.w) X.A X.xe none (EP X pins σ Q) aa C) hc top sc da bf (hg cl) (ht cl) (he cl) I2 T bg f2 w0 e6 ?_ ?_
 rotate_left
 ·intro D C s' cj σ' H' x T Cc fl hC t q;exact vqf gx I2 f2 hC t q
 intro D C oC m ys H' s' I' _ nC fC q;exact⟨m,nC,λh' sb=>⟨.ref D,_,I'.unpinned.turned (it:=C) (t':=s'.toks) (λb o hb e=>(sb.2 b hb).trans e) fC.1 fC.2.1 fC.2.2.2.1 fC.2.2.2.2.1 fC.2.2.2.2.2,rfl,q⟩⟩
end
structure ExAt (K:Frag)(x:Addr)(ox:Obj)(C:Addr):Prop where
 cls:ox.cls=.ref C
 no:PySem.W.notCls ox=true
 di:ox.dict=none
 xc:XCls K C
end L3
namespace Q
open PySem
inductive D where
 |non|bl (b:Bool)|int (i:Int)|str (z:Str)|tup (xs:List D)|lst (xs:List D)|dct (kvs:List (D×D))|obj (c:Str) (fs:List (Str×D))
instance:DecidableEq D:=λa b=>Classical.propDecidable (a=b)
instance:Inhabited D:=⟨.non⟩
mutual
noncomputable def D.pure:D->Bool
 |.tup xs=>D.pures xs|.lst _=>false|.dct _=>false|.obj _ _=>false|_=>true
noncomputable def D.pures:List D->Bool
 |[]=>true|a::x=>D.pure a&&D.pures x
end
theorem D.pures_all:∀xs:List D,D.pures xs=xs.all D.pure
 |[]=>by simp[D.pures]|a::x=>by rw[D.pures,List.all_cons,D.pures_all x]
@[simp] theorem D.pures_map {α:Type}(f:α->D)(xs:List α)(h:∀x∈xs,(f x).pure=true):D.pures (xs.map f)=true:=by
 rw[D.pures_all,Z2];intro d hd;obtain⟨x,hx,rfl⟩:=aE hd;exact h x hx
mutual
noncomputable def peq:D->D->Bool
 |.non,.non=>true|.bl a,.bl b=>a==b|.bl a,.int b=>(if a then 1 else 0)==b|.int a,.bl b=>a==(if b then 1 else 0)|.int a,.int b=>a==b|.str a,.str b=>a==b|.lst as,.lst bs=>peqs as bs|.tup as,.tup bs=>peqs as bs|_,_=>false
noncomputable def peqs:List D->List D->Bool
 |[],[]=>true|a::as,b::bs=>peq a b&&peqs as bs|_,_=>false
end
mutual
noncomputable def D.flat:Nat->D->Bool
 |0,.tup _=>false|0,.lst _=>false|n+1,.tup xs=>D.flats n xs|n+1,.lst xs=>D.flats n xs|_,.dct _=>false|_,.obj _ _=>false|_,_=>true
noncomputable def D.flats:Nat->List D->Bool
 |_,[]=>true|n,a::x=>D.flat n a&&D.flats n x
end
mutual
noncomputable def jK:Nat->D->Bool
 |_,.non=>true|_,.int _=>true|n+1,.tup xs=>keyDs n xs|_,_=>false
noncomputable def keyDs:Nat->List D->Bool
 |_,[]=>true|n,a::x=>jK n a&&keyDs n x
end
def unm : List (D × D) -> Bool
  |(.str _, _)::_=>false|_=>true
inductive Own where
 |no|rt|dp
 deriving DecidableEq
abbrev Sd:=Own×D
abbrev En:=List (Option Sd)
inductive Res (α:Type) where
 |ok (E:En) (a:α)
 |exc (E:En) (c:Str)
abbrev Ev(α:Type):=En->Option (Res α)
abbrev Ex:=Ev Sd
def bnd{α β:Type}(m:Option (Res α))(f:En->α->Option (Res β)):Option (Res β):=
 match m with
 |some (.ok E a)=>f E a|some (.exc E c)=>some (.exc E c)|none=>none
@[simp] theorem xj3 {α β:Type}(E:En)(a:α)(f:En->α->Option (Res β)):bnd (some (.ok E a)) f=f E a:=rfl
@[simp] theorem wz0 {α β:Type}(E:En)(c:Str)(f:En->α->Option (Res β)):bnd (some (.exc E c)) f=some (.exc E c):=rfl
@[simp] theorem ww2 {α β:Type}(f:En->α->Option (Res β)):bnd none f=none:=rfl
def val{α:Type}(E:En)(x:Option α):Option (Res α):=x.map (Res.ok E)
@[simp] theorem wvo {α:Type}(E:En)(x:α):val E (some x)=some (.ok E x):=rfl
@[simp] theorem wvp {α:Type}(E:En):val E (none:Option α)=none:=rfl
def cC(d:D):Ex:=λE=>some (.ok E (.dp,d))
def cV(i:Nat):Ex:=λE=>match E[i]? with
 |some (some (_,d))=>some (.ok (E.set i (some (.no,d))) (.no,d))|_=>none
def cMv(i:Nat):Ex:=λE=>match E[i]? with
 |some (some x)=>some (.ok (E.set i none) x)|_=>none
def vV(i:Nat):Ex:=λE=>match E[i]? with
 |some (some x)=>some (.ok E x)|_=>none
def vE(c:Ex):Ex:=λE=>bnd (c E) λE x=>some (.ok E (.no,x.2))
abbrev C9(z:Int):Ex:=vE (cC (.int z))
def cH(v:Ex):Ex:=λE=>bnd (v E) λE x=>if x.1=.no then some (.ok E (.no,x.2))else if x.2.pure then some (.ok E (.dp,x.2))else none
def cF1(f:Sd->Option Sd)(a:Ex):Ex:=λE=>bnd (a E) λE x=>val E (f x)
def cF2(f:Sd->Sd->Option Sd)(a b:Ex):Ex:=λE=>bnd (a E) λE x=>bnd (b E) λE y=>val E (f x y)
def pu1(f:D->Option D):Sd->Option Sd:=λx=>(f x.2).map λd=>(.dp,d)
def pu2(f:D->D->Option D):Sd->Sd->Option Sd:=λx y=>(f x.2 y.2).map λd=>(.dp,d)
def wxl:D->List D
 |.lst xs=>xs|.tup xs=>xs|.dct kvs=>kvs.map (·.2)|_=>[]
def qw(x:Sd):Bool:=x.1 != .dp||D.pures (wxl x.2)
def sub:Own->Own
 |.dp=>.dp|_=>.no
def ixN(n:Nat)(i:Int):Option Nat:=if 0<=i then(if i<n then some i.toNat else none)else if -(n:Int)<=i then some (i+n).toNat else none
def ixD:D->D->Option D
 |.lst xs,.int i=>(ixN xs.length i).bind λj=>xs[j]?|.tup xs,.int i=>(ixN xs.length i).bind λj=>xs[j]?|.str z,.int i=>(ixN z.cps.size i).bind λj=>(z.cps.toList[j]?).map λc=>.str ⟨#[c]⟩|.dct kvs,k=>(kvs.find? λe=>decide (e.1=k)).map (·.2)|_,_=>none
def big:Nat:=16777216
def i2(f:Int->Int->Option Int):D->D->Option D
 |.int a,.int b=>(f a b).map .int|_,_=>none
def c2(f:Int->Int->Bool):D->D->Option D
 |.int a,.int b=>some (.bl (f a b))|_,_=>none
def V4(a:Int):Bool:=decide (-(2 ^ 64)<a)&&decide (a<2 ^ 64)
noncomputable def kq:Sd->Sd->Option Sd:=λx y=>match x.2,y.2 with
 |.int a,.int b=>some (.dp,.int (a+b))|.str a,.str b=>if a.cps.size+b.cps.size<=big then some (.dp,.str (a++b))else none|.lst a,.lst b=>if a.length+b.length<=big/\qw x/\qw y then some (.rt,.lst (a++b))else none|.tup a,.tup b=>if a.length+b.length<=big/\qw x/\qw y then some (.no,.tup (a++b))else none|_,_=>none
def K4(a b:Int):Bool:=V4 a||V4 b||(decide (a.natAbs.log2<2000000)&&decide (b.natAbs.log2<2000000))
noncomputable def W7:Sd->Sd->Option Sd:=λx y=>match x.2,y.2 with
 |.int a,.int b=>if K4 a b then some (.dp,.int (a*b))else none|.lst a,.int k=>if -(2 ^ 63)<=k/\k<2 ^ 63/\a.length*k.toNat<=big/\qw x then some (.rt,.lst (List.replicate k.toNat a).flatten)else none|.str z,.int n=>if(z.cps.size<=1024/\n<=1024/\-1024<=n)/\(Txt.mul z n).cps.size<=big then some (.dp,.str (Txt.mul z n))else none|_,_=>none
def VQ:D->D->Option D:=i2 λa b=>some (a - b)
def wW:D->D->Option D:=i2 λa b=>if 0<b/\b.natAbs.log2<9000 then some (a / b)else none
def k9:D->D->Option D:=i2 λa b=>if 0<b then some (a % b)else none
def Vq:D->D->Option D:=i2 λa b=>if 0<=b/\b<=1000000/\a.natAbs<2 ^ 64 then some (a ^ b.toNat)else none
def fEq:D->D->Option D:=λa b=>if a.flat 40&&b.flat 40 then some (.bl (peq a b))else none
def fNe:D->D->Option D:=λa b=>if a.flat 40&&b.flat 40 then some (.bl (!peq a b))else none
def isNon:D->Bool
 |.non=>true|_=>false
def fLt:D->D->Option D:=c2 λa b=>decide (a<b)
def fLe:D->D->Option D:=c2 λa b=>decide (a<=b)
def fGe:D->D->Option D:=c2 λa b=>decide (b<=a)
def wxv(a b:Str):Bool:=!(Builtin.Str.occurrences b a 0 b.length 1).isEmpty
noncomputable def fIn:D->D->Option D:=λx y=>match y with
 |.lst ys=>if x.flat 30&&D.flats 30 ys then some (.bl (ys.any λz=>peq z x))else none|.tup ys=>if x.flat 30&&D.flats 30 ys then some (.bl (ys.any λz=>peq z x))else none
 |.str b=>(match x with
  |.str a=>some (.bl (wxv a b))
  |_=>none)
 |.dct kvs=>some (.bl (kvs.any λe=>decide (e.1=x)))|_=>none
def K8:D->D->Option D:=λx y=>(fIn x y).bind λd=>match d with
 |.bl k=>some (.bl (!k))|_=>none
def v6:D->Option D
 |.lst xs=>some (.int xs.length)|.tup xs=>some (.int xs.length)|.str z=>some (.int z.length)|_=>none
def kind:D->String
 |.non=>"NoneType"|.bl _=>"bool"|.int _=>"int"|.str _=>"str"|.tup _=>"tuple"|.lst _=>"list"|.dct _=>"dict"|.obj _ _=>""
def isaK(t u:String):Bool:=t==u||(t == "bool" && u == "int")
def YK(u:String):D->Option D:=λd=>match d with
 |.obj _ _=>none|.dct _=>none|_=>some (.bl (isaK (kind d) u))
def fIsNon:D->Option D:=λd=>some (.bl (isNon d))
def fNotNon:D->Option D:=λd=>some (.bl (!isNon d))
abbrev Ts:=Ev Bool
def truth:D->Option Bool
 |.bl b=>some b|.non=>some false|.int i=>some (i != 0)|.str z=>some (z.cps.size != 0)|.lst xs=>some (!xs.isEmpty)|.tup xs=>some (!xs.isEmpty)|.dct xs=>some (!xs.isEmpty)|.obj _ _=>none
def tE(c:Ex):Ts:=λE=>bnd (c E) λE x=>val E (truth x.2)
def tAnd(a b:Ts):Ts:=λE=>bnd (a E) λE x=>if x then b E else some (.ok E false)
def tOr(a b:Ts):Ts:=λE=>bnd (a E) λE x=>if x then some (.ok E true)else b E
def tNot(a:Ts):Ts:=λE=>bnd (a E) λE x=>some (.ok E (!x))
def tYes:Ts:=λE=>some (.ok E true)
def cIf(t:Ts)(a b:Ex):Ex:=λE=>bnd (t E) λE x=>if x then a E else b E
def Jx(a b:Ex):Ex:=λE=>bnd (a E) λE x=>match x.2 with
 |.bl true=>b E|.bl false=>some (.ok E (.dp,.bl false))|_=>none
def J7:D->D->Option D:=λx y=>match y with
 |.dct _=>none|_=>fIn x y
def JQ:D->D->Option D:=λx y=>match y with
 |.dct _=>none|_=>K8 x y
def f2First(f:D->Option D):Sd->Sd->Option Sd:=λx y=>if isNon y.2 then(f x.2).map λd=>(.dp,d)else none
def jW:D->D->Option D:=λx y=>match x with
 |.dct _=>none|_=>ixD x y
def jv(a b:Ex):Ex:=λE=>bnd (a E) λE x=>bnd (b E) λE y=>val E ((jW x.2 y.2).map λd=>(sub x.1,d))
def truthQ:D->Option Bool:=λd=>match d with
 |.dct _=>none|_=>truth d
def tEQ(c:Ex):Ts:=λE=>bnd (c E) λE x=>val E (truthQ x.2)
def vk9(c:Ex):Ex:=λE=>bnd (c E) λE x=>val E ((truthQ x.2).map λk=>(.dp,.bl (!k)))
def qW:List Ex->Ev (List Sd)
 |[],E=>some (.ok E [])|c::cs,E=>bnd (c E) λE x=>bnd (qW cs E) λE xs=>some (.ok E (x::xs))
def vX(x:Sd):Bool:=x.1 == .dp||x.2.pure
def wx(o:Own)(cs:List Ex):Ex:=λE=>bnd (qW cs E) λE xs=>if o=.dp then(if xs.all vX then some (.ok E (.dp,.lst (xs.map (·.2))))else none)else some (.ok E (.rt,.lst (xs.map (·.2))))
def qz(o:Own)(cs:List Ex):Ex:=λE=>bnd (qW cs E) λE xs=>if o=.dp then(if xs.all vX then some (.ok E (.dp,.tup (xs.map (·.2))))else none)else some (.ok E (.no,.tup (xs.map (·.2))))
inductive Fl where
 |nx (E:En)|rt (E:En) (x:Sd)|ct (E:En)|bk (E:En)|xc (E:En) (c:Str)
abbrev Sm:=En->Option Fl
def ofE{α:Type}(m:Option (Res α))(f:En->α->Option Fl):Option Fl:=
 match m with
 |some (.ok E a)=>f E a|some (.exc E c)=>some (.xc E c)|none=>none
@[simp] theorem wzu {α:Type}(E:En)(a:α)(f:En->α->Option Fl):ofE (some (.ok E a)) f=f E a:=rfl
@[simp] theorem wxe {α:Type}(E:En)(c:Str)(f:En->α->Option Fl):ofE (some (.exc E c)) f=some (.xc E c):=rfl
@[simp] theorem wvv {α:Type}(f:En->α->Option Fl):ofE none f=none:=rfl
def j7(a b:Sm):Sm:=λE=>match a E with
 |some (.nx E)=>b E|r=>r
def wv:Sm:=λE=>some (.nx E)
def jq(i:Nat)(c:Ex):Sm:=λE=>ofE (c E) λE x=>some (.nx (E.set i (some x)))
def k7(c:Ex):Sm:=λE=>ofE (c E) λE x=>some (.rt E x)
def sIf(t:Ts)(a b:Sm):Sm:=λE=>ofE (t E) λE x=>if x then a E else b E
inductive Tg where
 |n (i:Nat)|t (ts:List Nat)
def setAll:List Nat->List D->En->Option En
 |[],[],E=>some E|i::is,d::ds,E=>setAll is ds (E.set i (some (.no,d)))|_,_,_=>none
def Tg.put:Tg->D->En->Option En
 |.n i,d,E=>some (E.set i (some (.no,d)))|.t is,.tup ds,E=>setAll is ds E|.t is,.lst ds,E=>setAll is ds E|.t _,_,_=>none
def wj1(is:List Nat)(c:Ex):Sm:=λE=>ofE (c E) λE x=>(Tg.put (.t is) x.2 E).map .nx
def JV(tg:Tg)(b:Sm):List D->En->Option Fl
 | [],E=>some (.nx E)
 | d::ds,E=>match tg.put d E with
  |none=>none
  |some E=>match b E with
   |some (.nx E)=>JV tg b ds E|some (.ct E)=>JV tg b ds E|some (.bk E)=>some (.nx E)|r=>r
def vQ(it:Ev (List D))(tg:Tg)(b:Sm):Sm:=λE=>ofE (it E) λE ds=>JV tg b ds E
def sWhile(t:Ts)(b:Sm)(E:En):Option Fl:=
 match t E with
 |some (.ok E true)=>(match b E with
  |some (.nx E)=>sWhile t b E|some (.ct E)=>sWhile t b E|some (.bk E)=>some (.nx E)
  |r=>r)
 |some (.ok E false)=>some (.nx E)|some (.exc E c)=>some (.xc E c)|none=>none
partial_fixpoint
def whN(t:Ts)(b:Sm):Nat->En->Option Fl
 | 0,_=>none
 | n+1,E=>match t E with
  |some (.ok E true)=>(match b E with
   |some (.nx E)=>whN t b n E|some (.ct E)=>whN t b n E|some (.bk E)=>some (.nx E)
   |r=>r)
  |some (.ok E false)=>some (.nx E)|some (.exc E c)=>some (.xc E c)|none=>none
theorem vqz{t:Ts}{b:Sm}:∀{E:En} {r:Fl},sWhile t b E=some r->∃n,whN t b n E=some r:=by
 intro E r;refine sWhile.partial_correctness t b (λE r=>∃n,whN t b n E=some r) ?_ E r;intro f ih E r h;cases ht:t E with
 | none=>rw[ht]at h;cases h
 | some q=>
  cases q with
  | exc E1 c=>rw[ht]at h;exact⟨1,by simp only[whN,ht];exact h⟩
  | ok E1 k=>
   rw[ht]at h;cases k with
   | false=>exact⟨1,by simp only[whN,ht];exact h⟩
   | true=>
    dsimp only at h;cases hb:b E1 with
    |none=>rw[hb]at h;cases h
    |some g=>
     rw[hb]at h;cases g with|nx E2=>obtain⟨n,hn⟩:=ih _ _ h;exact⟨n+1,by simp only[whN,ht,hb];exact hn⟩|ct E2=>obtain⟨n,hn⟩:=ih _ _ h;exact⟨n+1,by simp only[whN,ht,hb];exact hn⟩|bk E2=>exact⟨1,by simp only[whN,ht,hb];exact h⟩|rt E2 x=>exact⟨1,by simp only[whN,ht,hb];exact h⟩|xc E2 c=>exact⟨1,by simp only[whN,ht,hb];exact h⟩
def at'{α:Type}(L:List (Option α))(j:Nat):Option α:=(L[j]?).join
def clr{α:Type}:List Nat->List (Option α)->List (Option α)
 |[],L=>L|j::R,L=>clr R (L.set j none)
def back{α:Type}:List Nat->List (Option α)->List (Option α)->List (Option α)
 |j::R,q::B,L=>back R B (L.set j q)|_,_,L=>L
def Kx(k:Nat)(R:List Nat)(E:En):En:=List.replicate k none++R.map (at' E)
def J6(k:Nat)(R:List Nat)(B E:En):En:=back R (B.drop k) (clr R E)
def lcL(tg:Tg)(t:Ts)(c:Ex):List D->En->List Sd->Option (Res (List Sd))
 |[],B,aa=>some (.ok B aa)
 |d::ds,B,aa=>match tg.put d B with
  |none=>none|some B=>bnd (t B) λB x=>if x then bnd (c B) λB y=>lcL tg t c ds B (aa++[y])else lcL tg t c ds B aa
def mkL(o:Own)(E:En)(xs:List Sd):Option (Res Sd):=
 if o=.dp then(if xs.all vX then some (.ok E (.dp,.lst (xs.map (·.2))))else none)else some (.ok E (.rt,.lst (xs.map (·.2))))
def cLC(o:Own)(k:Nat)(R:List Nat)(it:Ev (List D))(tg:Tg)(t:Ts)(c:Ex):Ex:=λE=>bnd (it E) λE ds=>
 match lcL tg t c ds (Kx k R E) []with
 |some (.ok B xs)=>mkL o (J6 k R B E) xs|some (.exc B e)=>some (.exc (J6 k R B E) e)|none=>none
def Kw:Option (Option Sd)->Bool
 |some (some (_,.lst _))=>true|_=>false
def vJ(f:List D->D->Option (List D))(i:Nat)(c:Ex):Sm:=λE=>if Kw E[i]? then ofE (c E) λE x=>match E[i]? with
 |some (some (o,.lst xs))=>if o=.no then none else(match f xs x.2 with
  |some ys=>some (.nx (E.set i (some (if o=.dp/\vX x then .dp else .rt,.lst ys))))
  |none=>none)
 |_=>none
 else none
def vW:List D->D->Option (List D):=λxs d=>if xs.length<big then some (xs++[d])else none
def XQ:D->Option D
 |.int i=>some (.int i)|.bl k=>some (.int (if k then 1 else 0))|.str z=>if z.length<=640 then(PySem.intText? z).map .int else none|_=>none
def QX:Sd->Option Sd:=λx=>match x.2 with
 |.lst xs=>if qw x then some (.rt,.lst xs)else none|.tup xs=>if qw x then some (.rt,.lst xs)else none|_=>none
def K1:Sd->Option Sd:=λx=>match x.2 with
 |.lst xs=>if qw x then some (.no,.tup xs)else none|.tup xs=>if qw x then some (.no,.tup xs)else none|_=>none
def xj2:D->D->Option D:=i2 λa b=>some (if b<a then b else a)
def bls:List D->Option (List Bool)
 |[]=>some []|.bl b::ds=>(bls ds).map (b :: ·)|_=>none
def ww1:D->Option D
 |.lst ds=>(bls ds).map λbs=>.bl (bs.all id)|_=>none
def seqOf:D->Option (List D)
 |.lst xs=>some xs|.tup xs=>some xs|.str z=>if z.cps.size<=big then some (z.cps.toList.map λc=>.str ⟨#[c]⟩)else none|_=>none
def itS(c:Ex):Ev (List D):=λE=>bnd (c E) λE x=>val E (seqOf x.2)
def x9(i:Int):Bool:=decide (-(2 ^ 62)<=i)&&decide (i<2 ^ 62)
def k8(lo hi:Int):List D:=(List.range (hi - lo).toNat).map λ(k:Nat)=>.int (lo+(k:Int))
def xk(c:Ex):Ev (List D):=λE=>bnd (c E) λE x=>match x.2 with
 |.int j=>if x9 j/\j.toNat<=big then some (.ok E (k8 0 j))else none|_=>none
def VX(c:Ex):Ex:=λE=>bnd (c E) λE x=>match x.2 with
 |.int j=>if x9 j/\j.toNat<=big then some (.ok E (.rt,.lst (k8 0 j)))else none|_=>none
abbrev Fn:=List Sd->Option (Res Sd)
def fn(n:Nat)(b:Sm):Fn:=λxs=>match b (xs.map some++List.replicate (n - xs.length) none)with
 |some (.rt E x)=>some (.ok E x)|some (.nx E)=>some (.ok E (.dp,.non))|some (.xc E c)=>some (.exc E c)|_=>none
def letAll(xs:List Sd):List Sd:=xs.map λx=>(.no,x.2)
def jz(f:Fn)(cs:List Ex):Ex:=λE=>bnd (qW cs E) λE xs=>match f (letAll xs)with
 |some (.ok _ y)=>some (.ok E y)|some (.exc _ c)=>some (.exc E c)|none=>none
end Q
namespace Q
open PySem PySem.Spec PyProof.Rows L2 L3
mutual
noncomputable def V2:D->Int
 |.int i=>hashInt i|.tup xs=>reduceHash (Builtin.Tuple.tupleHashOf (hashDs xs))|_=>4238894112
noncomputable def hashDs:List D->List Int
 |[]=>[]|a::x=>V2 a::hashDs x
end
def Kd:Type:={ d:D // jK 6 d=true }
instance:DecidableEq Kd:=λa b=>Classical.propDecidable (a=b)
abbrev Ent:=Kd×Addr×Value
def qQ(a:Addr)(es:List Ent)(ep:Nat):HO:=.ext λh=>∃o ds,h.get? a=some o/\o.ExactDict/\o.data=.dict ds ep/\ds.toList=es.map λx=>(⟨V2 x.1.1,.ref x.2.1,x.2.2⟩:DictEntry)
mutual
noncomputable def PuR(K:Frag)(H:Hp):D->V->Prop
 |.non,v=>v=.non|.int i,v=>v=.int i|.tup ds,v=>∃a xs,v=.ref a/\SqT K H a xs/\PuRs K H ds xs|_,_=>False
noncomputable def PuRs(K:Frag)(H:Hp):List D->List V->Prop
 |[],xs=>xs=[]|d::ds,xs=>∃x r,xs=x::r/\PuR K H d x/\PuRs K H ds r
end
def DcN(K:Frag)(H:Hp)(a:Addr)(ks:List D)(vs:List V):Prop:=∃(es:List Ent) (ep:Nat),H a=some (qQ a es ep)/\(a==sysModules)=false/\es.length<=sizeLine/\(es.map (·.1)).Nodup/\ks=es.map (·.1.1)/\(∀x∈es,PuR K H x.1.1 (.ref x.2.1))/\Vals vs (es.map (·.2.2))
def DcI(H:Hp)(a:Addr)(ks:List D)(vs:List V):Prop:=∃(kv:List (Int×V)) (m:Str),H a=some (.dK (kv.map λp=>(Sum.inl p.1,p.2)))/\ks=.str m::kv.map (λp=>D.int p.1)/\vs=.non::kv.map (·.2)
def DcA(K:Frag)(H:Hp)(a:Addr)(ks:List D)(vs:List V):Prop:=DcN K H a ks vs\/DcI H a ks vs
theorem DcA.un{K:Frag}{H:Hp}{a:Addr}{kvs:List (D×D)}{vs:List V}(h:DcA K H a (kvs.map (·.1)) vs)(hu:unm kvs=true):DcN K H a (kvs.map (·.1)) vs:=by
 rcases h with h|⟨kv,m,_,h,_⟩
 ·exact h
 ·cases kvs with
  |nil=>cases h
  |cons p r=>
   obtain⟨k,d⟩:=p;rw[List.map_cons]at h;injection h with h1 _;have h1:k=.str m:=h1;subst h1;cases hu
def xj8(K:Frag)(a:Addr)(xs:List V):Prop:=∃(a8:Array Value) (n:Nat),K.lookup a=some { cls:=.type "list",data:=.seq a8 n }/\a8.size<=sizeLine/\Vals xs a8.toList
def ww4(K:Frag)(H:Hp)(a:Addr)(xs:List V):Prop:=(∃o,H a=some (.frz o (.lst xs)))\/xj8 K a xs
def LsR(K:Frag)(H:Hp)(a:Addr)(xs:List V):Prop:=Rd H a (.lst xs)\/xj8 K a xs
theorem LsR.of{K:Frag}{H:Hp}{a:Addr}{xs:List V}(h:ww4 K H a xs):LsR K H a xs:=h.imp .inr id
theorem LsR.sq{K:Frag}{H:Hp}{a:Addr}{xs:List V}(h:LsR K H a xs):SqL K H a xs:=by
 rcases h with h|⟨a8,n,h1,h2,h3⟩
 ·exact .inl h
 ·exact .inr ⟨_,a8,n,h1,rfl,rfl,rfl,h2,h3⟩
theorem LsR.is{X:Cx}{pins:LA9}{σ:L2.St}{H:Hp}{s:Shared}{a:Addr}{xs:List V}(I:L2.Inv X pins σ H s)(h:LsR X.K H a xs):xs.length<=sizeLine/\∃(a8:List Value) (n:Nat),Vals xs a8/\s.heap.get? a=some { cls:=.type "list",data:=.seq a8.toArray n }:=by
 rcases h with h|⟨a8,n,h1,h2,h3⟩
 ·obtain⟨z,a8,n,r,e⟩:=h.ok I.hok;exact⟨z,a8,n,r,e⟩
 ·have hl:=h3.length;simp only[Xr]at hl;exact⟨⋯,a8.toList,n,h3,by simpa using I.kIn a _ h1⟩
def ExD(K:Frag)(H:Hp)(c:Str)(v:V):Prop:=∃x o C,v=.ref x/\H x=some (.frz o (.ext λ_=>True))/\ExAt K x o C/\nsIn K mainGlobals c=some (some (.ref C))
mutual
noncomputable def RepL(K:Frag)(H:Hp)(g:Bool):D->V->List Addr->Prop
 |.non,v,as=>v=.non/\as=[]|.bl b,v,as=>v=.bl b/\as=[]|.int i,v,as=>v=.int i/\as=[]|.str z,v,as=>v=.str z/\as=[]/\z.length<=sizeLine|.tup ds,v,as=>∃a xs,v=.ref a/\SqT K H a xs/\RepA K H g ds xs as|.lst ds,v,as=>∃a xs bs,v=.ref a/\RepA K H g ds xs bs/\((H a=some (.lst xs)/\as=a::bs)\/(g=true/\ww4 K H a xs/\as=bs))|.dct kvs,v,as=>∃a xs bs,v=.ref a/\RepP K H g kvs xs bs/\DcA K H a (kvs.map (·.1)) xs/\as=a::bs|.obj c _,v,as=>as=[]/\ExD K H c v
noncomputable def RepA(K:Frag)(H:Hp)(g:Bool):List D->List V->List Addr->Prop
 |[],xs,as=>xs=[]/\as=[]|d::ds,xs,as=>∃x r bs cs,xs=x::r/\as=bs++cs/\RepL K H g d x bs/\RepA K H g ds r cs
noncomputable def RepP(K:Frag)(H:Hp)(g:Bool):List (D×D)->List V->List Addr->Prop
 |[],xs,as=>xs=[]/\as=[]|(_,d)::ds,xs,as=>∃x r bs cs,xs=x::r/\as=bs++cs/\RepL K H g d x bs/\RepP K H g ds r cs
end
def RepR(K:Frag)(H:Hp):D->V->List Addr->Prop
 |.lst ds,v,as=>∃a xs bs,v=.ref a/\RepA K H true ds xs bs/\H a=some (.lst xs)/\as=a::bs|.dct kvs,v,as=>∃a xs bs,v=.ref a/\RepP K H true kvs xs bs/\DcA K H a (kvs.map (·.1)) xs/\as=a::bs|_,_,_=>False
def RepO(K:Frag)(H:Hp):Own->D->V->List Addr->Prop
 |.no=>RepL K H true|.rt=>RepR K H|.dp=>RepL K H false
section
variable {K:Frag}{H H':Hp}
def Kp(H H':Hp)(as:List Addr):Prop:=(∀a xs,H a=some (.tup xs)->H' a=some (.tup xs))/\(∀a o u,H a=some (.frz o u)->H' a=some (.frz o u))/\∀a∈as,∀ob,H a=some ob->H' a=some ob
theorem Kp.left{as bs:List Addr}(k:Kp H H' (as++bs)):Kp H H' as:=⟨k.1,k.2.1,λa ha=>k.2.2 a (ll9 _ ha)⟩
theorem Kp.right{as bs:List Addr}(k:Kp H H' (as++bs)):Kp H H' bs:=⟨k.1,k.2.1,λa ha=>k.2.2 a (lr9 _ ha)⟩
theorem Kp.tail{a:Addr}{bs:List Addr}(k:Kp H H' (a::bs)):Kp H H' bs:=⟨k.1,k.2.1,λb hb=>k.2.2 b (lc9 _ hb)⟩
theorem Kp.tupT{as:List Addr}{a:Addr}{xs:List V}(k:Kp H H' as)(h:SqT K H a xs):SqT K H' a xs:=by
 rcases h with(h|⟨o,h⟩)|h
 ·exact .inl (.inl (k.1 a xs h))
 ·exact .inl (.inr ⟨o,k.2.1 a o _ h⟩)
 ·exact .inr h
theorem Kp.frzL{as:List Addr}{a:Addr}{xs:List V}(k:Kp H H' as)(h:ww4 K H a xs):ww4 K H' a xs:=by
 rcases h with⟨o,h⟩|h
 ·exact .inl ⟨o,k.2.1 a o _ h⟩
 ·exact .inr h
mutual
theorem PuR.kp{as:List Addr}(k:Kp H H' as):∀{d:D} {v:V},PuR K H d v->PuR K H' d v
 |.non,_,h=>by unfold PuR at h ⊢;exact h|.int _,_,h=>by unfold PuR at h ⊢;exact h
 |.tup ds,_,h=>by
  unfold PuR at h ⊢;obtain⟨a,xs,e,s,r⟩:=h;exact⟨a,xs,e,k.tupT s,PuRs.kp k r⟩
 |.bl _,_,h=>by unfold PuR at h;exact h.elim|.str _,_,h=>by unfold PuR at h;exact h.elim|.lst _,_,h=>by unfold PuR at h;exact h.elim|.dct _,_,h=>by unfold PuR at h;exact h.elim|.obj _ _,_,h=>by unfold PuR at h;exact h.elim
theorem PuRs.kp{as:List Addr}(k:Kp H H' as):∀{ds:List D} {xs:List V},PuRs K H ds xs->PuRs K H' ds xs
 |[],_,h=>by unfold PuRs at h ⊢;exact h
 |d::ds,_,h=>by
  unfold PuRs at h ⊢;obtain⟨x,r,e,h1,h2⟩:=h;exact⟨x,r,e,PuR.kp k h1,PuRs.kp k h2⟩
end
theorem Kp.dcn{a:Addr}{bs:List Addr}{ks:List D}{vs:List V}(k:Kp H H' (a::bs))(h:DcN K H a ks vs):DcN K H' a ks vs:=by
 obtain⟨es,ep,e,h1,h2,h3,h4,h5,h6⟩:=h;exact⟨es,ep,k.2.2 a X6 _ e,h1,h2,h3,h4,λx hx=>PuR.kp k (h5 x hx),h6⟩
theorem Kp.dca{a:Addr}{bs:List Addr}{ks:List D}{vs:List V}(k:Kp H H' (a::bs))(h:DcA K H a ks vs):DcA K H' a ks vs:=by
 rcases h with h|⟨kv,m,e,h⟩
 ·exact .inl (k.dcn h)
 ·exact .inr ⟨kv,m,k.2.2 a X6 _ e,h⟩
theorem Kp.of_same{as:List Addr}(s:jY H H'):Kp H H' as:=⟨λa xs h=>s a _ h,λa o u h=>s a _ h,λa _ ob h=>s a ob h⟩
mutual
theorem RepL.kp{g:Bool}:∀{d:D} {v:V} {as:List Addr},RepL K H g d v as->Kp H H' as->RepL K H' g d v as
 | .non,_,_,h,_=>by unfold RepL at h ⊢;exact h| .bl _,_,_,h,_=>by unfold RepL at h ⊢;exact h| .int _,_,_,h,_=>by unfold RepL at h ⊢;exact h| .str _,_,_,h,_=>by unfold RepL at h ⊢;exact h
 | .tup ds,_,_,h,k=>by
  unfold RepL at h ⊢;obtain⟨a,xs,e,s,r⟩:=h;exact⟨a,xs,e,k.tupT s,RepA.kp r k⟩
 | .lst ds,_,_,h,k=>by
  unfold RepL at h ⊢;obtain⟨a,xs,bs,e,r,q⟩:=h;refine⟨a,xs,bs,e,?_,?_⟩
  ·rcases q with⟨_,rfl⟩|⟨_,_,rfl⟩
   ·exact RepA.kp r k.tail
   ·exact RepA.kp r k
  ·rcases q with⟨h1,rfl⟩|⟨hg,h1,rfl⟩
   ·exact .inl ⟨k.2.2 a X6 _ h1,rfl⟩
   ·exact .inr ⟨hg,k.frzL h1,rfl⟩
 |.dct kvs,_,_,h,k=>by
  unfold RepL at h ⊢;obtain⟨a,xs,bs,e,r,q,rfl⟩:=h;exact⟨a,xs,bs,e,RepP.kp r k.tail,k.dca q,rfl⟩
 |.obj _ _,_,_,h,k=>by
  unfold RepL at h ⊢;obtain⟨e,x,o,C,h1,h2,h3⟩:=h;exact⟨e,x,o,C,h1,k.2.1 _ _ _ h2,h3⟩
theorem RepA.kp{g:Bool}:∀{ds:List D} {xs:List V} {as:List Addr},RepA K H g ds xs as->Kp H H' as->RepA K H' g ds xs as
 |[],_,_,h,_=>by unfold RepA at h ⊢;exact h
 |d::ds,_,_,h,k=>by
  unfold RepA at h ⊢;obtain⟨x,r,bs,cs,e1,rfl,h1,h2⟩:=h;exact⟨x,r,bs,cs,e1,rfl,RepL.kp h1 k.left,RepA.kp h2 k.right⟩
theorem RepP.kp{g : Bool}: ∀{ds : List (D × D)} {xs : List V} {as : List Addr}, RepP K H g ds xs as -> Kp H H' as -> RepP K H' g ds xs as
  | [], _, _, h, _=>by unfold RepP at h ⊢; exact h
  | (q, d)::ds, _, _, h, k=>by
    unfold RepP at h ⊢;obtain⟨x, r, bs, cs, e1, rfl, h1, h2⟩:= h;exact⟨x, r, bs, cs, e1, rfl, RepL.kp h1 k.left, RepP.kp h2 k.right⟩
end
mutual
theorem RepL.wk:∀{d:D} {v:V} {as:List Addr},RepL K H false d v as->RepL K H true d v as
 |.non,_,_,h=>by unfold RepL at h ⊢;exact h|.bl _,_,_,h=>by unfold RepL at h ⊢;exact h|.int _,_,_,h=>by unfold RepL at h ⊢;exact h|.str _,_,_,h=>by unfold RepL at h ⊢;exact h
 |.tup ds,_,_,h=>by
  unfold RepL at h ⊢;obtain⟨a,xs,e,s,r⟩:=h;exact⟨a,xs,e,s,RepA.wk r⟩
 |.lst ds,_,_,h=>by
  unfold RepL at h ⊢;obtain⟨a,xs,bs,e,r,q⟩:=h;refine⟨a,xs,bs,e,RepA.wk r,?_⟩;rcases q with q|⟨z,_⟩
  ·exact .inl q
  ·cases z
 |.dct kvs,_,_,h=>by
  unfold RepL at h ⊢;obtain⟨a,xs,bs,e,r,q,z⟩:=h;exact⟨a,xs,bs,e,RepP.wk r,q,z⟩
 |.obj _ _,_,_,h=>by unfold RepL at h ⊢;exact h
theorem RepA.wk:∀{ds:List D} {xs:List V} {as:List Addr},RepA K H false ds xs as->RepA K H true ds xs as
 |[],_,_,h=>by unfold RepA at h ⊢;exact h
 |d::ds,_,_,h=>by
  unfold RepA at h ⊢;obtain⟨x,r,bs,cs,e1,e2,h1,h2⟩:=h;exact⟨x,r,bs,cs,e1,e2,RepL.wk h1,RepA.wk h2⟩
theorem RepP.wk : ∀{ds : List (D × D)} {xs : List V} {as : List Addr}, RepP K H false ds xs as -> RepP K H true ds xs as
  | [], _, _, h=>by unfold RepP at h ⊢; exact h
  | (q, d)::ds, _, _, h=>by
    unfold RepP at h ⊢;obtain⟨x, r, bs, cs, e1, e2, h1, h2⟩:= h;exact⟨x, r, bs, cs, e1, e2, RepL.wk h1, RepP.wk h2⟩
end
mutual
theorem RepL.al{g:Bool}:∀{d:D} {v:V} {as:List Addr},RepL K H g d v as->∀a∈as,(∃xs,H a=some (.lst xs))\/(∃ φ,H a=some (.ext φ))\/∃kvs,H a=some (.dK kvs)
 | .non,_,_,h=>by unfold RepL at h;rw[h.2];exact λ_ z=>nomatch z| .bl _,_,_,h=>by unfold RepL at h;rw[h.2];exact λ_ z=>nomatch z| .int _,_,_,h=>by unfold RepL at h;rw[h.2];exact λ_ z=>nomatch z| .str _,_,_,h=>by unfold RepL at h;rw[h.2.1];exact λ_ z=>nomatch z
 | .tup ds,_,_,h=>by
  unfold RepL at h;obtain⟨a,xs,e,s,r⟩:=h;exact RepA.al r
 | .lst ds,_,_,h=>by
  unfold RepL at h;obtain⟨a,xs,bs,e,r,q⟩:=h;rcases q with⟨h1,rfl⟩|⟨_,_,rfl⟩
  ·intro b hb;rcases aD hb with rfl|hb
   ·exact .inl ⟨_,h1⟩
   ·exact RepA.al r b hb
  ·exact RepA.al r
 | .dct kvs,_,_,h=>by
  unfold RepL at h;obtain⟨a,xs,bs,e,r,q,rfl⟩:=h;intro b hb;rcases aD hb with rfl|hb
  ·rcases q with⟨es,ep,q,_⟩|⟨kv,m,q,_⟩
   ·exact .inr (.inl ⟨_,q⟩)
   ·exact .inr (.inr ⟨_,q⟩)
  ·exact RepP.al r b hb
 |.obj _ _,_,_,h=>by unfold RepL at h;rw[h.1];exact λ_ z=>nomatch z
theorem RepA.al{g:Bool}:∀{ds:List D} {xs:List V} {as:List Addr},RepA K H g ds xs as->∀a∈as,(∃xs,H a=some (.lst xs))\/(∃ φ,H a=some (.ext φ))\/∃kvs,H a=some (.dK kvs)
 |[],_,_,h=>by unfold RepA at h;rw[h.2];exact λ_ z=>nomatch z
 |d::ds,_,_,h=>by
  unfold RepA at h;obtain⟨x,r,bs,cs,e1,rfl,h1,h2⟩:=h;intro a ha;rcases aA ha with ha|ha
  ·exact RepL.al h1 a ha
  ·exact RepA.al h2 a ha
theorem RepP.al{g : Bool}: ∀{ds : List (D × D)} {xs : List V} {as : List Addr}, RepP K H g ds xs as -> ∀a ∈ as, (∃xs, H a = some (.lst xs)) \/ (∃ φ, H a = some (.ext φ)) \/ ∃kvs, H a = some (.dK kvs)
  | [], _, _, h=>by unfold RepP at h; rw[h.2]; exact λ_ z=>nomatch z
  | (_, d)::ds, _, _, h=>by
    unfold RepP at h;obtain⟨x, r, bs, cs, e1, rfl, h1, h2⟩:= h;intro a ha;rcases aA ha with ha|ha
    · exact RepL.al h1 a ha
    · exact RepP.al h2 a ha
end
mutual
theorem RepL.pu{g g':Bool}:∀{d:D} {v:V} {as:List Addr},RepL K H g d v as->d.pure=true->as=[]/\RepL K H g' d v []
 |.non,_,_,h,_=>by unfold RepL at h ⊢;exact⟨h.2,h.1,rfl⟩|.bl _,_,_,h,_=>by unfold RepL at h ⊢;exact⟨h.2,h.1,rfl⟩|.int _,_,_,h,_=>by unfold RepL at h ⊢;exact⟨h.2,h.1,rfl⟩|.str _,_,_,h,_=>by unfold RepL at h ⊢;exact⟨h.2.1,h.1,rfl,h.2.2⟩
 |.tup ds,_,_,h,p=>by
  unfold RepL at h ⊢;obtain⟨a,xs,e,s,r⟩:=h;obtain⟨z,r'⟩:=RepA.pu (g':=g') r (by unfold D.pure at p;exact p);exact⟨z,a,xs,e,s,r'⟩
 |.lst ds,_,_,h,p=>by unfold D.pure at p;cases p|.dct ds,_,_,h,p=>by unfold D.pure at p;cases p|.obj _ _,_,_,h,p=>by unfold D.pure at p;cases p
theorem RepA.pu{g g':Bool}:∀{ds:List D} {xs:List V} {as:List Addr},RepA K H g ds xs as->D.pures ds=true->as=[]/\RepA K H g' ds xs []
 |[],_,_,h,_=>by unfold RepA at h ⊢;exact⟨h.2,h.1,rfl⟩
 |d::ds,_,_,h,p=>by
  unfold RepA at h ⊢;unfold D.pures at p;rw[Bool.and_eq_true]at p;obtain⟨x,r,bs,cs,e1,rfl,h1,h2⟩:=h;obtain⟨rfl,q1⟩:=RepL.pu (g':=g') h1 p.1;obtain⟨rfl,q2⟩:=RepA.pu (g':=g') h2 p.2;exact⟨rfl,x,r,[],[],e1,rfl,q1,q2⟩
end
theorem RepR.wk:∀{d:D} {v:V} {as:List Addr},RepR K H d v as->RepL K H true d v as
 |.lst ds,_,_,h=>by
  obtain⟨a,xs,bs,e,r,q,z⟩:=h;unfold RepL;exact⟨a,xs,bs,e,r,.inl ⟨q,z⟩⟩
 |.dct kvs,_,_,h=>by
  obtain⟨a,xs,bs,e,r,q,z⟩:=h;unfold RepL;exact⟨a,xs,bs,e,r,q,z⟩
theorem RepR.kp:∀{d:D} {v:V} {as:List Addr},RepR K H d v as->Kp H H' as->RepR K H' d v as
 |.lst ds,_,_,h,k=>by
  obtain⟨a,xs,bs,e,r,q,rfl⟩:=h;exact⟨a,xs,bs,e,r.kp k.tail,k.2.2 a X6 _ q,rfl⟩
 |.dct kvs,_,_,h,k=>by
  obtain⟨a,xs,bs,e,r,q,rfl⟩:=h;exact⟨a,xs,bs,e,r.kp k.tail,k.dca q,rfl⟩
theorem RepO.wk:∀{o:Own} {d:D} {v:V} {as:List Addr},RepO K H o d v as->RepL K H true d v as
 |.no,_,_,_,h=>h|.rt,_,_,_,h=>RepR.wk h|.dp,_,_,_,h=>RepL.wk h
theorem RepO.kp:∀{o:Own} {d:D} {v:V} {as:List Addr},RepO K H o d v as->Kp H H' as->RepO K H' o d v as
 |.no,_,_,_,h,k=>RepL.kp h k|.rt,_,_,_,h,k=>RepR.kp h k|.dp,_,_,_,h,k=>RepL.kp h k
end
structure Sl where
 o:Own
 d:D
 v:V
 as:List Addr
def Sl.own(x:Sl):List Addr:=match x.o with
 |.no=>[]|.rt=>x.as.take 1|.dp=>x.as
def Sl.frz(x:Sl):List Addr:=match x.o with
 |.no=>x.as|.rt=>x.as.drop 1|.dp=>[]
theorem Sl.parts(x:Sl):x.own++x.frz=x.as:=by
 unfold Sl.own Sl.frz;cases x.o with|no=>rfl|rt=>exact List.take_append_drop 1 x.as|dp=>exact Y7 _
theorem Sl.own_as{x:Sl}{a:Addr}(h:a∈x.own):a∈x.as:=by rw[<-x.parts];exact ll9 _ h
theorem Sl.frz_as{x:Sl}{a:Addr}(h:a∈x.frz):a∈x.as:=by rw[<-x.parts];exact lr9 _ h
theorem Sl.as_of{x:Sl}{a:Addr}(h:a∈x.as):a∈x.own\/a∈x.frz:=by rw[<-x.parts]at h;exact aA h
def Sl.let(x:Sl):Sl:={ x with o:=.no }
abbrev Ls:=List (Option Sl)
def j8(L:Ls):List Addr:=L.flatMap λx=>x.elim [] Sl.own
def jQ(L:Ls):List Addr:=L.flatMap λx=>x.elim [] Sl.frz
@[simp] theorem wkm:j8 []=[]:=rfl
@[simp] theorem vzd:jQ []=[]:=rfl
@[simp] theorem k3 (x:Sl)(L:Ls):j8 (some x::L)=x.own++j8 L:=by simp[j8]
@[simp] theorem qY (x:Sl)(L:Ls):jQ (some x::L)=x.frz++jQ L:=by simp[jQ]
@[simp] theorem qkf (L:Ls):j8 (none::L)=j8 L:=by simp[j8]
@[simp] theorem kzb (L:Ls):jQ (none::L)=jQ L:=by simp[jQ]
@[simp] theorem jV (L T:Ls):j8 (L++T)=j8 L++j8 T:=by simp[j8]
@[simp] theorem kW (L T:Ls):jQ (L++T)=jQ L++jQ T:=by simp[jQ]
theorem mem_owned{L:Ls}{a:Addr}:a∈j8 L↔∃x,some x∈L/\a∈x.own:=by
 unfold j8;rw[List.mem_flatMap];constructor
 ·rintro ⟨y,hy,h⟩;cases y with|none=>exact nomatch h|some x=>exact⟨x,hy,h⟩
 ·rintro ⟨x,hx,h⟩;exact⟨some x,hx,h⟩
theorem mem_frozen{L:Ls}{a:Addr}:a∈jQ L↔∃x,some x∈L/\a∈x.frz:=by
 unfold jQ;rw[List.mem_flatMap];constructor
 ·rintro ⟨y,hy,h⟩;cases y with|none=>exact nomatch h|some x=>exact⟨x,hy,h⟩
 ·rintro ⟨x,hx,h⟩;exact⟨some x,hx,h⟩
def Sl.ok(K:Frag)(H:Hp)(x:Sl):Prop:=RepO K H x.o x.d x.v x.as
theorem Sl.ok.al{K:Frag}{H:Hp}{x:Sl}(h:x.ok K H):∀a∈x.as,(∃xs,H a=some (.lst xs))\/(∃ φ,H a=some (.ext φ))\/∃kvs,H a=some (.dK kvs):=(RepO.wk h).al
theorem Sl.ok.some{K:Frag}{H:Hp}{x:Sl}(h:x.ok K H){a:Addr}(ha:a∈x.as):H a≠none:=λz=>by
 rcases h.al a ha with⟨xs,e⟩|⟨xs,e⟩|⟨xs,e⟩<;>(rw[z]at e;cases e)
structure World (K:Frag)(H:Hp)(L:Ls):Prop where
 ok:∀x,some x∈L->x.ok K H
 nd:(j8 L).Nodup
 ds:∀a∈j8 L,a∉jQ L
structure Step (H:Hp)(L:Ls)(H':Hp)(L':Ls):Prop where
 keep:∀a ob,H a=some ob->a∉j8 L->H' a=some ob
 own:∀a∈j8 L',a∈j8 L\/H a=none
 frz:∀a∈jQ L',a∈jQ L\/a∈j8 L\/H a=none
section
variable {K:Frag}{H H1 H2 H':Hp}{L L1 L2' L' T:Ls}{x y:Sl}
theorem World.own_al(w:World K H L){a:Addr}(h:a∈j8 L):(∃xs,H a=some (.lst xs))\/(∃ φ,H a=some (.ext φ))\/∃kvs,H a=some (.dK kvs):=by
 obtain⟨x,hx,ha⟩:=mem_owned.mp h;exact(w.ok x hx).al a (Sl.own_as ha)
theorem World.own_some(w:World K H L){a:Addr}(h:a∈j8 L):H a≠none:=by
 obtain⟨x,hx,ha⟩:=mem_owned.mp h;exact(w.ok x hx).some (Sl.own_as ha)
theorem World.frz_some(w:World K H L){a:Addr}(h:a∈jQ L):H a≠none:=by
 obtain⟨x,hx,ha⟩:=mem_frozen.mp h;exact(w.ok x hx).some (Sl.frz_as ha)
theorem Step.refl:Step H L H L:=⟨λ_ _ h _=>h,λ_ h=>.inl h,λ_ h=>.inl h⟩
theorem Step.trans(a:Step H L H1 L1)(b:Step H1 L1 H2 L2'):Step H L H2 L2' where
 keep:=λc ob h hn=>b.keep c ob (a.keep c ob h hn) λz=>(a.own c z).elim hn λe=>by rw[h]at e;cases e
 own:=λc hc=>by
  rcases b.own c hc with z|z
  ·exact a.own c z
  ·by_cases h:c∈j8 L
   ·exact .inl h
   ·refine .inr ?_;cases e:H c with|none=>rfl|some ob=>rw[a.keep c ob e h]at z;cases z
 frz:=λc hc=>by
  rcases b.frz c hc with z|z|z
  ·exact a.frz c z
  ·exact .inr (a.own c z)
  ·by_cases h:c∈j8 L
   ·exact .inr (.inl h)
   ·refine .inr (.inr ?_);cases e:H c with|none=>rfl|some ob=>rw[a.keep c ob e h]at z;cases z
theorem Step.kp(a:Step H L H' L')(w:World K H L){as:List Addr}(h:∀b∈as,b∉j8 L):Kp H H' as:=by
 have no:∀b ob,H b=some ob->(∀xs,ob≠.lst xs)->(∀ φ,ob≠.ext φ)->(∀kvs,ob≠.dK kvs)->H' b=some ob:=λb ob e h1 h2 h3=>a.keep b ob e λz=>by
  rcases w.own_al z with⟨xs,q⟩|⟨es,q⟩|⟨es,q⟩
  ·rw[e]at q;cases q;exact h1 _ rfl
  ·rw[e]at q;cases q;exact h2 _ rfl
  ·rw[e]at q;cases q;exact h3 _ rfl
 exact⟨λb xs e=>no b _ e (λ_ z=>(nomatch z)) (λ_ z=>(nomatch z)) (λ_ z=>(nomatch z)),λb o u e=>no b _ e (λ_ z=>(nomatch z)) (λ_ z=>(nomatch z)) (λ_ z=>(nomatch z)),λb hb ob e=>a.keep b ob e (h b hb)⟩
theorem Step.frame(a:Step H L H' L')(w:World K H (L++T))(w':World K H' L')(wL:World K H L):World K H' (L'++T):=by
 have nd:=w.nd;rw [jV,Xe]at nd;have dis:∀b∈j8 L,b∉j8 T:=λb hb hT=>nd.2.2 b hb b hT rfl
 have ir:∀x,some x∈T->x.ok K H:=λx hx=>w.ok x (lr9 _ hx)
 have nT:∀x,some x∈T->∀b∈x.as,b∉j8 L:=λx hx b hb hL=>by
  rcases Sl.as_of hb with z|z
  ·exact dis b hL (mem_owned.mpr ⟨x,hx,z⟩)
  ·refine w.ds b (by rw[jV];exact ll9 _ hL) ?_;rw[kW];exact lr9 _ (mem_frozen.mpr ⟨x,hx,z⟩)
 refine⟨λx hx=>?_,?_,λb hb=>?_⟩
 ·rcases aA hx with hx|hx
  ·exact w'.ok x hx
  ·exact(ir x hx).kp (a.kp wL (nT x hx))
 ·rw[jV,Xe];refine⟨w'.nd,nd.2.1,λb hb c hc e=>?_⟩;subst e;obtain⟨x,hx,fh⟩:=mem_owned.mp hc;rcases a.own b hb with z|z
  ·exact dis b z hc
  ·exact(ir x hx).some (Sl.own_as fh) z
 ·rw[jV]at hb;rw[kW];intro hf;rcases aA hb with hb|hb
  ·rcases aA hf with hf|hf
   ·exact w'.ds b hb hf
   ·obtain⟨x,hx,fh⟩:=mem_frozen.mp hf;rcases a.own b hb with z|z
    ·exact nT x hx b (Sl.frz_as fh) z
    ·exact(ir x hx).some (Sl.frz_as fh) z
  ·rcases aA hf with hf|hf
   ·obtain⟨x,hx,fh⟩:=mem_owned.mp hb;rcases a.frz b hf with z|z|z
    ·exact w.ds b (by rw[jV];exact lr9 _ hb) (by rw[kW];exact ll9 _ z)
    ·exact dis b z hb
    ·exact(ir x hx).some (Sl.own_as fh) z
   ·exact w.ds b (by rw[jV];exact lr9 _ hb) (by rw[kW];exact lr9 _ hf)
theorem World.left(w:World K H (L++T)):World K H L:=by
 have nd:=w.nd;rw[jV,Xe]at nd;exact⟨λx hx=>w.ok x (ll9 _ hx),nd.1,λa ha hf=>w.ds a (by rw[jV];exact ll9 _ ha) (by rw[kW];exact ll9 _ hf)⟩
theorem World.right(w:World K H (L++T)):World K H T:=by
 have nd:=w.nd;rw[jV,Xe]at nd;exact⟨λx hx=>w.ok x (lr9 _ hx),nd.2.1,λa ha hf=>w.ds a (by rw[jV];exact lr9 _ ha) (by rw[kW];exact lr9 _ hf)⟩
theorem World.comm(w:World K H (L++T)):World K H (T++L):=by
 refine⟨λx hx=>w.ok x ?_,?_,λa ha hf=>w.ds a ?_ ?_⟩
 ·rcases aA hx with h|h
  ·exact lr9 _ h
  ·exact ll9 _ h
 ·have nd:=w.nd;rw[jV,Xe]at nd ⊢;exact⟨nd.2.1,nd.1,λa ha b hb e=>nd.2.2 b hb a ha e.symm⟩
 ·rw[jV]at ha ⊢;rcases aA ha with h|h
  ·exact lr9 _ h
  ·exact ll9 _ h
 ·rw[kW]at hf ⊢;rcases aA hf with h|h
  ·exact lr9 _ h
  ·exact ll9 _ h
theorem World.tail{q:Option Sl}(w:World K H (q::L)):World K H L:=World.right (L:=[q]) w
theorem World.head(w:World K H (some x::L)):x.ok K H:=w.ok x X6
theorem World.apart(w:World K H (some x::L)):∀a∈x.as,a∉j8 L:=λa ha hL=>by
 rcases Sl.as_of ha with z|z
 ·have nd:=w.nd;rw[k3,Xe]at nd;exact nd.2.2 a z a hL rfl
 ·exact w.ds a (by rw[k3];exact lr9 _ hL) (by rw[qY];exact ll9 _ z)
theorem World.cons(w:World K H L)(h:x.ok K H)(n:x.own.Nodup)(h1:∀a∈x.own,a∉j8 L)(h2:∀a∈x.own,a∉jQ L)(h3:∀a∈x.frz,a∉j8 L)(h4:∀a∈x.own,a∉x.frz):World K H (some x::L):=by
 refine⟨λy hy=>?_,?_,λa ha hf=>?_⟩
 ·rcases aD hy with z|z
  ·cases z;exact h
  ·exact w.ok y z
 ·rw[k3,Xe];exact⟨n,w.nd,λa ha b hb e=>by subst e;exact h1 a ha hb⟩
 ·rw[k3]at ha;rw[qY]at hf;rcases aA ha with ha|ha
  ·rcases aA hf with hf|hf
   ·exact h4 a ha hf
   ·exact h2 a ha hf
  ·rcases aA hf with hf|hf
   ·exact h3 a hf ha
   ·exact w.ds a ha hf
theorem World.consNo(w:World K H L)(h:x.ok K H)(ho:x.o=.no)(h3:∀a∈x.as,a∉j8 L):World K H (some x::L):=by
 have e1:x.own=[]:=by unfold Sl.own;rw[ho]
 have e2:x.frz=x.as:=by unfold Sl.frz;rw[ho]
 exact w.cons h (by rw[e1];exact Xs) (by rw[e1];exact λ_ z=>nomatch z) (by rw[e1];exact λ_ z=>nomatch z) (by rw[e2];exact h3) (by rw[e1];exact λ_ z=>nomatch z)
theorem World.consPu(w:World K H L)(h:x.ok K H)(e:x.as=[]):World K H (some x::L):=by
 have e1:∀a,a∉x.own:=λa ha=>by have:=Sl.own_as ha;rw[e]at this;exact nomatch this
 have e2:∀a,a∉x.frz:=λa ha=>by have:=Sl.frz_as ha;rw[e]at this;exact nomatch this
 have e3:x.own=[]:=List.eq_nil_iff_forall_not_mem.mpr e1;exact w.cons h (by rw[e3];exact Xs) (λa z=>absurd z (e1 a)) (λa z=>absurd z (e1 a)) (λa z=>absurd z (e2 a)) (λa z=>absurd z (e1 a))
theorem jqi{L:Ls}{i:Nat}{q:Option Sl}(h:some y∈L.set i q):q=some y\/some y∈L:=by
 rcases List.mem_or_eq_of_mem_set h with z|z
 ·exact .inr z
 ·exact .inl z.symm
theorem W0{i:Nat}{a:Addr}(h:a∈j8 (L.set i (some x))):a∈x.own\/a∈j8 L:=by
 obtain⟨y,hy,ha⟩:=mem_owned.mp h;rcases jqi hy with z|z
 ·cases z;exact .inl ha
 ·exact .inr (mem_owned.mpr ⟨y,z,ha⟩)
theorem ZJ{i:Nat}{a:Addr}(h:a∈jQ (L.set i (some x))):a∈x.frz\/a∈jQ L:=by
 obtain⟨y,hy,ha⟩:=mem_frozen.mp h;rcases jqi hy with z|z
 ·cases z;exact .inl ha
 ·exact .inr (mem_frozen.mpr ⟨y,z,ha⟩)
theorem jq8:∀{L:Ls} {i:Nat},(x.own++j8 L).Nodup->(j8 (L.set i (some x))).Nodup
 |[],_,h=>by simp
 |q::L,0,h=>by
  rw[List.set_cons_zero,k3];have e:j8 (q::L)=q.elim [] Sl.own++j8 L:=by simp[j8]
  rw[e,Xe]at h;obtain⟨h1,h2,h3⟩:=h;rw[Xe]at h2 ⊢;exact⟨h1,h2.2.1,λa ha b hb=>h3 a ha b (lr9 _ hb)⟩
 |q::L,i+1,h=>by
  rw[List.set_cons_succ];have e:∀M:Ls,j8 (q::M)=q.elim [] Sl.own++j8 M:=λM=>by simp[j8]
  rw[e]at h ⊢;rw[Xe]at h;obtain⟨h1,h2,h3⟩:=h;rw[Xe]at h2;rw[Xe];refine⟨h2.1,jq8 (by rw[Xe];exact⟨h1,h2.2.1,λa ha b hb=>h3 a ha b (lr9 _ hb)⟩),λa ha b hb e=>?_⟩;subst e;rcases W0 hb with z|z
  ·exact h3 a z a (ll9 _ ha) rfl
  ·exact h2.2.2 a ha a z rfl
theorem World.set{i:Nat}(w:World K H (some x::L)):World K H (L.set i (some x)):=by
 refine⟨λy hy=>?_,jq8 (by have:=w.nd;rwa [k3]at this),λa ha hf=>?_⟩
 ·rcases jqi hy with z|z
  ·cases z;exact w.head
  ·exact w.ok y (lc9 _ z)
 ·refine w.ds a ?_ ?_
  ·rw[k3];exact List.mem_append.mpr (W0 ha)
  ·rw[qY];exact List.mem_append.mpr (ZJ hf)
theorem Step.set{i:Nat}:Step H (some x::L) H (L.set i (some x)) where
 keep:=λ_ _ h _=>h
 own:=λa ha=>.inl (by rw[k3];exact List.mem_append.mpr (W0 ha))
 frz:=λa ha=>.inl (by rw[qY];exact List.mem_append.mpr (ZJ ha))
theorem Step.drop{q:Option Sl}:Step H (q::L) H L where
 keep:=λ_ _ h _=>h
 own:=λa ha=>.inl (by rw[show(q::L:Ls)=[q]++L from rfl,jV];exact lr9 _ ha)
 frz:=λa ha=>.inl (by rw[show(q::L:Ls)=[q]++L from rfl,kW];exact lr9 _ ha)
theorem v5{i:Nat}(h:L[i]?=some (some x)):some x∈L:=List.mem_of_getElem? h
theorem V1(x:Sl):x.let.own=[]/\x.let.frz=x.as/\x.let.as=x.as:=⟨rfl,rfl,rfl⟩
theorem kw0{i:Nat}{a:Addr}(h:a∈j8 (L.set i (some x.let))):a∈j8 L:=by
 rcases W0 h with z|z
 ·exact nomatch z
 ·exact z
theorem kz5:∀{L:Ls} {i:Nat},(j8 L).Nodup->(∀a∈j8 L,a∉jQ L)->L[i]?=some (some x)->∀a∈x.as,a∉j8 (L.set i (some x.let))
 | [],_,_,_,h,_,_=>by simp at h
 | q::L,0,nd,ds,h,a,ha=>by
  have e:q=some x:=by simpa using h
  subst e;rw[List.set_cons_zero,k3];intro hm;have hm:a∈j8 L:=by simpa [V1]using hm
  rcases Sl.as_of ha with z|z
  ·rw[k3,Xe]at nd;exact nd.2.2 a z a hm rfl
  ·exact ds a (by rw[k3];exact lr9 _ hm) (by rw[qY];exact ll9 _ z)
 | q::L,i+1,nd,ds,h,a,ha=>by
  have h:L[i]?=some (some x):=by simpa using h
  rw[List.set_cons_succ];have e:∀M:Ls,j8 (q::M)=q.elim [] Sl.own++j8 M:=λM=>by simp[j8]
  have f:jQ (q::L)=q.elim [] Sl.frz++jQ L:=by simp[jQ]
  rw[e];intro hm;rw[e,Xe]at nd;rcases aA hm with hm|hm
  ·rcases Sl.as_of ha with z|z
   ·exact nd.2.2 a hm a (mem_owned.mpr ⟨x,v5 h,z⟩) rfl
   ·exact ds a (by rw[e];exact ll9 _ hm) (by rw[f];exact lr9 _ (mem_frozen.mpr ⟨x,v5 h,z⟩))
  ·exact kz5 (L:=L) nd.2.1 (λb hb hf=>ds b (by rw[e];exact lr9 _ hb) (by rw[f];exact lr9 _ hf)) h a ha hm
theorem Qv(h:x.ok K H):x.let.ok K H:=RepO.wk h
theorem World.let{i:Nat}(w:World K H L)(h:L[i]?=some (some x)):World K H (L.set i (some x.let)):=by
 have out:=kz5 w.nd w.ds h;refine⟨λy hy=>?_,jq8 (by rw[(V1 x).1];exact w.nd),λa ha hf=>?_⟩
 ·rcases jqi hy with z|z
  ·cases z;exact Qv (w.ok x (v5 h))
  ·exact w.ok y z
 ·rcases ZJ hf with z|z
  ·exact out a z ha
  ·exact w.ds a (kw0 ha) z
theorem World.read{i:Nat}(w:World K H L)(h:L[i]?=some (some x)):World K H (some x.let::L.set i (some x.let)):=
 (w.let h).consNo (Qv (w.ok x (v5 h))) rfl (kz5 (x:=x) w.nd w.ds h)
theorem Step.read{i:Nat}(h:L[i]?=some (some x)):Step H L H (some x.let::L.set i (some x.let)) where
 keep:=λ_ _ h _=>h
 own:=λa ha=>.inl (by rw[k3,(V1 x).1]at ha;exact kw0 ha)
 frz:=λa ha=>by
  have hx:=v5 h;have q:∀a∈x.as,a∈jQ L\/a∈j8 L\/H a=none:=λa ha=>by
   rcases Sl.as_of ha with z|z
   ·exact .inr (.inl (mem_owned.mpr ⟨x,hx,z⟩))
   ·exact .inl (mem_frozen.mpr ⟨x,hx,z⟩)
  rw[qY]at ha;rcases aA ha with z|z
  ·exact q a z
  ·rcases ZJ z with z|z
   ·exact q a z
   ·exact .inl z
end
inductive Mt:En->L2.St->Ls->Prop
 |nil:Mt [] [] []
 |un {E:En} {σ:L2.St} {L:Ls} {y:Option V}:Mt E σ L->Mt (none::E) (y :: σ) (none::L)
 |cons {E:En} {σ:L2.St} {L:Ls} {x:Sl}:Mt E σ L->Mt (some (x.o,x.d)::E) (some x.v :: σ) (some x::L)
theorem Mt.get:∀{E:En} {σ:L2.St} {L:Ls} {i:Nat} {o:Own} {d:D},Mt E σ L->E[i]?=some (some (o,d))->∃x,L[i]?=some (some x)/\x.o=o/\x.d=d/\σ[i]?=some (some x.v)
 |_,_,_,_,_,_,.nil,h=>by simp at h|_,_,_,0,_,_,.un _,h=>by simp at h|_,_,_,i+1,_,_,.un m,h=>by simpa using m.get (i:=i) (by simpa using h)
 |_,_,_,0,_,_,.cons (x:=x) m,h=>by
  simp only[List.getElem?_cons_zero,Option.some.injEq,Prod.mk.injEq]at h;exact⟨x,by simp,h.1,h.2,by simp⟩
 |_,_,_,i+1,_,_,.cons m,h=>by simpa using m.get (i:=i) (by simpa using h)
theorem Mt.set{x:Sl}:∀{E:En} {σ:L2.St} {L:Ls} (i:Nat),Mt E σ L->Mt (E.set i (some (x.o,x.d))) (σ.set i (some x.v)) (L.set i (some x))
 |_,_,_,_,.nil=>.nil|_,_,_,0,.un m=>.cons m|_,_,_,i+1,.un m=>.un (m.set i)|_,_,_,0,.cons m=>.cons m|_,_,_,i+1,.cons m=>.cons (m.set i)
theorem Mt.let{x:Sl}:∀{E:En} {σ:L2.St} {L:Ls} {i:Nat},Mt E σ L->L[i]?=some (some x)->Mt (E.set i (some (.no,x.d))) σ (L.set i (some x.let))
 |_,_,_,_,.nil,h=>by simp at h|_,_,_,0,.un m,h=>by simp at h|_,_,_,i+1,.un m,h=>.un (m.let (i:=i) (by simpa using h))
 |_,_,_,0,.cons (x:=y) m,h=>by
  have e:y=x:=by simpa using h
  subst e;exact .cons (x:=y.let) m
 |_,_,_,i+1,.cons m,h=>.cons (m.let (i:=i) (by simpa using h))
theorem Mt.len:∀{E:En} {σ:L2.St} {L:Ls},Mt E σ L->E.length=σ.length/\L.length=σ.length
 |_,_,_,.nil=>⟨rfl,rfl⟩|_,_,_,.un m=>by simp[m.len]|_,_,_,.cons m=>by simp[m.len]
def sls(L:Ls):List Sl:=L.filterMap id
theorem K3(L:Ls):j8 L=(sls L).flatMap Sl.own:=by
 induction L with
 |nil=>rfl
 |cons q L ih=>
  cases q with|none=>rw[qkf,ih];rfl|some x=>rw[k3,ih];rfl
theorem Q6(L:Ls):jQ L=(sls L).flatMap Sl.frz:=by
 induction L with
 |nil=>rfl
 |cons q L ih=>
  cases q with|none=>rw[kzb,ih];rfl|some x=>rw[qY,ih];rfl
theorem mem_sls{L:Ls}{x:Sl}:x∈sls L↔some x∈L:=by simp[sls]
@[simp] theorem Qq (L T:Ls):sls (L++T)=sls L++sls T:=by simp[sls]
@[simp] theorem qzs (L:Ls):sls (none::L)=sls L:=rfl
@[simp] theorem kzu (x:Sl)(L:Ls):sls (some x::L)=x::sls L:=rfl
@[simp] theorem wwg:sls []=[]:=rfl
@[simp] theorem wwh (T:List Sl):sls (T.map some)=T:=by simp[sls]
@[simp] theorem vva (k:Nat):sls (List.replicate k none)=[]:=by
 induction k with|zero=>rfl|succ k ih=>rw[List.replicate_succ,qzs,ih]
theorem Zv{α β:Type}(f:α->List β){l l':List α}(h:l.Sublist l'):(l.flatMap f).Sublist (l'.flatMap f):=by
 induction h with|slnil=>exact Z3 _|cons a _ ih=>rw[Zi];exact List.Sublist.trans ih (List.sublist_append_right _ _)|cons_cons a _ ih=>rw[Zi,Zi];exact List.Sublist.append (Z3 _) ih
section
variable {K:Frag}{H H':Hp}{L L' M M':Ls}
theorem World.same(w:World K H L)(p:(sls L).Perm (sls L')):World K H L':=by
 have po:(j8 L).Perm (j8 L'):=by rw[K3,K3];exact p.flatMap_right _
 have pf:(jQ L).Perm (jQ L'):=by rw[Q6,Q6];exact p.flatMap_right _
 exact⟨λx hx=>w.ok x (mem_sls.mp (p.mem_iff.mpr (mem_sls.mpr hx))),po.nodup_iff.mp w.nd,λa ha hf=>w.ds a (po.mem_iff.mpr ha) (pf.mem_iff.mpr hf)⟩
theorem Step.same(s:Step H L H' L')(p:(sls L).Perm (sls M))(p':(sls L').Perm (sls M')):Step H M H' M':=by
 have po:(j8 L).Perm (j8 M):=by rw[K3,K3];exact p.flatMap_right _
 have pf:(jQ L).Perm (jQ M):=by rw[Q6,Q6];exact p.flatMap_right _
 have po':(j8 L').Perm (j8 M'):=by rw[K3,K3];exact p'.flatMap_right _
 have pf':(jQ L').Perm (jQ M'):=by rw[Q6,Q6];exact p'.flatMap_right _
 exact⟨λa ob h hn=>s.keep a ob h λz=>hn (po.mem_iff.mp z),λa ha=>(s.own a (po'.mem_iff.mpr ha)).imp (λz=>po.mem_iff.mp z) id,
  λa ha=>(s.frz a (pf'.mem_iff.mpr ha)).imp (λz=>pf.mem_iff.mp z) λz=>z.imp (λz=>po.mem_iff.mp z) id⟩
theorem World.sub(w:World K H L)(p:(sls L').Sublist (sls L)):World K H L':=by
 refine⟨λx hx=>w.ok x (mem_sls.mp (p.subset (mem_sls.mpr hx))),?_,λa ha hf=>w.ds a ?_ ?_⟩
 ·have:=w.nd;rw[K3]at this ⊢;exact(Zv _ p).nodup this
 ·rw[K3]at ha ⊢;exact(Zv _ p).subset ha
 ·rw[Q6]at hf ⊢;exact(Zv _ p).subset hf
theorem Step.sub(s:Step H L H' L')(p:(sls M).Sublist (sls L')):Step H L H' M:=by
 refine⟨s.keep,λa ha=>s.own a ?_,λa ha=>s.frz a ?_⟩
 ·rw[K3]at ha ⊢;exact(Zv _ p).subset ha
 ·rw[Q6]at ha ⊢;exact(Zv _ p).subset ha
end
theorem jx4:∀{L:Ls} {j:Nat},(sls (at' L j::L.set j none)).Perm (sls L)
 | [],j=>by simp[at',sls]
 | q::L,0=>by
  cases q with|none=>simp[at',sls]|some x=>simp[at',sls]
 | q::L,j+1=>by
  have ih:=jx4 (L:=L) (j:=j);have e:at' (q::L) (j+1)=at' L j:=by simp[at']
  rw[e,List.set_cons_succ];have e2:∀(a b:Option Sl) (M:Ls),(sls (a::b::M)).Perm (sls (b::a::M)):=λa b M=>by
   cases a<;>cases b<;>simp[sls]
   exact List.Perm.swap ..
  refine(e2 _ _ _).trans ?_;cases q with|none=>simpa [sls]using ih|some y=>simpa [sls]using ih
theorem qju:∀{R:List Nat} {L:Ls},R.Nodup->(sls (R.map (at' L)++clr R L)).Perm (sls L)
 | [],L,_=>by simp[clr]
 | j::R,L,h=>by
  rw[Zg]at h;have e:R.map (at' L)=R.map (at' (L.set j none)):=by
   apply Yf;intro i hi;have:j≠i:=λe=>h.1 (e▸hi)
   unfold at';rw[Ym this]
  rw[List.map_cons,List.cons_append,clr,e];have ih:=qju (R:=R) (L:=L.set j none) h.2;refine List.Perm.trans ?_ (jx4 (L:=L) (j:=j));cases hq:at' L j with|none=>simpa [sls]using ih|some x=>simpa [sls]using ih
theorem qxr{α:Type}:∀{R:List Nat} {L:List (Option α)},(clr R L).length=L.length
 |[],_=>rfl|j::R,L=>by rw[clr,qxr,Yy]
theorem qxs{α:Type}:∀{R:List Nat} {L:List (Option α)} {j:Nat},j∈R->at' (clr R L) j=none
 | [],_,_,h=>by cases h
 | i :: R,L,j,h=>by
  rw [clr]
  by_cases hR:j∈R
  ·exact qxs hR
  ·have e:j=i:=by simpa [hR]using h
   subst e;have gen:∀{R:List Nat} {M:List (Option α)},j∉R->at' (clr R M) j=at' M j:=by
    intro R
    induction R with
    |nil=>intro M _;rfl
    |cons r R ih=>
     intro M h;rw[Y4,not_or]at h;rw[clr,ih h.2];unfold at';rw[Ym (Ne.symm h.1)]
   rw[gen hR];unfold at'
   by_cases hl:j<L.length
   ·rw[Z9 hl];rfl
   ·rw[List.set_eq_of_length_le ⋯,Xx ⋯];rfl
theorem kxb:∀{R:List Nat} {B L:Ls},R.Nodup->(∀j∈R,at' L j=none)->(∀j∈R,j<L.length)->B.length=R.length->(sls (back R B L)).Perm (sls (B++L))
 | [],B,L,_,_,_,hl=>by
  have:B=[]:=by simpa using hl
  subst this;simp [back]
 | j :: R,[],L,_,_,_,hl=>by simp at hl
 | j :: R,q::B,L,hn,hz,hr,hl=>by
  rw [Zg]at hn;rw [back];have hj:=hr j X6;have ih:=kxb (R:=R) (B:=B) (L:=L.set j q) hn.2 (λi hi=>by
   have:j≠i:=λe=>hn.1 (e▸hi)
   unfold at';rw [Ym this];exact hz i (lc9 _ hi)) (λi hi=>by rw[Yy];exact hr i (lc9 _ hi)) (by simpa using hl)
  refine ih.trans ?_;have sp:∀{M:Ls} {i:Nat},at' M i=none->i<M.length->(sls (M.set i q)).Perm (sls (q::M)):=by
   intro M
   induction M with
   | nil=>intro i _ h;simp at h
   | cons r M ihM=>
    intro i h1 h2;cases i with
    | zero=>
     have:r=none:=by simpa [at']using h1
     subst this;cases q<;>simp[sls]
    | succ i=>
     have:=ihM (i:=i) (by simpa [at']using h1) (by simpa using h2);rw[List.set_cons_succ];cases r with
     | none=>cases q<;>simpa [sls]using this
     | some y=>
      cases q with
      |none=>simpa [sls]using this
      |some x=>
       simp only[kzu]at this ⊢;exact(this.cons y).trans (List.Perm.swap ..)
  rw[Qq,List.cons_append];have h1:=sp (hz j X6) hj;have h2:(sls B++sls (L.set j q)).Perm (sls B++sls (q::L)):=h1.append_left _;refine h2.trans ?_;cases q with
  |none=>simp
  |some x=>
   simp only[kzu,Qq];exact List.perm_middle
section
variable {K:Frag}{H H1 H2 H':Hp}{L L1 L' T:Ls}{x y:Sl}
theorem Vk(p:L.Perm L'):(j8 L).Perm (j8 L'):=p.flatMap_right _
theorem jvg(p:L.Perm L'):(jQ L).Perm (jQ L'):=p.flatMap_right _
theorem World.perm(w:World K H L)(p:L.Perm L'):World K H L':=
 ⟨λx hx=>w.ok x (p.mem_iff.mpr hx),(Vk p).nodup_iff.mp w.nd,λa ha hf=>w.ds a ((Vk p).mem_iff.mpr ha) ((jvg p).mem_iff.mpr hf)⟩
theorem Step.perm(s : Step H L H' L'){M M' : Ls}(p : L.Perm M)(p' : L'.Perm M'): Step H M H' M':=
  ⟨λa ob h hn=>s.keep a ob h λz=>hn ((Vk p).mem_iff.mp z),
   λa ha=>(s.own a ((Vk p').mem_iff.mpr ha)).imp (λz=>(Vk p).mem_iff.mp z) id,
   λa ha=>(s.frz a ((jvg p').mem_iff.mpr ha)).imp (λz=>(jvg p).mem_iff.mp z) λz=>z.imp (λz=>(Vk p).mem_iff.mp z) id⟩
theorem Step.frm(s:Step H L H' L'):Step H (L++T) H' (L'++T) where
 keep:=λa ob h hn=>s.keep a ob h λz=>hn (by rw[jV];exact ll9 _ z)
 own:=λa ha=>by
  rw[jV]at ha ⊢;rcases aA ha with z|z
  ·exact(s.own a z).imp (ll9 _) id
  ·exact .inl (lr9 _ z)
 frz:=λa ha=>by
  rw[kW]at ha ⊢;rw[jV];rcases aA ha with z|z
  ·exact(s.frz a z).imp (ll9 _) λz=>z.imp (ll9 _) id
  ·exact .inl (lr9 _ z)
theorem ZV(w:World K H (T++L))(s:Step H L H' L')(w':World K H' L'):World K H' (T++L')/\Step H (T++L) H' (T++L'):=by
 have w1:World K H (L++T):=w.comm;exact⟨(s.frame w1 w' w1.left).comm,s.frm.perm Zd Zd⟩
end
theorem ex8{α β γ:Type}{P:Prop}{a b c d e:α->β->γ->Prop}(h:∃x y z,a x y z/\b x y z/\c x y z/\d x y z/\e x y z)(f:∀x y z,a x y z->b x y z->c x y z->d x y z->e x y z->P):P:=
 h.elim λx h=>h.elim λy h=>h.elim λz h=>f x y z h.1 h.2.1 h.2.2.1 h.2.2.2.1 h.2.2.2.2
theorem ex7{α β γ:Type}{P:Prop}{a b c d:α->β->γ->Prop}(h:∃x y z,a x y z/\b x y z/\c x y z/\d x y z)(f:∀x y z,a x y z->b x y z->c x y z->d x y z->P):P:=
 h.elim λx h=>h.elim λy h=>h.elim λz h=>f x y z h.1 h.2.1 h.2.2.1 h.2.2.2
theorem q9{X:Cx}{e:Expr}{t t':TE}(h:PE X e t)(w:∀ σ H Q,t' σ H Q->t σ H Q):PE X e t':=λpins s σ H Q I q=>h pins s σ H Q I (w σ H Q q)
theorem qvk{X:Cx}{e:Expr}{t t':TT}(h:PT X e t)(w:∀ σ H Q,t' σ H Q->t σ H Q):PT X e t':=λpins s σ H Q I q=>h pins s σ H Q I (w σ H Q q)
theorem J4{X:Cx}{e:Stmt}{t t':TS}(h:PS X e t)(w:∀D σ H,t' D σ H->t D σ H):PS X e t':=λpins s σ H D I q=>h pins s σ H D I (w D σ H q)
theorem qvl{X:Cx}{e:List Stmt}{t t':TS}(h:PSs X e t)(w:∀D σ H,t' D σ H->t D σ H):PSs X e t':=λpins s σ H D I q=>h pins s σ H D I (w D σ H q)
structure Fx0 where
 K:Frag
 mg:Str->Option Value
 EX:XK
def Xc{α:Type}(Z:Fx0)(σ:L2.St)(H:Hp)(L:Ls)(r:Res α):Prop:=∀E' c,r=.exc E' c->∀C L' H',Z.mg c=some (.ref C)->Mt E' σ L'->World Z.K H' L'->Step H L H' L'->Z.EX (.ref C) none H'
theorem Xc.step{α:Type}{Z:Fx0}{σ:L2.St}{H H1:Hp}{L L1:Ls}{r:Res α}(x:Xc Z σ H L r)(s:Step H L H1 L1):Xc Z σ H1 L1 r:=λE' c e C L' H' hm m w s'=>x E' c e C L' H' hm m w (s.trans s')
theorem Xc.map{α β:Type}{Z:Fx0}{σ:L2.St}{H:Hp}{L:Ls}{r:Res α}{E':En}{c:Str}(x:Xc Z σ H L r)(e:r=.exc E' c):Xc Z σ H L (.exc E' c:Res β):=λE1 c1 e1=>by
 injection e1 with h1 h2;subst h1 h2;exact x _ _ e
def tQ(Z:Fx0)(q:Bool)(c:Ex):TE:=fun σ H Q=>∃E L r,Mt E σ L/\World Z.K H L/\c E=some r/\Xc Z σ H L r /\
 ∀E' a,r=.ok E' a->∀(x:Sl) L' H',x.o=a.1->x.d=a.2->Mt E' σ L'->World Z.K H' (some x::L')->Step H L H' (some x::L')->(q=true->jY H H'/\∀b∈x.own,H b=none)->Q x.v H'
def Src(H:Hp)(L:Ls)(as:List Addr):Prop:=∀b∈as,b∈jQ L\/b∈j8 L\/H b=none
theorem Src.back{H H1:Hp}{L L1:Ls}{as:List Addr}(h:Src H1 L1 as)(s:Step H L H1 L1):Src H L as:=λb hb=>by
 rcases h b hb with z|z|z
 ·exact s.frz b z
 ·exact .inr (s.own b z)
 ·by_cases ho:b∈j8 L
  ·exact .inr (.inl ho)
  ·refine .inr (.inr ?_);cases e:H b with|none=>rfl|some ob=>rw[s.keep b ob e ho]at z;cases z
def tV(Z:Fx0)(q:Bool)(c:Ex):TE:=fun σ H Q=>∃E L r,Mt E σ L/\World Z.K H L/\c E=some r/\Xc Z σ H L r /\
 ∀E' a,r=.ok E' a->∀(x:Sl) L' H',x.o=a.1->x.d=a.2->Mt E' σ L'->World Z.K H' L'->x.ok Z.K H'->(∀b∈x.frz,b∉j8 L')->Src H L x.as->Step H L H' L'->(q=true->jY H H')->Q x.v H'
def QE(X:Cx)(Z:Fx0)(q:Bool)(c:Ex)(e:Expr):Prop:=PE X e (tQ Z q c)
def QV(X:Cx)(Z:Fx0)(q:Bool)(c:Ex)(e:Expr):Prop:=PE X e (tV Z q c)
section
variable {X:Cx}{Z:Fx0}{q qa qb:Bool}{a b c:Ex}{e ea eb:Expr}{pos:Pos}{α:Type}{σ:L2.St}{H:Hp}{L:Ls}{E:En}
theorem x4{β:Type}{m:Option (Res α)}{F:En->α->Option (Res β)}{r:Res β}(h:bnd m F=some r):(∃E1 x,m=some (.ok E1 x)/\F E1 x=some r)\/∃E1 c,m=some (.exc E1 c)/\r=.exc E1 c:=by
 cases m with
 |none=>cases h
 |some q=>
  cases q with|ok E1 x=>exact .inl ⟨E1,x,rfl,h⟩|exc E1 c=>exact .inr ⟨E1,c,rfl,(oq9 h).symm⟩
theorem WX{F:En->Sd->Option (Res α)}{r:Res α}{G:VK}(m:Mt E σ L)(w:World Z.K H L)(h:bnd (a E) F=some r)(xc:Xc Z σ H L r)
  (k:∀E1 s,F E1 s=some r->∀(x:Sl) L1 H1,x.o=s.1->x.d=s.2->Mt E1 σ L1->World Z.K H1 (some x::L1)->Step H L H1 (some x::L1)->(q=true->jY H H1/\∀b∈x.own,H b=none)->G x.v H1):tQ Z q a σ H G:=by
 rcases x4 h with⟨E1,s,h1,h2⟩|⟨E1,c,h1,h2⟩
 ·exact⟨E,L,_,m,w,h1,(λ_ _ z=>by cases z),λE' s' z x L' H' e1 e2 m' w' st sm=>by
   injection z with z1 z2;subst z1 z2;exact k _ _ h2 x L' H' e1 e2 m' w' st sm⟩
 ·exact⟨E,L,_,m,w,h1,xc.map h2,λE' s' z=>by cases z⟩
theorem v8{F:En->Sd->Option (Res α)}{r:Res α}{G:VK}(m:Mt E σ L)(w:World Z.K H L)(h:bnd (a E) F=some r)(xc:Xc Z σ H L r)
  (k:∀E1 s,F E1 s=some r->∀(x:Sl) L1 H1,x.o=s.1->x.d=s.2->Mt E1 σ L1->World Z.K H1 L1->x.ok Z.K H1->(∀b∈x.frz,b∉j8 L1)->Src H L x.as->Step H L H1 L1->(q=true->jY H H1)->G x.v H1):tV Z q a σ H G:=by
 rcases x4 h with⟨E1,s,h1,h2⟩|⟨E1,c,h1,h2⟩
 ·exact⟨E,L,_,m,w,h1,(λ_ _ z=>by cases z),λE' s' z x L' H' e1 e2 m' w' ok fr sr st sm=>by
   injection z with z1 z2;subst z1 z2;exact k _ _ h2 x L' H' e1 e2 m' w' ok fr sr st sm⟩
 ·exact⟨E,L,_,m,w,h1,xc.map h2,λE' s' z=>by cases z⟩
theorem Q4{x:Sl}{K:Frag}{H1 H2:Hp}{L1 L2':Ls}(ok:x.ok K H1)(fr:∀b∈x.frz,b∉j8 L1)(st:Step H1 L1 H2 L2')(sm:jY H1 H2):x.ok K H2/\∀b∈x.frz,b∉j8 L2':=
 ⟨RepO.kp ok (Kp.of_same sm),λb hb ho=>(st.own b ho).elim (fr b hb) λz=>ok.some (Sl.frz_as hb) z⟩
theorem zw{x:Option α}{r:Res α}(h:val E x=some r):∃y,x=some y/\r=.ok E y:=by
 cases x with|none=>cases h|some y=>exact⟨y,rfl,(oq9 h).symm⟩
theorem jzo{x:Sl}{H1:Hp}{L1:Ls}(st:Step H L H1 (some x::L1)):Src H L x.as:=λb hb=>by
 rcases Sl.as_of hb with z|z
 ·exact .inr (st.own b (by rw[k3];exact ll9 _ z))
 ·exact st.frz b (by rw[qY];exact ll9 _ z)
theorem j6(h:QE X Z q c e):QV X Z q (vE c) e:=q9 h fun σ H Q ah=>ex8 ah λE L r m w hc xc k=>
 WX m w hc xc λE1 s h1 x L1 H1 e1 e2 m1 w1 st sm=>by
  cases oq9 h1;exact k _ _ rfl x.let L1 H1 rfl e2 m1 w1.tail (Qv w1.head) (λb hb=>w1.apart b hb) (jzo (x:=x) st) (st.trans Step.drop) λhq=>(sm hq).1
theorem K2{x:Sl}{H1:Hp}{L1:Ls}(st:Step H L H1 L1)(sr:Src H L x.as)(ho:x.own=[]):Step H L H1 (some x::L1) where
 keep:=st.keep
 own:=λb hb=>by rw[k3,ho]at hb;exact st.own b hb
 frz:=λb hb=>by
  rw[qY]at hb;rcases aA hb with z|z
  ·exact sr b (Sl.frz_as z)
  ·exact st.frz b z
theorem qw1{x:Sl}(h:x.o=.no):x.own=[]:=by unfold Sl.own;rw[h]
theorem kwq{x:Sl}(h:x.o=.no):x.frz=x.as:=by unfold Sl.frz;rw[h]
theorem vwj{x:Sl}(h:x.as=[]):x.own=[]:=List.eq_nil_iff_forall_not_mem.mpr λa ha=>by have:=Sl.own_as ha;rw[h]at this;exact nomatch this
theorem k4(h:QV X Z q c e):QE X Z q (cH c) e:=q9 h fun σ H Q ah=>ex8 ah λE L r m w hc xc k=>
 v8 m w hc xc λE1 s h1 x L1 H1 e1 e2 m1 w1 ok fr sr st sm=>by
  by_cases ho:s.1=.no
  ·rw[X8 ho]at h1;cases oq9 h1;have eo:x.o=.no:=e1.trans ho;exact k _ _ rfl x L1 H1 eo e2 m1 (w1.consNo ok eo λb hb=>fr b (by rw[kwq eo];exact hb)) (K2 st sr (qw1 eo)) λhq=>⟨sm hq,by rw[qw1 eo];exact λ_ z=>(nomatch z)⟩
  ·rw[Xf ho]at h1
   by_cases hp:s.2.pure=true
   ·rw[X8 hp]at h1;cases oq9 h1;obtain⟨z,rp⟩:=RepL.pu (g':=false) (RepO.wk ok) (by rw[e2];exact hp);exact k _ _ rfl ⟨.dp,x.d,x.v,[]⟩ L1 H1 rfl e2 m1 (w1.consPu rp rfl) (K2 (x:=⟨.dp,x.d,x.v,[]⟩) st (λb hb=>nomatch hb) rfl) λhq=>⟨sm hq,λ_ z=>(nomatch z)⟩
   ·rw[Xf hp]at h1;cases h1
theorem q_C{d:D}{v:V}(h:PE X e (tC v))(hr:∀H,RepL Z.K H false d v []):QE X Z true (cC d) e:=q9 h fun σ H Q ah=>ex8 ah λE L r m w hc xc k=>by
 cases oq9 hc;exact k _ _ rfl ⟨.dp,d,v,[]⟩ L H rfl rfl m (w.consPu (hr H) rfl) (K2 (x:=⟨.dp,d,v,[]⟩) Step.refl (λb hb=>nomatch hb) rfl) λ_=>⟨λ_ _ z=>z,λ_ z=>(nomatch z)⟩
theorem q_V{i:Nat}(h:PE X e (z4 i)):QE X Z true (cV i) e:=q9 h fun σ H Q ah=>ex8 ah λE L r m w hc xc k=>by
 unfold cV at hc
 split at hc
 ·rename_i o d hE;cases oq9 hc;obtain⟨x,h1,h2,h3,h4⟩:=m.get hE;refine⟨x.v,h4,k _ _ rfl x.let _ H rfl h3 ?_ (w.read h1) (Step.read h1) λ_=>⟨λ_ _ z=>z,λ_ z=>(nomatch z)⟩⟩;have:=m.let h1
  rwa [h3]at this
 ·cases hc
theorem vws:∀{E:En} {σ:L2.St} {L:Ls} (j:Nat),Mt E σ L->Mt (E.set j none) σ (L.set j none):=by
 intro E σ L j m
 induction m generalizing j with
 |nil=>exact .nil
 |un m ih=>cases j with|zero=>exact .un m|succ j=>exact .un (ih j)
 |cons m ih=>cases j with|zero=>exact .un m|succ j=>exact .cons (ih j)
theorem YV{x:Sl}:∀{L:Ls} {i:Nat},L[i]?=some (some x)->(none::L).Perm (some x::L.set i none)
 |[],_,h=>by simp at h
 |q::L,0,h=>by
  have e:q=some x:=by simpa using h
  subst e;exact List.Perm.swap ..
 |q::L,i+1,h=>by
  have:=YV (L:=L) (i:=i) (by simpa using h);rw[List.set_cons_succ];exact(List.Perm.swap ..).trans ((this.cons q).trans (List.Perm.swap ..))
theorem Qj{i:Nat}(h:PE X e (z4 i)):QE X Z false (cMv i) e:=q9 h fun σ H Q ah=>ex8 ah λE L r m w hc xc k=>by
 unfold cMv at hc
 split at hc
 ·rename_i s hE;cases oq9 hc;obtain⟨o,d⟩:=s;obtain⟨x,h1,h2,h3,h4⟩:=m.get hE;have wn:World Z.K H (none::L):=⟨λy hy=>w.ok y (by simpa using hy),by simpa using w.nd,by simpa using w.ds⟩;have sn:Step H L H (none::L):=⟨λ_ _ z _=>z,λa z=>.inl (by simpa using z),λa z=>.inl (by simpa using z)⟩;exact⟨x.v,h4,k _ _ rfl x _ H h2 h3 (vws i m) (wn.perm (YV h1)) (sn.trans (Step.refl.perm (List.Perm.refl _) (YV h1))) λz=>(nomatch z)⟩
 ·cases hc
theorem q_vV{i:Nat}(h:PE X e (z4 i)):QV X Z true (vV i) e:=q9 h fun σ H Q ah=>ex8 ah λE L r m w hc xc k=>by
 unfold vV at hc
 split at hc
 ·rename_i s hE;cases oq9 hc;obtain⟨o,d⟩:=s;obtain⟨x,h1,h2,h3,h4⟩:=m.get hE;have hx:=v5 h1;refine⟨x.v,h4,k _ _ rfl x L H h2 h3 m w (w.ok x hx) (λb hb ho=>w.ds b ho (mem_frozen.mpr ⟨x,hx,hb⟩)) (λb hb=>?_) Step.refl λ_=>λ_ _ z=>z⟩;rcases Sl.as_of hb with z|z
  ·exact .inr (.inl (mem_owned.mpr ⟨x,hx,z⟩))
  ·exact .inl (mem_frozen.mpr ⟨x,hx,z⟩)
 ·cases hc
structure Out (K:Frag)(H H':Hp)(z:Sl)(fr:List Addr):Prop where
 same:jY H H'
 ok:z.ok K H'
 new:∀b∈z.own,H b=none
 nd:z.own.Nodup
 fr:∀b∈z.frz,b∈fr
def Ad1(K:Frag)(r:V->Hp->VK->Prop)(f:Sd->Option Sd):Prop:=∀(H:Hp) (x:Sl) (s:Sd) (Q:VK),x.ok K H->f (x.o,x.d)=some s->(∀(z:Sl) H',z.o=s.1->z.d=s.2->Out K H H' z x.frz->Q z.v H')->r x.v H Q
def Ad2(K:Frag)(r:R2)(f:Sd->Sd->Option Sd):Prop:=∀(H:Hp) (x y:Sl) (s:Sd) (Q:VK),x.ok K H->y.ok K H->f (x.o,x.d) (y.o,y.d)=some s->(∀(z:Sl) H',z.o=s.1->z.d=s.2->Out K H H' z (x.frz++y.frz)->Q z.v H')->r x.v y.v H Q
theorem kqb{K:Frag}{H H':Hp}{d:D}{v:V}{fr:List Addr}(s:jY H H')(r:RepL K H' false d v []):Out K H H' ⟨.dp,d,v,[]⟩ fr:=⟨s,r,λ_ h=>(nomatch h),Xs,λ_ h=>(nomatch h)⟩
theorem ww{H:Hp}:jY H H:=λ_ _ z=>z
theorem qv{H H1 H2:Hp}(a:jY H H1)(b:jY H1 H2):jY H H2:=λc ob h=>b c ob (a c ob h)
theorem Q3{z:Sl}{fr:List Addr}{H1 H2:Hp}{L1:Ls}(w:World Z.K H1 L1)(st:Step H L H1 L1)(o:Out Z.K H1 H2 z fr)(ap:∀b∈fr,b∉j8 L1)(al:∀b∈fr,H1 b≠none)(sr:Src H L fr):
  World Z.K H2 (some z::L1)/\Step H L H2 (some z::L1):=by
 have w2:World Z.K H2 L1:=⟨λx hx=>RepO.kp (w.ok x hx) (Kp.of_same o.same),w.nd,w.ds⟩;refine⟨w2.cons o.ok o.nd (λb hb ho=>w.own_some ho (o.new b hb)) (λb hb hf=>w.frz_some hf (o.new b hb)) (λb hb=>ap b (o.fr b hb)) (λb hb hf=>al b (o.fr b hf) (o.new b hb)),?_⟩;refine⟨λb ob h hn=>o.same b ob (st.keep b ob h hn),λb hb=>?_,λb hb=>?_⟩
 ·rw[k3]at hb;rcases aA hb with z|z
  ·by_cases ho:b∈j8 L
   ·exact .inl ho
   ·refine .inr ?_;cases e:H b with|none=>rfl|some ob=>have:=o.new b z;rw[st.keep b ob e ho]at this;cases this
  ·exact st.own b z
 ·rw[qY]at hb;rcases aA hb with z|z
  ·exact sr b (o.fr b z)
  ·exact st.frz b z
theorem jx3{as bs:List Addr}(h:Src H L as)(hb:∀b∈bs,b∈as):Src H L bs:=λb z=>h b (hb b z)
theorem vv9{as bs:List Addr}(h:Src H L as)(h':Src H L bs):Src H L (as++bs):=λb z=>(aA z).elim (h b) (h' b)
theorem Jw{H H1:Hp}{b:Addr}(s:jY H H1)(h:H1 b=none):H b=none:=by
 cases e:H b with|none=>rfl|some ob=>rw[s b ob e]at h;cases h
theorem XJ{r:V->Hp->VK->Prop}{f:Sd->Option Sd}(ad:Ad1 Z.K r f){Q:VK}(h:tQ Z q (cF1 f a) σ H Q):tUn r (tV Z q a) σ H Q:=by
 obtain⟨E,L,R,m,w,hc,xc,k⟩:=h;refine v8 m w hc xc λE1 s h1 x L1 H1 e1 e2 m1 w1 ok fr sr st sm=>?_
 obtain⟨z,hz,rfl⟩:=zw h1;refine ad H1 x z Q ok (by rw[e1,e2];exact hz) λy H' ho hd o=>?_
 obtain⟨w3,dh⟩:=Q3 w1 st o fr (λb hb=>ok.some (Sl.frz_as hb)) (jx3 sr λb hb=>Sl.frz_as hb);exact k _ _ rfl y L1 H' ho hd m1 w3 dh λhq=>⟨qv (sm hq) o.same,λb hb=>Jw (sm hq) (o.new b hb)⟩
theorem jzx{r:R2}{f:Sd->Sd->Option Sd}(ad:Ad2 Z.K r f){Q:VK}(h:tQ Z qa (cF2 f a b) σ H Q):tOp r (tV Z qa a) (tV Z true b) σ H Q:=by
 obtain⟨E,L,R,m,w,hc,xc,k⟩:=h;refine v8 m w hc xc λE1 s h1 x L1 H1 e1 e2 m1 w1 ok fr sr st sm=>?_
 refine v8 m1 w1 h1 (xc.step st) λE2 s2 h2 y L2 H2 e3 e4 m2 w2 fz oz on bg dg=>?_
 obtain⟨z,hz,rfl⟩:=zw h2;have kx:=Q4 ok fr bg (dg rfl);refine ad H2 x y z Q kx.1 fz (by rw[e1,e2,e3,e4];exact hz) λy' H' ho hd o=>?_
 obtain⟨w3,dh⟩:=Q3 w2 (st.trans bg) o (λb hb=>(aA hb).elim (kx.2 b) (oz b)) (λb hb=>(aA hb).elim (λz=>kx.1.some (Sl.frz_as z)) λz=>fz.some (Sl.frz_as z))
  (vv9 (jx3 sr λb hb=>Sl.frz_as hb) (jx3 (on.back st) λb hb=>Sl.frz_as hb))
 exact k _ _ rfl y' L2 H' ho hd m2 w3 dh λhq=>⟨qv (sm hq) (qv (dg rfl) o.same),λb hb=>Jw (qv (sm hq) (dg rfl)) (o.new b hb)⟩
theorem qV{op:Operator}{r:R2}{f:Sd->Sd->Option Sd}(ho:OpR X (binaryOp op) r)(ad:Ad2 Z.K r f)(ha:QV X Z qa a ea)(hb:QV X Z true b eb):QE X Z qa (cF2 f a b) (.BinOp ea op eb pos):=
 q9 (wx6 ho ha hb) fun σ H Q h=>jzx ad h
theorem zQ{op:CmpOp}{r:R2}{f:Sd->Sd->Option Sd}(ho:OpR X (compareOp op) r)(ad:Ad2 Z.K r f)(ha:QV X Z qa a ea)(hb:QV X Z true b eb)(hm:behindInMarks op eb=false):QE X Z qa (cF2 f a b) (.Compare ea [op] [eb] pos):=
 q9 (vwg ho ha hb hm) fun σ H Q h=>jzx ad h
theorem RepA.get{K:Frag}{H:Hp}{g:Bool}:∀{ds:List D} {xs:List V} {as:List Addr} {i:Nat} {d:D},RepA K H g ds xs as->ds[i]?=some d->∃v bs,xs[i]?=some v/\RepL K H g d v bs/\∀b∈bs,b∈as
 | [],_,_,_,_,_,e=>by simp at e
 | d::ds,_,_,i,d',h,e=>by
  unfold RepA at h;obtain⟨x,r,bs,cs,rfl,rfl,h1,h2⟩:=h;cases i with
  |zero=>
   have e:d=d':=by simpa using e
   subst e;exact⟨x,bs,by simp,h1,λb hb=>ll9 _ hb⟩
  |succ i=>
   obtain⟨v,cp,e1,e2,e3⟩:=RepA.get (i:=i) h2 (by simpa using e);exact⟨v,cp,by simpa using e1,e2,λb hb=>lr9 _ (e3 b hb)⟩
theorem RepA.len{K:Frag}{H:Hp}{g:Bool}:∀{ds:List D} {xs:List V} {as:List Addr},RepA K H g ds xs as->ds.length=xs.length
 |[],_,_,h=>by unfold RepA at h;rw[h.1];rfl
 |d::ds,_,_,h=>by
  unfold RepA at h;obtain⟨x,r,bs,cs,rfl,rfl,h1,h2⟩:=h;simp[RepA.len h2]
theorem items{K:Frag}{H:Hp}{x:Sl}{ds:List D}(ok:x.ok K H)(h:x.d=.lst ds\/x.d=.tup ds):∃a xs bs,x.v=.ref a/\((x.d=.lst ds/\LsR K H a xs)\/(x.d=.tup ds/\SqT K H a xs))/\RepA K H (x.o != .dp) ds xs bs/\(∀b∈bs,b∈x.as)/\(x.o≠.dp->∀b∈bs,b∈x.frz):=by
 obtain⟨o,d,v,as⟩:=x;dsimp only at h;rcases h with rfl|rfl
 ·cases o with
  |no=>
   have ok:RepL K H true (.lst ds) v as:=ok;unfold RepL at ok;obtain⟨a,xs,bs,rfl,r,q⟩:=ok;rcases q with⟨q,rfl⟩|⟨_,q,rfl⟩
   ·exact⟨a,xs,bs,rfl,.inl ⟨rfl,.inl (.inl q)⟩,r,λb hb=>lc9 _ hb,λ_ b hb=>lc9 _ hb⟩
   ·exact⟨a,xs,as,rfl,.inl ⟨rfl,.of q⟩,r,λb hb=>hb,λ_ b hb=>hb⟩
  |rt=>
   obtain⟨a,xs,bs,rfl,r,q,rfl⟩:=(show RepR K H (.lst ds) v as from ok);exact⟨a,xs,bs,rfl,.inl ⟨rfl,.inl (.inl q)⟩,r,λb hb=>lc9 _ hb,λ_ b hb=>by simpa [Sl.frz]using hb⟩
  |dp=>
   have ok:RepL K H false (.lst ds) v as:=ok;unfold RepL at ok;obtain⟨a,xs,bs,rfl,r,q⟩:=ok;rcases q with⟨q,rfl⟩|⟨z,_⟩
   ·exact⟨a,xs,bs,rfl,.inl ⟨rfl,.inl (.inl q)⟩,r,λb hb=>lc9 _ hb,λz=>absurd rfl z⟩
   ·cases z
 ·cases o with
  |no=>
   have ok:RepL K H true (.tup ds) v as:=ok;unfold RepL at ok;obtain⟨a,xs,rfl,q,r⟩:=ok;exact⟨a,xs,as,rfl,.inr ⟨rfl,q⟩,r,λb hb=>hb,λ_ b hb=>hb⟩
  |rt=>exact(show RepR K H (.tup ds) v as from ok).elim
  |dp=>
   have ok:RepL K H false (.tup ds) v as:=ok;unfold RepL at ok;obtain⟨a,xs,rfl,q,r⟩:=ok;exact⟨a,xs,as,rfl,.inr ⟨rfl,q⟩,r,λb hb=>hb,λz=>absurd rfl z⟩
theorem z9{K:Frag}{H:Hp}{x:Sl}{ds:List D}(ok:x.ok K H)(h:x.d=.lst ds\/x.d=.tup ds)(hl:qw (x.o,x.d)=true):∃a xs bs,x.v=.ref a/\((x.d=.lst ds/\LsR K H a xs)\/(x.d=.tup ds/\SqT K H a xs))/\RepA K H true ds xs bs/\(∀b∈bs,b∈x.frz):=by
 obtain⟨a,xs,bs,e,q,r,h1,h2⟩:=items ok h
 by_cases ho:x.o=.dp
 ·have hp:D.pures ds=true:=by
   unfold qw at hl;rw[show(x.o,x.d).1=Own.dp from ho]at hl;have:wxl x.d=ds:=by rcases h with h|h<;>rw[h]<;>rfl
   simpa [this]using hl
  obtain⟨rfl,r'⟩:=RepA.pu (g':=true) r hp;exact⟨a,xs,[],e,q,r',λ_ z=>nomatch z⟩
 ·have:(x.o != Own.dp)=true:=by simpa using ho
  rw[this]at r;exact⟨a,xs,bs,e,q,r,h2 ho⟩
end
section
variable {K:Frag}{H:Hp}{x y:Sl}
theorem kX{i:Int}(ok:x.ok K H)(h:x.d=.int i):x.v=.int i:=by
 have:=RepO.wk ok;rw[h]at this;unfold RepL at this;exact this.1
theorem WZ{i:Bool}(ok:x.ok K H)(h:x.d=.bl i):x.v=.bl i:=by
 have:=RepO.wk ok;rw[h]at this;unfold RepL at this;exact this.1
theorem vqc(ok:x.ok K H)(h:x.d=.non):x.v=.non:=by
 have:=RepO.wk ok;rw[h]at this;unfold RepL at this;exact this.1
theorem xQ{z:Str}(ok:x.ok K H)(h:x.d=.str z):x.v=.str z/\z.length<=sizeLine:=by
 have:=RepO.wk ok;rw[h]at this;unfold RepL at this;exact⟨this.1,this.2.2⟩
theorem wq{i:Int}{g:Bool}:RepL K H g (.int i) (.int i) []:=by unfold RepL;exact⟨rfl,rfl⟩
theorem vkp{i:Bool}{g:Bool}:RepL K H g (.bl i) (.bl i) []:=by unfold RepL;exact⟨rfl,rfl⟩
theorem qv7{g:Bool}:RepL K H g .non .non []:=by unfold RepL;exact⟨rfl,rfl⟩
theorem Wv{z:Str}{g:Bool}(h:z.length<=sizeLine):RepL K H g (.str z) (.str z) []:=by unfold RepL;exact⟨rfl,rfl,h⟩
theorem Jk{i:Int}{fr:List Addr}:Out K H H ⟨.dp,.int i,.int i,[]⟩ fr:=kqb ww wq
theorem wX{i:Bool}{fr:List Addr}:Out K H H ⟨.dp,.bl i,.bl i,[]⟩ fr:=kqb ww vkp
theorem wxa{z:Str}{fr:List Addr}(h:z.length<=sizeLine):Out K H H ⟨.dp,.str z,.str z,[]⟩ fr:=kqb ww (Wv h)
theorem vz7{C:Int->Int->Prop}{g:Int->Int->Int}{f:Int->Int->Option Int}(h:∀i j k,f i j=some k->C i j/\k=g i j):Ad2 K (rI C λi j=>.int (g i j)) (pu2 (i2 f)):=by
 intro H x y s Q ox oy hf k;unfold pu2 i2 at hf;dsimp only at hf
 split at hf
 ·rename_i i j e1 e2;cases hk:f i j with
  |none=>rw[hk]at hf;cases hf
  |some n=>
   rw[hk]at hf;cases oq9 hf;obtain⟨hc,rfl⟩:=h i j n hk;exact⟨i,j,kX ox e1,kX oy e2,hc,k ⟨.dp,.int (g i j),.int (g i j),[]⟩ H rfl rfl Jk⟩
 ·cases hf
theorem wz3{g:Int->Int->Int}{f:Int->Int->Option Int}(h:∀i j,f i j=some (g i j)):Ad2 K (rI0 λi j=>.int (g i j)) (pu2 (i2 f)):=by
 intro H x y s Q ox oy hf k;unfold pu2 i2 at hf;dsimp only at hf
 split at hf
 ·rename_i i j e1 e2;rw[h]at hf;cases oq9 hf;exact⟨i,j,kX ox e1,kX oy e2,k ⟨.dp,.int (g i j),.int (g i j),[]⟩ H rfl rfl Jk⟩
 ·cases hf
theorem Qk{g:Int->Int->Bool}:Ad2 K (rI0 λi j=>.bl (g i j)) (pu2 (c2 g)):=by
 intro H x y s Q ox oy hf k;unfold pu2 c2 at hf;dsimp only at hf
 split at hf
 ·rename_i i j e1 e2;cases oq9 hf;exact⟨i,j,kX ox e1,kX oy e2,k ⟨.dp,.bl (g i j),.bl (g i j),[]⟩ H rfl rfl wX⟩
 ·cases hf
theorem kxc:Ad2 K (rI0 λi j=>.int (i - j)) (pu2 VQ):=wz3 λ_ _=>rfl
theorem xJ:Ad2 K (rI wvn λi j=>.int (i / j)) (pu2 wW):=vz7 λi j k h=>by
 split at h
 ·rename_i c;exact⟨c,(oq9 h).symm⟩
 ·cases h
theorem wvg:Ad2 K (rI (λ_ j=>0<j) λi j=>.int (i % j)) (pu2 k9):=vz7 λi j k h=>by
 split at h
 ·rename_i c;exact⟨c,(oq9 h).symm⟩
 ·cases h
theorem qk1:Ad2 K (rI xja λi j=>.int (i ^ j.toNat)) (pu2 Vq):=vz7 λi j k h=>by
 split at h
 ·rename_i c;exact⟨c,(oq9 h).symm⟩
 ·cases h
end
def wjh(K:Frag):R2:=λx y H Q=>∃l b xs zs,x=.ref l/\y=.ref b/\LsR K H l xs/\LsR K H b zs/\xs.length+zs.length<=sizeLine/\∀p,H p=none->Q (.ref p) (upd H p (.lst (xs++zs)))
theorem op_catL{X:Cx}:OpR X (binaryOp .Add) (wjh X.K):=by
 intro pins s σ H x y v u Q I rx ry h;obtain⟨l,b,xs,zs,rfl,rfl,hH,hB,hz,q⟩:=h;cases rx;cases ry;obtain⟨z,a8,n,r,e⟩:=hH.is I;obtain⟨z2,fc,n2,r2,e2⟩:=hB.is I;have hl:=r.length;have hl2:=r2.length;refine PySem.P.add_list e e2 ?_ (by rw[X7,X7];omega);have ea:a8.toArray++fc.toArray=(a8++fc).toArray:=by simp
 rw[ea];exact⟨.ref _,_,I.lnew (t':=s.toks) (r.append r2) (by rw[Xd];omega),rfl,q _ I.fresh⟩
def wji(K:Frag):R2:=λx y H Q=>∃a b ys,x=.ref a/\y=.ref b/\SqT K H a []/\SqT K H b ys/\Q (.ref b) H
theorem op_catE{X:Cx}:OpR X (binaryOp .Add) (wji X.K):=by
 intro pins s σ H x y v u Q I rx ry h;obtain⟨a,b,ys,rfl,rfl,ha,hb,q⟩:=h;cases rx;cases ry;obtain⟨a8,r1,p1,_⟩:=I.tuple ha;obtain⟨fc,r2,p2,_⟩:=I.tuple hb;obtain⟨⟨cls,dd,data,sl⟩,ho,hc,n,hd⟩:=id p1;obtain⟨⟨cls2,dd2,data2,lc⟩,fu,lp,n2,gb⟩:=id p2;simp only at hc hd lp gb;subst hc hd lp gb;have e:a8=[]:=r1.nil_iff.mpr rfl;subst e;exact concat_meets ⟨_,ho,rfl⟩ ⟨_,fu,rfl⟩ noFill_tuple_add seq_tuple_add PySem.F.slot_tuple_add PySem.F.entry_tuple_add (PySem.F.args_tuple_add_2 _ _)
   (tuple_addW0 a b [].toArray fc.toArray n n2 dd dd2 sl lc (by simp)) ⟨ho,fu,⟨.ref b,H,I,rfl,q⟩⟩
def wjj(K:Frag):R2:=λx y H Q=>rI0 (λi j=>.int (i+j)) x y H Q\/(∃i j,x=.str i/\y=.str j/\i.length+j.length<=sizeLine/\Q (.str (i++j)) H)\/wjh K x y H Q\/wji K x y H Q\/wjg K x y H Q
theorem wkq{X:Cx}{K:Frag}(hK:X.K=K):OpR X (binaryOp .Add) (wjj K):=by subst hK;exact op_add.or (op_add_str.or (op_catL.or (op_catE.or vwn)))
theorem RepA.app{K:Frag}{H:Hp}{g:Bool}{ds':List D}{xs':List V}{cp:List Addr}(h':RepA K H g ds' xs' cp):∀{ds:List D} {xs:List V} {as:List Addr},RepA K H g ds xs as->RepA K H g (ds++ds') (xs++xs') (as++cp)
 |[],_,_,h=>by unfold RepA at h;rw[h.1,h.2];exact h'
 |d::ds,_,_,h=>by
  unfold RepA at h;obtain⟨x,r,bs,cs,rfl,rfl,h1,h2⟩:=h;rw[List.cons_append];unfold RepA;exact⟨x,r++xs',bs,cs++cp,rfl,by rw[Xu],h1,RepA.app h' h2⟩
theorem wZ{H:Hp}{p:Addr}{o:HO}(h:H p=none):jY H (upd H p o):=λb u q=>by rw[q5 (J9 q h)];exact q
theorem KQ{K:Frag}{H:Hp}{p:Addr}{ds:List D}{xs:List V}{bs fr:List Addr}(hp:H p=none)(r:RepA K H true ds xs bs)(hb:∀b∈bs,b∈fr):Out K H (upd H p (.lst xs)) ⟨.rt,.lst ds,.ref p,p::bs⟩ fr:=by
 refine⟨wZ hp,⟨p,xs,bs,rfl,r.kp (Kp.of_same (wZ hp)),x3,rfl⟩,λb hb=>?_,?_,λb dj=>hb b (by simpa [Sl.frz]using dj)⟩
 ·have:b=p:=by simpa [Sl.own]using hb
  rw[this];exact hp
 ·simp[Sl.own]
theorem kj9{K:Frag}{H:Hp}{p:Addr}{ds:List D}{xs:List V}{bs fr:List Addr}(hp:H p=none)(r:RepA K H true ds xs bs)(hb:∀b∈bs,b∈fr):Out K H (upd H p (.tup xs)) ⟨.no,.tup ds,.ref p,bs⟩ fr:=by
 refine⟨wZ hp,?_,λb hb=>(nomatch hb),Xs,λb dj=>hb b dj⟩;show RepL K _ true (.tup ds) (.ref p) bs;unfold RepL;exact⟨p,xs,rfl,SqT.of x3,r.kp (Kp.of_same (wZ hp))⟩
theorem wvl{K:Frag}:Ad2 K (wjj K) kq:=by
 intro H x y s Q ox oy hf k;unfold kq at hf;dsimp only at hf
 split at hf
 ·rename_i i j e1 e2;cases oq9 hf;exact .inl ⟨i,j,kX ox e1,kX oy e2,k ⟨.dp,.int _,.int _,[]⟩ H rfl rfl Jk⟩
 ·rename_i i j e1 e2
  split at hf
  ·rename_i hl;cases oq9 hf;have hl':(i++j).length<=sizeLine:=by rw[strLen_append];exact hl
   exact .inr (.inl ⟨i,j,(xQ ox e1).1,(xQ oy e2).1,hl,k ⟨.dp,.str _,.str _,[]⟩ H rfl rfl (wxa hl')⟩)
  ·cases hf
 ·rename_i i j e1 e2
  split at hf
  ·rename_i hl;cases oq9 hf;obtain⟨a,xs,bs,e3,q3,r3,h3⟩:=z9 ox (.inl e1) hl.2.1;obtain⟨b,ys,cs,e4,q4,r4,h4⟩:=z9 oy (.inl e2) hl.2.2;have q3:LsR K H a xs:=by rcases q3 with⟨_,z⟩|⟨z,_⟩;exact z;rw[e1]at z;cases z
   have q4:LsR K H b ys:=by rcases q4 with⟨_,z⟩|⟨z,_⟩;exact z;rw[e2]at z;cases z
   refine .inr (.inr (.inl ⟨a,b,xs,ys,e3,e4,q3,q4,by rw[<-r3.len,<-r4.len];exact hl.1,λp hp=>?_⟩));exact k ⟨.rt,.lst (i++j),.ref p,p::(bs++cs)⟩ _ rfl rfl (KQ hp (r4.app r3) λb hb=>(aA hb).elim (λz=>ll9 _ (h3 b z)) λz=>lr9 _ (h4 b z))
  ·cases hf
 ·rename_i i j e1 e2
  split at hf
  ·rename_i hl;cases oq9 hf;obtain⟨a,xs,bs,e3,q3,r3,h3⟩:=z9 ox (.inr e1) hl.2.1;obtain⟨b,ys,cs,e4,q4,r4,h4⟩:=z9 oy (.inr e2) hl.2.2;have q3:SqT K H a xs:=by rcases q3 with⟨z,_⟩|⟨_,z⟩;rw[e1]at z;cases z;exact z
   have q4:SqT K H b ys:=by rcases q4 with⟨z,_⟩|⟨_,z⟩;rw[e2]at z;cases z;exact z
   have ap:=r4.app r3;have kf:∀b∈bs++cs,b∈x.frz++y.frz:=λb hb=>(aA hb).elim (λz=>ll9 _ (h3 b z)) λz=>lr9 _ (h4 b z)
   have same:∀c zs,zs=xs++ys->SqT K H c zs->Q (.ref c) H:=λc zs e hq=>by
    refine k ⟨.no,.tup (i++j),.ref c,bs++cs⟩ H rfl rfl ⟨ww,?_,λb hb=>(nomatch hb),Xs,kf⟩;show RepL K H true (.tup (i++j)) (.ref c) (bs++cs);unfold RepL;exact⟨c,zs,rfl,hq,by rw[e];exact ap⟩
   by_cases hx:xs=[]
   ·subst hx;exact .inr (.inr (.inr (.inl ⟨a,b,ys,e3,e4,q3,q4,same b ys rfl q4⟩)))
   ·refine .inr (.inr (.inr (.inr ⟨a,b,xs,ys,e3,e4,q3,q4,hx,by rw[<-r3.len,<-r4.len];exact hl.1,λhy=>?_,λhy p hp=>?_⟩)))
    ·exact same a xs (by rw[hy,Y7]) q3
    ·exact k ⟨.no,.tup (i++j),.ref p,bs++cs⟩ _ rfl rfl (kj9 hp ap kf)
  ·cases hf
 ·cases hf
def tT(Z:Fx0)(q:Bool)(c:Ts):TT:=fun σ H Q=>∃E L r,Mt E σ L/\World Z.K H L/\c E=some r/\Xc Z σ H L r /\
 ∀E' k,r=.ok E' k->∀L' H',Mt E' σ L'->World Z.K H' L'->Step H L H' L'->(q=true->jY H H')->Q k H'
def QT(X:Cx)(Z:Fx0)(q:Bool)(c:Ts)(e:Expr):Prop:=PT X e (tT Z q c)
def QW(X:Cx)(Z:Fx0)(q:Bool)(c:Ts)(e:Expr):Prop:=PW X e (tT Z q c)
section
variable {X:Cx}{Z:Fx0}{q qa qb:Bool}{a b c:Ex}{u v:Ts}{e ea eb:Expr}{es:List Expr}{pos:Pos}{α β:Type}{σ:L2.St}{H:Hp}{L:Ls}{E:En}
theorem vq0{e:Expr}{t t':TT}(h:PW X e t)(w:∀ σ H Q,t' σ H Q->t σ H Q):PW X e t':=λwh pins s σ H Q I q=>h wh pins s σ H Q I (w σ H Q q)
theorem qzo{F:En->Bool->Option (Res α)}{r:Res α}{G:Bool->Hp->Prop}(m:Mt E σ L)(w:World Z.K H L)(h:bnd (u E) F=some r)(xc:Xc Z σ H L r)
  (k:∀E1 s,F E1 s=some r->∀L1 H1,Mt E1 σ L1->World Z.K H1 L1->Step H L H1 L1->(q=true->jY H H1)->G s H1):tT Z q u σ H G:=by
 rcases x4 h with⟨E1,s,h1,h2⟩|⟨E1,c,h1,h2⟩
 ·exact⟨E,L,_,m,w,h1,(λ_ _ z=>by cases z),λE' s' z L' H' m' w' st sm=>by
   injection z with z1 z2;subst z1 z2;exact k _ _ h2 L' H' m' w' st sm⟩
 ·exact⟨E,L,_,m,w,h1,xc.map h2,λE' s' z=>by cases z⟩
theorem vvq(ha:QT X Z q u ea):QW X Z q u (.BoolOp .And [ea] pos):=vvv ha
theorem qvh(ha:QT X Z q u ea):QW X Z q u (.BoolOp .Or [ea] pos):=wjv ha
theorem wjk(ha:QT X Z q u ea)(hb:QW X Z q v (.BoolOp .And (eb::es) pos)):QW X Z q (Q.tAnd u v) (.BoolOp .And (ea::eb::es) pos):=
 vq0 (wjw ha hb) fun σ H Q ah=>ex8 ah λE L r m w hc xc k=>qzo m w hc xc λE1 s h1 L1 H1 m1 w1 st sm=>by
  cases s with
  |true=>
   rw[X8 rfl]at h1 ⊢;exact⟨E1,L1,r,m1,w1,h1,xc.step st,λE' k' z L' H' m' w' eh ia=>k E' k' z L' H' m' w' (st.trans eh) λhq=>qv (sm hq) (ia hq)⟩
  |false=>
   rw[Xf ⋯]at h1 ⊢;cases oq9 h1;exact k _ _ rfl L1 H1 m1 w1 st sm
theorem vvp(ha:QT X Z q u ea)(hb:QW X Z q v (.BoolOp .Or (eb::es) pos)):QW X Z q (Q.tOr u v) (.BoolOp .Or (ea::eb::es) pos):=
 vq0 (wx4 ha hb) fun σ H Q ah=>ex8 ah λE L r m w hc xc k=>qzo m w hc xc λE1 s h1 L1 H1 m1 w1 st sm=>by
  cases s with
  |false=>
   rw[Xf ⋯]at h1 ⊢;exact⟨E1,L1,r,m1,w1,h1,xc.step st,λE' k' z L' H' m' w' eh ia=>k E' k' z L' H' m' w' (st.trans eh) λhq=>qv (sm hq) (ia hq)⟩
  |true=>
   rw[X8 rfl]at h1 ⊢;cases oq9 h1;exact k _ _ rfl L1 H1 m1 w1 st sm
theorem QW.pt(h:QW X Z q u e):QT X Z q u e:=PW.pt h
theorem qj2(ha:QT X Z q u ea):QT X Z q (Q.tNot u) (.UnaryOp .Not ea pos):=
 qvk (wjz ha) fun σ H Q ah=>ex8 ah λE L r m w hc xc k=>qzo m w hc xc λE1 s h1 L1 H1 m1 w1 st sm=>by
  cases oq9 h1;exact k _ _ rfl L1 H1 m1 w1 st sm
theorem kQ{op:CmpOp}{r:R2}{f:Sd->Sd->Option Sd}(ho:OpR X (compareOp op) r)(ad:Ad2 Z.K r f)(ha:QV X Z qa a ea)(hb:QV X Z true b eb)(hm:behindInMarks op eb=false)(hf:∀x y s,f x y=some s->∃k,s.2=.bl k):QT X Z qa (Q.tE (cF2 f a b)) (.Compare ea [op] [eb] pos):=
 qvk (vw1 ho ha hb hm) fun σ H Q ah=>ex8 ah λE L r m w hc xc k=>by
  refine jzx ad ?_;have hc':bnd (cF2 f a b E) (λE x=>val E (truth x.2))=some r:=hc;rcases x4 hc' with⟨E1,s,h1,h2⟩|⟨E1,c,h1,h2⟩
  ·refine⟨E,L,_,m,w,h1,(λ_ _ z=>by cases z),λE' s' z x L' H' e1 e2 m' w' st sm=>?_⟩;injection z with z1 z2;subst z1 z2;obtain⟨kk,hk⟩:∃k,s.2=.bl k:=by
    unfold cF2 at h1;rcases x4 h1 with⟨E2,s2,h3,h4⟩|⟨_,_,_,z⟩
    ·rcases x4 h4 with⟨E3,s3,h5,h6⟩|⟨_,_,_,z⟩
     ·obtain⟨y,hy,z⟩:=zw h6;cases z;exact hf _ _ _ hy
     ·cases z
    ·cases z
   rw[hk]at h2;cases oq9 h2;exact⟨kk,WZ w'.head (e2.trans hk),k _ _ rfl L' H' m' w'.tail (st.trans Step.drop) λhq=>(sm hq).1⟩
  ·exact⟨E,L,_,m,w,h1,xc.map h2,λE' s' z=>by cases z⟩
end
def Pn(pn:List Nat)(σ σ':L2.St):Prop:=∀p∈pn,σ'[p]?=σ[p]?
theorem Pn.refl{pn:List Nat}{σ:L2.St}:Pn pn σ σ:=λ_ _=>rfl
theorem Pn.trans{pn:List Nat}{σ σ1 σ2:L2.St}(a:Pn pn σ σ1)(b:Pn pn σ1 σ2):Pn pn σ σ2:=λp hp=>(b p hp).trans (a p hp)
theorem Pn.set{pn:List Nat}{σ σ1:L2.St}{i:Nat}{y:Option V}(a:Pn pn σ σ1)(h:i∉pn):Pn pn σ (σ1.set i y):=λp hp=>by
 have:i≠p:=λe=>h (e▸hp)
 rw[Ym this];exact a p hp
noncomputable def FlP(Z:Fx0)(pn:List Nat)(D:Ends)(σ:L2.St)(H:Hp)(L:Ls):Fl->Prop
 |.nx E'=>∀ σ' L' H',Pn pn σ σ'->Mt E' σ' L'->World Z.K H' L'->Step H L H' L'->D.nx σ' H'|.ct E'=>∀ σ' L' H',Pn pn σ σ'->Mt E' σ' L'->World Z.K H' L'->Step H L H' L'->D.ct σ' H'|.bk E'=>∀ σ' L' H',Pn pn σ σ'->Mt E' σ' L'->World Z.K H' L'->Step H L H' L'->D.bk σ' H'|.rt E' a=>∀(x:Sl) σ' L' H',x.o=a.1->x.d=a.2->Pn pn σ σ'->Mt E' σ' L'->World Z.K H' (some x::L')->Step H L H' (some x::L')->D.rt x.v H'|.xc E' c=>∀C σ' L' H',Z.mg c=some (.ref C)->Pn pn σ σ'->Mt E' σ' L'->World Z.K H' L'->Step H L H' L'->Z.EX (.ref C) none H'
theorem FlP.step{Z:Fx0}{pn:List Nat}{D:Ends}{σ σ1:L2.St}{H H1:Hp}{L L1:Ls}{r:Fl}(k:FlP Z pn D σ H L r)(s:Step H L H1 L1)(p:Pn pn σ σ1):FlP Z pn D σ1 H1 L1 r:=by
 cases r with|nx E'=>exact fun σ' L' H' p' m w s'=>k σ' L' H' (p.trans p') m w (s.trans s')|ct E'=>exact fun σ' L' H' p' m w s'=>k σ' L' H' (p.trans p') m w (s.trans s')|bk E'=>exact fun σ' L' H' p' m w s'=>k σ' L' H' (p.trans p') m w (s.trans s')|rt E' a=>exact λx σ' L' H' e1 e2 p' m w s'=>k x σ' L' H' e1 e2 (p.trans p') m w (s.trans s')|xc E' c=>exact λC σ' L' H' hm p' m w s'=>k C σ' L' H' hm (p.trans p') m w (s.trans s')
theorem FlP.xc{α:Type}{Z:Fx0}{pn:List Nat}{D:Ends}{σ:L2.St}{H:Hp}{L:Ls}{E':En}{c:Str}(k:FlP Z pn D σ H L (.xc E' c)):Xc Z σ H L (.exc E' c:Res α):=λE1 c1 e C L' H' hm m w s=>by
 injection e with h1 h2;subst h1 h2;exact k C σ L' H' hm Pn.refl m w s
def tS(Z:Fx0)(pn:List Nat)(c:Sm):TS:=λD σ H=>∃E L r,Mt E σ L/\World Z.K H L/\c E=some r/\FlP Z pn D σ H L r
def QS(X:Cx)(Z:Fx0)(pn:List Nat)(c:Sm)(st:Stmt):Prop:=PS X st (tS Z pn c)
def QSs(X:Cx)(Z:Fx0)(pn:List Nat)(c:Sm)(st:List Stmt):Prop:=PSs X st (tS Z pn c)
section
variable {X:Cx}{Z:Fx0}{pn:List Nat}{q qa qb:Bool}{a b c:Ex}{u v:Ts}{A B:Sm}{e ea eb:Expr}{st:Stmt}{ss tt:List Stmt}{pos:Pos}{α:Type}{σ:L2.St}{H:Hp}{L:Ls}{E:En}{D:Ends}
theorem jw0{m:Option (Res α)}{F:En->α->Option Fl}{r:Fl}(h:ofE m F=some r):(∃E1 x,m=some (.ok E1 x)/\F E1 x=some r)\/∃E1 c,m=some (.exc E1 c)/\r=.xc E1 c:=by
 cases m with
 |none=>cases h
 |some q=>
  cases q with|ok E1 x=>exact .inl ⟨E1,x,rfl,h⟩|exc E1 c=>exact .inr ⟨E1,c,rfl,(oq9 h).symm⟩
theorem Kv{F:En->Sd->Option Fl}{r:Fl}{G:VK}(m:Mt E σ L)(w:World Z.K H L)(h:ofE (a E) F=some r)(k:FlP Z pn D σ H L r)
  (g:∀E1 s,F E1 s=some r->∀(x:Sl) L1 H1,x.o=s.1->x.d=s.2->Mt E1 σ L1->World Z.K H1 (some x::L1)->Step H L H1 (some x::L1)->(q=true->jY H H1/\∀b∈x.own,H b=none)->G x.v H1):tQ Z q a σ H G:=by
 rcases jw0 h with⟨E1,s,h1,h2⟩|⟨E1,c,h1,rfl⟩
 ·exact⟨E,L,_,m,w,h1,(λ_ _ z=>by cases z),λE' s' z x L' H' e1 e2 m' w' st sm=>by
   injection z with z1 z2;subst z1 z2;exact g _ _ h2 x L' H' e1 e2 m' w' st sm⟩
 ·exact⟨E,L,_,m,w,h1,k.xc,λE' s' z=>by cases z⟩
theorem vzz{F:En->Bool->Option Fl}{r:Fl}{G:Bool->Hp->Prop}(m:Mt E σ L)(w:World Z.K H L)(h:ofE (u E) F=some r)(k:FlP Z pn D σ H L r)
  (g:∀E1 s,F E1 s=some r->∀L1 H1,Mt E1 σ L1->World Z.K H1 L1->Step H L H1 L1->G s H1):tT Z q u σ H G:=by
 rcases jw0 h with⟨E1,s,h1,h2⟩|⟨E1,c,h1,rfl⟩
 ·exact⟨E,L,_,m,w,h1,(λ_ _ z=>by cases z),λE' s' z L' H' m' w' st sm=>by
   injection z with z1 z2;subst z1 z2;exact g _ _ h2 L' H' m' w' st⟩
 ·exact⟨E,L,_,m,w,h1,k.xc,λE' s' z=>by cases z⟩
theorem x6:QSs X Z pn wv []:=qvl vw3 λD σ H ah=>ex7 ah λE L r m w hc k=>by
 cases oq9 hc;exact k σ L H Pn.refl m w Step.refl
theorem j9(h1:QS X Z pn A st)(h2:QSs X Z pn B ss):QSs X Z pn (j7 A B) (st::ss):=qvl (vj6 h1 h2) λD σ H ah=>ex7 ah λE L r m w hc k=>by
 unfold j7 at hc;cases ha:A E with
 |none=>rw[ha]at hc;cases hc
 |some f=>
  rw[ha]at hc;cases f with|nx E1=>exact⟨E,L,_,m,w,ha,fun σ' L' H' p m' w' s=>⟨E1,L',r,m',w',hc,k.step s p⟩⟩|ct E1=>cases oq9 hc;exact⟨E,L,_,m,w,ha,k⟩|bk E1=>cases oq9 hc;exact⟨E,L,_,m,w,ha,k⟩|rt E1 x=>cases oq9 hc;exact⟨E,L,_,m,w,ha,k⟩|xc E1 x=>cases oq9 hc;exact⟨E,L,_,m,w,ha,k⟩
theorem jx(h1:QS X Z pn A st):QSs X Z pn A [st]:=vw2 h1
theorem kj(h:QE X Z q a ea):QS X Z pn (k7 a) (.Return (some ea) pos):=J4 (wk1 h) λD σ H ah=>ex7 ah λE L r m w hc k=>
 Kv m w hc k λE1 s h1 x L1 H1 e1 e2 m1 w1 st _=>by
  cases oq9 h1;exact k x σ L1 H1 e1 e2 Pn.refl m1 w1 st
theorem wV(hc:QT X Z q u e)(ha:QSs X Z pn A ss)(hb:QSs X Z pn B tt):QS X Z pn (sIf u A B) (.If e ss tt pos):=J4 (wx5 hc ha hb) λD σ H ah=>ex7 ah λE L r m w hc k=>
 vzz m w hc k λE1 s h1 L1 H1 m1 w1 st=>by
  cases s with|true=>rw[X8 rfl]at h1 ⊢;exact⟨E1,L1,r,m1,w1,h1,k.step st Pn.refl⟩|false=>rw[Xf ⋯]at h1 ⊢;exact⟨E1,L1,r,m1,w1,h1,k.step st Pn.refl⟩
theorem Wq{x:Sl}{i:Nat}{s:Sd}(m:Mt E σ L)(e1:x.o=s.1)(e2:x.d=s.2):Mt (E.set i (some s)) (σ.set i (some x.v)) (L.set i (some x)):=by
 have:=m.set (x:=x) i;rw[e1,e2]at this;exact this
theorem wx2{i:Nat}{y:Str}{ao:Pos}(hN:X.N.Nodup)(hi:X.N[i]?=some y)(hx:Loc X.env.scope y)(h:QE X Z q a ea)(hp:autoParam (i∉pn) ŕ)(hs:autoParam (swapsWith ea (some (.Name y ao)) pos.line X.env=pure false) Ŕ)(hf:autoParam (X.fn y=true\/X.env.scope.names.lookup y=some .local) Ř):
  QS X Z pn (jq i a) (.Assign [.Name y ao] ea pos):=J4 (wk0 hN hi hx h hs hf) λD σ H ah=>ex7 ah λE L r m w hc k=>
 Kv m w hc k λE1 s h1 x L1 H1 e1 e2 m1 w1 st _=>by
  cases oq9 h1;exact k (σ.set i (some x.v)) (L1.set i (some x)) H1 (Pn.refl.set hp) (Wq m1 e1 e2) w1.set (st.trans Step.set)
theorem vkz{i:Nat}{y:Str}{ao:Pos}(hp:i∉pn)(h:PS X (.Assign [.Name y ao] ea pos) (λD σ H=>tQ Z q a σ H λv H1=>D.nx (σ.set i (some v)) H1)):
  QS X Z pn (jq i a) (.Assign [.Name y ao] ea pos):=J4 h λD σ H ah=>ex7 ah λE L r m w hc k=>
 Kv m w hc k λE1 s h1 x L1 H1 e1 e2 m1 w1 st _=>by
  cases oq9 h1;exact k (σ.set i (some x.v)) (L1.set i (some x)) H1 (Pn.refl.set hp) (Wq m1 e1 e2) w1.set (st.trans Step.set)
theorem kq4(hp:PassesOwn (model X.prog X.w) X.A X.env X.xe)(hc:QT X Z q u e)(hb:QSs X Z pn B ss):QS X Z pn (sWhile u B) (.While e ss [] pos):=J4 (vj7 hp hc hb) λD σ H ah=>ex7 ah λE L r m w hr k=>by
 obtain⟨n0,hn⟩:=vqz hr;refine⟨λn σ1 H1=>∃E1 L1,Mt E1 σ1 L1/\World Z.K H1 L1/\whN u B n E1=some r/\Step H L H1 L1/\Pn pn σ σ1,⟨n0,E,L,m,w,hn,Step.refl,Pn.refl⟩,?_⟩;rintro n σ1 H1 ⟨E1,L1,m1,w1,h1,fe,p1⟩;cases n with
 | zero=>cases h1
 | succ n=>
  have k1:=k.step fe p1;unfold whN at h1;cases ht:u E1 with
  | none=>rw[ht]at h1;cases h1
  | some f=>
   rw [ht]at h1;cases f with
   | exc E2 c=>
    cases oq9 h1;exact⟨E1,L1,_,m1,w1,ht,k1.xc,λE' s' z=>by cases z⟩
   | ok E2 kk=>
    refine⟨E1,L1,_,m1,w1,ht,(λ_ _ z=>by cases z),λE' s' z L' H' m' w' st sm=>?_⟩;injection z with z1 z2;subst z1 z2;cases kk with
    | false=>
     rw[Xf ⋯];cases oq9 h1;exact k1 σ1 L' H' Pn.refl m' w' st
    | true=>
     rw[X8 rfl];dsimp only at h1;refine⟨fun σ2 H2=>∃E2 L2,Mt E2 σ2 L2/\World Z.K H2 L2/\whN u B n E2=some r/\Step H L H2 L2/\Pn pn σ σ2,fun σ2 H2 h2=>⟨n,⋯,h2⟩,?_⟩;cases hB:B E2 with
     |none=>rw[hB]at h1;cases h1
     |some g=>
      rw[hB]at h1;have k2:=k1.step st Pn.refl;refine⟨E2,L',g,m',w',hB,?_⟩;cases g with|nx E3=>exact fun σ3 L3 H3 p3 m3 w3 s3=>⟨E3,L3,m3,w3,h1,fe.trans (st.trans s3),p1.trans p3⟩|ct E3=>exact fun σ3 L3 H3 p3 m3 w3 s3=>⟨E3,L3,m3,w3,h1,fe.trans (st.trans s3),p1.trans p3⟩|bk E3=>cases oq9 h1;exact k2|rt E3 x=>cases oq9 h1;exact k2|xc E3 c=>cases oq9 h1;exact k2
end
structure Walks (K:Frag)(J:It)(T:List Sl)(ds:List D):Prop where
 no:∀t∈T,t.o=.no
 go:∀i H,(∀t∈T,t.ok K H)->i<ds.length->J.go i H
 stop:∀H,(∀t∈T,t.ok K H)->J.stop ds.length H
 yld:∀i H v H' d,(∀t∈T,t.ok K H)->J.yld i H v H'->ds[i]?=some d->∃z:Sl,z.o=.no/\z.d=d/\z.v=v/\jY H H'/\z.ok K H'/\∀b∈z.as,∃t∈T,b∈t.as
def tI(Z:Fx0)(q:Bool)(it:Ev (List D)):TI:=fun σ H R=>∃E L r,Mt E σ L/\World Z.K H L/\it E=some r/\Xc Z σ H L r /\
 ∀E' ds,r=.ok E' ds->∀J T L' H',Mt E' σ L'->World Z.K H' (L'++T.map some)->Step H L H' (L'++T.map some)->ds.length<=sizeLine->(q=true->jY H H')->Walks Z.K J T ds->R J H'
def QI(X:Cx)(Z:Fx0)(q:Bool)(tg:Expr)(it:Ev (List D))(e:Expr):Prop:=PI X tg e (tI Z q it)
def wz8(K:Frag)(H0:Hp)(T:List Sl)(H:Hp):Prop:=(∀t∈T,t.ok K H)/\∀t∈T,Kp H0 H t.as
structure WalksD (K:Frag)(H0:Hp)(J:It)(T:List Sl)(ds:List D):Prop where
 no:∀t∈T,t.o=.no
 go:∀i H,wz8 K H0 T H->i<ds.length->J.go i H
 stop:∀H,wz8 K H0 T H->J.stop ds.length H
 yld:∀i H v H' d,wz8 K H0 T H->J.yld i H v H'->ds[i]?=some d->∃z:Sl,z.o=.no/\z.d=d/\z.v=v/\jY H H'/\z.ok K H'/\∀b∈z.as,∃t∈T,b∈t.as
theorem Walks.D{K:Frag}{H0:Hp}{J:It}{T:List Sl}{ds:List D}(h:Walks K J T ds):WalksD K H0 J T ds:=⟨h.no,λi H o=>h.go i H o.1,λH o=>h.stop H o.1,λi H v H' d o=>h.yld i H v H' d o.1⟩
def tID(Z:Fx0)(q:Bool)(it:Ev (List D)):TI:=fun σ H R=>∃E L r,Mt E σ L/\World Z.K H L/\it E=some r/\Xc Z σ H L r /\
 ∀E' ds,r=.ok E' ds->∀J T L' H',Mt E' σ L'->World Z.K H' (L'++T.map some)->Step H L H' (L'++T.map some)->ds.length<=sizeLine->(q=true->jY H H')->WalksD Z.K H' J T ds->R J H'
def QID(X:Cx)(Z:Fx0)(q:Bool)(tg:Expr)(it:Ev (List D))(e:Expr):Prop:=PI X tg e (tID Z q it)
theorem QI.D{X:Cx}{Z:Fx0}{q:Bool}{tg:Expr}{it:Ev (List D)}{e:Expr}(h:QI X Z q tg it e):QID X Z q tg it e:=λpins s σ H R I hz=>h pins s σ H R I (by
 obtain⟨E,L,r,m,w,e,x,k⟩:=hz;exact⟨E,L,r,m,w,e,x,λE' ds z J T L' H' m' w' st hl sm wk=>k E' ds z J T L' H' m' w' st hl sm wk.D⟩)
structure WalksS (K:Frag)(q:Bool)(H0:Hp)(J:It)(T:List Sl)(ds:List D):Prop where
 no:∀t∈T,t.o=.no
 go:∀i H,(∀t∈T,t.ok K H)->(q=true->jY H0 H)->i<ds.length->J.go i H
 stop:∀H,(∀t∈T,t.ok K H)->(q=true->jY H0 H)->J.stop ds.length H
 yld:∀i H v H' d,(∀t∈T,t.ok K H)->(q=true->jY H0 H)->J.yld i H v H'->ds[i]?=some d->∃z:Sl,z.o=.no/\z.d=d/\z.v=v/\jY H H'/\z.ok K H'/\∀b∈z.as,∃t∈T,b∈t.as
theorem vv1{K:Frag}{q:Bool}{H0:Hp}{J:It}{T:List Sl}{ds:List D}(h:Walks K J T ds):WalksS K q H0 J T ds:=⟨h.no,λi H o _=>h.go i H o,λH o _=>h.stop H o,λi H v H' d o _=>h.yld i H v H' d o⟩
def tIS(Z:Fx0)(q:Bool)(it:Ev (List D)):TI:=fun σ H R=>∃E L r,Mt E σ L/\World Z.K H L/\it E=some r/\Xc Z σ H L r /\
 ∀E' ds,r=.ok E' ds->∀J T L' H',Mt E' σ L'->World Z.K H' (L'++T.map some)->Step H L H' (L'++T.map some)->ds.length<=sizeLine->(q=true->jY H H')->WalksS Z.K q H J T ds->R J H'
def QIS(X:Cx)(Z:Fx0)(q:Bool)(tg:Expr)(it:Ev (List D))(e:Expr):Prop:=PI X tg e (tIS Z q it)
theorem wzq{X:Cx}{Z:Fx0}{q:Bool}{tg:Expr}{it:Ev (List D)}{e:Expr}(h:QI X Z q tg it e):QIS X Z q tg it e:=λpins s σ H R I hz=>h pins s σ H R I (by
 obtain⟨E,L,r,m,w,e,x,k⟩:=hz;exact⟨E,L,r,m,w,e,x,λE' ds z J T L' H' m' w' st hl sm wk=>k E' ds z J T L' H' m' w' st hl sm (vv1 wk)⟩)
def tG(Z:Fx0)(pn:List Nat)(tg:Tg):TG:=λv σ H Q=>∃(E:En) (L:Ls) (z:Sl) (E':En),Mt E σ L/\World Z.K H (some z::L)/\z.o=.no/\z.v=v/\tg.put z.d E=some E' /\
 ∀ σ' L',Pn pn σ σ'->Mt E' σ' L'->World Z.K H L'->Step H (some z::L) H L'->Q σ' H
def QG(X:Cx)(Z:Fx0)(pn:List Nat)(tg:Tg)(e:Expr):Prop:=PG X e (tG Z pn tg)
section
variable {X:Cx}{Z:Fx0}{pn:List Nat}{e:Expr}{σ:L2.St}{H:Hp}{L:Ls}{E:En}
theorem vq6{t t':TG}(h:PG X e t)(w:∀v σ H Q,t' v σ H Q->t v σ H Q):PG X e t':=λpins s σ H x v Q I r q=>h pins s σ H x v Q I r (w x σ H Q q)
theorem Qx{i:Nat}(h:PG X e (qxb i))(hp:autoParam (i∉pn) ŕ):QG X Z pn (.n i) e:=vq6 h λv σ H Q ⟨E,L,z,E',m,w,ho,hv,bq,k⟩=>by
 cases oq9 bq;rw[<-hv];exact k (σ.set i (some z.v)) (L.set i (some z)) (Pn.refl.set hp) (Wq m ho rfl) w.set Step.set
def gNs:List Nat->TGs
 |[]=>xj1|i::is=>wqo (qxb i) (gNs is)
theorem qxa{Q:L2.St->Hp->Prop}{M:Ls}{σ0:L2.St}:∀{is:List Nat} {ds:List D} {xs:List V} {bs:List Addr} {E:En} {L:Ls} {σ:L2.St} {E':En},Mt E σ L->World Z.K H L->RepA Z.K H true ds xs bs->(∀b∈bs,b∉j8 L)->(∀b∈bs,b∈jQ M)->Step H M H L->Pn pn σ0 σ ->
  setAll is ds E=some E'->(∀i∈is,i∉pn)->(∀ σ' L',Pn pn σ0 σ'->Mt E' σ' L'->World Z.K H L'->Step H M H L'->Q σ' H)->gNs is xs σ H Q
 | [],[],xs,bs,E,L,σ,E',m,w,r,_,_,st,p,e,_,k=>by
  cases oq9 e;unfold RepA at r;exact⟨r.1,k σ L p m w st⟩
 | [],_::_,_,_,_,_,_,_,_,_,_,_,_,_,_,e,_,_=>by cases e| _::_,[],_,_,_,_,_,_,_,_,_,_,_,_,_,e,_,_=>by cases e
 | i::is,d::ds,xs,bs,E,L,σ,E',m,w,r,hb,hf,st,p,e,hi,k=>by
  unfold RepA at r;obtain⟨x,rr,cs,es,rfl,rfl,h1,h2⟩:=r;have w1:World Z.K H (some ⟨.no,d,x,cs⟩::L):=w.consNo (x:=⟨.no,d,x,cs⟩) h1 rfl λb dj=>hb b (ll9 _ dj)
  have s1:Step H M H (L.set i (some ⟨.no,d,x,cs⟩)):=by
   refine⟨λ_ _ h _=>h,λa ha=>?_,λa ha=>?_⟩
   ·rcases W0 ha with z|z
    ·exact nomatch z
    ·exact st.own a z
   ·rcases ZJ ha with z|z
    ·exact .inl (hf a (ll9 _ z))
    ·exact st.frz a z
  exact⟨x,rr,rfl,qxa (is:=is) (Wq (x:=⟨.no,d,x,cs⟩) (s:=(.no,d)) m rfl rfl) w1.set h2 (λb dj ho=>by
   rcases W0 ho with z|z
   ·exact nomatch z
   ·exact hb b (lr9 _ dj) z) (λb dj=>hf b (lr9 _ dj)) s1 (p.set (hi i X6)) e (λj hj=>hi j (lc9 _ hj)) k⟩
theorem kk9:∀{is:List Nat} {ds:List D} {E E':En},setAll is ds E=some E'->is.length=ds.length
 |[],[],_,_,_=>rfl|[],_::_,_,_,e=>by cases e|_::_,[],_,_,e=>by cases e|i::is,d::ds,E,E',e=>by rw[Xp,Xp,kk9 (E:=E.set i (some (.no,d))) e]
def wxr(K:Frag)(n:Nat)(t:TGs):TG:=λv σ H Q=>∃a xs,v=.ref a/\(SqT K H a xs\/SqL K H a xs)/\xs.length=n/\t xs σ H Q
section
variable {prog:Program}{w:PySem.World}{A:Around}{E':VP9}
theorem kx1{it t:Addr}{items:Array Value}(b8:t≠it):∀(n i:Nat) (s:Shared) (Q:List Value->Shared->Prop),s.heap.IsListIter it t i->s.heap.IsList t items->i+n<=items.size ->
  (∀h',h'.IsListIter it t (i+n)->Heap.SameBut it s.heap h'->Q ((items.toList.drop i).take n) { s with heap:=h' })->wpAny (model prog w) A (draw (.ref it) n) Q E' s
 | 0,i,s,Q,dq,_,_,hQ=>by
  show wpAny _ _ (pure []) Q E' s;exact X5 (by simpa using hQ s.heap dq (Heap.SameBut.refl ..))
 | n+1,i,s,Q,dq,ht,ff,hQ=>by
  have cb:i<items.size:=⋯
  show wpAny _ _ (pyNext (.ref it) >>= _) Q E' s;refine X0 (wpAny_pyNext_list_item dq ht (x:=items[i]) (by simp[cb]) λh₁ my rf=>?_);have ht₁:h₁.IsList t items:=by
   obtain⟨o,ho,r⟩:=ht;exact⟨o,(rf.2 t b8).trans ho,r⟩
  refine X0 (Y9 (kx1 b8 n (i+1) _ _ my ht₁ ⋯ λh₂ hit₂ hs₂=>X5 ?_));have hd:items.toList.drop i=items[i]::items.toList.drop (i+1):=by simp[List.drop_eq_getElem_cons,cb]
  have:=hQ h₂ (by rw[show i+(n+1)=i+1+n by omega];exact hit₂) (rf.trans hs₂);rw[hd,List.take_succ_cons]at this;exact this
theorem jzg{s:Shared}{t:Addr}{items:Array Value}{Q:List Value->Shared->Prop}(hh:A.handled=none)(ht:s.heap.IsList t items)
  (hQ:∀h',Heap.ExtBut s.heap.objs.size s.heap h'->Q items.toList { s with heap:=h' }):wpAny (model prog w) A (unpackItems (.ref t) items.size none) Q E' s:=by
 have cb:t≠s.heap.objs.size:=by obtain⟨o,ho,_⟩:=ht;exact Xk (Xg ho)
 unfold unpackItems;refine X0 ?_;unfold notIterableAtAll;refine X0 (Yt ht.typeIs slot_list_iter.lookup ?_);refine X5 ?_;simp only[Bool.false_eq_true,if_false];refine X0 (Y9 (wpAny_pyIter_list ht ?_));have ht0:∀o:Obj,(s.heap.push o).IsList t items:=λo=>by
  obtain⟨ob,ho,r⟩:=ht;exact⟨ob,X2 _ ho,r⟩
 refine X0 (Y9 (kx1 cb items.size 0 _ _ ⟨_,Xa _ rfl,rfl,rfl⟩ (ht0 _) ⋯ λh₁ my rf=>?_));have m6:List.take items.size (List.drop 0 items.toList)=items.toList:=by
  rw[List.drop_zero];exact Zb (by simp)
 rw[m6];rw[Xf (by simp)];have ht₁:h₁.IsList t items:=by
  obtain⟨o,ho,r⟩:=ht0 _;exact⟨o,(rf.2 t cb).trans ho,r⟩
 refine X0 (Y9 (wpAny_pyNext_list_end hh my ht₁ (by simp) λh₂ he₂=>?_));simp only[Option.isSome_none,Bool.false_eq_true,if_false];exact X5 (hQ h₂ λb o hb e=>he₂ b o hb (rf.extBut b o hb (X2 _ e)))
theorem jz4{s:Shared}{env:Env}{ef:List Expr}{x1}{pos:Pos}{t:Addr}{items:Array Value}{Q:Unit->Shared->Prop}(hh:A.handled=none)(ht:s.heap.IsList t items)
  (hn:(assignEach ef env).length=items.size) (oi:(assignEach ef env).findIdx? (·.1)=none)
  (h:∀h',Heap.ExtBut s.heap.objs.size s.heap h'->wpAny (model prog w) A (assignInOrder ((assignEach ef env).map (·.2)) items.toList) Q E' { s with heap:=h' }):
  wpAny (model prog w) A (assign (.Tuple ef x1 pos) env (.ref t)) Q E' s:=by
 rw[assign_Tuple];refine X0 (wpAny_standAt ?_);unfold unpack;rw[hn,oi];exact X0 (Y9 (jzg hh ht h))
end
theorem JW(K:Frag){es:List Expr}{k:Nat}{t:TGs}{n:Nat}{pos:Pos}(h:PGs X es t)(hc:autoParam (X.calm=true) Ŕ)(hK:autoParam (X.K=K) Ŕ)
  (hn:autoParam ((assignEach es X.env).length=n) Ŕ) (bc:autoParam ((assignEach es X.env).findIdx? (·.1)=none) Ŕ):PG X (.Tuple es k pos) (wxr K n t):=by
 subst hK;intro pins s σ H v u Q I r hw;obtain⟨a,xs,e1,hq,hl,hw⟩:=hw;subst e1;cases r;rcases hq with hq|hq
 ·obtain⟨a8,rv,ht,hz⟩:=I.tuple hq;refine assign_Tuple_tuple (I.ok.hd hc) ht (by simp[hn,<-hl,rv.length]) bc λh' hx=>?_
  have I1:L2.Inv X pins σ H { s with heap:=h' }:=I.kept (t':=s.toks) λb o e=>hx b o (Xk (Xg e)) e
  exact h pins _ σ H xs _ Q I1 (by simpa using rv) hw
 ·obtain⟨a8,rv,ht,hz⟩:=I.list hq;refine jz4 (I.ok.hd hc) ht.isList (by simp[hn,<-hl,rv.length]) bc λh' hx=>?_
  have I1:L2.Inv X pins σ H { s with heap:=h' }:=I.kept (t':=s.toks) λb o e=>hx b o (Xk (Xg e)) e
  exact h pins _ σ H xs _ Q I1 (by simpa using rv) hw
theorem JX{is:List Nat}(h:PG X e (wxr Z.K is.length (gNs is)))(hp:autoParam (∀i∈is,i∉pn) ŕ):QG X Z pn (.t is) e:=vq6 h λv σ H Q ⟨E,L,z,E',m,w,ho,hv,bq,k⟩=>by
 have fin:∀ds:List D,(z.d=.lst ds\/z.d=.tup ds)->setAll is ds E=some E'->wxr Z.K is.length (gNs is) v σ H Q:=λds hd bq=>by
  obtain⟨a,xs,bs,e1,q1,r,h1,h2⟩:=items w.head hd;rw[ho]at r;refine⟨a,xs,hv.symm.trans e1,?_,by rw[kk9 bq,r.len],qxa (M:=some z::L) m w.tail r (λb hb=>w.apart b (h1 b hb)) (λb hb=>?_) Step.drop Pn.refl bq hp k⟩
  ·rcases q1 with⟨_,z'⟩|⟨_,z'⟩
   ·exact .inr z'.sq
   ·exact .inl z'
  ·rw[qY,kwq ho];exact ll9 _ (h1 b hb)
 cases hd:z.d with|tup ds=>rw[hd]at bq;exact fin ds (.inr hd) bq|lst ds=>rw[hd]at bq;exact fin ds (.inl hd) bq|_=>rw[hd]at bq;cases bq
theorem vku{is:List Nat}{q:Bool}{c:Ex}{ea tg:Expr}{pos:Pos}(h:QE X Z q c ea)(hg:QG X Z pn (.t is) tg)(hs:autoParam (swapsWithSole [tg] ea pos.line X.env=pure false) Ŕ)(hw:autoParam (swappedStores [tg] ea X.env=pure none) Ŕ)(h1:autoParam ((assignEach [tg] X.env).map (·.2)=[assign tg X.env]) Ŕ):
  QS X Z pn (wj1 is c) (.Assign [tg] ea pos):=J4 (qvn h hg hs hw h1) λD σ H ah=>ex7 ah λE L r m w hc k=>
 Kv m w (show ofE (c E) _=some r from hc) k λE1 s h1 x L1 H1 e1 e2 m1 w1 st _=>by
  cases hp:Tg.put (.t is) s.2 E1 with
  |none=>rw[hp]at h1;cases h1
  |some E2=>
   rw[hp]at h1;cases oq9 h1;have w2:World Z.K H1 (some x.let::L1):=w1.tail.consNo (Qv w1.head) rfl λb hb=>w1.apart b hb
   have s2:Step H L H1 (some x.let::L1):=K2 (x:=x.let) (st.trans Step.drop) (jzo (x:=x) st) rfl;exact⟨E1,L1,x.let,E2,m1,w2,rfl,rfl,by rw[show x.let.d=s.2 from e2];exact hp,fun σ' L' p m' w' s'=>k σ' L' H1 p m' w' (s2.trans s')⟩
end
section
variable {X:Cx}{Z:Fx0}{pn:List Nat}{q:Bool}{tg ae:Expr}{it:Ev (List D)}{t:Tg}{B:Sm}{ss:List Stmt}{pos:Pos}{σ:L2.St}{H:Hp}{L:Ls}{E:En}
theorem kkh{K:Frag}{T:List Sl}{H1 H2:Hp}{L1:Ls}{z:Sl}(w:World K H1 (L1++T.map some))(hT:∀t∈T,t.o=.no)(sm:jY H1 H2)(ok:z.ok K H2)(ho:z.o=.no)(hz:∀b∈z.as,∃t∈T,b∈t.as):
  World K H2 ((some z::L1)++T.map some)/\Step H1 (L1++T.map some) H2 ((some z::L1)++T.map some):=by
 have w2:World K H2 (L1++T.map some):=⟨λx hx=>RepO.kp (w.ok x hx) (Kp.of_same sm),w.nd,w.ds⟩;have hf:∀b∈z.as,b∈jQ (L1++T.map some):=λb hb=>by
  obtain⟨t,ht,hbt⟩:=hz b hb;rw[kW];exact lr9 _ (mem_frozen.mpr ⟨t,Xn ht,by rw[kwq (hT t ht)];exact hbt⟩)
 refine⟨w2.consNo ok ho λb hb hL=>w2.ds b hL (hf b hb),λa ob h _=>sm a ob h,λa ha=>?_,λa ha=>?_⟩
 ·rw[List.cons_append,k3,qw1 ho]at ha;exact .inl ha
 ·rw[List.cons_append,qY,kwq ho]at ha;rcases aA ha with q|q
  ·exact .inl (hf a q)
  ·exact .inl q
theorem stay{K:Frag}{T L1 L2:Ls}{H1 H2:Hp}(w:World K H1 (L1++T))(s:Step H1 L1 H2 L2)(w2:World K H2 L2):World K H2 (L2++T)/\Step H1 (L1++T) H2 (L2++T):=⟨s.frame w w2 w.left,s.frm⟩
theorem Step.dropT{T:Ls}{H1:Hp}{L1:Ls}:Step H1 (L1++T) H1 L1:=⟨λ_ _ h _=>h,λa ha=>.inl (by rw[jV];exact ll9 _ ha),λa ha=>.inl (by rw[kW];exact ll9 _ ha)⟩
theorem Kp.trans{H H1 H2:Hp}{as:List Addr}(a:Kp H H1 as)(b:Kp H1 H2 as):Kp H H2 as:=⟨λc xs e=>b.1 c xs (a.1 c xs e),λc o u e=>b.2.1 c o u (a.2.1 c o u e),λc hc ob e=>b.2.2 c hc ob (a.2.2 c hc ob e)⟩
theorem qj4{K:Frag}{H2 H3:Hp}{L2 L3:Ls}{T:List Sl}(w:World K H2 (L2++T.map some))(hT:∀t∈T,t.o=.no)(s:Step H2 L2 H3 L3){H0:Hp}(h:∀t∈T,Kp H0 H2 t.as):∀t∈T,Kp H0 H3 t.as:=λt ht=>
 (h t ht).trans (s.kp w.left λb hb z=>w.ds b (by rw[jV];exact ll9 _ z) (by
  rw[kW];exact lr9 _ (mem_frozen.mpr ⟨t,Xn ht,by rw[kwq (hT t ht)];exact hb⟩)))
theorem wjp(hp:PassesOwn (model X.prog X.w) X.A X.env X.xe)(hc:X.calm=true)(hi:QID X Z q tg it ae)(hg:QG X Z pn t tg)(hb:QSs X Z pn B ss)(hs:autoParam (∀x,foldedSetIterable ae X.env x=pure x) Ŗ):QS X Z pn (vQ it t B) (.For tg ae ss [] pos):=J4 (wk2 hp hc hi hg hb hs) λD σ H ah=>ex7 ah λE L r m w hr k=>by
 have hr:ofE (it E) (λE ds=>JV t B ds E)=some r:=hr;rcases jw0 hr with⟨E1,ds,h1,h2⟩|⟨E1,c,h1,rfl⟩
 rotate_left
 ·exact⟨E,L,_,m,w,h1,k.xc,λE' s' z=>by cases z⟩
 refine⟨E,L,_,m,w,h1,(λ_ _ z=>by cases z),λE' ds' z J T L' H' m' w' st hz _ wk=>?_⟩;injection z with z1 z2;subst z1 z2;have ir:∀{H2:Hp} {L2:Ls},World Z.K H2 (L2++T.map some)->∀t∈T,t.ok Z.K H2:=λw2 t ht=>w2.ok t (lr9 _ (Xn ht))
 refine⟨λi n σ1 H1=>∃E1 L1,Mt E1 σ1 L1/\World Z.K H1 (L1++T.map some)/\Step H L H1 (L1++T.map some)/\Pn pn σ σ1/\JV t B (ds.drop i) E1=some r/\i<=ds.length/\n=ds.length - i/\∀t∈T,Kp H' H1 t.as,⟨_,E1,L',m',w',st,Pn.refl,h2,Yd _,rfl,λ_ _=>Kp.of_same ww⟩,?_⟩;rintro i n σ1 H1 ⟨E1,L1,m1,w1,fe,p1,f1,hi,rfl,pins⟩
 by_cases cb:i<ds.length
 ·have hd:ds.drop i=ds[i]::ds.drop (i+1):=List.drop_eq_getElem_cons cb;rw [hd]at f1;unfold JV at f1;cases bq:t.put ds[i] E1 with
  | none=>rw[bq]at f1;cases f1
  | some E2=>
   rw[bq]at f1;dsimp only at f1;refine .inr ⟨wk.go i H1 ⟨ir w1,pins⟩ cb,fun σ2 H2=>∃E2 L2,Mt E2 σ2 L2/\World Z.K H2 (L2++T.map some)/\Step H L H2 (L2++T.map some)/\Pn pn σ σ2/\JV t B (ds.drop (i+1)) E2=some r/\∀t∈T,Kp H' H2 t.as,fun σ2 H2 ⟨E2,L2,a1,a2,a3,a4,a5,a6⟩=>⟨ds.length - (i+1),⋯,E2,L2,a1,a2,a3,a4,a5,cb,rfl,a6⟩,λv H2 hy=>?_⟩;obtain⟨z,zo,zd,zv,sm,ph,zas⟩:=wk.yld i H1 v H2 ds[i] ⟨ir w1,pins⟩ hy (X1 cb);obtain⟨wz,sz⟩:=kkh w1 wk.no sm ph zo zas;refine⟨E1,L1,z,E2,m1,wz.left,zo,zv,by rw[zd];exact bq,fun σ2 L2 p2 m2 w2 bg=>?_⟩;obtain⟨w3,dh⟩:=stay wz bg w2;have i8:Step H L H2 (L2++T.map some):=fe.trans (sz.trans dh);have lu:∀t∈T,Kp H' H2 t.as:=λt ht=>(pins t ht).trans (Kp.of_same sm)
   cases hB:B E2 with
   | none=>rw[hB]at f1;cases f1
   | some g=>
    rw[hB]at f1;refine⟨E2,L2,g,m2,w2,hB,?_⟩;have fin:∀{g:Fl},g=r->(∀ σ',D.nx σ'=D.nx σ')->FlP Z pn D σ2 H2 (L2++T.map some) g:=λe _=>e▸k.step i8 (p1.trans p2)
    cases g with
    |nx E3=>
     intro σ3 L3 H3 p3 m3 w4 s3;obtain⟨w5,s5⟩:=stay w3 s3 w4;exact⟨E3,L3,m3,w5,i8.trans s5,(p1.trans p2).trans p3,f1,qj4 w3 wk.no s3 lu⟩
    |ct E3=>
     intro σ3 L3 H3 p3 m3 w4 s3;obtain⟨w5,s5⟩:=stay w3 s3 w4;exact⟨E3,L3,m3,w5,i8.trans s5,(p1.trans p2).trans p3,f1,qj4 w3 wk.no s3 lu⟩
    |bk E3=>
     have e:=oq9 f1;subst e;intro σ3 L3 H3 p3 m3 w4 s3;exact k σ3 L3 H3 ((p1.trans p2).trans p3) m3 w4 ((i8.trans Step.dropT).trans s3)
    |rt E3 x=>
     have e:=oq9 f1;subst e;intro y σ3 L3 H3 e1 e2 p3 m3 w4 s3;exact k y σ3 L3 H3 e1 e2 ((p1.trans p2).trans p3) m3 w4 ((i8.trans Step.dropT).trans s3)
    |xc E3 c=>
     have e:=oq9 f1;subst e;intro C σ3 L3 H3 hm p3 m3 w4 s3;exact k C σ3 L3 H3 hm ((p1.trans p2).trans p3) m3 w4 ((i8.trans Step.dropT).trans s3)
 ·have e:i=ds.length:=⋯
  subst e;rw[List.drop_length]at f1;cases oq9 f1;exact .inl ⟨wk.stop H1 ⟨ir w1,pins⟩,k σ1 L1 H1 p1 m1 w1.left (fe.trans Step.dropT)⟩
theorem wx0(hp:PassesOwn (model X.prog X.w) X.A X.env X.xe)(hc:X.calm=true)(hi:QI X Z q tg it ae)(hg:QG X Z pn t tg)(hb:QSs X Z pn B ss)(hs:autoParam (∀x,foldedSetIterable ae X.env x=pure x) Ŗ):QS X Z pn (vQ it t B) (.For tg ae ss [] pos):=wjp hp hc hi.D hg hb hs
end
mutual
noncomputable def jw(h:Heap):D->Value->Prop
 |.non,u=>u=.none|.bl b,u=>u=.bool b|.int i,u=>∃t,u=.int i t|.str z,u=>∃t,u=.str z t|.tup ds,u=>∃a us,u=.ref a/\h.IsTuple a us.toArray/\CReps h ds us|.lst ds,u=>∃a us,u=.ref a/\h.IsList a us.toArray/\CReps h ds us|.dct _,_=>False|.obj _ _,_=>False
noncomputable def CReps(h:Heap):List D->List Value->Prop
 |[],us=>us=[]|d::ds,us=>∃u r,us=u::r/\jw h d u/\CReps h ds r
end
theorem qjp{n:Nat}{k:List (D×D)}:D.flat n (.dct k)=false:=by cases n<;>simp[D.flat]
theorem qjo{n:Nat}{c:Str}{k:List (Str×D)}:D.flat n (.obj c k)=false:=by cases n<;>simp[D.flat]
section
variable {X:Cx}{pins:LA9}{σ:L2.St}{H:Hp}{s:Shared}
mutual
theorem Qz(I:Inv X pins σ H s){g:Bool}:∀{n:Nat} {d:D} {v:V} {as:List Addr} {u:Value},RepL X.K H g d v as->d.flat n=true->RelV v u->jw s.heap d u
 | _,.non,_,_,_,h,_,r=>by
  unfold RepL at h;rw[h.1]at r;unfold jw;exact r
 | _,.bl _,_,_,_,h,_,r=>by
  unfold RepL at h;rw[h.1]at r;unfold jw;exact r
 | _,.int _,_,_,_,h,_,r=>by
  unfold RepL at h;rw[h.1]at r;unfold jw;exact r
 | _,.str _,_,_,_,h,_,r=>by
  unfold RepL at h;rw[h.1]at r;unfold jw;exact r
 | 0,.tup ds,_,_,_,h,f,r=>by unfold D.flat at f;cases f
 | n+1,.tup ds,_,_,_,h,f,r=>by
  unfold RepL at h;unfold D.flat at f;obtain⟨a,xs,rfl,q,ra⟩:=h;cases r;obtain⟨a8,rv,p,_⟩:=I.tuple q;unfold jw;exact⟨a,a8,rfl,p,creps_of I ra f rv⟩
 | 0,.lst ds,_,_,_,h,f,r=>by unfold D.flat at f;cases f
 | n+1,.lst ds,_,_,_,h,f,r=>by
  unfold RepL at h;unfold D.flat at f;obtain⟨a,xs,bs,rfl,ra,q⟩:=h;cases r;have q':SqL X.K H a xs:=by
   rcases q with⟨q,_⟩|⟨_,q,_⟩
   ·exact SqL.of q
   ·exact(LsR.of q).sq
  obtain⟨a8,rv,p,_⟩:=I.list q';unfold jw;exact⟨a,a8,rfl,p.isList,creps_of I ra f rv⟩
 |_,.dct _,_,_,_,h,f,r=>by rw[qjp]at f;cases f|_,.obj _ _,_,_,_,h,f,r=>by rw[qjo]at f;cases f
theorem creps_of(I:Inv X pins σ H s){g:Bool}:∀{n:Nat} {ds:List D} {xs:List V} {as:List Addr} {us:List Value},RepA X.K H g ds xs as->D.flats n ds=true->Vals xs us->CReps s.heap ds us
 | _,[],_,_,_,h,_,r=>by
  unfold RepA at h;rw[h.1]at r;cases r;unfold CReps;rfl
 | n,d::ds,_,_,_,h,f,r=>by
  unfold RepA at h;unfold D.flats at f;rw[Bool.and_eq_true]at f;obtain⟨x,rr,bs,cs,rfl,rfl,h1,h2⟩:=h;cases r with
  |cons r1 r2=>
   unfold CReps;exact⟨_,_,rfl,Qz I h1 f.1 r1,creps_of I h2 f.2 r2⟩
end
end
theorem CReps.len{h:Heap}:∀{ds:List D} {us:List Value},CReps h ds us->ds.length=us.length
 |[],_,r=>by unfold CReps at r;rw[r];rfl
 |d::ds,_,r=>by
  unfold CReps at r;obtain⟨u,rr,rfl,_,h2⟩:=r;simp[CReps.len h2]
theorem CReps.get{h:Heap}:∀{ds:List D} {us:List Value} {j:Nat} {d:D},CReps h ds us->ds[j]?=some d->∃u,us[j]?=some u/\jw h d u
 | [],_,_,_,_,e=>by simp at e
 | d::ds,_,j,d',r,e=>by
  unfold CReps at r;obtain⟨u,rr,rfl,h1,h2⟩:=r;cases j with
  |zero=>
   have e:d=d':=by simpa using e
   subst e;exact⟨u,by simp,h1⟩
  |succ j=>
   obtain⟨w,e1,e2⟩:=CReps.get (j:=j) h2 (by simpa using e);exact⟨w,by simpa using e1,e2⟩
theorem vv4{h:Heap}{a:Addr}{x y:Array Value}(p:h.IsTuple a x)(q:h.IsTuple a y):x=y:=by
 obtain⟨o,h1,_,n,h2⟩:=p;obtain⟨o',h3,_,n',h4⟩:=q;rw[h1]at h3;cases h3;rw[h2]at h4;injection h4
theorem vwv{h:Heap}{a:Addr}{x y:Array Value}(p:h.IsList a x)(q:h.IsList a y):x=y:=by
 obtain⟨o,h1,_,n,h2⟩:=p;obtain⟨o',h3,_,n',h4⟩:=q;rw[h1]at h3;cases h3;rw[h2]at h4;injection h4
theorem qwj{h:Heap}{a:Addr}{x y:Array Value}(p:h.IsList a x)(q:h.IsTuple a y):False:=by
 obtain⟨o,h1,h2,_⟩:=p;obtain⟨o',h3,h4,_⟩:=q;rw[h1]at h3;cases h3;rw[h2]at h4;exact absurd (Value.type.inj h4) ⋯
mutual
theorem jzu{h:Heap}:∀{d d':D} {u:Value},jw h d u->jw h d' u->d=d'
 | .non,d',u,a,b=>by
  unfold jw at a;subst a;cases d'<;>unfold jw at b<;>first|rfl|exact b.elim|(cases b;done)|(obtain⟨_,b⟩:=b;cases b;done)|(obtain⟨_,_,b,_⟩:=b;cases b)
 | .bl k,d',u,a,b=>by
  unfold jw at a;subst a;cases d'<;>unfold jw at b<;>first|exact b.elim|(cases b;rfl)|(cases b;done)|(obtain⟨_,b⟩:=b;cases b;done)|(obtain⟨_,_,b,_⟩:=b;cases b)
 | .int k,d',u,a,b=>by
  unfold jw at a;obtain⟨t,rfl⟩:=a;cases d'<;>unfold jw at b<;>first|exact b.elim|(cases b;done)|(obtain⟨_,b⟩:=b;cases b;rfl)|(obtain⟨_,b⟩:=b;cases b;done)|(obtain⟨_,_,b,_⟩:=b;cases b)
 | .str k,d',u,a,b=>by
  unfold jw at a;obtain⟨t,rfl⟩:=a;cases d'<;>unfold jw at b<;>first|exact b.elim|(cases b;done)|(obtain⟨_,b⟩:=b;cases b;rfl)|(obtain⟨_,b⟩:=b;cases b;done)|(obtain⟨_,_,b,_⟩:=b;cases b)
 | .tup ds,d',u,a,b=>by
  unfold jw at a;obtain⟨x,us,rfl,p,r⟩:=a;cases d' with
  |tup es=>
   unfold jw at b;obtain⟨y,ws,e,p',r'⟩:=b;cases e;have e2:us=ws:=by simpa using vv4 p p'
   subst e2;rw[creps_inj r r']
  |lst es=>
   unfold jw at b;obtain⟨y,ws,e,p',r'⟩:=b;cases e;exact(qwj p' p).elim
  |non=>unfold jw at b;cases b|bl k=>unfold jw at b;cases b|int k=>unfold jw at b;obtain⟨_,b⟩:=b;cases b|str k=>unfold jw at b;obtain⟨_,b⟩:=b;cases b|dct k=>unfold jw at b;exact b.elim|obj k l=>unfold jw at b;exact b.elim
 | .lst ds,d',u,a,b=>by
  unfold jw at a;obtain⟨x,us,rfl,p,r⟩:=a;cases d' with
  |lst es=>
   unfold jw at b;obtain⟨y,ws,e,p',r'⟩:=b;cases e;have e2:us=ws:=by simpa using vwv p p'
   subst e2;rw[creps_inj r r']
  |tup es=>
   unfold jw at b;obtain⟨y,ws,e,p',r'⟩:=b;cases e;exact(qwj p p').elim
  |non=>unfold jw at b;cases b|bl k=>unfold jw at b;cases b|int k=>unfold jw at b;obtain⟨_,b⟩:=b;cases b|str k=>unfold jw at b;obtain⟨_,b⟩:=b;cases b|dct k=>unfold jw at b;exact b.elim|obj k l=>unfold jw at b;exact b.elim
 |.dct k,_,_,a,_=>by unfold jw at a;exact a.elim|.obj k l,_,_,a,_=>by unfold jw at a;exact a.elim
theorem creps_inj{h:Heap}:∀{ds ds':List D} {us:List Value},CReps h ds us->CReps h ds' us->ds=ds'
 | [],ds',us,a,b=>by
  unfold CReps at a;subst a;cases ds' with|nil=>rfl|cons d ds=>unfold CReps at b;obtain⟨_,_,e,_⟩:=b;cases e
 | d::ds,ds',us,a,b=>by
  unfold CReps at a;obtain⟨u,r,rfl,h1,h2⟩:=a;cases ds' with
  |nil=>unfold CReps at b;cases b
  |cons d' ds'=>
   unfold CReps at b;obtain⟨u',r',e,h3,h4⟩:=b;cases e;rw[jzu h1 h3,creps_inj h2 h4]
end
mutual
theorem jx6:∀{n:Nat} {d:D},d.flat n=true->peq d d=true
 |_,.non,_=>by unfold peq;rfl|_,.bl b,_=>by unfold peq;simp|_,.int b,_=>by unfold peq;simp|_,.str b,_=>by unfold peq;simp|0,.tup ds,f=>by unfold D.flat at f;cases f|n+1,.tup ds,f=>by unfold peq;unfold D.flat at f;exact peqs_refl f|0,.lst ds,f=>by unfold D.flat at f;cases f|n+1,.lst ds,f=>by unfold peq;unfold D.flat at f;exact peqs_refl f|_,.dct _,f=>by rw[qjp]at f;cases f|_,.obj _ _,f=>by rw[qjo]at f;cases f
theorem peqs_refl:∀{n:Nat} {d:List D},D.flats n d=true->peqs d d=true
 |_,[],_=>by unfold peqs;rfl
 |n,d::ds,f=>by
  unfold D.flats at f;rw[Bool.and_eq_true]at f;unfold peqs;rw[jx6 f.1,peqs_refl f.2];rfl
end
theorem jxd : ∀{n : Nat} {ds : List D} {j : Nat} {d : D}, D.flats n ds = true -> ds[j]? = some d -> d.flat n = true
  | _, [], _, _, _, e=>by simp at e
  | n, d::ds, j, d', f, e=>by
    unfold D.flats at f;rw[Bool.and_eq_true]at f;cases j with
    | zero => have e : d = d':= by simpa using e
              subst e; exact f.1
    |succ j=>exact jxd (j:= j) f.2 (by simpa using e)
def pAt(as bs:List D)(j:Nat):Bool:=match as[j]?,bs[j]? with
 |some a,some b=>peq a b|_,_=>true
theorem jw5:∀(as bs:List D),as.length=bs.length->(List.range as.length).all (pAt as bs)=peqs as bs
 |[],[],_=>by unfold peqs;rfl
 |a::as,b::bs,h=>by
  have ih:=jw5 as bs (by simpa using h);rw[Xp,List.range_succ_eq_map,List.all_cons,List.all_map];unfold peqs;rw[<-ih];rfl
 |[],_::_,h=>by simp at h|_::_,[],h=>by simp at h
theorem jzr:∀(as bs:List D),as.length≠bs.length->peqs as bs=false
 |[],[],h=>by simp at h
 |a::as,b::bs,h=>by
  unfold peqs;rw[jzr as bs (by simpa using h),Bool.and_false]
 |[],_::_,_=>by unfold peqs;rfl|_::_,[],_=>by unfold peqs;rfl
theorem kzp(as bs:List D):((List.range (min as.length bs.length)).all (pAt as bs)&&as.length==bs.length)=peqs as bs:=by
 by_cases e:as.length=bs.length
 ·rw[<-e,Nat.min_self,jw5 as bs e];simp[e]
 ·rw[jzr as bs e];have:(as.length==bs.length)=false:=by simpa using e
  rw[this,Bool.and_false]
section
variable {s:Shared}
theorem kxw{as bs:List D}{us ws:List Value}{A:Around}(ra:CReps s.heap as us)(rb:CReps s.heap bs ws)
  (h:∀(j:Nat) (d d':D) (u w:Value),as[j]?=some d->bs[j]?=some d'->jw s.heap d u->jw s.heap d' w->SeqAt.EqAt A s u w (peq d d')):
  ∀j (h1:j<us.toArray.size) (h2:j<ws.toArray.size),SeqAt.EqAt A s us.toArray[j] ws.toArray[j] (pAt as bs j):=λj h1 h2=>by
 have l1:=ra.len;have l2:=rb.len;simp only[X7]at h1 h2;have ha:j<as.length:=⋯
 have hb:j<bs.length:=⋯
 obtain⟨u,eu,ru⟩:=ra.get (X1 ha);obtain⟨w,ew,il⟩:=rb.get (X1 hb);have e1:us.toArray[j]=u:=by
  obtain⟨_,q⟩:=List.getElem?_eq_some_iff.mp eu
  simpa using q
 have e2:ws.toArray[j]=w:=by
  obtain⟨_,q⟩:=List.getElem?_eq_some_iff.mp ew
  simpa using q
 have e3:pAt as bs j=peq as[j] bs[j]:=by
  unfold pAt;rw[X1 ha,X1 hb]
 rw[e1,e2,e3];exact h j _ _ u w (X1 ha) (X1 hb) ru il
inductive Cv (h:Heap):D->Value->Prop
 |non:Cv h .non .none
 |bl (b:Bool):Cv h (.bl b) (.bool b)
 |int (i:Int) (t:_):Cv h (.int i) (.int i t)
 |str (z:Str) (t:_):Cv h (.str z) (.str z t)
 |lst {ds:List D} {a:Addr} {us:List Value} (p:h.IsList a us.toArray) (q:CReps h ds us):Cv h (.lst ds) (.ref a)
 |tup {ds:List D} {a:Addr} {us:List Value} (p:h.IsTuple a us.toArray) (q:CReps h ds us):Cv h (.tup ds) (.ref a)
theorem crv{h:Heap}{d:D}{u:Value}(r:jw h d u):Cv h d u:=by
 cases d<;>unfold jw at r
 all_goals first|exact r.elim|(subst r;constructor)|(obtain⟨_,rfl⟩:=r;constructor)|(obtain⟨_,_,rfl,p,q⟩:=r;first|exact .lst p q|exact .tup p q)
theorem wja{A:Around}{d d':D}{u w:Value}(hu:A.units<cLine)(r:jw s.heap d u)(r':jw s.heap d' w)
  (el:∀(as bs:List D) (us ws:List Value),(d=.lst as\/d=.tup as)->(d'=.lst bs\/d'=.tup bs)->CReps s.heap as us->CReps s.heap bs ws->∀j (h1:j<us.toArray.size) (h2:j<ws.toArray.size),SeqAt.EqAt A.in1 s us.toArray[j] ws.toArray[j] (pAt as bs j)):
  SeqAt.RcAt A s u w (peq d d'):=by
 cases crv r<;>cases crv r'<;>unfold peq
 ·exact SeqAt.RcAt.none_none
 ·exact SeqAt.RcAt.none_bool _
 ·exact SeqAt.RcAt.none_int _ _
 ·exact SeqAt.RcAt.none_str _ _
 ·exact SeqAt.RcAt.none_list ‹_› hu
 ·exact SeqAt.RcAt.none_tuple ‹_› hu
 ·exact SeqAt.RcAt.bool_none _
 ·exact SeqAt.RcAt.bool_bool _ _
 ·exact SeqAt.RcAt.bool_int _ _ _
 ·exact SeqAt.RcAt.bool_str _ _ _
 ·exact SeqAt.RcAt.bool_list _ ‹_› hu
 ·exact SeqAt.RcAt.bool_tuple _ ‹_› hu
 ·exact SeqAt.RcAt.int_none _ _
 ·exact SeqAt.RcAt.int_bool _ _ _
 ·exact SeqAt.RcAt.int_int _ _ _ _
 ·exact SeqAt.RcAt.int_str _ _ _ _
 ·exact SeqAt.RcAt.int_list _ _ ‹_› hu
 ·exact SeqAt.RcAt.int_tuple _ _ ‹_› hu
 ·exact SeqAt.RcAt.str_none _ _
 ·exact SeqAt.RcAt.str_bool _ _ _
 ·exact SeqAt.RcAt.str_int _ _ _ _
 ·exact SeqAt.RcAt.str_str _ _ _ _
 ·exact SeqAt.RcAt.str_list _ _ ‹_› hu
 ·exact SeqAt.RcAt.str_tuple _ _ ‹_› hu
 ·exact SeqAt.RcAt.list_none ‹_› hu
 ·exact SeqAt.RcAt.list_bool _ ‹_› hu
 ·exact SeqAt.RcAt.list_int _ _ ‹_› hu
 ·exact SeqAt.RcAt.list_str _ _ ‹_› hu
 ·rename_i as a us p ra bs b ws p' rb;have l1:=ra.len;have l2:=rb.len
  by_cases hl:as.length=bs.length
  ·rw[<-jw5 as bs hl];have z:=SeqAt.RcAt.lists (A:=A) (s:=s) (e:=pAt as bs) p p' (by simp only[X7];omega) hu (el as bs us ws (.inl rfl) (.inl rfl) ra rb);rw[X7,<-l1]at z;exact z
  ·rw[jzr as bs hl];exact SeqAt.RcAt.lists_lengths p p' (by simp only[X7,bne_iff_ne];omega) hu
 ·exact SeqAt.RcAt.list_tuple ‹_› ‹_› hu
 ·exact SeqAt.RcAt.tuple_none ‹_› hu
 ·exact SeqAt.RcAt.tuple_bool _ ‹_› hu
 ·exact SeqAt.RcAt.tuple_int _ _ ‹_› hu
 ·exact SeqAt.RcAt.tuple_str _ _ ‹_› hu
 ·exact SeqAt.RcAt.tuple_list ‹_› ‹_› hu
 ·rename_i as a us p ra bs b ws p' rb;have l1:=ra.len;have l2:=rb.len;rw[<-kzp as bs];have z:=SeqAt.RcAt.tuples (A:=A) (s:=s) (e:=pAt as bs) p p' hu (el as bs us ws (.inr rfl) (.inr rfl) ra rb);rw[X7,X7,<-l1,<-l2]at z;exact z
theorem wwl{A:Around}{d d':D}{u w:Value}(hu:A.units<cLine)(r:jw s.heap d u)(r':jw s.heap d' w)
  (el:∀(as bs:List D) (us ws:List Value),(d=.lst as\/d=.tup as)->(d'=.lst bs\/d'=.tup bs)->CReps s.heap as us->CReps s.heap bs ws->∀j (h1:j<us.toArray.size) (h2:j<ws.toArray.size),SeqAt.EqAt A.in1 s us.toArray[j] ws.toArray[j] (pAt as bs j)):
  SeqAt.RcNeAt A s u w (!peq d d'):=by
 cases crv r<;>cases crv r'<;>unfold peq
 ·exact SeqAt.RcNeAt.none_none
 ·exact SeqAt.RcNeAt.none_bool _
 ·exact SeqAt.RcNeAt.none_int _ _
 ·exact SeqAt.RcNeAt.none_str _ _
 ·exact SeqAt.RcNeAt.none_list ‹_› hu
 ·exact SeqAt.RcNeAt.none_tuple ‹_› hu
 ·exact SeqAt.RcNeAt.bool_none _
 ·exact SeqAt.RcNeAt.bool_bool _ _
 ·exact SeqAt.RcNeAt.bool_int _ _ _
 ·exact SeqAt.RcNeAt.bool_str _ _ _
 ·exact SeqAt.RcNeAt.bool_list _ ‹_› hu
 ·exact SeqAt.RcNeAt.bool_tuple _ ‹_› hu
 ·exact SeqAt.RcNeAt.int_none _ _
 ·exact SeqAt.RcNeAt.int_bool _ _ _
 ·exact SeqAt.RcNeAt.int_int _ _ _ _
 ·exact SeqAt.RcNeAt.int_str _ _ _ _
 ·exact SeqAt.RcNeAt.int_list _ _ ‹_› hu
 ·exact SeqAt.RcNeAt.int_tuple _ _ ‹_› hu
 ·exact SeqAt.RcNeAt.str_none _ _
 ·exact SeqAt.RcNeAt.str_bool _ _ _
 ·exact SeqAt.RcNeAt.str_int _ _ _ _
 ·exact SeqAt.RcNeAt.str_str _ _ _ _
 ·exact SeqAt.RcNeAt.str_list _ _ ‹_› hu
 ·exact SeqAt.RcNeAt.str_tuple _ _ ‹_› hu
 ·exact SeqAt.RcNeAt.list_none ‹_› hu
 ·exact SeqAt.RcNeAt.list_bool _ ‹_› hu
 ·exact SeqAt.RcNeAt.list_int _ _ ‹_› hu
 ·exact SeqAt.RcNeAt.list_str _ _ ‹_› hu
 ·rename_i as a us p ra bs b ws p' rb;have l1:=ra.len;have l2:=rb.len
  by_cases hl:as.length=bs.length
  ·rw[<-jw5 as bs hl];have z:=SeqAt.RcNeAt.lists (A:=A) (s:=s) (e:=pAt as bs) p p' (by simp only[X7];omega) hu (el as bs us ws (.inl rfl) (.inl rfl) ra rb);rw[X7,<-l1]at z;exact z
  ·rw[jzr as bs hl];exact SeqAt.RcNeAt.lists_lengths p p' (by simp only[X7,bne_iff_ne];omega) hu
 ·exact SeqAt.RcNeAt.list_tuple ‹_› ‹_› hu
 ·exact SeqAt.RcNeAt.tuple_none ‹_› hu
 ·exact SeqAt.RcNeAt.tuple_bool _ ‹_› hu
 ·exact SeqAt.RcNeAt.tuple_int _ _ ‹_› hu
 ·exact SeqAt.RcNeAt.tuple_str _ _ ‹_› hu
 ·exact SeqAt.RcNeAt.tuple_list ‹_› ‹_› hu
 ·rename_i as a us p ra bs b ws p' rb;have l1:=ra.len;have l2:=rb.len;rw[<-kzp as bs];have z:=SeqAt.RcNeAt.tuples (A:=A) (s:=s) (e:=pAt as bs) p p' hu (el as bs us ws (.inr rfl) (.inr rfl) ra rb);rw[X7,X7,<-l1,<-l2]at z;exact z
theorem kqz{A:Around}{a a':Addr}{b:Bool}(lg:Value.ref a=Value.ref a'->b=true)(rc:SeqAt.RcAt A s (.ref a) (.ref a') b):SeqAt.EqAt A s (.ref a) (.ref a') b:=by
 by_cases e:a=a'
 ·subst e;rw[lg rfl];exact SeqAt.EqAt.same _
 ·exact SeqAt.EqAt.of_refs e rc
theorem wxw{A:Around}{d d':D}{u w:Value}(hu:A.units<cLine)(r:jw s.heap d u)(r':jw s.heap d' w)(lg:u=w->peq d d'=true)(rc:SeqAt.RcAt A s u w (peq d d')):SeqAt.EqAt A s u w (peq d d'):=by
 cases crv r<;>cases crv r'<;>try unfold peq
 ·exact SeqAt.EqAt.same _
 ·exact SeqAt.EqAt.none_bool _
 ·exact SeqAt.EqAt.none_int _ _
 ·exact SeqAt.EqAt.none_str _ _
 ·exact SeqAt.EqAt.none_list ‹_› hu
 ·exact SeqAt.EqAt.none_tuple ‹_› hu
 ·exact SeqAt.EqAt.bool_none _
 ·exact SeqAt.EqAt.bool_bool _ _
 ·exact SeqAt.EqAt.bool_int _ _ _
 ·exact SeqAt.EqAt.bool_str _ _ _
 ·exact SeqAt.EqAt.bool_list _ ‹_› hu
 ·exact SeqAt.EqAt.bool_tuple _ ‹_› hu
 ·exact SeqAt.EqAt.int_none _ _
 ·exact SeqAt.EqAt.int_bool _ _ _
 ·exact SeqAt.EqAt.int_int _ _ _ _
 ·exact SeqAt.EqAt.int_str _ _ _ _
 ·exact SeqAt.EqAt.int_list _ _ ‹_› hu
 ·exact SeqAt.EqAt.int_tuple _ _ ‹_› hu
 ·exact SeqAt.EqAt.str_none _ _
 ·exact SeqAt.EqAt.str_bool _ _ _
 ·exact SeqAt.EqAt.str_int _ _ _ _
 ·exact SeqAt.EqAt.str_str _ _ _ _
 ·exact SeqAt.EqAt.str_list _ _ ‹_› hu
 ·exact SeqAt.EqAt.str_tuple _ _ ‹_› hu
 ·exact SeqAt.EqAt.list_none ‹_› hu
 ·exact SeqAt.EqAt.list_bool _ ‹_› hu
 ·exact SeqAt.EqAt.list_int _ _ ‹_› hu
 ·exact SeqAt.EqAt.list_str _ _ ‹_› hu
 ·exact kqz lg rc
 ·exact kqz lg rc
 ·exact SeqAt.EqAt.tuple_none ‹_› hu
 ·exact SeqAt.EqAt.tuple_bool _ ‹_› hu
 ·exact SeqAt.EqAt.tuple_int _ _ ‹_› hu
 ·exact SeqAt.EqAt.tuple_str _ _ ‹_› hu
 ·exact kqz lg rc
 ·exact kqz lg rc
theorem Vv:∀(n:Nat) {d d':D} {u w:Value} {A:Around},d.flat n=true->jw s.heap d u->jw s.heap d' w->A.units+n<cLine->SeqAt.EqAt A s u w (peq d d')
 | n,d,d',u,w,A,f,r,r',hu=>by
  refine wxw ⋯ r r' (λe=>?_) (wja ⋯ r r' λas bs us ws h1 h2 ra rb=>?_)
  rotate_left
  ·cases n with
   |zero=>rcases h1 with rfl|rfl<;>(unfold D.flat at f;cases f)
   |succ n=>
    have fs:D.flats n as=true:=by rcases h1 with rfl|rfl<;>(unfold D.flat at f;exact f)
    exact kxw ra rb λj d d' u w e1 e2 q1 q2=>Vv n (jxd fs e1) q1 q2 (by have:=L3.in1_units A;omega)
  ·subst e;rw[jzu r' r];exact jx6 f
end
section
variable {X:Cx}{Z:Fx0}{K:Frag}
def wzp(K:Frag):R2:=λx y H Q=>∃d d' as bs,RepL K H true d x as/\RepL K H true d' y bs/\d.flat 40=true/\d'.flat 40=true/\Q (.bl (peq d d')) H
def wzi(K:Frag):R2:=λx y H Q=>∃d d' as bs,RepL K H true d x as/\RepL K H true d' y bs/\d.flat 40=true/\d'.flat 40=true/\Q (.bl (!peq d d')) H
theorem xV(hu:X.A.units+64<cLine)(hK:autoParam (X.K=K) Ŕ):OpR X (compareOp .Eq) (wzp K):=by
 subst hK;intro pins s σ H x y v u Q I rx ry h;obtain⟨d,d',as,bs,h1,h2,f1,f2,q⟩:=h;have c1:=Qz I h1 f1 rx;have c2:=Qz I h2 f2 ry;refine wja ⋯ c1 c2 (λas bs us ws e1 e2 ra rb=>kxw ra rb λj d d' u w e3 e4 q1 q2=>?_) _ _ _ _ ⟨.bl _,H,I,rfl,q⟩;have fs:D.flats 39 as=true:=by rcases e1 with rfl|rfl<;>(unfold D.flat at f1;exact f1)
 exact Vv 39 (jxd fs e3) q1 q2 (by have:=L3.in1_units X.A;omega)
theorem qw6(hu:X.A.units+64<cLine)(hK:autoParam (X.K=K) Ŕ):OpR X (compareOp .NotEq) (wzi K):=by
 subst hK;intro pins s σ H x y v u Q I rx ry h;obtain⟨d,d',as,bs,h1,h2,f1,f2,q⟩:=h;have c1:=Qz I h1 f1 rx;have c2:=Qz I h2 f2 ry;refine wwl ⋯ c1 c2 (λas bs us ws e1 e2 ra rb=>kxw ra rb λj d d' u w e3 e4 q1 q2=>?_) _ _ _ _ ⟨.bl _,H,I,rfl,q⟩;have fs:D.flats 39 as=true:=by rcases e1 with rfl|rfl<;>(unfold D.flat at f1;exact f1)
 exact Vv 39 (jxd fs e3) q1 q2 (by have:=L3.in1_units X.A;omega)
theorem z3:Ad2 K (wzp K) (pu2 fEq):=by
 intro H x y s Q ox oy hf k;unfold pu2 fEq at hf;dsimp only at hf
 by_cases hc:(x.d.flat 40&&y.d.flat 40)=true
 ·rw[X8 hc]at hf;rw[Bool.and_eq_true]at hc;cases oq9 hf;exact⟨x.d,y.d,x.as,y.as,RepO.wk ox,RepO.wk oy,hc.1,hc.2,k ⟨.dp,.bl _,.bl _,[]⟩ H rfl rfl wX⟩
 ·rw[Xf hc]at hf;cases hf
theorem Zw:Ad2 K (wzi K) (pu2 fNe):=by
 intro H x y s Q ox oy hf k;unfold pu2 fNe at hf;dsimp only at hf
 by_cases hc:(x.d.flat 40&&y.d.flat 40)=true
 ·rw[X8 hc]at hf;rw[Bool.and_eq_true]at hc;cases oq9 hf;exact⟨x.d,y.d,x.as,y.as,RepO.wk ox,RepO.wk oy,hc.1,hc.2,k ⟨.dp,.bl _,.bl _,[]⟩ H rfl rfl wX⟩
 ·rw[Xf hc]at hf;cases hf
end
mutual
noncomputable def XZ:D->Nat
 |.tup xs=>drwDs xs+1|_=>1
noncomputable def drwDs:List D->Nat
 |[]=>0|a::x=>XZ a+drwDs x
end
mutual
theorem qjh:∀{n:Nat} {d:D},jK n d=true->d.flat n=true
 |n,.non,_=>by cases n<;>rfl|n,.bl _,h=>by cases n<;>(unfold jK at h;cases h)|n,.int _,_=>by cases n<;>rfl|n,.str _,h=>by cases n<;>(unfold jK at h;cases h)|0,.tup _,h=>by unfold jK at h;cases h|n+1,.tup xs,h=>by unfold jK at h;unfold D.flat;exact keys_flat h|n,.lst _,h=>by cases n<;>(unfold jK at h;cases h)|n,.dct _,h=>by cases n<;>(unfold jK at h;cases h)|n,.obj _ _,h=>by cases n<;>(unfold jK at h;cases h)
theorem keys_flat:∀{n:Nat} {ds:List D},keyDs n ds=true->D.flats n ds=true
 |_,[],_=>by unfold D.flats;rfl
 |n,a::x,h=>by
  unfold keyDs at h;rw[Bool.and_eq_true]at h;unfold D.flats;rw[qjh h.1,keys_flat h.2];rfl
end
mutual
theorem qwu:∀{n m:Nat} {a b:D},jK n a=true->jK m b=true->peq a b=decide (a=b)
 | n,m,.non,b,_,hb=>by
  cases b with| non=>simp[peq]| int _=>simp[peq]| tup _=>simp[peq]| _=>cases m<;>(unfold jK at hb;cases hb)
 | n,m,.int i,b,_,hb=>by
  cases b with| non=>simp[peq]| int j=>by_cases h:i=j<;>simp[peq,h]| tup _=>simp[peq]| _=>cases m<;>(unfold jK at hb;cases hb)
 | 0,_,.tup _,_,ha,_=>by unfold jK at ha;cases ha
 | n+1,m,.tup xs,b,ha,hb=>by
  cases b with
  | non=>simp[peq]| int j=>simp[peq]
  | tup ys=>
   cases m with
   |zero=>unfold jK at hb;cases hb
   |succ m=>
    unfold jK at ha hb;have:=keys_peq ha hb;rw[show peq (.tup xs) (.tup ys)=peqs xs ys by simp[peq],this]
    by_cases h:xs=ys<;>simp[h]
  |_=>cases m<;>(unfold jK at hb;cases hb)
 |n,_,.bl _,_,ha,_=>by cases n<;>(unfold jK at ha;cases ha)|n,_,.str _,_,ha,_=>by cases n<;>(unfold jK at ha;cases ha)|n,_,.lst _,_,ha,_=>by cases n<;>(unfold jK at ha;cases ha)|n,_,.dct _,_,ha,_=>by cases n<;>(unfold jK at ha;cases ha)|n,_,.obj _ _,_,ha,_=>by cases n<;>(unfold jK at ha;cases ha)
theorem keys_peq:∀{n m:Nat} {a b:List D},keyDs n a=true->keyDs m b=true->peqs a b=decide (a=b)
 |_,_,[],[],_,_=>by simp[peqs]|_,_,[],_::_,_,_=>by simp[peqs]|_,_,_::_,[],_,_=>by simp[peqs]
 |n,m,a::x,b::y,ha,hb=>by
  unfold keyDs at ha hb;rw[Bool.and_eq_true]at ha hb;rw[show peqs (a::x) (b::y)=(peq a b&&peqs x y)by simp[peqs],qwu ha.1 hb.1,keys_peq ha.2 hb.2]
  by_cases h1:a=b<;>by_cases h2:x=y<;>simp[h1,h2]
end
section
variable {prog:Program}{w:PySem.World}{A:Around}{E:VP9}{s:Shared}
theorem qjm{Q:Int->Shared->Prop}(h:Q 4238894112 { s with toks:=s.toks+1 }):wpAny (model prog w) A (pyHash .none) Q E s:=by
 have ty:s.TypeIs Value.none "NoneType":=rfl;unfold pyHash;unfold pyHashByItsType;refine X0 ?_;rw[cRoomFor,Xf (show ¬([Value.none].any Value.onHeap)=true by decide)];refine X5 (X0 (Yt ty F.slot_NoneType_hash.lookup ?_));show wpAny _ _ (if(some (Value.builtin "NoneType.__hash__")==some Value.none)=true then _ else _) Q E s;rw[Xf (show ¬(some (Value.builtin "NoneType.__hash__")==some Value.none)=true by rw[beq_builtin_none];exact Bool.false_ne_true)];refine X0 (Yt ty F.slot_NoneType_hash.lookup ?_);show wpAny _ _ (callSpecialIfBoundUnlessNone? Value.none "__hash__" _ >>= _) Q E s;refine X0 (wpAny_callSpecialIfBoundUnlessNone?_slot ty F.slot_NoneType_hash (Y5 F.slot_NoneType_hash ty F.entry_NoneType_hash ?_ (F.args_NoneType_hash_1 _)));show wpAny _ _ (retInt 4238894112) _ _ s;refine wpAny_ret_mkInt ?_;show wpAny _ _ (if(decide (-(2:Int) ^ 63<=(4238894112:Int))&&decide ((4238894112:Int)<2 ^ 63))=true then _ else _) Q E _;rw[X8 ⋯];exact X5 h
theorem kjm{d:D}:∀ds:List D,hashDs (ds++[d])=hashDs ds++[V2 d]
 |[]=>by simp[hashDs]|a::x=>by rw[List.cons_append,hashDs,hashDs,kjm x];rfl
theorem kkl{d:D}:∀ds:List D,drwDs (ds++[d])=drwDs ds+XZ d
 |[]=>by simp[drwDs]|a::x=>by rw[List.cons_append,drwDs,drwDs,kkl x];omega
theorem wql:∀(n:Nat) {d:D} {u:Value} {A:Around} {s:Shared} {Q:Int->Shared->Prop},jK n d=true->jw s.heap d u->A.units+4*n<cLine->Q (V2 d) { s with toks:=s.toks+XZ d }->wpAny (model prog w) A (pyHash u) Q E s:=by
 intro n
 induction n with
 | zero=>
  intro d u A s Q hk hr hu h;cases d with| non=>unfold jw at hr;subst hr;exact qjm h| int i=>unfold jw at hr;obtain⟨t,rfl⟩:=hr;exact wpAny_pyHash_int h| _=>unfold jK at hk;cases hk
 | succ n ih=>
  intro d u A s Q hk hr hu h;cases d with
  | non=>unfold jw at hr;subst hr;exact qjm h| int i=>unfold jw at hr;obtain⟨t,rfl⟩:=hr;exact wpAny_pyHash_int h
  | tup ds=>
   unfold jK at hk;unfold jw at hr;obtain⟨a,us,rfl,ht,hi⟩:=hr;have ty:=ht.typeIs;obtain⟨ob,ng,da,nn,mn⟩:=ht;unfold pyHash;unfold pyHashByItsType;refine X0 (wpAny_cRoomFor_or (.inr ⋯) ?_);refine X0 (Yt ty F.slot_tuple_hash.lookup ?_);show wpAny _ _ (if(some (Value.builtin "tuple.__hash__")==some Value.none)=true then _ else _) Q E s;rw [Xf (show ¬(some (Value.builtin "tuple.__hash__")==some Value.none)=true by rw[beq_builtin_none];exact Bool.false_ne_true)];refine X0 (Yt ty F.slot_tuple_hash.lookup ?_);show wpAny _ _ (callSpecialIfBoundUnlessNone? (Value.ref a) "__hash__" _ >>= _) Q E s;refine X0 (wpAny_callSpecialIfBoundUnlessNone?_slot ty F.slot_tuple_hash (Y5 F.slot_tuple_hash ty F.entry_tuple_hash ?_ (F.args_tuple_hash_1 _)));show wpAny _ _ (Builtin.Tuple.tupleItemsOf (Value.ref a) >>= _) _ _ s;refine X0 (wpAny_tupleItemsOf ng mn ?_);refine X0 ?_;rw [<-Array.forIn_toList];refine wpAny_forIn_list _ (λa9 (b:Array Int) s'=>∃pre post,ds=pre++post/\keyDs n post=true/\CReps s.heap post a9/\b.toList=hashDs pre/\s'={ s with toks:=s.toks+drwDs pre }) _ ?_ ?_ _ _ ⟨[],ds,rfl,hk,hi,rfl,rfl⟩
   ·rintro x a9 b s' ⟨pre,post,rfl,fk,hl,hb,rfl⟩;cases post with
    | nil=>unfold CReps at hl;cases hl
    | cons d post=>
     unfold CReps at hl;obtain⟨u1,r1,e1,h1,h2⟩:=hl;injection e1 with e1 e2;subst e1 e2;unfold keyDs at fk;rw[Bool.and_eq_true]at fk;have ru:A.in1.units+4*n<cLine:=by show A.units+1+4*n<cLine;omega
     have fin:∃p q,pre++d::post=p++q/\keyDs n q=true/\CReps s.heap q a9/\(b.push (V2 d)).toList=hashDs p/\({ s with toks:=s.toks+drwDs pre+XZ d }:Shared)={ s with toks:=s.toks+drwDs p }:=
      ⟨pre++[d],post,by simp,fk.2,h2,by rw[kjm,<-hb];simp,by rw[kkl,Nat.add_assoc]⟩
     refine X0 (ih fk.1 h1 ru ?_)
     first
      |exact X5 fin
      |exact X0 (X5 (X5 fin))
   ·rintro b s' ⟨pre,post,rfl,fk,hl,hb,rfl⟩;have:post=[]:=by
     cases post with|nil=>rfl|cons d post=>unfold CReps at hl;obtain⟨_,_,z,_⟩:=hl;cases z
    subst this;rw[Y7]at h;show wpAny _ _ (retInt (Builtin.Tuple.tupleHashOf b.toList)) _ _ _;rw[hb];refine wpAny_ret_mkInt ?_;generalize hv:Builtin.Tuple.tupleHashOf (hashDs pre)=v;have h:Q (reduceHash v) { s with toks:=s.toks+drwDs pre+1 }:=by rw[<-hv];unfold V2 XZ at h;rw[Nat.add_assoc];exact h
    show wpAny _ _ (if(decide (-(2:Int) ^ 63<=v)&&decide (v<2 ^ 63))=true then _ else _) Q E _;unfold reduceHash at h
    by_cases hq:(decide (-(2:Int) ^ 63<=v)&&decide (v<2 ^ 63))=true
    ·rw[X8 hq]at h ⊢;exact X5 h
    ·rw[Xf hq]at h ⊢;exact X0 (Zp (X5 h))
  |_=>unfold jK at hk;cases hk
theorem vvo:∀(n m:Nat) {d:D} {u:Value} {A:Around} {s:Shared} {Q:Bool->Shared->Prop},n<=m->jK n d=true->jw s.heap d u->Q true s->wpAny (model prog w) A (eqIsQuiet m u) Q E s:=by
 have byv:∀(m:Nat) {v:Value} {A:Around} {s:Shared} {Q:Bool->Shared->Prop},carriedByValue v=true->Q true s->wpAny (model prog w) A (eqIsQuiet m v) Q E s:=λm v A s Q hv h=>by
  rw [eqIsQuiet_byValue m hv];exact X5 h
 intro n
 induction n with
 | zero=>
  intro m d u A s Q _ hk hr h;cases d with| non=>unfold jw at hr;subst hr;exact byv m rfl h| int i=>unfold jw at hr;obtain⟨t,rfl⟩:=hr;exact byv m rfl h| _=>unfold jK at hk;cases hk
 | succ n ih=>
  intro m d u A s Q hm hk hr h;cases d with
  | non=>unfold jw at hr;subst hr;exact byv m rfl h| int i=>unfold jw at hr;obtain⟨t,rfl⟩:=hr;exact byv m rfl h
  | tup ds=>
   unfold jK at hk;unfold jw at hr;obtain⟨a,us,rfl,ht,hi⟩:=hr;have ty:=ht.typeIs;obtain⟨ob,ng,da,nn,mn⟩:=ht;cases m with
   | zero=>omega
   | succ m=>
    unfold eqIsQuiet;refine X0 (Yt ty F.slot_tuple_eq.lookup ?_);show wpAny _ _ (isInstance (Value.ref a) (.type "tuple") >>= _) _ _ s;refine X0 (wpAny_isInstance ty isSubtype_tuple_tuple ?_);simp only[Bool.not_true,Bool.false_eq_true,if_false];refine X0 (wpAny_seqItems ng mn (X0 ?_));show wpAny _ _ (forIn us.toArray _ _) _ _ s;rw[<-Array.forIn_toList];refine wpAny_forIn_list _ (λa9 r s'=>r.1=none/\s'=s/\∃post,keyDs n post=true/\CReps s.heap post a9) _ ?_ ?_ _ _ ⟨rfl,rfl,ds,hk,hi⟩
    ·rintro v a9 r s' ⟨hr,rfl,post,fk,hl⟩;cases post with
     |nil=>unfold CReps at hl;cases hl
     |cons d post=>
      unfold CReps at hl;obtain⟨u1,r1,e1,h1,h2⟩:=hl;injection e1 with e1 e2;subst e1 e2;unfold keyDs at fk;rw[Bool.and_eq_true]at fk;refine X0 (ih m ⋯ fk.1 h1 ?_);simp only[Bool.not_true,Bool.false_eq_true,if_false];exact X5 ⟨rfl,rfl,post,fk.2,h2⟩
    ·rintro ⟨r1,r2⟩ s' ⟨hr,rfl,_⟩;simp only at hr;subst hr;exact X5 h
  |_=>unfold jK at hk;cases hk
end
mutual
theorem kkm{h h':Heap}{x:Addr}{o:Obj}{es:Array DictEntry}{ep:Nat}(ho:h.get? x=some o)(hd:o.data=.dict es ep)(hs:Heap.SameBut x h h'):∀{n:Nat} {d:D} {u:Value},jK n d=true->jw h d u->jw h' d u
 | _,.non,_,_,r=>by unfold jw at r ⊢;exact r| n,.bl _,_,hk,_=>by cases n<;>(unfold jK at hk;cases hk)| _,.int _,_,_,r=>by unfold jw at r ⊢;exact r| n,.str _,_,hk,_=>by cases n<;>(unfold jK at hk;cases hk)| 0,.tup _,_,hk,_=>by unfold jK at hk;cases hk
 | n+1,.tup ds,_,hk,r=>by
  unfold jK at hk;unfold jw at r ⊢;obtain⟨a,us,e,⟨ob,ng,hc,nn,mn⟩,hi⟩:=r;have b8:a≠x:=by
   rintro rfl;rw[ho]at ng;cases ng;rw[hd]at mn;cases mn
  exact⟨a,us,e,⟨ob,(hs.2 a b8).trans ng,hc,nn,mn⟩,creps_keeps ho hd hs hk hi⟩
 |n,.lst _,_,hk,_=>by cases n<;>(unfold jK at hk;cases hk)|n,.dct _,_,hk,_=>by cases n<;>(unfold jK at hk;cases hk)|n,.obj _ _,_,hk,_=>by cases n<;>(unfold jK at hk;cases hk)
theorem creps_keeps{h h':Heap}{x:Addr}{o:Obj}{es:Array DictEntry}{ep:Nat}(ho:h.get? x=some o)(hd:o.data=.dict es ep)(hs:Heap.SameBut x h h'):∀{n:Nat} {ds:List D} {us:List Value},keyDs n ds=true->CReps h ds us->CReps h' ds us
 |_,[],_,_,r=>by unfold CReps at r ⊢;exact r
 |n,d::ds,_,hk,r=>by
  unfold keyDs at hk;rw[Bool.and_eq_true]at hk;unfold CReps at r ⊢;obtain⟨u,rr,e,h1,h2⟩:=r;exact⟨u,rr,e,kkm ho hd hs hk.1 h1,creps_keeps ho hd hs hk.2 h2⟩
end
noncomputable def ZZ(prog:Program)(w:PySem.World):HeapKind prog w Kd where
 is:=λh k a=>jw h k.1 (.ref a)
 hash:=λk=>V2 k.1
 draws:=λk=>XZ k.1
 room:=λA=>A.units+40<cLine
 inj:=λhx hy=>Subtype.ext (jzu hx hy)
 keeps:=fun {h h' k a d o es ep} x ho hd hs=>kkm ho hd hs k.2 x
 pyHash:=fun {A E s k a Q} hu hk h=>wql 6 k.2 hk (Nat.lt_of_le_of_lt (Nat.add_le_add_left ⋯ _) hu) h
 eqBool:=fun {A E s x y a b Q} hu hx hy h=>by
  have e:peq x.1 y.1=decide (x=y):=by
   rw[qwu x.2 y.2]
   by_cases z:x=y
   ·rw[Xi z,Xi (congrArg Subtype.val z)]
   ·rw[Xj z,Xj λq=>z (Subtype.ext q)]
  have:=Vv (s:=s) 6 (A:=A) (qjh x.2) hx hy (Nat.lt_of_le_of_lt (Nat.add_le_add_left ⋯ _) hu);rw[e]at this;exact this prog w E Q h
 quiet:=fun {A E s k a Q} hk h=>vvo 6 8 ⋯ k.2 hk h
abbrev Sl.sd(x:Sl):Sd:=(x.o,x.d)
def tA(Z:Fx0)(q:Bool)(cs:List Ex):TA:=fun σ H Q=>∃E L r,Mt E σ L/\World Z.K H L/\qW cs E=some r/\Xc Z σ H L r /\
 ∀E' ys,r=.ok E' ys->∀(xs:List Sl) L' H',xs.map Sl.sd=ys->Mt E' σ L'->World Z.K H' (xs.map some++L')->Step H L H' (xs.map some++L')->(q=true->jY H H'/\∀b∈j8 (xs.map some),H b=none)->Q (xs.map Sl.v) H'
def QA(X:Cx)(Z:Fx0)(q:Bool)(cs:List Ex)(es:List Expr):Prop:=PA X es (tA Z q cs)
theorem qj6{X:Cx}{es:List Expr}{t t':TA}(h:PA X es t)(w:∀ σ H Q,t' σ H Q->t σ H Q):PA X es t':=λpos pins s σ H Q I q=>h pos pins s σ H Q I (w σ H Q q)
section
variable {X:Cx}{Z:Fx0}{pn:List Nat}{q:Bool}{c:Ex}{cs:List Ex}{e:Expr}{es:List Expr}{pos:Pos}{σ:L2.St}{H:Hp}{L:Ls}{E:En}
theorem jk:QA X Z true [] []:=qj6 wJ fun σ H Q ah=>ex8 ah λE L r m w hc xc k=>by
 cases oq9 hc;exact k _ _ rfl [] L H rfl m w Step.refl λ_=>⟨λ_ _ z=>z,λ_ z=>(nomatch z)⟩
theorem j5(h:QE X Z q c e)(hs:QA X Z q cs es)(bc:autoParam (starEach (e::es) X.env=(false,eval e X.env)::starEach es X.env) Ŕ):QA X Z q (c::cs) (e::es):=
 qj6 (wj h hs bc) fun σ H Q ah=>ex8 ah λE L r m w hc xc k=>by
  refine WX m w (show bnd (c E) _=some r from hc) xc λE1 s h1 x L1 H1 e1 e2 m1 w1 st sm=>?_
  have s1:Step H L H1 L1:=st.trans Step.drop;rcases x4 h1 with⟨E2,ys,h2,h3⟩|⟨E2,cc,h2,h3⟩
  ·cases oq9 h3;refine⟨E1,L1,_,m1,w1.tail,h2,(λ_ _ z=>by cases z),λE' ys' z xs L2 H2 e3 m2 w2 bg dg=>?_⟩;injection z with z1 z2;subst z1 z2;obtain⟨w3,dh⟩:=ZV (T:=[some x]) w1 bg w2;refine k _ _ rfl (x::xs) L2 H2 (by rw[List.map_cons,e3];simp[Sl.sd,e1,e2]) m2 w3 (st.trans dh) λhq=>?_
   obtain⟨a1,a2⟩:=sm hq;obtain⟨b1,b2⟩:=dg hq;refine⟨qv a1 b1,λb hb=>?_⟩;rw[List.map_cons,k3]at hb;rcases aA hb with z|z
   ·exact a2 b z
   ·exact Jw a1 (b2 b z)
  ·exact⟨E1,L1,_,m1,w1.tail,h2,(xc.step s1).map h3,λE' s' z=>by cases z⟩
end
section
variable {X:Cx}{Z:Fx0}{q:Bool}{cs:List Ex}{es:List Expr}{pos:Pos}{σ:L2.St}{H:Hp}{L:Ls}{E:En}{α:Type}
theorem kjr:∀{cs:List Ex} {E E':En} {ys:List Sd},qW cs E=some (.ok E' ys)->ys.length=cs.length
 | [],E,E',ys,h=>by cases oq9 h;rfl
 | c::cs,E,E',ys,h=>by
  rcases x4 (show bnd (c E) _=some _ from h)with⟨E1,x,h1,h2⟩|⟨_,_,_,z⟩
  ·rcases x4 h2 with⟨E2,xs,h3,h4⟩|⟨_,_,_,z⟩
   ·cases oq9 h4;rw[Xp,Xp,kjr h3]
   ·cases z
  ·cases z
theorem vkh{F:En->List Sd->Option (Res α)}{r:Res α}{G:List V->Hp->Prop}(m:Mt E σ L)(w:World Z.K H L)(h:bnd (qW cs E) F=some r)(xc:Xc Z σ H L r)
  (k:∀E1 ys,F E1 ys=some r->ys.length=cs.length->∀(xs:List Sl) L1 H1,xs.map Sl.sd=ys->Mt E1 σ L1->World Z.K H1 (xs.map some++L1)->Step H L H1 (xs.map some++L1)->(q=true->jY H H1/\∀b∈j8 (xs.map some),H b=none)->G (xs.map Sl.v) H1):tA Z q cs σ H G:=by
 rcases x4 h with⟨E1,s,h1,h2⟩|⟨E1,c,h1,h2⟩
 ·exact⟨E,L,_,m,w,h1,(λ_ _ z=>by cases z),λE' s' z xs L' H' e1 m' w' st sm=>by
   injection z with z1 z2;subst z1 z2;exact k _ _ h2 (kjr h1) xs L' H' e1 m' w' st sm⟩
 ·exact⟨E,L,_,m,w,h1,xc.map h2,λE' s' z=>by cases z⟩
theorem jwa{K:Frag}{H:Hp}(g:Bool):∀{xs:List Sl},(∀x∈xs,x.ok K H)->(g=false->∀x∈xs,vX x.sd=true)->∃bs,RepA K H g (xs.map Sl.d) (xs.map Sl.v) bs/\(∀b∈bs,∃x∈xs,b∈x.as)/\(g=false->bs=j8 (xs.map some))/\(g=true->bs=xs.flatMap Sl.as)
 | [],_,_=>⟨[],by unfold RepA;exact⟨rfl,rfl⟩,λ_ h=>(nomatch h),λ_=>rfl,λ_=>rfl⟩
 | x :: xs,h,ht=>by
  obtain⟨bs,r,hb,ho,hg⟩:=jwa g (xs:=xs) (λy hy=>h y (lc9 _ hy)) λhg y hy=>ht hg y (lc9 _ hy)
  have hx:=h x X6;have h8:∃cs,RepL K H g x.d x.v cs/\(∀b∈cs,b∈x.as)/\(g=false->cs=x.own)/\(g=true->cs=x.as):=by
   cases g with
   | true=>exact⟨x.as,RepO.wk hx,λb hb=>hb,(λz=>by cases z),λ_=>rfl⟩
   | false=>
    have t:=ht rfl x X6;unfold vX at t
    by_cases ho:x.o=.dp
    ·refine⟨x.as,?_,λb hb=>hb,λ_=>?_,λz=>by cases z⟩
     ·have:=hx;unfold Sl.ok at this;rw[ho]at this;exact this
     ·unfold Sl.own;rw[ho]
    ·have hp:x.d.pure=true:=by
      rcases Bool.or_eq_true_iff.mp t with z|z
      ·exact absurd (by simpa using z) ho
      ·exact z
     obtain⟨z,rp⟩:=RepL.pu (g':=false) (RepO.wk hx) hp;exact⟨[],rp,λ_ h=>(nomatch h),λ_=>(vwj z).symm,λz=>by cases z⟩
  obtain⟨cs,r1,h1,h2,h3⟩:=h8;refine⟨cs++bs,?_,λb dj=>?_,λmd=>?_,λmd=>?_⟩
  ·rw[List.map_cons,List.map_cons];unfold RepA;exact⟨x.v,xs.map Sl.v,cs,bs,rfl,rfl,r1,r⟩
  ·rcases aA dj with z|z
   ·exact⟨x,X6,h1 b z⟩
   ·obtain⟨y,hy,hby⟩:=hb b z;exact⟨y,lc9 _ hy,hby⟩
  ·rw[List.map_cons,k3,h2 md,ho md]
  ·rw[Zi,h3 md,hg md]
theorem vjl{K:Frag}{H:Hp}{p:Addr}{xs:List Sl}{L:Ls}(w:World K H (xs.map some++L))(hp:H p=none):
  ∃bs,World K (upd H p (.lst (xs.map Sl.v))) (some ⟨.rt,.lst (xs.map Sl.d),.ref p,p::bs⟩::L)/\Step H (xs.map some++L) (upd H p (.lst (xs.map Sl.v))) (some ⟨.rt,.lst (xs.map Sl.d),.ref p,p::bs⟩::L):=by
 obtain⟨bs,r,hb,_,_⟩:=jwa true (xs:=xs) (λx hx=>w.ok x (ll9 _ (Xn hx))) (λz=>by cases z);have ap:∀b∈bs,b∉j8 L:=λb dj hL=>by
  obtain⟨x,hx,fh⟩:=hb b dj;rcases Sl.as_of fh with z|z
  ·have nd:=w.nd;rw[jV,Xe]at nd;exact nd.2.2 b (mem_owned.mpr ⟨x,Xn hx,z⟩) b hL rfl
  ·exact w.ds b (by rw[jV];exact lr9 _ hL) (by rw[kW];exact ll9 _ (mem_frozen.mpr ⟨x,Xn hx,z⟩))
 have al:∀b∈bs,H b≠none:=λb dj=>by
  obtain⟨x,hx,fh⟩:=hb b dj;exact(w.ok x (ll9 _ (Xn hx))).some fh
 have sr:Src H (xs.map some++L) bs:=λb dj=>by
  obtain⟨x,hx,fh⟩:=hb b dj;rcases Sl.as_of fh with z|z
  ·exact .inr (.inl (by rw[jV];exact ll9 _ (mem_owned.mpr ⟨x,Xn hx,z⟩)))
  ·exact .inl (by rw[kW];exact ll9 _ (mem_frozen.mpr ⟨x,Xn hx,z⟩))
 have o:Out K H (upd H p (.lst (xs.map Sl.v))) ⟨.rt,.lst (xs.map Sl.d),.ref p,p::bs⟩ bs:=KQ hp r λb hb=>hb
 have st:Step H (xs.map some++L) H L:=⟨λ_ _ h _=>h,λa ha=>.inl (by rw[jV];exact lr9 _ ha),λa ha=>.inl (by rw[kW];exact lr9 _ ha)⟩;exact⟨bs,Q3 (Z:=⟨K,λ_=>none,λ_ _ _=>True⟩) w.right st o ap al sr⟩
theorem vjk{K:Frag}{H:Hp}{p:Addr}{xs:List Sl}{L:Ls}(w:World K H (xs.map some++L))(hp:H p=none):
  ∃bs,World K (upd H p (.tup (xs.map Sl.v))) (some ⟨.no,.tup (xs.map Sl.d),.ref p,bs⟩::L)/\Step H (xs.map some++L) (upd H p (.tup (xs.map Sl.v))) (some ⟨.no,.tup (xs.map Sl.d),.ref p,bs⟩::L):=by
 obtain⟨bs,r,hb,_,_⟩:=jwa true (xs:=xs) (λx hx=>w.ok x (ll9 _ (Xn hx))) (λz=>by cases z);have ap:∀b∈bs,b∉j8 L:=λb dj hL=>by
  obtain⟨x,hx,fh⟩:=hb b dj;rcases Sl.as_of fh with z|z
  ·have nd:=w.nd;rw[jV,Xe]at nd;exact nd.2.2 b (mem_owned.mpr ⟨x,Xn hx,z⟩) b hL rfl
  ·exact w.ds b (by rw[jV];exact lr9 _ hL) (by rw[kW];exact ll9 _ (mem_frozen.mpr ⟨x,Xn hx,z⟩))
 have al:∀b∈bs,H b≠none:=λb dj=>by
  obtain⟨x,hx,fh⟩:=hb b dj;exact(w.ok x (ll9 _ (Xn hx))).some fh
 have sr:Src H (xs.map some++L) bs:=λb dj=>by
  obtain⟨x,hx,fh⟩:=hb b dj;rcases Sl.as_of fh with z|z
  ·exact .inr (.inl (by rw[jV];exact ll9 _ (mem_owned.mpr ⟨x,Xn hx,z⟩)))
  ·exact .inl (by rw[kW];exact ll9 _ (mem_frozen.mpr ⟨x,Xn hx,z⟩))
 have o:Out K H (upd H p (.tup (xs.map Sl.v))) ⟨.no,.tup (xs.map Sl.d),.ref p,bs⟩ bs:=kj9 hp r λb hb=>hb
 have st:Step H (xs.map some++L) H L:=⟨λ_ _ h _=>h,λa ha=>.inl (by rw[jV];exact lr9 _ ha),λa ha=>.inl (by rw[kW];exact lr9 _ ha)⟩;exact⟨bs,Q3 (Z:=⟨K,λ_=>none,λ_ _ _=>True⟩) w.right st o ap al sr⟩
theorem qwi{K:Frag}{H H':Hp}{xs:List Sl}{L:Ls}{d:D}{v:V}{ps:List Addr}(w:World K H (xs.map some++L))(ht:∀x∈xs,vX x.sd=true)(hp:∀b∈ps,H b=none)(nd:ps.Nodup)(sm:jY H H')
  (rep:∀bs,RepA K H false (xs.map Sl.d) (xs.map Sl.v) bs->RepL K H' false d v (ps++bs)):
  World K H' (some ⟨.dp,d,v,ps++j8 (xs.map some)⟩::L)/\Step H (xs.map some++L) H' (some ⟨.dp,d,v,ps++j8 (xs.map some)⟩::L):=by
 obtain⟨bs,r,hb,ho,_⟩:=jwa false (xs:=xs) (λx hx=>w.ok x (ll9 _ (Xn hx))) (λ_=>ht);have e:=ho rfl;subst e;have w2:World K H' (xs.map some++L):=⟨λx hx=>RepO.kp (w.ok x hx) (Kp.of_same sm),w.nd,w.ds⟩;have ndx:=w.nd;rw[jV,Xe]at ndx;have al:∀b∈j8 (xs.map some),H b≠none:=λb hb=>w.own_some (by rw[jV];exact ll9 _ hb)
 refine⟨w2.right.cons (x:=⟨.dp,d,v,ps++j8 (xs.map some)⟩) (rep _ r) ?_ (λa ha hL=>?_) (λa ha hf=>?_) (λa ha=>(nomatch ha)) (λa ha=>λz=>(nomatch z)),⟨λa ob h _=>sm a ob h,λa ha=>?_,λa ha=>?_⟩⟩
 ·show(ps++j8 (xs.map some)).Nodup;rw[Xe];exact⟨nd,ndx.1,λa ha b hb e=>by subst e;exact al a hb (hp a ha)⟩
 ·rcases aA (show a∈ps++j8 (xs.map some)from ha)with z|z
  ·exact w.own_some (by rw[jV];exact lr9 _ hL) (hp a z)
  ·exact ndx.2.2 a z a hL rfl
 ·rcases aA (show a∈ps++j8 (xs.map some)from ha)with z|z
  ·exact w.frz_some (by rw[kW];exact lr9 _ hf) (hp a z)
  ·exact w.ds a (by rw[jV];exact ll9 _ z) (by rw[kW];exact lr9 _ hf)
 ·rw[k3]at ha;rcases aA ha with z|z
  ·rcases aA (show a∈ps++j8 (xs.map some)from z)with y|y
   ·exact .inr (hp a y)
   ·exact .inl (by rw[jV];exact ll9 _ y)
  ·exact .inl (by rw[jV];exact lr9 _ z)
 ·rw[qY]at ha;exact .inl (by rw[kW];exact lr9 _ ha)
theorem wvs{xs:List Sl}{ys:List Sd}(h:xs.map Sl.sd=ys):xs.map Sl.d=ys.map (·.2):=by rw[<-h,Xm];rfl
theorem kzx{xs:List Sl}{ys:List Sd}(h:xs.map Sl.sd=ys)(ht:ys.all vX=true):∀x∈xs,vX x.sd=true:=λx hx=>by
 rw[<-h,List.all_map,Z2]at ht;exact ht x hx
theorem qja{o:Own}{xs:List Sl}{ys:List Sd}{E':En}{r:Res Sd}{L':Ls}{H1:Hp}{Q:VK}{Hq:Hp}{Lq:Ls}(h:mkL o E' ys=some r)(e:xs.map Sl.sd=ys)(w:World Z.K H1 (xs.map some++L'))(st:Step Hq Lq H1 (xs.map some++L'))(sm:q=true->jY Hq H1/\∀b∈j8 (xs.map some),Hq b=none)
  (k:∀E'' a,r=.ok E'' a->∀(x:Sl) L'' H',x.o=a.1->x.d=a.2->Mt E'' σ L''->World Z.K H' (some x::L'')->Step Hq Lq H' (some x::L'')->(q=true->jY Hq H'/\∀b∈x.own,Hq b=none)->Q x.v H') (m:Mt E' σ L'):
  ∀ p,H1 p=none->Q (.ref p) (upd H1 p (.lst (xs.map Sl.v))):=by
 intro p hp;unfold mkL at h
 by_cases ho:o=.dp
 ·rw[X8 ho]at h
  by_cases ht:ys.all vX=true
  ·rw[X8 ht]at h;cases oq9 h;obtain⟨w2,s2⟩:=qwi (d:=.lst (xs.map Sl.d)) (v:=.ref p) (ps:=[p]) w (kzx e ht) (λb hb=>by rw[aC hb];exact hp) (by simp) (wZ (o:=.lst (xs.map Sl.v)) hp) (λbs r=>by
    unfold RepL;exact⟨p,_,bs,rfl,r.kp (Kp.of_same (wZ hp)),.inl ⟨x3,rfl⟩⟩)
   refine k _ _ rfl ⟨.dp,.lst (xs.map Sl.d),.ref p,_⟩ L' _ rfl (by rw[wvs e]) m w2 (st.trans s2) λhq=>⟨qv (sm hq).1 (wZ hp),λb hb=>?_⟩
   rcases aA (show b∈[p]++j8 (xs.map some)from hb)with z|z
   ·rw[aC z];exact Jw (sm hq).1 hp
   ·exact(sm hq).2 b z
  ·rw[Xf ht]at h;cases h
 ·rw[Xf ho]at h;cases oq9 h;obtain⟨bs,w2,s2⟩:=vjl w hp;refine k _ _ rfl ⟨.rt,.lst (xs.map Sl.d),.ref p,p::bs⟩ L' _ rfl (by rw[wvs e]) m w2 (st.trans s2) λhq=>⟨qv (sm hq).1 (wZ hp),λb hb=>?_⟩
  have:b=p:=by simpa [Sl.own]using hb
  rw[this];exact Jw (sm hq).1 hp
theorem vzu{xs:List Sl}{ys:List Sd}{n:Nat}(h:xs.map Sl.sd=ys)(hl:ys.length=n)(hz:n<=1000):(xs.map Sl.v).length<=sizeLine:=by
 have:xs.length=n:=by rw[<-hl,<-h,X3]
 rw[X3,this];exact Ye hz ⋯
theorem xz{o:Own}(h:QA X Z q cs es)(hz:autoParam (cs.length<=1000) ŕ):QE X Z q (wx o cs) (.List es pos):=q9 (wke h) fun σ H Q ah=>ex8 ah λE L r m w hc xc k=>
 vkh m w (show bnd (qW cs E) _=some r from hc) xc λE1 ys h1 hl xs L1 H1 e1 m1 w1 st sm=>⟨vzu e1 hl hz,qja (o:=o) (E':=E1) (ys:=ys) (by unfold mkL;exact h1) e1 w1 st sm k m1⟩
theorem qZ{o:Own}{x1}(h:QA X Z q cs es)(hz:autoParam (cs.length<=1000) ŕ):QE X Z q (qz o cs) (.Tuple es x1 pos):=q9 (wka h) fun σ H Q ah=>ex8 ah λE L r m w hc xc k=>
 vkh m w (show bnd (qW cs E) _=some r from hc) xc λE1 ys h1 hl xs L1 H1 e1 m1 w1 st sm=>⟨vzu e1 hl hz,λp hp=>by
  by_cases ho:o=.dp
  ·rw[X8 ho]at h1
   by_cases ht:ys.all vX=true
   ·rw[X8 ht]at h1;cases oq9 h1;obtain⟨w2,s2⟩:=qwi (d:=.tup (xs.map Sl.d)) (v:=.ref p) (ps:=[]) w1 (kzx e1 ht) (λb hb=>(nomatch hb)) (by simp) (wZ (o:=.tup (xs.map Sl.v)) hp) (λbs r=>by
     unfold RepL;exact⟨p,_,rfl,SqT.of x3,r.kp (Kp.of_same (wZ hp))⟩)
    exact k _ _ rfl ⟨.dp,.tup (xs.map Sl.d),.ref p,_⟩ L1 _ rfl (by rw[wvs e1]) m1 w2 (st.trans s2) λhq=>⟨qv (sm hq).1 (wZ hp),λb hb=>(sm hq).2 b hb⟩
   ·rw[Xf ht]at h1;cases h1
  ·rw[Xf ho]at h1;cases oq9 h1;obtain⟨bs,w2,s2⟩:=vjk w1 hp;exact k _ _ rfl ⟨.no,.tup (xs.map Sl.d),.ref p,bs⟩ L1 _ rfl (by rw[wvs e1]) m1 w2 (st.trans s2) λhq=>⟨qv (sm hq).1 (wZ hp),λb hb=>(nomatch hb)⟩⟩
end
noncomputable def spF(K:Frag)(mg:Str->Option Value)(n:Nat)(f:Fn):Sp:=λvs H Q E=>∃(xs:List Sl) (r:Res Sd),vs=xs.map Sl.v/\xs.length=n/\World K H (xs.map some)/\f (xs.map Sl.sd)=some r /\
 (∀E' c,r=.exc E' c->∀C H',mg c=some (.ref C)->Step H (xs.map some) H' []->E (.ref C) none H') /\
 ∀E' a,r=.ok E' a->∀(x:Sl) H',x.o=a.1->x.d=a.2->World K H' [some x]->Step H (xs.map some) H' [some x]->Q x.v H'
theorem qk{K:Frag}{mg:Str->Option Value}{n:Nat}{f:Fn}{ps:List Str}(hn:ps.length=n):∀vs H Q E,spF K mg n f vs H Q E->vs.length=ps.length:=λvs H Q E ⟨xs,r,e,hl,_⟩=>by rw[e,X3,hl,hn]
theorem kqq:∀(xs:List Sl) (k:Nat),Mt (xs.map (λx=>some x.sd)++List.replicate k none) (xs.map (λx=>some x.v)++List.replicate k none) (xs.map some++List.replicate k none)
 |[],0=>.nil
 |[],k+1=>by
  rw[List.map_nil,List.map_nil,List.map_nil,List.replicate_succ,List.replicate_succ,List.replicate_succ];exact .un (kqq [] k)
 |x::xs,k=>.cons (x:=x) (kqq xs k)
theorem kZ{X:Cx}{K:Frag}{mg:Str->Option Value}{N:List Str}{n nn:Nat}{B:Sm}{body:List Stmt}{H:Hp}{vs:List V}{Q:VK}{E:XK}(hN:N.length=nn)(t:QSs X ⟨K,mg,E⟩ [] B body)(h:spF K mg n (fn nn B) vs H Q E):
  ∃t,PSs X body t/\t { nx:=λ_ H'=>Q .non H',rt:=Q } (L2.start N vs) H:=by
 refine⟨_,t,?_⟩;obtain⟨xs,r,rfl,hl,w,hf,hx,hk⟩:=h;unfold fn at hf;rw[X3,Xm]at hf;have m:=kqq xs (nn - xs.length);have e1:L2.start N (xs.map Sl.v)=xs.map (λx=>some x.v)++List.replicate (nn - xs.length) none:=by
  unfold L2.start;rw[Xm,X3,hN];rfl
 have wL:World K H (xs.map some++List.replicate (nn - xs.length) none):=w.same (by simp);have sL:Step H (xs.map some) H (xs.map some++List.replicate (nn - xs.length) none):=Step.refl.same (List.Perm.refl _) (by simp);cases hB:B (xs.map (λx=>some x.sd)++List.replicate (nn - xs.length) none)with
 | none=>rw[show(some∘Sl.sd)=(λx:Sl=>some x.sd)from rfl,hB]at hf;cases hf
 | some g=>
  rw[show(some∘Sl.sd)=(λx:Sl=>some x.sd)from rfl,hB]at hf;refine⟨_,_,g,e1▸m,wL,hB,?_⟩;cases g with
  |nx E1=>
   cases oq9 hf;intro σ' L' H' _ m' w' s';exact hk _ _ rfl ⟨.dp,.non,.non,[]⟩ H' rfl rfl (World.consPu (x:=⟨.dp,.non,.non,[]⟩) (L:=[]) ⟨λ_ z=>(nomatch z),Xs,λ_ z=>(nomatch z)⟩ (show RepL K H' false .non .non []from qv7) rfl) (K2 (x:=⟨.dp,.non,.non,[]⟩) ((sL.trans s').sub (by simp)) (λb hb=>(nomatch hb)) rfl)
  |rt E1 a=>
   cases oq9 hf;intro x σ' L' H' e2 e3 _ m' w' s';exact hk _ _ rfl x H' e2 e3 (w'.sub (by simp)) ((sL.trans s').sub (by simp))
  |xc E1 c=>
   cases oq9 hf;intro C σ' L' H' hm _ m' w' s';exact hx _ _ rfl C H' hm ((sL.trans s').sub (by simp))
  |ct E1=>cases hf|bk E1=>cases hf
section
variable {X:Cx}{Z:Fx0}{q:Bool}{cs:List Ex}{e:Expr}{es:List Expr}{pos p:Pos}{x:Str}{ps:List Str}{k n:Nat}{f:Fn}
theorem JK:∀xs:List Sl,j8 ((xs.map Sl.let).map some)=[]
 |[]=>rfl|x::xs=>by rw[List.map_cons,List.map_cons,k3,JK xs];rfl
theorem jwu:∀xs:List Sl,jQ ((xs.map Sl.let).map some)=xs.flatMap Sl.as
 |[]=>rfl|x::xs=>by rw[List.map_cons,List.map_cons,qY,jwu xs,Zi];rfl
theorem qwl(xs:List Sl):(xs.map Sl.let).map Sl.sd=letAll (xs.map Sl.sd):=by
 unfold letAll;rw[Xm,Xm];rfl
theorem kk6{K:Frag}{H:Hp}{xs:List Sl}{L:Ls}(w:World K H (xs.map some++L)):World K H ((xs.map Sl.let).map some++L)/\Step H (xs.map some++L) H ((xs.map Sl.let).map some++L):=by
 have nd:=w.nd;rw[jV,Xe]at nd;have cl:∀a∈xs.flatMap Sl.as,a∈j8 (xs.map some)\/a∈jQ (xs.map some):=λa ha=>by
  obtain⟨x,hx,hax⟩:=List.mem_flatMap.mp ha;exact(Sl.as_of hax).imp (λz=>mem_owned.mpr ⟨x,Xn hx,z⟩) λz=>mem_frozen.mpr ⟨x,Xn hx,z⟩
 refine⟨⟨λx hx=>?_,by rw[jV,JK];exact nd.2.1,λa ha hf=>?_⟩,λ_ _ h _=>h,λa ha=>?_,λa ha=>?_⟩
 ·rcases aA hx with hx|hx
  ·obtain⟨y,hy,e⟩:=aE hx;cases e;obtain⟨z,hz,rfl⟩:=aE hy;exact Qv (w.ok z (ll9 _ (Xn hz)))
  ·exact w.ok x (lr9 _ hx)
 ·rw[jV,JK]at ha;rw[kW,jwu]at hf;rcases aA hf with z|z
  ·rcases cl a z with z|z
   ·exact nd.2.2 a z a ha rfl
   ·exact w.ds a (by rw[jV];exact lr9 _ ha) (by rw[kW];exact ll9 _ z)
  ·exact w.ds a (by rw[jV];exact lr9 _ ha) (by rw[kW];exact lr9 _ z)
 ·rw[jV,JK]at ha;exact .inl (by rw[jV];exact lr9 _ ha)
 ·rw[kW,jwu]at ha;rw[kW,jV];rcases aA ha with z|z
  ·rcases cl a z with z|z
   ·exact .inr (.inl (ll9 _ z))
   ·exact .inl (ll9 _ z)
  ·exact .inl (lr9 _ z)
theorem wjs(D:kK X.prog X.w X.K X.mg X.base k x ps (spF Z.K Z.mg n f))(hr:Room k X.A)(g:wY X Z.EX)(ha:QA X Z q cs (e::es))(hn:autoParam (cs.length=n) Ŕ)(hg:autoParam (Gl X x) Ŕ)(dn:autoParam ((x==("__debug__":Str))=false) ŕ)
  (he:autoParam (starEach (e::es) X.env=(false,eval e X.env)::starEach es X.env) Ŕ) (bh:autoParam ((backTo pos (starEach es X.env)).any (·.1)=false) Ŕ):
  QE X Z q (jz f cs) (.Call (.Name x p) (e::es) [] pos):=q9 (vq9 D hr g ha hg dn he bh) fun σ H Q ah=>ex8 ah λE L r m w hc xc kk=>
 vkh m w (show bnd (qW cs E) _=some r from hc) xc λE1 ys h1 hl xs L1 H1 e1 m1 w1 st sm=>by
  rw [Y7];have ab:xs.length=n:=by rw[<-hn,<-hl,<-e1,X3]
  cases hf:f (letAll ys)with
  | none=>rw[hf]at h1;cases h1
  | some fr=>
   rw[hf]at h1;obtain⟨wl,sl⟩:=kk6 w1;have ev:xs.map Sl.v=(xs.map Sl.let).map Sl.v:=by rw[Xm];rfl
   rw[ev];refine⟨xs.map Sl.let,fr,rfl,by rw[X3];exact ab,wl.left,by rw[<-e1]at hf;rw[qwl];exact hf,λE' c ee C H' hm s'=>?_,λE' a ee y H' e2 e3 w' s'=>?_⟩
   ·subst ee;cases oq9 h1;obtain⟨w2,s2⟩:=stay wl s' ⟨λ_ z=>(nomatch z),Xs,λ_ z=>(nomatch z)⟩;exact xc _ _ rfl C L1 H' hm m1 w2 ((st.trans sl).trans s2)
   ·subst ee;cases oq9 h1;obtain⟨w2,s2⟩:=stay wl s' w';refine kk _ _ rfl y L1 H' e2 e3 m1 w2 ((st.trans sl).trans s2) λhq=>?_
    obtain⟨a1,a2⟩:=sm hq;refine⟨λb ob hb=>s'.keep b ob (a1 b ob hb) λz=>?_,λb hb=>?_⟩
    ·rw[JK]at z;exact nomatch z
    ·rcases s'.own b (by rw[k3];exact ll9 _ hb)with z|z
     ·rw[JK]at z;exact nomatch z
     ·exact Jw a1 z
end
def wjd(K:Frag):R2:=λx y H Q=>∃l k xs,x=.ref l/\y=.int k/\LsR K H l xs/\-(2 ^ 63)<=k/\k<2 ^ 63/\xs.length*k.toNat<=sizeLine /\
 ∀p,H p=none->Q (.ref p) (upd H p (.lst (List.replicate k.toNat xs).flatten))
theorem op_repR{X:Cx}:OpR X (binaryOp .Mult) (wjd X.K):=by
 intro pins s σ H x y v u Q I rx ry h;obtain⟨l,k,xs,rfl,rfl,hH,h1,h2,hz,q⟩:=h;cases rx;obtain⟨t,rfl⟩:=ry;obtain⟨z,a8,n,r,e⟩:=hH.is I;have hl:=r.length;have ab:a8.toArray.size*k.toNat<=sizeLine:=by rw[X7,<-hl];exact hz
 have hcap:¬a8.toArray.size*k.toNat>(2 ^ 63 - 1) / 8:=by
  have:(sizeLine:Nat)<=(2 ^ 63 - 1) / 8:=⋯
  omega
 have hfit:¬(!Builtin.List.listFitsIndex k)=true:=by
  rw[fitsIndex_both h1 h2];exact Bool.false_ne_true
 have pj:¬Builtin.List.listTooLong (a8.toArray.size*k.toNat)=true:=by
  rw[vjg ab];exact Bool.false_ne_true
 have de:List.foldl (λx1 x2=>x1++x2) #[] (List.replicate (if a8.toArray.isEmpty=true then 0 else k.toNat) a8.toArray)=(List.replicate k.toNat a8).flatten.toArray:=by
  have f0:∀m:Nat,List.foldl (λx1 x2=>x1++x2) #[] (List.replicate m a8.toArray)=(List.replicate m a8).flatten.toArray:=λm=>by
   have:=kjn a8 m [];rw[List.nil_append]at this;exact this
  rw[f0];cases a8 with|nil=>simp|cons a r'=>rw[Xf (by simp)]
 refine wpAny_binaryOp_repeat_ref (T:="list") (U:="int") ⋯ ⟨_,e,rfl⟩ (λs'=>typeIs_int s' k t) noFill_list_mul F.fills_int_mul F.slot_int_rmul repeat_list F.slot_int_index.lookup
  (call_meets F.slot_int_rmul (typeIs_int s k t) F.entry_int_rmul (F.args_int_rmul_2 _ _) (int___rmul___int_list k t l a8.toArray n)
   ⟨e,rfl,⟨_,e,rfl⟩,call_meets F.slot_list_mul ⟨_,e,rfl⟩ F.entry_list_mul (F.args_list_mul_2 _ _) (AutoListH.list___mul___list_int_3 l a8.toArray n k t hfit hcap pj) ⟨e,?_⟩⟩)
 rw[de];exact⟨.ref _,_,I.lnew (t':=s.toks) (r.rep k.toNat) (by rw[qwn,Nat.mul_comm];exact hz),rfl,q _ I.fresh⟩
def vvm(K:Frag):R2:=λx y H Q=>rI IntMulOk (λi j=>.int (i*j)) x y H Q\/wjd K x y H Q\/wjc x y H Q
theorem wkp{X:Cx}{K:Frag}(hK:autoParam (X.K=K) Ŕ):OpR X (binaryOp .Mult) (vvm K):=by subst hK;exact op_mulI.or (op_repR.or vwl)
theorem qjc{a:Int}(h:a.natAbs.log2<2000000):Builtin.Int.intBits a<=2000000:=by
 unfold Builtin.Int.intBits
 split
 ·exact Yd _
 ·omega
theorem mulOk_of{a b:Int}(h:K4 a b=true):IntMulOk a b:=by
 unfold K4 V4 at h;simp only[Bool.or_eq_true,Bool.and_eq_true,decide_eq_true_eq]at h;rcases h with(h|h)|h
 ·exact .of_left (intBits_le_64 h.1 h.2)
 ·exact .of_right (intBits_le_64 h.1 h.2)
 ·have h1:=qjc h.1;have h2:=qjc h.2;unfold IntMulOk Builtin.Int.intTooBig;have e:(2:Nat) ^ 27=134217728:=⋯
  have hb:bitsLine=134217728:=e;simp only[Bool.and_eq_true,decide_eq_true_eq,not_and];intro _ _;omega
theorem RepA.reps{K:Frag}{H:Hp}{ds:List D}{xs:List V}{bs:List Addr}(h:RepA K H true ds xs bs):∀k:Nat,∃cs,RepA K H true (List.replicate k ds).flatten (List.replicate k xs).flatten cs/\∀b∈cs,b∈bs
 |0=>⟨[],by simp only[List.replicate_zero,List.flatten_nil];unfold RepA;exact⟨rfl,rfl⟩,λ_ z=>(nomatch z)⟩
 |k+1=>by
  obtain⟨cs,r,hc⟩:=RepA.reps h k;rw[List.replicate_succ,List.replicate_succ,Zh,Zh];exact⟨bs++cs,r.app h,λb hb=>(aA hb).elim id (hc b)⟩
theorem vqw{K:Frag}:Ad2 K (vvm K) W7:=by
 intro H x y s Q ox oy hf k;unfold W7 at hf;dsimp only at hf
 split at hf
 ·rename_i i j e1 e2
  split at hf
  ·rename_i hm;cases oq9 hf;exact .inl ⟨i,j,kX ox e1,kX oy e2,mulOk_of hm,k ⟨.dp,.int _,.int _,[]⟩ H rfl rfl Jk⟩
  ·cases hf
 ·rename_i a n e1 e2
  split at hf
  ·rename_i hc;cases oq9 hf;obtain⟨l,xs,bs,e3,q3,r3,h3⟩:=z9 ox (.inl e1) hc.2.2.2;have q3:LsR K H l xs:=by rcases q3 with⟨_,z⟩|⟨z,_⟩;exact z;rw[e1]at z;cases z
   obtain⟨cs,r4,h4⟩:=r3.reps n.toNat;refine .inr (.inl ⟨l,n,xs,e3,kX oy e2,q3,hc.1,hc.2.1,by rw[<-r3.len];exact hc.2.2.1,λp hp=>?_⟩);exact k ⟨.rt,.lst _,.ref p,p::cs⟩ _ rfl rfl (KQ hp r4 λb hb=>ll9 _ (h3 b (h4 b hb)))
  ·cases hf
 ·rename_i z n e1 e2
  split at hf
  ·rename_i hc;cases oq9 hf;exact .inr (.inr ⟨z,n,(xQ ox e1).1,kX oy e2,hc.1,k ⟨.dp,.str _,.str _,[]⟩ H rfl rfl (wxa hc.2)⟩)
  ·cases hf
 ·cases hf
def dec(h:Heap)(u:Value):D:=open Classical in if e:∃d,jw h d u then e.choose else .non
theorem kx2{h:Heap}{u:Value}{d:D}(r:jw h d u):dec h u=d:=by
 unfold dec;have e:∃d,jw h d u:=⟨d,r⟩;rw[dif_pos e];exact jzu e.choose_spec r
theorem YQ{h:Heap}{d:D}:∀{ds:List D} {us:List Value},CReps h ds us->us.any (λu=>peq (dec h u) d)=ds.any λz=>peq z d
 |[],_,r=>by unfold CReps at r;rw[r];rfl
 |z::ds,_,r=>by
  unfold CReps at r;obtain⟨u,rr,rfl,h1,h2⟩:=r;rw[Zk,Zk,kx2 h1,YQ h2]
theorem jzt{h:Heap}:∀{ds:List D} {us:List Value} {u:Value},CReps h ds us->u∈us->∃d∈ds,jw h d u
 | [],_,_,r,hu=>by unfold CReps at r;rw[r]at hu;cases hu
 | z::ds,_,u,r,hu=>by
  unfold CReps at r;obtain⟨u',rr,rfl,h1,h2⟩:=r;rcases aD hu with rfl|hu
  ·exact⟨z,X6,h1⟩
  ·obtain⟨d,hd,c⟩:=jzt h2 hu;exact⟨d,lc9 _ hd,c⟩
theorem jxc:∀{n:Nat} {ds:List D} {d:D},D.flats n ds=true->d∈ds->d.flat n=true
 |_,[],_,_,h=>by cases h
 |n,z::ds,d,f,h=>by
  unfold D.flats at f;rw[Bool.and_eq_true]at f;rcases aD h with rfl|h
  ·exact f.1
  ·exact jxc f.2 h
section
variable {X:Cx}{Z:Fx0}{K:Frag}{q qa qb:Bool}{a b c:Ex}{u v:Ts}{e ea eb:Expr}{es:List Expr}{pos p:Pos}{σ:L2.St}{H:Hp}{L:Ls}{E:En}
def qvf(K:Frag)(ij:Bool):R2:=λx y H Q=>∃d ds as bs p xs,RepL K H true d x as/\y=.ref p/\(SqL K H p xs\/SqT K H p xs)/\RepA K H true ds xs bs/\d.flat 30=true/\D.flats 30 ds=true/\Q (.bl (if ij then !(ds.any λz=>peq z d)else ds.any λz=>peq z d)) H
theorem vwo(hu:X.A.units+64<cLine):OpR X (compareOp .In) (qvf X.K false):=by
 intro pins s σ H x y v u Q I rx ry h;obtain⟨d,ds,as,bs,p,xs,h1,rfl,hq,ra,f1,f2,q⟩:=h;cases ry;have c1:=Qz I h1 f1 rx;have he:∀{us:List Value},CReps s.heap ds us->∀w,w∈us.toArray->SeqAt.EqAt X.A.in1 s w v (peq (dec s.heap w) d):=fun {us} cr w hw=>by
  obtain⟨d',hd,c⟩:=jzt cr (by simpa using hw);rw[kx2 c];exact Vv 30 (jxc f2 hd) c c1 (by have:=L3.in1_units X.A;omega)
 rcases hq with hq|hq
 ·obtain⟨a8,r,pl,hz⟩:=I.list hq;have cr:=creps_of I ra f2 r;refine SeqAt.in_listAt _ pl.isList (he cr) ⟨.bl _,H,I,rfl,?_⟩;rw[List.any_toArray,YQ cr];exact q
 ·obtain⟨a8,r,pl,hz⟩:=I.tuple hq;have cr:=creps_of I ra f2 r;refine SeqAt.in_tupleAt _ pl (he cr) ⟨.bl _,H,I,rfl,?_⟩;rw[List.any_toArray,YQ cr];exact q
theorem qkg(hu:X.A.units+64<cLine):OpR X (compareOp .NotIn) (qvf X.K true):=by
 intro pins s σ H x y v u Q I rx ry h;obtain⟨d,ds,as,bs,p,xs,h1,rfl,hq,ra,f1,f2,q⟩:=h;cases ry;have c1:=Qz I h1 f1 rx;have he:∀{us:List Value},CReps s.heap ds us->∀w,w∈us.toArray->SeqAt.EqAt X.A.in1 s w v (peq (dec s.heap w) d):=fun {us} cr w hw=>by
  obtain⟨d',hd,c⟩:=jzt cr (by simpa using hw);rw[kx2 c];exact Vv 30 (jxc f2 hd) c c1 (by have:=L3.in1_units X.A;omega)
 rcases hq with hq|hq
 ·obtain⟨a8,r,pl,hz⟩:=I.list hq;have cr:=creps_of I ra f2 r;refine SeqAt.notIn_listAt _ pl.isList (he cr) ⟨.bl _,H,I,rfl,?_⟩;rw[List.any_toArray,YQ cr];exact q
 ·obtain⟨a8,r,pl,hz⟩:=I.tuple hq;have cr:=creps_of I ra f2 r;refine SeqAt.notIn_tupleAt _ pl (he cr) ⟨.bl _,H,I,rfl,?_⟩;rw[List.any_toArray,YQ cr];exact q
def qve(ij:Bool):R2:=λx y H Q=>∃i j,x=.str i/\y=.str j/\Q (.bl (if ij then !wxv i j else wxv i j)) H
theorem opInStr:OpR X (compareOp .In) (qve false):=λpins s σ H x y v u Q I rx ry ⟨i,j,e1,e2,q⟩=>qw5 pins s σ H x y v u Q I rx ry ⟨i,j,e1,e2,q⟩
theorem opNotInStr:OpR X (compareOp .NotIn) (qve true):=λpins s σ H x y v u Q I rx ry ⟨i,j,e1,e2,q⟩=>kw3 pins s σ H x y v u Q I rx ry ⟨i,j,e1,e2,q⟩
def YX(K:Frag)(ij:Bool):R2:=λx y H Q=>qve ij x y H Q\/qvf K ij x y H Q
theorem vwp(hu:X.A.units+64<cLine)(hK:autoParam (X.K=K) Ŕ):OpR X (compareOp .In) (YX K false):=by subst hK;exact opInStr.or (vwo hu)
theorem kqd(hu:X.A.units+64<cLine)(hK:autoParam (X.K=K) Ŕ):OpR X (compareOp .NotIn) (YX K true):=by subst hK;exact opNotInStr.or (qkg hu)
theorem z7{H:Hp}{l:Addr}{xs:List V}(h:LsR K H l xs):SqL K H l xs:=h.sq
theorem kqv{x y:Sl}{ys:List D}{ij:Bool}{Q:VK}(ox:x.ok K H)(oy:y.ok K H)(hy:y.d=.lst ys\/y.d=.tup ys)(hc:(x.d.flat 30&&D.flats 30 ys)=true)
  (k:Q (.bl (if ij then !(ys.any λz=>peq z x.d)else ys.any λz=>peq z x.d)) H):YX K ij x.v y.v H Q:=by
 rw[Bool.and_eq_true]at hc;obtain⟨l,xs,bs,e3,q3,r3,_⟩:=items oy hy;have r3':RepA K H true ys xs bs:=by
  cases ho:(y.o != .dp)with|true=>rw[ho]at r3;exact r3|false=>rw[ho]at r3;exact r3.wk
 refine .inr ⟨x.d,ys,x.as,bs,l,xs,RepO.wk ox,e3,?_,r3',hc.1,hc.2,k⟩;rcases q3 with⟨_,z⟩|⟨_,z⟩
 ·exact .inl (z7 z)
 ·exact .inr z
theorem vz6:Ad2 K (YX K false) (pu2 J7):=by
 intro H x y s Q ox oy hf k;unfold pu2 J7 fIn at hf;dsimp only at hf;cases hy:y.d with
 | lst ys=>
  rw[hy]at hf;dsimp only at hf
  split at hf
  ·rename_i hc;cases oq9 hf;exact kqv ox oy (.inl hy) hc (k ⟨.dp,.bl _,.bl _,[]⟩ H rfl rfl wX)
  ·cases hf
 | tup ys=>
  rw[hy]at hf;dsimp only at hf
  split at hf
  ·rename_i hc;cases oq9 hf;exact kqv ox oy (.inr hy) hc (k ⟨.dp,.bl _,.bl _,[]⟩ H rfl rfl wX)
  ·cases hf
 | str b=>
  rw[hy]at hf;dsimp only at hf
  split at hf
  ·rename_i a hx;cases oq9 hf;exact .inl ⟨a,b,(xQ ox hx).1,(xQ oy hy).1,k ⟨.dp,.bl _,.bl _,[]⟩ H rfl rfl wX⟩
  ·cases hf
 |_=>rw[hy]at hf;cases hf
theorem kv7:Ad2 K (YX K true) (pu2 JQ):=by
 intro H x y s Q ox oy hf k;unfold pu2 JQ K8 fIn at hf;dsimp only at hf;cases hy:y.d with
 | lst ys=>
  rw[hy]at hf;dsimp only at hf
  split at hf
  ·rename_i hc;cases oq9 hf;exact kqv ox oy (.inl hy) hc (k ⟨.dp,.bl _,.bl _,[]⟩ H rfl rfl wX)
  ·cases hf
 | tup ys=>
  rw[hy]at hf;dsimp only at hf
  split at hf
  ·rename_i hc;cases oq9 hf;exact kqv ox oy (.inr hy) hc (k ⟨.dp,.bl _,.bl _,[]⟩ H rfl rfl wX)
  ·cases hf
 | str b=>
  rw[hy]at hf;dsimp only at hf
  split at hf
  ·rename_i a hx;cases oq9 hf;exact .inl ⟨a,b,(xQ ox hx).1,(xQ oy hy).1,k ⟨.dp,.bl _,.bl _,[]⟩ H rfl rfl wX⟩
  ·cases hf
 |_=>rw[hy]at hf;cases hf
theorem jzp{g:Bool}{d:D}{v:V}{as:List Addr}(h:RepL K H g d v as):decide (v=.non)=isNon d:=by
 cases d with|non=>unfold RepL at h;rw[h.1];rfl|bl _=>unfold RepL at h;rw[h.1];rfl|int _=>unfold RepL at h;rw[h.1];rfl|str _=>unfold RepL at h;rw[h.1];rfl|tup _=>unfold RepL at h;obtain⟨a,xs,e,_⟩:=h;rw[e];rfl|lst _=>unfold RepL at h;obtain⟨a,xs,bs,e,_⟩:=h;rw[e];rfl|dct _=>unfold RepL at h;obtain⟨a,xs,bs,e,_⟩:=h;rw[e];rfl|obj _ _=>unfold RepL at h;obtain⟨_,x,o,C,e,_⟩:=h;rw[e];rfl
theorem XY:Ad2 K (λx y H Q=>y=.non/\Q (.bl (decide (x=.non))) H) (f2First fIsNon):=by
 intro H x y s Q ox oy hf k;unfold f2First fIsNon at hf;dsimp only at hf
 split at hf
 ·rename_i hy;cases oq9 hf;have e:=jzp (RepO.wk oy);rw[hy]at e;refine⟨Z4 e,?_⟩;rw[jzp (RepO.wk ox)];exact k ⟨.dp,.bl _,.bl _,[]⟩ H rfl rfl wX
 ·cases hf
theorem kv8:Ad2 K (λx y H Q=>y=.non/\Q (.bl (!decide (x=.non))) H) (f2First fNotNon):=by
 intro H x y s Q ox oy hf k;unfold f2First fNotNon at hf;dsimp only at hf
 split at hf
 ·rename_i hy;cases oq9 hf;have e:=jzp (RepO.wk oy);rw[hy]at e;refine⟨Z4 e,?_⟩;rw[jzp (RepO.wk ox)];exact k ⟨.dp,.bl _,.bl _,[]⟩ H rfl rfl wX
 ·cases hf
theorem qwy(n:Nat)(i:Int):_root_.Q.ixN n i=L2.ixN n i:=rfl
theorem vx6{x y:Sl}{d:D}{Q:VK}(ox:x.ok K H)(oy:y.ok K H)(hf:jW x.d y.d=some d)(k:∀z:Sl,z.o=sub x.o->z.d=d->z.ok K H->(∀b∈z.frz,b∈x.frz)->(∀b∈z.as,b∈x.as)->Q z.v H):rIx K x.v y.v H Q:=by
 have seq:∀ds:List D,(x.d=.lst ds\/x.d=.tup ds)->∀i:Int,y.d=.int i->((_root_.Q.ixN ds.length i).bind λj=>ds[j]?)=some d->rIx K x.v y.v H Q:=by
  intro ds hx i hy hd;obtain⟨l,xs,bs,e3,q3,r3,h3,h4⟩:=items ox hx;cases hj:_root_.Q.ixN ds.length i with
  | none=>rw[hj]at hd;cases hd
  | some j=>
   rw [hj]at hd;obtain⟨v,cs,e4,r4,h5⟩:=r3.get (show ds[j]?=some d from hd);have gr:atI xs i=some v:=by
    unfold atI;rw[<-r3.len,<-qwy,hj];exact e4
   have fin:Q v H:=by
    cases ho:x.o with
    | dp=>
     rw[ho]at r4;exact k ⟨.dp,d,v,cs⟩ (by rw[ho];rfl) rfl r4 (λb hb=>(nomatch hb)) λb hb=>h3 b (h5 b hb)
    | no=>
     rw[ho]at r4;exact k ⟨.no,d,v,cs⟩ (by rw[ho];rfl) rfl r4 (λb hb=>h4 (by rw[ho];exact(λz=>nomatch z)) b (h5 b hb)) λb hb=>h3 b (h5 b hb)
    | rt=>
     rw[ho]at r4;exact k ⟨.no,d,v,cs⟩ (by rw[ho];rfl) rfl r4 (λb hb=>h4 (by rw[ho];exact(λz=>nomatch z)) b (h5 b hb)) λb hb=>h3 b (h5 b hb)
   rcases q3 with⟨_,z⟩|⟨_,z⟩
   ·exact .inl ⟨l,xs,i,v,e3,kX oy hy,z7 z,gr,fin⟩
   ·exact .inr (.inl ⟨l,xs,i,v,e3,kX oy hy,z,gr,fin⟩)
 unfold jW at hf;cases hx:x.d with
 | lst ds=>
  rw [hx]at hf;cases hy:y.d with| int i=>rw[hy]at hf;exact seq ds (.inl hx) i hy hf| _=>rw[hy]at hf;cases hf
 | tup ds=>
  rw [hx]at hf;cases hy:y.d with| int i=>rw[hy]at hf;exact seq ds (.inr hx) i hy hf| _=>rw[hy]at hf;cases hf
 | str z=>
  rw [hx]at hf;cases hy:y.d with
  | int i=>
   rw [hy]at hf;have hf:((_root_.Q.ixN z.cps.size i).bind λj=>(z.cps.toList[j]?).map λc=>D.str ⟨#[c]⟩)=some d:=hf;cases hj:_root_.Q.ixN z.cps.size i with
   | none=>rw[hj]at hf;cases hf
   | some j=>
    rw[hj]at hf;cases hc:z.cps.toList[j]? with
    | none=>rw[Option.bind_some,hc]at hf;cases hf
    | some c=>
     rw[Option.bind_some,hc]at hf;cases oq9 hf;have gr:atI z.cps.toList i=some c:=by
      unfold atI;rw[Xr,<-qwy,hj];exact hc
     obtain⟨e1,hz⟩:=xQ ox hx;refine .inr (.inr ⟨z,i,c,e1,kX oy hy,hz,gr,?_⟩);have rp:∀g,RepL K H g (.str ⟨#[c]⟩) (.str ⟨#[c]⟩) []:=λg=>Wv (show(1:Nat)<=sizeLine by decide)
     cases ho:x.o with|dp=>exact k ⟨.dp,.str ⟨#[c]⟩,.str ⟨#[c]⟩,[]⟩ (by rw[ho];rfl) rfl (rp false) (λb hb=>(nomatch hb)) λb hb=>(nomatch hb)|no=>exact k ⟨.no,.str ⟨#[c]⟩,.str ⟨#[c]⟩,[]⟩ (by rw[ho];rfl) rfl (rp true) (λb hb=>(nomatch hb)) λb hb=>(nomatch hb)|rt=>exact k ⟨.no,.str ⟨#[c]⟩,.str ⟨#[c]⟩,[]⟩ (by rw[ho];rfl) rfl (rp true) (λb hb=>(nomatch hb)) λb hb=>(nomatch hb)
  |_=>rw[hy]at hf;cases hf
 |non=>rw[hx]at hf;cases hf|bl _=>rw[hx]at hf;cases hf|int _=>rw[hx]at hf;cases hf|dct _=>rw[hx]at hf;cases hf|obj _ _=>rw[hx]at hf;cases hf
theorem q_ix(ha:QV X Z qa a ea)(hb:QV X Z true b eb)(hs:kva eb)(hK:autoParam (X.K=Z.K) Ŕ):QV X Z qa (jv a b) (.Subscript ea eb pos):=
 q9 (wkf (hK▸vqh) ha hb hs) fun σ H Q ah=>ex8 ah λE L r m w hc xc k=>by
  refine v8 m w (show bnd (a E) _=some r from hc) xc λE1 s h1 x L1 H1 e1 e2 m1 w1 ok fr sr st sm=>?_
  refine v8 m1 w1 h1 (xc.step st) λE2 s2 h2 y L2 H2 e3 e4 m2 w2 fz oz on bg dg=>?_
  obtain⟨z,hz,rfl⟩:=zw h2;cases hf:jW s.2 s2.2 with
  |none=>rw[hf]at hz;cases hz
  |some d=>
   rw[hf]at hz;cases oq9 hz;have kx:=Q4 ok fr bg (dg rfl);refine vx6 kx.1 fz (by rw[e2,e4];exact hf) λz zo zd ph zf za=>?_
   exact k _ _ rfl z L2 H2 (by rw[zo,e1]) zd m2 w2 ph (λb hb=>kx.2 b (zf b hb)) (jx3 sr za) (st.trans bg) λhq=>qv (sm hq) (dg rfl)
theorem QJ(ht:QT X Z q u e)(ha:QE X Z q a ea)(hb:QE X Z q b eb):QE X Z q (cIf u a b) (.IfExp e ea eb pos):=q9 (vjc ht ha hb) fun σ H Q ah=>ex8 ah λE L r m w hc xc k=>
 qzo m w (show bnd (u E) _=some r from hc) xc λE1 s h1 L1 H1 m1 w1 st sm=>by
  have fin:∀{c:Ex},c E1=some r->tQ Z q c σ H1 Q:=λhc=>⟨E1,L1,r,m1,w1,hc,xc.step st,λE' a z x L' H' e1 e2 m' w' eh ia=>k E' a z x L' H' e1 e2 m' w' (st.trans eh) λhq=>⟨qv (sm hq) (ia hq).1,λb hb=>Jw (sm hq) ((ia hq).2 b hb)⟩⟩
  cases s with|true=>rw[X8 rfl]at h1 ⊢;exact fin h1|false=>rw[Xf ⋯]at h1 ⊢;exact fin h1
theorem kvr{op}(h:QE X Z q a ea):QE X Z q a (.BoolOp op [ea] pos):=wkc h
theorem W5(ha:QV X Z q a ea)(hb:QE X Z q b (.BoolOp .And (eb::es) pos)):QE X Z q (Jx a b) (.BoolOp .And (ea::eb::es) pos):=q9 (wkj ha hb) fun σ H Q ah=>ex8 ah λE L r m w hc xc k=>
 v8 m w (show bnd (a E) _=some r from hc) xc λE1 s h1 x L1 H1 e1 e2 m1 w1 ok fr sr st sm=>by
  cases hs:s.2 with
  | bl kk=>
   rw[hs]at h1;refine⟨kk,WZ ok (e2.trans hs),?_⟩;cases kk with
   |true=>
    rw[X8 rfl];exact⟨E1,L1,r,m1,w1,h1,xc.step st,λE' a z x L' H' e1 e2 m' w' eh ia=>k E' a z x L' H' e1 e2 m' w' (st.trans eh) λhq=>⟨qv (sm hq) (ia hq).1,λb hb=>Jw (sm hq) ((ia hq).2 b hb)⟩⟩
   |false=>
    rw[Xf ⋯];cases oq9 h1;obtain⟨w3,dh⟩:=Q3 w1 st (wX (K:=Z.K) (H:=H1) (i:=false) (fr:=[])) (λ_ z=>(nomatch z)) (λ_ z=>(nomatch z)) (λ_ z=>(nomatch z));exact k _ _ rfl ⟨.dp,.bl false,.bl false,[]⟩ L1 H1 rfl rfl m1 w3 dh λhq=>⟨sm hq,λ_ z=>(nomatch z)⟩
  |_=>rw[hs]at h1;cases h1
theorem wza{x:Sl}{k:Bool}(ok:x.ok K H)(h:truth x.d=some k)(hd:∀kvs,x.d≠.dct kvs):ww3 K x.v H k:=by
 cases hx:x.d with
 |non=>rw[hx]at h;rw[vqc ok hx];exact(oq9 h).symm|bl b=>rw[hx]at h;rw[WZ ok hx];exact(oq9 h).symm|int i=>rw[hx]at h;rw[kX ok hx];exact(oq9 h).symm
 |str z=>
  rw[hx]at h;obtain⟨e,hz⟩:=xQ ok hx;rw[e];refine⟨hz,?_⟩;rw[<-oq9 h];show(z.cps.size != 0)=(((z.cps.size:Nat):Int) != 0);rw[Bool.eq_iff_iff];simp
 |lst ds=>
  rw[hx]at h;obtain⟨a,xs,bs,e,q,r,_⟩:=items ok (.inl hx);rw[e];have q':LsR K H a xs:=by rcases q with⟨_,z⟩|⟨z,_⟩;exact z;rw[hx]at z;cases z
  refine .inl ⟨xs,z7 q',?_⟩;rw[<-oq9 h];have:=r.len;cases ds<;>cases xs<;>simp_all
 |tup ds=>
  rw[hx]at h;obtain⟨a,xs,bs,e,q,r,_⟩:=items ok (.inr hx);rw[e];have q':SqT K H a xs:=by rcases q with⟨z,_⟩|⟨_,z⟩;rw[hx]at z;cases z;exact z
  refine .inr (.inl ⟨xs,q',?_⟩);rw[<-oq9 h];have:=r.len;cases ds<;>cases xs<;>simp_all
 |dct kvs=>exact absurd hx (hd kvs)|obj c f=>rw[hx]at h;cases h
theorem kve{d:D}{k:Bool}(h:truthQ d=some k):truth d=some k/\∀kvs,d≠.dct kvs:=by
 cases d<;>first|exact⟨h,λ_ z=>nomatch z⟩|cases h
theorem kq5(h:QV X Z q a ea)(he:autoParam (∀dz,isTrue ea X.env dz=(do let v <-dz;standAt ea.pos;holding [v] (truthy v))) Ŗ)(hK:autoParam (X.K=Z.K) Ŕ):QT X Z q (tEQ a) ea:=qvk (vj5 h he) fun σ H Q ah=>ex8 ah λE L r m w hc xc k=>
 v8 m w (show bnd (a E) _=some r from hc) xc λE1 s h1 x L1 H1 e1 e2 m1 w1 ok fr sr st sm=>by
  obtain⟨kk,hk,rfl⟩:=zw h1;obtain⟨h2,h3⟩:=kve hk;exact⟨kk,hK▸wza ok (by rw[e2];exact h2) (by rw[e2];exact h3),k _ _ rfl L1 H1 m1 w1 st sm⟩
theorem wwu(h:QV X Z q a ea)(hK:autoParam (X.K=Z.K) Ŕ):QE X Z q (vk9 a) (.UnaryOp .Not ea pos):=by
 intro pins s σ H Q I ⟨E,L,r,m,w,hc,xc,k⟩;refine UnaryOp_ (thn (h pins s σ H _ I (v8 (G:=λv H1=>∃kk,ww3 X.K v H1 kk/\Q (.bl (!kk)) H1) m w (show bnd (a E) _=some r from hc) xc λE1 s h1 x L1 H1 e1 e2 m1 w1 ok fr sr st sm=>?_)) λv s1 ⟨x,H1,I1,r1,kk,t1,q1⟩=>?_)
 ·obtain⟨y,hy,rfl⟩:=zw h1;cases hk:truthQ s.2 with
  |none=>rw[hk]at hy;cases hy
  |some kk=>
   rw[hk]at hy;cases oq9 hy;obtain⟨h2,h3⟩:=kve hk;refine⟨kk,hK▸wza ok (by rw[e2];exact h2) (by rw[e2];exact h3),?_⟩;obtain⟨w3,dh⟩:=Q3 w1 st (wX (K:=Z.K) (H:=H1) (i:=!kk) (fr:=[])) (λ_ z=>(nomatch z)) (λ_ z=>(nomatch z)) (λ_ z=>(nomatch z));exact k _ _ rfl ⟨.dp,.bl (!kk),.bl (!kk),[]⟩ L1 H1 rfl rfl m1 w3 dh λhq=>⟨sm hq,λ_ z=>(nomatch z)⟩
 ·exact not_of (thn (vki pins s1 σ H1 x v (λkk H2=>Q (.bl (!kk)) H2) I1 r1 ⟨kk,t1,q1⟩) λc s2 ⟨H2,I2,q2⟩=>⟨.bl (!c),H2,I2,rfl,q2⟩)
end
theorem ZX{α:Type}:∀{L:List α} {i:Nat} {q:α},L[i]?=some q->∃A B,L=A++q::B/\∀q',L.set i q'=A++q'::B
 |[],_,_,h=>by simp at h
 |a::L,0,q,h=>by
  have e:a=q:=by simpa using h
  subst e;exact⟨[],L,rfl,λ_=>rfl⟩
 |a::L,i+1,q,h=>by
  obtain⟨A,B,e,f⟩:=ZX (L:=L) (i:=i) (by simpa using h);exact⟨a::A,B,by rw[e];rfl,λq'=>by rw[List.set_cons_succ,f];rfl⟩
section
variable {K:Frag}{H:Hp}{M T L:Ls}{y y':Sl}{l:Addr}{ob:HO}
theorem World.write(w:World K H (some y::(T++M)))(hl:l∈y.own)(ok':y'.ok K (upd H l ob))(nd:y'.own.Nodup)(h1:∀a∈y'.own,a∈y.own\/a∈j8 T)(h2:∀a∈y'.frz,a∈y.as\/a∈j8 T\/a∈jQ T)(h3:∀a∈y'.own,a∉y'.frz):
  World K (upd H l ob) (some y'::M)/\Step H (some y::(T++M)) (upd H l ob) (some y'::M):=by
 have wn:=w.nd;rw [k3,jV,Xe,Xe]at wn;obtain⟨n1,⟨n2,n3,n4⟩,n5⟩:=wn;have oy:l∈j8 (some y::(T++M)):=by rw[k3];exact ll9 _ hl
 have gl:=w.own_al oy;have ds:∀a,(a∈y.own\/a∈j8 T\/a∈j8 M)->¬(a∈y.frz\/a∈jQ T\/a∈jQ M):=λa ha hf=>by
  refine w.ds a ?_ ?_
  ·rw[k3,jV];rcases ha with z|z|z
   ·exact ll9 _ z
   ·exact lr9 _ (ll9 _ z)
   ·exact lr9 _ (lr9 _ z)
  ·rw[qY,kW];rcases hf with z|z|z
   ·exact ll9 _ z
   ·exact lr9 _ (ll9 _ z)
   ·exact lr9 _ (lr9 _ z)
 have noM:∀z,some z∈M->l∉z.as:=λz hz ha=>by
  rcases Sl.as_of ha with q|q
  ·exact n5 l hl l (lr9 _ (mem_owned.mpr ⟨z,hz,q⟩)) rfl
  ·exact ds l (.inl hl) (.inr (.inr (mem_frozen.mpr ⟨z,hz,q⟩)))
 have ke:∀a o,H a=some o->a≠l->upd H l ob a=some o:=λa o e ne=>by rw[q5 ne];exact e
 have kp:∀as:List Addr,l∉as->Kp H (upd H l ob) as:=λas hn=>by
  refine⟨λa xs e=>ke a _ e λz=>?_,λa o u e=>ke a _ e λz=>?_,λa ha o e=>ke a o e λz=>hn (z▸ha)⟩
  ·subst z;rcases gl with⟨_,q⟩|⟨_,q⟩|⟨_,q⟩<;>(rw[e]at q;cases q)
  ·subst z;rcases gl with⟨_,q⟩|⟨_,q⟩|⟨_,q⟩<;>(rw[e]at q;cases q)
 have wM:World K (upd H l ob) M:=by
  have w1:World K H M:=w.tail.right;exact⟨λz hz=>RepO.kp (w1.ok z hz) (kp _ (noM z hz)),w1.nd,w1.ds⟩
 refine⟨wM.cons ok' nd (λa ha hM=>?_) (λa ha hM=>?_) (λa ha hM=>?_) h3,λa o e hn=>ke a o e λz=>hn (z▸oy),λa ha=>?_,λa ha=>?_⟩
 ·rcases h1 a ha with z|z
  ·exact n5 a z a (lr9 _ hM) rfl
  ·exact n4 a z a hM rfl
 ·rcases h1 a ha with z|z
  ·exact ds a (.inl z) (.inr (.inr hM))
  ·exact ds a (.inr (.inl z)) (.inr (.inr hM))
 ·rcases h2 a ha with z|z|z
  ·rcases Sl.as_of z with z|z
   ·exact n5 a z a (lr9 _ hM) rfl
   ·exact ds a (.inr (.inr hM)) (.inl z)
  ·exact n4 a z a hM rfl
  ·exact ds a (.inr (.inr hM)) (.inr (.inl z))
 ·rw[k3]at ha;rw[k3,jV];rcases aA ha with z|z
  ·rcases h1 a z with z|z
   ·exact .inl (ll9 _ z)
   ·exact .inl (lr9 _ (ll9 _ z))
  ·exact .inl (lr9 _ (lr9 _ z))
 ·rw[qY]at ha;rw[k3,jV,qY,kW];rcases aA ha with z|z
  ·rcases h2 a z with z|z|z
   ·rcases Sl.as_of z with z|z
    ·exact .inr (.inl (ll9 _ z))
    ·exact .inl (ll9 _ z)
   ·exact .inr (.inl (lr9 _ (ll9 _ z)))
   ·exact .inl (lr9 _ (ll9 _ z))
  ·exact .inl (lr9 _ (lr9 _ z))
theorem World.writeAt{i:Nat}(w:World K H (T++L))(hy:L[i]?=some (some y))(hl:l∈y.own)(ok':y'.ok K (upd H l ob))(nd:y'.own.Nodup)(h1:∀a∈y'.own,a∈y.own\/a∈j8 T)(h2:∀a∈y'.frz,a∈y.as\/a∈j8 T\/a∈jQ T)(h3:∀a∈y'.own,a∉y'.frz):
  World K (upd H l ob) (L.set i (some y'))/\Step H (T++L) (upd H l ob) (L.set i (some y')):=by
 obtain⟨A,B,e,f⟩:=ZX hy;rw[f];subst e;have p:(T++(A++some y::B)).Perm (some y::(T++(A++B))):=by
  refine(List.Perm.append_left T (List.perm_middle (a:=some y) (l₁:=A) (l₂:=B))).trans List.perm_middle
 obtain⟨w2,s2⟩:=World.write (M:=A++B) (w.perm p) hl ok' nd h1 h2 h3;exact⟨w2.perm List.perm_middle.symm,s2.perm p.symm List.perm_middle.symm⟩
end
theorem RepA.snoc{K:Frag}{H:Hp}{g:Bool}{d:D}{x:V}{cs:List Addr}(h:RepL K H g d x cs){ds:List D}{xs:List V}{bs:List Addr}(r:RepA K H g ds xs bs):RepA K H g (ds++[d]) (xs++[x]) (bs++cs):=by
 refine RepA.app ?_ r;unfold RepA;exact⟨x,[],cs,[],rfl,by simp,h,by unfold RepA;exact⟨rfl,rfl⟩⟩
theorem W3{K:Frag}{H:Hp}{y:Sl}{ds:List D}(ok:y.ok K H)(hd:y.d=.lst ds)(ho:y.o≠.no):∃l xs bs,y.v=.ref l/\H l=some (.lst xs)/\y.as=l::bs/\l∈y.own/\RepA K H (y.o != .dp) ds xs bs:=by
 obtain⟨o,d,v,as⟩:=y;dsimp only at hd ho;subst hd;cases o with
 |no=>exact absurd rfl ho
 |rt=>
  obtain⟨a,xs,bs,rfl,r,q,rfl⟩:=(show RepR K H (.lst ds) v as from ok);exact⟨a,xs,bs,rfl,q,rfl,by simp[Sl.own],r⟩
 |dp=>
  have ok:RepL K H false (.lst ds) v as:=ok;unfold RepL at ok;obtain⟨a,xs,bs,rfl,r,q⟩:=ok;rcases q with⟨q,rfl⟩|⟨z,_⟩
  ·exact⟨a,xs,bs,rfl,q,rfl,by simp[Sl.own],r⟩
  ·cases z
theorem kq7{K:Frag}{H:Hp}{T L:Ls}{i:Nat}{y:Sl}{l:Addr}{xs xs':List V}{bs cs:List Addr}{o':Own}{ds':List D}(w:World K H (T++L))(hy:L[i]?=some (some y))(hH:H l=some (.lst xs))(ha:y.as=l::bs)(hl:l∈y.own)(hv:y.v=.ref l)
  (r:RepA K H (o' != .dp) ds' xs' cs) (hc:(o'=.rt/\∀a∈cs,a∈bs\/a∈j8 T\/a∈jQ T)\/(o'=.dp/\y.o=.dp/\cs.Nodup/\∀a∈cs,a∈bs\/a∈j8 T)):
  World K (upd H l (.lst xs')) (L.set i (some ⟨o',.lst ds',y.v,l::cs⟩))/\Step H (T++L) (upd H l (.lst xs')) (L.set i (some ⟨o',.lst ds',y.v,l::cs⟩)):=by
 have oL:l∈j8 L:=mem_owned.mpr ⟨y,v5 hy,hl⟩;have oy:l∈j8 (T++L):=by rw[jV];exact lr9 _ oL
 have nd:=w.nd;rw [jV,Xe]at nd;have nT:l∉j8 T:=λz=>nd.2.2 l z l oL rfl
 have nF:l∉jQ T:=λz=>w.ds l oy (by rw[kW];exact ll9 _ z)
 have yn:y.own.Nodup:=by
  obtain⟨A,B,e,_⟩:=ZX hy;have:=nd.2.1;rw[e,jV,k3,Xe]at this;exact(List.nodup_append.mp this.2.1).1
 have nb:l∉bs:=λz=>by
  cases ho:y.o with
  | no=>unfold Sl.own at hl;rw[ho]at hl;exact nomatch hl
  | rt=>
   have:l∈y.frz:=by unfold Sl.frz;rw[ho,ha];exact z
   exact w.ds l oy (by rw[kW];exact lr9 _ (mem_frozen.mpr ⟨y,v5 hy,this⟩))
  | dp=>
   unfold Sl.own at yn;rw[ho,ha]at yn;exact(List.nodup_cons.mp yn).1 z
 have nc:l∉cs:=λz=>by
  rcases hc with⟨_,hc⟩|⟨_,_,_,hc⟩
  ·rcases hc l z with q|q|q
   ·exact nb q
   ·exact nT q
   ·exact nF q
  ·rcases hc l z with q|q
   ·exact nb q
   ·exact nT q
 have kp:Kp H (upd H l (.lst xs')) cs:=by
  have k2:∀a o,H a=some o->a≠l->upd H l (.lst xs') a=some o:=λa o e ne=>by rw[q5 ne];exact e
  refine⟨λa zs e=>k2 a _ e λz=>?_,λa o u e=>k2 a _ e λz=>?_,λa ha o e=>k2 a o e λz=>nc (z▸ha)⟩
  ·subst z;rw[hH]at e;cases e
  ·subst z;rw[hH]at e;cases e
 have r':=r.kp kp;rcases hc with⟨rfl,hc⟩|⟨rfl,qu,lq,hc⟩
 ·refine World.writeAt w hy hl (y':=⟨.rt,.lst ds',y.v,l::cs⟩) ⟨l,xs',cs,hv,r',x3,rfl⟩ (by simp[Sl.own]) (λa h=>?_) (λa h=>?_) (λa h z=>?_)
  ·have:a=l:=by simpa [Sl.own]using h
   subst this;exact .inl hl
  ·rcases hc a (by simpa [Sl.frz]using h)with q|q
   ·exact .inl (by rw[ha];exact lc9 _ q)
   ·exact .inr q
  ·have:a=l:=by simpa [Sl.own]using h
   subst this;exact nc (by simpa [Sl.frz]using z)
 ·have oa:y.own=y.as:=by unfold Sl.own;rw[qu]
  refine World.writeAt w hy hl (y':=⟨.dp,.lst ds',y.v,l::cs⟩) ?_ (List.nodup_cons.mpr ⟨nc,lq⟩) (λa h=>?_) (λa h=>(nomatch h)) (λa h z=>(nomatch z))
  ·show RepL K _ false (.lst ds') y.v (l::cs);unfold RepL;exact⟨l,xs',cs,hv,r',.inl ⟨x3,rfl⟩⟩
  ·rcases aD (show a∈l::cs from h)with q|q
   ·subst q;exact .inl hl
   ·rcases hc a q with q|q
    ·exact .inl (by rw[oa,ha];exact lc9 _ q)
    ·exact .inr q
section
variable {X:Cx}{Z:Fx0}{pn:List Nat}{q:Bool}{c:Ex}{e:Expr}{σ:L2.St}{H:Hp}{L:Ls}{E:En}
theorem vqe{K:Frag}{x:Sl}{ds:List D}(ok:x.ok K H)(hd:x.d=.lst ds):tyV K "list" x.v H:=by
 obtain⟨a,xs,bs,e1,q1,_⟩:=items ok (.inl hd);rw[e1];rcases q1 with⟨_,z⟩|⟨z,_⟩
 ·exact .inl ⟨rfl,xs,z.sq⟩
 ·rw[hd]at z;cases z
theorem wxq{K:Frag}{x:Sl}(ok:x.ok K H)(b:Bool)(hb:b=false->vX x.sd=true):∃cs,RepL K H b x.d x.v cs/\(∀a∈cs,a∈x.as)/\(b=false->∀a∈cs,a∈x.own)/\(b=false->x.own.Nodup->cs.Nodup):=by
 cases b with
 | true=>exact⟨x.as,RepO.wk ok,λ_ h=>h,(λz=>by cases z),(λz=>by cases z)⟩
 | false=>
  have t:=hb rfl;unfold vX at t
  by_cases ho:x.o=.dp
  ·have e:x.own=x.as:=by unfold Sl.own;rw[ho]
   refine⟨x.as,?_,λ_ h=>h,λ_ a h=>by rw[e];exact h,λ_ n=>by rw[e]at n;exact n⟩;have:=ok;unfold Sl.ok at this;rw[ho]at this;exact this
  ·have hp:x.d.pure=true:=by
    rcases Bool.or_eq_true_iff.mp t with z|z
    ·exact absurd (by simpa using z) ho
    ·exact z
   obtain⟨z,rp⟩:=RepL.pu (g':=false) (RepO.wk ok) hp;exact⟨[],rp,λ_ h=>(nomatch h),λ_ _ h=>(nomatch h),λ_ _=>Xs⟩
theorem Vz{α:Type}{l:List α}{i:Nat}{x:α}(h:l[i]?=some x):l.set i x=l:=by
 obtain⟨h1,h2⟩:=List.getElem?_eq_some_iff.mp h;rw[<-h2];simp
theorem mut1 {D':Ends} {f:List D->D->Option (List D)} {i:Nat} {r:Fl} {G:V->V->Hp->Prop} (m:Mt E σ L) (w:World Z.K H L) (hc:vJ f i c E=some r) (k:FlP Z pn D' σ H L r)
  (g:∀ (l:Addr) (x:V) (xs:List V) (ds ds':List D) (d:D) (bs cs:List Addr) (H1:Hp) (gg:Bool),f ds d=some ds'->H1 l=some (.lst xs)->RepA Z.K H1 gg ds xs bs->RepL Z.K H1 gg d x cs ->
   (∀ xs' es,RepA Z.K H1 gg ds' xs' es->(∀a∈es,a∈bs\/a∈cs)->((bs++cs).Nodup->es.Nodup)->D'.nx σ (upd H1 l (.lst xs')))->G (.ref l) x H1):
  ∃ v,σ[i]?=some (some v)/\tyV Z.K "list" v H/\tQ Z q c σ H (G v):=by
 unfold vJ at hc;cases h0:E[i]? with
 | none=>rw[h0]at hc;cases hc
 | some s0 =>
  cases s0 with
  | none=>rw[h0]at hc;cases hc
  | some s0=>
   obtain ⟨o0,d0⟩:=s0;cases d0 with
   | lst ds0=>
    rw [h0,X8 (show Kw (some (some (o0,D.lst ds0)))=true from rfl)]at hc;obtain ⟨x0,a1,a2,a3,a4⟩:=m.get h0;refine ⟨x0.v,a4,vqe (w.ok x0 (v5 a1)) a3,?_⟩;refine Kv m w hc k λE1 s h1 x L1 H1 e1 e2 m1 w1 st _=>?_
    cases hE:E1[i]? with
    | none=>rw[hE]at h1;cases h1
    | some s1=>
     cases s1 with
     | none=>rw[hE]at h1;cases h1
     | some s1=>
      obtain⟨oo,dd⟩:=s1;rw [hE]at h1;cases dd with
      | lst ds=>
       dsimp only at h1
       by_cases gf:oo=.no
       ·rw [X8 gf]at h1;cases h1
       ·rw [Xf gf]at h1;cases hfd:f ds s.2 with
        | none=>rw[hfd]at h1;cases h1
        | some ds'=>
         rw[hfd]at h1;obtain⟨y,b1,b2,b3,b4⟩:=m1.get hE;have hv:y.v=x0.v:=by rw[a4]at b4;exact(oq9 (oq9 b4)).symm
         obtain⟨l,xs,bs,c1,c2,c3,c4,c5⟩:=W3 (w1.ok y (lc9 _ (v5 b1))) b3 (by rw[b2];exact gf);have ex0:x0.v=.ref l:=hv▸c1;rw[ex0];have wT:World Z.K H1 ([some x]++L1):=w1;have iy:=w1.head;have nd:=w1.nd;rw[k3,Xe]at nd;have oT:j8 [some x]=x.own:=by simp
         have fT:jQ [some x]=x.frz:=by simp
         by_cases hd:oo=.dp/\vX s=true
         ·rw[X8 hd]at h1;cases oq9 h1;have hyo:y.o=.dp:=b2.trans hd.1;rw[hyo]at c5;obtain⟨cs,r1,h3,h4,h5⟩:=wxq iy false λ_=>by rw[show x.sd=s from by simp[Sl.sd,e1,e2]];exact hd.2
          refine g l x.v xs ds ds' s.2 bs cs H1 false hfd c2 c5 (by rw[<-e2];exact r1) λxs' es re he hn=>?_
          have ynd:(bs++cs).Nodup:=by
           have yo:y.own=l::bs:=by unfold Sl.own;rw[hyo,c3]
           obtain⟨A,B,e,_⟩:=ZX b1;have q:=nd.2.1;rw[e,jV,k3,Xe]at q;have q2:=(List.nodup_append.mp q.2.1).1;rw[yo]at q2;rw[Xe];refine⟨(List.nodup_cons.mp q2).2,h5 rfl nd.1,λa ha b hb iu=>?_⟩;subst iu;exact nd.2.2 a (h4 rfl a hb) a (mem_owned.mpr ⟨y,v5 b1,by rw[yo];exact lc9 _ ha⟩) rfl
          obtain⟨w3,s3⟩:=kq7 (o':=.dp) (ds':=ds') (xs':=xs') wT b1 c2 c3 c4 c1 re (.inr ⟨rfl,hyo,hn ynd,λa ha=>(he a ha).imp id λz=>by rw[oT];exact h4 rfl a z⟩);refine k σ _ _ Pn.refl ?_ w3 (st.trans s3);have:=m1.set (x:=⟨.dp,.lst ds',y.v,l::es⟩) i;rw[Vz b4]at this;exact this
         ·rw[Xf hd]at h1;cases oq9 h1;have c6:RepA Z.K H1 true ds xs bs:=by
           cases hb:(y.o != .dp)with|true=>rw[hb]at c5;exact c5|false=>rw[hb]at c5;exact c5.wk
          refine g l x.v xs ds ds' s.2 bs x.as H1 true hfd c2 c6 (by rw[<-e2];exact RepO.wk iy) λxs' es re he hn=>?_
          obtain⟨w3,s3⟩:=kq7 (o':=.rt) (ds':=ds') (xs':=xs') wT b1 c2 c3 c4 c1 re (.inl ⟨rfl,λa ha=>(he a ha).imp id λz=>by rw[oT,fT];exact Sl.as_of z⟩);refine k σ _ _ Pn.refl ?_ w3 (st.trans s3);have:=m1.set (x:=⟨.rt,.lst ds',y.v,l::es⟩) i;rw[Vz b4]at this;exact this
      |_=>cases h1
   |_=>rw[h0]at hc;cases hc
theorem wx3{i:Nat}{o:Expr}{bb ai pos:Pos}(hb:PE X (.Call (.Attribute o "append" bb) [e] [] ai) (tBM Z.K "list" kxs (z4 i) (vv7 (tQ Z q c) wwa)))(hs:autoParam (swapsWith (.Call (.Attribute o "append" bb) [e] [] ai) none pos.line X.env=pure false) Ŕ):
  QS X Z pn (vJ vW i c) (.Expr (.Call (.Attribute o "append" bb) [e] [] ai) pos):=J4 (vw4 hb hs) λD σ H ah=>ex7 ah λE L r m w hc k=>
 mut1 (G:=λv x H1=>kxs v [x] H1 λ_ H2=>D.nx σ H2) m w hc k λl x xs ds ds' d bs cs H1 gg hf hH ra rx fin=>by
  unfold vW at hf
  by_cases hl:ds.length<big
  ·rw[X8 hl]at hf;cases oq9 hf;exact⟨l,xs,x,rfl,rfl,hH,by rw[<-ra.len];exact hl,fin (xs++[x]) (bs++cs) (RepA.snoc rx ra) (λa ha=>aA ha) λh=>h⟩
  ·rw[Xf hl]at hf;cases hf
end
section
variable {X:Cx}{Z:Fx0}{pn:List Nat}{q:Bool}{a b c:Ex}{tg e ea eb:Expr}{σ:L2.St}{H:Hp}{L:Ls}{E:En}{pos p:Pos}
theorem vzv{pins:LA9}{H1:Hp}{s1:Shared}{x:Str}{t:Tok}{R:It->Hp->Prop}(I1:L2.Inv X pins σ H1 s1)(q:R (Its x) H1):wpAny (model X.prog X.w) X.A (pyIter (.str x t)) (PIE X pins σ tg R) X.xe s1:=by
 have fp:∀b∈[s1.heap.objs.size],v9 X pins H1 b:=λb hb=>by
  have e:b=s1.heap.objs.size:=by simpa using hb
  subst e;exact I1.fpOk (Xb _) (I1.hok.fresh (Xb _))
 cases ha:x.cps.all (· < 128)
 ·exact wpAny_pyIter_wide ha ⟨s1.heap.objs.size,[s1.heap.objs.size],_,_,H1,rfl,I1.kept (t':=s1.toks) λb o e=>X2 _ e,kzo (λA' hA=>PySem.Walks.strWide hA _ x t) (λ_ _ _ _ _ st h=>wpAny_pyIter_striter_wide st h) ⋯,⟨_,Xa _ rfl,rfl,rfl⟩,fp,q⟩
 ·exact wpAny_pyIter_ascii ha ⟨s1.heap.objs.size,[s1.heap.objs.size],_,_,H1,rfl,I1.kept (t':=s1.toks) λb o e=>X2 _ e,kzo (λA' hA=>PySem.Walks.strAscii hA _ x t) (λ_ _ _ _ _ st h=>wpAny_pyIter_striter_ascii st h) ⋯,⟨_,Xa _ rfl,rfl,rfl⟩,fp,q⟩
theorem wkt{K:Frag}{H:Hp}(c:Nat):Sl.ok K H ⟨.no,.str ⟨#[c]⟩,.str ⟨#[c]⟩,[]⟩:=by
 show RepL K H true _ _ _;exact Wv (show(1:Nat)<=sizeLine by decide)
theorem wks{K:Frag}{H:Hp}(i:Int):Sl.ok K H ⟨.no,.int i,.int i,[]⟩:=by
 show RepL K H true _ _ _;exact wq
def iAny(K:Frag)(tl:TE):TI:=fun σ H R=>tl σ H λx H1=>(∃a xs,x=.ref a/\SqL K H1 a xs/\(xs.length<=sizeLine->R (Itl K a) H1))\/(∃a xs,x=.ref a/\SqT K H1 a xs/\(xs.length<=sizeLine->R (Itt K a) H1))\/∃z,x=.str z/\R (Its z) H1
theorem qvu{l:Expr}{tl:TE}(hl:PE X l tl):PI X tg l (iAny X.K tl):=by
 intro pins s σ H R I h;have h':tl σ H λx H1=>(∃a xs,x=.ref a/\SqL X.K H1 a xs/\(xs.length<=sizeLine->R (Itl X.K a) H1))\/(∃a xs,x=.ref a/\SqT X.K H1 a xs/\(xs.length<=sizeLine->R (Itt X.K a) H1))\/∃z,x=.str z/\R (Its z) H1:=h
 refine thn (hl pins s σ H _ I h') λv s1 ⟨x,H1,I1,r1,q1⟩=>?_
 rcases q1 with⟨a,xs,rfl,hq,q⟩|⟨a,xs,rfl,hq,q⟩|⟨z,rfl,q⟩
 ·cases r1;obtain⟨a8,rv,p,hz⟩:=I1.list hq;refine wpAny_pyIter_list p.isList ?_;refine⟨s1.heap.objs.size,[s1.heap.objs.size],_,_,H1,rfl,I1.kept (t':=s1.toks) λb o e=>X2 _ e,qqh a _,⟨_,Xa _ rfl,rfl,rfl⟩,λb hb=>?_,q hz⟩;have e:b=s1.heap.objs.size:=by simpa using hb
  subst e;exact I1.fpOk (Xb _) (I1.hok.fresh (Xb _))
 ·cases r1;obtain⟨a8,rv,p,hz⟩:=I1.tuple hq;refine wpAny_pyIter_tuple (show s1.heap.IsTuple a a8.toArray from p) ?_;refine⟨s1.heap.objs.size,[s1.heap.objs.size],_,_,H1,rfl,I1.kept (t':=s1.toks) λb o e=>X2 _ e,qk4 a _,⟨_,Xa _ rfl,rfl,rfl⟩,λb hb=>?_,q hz⟩;have e:b=s1.heap.objs.size:=by simpa using hb
  subst e;exact I1.fpOk (Xb _) (I1.hok.fresh (Xb _))
 ·obtain⟨t,rfl⟩:=r1;exact vzv I1 q
theorem xw(h:QE X Z q c e)(hK:autoParam (X.K=Z.K) Ŕ):QI X Z q tg (itS c) e:=λpins s σ H R I ah=>ex8 ah λE L r m w hc xc k=>by
 refine(hK▸qvu h) pins s σ H R I ?_;refine WX m w (show bnd (c E) _=some r from hc) xc λE1 s h1 x L1 H1 e1 e2 m1 w1 st sm=>?_
 obtain⟨ds,hd,rfl⟩:=zw h1;have ok:=w1.head;have wT:World Z.K H1 (L1++[x.let].map some):=by
  refine World.comm (L:=[some x.let]) ?_;exact w1.tail.consNo (Qv ok) rfl λb hb=>w1.apart b hb
 have sT:Step H L H1 (L1++[x.let].map some):=by
  refine⟨st.keep,λb hb=>?_,λb hb=>?_⟩
  ·have:b∈j8 L1:=by simpa [V1]using hb
   exact st.own b (by rw[k3];exact lr9 _ this)
  ·have:b∈jQ L1\/b∈x.as:=by simpa [V1]using hb
   rcases this with z|z
   ·exact st.frz b (by rw[qY];exact lr9 _ z)
   ·exact jzo st b z
 cases hx:x.d with
 | lst es=>
  rw[<-e2,hx]at hd;have ju:es=ds:=oq9 hd;subst ju;obtain⟨a,xs,bs,ev,q3,r3,h3,_⟩:=items ok (.inl hx);have q3:LsR Z.K H1 a xs:=by rcases q3 with⟨_,z⟩|⟨z,_⟩;exact z;rw[hx]at z;cases z
  have again:∀H2:Hp,(∀t∈[x.let],t.ok Z.K H2)->∃ys cs,SqL Z.K H2 a ys/\RepA Z.K H2 true es ys cs/\∀b∈cs,b∈x.as:=λH2 hok=>by
   obtain⟨a',ys,cs,lh,q4,r4,h4,_⟩:=items (hok x.let (aB rfl)) (.inl hx);have:a'=a:=by have:=lh.symm.trans ev;exact V.ref.inj this
   subst this;rcases q4 with⟨_,z⟩|⟨z,_⟩
   ·exact⟨ys,cs,z.sq,r4,h4⟩
   ·rw[show x.let.d=D.lst es from hx]at z;cases z
  refine .inl ⟨a,xs,ev,q3.sq,λab=>k _ _ rfl (Itl Z.K a) [x.let] L1 H1 m1 wT sT (by rw[r3.len];exact ab) (λhq=>(sm hq).1) ⟨λt ht=>by rw[aC ht];rfl,λi H2 hok hi=>?_,λH2 hok=>?_,λi H2 v H3 d hok hy f9=>?_⟩⟩
  ·obtain⟨ys,cs,s1,s2,_⟩:=again H2 hok;have hl:=s2.len;exact⟨ys,ys[i]'⋯,s1,X1 ⋯⟩
  ·obtain⟨ys,cs,s1,s2,_⟩:=again H2 hok;exact⟨ys,s1,by rw[s2.len];exact Xb _⟩
  ·obtain⟨ys,cs,s1,s2,s3⟩:=again H2 hok;obtain⟨e3,hy⟩:=hy;subst e3;obtain⟨v',cp,f1,f2,f3⟩:=s2.get f9;have:v'=v:=by have:=hy ys s1;rw[f1]at this;exact oq9 this
   subst this;exact⟨⟨.no,d,v',cp⟩,rfl,rfl,rfl,ww,f2,λb hb=>⟨x.let,aB rfl,s3 b (f3 b hb)⟩⟩
 | tup es=>
  rw[<-e2,hx]at hd;have ju:es=ds:=oq9 hd;subst ju;obtain⟨a,xs,bs,ev,q3,r3,h3,_⟩:=items ok (.inr hx);have q3:SqT Z.K H1 a xs:=by rcases q3 with⟨z,_⟩|⟨_,z⟩;rw[hx]at z;cases z;exact z
  have again:∀H2:Hp,(∀t∈[x.let],t.ok Z.K H2)->∃ys cs,SqT Z.K H2 a ys/\RepA Z.K H2 true es ys cs/\∀b∈cs,b∈x.as:=λH2 hok=>by
   obtain⟨a',ys,cs,lh,q4,r4,h4,_⟩:=items (hok x.let (aB rfl)) (.inr hx);have:a'=a:=by have:=lh.symm.trans ev;exact V.ref.inj this
   subst this;rcases q4 with⟨z,_⟩|⟨_,z⟩
   ·rw[show x.let.d=D.tup es from hx]at z;cases z
   ·exact⟨ys,cs,z,r4,h4⟩
  refine .inr (.inl ⟨a,xs,ev,q3,λab=>k _ _ rfl (Itt Z.K a) [x.let] L1 H1 m1 wT sT (by rw[r3.len];exact ab) (λhq=>(sm hq).1) ⟨λt ht=>by rw[aC ht];rfl,λi H2 hok hi=>?_,λH2 hok=>?_,λi H2 v H3 d hok hy f9=>?_⟩⟩)
  ·obtain⟨ys,cs,s1,s2,_⟩:=again H2 hok;have hl:=s2.len;exact⟨ys,ys[i]'⋯,s1,X1 ⋯⟩
  ·obtain⟨ys,cs,s1,s2,_⟩:=again H2 hok;exact⟨ys,s1,by rw[s2.len];exact Xb _⟩
  ·obtain⟨ys,cs,s1,s2,s3⟩:=again H2 hok;obtain⟨e3,hy⟩:=hy;subst e3;obtain⟨v',cp,f1,f2,f3⟩:=s2.get f9;have:v'=v:=by have:=hy ys s1;rw[f1]at this;exact oq9 this
   subst this;exact⟨⟨.no,d,v',cp⟩,rfl,rfl,rfl,ww,f2,λb hb=>⟨x.let,aB rfl,s3 b (f3 b hb)⟩⟩
 | str z=>
  rw[<-e2,hx]at hd;have hd:(if z.cps.size<=big then some (z.cps.toList.map λc=>D.str ⟨#[c]⟩)else none)=some ds:=hd
  split at hd
  ·rename_i hz;cases oq9 hd;refine .inr (.inr ⟨z,(xQ ok hx).1,k _ _ rfl (Its z) [] L1 H1 m1 (by simpa using w1.tail) (by simpa using (st.trans Step.drop)) (by rw[X3,Xr];exact hz) (λhq=>(sm hq).1) ⟨λt ht=>(nomatch ht),λi H2 _ hi=>?_,λH2 _=>?_,λi H2 v H3 d _ hy f9=>?_⟩⟩)
   ·show i<z.cps.size
    simpa using hi
   ·show(z.cps.toList.map λc=>D.str ⟨#[c]⟩).length=z.cps.size;simp
   ·obtain⟨e3,cc,hc,rfl⟩:=hy;subst e3;rw[Xh,Yr,hc]at f9;cases oq9 f9;exact⟨⟨.no,.str ⟨#[cc]⟩,.str ⟨#[cc]⟩,[]⟩,rfl,rfl,rfl,ww,wkt cc,λb hb=>(nomatch hb)⟩
  ·cases hd
 |non=>rw[<-e2,hx]at hd;cases hd|bl _=>rw[<-e2,hx]at hd;cases hd|int _=>rw[<-e2,hx]at hd;cases hd|dct _=>rw[<-e2,hx]at hd;cases hd|obj _ _=>rw[<-e2,hx]at hd;cases hd
theorem qk3{K:Frag}(lo hi:Int):Walks K (Itr lo (hi - lo).toNat) [] (k8 lo hi):=by
 have hl:(k8 lo hi).length=(hi - lo).toNat:=by simp[k8]
 refine⟨λt ht=>(nomatch ht),λi H _ kl=>by rw[hl]at kl;exact kl,λH _=>by rw[hl];exact Xb _,λi H v H' d _ hy hd=>?_⟩;obtain⟨e,rfl⟩:=hy;subst e;unfold k8 at hd;rw[Xh]at hd;cases hr:(List.range (hi - lo).toNat)[i]? with
 | none=>rw[hr]at hd;cases hd
 | some j=>
  rw[hr]at hd;have:j=i:=by
   obtain⟨_,h2⟩:=List.getElem?_eq_some_iff.mp hr
   simpa using h2.symm
  subst this;cases oq9 hd;exact⟨⟨.no,.int (lo+(j:Int)),.int (lo+(j:Int)),[]⟩,rfl,rfl,rfl,ww,wks _,λb hb=>(nomatch hb)⟩
theorem jxp{i:Int}(h:x9 i=true):-(2 ^ 62)<=i/\i<2 ^ 62:=by
 unfold x9 at h
 simpa using h
theorem Jv(ha:QV X Z q a ea)(hg:Gl X "range")(hm:X.mg "range"=none)(bc:autoParam (starEach [ea] X.env=[(false,eval ea X.env)]) Ŕ):QI X Z q tg (xk a) (.Call (.Name "range" p) [ea] [] pos):=λpins s σ H R I ah=>ex8 ah λE L r m w hc xc k=>by
 refine(qvt hg hm (wj ha wJ bc) bc) pins s σ H R I ?_;refine v8 m w (show bnd (a E) _=some r from hc) xc λE1 s h1 x L1 H1 e1 e2 m1 w1 ok fr sr st sm=>?_
 cases hx:s.2 with
 | int j=>
  rw[hx]at h1;dsimp only at h1
  split at h1
  ·rename_i hj;cases oq9 h1;obtain⟨j1,j2⟩:=jxp hj.1;have hv:=kX ok (e2.trans hx);refine⟨j,by rw[hv],j1,j2,?_⟩;have wk:=qk3 (K:=Z.K) 0 j;rw[Int.sub_zero]at wk;exact k _ _ rfl (Itr 0 j.toNat) [] L1 H1 m1 (by simpa using w1) (by simpa using st) (by simp only[k8,X3,Yc,Int.sub_zero];exact hj.2) sm wk
  ·cases h1
 |_=>rw[hx]at h1;cases h1
theorem Mt.clr:∀{R:List Nat} {E:En} {L:Ls},Mt E σ L->Mt (Q.clr R E) σ (Q.clr R L)
 | [],_,_,m=>m
 | j::R,E,L,m=>by
  have un:∀{E:En} {σ:L2.St} {L:Ls} (j:Nat),Mt E σ L->Mt (E.set j none) σ (L.set j none):=by
   intro E σ L j m
   induction m generalizing j with
   |nil=>exact .nil
   |un m ih=>cases j with|zero=>exact .un m|succ j=>exact .un (ih j)
   |cons m ih=>cases j with|zero=>exact .un m|succ j=>exact .cons (ih j)
  show Mt (Q.clr R (E.set j none)) σ (Q.clr R (L.set j none));exact Mt.clr (un j m)
theorem Mt.drop:∀{E:En} {σ:L2.St} {L:Ls} (k:Nat),Mt E σ L->Mt (E.drop k) (σ.drop k) (L.drop k)
 |_,_,_,0,m=>m|_,_,_,k+1,.nil=>.nil|_,_,_,k+1,.un m=>m.drop k|_,_,_,k+1,.cons m=>m.drop k
theorem Mt.none_at:∀{E:En} {σ:L2.St} {L:Ls} {j:Nat},Mt E σ L->E[j]?=some none->L[j]?=some none
 |_,_,_,_,.nil,h=>by simp at h|_,_,_,0,.un _,_=>by simp|_,_,_,j+1,.un m,h=>by simpa using m.none_at (j:=j) (by simpa using h)|_,_,_,0,.cons _,h=>by simp at h|_,_,_,j+1,.cons m,h=>by simpa using m.none_at (j:=j) (by simpa using h)
theorem Mt.pick:∀{R:List Nat},Mt E σ L->Mt (R.map (at' E)) (R.map (at' σ)) (R.map (at' L))
 | [],_=>.nil
 | j::R,m=>by
  rw[List.map_cons,List.map_cons,List.map_cons];cases hE:E[j]? with
  | none=>
   have hl:=m.len;have:L[j]?=none:=by rw[List.getElem?_eq_none_iff]at hE ⊢;omega
   rw[show at' E j=none from by unfold at';rw[hE];rfl,show at' L j=none from by unfold at';rw[this];rfl];exact .un m.pick
  | some s=>
   cases s with
   |none=>
    have:L[j]?=some none:=m.none_at hE;rw[show at' E j=none from by unfold at';rw[hE];rfl,show at' L j=none from by unfold at';rw[this];rfl];exact .un m.pick
   |some s=>
    obtain⟨o,d⟩:=s;obtain⟨x,h1,h2,h3,h4⟩:=m.get hE;rw[show at' E j=some (x.o,x.d)from by unfold at';rw[hE,h2,h3];rfl,show at' L j=some x from by unfold at';rw[h1];rfl,show at' σ j=some x.v from by unfold at';rw[h4];rfl];exact .cons m.pick
theorem Mt.rep:∀{k:Nat},Mt E σ L->Mt (List.replicate k none++E) (List.replicate k none++σ) (List.replicate k none++L)
 |0,m=>by simpa using m
 |k+1,m=>by
  rw[List.replicate_succ,List.replicate_succ,List.replicate_succ];exact .un m.rep
theorem Mt.back:∀{R:List Nat} {B:En} {τ:L2.St} {M:Ls} {E:En} {L:Ls},Mt E σ L->Mt B τ M->(∀(i j:Nat) (v:V),R[i]?=some j->τ[i]?=some (some v)->σ[j]?=some (some v))->Mt (Q.back R B E) σ (Q.back R M L)
 | [],B,τ,M,E,L,m,_,_=>by simpa [Q.back]using m| j::R,_,_,_,E,L,m,.nil,_=>by simpa [Q.back]using m
 | j::R,_,_,_,E,L,m,.un mB,h=>by
  have un:∀{E:En} {σ:L2.St} {L:Ls} (j:Nat),Mt E σ L->Mt (E.set j none) σ (L.set j none):=by
   intro E σ L j m
   induction m generalizing j with
   |nil=>exact .nil
   |un m ih=>cases j with|zero=>exact .un m|succ j=>exact .un (ih j)
   |cons m ih=>cases j with|zero=>exact .un m|succ j=>exact .cons (ih j)
  show Mt (Q.back R _ (E.set j none)) σ (Q.back R _ (L.set j none));exact Mt.back (un j m) mB λi jj v e1 e2=>h (i+1) jj v (by simpa using e1) (by simpa using e2)
 |j::R,_,_,_,E,L,m,.cons (x:=x) mB,h=>by
  have h0:=h 0 j x.v (by simp) (by simp);have m1:=m.set (x:=x) j;rw[Vz h0]at m1;show Mt (Q.back R _ (E.set j _)) σ (Q.back R _ (L.set j _));exact Mt.back m1 mB λi jj v e1 e2=>h (i+1) jj v (by simpa using e1) (by simpa using e2)
section
variable {ae d9:Expr}{cu:List Expr}{scope:Scope}{N:List Str}{k:Nat}{R:List Nat}{it:Ev (List D)}{tt:Tg}{u:Ts}{o:Own}{q1 q2:Bool}
theorem vx1:Jj k R σ=List.replicate k none++R.map (at' σ):=rfl
theorem wxk{K:Frag}{M:Ls}(hR:R.Nodup)(w:World K H (L++M)):World K H ((List.replicate k none++R.map (at' L))++(Q.clr R L++M))/\Step H (L++M) H ((List.replicate k none++R.map (at' L))++(Q.clr R L++M)):=by
 have p:(sls (L++M)).Perm (sls ((List.replicate k none++R.map (at' L))++(Q.clr R L++M))):=by
  have:=qju (R:=R) (L:=L) hR;rw[Qq]at this;simp only[Qq,vva,List.nil_append];rw[<-Xu];exact(this.append_right _).symm
 exact⟨w.same p,Step.refl.same (List.Perm.refl _) p⟩
theorem wkz{K:Frag}{B:Ls}{M:Ls}{H2:Hp}(hR:R.Nodup)(hr:∀j∈R,j<L.length)(hB:B.length=k+R.length)(w:World K H2 (B++(Q.clr R L++M))):World K H2 (Q.back R (B.drop k) (Q.clr R L)++M)/\Step H2 (B++(Q.clr R L++M)) H2 (Q.back R (B.drop k) (Q.clr R L)++M):=by
 have p:=kxb (R:=R) (B:=B.drop k) (L:=Q.clr R L) hR (λj hj=>qxs hj) (λj hj=>by rw[qxr];exact hr j hj) (by rw[Zl,hB];omega);have p2:(sls (Q.back R (B.drop k) (Q.clr R L)++M)).Perm (sls (B.drop k++(Q.clr R L++M))):=by
  rw[Qq,<-Xu,Qq (B.drop k++Q.clr R L)];exact p.append_right _
 have sub:(sls (B.drop k++(Q.clr R L++M))).Sublist (sls (B++(Q.clr R L++M))):=by
  rw[Qq,Qq B];refine List.Sublist.append ?_ (Z3 _);unfold sls;exact(List.drop_sublist k B).filterMap _
 exact⟨(w.sub sub).same p2.symm,(Step.refl.sub sub).same (List.Perm.refl _) p2.symm⟩
theorem kj0:∀{is:List Nat} {es:List D} {E E':En},setAll is es E=some E'->E'.length=E.length
 |[],[],_,_,h=>by cases oq9 h;rfl|[],_::_,_,_,h=>by cases h|_::_,[],_,_,h=>by cases h|i::is,d::es,E,E',h=>by rw[kj0 (E:=E.set i (some (.no,d))) h,Yy]
theorem vvx{t:Tg}{d:D}{E E':En}(h:t.put d E=some E'):E'.length=E.length:=by
 cases t with
 |n i=>cases oq9 h;rw[Yy]
 |t is=>
  cases d with|tup es=>exact kj0 (show setAll is es E=some E' from h)|lst es=>exact kj0 (show setAll is es E=some E' from h)|_=>cases h
theorem kqr{nN:Nat}{Q:VK}(hσ:σ.length=nN)(hR:R.Nodup)(hr:∀j∈R,j<nN)(h:tQ Z q (cLC o k R it tt u c) σ H Q):tLC (tIS Z q it) (tG Z ((List.range R.length).map (k + ·)) tt) (tT Z q u) (tQ Z q c) k R σ H Q:=by
 obtain⟨E,L,r,m,w,i6,xc,kk⟩:=h;have i6:bnd (it E) (λE ds=>match lcL tt u c ds (Kx k R E) []with
  | some (.ok B xs)=>mkL o (J6 k R B E) xs| some (.exc B e)=>some (.exc (J6 k R B E) e)
  | none=>none)=some r:=i6
 rcases x4 i6 with⟨E1,ds,h1,h2⟩|⟨E1,cc,h1,h2⟩
 rotate_left
 ·exact⟨E,L,_,m,w,h1,xc.map h2,λE' s' z=>by cases z⟩
 refine⟨E,L,_,m,w,h1,(λ_ _ z=>by cases z),λE' ds' z J T L1 H1 m1 w1 st hz sm wk=>?_⟩;injection z with z1 z2;subst z1 z2;have hL1:∀j∈R,j<L1.length:=λj hj=>by have:=m1.len;have:=hr j hj;omega
 obtain⟨wB,sB⟩:=wxk (k:=k) hR w1;cases hrB:lcL tt u c ds (Kx k R E1) []with
 | none=>rw[hrB]at h2;cases h2
 | some rB=>
  rw [hrB]at h2;have ir:∀{H2:Hp} {A B:Ls},World Z.K H2 (A++(B++(_root_.Q.clr R L1++T.map some)))->∀t∈T,t.ok Z.K H2:=λw2 t ht=>w2.ok t (lr9 _ (lr9 _ (lr9 _ (Xn ht))))
  have mB0:Mt (Kx k R E1) (Jj k R σ) (List.replicate k none++R.map (at' L1)):=(m1.pick (R:=R)).rep;have pz:∀{B:En} {LB:Ls} {τ:L2.St} {H2:Hp} {A:Ls},Mt B τ LB->τ.length=k+R.length->Pn ((List.range R.length).map (k + ·)) (Jj k R σ) τ->World Z.K H2 (LB++(A++(_root_.Q.clr R L1++T.map some))) ->
    Mt (J6 k R B E1) σ (_root_.Q.back R (LB.drop k) (_root_.Q.clr R L1))/\World Z.K H2 (A++_root_.Q.back R (LB.drop k) (_root_.Q.clr R L1))/\Step H2 (LB++(A++(_root_.Q.clr R L1++T.map some))) H2 (A++_root_.Q.back R (LB.drop k) (_root_.Q.clr R L1)):=fun {B LB τ H2 A} mB lB pB wB2=>by
   have hl:LB.length=k+R.length:=by rw[mB.len.2];exact lB
   have pm:(LB++(A++(_root_.Q.clr R L1++T.map some))).Perm (LB++(_root_.Q.clr R L1++(A++T.map some))):=by
    refine List.Perm.append_left _ ?_;rw [<-Xu,<-Xu];exact List.Perm.append_right _ Zd
   obtain⟨w3,s3⟩:=wkz (k:=k) hR hL1 hl (wB2.perm pm);have qt:(_root_.Q.back R (LB.drop k) (_root_.Q.clr R L1)++(A++T.map some)).Perm ((A++_root_.Q.back R (LB.drop k) (_root_.Q.clr R L1))++T.map some):=by
    rw [<-Xu];exact List.Perm.append_right _ Zd
   refine⟨?_,(w3.perm qt).left,(s3.perm pm.symm qt).trans Step.dropT⟩;refine Mt.back (m1.clr) (mB.drop k) λi j v e1 e2=>?_
   have hi:i<R.length:=(List.getElem?_eq_some_iff.mp e1).1;have e3:=pB (k+i) (List.mem_map.mpr ⟨i,List.mem_range.mpr hi,rfl⟩);rw [List.getElem?_drop,e3,vx1,Yo (by simp),Z0,show k+i - k=i from by omega,Xh,e1]at e2;have e4:at' σ j=some v:=by simpa using e2
   unfold at' at e4;cases hh:σ[j]? with| none=>rw[hh]at e4;cases e4| some s=>rw[hh]at e4;rw[show s=some v from e4]
  refine⟨λi n ys τ H2=>∃(B:En) (LB:Ls) (aa:List Sl),Mt B τ LB/\τ.length=k+R.length/\Pn ((List.range R.length).map (k + ·)) (Jj k R σ) τ/\World Z.K H2 (LB++(aa.map some++(_root_.Q.clr R L1++T.map some)))/\Step H L H2 (LB++(aa.map some++(_root_.Q.clr R L1++T.map some))) /\
   ys=aa.map Sl.v/\lcL tt u c (ds.drop i) B (aa.map Sl.sd)=some rB/\i<=ds.length/\aa.length<=i/\n=ds.length - i/\(q=true->jY H H2/\∀b∈j8 (aa.map some),H b=none),⟨_,Kx k R E1,_,[],mB0,by simp[Jj],Pn.refl,wB,st.trans sB,rfl,hrB,Yd _,Yd _,rfl,λhq=>⟨sm hq,λ_ z=>(nomatch z)⟩⟩,?_⟩
  rintro i n ys τ H2 ⟨B,LB,aa,mB,lB,pB,wB2,sB2,rfl,f1,hi,ay,rfl,smB⟩
  by_cases cb:i<ds.length
  rotate_left
  ·have e:i=ds.length:=⋯
   subst e;rw [List.drop_length]at f1;cases oq9 f1;obtain⟨m3,w3,s3⟩:=pz mB lB pB wB2;refine .inl ⟨wk.stop H2 (ir wB2) (λhq=>(smB hq).1),by rw[X3];omega,?_⟩;exact qja (σ:=σ) (Q:=Q) (o:=o) (xs:=aa) h2 rfl w3 (sB2.trans s3) smB kk m3
  ·have hd:ds.drop i=ds[i]::ds.drop (i+1):=List.drop_eq_getElem_cons cb;rw [hd]at f1;unfold lcL at f1;cases bq:tt.put ds[i] B with
   | none=>rw[bq]at f1;cases f1
   | some B2=>
    rw [bq]at f1;dsimp only at f1;refine .inr ⟨wk.go i H2 (ir wB2) (λhq=>(smB hq).1) cb,λv H3 hy=>?_⟩;obtain⟨z,zo,zd,zv,smz,ph,zas⟩:=wk.yld i H2 v H3 ds[i] (ir wB2) (λhq=>(smB hq).1) hy (X1 cb);have pm:(LB++(aa.map some++(_root_.Q.clr R L1++T.map some))).Perm ((LB++(aa.map some++_root_.Q.clr R L1))++T.map some):=by
     rw[<-Xu (aa.map some),<-Xu]
    obtain⟨wz,sz⟩:=kkh (wB2.perm pm) wk.no smz ph zo zas;have wz':World Z.K H3 ((some z::LB)++(aa.map some++(_root_.Q.clr R L1++T.map some))):=wz.perm (by
     rw[List.cons_append,List.cons_append];exact List.Perm.cons _ pm.symm)
    have sz':Step H2 (LB++(aa.map some++(_root_.Q.clr R L1++T.map some))) H3 ((some z::LB)++(aa.map some++(_root_.Q.clr R L1++T.map some))):=sz.perm pm.symm (by
     rw[List.cons_append,List.cons_append];exact List.Perm.cons _ pm.symm)
    refine⟨B,LB,z,B2,mB,wz'.left,zo,zv,by rw[zd];exact bq,fun τ2 LB2 p2 mB2 wB3 sB3=>?_⟩;obtain⟨w4,s4⟩:=stay wz' sB3 wB3;have lB2:τ2.length=k+R.length:=by
     have h1:=mB2.len.1;have h2:=mB.len.1;have h3:=vvx bq;omega
    have p3:=pB.trans p2;have rl:Step H L H3 (LB2++(aa.map some++(_root_.Q.clr R L1++T.map some))):=sB2.trans (sz'.trans s4);have fq:q=true->jY H H3/\∀b∈j8 (aa.map some),H b=none:=λhq=>⟨qv (smB hq).1 smz,(smB hq).2⟩
    refine⟨λy H5=>∃(B:En) (LB:Ls) (df:List Sl),Mt B τ2 LB/\World Z.K H5 (LB++(df.map some++(_root_.Q.clr R L1++T.map some)))/\Step H L H5 (LB++(df.map some++(_root_.Q.clr R L1++T.map some)))/\aa.map Sl.v++[y]=df.map Sl.v/\df.length=aa.length+1/\lcL tt u c (ds.drop (i+1)) B (df.map Sl.sd)=some rB/\(q=true->jY H H5/\∀b∈j8 (df.map some),H b=none),
     λH5=>∃B LB,Mt B τ2 LB/\World Z.K H5 (LB++(aa.map some++(_root_.Q.clr R L1++T.map some)))/\Step H L H5 (LB++(aa.map some++(_root_.Q.clr R L1++T.map some)))/\lcL tt u c (ds.drop (i+1)) B (aa.map Sl.sd)=some rB/\(q=true->jY H H5/\∀b∈j8 (aa.map some),H b=none),
     λy H5 ⟨B5,LB5,acc5,c1,c2,c3,c4,c5,c6,c7⟩=>⟨by rw[X3];omega,ds.length - (i+1),⋯,B5,LB5,acc5,c1,lB2,p3,c2,c3,c4,c6,cb,⋯,rfl,c7⟩,
     λH5 ⟨B5,LB5,c1,c2,c3,c6,c7⟩=>⟨ds.length - (i+1),⋯,B5,LB5,aa,c1,lB2,p3,c2,c3,rfl,c6,cb,⋯,rfl,c7⟩,?_⟩
    have xcB:∀{α:Type} {H6:Hp} {L6:Ls} {B6:En} {cc:Str} {A:Ls},rB=.exc B6 cc->World Z.K H6 (L6++(A++(_root_.Q.clr R L1++T.map some)))->Step H L H6 (L6++(A++(_root_.Q.clr R L1++T.map some)))->Xc Z τ2 H6 L6 (.exc B6 cc:Res α):=fun {α H6 L6 B6 cc A} er w6 s6 E7 c7 e7 C L7 H7 hm m7 w7 s7=>by
     injection e7 with e8 e9;subst e8 e9;subst er;cases oq9 h2;obtain⟨w8,s8⟩:=stay w6 s7 w7;obtain⟨m9,w9,s9⟩:=pz m7 lB2 p3 w8;exact xc _ _ rfl C _ H7 hm m9 w9.right ((s6.trans (s8.trans s9)).trans ⟨λ_ _ h _=>h,λa ha=>.inl (by rw[jV];exact lr9 _ ha),λa ha=>.inl (by rw[kW];exact lr9 _ ha)⟩)
    rcases x4 f1 with⟨B4,kb,g1,g2⟩|⟨B4,cc,g1,g2⟩
    rotate_left
    ·exact⟨B2,LB2,_,mB2,wB3,g1,xcB g2 w4 rl,λE' s' z=>by cases z⟩
    refine⟨B2,LB2,_,mB2,wB3,g1,(λ_ _ z=>by cases z),λE' s' z LB4 H4 mB4 wB4 sB4 sm4=>?_⟩;injection z with z1 z2;subst z1 z2;obtain⟨w5,s5⟩:=stay w4 sB4 wB4;have jm:=rl.trans s5;cases kb with
    | false=>
     rw[Xf ⋯]at g2 ⊢;exact⟨B4,LB4,mB4,w5,jm,g2,λhq=>⟨qv (fq hq).1 (sm4 hq),(fq hq).2⟩⟩
    | true=>
     rw[X8 rfl]at g2 ⊢;rcases x4 g2 with⟨B6,y,g3,g4⟩|⟨B6,cc,g3,g4⟩
     rotate_left
     ·exact⟨B4,LB4,_,mB4,wB4,g3,xcB g4 w5 jm,λE' s' z=>by cases z⟩
     refine⟨B4,LB4,_,mB4,wB4,g3,(λ_ _ z=>by cases z),λE' s' z x LB6 H6 ex ey mB6 wB6 sB6 sm6=>?_⟩;injection z with z1 z2;subst z1 z2;obtain⟨w7,s7⟩:=stay w5 sB6 wB6;have pm3:((some x::LB6)++(aa.map some++(_root_.Q.clr R L1++T.map some))).Perm (LB6++((aa++[x]).map some++(_root_.Q.clr R L1++T.map some))):=by
      rw[X9,List.cons_append];have:(LB6++(aa.map some++[x].map some++(_root_.Q.clr R L1++T.map some)))=(LB6++aa.map some)++some x::(_root_.Q.clr R L1++T.map some):=by simp
      rw[this];refine List.Perm.trans ?_ List.perm_middle.symm;rw[Xu]
     refine⟨B6,LB6,aa++[x],mB6,w7.perm pm3,(jm.trans s7).perm (List.Perm.refl _) pm3,by simp,by simp,?_,λhq=>⟨qv (fq hq).1 (qv (sm4 hq) (sm6 hq).1),λb hb=>?_⟩⟩
     ·rw[X9,show[x].map Sl.sd=[y]from by simp[Sl.sd,ex,ey]];exact g4
     ·rw[X9,jV]at hb;rcases aA hb with hb|hb
      ·exact(fq hq).2 b hb
      ·have hb:b∈x.own:=by simpa using hb
       exact Jw (qv (fq hq).1 (sm4 hq)) ((sm6 hq).2 b hb)
theorem wzr(N:List Str)(hi:QI X Z q tg it ae)
  (hg:∀cl C s0 H0 fp,QG (lcE X scope N cl C s0 H0 fp Z.EX) Z ((List.range R.length).map (k + ·)) tt tg) (ht:∀cl C s0 H0 fp,PTs (lcE X scope N cl C s0 H0 fp Z.EX) cu (tT Z q u)) (he:∀cl C s0 H0 fp,QE (lcE X scope N cl C s0 H0 fp Z.EX) Z q c d9)
  (gx:wY X Z.EX) (top:zj X) (hR:R.Nodup) (hr:∀j∈R,j<X.N.length) (hc:autoParam (X.calm=true) Ŕ) (hk:autoParam (scope.kind=.function) Ŕ) (gu:autoParam (Jz X.N X.env.scope scope N k R=true) Ŕ) (hs:autoParam (∀x,foldedSetIterable ae X.env x=pure x) Ŗ):
  QE X Z q (cLC o k R it tt u c) (.ListComp d9 [⟨tg,ae,cu,0⟩] scope pos):=λpins s σ H Q I hw=>
 vq8 (EX:=Z.EX) N k R (wzq hi) hg ht he gx top hc hk gu hs pins s σ H Q I (kqr I.len hR hr hw)
theorem wwv(N:List Str)(hi:QIS X Z q tg it ae)
  (hg:∀cl C s0 H0 fp,QG (lcE X scope N cl C s0 H0 fp Z.EX) Z ((List.range R.length).map (k + ·)) tt tg) (ht:∀cl C s0 H0 fp,PTs (lcE X scope N cl C s0 H0 fp Z.EX) cu (tT Z q u)) (he:∀cl C s0 H0 fp,QE (lcE X scope N cl C s0 H0 fp Z.EX) Z q c d9)
  (gx:wY X Z.EX) (top:zj X) (hR:R.Nodup) (hr:∀j∈R,j<X.N.length) (hc:autoParam (X.calm=true) Ŕ) (hk:autoParam (scope.kind=.function) Ŕ) (gu:autoParam (Jz X.N X.env.scope scope N k R=true) Ŕ) (hs:autoParam (∀x,foldedSetIterable ae X.env x=pure x) Ŗ):
  QE X Z q (cLC o k R it tt u c) (.ListComp d9 [⟨tg,ae,cu,0⟩] scope pos):=λpins s σ H Q I hw=>
 vq8 (EX:=Z.EX) N k R hi hg ht he gx top hc hk gu hs pins s σ H Q I (kqr I.len hR hr hw)
theorem kvw{EX:XK}{wi:TI}{g:TG}{tte:TT}{te:TE}{i:Nat}{y:Str}{py ft:Pos}(N:List Str)(k:Nat)(R:List Nat)(hN:X.N.Nodup)(hy:X.N[i]?=some y)(hx:Loc X.env.scope y)(hi:PI X tg ae wi)
  (hg:∀cl C s0 H0 fp,PG (lcE X scope N cl C s0 H0 fp EX) tg g) (ht:∀cl C s0 H0 fp,PTs (lcE X scope N cl C s0 H0 fp EX) cu tte) (he:∀cl C s0 H0 fp,PE (lcE X scope N cl C s0 H0 fp EX) d9 te) (gx:wY X EX) (top:zj X)
  (mj:autoParam (swapsWith (.ListComp d9 [⟨tg,ae,cu,0⟩] scope pos) (some (.Name y py)) ft.line X.env=pure true) Ŕ)
  (hc:autoParam (X.calm=true) Ŕ) (hk:autoParam (scope.kind=.function) Ŕ) (gu:autoParam (Jz X.N X.env.scope scope N k R=true) Ŕ) (hs:autoParam (∀x,foldedSetIterable ae X.env x=pure x) Ŗ)
  (hf:autoParam (X.fn y=true\/X.env.scope.names.lookup y=some .local) ś):
  PS X (.Assign [.Name y py] (.ListComp d9 [⟨tg,ae,cu,0⟩] scope pos) ft) (λD σ H=>tLC wi g tte te k R σ H λv H1=>D.nx (σ.set i (some v)) H1):=by
 intro pins s σ H D I h;have sc:=qje hk gu;obtain⟨cl,jh,da,bf⟩:=kkn (scope:=scope) (env:=X.env) λy hy e=>I.ok.has y.1 (sc.caps y hy e)
 rw[exec_Assign_Name_used _ _ _ _ mj];refine X0 (wpAny_standAt (X0 ?_));show wpAny _ X.A (do let _ <-comprehension (.ListComp d9 [⟨tg,ae,cu,0⟩] scope pos) scope X.env _ (newList []) false (eval ae X.env) (some (assign (.Name y py) X.env))) _ _ s;refine X0 (thn (wpAny_comprehension_free (use:=some (assign (.Name y py) X.env)) (Q:=λ_ s'=>SP X pins D .next s') rfl hs jh sc.kind sc.names
  (thn (hi pins s σ H _ I h) λv s1 h1=>thn h1 λitv s2 h2=>?_)) λ_ s' hq=>X5 (X5 hq))
 obtain⟨it,fp,tn,J,H2,e,I2,T,bg,f2,W,w0,e6⟩:=h2;subst e;refine kwe (EX:=EX) (RR:=λaa C=>compPost (model X.prog X.w) X.A X.xe (some (assign (.Name y py) X.env)) (λ_ s'=>SP X pins D .next s') aa C) hc top sc da bf (hg cl) (ht cl) (he cl) I2 T bg f2 w0 e6 ?_ ?_
 rotate_left
 ·intro D' C s' cj σ' H' x T Cc fl hC t q;exact vqf gx I2 f2 hC t q
 intro L C oC m ys H' s' I' eC nC fC q;show wpAny _ X.A (assign (.Name y py) X.env (.ref L)) _ _ s';refine wpAny_assign_Name (jzn I' hN hy hx (v:=.ref L) rfl (λie I''=>?_) hf);have pC:=I''.pin (C,oC) (lr9 _ (lr9 _ (aB rfl)));refine⟨m,nC.at' λo e=>?_,λh' sb=>⟨_,_,I''.unpinned.turned (it:=C) (t':=ie.toks) (λb o hb e=>(sb.2 b hb).trans e) fC.1 fC.2.1 fC.2.2.2.1 fC.2.2.2.2.1 fC.2.2.2.2.2,q⟩⟩;rw[eC]at e;cases e;exact pC.1
theorem ZK{i:Nat}{y:Str}{py ft:Pos}(N:List Str)(hN:X.N.Nodup)(hy:X.N[i]?=some y)(hx:Loc X.env.scope y)(hi:QI X Z q tg it ae)
  (hg:∀cl C s0 H0 fp,QG (lcE X scope N cl C s0 H0 fp Z.EX) Z ((List.range R.length).map (k + ·)) tt tg) (ht:∀cl C s0 H0 fp,PTs (lcE X scope N cl C s0 H0 fp Z.EX) cu (tT Z q u)) (he:∀cl C s0 H0 fp,QE (lcE X scope N cl C s0 H0 fp Z.EX) Z q c d9)
  (gx:wY X Z.EX) (top:zj X) (hR:R.Nodup) (hr:∀j∈R,j<X.N.length) (hp:autoParam (i∉pn) ŕ)
  (mj:autoParam (swapsWith (.ListComp d9 [⟨tg,ae,cu,0⟩] scope pos) (some (.Name y py)) ft.line X.env=pure true) Ŕ)
  (hc:autoParam (X.calm=true) Ŕ) (hk:autoParam (scope.kind=.function) Ŕ) (gu:autoParam (Jz X.N X.env.scope scope N k R=true) Ŕ) (hs:autoParam (∀x,foldedSetIterable ae X.env x=pure x) Ŗ)
  (hf:autoParam (X.fn y=true\/X.env.scope.names.lookup y=some .local) ś):
  QS X Z pn (jq i (cLC o k R it tt u c)) (.Assign [.Name y py] (.ListComp d9 [⟨tg,ae,cu,0⟩] scope pos) ft):=
 vkz (q:=q) hp λpins s σ H D I hw=>kvw N k R hN hy hx (wzq hi) hg ht he gx top mj hc hk gu hs hf pins s σ H D I (kqr I.len hR hr hw)
end
end
section
variable {X:Cx}{Z:Fx0}{K:Frag}{pn:List Nat}{q qa qb:Bool}{a b c:Ex}{u:Ts}{tg e ea eb:Expr}{σ:L2.St}{H:Hp}{L:Ls}{E:En}{pos p:Pos}{x:Str}{id T:String}{r:List V->Hp->VK->Prop}{f:Sd->Option Sd}{g:Sd->Sd->Option Sd}
theorem Q5:PTs X [] (tT Z q _root_.Q.tYes):=λpins s σ H Q I ah=>ex8 ah λE L r m w hc xc k=>by
 cases oq9 hc;exact vw0 pins s σ H Q I (k _ _ rfl L H m w Step.refl λ_=>ww)
theorem vj0(h:QT X Z q u e):PTs X [e] (tT Z q u):=vvz h
theorem wzs(hc:CallR X (.builtin id) r)(ad:Ad1 Z.K (λv H Q=>r [v] H Q) f)(ha:QV X Z q a ea)(hm:X.mg x=none)(hv:bootBuiltins x=some (.builtin id))(hg:autoParam (Gl X x) Ŕ)(hn:autoParam (x≠"__name__") ŕ)(dn:autoParam ((x==("__debug__":Str))=false) ŕ)
  (he:autoParam (starEach [ea] X.env=(false,eval ea X.env)::starEach [] X.env) Ŕ) (bh:autoParam ((backTo pos (starEach [] X.env)).any (·.1)=false) Ŕ):QE X Z q (cF1 f a) (.Call (.Name x p) [ea] [] pos):=
 q9 (kqa hc hg hm hv (wj ha wJ he) hn dn he bh) fun σ H Q h=>XJ (r:=λv H Q=>r [v] H Q) ad h
theorem KZ(hc:CallR X (.type T) r)(ad:Ad1 Z.K (λv H Q=>r [v] H Q) f)(ha:QV X Z q a ea)(hm:X.mg x=none)(hv:bootBuiltins x=some (.type T))(hg:autoParam (Gl X x) Ŕ)(hn:autoParam (x≠"__name__") ŕ)(dn:autoParam ((x==("__debug__":Str))=false) ŕ)
  (he:autoParam (starEach [ea] X.env=(false,eval ea X.env)::starEach [] X.env) Ŕ) (bh:autoParam ((backTo pos (starEach [] X.env)).any (·.1)=false) Ŕ):QE X Z q (cF1 f a) (.Call (.Name x p) [ea] [] pos):=
 q9 (qvw hc hg hm hv (wj ha wJ he) hn dn he bh) fun σ H Q h=>XJ (r:=λv H Q=>r [v] H Q) ad h
theorem q_b2(hc:CallR X (.builtin id) r)(ad:Ad2 Z.K (λv w H Q=>r [v,w] H Q) g)(ha:QV X Z q a ea)(hb:QV X Z true b eb)(hm:X.mg x=none)(hv:bootBuiltins x=some (.builtin id))(hg:autoParam (Gl X x) Ŕ)(hn:autoParam (x≠"__name__") ŕ)(dn:autoParam ((x==("__debug__":Str))=false) ŕ)
  (he:autoParam (starEach [ea,eb] X.env=(false,eval ea X.env)::starEach [eb] X.env) Ŕ) (he2:autoParam (starEach [eb] X.env=(false,eval eb X.env)::starEach [] X.env) Ŕ) (bh:autoParam ((backTo pos (starEach [eb] X.env)).any (·.1)=false) Ŕ):QE X Z q (cF2 g a b) (.Call (.Name x p) [ea,eb] [] pos):=
 q9 (kqa hc hg hm hv (wj ha (wj hb wJ he2) he) hn dn he bh) fun σ H Q h=>jzx (r:=λv w H Q=>r [v,w] H Q) ad h
theorem wvh:Ad1 K (λv H Q=>qvc K [v] H Q) (pu1 v6):=by
 intro H x s Q ok hf k;unfold pu1 at hf;have fin:∀n:Nat,v6 x.d=some (.int n)->Q (.int n) H:=λn e=>by
  rw[show(x.o,x.d).2=x.d from rfl,e]at hf;cases oq9 hf;exact k ⟨.dp,.int n,.int n,[]⟩ H rfl rfl Jk
 cases hx:x.d with
 |lst ds=>
  obtain⟨l,xs,bs,e,q,r,_⟩:=items ok (.inl hx);refine .inl ⟨l,xs,by rw[e],?_,by rw[<-r.len];exact fin ds.length (by rw[hx];rfl)⟩;rcases q with⟨_,z⟩|⟨_,z⟩
  ·exact .inl (z7 z)
  ·exact .inr z
 |tup ds=>
  obtain⟨l,xs,bs,e,q,r,_⟩:=items ok (.inr hx);refine .inl ⟨l,xs,by rw[e],?_,by rw[<-r.len];exact fin ds.length (by rw[hx];rfl)⟩;rcases q with⟨_,z⟩|⟨_,z⟩
  ·exact .inl (z7 z)
  ·exact .inr z
 |str z=>
  obtain⟨e,hz⟩:=xQ ok hx;exact .inr (.inl ⟨z,by rw[e],hz,fin z.length (by rw[hx];rfl)⟩)
 |_=>rw[show(x.o,x.d).2=x.d from rfl,hx]at hf;cases hf
def vvn(K:Frag):List V->Hp->VK->Prop:=λxs H Q=>wzm K xs H Q\/(∃p ys U,xs=[.ref p,.ty U]/\SqT K H p ys/\U∈kinds.tail/\Q (.bl (wqf "tuple" U)) H)\/∃p ys U,xs=[.ref p,.ty U]/\SqL K H p ys/\U∈kinds.tail/\Q (.bl (wqf "list" U)) H
theorem qxx(hK:autoParam (X.K=K) Ŕ):CallR X (.builtin "isinstance") (vvn K):=by
 subst hK;intro pins s σ H xs us Q I r h;rcases h with h|⟨p,ys,U,rfl,hq,hU,q⟩|⟨p,ys,U,rfl,hq,hU,q⟩
 ·exact vk7 pins s σ H xs us Q I r h
 ·obtain⟨u,w',rfl,r1,r2⟩:=qzl r;cases(show w'=Value.type U from r2);cases r1;obtain⟨a8,_,⟨o,h1,h2,_⟩,_⟩:=I.tuple hq;exact Yg PySem.W.kitx_tuple I.kIn ⟨o,h1,h2⟩ (kz6 (T:="tuple") ⋯ hU) (λz=>nomatch z) λtk=>⟨.bl _,H,I.tok _,rfl,q⟩
 ·obtain⟨u,w',rfl,r1,r2⟩:=qzl r;cases(show w'=Value.type U from r2);cases r1;obtain⟨a8,_,⟨o,n,h1,h2,_⟩,_⟩:=I.list hq;exact Yg PySem.W.kitx_list I.kIn ⟨o,h1,h2⟩ (kz6 (T:="list") ⋯ hU) (λz=>nomatch z) λtk=>⟨.bl _,H,I.tok _,rfl,q⟩
theorem wvi{U:String}(hU:U∈kinds.tail):Ad1 K (λv H Q=>vvn K [v,.ty U] H Q) (pu1 (YK U)):=by
 intro H x s Q ok hf k;unfold pu1 YK at hf;have fin:∀(T:String),kind x.d=T->(∀c f,x.d≠.obj c f)->Q (.bl (wqf T U)) H:=λT e ho=>by
  cases hx:x.d with
  |obj c f=>exact absurd hx (ho c f)|dct kvs=>rw[show(x.o,x.d).2=x.d from rfl,hx]at hf;cases hf
  |_=>
   rw[show(x.o,x.d).2=x.d from rfl,hx]at hf;cases oq9 hf;rw[<-e,hx];exact k ⟨.dp,.bl _,.bl _,[]⟩ H rfl rfl wX
 cases hx:x.d with
 |non=>exact .inl ⟨x.v,"NoneType",U,rfl,by rw[vqc ok hx];exact .non,⋯,hU,fin _ (by rw[hx];rfl) (by rw[hx];exact λ_ _ z=>nomatch z)⟩|bl k=>exact .inl ⟨x.v,"bool",U,rfl,by rw[WZ ok hx];exact .bl _,⋯,hU,fin _ (by rw[hx];rfl) (by rw[hx];exact λ_ _ z=>nomatch z)⟩|int k=>exact .inl ⟨x.v,"int",U,rfl,by rw[kX ok hx];exact .int _,⋯,hU,fin _ (by rw[hx];rfl) (by rw[hx];exact λ_ _ z=>nomatch z)⟩|str k=>exact .inl ⟨x.v,"str",U,rfl,by rw[(xQ ok hx).1];exact .str _,⋯,hU,fin _ (by rw[hx];rfl) (by rw[hx];exact λ_ _ z=>nomatch z)⟩
 |lst ds=>
  obtain⟨l,xs,bs,e,q,r,_⟩:=items ok (.inl hx);have f:=fin "list" (by rw[hx];rfl) (by rw[hx];exact λ_ _ z=>nomatch z);rcases q with⟨_,z⟩|⟨z,_⟩
  ·exact .inr (.inr ⟨l,xs,U,by rw[e],z.sq,hU,f⟩)
  ·rw[hx]at z;cases z
 |tup ds=>
  obtain⟨l,xs,bs,e,q,r,_⟩:=items ok (.inr hx);have f:=fin "tuple" (by rw[hx];rfl) (by rw[hx];exact λ_ _ z=>nomatch z);rcases q with⟨z,_⟩|⟨_,z⟩
  ·rw[hx]at z;cases z
  ·exact .inr (.inl ⟨l,xs,U,by rw[e],z,hU,f⟩)
 |dct kvs=>
  rw[show(x.o,x.d).2=x.d from rfl,hx]at hf;cases hf
 |obj c f=>
  rw[show(x.o,x.d).2=x.d from rfl,hx]at hf;cases hf
theorem wwz{U:String}{y:Str}{p2:Pos}(ha:QV X Z q a ea)(hm:X.mg "isinstance"=none)(hmy:X.mg y=none)(hy:bootBuiltins y=some (.type U))(hK:X.K=Z.K)(hU:autoParam (U∈kinds.tail) ŕ)(hg:autoParam (Gl X "isinstance") Ŕ)(hgy:autoParam (Gl X y) Ŕ)(hny:autoParam (y≠"__name__") ŕ)(hdy:autoParam ((y==("__debug__":Str))=false) ŕ)
  (he:autoParam (starEach [ea,.Name y p2] X.env=(false,eval ea X.env)::starEach [.Name y p2] X.env) Ŕ) (he2:autoParam (starEach [.Name y p2] X.env=(false,eval (.Name y p2) X.env)::starEach [] X.env) Ŕ) (bh:autoParam ((backTo pos (starEach [.Name y p2] X.env)).any (·.1)=false) Ŕ):
  QE X Z q (cF1 (pu1 (YK U)) a) (.Call (.Name "isinstance" p) [ea,.Name y p2] [] pos):=
 q9 (kqa (qxx hK) hg hm kv3 (wj ha (wj (vwh (v:=.ty U) hgy hmy hy rfl hny hdy) wJ he2) he) ⋯ ⋯ he bh) fun σ H Q h=>XJ (r:=λv H Q=>vvn Z.K [v,.ty U] H Q) (wvi hU) h
theorem vqx:Ad1 K (λv H Q=>qvd [v] H Q) (pu1 XQ):=by
 intro H x s Q ok hf k;unfold pu1 XQ at hf;dsimp only at hf
 split at hf
 ·rename_i i e;cases oq9 hf;exact .inl ⟨i,by rw[kX ok e],k ⟨.dp,.int _,.int _,[]⟩ H rfl rfl Jk⟩
 ·rename_i i e;cases oq9 hf;exact .inr (.inl ⟨i,by rw[WZ ok e],k ⟨.dp,.int _,.int _,[]⟩ H rfl rfl Jk⟩)
 ·rename_i z e
  split at hf
  ·rename_i hz;cases ht:PySem.intText? z with
   |none=>rw[ht]at hf;cases hf
   |some n=>
    rw[ht]at hf;cases oq9 hf;exact .inr (.inr ⟨z,n,by rw[(xQ ok e).1],ht,hz,k ⟨.dp,.int _,.int _,[]⟩ H rfl rfl Jk⟩)
  ·cases hf
 ·cases hf
theorem kv9:Ad1 K (λv H Q=>qvb K [v] H Q) QX:=by
 intro H x s Q ok hf k;unfold QX at hf;dsimp only at hf
 split at hf
 ·rename_i ds e
  split at hf
  ·rename_i hl;cases oq9 hf;obtain⟨l,xs,bs,ev,q3,r3,h3⟩:=z9 ok (.inl e) hl;have q3:LsR K H l xs:=by rcases q3 with⟨_,z⟩|⟨z,_⟩;exact z;rw[e]at z;cases z
   exact⟨l,xs,by rw[ev],.inl (z7 q3),λp hp=>k ⟨.rt,.lst ds,.ref p,p::bs⟩ _ rfl rfl (KQ hp r3 h3)⟩
  ·cases hf
 ·rename_i ds e
  split at hf
  ·rename_i hl;cases oq9 hf;obtain⟨l,xs,bs,ev,q3,r3,h3⟩:=z9 ok (.inr e) hl;have q3:SqT K H l xs:=by rcases q3 with⟨z,_⟩|⟨_,z⟩;rw[e]at z;cases z;exact z
   exact⟨l,xs,by rw[ev],.inr q3,λp hp=>k ⟨.rt,.lst ds,.ref p,p::bs⟩ _ rfl rfl (KQ hp r3 h3)⟩
  ·cases hf
 ·cases hf
def qj1(K:Frag):List V->Hp->VK->Prop:=λxs H Q=>∃p ys,xs=[.ref p]/\((SqL K H p ys/\∀l,H l=none->Q (.ref l) (upd H l (.tup ys)))\/(SqT K H p ys/\Q (.ref p) H))
theorem qxz(hK:X.K=K):CallR X (.type "tuple") (qj1 K):=by subst hK;exact kv1
theorem vkf:Ad1 K (λv H Q=>qj1 K [v] H Q) K1:=by
 intro H x s Q ok hf k;unfold K1 at hf;dsimp only at hf
 split at hf
 ·rename_i ds e
  split at hf
  ·rename_i hl;cases oq9 hf;obtain⟨l,xs,bs,ev,q3,r3,h3⟩:=z9 ok (.inl e) hl;have q3:LsR K H l xs:=by rcases q3 with⟨_,z⟩|⟨z,_⟩;exact z;rw[e]at z;cases z
   exact⟨l,xs,by rw[ev],.inl ⟨z7 q3,λp hp=>k ⟨.no,.tup ds,.ref p,bs⟩ _ rfl rfl (kj9 hp r3 h3)⟩⟩
  ·cases hf
 ·rename_i ds e
  split at hf
  ·rename_i hl;cases oq9 hf;obtain⟨l,xs,bs,ev,q3,r3,h3⟩:=z9 ok (.inr e) hl;have q3:SqT K H l xs:=by rcases q3 with⟨z,_⟩|⟨_,z⟩;rw[e]at z;cases z;exact z
   refine⟨l,xs,by rw[ev],.inr ⟨q3,k ⟨.no,.tup ds,.ref l,bs⟩ H rfl rfl ⟨ww,?_,λb hb=>(nomatch hb),Xs,λb hb=>h3 b hb⟩⟩⟩;show RepL K H true (.tup ds) (.ref l) bs;unfold RepL;exact⟨l,xs,rfl,q3,r3⟩
  ·cases hf
 ·cases hf
theorem wz2{h:Int->Int->Int}{f:Int->Int->Option Int}(hh:∀i j,f i j=some (h i j)):Ad2 K (λv w H Q=>(λxs H Q=>∃i j,xs=[.int i,.int j]/\Q (.int (h i j)) H:List V->Hp->VK->Prop) [v,w] H Q) (pu2 (i2 f)):=by
 intro H x y s Q ox oy hf k;unfold pu2 i2 at hf;dsimp only at hf
 split at hf
 ·rename_i i j e1 e2;rw[hh]at hf;cases oq9 hf;exact⟨i,j,by rw[kX ox e1,kX oy e2],k ⟨.dp,.int _,.int _,[]⟩ H rfl rfl Jk⟩
 ·cases hf
theorem qz5{g:Bool}:∀{ds:List D} {bs:List Bool} {xs:List V} {as:List Addr},bls ds=some bs->RepA K H g ds xs as->xs=bs.map V.bl
 | [],bs,xs,as,h,r=>by
  cases oq9 h;unfold RepA at r;exact r.1
 | d::ds,bs,xs,as,h,r=>by
  cases d with
  | bl b=>
   unfold bls at h;cases hb:bls ds with
   |none=>rw[hb]at h;cases h
   |some cp=>
    rw[hb]at h;cases oq9 h;unfold RepA at r;obtain⟨x,rr,c1,c2,rfl,rfl,h1,h2⟩:=r;unfold RepL at h1;rw[h1.1,qz5 hb h2];rfl
  |_=>unfold bls at h;cases h
theorem wvk:Ad1 K (λv H Q=>wwq K [v] H Q) (pu1 ww1):=by
 intro H x s Q ok hf k;unfold pu1 ww1 at hf;dsimp only at hf
 split at hf
 ·rename_i ds e;cases hb:bls ds with
  |none=>rw[hb]at hf;cases hf
  |some bs=>
   rw[hb]at hf;cases oq9 hf;obtain⟨l,xs,cs,ev,q3,r3,_⟩:=items ok (.inl e);have q3:LsR K H l xs:=by rcases q3 with⟨_,z⟩|⟨z,_⟩;exact z;rw[e]at z;cases z
   exact⟨l,bs,by rw[ev],by rw[<-qz5 hb r3];exact z7 q3,k ⟨.dp,.bl _,.bl _,[]⟩ H rfl rfl wX⟩
 ·cases hf
theorem W9{g:Int->Int->Bool}:∀x y s,pu2 (c2 g) x y=some s->∃k,s.2=.bl k:=by
 intro x y s h;unfold pu2 c2 at h
 split at h
 ·cases oq9 h;exact⟨_,rfl⟩
 ·cases h
theorem Kz:∀x y s,pu2 fEq x y=some s->∃k,s.2=.bl k:=by
 intro x y s h;unfold pu2 fEq at h
 split at h
 ·cases oq9 h;exact⟨_,rfl⟩
 ·cases h
theorem vz2:∀x y s,pu2 fNe x y=some s->∃k,s.2=.bl k:=by
 intro x y s h;unfold pu2 fNe at h
 split at h
 ·cases oq9 h;exact⟨_,rfl⟩
 ·cases h
theorem vqk{x y d:D}(h:fIn x y=some d):∃k,d=.bl k:=by
 unfold fIn at h
 split at h
 ·split at h
  ·cases oq9 h;exact⟨_,rfl⟩
  ·cases h
 ·split at h
  ·cases oq9 h;exact⟨_,rfl⟩
  ·cases h
 ·split at h
  ·cases oq9 h;exact⟨_,rfl⟩
  ·cases h
 ·cases oq9 h;exact⟨_,rfl⟩
 ·cases h
theorem vz3:∀x y s,pu2 J7 x y=some s->∃k,s.2=.bl k:=by
 intro x y s h;unfold pu2 J7 at h
 split at h
 ·cases h
 ·cases hf:fIn x.2 y.2 with
  |none=>rw[hf]at h;cases h
  |some d=>
   rw[hf]at h;cases oq9 h;exact vqk hf
theorem kv4:∀x y s,pu2 JQ x y=some s->∃k,s.2=.bl k:=by
 intro x y s h;unfold pu2 JQ K8 at h
 split at h
 ·cases h
 ·cases hf:fIn x.2 y.2 with
  |none=>rw[hf]at h;cases h
  |some d=>
   obtain⟨k,rfl⟩:=vqk hf;rw[hf]at h;cases oq9 h;exact⟨_,rfl⟩
theorem XW:∀x y s,f2First fIsNon x y=some s->∃k,s.2=.bl k:=by
 intro x y s h;unfold f2First fIsNon at h
 split at h
 ·cases oq9 h;exact⟨_,rfl⟩
 ·cases h
theorem vz1:∀x y s,f2First fNotNon x y=some s->∃k,s.2=.bl k:=by
 intro x y s h;unfold f2First fNotNon at h
 split at h
 ·cases oq9 h;exact⟨_,rfl⟩
 ·cases h
theorem kkv:∀{xs:List V} {us:List Value},xs.length=us.length->(∀(i:Nat) (x:V) (u:Value),xs[i]?=some x->us[i]?=some u->RelV x u)->Vals xs us
 |[],[],_,_=>.nil|[],_::_,h,_=>by simp at h|_::_,[],h,_=>by simp at h|x::xs,u::us,h,f=>.cons (f 0 x u (by simp) (by simp)) (kkv (by simpa using h) λi x u e1 e2=>f (i+1) x u (by simpa using e1) (by simpa using e2))
theorem vvr{p2 b6:Pos}(ha:QV X Z q a ea)(r9:X.mg "range"=none)(n6:X.mg "list"=none)(hc:autoParam (X.calm=true) Ŕ)(qh:autoParam (Gl X "range") Ŕ)(se:autoParam (Gl X "list") Ŕ)
  (bc:autoParam (starEach [ea] X.env=(false,eval ea X.env)::starEach [] X.env) Ŕ) (bh:autoParam ((backTo b6 (starEach [] X.env)).any (·.1)=false) Ŕ)
  (gi:autoParam (starEach [.Call (.Name "range" p2) [ea] [] b6] X.env=(false,eval (.Call (.Name "range" p2) [ea] [] b6) X.env)::starEach [] X.env) Ŕ) (jr:autoParam ((backTo pos (starEach [] X.env)).any (·.1)=false) Ŕ):
  QE X Z q (VX a) (.Call (.Name "list" p) [.Call (.Name "range" p2) [ea] [] b6] [] pos):=by
 have hr:PE X (.Call (.Name "range" p2) [ea] [] b6) (fun σ H Q=>tV Z q a σ H λv H1=>∃j:Int,v=.int j/\∀pp,H1 pp=none->Q (.ref pp) (upd H1 pp (.rng 0 j))):=by
  intro pins s σ H Q I h;refine Call_ (zq I qh r9 boot_range (Y2 (thn (wj ha wJ bc b6 pins s σ H (λvs H1=>∃j:Int,vs=[.int j]/\∀pp,H1 pp=none->Q (.ref pp) (upd H1 pp (.rng 0 j))) I ?_) λus s1 ⟨vs,H1,I1,r1,j,e,q1⟩=>?_) bc bh))
  ·obtain⟨E,L,r,m,w,i6,xc,k⟩:=h;exact⟨E,L,r,m,w,i6,xc,λE' s' z x L' H' e1 e2 m' w' ok fr sr st sm=>by
    obtain⟨j,ej,qj⟩:=k E' s' z x L' H' e1 e2 m' w' ok fr sr st sm;exact⟨j,by rw[ej],qj⟩⟩
  ·subst e;obtain⟨u,rfl,t,rfl⟩:=r1.one;refine call_range_1 ⟨.ref s1.heap.objs.size,_,I1.laid (o:=.rng 0 j) (λb o e=>X2 _ e) (Xb _) ⟨_,_,_,Xa _ rfl⟩,rfl,q1 _ I1.fresh⟩
 intro pins s σ H Q I ⟨E,L,r,m,w,i6,xc,k⟩;refine Yn (zq I se n6 Ww ?_);refine Y2 (thn (wj hr wJ gi pos pins s σ H (λvs H1=>∃pp j,vs=[.ref pp]/\H1 pp=some (.rng 0 j)/\x9 j=true/\j.toNat<=big/\∀l,H1 l=none->Q (.ref l) (upd H1 l (.lst ((List.range j.toNat).map λ(i:Nat)=>V.int (0+(i:Int)))))) I ?_) λus s1 ⟨vs,H1,I1,r1,pp,j,e,hp,h62,jg,q1⟩=>?_) gi jr
 ·refine v8 m w (show bnd (a E) _=some r from i6) xc λE1 s h1 x L1 H1 e1 e2 m1 w1 ok fr sr st sm=>?_
  cases hx:s.2 with
  | int j=>
   rw [hx]at h1;dsimp only at h1
   split at h1
   ·rename_i hj;cases oq9 h1;refine⟨j,kX ok (e2.trans hx),λpp hpp=>⟨pp,j,rfl,x3,hj.1,hj.2,λl hl=>?_⟩⟩;have s1:jY H1 (upd H1 pp (.rng 0 j)):=wZ hpp;have w2:World Z.K (upd H1 pp (.rng 0 j)) L1:=⟨λx hx=>RepO.kp (w1.ok x hx) (Kp.of_same s1),w1.nd,w1.ds⟩;have bg:Step H L (upd H1 pp (.rng 0 j)) L1:=st.trans ⟨λb ob z _=>s1 b ob z,λb z=>.inl z,λb z=>.inl z⟩;have ra:∀(n:Nat) (ns:List Nat) (Hx:Hp),RepA Z.K Hx true (ns.map λ(i:Nat)=>D.int (0+(i:Int))) (ns.map λ(i:Nat)=>V.int (0+(i:Int))) []:=by
     intro n ns Hx
     induction ns with
     |nil=>unfold RepA;exact⟨rfl,rfl⟩
     |cons i ns ih=>
      rw[List.map_cons,List.map_cons];unfold RepA;exact⟨_,_,[],[],rfl,rfl,wq,ih⟩
    have o:=KQ (K:=Z.K) (H:=upd H1 pp (.rng 0 j)) (fr:=[]) hl (ra 0 (List.range j.toNat) (upd H1 pp (.rng 0 j))) (λ_ z=>(nomatch z));obtain⟨w3,dh⟩:=Q3 w2 bg o (λ_ z=>(nomatch z)) (λ_ z=>(nomatch z)) (λ_ z=>(nomatch z));refine k _ _ rfl ⟨.rt,.lst (k8 0 j),.ref l,[l]⟩ L1 _ rfl rfl m1 (by simpa [k8]using w3) (by simpa [k8]using dh) λhq=>⟨qv (sm hq) (qv s1 o.same),λb hb=>?_⟩
    have:b=l:=by simpa [Sl.own]using hb
    subst this;exact Jw (qv (sm hq) s1) hl
   ·cases h1
  | _=>rw[hx]at h1;cases h1
 ·subst e;obtain⟨u,rfl,rx⟩:=r1.one;cases rx;obtain⟨t1,t2,t3,hg⟩:=(show ObjOk X.prog X.w H1 s1.heap pp (.rng 0 j)from I1.hok pp _ hp);obtain⟨j1,j2⟩:=jxp h62;have e2:Builtin.Range.rangeSize 0 j 1=((j.toNat:Nat):Int):=by rw[rangeSize_one];split<;>omega
  refine call_list_range (n:=j.toNat) (I1.ok.hd hc) (show IsRange s1.heap pp 0 j 1 t1 t2 t3 from hg) (small_one ⋯ ⋯ j1 j2) e2 jg λh' tk df c' kp e4 dq=>?_
  obtain⟨hs,kt⟩:=dq;have hv:Vals ((List.range j.toNat).map λ(i:Nat)=>V.int (0+(i:Int))) df.toList:=kkv (by simp[hs]) λi x u ex eu=>by
   rw[Yr]at eu;obtain⟨t,rfl⟩:=kt i u eu;rw[Xh]at ex;cases hr:(List.range j.toNat)[i]? with
   | none=>rw[hr]at ex;cases ex
   | some m=>
    rw[hr]at ex;have hm:m=i:=by
     obtain⟨_,h2⟩:=List.getElem?_eq_some_iff.mp hr
     simpa using h2.symm
    subst hm;cases oq9 ex;exact⟨t,by rw[Int.mul_one]⟩
  refine⟨.ref s1.heap.objs.size,_,I1.laid (a:=s1.heap.objs.size) (o:=.lst ((List.range j.toNat).map λ(i:Nat)=>V.int (0+(i:Int)))) (t':=tk) kp (Xb _) ⟨by rw[X3,Yc];exact jg,df.toList,c',hv,by simpa using e4⟩,rfl,q1 _ I1.fresh⟩
end
end Q
namespace Q
open PySem
def vvg:Sm:=λ_=>none
def J5(n d:Nat):Option Int->Nat
 |none=>d|some v=>if v<0 then(v+(n:Int)).toNat else min v.toNat n
def z8(xs:List D)(lo hi:Option Int):List D:=(xs.drop (J5 xs.length 0 lo)).take (J5 xs.length xs.length hi - J5 xs.length 0 lo)
noncomputable def fSl:Sd->Option Int->Option Int->Option Sd:=λx lo hi=>match x.2 with
 |.lst xs=>if qw x then some (.rt,.lst (z8 xs lo hi))else none|.tup xs=>if qw x/\¬(J5 xs.length 0 lo=0/\J5 xs.length xs.length hi=xs.length)then some (.no,.tup (z8 xs lo hi))else none|.str z=>if(Txt.slice z lo hi).length<=big then some (.dp,.str (Txt.slice z lo hi))else none|_=>none
def Vx:Option Ex->Ev (Option Int)
 |none,E=>some (.ok E none)
 |some c,E=>bnd (c E) λE x=>match x.2 with
  |.int i=>some (.ok E (some i))|_=>none
def cSl(a:Ex)(lo hi:Option Ex):Ex:=λE=>bnd (a E) λE x=>bnd (Vx lo E) λE l=>bnd (Vx hi E) λE h=>val E (fSl x l h)
def J3:Nat->List D->List D
 |_,[]=>[]|k,d::ds=>.tup [.int k,d]::J3 (k+1) ds
def lstOf:D->Option (List D)
 |.lst xs=>some xs|_=>none
def xK:List D->Option (List Str)
 |[]=>some []|.str z::ds=>(xK ds).map (z :: ·)|_=>none
def K9:List D->Option (List Int)
 |[]=>some []|.int z::ds=>(K9 ds).map (z :: ·)|_=>none
def J8(a:Str):List Str->List Str
 |[]=>[a]|b::r=>if Spec.ltCps b.cps.toList a.cps.toList then b::J8 a r else a::b::r
def x5:List Str->List Str
 |[]=>[]|a::r=>J8 a (x5 r)
def kws:D->D->Option D:=λxs x=>match xs with
 |.lst ys=>if x.flat 30&&D.flats 30 ys then(ys.findIdx? λz=>peq z x).map λ(j:Nat)=>D.int (j:Int)else none|.tup ys=>if x.flat 30&&D.flats 30 ys then(ys.findIdx? λz=>peq z x).map λ(j:Nat)=>D.int (j:Int)else none|_=>none
def isSq:D->Bool
 |.lst _=>true|.tup _=>true|_=>false
def WQ(a b:Ex):Ex:=λE=>bnd (a E) λE x=>if isSq x.2 then bnd (b E) λE y=>val E (pu2 kws x y)else none
noncomputable def wv5(i:Nat)(c:Ex):Ex:=λE=>if Kw E[i]? then bnd (c E) λE x=>match E[i]?,x.2 with
 | some (some (o,.lst xs)),.int k=>if o=.no then none else(match ixN xs.length k with
  |some j=>(match xs[j]? with
   |some d=>if d.pure&&x9 k then some (.ok (E.set i (some (o,.lst (xs.eraseIdx j)))) (.dp,d))else none
   |none=>none)
  |none=>none)
 |_,_=>none
 else none
def kx5(f:Fn)(cs:List Ex):Ex:=λE=>bnd (qW cs E) λE xs=>match f (letAll xs)with
 |some (.ok _ y)=>if y.2.pure then some (.ok E (.dp,y.2))else none|some (.exc _ c)=>some (.exc E c)|none=>none
def xW:Sd->Sd->Option Sd:=λx y=>match x.2,y.2 with
 |.tup a,.int k=>if -(2 ^ 63)<=k/\k<2 ^ 63/\a.length*k.toNat<=big/\qw x then some (.no,.tup (List.replicate k.toNat a).flatten)else none|_,_=>W7 x y
def wxn:D->Bool
 |.tup _=>true|_=>false
def v4(x:D):Bool:=jK 6 x&&wxn x
def V0:D->D->Option D:=λx y=>match y with
 |.dct kvs=>if v4 x=true/\unm kvs=true then some (.bl (!decide (x∈kvs.map (·.1))))else none|_=>none
def Qw(kvs:List (D×D))(k v:D):List (D×D):=if k∈kvs.map (·.1)then kvs.map λe=>if e.1=k then(k,v)else e else kvs++[(k,v)]
def vxa:Option (Option Sd)->Bool
 |some (some (.rt,.dct _))=>true|_=>false
def qzu(i:Nat)(kc vc:Ex):Sm:=λE=>ofE (vc E) λE v=>if vxa E[i]?=true then ofE (kc E) λE k=>match E[i]? with
 |some (some (.rt,.dct kvs))=>if v4 k.2=true/\kvs.length<big/\unm kvs=true then some (.nx (E.set i (some (.rt,.dct (Qw kvs k.2 v.2)))))else none|_=>none
 else none
def vkb(kc vc:Ex):Ex:=λE=>bnd (kc E) λE k=>bnd (vc E) λE v=>if v4 k.2=true then some (.ok E (.rt,.dct [(k.2,v.2)]))else none
def wvt(i:Nat)(kc vc:Ex):Sm:=λE=>ofE (vc E) λE v=>if Kw E[i]?=true then ofE (kc E) λE k=>match E[i]?,k.2 with
 |some (some (o,.lst xs)),.int j=>if o=.no then none else(match ixN xs.length j with
  |some n=>some (.nx (E.set i (some (.rt,.lst (xs.set n v.2)))))
  |none=>none)
 |_,_=>none
 else none
def W1(f:Int->Int->Int)(i:Nat)(c:Ex):Sm:=λE=>match E[i]? with
 |some (some (_,.int a))=>ofE (c E) λE x=>(match x.2 with
  |.int b=>some (.nx (E.set i (some (.dp,.int (f a b)))))
  |_=>none)
 |_=>none
def mkD:D×D:=(.str "",.non)
def Kk(kv:List (Int×Int)):D:=.dct (mkD::kv.map λp=>(.int p.1,.int p.2))
def KW : List (D × D) -> Option (List (Int × Int))
  |[]=>some []|(.int k, .int v)::r=>(KW r).map ((k, v):: ·)|_=>none
def V5:D->Option (List (Int×Int)):=λd=>match d with
 |.dct ((.str _,.non)::kvs)=>KW kvs|_=>none
def jZ(kv:List (Int×Int))(k:Int):Option Int:=(kv.find? λp=>decide (p.1=k)).map (·.2)
def qX(kv:List (Int×Int))(k v:Int):List (Int×Int):=if(kv.any λp=>decide (p.1=k))=true then kv.map (λp=>if p.1=k then(p.1,v)else p)else kv++[(k,v)]
def V9:D->D->Option D:=λx y=>match x,V5 y with
 |.int k,some kv=>some (.bl (jZ kv k).isSome)|_,_=>none
def Zx:D->D->Option D:=λy x=>match x,V5 y with
 |.int k,some kv=>(jZ kv k).map .int|_,_=>none
def wvq(a b:Ex):Ex:=λE=>bnd (a E) λE x=>bnd (b E) λE y=>val E ((Zx x.2 y.2).map λd=>(.dp,d))
def QK:List D->Option (List (Int×Int))
 |[]=>some []|.tup [.int a,.int b]::r=>(QK r).map ((a,b):: ·)|_=>none
def VY:Sd->Option Sd:=λx=>match x.2 with
 |.lst ds=>(match QK ds with
  |some ps=>if ps.length<big then some (.rt,Kk (ps.foldl (λkv p=>qX kv p.1 p.2) []))else none
  |none=>none)
 |_=>none
def YY(z:Str):D->Option D:=λd=>match d with
 |.lst ds=>(match xK ds with
  |some ys=>if(ys.map (·.length)).sum+ys.length*z.length<=100000 then some (.str (Txt.join z ys))else none
  |none=>none)
 |_=>none
def vka(z:Str)(c:Ex):Ex:=λE=>bnd (c E) λE x=>val E ((YY z x.2).map λd=>(.dp,d))
def vv5:D->Option (List D)
 |.tup xs=>some xs|_=>none
def vjs(c:Ex):Ev (List D):=λE=>bnd (c E) λE x=>val E ((vv5 x.2).map (J3 0))
def itV(i:Nat):Ev (List D):=λE=>match E[i]? with
 |some (some (_,.lst ds))=>if D.pures ds=true then some (.ok E ds)else none|_=>none
def VZ(x:Sd):Bool:=vX x||(x.1 == .rt&&(match x.2 with
 |.lst ds=>D.pures ds
 |_=>false))
def Zz(c:Ex):Ex:=λE=>bnd (c E) λE x=>if VZ x=true then some (.ok E (.dp,x.2))else none
def x8(kvs:List (D×D))(k:D):Option D:=(kvs.find? λp=>decide (p.1=k)).map (·.2)
end Q
namespace Q
open PySem PySem.Spec PyProof.Rows L2 L3
section
variable {X:Cx}{Z:Fx0}{K:Frag}{pn:List Nat}{q qa qb:Bool}{a b c:Ex}{u:Ts}{tg e ea eb:Expr}{st:Stmt}{σ:L2.St}{H:Hp}{L:Ls}{E:En}{pos p p2:Pos}{x:Str}
theorem vkw:QS X Z pn vvg st:=λpins s σ H D I ah=>ex7 ah λE L r m w hc k=>by cases hc
theorem kjl(a:Str):∀r,(J8 a r).Perm (a::r)
 |[]=>List.Perm.refl _
 |b::r=>by
  unfold J8
  split
  ·exact((kjl a r).cons b).trans (List.Perm.swap ..)
  ·exact List.Perm.refl _
theorem jw4:∀r,(x5 r).Perm r
 |[]=>List.Perm.refl _|a::r=>(kjl a _).trans ((jw4 r).cons a)
def leS(a b:Str):Prop:=Spec.ltCps b.cps.toList a.cps.toList=false
theorem leS_iff{a b:Str}:leS a b↔a.cps.toList<=b.cps.toList:=by
 unfold leS;rw[ltCps_eq,decide_eq_false_iff_not,List.not_lt]
theorem kwd{a b c:Str}(h:leS a b)(h':leS b c):leS a c:=leS_iff.mpr (List.le_trans (leS_iff.mp h) (leS_iff.mp h'))
theorem vjn{a b:Str}(h:leS a b)(h':leS b a):a=b:=by
 have:=List.le_antisymm (leS_iff.mp h) (leS_iff.mp h');cases a;cases b;simp only at this
 congr 1
 exact Array.toList_inj.mp this
theorem qwp{a b:Str}(h:¬leS a b):leS b a:=by
 rw[leS_iff]at h ⊢;exact List.le_of_lt (List.not_le.mp h)
theorem kvl:∀{a:Str} {r:List Str},risingS a r=true->(a::r).Pairwise leS
 |a,[],_=>by simp
 |a,b::r,h=>by
  have h:(!(Spec.ltCps b.cps.toList a.cps.toList)&&risingS b r)=true:=h;rw[Bool.and_eq_true,Bool.not_eq_true']at h;have ih:=kvl h.2;refine List.pairwise_cons.mpr ⟨λc hc=>?_,ih⟩;rcases aD hc with rfl|hc
  ·exact h.1
  ·exact kwd h.1 ((List.pairwise_cons.mp ih).1 c hc)
theorem qqs{r:List Str}(h:sortedS r=true):r.Pairwise leS:=by
 cases r with|nil=>exact .nil|cons a r=>exact kvl h
theorem qx2{a:Str}:∀{r:List Str},r.Pairwise leS->(J8 a r).Pairwise leS
 | [],_=>by simp[J8]
 | b::r,h=>by
  rw[List.pairwise_cons]at h;unfold J8
  by_cases hl:Spec.ltCps b.cps.toList a.cps.toList=true
  ·rw[X8 hl];refine List.pairwise_cons.mpr ⟨λc hc=>?_,qx2 h.2⟩;rcases aD ((kjl a r).mem_iff.mp hc)with rfl|hc
   ·exact qwp (by unfold leS;rw[hl];exact λz=>nomatch z)
   ·exact h.1 c hc
  ·rw[Xf hl];have iu:leS a b:=by unfold leS;exact Bool.eq_false_iff.mpr hl
   refine List.pairwise_cons.mpr ⟨λc hc=>?_,List.pairwise_cons.mpr h⟩;rcases aD hc with rfl|hc
   ·exact iu
   ·exact kwd iu (h.1 c hc)
theorem kzt:∀{r:List Str},(x5 r).Pairwise leS
 |[]=>.nil|a::r=>qx2 kzt
theorem qzq{r s:List Str}(p:s.Perm r)(h:sortedS s=true):s=x5 r:=
 List.Perm.eq_of_pairwise (λa b _ _ h1 h2=>vjn h1 h2) (qqs h) kzt (p.trans (jw4 r).symm)
theorem kk7{ns:List Str}:∀{us:List Value},Vals (ns.map V.str) us->StrsAre us ns:=by
 induction ns with
 | nil=>intro us r;rw[List.map_nil]at r;cases r;exact .nil
 | cons n ns ih=>
  intro us r;rw[List.map_cons]at r;cases r with
  |cons r1 r2=>
   obtain⟨t,e⟩:=r1;subst e;exact .cons n t (ih r2)
theorem qqa{us:List Value}{ns:List Str}(h:StrsAre us ns):Vals (ns.map V.str) us:=by
 induction h with|nil=>exact .nil|cons y t _ ih=>exact .cons ⟨t,rfl⟩ ih
theorem qqc{us:List Value}{ns:List Int}(h:IntsAre us ns):Vals (ns.map V.int) us:=by
 induction h with|nil=>exact .nil|cons y t _ ih=>exact .cons ⟨t,rfl⟩ ih
theorem jzm{g:Bool}:∀{ds:List D} {bs:List Str} {xs:List V} {as:List Addr},xK ds=some bs->RepA K H g ds xs as->xs=bs.map V.str/\∀z∈bs,z.length<=sizeLine
 | [],bs,xs,as,h,r=>by
  cases oq9 h;unfold RepA at r;exact⟨r.1,λ_ z=>nomatch z⟩
 | d::ds,bs,xs,as,h,r=>by
  cases d with
  | str b=>
   unfold xK at h;cases hb:xK ds with
   |none=>rw[hb]at h;cases h
   |some cp=>
    rw[hb]at h;cases oq9 h;unfold RepA at r;obtain⟨x,rr,c1,c2,rfl,rfl,h1,h2⟩:=r;unfold RepL at h1;obtain⟨i1,i2⟩:=jzm hb h2;exact⟨by rw[h1.1,i1];rfl,λz hz=>(aD hz).elim (λe=>e▸h1.2.2) (i2 z)⟩
  |_=>unfold xK at h;cases h
theorem qjj{g:Bool}:∀{ds:List D} {bs:List Int} {xs:List V} {as:List Addr},K9 ds=some bs->RepA K H g ds xs as->xs=bs.map V.int
 | [],bs,xs,as,h,r=>by
  cases oq9 h;unfold RepA at r;exact r.1
 | d::ds,bs,xs,as,h,r=>by
  cases d with
  | int b=>
   unfold K9 at h;cases hb:K9 ds with
   |none=>rw[hb]at h;cases h
   |some cp=>
    rw[hb]at h;cases oq9 h;unfold RepA at r;obtain⟨x,rr,c1,c2,rfl,rfl,h1,h2⟩:=r;unfold RepL at h1;rw[h1.1,qjj hb h2];rfl
  |_=>unfold K9 at h;cases h
theorem qj0{g:Bool}:∀{bs:List Str},(∀z∈bs,z.length<=sizeLine)->RepA K H g (bs.map D.str) (bs.map V.str) []
 |[],_=>by unfold RepA;exact⟨rfl,rfl⟩
 |b::bs,h=>by
  rw[List.map_cons,List.map_cons];unfold RepA;exact⟨_,_,[],[],rfl,rfl,Wv (h b X6),qj0 λz hz=>h z (lc9 _ hz)⟩
def tPo(Z:Fx0):Option Ex->TO
 |none=>qqk|some c=>vzs (tV Z true c)
theorem QQ:PO X none (tPo Z none):=vwa
theorem K5(h:QV X Z true c e):PO X (some e) (tPo Z (some c)):=vw8 h
theorem qvr{α:Type}{co:Option Ex}{F:En->Option Int->Option (Res α)}{r:Res α}{G:Option Int->Hp->Prop}(m:Mt E σ L)(w:World Z.K H L)(h:bnd (Vx co E) F=some r)(xc:Xc Z σ H L r)
  (k:∀E1 l,F E1 l=some r->∀L1 H1,Mt E1 σ L1->World Z.K H1 L1->Step H L H1 L1->jY H H1->G l H1):tPo Z co σ H G:=by
 cases co with
 | none=>exact k E none h L H m w Step.refl ww
 | some c=>
  have h:bnd (bnd (c E) λE x=>match x.2 with|.int i=>some (.ok E (some i))|_=>none) F=some r:=h;have h':bnd (c E) (λE x=>bnd (match x.2 with|.int i=>some (.ok E (some i))|_=>none) F)=some r:=by
   cases hc:c E with|none=>rw[hc]at h;exact h|some y=>rw[hc]at h;cases y<;>exact h
  show tV Z true c σ H λx H1=>∃i,x=.int i/\G (some i) H1
  refine v8 m w h' xc λE1 s h1 x L1 H1 e1 e2 m1 w1 ok fr sr st sm=>?_
  cases hs:s.2 with
  |int i=>
   rw[hs]at h1;exact⟨i,kX ok (e2.trans hs),k E1 (some i) h1 L1 H1 m1 w1 st (sm rfl)⟩
  |_=>rw[hs]at h1;cases h1
theorem kzy(n d:Nat)(v:Option Int):HT.sIx n d v=J5 n d v:=by
 cases v<;>rfl
theorem RepA.drop{K:Frag}{H:Hp}{g:Bool}:∀(n:Nat) {ds:List D} {xs:List V} {as:List Addr},RepA K H g ds xs as->∃bs,RepA K H g (ds.drop n) (xs.drop n) bs/\∀b∈bs,b∈as
 |0,ds,xs,as,h=>⟨as,h,λ_ h=>h⟩
 |n+1,[],xs,as,h=>by
  unfold RepA at h;obtain⟨rfl,rfl⟩:=h;exact⟨[],by simp only[List.drop_nil];unfold RepA;exact⟨rfl,rfl⟩,λ_ h=>h⟩
 |n+1,d::ds,xs,as,h=>by
  unfold RepA at h;obtain⟨x,r,bs,cs,rfl,rfl,h1,h2⟩:=h;obtain⟨es,r2,hb⟩:=RepA.drop n h2;exact⟨es,r2,λb h=>lr9 _ (hb b h)⟩
theorem RepA.take{K:Frag}{H:Hp}{g:Bool}:∀(n:Nat) {ds:List D} {xs:List V} {as:List Addr},RepA K H g ds xs as->∃bs,RepA K H g (ds.take n) (xs.take n) bs/\∀b∈bs,b∈as
 |0,ds,xs,as,h=>⟨[],by simp only[List.take_zero];unfold RepA;exact⟨rfl,rfl⟩,λ_ h=>nomatch h⟩
 |n+1,[],xs,as,h=>by
  unfold RepA at h;obtain⟨rfl,rfl⟩:=h;exact⟨[],by simp only[List.take_nil];unfold RepA;exact⟨rfl,rfl⟩,λ_ h=>h⟩
 |n+1,d::ds,xs,as,h=>by
  unfold RepA at h;obtain⟨x,r,bs,cs,rfl,rfl,h1,h2⟩:=h;obtain⟨es,r2,hb⟩:=RepA.take n h2;refine⟨bs++es,?_,λb h=>(aA h).elim (λz=>ll9 _ z) λz=>lr9 _ (hb b z)⟩;rw[List.take_succ_cons,List.take_succ_cons];unfold RepA;exact⟨x,r.take n,bs,es,rfl,rfl,h1,r2⟩
theorem RepA.cut{K:Frag}{H:Hp}{g:Bool}{ds:List D}{xs:List V}{as:List Addr}(h:RepA K H g ds xs as)(lo hi:Option Int):∃bs,RepA K H g (z8 ds lo hi) (Q9 xs lo hi) bs/\∀b∈bs,b∈as:=by
 have hl:=h.len;unfold z8 Q9;rw[kzy,kzy,<-hl];obtain⟨bs,r,hb⟩:=h.drop (J5 ds.length 0 lo);obtain⟨cs,r2,hc⟩:=r.take (J5 ds.length ds.length hi - J5 ds.length 0 lo);exact⟨cs,r2,λb h=>hb b (hc b h)⟩
theorem vvb{x:Sl}{s:Sd}{lo hi:Option Int}{Q:VK}(ok:x.ok K H)(hf:fSl (x.o,x.d) lo hi=some s)(k:∀(z:Sl) H',z.o=s.1->z.d=s.2->Out K H H' z x.frz->Q z.v H'):vkr K x.v lo hi H Q:=by
 unfold fSl at hf;dsimp only at hf;cases hx:x.d with
 | lst ds=>
  rw[hx]at hf;dsimp only at hf
  split at hf
  ·rename_i hl;cases oq9 hf;obtain⟨l,xs,bs,ev,q3,r3,h3⟩:=z9 ok (.inl hx) (by rw[hx];exact hl);have q3:LsR K H l xs:=by rcases q3 with⟨_,z⟩|⟨z,_⟩;exact z;rw[hx]at z;cases z
   obtain⟨cs,r4,h4⟩:=r3.cut lo hi;exact .inl ⟨l,xs,ev,z7 q3,λp hp=>k ⟨.rt,.lst _,.ref p,p::cs⟩ _ rfl rfl (KQ hp r4 λb hb=>h3 b (h4 b hb))⟩
  ·cases hf
 | tup ds=>
  rw[hx]at hf;dsimp only at hf
  split at hf
  ·rename_i hl;cases oq9 hf;obtain⟨l,xs,bs,ev,q3,r3,h3⟩:=z9 ok (.inr hx) (by rw[hx];exact hl.1);have q3:SqT K H l xs:=by rcases q3 with⟨z,_⟩|⟨_,z⟩;rw[hx]at z;cases z;exact z
   obtain⟨cs,r4,h4⟩:=r3.cut lo hi;refine .inr (.inl ⟨l,xs,ev,q3,?_,λp hp=>k ⟨.no,.tup _,.ref p,cs⟩ _ rfl rfl (kj9 hp r4 λb hb=>h3 b (h4 b hb))⟩);rw[kzy,kzy,<-r3.len];exact hl.2
  ·cases hf
 | str z=>
  rw[hx]at hf;dsimp only at hf
  split at hf
  ·rename_i hl;cases oq9 hf;obtain⟨e,hz⟩:=xQ ok hx;exact .inr (.inr ⟨z,e,hz,k ⟨.dp,.str _,.str _,[]⟩ H rfl rfl (wxa hl)⟩)
  ·cases hf
 |_=>rw[hx]at hf;cases hf
theorem Q0{lo hi:Option Ex}{elo ehi:Option Expr}(ha:QV X Z q a ea)(hl:PO X elo (tPo Z lo))(hh:PO X ehi (tPo Z hi))(hK:autoParam (X.K=Z.K) Ŕ):QE X Z q (cSl a lo hi) (.Subscript ea (.Slice elo ehi none p2) pos):=
 q9 (vja (wwi Z.K hK) ha hl hh) fun σ H Q ah=>ex8 ah λE L r m w hc xc k=>by
  refine v8 m w (show bnd (a E) _=some r from hc) xc λE1 s h1 x L1 H1 e1 e2 m1 w1 ok fr sr st sm=>?_
  refine qvr m1 w1 h1 (xc.step st) λE2 l h2 L2 H2 m2 w2 bg dg=>?_
  refine qvr m2 w2 h2 (xc.step (st.trans bg)) λE3 u h3 L3 H3 m3 w3 dh sm3=>?_
  obtain⟨z,hz,rfl⟩:=zw h3;have k1:=Q4 ok fr bg dg;have k2:=Q4 k1.1 k1.2 dh sm3;refine vvb k2.1 (by rw[e1,e2];exact hz) λy H' ho hd o=>?_
  obtain⟨w4,i8⟩:=Q3 w3 ((st.trans bg).trans dh) o k2.2 (λb hb=>k2.1.some (Sl.frz_as hb)) (jx3 sr λb hb=>Sl.frz_as hb);have ia:q=true->jY H H3:=λhq=>qv (sm hq) (qv dg sm3)
  exact k _ _ rfl y L3 H' ho hd m3 w4 i8 λhq=>⟨qv (ia hq) o.same,λb hb=>Jw (ia hq) (o.new b hb)⟩
def tAV(Z:Fx0)(cs:List Ex):TA:=fun σ H Q=>∃E L r,Mt E σ L/\World Z.K H L/\qW cs E=some r/\Xc Z σ H L r /\
 ∀E' ys,r=.ok E' ys->∀(xs:List Sl) L' H',xs.map Sl.sd=ys->Mt E' σ L'->World Z.K H' L'->(∀x∈xs,x.ok Z.K H')->Step H L H' L'->jY H H'->Q (xs.map Sl.v) H'
def QAV(X:Cx)(Z:Fx0)(cs:List Ex)(es:List Expr):Prop:=PA X es (tAV Z cs)
theorem wx1:QAV X Z [] []:=qj6 wJ fun σ H Q ah=>ex8 ah λE L r m w hc xc k=>by
 cases oq9 hc;exact k _ _ rfl [] L H rfl m w (λ_ z=>nomatch z) Step.refl ww
theorem wjt{cs:List Ex}{es:List Expr}(h:QV X Z true c e)(hs:QAV X Z cs es)(bc:autoParam (starEach (e::es) X.env=(false,eval e X.env)::starEach es X.env) Ŕ):QAV X Z (c::cs) (e::es):=
 qj6 (wj h hs bc) fun σ H Q ah=>ex8 ah λE L r m w hc xc k=>by
  refine v8 m w (show bnd (c E) _=some r from hc) xc λE1 s h1 x L1 H1 e1 e2 m1 w1 ok fr sr st sm=>?_
  rcases x4 h1 with⟨E2,ys,h2,h3⟩|⟨E2,cc,h2,h3⟩
  ·cases oq9 h3;refine⟨E1,L1,_,m1,w1,h2,(λ_ _ z=>by cases z),λE' ys' z xs L2 H2 e3 m2 w2 fz bg dg=>?_⟩;injection z with z1 z2;subst z1 z2;refine k _ _ rfl (x::xs) L2 H2 (by rw[List.map_cons,e3];simp[Sl.sd,e1,e2]) m2 w2 (λy hy=>?_) (st.trans bg) (qv (sm rfl) dg);rcases aD hy with rfl|hy
   ·exact(Q4 ok fr bg dg).1
   ·exact fz y hy
  ·exact⟨E1,L1,_,m1,w1,h2,(xc.step st).map h3,λE' s' z=>by cases z⟩
theorem vvu{k n:Nat}{ps:List Str}{f:Fn}{cs:List Ex}{es:List Expr}(D:kK X.prog X.w X.K X.mg X.base k x ps (spF Z.K Z.mg n f))(hr:Room k X.A)(g:wY X Z.EX)(ha:QAV X Z cs (e::es))(hn:autoParam (cs.length=n) Ŕ)(hg:autoParam (Gl X x) Ŕ)(dn:autoParam ((x==("__debug__":Str))=false) ŕ)
  (he:autoParam (starEach (e::es) X.env=(false,eval e X.env)::starEach es X.env) Ŕ) (bh:autoParam ((backTo pos (starEach es X.env)).any (·.1)=false) Ŕ):
  QE X Z true (kx5 f cs) (.Call (.Name x p) (e::es) [] pos):=q9 (vq9 D hr g ha hg dn he bh) fun σ H Q ah=>ex8 ah λE L r m w hc xc kk=>by
 have hc:bnd (qW cs E) _=some r:=hc;rcases x4 hc with⟨E1,ys,h1,h2⟩|⟨E1,cc,h1,h2⟩
 rotate_left
 ·exact⟨E,L,_,m,w,h1,xc.map h2,λE' s' z=>by cases z⟩
 refine⟨E,L,_,m,w,h1,(λ_ _ z=>by cases z),λE' ys' z xs L1 H1 e1 m1 w1 ok1 st sm=>?_⟩;injection z with z1 z2;subst z1 z2;rw [Y7];have ab:xs.length=n:=by rw[<-hn,<-kjr h1,<-e1,X3]
 cases hf:f (letAll ys)with
 | none=>rw[hf]at h2;cases h2
 | some fr=>
  rw[hf]at h2;have ev:xs.map Sl.v=(xs.map Sl.let).map Sl.v:=by rw[Xm];rfl
  have wl:World Z.K H1 ((xs.map Sl.let).map some):=by
   refine⟨λy hy=>?_,by rw[JK];exact Xs,λa ha=>by rw[JK]at ha;exact nomatch ha⟩;obtain⟨y',hy',e⟩:=aE hy;cases e;obtain⟨t,ht,rfl⟩:=aE hy';exact Qv (ok1 t ht)
  rw[ev];refine⟨xs.map Sl.let,fr,rfl,by rw[X3];exact ab,wl,by rw[<-e1]at hf;rw[qwl];exact hf,λE' c ee C H' hm s'=>?_,λE' a ee y H' e2 e3 w' s'=>?_⟩
  ·subst ee;cases oq9 h2;have iz:jY H1 H':=λb ob hb=>s'.keep b ob hb λz=>by rw[JK]at z;exact nomatch z
   exact xc _ _ rfl C L1 H' hm m1 ⟨λy hy=>RepO.kp (w1.ok y hy) (Kp.of_same iz),w1.nd,w1.ds⟩ (st.trans ⟨λb ob hb _=>iz b ob hb,λ_ h=>.inl h,λ_ h=>.inl h⟩)
  ·subst ee;dsimp only at h2
   split at h2
   ·rename_i hp;cases oq9 h2;have iz:jY H1 H':=λb ob hb=>s'.keep b ob hb λz=>by rw[JK]at z;exact nomatch z
    have w2:World Z.K H' L1:=⟨λy hy=>RepO.kp (w1.ok y hy) (Kp.of_same iz),w1.nd,w1.ds⟩;obtain⟨z,rp⟩:=RepL.pu (g':=false) (RepO.wk (w'.ok y X6)) (by rw[e3];exact hp);have bg:Step H L H' L1:=st.trans ⟨λb ob hb _=>iz b ob hb,λ_ h=>.inl h,λ_ h=>.inl h⟩;exact kk _ _ rfl ⟨.dp,y.d,y.v,[]⟩ L1 H' rfl e3 m1 (w2.consPu rp rfl) (K2 (x:=⟨.dp,y.d,y.v,[]⟩) bg (λb hb=>nomatch hb) rfl) λ_=>⟨qv sm iz,λ_ z=>(nomatch z)⟩
   ·cases h2
end
theorem vzq{prog:Program}{w:PySem.World}{A:Around}{E:VP9}{s:Shared}{t:Addr}{items:Array Value}{x:Value}{e:Value->Bool}{j:Nat}{Q:VP9}
  (ht:IsTup s.heap t items) (he:∀y∈items,SeqAt.EqAt A.in1 s y x (e y)) (hj:j<items.size) (h1:e items[j]=true) (h2:∀m (hm:m<items.size),m<j->e items[m]=false)
  (h:Q (.int j s.toks) { s with toks:=s.toks+1 }):wpAny (model prog w) A (call (.builtin "tuple.index") [.ref t,x]) Q E s:=by
 refine Y5 PySem.F.slot_tuple_index ht.typeIs PySem.F.entry_tuple_index ?_ (PySem.F.args_tuple_index_2 _ _);show wpAny _ _ (Builtin.Tuple.tupleItemsOf (.ref t) >>= _) _ _ s;refine X0 (tupleItemsOf_ ht ?_);dsimp only;refine X0 (X5 ?_);refine X0 (X5 ?_);rw[Std.Legacy.Range.forIn_eq_forIn_range'];refine X0 (wpAny_forIn_list _ (λa9 b s'=>b=(none,())/\s'=s/\∃k,k<=j/\a9=List.range' k (items.size - k)) _ ?_ ?_ _ _ ⟨rfl,rfl,0,Yd _,?_⟩)
 ·rintro i a9 b s' ⟨rfl,rfl,k,hk,hr⟩;obtain⟨n,hn⟩:∃n,items.size - k=n+1:=⟨items.size - k - 1,⋯⟩;rw[hn,List.range'_succ]at hr;injection hr with hi ly;subst hi;have hi:i<items.size:=⋯
  rw[show items[i]?=some items[i]from Yz hi];dsimp only;refine X0 (he items[i] (Array.getElem_mem hi) _ _ _ _ ?_)
  by_cases jc:i=j
  ·subst jc;rw[h1,X8 rfl];unfold retInt;refine X0 (X0 (wpAny_mkInt (X5 (X5 ?_))));exact X5 ⟨_,rfl,h⟩
  ·rw[h2 i hi ⋯,Xf ⋯];refine X5 ⟨rfl,rfl,i+1,⋯,?_⟩;rw[ly]
   congr 1
   omega
 ·rintro b s' ⟨rfl,rfl,k,hk,hr⟩;have:items.size - k=0:=by
   have:=congrArg List.length hr
   simpa using this.symm
  omega
 ·simp
theorem wwj{prog:Program}{w:PySem.World}{A:Around}{E:VP9}{s:Shared}{l:Addr}{items:Array Value}{k:Int}{t:Tok}{Q:VP9}
  (ht:IsTup s.heap l items) (h:Q .notImplemented s):wpAny (model prog w) A (call (.builtin "int.__rmul__") [.int k t,.ref l]) Q E s:=by
 refine Y5 PySem.F.slot_int_rmul (typeIs_int s k t) PySem.F.entry_int_rmul ?_ (PySem.F.args_int_rmul_2 _ _);obtain⟨o,e,c,n,hd⟩:=ht;show wpAny _ _ (asInt? (.ref l) >>= _) _ _ s;unfold asInt?;refine X0 (X0 (wpAny_load e ?_));rw[hd];refine X5 ?_;dsimp only;refine X0 (Zp ?_);exact X5 ⟨_,rfl,h⟩
theorem mulT{prog:Program}{w:PySem.World}{A:Around}{E:VP9}{s:Shared}{l:Addr}{items:Array Value}{k:Int}{t:Tok}{Q:VP9}
  (ht:IsTup s.heap l items) (h1:-(2 ^ 63)<=k) (h2:k<2 ^ 63) (hz:items.size*k.toNat<=sizeLine)
  (so:(items.isEmpty=true\/k=1)->Q (.ref l) s)
  (hsz:(List.foldl (λx1 x2=>x1++x2) #[] (List.replicate k.toNat items)).size<=sizeLine)
  (de:Q (.ref s.heap.objs.size) { s with heap:=s.heap.push { cls:=.type "tuple",data:=.seq (List.foldl (λx1 x2=>x1++x2) #[] (List.replicate k.toNat items)) } })
  : wpAny (model prog w) A (call (.builtin "tuple.__mul__") [.ref l,.int k t]) Q E s:=by
 refine Y5 PySem.F.slot_tuple_mul ht.typeIs PySem.F.entry_tuple_mul ?_ (PySem.F.args_tuple_mul_2 _ _);show wpAny _ _ (if(decide (k < -2 ^ 63)||decide (k>=2 ^ 63))=true then _ else _) _ _ s;rw [Xf (by simp;omega)];show wpAny _ _ (Builtin.Tuple.tupleItemsOf (.ref l) >>= _) _ _ s;refine X0 (tupleItemsOf_ ht ?_)
 by_cases hs:(items.isEmpty||k==1)=true
 ·rw[X8 hs];unfold Builtin.Tuple.tupleIsExact;refine X0 (X0 (wpAny_typeOf ht.typeIs (X5 ?_)));rw[X8 ⋯];refine X0 (Zp ?_);refine X5 ⟨_,rfl,so ?_⟩
  simpa using hs
 ·rw[Xf hs];have b8:items.isEmpty=false:=by
   cases h:items.isEmpty<;>simp_all
  have hm:((items.size:Int)*k)<=(sizeLine:Int)\/k<=0:=by
   by_cases hk:k<=0
   ·exact .inr hk
   ·refine .inl ?_;have e:((k.toNat:Nat):Int)=k:=Int.toNat_of_nonneg ⋯;have:((items.size*k.toNat:Nat):Int)<=(sizeLine:Int):=Int.ofNat_le.mpr hz;rw[Int.natCast_mul,e]at this;exact this
  dsimp only
  by_cases hk:k<=0
  ·rw[X8 (by simp[hk])];have e:k.toNat=0:=⋯
   rw[e]at de;unfold Builtin.Tuple.tupleExact;exact X0 (Xz (X5 ⟨_,rfl,de⟩) (show(0:Nat)<=sizeLine from Yd _))
  ·rw[Xf (by simp[hk,b8])];have hm:=hm.resolve_right hk;have gw:(sizeLine:Int)=16777216:=⋯
   rw[Xf ⋯];rw[Xf (by unfold Builtin.Tuple.tupleTooMany;simp;omega)];unfold Builtin.Tuple.tupleExact;exact X0 (Xz (X5 ⟨_,rfl,de⟩) hsz)
section
variable {X:Cx}{Z:Fx0}{K:Frag}{pn:List Nat}{q qa qb:Bool}{a b c:Ex}{u:Ts}{tg e ea eb:Expr}{st:Stmt}{σ:L2.St}{H:Hp}{L:Ls}{E:En}{pos p p2:Pos}{x:Str}
def wjb(K:Frag):R2:=λx y H Q=>∃l k xs,x=.ref l/\y=.int k/\SqT K H l xs/\-(2 ^ 63)<=k/\k<2 ^ 63/\xs.length*k.toNat<=sizeLine/\((xs=[]\/k=1)->Q (.ref l) H)/\∀p,H p=none->Q (.ref p) (upd H p (.tup (List.replicate k.toNat xs).flatten))
theorem op_repT:OpR X (binaryOp .Mult) (wjb X.K):=by
 intro pins s σ H x y v u Q I rx ry h;obtain⟨l,k,xs,rfl,rfl,hq,h1,h2,hz,q1,q2⟩:=h;cases rx;obtain⟨t,rfl⟩:=ry;obtain⟨a8,r,ht,hl⟩:=I.tuple hq;have ab:=r.length;have f0:List.foldl (λx1 x2=>x1++x2) #[] (List.replicate k.toNat a8.toArray)=(List.replicate k.toNat a8).flatten.toArray:=by
  have:=kjn a8 k.toNat [];rw[List.nil_append]at this;exact this
 have hz2:(List.replicate k.toNat xs).flatten.length<=sizeLine:=by rw[qwn,Nat.mul_comm];exact hz
 refine wpAny_binaryOp_repeat_ref (T:="tuple") (U:="int") ⋯ ht.typeIs (λs'=>typeIs_int s' k t) rfl F.fills_int_mul F.slot_int_rmul (show seqRepeat? (Value.type "tuple")=pure (some (Value.builtin "tuple.__mul__"))from rfl) F.slot_int_index.lookup
  (wwj ht ⟨rfl,ht.typeIs,mulT ht h1 h2 (by rw[X7,<-ab];exact hz) (λhs=>?_) ?_ ?_⟩)
 ·refine⟨.ref l,H,I,rfl,q1 ?_⟩;rcases hs with hs|hs
  ·left;have:a8=[]:=by simpa using hs
   subst this
   simpa using ab
  ·exact .inr hs
 ·rw[f0,X7,<-(r.rep k.toNat).length];exact hz2
 ·rw[f0];exact⟨.ref _,_,I.laid (t':=s.toks) (o:=.tup _) (λb o e=>X2 _ e) (Xb _) ⟨hz2,_,r.rep k.toNat,IsTupD.new _ _⟩,rfl,q2 _ (I.hok.fresh (Xb _))⟩
def wje(K:Frag):R2:=λx y H Q=>wjb K x y H Q\/vvm K x y H Q
theorem wko(hK:autoParam (X.K=K) Ŕ):OpR X (binaryOp .Mult) (wje K):=by subst hK;exact op_repT.or wkp
theorem vz5:Ad2 K (wje K) xW:=by
 intro H x y s Q ox oy hf k;cases hx:x.d with
 | tup ds=>
  cases hy:y.d with
  | int n=>
   unfold xW at hf;rw [show(x.o,x.d).2=x.d from rfl,show(y.o,y.d).2=y.d from rfl,hx,hy]at hf;dsimp only at hf
   split at hf
   ·rename_i hc;cases oq9 hf;obtain⟨l,xs,bs,e3,q3,r3,h3⟩:=z9 ox (.inr hx) (by rw[hx];exact hc.2.2.2);have q3:SqT K H l xs:=by rcases q3 with⟨z,_⟩|⟨_,z⟩;rw[hx]at z;cases z;exact z
    obtain⟨cs,r4,h4⟩:=r3.reps n.toNat;refine .inl ⟨l,n,xs,e3,kX oy hy,q3,hc.1,hc.2.1,by rw[<-r3.len];exact hc.2.2.1,λhs=>?_,λp hp=>?_⟩
    ·refine k ⟨.no,.tup _,.ref l,cs⟩ H rfl rfl ⟨ww,?_,λb hb=>(nomatch hb),Xs,λb hb=>ll9 _ (h3 b (h4 b hb))⟩;show RepL K H true (.tup _) (.ref l) cs;unfold RepL;refine⟨l,xs,rfl,q3,?_⟩;have e:(List.replicate n.toNat xs).flatten=xs:=by
      rcases hs with hs|hs
      ·subst hs;simp
      ·subst hs;simp
     rw[e]at r4;exact r4
    ·exact k ⟨.no,.tup _,.ref p,cs⟩ _ rfl rfl (kj9 hp r4 λb hb=>ll9 _ (h3 b (h4 b hb)))
   ·cases hf
  |_=>
   refine .inr (vqw H x y s Q ox oy ?_ k);unfold xW at hf;rw[show(x.o,x.d).2=x.d from rfl,show(y.o,y.d).2=y.d from rfl,hx,hy]at hf;rw[hx,hy];exact hf
 |_=>
  refine .inr (vqw H x y s Q ox oy ?_ k);unfold xW at hf;rw[show(x.o,x.d).2=x.d from rfl,hx]at hf;rw[hx];exact hf
theorem qwh{h:Heap}:∀{ds:List D} {us:List Value},CReps h ds us->us.map (dec h)=ds
 |[],_,r=>by unfold CReps at r;rw[r];rfl
 |z::ds,_,r=>by
  unfold CReps at r;obtain⟨u,rr,rfl,h1,h2⟩:=r;rw[List.map_cons,kx2 h1,qwh h2]
def wwp(K:Frag)(C:Hp->List V->Prop):List V->Hp->VK->Prop:=λvs H Q=>∃v d ds as bs xs j,vs=[v]/\RepL K H true d v as/\C H xs/\RepA K H true ds xs bs/\d.flat 30=true/\D.flats 30 ds=true/\(ds.findIdx? λz=>peq z d)=some j/\Q (.int j) H
theorem vjb{o:Expr}{to:TE}{t:TA}{bb ai:Pos}(hu:X.A.units+64<cLine)(ho:PE X o to)(ha:PA X [e] t)
  (ce:autoParam (attributeBase o "index" X.env (eval o X.env)=eval o X.env) Ŕ)
  (dy:autoParam (((backTo ai (starEach [e] X.env)).all (λx=>!x.1)&&(backToKw ai (keywordEach [] X.env)).all (λx=>x.1.isSome)
   && decide ([e].length+([]:List Keyword).length+(if([]:List Keyword).isEmpty then 0 else 1)<30))=true) Ŕ)
  (ck:autoParam ((bb.endLine==ai.line)=true) Ŕ) (hs:autoParam (starEach [e] X.env=(false,eval e X.env)::starEach [] X.env) Ŕ) (bd:autoParam ((backTo ai (starEach [] X.env)).any (·.1)=false) Ŕ):
  PE X (.Call (.Attribute o "index" bb) [e] [] ai) (fun σ H Q=>to σ H λx H1=>(∃p xs,x=.ref p/\LsR X.K H1 p xs/\t σ H1 λvs H2=>wwp X.K (λH xs=>LsR X.K H p xs) vs H2 Q)\/∃p xs,x=.ref p/\SqT X.K H1 p xs/\t σ H1 λvs H2=>wwp X.K (λH xs=>SqT X.K H p xs) vs H2 Q):=by
 intro pins s σ H Q I h;refine wpAny_Call_method_late ce dy ck rfl (thn (ho pins s σ H _ I h) λv s1 ⟨x,H1,I1,r1,qq⟩=>?_);have eqs:∀{s2:Shared} {H2:Hp} {d:D} {v:V} {as:List Addr} {w:Value} {us:List Value} {ds:List D},L2.Inv X pins σ H2 s2->RepL X.K H2 true d v as->RelV v w->d.flat 30=true->D.flats 30 ds=true->CReps s2.heap ds us->∀y∈us.toArray,SeqAt.EqAt X.A.in1 s2 y w (peq (dec s2.heap y) d):=fun {s2 H2 d v as w us ds} I2 rd rw f1 f2 cr y hy=>by
  have c1:=Qz I2 rd f1 rw;obtain⟨d',hd,c⟩:=jzt cr (by simpa using hy);rw[kx2 c];exact Vv 30 (jxc f2 hd) c c1 (by have:=L3.in1_units X.A;omega)
 have idx:∀{h:Heap} {ds:List D} {us:List Value} {d:D} {j:Nat},CReps h ds us->(ds.findIdx? λz=>peq z d)=some j->∃hj:j<us.toArray.size,peq (dec h us.toArray[j]) d=true/\∀m (hm:m<us.toArray.size),m<j->peq (dec h us.toArray[m]) d=false:=fun {h ds us d j} cr hf=>by
  have e:=qwh cr;subst e;rw[List.findIdx?_eq_some_iff_getElem]at hf;obtain⟨hj,h1,h2⟩:=hf;have hj':j<us.length:=by simpa using hj
  refine⟨by simpa using hj',by simpa using h1,λm hm hmj=>?_⟩;have:=h2 m hmj
  simpa using this
 rcases qq with⟨pp,zs,rfl,ty,q1⟩|⟨pp,zs,rfl,ty,q1⟩
 ·cases r1;have hA:=ha ai pins s1 σ H1 _ I1 q1;rw[hs]at hA ⊢;obtain⟨z,a8,n,r,e0⟩:=ty.is I1;refine⟨"list","list.index",F.plainAttrs_list,F.slot_list_index,F.type_list_index,⟨_,e0,rfl⟩,λa e2=>?_,?_⟩
  ·cases e2;exact⟨_,e0,rfl⟩
  refine Calls.callWith_builtin (by show(false||(backTo ai (starEach [] X.env)).any (·.1))=false;rw[bd]<;>rfl) (Calls.evalArgs_plain ?_);refine thn hA λus s2 ⟨vs,H2,I2,r2,d2⟩=>?_
  obtain⟨v,d,ds,as,bs,xs,j,rfl,rd,hq,ra,f1,f2,hf,q2⟩:=d2;obtain⟨w,rfl,rw1⟩:=r2.one;obtain⟨z2,fc,n2,r3,e3⟩:=hq.is I2;have cr:=creps_of I2 ra f2 r3;obtain⟨hj,h1,h2⟩:=idx cr hf;have hsz:fc.toArray.size<=16777216:=by rw[X7,<-r3.length];exact z2
  exact call_meets F.slot_list_index ⟨_,e3,rfl⟩ F.entry_list_index (F.args_list_index_2 _ _) (SeqAt.list_indexAt pp fc.toArray n2 none #[] w (λy=>peq (dec s2.heap y) d) j hj ⋯ h1 h2) ⟨e3,eqs I2 rd rw1 f1 f2 cr,.int _,H2,I2.tok _,⟨_,rfl⟩,q2⟩
 ·cases r1;have hA:=ha ai pins s1 σ H1 _ I1 q1;rw[hs]at hA ⊢;obtain⟨a8,r,ht,hz⟩:=I1.tuple ty;have pi:=I1.tupleD ty;refine⟨"tuple","tuple.index",F.plainAttrs_tuple,F.slot_tuple_index,F.type_tuple_index,ht.typeIs,λa e2=>?_,?_⟩
  ·cases e2;exact pi
  refine Calls.callWith_builtin (by show(false||(backTo ai (starEach [] X.env)).any (·.1))=false;rw[bd]<;>rfl) (Calls.evalArgs_plain ?_);refine thn hA λus s2 ⟨vs,H2,I2,r2,d2⟩=>?_
  obtain⟨v,d,ds,as,bs,xs,j,rfl,rd,hq,ra,f1,f2,hf,q2⟩:=d2;obtain⟨w,rfl,rw1⟩:=r2.one;obtain⟨fc,r3,ht2,hz2⟩:=I2.tuple hq;have cr:=creps_of I2 ra f2 r3;obtain⟨hj,h1,h2⟩:=idx cr hf;exact vzq (e:=λy=>peq (dec s2.heap y) d) ht2 (eqs I2 rd rw1 f1 f2 cr) hj h1 h2 ⟨.int _,H2,I2.tok _,⟨_,rfl⟩,q2⟩
theorem kxu{bb ai:Pos}(hu:X.A.units+64<cLine)(ha:QV X Z q a ea)(hb:QV X Z true b eb)(hK:autoParam (X.K=Z.K) Ŕ)
  (ce:autoParam (attributeBase ea "index" X.env (eval ea X.env)=eval ea X.env) Ŕ)
  (dy:autoParam (((backTo ai (starEach [eb] X.env)).all (λx=>!x.1)&&(backToKw ai (keywordEach [] X.env)).all (λx=>x.1.isSome)
   && decide ([eb].length+([]:List Keyword).length+(if([]:List Keyword).isEmpty then 0 else 1)<30))=true) Ŕ)
  (ck:autoParam ((bb.endLine==ai.line)=true) Ŕ) (hs:autoParam (starEach [eb] X.env=(false,eval eb X.env)::starEach [] X.env) Ŕ) (bd:autoParam ((backTo ai (starEach [] X.env)).any (·.1)=false) Ŕ):
  QE X Z q (WQ a b) (.Call (.Attribute ea "index" bb) [eb] [] ai):=q9 (vjb hu ha (wj hb wJ hs) ce dy ck hs bd) fun σ H Q ah=>ex8 ah λE L r m w hc xc k=>by
 refine v8 m w (show bnd (a E) _=some r from hc) xc λE1 s h1 x L1 H1 e1 e2 m1 w1 ok fr sr st sm=>?_
 split at h1
 rotate_left
 ·cases h1
 rename_i hsq;rw [hK];have fin:∀{ds:List D},(x.d=.lst ds\/x.d=.tup ds)->∀(C:Hp->List V->Prop),(∀H2,x.ok Z.K H2->∃xs bs,C H2 xs/\RepA Z.K H2 true ds xs bs)->tV Z true b σ H1 λv H2=>wwp Z.K C [v] H2 Q:=fun {ds} hx C hC=>by
  refine v8 m1 w1 h1 (xc.step st) λE2 s2 h2 y L2 H2 e3 e4 m2 w2 fz oz on bg dg=>?_
  obtain⟨z,hz,rfl⟩:=zw h2;have kx:=Q4 ok fr bg (dg rfl);obtain⟨xs,bs,c1,c2⟩:=hC H2 kx.1;have h8:∃j:Nat,y.d.flat 30=true/\D.flats 30 ds=true/\(ds.findIdx? λz=>peq z y.d)=some j/\z=(.dp,.int j):=by
   unfold pu2 kws at hz;rw[<-e2,<-e4]at hz;have fy:(if y.d.flat 30&&D.flats 30 ds then(ds.findIdx? λz=>peq z y.d).map λ(j:Nat)=>D.int (j:Int)else none).map (λd=>((Own.dp,d):Sd))=some z:=by
    rcases hx with hx|hx<;>(rw[hx]at hz;exact hz)
   split at fy
   ·rename_i hf;rw[Bool.and_eq_true]at hf;cases hj:ds.findIdx? λz=>peq z y.d with|none=>rw[hj]at fy;cases fy|some j=>rw[hj]at fy;exact⟨j,hf.1,hf.2,rfl,(oq9 fy).symm⟩
   ·cases fy
  obtain⟨j,f1,f2,f3,rfl⟩:=h8;refine⟨y.v,y.d,ds,y.as,bs,xs,j,rfl,RepO.wk fz,c1,c2,f1,f2,f3,?_⟩;have ia:q=true->jY H H2:=λhq=>qv (sm hq) (dg rfl)
  exact k _ _ rfl ⟨.dp,.int j,.int j,[]⟩ L2 H2 rfl rfl m2 (w2.consPu (x:=⟨.dp,.int j,.int j,[]⟩) (show RepL Z.K H2 false (.int j) (.int j) []from wq) rfl) (K2 (x:=⟨.dp,.int j,.int j,[]⟩) (st.trans bg) (λb hb=>nomatch hb) rfl) λhq=>⟨ia hq,λ_ z=>(nomatch z)⟩
 have wkA:∀{ds:List D} {xs:List V} {bs:List Addr} {H2:Hp},RepA Z.K H2 (x.o != .dp) ds xs bs->RepA Z.K H2 true ds xs bs:=fun {ds xs bs H2} r=>by
  cases ho:(x.o != .dp)with|true=>rw[ho]at r;exact r|false=>rw[ho]at r;exact r.wk
 cases hx:x.d with
 |lst ds=>
  obtain⟨l,xs,bs,ev,q3,r3,h3,_⟩:=items ok (.inl hx);have q3:LsR Z.K H1 l xs:=by rcases q3 with⟨_,z⟩|⟨z,_⟩;exact z;rw[hx]at z;cases z
  refine .inl ⟨l,xs,ev,q3,fin (.inl hx) _ λH2 fz=>?_⟩;obtain⟨l2,ys,cs,ev2,q4,r4,_⟩:=items fz (.inl hx);have:l2=l:=by have:=ev2.symm.trans ev;exact V.ref.inj this
  subst this;rcases q4 with⟨_,z⟩|⟨z,_⟩
  ·exact⟨ys,cs,z,wkA r4⟩
  ·rw[hx]at z;cases z
 |tup ds=>
  obtain⟨l,xs,bs,ev,q3,r3,h3,_⟩:=items ok (.inr hx);have q3:SqT Z.K H1 l xs:=by rcases q3 with⟨z,_⟩|⟨_,z⟩;rw[hx]at z;cases z;exact z
  refine .inr ⟨l,xs,ev,q3,fin (.inr hx) _ λH2 fz=>?_⟩;obtain⟨l2,ys,cs,ev2,q4,r4,_⟩:=items fz (.inr hx);have:l2=l:=by have:=ev2.symm.trans ev;exact V.ref.inj this
  subst this;rcases q4 with⟨z,_⟩|⟨_,z⟩
  ·rw[hx]at z;cases z
  ·exact⟨ys,cs,z,wkA r4⟩
 |_=>rw[<-e2,hx]at hsq;cases hsq
end
theorem kx6:bootBuiltins "enumerate"=some (.type "enumerate"):=boot_enumerate
section
variable {X:Cx}{Z:Fx0}{K:Frag}{pn:List Nat}{q qa qb:Bool}{a b c:Ex}{u:Ts}{tg e ea eb:Expr}{st:Stmt}{σ:L2.St}{H:Hp}{L:Ls}{E:En}{pos p p2 jo:Pos}{x:Str}{ef:List Expr}{k1:Nat}
theorem jxh:∀(ds:List D) (k:Nat),(J3 k ds).length=ds.length
 |[],_=>rfl|d::ds,k=>by rw[J3,Xp,Xp,jxh ds]
theorem kww:∀(ds:List D) (k i:Nat),(J3 k ds)[i]?=(ds[i]?).map λd=>.tup [.int ((k+i:Nat):Int),d]
 |[],_,_=>by simp[J3]|d::ds,k,0=>by simp[J3]
 |d::ds,k,i+1=>by
  rw[J3,List.getElem?_cons_succ,List.getElem?_cons_succ,kww ds,show k+1+i=k+(i+1)from by omega]
theorem qzw{H2:Hp}{T:Addr}{d1 d2:D}{v1 v2:V}{b1 b2:List Addr}(hT:H2 T=none)(r1:RepL K H2 true d1 v1 b1)(r2:RepL K H2 true d2 v2 b2):RepL K (upd H2 T (.tup [v1,v2])) true (.tup [d1,d2]) (.ref T) (b1++b2):=by
 have sm:jY H2 (upd H2 T (.tup [v1,v2])):=wZ hT;unfold RepL;refine⟨T,[v1,v2],rfl,.inl (.inl x3),?_⟩;unfold RepA;refine⟨v1,[v2],b1,b2,rfl,rfl,r1.kp (Kp.of_same sm),?_⟩;unfold RepA;refine⟨v2,[],b2,[],rfl,by simp,r2.kp (Kp.of_same sm),?_⟩;unfold RepA;exact⟨rfl,rfl⟩
end
theorem RepA.erase{K:Frag}{H:Hp}{g:Bool}:∀{j:Nat} {ds:List D} {xs:List V} {as:List Addr},RepA K H g ds xs as->∃bs,RepA K H g (ds.eraseIdx j) (xs.eraseIdx j) bs/\bs.Sublist as
 |j,[],xs,as,h=>by
  unfold RepA at h;obtain⟨rfl,rfl⟩:=h;exact⟨[],by simp only[List.eraseIdx_nil];unfold RepA;exact⟨rfl,rfl⟩,Z3 _⟩
 |0,d::ds,xs,as,h=>by
  unfold RepA at h;obtain⟨x,r,bs,cs,rfl,rfl,h1,h2⟩:=h;exact⟨cs,h2,List.sublist_append_right _ _⟩
 |j+1,d::ds,xs,as,h=>by
  unfold RepA at h;obtain⟨x,r,bs,cs,rfl,rfl,h1,h2⟩:=h;obtain⟨es,r2,hs⟩:=RepA.erase (j:=j) h2;refine⟨bs++es,?_,List.Sublist.append (Z3 _) hs⟩;rw[Z5,Z5];unfold RepA;exact⟨x,r.eraseIdx j,bs,es,rfl,rfl,h1,r2⟩
theorem wqc{n:Nat}{i:Int}{j:Nat}(h:_root_.Q.ixN n i=some j):seqIndex? i n=some j/\j<n/\-(n:Int)<=i/\i<n:=by
 have e:L2.ixN n i=some j:=by
  unfold _root_.Q.ixN at h;unfold L2.ixN
  by_cases h0:0<=i
  ·rw[X8 h0]at h ⊢;exact h
  ·rw[Xf h0]at h ⊢;exact h
 exact kz7 e
section
variable {X:Cx}{Z:Fx0}{K:Frag}{pn:List Nat}{q qa qb:Bool}{a b c:Ex}{u:Ts}{tg e ea eb:Expr}{st:Stmt}{σ:L2.St}{H:Hp}{L:Ls}{E:En}{pos p p2 jo:Pos}{x:Str}{ef:List Expr}{k1:Nat}
theorem wws {i:Nat} {o:Expr} {bb ai:Pos} (hb:PE X (.Call (.Attribute o "pop" bb) [e] [] ai) (tBM Z.K "list" vks (z4 i) (vv7 (tV Z q c) wwa))):QE X Z false (wv5 i c) (.Call (.Attribute o "pop" bb) [e] [] ai):=q9 hb fun σ H Q ah=>ex8 ah λE L r m w hc xc k=>by
 unfold wv5 at hc;cases h0:E[i]? with
 | none=>rw [h0]at hc;cases hc
 | some s0 =>
  cases s0 with
  | none=>rw [h0]at hc;cases hc
  | some s0 =>
   obtain ⟨o0,d0⟩:=s0;cases d0 with
   | lst ds0 =>
    rw [h0,X8 (show Kw (some (some (o0,D.lst ds0)))=true from rfl)]at hc;obtain ⟨x0,a1,a2,a3,a4⟩:=m.get h0;refine ⟨x0.v,a4,vqe (w.ok x0 (v5 a1)) a3,?_⟩;refine v8 m w hc xc λE1 s h1 x L1 H1 e1 e2 m1 w1 iy fr sr st sm=>?_
    cases hE:E1[i]? with
    | none=>rw[hE]at h1;cases h1
    | some s1=>
     cases s1 with
     | none=>rw[hE]at h1;cases h1
     | some s1=>
      obtain ⟨oo,dd⟩:=s1;rw [hE]at h1;cases dd with
      | lst ds=>
       cases hs:s.2 with
       | int kk=>
        rw [hs]at h1;dsimp only at h1
        by_cases gf:oo=.no
        ·rw [X8 gf]at h1;cases h1
        ·rw [Xf gf]at h1;cases hj:_root_.Q.ixN ds.length kk with
         | none=>rw[hj]at h1;cases h1
         | some j=>
          rw [hj]at h1;dsimp only at h1;cases hd:ds[j]? with
          | none=>rw[hd]at h1;cases h1
          | some d=>
           rw[hd]at h1;dsimp only at h1
           split at h1
           rotate_left
           ·cases h1
           rename_i hp;rw[Bool.and_eq_true]at hp;obtain⟨hp,hsm⟩:=hp;obtain⟨iz,dg⟩:=jxp hsm;cases oq9 h1;obtain⟨y,b1,b2,b3,b4⟩:=m1.get hE;have hv:y.v=x0.v:=by rw[a4]at b4;exact(oq9 (oq9 b4)).symm
           obtain⟨l,xs,bs,c1,c2,c3,c4,c5⟩:=W3 (w1.ok y (v5 b1)) b3 (by rw[b2];exact gf);have ex0:x0.v=.ref l:=hv▸c1;rw[ex0];obtain⟨vv,cp,f1,f2,f3⟩:=c5.get hd;obtain⟨g1,g2,g3,g4⟩:=wqc hj;have ab:=c5.len;have jg:(2:Int) ^ 63=9223372036854775808:=⋯
           obtain⟨_,rp⟩:=RepL.pu (g':=false) f2 hp;obtain⟨cs,r6,d8⟩:=c5.erase (j:=j);refine⟨l,xs,kk,j,vv,rfl,by rw[kX iy (e2.trans hs)],c2,?_,?_,by rw[<-ab];exact g1,f1,?_⟩
           ·have:(2:Int) ^ 62=4611686018427387904:=⋯
            omega
           ·have:(2:Int) ^ 62=4611686018427387904:=⋯
            omega
           have yn:y.own.Nodup:=by
            obtain⟨A,B,e,_⟩:=ZX b1;have:=w1.nd;rw[e,jV,k3,Xe]at this;exact(List.nodup_append.mp this.2.1).1
           have hoo:y.o=.rt\/y.o=.dp:=by
            rw[b2];cases oo with|no=>exact absurd rfl gf|rt=>exact .inl rfl|dp=>exact .inr rfl
           obtain⟨w3,s3⟩:=kq7 (T:=[]) (o':=y.o) (ds':=ds.eraseIdx j) (xs':=xs.eraseIdx j) (by simpa using w1) b1 c2 c3 c4 c1 r6 (by
            rcases hoo with hoo|hoo
            ·exact .inl ⟨hoo,λa ha=>.inl (d8.subset ha)⟩
            ·refine .inr ⟨hoo,hoo,?_,λa ha=>.inl (d8.subset ha)⟩;unfold Sl.own at yn;rw[hoo,c3]at yn;exact d8.nodup (List.nodup_cons.mp yn).2)
           have ke:∀a o,H1 a=some o->a≠l->upd H1 l (.lst (xs.eraseIdx j)) a=some o:=λa o e ne=>by rw[q5 ne];exact e
           have rp2:RepL Z.K (upd H1 l (.lst (xs.eraseIdx j))) false d vv []:=by
            refine rp.kp ⟨λa zs e=>ke a _ e λz=>?_,λa o u e=>ke a _ e λz=>?_,λa ha=>nomatch ha⟩
            ·subst z;rw[c2]at e;cases e
            ·subst z;rw[c2]at e;cases e
           have mm:=m1.set (x:=⟨y.o,.lst (ds.eraseIdx j),y.v,l::cs⟩) i;rw[Vz b4]at mm;refine k _ _ rfl ⟨.dp,d,vv,[]⟩ _ _ rfl rfl (by rw[<-b2];exact mm) (w3.consPu rp2 rfl) (K2 (x:=⟨.dp,d,vv,[]⟩) (st.trans (by simpa using s3)) (λb hb=>nomatch hb) rfl) λz=>nomatch z
       |_=>rw[hs]at h1;cases h1
      |_=>cases h1
   |_=>rw[h0]at hc;cases hc
theorem RepA.setAt{H H':Hp}{l:Addr}{d':D}{cs:List Addr}:∀{n:Nat} {ds:List D} {xs:List V} {as:List Addr} {ys:List D},RepA K H false ds xs as->as.Nodup->ds[n]?=some (.lst ys)->xs[n]?=some (.ref l) ->
  (∀bs:List Addr,l∉bs->(∀b∈bs,b∈as)->Kp H H' bs)->(∀bs,RepL K H false (.lst ys) (.ref l) bs->(∀b∈bs,b∈as)->bs.Nodup->∃es,RepL K H' false d' (.ref l) es/\es.Nodup/\(∀b∈es,b∈bs\/b∈cs))->(∀b∈cs,b∉as) ->
  ∃fj,RepA K H' false (ds.set n d') xs fj/\fj.Nodup/\∀b∈fj,b∈as\/b∈cs
 | _,[],_,_,_,_,_,e,_,_,_,_=>by simp at e
 | 0,d::ds,xs,as,ys,h,nd,e,ex,kp,new,fg=>by
  have e:d=.lst ys:=by simpa using e
  subst e;unfold RepA at h;obtain⟨x,r,bs,es,rfl,rfl,h1,h2⟩:=h;have ex:x=.ref l:=by simpa using ex
  subst ex;rw[Xe]at nd;obtain⟨fs,n1,n2,n3⟩:=new bs h1 (λb hb=>ll9 _ hb) nd.1;have hl:l∈bs:=by
   unfold RepL at h1;obtain⟨a,zs,gs,ea,_,q⟩:=h1;cases ea;rcases q with⟨_,rfl⟩|⟨z,_⟩
   ·exact X6
   ·cases z
  have le:l∉es:=λz=>nd.2.2 l hl l z rfl
  refine⟨fs++es,?_,?_,λb hb=>?_⟩
  ·rw[List.set_cons_zero];unfold RepA;exact⟨_,r,fs,es,rfl,rfl,n1,h2.kp (kp es le λb hb=>lr9 _ hb)⟩
  ·rw[Xe];refine⟨n2,nd.2.1,λa ha b hb iu=>?_⟩;subst iu;rcases n3 a ha with z|z
   ·exact nd.2.2 a z a hb rfl
   ·exact fg a z (lr9 _ hb)
  ·rcases aA hb with z|z
   ·exact(n3 b z).imp (λz=>ll9 _ z) id
   ·exact .inl (lr9 _ z)
 | n+1,d::ds,xs,as,ys,h,nd,e,ex,kp,new,fg=>by
  unfold RepA at h;obtain⟨x,r,bs,es,rfl,rfl,h1,h2⟩:=h;rw[Xe]at nd;obtain⟨fj,n1,n2,n3⟩:=RepA.setAt (n:=n) h2 nd.2.1 (by simpa using e) (by simpa using ex) (λbs h1 h2=>kp bs h1 λb hb=>lr9 _ (h2 b hb)) (λbs h1 h2 h3=>new bs h1 (λb hb=>lr9 _ (h2 b hb)) h3) (λb hb z=>fg b hb (lr9 _ z));have hl:l∈es:=by
   obtain⟨v,gs,q1,q2,q3⟩:=h2.get (i:=n) (by simpa using e);rw[show r[n]?=some (V.ref l)from by simpa using ex]at q1;cases oq9 q1;unfold RepL at q2;obtain⟨a,zs,hs,ea,_,q⟩:=q2;cases ea;rcases q with⟨_,rfl⟩|⟨z,_⟩
   ·exact q3 l X6
   ·cases z
  have lb:l∉bs:=λz=>nd.2.2 l z l hl rfl
  refine⟨bs++fj,?_,?_,λb hb=>?_⟩
  ·rw[List.set_cons_succ];unfold RepA;exact⟨x,r,bs,fj,rfl,rfl,h1.kp (kp bs lb λb hb=>ll9 _ hb),n1⟩
  ·rw[Xe];refine⟨nd.1,n2,λa ha b hb iu=>?_⟩;subst iu;rcases n3 a hb with z|z
   ·exact nd.2.2 a ha a z rfl
   ·exact fg a z (ll9 _ ha)
  ·rcases aA hb with z|z
   ·exact .inl (ll9 _ z)
   ·exact(n3 b z).imp (λz=>lr9 _ z) id
theorem wqx{y:Sl}{ds:List D}(ok:y.ok K H)(hd:y.d=.lst ds)(ho:y.o=.dp):∃l xs bs,y.v=.ref l/\H l=some (.lst xs)/\y.as=l::bs/\y.own=l::bs/\RepA K H false ds xs bs:=by
 obtain⟨l,xs,bs,c1,c2,c3,c4,c5⟩:=W3 ok hd (by rw[ho];exact λz=>nomatch z);rw[ho]at c5;exact⟨l,xs,bs,c1,c2,c3,by unfold Sl.own;rw[ho,c3],c5⟩
end
section
variable {X:Cx}{pins:LA9}{σ:L2.St}{H:Hp}{s:Shared}{a b:Addr}{es:List Ent}{A:Around}{E:VP9}{k:Kd}
mutual
theorem VW(I:Inv X pins σ H s):∀{d:D} {v:V} {u:Value},PuR X.K H d v->RelV v u->jw s.heap d u
 |.non,_,_,h,r=>by unfold PuR at h;rw[h]at r;unfold jw;exact r|.int _,_,_,h,r=>by unfold PuR at h;rw[h]at r;unfold jw;exact r
 |.tup ds,_,_,h,r=>by
  unfold PuR at h;obtain⟨a,xs,rfl,q,ra⟩:=h;cases r;obtain⟨a8,rv,p,_⟩:=I.tuple q;unfold jw;exact⟨a,a8,rfl,p,purs_creps I ra rv⟩
 |.bl _,_,_,h,_=>by unfold PuR at h;exact h.elim|.str _,_,_,h,_=>by unfold PuR at h;exact h.elim|.lst _,_,_,h,_=>by unfold PuR at h;exact h.elim|.dct _,_,_,h,_=>by unfold PuR at h;exact h.elim|.obj _ _,_,_,h,_=>by unfold PuR at h;exact h.elim
theorem purs_creps(I:Inv X pins σ H s):∀{ds:List D} {xs:List V} {us:List Value},PuRs X.K H ds xs->Vals xs us->CReps s.heap ds us
 | [],_,_,h,r=>by unfold PuRs at h;rw[h]at r;cases r;unfold CReps;rfl
 | d::ds,_,_,h,r=>by
  unfold PuRs at h;obtain⟨x,rr,rfl,h1,h2⟩:=h;cases r with
  |cons r1 r2=>
   unfold CReps;exact⟨_,_,rfl,VW I h1 r1,purs_creps I h2 r2⟩
end
mutual
theorem vq2{K:Frag}{g:Bool}:∀{n:Nat} {d:D} {v:V} {as:List Addr},jK n d=true->RepL K H g d v as->PuR K H d v
 |_,.non,_,_,_,h=>by unfold RepL at h;unfold PuR;exact h.1|_,.int _,_,_,_,h=>by unfold RepL at h;unfold PuR;exact h.1|0,.tup _,_,_,hk,_=>by unfold jK at hk;cases hk
 |n+1,.tup ds,_,_,hk,h=>by
  unfold jK at hk;unfold RepL at h;obtain⟨a,xs,e,q,ra⟩:=h;unfold PuR;exact⟨a,xs,e,q,purs_of hk ra⟩
 |n,.bl _,_,_,hk,_=>by cases n<;>(unfold jK at hk;cases hk)|n,.str _,_,_,hk,_=>by cases n<;>(unfold jK at hk;cases hk)|n,.lst _,_,_,hk,_=>by cases n<;>(unfold jK at hk;cases hk)|n,.dct _,_,_,hk,_=>by cases n<;>(unfold jK at hk;cases hk)|n,.obj _ _,_,_,hk,_=>by cases n<;>(unfold jK at hk;cases hk)
theorem purs_of{K:Frag}{g:Bool}:∀{n:Nat} {ds:List D} {xs:List V} {as:List Addr},keyDs n ds=true->RepA K H g ds xs as->PuRs K H ds xs
 |_,[],_,_,_,h=>by unfold RepA at h;unfold PuRs;exact h.1
 |n,d::ds,_,_,hk,h=>by
  unfold keyDs at hk;rw[Bool.and_eq_true]at hk;unfold RepA at h;obtain⟨x,r,bs,cs,rfl,rfl,h1,h2⟩:=h;unfold PuRs;exact⟨x,r,rfl,vq2 hk.1 h1,purs_of hk.2 h2⟩
end
theorem qjr{ep:Nat}(I:Inv X pins σ H s)(h:H a=some (qQ a es ep))(hn:(es.map (·.1)).Nodup)(hk:∀x∈es,PuR X.K H x.1.1 (.ref x.2.1)):s.heap.DictOfH (ZZ X.prog X.w) a es:=by
 obtain⟨⟨o,ds,h1,h2,h3,h4⟩,_⟩:=(show ObjOk X.prog X.w H s.heap a (qQ a es ep)from I.hok a _ h);exact⟨o,ds,ep,h1,h2,h3,h4,λx hx=>VW I (hk x hx) rfl,hn⟩
theorem qz9:∀(es:List Ent) (k:Kd),(atKey es k).isSome=decide (k.1∈es.map (·.1.1))
 | [],k=>by simp[atKey]
 | x::es,k=>by
  have ih:=qz9 es k
  by_cases h:x.1=k
  ·have:k.1∈(x::es).map (·.1.1):=by rw[<-h];simp
   rw[Xi this];simp[atKey,Yj,h]
  ·have e1:atKey (x::es) k=atKey es k:=by simp[atKey,Yj,h]
   have e2:(k.1∈(x::es).map (·.1.1))↔k.1∈es.map (·.1.1):=by
    rw[List.map_cons,Y4];exact⟨λz=>z.elim (λq=>absurd (Subtype.ext q.symm) h) id,.inr⟩
   rw[e1,ih];exact decide_eq_decide.mpr e2.symm
theorem kxq(hu:A.units+64<cLine):(ZZ X.prog X.w).room A.in1:=by show A.units+1+40<cLine;omega
theorem qxn{ks:List D}{vs:List V}{Q:VP9}(hu:A.units+64<cLine)(I:Inv X pins σ H s)(d:DcN X.K H a ks vs)(hk:PuR X.K H k.1 (.ref b))(h:∀s',Inv X pins σ H s'->Q (.bool (!decide (k.1∈ks))) s'):wpAny (model X.prog X.w) A (compareOp .NotIn (.ref b) (.ref a)) Q E s:=by
 obtain⟨es,ep,e,h1,h2,h3,rfl,h5,h6⟩:=d;refine wpAny_notIn_heap (knd:=ZZ X.prog X.w) (kxq hu) (VW I hk rfl) h1 (qjr I e h3 h5) ?_;rw[qz9];exact h _ (I.tok _)
end
def wzo(K:Frag)(ij:Bool):R2:=λx y H Q=>∃(k:Kd) (b a:Addr) (ks:List D) (vs:List V),x=.ref b/\y=.ref a/\PuR K H k.1 (.ref b)/\DcN K H a ks vs/\Q (.bl (if ij then !decide (k.1∈ks)else decide (k.1∈ks))) H
theorem vjf{X:Cx}{K:Frag}(hu:X.A.units+64<cLine)(hK:autoParam (X.K=K) Ŕ):OpR X (compareOp .NotIn) (wzo K true):=by
 subst hK;intro pins s σ H x y u v Q I rx ry ⟨k,b,a,ks,vs,e1,e2,hk,hd,q⟩;subst e1 e2;cases rx;cases ry;exact qxn hu I hd hk λs' I'=>⟨.bl _,H,I',rfl,q⟩
theorem wv2{K:Frag}{H:Hp}{y:Sl}{kvs:List (D×D)}(ok:y.ok K H)(hd:y.d=.dct kvs)(hu:unm kvs=true):∃a xs,y.v=.ref a/\DcN K H a (kvs.map (·.1)) xs:=by
 have h:=RepO.wk ok;rw[hd]at h;unfold RepL at h;obtain⟨a,xs,bs,e,_,q,_⟩:=h;exact⟨a,xs,e,DcA.un q hu⟩
theorem jw9{K:Frag}{H:Hp}{x:Sl}(ok:x.ok K H)(hk:v4 x.d=true):∃b,x.v=.ref b/\PuR K H x.d (.ref b):=by
 unfold v4 at hk;rw[Bool.and_eq_true]at hk;have h:=vq2 hk.1 (RepO.wk ok);cases hd:x.d with
 |tup ds=>
  rw[hd]at h;have h':=h;unfold PuR at h;obtain⟨a,xs,e,_⟩:=h;exact⟨a,e,e▸h'⟩
 |_=>rw[hd]at hk;cases hk.2
theorem qze{K:Frag}:Ad2 K (wzo K true) (pu2 V0):=by
 intro H x y s Q ox oy hf k;unfold pu2 V0 at hf;dsimp only at hf;cases hy:y.d with
 | dct kvs=>
  rw[hy]at hf;dsimp only at hf
  by_cases hk:v4 x.d=true/\unm kvs=true
  ·rw[X8 hk]at hf;cases oq9 hf;obtain⟨a,xs,e,q⟩:=wv2 oy hy hk.2;obtain⟨b,eb,pb⟩:=jw9 ox hk.1;have ja:jK 6 x.d=true:=by have hk:=hk.1;unfold v4 at hk;rw[Bool.and_eq_true]at hk;exact hk.1
   exact⟨⟨x.d,ja⟩,b,a,_,xs,eb,e,pb,q,k ⟨.dp,.bl _,.bl _,[]⟩ H rfl rfl wX⟩
  ·rw[Xf hk]at hf;cases hf
 |_=>rw[hy]at hf;cases hf
theorem qz7(x y s:Sd)(h:pu2 V0 x y=some s):∃k,s.2=.bl k:=by
 unfold pu2 V0 at h;cases hy:y.2 with
 |dct kvs=>
  rw[hy]at h;dsimp only at h
  by_cases hk:v4 x.2=true/\unm kvs=true
  ·rw[X8 hk]at h;cases oq9 h;exact⟨_,rfl⟩
  ·rw[Xf hk]at h;cases h
 |_=>rw[hy]at h;cases h
theorem vxu{P:Program}{w:PySem.World}{H:Hp}(h:Heap):ObjOk P w H (h.push { cls:=.type "dict",data:=.dict #[] }) h.objs.size (qQ h.objs.size [] 0):=
 ⟨⟨_,#[],Xa _ rfl,⟨rfl,rfl,rfl⟩,rfl,rfl⟩,⟨_,Xa _ rfl⟩,λh1 h2 ⟨o,ds,a1,a2⟩ k=>⟨o,ds,k o a1,a2⟩⟩
section
variable {K:Frag}{H:Hp}{g:Bool}{k:Kd}{b:Addr}{d:D}{x:V}{r:Value}{cs:List Addr}
theorem qv6 (hx : RepL K H g d x cs) (hr : RelV x r): ∀{kvs : List (D × D)} {xs : List V} {bs : List Addr} {es : List Ent}, RepP K H g kvs xs bs -> kvs.map (·.1) = es.map (·.1.1) -> Vals xs (es.map (·.2.2)) ->
    ∃ xs' cp, RepP K H g (kvs.map λe=>if e.1 = k.1 then(k.1, d)else e) xs' cp /\ Vals xs' ((es.map (putAt k r)).map (·.2.2)) /\ ∀a ∈ cp, a ∈ bs \/ a ∈ cs
  | [], _, _, [], h, _, _=>⟨[], [], by unfold RepP; exact⟨rfl, rfl⟩, Paired.nil, λ_ z=>nomatch z⟩| [], _, _, _::_, _, h, _=>by simp at h| _ :: _, _, _, [], _, h, _=>by simp at h
  | (q, e)::kvs, _, _, n::es, h, hk, hv=>by
    unfold RepP at h;obtain⟨y, rr, b1, b2, rfl, rfl, h1, h2⟩:= h;rw [List.map_cons, List.map_cons]at hk;injection hk with k1 k2;rw [List.map_cons]at hv;cases hv with
    | cons v1 v2=>
      obtain⟨xs', cp, i1, i2, i3⟩:= qv6 hx hr h2 k2 v2
      by_cases hq : q = k.1
      · have hn : n.1 = k:= Subtype.ext (by rw[<-hq]; exact k1.symm)
        refine⟨x::xs', cs ++ cp, ?_, ?_, λa ha=> ?_⟩
        · rw[List.map_cons, X8 hq]
          unfold RepP;exact⟨x, xs', cs, cp, rfl, rfl, hx, i1⟩
        · rw[List.map_cons, List.map_cons]
          refine .cons ?_ i2;unfold putAt;rw[X8 hn];exact hr
        · rcases aA ha with z|z
          · exact .inr z
          · exact(i3 a z).imp (lr9 _) id
      · have hn : ¬n.1 = k:= λz=>hq (by rw[<-z]; exact k1)
        refine⟨y::xs', b1 ++ cp, ?_, ?_, λa ha=> ?_⟩
        · rw[List.map_cons, Xf hq]
          unfold RepP;exact⟨y, xs', b1, cp, rfl, rfl, h1, i1⟩
        · rw[List.map_cons, List.map_cons]
          refine .cons ?_ i2;unfold putAt;rw[Xf hn];exact v1
        · rcases aA ha with z|z
          · exact .inl (ll9 _ z)
          · exact(i3 a z).imp (lr9 _) id
theorem kvm{q : D}(hx : RepL K H g d x cs): ∀{kvs : List (D × D)} {xs : List V} {bs : List Addr}, RepP K H g kvs xs bs -> RepP K H g (kvs ++ [(q, d)]) (xs ++ [x]) (bs ++ cs)
  | [], _, _, h=>by
    unfold RepP at h;obtain⟨rfl, rfl⟩:= h;show RepP K H g [(q, d)] [x] cs;unfold RepP;exact⟨x, [], cs, [], rfl, by simp, hx, by unfold RepP; exact⟨rfl, rfl⟩⟩
  | (p, e)::kvs, _, _, h=>by
    unfold RepP at h;obtain⟨y, rr, b1, b2, rfl, rfl, h1, h2⟩:= h;rw[List.cons_append];unfold RepP;exact⟨y, rr ++ [x], b1, b2 ++ cs, rfl, by rw[Xu], h1, kvm hx h2⟩
theorem kvc:∀{xs:List V} {us:List Value},Vals xs us->RelV x r->Vals (xs++[x]) (us++[r])
 |_,_,.nil,h=>.cons h .nil|_,_,.cons a t,h=>.cons a (kvc t h)
theorem vvw{kvs:List (D×D)}{xs:List V}{bs:List Addr}{es:List Ent}(hx:RepL K H g d x cs)(hr:RelV x r)(h:RepP K H g kvs xs bs)(hk:kvs.map (·.1)=es.map (·.1.1))(hv:Vals xs (es.map (·.2.2)))(hn:(es.map (·.1)).Nodup)(hp:∀n∈es,PuR K H n.1.1 (.ref n.2.1))(hb:PuR K H k.1 (.ref b)):
  ∃ xs' cp,RepP K H g (Qw kvs k.1 d) xs' cp/\(Qw kvs k.1 d).map (·.1)=(storedH es k b r).map (·.1.1)/\Vals xs' ((storedH es k b r).map (·.2.2))/\((storedH es k b r).map (·.1)).Nodup/\(∀n∈storedH es k b r,PuR K H n.1.1 (.ref n.2.1))/\(storedH es k b r).length<=es.length+1/\∀a∈cp,a∈bs\/a∈cs:=by
 have hm:=qz9 es k;rw [<-hk]at hm;cases ha:atKey es k with
 | some p=>
  rw[ha]at hm;have gc:k.1∈kvs.map (·.1):=Z4 hm.symm;rw[storedH_old ha];unfold Qw;rw[X8 gc];obtain⟨xs',cp,i1,i2,i3⟩:=qv6 (k:=k) hx hr h hk hv;refine⟨xs',cp,i1,?_,i2,by rw[keys_map_putAt];exact hn,λn sk=>?_,by rw[X3];omega,i3⟩
  ·have e1:(es.map (putAt k r)).map (·.1.1)=es.map (·.1.1):=by
    rw[Xm];refine Yf λn _=>?_
    show(putAt k r n).1.1=n.1.1;unfold putAt
    by_cases z:n.1=k
    ·rw[X8 z]
    ·rw[Xf z]
   rw[e1,<-hk,Xm];refine Yf λe _=>?_
   show(if e.1=k.1 then(k.1,d)else e).1=e.1
   by_cases z:e.1=k.1
   ·rw[X8 z];exact z.symm
   ·rw[Xf z]
  ·obtain⟨m,np,rfl⟩:=aE sk;have:=hp m np;unfold putAt
   by_cases z:m.1=k
   ·rw[X8 z];exact this
   ·rw[Xf z];exact this
 | none=>
  rw[ha]at hm;have gc:¬k.1∈kvs.map (·.1):=of_decide_eq_false hm.symm;rw[storedH_new ha];unfold Qw;rw[Xf gc];refine⟨xs++[x],bs++cs,kvm hx h,by rw[X9,X9,hk];rfl,by rw[X9];exact kvc hv hr,?_,λn sk=>?_,by simp,λa z=>aA z⟩
  ·rw[X9,Xe];refine⟨hn,by simp,λp km q hq e=>?_⟩;have:q=k:=by simpa using hq
   subst this e;obtain⟨n,nr,kh⟩:=aE km;exact gc (by rw[hk];exact List.mem_map.mpr ⟨n,nr,by rw[kh]⟩)
  ·rcases aA sk with z|z
   ·exact hp n z
   ·rw[aC z];exact hb
end
section
variable {X:Cx}{pins:LA9}{σ:L2.St}{H:Hp}{s:Shared}{a b:Addr}{es:List Ent}{A:Around}{E:VP9}{k:Kd}{r:Value}
theorem vxt{ep:Nat}{Q:Unit->Shared->Prop}(hu:A.units+64<cLine)(I:Inv X pins σ H s)(e:H a=some (qQ a es ep))(h2:es.length<=sizeLine)(h3:(es.map (·.1)).Nodup)(h5:∀x∈es,PuR X.K H x.1.1 (.ref x.2.1))(hk:PuR X.K H k.1 (.ref b))
  (h:∀ep' s',Inv X pins σ (upd H a (qQ a (storedH es k b r) ep')) s'->Q () s'):wpAny (model X.prog X.w) A (setItem (.ref a) (.ref b) r) Q E s:=by
 refine wpAny_setItem_heap (knd:=ZZ X.prog X.w) (hsz:=h2) (kxq hu) (VW I hk rfl) (qjr I e h3 h5) λh' dd hs=>?_
 obtain⟨q,ds,ep',hq,g2,g3,g4,_,_⟩:=dd;exact h ep' _ (qxp I (by rw[e];exact True.intro) hs ⟨q,hq⟩ ⟨⟨q,ds,hq,g2,g3,g4⟩,⟨q,hq⟩,λh1 h2 ⟨o,ds,a1,a2⟩ k=>⟨o,ds,k o a1,a2⟩⟩)
end
theorem qvj{K:Frag}{H:Hp}{T L:Ls}{i:Nat}{y:Sl}{l:Addr}{es es':List Ent}{ep ep':Nat}{xs':List V}{bs cs:List Addr}{kvs':List (D×D)}(w:World K H (T++L))(hy:L[i]?=some (some y))(hH:H l=some (qQ l es ep))(ho:y.o=.rt)(ha:y.as=l::bs)(hv:y.v=.ref l)
  (r:RepP K H true kvs' xs' cs) (hc:∀a∈cs,a∈bs\/a∈j8 T\/a∈jQ T) (hs:(l==sysModules)=false) (h2:es'.length<=sizeLine) (h3:(es'.map (·.1)).Nodup) (h4:kvs'.map (·.1)=es'.map (·.1.1)) (h5:∀n∈es',PuR K H n.1.1 (.ref n.2.1)) (h6:Vals xs' (es'.map (·.2.2))):
  World K (upd H l (qQ l es' ep')) (L.set i (some ⟨.rt,.dct kvs',y.v,l::cs⟩))/\Step H (T++L) (upd H l (qQ l es' ep')) (L.set i (some ⟨.rt,.dct kvs',y.v,l::cs⟩)):=by
 have hl:l∈y.own:=by unfold Sl.own;rw[ho,ha];simp
 have oL:l∈j8 L:=mem_owned.mpr ⟨y,v5 hy,hl⟩;have oy:l∈j8 (T++L):=by rw[jV];exact lr9 _ oL
 have nd:=w.nd;rw[jV,Xe]at nd;have nT:l∉j8 T:=λz=>nd.2.2 l z l oL rfl
 have nF:l∉jQ T:=λz=>w.ds l oy (by rw[kW];exact ll9 _ z)
 have nb:l∉bs:=λz=>by
  have:l∈y.frz:=by unfold Sl.frz;rw[ho,ha];exact z
  exact w.ds l oy (by rw[kW];exact lr9 _ (mem_frozen.mpr ⟨y,v5 hy,this⟩))
 have nc:l∉cs:=λz=>by
  rcases hc l z with q|q|q
  ·exact nb q
  ·exact nT q
  ·exact nF q
 have kp:Kp H (upd H l (qQ l es' ep')) cs:=by
  have k2:∀a o,H a=some o->a≠l->upd H l (qQ l es' ep') a=some o:=λa o e ne=>by rw[q5 ne];exact e
  refine⟨λa zs e=>k2 a _ e λz=>?_,λa o u e=>k2 a _ e λz=>?_,λa ha o e=>k2 a o e λz=>nc (z▸ha)⟩
  ·subst z;rw[hH]at e;cases e
  ·subst z;rw[hH]at e;cases e
 refine World.writeAt w hy hl (y':=⟨.rt,.dct kvs',y.v,l::cs⟩) ⟨l,xs',cs,hv,r.kp kp,.inl ⟨es',ep',x3,hs,h2,h3,h4,λn hn=>PuR.kp kp (h5 n hn),h6⟩,rfl⟩ (by simp[Sl.own]) (λa h=>?_) (λa h=>?_) (λa h z=>?_)
 ·have:a=l:=by simpa [Sl.own]using h
  subst this;exact .inl hl
 ·rcases hc a (by simpa [Sl.frz]using h)with q|q
  ·exact .inl (by rw[ha];exact lc9 _ q)
  ·exact .inr q
 ·have:a=l:=by simpa [Sl.own]using h
  subst this;exact nc (by simpa [Sl.frz]using z)
abbrev vvh(K:Frag)(td ty tv:TE):TS:=λD σ H=>tv σ H λv H1=>td σ H1 λx H2=>ty σ H2 λy H3=>∃a b k es ep,x=.ref a/\y=.ref b/\H3 a=some (qQ a es ep)/\es.length<=sizeLine/\(es.map (·.1)).Nodup/\(∀n∈es,PuR K H3 n.1.1 (.ref n.2.1))/\PuR K H3 k.1 (.ref b)/\∀r ep',RelV v r->D.nx σ (upd H3 a (qQ a (storedH es k b r) ep'))
theorem qvm{X:Cx}{o i value:Expr}{td ty tv:TE}{pos ao:Pos}(hu:X.A.units+64<cLine)(ho:PE X o td)(hi:PE X i ty)(hv:PE X value tv)(hs:swapsWith value (some (.Subscript o i ao)) pos.line X.env=pure false):
  PS X (.Assign [.Subscript o i ao] value pos) (vvh X.K td ty tv):=by
 intro pins s σ H D I h;refine wpAny_Assign_Subscript (thn (hv pins s σ H _ I h) λr s1 hq1=>?_) hs;obtain⟨v,H1,I1,rv,q1⟩:=hq1;refine thn (ho pins s1 σ H1 _ I1 q1) λu s2 hq2=>?_
 obtain⟨x,H2,I2,rx,q2⟩:=hq2;refine thn (hi pins s2 σ H2 _ I2 q2) λiv s3 hq3=>?_
 obtain⟨y,H3,I3,ry,a,b,k,es,ep,ex,ey,e,h2,h3,h5,hk,q3⟩:=hq3;subst ex ey;obtain rfl:u=Value.ref a:=rx;obtain rfl:iv=Value.ref b:=ry;exact vxt hu I3 e h2 h3 h5 hk λep' s4 I4=>⟨σ,_,I4,q3 r ep' rv⟩
section
variable {X:Cx}{Z:Fx0}{pn:List Nat}{q:Bool}{kc vc:Ex}{o ke ve:Expr}{pos ao:Pos}
theorem wjq {i:Nat} (hu:X.A.units+64<cLine) (hK:X.K=Z.K) (ho:PE X o (z4 i)) (hk:QV X Z true kc ke) (hv:QE X Z q vc ve) (hs:autoParam (swapsWith ve (some (.Subscript o ke ao)) pos.line X.env=pure false) Ŕ):
  QS X Z pn (qzu i kc vc) (.Assign [.Subscript o ke ao] ve pos):=J4 (qvm hu ho hk hv hs) λD σ H ah=>ex7 ah λE L r m w hr k=>
 Kv m w hr k λE1 s1 h1 x L1 H1 e1 e2 m1 w1 fe _=>by
  by_cases hd:vxa E1[i]?=true
  ·rw [X8 hd]at h1;obtain ⟨d0,pi⟩:∃d0,E1[i]?=some (some (.rt,d0)):=by
    cases h0:E1[i]? with
    | none=>rw[h0]at hd;cases hd
    | some s0=>
     cases s0 with
     | none=>rw[h0]at hd;cases hd
     | some s0=>
      obtain⟨oo,dd⟩:=s0;cases oo with| rt=>exact⟨dd,rfl⟩| no=>rw[h0]at hd;cases hd| dp=>rw[h0]at hd;cases hd
   obtain ⟨y0,a1,a2,a3,a4⟩:=m1.get pi;refine ⟨y0.v,a4,?_⟩;have stL:Step H L H1 L1:=fe.trans Step.drop;rcases jw0 h1 with⟨E2,ky,kg,cn⟩|⟨E2,c,kg,rfl⟩
   ·refine⟨E1,L1,_,m1,w1.tail,kg,(λ_ _ z=>by cases z),λE' s' z zk L2 H2 f1 f2 m2 w2 okz frz _ bg sm=>?_⟩;injection z with z1 z2;subst z1 z2;cases hE:E2[i]? with
    | none=>rw[hE]at cn;cases cn
    | some s2=>
     cases s2 with
     | none=>rw[hE]at cn;cases cn
     | some s2=>
      obtain⟨oo,dd⟩:=s2;rw [hE]at cn;cases oo with
      | no=>cases dd<;>cases cn| dp=>cases dd<;>cases cn
      | rt=>
       cases dd with
       | dct kvs=>
        dsimp only at cn
        by_cases hc:v4 ky.2=true/\kvs.length<big/\unm kvs=true
        ·rw[X8 hc]at cn;cases oq9 cn;obtain⟨y,b1,b2,b3,b4⟩:=m2.get hE;have hyv:y.v=y0.v:=by rw[a4]at b4;exact(oq9 (oq9 b4)).symm
         obtain⟨w3,dh⟩:=ZV (T:=[some x]) w1 bg w2;have oky:y.ok Z.K H2:=w2.ok y (v5 b1);obtain⟨yo,yd,yv,yas⟩:=y;dsimp only at b2 b3 hyv;subst b2 b3;obtain⟨a,xs,bs,e4,rp,q4,e5⟩:=(show RepR Z.K H2 (.dct kvs) yv yas from oky);obtain⟨es,ep,g1,g2,g3,g4,g5,g6,g7⟩:=DcA.un q4 hc.2.2;have js:v4 zk.d=true:=by rw[f2];exact hc.1
         obtain⟨b,eb,pb⟩:=jw9 okz js;have ja:jK 6 zk.d=true:=by unfold v4 at js;rw[Bool.and_eq_true]at js;exact js.1
         have ab:es.length<sizeLine:=by
          have:=congrArg List.length g5;rw[X3,X3]at this;rw[<-this];exact hc.2.1
         have rx:RepL Z.K H2 true s1.2 x.v x.as:=by rw[<-e2];exact RepO.wk (w3.ok x X6)
         refine⟨a,b,⟨zk.d,ja⟩,es,ep,hyv▸e4,eb,g1,g3,g4,by rw[hK];exact g6,by rw[hK];exact pb,λrr ep' hrr=>?_⟩;obtain⟨xs',cp,p1,p2,p3,p4,p5,p6,p7⟩:=vvw (k:=⟨zk.d,ja⟩) (b:=b) rx hrr rp g5 g7 g4 g6 pb;obtain⟨w4,i8⟩:=qvj (ep':=ep') (T:=[some x]) (i:=i) (y:=⟨.rt,.dct kvs,yv,yas⟩) w3 b1 g1 rfl e5 e4 p1 (λc hc'=>(p7 c hc').imp id λz=>by
          rcases Sl.as_of z with z|z
          ·exact .inl (by simpa using z)
          ·exact .inr (by simpa using z)) g2 ⋯ p4 p2 p5 p3
         have jf:Step H L _ _:=(fe.trans dh).trans i8;refine k σ _ _ Pn.refl ?_ w4 jf;have:=m2.set (x:=⟨.rt,.dct (Qw kvs zk.d s1.2),yv,a::cp⟩) i;rw[Vz b4]at this;rw[<-f2];exact this
        ·rw[Xf hc]at cn;cases cn
       |_=>cases cn
   ·exact⟨E1,L1,_,m1,w1.tail,kg,(λE' c' e C L' H' hm m' w' st=>by injection e with z1 z2;subst z1 z2;exact k C σ L' H' hm Pn.refl m' w' (stL.trans st)),λE' s' z=>by cases z⟩
  ·rw[Xf hd]at h1;cases h1
end
def wqn(K:Frag)(p:Addr)(Q:VK)(ps:List (V×V))(H2:Hp):Prop:=∃x y,ps=[(x,y)]/\H2 p=some (qQ p [] 0)/\∃(b:Addr) (kd:Kd),x=.ref b/\PuR K H2 kd.1 (.ref b)/\∀r ep',RelV y r->Q (.ref p) (upd H2 p (qQ p [(kd,b,r)] ep'))
abbrev wwd(K:Frag)(tk tv:TE):TE:=fun σ H Q=>∀p,H p=none->(p==sysModules)=false->tk σ (upd H p (qQ p [] 0)) λx H1=>tv σ H1 λy H2=>wqn K p Q [(x,y)] H2
theorem vwe{X:Cx}{K:Frag}{pos:Pos}{k v:Expr}{tk tv:TE}(hu:X.A.units+64<cLine)(hk:PE X k tk)(hv:PE X v tv)(hK:autoParam (X.K=K) Ŕ):PE X (.Dict [some k] [v] pos) (wwd K tk tv):=by
 subst hK;intro pins s σ H Q I h;have hn:=I.hok.fresh (Xb s.heap.objs.size);have I1:=I.laid (a:=s.heap.objs.size) (o:=qQ s.heap.objs.size [] 0) (h':=s.heap.push { cls:=.type "dict",data:=.dict #[] }) (t':=s.toks) (λ_ _ q=>X2 _ q) (Xb _) (vxu s.heap);refine wpAny_Dict_any rfl rfl (by simp) (by simp) (thn (vj8 hk hv vw6 pins _ σ _ (wqn X.K s.heap.objs.size Q) I1 (h _ hn (Y8 (Nat.ne_of_gt I.big)))) λvs s2 hz=>?_);obtain⟨ps,H2,I2,gh,x,y,ep,e,b,kd,ex,pk,q⟩:=hz;subst ep ex;cases gh with
 |@cons p1 p2 t1 t2 h1 h2=>
  cases h2;obtain⟨u,r⟩:=p2;obtain rfl:u=Value.ref b:=h1.1;have h1:RelV y r:=h1.2;unfold storeAll;rw[List.forIn_cons];refine X0 (X0 (wpAny_dictSet_heap (knd:=ZZ X.prog X.w) (xs:=[]) (k:=kd) (by show X.A.units+40<cLine;omega) (VW I2 pk rfl) (qjr I2 e Xs (λ_ z=>absurd z Xv)) (λh' dd hs=>X5 ?_) (Yd _)));show wpAny (model X.prog X.w) X.A (forIn [] PUnit.unit _) _ _ _;rw[List.forIn_nil];refine X5 ?_;obtain⟨o,ds,ep',hq,g2,g3,g4,_,_⟩:=dd;exact⟨.ref s.heap.objs.size,_,qxp (ob:=qQ s.heap.objs.size [(kd,b,r)] ep') I2 (by rw[e];exact True.intro) hs ⟨o,hq⟩ ⟨⟨o,ds,hq,g2,g3,g4⟩,⟨o,hq⟩,λh1 h2 ⟨o,ds,a1,a2⟩ k=>⟨o,ds,k o a1,a2⟩⟩,rfl,q r ep' h1⟩
section
variable {X:Cx}{Z:Fx0}{q:Bool}{kc vc:Ex}{ke ve:Expr}{pos:Pos}
theorem wjr(hu:X.A.units+64<cLine)(hk:QE X Z q kc ke)(hv:QE X Z q vc ve)(hK:autoParam (X.K=Z.K) Ŕ):QE X Z q (vkb kc vc) (.Dict [some ke] [ve] pos):=q9 (vwe hu hk hv hK) fun σ H Q ah=>ex8 ah λE L r m w hc xc k=>by
 intro p hp hs;have nu:jY H (upd H p (qQ p [] 0)):=wZ hp;have st0:Step H L (upd H p (qQ p [] 0)) L:=⟨λb ob h _=>nu b ob h,λ_ h=>.inl h,λ_ h=>.inl h⟩;have nL:p∉j8 L:=λz=>w.own_some z hp
 have nF:p∉jQ L:=λz=>w.frz_some z hp
 have w0:World Z.K (upd H p (qQ p [] 0)) L:=⟨λt ht=>RepO.kp (w.ok t ht) (Kp.of_same nu),w.nd,w.ds⟩;have wd:World Z.K (upd H p (qQ p [] 0)) ([some ⟨.rt,.dct [],.ref p,[p]⟩]++L):=by
  refine World.cons w0 ⟨p,[],[],rfl,by unfold RepP;exact⟨rfl,rfl⟩,.inl ⟨[],0,x3,hs,Yd _,Xs,rfl,λ_ z=>absurd z Xv,Paired.nil⟩,rfl⟩ (by simp[Sl.own]) (λb hb ho=>?_) (λb hb ho=>?_) (λb hb=>by simp[Sl.frz]at hb) (λb _ hb=>by simp[Sl.frz]at hb)
  ·have:b=p:=by simpa [Sl.own]using hb
   exact nL (this▸ho)
  ·have:b=p:=by simpa [Sl.own]using hb
   exact nF (this▸ho)
 refine WX m w0 (show bnd (kc E) _=some r from hc) (xc.step st0) λE1 s1 h1 x L1 H1 e1 e2 m1 w1 fe iz=>?_
 obtain⟨wd1,sd1⟩:=ZV wd fe w1;have s1':Step H L H1 L1:=(st0.trans fe).trans Step.drop;refine WX m1 w1.tail (show bnd (vc E1) _=some r from h1) (xc.step s1') λE2 s2 h2 y L2 H2 e3 e4 m2 w2 bg dg=>?_
 have pm:(([some ⟨.rt,.dct [],.ref p,[p]⟩]:Ls)++(some x::L1)).Perm (([some x,some ⟨.rt,.dct [],.ref p,[p]⟩]:Ls)++L1):=List.Perm.swap _ _ _;obtain⟨wd2,sd2⟩:=ZV (wd1.perm pm) bg w2;have qt:(([some x,some ⟨.rt,.dct [],.ref p,[p]⟩]:Ls)++(some y::L2)).Perm (([some x,some y]:Ls)++(some ⟨.rt,.dct [],.ref p,[p]⟩::L2)):=List.Perm.cons _ (List.Perm.swap _ _ _);have w3:=wd2.perm qt;have dh:Step (upd H p (qQ p [] 0)) ([some ⟨.rt,.dct [],.ref p,[p]⟩]++L) H2 ([some x,some y]++(some ⟨.rt,.dct [],.ref p,[p]⟩::L2)):=(sd1.perm (List.Perm.refl _) pm).trans (sd2.perm (List.Perm.refl _) qt)
 by_cases sf:v4 s1.2=true
 ·rw [X8 sf]at h2;cases oq9 h2;have iy:x.ok Z.K H2:=w3.ok x (by simp);have js:v4 x.d=true:=by rw[e2];exact sf
  obtain⟨b,eb,pb⟩:=jw9 iy js;have ja:jK 6 x.d=true:=by unfold v4 at js;rw[Bool.and_eq_true]at js;exact js.1
  obtain⟨a,xs0,bs0,ea,_,q4,_⟩:=(show RepR Z.K H2 (.dct []) (.ref p) [p]from w3.ok ⟨.rt,.dct [],.ref p,[p]⟩ (by simp));obtain⟨es,ep,g1,_⟩:=DcA.un (kvs:=[]) q4 rfl;have hH2:H2 p=some (qQ p [] 0):=by
   have n1:p∉j8 (some x::L1):=λz=>by
    rcases fe.own p z with z|z
    ·exact nL z
    ·rw[x3]at z;cases z
   have hH1:H1 p=some (qQ p [] 0):=fe.keep p _ x3 nL;exact bg.keep p _ hH1 λz=>n1 (by rw[k3];exact lr9 _ z)
  have rv:RepL Z.K H2 true s2.2 y.v y.as:=by rw[<-e4];exact RepO.wk (w3.ok y (by simp))
  refine⟨x.v,y.v,rfl,hH2,b,⟨x.d,ja⟩,eb,pb,λrr ep' hrr=>?_⟩;obtain⟨w4,i8⟩:=qvj (ep':=ep') (es':=[(⟨x.d,ja⟩,b,rr)]) (xs':=[y.v]) (cs:=y.as) (kvs':=[(x.d,s2.2)]) (bs:=[]) (i:=0) (y:=⟨.rt,.dct [],.ref p,[p]⟩) w3 rfl hH2 rfl rfl rfl
   (by unfold RepP;exact⟨y.v,[],y.as,[],rfl,by simp,rv,by unfold RepP;exact⟨rfl,rfl⟩⟩)
   (λc hc'=>.inr (by
    rcases Sl.as_of hc' with z|z
    ·exact .inl (by simpa using .inr z)
    ·exact .inr (by simpa using .inr z))) hs (by show(1:Nat)<=sizeLine;decide) (List.nodup_cons.mpr ⟨Xv,Xs⟩) rfl (λn hn=>by rw[aC hn];exact pb) (.cons hrr .nil)
  have stA:Step (upd H p (qQ p [] 0)) ([some ⟨.rt,.dct [],.ref p,[p]⟩]++L) _ _:=dh.trans i8;refine k _ _ rfl ⟨.rt,.dct [(x.d,s2.2)],.ref p,p::y.as⟩ L2 _ rfl (congrArg (λd=>D.dct [(d,s2.2)]) e2) m2 w4 ?_ λhq=>?_
  ·refine⟨λc ob h hn=>stA.keep c ob (nu c ob h) λz=>?_,λc hc'=>?_,λc hc'=>?_⟩
   ·rw[List.singleton_append,k3]at z;rcases aA z with z|z
    ·have:c=p:=by simpa [Sl.own]using z
     rw[this,hp]at h;cases h
    ·exact hn z
   ·rcases stA.own c hc' with z|z
    ·rw[List.singleton_append,k3]at z;rcases aA z with z|z
     ·have:c=p:=by simpa [Sl.own]using z
      exact .inr (this▸hp)
     ·exact .inl z
    ·exact .inr (by
      cases hc0:H c with
      |none=>rfl
      |some ob=>rw[nu c ob hc0]at z;cases z)
   ·have hcp:c=p->H c=none:=λz=>z▸hp
    rcases stA.frz c hc' with z|z|z
    ·rw[List.singleton_append,qY]at z;rcases aA z with z|z
     ·simp[Sl.frz]at z
     ·exact .inl z
    ·rw[List.singleton_append,k3]at z;rcases aA z with z|z
     ·have:c=p:=by simpa [Sl.own]using z
      exact .inr (.inr (this▸hp))
     ·exact .inr (.inl z)
    ·exact .inr (.inr (by
      cases hc0:H c with
      |none=>rfl
      |some ob=>rw[nu c ob hc0]at z;cases z))
  ·refine⟨λc ob h=>?_,λc hc'=>?_⟩
   ·have b8:c≠p:=λz=>by rw[z,hp]at h;cases h
    rw[q5 b8];exact(dg hq).1 c ob ((iz hq).1 c ob (nu c ob h))
   ·have:c=p:=by simpa [Sl.own]using hc'
    exact this▸hp
 ·rw[Xf sf]at h2;cases h2
end
theorem RepA.put{K:Frag}{H:Hp}{g:Bool}{d:D}{x:V}{cs:List Addr}(hx:RepL K H g d x cs):∀{ds:List D} {xs:List V} {bs:List Addr} (n:Nat),RepA K H g ds xs bs->∃es,RepA K H g (ds.set n d) (xs.set n x) es/\∀a∈es,a∈bs\/a∈cs
 | [],_,bs,n,h=>by
  have h0:=h;unfold RepA at h0;obtain⟨rfl,rfl⟩:=h0;exact⟨[],by simpa using h,λ_ z=>nomatch z⟩
 | e::ds,_,_,n,h=>by
  unfold RepA at h;obtain⟨y,r,b1,b2,rfl,rfl,h1,h2⟩:=h;cases n with
  | zero=>
   refine⟨cs++b2,?_,λa ha=>?_⟩
   ·rw[List.set_cons_zero,List.set_cons_zero];unfold RepA;exact⟨x,r,cs,b2,rfl,rfl,hx,h2⟩
   ·rcases aA ha with z|z
    ·exact .inr z
    ·exact .inl (lr9 _ z)
  | succ n=>
   obtain⟨es,i1,i2⟩:=RepA.put hx n h2;refine⟨b1++es,?_,λa ha=>?_⟩
   ·rw[List.set_cons_succ,List.set_cons_succ];unfold RepA;exact⟨y,r.set n x,b1,es,rfl,rfl,h1,i1⟩
   ·rcases aA ha with z|z
    ·exact .inl (ll9 _ z)
    ·exact(i2 a z).imp (lr9 _) id
section
variable {X:Cx}{Z:Fx0}{pn:List Nat}{q:Bool}{kc vc:Ex}{o ke ve:Expr}{pos ao:Pos}
theorem wwr {i:Nat} (ho:PE X o (z4 i)) (hk:QV X Z true kc ke) (hv:QE X Z q vc ve) (hs:autoParam (swapsWithSole [.Subscript o ke ao] ve pos.line X.env=pure false) Ŕ) (hw:autoParam (swappedStores [.Subscript o ke ao] ve X.env=pure none) Ŕ)
  (h1:autoParam ((assignEach [.Subscript o ke ao] X.env).map (·.2)=[assign (.Subscript o ke ao) X.env]) Ŕ)
  (ha:autoParam (∀ v,assign (.Subscript o ke ao) X.env v=(do
   let ov <-holding [v] (eval o X.env)
   let iv <-holding [v,ov] (eval ke X.env)
   standAt ao
   holding [v,ov,iv] (setItem ov iv v)
   release [v,ov,iv] [])) Ŗ):
  QS X Z pn (wvt i kc vc) (.Assign [.Subscript o ke ao] ve pos):=J4 (qvn hv (vq5 ho hk kzw ha) hs hw h1) λD σ H ah=>ex7 ah λE L r m w hr k=>
 Kv m w hr k λE1 s1 h1 x L1 H1 e1 e2 m1 w1 fe _=>by
  by_cases hd:Kw E1[i]?=true
  ·rw [X8 hd]at h1;obtain ⟨s0,pi⟩:∃s0,E1[i]?=some (some s0):=by
    cases h0:E1[i]? with
    | none=>rw[h0]at hd;cases hd
    | some s0=>
     cases s0 with| none=>rw[h0]at hd;cases hd| some s0=>exact⟨s0,rfl⟩
   obtain ⟨y0,a1,a2,a3,a4⟩:=m1.get pi;refine ⟨y0.v,a4,?_⟩;have stL:Step H L H1 L1:=fe.trans Step.drop;rcases jw0 h1 with⟨E2,ky,kg,cn⟩|⟨E2,c,kg,rfl⟩
   ·refine ⟨E1,L1,_,m1,w1.tail,kg,(λ_ _ z=>by cases z),λE' s' z zk L2 H2 f1 f2 m2 w2 okz frz _ bg sm=>?_⟩;injection z with z1 z2;subst z1 z2;cases hE:E2[i]? with
    | none=>rw[hE]at cn;cases cn
    | some s2=>
     cases s2 with
     | none=>rw[hE]at cn;cases cn
     | some s2=>
      obtain⟨oo,dd⟩:=s2;rw [hE]at cn;cases dd with
      | lst ds=>
       cases hkd:ky.2 with
       | int j=>
        rw [hkd]at cn;dsimp only at cn
        by_cases gf:oo=.no
        ·rw[X8 gf]at cn;cases cn
        ·rw[Xf gf]at cn;cases hj:ixN ds.length j with
         | none=>rw[hj]at cn;cases cn
         | some n=>
          rw[hj]at cn;cases oq9 cn;obtain⟨y,b1,b2,b3,b4⟩:=m2.get hE;have hyv:y.v=y0.v:=by rw[a4]at b4;exact(oq9 (oq9 b4)).symm
          obtain⟨w3,dh⟩:=ZV (T:=[some x]) w1 bg w2;obtain⟨l,xs,bs,c1,c2,c3,c4,c5⟩:=W3 (w2.ok y (v5 b1)) b3 (by rw[b2];exact gf);have c6:RepA Z.K H2 true ds xs bs:=by
           cases hb:(y.o != .dp)with|true=>rw[hb]at c5;exact c5|false=>rw[hb]at c5;exact c5.wk
          have rx:RepL Z.K H2 true s1.2 x.v x.as:=by rw[<-e2];exact RepO.wk (w3.ok x X6)
          obtain⟨es,g1,g2⟩:=RepA.put rx n c6;obtain⟨w4,i8⟩:=kq7 (T:=[some x]) (o':=.rt) (ds':=ds.set n s1.2) (xs':=xs.set n x.v) w3 b1 c2 c3 c4 c1 g1 (.inl ⟨rfl,λa ha=>(g2 a ha).imp id λz=>by
           rcases Sl.as_of z with z|z
           ·exact .inl (by simpa using z)
           ·exact .inr (by simpa using z)⟩)
          have js:zk.v=.int j:=kX okz (by rw[f2];exact hkd);refine⟨l,xs,j,n,hyv▸c1,js,c2,by rw[<-c6.len,<-qwy];exact hj,?_⟩;have jf:Step H L _ _:=(fe.trans dh).trans i8;refine k σ _ _ Pn.refl ?_ w4 jf;have:=m2.set (x:=⟨.rt,.lst (ds.set n s1.2),y.v,l::es⟩) i;rw[Vz b4]at this;exact this
       |_=>rw[hkd]at cn;cases cn
      |_=>cases cn
   ·exact⟨E1,L1,_,m1,w1.tail,kg,(λE' c' e C L' H' hm m' w' st=>by injection e with z1 z2;subst z1 z2;exact k C σ L' H' hm Pn.refl m' w' (stL.trans st)),λE' s' z=>by cases z⟩
  ·rw[Xf hd]at h1;cases h1
theorem wju{i:Nat}{y:Str}{op:Operator}{f:Int->Int->Int}(hN:X.N.Nodup)(hi:X.N[i]?=some y)(hx:Loc X.env.scope y)(ho:PIp X op (ipI f))(h:QE X Z q vc ve)(hp:autoParam (i∉pn) ŕ)(hf:autoParam (X.fn y=true\/X.env.scope.names.lookup y=some .local) Ř):
  QS X Z pn (W1 f i vc) (.AugAssign (.Name y ao) op ve pos):=J4 (wk3 hN hi hx h ho hf) λD σ H ah=>ex7 ah λE L r m w hr k=>by
 unfold W1 at hr;cases hE:E[i]? with
 | none=>rw[hE]at hr;cases hr
 | some s0=>
  cases s0 with
  | none=>rw[hE]at hr;cases hr
  | some s0=>
   obtain⟨oo,dd⟩:=s0;rw [hE]at hr;cases dd with
   | int a=>
    dsimp only at hr;obtain⟨x0,a1,a2,a3,a4⟩:=m.get hE;have ha:x0.v=.int a:=kX (w.ok x0 (v5 a1)) a3;refine⟨x0.v,a4,?_⟩;refine Kv m w hr k λE1 s h1 x L1 H1 e1 e2 m1 w1 st _=>?_
    cases hs:s.2 with
    | int b=>
     rw[hs]at h1;cases oq9 h1;refine⟨a,b,ha,kX w1.head (by rw[e2];exact hs),?_⟩;have w2:World Z.K H1 (some ⟨.dp,.int (f a b),.int (f a b),[]⟩::L1):=w1.tail.cons (show RepL Z.K H1 false (.int (f a b)) (.int (f a b)) []from wq) Xs (λ_ z=>nomatch z) (λ_ z=>nomatch z) (λ_ z=>nomatch z) (λ_ z=>nomatch z);have s2:Step H L H1 (some ⟨.dp,.int (f a b),.int (f a b),[]⟩::L1):=by
      refine⟨st.keep,λb hb=>st.own b ?_,λb hb=>st.frz b ?_⟩
      ·rw[k3]at hb ⊢;rcases aA hb with z|z
       ·exact nomatch z
       ·exact lr9 _ z
      ·rw[qY]at hb ⊢;rcases aA hb with z|z
       ·exact nomatch z
       ·exact lr9 _ z
     exact k (σ.set i (some (.int (f a b)))) (L1.set i (some ⟨.dp,.int (f a b),.int (f a b),[]⟩)) H1 (Pn.refl.set hp) (Wq (x:=⟨.dp,.int (f a b),.int (f a b),[]⟩) m1 rfl rfl) w2.set (s2.trans Step.set)
    |_=>rw[hs]at h1;cases h1
   |_=>cases hr
end
abbrev dkI(kv:List (Int×Int)):List (Key×V):=kv.map λp=>(Sum.inl p.1,V.int p.2)
theorem vzn(kv:List (Int×Int))(k:Int):zY (dkI kv) (Sum.inl k)=(jZ kv k).map V.int:=by
 induction kv with
 | nil=>rfl
 | cons p r ih=>
  unfold zY jZ at ih ⊢;rw[show dkI (p::r)=(Sum.inl p.1,V.int p.2)::dkI r from rfl,Yj,Yj]
  by_cases h:p.1=k
  ·have h1:decide ((Sum.inl p.1:Key)=Sum.inl k)=true:=Xi (by rw[h]);have h2:decide (p.1=k)=true:=Xi h;simp only[h1,h2];rfl
  ·have h1:decide ((Sum.inl p.1:Key)=Sum.inl k)=false:=Xj λz=>h (Sum.inl.inj z)
   have h2:decide (p.1=k)=false:=Xj h;simp only[h1,h2];exact ih
theorem wjy(kv:List (Int×Int))(k v:Int):wvu (dkI kv) (Sum.inl k) (V.int v)=dkI (qX kv k v):=by
 have ha:((dkI kv).any λp=>decide (p.1=(Sum.inl k:Key)))=kv.any λp=>decide (p.1=k):=by
  unfold dkI;rw[List.any_map]
  congr 1
  funext p;show decide ((Sum.inl p.1:Key)=Sum.inl k)=decide (p.1=k);exact decide_eq_decide.mpr ⟨λz=>Sum.inl.inj z,λz=>by rw[z]⟩
 unfold wvu qX;rw[ha]
 by_cases h:(kv.any λp=>decide (p.1=k))=true
 ·rw[X8 h,X8 h];unfold dkI;rw[Xm,Xm];refine Yf λp _=>?_
  show(if(Sum.inl p.1:Key)=Sum.inl k then _ else _)=_
  by_cases z:p.1=k
  ·rw[X8 (by rw[z])];show _=(Sum.inl (if p.1=k then(p.1,v)else p).1,V.int (if p.1=k then(p.1,v)else p).2);rw[X8 z]
  ·rw[Xf λq=>z (Sum.inl.inj q)];show _=(Sum.inl (if p.1=k then(p.1,v)else p).1,V.int (if p.1=k then(p.1,v)else p).2);rw[Xf z]
 ·rw[Xf h,Xf h];unfold dkI;rw[X9];rfl
theorem kwk : ∀{kvs : List (D × D)} {kv : List (Int × Int)}, KW kvs = some kv -> kvs = kv.map λp=>(D.int p.1, D.int p.2)
  | [], kv, h=>by cases oq9 h; rfl
  | (a, b)::r, kv, h=>by
    cases a with
    | int k=>
      cases b with
      | int v=>
        have h : (KW r).map ((k, v):: ·) = some kv:= h;cases hr : KW r with
        | none=>rw[hr]at h; cases h
        | some q=>
          rw[hr]at h;cases oq9 h;rw[List.map_cons, <-kwk hr]
      |_=>cases h
    |_=>cases b <;> cases h
theorem kwj : ∀(kv : List (Int × Int)), KW (kv.map λp=>(D.int p.1, D.int p.2)) = some kv
  | []=>rfl
  | (a, b)::r=>by
    show(KW (r.map λp=>(D.int p.1, D.int p.2))).map ((a, b):: ·) = _;rw[kwj r]; rfl
theorem vqj(kv:List (Int×Int)):V5 (Kk kv)=some kv:=kwj kv
theorem kvo{K:Frag}{H:Hp}{g:Bool}:∀{kv:List (Int×Int)} {xs:List V} {bs:List Addr},RepP K H g (kv.map λp=>(D.int p.1,D.int p.2)) xs bs->xs=kv.map λp=>V.int p.2
 |[],_,_,h=>by
  have h:RepP K H g [] _ _:=h;unfold RepP at h;exact h.1
 |p::r,_,_,h=>by
  rw[List.map_cons]at h;unfold RepP at h;obtain⟨y,rr,b1,b2,rfl,_,h1,h2⟩:=h;unfold RepL at h1;rw[h1.1,kvo h2,List.map_cons]
theorem kwh{K:Frag}{H:Hp}{g:Bool}:∀(kv:List (Int×Int)),RepP K H g (kv.map λp=>(D.int p.1,D.int p.2)) (kv.map λp=>V.int p.2) []
 |[]=>by show RepP K H g [] [] [];unfold RepP;exact⟨rfl,rfl⟩
 |p::r=>by
  rw[List.map_cons,List.map_cons];unfold RepP;exact⟨_,_,[],[],rfl,rfl,wq,kwh r⟩
theorem vwu{K:Frag}{H:Hp}{g:Bool}(kv:List (Int×Int)):RepP K H g (mkD::kv.map λp=>(D.int p.1,D.int p.2)) (V.non::kv.map λp=>V.int p.2) []:=by
 unfold mkD RepP;exact⟨_,_,[],[],rfl,rfl,by unfold RepL;exact⟨rfl,rfl⟩,kwh kv⟩
theorem qjl:∀{a:List (Int×V)} {kv:List (Int×Int)},(kv.map λp=>D.int p.1)=a.map (λp=>D.int p.1)->(kv.map λp=>V.int p.2)=a.map (·.2)->(a.map λp=>((Sum.inl p.1:Key),p.2))=dkI kv
 |[],[],_,_=>rfl|[],_::_,h,_=>by simp at h|_::_,[],h,_=>by simp at h
 |p::a,q::kv,h,h'=>by
  rw[List.map_cons,List.map_cons]at h h';injection h with h1 h2;injection h' with h3 h4;injection h1 with h1;unfold dkI;rw[List.map_cons,List.map_cons,qjl h2 h4,<-h1,<-h3]
theorem vqm{K:Frag}{H:Hp}{y:Sl}{kv:List (Int×Int)}(ok:y.ok K H)(hd:V5 y.d=some kv):∃a,y.v=.ref a/\H a=some (.dK (dkI kv))/\∃bs,y.as=a::bs:=by
 have h:=RepO.wk ok;cases hy:y.d with
 | dct kvs=>
  rw [hy]at hd h;cases kvs with
  | nil=>cases hd
  | cons e kvs=>
   obtain⟨a,b⟩:=e;cases a with
   | str m=>
    cases b with
    | non=>
     have hd:KW kvs=some kv:=hd;have e:=kwk hd;subst e;unfold RepL at h;obtain⟨a,xs,bs,ev,rp,qa,eas⟩:=h;rcases qa with⟨es,ep,_,_,_,_,g5,g6,_⟩|⟨kvn,mm,g1,g2,g3⟩
     ·exfalso;rw[List.map_cons]at g5;cases es with
      |nil=>cases g5
      |cons n es=>
       rw[List.map_cons]at g5;injection g5 with g5 _;have:=g6 n X6;rw[<-g5]at this;unfold PuR at this;exact this
     ·refine⟨a,ev,?_,bs,eas⟩;rw[g1]
      congr 2
      unfold RepP at rp;obtain⟨y1,rr,_,_,rfl,_,_,r2⟩:=rp;have e1:=kvo r2;rw[List.map_cons,Xm]at g2;injection g2 with _ g2;injection g3 with _ g3;refine qjl g2 ?_;rw[<-e1];exact g3
    |_=>cases hd
   |_=>cases b<;>cases hd
 |_=>rw[hy]at hd;cases hd
section
def wzn(ij:Bool):R2:=λx y H Q=>∃(k:Int) (a:Addr) (kv:List (Int×Int)),x=.int k/\y=.ref a/\H a=some (.dK (dkI kv))/\Q (.bl (if ij then !(jZ kv k).isSome else(jZ kv k).isSome)) H
theorem vqn{H:Hp}{a:Addr}{kv:List (Int×Int)}(k:Int)(e:H a=some (.dK (dkI kv))):DGet H a (.int k) ((jZ kv k).map V.int):=by
 rw[<-vzn];exact DGet.k (k:=Sum.inl k) e
theorem wxc{X:Cx}(hu:X.A.units+64<cLine):OpR X (compareOp .In) (wzn false):=by
 intro pins s σ H x y u v Q I rx ry ⟨k,a,kv,e1,e2,hd,q⟩;subst e1 e2;cases ry;refine d_in ⋯ I (vqn k hd) rx λs' I'=>⟨.bl _,H,I',rfl,?_⟩
 rw[Option.isSome_map];exact q
theorem wvj{K:Frag}:Ad2 K (wzn false) (pu2 V9):=by
 intro H x y s Q ox oy hf k;unfold pu2 V9 at hf;dsimp only at hf;cases hx:x.d with
 | int j=>
  rw[hx]at hf;cases hi:V5 y.d with
  |none=>rw[hi]at hf;cases hf
  |some kv=>
   rw[hi]at hf;cases oq9 hf;obtain⟨a,e,q,_⟩:=vqm oy hi;exact⟨j,a,kv,kX ox hx,e,q,k ⟨.dp,.bl _,.bl _,[]⟩ H rfl rfl wX⟩
 |_=>rw[hx]at hf;cases hf
theorem wva(x y s:Sd)(h:pu2 V9 x y=some s):∃k,s.2=.bl k:=by
 unfold pu2 V9 at h;cases hx:x.2 with
 |int j=>
  rw[hx]at h;cases hi:V5 y.2 with|none=>rw[hi]at h;cases h|some kv=>rw[hi]at h;cases oq9 h;exact⟨_,rfl⟩
 |_=>rw[hx]at h;cases h
end
section
variable {X:Cx}{Z:Fx0}{pn:List Nat}{q qa:Bool}{a b c kc vc:Ex}{o ea eb ec ke ve:Expr}{pos ao ai:Pos}
theorem www(hu:X.A.units+64<cLine)(ha:QV X Z qa a ea)(hb:QV X Z true b eb)(hs:wvm eb):QV X Z qa (wvq a b) (.Subscript ea eb pos):=
 q9 (vwf ⋯ ha hb hs) fun σ H Q ah=>ex8 ah λE L r m w hc xc k=>by
  refine v8 m w (show bnd (a E) _=some r from hc) xc λE1 s h1 x L1 H1 e1 e2 m1 w1 ok fr sr st sm=>?_
  refine v8 m1 w1 h1 (xc.step st) λE2 s2 h2 y L2 H2 e3 e4 m2 w2 fz oz on bg dg=>?_
  obtain⟨z,hz,rfl⟩:=zw h2;have kx:=Q4 ok fr bg (dg rfl);unfold Zx at hz;cases hy:s2.2 with
  | int j=>
   rw [hy]at hz;cases hi:V5 s.2 with
   | none=>rw[hi]at hz;cases hz
   | some kv=>
    rw[hi]at hz;dsimp only at hz;cases hv:jZ kv j with
    | none=>rw[hv]at hz;cases hz
    | some v=>
     rw[hv]at hz;cases oq9 hz;obtain⟨l,e,q,_⟩:=vqm kx.1 (by rw[e2];exact hi);refine⟨l,.int v,e,?_,?_⟩
     ·rw[kX fz (by rw[e4];exact hy)];have:=vqn j q;rw[hv]at this;exact this
     ·exact k _ _ rfl ⟨.dp,.int v,.int v,[]⟩ L2 H2 rfl rfl m2 w2 (show RepL Z.K H2 false (.int v) (.int v) []from wq) (λ_ hb=>nomatch hb) (λ_ hb=>nomatch hb) (st.trans bg) λhq=>qv (sm hq) (dg rfl)
  |_=>rw[hy]at hz;cases hz
theorem vj3(kv:List (Int×Int))(k v:Int):(qX kv k v).length<=kv.length+1:=by
 unfold qX
 split
 ·rw[X3];omega
 ·rw[Xd];simp
end
end Q
namespace PySem
theorem qk9:typeLookup (.type "list") "keys"=pure none:=am_miss_of_fast (by decide +kernel)
theorem kqx{prog:Program}{w:World}{A:Around}{E:VP9}{s:Shared}{a:Addr}{o:Obj}{xs:Array Value}{k:Nat}{Q:Option Value->Shared->Prop}
  (hx:s.heap.get? a=some o) (hc:o.cls=.type "list") (gz:o.data=.seq xs k) (hd:o.dict=none) (hA:A.handled=none)
  (h:∀h' tk,(∀b ob,s.heap.get? b=some ob->h'.get? b=some ob)->Q none { s with heap:=h',toks:=tk }):
  wpAny (model prog w) A (getAttr? (.ref a) "keys") Q E s:=by
 obtain⟨c,dct,dat,sl⟩:=o;simp only at hc gz hd;subst hc gz hd;obtain⟨hp,g,d,tk,os⟩:=s;have hT:∀lw,(⟨hp,g,d,lw,os⟩:Shared).TypeIs (.ref a) "list":=λ_=>⟨_,hx,rfl⟩
 have f1:=sub_AttributeError;have f3:=F.slot_list_getattribute.lookup;have f4:=F.slot_list_getattribute.bind (.ref a);have f5:=am_list_getattr_none;unfold getAttr? getAttrBy? getAttrBy
 repeat (any_goals (first|assumption|exact hT _|((with_reducible show wpAny _ _ (call (Value.builtin "list.__getattribute__") _ _) _ _ _);refine call_meets F.slot_list_getattribute (hT _) am_entry_list_getattribute (F.args_list_getattribute_2 _ _) (meets_getattribute_miss_list a xs k sl "keys" _ qk9 ⋯ ⋯) ⟨hx,hA,λh' lw e hx'=>?_⟩)|wp_step))
 obtain⟨t',u',he⟩:=hx'.there;show wpAny _ _ (getattributeRaised _ _ _ _ _ _ _) _ _ _;unfold getattributeRaised
 repeat (any_goals (first|assumption|wp_step))
 exact h _ _ hx'.keeps
namespace F
theorem entry_dict_update_loop:entryFor table "dict.update.loop"=some Builtin.«dict.update.loop»:=entryFor_of_tree (by kernel_rfl)
theorem plain_dict_update_loop:plainId "dict.update.loop"=true:=by decide +kernel
end F
section
variable {prog:Program}{w:World}{A:Around}{R:Result->Shared->Prop}{I:Addr}{fp wr:List Addr}{G:Array GenState->Array GenState->Prop}{n:Nat}{P:Nat->Value->Prop}{St:Nat->Shared->Prop}{K:Type}[DecidableEq K]{knd:KeyKind prog w K}
theorem qke{s:Shared}{T:Addr}{u v:Value}{E:VP9}{Q:List Value->Shared->Prop}(h:s.heap.IsTuple T #[u,v])(hq:Q [u,v] s):wpAny (model prog w) A (Builtin.Dict.pairItems (.ref T)) Q E s:=by
 obtain⟨o,ho,hc,m,hd⟩:=h;have hT:s.TypeIs (.ref T) "tuple":=⟨o,ho,hc⟩;unfold Builtin.Dict.pairItems;refine X0 (wpAny_typeOf hT ?_);obtain⟨hp,g,d,tk,os⟩:=s;obtain⟨cls,dct,dat,sl⟩:=o;simp only at hc hd;subst hc hd
 repeat (any_goals (first|assumption|wp_step))
theorem jz2(W:WalksS prog w A.in1 I fp wr G n P St)(S:Addr)(ln:S∉fp){h₀:Heap}{more:List (K×Value)}(hn:more.length=n)(hz:n<=sizeLine)
  (jp:∀i v,P i v->∃T u x k,v=.ref T/\T∉S::wr/\h₀.IsTuple T #[u,x]/\more[i]?=some (k,x)/\knd.is k u=true):
  ∀(k i:Nat) (c:Tok) (s:Shared),n - i=k->i<=n->St i s->(∀b o,b∉S::wr->h₀.get? b=some o->s.heap.get? b=some o) ->
   s.heap.DictOf knd S (merged [] (more.take i)) ->
   (∀s',Moved (S::wr) G s s'->s'.heap.DictOf knd S (merged [] more)->R (.ok (.ret .none)) s') ->
   codeAny (model prog w) A (.builtin "dict.update.loop" ⟨[.ref S,.ref I,.int i c,.none],[]⟩) R s:=by
 have rj:S∉wr:=λh=>ln (W.sub _ h)
 have d8:∀b∈wr,b∈S::wr:=λb hb=>lc9 _ hb
 intro k
 induction k with
 | zero=>
  intro i c s hk hi bc hh hS hR;have gc:i=n:=⋯
  subst gc;refine Z6 F.entry_dict_update_loop ?_;rw[Yu F.plain_dict_update_loop _];show wpAny _ A.in1 (pyNext (.ref I) >>= _) _ _ s;refine X0 (W.done s _ _ bc λs' hm=>?_);show wpAny _ A.in1 (Builtin.Dict.addKeywords S [] >>= _) _ _ s';refine X0 (X5 (X5 (hR s' (hm.mono d8) ?_)));rw[<-hn,List.take_length]at hS;obtain⟨o,es,ep,ho,a9⟩:=hS;exact⟨o,es,ep,hm.heap S _ rj ho,a9⟩
 | succ k ih=>
  intro i c s hk hi bc hh hS hR;have cb:i<n:=⋯
  refine Z6 F.entry_dict_update_loop ?_;rw[Yu F.plain_dict_update_loop _];show wpAny _ A.in1 (pyNext (.ref I) >>= _) _ _ s;refine X0 (W.item i s _ _ cb bc λv s' hP mf hm=>?_);obtain⟨T,u,x,kk,rfl,hTn,hT,hmo,im⟩:=jp i v hP;have i9:s'.heap.DictOf knd S (merged [] (more.take i)):=by
   obtain⟨o,es,ep,ho,a9⟩:=hS;exact⟨o,es,ep,hm.heap S _ rj ho,a9⟩
  have pc:s'.heap.IsTuple T #[u,x]:=by
   obtain⟨o,ho,a9⟩:=hT;exact⟨o,hm.heap T o (λz=>hTn (lc9 _ z)) (hh T o hTn ho),a9⟩
  have ff:(merged [] (more.take i)).length<=sizeLine:=by
   have e1:=merged_length_le ([]:List (K×Value)) (more.take i);have e2:(more.take i).length<=more.length:=by rw[Z1];omega
   have e3:([]:List (K×Value)).length=0:=rfl;omega
  show wpAny _ A.in1 (holding [Value.ref T] _ >>= _) _ _ s';refine X0 (Y9 (X0 (wpAny_tryCatch (qke pc ?_))));show wpAny _ A.in1 (holding [u,x] (dictSet S u x)) _ _ s';refine Y9 (wpAny_dictSet_pairs (hsz:=ff) im i9 λh' ju iw=>?_);refine X5 ⟨plainId_quiet F.plain_dict_update_loop _,?_⟩;show codeAny _ _ (.builtin "dict.update.loop" ⟨[.ref S,.ref I,.int ((i+1:Nat):Int) 0,.none],[]⟩) R _;refine ih (i+1) 0 _ ⋯ cb (W.frame _ s' _ _ mf (Nat.le_succ _) λb hb o e=>?_) (λb o hb e=>?_) (by rw[merged_take_succ [] more i (kk,x) hmo];exact ju) λie ma mh=>?_
  ·rw[iw.2 b (λh:b=S=>ln (by rw[<-h];exact hb))];exact e
  ·have hbS:b≠S:=λz=>hb (by rw[z];exact X6)
   show h'.get? b=_;rw[iw.2 b hbS];exact hm.heap b o (λz=>hb (lc9 _ z)) (hh b o hb e)
  ·refine hR ie (Moved.trans W.gtrans ((hm.mono d8).then_heap (Nat.le_succ _) λb o hb e=>?_) ma) mh;rw[iw.2 b (λh:b=S=>hb (by rw[h];exact X6))];exact e
theorem kk5{E:VP9}{s:Shared}{l:Addr}{items:Array Value}{more:List (K×Value)}{o:Obj}{m:Nat}{Q:VP9}
  (hh:A.handled=none) (ho:s.heap.get? l=some o) (hc:o.cls=.type "list") (gz:o.data=.seq items m) (hd:o.dict=none) (hn:more.length=items.size) (hz:items.size<=sizeLine)
  (jp:∀(i:Nat) (v:Value),items[i]?=some v->∃T u x k,v=.ref T/\s.heap.IsTuple T #[u,x]/\more[i]?=some (k,x)/\knd.is k u=true)
  (h:∀(h':Heap) (tk:Nat),h'.DictOf knd s.heap.objs.size (merged [] more)->(∀b o,b<s.heap.objs.size->s.heap.get? b=some o->h'.get? b=some o)->Q (.ref s.heap.objs.size) { s with heap:=h',toks:=tk }):
  wpAny (model prog w) A (call (.type "dict") [.ref l]) Q E s:=by
 refine callType_codes (Q₁:=λobj s₁=>obj=Value.ref s.heap.objs.size/\s₁={ s with heap:=s.heap.push { cls:=Value.type "dict",data:=Data.dict #[] } }) F.kt_called_dict (F.kt_typeCall_dict_1 _) F.entry_dict_init (kt_code_dict_new _ ⟨rfl,rfl⟩) ?_;rintro obj s₁ ⟨rfl,rfl⟩;have de:(s.heap.push { cls:=.type "dict",data:=.dict #[] }).DictOf knd s.heap.objs.size []:=Heap.DictOf.new s.heap;have ik:(s.heap.push { cls:=.type "dict",data:=.dict #[] }).get? l=some o:=X2 _ ho;have hT:Shared.TypeIs { s with heap:=s.heap.push { cls:=.type "dict",data:=.dict #[] } } (.ref l) "list":=⟨_,ik,hc⟩;have pw:l<s.heap.objs.size:=Xg ho;refine⟨de.typeIs,F.args_dict_init_2 _ _,?_⟩;unfold Builtin.«dict.__init__»;refine X0 ?_;unfold Builtin.Dict.selfAndRest;refine X0 (wpAny_notOrdered_dict de.typeIs ?_);show wpAny _ _ (pure (s.heap.objs.size,[Value.ref l])) _ _ _;refine X5 ?_;show wpAny _ _ (Builtin.Dict.updateFrom "dict.__init__" s.heap.objs.size (.ref l) [] .none) _ _ _;unfold Builtin.Dict.updateFrom;refine X0 (wpAny_typeOf hT ?_);rw[X8 ⋯];refine X0 (kqx ik hc gz hd (by simp[hh]) λh' tk hk=>?_);rw[X8 (show(none:Option Value).isNone=true from rfl)];have hkS:∀b q,s.heap.get? b=some q->h'.get? b=some q:=λb q e=>hk b q (X2 _ e)
 have i5:h'.IsList l items:=⟨o,hkS _ _ ho,hc,m,gz⟩;have hS1:h'.DictOf knd s.heap.objs.size []:=by
  obtain⟨q,es,ep,hq,a9⟩:=de;exact⟨q,es,ep,hk _ _ hq,a9⟩
 have ld:s.heap.objs.size<h'.objs.size:=by
  obtain⟨q,es,ep,hq,a9⟩:=hS1;exact Xg hq
 refine X0 (Zp (X0 (wpAny_pyIter_list i5 ?_)));refine X5 ⟨plainId_quiet F.plain_dict_update_loop _,?_⟩;have hneI:l≠h'.objs.size:=Xk (Nat.lt_trans pw ld);refine jz2 (h₀:=s.heap) (A:=A.in1) ((Walks.list (A:=A.in1.in1) (by simp[hh]) h'.objs.size l hneI items).toS) s.heap.objs.size ?_ hn hz (λi v hv=>?_) (items.size - 0) 0 0 _ ⋯ (Yd _)
  ⟨⟨_,Xa _ rfl,rfl,rfl⟩,i5.push _⟩ (λb q hb e=>X2 _ (hkS b q e)) (hS1.push _) λs' hm i9=>?_
 ·simp only[Y4,Xv,or_false,not_or];exact⟨Xk ld,Nat.ne_of_gt pw⟩
 ·obtain⟨T,u,x,k,e1,e2,e3,e4⟩:=jp i v hv;refine⟨T,u,x,k,e1,?_,e2,e3,e4⟩;obtain⟨q,hq,_⟩:=e2;have:=Xg hq;simp only[Y4,Xv,or_false,not_or];exact⟨Xk this,Xk (Nat.lt_trans this ld)⟩
 ·obtain⟨h2,g',d',lw,nh⟩:=s';have eg:g'=s.gens:=hm.gens;have ed:d'=s.drawn:=hm.drawn;have eo:nh=s.os:=hm.os;subst eg;subst ed;subst eo;refine⟨rfl,h h2 lw i9 λb q hb e=>?_⟩;refine hm.heap b q ?_ (X2 _ (hkS b q e));simp only[Y4,Xv,or_false,not_or];exact⟨Xk hb,Xk (Nat.lt_trans hb ld)⟩
end
end PySem
namespace Q
open PySem PySem.Spec PyProof.Rows L2 L3
noncomputable def qvg(K:Frag):List V->Hp->VK->Prop:=λxs H Q=>∃(a:Addr) (ts:List V) (ps:List (Int×Int)),xs=[.ref a]/\SqL K H a ts/\ts.length=ps.length /\
 (∀i (h:i<ps.length),∃T,ts[i]?=some (.ref T)/\SqT K H T [.int ps[i].1,.int ps[i].2])/\ps.length<big/\∀l,H l=none->Q (.ref l) (upd H l (.dK (dkI (ps.foldl (λkv p=>qX kv p.1 p.2) []))))
theorem kwr:∀(ps kv:List (Int×Int)),(ps.foldl (λkv p=>qX kv p.1 p.2) kv).length<=kv.length+ps.length
 |[],kv=>by simp
 |p::ps,kv=>by
  rw[Yq,Xp];have:=kwr ps (qX kv p.1 p.2);have:=vj3 kv p.1 p.2;omega
theorem qxe:∀(ps:List (Int×Int)) (more:List (Key×Value)) (kv:List (Int×Int)) (vs:List (Key×Value)),KV (dkI ps) more->KV (dkI kv) vs->KV (dkI (ps.foldl (λkv p=>qX kv p.1 p.2) kv)) (more.foldl (λaa kv=>stored aa kv.1 kv.2) vs)
 | [],_,kv,vs,h,h'=>by cases h;exact h'
 | p::ps,_,kv,vs,h,h'=>by
  cases h with
  |cons h1 h2=>
   rename_i m more;obtain⟨k,x⟩:=m;obtain⟨e,rx⟩:=h1;have e:(Sum.inl p.1:Key)=k:=e;subst e;rw[Yq,Yq];refine qxe ps more _ _ h2 ?_;rw[<-wjy];exact KV.put h' _ rx
theorem qwf{X:Cx}{pins:LA9}{σ:L2.St}{H:Hp}{s:Shared}(I:Inv X pins σ H s):∀(ps:List (Int×Int)) (ts:List V) (a8:List Value),ts.length=ps.length ->
  (∀ i (h:i<ps.length),∃T,ts[i]?=some (.ref T)/\SqT X.K H T [.int ps[i].1,.int ps[i].2])->Vals ts a8 ->
  ∃ more:List (Key×Value),more.length=a8.length/\KV (dkI ps) more/\∀(i:Nat) (v:Value),a8[i]?=some v->∃T u x k,v=.ref T/\s.heap.IsTuple T #[u,x]/\more[i]?=some (k,x)/\(xX X.prog X.w).is k u=true
 | [],ts,a8,hl,_,hv=>by
  cases ts with| nil=>cases hv;exact⟨[],rfl,.nil,λi v h=>by simp at h⟩| cons=>cases hl
 | p :: ps,[],_,hl,_,_=>by cases hl
 | p :: ps,t::ts,_,hl,hp,hv=>by
  cases hv with
  | cons h1 h2=>
   rename_i u us;obtain⟨T,e1,e2⟩:=hp 0 (by simp);have e1:t=.ref T:=by simpa using e1
   subst e1;cases h1;obtain⟨ii,rv,tp,_⟩:=I.tuple e2;obtain⟨u1,u2,rfl,r1,r2⟩:∃u1 u2,ii=[u1,u2]/\RelV (.int p.1) u1/\RelV (.int p.2) u2:=by
    cases rv with
    |cons a b=>
     cases b with|cons c d=>cases d;exact⟨_,_,rfl,a,c⟩
   obtain⟨more,m1,m2,m3⟩:=qwf I ps ts us (by simpa using hl) (λi h=>by
    obtain⟨T,a,b⟩:=hp (i+1) (by simpa using h);exact⟨T,by simpa using a,by simpa using b⟩) h2
   refine⟨(Sum.inl p.1,u2)::more,by rw[Xp,Xp,m1],.cons ⟨rfl,r2⟩ m2,λi v h=>?_⟩;cases i with
   |zero=>
    have h:Value.ref T=v:=by simpa using h
    subst h;exact⟨T,u1,u2,Sum.inl p.1,rfl,tp,rfl,vjq (k:=Sum.inl p.1) r1⟩
   |succ i=>exact m3 i v (by simpa using h)
theorem qkz{X:Cx}(hc:autoParam (X.calm=true) Ŕ):CallR X (.type "dict") (qvg X.K):=by
 intro pins s σ H xs us Q I r h;obtain⟨a,ts,ps,rfl,hq,hl,hp,hb,q⟩:=h;obtain⟨u,rfl,rx⟩:=xq r;cases rx;obtain⟨a8,rv,⟨o,n,ho,da,hd,gz⟩,hz⟩:=I.list hq;obtain⟨more,m1,m2,m3⟩:=qwf I ps ts a8 hl hp rv;refine kk5 (knd:=xX X.prog X.w) (more:=more) (I.ok.hd hc) ho da gz hd (by rw[m1];simp) (by rw[X7,<-rv.length];exact hz) (λi v hv=>m3 i v (by simpa using hv)) λh' tk dd kp=>?_
 have jg:=I.big;refine⟨.ref s.heap.objs.size,_,I.laid (a:=s.heap.objs.size) (o:=.dK (dkI (ps.foldl (λkv p=>qX kv p.1 p.2) []))) (t':=tk) (λb ob e=>kp b ob (Xg e) e) (Xb _) (wqy ?_ (Y8 (Nat.ne_of_gt jg)) (qxe ps more [] [] m2 .nil) dd),rfl,q _ (I.hok.fresh (Xb _))⟩;rw[X3];have:=kwr ps [];have e3:([]:List (Int×Int)).length=0:=rfl;have:big=sizeLine:=rfl;omega
theorem qvq:∀{ds:List D} {ps:List (Int×Int)},QK ds=some ps->ds=ps.map λp=>D.tup [.int p.1,.int p.2]
 | [],ps,h=>by cases oq9 h;rfl
 | .tup [.int a,.int b]::r,ps,h=>by
  have h:(QK r).map ((a,b):: ·)=some ps:=h;cases hr:QK r with
  |none=>rw[hr]at h;cases h
  |some q=>
   rw[hr]at h;cases oq9 h;rw[List.map_cons,<-qvq hr]
theorem qvp : ∀(ps : List (Int × Int)), QK (ps.map λp=>D.tup [.int p.1, .int p.2]) = some ps
  | []=>rfl
  | (a, b)::r=>by
    show(QK (r.map λp=>D.tup [.int p.1, .int p.2])).map ((a, b):: ·) = _;rw[qvp r]; rfl
theorem vkg{K:Frag}:Ad1 K (λv H Q=>qvg K [v] H Q) VY:=by
 intro H x s Q ok hf k;unfold VY at hf;cases hx:x.d with
 | lst ds=>
  rw [show(x.o,x.d).2=D.lst ds from hx]at hf;dsimp only at hf;cases hp:QK ds with
  | none=>rw[hp]at hf;cases hf
  | some ps=>
   rw[hp]at hf;dsimp only at hf
   by_cases hl:ps.length<big
   ·rw[X8 hl]at hf;cases oq9 hf;have e:=qvq hp;subst e;obtain⟨a,xs,bs,ev,q1,ra⟩:=items ok (.inl hx);have hq:SqL K H a xs:=by
     rcases q1 with⟨_,z⟩|⟨z,_⟩
     ·exact z.sq
     ·rw[hx]at z;cases z
    refine⟨a,xs,ps,by rw[ev],hq,by rw[<-ra.1.len,X3],λi hi=>?_,hl,λl hl'=>k ⟨.rt,Kk _,.ref l,[l]⟩ _ rfl rfl ⟨wZ hl',⟨l,_,[],rfl,vwu _,.inr ⟨(ps.foldl (λkv p=>qX kv p.1 p.2) []).map λp=>(p.1,V.int p.2),"",by rw[x3,Xm];rfl,by unfold mkD;rw[List.map_cons,Xm,Xm];rfl,by rw[Xm];rfl⟩,rfl⟩,λb hb=>?_,by simp[Sl.own],λb hb=>?_⟩⟩
    ·obtain⟨v,cs,g1,g2,_⟩:=RepA.get (i:=i) (d:=D.tup [.int ps[i].1,.int ps[i].2]) ra.1 (by rw[Xh,X1 hi];rfl);unfold RepL at g2;obtain⟨T,ys,e1,e2,e3⟩:=g2;refine⟨T,by rw[g1,e1],?_⟩;unfold RepA at e3;obtain⟨y1,r1,_,_,rfl,_,f1,f2⟩:=e3;unfold RepA at f2;obtain⟨y2,r2,_,_,rfl,_,f3,f4⟩:=f2;unfold RepA at f4;obtain⟨rfl,_⟩:=f4;unfold RepL at f1 f3;rw[f1.1,f3.1]at e2;exact e2
    ·have:b=l:=by simpa [Sl.own]using hb
     exact this▸hl'
    ·simp[Sl.frz]at hb
   ·rw[Xf hl]at hf;cases hf
 |_=>rw[show(x.o,x.d).2=_ from hx]at hf;cases hf
theorem qz1{X:Cx}(K:Frag)(hK:autoParam (X.K=K) Ŕ)(hc:autoParam (X.calm=true) Ŕ):CallR X (.type "dict") (qvg K):=by subst hK;exact qkz hc
theorem wjn{X:Cx}{Z:Fx0}{q:Bool}{c:Ex}{o e:Expr}{z:Str}{bb ai:Pos}(ho:PE X o (tC (.str z)))(hc:QV X Z q c e)(hK:autoParam (X.K=Z.K) Ŕ)
  (ce:autoParam (attributeBase o "join" X.env (eval o X.env)=eval o X.env) Ŕ)
  (dy:autoParam (((backTo ai (starEach [e] X.env)).all (λx=>!x.1)&&(backToKw ai (keywordEach [] X.env)).all (λx=>x.1.isSome)
   && decide ([e].length+([]:List Keyword).length+(if([]:List Keyword).isEmpty then 0 else 1)<30))=true) Ŕ)
  (ck:autoParam ((bb.endLine==ai.line)=true) Ŕ) (hs:autoParam (starEach [e] X.env=(false,eval e X.env)::starEach [] X.env) Ŕ) (bd:autoParam ((backTo ai (starEach [] X.env)).any (·.1)=false) Ŕ):
  QE X Z q (vka z c) (.Call (.Attribute o "join" bb) [e] [] ai):=
 q9 (wki PySem.F.plainAttrs_str PySem.F.slot_str_join PySem.F.type_str_join vwt ho (wj hc wJ hs) ce dy ck hs bd) fun σ H Q ah=>ex8 ah λE L r m w i6 xc k=>by
  refine⟨?_,?_⟩
  ·rfl
  ·refine v8 m w (show bnd (c E) _=some r from i6) xc λE1 s h1 x L1 H1 e1 e2 m1 w1 ok fr sr st sm=>?_
   obtain⟨y,hz,rfl⟩:=zw h1;unfold YY at hz;cases hx:s.2 with
   | lst ds=>
    rw [hx]at hz;dsimp only at hz;cases hp:xK ds with
    | none=>rw[hp]at hz;cases hz
    | some ys=>
     rw[hp]at hz;dsimp only at hz
     by_cases hl:(ys.map (·.length)).sum+ys.length*z.length<=100000
     ·rw[X8 hl]at hz;cases oq9 hz;obtain⟨a,xs,bs,ev,q1,ra⟩:=items ok (.inl (by rw[e2];exact hx));have hq:SqL Z.K H1 a xs:=by
       rcases q1 with⟨_,t⟩|⟨t,_⟩
       ·exact t.sq
       ·rw[e2,hx]at t;cases t
      have ex:=(jzm hp ra.1).1;subst ex;have ab:(Txt.join z ys).length<=sizeLine:=joinOk_length (joinOk_of ⋯);refine⟨z,a,ys,rfl,by rw[ev],by rw[hK];exact hq,⋯,?_⟩;exact k _ _ rfl ⟨.dp,.str (Txt.join z ys),.str (Txt.join z ys),[]⟩ L1 H1 rfl rfl m1 (w1.consPu (x:=⟨.dp,.str (Txt.join z ys),.str (Txt.join z ys),[]⟩) (show RepL Z.K H1 false (.str _) (.str _) []from Wv ab) rfl) (K2 (x:=⟨.dp,.str (Txt.join z ys),.str (Txt.join z ys),[]⟩) st (λb hb=>nomatch hb) rfl) λhq=>⟨sm hq,λ_ t=>(nomatch t)⟩
     ·rw[Xf hl]at hz;cases hz
   |_=>rw[hx]at hz;cases hz
end Q
namespace PySem
section
variable {prog:Program}{w:World}{A:Around}{E:VP9}{s:Shared}
theorem kwy(hh:A.handled=none)(it t:Addr)(b8:t≠it)(items:Array Value):Draws prog w A it [it,t] items.size (λi v=>items[i]?=some v) (λi h=>h.IsTupleIter it t i/\h.IsTuple t items) where
 live:=λ_ _ st=>let ⟨o,ho,_⟩:=st.1;⟨o,ho⟩
 frame:=λ_ _ _ st hk=>by
  obtain⟨⟨o,ho,r⟩,o2,fu,r2⟩:=st;exact⟨⟨o,hk it (by simp) o ho,r⟩,o2,hk t (by simp) o2 fu,r2⟩
 item:=λi s Q E hi st hQ=>by
  obtain⟨dq,ht⟩:=st;obtain⟨o,ho,hc,hd⟩:=id dq;obtain⟨o2,fu,lp,n2,gb⟩:=id ht;have hx:items[i]?=some items[i]:=by simp[hi]
  unfold Builtin.SmallTypes.nextOf;refine X0 (Yk (name:=Str.ofString "__next__") dq.typeIs F.slot_tuple_iterator_next (Y5 F.slot_tuple_iterator_next dq.typeIs F.entry_tuple_iterator_next ?_ (F.args_tuple_iterator_next_1 _)));show wpAny _ _ (field (.ref it) 0 >>= _) _ _ s;refine X0 (Yx ho hd (x:=.ref t) rfl ?_);show wpAny _ _ (if(Value.ref t==Value.none)=true then _ else _) _ _ s;rw[Xf (show ¬((Value.ref t==Value.none)=true)from Bool.false_ne_true)];show wpAny _ _ (field (.ref it) 1 >>= _) _ _ s;refine X0 (Yx ho hd (x:=.int i 0) rfl ?_);show wpAny _ _ (seqItems? (.ref t) >>= _) _ _ s;refine X0 (wpAny_seqItems fu gb ?_);simp only[Xq,hx];refine X0 (Ys ho hd (by simp) (X5 ⟨items[i],rfl,X5 (hQ _ _ s.toks hx ⟨⟨_,Y1 _ ho (Ze (Zc hd _)),(Obj.cls_mapFields ..).trans hc,by rw[Zc hd];simp[rawInt]⟩,o2,(Za _ _ (Ne.symm b8)).trans fu,lp,n2,gb⟩ (Ya ..))⟩))
 done:=λs Q E st hE=>by
  obtain⟨dq,ht⟩:=st;obtain⟨o,ho,hc,hd⟩:=id dq;obtain⟨o2,fu,lp,n2,gb⟩:=id ht;have hx:items[items.size]?=none:=by simp
  unfold Builtin.SmallTypes.nextOf;refine X0 (Yk (name:=Str.ofString "__next__") dq.typeIs F.slot_tuple_iterator_next (Y5 F.slot_tuple_iterator_next dq.typeIs F.entry_tuple_iterator_next ?_ (F.args_tuple_iterator_next_1 _)));show wpAny _ _ (field (.ref it) 0 >>= _) _ _ s;refine X0 (Yx ho hd (x:=.ref t) rfl ?_);show wpAny _ _ (if(Value.ref t==Value.none)=true then _ else _) _ _ s;rw[Xf (show ¬((Value.ref t==Value.none)=true)from Bool.false_ne_true)];show wpAny _ _ (field (.ref it) 1 >>= _) _ _ s;refine X0 (Yx ho hd (x:=.int items.size 0) rfl ?_);show wpAny _ _ (seqItems? (.ref t) >>= _) _ _ s;refine X0 (wpAny_seqItems fu gb ?_);simp only[Xq,hx];refine X0 (Zp (X0 (Ys ho hd (by simp) ?_)));show wpAny _ _ (newExc (.type "StopIteration") [] >>= _) _ _ _;refine X0 ?_;simp only[newExc,newTuple];refine X0 (Xz ?_ (by size_fits));refine X0 (m:=firstArgMember _ _) (wpAny_of_eq (a:=Value.none) (by first|rfl|(simp only[firstArgMember];rfl)) ?_);refine Xz ?_ (by size_fits);simp only[raiseNew];refine X0 (wpAny_handled ?_)
  first|rw[show A.in1.handled=none from hh]|rw[hh]
  refine X0 (X5 (wpAny_throw ?_));exact hE _ _ (((Ya ..).extBut.push _).push _) ⟨_,Xa _ rfl,rfl⟩
theorem vxn(t:Addr)(items:Array Value)(n:Nat)(dct:Option Addr)(sl:Array (Option Value)):
  Meets (Builtin.«enumerate.__new__» ⟨[.type "enumerate",.ref t],[]⟩) (λ_ R s=>s.heap.get? t=some { cls:=.type "tuple",dict:=dct,data:=.seq items n,slots:=sl } /\
   R (.ok (.ret (.ref (s.heap.push { cls:=.type "tuple_iterator",data:=.fields #[.ref t,.int 0 0] }).objs.size)))
    { s with heap:=(s.heap.push { cls:=.type "tuple_iterator",data:=.fields #[.ref t,.int 0 0] }).push { cls:=.type "enumerate",data:=.fields #[.none,.bool false,.ref s.heap.objs.size,rawInt 0,.none,.none] } }):=
 .of_wp λprog w A R s h=>by
  obtain⟨hp,g,d,tk,os⟩:=s;obtain⟨hl,h⟩:=h;have d8:=sub_enumerate;have hL:Heap.IsTuple (Shared.heap ⟨hp,g,d,tk,os⟩) t items:=⟨_,hl,rfl,n,rfl⟩
  wp_walk using AutoSeq1.wpAny_loadPart' hl
  refine wpAny_stack_any λst=>X5 ?_
  split
  ·rename_i c _ _ _ _ _;cases(c==Value.type "enumerate") <;>
   ·wp_walk using AutoSeq1.wpAny_loadPart' hl,wpAny_pyIter_tuple hL
    exact⟨_,rfl,h⟩
  ·wp_walk using AutoSeq1.wpAny_loadPart' hl,wpAny_pyIter_tuple hL
   exact⟨_,rfl,h⟩
theorem vk1{t:Addr}{items:Array Value}{Q:VP9}(hL:s.heap.IsTuple t items)
  (h:∀h',IsEnum h' (s.heap.objs.size+1) s.heap.objs.size 0 .none->h'.IsTupleIter s.heap.objs.size t 0->h'.objs.size=s.heap.objs.size+2 ->
   (∀b o,s.heap.get? b=some o->h'.get? b=some o)->Q (.ref (s.heap.objs.size+1)) { s with heap:=h' }):
  wpAny (model prog w) A (call (.type "enumerate") [.ref t]) Q E s:=by
 obtain⟨⟨c,dct,dt,sl⟩,hl,hc,n,hd⟩:=hL
 replace hc:c=.type "tuple":=hc
 replace hd:dt=.seq items n:=hd
 subst hc hd;refine callType_new F.called_enumerate ⋯ (F.typeCall_enumerate_1 _) (F.newCall_enumerate_1 _) (λobj=>F.args_object_init_2 obj _) F.entry_enumerate_new (vxn t items n dct sl) ⟨hl,?_⟩;have hz:(s.heap.push { cls:=.type "tuple_iterator",data:=.fields #[.ref t,.int 0 0] }).objs.size=s.heap.objs.size+1:=Zn ..;show _/\_;rw[hz];have he:IsEnum ((s.heap.push { cls:=.type "tuple_iterator",data:=.fields #[.ref t,.int 0 0] }).push { cls:=.type "enumerate",data:=.fields #[.none,.bool false,.ref s.heap.objs.size,rawInt 0,.none,.none] }) (s.heap.objs.size+1) s.heap.objs.size 0 .none:=by
  have:=Xa (s.heap.push { cls:=.type "tuple_iterator",data:=.fields #[.ref t,.int 0 0] }) (o:={ cls:=.type "enumerate",data:=.fields #[.none,.bool false,.ref s.heap.objs.size,rawInt 0,.none,.none] }) rfl;rw[hz]at this;exact this
 exact⟨⟨_,he,rfl⟩,h _ he ⟨_,X2 _ (Xa _ rfl),rfl,rfl⟩ (by rw[Zn,hz]) λb o x=>X2 _ (X2 _ x)⟩
end
end PySem
namespace Q
open PySem PySem.Spec PyProof.Rows L2 L3
def ItT(K:Frag)(l:Addr):It:=⟨λi H=>∃xs x,SqT K H l xs/\xs[i]?=some x,
 λi H v H'=>∃T x,H T=none/\v=.ref T/\H'=upd H T (.tup [.int i,x])/\∀xs,SqT K H l xs->xs[i]?=some x,
 λi H=>∃xs,SqT K H l xs/\xs.length=i⟩
theorem qzn{P:Program}{w:PySem.World}{K:Frag}{ef:List Expr}{k1:Nat}{pos:Pos}{e it l:Addr}(n1:e≠it)(n2:l≠e)(n3:l≠it):
  Turn P w K (.Tuple ef k1 pos) (ItT K l) [e,it] e (λi h=>(∃cx,IsEnum h e it (i:Int) cx)/\h.IsTupleIter it l i) where
 mem:=by simp
 obj:=λi h st b hb=>by
  obtain⟨⟨cx,h1⟩,o4,e4,c4,d4⟩:=st;simp only[Y4,Xv,or_false]at hb;rcases hb with rfl|rfl
  ·exact⟨_,h1,λv z=>by cases z⟩
  ·exact⟨_,e4,λv z=>by rw[d4]at z;cases z⟩
 keep:=λi h h' st k=>by
  obtain⟨⟨cx,h1⟩,o4,e4,c4,d4⟩:=st;exact⟨⟨cx,k _ (by simp) _ h1⟩,o4,k _ (by simp) _ e4,c4,d4⟩
 item:=by
  intro X hP hw hK hc i pins s σ H E I hf st hg;subst hP hw hK;obtain⟨xs,x,q1,hx⟩:=hg;obtain⟨gm,rv1,p1,ny⟩:=I.tuple q1;obtain⟨u1,hu1,ru1⟩:=rv1.get hx;obtain⟨⟨cx,t1⟩,t2⟩:=st;have hi:i<gm.toArray.size:=by rw[X7];exact(List.getElem?_eq_some_iff.mp hu1).1
  refine wpAny_pyNext_enum_itemD (kwy (A:=X.A.in1) (by have:=I.ok.hd hc;simpa using this) it l n3 gm.toArray) t1 ⟨t2,p1⟩ hi n1 (by simp only[Y4,Xv,or_false,not_or];exact⟨n1,n2.symm⟩) λu2 h1 tk hP2 g1 g2 gT gs gk=>?_
  have e2:u2=u1:=by
   have:gm[i]?=some u2:=by simpa using hP2
   rw[hu1]at this;exact(oq9 this).symm
  subst e2;refine⟨_,rfl,wpAny_letOwnedTupleGo_enum (s:={ s with heap:=h1,toks:=tk+1 }) g1 λh2 f1 sb=>?_⟩;have fT:v9 X pins H s.heap.objs.size:=I.fpOk (Xb _) (I.hok.fresh (Xb _));have nT:∀b∈[e,it],b≠s.heap.objs.size:=λb hb ee=>by
   obtain⟨o,eo,_⟩:∃o,s.heap.get? b=some o/\True:=by
    simp only[Y4,Xv,or_false]at hb;obtain⟨o4,e4,_⟩:=t2;rcases hb with rfl|rfl
    ·exact⟨_,t1,trivial⟩
    ·exact⟨_,e4,trivial⟩
   exact absurd (Xg eo) (by rw[ee];exact Yp _)
  have kk:∀b o,b∉[e,it]->s.heap.get? b=some o->h2.get? b=some o:=λb o hb ee=>by
   simp only[Y4,Xv,or_false,not_or]at hb;exact(sb.2 b hb.1).trans (gk b o hb.1 hb.2 ee)
  have I1:L2.Inv X pins σ H { s with heap:=h2,toks:=tk+1 }:=jwt [e,it] I kk hf;have nz:s.heap.objs.size≠e:=λee=>nT e (by simp) ee.symm
  have I2:=kjj (a:=s.heap.objs.size) (o:=.tup [.int (i:Int),x]) I1 fT.1 fT.2.1 fT.2.2.2.1 fT.2.2.2.2.1 fT.2.2.2.2.2
   (show ObjOk X.prog X.w _ h2 _ (.tup [.int (i:Int),x])from⟨by show(2:Nat)<=sizeLine;decide,[.int i tk,u2],.cons ⟨_,rfl⟩ (.cons ru1 .nil),⟨_,(sb.2 _ nz).trans gT,rfl,rfl,0,rfl⟩⟩)
  refine⟨.ref s.heap.objs.size,_,I2,rfl,⟨_,x,fT.1,rfl,rfl,λzs hzs=>by rw[I.tuple_inj hzs q1];exact hx⟩,?_,λb hb=>by rw[q5 (nT b hb)];exact(hf b hb).1⟩;obtain⟨o4,e4,c4,d4⟩:=g2.1;exact⟨⟨u2,f1⟩,o4,(sb.2 _ n1.symm).trans e4,c4,d4⟩
 done:=by
  intro X hP hw hK hc i pins s σ H E I hf st hg;subst hP hw hK;obtain⟨xs,q1,hx⟩:=hg;obtain⟨gm,rv1,p1,ny⟩:=I.tuple q1;obtain⟨⟨cx,t1⟩,t2⟩:=st;have i5:=rv1.length;have hsz:gm.toArray.size=i:=by rw[X7,<-i5];exact hx
  refine wpAny_pyNext_enum_endD (kwy (A:=X.A.in1) (by have:=I.ok.hd hc;simpa using this) it l n3 gm.toArray) t1 (by rw[hsz];exact⟨t2,p1⟩) λh' kk=>⟨rfl,?_⟩
  refine jwt (t':=s.toks) [it] I (λb o hb ee=>kk b o (by simpa using hb) ee) λb hb=>hf b (by
   simp only[Y4,Xv,or_false]at hb ⊢;exact .inr hb)
 self:=λ_ _ _ _ _ st h=>by obtain⟨⟨cx,h1⟩,_⟩:=st;exact wpAny_pyIter_enum h1 h
abbrev iEnT(K:Frag)(ta:TA):TI:=fun σ H R=>ta σ H λvs H1=>∃l,vs=[.ref l]/\(∃xs,SqT K H1 l xs/\(xs.length<=sizeLine->R (ItT K l) H1))
section
variable {X:Cx}{Z:Fx0}{K:Frag}{pn:List Nat}{q:Bool}{c:Ex}{e:Expr}{σ:L2.St}{H:Hp}{L:Ls}{E:En}{pos p jo:Pos}{ef:List Expr}{k1:Nat}
theorem wk8(K:Frag){ta:TA}(hg:Gl X "enumerate")(hm:X.mg "enumerate"=none)(ha:PA X [e] ta)(hK:autoParam (X.K=K) Ŕ)
  (hs:autoParam (starEach [e] X.env=[(false,eval e X.env)]) Ŕ):PI X (.Tuple ef k1 jo) (.Call (.Name "enumerate" p) [e] [] pos) (iEnT K ta):=by
 subst hK;intro pins s σ H R I h;refine Call_ (zq I hg hm kx6 (Y2 (thn (ha pos pins s σ H _ I h) λus s1 ⟨vs,H1,I1,r1,q1⟩=>?_) (by rw[hs];rfl) rfl));obtain⟨l,rfl,xs,q1,q⟩:=q1;obtain⟨u1,rfl,e1⟩:=xq r1;cases e1;obtain⟨gm,rv1,p1,ny⟩:=I1.tuple q1;have lt:l<s1.heap.objs.size:=by obtain⟨_,ee,_⟩:=p1;exact Xg ee
 refine vk1 p1 λh' g1 g2 gs gk=>?_
 refine wpAny_pyIter_enum g1 ⟨_,[_,s1.heap.objs.size],_,_,H1,rfl,I1.kept (t':=s1.toks) gk,
  qzn (e:=s1.heap.objs.size+1) (it:=s1.heap.objs.size) (l:=l) (Nat.succ_ne_self _) (Xk (Nat.lt_succ_of_lt lt)) (Xk lt),⟨⟨_,g1⟩,g2⟩,λb hb=>?_,q ny⟩
 have ff:s1.heap.objs.size<=b:=by
  simp only[Y4,Xv,or_false]at hb;rcases hb with rfl|rfl<;>omega
 exact I1.fpOk ff (I1.hok.fresh ff)
theorem qqi{x:Sl}{es:List D}{l:Addr}{H1:Hp}(hx:x.d=.tup es)(ev:x.v=.ref l):∀H2:Hp,x.let.ok K H2->∃ys cs,SqT K H2 l ys/\RepA K H2 true es ys cs/\∀b∈cs,b∈x.as:=λH2 hok=>by
 obtain⟨a',ys,cs,lh,q4,r4,h4,_⟩:=items hok (.inr hx);have:a'=l:=by have:=lh.symm.trans ev;exact V.ref.inj this
 subst this;rcases q4 with⟨z,_⟩|⟨_,z⟩
 ·rw[show x.let.d=D.tup es from hx]at z;cases z
 ·exact⟨ys,cs,z,r4,h4⟩
theorem vvs(h:QE X Z q c e)(hg:Gl X "enumerate")(hm:X.mg "enumerate"=none)(hK:autoParam (X.K=Z.K) Ŕ)(hs:autoParam (starEach [e] X.env=[(false,eval e X.env)]) Ŕ):QI X Z q (.Tuple ef k1 jo) (vjs c) (.Call (.Name "enumerate" p) [e] [] pos):=λpins s σ H R I ah=>ex8 ah λE L r m w hc xc k=>by
 refine(wk8 Z.K hg hm (wj h wJ hs) hK hs) pins s σ H R I ?_;refine WX m w (show bnd (c E) _=some r from hc) xc λE1 s h1 x L1 H1 e1 e2 m1 w1 st sm=>?_
 obtain⟨ds,hd,rfl⟩:=zw h1;have ok:=w1.head;have wT:World Z.K H1 (L1++[x.let].map some):=by
  refine World.comm (L:=[some x.let]) ?_;exact w1.tail.consNo (Qv ok) rfl λb hb=>w1.apart b hb
 have sT:Step H L H1 (L1++[x.let].map some):=by
  refine⟨st.keep,λb hb=>?_,λb hb=>?_⟩
  ·have:b∈j8 L1:=by simpa [V1]using hb
   exact st.own b (by rw[k3];exact lr9 _ this)
  ·have:b∈jQ L1\/b∈x.as:=by simpa [V1]using hb
   rcases this with z|z
   ·exact st.frz b (by rw[qY];exact lr9 _ z)
   ·exact jzo st b z
 cases hx:x.d with
 | tup es=>
  rw[<-e2,hx]at hd;have ju:J3 0 es=ds:=oq9 hd;subst ju;obtain⟨a,xs,bs,ev,q3,r3,h3,_⟩:=items ok (.inr hx);have q3:SqT Z.K H1 a xs:=by rcases q3 with⟨z,_⟩|⟨_,z⟩;rw[hx]at z;cases z;exact z
  have again:=qqi (K:=Z.K) (H1:=H1) hx ev;refine⟨a,by rw[ev],xs,q3,λab=>k _ _ rfl (ItT Z.K a) [x.let] L1 H1 m1 wT sT (by rw[jxh,r3.len];exact ab) (λhq=>(sm hq).1) ⟨λt ht=>by rw[aC ht];rfl,λi H2 hok hi=>?_,λH2 hok=>?_,λi H2 v H3 d hok hy f9=>?_⟩⟩
  ·obtain⟨ys,cs,s1,s2,_⟩:=again H2 (hok _ (aB rfl));have hl:=s2.len;rw[jxh]at hi;exact⟨ys,ys[i]'⋯,s1,X1 ⋯⟩
  ·obtain⟨ys,cs,s1,s2,_⟩:=again H2 (hok _ (aB rfl));exact⟨ys,s1,by rw[jxh,s2.len]⟩
  ·obtain⟨ys,cs,s1,s2,s3⟩:=again H2 (hok _ (aB rfl));obtain⟨T,x',hT,rfl,rfl,hy⟩:=hy;rw[kww]at f9;cases hes:es[i]? with
   |none=>rw[hes]at f9;cases f9
   |some d0=>
    rw[hes]at f9;cases oq9 f9;obtain⟨v',cp,f1,f2,f3⟩:=s2.get hes;have:v'=x':=by have:=hy ys s1;rw[f1]at this;exact oq9 this
    subst this;have rp:=qzw (v1:=.int ((0+i:Nat):Int)) hT wq f2;rw[show((0+i:Nat):Int)=(i:Int)from by omega]at rp ⊢;exact⟨⟨.no,_,.ref T,[]++cp⟩,rfl,rfl,rfl,wZ hT,rp,λb hb=>⟨x.let,aB rfl,s3 b (f3 b (by simpa using hb))⟩⟩
 |_=>rw[<-e2,hx]at hd;cases hd
end
theorem kvv:∀{ds:List D} {i:Nat} {d:D},D.pures ds=true->ds[i]?=some d->d.pure=true
 |[],_,_,_,h=>by simp at h
 |a::ds,0,d,h,e=>by
  have e:a=d:=by simpa using e
  subst e;unfold D.pures at h;rw[Bool.and_eq_true]at h;exact h.1
 |a::ds,i+1,d,h,e=>by
  unfold D.pures at h;rw[Bool.and_eq_true]at h;exact kvv h.2 (by simpa using e)
theorem wwy{X:Cx}{Z:Fx0}{tg e:Expr}{i:Nat}(h:PE X e (z4 i))(hK:autoParam (X.K=Z.K) Ŕ):QIS X Z true tg (itV i) e:=λpins s σ H R I ah=>ex8 ah λE L r m w hc xc k=>by
 refine(hK▸qvu h) pins s σ H R I ?_;unfold itV at hc;cases hE:E[i]? with
 | none=>rw[hE]at hc;cases hc
 | some s0=>
  cases s0 with
  | none=>rw[hE]at hc;cases hc
  | some s0=>
   obtain⟨oo,dd⟩:=s0;rw [hE]at hc;cases dd with
   | lst ds=>
    dsimp only at hc
    by_cases hp:D.pures ds=true
    ·rw[X8 hp]at hc;cases oq9 hc;obtain⟨x,a1,a2,a3,a4⟩:=m.get hE;have iy:=w.ok x (v5 a1);obtain⟨a,xs,bs,ev,q3,r3,h3,_⟩:=items iy (.inl a3);have q3:LsR Z.K H a xs:=by rcases q3 with⟨_,z⟩|⟨z,_⟩;exact z;rw[a3]at z;cases z
     have again:∀H2:Hp,jY H H2->∃g ys cs,SqL Z.K H2 a ys/\RepA Z.K H2 g ds ys cs:=λH2 hs=>by
      obtain⟨a',ys,cs,lh,q4,r4,h4,_⟩:=items (RepO.kp iy (Kp.of_same hs):x.ok Z.K H2) (.inl a3);have:a'=a:=by have:=lh.symm.trans ev;exact V.ref.inj this
      subst this;rcases q4 with⟨_,z⟩|⟨z,_⟩
      ·exact⟨_,ys,cs,z.sq,r4⟩
      ·rw[a3]at z;cases z
     refine⟨x.v,a4,.inl ⟨a,xs,ev,q3.sq,λab=>k _ _ rfl (Itl Z.K a) [] L H m (by rw[List.map_nil,Y7];exact w) (by rw[List.map_nil,Y7];exact Step.refl) (by rw[r3.len];exact ab) (λ_=>ww) ⟨λt ht=>(nomatch ht),λj H2 _ hs hj=>?_,λH2 _ hs=>?_,λj H2 v H3 d _ hs hy f9=>?_⟩⟩⟩
     ·obtain⟨g,ys,cs,s1,s2⟩:=again H2 (hs rfl);have hl:=s2.len;exact⟨ys,ys[j]'⋯,s1,X1 ⋯⟩
     ·obtain⟨g,ys,cs,s1,s2⟩:=again H2 (hs rfl);exact⟨ys,s1,by rw[s2.len];exact Xb _⟩
     ·obtain⟨g,ys,cs,s1,s2⟩:=again H2 (hs rfl);obtain⟨e3,hy⟩:=hy;subst e3;obtain⟨v',cp,f1,f2,f3⟩:=s2.get f9;have:v'=v:=by have:=hy ys s1;rw[f1]at this;exact oq9 this
      subst this;exact⟨⟨.no,d,v',[]⟩,rfl,rfl,rfl,ww,(RepL.pu (g':=true) f2 (kvv hp f9)).2,λb hb=>(nomatch hb)⟩
    ·rw[Xf hp]at hc;cases hc
   |_=>cases hc
theorem vwi{K:Frag}{H:Hp}{x:Sl}(ok:x.ok K H)(ht:VZ x.sd=true)(nd:x.own.Nodup):∃cs,RepL K H false x.d x.v cs/\(∀a∈cs,a∈x.own)/\cs.Nodup:=by
 obtain⟨o,d,v,as⟩:=x;unfold VZ at ht;rw [Bool.or_eq_true]at ht;rcases ht with ht|ht
 ·unfold vX at ht;rw[Bool.or_eq_true]at ht;rcases ht with ht|ht
  ·have ho:o=.dp:=by
    have ht:(o==Own.dp)=true:=ht;cases o with|dp=>rfl|no=>cases ht|rt=>cases ht
   subst ho;exact⟨as,ok,λa h=>h,nd⟩
  ·obtain⟨_,r⟩:=RepL.pu (g':=false) (RepO.wk ok) ht;exact⟨[],r,λ_ h=>(nomatch h),Xs⟩
 ·rw[Bool.and_eq_true]at ht;have ho:o=.rt:=by
   have ht:(o==Own.rt)=true:=ht.1;cases o with|rt=>rfl|no=>cases ht|dp=>cases ht
  subst ho;cases d with
  | lst ds=>
   have hp:D.pures ds=true:=ht.2;obtain⟨a,xs,bs,e,r,h,e2⟩:=(show RepR K H (.lst ds) v as from ok);obtain⟨_,r2⟩:=RepA.pu (g':=false) r hp;refine⟨[a],?_,λb hb=>?_,by simp⟩
   ·unfold RepL;exact⟨a,xs,[],e,r2,.inl ⟨h,rfl⟩⟩
   ·rw[aC hb];show a∈as.take 1;rw[e2];exact X6
  |_=>cases ht.2
theorem vz4{xs:List V}{n:Nat}{x:V}(h:xs[n]?=some x):atI xs (n:Int)=some x:=by
 have hn:n<xs.length:=(List.getElem?_eq_some_iff.mp h).1;have e:L2.ixN xs.length (n:Int)=some n:=by
  unfold L2.ixN;rw[X8 (Int.natCast_nonneg n)];simp[hn]
 unfold atI;rw[e];exact h
section
variable {X:Cx}{Z:Fx0}{pn:List Nat}{q:Bool}{c:Ex}{e ep:Expr}{i:Nat}{p:List Nat}{pos:Pos}
theorem qzp{K:Frag}{H:Hp}{L:Ls}{y:Sl}(w:World K H L)(h:L[i]?=some (some y)):World K H (some y::L.set i none)/\Step H L H (some y::L.set i none):=by
 have wn:World K H (none::L):=⟨λy hy=>w.ok y (by simpa using hy),by simpa using w.nd,by simpa using w.ds⟩;have sn:Step H L H (none::L):=⟨λ_ _ z _=>z,λa z=>.inl (by simpa using z),λa z=>.inl (by simpa using z)⟩;exact⟨wn.perm (YV h),sn.trans (Step.refl.perm (List.Perm.refl _) (YV h))⟩
theorem wj6{K:Frag}{H:Hp}{x:Sl}(ok:x.ok K H)(h:x.d.pure=true):RepL K H false x.d x.v []:=(RepL.pu (g':=false) (RepO.wk ok) h).2
theorem wq5{H:Hp}{l:Addr}{xs:List V}{ob:HO}(h:H l=some (.lst xs)){as:List Addr}(hn:l∉as):Kp H (upd H l ob) as:=by
 have ke:∀a o,H a=some o->a≠l->upd H l ob a=some o:=λa o e ne=>by rw[q5 ne];exact e
 refine⟨λa xs e=>ke a _ e λz=>?_,λa o u e=>ke a _ e λz=>?_,λa ha o e=>ke a o e λz=>hn (z▸ha)⟩
 ·subst z;rw[h]at e;cases e
 ·subst z;rw[h]at e;cases e
theorem wwt(hc:QE X Z q c e):QE X Z q (Zz c) e:=q9 hc fun σ H Q ah=>ex8 ah λE L r m w hr xc k=>by
 unfold Zz at hr;rcases x4 hr with⟨E1,s,h1,h2⟩|⟨E1,cc,h1,h2⟩
 ·refine⟨E,L,_,m,w,h1,(λ_ _ z=>by cases z),λE' s' z x L' H' e1 e2 m' w' st sm=>?_⟩;injection z with z1 z2;subst z1 z2
  split at h2
  rotate_left
  ·cases h2
  rename_i lj;cases oq9 h2;have xn:x.own.Nodup:=by
   have:=w'.nd;rw[k3]at this;exact(List.nodup_append.mp this).1
  obtain⟨cs,rx,fg,hcn⟩:=vwi w'.head (by unfold Sl.sd;rw[e1,e2];exact lj) xn;have nd:=w'.nd;rw[k3,Xe]at nd;refine k _ _ rfl ⟨.dp,x.d,x.v,cs⟩ L' H' rfl e2 m' ⟨λy hy=>?_,?_,λa ha=>?_⟩ ⟨st.keep,λa ha=>?_,λa ha=>?_⟩ λhq=>⟨(sm hq).1,λb hb=>(sm hq).2 b (fg b hb)⟩
  ·rcases aD hy with z|z
   ·cases z;exact rx
   ·exact w'.ok y (lc9 _ z)
  ·rw[k3,Xe];exact⟨hcn,nd.2.1,λa ha b hb=>nd.2.2 a (fg a ha) b hb⟩
  ·have ha2:a∈j8 (some x::L'):=by
    rw[k3]at ha ⊢;exact List.mem_append.mpr ((aA ha).imp (fg a) id)
   intro q2;rw[qY]at q2;refine w'.ds a ha2 ?_;rw[qY];exact lr9 _ ((aA q2).elim (λz=>nomatch z) id)
  ·refine st.own a ?_;rw[k3]at ha ⊢;exact List.mem_append.mpr ((aA ha).imp (fg a) id)
  ·refine st.frz a ?_;rw[qY]at ha ⊢;exact lr9 _ ((aA ha).elim (λz=>nomatch z) id)
 ·exact⟨E,L,_,m,w,h1,xc.map h2,λE' s' z=>by cases z⟩
end
theorem qx9 {K : Frag} {H : Hp} {k : Kd}: ∀{kvs : List (D × D)} {xs : List V} {bs : List Addr} {es : List Ent}, RepP K H true kvs xs bs -> kvs.map (·.1) = es.map (·.1.1) -> Vals xs (es.map (·.2.2)) -> D.pures (kvs.map (·.2)) = true ->
    (∀ p, atKey es k = some p -> ∃d v, x8 kvs k.1 = some d /\ RelV v p.2 /\ RepL K H false d v [] /\ d.pure = true) /\ (atKey es k = none -> x8 kvs k.1 = none)
  | [], _, _, [], _, _, _, _=>⟨λp h=>(by cases h), λ_=>rfl⟩| [], _, _, _::_, _, h, _, _=>by cases h| _ :: _, _, _, [], _, h, _, _=>by cases h
  | (q, d)::kvs, xs, bs, e::es, hr, hk, hv, hp=>by
    unfold RepP at hr;obtain⟨x, r, b1, c1, rfl, _, h1, h2⟩:= hr;rw [List.map_cons, List.map_cons]at hk;injection hk with k1 k2;rw [List.map_cons]at hv hp;cases hv with
    | cons v1 v2=>
      unfold D.pures at hp;rw [Bool.and_eq_true]at hp;have ih:= qx9 (k:= k) h2 k2 v2 hp.2;have k1 : q = e.1.1:= k1
      by_cases he : e.1 = k
      · have hq : q = k.1:= by rw[k1, he]
        have hg : x8 ((q, d)::kvs) k.1 = some d:= by unfold x8; rw[List.find?_cons_of_pos (by simp[hq])]; rfl
        have ha : atKey (e::es) k = some e.2:= by
          obtain⟨ek, ev⟩:= e;have he : ek = k:= he;simp[atKey, he]
        refine⟨λp km=> ?_, λhn=> ?_⟩
        · rw[ha]at km
          cases oq9 km;exact⟨d, x, hg, v1, (RepL.pu (g':= false) h1 hp.1).2, hp.1⟩
        · rw[ha]at hn; cases hn
      · have hq : q≠k.1:= λz=>he (Subtype.ext (by rw[<-k1]; exact z))
        have hg : x8 ((q, d)::kvs) k.1 = x8 kvs k.1:= by unfold x8; rw[List.find?_cons_of_neg (by simp[hq])]
        have ha : atKey (e::es) k = atKey es k:= by
          obtain⟨ek, ev⟩:= e;have he : ¬ek = k:= he;simp[atKey, he]
        rw[hg, ha];exact ih
theorem qwt{P:Program}{w:PySem.World}{K:Frag}{mg mb:Str->Option Value}{CX:CXT}{k:Nat}{fa a:Addr}{fd:FuncData}{x:Str}{sp:Sp}{s₁:Shared}{vs:List Value}{ns:List Int}
  (KX:K.In s₁.heap) (hns:s₁.heap.Ns mainGlobals mg) (hb:s₁.heap.Ns builtinsNs mb) (hbb:∀x:Str,x≠"__name__"->mb x=bootBuiltins x) (hlim:s₁.heap.NoLimit) (hg:s₁.gens=#[])
  (ha:s₁.heap.get? a=some { cls:=.type "list",data:=.seq vs.toArray }) (hi:IntsAre vs ns) (hl:ns.length<=sizeLine) (hr:Room k callerA)
  (F:∀base:Heap,K.In base->base.Ns mainGlobals mg->FnOk P w K mg base CX k fa fd [x] sp) (qi:∀(s:Shared) (u:Value),BindsTo s fd ⟨[u],[]⟩ [(x,u)])
  (j':∀H:Hp,wz6 H->LsR K H a (ns.map V.int)->sp [.ref a] H (λv _=>v=.bl true) λ_ _ _=>False)
  (hCX:∀H e s',CX [] H s₁ (λ_ _ _=>False) e s'->False):
  codeAny (model P w) callerA (.call (.ref fa) ⟨[.ref a],[]⟩) (λr s'=>r=.ok (.ret (.bool true))/\OldK s₁.heap s'.heap/\s'.os=s₁.os/\AllBare s'.gens) s₁:=by
 have rv:=qqc hi;have lenV:=hi.length;have sj:∀H:Hp,wz6 H->LsR K H a (ns.map V.int)->HOk P w H s₁.heap->(∀b,H b≠none->b=a)->(H a≠none->K.lookup a=none) ->
   codeAny (model P w) callerA (.call (.ref fa) ⟨[.ref a],[]⟩) (λr s'=>r=.ok (.ret (.bool true))/\OldK s₁.heap s'.heap/\s'.os=s₁.os/\AllBare s'.gens) s₁:=by
  intro H hO hS hok hA hK;have i7:∀{b:Addr} {o:Obj},s₁.heap.get? b=some o->H b=none->(K7 s₁.heap H).get? b=some o:=λe n=>vjt e n
  have pd:∀{b:Addr} {o:Obj} {es:Array DictEntry} {ep:Nat},s₁.heap.get? b=some o->o.data=.dict es ep->H b=none:=fun {b o es ep} e d=>by
   cases q:H b with
   | none=>rfl
   | some u=>
    have e':b=a:=hA b (by rw[q];simp);subst e';rw[ha]at e;cases e;have d':Data.seq vs.toArray _=Data.dict es ep:=d;cases d'
  have nsK:∀{b:Addr} {m:Str->Option Value},s₁.heap.Ns b m->(K7 s₁.heap H).Ns b m:=fun {b m} ⟨o,es,ep,e,d,r⟩=>⟨o,es,ep,i7 e (pd e d),d,r⟩
  have hKb:K.In (K7 s₁.heap H):=λb o e=>i7 (KX b o e) (by
   cases q:H b with
   | none=>rfl
   | some u=>
    have e':b=a:=hA b (by rw[q];simp);subst e';rw[hK (by rw[q];simp)]at e;cases e)
  have hM:Mod K mg (K7 s₁.heap H):=⟨hKb,nsK hns,⟨mb,nsK hb,hbb⟩,let ⟨mc,h1,h2⟩:=hlim;⟨mc,nsK h1,h2⟩⟩;have e0:Env0 P w K mg (K7 s₁.heap H) callerA [] s₁ H:=⟨rfl,hM,λb o e=>vwq e,Nat.le_of_eq (qx5 _ _),trivial,λb hb=>absurd (show b∈([]:List Addr)from hb) (by simp),hok,.of_eq hg⟩;refine codeAny_mono ((F _ hKb (nsK hns)).run callerA [] s₁ H ⟨[.ref a],[]⟩ [.ref a] [.ref a] _ _ hr e0 (qi s₁ (.ref a)) (.cons rfl .nil) (j' H hO hS)) λr s' h=>?_
  cases r with
  | error e=>exact(hCX H e s' h).elim
  | ok fl=>
   cases fl with
   | next=>exact False.elim h| brk=>exact False.elim h| cont=>exact False.elim h
   | ret u=>
    obtain⟨v,H',os,bare,un,hok',r',q⟩:=h;have q':v=.bl true:=q;subst q';obtain rfl:u=Value.bool true:=r';refine⟨rfl,OldK.of_keep λb o e=>?_,os,bare⟩;cases q:H b with
    | none=>exact un.keep b o e q (by intro z;exact absurd (show b∈([]:List Addr)from z) (by simp)) (by simp)
    | some u=>
     rcases hO b with z|⟨ob,xs,z⟩
     ·rw[q]at z;cases z
     ·have z2:=un.frzs b ob _ z;obtain⟨e1,_⟩:=hok b _ z;obtain⟨e2,_⟩:=hok' b _ z2;rw[e]at e1;cases e1;exact e2
 cases hk:K.lookup a with
 | some o=>
  have e:=KX a o hk;rw[ha]at e;cases e;refine sj (λ_=>none) (λ_=>.inl rfl) (.inr ⟨vs.toArray,_,hk,by rw[X7,lenV];exact hl,by simpa using rv⟩) (λb u z=>by have z':(none:Option HO)=some u:=z;cases z') (λb z=>absurd rfl z) λz=>absurd rfl z
 | none=>
  refine sj (λb=>if b=a then some (.frz { cls:=.type "list",data:=.seq vs.toArray } (.lst (ns.map V.int)))else none) (λb=>?_) (.inl (.inr ⟨{ cls:=.type "list",data:=.seq vs.toArray },X8 rfl⟩)) (λb u z=>?_) (λb z=>?_) λ_=>hk
  ·by_cases hb:b=a
   ·exact .inr ⟨_,_,X8 hb⟩
   ·exact .inl (Xf hb)
  ·by_cases hb:b=a
   ·have z':=(X8 hb).symm.trans z;cases z';subst hb;exact⟨ha,by rw[X3];exact hl,vs,_,rv,ha⟩
   ·have z':=(Xf hb).symm.trans z;cases z'
  ·by_cases hb:b=a
   ·exact hb
   ·exact absurd (Xf hb) z
@[elab_as_elim] theorem wzz {P:List Value->Prop}(us:List Value)(e:us.length=1)(h:∀a,P [a]):P us:=by
 cases us with|nil=>cases e|cons a us=>cases List.eq_nil_of_length_eq_zero (Nat.succ.inj e);exact h a
@[elab_as_elim] theorem wzy {P:List Value->Prop}(us:List Value)(e:us.length=2)(h:∀a b,P [a,b]):P us:=by
 cases us with|nil=>cases e|cons a us=>exact wzz (P:=λl=>P (a::l)) us (Nat.succ.inj e) λb=>h a b
@[elab_as_elim] theorem wzx {P:List Value->Prop}(us:List Value)(e:us.length=3)(h:∀a b c,P [a,b,c]):P us:=by
 cases us with|nil=>cases e|cons a us=>exact wzy (P:=λl=>P (a::l)) us (Nat.succ.inj e) λb c=>h a b c
@[elab_as_elim] theorem wzw {P:List Value->Prop}(us:List Value)(e:us.length=4)(h:∀a b c d,P [a,b,c,d]):P us:=by
 cases us with|nil=>cases e|cons a us=>exact wzx (P:=λl=>P (a::l)) us (Nat.succ.inj e) λb c d=>h a b c d
@[elab_as_elim] theorem wzv {P:List Value->Prop}(us:List Value)(e:us.length=5)(h:∀a b c d f,P [a,b,c,d,f]):P us:=by
 cases us with|nil=>cases e|cons a us=>exact wzw (P:=λl=>P (a::l)) us (Nat.succ.inj e) λb c d f=>h a b c d f
@[elab_as_elim] theorem len6 {P:List Value->Prop}(us:List Value)(e:us.length=6)(h:∀a b c d f g,P [a,b,c,d,f,g]):P us:=by
 cases us with|nil=>cases e|cons a us=>exact wzv (P:=λl=>P (a::l)) us (Nat.succ.inj e) λb c d f g=>h a b c d f g
theorem jxq{K:Frag}{H:Hp}{g:Bool}:∀(ns:List Int),RepA K H g (ns.map D.int) (ns.map V.int) []
 |[]=>by unfold RepA;exact⟨rfl,rfl⟩
 |n::ns=>by
  rw[List.map_cons,List.map_cons];unfold RepA;exact⟨_,_,[],[],rfl,rfl,wq,jxq ns⟩
theorem wq2{K:Frag}{mg:Str->Option Value}{f:Fn}{H:Hp}{a:Addr}{ns:List Int}(h:∃E o,f [(.no,.lst (ns.map D.int))]=some (.ok E (o,.bl true)))(hs:LsR K H a (ns.map V.int))(hO:wz6 H):
  spF K mg 1 f [.ref a] H (λv _=>v=.bl true) λ_ _ _=>False:=by
 obtain⟨E,o,h⟩:=h;have h8:∃as,RepL K H true (.lst (ns.map D.int)) (.ref a) as/\(∀b∈as,False):=by
  rcases hs with(hs|⟨ob,hs⟩)|hs
  ·rcases hO a with z|⟨_,_,z⟩<;>(rw[hs]at z;cases z)
  ·refine⟨[],?_,λb hb=>nomatch hb⟩;unfold RepL;exact⟨a,ns.map V.int,[],rfl,jxq ns,.inr ⟨rfl,.inl ⟨ob,hs⟩,rfl⟩⟩
  ·refine⟨[],?_,λb hb=>nomatch hb⟩;unfold RepL;exact⟨a,ns.map V.int,[],rfl,jxq ns,.inr ⟨rfl,.inr hs,rfl⟩⟩
 obtain⟨as,r,hn⟩:=h8;refine⟨[⟨.no,.lst (ns.map D.int),.ref a,as⟩],_,rfl,rfl,?_,h,(λE' c z=>by cases z),λE' s z x H' e1 e2 w' st=>?_⟩
 ·exact⟨λx hx=>by rw[oq9 (aC hx)];exact r,by simp[Sl.own],λb hb=>by simp[Sl.own]at hb⟩
 ·injection z with z1 z2;subst z2;exact WZ w'.head e2
section
open PySem.W PySem.Calls
theorem walkQ{l:OpenLaw}{n k:Nat}{q:Program}{qw:List Str}{XP:(Str->Option Value)->Heap->Prop}{YP:PySem.World->Heap->Prop}{d:DefRec}{K:Params->Frag}{f:Fn}{x:Str}
  (hn:l.most=some n) (kh:n<=sizeLine) (hdf:d.params.defaults=[]) (hr:Room k callerA)
  (hY:∀(w:PySem.World) (h:Heap),YP w h->(K w.params).In h)
  (F:∀(w:PySem.World) (mg:Str->Option Value) (fa:Addr) (h:Heap),(K w.params).In h->h.Ns mainGlobals mg->mg d.name=some (.ref fa) ->
   ∃fd:FuncData,(∀(s:Shared) (u:Value),BindsTo s fd ⟨[u],[]⟩ [(x,u)])/\∀base:Heap,(K w.params).In base->base.Ns mainGlobals mg->FnOk l.prog w (K w.params) mg base (CXE l.prog w) k fa fd [x] (spF (K w.params) mg 1 f))
  (j':∀(ns:List Int),ns.length<=n->(∀i∈ns,Builtin.Int.intBits i<=1048576)->∃E o,f [(.no,.lst (ns.map D.int))]=some (.ok E (o,.bl true))):
  WalkO q qw XP YP l.row.toRowW d [] (λf vs=>PySem.call f vs):=by
 intro w s0 s1 mg mb G Y fa o pm cd en dV kV ho hd fm hD hmg hg args ca as ko hlay hrd lr hlo;obtain rfl:dV=.none:=Dflts.none hD hdf;obtain rfl:kV=.none:=Dflts.noKw hD;obtain⟨a,vs,ns,rfl,rfl,hobj,ou,ab⟩:=Att.script_of hn ko lr;have qp:=kzi hlay;have KX:=hY w _ Y;obtain⟨fd,hb,hF⟩:=F w mg fa _ KX G.T.g hmg;refine enter_call (codeAny_mono (qwt KX G.T.g G.T.b G.T.builtins G.T.nolimit hg hobj ou (Ye ab kh) hr hF hb (λH hO hS=>wq2 (j' ns ab qp) hS hO) (λ_ _ _ ⟨_,_,_,_,_,_,_,_,_,_,_,_,_,_,_,z⟩=>z)) λr s' hq=>?_);obtain⟨rfl,h2,h3,h4⟩:=hq;exact⟨.inl ⟨.bool true,.bool true,[],rfl,λ_=>rfl,.bool true,Att.post_true l _,λ_=>⟨List.Pairwise.nil,λ_ hm=>(nomatch hm)⟩⟩,h2,h3,h4⟩
end
section
variable {P:Program}{w:PySem.World}{K:Frag}{mg:Str->Option Value}{base h:Heap}{x:Str}{st:Stmt}{ps:List Str}{k:Nat}{sp:Sp}
noncomputable def Gf(K:Frag)(x:Str)(st:Stmt):Prop:=∃(f:Addr) (oc:Value) (od:Option Addr) (kV dc pm:Value) (an:Option Addr) (cd ct:Value) (sl:Array (Option Value)),nsIn K mainGlobals x=some (some (.ref f))/\K.lookup f=some ⟨oc,od,.func (PySem.W.fnOf x x (xj st) (z5 st) (jX st) .none kV dc pm an cd ct),sl⟩/\PySem.W.codeIn K cd x=true/\PySem.W.keepIn K (.ref f)=true
theorem Gf.mk{f:Addr}{oc:Value}{od:Option Addr}{kV dc pm:Value}{an:Option Addr}{cd ct:Value}{sl:Array (Option Value)}(a:nsIn K mainGlobals x=some (some (.ref f)))(l:K.lookup f=some ⟨oc,od,.func (PySem.W.fnOf x x (xj st) (z5 st) (jX st) .none kV dc pm an cd ct),sl⟩)(c:PySem.W.codeIn K cd x=true)(k:PySem.W.keepIn K (.ref f)=true):Gf K x st:=⟨f,oc,od,kV,dc,pm,an,cd,ct,sl,a,l,c,k⟩
theorem Gf.d(g:Gf K x st)(X:K.In h)(G:h.Ns mainGlobals mg)(ok:∀{f:Addr} {fd:FuncData},Fun K x x st f fd->FnOk P w K mg base (CXE P w) k f fd ps sp)
  (hb:∀(kV en pm:Value) (an:Option Addr) (ax ct:Value) (us:List Value),us.length=ps.length->bindArgs (PySem.W.fnOf x x (xj st) (z5 st) (jX st) .none kV en pm an ax ct) ⟨us,[]⟩=pure (ps.zip us):=by
   intro _ _ _ _ _ _ us hl
   first
   |exact wzz us hl λ_=>rfl|exact wzy us hl λ_ _=>rfl|exact wzx us hl λ_ _ _=>rfl|exact wzw us hl λ_ _ _ _=>rfl|exact wzv us hl λ_ _ _ _ _=>rfl
   |exact len6 us hl λ_ _ _ _ _ _=>rfl):kK P w K mg base k x ps sp:=by
 obtain⟨f,oc,od,kV,dc,pm,an,cd,ct,sl,a,l,c,kp⟩:=g;exact⟨f,_,ok (qxc l c kp),(qxc l c kp).binds hb,kp,PySem.W.mg_of X G a⟩
theorem Gf.law{fa:Addr}{y:Str}(g:Gf K "law" st)(X:K.In h)(G:h.Ns mainGlobals mg)(hfa:mg "law"=some (.ref fa))(ok:∀{base:Heap} {f:Addr} {fd:FuncData},Fun K "law" "law" st f fd->FnOk P w K mg base (CXE P w) k f fd [y] sp)
  (hb:∀(kV en pm:Value) (an:Option Addr) (ax ct:Value) (s:Shared) (v:Value),BindsTo s (PySem.W.fnOf "law" "law" (xj st) (z5 st) (jX st) .none kV en pm an ax ct) ⟨[v],[]⟩ [(y,v)]:=by
   intros
   exact .of_eq rfl):
  ∃fd:FuncData,(∀(s:Shared) (v:Value),BindsTo s fd ⟨[v],[]⟩ [(y,v)])/\∀base:Heap,K.In base->base.Ns mainGlobals mg->FnOk P w K mg base (CXE P w) k fa fd [y] sp:=by
 obtain⟨f,oc,od,kV,dc,pm,an,cd,ct,sl,a,l,c,kp⟩:=g;have e:=hfa.symm.trans (PySem.W.mg_of X G a);cases e;exact⟨_,hb kV dc pm an cd ct,λbase _ _=>ok (qxc l c kp)⟩
end
end Q
namespace Q
open PySem L2
theorem mkS{N P:List Str}{sc:Scope}(h1:autoParam (sc.kind=.function) Ŕ)(h2:autoParam (sc.isCoroutine=false) Ŕ)(h3:autoParam (sc.isGenerator=false) Ŕ)(h4:autoParam (N.Nodup) ŗ)(h5:autoParam (N.take P.length=P) Ŕ)(h6:autoParam (∀x∈P,sc.names.lookup x=some .local\/sc.names.lookup x=some .cell) ŗ)(h7:autoParam (∀y∈sc.names,y.2≠.free) ŗ):FnScope N P sc:=⟨h1,h2,h3,h4,h5,h6,h7⟩
end Q
namespace Q
open PySem PySem.Spec PyProof.Rows L2 L3
section
variable {X:Cx}{Z:Fx0}{pn:List Nat}{q qa:Bool}{a b c:Ex}{e ea eb:Expr}{pos p:Pos}
theorem kI{z:Int}{j}:QE X Z true (cC (.int z)) (.Constant (.int z) j p):=q_C wkg λ_=>wq
theorem ki{z:Int}{j}:QV X Z true (vE (cC (.int z))) (.Constant (.int z) j p):=j6 kI
theorem kN{j}:QE X Z true (cC .non) (.Constant .none j p):=q_C wkd λ_=>qv7
theorem kn{j}:QV X Z true (vE (cC .non)) (.Constant .none j p):=j6 kN
theorem kS{z:Str}{j}(h:autoParam (z.length<=sizeLine) ŕ):QE X Z true (cC (.str z)) (.Constant (.str z) j p):=q_C vq7 λ_=>Wv h
theorem ks{z:Str}{j}(h:autoParam (z.length<=sizeLine) ŕ):QV X Z true (vE (cC (.str z))) (.Constant (.str z) j p):=j6 (kS h)
theorem vv(i:Nat){x:Str}(hN:autoParam (X.N[i]?=some x) Ŕ)(hv:autoParam (Vis X.env.scope x) ř)(hd:autoParam ((x==("__debug__":Str))=false) ŕ)
  (fm:autoParam ((x==("__classdict__":Str))=false) ŕ):QV X Z true (vV i) (.Name x pos):=q_vV (pv i hN hv hd fm)
theorem cv(i:Nat){x:Str}(hN:autoParam (X.N[i]?=some x) Ŕ)(hv:autoParam (Vis X.env.scope x) ř)(hd:autoParam ((x==("__debug__":Str))=false) ŕ)
  (fm:autoParam ((x==("__classdict__":Str))=false) ŕ):QE X Z true (cV i) (.Name x pos):=q_V (pv i hN hv hd fm)
theorem kx(ha:QV X Z qa a ea)(hb:QV X Z true b eb)(hs:kva eb:=by exact λ_ _=>rfl)(hK:autoParam (X.K=Z.K) Ŕ):QV X Z qa (jv a b) (.Subscript ea eb pos):=q_ix ha hb hs hK
theorem qA{i:Nat}{y:Str}{ao:Pos}(hN:X.N.Nodup)(h:QE X Z q a ea)(hi:autoParam (X.N[i]?=some y) Ŕ)(hx:autoParam (Loc X.env.scope y) Ś)(hp:autoParam (i∉pn) ŕ)(hs:autoParam (swapsWith ea (some (.Name y ao)) pos.line X.env=pure false) Ŕ)(hf:autoParam (X.fn y=true\/X.env.scope.names.lookup y=some .local) Ř):
  QS X Z pn (jq i a) (.Assign [.Name y ao] ea pos):=wx2 hN hi hx h hp hs hf
theorem gn{i:Nat}{x:Str}(hN:X.N.Nodup)(hi:autoParam (X.N[i]?=some x) Ŕ)(hx:autoParam (Loc X.env.scope x) Ś)(hf:autoParam (X.fn x=true\/X.env.scope.names.lookup x=some .local) Ř):PG X (.Name x pos) (qxb i):=vY hN hi hx hf
theorem gN{i:Nat}{x:Str}(hN:X.N.Nodup)(hi:autoParam (X.N[i]?=some x) Ŕ)(hx:autoParam (Loc X.env.scope x) Ś)(hf:autoParam (X.fn x=true\/X.env.scope.names.lookup x=some .local) Ř)(hp:autoParam (i∉pn) ŕ):QG X Z pn (.n i) (.Name x pos):=Qx (vY hN hi hx hf) hp
theorem qC{k m n:Nat}{x:Str}{ps:List Str}{f:Fn}{cs:List Ex}{es:List Expr}(D:kK X.prog X.w X.K X.mg X.base k x ps (spF Z.K Z.mg n f))(hr:Room m X.A)(ha:QA X Z q cs (e::es))(g:wY X Z.EX:=by exact zV)(ff:autoParam (k<=m) ŕ)(hn:autoParam (cs.length=n) Ŕ)(hg:autoParam (Gl X x) Ŕ)(dn:autoParam ((x==("__debug__":Str))=false) ŕ)
  (he:autoParam (starEach (e::es) X.env=(false,eval e X.env)::starEach es X.env) Ŕ) (bh:autoParam ((backTo pos (starEach es X.env)).any (·.1)=false) Ŕ):
  QE X Z q (jz f cs) (.Call (.Name x p) (e::es) [] pos):=wjs D (hr.mono ff) g ha hn hg dn he bh
theorem qF{tg ae:Expr}{ss:List Stmt}{it:Ev (List D)}{t:Tg}{B:Sm}(hi:QI X Z q tg it ae)(hg:QG X Z pn t tg)(hb:QSs X Z pn B ss)(hp:PassesOwn (model X.prog X.w) X.A X.env X.xe:=by exact qw2 ⟨_,_,rfl,rfl⟩)(hc:autoParam (X.calm=true) Ŕ)(hs:autoParam (∀x,foldedSetIterable ae X.env x=pure x) Ŗ):QS X Z pn (vQ it t B) (.For tg ae ss [] pos):=wx0 hp hc hi hg hb hs
theorem oA(ha:QV X Z qa a ea)(hb:QV X Z true b eb)(hK:autoParam (X.K=Z.K) Ŕ):QE X Z qa (cF2 kq a b) (.BinOp ea .Add eb pos):=qV (wkq hK) wvl ha hb
theorem oX(ha:QV X Z qa a ea)(hb:QV X Z true b eb)(hK:autoParam (X.K=Z.K) Ŕ):QE X Z qa (cF2 xW a b) (.BinOp ea .Mult eb pos):=qV (wko hK) vz5 ha hb
theorem oM(ha:QV X Z qa a ea)(hb:QV X Z true b eb):QE X Z qa (cF2 (pu2 k9) a b) (.BinOp ea .Mod eb pos):=qV wkn wvg ha hb
theorem qP{i:Nat}{x:Str}{bb ai xp:Pos}(h:QE X Z q c e)(hN:autoParam (X.N[i]?=some x) Ŕ)(hv:autoParam (Vis X.env.scope x) ř)(hd:autoParam ((x==("__debug__":Str))=false) ŕ)
  (fm:autoParam ((x==("__classdict__":Str))=false) ŕ) (ce:autoParam (attributeBase (.Name x xp) "append" X.env (eval (.Name x xp) X.env)=eval (.Name x xp) X.env) Ŕ)
  (dy:autoParam (((backTo ai (starEach [e] X.env)).all (λx=>!x.1)&&(backToKw ai (keywordEach [] X.env)).all (λx=>x.1.isSome)
   && decide ([e].length+([]:List Keyword).length+(if([]:List Keyword).isEmpty then 0 else 1)<30))=true) Ŕ)
  (ck:autoParam ((bb.endLine==ai.line)=true) Ŕ) (hs:autoParam (starEach [e] X.env=(false,eval e X.env)::starEach [] X.env) Ŕ) (bd:autoParam ((backTo ai (starEach [] X.env)).any (·.1)=false) Ŕ) (hK:autoParam (X.K=Z.K) Ŕ)
  (mj:autoParam (swapsWith (.Call (.Attribute (.Name x xp) "append" bb) [e] [] ai) none pos.line X.env=pure false) Ŕ):
  QS X Z pn (vJ vW i c) (.Expr (.Call (.Attribute (.Name x xp) "append" bb) [e] [] ai) pos):=wx3 (vqa Z.K PySem.F.plainAttrs_list PySem.F.slot_list_append PySem.F.type_list_append qwe (pv i hN hv hd fm) (wj h wJ hs) ce dy ck hs bd hK) mj
theorem qL(ha:QV X Z q a ea)(hm:X.mg "len"=none)(hK:autoParam (X.K=Z.K) Ŕ)(hg:autoParam (Gl X "len") Ŕ)(he:autoParam (starEach [ea] X.env=(false,eval ea X.env)::starEach [] X.env) Ŕ)(bh:autoParam ((backTo pos (starEach [] X.env)).any (·.1)=false) Ŕ):QE X Z q (cF1 (pu1 v6) a) (.Call (.Name "len" p) [ea] [] pos):=wzs (hK▸vxw X.K) wvh ha hm wv8 hg ⋯ ⋯ he bh
theorem qT(ha:QV X Z q a ea)(hm:X.mg "tuple"=none)(hK:autoParam (X.K=Z.K) Ŕ)(hg:autoParam (Gl X "tuple") Ŕ)(he:autoParam (starEach [ea] X.env=(false,eval ea X.env)::starEach [] X.env) Ŕ)(bh:autoParam ((backTo pos (starEach [] X.env)).any (·.1)=false) Ŕ):QE X Z q (cF1 K1 a) (.Call (.Name "tuple" p) [ea] [] pos):=KZ (qxz hK) vkf ha hm vkc hg ⋯ ⋯ he bh
variable {ae d9 tg:Expr}{cu:List Expr}{scope:Scope}{it:Ev (List D)}{tt:Tg}{u:Ts}
theorem qm(o:Own)(k:Nat)(R:List Nat)(m:Nat)(N:List Str)(hi:QI X Z q tg it ae)
  (hg:N.Nodup->∀cl C s0 H0 fp,QG (lcE X scope N cl C s0 H0 fp Z.EX) Z ((List.range R.length).map (k + ·)) tt tg) (ht:∀cl C s0 H0 fp,PTs (lcE X scope N cl C s0 H0 fp Z.EX) cu (tT Z q u)) (he:∀cl C s0 H0 fp,QE (lcE X scope N cl C s0 H0 fp Z.EX) Z q c d9)
  (hN:autoParam (N.Nodup) ŗ) (gx:wY X Z.EX:=by exact zV) (top:zj X:=by exact⟨_,_,rfl,rfl⟩) (hR:autoParam (R.Nodup) ŕ) (hm:autoParam (X.N.length=m) Ŕ) (hr:autoParam (∀j∈R,j<m) ŕ) (hc:autoParam (X.calm=true) Ŕ) (hk:autoParam (scope.kind=.function) Ŕ) (gu:autoParam (Jz X.N X.env.scope scope N k R=true) Ŕ) (hs:autoParam (∀x,foldedSetIterable ae X.env x=pure x) Ŗ):
  QE X Z q (cLC o k R it tt u c) (.ListComp d9 [⟨tg,ae,cu,0⟩] scope pos):=wzr N hi (hg hN) ht he gx top hR (hm▸hr) hc hk gu hs
theorem qM{x:Str}{p':Pos}(o:Own)(k:Nat)(R:List Nat)(m:Nat)(N:List Str)(hi:QI X Z q (.Name x p') it ae)(he:∀cl C s0 H0 fp,QE (lcE X scope N cl C s0 H0 fp Z.EX) Z q c d9)
  (hN:autoParam (N.Nodup) ŗ) (gx:wY X Z.EX:=by exact zV) (top:zj X:=by exact⟨_,_,rfl,rfl⟩) (hR:autoParam (R.Nodup) ŕ) (hm:autoParam (X.N.length=m) Ŕ) (hr:autoParam (∀j∈R,j<m) ŕ) (hc:autoParam (X.calm=true) Ŕ) (hk:autoParam (scope.kind=.function) Ŕ) (gu:autoParam (Jz X.N X.env.scope scope N k R=true) Ŕ) (hs:autoParam (∀x,foldedSetIterable ae X.env x=pure x) Ŗ)
  (hg:N.Nodup->∀cl C s0 H0 fp,QG (lcE X scope N cl C s0 H0 fp Z.EX) Z ((List.range R.length).map (k + ·)) (.n 0) (.Name x p'):=by exact λh _ _ _ _ _=>Qx (vY (i:=0) h rfl (by trivial))):
  QE X Z q (cLC o k R it (.n 0) tYes c) (.ListComp d9 [⟨.Name x p',ae,[],0⟩] scope pos):=wzr N hi (hg hN) (λ_ _ _ _ _=>Q5) he gx top hR (hm▸hr) hc hk gu hs
end
end Q
namespace Q
def ddS(ss:List PySem.Str):List PySem.Str:=ss.foldl (λl k=>if l.any (· == k)then l else l++[k]) []
def ddI(ss:List Int):List Int:=ss.foldl (λl k=>if l.any (· == k)then l else l++[k]) []
def W8:Sd->Option Sd:=λx=>match x.2 with
 |.lst ds=>(match xK ds with
  |some ss=>if ss.length<64 then some (.rt,.lst ((x5 (ddS ss)).map .str))else none
  |none=>none)
 |_=>none
def V8:D->Option D:=λx=>match x with
 | .lst ds=>(match xK ds with
  |some ss=>if ss.length<4000 then some (.int (ddS ss).length)else none
  |none=>(match K9 ds with
   |some is=>if is.length<4000 then some (.int (ddI is).length)else none
   |none=>none))
 |_=>none
end Q
namespace Sw
open PySem PyProof.Rows
section
variable {prog:Program}{w:World}{A:Around}{E:VP9}{s:Shared}
def tx(w:World):Bool:=w.params.followText "set-order"
structure Ok (prog:Program)(w:World)(o:Obj)(es:Array (Int×Value))(ep:Nat)(t:SetTable):Prop where
 ex:o.ExactSet
 d:o.data=.set es ep t
 el:ElemsOf (PySem.strKind prog w) es.toList
 b:es.size<scanBound
 f:t.fits es.size=true
 led:t.led=!tx w
 pl:t.plain=false\/es.size=0
def V6(es:List (Int×Value)):List Str:=es.map λe=>strOf e.2
def Has(prog:Program)(w:World)(h:Heap)(a:Addr)(ls:List Str):Prop:=∃o es ep t,h.get? a=some o/\Ok prog w o es ep t/\(V6 es.toList).Perm ls
theorem vql{l:List (Int×Value)}(h:ElemsOf (PySem.strKind prog w) l){e:Int×Value}(he:e∈l):∃k t,e.2=.str k t:=by
 obtain⟨⟨k,hk,_⟩,_⟩:=h e he;obtain⟨t,ht⟩:=Value.isStrOf_shape hk;exact⟨k,t,ht⟩
theorem wqg{l:List (Int×Value)}(h:ElemsOf (PySem.strKind prog w) l)(k:Str):(∃e∈l,(PySem.strKind prog w).is k e.2=true)↔k∈V6 l:=by
 unfold V6;rw[List.mem_map];constructor
 ·rintro ⟨e,he,hk⟩;obtain⟨t,ht⟩:=Value.isStrOf_shape hk;exact⟨e,he,by rw[ht];rfl⟩
 ·rintro ⟨e,he,hk⟩;obtain⟨k',t,ht⟩:=vql h he;rw[ht]at hk;cases(show k'=k from hk);exact⟨e,he,by rw[ht];exact strKind_is _ _ _ _⟩
theorem vx3(t:SetTable)(es:Array (Int×Value))(h:Int)(x:Value):(layNew t es h x).2.1.led=t.led/\((layNew t es h x).2.1.plain=true->t.plain=true):=by
 unfold layNew
 split
 ·rename_i slot wd _;show((t.put slot).1.orStandIn _).led=_/\(((t.put slot).1.orStandIn _).plain=true->_);unfold SetTable.orStandIn
  split
  ·exact⟨rfl,λh=>h⟩
  ·exact⟨rfl,λh=>nomatch h⟩
 ·exact⟨rfl,λh=>nomatch h⟩
theorem qv9(t:SetTable)(es:Array (Int×Value))(n:Nat):(relayAll t es n).2.1.led=t.led/\((relayAll t es n).2.1.plain=true->t.plain=true):=by
 unfold relayAll
 split
 ·rename_i t' order hr;dsimp only
  split
  ·unfold SetTable.relaid SetTable.laid at hr;rw[Option.bind_eq_bind,Option.bind_eq_some_iff]at hr;obtain⟨ow,_,e⟩:=hr;cases oq9 e;exact⟨rfl,λh=>h⟩
  ·exact⟨rfl,λh=>nomatch h⟩
 ·exact⟨rfl,λh=>nomatch h⟩
theorem vzw{h:Heap}{a:Addr}{o:Obj}{es es':Array (Int×Value)}{ep:Nat}{t t':SetTable}(ho:h.get? a=some o)(hd:o.data=.set es ep t):(h.update a (Obj.putSet es' t')).get? a=some { o with data:=.set es' (ep+1) t' }:=by
 have:=Y1 (Obj.putSet es' t') ho (by rw[putSet_of es' t' hd];rfl)
 rwa [putSet_of es' t' hd]at this
theorem tail{g:Bool->Sem Unit}(hg:∀(b:Bool) (s₁:Shared) (Q':Unit->Shared->Prop),Q' () s₁->wpAny (model prog w) A (g b) Q' E s₁)
  {a:Addr} {o:Obj} {es dm:Array (Int×Value)} {ep:Nat} {t t2:SetTable} {ls:List Str} {jb:Bool} {R:Option Bool->Shared->Prop} (ho:s.heap.get? a=some o) (hd:o.data=.set es ep t) (lz:o.ExactSet)
  (hel:ElemsOf (PySem.strKind prog w) dm.toList) (hb:dm.size<scanBound) (hf:t2.fits dm.size=true) (qe:t2.led=!tx w) (bh:t2.plain=false) (hp:(V6 dm.toList).Perm ls)
  (h:∀h',Heap.SameBut a s.heap h'->Has prog w h' a ls->R (some true) { s with heap:=h' }):
  wpAny (model prog w) A (do
    storeSet a dm t2
    if(!jb&&t2.tooFull)=true then do
      g (relayAll t2 dm (SetTable.grown dm.size)).2.2
      storeSet a (relayAll t2 dm (SetTable.grown dm.size)).1 (relayAll t2 dm (SetTable.grown dm.size)).2.1
      pure (some true)
     else pure (some true)) R E s:=by
 refine X0 (wpAny_storeSet_of ho hd ?_ (fits_of_scanBound hb));have iq:=vzw (es':=dm) (t':=t2) ho hd;have jl:=Ya s.heap a (Obj.putSet dm t2)
 split
 ·have r1:=relayAll_perm t2 dm (SetTable.grown dm.size);have r2:=relayAll_fits t2 dm (SetTable.grown dm.size);obtain⟨r3,r4⟩:=qv9 t2 dm (SetTable.grown dm.size);generalize relayAll t2 dm (SetTable.grown dm.size)=V at r1 r2 r3 r4 ⊢;obtain⟨es2,t3,gv⟩:=V;dsimp only at r1 r2 r3 r4 ⊢;have hz:es2.size=dm.size:=by rw[<-Xr,r1.length_eq,Xr]
  refine X0 (hg _ _ _ ?_);refine X0 (wpAny_storeSet_of iq rfl ?_ (fits_of_scanBound (by rw[hz];exact hb)));refine X5 (h _ (jl.trans (Ya _ a _)) ⟨_,es2,_,t3,vzw iq rfl,⟨lz,rfl,hel.perm r1,by rw[hz];exact hb,r2,r3.trans qe,.inl ?_⟩,(r1.map _).trans hp⟩);cases hq:t3.plain with|false=>rfl|true=>rw[r4 hq]at bh;cases bh
 ·exact X5 (h _ jl ⟨_,dm,_,t2,iq,⟨lz,rfl,hel,hb,hf,qe,.inl bh⟩,hp⟩)
theorem add{a:Addr}{k:Str}{tk:Tok}{ls:List Str}{Q:Bool->Shared->Prop}(hS:Has prog w s.heap a ls)(hl:ls.length+1<scanBound)
  (h:∀b h',Heap.SameBut a s.heap h'->Has prog w h' a (step_dedup ls k)->Q b { s with heap:=h' }):wpAny (model prog w) A (setAddHashed a (.str k tk) ((PySem.strKind prog w).hash k)) Q E s:=by
 obtain⟨o,es,ep,t,ho,hk,hp⟩:=hS;have hsz:es.size=ls.length:=by rw[<-hp.length_eq];unfold V6;rw[X3,Xr]
 have im:(PySem.strKind prog w).is k (.str k tk)=true:=strKind_is _ _ _ _;have hmk:(∃e∈es.toList,(PySem.strKind prog w).is k e.2=true)↔k∈ls:=(wqg hk.el k).trans hp.mem_iff;unfold setAddHashed setAddHashedIn;refine Y9 (X0 (Zj ho hk.d hk.f ?_));dsimp only;rw[byScan_of rfl hk.b hk.el];simp only[↓reduceIte];unfold setAddByScan;refine X0 ?_;refine X0 (Zp ?_);refine X0 (wpAny_setScan_of im ho hk.d hk.f hk.el ?_);cases hr:List.findIdx? (λe=>(PySem.strKind prog w).is k e.2) es.toList with
 | some j=>
  dsimp only;obtain⟨hj,hpj,_⟩:=List.findIdx?_eq_some_iff_getElem.mp hr;have gc:k∈ls:=hmk.mp ⟨_,Xw hj,hpj⟩;have bc:step_dedup ls k=ls:=by unfold step_dedup;rw[X8 (List.any_eq_true.mpr ⟨k,gc,by simp⟩)]
  refine X5 (X5 ?_);have:=h false s.heap (Heap.SameBut.refl a s.heap) (by rw[bc];exact⟨o,es,ep,t,ho,hk,hp⟩);exact this
 | none=>
  dsimp only;have hni:k∉ls:=λgc=>by
   obtain⟨e,he,hq⟩:=hmk.mpr gc;have:=List.findIdx?_eq_none_iff.mp hr e he;rw[hq]at this;cases this
  have bc:step_dedup ls k=ls++[k]:=by
   unfold step_dedup;rw[Xf];intro hh;obtain⟨y,hy,e⟩:=List.any_eq_true.mp hh;rw[eq_of_beq e]at hy;exact hni hy
  rw[bc]at h;have hgw:∀(b:Bool) {s₁:Shared} {Q':Unit->Shared->Prop},Q' () s₁->wpAny (model prog w) A (match b with|true=>PySem.rule "set.scan.the-table-gave-way" | false=>pure ()) Q' E s₁:=
   λb s₁ Q' hq=>by cases b<;>first|exact X5 hq|exact Zp hq
  have l1:=layNew_perm t es ((PySem.strKind prog w).hash k) (.str k tk);have l2:=layNew_fits t es ((PySem.strKind prog w).hash k) (.str k tk);obtain⟨l3,l4⟩:=vx3 t es ((PySem.strKind prog w).hash k) (.str k tk);generalize layNew t es ((PySem.strKind prog w).hash k) (.str k tk)=V at l1 l2 l3 l4 ⊢;obtain⟨dm,t1,wd,gv⟩:=V;dsimp only at l1 l2 l3 l4 ⊢;rw[Array.toList_push]at l1;have oq:ElemsOf (PySem.strKind prog w) dm.toList:=(hk.el.push im rfl).perm l1;have ny:dm.size=ls.length+1:=by rw[<-Xr,l1.length_eq,Xd,Xr,hsz];rfl
  have hp1:(V6 dm.toList).Perm (ls++[k]):=by
   refine(l1.map λe=>strOf e.2).trans ?_;rw[X9];exact hp.append (List.Perm.refl _)
  refine X0 (hgw _ ?_)
  split
  ·refine X0 ?_;rw[hashByValue_scannable 8 rfl];refine X5 ?_;refine tail ?_ ho hk.d hk.ex oq (by rw[ny];exact hl) (SetTable.fits_plain_off l2) (l3.trans hk.led) rfl hp1 λh' a1 a2=>?_
   ·intro b s₁ Q' hq;cases b<;>first|exact X5 hq|exact Zp hq
   ·exact X5 (h true h' a1 a2)
  ·rename_i bh;refine X0 (X5 ?_);refine tail ?_ ho hk.d hk.ex oq (by rw[ny];exact hl) l2 (l3.trans hk.led) (show t1.plain=false from Bool.eq_false_iff.mpr bh) hp1 λh' a1 a2=>?_
   ·intro b s₁ Q' hq;cases b<;>first|exact X5 hq|exact Zp hq
   ·exact X5 (h true h' a1 a2)
def dd(ss:List Str):List Str:=ss.foldl step_dedup []
theorem vxv{ss:List Str}{i:Nat}{x:Str}(h:ss[i]?=some x):dd (ss.take (i+1))=step_dedup (dd (ss.take i)) x:=by
 obtain⟨hl,e⟩:=List.getElem?_eq_some_iff.mp h;unfold dd;rw[List.take_succ,h,List.foldl_append];rfl
theorem wv1(ss:List Str):(dd ss).length<=ss.length:=foldl_step_dedup_nil_length_le ss
theorem qqn:∀{vs:List Value} {ss:List Str},StrsAre vs ss->∀(i:Nat) (v:Value),vs[i]?=some v->∃x t,v=.str x t/\ss[i]?=some x
 |_,_,.nil,i,v,h=>by cases i<;>cases h|_,_,.cons x t r,0,v,h=>by cases oq9 h;exact⟨x,t,rfl,rfl⟩|_,_,.cons x t r,i+1,v,h=>qqn r i v h
theorem kkw:∀{vs:List Value} {ss:List Str},StrsAre vs ss->vs.length=ss.length
 |_,_,.nil=>rfl|_,_,.cons x t r=>congrArg (· + 1) (kkw r)
theorem Has.same{h h':Heap}{a:Addr}{ls:List Str}(x:Has prog w h a ls)(e:∀o,h.get? a=some o->h'.get? a=some o):Has prog w h' a ls:=by
 obtain⟨o,es,ep,t,ho,r⟩:=x;exact⟨o,es,ep,t,e _ ho,r⟩
theorem loop{R:Result->Shared->Prop}{I:Addr}{fp wr:List Addr}{G:Array GenState->Array GenState->Prop}{n:Nat}{P:Nat->Value->Prop}{St:Nat->Shared->Prop}(W:WalksS prog w A.in1 I fp wr G n P St)(S:Addr)(ln:S∉fp)
  {ss:List Str} (hn:ss.length=n) (jp:∀i v,P i v->∃x t,v=.str x t/\ss[i]?=some x) (hb:n+1<scanBound):∀(k i:Nat) (s:Shared),n - i=k->i<=n->St i s->Has prog w s.heap S (dd (ss.take i)) ->
   (∀s',Moved (S::wr) G s s'->Has prog w s'.heap S (dd ss)->R (.ok (.ret .none)) s')->codeAny (model prog w) A (.builtin "set.update.loop" ⟨[.ref S,.ref I],[]⟩) R s:=by
 have rj:S∉wr:=λh=>ln (W.sub _ h)
 have d8:∀b∈wr,b∈S::wr:=λb hb=>lc9 _ hb
 intro k
 induction k with
 | zero=>
  intro i s hk hi bc hS hR;cases(show i=n by omega);refine Z6 F.entry_set_update_loop ?_;rw[Yu F.plain_set_update_loop _];show wpAny _ A.in1 (pyNext (.ref I) >>= _) _ _ s;refine X0 (W.done s _ _ bc λs' hm=>?_);refine X5 (hR s' (hm.mono d8) ?_);rw[<-hn,List.take_length]at hS;exact hS.same λo e=>hm.heap S _ rj e
 | succ k ih=>
  intro i s hk hi bc hS hR;refine Z6 F.entry_set_update_loop ?_;rw[Yu F.plain_set_update_loop _];show wpAny _ A.in1 (pyNext (.ref I) >>= _) _ _ s;refine X0 (W.item i s _ _ ⋯ bc λv s' hP mf hm=>?_);obtain⟨x,t,rfl,hx⟩:=jp i v hP;have i9:Has prog w s'.heap S (dd (ss.take i)):=hS.same λo e=>hm.heap S _ rj e
  show wpAny _ A.in1 (holding [Value.str x t] (setAdd S (.str x t)) >>= _) _ _ s';refine X0 (Y9 ?_);unfold setAdd;refine Y9 ?_;refine X0 ((PySem.strKind prog w).pyHash (k:=x) (strKind_is _ _ _ _) ?_);have ff:(dd (ss.take i)).length+1<scanBound:=by have:=wv1 (ss.take i);rw[Z1]at this;omega
  refine add i9 ff λb h' a1 a2=>?_
  rw[<-vxv hx]at a2;refine X5 ⟨plainId_quiet F.plain_set_update_loop _,ih (i+1) _ ⋯ ⋯ (W.frame _ s' _ _ mf (Nat.le_succ _) λb hb o e=>?_) a2 λie ma mh=>?_⟩
  ·rw[a1.2 b (λh:b=S=>ln (by rw[<-h];exact hb))];exact e
  ·refine hR ie (Moved.trans W.gtrans ((hm.mono d8).then_heap (Nat.le_succ _) λb o hb e=>?_) ma) mh;rw[a1.2 b (λh:b=S=>hb (by rw[h];exact X6))];exact e
def fresh(w:World):Obj:={ cls:=.type "set",dict:=none,data:=.set #[] 0 (.fresh 0 0 (!tx w)) }
theorem qxd{h:Heap}{a:Addr}(e:h.get? a=some (fresh w)):Has prog w h a []:=
 ⟨_,#[],0,.fresh 0 0 (!tx w),e,⟨⟨rfl,rfl,rfl⟩,rfl,(λe he=>nomatch he),⋯,by rfl,rfl,.inr rfl⟩,.refl _⟩
theorem made(a:Value){Q₁:VP9}(h:Q₁ (.ref s.heap.objs.size) { s with heap:=s.heap.push (fresh w) }):
  codeAny (model prog w) A (.call (.builtin "set.__new__") ⟨[.type "set",a],[]⟩) (wants Q₁ E) s:=by
 refine codeAny_of_tree ?_;show wpAny _ A.in1 (do checkBuiltinCall "set.__new__" ⟨[.type "set",a],[]⟩;again (.builtin "set.__new__" ⟨[.type "set",a],[]⟩)) _ _ s;refine X0 (wpAny_of_eq (F.newCall_set_1 a) (X5 ⟨plainId_quiet F.plain_set_new _,Z6 F.entry_set_new ?_⟩));rw[Yu F.plain_set_new _];unfold Builtin.«set.__new__» Builtin.Frozenset.newClass;have d8:=sub_set_self;obtain⟨hp,g,d,tk,os⟩:=s;dsimp only
 wp_walk
 refine Zo (X5 ?_);dsimp only;simp only[newObj];refine X0 (wpAny_alloc (X5 ?_));exact X5 h
set_option maxHeartbeats 8000000 in
theorem qjy{l:Addr}{items:Array Value}{ss:List Str}{Q:VP9}(hh:A.handled=none)(hl:s.heap.IsList l items)(hi:StrsAre items.toList ss)(hb:items.size+1<scanBound)
  (h:∀(h':Heap) (tk:Nat),Has prog w h' s.heap.objs.size (dd ss)->(∀b o,b<s.heap.objs.size->s.heap.get? b=some o->h'.get? b=some o)->Q (.ref s.heap.objs.size) { s with heap:=h',toks:=tk }):
  wpAny (model prog w) A (call (.type "set") [.ref l]) Q E s:=by
 obtain⟨c,tl,hmro⟩:=F.called_set.mro;have hmade:=F.called_set.made;have d8:=F.called_set.sub;refine wpAny_call (codeAny_of_tree ?_);show wpAny _ _ (callAny (.type "set") _) _ _ _;refine X5 ⟨Code.quiet_builtin _ (by decide +kernel),Z6 F.entry_type_call ?_⟩;rw [Around.under_plain (weight_type_call_type "set" [.ref l] []) rfl];have h1:=F.called_set.notType;have h2:=F.called_set.canCreate;have hct:=F.typeCall_set_1 (.ref l)
 repeat (any_goals (first|assumption|wp_step))
 refine codeAny_mono (made (.ref l) (E:=E) (Q₁:=λobj s₁=>obj=.ref s.heap.objs.size/\s₁={ s with heap:=s.heap.push (fresh w) }) ⟨rfl,rfl⟩) λr s₁ hr=>?_
 cases r with
 | error e=>exact hr
 | ok fl=>
 cases fl with
 | ret obj=>
  obtain⟨rfl,rfl⟩:=hr;have hS:(s.heap.push (fresh w)).get? s.heap.objs.size=some (fresh w):=Xa _ rfl;have hT:Shared.TypeIs { s with heap:=s.heap.push (fresh w) } (.ref s.heap.objs.size) "set":=⟨_,hS,rfl⟩;have hli:=F.called_set.init.lookup;have hbi:=F.called_set.init.bind (.ref s.heap.objs.size)
  repeat (any_goals (first|assumption|wp_step))
  refine codeAny_mono (codeAny_call_builtin (R:=wants (λr s₂=>r=.none/\∃h' tk,s₂={ s with heap:=h',toks:=tk }/\Has prog w h' s.heap.objs.size (dd ss) /\
    (∀b o,b<s.heap.objs.size->s.heap.get? b=some o->h'.get? b=some o)) E) F.called_set.init.plain F.entry_set_init (check_set_init_1 hT ?_)) λr₂ s₂ hr₂=>?_
  ·obtain⟨ol,hol,da,nl,hdl⟩:=hl;obtain⟨ocls,sg,odata,mw⟩:=ol;simp only at da hdl;subst da;subst hdl;have hol':(s.heap.push (fresh w)).get? l=some { cls:=.type "list",dict:=sg,data:=.seq items nl,slots:=mw }:=X2 _ hol;have hsls:=F.sub_list_set;have hslf:=F.sub_list_frozenset;have b8:(Value.type "list" == Value.type "dict")=false:=⋯
   have i5:(s.heap.push (fresh w)).IsList l items:=⟨_,hol',rfl,nl,rfl⟩;have pw:l<s.heap.objs.size:=Xg hol;have kf:({ cls:=.type "set",dict:=none,data:=.set #[] 0 (.fresh 0 0 (!tx w)) }:Obj)=fresh w:=rfl;unfold Builtin.«set.__init__» noKeywords Builtin.Frozenset.updateFrom;generalize hPI:pyIter=PI
   wp_walk
   subst hPI;refine wpAny_pyIter_list i5 ?_;refine X0 (wpAny_runValue ?_);have hh3:A.in1.in1.in1.handled=none:=by simp[hh]
   have hsz:(s.heap.push (fresh w)).objs.size=s.heap.objs.size+1:=Zn ..;refine loop ((Walks.list hh3 _ l (by rw[hsz];exact Xk (Nat.lt_succ_of_lt pw)) items).toS) s.heap.objs.size (by rw[hsz];simp only[Y4,Xv,or_false,not_or];exact⟨Xk (Nat.lt_succ_self _),Nat.ne_of_gt pw⟩) (ss:=ss) ?_ (λi v hv=>qqn hi i v (by rw[Yr];exact hv)) hb (items.size - 0) 0 _ ⋯ (Yd _)
    ⟨⟨_,Xa _ rfl,rfl,rfl⟩,i5.push _⟩ ?_ ?_
   ·rw[<-kkw hi,Xr]
   ·exact qxd (X2 _ hS)
   ·intro s' hm i9;obtain⟨h',g',d',lw,nh⟩:=s';have eg:g'=s.gens:=hm.gens;have ed:d'=s.drawn:=hm.drawn;have eo:nh=s.os:=hm.os;subst eg;subst ed;subst eo;show wpAny _ _ _ _ _ _;refine X5 ?_;show wpAny _ _ (ret Value.none) _ _ _;refine X5 ⟨rfl,h',lw,rfl,i9,λb o hb e=>?_⟩;exact hm.heap b o (by simp only[Y4,Xv,or_false,not_or];rw[hsz];exact⟨Xk hb,Xk (Nat.lt_succ_of_lt hb)⟩) (X2 _ (X2 _ e))
  ·cases r₂ with
   | error e=>exact hr₂
   | ok fl₂=>
    cases fl₂ with
    |ret r=>
     obtain⟨rfl,h',tk,rfl,i9,au⟩:=hr₂
     repeat (any_goals (first|assumption|wp_step))
     exact h _ _ i9 au
    |_=>exact hr₂.elim
 |_=>exact hr.elim
end
theorem slot_next:Slot "set_iterator" "__next__" "set_iterator.__next__" :=
 .of (owner:="set_iterator") (n:="__next__") (by rw[typeLookup_type,builtinLookup_eq_fast];kernel_rfl) (by decide +kernel) (by decide +kernel) (by decide +kernel)
  (by first|exact .inl (by decide +kernel)|exact .inr (by decide +kernel)) (by rw[isSubtype_type];kernel_rfl)
theorem kvj:Slot "set_iterator" "__iter__" "set_iterator.__iter__" :=
 .of (owner:="set_iterator") (n:="__iter__") (by rw[typeLookup_type,builtinLookup_eq_fast];kernel_rfl) (by decide +kernel) (by decide +kernel) (by decide +kernel)
  (by first|exact .inl (by decide +kernel)|exact .inr (by decide +kernel)) (by rw[isSubtype_type];kernel_rfl)
theorem jwc:entryFor table "set_iterator.__next__"=some Builtin.«set_iterator.__next__»:=entryFor_of_tree (by kernel_rfl)
theorem qks:entryFor table "set_iterator.__iter__"=some Builtin.«dict_keyiterator.__iter__»:=entryFor_alias (id':="dict_keyiterator.__iter__") (by kernel_rfl) rfl (by decide +kernel) (by kernel_rfl)
theorem qkt:entryFor table "set.__iter__"=some Builtin.«frozenset.__iter__»:=entryFor_alias (id':="frozenset.__iter__") (by kernel_rfl) rfl (by decide +kernel) (by kernel_rfl)
theorem jxk(a:Value):argsOk "set_iterator.__next__" ⟨[a],[]⟩:=by unfold argsOk;kernel_rfl
theorem qza(a:Value):argsOk "set_iterator.__iter__" ⟨[a],[]⟩:=by unfold argsOk;kernel_rfl
theorem qzb(a:Value):argsOk "set.__iter__" ⟨[a],[]⟩:=by unfold argsOk;kernel_rfl
section
variable {prog:Program}{w:World}{A:Around}{E:VP9}{s:Shared}
theorem wv3{src:Source}{n:Nat}{Q:Nat->Shared->Prop}(hn:n≠0)(h:∀i d,i<n->Q i { s with drawn:=d }):wpAny (model prog w) A (choose src n) Q E s:=
 λ_ _ _=>⟨hn,h _ _ (Nat.mod_lt _ (Nat.pos_of_ne_zero hn))⟩
theorem WY{α:Type}:∀{l:List α} {i:Nat} (h:i<l.length),(l[i]::l.eraseIdx i).Perm l
 |a::l,0,h=>List.Perm.refl _
 |a::l,i+1,h=>by
  have hi:i<l.length:=Nat.lt_of_succ_lt_succ h;exact(List.Perm.swap a (l[i]'hi) _).trans ((WY hi).cons a)
theorem drawn{α:Type}:∀(n:Nat) (xs:List α) (s:Shared) {Q:List α->Shared->Prop},xs.length=n->(∀ys d,ys.Perm xs->Q ys { s with drawn:=d })->wpAny (model prog w) A (drawOrder n xs) Q E s
 | 0,xs,s,Q,hl,h=>by
  cases xs with|nil=>exact X5 (h [] s.drawn (.refl _))|cons=>cases hl
 | n+1,xs,s,Q,hl,h=>by
  cases xs with
  |nil=>cases hl
  |cons x xs=>
   unfold drawOrder;refine X0 (wv3 (by simp) λi d hi=>?_);rw[X1 hi];refine X0 (drawn n _ _ (by rw[List.length_eraseIdx,X8 hi];exact Nat.succ.inj hl) λys d' hp=>?_);exact X5 (h _ d' ((hp.cons _).trans (WY hi)))
theorem qvs{α:Type}(f:Nat->Nat):∀(n k:Nat) (l:List α) (out:Array α),l.length=n->(pickOrder.go f n k l out).toList.Perm (out.toList++l)
 |0,k,l,out,hl=>by
  cases l with|nil=>unfold pickOrder.go;simp|cons=>cases hl
 |n+1,k,l,out,hl=>by
  have hi:f k % l.length<l.length:=Nat.mod_lt _ ⋯;unfold pickOrder.go;rw[X1 hi];refine(qvs f n (k+1) _ _ (by rw[List.length_eraseIdx,X8 hi];omega)).trans ?_;rw[Array.toList_push,Xu];exact(List.Perm.refl _).append (WY hi)
theorem kvz{α:Type}(f:Nat->Nat)(xs:Array α):(pickOrder f xs).toList.Perm xs.toList:=by
 unfold pickOrder;exact qvs f _ 0 _ #[] (by simp)
end
section
variable {prog:Program}{w:World}{A:Around}{E:VP9}{s:Shared}
def It(h:Heap)(I a:Addr)(f:Value)(i n ep:Nat):Prop:=∃o,h.get? I=some o/\o.cls=.type "set_iterator"/\o.data=.fields #[f,.int i 0,.ref a,.int n 0,.int ep 0]
theorem It.at'{h h':Heap}{I a:Addr}{f:Value}{i n ep:Nat}(x:It h I a f i n ep)(e:∀o,h.get? I=some o->h'.get? I=some o):It h' I a f i n ep:=by
 obtain⟨o,ho,r⟩:=x;exact⟨o,e _ ho,r⟩
def Stn(h:Heap)(a:Addr)(n ep:Nat):Prop:=∃o es t,h.get? a=some o/\o.data=.set es ep t/\t.fits es.size=true/\es.size=n
theorem qqy{I a:Addr}{f:Value}{i n ep:Nat}{Q:VP9}(dq:It s.heap I a f i n ep)(h:Q (.ref I) s):wpAny (model prog w) A (pyIter (.ref I)) Q E s:=by
 obtain⟨o,ho,hc,hd⟩:=dq;have hT:s.TypeIs (.ref I) "set_iterator":=⟨o,ho,hc⟩;refine wpAny_pyIter_slot hT kvj (Y5 kvj hT qks ?_ (qza _));show wpAny _ _ (ret (.ref I)) _ _ s;exact X5 ⟨_,rfl,"set_iterator",_,hT,slot_next.lookup,h⟩
theorem wqe{I a:Addr}{sl nx i n ep:Nat}{v:Value}{Q:Option Value->Shared->Prop}(dq:It s.heap I a (.int sl 0) i n ep)(hs:Stn s.heap a n ep)
  (hN:∀(A':Around) (E':VP9) (R:Option (Value×Nat)->Shared->Prop),R (some (v,nx)) s->wpAny (model prog w) A' (setNext a sl i ep) R E' s)
  (hQ:∀h',It h' I a (.int nx 0) (i+1) n ep->Heap.SameBut I s.heap h'->Q (some v) { s with heap:=h' }):wpAny (model prog w) A (pyNext (.ref I)) Q E s:=by
 obtain⟨o,ho,hc,hd⟩:=dq;obtain⟨os,es,t,io,av,hf,hn⟩:=hs;have hT:s.TypeIs (.ref I) "set_iterator":=⟨o,ho,hc⟩;unfold pyNext;refine X0 (wpAny_attempt (Yk (name:=Str.ofString "__next__") hT slot_next (Y5 slot_next hT jwc ?_ (jxk _))));show wpAny _ _ (fieldsOf (.ref I) >>= _) _ _ s;refine X0 (wpAny_fieldsOf ho hd ?_);show wpAny _ _ (setEntries a >>= _) _ _ s;refine X0 (wpAny_setEntries_of io av hf ?_);rw[Xf (by rw[hn];simp)];show wpAny _ _ (setNext a ((sl:Int)).toNat ((i:Int)).toNat ((ep:Int)).toNat >>= _) _ _ s;rw[Xq,Xq,Xq];refine X0 (hN _ _ _ ?_);refine X0 (Ys ho hd (by simp) ?_);have nv:=Zc hd (·.setIfInBounds 0 (rawInt nx));have iq:=Y1 (Obj.mapFields (·.setIfInBounds 0 (rawInt nx))) ho (Ze nv);refine X0 (Ys iq nv (by simp) (X5 ⟨v,rfl,X5 (hQ _ ?_ ((Ya ..).trans (Ya ..)))⟩));have gb:=Zc nv (·.setIfInBounds 1 (rawInt (i+1)));refine⟨_,Y1 _ iq (Ze gb),(Obj.cls_mapFields ..).trans ((Obj.cls_mapFields ..).trans hc),?_⟩;rw[gb];simp[rawInt]
theorem wqd{I a T:Addr}{i n ep:Nat}{v:Value}{pl:List Nat}{p:Nat}{Q:Option Value->Shared->Prop}(dq:It s.heap I a (.ref T) i n ep)(hs:Stn s.heap a n ep)(pc:∃o k,s.heap.get? T=some o/\o.data=.seq (pl.map λ(j:Nat)=>rawInt j).toArray k)
  (hp:pl[i]?=some p)
  (hN:∀(A':Around) (E':VP9) (R:VP9),R v s->wpAny (model prog w) A' (setNextDrawn a p ep) R E' s)
  (hQ:∀h',It h' I a (.ref T) (i+1) n ep->Heap.SameBut I s.heap h'->Q (some v) { s with heap:=h' }):wpAny (model prog w) A (pyNext (.ref I)) Q E s:=by
 obtain⟨o,ho,hc,hd⟩:=dq;obtain⟨os,es,t,io,av,hf,hn⟩:=hs;obtain⟨oT,kT,hoT,og⟩:=pc;have hT:s.TypeIs (.ref I) "set_iterator":=⟨o,ho,hc⟩;unfold pyNext;refine X0 (wpAny_attempt (Yk (name:=Str.ofString "__next__") hT slot_next (Y5 slot_next hT jwc ?_ (jxk _))));show wpAny _ _ (fieldsOf (.ref I) >>= _) _ _ s;refine X0 (wpAny_fieldsOf ho hd ?_);show wpAny _ _ (setEntries a >>= _) _ _ s;refine X0 (wpAny_setEntries_of io av hf ?_);rw[Xf (by rw[hn];simp)];show wpAny _ _ (seqItems? (.ref T) >>= _) _ _ s;refine X0 (wpAny_seqItems hoT og ?_);have hg:(pl.map λ(j:Nat)=>rawInt j).toArray[((i:Int)).toNat]?=some (.int p 0):=by
  rw[Xq,List.getElem?_toArray,Xh,hp];rfl
 dsimp only;rw[hg];show wpAny _ _ (setNextDrawn a ((p:Int)).toNat ((ep:Int)).toNat >>= _) _ _ s;rw[Xq,Xq];refine X0 (hN _ _ _ ?_);have gb:=Zc hd (·.setIfInBounds 1 (rawInt (i+1)));refine X0 (Ys ho hd (by simp) (X5 ⟨v,rfl,X5 (hQ _ ?_ (Ya ..))⟩));refine⟨_,Y1 _ ho (Ze gb),(Obj.cls_mapFields ..).trans hc,?_⟩;rw[gb];simp[rawInt]
theorem wxy{I a:Addr}{sl i n ep:Nat}{Q:Option Value->Shared->Prop}(hh:A.handled=none)(dq:It s.heap I a (.int sl 0) i n ep)(hs:Stn s.heap a n ep)
  (hN:∀(A':Around) (E':VP9) (R:Option (Value×Nat)->Shared->Prop),R none s->wpAny (model prog w) A' (setNext a sl i ep) R E' s)
  (hQ:∀h',Heap.ExtBut I s.heap h'->Q none { s with heap:=h' }):wpAny (model prog w) A (pyNext (.ref I)) Q E s:=by
 obtain⟨o,ho,hc,hd⟩:=dq;obtain⟨os,es,t,io,av,hf,hn⟩:=hs;have hT:s.TypeIs (.ref I) "set_iterator":=⟨o,ho,hc⟩;unfold pyNext;refine X0 (wpAny_attempt (Yk (name:=Str.ofString "__next__") hT slot_next (Y5 slot_next hT jwc ?_ (jxk _))));show wpAny _ _ (fieldsOf (.ref I) >>= _) _ _ s;refine X0 (wpAny_fieldsOf ho hd ?_);show wpAny _ _ (setEntries a >>= _) _ _ s;refine X0 (wpAny_setEntries_of io av hf ?_);rw[Xf (by rw[hn];simp)];show wpAny _ _ (setNext a ((sl:Int)).toNat ((i:Int)).toNat ((ep:Int)).toNat >>= _) _ _ s;rw[Xq,Xq,Xq];refine X0 (hN _ _ _ ?_);refine X0 (Ys ho hd (by simp) ?_);show wpAny _ _ (newExc (.type "StopIteration") [] >>= _) _ _ _;refine X0 ?_;simp only[newExc,newTuple];refine X0 (Xz ?_ (by size_fits));refine X0 (m:=firstArgMember _ _) (wpAny_of_eq (a:=Value.none) (by first|rfl|(simp only[firstArgMember];rfl)) ?_);refine Xz ?_ (by size_fits);simp only[raiseNew];refine X0 (wpAny_handled ?_);rw[show A.in1.handled=none from hh];refine X0 (X5 (wpAny_throw ?_));refine X0 (wpAny_isInstance (T:="StopIteration") (b:=true) ⟨_,Xa _ rfl,rfl⟩ isSubtype_stop ?_);exact X5 (hQ _ (((Ya ..).extBut.push _).push _))
theorem wxx{I a T:Addr}{i n ep:Nat}{pl:List Nat}{Q:Option Value->Shared->Prop}(hh:A.handled=none)(dq:It s.heap I a (.ref T) i n ep)(hs:Stn s.heap a n ep)(pc:∃o k,s.heap.get? T=some o/\o.data=.seq (pl.map λ(j:Nat)=>rawInt j).toArray k)
  (hp:pl[i]?=none) (hQ:∀h',Heap.ExtBut I s.heap h'->Q none { s with heap:=h' }):wpAny (model prog w) A (pyNext (.ref I)) Q E s:=by
 obtain⟨o,ho,hc,hd⟩:=dq;obtain⟨os,es,t,io,av,hf,hn⟩:=hs;obtain⟨oT,kT,hoT,og⟩:=pc;have hT:s.TypeIs (.ref I) "set_iterator":=⟨o,ho,hc⟩;unfold pyNext;refine X0 (wpAny_attempt (Yk (name:=Str.ofString "__next__") hT slot_next (Y5 slot_next hT jwc ?_ (jxk _))));show wpAny _ _ (fieldsOf (.ref I) >>= _) _ _ s;refine X0 (wpAny_fieldsOf ho hd ?_);show wpAny _ _ (setEntries a >>= _) _ _ s;refine X0 (wpAny_setEntries_of io av hf ?_);rw[Xf (by rw[hn];simp)];show wpAny _ _ (seqItems? (.ref T) >>= _) _ _ s;refine X0 (wpAny_seqItems hoT og ?_);have hg:(pl.map λ(j:Nat)=>rawInt j).toArray[((i:Int)).toNat]?=none:=by
  rw[Xq,List.getElem?_toArray,Xh,hp];rfl
 dsimp only;rw[hg];have nv:=Zc hd (·.setIfInBounds 0 (rawInt 0));have iq:=Y1 (Obj.mapFields (·.setIfInBounds 0 (rawInt 0))) ho (Ze nv);refine X0 (Ys ho hd (by simp) ?_);refine X0 (Ys iq nv (by simp) ?_);show wpAny _ _ (newExc (.type "StopIteration") [] >>= _) _ _ _;refine X0 ?_;simp only[newExc,newTuple];refine X0 (Xz ?_ (by size_fits));refine X0 (m:=firstArgMember _ _) (wpAny_of_eq (a:=Value.none) (by first|rfl|(simp only[firstArgMember];rfl)) ?_);refine Xz ?_ (by size_fits);simp only[raiseNew];refine X0 (wpAny_handled ?_);rw[show A.in1.handled=none from hh];refine X0 (X5 (wpAny_throw ?_));refine X0 (wpAny_isInstance (T:="StopIteration") (b:=true) ⟨_,Xa _ rfl,rfl⟩ isSubtype_stop ?_);exact X5 (hQ _ ((((Ya ..).trans (Ya ..)).extBut.push _).push _))
end
section
variable {prog:Program}{w:World}{A:Around}{E:VP9}{s:Shared}
theorem qq9(hh:A.handled=none)(I a:Addr)(b8:a≠I){o:Obj}{es:Array (Int×Value)}{ep:Nat}{t:SetTable}(hd:o.data=.set es ep t)(hf:t.fits es.size=true){ca:List Value}(hl:ca.length=es.size)(sl:Nat->Nat)
  (hN:∀(i:Nat) (s:Shared) (A':Around) (E':VP9) (R:Option (Value×Nat)->Shared->Prop),s.heap.get? a=some o->i<=es.size->R (ca[i]?.map λv=>(v,sl (i+1))) s->wpAny (model prog w) A' (setNext a (sl i) i ep) R E' s):
  Walks prog w A I [I,a] [I] es.size (λi v=>ca[i]?=some v) (λi h=>It h I a (.int (sl i) 0) i es.size ep/\h.get? a=some o) where
 sub:=λb hb=>by simp at hb;simp[hb]
 frame:=λ_ _ _ st hk=>⟨st.1.at' λo e=>hk I (by simp) o e,hk a (by simp) _ st.2⟩
 item:=λi s Q E hi st hQ=>by
  have hv:ca[i]?=some (ca[i]'⋯):=X1 _;refine wqe (nx:=sl (i+1)) (v:=ca[i]'⋯) st.1 ⟨o,es,t,st.2,hd,hf,rfl⟩ (λA' E' R hR=>hN i s A' E' R st.2 (Nat.le_of_lt hi) (by rw[hv];exact hR)) λh' mx iw=>?_
  exact hQ _ h' s.toks hv ⟨mx,(iw.extBut a o b8 st.2)⟩ λb o hb e=>iw.extBut b o (λh=>hb (by simp[h])) e
 done:=λs Q E st hQ=>by
  refine wxy hh st.1 ⟨o,es,t,st.2,hd,hf,rfl⟩ (λA' E' R hR=>hN es.size s A' E' R st.2 (Xb _) (by rw[Xx ⋯];exact hR)) λh' he=>?_
  exact hQ h' s.toks λb o hb e=>he b o (λh=>hb (by simp[h])) e
 self:=λ_ _ _ _ st hQ=>qqy st.1 hQ
theorem vv0(hh:A.handled=none)(I a T:Addr)(b8:a≠I)(hneT:T≠I){o oT:Obj}{es:Array (Int×Value)}{ep k:Nat}{t:SetTable}(hd:o.data=.set es ep t)(hf:t.fits es.size=true){pl:List Nat}(hp:pl.Perm (List.range es.size))(og:oT.data=.seq (pl.map λ(j:Nat)=>rawInt j).toArray k):
  Walks prog w A I [I,a,T] [I] es.size (λi v=>(pl.map λj=>(es.getD j (0,.none)).2)[i]?=some v) (λi h=>It h I a (.ref T) i es.size ep/\h.get? a=some o/\h.get? T=some oT) where
 sub:=λb hb=>by simp at hb;simp[hb]
 frame:=λ_ _ _ st hk=>⟨st.1.at' λo e=>hk I (by simp) o e,hk a (by simp) _ st.2.1,hk T (by simp) _ st.2.2⟩
 item:=λi s Q E hi st hQ=>by
  have ab:pl.length=es.size:=by rw[hp.length_eq,Yc]
  have hv:pl[i]?=some (pl[i]'⋯):=X1 _;have cb:pl[i]'⋯<es.size:=List.mem_range.mp (hp.mem_iff.mp (Xw _));refine wqd (p:=pl[i]'⋯) (v:=(es.getD (pl[i]'⋯) (0,.none)).2) st.1 ⟨o,es,t,st.2.1,hd,hf,rfl⟩ ⟨oT,k,st.2.2,og⟩ hv (λA' E' R hR=>?_) λh' mx iw=>?_
  ·unfold setNextDrawn;refine X0 (Zj st.2.1 hd hf ?_);dsimp only;rw[Xf (by simp),Yz cb];refine X5 ?_;rw[Array.getD_eq_getD_getElem?,Yz cb]at hR;exact hR
  ·exact hQ _ h' s.toks (by rw[Xh,hv];rfl) ⟨mx,(iw.extBut a o b8 st.2.1),(iw.extBut T oT hneT st.2.2)⟩ λb o hb e=>iw.extBut b o (λh=>hb (by simp[h])) e
 done:=λs Q E st hQ=>by
  have ab:pl.length=es.size:=by rw[hp.length_eq,Yc]
  refine wxx hh st.1 ⟨o,es,t,st.2.1,hd,hf,rfl⟩ ⟨oT,k,st.2.2,og⟩ (Xx ⋯) λh' he=>?_
  exact hQ h' s.toks λb o hb e=>he b o (λh=>hb (by simp[h])) e
 self:=λ_ _ _ _ st hQ=>qqy st.1 hQ
theorem qwb(ll:tx w=true){a:Addr}{o:Obj}{es:Array (Int×Value)}{ep:Nat}{t:SetTable}(hd:o.data=.set es ep t)(hf:t.fits es.size=true):
  ∀(i:Nat) (s:Shared) (A':Around) (E':VP9) (R:Option (Value×Nat)->Shared->Prop),s.heap.get? a=some o->i<=es.size->R (((pickOrder (w.params.setOrder a ep) es).toList.map (·.2))[i]?.map λv=>(v,0)) s->wpAny (model prog w) A' (setNext a 0 i ep) R E' s:=by
 intro i s A' E' R ho hi hR;unfold setNext;refine X0 (Zj ho hd hf ?_);unfold setsByText;refine X0 (X0 (Zo (X5 ?_)));show wpAny _ _ (if tx w=true then _ else _) _ _ _;rw[X8 ll];rw[Xf (by simp)];unfold setWalk;refine X0 (X0 (Zj ho hd hf ?_));unfold setsByText;refine X0 (X0 (Zo (X5 ?_)));show wpAny _ _ (if tx w=true then _ else _) _ _ _;rw[X8 ll];refine X0 (Zo (X5 ?_));refine X5 ?_;rw[Xh,Yr,Option.map_map]at hR;exact hR
end
section
variable {prog:Program}{w:World}{A:Around}{E:VP9}{s:Shared}
theorem qxf{t:SetTable}{n:Nat}(h:t.fits n=true):t.place.size=n:=by
 simp only[SetTable.fits,Bool.and_eq_true,beq_iff_eq]at h;exact h.1
def sl1(t:SetTable)(i:Nat):Nat:=if i=0 then 0 else t.place.getD 0 0+1
theorem vjh(ll:tx w=false){a:Addr}{o:Obj}{es:Array (Int×Value)}{ep:Nat}{t:SetTable}(hk:Ok prog w o es ep t)(h1:es.size<=1):
  ∀ (i:Nat) (s:Shared) (A':Around) (E':VP9) (R:Option (Value×Nat)->Shared->Prop),s.heap.get? a=some o->i<=es.size->R ((es.toList.map (·.2))[i]?.map λv=>(v,sl1 t (i+1))) s->wpAny (model prog w) A' (setNext a (sl1 t i) i ep) R E' s:=by
 intro i s A' E' R ho hi hR;have hsz:=qxf hk.f;unfold setNext;refine X0 (Zj ho hk.d hk.f ?_);unfold setsByText;refine X0 (X0 (Zo (X5 ?_)));show wpAny _ _ (if tx w=true then _ else _) _ _ _;rw [Xf (by rw[ll];decide)];show wpAny _ _ (if(!t.plain&&decide (es.size>1))=true then _ else _) _ _ _;rw [Xf (by rw[Xj ⋯];simp)];show wpAny _ _ ((if(!t.led && !es.isEmpty)=true then _ else pure ()) >>= _) _ _ _;rw [Xf (by rw[hk.led,ll];simp)];refine X0 (X5 ?_);refine X5 ?_;obtain⟨es⟩:=es;obtain⟨mask,⟨pl⟩,du,fi,le,mo,pln⟩:=t;cases es with
 | nil=>
  cases pl with
  | nil=>
   have hi0:i=0:=by simpa using hi
   subst hi0;exact hR
  | cons=>cases hsz
 | cons e es=>
  cases es with
  | cons=>exact absurd h1 (by simp)
  | nil=>
   cases pl with
   | nil=>cases hsz
   | cons p pl=>
    cases pl with
    | cons=>cases hsz
    | nil=>
     have hb0:SetTable.below #[p] 0=0:=by
      show SetTable.below.go #[p] 0 1 0 1=0;unfold SetTable.below.go;rw[X8 ⋯,Xf (by simp)];rfl
     have hb1:SetTable.below #[p] (p+1)=1:=by
      show SetTable.below.go #[p] (p+1) 1 0 1=1;unfold SetTable.below.go;rw[X8 ⋯,X8 (by simp)];rfl
     rcases(show i=0\/i=1 by have:i<=1:=hi;omega)with rfl|rfl
     ·show R (match (#[e]:Array (Int×Value))[SetTable.below #[p] 0]?,(#[p]:Array Nat)[SetTable.below #[p] 0]? with|some (_,x),some j=>some (x,j+1)|_,_=>none) s;rw[hb0];exact hR
     ·show R (match (#[e]:Array (Int×Value))[SetTable.below #[p] (p+1)]?,(#[p]:Array Nat)[SetTable.below #[p] (p+1)]? with|some (_,x),some j=>some (x,j+1)|_,_=>none) s;rw[hb1];exact hR
theorem qqb{es:Array (Int×Value)}{pl:List Nat}(hp:pl.Perm (List.range es.size)):(pl.map λj=>(es.getD j (0,.none)).2).Perm (es.toList.map (·.2)):=by
 refine(hp.map _).trans (.of_eq ?_);apply List.ext_getElem
 ·simp
 ·intro i h1 h2;simp at h1;simp[Array.getD_eq_getD_getElem?,h1]
end
section
variable {prog:Program}{w:World}{A:Around}{E:VP9}{s:Shared}
theorem vk3{a:Addr}{o:Obj}{es:Array (Int×Value)}{ep:Nat}{t:SetTable}(ho:s.heap.get? a=some o)(hk:Ok prog w o es ep t){Q:Bool->Shared->Prop}(h:Q (!tx w&&(!t.plain&&decide (es.size>1))) s):wpAny (model prog w) A (setDrawn a) Q E s:=by
 unfold setDrawn;refine X0 (Zj ho hk.d hk.f ?_);unfold setsByText;refine X0 (X0 (Zo (X5 ?_)));exact X5 h
theorem vx7{a:Addr}{o:Obj}{es:Array (Int×Value)}{ep:Nat}{t:SetTable}{Q:VP9}(ho:s.heap.get? a=some o)(hk:Ok prog w o es ep t)
  (h:∀(h':Heap) (d:Drawn) (I:Addr) (fp:List Addr) (ca:List Value) (St:Nat->Heap->Prop),(∀b o,s.heap.get? b=some o->h'.get? b=some o)->s.heap.objs.size<=I->(∀b∈fp,b=a\/s.heap.objs.size<=b) ->
   (∀A':Around,A'.handled=none->Walks prog w A' I fp [I] es.size (λi v=>ca[i]?=some v) St)->St 0 h'->ca.Perm (es.toList.map (·.2))->Q (.ref I) { s with heap:=h',drawn:=d }):wpAny (model prog w) A (pyIter (.ref a)) Q E s:=by
 have hT:s.TypeIs (.ref a) "set":=⟨o,ho,hk.ex.1⟩;have gl:a<s.heap.objs.size:=Xg ho;refine wpAny_pyIter_slot hT F.slot_set_iter (Y5 F.slot_set_iter hT qkt ?_ (qzb _));unfold Builtin.«frozenset.__iter__» Builtin.Frozenset.slot0 slotArgs;simp only[List.isEmpty_nil,Bool.not_true,Bool.false_eq_true,↓reduceIte,bind_assoc,List.length_nil,bne_self_eq_false];unfold Builtin.Frozenset.addrOf Builtin.Frozenset.sizeOf;refine X0 (X5 ?_)
 try dsimp only
 refine X0 (X5 ?_);refine X0 (X0 (wpAny_setEntries_of ho hk.d hk.f (X5 ?_)));refine X0 (vk3 ho hk ?_)
 by_cases hdr:(!tx w&&(!t.plain&&decide (es.size>1)))=true
 ·rw [X8 hdr];refine X0 (drawn es.size _ s (by simp) λpl d hp=>?_);refine X0 (wpAny_newTuple ?_ (hsz:=by rw[X3,hp.length_eq,Yc];exact fits_of_scanBound hk.b));refine X0 (wpAny_setEpoch_of (X2 _ ho) hk.d hk.f ?_);refine X0 (Xz (X5 ⟨_,rfl,"set_iterator",_,⟨_,Xa _ rfl,rfl⟩,slot_next.lookup,?_⟩));have hsz:(s.heap.push (seqObj "tuple" (pl.map λ(i:Nat)=>rawInt i).toArray 0)).objs.size=s.heap.objs.size+1:=Zn ..;refine h _ d _ [_,a,s.heap.objs.size] (pl.map λj=>(es.getD j (0,.none)).2) _ (λb o e=>X2 _ (X2 _ e)) (by rw[hsz];exact Nat.le_succ _) (λb hb=>?_)
   (λA' hh=>vv0 hh _ a s.heap.objs.size (by rw[hsz];exact Xk (Nat.lt_succ_of_lt gl)) (by rw[hsz];exact Xk (Nat.lt_succ_self _)) (o:=o) (oT:=seqObj "tuple" (pl.map λ(i:Nat)=>rawInt i).toArray 0) hk.d hk.f hp rfl)
   ⟨⟨_,Xa _ rfl,rfl,rfl⟩,X2 _ (X2 _ ho),X2 _ (Xa _ rfl)⟩ (qqb hp)
  rcases aD hb with rfl|hb
  ·exact .inr (by rw[hsz];exact Nat.le_succ _)
  rcases aD hb with rfl|hb
  ·exact .inl rfl
  ·rw[aC hb];exact .inr (Xb _)
 ·rw [Xf hdr];refine X0 (X5 ?_);refine X0 (wpAny_setEpoch_of ho hk.d hk.f ?_);refine X0 (Xz (X5 ⟨_,rfl,"set_iterator",_,⟨_,Xa _ rfl,rfl⟩,slot_next.lookup,?_⟩));have hfp:∀b∈[s.heap.objs.size,a],b=a\/s.heap.objs.size<=b:=λb hb=>by
   rcases aD hb with rfl|hb
   ·exact .inr (Xb _)
   ·exact .inl (aC hb)
  cases ll:tx w with
  | true=>
   refine h _ s.drawn _ [_,a] ((pickOrder (w.params.setOrder a ep) es).toList.map (·.2)) _ (λb o e=>X2 _ e) (Xb _) hfp
    (λA' hh=>qq9 hh _ a (Xk gl) (o:=o) hk.d hk.f (by rw[X3,(kvz _ es).length_eq,Xr]) (λ_=>0) (qwb ll hk.d hk.f))
    ⟨⟨_,Xa _ rfl,rfl,rfl⟩,X2 _ ho⟩ ((kvz _ es).map _)
  | false=>
   have h1:es.size<=1:=by
    rcases hk.pl with hp|hp
    ·rw[ll,hp]at hdr;simp at hdr;exact hdr
    ·omega
   refine h _ s.drawn _ [_,a] (es.toList.map (·.2)) _ (λb o e=>X2 _ e) (Xb _) hfp
    (λA' hh=>qq9 hh _ a (Xk gl) (o:=o) hk.d hk.f (by rw[X3,Xr]) (sl1 t) (vjh ll hk h1))
    ⟨⟨_,Xa _ rfl,rfl,rfl⟩,X2 _ ho⟩ (.refl _)
theorem vxd{a:Addr}{Q:Bool->Shared->Prop}(hT:s.TypeIs (.ref a) "set")(h:Q false s):wpAny (model prog w) A (Builtin.List.listLengthHint (.ref a)) Q E s:=by
 unfold Builtin.List.listLengthHint;refine X0 (Yt hT F.slot_set_len.lookup ?_);generalize lg:("set.__len__":String)=id0
 wp_delta
 rw[show splitId id0=some ("set","__len__")from by subst lg;decide +kernel];subst lg;refine X0 (wpAny_isInstance (T:="set") (b:=true) hT sub_set_self ?_);refine wpAny_ite_split (λiu=>absurd iu ⋯) (λ_=>?_);refine wpAny_ite_split (λ_=>?_) (λiu=>absurd (by decide +kernel) iu);refine X0 (wpAny_typeOf hT ?_);exact X5 h
theorem qqm:∀{vs:List Value},(∀v∈vs,∃x t,v=Value.str x t)->StrsAre vs (vs.map strOf)
 |[],_=>.nil
 |v::vs,h=>by
  obtain⟨x,t,rfl⟩:=h v X6;exact .cons x t (qqm λv hv=>h v (lc9 _ hv))
theorem qkw{a:Addr}{ls:List Str}{Q:List Value->Shared->Prop}(hh:A.handled=none)(hS:Has prog w s.heap a ls)
  (h:∀(h':Heap) (d:Drawn) (tk:Nat) (vs:List Value) (ss:List Str),(∀b o,s.heap.get? b=some o->h'.get? b=some o)->s.heap.objs.size<h'.objs.size->StrsAre vs ss->ss.Perm ls->Q vs { s with heap:=h',drawn:=d,toks:=tk }):
  wpAny (model prog w) A (collect (.ref a)) Q E s:=by
 obtain⟨o,es,ep,t,ho,hk,hp⟩:=hS;have gl:a<s.heap.objs.size:=Xg ho;unfold collect;refine X0 (wpAny_runValue (Z6 F.entry_proto_collect ?_));rw[Yu F.plain_proto_collect _];show wpAny _ A.in1 (newList [] >>= λl=>again (.builtin "list.__iadd__" ⟨[l,.ref a],[]⟩)) _ _ s;refine X0 (Xz ?_);refine X5 ⟨plainId_quiet F.plain_list_iadd _,Z6 F.entry_list_iadd ?_⟩;rw[Yu F.plain_list_iadd _];have iq:(s.heap.push { cls:=.type "list",data:=.seq ([]:List Value).toArray }).get? a=some o:=X2 _ ho;have hT1:Shared.TypeIs { s with heap:=s.heap.push { cls:=.type "list",data:=.seq ([]:List Value).toArray } } (.ref a) "set":=⟨o,iq,hk.ex.1⟩;show wpAny _ A.in1 (Builtin.List.listExtendWith (.ref s.heap.objs.size) (.ref a) (.ref s.heap.objs.size)) _ _ _;unfold Builtin.List.listExtendWith;refine X0 (wpAny_typeOf hT1 ?_);have h1:Builtin.List.listSameRef (.ref s.heap.objs.size) (.ref a)=false:=by simp[Builtin.List.listSameRef];exact Nat.ne_of_gt gl
 have h2:(Value.type "set" == Value.type "list")=false:=⋯
 have h3:(Value.type "set" == Value.type "tuple")=false:=⋯
 simp only[h1,h2,h3,Bool.or_false,Bool.false_eq_true,if_false];refine X0 (vx7 iq hk λh' d I fp ca St cx hI hfp W st0 hv=>?_);refine X0 (Y9 (vxd ⟨o,cx _ _ iq,hk.ex.1⟩ ?_));show wpAny _ A.in1 (PySem.rule "list.extend.makes-room" >>= λ_=>Builtin.List.listTouch (.ref s.heap.objs.size) >>= λ_=>
  again (.builtin "list.extend.loop" ⟨[.ref s.heap.objs.size,.ref I,.ref s.heap.objs.size],[]⟩)) _ _ _
 refine X0 (Zp ?_);have hsz:(s.heap.push { cls:=.type "list",data:=.seq ([]:List Value).toArray }).objs.size=s.heap.objs.size+1:=Zn ..;have hI':s.heap.objs.size+1<=I:=by rw[<-hsz];exact hI
 have ln:s.heap.objs.size∉fp:=λhm=>by
  rcases hfp _ hm with e|e
  ·exact absurd e (Nat.ne_of_gt gl)
  ·have e:s.heap.objs.size+1<=s.heap.objs.size:=by rw[<-hsz];exact e
   exact absurd e (Nat.not_succ_le_self _)
 have hS₁:h'.get? s.heap.objs.size=some { cls:=.type "list",data:=.seq ([]:List Value).toArray }:=cx _ _ (Xa _ rfl);refine X0 ?_;show wpAny _ A.in1 (updateSeq s.heap.objs.size (·.push .none) >>= λ_=>updateSeq s.heap.objs.size (·.pop)) _ _ _;refine X0 (wpAny_updateSeq hS₁ rfl ?_);have hS₂:=Y1 (Obj.mapSeq (·.push Value.none)) hS₁ rfl;refine wpAny_updateSeq hS₂ rfl ?_;have hS₃:=Y1 (Obj.mapSeq (·.pop)) hS₂ rfl;have oth:∀b o,b≠s.heap.objs.size->h'.get? b=some o->((h'.update s.heap.objs.size (Obj.mapSeq (·.push Value.none))).update s.heap.objs.size (Obj.mapSeq (·.pop))).get? b=some o:=
  λb o hb e=>(Za _ _ (Ne.symm hb)).trans ((Za _ _ (Ne.symm hb)).trans e)
 have WW:=W A.in1 hh;have ab:ca.length=es.size:=by rw[hv.length_eq,X3,Xr]
 refine X5 ⟨plainId_quiet F.plain_extend_loop _,codeAny_extend_loopS WW.toS (fits_of_scanBound hk.b) _ ln _ es.size 0 _ _ _ rfl (Yd _) (WW.frame 0 h' _ st0 λb hb o e=>oth b o (λe'=>ln (e'▸hb)) e) hS₃ (ItemsOf.nil _) λs' df c' hm i9 ay=>?_⟩;show wpAny _ A (load s.heap.objs.size >>= _) _ _ s';refine X0 (wpAny_load i9 ?_);have lf:df.toList=ca:=by
  apply List.ext_getElem?;intro j
  by_cases hj:j<es.size
  ·have hj1:j<df.size:=by rw[ay.1];exact hj
   rw[Yr,Yz hj1];exact(ay.2 j _ (Yz hj1)).symm
  ·rw[Xx (by rw[Xr,ay.1];omega),Xx ⋯]
 refine X5 ?_;rw[lf,Moved.eq_with hm];refine h _ d _ ca (ca.map strOf) (λb o e=>?_) (Xg i9) ?_ ?_
 ·have hb:b<s.heap.objs.size:=Xg e;have hbS:b≠s.heap.objs.size:=Xk hb;refine hm.heap b o (λhmem=>?_) (oth b o hbS (cx b o (X2 _ e)));rcases aD hmem with e'|hmem
  ·exact hbS e'
  ·rw[aC hmem]at hb;exact absurd hb (Nat.not_lt.mpr (Nat.le_of_succ_le hI'))
 ·exact qqm λv hvm=>by
   obtain⟨e,he,rfl⟩:=aE (hv.mem_iff.mp hvm);exact vql hk.el he
 ·refine((hv.map strOf).trans (.of_eq ?_)).trans hp;rw[Xm];rfl
end
section
variable {prog:Program}{w:World}{A:Around}{E:VP9}{s:Shared}
theorem qk6{a:Addr}{ls:List Str}{Q:VP9}(hh:A.handled=none)(hS:Has prog w s.heap a ls)(h64:ls.length<64)
  (h:∀(h':Heap) (d:Drawn) (tk l e:Nat) (out:Array Value) (ss:List Str),(∀b o,s.heap.get? b=some o->h'.get? b=some o)->s.heap.objs.size<=l->h'.get? l=some (seqObj "list" out e)->StrsAre out.toList ss->ss.Perm ls->sortedS ss=true->Q (.ref l) { s with heap:=h',drawn:=d,toks:=tk }):
  wpAny (model prog w) A (call (.builtin "sorted") [.ref a]) Q E s:=by
 refine Calls.call_function_entry kind_sorted plain_sorted entry_sorted (args_sorted1 _) ?_;unfold Builtin.«sorted»;refine X0 (m:=checkCount "sorted" 1 1 _) (X5 ?_);refine X0 (qkw (by simpa using hh) hS λh' d tk vs ss cx hsz hv hp=>?_);have h64':vs.length<64:=by rw[kkw hv,hp.length_eq];exact h64
 refine X0 (wpAny_newList ?_ (hsz:=by rw[sizeLine_eq];omega));have qo:(h'.push (seqObj "list" vs.toArray 0)).get? h'.objs.size=some (seqObj "list" vs.toArray 0):=Xa _ rfl;refine X0 (Y9 (Y5 slot_list_sort ⟨_,qo,rfl⟩ entry_list_sort (list_sort_treeK strKind_oneLt qo hv.keysOf (λv₁ v₂ a9 e=>keyKind_strs (by rw[<-e];exact hv)) h64' λeh a1 a2=>⟨_,rfl,?_⟩) (args_list_sort _)));obtain⟨ss',h1,h2,h3⟩:=sorted_out_str hv a1 a2;obtain⟨e,he⟩:=sortedHeap_at (out:=(arrOf eh).map (·.2)) qo;refine X5 ⟨_,rfl,h _ d tk _ e _ ss' (λb o q=>?_) (Nat.le_of_lt hsz) he h1 (h2.trans hp) h3⟩;have hb:=Xg (cx b o q);show(sortedHeap (h'.push (seqObj "list" vs.toArray 0)) h'.objs.size vs _).get? b=some o;rw[sortedHeap_old (Xk hb) (by rw[size_push'];exact Nat.lt_succ_of_lt hb)];exact X2 _ (cx b o q)
end
end Sw
namespace Q
open PySem PySem.Spec PyProof.Rows L2 L3 Sw
section
variable {X:Cx}{Z:Fx0}{K:Frag}{q:Bool}{a:Ex}{e ea:Expr}{σ:L2.St}{H:Hp}{pos p p2 b6:Pos}{x y:Str}{pins:LA9}{s:Shared}
theorem Inv.dr{d:Drawn}(I:L2.Inv X pins σ H s):L2.Inv X pins σ H { s with drawn:=d }:=⟨I.ok,I.os,I.bare,I.base,I.loc,I.cell,I.free,I.freeC,I.pin,I.hok,I.len⟩
def wz5(X:Cx)(f:Value)(r:List Str->Hp->VK->Prop):Prop:=
 ∀(pins:LA9) (s:Shared) (σ:L2.St) (H:Hp) (b:Addr) (ls:List Str) (Q:VK),L2.Inv X pins σ H s->Has X.prog X.w s.heap b ls->r ls H Q->wpAny (model X.prog X.w) X.A (call f [.ref b]) (EP X pins σ Q) X.xe s
def wwn(K:Frag)(r:List Str->Hp->VK->Prop):List V->Hp->VK->Prop:=λxs H Q=>∃p ss,xs=[.ref p]/\SqL K H p (ss.map V.str)/\ss.length<4000/\r (dd ss) H Q
theorem vwc{id:String}{r:List Str->Hp->VK->Prop}{t:TE}(hc:X.calm=true)(hf:wz5 X (.builtin id) r)(hg:Gl X x)(hm:X.mg x=none)(hv:bootBuiltins x=some (.builtin id))(kt:Gl X "set")(ip:X.mg "set"=none)(hv2:bootBuiltins "set"=some (.type "set"))
  (ha:PE X e t) (hn:autoParam (x≠"__name__") ŕ) (dn:autoParam ((x==("__debug__":Str))=false) ŕ) (kh:autoParam (("set":Str)≠"__name__") ŕ) (hdb2:autoParam ((("set":Str)==("__debug__":Str))=false) ŕ)
  (he:autoParam (starEach [e] X.env=(false,eval e X.env)::starEach [] X.env) Ŕ):
  PE X (.Call (.Name x p) [.Call (.Name "set" p2) [e] [] b6] [] pos) (fun σ H Q=>t σ H λv H1=>wwn X.K r [v] H1 Q):=by
 intro pins s σ H Q I h;refine Yn (zq I hg hm hv ?_ hn dn);refine PyProof.Rows.callWith_builtin1 ?_ rfl rfl;show wpAny _ _ (spliced ((false,eval (.Call (.Name "set" p2) [e] [] b6) X.env)::[])) _ _ s;refine Calls.spliced_cons ?_;refine Yn (zq I kt ip hv2 ?_ kh hdb2);refine Y2 (thn (wj ha wJ he b6 pins s σ H (λvs H1=>wwn X.K r vs H1 Q) I ?_) λus s1 ⟨vs,H1,I1,r1,q1⟩=>?_) he rfl
 ·exact h
 obtain⟨b,ss,rfl,hq,hl,q⟩:=q1;obtain⟨u,rfl,rx⟩:=xq r1;cases rx;obtain⟨a8,r',pl,hz⟩:=I1.list hq;have ab:=r'.length;rw[X3]at ab hz;refine qjy (I1.ok.hd hc) pl.isList (by simpa using kk7 r') (by simp;unfold scanBound;omega) λh' tk hS cx=>?_
 have I2:L2.Inv X pins σ H1 { s1 with heap:=h',toks:=tk }:=I1.kept λb u q=>cx b u (Xg q) q
 exact Calls.spliced_nil (hf pins _ σ H1 _ (dd ss) Q I2 hS q)
theorem qk7(hc:X.calm=true):wz5 X (.builtin "sorted") (λls H Q=>ls.length<64/\∀l,H l=none->Q (.ref l) (upd H l (.lst ((x5 ls).map V.str)))):=by
 intro pins s σ H b ls Q I hS h;refine qk6 (I.ok.hd hc) hS h.1 λh' d tk l e out ss cx hl hg h1 h2 h3=>?_
 have e1:=qzq h2 h3;subst e1;have hz:(x5 ls).length<=sizeLine:=by rw[(jw4 ls).length_eq,sizeLine_eq];omega
 refine⟨.ref l,_,Inv.dr (I.laid (t':=tk) (o:=.lst ((x5 ls).map V.str)) cx hl ?_),rfl,h.2 l (I.hok.fresh hl)⟩;exact⟨by rw[X3];exact hz,out.toList,e,qqa h1,by simpa using hg⟩
theorem vve:wz5 X (.builtin "len") (λls H Q=>Q (.int ls.length) H):=by
 intro pins s σ H b ls Q I hS h;obtain⟨o,es,ep,t,ho,hk,hp⟩:=hS;have hsz:es.size=ls.length:=by rw[<-hp.length_eq];unfold V6;rw[X3,Xr]
 refine call_len_set ho hk.ex hk.d hk.f (by have:=hk.b;unfold scanBound at this;omega) ?_;refine⟨.int ls.length,H,?_,by rw[hsz];exact⟨_,rfl⟩,h⟩;exact I.kept (h':=s.heap) λb u q=>q
end
section
variable {X:Cx}{Z:Fx0}{K:Frag}{q:Bool}{a:Ex}{e ea:Expr}{σ:L2.St}{H:Hp}{pos p p2 b6:Pos}{x y:Str}{pins:LA9}{s:Shared}
theorem wv0{ss:List Str}{z:Str}(h:z∈ddS ss):z∈ss:=by
 have:∀(l aa:List Str),z∈l.foldl (λl k=>if l.any (· == k)then l else l++[k]) aa->z∈aa\/z∈l:=by
  intro l
  induction l with
  | nil=>intro aa h;exact .inl h
  | cons k l ih=>
   intro aa h;rcases ih _ h with h|h
   ·dsimp only at h
    split at h
    ·exact .inl h
    ·rcases aA h with h|h
     ·exact .inl h
     ·exact .inr (by rw[aC h];exact X6)
   ·exact .inr (lc9 _ h)
 rcases this ss [] h with h|h
 ·cases h
 ·exact h
def rSS(K:Frag):List V->Hp->VK->Prop:=wwn K λls H Q=>ls.length<64/\∀l,H l=none->Q (.ref l) (upd H l (.lst ((x5 ls).map V.str)))
theorem qq2:Ad1 K (λv H Q=>rSS K [v] H Q) W8:=by
 intro H x s Q ok hf k;unfold W8 at hf;dsimp only at hf;cases hx:x.d with
 | lst ds=>
  rw[hx]at hf;dsimp only at hf;obtain⟨l,xs,bs,ev,q3,r3,_⟩:=items ok (.inl hx);have q3:LsR K H l xs:=by rcases q3 with⟨_,z⟩|⟨z,_⟩;exact z;rw[hx]at z;cases z
  cases hs:xK ds with
  | some ss=>
   rw[hs]at hf;dsimp only at hf
   split at hf
   ·rename_i hl;cases oq9 hf;obtain⟨e1,e2⟩:=jzm hs r3;subst e1;refine⟨l,ss,by rw[ev],z7 q3,⋯,Nat.lt_of_le_of_lt (wv1 ss) hl,λp hp=>?_⟩;exact k ⟨.rt,.lst _,.ref p,p::[]⟩ _ rfl rfl (KQ hp (qj0 λz hz=>e2 z (wv0 ((jw4 _).mem_iff.mp hz))) λb hb=>nomatch hb)
   ·cases hf
  |none=>rw[hs]at hf;cases hf
 |_=>rw[hx]at hf;cases hf
theorem qvi(hK:X.K=Z.K)(hc:X.calm=true)(ha:QV X Z q a ea)(hm:X.mg "sorted"=none)(ip:X.mg "set"=none)(hg:autoParam (Gl X "sorted") Ŕ)(kt:autoParam (Gl X "set") Ŕ)(he:autoParam (starEach [ea] X.env=(false,eval ea X.env)::starEach [] X.env) Ŕ):
  QE X Z q (cF1 W8 a) (.Call (.Name "sorted" p) [.Call (.Name "set" p2) [ea] [] b6] [] pos):=
 q9 (vwc hc (qk7 hc) hg hm rfl kt ip rfl ha (he:=he)) fun σ H Q h=>by
  have:=XJ (r:=λv H Q=>rSS Z.K [v] H Q) qq2 h;rw[hK];exact this
theorem wqq(ns:List Int):∀i,i<=ns.length->firstMet (λi=>ns.getD i 0) i=(ns.take i).foldl step_dedup []
 |0,_=>rfl
 |i+1,h=>by
  rw[firstMet_succ,wqq ns i (Nat.le_of_succ_le h),List.take_succ,List.foldl_append,X4,X1 h];rfl
def rLS(K:Frag):List V->Hp->VK->Prop:=λxs H Q=>
 (∃p ss,xs=[.ref p]/\SqL K H p (ss.map V.str)/\ss.length<4000/\Q (.int (ddS ss).length) H)\/∃p ns,xs=[.ref p]/\SqL K H p (ns.map V.int)/\ns.length<4000/\Q (.int (ddI ns).length) H
theorem qvv{t:TE}(hc:X.calm=true)(hg:Gl X "len")(hm:X.mg "len"=none)(kt:Gl X "set")(ip:X.mg "set"=none)(ha:PE X e t)(he:autoParam (starEach [e] X.env=(false,eval e X.env)::starEach [] X.env) Ŕ):
  PE X (.Call (.Name "len" p) [.Call (.Name "set" p2) [e] [] b6] [] pos) (fun σ H Q=>t σ H λv H1=>rLS X.K [v] H1 Q):=by
 intro pins s σ H Q I h;refine Yn (zq I hg hm (u:=.builtin "len") rfl ?_ ⋯ ⋯);refine PyProof.Rows.callWith_builtin1 ?_ rfl rfl;show wpAny _ _ (spliced ((false,eval (.Call (.Name "set" p2) [e] [] b6) X.env)::[])) _ _ s;refine Calls.spliced_cons ?_;refine Yn (zq I kt ip (u:=.type "set") rfl ?_ ⋯ ⋯);refine Y2 (thn (wj ha wJ he b6 pins s σ H (λvs H1=>rLS X.K vs H1 Q) I ?_) λus s1 ⟨vs,H1,I1,r1,q1⟩=>?_) he rfl
 ·exact h
 rcases q1 with⟨b,ss,rfl,hq,hl,q⟩|⟨b,ss,rfl,hq,hl,q⟩
 ·obtain⟨u,rfl,rx⟩:=xq r1;cases rx;obtain⟨a8,r',pl,hz⟩:=I1.list hq;have ab:=r'.length;rw[X3]at ab hz;refine qjy (I1.ok.hd hc) pl.isList (by simpa using kk7 r') (by simp;unfold scanBound;omega) λh' tk hS cx=>?_
  have I2:L2.Inv X pins σ H1 { s1 with heap:=h',toks:=tk }:=I1.kept λb u q=>cx b u (Xg q) q
  exact Calls.spliced_nil (vve pins _ σ H1 _ (dd ss) Q I2 hS q)
 ·obtain⟨u,rfl,rx⟩:=xq r1;cases rx;obtain⟨a8,r',pl,hz⟩:=I1.list hq;have ab:=r'.length;rw[X3]at ab hz;refine PySem.call_set_list (ns:=ss) (I1.ok.hd hc) pl.isList (by simpa using qkq r') (by simp;unfold scanBound;omega) λh' tk hS cx=>?_
  have I2:L2.Inv X pins σ H1 { s1 with heap:=h',toks:=tk }:=I1.kept λb u q=>cx b u (Xg q) q
  obtain⟨o,es,ep,t,ho,lz,hd,hel,hmem,hb,hf,hn⟩:=hS;have kh:es.size=(ddI ss).length:=by
   rw[hn,show a8.toArray.size=ss.length by simp;omega,wqq ss _ (Xb _),List.take_length];rfl
  refine Calls.spliced_nil (call_len_set ho lz hd hf (by unfold scanBound at hb;omega) ?_);refine⟨.int (ddI ss).length,H1,?_,by rw[kh];exact⟨_,rfl⟩,q⟩;exact I2.kept (h':=h') λb u q=>q
theorem qzg:Ad1 K (λv H Q=>rLS K [v] H Q) (pu1 V8):=by
 intro H x s Q ok hf k;unfold pu1 V8 at hf;dsimp only at hf;cases hx:x.d with
 | lst ds=>
  rw [hx]at hf;dsimp only at hf;obtain⟨l,xs,bs,ev,q3,r3,_⟩:=items ok (.inl hx);have q3:LsR K H l xs:=by rcases q3 with⟨_,z⟩|⟨z,_⟩;exact z;rw[hx]at z;cases z
  cases hs:xK ds with
  | some ss=>
   rw[hs]at hf;dsimp only at hf
   split at hf
   ·rename_i hl;cases oq9 hf;obtain⟨e1,e2⟩:=jzm hs r3;subst e1;exact .inl ⟨l,ss,by rw[ev],z7 q3,hl,k ⟨.dp,.int _,.int _,[]⟩ H rfl rfl Jk⟩
   ·cases hf
  | none=>
   rw[hs]at hf;dsimp only at hf;cases hi:K9 ds with
   | none=>rw[hi]at hf;cases hf
   | some ss=>
    rw[hi]at hf;dsimp only at hf
    split at hf
    ·rename_i hl;cases oq9 hf;have e1:=qjj hi r3;subst e1;exact .inr ⟨l,ss,by rw[ev],z7 q3,hl,k ⟨.dp,.int _,.int _,[]⟩ H rfl rfl Jk⟩
    ·cases hf
 |_=>rw[hx]at hf;cases hf
theorem qj3(hK:X.K=Z.K)(hc:X.calm=true)(ha:QV X Z q a ea)(hm:X.mg "len"=none)(ip:X.mg "set"=none)(hg:autoParam (Gl X "len") Ŕ)(kt:autoParam (Gl X "set") Ŕ)(he:autoParam (starEach [ea] X.env=(false,eval ea X.env)::starEach [] X.env) Ŕ):
  QE X Z q (cF1 (pu1 V8) a) (.Call (.Name "len" p) [.Call (.Name "set" p2) [ea] [] b6] [] pos):=
 q9 (qvv hc hg hm kt ip ha (he:=he)) fun σ H Q h=>by
  have:=XJ (r:=λv H Q=>rLS Z.K [v] H Q) qzg h;rw[hK];exact this
end
end Q
namespace Q
open PySem PySem.Spec PyProof.Rows L2 L3
section
variable {X:Cx}{Z:Fx0}{K:Frag}{H:Hp}{q g:Bool}{a:Ex}{e:Expr}{p2 pos:Pos}{x:Str}{d:D}{ds:List D}{v:V}{vs:List V}
def wz7(o:Obj)(xs:List V):Prop:=o.cls=.type "tuple"/\o.dict=none/\∃a8 n,o.data=.seq a8 n/\a8.size<=sizeLine/\Vals xs a8.toList
theorem qwd{b:Addr}{o:Obj}(h:K.lookup b=some o)(m:wz7 o vs):SqT K H b vs:=by
 obtain⟨m1,m2,a8,n,m3,m4,m5⟩:=m;exact .inr ⟨o,a8,n,h,m1,m2,m3,m4,m5⟩
theorem wj7:RepA K H g [] [] []:=by unfold RepA;exact⟨rfl,rfl⟩
theorem vvk(h:RepL K H g d v [])(r:RepA K H g ds vs []):RepA K H g (d::ds) (v::vs) []:=by
 unfold RepA;exact⟨v,vs,[],[],rfl,rfl,h,r⟩
theorem wzd{b:Addr}(h:SqT K H b vs)(r:RepA K H g ds vs []):RepL K H g (.tup ds) (.ref b) []:=by
 unfold RepL;exact⟨b,vs,rfl,h,r⟩
def xj9(K:Frag)(mg:Str->Option Value)(x:Str)(d:D):Prop:=∃v,Cst mg x v/\∀H,RepL K H false d v []
theorem q_CD(c:xj9 Z.K X.mg x d)(hg:autoParam (Gl X x) Ŕ)(hd:autoParam ((x==("__debug__":Str))=false) ŕ):QE X Z true (cC d) (.Name x pos):=by
 obtain⟨v,c,r⟩:=c;exact q_C (V3 c hg hd) r
end
end Q
namespace Q
open PySem
def XV:Sd->Option Sd:=λx=>match x.2 with
 |.lst xs=>if qw x then some (.rt,.lst xs.reverse)else none|_=>none
def ww0:D->D->Option D:=λy x=>match y with
 |.dct kvs=>if v4 x=true/\unm kvs=true/\D.pures (kvs.map (·.2))=true then x8 kvs x else none|_=>none
def vzo(a b:Ex):Ex:=λE=>bnd (a E) λE x=>bnd (b E) λE y=>val E ((ww0 x.2 y.2).map λd=>(.dp,d))
end Q
namespace PySem
section
variable {prog:Program}{w:World}{A:Around}{E:VP9}{s:Shared}
theorem vvj:typeLookup (.type "list_reverseiterator") "__len__"=pure none:=am_miss_of_fast (by decide +kernel)
theorem qzv:typeLookup (.type "list_reverseiterator") "__length_hint__"=pure (some (.builtin "list_reverseiterator.__length_hint__")):=by
 rw[typeLookup_type,builtinLookup_eq_fast];have h:fastLookup "list_reverseiterator" "__length_hint__"=some (some (.builtin "list_reverseiterator.__length_hint__")):=by kernel_rfl
 simp only[h]
theorem Q1{α:Type}{c:Prop}[Decidable c]{M:Model}{t e:Sem α}{Q:α->Shared->Prop}(h:¬c)(k:wpAny M A e Q E s):wpAny M A (if c then t else e) Q E s:=by rw[Xf h];exact k
theorem vx8{α:Type}{c:Prop}[Decidable c]{M:Model}{t e:Sem α}{Q:α->Shared->Prop}(h:c)(k:wpAny M A t Q E s):wpAny M A (if c then t else e) Q E s:=by rw[X8 h];exact k
theorem kjx{r l:Addr}{i:Int}{Q:Bool->Shared->Prop}(hr:s.heap.IsRevIter r l i)(h:Q false s):wpAny (model prog w) A (Builtin.List.listLengthHint (.ref r)) Q E s:=by
 have hT:=hr.typeIs;unfold Builtin.List.listLengthHint;refine X0 (Yt hT vvj ?_);dsimp only;refine Q1 ⋯ (Q1 ⋯ (X0 (Yt hT qzv ?_)));have sp:splitId "list_reverseiterator.__length_hint__"=some ("list_reverseiterator","__length_hint__"):=by decide +kernel
 dsimp only;simp only[sp];refine X0 (wpAny_isInstance (b:=true) hT (by first|exact F.sub_lri_self|exact isSubtype_self _|rfl) ?_);exact Q1 ⋯ (vx8 (by decide +kernel) (Q1 ⋯ (X5 h)))
theorem kv2{Q:VP9}{I l:Addr}{items:Array Value}(hh:A.handled=none)(hI:s.heap.IsRevIter I l (items.size - 1))(hl:s.heap.IsList l items)(b8:l≠I)(hz:items.size<=sizeLine)
  (h:∀(h':Heap) (tk:Nat) (aa:Array Value) (c:Nat),(∀b o,b≠I->s.heap.get? b=some o->h'.get? b=some o)->h'.get? s.heap.objs.size=some { cls:=.type "list",data:=.seq aa c }->ItemsOf (λi v=>items[items.size - 1 - i]?=some v) aa items.size->Q (.ref s.heap.objs.size) { s with heap:=h',toks:=tk }):
  wpAny (model prog w) A (call (.type "list") [.ref I]) Q E s:=by
 refine callType_codes (Q₁:=λobj s₁=>obj=Value.ref s.heap.objs.size/\s₁={ s with heap:=s.heap.push { cls:=Value.type "list",data:=Data.seq #[] } }) F.called_list (F.typeCall_list_1 _) F.entry_list_init (code_list_new _ ⟨rfl,rfl⟩) ?_;rintro obj s₁ ⟨rfl,rfl⟩;have de:(s.heap.push { cls:=Value.type "list",data:=Data.seq #[] }).get? s.heap.objs.size=some { cls:=Value.type "list",data:=Data.seq #[] }:=Xa _ rfl;have hT:Shared.TypeIs { s with heap:=s.heap.push { cls:=Value.type "list",data:=Data.seq #[] } } (.ref s.heap.objs.size) "list":=⟨_,de,rfl⟩;have hI':(s.heap.push { cls:=Value.type "list",data:=Data.seq #[] }).IsRevIter I l (items.size - 1):=hI.at λo e=>X2 _ e
 refine⟨hT,F.args_list_init_2 _ _,?_⟩;have hm:∃n,Obj.mapSeq (λ_=>#[]) ({ cls:=Value.type "list",data:=Data.seq #[] }:Obj)={ cls:=Value.type "list",data:=Data.seq #[] n }:=⟨_,by unfold Obj.mapSeq;rfl⟩;obtain⟨n0,hm⟩:=hm;have me:s.heap.objs.size≠I:=λe=>by
  obtain⟨o,ho,_⟩:=hI;exact absurd (Xg ho) (by rw[e];exact Yp _)
 have oh:s.heap.objs.size≠l:=λe=>by
  obtain⟨o,ho,_⟩:=hl;exact absurd (Xg ho) (by rw[e];exact Yp _)
 unfold Builtin.«list.__init__»;refine Q1 (λz=>nomatch z) (Q1 (λz=>absurd z (by simp)) (X0 (PyProof.Rows.listItems_at de rfl (X0 (PyProof.Rows.listUpdate_at de rfl ?_)))));have sb:=Ya (s.heap.push { cls:=Value.type "list",data:=Data.seq #[] }) s.heap.objs.size (Obj.mapSeq (λ_=>#[]));have hS:=Y1 (Obj.mapSeq (λ_=>(#[]:Array Value))) de rfl;rw[hm]at hS;generalize (s.heap.push { cls:=Value.type "list",data:=Data.seq #[] }).update s.heap.objs.size (Obj.mapSeq (λ_=>#[]))=h1 at sb hS;have hI1:h1.IsRevIter I l (items.size - 1):=hI'.at λo e=>sb.extBut I o (Ne.symm me) e
 have i5:h1.IsList l items:=by
  obtain⟨o,ho,r⟩:=hl;exact⟨o,sb.extBut l o (Ne.symm oh) (X2 _ ho),r⟩
 refine X0 (wpAny_letGo ?_);show wpAny _ _ (Builtin.List.listExtendWith (.ref s.heap.objs.size) (.ref I) .none) _ _ _;unfold Builtin.List.listExtendWith;have hT1:Shared.TypeIs { s with heap:=h1 } (.ref I) "list_reverseiterator":=hI1.typeIs;refine X0 (wpAny_typeOf hT1 (Q1 ?_ ?_))
 ·have e1:Builtin.List.listSameRef (.ref s.heap.objs.size) (.ref I)=false:=by
   show(s.heap.objs.size==I)=false;exact Y8 me
  rw[e1];decide
 refine X0 (wpAny_pyIter_revIter hI1 (X0 (Y9 (kjx hI1 ?_))));refine Q1 ⋯ ?_;have W:=(Walks.listRev (prog:=prog) (w:=w) (A:=A.in1.in1) (by simp[hh]) I l b8 items).toS;refine X5 ⟨plainId_quiet (by decide +kernel) _,?_⟩;refine codeAny_extend_loopS (A:=A.in1) W hz s.heap.objs.size ?_ .none (items.size - 0) 0 _ #[] n0 rfl (Yd _) ⟨Yd _,by simpa using hI1,i5⟩ hS ⟨rfl,λj v e=>by simp at e⟩ λs' df c' np i9 ay=>?_
 ·simp only[Y4,Xv,or_false,not_or];exact⟨me,oh⟩
 ·obtain⟨h2,g',d',lw,nh⟩:=s';have eg:g'=s.gens:=np.gens;have ed:d'=s.drawn:=np.drawn;have eo:nh=s.os:=np.os;subst eg;subst ed;subst eo;refine⟨rfl,h h2 lw df c' (λb o hb e=>?_) i9 ay⟩;have cb:=Xg e;refine np.heap b o ?_ (sb.extBut b o (Xk cb) (X2 _ e));simp only[Y4,Xv,or_false,not_or];exact⟨Xk cb,hb⟩
end
end PySem
namespace Q
open PySem PySem.Spec PyProof.Rows L2 L3
section
variable {X:Cx}{Z:Fx0}{pn:List Nat}{q:Bool}{a b:Ex}{e ea:Expr}{p pos:Pos}
theorem wkb{ta:TE}{p2 b6:Pos}(ha:PE X ea ta)(r9:X.mg "reversed"=none)(n6:X.mg "list"=none)(hc:autoParam (X.calm=true) Ŕ)(qh:autoParam (Gl X "reversed") Ŕ)(se:autoParam (Gl X "list") Ŕ)
  (bc:autoParam (starEach [ea] X.env=(false,eval ea X.env)::starEach [] X.env) Ŕ) (bh:autoParam ((backTo b6 (starEach [] X.env)).any (·.1)=false) Ŕ)
  (gi:autoParam (starEach [.Call (.Name "reversed" p2) [ea] [] b6] X.env=(false,eval (.Call (.Name "reversed" p2) [ea] [] b6) X.env)::starEach [] X.env) Ŕ) (jr:autoParam ((backTo pos (starEach [] X.env)).any (·.1)=false) Ŕ):
  PE X (.Call (.Name "list" p) [.Call (.Name "reversed" p2) [ea] [] b6] [] pos) (fun σ H Q=>ta σ H λv H1=>∃l ys,[v]=[.ref l]/\SqL X.K H1 l ys/\∀pp,H1 pp=none->Q (.ref pp) (upd H1 pp (.lst ys.reverse))):=by
 intro pins s σ H Q I h;refine Yn (zq I se n6 Ww ?_);refine Y2 ?_ gi jr;rw[gi];show wpAny _ _ (spliced ((false,eval (.Call (.Name "reversed" p2) [ea] [] b6) X.env)::backTo pos (starEach [] X.env))) _ _ s;refine Calls.spliced_cons (thn (Q:=λu s2=>∃(H1:Hp) (I0 l:Addr) (ys:List V) (a8:List Value),u=.ref I0/\L2.Inv X pins σ H1 s2/\v9 X pins H1 I0/\s2.heap.IsRevIter I0 l (a8.toArray.size - 1)/\s2.heap.IsList l a8.toArray/\l≠I0/\Vals ys a8/\ys.length<=sizeLine/\∀pp,H1 pp=none->Q (.ref pp) (upd H1 pp (.lst ys.reverse))) ?_ λu s2 hu=>?_)
 ·refine Call_ (zq I qh r9 boot_reversed (Y2 (thn (wj ha wJ bc b6 pins s σ H (λvs H1=>∃l ys,vs=[.ref l]/\SqL X.K H1 l ys/\∀pp,H1 pp=none->Q (.ref pp) (upd H1 pp (.lst ys.reverse))) I ?_) λus s1 ⟨vs,H1,I1,r1,l,ys,e,hq,q1⟩=>?_) bc bh))
  ·exact h
  ·subst e;obtain⟨u,rfl,rx⟩:=xq r1;cases rx;obtain⟨a8,r',pl,hz⟩:=I1.list hq;refine call_reversed_list pl.isList ⟨H1,s1.heap.objs.size,l,ys,a8,rfl,I1.kept (t':=s1.toks) (λb o e=>X2 _ e),I1.fpOk (Xb _) (I1.hok.fresh (Xb _)),⟨_,Xa _ rfl,rfl,rfl⟩,pl.isList.push _,?_,r',hz,q1⟩;obtain⟨o,ho,_⟩:=pl.isList;exact Xk (Xg ho)
 ·obtain⟨H1,I0,l,ys,a8,rfl,I2,f0,hri,hls,b8,hv,hz,hq⟩:=hu;refine thn (Calls.spliced_nil (Q:=λus s3=>us=[]/\s3=s2) ⟨rfl,rfl⟩) ?_;rintro us s3 ⟨rfl,rfl⟩;refine kv2 (I.ok.hd hc) hri hls b8 (by rw[X7,<-hv.length];exact hz) λh' tk aa c kp e dq=>?_
  have fT:v9 X pins H1 s3.heap.objs.size:=I2.fpOk (Xb _) (I2.hok.fresh (Xb _));have I3:L2.Inv X pins σ H1 { s3 with heap:=h',toks:=tk }:=jwt [I0] I2 (λb o hb ee=>kp b o (λz=>hb (by rw[z];exact X6)) ee) (λb hb=>by rw[aC hb];exact f0);have hva:Vals ys.reverse aa.toList:=by
   obtain⟨hs,hg⟩:=dq;have hs:aa.size=a8.length:=by simpa using hs
   rw[X7]at hg;have hl:=hv.length;refine kkv (by simp[hs,hl]) λi x u ex eu=>?_
   rw[Yr]at eu;have hi:i<a8.length:=by rw[<-hs];exact(Array.getElem?_eq_some_iff.mp eu).1
   have h2:=hg i u eu;rw[List.getElem?_reverse ⋯]at ex;obtain⟨u',hu',ru'⟩:=hv.get ex;rw[List.getElem?_toArray,show a8.length - 1 - i=ys.length - 1 - i by omega,hu']at h2;cases oq9 h2;exact ru'
  have I4:=kjj (a:=s3.heap.objs.size) (o:=.lst ys.reverse) I3 fT.1 fT.2.1 fT.2.2.2.1 fT.2.2.2.2.1 fT.2.2.2.2.2 (show ObjOk X.prog X.w _ h' _ (.lst ys.reverse)from⟨by rw[List.length_reverse];exact hz,aa.toList,c,hva,by simpa using e⟩);exact⟨.ref s3.heap.objs.size,_,I4,rfl,hq _ fT.1⟩
theorem qw3{g:Bool}{K:Frag}{H:Hp}:∀{ds:List D} {xs:List V} {as:List Addr},RepA K H g ds xs as->∃fj,RepA K H g ds.reverse xs.reverse fj/\∀b∈fj,b∈as
 |[],xs,as,h=>by
  unfold RepA at h;obtain⟨rfl,rfl⟩:=h;exact⟨[],by unfold RepA;exact⟨rfl,rfl⟩,λ_ z=>z⟩
 |d::ds,xs,as,h=>by
  unfold RepA at h;obtain⟨x,r,bs,cs,rfl,rfl,h1,h2⟩:=h;obtain⟨fj,i1,i2⟩:=qw3 h2;refine⟨fj++bs,by rw[List.reverse_cons,List.reverse_cons];exact RepA.snoc h1 i1,λb hb=>?_⟩;rcases aA hb with z|z
  ·exact lr9 _ (i2 b z)
  ·exact ll9 _ z
def wzh(K:Frag):V->Hp->VK->Prop:=λv H Q=>∃l ys,[v]=[V.ref l]/\SqL K H l ys/\∀pp,H pp=none->Q (.ref pp) (upd H pp (.lst ys.reverse))
theorem wvf{K:Frag}:Ad1 K (wzh K) XV:=by
 intro H x s Q ok hf k;unfold XV at hf;dsimp only at hf
 split at hf
 ·rename_i ds e
  split at hf
  ·rename_i hl;cases oq9 hf;obtain⟨l,xs,bs,ev,q3,r3,h3⟩:=z9 ok (.inl e) hl;have q3:LsR K H l xs:=by rcases q3 with⟨_,z⟩|⟨z,_⟩;exact z;rw[e]at z;cases z
   obtain⟨fj,i1,i2⟩:=qw3 r3;exact⟨l,xs,by rw[ev],z7 q3,λp hp=>k ⟨.rt,.lst ds.reverse,.ref p,p::fj⟩ _ rfl rfl (KQ hp i1 λb hb=>h3 b (i2 b hb))⟩
  ·cases hf
 ·cases hf
theorem wjl{p2 b6:Pos}(ha:QV X Z q a ea)(r9:X.mg "reversed"=none)(n6:X.mg "list"=none)(hK:autoParam (X.K=Z.K) Ŕ)(hc:autoParam (X.calm=true) Ŕ)(qh:autoParam (Gl X "reversed") Ŕ)(se:autoParam (Gl X "list") Ŕ)
  (bc:autoParam (starEach [ea] X.env=(false,eval ea X.env)::starEach [] X.env) Ŕ) (bh:autoParam ((backTo b6 (starEach [] X.env)).any (·.1)=false) Ŕ)
  (gi:autoParam (starEach [.Call (.Name "reversed" p2) [ea] [] b6] X.env=(false,eval (.Call (.Name "reversed" p2) [ea] [] b6) X.env)::starEach [] X.env) Ŕ) (jr:autoParam ((backTo pos (starEach [] X.env)).any (·.1)=false) Ŕ):
  QE X Z q (cF1 XV a) (.Call (.Name "list" p) [.Call (.Name "reversed" p2) [ea] [] b6] [] pos):=
 q9 (wkb ha r9 n6 hc qh se bc bh gi jr) fun σ H Q h=>XJ (r:=wzh X.K) (hK▸wvf) h
end
section
variable {P:Program}{w:PySem.World}{K:Frag}{mg:Str->Option Value}{base h:Heap}{x:Str}{st:Stmt}{ps:List Str}{k:Nat}{sp:Sp}
def wz9(K:Frag)(x qual:Str)(st:Stmt)(f:Addr)(fd:FuncData):Prop:=∃(oc:Value) (od:Option Addr) (dV kV en pm:Value) (an:Option Addr) (ax ct:Value) (je:Array (Option Value)),
  fd=PySem.W.fnOf x qual (xj st) (z5 st) (jX st) dV kV en pm an ax ct/\K.lookup f=some ⟨oc,od,.func fd,je⟩/\PySem.W.codeIn K ax qual=true
theorem vz8{qual:Str}{f:Addr}{fd:FuncData}{N:List Str}(F:wz9 K x qual st f fd)(S:FnScope N ps (jX st))(len:∀vs H Q E,sp vs H Q E->vs.length=ps.length)
  (fv:∀(ax:Value) (A:Around) (outer:List Env) (s:Shared) (H:Hp) (vs:List V) (Q:VK) (E:XK),Room k (A.deeper (envOfC qual (jX st) s.heap.objs.size f ax))->sp vs H Q E ->
   ∃t,PSs (Cx.ex' (zW (CXE P w) P w K mg base N qual (jX st) f ax A outer s H E) E) (z5 st) t/\t { nx:=λ_ H'=>Q .non H',rt:=Q } (L2.start N vs) H):FnOk P w K mg base (CXE P w) (k+1) f fd ps sp:=by
 obtain⟨oc,od,dV,kV,en,pm,an,ax,ct,je,rfl,lk,fm⟩:=F;refine wqp lk fm S len λA outer s H vs Q E hr j'=>?_
 obtain⟨t,h,q⟩:=fv ax A outer s H vs Q E hr j';exact⟨t,λpins s' σ H' D I hw=>wpAny_mono (h pins s' σ H' D (I.wish _) hw) (λf ie z=>z.unwish) λe ie z=>kwc z,q⟩
noncomputable def GfD(K:Frag)(x:Str)(st:Stmt):Prop:=∃(f dt:Addr) (oc:Value) (od:Option Addr) (kV dc pm:Value) (an:Option Addr) (cd ct:Value) (sl:Array (Option Value)) (ot:Obj) (n:Nat),nsIn K mainGlobals x=some (some (.ref f))/\K.lookup f=some ⟨oc,od,.func (PySem.W.fnOf x x (xj st) (z5 st) (jX st) (.ref dt) kV dc pm an cd ct),sl⟩/\PySem.W.codeIn K cd x=true/\PySem.W.keepIn K (.ref f)=true/\K.lookup dt=some ot/\ot.data=.seq #[.none] n
theorem GfD.mk{f dt:Addr}{oc:Value}{od:Option Addr}{kV dc pm:Value}{an:Option Addr}{cd ct:Value}{sl:Array (Option Value)}{ot:Obj}{n:Nat}(a:nsIn K mainGlobals x=some (some (.ref f)))(l:K.lookup f=some ⟨oc,od,.func (PySem.W.fnOf x x (xj st) (z5 st) (jX st) (.ref dt) kV dc pm an cd ct),sl⟩)(c:PySem.W.codeIn K cd x=true)(k:PySem.W.keepIn K (.ref f)=true)(e1:K.lookup dt=some ot)(e2:ot.data=.seq #[.none] n):GfD K x st:=⟨f,dt,oc,od,kV,dc,pm,an,cd,ct,sl,ot,n,a,l,c,k,e1,e2⟩
end
theorem wvb{fd:FuncData}{dt:Addr}{ot:Obj}{n:Nat}(hd:fd.defaults=.ref dt)(h1:fd.params.posonlyargs=[])(h2:fd.params.args.map (·.arg)=(["one","other","pair"]:List Str))(h3:fd.params.vararg=none)(h4:fd.params.kwonlyargs=[])(h5:fd.params.kwarg=none)
  {s:Shared} (hs:s.heap.get? dt=some ot) (ht:ot.data=.seq #[.none] n) (a b:Value):BindsTo s fd ⟨[a,b],[]⟩ [("one",a),("other",b),("pair",.none)]:=by
 intro M A E Q q;unfold bindArgs;simp only[h1,h2,h3,h4,h5,hd];refine X0 (X5 (X0 (wpAny_seqItems hs ht ?_)));exact wpAny_of_eq (by rfl) q
section
variable {P:Program}{w:PySem.World}{K:Frag}{mg:Str->Option Value}{base h:Heap}{x:Str}{st:Stmt}{k:Nat}{sp:Sp}
theorem wxj{p:List Value->Prop}:∀us:List Value,us.length=2->(∀a b,p [a,b])->p us
 |[_,_],_,h=>h _ _
end
abbrev vzt(K:Frag)(td ty:TE):TE:=fun σ H Q=>td σ H λx H1=>ty σ H1 λy H2=>∃(a b:Addr) (k:Kd) (es:List Ent) (ep:Nat) (v:V) (p:Addr×Value),x=.ref a/\y=.ref b/\H2 a=some (qQ a es ep)/\(es.map (·.1)).Nodup/\(∀x∈es,PuR K H2 x.1.1 (.ref x.2.1))/\PuR K H2 k.1 (.ref b)/\atKey es k=some p/\RelV v p.2/\Q v H2
section
variable {X:Cx}{Z:Fx0}{q qa:Bool}{a b:Ex}{td ty:TE}{o i ea eb:Expr}{pos:Pos}
theorem vjd(hu:X.A.units+64<cLine)(ho:PE X o td)(hi:PE X i ty)(hs:wvm i):PE X (.Subscript o i pos) (vzt X.K td ty):=by
 intro pins s σ H Q I h;refine qql PySem.F.slot_dict_getitem.lookup hs (thn (ho pins s σ H _ I h) λu s1 ⟨x,H1,I1,rx,q1⟩=>thn (hi pins s1 σ H1 _ I1 q1) λiv s2 ⟨y,H2,I2,ry,a,b,k,es,ep,v,p,ex,ey,d,hn,n9,hk,hp,rv,q2⟩=>?_);subst ex ey;obtain rfl:u=Value.ref a:=rx;obtain rfl:iv=Value.ref b:=ry;have dd:=qjr I2 d hn n9;exact⟨dd.typeIs,wpAny_getItem_heap (kxq hu) (VW I2 hk rfl) dd hp ⟨v,H2,I2.tok _,rv,q2⟩⟩
theorem wjo(hu:X.A.units+64<cLine)(ha:QV X Z qa a ea)(hb:QV X Z true b eb)(hs:wvm eb)(hK:autoParam (X.K=Z.K) Ŕ):QV X Z qa (vzo a b) (.Subscript ea eb pos):=
 q9 (hK▸vjd hu ha hb hs) fun σ H Q ah=>ex8 ah λE L r m w hc xc k=>by
  refine v8 m w (show bnd (a E) _=some r from hc) xc λE1 s h1 x L1 H1 e1 e2 m1 w1 ok fr sr st sm=>?_
  refine v8 m1 w1 h1 (xc.step st) λE2 s2 h2 y L2 H2 e3 e4 m2 w2 fz oz on bg dg=>?_
  obtain⟨z,hz0,rfl⟩:=zw h2;have kx:=Q4 ok fr bg (dg rfl);obtain⟨d,hz,rfl⟩:=Option.map_eq_some_iff.mp hz0;unfold ww0 at hz;cases hy:s.2 with
  | dct kvs=>
   rw[hy]at hz;dsimp only at hz
   by_cases hc:v4 s2.2=true/\unm kvs=true/\D.pures (kvs.map (·.2))=true
   ·rw[X8 hc]at hz;obtain⟨b,eb,pb⟩:=jw9 fz (by rw[e4];exact hc.1);have ja:jK 6 y.d=true:=by
     have:v4 y.d=true:=by rw[e4];exact hc.1
     unfold v4 at this;rw[Bool.and_eq_true]at this;exact this.1
    have h:=RepO.wk kx.1;rw[e2,hy]at h;unfold RepL at h;obtain⟨l,xs,bs,e,rp,dc,_⟩:=h;obtain⟨es,ep,d1,d2,d3,d4,d5,d6,d7⟩:=DcA.un dc hc.2.1;obtain⟨g1,g2⟩:=qx9 (k:=⟨y.d,ja⟩) rp d5 d7 hc.2.2;have hyk:(⟨y.d,ja⟩:Kd).1=s2.2:=e4;cases gr:atKey es ⟨y.d,ja⟩with
    |none=>
     have:=g2 gr;rw[hyk,hz]at this;cases this
    |some p=>
     obtain⟨d',v',q1,q2,q3,q4⟩:=g1 p gr;rw[hyk,hz]at q1;cases oq9 q1;exact⟨l,b,⟨y.d,ja⟩,es,ep,v',p,e,eb,d1,d4,d6,pb,gr,q2,k _ _ rfl ⟨.dp,d,v',[]⟩ L2 H2 rfl rfl m2 w2 q3 (λ_ hb=>nomatch hb) (λ_ hb=>nomatch hb) (st.trans bg) λhq=>qv (sm hq) (dg rfl)⟩
   ·rw[Xf hc]at hz;cases hz
  |_=>rw[hy]at hz;cases hz
end
end Q
namespace Q
open PySem
noncomputable def qzt(i j k:Nat)(vc:Ex):Sm:=λE=>ofE (vc E) λE v=>match E[i]?,E[j]?,E[k]? with
 | some (some (.dp,.lst xs)),some (some (_,.int (.ofNat n))),some (some (_,.int b))=>(match xs[n]? with
  |some (.lst ys)=>(match ixN ys.length b with
   |some m=>if v.2.pure=true then some (.nx (E.set i (some (.dp,.lst (xs.set n (.lst (ys.set m v.2)))))))else none
   |none=>none)
  |_=>none)
 |_,_,_=>none
def qjz(f:Fn)(cs:List Ex):Ex:=λE=>bnd (qW cs E) λE xs=>match f (letAll (xs++[(.no,.non)]))with
 |some (.ok _ y)=>some (.ok E y)|some (.exc _ c)=>some (.exc E c)|none=>none
def itW(i:Nat):Ev (List D):=λE=>match E[i]? with
 |some (some (.rt,.lst ds))=>some (.ok E ds)|_=>none
end Q
namespace Q
open PySem PySem.Spec PyProof.Rows L2 L3
theorem RepA.putS{K:Frag}{H:Hp}{d:D}{x:V}(hx:RepL K H false d x []):∀{ds:List D} {xs:List V} {bs:List Addr} (n:Nat),RepA K H false ds xs bs->∃es,RepA K H false (ds.set n d) (xs.set n x) es/\es.Sublist bs
 | [],_,bs,n,h=>by
  have h0:=h;unfold RepA at h0;obtain⟨rfl,rfl⟩:=h0;exact⟨[],by simpa using h,Z3 _⟩
 | e::ds,_,_,n,h=>by
  unfold RepA at h;obtain⟨y,r,b1,b2,rfl,rfl,h1,h2⟩:=h;cases n with
  |zero=>
   refine⟨[]++b2,?_,List.sublist_append_right _ _⟩;rw[List.set_cons_zero,List.set_cons_zero];unfold RepA;exact⟨x,r,[],b2,rfl,rfl,hx,h2⟩
  |succ n=>
   obtain⟨es,i1,i2⟩:=RepA.putS hx n h2;refine⟨b1++es,?_,(Z3 _).append i2⟩;rw[List.set_cons_succ,List.set_cons_succ];unfold RepA;exact⟨y,r.set n x,b1,es,rfl,rfl,h1,i1⟩
theorem World.setI{K:Frag}{H:Hp}{M:Ls}{y x:Sl}{ds ys:List D}{n:Nat}(m:Nat)(w:World K H (some y::some x::M))(ho:y.o=.dp)(hd:y.d=.lst ds)(hn:ds[n]?=some (.lst ys))(hp:x.d.pure=true):∃la xs l zs,y.v=.ref la/\H la=some (.lst xs)/\xs.length=ds.length/\xs[n]?=some (.ref l)/\H l=some (.lst zs)/\zs.length=ys.length /\
  ∃ z:Sl,z.o=.dp/\z.d=.lst (ds.set n (.lst (ys.set m x.d)))/\z.v=y.v/\World K (upd H l (.lst (zs.set m x.v))) (some z::M)/\Step H (some y::some x::M) (upd H l (.lst (zs.set m x.v))) (some z::M):=by
 obtain⟨la,xs,bs,c1,c2,c3,c4,c5⟩:=wqx (w.ok y X6) hd ho;have nd:=w.nd;rw [k3,Xe,c4,Zg]at nd;have rx:=wj6 (w.ok x (lc9 _ X6)) hp;obtain⟨v,gs,f1,f2,f3⟩:=c5.get hn;unfold RepL at f2;obtain⟨l,zs,hs,rfl,hra,hq⟩:=f2;rcases hq with⟨hl,rfl⟩|⟨z,_⟩
 rotate_left
 ·cases z
 have lin:l∈bs:=f3 l X6;have lne:la≠l:=λz=>nd.1.1 (z▸lin)
 have kp:∀as:List Addr,l∉as->Kp H (upd H l (.lst (zs.set m x.v))) as:=λas ha=>wq5 hl ha
 obtain⟨fj,n1,n2,n3⟩:=RepA.setAt (H':=upd H l (.lst (zs.set m x.v))) (d':=.lst (ys.set m x.d)) (cs:=[]) c5 nd.1.2 hn f1 (λbs h1 _=>kp bs h1) (λbs hb _ lq=>by
  unfold RepL at hb;obtain⟨a,zz,hs,ea,hra2,qq⟩:=hb;cases ea;rcases qq with⟨qq,rfl⟩|⟨z,_⟩
  ·have:zz=zs:=by rw[hl]at qq;cases qq;rfl
   subst this;rw[Zg]at lq;obtain⟨es,g1,g2⟩:=RepA.putS (rx.kp (kp [] λz=>nomatch z)) m (hra2.kp (kp hs lq.1));refine⟨l::es,?_,List.nodup_cons.mpr ⟨λz=>lq.1 (g2.mem z),lq.2.sublist g2⟩,λb hb=>.inl ?_⟩
   ·unfold RepL;exact⟨l,_,es,rfl,g1,.inl ⟨x3,rfl⟩⟩
   ·rcases aD hb with rfl|hb
    ·exact X6
    ·exact lc9 _ (g2.mem hb)
  ·cases z) (λb hb=>nomatch hb)
 have asb:∀b∈fj,b∈bs:=λb hb=>(n3 b hb).elim id λz=>nomatch z
 refine⟨la,xs,l,zs,c1,c2,c5.len.symm,f1,hl,hra.len.symm,⟨.dp,.lst (ds.set n (.lst (ys.set m x.d))),y.v,la::fj⟩,rfl,rfl,rfl,World.write (T:=[some x]) (M:=M) w (by rw[c4];exact lc9 _ lin) ?_ (List.nodup_cons.mpr ⟨λz=>nd.1.1 (asb _ z),n2⟩) (λa ha=>.inl (by
  rw[c4];rcases aD (show a∈la::fj from ha)with q|q
  ·rw[q];exact X6
  ·exact lc9 _ (asb a q))) (λa ha=>nomatch ha) (λa ha z=>nomatch z)⟩
 show RepL K _ false _ _ _;unfold RepL;exact⟨la,xs,fj,c1,n1,.inl ⟨by rw[q5 lne];exact c2,rfl⟩⟩
section
variable {X:Cx}{Z:Fx0}{pn:List Nat}{q:Bool}{vc:Ex}{ep ek ve:Expr}{pos ao:Pos}
theorem wjm{i j k:Nat}{ex ej:Expr}{p1:Pos}(hx:PE X ex (z4 i))(hj:PE X ej (z4 j))(bh:kva ej)(hk:PE X ek (z4 k))(hv:QE X Z q vc ve)(hK:autoParam (X.K=Z.K) Ŕ)(hs:autoParam (swapsWithSole [.Subscript (.Subscript ex ej p1) ek ao] ve pos.line X.env=pure false) Ŕ)(hw:autoParam (swappedStores [.Subscript (.Subscript ex ej p1) ek ao] ve X.env=pure none) Ŕ)
  (h1:autoParam ((assignEach [.Subscript (.Subscript ex ej p1) ek ao] X.env).map (·.2)=[assign (.Subscript (.Subscript ex ej p1) ek ao) X.env]) Ŕ)
  (ha:autoParam (∀v,assign (.Subscript (.Subscript ex ej p1) ek ao) X.env v=(do
   let ov <-holding [v] (eval (.Subscript ex ej p1) X.env)
   let iv <-holding [v,ov] (eval ek X.env)
   standAt ao
   holding [v,ov,iv] (setItem ov iv v)
   release [v,ov,iv] [])) Ŗ):
  QS X Z pn (qzt i j k vc) (.Assign [.Subscript (.Subscript ex ej p1) ek ao] ve pos):=J4 (qvn hv (vq5 (wkf (hK▸vqh) hx hj bh) hk kzw ha) hs hw h1) λDe σ H ah=>ex7 ah λE L r m w hr kk=>
 Kv m w hr kk λE1 s1 h1 x L1 H1 e1 e2 m1 w1 fe _=>by
  split at h1
  rotate_left
  ·cases h1
  rename_i ds oj n ok b hEi hEj hEk
  split at h1
  rotate_left
  ·cases h1
  rename_i ys gr
  split at h1
  rotate_left
  ·cases h1
  rename_i mm ei
  by_cases kr:s1.2.pure=true
  rotate_left
  ·rw[Xf kr]at h1;cases h1
  rw[X8 kr]at h1;cases oq9 h1;obtain⟨y,a1,a2,a3,a4⟩:=m1.get hEi;obtain⟨yj,b1,b2,b3,b4⟩:=m1.get hEj;obtain⟨yk,c1,c2,c3,c4⟩:=m1.get hEk;have vj:yj.v=.int (.ofNat n):=kX (w1.tail.ok yj (v5 b1)) b3;have vk:yk.v=.int b:=kX (w1.tail.ok yk (v5 c1)) c3;obtain⟨w2,s2⟩:=qzp (i:=i+1) (y:=y) w1 (by simpa using a1);obtain⟨la,xs,l,zs,f1,f2,f3,f4,f5,f6,y',g1,g2,g3,g4,g5⟩:=World.setI mm w2 a2 a3 gr (by rw[e2];exact kr);refine⟨y.v,a4,yj.v,b4,.inl ⟨la,xs,.ofNat n,.ref l,f1,vj,.inl (.inl f2),vz4 f4,yk.v,c4,l,zs,b,mm,rfl,vk,f5,by rw[f6];exact ei,?_⟩⟩;have mt:=Wq (i:=i) (x:=y') (s:=(.dp,.lst (ds.set n (.lst (ys.set mm s1.2))))) m1 g1 (by rw[g2,e2]);rw[g3,Vz a4]at mt;have e:(L1.set i none).set i (some y')=L1.set i (some y'):=List.set_set ..;exact kk σ _ _ Pn.refl mt (e▸g4.set) (e▸((fe.trans s2).trans (g5.trans Step.set)))
end
def ww5(P:Program)(w:PySem.World)(K:Frag)(mg:Str->Option Value)(base:Heap)(k:Nat)(x:Str)(ps:List Str)(sp:Sp):Prop:=
 ∃(f:Addr) (fd:FuncData),FnOk P w K mg base (CXE P w) k f fd ps sp/\Binds K fd ps [.none]/\PySem.W.keepIn K (.ref f)=true/\mg x=some (.ref f)
theorem GfD.n{P:Program}{w:PySem.World}{K:Frag}{mg:Str->Option Value}{base h:Heap}{x:Str}{st:Stmt}{k:Nat}{sp:Sp}(g:GfD K x st)(X:K.In h)(G:h.Ns mainGlobals mg)(ok:∀{f:Addr} {fd:FuncData},wz9 K x x st f fd->FnOk P w K mg base (CXE P w) k f fd ["one","other","pair"] sp)
  (h1:autoParam ((xj st).posonlyargs=[]) Ŕ) (h2:autoParam ((xj st).args.map (·.arg)=(["one","other","pair"]:List Str)) Ŕ) (h3:autoParam ((xj st).vararg=none) Ŕ) (h4:autoParam ((xj st).kwonlyargs=[]) Ŕ) (h5:autoParam ((xj st).kwarg=none) Ŕ):ww5 P w K mg base k x ["one","other","pair"] sp:=by
 obtain⟨f,dt,oc,od,kV,dc,pm,an,cd,ct,sl,ot,n,a,l,c,kp,e1,e2⟩:=g;refine⟨f,_,ok ⟨oc,od,.ref dt,kV,dc,pm,an,cd,ct,sl,rfl,l,c⟩,λs us kin hl=>?_,kp,PySem.W.mg_of X G a⟩;have hl:us.length=2:=by rw[Xd]at hl;exact Nat.add_right_cancel hl
 obtain⟨u1,u2,rfl⟩:∃a b,us=[a,b]:=wxj (p:=λus=>∃a b,us=[a,b]) us hl λa b=>⟨a,b,rfl⟩
 exact wvb rfl h1 h2 h3 h4 h5 (kin dt _ e1) e2 u1 u2
theorem wkh{X:Cx}{x:Str}{p pos:Pos}{e:Expr}{es:List Expr}{t:TA}{ps:List Str}{sp:Sp}{k:Nat}{E:XK}(D:ww5 X.prog X.w X.K X.mg X.base k x ps sp)(hr:Room k X.A)(g:wY X E)(ha:PA X (e::es) t)(hg:autoParam (Gl X x) Ŕ)(dn:autoParam ((x==("__debug__":Str))=false) ŕ)
  (he:autoParam (starEach (e::es) X.env=(false,eval e X.env)::starEach es X.env) Ŕ) (bh:autoParam ((backTo pos (starEach es X.env)).any (·.1)=false) Ŕ):
  PE X (.Call (.Name x p) (e::es) [] pos) (vv8 sp [.non] E t):=by
 obtain⟨f,fd,F,b,kp,m⟩:=D;exact qvx F hr hg m kp b (.cons rfl .nil) (wkl g) ha dn he bh
section
variable {X:Cx}{Z:Fx0}{q:Bool}{e:Expr}{es:List Expr}{p pos:Pos}
theorem vvt{k n:Nat}{x:Str}{ps:List Str}{f:Fn}{cs:List Ex}(D:ww5 X.prog X.w X.K X.mg X.base k x ps (spF Z.K Z.mg n f))(hr:Room k X.A)(g:wY X Z.EX)(ha:QA X Z q cs (e::es))(hn:autoParam (cs.length+1=n) Ŕ)(hg:autoParam (Gl X x) Ŕ)(dn:autoParam ((x==("__debug__":Str))=false) ŕ)
  (he:autoParam (starEach (e::es) X.env=(false,eval e X.env)::starEach es X.env) Ŕ) (bh:autoParam ((backTo pos (starEach es X.env)).any (·.1)=false) Ŕ):
  QE X Z false (qjz f cs) (.Call (.Name x p) (e::es) [] pos):=q9 (wkh D hr g ha hg dn he bh) fun σ H Q ah=>ex8 ah λE L r m w hc xc kk=>
 vkh m w (show bnd (qW cs E) _=some r from hc) xc λE1 ys h1 hl xs L1 H1 e1 m1 w1 st sm=>by
  show spF _ _ _ _ _ _ _ _;have ab:xs.length+1=n:=by rw[<-hn,<-hl,<-e1,X3]
  cases hf:f (letAll (ys++[(.no,.non)]))with
  | none=>rw[hf]at h1;cases h1
  | some fr=>
   rw[hf]at h1;obtain⟨wl,sl⟩:=kk6 w1
   let nn:Sl:=⟨.no,.non,.non,[]⟩
   have ev:xs.map Sl.v++[.non]=(xs.map Sl.let++[nn]).map Sl.v:=by rw[X9,Xm];rfl
   have rn:RepL Z.K H1 true _root_.Q.D.non V.non []:=by unfold RepL;exact⟨rfl,rfl⟩
   have wn:World Z.K H1 ((xs.map Sl.let++[nn]).map some):=by
    rw[X9];exact World.comm (L:=[some nn]) (wl.left.consPu rn rfl)
   have pm:(some nn::((xs.map Sl.let).map some++L1)).Perm ((xs.map Sl.let++[nn]).map some++L1):=by
    rw[X9,Xu];exact List.perm_middle.symm
   have stn:Step H1 ((xs.map Sl.let).map some++L1) H1 (some nn::((xs.map Sl.let).map some++L1)):=⟨λ_ _ z _=>z,λa z=>.inl (by simpa [Sl.own,nn]using z),λa z=>.inl (by simpa [Sl.frz,nn]using z)⟩;have wn2:World Z.K H1 ((xs.map Sl.let++[nn]).map some++L1):=World.perm (wl.consPu (x:=nn) rn rfl) pm;have lc:=sl.trans (stn.trans (Step.refl.perm (List.Perm.refl _) pm));rw[ev];refine⟨xs.map Sl.let++[nn],fr,rfl,by rw[Xd,X3];exact ab,wn,?_,λE' c ee C H' hm s'=>?_,λE' a ee y H' e2 e3 w' s'=>?_⟩
   ·rw[<-e1]at hf;rw[<-hf,X9]
    congr 1
    unfold letAll;rw[X9]
    congr 1
    rw[Xm,Xm];rfl
   ·subst ee;cases oq9 h1;obtain⟨w2,s2⟩:=stay wn2 s' ⟨λ_ z=>(nomatch z),Xs,λ_ z=>(nomatch z)⟩;exact xc _ _ rfl C L1 H' hm m1 w2 ((st.trans lc).trans s2)
   ·subst ee;cases oq9 h1;obtain⟨w2,s2⟩:=stay wn2 s' w';exact kk _ _ rfl y L1 H' e2 e3 m1 w2 ((st.trans lc).trans s2) λhq=>nomatch hq
end
theorem RepA.elems{K:Frag}{H:Hp}:∀{ds:List D} {xs:List V} {bs:List Addr},RepA K H true ds xs bs->∃T:List Sl,(∀t∈T,t.o=.no/\t.ok K H/\∀b∈t.as,b∈bs)/\∀b∈bs,∃t∈T,b∈t.as
 | [],_,_,h=>by
  unfold RepA at h;obtain⟨rfl,rfl⟩:=h;exact⟨[],(λ_ z=>nomatch z),λ_ z=>nomatch z⟩
 | d::ds,_,_,h=>by
  unfold RepA at h;obtain⟨x,r,b1,b2,rfl,rfl,h1,h2⟩:=h;obtain⟨T,i1,i2⟩:=RepA.elems h2;refine⟨⟨.no,d,x,b1⟩::T,λt ht=>?_,λb hb=>?_⟩
  ·rcases aD ht with rfl|ht
   ·exact⟨rfl,h1,λb hb=>ll9 _ hb⟩
   ·obtain⟨a,b,c⟩:=i1 t ht;exact⟨a,b,λy hy=>lr9 _ (c y hy)⟩
  ·rcases aA hb with hb|hb
   ·exact⟨_,X6,hb⟩
   ·obtain⟨t,a,b⟩:=i2 b hb;exact⟨t,lc9 _ a,b⟩
theorem World.nos{K:Frag}{H:Hp}{L:Ls}(w:World K H L):∀{T:List Sl},(∀t∈T,t.o=.no/\t.ok K H/\∀b∈t.as,b∉j8 L)->World K H (T.map some++L)/\(∀a∈j8 (T.map some++L),a∈j8 L)/\∀a∈jQ (T.map some++L),a∈jQ L\/∃t∈T,a∈t.as
 | [],_=>⟨w,λ_ h=>h,λ_ h=>.inl h⟩
 | t::T,h=>by
  obtain⟨w1,w2,w3⟩:=World.nos w (T:=T) λt ht=>h t (lc9 _ ht)
  obtain⟨a,b,c⟩:=h t X6;refine⟨w1.consNo b a λx hx z=>c x hx (w2 x z),λx hx=>?_,λx hx=>?_⟩
  ·rw[List.map_cons,List.cons_append,k3]at hx;rcases aA hx with hx|hx
   ·unfold Sl.own at hx;rw[a]at hx;exact nomatch hx
   ·exact w2 x hx
  ·rw[List.map_cons,List.cons_append,qY]at hx;rcases aA hx with hx|hx
   ·unfold Sl.frz at hx;rw[a]at hx;exact .inr ⟨t,X6,hx⟩
   ·rcases w3 x hx with q|⟨t',q1,q2⟩
    ·exact .inl q
    ·exact .inr ⟨t',lc9 _ q1,q2⟩
theorem wwx{X:Cx}{Z:Fx0}{tg e:Expr}{i:Nat}(h:PE X e (z4 i))(hK:autoParam (X.K=Z.K) Ŕ):QIS X Z true tg (itW i) e:=λpins s σ H R I ah=>ex8 ah λE L r m w hc xc k=>by
 refine(hK▸qvu h) pins s σ H R I ?_;unfold itW at hc
 split at hc
 rotate_left
 ·cases hc
 rename_i ds hE;cases oq9 hc;obtain⟨x,a1,a2,a3,a4⟩:=m.get hE;have iy:=w.ok x (v5 a1);obtain⟨a,xs,bs,ev,hH,has,lj,r3⟩:=W3 iy a3 (by rw[a2];exact λz=>nomatch z);have r3:RepA Z.K H true ds xs bs:=by rw[a2]at r3;exact r3
 have frb:∀b∈bs,b∈jQ L:=λb hb=>mem_frozen.mpr ⟨x,v5 a1,by unfold Sl.frz;rw[a2,has];exact hb⟩
 obtain⟨T,t1,t2⟩:=r3.elems;obtain⟨w1,w2,w3⟩:=World.nos w (T:=T) λt ht=>⟨(t1 t ht).1,(t1 t ht).2.1,λb hb z=>w.ds b z (frb b ((t1 t ht).2.2 b hb))⟩
 have again:∀H2:Hp,jY H H2->∃ys,SqL Z.K H2 a ys/\RepA Z.K H2 true ds ys bs:=λH2 hs=>by
  obtain⟨a',ys,cs,lh,hH',p9,_,r4⟩:=W3 (RepO.kp iy (Kp.of_same hs):x.ok Z.K H2) a3 (by rw[a2];exact λz=>nomatch z);have:a'=a:=by have:=lh.symm.trans ev;exact V.ref.inj this
  subst this;have:cs=bs:=by rw[has]at p9;injection p9 with _ q;exact q.symm
  subst this;exact⟨ys,.inl (.inl hH'),by rw[a2]at r4;exact r4⟩
 have pm:(T.map some++L).Perm (L++T.map some):=Zd;refine⟨x.v,a4,.inl ⟨a,xs,ev,.inl (.inl hH),λab=>k _ _ rfl (Itl Z.K a) T L H m (w1.perm pm) ⟨λ_ _ z _=>z,λb hb=>.inl (w2 b ?_),λb hb=>.inl ?_⟩ (by rw[r3.len];exact ab) (λ_=>ww) ⟨λt ht=>(t1 t ht).1,λj H2 _ hs hj=>?_,λH2 _ hs=>?_,λj H2 v H3 d _ hs hy f9=>?_⟩⟩⟩
 ·exact(Vk pm).symm.mem_iff.mp hb
 ·rcases w3 b ((jvg pm).symm.mem_iff.mp hb)with q|⟨t,q1,q2⟩
  ·exact q
  ·exact frb b ((t1 t q1).2.2 b q2)
 ·obtain⟨ys,s1,s2⟩:=again H2 (hs rfl);have hl:=s2.len;exact⟨ys,ys[j]'⋯,s1,X1 ⋯⟩
 ·obtain⟨ys,s1,s2⟩:=again H2 (hs rfl);exact⟨ys,s1,by rw[s2.len];exact Xb _⟩
 ·obtain⟨ys,s1,s2⟩:=again H2 (hs rfl);obtain⟨e3,hy⟩:=hy;subst e3;obtain⟨v',cp,f1,f2,f3⟩:=s2.get f9;have:v'=v:=by have:=hy ys s1;rw[f1]at this;exact oq9 this
  subst this;exact⟨⟨.no,d,v',cp⟩,rfl,rfl,rfl,ww,f2,λb hb=>t2 b (f3 b hb)⟩
section
variable {X:Cx}{Z:Fx0}{pn:List Nat}{q:Bool}{a b c:Ex}{tg e ea eb:Expr}{σ:L2.St}{H:Hp}{L:Ls}{E:En}{pos p:Pos}
variable {ae d9:Expr}{cu:List Expr}{scope:Scope}{N:List Str}{k:Nat}{R:List Nat}{it:Ev (List D)}{tt:Tg}{u:Ts}{o:Own}{q1 q2:Bool}
theorem vj1{i:Nat}{y:Str}{py ft:Pos}(N:List Str)(hN:X.N.Nodup)(hy:X.N[i]?=some y)(hx:Loc X.env.scope y)(hi:QIS X Z q tg it ae)
  (hg:∀cl C s0 H0 fp,QG (lcE X scope N cl C s0 H0 fp Z.EX) Z ((List.range R.length).map (k + ·)) tt tg) (ht:∀cl C s0 H0 fp,PTs (lcE X scope N cl C s0 H0 fp Z.EX) cu (tT Z q u)) (he:∀cl C s0 H0 fp,QE (lcE X scope N cl C s0 H0 fp Z.EX) Z q c d9)
  (gx:wY X Z.EX) (top:zj X) (hR:R.Nodup) (hr:∀j∈R,j<X.N.length) (hp:autoParam (i∉pn) ŕ)
  (mj:autoParam (swapsWith (.ListComp d9 [⟨tg,ae,cu,0⟩] scope pos) (some (.Name y py)) ft.line X.env=pure true) Ŕ)
  (hc:autoParam (X.calm=true) Ŕ) (hk:autoParam (scope.kind=.function) Ŕ) (gu:autoParam (Jz X.N X.env.scope scope N k R=true) Ŕ) (hs:autoParam (∀x,foldedSetIterable ae X.env x=pure x) Ŗ)
  (hf:autoParam (X.fn y=true\/X.env.scope.names.lookup y=some .local) ś):
  QS X Z pn (jq i (cLC o k R it tt u c)) (.Assign [.Name y py] (.ListComp d9 [⟨tg,ae,cu,0⟩] scope pos) ft):=
 vkz (q:=q) hp λpins s σ H D I hw=>kvw N k R hN hy hx hi hg ht he gx top mj hc hk gu hs hf pins s σ H D I (kqr I.len hR hr hw)
end
end Q
namespace Q
open PySem
theorem wky(n:Nat)(h:300<=n):(10:Nat) ^ 70<2 ^ n:=Xl (show(10:Nat) ^ 70<2 ^ 240 by decide) (Nat.pow_le_pow_right ⋯ ⋯)
theorem mul_l{o1 o2:Own}{a b:Int}(h1:-18446744073709551616<a)(h2:a<18446744073709551616):W7 (o1,.int a) (o2,.int b)=some (.dp,.int (a*b)):=by
 have:K4 a b=true:=by
  have:V4 a=true:=by unfold V4;rw[Xi (show -(2 ^ 64)<a by omega),Xi (show a<2 ^ 64 by omega)];rfl
  unfold K4;rw[this];rfl
 show(if K4 a b=true then _ else _)=_;rw[X8 this]
theorem mul_r{o1 o2:Own}{a b:Int}(h1:-18446744073709551616<b)(h2:b<18446744073709551616):W7 (o1,.int a) (o2,.int b)=some (.dp,.int (a*b)):=by
 have:K4 a b=true:=by
  have:V4 b=true:=by unfold V4;rw[Xi (show -(2 ^ 64)<b by omega),Xi (show b<2 ^ 64 by omega)];rfl
  unfold K4;rw[this,Bool.or_true];rfl
 show(if K4 a b=true then _ else _)=_;rw[X8 this]
theorem add_i{o1 o2:Own}{a b:Int}:kq (o1,.int a) (o2,.int b)=some (.dp,.int (a+b)):=rfl
theorem sub_i{a b:Int}:VQ (.int a) (.int b)=some (.int (a - b)):=rfl
theorem div_i{a b:Int}(h:0<b)(h2:b<10 ^ 70):wW (.int a) (.int b)=some (.int (a / b)):=by
 have hb:b.natAbs.log2<9000:=by
  exact(Nat.log2_lt ⋯).mpr (Nat.lt_trans (show b.natAbs<10 ^ 70 by omega) (wky 9000 ⋯))
 show(if 0<b/\b.natAbs.log2<9000 then some (a / b)else none).map _=_;rw[X8 ⟨h,hb⟩];rfl
theorem mod_i{a b:Int}(h:0<b):k9 (.int a) (.int b)=some (.int (a % b)):=by
 show(if 0<b then some (a % b)else none).map _=_;rw[X8 h];rfl
theorem pow_i{a b:Int}(h1:0<=b)(h2:b<=1000)(h3:-1000000<a)(h4:a<1000000):Vq (.int a) (.int b)=some (.int (a ^ b.toNat)):=by
 show(if 0<=b/\b<=1000000/\a.natAbs<2 ^ 64 then some (a ^ b.toNat)else none).map _=_;rw[X8 ⟨h1,⋯,⋯⟩];rfl
theorem Zq{a b:Int}:fEq (.int a) (.int b)=some (.bl (a==b)):=rfl
theorem lt_ii{a b:Int}:fLt (.int a) (.int b)=some (.bl (decide (a<b))):=rfl
theorem le_ii{a b:Int}:fLe (.int a) (.int b)=some (.bl (decide (a<=b))):=rfl
theorem ge_ii{a b:Int}:fGe (.int a) (.int b)=some (.bl (decide (b<=a))):=rfl
theorem wQ{xs:List D}{i:Int}{d:D}(h0:0<=i)(h:xs[i.toNat]?=some d):jW (.lst xs) (.int i)=some d:=by
 show((ixN xs.length i).bind λj=>xs[j]?)=some d;have hl:i.toNat<xs.length:=(List.getElem?_eq_some_iff.mp h).1;unfold ixN;rw[X8 h0,X8 ⋯];exact h
theorem xj0{xs:List D}{i:Int}{d:D}(h0:0<=i)(h:xs[i.toNat]?=some d):jW (.tup xs) (.int i)=some d:=by
 show((ixN xs.length i).bind λj=>xs[j]?)=some d;have hl:i.toNat<xs.length:=(List.getElem?_eq_some_iff.mp h).1;unfold ixN;rw[X8 h0,X8 ⋯];exact h
theorem len_l{xs:List D}:v6 (.lst xs)=some (.int xs.length):=rfl
theorem len_t{xs:List D}:v6 (.tup xs)=some (.int xs.length):=rfl
theorem vqv{o1 o2:Own}{a b:List D}(h1:o1≠.dp)(h2:o2≠.dp)(hl:a.length+b.length<10000):kq (o1,.lst a) (o2,.lst b)=some (.rt,.lst (a++b)):=by
 show(if a.length+b.length<=big/\qw (o1,.lst a)/\qw (o2,.lst b)then _ else _)=_;rw[X8 ⟨by unfold big;omega,by cases o1<;>simp_all [qw],by cases o2<;>simp_all [qw]⟩]
theorem tup_l{o:Own}{xs:List D}(h:o≠.dp):K1 (o,.lst xs)=some (.no,.tup xs):=by
 show(if qw (o,.lst xs)then _ else _)=_;rw[X8 (by cases o<;>simp_all [qw])]
abbrev XP:=Str->Prop
theorem nd{α:Sort _}{a b:α}(h:a=b):a=b:=h
@[irreducible] noncomputable def Eo {α:Type} (m:Option (Res α)) (P:En->α->Prop) (X:XP):Prop:=match m with
 |some (.ok E a)=>P E a|some (.exc _ c)=>X c|none=>False
@[irreducible] noncomputable def Vo {α:Type} (m:Option α) (P:α->Prop):Prop:=match m with
 |some a=>P a|none=>False
@[irreducible] noncomputable def Oo (f:Fn) (xs:List Sd) (P:Sd->Prop) (X:XP):Prop:=match f xs with
 |some (.ok _ y)=>P y|some (.exc _ c)=>X c|none=>False
@[irreducible] noncomputable def Po (r:Option Fl) (N C:En->Prop) (R:Sd->Prop) (X:XP):Prop:=match r with
 |some (.nx E)=>N E|some (.ct E)=>C E|some (.rt _ x)=>R x|some (.xc _ c)=>X c|_=>False
abbrev noX:XP:=λ_=>False
section
variable {α β:Type}{P:En->α->Prop}{X:XP}{N C:En->Prop}{R:Sd->Prop}{E:En}
theorem QZ{a:α}:Eo (some (.ok E a)) P X=P E a:=nd (by ac_rfl)
theorem k5{m:Option (Res β)}{f:En->β->Option (Res α)}:Eo (bnd m f) P X=Eo m (λE a=>Eo (f E a) P X) X:=by
 cases m with|none=>ac_rfl|some r=>cases r<;>ac_rfl
theorem vo_some{a:α}{P:α->Prop}:Vo (some a) P=P a:=nd (by ac_rfl)
theorem vo_map{x:Option β}{f:β->α}{P:α->Prop}:Vo (x.map f) P=Vo x (λa=>P (f a)):=by cases x<;>ac_rfl
theorem z6{x:Option α}:Eo (val E x) P X=Vo x (P E):=by cases x<;>ac_rfl
theorem vw9{E:En}:Po (some (.nx E)) N C R X=N E:=nd (by ac_rfl)
theorem zX{m:Option (Res α)}{f:En->α->Option Fl}:Po (ofE m f) N C R X=Eo m (λE a=>Po (f E a) N C R X) X:=by
 cases m with|none=>ac_rfl|some r=>cases r<;>ac_rfl
theorem vq4{a b:Sm}:Po (j7 a b E) N C R X=Po (a E) (λE=>Po (b E) N C R X) C R X:=by
 unfold j7 Po;cases a E with|none=>ac_rfl|some r=>cases r<;>ac_rfl
theorem wk5{x:Option β}{f:β->Fl}:Po (x.map f) N C R X=Vo x (λa=>Po (some (f a)) N C R X):=by cases x<;>ac_rfl
theorem Eo.mono{m:Option (Res α)}{P':En->α->Prop}(h:Eo m P X)(k:∀E a,P E a->P' E a):Eo m P' X:=by
 cases m with
 |none=>exists h
 |some r=>cases r with|ok E a=>exists k E a h|exc E c=>exists h
theorem Oo.mono{f:Fn}{xs:List Sd}{P P':Sd->Prop}(h:Oo f xs P X)(k:∀y,P y->P' y):Oo f xs P' X:=by
 unfold Oo at h ⊢;cases hf:f xs with
 |none=>rw[hf]at h;exists h
 |some r=>rw[hf]at h;cases r with|ok E a=>exists k a h|exc E c=>exists h
theorem Oo.out{f:Fn}{xs:List Sd}{P:Sd->Prop}(h:Oo f xs P noX):∃E y,f xs=some (.ok E y)/\P y:=by
 unfold Oo at h;cases hf:f xs with
 |none=>rw[hf]at h;exists (show False from h).elim
 |some r=>rw[hf]at h;cases r with|ok E a=>with_unfolding_all exact⟨E,a,rfl,h⟩|exc E c=>exists (show False from h).elim
theorem kJ{n:Nat}{b:Sm}{xs:List Sd}{P:Sd->Prop}(h:Po (b (xs.map some++List.replicate (n - xs.length) none)) (λ_=>P (.dp,.non)) (λ_=>False) P X):Oo (fn n b) xs P X:=by
 unfold Oo fn;unfold Po at h;cases hb:b (xs.map some++List.replicate (n - xs.length) none)with|none=>rw[hb]at h;exists h|some r=>rw[hb]at h;cases r<;>exists h
theorem vxm{f:Fn}{cs:List Ex}{P:En->Sd->Prop}:Eo (jz f cs E) P X=Eo (qW cs E) (λE xs=>Oo f (letAll xs) (P E) X) X:=by
 unfold jz;rw[k5]
 congr 1
 funext E xs;unfold Oo;cases f (letAll xs)with|none=>ac_rfl|some r=>cases r<;>ac_rfl
theorem vk0{f:Fn}{cs:List Ex}{P:En->Sd->Prop}:Eo (kx5 f cs E) P X=Eo (qW cs E) (λE xs=>Oo f (letAll xs) (λy=>y.2.pure=true/\P E (.dp,y.2)) X) X:=by
 unfold kx5;rw[k5]
 congr 1
 funext E xs;unfold Oo;cases f (letAll xs)with
 | none=>ac_rfl
 | some r=>
  cases r with
  |exc=>ac_rfl
  |ok E1 y=>
   dsimp only
   by_cases hp:y.2.pure=true
   ·rw[X8 hp];with_unfolding_all exact propext ⟨λh=>⟨hp,h⟩,λh=>h.2⟩
   ·rw[Xf hp];with_unfolding_all exact propext ⟨λh=>(show False from h).elim,λh=>hp h.1⟩
def xj5(d:D){α:Type}(a b:Option α):Option α:=match d with
 |.bl k=>if k=true then a else b|_=>none
theorem vxy(a b:Ex):Jx a b E=bnd (a E) λE x=>xj5 x.2 (b E) (some (.ok E (.dp,.bl false))):=by
 unfold Jx xj5
 congr 1
 funext E x;cases x.2 with|bl k=>cases k<;>ac_rfl|_=>ac_rfl
theorem kxv{tg:Tg}{b:Sm}(I:En->List D->Prop)(hs:∀E d ds,I E (d::ds)->Vo (tg.put d E) λE1=>Po (b E1) (λE2=>I E2 ds) (λE2=>I E2 ds) R X)(h1:∀E,I E []->N E):∀ds E,I E ds->Po (JV tg b ds E) N C R X
 | [],E,h=>by exists h1 E h
 | d::ds,E,h=>by
  have h2:=hs E d ds h;unfold JV;cases hp:tg.put d E with
  | none=>rw[hp]at h2;exists (show False from h2).elim
  | some E1=>
   rw[hp]at h2;have h2:Po (b E1) (λE2=>I E2 ds) (λE2=>I E2 ds) R X:=by exists h2
   dsimp only;cases hb:b E1 with
   |none=>rw[hb]at h2;exists (show False from h2).elim
   |some r=>
    rw[hb]at h2;cases r with|nx E2=>exists kxv I hs h1 ds E2 h2|ct E2=>exists kxv I hs h1 ds E2 h2|rt E2 x=>exists h2|xc E2 c=>exists h2|bk E2=>exists (show False from h2).elim
theorem xY{it:Ev (List D)}{tg:Tg}{b:Sm}(I:En->List D->Prop)(h0:Eo (it E) I X)(hs:∀E d ds,I E (d::ds)->Vo (tg.put d E) λE1=>Po (b E1) (λE2=>I E2 ds) (λE2=>I E2 ds) R X)(h1:∀E,I E []->N E):Po (vQ it tg b E) N C R X:=by
 show Po (ofE (it E) λE ds=>JV tg b ds E) N C R X;rw[zX]
 exists h0.mono λE ds h=>kxv I hs h1 ds E h
theorem jzq{t:Ts}{b:Sm}(I:Nat->En->Prop)(hs:∀n E,I n E->Eo (t E) (λE1 k=>if k=true then Po (b E1) (λE2=>∃m,m<n/\I m E2) (λE2=>∃m,m<n/\I m E2) R X else N E1) X):∀n E,I n E->Po (sWhile t b E) N C R X:=by
 intro n
 induction n using Nat.strongRecOn with
 | _ n ih=>
  intro E h;have h2:=hs n E h;rw [sWhile];cases ht:t E with
  | none=>rw[ht]at h2;exists (show False from h2).elim
  | some r=>
   rw [ht]at h2;cases r with
   | exc E1 c=>exists h2
   | ok E1 k=>
    cases k with
    | false=>exists h2
    | true=>
     have h2:Po (b E1) (λE2=>∃m,m<n/\I m E2) (λE2=>∃m,m<n/\I m E2) R X:=by exists h2
     dsimp only;cases hb:b E1 with
     |none=>rw[hb]at h2;exists (show False from h2).elim
     |some r=>
      rw[hb]at h2;cases r with|nx E2=>exact(show ∃m,m<n/\I m E2 by exists h2).elim λm hh=>ih m hh.1 E2 hh.2|ct E2=>exact(show ∃m,m<n/\I m E2 by exists h2).elim λm hh=>ih m hh.1 E2 hh.2|rt E2 x=>exists h2|xc E2 c=>exists h2|bk E2=>exists (show False from h2).elim
theorem qxl{tg:Tg}{t:Ts}{c:Ex}{P:En->List Sd->Prop}(J:En->List D->List Sd->Prop)(hs:∀B d ds aa,J B (d::ds) aa->Vo (tg.put d B) λB1=>Eo (t B1) (λB2 k=>if k=true then Eo (c B2) (λB3 y=>J B3 ds (aa++[y])) X else J B2 ds aa) X)(h1:∀B aa,J B [] aa->P B aa):∀ds B aa,J B ds aa->Eo (lcL tg t c ds B aa) P X
 | [],B,aa,h=>by exists h1 B aa h
 | d::ds,B,aa,h=>by
  have h2:=hs B d ds aa h;unfold lcL;cases hp:tg.put d B with
  | none=>rw[hp]at h2;exists (show False from h2).elim
  | some B1=>
   rw[hp]at h2;have h2:Eo (t B1) (λB2 k=>if k=true then Eo (c B2) (λB3 y=>J B3 ds (aa++[y])) X else J B2 ds aa) X:=by exists h2
   dsimp only;rw[k5];refine h2.mono λB2 k h3=>?_
   cases k with
   |false=>exists qxl J hs h1 ds B2 aa h3
   |true=>
    show Eo (bnd (c B2) _) P X;rw[k5]
    exists Eo.mono (P:=λB3 y=>J B3 ds (aa++[y])) h3 λB3 y h4=>qxl J hs h1 ds B3 _ h4
theorem KY{o:Own}{k:Nat}{r:List Nat}{it:Ev (List D)}{tg:Tg}{t:Ts}{c:Ex}{P:En->Sd->Prop}(J:En->En->List D->List Sd->Prop)(h0:Eo (it E) (λE1 ds=>J E1 (Kx k r E1) ds []) X)
  (hs:∀E1 B d ds aa,J E1 B (d::ds) aa->Vo (tg.put d B) λB1=>Eo (t B1) (λB2 k=>if k=true then Eo (c B2) (λB3 y=>J E1 B3 ds (aa++[y])) X else J E1 B2 ds aa) X) (h1:∀E1 B aa,J E1 B [] aa->Eo (mkL o (J6 k r B E1) aa) P X):Eo (cLC o k r it tg t c E) P X:=by
 unfold cLC;rw[k5];refine h0.mono λE1 ds hJ=>?_
 have:=qxl (P:=λB aa=>Eo (mkL o (J6 k r B E1) aa) P X) (J E1) (hs E1) (h1 E1) ds _ _ hJ;cases hl:lcL tg t c ds (Kx k r E1) []with|none=>rw[hl]at this;exists (show False from this).elim|some q=>rw[hl]at this;cases q<;>exists this
end
theorem mulT_i{o1:Own}{a:Int}{y:Sd}:xW (o1,.int a) y=W7 (o1,.int a) y:=by
 unfold xW;ac_rfl
def sl(q:Option (Option Sd)):Option Sd:=match q with
 |some (some x)=>some x|_=>none
theorem sl_some{x:Sd}:sl (some (some x))=some x:=nd (by ac_rfl)
def xj4(d:D)(a b:Prop):Prop:=match d with
 |.bl k=>if k=true then a else b|_=>False
theorem andP_bl{k:Bool}{a b:Prop}:xj4 (.bl k) a b=if k=true then a else b:=nd (by ac_rfl)
def Wo{α:Type}(m:Option α)(E:En)(P:En->α->Prop):Prop:=Vo m (P E)
theorem wo_some{α:Type}{a:α}{E:En}{P:En->α->Prop}:Wo (some a) E P=P E a:=by unfold Wo;exact vo_some
theorem wo_map{α β:Type}{x:Option β}{f:β->α}{E:En}{P:En->α->Prop}:Wo (x.map f) E P=Wo x E (λE a=>P E (f a)):=by unfold Wo;exact vo_map
def Oe(f:Fn)(xs:List Sd)(E:En)(P:En->Sd->Prop)(X:XP):Prop:=Oo f xs (P E) X
def intP(d:D)(P:Int->Prop):Prop:=match d with
 |.int i=>P i|_=>False
def Ie(d:D)(E:En)(P:En->Int->Prop):Prop:=intP d (P E)
theorem ie_i{i:Int}{E:En}{P:En->Int->Prop}:Ie (.int i) E P=P E i:=nd (by ac_rfl)
section
variable {P:En->Sd->Prop}{T:En->Bool->Prop}{X:XP}{N C:En->Prop}{R:Sd->Prop}{E:En}{e:Option Sd}{a b c:Ex}{t u:Ts}{i:Nat}
theorem w_seq{a b:Sm}:Po (j7 a b (e::E)) N C R X=Po (a (e::E)) (λE=>Po (b E) N C R X) C R X:=vq4
theorem w_asg:Po (jq i c (e::E)) N C R X=Eo (c (e::E)) (λE x=>N (E.set i (some x))) X:=by unfold jq;rw[zX];ac_rfl
theorem w_ret:Po (k7 c (e::E)) N C R X=Eo (c (e::E)) (λ_ x=>R x) X:=by unfold k7;rw[zX];ac_rfl
theorem w_pass:Po (wv (e::E)) N C R X=N (e::E):=nd (by ac_rfl)
theorem w_if{a b:Sm}:Po (sIf t a b (e::E)) N C R X=Eo (t (e::E)) (λE k=>if k=true then Po (a E) N C R X else Po (b E) N C R X) X:=by
 unfold sIf;rw[zX];congr 1;funext E k;cases k<;>ac_rfl
theorem w_tup{is:List Nat}:Po (wj1 is c (e::E)) N C R X=Eo (c (e::E)) (λE x=>Vo (Tg.put (.t is) x.2 E) N) X:=by
 unfold wj1;rw[zX];congr 1;funext E x;rw[wk5];ac_rfl
theorem w_vV:Eo (vV i (e::E)) P X=Wo (sl (e::E)[i]?) (e::E) P:=by
 unfold vV Wo;cases(e::E)[i]? with|none=>ac_rfl|some q=>cases q<;>ac_rfl
theorem w_cV:Eo (cV i (e::E)) P X=Wo (sl (e::E)[i]?) (e::E) (λE x=>P (E.set i (some (.no,x.2))) (.no,x.2)):=by
 unfold cV Wo;cases(e::E)[i]? with|none=>ac_rfl|some q=>cases q<;>ac_rfl
theorem w_cMv:Eo (cMv i (e::E)) P X=Wo (sl (e::E)[i]?) (e::E) (λE x=>P (E.set i none) x):=by
 unfold cMv Wo;cases(e::E)[i]? with|none=>ac_rfl|some q=>cases q<;>ac_rfl
theorem w_cC{d:D}:Eo (cC d (e::E)) P X=P (e::E) (.dp,d):=nd (by ac_rfl)
theorem w_vE:Eo (vE c (e::E)) P X=Eo (c (e::E)) (λE x=>P E (.no,x.2)) X:=by unfold vE;rw[k5];ac_rfl
theorem w_cH:Eo (cH c (e::E)) P X=Eo (c (e::E)) (λE x=>if x.1=.no then P E (.no,x.2)else if x.2.pure=true then P E (.dp,x.2)else False) X:=by
 unfold cH;rw[k5]
 congr 1
 funext E x
 by_cases h:x.1=.no
 ·rw[X8 h,X8 h];ac_rfl
 ·rw[Xf h,Xf h]
  by_cases h2:x.2.pure=true
  ·rw[X8 h2,X8 h2];ac_rfl
  ·rw[Xf h2,Xf h2];ac_rfl
theorem w_f1{f:Sd->Option Sd}:Eo (cF1 f a (e::E)) P X=Eo (a (e::E)) (λE x=>Wo (f x) E P) X:=by
 unfold cF1;rw[k5];congr 1;funext E x;exact z6
theorem w_f2{f:Sd->Sd->Option Sd}:Eo (cF2 f a b (e::E)) P X=Eo (a (e::E)) (λE x=>Eo (b E) (λE y=>Wo (f x y) E P) X) X:=by
 unfold cF2;rw[k5];congr 1;funext E x;rw[k5];congr 1;funext E y;exact z6
theorem w_ix:Eo (jv a b (e::E)) P X=Eo (a (e::E)) (λE x=>Eo (b E) (λE y=>Wo (jW x.2 y.2) E (λE d=>P E (sub x.1,d))) X) X:=by
 unfold jv;rw[k5];congr 1;funext E x;rw[k5];congr 1;funext E y;rw[z6];exact vo_map
theorem w_tE:Eo (tE c (e::E)) T X=Eo (c (e::E)) (λE x=>Wo (truth x.2) E T) X:=by
 unfold tE;rw[k5];congr 1;funext E x;exact z6
theorem w_tEQ:Eo (tEQ c (e::E)) T X=Eo (c (e::E)) (λE x=>Wo (truthQ x.2) E T) X:=by
 unfold tEQ;rw[k5];congr 1;funext E x;exact z6
theorem w_tNot:Eo (tNot t (e::E)) T X=Eo (t (e::E)) (λE k=>T E (!k)) X:=by unfold tNot;rw[k5];ac_rfl
theorem w_tAnd:Eo (tAnd t u (e::E)) T X=Eo (t (e::E)) (λE k=>if k=true then Eo (u E) T X else T E false) X:=by
 unfold tAnd;rw[k5];congr 1;funext E k;cases k<;>ac_rfl
theorem w_tOr:Eo (tOr t u (e::E)) T X=Eo (t (e::E)) (λE k=>if k=true then T E true else Eo (u E) T X) X:=by
 unfold tOr;rw[k5];congr 1;funext E k;cases k<;>ac_rfl
theorem w_tYes:Eo (tYes (e::E)) T X=T (e::E) true:=nd (by ac_rfl)
theorem w_cIf:Eo (cIf t a b (e::E)) P X=Eo (t (e::E)) (λE k=>if k=true then Eo (a E) P X else Eo (b E) P X) X:=by
 unfold cIf;rw[k5];congr 1;funext E k;cases k<;>ac_rfl
theorem w_cAnd:Eo (Jx a b (e::E)) P X=Eo (a (e::E)) (λE x=>xj4 x.2 (Eo (b E) P X) (P E (.dp,.bl false))) X:=by
 rw[vxy,k5];congr 1;funext E x;cases x.2 with|bl k=>cases k<;>ac_rfl|_=>ac_rfl
theorem w_cNotQ:Eo (vk9 c (e::E)) P X=Eo (c (e::E)) (λE x=>Wo (truthQ x.2) E (λE k=>P E (.dp,.bl (!k)))) X:=by
 unfold vk9;rw[k5];congr 1;funext E x;rw[z6];exact vo_map
theorem w_call{f:Fn}{cs:List Ex}:Eo (jz f cs (e::E)) P X=Eo (qW cs (e::E)) (λE xs=>Oe f (letAll xs) E P X) X:=by exists vxm
theorem w_callB{f:Fn}{cs:List Ex}:Eo (kx5 f cs (e::E)) P X=Eo (qW cs (e::E)) (λE xs=>Oe f (letAll xs) E (λE y=>y.2.pure=true/\P E (.dp,y.2)) X) X:=by exists vk0
theorem w_partN{P:En->Option Int->Prop}:Eo (Vx none (e::E)) P X=P (e::E) none:=nd (by ac_rfl)
theorem w_partS{P:En->Option Int->Prop}:Eo (Vx (some c) (e::E)) P X=Eo (c (e::E)) (λE x=>Ie x.2 E (λE i=>P E (some i))) X:=by
 show Eo (bnd (c (e::E)) _) P X=_;rw[k5];congr 1;funext E x;unfold Ie;cases x.2<;>ac_rfl
theorem w_sl{lo hi:Option Ex}:Eo (cSl a lo hi (e::E)) P X=Eo (a (e::E)) (λE x=>Eo (Vx lo E) (λE l=>Eo (Vx hi E) (λE h=>Wo (fSl x l h) E P) X) X) X:=by
 unfold cSl;rw[k5];congr 1;funext E x;rw[k5];congr 1;funext E l;rw[k5];congr 1;funext E h;exact z6
theorem w_idx:Eo (WQ a b (e::E)) P X=Eo (a (e::E)) (λE x=>if isSq x.2=true then Eo (b E) (λE y=>Wo (kws x.2 y.2) E (λE d=>P E (.dp,d))) X else False) X:=by
 unfold WQ;rw[k5];congr 1;funext E x;cases isSq x.2 with
 |false=>ac_rfl
 |true=>
  show Eo (bnd (b E) _) P X=_;rw[k5];rw[X8 rfl]
  congr 1;funext E y;rw[z6];unfold pu2;exact vo_map
theorem w_itS{P:En->List D->Prop}:Eo (itS c (e::E)) P X=Eo (c (e::E)) (λE x=>Wo (seqOf x.2) E P) X:=by
 unfold itS;rw[k5]
 congr 1
 funext E x;exact z6
end
theorem args_nil{e:Option Sd}{E:En}{P:En->List Sd->Prop}{X:XP}:Eo (qW [] (e::E)) P X=P (e::E) []:=nd (by ac_rfl)
theorem args_cons{e:Option Sd}{E:En}{c:Ex}{cs:List Ex}{P:En->List Sd->Prop}{X:XP}:Eo (qW (c::cs) (e::E)) P X=Eo (c (e::E)) (λE x=>Eo (qW cs E) (λE xs=>P E (x::xs)) X) X:=by
 show Eo (bnd (c (e::E)) λE x=>bnd (qW cs E) λE xs=>some (.ok E (x::xs))) P X=_;rw[k5]
 congr 1
 funext E x;rw[k5]
 ac_rfl
theorem eo_tup{e:Option Sd}{E:En}{cs:List Ex}{P:En->Sd->Prop}{X:XP}:Eo (qz .no cs (e::E)) P X=Eo (qW cs (e::E)) (λE xs=>P E (.no,.tup (xs.map (·.2)))) X:=by
 unfold qz;rw[k5]
 ac_rfl
theorem eo_lst{e:Option Sd}{E:En}{cs:List Ex}{P:En->Sd->Prop}{X:XP}:Eo (wx .rt cs (e::E)) P X=Eo (qW cs (e::E)) (λE xs=>P E (.rt,.lst (xs.map (·.2)))) X:=by
 unfold wx;rw[k5]
 ac_rfl
theorem vx9{c:Ex}{E:En}{P:En->List D->Prop}{X:XP}(h:Eo (c E) (λE x=>∃n:Int,x.2=.int n/\n<=1000/\-1000<=n/\P E (k8 0 n)) X):Eo (xk c E) P X:=by
 unfold xk;rw[k5];refine h.mono ?_;rintro E ⟨o,d⟩ ⟨n,rfl,h1,h2,h3⟩;have:x9 n=true:=by unfold x9;rw[Xi ⋯,Xi ⋯];ac_rfl
 show Eo (if x9 n=true/\n.toNat<=big then _ else _) P X;rw[X8 ⟨this,by unfold big;omega⟩]
 exists h3
theorem wvc{i:Nat}{c:Ex}{E:En}{o:Own}{xs:List D}{N C:En->Prop}{R:Sd->Prop}{X:XP}(h0:E[i]?=some (some (o,.lst xs)))
  (h:Eo (c E) (λE1 x=>∃o ys,E1[i]?=some (some (o,.lst ys))/\o≠.no/\ys.length<10000/\N (E1.set i (some (if o=.dp/\vX x then .dp else .rt,.lst (ys++[x.2]))))) X):Po (vJ vW i c E) N C R X:=by
 unfold vJ;rw[h0,X8 (show Kw (some (some (o,.lst xs)))=true from rfl),zX];refine h.mono ?_;rintro E1 x ⟨o,ys,h1,h2,h3,h4⟩;rw[h1];dsimp only;have hg:vW ys x.2=some (ys++[x.2]):=by unfold vW;rw[X8 (by unfold big;omega)]
 rw[Xf h2,hg]
 exists h4
theorem zJ{i:Nat}{c:Ex}{E:En}{xs:List D}{N C:En->Prop}{R:Sd->Prop}{X:XP}(h0:E[i]?=some (some (.rt,.lst xs)))
  (h:Eo (c E) (λE1 x=>∃ys,E1[i]?=some (some (.rt,.lst ys))/\ys.length<10000/\N (E1.set i (some (.rt,.lst (ys++[x.2]))))) X):Po (vJ vW i c E) N C R X:=
 wvc h0 (h.mono λE1 x ⟨ys,h1,h2,h3⟩=>⟨.rt,ys,h1,⋯,h2,by rw[Xf (by rintro ⟨z,_⟩;cases z)];exists h3⟩)
theorem rng_ok{n:Int}(h1:-1000<=n)(h2:n<=1000):(x9 n=true/\n.toNat<=big)=True:=by
 have:x9 n=true:=by unfold x9;rw[Xi ⋯,Xi ⋯];ac_rfl
 with_unfolding_all exact eq_true ⟨this,by unfold big;omega⟩
theorem kv0{α:Type}{p:Prop}[Decidable p]{a:Option (Res α)}{P:En->α->Prop}{X:XP}:Eo (if p then a else none) P X=(p/\Eo a P X):=by
 by_cases h:p
 ·rw[X8 h];with_unfolding_all exact propext ⟨λz=>⟨h,z⟩,λz=>z.2⟩
 ·rw[Xf h];with_unfolding_all exact propext ⟨λz=>z.elim,λz=>h z.1⟩
theorem w_R1{c:Ex}{e:Option Sd}{E:En}{P:En->List D->Prop}{X:XP}:Eo (xk c (e::E)) P X=Eo (c (e::E)) (λE x=>Ie x.2 E λE n=>(x9 n=true/\n.toNat<=big)/\P E (k8 0 n)) X:=by
 unfold xk;rw[k5];congr 1;funext E x;cases x.2 with|int n=>exists kv0|_=>ac_rfl
theorem w_LR1{c:Ex}{e:Option Sd}{E:En}{P:En->Sd->Prop}{X:XP}:Eo (VX c (e::E)) P X=Eo (c (e::E)) (λE x=>Ie x.2 E λE n=>(x9 n=true/\n.toNat<=big)/\P E (.rt,.lst (k8 0 n))) X:=by
 unfold VX;rw[k5];congr 1;funext E x;cases x.2 with|int n=>exists kv0|_=>ac_rfl
theorem wkx{E:En}{ys:List Sd}{P:En->Sd->Prop}{X:XP}(h:ys.all vX=true):Eo (mkL .dp E ys) P X=P E (.dp,.lst (ys.map (·.2))):=by
 unfold mkL;rw[X8 rfl,X8 h];ac_rfl
theorem qqv{o:Own}{xs:List D}{lo hi:Option Int}(h:o≠.dp):fSl (o,.lst xs) lo hi=some (.rt,.lst (z8 xs lo hi)):=by
 show(if qw (o,.lst xs)then _ else _)=_;rw[X8 (by cases o<;>simp_all [qw])]
theorem sub_no:sub .no=.no:=nd (by ac_rfl)
theorem sub_rt:sub .rt=.no:=nd (by ac_rfl)
theorem sub_dp:sub .dp=.dp:=nd (by ac_rfl)
theorem Oo.use{ι:Sort _}{f:Fn}{xs:List Sd}{g:ι->Sd}{S:ι->Prop}{E:En}{P:En->Sd->Prop}{X:XP}(h:Oo f xs (λy=>∃i,y=g i/\S i) X)(k:∀i,S i->P E (g i)):Oe f xs E P X:=h.mono λy ⟨i,e,s⟩=>e▸k i s
theorem Oo.via{f:Fn}{xs:List Sd}{S:Sd->Prop}{E:En}{P:En->Sd->Prop}{X:XP}(h:Oo f xs S X)(k:∀y,S y->P E y):Oe f xs E P X:=h.mono k
theorem zx{E:En}{ys:List Sd}{P:En->Sd->Prop}{X:XP}:Eo (mkL .rt E ys) P X=P E (.rt,.lst (ys.map (·.2))):=nd (by ac_rfl)
theorem wk4{i:Nat}{c:Ex}{E:En}{o:Own}{xs:List D}{P:En->Sd->Prop}{X:XP}(h0:E[i]?=some (some (o,.lst xs)))
  (h:Eo (c E) (λE1 x=>∃(o:Own) (ys:List D) (k:Int) (d:D),E1[i]?=some (some (o,.lst ys))/\o≠.no/\x.2=.int k/\0<=k/\k<=1000/\ys[k.toNat]?=some d/\d.pure=true/\P (E1.set i (some (o,.lst (ys.eraseIdx k.toNat)))) (.dp,d)) X):Eo (wv5 i c E) P X:=by
 unfold wv5;rw[h0,X8 (show Kw (some (some (o,D.lst xs)))=true from rfl),k5];refine h.mono ?_;rintro E1 ⟨o',d'⟩ ⟨o,ys,k,d,h1,h2,e,k0,k1,h3,h4,h5⟩;have e:d'=.int k:=e;subst e;have hl:k.toNat<ys.length:=(List.getElem?_eq_some_iff.mp h3).1;have hx:ixN ys.length k=some k.toNat:=by unfold ixN;rw[X8 k0,X8 ⋯]
 have hs:x9 k=true:=by unfold x9;rw[Xi ⋯,Xi ⋯];ac_rfl
 rw[h1];dsimp only;rw[Xf h2,hx];dsimp only;rw[h3];dsimp only;rw[h4,hs,X8 ⋯,QZ];exact h5
theorem Oo.any{f:Fn}{xs:List Sd}{P:Sd->Prop}{X:XP}(h:Oo f xs P noX):Oo f xs P X:=by
 unfold Oo at *;cases hf:f xs with
 |none=>rw[hf]at h;exists h
 |some r=>rw[hf]at h;cases r with|ok E a=>exists h|exc E c=>exists (show False from h).elim
section
variable {c kc vc:Ex}{e:Option Sd}{E:En}{X:XP}{N C:En->Prop}{R:Sd->Prop}
theorem vzm{P:En->Sd->Prop}:Eo (vkb kc vc (e::E)) P X=Eo (kc (e::E)) (λE k=>Eo (vc E) (λE v=>v4 k.2=true/\P E (.rt,.dct [(k.2,v.2)])) X) X:=by
 unfold vkb;rw[k5];congr 1;funext E k;rw[k5];congr 1;funext E v;rw[kv0,QZ]
theorem vxs{i:Nat}(h:Eo (vc E) (λE1 v=>(∃kvs,E1[i]?=some (some (.rt,.dct kvs)))/\Eo (kc E1) (λE2 k=>∃kvs,E2[i]?=some (some (.rt,.dct kvs))/\v4 k.2=true/\(kvs.length<10000/\unm kvs=true)/\N (E2.set i (some (.rt,.dct (Qw kvs k.2 v.2))))) X) X):Po (qzu i kc vc E) N C R X:=by
 unfold qzu;rw[zX];refine h.mono ?_;rintro E1 v ⟨⟨kvs,e1⟩,h1⟩;rw[e1,X8 (show vxa (some (some (Own.rt,D.dct kvs)))=true from rfl),zX];refine h1.mono ?_;rintro E2 k ⟨kvs2,e2,h2,h3,h4⟩;rw[e2];dsimp only;rw[X8 ⟨h2,by unfold big;omega,h3.2⟩,vw9];exact h4
end
theorem wxh{x:D}{kvs:List (D×D)}(h:v4 x=true)(hu:unm kvs=true):V0 x (.dct kvs)=some (.bl (!decide (x∈kvs.map (·.1)))):=by
 unfold V0;dsimp only;rw[X8 ⟨h,hu⟩]
section
variable {a b c kc vc:Ex}{e:Option Sd}{E:En}{X:XP}{N C:En->Prop}{R:Sd->Prop}{P:En->Sd->Prop}
theorem vzl:Eo (wvq a b (e::E)) P X=Eo (a (e::E)) (λE x=>Eo (b E) (λE y=>Wo (Zx x.2 y.2) E (λE d=>P E (.dp,d))) X) X:=by
 unfold wvq;rw[k5];congr 1;funext E x;rw[k5];congr 1;funext E y;rw[z6];exact vo_map
theorem vzj{z:Str}:Eo (vka z c (e::E)) P X=Eo (c (e::E)) (λE x=>Wo (YY z x.2) E (λE d=>P E (.dp,d))) X:=by
 unfold vka;rw[k5];congr 1;funext E x;rw[z6];exact vo_map
theorem vv2{P:En->List D->Prop}:Eo (vjs c (e::E)) P X=Eo (c (e::E)) (λE x=>Wo (vv5 x.2) E (λE ds=>P E (J3 0 ds))) X:=by
 unfold vjs;rw[k5];congr 1;funext E x;rw[z6];exact vo_map
theorem v_is{i:Nat}{o:Own}{ds:List D}{P:En->List D->Prop}(h:E[i]?=some (some (o,.lst ds)))(hp:D.pures ds=true)(k:P E ds):Eo (itV i E) P X:=by
 unfold itV;rw[h];dsimp only;rw[X8 hp,QZ];exact k
theorem wjx{i:Nat}(h:Eo (vc E) (λE1 v=>Kw E1[i]?=true/\Eo (kc E1) (λE2 k=>∃(o:Own) (xs:List D) (j:Int) (n:Nat),E2[i]?=some (some (o,.lst xs))/\o≠.no/\k.2=.int j/\ixN xs.length j=some n/\N (E2.set i (some (.rt,.lst (xs.set n v.2))))) X) X):Po (wvt i kc vc E) N C R X:=by
 unfold wvt;rw[zX];refine h.mono ?_;rintro E1 v ⟨e1,h1⟩;rw[X8 e1,zX];refine h1.mono ?_;rintro E2 k ⟨o,xs,j,n,e2,ho,hk,hn,h4⟩;rw[e2,hk];dsimp only;rw[Xf ho,hn];dsimp only;rw[vw9];exact h4
theorem vqt{f:Int->Int->Int}{i:Nat}{o:Own}{x:Int}(h0:E[i]?=some (some (o,.int x)))(h:Eo (vc E) (λE1 v=>∃y:Int,v.2=.int y/\N (E1.set i (some (.dp,.int (f x y))))) X):Po (W1 f i vc E) N C R X:=by
 unfold W1;rw[h0];dsimp only;rw[zX];refine h.mono ?_;rintro E1 v ⟨y,e1,h1⟩;rw[e1];dsimp only;rw[vw9];exact h1
end
theorem wqi{k:Int}{kv:List (Int×Int)}:V9 (.int k) (Kk kv)=some (.bl (jZ kv k).isSome):=by
 unfold V9;rw[vqj]
theorem wxm{k v:Int}{kv:List (Int×Int)}(h:jZ kv k=some v):Zx (Kk kv) (.int k)=some (.int v):=by
 unfold Zx;rw[vqj];dsimp only;rw[h];rfl
theorem wqz{o:Own}{ps:List (Int×Int)}(h:ps.length<10000):VY (o,.lst (ps.map λp=>D.tup [.int p.1,.int p.2]))=some (.rt,Kk (ps.foldl (λkv p=>qX kv p.1 p.2) [])):=by
 unfold VY;dsimp only;rw[qvp];dsimp only;rw[X8 (by unfold big;omega)]
section
variable {a b c:Ex}{cs:List Ex}{e:Option Sd}{E:En}{X:XP}{N C:En->Prop}{R:Sd->Prop}{P:En->Sd->Prop}{i r:Nat}{p:List Nat}{d:D}{ds:List D}
theorem ww6:Eo (Zz c (e::E)) P X=Eo (c (e::E)) (λE x=>VZ x=true/\P E (.dp,x.2)) X:=by
 unfold Zz;rw[k5];congr 1;funext E x;rw[kv0,QZ]
end
end Q
namespace C
open PySem Q
noncomputable def m_read_by:Fn:=fn 8
  (j7 (sIf (tOr (tE (cF2 (f2First fIsNon) (vV 1) (vE (cC .non)))) (tE (cF2 (pu2 JQ) (vV 2) (jv (vV 0) (C9 0))))) (k7 (cC .non)) wv)
  (j7 (jq 4 (cH (jv (vV 1) (C9 1))))
  (j7 (jq 5 (cH (jv (jv (jv (jv (vV 0) (C9 1)) (jv (vV 1) (C9 0))) (C9 2)) (vE (WQ (jv (vV 0) (C9 0)) (vV 2))))))
  (j7 (jq 6 (cH (jv (vV 5) (vE (cIf (tE (cF2 (pu2 J7) (vV 3) (vV 4))) (WQ (vV 4) (vV 3)) (cF1 (pu1 v6) (vV 4)))))))
  (j7 (sIf (tE (cF2 (f2First fIsNon) (vV 6) (vE (cC .non)))) (k7 (cC .non)) wv)
  (j7 (jq 7 (cF2 kq (vV 4) (vE (qz .no [(cV 3)]))))
  (k7 (qz .no [(cH (jv (vV 6) (C9 0))),(cF1 K1 (vE (cLC .rt 1 [7] (itS (cH (jv (vV 6) (C9 1)))) (.n 0) tYes (cH (jv (vV 1) (vV 0))))))]))))))))
end C
local macro_rules
 | `(tactic| simp![$ts,*])=>`(tactic| simp(config:={ maxSteps:=1000000,failIfUnchanged:=false,implicitDefEqProofs:=true }) (disch:=omega) only[↓Q.w_seq,↓Q.w_asg,↓Q.w_ret,↓Q.w_pass,↓Q.w_if,↓Q.w_tup,↓Q.w_vV,↓Q.w_cV,↓Q.w_cMv,↓Q.w_cC,↓Q.w_vE,↓Q.w_cH,↓Q.w_f1,↓Q.w_f2,↓Q.w_ix,↓Q.w_tE,↓Q.w_tEQ,↓Q.w_tNot,↓Q.w_tAnd,↓Q.w_tOr,↓Q.w_tYes,↓Q.w_cIf,↓Q.w_cAnd,↓Q.w_cNotQ,↓Q.w_call,↓Q.w_callB,↓Q.w_partN,↓Q.w_partS,↓Q.w_sl,↓Q.w_idx,↓Q.w_itS,↓Q.w_R1,↓Q.w_LR1,Q.rng_ok,true_and,↓Q.ie_i,Q.isSq,Q.sl_some,↓Q.andP_bl,↓Q.vo_some,↓Q.vo_map,↓Q.wo_some,↓Q.wo_map,↓Q.args_nil,↓Q.args_cons,↓Q.eo_tup,↓Q.eo_lst,Q.letAll,Q.pu2,Q.pu1,Q.f2First,Q.fIsNon,Q.fNotNon,Q.isNon,List.map_cons,List.map_nil,List.cons_append,List.nil_append,Xp,List.length_nil,X3,Nat.reduceAdd,Nat.reduceSub,List.replicate,List.set_cons_zero,List.set_cons_succ,List.getElem?_cons_zero,List.getElem?_cons_succ,Q.len_l,Q.len_t,Q.lt_ii,Q.le_ii,Q.ge_ii,Q.add_i,Q.sub_i,Q.div_i,Q.mod_i,Q.pow_i,Q.mulT_i,Q.mul_l,Q.mul_r,Option.map_some,Q.truth,Q.truthQ,Q.D.pure,↓reduceIte,if_true,if_false,ite_true,ite_false,Q.sub_no,Q.sub_rt,Q.sub_dp,Bool.false_eq_true,reduceCtorEq,Bool.not_true,Bool.not_false,Q.Tg.put,Q.setAll,Q.seqOf,Q.lstOf,$ts,*])
namespace C
open Q PySem
abbrev most:Int:=1000*10 ^ 64
abbrev iL(ns:List Int):D:=.lst (ns.map D.int)
def Each(G:D->Sd->Prop):List D->List Sd->Prop
 |[],[]=>True|d::ds,y::ys=>G d y/\Each G ds ys|_,_=>False
theorem Each.snoc{G:D->Sd->Prop}{d:D}{y:Sd}(h:G d y):∀{ds:List D} {ys:List Sd},Each G ds ys->Each G (ds++[d]) (ys++[y])
 |[],[],_=>⟨h,trivial⟩|_::_,_::_,r=>⟨r.1,Each.snoc h r.2⟩
theorem VJ{X:XP}{E:En}{o:Own}{r:List Nat}{it:Ev (List D)}{c:Ex}{P:En->Sd->Prop}(a9:En)(G:D->Sd->Prop)(h0:Eo (it E) (λE1 ds=>r.map (at' E1)=a9/\(∀d∈ds,Eo (c (some (.no,d)::a9)) (λB y=>(∃q,B=q::a9)/\G d y) X)/\∀ys,Each G ds ys->Eo (mkL o (back r a9 (clr r E1)) ys) P X) X):Eo (cLC o 1 r it (.n 0) tYes c E) P X:=by
 refine KY (λE1 B ds2 aa=>∃ds ds1 q,ds=ds1++ds2/\B=q::a9/\Each G ds1 aa/\(∀d∈ds,Eo (c (some (.no,d)::a9)) (λB y=>(∃q,B=q::a9)/\G d y) X)/\∀ys,Each G ds ys->Eo (mkL o (back r a9 (clr r E1)) ys) P X) ?_ ?_ ?_
 ·refine h0.mono λE1 ds ⟨h1,h2,h3⟩=>⟨ds,[],none,rfl,by rw[<-h1];rfl,trivial,h2,h3⟩
 ·rintro E1 B d ds2 aa ⟨ds,ds1,q,e,rfl,hE,h2,h3⟩;have hp:(Tg.n 0).put d (q::a9)=some (some (.no,d)::a9):=rfl;rw[hp,vo_some,show tYes (some (Own.no,d)::a9)=some (.ok (some (Own.no,d)::a9) true)from rfl,QZ,X8 rfl];refine(h2 d (by rw[e];simp)).mono ?_;rintro B y ⟨⟨q',rfl⟩,hG⟩;exact⟨ds,ds1++[d],q',by rw[e];simp,rfl,hE.snoc hG,h2,h3⟩
 ·rintro E1 B aa ⟨ds,ds1,q,e,rfl,hE,h2,h3⟩;rw[Y7]at e;subst e;exact h3 aa hE
theorem kx0{G:D->Sd->Prop}{S:Int->Prop}(hG:∀d y,G d y->∃i,y.2=.int i/\S i):∀{ds:List D} {ys:List Sd},Each G ds ys->∃ps:List Int,ys.map (·.2)=ps.map D.int/\ps.length=ds.length/\∀p∈ps,S p
 |[],[],_=>⟨[],rfl,rfl,λ_ h=>nomatch h⟩
 |d::ds,y::ys,r=>by
  obtain⟨i,e,s⟩:=hG d y r.1;obtain⟨ps,h1,h2,h3⟩:=kx0 hG r.2;exact⟨i::ps,by simp[e,h1],by simp[h2],λp hp=>(aD hp).elim (λz=>z▸s) (h3 p)⟩
theorem qva{n:Int}:k8 n n=[]:=by unfold k8;rw[Int.sub_self];rfl
theorem kkb{k n:Int}(h:k<n):k8 k n=.int k::k8 (k+1) n:=by
 unfold k8;have:(n - k).toNat=(n - (k+1)).toNat+1:=by
  obtain⟨m,hm⟩:=Int.eq_ofNat_of_zero_le (show 0<=n - (k+1)by omega);rw[hm,show n - k=(m+1:Nat)by omega];rfl
 rw[this,List.range_succ_eq_map,List.map_cons,Xm]
 congr 1
 ·simp
 ·apply Yf;intro i _;simp only[Function.comp]
  congr 1
  omega
theorem JZ{k n:Int}{d:D}{ds:List D}(hk:k<=n)(h:d::ds=k8 k n):k<n/\d=.int k/\ds=k8 (k+1) n:=by
 by_cases hl:k<n
 ·rw[kkb hl]at h;injection h with h1 h2;exact⟨hl,h1,h2⟩
 ·have:k=n:=⋯
  subst this;rw[qva]at h;cases h
theorem KK{k n:Int}(hk:k<=n)(h:[]=k8 k n):k=n:=by
 by_cases hl:k<n
 ·rw[kkb hl]at h;cases h
 ·omega
theorem kz4{k n:Int}{d:D}(h:d∈k8 k n):∃i:Int,k<=i/\i<n/\d=.int i:=by
 unfold k8 at h;obtain⟨j,hj,rfl⟩:=aE h;have:=List.mem_range.mp hj;exact⟨k+j,⋯,⋯,rfl⟩
theorem vwz{k n:Int}(h:k<=n):((k8 k n).length:Int)=n - k:=by
 unfold k8;rw[X3,Yc];omega
theorem qji(z:Str)(i:Int)(h0:0<=i)(h1:i<z.cps.size):∃c:Nat,jW (.str z) (.int i)=some (.str ⟨#[c]⟩):=by
 have:i.toNat<z.cps.toList.length:=by rw[Xr];omega
 refine⟨z.cps.toList[i.toNat],?_⟩;show((ixN z.cps.size i).bind λj=>(z.cps.toList[j]?).map λc=>D.str ⟨#[c]⟩)=_;unfold ixN;rw[X8 h0,X8 h1];show((z.cps.toList[i.toNat]?).map λc=>D.str ⟨#[c]⟩)=_;rw[X1 this];rfl
theorem qzd{o1 o2:Own}{a b:Str}(h:a.cps.size+b.cps.size<=10000):kq (o1,.str a) (o2,.str b)=some (.dp,.str (a++b)):=by
 show(if a.cps.size+b.cps.size<=big then _ else _)=_;rw[X8 (by unfold big;omega)]
theorem kky(a b:Str):(a++b).cps.size=a.cps.size+b.cps.size:=by
 show(a.cps++b.cps).size=_;exact Array.size_append
theorem kxj:∀(ss:List Str),xK (ss.map D.str)=some ss
 |[]=>rfl|s::ss=>by rw[List.map_cons,xK,kxj ss];rfl
abbrev sL(ss:List Str):D:=.lst (ss.map D.str)
theorem ixI(ks:List Int)(S:Int->Prop)(hS:∀k∈ks,S k)(i:Int)(h0:0<=i)(h1:i<ks.length):∃v,jW (iL ks) (.int i)=some (.int v)/\S v/\ks[i.toNat]?=some v:=by
 have hl:i.toNat<ks.length:=⋯
 refine⟨ks[i.toNat],wQ h0 (by rw[Xh,X1 hl];rfl),hS _ (Xw hl),X1 hl⟩
theorem QY{n:Nat}:∀{ks:List D},(∀k∈ks,k.flat n=true)->D.flats n ks=true
 |[],_=>by cases n<;>simp[D.flats]|k::ks,h=>by rw[D.flats,h k X6,QY λe he=>h e (lc9 _ he)];rfl
mutual
theorem jx6:∀{n:Nat} (d:D),d.flat n=true->peq d d=true
 |n,.non,_=>by simp[peq]|n,.bl b,_=>by simp[peq]|n,.int b,_=>by simp[peq]|n,.str b,_=>by simp[peq]|0,.tup xs,h=>by simp[D.flat]at h|0,.lst xs,h=>by simp[D.flat]at h|n+1,.tup xs,h=>by rw[peq];exact peqs_refl xs (by simpa [D.flat]using h)|n+1,.lst xs,h=>by rw[peq];exact peqs_refl xs (by simpa [D.flat]using h)|n,.dct _,h=>by cases n<;>simp[D.flat]at h|n,.obj _ _,h=>by cases n<;>simp[D.flat]at h
theorem peqs_refl:∀{n:Nat} (ds:List D),D.flats n ds=true->peqs ds ds=true
 |_,[],_=>by simp[peqs]
 |n,d::ds,h=>by
  rw[D.flats,Bool.and_eq_true]at h;rw[peqs,jx6 d h.1,peqs_refl ds h.2];rfl
end
theorem vwr{d:D}(h:d.flat 40=true):fNe d d=some (.bl false):=by unfold fNe;rw[h,jx6 d h];rfl
theorem p0(a b:D):jW (.tup [a,b]) (.int 0)=some a:=rfl
theorem p1(a b:D):jW (.tup [a,b]) (.int 1)=some b:=rfl
theorem t0(a b c:D):jW (.tup [a,b,c]) (.int 0)=some a:=rfl
theorem t1(a b c:D):jW (.tup [a,b,c]) (.int 1)=some b:=rfl
theorem t2(a b c:D):jW (.tup [a,b,c]) (.int 2)=some c:=rfl
theorem WK{G:D->Sd->Prop}{h:D->D}(hG:∀d y,G d y->y.2=h d):∀{ds:List D} {ys:List Sd},Each G ds ys->ys.map (·.2)=ds.map h
 |[],[],_=>rfl|d::ds,y::ys,r=>by rw[List.map_cons,List.map_cons,hG d y r.1,WK hG r.2]
abbrev jJ(ss:List Str)(rs:List D):D:=.tup [sL ss,.lst rs]
theorem kql{α:Type}[DecidableEq α]:∀{l m:List α},l.Nodup->(∀x∈l,x∈m)->l.length<=m.length
 |[],_,_,_=>Yd _
 |a::l,m,nd,h=>by
  rw[Zg]at nd;have ha:=h a X6;have:=kql (l:=l) (m:=m.erase a) nd.2 λx hx=>(List.mem_erase_of_ne (by rintro rfl;exact nd.1 hx)).mpr (h x (lc9 _ hx))
  have hl:=List.length_erase_of_mem ha;have:0<m.length:=List.length_pos_of_mem ha;simp only[Xp];omega
theorem kwa{o:Own}{xs:List D}(h:o≠.dp):QX (o,.lst xs)=some (.rt,.lst xs):=by
 show(if qw (o,.lst xs)then _ else _)=_;rw[X8 (by cases o<;>simp_all [qw])]
theorem ZQ{z:Str}{ss:List Str}:JQ (.str z) (sL ss)=some (.bl (!ss.any λw=>w==z)):=by
 show K8 (.str z) (sL ss)=_;unfold K8;have:fIn (.str z) (sL ss)=some (.bl (ss.any λw=>w==z)):=by
  show(if(D.str z).flat 30&&D.flats 30 (ss.map D.str)then some (D.bl ((ss.map D.str).any λw=>peq w (.str z)))else none)=_;rw[show(D.str z).flat 30=true from rfl,QY (ks:=ss.map D.str) (λk hk=>by obtain⟨w,_,rfl⟩:=aE hk;rfl),List.any_map];rfl
 rw[this];rfl
theorem in_i{p:Int}{ks:List Int}:J7 (.int p) (iL ks)=some (.bl (ks.any λw=>w==p)):=by
 show(if(D.int p).flat 30&&D.flats 30 (ks.map D.int)then some (D.bl ((ks.map D.int).any λw=>peq w (.int p)))else none)=_;rw[show(D.int p).flat 30=true from rfl,QY (ks:=ks.map D.int) (λk hk=>by obtain⟨w,_,rfl⟩:=aE hk;rfl),List.any_map];rfl
theorem Q8{p:Int}{ks:List Int}:J7 (.int p) (.tup (ks.map D.int))=some (.bl (ks.any λw=>w==p)):=by
 show(if(D.int p).flat 30&&D.flats 30 (ks.map D.int)then some (D.bl ((ks.map D.int).any λw=>peq w (.int p)))else none)=_;rw[show(D.int p).flat 30=true from rfl,QY (ks:=ks.map D.int) (λk hk=>by obtain⟨w,_,rfl⟩:=aE hk;rfl),List.any_map];rfl
theorem KJ{p:Int}{ks:List Int}:(ks.any λw=>w==p)=decide (p∈ks):=by
 rw[Bool.eq_iff_iff];simp
def vK(own k:Int):Int:=own+(if k=own then 1 else 0)
def Cs(kps:List Int)(b:Int)(c:D):Prop:=c=.non\/∃(to:Int) (fs:List Int),c=.tup [.int to,.tup (fs.map D.int)]/\0<=to/\to<kps.length/\(∀f∈fs,0<=f/\f<b)/\fs.Nodup/\(fs.length:Int)=kps.getD to.toNat 0
theorem WY{α:Type}:∀{l:List α} {i:Nat} (h:i<l.length),(l[i]::l.eraseIdx i).Perm l
 |a::l,0,h=>List.Perm.refl _
 |a::l,i+1,h=>by
  have:=WY (l:=l) (i:=i) (by simpa using h);rw[List.getElem_cons_succ,Z5];exact(List.Perm.swap ..).trans (this.cons a)
theorem kwu{α β:Type}(f:α->β):∀(l:List α) (i:Nat),(l.map f).eraseIdx i=(l.eraseIdx i).map f
 |[],_=>rfl|a::l,0=>rfl|a::l,i+1=>by rw[List.map_cons,Z5,Z5,List.map_cons,kwu f l i]
theorem vxi(a b:Int):XQ (.bl (a==b))=some (.int (if a=b then 1 else 0)):=by
 by_cases h:a=b
 ·rw[X8 h,show(a==b)=true by simpa using h];rfl
 ·rw[Xf h,show(a==b)=false by simpa using h];rfl
def Pr(kps:List Int)(n:Nat)(own:Int)(d:D):Prop:=∃(gd:Bool) (st:List D),d=.tup [.int own,.bl gd,.lst st]/\st.length=n/\∀c∈st,∃cs:List D,c=.lst cs/\(cs.length:Int)=own+1/\∀k:Nat,k<cs.length->∃z,cs[k]?=some z/\Cs kps (vK own k) z
def Prs(kps:List Int)(n:Nat)(rs:List D):Prop:=rs.length=kps.length/\∀i:Nat,i<kps.length->∃r,rs[i]?=some r/\Pr kps n (kps.getD i 0) r
theorem kzc{α:Type}{p:α->Bool}:∀{l:List α},l.any p=true->l.findIdx? p=some (l.findIdx p)
 | [],h=>by cases h
 | a::l,h=>by
  rw[List.findIdx?_cons,List.findIdx_cons];cases hp:p a with
  |true=>simp
  |false=>
   rw[Zk,hp,Bool.false_or]at h;rw[kzc h];simp
theorem wxt{α:Type}{p:α->Bool}{l:List α}(h:l.any p=true):l.findIdx p<l.length:=by
 obtain⟨x,hx,hp⟩:=List.any_eq_true.mp h;exact Yv ⟨x,hx,hp⟩
theorem wxs{α:Type}{p:α->Bool}{l:List α}(h:l.any p=false):l.findIdx p=l.length:=by
 rw[List.findIdx_eq_length];intro x hx;cases hp:p x with|false=>rfl|true=>rw[List.any_eq_true.mpr ⟨x,hx,hp⟩]at h;cases h
theorem wxo{z:Str}{ss:List Str}(h:(ss.any λw=>w==z)=true):kws (sL ss) (.str z)=some (.int (ss.findIdx λw=>w==z:Nat)):=by
 show(if(D.str z).flat 30&&D.flats 30 (ss.map D.str)then((ss.map D.str).findIdx? λw=>peq w (.str z)).map λ(j:Nat)=>D.int (j:Int)else none)=_;rw[show(D.str z).flat 30=true from rfl,QY (ks:=ss.map D.str) (λk hk=>by obtain⟨w,_,rfl⟩:=aE hk;rfl),List.findIdx?_map];have:ss.findIdx? ((λw=>peq w (.str z))∘D.str)=ss.findIdx? λw=>w==z:=rfl
 rw[this,kzc h];rfl
theorem wqj{p:Int}{ks:List Int}(h:(ks.any λw=>w==p)=true):kws (.tup (ks.map D.int)) (.int p)=some (.int (ks.findIdx λw=>w==p:Nat)):=by
 show(if(D.int p).flat 30&&D.flats 30 (ks.map D.int)then((ks.map D.int).findIdx? λw=>peq w (.int p)).map λ(j:Nat)=>D.int (j:Int)else none)=_;rw[show(D.int p).flat 30=true from rfl,QY (ks:=ks.map D.int) (λk hk=>by obtain⟨w,_,rfl⟩:=aE hk;rfl),List.findIdx?_map];have:ks.findIdx? ((λw=>peq w (.int p))∘D.int)=ks.findIdx? λw=>w==p:=rfl
 rw[this,kzc h];rfl
theorem vqu{a b:List D}(hl:a.length+b.length<=10000):kq (.no,.tup a) (.no,.tup b)=some (.no,.tup (a++b)):=by
 show(if a.length+b.length<=big/\qw (.no,.tup a)/\qw (.no,.tup b)then _ else _)=_;rw[X8 ⟨by unfold big;omega,rfl,rfl⟩]
abbrev iT(ks:List Int):D:=.tup (ks.map D.int)
def nameAt(ks:List Int)(p:Int)(f:Int):Int:=(ks++[p]).getD f.toNat 0
def qxu(ks:List Int)(p:Int)(c:D):D:=match c with
 |.tup [to,.tup fs]=>.tup [to,.tup (fs.map λf=>match f with|.int i=>.int (nameAt ks p i)|_=>.non)]
 |_=>.non
theorem caseD_is{ks fs:List Int}{p to:Int}:qxu ks p (.tup [.int to,iT fs])=.tup [.int to,iT (fs.map (nameAt ks p))]:=by
 unfold qxu iT;simp[Xm,Function.comp]
def zZ(ss:List Str)(st:List D)(ks:List Int)(z:Str)(p:Int):D:=match st[ss.findIdx λw=>w==z]? with
 |some (.lst cs)=>cs.getD (ks.findIdx λw=>w==p) .non|_=>.non
def wK(ss:List Str)(st:List D)(ks:List Int)(z:Str)(p:Int):D:=if(ss.any λw=>w==z)=true then qxu ks p (zZ ss st ks z p)else .non
def Cas(kps:List Int)(n:Nat)(own:Int)(st:List D):Prop:=st.length=n/\∀c∈st,∃cs:List D,c=.lst cs/\(cs.length:Int)=own+1/\∀k:Nat,k<cs.length->∃z,cs[k]?=some z/\Cs kps (vK own k) z
theorem wxu{ks:List Int}{p:Int}:(ks.findIdx λw=>w==p)<=ks.length:=List.findIdx_le_length
theorem qjx{kps:List Int}{ss:List Str}{st:List D}{ks:List Int}{z:Str}(p:Int)(h:Cas kps ss.length ks.length st)(hz:(ss.any λw=>w==z)=true):∃cs,st[ss.findIdx λw=>w==z]?=some (.lst cs)/\(cs.length:Int)=ks.length+1/\cs[ks.findIdx λw=>w==p]?=some (zZ ss st ks z p)/\Cs kps (vK ks.length (ks.findIdx λw=>w==p:Nat)) (zZ ss st ks z p):=by
 have hj:(ss.findIdx λw=>w==z)<st.length:=by rw[h.1];exact wxt hz
 obtain⟨cs,e,hl,hc⟩:=h.2 st[ss.findIdx λw=>w==z] (Xw hj);have hg:st[ss.findIdx λw=>w==z]?=some (.lst cs):=by rw[X1 hj,e]
 have ff:=wxu (ks:=ks) (p:=p);obtain⟨c,e2,hC⟩:=hc (ks.findIdx λw=>w==p) ⋯;have hca:zZ ss st ks z p=c:=by unfold zZ;rw[hg];dsimp only;rw[X4,e2];rfl
 exact⟨cs,hg,hl,by rw[hca];exact e2,by rw[hca];exact hC⟩
theorem qwc{ks:List Int}{p f:Int}(h0:0<=f)(h1:f<=ks.length):jW (.tup (ks.map D.int++[.int p])) (.int f)=some (.int (nameAt ks p f)):=by
 refine xj0 h0 ?_;rw[show ks.map D.int++[D.int p]=(ks++[p]).map D.int by simp,Xh];unfold nameAt;rw[X4,X1 (by simp;omega)];rfl
theorem qz4{own:Int}{k:Int}:vK own k<=own+1:=by unfold vK;split<;>omega
theorem vvl{kps:List Int}{ss:List Str}{rs st:List D}{kp gd:D}{room:Int}{ks:List Int}{z:Str}{p:Int}(h0:0<=room)(hr:rs[room.toNat]?=some (.tup [kp,gd,.lst st]))(hc:Cas kps ss.length ks.length st)(hl:ks.length<=1000):
  Oo m_read_by [(.no,jJ ss rs),(.no,.tup [.int room,iT ks]),(.no,.str z),(.no,.int p)] (λy=>y.2=wK ss st ks z p) noX:=by
 have hi:jW (.lst rs) (.int room)=some (.tup [kp,gd,.lst st]):=wQ h0 hr;unfold wK;cases hz:(ss.any λw=>w==z)with
 | false=>
  unfold m_read_by;refine kJ ?_;simp![p0,ZQ,hz]
 | true=>
  obtain⟨cs,g1,g2,g3,g4⟩:=qjx p hc hz;have hx:jW (.lst st) (.int (ss.findIdx λw=>w==z:Nat))=some (.lst cs):=wQ ⋯ (by rw[Xq];exact g1);have hy:jW (.lst cs) (.int (ks.findIdx λw=>w==p:Nat))=some (zZ ss st ks z p):=wQ ⋯ (by rw[Xq];exact g3);have gq:=vqu (a:=ks.map D.int) (b:=[.int p]) (by simp;omega);have li:=wxo hz;generalize zZ ss st ks z p=c at g4 hy;have fin:∀(to:Int) (fs:List Int) (E:En) (hE:Kx 1 [7] E=none::[some (.no,.tup (ks.map D.int++[.int p]))]) (hb:back [7] [some (Own.no,D.tup (ks.map D.int++[.int p]))] (clr [7] E)=E) (hi:itS (cH (jv (vV 6) (C9 1))) E=some (.ok E (fs.map D.int))) (P:En->Sd->Prop),(∀f∈fs,0<=f/\f<vK ks.length (ks.findIdx λw=>w==p:Nat))->P E (.rt,.lst ((fs.map (nameAt ks p)).map D.int))->Eo (cLC .rt 1 [7] (itS (cH (jv (vV 6) (C9 1)))) (.n 0) tYes (cH (jv (vV 1) (vV 0))) E) P noX:=by
   intro to fs E hE hb hi P jn hP;refine VJ [some (.no,.tup (ks.map D.int++[.int p]))] (λf y=>y.2=match f with|.int i=>.int (nameAt ks p i)|_=>.non) ?_;rw[hi,QZ];refine⟨by have:=hE;unfold Kx at this;simpa using this,λf hf=>?_,λys hy=>?_⟩
   ·obtain⟨i,kl,rfl⟩:=aE hf;have hb:=qz4 (own:=ks.length) (k:=(ks.findIdx λw=>w==p:Nat));have:=jn i kl;simp![qwc (ks:=ks) (p:=p) (f:=i) this.1 ⋯];exact⟨⟨_,rfl⟩,trivial⟩
   ·rw[zx,WK (h:=λf=>match f with|.int i=>.int (nameAt ks p i)|_=>.non) (λd y h=>h) hy,hb];rw[Xm]at hP ⊢;exact hP
  rw[X8 rfl];cases hp:(ks.any λw=>w==p)with
  | true=>
   have hii:=wqj hp;unfold m_read_by;refine kJ ?_;rcases g4 with rfl|⟨to,fs,rfl,t0',t1',jn,_⟩
   ·simp![p0,p1,ZQ,hz,hi,t2,li,hx,Q8,hp,hii,hy];rfl
   ·simp![p0,p1,ZQ,hz,hi,t2,li,hx,Q8,hp,hii,hy,gq];refine fin to fs _ rfl rfl rfl _ jn ?_;simp![tup_l (o:=.no) (xs:=(fs.map (nameAt ks p)).map D.int) ⋯];exact caseD_is.symm
  | false=>
   rw[wxs hp]at hy;unfold m_read_by;refine kJ ?_;rcases g4 with rfl|⟨to,fs,rfl,t0',t1',jn,_⟩
   ·simp![p0,p1,ZQ,hz,hi,t2,li,hx,Q8,hp,hy];rfl
   ·simp![p0,p1,ZQ,hz,hi,t2,li,hx,Q8,hp,hy,gq];refine fin to fs _ rfl rfl rfl _ jn ?_;simp![tup_l (o:=.no) (xs:=(fs.map (nameAt ks p)).map D.int) ⋯];exact caseD_is.symm
theorem wxi{a b:Int}:xj2 (.int a) (.int b)=some (.int (if b<a then b else a)):=rfl
theorem qjt{xs:List D}{c:Int}(h0:0<=c)(h1:c<=xs.length):z8 xs none (some c)=xs.take c.toNat:=by
 unfold z8 J5;dsimp only;rw[Xf ⋯,List.drop_zero,Nat.sub_zero,Nat.min_eq_left (Int.toNat_le.mpr h1)]
def Ok2(kps:List Int)(s:D):Prop:=s=.non\/∃(room:Int) (ks:List Int),s=.tup [.int room,iT ks]/\0<=room/\room<kps.length/\(ks.length:Int)=kps.getD room.toNat 0
def Rd(kps:List Int)(ss:List Str)(rs:List D)(s:D)(w:Str×Int)(s':D):Prop:=(s=.non/\s'=.non)\/∃(room:Int) (ks:List Int) (st:List D) (kp gd:D),s=.tup [.int room,iT ks]/\0<=room/\rs[room.toNat]?=some (.tup [kp,gd,.lst st])/\Cas kps ss.length ks.length st/\ks.length<=3/\s'=wK ss st ks w.1 w.2
theorem qzy{kps:List Int}{ss:List Str}{rs:List D}{s:D}(w:Str×Int)(hP:Prs kps ss.length rs)(hk:Kq9 kps)(h:Ok2 kps s):∃s',Rd kps ss rs s w s'/\Ok2 kps s'/\((ss.any λz=>z==w.1)=false->s'=.non):=by
 rcases h with rfl|⟨room,ks,rfl,r0,r1,hl⟩
 ·exact⟨.non,.inl ⟨rfl,rfl⟩,.inl rfl,λ_=>rfl⟩
 ·obtain⟨r,er,gd,st,rfl,gw,bc⟩:=hP.2 room.toNat ⋯;have ql:=hk (kps.getD room.toNat 0) (by rw[X4,X1 ⋯];exact Xw _);have ig:Cas kps ss.length ks.length st:=⟨gw,by rw[hl];exact bc⟩;refine⟨wK ss st ks w.1 w.2,.inr ⟨room,ks,st,_,_,rfl,r0,er,ig,⋯,rfl⟩,?_,λhz=>?_⟩
  ·unfold wK;cases hz:(ss.any λz=>z==w.1)with
   |false=>exact .inl rfl
   |true=>
    obtain⟨cs,g1,g2,g3,g4⟩:=qjx w.2 ig hz;rw[X8 rfl];rcases g4 with e|⟨to,fs,e,t0,t1,_,_,hfl⟩
    ·rw[e];exact .inl rfl
    ·rw[e,caseD_is];exact .inr ⟨to,_,rfl,t0,t1,by rw[X3];exact hfl⟩
  ·unfold wK;rw[hz];rfl
theorem kq3{kps:List Int}{ss:List Str}{rs:List D}{s s':D}{w:Str×Int}(h:Rd kps ss rs s w s'):Oo m_read_by [(.no,jJ ss rs),(.no,s),(.no,.str w.1),(.no,.int w.2)] (λy=>y.2=s') noX:=by
 rcases h with⟨rfl,rfl⟩|⟨room,ks,st,kp,gd,rfl,r0,er,hc,hl,rfl⟩
 ·unfold m_read_by;refine kJ ?_;simp![]
 ·exact vvl r0 er hc ⋯
abbrev Lw:=List (Str×Int)
def Ch2(kps:List Int)(ss:List Str)(rs:List D):D->Lw->D->Prop
 |s,[],s'=>s=s'|s,x::r,s'=>∃m,Rd kps ss rs s x m/\Ch2 kps ss rs m r s'
abbrev zK(L:Lw):List D:=L.map λw=>.tup [.str w.1,.int w.2]
abbrev st0:D:=.tup [.int 0,iT []]
def qqr:Fn:=fn 5
  (j7 (jq 2 (qz .no [(cC (.int 0)),(qz .no [])]))
  (j7 (vQ (itS (cV 1)) (.t [3,4]) (jq 2 (jz m_read_by [(cV 0),(cV 2),(cV 3),(cV 4)])))
  (k7 (cMv 2))))
def plets:Fn:=fn 3
  (j7 (jq 2 (jz qqr [(cV 0),(cV 1)]))
  (k7 (Jx (vE (cF2 (f2First fNotNon) (vV 2) (vE (cC .non)))) (cH (jv (jv (jv (vV 0) (C9 1)) (jv (vV 2) (C9 0))) (C9 1))))))
theorem qqq{kps:List Int}{ss:List Str}{rs:List D}{L:Lw}{s:D}(hc:Ch2 kps ss rs st0 L s):Oo qqr [(.no,jJ ss rs),(.no,.lst (zK L))] (λy=>y.2=s) noX:=by
 unfold qqr;refine kJ ?_;simp![];refine xY (λE a9=>∃(L2:Lw) (m:D) (o1 o2:Own) (l3 l4:Option Sd),E=[some (.no,jJ ss rs),some (o1,.lst (zK L)),some (o2,m),l3,l4]/\a9=zK L2/\Ch2 kps ss rs m L2 s) ?_ ?_ ?_
 ·simp![];exact⟨L,_,_,_,_,_,rfl,rfl,hc⟩
 ·rintro E d ds ⟨L2,m,o1,o2,l3,l4,rfl,hr,dw⟩;cases L2 with
  |nil=>cases hr
  |cons x L2=>
   have hr:d::ds=.tup [.str x.1,.int x.2]::zK L2:=hr;injection hr with e1 e2;subst e1 e2;obtain⟨m',h1,h2⟩:=dw;simp![];refine(kq3 h1).via ?_;intro y hy;obtain⟨o,d⟩:=y;have hy:d=m':=hy;subst hy;simp![];exact⟨L2,_,_,_,_,_,rfl,rfl,h2⟩
 ·rintro E ⟨L2,m,o1,o2,l3,l4,rfl,hr,dw⟩;have:L2=[]:=by cases L2 with|nil=>rfl|cons=>cases hr
  subst this;simp![];exact dw
def qx8(rs:List D)(s:D):Bool:=match s with
 |.tup [.int room,_]=>(match rs[room.toNat]? with
  |some (.tup [_,.bl b,_])=>b
  |_=>false)
 |_=>false
theorem vxf{kps:List Int}{n:Nat}{rs:List D}{room:Int}{kd:D}(hP:Prs kps n rs)(r0:0<=room)(r1:room<kps.length):∃kp st,jW (.lst rs) (.int room)=some (.tup [kp,.bl (qx8 rs (.tup [.int room,kd])),st]):=by
 obtain⟨r,er,gd,st,rfl,gw,bc⟩:=hP.2 room.toNat ⋯;have hg:qx8 rs (.tup [.int room,kd])=gd:=by unfold qx8;dsimp only;rw[er]
 exact⟨.int (kps.getD room.toNat 0),.lst st,wQ r0 (by rw[hg];exact er)⟩
theorem vwx{kps:List Int}{ss:List Str}{rs:List D}{L:Lw}{s:D}(hP:Prs kps ss.length rs)(hc:Ch2 kps ss rs st0 L s)(hok:Ok2 kps s):Oo plets [(.no,jJ ss rs),(.no,.lst (zK L))] (λy=>y.2=.bl (qx8 rs s)) noX:=by
 unfold plets;refine kJ ?_;simp![];refine(qqq hc).via ?_;intro y hy;obtain⟨o,d⟩:=y;have hy:d=s:=hy;subst hy;rcases hok with rfl|⟨room,ks,rfl,r0,r1,hl⟩
 ·simp![];rfl
 ·obtain⟨kp,st,ei⟩:=vxf (kd:=iT ks) hP r0 r1;cases o with|no=>simp![p0,p1,t1,ei]|rt=>simp![p0,p1,t1,ei]|dp=>simp![p0,p1,t1,ei]
noncomputable section
end
noncomputable section
end
end C
namespace B
open PySem Q
def m_keepers_in:Fn:=fn 2
  (k7 (cIf (tE (cF2 (pu2 fEq) (vV 1) (vE (cC (.int (-1)))))) (cC (.int 0)) (cH (jv (jv (jv (vV 0) (C9 1)) (vV 1)) (C9 0)))))
def m_standing_in:Fn:=fn 2
  (k7 (cIf (tE (cF2 (pu2 fEq) (vV 0) (vE (cC (.int (-1)))))) (cC .non) (qz .no [(cV 0),(cF1 K1 (vV 1))])))
noncomputable def m_first_standings:Fn:=fn 7
  (j7 (jq 3 (jz m_keepers_in [(cV 0),(cH (jv (vV 2) (C9 0)))]))
  (j7 (jq 4 (cF1 VY (vE (cLC .rt 2 [] (itS (cH (jv (vV 2) (C9 2)))) (.t [0,1]) tYes (qz .no [(cV 1),(cV 0)])))))
  (j7 (jq 5 (wx .rt []))
  (j7 (vQ (xk (vE (jz m_keepers_in [(cV 1),(cH (jv (vV 2) (C9 1)))]))) (.n 6) (vJ vW 5 (cIf (tE (cF2 (pu2 V9) (vV 6) (vV 4))) (cH (wvq (vV 4) (vV 6))) (cF2 kq (vV 3) (vE (cF1 (pu1 v6) (vE (cLC .rt 1 [3] (itV 5) (.n 0) (tE (cF2 (pu2 fGe) (vV 0) (vV 1))) (cV 0)))))))))
  (k7 (qz .no [(jz m_standing_in [(cH (jv (vV 2) (C9 0))),(VX (vV 3))]),(kx5 m_standing_in [(jv (vV 2) (C9 1)),(vV 5)])]))))))
def m_names_of:Fn:=fn 1
  (k7 (cIf (tE (cF2 (f2First fIsNon) (vV 0) (vE (cC .non)))) (qz .no []) (cH (jv (vV 0) (C9 1)))))
def m_room_of:Fn:=fn 1
  (k7 (cIf (tE (cF2 (f2First fIsNon) (vV 0) (vE (cC .non)))) (cC (.int (-1))) (cH (jv (vV 0) (C9 0)))))
noncomputable def m_pair_of:Fn:=fn 4
  (j7 (jq 1 (jz m_names_of [(cH (jv (vV 0) (C9 0)))]))
  (j7 (jq 2 (jz m_names_of [(cH (jv (vV 0) (C9 1)))]))
  (j7 (jq 3 (cLC .rt 2 [2] (vjs (cV 1)) (.t [0,1]) (tE (cF2 (pu2 J7) (vV 1) (vV 2))) (qz .no [(cV 0),(WQ (vV 2) (vV 1))])))
  (k7 (qz .no [(jz m_room_of [(cH (jv (vV 0) (C9 0)))]),(jz m_room_of [(cH (jv (vV 0) (C9 1)))]),(cF1 K1 (vV 3))])))))
def m_read_by_both:Fn:=fn 5
  (k7 (qz .no [(jz C.m_read_by [(cV 0),(cH (jv (vV 2) (C9 0))),(cV 3),(cV 4)]),(jz C.m_read_by [(cV 1),(cH (jv (vV 2) (C9 1))),(cV 3),(cV 4)])]))
def m_held_by_both:Fn:=fn 2
  (j7 (jq 1 (jz m_names_of [(cH (jv (vV 0) (C9 0)))]))
  (k7 (cF2 kq (vV 1) (vE (cF1 K1 (vE (cLC .rt 1 [1] (itS (jz m_names_of [(cH (jv (vV 0) (C9 1)))])) (.n 0) (tE (cF2 (pu2 JQ) (vV 0) (vV 1))) (cV 0))))))))
def m_is_good_in:Fn:=fn 2
  (k7 (Jx (vE (cF2 (pu2 fNe) (vV 1) (vE (cC (.int (-1)))))) (cH (jv (jv (jv (vV 0) (C9 1)) (vV 1)) (C9 1)))))
def m_agrees:Fn:=fn 3
  (k7 (cF2 (pu2 fEq) (vE (jz m_is_good_in [(cV 0),(cH (jv (vV 2) (C9 0)))])) (vE (jz m_is_good_in [(cV 1),(cH (jv (vV 2) (C9 1)))]))))
end B
namespace B
open Q PySem C
abbrev Sn:=Option (Int×List Int)
def stn:Sn->D
 |none=>.non|some p=>.tup [.int p.1,iT p.2]
def nms:Sn->List Int
 |none=>[]|some p=>p.2
def rmO:Sn->Int
 |none=>-1|some p=>p.1
theorem jzs(s:Sn):Oo m_names_of [(.no,stn s)] (λy=>y=(.no,iT (nms s))) noX:=by
 cases s with
 |none=>
  unfold m_names_of;refine kJ ?_;simp![stn];rfl
 |some p=>
  unfold m_names_of;refine kJ ?_;simp![stn,p1];rfl
theorem qv1(s:Sn):Oo m_room_of [(.no,stn s)] (λy=>∃o':Own,y=(o',.int (rmO s))/\True) noX:=by
 cases s with
 |none=>
  unfold m_room_of;refine kJ ?_;simp![stn];exact⟨_,rfl,trivial⟩
 |some p=>
  unfold m_room_of;refine kJ ?_;simp![stn,p0];exact⟨_,rfl,trivial⟩
theorem qz3{kps kps':List Int}{ss:List Str}{rs a7:List D}{s s' t t':D}{w:Str×Int}(h:Rd kps ss rs s w s')(h':Rd kps' ss a7 t w t'):Oo m_read_by_both [(.no,jJ ss rs),(.no,jJ ss a7),(.no,.tup [s,t]),(.no,.str w.1),(.no,.int w.2)] (λy=>y=(.no,.tup [s',t'])) noX:=by
 unfold m_read_by_both;refine kJ ?_;simp![p0,p1];refine(kq3 h).via ?_;rintro ⟨o,d⟩ e;cases(show d=s' from e);simp![p0,p1];refine(kq3 h').via ?_;rintro ⟨o',d⟩ e;cases(show d=t' from e);simp![]
def qJ(o t:List Int):List Int:=o++t.filter λn=>!(o.any λw=>w==n)
theorem wku{p:Int}{ks:List Int}:JQ (.int p) (.tup (ks.map D.int))=some (.bl (!(ks.any λw=>w==p))):=by
 show K8 (.int p) (.tup (ks.map D.int))=_;unfold K8;have:fIn (.int p) (.tup (ks.map D.int))=some (.bl (ks.any λw=>w==p)):=Q8;rw[this];rfl
theorem qx6(a b:Sn)(ha:(nms a).length<=100)(hb:(nms b).length<=100):Oo m_held_by_both [(.no,.tup [stn a,stn b])] (λy=>y=(.no,iT (qJ (nms a) (nms b)))) noX:=by
 unfold m_held_by_both;refine kJ ?_;simp![p0,p1];refine(jzs a).via ?_;rintro _ rfl;simp![p0,p1];refine KY (λE1 B ds aa=>E1=[some (Own.no,D.tup [stn a,stn b]),some (.no,iT (nms a))]/\∃q f1 f2,B=[q,some (.no,iT (nms a))]/\nms b=f1++f2/\ds=f2.map D.int/\aa.map (·.2)=(f1.filter λn=>!(nms a).any λw=>w==n).map D.int) ?_ ?_ ?_
 ·simp![p0,p1];refine(jzs b).via ?_;rintro _ rfl;simp![];exact⟨none,[],nms b,rfl,rfl,rfl,rfl⟩
 ·rintro E1 B d ds aa ⟨rfl,q,f1,f2,rfl,hf,av,ay⟩;cases f2 with
  | nil=>cases av
  | cons z f2=>
   rw[List.map_cons]at av;injection av with e1 e2;subst e1 e2;simp![wku];cases hz:((nms a).any λw=>w==z)with
   |true=>
    simp![];refine⟨_,f1++[z],f2,rfl,by rw[hf];simp,rfl,?_⟩;rw[ay,Yi];simp[hz]
   |false=>
    simp![];refine⟨_,f1++[z],f2,rfl,by rw[hf];simp,rfl,?_⟩;rw[X9,ay,Yi];simp[hz]
 ·rintro E1 B aa ⟨rfl,q,f1,f2,rfl,hf,av,ay⟩;cases f2 with
  |cons=>cases av
  |nil=>
   rw[Y7]at hf;subst hf;have ff:((nms b).filter λn=>!(nms a).any λw=>w==n).length<=100:=Ye (List.length_filter_le _ _) hb;rw[zx,ay];simp![Q.tup_l (o:=.no) (xs:=((nms b).filter λn=>!(nms a).any λw=>w==n).map D.int) ⋯,vqu (a:=(nms a).map D.int) (b:=((nms b).filter λn=>!(nms a).any λw=>w==n).map D.int) (by rw[X3,X3];omega)];unfold qJ iT;rw[X9]
def kw(t:List Int):Nat->List Int->List (Int×Int)
 |_,[]=>[]|k,n::o=>if(t.any λw=>w==n)=true then((k:Int),((t.findIdx λw=>w==n:Nat):Int))::kw t (k+1) o else kw t (k+1) o
abbrev prs(l:List (Int×Int)):List D:=l.map λp=>.tup [.int p.1,.int p.2]
def vz(a b:Sn):D:=.tup [.int (rmO a),.int (rmO b),.tup (prs (kw (nms b) 0 (nms a)))]
theorem qkd(a b:Sn)(ha:(nms a).length<=100)(hb:(nms b).length<=100):Oo m_pair_of [(.no,.tup [stn a,stn b])] (λy=>y=(.no,vz a b)) noX:=by
 unfold m_pair_of;refine kJ ?_;simp![p0,p1];refine(jzs a).via ?_;rintro _ rfl;simp![p0,p1];refine(jzs b).via ?_;rintro _ rfl;simp![];refine KY (λE1 B ds aa=>E1=[some (Own.no,D.tup [stn a,stn b]),some (Own.no,iT (nms a)),some (Own.no,iT (nms b)),none]/\∃(q0 q1:Option Sd) (f1 f2:List Int),B=[q0,q1,some (.no,iT (nms b))]/\nms a=f1++f2/\ds=J3 f1.length (f2.map D.int)/\aa.map (·.2)++prs (kw (nms b) f1.length f2)=prs (kw (nms b) 0 (nms a))) ?_ ?_ ?_
 ·simp![↓vv2,show vv5 (iT (nms a))=some ((nms a).map D.int)from rfl];exact⟨none,none,[],nms a,rfl,rfl,rfl,rfl⟩
 ·rintro E1 B d ds aa ⟨rfl,q0,q1,f1,f2,rfl,hf,av,ay⟩;cases f2 with
  | nil=>cases av
  | cons z f2=>
   have av:d::ds=.tup [.int f1.length,.int z]::J3 (f1.length+1) (f2.map D.int):=av;injection av with e1 e2;subst e1 e2;simp![Q8];have i5:(f1++[z]).length=f1.length+1:=by simp
   cases hz:((nms b).any λw=>w==z)with
   |false=>
    simp![];refine⟨_,_,f1++[z],f2,rfl,by rw[hf];simp,by rw[i5],?_⟩;rw[<-ay,i5]
    congr 2
    conv=>rhs;unfold kw
    rw[hz,Xf ⋯]
   |true=>
    simp![wqj hz];refine⟨_,_,f1++[z],f2,rfl,by rw[hf];simp,by rw[i5],?_⟩;rw[<-ay,i5,X9,Xu]
    congr 1
    conv=>rhs;unfold kw
    rw[hz,X8 rfl];rfl
 ·rintro E1 B aa ⟨rfl,q0,q1,f1,f2,rfl,hf,av,ay⟩;cases f2 with
  |cons=>cases av
  |nil=>
   have ay:aa.map (·.2)=prs (kw (nms b) 0 (nms a)):=by rw[<-ay];simp[kw]
   rw[zx,ay,show J6 2 [2] [q0,q1,some (Own.no,iT (nms b))] [some (Own.no,D.tup [stn a,stn b]),some (Own.no,iT (nms a)),some (Own.no,iT (nms b)),none]=[some (Own.no,D.tup [stn a,stn b]),some (Own.no,iT (nms a)),some (Own.no,iT (nms b)),none]from rfl];simp![p0,p1];refine(qv1 a).use ?_;intro o1 _;simp![p0,p1];refine(qv1 b).use ?_;intro o2 _;simp![Q.tup_l (o:=.rt) (xs:=prs (kw (nms b) 0 (nms a))) ⋯];rfl
def Kpr(rs:List D)(room k:Int):Prop:=(room=-1/\k=0)\/(0<=room/\∃g st,rs[room.toNat]?=some (.tup [.int k,g,st]))
theorem eqi{a b:Int}{k:Bool}(h:(a==b)=k):fEq (.int a) (.int b)=some (.bl k):=by rw[<-h];rfl
theorem kkg{ss:List Str}{rs:List D}{room k:Int}(h:Kpr rs room k):Oo m_keepers_in [(.no,jJ ss rs),(.no,.int room)] (λy=>∃o':Own,y=(o',.int k)/\True) noX:=by
 unfold m_keepers_in;refine kJ ?_;rcases h with⟨rfl,rfl⟩|⟨h0,g,st,hr⟩
 ·simp![eqi (a:=-1) (b:=-1) rfl];exact⟨_,rfl,trivial⟩
 ·have b8:(room == -1)=false:=Y8 ⋯;have hi:jW (.lst rs) (.int room)=some (.tup [.int k,g,st]):=wQ h0 hr;simp![p0,p1,eqi b8,hi,show jW (.tup [.int k,g,st]) (.int 0)=some (.int k)from rfl];exact⟨_,rfl,trivial⟩
def vx(room:Int)(ks:List Int):Sn:=if room=-1 then none else some (room,ks)
theorem jzz(room:Int)(ks:List Int)(o:Own)(ho:o≠.dp):Oo m_standing_in [(.no,.int room),(o,iL ks)] (λy=>∃o':Own,y=(o',stn (vx room ks))/\True) noX:=by
 unfold m_standing_in vx;refine kJ ?_
 by_cases h:room=-1
 ·subst h;simp![eqi (a:=-1) (b:=-1) rfl];exact⟨_,rfl,trivial⟩
 ·have b8:(room == -1)=false:=Y8 h;rw[Xf h];simp![eqi b8,Q.tup_l (o:=o) (xs:=ks.map D.int) ho];exact⟨_,rfl,trivial⟩
def nmF(own:Int)(kv:List (Int×Int)):Nat->List Int
 |0=>[]
 |n+1=>nmF own kv n++[match jZ kv n with
  |some i=>i
  |none=>own+((nmF own kv n).filter λx=>decide (own<=x)).length]
theorem jqx:∀(ks:List Int),D.pures (ks.map D.int)=true
 |[]=>rfl
 |k::ks=>by
  rw[List.map_cons];unfold D.pures;rw[jqx ks];rfl
theorem jx9(own:Int)(kv:List (Int×Int))(n:Nat):nmF own kv (n+1)=nmF own kv n++[match jZ kv n with|some i=>i|none=>own+((nmF own kv n).filter λx=>decide (own<=x)).length]:=rfl
theorem vkn(k:Int):k8 0 k=(((List.range k.toNat).map λ(i:Nat)=>(i:Int)).map D.int):=by
 unfold k8;rw[Xm,Int.sub_zero];refine Yf λi _=>?_
 show D.int (0+(i:Int))=D.int i;rw[Int.zero_add]
theorem vj4(s:Sn):(stn s).pure=true:=by
 cases s with
 |none=>rfl
 |some p=>
  show D.pures [.int p.1,.tup (p.2.map D.int)]=true;simp only[D.pures,D.pure,jqx,Bool.and_self]
def Kq(own:Int)(kv:List (Int×Int)):∀n,(nmF own kv n).length=n
 |0=>rfl|n+1=>by unfold nmF;rw[Xd,Kq own kv n];rfl
def kvS(sh:List (Int×Int)):List (Int×Int):=(sh.map λp=>(p.2,p.1)).foldl (λkv p=>qX kv p.1 p.2) []
theorem vjy {ss:List Str} {rs a7:List D} {p q k k':Int} {sh:List (Int×Int)} (hp:Kpr rs p k) (hq:Kpr a7 q k') (hk:0<=k) (cn:k<=100) (au:0<=k') (hk2':k'<=100) (mr:sh.length<=100):
  Oo m_first_standings [(.no,jJ ss rs),(.no,jJ ss a7),(.no,.tup [.int p,.int q,.tup (prs sh)])] (λy=>y=(.no,.tup [stn (vx p ((List.range k.toNat).map λ(i:Nat)=>(i:Int))),stn (vx q (nmF k (kvS sh) k'.toNat))])) noX:=by
 have t0:jW (.tup [.int p,.int q,.tup (prs sh)]) (.int 0)=some (.int p):=rfl;have t1:jW (.tup [.int p,.int q,.tup (prs sh)]) (.int 1)=some (.int q):=rfl;have t2:jW (.tup [.int p,.int q,.tup (prs sh)]) (.int 2)=some (.tup (prs sh)):=rfl;unfold m_first_standings;refine kJ ?_;simp![t0,t1,t2];refine (kkg hp).use ?_;intro o1 _;simp![t0,t1,t2];refine KY (λE1 B ds aa=>E1=[some (Own.no,jJ ss rs),some (Own.no,jJ ss a7),some (Own.no,D.tup [D.int p,D.int q,D.tup (prs sh)]),some (o1,D.int k),none,none,none]/\∃(q0 q1:Option Sd) (f1 f2:List (Int×Int)),B=[q0,q1]/\sh=f1++f2/\ds=prs f2/\aa.map (·.2)=prs (f1.map λp=>(p.2,p.1))) ?_ ?_ ?_
 ·simp![t2];exact ⟨none,none,[],sh,rfl,rfl,rfl,rfl⟩
 ·rintro E1 B d ds aa ⟨rfl,q0,q1,f1,f2,rfl,hf,av,ay⟩;cases f2 with
  | nil=>cases av
  | cons z f2=>
   have av:d::ds=.tup [.int z.1,.int z.2]::prs f2:=av;injection av with e1 e2;subst e1 e2;simp![];refine⟨_,_,f1++[z],f2,rfl,by rw[hf];simp,rfl,?_⟩;rw [X9,ay,X9];simp [prs]
 ·rintro E1 B aa ⟨rfl,q0,q1,f1,f2,rfl,hf,av,ay⟩;cases f2 with
  | cons=>cases av
  | nil =>
   rw [Y7]at hf;subst hf;rw [zx,ay,show J6 2 [] [q0,q1] [some (Own.no,jJ ss rs),some (Own.no,jJ ss a7),some (Own.no,D.tup [D.int p,D.int q,D.tup (prs sh)]),some (o1,D.int k),none,none,none]=[some (Own.no,jJ ss rs),some (Own.no,jJ ss a7),some (Own.no,D.tup [D.int p,D.int q,D.tup (prs sh)]),some (o1,D.int k),none,none,none]from rfl];have f9:VY (Own.no,D.lst (prs (sh.map λp=>(p.2,p.1))))=some (.rt,Kk (kvS sh)):=wqz (by rw[X3];omega);simp![f9];refine xY (λE a9=>∃(j:Int) (l6:Option Sd),E=[some (Own.no,jJ ss rs),some (Own.no,jJ ss a7),some (Own.no,D.tup [D.int p,D.int q,D.tup (prs sh)]),some (o1,D.int k),some (.rt,Kk (kvS sh)),some (.rt,iL (nmF k (kvS sh) j.toNat)),l6]/\0<=j/\j<=k'/\a9=k8 j k') ?_ ?_ ?_
   ·simp![t0,t1,t2];refine(kkg hq).use ?_;intro o2 _;simp![];exact⟨0,_,rfl,⋯,au,rfl⟩
   ·rintro E d ds ⟨j,l6,rfl,j0,j1,hr⟩;obtain⟨hj,rfl,rfl⟩:=JZ j1 hr;have hjn:(j+1).toNat=j.toNat+1:=⋯
    have hjc:((j.toNat:Nat):Int)=j:=⋯
    simp![];refine zJ rfl ?_;cases hv:jZ (kvS sh) j with
    | some v=>
     simp![↓vzl,wqi,wxm hv,hv,Option.isSome_some];refine⟨_,rfl,by rw[X3,Kq];omega,j+1,some (.no,.int j),?_,⋯,⋯,rfl⟩;rw [hjn,jx9,hjc,hv];simp
    | none=>
     simp![↓vzl,wqi,hv,Option.isSome_none];have hge:∀z:Int,fGe (.int z) (.int k)=some (.bl (decide (k<=z))):=λz=>rfl
     refine KY (λE1 B ds aa=>E1=[some (Own.no,jJ ss rs),some (Own.no,jJ ss a7),some (Own.no,D.tup [D.int p,D.int q,D.tup (prs sh)]),some (o1,D.int k),some (.rt,Kk (kvS sh)),some (.rt,iL (nmF k (kvS sh) j.toNat)),some (.no,.int j)]/\∃(q0:Option Sd) (f1 f2:List Int),B=[q0,some (o1,.int k)]/\nmF k (kvS sh) j.toNat=f1++f2/\ds=f2.map D.int/\aa.map (·.2)=(f1.filter λx=>decide (k<=x)).map D.int) ?_ ?_ ?_
     ·refine v_is rfl (jqx _) ?_;exact⟨rfl,none,[],_,rfl,rfl,rfl,rfl⟩
     ·rintro E1 B d ds aa ⟨rfl,q0,f1,f2,rfl,hf,av,ay⟩;cases f2 with
      | nil=>cases av
      | cons z f2=>
       rw[List.map_cons]at av;injection av with e1 e2;subst e1 e2;simp![hge]
       by_cases hz:k<=z
       ·have fy:decide (k<=z)=true:=Xi hz;simp![fy];refine⟨_,f1++[z],f2,rfl,by rw[hf];simp,rfl,?_⟩;rw[X9,ay,Yi];simp[hz]
       ·have fy:decide (k<=z)=false:=Xj hz;simp![fy];refine⟨_,f1++[z],f2,rfl,by rw[hf];simp,rfl,?_⟩;rw[ay,Yi];simp[hz]
     ·rintro E1 B aa ⟨rfl,q0,f1,f2,rfl,hf,av,ay⟩;cases f2 with
      |cons=>cases av
      |nil=>
       rw[Y7]at hf;rw[zx,ay,<-hf];simp![];refine⟨_,rfl,by rw[X3,Kq];omega,j+1,some (.no,.int j),?_,⋯,⋯,rfl⟩;rw[hjn,jx9,hjc,hv];have:∀(l:List Int) (v:Int),l.map D.int++[D.int v]=(l++[v]).map D.int:=λl v=>by simp
       rw[this];rfl
   ·rintro E ⟨j,l6,rfl,j0,j1,hr⟩;have:=KK j1 hr;subst this;simp![t0,t1,t2];rw[vkn];refine(jzz p ((List.range k.toNat).map λ(i:Nat)=>(i:Int)) .no ⋯).use ?_;intro o3 _;simp![t0,t1,t2];refine(jzz q (nmF k (kvS sh) j.toNat) .no ⋯).use ?_;intro o4 _;refine⟨vj4 _,?_⟩;simp![]
abbrev v7(k:Int):List Int:=(List.range k.toNat).map λ(i:Nat)=>(i:Int)
def wvz(p k:Int):Sn:=vx p (v7 k)
def wvy(q k k':Int)(sh:List (Int×Int)):Sn:=vx q (nmF k (kvS sh) k'.toNat)
def qK(f:Int->Int):Sn->Sn:=Option.map λp=>(p.1,p.2.map f)
theorem kqm(f:Int->Int)(s:Sn):nms (qK f s)=(nms s).map f:=by cases s<;>rfl
theorem kj6(f:Int->Int)(s:Sn):rmO (qK f s)=rmO s:=by cases s<;>rfl
section
variable {f:Int->Int}
theorem qz8{x n:Int}(h:f x=f n->x=n):(f x==f n)=(x==n):=by
 rw[Bool.eq_iff_iff];simp only[beq_iff_eq];exact⟨h,λe=>by rw[e]⟩
theorem kv6{n:Int}:∀{t:List Int},(∀x∈t,f x=f n->x=n)->((t.map f).any λw=>w==f n)=t.any λw=>w==n
 |[],_=>rfl
 |x::t,h=>by
  rw[List.map_cons,Zk,Zk,qz8 (h x X6),kv6 λy hy=>h y (lc9 _ hy)]
theorem kqw{n:Int}:∀{t:List Int},(∀x∈t,f x=f n->x=n)->((t.map f).findIdx λw=>w==f n)=t.findIdx λw=>w==n
 |[],_=>rfl
 |x::t,h=>by
  rw[List.map_cons,List.findIdx_cons,List.findIdx_cons,qz8 (h x X6),kqw λy hy=>h y (lc9 _ hy)]
theorem qqx{t:List Int}:∀{o:List Int} (k:Nat),(∀n∈o,∀x∈t,f x=f n->x=n)->kw (t.map f) k (o.map f)=kw t k o
 |[],_,_=>rfl
 |n::o,k,h=>by
  have h1:=h n X6;have ih:=qqx (t:=t) (o:=o) (k+1) λm hm=>h m (lc9 _ hm)
  rw[List.map_cons];unfold kw;rw[kv6 h1,kqw h1,ih]
theorem qvy{s t:Sn}(h:∀n∈nms s,∀x∈nms t,f x=f n->x=n):vz (qK f s) (qK f t)=vz s t:=by
 unfold vz;rw[kj6,kj6,kqm,kqm,qqx 0 h]
theorem qkm{ks:List Int}{c i:Int}(h:i.toNat<ks.length+1):C.nameAt (ks.map f) (f c) i=f (C.nameAt ks c i):=by
 unfold C.nameAt;rw[show ks.map f++[f c]=(ks++[c]).map f by simp,X4,X4,Xh,X1 (by simpa using h)];rfl
theorem qkl{ks:List Int}{c i:Int}(h:i.toNat<ks.length+1):C.nameAt ks c i∈ks\/C.nameAt ks c i=c:=by
 unfold C.nameAt;rw[X4,X1 (by simpa using h)];have:(ks++[c])[i.toNat]'(by simpa using h)∈ks++[c]:=Xw _;rcases aA this with q|q
 ·exact .inl q
 ·exact .inr (by simpa using q)
theorem qky{ss:List Str}{st:List D}{ks:List Int}{z:Str}{c:Int}(h:∀x∈ks,f x=f c->x=c):zZ ss st (ks.map f) z (f c)=zZ ss st ks z c:=by
 unfold zZ;rw[kqw h]
def kY(kps:List Int)(s:Sn):Prop:=∀room ks,s=some (room,ks)->0<=room/\room<kps.length/\(ks.length:Int)=kps.getD room.toNat 0
theorem wj8{kps:List Int}{ss:List Str}{rs:List D}{S:Sn}{z:Str}{c:Int}(hP:Prs kps ss.length rs)(hk:Kq9 kps)(hS:kY kps S)(ml:∀x∈nms S,f x=f c->x=c):
  ∃ s':Sn,Rd kps ss rs (stn S) (z,c) (stn s')/\Rd kps ss rs (stn (qK f S)) (z,f c) (stn (qK f s'))/\(∀n∈nms s',n∈nms S\/n=c)/\(nms s').length<=100/\kY kps s':=by
 cases S with
 | none=>exact⟨none,.inl ⟨rfl,rfl⟩,.inl ⟨rfl,rfl⟩,λ_ h=>(nomatch h),Yd _,λ_ _ h=>(nomatch h)⟩
 | some P=>
  obtain⟨room,ks⟩:=P;obtain⟨r0,r1,hl⟩:=hS room ks rfl;obtain⟨r,er,gd,st,rfl,gw,bc⟩:=hP.2 room.toNat ⋯;have ql:=hk (kps.getD room.toNat 0) (by rw[X4,X1 ⋯];exact Xw _);have ig:Cas kps ss.length ks.length st:=⟨gw,by rw[hl];exact bc⟩;have qg:Cas kps ss.length (ks.map f).length st:=by rw[X3];exact ig
  have inj:∀x∈ks,f x=f c->x=c:=ml;have done:∀s':Sn,wK ss st ks z c=stn s'->wK ss st (ks.map f) z (f c)=stn (qK f s')->(∀n∈nms s',n∈ks\/n=c)->(nms s').length<=100->kY kps s'->∃s':Sn,Rd kps ss rs (stn (some (room,ks))) (z,c) (stn s')/\Rd kps ss rs (stn (qK f (some (room,ks)))) (z,f c) (stn (qK f s'))/\(∀n∈nms s',n∈nms (some (room,ks))\/n=c)/\(nms s').length<=100/\kY kps s':=λs' h1 h2 h3 h4 h5=>
   ⟨s',.inr ⟨room,ks,st,_,_,rfl,r0,er,ig,⋯,h1.symm⟩,.inr ⟨room,ks.map f,st,_,_,rfl,r0,er,qg,by rw[X3];omega,h2.symm⟩,h3,h4,h5⟩
  cases hz:(ss.any λw=>w==z)with
  | false=>
   refine done none ?_ ?_ (λ_ h=>(nomatch h)) (Yd _) (λ_ _ h=>(nomatch h))
   ·unfold wK;rw[hz];rfl
   ·unfold wK;rw[hz];rfl
  | true=>
   obtain⟨cs,g1,g2,g3,g4⟩:=qjx c ig hz;have e1:wK ss st ks z c=qxu ks c (zZ ss st ks z c):=by unfold wK;rw[hz,X8 rfl]
   have e2:wK ss st (ks.map f) z (f c)=qxu (ks.map f) (f c) (zZ ss st ks z c):=by unfold wK;rw[hz,X8 rfl,qky inj]
   rcases g4 with e|⟨to,fs,e,t0,t1,jn,_,hfl⟩
   ·refine done none ?_ ?_ (λ_ h=>(nomatch h)) (Yd _) (λ_ _ h=>(nomatch h))
    ·rw[e1,e];rfl
    ·rw[e2,e];rfl
   ·have hb:=qz4 (own:=ks.length) (k:=(ks.findIdx λw=>w==c:Nat));have cb:∀i∈fs,i.toNat<ks.length+1:=λi hi=>by have:=jn i hi;omega
    refine done (some (to,fs.map (C.nameAt ks c))) ?_ ?_ (λn hn=>?_) ?_ (λrh ks' h=>?_)
    ·rw[e1,e,caseD_is];rfl
    ·rw[e2,e,caseD_is];show D.tup [.int to,iT (fs.map (C.nameAt (ks.map f) (f c)))]=D.tup [.int to,iT ((fs.map (C.nameAt ks c)).map f)];rw[Xm]
     congr 4
     exact Yf λi hi=>qkm (cb i hi)
    ·obtain⟨i,hi,rfl⟩:=aE hn;exact qkl (cb i hi)
    ·show(fs.map (C.nameAt ks c)).length<=100;rw[X3];have:=hk (kps.getD to.toNat 0) (by rw[X4,X1 ⋯];exact Xw _);omega
    ·injection h with h;injection h with h3 h4;subst h3 h4;exact⟨t0,t1,by rw[X3];exact hfl⟩
end
end B
namespace B
open PySem Q
def m__law_cell_at:Fn:=fn 2
  (j7 (sIf (tE (cF2 (pu2 fLt) (vV 1) (vE (cF1 (pu1 v6) (vV 0))))) (k7 (cH (jv (vV 0) (vV 1)))) wv)
  (k7 (cC (.int 0))))
noncomputable def m__law_stream:Fn:=fn 5
  (j7 (jq 2 (wx .rt []))
  (j7 (sIf (tE (cF2 (pu2 fEq) (vE (cF2 (pu2 k9) (vV 0) (C9 2))) (C9 1))) (j7 (jq 0 (cF2 (pu2 wW) (vV 0) (C9 2)))
  (j7 (vQ (xk (vV 1)) (.n 3) (j7 (vJ vW 2 (cF2 (pu2 k9) (vV 0) (C9 2147483647)))
  (jq 0 (cF2 (pu2 wW) (vV 0) (C9 2147483647)))))
  (k7 (cMv 2)))) wv)
  (j7 (jq 4 (cF2 kq (vE (cF2 (pu2 k9) (vE (cF2 (pu2 wW) (vV 0) (C9 2))) (C9 2147483647))) (C9 48271)))
  (j7 (vQ (xk (vE (cF2 kq (vV 1) (C9 1)))) (.n 3) (j7 (jq 4 (cF2 (pu2 k9) (vE (cF2 kq (vE (cF2 kq (vE (cF2 xW (vV 4) (vV 4))) (vE (cF2 xW (C9 48271) (vV 4))))) (vV 3))) (C9 2147483647)))
  (vJ vW 2 (cF2 (pu2 k9) (vE (cF2 kq (vE (cF2 xW (vV 4) (C9 40692))) (vE (cF2 xW (C9 7) (vV 3))))) (C9 2147483399)))))
  (k7 (cSl (vV 2) (some (C9 1)) none))))))
noncomputable def m__law_signs:Fn:=fn 7
  (j7 (jq 1 (cC (.str "abcdefghijklmnopqrstuvwxyz")))
  (j7 (jq 2 (jz m__law_stream [(cV 0),(cC (.int 9))]))
  (j7 (jq 3 (vka "" (vE (cLC .rt 1 [1] (itS (cSl (vV 2) none (some (vE (cF2 kq (C9 1) (vE (cF2 (pu2 k9) (vV 0) (C9 8)))))))) (.n 0) tYes (cH (jv (vV 1) (vE (cF2 (pu2 k9) (vV 0) (C9 26)))))))))
  (j7 (jq 4 (cF2 (pu2 k9) (vE (cF2 (pu2 wW) (vV 0) (C9 8))) (vE (cF1 (pu1 v6) (vV 3)))))
  (j7 (jq 5 (wx .rt []))
  (j7 (vQ (xk (jv (vE (wx .rt [(cC (.int 1)),(cC (.int 2)),(cC (.int 1)),(cC (.int 2)),(cC (.int 2)),(cC (.int 1)),(cC (.int 2)),(cC (.int 3))])) (vE (cF2 (pu2 k9) (vE (cF2 (pu2 wW) (vV 0) (C9 64))) (C9 8))))) (.n 6) (vJ vW 5 (cF2 kq (vE (cF2 kq (vE (cSl (vV 3) none (some (vV 4)))) (jv (vV 1) (vE (cF2 kq (vE (cF2 (pu2 k9) (jv (vV 2) (C9 8)) (C9 24))) (vV 6)))))) (vE (cSl (vV 3) (some (vE (cF2 kq (vV 4) (C9 1)))) none)))))
  (k7 (cMv 5))))))))
def m__law_fills:Fn:=fn 6
  (j7 (jq 3 (VX (vV 2)))
  (j7 (jq 4 (wx .rt []))
  (j7 (vQ (xk (vV 1)) (.n 5) (j7 (vJ vW 4 (wv5 3 (vE (cF2 (pu2 k9) (vV 0) (vE (cF1 (pu1 v6) (vV 3)))))))
  (jq 0 (cF2 kq (vE (cF2 (pu2 wW) (vV 0) (C9 7))) (vE (cF2 xW (C9 5) (vV 5)))))))
  (k7 (cF1 K1 (vV 4))))))
noncomputable def m__law_case:Fn:=fn 5
  (j7 (sIf (tE (cF2 (pu2 fEq) (vE (cF2 (pu2 k9) (vV 0) (C9 5))) (C9 4))) (k7 (cC .non)) wv)
  (j7 (jq 3 (cLC .rt 1 [1,2] (xk (vE (cF1 (pu1 v6) (vV 1)))) (.n 0) (tE (cF2 (pu2 fLe) (jv (vV 1) (vV 0)) (vV 2))) (cV 0)))
  (j7 (jq 4 (cH (jv (vV 3) (vE (cF2 (pu2 k9) (vE (cF2 (pu2 wW) (vV 0) (C9 5))) (vE (cF1 (pu1 v6) (vV 3))))))))
  (k7 (qz .no [(cV 4),(jz m__law_fills [(cF2 (pu2 wW) (vV 0) (C9 35)),(cH (jv (vV 1) (vV 4))),(cV 2)])])))))
noncomputable def m__law_plain:Fn:=fn 13
  (j7 (jq 2 (jz m__law_stream [(cV 0),(cC (.int 90))]))
  (j7 (jq 3 (cH (jv (vE (wx .rt [(cC (.int 1)),(cC (.int 2)),(cC (.int 3)),(cC (.int 4)),(cC (.int 5)),(cC (.int 2)),(cC (.int 4)),(cC (.int 6))])) (vE (cF2 (pu2 k9) (jv (vV 2) (C9 0)) (C9 8))))))
  (j7 (jq 4 (cC (.int 2)))
  (j7 (sIf (tAnd (tE (cF2 (pu2 fEq) (vV 3) (C9 3))) (tE (cF2 (pu2 fEq) (vE (cF2 (pu2 k9) (jv (vV 2) (C9 1)) (C9 3))) (C9 0)))) (jq 4 (cC (.int 3))) wv)
  (j7 (jq 5 (cF2 kq (vE (wx .rt [(cC (.int 0))])) (vE (cLC .rt 1 [2,4] (xk (vE (cF2 (pu2 VQ) (vV 3) (C9 1)))) (.n 0) tYes (cF2 (pu2 k9) (vE (cF2 (pu2 wW) (jv (vV 1) (vE (cF2 kq (C9 1) (vV 0)))) (C9 3))) (vE (cF2 kq (vV 2) (C9 1))))))))
  (j7 (jq 6 (wx .rt []))
  (j7 (jq 7 (cC (.int 8)))
  (j7 (vQ (xk (vV 3)) (.n 8) (j7 (jq 9 (wx .rt []))
  (j7 (vQ (xk (vE (cF1 (pu1 v6) (vV 1)))) (.n 10) (j7 (jq 11 (wx .rt []))
  (j7 (vQ (xk (vE (cF2 kq (jv (vV 5) (vV 8)) (C9 1)))) (.n 12) (j7 (vJ vW 11 (jz m__law_case [(cH (jv (vV 2) (vV 7))),(cV 5),(cF2 kq (jv (vV 5) (vV 8)) (vE (cF1 (pu1 XQ) (vE (cF2 (pu2 fEq) (vV 12) (jv (vV 5) (vV 8)))))))]))
  (jq 7 (cF2 kq (vV 7) (C9 1)))))
  (vJ vW 9 (cV 11)))))
  (j7 (vJ vW 6 (qz .no [(cH (jv (vV 5) (vV 8))),(cF2 (pu2 fEq) (vE (cF2 (pu2 k9) (jv (vV 2) (vV 7)) (C9 2))) (C9 0)),(cV 9)]))
  (jq 7 (cF2 kq (vV 7) (C9 1)))))))
  (k7 (qz .no [(cF1 QX (vV 1)),(cV 6)]))))))))))
end B
namespace B
open Q PySem C
def xZ(ns:List Int)(k:Nat):Int:=ns.getD k 0
theorem V7(ns:List Int)(k:Nat)(hn:ns.length<=10000):Oo m__law_cell_at [(.no,iL ns),(.no,.int k)] (λy=>∃o':Own,y=(o',.int (xZ ns k))/\True) noX:=by
 unfold m__law_cell_at;refine kJ ?_;simp![]
 by_cases h:(k:Int)<ns.length
 ·have hx:jW (iL ns) (.int k)=some (.int (xZ ns k)):=by
   refine wQ ⋯ ?_;unfold xZ;rw[Xq,Xh,X1 ⋯,X4,X1 ⋯];rfl
  have hd:decide ((k:Int)<ns.length)=true:=Xi h;rw[X8 hd];simp![hx];exact⟨_,rfl,trivial⟩
 ·have hd:¬decide ((k:Int)<ns.length)=true:=by rw[Xj h];decide
  rw[Xf hd];refine⟨.dp,?_,trivial⟩;rw[show xZ ns k=0 by unfold xZ;rw[X4,Xx ⋯];rfl]
def St(n:Int)(xs:List Int):Prop:=(xs.length:Int)=n/\∀x∈xs,0<=x/\x<2147483647
theorem jzy(c n:Int)(hn:0<=n)(kh:n<=100):Oo m__law_stream [(.no,.int c),(.no,.int n)] (λy=>∃xs,y=(.rt,iL xs)/\St n xs) noX:=by
 unfold m__law_stream;refine kJ ?_
 by_cases h:c % 2=1
 ·have hd:(c % 2==1)=true:=by simp[h]
  simp![eqi hd];refine xY (λE a9=>∃(j v:Int) (xs:List Int) (l3:Option Sd),E=[some (.dp,.int v),some (.no,.int n),some (.rt,iL xs),l3,none]/\0<=j/\j<=n/\a9=k8 j n/\St j xs) ?_ ?_ ?_
  ·simp![];exact⟨0,_,[],_,rfl,⋯,hn,rfl,rfl,λ_ z=>nomatch z⟩
  ·rintro E d ds ⟨j,v,xs,l3,rfl,j0,j1,hr,hx⟩;obtain⟨hj,rfl,rfl⟩:=JZ j1 hr;simp![];refine zJ rfl ?_;simp![];refine⟨_,rfl,by rw[X3];have:=hx.1;omega,?_⟩;simp![];refine⟨j+1,v / 2147483647,xs++[v % 2147483647],some (.no,.int j),by simp,⋯,⋯,rfl,by have:=hx.1;simp;omega,λx hm=>?_⟩;rcases aA hm with z|z
   ·exact hx.2 x z
   ·rw[aC z];omega
  ·rintro E ⟨j,v,xs,l3,rfl,j0,j1,hr,hx⟩;have:=KK j1 hr;subst this;simp![];exact⟨xs,rfl,hx⟩
 ·have hd:(c % 2==1)=false:=Y8 h;simp![eqi hd];refine xY (λE a9=>∃(j v:Int) (xs:List Int) (l3:Option Sd),E=[some (.no,.int c),some (.no,.int n),some (.rt,iL xs),l3,some (.dp,.int v)]/\0<=j/\j<=n+1/\a9=k8 j (n+1)/\St j xs/\0<=v/\v<4294967296) ?_ ?_ ?_
  ·simp![];exact⟨0,_,[],_,rfl,⋯,⋯,rfl,⟨rfl,λ_ z=>nomatch z⟩,⋯,⋯⟩
  ·rintro E d ds ⟨j,v,xs,l3,rfl,j0,j1,hr,hx,v0,v1⟩;obtain⟨hj,rfl,rfl⟩:=JZ j1 hr;have hm:=mul_l (o1:=.dp) (o2:=.dp) (a:=v) (b:=v) ⋯ ⋯;simp![hm];generalize hw:(v*v+48271*v+j) % 2147483647=u;have u0:0<=u/\u<2147483647:=by rw[<-hw];omega
   have ip:=mul_l (o1:=.dp) (o2:=.dp) (a:=u) (b:=40692) ⋯ ⋯;refine zJ rfl ?_;simp![ip];refine⟨_,rfl,by rw[X3];have:=hx.1;omega,?_⟩;refine⟨j+1,u,xs++[(u*40692+7*j) % 2147483399],some (.no,.int j),by simp,⋯,⋯,rfl,⟨by have:=hx.1;simp;omega,λx hm=>?_⟩,⋯,⋯⟩;rcases aA hm with z|z
   ·exact hx.2 x z
   ·rw[aC z];omega
  ·rintro E ⟨j,v,xs,l3,rfl,j0,j1,hr,hx,v0,v1⟩;have:=KK j1 hr;subst this;simp![qqv (o:=.rt) (xs:=xs.map D.int) (lo:=some 1) (hi:=none) ⋯];have hl:=hx.1;have hcut:z8 (xs.map D.int) (some 1) none=(xs.drop 1).map D.int:=by
    unfold z8 J5;dsimp only;rw[Xf ⋯,X3,show min (1:Int).toNat xs.length=1 by show min 1 xs.length=1;omega,<-List.map_drop,Zb (by rw[X3,Zl];omega)]
   rw[hcut];exact⟨xs.drop 1,rfl,by rw[Zl];omega,λx hm=>hx.2 x (List.mem_of_mem_drop hm)⟩
theorem qv2(n:Nat):((List.range n).map λ(j:Nat)=>(j:Int)).Nodup:=List.Pairwise.map (λ(j:Nat)=>(j:Int)) (λa b h e=>h (by have:(a:Int)=(b:Int):=e;omega)) List.nodup_range
theorem vjz(x gy free:Int)(h0:0<=gy)(h1:gy<=free)(h2:free<=100):Oo m__law_fills [(.no,.int x),(.no,.int gy),(.no,.int free)] (λy=>∃fs:List Int,y=(.no,.tup (fs.map D.int))/\(fs.length:Int)=gy/\(∀f∈fs,0<=f/\f<free)/\fs.Nodup) noX:=by
 unfold m__law_fills;refine kJ ?_;simp![];rw[vkn];refine xY (λE a9=>∃(j v:Int) (o:Own) (sm fl:List Int) (l5:Option Sd),E=[some (o,.int v),some (.no,.int gy),some (.no,.int free),some (.rt,iL sm),some (.rt,iL fl),l5]/\0<=j/\j<=gy/\a9=k8 j gy/\(fl.length:Int)=j/\(sm.length:Int)+fl.length=free/\(fl++sm).Nodup/\∀f∈fl++sm,0<=f/\f<free) ?_ ?_ ?_
 ·simp![];refine⟨0,x,.no,(List.range free.toNat).map λ(j:Nat)=>(j:Int),[],none,rfl,⋯,h0,rfl,rfl,?_,?_,?_⟩
  ·simp;omega
  ·rw[List.nil_append];exact qv2 _
  ·intro f hf;rw[List.nil_append]at hf;obtain⟨j,hj,rfl⟩:=aE hf;have:=List.mem_range.mp hj;omega
 ·rintro E d ds ⟨j,v,o,sm,fl,l5,rfl,j0,j1,hr,hl,hs,hn,hm⟩;obtain⟨hj,rfl,rfl⟩:=JZ j1 hr;have hsm:0<sm.length:=⋯
  have u0:=Y6 v (show(sm.length:Int)≠0 by omega);have u1:=Xy v (show(0:Int)<sm.length by omega);have hi:(v % sm.length).toNat<sm.length:=⋯
  simp![];refine zJ rfl ?_;refine wk4 rfl ?_;simp![mod_i (a:=v) (b:=(sm.length:Int)) ⋯];refine⟨.rt,_,_,.int (sm[(v % sm.length).toNat]),rfl,⋯,rfl,u0,⋯,by rw[Xh,X1 hi];rfl,rfl,?_⟩;simp![];refine⟨_,rfl,by rw[X3];omega,?_⟩;simp![];have pm:(fl++[sm[(v % sm.length).toNat]]++sm.eraseIdx (v % sm.length).toNat).Perm (fl++sm):=by
   rw[Xu];exact List.Perm.append_left fl (WY hi)
  refine⟨j+1,v / 7+5*j,.dp,sm.eraseIdx (v % sm.length).toNat,fl++[sm[(v % sm.length).toNat]],some (.no,.int j),?_,⋯,⋯,rfl,?_,?_,pm.nodup_iff.mpr hn,λf hf=>hm f (pm.mem_iff.mp hf)⟩
  ·simp only[iL,X9,List.map_cons,List.map_nil,kwu]
  ·rw[Xd];simp;omega
  ·rw[List.length_eraseIdx_of_lt hi,Xd];simp;omega
 ·rintro E ⟨j,v,o,sm,fl,l5,rfl,j0,j1,hr,hl,hs,hn,hm⟩;have:=KK j1 hr;subst this;simp![Q.tup_l (o:=.rt) (xs:=fl.map D.int) ⋯];exact⟨fl,rfl,hl,λf hf=>hm f (ll9 _ hf),(List.nodup_append.mp hn).1⟩
theorem qjw(x free:Int)(kps:List Int)(hk:Kq9 kps)(lx:kps[0]?=some 0)(hl:kps.length<=100)(hf:0<=free)(hf2:free<=100):Oo m__law_case [(.no,.int x),(.no,iL kps),(.no,.int free)] (λy=>Cs kps free y.2) noX:=by
 have ab:0<kps.length:=by
  cases kps with| nil=>cases lx| cons=>simp
 unfold m__law_case;refine kJ ?_
 by_cases h:x % 5=4
 ·have hd:(x % 5==4)=true:=by simp[h]
  simp![eqi hd];exact .inl rfl
 ·have hd:(x % 5==4)=false:=Y8 h;simp![eqi hd];refine KY (λE1 B ds aa=>E1=[some (.no,.int x),some (.no,iL kps),some (.no,.int free),none,none]/\∃(j:Int) (q0:Option Sd) (fl:List Int),B=[q0,some (.no,iL kps),some (.no,.int free)]/\0<=j/\j<=kps.length/\ds=k8 j kps.length/\aa.map (·.2)=fl.map D.int/\(∀t∈fl,0<=t/\t<kps.length/\kps.getD t.toNat 0<=free)/\(0<j->fl≠[])/\(fl.length:Int)<=j) ?_ ?_ ?_
  ·simp![];exact⟨0,none,[],rfl,⋯,⋯,rfl,rfl,λ_ z=>(nomatch z),λz=>absurd z ⋯,by simp⟩
  ·rintro E1 B d ds aa ⟨rfl,j,q0,fl,rfl,j0,j1,hr,ay,hfl,b8,ff⟩;obtain⟨hj,rfl,rfl⟩:=JZ j1 hr;have hjl:j.toNat<kps.length:=⋯
   have hx:jW (iL kps) (.int j)=some (.int (kps.getD j.toNat 0)):=wQ j0 (by rw[Xh,X1 hjl,X4,X1 hjl];rfl)
   by_cases hz:kps.getD j.toNat 0<=free
   ·have fy:decide (kps.getD j.toNat 0<=free)=true:=Xi hz;simp![hx,fy];refine⟨j+1,_,fl++[j],rfl,⋯,⋯,rfl,by rw[X9,X9,ay];rfl,λt ht=>?_,λ_=>by simp,by simp;omega⟩;rcases aA ht with q|q
    ·exact hfl t q
    ·rw[aC q];exact⟨j0,⋯,hz⟩
   ·have fy:decide (kps.getD j.toNat 0<=free)=false:=Xj hz;have hj0:0<j:=by
     rcases Int.lt_or_eq_of_le j0 with q|q
     ·exact q
     ·subst q;exfalso;apply hz;rw[X4];show(kps[0]?).getD 0<=free;rw[lx];exact hf
    simp![hx,fy];exact⟨j+1,_,fl,rfl,⋯,⋯,rfl,ay,hfl,λ_=>b8 hj0,⋯⟩
  ·rintro E1 B aa ⟨rfl,j,q0,fl,rfl,j0,j1,hr,ay,hfl,b8,ff⟩;have:=KK j1 hr;subst this;have hfl0:0<fl.length:=List.length_pos_iff.mpr (b8 ⋯);have u0:=Y6 (x / 5) (show(fl.length:Int)≠0 by omega);have u1:=Xy (x / 5) (show(0:Int)<fl.length by omega);have hi:(x / 5 % fl.length).toNat<fl.length:=⋯
   obtain⟨t,et⟩:∃t,fl[(x / 5 % fl.length).toNat]?=some t:=⟨_,X1 hi⟩;obtain⟨t0,t1,t2⟩:=hfl t (List.mem_of_getElem? et);have hx:jW (iL fl) (.int (x / 5 % fl.length))=some (.int t):=wQ u0 (by rw[Xh,et];rfl);have htl:t.toNat<kps.length:=⋯
   have hy:jW (iL kps) (.int t)=some (.int (kps.getD t.toNat 0)):=wQ t0 (by rw[Xh,X1 htl,X4,X1 htl];rfl);have sf:=hk (kps.getD t.toNat 0) (by rw[X4,X1 htl];exact Xw _);rw[zx,ay,show J6 1 [1,2] [q0,some (Own.no,iL kps),some (Own.no,D.int free)] [some (Own.no,D.int x),some (Own.no,iL kps),some (Own.no,D.int free),none,none]=[some (Own.no,D.int x),some (Own.no,iL kps),some (Own.no,D.int free),none,none]from rfl];simp![mod_i (a:=x / 5) (b:=(fl.length:Int)) ⋯,hx,hy];refine(vjz (x / 35) (kps.getD t.toNat 0) free sf.1 t2 hf2).use ?_;rintro fs ⟨f1,f2,f3⟩;simp![];exact .inr ⟨t,fs,rfl,t0,t1,f2,f3,f1⟩
def Gdr(rs:List D)(room:Int)(g:Bool):Prop:=(room=-1/\g=false)\/(0<=room/\∃k st,rs[room.toNat]?=some (.tup [k,.bl g,st]))
theorem nei{a b:Int}{k:Bool}(h:(a==b)=k):fNe (.int a) (.int b)=some (.bl !k):=by rw[<-h];rfl
theorem qx7{ss:List Str}{rs:List D}{room:Int}{g:Bool}(h:Gdr rs room g):Oo m_is_good_in [(.no,jJ ss rs),(.no,.int room)] (λy=>∃o':Own,y=(o',.bl g)/\True) noX:=by
 unfold m_is_good_in;refine kJ ?_;rcases h with⟨rfl,rfl⟩|⟨h0,k,st,hr⟩
 ·simp![nei (a:=-1) (b:=-1) rfl];exact⟨_,rfl,trivial⟩
 ·have b8:(room == -1)=false:=Y8 ⋯;have hi:jW (.lst rs) (.int room)=some (.tup [k,.bl g,st]):=wQ h0 hr;simp![p0,p1,nei b8,hi,show jW (.tup [k,.bl g,st]) (.int 1)=some (.bl g)from rfl];exact⟨_,rfl,trivial⟩
theorem eqb(a b:Bool):fEq (.bl a) (.bl b)=some (.bl (a==b)):=by cases a<;>cases b<;>rfl
theorem qzc{ss:List Str}{rs a7:List D}{p q:Int}{g g':Bool}{d:D}(h:Gdr rs p g)(h':Gdr a7 q g'):Oo m_agrees [(.no,jJ ss rs),(.no,jJ ss a7),(.no,.tup [.int p,.int q,d])] (λy=>∃o':Own,y=(o',.bl (g==g'))/\True) noX:=by
 have t0:jW (.tup [.int p,.int q,d]) (.int 0)=some (.int p):=rfl;have t1:jW (.tup [.int p,.int q,d]) (.int 1)=some (.int q):=rfl;unfold m_agrees;refine kJ ?_;simp![t0,t1];refine(qx7 h).use ?_;intro o1 _;simp![t0,t1];refine(qx7 h').use ?_;intro o2 _;simp![eqb];exact⟨_,rfl,trivial⟩
def kvN(N:List Int)(sh:List (Int×Int)):List (Int×Int):=sh.foldl (λkv p=>qX kv p.2 (N.getD p.1.toNat 0)) []
def qqj(N:List Int)(k:Int)(sh:List (Int×Int))(n:Nat):List Int:=(List.range n).map λ(j:Nat)=>(jZ (kvN N sh) (j:Int)).getD (N.getD (k.toNat+j) 0)
theorem vwb{m:Option Fl}{N N' C:En->Prop}{R:Sd->Prop}{X:XP}(h:Po m N C R X)(k:∀E,N E->N' E):Po m N' C R X:=by
 cases m with
 |none=>exists h
 |some r=>cases r with|nx E=>exists k E h|bk E=>exists h|ct E=>exists h|rt E x=>exists h|xc E c=>exists h
theorem Wx{a b:Sm}{E:En}{N C:En->Prop}{R:Sd->Prop}{X:XP}(I:En->Prop)(h1:Po (a E) I C R X)(h2:∀E,I E->Po (b E) N C R X):Po (j7 a b E) N C R X:=by
 rw[vq4];exact vwb h1 h2
inductive PlC (c:Int)(ss:List Str)(xs:List Int)(size m:Int)(kps:List Int)(rs:List D)(r own:Int)(st:List D)(s:Int):En->List D->Prop
 |mk (k:Int) (c9:Int) (cs:List D) {o5:Own} {o7:Own} {rz:Option Sd} {a9:List D} (h0:sub o5=.no) (h1:0<=k) (h2:k<=own+1) (h3:a9=k8 k (own+1)) (h4:(cs.length:Int)=k) (h5:8<=c9) (h6:c9<=8+(3*(m+1)+1)*r+(m+1)*s+k) (h7:∀k:Nat,k<cs.length->∃z,cs[k]?=some z/\Cs kps (vK own k) z):PlC c ss xs size m kps rs r own st s [some (.no,.int c),some (.no,sL ss),some (.rt,iL xs),some (.no,.int size),some (.dp,.int m),some (o5,iL kps),some (.rt,.lst rs),some (o7,.int c9),some (.no,.int r),some (.rt,.lst st),some (.no,.int s),some (.rt,.lst cs),rz] a9
inductive PlB (c:Int)(ss:List Str)(xs:List Int)(size m:Int)(kps:List Int)(rs:List D)(r own:Int):En->List D->Prop
 |mk (s:Int) (c9:Int) (st:List D) {o5:Own} {o7:Own} {jy:Option Sd} {l11:Option Sd} {rz:Option Sd} {a9:List D} (h0:sub o5=.no) (h1:0<=s) (h2:s<=ss.length) (h3:a9=k8 s ss.length) (h4:(st.length:Int)=s) (h5:8<=c9) (h6:c9<=8+(3*(m+1)+1)*r+(m+1)*s) (h7:∀c∈st,∃cs:List D,c=.lst cs/\(cs.length:Int)=own+1/\∀k:Nat,k<cs.length->∃z,cs[k]?=some z/\Cs kps (vK own k) z):PlB c ss xs size m kps rs r own [some (.no,.int c),some (.no,sL ss),some (.rt,iL xs),some (.no,.int size),some (.dp,.int m),some (o5,iL kps),some (.rt,.lst rs),some (o7,.int c9),some (.no,.int r),some (.rt,.lst st),jy,l11,rz] a9
inductive PlA (c:Int)(ss:List Str)(xs:List Int)(size m:Int)(kps:List Int):En->List D->Prop
 |mk (r:Int) (c9:Int) (rs:List D) {l8:Option Sd} {l9:Option Sd} {jy:Option Sd} {l11:Option Sd} {rz:Option Sd} {o5:Own} {o7:Own} {a9:List D} (h0:sub o5=.no) (h1:0<=r) (h2:r<=size) (h3:a9=k8 r size) (h4:(rs.length:Int)=r) (h5:8<=c9) (h6:c9<=8+(3*(m+1)+1)*r) (h7:∀i:Nat,i<rs.length->∃d,rs[i]?=some d/\Pr kps ss.length (kps.getD i 0) d):PlA c ss xs size m kps [some (.no,.int c),some (.no,sL ss),some (.rt,iL xs),some (.no,.int size),some (.dp,.int m),some (o5,iL kps),some (.rt,.lst rs),some (o7,.int c9),l8,l9,jy,l11,rz] a9
theorem kvy(c:Int)(ss:List Str)(hs:1<=ss.length)(mz:ss.length<=3):Oo m__law_plain [(.no,.int c),(.no,sL ss)] (λy=>∃rs,y=(.no,jJ ss rs)/\∃kps:List Int,1<=kps.length/\kps.length<=6/\kps[0]?=some 0/\(Kq9 kps)/\Prs kps ss.length rs) noX:=by
 unfold m__law_plain;refine kJ ?_;simp![];refine(jzy c 90 ⋯ ⋯).use ?_;intro xs hx;have hxl:=hx.1;have ix:∀i:Int,0<=i->i<90->∃v:Int,jW (iL xs) (.int i)=some (.int v)/\0<=v:=λi i0 i1=>by
  obtain⟨v,e,h,_⟩:=ixI xs _ hx.2 i i0 ⋯;exact⟨v,e,h.1⟩
 obtain⟨v0,e0,a0⟩:=ix 0 ⋯ ⋯;obtain⟨v1,e1,a1⟩:=ix 1 ⋯ ⋯;have q0:=Y6 v0 (show(8:Int)≠0 by decide);have q1:=Xy v0 (show(0:Int)<8 by decide);obtain⟨size,esz,sz0,sz1⟩:∃sz:Int,jW (.lst [.int 1,.int 2,.int 3,.int 4,.int 5,.int 2,.int 4,.int 6]) (.int (v0 % 8))=some (.int sz)/\1<=sz/\sz<=6:=by
  generalize v0 % 8=t at q0 q1;have:t=0\/t=1\/t=2\/t=3\/t=4\/t=5\/t=6\/t=7:=⋯
  rcases this with rfl|rfl|rfl|rfl|rfl|rfl|rfl|rfl<;>exact⟨_,rfl,⋯,⋯⟩
 refine Wx (λE=>E=[some (.no,.int c),some (.no,sL ss),some (.rt,iL xs),some (.no,.int size),none,none,none,none,none,none,none,none,none]) ?_ ?_
 ·simp![e0,esz]
 rintro E rfl;refine Wx (λE=>E=[some (.no,.int c),some (.no,sL ss),some (.rt,iL xs),some (.no,.int size),some (.dp,.int 2),none,none,none,none,none,none,none,none]) ?_ ?_
 ·simp![]
 rintro E rfl;refine Wx (λE=>∃m:Int,E=[some (.no,.int c),some (.no,sL ss),some (.rt,iL xs),some (.no,.int size),some (.dp,.int m),none,none,none,none,none,none,none,none]/\((m=2)\/(m=3/\size=3))) ?_ ?_
 ·by_cases h3:size=3
  ·have hb:(size==3)=true:=by simp[h3]
   by_cases h4:v1 % 3=0
   ·have dj:(v1 % 3==0)=true:=by simp[h4]
    simp![e1,eqi hb,eqi dj];exact⟨3,rfl,.inr ⟨rfl,h3⟩⟩
   ·have dj:(v1 % 3==0)=false:=Y8 h4;simp![e1,eqi hb,eqi dj];exact⟨2,rfl,.inl rfl⟩
  ·have hb:(size==3)=false:=Y8 h3;simp![eqi hb];exact⟨2,rfl,.inl rfl⟩
 rintro E ⟨m,rfl,hm⟩;have hm0:2<=m/\m<=3:=by rcases hm with rfl|⟨rfl,_⟩<;>omega
 simp![];refine VJ [some (.rt,iL xs),some (.dp,.int m)] (λ_ y=>∃i,y=(.dp,.int i)/\0<=i/\i<=m) ?_;simp![];refine⟨rfl,λd ju=>?_,λys hy=>?_⟩
 ·obtain⟨i,i0,i1,rfl⟩:=kz4 ju;obtain⟨w,ew,aw⟩:=ix (1+i) ⋯ ⋯;have:=Y6 (w / 3) (show m+1≠0 by omega);have:=Xy (w / 3) (show 0<m+1 by omega);simp![ew,mod_i (a:=w / 3) (b:=m+1) ⋯];exact⟨⟨_,rfl⟩,_,rfl,⋯,⋯⟩
 obtain⟨ks,h1,h2,h3⟩:=kx0 (S:=λi=>0<=i/\i<=m) (λd y ⟨i,h,s⟩=>⟨i,by rw[h],s⟩) hy;rw [zx,h1];simp only[back,clr,at',List.map_cons,List.map_nil,List.set_cons_zero,List.set_cons_succ];have n8:((0::ks).length:Int)=size:=by rw[Xp];have:=vwz (k:=0) (n:=size - 1) ⋯;omega
 have qf:∀p∈(0::ks:List Int),0<=p/\p<=m:=λp hp=>by
  rcases aD hp with rfl|hp
  ·exact⟨⋯,⋯⟩
  ·exact h3 p hp
 have ql:∀p∈(0::ks:List Int),0<=p/\p<=3:=λp hp=>by have:=qf p hp;omega
 have gq:kq (.no,.lst [.int 0]) (.no,.lst (ks.map D.int))=some (.rt,iL (0::ks)):=vqv ⋯ ⋯ (by rw[X3];simp at n8 ⊢;omega);have lx:(0::ks:List Int)[0]?=some 0:=rfl;simp![gq];generalize (0::ks:List Int)=kps at n8 qf ql gq lx;refine xY (PlA c ss xs size m kps) ?_ ?_ ?_
 ·simp![];exact⟨0,8,[],rfl,⋯,⋯,rfl,rfl,⋯,⋯,λi hi=>nomatch hi⟩
 ·rintro E d ds ⟨r,c9,rs,hs5,r0,r1,hr,pr,at0,at1,hrs⟩;obtain⟨hrk,rfl,rfl⟩:=JZ r1 hr;obtain⟨own,eo,⟨ow0,ow1⟩,how⟩:=ixI kps _ qf r r0 ⋯;simp![];refine xY (PlB c ss xs size m kps rs r own) ?_ ?_ ?_
  ·simp![];exact⟨0,c9,[],hs5,⋯,⋯,rfl,rfl,⋯,⋯,λc hc=>nomatch hc⟩
  ·rintro E d ds ⟨s,c9,st,hs5,s0,s1,hr,gw,at0,at1,bc⟩;obtain⟨hsk,rfl,rfl⟩:=JZ s1 hr;simp![];refine xY (PlC c ss xs size m kps rs r own st s) ?_ ?_ ?_
   ·simp![eo,hs5];exact⟨0,c9,[],hs5,⋯,⋯,rfl,rfl,⋯,⋯,λc hc=>nomatch hc⟩
   ·rintro E d ds ⟨k,c9,cs,hs5,k0,k1,hr,da,at0,at1,fg⟩;obtain⟨hkk,rfl,rfl⟩:=JZ k1 hr;have gr:c9<90:=by rcases hm with rfl|⟨rfl,_⟩<;>omega
    obtain⟨w,ew,aw⟩:=ix c9 ⋯ gr;have hb1:own+(if k=own then(1:Int)else 0)=vK own k:=rfl;have hB0:0<=vK own k/\vK own k<=4:=by unfold vK;split<;>omega
    simp![];refine zJ rfl ?_;simp![eo,ew,Zq,vxi,hb1,hs5];refine(qjw w (vK own k) kps ql lx ⋯ hB0.1 ⋯).via ?_;intro y hy;simp![];refine⟨_,rfl,⋯,k+1,c9+1,cs++[y.2],rfl,⋯,⋯,rfl,by simp;omega,⋯,⋯,?_⟩;intro j hj;rw[Xd,Y0]at hj
    by_cases mv:j<cs.length
    ·obtain⟨z,z1,z2⟩:=fg j mv;exact⟨z,by rw[Yb mv];exact z1,z2⟩
    ·have:j=cs.length:=⋯
     subst this;exact⟨y.2,by simp,by rw[da];exact hy⟩
   ·rintro E ⟨k,c9,cs,hs5,k0,k1,hr,da,at0,at1,fg⟩;have:=KK k1 hr;subst this;refine zJ rfl ?_;simp![];refine⟨_,rfl,⋯,s+1,c9,st++[.lst cs],hs5,⋯,⋯,rfl,by simp;omega,⋯,by rcases hm with rfl|⟨rfl,_⟩<;>omega,λc hc=>?_⟩;rcases aA hc with z|z
    ·exact bc c z
    ·rw[aC z];exact⟨cs,rfl,da,fg⟩
  ·rintro E ⟨s,c9,st,hs5,s0,s1,hr,gw,at0,at1,bc⟩;have:=KK s1 hr;subst this;have gr:c9<90:=by rcases hm with rfl|⟨rfl,_⟩<;>omega
   obtain⟨w,ew,_⟩:=ix c9 ⋯ gr;simp![];refine zJ rfl ?_;simp![eo,ew,Zq,hs5];refine⟨_,rfl,⋯,?_⟩;simp![];refine PlA.mk (r+1) (c9+1) (rs++[.tup [.int own,.bl (w % 2==0),.lst st]]) hs5 ?_ ?_ rfl ?_ ?_ ?_ ?_
   ·omega
   ·omega
   ·simp;omega
   ·omega
   ·rcases hm with rfl|⟨rfl,_⟩<;>omega
   intro j hj;rw[Xd,Y0]at hj
   by_cases mv:j<rs.length
   ·obtain⟨z,z1,z2⟩:=hrs j mv;exact⟨z,by rw[Yb mv];exact z1,z2⟩
   ·have:j=rs.length:=⋯
    subst this;refine⟨_,by simp;rfl,?_⟩;have hg:kps.getD rs.length 0=own:=by rw[X4,show rs.length=r.toNat by omega,how];rfl
    rw[hg];exact⟨_,st,rfl,⋯,bc⟩
 ·rintro E ⟨r,c9,rs,hs5,r0,r1,hr,pr,at0,at1,hrs⟩;have:=KK r1 hr;subst this;simp![kwa (o:=.no) (xs:=ss.map D.str) ⋯];exact⟨rs,rfl,kps,⋯,⋯,lx,ql,⟨⋯,λi hi=>hrs i ⋯⟩⟩
theorem nin_i{p:Int}{ks:List Int}:JQ (.int p) (iL ks)=some (.bl (!(ks.any λw=>w==p))):=by
 show K8 (.int p) (iL ks)=_;unfold K8;have:fIn (.int p) (iL ks)=some (.bl (ks.any λw=>w==p)):=in_i;rw[this];rfl
theorem kwz{G:D->Sd->Prop}(hG:∀d y,G d y->∃c:Nat,y.2=.str ⟨#[c]⟩):∀{ds:List D} {ys:List Sd},Each G ds ys->∃ps:List Str,ys.map (·.2)=ps.map D.str/\ps.length=ds.length/\∀p∈ps,p.length=1
 |[],[],_=>⟨[],rfl,rfl,λ_ h=>nomatch h⟩
 |d::ds,y::ys,r=>by
  obtain⟨i,e⟩:=hG d y r.1;obtain⟨ps,h1,h2,h3⟩:=kwz hG r.2;exact⟨⟨#[i]⟩::ps,by simp[e,h1],by simp[h2],λp hp=>(aD hp).elim (λz=>z▸rfl) (h3 p)⟩
theorem kzr:∀{ps:List Str},(∀p∈ps,p.length=1)->(ps.map (·.length)).sum=ps.length
 |[],_=>rfl|p::ps,h=>by rw[List.map_cons,List.sum_cons,h p X6,kzr λq hq=>h q (lc9 _ hq),Xp];omega
theorem vjr{y:Str}{ys:List Str}(h:y.length=1):1<=(Str.join "" (y::ys)).length:=by
 cases ys with
 |nil=>show 1<=y.length;omega
 |cons z ys=>
  show 1<=(y++""++Str.join "" (z::ys)).cps.size;rw[kky,kky];have:y.cps.size=1:=h;omega
theorem vx5{ps:List Str}(h:∀p∈ps,p.length=1)(h0:1<=ps.length)(h1:ps.length<=100):∃z:Str,YY "" (.lst (ps.map D.str))=some (.str z)/\1<=z.cps.size/\z.cps.size<=100:=by
 have hz:("":Str).length=0:=rfl;have hs:=kzr h;refine⟨Txt.join "" ps,?_,?_,?_⟩
 ·unfold YY;dsimp only;rw[kxj];dsimp only;rw[X8 (by rw[hs,hz];omega)]
 ·show 1<=(Txt.join "" ps).length;unfold Txt.join;rw[StrLaws.glued_eq_join];cases ps with|nil=>cases h0|cons y ys=>exact vjr (h y X6)
 ·show(Txt.join "" ps).length<=100;unfold Txt.join;rw[StrLaws.glued_eq_join];have:=StrLaws.join_length_le "" ps;rw[hs,hz]at this;omega
theorem wvr{o:Own}{z:Str}{lo hi:Option Int}(h:z.cps.size<=100):fSl (o,.str z) lo hi=some (.dp,.str (Txt.slice z lo hi)):=by
 have hl:(Txt.slice z lo hi).length<=z.length:=Txt.slice_le z lo hi;have h:z.length<=100:=h;show(if(Txt.slice z lo hi).length<=big then _ else none)=_;rw[X8 (by unfold big;omega)]
theorem qqw(c:Int):Oo m__law_signs [(.no,.int c)] (λy=>∃ss,y=(.rt,sL ss)/\1<=ss.length/\ss.length<=3) noX:=by
 have m0:=Y6 c (show(8:Int)≠0 by decide);have m1:=Xy c (show(0:Int)<8 by decide);unfold m__law_signs;refine kJ ?_;simp![];refine(jzy c 9 ⋯ ⋯).use ?_;intro xs hx;have hxl:=hx.1;simp![↓vzj];have gw:fSl (Own.no,iL xs) none (some (1+c % 8))=some (.rt,iL (xs.take (1+c % 8).toNat)):=by
  rw[show iL xs=.lst (xs.map D.int)from rfl,qqv (o:=.no) ⋯,qjt ⋯ (by rw[X3];omega),<-List.map_take]
 have hsl':fSl (Own.rt,iL xs) none (some (1+c % 8))=some (.rt,iL (xs.take (1+c % 8).toNat)):=by
  rw[show iL xs=.lst (xs.map D.int)from rfl,qqv (o:=.rt) ⋯,qjt ⋯ (by rw[X3];omega),<-List.map_take]
 refine VJ [some (.dp,.str "abcdefghijklmnopqrstuvwxyz")] (λ_ y=>∃c:Nat,y.2=.str ⟨#[c]⟩) ?_;simp![gw,hsl'];refine⟨rfl,λd hd=>?_,λys hys=>?_⟩
 ·obtain⟨t,ht,rfl⟩:=aE hd;have t0:=Y6 t (show(26:Int)≠0 by decide);have t1:=Xy t (show(0:Int)<26 by decide);obtain⟨ch,hc⟩:=qji "abcdefghijklmnopqrstuvwxyz" (t % 26) t0 t1;simp![hc];exact⟨⟨_,rfl⟩,ch,rfl⟩
 obtain⟨ps,h1,h2,h3⟩:=kwz (λd y h=>h) hys;have bh:ps.length=(1+c % 8).toNat:=by rw[h2,X3,Z1];omega
 obtain⟨z,hz,z0,z1⟩:=vx5 h3 ⋯ ⋯;rw[zx,h1];simp only[back,clr,at',List.map_cons,List.map_nil,List.set_cons_zero,List.set_cons_succ];have ab:v6 (.str z)=some (.int z.cps.size):=rfl;simp![hz,ab,mod_i (a:=c / 8) (b:=(z.cps.size:Int)) ⋯];generalize gr:c / 8 % (z.cps.size:Int)=a;obtain⟨m,em,mm0,mm1⟩:∃m:Int,jW (.lst [.int 1,.int 2,.int 1,.int 2,.int 2,.int 1,.int 2,.int 3]) (.int (c / 64 % 8))=some (.int m)/\1<=m/\m<=3:=by
  have q0:=Y6 (c / 64) (show(8:Int)≠0 by decide);have q1:=Xy (c / 64) (show(0:Int)<8 by decide);generalize c / 64 % 8=t at q0 q1;have:t=0\/t=1\/t=2\/t=3\/t=4\/t=5\/t=6\/t=7:=⋯
  rcases this with rfl|rfl|rfl|rfl|rfl|rfl|rfl|rfl<;>exact⟨_,rfl,⋯,⋯⟩
 obtain⟨v,ev,⟨v0,_⟩,_⟩:=ixI xs _ hx.2 8 ⋯ ⋯;refine xY (λE a9=>∃(j:Int) (ss:List Str) (l6:Option Sd) (o1 o3:Own),E=[some (.no,.int c),some (o1,.str "abcdefghijklmnopqrstuvwxyz"),some (.rt,iL xs),some (o3,.str z),some (.dp,.int a),some (.rt,sL ss),l6]/\0<=j/\j<=m/\a9=k8 j m/\(ss.length:Int)=j) ?_ ?_ ?_
 ·simp![em];exact⟨0,[],_,_,_,rfl,⋯,⋯,rfl,rfl⟩
 ·rintro E d ds ⟨j,ss,l6,o1,o3,rfl,j0,j1,hr,hl⟩;obtain⟨hj,rfl,rfl⟩:=JZ j1 hr;have u0:=Y6 v (show(24:Int)≠0 by decide);have u1:=Xy v (show(0:Int)<24 by decide);obtain⟨ch,hc⟩:=qji "abcdefghijklmnopqrstuvwxyz" (v % 24+j) ⋯ (show v % 24+j<26 by omega);have s1:=wvr (o:=.no) (z:=z) (lo:=none) (hi:=some a) ⋯;have s2:=wvr (o:=.no) (z:=z) (lo:=some (a+1)) (hi:=none) ⋯;have s1':=wvr (o:=o3) (z:=z) (lo:=none) (hi:=some a) ⋯;have s2':=wvr (o:=o3) (z:=z) (lo:=some (a+1)) (hi:=none) ⋯;have g1:(Txt.slice z none (some a)).cps.size<=100:=Ye (Txt.slice_le z none (some a)) z1;have g2:(Txt.slice z (some (a+1)) none).cps.size<=100:=Ye (Txt.slice_le z (some (a+1)) none) z1;generalize Txt.slice z none (some a)=w1 at s1 s1' g1;generalize Txt.slice z (some (a+1)) none=w2 at s2 s2' g2;have jl:((⟨#[ch]⟩:Str).cps.size)=1:=rfl;have a1:=qzd (o1:=.no) (o2:=.no) (a:=w1) (b:=⟨#[ch]⟩) (by rw[jl];omega);have a2:=qzd (o1:=.no) (o2:=.no) (a:=w1++⟨#[ch]⟩) (b:=w2) (by rw[kky,jl];omega);have a1':=qzd (o1:=.no) (o2:=sub o1) (a:=w1) (b:=⟨#[ch]⟩) (by rw[jl];omega);simp![];refine zJ rfl ?_;simp![s1,s2,s1',s2',ev,hc,a1,a2,a1'];refine⟨_,rfl,by rw[X3];omega,?_⟩;rw[show ∀w:Str,ss.map D.str++[D.str w]=(ss++[w]).map D.str from λw=>by simp];exact⟨j+1,ss++[_],_,_,_,rfl,⋯,⋯,rfl,by simp;omega⟩
 ·rintro E ⟨j,ss,l6,o1,o3,rfl,j0,j1,hr,hl⟩;have:=KK j1 hr;subst this;simp![];exact⟨ss,rfl,⋯,⋯⟩
theorem vjj{kv:List (Int×Int)}{k v:Int}{p:Int×Int}(h:p∈qX kv k v):p∈kv\/p=(k,v):=by
 unfold qX at h
 split at h
 ·obtain⟨q,hq,rfl⟩:=aE h
  by_cases e:q.1=k
  ·rw[X8 e];exact .inr (by rw[e])
  ·rw[Xf e];exact .inl hq
 ·rcases aA h with z|z
  ·exact .inl z
  ·exact .inr (aC z)
theorem vj2(h:Int->Int)(kv:List (Int×Int))(k v:Int):(qX kv k v).map (λp=>(p.1,h p.2))=qX (kv.map λp=>(p.1,h p.2)) k (h v):=by
 unfold qX;rw[List.any_map];have:(kv.any λp=>decide (p.1=k))=kv.any ((λp=>decide (p.1=k))∘λ(p:Int×Int)=>(p.1,h p.2)):=rfl;rw[<-this]
 split
 ·rw[Xm,Xm];refine Yf λp _=>?_
  simp only[Function.comp]
  split<;>rfl
 ·rw[X9];rfl
theorem kzn(h:Int->Int)(k:Int):∀(kv:List (Int×Int)),jZ (kv.map λp=>(p.1,h p.2)) k=(jZ kv k).map h
 | []=>rfl
 | p::kv=>by
  have ih:=kzn h k kv;unfold jZ at ih ⊢;rw[List.map_cons,Yj,Yj]
  by_cases e:p.1=k
  ·simp[e]
  ·simp only[Xj e];exact ih
theorem qzm{kv:List (Int×Int)}{k v:Int}(h:jZ kv k=some v):(k,v)∈kv:=by
 unfold jZ at h;cases hf:kv.find? λp=>decide (p.1=k)with
 |none=>rw[hf]at h;cases h
 |some p=>
  rw[hf]at h;have h1:p.2=v:=by simpa using h
  have h2:p.1=k:=by simpa using List.find?_some hf
  have h3:=List.mem_of_find?_eq_some hf;rw[<-h1,<-h2];exact h3
theorem qjf(N:List Int):∀(sh kv kv':List (Int×Int)),kv'=kv.map (λp=>(p.1,N.getD p.2.toNat 0))->sh.foldl (λkv p=>qX kv p.2 (N.getD p.1.toNat 0)) kv'=(((sh.map λp=>(p.2,p.1)).foldl (λkv p=>qX kv p.1 p.2) kv).map λp=>(p.1,N.getD p.2.toNat 0))
 |[],kv,kv',h=>h
 |p::sh,kv,kv',h=>by
  rw[List.map_cons,Yq,Yq];refine qjf N sh _ _ ?_;rw[h];exact(vj2 (λi=>N.getD i.toNat 0) kv p.2 p.1).symm
theorem qqf(N:List Int)(sh:List (Int×Int))(j:Int):jZ (kvN N sh) j=(jZ (kvS sh) j).map λi=>N.getD i.toNat 0:=by
 unfold kvN kvS;rw[qjf N sh [] [] rfl];exact kzn (λi=>N.getD i.toNat 0) j _
theorem qjb:∀(ps kv:List (Int×Int)) {p:Int×Int},p∈ps.foldl (λkv p=>qX kv p.1 p.2) kv->p∈kv\/p∈ps
 | [],kv,p,h=>.inl h
 | q::ps,kv,p,h=>by
  rw[Yq]at h;rcases qjb ps _ h with z|z
  ·rcases vjj z with z|z
   ·exact .inl z
   ·exact .inr (by rw[z];exact X6)
  ·exact .inr (lc9 _ z)
theorem qqe{sh:List (Int×Int)}{j i:Int}(h:jZ (kvS sh) j=some i):(i,j)∈sh:=by
 rcases qjb _ _ (qzm h)with z|z
 ·exact nomatch z
 ·obtain⟨q,hq,e⟩:=aE z;injection e with e1 e2;rw[<-e1,<-e2];exact hq
def v3(own:Int)(kv:List (Int×Int))(n:Nat):Nat:=((nmF own kv n).filter λx=>decide (own<=x)).length
section
variable {own:Int}{kv:List (Int×Int)}
theorem WV{n:Nat}{i:Int}(h:jZ kv n=some i):nmF own kv (n+1)=nmF own kv n++[i]:=by rw[jx9,h]
theorem W6{n:Nat}(h:jZ kv n=none):nmF own kv (n+1)=nmF own kv n++[own+v3 own kv n]:=by rw[jx9,h];rfl
theorem ZW(ho:0<=own)(hv:∀j i:Int,jZ kv j=some i->0<=i/\i<own):∀n,∀x∈nmF own kv n,0<=x/\x<own+v3 own kv n
 | 0,x,h=>nomatch h
 | n+1,x,h=>by
  have ih:=ZW ho hv n;cases hc:jZ kv n with
  | some i=>
   have hi:=hv _ _ hc;have mq:v3 own kv (n+1)=v3 own kv n:=by
    unfold v3;rw[WV hc,Yi,Xd];have:decide (own<=i)=false:=Xj ⋯;simp[this]
   rw[WV hc]at h;rw[mq];rcases aA h with z|z
   ·exact ih x z
   ·rw[aC z];omega
  | none=>
   have mq:v3 own kv (n+1)=v3 own kv n+1:=by
    unfold v3;rw[W6 hc,Yi,Xd];have:decide (own<=own+(v3 own kv n:Int))=true:=Xi ⋯;simp[this]
   rw[W6 hc]at h;rw[mq];rcases aA h with z|z
   ·have:=ih x z;omega
   ·rw[aC z];omega
theorem kqo(n:Nat):∀m,∃r,nmF own kv (n+m)=nmF own kv n++r
 |0=>⟨[],by simp⟩
 |m+1=>by
  obtain⟨r,hr⟩:=kqo n m;refine⟨r++[match jZ kv ((n+m:Nat):Int)with|some i=>i|none=>own+((nmF own kv (n+m)).filter λx=>decide (own<=x)).length],?_⟩;show nmF own kv (n+m+1)=_;rw[jx9,<-Xu,<-hr]
  try rfl
theorem kwn{x:Int}:∀{l r:List Int},x∉l->((l++x::r).findIdx λw=>w==x)=l.length
 |[],r,_=>by simp[List.findIdx_cons]
 |y::l,r,h=>by
  have hy:(y==x)=false:=Y8 λe=>h (by rw[e];exact X6)
  rw[List.cons_append,List.findIdx_cons,hy,kwn λz=>h (lc9 _ z)];rfl
theorem qx4(ho:0<=own)(hv:∀j i:Int,jZ kv j=some i->0<=i/\i<own){n m:Nat}(hc:jZ kv n=none)(hm:n<m):((nmF own kv m).findIdx λw=>w==own+v3 own kv n)=n:=by
 obtain⟨r,hr⟩:=kqo (own:=own) (kv:=kv) (n+1) (m - (n+1));rw[show n+1+(m - (n+1))=m by omega,W6 hc,Xu]at hr;rw[hr];show((nmF own kv n++(own+(v3 own kv n:Int))::r).findIdx _)=n;rw[kwn,Kq];intro z;have:=ZW ho hv n _ z;omega
end
def ren(N:List Int)(k:Int)(T:List Int)(x:Int):Int:=if x<k then N.getD x.toNat 0 else N.getD (k.toNat+T.findIdx λw=>w==x) 0
theorem kw9{N:List Int}(h:N.Nodup){a b:Nat}(ha:a<N.length)(hb:b<N.length)(e:N.getD a 0=N.getD b 0):a=b:=by
 rw[X4,X4,X1 ha,X1 hb]at e;have e:N[a]=N[b]:=e;rcases Nat.lt_trichotomy a b with z|z|z
 ·exact absurd e (List.pairwise_iff_getElem.mp h a b ha hb z)
 ·exact z
 ·exact absurd e.symm (List.pairwise_iff_getElem.mp h b a hb ha z)
theorem kz9{T:List Int}{x:Int}(h:x∈T):T[T.findIdx λw=>w==x]?=some x:=by
 have hl:(T.findIdx λw=>w==x)<T.length:=Yv ⟨x,h,by simp⟩;rw[X1 hl];have:=List.findIdx_getElem (w:=hl)
 congr 1
 simpa using this
theorem qzx{N T:List Int}{k:Int}(hk:0<=k)(hl:k<=N.length):(v7 k).map (ren N k T)=N.take k.toNat:=by
 unfold v7;rw[Xm];refine List.ext_getElem? λi=>?_
 rw[Xh]
 by_cases hi:i<k.toNat
 ·rw[List.getElem?_take_of_lt hi,List.getElem?_range hi,X1 ⋯];show some (ren N k T i)=_;unfold ren;rw[X8 ⋯,X4,Xq,X1 ⋯];rfl
 ·rw[Xx (by rw[Yc];omega),Xx (by rw[Z1];omega)];rfl
theorem kqn{own:Int}{kv:List (Int×Int)}{j n:Nat}(h:j<n){x:Int}(hx:nmF own kv (j+1)=nmF own kv j++[x]):(nmF own kv n)[j]?=some x:=by
 obtain⟨r,hr⟩:=kqo (own:=own) (kv:=kv) (j+1) (n - (j+1));rw[show j+1+(n - (j+1))=n by omega,hx,Xu]at hr;rw[hr,Yo (by rw[Kq];omega),Kq,Nat.sub_self];rfl
theorem qv8{N:List Int}{k:Int}{sh:List (Int×Int)}{n:Nat}(hk:0<=k)(hv:∀j i:Int,jZ (kvS sh) j=some i->0<=i/\i<k):(nmF k (kvS sh) n).map (ren N k (nmF k (kvS sh) n))=qqj N k sh n:=by
 refine List.ext_getElem? λj=>?_
 unfold qqj;rw[Xh,Xh]
 by_cases hj:j<n
 ·rw[List.getElem?_range hj];show _=some ((jZ (kvN N sh) (j:Int)).getD (N.getD (k.toNat+j) 0));rw[qqf];cases hc:jZ (kvS sh) j with
  |some i=>
   have:=hv _ _ hc;rw[kqn hj (WV hc)];show some (ren N k _ i)=some (N.getD i.toNat 0);unfold ren;rw[X8 this.2]
  |none=>
   rw[kqn hj (W6 hc)];show some (ren N k _ (k+v3 k (kvS sh) j))=some (N.getD (k.toNat+j) 0);unfold ren;rw[Xf ⋯,qx4 hk hv hc hj]
 ·rw[Xx (by rw[Kq];omega),Xx (by rw[Yc];omega)];rfl
theorem vjw{k:Int}{sh:List (Int×Int)}{n:Nat}(hk:0<=k)(hv:∀j i:Int,jZ (kvS sh) j=some i->0<=i/\i<k):((qJ (v7 k) (nmF k (kvS sh) n)).length:Int)=k+v3 k (kvS sh) n:=by
 unfold qJ v3;rw [Xd,X3,Yc];have:(nmF k (kvS sh) n).filter (λm=>!(v7 k).any λw=>w==m)=(nmF k (kvS sh) n).filter λx=>decide (k<=x):=by
  refine List.filter_congr λx hx=>?_
  have h0:=(ZW hk hv n x hx).1;rw[KJ]
  by_cases nw:k<=x
  ·rw[Xi nw,Xj]
   ·rfl
   ·intro z;obtain⟨i,hi,rfl⟩:=aE z;have:=List.mem_range.mp hi;omega
  ·rw[Xj nw,Xi]
   ·rfl
   ·exact List.mem_map.mpr ⟨x.toNat,List.mem_range.mpr ⋯,⋯⟩
 rw[this];omega
theorem wq4{kps:List Int}{n:Nat}{rs:List D}{p:Int}(hP:Prs kps n rs)(h0:-1<=p)(h1:p<kps.length):∃k g,Kpr rs p k/\Gdr rs p g/\(p=-1->k=0)/\(0<=p->k=kps.getD p.toNat 0):=by
 by_cases h:p=-1
 ·exact⟨0,false,.inl ⟨h,rfl⟩,.inl ⟨h,rfl⟩,λ_=>rfl,λz=>by omega⟩
 ·obtain⟨r,er,gd,st,rfl,_⟩:=hP.2 p.toNat ⋯;exact⟨_,gd,.inr ⟨⋯,_,_,er⟩,.inr ⟨⋯,_,_,er⟩,λz=>absurd z h,λ_=>rfl⟩
theorem qzr{kps:List Int}{s:Sn}(h:kY kps s):-1<=rmO s/\rmO s<kps.length:=by
 cases s with|none=>exact⟨Int.le_refl _,by show(-1:Int)<_;omega⟩|some P=>obtain⟨a,b⟩:=P;obtain⟨h0,h1,_⟩:=h a b rfl;exact⟨by show -1<=a;omega,h1⟩
theorem qqu{kps:List Int}{p:Int}{ks:List Int}(h0:-1<=p)(h1:p<kps.length)(h2:0<=p->(ks.length:Int)=kps.getD p.toNat 0):kY kps (vx p ks):=by
 intro room ks' e;unfold vx at e
 split at e
 ·cases e
 ·injection e with e;injection e with e1 e2;subst e1 e2;exact⟨⋯,h1,h2 ⋯⟩
theorem vqd{p:Int}{ks:List Int}(h:p=-1->ks=[]):nms (vx p ks)=ks:=by
 unfold vx
 split
 ·rename_i e;rw[h e];rfl
 ·rfl
end B
namespace J
open Q PySem C B F
def m_is_small:Fn:=fn 1
  (k7 (Jx (vE (cF2 (pu2 fLe) (vE (cF1 (pu1 v6) (jv (vV 0) (C9 1)))) (C9 12))) (cF1 (pu1 ww1) (vE (cLC .rt 1 [] (itS (cH (jv (vV 0) (C9 1)))) (.n 0) tYes (cF2 (pu2 fLe) (jv (vV 0) (C9 0)) (C9 3)))))))
def Q7:D->Int
 |.int i=>i|_=>0
def Wj:D->Sn
 |.tup [.int r,.tup ks]=>some (r,ks.map Q7)|_=>none
def rdF(ss:List Str)(rs:List D)(S:Sn)(z:Str)(c:Int):Sn:=match S with
 |none=>none
 |some (room,ks)=>(match rs[room.toNat]? with
  |some (.tup [_,_,.lst st])=>Wj (wK ss st ks z c)
  |_=>none)
theorem vzx{kps:List Int}{d:D}(h:Ok2 kps d):stn (Wj d)=d/\kY kps (Wj d):=by
 rcases h with rfl|⟨room,ks,rfl,r0,r1,hl⟩
 ·exact⟨rfl,λ_ _ e=>nomatch e⟩
 ·have e:Wj (.tup [.int room,iT ks])=some (room,ks):=by
   show some (room,(ks.map D.int).map Q7)=_;rw[Xm]
   congr 2
   exact List.map_id ks
  rw[e];refine⟨rfl,λa b e=>?_⟩;cases e;exact⟨r0,r1,hl⟩
theorem vqb{kps:List Int}{S:Sn}(h:kY kps S):Ok2 kps (stn S):=by
 cases S with|none=>exact .inl rfl|some x=>obtain⟨a,b,c⟩:=h x.1 x.2 rfl;exact .inr ⟨x.1,x.2,rfl,a,b,c⟩
theorem xv{kps:List Int}{ss:List Str}{rs:List D}{S:Sn}(z:Str)(c:Int)(hP:Prs kps ss.length rs)(hk:Kq9 kps)(hS:kY kps S):Rd kps ss rs (stn S) (z,c) (stn (rdF ss rs S z c))/\kY kps (rdF ss rs S z c):=by
 obtain⟨s',h1,h2,_⟩:=qzy (z,c) hP hk (vqb hS);obtain⟨g1,g2⟩:=vzx h2;have e:rdF ss rs S z c=Wj s':=by
  rcases id h1 with⟨h3,rfl⟩|⟨room,ks,st,kp,gd,h3,_,hr,_,_,h4⟩
  ·cases S with| none=>rfl| some x=>cases h3
  ·cases S with
   | none=>cases h3
   | some x=>
    have h3:(D.tup [.int x.1,iT x.2])=.tup [.int room,iT ks]:=h3;injection h3 with h3;injection h3 with e1 h3;injection h3 with e2 _;injection e1 with e1;injection e2 with e2;have e2:x.2=ks:=(List.map_inj_right λa b h=>by injection h).mp e2;show(match rs[x.1.toNat]? with
     |some (.tup [_,_,.lst st])=>Wj (wK ss st x.2 z c)
     |_=>none)=_
    rw[e1,hr,e2,h4]
 rw[e,g1];exact⟨h1,g2⟩
def kpF(rs:List D)(p:Int):Int:=if p=-1 then 0 else(match rs[p.toNat]? with
 |some (.tup [.int k,_,_])=>k
 |_=>0)
def gdF(rs:List D)(p:Int):Bool:=if p=-1 then false else(match rs[p.toNat]? with
 |some (.tup [_,.bl g,_])=>g
 |_=>false)
theorem wq6{rs:List D}{p k:Int}(h:Kpr rs p k):kpF rs p=k:=by
 rcases h with⟨rfl,rfl⟩|⟨h0,g,st,e⟩
 ·rfl
 ·unfold kpF;rw[Xf ⋯,e]
theorem wqm{rs:List D}{p:Int}{g:Bool}(h:Gdr rs p g):gdF rs p=g:=by
 rcases h with⟨rfl,rfl⟩|⟨h0,k,st,e⟩
 ·rfl
 ·unfold gdF;rw[Xf ⋯,e]
theorem JY{kps:List Int}{n:Nat}{rs:List D}{p:Int}(hP:Prs kps n rs)(hk:Kq9 kps)(h0:-1<=p)(h1:p<kps.length):Kpr rs p (kpF rs p)/\Gdr rs p (gdF rs p)/\0<=kpF rs p/\kpF rs p<=3/\(0<=p->kpF rs p=kps.getD p.toNat 0):=by
 obtain⟨k,g,a,b,c,d⟩:=wq4 hP h0 h1;rw[wq6 a,wqm b];refine⟨a,b,?_⟩
 by_cases hp:p=-1
 ·rw[c hp];exact⟨⋯,⋯,λh=>by omega⟩
 ·have hd:=d ⋯;have hm:kps.getD p.toNat 0∈kps:=by rw[X4,X1 ⋯];exact Xw _
  rw[hd];exact⟨(hk _ hm).1,(hk _ hm).2,λ_=>rfl⟩
theorem qjg:∀l:List (Int×Int),keyDs 4 (prs l)=true
 |[]=>rfl
 |p::l=>by
  show(jK 4 (.tup [.int p.1,.int p.2])&&keyDs 4 (prs l))=true;rw[qjg l];rfl
theorem wq9(r r':Int)(l:List (Int×Int)):v4 (.tup [.int r,.int r',.tup (prs l)])=true:=by
 have:keyDs 5 [D.int r,.int r',.tup (prs l)]=true:=by
  show(jK 5 (.int r)&&(jK 5 (.int r')&&(keyDs 4 (prs l)&&true)))=true;rw[qjg];rfl
 show(keyDs 5 [D.int r,.int r',.tup (prs l)]&&true)=true;rw[this];rfl
theorem qqt{kps:List Int}{S:Sn}(h:kY kps S)(e:rmO S=-1):S=none:=by
 cases S with|none=>rfl|some x=>have:=(h x.1 x.2 rfl).1;have e:x.1=-1:=e;omega
theorem Jq{kps:List Int}{S:Sn}(hk:Kq9 kps)(h:kY kps S):(nms S).length<=3:=by
 cases S with
 |none=>exact Yd _
 |some x=>
  obtain⟨a,b,c⟩:=h x.1 x.2 rfl;have hm:kps.getD x.1.toNat 0∈kps:=by rw[X4,X1 ⋯];exact Xw _
  have:=(hk _ hm).2;show x.2.length<=3;omega
def lat(x:Sn×Sn):D:=.tup [stn x.1,stn x.2]
section
variable {kps kps':List Int}{ss:List Str}{rs a7:List D}
def pS(rs:List D):D->Sn
 |.tup [.int p,_,_]=>wvz p (kpF rs p)|_=>none
def Q2:List D->List (Int×Int)
 |[]=>[]|.tup [.int i,.int j]::r=>(i,j)::Q2 r|_::r=>Q2 r
theorem vvd:∀l:List (Int×Int),Q2 (prs l)=l
 |[]=>rfl
 |p::l=>by
  show(p.1,p.2)::Q2 (prs l)=_;rw[vvd l]
def pT(rs a7:List D):D->Sn
 |.tup [.int p,.int q,.tup sh]=>wvy q (kpF rs p) (kpF a7 q) (Q2 sh)|_=>none
def pO(rs a7:List D)(P:D):Nat:=(qJ (nms (pS rs P)) (nms (pT rs a7 P))).length
def gS(rs:List D):D->Bool
 |.tup [.int p,_,_]=>gdF rs p|_=>false
def gT(rs:List D):D->Bool
 |.tup [_,.int q,_]=>gdF rs q|_=>false
def Pok(kps kps':List Int)(P:D):Prop:=∃(p q:Int) (sh:List (Int×Int)),P=.tup [.int p,.int q,.tup (prs sh)]/\-1<=p/\p<kps.length/\-1<=q/\q<kps'.length/\sh.length<=3
theorem kwo{a b:List Int}(ha:a.length<=3)(hb:b.length<=3):(qJ a b).length<=6:=by
 unfold qJ;rw[Xd];have:=List.length_filter_le (λn=>!(a.any λw=>w==n)) b;omega
theorem qw0{P:D}(hP:Prs kps ss.length rs)(hk:Kq9 kps)(h:Pok kps kps' P):kY kps (pS rs P):=by
 obtain⟨p,q,sh,rfl,h0,h1,_⟩:=h;obtain⟨_,_,c,_,e⟩:=JY hP hk h0 h1;refine qqu h0 h1 λhp=>?_
 rw[<-e hp];show((List.map _ (List.range _)).length:Int)=_;rw[X3,Yc];omega
theorem qvz{P:D}(b5:Prs kps' ss.length a7)(au:Kq9 kps')(h:Pok kps kps' P):kY kps' (pT rs a7 P):=by
 obtain⟨p,q,sh,rfl,_,_,h0,h1,_⟩:=h;obtain⟨_,_,c,_,e⟩:=JY b5 au h0 h1;refine qqu h0 h1 λhp=>?_
 rw[<-e hp,Kq];omega
theorem qjq{P:D}(hP:Prs kps ss.length rs)(hk:Kq9 kps)(b5:Prs kps' ss.length a7)(au:Kq9 kps')(h:Pok kps kps' P):
  Oo m_first_standings [(.no,jJ ss rs),(.no,jJ ss a7),(.no,P)] (λy=>y=(.no,lat (pS rs P,pT rs a7 P))) noX:=by
 obtain⟨p,q,sh,rfl,h0,h1,h2,h3,h4⟩:=h;obtain⟨a,_,c,d,_⟩:=JY hP hk h0 h1;obtain⟨a',_,c',d',_⟩:=JY b5 au h2 h3;refine(vjy a a' c ⋯ c' ⋯ ⋯).mono λy hy=>?_
 rw[hy];show _=(Own.no,D.tup [stn (wvz p (kpF rs p)),stn (wvy q (kpF rs p) (kpF a7 q) (Q2 (prs sh)))]);rw[vvd];rfl
theorem wx8{P:D}(hP:Prs kps ss.length rs)(hk:Kq9 kps)(b5:Prs kps' ss.length a7)(au:Kq9 kps')(h:Pok kps kps' P):pO rs a7 P<=6:=kwo (Jq hk (qw0 hP hk h)) (Jq au (qvz b5 au h))
theorem kzv(t:List Int):∀(k:Nat) (o:List Int),(kw t k o).length<=o.length
 |_,[]=>Xb _
 |k,n::o=>by
  have:=kzv t (k+1) o;unfold kw
  split<;>simp<;>omega
theorem qj5{a b:Sn}(ha:kY kps a)(hb:kY kps' b)(hk:Kq9 kps):Pok kps kps' (vz a b):=by
 obtain⟨a0,a1⟩:=qzr ha;obtain⟨b0,b1⟩:=qzr hb;exact⟨_,_,_,rfl,a0,a1,b0,b1,Ye (kzv _ _ _) (Jq hk ha)⟩
abbrev P0:D:=.tup [.int 0,.int 0,.tup []]
def keyI:D->Int
 |.tup [.int k,_,_]=>k|_=>0
def kvi(rs:List D):Bool:=decide (rs.length<=12)&&rs.all λr=>decide (keyI r<=3)
theorem qz6(g:D->Bool):∀ds:List D,bls (ds.map λd=>D.bl (g d))=some (ds.map g)
 |[]=>rfl
 |d::ds=>by
  rw[List.map_cons,bls,qz6 g ds];rfl
theorem wvd(g:D->Bool)(ds:List D):ww1 (.lst (ds.map λd=>D.bl (g d)))=some (.bl (ds.all g)):=by
 show(bls (ds.map λd=>D.bl (g d))).map _=_;rw[qz6];simp[List.all_map,Function.comp_def]
theorem small_is{d0:D}{rs:List D}(h:∀r∈rs,∃(own:Int) (a b:D),r=.tup [.int own,a,b]):Oo m_is_small [(.no,.tup [d0,.lst rs])] (λy=>∃o':Own,y=(o',.bl (kvi rs))/\True) noX:=by
 have q1:∀a b:D,jW (.tup [a,b]) (.int 1)=some b:=λ_ _=>rfl
 have t0:∀a b c:D,jW (.tup [a,b,c]) (.int 0)=some a:=λ_ _ _=>rfl
 unfold m_is_small;refine kJ ?_
 by_cases hl:rs.length<=12
 ·have e:fLe (.int rs.length) (.int 12)=some (.bl true):=by rw[le_ii,Xi ⋯]
  simp![q1,e];refine VJ [] (λd y=>y.2=.bl (decide (keyI d<=3))) ?_;simp![q1];refine⟨λd hd=>?_,λys hy=>?_⟩
  ·obtain⟨own,a,b,rfl⟩:=h d hd;simp![t0];exact⟨⟨_,rfl⟩,rfl⟩
  ·rw[zx,WK (h:=λd=>.bl (decide (keyI d<=3))) (λ_ _ h=>h) hy];simp![wvd (λd=>decide (keyI d<=3))];exact⟨_,by unfold kvi;rw[Xi hl];rfl,trivial⟩
 ·have e:fLe (.int rs.length) (.int 12)=some (.bl false):=by rw[le_ii,Xj ⋯]
  simp![q1,e];exact⟨_,by unfold kvi;rw[Xj hl];rfl,trivial⟩
theorem kq8{n:Nat}(hP:Prs kps n rs):∀r∈rs,∃(own:Int) (a b:D),r=.tup [.int own,a,b]:=λr hr=>by
 obtain⟨i,hi,e⟩:=Z7 hr;obtain⟨r',e',gd,st,h',_⟩:=hP.2 i (by rw[<-hP.1];exact hi);rw[X1 hi,e]at e';cases oq9 e';exact⟨_,_,_,h'⟩
theorem kvx{n:Nat}(hP:Prs kps n rs)(hk:Kq9 kps)(h12:kps.length<=12):kvi rs=true:=by
 unfold kvi;rw[Xi (by rw[hP.1];exact h12),Bool.true_and,Z2];intro r hr;obtain⟨i,hi,e⟩:=Z7 hr;have kl:i<kps.length:=by rw[<-hP.1];exact hi
 obtain⟨r',e',gd,st,h',_⟩:=hP.2 i kl;rw[X1 hi,e]at e';cases oq9 e';rw[h'];have hm:kps.getD i 0∈kps:=by rw[X4,X1 kl];exact Xw _
 exact Xi (hk _ hm).2
end
end J
namespace Kp
open Q PySem C
theorem bk(E:En):back [] [] (clr [] E)=E:=rfl
end Kp
namespace U
open Q PySem C B J
theorem qqp{a b:Sn}(h:stn a=stn b):a=b:=by
 cases a with
 | none=>cases b with|none=>rfl|some y=>cases h
 | some x=>cases b with
  |none=>cases h
  |some y=>
   have h:(D.tup [.int x.1,iT x.2])=.tup [.int y.1,iT y.2]:=h;injection h with h;injection h with e1 h;injection h with e2 _;injection e1 with e1;injection e2 with e2;have e2:x.2=y.2:=(List.map_inj_right λa b h=>by injection h).mp e2;exact congrArg some (Prod.ext e1 e2)
theorem wj9{kps:List Int}{ss:List Str}{rs:List D}{s a b:D}{w:Str×Int}(h:Rd kps ss rs s w a)(h':Rd kps ss rs s w b):a=b:=by
 rcases h with⟨rfl,rfl⟩|⟨room,ks,st,kp,gd,rfl,_,hr,_,_,e⟩
 ·rcases h' with⟨_,rfl⟩|⟨room,ks,st,kp,gd,h,_⟩
  ·rfl
  ·cases h
 ·rcases h' with⟨h,_⟩|⟨rh,ks',eh,kp',gd',h,_,hr',_,_,e'⟩
  ·cases h
  ·injection h with h;injection h with e1 h;injection h with e2 _;injection e1 with e1;injection e2 with e2;have e2:ks=ks':=(List.map_inj_right λa b h=>by injection h).mp e2;subst e1 e2;rw[hr]at hr';injection hr' with hr';injection hr' with hr';injection hr' with _ hr';injection hr' with _ hr';injection hr' with hr' _;injection hr' with hr';rw[e,e',hr']
section
variable {kps kps':List Int}{ss:List Str}{rs a7:List D}{f:Int->Int}
theorem kxr{S:Sn}{z:Str}{c:Int}(hP:Prs kps ss.length rs)(hk:Kq9 kps)(hS:kY kps S)(ml:∀x∈nms S,f x=f c->x=c):rdF ss rs (qK f S) z (f c)=qK f (rdF ss rs S z c)/\∀n∈nms (rdF ss rs S z c),n∈nms S\/n=c:=by
 obtain⟨s',h1,h2,h3,_⟩:=wj8 (z:=z) hP hk hS ml;have hm:kY kps (qK f S):=by
  cases S with
  |none=>exact λ_ _ e=>nomatch e
  |some x=>
   intro room ks e;cases e;obtain⟨a,b,c⟩:=hS x.1 x.2 rfl;exact⟨a,b,by rw[X3];exact c⟩
 have e1:=qqp (wj9 (xv z c hP hk hS).1 h1);have e2:=qqp (wj9 (xv z (f c) hP hk hm).1 h2);rw[e1,e2];exact⟨rfl,h3⟩
theorem wkw{l:List Int}{g:Int->Int}(h:l.Nodup)(hi:∀x∈l,∀y∈l,g x=g y->x=y):(l.map g).Nodup:=by
 induction l with
 |nil=>exact Xs
 |cons a l ih=>
  rw[Zg]at h;rw[List.map_cons,Zg];refine⟨λz=>?_,ih h.2 λx hx y hy=>hi x (lc9 _ hx) y (lc9 _ hy)⟩;obtain⟨b,hb,e⟩:=aE z;have:=hi b (lc9 _ hb) a X6 e;exact h.1 (this▸hb)
theorem vkq{S:Sn}{z:Str}{c:Int}(hP:Prs kps ss.length rs)(hk:Kq9 kps)(hS:kY kps S)(hn:(nms S).Nodup):(nms (rdF ss rs S z c)).Nodup:=by
 have h1:=(xv z c hP hk hS).1;generalize rdF ss rs S z c=S' at h1;rcases h1 with⟨_,e⟩|⟨room,ks,st,kp,gd,e,_,_,hc,_,e'⟩
 ·cases S' with| none=>exact Xs| some x=>cases e
 ·have n9:nms S=ks:=by
   cases S with
   | none=>cases e
   | some x=>
    have e:(D.tup [.int x.1,iT x.2])=.tup [.int room,iT ks]:=e;injection e with e;injection e with _ e;injection e with e _;injection e with e;exact(List.map_inj_right λa b h=>by injection h).mp e
  rw [n9]at hn;unfold wK at e';cases hz:(ss.any λw=>w==z)with
  | false=>
   rw [hz]at e';cases S' with| none=>exact Xs| some x=>cases e'
  | true=>
   rw [hz,X8 rfl]at e';obtain⟨cs,_,_,_,g4⟩:=qjx c hc hz;rcases g4 with g|⟨to,fs,g,_,_,jn,lq,_⟩
   ·rw [g]at e';cases S' with| none=>exact Xs| some x=>cases e'
   ·rw [g,show(D.tup (fs.map D.int))=iT fs from rfl,caseD_is]at e';cases S' with
    | none=>cases e'
    | some x=>
     have e':(D.tup [.int x.1,iT x.2])=.tup [.int to,iT (fs.map (C.nameAt ks c))]:=e';injection e' with e';injection e' with _ e';injection e' with e' _;injection e' with e';have e':x.2=fs.map (C.nameAt ks c):=(List.map_inj_right λa b h=>by injection h).mp e';show x.2.Nodup;rw[e'];have hb:=λi hi=>jn i hi
     refine wkw lq λi hi j hj jc=>?_
     obtain⟨i0,i1⟩:=jn i hi;obtain⟨j0,j1⟩:=jn j hj;unfold vK at i1 j1;unfold C.nameAt at jc;have h8:i.toNat=j.toNat:=by
      by_cases hm:c∈ks
      ·have cb:(ks.findIdx λw=>w==c)<ks.length:=Yv ⟨c,hm,by simp⟩;rw[Xf ⋯]at i1 j1;rw[X4,X4,Yb ⋯,Yb ⋯,<-X4,<-X4]at jc;exact kw9 hn ⋯ ⋯ jc
      ·have kh:(ks++[c]).Nodup:=List.nodup_append.mpr ⟨hn,by simp,λx hx y hy e=>by rw[aC hy]at e;exact hm (e▸hx)⟩;have:(if((ks.findIdx λw=>w==c:Nat):Int)=ks.length then(1:Int)else 0)<=1:=by split<;>omega
       exact kw9 kh (by rw[Xd,Y0];omega) (by rw[Xd,Y0];omega) jc
     omega
theorem kxl{t:List Int}{i j:Int}:∀{o:List Int} {k:Nat},(i,j)∈kw t k o->∃m:Nat,∃x:Int,i=((k+m:Nat):Int)/\o[m]?=some x/\x∈t/\j=((t.findIdx λw=>w==x:Nat):Int)
 | [],k,h=>nomatch h
 | n::o,k,h=>by
  have e:kw t k (n::o)=if(t.any λw=>w==n)=true then((k:Int),((t.findIdx λw=>w==n:Nat):Int))::kw t (k+1) o else kw t (k+1) o:=rfl
  rw[e]at h;have go:(i,j)∈kw t (k+1) o->∃m:Nat,∃x:Int,i=((k+m:Nat):Int)/\(n::o)[m]?=some x/\x∈t/\j=((t.findIdx λw=>w==x:Nat):Int):=λh=>by
   obtain⟨m,x,h1,h2,h3,h4⟩:=kxl h;exact⟨m+1,x,by rw[h1];congr 1;omega,h2,h3,h4⟩
  split at h
  ·rename_i ha;rcases aD h with h|h
   ·injection h with h1 h2;rw[KJ]at ha;exact⟨0,n,h1,rfl,Z4 ha,h2⟩
   ·exact go h
  ·exact go h
theorem qwg{t:List Int}{x:Int}:∀{o:List Int} {k m:Nat},o[m]?=some x->x∈t->(((k+m:Nat):Int),((t.findIdx λw=>w==x:Nat):Int))∈kw t k o
 | [],k,m,h,_=>nomatch h
 | n::o,k,m,h,hx=>by
  have e:kw t k (n::o)=if(t.any λw=>w==n)=true then((k:Int),((t.findIdx λw=>w==n:Nat):Int))::kw t (k+1) o else kw t (k+1) o:=rfl
  rw[e];cases m with
  |zero=>
   have h:n=x:=by simpa using h
   subst h;rw[X8 (by rw[KJ];exact Xi hx)];exact X6
  |succ m=>
   have:=qwg (k:=k+1) (m:=m) (o:=o) (by simpa using h) hx;rw[show k+1+m=k+(m+1)by omega]at this
   split
   ·exact lc9 _ this
   ·exact this
theorem qqd(kv:List (Int×Int))(k v j:Int):(jZ kv j).isSome=true\/k=j->(jZ (qX kv k v) j).isSome=true:=by
 intro h;unfold jZ;rw [Option.isSome_map,List.find?_isSome];unfold qX
 by_cases ha:(kv.any λp=>decide (p.1=k))=true
 ·rw[X8 ha];have:∃p∈kv,p.1=j:=by
   rcases h with h|rfl
   ·unfold jZ at h;rw[Option.isSome_map,List.find?_isSome]at h;obtain⟨p,hp,e⟩:=h;exact⟨p,hp,Z4 e⟩
   ·obtain⟨p,hp,e⟩:=List.any_eq_true.mp ha;exact⟨p,hp,Z4 e⟩
  obtain⟨p,hp,e⟩:=this;refine⟨_,List.mem_map.mpr ⟨p,hp,rfl⟩,Xi ?_⟩
  split
  ·exact e
  ·exact e
 ·rw[Xf ha];rcases h with h|rfl
  ·unfold jZ at h;rw[Option.isSome_map,List.find?_isSome]at h;obtain⟨p,hp,e⟩:=h;exact⟨p,ll9 _ hp,e⟩
  ·exact⟨(k,v),lr9 _ X6,Xi rfl⟩
theorem kzk:∀(ps kv:List (Int×Int)) (j:Int),(jZ kv j).isSome=true\/(∃p∈ps,p.1=j)->(jZ (ps.foldl (λkv p=>qX kv p.1 p.2) kv) j).isSome=true
 | [],kv,j,h=>by
  rcases h with h|⟨p,hp,_⟩
  ·exact h
  ·exact nomatch hp
 | p::ps,kv,j,h=>by
  rw[Yq];refine kzk ps _ j ?_;rcases h with h|⟨q,hq,e⟩
  ·exact .inl (qqd _ _ _ _ (.inl h))
  ·rcases aD hq with rfl|hq
   ·exact .inl (qqd _ _ _ _ (.inr e))
   ·exact .inr ⟨q,hq,e⟩
theorem vjp{sh:List (Int×Int)}{i j:Int}(h:(i,j)∈sh):(jZ (kvS sh) j).isSome=true:=kzk _ _ _ (.inr ⟨(j,i),List.mem_map.mpr ⟨(i,j),h,rfl⟩,rfl⟩)
theorem qw9{own:Int}{kv:List (Int×Int)}(hv:∀j i:Int,jZ kv j=some i->0<=i/\i<own):∀n,(nmF own kv n).filter (λx=>decide (own<=x))=(List.range (v3 own kv n)).map λ(c:Nat)=>own+c
 | 0=>rfl
 | n+1=>by
  have ih:=qw9 hv n;cases h:jZ kv n with
  | some i=>
   have:=hv _ _ h;have e:v3 own kv (n+1)=v3 own kv n:=by
    unfold v3;rw[WV h,Yi,Yl (by simp;omega)];simp
   rw[e,<-ih,WV h,Yi,Yl (by simp;omega)];simp
  | none=>
   have e:v3 own kv (n+1)=v3 own kv n+1:=by
    show((nmF own kv (n+1)).filter _).length=_;rw[W6 h,Yi,Yh (by simp;omega)];rw[Xd];rfl
   rw[e,List.range_succ,X9,<-ih,W6 h,Yi,Yh (by simp;omega)];rfl
theorem vxe{k:Int}{sh:List (Int×Int)}{n:Nat}(hk:0<=k)(hv:∀j i:Int,jZ (kvS sh) j=some i->0<=i/\i<k):qJ (v7 k) (nmF k (kvS sh) n)=v7 ((qJ (v7 k) (nmF k (kvS sh) n)).length:Nat):=by
 have hl:=vjw (n:=n) hk hv;have e:(nmF k (kvS sh) n).filter (λm=>!(v7 k).any λw=>w==m)=(nmF k (kvS sh) n).filter λx=>decide (k<=x):=by
  refine List.filter_congr λx hx=>?_
  have h0:=(ZW hk hv n x hx).1;rw[KJ]
  by_cases nw:k<=x
  ·rw[Xi nw,Xj]
   ·rfl
   ·intro z;obtain⟨i,hi,rfl⟩:=aE z;have:=List.mem_range.mp hi;omega
  ·rw[Xj nw,Xi]
   ·rfl
   ·exact List.mem_map.mpr ⟨x.toNat,List.mem_range.mpr ⋯,⋯⟩
 have e2:qJ (v7 k) (nmF k (kvS sh) n)=v7 (k+v3 k (kvS sh) n):=by
  unfold qJ;rw[e,qw9 hv];show(List.range k.toNat).map _++_=(List.range (k+v3 k (kvS sh) n).toNat).map _;rw[show(k+(v3 k (kvS sh) n:Nat)).toNat=k.toNat+v3 k (kvS sh) n by omega,List.range_add,X9,Xm]
  congr 1
  refine Yf λc _=>?_
  show k+(c:Int)=((k.toNat+c:Nat):Int);omega
 rw[hl,e2]
end
section
variable {kps kps':List Int}{ss:List Str}{rs a7:List D}
abbrev hp(rs a7:List D)(P:D):List Int:=qJ (nms (pS rs P)) (nms (pT rs a7 P))
def Rl(rs a7:List D)(P:D)(a b:Sn):Prop:=∃f:Int->Int,a=qK f (pS rs P)/\b=qK f (pT rs a7 P)/\(∀x∈hp rs a7 P,∀y∈hp rs a7 P,f x=f y->x=y)/\hp rs a7 P=v7 (pO rs a7 P)
theorem vqg{s:Sn}(hP:Prs kps ss.length rs)(hk:Kq9 kps)(h:kY kps s):kpF rs (rmO s)=(nms s).length:=by
 cases s with
 |none=>rfl
 |some x=>
  obtain⟨a,b,c⟩:=h x.1 x.2 rfl;obtain⟨_,_,_,_,e⟩:=JY hP hk (p:=x.1) ⋯ b;show kpF rs x.1=(x.2.length:Int);rw[e a,c]
theorem vkk{s:Sn}{T:List Int}(h:kY kps s)(g:Int->Int)(hg:T.map g=nms s):s=qK g (vx (rmO s) T):=by
 cases s with
 |none=>rfl
 |some x=>
  have:=(h x.1 x.2 rfl).1;have hg:T.map g=x.2:=hg;show some x=qK g (vx x.1 T);unfold vx;rw[Xf ⋯];show some x=some (x.1,T.map g);rw[hg]
theorem wv4{a b:Sn}(hP:Prs kps ss.length rs)(hk:Kq9 kps)(b5:Prs kps' ss.length a7)(au:Kq9 kps')(ha:kY kps a)(hb:kY kps' b)(na:(nms a).Nodup)(nb:(nms b).Nodup):Rl rs a7 (vz a b) a b:=by
 have ka:=vqg hP hk ha;have kb:=vqg b5 au hb;have mr:Q2 (prs (kw (nms b) 0 (nms a)))=kw (nms b) 0 (nms a):=vvd _;have eS:pS rs (vz a b)=vx (rmO a) (v7 ((nms a).length:Nat)):=by
  show wvz (rmO a) (kpF rs (rmO a))=_;rw [ka];rfl
 have eT:pT rs a7 (vz a b)=vx (rmO b) (nmF ((nms a).length:Nat) (kvS (kw (nms b) 0 (nms a))) (nms b).length):=by
  show wvy (rmO b) (kpF rs (rmO a)) (kpF a7 (rmO b)) (Q2 (prs (kw (nms b) 0 (nms a))))=_;rw [ka,kb,mr];rfl
 generalize hA:nms a=A at *;generalize hB:nms b=B' at *;have hv:∀j i:Int,jZ (kvS (kw B' 0 A)) j=some i->0<=i/\i<(A.length:Nat):=λj i h=>by
  obtain⟨m,x,h1,h2,_⟩:=kxl (qqe h);have:=(List.getElem?_eq_some_iff.mp h2).1;omega
 have k0:(0:Int)<=(A.length:Nat):=⋯
 generalize hT:nmF ((A.length:Nat):Int) (kvS (kw B' 0 A)) B'.length=T at *;have hTl:T.length=B'.length:=by rw[<-hT,Kq]
 have fa:(v7 (A.length:Nat)).map (ren (A++B') (A.length:Nat) T)=A:=by
  rw [qzx k0 (by rw[Xd];omega),Xq,List.take_left]
 have fb:T.map (ren (A++B') (A.length:Nat) T)=B':=by
  rw [<-hT,qv8 k0 hv];unfold qqj;refine List.ext_getElem? λj=>?_
  rw [Xh]
  by_cases hj:j<B'.length
  ·rw[List.getElem?_range hj,X1 hj];show some ((jZ (kvN (A++B') (kw B' 0 A)) (j:Int)).getD ((A++B').getD ((A.length:Int).toNat+j) 0))=_;rw[qqf];cases h:jZ (kvS (kw B' 0 A)) (j:Int)with
   | none=>
    show some ((A++B').getD ((A.length:Int).toNat+j) 0)=_;rw[Xq,X4,Yo ⋯,show A.length+j - A.length=j by omega,X1 hj];rfl
   | some i=>
    show some ((A++B').getD i.toNat 0)=_;obtain⟨m,x,h1,h2,h3,h4⟩:=kxl (qqe h);have hm:=(List.getElem?_eq_some_iff.mp h2).1;have ei:=kz9 h3;rw[show(B'.findIdx λw=>w==x)=j by omega,X1 hj]at ei;rw[ei,show i.toNat=m by omega,X4,Yb hm,h2];rfl
  ·rw[Xx (by rw[Yc];omega),Xx ⋯];rfl
 have hnA:nms (vx (rmO a) (v7 (A.length:Nat)))=v7 (A.length:Nat):=vqd λe=>by
  have:=qqt ha e;rw [this]at hA;rw [<-hA];rfl
 have hnB:nms (vx (rmO b) T)=T:=vqd λe=>by
  have:=qqt hb e;rw [this]at hB;have:T.length=0:=by rw[hTl,<-hB];rfl
  exact List.length_eq_zero_iff.mp this
 have hhp:hp rs a7 (vz a b)=qJ (v7 (A.length:Nat)) T:=by
  unfold hp;rw [eS,eT,hnA,hnB]
 have hrng:hp rs a7 (vz a b)=v7 (pO rs a7 (vz a b)):=by
  show _=v7 ((hp rs a7 (vz a b)).length:Nat);rw [hhp,<-hT];exact vxe k0 hv
 refine⟨ren (A++B') (A.length:Nat) T,?_,?_,?_,hrng⟩
 ·rw [eS];exact vkk ha _ (by rw[fa,hA])
 ·rw [eT];exact vkk hb _ (by rw[fb,hB])
 ·rw [hhp];have big:∀x∈T,((A.length:Nat):Int)<=x->∃j:Nat,j<B'.length/\T[j]?=some x/\(ren (A++B') (A.length:Nat) T x)=B'.getD j 0/\B'.getD j 0∉A:=λx hx nw=>by
   have ei:=kz9 hx;have hj:=(List.getElem?_eq_some_iff.mp ei).1;have si:ren (A++B') (A.length:Nat) T x=B'.getD (T.findIdx λw=>w==x) 0:=by
    unfold ren;rw[Xf ⋯,Xq,X4,Yo ⋯,X4]
    congr 2
    omega
   generalize (T.findIdx λw=>w==x)=j at ei hj si;refine⟨j,⋯,ei,si,λgc=>?_⟩;obtain⟨m,hm,em⟩:=Z7 gc;have hB:B'.getD j 0∈B':=by rw[X4,X1 ⋯];exact Xw _
   have mr:=qwg (k:=0) (t:=B') (o:=A) (m:=m) (x:=B'.getD j 0) (by rw[X1 hm,em]) hB;have jc:(B'.findIdx λw=>w==B'.getD j 0)=j:=by
    have h1:=kz9 hB;have h2:=(List.getElem?_eq_some_iff.mp h1).1;refine kw9 nb h2 ⋯ ?_;rw[X4,h1];rfl
   rw[jc]at mr;obtain⟨i,hi⟩:=Option.isSome_iff_exists.mp (vjp mr);have:=kqn (own:=(A.length:Nat)) (n:=B'.length) ⋯ (WV (own:=((A.length:Nat):Int)) hi);rw[hT,ei]at this;have e:=oq9 this;have:=hv _ _ hi;omega
  have sml:∀x:Int,0<=x->x<(A.length:Nat)->ren (A++B') (A.length:Nat) T x=A.getD x.toNat 0:=λx h0 h1=>by
   unfold ren;rw[X8 h1,X4,Yb ⋯,X4]
  have mA:∀x:Int,0<=x->x<(A.length:Nat)->A.getD x.toNat 0∈A:=λx h0 h1=>by
   rw[X4,X1 ⋯];exact Xw _
  have cs:∀x∈qJ (v7 (A.length:Nat)) T,(0<=x/\x<(A.length:Nat))\/(x∈T/\((A.length:Nat):Int)<=x):=λx hx=>by
   rcases aA hx with hx|hx
   ·obtain⟨i,hi,rfl⟩:=aE hx;have:=List.mem_range.mp hi;exact .inl ⋯
   ·have hx:=(List.mem_filter.mp hx)
    by_cases h:x<(A.length:Nat)
    ·refine .inl ⟨?_,h⟩;have:=hx.1;rw[<-hT]at this;exact(ZW k0 hv _ x this).1
    ·exact .inr ⟨hx.1,⋯⟩
  intro x hx y hy e;rcases cs x hx with⟨x0,x1⟩|⟨x0,x1⟩
  ·rcases cs y hy with⟨y0,y1⟩|⟨y0,y1⟩
   ·rw[sml x x0 x1,sml y y0 y1]at e;have:=kw9 na ⋯ ⋯ e;omega
   ·obtain⟨j,_,_,h1,h2⟩:=big y y0 y1;rw[sml x x0 x1,h1]at e;exact absurd (e▸mA x x0 x1) h2
  ·obtain⟨i,i1,i2,i3,i4⟩:=big x x0 x1;rcases cs y hy with⟨y0,y1⟩|⟨y0,y1⟩
   ·rw[sml y y0 y1,i3]at e;exact absurd (e▸mA y y0 y1) i4
   ·obtain⟨j,j1,j2,j3,j4⟩:=big y y0 y1;rw[i3,j3]at e;have:=kw9 nb i1 j1 e;subst this;rw[i2]at j2;exact oq9 j2
end
theorem vjv{f:Int->Int}{o t:List Int}(h:∀n∈t,∀x∈o,f x=f n->x=n):qJ (o.map f) (t.map f)=(qJ o t).map f:=by
 unfold qJ;rw[X9,List.filter_map]
 congr 2
 refine List.filter_congr λn hn=>?_
 show(!((o.map f).any λw=>w==f n))=_;rw[kv6 (h n hn)]
section
variable {kps kps':List Int}{ss:List Str}{rs a7:List D}
def vZ(ss:List Str)(rs a7:List D)(P:D)(z:Str)(i:Int):D:=vz (rdF ss rs (pS rs P) z i) (rdF ss a7 (pT rs a7 P) z i)
def Lk(own:Nat)(a b:Sn)(i c:Int):Prop:=(0<=i/\i<own/\(qJ (nms a) (nms b))[i.toNat]?=some c)\/(i=own/\c∉qJ (nms a) (nms b))
theorem wvx{P:D}{x:Int}(h:x∈nms (pS rs P)):x∈hp rs a7 P:=ll9 _ h
theorem wvw{P:D}{x:Int}(h:x∈nms (pT rs a7 P)):x∈hp rs a7 P:=by
 by_cases hx:x∈nms (pS rs P)
 ·exact ll9 _ hx
 ·refine lr9 _ (List.mem_filter.mpr ⟨h,?_⟩);rw[KJ,Xj hx];rfl
theorem mem_rngL{k x:Int}:x∈v7 k↔0<=x/\x<k:=by
 constructor
 ·intro h;obtain⟨i,hi,rfl⟩:=aE h;have:=List.mem_range.mp hi;omega
 ·intro h;exact List.mem_map.mpr ⟨x.toNat,List.mem_range.mpr ⋯,⋯⟩
theorem kkf{f g:Int->Int}{s:Sn}(h:∀x∈nms s,f x=g x):qK f s=qK g s:=by
 cases s with|none=>rfl|some x=>exact congrArg some (Prod.ext rfl (Yf h))
theorem qv5{P:D}{a b:Sn}{f:Int->Int}(e1:a=qK f (pS rs P))(e2:b=qK f (pT rs a7 P))(hi:∀x∈hp rs a7 P,∀y∈hp rs a7 P,f x=f y->x=y):qJ (nms a) (nms b)=(hp rs a7 P).map f:=by
 rw[e1,e2,kqm,kqm];exact vjv λn hn x hx e=>hi x (wvx hx) n (wvw hn) e
theorem vko{P:D}{a b:Sn}(h:Rl rs a7 P a b):(qJ (nms a) (nms b)).length=pO rs a7 P:=by
 obtain⟨f,e1,e2,hi,_⟩:=h;rw[qv5 e1 e2 hi,X3];rfl
theorem vvi{P:D}{a b:Sn}{z:Str}{i c:Int}(hP:Prs kps ss.length rs)(hk:Kq9 kps)(b5:Prs kps' ss.length a7)(au:Kq9 kps')(nt:Pok kps kps' P)(h:Rl rs a7 P a b)(hl:Lk (pO rs a7 P) a b i c):
  vz (rdF ss rs a z c) (rdF ss a7 b z c)=vZ ss rs a7 P z i:=by
 obtain⟨f,e1,e2,hi,hr⟩:=h;have hh:=qv5 e1 e2 hi;have hS:=qw0 hP hk nt;have hT:=qvz (rs:=rs) b5 au nt;have h8:∀g:Int->Int,(∀x∈hp rs a7 P,g x=f x)->g i=c->(∀x,x∈hp rs a7 P\/x=i->∀y,y∈hp rs a7 P\/y=i->g x=g y->x=y)->vz (rdF ss rs a z c) (rdF ss a7 b z c)=vZ ss rs a7 P z i:=λg hg hc hj=>by
  have a1:a=qK g (pS rs P):=by rw[e1];exact(kkf λx hx=>hg x (wvx hx)).symm
  have b1:b=qK g (pT rs a7 P):=by rw[e2];exact(kkf λx hx=>hg x (wvw hx)).symm
  obtain⟨r1,r2⟩:=kxr (f:=g) (z:=z) (c:=i) hP hk hS λx hx e=>hj x (.inl (wvx hx)) i (.inr rfl) e
  obtain⟨r3,r4⟩:=kxr (f:=g) (z:=z) (c:=i) b5 au hT λx hx e=>hj x (.inl (wvw hx)) i (.inr rfl) e
  rw[a1,b1,<-hc,r1,r3];refine qvy λn hn x hx e=>?_
  refine hj x ?_ n ?_ e
  ·rcases r4 x hx with q|q
   ·exact .inl (wvw q)
   ·exact .inr q
  ·rcases r2 n hn with q|q
   ·exact .inl (wvx q)
   ·exact .inr q
 rcases hl with⟨i0,i1,hc⟩|⟨rfl,hc⟩
 ·have him:i∈hp rs a7 P:=by rw[hr];exact mem_rngL.mpr ⟨i0,i1⟩
  have hci:f i=c:=by
   rw[hh,hr,Xh]at hc;show f i=c;unfold v7 at hc;rw[Xh,List.getElem?_range ⋯]at hc;have hc:=oq9 hc;rw[<-hc];show f i=f ((i.toNat:Nat):Int);rw[show((i.toNat:Nat):Int)=i by omega]
  exact h8 f (λ_ _=>rfl) hci λx hx y hy e=>hi x (hx.elim id λq=>q▸him) y (hy.elim id λq=>q▸him) e
 ·have gf:((pO rs a7 P:Nat):Int)∉hp rs a7 P:=λq=>by
   rw[hr]at q;have:=mem_rngL.mp q;omega
  have b8:∀x∈hp rs a7 P,x≠((pO rs a7 P:Nat):Int):=λx hx e=>gf (e▸hx)
  have hfc:∀x∈hp rs a7 P,f x≠c:=λx hx e=>hc (by rw[hh,<-e];exact List.mem_map.mpr ⟨x,hx,rfl⟩)
  refine h8 (λx=>if x=((pO rs a7 P:Nat):Int)then c else f x) (λx hx=>Xf (b8 x hx)) (X8 rfl) λx hx y hy e=>?_
  rcases hx with hx|rfl
  ·rw[Xf (b8 x hx)]at e;rcases hy with hy|rfl
   ·rw[Xf (b8 y hy)]at e;exact hi x hx y hy e
   ·rw[X8 rfl]at e;exact absurd e (hfc x hx)
  ·rw[X8 rfl]at e;rcases hy with hy|rfl
   ·rw[Xf (b8 y hy)]at e;exact absurd e.symm (hfc y hy)
   ·rfl
structure Two (kps kps':List Int)(S T:Sn):Prop where
 a:kY kps S
 b:kY kps' T
 na:(nms S).Nodup
 nb:(nms T).Nodup
theorem Two.next{a b:Sn}(z:Str)(c:Int)(hP:Prs kps ss.length rs)(hk:Kq9 kps)(b5:Prs kps' ss.length a7)(au:Kq9 kps')(h:Two kps kps' a b):Two kps kps' (rdF ss rs a z c) (rdF ss a7 b z c):=
 ⟨(xv z c hP hk h.a).2,(xv z c b5 au h.b).2,vkq hP hk h.a h.na,vkq b5 au h.b h.nb⟩
theorem qv4{P:D}{a b:Sn}{z:Str}{i c:Int}(hP:Prs kps ss.length rs)(hk:Kq9 kps)(b5:Prs kps' ss.length a7)(au:Kq9 kps')(nt:Pok kps kps' P)(ht:Two kps kps' a b)(h:Rl rs a7 P a b)(hl:Lk (pO rs a7 P) a b i c):
  Rl rs a7 (vZ ss rs a7 P z i) (rdF ss rs a z c) (rdF ss a7 b z c):=by
 rw[<-vvi hP hk b5 au nt h hl];have t:=ht.next z c hP hk b5 au
 exact wv4 hP hk b5 au t.a t.b t.na t.nb
theorem vww{P:D}{a b:Sn}(c:Int)(h:Rl rs a7 P a b):∃i:Int,0<=i/\i<=pO rs a7 P/\Lk (pO rs a7 P) a b i c:=by
 have hl:=vko h
 by_cases hc:c∈qJ (nms a) (nms b)
 ·obtain⟨m,hm,e⟩:=Z7 hc;exact⟨(m:Int),⋯,⋯,.inl ⟨⋯,⋯,by rw[Xq,X1 hm,e]⟩⟩
 ·exact⟨_,⋯,Int.le_refl _,.inr ⟨rfl,hc⟩⟩
theorem wj5{P:D}{a b:Sn}(nt:Pok kps kps' P)(h:Rl rs a7 P a b):gdF rs (rmO a)=gS rs P/\gdF a7 (rmO b)=gT a7 P:=by
 obtain⟨f,e1,e2,_⟩:=h;obtain⟨p,q,sh,rfl,_⟩:=nt;have rm:∀(r:Int) (ks:List Int),rmO (vx r ks)=r:=λr ks=>by
  unfold vx
  split
  ·rename_i h;rw[h];rfl
  ·rfl
 rw[e1,e2,kj6,kj6];constructor
 ·show gdF rs (rmO (vx p _))=gdF rs p;rw[rm]
 ·show gdF a7 (rmO (vx q _))=gdF a7 q;rw[rm]
def run(ss:List Str)(rs:List D)(S:Sn)(w:List (Str×Int)):Sn:=w.foldl (λS x=>rdF ss rs S x.1 x.2) S
abbrev S0:Sn:=some (0,[])
theorem qqg(h0:kps[0]?=some 0)(gp:kps'[0]?=some 0):Two kps kps' S0 S0:=by
 have mk:∀{l:List Int},l[0]?=some 0->kY l S0:=fun {l} h room ks e=>by
  cases e;have hl:=(List.getElem?_eq_some_iff.mp h).1;exact⟨⋯,⋯,by show(0:Int)=l.getD 0 0;rw[X4,h];rfl⟩
 exact⟨mk h0,mk gp,Xs,Xs⟩
theorem wzc(hP:Prs kps ss.length rs)(hk:Kq9 kps)(b5:Prs kps' ss.length a7)(au:Kq9 kps')(h0:kps[0]?=some 0)(gp:kps'[0]?=some 0):Rl rs a7 P0 S0 S0:=by
 have t:=qqg h0 gp;exact wv4 hP hk b5 au t.a t.b t.na t.nb
theorem wve{K:List D}(hP:Prs kps ss.length rs)(hk:Kq9 kps)(b5:Prs kps' ss.length a7)(au:Kq9 kps')(hK:∀P∈K,Pok kps kps' P/\gS rs P=gT a7 P/\∀z∈ss,∀i:Int,0<=i->i<=pO rs a7 P->vZ ss rs a7 P z i∈K):
  ∀(w:List (Str×Int)) {P:D} {a b:Sn},(∀x∈w,x.1∈ss)->P∈K->Two kps kps' a b->Rl rs a7 P a b->gdF rs (rmO (run ss rs a w))=gdF a7 (rmO (run ss a7 b w))
 |[],P,a,b,_,hPK,_,h=>by
  obtain⟨h1,h2,_⟩:=hK P hPK;obtain⟨g1,g2⟩:=wj5 h1 h;show gdF rs (rmO a)=gdF a7 (rmO b);rw[g1,g2,h2]
 |x::w,P,a,b,hw,hPK,ht,h=>by
  obtain⟨h1,_,h3⟩:=hK P hPK;obtain⟨i,i0,i1,hl⟩:=vww x.2 h;exact wve hP hk b5 au hK w (λy hy=>hw y (lc9 _ hy)) (h3 x.1 (hw x X6) i i0 i1) (ht.next x.1 x.2 hP hk b5 au) (qv4 hP hk b5 au h1 ht h hl)
theorem qv0{h:Int->Int}(hP:Prs kps ss.length rs)(hk:Kq9 kps):∀(w:List (Str×Int)) {S:Sn},kY kps S->(∀x,x∈nms S\/x∈w.map (·.2)->∀y,y∈nms S\/y∈w.map (·.2)->h x=h y->x=y)->run ss rs (qK h S) (w.map λx=>(x.1,h x.2))=qK h (run ss rs S w)
 | [],S,_,_=>rfl
 | x::w,S,hS,hi=>by
  have hc:∀{y:Int},y=x.2->y∈nms S\/y∈((x::w).map (·.2)):=λe=>.inr (by rw[e];exact X6)
  obtain⟨r1,r2⟩:=kxr (f:=h) (z:=x.1) (c:=x.2) hP hk hS λy hy e=>hi y (.inl hy) x.2 (hc rfl) e
  show run ss rs (rdF ss rs (qK h S) x.1 (h x.2)) (w.map λx=>(x.1,h x.2))=qK h (run ss rs (rdF ss rs S x.1 x.2) w);rw[r1];have up:∀y:Int,y∈nms (rdF ss rs S x.1 x.2)\/y∈w.map (·.2)->y∈nms S\/y∈(x::w).map (·.2):=λy hy=>by
   rcases hy with hy|hy
   ·rcases r2 y hy with q|q
    ·exact .inl q
    ·exact hc q
   ·exact .inr (lc9 _ hy)
  exact qv0 hP hk w (xv x.1 x.2 hP hk hS).2 λy hy y' hy' e=>hi y (up y hy) y' (up y' hy') e
end
theorem vzk{a b:Ex}{e:Option Sd}{E:En}{P:En->Sd->Prop}{X:XP}:Eo (vzo a b (e::E)) P X=Eo (a (e::E)) (λE x=>Eo (b E) (λE y=>Wo (ww0 x.2 y.2) E (λE d=>P E (.dp,d))) X) X:=by
 unfold vzo;rw[k5];congr 1;funext E x;rw[k5];congr 1;funext E y;rw[z6];exact vo_map
noncomputable def m_steps_from:Fn:=fn 8
  (j7 (jq 3 (jz B.m_first_standings [(cV 0),(cV 1),(cV 2)]))
  (j7 (jq 4 (VX (vE (cF2 kq (vE (cF1 (pu1 v6) (vE (jz B.m_held_by_both [(cV 3)])))) (C9 1)))))
  (j7 (jq 5 (wx .rt []))
  (j7 (vQ (itS (cF1 W8 (vE (cF2 kq (jv (vV 0) (C9 0)) (jv (vV 1) (C9 0)))))) (.n 6) (vQ (itS (cV 4)) (.n 7) (vJ vW 5 (qz .no [(cV 6),(cV 7),(jz B.m_pair_of [(jz B.m_read_by_both [(cV 0),(cV 1),(cV 3),(cV 6),(cV 7)])])]))))
  (k7 (cMv 5))))))
def m_least_beside:Fn:=fn 2
  (j7 (jq 1 (cC (.int 0)))
  (j7 (sWhile (tE (cF2 (pu2 J7) (vV 1) (vV 0))) (W1 (λa b=>a+b) 1 (cC (.int 1))))
  (k7 (cMv 1))))
noncomputable def m_parting_row:Fn:=fn 10
  (j7 (jq 4 (jz B.m_first_standings [(cV 0),(cV 1),(cV 2)]))
  (j7 (jq 5 (wx .rt []))
  (j7 (vQ (itS (cV 3)) (.t [6,7]) (j7 (jq 8 (jz B.m_held_by_both [(cV 4)]))
  (j7 (jq 9 (cIf (tE (cF2 (pu2 fLt) (vV 7) (vE (cF1 (pu1 v6) (vV 8))))) (cH (jv (vV 8) (vV 7))) (jz m_least_beside [(cV 8)])))
  (j7 (vJ vW 5 (qz .no [(cV 6),(cV 9)]))
  (jq 4 (jz B.m_read_by_both [(cV 0),(cV 1),(cV 4),(cV 6),(cV 9)]))))))
  (k7 (cMv 5)))))
def m_steps_to:Fn:=fn 4
  (j7 (jq 2 (wx .rt []))
  (j7 (jq 3 (cH (vzo (vV 0) (vV 1))))
  (j7 (sWhile (tE (cF2 (f2First fNotNon) (vV 3) (vE (cC .non)))) (j7 (vJ vW 2 (qz .no [(cH (jv (vV 3) (C9 1))),(cH (jv (vV 3) (C9 2)))]))
  (jq 3 (cH (vzo (vV 0) (jv (vV 3) (C9 0)))))))
  (k7 (cF1 XV (vV 2))))))
noncomputable def m_searched:Fn:=fn 10
  (j7 (jq 3 (vkb (cV 2) (cC .non)))
  (j7 (jq 4 (wx .rt [(cV 2)]))
  (j7 (jq 5 (cC (.int 0)))
  (j7 (sWhile (tE (cF2 (pu2 fLt) (vV 5) (vE (cF1 (pu1 v6) (vV 4))))) (j7 (jq 6 (cH (jv (vV 4) (vV 5))))
  (j7 (sIf (tNot (tEQ (vE (jz B.m_agrees [(cV 0),(cV 1),(cV 6)])))) (k7 (qz .no [(cC (.str "apart")),(jz m_parting_row [(cV 0),(cV 1),(cV 2),(jz m_steps_to [(cV 3),(cV 6)])])])) wv)
  (j7 (vQ (itS (jz m_steps_from [(cV 0),(cV 1),(cV 6)])) (.t [7,8,9]) (sIf (tE (cF2 (pu2 V0) (vV 9) (vV 3))) (j7 (qzu 3 (vV 9) (qz .no [(cV 6),(cV 7),(cV 8)]))
  (vJ vW 4 (cV 9))) wv))
  (W1 (λa b=>a+b) 5 (cC (.int 1)))))))
  (k7 (qz .no [(cC (.str "alike")),(cV 4)]))))))
def J0(i:Int):List (List (Int×Int)):=[[],[(i,0)],[(i,1)],[(i,2)]]
def AllS:List (List (Int×Int)):=(J0 0).flatMap λa=>(J0 1).flatMap λb=>(J0 2).map λc=>a++(b++c)
def rms:List Int:=[-1,0,1,2,3,4,5]
def AllP:List D:=rms.flatMap λp=>rms.flatMap λq=>AllS.map λs=>.tup [.int p,.int q,.tup (prs s)]
theorem qwo{α β:Type}{f:α->List β}{n:Nat}:∀(l:List α),(∀a∈l,(f a).length=n)->(l.flatMap f).length=l.length*n
 |[],_=>by simp
 |a::l,h=>by
  rw[Zi,Xd,qwo l λb hb=>h b (lc9 _ hb),h a X6,Xp,Nat.add_mul];omega
theorem vke:AllP.length=3136:=by
 unfold AllP;rw[qwo (n:=448)]
 ·rfl
 ·intro p _;rw[qwo (n:=64)]
  ·rfl
  ·intro q _;rw[X3];rfl
theorem vwk{i j:Int}(h0:0<=j)(h1:j<3):[(i,j)]∈J0 i:=by
 rcases(show j=0\/j=1\/j=2 by omega)with rfl|rfl|rfl<;>simp[J0]
theorem WJ(t:List Int)(ht:t.length<=3)(k:Nat)(n:Int)(o:List Int):∃a∈J0 k,kw t k (n::o)=a++kw t (k+1) o:=by
 have e:kw t k (n::o)=if(t.any λw=>w==n)=true then((k:Int),((t.findIdx λw=>w==n:Nat):Int))::kw t (k+1) o else kw t (k+1) o:=rfl
 rw[e]
 by_cases h:(t.any λw=>w==n)=true
 ·obtain⟨x,hx,e⟩:=List.any_eq_true.mp h;have:=Yv (xs:=t) (p:=λw=>w==n) ⟨x,hx,e⟩;rw[X8 h];exact⟨_,vwk (i:=k) (j:=((t.findIdx λw=>w==n:Nat):Int)) ⋯ ⋯,rfl⟩
 ·rw[Xf h];exact⟨[],by simp[J0],rfl⟩
theorem vvc{t o:List Int}(ht:t.length<=3)(ho:o.length<=3):kw t 0 o∈AllS:=by
 have em:∀i,[]∈J0 i:=λi=>by simp[J0]
 have mk:∀{a b c},a∈J0 0->b∈J0 1->c∈J0 2->a++(b++c)∈AllS:=λha hb hc=>List.mem_flatMap.mpr ⟨_,ha,List.mem_flatMap.mpr ⟨_,hb,List.mem_map.mpr ⟨_,hc,rfl⟩⟩⟩
 match o,ho with
 |[],_=>exact mk (em 0) (em 1) (em 2)
 |[x],_=>
  obtain⟨a,ha,e⟩:=WJ t ht 0 x [];rw[e];exact mk ha (em 1) (em 2)
 |[x,y],_=>
  obtain⟨a,ha,e⟩:=WJ t ht 0 x [y];obtain⟨b,hb,e2⟩:=WJ t ht 1 y [];rw[e,e2];exact mk ha hb (em 2)
 |[x,y,z],_=>
  obtain⟨a,ha,e⟩:=WJ t ht 0 x [y,z];obtain⟨b,hb,e2⟩:=WJ t ht 1 y [z];obtain⟨c,hc,e3⟩:=WJ t ht 2 z [];rw[e,e2,e3];have:=mk ha hb hc
  simpa [kw]using this
theorem qv3{p:Int}(h0:-1<=p)(h1:p<6):p∈rms:=by
 rcases(show p=-1\/p=0\/p=1\/p=2\/p=3\/p=4\/p=5 by omega)with rfl|rfl|rfl|rfl|rfl|rfl|rfl<;>simp[rms]
def Pin(kps kps':List Int)(d:D):Prop:=Pok kps kps' d/\d∈AllP
section
variable {kps kps':List Int}{ss:List Str}{rs a7:List D}
theorem wk6{a b:Sn}(h6:kps.length<=6)(nk:kps'.length<=6)(ha:kY kps a)(hb:kY kps' b)(hk:Kq9 kps)(au:Kq9 kps'):Pin kps kps' (vz a b):=by
 obtain⟨a0,a1⟩:=qzr ha;obtain⟨b0,b1⟩:=qzr hb;refine⟨qj5 ha hb hk,List.mem_flatMap.mpr ⟨_,qv3 a0 ⋯,List.mem_flatMap.mpr ⟨_,qv3 b0 ⋯,List.mem_map.mpr ⟨_,vvc (Jq au hb) (Jq hk ha),rfl⟩⟩⟩⟩
theorem wk7(h1:1<=kps.length)(h1':1<=kps'.length):Pin kps kps' P0:=by
 refine⟨⟨0,0,[],rfl,⋯,⋯,⋯,⋯,Yd _⟩,List.mem_flatMap.mpr ⟨0,by simp[rms],List.mem_flatMap.mpr ⟨0,by simp[rms],List.mem_map.mpr ⟨[],⋯,rfl⟩⟩⟩⟩
theorem kq9{d:D}(h:Pin kps kps' d):v4 d=true/\d.pure=true:=by
 obtain⟨⟨p,q,sh,rfl,_⟩,_⟩:=h;refine⟨wq9 _ _ _,?_⟩;have:D.pures (prs sh)=true:=D.pures_map _ _ λx _=>rfl
 show(true&&(true&&(D.pures (prs sh)&&true)))=true;rw[this];rfl
theorem qjk(a:Str):∀l:List Str,(J8 a l).length=l.length+1
 |[]=>rfl
 |b::l=>by
  unfold J8
  split
  ·rw[Xp,qjk a l,Xp]
  ·rfl
theorem kvh:∀l:List Str,(x5 l).length=l.length
 |[]=>rfl|a::l=>by rw[x5,qjk,kvh l];rfl
theorem vqp:∀(l aa:List Str),(l.foldl (λl k=>if l.any (· == k)then l else l++[k]) aa).length<=aa.length+l.length
 |[],aa=>Xb _
 |a::l,aa=>by
  rw[Yq];have:=vqp l (if aa.any (· == a)then aa else aa++[a])
  split at this
  ·rw[Xp];rename_i h;rw[X8 h];omega
  ·rename_i h;rw[Xf h];rw[Xd,Y0]at this;rw[Xp];omega
abbrev St3:=List (Str×Int×D)
abbrev stD(x:Str×Int×D):D:=.tup [.str x.1,.int x.2.1,x.2.2]
theorem kqu{a x:Str}:∀{l:List Str},x=a\/x∈l->x∈J8 a l
 | [],h=>by
  rcases h with rfl|h
  ·exact aB rfl
  ·exact nomatch h
 | b::l,h=>by
  unfold J8
  split
  ·rcases h with rfl|h
   ·exact lc9 _ (kqu (.inl rfl))
   ·rcases aD h with rfl|h
    ·exact X6
    ·exact lc9 _ (kqu (.inr h))
  ·rcases h with rfl|h
   ·exact X6
   ·exact lc9 _ h
theorem kvg{x:Str}:∀{l:List Str},x∈l->x∈x5 l
 |[],h=>nomatch h|a::l,h=>kqu ((aD h).imp id kvg)
theorem vqo{x:Str}:∀(l aa:List Str),x∈aa\/x∈l->x∈l.foldl (λl k=>if l.any (· == k)then l else l++[k]) aa
 | [],aa,h=>h.elim id λz=>nomatch z
 | a :: l,aa,h=>by
  rw [Yq];refine vqo l _ ?_
  by_cases ha:(aa.any (· == a))=true
  ·rw[X8 ha];rcases h with h|h
   ·exact .inl h
   ·rcases aD h with rfl|h
    ·obtain⟨y,hy,e⟩:=List.any_eq_true.mp ha;have e:y=x:=by simpa using e
     exact .inl (e▸hy)
    ·exact .inr h
  ·rw[Xf ha];rcases h with h|h
   ·exact .inl (ll9 _ h)
   ·rcases aD h with rfl|h
    ·exact .inl (lr9 _ (aB rfl))
    ·exact .inr h
def Stp(ss:List Str)(rs a7:List D)(P:D)(L:List (Str×Int×D)):Prop:=∀x∈L,0<=x.2.1/\x.2.1<=pO rs a7 P/\x.2.2=vZ ss rs a7 P x.1 x.2.1
inductive FrA (kps kps':List Int)(ss:List Str)(rs a7:List D)(P:D)(S T:Sn)(own:Nat)(zz:List Str):En->List D->Prop
 |mk (L:St3) (zs:List Str) {o4:Own} {l6:Option Sd} {l7:Option Sd} {a9:List D} (h0:o4≠.dp) (h1:a9=zs.map D.str) (h2:zs.length<=6) (h3:L.length+zs.length*7<=42) (h4:(∀x∈L,0<=x.2.1/\x.2.1<=own/\x.2.2=vZ ss rs a7 P x.1 x.2.1)) (h5:∀z∈zz,z∈zs\/∀i:Int,0<=i->i<=own->(z,i,vZ ss rs a7 P z i)∈L):FrA kps kps' ss rs a7 P S T own zz [some (.no,jJ ss rs),some (.no,jJ ss a7),some (.no,P),some (.no,lat (S,T)),some (o4,.lst (k8 0 ((own:Int)+1))),some (.rt,.lst (L.map stD)),l6,l7] a9
inductive FrB (kps kps':List Int)(ss:List Str)(rs a7:List D)(P:D)(S T:Sn)(own:Nat)(z:Str)(L:St3):En->List D->Prop
 |mk (L2:St3) (pre:List D) {l7:Option Sd} {a9:List D} (h0:k8 0 ((own:Int)+1)=pre++a9) (h1:L2.length=L.length+pre.length) (h2:(∀x∈L2,0<=x.2.1/\x.2.1<=own/\x.2.2=vZ ss rs a7 P x.1 x.2.1)) (h3:(∀x∈L,x∈L2)) (h4:∀c:Int,D.int c∈pre->(z,c,vZ ss rs a7 P z c)∈L2):FrB kps kps' ss rs a7 P S T own z L [some (.no,jJ ss rs),some (.no,jJ ss a7),some (.no,P),some (.no,lat (S,T)),some (.no,.lst (k8 0 ((own:Int)+1))),some (.rt,.lst (L2.map stD)),some (.no,.str z),l7] a9
theorem vxh{P:D}(hs:ss.length<=3)(h6:kps.length<=6)(nk:kps'.length<=6)(hP:Prs kps ss.length rs)(hk:Kq9 kps)(b5:Prs kps' ss.length a7)(au:Kq9 kps')(h:Pok kps kps' P):
  Oo m_steps_from [(.no,jJ ss rs),(.no,jJ ss a7),(.no,P)] (λy=>∃L:List (Str×Int×D),y=(.rt,.lst (L.map stD))/\Stp ss rs a7 P L/\∀z∈ss,∀i:Int,0<=i->i<=pO rs a7 P->(z,i,vZ ss rs a7 P z i)∈L) noX:=by
 have hS:=qw0 hP hk h;have hT:=qvz (rs:=rs) b5 au h;have hO:=wx8 hP hk b5 au h;have lS:=Jq hk hS;have lT:=Jq au hT;have hfi:=qjq hP hk b5 au h;have lj:((qJ (nms (pS rs P)) (nms (pT rs a7 P))).length:Int)=(pO rs a7 P:Nat):=rfl;have q0:∀a b:D,jW (.tup [a,b]) (.int 0)=some a:=λ_ _=>rfl
 unfold m_steps_from;refine kJ ?_;simp![];refine hfi.via ?_;intro y hy;subst hy;simp![];refine(qx6 (pS rs P) (pT rs a7 P) ⋯ ⋯).via ?_;intro y hy;subst hy;simp![lj];have bc:∀z i,vZ ss rs a7 P z i=vz (rdF ss rs (pS rs P) z i) (rdF ss a7 (pT rs a7 P) z i):=λ_ _=>rfl
 unfold Stp;generalize pO rs a7 P=own at *;generalize pS rs P=S at *;generalize pT rs a7 P=T at *;have hss:∀o,W8 (o,.lst (ss.map D.str++ss.map D.str))=some (.rt,.lst ((x5 (ddS (ss++ss))).map D.str)):=λo=>by
  rw [<-X9];unfold W8;dsimp only;rw [kxj];dsimp only;rw [X8 (by rw[Xd];omega)]
 have hzl:(x5 (ddS (ss++ss))).length<=6:=by
  rw [kvh];have:=vqp (ss++ss) [];rw [Xd]at this;show(ddS (ss++ss)).length<=6;unfold ddS;simp at this ⊢;omega
 have nq:∀z∈ss,z∈x5 (ddS (ss++ss)):=λz hz=>kvg (vqo _ _ (.inr (ll9 _ hz)))
 generalize x5 (ddS (ss++ss))=zz at hss hzl nq;have gq:kq (.no,sL ss) (.no,sL ss)=some (.rt,.lst (ss.map D.str++ss.map D.str)):=vqv ⋯ ⋯ (by rw[X3];omega);have pr:(k8 0 ((own:Int)+1)).length=own+1:=by unfold k8;rw[X3,Yc];omega
 refine xY (FrA kps kps' ss rs a7 P S T own zz) ?_ ?_ ?_
 ·simp![q0,gq,hss];exact .mk [] zz ⋯ rfl hzl (by rw[List.length_nil];omega) (λx hx=>nomatch hx) λz hz=>.inl hz
 ·rintro E d ds ⟨L,zs,ho4,av,hz6,hl,hL,hM⟩;cases zs with
  | nil=>cases av
  | cons z zs=>
   rw [List.map_cons]at av;injection av with e1 e2;subst e1 e2;rw [Xp]at hz6 hl;simp![];refine xY (FrB kps kps' ss rs a7 P S T own z L) ?_ ?_ ?_
   ·simp![];exact⟨L,[],rfl,rfl,hL,λ_ h=>h,λ_ h=>nomatch h⟩
   ·rintro E d ds ⟨L2,pre,hpr,hl2,jt,hLL,hM2⟩;obtain⟨c,c0,c1,rfl⟩:=kz4 (show d∈k8 0 ((own:Int)+1)by rw[hpr];simp);have ab:=congrArg List.length hpr;rw[pr,Xd,Xp]at ab;obtain⟨r1,r2⟩:=xv z c hP hk hS;obtain⟨r1',r2'⟩:=xv z c b5 au hT;simp![];refine zJ rfl ?_;simp![];refine(qz3 (w:=(z,c)) r1 r1').via ?_;intro y hy;subst hy;simp![];have l1:=Jq hk r2;have l2:=Jq au r2';refine(qkd (rdF ss rs S z c) (rdF ss a7 T z c) ⋯ ⋯).via ?_;intro y hy;subst hy;simp![];have e5:(L2++[(z,c,vz (rdF ss rs S z c) (rdF ss a7 T z c))]).map stD=L2.map stD++[stD (z,c,vz (rdF ss rs S z c) (rdF ss a7 T z c))]:=by rw[X9];rfl
    refine⟨_,rfl,by rw[X3];omega,?_⟩;rw[<-e5];refine .mk (L2++[(z,c,vz (rdF ss rs S z c) (rdF ss a7 T z c))]) (pre++[.int c]) (by rw[hpr];simp) (by simp;omega) (λx hx=>?_) (λx hx=>ll9 _ (hLL x hx)) λc' hc'=>?_
    ·rcases aA hx with hx|hx
     ·exact jt x hx
     ·rw[aC hx];exact⟨c0,by show c<=own;omega,(bc z c).symm⟩
    ·rcases aA hc' with hc'|hc'
     ·exact ll9 _ (hM2 c' hc')
     ·have hc':=aC hc';injection hc' with hc';rw[hc',bc];exact lr9 _ (aB rfl)
   ·rintro E ⟨L2,pre,hpr,hl2,jt,hLL,hM2⟩;rw[Y7]at hpr;rw[<-hpr,pr]at hl2;refine⟨L2,zs,⋯,rfl,⋯,⋯,jt,λz' fy=>?_⟩;rcases hM z' fy with h|h
    ·rcases aD h with rfl|h
     ·refine .inr λi i0 i1=>hM2 i ?_
      rw[<-hpr];exact List.mem_map.mpr ⟨i.toNat,List.mem_range.mpr ⋯,by show D.int (0+(i.toNat:Int))=_;congr 1;omega⟩
     ·exact .inl h
    ·exact .inr λi i0 i1=>hLL _ (h i i0 i1)
 ·rintro E ⟨L,zs,ho4,av,hz6,hl,hL,hM⟩;cases zs with
  |cons=>cases av
  |nil=>
   simp![];exact⟨L,rfl,hL,λz hz=>(hM z (nq z hz)).elim (λh=>nomatch h) id⟩
end
theorem qxh{ks:List Int}{i:Int}(h:(ks.any λw=>w==i)=true):(ks.filter λx=>decide (i+1<=x)).length<(ks.filter λx=>decide (i<=x)).length:=by
 induction ks with
 | nil=>cases h
 | cons a ks ih=>
  have mono:∀l:List Int,(l.filter λx=>decide (i+1<=x)).length<=(l.filter λx=>decide (i<=x)).length:=λl=>by
   induction l with
   | nil=>exact Xb _
   | cons b l ih=>
    by_cases h1:i+1<=b
    ·rw[Yh (by simpa using h1),Yh (by simp;omega)];simp;omega
    ·rw[Yl (by simpa using h1)]
     by_cases h2:i<=b
     ·rw[Yh (by simpa using h2)];simp;omega
     ·rw[Yl (by simpa using h2)];exact ih
  rw[Zk,Bool.or_eq_true]at h
  by_cases ha:a=i
  ·rw[Yl (by simp;omega),Yh (by simp;omega),Xp];have:=mono ks;omega
  ·have h:=ih (h.resolve_left (by simpa using ha))
   by_cases h1:i+1<=a
   ·rw[Yh (by simpa using h1),Yh (by simp;omega)];simp;omega
   ·rw[Yl (by simpa using h1),Yl (by simp;omega)];exact h
theorem vjm(ks:List Int):Oo m_least_beside [(.no,iT ks)] (λy=>∃p:Own×Int,y=(p.1,.int p.2)/\p.2∉ks) noX:=by
 unfold m_least_beside;refine kJ ?_;simp![];refine jzq (λn E=>∃(o o1:Own) (i:Int),E=[some (o,iT ks),some (o1,.int i)]/\n=(ks.filter λx=>decide (i<=x)).length) ?_ _ _ ⟨_,_,0,rfl,rfl⟩;rintro n E ⟨o,o1,i,rfl,rfl⟩;cases h:(ks.any λw=>w==i)with
 |true=>
  have e:J7 (.int i) (iT ks)=some (.bl true):=by rw[Q8,h]
  simp![e];refine vqt rfl ?_;simp![];exact⟨_,rfl,_,qxh h,_,_,i+1,rfl,rfl⟩
 |false=>
  have e:J7 (.int i) (iT ks)=some (.bl false):=by rw[Q8,h]
  simp![e];refine⟨(_,i),rfl,λhm=>?_⟩;rw[KJ]at h;exact of_decide_eq_false h hm
abbrev Kvs:=List (D×D)
abbrev wyD(p:D)(z:Str)(i:Int):D:=.tup [p,.str z,.int i]
section
variable {ss:List Str}{rs a7:List D}{P:D}
inductive Wy (ss:List Str)(rs a7:List D)(P:D):Kvs->Prop
 |one:Wy ss rs a7 P [(P,.non)]
 |more {W:Kvs} {k p:D} {z:Str} {i:Int}:Wy ss rs a7 P W->k∉W.map (·.1)->p∈W.map (·.1)->0<=i->i<=pO rs a7 p->k=vZ ss rs a7 p z i->Wy ss rs a7 P (W++[(k,wyD p z i)])
def Wk(ss:List Str)(rs a7:List D):D->List (Str×Int)->D->Prop
 |P,[],R=>P=R|P,x::L,R=>(0<=x.2/\x.2<=pO rs a7 P)/\Wk ss rs a7 (vZ ss rs a7 P x.1 x.2) L R
theorem qjn{W:Kvs}{k v x:D}:x8 (W++[(k,v)]) x=if x∈W.map (·.1)then x8 W x else if k=x then some v else none:=by
 unfold x8;rw[List.find?_append]
 by_cases h:x∈W.map (·.1)
 ·rw[X8 h];obtain⟨e,he,hx⟩:=aE h;have:(W.find? λp=>decide (p.1=x)).isSome=true:=by
   rw[List.find?_isSome];exact⟨e,he,Xi hx⟩
  obtain⟨y,hy⟩:=Option.isSome_iff_exists.mp this;rw[hy];rfl
 ·rw[Xf h];have:(W.find? λp=>decide (p.1=x))=none:=by
   rw[List.find?_eq_none];intro e he hx;exact h (List.mem_map.mpr ⟨e,he,Z4 hx⟩)
  rw[this]
  by_cases hk:k=x
  ·rw[X8 hk];simp[hk]
  ·rw[Xf hk];simp[hk]
def Vw(ss:List Str)(rs a7:List D)(P:D)(rk:D->Nat)(ks:List D)(k v:D):Prop:=(v=.non/\k=P)\/∃p z i,v=wyD p z i/\0<=i/\i<=pO rs a7 p/\k=vZ ss rs a7 p z i/\p∈ks/\rk p<rk k
theorem vqy{W:Kvs}(h:Wy ss rs a7 P W):∃rk:D->Nat,∀k∈W.map (·.1),rk k<W.length/\∃v,x8 W k=some v/\Vw ss rs a7 P rk (W.map (·.1)) k v:=by
 induction h with
 | one=>
  refine⟨λ_=>0,λk hk=>?_⟩;have hk:k=P:=aC hk;subst hk;exact⟨Nat.zero_lt_one,.non,by simp[x8],.inl ⟨rfl,rfl⟩⟩
 | @more W k p z i hW hk hp hi hi2 bc ih=>
  obtain⟨rk,ih⟩:=ih;refine⟨λx=>if x=k then W.length else rk x,λx hx=>?_⟩;have su:∀y,y∈W.map (·.1)->y∈(W++[(k,wyD p z i)]).map (·.1):=λy hy=>by rw[X9];exact List.mem_append.mpr (.inl hy)
  by_cases hxk:x=k
  ·subst hxk;have hpx:p≠x:=λe=>hk (e▸hp)
   refine⟨by simp,wyD p z i,?_,.inr ⟨p,z,i,rfl,hi,hi2,bc,su p hp,?_⟩⟩
   ·rw[qjn,Xf hk,X8 rfl]
   ·dsimp only;rw[Xf hpx,X8 rfl];exact(ih p hp).1
  ·have hxW:x∈W.map (·.1):=by
    rw[X9]at hx;rcases aA hx with hx|hx
    ·exact hx
    ·exact absurd (aC hx) hxk
   obtain⟨a,v,b,c⟩:=ih x hxW;refine⟨?_,v,?_,?_⟩
   ·dsimp only;rw[Xf hxk,Xd,Y0];omega
   ·rw[qjn,X8 hxW,b]
   ·rcases c with c|⟨p',z',i',e,h0,h1,h2,km,hr⟩
    ·exact .inl c
    ·refine .inr ⟨p',z',i',e,h0,h1,h2,su p' km,?_⟩;have:p'≠k:=λe=>hk (e▸km)
     dsimp only;rw[Xf this,Xf hxk];exact hr
theorem qzk{W:Kvs}(h:Wy ss rs a7 P W):(∀k∈W.map (·.1),D.pure k=true)->D.pures (W.map (·.2))=true:=by
 induction h with
 |one=>intro _;rfl
 |@more W k p z i hW hk hp hi _ _ ih=>
  intro km;have g1:=ih λx hx=>km x (by rw[X9];exact List.mem_append.mpr (.inl hx))
  have g2:=km p (by rw[X9];exact List.mem_append.mpr (.inl hp));rw[X9,D.pures_all,List.all_append,<-D.pures_all,g1];show(D.pures [p,.str z,.int i]&&true)=true;show((D.pure p&&(true&&(true&&true)))&&true)=true;rw[g2];rfl
abbrev rwI(x:Str×Int):D:=.tup [.str x.1,.int x.2]
theorem wwk{o:Own}{xs:List D}(h:o≠.dp):XV (o,.lst xs)=some (.rt,.lst xs.reverse):=by
 unfold XV;dsimp only;rw[X8 (by cases o<;>simp_all [qw])]
theorem kwp{W:Kvs}{k v:D}(h:x8 W k=some v)(hp:D.pures (W.map (·.2))=true):D.pure v=true:=by
 unfold x8 at h;obtain⟨e,he,rfl⟩:=Option.map_eq_some_iff.mp h;rw[D.pures_all,Z2]at hp;exact hp _ (List.mem_map.mpr ⟨e,List.mem_of_find?_eq_some he,rfl⟩)
theorem ww8{W:Kvs}{k:D}(hW:Wy ss rs a7 P W)(hu:unm W=true)(hK:∀k∈W.map (·.1),v4 k=true/\D.pure k=true)(hl:W.length<=3500)(hk:k∈W.map (·.1)):
  Oo m_steps_to [(.no,.dct W),(.no,k)] (λy=>∃L:List (Str×Int),y=(.rt,.lst (L.map rwI))/\L.length<=3500/\Wk ss rs a7 P L k) noX:=by
 obtain⟨rk,hr⟩:=vqy hW;have kr:=qzk hW λk hk=>(hK k hk).2
 have ei:∀x∈W.map (·.1),ww0 (.dct W) x=x8 W x:=λx hx=>X8 ⟨(hK x hx).1,hu,kr⟩
 have t0:∀a b c:D,jW (.tup [a,b,c]) (.int 0)=some a:=λ_ _ _=>rfl
 have t1:∀a b c:D,jW (.tup [a,b,c]) (.int 1)=some b:=λ_ _ _=>rfl
 have t2:∀a b c:D,jW (.tup [a,b,c]) (.int 2)=some c:=λ_ _ _=>rfl
 obtain⟨a,v,b,c⟩:=hr k hk;unfold m_steps_to;refine kJ ?_;simp![↓vzk,ei k hk,b,kwp b kr];refine jzq (λn E=>∃(v x:D) (L:List (Str×Int)),E=[some (.no,.dct W),some (.no,k),some (.rt,.lst (L.map rwI)),some (.dp,v)]/\Vw ss rs a7 P rk (W.map (·.1)) x v/\rk x<n/\L.length+n<=3500/\Wk ss rs a7 x L.reverse k) ?_ 3500 _ ⟨v,k,[],rfl,c,⋯,by simp,rfl⟩;rintro n E ⟨v,x,L,rfl,hv,hn,hL,hx⟩;rcases hv with⟨rfl,rfl⟩|⟨p,z,i,rfl,h0,h1,h2,hp,hrk⟩
 ·simp![];rw[wwk ⋯];simp![];exact⟨L.reverse,by rw[List.map_reverse],by rw[List.length_reverse];omega,hx⟩
 ·obtain⟨a,v',b,c⟩:=hr p hp;simp![];refine zJ rfl ?_;simp![t1,t2];refine⟨_,rfl,by rw[X3];omega,?_⟩;simp![↓vzk,t0,ei p hp,b,kwp b kr];refine⟨n - 1,⋯,v',p,L++[(z,i)],by rw[X9];rfl,c,⋯,by rw[Xd,Y0];omega,?_⟩;rw[List.reverse_append];exact⟨⟨h0,h1⟩,h2▸hx⟩
end
section
variable {kps kps':List Int}{ss:List Str}{rs a7:List D}
theorem kzz{S:Sn}{w:List (Str×Int)}{z:Str}{c:Int}:run ss rs S (w++[(z,c)])=rdF ss rs (run ss rs S w) z c:=by
 unfold run;rw[List.foldl_append];rfl
theorem pS_0(h0:kps[0]?=some 0)(hP:Prs kps ss.length rs)(hk:Kq9 kps):pS rs P0=S0:=by
 have hl:=(List.getElem?_eq_some_iff.mp h0).1;have e:=(JY hP hk (p:=0) ⋯ ⋯).2.2.2.2 ⋯;show wvz 0 (kpF rs 0)=_;rw[e,X4,show(0:Int).toNat=0 from rfl,h0];rfl
theorem pT_0(h0:kps'[0]?=some 0)(b5:Prs kps' ss.length a7)(au:Kq9 kps'):pT rs a7 P0=S0:=by
 have hl:=(List.getElem?_eq_some_iff.mp h0).1;have e:=(JY b5 au (p:=0) ⋯ ⋯).2.2.2.2 ⋯;show wvy 0 (kpF rs 0) (kpF a7 0) _=_;rw[e,X4,show(0:Int).toNat=0 from rfl,h0];rfl
inductive RwA (kps kps':List Int)(ss:List Str)(rs a7:List D)(L:Lw)(k:D):En->List D->Prop
 |mk (w:Lw) (L2:Lw) (Q:D) {l6:Option Sd} {l7:Option Sd} {l8:Option Sd} {l9:Option Sd} {a9:List D} (h0:a9=L2.map rwI) (h1:Two kps kps' (run ss rs S0 w) (run ss a7 S0 w)) (h2:w.length+L2.length<=3500) (h3:Pok kps kps' Q) (h4:Rl rs a7 Q (run ss rs S0 w) (run ss a7 S0 w)) (h5:Wk ss rs a7 Q L2 k):RwA kps kps' ss rs a7 L k [some (.no,jJ ss rs),some (.no,jJ ss a7),some (.no,P0),some (.no,.lst (L.map rwI)),some (.no,lat (run ss rs S0 w,run ss a7 S0 w)),some (.rt,.lst (w.map rwI)),l6,l7,l8,l9] a9
theorem wj4{k:D}(L:List (Str×Int))(hl:L.length<=3500)(hL:Wk ss rs a7 P0 L k)(h0:kps[0]?=some 0)(gp:kps'[0]?=some 0)(hP:Prs kps ss.length rs)(hk:Kq9 kps)(b5:Prs kps' ss.length a7)(au:Kq9 kps'):
  Oo m_parting_row [(.no,jJ ss rs),(.no,jJ ss a7),(.no,P0),(.no,.lst (L.map rwI))] (λy=>∃w:List (Str×Int),y=(.rt,.lst (w.map rwI))/\w.length<=3500/\Rl rs a7 k (run ss rs S0 w) (run ss a7 S0 w)) noX:=by
 have h:Pok kps kps' P0:=(wk7 (List.getElem?_eq_some_iff.mp h0).1 (List.getElem?_eq_some_iff.mp gp).1).1;have hfi:=qjq hP hk b5 au h;rw [pS_0 h0 hP hk,pT_0 gp b5 au]at hfi;unfold m_parting_row;refine kJ ?_;simp![];refine hfi.via ?_;intro y hy;subst hy;simp![];refine xY (RwA kps kps' ss rs a7 L k) ?_ ?_ ?_
 ·simp![];exact⟨[],L,P0,rfl,qqg h0 gp,by simpa using hl,h,wzc hP hk b5 au h0 gp,hL⟩
 ·rintro E d ds ⟨w,L2,Q,av,ht,gl,hQ,hR2,jt⟩;cases L2 with
  | nil=>cases av
  | cons x L2=>
   rw[List.map_cons]at av;injection av with e1 e2;subst e1 e2;rw[Xp]at gl;obtain⟨z,i⟩:=x;obtain⟨⟨i0,i1⟩,jt⟩:=jt;have i0:0<=i:=i0;have i1:i<=pO rs a7 Q:=i1;have ab:=vko hR2;have nj:∀c,run ss rs S0 (w++[(z,c)])=rdF ss rs (run ss rs S0 w) z c/\run ss a7 S0 (w++[(z,c)])=rdF ss a7 (run ss a7 S0 w) z c:=λc=>⟨kzz,kzz⟩
   generalize run ss rs S0 w=S at *;generalize run ss a7 S0 w=T at *;have hS:=ht.a;have hT:=ht.b;have lS:=Jq hk hS;have lT:=Jq au hT;have hh:=kwo lS lT;generalize hR:j7 (jq 9 _) _=R;simp![];refine(qx6 S T ⋯ ⋯).via ?_;intro y hy;subst hy;simp![];subst hR;refine Wx (λE=>∃(o9:Own) (c:Int),E=[some (.no,jJ ss rs),some (.no,jJ ss a7),some (.no,P0),some (.no,.lst (L.map rwI)),some (.no,lat (S,T)),some (.rt,.lst (w.map rwI)),some (.no,.str z),some (.no,.int i),some (.no,iT (qJ (nms S) (nms T))),some (o9,.int c)]/\Lk (pO rs a7 Q) S T i c) ?_ ?_
   ·by_cases hi:i<(qJ (nms S) (nms T)).length
    ·have hd:decide (i<((qJ (nms S) (nms T)).length:Int))=true:=Xi hi;have hg:jW (iT (qJ (nms S) (nms T))) (.int i)=some (.int ((qJ (nms S) (nms T))[i.toNat]'⋯)):=xj0 i0 (by rw[Xh,X1 ⋯];rfl);simp![hd,hg];exact⟨_,_,rfl,.inl ⟨i0,⋯,X1 ⋯⟩⟩
    ·have hd:decide (i<((qJ (nms S) (nms T)).length:Int))=false:=Xj hi;simp![hd];refine(vjm _).via ?_;rintro y ⟨p,rfl,hp⟩;simp![];exact⟨_,_,rfl,.inr ⟨⋯,hp⟩⟩
   ·rintro E ⟨o9,c,rfl,hlk⟩;obtain⟨r1,r2⟩:=xv z c hP hk hS;obtain⟨r1',r2'⟩:=xv z c b5 au hT;simp![];refine zJ rfl ?_;simp![];refine⟨_,rfl,by rw[X3];omega,?_⟩;simp![];refine(qz3 (w:=(z,c)) r1 r1').via ?_;intro y hy;subst hy;have e7:(w++[(z,c)]).map rwI=w.map rwI++[rwI (z,c)]:=by rw[X9];rfl
    show RwA kps kps' ss rs a7 L k [some (.no,jJ ss rs),some (.no,jJ ss a7),some (.no,P0),some (.no,.lst (L.map rwI)),some (.no,lat (rdF ss rs S z c,rdF ss a7 T z c)),some (.rt,.lst (w.map rwI++[rwI (z,c)])),_,_,_,_] _;rw[<-(nj c).1,<-(nj c).2,<-e7];refine .mk (w++[(z,c)]) L2 (vZ ss rs a7 Q z i) rfl ?_ (by rw[Xd,Y0];omega) ?_ ?_ jt
    ·rw[(nj c).1,(nj c).2];exact ht.next z c hP hk b5 au
    ·exact qj5 (xv z i hP hk (qw0 hP hk hQ)).2 (xv z i b5 au (qvz b5 au hQ)).2 hk
    ·rw[(nj c).1,(nj c).2];exact qv4 hP hk b5 au hQ ht hR2 hlk
 ·rintro E ⟨w,L2,Q,av,ht,gl,hQ,hR2,jt⟩;cases L2 with
  |cons=>cases av
  |nil=>
   have jt:Q=k:=jt;subst jt;simp![];exact⟨w,rfl,by rw[List.length_nil]at gl;omega,hR2⟩
end
section
variable {kps kps':List Int}{ss:List Str}{rs a7:List D}
structure Ws (kps kps':List Int)(ss:List Str)(rs a7:List D)(P:D)(W:Kvs):Prop where
 wy:Wy ss rs a7 P W
 nd:(W.map (·.1)).Nodup
 pin:∀k∈W.map (·.1),Pin kps kps' k
theorem Ws.le{P:D}{W:Kvs}(h:Ws kps kps' ss rs a7 P W):W.length<=3136:=by
 have:=kql h.nd λk hk=>(h.pin k hk).2
 rw[X3,vke]at this;exact this
theorem Ws.unm{P:D}{W:Kvs}(h:Ws kps kps' ss rs a7 P W):unm W=true:=by
 cases W with
 |nil=>rfl
 |cons e W=>
  obtain⟨k,v⟩:=e;obtain⟨⟨p,q,sh,rfl,_⟩,_⟩:=h.pin k X6;rfl
theorem Ws.more{P k p:D}{z:Str}{i:Int}{W:Kvs}(h:Ws kps kps' ss rs a7 P W)(hk:k∉W.map (·.1))(hp:p∈W.map (·.1))(h0:0<=i)(h1:i<=pO rs a7 p)(bc:k=vZ ss rs a7 p z i)(hpin:Pin kps kps' k):Ws kps kps' ss rs a7 P (W++[(k,wyD p z i)]):=by
 refine⟨.more h.wy hk hp h0 h1 bc,?_,λx hx=>?_⟩
 ·rw[X9];refine List.nodup_append.mpr ⟨h.nd,by simp,λa ha b hb e=>?_⟩;have hb:b=k:=aC hb;rw[hb]at e;exact hk (e▸ha)
 ·rw[X9]at hx;rcases aA hx with hx|hx
  ·exact h.pin x hx
  ·rw[aC hx];exact hpin
def Dn(ss:List Str)(rs a7 K:List D)(p:D):Prop:=gS rs p=gT a7 p/\∀z∈ss,∀i:Int,0<=i->i<=pO rs a7 p->vZ ss rs a7 p z i∈K
theorem Dn.mono{K K':List D}{p:D}(h:Dn ss rs a7 K p)(hs:∀d∈K,d∈K'):Dn ss rs a7 K' p:=⟨h.1,λz hz i a b=>hs _ (h.2 z hz i a b)⟩
def xj6(kps kps':List Int)(ss:List Str)(rs a7:List D)(d:D):Prop:=
 (∃w:List (Str×Int),d=.tup [.str "apart",.lst (w.map rwI)]/\w.length<=3500/\∃k,Pok kps kps' k/\gS rs k≠gT a7 k/\Rl rs a7 k (run ss rs S0 w) (run ss a7 S0 w)) \/
 (∃K:List D,d=.tup [.str "alike",.lst K]/\P0∈K/\∀p∈K,Pok kps kps' p/\Dn ss rs a7 K p)
inductive SrA (kps kps':List Int)(ss:List Str)(rs a7:List D):Nat->En->Prop
 |mk (W:Kvs) (i:Nat) {o5:Own} {l6:Option Sd} {l7:Option Sd} {l8:Option Sd} {l9:Option Sd} {n:Nat} (h0:Ws kps kps' ss rs a7 P0 W) (h1:n=4000 - i) (h2:P0∈W.map (·.1)) (h3:∀p∈(W.map (·.1)).take i,Dn ss rs a7 (W.map (·.1)) p):SrA kps kps' ss rs a7 n [some (.no,jJ ss rs),some (.no,jJ ss a7),some (.no,P0),some (.rt,.dct W),some (.rt,.lst (W.map (·.1))),some (o5,.int i),l6,l7,l8,l9]
inductive SrB (kps kps':List Int)(ss:List Str)(rs a7:List D)(W:Kvs)(i:Nat)(k:D):En->List D->Prop
 |mk (W2:Kvs) (A:St3) (L:St3) {o5:Own} {o6:Own} {l7:Option Sd} {l8:Option Sd} {l9:Option Sd} {a9:List D} (h0:Ws kps kps' ss rs a7 P0 W2) (h1:(∃V,W2=W++V)) (h2:a9=L.map stD) (h3:Stp ss rs a7 k L) (h4:(∀x∈A,x∈L\/x.2.2∈W2.map (·.1))) (h5:∀z∈ss,∀i:Int,0<=i->i<=pO rs a7 k->(z,i,vZ ss rs a7 k z i)∈A):SrB kps kps' ss rs a7 W i k [some (.no,jJ ss rs),some (.no,jJ ss a7),some (.no,P0),some (.rt,.dct W2),some (.rt,.lst (W2.map (·.1))),some (o5,.int i),some (o6,k),l7,l8,l9] a9
theorem searched_ok(hs:ss.length<=3)(h6:kps.length<=6)(nk:kps'.length<=6)(h0:kps[0]?=some 0)(gp:kps'[0]?=some 0)(hP:Prs kps ss.length rs)(hk:Kq9 kps)(b5:Prs kps' ss.length a7)(au:Kq9 kps'):
  Oo m_searched [(.no,jJ ss rs),(.no,jJ ss a7),(.no,P0)] (λy=>∃d:D,y=(.no,d)/\xj6 kps kps' ss rs a7 d) noX:=by
 have h:Pin kps kps' P0:=wk7 (List.getElem?_eq_some_iff.mp h0).1 (List.getElem?_eq_some_iff.mp gp).1;unfold m_searched;refine kJ ?_;simp![↓vzm];refine⟨(kq9 h).1,?_⟩;have bc:Ws kps kps' ss rs a7 P0 [(P0,.non)]:=⟨.one,by simp,λk hk=>by rw[aC hk];exact h⟩;refine jzq (SrA kps kps' ss rs a7) ?_ 4000 _ ⟨[(P0,.non)],0,bc,rfl,aB rfl,λp hp=>nomatch hp⟩;rintro n E ⟨W,i,hW,rfl,hP0,hD⟩;have hWl:=hW.le
 by_cases cb:i<W.length
 rotate_left
 ·have hd:decide ((i:Int)<(W.length:Int))=false:=Xj ⋯;simp![hd];rw [Zb (by rw[X3];omega)]at hD;exact⟨_,rfl,.inr ⟨_,rfl,hP0,λp hp=>⟨(hW.pin p hp).1,hD p hp⟩⟩⟩
 have hd:decide ((i:Int)<(W.length:Int))=true:=Xi ⋯;obtain⟨k,hkW,ei,htk⟩:∃k∈W.map (·.1),jW (.lst (W.map (·.1))) (.int i)=some k/\(W.map (·.1))[i]?=some k:=by
  have hl:i<(W.map (·.1)).length:=by rw[X3];exact cb
  exact⟨(W.map (·.1))[i],Xw hl,wQ ⋯ (by rw[Xq];exact X1 hl),X1 hl⟩
 have fk:=hW.pin k hkW;have hag:Oo B.m_agrees [(.no,jJ ss rs),(.no,jJ ss a7),(.no,k)] (λy=>∃o':Own,y=(o',.bl (gS rs k==gT a7 k))/\True) noX:=by
  obtain⟨⟨p,q,sh,rfl,a0,a1,b0,b1,_⟩,_⟩:=fk;exact qzc (JY hP hk a0 a1).2.1 (JY b5 au b0 b1).2.1
 have kf:=vxh hs h6 nk hP hk b5 au fk.1;generalize hR:j7 (vQ _ _ _) _=R;simp![hd,ei];refine hag.via ?_;rintro y ⟨o',rfl,_⟩;cases hb:(gS rs k==gT a7 k)with
 | false=>
  simp![];refine(ww8 hW.wy hW.unm (λx hx=>kq9 (hW.pin x hx)) ⋯ hkW).via ?_;rintro y ⟨L,rfl,hl,hL⟩;simp![];refine(wj4 L hl hL h0 gp hP hk b5 au).via ?_;rintro y ⟨w,rfl,lr,hw⟩;simp![];exact⟨_,rfl,.inl ⟨w,rfl,lr,k,fk.1,λe=>by rw[e]at hb;simp at hb,hw⟩⟩
 | true=>
  have hgk:gS rs k=gT a7 k:=by simpa using hb
  simp![];subst hR;simp![];refine xY (SrB kps kps' ss rs a7 W i k) ?_ ?_ ?_
  ·simp![];refine kf.via ?_;rintro y ⟨L,rfl,hL,hM⟩;simp![];exact⟨W,L,L,hW,⟨[],by simp⟩,rfl,hL,λx hx=>.inl hx,hM⟩
  ·rintro E d ds ⟨W2,A,L,hW2,⟨V,rfl⟩,av,hL,hA,hM⟩;cases L with
   | nil=>cases av
   | cons x L=>
    rw [List.map_cons]at av;injection av with e1 e2;subst e1 e2;obtain⟨z,c,d⟩:=x;obtain⟨c0,c1,hd⟩:=hL (z,c,d) X6;have c0:0<=c:=c0;have c1:c<=pO rs a7 k:=c1;have hd:d=vZ ss rs a7 k z c:=hd;have qu:Pin kps kps' d:=hd▸wk6 h6 nk (xv z c hP hk (qw0 hP hk fk.1)).2 (xv z c b5 au (qvz b5 au fk.1)).2 hk au;have hkW2:k∈(W++V).map (·.1):=by rw[X9];exact ll9 _ hkW
    have pq:Stp ss rs a7 k L:=λx hx=>hL x (lc9 (z,c,d) hx)
    have hWl:=hW2.le;have hn:=wxh (kq9 qu).1 hW2.unm
    by_cases hm:d∈(W++V).map (·.1)
    ·rw[Xi hm]at hn;simp![hn];refine⟨W++V,A,L,hW2,⟨V,rfl⟩,rfl,pq,λx hx=>?_,hM⟩;rcases hA x hx with q|q
     ·rcases aD q with q|q
      ·exact .inr (by rw[q];exact hm)
      ·exact .inl q
     ·exact .inr q
    ·rw[Xj hm]at hn;simp![hn];refine vxs ?_;simp![];refine⟨⟨W++V,rfl⟩,W++V,rfl,(kq9 qu).1,⟨⋯,hW2.unm⟩,?_⟩;rw[show Qw (W++V) d (.tup [k,.str z,.int c])=(W++V)++[(d,wyD k z c)]from Xf hm];simp![];refine zJ rfl ?_;simp![];have e4:((W++V)++[(d,wyD k z c)]).map (·.1)=(W++V).map (·.1)++[d]:=by rw[X9 (l₁:=W++V)];rfl
     refine⟨_,rfl,by rw[X3];omega,?_⟩;rw[<-e4];refine .mk ((W++V)++[(d,wyD k z c)]) A L (hW2.more hm hkW2 c0 c1 hd qu) ⟨V++[(d,wyD k z c)],by simp⟩ rfl pq (λx hx=>?_) hM
     ·rw[X9 (l₁:=W++V)];rcases hA x hx with q|q
      ·rcases aD q with q|q
       ·exact .inr (lr9 _ (by rw[q];exact aB rfl))
       ·exact .inl q
      ·exact .inr (ll9 _ q)
  ·rintro E ⟨W2,A,L,hW2,⟨V,rfl⟩,av,hL,hA,hM⟩;cases L with
   |cons=>cases av
   |nil=>
   simp![];refine vqt rfl ?_;simp![];have d8:∀d∈W.map (·.1),d∈(W++V).map (·.1):=λd hd=>by rw[X9];exact ll9 _ hd
   refine⟨_,rfl,4000 - (i+1),⋯,W++V,i+1,hW2,rfl,d8 _ hP0,λp hp=>?_⟩;have f7:((W++V).map (·.1)).take (i+1)=(W.map (·.1)).take i++[k]:=by
    rw[X9,List.take_append_of_le_length (by rw[X3];omega),List.take_add_one,htk];rfl
   rw[f7]at hp;rcases aA hp with hp|hp
   ·exact(hD p hp).mono d8
   ·rw[aC hp];refine⟨hgk,λz hz j j0 j1=>?_⟩;rcases hA _ (hM z hz j j0 j1)with q|q
    ·exact nomatch q
    ·exact q
end
section
variable {kps kps':List Int}{ss:List Str}{rs a7:List D}
theorem vkm(hP:Prs kps ss.length rs)(hk:Kq9 kps):∀(w:List (Str×Int)) {S:Sn},kY kps S->Ch2 kps ss rs (stn S) w (stn (run ss rs S w))/\kY kps (run ss rs S w)
 |[],S,h=>⟨rfl,h⟩
 |x::w,S,h=>by
  obtain⟨r1,r2⟩:=xv x.1 x.2 hP hk h;obtain⟨i1,i2⟩:=vkm hP hk w r2;exact⟨⟨_,r1,i1⟩,i2⟩
theorem vxg{S:Sn}(h:kY kps S):qx8 rs (stn S)=gdF rs (rmO S):=by
 cases S with
 |none=>rfl
 |some x=>
  have:=(h x.1 x.2 rfl).1;show _=gdF rs x.1;unfold gdF;rw[Xf ⋯];rfl
def vw(ss:List Str)(rs:List D)(w:List (Str×Int)):Bool:=gdF rs (rmO (run ss rs S0 w))
theorem vwy{w:List (Str×Int)}(h0:kps[0]?=some 0)(hP:Prs kps ss.length rs)(hk:Kq9 kps):Oo plets [(.no,jJ ss rs),(.no,.lst (zK w))] (λy=>y.2=.bl (vw ss rs w)) noX:=by
 have hS:=(qqg (kps:=kps) (kps':=kps) h0 h0).a;obtain⟨h1,h2⟩:=vkm hP hk w hS;have:=vwx hP h1 (vqb h2);rw[vxg h2]at this;exact this
theorem vkd{w:List (Str×Int)}{k:D}(kg:Pok kps kps' k)(hg:gS rs k≠gT a7 k)(h:Rl rs a7 k (run ss rs S0 w) (run ss a7 S0 w)):vw ss rs w≠vw ss a7 w:=by
 obtain⟨g1,g2⟩:=wj5 kg h;unfold vw;rw[g1,g2];exact hg
theorem qwm{h:Int->Int}{w:List (Str×Int)}(h0:kps[0]?=some 0)(hP:Prs kps ss.length rs)(hk:Kq9 kps)(hi:∀x∈w.map (·.2),∀y∈w.map (·.2),h x=h y->x=y):vw ss rs (w.map λx=>(x.1,h x.2))=vw ss rs w:=by
 have hS:=(qqg (kps:=kps) (kps':=kps) h0 h0).a;have:=qv0 (h:=h) hP hk w hS λx hx y hy e=>hi x (hx.resolve_left λz=>nomatch z) y (hy.resolve_left λz=>nomatch z) e
 unfold vw;show gdF rs (rmO (run ss rs (qK h S0) _))=_;rw[this,kj6]
end
theorem qjs:∀(l aa:List Int),aa.Nodup->(l.foldl (λl k=>if l.any (· == k)then l else l++[k]) aa).Nodup/\∀x,x∈l.foldl (λl k=>if l.any (· == k)then l else l++[k]) aa↔x∈aa\/x∈l
 | [],aa,h=>⟨h,λx=>by simp⟩
 | a::l,aa,h=>by
  rw[Yq]
  by_cases ha:a∈aa
  ·rw[X8 (by rw[KJ];exact Xi ha)];obtain⟨h1,h2⟩:=qjs l aa h;refine⟨h1,λx=>?_⟩;rw[h2,Y4];constructor
   ·exact λz=>z.imp id .inr
   ·rintro (z|rfl|z)
    ·exact .inl z
    ·exact .inl ha
    ·exact .inr z
  ·rw[Xf (by rw[KJ];simpa using ha)];obtain⟨h1,h2⟩:=qjs l (aa++[a]) (List.nodup_append.mpr ⟨h,by simp,λx hx y hy e=>by rw[aC hy]at e;exact ha (e▸hx)⟩);refine⟨h1,λx=>?_⟩;rw[h2,List.mem_append,List.mem_singleton,Y4];constructor
   ·rintro ((z|z)|z)
    ·exact .inl z
    ·exact .inr (.inl z)
    ·exact .inr (.inr z)
   ·rintro (z|z|z)
    ·exact .inl (.inl z)
    ·exact .inl (.inr z)
    ·exact .inr z
theorem qxo(l:List Int):(ddI l).Nodup:=(qjs l [] Xs).1
theorem ddI_mem{l:List Int}{x:Int}:x∈ddI l↔x∈l:=by
 have:=(qjs l [] Xs).2 x;rw[show x∈ddI l↔_ from this];simp
theorem wqh{l:List Int}{h:Int->Int}(e:(ddI l).length=(ddI (l.map h)).length):∀x∈l,∀y∈l,h x=h y->x=y:=by
 intro x hx y hy hxy
 by_cases b8:x=y
 ·exact b8
 ·exfalso;have hxd:=ddI_mem.mpr hx;have:=kql (l:=ddI (l.map h)) (m:=((ddI l).erase x).map h) (qxo _) λz hz=>by
   obtain⟨u,hu,rfl⟩:=aE (ddI_mem.mp hz)
   by_cases hux:u=x
   ·rw[hux,hxy];exact List.mem_map.mpr ⟨y,(List.Nodup.mem_erase_iff (qxo l)).mpr ⟨λq=>b8 q.symm,ddI_mem.mpr hy⟩,rfl⟩
   ·exact List.mem_map.mpr ⟨u,(List.Nodup.mem_erase_iff (qxo l)).mpr ⟨hux,ddI_mem.mpr hu⟩,rfl⟩
  rw[X3,List.length_erase_of_mem hxd]at this;have:=List.length_pos_of_mem hxd;omega
theorem qx1:∀l:List Int,K9 (l.map D.int)=some l
 |[]=>rfl
 |a::l=>by
  rw[List.map_cons,K9,qx1 l];rfl
theorem qjd{l:List Int}(h:l.length<4000):V8 (.lst (l.map D.int))=some (.int (ddI l).length):=by
 cases l with
 |nil=>rfl
 |cons a l=>
  have e:xK ((a::l).map D.int)=none:=rfl;unfold V8;dsimp only;rw[e];dsimp only;rw[qx1];dsimp only;rw[X8 h]
end U
namespace Nk44
open PySem Q
def m_is_small : Fn:= J.m_is_small
def m_read_by : Fn:= C.m_read_by
def jq9:Fn:=fn 5
  (j7 (jq 2 (qz .no [(cC (.int 0)),(qz .no [])]))
  (j7 (vQ (itS (cV 1)) (.t [3,4]) (jq 2 (jz m_read_by [(cV 0),(cV 2),(cV 3),(cV 4)])))
  (k7 (cMv 2))))
def jqj:Fn:=fn 3
  (j7 (jq 2 (jz jq9 [(cV 0),(cV 1)]))
  (k7 (Jx (vE (cF2 (f2First fNotNon) (vV 2) (vE (cC .non)))) (cH (jv (jv (jv (vV 0) (C9 1)) (jv (vV 2) (C9 0))) (C9 1))))))
def m_is_good_in : Fn:= B.m_is_good_in
def m_agrees : Fn:= B.m_agrees
def m_keepers_in : Fn:= B.m_keepers_in
def m_standing_in : Fn:= B.m_standing_in
def m_first_standings : Fn:= B.m_first_standings
def m_names_of : Fn:= B.m_names_of
def m_held_by_both : Fn:= B.m_held_by_both
def m_room_of : Fn:= B.m_room_of
def m_pair_of : Fn:= B.m_pair_of
def m_read_by_both : Fn:= B.m_read_by_both
def m_steps_from : Fn:= U.m_steps_from
def m_least_beside : Fn:= U.m_least_beside
def m_parting_row : Fn:= U.m_parting_row
def m_steps_to : Fn:= U.m_steps_to
def m_searched : Fn:= U.m_searched
noncomputable def jv0:Fn:=fn 3
  (j7 (sIf (tE (cF2 (pu2 fNe) (jv (vV 0) (C9 0)) (jv (vV 1) (C9 0)))) vvg wv)
  (j7 (sIf (tOr (tNot (tEQ (vE (jz m_is_small [(cV 0)])))) (tNot (tEQ (vE (jz m_is_small [(cV 1)]))))) vvg wv)
  (k7 (jz m_searched [(cV 0),(cV 1),(cIf (tE (cF2 (f2First fIsNon) (vV 2) (vE (cC .non)))) (cC (.tup [(.int 0),(.int 0),(.tup [])])) (cV 2))]))))
def m__law_cell_at : Fn:= B.m__law_cell_at
def m__law_stream : Fn:= B.m__law_stream
def m__law_signs : Fn:= B.m__law_signs
def m__law_fills : Fn:= B.m__law_fills
def m__law_case : Fn:= B.m__law_case
def m__law_plain : Fn:= B.m__law_plain
noncomputable def jkg:Fn:=fn 11
  (j7 (jq 2 (cF1 QX (jv (vV 0) (C9 1))))
  (j7 (jq 3 (cF2 (pu2 k9) (vV 1) (vE (cF1 (pu1 v6) (vV 2)))))
  (j7 (wj1 [4,5,6] (cH (jv (vV 2) (vV 3))))
  (j7 (jq 7 (cLC .dp 1 [] (itS (cV 6)) (.n 0) tYes (Zz (cF1 QX (vV 0)))))
  (j7 (sIf (tE (cF2 (pu2 fEq) (vE (cF2 (pu2 k9) (vE (cF2 (pu2 wW) (vV 1) (C9 7))) (C9 3))) (C9 0))) (jq 5 (vk9 (vV 5))) (j7 (jq 8 (cF2 (pu2 k9) (vE (cF2 (pu2 wW) (vV 1) (C9 21))) (vE (cF1 (pu1 v6) (vV 7)))))
  (j7 (jq 9 (cF2 (pu2 k9) (vE (cF2 (pu2 wW) (vV 1) (C9 63))) (vE (cF2 kq (vV 4) (C9 1)))))
  (j7 (jq 10 (cLC .rt 1 [] (itW 2) (.n 0) tYes (cH (jv (vV 0) (C9 0)))))
  (qzt 7 8 9 (jz m__law_case [(cF2 (pu2 wW) (vV 1) (C9 441)),(cV 10),(cF2 kq (vV 4) (vE (cF1 (pu1 XQ) (vE (cF2 (pu2 fEq) (vV 9) (vV 4))))))]))))))
  (j7 (wvt 2 (vV 3) (qz .no [(cV 4),(cV 5),(cV 7)]))
  (k7 (qz .no [(cF1 QX (jv (vV 0) (C9 0))),(cV 2)]))))))))
noncomputable def ZY:Fn:=fn 5
  (j7 (jq 2 (wx .rt []))
  (j7 (jq 3 (cC (.int 0)))
  (j7 (sWhile (tE (cF2 (pu2 fLt) (vE (cF1 (pu1 v6) (vV 2))) (vV 1))) (j7 (jq 4 (cF2 kq (vE (cF2 (pu2 VQ) (vE (cF2 (pu2 k9) (vE (cF2 xW (vE (cF2 (pu2 k9) (vV 0) (vE (cF2 (pu2 Vq) (C9 10) (C9 60))))) (vE (cF2 kq (vV 3) (C9 1))))) (vE (cF2 (pu2 VQ) (vE (cF2 xW (C9 2) (vE (cF2 (pu2 Vq) (C9 10) (C9 60))))) (C9 1))))) (vE (cF2 (pu2 VQ) (vE (cF2 (pu2 Vq) (C9 10) (C9 60))) (C9 1))))) (vV 3)))
  (j7 (sIf (tE (cF2 (pu2 JQ) (vV 4) (vV 2))) (vJ vW 2 (cF2 (pu2 xj2) (vV 4) (vE (cF2 (pu2 VQ) (vE (cF2 (pu2 Vq) (C9 10) (C9 60))) (C9 1))))) wv)
  (jq 3 (cF2 kq (vV 3) (C9 1))))))
  (k7 (cMv 2)))))
def K0:Fn:=fn 3
  (j7 (jq 2 (jz jqj [(cV 0),(cV 1)]))
  (j7 (sIf (tNot (tEQ (vE (cF1 (pu1 (YK "bool")) (vV 2))))) (k7 (cC .non)) wv)
  (k7 (cMv 2))))
def XX:Fn:=fn 5
  (j7 (jq 3 (jz K0 [(cV 0),(cV 2)]))
  (j7 (jq 4 (jz K0 [(cV 1),(cV 2)]))
  (k7 (Jx (vE (cF2 (f2First fNotNon) (vV 3) (vE (cC .non)))) (Jx (vE (cF2 (f2First fNotNon) (vV 4) (vE (cC .non)))) (cF2 (pu2 fNe) (vV 3) (vV 4)))))))
noncomputable def m_law:Fn:=fn 11
  (j7 (jq 1 (jz m__law_signs [(jz m__law_cell_at [(cV 0),(cC (.int 0))])]))
  (j7 (jq 2 (jz m__law_plain [(jz m__law_cell_at [(cV 0),(cC (.int 1))]),(cV 1)]))
  (j7 (jq 3 (jz m__law_plain [(jz m__law_cell_at [(cV 0),(cC (.int 2))]),(cV 1)]))
  (j7 (sIf (tE (cF2 (pu2 fEq) (vE (cF2 (pu2 k9) (vE (jz m__law_cell_at [(cV 0),(cC (.int 3))])) (C9 2))) (C9 1))) (jq 3 (jz jkg [(cV 2),(cH (jv (vE (jz m__law_stream [(jz m__law_cell_at [(cV 0),(cC (.int 2))]),(cC (.int 1))])) (C9 0)))])) wv)
  (j7 (jq 4 (jz ZY [(jz m__law_cell_at [(cV 0),(cC (.int 4))]),(cC (.int 7))]))
  (j7 (wj1 [5,6] (qjz jv0 [(cV 2),(cV 3)]))
  (j7 (sIf (tE (cF2 (pu2 fEq) (vV 5) (vE (cC (.str "apart"))))) (j7 (jq 7 (cLC .rt 2 [4] (itS (cV 6)) (.t [0,1]) tYes (qz .no [(cV 0),(cH (jv (vV 2) (vE (cF2 (pu2 k9) (vV 1) (C9 7)))))])))
  (j7 (sIf (tE (cF2 (pu2 fNe) (vE (cF1 (pu1 V8) (vE (cLC .rt 2 [] (itS (cV 6)) (.t [0,1]) tYes (cV 1))))) (vE (cF1 (pu1 V8) (vE (cLC .rt 2 [] (itS (cV 7)) (.t [0,1]) tYes (cV 1))))))) (jq 7 (cV 6)) wv)
  (k7 (Jx (vE (jz XX [(cV 2),(cV 3),(cV 6)])) (jz XX [(cV 2),(cV 3),(cV 7)]))))) wv)
  (j7 (jq 8 (cF2 kq (C9 1) (vE (cF2 (pu2 k9) (vE (cF2 (pu2 wW) (vE (jz m__law_cell_at [(cV 0),(cC (.int 3))])) (C9 2))) (C9 7)))))
  (j7 (jq 9 (cLC .rt 1 [1,4,8] (itS (cSl (vV 0) (some (C9 5)) (some (C9 65)))) (.n 0) tYes (qz .no [(cH (jv (vV 1) (vE (cF2 (pu2 k9) (vV 0) (vE (cF1 (pu1 v6) (vV 1))))))),(cH (jv (vV 2) (vE (cF2 (pu2 k9) (vE (cF2 (pu2 wW) (vV 0) (C9 3))) (vV 3)))))])))
  (j7 (vQ (xk (vE (cF2 kq (vE (cF1 (pu1 v6) (vV 9))) (C9 1)))) (.n 10) (sIf (tOr (tE (cF2 (f2First fIsNon) (vE (jz K0 [(cV 2),(cSl (vV 9) none (some (vV 10)))])) (vE (cC .non)))) (tE (cF2 (pu2 fNe) (vE (jz K0 [(cV 2),(cSl (vV 9) none (some (vV 10)))])) (vE (jz K0 [(cV 3),(cSl (vV 9) none (some (vV 10)))]))))) (k7 (cC (.bl false))) wv))
  (k7 (cF2 (pu2 fEq) (vV 5) (vE (cC (.str "alike")))))))))))))))
end Nk44
namespace Nk44
open Q PySem C B J U
theorem wqv:m__law_cell_at=B.m__law_cell_at:=rfl
theorem vk2:m__law_stream=B.m__law_stream:=rfl
theorem vxp:m__law_signs=B.m__law_signs:=rfl
theorem vxq:m__law_plain=B.m__law_plain:=rfl
theorem wqw:m__law_case=B.m__law_case:=rfl
theorem qku:m_searched=U.m_searched:=rfl
theorem vxo:m_is_small=J.m_is_small:=rfl
theorem wqu:jqj=C.plets:=rfl
theorem vv3{f:Fn}{cs:List Ex}{e:Option Sd}{E:En}{P:En->Sd->Prop}{X:XP}:Eo (qjz f cs (e::E)) P X=Eo (qW cs (e::E)) (λE xs=>Oe f (letAll (xs++[(.no,.non)])) E P X) X:=by
 unfold qjz;rw[k5]
 congr 1
 funext E xs;unfold Oe Oo;cases f (letAll (xs++[(.no,.non)]))with|none=>ac_rfl|some r=>cases r<;>ac_rfl
theorem vvy{i j k:Nat}{vc:Ex}{E:En}{N Cc:En->Prop}{R:Sd->Prop}{X:XP}(h:Eo (vc E) (λE1 v=>∃(xs ys:List D) (o1 o2:Own) (n m:Nat),E1[i]?=some (some (.dp,.lst xs))/\E1[j]?=some (some (o1,.int n))/\E1[k]?=some (some (o2,.int m))/\xs[n]?=some (.lst ys)/\m<ys.length/\v.2.pure=true/\N (E1.set i (some (.dp,.lst (xs.set n (.lst (ys.set m v.2))))))) X):Po (qzt i j k vc E) N Cc R X:=by
 unfold qzt;rw[zX]
 with_unfolding_all refine h.mono λE1 v hv=>?_
 obtain⟨xs,ys,o1,o2,n,m,h1,h2,h3,h4,h5,h6,h7⟩:=hv;have ei:Q.ixN ys.length (m:Int)=some m:=by unfold Q.ixN;rw[X8 ⋯,X8 ⋯];rfl
 rw[h1,h2,h3];show Po (match xs[n]? with
  |some (.lst ys)=>(match Q.ixN ys.length (m:Int)with
   |some m=>if v.2.pure=true then some (.nx (E1.set i (some (.dp,.lst (xs.set n (.lst (ys.set m v.2)))))))else none
   |none=>none)
  |_=>none) _ _ _ _
 rw[h4];dsimp only;rw[ei];dsimp only;rw[X8 h6]
 exists h7
theorem wkv{T u c j k:Int}(hT:T=840*u+400)(u0:1<=u)(c0:0<=c)(c1:c<T)(hj:j<k)(hk:k - j<=8):c*(j+1) % (2*T - 1)+j≠c*(k+1) % (2*T - 1)+k:=by
 intro e;have h1:=Int.mul_ediv_add_emod (c*(j+1)) (2*T - 1);have h2:=Int.mul_ediv_add_emod (c*(k+1)) (2*T - 1);generalize c*(j+1) % (2*T - 1)=r1 at *;generalize c*(k+1) % (2*T - 1)=r2 at *;generalize c*(j+1) / (2*T - 1)=q1 at *;generalize c*(k+1) / (2*T - 1)=q2 at *;obtain⟨d,hd⟩:∃d,d=k - j:=⟨_,rfl⟩;have h3:c*(k+1)=c*(j+1)+c*d:=by rw[<-Int.mul_add];congr 1;omega
 have h4:(2*T - 1)*(q2 - q1)=(c+1)*d:=by rw[Int.mul_sub,Int.add_mul];omega
 generalize q2 - q1=t at h4;clear h1 h2 h3 e;have hv:1680*(u*t)+799*t=(c+1)*d:=by rw[<-h4,hT,<-Int.mul_assoc,<-Int.add_mul];congr 1;omega
 have rq:d∣840:=by
  rcases(show d=1\/d=2\/d=3\/d=4\/d=5\/d=6\/d=7\/d=8 by omega)with h|h|h|h|h|h|h|h<;>(rw[h];decide)
 have h8:d∣t:=by
  have h1:=Int.dvd_sub (Int.dvd_mul_left (c+1) d) (Int.dvd_trans rq (Int.dvd_mul_right 840 (2*(u*t))));rw[show(c+1)*d - 840*(2*(u*t))=799*t by omega]at h1;have h2:=Int.dvd_sub (Int.dvd_trans h1 (Int.dvd_mul_right (799*t) 799)) (Int.dvd_trans rq (Int.dvd_mul_right 840 (760*t)));rw[show 799*t*799 - 840*(760*t)=t by omega]at h2;exact h2
 have d1:1<=d:=⋯
 clear hv hd;obtain⟨s,rfl⟩:=h8;rw[Int.mul_comm d s,<-Int.mul_assoc]at h4;have h5:=Int.eq_of_mul_eq_mul_right (show d≠0 by omega) h4;have s1:1<=s:=by
  by_cases h:1<=s
  ·exact h
  ·have:(2*T - 1)*s<=(2*T - 1)*0:=Int.mul_le_mul_of_nonneg_left ⋯ ⋯;omega
 have:(2*T - 1)*1<=(2*T - 1)*s:=Int.mul_le_mul_of_nonneg_left s1 ⋯;omega
theorem vw7(c:Int):Oo ZY [(.no,.int c),(.no,.int 7)] (λy=>∃ks:List Int,y=(.rt,iL ks)/\ks.length=7) noX:=by
 obtain⟨T,u,hT,hu,u0⟩:∃T u:Int,T=10 ^ 60/\T=840*u+400/\1<=u:=⟨_,1190476190476190476190476190476190476190476190476190476190,rfl,rfl,⋯⟩;have hpw:Vq (.int 10) (.int 60)=some (.int T):=by rw[hT];exact pow_i (a:=10) (b:=60) ⋯ ⋯ ⋯ ⋯
 have c0:=Y6 c (show T≠0 by omega);have c1:=Xy c (show 0<T by omega);have hm1:k9 (.int c) (.int T)=some (.int (c % T)):=mod_i ⋯;generalize c % T=a at c0 c1 hm1;have ip:∀x:Int,k9 (.int x) (.int (2*T - 1))=some (.int (x % (2*T - 1))):=λx=>mod_i ⋯
 unfold ZY;refine kJ ?_;simp![];refine jzq (λn E=>∃(ks:List Int) (o3:Own) (k:Nat) (l4:Option Sd),E=[some (.no,.int c),some (.no,.int 7),some (.rt,iL ks),some (o3,.int k),l4]/\n=20 - k/\ks.length<=7/\ks.length<=k/\k<=ks.length+1 /\
  (∀x∈ks,∃j:Nat,j<k/\(x=a*((j:Int)+1) % (2*T - 1) - (T - 1)+j\/x=T - 1))/\(ks.length<k->∃j:Nat,j<k/\a*((j:Int)+1) % (2*T - 1) - (T - 1)+j=T - 1)) ?_ 20 _ ⟨[],_,0,_,rfl,rfl,⋯,⋯,⋯,(λx h=>nomatch h),λh=>absurd h ⋯⟩
 rintro n E ⟨ks,o3,k,l4,rfl,rfl,h7,kg,cn,n9,lz⟩
 by_cases cb:(ks.length:Int)<7
 rotate_left
 ·have hd:decide ((ks.length:Int)<7)=false:=Xj cb;simp![hd];exact⟨ks,rfl,⋯⟩
 have hd:decide ((ks.length:Int)<7)=true:=Xi cb;have b8:∀j:Nat,j<k->a*((j:Int)+1) % (2*T - 1)+j≠a*((k:Int)+1) % (2*T - 1)+k:=λj hj=>wkv hu u0 c0 c1 ⋯ ⋯
 have hn:=@B.nin_i (a*((k:Int)+1) % (2*T - 1) - (T - 1)+k) ks;generalize hx:a*((k:Int)+1) % (2*T - 1) - (T - 1)+k=x at *;rw [KJ]at hn
 by_cases gc:x∈ks
 ·rw[Xi gc]at hn;simp![hd,hpw,hm1,ip,hx,hn];obtain⟨j,hj,mv⟩:=n9 x gc;have hxT:x=T - 1:=by
   rcases mv with q|q
   ·have:=b8 j hj;omega
   ·exact q
  have n8:¬ks.length<k:=λq=>by
   obtain⟨i,hi,hi2⟩:=lz q;have:=b8 i hi;omega
  exact⟨20 - (k+1),⋯,ks,_,k+1,_,rfl,rfl,h7,⋯,⋯,λy hy=>by obtain⟨i,hi,q⟩:=n9 y hy;exact⟨i,⋯,q⟩,λ_=>⟨k,⋯,⋯⟩⟩
 ·rw[Xj gc]at hn;simp![hd,hpw,hm1,ip,hx,hn];refine zJ rfl ?_;simp![hpw,wxi];refine⟨ks.map D.int,rfl,by rw[X3];omega,?_⟩;simp![];refine⟨20 - (k+1),⋯,ks++[if T - 1<x then T - 1 else x],.dp,k+1,some (.dp,.int x),by rw[show iL (ks++[if T - 1<x then T - 1 else x])=.lst (ks.map D.int++[.int (if T - 1<x then T - 1 else x)])by show D.lst (List.map _ _)=_;rw[X9];rfl];rfl,rfl,by rw[Xd,Y0];omega,by rw[Xd,Y0];omega,by rw[Xd,Y0];omega,λy hy=>?_,λq=>?_⟩
  ·rcases aA hy with hy|hy
   ·obtain⟨i,hi,q⟩:=n9 y hy;exact⟨i,⋯,q⟩
   ·refine⟨k,⋯,?_⟩;rw[aC hy]
    split
    ·exact .inr rfl
    ·exact .inl hx.symm
  ·rw[Xd,Y0]at q;obtain⟨i,hi,q2⟩:=lz ⋯;exact⟨i,⋯,q2⟩
theorem qvo{kps:List Int}{n:Nat}{rs:List D}(hP:Prs kps n rs):∀r∈rs,∃(a b:D),r=.tup [.int (J.keyI r),a,b]:=λr hr=>by
 obtain⟨own,a,b,rfl⟩:=kq8 hP r hr;exact⟨a,b,rfl⟩
theorem vx4{kps:List Int}{n:Nat}{rs:List D}(hP:Prs kps n rs):rs.map J.keyI=kps:=by
 refine List.ext_getElem? λi=>?_
 rw[Xh]
 by_cases hi:i<kps.length
 ·obtain⟨r,er,gd,st,rfl,_⟩:=hP.2 i hi;rw[er,X1 hi];show some (kps.getD i 0)=_;rw[X4,X1 hi];rfl
 ·rw[Xx (by rw[hP.1];omega),Xx ⋯];rfl
theorem vw5{kps:List Int}{n:Nat}{rs:List D}{r:D}{i:Nat}(hP:Prs kps n rs)(h:Pr kps n (kps.getD i 0) r):Prs kps n (rs.set i r):=by
 refine⟨by rw[Yy];exact hP.1,λj hj=>?_⟩
 by_cases jc:i=j
 ·subst jc;exact⟨r,by rw[Z9 (by rw[hP.1];exact hj)],h⟩
 ·obtain⟨r',e,h'⟩:=hP.2 j hj;exact⟨r',by rw[Ym jc];exact e,h'⟩
theorem vk6{kps:List Int}{n:Nat}{own:Int}{st:List D}(h:∀c∈st,∃cs:List D,c=.lst cs/\(cs.length:Int)=own+1/\∀k:Nat,k<cs.length->∃z,cs[k]?=some z/\Cs kps (vK own k) z):∀c∈st,∃cs:List D,c=.lst cs/\D.pures cs=true:=λc hc=>by
 obtain⟨cs,rfl,_,hz⟩:=h c hc;refine⟨cs,rfl,?_⟩;rw[D.pures_all,Z2];intro z nq;obtain⟨k,hk,e⟩:=Z7 nq;obtain⟨z',e2,h3⟩:=hz k hk;rw[X1 hk,e]at e2;cases oq9 e2;rcases h3 with rfl|⟨to,fs,rfl,_⟩
 ·rfl
 ·show(true&&(D.pures (fs.map D.int)&&true))=true;rw[jqx];rfl
theorem wx9{cs:List D}(h:D.pures cs=true):VZ (.rt,.lst cs)=true:=by
 simp[VZ,wxl,h]
theorem ww7{i:Nat}{ds:List D}{E:En}{P:En->List D->Prop}{X:XP}(h:E[i]?=some (some (.rt,.lst ds)))(k:P E ds):Eo (itW i E) P X:=by
 unfold itW;rw[h];dsimp only;rw[QZ];exact k
theorem qxm:∀{ds:List D} {ys:List Sd},Each (λd y=>y=(Own.dp,d)) ds ys->ys.all vX=true
 |[],[],_=>rfl
 |d::ds,y::ys,r=>by
  have h1:y=(Own.dp,d):=r.1;have h2:=qxm r.2;rw[List.all_cons,h2,h1];rfl
theorem qkx{kps:List Int}{ss:List Str}{rs:List D}(cell:Int)(jl:1<=ss.length)(pe:ss.length<=3)(h1:1<=kps.length)(h6:kps.length<=6)(h0:kps[0]?=some 0)(hk:Kq9 kps)(hP:Prs kps ss.length rs):
  Oo jkg [(.no,jJ ss rs),(.no,.int cell)] (λy=>∃rs2,y=(.no,jJ ss rs2)/\Prs kps ss.length rs2) noX:=by
 have q0:∀a b:D,jW (.tup [a,b]) (.int 0)=some a:=λ_ _=>rfl
 have q1:∀a b:D,jW (.tup [a,b]) (.int 1)=some b:=λ_ _=>rfl
 have t0:∀a b c:D,jW (.tup [a,b,c]) (.int 0)=some a:=λ_ _ _=>rfl
 have pr:=hP.1;have a0:=Y6 cell (show(rs.length:Int)≠0 by omega);have a1:=Xy cell (show(0:Int)<rs.length by omega);have ha:k9 (.int cell) (.int rs.length)=some (.int (cell % rs.length)):=mod_i ⋯;generalize cell % rs.length=c9 at a0 a1 ha;obtain⟨r,er,gd,st,rfl,gw,bc⟩:=hP.2 c9.toNat ⋯;have qf:kps.getD c9.toNat 0∈kps:=by rw[X4,X1 ⋯];exact Xw _
 obtain⟨o0,o3⟩:=hk _ qf;have hset:∀{r:D},Pr kps ss.length (kps.getD c9.toNat 0) r->Prs kps ss.length (rs.set c9.toNat r):=λh=>vw5 hP h
 generalize kps.getD c9.toNat 0=own at *;have ei:jW (.lst rs) (.int c9)=some (.tup [.int own,.bl gd,.lst st]):=wQ a0 er;have hixn:Q.ixN rs.length c9=some c9.toNat:=by unfold Q.ixN;rw[X8 a0,X8 a1]
 have bk:∀E:En,back [] [] (clr [] E)=E:=λ_=>rfl
 have h3:k9 (.int (cell / 7)) (.int 3)=some (.int (cell / 7 % 3)):=mod_i ⋯;have hcp:=vk6 (n:=ss.length) bc;unfold jkg;refine kJ ?_;generalize hR:j7 (sIf _ _ _) _=R;simp![q1,kwa (o:=.no) (xs:=rs) ⋯,ha,ei];refine VJ [] (λd y=>y=(.dp,d)) ?_;simp![];refine⟨λd hd=>?_,λys hy=>?_⟩
 ·obtain⟨cs,rfl,hp⟩:=hcp d hd;simp![ww6,kwa (o:=.no) (xs:=cs) ⋯];exact⟨wx9 hp,⟨_,rfl⟩,trivial⟩
 rw [wkx (qxm hy),WK (h:=λd=>d) (λ_ _ h=>by rw[h]) hy,bk,List.map_id'];simp![];subst hR;refine Wx (λE=>∃(o4 o5:Own) (g:Bool) (bg:List D) (l6 l8 l9 jy:Option Sd),E=[some (.no,jJ ss rs),some (.no,.int cell),some (.rt,.lst rs),some (.dp,.int c9),some (o4,.int own),some (o5,.bl g),l6,some (.dp,.lst bg),l8,l9,jy]/\Pr kps ss.length own (.tup [.int own,.bl g,.lst bg])) ?_ ?_
 ·by_cases hc:cell / 7 % 3=0
  ·have e:fEq (.int (cell / 7 % 3)) (.int 0)=some (.bl true):=by rw[hc];rfl
   simp![h3,e];exact⟨_,_,!gd,st,_,_,_,_,rfl,!gd,st,rfl,gw,bc⟩
  ·have e:fEq (.int (cell / 7 % 3)) (.int 0)=some (.bl false):=by rw[Zq,Y8 hc]
   have s0:=Y6 (cell / 21) (show(st.length:Int)≠0 by omega);have s1:=Xy (cell / 21) (show(0:Int)<st.length by omega);have hms:k9 (.int (cell / 21)) (.int st.length)=some (.int (cell / 21 % st.length)):=mod_i ⋯;have i0:=Y6 (cell / 63) (show own+1≠0 by omega);have i1:=Xy (cell / 63) (show(0:Int)<own+1 by omega);have hmi:k9 (.int (cell / 63)) (.int (own+1))=some (.int (cell / 63 % (own+1))):=mod_i ⋯;obtain⟨s,hs⟩:∃s:Nat,cell / 21 % st.length=(s:Int):=⟨_,(Int.toNat_of_nonneg s0).symm⟩;obtain⟨i,hi⟩:∃i:Nat,cell / 63 % (own+1)=(i:Int):=⟨_,(Int.toNat_of_nonneg i0).symm⟩;rw[hs]at hms s1;rw[hi]at hmi i1;have hsm:st[s]'⋯∈st:=Xw _;obtain⟨cs,ecs,da,fg⟩:=bc _ hsm;have hei:fEq (.int (i:Int)) (.int own)=some (.bl ((i:Int)==own)):=Zq;have hint:XQ (.bl ((i:Int)==own))=some (.int (if(i:Int)=own then 1 else 0)):=by
    by_cases h:(i:Int)=own
    ·rw[X8 h,show((i:Int)==own)=true from by rw[h];simp];rfl
    ·rw[Xf h,Y8 h];rfl
   have kf:own+(if(i:Int)=own then 1 else 0)=vK own i:=rfl;have hb0:0<=vK own i/\vK own i<=4:=by unfold vK;split<;>omega
   simp![h3,e,hms,hmi];refine VJ [] (λd y=>y.2=.int (keyI d)) ?_;refine ww7 rfl ?_;simp![];refine⟨λd hd=>?_,λys hy=>?_⟩
   ·obtain⟨a,b,e⟩:=qvo hP d hd;rw[e];simp![t0];exact⟨⟨_,rfl⟩,rfl⟩
   rw[zx,WK (h:=λd=>.int (keyI d)) (λ_ _ h=>h) hy,bk,show rs.map (λd=>D.int (keyI d))=kps.map D.int by rw[<-vx4 hP,Xm];rfl];simp![];refine vvy ?_;simp![hei,hint,kf];rw[wqw];refine(qjw (cell / 441) (vK own i) kps hk h0 ⋯ hb0.1 ⋯).via ?_;intro y hyc;have kr:y.2.pure=true:=by
    rcases hyc with q|⟨to,fs,q,_⟩
    ·rw[q];rfl
    ·rw[q];show(true&&(D.pures (fs.map D.int)&&true))=true;rw[jqx];rfl
   refine⟨st,cs,_,_,s,i,rfl,rfl,rfl,by rw[X1 ⋯,ecs],⋯,kr,?_⟩;refine⟨_,_,gd,st.set s (.lst (cs.set i y.2)),_,_,_,_,rfl,gd,_,rfl,by rw[Yy];exact gw,λc hc'=>?_⟩;rcases List.mem_or_eq_of_mem_set hc' with q|q
   ·exact bc c q
   ·refine⟨_,q,by rw[Yy];exact da,λk n8=>?_⟩;rw[Yy]at n8
    by_cases hik:i=k
    ·subst hik;exact⟨y.2,by rw[Z9 n8],hyc⟩
    ·obtain⟨z,ez,hz⟩:=fg k n8;exact⟨z,by rw[Ym hik];exact ez,hz⟩
 ·rintro E ⟨o4,o5,g,bg,l6,l8,l9,jy,rfl,hpr⟩;simp![];refine wjx ?_;simp![q0,kwa (o:=.no) (xs:=ss.map D.str) ⋯];refine⟨rfl,_,_,_,c9.toNat,rfl,⋯,rfl,hixn,?_⟩;simp![q0,kwa (o:=.no) (xs:=ss.map D.str) ⋯];exact⟨_,rfl,hset hpr⟩
section
variable {kps kps':List Int}{ss:List Str}{rs a7:List D}
theorem YZ{w:List (Str×Int)}(h0:kps[0]?=some 0)(hP:Prs kps ss.length rs)(hk:Kq9 kps):Oo K0 [(.no,jJ ss rs),(.no,.lst (zK w))] (λy=>∃o':Own,y=(o',.bl (vw ss rs w))/\True) noX:=by
 unfold K0;rw[wqu];refine kJ ?_;simp![];refine(vwy h0 hP hk).via ?_;rintro ⟨o,d⟩ hd;have hd:d=.bl (vw ss rs w):=hd;subst hd;have hb:YK "bool" (.bl (vw ss rs w))=some (.bl true):=rfl;simp![hb];exact⟨_,rfl,trivial⟩
theorem kvd{w:List (Str×Int)}(h0:kps[0]?=some 0)(gp:kps'[0]?=some 0)(hP:Prs kps ss.length rs)(hk:Kq9 kps)(b5:Prs kps' ss.length a7)(au:Kq9 kps')(b8:vw ss rs w≠vw ss a7 w):Oo XX [(.no,jJ ss rs),(.no,jJ ss a7),(.no,.lst (zK w))] (λy=>∃o':Own,y=(o',.bl true)/\True) noX:=by
 unfold XX;refine kJ ?_;simp![];refine(YZ h0 hP hk).use ?_;intro _ _;simp![];refine(YZ gp b5 au).use ?_;intro _ _;have e:fNe (.bl (vw ss rs w)) (.bl (vw ss a7 w))=some (.bl true):=by
  revert b8
  cases vw ss rs w<;>cases vw ss a7 w<;>simp_all<;>rfl
 simp![e];exact⟨_,rfl,trivial⟩
theorem kzg(hs:ss.length<=3)(h6:kps.length<=6)(nk:kps'.length<=6)(h0:kps[0]?=some 0)(gp:kps'[0]?=some 0)(hP:Prs kps ss.length rs)(hk:Kq9 kps)(b5:Prs kps' ss.length a7)(au:Kq9 kps'):
  Oo jv0 [(.no,jJ ss rs),(.no,jJ ss a7),(.no,.non)] (λy=>∃d:D,y=(.no,d)/\xj6 kps kps' ss rs a7 d) noX:=by
 have q0:∀a b:D,jW (.tup [a,b]) (.int 0)=some a:=λ_ _=>rfl
 have b8:fNe (sL ss) (sL ss)=some (.bl false):=vwr (show D.flats 39 (ss.map D.str)=true from QY λd hd=>by obtain⟨w,_,rfl⟩:=aE hd;rfl);have iz:=J.small_is (d0:=sL ss) (kq8 hP);have dg:=J.small_is (d0:=sL ss) (kq8 b5);rw[kvx hP hk ⋯]at iz;rw[kvx b5 au ⋯]at dg;unfold jv0;rw[vxo,qku];refine kJ ?_;simp![q0,b8];refine iz.any.use ?_;intro _ _;simp![];refine dg.any.use ?_;intro _ _;simp![];refine(U.searched_ok hs h6 nk h0 gp hP hk b5 au).via ?_;rintro y ⟨d,rfl,h⟩;exact⟨d,rfl,h⟩
theorem qjt{xs:List D}{j:Int}(h0:0<=j):z8 xs none (some j)=xs.take j.toNat:=by
 unfold z8 J5;dsimp only;rw[Xf ⋯,List.drop_zero,Nat.sub_zero]
 by_cases h:j.toNat<=xs.length
 ·rw[Nat.min_eq_left h]
 ·rw[Nat.min_eq_right ⋯,Zb (Xb _),Zb ⋯]
end
theorem qj9{E:En}{i:Nat}{o:Own}{u:List (Str×Int)}{P:En->Sd->Prop}{X:XP}(h0:E[i]?=some (some (o,.lst (u.map rwI))))(k:P (E.set i (some (.no,.lst (u.map rwI)))) (.rt,iL (u.map (·.2)))):Eo (cLC .rt 2 [] (itS (cV i)) (.t [0,1]) tYes (cV 1) E) P X:=by
 cases E with
 | nil=>cases h0
 | cons e E=>
 refine KY (λE1 B ds aa=>E1=(e::E).set i (some (.no,.lst (u.map rwI)))/\∃(l0 l1:Option Sd) (A w2:List (Str×Int)),B=[l0,l1]/\u=A++w2/\ds=w2.map rwI/\aa.map (·.2)=(A.map (·.2)).map D.int) ?_ ?_ ?_
 ·simp![h0];exact⟨_,_,[],u,rfl,rfl,rfl,rfl⟩
 ·rintro E1 B d ds aa ⟨rfl,l0,l1,A,w2,rfl,hw,av,lf⟩;cases w2 with
  |nil=>cases av
  |cons x w2=>
   rw[List.map_cons]at av;injection av with e1 e2;subst e1 e2;simp![];exact⟨_,_,A++[x],w2,rfl,by rw[hw];simp,rfl,by rw[X9,lf,X9,X9];rfl⟩
 ·rintro E1 B aa ⟨rfl,l0,l1,A,w2,rfl,hw,av,lf⟩;cases w2 with
  |cons=>cases av
  |nil=>
   rw[Y7]at hw;subst hw;rw[zx,lf];exact k
theorem wq3(ns:List Int)(hnl:ns.length<=63):Oo m_law [(.no,iL ns)] (λy=>y.2=.bl true) noX:=by
 have mi:∀{a b:Int},0<b->k9 (.int a) (.int b)=some (.int (a % b)):=λh=>mod_i ⋯
 unfold m_law;rw [wqv,vxp,vxq,vk2];generalize hR:j7 (sIf (tE (cF2 (pu2 fEq) _ (C9 1))) _ _) _=R;refine kJ ?_;simp![];refine(V7 ns 0 ⋯).use ?_;intro _ _;simp![];refine(qqw _).use ?_;rintro ss ⟨jl,pe⟩;simp![];refine(V7 ns 1 ⋯).use ?_;intro _ _;simp![];refine(kvy _ ss jl pe).use ?_;rintro rs ⟨kps,k1,k6,k0,hk,hP⟩;simp![];refine(V7 ns 2 ⋯).use ?_;intro _ _;simp![];refine(kvy _ ss jl pe).use ?_;rintro rs0 ⟨kps0,k10,k60,k00,lx,hP0⟩;simp![];subst hR;refine Wx (λE=>∃(a7:List D) (kps':List Int),E=[some (.no,iL ns),some (.no,sL ss),some (.no,jJ ss rs),some (.no,jJ ss a7),none,none,none,none,none,none,none]/\1<=kps'.length/\kps'.length<=6/\kps'[0]?=some 0/\(Kq9 kps')/\Prs kps' ss.length a7) ?_ ?_
 ·simp![];refine(V7 ns 3 ⋯).use ?_;intro _ _
  by_cases h2:xZ ns 3 % 2=1
  ·have e:fEq (.int (xZ ns 3 % 2)) (.int 1)=some (.bl true):=by rw[h2];rfl
   simp![mi (a:=xZ ns 3) (b:=2) ⋯,e];refine(V7 ns 2 ⋯).use ?_;intro _ _;simp![];refine(jzy _ 1 ⋯ ⋯).use ?_;rintro xs ⟨hx1,hx2⟩;obtain⟨v,hv⟩:∃v,jW (iL xs) (.int 0)=some (.int v):=⟨xs.getD 0 0,wQ ⋯ (by rw[Xh,show(0:Int).toNat=0 from rfl,X1 ⋯,X4,X1 ⋯];rfl)⟩;simp![hv];refine(qkx v jl pe k1 k6 k0 hk hP).use ?_;rintro a7 b5;simp![];exact⟨a7,kps,rfl,k1,k6,k0,hk,b5⟩
  ·have e:fEq (.int (xZ ns 3 % 2)) (.int 1)=some (.bl false):=by rw[Zq,Y8 h2]
   simp![mi (a:=xZ ns 3) (b:=2) ⋯,e];exact⟨rs0,kps0,rfl,k10,k60,k00,lx,hP0⟩
 rintro E ⟨a7,kps',rfl,k1',k6',k0',au,b5⟩;generalize hR:j7 (sIf _ _ _) _=R;simp![];refine(V7 ns 4 ⋯).use ?_;intro _ _;simp![];refine(vw7 _).use ?_;rintro pl bh;simp![↓vv3];refine(kzg pe k6 k6' k0 k0' hP hk b5 au).via ?_;rintro y ⟨d,rfl,hT⟩;rcases hT with⟨w,rfl,lr,k,fk,hg,hRl⟩|⟨K,rfl,hK0,hK⟩
 ·simp![];subst hR;generalize hR2:j7 (jq 8 _) _=R2;have su:=vkd fk hg hRl;have ea:fEq (.str "apart") (.str "apart")=some (.bl true):=rfl;obtain⟨h,hh⟩:∃h:Int->Int,∀n,jW (iL pl) (.int (n % 7))=some (.int (h n)):=⟨λn=>pl.getD (n % 7).toNat 0,λn=>by
   have a0:=Y6 n (show(7:Int)≠0 by decide);have a1:=Xy n (show(0:Int)<7 by decide);exact wQ a0 (by show _=some (D.int (pl.getD (n % 7).toNat 0));rw[Xh,X1 ⋯,X4,X1 ⋯];rfl)⟩
  have m7:∀n:Int,k9 (.int n) (.int 7)=some (.int (n % 7)):=λn=>mi ⋯
  simp![ea];refine KY (λE1 B ds aa=>E1=[some (.no,iL ns),some (.no,sL ss),some (.no,jJ ss rs),some (.no,jJ ss a7),some (.rt,iL pl),some (.no,.str "apart"),some (.no,.lst (w.map rwI)),none,none,none,none]/\∃(l0 l1:Option Sd) (o:Own) (A w2:List (Str×Int)),B=[l0,l1,some (o,iL pl)]/\(sub o=.no/\o≠.dp)/\w=A++w2/\ds=w2.map rwI/\aa.map (·.2)=(A.map λx=>(x.1,h x.2)).map rwI) ?_ ?_ ?_
  ·simp![];exact⟨_,_,_,[],w,rfl,⟨rfl,⋯⟩,rfl,rfl,rfl⟩
  ·rintro E1 B d ds aa ⟨rfl,l0,l1,o,A,w2,rfl,⟨ho,fu⟩,hw,av,lf⟩;cases w2 with
   |nil=>cases av
   |cons x w2=>
    rw[List.map_cons]at av;injection av with e1 e2;subst e1 e2;simp![m7,hh,ho];exact⟨_,_,_,A++[x],w2,rfl,⟨ho,fu⟩,by rw[hw];simp,rfl,by rw[X9,lf,X9,X9];rfl⟩
  ·rintro E1 B aa ⟨rfl,l0,l1,o,A,w2,rfl,⟨ho,fu⟩,hw,av,lf⟩;cases w2 with
   |cons=>cases av
   |nil=>
   rw[Y7]at hw;subst hw;rw[zx,lf];simp only[J6,back,clr,at',List.drop,List.map_cons,List.map_nil,List.set_cons_zero,List.set_cons_succ];simp![];refine qj9 (u:=w) rfl ?_;simp![qjd (l:=w.map (·.2)) (by rw[X3];omega)];refine qj9 (u:=w.map λx=>(x.1,h x.2)) rfl ?_;simp![qjd (l:=(w.map λx=>(x.1,h x.2)).map (·.2)) (by rw[X3,X3];omega)];have hmm:(w.map λx=>(x.1,h x.2)).map (·.2)=(w.map (·.2)).map h:=by rw[Xm,Xm];rfl
   rw[hmm];have un:=kvd k0 k0' hP hk b5 au su
   by_cases hd:(ddI (w.map (·.2))).length=(ddI ((w.map (·.2)).map h)).length
   ·have e:fNe (.int (ddI (w.map (·.2))).length) (.int (ddI ((w.map (·.2)).map h)).length)=some (.bl false):=by rw[<-hd];show some (D.bl (!(_==_)))=_;simp
    have hi:=wqh hd;have un2:=kvd (w:=w.map λx=>(x.1,h x.2)) k0 k0' hP hk b5 au (by rw[qwm k0 hP hk hi,qwm k0' b5 au hi];exact su);simp![e];refine un.use ?_;intro _ _;simp![];refine un2.via ?_;rintro y ⟨o',rfl,_⟩;rfl
   ·have e:fNe (.int (ddI (w.map (·.2))).length) (.int (ddI ((w.map (·.2)).map h)).length)=some (.bl true):=by show some (D.bl (!(((ddI (w.map (·.2))).length:Int)==((ddI ((w.map (·.2)).map h)).length:Int))))=_;rw[Y8 λq=>hd ⋯];rfl
    simp![e];refine un.use ?_;intro _ _;simp![];refine un.via ?_;rintro y ⟨o',rfl,_⟩;rfl
 ·simp![];subst hR;have ea:fEq (.str "alike") (.str "apart")=some (.bl false):=rfl;have el:fEq (.str "alike") (.str "alike")=some (.bl true):=rfl;have f0:=Y6 (xZ ns 3 / 2) (show(7:Int)≠0 by decide);have f1:=Xy (xZ ns 3 / 2) (show(0:Int)<7 by decide);simp![ea];refine(V7 ns 3 ⋯).use ?_;intro _ _;simp![mi (a:=xZ ns 3 / 2) (b:=7) ⋯];generalize xZ ns 3 / 2 % 7=few at f0 f1;obtain⟨ms,hms,n6⟩:∃ms:List Int,z8 (ns.map D.int) (some 5) (some 65)=ms.map D.int/\ms.length<=63:=by
   unfold z8;refine⟨_,by rw[<-List.map_drop,<-List.map_take],?_⟩;rw[Z1,Zl];omega
  have gw:=qqv (o:=.no) (xs:=ns.map D.int) (lo:=some 5) (hi:=some 65) ⋯;rw[hms]at gw;obtain⟨zf,hz,nq⟩:∃zf:Int->Str,(∀c,jW (sL ss) (.int (c % ss.length))=some (.str (zf c)))/\∀c,zf c∈ss:=by
   have h8:∀c:Int,∃z∈ss,jW (sL ss) (.int (c % ss.length))=some (.str z):=λc=>by
    have a0:=Y6 c (show(ss.length:Int)≠0 by omega);have a1:=Xy c (show(0:Int)<ss.length by omega);exact⟨ss[(c % ss.length).toNat]'⋯,Xw _,wQ a0 (by rw[Xh,X1 ⋯];rfl)⟩
   exact⟨λc=>(h8 c).choose,λc=>(h8 c).choose_spec.2,λc=>(h8 c).choose_spec.1⟩
  obtain⟨pf,hpf⟩:∃pf:Int->Int,∀c,jW (iL pl) (.int (c / 3 % (1+few)))=some (.int (pf c)):=⟨λc=>pl.getD (c / 3 % (1+few)).toNat 0,λc=>by
   have a0:=Y6 (c / 3) (show 1+few≠0 by omega);have a1:=Xy (c / 3) (show(0:Int)<1+few by omega);exact wQ a0 (by show _=some (D.int (pl.getD (c / 3 % (1+few)).toNat 0));rw[Xh,X1 ⋯,X4,X1 ⋯];rfl)⟩
  have m1:∀c:Int,k9 (.int c) (.int ss.length)=some (.int (c % ss.length)):=λc=>mi ⋯
  have m2:∀c:Int,k9 (.int c) (.int (1+few))=some (.int (c % (1+few))):=λc=>mi ⋯
  refine VJ [some (.no,sL ss),some (.rt,iL pl),some (.dp,.int (1+few))] (λd y=>y.2=rwI (zf (Q7 d),pf (Q7 d))) ?_;simp![gw];refine⟨rfl,λd hd=>?_,λys hy=>?_⟩
  ·obtain⟨c,_,rfl⟩:=aE hd;simp![m1,m2,hz,hpf];exact⟨⟨_,rfl⟩,rfl⟩
  have hrow:(ms.map D.int).map (λd=>rwI (zf (Q7 d),pf (Q7 d)))=zK (ms.map λc=>(zf c,pf c)):=by
   rw[Xm];show _=List.map _ (List.map _ ms);rw[Xm];rfl
  have hwm:∀x∈ms.map (λc=>(zf c,pf c)),x.1∈ss:=λx hx=>by
   obtain⟨c,_,rfl⟩:=aE hx;exact nq c
  have lr:(ms.map λc=>(zf c,pf c)).length<=63:=by rw[X3];exact n6
  rw[zx,WK (h:=λd=>rwI (zf (Q7 d),pf (Q7 d))) (λ_ _ h=>h) hy,hrow];generalize ms.map (λc=>(zf c,pf c))=w at hwm lr;simp only[back,clr,at',List.map_cons,List.map_nil,List.set_cons_zero,List.set_cons_succ];have gl:∀n:Nat,vw ss rs (w.take n)=vw ss a7 (w.take n):=λn=>wve hP hk b5 au (λp hp=>⟨(hK p hp).1,(hK p hp).2.1,(hK p hp).2.2⟩) (w.take n) (λx hx=>hwm x (List.mem_of_mem_take hx)) hK0 (qqg k0 k0') (wzc hP hk b5 au k0 k0')
  simp![];refine xY (λE a9=>∃(o8 o9:Own) (jy:Option Sd) (pre:List D),E=[some (.no,iL ns),some (.no,sL ss),some (.no,jJ ss rs),some (.no,jJ ss a7),some (.rt,iL pl),some (.no,.str "alike"),some (.no,.lst K),none,some (o8,.int (1+few)),some (.rt,.lst (zK w)),jy]/\k8 0 ((w.length:Int)+1)=pre++a9) ?_ ?_ ?_
  ·refine vx9 ?_;simp![];exact⟨_,rfl,⋯,⋯,_,.no,_,[],rfl,rfl⟩
  ·rintro E d ds ⟨o8,o9,jy,pre,rfl,hpr⟩;obtain⟨c,c0,c1,rfl⟩:=kz4 (show d∈k8 0 ((w.length:Int)+1)by rw[hpr];simp);have mz:∀o,o≠.dp->fSl (o,.lst (zK w)) none (some c)=some (.rt,.lst (zK (w.take c.toNat))):=λo ho=>by
    rw[qqv ho,qjt c0,<-List.map_take]
   simp![mz .no ⋯,mz .rt ⋯];refine(YZ k0 hP hk).use ?_;intro _ _;simp![mz .no ⋯,mz .rt ⋯];refine(YZ k0 hP hk).use ?_;intro _ _;simp![mz .no ⋯,mz .rt ⋯];refine(YZ k0' b5 au).use ?_;intro _ _;have e:fNe (.bl (vw ss rs (w.take c.toNat))) (.bl (vw ss a7 (w.take c.toNat)))=some (.bl false):=by
    rw[gl];cases vw ss a7 (w.take c.toNat)<;>rfl
   simp![e];exact⟨_,.no,_,pre++[.int c],rfl,by rw[hpr];simp⟩
  ·rintro E ⟨o8,o9,jy,pre,rfl,hpr⟩;simp![el]
theorem law_true(ns:List Int)(hl:ns.length<=63)(hb:∀i∈ns,Builtin.Int.intBits i<=1048576):∃E o,m_law [(.no,.lst (ns.map D.int))]=some (.ok E (o,.bl true)):=by
 obtain⟨E,⟨o,d⟩,h,hd⟩:=(wq3 ns hl).out;have hd:d=.bl true:=hd;subst hd;exact⟨E,o,h⟩
end Nk44
namespace Nk44
open PySem L2 L3 Q
def top(i:Nat):Stmt:=PySem.Challenge.pw_freshrooms_k44_rows_tell_it.main.body.getD i (.Pass ⟨0,0,0,0⟩)
abbrev jxu:Stmt:=top 7
abbrev kj4:Stmt:=top 8
abbrev jq6:Stmt:=top 9
abbrev jvr:Stmt:=top 10
abbrev jvt:Stmt:=top 24
abbrev kq2:Stmt:=top 14
abbrev jvs:Stmt:=top 23
abbrev jv9:Stmt:=top 20
abbrev jkr:Stmt:=top 16
abbrev jxt:Stmt:=top 22
abbrev jqo:Stmt:=top 19
abbrev kj3:Stmt:=top 21
abbrev kj5:Stmt:=top 18
abbrev jqm:Stmt:=top 17
abbrev jvq:Stmt:=top 15
abbrev jqn:Stmt:=top 30
abbrev jva:Stmt:=top 29
abbrev jxr:Stmt:=top 28
abbrev jxs:Stmt:=top 27
abbrev jxv:Stmt:=top 26
abbrev jqq:Stmt:=top 32
abbrev jvc:Stmt:=top 33
abbrev jvu:Stmt:=top 34
abbrev jvw:Stmt:=top 35
abbrev jwq:Stmt:=top 36
abbrev jvv:Stmt:=top 37
abbrev jqp:Stmt:=top 38
abbrev jwo:Stmt:=top 39
abbrev jwp:Stmt:=top 40
abbrev jvb:Stmt:=top 41
abbrev vvf:Stmt:=top 42
theorem kxo:FnScope ["plain"] ["plain"] (jX jxu):=mkS
theorem sc_read_by:FnScope ["plain","standing","sign","name","names","cases","case","held"] ["plain","standing","sign","name"] (jX kj4):=mkS
theorem sc_stands_behind:FnScope ["plain","row","standing","sign","name"] ["plain","row"] (jX jq6):=mkS
theorem sc_plain_lets:FnScope ["plain","row","standing"] ["plain","row"] (jX jvr):=mkS
theorem kq0:FnScope ["plain","room"] ["plain","room"] (jX jvt):=mkS
theorem qqz:FnScope ["one","other","pair"] ["one","other","pair"] (jX kq2):=mkS
theorem kkz:FnScope ["plain","room"] ["plain","room"] (jX jvs):=mkS
theorem kjy:FnScope ["room","names"] ["room","names"] (jX jv9):=mkS
theorem sc_first_standings:FnScope ["one","other","pair","own","shared","names","j"] ["one","other","pair"] (jX jkr):=mkS
theorem kxn:FnScope ["standing"] ["standing"] (jX jxt):=mkS
theorem sc_held_by_both:FnScope ["standings","ours"] ["standings"] (jX jqo):=mkS
theorem qk8:FnScope ["standing"] ["standing"] (jX kj3):=mkS
theorem sc_pair_of:FnScope ["standings","ours","theirs","shared"] ["standings"] (jX kj5):=mkS
theorem kj1:FnScope ["one","other","standings","sign","name"] ["one","other","standings","sign","name"] (jX jqm):=mkS
theorem sc_steps_from:FnScope ["one","other","pair","standings","names","steps","sign","name"] ["one","other","pair"] (jX jvq):=mkS
theorem sc_least_beside:FnScope ["names","least"] ["names"] (jX jqn):=mkS
theorem sc_parting_row:FnScope ["one","other","first","steps","standings","row","sign","place","held","name"] ["one","other","first","steps"] (jX jva):=mkS
theorem sc_steps_to:FnScope ["ways","pair","steps","way"] ["ways","pair"] (jX jxr):=mkS
theorem sc_searched:FnScope ["one","other","first","ways","found","done","pair","sign","name","later"] ["one","other","first"] (jX jxs):=mkS
theorem kxp:FnScope ["one","other","pair"] ["one","other","pair"] (jX jxv):=mkS
theorem kj2:FnScope ["_law_script","_law_k"] ["_law_script","_law_k"] (jX jqq):=mkS
theorem sc__law_stream:FnScope ["_law_cell","_law_many","_law_found","_law_k","_law_number"] ["_law_cell","_law_many"] (jX jvc):=mkS
theorem sc__law_signs:FnScope ["_law_cell","_law_letters","_law_xs","_law_base","_law_at","_law_found","_law_k"] ["_law_cell"] (jX jvu):=mkS
theorem sc__law_fills:FnScope ["_law_number","_law_need","_law_free","_law_pool_here","_law_found","_law_k"] ["_law_number","_law_need","_law_free"] (jX jvw):=mkS
theorem sc__law_case:FnScope ["_law_number","_law_sizes","_law_free","_law_rooms","_law_to"] ["_law_number","_law_sizes","_law_free"] (jX jwq):=mkS
theorem sc__law_plain:FnScope ["_law_cell","_law_signs_here","_law_xs","_law_many","_law_most","_law_sizes","_law_rooms","_law_at","_law_room","_law_steps","_law_s","_law_cases","_law_i"] ["_law_cell","_law_signs_here"] (jX jvv):=mkS
theorem sc__law_changed:FnScope ["_law_plain_here","_law_cell","_law_rooms","_law_at","_law_keepers","_law_good","_law_steps","_law_made","_law_s","_law_i","_law_sizes"] ["_law_plain_here","_law_cell"] (jX jqp):=mkS
theorem sc__law_pool:FnScope ["_law_cell","_law_many","_law_pool_here","_law_k","_law_name"] ["_law_cell","_law_many"] (jX jwo):=mkS
theorem sc__law_lets:FnScope ["_law_plain_here","_law_row","_law_found"] ["_law_plain_here","_law_row"] (jX jwp):=mkS
theorem sc__law_unlike:FnScope ["_law_one","_law_other","_law_row","_law_here","_law_there"] ["_law_one","_law_other","_law_row"] (jX jvb):=mkS
theorem sc_law:FnScope ["_law_script","_law_signs_here","_law_one","_law_other","_law_pool_here","_law_word","_law_told","_law_bent","_law_few","_law_row","_law_many"] ["_law_script"] (jX vvf):=mkS
structure Txt (K:Frag)(mg:Str->Option Value):Prop where
 b_all:mg "all"=none
 b_bool:mg "bool"=none
 b_dict:mg "dict"=none
 b_enumerate:mg "enumerate"=none
 b_int:mg "int"=none
 b_isinstance:mg "isinstance"=none
 b_len:mg "len"=none
 b_list:mg "list"=none
 b_min:mg "min"=none
 b_range:mg "range"=none
 b_reversed:mg "reversed"=none
 b_set:mg "set"=none
 b_sorted:mg "sorted"=none
 b_tuple:mg "tuple"=none
 c_SMALL_ROOMS:Cst mg "SMALL_ROOMS" (V.int (12))
 c_SMALL_KEEPERS:Cst mg "SMALL_KEEPERS" (V.int (3))
 c_NOWHERE:Cst mg "NOWHERE" (V.int (-1))
 c_FIRST_PAIR:xj9 K mg "FIRST_PAIR" (.tup [(.int 0),(.int 0),(.tup [])])
section
variable (P:Program)(w:PySem.World)(K:Frag)(mg:Str->Option Value)(base:Heap)
abbrev kkt:=kK P w K mg base 1 "is_small" ["plain"] (spF K mg 1 m_is_small)
abbrev kjt:=kK P w K mg base 1 "read_by" ["plain","standing","sign","name"] (spF K mg 4 m_read_by)
abbrev jw3:=kK P w K mg base 2 "stands_behind" ["plain","row"] (spF K mg 2 jq9)
abbrev jza:=kK P w K mg base 3 "plain_lets" ["plain","row"] (spF K mg 2 jqj)
abbrev jzc:=kK P w K mg base 1 "is_good_in" ["plain","room"] (spF K mg 2 m_is_good_in)
abbrev qk2:=kK P w K mg base 2 "agrees" ["one","other","pair"] (spF K mg 3 m_agrees)
abbrev jzb:=kK P w K mg base 1 "keepers_in" ["plain","room"] (spF K mg 2 m_keepers_in)
abbrev jxm:=kK P w K mg base 1 "standing_in" ["room","names"] (spF K mg 2 m_standing_in)
abbrev jkv:=kK P w K mg base 2 "first_standings" ["one","other","pair"] (spF K mg 3 m_first_standings)
abbrev jz5:=kK P w K mg base 1 "names_of" ["standing"] (spF K mg 1 m_names_of)
abbrev jqu:=kK P w K mg base 2 "held_by_both" ["standings"] (spF K mg 1 m_held_by_both)
abbrev kxe:=kK P w K mg base 1 "room_of" ["standing"] (spF K mg 1 m_room_of)
abbrev kxf:=kK P w K mg base 2 "pair_of" ["standings"] (spF K mg 1 m_pair_of)
abbrev jqt:=kK P w K mg base 2 "read_by_both" ["one","other","standings","sign","name"] (spF K mg 5 m_read_by_both)
abbrev jz9:=kK P w K mg base 3 "steps_from" ["one","other","pair"] (spF K mg 3 m_steps_from)
abbrev jwj:=kK P w K mg base 1 "least_beside" ["names"] (spF K mg 1 m_least_beside)
abbrev jxn:=kK P w K mg base 3 "parting_row" ["one","other","first","steps"] (spF K mg 4 m_parting_row)
abbrev kkr:=kK P w K mg base 1 "steps_to" ["ways","pair"] (spF K mg 2 m_steps_to)
abbrev kks:=kK P w K mg base 4 "searched" ["one","other","first"] (spF K mg 3 m_searched)
abbrev kku:=ww5 P w K mg base 5 "compared" ["one","other","pair"] (spF K mg 3 jv0)
abbrev jwl:=kK P w K mg base 1 "_law_cell_at" ["_law_script","_law_k"] (spF K mg 2 m__law_cell_at)
abbrev jq2:=kK P w K mg base 1 "_law_stream" ["_law_cell","_law_many"] (spF K mg 2 m__law_stream)
abbrev jzd:=kK P w K mg base 2 "_law_signs" ["_law_cell"] (spF K mg 1 m__law_signs)
abbrev jzf:=kK P w K mg base 1 "_law_fills" ["_law_number","_law_need","_law_free"] (spF K mg 3 m__law_fills)
abbrev jx0:=kK P w K mg base 2 "_law_case" ["_law_number","_law_sizes","_law_free"] (spF K mg 3 m__law_case)
abbrev jze:=kK P w K mg base 3 "_law_plain" ["_law_cell","_law_signs_here"] (spF K mg 2 m__law_plain)
abbrev jwk:=kK P w K mg base 3 "_law_changed" ["_law_plain_here","_law_cell"] (spF K mg 2 jkg)
abbrev kju:=kK P w K mg base 1 "_law_pool" ["_law_cell","_law_many"] (spF K mg 2 ZY)
abbrev jwz:=kK P w K mg base 4 "_law_lets" ["_law_plain_here","_law_row"] (spF K mg 2 K0)
abbrev jxo:=kK P w K mg base 5 "_law_unlike" ["_law_one","_law_other","_law_row"] (spF K mg 3 XX)
end
section
variable {P:Program}{w:PySem.World}{K:Frag}{mg:Str->Option Value}{base:Heap}{f:Addr}{fd:FuncData}
theorem kz0(T:Txt K mg)  (F:Fun K "is_small" "is_small" jxu f fd):FnOk P w K mg base (CXE P w) 1 f fd ["plain"] (spF K mg 1 m_is_small):=
 qx F kxo (qk rfl) λax A outer s H vs Q E hr h=>kZ rfl
  (jx (kj (W5 (j6 (zQ vwm (Qk (g:=λa b=>decide (a<=b))) (j6 (qL (kx (vv 0) ki) T.b_len)) (j6 (q_C (V3 T.c_SMALL_ROOMS) (λ_=>wq))) (kz _))) (kvr (wzs (vxx K) wvk (j6 (qM .rt 1 [] 1 ["room"] (xw (k4 (kx (vv 0) ki))) (λ_ _ _ _ _=>(zQ vwm (Qk (g:=λa b=>decide (a<=b))) (kx (vv 0) ki) (j6 (q_C (V3 T.c_SMALL_KEEPERS) (λ_=>wq))) (kz _))))) T.b_all wv9))))) h
theorem qki(T:Txt K mg)  (F:Fun K "read_by" "read_by" kj4 f fd):FnOk P w K mg base (CXE P w) 1 f fd ["plain","standing","sign","name"] (spF K mg 4 m_read_by):=
 qx F sc_read_by (qk rfl) λax A outer s H vs Q E hr h=>have nd:=sc_read_by.nd;kZ rfl
  (j9 (wV (QW.pt (vvp (kQ YJ XY (vv 1) kn (kz _) XW) (qvh (kQ (kqd hr.units) kv7 (vv 2) (kx (vv 0) ki) (by rfl) kv4)))) (jx (kj kN)) x6) (j9 (qA nd (k4 (kx (vv 1) ki))) (j9 (qA nd (k4 (kx (kx (kx (kx (vv 0) ki) (kx (vv 1) ki)) ki) (j6 (kxu hr.units (kx (vv 0) ki) (vv 2)))))) (j9 (qA nd (k4 (kx (vv 5) (j6 (QJ (kQ (vwp hr.units) vz6 (vv 3) (vv 4) (by rfl) vz3) (kxu hr.units (vv 4) (vv 3)) (qL (vv 4) T.b_len)))))) (j9 (wV (kQ YJ XY (vv 6) kn (kz _) XW) (jx (kj kN)) x6) (j9 (qA nd (oA (vv 4) (j6 (qZ (o:=.no) (j5 (cv 3) jk))))) (jx (kj (qZ (o:=.no) (j5 (k4 (kx (vv 6) ki)) (j5 (qT (j6 (qM .rt 1 [7] 8 ["fill","held"] (xw (k4 (kx (vv 6) ki))) (λ_ _ _ _ _=>(k4 (kx (vv 1) (vv 0)))))) T.b_tuple) jk))))))))))) h
theorem jzk(T:Txt K mg)(b7:kjt P w K mg base)(F:Fun K "stands_behind" "stands_behind" jq6 f fd):FnOk P w K mg base (CXE P w) 2 f fd ["plain","row"] (spF K mg 2 jq9):=
 qx F sc_stands_behind (qk rfl) λax A outer s H vs Q E hr h=>have nd:=sc_stands_behind.nd;kZ rfl
  (j9 (qA nd (qZ (o:=.no) (j5 kI (j5 (qZ (o:=.no) jk) jk)))) (j9 (qF (xw (cv 1)) (JX (is:=[3,4]) (JW K (t:=gNs [3,4]) (n:=2) (vq (gn nd) (vq (gn nd) JJ)))) (jx (qA nd (qC b7 hr (j5 (cv 0) (j5 (cv 2) (j5 (cv 3) (j5 (cv 4) jk)))))))) (jx (kj (Qj (pv 2)))))) h
theorem kqf(T:Txt K mg)(be:jw3 P w K mg base)(F:Fun K "plain_lets" "plain_lets" jvr f fd):FnOk P w K mg base (CXE P w) 3 f fd ["plain","row"] (spF K mg 2 jqj):=
 qx F sc_plain_lets (qk rfl) λax A outer s H vs Q E hr h=>have nd:=sc_plain_lets.nd;kZ rfl
  (j9 (qA nd (qC be hr (j5 (cv 0) (j5 (cv 1) jk)))) (jx (kj (W5 (j6 (zQ kqc kv8 (vv 2) kn (kz _))) (kvr (k4 (kx (kx (kx (vv 0) ki) (kx (vv 2) ki)) ki))))))) h
theorem kqh(T:Txt K mg)  (F:Fun K "is_good_in" "is_good_in" jvt f fd):FnOk P w K mg base (CXE P w) 1 f fd ["plain","room"] (spF K mg 2 m_is_good_in):=
 qx F kq0 (qk rfl) λax A outer s H vs Q E hr h=>kZ rfl
  (jx (kj (W5 (j6 (zQ (qw6 hr.units) Zw (vv 1) (j6 (q_C (V3 T.c_NOWHERE) (λ_=>wq))) (kz _))) (kvr (k4 (kx (kx (kx (vv 0) ki) (vv 1)) ki)))))) h
theorem qw7(T:Txt K mg)(bi:jzc P w K mg base)(F:Fun K "agrees" "agrees" kq2 f fd):FnOk P w K mg base (CXE P w) 2 f fd ["one","other","pair"] (spF K mg 3 m_agrees):=
 qx F qqz (qk rfl) λax A outer s H vs Q E hr h=>kZ rfl
  (jx (kj (zQ (xV hr.units) z3 (j6 (qC bi hr (j5 (cv 0) (j5 (k4 (kx (vv 2) ki)) jk)))) (j6 (qC bi hr (j5 (cv 1) (j5 (k4 (kx (vv 2) ki)) jk)))) (kz _)))) h
theorem kqg(T:Txt K mg)  (F:Fun K "keepers_in" "keepers_in" jvs f fd):FnOk P w K mg base (CXE P w) 1 f fd ["plain","room"] (spF K mg 2 m_keepers_in):=
 qx F kkz (qk rfl) λax A outer s H vs Q E hr h=>kZ rfl
  (jx (kj (QJ (kQ (xV hr.units) z3 (vv 1) (j6 (q_C (V3 T.c_NOWHERE) (λ_=>wq))) (kz _) Kz) kI (k4 (kx (kx (kx (vv 0) ki) (vv 1)) ki))))) h
theorem kjz(T:Txt K mg)  (F:Fun K "standing_in" "standing_in" jv9 f fd):FnOk P w K mg base (CXE P w) 1 f fd ["room","names"] (spF K mg 2 m_standing_in):=
 qx F kjy (qk rfl) λax A outer s H vs Q E hr h=>kZ rfl
  (jx (kj (QJ (kQ (xV hr.units) z3 (vv 0) (j6 (q_C (V3 T.c_NOWHERE) (λ_=>wq))) (kz _) Kz) kN (qZ (o:=.no) (j5 (cv 0) (j5 (qT (vv 1) T.b_tuple) jk)))))) h
theorem jx8(T:Txt K mg)(bj:jzb P w K mg base)(ba:jxm P w K mg base)(F:Fun K "first_standings" "first_standings" jkr f fd):FnOk P w K mg base (CXE P w) 2 f fd ["one","other","pair"] (spF K mg 3 m_first_standings):=
 qx F sc_first_standings (qk rfl) λax A outer s H vs Q E hr h=>have nd:=sc_first_standings.nd;kZ rfl
  (j9 (qA nd (qC bj hr (j5 (cv 0) (j5 (k4 (kx (vv 2) ki)) jk)))) (j9 (qA nd (KZ (qz1 K) vkg (j6 (qm .rt 2 [] 7 ["i","j"] (xw (k4 (kx (vv 2) ki))) (λhN _ _ _ _ _=>(JX (is:=[0,1]) (JW K (t:=gNs [0,1]) (n:=2) (vq (vY (i:=0) hN rfl (by trivial)) (vq (vY (i:=1) hN rfl (by trivial)) JJ))))) (λ_ _ _ _ _=>Q5) (λ_ _ _ _ _=>(qZ (o:=.no) (j5 (cv 1) (j5 (cv 0) jk)))))) T.b_dict vxz)) (j9 (qA nd (xz (o:=.rt) jk)) (j9 (qF (Jv (j6 (qC bj hr (j5 (cv 1) (j5 (k4 (kx (vv 2) ki)) jk)))) rfl T.b_range) (gN nd) (jx (qP (QJ (kQ (wxc hr.units) wvj (vv 6) (vv 4) (by rfl) wva) (k4 (www hr.units (vv 4) (vv 6) (λ_ _=>rfl))) (oA (vv 3) (j6 (qL (j6 (wwv (o:=.rt) (k:=1) (R:=[3]) ["name","own"] (wwy (pv 5)) (λ_ _ _ _ _=>(Qx (vY (i:=0) (show(["name","own"]:List Str).Nodup by decide +kernel) rfl (by trivial)))) (λ_ _ _ _ _=>(vj0 (kQ wxb (Qk (g:=λa b=>decide (b<=a))) (vv 0) (vv 1) (kz _) W9))) (λ_ _ _ _ _=>(cv 0)) zV ⟨_,_,rfl,rfl⟩ ⋯ (show ∀j∈([3]:List Nat) ,j<7 by decide))) T.b_len))))))) (jx (kj (qZ (o:=.no) (j5 (qC ba hr (j5 (k4 (kx (vv 2) ki)) (j5 (vvr (vv 3) T.b_range T.b_list) jk))) (j5 (vvu ba (hr.mono ⋯) zV (wjt (kx (vv 2) ki) (wjt (vv 5) wx1))) jk))))))))) h
theorem kxz(T:Txt K mg)  (F:Fun K "names_of" "names_of" jxt f fd):FnOk P w K mg base (CXE P w) 1 f fd ["standing"] (spF K mg 1 m_names_of):=
 qx F kxn (qk rfl) λax A outer s H vs Q E hr h=>kZ rfl
  (jx (kj (QJ (kQ YJ XY (vv 0) kn (kz _) XW) (qZ (o:=.no) jk) (k4 (kx (vv 0) ki))))) h
theorem kjc(T:Txt K mg)(aq:jz5 P w K mg base)(F:Fun K "held_by_both" "held_by_both" jqo f fd):FnOk P w K mg base (CXE P w) 2 f fd ["standings"] (spF K mg 1 m_held_by_both):=
 qx F sc_held_by_both (qk rfl) λax A outer s H vs Q E hr h=>have nd:=sc_held_by_both.nd;kZ rfl
  (j9 (qA nd (qC aq hr (j5 (k4 (kx (vv 0) ki)) jk))) (jx (kj (oA (vv 1) (j6 (qT (j6 (qm .rt 1 [1] 2 ["name","ours"] (xw (qC aq hr (j5 (k4 (kx (vv 0) ki)) jk))) (λhN _ _ _ _ _=>(Qx (vY (i:=0) hN rfl (by trivial)))) (λ_ _ _ _ _=>(vj0 (kQ (kqd hr.units) kv7 (vv 0) (vv 1) (by rfl) kv4))) (λ_ _ _ _ _=>(cv 0)))) T.b_tuple)))))) h
theorem qkh(T:Txt K mg)  (F:Fun K "room_of" "room_of" kj3 f fd):FnOk P w K mg base (CXE P w) 1 f fd ["standing"] (spF K mg 1 m_room_of):=
 qx F qk8 (qk rfl) λax A outer s H vs Q E hr h=>kZ rfl
  (jx (kj (QJ (kQ YJ XY (vv 0) kn (kz _) XW) (q_C (V3 T.c_NOWHERE) (λ_=>wq)) (k4 (kx (vv 0) ki))))) h
theorem qkj(T:Txt K mg)(aq:jz5 P w K mg base)(cm:kxe P w K mg base)(F:Fun K "pair_of" "pair_of" kj5 f fd):FnOk P w K mg base (CXE P w) 2 f fd ["standings"] (spF K mg 1 m_pair_of):=
 qx F sc_pair_of (qk rfl) λax A outer s H vs Q E hr h=>have nd:=sc_pair_of.nd;kZ rfl
  (j9 (qA nd (qC aq hr (j5 (k4 (kx (vv 0) ki)) jk))) (j9 (qA nd (qC aq hr (j5 (k4 (kx (vv 0) ki)) jk))) (j9 (ZK (i:=3) (o:=.rt) (k:=2) (R:=[2]) ["i","name","theirs"] nd rfl (by trivial) (vvs (cv 1) rfl T.b_enumerate) (λ_ _ _ _ _=>(JX (is:=[0,1]) (JW K (t:=gNs [0,1]) (n:=2) (vq (vY (i:=0) (show(["i","name","theirs"]:List Str).Nodup by decide +kernel) rfl (by trivial)) (vq (vY (i:=1) (show(["i","name","theirs"]:List Str).Nodup by decide +kernel) rfl (by trivial)) JJ))))) (λ_ _ _ _ _=>(vj0 (kQ (vwp hr.units) vz6 (vv 1) (vv 2) (by rfl) vz3))) (λ_ _ _ _ _=>(qZ (o:=.no) (j5 (cv 0) (j5 (kxu hr.units (vv 2) (vv 1)) jk)))) zV ⟨_,_,rfl,rfl⟩ ⋯ (show ∀j∈([2]:List Nat) ,j<4 by decide)) (jx (kj (qZ (o:=.no) (j5 (qC cm hr (j5 (k4 (kx (vv 0) ki)) jk)) (j5 (qC cm hr (j5 (k4 (kx (vv 0) ki)) jk)) (j5 (qT (vv 3) T.b_tuple) jk))))))))) h
theorem kja(T:Txt K mg)(b7:kjt P w K mg base)(F:Fun K "read_by_both" "read_by_both" jqm f fd):FnOk P w K mg base (CXE P w) 2 f fd ["one","other","standings","sign","name"] (spF K mg 5 m_read_by_both):=
 qx F kj1 (qk rfl) λax A outer s H vs Q E hr h=>kZ rfl
  (jx (kj (qZ (o:=.no) (j5 (qC b7 hr (j5 (cv 0) (j5 (k4 (kx (vv 2) ki)) (j5 (cv 3) (j5 (cv 4) jk))))) (j5 (qC b7 hr (j5 (cv 1) (j5 (k4 (kx (vv 2) ki)) (j5 (cv 3) (j5 (cv 4) jk))))) jk))))) h
theorem kqe(T:Txt K mg)(ag:jkv P w K mg base)(am:jqu P w K mg base)(dk:kxf P w K mg base)(ak:jqt P w K mg base)(F:Fun K "steps_from" "steps_from" jvq f fd):FnOk P w K mg base (CXE P w) 3 f fd ["one","other","pair"] (spF K mg 3 m_steps_from):=
 qx F sc_steps_from (qk rfl) λax A outer s H vs Q E hr h=>have nd:=sc_steps_from.nd;kZ rfl
  (j9 (qA nd (qC ag hr (j5 (cv 0) (j5 (cv 1) (j5 (cv 2) jk))))) (j9 (qA nd (vvr (j6 (oA (j6 (qL (j6 (qC am hr (j5 (cv 3) jk))) T.b_len)) ki)) T.b_range T.b_list)) (j9 (qA nd (xz (o:=.rt) jk)) (j9 (qF (xw (qvi rfl rfl (j6 (oA (kx (vv 0) ki) (kx (vv 1) ki))) T.b_sorted T.b_set)) (gN nd) (jx (qF (xw (cv 4)) (gN nd) (jx (qP (qZ (o:=.no) (j5 (cv 6) (j5 (cv 7) (j5 (qC dk hr (j5 (qC ak hr (j5 (cv 0) (j5 (cv 1) (j5 (cv 3) (j5 (cv 6) (j5 (cv 7) jk)))))) jk)) jk))))))))) (jx (kj (Qj (pv 5)))))))) h
theorem kjb(T:Txt K mg)  (F:Fun K "least_beside" "least_beside" jqn f fd):FnOk P w K mg base (CXE P w) 1 f fd ["names"] (spF K mg 1 m_least_beside):=
 qx F sc_least_beside (qk rfl) λax A outer s H vs Q E hr h=>have nd:=sc_least_beside.nd;kZ rfl
  (j9 (qA nd kI) (j9 (kq4 (qw2 ⟨_,_,rfl,rfl⟩) (kQ (vwp hr.units) vz6 (vv 1) (vv 0) (by rfl) vz3) (jx (wju (i:=1) nd rfl (by trivial) vqi kI))) (jx (kj (Qj (pv 1)))))) h
theorem kk0(T:Txt K mg)(ag:jkv P w K mg base)(am:jqu P w K mg base)(ak:jqt P w K mg base)(bn:jwj P w K mg base)(F:Fun K "parting_row" "parting_row" jva f fd):FnOk P w K mg base (CXE P w) 3 f fd ["one","other","first","steps"] (spF K mg 4 m_parting_row):=
 qx F sc_parting_row (qk rfl) λax A outer s H vs Q E hr h=>have nd:=sc_parting_row.nd;kZ rfl
  (j9 (qA nd (qC ag hr (j5 (cv 0) (j5 (cv 1) (j5 (cv 2) jk))))) (j9 (qA nd (xz (o:=.rt) jk)) (j9 (qF (xw (cv 3)) (JX (is:=[6,7]) (JW K (t:=gNs [6,7]) (n:=2) (vq (gn nd) (vq (gn nd) JJ)))) (j9 (qA nd (qC am hr (j5 (cv 4) jk))) (j9 (qA nd (QJ (kQ vje (Qk (g:=λa b=>decide (a<b))) (vv 7) (j6 (qL (vv 8) T.b_len)) (kz _) W9) (k4 (kx (vv 8) (vv 7))) (qC bn hr (j5 (cv 8) jk)))) (j9 (qP (qZ (o:=.no) (j5 (cv 6) (j5 (cv 9) jk)))) (jx (qA nd (qC ak hr (j5 (cv 0) (j5 (cv 1) (j5 (cv 4) (j5 (cv 6) (j5 (cv 9) jk)))))))))))) (jx (kj (Qj (pv 5))))))) h
theorem kxx(T:Txt K mg)  (F:Fun K "steps_to" "steps_to" jxr f fd):FnOk P w K mg base (CXE P w) 1 f fd ["ways","pair"] (spF K mg 2 m_steps_to):=
 qx F sc_steps_to (qk rfl) λax A outer s H vs Q E hr h=>have nd:=sc_steps_to.nd;kZ rfl
  (j9 (qA nd (xz (o:=.rt) jk)) (j9 (qA nd (k4 (wjo hr.units (vv 0) (vv 1) (λ_ _=>rfl)))) (j9 (kq4 (qw2 ⟨_,_,rfl,rfl⟩) (kQ kqc kv8 (vv 3) kn (kz _) vz1) (j9 (qP (qZ (o:=.no) (j5 (k4 (kx (vv 3) ki)) (j5 (k4 (kx (vv 3) ki)) jk)))) (jx (qA nd (k4 (wjo hr.units (vv 0) (kx (vv 3) ki) (λ_ _=>rfl))))))) (jx (kj (wjl (vv 2) T.b_reversed T.b_list)))))) h
theorem kxy(T:Txt K mg)(bt:jz9 P w K mg base)(dv:qk2 P w K mg base)(bp:jxn P w K mg base)(cy:kkr P w K mg base)(F:Fun K "searched" "searched" jxs f fd):FnOk P w K mg base (CXE P w) 4 f fd ["one","other","first"] (spF K mg 3 m_searched):=
 qx F sc_searched (qk rfl) λax A outer s H vs Q E hr h=>have nd:=sc_searched.nd;kZ rfl
  (j9 (qA nd (wjr hr.units (cv 2) kN)) (j9 (qA nd (xz (o:=.rt) (j5 (cv 2) jk))) (j9 (qA nd kI) (j9 (kq4 (qw2 ⟨_,_,rfl,rfl⟩) (kQ vje (Qk (g:=λa b=>decide (a<b))) (vv 5) (j6 (qL (vv 4) T.b_len)) (kz _) W9) (j9 (qA nd (k4 (kx (vv 4) (vv 5)))) (j9 (wV (qj2 (kq5 (j6 (qC dv hr (j5 (cv 0) (j5 (cv 1) (j5 (cv 6) jk))))))) (jx (kj (qZ (o:=.no) (j5 kS (j5 (qC bp hr (j5 (cv 0) (j5 (cv 1) (j5 (cv 2) (j5 (qC cy hr (j5 (cv 3) (j5 (cv 6) jk))) jk))))) jk))))) x6) (j9 (qF (xw (qC bt hr (j5 (cv 0) (j5 (cv 1) (j5 (cv 6) jk))))) (JX (is:=[7,8,9]) (JW K (t:=gNs [7,8,9]) (n:=3) (vq (gn nd) (vq (gn nd) (vq (gn nd) JJ))))) (jx (wV (kQ (vjf hr.units) qze (vv 9) (vv 3) (by rfl) qz7) (j9 (wjq (i:=3) hr.units rfl (pv 3) (vv 9) (qZ (o:=.no) (j5 (cv 6) (j5 (cv 7) (j5 (cv 8) jk))))) (jx (qP (cv 9)))) x6))) (jx (wju (i:=5) nd rfl (by trivial) vqi kI)))))) (jx (kj (qZ (o:=.no) (j5 kS (j5 (cv 4) jk))))))))) h
theorem kz1(T:Txt K mg)(cw:kks P w K mg base)(bv:kkt P w K mg base)(F:wz9 K "compared" "compared" jxv f fd):FnOk P w K mg base (CXE P w) 5 f fd ["one","other","pair"] (spF K mg 3 jv0):=
 vz8 F kxp (qk rfl) λax A outer s H vs Q E hr h=>kZ rfl
  (j9 (wV (kQ (qw6 hr.units) Zw (kx (vv 0) ki) (kx (vv 1) ki) (kz _) vz2) (jx vkw) x6) (j9 (wV (QW.pt (vvp (qj2 (kq5 (j6 (qC bv hr (j5 (cv 0) jk))))) (qvh (qj2 (kq5 (j6 (qC bv hr (j5 (cv 1) jk)))))))) (jx vkw) x6) (jx (kj (qC cw hr (j5 (cv 0) (j5 (cv 1) (j5 (QJ (kQ YJ XY (vv 2) kn (kz _) XW) (q_CD T.c_FIRST_PAIR) (cv 2)) jk)))))))) h
theorem kje(T:Txt K mg)  (F:Fun K "_law_cell_at" "_law_cell_at" jqq f fd):FnOk P w K mg base (CXE P w) 1 f fd ["_law_script","_law_k"] (spF K mg 2 m__law_cell_at):=
 qx F kj2 (qk rfl) λax A outer s H vs Q E hr h=>kZ rfl
  (j9 (wV (kQ vje (Qk (g:=λa b=>decide (a<b))) (vv 1) (j6 (qL (vv 0) T.b_len)) (kz _) W9) (jx (kj (k4 (kx (vv 0) (vv 1))))) x6) (jx (kj kI))) h
theorem kk2(T:Txt K mg)  (F:Fun K "_law_stream" "_law_stream" jvc f fd):FnOk P w K mg base (CXE P w) 1 f fd ["_law_cell","_law_many"] (spF K mg 2 m__law_stream):=
 qx F sc__law_stream (qk rfl) λax A outer s H vs Q E hr h=>have nd:=sc__law_stream.nd;kZ rfl
  (j9 (qA nd (xz (o:=.rt) jk)) (j9 (wV (kQ (xV hr.units) z3 (j6 (oM (vv 0) ki)) ki (kz _) Kz) (j9 (qA nd (qV xx xJ (vv 0) ki)) (j9 (qF (Jv (vv 1) rfl T.b_range) (gN nd) (j9 (qP (oM (vv 0) ki)) (jx (qA nd (qV xx xJ (vv 0) ki))))) (jx (kj (Qj (pv 2)))))) x6) (j9 (qA nd (oA (j6 (oM (j6 (qV xx xJ (vv 0) ki)) ki)) ki)) (j9 (qF (Jv (j6 (oA (vv 1) ki)) rfl T.b_range) (gN nd) (j9 (qA nd (oM (j6 (oA (j6 (oA (j6 (oX (vv 4) (vv 4))) (j6 (oX ki (vv 4))))) (vv 3))) ki)) (jx (qP (oM (j6 (oA (j6 (oX (vv 4) ki)) (j6 (oX ki (vv 3))))) ki))))) (jx (kj (Q0 (vv 2) (K5 ki) QQ))))))) h
theorem kqi(T:Txt K mg)(af:jq2 P w K mg base)(F:Fun K "_law_signs" "_law_signs" jvu f fd):FnOk P w K mg base (CXE P w) 2 f fd ["_law_cell"] (spF K mg 1 m__law_signs):=
 qx F sc__law_signs (qk rfl) λax A outer s H vs Q E hr h=>have nd:=sc__law_signs.nd;kZ rfl
  (j9 (qA nd kS) (j9 (qA nd (qC af hr (j5 (cv 0) (j5 kI jk)))) (j9 (qA nd (wjn vq7 (j6 (qM .rt 1 [1] 7 ["_law_x","_law_letters"] (xw (Q0 (vv 2) QQ (K5 (j6 (oA ki (j6 (oM (vv 0) ki))))))) (λ_ _ _ _ _=>(k4 (kx (vv 1) (j6 (oM (vv 0) ki))))))))) (j9 (qA nd (oM (j6 (qV xx xJ (vv 0) ki)) (j6 (qL (vv 3) T.b_len)))) (j9 (qA nd (xz (o:=.rt) jk)) (j9 (qF (Jv (kx (j6 (xz (o:=.rt) (j5 kI (j5 kI (j5 kI (j5 kI (j5 kI (j5 kI (j5 kI (j5 kI jk)))))))))) (j6 (oM (j6 (qV xx xJ (vv 0) ki)) ki))) rfl T.b_range) (gN nd) (jx (qP (oA (j6 (oA (j6 (Q0 (vv 3) QQ (K5 (vv 4)))) (kx (vv 1) (j6 (oA (j6 (oM (kx (vv 2) ki) ki)) (vv 6)))))) (j6 (Q0 (vv 3) (K5 (j6 (oA (vv 4) ki))) QQ)))))) (jx (kj (Qj (pv 5)))))))))) h
theorem kqk(T:Txt K mg)  (F:Fun K "_law_fills" "_law_fills" jvw f fd):FnOk P w K mg base (CXE P w) 1 f fd ["_law_number","_law_need","_law_free"] (spF K mg 3 m__law_fills):=
 qx F sc__law_fills (qk rfl) λax A outer s H vs Q E hr h=>have nd:=sc__law_fills.nd;kZ rfl
  (j9 (qA nd (vvr (vv 2) T.b_range T.b_list)) (j9 (qA nd (xz (o:=.rt) jk)) (j9 (qF (Jv (vv 1) rfl T.b_range) (gN nd) (j9 (qP (wws (i:=3) (vqa K PySem.F.plainAttrs_list PySem.F.slot_list_pop PySem.F.type_list_pop vji (pv 3) (wj (j6 (oM (vv 0) (j6 (qL (vv 3) T.b_len)))) wJ)))) (jx (qA nd (oA (j6 (qV xx xJ (vv 0) ki)) (j6 (oX ki (vv 5)))))))) (jx (kj (qT (vv 4) T.b_tuple)))))) h
theorem kw6(T:Txt K mg)(bz:jzf P w K mg base)(F:Fun K "_law_case" "_law_case" jwq f fd):FnOk P w K mg base (CXE P w) 2 f fd ["_law_number","_law_sizes","_law_free"] (spF K mg 3 m__law_case):=
 qx F sc__law_case (qk rfl) λax A outer s H vs Q E hr h=>have nd:=sc__law_case.nd;kZ rfl
  (j9 (wV (kQ (xV hr.units) z3 (j6 (oM (vv 0) ki)) ki (kz _) Kz) (jx (kj kN)) x6) (j9 (ZK (i:=3) (o:=.rt) (k:=1) (R:=[1,2]) ["_law_to","_law_sizes","_law_free"] nd rfl (by trivial) (Jv (j6 (qL (vv 1) T.b_len)) rfl T.b_range) (λ_ _ _ _ _=>(Qx (vY (i:=0) (show(["_law_to","_law_sizes","_law_free"]:List Str).Nodup by decide +kernel) rfl (by trivial)))) (λ_ _ _ _ _=>(vj0 (kQ vwm (Qk (g:=λa b=>decide (a<=b))) (kx (vv 1) (vv 0)) (vv 2) (kz _) W9))) (λ_ _ _ _ _=>(cv 0)) zV ⟨_,_,rfl,rfl⟩ ⋯ (show ∀j∈([1,2]:List Nat) ,j<5 by decide)) (j9 (qA nd (k4 (kx (vv 3) (j6 (oM (j6 (qV xx xJ (vv 0) ki)) (j6 (qL (vv 3) T.b_len))))))) (jx (kj (qZ (o:=.no) (j5 (cv 4) (j5 (qC bz hr (j5 (qV xx xJ (vv 0) ki) (j5 (k4 (kx (vv 1) (vv 4))) (j5 (cv 2) jk)))) jk)))))))) h
theorem kqj(T:Txt K mg)(af:jq2 P w K mg base)(az:jx0 P w K mg base)(F:Fun K "_law_plain" "_law_plain" jvv f fd):FnOk P w K mg base (CXE P w) 3 f fd ["_law_cell","_law_signs_here"] (spF K mg 2 m__law_plain):=
 qx F sc__law_plain (qk rfl) λax A outer s H vs Q E hr h=>have nd:=sc__law_plain.nd;kZ rfl
  (j9 (qA nd (qC af hr (j5 (cv 0) (j5 kI jk)))) (j9 (qA nd (k4 (kx (j6 (xz (o:=.rt) (j5 kI (j5 kI (j5 kI (j5 kI (j5 kI (j5 kI (j5 kI (j5 kI jk)))))))))) (j6 (oM (kx (vv 2) ki) ki))))) (j9 (qA nd kI) (j9 (wV (QW.pt (wjk (kQ (xV hr.units) z3 (vv 3) ki (kz _) Kz) (vvq (kQ (xV hr.units) z3 (j6 (oM (kx (vv 2) ki) ki)) ki (kz _) Kz)))) (jx (qA nd kI)) x6) (j9 (qA nd (oA (j6 (xz (o:=.rt) (j5 kI jk))) (j6 (qM .rt 1 [2,4] 13 ["_law_k","_law_xs","_law_most"] (Jv (j6 (qV YW kxc (vv 3) ki)) rfl T.b_range) (λ_ _ _ _ _=>(oM (j6 (qV xx xJ (kx (vv 1) (j6 (oA ki (vv 0)))) ki)) (j6 (oA (vv 2) ki)))))))) (j9 (qA nd (xz (o:=.rt) jk)) (j9 (qA nd kI) (j9 (qF (Jv (vv 3) rfl T.b_range) (gN nd) (j9 (qA nd (xz (o:=.rt) jk)) (j9 (qF (Jv (j6 (qL (vv 1) T.b_len)) rfl T.b_range) (gN nd) (j9 (qA nd (xz (o:=.rt) jk)) (j9 (qF (Jv (j6 (oA (kx (vv 5) (vv 8)) ki)) rfl T.b_range) (gN nd) (j9 (qP (qC az hr (j5 (k4 (kx (vv 2) (vv 7))) (j5 (cv 5) (j5 (oA (kx (vv 5) (vv 8)) (j6 (KZ kx4 vqx (j6 (zQ (xV hr.units) z3 (vv 12) (kx (vv 5) (vv 8)) (kz _))) T.b_int vqr))) jk))))) (jx (qA nd (oA (vv 7) ki))))) (jx (qP (cv 11)))))) (j9 (qP (qZ (o:=.no) (j5 (k4 (kx (vv 5) (vv 8))) (j5 (zQ (xV hr.units) z3 (j6 (oM (kx (vv 2) (vv 7)) ki)) ki (kz _)) (j5 (cv 9) jk))))) (jx (qA nd (oA (vv 7) ki))))))) (jx (kj (qZ (o:=.no) (j5 (KZ (jzw K) kv9 (vv 1) T.b_list Ww) (j5 (cv 6) jk))))))))))))) h
theorem kjd(T:Txt K mg)(az:jx0 P w K mg base)(F:Fun K "_law_changed" "_law_changed" jqp f fd):FnOk P w K mg base (CXE P w) 3 f fd ["_law_plain_here","_law_cell"] (spF K mg 2 jkg):=
 qx F sc__law_changed (qk rfl) λax A outer s H vs Q E hr h=>have nd:=sc__law_changed.nd;kZ rfl
  (j9 (qA nd (KZ (jzw K) kv9 (kx (vv 0) ki) T.b_list Ww)) (j9 (qA nd (oM (vv 1) (j6 (qL (vv 2) T.b_len)))) (j9 (vku (k4 (kx (vv 2) (vv 3))) (JX (is:=[4,5,6]) (JW K (t:=gNs [4,5,6]) (n:=3) (vq (gn nd) (vq (gn nd) (vq (gn nd) JJ)))))) (j9 (ZK (i:=7) (o:=.dp) (k:=1) (R:=[]) ["_law_cases"] nd rfl (by trivial) (xw (cv 6)) (λ_ _ _ _ _=>(Qx (vY (i:=0) (show(["_law_cases"]:List Str).Nodup by decide +kernel) rfl (by trivial)))) (λ_ _ _ _ _=>Q5) (λ_ _ _ _ _=>(wwt (KZ (jzw K) kv9 (vv 0) T.b_list Ww))) zV ⟨_,_,rfl,rfl⟩ ⋯ (show ∀j∈([]:List Nat) ,j<11 by decide)) (j9 (wV (kQ (xV hr.units) z3 (j6 (oM (j6 (qV xx xJ (vv 1) ki)) ki)) ki (kz _) Kz) (jx (qA nd (wwu (vv 5)))) (j9 (qA nd (oM (j6 (qV xx xJ (vv 1) ki)) (j6 (qL (vv 7) T.b_len)))) (j9 (qA nd (oM (j6 (qV xx xJ (vv 1) ki)) (j6 (oA (vv 4) ki)))) (j9 (vj1 (i:=10) (o:=.rt) (k:=1) (R:=[]) ["_law_room"] nd rfl (by trivial) (wwx (pv 2)) (λ_ _ _ _ _=>(Qx (vY (i:=0) (show(["_law_room"]:List Str).Nodup by decide +kernel) rfl (by trivial)))) (λ_ _ _ _ _=>Q5) (λ_ _ _ _ _=>(k4 (kx (vv 0) ki))) zV ⟨_,_,rfl,rfl⟩ ⋯ (show ∀j∈([]:List Nat) ,j<11 by decide)) (jx (wjm (i:=7) (j:=8) (k:=9) (pv 7) (pv 8) (λ_ _=>rfl) (pv 9) (qC az hr (j5 (qV xx xJ (vv 1) ki) (j5 (cv 10) (j5 (oA (vv 4) (j6 (KZ kx4 vqx (j6 (zQ (xV hr.units) z3 (vv 9) (vv 4) (kz _))) T.b_int vqr))) jk)))))))))) (j9 (wwr (i:=2) (pv 2) (vv 3) (qZ (o:=.no) (j5 (cv 4) (j5 (cv 5) (j5 (cv 7) jk))))) (jx (kj (qZ (o:=.no) (j5 (KZ (jzw K) kv9 (kx (vv 0) ki) T.b_list Ww) (j5 (cv 2) jk))))))))))) h
theorem kw4(T:Txt K mg)  (F:Fun K "_law_pool" "_law_pool" jwo f fd):FnOk P w K mg base (CXE P w) 1 f fd ["_law_cell","_law_many"] (spF K mg 2 ZY):=
 qx F sc__law_pool (qk rfl) λax A outer s H vs Q E hr h=>have nd:=sc__law_pool.nd;kZ rfl
  (j9 (qA nd (xz (o:=.rt) jk)) (j9 (qA nd kI) (j9 (kq4 (qw2 ⟨_,_,rfl,rfl⟩) (kQ vje (Qk (g:=λa b=>decide (a<b))) (j6 (qL (vv 2) T.b_len)) (vv 1) (kz _) W9) (j9 (qA nd (oA (j6 (qV YW kxc (j6 (oM (j6 (oX (j6 (oM (vv 0) (j6 (qV qj7 qk1 ki ki)))) (j6 (oA (vv 3) ki)))) (j6 (qV YW kxc (j6 (oX ki (j6 (qV qj7 qk1 ki ki)))) ki)))) (j6 (qV YW kxc (j6 (qV qj7 qk1 ki ki)) ki)))) (vv 3))) (j9 (wV (kQ (kqd hr.units) kv7 (vv 4) (vv 2) (by rfl) kv4) (jx (qP (q_b2 (qxv rfl) (wz2 λ_ _=>rfl) (vv 4) (j6 (qV YW kxc (j6 (qV qj7 qk1 ki ki)) ki)) T.b_min wv7))) x6) (jx (qA nd (oA (vv 3) ki)))))) (jx (kj (Qj (pv 2))))))) h
theorem kw5(T:Txt K mg)(bu:jza P w K mg base)(F:Fun K "_law_lets" "_law_lets" jwp f fd):FnOk P w K mg base (CXE P w) 4 f fd ["_law_plain_here","_law_row"] (spF K mg 2 K0):=
 qx F sc__law_lets (qk rfl) λax A outer s H vs Q E hr h=>have nd:=sc__law_lets.nd;kZ rfl
  (j9 (qA nd (qC bu hr (j5 (cv 0) (j5 (cv 1) jk)))) (j9 (wV (qj2 (kq5 (j6 (wwz (vv 2) T.b_isinstance T.b_bool vz0 rfl)))) (jx (kj kN)) x6) (jx (kj (Qj (pv 2)))))) h
theorem kk1(T:Txt K mg)(aj:jwz P w K mg base)(F:Fun K "_law_unlike" "_law_unlike" jvb f fd):FnOk P w K mg base (CXE P w) 5 f fd ["_law_one","_law_other","_law_row"] (spF K mg 3 XX):=
 qx F sc__law_unlike (qk rfl) λax A outer s H vs Q E hr h=>have nd:=sc__law_unlike.nd;kZ rfl
  (j9 (qA nd (qC aj hr (j5 (cv 0) (j5 (cv 2) jk)))) (j9 (qA nd (qC aj hr (j5 (cv 1) (j5 (cv 2) jk)))) (jx (kj (W5 (j6 (zQ kqc kv8 (vv 3) kn (kz _))) (W5 (j6 (zQ kqc kv8 (vv 4) kn (kz _))) (kvr (zQ (qw6 hr.units) Zw (vv 3) (vv 4) (kz _))))))))) h
theorem wkr(T:Txt K mg)(bw:jzd P w K mg base)(bm:jze P w K mg base)(cf:kju P w K mg base)(cz:kku P w K mg base)(ac:jwl P w K mg base)(bo:jwk P w K mg base)(b9:jxo P w K mg base)(af:jq2 P w K mg base)(aj:jwz P w K mg base)(F:Fun K "law" "law" vvf f fd):FnOk P w K mg base (CXE P w) 6 f fd ["_law_script"] (spF K mg 1 m_law):=
 qx F sc_law (qk rfl) λax A outer s H vs Q E hr h=>have nd:=sc_law.nd;kZ rfl
  (j9 (qA nd (qC bw hr (j5 (qC ac hr (j5 (cv 0) (j5 kI jk))) jk))) (j9 (qA nd (qC bm hr (j5 (qC ac hr (j5 (cv 0) (j5 kI jk))) (j5 (cv 1) jk)))) (j9 (qA nd (qC bm hr (j5 (qC ac hr (j5 (cv 0) (j5 kI jk))) (j5 (cv 1) jk)))) (j9 (wV (kQ (xV hr.units) z3 (j6 (oM (j6 (qC ac hr (j5 (cv 0) (j5 kI jk)))) ki)) ki (kz _) Kz) (jx (qA nd (qC bo hr (j5 (cv 2) (j5 (k4 (kx (j6 (qC af hr (j5 (qC ac hr (j5 (cv 0) (j5 kI jk))) (j5 kI jk)))) ki)) jk))))) x6) (j9 (qA nd (qC cf hr (j5 (qC ac hr (j5 (cv 0) (j5 kI jk))) (j5 kI jk)))) (j9 (vku (vvt cz (hr.mono ⋯) zV (j5 (cv 2) (j5 (cv 3) jk))) (JX (is:=[5,6]) (JW K (t:=gNs [5,6]) (n:=2) (vq (gn nd) (vq (gn nd) JJ))))) (j9 (wV (kQ (xV hr.units) z3 (vv 5) ks (kz _) Kz) (j9 (ZK (i:=7) (o:=.rt) (k:=2) (R:=[4]) ["_law_sign","_law_name","_law_pool_here"] nd rfl (by trivial) (xw (cv 6)) (λ_ _ _ _ _=>(JX (is:=[0,1]) (JW K (t:=gNs [0,1]) (n:=2) (vq (vY (i:=0) (show(["_law_sign","_law_name","_law_pool_here"]:List Str).Nodup by decide +kernel) rfl (by trivial)) (vq (vY (i:=1) (show(["_law_sign","_law_name","_law_pool_here"]:List Str).Nodup by decide +kernel) rfl (by trivial)) JJ))))) (λ_ _ _ _ _=>Q5) (λ_ _ _ _ _=>(qZ (o:=.no) (j5 (cv 0) (j5 (k4 (kx (vv 2) (j6 (oM (vv 1) ki)))) jk)))) zV ⟨_,_,rfl,rfl⟩ ⋯ (show ∀j∈([4]:List Nat) ,j<11 by decide)) (j9 (wV (kQ (qw6 hr.units) Zw (j6 (qj3 rfl rfl (j6 (qm .rt 2 [] 11 ["_law_sign","_law_name"] (xw (cv 6)) (λhN _ _ _ _ _=>(JX (is:=[0,1]) (JW K (t:=gNs [0,1]) (n:=2) (vq (vY (i:=0) hN rfl (by trivial)) (vq (vY (i:=1) hN rfl (by trivial)) JJ))))) (λ_ _ _ _ _=>Q5) (λ_ _ _ _ _=>(cv 1)))) T.b_len T.b_set)) (j6 (qj3 rfl rfl (j6 (qm .rt 2 [] 11 ["_law_sign","_law_name"] (xw (cv 7)) (λhN _ _ _ _ _=>(JX (is:=[0,1]) (JW K (t:=gNs [0,1]) (n:=2) (vq (vY (i:=0) hN rfl (by trivial)) (vq (vY (i:=1) hN rfl (by trivial)) JJ))))) (λ_ _ _ _ _=>Q5) (λ_ _ _ _ _=>(cv 1)))) T.b_len T.b_set)) (kz _) vz2) (jx (qA nd (cv 6))) x6) (jx (kj (W5 (j6 (qC b9 hr (j5 (cv 2) (j5 (cv 3) (j5 (cv 6) jk))))) (kvr (qC b9 hr (j5 (cv 2) (j5 (cv 3) (j5 (cv 7) jk)))))))))) x6) (j9 (qA nd (oA ki (j6 (oM (j6 (qV xx xJ (j6 (qC ac hr (j5 (cv 0) (j5 kI jk)))) ki)) ki)))) (j9 (ZK (i:=9) (o:=.rt) (k:=1) (R:=[1,4,8]) ["_law_cell","_law_signs_here","_law_pool_here","_law_few"] nd rfl (by trivial) (xw (Q0 (vv 0) (K5 ki) (K5 ki))) (λ_ _ _ _ _=>(Qx (vY (i:=0) (show(["_law_cell","_law_signs_here","_law_pool_here","_law_few"]:List Str).Nodup by decide +kernel) rfl (by trivial)))) (λ_ _ _ _ _=>Q5) (λ_ _ _ _ _=>(qZ (o:=.no) (j5 (k4 (kx (vv 1) (j6 (oM (vv 0) (j6 (qL (vv 1) T.b_len)))))) (j5 (k4 (kx (vv 2) (j6 (oM (j6 (qV xx xJ (vv 0) ki)) (vv 3))))) jk)))) zV ⟨_,_,rfl,rfl⟩ ⋯ (show ∀j∈([1,4,8]:List Nat) ,j<11 by decide)) (j9 (qF (Jv (j6 (oA (j6 (qL (vv 9) T.b_len)) ki)) rfl T.b_range) (gN nd) (jx (wV (QW.pt (vvp (kQ YJ XY (j6 (qC aj hr (j5 (cv 2) (j5 (Q0 (vv 9) QQ (K5 (vv 10))) jk)))) kn (kz _) XW) (qvh (kQ (qw6 hr.units) Zw (j6 (qC aj hr (j5 (cv 2) (j5 (Q0 (vv 9) QQ (K5 (vv 10))) jk)))) (j6 (qC aj hr (j5 (cv 3) (j5 (Q0 (vv 9) QQ (K5 (vv 10))) jk)))) (kz _) vz2)))) (jx (kj (q_C wx7 (λ_=>vkp)))) x6))) (jx (kj (zQ (xV hr.units) z3 (vv 5) ks (kz _)))))))))))))) h
end
theorem all_mk{l:PySem.W.OpenLaw}{w:PySem.World}{K:Frag}{h:Heap}{mg:Str->Option Value}{fa:Addr}(X:K.In h)(G:h.Ns mainGlobals mg)(hfa:mg "law"=some (.ref fa)){cq c8 f8:Value}{br cg:Addr}{db ci:Obj}
  (g0:Gf K "is_small" jxu)
  (g1:Gf K "read_by" kj4)
  (g2:Gf K "stands_behind" jq6)
  (g3:Gf K "plain_lets" jvr)
  (g4:Gf K "is_good_in" jvt)
  (g5:Gf K "agrees" kq2)
  (g6:Gf K "keepers_in" jvs)
  (g7:Gf K "standing_in" jv9)
  (g8:Gf K "first_standings" jkr)
  (g9:Gf K "names_of" jxt)
  (g10:Gf K "held_by_both" jqo)
  (g11:Gf K "room_of" kj3)
  (g12:Gf K "pair_of" kj5)
  (g13:Gf K "read_by_both" jqm)
  (g14:Gf K "steps_from" jvq)
  (g15:Gf K "least_beside" jqn)
  (g16:Gf K "parting_row" jva)
  (g17:Gf K "steps_to" jxr)
  (g18:Gf K "searched" jxs)
  (g19:GfD K "compared" jxv)
  (g20:Gf K "_law_cell_at" jqq)
  (g21:Gf K "_law_stream" jvc)
  (g22:Gf K "_law_signs" jvu)
  (g23:Gf K "_law_fills" jvw)
  (g24:Gf K "_law_case" jwq)
  (g25:Gf K "_law_plain" jvv)
  (g26:Gf K "_law_changed" jqp)
  (g27:Gf K "_law_pool" jwo)
  (g28:Gf K "_law_lets" jwp)
  (g29:Gf K "_law_unlike" jvb)
  (g30:Gf K "law" vvf)
  (q_SMALL_ROOMS:nsIn K mainGlobals "SMALL_ROOMS"=some (some cq)) (r_SMALL_ROOMS:RelV (V.int (12)) cq)
  (q_SMALL_KEEPERS:nsIn K mainGlobals "SMALL_KEEPERS"=some (some c8)) (r_SMALL_KEEPERS:RelV (V.int (3)) c8)
  (q_NOWHERE:nsIn K mainGlobals "NOWHERE"=some (some f8)) (r_NOWHERE:RelV (V.int (-1)) f8)
  (q_FIRST_PAIR:nsIn K mainGlobals "FIRST_PAIR"=some (some (.ref br)))
  (l_FIRST_PAIR:K.lookup br=some db)
  (t_FIRST_PAIR:wz7 db [(V.int 0),(V.int 0),.ref cg])
  (l_FIRST_PAIR_2:K.lookup cg=some ci)
  (t_FIRST_PAIR_2:wz7 ci [])
  (z_all:nsIn K mainGlobals "all"=some none)
  (z_bool:nsIn K mainGlobals "bool"=some none)
  (z_dict:nsIn K mainGlobals "dict"=some none)
  (z_enumerate:nsIn K mainGlobals "enumerate"=some none)
  (z_int:nsIn K mainGlobals "int"=some none)
  (z_isinstance:nsIn K mainGlobals "isinstance"=some none)
  (z_len:nsIn K mainGlobals "len"=some none)
  (z_list:nsIn K mainGlobals "list"=some none)
  (z_min:nsIn K mainGlobals "min"=some none)
  (z_range:nsIn K mainGlobals "range"=some none)
  (z_reversed:nsIn K mainGlobals "reversed"=some none)
  (z_set:nsIn K mainGlobals "set"=some none)
  (z_sorted:nsIn K mainGlobals "sorted"=some none)
  (z_tuple:nsIn K mainGlobals "tuple"=some none)
  : ∃fd:FuncData,(∀(s:Shared) (v:Value),BindsTo s fd ⟨[v],[]⟩ [("_law_script",v)])/\∀base:Heap,K.In base->base.Ns mainGlobals mg->FnOk l.prog w K mg base (CXE l.prog w) 6 fa fd ["_law_script"] (spF K mg 1 m_law):=by
 have T:Txt K mg:=⟨Y3 X G z_all,Y3 X G z_bool,Y3 X G z_dict,Y3 X G z_enumerate,Y3 X G z_int,Y3 X G z_isinstance,Y3 X G z_len,Y3 X G z_list,Y3 X G z_min,Y3 X G z_range,Y3 X G z_reversed,Y3 X G z_set,Y3 X G z_sorted,Y3 X G z_tuple,⟨_,PySem.W.mg_of X G q_SMALL_ROOMS,r_SMALL_ROOMS⟩,⟨_,PySem.W.mg_of X G q_SMALL_KEEPERS,r_SMALL_KEEPERS⟩,⟨_,PySem.W.mg_of X G q_NOWHERE,r_NOWHERE⟩,⟨_,⟨_,PySem.W.mg_of X G q_FIRST_PAIR,(show RelV (.ref br) _ from rfl)⟩,λH=>(wzd (qwd l_FIRST_PAIR t_FIRST_PAIR) (vvk wq (vvk wq (vvk (wzd (qwd l_FIRST_PAIR_2 t_FIRST_PAIR_2) wj7) wj7))))⟩⟩;refine g30.law X G hfa fun {base _ _} F=>?_
 have bv:kkt l.prog w K mg base:=g0.d X G (kz0 T );have b7:kjt l.prog w K mg base:=g1.d X G (qki T );have be:jw3 l.prog w K mg base:=g2.d X G (jzk T b7);have bu:jza l.prog w K mg base:=g3.d X G (kqf T be);have bi:jzc l.prog w K mg base:=g4.d X G (kqh T );have dv:qk2 l.prog w K mg base:=g5.d X G (qw7 T bi);have bj:jzb l.prog w K mg base:=g6.d X G (kqg T );have ba:jxm l.prog w K mg base:=g7.d X G (kjz T );have ag:jkv l.prog w K mg base:=g8.d X G (jx8 T bj ba);have aq:jz5 l.prog w K mg base:=g9.d X G (kxz T );have am:jqu l.prog w K mg base:=g10.d X G (kjc T aq);have cm:kxe l.prog w K mg base:=g11.d X G (qkh T );have dk:kxf l.prog w K mg base:=g12.d X G (qkj T aq cm);have ak:jqt l.prog w K mg base:=g13.d X G (kja T b7);have bt:jz9 l.prog w K mg base:=g14.d X G (kqe T ag am dk ak);have bn:jwj l.prog w K mg base:=g15.d X G (kjb T );have bp:jxn l.prog w K mg base:=g16.d X G (kk0 T ag am ak bn);have cy:kkr l.prog w K mg base:=g17.d X G (kxx T );have cw:kks l.prog w K mg base:=g18.d X G (kxy T bt dv bp cy);have cz:kku l.prog w K mg base:=g19.n X G (kz1 T cw bv);have ac:jwl l.prog w K mg base:=g20.d X G (kje T );have af:jq2 l.prog w K mg base:=g21.d X G (kk2 T );have bw:jzd l.prog w K mg base:=g22.d X G (kqi T af);have bz:jzf l.prog w K mg base:=g23.d X G (kqk T );have az:jx0 l.prog w K mg base:=g24.d X G (kw6 T bz);have bm:jze l.prog w K mg base:=g25.d X G (kqj T af az);have bo:jwk l.prog w K mg base:=g26.d X G (kjd T az);have cf:kju l.prog w K mg base:=g27.d X G (kw4 T );have aj:jwz l.prog w K mg base:=g28.d X G (kw5 T bu);have b9:jxo l.prog w K mg base:=g29.d X G (kk1 T aj);exact wkr T bw bm cf cz ac bo b9 af aj F
end Nk44
namespace PySem.W.Fast
def tw16336687528396421593:=()
def tw15924520226014642294:=()
def tw994556851494157848:=()
def tw17953610153214631902:=()
def tw3176319680910778737:=()
def tw7386183224221021097:=()
def tw17222882679028327658:=()
def tw3693068069810194651:=()
def tw233766523599099508:=()
def tw13246296206547490039:=()
def tw11318068598210027180:=()
def tw15408614291771632627:=()
def tw17527050482467694020:=()
def tw4675352493069853212:=()
def tw8312267371752745445:=()
def tw4222995451322494251:=()
def tw11657900650825248791:=()
def tw5330278354997105454:=()
def tw14748710401898523612:=()
def tw4450612973021639023:=()
def tw14329237627104892389:=()
def tw16535546782727184104:=()
def tw14932842845059389962:=()
def tw5898791910009000132:=()
def tw4231225752835112585:=()
def tw9033246328984149396:=()
def tw6640902273147733799:=()
def tw13423174964377765659:=()
def tw18191804583061081441:=()
def tw13090241834929701890:=()
def tw6511226836894493549:=()
def tw1834407300249910547:=()
def tw868849689982296213:=()
def tw2568932745654507377:=()
def tw13947696098710989760:=()
def tw1598893810432468453:=()
def tw14466272768774395798:=()
def tw8522965561498349760:=()
def tw4627316691202832202:=()
def tw17670457756534310961:=()
def tw118362259803958052:=()
def tw5822454597993257487:=()
def tw2965864991205246928:=()
def tw1526802953472391013:=()
def tw8609656368820539609:=()
def tw884683557025476980:=()
def tw7223075141288614274:=()
def tw192256507396426210:=()
def tw554168335476310291:=()
def tw9782904930441129982:=()
def tw8728896791695716381:=()
def tw7408053260649937166:=()
def tw969903176250275726:=()
def tw10555523138668179612:=()
def tw14719070847439808435:=()
def tw13540621748582176507:=()
def tw16869612581963065281:=()
def tw13653320397802519786:=()
def tw9941075108229228243:=()
def tw16376870503844153065:=()
def tw12750855133749676727:=()
def tw8225973314265062574:=()
def tw5163894734314298784:=()
def tw10345995912093111741:=()
def tw3718795394064508160:=()
def tw2539262434348914101:=()
def tw11491747194715429056:=()
def tw17968121615835084144:=()
def tw3997292950239486394:=()
def tw14978582002684935570:=()
def tw4941330935521636926:=()
def tw11261430701249991062:=()
def tw4892033709736557830:=()
def tw14193895295274389782:=()
def tw17327978555013604382:=()
def tw7576645721338602637:=()
def tw11768957740489037598:=()
def tw8916114121255022222:=()
def tw16133150982474742196:=()
def tw17583682121658901038:=()
def tw1909204231046446127:=()
def tw14798008478629831874:=()
def tw16747169110227210286:=()
def tw820470583267994791:=()
def tw1472128706498860059:=()
def tw5577562885334652319:=()
def tw10571572747178864776:=()
def tw521674754506804983:=()
def tw1625166418255746223:=()
def tw2220643508285794667:=()
def tw1254204737766209280:=()
def tw14227557481631362113:=()
def tw6292174674197130535:=()
def tw11645960275218963023:=()
def tw7061182120563576377:=()
def tw4016409083114534802:=()
end PySem.W.Fast
open PySem PySem.W PyProof.Rows
set_option maxRecDepth 100000 in
set_option maxHeartbeats 0 in
theorem PySem.Challenge.cw_freshrooms_k44_rows_tell_it_holds : PySem.Challenge.rw_freshrooms_k44_rows_tell_it.Holds := by
 w_on;o_law;k_head;(case hw=>w_witness2)
 k_fill
 refine Q.walkQ (l:=PySem.Challenge.rw_freshrooms_k44_rows_tell_it) (n:=63) (k:=6) (x:="_law_script") (f:=Nk44.m_law) rfl ⋯ rfl ⟨rfl,⋯,⋯,rfl⟩ (fun w h Y=>PySem.W.kIn_of Y) ?F Nk44.law_true
 case F =>
  intro w mg fa h KX G hmg
  refine' Nk44.all_mk KX G hmg ?_ ?_ ?_ ?_ ?_ ?_ ?_ ?_ ?_ ?_ ?_ ?_ ?_ ?_ ?_ ?_ ?_ ?_ ?_ ?_ ?_ ?_ ?_ ?_ ?_ ?_ ?_ ?_ ?_ ?_ ?_ ?q_SMALL_ROOMS ?r_SMALL_ROOMS ?q_SMALL_KEEPERS ?r_SMALL_KEEPERS ?q_NOWHERE ?r_NOWHERE ?q_FIRST_PAIR ?l_FIRST_PAIR ?t_FIRST_PAIR ?l_FIRST_PAIR_2 ?t_FIRST_PAIR_2 ?z_all ?z_bool ?z_dict ?z_enumerate ?z_int ?z_isinstance ?z_len ?z_list ?z_min ?z_range ?z_reversed ?z_set ?z_sorted ?z_tuple
  all_goals try (refine' Q.Gf.mk ?a ?b ?c ?d;(case a=>k_is);(case b=>k_is);(case c=>k_is);(case d=>k_is))
  all_goals try (refine' Q.GfD.mk ?a ?b ?c ?d ?e ?f;(case a=>k_is);(case b=>k_is);(case c=>k_is);(case d=>k_is);(case e=>k_is);(case f=>rfl))
  (case q_SMALL_ROOMS=>k_is)
  (case r_SMALL_ROOMS=>exact ⟨_,rfl⟩)
  (case q_SMALL_KEEPERS=>k_is)
  (case r_SMALL_KEEPERS=>exact ⟨_,rfl⟩)
  (case q_NOWHERE=>k_is)
  (case r_NOWHERE=>exact ⟨_,rfl⟩)
  (case q_FIRST_PAIR=>k_is)
  (case l_FIRST_PAIR=>k_is)
  (case t_FIRST_PAIR=>exact ⟨rfl,rfl,_,_,rfl,⋯,(.cons ⟨_,rfl⟩ (.cons ⟨_,rfl⟩ (.cons rfl .nil)))⟩)
  (case l_FIRST_PAIR_2=>k_is)
  (case t_FIRST_PAIR_2=>exact ⟨rfl,rfl,_,_,rfl,⋯,.nil⟩)
  (case z_all=>k_is)
  (case z_bool=>k_is)
  (case z_dict=>k_is)
  (case z_enumerate=>k_is)
  (case z_int=>k_is)
  (case z_isinstance=>k_is)
  (case z_len=>k_is)
  (case z_list=>k_is)
  (case z_min=>k_is)
  (case z_range=>k_is)
  (case z_reversed=>k_is)
  (case z_set=>k_is)
  (case z_sorted=>k_is)
  (case z_tuple=>k_is)
