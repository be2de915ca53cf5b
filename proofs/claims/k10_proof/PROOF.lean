import PyProof.Rows.All
import Wide.All
import OpenK.AllK
import Wide.FinOn
import Lean
import PySem.Challenge.RW_freshrooms_k10_machines_copied
set_option Elab.async false
set_option linter.all false
set_option bootstrap.genMatcherCode false
set_option compiler.extract_closed false
set_option maxRecDepth 100000
theorem Ŕq(_:True:=by rfl):True:=trivial
theorem Ŕq.z:True:=trivial
open Ŕq renaming _auto_1→Ŕ
theorem ŕq(_:True:=by decide):True:=trivial
theorem ŕq.z:True:=trivial
open ŕq renaming _auto_1→ŕ
theorem Ŗq(_:True:=by intro _;rfl):True:=trivial
theorem Ŗq.z:True:=trivial
open Ŗq renaming _auto_1→Ŗ
theorem ŗq(_:True:=by decide +kernel):True:=trivial
theorem ŗq.z:True:=trivial
open ŗq renaming _auto_1→ŗ
theorem Řq(_:True:=by first|exact .inl rfl|exact .inr rfl|assumption):True:=trivial
theorem Řq.z:True:=trivial
open Řq renaming _auto_1→Ř
theorem řq(_:True:=by first|exact Or.inl rfl|exact Or.inr (Or.inl rfl)|exact Or.inr (Or.inr rfl)):True:=trivial
theorem řq.z:True:=trivial
open řq renaming _auto_1→ř
theorem Śq(_:True:=by first|exact Or.inl rfl|exact Or.inr rfl):True:=trivial
theorem Śq.z:True:=trivial
open Śq renaming _auto_1→Ś
theorem oq9{α : Type _}{a b : α}(h:some a=some b):a=b:=Option.some.inj h
theorem lr9{α : Type _}{a : α}{b : List α}(c : List α)(h:a ∈ b):a ∈ c ++ b:=List.mem_append_right c h
theorem ll9{α : Type _}{a : α}{b : List α}(c : List α)(h:a ∈ b):a ∈ b ++ c:=List.mem_append_left c h
theorem lc9{α : Type _}{a : α}{l : List α}(b : α)(h:a ∈ l):a ∈ b::l:=List.mem_cons_of_mem b h
section
open PySem PySem.Spec PyProof.Rows
theorem X0:type_of% @wpAny_bind:=@wpAny_bind
theorem X1:type_of% @Heap.get?_push_of_some:=@Heap.get?_push_of_some
theorem X2:type_of% @List.getElem?_eq_getElem:=@List.getElem?_eq_getElem
theorem X3:type_of% @List.mem_cons_self:=@List.mem_cons_self
theorem X4:type_of% @wpAny_pure:=@wpAny_pure
theorem X5:type_of% @List.nodup_append:=@List.nodup_append
theorem X6:type_of% @List.length_map:=@List.length_map
theorem X7:type_of% @List.size_toArray:=@List.size_toArray
theorem X8:type_of% @Heap.get?_push_size:=@Heap.get?_push_size
theorem X9:type_of% @List.getD_eq_getElem?_getD:=@List.getD_eq_getElem?_getD
theorem Xa:type_of% @Heap.lt_size:=@Heap.lt_size
theorem Xb:type_of% @Array.length_toList:=@Array.length_toList
theorem Xd:type_of% @Nat.le_refl:=@Nat.le_refl
theorem Xe:type_of% @List.not_mem_nil:=@List.not_mem_nil
theorem Xf:type_of% @if_pos:=@if_pos
theorem Xg:type_of% @Nat.lt_of_lt_of_le:=@Nat.lt_of_lt_of_le
theorem Xh:type_of% @List.mem_cons:=@List.mem_cons
theorem Xi:type_of% @Int.emod_lt_of_pos:=@Int.emod_lt_of_pos
theorem Xj:type_of% @List.mem_map_of_mem:=@List.mem_map_of_mem
theorem Xk:type_of% @List.getElem?_map:=@List.getElem?_map
theorem Xl:type_of% @Nat.ne_of_lt:=@Nat.ne_of_lt
theorem Xm:type_of% @if_neg:=@if_neg
theorem Xn:type_of% @Int.emod_nonneg:=@Int.emod_nonneg
theorem Xp:type_of% @List.length_cons:=@List.length_cons
theorem Xq:type_of% @wpAny_newObj_type:=@wpAny_newObj_type
theorem Xr:type_of% @List.getElem?_set_ne:=@List.getElem?_set_ne
theorem Xs:type_of% @List.append_assoc:=@List.append_assoc
theorem Xu:type_of% @PySem.W.mg_none_of:=@PySem.W.mg_none_of
theorem Xv:type_of% @wpAny_call_entry:=@wpAny_call_entry
theorem Xw:type_of% @Int.toNat_natCast:=@Int.toNat_natCast
theorem Xx:type_of% @Heap.get?_update_self:=@Heap.get?_update_self
theorem Xy:type_of% @wpAny_field:=@wpAny_field
theorem Xz:type_of% @wpAny_callSpecial?_slot:=@wpAny_callSpecial?_slot
theorem Y0:type_of% @List.getElem?_set_self:=@List.getElem?_set_self
theorem Y1:type_of% @List.nodup_nil:=@List.nodup_nil
theorem Y2:type_of% @List.map_map:=@List.map_map
theorem Y3:type_of% @List.length_append:=@List.length_append
theorem Y4:type_of% @Heap.SameBut.update:=@Heap.SameBut.update
theorem Y5:type_of% @PySem.W.kia_one:=@PySem.W.kia_one
theorem Y6:type_of% @Nat.le_trans:=@Nat.le_trans
theorem Y7:type_of% @List.length_range:=@List.length_range
theorem Y8:type_of% @Nat.lt_irrefl:=@Nat.lt_irrefl
theorem Y9:type_of% @List.append_nil:=@List.append_nil
theorem Ya:type_of% @List.map_append:=@List.map_append
theorem Yb:type_of% @List.getElem_mem:=@List.getElem_mem
theorem Yc:type_of% @List.length_replicate:=@List.length_replicate
theorem Yd:type_of% @decide_eq_true:=@decide_eq_true
theorem Ye:type_of% @wpAny_setField:=@wpAny_setField
theorem Yf:type_of% @decide_eq_false:=@decide_eq_false
theorem Yg:type_of% @List.length_take:=@List.length_take
theorem Yh:type_of% @PyProof.Rows.callWith_type1:=@PyProof.Rows.callWith_type1
theorem Yi:type_of% @wpAny_holding:=@wpAny_holding
theorem Yj:type_of% @wpAny_truthy_bool:=@wpAny_truthy_bool
theorem Yk:type_of% @Heap.size_push:=@Heap.size_push
theorem Yl:type_of% @PySem.mem_of_lookup:=@PySem.mem_of_lookup
theorem Ym:type_of% @List.getElem?_eq_none:=@List.getElem?_eq_none
theorem Yn:type_of% @List.mem_of_getElem?:=@List.mem_of_getElem?
theorem Yo:type_of% @wpAny_seqItems:=@wpAny_seqItems
theorem Yp:type_of% @List.length_set:=@List.length_set
theorem Yq:type_of% @Heap.get?_update_ne:=@Heap.get?_update_ne
theorem Yr:type_of% @List.all_eq_true:=@List.all_eq_true
theorem Ys:type_of% @Obj.data_mapFields:=@Obj.data_mapFields
theorem Yt:type_of% @Obj.isFreed_of_fields:=@Obj.isFreed_of_fields
theorem Yu:type_of% @wpAny_pyIter_list:=@wpAny_pyIter_list
theorem Yv:type_of% @List.flatten_cons:=@List.flatten_cons
theorem Yw:type_of% @Nat.lt_succ_of_lt:=@Nat.lt_succ_of_lt
theorem Yx:type_of% @wpAny_setState_of:=@wpAny_setState_of
theorem Yy:type_of% @PySem.W.mg_of:=@PySem.W.mg_of
theorem Yz:type_of% @List.lookup_cons:=@List.lookup_cons
theorem Z0:type_of% @wpAny_askSetting:=@wpAny_askSetting
theorem Z1:type_of% @Nat.zero_le:=@Nat.zero_le
theorem Z2:type_of% @wpAny_rule:=@wpAny_rule
end
noncomputable section
namespace L2
open PySem PySem.Spec PyProof.Rows
abbrev Key:=Sum Int Str
def vvw:Key->Value->Bool
 |.inl k,v=>Value.isInt k v
 |.inr x,v=>Value.isStrOf x v
def keyH(w:World):Key->Int
 |.inl k=>hashInt k
 |.inr x=>hashStr w x
theorem JK:∀{k:Key} {v:Value},vvw k v=true->(∃i t,k=Sum.inl i/\v=Value.int i t)\/(∃x t,k=Sum.inr x/\v=Value.str x t)
 |.inl i,v,h=>by
  obtain⟨t,e⟩:=Value.isInt_shape (k:=i) (v:=v) h;exact .inl ⟨i,t,rfl,e⟩
 |.inr x,v,h=>by
  obtain⟨t,e⟩:=Value.isStrOf_shape (x:=x) (v:=v) h;exact .inr ⟨x,t,rfl,e⟩
theorem vvv(a b:Int):decide ((Sum.inl a:Key)=Sum.inl b)=(a==b):=by
 by_cases e:a=b
 ·subst e;simp
 ·have h:¬(Sum.inl a:Key)=Sum.inl b:=λq=>e (Sum.inl.inj q)
  rw[Yf h];exact(beq_eq_false_iff_ne.mpr e).symm
theorem vvs(a b:Str):decide ((Sum.inr a:Key)=Sum.inr b)=decide (a=b):=by
 by_cases e:a=b
 ·subst e;simp
 ·have h:¬(Sum.inr a:Key)=Sum.inr b:=λq=>e (Sum.inr.inj q)
  rw[Yf h,Yf e]
theorem vvu(a:Int)(b:Str):decide ((Sum.inl a:Key)=Sum.inr b)=false:=Yf (λq=>nomatch q)
theorem vvt(a:Str)(b:Int):decide ((Sum.inr a:Key)=Sum.inl b)=false:=Yf (λq=>nomatch q)
noncomputable def kqa(prog:Program)(w:World):PySem.KeyKind prog w Key where
 is:=vvw
 hash:=keyH w
 inj:=λv a b ha hb=>by
  rcases JK ha with⟨i,t,rfl,rfl⟩|⟨x,t,rfl,rfl⟩
  ·rcases JK hb with⟨j,u,rfl,e⟩|⟨y,u,rfl,e⟩
   ·injection e with e1 _;rw[e1]
   ·exact nomatch e
  ·rcases JK hb with⟨j,u,rfl,e⟩|⟨y,u,rfl,e⟩
   ·exact nomatch e
   ·injection e with e1 _;rw[e1]
 byValue:=λk v h=>by
  rcases JK h with⟨i,t,rfl,rfl⟩|⟨x,t,rfl,rfl⟩<;>rfl
 pyHash:=λhv h=>by
  rcases JK hv with⟨i,t,rfl,rfl⟩|⟨x,t,rfl,rfl⟩
  ·exact wpAny_pyHash_int h
  ·exact wpAny_pyHash_str h
 eqBool:=λhu hv h=>by
  rcases JK hu with⟨i,t,rfl,rfl⟩|⟨x,t,rfl,rfl⟩
  ·rcases JK hv with⟨j,u,rfl,rfl⟩|⟨y,u,rfl,rfl⟩
   ·rw[vvv]at h;exact wpAny_eqBool_int h
   ·rw[vvu]at h;exact SeqAt.EqAt.int_str i t y u _ _ _ _ h
  ·rcases JK hv with⟨j,u,rfl,rfl⟩|⟨y,u,rfl,rfl⟩
   ·rw[vvt]at h;exact SeqAt.EqAt.str_int x t j u _ _ _ _ h
   ·rw[vvs]at h;exact wpAny_eqBool_str h
 «strs»:=λk x t v h=>by
  rcases JK h with⟨i,u,rfl,e⟩|⟨y,u,rfl,e⟩
  ·exact nomatch e
  ·injection e with e1 _;subst e1;cases v<;>rfl
inductive V where
 |non|bl (b:Bool)|int (i:Int)|str (x:Str)|byt (b:Array UInt8)|flt (b:UInt64)|ref (a:Addr)|ty (n:String)
 deriving DecidableEq
noncomputable def RelV:V->Value->Prop
 |.non,u=>u=Value.none
 |.bl b,u=>u=Value.bool b
 |.int i,u=>∃t,u=Value.int i t
 |.str x,u=>∃t,u=Value.str x t
 |.byt b,u=>∃t,u=Value.bytes b t
 |.flt b,u=>∃t,u=Value.float b t
 |.ref a,u=>u=Value.ref a
 |.ty n,u=>u=Value.type n
abbrev Vals:List V->List Value->Prop:=Paired RelV
theorem Vals.length{xs:List V}{us:List Value}(r:Vals xs us):xs.length=us.length:=Paired.length r
theorem Vals.get:∀{xs:List V} {us:List Value} {i:Nat} {x:V},Vals xs us->xs[i]?=some x->∃u,us[i]?=some u/\RelV x u
 |_,_,_,_,.nil,e=>by simp at e
 |_,_,0,_,.cons r _,e=>by simp at e;subst e;exact⟨_,rfl,r⟩
 |_,_,i+1,x,.cons _ t,e=>by
  obtain⟨u,h1,h2⟩:=Vals.get (i:=i) (x:=x) t (by simpa using e);exact⟨u,by simpa using h1,h2⟩
theorem Vals.append:∀{xs ys:List V} {us ws:List Value},Vals xs us->Vals ys ws->Vals (xs++ys) (us++ws)
 |_,_,_,_,.nil,s=>s
 |_,_,_,_,.cons r t,s=>.cons r (Vals.append t s)
theorem Vals.take:∀{xs:List V} {us:List Value} (n:Nat),Vals xs us->Vals (xs.take n) (us.take n)
 |_,_,0,_=>.nil
 |_,_,_+1,.nil=>.nil
 |_,_,n+1,.cons r t=>.cons r (Vals.take n t)
theorem Vals.drop:∀{xs:List V} {us:List Value} (n:Nat),Vals xs us->Vals (xs.drop n) (us.drop n)
 |_,_,0,r=>r
 |_,_,_+1,.nil=>.nil
 |_,_,n+1,.cons _ t=>Vals.drop n t
def wj5:Option V->Option Value->Prop
 |some v,some u=>RelV v u
 |none,none=>True
 |_,_=>False
def KV{κ:Type}:List (κ×V)->List (κ×Value)->Prop:=Paired λ(p:κ×V) (q:κ×Value)=>p.1=q.1/\RelV p.2 q.2
def kV:Key->V
 |.inl i=>.int i
 |.inr x=>.str x
inductive HO where
 |lst (xs:List V)
 |tup (xs:List V)
 |dK (ai:List (Key×V))|dT (ai:List (List Key×V))
 |set (S:Int->Bool) (n:Nat)
 |ins (C dx:Addr) (fs:List (Str×V))
 |own (x:Addr)
 |xd (fs:List (Str×V))
 |met (f x:Addr)
 |rng (lo hi:Int)
 |frz (o:Obj) (u:HO)
 |tbl (ps:Array Value)
 |ext (φ:Heap->Prop)
abbrev Hp:=Addr->Option HO
noncomputable def IsTupD(h:Heap)(a:Addr)(items:Array Value):Prop:=∃o,h.get? a=some o/\o.cls=.type "tuple"/\o.dict=none/\∃n,o.data=.seq items n
theorem IsTupD.tup{h:Heap}{a:Addr}{items:Array Value}(p:IsTupD h a items):IsTup h a items:=by
 obtain⟨o,e,c,_,n,d⟩:=p;exact⟨o,e,c,n,d⟩
theorem IsTupD.new(h:Heap)(xs:Array Value):IsTupD (h.push { cls:=.type "tuple",data:=.seq xs }) h.objs.size xs:=⟨_,X8 _ rfl,rfl,rfl,0,rfl⟩
def upd(H:Hp)(a:Addr)(o:HO):Hp:=λb=>if b=a then some o else H b
theorem xX{H:Hp}{a:Addr}{o:HO}:upd H a o a=some o:=by unfold upd;rw[Xf rfl]
theorem kX{H:Hp}{a b:Addr}{o:HO}(h:b≠a):upd H a o b=H b:=by unfold upd;rw[Xm h]
theorem zZ{H:Hp}{a b:Addr}{o:HO}(h:H a=some o)(h':H b=none):a≠b:=by
 intro e;subst e;rw[h]at h';cases h'
section
variable (P:Program)(w:World)
noncomputable def ObjOk(H : Hp)(h : Heap)(a : Addr): HO -> Prop
  |.lst xs=>xs.length<=sizeLine /\ ∃(aa : List Value) (n : Nat), Vals xs aa /\ h.get? a = some { cls:= .type "list", data:= .seq aa.toArray n }
  |.tup xs=>xs.length<=sizeLine /\ ∃aa : List Value, Vals xs aa /\ IsTupD h a aa.toArray
  |.dK ai=>ai.length<=sizeLine /\ (a==sysModules) = false /\ ∃vs, KV ai vs /\ h.DictOf (kqa P w) a vs
  |.dT ai=>ai.length<=sizeLine /\ (a==sysModules) = false /\ ∃xs : List (List Key × Addr × Value),
      Paired (λ(p : List Key × V) (q : List Key × Addr × Value)=>p.1 = q.1 /\ H q.2.1 = some (.tup (p.1.map kV)) /\ RelV p.2 q.2.2) ai xs /\
      ∃o es ep, h.get? a = some o /\ o.ExactDict /\ o.data = .dict es ep /\ es.toList = xs.map (entryOfKey (tupleKind (kqa P w))) /\ (xs.map (·.1)).Nodup
  |.set S n=>h.SetOf (intKind P w) a S n
  |.ins C dx fs=>H dx = some (.own a) /\ fs.length<=1000 /\ dx≠a /\ h.get? a = some (PySem.W.instObj C dx) /\
      ∃mA, h.Ns1 dx mA /\ (∀f, wj5 (fs.lookup f) (mA f)) /\ PySem.Within mA (fs.map (·.1))
  |.own _=> ∃o, h.get? a = some o
  |.xd fs=> ∃mA, h.Ns1 a mA /\ ∀f, wj5 (fs.lookup f) (mA f)
  |.rng lo hi=> ∃t u v, h.get? a = some { cls:= .type "range", data:= .fields #[.int lo t, .int hi u, .int 1 v] }
  |.frz o u=>h.get? a = some o /\ ObjOk H h a u
  |.tbl ps=>h.get? a = some { cls:= .none, data:= .fields ps }
  |.met f x=>h.get? a = some (PySem.W.methodObj (.ref f) (.ref x))
  |.ext φ=>φ h /\ (∃o, h.get? a = some o) /\ ∀h1 h2 : Heap, φ h1 -> (∀o, h1.get? a = some o -> h2.get? a = some o) -> φ h2
def HOk(H:Hp)(h:Heap):Prop:=∀a o,H a=some o->ObjOk P w H h a o
end
section
variable {P:Program}{w:World}{H H':Hp}{h h':Heap}{a:Addr}{o:HO}
theorem ObjOk.lt(x:ObjOk P w H h a o):a<h.objs.size:=by
 cases o with
 |lst xs=>obtain⟨_,_,_,_,e⟩:=x;exact Xa e
 |tup xs=>obtain⟨_,_,_,p⟩:=x;exact p.tup.lt
 |dK ai=>obtain⟨_,_,_,_,o,_,_,e,_⟩:=x;exact Xa e
 |dT ai=>obtain⟨_,_,_,_,o,_,_,e,_⟩:=x;exact Xa e
 |set S n=>obtain⟨o,_,_,_,e,_⟩:=x;exact Xa e
 |ins C dx fs=>obtain⟨_,_,_,e,_⟩:=x;exact Xa e
 |own y=>obtain⟨_,e⟩:=x;exact Xa e
 |xd fs=>obtain⟨_,⟨_,_,_,e,_⟩,_⟩:=x;exact Xa e
 |rng lo hi=>obtain⟨_,_,_,e⟩:=x;exact Xa e
 |frz ob u=>obtain⟨e,_⟩:=x;exact Xa e
 |tbl ps=>exact Xa (show h.get? a=some _ from x)
 |met f y=>exact Xa (show h.get? a=some _ from x)
 |ext φ=>obtain⟨_,⟨_,e⟩,_⟩:=x;exact Xa e
theorem Paired.mapP{α β:Type}{F G:α->β->Prop}:∀{l₁:List α} {l₂:List β},Paired F l₁ l₂->(∀a b,F a b->G a b)->Paired G l₁ l₂
 |_,_,.nil,_=>.nil
 |_,_,.cons r t,f=>.cons (f _ _ r) (Paired.mapP t f)
theorem ObjOk.stay(x:ObjOk P w H h a o)(k:∀b u,(b=a\/H b=some (.own a))->h.get? b=some u->h'.get? b=some u)
  (ho:∀b,H b=some (.own a)->H' b=some (.own a)) (ht:∀b xs,H b=some (.tup xs)->H' b=some (.tup xs)):ObjOk P w H' h' a o:=by
 induction o with
 |lst xs=>obtain⟨z,aa,n,r,e⟩:=x;exact⟨z,aa,n,r,k _ _ (.inl rfl) e⟩
 |tup xs=>obtain⟨z,aa,r,ob,e,c⟩:=x;exact⟨z,aa,r,ob,k _ _ (.inl rfl) e,c⟩
 |dK ai=>obtain⟨z,y,vs,r,ob,es,ep,e,c⟩:=x;exact⟨z,y,vs,r,ob,es,ep,k _ _ (.inl rfl) e,c⟩
 |dT ai=>
  obtain⟨z,y,xs,r,ob,es,ep,e,c⟩:=x;exact⟨z,y,xs,Paired.mapP r λp q z=>⟨z.1,ht _ _ z.2.1,z.2.2⟩,ob,es,ep,k _ _ (.inl rfl) e,c⟩
 |set S n=>obtain⟨ob,es,ep,t,e,c⟩:=x;exact⟨ob,es,ep,t,k _ _ (.inl rfl) e,c⟩
 |ins C dx fs=>
  obtain⟨d,z,ne,e,mA,⟨od,es,ep,e2,c⟩,r⟩:=x;exact⟨ho _ d,z,ne,k _ _ (.inl rfl) e,mA,⟨od,es,ep,k _ _ (.inr d) e2,c⟩,r⟩
 |own y=>obtain⟨ob,e⟩:=x;exact⟨ob,k _ _ (.inl rfl) e⟩
 |xd fs=>obtain⟨mA,⟨od,es,ep,e,c⟩,r⟩:=x;exact⟨mA,⟨od,es,ep,k _ _ (.inl rfl) e,c⟩,r⟩
 |rng lo hi=>obtain⟨t,u,v,e⟩:=x;exact⟨t,u,v,k _ _ (.inl rfl) e⟩
 |frz ob u ih=>obtain⟨e,q⟩:=x;exact⟨k _ _ (.inl rfl) e,ih q⟩
 |tbl ps=>
  have e:h.get? a=some { cls:=.none,data:=.fields ps }:=x;show h'.get? a=some { cls:=.none,data:=.fields ps };exact k a _ (.inl rfl) e
 |met f y=>
  have e:h.get? a=some (PySem.W.methodObj (.ref f) (.ref y)):=x;show h'.get? a=some (PySem.W.methodObj (.ref f) (.ref y));exact k a _ (.inl rfl) e
 |ext φ=>obtain⟨p,⟨o,e⟩,st⟩:=x;exact⟨st _ _ p λo q=>k _ _ (.inl rfl) q,⟨o,k _ _ (.inl rfl) e⟩,st⟩
theorem HOk.lt(x:HOk P w H h)(e:H a=some o):a<h.objs.size:=(x a o e).lt
theorem HOk.fresh(x:HOk P w H h)(e:h.objs.size<=a):H a=none:=by
 cases q:H a with
 |none=>rfl
 |some u=>exact absurd (Xg (x.lt q) e) (Y8 _)
theorem HOk.kept(x:HOk P w H h)(k:∀b u,h.get? b=some u->h'.get? b=some u):HOk P w H h':=λa o e=>
 (x a o e).stay (λb u _ q=>k b u q) (λ_ q=>q) λ_ _ q=>q
theorem HOk.laid(x:HOk P w H h)(k:∀b u,h.get? b=some u->h'.get? b=some u)(hp:h.objs.size<=a)(new:ObjOk P w (upd H a o) h' a o):HOk P w (upd H a o) h':=λb u e=>by
 have hn:=x.fresh hp
 by_cases hb:b=a
 ·subst hb;rw[xX]at e;cases e;exact new
 ·rw[kX hb]at e;exact(x b u e).stay (λc v _ q=>k c v q) (λc q=>by rw[kX (zZ q hn)];exact q) λc xs q=>by rw[kX (zZ q hn)];exact q
end
def Rd(H:Hp)(a:Addr)(u:HO):Prop:=H a=some u\/∃o,H a=some (.frz o u)
theorem Rd.ok{P:Program}{w:World}{H:Hp}{h:Heap}{a:Addr}{u:HO}(r:Rd H a u)(x:HOk P w H h):ObjOk P w H h a u:=by
 rcases r with r|⟨o,r⟩
 ·exact x a u r
 ·obtain⟨_,q⟩:=x a _ r;exact q
noncomputable def Mut:Option HO->Prop
 |some (.lst _)=>True
 |some (.dK _)=>True
 |some (.dT _)=>True
 |some (.set _ _)=>True
 |some (.ins _ _ _)=>True
 |some (.ext _)=>True
 |_=>False
section
variable {P:Program}{w:World}{H:Hp}{h h':Heap}{x e:Addr}{o':HO}
theorem HOk.write(ok:HOk P w H h)(mu:Mut (H x))(he:e=x\/H e=some (.own x))(k:∀b u,b≠e->h.get? b=some u->h'.get? b=some u)(mr:∃u,h'.get? e=some u)
  (new:ObjOk P w (upd H x o') h' x o'):HOk P w (upd H x o') h':=λb u q=>by
 have om:∀c y,H c=some (.own y)->c≠x:=λc y r z=>by subst z;rw[r]at mu;exact mu
 have ntup:∀c xs,H c=some (.tup xs)->c≠x:=λc xs r z=>by subst z;rw[r]at mu;exact mu
 by_cases hb:b=x
 ·subst hb;rw[xX]at q;cases q;exact new
 ·rw[kX hb]at q
  by_cases hbe:b=e
  ·have q':H b=some (.own x):=by
    rcases he with z|z
    ·exact absurd (hbe.trans z) hb
    ·rw[hbe];exact z
   rw[q]at q';cases q';obtain⟨v,hv⟩:=mr;exact⟨v,by rw[hbe];exact hv⟩
  ·refine(ok b u q).stay (λc v hc r=>k c v ?_ r) (λc r=>by rw[kX (om c b r)];exact r) λc xs r=>by rw[kX (ntup c xs r)];exact r
   rcases hc with rfl|hc
   ·exact hbe
   ·rintro rfl;rcases he with z|z
    ·exact om c b hc z
    ·rw[hc]at z;cases z;exact hb rfl
end
structure Un (fs ex:List Addr)(H H':Hp)(h h':Heap):Prop where
 keep:∀b o,h.get? b=some o->H b=none->b∉fs->b∉ex->h'.get? b=some o
 slot:∀b o,h.get? b=some o->H b=none->b∈fs->b∉ex->∃sl,h'.get? b=some { o with slots:=sl }
 free:∀b o,h.get? b=some o->H b=none->b∉ex->H' b=none
 there:∀b o,h.get? b=some o->b∉ex->∃o',h'.get? b=some o'
 tups:∀b xs,H b=some (.tup xs)->H' b=some (.tup xs)
 frzs:∀b o u,H b=some (.frz o u)->H' b=some (.frz o u)
 tbls:∀b ps,H b=some (.tbl ps)->∃more,H' b=some (.tbl (ps++more))
section
variable {fs fs' ex ex':List Addr}{H H1 H2:Hp}{h h1 h2 h':Heap}{a x e:Addr}{o:HO}
theorem Un.any(u:Un fs ex H H1 h h1){b:Addr}{ob:Obj}(q:h.get? b=some ob)(n:H b=none)(hx:b∉ex):∃sl,h1.get? b=some { ob with slots:=sl }:=by
 by_cases hb:b∈fs
 ·exact u.slot b ob q n hb hx
 ·exact⟨ob.slots,u.keep b ob q n hb hx⟩
theorem Un.kept(k:∀b u,h.get? b=some u->h'.get? b=some u):Un fs ex H H h h':=
 ⟨λb ob q _ _ _=>k b ob q,λb ob q _ _ _=>⟨ob.slots,k b ob q⟩,λ_ _ _ n _=>n,λb ob q _=>⟨ob,k b ob q⟩,λ_ _ q=>q,λ_ _ _ q=>q,λ_ ps q=>⟨#[],by rw[q];simp⟩⟩
theorem Un.refl:Un fs ex H H h h:=Un.kept λ_ _ q=>q
theorem Un.laid(k:∀b u,h.get? b=some u->h'.get? b=some u)(hp:h.objs.size<=a)(hn:H a=none):Un fs ex H (upd H a o) h h' where
 keep:=λb u q _ _ _=>k b u q
 slot:=λb u q _ _ _=>⟨u.slots,k b u q⟩
 free:=λb u q n _=>by rw[kX (Xl (Xg (Xa q) hp))];exact n
 there:=λb u q _=>⟨u,k b u q⟩
 tups:=λb xs q=>by rw[kX (zZ q hn)];exact q
 frzs:=λb u xs q=>by rw[kX (zZ q hn)];exact q
 tbls:=λb ps q=>⟨#[],by rw[kX (zZ q hn),q];simp⟩
theorem Un.write(mu:Mut (H x))(he:e=x\/H e=some (.own x))(k:∀b u,b≠e->h.get? b=some u->h'.get? b=some u)(mr:∃u,h'.get? e=some u):Un fs ex H (upd H x o) h h':=by
 have hx:∀b,H b=none->b≠x:=λb n z=>by subst z;rw[n]at mu;exact mu
 have hb:∀b,H b=none->b≠e:=λb n z=>by
  subst z;rcases he with r|r
  ·exact hx b n r
  ·rw[n]at r;cases r
 have hm:∀b u,H b=some u->¬Mut (some u)->b≠x:=λb u q nm z=>by subst z;rw[q]at mu;exact nm mu
 refine⟨λb u q n _ _=>k b u (hb b n) q,λb u q n _ _=>⟨u.slots,k b u (hb b n) q⟩,λb u q n _=>by rw[kX (hx b n)];exact n,λb u q _=>?_,
  λb xs q=>by rw[kX (hm b _ q λz=>z)];exact q,λb u xs q=>by rw[kX (hm b _ q λz=>z)];exact q,λb ps q=>⟨#[],by rw[kX (hm b _ q λz=>z),q];simp⟩⟩
 by_cases hbe:b=e
 ·subst hbe;exact mr
 ·exact⟨u,k b u hbe q⟩
end
def trk(h:Heap)(H:Hp):List Addr:=(List.range h.objs.size).filter λa=>(H a).isSome
def K5(h:Heap)(H:Hp):Heap:=PySem.W.hideAll h (trk h H)
theorem qqk(h:Heap)(H:Hp):(K5 h H).objs.size=h.objs.size:=PySem.W.hideAll_size _ _
theorem qwb{h:Heap}{H:Hp}{b:Addr}{o:Obj}(e:h.get? b=some o)(n:H b=none):(K5 h H).get? b=some o:=
 PySem.W.hideAll_get _ e λhm=>by
  have q:(H b).isSome=true:=(List.mem_filter.mp hm).2;rw[n]at q;simp at q
theorem vj3{h:Heap}{H:Hp}{b:Addr}{o:Obj}(e:(K5 h H).get? b=some o):h.get? b=some o/\H b=none:=by
 have e':h.get? b=some o:=PySem.W.of_hideAll (trk h H) e;refine⟨e',?_⟩;cases q:H b with
 |none=>rfl
 |some x=>
  have hm:b∈trk h H:=List.mem_filter.mpr ⟨List.mem_range.mpr (Xa e'),by simp[q]⟩;have z:(K5 h H).get? b=none:=PySem.W.hideAll_none (trk h H) hm;rw[z]at e;cases e
noncomputable def vjy(g h:Heap)(L:Addr):List (Addr×Obj):=(List.range h.objs.size).filterMap λa=>if a=L\/(g.get? a).isSome=true then none else(h.get? a).map λo=>(a,o)
def j9(g h:Heap)(L d:Addr):List (Addr×Obj):=(vjy g h L).filter λp=>decide (p.1≠d)
structure Mod (K:PySem.W.Frag)(mg:Str->Option Value)(base:Heap):Prop where
 kin:K.In base
 glob:base.Ns mainGlobals mg
 blt:∃mb,base.Ns builtinsNs mb/\∀x:Str,x≠"__name__"->mb x=bootBuiltins x
 nolimit:base.NoLimit
structure Cx where
 prog:Program
 w:World
 K:PySem.W.Frag
 mg:Str->Option Value
 base:Heap
 A:Around
 N:List Str
 s₀:Shared
 H₀:Hp
 env:Env
 outer:List Env
 stack:List Env
 ex:List Addr
 fn:Str->Bool
 calm:Bool
 pn:List (Addr×Obj)
 xe:Value->Shared->Prop
def frs(l:List Env):List Addr:=l.filterMap (·.frame)
abbrev Cx.fs(X:Cx):List Addr:=frs X.outer
noncomputable def Vis(sc:Scope)(x:Str):Prop:=sc.names.lookup x=some .local\/sc.names.lookup x=some .cell\/sc.names.lookup x=some .free
def Loc(sc:Scope)(x:Str):Prop:=sc.names.lookup x=some .local\/sc.names.lookup x=some .cell
noncomputable def Look(env:Env)(h:Heap)(m:Str->Option Value)(x:Str)(u:Value):Prop:=
 (env.kindOf x=some .local/\m x=some u)\/((env.kindOf x=some .cell\/env.kindOf x=some .free)/\∃c,env.cells.lookup x=some c/\h.IsCell c (some u))
structure Cx.Ok (X:Cx):Prop where
 mod:Mod X.K X.mg X.base
 kind:X.env.scope.kind=.function
 glob:X.env.globals=mainGlobals
 blt:X.env.builtins=builtinsNs
 above:X.s₀.heap.objs.size<=X.env.locals
 inj:∀x y c,X.env.cells.lookup x=some c->X.env.cells.lookup y=some c->x=y
 has:∀x,(X.env.kindOf x=some .cell\/X.env.kindOf x=some .free)->∃c,X.env.cells.lookup x=some c
 cab:∀x c,X.fn x=true->X.env.cells.lookup x=some c->X.s₀.heap.objs.size<=c
 hd:X.calm=true->X.A.handled=none
 frames:X.A.frames=some X.stack
 stk:X.stack=X.outer\/(X.stack=X.env::X.outer/\X.env.frame=some X.env.locals)
 exf:∀b∈X.ex,b≠X.env.locals/\∀x c,X.env.cells.lookup x=some c->c≠b
 bs:∀b o,X.base.get? b=some o->X.s₀.heap.get? b=some o/\X.H₀ b=none
 bsz:X.base.objs.size<=X.s₀.heap.objs.size
 noex:∀b o,X.base.get? b=some o->b∉X.ex
 exfs:∀b∈X.ex,b∉X.fs
 funs:X.s₀.heap.FunFrames X.base X.outer
 frf:∀b∈X.fs,X.H₀ b=none
structure Inv (X:Cx)(pins:List (Addr×Obj))(σ:List (Option V))(H:Hp)(s:Shared):Prop where
 ok:X.Ok
 os:s.os=X.s₀.os
 bare:AllBare s.gens
 base:Un X.fs X.ex X.H₀ H X.s₀.heap s.heap
 loc:∃m,s.heap.Ns X.env.locals m/\∀(i:Nat) (x:Str) (v:V),X.N[i]?=some x->σ[i]?=some (some v)->Vis X.env.scope x->∃u,RelV v u/\Look X.env s.heap m x u
 cell:∀x c,X.env.cells.lookup x=some c->∃v,s.heap.IsCell c v
 free:H X.env.locals=none
 freeC:∀x c,X.env.cells.lookup x=some c->H c=none
 pin:∀p∈X.pn++pins,s.heap.get? p.1=some p.2/\H p.1=none/\p.1≠X.env.locals/\p.1∉X.fs/\∀v,p.2.data≠.cell v
 hok:HOk X.prog X.w H s.heap
 len:σ.length=X.N.length
section
variable {X:Cx}{pins:List (Addr×Obj)}{σ:List (Option V)}{H H':Hp}{s:Shared}{h':Heap}
theorem Cx.Ok.nofr(ok:X.Ok){b:Addr}{o:Obj}(e:X.base.get? b=some o):b∉X.fs:=λhb=>by
 have:=(ok.funs.mem hb).1;rw[e]at this;cases this
theorem Inv.bs(I:Inv X pins σ H s):∀b o,X.base.get? b=some o->s.heap.get? b=some o/\H b=none:=λb o e=>
 ⟨I.base.keep b o (I.ok.bs b o e).1 (I.ok.bs b o e).2 (I.ok.nofr e) (I.ok.noex b o e),I.base.free b o (I.ok.bs b o e).1 (I.ok.bs b o e).2 (I.ok.noex b o e)⟩
theorem Inv.bk(I:Inv X pins σ H s):∀b o,X.base.get? b=some o->s.heap.get? b=some o:=λb o e=>(I.bs b o e).1
theorem Inv.mod(I:Inv X pins σ H s):Mod X.K X.mg X.base:=I.ok.mod
theorem Inv.kIn(I:Inv X pins σ H s):X.K.In s.heap:=I.ok.mod.kin.keeps I.bk
theorem Inv.lt(I:Inv X pins σ H s):X.env.locals<s.heap.objs.size:=let ⟨_,hn,_⟩:=I.loc;hn.lt
theorem Inv.sz(I:Inv X pins σ H s):X.s₀.heap.objs.size<=s.heap.objs.size:=Y6 I.ok.above (Nat.le_of_lt I.lt)
theorem Inv.nofs(I:Inv X pins σ H s){a:Addr}(h:s.heap.objs.size<=a):a∉X.fs:=λhb=>by
 obtain⟨_,o,ho,_⟩:=I.ok.funs.mem hb;exact absurd (Xg (Xa ho) (Y6 I.sz h)) (Y8 _)
theorem Inv.cne(I:Inv X pins σ H s):∀x c,X.env.cells.lookup x=some c->c≠X.env.locals:=λx c e z=>by
 obtain⟨v,o,ho,hd⟩:=I.cell x c e;obtain⟨m,⟨o',es,ep,ft,mi,_⟩,_⟩:=I.loc;rw[z,ft]at ho;cases ho;rw[mi]at hd;cases hd
theorem Inv.funs(I:Inv X pins σ H s):s.heap.FunFrames X.base X.outer:=by
 have all:∀(l:List Env),(∀b∈frs l,b∈X.fs)->X.s₀.heap.FunFrames X.base l->s.heap.FunFrames X.base l:=by
  intro l
  induction l with
  |nil=>intro _ _;trivial
  |cons env r ih=>
   intro hs hl;obtain⟨hk,⟨L,o,hf,hn,ho,hd⟩,hr⟩:=hl;have hL:L∈X.fs:=hs L (by unfold frs;rw[List.filterMap_cons,hf];exact X3);obtain⟨sl,e⟩:=I.base.slot L o ho (I.ok.frf L hL) hL λz=>I.ok.exfs L z hL
   exact⟨hk,⟨L,_,hf,hn,e,hd⟩,ih (λb hb=>hs b (by unfold frs;rw[List.filterMap_cons,hf];exact lc9 _ hb)) hr⟩
 exact all X.outer (λ_ hb=>hb) I.ok.funs
theorem Inv.stack(I:Inv X pins σ H s):s.heap.FunFrames X.base X.stack:=by
 rcases I.ok.stk with e|⟨e,hf⟩
 ·rw[e];exact I.funs
 ·rw[e];obtain⟨m,hn,_⟩:=I.loc;refine .cons (by rw[I.ok.kind];decide) hf hn ?_ I.funs;exact Heap.get?_none_of_le (Y6 I.ok.bsz I.ok.above)
theorem Inv.stkSub(I:Inv X pins σ H s):∀b∈frs X.stack,b∈X.env.locals::X.fs:=λb hb=>by
 rcases I.ok.stk with e|⟨e,hf⟩
 ·rw[e]at hb;exact lc9 _ hb
 ·rw[e]at hb;unfold frs at hb;rw[List.filterMap_cons,hf]at hb;exact hb
theorem Inv.stkFree(I:Inv X pins σ H s):∀b∈frs X.stack,H b=none:=λb hb=>by
 rcases List.mem_cons.mp (I.stkSub b hb)with e|hb
 ·rw[e];exact I.free
 ·obtain⟨_,o,ho,_⟩:=I.ok.funs.mem hb;exact I.base.free b o ho (I.ok.frf b hb) λz=>I.ok.exfs b z hb
theorem Inv.step{g':Array GenState}{t':Nat}{d':Drawn}{ch:List Addr}(I:Inv X pins σ H s)
  (dy:∀b∈ch,(b∈X.ex\/X.s₀.heap.objs.size<=b)/\b≠X.env.locals/\(∀x c,X.env.cells.lookup x=some c->c≠b)/\∀p∈X.pn++pins,p.1≠b)
  (keep:∀b o,b≠X.env.locals->b∉X.fs->b∉ch->s.heap.get? b=some o->H b=none->h'.get? b=some o)
  (slot:∀b o,b≠X.env.locals->b∈X.fs->b∉ch->s.heap.get? b=some o->H b=none->∃sl,h'.get? b=some { o with slots:=sl }) (free:∀b o,b∉ch->s.heap.get? b=some o->H b=none->H' b=none)
  (there:∀b o,b∉ch->s.heap.get? b=some o->∃o',h'.get? b=some o')
  (tups:∀b xs,H b=some (.tup xs)->H' b=some (.tup xs)) (frzs:∀b o u,H b=some (.frz o u)->H' b=some (.frz o u)) (tbls:∀b ps,H b=some (.tbl ps)->∃more,H' b=some (.tbl (ps++more)))
  (ns:∀m,s.heap.Ns X.env.locals m->h'.Ns X.env.locals m) (hok:HOk X.prog X.w H' h') (hg:AllBare g'):
  Inv X pins σ H' { s with heap:=h',gens:=g',drawn:=d',toks:=t' }:=by
 have ny:∀b o,X.s₀.heap.get? b=some o->b≠X.env.locals:=λb o e=>Xl (Xg (Xa e) I.ok.above)
 have ka:∀b o,X.s₀.heap.get? b=some o->b∉X.ex->b∉ch:=λb o e hx hb=>by
  rcases(dy b hb).1 with z|z
  ·exact hx z
  ·exact absurd (Xg (Xa e) z) (Y8 _)
 have gb:∀x c,X.env.cells.lookup x=some c->∀v,s.heap.IsCell c v->h'.IsCell c v:=λx c e v ⟨o,ho,hd⟩=>by
  have im:c∉ch:=λz=>(dy c z).2.2.1 x c e rfl
  by_cases hc:c∈X.fs
  ·obtain⟨sl,q⟩:=slot c o (I.cne x c e) hc im ho (I.freeC x c e);exact⟨_,q,hd⟩
  ·exact⟨o,keep c o (I.cne x c e) hc im ho (I.freeC x c e),hd⟩
 refine⟨I.ok,I.os,hg,⟨λb o e n hb hx=>?_,λb o e n hb hx=>?_,λb o e n hx=>?_,λb o e hx=>?_,λb xs e=>tups b xs (I.base.tups b xs e),λb o xs e=>frzs b o xs (I.base.frzs b o xs e),λb ps e=>?_⟩,?_,λx c e=>?_,?_,λx c e=>?_,λp hp=>?_,hok,I.len⟩
 ·exact keep b o (ny b o e) hb (ka b o e hx) (I.base.keep b o e n hb hx) (I.base.free b o e n hx)
 ·obtain⟨sl,e1⟩:=I.base.slot b o e n hb hx;obtain⟨sl',e2⟩:=slot b _ (ny b o e) hb (ka b o e hx) e1 (I.base.free b o e n hx);exact⟨sl',e2⟩
 ·obtain⟨o',e1⟩:=I.base.there b o e hx;exact free b o' (ka b o e hx) e1 (I.base.free b o e n hx)
 ·obtain⟨o',e1⟩:=I.base.there b o e hx;exact there b o' (ka b o e hx) e1
 ·obtain⟨m1,e1⟩:=I.base.tbls b ps e;obtain⟨m2,e2⟩:=tbls b _ e1;exact⟨m1++m2,by rw[e2,Array.append_assoc]⟩
 ·obtain⟨m,hn,hl⟩:=I.loc;refine⟨m,ns m hn,λi x v e1 e2 e3=>?_⟩;obtain⟨u,r,l⟩:=hl i x v e1 e2 e3;refine⟨u,r,?_⟩;rcases l with l|⟨k,c,e,z⟩
  ·exact .inl l
  ·exact .inr ⟨k,c,e,gb x c e _ z⟩
 ·obtain⟨v,z⟩:=I.cell x c e;exact⟨v,gb x c e v z⟩
 ·obtain⟨m,⟨o,_,_,ho,_⟩,_⟩:=I.loc;exact free _ o (λz=>(dy _ z).2.1 rfl) ho I.free
 ·obtain⟨v,o,ho,hd⟩:=I.cell x c e;exact free c o (λz=>(dy c z).2.2.1 x c e rfl) ho (I.freeC x c e)
 ·obtain⟨e,n,ne,nf,d⟩:=I.pin p hp;have im:p.1∉ch:=λz=>(dy p.1 z).2.2.2 p hp rfl
  exact⟨keep p.1 p.2 ne nf im e n,free p.1 p.2 im e n,ne,nf,d⟩
theorem Inv.un{t':Nat}(I:Inv X pins σ H s)(u:Un X.fs [] H H' s.heap h')(hok:HOk X.prog X.w H' h'):Inv X pins σ H' { s with heap:=h',toks:=t' }:=by
 obtain⟨m,⟨o,es,ep,ho,r⟩,_⟩:=id I.loc;obtain⟨sl,hL⟩:=u.any ho I.free (by simp);exact I.step (g':=s.gens) (d':=s.drawn) (ch:=[]) (λ_ z=>nomatch z) (λb o _ hb _ e n=>u.keep b o e n hb (by simp)) (λb o _ hb _ e n=>u.slot b o e n hb (by simp)) (λb o _ e n=>u.free b o e n (by simp)) (λb o _ e=>u.there b o e (by simp)) u.tups u.frzs u.tbls (λm' hm=>by
  obtain⟨o',es',nj,ft,r'⟩:=hm;rw[ho]at ft;cases ft;exact⟨_,es',nj,hL,r'⟩) hok I.bare
theorem Inv.call{g':Array GenState}{t':Nat}{d':Drawn}{ch:List Addr}(I:Inv X pins σ H s)(u:Un (frs X.stack) ch H H' s.heap h')(hok:HOk X.prog X.w H' h')(hg:AllBare g')
  (dy:∀b∈ch,(b∈X.ex\/X.s₀.heap.objs.size<=b)/\b≠X.env.locals/\(∀x c,X.env.cells.lookup x=some c->c≠b)/\∀p∈X.pn++pins,p.1≠b):
  Inv X pins σ H' { s with heap:=h',gens:=g',drawn:=d',toks:=t' }:=by
 obtain⟨m,⟨o,es,ep,ho,r⟩,_⟩:=id I.loc;obtain⟨sl,hL⟩:=u.any ho I.free λz=>(dy _ z).2.1 rfl
 exact I.step (ch:=ch) dy (λb o hL hb hc e n=>u.keep b o e n (λz=>(List.mem_cons.mp (I.stkSub b z)).elim hL hb) hc) (λb o _ _ hc e n=>u.any e n hc) (λb o hc e n=>u.free b o e n hc) (λb o hc e=>u.there b o e hc) u.tups u.frzs u.tbls (λm' hm=>by
  obtain⟨o',es',nj,ft,r'⟩:=hm;rw[ho]at ft;cases ft;exact⟨_,es',nj,hL,r'⟩) hok hg
theorem Inv.turned{t':Nat}{it:Addr}(I:Inv X pins σ H s)(k:∀b o,b≠it->s.heap.get? b=some o->h'.get? b=some o)(hn:H it=none)(hL:it≠X.env.locals)
  (h1:it∈X.ex\/X.s₀.heap.objs.size<=it) (h2:∀x c,X.env.cells.lookup x=some c->c≠it) (h3:∀p∈X.pn++pins,p.1≠it):Inv X pins σ H { s with heap:=h',toks:=t' }:=by
 have nt:∀b u,H b=some u->b≠it:=λb u e z=>by rw[z,hn]at e;cases e
 refine I.step (g':=s.gens) (d':=s.drawn) (ch:=[it]) (λb hb=>?_) (λb o _ _ hc e _=>k b o (λz=>hc (by simp[z])) e) (λb o _ _ hc e _=>⟨o.slots,k b o (λz=>hc (by simp[z])) e⟩) (λ_ _ _ _ n=>n)
  (λb o hc e=>⟨o,k b o (λz=>hc (by simp[z])) e⟩) (λ_ _ e=>e) (λ_ _ _ e=>e) (λb ps e=>⟨#[],by rw[e];simp⟩) (λm hm=>?_) (λb u e=>?_) I.bare
 ·have e:b=it:=by simpa using hb
  subst e;exact⟨h1,hL,h2,h3⟩
 ·obtain⟨o,es,ep,ho,r⟩:=hm;exact⟨o,es,ep,k _ o (Ne.symm hL) ho,r⟩
 ·refine(I.hok b u e).stay (λc v hc q=>k c v ?_ q) (λ_ q=>q) λ_ _ q=>q
  rcases hc with z|z
  ·rw[z];exact nt b u e
  ·exact nt c _ z
theorem Inv.tok(I:Inv X pins σ H s)(t:Nat):Inv X pins σ H { s with toks:=t }:=I.un (h':=s.heap) (t':=t) Un.refl I.hok
theorem Inv.kept{t':Nat}(I:Inv X pins σ H s)(k:∀b u,s.heap.get? b=some u->h'.get? b=some u):Inv X pins σ H { s with heap:=h',toks:=t' }:=I.un (Un.kept k) (I.hok.kept k)
theorem Inv.laid{a:Addr}{o:HO}{t':Nat}(I:Inv X pins σ H s)(k:∀b u,s.heap.get? b=some u->h'.get? b=some u)(hp:s.heap.objs.size<=a)(new:ObjOk X.prog X.w (upd H a o) h' a o):
  Inv X pins σ (upd H a o) { s with heap:=h',toks:=t' }:=I.un (Un.laid k hp (I.hok.fresh hp)) (I.hok.laid k hp new)
theorem Inv.write{x e:Addr}{o:HO}{t':Nat}(I:Inv X pins σ H s)(mu:Mut (H x))(he:e=x\/H e=some (.own x))(k:∀b u,b≠e->s.heap.get? b=some u->h'.get? b=some u)(mr:∃u,h'.get? e=some u)
  (new:ObjOk X.prog X.w (upd H x o) h' x o):Inv X pins σ (upd H x o) { s with heap:=h',toks:=t' }:=I.un (Un.write mu he k mr) (I.hok.write mu he k mr new)
theorem Inv.pins_of{cn:List (Addr×Obj)}(I:Inv X pins σ H s)(h:∀p∈cn,s.heap.get? p.1=some p.2/\H p.1=none/\p.1≠X.env.locals/\p.1∉X.fs/\∀v,p.2.data≠.cell v):Inv X cn σ H s:=
 ⟨I.ok,I.os,I.bare,I.base,I.loc,I.cell,I.free,I.freeC,λp hp=>(List.mem_append.mp hp).elim (λz=>I.pin p (ll9 _ z)) (h p),I.hok,I.len⟩
theorem kxx{N:List Str}(hN:N.Nodup){i j:Nat}{x:Str}(a:N[i]?=some x)(b:N[j]?=some x):i=j:=by
 obtain⟨h1,e1⟩:=List.getElem?_eq_some_iff.mp a;obtain⟨h2,e2⟩:=List.getElem?_eq_some_iff.mp b;exact(List.getElem_inj hN).mp (e1.trans e2.symm)
theorem qjw{M:Model}{A:Around}{E:Value->Shared->Prop}{i:Nat}{x:Str}{v:V}{u:Value}{Q:Unit->Shared->Prop}(I:Inv X pins σ H s)(hN:X.N.Nodup)(hi:X.N[i]?=some x)(hx:Loc X.env.scope x)(r:RelV v u)
  (h:∀s',Inv X pins (σ.set i (some v)) H s'->(∃a,Heap.SameBut a s.heap s'.heap/\(a=X.env.locals\/X.env.cells.lookup x=some a))->Q () s') (hf:autoParam (X.fn x=true\/X.env.scope.names.lookup x=some .local) Ř):wpAny M A (storeName X.env x u) Q E s:=by
 obtain⟨m,hn,hl⟩:=id I.loc;have hcls:(X.env.scope.kind == .class||(X.env.scope.kind == .module&&X.env.locals != X.env.globals))=false:=by rw[I.ok.kind];rfl
 have hiσ:i < σ.length:=by rw[I.len];exact(List.getElem?_eq_some_iff.mp hi).1
 have cne:=I.cne;have gu:∀{a:Addr} {h':Heap},(∃o,s.heap.get? a=some o/\H a=none)->Heap.SameBut a s.heap h'->HOk X.prog X.w H h':=fun {a h'} ha hs b ob e=>by
  obtain⟨_,_,bn⟩:=ha;refine(I.hok b ob e).stay (λc w' hc q=>(hs.2 c ?_).trans q) (λ_ q=>q) λ_ _ q=>q
  rintro rfl;rcases hc with rfl|hc
  ·rw[bn]at e;cases e
  ·rw[bn]at hc;cases hc
 rcases hx with hk|hk
 ·refine wpAny_storeName_local hk hn (λh' hn' hs=>?_) hcls;obtain⟨oL,_,_,o7,_⟩:=id hn;refine h _ ⟨I.ok,I.os,I.bare,⟨λb o e n hb hx=>?_,λb o e n hb hx=>?_,I.base.free,λb o e hx=>?_,I.base.tups,I.base.frzs,I.base.tbls⟩,⟨_,hn',λj y v' e1 e2 e3=>?_⟩,λy c e=>?_,I.free,I.freeC,λp hp=>?_,gu ⟨oL,o7,I.free⟩ hs,by simpa using I.len⟩ ⟨_,hs,.inl rfl⟩
  ·exact(hs.2 b (Xl (Xg (Xa e) I.ok.above))).trans (I.base.keep b o e n hb hx)
  ·obtain⟨sl,e1⟩:=I.base.slot b o e n hb hx;exact⟨sl,(hs.2 b (Xl (Xg (Xa e) I.ok.above))).trans e1⟩
  ·obtain⟨o',e1⟩:=I.base.there b o e hx;exact⟨o',(hs.2 b (Xl (Xg (Xa e) I.ok.above))).trans e1⟩
  ·by_cases hj:j=i
   ·subst hj;rw[hi]at e1;cases e1;rw[Y0 hiσ]at e2;cases e2;exact⟨u,r,.inl ⟨hk,by simp⟩⟩
   ·rw[Xr (Ne.symm hj)]at e2;obtain⟨u',r',q⟩:=hl j y v' e1 e2 e3;refine⟨u',r',?_⟩;rcases q with⟨k,e⟩|⟨k,c,e,z⟩
    ·refine .inl ⟨k,?_⟩;have:y≠x:=λe=>hj (kxx hN e1 (e▸hi))
     simp[this,e]
    ·exact .inr ⟨k,c,e,z.sameBut hs (cne y c e)⟩
  ·obtain⟨w',z⟩:=I.cell y c e;exact⟨w',z.sameBut hs (cne y c e)⟩
  ·obtain⟨e,n,ne,nf,d⟩:=I.pin p hp;exact⟨(hs.2 p.1 ne).trans e,n,ne,nf,d⟩
 ·have hfn:X.fn x=true:=by
   rcases hf with z|z
   ·exact z
   ·rw[z]at hk;cases hk
  obtain⟨c,hc⟩:=I.ok.has x (.inl hk);obtain⟨w',z⟩:=I.cell x c hc;refine wpAny_storeName_cell I.ok.kind hk hc z (λh' mv hs=>?_);obtain⟨oc,hoc,hocd⟩:=id z;refine h { s with heap:=h' } ⟨I.ok,I.os,I.bare,⟨λb o e n hb hx=>?_,λb o e n hb hx=>?_,I.base.free,λb o e hx=>?_,I.base.tups,I.base.frzs,I.base.tbls⟩,⟨m,hn.sameBut hs (Ne.symm (cne x c hc)),λj y v' e1 e2 e3=>?_⟩,λy c' e=>?_,I.free,I.freeC,λp hp=>?_,gu ⟨oc,hoc,I.freeC x c hc⟩ hs,by simpa using I.len⟩ ⟨c,hs,.inr hc⟩
  ·exact(hs.2 b (Xl (Xg (Xa e) (I.ok.cab x c hfn hc)))).trans (I.base.keep b o e n hb hx)
  ·obtain⟨sl,e1⟩:=I.base.slot b o e n hb hx;exact⟨sl,(hs.2 b (Xl (Xg (Xa e) (I.ok.cab x c hfn hc)))).trans e1⟩
  ·obtain⟨o',e1⟩:=I.base.there b o e hx;exact⟨o',(hs.2 b (Xl (Xg (Xa e) (I.ok.cab x c hfn hc)))).trans e1⟩
  ·by_cases hj:j=i
   ·subst hj;rw[hi]at e1;cases e1;rw[Y0 hiσ]at e2;cases e2;exact⟨u,r,.inr ⟨.inl hk,c,hc,mv⟩⟩
   ·rw[Xr (Ne.symm hj)]at e2;obtain⟨u',r',q⟩:=hl j y v' e1 e2 e3;refine⟨u',r',?_⟩;rcases q with q|⟨k,c',e,z'⟩
    ·exact .inl q
    ·refine .inr ⟨k,c',e,z'.sameBut hs ?_⟩;rintro rfl;exact hj (kxx hN e1 (I.ok.inj _ _ _ e hc▸hi))
  ·by_cases bj:c'=c
   ·subst bj;exact⟨_,mv⟩
   ·obtain⟨w2,z2⟩:=I.cell y c' e;exact⟨w2,z2.sameBut hs bj⟩
  ·obtain⟨e,n,ne,nf,d⟩:=I.pin p hp;refine⟨(hs.2 p.1 ?_).trans e,n,ne,nf,d⟩;intro q;rw[q,hoc]at e;have q':oc=p.2:=oq9 e;exact d w' (by rw[<-q'];exact hocd)
theorem kxf{M:Model}{A:Around}{E:Value->Shared->Prop}{i:Nat}{x:Str}{v:V}{u:Value}{Q:Unit->Shared->Prop}(I:Inv X pins σ H s)(hN:X.N.Nodup)(hi:X.N[i]?=some x)(hx:Loc X.env.scope x)(r:RelV v u)
  (h:∀s',Inv X pins (σ.set i (some v)) H s'->Q () s') (hf:autoParam (X.fn x=true\/X.env.scope.names.lookup x=some .local) Ř):wpAny M A (storeName X.env x u) Q E s:=
 qjw I hN hi hx r (λs' I' _=>h s' I') hf
theorem Inv.call'{s':Shared}{ch:List Addr}(I:Inv X pins σ H s)(ho:s'.os=s.os)(u:Un (frs X.stack) ch H H' s.heap s'.heap)(hok:HOk X.prog X.w H' s'.heap)(hg:AllBare s'.gens)
  (dy:∀b∈ch,(b∈X.ex\/X.s₀.heap.objs.size<=b)/\b≠X.env.locals/\(∀x c,X.env.cells.lookup x=some c->c≠b)/\∀p∈X.pn++pins,p.1≠b):Inv X pins σ H' s':=by
 obtain⟨h',g',d',t',o'⟩:=s';have e:o'=s.os:=ho;subst e;exact I.call (g':=g') (t':=t') (d':=d') u hok hg dy
end
abbrev XK:=Value->Option Addr->Hp->Prop
abbrev St:=List (Option V)
abbrev VK:=V->Hp->Prop
abbrev TE:=St->Hp->VK->Prop
abbrev TT:=St->Hp->(Bool->Hp->Prop)->Prop
abbrev TA:=St->Hp->(List V->Hp->Prop)->Prop
structure Ends where
 nx:St->Hp->Prop
 rt:VK
 bk:St->Hp->Prop:=λ_ _=>False
 ct:St->Hp->Prop:=λ_ _=>False
abbrev TS:=Ends->St->Hp->Prop
noncomputable def EP(X:Cx)(pins:List (Addr×Obj))(σ:St)(Q:VK)(u:Value)(s':Shared):Prop:=∃v H',Inv X pins σ H' s'/\RelV v u/\Q v H'
noncomputable def TP(X:Cx)(pins:List (Addr×Obj))(σ:St)(Q:Bool->Hp->Prop)(b:Bool)(s':Shared):Prop:=∃H',Inv X pins σ H' s'/\Q b H'
noncomputable def AP(X:Cx)(pins:List (Addr×Obj))(σ:St)(Q:List V->Hp->Prop)(us:List Value)(s':Shared):Prop:=∃vs H',Inv X pins σ H' s'/\Vals vs us/\Q vs H'
noncomputable def SP(X:Cx)(pins:List (Addr×Obj))(D:Ends)(f:Flow)(s':Shared):Prop:=
 match f with
 |.next=>∃ σ' H',Inv X pins σ' H' s'/\D.nx σ' H'
 |.brk=>∃ σ' H',Inv X pins σ' H' s'/\D.bk σ' H'
 |.cont=>∃ σ' H',Inv X pins σ' H' s'/\D.ct σ' H'
 |.ret u=>∃v σ' H',Inv X pins σ' H' s'/\RelV v u/\D.rt v H'
noncomputable def PE(X:Cx)(e:Expr)(t:TE):Prop:=
 ∀(pins:List (Addr×Obj)) (s:Shared) (σ:St) (H:Hp) (Q:VK),Inv X pins σ H s->t σ H Q->wpAny (model X.prog X.w) X.A (eval e X.env) (EP X pins σ Q) X.xe s
noncomputable def PT(X:Cx)(e:Expr)(t:TT):Prop:=
 ∀(pins:List (Addr×Obj)) (s:Shared) (σ:St) (H:Hp) (Q:Bool->Hp->Prop),Inv X pins σ H s->t σ H Q->wpAny (model X.prog X.w) X.A (isTrue e X.env (eval e X.env)) (TP X pins σ Q) X.xe s
noncomputable def PW(X:Cx)(e:Expr)(t:TT):Prop:=
 ∀(dz:Sem Value) (pins:List (Addr×Obj)) (s:Shared) (σ:St) (H:Hp) (Q:Bool->Hp->Prop),Inv X pins σ H s->t σ H Q->wpAny (model X.prog X.w) X.A (isTrue e X.env dz) (TP X pins σ Q) X.xe s
theorem PW.pt{X:Cx}{e:Expr}{t:TT}(h:PW X e t):PT X e t:=h _
noncomputable def PA(X:Cx)(es:List Expr)(t:TA):Prop:=
 ∀(pos:Pos) (pins:List (Addr×Obj)) (s:Shared) (σ:St) (H:Hp) (Q:List V->Hp->Prop),Inv X pins σ H s->t σ H Q->wpAny (model X.prog X.w) X.A (spliced (backTo pos (starEach es X.env))) (AP X pins σ Q) X.xe s
noncomputable def PS(X:Cx)(st:Stmt)(t:TS):Prop:=
 ∀(pins:List (Addr×Obj)) (s:Shared) (σ:St) (H:Hp) (D:Ends),Inv X pins σ H s->t D σ H->wpAny (model X.prog X.w) X.A (exec st X.env) (SP X pins D) X.xe s
noncomputable def PSs(X:Cx)(st:List Stmt)(t:TS):Prop:=
 ∀(pins:List (Addr×Obj)) (s:Shared) (σ:St) (H:Hp) (D:Ends),Inv X pins σ H s->t D σ H->wpAny (model X.prog X.w) X.A (execs st X.env) (SP X pins D) X.xe s
theorem thn{α:Type}{t:Sem α}{Q Q':α->Shared->Prop}{M:Model}{A:Around}{E:Value->Shared->Prop}{s:Shared}(h:wpAny M A t Q E s)(hQ:∀a s,Q a s->Q' a s):wpAny M A t Q' E s:=wpAny_mono h hQ λ_ _ x=>x
section
variable {X:Cx}
abbrev Jj(i:Nat):TE:=fun σ H Q=>∃v,σ[i]?=some (some v)/\Q v H
abbrev tC(v:V):TE:=λ_ H Q=>Q v H
theorem vqs{i:Nat}{x:Str}{pos:Pos}(hN:X.N[i]?=some x)(hv:Vis X.env.scope x)(hd:autoParam ((x==("__debug__":Str))=false) ŕ)(gf:autoParam ((x==("__classdict__":Str))=false) ŕ):PE X (.Name x pos) (Jj i):=by
 intro pins s σ H Q I h;obtain⟨v,e,h⟩:=h;obtain⟨m,hn,hl⟩:=I.loc;obtain⟨u,r,l⟩:=hl i x v hN e hv;have fin:EP X pins σ Q u s:=⟨v,H,I,r,h⟩;rcases l with⟨hk,hm⟩|⟨hk,c,hc,hcell⟩
 ·exact wpAny_Name (wpAny_loadName_local I.ok.kind hk hn hm fin) hd
 ·rcases hk with hk|hk
  ·exact wpAny_Name (wpAny_loadName_cell I.ok.kind hk hc hcell fin) hd
  ·exact wpAny_Name (wpAny_loadName_free I.ok.kind hk hc hcell fin gf) hd
theorem qxb{i j pos}:PE X (.Constant (.int i) j pos) (tC (.int i)):=λ_ _ _ H _ I h=>wpAny_Constant_int ⟨.int i,H,I.tok _,⟨_,rfl⟩,h⟩
theorem qZ{b j pos}:PE X (.Constant (.bool b) j pos) (tC (.bl b)):=λ_ _ _ H _ I h=>Constant_bool ⟨.bl b,H,I,rfl,h⟩
theorem vqv{j pos}:PE X (.Constant .none j pos) (tC .non):=λ_ _ _ H _ I h=>Constant_none ⟨.non,H,I,rfl,h⟩
theorem qxa{x j pos}:PE X (.Constant (.str x) j pos) (tC (.str x)):=λ_ _ _ H _ I h=>Calls.Constant_str ⟨.str x,H,I.tok _,⟨_,rfl⟩,h⟩
def Gl(X:Cx)(x:Str):Prop:=X.env.kindOf x=some .globalImplicit
theorem qq7{E:Value->Shared->Prop}{pins:List (Addr×Obj)}{s:Shared}{σ:St}{H:Hp}{x:Str}{u:Value}{pos:Pos}{Q:Value->Shared->Prop}(I:Inv X pins σ H s)(hg:Gl X x)(hm:X.mg x=some u)(h:Q u s)
  (hd:autoParam ((x==("__debug__":Str))=false) ŕ):wpAny (model X.prog X.w) X.A (eval (.Name x pos) X.env) Q E s:=
 Calls.Name_function_global I.ok.kind hg (Calls.loadGlobal_global (by rw[I.ok.glob];exact I.mod.glob.keeps I.bk) hm h) hd
theorem Q1{E:Value->Shared->Prop}{pins:List (Addr×Obj)}{s:Shared}{σ:St}{H:Hp}{x:Str}{u:Value}{pos:Pos}{Q:Value->Shared->Prop}(I:Inv X pins σ H s)(hg:Gl X x)(hm:X.mg x=none)(hv:bootBuiltins x=some u)(h:Q u s)
  (hn:autoParam (x≠"__name__") ŕ) (hd:autoParam ((x==("__debug__":Str))=false) ŕ):wpAny (model X.prog X.w) X.A (eval (.Name x pos) X.env) Q E s:=by
 obtain⟨mb,h1,h2⟩:=I.mod.blt;exact Calls.Name_function_global I.ok.kind hg (Calls.loadGlobal_builtin (by rw[I.ok.glob];exact I.mod.glob.keeps I.bk) hm (by rw[I.ok.blt];exact h1.keeps I.bk) ((h2 x hn).trans hv) h) hd
theorem qzr{x:Str}{v:V}{u:Value}{pos:Pos}(hg:Gl X x)(hm:X.mg x=some u)(r:RelV v u)(hd:autoParam ((x==("__debug__":Str))=false) ŕ):PE X (.Name x pos) (tC v):=
 λ_ _ _ H _ I h=>qq7 I hg hm ⟨v,H,I,r,h⟩ hd
theorem qzv{x:Str}{v:V}{u:Value}{pos:Pos}(hg:Gl X x)(hm:X.mg x=none)(hv:bootBuiltins x=some u)(r:RelV v u)(hn:autoParam (x≠"__name__") ŕ)(hd:autoParam ((x==("__debug__":Str))=false) ŕ):PE X (.Name x pos) (tC v):=
 λ_ _ _ H _ I h=>Q1 I hg hm hv ⟨v,H,I,r,h⟩ hn hd
variable {a b:Expr}{ta tb:TE}{pos:Pos}
variable {tA tB':TT}{j9:List Expr}
abbrev tAnd(t u:TT):TT:=fun σ H Q=>t σ H λc H1=>if c=true then u σ H1 Q else Q false H1
abbrev tOr(t u:TT):TT:=fun σ H Q=>t σ H λc H1=>if c=true then Q true H1 else u σ H1 Q
abbrev tNot(t:TT):TT:=fun σ H Q=>t σ H λc H1=>Q (!c) H1
theorem qzf(ha:PT X a tA):PW X (.BoolOp .And [a] pos) tA:=by
 intro wh pins s σ H Q I h;refine isTrue_and (thn (ha pins s σ H Q I h) λc s1 e=>?_);cases c with
 |true=>exact isTrue_and_nil e
 |false=>exact e
theorem vqj(ha:PT X a tA):PW X (.BoolOp .Or [a] pos) tA:=by
 intro wh pins s σ H Q I h;refine isTrue_or (thn (ha pins s σ H Q I h) λc s1 e=>?_);cases c with
 |false=>exact isTrue_or_nil e
 |true=>exact e
theorem vqk(ha:PT X a tA)(hb:PW X (.BoolOp .And (b::j9) pos) tB'):PW X (.BoolOp .And (a::b::j9) pos) (tAnd tA tB'):=by
 intro wh pins s σ H Q I h;refine isTrue_and (thn (ha pins s σ H _ I h) λc s1 ⟨H1,I1,q1⟩=>?_);cases c with
 |true=>exact hb wh pins s1 σ H1 Q I1 q1
 |false=>exact⟨H1,I1,q1⟩
theorem vz5(ha:PT X a tA)(hb:PW X (.BoolOp .Or (b::j9) pos) tB'):PW X (.BoolOp .Or (a::b::j9) pos) (tOr tA tB'):=by
 intro wh pins s σ H Q I h;refine isTrue_or (thn (ha pins s σ H _ I h) λc s1 ⟨H1,I1,q1⟩=>?_);cases c with
 |true=>exact⟨H1,I1,q1⟩
 |false=>exact hb wh pins s1 σ H1 Q I1 q1
theorem vql(ha:PT X a tA):PT X (.UnaryOp .Not a pos) (tNot tA):=by
 intro pins s σ H Q I h;exact isTrue_not (ha pins s σ H (λc H1=>Q (!c) H1) I h)
abbrev vxm(ta tb:TE):TE:=fun σ H Q=>ta σ H λx H1=>∃c,x=.bl c/\if c=true then tb σ H1 Q else Q (.bl false) H1
abbrev tOrV(ta tb:TE):TE:=fun σ H Q=>ta σ H λx H1=>∃c,x=.bl c/\if c=true then Q (.bl true) H1 else tb σ H1 Q
theorem vqu{op}{t:TE}(h:PE X a t):PE X (.BoolOp op [a] pos) t:=λpins s σ H Q I hw=>BoolOp_one (h pins s σ H Q I hw)
theorem vqz(ha:PE X a ta)(hb:PE X (.BoolOp .And (b::j9) pos) tb):PE X (.BoolOp .And (a::b::j9) pos) (vxm ta tb):=by
 intro pins s σ H Q I h;refine BoolOp_and (thn (ha pins s σ H _ I h) λv s1 ⟨x,H1,I1,r1,q1⟩=>?_);obtain⟨c,rfl,q1⟩:=q1;cases r1;refine Yj ?_;cases c with
 |true=>exact hb pins s1 σ H1 Q I1 q1
 |false=>exact⟨.bl false,H1,I1,rfl,q1⟩
theorem vz8(ha:PE X a ta)(hb:PE X (.BoolOp .Or (b::j9) pos) tb):PE X (.BoolOp .Or (a::b::j9) pos) (tOrV ta tb):=by
 intro pins s σ H Q I h;refine BoolOp_or (thn (ha pins s σ H _ I h) λv s1 ⟨x,H1,I1,r1,q1⟩=>?_);obtain⟨c,rfl,q1⟩:=q1;cases r1;refine Yj ?_;cases c with
 |false=>exact hb pins s1 σ H1 Q I1 q1
 |true=>exact⟨.bl true,H1,I1,rfl,q1⟩
end
noncomputable def SqL(K:PySem.W.Frag)(H:Hp)(a:Addr)(xs:List V):Prop:=
 Rd H a (.lst xs) \/
  ∃(o:Obj) (aa:Array Value) (n:Nat),K.lookup a=some o/\o.cls=.type "list"/\o.dict=none/\o.data=.seq aa n/\aa.size<=sizeLine/\Vals xs aa.toList
noncomputable def SqT(K:PySem.W.Frag)(H:Hp)(a:Addr)(xs:List V):Prop:=
 Rd H a (.tup xs) \/
  ∃(o:Obj) (aa:Array Value) (n:Nat),K.lookup a=some o/\o.cls=.type "tuple"/\o.dict=none/\o.data=.seq aa n/\aa.size<=sizeLine/\Vals xs aa.toList
noncomputable def absV:Value->Option V
 |.none=>some .non
 |.bool b=>some (.bl b)
 |.int i _=>some (.int i)
 |.str x _=>some (.str x)
 |.bytes b _=>some (.byt b)
 |.float b _=>some (.flt b)
 |.ref a=>some (.ref a)
 |.type n=>some (.ty n)
 |_=>none
theorem RelV.abs{x:V}{u:Value}(r:RelV x u):absV u=some x:=by
 cases x with
 |non=>cases r;rfl
 |bl _=>cases r;rfl
 |int _=>obtain⟨t,rfl⟩:=r;rfl
 |str _=>obtain⟨t,rfl⟩:=r;rfl
 |byt _=>obtain⟨t,rfl⟩:=r;rfl
 |flt _=>obtain⟨t,rfl⟩:=r;rfl
 |ref _=>cases r;rfl
 |ty _=>cases r;rfl
theorem RelV.inj{x y:V}{u:Value}(r:RelV x u)(q:RelV y u):x=y:=oq9 (r.abs.symm.trans q.abs)
theorem Vals.inj:∀{xs ys:List V} {us:List Value},Vals xs us->Vals ys us->xs=ys
 |_,_,_,.nil,.nil=>rfl
 |_,_,_,.cons r t,.cons r' t'=>by rw[r.inj r',Vals.inj t t']
section
variable {X:Cx}{pins:List (Addr×Obj)}{σ:St}{H:Hp}{s:Shared}{a:Addr}{xs ys:List V}
theorem SqL.of{K:PySem.W.Frag}(h:H a=some (.lst xs)):SqL K H a xs:=.inl (.inl h)
theorem SqT.of{K:PySem.W.Frag}(h:H a=some (.tup xs)):SqT K H a xs:=.inl (.inl h)
theorem Inv.list(I:Inv X pins σ H s)(h:SqL X.K H a xs):∃aa:List Value,Vals xs aa/\PlainL s.heap a aa.toArray/\xs.length<=sizeLine:=by
 rcases h with h|⟨o,aa,n,hk,hc,hd,hs,hz,r⟩
 ·obtain⟨z,aa,n,r,e⟩:=h.ok I.hok;exact⟨aa,r,⟨_,n,e,rfl,rfl,rfl⟩,z⟩
 ·refine⟨aa.toList,r,⟨o,n,I.kIn a o hk,hc,hd,by simpa using hs⟩,?_⟩;have e:=r.length;simp only[Xb]at e;omega
theorem Inv.tuple(I:Inv X pins σ H s)(h:SqT X.K H a xs):∃aa:List Value,Vals xs aa/\IsTup s.heap a aa.toArray/\xs.length<=sizeLine:=by
 rcases h with h|⟨o,aa,n,hk,hc,_,hs,hz,r⟩
 ·obtain⟨z,aa,r,p⟩:=h.ok I.hok;exact⟨aa,r,p.tup,z⟩
 ·refine⟨aa.toList,r,⟨o,I.kIn a o hk,hc,n,by simpa using hs⟩,?_⟩;have e:=r.length;simp only[Xb]at e;omega
theorem Inv.list_inj(I:Inv X pins σ H s)(h:SqL X.K H a xs)(h':SqL X.K H a ys):xs=ys:=by
 obtain⟨aa,r,⟨o,n,e,_,_,d⟩,_⟩:=I.list h;obtain⟨its',r',⟨o',n',e',_,_,d'⟩,_⟩:=I.list h';rw[e]at e';cases e';rw[d]at d';injection d' with d1 _;have:aa=its':=by simpa using congrArg Array.toList d1
 subst this;exact r.inj r'
theorem Inv.tuple_inj(I:Inv X pins σ H s)(h:SqT X.K H a xs)(h':SqT X.K H a ys):xs=ys:=by
 obtain⟨aa,r,⟨o,e,_,n,d⟩,_⟩:=I.tuple h;obtain⟨its',r',⟨o',e',_,n',d'⟩,_⟩:=I.tuple h';rw[e]at e';cases e';rw[d]at d';injection d' with d1 _;have:aa=its':=by simpa using congrArg Array.toList d1
 subst this;exact r.inj r'
end
abbrev Cx.wish(X:Cx)(E:Value->Shared->Prop):Cx:={ X with xe:=E }
theorem Cx.Ok.wish{X:Cx}(ok:X.Ok)(E:Value->Shared->Prop):(X.wish E).Ok:=
 ⟨ok.mod,ok.kind,ok.glob,ok.blt,ok.above,ok.inj,ok.has,ok.cab,ok.hd,ok.frames,ok.stk,ok.exf,ok.bs,ok.bsz,ok.noex,ok.exfs,ok.funs,ok.frf⟩
theorem Cx.Ok.unwish{X:Cx}{E:Value->Shared->Prop}(ok:(X.wish E).Ok):X.Ok:=
 ⟨ok.mod,ok.kind,ok.glob,ok.blt,ok.above,ok.inj,ok.has,ok.cab,ok.hd,ok.frames,ok.stk,ok.exf,ok.bs,ok.bsz,ok.noex,ok.exfs,ok.funs,ok.frf⟩
section
variable {X:Cx}{pins:List (Addr×Obj)}{σ:St}{H:Hp}{s:Shared}{E:Value->Shared->Prop}
theorem Inv.wish(I:Inv X pins σ H s)(E:Value->Shared->Prop):Inv (X.wish E) pins σ H s:=⟨I.ok.wish E,I.os,I.bare,I.base,I.loc,I.cell,I.free,I.freeC,I.pin,I.hok,I.len⟩
theorem Inv.unwish(I:Inv (X.wish E) pins σ H s):Inv X pins σ H s:=⟨I.ok.unwish,I.os,I.bare,I.base,I.loc,I.cell,I.free,I.freeC,I.pin,I.hok,I.len⟩
theorem SP.unwish{D:Ends}{f:Flow}{s':Shared}(h:SP (X.wish E) pins D f s'):SP X pins D f s':=by
 cases f with
 |next=>obtain⟨σ',H',I,q⟩:=h;exact⟨σ',H',I.unwish,q⟩
 |brk=>obtain⟨σ',H',I,q⟩:=h;exact⟨σ',H',I.unwish,q⟩
 |cont=>obtain⟨σ',H',I,q⟩:=h;exact⟨σ',H',I.unwish,q⟩
 |ret u=>obtain⟨v,σ',H',I,r,q⟩:=h;exact⟨v,σ',H',I.unwish,r,q⟩
end
section
variable {X:Cx}{st:Stmt}{j9:List Stmt}{t u:TS}{e:Expr}{te:TE}{pos:Pos}
abbrev vxk:TS:=λD σ H=>D.nx σ H
abbrev tSeq(t u:TS):TS:=λD σ H=>t { D with nx:=u D } σ H
theorem qzj:PSs X [] vxk:=λ_ _ σ H _ I h=>wpAny_execs_nil ⟨σ,H,I,h⟩
theorem qvx(h1:PS X st t)(h2:PSs X j9 u):PSs X (st::j9) (tSeq t u):=by
 intro pins s σ H D I h;refine wpAny_execs_cons (thn (h1 pins s σ H { D with nx:=u D } I h) λf s1 q=>?_);cases f with
 |next=>
  obtain⟨σ',H',I',q⟩:=q;exact h2 pins s1 σ' H' D I' q
 |ret v=>exact q
 |brk=>exact q
 |cont=>exact q
theorem qkl(h1:PS X st t):PSs X [st] t:=by
 intro pins s σ H D I h;refine wpAny_execs_cons (thn (h1 pins s σ H D I h) λf s1 q=>?_);cases f with
 |next=>exact wpAny_execs_nil q
 |ret v=>exact q
 |brk=>exact q
 |cont=>exact q
theorem Inv.quiet{pins:List (Addr×Obj)}{σ:St}{H:Hp}{s:Shared}(I:Inv X pins σ H s):interactive X.env=false:=by simp[interactive,I.ok.kind]
abbrev vxl(te:TE):TS:=λD σ H=>te σ H λ_ H1=>D.nx σ H1
theorem Zj(he:PE X e te)(hs:autoParam (swapsWith e none pos.line X.env=pure false) Ŕ):PS X (.Expr e pos) (vxl te):=by
 intro pins s σ H D I h;exact wpAny_Expr_any (thn (he pins s σ H _ I h) λv s1 ⟨x,H1,I1,r1,q1⟩=>⟨σ,H1,I1,q1⟩) I.quiet hs
abbrev tRet(te:TE):TS:=λD σ H=>te σ H D.rt
theorem vqn(he:PE X e te):PS X (.Return (some e) pos) (tRet te):=by
 intro pins s σ H D I h;exact wpAny_Return_some (thn (he pins s σ H _ I h) λv s1 ⟨x,H1,I1,r1,q1⟩=>⟨x,σ,H1,I1,r1,q1⟩)
abbrev tIfS(c:TT)(t u:TS):TS:=λD σ H=>c σ H λb H1=>if b=true then t D σ H1 else u D σ H1
theorem vz6{c:Expr}{a b:List Stmt}{tc:TT}(hc:PT X c tc)(ha:PSs X a t)(hb:PSs X b u):PS X (.If c a b pos) (tIfS tc t u):=by
 intro pins s σ H D I h;refine wpAny_If (thn (hc pins s σ H _ I h) λd s1 ⟨H1,I1,q1⟩=>?_);cases d with
 |true=>exact ha pins s1 σ H1 D I1 q1
 |false=>exact hb pins s1 σ H1 D I1 q1
end
abbrev TG:=V->St->Hp->(St->Hp->Prop)->Prop
abbrev TGs:=List V->St->Hp->(St->Hp->Prop)->Prop
noncomputable def PG(X:Cx)(dj:Expr)(t:TG):Prop:=
 ∀(pins:List (Addr×Obj)) (s:Shared) (σ:St) (H:Hp) (v:V) (u:Value) (Q:St->Hp->Prop),Inv X pins σ H s->RelV v u->t v σ H Q ->
  wpAny (model X.prog X.w) X.A (assign dj X.env u) (λ_ s'=>∃ σ' H',Inv X pins σ' H' s'/\Q σ' H') X.xe s
noncomputable def PGs(X:Cx)(ts:List Expr)(t:TGs):Prop:=
 ∀(pins:List (Addr×Obj)) (s:Shared) (σ:St) (H:Hp) (vs:List V) (us:List Value) (Q:St->Hp->Prop),Inv X pins σ H s->Vals vs us->t vs σ H Q ->
  wpAny (model X.prog X.w) X.A (assignInOrder ((assignEach ts X.env).map (·.2)) us) (λ_ s'=>∃ σ' H',Inv X pins σ' H' s'/\Q σ' H') X.xe s
section
variable {X:Cx}{pos:Pos}
abbrev ZY(i:Nat):TG:=λv σ H Q=>Q (σ.set i (some v)) H
theorem V8{i:Nat}{x:Str}(hN:X.N.Nodup)(hi:X.N[i]?=some x)(hx:Loc X.env.scope x)(hf:autoParam (X.fn x=true\/X.env.scope.names.lookup x=some .local) Ř):PG X (.Name x pos) (ZY i):=by
 intro pins s σ H v u Q I r h;exact wpAny_assign_Name (kxf I hN hi hx r (λs' I'=>⟨_,H,I',h⟩) hf)
abbrev wk0:TGs:=λvs σ H Q=>vs=[]/\Q σ H
abbrev vw8(t:TG)(u:TGs):TGs:=λvs σ H Q=>∃v r,vs=v::r/\t v σ H fun σ' H'=>u r σ' H' Q
theorem kj0:PGs X [] wk0:=by
 intro pins s σ H vs us Q I r h;obtain⟨e,h⟩:=h;subst e;cases r;exact assignInOrder_nil ⟨σ,H,I,h⟩
theorem xV{e:Expr}{es:List Expr}{t:TG}{u:TGs}(h1:PG X e t)(h2:PGs X es u)
  (hs:autoParam ((assignEach (e::es) X.env).map (·.2)=assign e X.env::(assignEach es X.env).map (·.2)) Ŕ):PGs X (e::es) (vw8 t u):=by
 intro pins s σ H vs us Q I r h;obtain⟨v,vr,e1,h⟩:=h;subst e1;cases r with
 |cons r rr=>
  rw[hs];refine assignInOrder_cons (thn (h1 pins s σ H _ _ _ I r h) λ_ s1 ⟨σ1,H1,I1,q1⟩=>?_);exact h2 pins s1 σ1 H1 _ _ Q I1 rr q1
abbrev tAsg(te:TE)(g:TG):TS:=λD σ H=>te σ H λx H1=>g x σ H1 D.nx
theorem vqm{i:Nat}{x:Str}{e:Expr}{te:TE}{ef:Pos}(hN:X.N.Nodup)(hi:X.N[i]?=some x)(hx:Loc X.env.scope x)(he:PE X e te)(hs:autoParam (swapsWith e (some (.Name x ef)) pos.line X.env=pure false) Ŕ)(hf:autoParam (X.fn x=true\/X.env.scope.names.lookup x=some .local) Ř):
  PS X (.Assign [.Name x ef] e pos) (tAsg te (ZY i)):=by
 intro pins s σ H D I h;refine wpAny_Assign_Name (thn (he pins s σ H _ I h) λv s1 ⟨y,H1,I1,r1,q1⟩=>?_) hs;exact kxf I1 hN hi hx r1 (λs2 I2=>⟨_,H1,I2,q1⟩) hf
end
structure It where
 go:Nat->Hp->Prop
 yld:Nat->Hp->V->Hp->Prop
 stop:Nat->Hp->Prop
noncomputable def vq(X:Cx)(pins:List (Addr×Obj))(H:Hp)(b:Addr):Prop:=
 H b=none/\b≠X.env.locals/\b∉X.fs/\(b∈X.ex\/X.s₀.heap.objs.size<=b)/\(∀x c,X.env.cells.lookup x=some c->c≠b)/\∀p∈X.pn++pins,p.1≠b
theorem Inv.fpOk{X:Cx}{pins:List (Addr×Obj)}{σ:St}{H H':Hp}{s:Shared}{b:Addr}(I:Inv X pins σ H s)(hb:s.heap.objs.size<=b)(hn:H' b=none):vq X pins H' b:=by
 refine⟨hn,Nat.ne_of_gt (Xg I.lt hb),I.nofs hb,.inr (Y6 I.sz hb),λx c e z=>?_,λp hp z=>?_⟩
 ·obtain⟨v,q⟩:=I.cell x c e;exact absurd (Xg q.lt (by rw[z];exact hb)) (Y8 _)
 ·exact absurd (Xg (Xa (I.pin p hp).1) (by rw[z];exact hb)) (Y8 _)
structure Turn (P:Program)(w:World)(K:PySem.W.Frag)(tg:Expr)(J:It)(fp:List Addr)(it:Addr)(tn:Nat->Heap->Prop):Prop where
 mem:it∈fp
 obj:∀i h,tn i h->∀b∈fp,∃o,h.get? b=some o/\∀v,o.data≠.cell v
 keep:∀i h h',tn i h->(∀b∈fp,∀o,h.get? b=some o->h'.get? b=some o)->tn i h'
 item:∀(X:Cx),X.prog=P->X.w=w->X.K=K->X.calm=true->∀(i:Nat) (pins:List (Addr×Obj)) (s:Shared) (σ:St) (H:Hp) (E:Value->Shared->Prop),Inv X pins σ H s->(∀b∈fp,vq X pins H b)->tn i s.heap->J.go i H ->
  wpAny (model P w) X.A (pyNext (.ref it)) (λr s1=>∃u,r=some u /\
   wpAny (model P w) X.A (letOwnedTupleGo tg (.ref it) u) (λ_ s2=>∃x H',Inv X pins σ H' s2/\RelV x u/\J.yld i H x H'/\tn (i+1) s2.heap/\∀b∈fp,H' b=none) E s1) E s
 done:∀(X:Cx),X.prog=P->X.w=w->X.K=K->X.calm=true->∀(i:Nat) (pins:List (Addr×Obj)) (s:Shared) (σ:St) (H:Hp) (E:Value->Shared->Prop),Inv X pins σ H s->(∀b∈fp,vq X pins H b)->tn i s.heap->J.stop i H ->
  wpAny (model P w) X.A (pyNext (.ref it)) (λr s1=>r=none/\Inv X pins σ H s1) E s
 self:∀(A:Around) (i:Nat) (s:Shared) (Q:Value->Shared->Prop) (E:Value->Shared->Prop),tn i s.heap->Q (.ref it) s->wpAny (model P w) A (pyIter (.ref it)) Q E s
abbrev TI:=St->Hp->(It->Hp->Prop)->Prop
noncomputable def PIE(X:Cx)(pins:List (Addr×Obj))(σ:St)(tg:Expr)(R:It->Hp->Prop)(itv:Value)(s2:Shared):Prop:=
 ∃(it:Addr) (fp:List Addr) (tn:Nat->Heap->Prop) (J:It) (H':Hp),itv=.ref it/\Inv X pins σ H' s2/\Turn X.prog X.w X.K tg J fp it tn/\tn 0 s2.heap/\(∀b∈fp,vq X pins H' b)/\R J H'
noncomputable def PI(X:Cx)(tg aw:Expr)(wi:TI):Prop:=
 ∀(pins:List (Addr×Obj)) (s:Shared) (σ:St) (H:Hp) (R:It->Hp->Prop),Inv X pins σ H s->wi σ H R ->
  wpAny (model X.prog X.w) X.A (eval aw X.env) (λv s1=>wpAny (model X.prog X.w) X.A (pyIter v) (PIE X pins σ tg R) X.xe s1) X.xe s
theorem qwd {M : Model} {A : Around} {E : Value -> Shared -> Prop} {s : Shared} {tg : Expr} {it : Addr} {u : Value} {o : Obj} {n : String} {vs : Array Value} {Q : Unit -> Shared -> Prop} (ho : s.heap.get? it = some o) (hc : o.cls = .type n) (hd : o.data = .fields vs)
    (hn : ["enumerate", "zip", "dict_itemiterator", "dict_reverseitemiterator", "odict_iterator", "itertools.zip_longest", "itertools.pairwise"].contains n = false) (hQ : Q () s): wpAny M A (letOwnedTupleGo tg (.ref it) u) Q E s:= by
  unfold letOwnedTupleGo;cases tg <;> first
    |exact X4 hQ
    |(cases u <;> first
        |exact X4 hQ
        | (refine X0 (wpAny_load ho ?_)
           rw[hc, hd];show wpAny M A (if(["enumerate", "zip", "dict_itemiterator", "dict_reverseitemiterator", "odict_iterator", "itertools.zip_longest", "itertools.pairwise"].contains n&&vs[0]? == some (rawInt _)) = true then _ else _) Q E s;rw[Xm (by intro h; rw[hn, Bool.false_and]at h; cases h)];exact X4 hQ))
noncomputable def Itl(K:PySem.W.Frag)(a:Addr):It:=
 ⟨λi H=>∃xs x,SqL K H a xs/\xs[i]?=some x,λi H x H'=>H'=H/\∀xs,SqL K H a xs->xs[i]?=some x,λi H=>∃xs,SqL K H a xs/\xs.length<=i⟩
noncomputable def Itt(K:PySem.W.Frag)(a:Addr):It:=
 ⟨λi H=>∃xs x,SqT K H a xs/\xs[i]?=some x,λi H x H'=>H'=H/\∀xs,SqT K H a xs->xs[i]?=some x,λi H=>∃xs,SqT K H a xs/\xs.length<=i⟩
def Itr(lo:Int)(n:Nat):It:=⟨λi _=>i<n,λi H x H'=>H'=H/\x=.int (lo+i),λi _=>n<=i⟩
theorem kqr{P:Program}{w:World}{K:PySem.W.Frag}{tg:Expr}(a it:Addr):Turn P w K tg (Itl K a) [it] it (λi h=>h.IsListIter it a i) where
 mem:=by simp
 obj:=λi h st b hb=>by
  have e:b=it:=by simpa using hb
  subst e;obtain⟨o,e,c,d⟩:=st;exact⟨o,e,λv z=>by rw[d]at z;cases z⟩
 keep:=λi h h' st k=>st.at λo e=>k it (by simp) o e
 item:=by
  intro X hP hw hK hc i pins s σ H E I hf st hg;subst hP hw hK;obtain⟨xs,x,hq,hx⟩:=hg;obtain⟨aa,rv,p,hz⟩:=I.list hq;obtain⟨u,hu,ru⟩:=rv.get hx;obtain⟨f0,f1,f2,f3,f4,f5⟩:=hf it (by simp);refine wpAny_pyNext_list_item st p.isList (x:=u) (by simpa using hu) λh' dq sb=>?_
  have I1:Inv X pins σ H { s with heap:=h' }:=I.turned (t':=s.toks) (λb o hb e=>(sb.2 b hb).trans e) f0 f1 f3 f4 f5;obtain⟨o,e,c,d⟩:=id dq;exact⟨u,rfl,qwd (s:={ s with heap:=h' }) e c d (by decide) ⟨x,H,I1,ru,⟨rfl,λys hy=>by rw[I.list_inj hy hq];exact hx⟩,dq,λb hb=>(hf b hb).1⟩⟩
 done:=by
  intro X hP hw hK hc i pins s σ H E I hf st hg;subst hP hw hK;obtain⟨xs,hq,hx⟩:=hg;obtain⟨aa,rv,p,hz⟩:=I.list hq;obtain⟨f0,f1,f2,f3,f4,f5⟩:=hf it (by simp);have hl:=rv.length;exact wpAny_pyNext_list_end (I.ok.hd hc) st p.isList (by simp;omega) λh' eb=>⟨rfl,I.turned (t':=s.toks) (λb o hb e=>eb b o hb e) f0 f1 f3 f4 f5⟩
 self:=λ_ _ _ _ _ st h=>wpAny_pyIter_listiter st h
theorem kzm{P:Program}{w:World}{K:PySem.W.Frag}{tg:Expr}(a it:Addr):Turn P w K tg (Itt K a) [it] it (λi h=>h.IsTupleIter it a i) where
 mem:=by simp
 obj:=λi h st b hb=>by
  have e:b=it:=by simpa using hb
  subst e;obtain⟨o,e,c,d⟩:=st;exact⟨o,e,λv z=>by rw[d]at z;cases z⟩
 keep:=λi h h' st k=>st.at λo e=>k it (by simp) o e
 item:=by
  intro X hP hw hK hc i pins s σ H E I hf st hg;subst hP hw hK;obtain⟨xs,x,hq,hx⟩:=hg;obtain⟨aa,rv,p,hz⟩:=I.tuple hq;obtain⟨u,hu,ru⟩:=rv.get hx;obtain⟨f0,f1,f2,f3,f4,f5⟩:=hf it (by simp);refine wpAny_pyNext_tuple_item st (show s.heap.IsTuple a aa.toArray from p) (x:=u) (by simpa using hu) λh' dq sb=>?_
  have I1:Inv X pins σ H { s with heap:=h' }:=I.turned (t':=s.toks) (λb o hb e=>(sb.2 b hb).trans e) f0 f1 f3 f4 f5;obtain⟨o,e,c,d⟩:=id dq;exact⟨u,rfl,qwd (s:={ s with heap:=h' }) e c d (by decide) ⟨x,H,I1,ru,⟨rfl,λys hy=>by rw[I.tuple_inj hy hq];exact hx⟩,dq,λb hb=>(hf b hb).1⟩⟩
 done:=by
  intro X hP hw hK hc i pins s σ H E I hf st hg;subst hP hw hK;obtain⟨xs,hq,hx⟩:=hg;obtain⟨aa,rv,p,hz⟩:=I.tuple hq;obtain⟨f0,f1,f2,f3,f4,f5⟩:=hf it (by simp);have hl:=rv.length;exact wpAny_pyNext_tuple_end (I.ok.hd hc) st (show s.heap.IsTuple a aa.toArray from p) (by simp;omega) λh' eb=>⟨rfl,I.turned (t':=s.toks) (λb o hb e=>eb b o hb e) f0 f1 f3 f4 f5⟩
 self:=λ_ _ _ _ _ st h=>wpAny_pyIter_tupleiter st h
theorem kzn{P:Program}{w:World}{K:PySem.W.Frag}{tg:Expr}(it:Addr)(lo:Int)(n:Nat):Turn P w K tg (Itr lo n) [it] it (λi h=>IsRangeIter h it (lo+(i:Nat)*1) ((n:Int) - (i:Nat)) 1) where
 mem:=by simp
 obj:=λi h st b hb=>by
  have e:b=it:=by simpa using hb
  subst e;exact⟨_,st,λv z=>by
   have z':Data.fields _=Data.cell v:=z;cases z'⟩
 keep:=λi h h' st k=>k it (by simp) _ st
 item:=by
  intro X hP hw hK hc i pins s σ H E I hf st hg;subst hP hw hK;obtain⟨f0,f1,f2,f3,f4,f5⟩:=hf it (by simp);have W:=Walks.range (prog:=X.prog) (w:=X.w) (I.ok.hd hc) it lo 1 n;refine W.item i s _ _ hg st λv h' tk hv dq kk=>?_
  obtain⟨t,rfl⟩:=hv;have I1:Inv X pins σ H { s with heap:=h',toks:=tk }:=I.turned (λb o hb e=>kk b o (by simpa using hb) e) f0 f1 f3 f4 f5;refine⟨_,rfl,qwd (s:={ s with heap:=h',toks:=tk }) (n:="range_iterator") dq rfl rfl (by decide) ⟨.int (lo+i),H,I1,⟨t,?_⟩,⟨rfl,rfl⟩,dq,λb hb=>(hf b hb).1⟩⟩;rw[Int.mul_one]
 done:=by
  intro X hP hw hK hc i pins s σ H E I hf st hg;subst hP hw hK;obtain⟨f0,f1,f2,f3,f4,f5⟩:=hf it (by simp);exact wpAny_pyNext_range_end (I.ok.hd hc) st (by have:n<=i:=hg;omega) λh' eb=>⟨rfl,I.turned (t':=s.toks) (λb o hb e=>eb b o hb e) f0 f1 f3 f4 f5⟩
 self:=λ_ _ _ _ _ st h=>wpAny_pyIter_rangeiter st h
section
variable {X:Cx}{tg:Expr}
abbrev vzm(K:PySem.W.Frag)(tl:TE):TI:=fun σ H R=>tl σ H λx H1=>∃a,x=.ref a/\(∃xs,SqL K H1 a xs)/\R (Itl K a) H1
theorem qzo{l:Expr}{tl:TE}(hl:PE X l tl):PI X tg l (vzm X.K tl):=by
 intro pins s σ H R I h;refine thn (hl pins s σ H _ I h) λv s1 ⟨x,H1,I1,r1,q1⟩=>?_
 obtain⟨a,e,⟨xs,hq⟩,q⟩:=q1;subst e;cases r1;obtain⟨aa,rv,p,hz⟩:=I1.list hq;refine Yu p.isList ?_;refine⟨s1.heap.objs.size,[s1.heap.objs.size],_,_,H1,rfl,I1.kept (t':=s1.toks) λb o e=>X1 _ e,kqr a _,⟨_,X8 _ rfl,rfl,rfl⟩,λb hb=>?_,q⟩;have e:b=s1.heap.objs.size:=by simpa using hb
 subst e;exact I1.fpOk (Xd _) (I1.hok.fresh (Xd _))
theorem qvs{pins:List (Addr×Obj)}{σ:St}{H:Hp}{s:Shared}{R:It->Hp->Prop}{E:Value->Shared->Prop}{lo hi:Int}{t u v:Tok}{tk:Nat}(I:Inv X pins σ H s)(h1:-(2 ^ 62)<=lo)(h2:lo<2 ^ 62)(h3:-(2 ^ 62)<=hi)(h4:hi<2 ^ 62)
  (q:R (Itr lo (hi - lo).toNat) H):wpAny (model X.prog X.w) X.A (pyIter (.ref s.heap.objs.size)) (PIE X pins σ tg R) E { s with heap:=s.heap.push { cls:=.type "range",data:=.fields #[.int lo t,.int hi u,.int 1 v] },toks:=tk }:=by
 refine wpAny_pyIter_range (IsRange.new ..) (small_one h1 h2 h3 h4) ?_;have I1:Inv X pins σ H { s with heap:=s.heap.push { cls:=.type "range",data:=.fields #[.int lo t,.int hi u,.int 1 v] },toks:=tk }:=I.kept λb o e=>X1 _ e
 refine⟨(s.heap.push { cls:=.type "range",data:=.fields #[.int lo t,.int hi u,.int 1 v] }).objs.size,[(s.heap.push { cls:=.type "range",data:=.fields #[.int lo t,.int hi u,.int 1 v] }).objs.size],_,_,H,rfl,
  I1.kept (t':=tk) λb o e=>X1 _ e,kzn _ lo (hi - lo).toNat,?_,λb hb=>?_,q⟩
 ·have e1:lo+((0:Nat):Int)*1=lo:=by simp
  have e2:(((hi - lo).toNat:Nat):Int) - ((0:Nat):Int)=Builtin.Range.rangeSize lo hi 1:=by rw[rangeSize_one];split<;>omega
  show IsRangeIter _ _ (lo+((0:Nat):Int)*1) ((((hi - lo).toNat:Nat):Int) - ((0:Nat):Int)) 1;rw[e1,e2];exact X8 _ rfl
 ·have e:b=(s.heap.push { cls:=.type "range",data:=.fields #[.int lo t,.int hi u,.int 1 v] }).objs.size:=by simpa using hb
  subst e;exact I1.fpOk (Xd _) (I1.hok.fresh (Xd _))
abbrev vzl(ta:TA):TI:=fun σ H R=>ta σ H λvs H1=>∃j:Int,vs=[.int j]/\-(2 ^ 62)<=j/\j<2 ^ 62/\R (Itr 0 j.toNat) H1
theorem qkp{a:Expr}{ta:TA}{p pos:Pos}(hg:Gl X "range")(hm:X.mg "range"=none)(ha:PA X [a] ta)(hs:autoParam (starEach [a] X.env=[(false,eval a X.env)]) Ŕ):PI X tg (.Call (.Name "range" p) [a] [] pos) (vzl ta):=by
 intro pins s σ H R I h;refine Call_ (Q1 I hg hm boot_range (Yh (thn (ha pos pins s σ H _ I h) λus s1 ⟨vs,H1,I1,r1,q1⟩=>?_) hs rfl));obtain⟨j,e,q1,q2,q⟩:=q1;subst e;cases r1 with
 |cons r rr=>
  cases rr;obtain⟨t,rfl⟩:=r;exact call_range_1 (qvs I1 (by omega) (by omega) q1 q2 (by simpa using q))
abbrev tFor(wi:TI)(g:TG)(tb:TS):TS:=λD σ H=>wi σ H λJ H1=>∃W:Nat->Nat->St->Hp->Prop,(∃m,W 0 m σ H1)/\∀i m σ H,W i m σ H ->
 (J.stop i H/\D.nx σ H)\/(J.go i H/\∃N:St->Hp->Prop,(∀ σ' H',N σ' H'->∃m',m'<m/\W (i+1) m' σ' H')/\∀x H',J.yld i H x H'->g x σ H' fun σ2 H2=>tb { D with nx:=N,ct:=N,bk:=D.nx } σ2 H2)
def K0(fp:List Addr)(h:Heap):List (Addr×Obj):=fp.filterMap λb=>(h.get? b).map λo=>(b,o)
theorem jxq{fp:List Addr}{h:Heap}{b:Addr}{o:Obj}(hb:b∈fp)(e:h.get? b=some o):(b,o)∈K0 fp h:=List.mem_filterMap.mpr ⟨b,hb,by rw[e];rfl⟩
theorem kvq{fp:List Addr}{h:Heap}{p:Addr×Obj}(hp:p∈K0 fp h):p.1∈fp/\h.get? p.1=some p.2:=by
 obtain⟨b,hb,e⟩:=List.mem_filterMap.mp hp;cases q:h.get? b with
 |none=>rw[q]at e;cases e
 |some o=>
  rw[q]at e;have e':(b,o)=p:=oq9 e;subst e';exact⟨hb,q⟩
theorem Inv.pinned{pins:List (Addr×Obj)}{σ:St}{H:Hp}{s:Shared}{fp:List Addr}(I:Inv X pins σ H s)(hf:∀b∈fp,vq X pins H b)(ho:∀b∈fp,∃o,s.heap.get? b=some o/\∀v,o.data≠.cell v):Inv X (pins++K0 fp s.heap) σ H s:=
 I.pins_of λp hp=>(List.mem_append.mp hp).elim (λz=>I.pin p (lr9 _ z)) λz=>by
  obtain⟨hb,e⟩:=kvq z;obtain⟨f0,f1,f2,_⟩:=hf p.1 hb;obtain⟨o,e',d⟩:=ho p.1 hb;rw[e]at e';cases e';exact⟨e,f0,f1,f2,d⟩
theorem Inv.unpinned{pins pl:List (Addr×Obj)}{σ:St}{H:Hp}{s:Shared}(I:Inv X (pins++pl) σ H s):Inv X pins σ H s:=I.pins_of λp hp=>I.pin p (lr9 _ (ll9 _ hp))
theorem qx8{aw:Expr}{body:List Stmt}{wi:TI}{g:TG}{tb:TS}{pos:Pos}(hp:PassesOwn (model X.prog X.w) X.A X.env X.xe)(hc:X.calm=true)(hi:PI X tg aw wi)(hg:PG X tg g)(hb:PSs X body tb)
  (hs:autoParam (∀x,foldedSetIterable aw X.env x=pure x) Ŗ):PS X (.For tg aw body [] pos) (tFor wi g tb):=by
 intro pins s σ H D I h;refine wpAny_For (thn (hi pins s σ H _ I h) λv s1 h1=>thn h1 λitv s2 h2=>?_) hs;obtain⟨it,fp,tn,J,H2,e,I2,T,bm,f2,W,⟨m0,w0⟩,gq⟩:=h2;subst e;have gi:∀{H':Hp},(∀b∈fp,H' b=none)->∀b∈fp,vq X pins H' b:=λhn b hb=>⟨hn b hb,(f2 b hb).2⟩
 refine codeAny_forLoop_any (λn s'=>∃i σ' H',Inv X pins σ' H' s'/\tn i s'.heap/\(∀b∈fp,H' b=none)/\W i n σ' H') ?_ m0 ⟨0,σ,H2,I2,bm,λb hb=>(f2 b hb).1,w0⟩;rintro n s3 ⟨i,σ3,H3,I3,cw,lz,w3⟩;rcases gq i n σ3 H3 w3 with⟨stop,qn⟩|⟨go,N,hN,step⟩
 ·refine wpAny_passesOwn hp (thn (T.done X rfl rfl rfl hc i pins s3 σ3 H3 X.xe I3 (gi lz) cw stop) λr s4 ⟨hr,I4⟩=>?_);subst hr;exact wpAny_execs_nil ⟨σ3,H3,I4,qn⟩
 ·refine wpAny_passesOwn hp (thn (T.item X rfl rfl rfl hc i pins s3 σ3 H3 X.xe I3 (gi lz) cw go) λr s4 ⟨u,hr,h4⟩=>?_);subst hr;refine wpAny_passesOwn hp (thn h4 λ_ s5 ⟨x,H5,I5,r5,y5,jo,fr5⟩=>?_);have I5':=I5.pinned (gi fr5) (T.obj _ _ jo);refine wpAny_passesOwn hp (thn (hg _ s5 σ3 H5 x u _ I5' r5 (step x H5 y5)) λ_ s6 ⟨σ6,H6,I6,q6⟩=>?_);refine wpAny_passesOwn hp (thn (hb _ s6 σ6 H6 _ I6 q6) λf s7 q7=>?_);have again:∀{σ7:St} {H7:Hp},Inv X (pins++K0 fp s5.heap) σ7 H7 s7->N σ7 H7->∃m,m<n/\∃i σ' H',Inv X pins σ' H' s7/\tn i s7.heap/\(∀b∈fp,H' b=none)/\W i m σ' H':=fun {σ7 H7} I7 n7=>by
   obtain⟨m',hm,w7⟩:=hN σ7 H7 n7;refine⟨m',hm,i+1,σ7,H7,I7.unpinned,T.keep _ _ _ jo λb hb o e=>(I7.pin (b,o) (lr9 _ (lr9 _ (jxq hb e)))).1,λb hb=>?_,w7⟩;obtain⟨o,e,d⟩:=T.obj _ _ jo b hb;exact(I7.pin (b,o) (lr9 _ (lr9 _ (jxq hb e)))).2.1
  cases f with
  |next=>obtain⟨σ7,H7,I7,n7⟩:=q7;exact again I7 n7
  |cont=>obtain⟨σ7,H7,I7,n7⟩:=q7;exact again I7 n7
  |brk=>obtain⟨σ7,H7,I7,q7⟩:=q7;exact⟨σ7,H7,I7.unpinned,q7⟩
  |ret v=>obtain⟨x7,σ7,H7,I7,r7,q7⟩:=q7;exact⟨x7,σ7,H7,I7.unpinned,r7,q7⟩
end
abbrev R2:=V->V->Hp->VK->Prop
noncomputable def OpR(X:Cx)(f:Value->Value->Sem Value)(r:R2):Prop:=
 ∀(pins:List (Addr×Obj)) (s:Shared) (σ:St) (H:Hp) (x y:V) (v u:Value) (Q:VK),Inv X pins σ H s->RelV x v->RelV y u->r x y H Q ->
  wpAny (model X.prog X.w) X.A (f v u) (EP X pins σ Q) X.xe s
noncomputable def CallR(X:Cx)(f:Value)(r:List V->Hp->VK->Prop):Prop:=
 ∀(pins:List (Addr×Obj)) (s:Shared) (σ:St) (H:Hp) (xs:List V) (us:List Value) (Q:VK),Inv X pins σ H s->Vals xs us->r xs H Q ->
  wpAny (model X.prog X.w) X.A (call f us) (EP X pins σ Q) X.xe s
noncomputable def TruR(X:Cx)(r:V->Hp->(Bool->Hp->Prop)->Prop):Prop:=
 ∀(pins:List (Addr×Obj)) (s:Shared) (σ:St) (H:Hp) (x:V) (v:Value) (Q:Bool->Hp->Prop),Inv X pins σ H s->RelV x v->r x H Q ->
  wpAny (model X.prog X.w) X.A (truthy v) (TP X pins σ Q) X.xe s
abbrev tOp(r:R2)(ta tb:TE):TE:=fun σ H Q=>ta σ H λx H1=>tb σ H1 λy H2=>r x y H2 Q
abbrev tUn(r:V->Hp->VK->Prop)(ta:TE):TE:=fun σ H Q=>ta σ H λx H1=>r x H1 Q
def rI(C:Int->Int->Prop)(g:Int->Int->V):R2:=λx y H Q=>∃i j,x=.int i/\y=.int j/\C i j/\Q (g i j) H
def rI0(g:Int->Int->V):R2:=λx y H Q=>∃i j,x=.int i/\y=.int j/\Q (g i j) H
section
variable {X:Cx}{a b c:Expr}{ta tb tc:TE}{pos:Pos}
theorem wj3(ha:PE X a ta)(hb:PE X b tb){pins:List (Addr×Obj)}{s:Shared}{σ:St}{H:Hp}{R:V->V->Hp->Prop}(I:Inv X pins σ H s)
  (h:ta σ H λx H1=>tb σ H1 λy H2=>R x y H2) {Q:Value->Shared->Prop} {f:Value->Value->Sem Value}
  (hf:∀v u s2 x y H2,Inv X pins σ H2 s2->RelV x v->RelV y u->R x y H2->wpAny (model X.prog X.w) X.A (f v u) Q X.xe s2):
  wpAny (model X.prog X.w) X.A (eval a X.env) (λv s₁=>wpAny (model X.prog X.w) X.A (eval b X.env) (λu s₂=>wpAny (model X.prog X.w) X.A (f v u) Q X.xe s₂) X.xe s₁) X.xe s:=by
 refine thn (ha pins s σ H _ I h) λv s1 ⟨x,H1,I1,r1,q1⟩=>?_
 refine thn (hb pins s1 σ H1 _ I1 q1) λu s2 ⟨y,H2,I2,r2,q2⟩=>?_
 exact hf v u s2 x y H2 I2 r1 r2 q2
theorem vz9{op:Operator}{r:R2}(ho:OpR X (binaryOp op) r)(ha:PE X a ta)(hb:PE X b tb):PE X (.BinOp a op b pos) (tOp r ta tb):=by
 intro pins s σ H Q I h;exact wpAny_BinOp (wj3 ha hb I h λv u s2 x y H2 I2 rx ry q=>ho pins s2 σ H2 x y v u Q I2 rx ry q)
theorem opI{f:Value->Value->Sem Value}{C:Int->Int->Prop}{g:Int->Int->Int}
  (gm:∀(i j:Int) (t u:Tok) (s:Shared) (Q:Value->Shared->Prop) (E:Value->Shared->Prop),C i j->Q (.int (g i j) s.toks) { s with toks:=s.toks+1 }->wpAny (model X.prog X.w) X.A (f (.int i t) (.int j u)) Q E s):
  OpR X f (rI C λi j=>.int (g i j)):=by
 intro pins s σ H x y v u Q I rx ry h;obtain⟨i,j,rfl,rfl,hc,q⟩:=h;obtain⟨t,rfl⟩:=rx;obtain⟨t',rfl⟩:=ry;exact gm i j t t' s _ _ hc ⟨.int (g i j),H,I.tok _,⟨_,rfl⟩,q⟩
theorem opI0{f:Value->Value->Sem Value}{g:Int->Int->Int}
  (gm:∀(i j:Int) (t u:Tok) (s:Shared) (Q:Value->Shared->Prop) (E:Value->Shared->Prop),Q (.int (g i j) s.toks) { s with toks:=s.toks+1 }->wpAny (model X.prog X.w) X.A (f (.int i t) (.int j u)) Q E s):
  OpR X f (rI0 λi j=>.int (g i j)):=by
 intro pins s σ H x y v u Q I rx ry h;obtain⟨i,j,rfl,rfl,q⟩:=h;obtain⟨t,rfl⟩:=rx;obtain⟨t',rfl⟩:=ry;exact gm i j t t' s _ _ ⟨.int (g i j),H,I.tok _,⟨_,rfl⟩,q⟩
theorem vzc{f:Value->Value->Sem Value}{g:Int->Int->Bool}
  (gm:∀(i j:Int) (t u:Tok) (s:Shared) (Q:Value->Shared->Prop) (E:Value->Shared->Prop),Q (.bool (g i j)) s->wpAny (model X.prog X.w) X.A (f (.int i t) (.int j u)) Q E s):
  OpR X f (rI0 λi j=>.bl (g i j)):=by
 intro pins s σ H x y v u Q I rx ry h;obtain⟨i,j,rfl,rfl,q⟩:=h;obtain⟨t,rfl⟩:=rx;obtain⟨t',rfl⟩:=ry;exact gm i j t t' s _ _ ⟨.bl (g i j),H,I,rfl,q⟩
def wk7(i j:Int):Prop:=0<=j/\j<=1000000/\i.natAbs<2 ^ 64
theorem op_add:OpR X (binaryOp .Add) (rI0 λi j=>.int (i+j)):=opI0 λ_ _ _ _ _ _ _ q=>add_int q
theorem vv5:OpR X (binaryOp .Mod) (rI (λ_ j=>0<j) λi j=>.int (i % j)):=opI λi j _ _ _ _ _ hc q=>by
 have h1:(0:Int)<j:=hc;exact mod_int' (by omega) (by rw[Int.fmod_eq_emod_of_nonneg i (by omega)];exact q)
theorem vv4:OpR X (binaryOp .LShift) (rI wk7 λi j=>.int (i*2 ^ j.toNat)):=opI λ_ _ _ _ _ _ _ hc q=>lshift_int_small hc.1 hc.2.1 hc.2.2 q
end
section
variable {X:Cx}{a b c:Expr}{ta tb tc:TE}{pos:Pos}
theorem kz9{pins:List (Addr×Obj)}{σ:St}{H:Hp}{s:Shared}{Q:VK}{k k':Bool}(I:Inv X pins σ H s)(q:Q (.bl k) H)(e:k=k'):EP X pins σ Q (.bool k') s:=by
 subst e;exact⟨.bl k,H,I,rfl,q⟩
theorem qzz:OpR X (compareOp .Lt) (rI0 λi j=>.bl (decide (i<j))):=vzc λ_ _ _ _ _ _ _ q=>lt_int q
theorem QZ:OpR X (compareOp .LtE) (rI0 λi j=>.bl (decide (i<=j))):=vzc λ_ _ _ _ _ _ _ q=>le_int q
theorem vv7:OpR X (compareOp .Gt) (rI0 λi j=>.bl (decide (j<i))):=vzc λ_ _ _ _ _ _ _ q=>gt_int q
theorem qkw:OpR X (compareOp .In) (λx y H Q=>∃i j,x=.str i/\y=.str j/\Q (.bl (!(Builtin.Str.occurrences j i 0 j.length 1).isEmpty)) H):=by
 intro pins s σ H x y v u Q I rx ry h;obtain⟨i,j,rfl,rfl,q⟩:=h;obtain⟨t,rfl⟩:=rx;obtain⟨t',rfl⟩:=ry;exact in_str (kz9 I q rfl)
theorem vv6 : OpR X (compareOp .Is) (λx y H Q=>y = .non /\ Q (.bl (decide (x = .non))) H):= by
  intro pins s σ H x y v u Q I rx ry h;obtain⟨rfl, q⟩:= h;cases ry;refine is_none_gen (kz9 I q ?_);cases x <;> first
    |(cases rx; rfl)
    |(obtain⟨t, rfl⟩:= rx; rfl)
theorem OpR.or{f:Value->Value->Sem Value}{r r':R2}(h:OpR X f r)(h':OpR X f r'):OpR X f (λx y H Q=>r x y H Q\/r' x y H Q):=by
 intro pins s σ H x y v u Q I rx ry q;rcases q with q|q
 ·exact h pins s σ H x y v u Q I rx ry q
 ·exact h' pins s σ H x y v u Q I rx ry q
theorem kK(b:Expr){op:CmpOp}(h:autoParam (op≠.In) ŕ)(h2:autoParam (op≠.NotIn) ŕ):behindInMarks op b=false:=by
 have e1:(op==CmpOp.In)=false:=by cases op<;>first|rfl|exact absurd rfl h
 have e2:(op==CmpOp.NotIn)=false:=by cases op<;>first|rfl|exact absurd rfl h2
 cases b<;>simp[behindInMarks,e1,e2]
theorem qzs{op:CmpOp}{r:R2}(ho:OpR X (compareOp op) r)(ha:PE X a ta)(hb:PE X b tb)(hm:behindInMarks op b=false):PE X (.Compare a [op] [b] pos) (tOp r ta tb):=by
 intro pins s σ H Q I h;exact wpAny_Compare1 (wj3 ha hb I h λv u s2 x y H2 I2 rx ry q=>ho pins s2 σ H2 x y v u Q I2 rx ry q) hm
abbrev vkh(t:TE):TT:=fun σ H Q=>t σ H λx H'=>∃k,x=.bl k/\Q k H'
theorem qzi{op:CmpOp}{r:R2}(ho:OpR X (compareOp op) r)(ha:PE X a ta)(hb:PE X b tb)(hm:behindInMarks op b=false):PT X (.Compare a [op] [b] pos) (vkh (tOp r ta tb)):=by
 intro pins s σ H Q I h;refine wpAny_isTrue_Compare1 (thn (ha pins s σ H _ I h) λv s1 ⟨x,H1,I1,r1,q1⟩=>thn (hb pins s1 σ H1 _ I1 q1) λu s2 ⟨y,H2,I2,r2,q2⟩=>
  thn (ho pins s2 σ H2 x y v u _ I2 r1 r2 q2) λc s3 ⟨z,H3,I3,r3,k,e,q3⟩=>?_) hm
 subst e;cases r3;exact Yj ⟨H3,I3,q3⟩
abbrev qjs(r r':R2)(ta tb tc:TE):TE:=fun σ H Q=>ta σ H λx H1=>tb σ H1 λy H2=>r x y H2 λz H3=>∃k,z=.bl k /\
 (if k=true then tc σ H3 λw' H4=>r' y w' H4 Q else Q (.bl false) H3)
theorem qw0{op gj:CmpOp}{r r':R2}(ho:OpR X (compareOp op) r)(ft:OpR X (compareOp gj) r')(ha:PE X a ta)(hb:PE X b tb)(hc:PE X c tc)
  (hm:lastMarks [op,gj] [b,c]=false:=by with_unfolding_all rfl):PE X (.Compare a [op,gj] [b,c] pos) (qjs r r' ta tb tc):=by
 intro pins s σ H Q I h;refine Compare_chain (thn (ha pins s σ H _ I h) λv s1 ⟨x,H1,I1,r1,q1⟩=>chain_link (thn (hb pins s1 σ H1 _ I1 q1) λu s2 ⟨y,H2,I2,r2,q2⟩=>
  thn (ho pins s2 σ H2 x y v u _ I2 r1 r2 q2) λd s3 ⟨z,H3,I3,r3,k,e,q3⟩=>?_)) hm
 subst e;cases r3;refine Yj ?_;cases k with
 |false=>exact ite_ff ⟨.bl false,H3,I3,rfl,q3⟩
 |true=>exact ite_tt (chain_last (thn (hc pins s3 σ H3 _ I3 q3) λw' s4 ⟨z',H4,I4,r4,q4⟩=>ft pins s4 σ H4 y z' u w' Q I4 r2 r4 q4))
theorem qvw{op gj:CmpOp}{r r':R2}(ho:OpR X (compareOp op) r)(ft:OpR X (compareOp gj) r')(ha:PE X a ta)(hb:PE X b tb)(hc:PE X c tc)
  (hm:lastMarks [op,gj] [b,c]=false:=by with_unfolding_all rfl):PT X (.Compare a [op,gj] [b,c] pos) (vkh (qjs r r' ta tb tc)):=by
 intro pins s σ H Q I h;refine isTrue_chain (thn (ha pins s σ H _ I h) λv s1 ⟨x,H1,I1,r1,q1⟩=>test_link (thn (hb pins s1 σ H1 _ I1 q1) λu s2 ⟨y,H2,I2,r2,q2⟩=>
  thn (ho pins s2 σ H2 x y v u _ I2 r1 r2 q2) λd s3 ⟨z,H3,I3,r3,k,e,q3⟩=>?_)) hm
 subst e;cases r3;refine Yj ?_;cases k with
 |false=>
  obtain⟨k',e',q'⟩:=q3;cases e';exact ite_ff ⟨H3,I3,q'⟩
 |true=>
  refine ite_tt (test_last (thn (hc pins s3 σ H3 _ I3 q3) λw' s4 ⟨z',H4,I4,r4,q4⟩=>thn (ft pins s4 σ H4 y z' u w' _ I4 r2 r4 q4) λd' s5 ⟨z2,H5,I5,r5,k2,e2,q5⟩=>?_));subst e2;cases r5;exact Yj ⟨H5,I5,q5⟩
noncomputable def vxg(K:PySem.W.Frag)(x:V)(H:Hp)(k:Bool):Prop:=
 match x with
 |.non=>k=false
 |.bl b=>k=b
 |.int i=>k=(i != 0)
 |.str y=>y.length<=sizeLine/\k=((y.length:Int) != 0)
 |.byt y=>y.size<=sizeLine/\k=((y.size:Int) != 0)
 |.ref p=>(∃xs,SqL K H p xs/\k=!xs.isEmpty)\/(∃xs,SqT K H p xs/\k=!xs.isEmpty)\/∃ai,H p=some (.dK ai)/\k=!ai.isEmpty
 |_=>False
theorem qj6{κ:Type}{ai:List (κ×V)}{vs:List (κ×Value)}(r:KV ai vs):(!vs.isEmpty)=!ai.isEmpty:=by
 cases r<;>rfl
theorem kke{xs:List V}{aa:List Value}(r:Vals xs aa):(!aa.toArray.isEmpty)=!xs.isEmpty:=by
 cases r<;>simp
theorem W9:(sizeLine:Nat)<2 ^ 63:=by rw[sizeLine_eq];decide
theorem qx0:TruR X (λx H Q=>∃k,vxg X.K x H k/\Q k H):=by
 intro pins s σ H x v Q I rx h;obtain⟨k,e,q⟩:=h;have hl:=W9;have hs:sizeLine=16777216:=sizeLine_eq;cases x with
 | non=>
  cases rx;have e':k=false:=e;subst e';exact truthy_none ⟨H,I,q⟩
 | bl b=>
  cases rx;have e':k=b:=e;subst e';exact Yj ⟨H,I,q⟩
 | int i=>
  obtain⟨t,rfl⟩:=rx;have e':k=(i != 0):=e;subst e';exact PySem.P.truthy_int ⟨H,I,q⟩
 | str y=>
  obtain⟨t,rfl⟩:=rx;obtain⟨hy,e'⟩:y.length<=sizeLine/\k=((y.length:Int) != 0):=e;subst e';exact PySem.P.truthy_str (by omega) ⟨H,I.tok _,q⟩
 | byt y=>
  obtain⟨t,rfl⟩:=rx;obtain⟨hy,e'⟩:y.size<=sizeLine/\k=((y.size:Int) != 0):=e;subst e';exact PySem.W.truthy_bytes (by omega) ⟨H,I.tok _,q⟩
 | ref p=>
  cases rx;have e':(∃xs,SqL X.K H p xs/\k=!xs.isEmpty)\/(∃xs,SqT X.K H p xs/\k=!xs.isEmpty)\/∃ai,H p=some (.dK ai)/\k=!ai.isEmpty:=e;rcases e' with⟨xs,hx,e'⟩|⟨xs,hx,e'⟩|⟨ai,hx,e'⟩
  ·subst e';obtain⟨aa,r,pl,hz⟩:=I.list hx;have ac:=r.length;exact wpAny_truthy_list pl.isList (by simp only[X7];omega) ⟨H,I.tok _,by rw[kke r];exact q⟩
  ·subst e';obtain⟨aa,r,pl,hz⟩:=I.tuple hx;have ac:=r.length;exact truthy_tuple pl (by simp only[X7];omega) ⟨H,I.tok _,by rw[kke r];exact q⟩
  ·subst e';obtain⟨hz,hS,vs,r,m⟩:ai.length<=sizeLine/\(p==sysModules)=false/\∃vs,KV ai vs/\s.heap.DictOf (kqa X.prog X.w) p vs:=I.hok p _ hx;have ac:ai.length=vs.length:=Paired.length r;exact wpAny_truthy_dict hS m (by omega) ⟨H,I.tok _,by rw[qj6 r];exact q⟩
 |_=>exact(show False from e).elim
theorem qvv(ha:PE X a ta)(he:∀dz,isTrue a X.env dz=(do let v <-dz;standAt a.pos;holding [v] (truthy v))):
  PT X a (fun σ H Q=>ta σ H λx H'=>∃k,vxg X.K x H' k/\Q k H'):=by
 intro pins s σ H Q I h;exact isTrue_plain (thn (ha pins s σ H _ I h) λv s1 ⟨x,H1,I1,r1,q1⟩=>qx0 pins s1 σ H1 x v Q I1 r1 q1) (he _)
theorem op_add_str:OpR X (binaryOp .Add) (λx y H Q=>∃i j,x=.str i/\y=.str j/\i.length+j.length<=sizeLine/\Q (.str (i++j)) H):=by
 intro pins s σ H x y v u Q I rx ry h;obtain⟨i,j,rfl,rfl,hz,q⟩:=h;obtain⟨t,rfl⟩:=rx;obtain⟨t',rfl⟩:=ry;exact add_str (λt' tk=>⟨.str (i++j),H,I.tok _,⟨_,rfl⟩,q⟩) hz
theorem J8{x:V}{us:List Value}(r:Vals [x] us):∃u,us=[u]/\RelV x u:=by
 cases r with
 |cons r1 r2=>cases r2;exact⟨_,rfl,r1⟩
theorem qjq{x y:V}{us:List Value}(r:Vals [x,y] us):∃u w',us=[u,w']/\RelV x u/\RelV y w':=by
 cases r with
 |cons r1 r2=>
  cases r2 with
  |cons r3 r4=>cases r4;exact⟨_,_,rfl,r1,r3⟩
end
structure ObjM (h:Heap)(x dx C:Addr)(mA:Str->Option Value):Prop where
 obj:h.get? x=some (PySem.W.instObj C dx)
 ns:h.Ns1 dx mA
 ne:dx≠x
theorem qq3{h:Heap}{dx:Addr}{mA:Str->Option Value}(n:h.Ns1 dx mA):∃od,h.get? dx=some od/\∀name,PySem.W.lookIn name od=some (mA name):=by
 obtain⟨o,es,ep,ho,hd,hk,_,hm⟩:=n;refine⟨o,ho,λname=>?_⟩;have e:=hm name;unfold nsFind findBy at e;rw[<-Array.find?_toList]at e;unfold PySem.W.lookIn;rw[hd];dsimp only
 split
 ·rename_i y q;rw[q]at e;exact congrArg some e
 ·rename_i q;rw[q]at e;have a:es.toList.any (·.refKey)=false:=by
   rw[List.any_eq_false];intro y hy;obtain⟨z,t,jr⟩:=hk y (Array.mem_toList_iff.mp hy);simp[DictEntry.refKey,jr]
  have a':¬es.toList.any (·.refKey)=true:=by rw[a];exact Bool.false_ne_true
  rw[Xm a'];exact congrArg some e
theorem ObjM.look{h:Heap}{x dx C:Addr}{mA:Str->Option Value}(I:ObjM h x dx C mA):∃od,PySem.W.InstAt h x (PySem.W.instObj C dx) C (some od)/\∀name,PySem.W.lookIn name od=some (mA name):=
 let ⟨od,ho,hl⟩:=qq3 I.ns
 ⟨od,⟨I.obj,rfl,rfl,ho⟩,hl⟩
section
variable {P:Program}{w:World}{H H':Hp}{h h':Heap}{a C dx:Addr}{fs fs':List (Str×V)}
theorem vji(hok:HOk P w H h)(e:H a=some (.ins C dx fs)):∃mA,ObjM h a dx C mA/\(∀f,wj5 (fs.lookup f) (mA f))/\PySem.Within mA (fs.map (·.1))/\fs.length<=1000/\H dx=some (.own a):=by
 obtain⟨d,z,ne,ob,mA,n,r,q⟩:=(show ObjOk P w H h a (.ins C dx fs)from hok a _ e);exact⟨mA,⟨ob,n,ne⟩,r,q,z,d⟩
end
structure Cls (K:PySem.W.Frag)(C:Addr):Prop where
 pg:PySem.W.plainGet K C Str.empty=true
 hd:PySem.W.hasDictIn K C=true
 po:PySem.W.plainOver K C=true
 sa:PySem.W.findIn K (.ref C) "__setattr__"=some (some (.builtin "object.__setattr__"))
theorem Cls.get{K:PySem.W.Frag}{C:Addr}(c:Cls K C)(f:Str):PySem.W.plainGet K C f=true:=c.pg
section
variable {X:Cx}{pins:List (Addr×Obj)}{σ:St}{H:Hp}{s:Shared}{A:Around}{E:Value->Shared->Prop}{Q:Value->Shared->Prop}{c:Value}{b:Bool}
inductive TyOf (K:PySem.W.Frag)(H:Hp):V->Value->Prop where
 | non:TyOf K H .non (.type "NoneType")
 | bl (x:Bool):TyOf K H (.bl x) (.type "bool")
 | int (i:Int):TyOf K H (.int i) (.type "int")
 | str (x:Str):TyOf K H (.str x) (.type "str")
 | flt (x:UInt64):TyOf K H (.flt x) (.type "float")
 | lst {a:Addr} {xs:List V} (e:H a=some (.lst xs)):TyOf K H (.ref a) (.type "list")
 | frz {a:Addr} {o:Obj} {xs:List V} (e:H a=some (.frz o (.lst xs))):TyOf K H (.ref a) (.type "list")
 | tup {a:Addr} {xs:List V} (e:H a=some (.tup xs)):TyOf K H (.ref a) (.type "tuple")
 | dK {a:Addr} {ai:List (Key×V)} (e:H a=some (.dK ai)):TyOf K H (.ref a) (.type "dict")
 | dT {a:Addr} {ai:List (List Key×V)} (e:H a=some (.dT ai)):TyOf K H (.ref a) (.type "dict")
 | ins {a C dx:Addr} {fs:List (Str×V)} (e:H a=some (.ins C dx fs)) (cl:Cls K C) (ha:PySem.W.findIn K (.ref C) "__class__"=some (some (.builtin "object.__class__")))
   (hn:PySem.W.specialIn K (.builtin "object.__class__") "__get__"=some (some (.builtin "getset_descriptor.__get__"))) (htk:PySem.W.takesIn K (.builtin "object.__class__")=some true)
   (hm:PySem.W.mroIn K C (.type "object")=some true):TyOf K H (.ref a) (.ref C)
theorem qqf{x:V}{u t:Value}(I:Inv X pins σ H s)(rx:RelV x u)(ty:TyOf X.K H x t)(e:PySem.W.kitOne X.K t c=some b)(h:∀tk,Q (.bool b) { s with toks:=tk }):
  wpAny (model X.prog X.w) A (call (.builtin "isinstance") [u,c]) Q E s:=by
 cases ty with
 |non=>cases(show u=Value.none from rx);exact Y5 PySem.W.kitx_none I.kIn True.intro e (λz=>nomatch z) h
 |bl y=>cases(show u=Value.bool y from rx);exact Y5 PySem.W.kitx_bool I.kIn True.intro e (λz=>nomatch z) h
 |int i=>obtain⟨t,q⟩:=(show ∃t,u=Value.int i t from rx);cases q;exact Y5 PySem.W.kitx_int I.kIn True.intro e (λz=>nomatch z) h
 |str y=>obtain⟨t,q⟩:=(show ∃t,u=Value.str y t from rx);cases q;exact Y5 PySem.W.kitx_str I.kIn True.intro e (λz=>nomatch z) h
 |flt y=>obtain⟨t,q⟩:=(show ∃t,u=Value.float y t from rx);cases q;exact Y5 PySem.W.kitx_float I.kIn True.intro e (λz=>nomatch z) h
 |@lst a xs ea=>
  cases(show u=Value.ref a from rx);obtain⟨_,_,n,_,h1⟩:=(show ObjOk X.prog X.w H s.heap a (.lst xs)from I.hok a _ ea);exact Y5 PySem.W.kitx_list I.kIn ⟨_,h1,rfl⟩ e (λz=>nomatch z) h
 |@frz a ob xs ea=>
  cases(show u=Value.ref a from rx);obtain⟨_,_,_,n,_,h1⟩:=(show ObjOk X.prog X.w H s.heap a (.frz ob (.lst xs))from I.hok a _ ea);exact Y5 PySem.W.kitx_list I.kIn ⟨_,h1,rfl⟩ e (λz=>nomatch z) h
 |@tup a xs ea=>
  cases(show u=Value.ref a from rx);obtain⟨_,_,_,p⟩:=(show ObjOk X.prog X.w H s.heap a (.tup xs)from I.hok a _ ea);obtain⟨o,h1,h2,_⟩:=p;exact Y5 PySem.W.kitx_tuple I.kIn ⟨o,h1,h2⟩ e (λz=>nomatch z) h
 |@dK a ai ea=>
  cases(show u=Value.ref a from rx);obtain⟨_,_,vs,_,p⟩:=(show ObjOk X.prog X.w H s.heap a (.dK ai)from I.hok a _ ea);obtain⟨o,es,ep,h1,h2,_⟩:=p;exact Y5 PySem.W.kitx_dict I.kIn ⟨o,h1,h2.1⟩ e (λz=>nomatch z) h
 |@dT a ai ea=>
  cases(show u=Value.ref a from rx);obtain⟨_,_,xs,_,o,es,ep,h1,h2,_⟩:=(show ObjOk X.prog X.w H s.heap a (.dT ai)from I.hok a _ ea);exact Y5 PySem.W.kitx_dict I.kIn ⟨o,h1,h2.1⟩ e (λz=>nomatch z) h
 |@ins a C dx fs ea cl ha hn htk hm=>
  cases(show u=Value.ref a from rx);obtain⟨mA,O,_⟩:=vji I.hok ea;obtain⟨od,J,_⟩:=O.look;exact Y5 (PySem.W.kitx_own (cl.get _) cl.hd ha hn htk hm) I.kIn J e (λz=>nomatch z) h
end
structure Room (k:Nat)(A:Around):Prop where
 hd:A.handled=none
 dp:A.depth+3*k+5<recursionLimit
 un:A.units+16*k+200<cLine
 gd:A.guards=some []
theorem Room.mono{j k:Nat}{A:Around}(r:Room k A)(h:j<=k):Room j A:=⟨r.hd,by have:=r.dp;omega,by have:=r.un;omega,r.gd⟩
theorem Room.deeper{k:Nat}{A:Around}(r:Room (k+1) A)(env:Env):Room k (A.deeper env):=
 ⟨r.hd,by have:=r.dp;show A.depth+1+3*k+5<_;omega,by have:=r.un;show A.units+3+16*k+200<_;omega,r.gd⟩
theorem Room.depth{k:Nat}{A:Around}(r:Room k A):A.depth<recursionLimit:=by have:=r.dp;omega
theorem Room.units{k:Nat}{A:Around}(r:Room k A):A.units+64<cLine:=by have:=r.un;omega
abbrev wjb:TA:=λ_ H Q=>Q [] H
abbrev vkj(ta:TE)(tr:TA):TA:=fun σ H Q=>ta σ H λx H1=>tr σ H1 λxs H2=>Q (x::xs) H2
section
variable {X:Cx}{e:Expr}{es:List Expr}{te:TE}{t:TA}{pos:Pos}
theorem ww:PA X [] wjb:=λ_ _ _ _ H Q I h=>Calls.spliced_nil ⟨[],H,I,.nil,h⟩
theorem vZ(ha:PE X e te)(hr:PA X es t)(hs:autoParam (starEach (e::es) X.env=(false,eval e X.env)::starEach es X.env) Ŕ):PA X (e::es) (vkj te t):=by
 intro pos pins s σ H Q I h;rw[hs];show wpAny _ _ (spliced ((false,eval e X.env)::backTo pos (starEach es X.env))) _ _ s;refine Calls.spliced_cons (thn (ha pins s σ H _ I h) λu s1 ⟨x,H1,I1,r1,q1⟩=>?_);exact thn (hr pos pins s1 σ H1 _ I1 q1) λus s2 ⟨xs,H2,I2,r2,q2⟩=>⟨x::xs,H2,I2,.cons r1 r2,q2⟩
abbrev tTup(t:TA):TE:=fun σ H Q=>t σ H λxs H1=>xs.length<=sizeLine/\∀p,H1 p=none->Q (.ref p) (upd H1 p (.tup xs))
abbrev tLst(t:TA):TE:=fun σ H Q=>t σ H λxs H1=>xs.length<=sizeLine/\∀p,H1 p=none->Q (.ref p) (upd H1 p (.lst xs))
theorem vqt{x1}(h:PA X es t):PE X (.Tuple es x1 pos) (tTup t):=by
 intro pins s σ H Q I hq;refine wpAny_Tuple_spliced (thn (h pos pins s σ H _ I hq) λus s1 ⟨xs,H1,I1,r,z,q⟩=>⟨by rw[<-r.length];exact z,?_⟩);have hf:H1 s1.heap.objs.size=none:=I1.hok.fresh (Xd _);refine⟨.ref s1.heap.objs.size,upd H1 s1.heap.objs.size (.tup xs),I1.laid (t':=s1.toks) (λb u e=>X1 _ e) (Xd _) ?_,rfl,q _ hf⟩;exact⟨z,us,r,⟨_,X8 _ rfl,rfl,rfl,_,rfl⟩⟩
theorem vqw(h:PA X es t):PE X (.List es pos) (tLst t):=by
 intro pins s σ H Q I hq;refine wpAny_List_spliced (thn (h pos pins s σ H _ I hq) λus s1 ⟨xs,H1,I1,r,z,q⟩=>⟨by rw[<-r.length];exact z,?_⟩);have hf:H1 s1.heap.objs.size=none:=I1.hok.fresh (Xd _);refine⟨.ref s1.heap.objs.size,upd H1 s1.heap.objs.size (.lst xs),I1.laid (t':=s1.toks) (λb u e=>X1 _ e) (Xd _) ?_,rfl,q _ hf⟩;exact⟨z,us,0,r,X8 _ rfl⟩
end
abbrev Sp:=List V->Hp->VK->XK->Prop
abbrev CXT:=List Env->Hp->Shared->XK->Value->Shared->Prop
structure Env0 (P:Program)(w:World)(K:PySem.W.Frag)(mg:Str->Option Value)(base:Heap)(A:Around)(outer:List Env)(s:Shared)(H:Hp):Prop where
 frames:A.frames=some outer
 mod:Mod K mg base
 bs:∀b o,base.get? b=some o->s.heap.get? b=some o/\H b=none
 bsz:base.objs.size<=s.heap.objs.size
 funs:s.heap.FunFrames base outer
 frf:∀b∈frs outer,H b=none
 hok:HOk P w H s.heap
 bare:AllBare s.gens
noncomputable def CE(outer:List Env)(P:Program)(w:World)(H:Hp)(s:Shared)(Q:VK)(u:Value)(s':Shared):Prop:=
 ∃v H',s'.os=s.os/\AllBare s'.gens/\Un (frs outer) [] H H' s.heap s'.heap/\HOk P w H' s'.heap/\RelV v u/\Q v H'
noncomputable def CR(CX:CXT)(outer:List Env)(P:Program)(w:World)(H:Hp)(s:Shared)(Q:VK)(E:XK)(r:Result)(s':Shared):Prop:=
 match r with
 |.ok (.ret u)=>CE outer P w H s Q u s'
 |.ok _=>False
 |.error e=>CX outer H s E e s'
structure FnOk (P:Program)(w:World)(K:PySem.W.Frag)(mg:Str->Option Value)(base:Heap)(CX:CXT)(k:Nat)(f:Addr)(fd:FuncData)(ps:List Str)(sp:Sp):Prop where
 len:∀vs H Q E,sp vs H Q E->vs.length=ps.length
 run:∀(A:Around) (outer:List Env) (s:Shared) (H:Hp) (args:Args) (us:List Value) (vs:List V) (Q:VK) (E:XK),Room k A->Env0 P w K mg base A outer s H->BindsTo s fd args (ps.zip us)->Vals vs us->sp vs H Q E ->
  codeAny (model P w) A (.call (.ref f) args) (CR CX outer P w H s Q E) s
section
variable {X:Cx}{pins:List (Addr×Obj)}{σ:St}{H:Hp}{s s':Shared}
theorem Inv.env0(I:Inv X pins σ H s):Env0 X.prog X.w X.K X.mg X.base X.A X.stack s H:=
 ⟨I.ok.frames,I.ok.mod,I.bs,Y6 I.ok.bsz I.sz,I.stack,I.stkFree,I.hok,I.bare⟩
theorem Inv.after{Q:VK}{u:Value}(I:Inv X pins σ H s)(h:CE X.stack X.prog X.w H s Q u s'):EP X pins σ Q u s':=by
 obtain⟨v,H',os,bare,un,hok,r,q⟩:=h;obtain⟨hh,g,d,t,os'⟩:=s';obtain rfl:os'=s.os:=os;exact⟨v,H',I.call (h':=hh) (g':=g) (d':=d) (t':=t) (ch:=[]) un hok bare (λb z=>absurd z (by simp)),r,q⟩
end
abbrev vkk(sp:Sp)(lc:List V)(E:XK)(t:TA):TE:=fun σ H Q=>t σ H λvs H1=>sp (vs++lc) H1 Q E
noncomputable def Binds(K:PySem.W.Frag)(fd:FuncData)(ps:List Str)(ds:List Value):Prop:=
 ∀(s:Shared) (us:List Value),K.In s.heap->(us++ds).length=ps.length->BindsTo s fd ⟨us,[]⟩ (ps.zip (us++ds))
theorem Binds.all{K:PySem.W.Frag}{fd:FuncData}{ps:List Str}(h:∀us:List Value,us.length=ps.length->bindArgs fd ⟨us,[]⟩=pure (ps.zip us)):Binds K fd ps []:=λs us _ hl=>by
 rw[Y9]at hl ⊢;exact .of_eq (h us hl)
noncomputable def qve(CX:CXT)(X:Cx)(E:XK):Prop:=∀(pins:List (Addr×Obj)) (σ:St) (H:Hp) (s:Shared) (e:Value) (s':Shared),Inv X pins σ H s->CX X.stack H s E e s'->X.xe e s'
section
variable {X:Cx}{CX:CXT}{k:Nat}{f C:Addr}{fd:FuncData}{ps:List Str}{sp:Sp}{lc:List V}{ds:List Value}{E:XK}{x m:Str}{p pos av:Pos}{e o:Expr}{es:List Expr}{ta:TE}{t:TA}
theorem vkz{pins:List (Addr×Obj)}{σ:St}{H:Hp}{s:Shared}{Q:VK}{us:List Value}{vs:List V}(F:FnOk X.prog X.w X.K X.mg X.base CX k f fd ps sp)(hr:Room k X.A)(hb:Binds X.K fd ps ds)(hd:Vals lc ds)(hx:qve CX X E)
  (I:Inv X pins σ H s) (r:Vals vs us) (h:sp (vs++lc) H Q E):wpAny (model X.prog X.w) X.A (call (.ref f) us) (EP X pins σ Q) X.xe s:=by
 have r2:Vals (vs++lc) (us++ds):=r.append hd;have hl:(us++ds).length=ps.length:=by rw[<-r2.length];exact F.len _ _ _ _ h
 refine wpAny_call (codeAny_mono (F.run X.A X.stack s H ⟨us,[]⟩ (us++ds) (vs++lc) Q E hr I.env0 (hb s us I.kIn hl) r2 h) λr s' hq=>?_);cases r with
 |error e=>exact hx pins σ H s e s' I hq
 |ok fl=>
  cases fl with
  |ret u=>exact I.after hq
  |next=>exact False.elim hq
  |brk=>exact False.elim hq
  |cont=>exact False.elim hq
theorem qzt(F:FnOk X.prog X.w X.K X.mg X.base CX k f fd ps sp)(hr:Room k X.A)(hg:Gl X x)(hm:X.mg x=some (.ref f))(hk:PySem.W.keepIn X.K (.ref f)=true)(hb:Binds X.K fd ps ds)(hd:Vals lc ds)(hx:qve CX X E)
  (ha:PA X (e::es) t) (eh:autoParam ((x==("__debug__":Str))=false) ŕ) (he:autoParam (starEach (e::es) X.env=(false,eval e X.env)::starEach es X.env) Ŕ) (bo:autoParam ((backTo pos (starEach es X.env)).any (·.1)=false) Ŕ):
  PE X (.Call (.Name x p) (e::es) [] pos) (vkk sp lc E t):=by
 intro pins s σ H Q I h;refine wpAny_Call_Name_kw (qq7 I hg hm ?_ eh);refine PySem.W.callWith_K (h₀:=X.base) I.ok.mod.kin hk (thn (ha pos pins s σ H _ I h) λus s1 ⟨vs,H1,I1,r,q⟩=>⟨I1.kIn,?_⟩) he bo;exact vkz F hr hb hd hx I1 r q
end
structure FnScope (N P:List Str)(sc:Scope):Prop where
 kind:sc.kind=.function
 co:sc.isCoroutine=false
 gen:sc.isGenerator=false
 nd:N.Nodup
 pre:N.take P.length=P
 par:∀x∈P,sc.names.lookup x=some .local\/sc.names.lookup x=some .cell
 nofree:∀y∈sc.names,y.2≠.free
theorem kw7{kindOf : Str -> Option NameKind}{x : Str}: ∀{binds : List (Str × Value)} {m : Str -> Option Value}, (∀v, (x, v)∉binds) -> bindL kindOf binds m x = m x
  | [], _, _=>rfl
  | (n, v)::r, m, h=>by
    unfold bindL;rw[kw7 λw hw=>h w (lc9 _ hw)]
    split
    · have : x≠n:= by rintro rfl; exact h v X3
      simp[this]
    · rfl
theorem kw9{kindOf : Str -> Option NameKind}{x : Str}: ∀{binds : List (Str × Value)} {m : Str -> Option Value}, (∀v, (x, v)∉binds) -> bindC kindOf binds m x = m x
  | [], _, _=>rfl
  | (n, v)::r, m, h=>by
    unfold bindC;rw[kw9 λw hw=>h w (lc9 _ hw)]
    split
    · rfl
    · have : x≠n:= by rintro rfl; exact h v X3
      simp[this]
theorem kw8{kindOf:Str->Option NameKind}{x:Str}{v:Value}:∀{P:List Str} {vs:List Value} {i:Nat} {m:Str->Option Value},P.Nodup->P[i]?=some x->vs[i]?=some v->kindOf x=some .local ->
  bindL kindOf (P.zip vs) m x=some v
 |[],_,_,_,_,h,_,_=>by simp at h
 |_::_,[],_,_,_,_,h,_=>by simp at h
 |p::P,w::vs,0,m,nd,h1,h2,hk=>by
  simp at h1 h2;subst h1;subst h2;show bindL kindOf ((p,w)::P.zip vs) m p=_;unfold bindL;rw[kw7 λv hv=>(List.nodup_cons.mp nd).1 (List.of_mem_zip hv).1,Xf hk];simp
 |p::P,w::vs,i+1,m,nd,h1,h2,hk=>by
  show bindL kindOf ((p,w)::P.zip vs) m x=_;unfold bindL;exact kw8 (i:=i) (List.nodup_cons.mp nd).2 (by simpa using h1) (by simpa using h2) hk
theorem kwa{kindOf:Str->Option NameKind}{x:Str}{v:Value}:∀{P:List Str} {vs:List Value} {i:Nat} {m:Str->Option Value},P.Nodup->P[i]?=some x->vs[i]?=some v->kindOf x≠some .local ->
  bindC kindOf (P.zip vs) m x=some v
 |[],_,_,_,_,h,_,_=>by simp at h
 |_::_,[],_,_,_,_,h,_=>by simp at h
 |p::P,w::vs,0,m,nd,h1,h2,hk=>by
  simp at h1 h2;subst h1;subst h2;show bindC kindOf ((p,w)::P.zip vs) m p=_;unfold bindC;rw[kw9 λv hv=>(List.nodup_cons.mp nd).1 (List.of_mem_zip hv).1,Xm hk];simp
 |p::P,w::vs,i+1,m,nd,h1,h2,hk=>by
  show bindC kindOf ((p,w)::P.zip vs) m x=_;unfold bindC;exact kwa (i:=i) (List.nodup_cons.mp nd).2 (by simpa using h1) (by simpa using h2) hk
def start(N:List Str)(vs:List V):St:=vs.map some++List.replicate (N.length - vs.length) none
noncomputable def zx(CX:CXT)(P:Program)(w:World)(K:PySem.W.Frag)(mg:Str->Option Value)(base:Heap)(N:List Str)(qual:Str)(scope:Scope)(f:Addr)(cd:Value)(A:Around)(outer:List Env)(s:Shared)(H:Hp)(E:XK):Cx where
 prog:=P
 w:=w
 K:=K
 mg:=mg
 base:=base
 A:=A.deeper (envOfC qual scope s.heap.objs.size f cd)
 N:=N
 s₀:=s
 H₀:=H
 env:=envOfC qual scope s.heap.objs.size f cd
 outer:=outer
 stack:=envOfC qual scope s.heap.objs.size f cd::outer
 ex:=[]
 calm:=true
 fn:=λ_=>true
 pn:=[]
 xe:=λe s'=>wpAny (model P w) (A.deeper (envOfC qual scope s.heap.objs.size f cd)) (leaving (envOfC qual scope s.heap.objs.size f cd) e) (λ_ m5=>CX outer H s E e m5) (λe' m5=>CX outer H s E e' m5) s'
theorem kzg{sc:Scope}{n:Nat}{x:Str}(h:sc.names.lookup x=some .cell):∃c,(cellsFrom n sc.names []).lookup x=some c:=by
 have q:=PySem.W.cellsFrom_some sc.names n [] (.inl h);exact Option.isSome_iff_exists.mp q
theorem qqg{CX:CXT}{P:Program}{w:World}{K:PySem.W.Frag}{mg:Str->Option Value}{base:Heap}{N ps:List Str}{qual:Str}{scope:Scope}{f:Addr}{cd:Value}{A:Around}{outer:List Env}{s s1:Shared}{H:Hp}{E:XK}{us:List Value}{vs:List V}
  (S:FnScope N ps scope) (hd:A.handled=none) (e0:Env0 P w K mg base A outer s H) (hl:vs.length=ps.length) (r:Vals vs us)
  (x:InCallC s s.heap.objs.size (bindL (envOfC qual scope s.heap.objs.size f cd).kindOf (ps.zip us) λ_=>none) (cellsFrom (s.heap.objs.size+1) scope.names []) (bindC (envOfC qual scope s.heap.objs.size f cd).kindOf (ps.zip us) λ_=>none) s1):
  Inv (zx CX P w K mg base N qual scope f cd A outer s H E) [] (start N vs) H s1:=by
 have bo:ps.length<=N.length:=by have:=congrArg List.length S.pre;rw[Yg]at this;omega
 obtain⟨h1,tk,rfl,hk⟩:=x.done;have qc:∀b:Addr,b∉(zx CX P w K mg base N qual scope f cd A outer s H E).ex:=λb z=>absurd (show b∈([]:List Addr)from z) (by simp)
 refine⟨⟨e0.mod,S.kind,rfl,rfl,Xd _,λy z c h1 h2=>?_,λy hy=>?_,λy c _ h=>?_,λ_=>hd,Around.frames_deeper e0.frames,.inr ⟨rfl,rfl⟩,λb z=>absurd z (qc b),e0.bs,e0.bsz,λb _ _=>qc b,λb z=>absurd z (qc b),e0.funs,e0.frf⟩,
  rfl,e0.bare,Un.kept hk,⟨_,x.toInCall.ns,λi y v h1 h2 h3=>?_⟩,λy c h=>⟨_,x.cell y c h⟩,e0.hok.fresh (Xd _),λy c h=>?_,λp hp=>absurd (show p∈([]:List (Addr×Obj))from hp) (by simp),e0.hok.kept hk,?_⟩
 ·exact name_of_addr x.apart (Yl h1) (Yl h2)
 ·have hy:scope.names.lookup y=some .cell\/scope.names.lookup y=some .free:=hy;rcases hy with hy|hy
  ·exact kzg hy
  ·exact absurd rfl (S.nofree _ (Yl hy))
 ·exact Nat.le_of_lt (x.above y c (Yl h))
 ·have hi:i<vs.length:=by
   unfold start at h2
   by_cases hi:i<vs.length
   ·exact hi
   ·rw[List.getElem?_append_right (by simpa using hi)]at h2;rw[List.getElem?_replicate]at h2
    split at h2<;>cases h2
  have ha:vs[i]?=some v:=by
   unfold start at h2;rw[List.getElem?_append_left (by simpa using hi),Xk]at h2;cases e:vs[i]? with
   |none=>rw[e]at h2;cases h2
   |some a=>rw[e]at h2;cases h2;rfl
  obtain⟨u,hu,rv⟩:=r.get ha;have hp:ps[i]?=some y:=by
   rw[<-S.pre,List.getElem?_take_of_lt (by omega)];exact h1
  have ndP:ps.Nodup:=by rw[<-S.pre];exact S.nd.sublist (List.take_sublist _ _)
  refine⟨u,rv,?_⟩;rcases S.par y (Yn hp)with k|k
  ·exact .inl ⟨k,kw8 ndP hp hu k⟩
  ·obtain⟨c,e⟩:=kzg (n:=s.heap.objs.size+1) k;refine .inr ⟨.inl k,c,e,?_⟩;have q:=x.cell y c e;rw[kwa ndP hp hu (by show scope.names.lookup y≠_;rw[k];decide)]at q;exact q
 ·exact e0.hok.fresh (Nat.le_of_lt (x.above y c (Yl h)))
 ·unfold start;show _=N.length;rw[Y3,X6,Yc];omega
theorem vzp{CX:CXT}{P:Program}{w:World}{K:PySem.W.Frag}{mg:Str->Option Value}{base:Heap}{k:Nat}{f:Addr}{name qual:Str}{params:Arguments}{body:List Stmt}{scope:Scope}{dV kV fm pm b9 ct oc:Value}{an od:Option Addr}
  {ld:Array (Option Value)} {N ps:List Str} {sp:Sp} (lk:K.lookup f=some ⟨oc,od,.func (PySem.W.fnOf name qual params body scope dV kV fm pm an b9 ct),ld⟩) (gf:PySem.W.codeIn K b9 qual=true) (S:FnScope N ps scope)
  (len:∀vs H Q E,sp vs H Q E->vs.length=ps.length)
  (ir:∀(A:Around) (outer:List Env) (s:Shared) (H:Hp) (vs:List V) (Q:VK) (E:XK),Room k (A.deeper (envOfC qual scope s.heap.objs.size f b9))->sp vs H Q E ->
   ∃t,PSs (zx CX P w K mg base N qual scope f b9 A outer s H E) body t/\t { nx:=λ_ H'=>Q .non H',rt:=Q } (start N vs) H):
  FnOk P w K mg base CX (k+1) f (PySem.W.fnOf name qual params body scope dV kV fm pm an b9 ct) ps sp:=by
 refine⟨len,λA outer s H args us vs Q E hr e0 hb r ku=>?_⟩;have hl:=len _ _ _ _ ku;have KX:K.In s.heap:=e0.mod.kin.keeps λb o e=>(e0.bs b o e).1
 have lim:s.heap.NoLimit:=e0.mod.nolimit.keeps λb o e=>(e0.bs b o e).1
 have p7:∀y∈ps.zip us,scope.names.lookup y.1=some .local\/(scope.names.lookup y.1=some .cell/\((cellsFrom (s.heap.objs.size+1) scope.names []).lookup y.1).isSome=true):=λ⟨n,v⟩ hy=>by
  rcases S.par n (List.of_mem_zip hy).1 with q|q
  ·exact .inl q
  ·exact .inr ⟨q,PySem.W.cellsFrom_some _ _ _ (.inl q)⟩
 refine codeAny_call_function hr.depth (KX _ _ lk) rfl S.co S.gen rfl (PySem.W.codeRec_of KX gf) (hb _ _ _ _ ?_);refine wpAny_newFunctionEnv_cells S.kind p7 λenv he s1 x=>?_
 subst he;refine⟨lim.keeps x.toInCall.keep,codeAny_func ?_⟩;obtain⟨t,ht,hq⟩:=ir A outer s H vs Q E (hr.deeper _) ku;have I:Inv (zx CX P w K mg base N qual scope f b9 A outer s H E) [] (start N vs) H s1:=qqg S hr.hd e0 hl r x;refine wpAny_mono (ht [] s1 (start N vs) H _ I hq) (λfl s' hs=>?_) λe s' hs=>hs
 have fin:∀{σ':St} {H':Hp} {v:V} {u:Value},Inv (zx CX P w K mg base N qual scope f b9 A outer s H E) [] σ' H' s'->RelV v u->Q v H'->CE outer P w H s Q u s':=
  fun {σ' H' v u} J rv q=>⟨v,H',J.os,J.bare,J.base,J.hok,rv,q⟩
 cases fl with
 |ret u=>
  obtain⟨v,σ',H',J,rv,q⟩:=hs;exact fin J rv q
 |next=>
  obtain⟨σ',H',J,q⟩:=hs;exact fin (v:=V.non) (u:=Value.none) J rfl q
 |brk=>
  obtain⟨_,_,_,q⟩:=hs;exact False.elim q
 |cont=>
  obtain⟨_,_,_,q⟩:=hs;exact False.elim q
section
variable {X:Cx}{x:Str}{p pos:Pos}{e:Expr}{es:List Expr}{t:TA}{id T:String}{r:List V->Hp->VK->Prop}
abbrev tCB(r:List V->Hp->VK->Prop)(t:TA):TE:=fun σ H Q=>t σ H λvs H1=>r vs H1 Q
theorem kxs(hc:CallR X (.builtin id) r)(hg:Gl X x)(hm:X.mg x=none)(hv:bootBuiltins x=some (.builtin id))(ha:PA X (e::es) t)(hn:autoParam (x≠"__name__") ŕ)(eh:autoParam ((x==("__debug__":Str))=false) ŕ)
  (he:autoParam (starEach (e::es) X.env=(false,eval e X.env)::starEach es X.env) Ŕ) (bo:autoParam ((backTo pos (starEach es X.env)).any (·.1)=false) Ŕ):PE X (.Call (.Name x p) (e::es) [] pos) (tCB r t):=by
 intro pins s σ H Q I h;refine wpAny_Call_Name_kw (Q1 I hg hm hv ?_ hn eh);exact PyProof.Rows.callWith_builtin1 (thn (ha pos pins s σ H _ I h) λus s1 ⟨vs,H1,I1,r1,q1⟩=>hc pins s1 σ H1 vs us Q I1 r1 q1) he bo
theorem qkq(hc:CallR X (.type T) r)(hg:Gl X x)(hm:X.mg x=none)(hv:bootBuiltins x=some (.type T))(ha:PA X (e::es) t)(hn:autoParam (x≠"__name__") ŕ)(eh:autoParam ((x==("__debug__":Str))=false) ŕ)
  (he:autoParam (starEach (e::es) X.env=(false,eval e X.env)::starEach es X.env) Ŕ) (bo:autoParam ((backTo pos (starEach es X.env)).any (·.1)=false) Ŕ):PE X (.Call (.Name x p) (e::es) [] pos) (tCB r t):=by
 intro pins s σ H Q I h;refine wpAny_Call_Name_kw (Q1 I hg hm hv ?_ hn eh);exact Yh (thn (ha pos pins s σ H _ I h) λus s1 ⟨vs,H1,I1,r1,q1⟩=>hc pins s1 σ H1 vs us Q I1 r1 q1) he bo
end
end L2
namespace HT
open PySem PyProof.Rows
section
variable {prog:Program}{w:World}{A:Around}{E:Value->Shared->Prop}{s:Shared}
theorem cat_tup{t b:Addr}{vs ws:List Value}{Q:Value->Shared->Prop}(ht:IsTup s.heap t vs.toArray)(hb:IsTup s.heap b ws.toArray)(hv:vs≠[])
  (h1:ws=[]->Q (.ref t) s) (h2:ws≠[]->Q (.ref s.heap.objs.size) { s with heap:=s.heap.push { cls:=.type "tuple",data:=.seq (vs++ws).toArray } })
  (hsz:vs.length+ws.length<=sizeLine):wpAny (model prog w) A (binaryOp .Add (.ref t) (.ref b)) Q E s:=by
 obtain⟨⟨cls,dd,data,sl⟩,ho,hc,n,hd⟩:=id ht;obtain⟨⟨cls2,dd2,data2,js⟩,i5,lh,n2,f9⟩:=id hb;simp only at hc hd lh f9;subst hc hd lh f9;have e:vs.toArray++ws.toArray=(vs++ws).toArray:=by simp
 by_cases hw:ws=[]
 ·exact concat_meets ⟨_,ho,rfl⟩ ⟨_,i5,rfl⟩ noFill_tuple_add seq_tuple_add PySem.F.slot_tuple_add PySem.F.entry_tuple_add (PySem.F.args_tuple_add_2 _ _)
   (tuple_addW1 t b vs.toArray ws.toArray n n2 dd dd2 sl js (by simpa using hv) (by simp[hw])) ⟨ho,i5,h1 hw⟩
 ·refine concat_meets ⟨_,ho,rfl⟩ ⟨_,i5,rfl⟩ noFill_tuple_add seq_tuple_add PySem.F.slot_tuple_add PySem.F.entry_tuple_add (PySem.F.args_tuple_add_2 _ _)
   (tuple_addW2 t b vs.toArray ws.toArray n n2 dd dd2 sl js (by simpa using hv) (by simpa using hw) (by rw[X7,X7];exact hsz)) ⟨ho,i5,?_⟩
  rw[e];exact h2 hw
def sIx(n d:Nat):Option Int->Nat
 |none=>d
 |some v=>if v<0 then(v+(n:Int)).toNat else min v.toNat n
theorem vky(n d:Nat)(hd:d<=n)(o:Option Int):sIx n d o<=n:=by
 cases o with
 |none=>exact hd
 |some v=>
  show(if v<0 then(v+(n:Int)).toNat else min v.toNat n)<=n
  by_cases hv:v<0
  ·rw[Xf hv];omega
  ·rw[Xm hv];exact Nat.min_le_right _ _
theorem qv1(v:Int)(n d:Nat):(if v<0 then max (v+(n:Int)) 0 else min v (n:Int))=((sIx n d (some v):Nat):Int):=by
 show(if v<0 then max (v+(n:Int)) 0 else min v (n:Int))=(((if v<0 then(v+(n:Int)).toNat else min v.toNat n):Nat):Int)
 by_cases hv:v<0
 ·simp only[Xf hv];omega
 ·simp only[Xm hv];omega
theorem qjg(lo hi:Option Int)(n:Nat):Builtin.Slice.sliceAdjust lo hi 1 (n:Int)=(((sIx n 0 lo:Nat):Int),((sIx n n hi:Nat):Int)):=by
 have h1:¬((1:Int)<0):=by omega
 unfold Builtin.Slice.sliceAdjust;simp only[h1,if_false];refine Prod.ext ?_ ?_
 ·cases lo with
  |none=>rfl
  |some v=>exact qv1 v n 0
 ·cases hi with
  |none=>rfl
  |some v=>exact qv1 v n n
theorem kzy(i j:Nat):Builtin.Slice.slicePlaces (i:Int) (j:Int) 1=j - i:=by
 unfold Builtin.Slice.slicePlaces;have h1:(1:Int)>0:=by omega
 simp only[h1,if_true,Int.ediv_one]
 split<;>omega
theorem kk6{v:Value}{o:Option Int}{Q:Option Int->Shared->Prop}(p:IsPart v o)(h:Q o s):wpAny (model prog w) A (Builtin.Slice.slicePartIndex v) Q E s:=by
 cases p with
 |none=>exact slicePart_none h
 |int i t=>exact slicePart_int h
theorem jz5{sl:Addr}{vl vu:Value}{lo hi:Option Int}{n:Nat}{Q:Int×Int×Nat->Shared->Prop}(hs:s.heap.IsSliceOf sl vl vu .none)(pl:IsPart vl lo)(pu:IsPart vu hi)
  (h:Q (((sIx n 0 lo:Nat):Int),1,sIx n n hi - sIx n 0 lo) s):wpAny (model prog w) A (Builtin.Slice.sliceApplied (.ref sl) (pure (n:Int))) Q E s:=by
 obtain⟨os,i8,ic,df⟩:=id hs;unfold Builtin.Slice.sliceApplied Builtin.Slice.sliceFields;refine X0 (X0 (Xy i8 df (x:=vl) rfl (X0 (Xy i8 df (x:=vu) rfl (X0 (Xy i8 df (x:=.none) rfl (X4 ?_)))))));refine X0 (slicePart_none ?_);show wpAny _ _ (if((1:Int)==0)=true then _ else _) _ _ s;rw[Xm (by decide)];refine X0 (kk6 pl (X0 (kk6 pu (X0 (X4 ?_)))));show wpAny _ _ (match Builtin.Slice.sliceAdjust lo hi 1 (n:Int)with|(lo,hi)=>pure (lo,(1:Int),Builtin.Slice.slicePlaces lo hi 1)) _ _ s;rw[qjg lo hi n];show wpAny _ _ (pure (((sIx n 0 lo:Nat):Int),(1:Int),Builtin.Slice.slicePlaces ((sIx n 0 lo:Nat):Int) ((sIx n n hi:Nat):Int) 1)) _ _ s;rw[kzy];exact X4 h
theorem qvy(xs:Array Value)(i k:Nat):((List.range k).filterMap λ(m:Nat)=>xs[((i:Int)+(m:Int)*1).toNat]?).toArray=((xs.toList.drop i).take k).toArray:=by
 have e:(λ(m:Nat)=>xs[((i:Int)+(m:Int)*1).toNat]?)=λm=>xs[i+m]?:=by
  funext m;have:((i:Int)+(m:Int)*1).toNat=i+m:=by omega
  rw[this]
 rw[e];have:=pick_run xs i k;rw[List.filterMap_map]at this;have e2:((λx=>xs[x]?)∘λx=>i+x)=λm=>xs[i+m]?:=rfl
 rw[e2]at this;rw[this]
theorem getItem_tuple_cut{t sl:Addr}{items:Array Value}{vl vu:Value}{lo hi:Option Int}{Q:Value->Shared->Prop}(ht:IsTup s.heap t items)(hs:s.heap.IsSliceOf sl vl vu .none)(pl:IsPart vl lo)(pu:IsPart vu hi)
  (hw:¬(sIx items.size 0 lo=0/\sIx items.size items.size hi=items.size))
  (h:Q (.ref s.heap.objs.size) { s with heap:=s.heap.push { cls:=.type "tuple",data:=.seq ((items.toList.drop (sIx items.size 0 lo)).take (sIx items.size items.size hi - sIx items.size 0 lo)).toArray } })
  (hsz:items.size<=sizeLine):wpAny (model prog w) A (getItem (.ref t) (.ref sl)) Q E s:=by
 have gr:sizeOk (.seq ((items.toList.drop (sIx items.size 0 lo)).take (sIx items.size items.size hi - sIx items.size 0 lo)).toArray):=by
  show((items.toList.drop (sIx items.size 0 lo)).take (sIx items.size items.size hi - sIx items.size 0 lo)).toArray.size<=sizeLine;rw[X7,Yg,List.length_drop,Xb];omega
 have hj:sIx items.size items.size hi<=items.size:=vky _ _ (Xd _) hi;obtain⟨os,i8,ic,df⟩:=id hs;have hTs:s.TypeIs (.ref sl) "slice":=⟨os,i8,ic⟩;unfold getItem
 try with_reducible refine Yi ?_
 first|refine X0 (X4 ?_)|skip
 refine X0 (wpAny_sequenceKey ht.typeIs (by decide) ?_);refine X0 (Xz (name:=Str.ofString "__getitem__") ht.typeIs PyProof.Rows.slot_tuple_getitem
  (Xv PyProof.Rows.slot_tuple_getitem ht.typeIs entry_tuple_getitem ?_ (args_tuple_getitem _ _)))
 show wpAny _ _ (Builtin.Tuple.tupleItemsOf (.ref t) >>= _) _ _ s;refine X0 (tupleItemsOf_ ht ?_);refine X0 (wpAny_typeOf hTs ?_);rw[Xf (by decide)];refine X0 (jz5 hs pl pu ?_);have pb:¬((((sIx items.size 0 lo:Nat):Int)==0&&(1:Int)==1&&(sIx items.size items.size hi - sIx items.size 0 lo)==items.size)=true):=by
  intro q;rw[Bool.and_eq_true,Bool.and_eq_true]at q;have q1:((sIx items.size 0 lo:Nat):Int)=0:=eq_of_beq q.1.1;have q2:sIx items.size items.size hi - sIx items.size 0 lo=items.size:=eq_of_beq q.2;exact hw ⟨by omega,by omega⟩
 show wpAny _ _ (if(((sIx items.size 0 lo:Nat):Int)==0&&(1:Int)==1&&(sIx items.size items.size hi - sIx items.size 0 lo)==items.size)=true then _ else _) _ _ s;rw[Xm pb,qvy]
 first
  |exact X0 (m:=Builtin.Tuple.tupleExact _) (Xq (X4 ⟨_,rfl,X4 h⟩) gr)
  |exact X0 (m:=Builtin.Tuple.tupleExact _) (Xq (X0 (X4 (X4 ⟨_,rfl,X4 h⟩))) gr)
  |exact X0 (X0 (m:=Builtin.Tuple.tupleExact _) (Xq (X4 (X4 ⟨_,rfl,X4 h⟩)) gr))
  |exact X0 (X0 (m:=Builtin.Tuple.tupleExact _) (Xq (X4 ⟨_,rfl,X4 h⟩) gr))
end
end HT
namespace L2
open PySem PySem.Spec PyProof.Rows
abbrev TO:=St->Hp->(Option Int->Hp->Prop)->Prop
noncomputable def PO(X:Cx)(e:Option Expr)(t:TO):Prop:=
 ∀(pins:List (Addr×Obj)) (s:Shared) (σ:St) (H:Hp) (Q:Option Int->Hp->Prop),Inv X pins σ H s->t σ H Q ->
  wpAny (model X.prog X.w) X.A (evalPart e X.env) (λu s'=>∃o H',Inv X pins σ H' s'/\IsPart u o/\Q o H') X.xe s
abbrev qjr:TO:=λ_ H Q=>Q none H
abbrev vki(t:TE):TO:=fun σ H Q=>t σ H λx H1=>∃i,x=.int i/\Q (some i) H1
theorem qj7{ns:List Int}:∀{us:List Value},Vals (ns.map V.int) us->IntsAre us ns:=by
 induction ns with
 | nil=>intro us r;rw[List.map_nil]at r;cases r;exact .nil
 | cons n ns ih=>
  intro us r;rw[List.map_cons]at r;cases r with
  |cons r1 r2=>
   obtain⟨t,e⟩:=r1;subst e;exact .cons n t (ih r2)
section
variable {X:Cx}{e:Expr}{te:TE}{lo hi:Option Expr}{tl th:TO}{pos p2:Pos}
theorem qzm:PO X none qjr:=by
 intro pins s σ H Q I h;rw[evalPart_none];exact X4 ⟨none,H,I,.none,h⟩
theorem qzk(h:PE X e te):PO X (some e) (vki te):=by
 intro pins s σ H Q I hw;rw[evalPart_some];refine thn (h pins s σ H _ I hw) λu s1 ⟨x,H1,I1,r1,q1⟩=>?_
 obtain⟨i,rfl,q⟩:=q1;obtain⟨t,rfl⟩:=r1;exact⟨some i,H1,I1,.int i t,q⟩
noncomputable def SlR(X:Cx)(r:V->Option Int->Option Int->Hp->VK->Prop):Prop:=
 ∀(pins:List (Addr×Obj)) (s:Shared) (σ:St) (H:Hp) (x:V) (v vl vu:Value) (lo hi:Option Int) (sl:Addr) (Q:VK),Inv X pins σ H s->RelV x v->s.heap.IsSliceOf sl vl vu .none->IsPart vl lo->IsPart vu hi->r x lo hi H Q ->
  ∃T id,typeLookup (.type T) "__getitem__"=pure (some (.builtin id))/\s.TypeIs v T/\wpAny (model X.prog X.w) X.A (getItem v (.ref sl)) (EP X pins σ Q) X.xe s
theorem SlR.or{r r':V->Option Int->Option Int->Hp->VK->Prop}(h:SlR X r)(h':SlR X r'):SlR X (λx lo hi H Q=>r x lo hi H Q\/r' x lo hi H Q):=by
 intro pins s σ H x v vl vu lo hi sl Q I rx hs pl pu q;rcases q with q|q
 ·exact h pins s σ H x v vl vu lo hi sl Q I rx hs pl pu q
 ·exact h' pins s σ H x v vl vu lo hi sl Q I rx hs pl pu q
abbrev tSl(r:V->Option Int->Option Int->Hp->VK->Prop)(te:TE)(tl th:TO):TE:=fun σ H Q=>te σ H λx H1=>tl σ H1 λl H2=>th σ H2 λu H3=>r x l u H3 Q
theorem qvz{r:V->Option Int->Option Int->Hp->VK->Prop}(hr:SlR X r)(he:PE X e te)(hl:PO X lo tl)(hu:PO X hi th):PE X (.Subscript e (.Slice lo hi none p2) pos) (tSl r te tl th):=by
 intro pins s σ H Q I h;refine Subscript_ (thn (he pins s σ H _ I h) λv s1 ⟨x,H1,I1,r1,q1⟩=>?_);refine wpAny_Slice (thn (hl pins s1 σ H1 _ I1 q1) λvl s2 ⟨l,H2,I2,pl,q2⟩=>thn (hu pins s2 σ H2 _ I2 q2) λvu s3 ⟨u,H3,I3,pu,q3⟩=>?_);rw[evalPart_none];refine X4 ?_;have I4:Inv X pins σ H3 { s3 with heap:=s3.heap.push { cls:=.type "slice",data:=.fields #[vl,vu,.none] } }:=I3.kept (t':=s3.toks) λb ob q=>X1 _ q
 obtain⟨T,id,hT,ht,hg⟩:=hr pins { s3 with heap:=s3.heap.push { cls:=.type "slice",data:=.fields #[vl,vu,.none] } } σ H3 x v vl vu l u s3.heap.objs.size Q I4 r1 (Heap.IsSliceOf.new ..) pl pu q3;show wpAny (model X.prog X.w) X.A (subscriptTail e (.Slice lo hi none p2) v (.ref s3.heap.objs.size)) (EP X pins σ Q) X.xe { s3 with heap:=s3.heap.push { cls:=.type "slice",data:=.fields #[vl,vu,.none] } };exact tail_any (ops:=[.ref s3.heap.objs.size,v]) ht hT hg (by with_unfolding_all rfl)
noncomputable def Q4(xs:List V)(lo hi:Option Int):List V:=(xs.drop (HT.sIx xs.length 0 lo)).take (HT.sIx xs.length xs.length hi - HT.sIx xs.length 0 lo)
theorem kjh(xs:List V)(lo hi:Option Int):(Q4 xs lo hi).length<=xs.length:=by
 unfold Q4;rw[Yg,List.length_drop];omega
noncomputable def wjg(K:PySem.W.Frag):V->Option Int->Option Int->Hp->VK->Prop:=λx lo hi H Q=>∃a xs,x=.ref a/\SqT K H a xs /\
 ¬(HT.sIx xs.length 0 lo=0/\HT.sIx xs.length xs.length hi=xs.length)/\∀p,H p=none->Q (.ref p) (upd H p (.tup (Q4 xs lo hi)))
theorem sl_tup:SlR X (wjg X.K):=by
 intro pins s σ H x v vl vu lo hi sl Q I rx hs pl pu h;obtain⟨a,xs,rfl,hx,hw,q⟩:=h;cases rx;obtain⟨aa,r,ht,hz⟩:=I.tuple hx;have ac:aa.toArray.size=xs.length:=by rw[X7];exact r.length.symm
 refine⟨"tuple",_,PyProof.Rows.slot_tuple_getitem.lookup,ht.typeIs,?_⟩;refine HT.getItem_tuple_cut ht hs pl pu (by rw[ac];exact hw) ?_ (by rw[ac];exact hz);rw[ac];refine⟨.ref s.heap.objs.size,_,I.laid (t':=s.toks) (o:=.tup (Q4 xs lo hi)) (λb ob q=>X1 _ q) (Xd _) ?_,rfl,q _ (I.hok.fresh (Xd _))⟩;exact⟨Y6 (kjh xs lo hi) hz,_,(r.drop (HT.sIx xs.length 0 lo)).take (HT.sIx xs.length xs.length hi - HT.sIx xs.length 0 lo),IsTupD.new _ _⟩
noncomputable def vq6(K:PySem.W.Frag):R2:=λx y H Q=>∃a b xs ys,x=.ref a/\y=.ref b/\SqT K H a xs/\SqT K H b ys/\xs≠[]/\xs.length+ys.length<=sizeLine /\
 (ys=[]->Q (.ref a) H)/\(ys≠[]->∀p,H p=none->Q (.ref p) (upd H p (.tup (xs++ys))))
theorem Vals.nil_iff{xs:List V}{us:List Value}(r:Vals xs us):us=[]↔xs=[]:=by
 cases r with
 |nil=>simp
 |cons _ _=>simp
theorem vj0:OpR X (binaryOp .Add) (vq6 X.K):=by
 intro pins s σ H x y v u Q I rx ry h;obtain⟨a,b,xs,ys,rfl,rfl,ha,hb,hx,hz,q1,q2⟩:=h;cases rx;cases ry;obtain⟨aa,r1,p1,_⟩:=I.tuple ha;obtain⟨cp,r2,p2,_⟩:=I.tuple hb;refine HT.cat_tup p1 p2 (λz=>hx (r1.nil_iff.mp z)) (λz=>⟨.ref a,H,I,rfl,q1 (r2.nil_iff.mp z)⟩) (λz=>?_) (by rw[<-r1.length,<-r2.length];exact hz);refine⟨.ref s.heap.objs.size,_,I.laid (t':=s.toks) (o:=.tup (xs++ys)) (λb ob q=>X1 _ q) (Xd _) ?_,rfl,q2 (λw=>z (r2.nil_iff.mpr w)) _ (I.hok.fresh (Xd _))⟩;exact⟨by rw[Y3];exact hz,_,r1.append r2,IsTupD.new _ _⟩
end
noncomputable def ixN(n:Nat)(i:Int):Option Nat:=if 0<=i then(if i<n then some i.toNat else none)else if -(n:Int)<=i then some (i+n).toNat else none
def atI{α:Type}(xs:List α)(i:Int):Option α:=(ixN xs.length i).bind λj=>xs[j]?
theorem qqd{n:Nat}{i:Int}{j:Nat}(h:ixN n i=some j):seqIndex? i n=some j/\j<n/\-(n:Int)<=i/\i<n:=by
 unfold ixN at h
 by_cases h0:0<=i
 ·rw[Xf h0]at h
  by_cases h1:i<n
  ·rw[Xf h1]at h;have e:i.toNat=j:=oq9 h;exact⟨by rw[seqIndex_of h0 h1,e],by omega,by omega,h1⟩
  ·rw[Xm h1]at h;cases h
 ·rw[Xm h0]at h
  by_cases h1:-(n:Int)<=i
  ·rw[Xf h1]at h;have e:(i+n).toNat=j:=oq9 h;exact⟨by rw[seqIndex_neg (by omega) h1,e],by omega,h1,by omega⟩
  ·rw[Xm h1]at h;cases h
theorem kx5{α:Type}{xs:List α}{i:Int}{v:α}(h:atI xs i=some v):∃j,seqIndex? i xs.length=some j/\xs[j]?=some v/\j<xs.length/\-(xs.length:Int)<=i/\i<xs.length:=by
 unfold atI at h;cases e:ixN xs.length i with
 |none=>rw[e]at h;cases h
 |some j=>
  rw[e]at h;obtain⟨h1,h2,h3,h4⟩:=qqd e;exact⟨j,h1,h,h2,h3,h4⟩
def XW(b:Expr):Prop:=∀o i,subscripted b false o i=operate [o,i] (getItem o i)
noncomputable def IxR(X:Cx)(r:R2):Prop:=
 ∀(value slice:Expr) (pins:List (Addr×Obj)) (s:Shared) (σ:St) (H:Hp) (x y:V) (v u:Value) (Q:VK),Inv X pins σ H s->RelV x v->RelV y u->r x y H Q ->
  subscripted slice false v u=operate [v,u] (getItem v u)->wpAny (model X.prog X.w) X.A (subscriptTail value slice v u) (EP X pins σ Q) X.xe s
noncomputable def MtR(X:Cx)(id:String)(r:V->List V->Hp->VK->Prop):Prop:=
 ∀(pins:List (Addr×Obj)) (s:Shared) (σ:St) (H:Hp) (x:V) (xs:List V) (v:Value) (us:List Value) (Q:VK),Inv X pins σ H s->RelV x v->Vals xs us->r x xs H Q ->
  wpAny (model X.prog X.w) X.A (call (.builtin id) (v::us)) (EP X pins σ Q) X.xe s
section
variable {X:Cx}{a b:Expr}{ta tb:TE}{pos:Pos}
theorem IxR.or{r r':R2}(h:IxR X r)(h':IxR X r'):IxR X (λx y H Q=>r x y H Q\/r' x y H Q):=by
 intro value slice pins s σ H x y v u Q I rx ry q hs;rcases q with q|q
 ·exact h value slice pins s σ H x y v u Q I rx ry q hs
 ·exact h' value slice pins s σ H x y v u Q I rx ry q hs
theorem qzq{r:R2}(hr:IxR X r)(ha:PE X a ta)(hb:PE X b tb)(hs:XW b):PE X (.Subscript a b pos) (tOp r ta tb):=by
 intro pins s σ H Q I h;exact Subscript_ (wj3 ha hb I h λv u s2 x y H2 I2 rx ry q=>hr a b pins s2 σ H2 x y v u Q I2 rx ry q (hs _ _))
def wjm(K:PySem.W.Frag):R2:=λx y H Q=>∃p xs i v,x=.ref p/\y=.int i/\SqL K H p xs/\atI xs i=some v/\Q v H
def wjk(K:PySem.W.Frag):R2:=λx y H Q=>∃p xs i v,x=.ref p/\y=.int i/\SqT K H p xs/\atI xs i=some v/\Q v H
noncomputable def wjl:R2:=λx y H Q=>∃z i c,x=.str z/\y=.int i/\z.length<=sizeLine/\atI z.cps.toList i=some c/\Q (.str ⟨#[c]⟩) H
theorem ix_list:IxR X (wjm X.K):=by
 intro value slice pins s σ H x y v u Q I rx ry h hs;obtain⟨p,xs,i,z,rfl,rfl,hq,he,q⟩:=h;cases rx;obtain⟨t,rfl⟩:=ry;obtain⟨aa,r,pl,hz⟩:=I.list hq;obtain⟨j,h1,h2,h3,h4,h5⟩:=kx5 he;obtain⟨w,ew,nv⟩:=r.get h2;have hl:=r.length;have hn:=W9;have fin:EP X pins σ Q w s:=⟨z,H,I,nv,q⟩
 by_cases h0:0<=i
 ·have hj:i.toNat=j:=by
   rw[seqIndex_of h0 h5]at h1;exact oq9 h1
  exact item_listR pl.isList h0 (by omega) (by rw[hj];simpa using ew) fin hs
 ·have hj:(i+(aa.toArray.size:Int)).toNat=j:=by
   rw[seqIndex_neg (by omega) h4]at h1;rw[X7,<-hl];exact oq9 h1
  exact subscriptTail_builtinR (x:=w) pl.isList.typeIs slot_list_getitem.lookup
   (wpAny_getItem_list_neg (Q:=λr s'=>r=w/\EP X pins σ Q r s') pl.isList (by omega) (by rw[X7]<;>omega) (by omega) (by rw[hj];simpa using ew) ⟨rfl,fin⟩) hs
theorem ix_tup:IxR X (wjk X.K):=by
 intro value slice pins s σ H x y v u Q I rx ry h hs;obtain⟨p,xs,i,z,rfl,rfl,hq,he,q⟩:=h;cases rx;obtain⟨t,rfl⟩:=ry;obtain⟨aa,r,pl,hz⟩:=I.tuple hq;obtain⟨j,h1,h2,h3,h4,h5⟩:=kx5 he;obtain⟨w,ew,nv⟩:=r.get h2;have hl:=r.length;have hn:=W9;have fin:EP X pins σ Q w s:=⟨z,H,I,nv,q⟩;exact subscriptTail_builtinR (x:=w) pl.typeIs slot_tuple_getitem.lookup
  (getItem_tuple (j:=j) (Q:=λr s'=>r=w/\EP X pins σ Q r s') pl (by omega) (by omega) (by rw[X7,<-hl];exact h1) (by simpa using ew) ⟨rfl,fin⟩) hs
theorem vvx:IxR X wjl:=by
 intro value slice pins s σ H x y v u Q I rx ry h hs;obtain⟨z,i,c,rfl,rfl,hz,he,q⟩:=h;obtain⟨t,rfl⟩:=rx;obtain⟨t',rfl⟩:=ry;obtain⟨j,h1,h2,h3,h4,h5⟩:=kx5 he;have hl:z.cps.toList.length=z.length:=by simp[Str.length]
 rw[hl]at h1 h4 h5;have hn:=W9;exact tail_any (typeIs_str s z t) slot_str_getitem.lookup (getItem_str (c:=c) (by
  have e1:decide (i < -(2 ^ 63:Int))=false:=Yf (by omega);have e2:decide (i>=2 ^ 63)=false:=Yf (by omega);rw[e1,e2,Bool.or_false]) (by rw[h1];simpa using h2) ⟨.str ⟨#[c]⟩,H,I.tok _,⟨_,rfl⟩,q⟩) hs
def rIx(K:PySem.W.Frag):R2:=λx y H Q=>wjm K x y H Q\/wjk K x y H Q\/wjl x y H Q
theorem qqc:IxR X (rIx X.K):=ix_list.or (ix_tup.or vvx)
theorem kqx(lo hi:Option Int)(n:Nat):(sliceBounds lo hi none n).1=((HT.sIx n 0 lo:Nat):Int)/\(sliceBounds lo hi none n).2.1=((HT.sIx n n hi:Nat):Int)/\(sliceBounds lo hi none n).2.2=1:=by
 refine⟨?_,?_,rfl⟩
 ·cases lo with
  |none=>simp[sliceBounds,HT.sIx]
  |some i=>
   simp only[sliceBounds,HT.sIx,Option.getD_none,show(1:Int)>0 by decide,if_true]
   by_cases h:i<0
   ·simp only[h,if_true]<;>omega
   ·simp only[h,if_false]<;>omega
 ·cases hi with
  |none=>simp[sliceBounds,HT.sIx]
  |some i=>
   simp only[sliceBounds,HT.sIx,Option.getD_none,show(1:Int)>0 by decide,if_true]
   by_cases h:i<0
   ·simp only[h,if_true]<;>omega
   ·simp only[h,if_false]<;>omega
theorem kkq(aa:List Value)(lo hi:Option Int):slicePick aa.toArray lo hi none=((aa.drop (HT.sIx aa.length 0 lo)).take (HT.sIx aa.length aa.length hi - HT.sIx aa.length 0 lo)).toArray:=by
 obtain⟨h1,h2,h3⟩:=kqx lo hi aa.toArray.size;unfold slicePick;rw[h1,h2,h3];simp only[sliceRange_one,pick_run,X7]<;>rfl
noncomputable def wji(K:PySem.W.Frag):V->Option Int->Option Int->Hp->VK->Prop:=λx lo hi H Q=>∃a xs,x=.ref a/\SqL K H a xs/\∀p,H p=none->Q (.ref p) (upd H p (.lst (Q4 xs lo hi)))
theorem sl_list:SlR X (wji X.K):=by
 intro pins s σ H x v vl vu lo hi sl Q I rx hs pl pu h;obtain⟨a,xs,rfl,hx,q⟩:=h;cases rx;obtain⟨aa,r,ht,hz⟩:=I.list hx;have ac:=r.length;refine⟨"list",_,slot_list_getitem.lookup,ht.isList.typeIs,?_⟩;refine wpAny_getItem_list_slice ht.isList hs pl pu .none (by simp) ?_ (by rw[X7]<;>omega);rw[kkq,<-ac];refine⟨.ref s.heap.objs.size,_,I.laid (t':=s.toks) (o:=.lst (Q4 xs lo hi)) (λb ob q=>X1 _ q) (Xd _) ?_,rfl,q _ (I.hok.fresh (Xd _))⟩;exact⟨Y6 (kjh xs lo hi) hz,_,0,(r.drop (HT.sIx xs.length 0 lo)).take (HT.sIx xs.length xs.length hi - HT.sIx xs.length 0 lo),X8 _ rfl⟩
theorem call_len_seq:CallR X (.builtin "len") (λxs H Q=>∃p ys,xs=[.ref p]/\(SqL X.K H p ys\/SqT X.K H p ys)/\Q (.int ys.length) H):=by
 intro pins s σ H xs us Q I r h;obtain⟨p,ys,rfl,hq,q⟩:=h;obtain⟨u,rfl,rx⟩:=J8 r;cases rx;have hn:=W9;rcases hq with hq|hq
 ·obtain⟨aa,r',pl,hz⟩:=I.list hq;have ac:=r'.length;exact Calls.call_len_list pl.isList (by simp only[X7]<;>omega) ⟨.int ys.length,H,I.tok _,⟨s.toks+1,by rw[X7,ac]⟩,q⟩
 ·obtain⟨aa,r',pl,hz⟩:=I.tuple hq;have ac:=r'.length;exact len_tuple pl (by simp only[X7]<;>omega) ⟨.int ys.length,H,I.tok _,⟨s.toks+1,by rw[X7,ac]⟩,q⟩
theorem call_len_str:CallR X (.builtin "len") (λxs H Q=>∃z,xs=[.str z]/\z.length<=sizeLine/\Q (.int z.length) H):=by
 intro pins s σ H xs us Q I r h;obtain⟨z,rfl,hz,q⟩:=h;obtain⟨u,rfl,t,rfl⟩:=J8 r;have hn:=W9;exact len_str (by omega) ⟨.int z.length,H,I.tok _,⟨_,rfl⟩,q⟩
theorem CallR.or{f:Value}{r r':List V->Hp->VK->Prop}(h:CallR X f r)(h':CallR X f r'):CallR X f (λxs H Q=>r xs H Q\/r' xs H Q):=by
 intro pins s σ H xs us Q I rs q;rcases q with q|q
 ·exact h pins s σ H xs us Q I rs q
 ·exact h' pins s σ H xs us Q I rs q
theorem kw5:CallR X (.type "list") (λxs H Q=>∃p ys,xs=[.ref p]/\(SqL X.K H p ys\/SqT X.K H p ys)/\∀l,H l=none->Q (.ref l) (upd H l (.lst ys))):=by
 intro pins s σ H xs us Q I r h;obtain⟨p,ys,rfl,hq,q⟩:=h;obtain⟨u,rfl,rx⟩:=J8 r;cases rx;have fin:∀(aa:List Value),Vals ys aa->ys.length<=sizeLine->∀(h':Heap) (c':Nat),(∀b o',s.heap.get? b=some o'->h'.get? b=some o') ->
   h'.get? s.heap.objs.size=some { cls:=.type "list",dict:=none,data:=.seq aa.toArray c',slots:=#[] }->EP X pins σ Q (.ref s.heap.objs.size) { s with heap:=h' }:=λaa r' hz h' c' kp e=>
  ⟨.ref s.heap.objs.size,_,I.laid (t':=s.toks) kp (Xd _) (show ObjOk X.prog X.w _ h' _ (.lst ys)from⟨hz,aa,c',r',e⟩),rfl,q _ (I.hok.fresh (Xd _))⟩
 rcases hq with hq|hq
 ·obtain⟨aa,r',pl,hz⟩:=I.list hq;have ac:=r'.length;obtain⟨o,ho,hc,n,hd⟩:=pl.isList;exact call_list_seq p (.inl rfl) ho hc hd (λh' c' kp e=>fin aa r' hz h' c' kp e) (by simp only[X7]<;>omega)
 ·obtain⟨aa,r',pl,hz⟩:=I.tuple hq;have ac:=r'.length;obtain⟨o,ho,hc,n,hd⟩:=pl;exact call_list_seq p (.inr rfl) ho hc hd (λh' c' kp e=>fin aa r' hz h' c' kp e) (by simp only[X7]<;>omega)
theorem kqk:CallR X (.type "tuple") (λxs H Q=>∃p ys,xs=[.ref p]/\((SqL X.K H p ys/\∀l,H l=none->Q (.ref l) (upd H l (.tup ys)))\/(SqT X.K H p ys/\Q (.ref p) H))):=by
 intro pins s σ H xs us Q I r h;obtain⟨p,ys,rfl,h⟩:=h;obtain⟨u,rfl,rx⟩:=J8 r;cases rx;rcases h with⟨hq,q⟩|⟨hq,q⟩
 ·obtain⟨aa,r',pl,hz⟩:=I.list hq;have ac:=r'.length;refine call_tuple_list pl.isList (λh' kp=>?_) (by simp only[X7]<;>omega);have I1:Inv X pins σ H { s with heap:=h' }:=I.kept (t':=s.toks) kp;have I2:Inv X pins σ (upd H h'.objs.size (.tup ys)) { s with heap:=h'.push { cls:=.type "tuple",data:=.seq aa.toArray } }:=
   I1.laid (t':=s.toks) (λb o e=>X1 _ e) (Xd _) (show ObjOk X.prog X.w _ _ _ (.tup ys)from⟨hz,aa,r',IsTupD.new _ _⟩)
  exact⟨.ref h'.objs.size,_,I2,rfl,q _ (I1.hok.fresh (Xd _))⟩
 ·obtain⟨aa,r',pl,hz⟩:=I.tuple hq;exact call_tuple_same pl ⟨.ref p,H,I,rfl,q⟩
noncomputable def tyV(K : PySem.W.Frag)(T : String)(x : V)(H : Hp): Prop:= match x with
  |.str _=>T = "str"
  |.int _=>T = "int"
  |.ref p=>(T = "list" /\ ∃xs, SqL K H p xs) \/ (T = "tuple" /\ ∃o, K.lookup p = some o /\ o.cls = .type "tuple" /\ o.dict = none) \/
      (T = "dict" /\ ((∃ai, H p = some (.dK ai)) \/ ∃ai, H p = some (.dT ai))) \/ (T = "set" /\ ∃S n, H p = some (.set S n))
  |_=>False
theorem qwz{pins:List (Addr×Obj)}{σ:St}{H:Hp}{s:Shared}{T:String}{x:V}{v:Value}(I:Inv X pins σ H s)(r:RelV x v)(ty:tyV X.K T x H):
  s.TypeIs v T/\∀a,v=.ref a->∃ob,s.heap.get? a=some ob/\ob.dict=none:=by
 cases x with
 | str z=>
  obtain⟨t,rfl⟩:=r;cases(show T="str" from ty);exact⟨typeIs_str s z t,λ_ e=>nomatch e⟩
 | int i=>
  obtain⟨t,rfl⟩:=r;cases(show T="int" from ty);exact⟨typeIs_int s i t,λ_ e=>nomatch e⟩
 | ref p=>
  cases r;rcases ty with⟨rfl,xs,hq⟩|⟨rfl,o,hk,hc,hd⟩|⟨rfl,hk⟩|⟨rfl,S,n,hk⟩
  ·obtain⟨aa,_,pl,_⟩:=I.list hq;refine⟨pl.isList.typeIs,λa e=>?_⟩;cases e;obtain⟨o,n,e,c,hd,_⟩:=pl;exact⟨o,e,hd⟩
  ·refine⟨⟨o,I.kIn p o hk,hc⟩,λa e=>?_⟩;cases e;exact⟨o,I.kIn _ o hk,hd⟩
  ·have z:∃o,s.heap.get? p=some o/\o.ExactDict:=by
    rcases hk with⟨ai,hk⟩|⟨ai,hk⟩
    ·obtain⟨_,_,_,_,o,_,_,e,ex,_⟩:=I.hok p _ hk;exact⟨o,e,ex⟩
    ·obtain⟨_,_,_,_,o,_,_,e,ex,_⟩:=I.hok p _ hk;exact⟨o,e,ex⟩
   obtain⟨o,e,ex⟩:=z;refine⟨⟨o,e,ex.1⟩,λa e2=>?_⟩;cases e2;exact⟨o,e,ex.2.1⟩
  ·obtain⟨o,_,_,_,e,ex,_⟩:=I.hok p _ hk;refine⟨⟨o,e,ex.1⟩,λa e2=>?_⟩;cases e2;exact⟨o,e,ex.2.1⟩
 |_=>exact False.elim ty
abbrev wjc(K:PySem.W.Frag)(T:String)(r:V->List V->Hp->VK->Prop)(to:TE):TE:=fun σ H Q=>to σ H λx H1=>tyV K T x H1/\r x [] H1 Q
abbrev tBM(K:PySem.W.Frag)(T:String)(r:V->List V->Hp->VK->Prop)(to:TE)(t:TA):TE:=fun σ H Q=>to σ H λx H1=>tyV K T x H1/\t σ H1 λxs H2=>r x xs H2 Q
variable {o e:Expr}{es:List Expr}{to:TE}{t:TA}{name:Str}{av ag:Pos}{T id:String}{r:V->List V->Hp->VK->Prop}
theorem vqy(pa:PlainAttrs T)(slot:Slot T name id)(kg:typeOf (.builtin id)=pure (.type "method_descriptor"))(hm:MtR X id r)(ho:PE X o to)
  (b6:autoParam (attributeBase o name X.env (eval o X.env)=eval o X.env) Ŕ) (b8:autoParam ((av.endLine==ag.line)=true) Ŕ):PE X (.Call (.Attribute o name av) [] [] ag) (wjc X.K T r to):=by
 intro pins s σ H Q I h;refine wpAny_Call_method0_late b6 b8 (thn (ho pins s σ H _ I h) λv s1 ⟨x,H1,I1,r1,ty,q1⟩=>?_);obtain⟨h1,h2⟩:=qwz I1 r1 ty;exact⟨T,id,pa,slot,kg,h1,h2,Calls.callWith_builtin rfl (PySem.evalArgs_none (hm pins s1 σ H1 x [] v [] Q I1 r1 .nil q1))⟩
theorem qzu(pa:PlainAttrs T)(slot:Slot T name id)(kg:typeOf (.builtin id)=pure (.type "method_descriptor"))(hm:MtR X id r)(ho:PE X o to)(ha:PA X (e::es) t)
  (b6:autoParam (attributeBase o name X.env (eval o X.env)=eval o X.env) Ŕ)
  (ei:autoParam (((backTo ag (starEach (e::es) X.env)).all (λx=>!x.1)&&(backToKw ag (keywordEach [] X.env)).all (λx=>x.1.isSome)
   && decide ((e::es).length+([]:List Keyword).length+(if([]:List Keyword).isEmpty then 0 else 1)<30))=true) Ŕ)
  (b8:autoParam ((av.endLine==ag.line)=true) Ŕ) (hs:autoParam (starEach (e::es) X.env=(false,eval e X.env)::starEach es X.env) Ŕ) (be:autoParam ((backTo ag (starEach es X.env)).any (·.1)=false) Ŕ):
  PE X (.Call (.Attribute o name av) (e::es) [] ag) (tBM X.K T r to t):=by
 intro pins s σ H Q I h;refine wpAny_Call_method_late b6 ei b8 rfl (thn (ho pins s σ H _ I h) λv s1 ⟨x,H1,I1,r1,ty,q1⟩=>?_);obtain⟨h1,h2⟩:=qwz I1 r1 ty;refine⟨T,id,pa,slot,kg,h1,h2,?_⟩;have hA:=ha ag pins s1 σ H1 _ I1 q1;rw[hs]at hA ⊢;refine Calls.callWith_builtin (by show(false||(backTo ag (starEach es X.env)).any (·.1))=false;rw[be]<;>rfl) (Calls.evalArgs_plain ?_);exact thn hA λus s2 ⟨vs,H2,I2,r2,q2⟩=>hm pins s2 σ H2 x vs v us Q I2 r1 r2 q2
end
noncomputable def MtM(X:Cx)(id:String)(r:V->List V->Hp->VK->Prop):Prop:=
 ∀(pins:List (Addr×Obj)) (s:Shared) (σ:St) (H:Hp) (x:V) (xs:List V) (v:Value) (us:List Value) (Q:VK),Inv X pins σ H s->RelV x v->Vals xs us->r x xs H Q ->
  wpAny (model X.prog X.w) X.A (call (.builtin id) (v::us)) (EP X pins σ Q) X.xe s
theorem Vals.one:∀{x:V} {us:List Value},Vals [x] us->∃u,us=[u]/\RelV x u
 |_,_,.cons r .nil=>⟨_,rfl,r⟩
theorem Vals.zero:∀{us:List Value},Vals [] us->us=[]
 |_,.nil=>rfl
theorem Vals.rep{xs:List V}{us:List Value}(h:Vals xs us):∀k:Nat,Vals (List.replicate k xs).flatten (List.replicate k us).flatten
 |0=>.nil
 |k+1=>by
  rw[List.replicate_succ,List.replicate_succ,Yv,Yv];exact Vals.append h (Vals.rep h k)
theorem kjf(aa:List Value):∀(k:Nat) (af:List Value),
  List.foldl (λx1 x2=>x1++x2) af.toArray (List.replicate k aa.toArray)=(af++(List.replicate k aa).flatten).toArray
 | 0,af=>by simp
 | k+1,af=>by
  have e:af.toArray++aa.toArray=(af++aa).toArray:=by simp
  have e2:(af++aa)++(List.replicate k aa).flatten=af++(List.replicate (k+1) aa).flatten:=by
   rw[List.replicate_succ,Yv,Xs]
  rw[<-e2,<-kjf aa k (af++aa),<-e,List.replicate_succ,List.foldl_cons]
section
variable {X:Cx}{pins:List (Addr×Obj)}{σ:St}{H:Hp}{s:Shared}{l b:Addr}{xs ys zs:List V}
theorem Inv.lset{aa its':List Value}{n:Nat}{f:Array Value->Array Value}{t':Nat}(I:Inv X pins σ H s)(hH:H l=some (.lst xs))
  (e:s.heap.get? l=some { cls:=.type "list",data:=.seq aa.toArray n }) (hf:f aa.toArray=its'.toArray) (hv:Vals ys its') (hz:ys.length<=sizeLine):
  Inv X pins σ (upd H l (.lst ys)) { s with heap:=s.heap.update l (Obj.mapSeq f),toks:=t' }:=by
 have q:=PySem.IsL.update e f;rw[hf]at q;refine I.write (x:=l) (e:=l) (by rw[hH];exact trivial) (.inl rfl) (λb' u hb hu=>(Heap.get?_update_other s.heap (Obj.mapSeq f) (Ne.symm hb)).trans hu) ⟨_,q⟩ ?_;exact⟨hz,its',_,hv,q⟩
theorem Inv.lnew{aa:List Value}{t':Nat}(I:Inv X pins σ H s)(hv:Vals ys aa)(hz:ys.length<=sizeLine):
  Inv X pins σ (upd H s.heap.objs.size (.lst ys)) { s with heap:=s.heap.push { cls:=.type "list",data:=.seq aa.toArray },toks:=t' }:=
 I.laid (λ_ _ q=>X1 _ q) (Xd _) ⟨hz,aa,0,hv,X8 _ rfl⟩
theorem Inv.fresh(I:Inv X pins σ H s):H s.heap.objs.size=none:=I.hok.fresh (Xd _)
theorem Inv.lstM(I:Inv X pins σ H s)(hH:H l=some (.lst xs)):xs.length<=sizeLine/\∃(aa:List Value) (n:Nat),Vals xs aa/\xs.length=aa.length/\s.heap.get? l=some { cls:=.type "list",data:=.seq aa.toArray n }:=by
 obtain⟨z,aa,n,r,e⟩:=I.hok l _ hH;exact⟨z,aa,n,r,r.length,e⟩
theorem qw1{n:Nat}(h:n<=sizeLine):Builtin.List.listTooLong n=false:=by
 unfold Builtin.List.listTooLong;exact Yf (by omega)
end
section
variable {X:Cx}
noncomputable def kkx:V->List V->Hp->VK->Prop:=λx vs H Q=>∃l xs y,x=.ref l/\vs=[y]/\H l=some (.lst xs)/\xs.length<sizeLine/\Q .non (upd H l (.lst (xs++[y])))
theorem kj7:MtM X "list.append" kkx:=by
 intro pins s σ H x vs v us Q I rx rv h;obtain⟨l,xs,y,rfl,rfl,hH,hz,q⟩:=h;cases rx;obtain⟨u,rfl,ru⟩:=rv.one;obtain⟨z,aa,n,r,hl,e⟩:=I.lstM hH;refine call_meets F.slot_list_append ⟨_,e,rfl⟩ F.entry_list_append (F.args_list_append_2 _ _) (PySem.list_append l aa.toArray n u (by rw[X7];omega)) ⟨e,?_⟩;refine⟨.non,_,I.lset (its':=aa++[u]) hH e (by simp) (r.append (.cons ru .nil)) ?_,rfl,q⟩;rw[Y3,List.length_singleton];omega
noncomputable def qke:V->List V->Hp->VK->Prop:=λx vs H Q=>∃l xs,x=.ref l/\vs=[]/\H l=some (.lst xs)/\Q .non (upd H l (.lst []))
theorem kq9:MtM X "list.clear" qke:=by
 intro pins s σ H x vs v us Q I rx rv h;obtain⟨l,xs,rfl,rfl,hH,q⟩:=h;cases rx;have hus:=rv.zero;subst hus;obtain⟨z,aa,n,r,hl,e⟩:=I.lstM hH;refine call_meets F.slot_list_clear ⟨_,e,rfl⟩ F.entry_list_clear (F.args_list_clear_1 _) (AutoSeq1.list_clear_list_0 l aa.toArray n (by rw[X7];omega)) ⟨e,?_⟩;exact⟨.non,_,I.lset (its':=[]) (ys:=[]) hH e rfl .nil (Z1 _),rfl,q⟩
theorem qq4{α:Type}(xs:List α)(k:Nat):(List.replicate k xs).flatten.length=k*xs.length:=by
 induction k with
 |zero=>simp
 |succ k ih=>rw[List.replicate_succ,Yv,Y3,ih,Nat.succ_mul,Nat.add_comm]
end
end L2
namespace Att
open PySem PySem.W PySem.Calls PyProof.Rows
theorem kjb{P:Params}{h:Heap}:∀(ns:List Int) (vs:List Value),WellAll P h vs (ns.map WData.int)->IntsAre vs ns:=by
 intro ns
 induction ns with
 | nil=>
  intro vs w;rw[List.map_nil]at w;cases w;exact .nil
 | cons n ns ih=>
  intro vs w;rw[List.map_cons]at w;cases w with
  |cons a b=>
   cases a;exact .cons _ _ (ih _ b)
theorem script_of{l : OpenLaw}{n : Nat}(hn : l.most = some n){P : Params}{h : Heap}{args : List WData}{bz : List Value}
    (kf : l.row.toRowW.claim.pre args = true) (hwl : WellAll P h bz args):
    ∃ a vs ns, bz = [Value.ref a] /\ args = [WData.list (ns.map WData.int)] /\ h.get? a = some { cls:= .type "list", data:= .seq vs.toArray } /\ IntsAre vs ns /\ ns.length<=n:= by
  have hsh : WShape.hasAll [] args [.list .int] = true:= (pre_splitW kf).1;have hc : l.pre.holds [] { args:= args } = true:= (pre_splitW kf).2;obtain⟨d, r, rfl, h1, h2⟩:= hasAllW_cons hsh;obtain rfl:= hasAllW_nil h2;obtain⟨xs, rfl, h3⟩:= hasW_list h1;obtain⟨ns, rfl⟩:= items_int h3;have ac : ns.length<=n:= by
    unfold OpenLaw.pre at hc;have h4 : (WTm.not (.lt (.lit (.int (n : Int))) (.len (.arg 0)))).holds [] { args:= [.list (ns.map .int)] } = true:= by
      have h4:= (holds_andW hc).1;rw[hn]at h4;exact h4
    have h5:= condW_of h4 (w_not (w_lt w_lit (w_len_list (w_arg rfl))));rw[X6]at h5;refine Nat.le_of_not_lt λq=> ?_
    have q' : (n : Int)<((ns.length : Nat): Int):= by omega
    first
      |(rw[Yd q']at h5; exact absurd h5 (by decide))
      |(simp at h5; omega)
  cases hwl with
  | cons w1 w2=>
    cases w2;cases w1 with
    |list ho lr=>exact⟨_, _, ns, rfl, rfl, ho, kjb ns _ lr, ac⟩
theorem post_true(l:OpenLaw)(args:List WData):l.row.toRowW.claim.post args (.bool true) args=true:=
 postW_of (r:=l.row.toRowW) (X:=(true==true))
  (show WShape.has [] (.bool true) .bool=true by first|rfl|decide|simp[WShape.has,WShape.arms,WShape.armsAll])
  (show(WTm.eq .res (.lit (.bool true))).value [] { args:=args,res:=some (.bool true),after:=args }=some (.bool (true==true))from w_eq_bool (w_res rfl) w_lit) rfl
end Att
namespace L2
open PySem PySem.Spec PyProof.Rows
def wj6(H:Hp):Prop:=∀b,H b=none\/∃o xs,H b=some (.frz o (.lst xs))
noncomputable def Q6(s:Stmt):Arguments:=match s with
 |.FunctionDef _ a _ _ _ _ _ _ _ _=>a
 |_=>{ posonlyargs:=[],args:=[],vararg:=none,kwonlyargs:=[],kw_defaults:=[],kwarg:=none,defaults:=[] }
def K3(s:Stmt):List Stmt:=match s with
 |.FunctionDef _ _ b _ _ _ _ _ _ _=>b
 |_=>[]
noncomputable def k7(s:Stmt):Scope:=match s with
 |.FunctionDef _ _ _ _ _ _ sc _ _ _=>sc
 |_=>{ kind:=.function,names:=[],isGenerator:=false,isCoroutine:=false }
abbrev E0:XK:=λ_ _ _=>False
structure Fun (K:PySem.W.Frag)(x qual:Str)(st:Stmt)(f:Addr)(fd:FuncData):Prop where
 ex:∃(oc:Value) (od:Option Addr) (kV fm pm:Value) (an:Option Addr) (b9 ct:Value) (ld:Array (Option Value)),
  fd=PySem.W.fnOf x qual (Q6 st) (K3 st) (k7 st) .none kV fm pm an b9 ct/\K.lookup f=some ⟨oc,od,.func fd,ld⟩/\PySem.W.codeIn K b9 qual=true
 kp:PySem.W.keepIn K (.ref f)=true
section
variable {P:Program}{w:World}{K:PySem.W.Frag}{mg:Str->Option Value}{base:Heap}
theorem Fun.binds{x qual:Str}{st:Stmt}{f:Addr}{fd:FuncData}{ps:List Str}(F:Fun K x qual st f fd)
  (h:∀(kV fm pm:Value) (an:Option Addr) (b9 ct:Value) (us:List Value),us.length=ps.length->bindArgs (PySem.W.fnOf x qual (Q6 st) (K3 st) (k7 st) .none kV fm pm an b9 ct) ⟨us,[]⟩=pure (ps.zip us)):Binds K fd ps []:=by
 obtain⟨oc,od,kV,fm,pm,an,b9,ct,ld,rfl,lk,gf⟩:=F.ex;exact .all (h kV fm pm an b9 ct)
theorem qqn{x qual:Str}{st:Stmt}{f:Addr}{oc:Value}{od an:Option Addr}{ld:Array (Option Value)}{kV fm pm b9 ct:Value}(l:K.lookup f=some ⟨oc,od,.func (PySem.W.fnOf x qual (Q6 st) (K3 st) (k7 st) .none kV fm pm an b9 ct),ld⟩)
  (c:PySem.W.codeIn K b9 qual=true) (k:PySem.W.keepIn K (.ref f)=true):Fun K x qual st f (PySem.W.fnOf x qual (Q6 st) (K3 st) (k7 st) .none kV fm pm an b9 ct):=⟨⟨oc,od,kV,fm,pm,an,b9,ct,ld,rfl,l,c⟩,k⟩
end
section
variable {X:Cx}
theorem pv(i:Nat){x:Str}{pos:Pos}(hN:autoParam (X.N[i]?=some x) Ŕ)(hv:autoParam (Vis X.env.scope x) ř)(hd:autoParam ((x==("__debug__":Str))=false) ŕ)
  (gf:autoParam ((x==("__classdict__":Str))=false) ŕ):PE X (.Name x pos) (Jj i):=vqs hN hv hd gf
end
def k4(H H':Hp):Prop:=∀b o,H b=some o->H' b=some o
section
variable {κ:Type}[DecidableEq κ]
theorem KV.length{ai:List (κ×V)}{vs:List (κ×Value)}(r:KV ai vs):ai.length=vs.length:=Paired.length r
end
section
variable {P:Program}{w:World}{H:Hp}{h:Heap}{a:Addr}
theorem vxu{u:HO}(ok:HOk P w H h)(e:Rd H a u):ObjOk P w H h a u:=e.ok ok
theorem vzv{ai:List (Key×V)}(ok:HOk P w H h)(e:Rd H a (.dK ai)):ai.length<=sizeLine/\(a==sysModules)=false/\∃vs,KV ai vs/\h.DictOf (kqa P w) a vs:=
 show ObjOk P w H h a (.dK ai)from vxu ok e
end
section
variable {X:Cx}{pins:List (Addr×Obj)}{σ:St}{H:Hp}{s:Shared}{a:Addr}{ai:List (Key×V)}{k:Key}{u:Value}{A:Around}{E:Value->Shared->Prop}
theorem vzy{Q:Value->Shared->Prop}(I:Inv X pins σ H s)(e:Rd H a (.dK ai))(h:∀t s',Inv X pins σ H s'->Q (.int ai.length t) s'):wpAny (model X.prog X.w) A (call (.builtin "len") [.ref a]) Q E s:=by
 obtain⟨z,hd,vs,rel,dd⟩:=vzv I.hok e;refine call_len_dict hd dd (by rw[<-rel.length];rw[sizeLine_eq]at z;omega) ?_;rw[<-rel.length];exact h _ _ (I.tok _)
end
section
variable {X:Cx}
theorem qv2:CallR X (.builtin "len") (λxs H Q=>∃a ai,xs=[V.ref a]/\H a=some (.dK ai)/\Q (.int ai.length) H):=by
 intro pins s σ H xs us Q I r h;obtain⟨a,ai,rfl,ha,q⟩:=h;obtain⟨u,rfl,ru⟩:=J8 r;cases ru;exact vzy I (.inl ha) λt s' I'=>⟨.int ai.length,H,I',⟨t,rfl⟩,q⟩
end
end L2
set_option maxHeartbeats 4000000
namespace L3
open PySem PySem.Spec PyProof.Rows L2
abbrev qq9(fg:List Expr)(env:Env):Sem Bool:=
 forIn fg true λc r=>if r=true then do let ok <-isTrue c env (eval c env);pure (ForInStep.yield ok)else pure (ForInStep.yield r)
theorem jw9 (env : Env): ∀(l : List (Str × NameKind)) (cs : List (Str × Addr)), (∀y ∈ l, y.2 = .free -> ∃c, env.cells.lookup y.1 = some c) ->
    (∀x c, cs.lookup x = some c -> env.cells.lookup x = some c) ->
    ∃ cl, (forIn l cs (λ(x : Str × NameKind) (r : List (Str × Addr))=>if(x.2==NameKind.free) = true then do let a <-cellOf env x.1; pure (ForInStep.yield ((x.1, a)::r))else pure (ForInStep.yield r)): Sem (List (Str × Addr))) = pure cl /\
      (∀x c, cl.lookup x = some c -> env.cells.lookup x = some c) /\ (∀x c, cs.lookup x = some c -> ∃c', cl.lookup x = some c') /\ ∀y ∈ l, y.2 = .free -> ∃c, cl.lookup y.1 = some c
  | [], cs, _, hs=>⟨cs, rfl, hs, λx c h=>⟨c, h⟩, λ_ h=>nomatch h⟩
  | (n, k)::r, cs, hl, hs=>by
    by_cases hk : k = .free
    · subst hk
      obtain⟨c, hc⟩:= hl (n, .free) X3 rfl;have lm : ∀x d, ((n, c)::cs).lookup x = some d -> env.cells.lookup x = some d:= λx d h=>by
        rw[Yz]at h;cases hx : x==n with
        | true=>
          rw[hx]at h;have e : x = n:= by simpa using hx
          have e2 : c = d:= by simpa using h
          subst e; subst e2;exact hc
        | false=>rw[hx]at h; exact hs x d h
      obtain⟨cl, e, a, b, d⟩:= jw9 env r ((n, c)::cs) (λy hy=>hl y (lc9 _ hy)) lm;refine⟨cl, ?_, a, λx c' h=> ?_, λy hy hf=> ?_⟩
      · rw[List.forIn_cons]
        have q : cellOf env n = pure c:= by unfold cellOf; rw[hc]
        simp only[beq_self_eq_true, if_true, q, pure_bind];exact e
      · cases hx : x==n with
        | true=>exact b x c (by rw[Yz, hx])
        | false=>exact b x c' (by rw[Yz, hx]; exact h)
      · rcases List.mem_cons.mp hy with z|z
        · subst z
          exact b n c (by rw[Yz]; simp)
        · exact d y z hf
    · obtain⟨cl, e, a, b, d⟩:= jw9 env r cs (λy hy=>hl y (lc9 _ hy)) hs
      refine⟨cl, ?_, a, b, λy hy hf=> ?_⟩
      · rw[List.forIn_cons]
        have q : (k==NameKind.free) = false:= by simpa using hk
        simp only[q, Bool.false_eq_true, if_false, pure_bind];exact e
      · rcases List.mem_cons.mp hy with z|z
        · subst z
          exact absurd hf hk
        · exact d y z hf
theorem qjf{scope:Scope}{env:Env}(h:∀y∈scope.names,y.2=.free->∃c,env.cells.lookup y.1=some c):
  ∃cl,closureFor scope env=pure cl/\(∀x c,cl.lookup x=some c->env.cells.lookup x=some c)/\∀y∈scope.names,y.2=.free->∃c,cl.lookup y.1=some c:=by
 obtain⟨cl,e,a,_,d⟩:=jw9 env scope.names [] h (λx c h=>nomatch h);refine⟨cl,?_,a,d⟩;unfold closureFor;have e':=congrArg (λt:Sem (List (Str×Addr))=>t >>= pure) e
 simpa using e'
noncomputable def lcX(X:Cx)(scope:Scope)(N:List Str)(cl:List (Str×Addr))(C:Addr)(s0:Shared)(H0:Hp)(fp:List Addr):Cx:=
 { X with N:=N,s₀:=s0,H₀:=H0,env:=compEnvC scope cl C X.env,outer:=X.stack,ex:=fp,fn:=λ_=>false,pn:=[],xe:=λ_ _=>False }
def zQ(k:Nat)(R:List Nat)(σ:L2.St):L2.St:=List.replicate k none++R.map λj=>(σ[j]?).join
structure LcOk (X:Cx)(scope:Scope)(N:List Str)(k:Nat)(R:List Nat):Prop where
 kind:scope.kind=.function
 nocell:∀y∈scope.names,y.2≠.cell
 names:∀y∈scope.names,y.2=.local->scope.names.lookup y.1=some .local
 caps:∀y∈scope.names,y.2=.free->X.env.kindOf y.1=some .cell\/X.env.kindOf y.1=some .free
 len:N.length=k+R.length
 outs:∀i j x,R[i]?=some j->N[k+i]?=some x->X.N[j]?=some x/\scope.names.lookup x=some .free
noncomputable def V5(XN:List Str)(sc scope:Scope)(N:List Str)(k:Nat)(R:List Nat):Bool:=
 scope.names.all (λy=>y.2 != .cell)&&scope.names.all (λy=>y.2 != .local||scope.names.lookup y.1==some .local) &&
 scope.names.all (λy=>y.2 != .free||(sc.names.lookup y.1==some .cell||sc.names.lookup y.1==some .free)) &&
 (N.length==k+R.length)&&(R.zip (N.drop k)).all (λp=>XN[p.1]? == some p.2&&scope.names.lookup p.2==some .free)
theorem qw8{X:Cx}{scope:Scope}{N:List Str}{k:Nat}{R:List Nat}(hk:scope.kind=.function)(h:V5 X.N X.env.scope scope N k R=true):LcOk X scope N k R:=by
 unfold V5 at h;simp only[Bool.and_eq_true,Yr,bne_iff_ne,Bool.or_eq_true,beq_iff_eq]at h;obtain⟨⟨⟨⟨h1,h2⟩,h3⟩,h4⟩,h5⟩:=h;refine⟨hk,λy hy=>h1 y hy,λy hy e=>(h2 y hy).resolve_left (λz=>z e),λy hy e=>(h3 y hy).resolve_left (λz=>z e),h4,λi j x e1 e2=>?_⟩;have m:(j,x)∈R.zip (N.drop k):=by
  refine Yn (i:=i) ?_;rw[List.getElem?_zip_eq_some];exact⟨e1,by rw[List.getElem?_drop];exact e2⟩
 exact h5 (j,x) m
theorem YW {env : Env} {x : Str} {q : NameKind}: ∀{names : List (Str × NameKind)}, (names.map λ(n, k)=>if(k==NameKind.free&&env.scope.kind == .function&&env.kindOf n==some .cell)then(n, NameKind.cell)else(n, k)).lookup x = some q ->
    (x, q) ∈ names \/ (q = .cell /\ (x, NameKind.free) ∈ names)
  | [], h=>nomatch h
  | (n, k)::r, h=>by
    have h : List.lookup x ((if(k==NameKind.free&&env.scope.kind == .function&&env.kindOf n==some .cell) = true then(n, NameKind.cell)else(n, k))::(r.map λ(n, k)=>if(k==NameKind.free&&env.scope.kind == .function&&env.kindOf n==some .cell)then(n, NameKind.cell)else(n, k))) = some q:= h
    by_cases hc : (k==NameKind.free&&env.scope.kind == .function&&env.kindOf n==some .cell) = true
    · rw[Xf hc, Yz]at h
      cases hx : x==n with
      | true=>
        rw[hx]at h;have e : x = n:= by simpa using hx
        have e2 : NameKind.cell = q:= by simpa using h
        subst e;simp only[Bool.and_eq_true, beq_iff_eq]at hc;obtain⟨⟨e3, _⟩, _⟩:= hc;subst e3;exact .inr ⟨e2.symm, X3⟩
      | false=>
        rw[hx]at h;rcases YW (names:= r) h with z|⟨z, y⟩
        · exact .inl (lc9 _ z)
        · exact .inr ⟨z, lc9 _ y⟩
    · rw[Xm hc, Yz]at h
      cases hx : x==n with
      | true=>
        rw[hx]at h;have e : x = n:= by simpa using hx
        have e2 : k = q:= by simpa using h
        subst e; subst e2;exact .inl X3
      | false=>
        rw[hx]at h;rcases YW (names:= r) h with z|⟨z, y⟩
        · exact .inl (lc9 _ z)
        · exact .inr ⟨z, lc9 _ y⟩
section
variable {X:Cx}{pins:List (Addr×Obj)}{σ:L2.St}{H:Hp}{s:Shared}
theorem vvm{scope:Scope}{N:List Str}{k:Nat}{R:List Nat}{cl:List (Str×Addr)}{C:Addr}(sc:LcOk X scope N k R)(bn:∀y∈scope.names,y.2=.free->∃c,cl.lookup y.1=some c)
  {x:Str} (h:(compEnvC scope cl C X.env).kindOf x=some .cell\/(compEnvC scope cl C X.env).kindOf x=some .free):∃c,cl.lookup x=some c:=by
 rcases h with h|h
 ·rcases YW (env:=X.env) (names:=scope.names) h with z|⟨_,z⟩
  ·exact absurd rfl (sc.nocell _ z)
  ·exact bn _ z rfl
 ·rcases YW (env:=X.env) (names:=scope.names) h with z|⟨z,_⟩
  ·exact bn _ z rfl
  ·cases z
theorem vvo{scope:Scope}{N:List Str}{k:Nat}{R:List Nat}{cl:List (Str×Addr)}{C:Addr}{fp:List Addr}(I:Inv X pins σ H s)(sc:LcOk X scope N k R)(hf:∀b∈fp,vq X pins H b)(ho:∀b∈fp,∃o,s.heap.get? b=some o)
  (hC:s.heap.objs.size<=C) (fv:∀x c,cl.lookup x=some c->X.env.cells.lookup x=some c) (bn:∀y∈scope.names,y.2=.free->∃c,cl.lookup y.1=some c):(lcX X scope N cl C s H fp).Ok where
 mod:=I.ok.mod
 kind:=sc.kind
 glob:=I.ok.glob
 blt:=I.ok.blt
 above:=hC
 inj:=λx y c h1 h2=>I.ok.inj x y c (fv _ _ h1) (fv _ _ h2)
 has:=λx h=>vvm sc bn h
 cab:=λx c h=>by cases h
 hd:=I.ok.hd
 frames:=I.ok.frames
 stk:=.inl rfl
 exf:=λb hb=>by
  obtain⟨o,e⟩:=ho b hb;exact⟨Xl (Xg (Xa e) hC),λx c h=>(hf b hb).2.2.2.2.1 x c (fv x c h)⟩
 bs:=λb o e=>I.bs b o e
 bsz:=Y6 I.ok.bsz I.sz
 noex:=λb o e hb=>by
  rcases(hf b hb).2.2.2.1 with z|z
  ·exact I.ok.noex b o e z
  ·exact absurd (Xg (Xa e) (Y6 I.ok.bsz z)) (Y8 _)
 exfs:=λb hb hs=>by
  rcases List.mem_cons.mp (I.stkSub b hs)with z|z
  ·exact(hf b hb).2.1 z
  ·exact(hf b hb).2.2.1 z
 funs:=I.stack
 frf:=I.stkFree
theorem vkp(I:Inv X pins σ H s){a:Addr}(h:s.heap.objs.size<=a):a∉frs X.stack:=λz=>by
 rcases List.mem_cons.mp (I.stkSub a z)with e|e
 ·subst e;exact absurd (Xg I.lt h) (Y8 _)
 ·exact I.nofs h e
theorem vja {scope:Scope} {N:List Str} {k:Nat} {R:List Nat} {cl:List (Str×Addr)} {C D:Addr} {fp:List Addr} {h1:Heap} {t:Nat} {m:Str->Option Value} {oD:Obj} (I:Inv X pins σ H s) (sc:LcOk X scope N k R)
  (hf:∀ b∈fp,vq X pins H b) (ho:∀b∈fp,∃o,s.heap.get? b=some o)
  (hC:s.heap.objs.size<=C) (hD:s.heap.objs.size<=D) (mw:D≠C) (fv:∀x c,cl.lookup x=some c->X.env.cells.lookup x=some c) (bn:∀y∈scope.names,y.2=.free->∃c,cl.lookup y.1=some c)
  (ff:∀ b o,s.heap.get? b=some o->h1.get? b=some o) (hn:h1.Ns C m) (eD:h1.get? D=some oD) (dD:∀v,oD.data≠.cell v):
  Inv (lcX X scope N cl C s H fp) [(D,oD)] (zQ k R σ) H { s with heap:=h1,toks:=t } where
 ok:=vvo I sc hf ho hC fv bn
 os:=rfl
 bare:=I.bare
 base:=Un.kept ff
 loc:=⟨m,hn,λi x v e1 e2 vis=>by
  obtain⟨mX,hnX,hl⟩:=I.loc;unfold zQ at e2
  by_cases hi:i<k
  ·rw [List.getElem?_append_left (by rw[Yc];exact hi),List.getElem?_replicate,Xf hi]at e2;cases e2
  ·have hk:k<=i:=Nat.le_of_not_lt hi;rw [List.getElem?_append_right (by rw[Yc];exact hk),Yc,Xk]at e2;cases er:R[i - k]? with
   | none=>rw[er]at e2;cases e2
   | some j=>
    rw [er]at e2;have ej:(σ[j]?).join=some v:=by simpa using e2
    have ej':σ[j]?=some (some v):=by
     cases q:σ[j]? with
     | none=>rw[q]at ej;cases ej
     | some z=>rw[q]at ej;cases z with
      | none=>cases ej
      | some z=>rw[show z=v by simpa using ej]
    obtain⟨o1,o2⟩:=sc.outs (i - k) j x er (by rw[show k+(i - k)=i by omega];exact e1);have cap:=sc.caps (x,.free) (Yl o2) rfl;have visX:Vis X.env.scope x:=cap.elim (λz=>.inr (.inl z)) λz=>.inr (.inr z)
    obtain⟨u,ru,q⟩:=hl j x v o1 ej' visX;refine⟨u,ru,?_⟩;rcases q with⟨q,_⟩|⟨_,c,ec,hc⟩
    ·rcases cap with z|z
     ·rw[z]at q;cases q
     ·rw[z]at q;cases q
    ·obtain⟨c',ec'⟩:=bn (x,.free) (Yl o2) rfl;have e:c'=c:=oq9 ((fv x c' ec').symm.trans ec);subst e;refine .inr ⟨?_,c',ec',?_⟩
     ·rcases vis with z|z|z
      ·rcases YW (env:=X.env) (names:=scope.names) z with y|⟨y,_⟩
       ·have y':=sc.names _ y rfl;rw[o2]at y';cases y'
       ·cases y
      ·exact .inl z
      ·exact .inr z
     ·obtain⟨o,h1,h2⟩:=hc;exact⟨o,ff _ _ h1,h2⟩⟩
 cell:=λx c h=>by
  obtain⟨v,o,h1,h2⟩:=I.cell x c (fv x c h);exact⟨v,o,ff _ _ h1,h2⟩
 free:=I.hok.fresh hC
 freeC:=λx c h=>I.freeC x c (fv x c h)
 pin:=λp hp=>by
  have e:p=(D,oD):=by
   have hp:p∈([]++[(D,oD)]:List (Addr×Obj)):=hp
   simpa using hp
  subst e;exact⟨eD,I.hok.fresh hD,mw,vkp I hD,dD⟩
 hok:=I.hok.kept ff
 len:=by
  show(zQ k R σ).length=N.length;unfold zQ;rw[sc.len,Y3,Yc,X6]
theorem kja{a:Addr}{o:HO}(I:Inv X pins σ H s)(hn:H a=none)(hL:a≠X.env.locals)(h1:a∈X.ex\/X.s₀.heap.objs.size<=a)(h2:∀x c,X.env.cells.lookup x=some c->c≠a)(h3:∀p∈X.pn++pins,p.1≠a)
  (new:ObjOk X.prog X.w (upd H a o) s.heap a o):Inv X pins σ (upd H a o) s:=by
 have hok:HOk X.prog X.w (upd H a o) s.heap:=λb u e=>by
  by_cases hb:b=a
  ·subst hb;rw[xX]at e;cases e;exact new
  ·rw[kX hb]at e;exact(I.hok b u e).stay (λ_ _ _ q=>q) (λc q=>by rw[kX (zZ q hn)];exact q) λc xs q=>by rw[kX (zZ q hn)];exact q
 have na:∀b:Addr,b∉[a]->b≠a:=λb hb z=>hb (by rw[z];exact List.mem_singleton.mpr rfl)
 exact I.step (h':=s.heap) (H':=upd H a o) (g':=s.gens) (t':=s.toks) (d':=s.drawn) (ch:=[a])
  (λb hb=>by rw[List.mem_singleton.mp hb];exact⟨h1,hL,h2,h3⟩) (λb o _ _ _ e _=>e) (λb o _ _ _ e _=>⟨o.slots,e⟩) (λb o hb _ q=>by rw[kX (na b hb)];exact q)
  (λb o _ e=>⟨o,e⟩) (λb xs q=>by rw[kX (zZ q hn)];exact q) (λb o u q=>by rw[kX (zZ q hn)];exact q) (λb ps q=>⟨#[],by rw[kX (zZ q hn),q];simp⟩)
  (λm hm=>hm) hok I.bare
end
noncomputable def PTs(X:Cx)(fg:List Expr)(t:TT):Prop:=
 ∀(pins:List (Addr×Obj)) (s:Shared) (σ:L2.St) (H:Hp) (Q:Bool->Hp->Prop),Inv X pins σ H s->t σ H Q->wpAny (model X.prog X.w) X.A (qq9 fg X.env) (TP X pins σ Q) X.xe s
abbrev tYes:TT:=λ_ H Q=>Q true H
theorem qzh{X:Cx}:PTs X [] tYes:=λ_ _ _ H _ I h=>wpAny_tests_nil ⟨H,I,h⟩
noncomputable def LcW(g:TG)(tt:TT)(te:TE)(Q:VK)(J:It)(W:Nat->Nat->List V->L2.St->Hp->Prop):Prop:=∀i m ys σ H,W i m ys σ H ->
 (J.stop i H/\ys.length<=sizeLine/\∀p,H p=none->Q (.ref p) (upd H p (.lst ys))) \/
 (J.go i H/\∀x H1,J.yld i H x H1->g x σ H1 fun σ2 H2=>∃(Ny:VK) (Nn:Hp->Prop),(∀y H4,Ny y H4->ys.length<=sizeLine/\∃m',m'<m/\W (i+1) m' (ys++[y]) σ2 H4) /\
  (∀H4,Nn H4->∃m',m'<m/\W (i+1) m' ys σ2 H4)/\tt σ2 H2 λb H3=>if b=true then te σ2 H3 Ny else Nn H3)
abbrev tLC(wi:TI)(g:TG)(tt:TT)(te:TE)(k:Nat)(R:List Nat):TE:=fun σ H Q=>wi σ H λJ H1=>
 ∃W:Nat->Nat->List V->L2.St->Hp->Prop,(∃m,W 0 m [] (zQ k R σ) H1)/\LcW g tt te Q J W
abbrev VY(aa:List Value)(n:Nat):Obj:={ cls:=.type "list",data:=.seq aa.toArray n }
section
variable {X:Cx}
theorem op_mulI:OpR X (binaryOp .Mult) (rI IntMulOk λi j=>.int (i*j)):=opI λ_ _ _ _ _ _ _ hc q=>mul_int q hc
def vx3(_i j:Int):Prop:=0<j/\j.natAbs.log2<9000
theorem wj:OpR X (binaryOp .FloorDiv) (rI vx3 λi j=>.int (i / j)):=opI λi j _ _ _ _ _ hc q=>by
 have h1:(0:Int)<j:=hc.1;exact floordiv_int (by omega) (by rw[Int.fdiv_eq_ediv_of_nonneg i (by omega)];exact q) (.inl (PyProof.noPylong_of_log2 hc.2))
def kinds:List String:=["NoneType","bool","int","str","list","tuple","dict"]
def vw2(T U:String):Bool:=T==U||(T == "bool" && U == "int")
theorem kwv{K:PySem.W.Frag}{T U:String}(hT:T∈kinds)(hU:U∈kinds.tail):PySem.W.kitOne K (.type T) (.type U)=some (vw2 T U):=by
 simp only[kinds,List.tail_cons,Xh,Xe,or_false]at hT hU;rcases hT with rfl|rfl|rfl|rfl|rfl|rfl|rfl<;>rcases hU with rfl|rfl|rfl|rfl|rfl|rfl<;>with_unfolding_all rfl
noncomputable def wjn(K:PySem.W.Frag):List V->Hp->VK->Prop:=λxs H Q=>∃x T U,xs=[x,.ty U]/\TyOf K H x (.type T)/\T∈kinds/\U∈kinds.tail/\Q (.bl (vw2 T U)) H
theorem qwr:CallR X (.builtin "isinstance") (wjn X.K):=by
 intro pins s σ H xs us Q I r h;obtain⟨x,T,U,rfl,ty,hT,hU,q⟩:=h;obtain⟨u,w',rfl,r1,r2⟩:=qjq r;cases(show w'=Value.type U from r2);exact qqf I r1 ty (kwv hT hU) λtk=>⟨.bl _,H,I.tok _,rfl,q⟩
theorem qxq:∀{bs:List Bool} {aa:List Value} {i:Nat} {v:Value},Vals (bs.map V.bl) aa->aa[i]?=some v->∃b,bs[i]?=some b/\v=.bool b
 |[],_,_,_,.nil,e=>by simp at e
 |b::bs,_,0,v,.cons r _,e=>by
  simp at e;subst e;exact⟨b,rfl,r⟩
 |b::bs,_,i+1,v,.cons _ t,e=>by
  obtain⟨b',e1,e2⟩:=qxq (i:=i) t (by simpa using e);exact⟨b',by simpa using e1,e2⟩
theorem kv9(bs:List Bool):((List.range bs.length).all λi=>(bs[i]?).getD true)=bs.all id:=by
 rw[Bool.eq_iff_iff,Yr,Yr];constructor
 ·intro h b hb;obtain⟨i,hi,e⟩:=List.getElem_of_mem hb;have:=h i (List.mem_range.mpr hi);rw[X2 hi,e]at this;exact this
 ·intro h i hi;have p6:=List.mem_range.mp hi;rw[X2 p6];exact h _ (Yb p6)
noncomputable def vz0(K:PySem.W.Frag):List V->Hp->VK->Prop:=λxs H Q=>∃(p:Addr) (bs:List Bool),xs=[.ref p]/\SqL K H p (bs.map V.bl)/\Q (.bl (bs.all id)) H
theorem qws(hc:X.calm=true):CallR X (.builtin "all") (vz0 X.K):=by
 intro pins s σ H xs us Q I r h;obtain⟨p,bs,rfl,hq,q⟩:=h;obtain⟨u,rfl,ru⟩:=J8 r;cases ru;obtain⟨aa,rv,pl,hz⟩:=I.list hq;have hl:=pl.isList;have cz:p<s.heap.objs.size:=by obtain⟨_,e,_⟩:=hl;exact Xa e
 have ac:bs.length=aa.length:=by rw[<-rv.length,X6]
 refine call_all_walk (Yu hl ?_);refine⟨s.heap.objs.size,[s.heap.objs.size,p],[s.heap.objs.size],aa.toArray.size,_,_,λi=>(bs[i]?).getD true,rfl,Walks.list (A:=X.A.in1) (I.ok.hd hc) _ p (Xl cz) aa.toArray,
  ⟨⟨_,X8 _ rfl,rfl,rfl⟩,hl.push _⟩,λi v s' Q' E' hP hQ=>?_,λh' tk hk=>?_⟩
 ·obtain⟨b,e,rfl⟩:=qxq rv (by simpa using hP);simp only[e,Option.getD_some]at hQ;exact Yj hQ
 ·have e:((List.range aa.toArray.size).all λi=>(bs[i]?).getD true)=bs.all id:=by
   rw[X7,<-ac];exact kv9 bs
  rw[e];refine⟨.bl _,H,I.kept (t':=tk) (h':=h') λb o e=>hk b o (λz=>?_) (X1 _ e),rfl,q⟩;exact absurd (Xa e) (by rw[List.mem_singleton.mp z];exact Y8 _)
def Its(x:Str):It:=⟨λi _=>i<x.cps.size,λi H v H'=>H'=H/\∃c,x.cps[i]?=some c/\v=.str ⟨#[c]⟩,λi _=>i=x.cps.size⟩
theorem kx9{P:Program}{w:World}{K:PySem.W.Frag}{tg:Expr}{x:Str}{t:Tok}{it:Addr}{ty:String}
  (W:∀A':Around,A'.handled=none->Walks P w A' it [it] [it] x.cps.size (SignAt x) (λi h=>h.IsStrIter it ty x t i))
  (pp:∀(A:Around) (i:Nat) (s:Shared) (Q:Value->Shared->Prop) (E:Value->Shared->Prop),s.heap.IsStrIter it ty x t i->Q (.ref it) s->wpAny (model P w) A (pyIter (.ref it)) Q E s)
  (kg:["enumerate","zip","dict_itemiterator","dict_reverseitemiterator","odict_iterator","itertools.zip_longest","itertools.pairwise"].contains ty=false):
  Turn P w K tg (Its x) [it] it (λi h=>h.IsStrIter it ty x t i) where
 mem:=by simp
 obj:=λi h st b hb=>by
  have e:b=it:=by simpa using hb
  subst e;obtain⟨o,e,c,d⟩:=st;exact⟨o,e,λv z=>by rw[d]at z;cases z⟩
 keep:=λi h h' st k=>by
  obtain⟨o,e,r⟩:=st;exact⟨o,k it (by simp) o e,r⟩
 item:=by
  intro X hP hw hK hc i pins s σ H E I hf st hg;subst hP hw hK;obtain⟨f0,f1,f2,f3,f4,f5⟩:=hf it (by simp);refine(W X.A (I.ok.hd hc)).item i s _ _ hg st λv h' tk hv dq kk=>?_
  obtain⟨c,u,bj,rfl⟩:=hv;have I1:Inv X pins σ H { s with heap:=h',toks:=tk }:=I.turned (λb o hb e=>kk b o (by simpa using hb) e) f0 f1 f3 f4 f5;obtain⟨o,e,c1,d⟩:=id dq;exact⟨_,rfl,qwd (s:={ s with heap:=h',toks:=tk }) e c1 d kg ⟨.str ⟨#[c]⟩,H,I1,⟨u,rfl⟩,⟨rfl,c,bj,rfl⟩,dq,λb hb=>(hf b hb).1⟩⟩
 done:=by
  intro X hP hw hK hc i pins s σ H E I hf st hg;subst hP hw hK;obtain⟨f0,f1,f2,f3,f4,f5⟩:=hf it (by simp);have lx:i=x.cps.size:=hg;subst lx;exact(W X.A (I.ok.hd hc)).done s _ _ st λh' tk kk=>⟨rfl,I.turned (λb o hb e=>kk b o (by simpa using hb) e) f0 f1 f3 f4 f5⟩
 self:=λA i s Q E st hQ=>pp A i s Q E st hQ
noncomputable def wjh:V->Option Int->Option Int->Hp->VK->Prop:=λx lo hi H Q=>∃z,x=.str z/\z.length<=sizeLine/\Q (.str (Txt.slice z lo hi)) H
theorem vku:SlR X wjh:=by
 intro pins s σ H x v vl vu lo hi sl Q I rx hs pl pu h;obtain⟨z,rfl,hz,q⟩:=h;obtain⟨t,rfl⟩:=rx;refine⟨"str",_,F.slot_str_getitem.lookup,typeIs_str _ _ _,?_⟩;have fin:∀(t':Tok) (k:Nat),EP X pins σ Q (.str (Txt.slice z lo hi) t') { s with toks:=k }:=λt' k=>⟨.str _,H,I.tok k,⟨t',rfl⟩,q⟩
 have em:(Txt.slice z lo hi).length<=sizeLine:=Y6 (Txt.slice_le z _ _) hz;cases pl with
 |none=>cases pu with
  |none=>exact wpAny_getItem_str_slice (l:=none) (u:=none) (st:=none) hs rfl (post_val_or_str ⟨em,fin⟩)
  |int j tj=>exact wpAny_getItem_str_slice (l:=none) (u:=some (j,tj)) (st:=none) hs rfl (post_val_or_str ⟨em,fin⟩)
 |int i ti=>cases pu with
  |none=>exact wpAny_getItem_str_slice (l:=some (i,ti)) (u:=none) (st:=none) hs rfl (post_val_or_str ⟨em,fin⟩)
  |int j tj=>exact wpAny_getItem_str_slice (l:=some (i,ti)) (u:=some (j,tj)) (st:=none) hs rfl (post_val_or_str ⟨em,fin⟩)
def vq3:R2:=λx y H Q=>∃z n,x=.str z/\y=.int n/\(z.length<=1024/\n<=1024/\-1024<=n)/\Q (.str (Txt.mul z n)) H
theorem qzy:OpR X (binaryOp .Mult) vq3:=by
 intro pins s σ H x y v u Q I rx ry h;obtain⟨z,n,rfl,rfl,⟨h1,h2,h3⟩,q⟩:=h;obtain⟨t,rfl⟩:=rx;obtain⟨t',rfl⟩:=ry;exact SB.mul (mulOk_of 1024 1024 h1 h2 (by omega) (by decide) (by decide)) λt' k=>⟨.str _,H,I.tok k,⟨t',rfl⟩,q⟩
theorem kxe:∀{ys:List Str} {aa:List Value},Vals (ys.map V.str) aa->StrsAre aa ys
 |[],_,.nil=>.nil
 |_::_,_,.cons ⟨t,e⟩ r=>by subst e;exact .cons _ t (kxe r)
noncomputable def vxy(K:PySem.W.Frag):V->List V->Hp->VK->Prop:=λx vs H Q=>∃z p ys,x=.str z/\vs=[.ref p]/\SqL K H p (ys.map V.str)/\(ys.map (·.length)).sum+ys.length*z.length<=16777216/\Q (.str (Txt.join z ys)) H
theorem vj5:MtR X "str.join" (vxy X.K):=by
 intro pins s σ H x xs v us Q I rx rv h;obtain⟨z,p,ys,rfl,rfl,hq,hok,q⟩:=h;obtain⟨t,rfl⟩:=rx;obtain⟨u,rfl,ru⟩:=rv.one;cases ru;obtain⟨aa,rs,pl,hz⟩:=I.list hq;exact join_list pl.isList (kxe rs) hok λt' k=>⟨.str _,H,I.tok k,⟨t',rfl⟩,q⟩
noncomputable def qx2(K:PySem.W.Frag):V->Option Int->Option Int->Hp->VK->Prop:=λx lo hi H Q=>wji K x lo hi H Q\/wjg K x lo hi H Q\/wjh x lo hi H Q
theorem vxq(K:PySem.W.Frag)(hK:autoParam (X.K=K) Ŕ):SlR X (qx2 K):=by subst hK;exact sl_list.or (sl_tup.or vku)
noncomputable def qkd(K:PySem.W.Frag):List V->Hp->VK->Prop:=λxs H Q=>(∃p ys,xs=[.ref p]/\(SqL K H p ys\/SqT K H p ys)/\Q (.int ys.length) H)\/(∃z,xs=[.str z]/\z.length<=sizeLine/\Q (.int z.length) H)\/(∃a ai,xs=[V.ref a]/\H a=some (.dK ai)/\Q (.int ai.length) H)
theorem vjv(K:PySem.W.Frag)(hK:autoParam (X.K=K) Ŕ):CallR X (.builtin "len") (qkd K):=by subst hK;exact call_len_seq.or (call_len_str.or qv2)
theorem Vz(K:PySem.W.Frag)(hK:autoParam (X.K=K) Ŕ)(hc:autoParam (X.calm=true) Ŕ):CallR X (.builtin "all") (vz0 K):=by subst hK;exact qws hc
theorem qxc(K:PySem.W.Frag){o e:Expr}{es:List Expr}{T:String}{name:Str}{id:String}{r:V->List V->Hp->VK->Prop}{to:TE}{t:TA}{av ag:Pos}
  (pa:PlainAttrs T) (slot:Slot T name id) (kg:typeOf (.builtin id)=pure (.type "method_descriptor")) (hm:MtR X id r) (ho:PE X o to) (ha:PA X (e::es) t)
  (b6:autoParam (attributeBase o name X.env (eval o X.env)=eval o X.env) Ŕ)
  (ei:autoParam (((backTo ag (starEach (e::es) X.env)).all (λx=>!x.1)&&(backToKw ag (keywordEach [] X.env)).all (λx=>x.1.isSome)
   && decide ((e::es).length+([]:List Keyword).length+(if([]:List Keyword).isEmpty then 0 else 1)<30))=true) Ŕ)
  (b8:autoParam ((av.endLine==ag.line)=true) Ŕ) (hs:autoParam (starEach (e::es) X.env=(false,eval e X.env)::starEach es X.env) Ŕ) (be:autoParam ((backTo ag (starEach es X.env)).any (·.1)=false) Ŕ) (hK:autoParam (X.K=K) Ŕ):
  PE X (.Call (.Attribute o name av) (e::es) [] ag) (tBM K T r to t):=by subst hK;exact qzu pa slot kg hm ho ha b6 ei b8 hs be
theorem vwn:bootBuiltins "len"=some (.builtin "len"):=by decide +kernel
theorem kql:bootBuiltins "isinstance"=some (.builtin "isinstance"):=by decide +kernel
theorem Vk:bootBuiltins "all"=some (.builtin "all"):=by decide +kernel
theorem vwm:bootBuiltins "sum"=some (.builtin "sum"):=by decide +kernel
theorem qv6:bootBuiltins "sorted"=some (.builtin "sorted"):=by decide +kernel
theorem qxp:bootBuiltins "int"=some (.type "int"):=by decide +kernel
theorem kzi:bootBuiltins "str"=some (.type "str"):=by decide +kernel
theorem ZJ:bootBuiltins "bool"=some (.type "bool"):=by decide +kernel
theorem Jw:bootBuiltins "list"=some (.type "list"):=by decide +kernel
theorem V7:bootBuiltins "tuple"=some (.type "tuple"):=by decide +kernel
theorem qxo:bootBuiltins "zip"=some (.type "zip"):=by decide +kernel
end
def Cst(mg:Str->Option Value)(x:Str)(v:V):Prop:=∃u,mg x=some u/\RelV v u
section
variable {X:Cx}{x:Str}{p pos:Pos}{e:Expr}{es:List Expr}{t:TA}{ps:List Str}{sp:Sp}{k:Nat}{v:V}
theorem Ww(c:Cst X.mg x v)(hg:autoParam (Gl X x) Ŕ)(hd:autoParam ((x==("__debug__":Str))=false) ŕ):PE X (.Name x pos) (tC v):=by
 obtain⟨u,m,r⟩:=c;exact qzr hg m r hd
end
theorem kzj:∀{ns:List Int} {m:Nat},PySem.W.WData.weightAll (ns.map PySem.W.WData.int)<=m->∀n∈ns,Builtin.Int.intBits n<=m
 | [],_,_,_,h=>nomatch h
 | a::r,m,h,n,hn=>by
  have h':(if a==0 then 0 else a.natAbs.log2+1)+1+PySem.W.WData.weightAll (r.map PySem.W.WData.int)<=m:=h;rcases List.mem_cons.mp hn with z|z
  ·subst z;have e:Builtin.Int.intBits n=(if n==0 then 0 else n.natAbs.log2+1):=rfl;rw[e];omega
  ·exact kzj (m:=m) (by omega) n z
theorem kx4{ns:List Int}(h:PySem.W.WData.layableAll [PySem.W.WData.list (ns.map PySem.W.WData.int)]=true):∀n∈ns,Builtin.Int.intBits n<=1048576:=by
 have h1:(PySem.W.WData.list (ns.map PySem.W.WData.int)).layable=true:=(PySem.W.layW_cons h).1;unfold PySem.W.WData.layable at h1;simp only[Bool.and_eq_true,decide_eq_true_eq]at h1;have h2:PySem.W.WData.weightAll (ns.map PySem.W.WData.int)<=2 ^ 20:=h1.2;exact kzj (by simpa using h2)
inductive D where
 |non|bl (b:Bool)|int (i:Int)|str (z:Str)|lst (xs:List D)|tup (xs:List D)
section
variable {X:Cx}{pins:List (Addr×Obj)}{σ:L2.St}{H:Hp}{s:Shared}
theorem in1_units(A:Around):A.in1.units<=A.units+1:=by
 first|exact Xd _|(show A.units+1<=A.units+1;exact Xd _)|(unfold Around.in1;simp)
end
section
variable {X:Cx}
noncomputable def qzb:V->List V->Hp->VK->Prop:=λv vs H Q=>∃(x y:Str) (i:Nat) (j9:List Nat),v=.str x/\vs=[.str y]/\Builtin.Str.occurrences x y 0 x.length 1=i::j9/\Q (.int i) H
theorem vj6:MtR X "str.index" qzb:=by
 intro pins s σ H x xs v us Q I rx rv h;obtain⟨z,y,i,j9,rfl,rfl,ho,q⟩:=h;obtain⟨t,rfl⟩:=rx;obtain⟨u,rfl,t',rfl⟩:=rv.one;exact SC.index ho ⟨.int i,H,I.tok _,⟨_,rfl⟩,q⟩
noncomputable def qkc(K:PySem.W.Frag):List V->Hp->VK->Prop:=λxs H Q=>∃p ys,xs=[.ref p]/\(SqL K H p ys\/SqT K H p ys)/\∀l,H l=none->Q (.ref l) (upd H l (.lst ys))
theorem jzn(K:PySem.W.Frag)(hK:autoParam (X.K=K) Ŕ):CallR X (.type "list") (qkc K):=by subst hK;exact kw5
theorem qkr(K:PySem.W.Frag){o:Expr}{T:String}{name:Str}{id:String}{r:V->List V->Hp->VK->Prop}{to:TE}{av ag:Pos}
  (pa:PlainAttrs T) (slot:Slot T name id) (kg:typeOf (.builtin id)=pure (.type "method_descriptor")) (hm:MtR X id r) (ho:PE X o to)
  (b6:autoParam (attributeBase o name X.env (eval o X.env)=eval o X.env) Ŕ) (b8:autoParam ((av.endLine==ag.line)=true) Ŕ) (hK:autoParam (X.K=K) Ŕ):
  PE X (.Call (.Attribute o name av) [] [] ag) (wjc K T r to):=by subst hK;exact vqy pa slot kg hm ho b6 b8
end
abbrev LET:Str:="abcdefghijklmnopqrstuvwxyz"
def Wd(z:Str):Prop:=1<=z.length/\z.length<=8/\∀ch∈z.cps.toList,ch∈LET.cps.toList
section
variable {X:Cx}{pins:List (Addr×Obj)}{σ:L2.St}{H:Hp}{s:Shared}
theorem jvp{t':Nat}{h':Heap}(fp:List Addr)(I:Inv X pins σ H s)(k:∀b o,b∉fp->s.heap.get? b=some o->h'.get? b=some o)(hf:∀b∈fp,vq X pins H b):Inv X pins σ H { s with heap:=h',toks:=t' }:=by
 have nt:∀b u,H b=some u->b∉fp:=λb u e z=>by rw[(hf b z).1]at e;cases e
 refine I.step (g':=s.gens) (d':=s.drawn) (ch:=fp) (λb hb=>?_) (λb o _ _ hc e _=>k b o hc e) (λb o _ _ hc e _=>⟨o.slots,k b o hc e⟩) (λ_ _ _ _ n=>n)
  (λb o hc e=>⟨o,k b o hc e⟩) (λ_ _ e=>e) (λ_ _ _ e=>e) (λb ps e=>⟨#[],by rw[e];simp⟩) (λm hm=>?_) (λb u e=>?_) I.bare
 ·obtain⟨_,f1,_,f3,f4,f5⟩:=hf b hb;exact⟨f3,f1,f4,f5⟩
 ·obtain⟨o,es,ep,ho,r⟩:=hm;exact⟨o,es,ep,k _ o (λz=>(hf _ z).2.1 rfl) ho,r⟩
 ·refine(I.hok b u e).stay (λc v hc q=>k c v ?_ q) (λ_ q=>q) λ_ _ q=>q
  rcases hc with z|z
  ·rw[z];exact nt b u e
  ·exact nt c _ z
end
noncomputable def Itz(K:PySem.W.Frag)(l1 l2:Addr):It:=⟨λi H=>∃xs ys x y,SqL K H l1 xs/\SqL K H l2 ys/\xs[i]?=some x/\ys[i]?=some y,
 λi H v H'=>∃T x y,H T=none/\v=.ref T/\H'=upd H T (.tup [x,y])/\(∀xs,SqL K H l1 xs->xs[i]?=some x)/\∀ys,SqL K H l2 ys->ys[i]?=some y,
 λi H=>∃xs ys,SqL K H l1 xs/\SqL K H l2 ys/\(xs.length<=i\/ys.length<=i)⟩
abbrev znt(z TI TO i1 i2 l1 l2:Addr)(i:Nat)(h:Heap):Prop:=IsZip h z TI TO .none/\IsPair h TI (.ref i1) (.ref i2)/\(∃a b,IsPair h TO a b)/\h.IsListIter i1 l1 i/\h.IsListIter i2 l2 i
theorem kx8{P:Program}{w:World}{K:PySem.W.Frag}{c8:List Expr}{k1:Nat}{pos:Pos}{z TI TO i1 i2 l1 l2:Addr}(ap:ZipApart z TI TO i1 i2 l1 l2):
  Turn P w K (.Tuple c8 k1 pos) (Itz K l1 l2) [z,TI,TO,i1,i2] z (znt z TI TO i1 i2 l1 l2) where
 mem:=by simp
 obj:=λi h st b hb=>by
  obtain⟨h1,h2,⟨a,c,h3⟩,⟨o4,e4,c4,d4⟩,o5,e5,c5,d5⟩:=st;simp only[Xh,Xe,or_false]at hb;rcases hb with rfl|rfl|rfl|rfl|rfl
  ·exact⟨_,h1,λv z=>by cases z⟩
  ·exact⟨_,h2,λv z=>by cases z⟩
  ·exact⟨_,h3,λv z=>by cases z⟩
  ·exact⟨_,e4,λv z=>by rw[d4]at z;cases z⟩
  ·exact⟨_,e5,λv z=>by rw[d5]at z;cases z⟩
 keep:=λi h h' st k=>by
  obtain⟨h1,h2,⟨a,c,h3⟩,⟨o4,e4,c4,d4⟩,o5,e5,c5,d5⟩:=st;exact⟨k _ (by simp) _ h1,k _ (by simp) _ h2,⟨a,c,k _ (by simp) _ h3⟩,⟨o4,k _ (by simp) _ e4,c4,d4⟩,o5,k _ (by simp) _ e5,c5,d5⟩
 item:=by
  intro X hP hw hK hc i pins s σ H E I hf st hg;subst hP hw hK;obtain⟨xs,ys,x,y,q1,q2,hx,hy⟩:=hg;obtain⟨f7,ji,p1,jt⟩:=I.list q1;obtain⟨u1,hu1,ru1⟩:=ji.get hx;obtain⟨cp,kl,p2,jp⟩:=I.list q2;obtain⟨u2,hu2,ru2⟩:=kl.get hy;obtain⟨t1,t2,⟨a,b,t3⟩,t4,t5⟩:=st;refine wpAny_pyNext_zip_item ap t1 t2 t3 t4 t5 p1.isList p2.isList (x:=u1) (y:=u2) (by simpa using hu1) (by simpa using hu2) λh1 g1 g3 g4 g5 gT gs gk=>?_
  refine⟨_,rfl,wpAny_letOwnedTupleGo_zip (s:={ s with heap:=h1 }) g1 λh2 f1 sb=>?_⟩;have fT:vq X pins H s.heap.objs.size:=I.fpOk (Xd _) (I.hok.fresh (Xd _));have nT:∀b∈[z,TI,TO,i1,i2],b≠s.heap.objs.size:=λb hb e=>by
   obtain⟨o,eo,_⟩:∃o,s.heap.get? b=some o/\True:=by
    simp only[Xh,Xe,or_false]at hb;obtain⟨o4,e4,_⟩:=t4;obtain⟨o5,e5,_⟩:=t5;rcases hb with rfl|rfl|rfl|rfl|rfl
    ·exact⟨_,t1,trivial⟩
    ·exact⟨_,t2,trivial⟩
    ·exact⟨_,t3,trivial⟩
    ·exact⟨_,e4,trivial⟩
    ·exact⟨_,e5,trivial⟩
   exact absurd (Xa eo) (by rw[e];exact Y8 _)
  have kk:∀b o,b∉[z,TO,i1,i2]->s.heap.get? b=some o->h2.get? b=some o:=λb o hb e=>by
   simp only[Xh,Xe,or_false,not_or]at hb;exact(sb.2 b hb.1).trans (gk b o hb.1 hb.2.1 hb.2.2.1 hb.2.2.2 e)
  have I1:Inv X pins σ H { s with heap:=h2,toks:=s.toks }:=jvp [z,TO,i1,i2] I kk λb hb=>hf b (by
   simp only[Xh,Xe,or_false]at hb ⊢;rcases hb with h|h|h|h<;>simp[h])
  have nz:s.heap.objs.size≠z:=λe=>nT z (by simp) e.symm
  have I2:=kja (a:=s.heap.objs.size) (o:=.tup [x,y]) I1 fT.1 fT.2.1 fT.2.2.2.1 fT.2.2.2.2.1 fT.2.2.2.2.2
   (show ObjOk X.prog X.w _ h2 _ (.tup [x,y])from⟨by show(2:Nat)<=sizeLine;decide,[u1,u2],.cons ru1 (.cons ru2 .nil),⟨_,(sb.2 _ nz).trans gT,rfl,rfl,0,rfl⟩⟩)
  refine⟨.ref s.heap.objs.size,_,I2,rfl,⟨_,x,y,fT.1,rfl,rfl,λzs mh=>by rw[I.list_inj mh q1];exact hx,λzs mh=>by rw[I.list_inj mh q2];exact hy⟩,?_,λb hb=>by rw[kX (nT b hb)];exact(hf b hb).1⟩;refine⟨f1,?_,⟨u1,u2,(sb.2 _ ap.TOz).trans g3⟩,g4.at λo e=>(sb.2 _ ap.i1z).trans e,g5.at λo e=>(sb.2 _ ap.i2z).trans e⟩;exact(sb.2 _ ap.TIz).trans (gk _ _ ap.TIz ap.TITO ap.TIi1 ap.TIi2 t2)
 done:=by
  intro X hP hw hK hc i pins s σ H E I hf st hg;subst hP hw hK;obtain⟨xs,ys,q1,q2,hx⟩:=hg;obtain⟨f7,ji,p1,jt⟩:=I.list q1;obtain⟨cp,kl,p2,jp⟩:=I.list q2;obtain⟨t1,t2,⟨a,b,t3⟩,t4,t5⟩:=st;have i7:=ji.length;have gp:=kl.length;refine wpAny_pyNext_zip_end (I.ok.hd hc) ap t1 t2 t3 t4 t5 p1.isList p2.isList (hx.imp (λh=>by simp;omega) λh=>by simp;omega) λh' kk=>⟨rfl,?_⟩
  refine jvp (t':=s.toks) [z,TO,i1,i2] I (λb o hb e=>?_) λb hb=>hf b (by
   simp only[Xh,Xe,or_false]at hb ⊢;rcases hb with h|h|h|h<;>simp[h])
  simp only[Xh,Xe,or_false,not_or]at hb;exact kk b o hb.1 hb.2.1 hb.2.2.1 hb.2.2.2 e
 self:=λ_ _ _ _ _ st h=>wpAny_pyIter_zip st.1 h
abbrev iZip(K:PySem.W.Frag)(ta:TA):TI:=fun σ H R=>ta σ H λvs H1=>∃l1 l2,vs=[.ref l1,.ref l2]/\(∃xs,SqL K H1 l1 xs)/\(∃ys,SqL K H1 l2 ys)/\R (Itz K l1 l2) H1
section
variable {X:Cx}
theorem vqq(K:PySem.W.Frag){a b:Expr}{ta:TA}{p pos fh:Pos}{c8:List Expr}{k1:Nat}(hg:Gl X "zip")(hm:X.mg "zip"=none)(ha:PA X [a,b] ta)(hK:autoParam (X.K=K) Ŕ)
  (hs:autoParam (starEach [a,b] X.env=[(false,eval a X.env),(false,eval b X.env)]) Ŕ) (ip:autoParam (starEach [b] X.env=[(false,eval b X.env)]) Ŕ):
  PI X (.Tuple c8 k1 fh) (.Call (.Name "zip" p) [a,b] [] pos) (iZip K ta):=by
 subst hK;intro pins s σ H R I h;refine Call_ (Q1 I hg hm qxo (Yh (thn (ha pos pins s σ H _ I h) λus s1 ⟨vs,H1,I1,r1,q1⟩=>?_) (by rw[hs,ip]) (by rw[ip];rfl)));obtain⟨l1,l2,rfl,⟨xs,q1⟩,⟨ys,q2⟩,q⟩:=q1;obtain⟨u1,u2,rfl,e1,e2⟩:=qjq r1;cases e1;cases e2;obtain⟨f7,ji,p1,jt⟩:=I1.list q1;obtain⟨cp,kl,p2,jp⟩:=I1.list q2;have lt:∀{l:Addr} {ar:Array Value},s1.heap.IsList l ar->l<s1.heap.objs.size:=λh=>by obtain⟨_,e,_⟩:=h;exact Xa e
 refine call_zip_2 p1.isList p2.isList λh' g1 g2 g3 g4 g5 gs gk=>?_
 refine wpAny_pyIter_zip g1 ⟨_,[_,s1.heap.objs.size+2,s1.heap.objs.size+3,s1.heap.objs.size,s1.heap.objs.size+1],_,_,H1,rfl,I1.kept (t':=s1.toks) gk,
  kx8 (zipApart_new (lt p1.isList) (lt p2.isList)),⟨g1,g2,⟨_,_,g3⟩,g4,g5⟩,λb hb=>?_,q⟩
 have em:s1.heap.objs.size<=b:=by
  simp only[Xh,Xe,or_false]at hb;rcases hb with rfl|rfl|rfl|rfl|rfl<;>omega
 exact I1.fpOk em (I1.hok.fresh em)
end
end L3
namespace L2
open PySem PySem.Spec PyProof.Rows
section
variable {X:Cx}{pins:List (Addr×Obj)}{σ:List (Option V)}{H H':Hp}{s:Shared}{h':Heap}
theorem Inv.stepN{g':Array GenState}{t':Nat}{d':Drawn}{ch:List Addr}(I:Inv X pins σ H s)
  (dy:∀b∈ch,(b∈X.ex\/X.s₀.heap.get? b=none)/\b≠X.env.locals/\(∀x c,X.env.cells.lookup x=some c->c≠b)/\∀p∈X.pn++pins,p.1≠b)
  (keep:∀b o,b≠X.env.locals->b∉X.fs->b∉ch->s.heap.get? b=some o->H b=none->h'.get? b=some o)
  (slot:∀b o,b≠X.env.locals->b∈X.fs->b∉ch->s.heap.get? b=some o->H b=none->∃sl,h'.get? b=some { o with slots:=sl }) (free:∀b o,b∉ch->s.heap.get? b=some o->H b=none->H' b=none)
  (there:∀b o,b∉ch->s.heap.get? b=some o->∃o',h'.get? b=some o')
  (tups:∀b xs,H b=some (.tup xs)->H' b=some (.tup xs)) (frzs:∀b o u,H b=some (.frz o u)->H' b=some (.frz o u)) (tbls:∀b ps,H b=some (.tbl ps)->∃more,H' b=some (.tbl (ps++more)))
  (ns:∀m,s.heap.Ns X.env.locals m->h'.Ns X.env.locals m) (hok:HOk X.prog X.w H' h') (hg:AllBare g'):
  Inv X pins σ H' { s with heap:=h',gens:=g',drawn:=d',toks:=t' }:=by
 have ny:∀b o,X.s₀.heap.get? b=some o->b≠X.env.locals:=λb o e=>Xl (Xg (Xa e) I.ok.above)
 have ka:∀b o,X.s₀.heap.get? b=some o->b∉X.ex->b∉ch:=λb o e hx hb=>by
  rcases(dy b hb).1 with z|z
  ·exact hx z
  ·rw[z]at e;cases e
 have gb:∀x c,X.env.cells.lookup x=some c->∀v,s.heap.IsCell c v->h'.IsCell c v:=λx c e v ⟨o,ho,hd⟩=>by
  have im:c∉ch:=λz=>(dy c z).2.2.1 x c e rfl
  by_cases hc:c∈X.fs
  ·obtain⟨sl,q⟩:=slot c o (I.cne x c e) hc im ho (I.freeC x c e);exact⟨_,q,hd⟩
  ·exact⟨o,keep c o (I.cne x c e) hc im ho (I.freeC x c e),hd⟩
 refine⟨I.ok,I.os,hg,⟨λb o e n hb hx=>?_,λb o e n hb hx=>?_,λb o e n hx=>?_,λb o e hx=>?_,λb xs e=>tups b xs (I.base.tups b xs e),λb o xs e=>frzs b o xs (I.base.frzs b o xs e),λb ps e=>?_⟩,?_,λx c e=>?_,?_,λx c e=>?_,λp hp=>?_,hok,I.len⟩
 ·exact keep b o (ny b o e) hb (ka b o e hx) (I.base.keep b o e n hb hx) (I.base.free b o e n hx)
 ·obtain⟨sl,e1⟩:=I.base.slot b o e n hb hx;obtain⟨sl',e2⟩:=slot b _ (ny b o e) hb (ka b o e hx) e1 (I.base.free b o e n hx);exact⟨sl',e2⟩
 ·obtain⟨o',e1⟩:=I.base.there b o e hx;exact free b o' (ka b o e hx) e1 (I.base.free b o e n hx)
 ·obtain⟨o',e1⟩:=I.base.there b o e hx;exact there b o' (ka b o e hx) e1
 ·obtain⟨m1,e1⟩:=I.base.tbls b ps e;obtain⟨m2,e2⟩:=tbls b _ e1;exact⟨m1++m2,by rw[e2,Array.append_assoc]⟩
 ·obtain⟨m,hn,hl⟩:=I.loc;refine⟨m,ns m hn,λi x v e1 e2 e3=>?_⟩;obtain⟨u,r,l⟩:=hl i x v e1 e2 e3;refine⟨u,r,?_⟩;rcases l with l|⟨k,c,e,z⟩
  ·exact .inl l
  ·exact .inr ⟨k,c,e,gb x c e _ z⟩
 ·obtain⟨v,z⟩:=I.cell x c e;exact⟨v,gb x c e v z⟩
 ·obtain⟨m,⟨o,_,_,ho,_⟩,_⟩:=I.loc;exact free _ o (λz=>(dy _ z).2.1 rfl) ho I.free
 ·obtain⟨v,o,ho,hd⟩:=I.cell x c e;exact free c o (λz=>(dy c z).2.2.1 x c e rfl) ho (I.freeC x c e)
 ·obtain⟨e,n,ne,nf,d⟩:=I.pin p hp;have im:p.1∉ch:=λz=>(dy p.1 z).2.2.2 p hp rfl
  exact⟨keep p.1 p.2 ne nf im e n,free p.1 p.2 im e n,ne,nf,d⟩
theorem Inv.callN{g':Array GenState}{t':Nat}{d':Drawn}{ch:List Addr}(I:Inv X pins σ H s)(u:Un (frs X.stack) ch H H' s.heap h')(hok:HOk X.prog X.w H' h')(hg:AllBare g')
  (dy:∀b∈ch,(b∈X.ex\/X.s₀.heap.get? b=none)/\b≠X.env.locals/\(∀x c,X.env.cells.lookup x=some c->c≠b)/\∀p∈X.pn++pins,p.1≠b):
  Inv X pins σ H' { s with heap:=h',gens:=g',drawn:=d',toks:=t' }:=by
 obtain⟨m,⟨o,es,ep,ho,r⟩,_⟩:=id I.loc;obtain⟨sl,hL⟩:=u.any ho I.free λz=>(dy _ z).2.1 rfl
 exact I.stepN (ch:=ch) dy (λb o hL hb hc e n=>u.keep b o e n (λz=>(List.mem_cons.mp (I.stkSub b z)).elim hL hb) hc) (λb o _ _ hc e n=>u.any e n hc) (λb o hc e n=>u.free b o e n hc) (λb o hc e=>u.there b o e hc) u.tups u.frzs u.tbls (λm' hm=>by
  obtain⟨o',es',nj,ft,r'⟩:=hm;rw[ho]at ft;cases ft;exact⟨_,es',nj,hL,r'⟩) hok hg
end
end L2
namespace L3
open PySem PySem.Spec PyProof.Rows L2
theorem kj6{e:Value}{env env0:Env}(h:env.frame=env0.frame):noteFrame e env=noteFrame e env0:=by
 unfold noteFrame PySem.frameOf;rw[h]
structure Fl0 (h:Heap)(x:Addr)(C:Value)(vs:Array Value):Prop where
 ob:h.get? x=some { cls:=C,data:=.fields vs }
 sz:1<vs.size
structure FlT (h:Heap)(x T:Addr)(C:Value)(fl:Value):Prop where
 ex:∃vs,h.get? x=some { cls:=C,data:=.fields vs }/\vs[1]?=some (.ref T)
 tb:∃oT ts,h.get? T=some oT/\oT.data=.fields ts/\ts[3]?=some fl
 ne:T≠x
structure Chg (fs ch:List Addr)(h h':Heap):Prop where
 keep:∀b o,h.get? b=some o->b∉fs->b∉ch->h'.get? b=some o
 slot:∀b o,h.get? b=some o->b∉ch->∃sl,h'.get? b=some { cls:=o.cls,dict:=o.dict,data:=o.data,slots:=sl }
 size:h.objs.size<=h'.objs.size
theorem Chg.trans{fs ch ch':List Addr}{h h1 h2:Heap}(a:Chg fs ch h h1)(b:Chg fs ch' h1 h2)(hc:∀x∈ch',x∈ch\/h.get? x=none):Chg fs ch h h2 where
 keep:=λx o e h1 h2=>b.keep x o (a.keep x o e h1 h2) h1 λz=>(hc x z).elim h2 λq=>by rw[q]at e;cases e
 slot:=λx o e hn=>by
  obtain⟨sl,e1⟩:=a.slot x o e hn;obtain⟨js,e2⟩:=b.slot x _ e1 λz=>(hc x z).elim hn λq=>by rw[q]at e;cases e
  exact⟨js,e2⟩
 size:=Y6 a.size b.size
theorem Chg.mono{fs ch ch':List Addr}{h h1:Heap}(a:Chg fs ch h h1)(hc:∀x∈ch,x∈ch'):Chg fs ch' h h1:=⟨λb o e h1 h2=>a.keep b o e h1 λz=>h2 (hc b z),λb o e h2=>a.slot b o e λz=>h2 (hc b z),a.size⟩
theorem Chg.of_upd{fs : List Addr}{h : Heap}{a : Addr}{f : Obj -> Obj}: Chg fs [a] h (h.update a f):=
  ⟨λb o e _ hn=>by rw[Yq _ _ _ _ (λz=>hn (List.mem_singleton.mpr z))]; exact e,
   λb o e hn=>⟨o.slots, by rw[Yq _ _ _ _ (λz=>hn (List.mem_singleton.mpr z))]; exact e⟩, by rw[Heap.size_update]; exact Xd _⟩
theorem Chg.of_push{fs:List Addr}{h:Heap}{o:Obj}:Chg fs [] h (h.push o):=
 ⟨λb o e _ _=>X1 _ e,λb o e _=>⟨o.slots,X1 _ e⟩,by rw[Yk];omega⟩
theorem Chg.of_slots{fs:List Addr}{h h':Heap}(s:Heap.SlotsOnly fs h h'):Chg fs [] h h':=
 ⟨λb o e hn _=>(s.2.1 b hn).trans e,λb o e _=>s.2.2 b o e,by rw[s.1];exact Xd _⟩
theorem Chg.refl{fs ch:List Addr}{h:Heap}:Chg fs ch h h:=⟨λ_ _ e _ _=>e,λb o e _=>⟨o.slots,e⟩,Xd _⟩
section
variable {M:Model}{A:Around}{E:Value->Shared->Prop}{s:Shared}{base:Heap}{env:Env}{outer:List Env}{L x T:Addr}{C fl:Value}
theorem kvy{head:Value}{hadNext:Bool}{vs:Array Value}{Q:Unit->Shared->Prop}(hA:A.frames=some (env::outer))(hF:s.heap.FunFrames base (env::outer))(hL:env.frame=some L)(ho:Fl0 s.heap x C vs)
  (h:∀h' T',Chg (frs (env::outer)) [x] s.heap h'->s.heap.objs.size<=T'->FlT h' x T' C (rawInt ↑L)->Q () { s with heap:=h' }):
  wpAny M A (do
   let a <-PySem.frameOf env
   let pl <-entryPlaceOf L hadNext
   let b <-EntryCells.newEntry head a Value.none (rawInt ↑L) Value.none pl
   setField (Value.ref x) 1 b) Q E s:=by
 refine X0 (wpAny_frameOf_fun hA hF hL λh1 s1=>?_);have hx:x∉frs (env::outer):=λz=>by
  obtain⟨_,o,e,hn⟩:=hF.mem z;rw[ho.ob]at e;cases e;exact hn _ rfl
 have o1:h1.get? x=some { cls:=C,data:=.fields vs }:=(s1.2.1 x hx).trans ho.ob;have fin:∀pl:List Value,IsPlace pl->wpAny M A (do
   let b <-EntryCells.newEntry head (Value.ref L) Value.none (rawInt ↑L) Value.none pl
   setField (Value.ref x) 1 b) Q E { s with heap:=h1 }:=λpl bo=>by
  refine X0 ?_;unfold EntryCells.newEntry newFields;have har:([head,Value.ref L,Value.none,rawInt ↑L,Value.none]++if pl.isEmpty=true then List.replicate 6 Value.none else pl).toArray[3]?=some (rawInt ↑L):=by simp
  have hsz:([head,Value.ref L,Value.none,rawInt ↑L,Value.none]++if pl.isEmpty=true then List.replicate 6 Value.none else pl).toArray.size<=sizeLine+2:=by
   rcases bo with rfl|⟨_,_,_,_,_,_,_,rfl⟩<;>simp<;>decide
  generalize ([head,Value.ref L,Value.none,rawInt ↑L,Value.none]++if pl.isEmpty=true then List.replicate 6 Value.none else pl).toArray=ar at har hsz;refine Xq ?_ hsz;have o2:(h1.push { cls:=.type "traceback",data:=.fields ar }).get? x=some { cls:=C,data:=.fields vs }:=X1 _ o1;refine Ye (s:={ s with heap:=h1.push _ }) o2 rfl ho.sz ?_;have dw:h1.objs.size≠x:=λe=>absurd (Xa o1) (by rw[<-e];exact Y8 _)
  have o3:((h1.push { cls:=.type "traceback",data:=.fields ar }).update x (Obj.mapFields λy=>y.setIfInBounds 1 (.ref h1.objs.size))).get? h1.objs.size=some { cls:=.type "traceback",data:=.fields ar }:=by
   rw[Yq _ _ _ _ dw];exact X8 _ rfl
  refine h _ h1.objs.size (((Chg.of_slots s1).mono (λ_ z=>nomatch z)).trans ((Chg.of_push.mono λ_ z=>nomatch z).trans (ch:=[x]) Chg.of_upd λy hy=>.inl hy) λy hy=>.inl hy) (by rw[s1.1];exact Xd _) ⟨⟨vs.setIfInBounds 1 (.ref h1.objs.size),?_,Array.getElem?_setIfInBounds_self_of_lt ho.sz⟩,⟨_,_,o3,rfl,har⟩,dw⟩;exact Xx _ o2 rfl
 exact X0 (wpAny_entryPlaceOf λpl bo=>fin pl bo)
theorem vzf{vs:Array Value}{Q:Unit->Shared->Prop}(hA:A.frames=some (env::outer))(hF:s.heap.FunFrames base (env::outer))(hL:env.frame=some L)(ho:Fl0 s.heap x C vs)(hv:vs[1]?=some .none)
  (h:∀h' T',Chg (frs (env::outer)) [x] s.heap h'->s.heap.objs.size<=T'->FlT h' x T' C (rawInt ↑L)->Q () { s with heap:=h' }):wpAny M A (noteFrame (.ref x) env) Q E s:=by
 unfold noteFrame;rw[hL];refine X0 (Xy ho.ob rfl hv ?_);exact kvy (hadNext:=false) hA hF hL ho h
theorem upd3{T:Addr}{oT:Obj}{ts:Array Value}{v:Value}{h:Heap}(e:h.get? T=some oT)(ed:oT.data=.fields ts)(h3:3<ts.size):
  ∃o' ts',(h.update T (Obj.mapFields λy=>y.setIfInBounds 3 v)).get? T=some o'/\o'.data=.fields ts'/\ts'[3]?=some v:=by
 obtain⟨c,d,dt,sl⟩:=oT;cases(show dt=.fields ts from ed);exact⟨_,ts.setIfInBounds 3 v,Xx _ e rfl,rfl,Array.getElem?_setIfInBounds_self_of_lt h3⟩
theorem vze{Q:Unit->Shared->Prop}(hA:A.frames=some (env::outer))(hF:s.heap.FunFrames base (env::outer))(hL:env.frame=some L)(f:FlT s.heap x T C fl)
  (h:∀h' T',Chg (frs (env::outer)) [x,T] s.heap h'->(s.heap.objs.size<=T'\/T'=T)->FlT h' x T' C (rawInt ↑L)->Q () { s with heap:=h' }):wpAny M A (noteFrame (.ref x) env) Q E s:=by
 obtain⟨⟨vs,e1,v1⟩,⟨oT,ts,e2,d2,v2⟩,dw⟩:=f;have h3:3<ts.size:=by
  rw[Array.getElem?_eq_some_iff]at v2;exact v2.1
 have h1:1<vs.size:=by
  rw[Array.getElem?_eq_some_iff]at v1;exact v1.1
 unfold noteFrame;rw [hL];refine X0 (Xy e1 rfl v1 ?_);show wpAny M A (if((Value.ref T != Value.none)=true)then _ else _) Q E s;rw [Xf (show(Value.ref T != Value.none)=true from rfl)];refine X0 (Xy e2 d2 v2 ?_)
 by_cases hf:(fl==rawInt ↑L)=true
 ·rw[Xf hf];have e:fl=rawInt ↑L:=eq_of_beq hf;subst e;exact X4 (h s.heap T Chg.refl (.inr rfl) ⟨⟨vs,e1,v1⟩,⟨oT,ts,e2,d2,v2⟩,dw⟩)
 ·rw[Xm hf];refine X0 (Ye e2 d2 h3 ?_);have c1:Chg (frs (env::outer)) [x,T] s.heap (s.heap.update T (Obj.mapFields λy=>y.setIfInBounds 3 Value.none)):=Chg.of_upd.mono λy hy=>by
   rw[List.mem_singleton.mp hy];simp
  have e1':(s.heap.update T (Obj.mapFields λy=>y.setIfInBounds 3 Value.none)).get? x=some { cls:=C,data:=.fields vs }:=by
   rw[Yq _ _ _ _ dw.symm];exact e1
  have hF':(s.heap.update T (Obj.mapFields λy=>y.setIfInBounds 3 Value.none)).FunFrames base (env::outer):=by
   refine hF.of_keeps λb o e hn=>⟨o,?_,rfl⟩
   rw[Yq _ _ _ _ λz=>?_]
   ·exact e
   ·rw[z,e2]at e;cases e;exact hn _ d2
  refine kvy (s:={ s with heap:=s.heap.update T _ }) (hadNext:=true) hA hF' hL ⟨e1',h1⟩ λh' T' c2 hs f'=>?_
  refine h h' T' (c1.trans (c2.mono (ch':=[x,T]) λy hy=>by rw[List.mem_singleton.mp hy];simp) λy hy=>.inl hy) (.inl ?_) f';rw[Heap.size_update]at hs;exact hs
theorem vw9{Q:Unit->Shared->Prop}{fr:Option Addr}(f:FlT s.heap x T C fl)(h:∀h',Chg (frs outer) [x,T] s.heap h'->FlT h' x T C (fr.elim Value.none λf=>rawInt ↑f)->Q () { s with heap:=h' }):wpAny M A (setFlight (.ref x) fr) Q E s:=by
 obtain⟨⟨vs,e1,v1⟩,⟨oT,ts,e2,d2,v2⟩,dw⟩:=f;have h3:3<ts.size:=by
  rw[Array.getElem?_eq_some_iff]at v2;exact v2.1
 unfold setFlight;refine X0 (Xy e1 rfl v1 ?_);rw[Xf (show(Value.ref T != Value.none)=true from rfl)];refine Ye e2 d2 h3 (h _ (Chg.of_upd.mono λy hy=>by rw[List.mem_singleton.mp hy];simp) ⟨⟨vs,?_,v1⟩,upd3 e2 d2 h3,dw⟩);rw[Yq _ _ _ _ dw.symm];exact e1
end
structure XCls (K:PySem.W.Frag)(C:Addr):Prop where
 ga:PySem.W.findIn K (.ref C) "__getattribute__"=some (some (.builtin "BaseException.__getattribute__"))
 gt:PySem.W.findIn K (.ref C) "__getattr__"=some none
 fo:PySem.W.findObj K C none "__class__"=some (.bind (.builtin "getset_descriptor.__get__") (.builtin "object.__class__"))
 ob:PySem.W.mroIn K C (.type "object")=some true
 bx:PySem.W.mroIn K C (.type "BaseException")=some true
 cl:(PySem.W.clsIn K C).isSome=true
noncomputable def FpX(X:Cx)(pins:List (Addr×Obj))(H:Hp)(b:Addr):Prop:=
 H b=none/\b≠X.env.locals/\b∉X.fs/\(b∈X.ex\/X.s₀.heap.get? b=none)/\(∀x c,X.env.cells.lookup x=some c->c≠b)/\∀p∈X.pn++pins,p.1≠b
section
variable {X:Cx}{pins:List (Addr×Obj)}{σ:L2.St}{H:Hp}{s:Shared}
theorem fpX{H':Hp}{b:Addr}(I:Inv X pins σ H s)(hb:s.heap.get? b=none)(hn:H' b=none):FpX X pins H' b:=by
 refine⟨hn,λz=>?_,λz=>?_,?_,λx c e z=>?_,λp hp z=>?_⟩
 ·obtain⟨m,⟨o,_,_,ho,_⟩,_⟩:=I.loc;rw[<-z,hb]at ho;cases ho
 ·obtain⟨_,o,e,_⟩:=I.ok.funs.mem z
  by_cases hx:b∈X.ex
  ·exact I.ok.exfs b hx z
  ·obtain⟨o',e'⟩:=I.base.there b o e hx;rw[hb]at e';cases e'
 ·by_cases hx:b∈X.ex
  ·exact .inl hx
  ·cases e:X.s₀.heap.get? b with
   |none=>exact .inr rfl
   |some o=>
    obtain⟨o',e'⟩:=I.base.there b o e hx;rw[hb]at e';cases e'
 ·obtain⟨v,o,ho,_⟩:=I.cell x c e;rw[z,hb]at ho;cases ho
 ·have:=(I.pin p hp).1;rw[z,hb]at this;cases this
theorem FpX.of{b:Addr}(h:vq X pins H b):FpX X pins H b:=⟨h.1,h.2.1,h.2.2.1,h.2.2.2.1.imp id λz=>Heap.get?_none_of_le z,h.2.2.2.2⟩
theorem kww{h':Heap}{ch:List Addr}(I:Inv X pins σ H s)(c:Chg (frs X.stack) ch s.heap h')(hf:∀b∈ch,FpX X pins H b):Inv X pins σ H { s with heap:=h' }:=by
 refine I.callN (g':=s.gens) (t':=s.toks) (d':=s.drawn) (ch:=ch) ⟨λb o e _ h1 h2=>c.keep b o e h1 h2,λb o e _ _ h2=>c.slot b o e h2,λ_ _ _ n _=>n,λb o e h2=>?_,λ_ _ e=>e,λ_ _ _ e=>e,λ_ _ e=>⟨#[],by rw[e];simp⟩⟩ (λb u e=>?_) I.bare λb hb=>?_
 ·obtain⟨sl,q⟩:=c.slot b o e h2;exact⟨_,q⟩
 ·have no:∀d v,H d=some v->d∉frs X.stack/\d∉ch:=λd v e=>⟨λz=>(by rw[I.stkFree d z]at e;cases e),λz=>(by rw[(hf d z).1]at e;cases e)⟩
  refine(I.hok b u e).stay (λd v hc q=>?_) (λ_ q=>q) λ_ _ q=>q
  rcases hc with z|z
  ·rw[z]at q ⊢;exact c.keep b v q (no b u e).1 (no b u e).2
  ·exact c.keep d v q (no d _ z).1 (no d _ z).2
 ·obtain⟨_,f1,_,f3,f4,f5⟩:=hf b hb;exact⟨f3,f1,f4,f5⟩
end
structure Fx (X:Cx)(pins:List (Addr×Obj))(H:Hp)(h:Heap)(x:Addr)(C:Value):Prop where
 fp:FpX X pins H x
 st:(∃vs,Fl0 h x C vs/\vs[1]?=some .none)\/∃T fl,FlT h x T C fl/\FpX X pins H T
structure Xt (X:Cx)(pins:List (Addr×Obj))(σ:L2.St)(H:Hp)(x T:Addr)(C fl:Value)(s:Shared):Prop where
 inv:Inv X pins σ H s
 fx:FpX X pins H x
 fT:FpX X pins H T
 f:FlT s.heap x T C fl
theorem Xt.to{X:Cx}{pins:List (Addr×Obj)}{σ:L2.St}{H:Hp}{x T:Addr}{C fl:Value}{s:Shared}(h:Xt X pins σ H x T C fl s):Fx X pins H s.heap x C:=⟨h.fx,.inr ⟨T,fl,h.f,h.fT⟩⟩
noncomputable def Xo(X:Cx)(E:XK)(e:Value)(s:Shared):Prop:=∃pins σ H x C,e=.ref x/\Inv X pins σ H s/\Fx X pins H s.heap x C/\E C none H
def xq(X:Cx)(E:XK):Prop:=∀pins σ H s x C,Inv X pins σ H s->Fx X pins H s.heap x C->E C none H->X.xe (.ref x) s
abbrev Cx.ex'(X:Cx)(E:XK):Cx:=X.wish (Xo X E)
theorem x6{X:Cx}{E:XK}:xq (Cx.ex' X E) E:=λpins σ H s x C I f q=>⟨pins,σ,H,x,C,rfl,I.unwish,⟨f.fp,f.st⟩,q⟩
def K6(X:Cx):Prop:=∃env0 out,X.stack=env0::out/\X.env.frame=env0.frame
section
variable {X:Cx}{pins:List (Addr×Obj)}{σ:L2.St}{H:Hp}{s:Shared}{M:Model}{E':Value->Shared->Prop}{x T:Addr}{C fl:Value}
theorem qky{A:Around}{Q:Unit->Shared->Prop}(top:K6 X)(hA:A.frames=X.A.frames)(I:Inv X pins σ H s)(f:Fx X pins H s.heap x C)(h:∀L T s',X.env.frame=some L->Xt X pins σ H x T C (rawInt ↑L) s'->Q () s'):
  wpAny M A (noteFrame (.ref x) X.env) Q E' s:=by
 obtain⟨env0,out,e1,e2⟩:=top;have hF:=I.stack;have n6:A.frames=some (env0::out):=by rw[hA,I.ok.frames,e1]
 rw[e1]at hF;obtain⟨_,⟨L,o,hL,_⟩,_⟩:=id hF;rw[kj6 e2];have hL':X.env.frame=some L:=e2.trans hL;rcases f.st with⟨vs,f0,hv⟩|⟨T,fl,fT,pT⟩
 ·refine vzf n6 hF hL f0 hv λh' T' c hs lp=>h L T' _ hL' ⟨?_,f.fp,fpX I (Heap.get?_none_of_le hs) (I.hok.fresh hs),lp⟩
  rw[<-e1]at c;exact kww I c λb hb=>by rw[List.mem_singleton.mp hb];exact f.fp
 ·refine vze n6 hF hL fT λh' T' c hs lp=>?_
  rw[<-e1]at c;refine h L T' _ hL' ⟨kww I c λb hb=>?_,f.fp,?_,lp⟩
  ·simp only[Xh,Xe,or_false]at hb;rcases hb with rfl|rfl
   ·exact f.fp
   ·exact pT
  ·rcases hs with hs|hs
   ·exact fpX I (Heap.get?_none_of_le hs) (I.hok.fresh hs)
   ·rw[hs];exact pT
theorem kqg{A:Around}{Q:Unit->Shared->Prop}{fr:Option Addr}(t:Xt X pins σ H x T C fl s)(h:∀s',Xt X pins σ H x T C (fr.elim Value.none λf=>rawInt ↑f) s'->Q () s'):wpAny M A (setFlight (.ref x) fr) Q E' s:=by
 refine vw9 (outer:=X.stack) t.f λh' c lp=>h _ ⟨kww t.inv c λb hb=>?_,t.fx,t.fT,lp⟩
 simp only[Xh,Xe,or_false]at hb;rcases hb with rfl|rfl
 ·exact t.fx
 ·exact t.fT
theorem vv1{α:Type}{A:Around}{what:String}{jc:Env}{Q:α->Shared->Prop}(t:Xt X pins σ H x T C fl s)(h:∀s' lp,Xt X pins σ H x T C lp s'->E' (.ref x) s'):wpAny M A (PySem.passOn what (.ref x) jc:Sem α) Q E' s:=by
 unfold PySem.passOn;obtain⟨vs,e1,v1⟩:=t.f.ex;refine X0 (Xy e1 rfl v1 ?_);rw[Xm (show ¬(Value.ref T==Value.none)=true by intro z;cases z)];refine X0 (kqg t λs' t'=>?_);exact wpAny_throw (h s' _ t')
theorem vv2{E:XK}(top:K6 X):PassesOwn M X.A X.env (Xo X E):=by
 rintro e s' ⟨pins,σ,H,x,C,rfl,I,f,q⟩;unfold notedBy;refine qky top rfl I f λL T s1 _ t=>?_
 unfold cameBackBy;obtain⟨vs,e1,v1⟩:=t.f.ex;refine X0 (Xy e1 rfl v1 ?_);rw[Xm (show ¬(Value.ref T==Value.none)=true by intro z;cases z)];exact kqg t λs2 t2=>⟨pins,σ,H,x,C,rfl,t2.inv,t2.to,q⟩
end
noncomputable def CXE(P:Program)(w:World):CXT:=λouter H s E e s'=>∃x T C fl H',e=.ref x/\s'.os=s.os/\AllBare s'.gens/\Un (frs outer) [] H H' s.heap s'.heap/\HOk P w H' s'.heap /\
 s.heap.get? x=none/\s.heap.get? T=none/\H' x=none/\H' T=none/\FlT s'.heap x T C fl/\E C none H'
theorem vza{X:Cx}{E:XK}(g:xq X E):qve (CXE X.prog X.w) X E:=by
 rintro pins σ H s e s' I ⟨x,T,C,fl,H',rfl,os,bare,un,hok,hx,hT,nx,nT,f,q⟩;refine g pins σ H' s' x C (I.call' os un hok bare λb hb=>nomatch hb) ⟨fpX I hx nx,.inr ⟨T,fl,f,fpX I hT nT⟩⟩ q
theorem qxz{CX:CXT}{P:Program}{w:World}{K:PySem.W.Frag}{mg:Str->Option Value}{base:Heap}{N:List Str}{qual:Str}{scope:Scope}{f:Addr}{cd:Value}{A:Around}{outer:List Env}{s:Shared}{H:Hp}{E:XK}:
  K6 (zx CX P w K mg base N qual scope f cd A outer s H E):=⟨_,_,rfl,rfl⟩
theorem qq5{P:Program}{w:World}{K:PySem.W.Frag}{mg:Str->Option Value}{base:Heap}{N:List Str}{qual:Str}{scope:Scope}{f:Addr}{cd:Value}{A:Around}{outer:List Env}{s:Shared}{H:Hp}{E:XK}{e:Value}{s':Shared}
  (h:Xo (zx (CXE P w) P w K mg base N qual scope f cd A outer s H E) E e s'):(zx (CXE P w) P w K mg base N qual scope f cd A outer s H E).xe e s':=by
 obtain⟨pins,σ,H',x,C,rfl,I,fx,q⟩:=h;show wpAny (model P w) _ (leaving _ (.ref x)) _ _ s';unfold leaving;refine X0 (qky (X:=zx (CXE P w) P w K mg base N qual scope f cd A outer s H E) qxz rfl I fx λL T s1 _ t=>?_);refine kqg t λs2 t2=>?_
 have ge:∀b,FpX (zx (CXE P w) P w K mg base N qual scope f cd A outer s H E) pins H' b->s.heap.get? b=none:=λb hb=>hb.2.2.2.1.elim (λz=>nomatch z) λz=>z
 exact⟨x,T,C,_,H',rfl,t2.inv.os,t2.inv.bare,t2.inv.base,t2.inv.hok,ge x t2.fx,ge T t2.fT,t2.fx.1,t2.fT.1,t2.f,q⟩
section
variable {P:Program}{w:World}{K:PySem.W.Frag}{mg:Str->Option Value}{base:Heap}
theorem q9{x qual:Str}{st:Stmt}{f:Addr}{fd:FuncData}{N ps:List Str}{k:Nat}{sp:Sp}(F:Fun K x qual st f fd)(S:FnScope N ps (k7 st))(len:∀vs H Q E,sp vs H Q E->vs.length=ps.length)
  (ir:∀(b9:Value) (A:Around) (outer:List Env) (s:Shared) (H:Hp) (vs:List V) (Q:VK) (E:XK),Room k (A.deeper (envOfC qual (k7 st) s.heap.objs.size f b9))->sp vs H Q E ->
   ∃t,PSs (Cx.ex' (zx (CXE P w) P w K mg base N qual (k7 st) f b9 A outer s H E) E) (K3 st) t/\t { nx:=λ_ H'=>Q .non H',rt:=Q } (L2.start N vs) H):FnOk P w K mg base (CXE P w) (k+1) f fd ps sp:=by
 obtain⟨oc,od,kV,fm,pm,an,b9,ct,ld,rfl,lk,gf⟩:=F.ex;refine vzp lk gf S len λA outer s H vs Q E hr ku=>?_
 obtain⟨t,h,q⟩:=ir b9 A outer s H vs Q E hr ku;exact⟨t,λpins s' σ H' D I hw=>wpAny_mono (h pins s' σ H' D (I.wish _) hw) (λf m5 z=>z.unwish) λe m5 z=>qq5 z,q⟩
noncomputable def kq(P:Program)(w:World)(K:PySem.W.Frag)(mg:Str->Option Value)(base:Heap)(k:Nat)(x:Str)(ps:List Str)(sp:Sp):Prop:=
 ∃(f:Addr) (fd:FuncData),FnOk P w K mg base (CXE P w) k f fd ps sp/\Binds K fd ps []/\PySem.W.keepIn K (.ref f)=true/\mg x=some (.ref f)
end
section
variable {X:Cx}{x:Str}{p pos:Pos}{e:Expr}{es:List Expr}{t:TA}{ps:List Str}{sp:Sp}{k:Nat}{v:V}{E:XK}
theorem kxr(D:kq X.prog X.w X.K X.mg X.base k x ps sp)(hr:Room k X.A)(g:xq X E)(ha:PA X (e::es) t)(hg:autoParam (Gl X x) Ŕ)(eh:autoParam ((x==("__debug__":Str))=false) ŕ)
  (he:autoParam (starEach (e::es) X.env=(false,eval e X.env)::starEach es X.env) Ŕ) (bo:autoParam ((backTo pos (starEach es X.env)).any (·.1)=false) Ŕ):
  PE X (.Call (.Name x p) (e::es) [] pos) (vkk sp [] E t):=by
 obtain⟨f,fd,F,b,kp,m⟩:=D;exact qzt F hr hg m kp b .nil (vza g) ha eh he bo
end
abbrev lcE(X:Cx)(scope:Scope)(N:List Str)(cl:List (Str×Addr))(C:Addr)(s0:Shared)(H0:Hp)(fp:List Addr)(EX:XK):Cx:=Cx.ex' (lcX X scope N cl C s0 H0 fp) EX
section
variable {prog:Program}{w:World}{A:Around}{R:Result->Shared->Prop}{s:Shared}
theorem vjc{fw dj aw:Expr}{fg:List Expr}{scope:Scope}{pos:Pos}{it af:Value}{env:Env}(Ex:Value->Shared->Prop)(I:Nat->Shared->Prop)
  (gq:∀n s,I n s->wpAny (model prog w) A (pyNext it) (λr s1=>match r with
   | none=>R (.ok .next) s1
   | some v=>wpAny (model prog w) A (letOwnedTupleGo dj it v) (λ_ s2=>wpAny (model prog w) A (assign dj env v) (λ_ s3=>
     wpAny (model prog w) A (qq9 fg env) (λok s4=>
      if ok=true then
       wpAny (model prog w) A (eval fw env) (λx s5=>wpAny (model prog w) A (call (.builtin "list.append") [af,x]) (λ_ s6=>∃m,m<n/\I m s6) Ex s5) Ex s4
      else ∃m,m<n/\I m s4) Ex s3) Ex s2) Ex s1) Ex s)
  (hx:∀e s,Ex e s->notedBy (model prog w) A env (λe s'=>R (.error e) s') e s) (n:Nat) (h:I n s):codeAny (model prog w) A (.compLoop (.ListComp fw [⟨dj,aw,fg,0⟩] scope pos) 0 it af env) R s:=by
 refine codeAny_loop rfl I (λn s hI=>?_) n h;show wpAny _ A ((compTurn (.ListComp fw [⟨dj,aw,fg,0⟩] scope pos) 0 it af env).onRaise _) _ _ s;refine wpAny_noted ?_;rw[compTurn_list];refine wpAny_mono (E:=Ex) (X0 (wpAny_standAt (X0 (thn (gq n s hI) λr s1 h1=>?_)))) (λ_ _ q=>q) (λe s q=>?_)
 rotate_left
 ·exact hx e s q
 cases r with
 |none=>exact X4 h1
 |some v=>
  refine X0 (thn h1 λ_ s2 h2=>?_);refine X0 (thn h2 λ_ s3 h3=>?_);refine X0 (thn h3 λok s4 h4=>?_);cases ok with
  |false=>exact X4 ⟨rfl,h4⟩
  |true=>exact X0 (X0 (thn h4 λx s5 h5=>X0 (thn h5 λ_ s6 h6=>X4 (X4 ⟨rfl,h6⟩))))
end
section
variable {X:Cx}{tg aw fw:Expr}{fg:List Expr}{scope:Scope}{N:List Str}{k:Nat}{R:List Nat}{g:TG}{tt:TT}{te:TE}{pos:Pos}
theorem vvn{EX:XK}{pins cn:List (Addr×Obj)}{σ σ':L2.St}{H2 H':Hp}{s2 s':Shared}{fp:List Addr}{cl:List (Str×Addr)}{C x T:Addr}{Cc fl:Value}{Q:Value->Shared->Prop}{af:Value}{use:Option (Value->Sem Unit)}(gx:xq X EX)
  (I2:Inv X pins σ H2 s2) (f2:∀b∈fp,vq X pins H2 b) (hC:s2.heap.objs.size<=C) (t:Xt (lcX X scope N cl C s2 H2 fp) cn σ' H' x T Cc fl s') (q:EX Cc none H'):
  compPost (model X.prog X.w) X.A X.xe use Q af C (.error (.ref x)) s':=by
 obtain⟨m,hn,_⟩:=t.inv.loc;refine⟨m,hn,λh' sb jc _=>?_⟩;have J1:Inv X pins σ H' s':=I2.call' t.inv.os t.inv.base t.inv.hok t.inv.bare λb hb=>⟨(f2 b hb).2.2.2.1,(f2 b hb).2.1,(f2 b hb).2.2.2.2.1,(f2 b hb).2.2.2.2.2⟩
 have fC:vq X pins H' C:=I2.fpOk hC t.inv.free;have J2:Inv X pins σ H' { s' with heap:=h',toks:=s'.toks }:=J1.turned (it:=C) (λb o hb e=>(sb.2 b hb).trans e) fC.1 fC.2.1 fC.2.2.2.1 fC.2.2.2.2.1 fC.2.2.2.2.2;have fp':∀b,FpX (lcX X scope N cl C s2 H2 fp) cn H' b->FpX X pins H' b:=λb hb=>by
  rcases hb.2.2.2.1 with z|z
  ·exact⟨hb.1,(FpX.of (f2 b z)).2⟩
  ·exact fpX I2 z hb.1
 have nx:x≠C:=t.fx.2.1;have nT:T≠C:=t.fT.2.1;have f:FlT h' x T Cc fl:=by
  obtain⟨⟨vs,e1,v1⟩,⟨oT,ts,e2,d2,v2⟩,dw⟩:=t.f;exact⟨⟨vs,(sb.2 x nx).trans e1,v1⟩,⟨oT,ts,(sb.2 T nT).trans e2,d2,v2⟩,dw⟩
 refine vv1 (X:=X) (pins:=pins) (σ:=σ) (H:=H') (s:={ s' with heap:=h' }) ⟨J2,fp' x t.fx,fp' T t.fT,f⟩ λs3 lp t3=>gx pins σ H' s3 x Cc t3.inv t3.to q
theorem qq8{EX:XK}{pins:List (Addr×Obj)}{σ:L2.St}{H2:Hp}{s2:Shared}{it:Addr}{fp:List Addr}{tn:Nat->Heap->Prop}{J:It}{Q:VK}{W:Nat->Nat->List V->L2.St->Hp->Prop}{cl:List (Str×Addr)}{E:Value->Shared->Prop}
  {RR:Value->Addr->Result->Shared->Prop} (hc:X.calm=true) (top:K6 X) (sc:LcOk X scope N k R)
  (fv:∀x c,cl.lookup x=some c->X.env.cells.lookup x=some c) (bn:∀y∈scope.names,y.2=.free->∃c,cl.lookup y.1=some c)
  (hg:∀C s0 H0 fp,PG (lcE X scope N cl C s0 H0 fp EX) tg g) (ht:∀C s0 H0 fp,PTs (lcE X scope N cl C s0 H0 fp EX) fg tt) (he:∀C s0 H0 fp,PE (lcE X scope N cl C s0 H0 fp EX) fw te)
  (I2:Inv X pins σ H2 s2) (T:Turn X.prog X.w X.K tg J fp it tn) (bm:tn 0 s2.heap) (f2:∀b∈fp,vq X pins H2 b) (w0:∃m,W 0 m [] (zQ k R σ) H2) (gq:LcW g tt te Q J W)
  (hRR:∀D C oC m ys H' s',Inv X (pins++[(C,oC)]) σ (upd H' D (.lst ys)) s'->s'.heap.get? C=some oC->s'.heap.Ns C m->vq X pins (upd H' D (.lst ys)) C->Q (.ref D) (upd H' D (.lst ys))->RR (.ref D) C (.ok .next) s')
  (hER:∀D C s' cn σ' H' x T Cc fl,s2.heap.objs.size<=C->Xt (lcX X scope N cl C s2 H2 fp) cn σ' H' x T Cc fl s'->EX Cc none H'->RR (.ref D) C (.error (.ref x)) s'):
  wpAny (model X.prog X.w) X.A (newList []) (λaf s3=>wpAny (model X.prog X.w) X.A (newFunctionEnv scope X.env.globals cl [] X.env.qual none .none (some X.env)) (λjc s4=>
   codeAny (model X.prog X.w) X.A (.compStart (.ListComp fw [⟨tg,aw,fg,0⟩] scope pos) 0 (.ref it) af { jc with scope:=relabel scope X.env }) (RR af jc.locals) s4) E s3) E s2:=by
 have oi:∀b∈fp,∃o,s2.heap.get? b=some o:=λb hb=>let ⟨o,e,_⟩:=T.obj 0 _ bm b hb;⟨o,e⟩
 refine Xq (wpAny_newFunctionEnv sc.nocell (by intro y hy;simp at hy) (λh1 hn1 pe=>?_) sc.kind);dsimp only at hn1 pe ⊢;generalize eH:s2.heap.push { cls:=.type "list",dict:=none,data:=.seq ([]:List Value).toArray }=Hx at hn1 pe ⊢;have eC:Hx.objs.size=s2.heap.objs.size+1:=by rw[<-eH,Yk]
 generalize eD:s2.heap.objs.size=D at eC;generalize eC':Hx.objs.size=C at hn1 pe eC ⊢;have mw:D≠C:=by omega
 have hC:s2.heap.objs.size<=C:=by omega
 have hD:s2.heap.objs.size<=D:=by omega
 have ff:∀b o,s2.heap.get? b=some o->h1.get? b=some o:=λb o e=>by
  exact pe.extBut b o (Xl (Xg (Xa e) hC)) (X1 _ (eH▸X1 _ e))
 have accD:h1.get? D=some (VY [] 0):=by
  refine pe.extBut _ _ mw (X1 _ ?_);rw [<-eH,<-eD];exact X8 _ rfl
 have below:∀b∈fp,b≠D/\b≠C:=λb hb=>by
  obtain⟨o,e⟩:=oi b hb;exact⟨Xl (Xg (Xa e) hD),Xl (Xg (Xa e) hC)⟩
 have gi:∀{H':Hp} {oD:Obj},(∀b∈fp,H' b=none)->∀b∈fp,vq (lcE X scope N cl C s2 H2 fp EX) [(D,oD)] H' b:=fun {H' oD} hn b hb=>by
  obtain⟨_,f1,f3,f4,f5,f6⟩:=f2 b hb;refine⟨hn b hb,(below b hb).2,λz=>?_,.inl hb,λx c h=>f5 x c (fv x c h),λp hp=>?_⟩
  ·rcases List.mem_cons.mp (I2.stkSub b z)with y|y
   ·exact f1 y
   ·exact f3 y
  ·have e:p=(D,oD):=by
    have hp:p∈([]++[(D,oD)]:List (Addr×Obj)):=hp
    simpa using hp
   rw [e];exact(below b hb).1.symm
 have loop:∀s3:Shared,s3={ s2 with heap:=h1,toks:=s2.toks+([]:List (Str×Value)).length } ->
   codeAny (model X.prog X.w) X.A (.compLoop (.ListComp fw [⟨tg,aw,fg,0⟩] scope pos) 0 (.ref it) (.ref D) (compEnvC scope cl C X.env)) (RR (.ref D) C) s3:=by
  rintro s3 rfl;obtain⟨m0,w0⟩:=w0;have hxx:∀e s,Xo (lcX X scope N cl C s2 H2 fp) EX e s->notedBy (model X.prog X.w) X.A (compEnvC scope cl C X.env) (λe s'=>RR (.ref D) C (.error e) s') e s:=by
   rintro e s ⟨cn,σ',H',x,Cc,rfl,I',f',q'⟩;have top':K6 (lcX X scope N cl C s2 H2 fp):=top;exact qky (X:=lcX X scope N cl C s2 H2 fp) top' rfl I' f' λL T s1 _ t=>hER D C s1 cn σ' H' x T Cc _ hC t q'
  refine vjc (Xo (lcX X scope N cl C s2 H2 fp) EX) (λn s'=>∃i ys aa nn σ' H',Inv (lcE X scope N cl C s2 H2 fp EX) [(D,VY aa nn)] σ' H' s'/\Vals ys aa/\tn i s'.heap/\(∀b∈fp,H' b=none)/\W i n ys σ' H') ?_ hxx m0
   ⟨0,[],[],0,_,H2,(vja I2 sc f2 oi hC hD mw fv bn ff hn1 accD (λv z=>by cases z)).wish _,.nil,T.keep _ _ _ bm (λb hb o e=>ff b o e),λb hb=>(f2 b hb).1,w0⟩
  rintro n s3 ⟨i,ys,aa,nn,σ3,H3,I3,rv,cw,lz,w3⟩;rcases gq i n ys σ3 H3 w3 with⟨stop,hz,qn⟩|⟨go,step⟩
  ·refine thn (T.done (lcE X scope N cl C s2 H2 fp EX) rfl rfl rfl hc i _ s3 σ3 H3 _ I3 (gi lz) cw stop) λr s4 ⟨hr,I4⟩=>?_
   subst hr;show RR (.ref D) C (.ok .next) s4;have hD4:=I4.pin (D,VY aa nn) (by show _∈([]++[(D,VY aa nn)]:List (Addr×Obj));simp);have J1:Inv X pins σ H3 s4:=I2.call' I4.os I4.base I4.hok I4.bare λb hb=>⟨(f2 b hb).2.2.2.1,(f2 b hb).2.1,(f2 b hb).2.2.2.2.1,(f2 b hb).2.2.2.2.2⟩
   have fD:vq X pins H3 D:=I2.fpOk hD hD4.2.1;have fC:vq X pins H3 C:=I2.fpOk hC I4.free;have J2:Inv X pins σ (upd H3 D (.lst ys)) s4:=kja J1 hD4.2.1 fD.2.1 fD.2.2.2.1 fD.2.2.2.2.1 fD.2.2.2.2.2 ⟨hz,aa,nn,rv,hD4.1⟩;obtain⟨mC,nC,_⟩:=I4.loc;obtain⟨oC,es,ep,hoC,hdC,hrest⟩:=id nC;have fC':vq X pins (upd H3 D (.lst ys)) C:=⟨by rw[kX mw.symm];exact fC.1,fC.2⟩;refine hRR D C oC mC ys H3 s4 (J2.pins_of λp hp=>?_) hoC nC fC' (qn D hD4.2.1);rcases List.mem_append.mp hp with z|z
   ·exact J2.pin p (lr9 _ z)
   ·rw[List.mem_singleton.mp z];exact⟨hoC,fC'.1,fC'.2.1,fC'.2.2.1,λv y=>by rw[hdC]at y;cases y⟩
  ·refine thn (T.item (lcE X scope N cl C s2 H2 fp EX) rfl rfl rfl hc i _ s3 σ3 H3 _ I3 (gi lz) cw go) λr s4 ⟨u,hr,h4⟩=>?_
   subst hr;refine thn h4 λ_ s5 ⟨x,H5,I5,r5,y5,jo,fr5⟩=>?_
   have I5':=I5.pinned (gi fr5) (T.obj _ _ jo);have gy:∀{σ':L2.St} {H':Hp} {s':Shared} {pl:List (Addr×Obj)},Inv (lcE X scope N cl C s2 H2 fp EX) (pl++K0 fp s5.heap) σ' H' s'->tn (i+1) s'.heap/\∀b∈fp,H' b=none:=fun {σ' H' s' pl} I'=>by
    have q:∀b∈fp,∀o,s5.heap.get? b=some o->s'.heap.get? b=some o/\H' b=none:=λb hb o e=>by
     obtain⟨a1,a2,_⟩:=I'.pin (b,o) (lr9 _ (lr9 _ (jxq hb e)));exact⟨a1,a2⟩
    refine⟨T.keep _ _ _ jo λb hb o e=>(q b hb o e).1,λb hb=>?_⟩;obtain⟨o,e,_⟩:=T.obj _ _ jo b hb;exact(q b hb o e).2
   refine thn (hg C s2 H2 fp _ s5 σ3 H5 x u _ I5' r5 (step x H5 y5)) λ_ s6 ⟨σ6,H6,I6,Ny,Nn,hNy,hNn,q6⟩=>?_
   refine thn (ht C s2 H2 fp _ s6 σ6 H6 _ I6 q6) λok s7 ⟨H7,I7,q7⟩=>?_
   cases ok with
   | false=>
    obtain⟨m',hm,w7⟩:=hNn _ q7;exact⟨m',hm,i+1,ys,aa,nn,σ6,H7,I7.unpinned,rv,(gy I7).1,(gy I7).2,w7⟩
   | true=>
    refine thn (he C s2 H2 fp _ s7 σ6 H7 _ I7 q7) λu8 s8 ⟨y,H8,I8,r8,q8⟩=>?_
    obtain⟨hz,m',hm,w8⟩:=hNy _ _ q8;have pD:=I8.pin (D,VY aa nn) (lr9 _ (ll9 _ (List.mem_singleton.mpr rfl)));have ac:=rv.length;refine append_at (hsz:=by rw[X7];omega) pD.1 λh9 sb9 e9=>?_
    have I8a:Inv (lcE X scope N cl C s2 H2 fp EX) ([]++K0 fp s5.heap) σ6 H8 s8:=I8.pins_of λp hp=>I8.pin p (lr9 _ (lr9 _ hp))
    have I9:Inv (lcE X scope N cl C s2 H2 fp EX) ([]++K0 fp s5.heap) σ6 H8 { s8 with heap:=h9,toks:=s8.toks }:=I8a.turned (it:=D) (λb o hb e=>(sb9.2 b hb).trans e) pD.2.1 mw (.inr hD)
     (λx c h z=>by
      obtain⟨v,q⟩:=I2.cell x c (fv x c h);exact absurd (Xg q.lt (by rw[z];exact hD)) (Y8 _))
     (λp hp z=>by
      have hp:p∈([]++([]++K0 fp s5.heap):List (Addr×Obj)):=hp;have hp:p∈K0 fp s5.heap:=by simpa using hp
      exact(below p.1 (kvq hp).1).1 z)
    have e9':h9.get? D=some (VY (aa++[u8]) (nn+1)):=by rw[e9];simp[List.push_toArray]
    refine⟨m',hm,i+1,ys++[y],aa++[u8],nn+1,σ6,H8,I9.pins_of λp hp=>?_,rv.append (.cons r8 .nil),(gy I9).1,(gy I9).2,w8⟩;rw[List.mem_singleton.mp hp];exact⟨e9',pD.2.1,pD.2.2.1,pD.2.2.2.1,λv z=>by cases z⟩
 exact codeAny_compStart_list (loop _ rfl) (T.self _ 0 _ _ _ (T.keep _ _ _ bm λb hb o e=>ff b o e) (loop _ rfl))
theorem vqx{EX:XK}{wi:TI}(N:List Str)(k:Nat)(R:List Nat)(hi:PI X tg aw wi)
  (hg:∀cl C s0 H0 fp,PG (lcE X scope N cl C s0 H0 fp EX) tg g) (ht:∀cl C s0 H0 fp,PTs (lcE X scope N cl C s0 H0 fp EX) fg tt) (he:∀cl C s0 H0 fp,PE (lcE X scope N cl C s0 H0 fp EX) fw te)
  (gx:xq X EX) (top:K6 X) (hc:autoParam (X.calm=true) Ŕ) (hk:autoParam (scope.kind=.function) Ŕ) (ly:autoParam (V5 X.N X.env.scope scope N k R=true) Ŕ) (hs:autoParam (∀x,foldedSetIterable aw X.env x=pure x) Ŗ):
  PE X (.ListComp fw [⟨tg,aw,fg,0⟩] scope pos) (tLC wi g tt te k R):=by
 intro pins s σ H Q I h;have sc:=qw8 hk ly;obtain⟨cl,pk,fv,bn⟩:=qjf (scope:=scope) (env:=X.env) λy hy e=>I.ok.has y.1 (sc.caps y hy e)
 rw[eval_ListComp];refine wpAny_comprehension_free (use:=none) rfl hs pk sc.kind sc.names (thn (hi pins s σ H _ I h) λv s1 h1=>thn h1 λitv s2 h2=>?_);obtain⟨it,fp,tn,J,H2,e,I2,T,bm,f2,W,w0,gq⟩:=h2;subst e;refine qq8 (EX:=EX) (RR:=λaf C=>compPost (model X.prog X.w) X.A X.xe none (EP X pins σ Q) af C) hc top sc fv bn (hg cl) (ht cl) (he cl) I2 T bm f2 w0 gq ?_ ?_
 rotate_left
 ·intro D C s' cn σ' H' x T Cc fl hC t q;exact vvn gx I2 f2 hC t q
 intro D C oC m ys H' s' I' _ nC fC q;exact⟨m,nC,λh' sb=>⟨.ref D,_,I'.unpinned.turned (it:=C) (t':=s'.toks) (λb o hb e=>(sb.2 b hb).trans e) fC.1 fC.2.1 fC.2.2.2.1 fC.2.2.2.2.1 fC.2.2.2.2.2,rfl,q⟩⟩
end
structure ExAt (K:PySem.W.Frag)(x:Addr)(ox:Obj)(C:Addr):Prop where
 cls:ox.cls=.ref C
 no:PySem.W.notCls ox=true
 di:ox.dict=none
 xc:XCls K C
end L3
namespace Q
open PySem
inductive D where
 |non|bl (b:Bool)|int (i:Int)|str (z:Str)|tup (xs:List D)|lst (xs:List D)|dct (ai:List (D×D))|obj (c:Str) (fs:List (Str×D))
instance:DecidableEq D:=λa b=>Classical.propDecidable (a=b)
instance:Inhabited D:=⟨.non⟩
mutual
noncomputable def D.pure:D->Bool
 |.tup xs=>D.pures xs
 |.lst _=>false
 |.dct _=>false
 |.obj _ _=>false
 |_=>true
noncomputable def D.pures:List D->Bool
 |[]=>true
 |a::x=>D.pure a&&D.pures x
end
theorem D.pures_all:∀xs:List D,D.pures xs=xs.all D.pure
 |[]=>by simp[D.pures]
 |a::x=>by rw[D.pures,List.all_cons,D.pures_all x]
@[simp] theorem D.pures_map {α:Type}(f:α->D)(xs:List α)(h:∀x∈xs,(f x).pure=true):D.pures (xs.map f)=true:=by
 rw[D.pures_all,Yr];intro d hd;obtain⟨x,hx,rfl⟩:=List.mem_map.mp hd;exact h x hx
mutual
noncomputable def peq:D->D->Bool
 |.non,.non=>true
 |.bl a,.bl b=>a==b
 |.bl a,.int b=>(if a then 1 else 0)==b
 |.int a,.bl b=>a==(if b then 1 else 0)
 |.int a,.int b=>a==b
 |.str a,.str b=>a==b
 |.lst as,.lst bs=>peqs as bs
 |.tup as,.tup bs=>peqs as bs
 |_,_=>false
noncomputable def peqs:List D->List D->Bool
 |[],[]=>true
 |a::as,b::bs=>peq a b&&peqs as bs
 |_,_=>false
end
mutual
noncomputable def D.flat:Nat->D->Bool
 |0,.tup _=>false
 |0,.lst _=>false
 |n+1,.tup xs=>D.flats n xs
 |n+1,.lst xs=>D.flats n xs
 |_,.dct _=>false
 |_,.obj _ _=>false
 |_,_=>true
noncomputable def D.flats:Nat->List D->Bool
 |_,[]=>true
 |n,a::x=>D.flat n a&&D.flats n x
end
mutual
noncomputable def JV:Nat->D->Bool
 |_,.non=>true
 |_,.int _=>true
 |n+1,.tup xs=>keyDs n xs
 |_,_=>false
noncomputable def keyDs:Nat->List D->Bool
 |_,[]=>true
 |n,a::x=>JV n a&&keyDs n x
end
inductive Own where
 |no|rt|dp
 deriving DecidableEq
abbrev Sd:=Own×D
abbrev En:=List (Option Sd)
inductive Res (α:Type) where
 |ok (E:En) (a:α)
 |exc (E:En) (c:Str)
abbrev Ev(α:Type):=En->Option (Res α)
abbrev Ex:=Ev Sd
noncomputable def bnd{α β:Type}(m:Option (Res α))(f:En->α->Option (Res β)):Option (Res β):=
 match m with
 |some (.ok E a)=>f E a
 |some (.exc E c)=>some (.exc E c)
 |none=>none
@[simp] theorem wk3 {α β:Type}(E:En)(a:α)(f:En->α->Option (Res β)):bnd (some (.ok E a)) f=f E a:=rfl
@[simp] theorem wj2 {α β:Type}(E:En)(c:Str)(f:En->α->Option (Res β)):bnd (some (.exc E c)) f=some (.exc E c):=rfl
@[simp] theorem vxd {α β:Type}(f:En->α->Option (Res β)):bnd none f=none:=rfl
def val{α:Type}(E:En)(x:Option α):Option (Res α):=x.map (Res.ok E)
@[simp] theorem vx4 {α:Type}(E:En)(x:α):val E (some x)=some (.ok E x):=rfl
@[simp] theorem vx5 {α:Type}(E:En):val E (none:Option α)=none:=rfl
def cC(d:D):Ex:=λE=>some (.ok E (.dp,d))
noncomputable def cV(i:Nat):Ex:=λE=>match E[i]? with
 |some (some (_,d))=>some (.ok (E.set i (some (.no,d))) (.no,d))
 |_=>none
def cMv(i:Nat):Ex:=λE=>match E[i]? with
 |some (some x)=>some (.ok (E.set i none) x)
 |_=>none
def vV(i:Nat):Ex:=λE=>match E[i]? with
 |some (some x)=>some (.ok E x)
 |_=>none
def vE(c:Ex):Ex:=λE=>bnd (c E) λE x=>some (.ok E (.no,x.2))
abbrev C9(z:Int):Ex:=vE (cC (.int z))
noncomputable def cH(v:Ex):Ex:=λE=>bnd (v E) λE x=>if x.1=.no then some (.ok E (.no,x.2))else if x.2.pure then some (.ok E (.dp,x.2))else none
def cF1(f:Sd->Option Sd)(a:Ex):Ex:=λE=>bnd (a E) λE x=>val E (f x)
def cF2(f:Sd->Sd->Option Sd)(a b:Ex):Ex:=λE=>bnd (a E) λE x=>bnd (b E) λE y=>val E (f x y)
def pu1(f:D->Option D):Sd->Option Sd:=λx=>(f x.2).map λd=>(.dp,d)
def pu2(f:D->D->Option D):Sd->Sd->Option Sd:=λx y=>(f x.2 y.2).map λd=>(.dp,d)
def wjz:D->List D
 |.lst xs=>xs
 |.tup xs=>xs
 |.dct ai=>ai.map (·.2)
 |_=>[]
def qx(x:Sd):Bool:=x.1 != .dp||D.pures (wjz x.2)
def sub:Own->Own
 |.dp=>.dp
 |_=>.no
noncomputable def ixN(n:Nat)(i:Int):Option Nat:=if 0<=i then(if i<n then some i.toNat else none)else if -(n:Int)<=i then some (i+n).toNat else none
noncomputable def ixD:D->D->Option D
 |.lst xs,.int i=>(ixN xs.length i).bind λj=>xs[j]?
 |.tup xs,.int i=>(ixN xs.length i).bind λj=>xs[j]?
 |.str z,.int i=>(ixN z.cps.size i).bind λj=>(z.cps.toList[j]?).map λc=>.str ⟨#[c]⟩
 |.dct ai,k=>(ai.find? λe=>decide (e.1=k)).map (·.2)
 |_,_=>none
def big:Nat:=16777216
def i2(f:Int->Int->Option Int):D->D->Option D
 |.int a,.int b=>(f a b).map .int
 |_,_=>none
def c2(f:Int->Int->Bool):D->D->Option D
 |.int a,.int b=>some (.bl (f a b))
 |_,_=>none
def Zv(a:Int):Bool:=decide (-(2 ^ 64)<a)&&decide (a<2 ^ 64)
noncomputable def jz:Sd->Sd->Option Sd:=λx y=>match x.2,y.2 with
 |.int a,.int b=>some (.dp,.int (a+b))
 |.str a,.str b=>if a.cps.size+b.cps.size<=big then some (.dp,.str (a++b))else none
 |.lst a,.lst b=>if a.length+b.length<=big/\qx x/\qx y then some (.rt,.lst (a++b))else none
 |.tup a,.tup b=>if a.length+b.length<=big/\qx x/\qx y then some (.no,.tup (a++b))else none
 |_,_=>none
def VW(a b:Int):Bool:=Zv a||Zv b||(decide (a.natAbs.log2<2000000)&&decide (b.natAbs.log2<2000000))
noncomputable def YJ:Sd->Sd->Option Sd:=λx y=>match x.2,y.2 with
 |.int a,.int b=>if VW a b then some (.dp,.int (a*b))else none
 |.lst a,.int k=>if -(2 ^ 63)<=k/\k<2 ^ 63/\a.length*k.toNat<=big/\qx x then some (.rt,.lst (List.replicate k.toNat a).flatten)else none
 |.str z,.int n=>if(z.cps.size<=1024/\n<=1024/\-1024<=n)/\(Txt.mul z n).cps.size<=big then some (.dp,.str (Txt.mul z n))else none
 |_,_=>none
def fSub:D->D->Option D:=i2 λa b=>some (a - b)
def qv:D->D->Option D:=i2 λa b=>if 0<b/\b.natAbs.log2<9000 then some (a / b)else none
def jJ:D->D->Option D:=i2 λa b=>if 0<b then some (a % b)else none
def vzq:D->D->Option D:=i2 λa b=>if 0<=b/\b<=1000000/\a.natAbs<2 ^ 64 then some (a*2 ^ b.toNat)else none
def fEq:D->D->Option D:=λa b=>if a.flat 40&&b.flat 40 then some (.bl (peq a b))else none
def fNe:D->D->Option D:=λa b=>if a.flat 40&&b.flat 40 then some (.bl (!peq a b))else none
def isNon:D->Bool
 |.non=>true
 |_=>false
def fLt:D->D->Option D:=c2 λa b=>decide (a<b)
def fLe:D->D->Option D:=c2 λa b=>decide (a<=b)
def fGt:D->D->Option D:=c2 λa b=>decide (b<a)
def fGe:D->D->Option D:=c2 λa b=>decide (b<=a)
def Zq(a b:Str):Bool:=!(Builtin.Str.occurrences b a 0 b.length 1).isEmpty
noncomputable def fIn:D->D->Option D:=λx y=>match y with
 |.lst ys=>if x.flat 30&&D.flats 30 ys then some (.bl (ys.any λz=>peq z x))else none
 |.tup ys=>if x.flat 30&&D.flats 30 ys then some (.bl (ys.any λz=>peq z x))else none
 |.str b=>(match x with
  |.str a=>some (.bl (Zq a b))
  |_=>none)
 |.dct ai=>some (.bl (ai.any λe=>decide (e.1=x)))
 |_=>none
noncomputable def v6:D->Option D
 |.lst xs=>some (.int xs.length)
 |.tup xs=>some (.int xs.length)
 |.str z=>some (.int z.length)
 |_=>none
noncomputable def kind:D->String
 |.non=>"NoneType"
 |.bl _=>"bool"
 |.int _=>"int"
 |.str _=>"str"
 |.tup _=>"tuple"
 |.lst _=>"list"
 |.dct _=>"dict"
 |.obj _ _=>""
def isaK(t u:String):Bool:=t==u||(t == "bool" && u == "int")
def k6(u:String):D->Option D:=λd=>match d with
 |.obj _ _=>none
 |.dct _=>none
 |_=>some (.bl (isaK (kind d) u))
def fIsNon:D->Option D:=λd=>some (.bl (isNon d))
def fNotNon:D->Option D:=λd=>some (.bl (!isNon d))
abbrev Ts:=Ev Bool
noncomputable def truth:D->Option Bool
 |.bl b=>some b
 |.non=>some false
 |.int i=>some (i != 0)
 |.str z=>some (z.cps.size != 0)
 |.lst xs=>some (!xs.isEmpty)
 |.tup xs=>some (!xs.isEmpty)
 |.dct xs=>some (!xs.isEmpty)
 |.obj _ _=>none
def tE(c:Ex):Ts:=λE=>bnd (c E) λE x=>val E (truth x.2)
def tAnd(a b:Ts):Ts:=λE=>bnd (a E) λE x=>if x then b E else some (.ok E false)
def tOr(a b:Ts):Ts:=λE=>bnd (a E) λE x=>if x then some (.ok E true)else b E
def tNot(a:Ts):Ts:=λE=>bnd (a E) λE x=>some (.ok E (!x))
def tYes:Ts:=λE=>some (.ok E true)
def cIf(t:Ts)(a b:Ex):Ex:=λE=>bnd (t E) λE x=>if x then a E else b E
noncomputable def wK(a b:Ex):Ex:=λE=>bnd (a E) λE x=>match x.2 with
 |.bl true=>b E
 |.bl false=>some (.ok E (.dp,.bl false))
 |_=>none
noncomputable def cOr(a b:Ex):Ex:=λE=>bnd (a E) λE x=>match x.2 with
 |.bl true=>some (.ok E (.dp,.bl true))
 |.bl false=>b E
 |_=>none
def Q0:D->D->Option D:=λx y=>match y with
 |.dct _=>none
 |_=>fIn x y
def f2First(f:D->Option D):Sd->Sd->Option Sd:=λx y=>if isNon y.2 then(f x.2).map λd=>(.dp,d)else none
def jw:D->D->Option D:=λx y=>match x with
 |.dct _=>none
 |_=>ixD x y
def j8(a b:Ex):Ex:=λE=>bnd (a E) λE x=>bnd (b E) λE y=>val E ((jw x.2 y.2).map λd=>(sub x.1,d))
def truthQ:D->Option Bool:=λd=>match d with
 |.dct _=>none
 |_=>truth d
def tEQ(c:Ex):Ts:=λE=>bnd (c E) λE x=>val E (truthQ x.2)
def qwu(c:Ex):Ex:=λE=>bnd (c E) λE x=>val E ((truthQ x.2).map λk=>(.dp,.bl (!k)))
noncomputable def kJ:List Ex->Ev (List Sd)
 |[],E=>some (.ok E [])
 |c::cs,E=>bnd (c E) λE x=>bnd (kJ cs E) λE xs=>some (.ok E (x::xs))
def qW(x:Sd):Bool:=x.1 == .dp||x.2.pure
noncomputable def qY(o:Own)(cs:List Ex):Ex:=λE=>bnd (kJ cs E) λE xs=>if o=.dp then(if xs.all qW then some (.ok E (.dp,.lst (xs.map (·.2))))else none)else some (.ok E (.rt,.lst (xs.map (·.2))))
noncomputable def v9(o:Own)(cs:List Ex):Ex:=λE=>bnd (kJ cs E) λE xs=>if o=.dp then(if xs.all qW then some (.ok E (.dp,.tup (xs.map (·.2))))else none)else some (.ok E (.no,.tup (xs.map (·.2))))
inductive Fl where
 |nx (E:En)|rt (E:En) (x:Sd)|ct (E:En)|bk (E:En)|xc (E:En) (c:Str)
abbrev Sm:=En->Option Fl
noncomputable def ofE{α:Type}(m:Option (Res α))(f:En->α->Option Fl):Option Fl:=
 match m with
 |some (.ok E a)=>f E a
 |some (.exc E c)=>some (.xc E c)
 |none=>none
@[simp] theorem wjt {α:Type}(E:En)(a:α)(f:En->α->Option Fl):ofE (some (.ok E a)) f=f E a:=rfl
@[simp] theorem vzd {α:Type}(E:En)(c:Str)(f:En->α->Option Fl):ofE (some (.exc E c)) f=some (.xc E c):=rfl
@[simp] theorem vxa {α:Type}(f:En->α->Option Fl):ofE none f=none:=rfl
def j7(a b:Sm):Sm:=λE=>match a E with
 |some (.nx E)=>b E
 |r=>r
def kz:Sm:=λE=>some (.nx E)
def jx(i:Nat)(c:Ex):Sm:=λE=>ofE (c E) λE x=>some (.nx (E.set i (some x)))
def Zz(c:Ex):Sm:=λE=>ofE (c E) λE _=>some (.nx E)
def jq(c:Ex):Sm:=λE=>ofE (c E) λE x=>some (.rt E x)
def sRetN:Sm:=λE=>some (.rt E (.dp,.non))
def sIf(t:Ts)(a b:Sm):Sm:=λE=>ofE (t E) λE x=>if x then a E else b E
inductive Tg where
 |n (i:Nat)|t (ts:List Nat)
noncomputable def setAll:List Nat->List D->En->Option En
 |[],[],E=>some E
 |i::is,d::ds,E=>setAll is ds (E.set i (some (.no,d)))
 |_,_,_=>none
noncomputable def Tg.put:Tg->D->En->Option En
 |.n i,d,E=>some (E.set i (some (.no,d)))
 |.t is,.tup ds,E=>setAll is ds E
 |.t is,.lst ds,E=>setAll is ds E
 |.t _,_,_=>none
def sTup(is:List Nat)(c:Ex):Sm:=λE=>ofE (c E) λE x=>(Tg.put (.t is) x.2 E).map .nx
noncomputable def J7(tg:Tg)(b:Sm):List D->En->Option Fl
 | [],E=>some (.nx E)
 | d::ds,E=>match tg.put d E with
  |none=>none
  |some E=>match b E with
   |some (.nx E)=>J7 tg b ds E
   |some (.ct E)=>J7 tg b ds E
   |some (.bk E)=>some (.nx E)
   |r=>r
def wq(it:Ev (List D))(tg:Tg)(b:Sm):Sm:=λE=>ofE (it E) λE ds=>J7 tg b ds E
def at'{α:Type}(L:List (Option α))(j:Nat):Option α:=(L[j]?).join
def clr{α:Type}:List Nat->List (Option α)->List (Option α)
 |[],L=>L
 |j::R,L=>clr R (L.set j none)
noncomputable def back{α:Type}:List Nat->List (Option α)->List (Option α)->List (Option α)
 |j::R,q::B,L=>back R B (L.set j q)
 |_,_,L=>L
def V1(k:Nat)(R:List Nat)(E:En):En:=List.replicate k none++R.map (at' E)
def JJ(k:Nat)(R:List Nat)(B E:En):En:=back R (B.drop k) (clr R E)
noncomputable def lcL(tg:Tg)(t:Ts)(c:Ex):List D->En->List Sd->Option (Res (List Sd))
 |[],B,af=>some (.ok B af)
 |d::ds,B,af=>match tg.put d B with
  |none=>none
  |some B=>bnd (t B) λB x=>if x then bnd (c B) λB y=>lcL tg t c ds B (af++[y])else lcL tg t c ds B af
noncomputable def mkL(o:Own)(E:En)(xs:List Sd):Option (Res Sd):=
 if o=.dp then(if xs.all qW then some (.ok E (.dp,.lst (xs.map (·.2))))else none)else some (.ok E (.rt,.lst (xs.map (·.2))))
noncomputable def cLC(o:Own)(k:Nat)(R:List Nat)(it:Ev (List D))(tg:Tg)(t:Ts)(c:Ex):Ex:=λE=>bnd (it E) λE ds=>
 match lcL tg t c ds (V1 k R E) []with
 |some (.ok B xs)=>mkL o (JJ k R B E) xs
 |some (.exc B e)=>some (.exc (JJ k R B E) e)
 |none=>none
def vjh:Option (Option Sd)->Bool
 |some (some (_,.lst _))=>true
 |_=>false
noncomputable def xv(f:List D->D->Option (List D))(i:Nat)(c:Ex):Sm:=λE=>if vjh E[i]? then ofE (c E) λE x=>match E[i]? with
 |some (some (o,.lst xs))=>if o=.no then none else(match f xs x.2 with
  |some ys=>some (.nx (E.set i (some (if o=.dp/\qW x then .dp else .rt,.lst ys))))
  |none=>none)
 |_=>none
 else none
def x8:List D->D->Option (List D):=λxs d=>if xs.length<big then some (xs++[d])else none
noncomputable def wk1:D->Option D
 |.int i=>some (.int i)
 |.bl k=>some (.int (if k then 1 else 0))
 |.str z=>if z.length<=640 then(PySem.intText? z).map .int else none
 |_=>none
noncomputable def J3:Sd->Option Sd:=λx=>match x.2 with
 |.lst xs=>if qx x then some (.rt,.lst xs)else none
 |.tup xs=>if qx x then some (.rt,.lst xs)else none
 |_=>none
noncomputable def Wj:Sd->Option Sd:=λx=>match x.2 with
 |.lst xs=>if qx x then some (.no,.tup xs)else none
 |.tup xs=>if qx x then some (.no,.tup xs)else none
 |_=>none
def bls:List D->Option (List Bool)
 |[]=>some []
 |.bl b::ds=>(bls ds).map (b :: ·)
 |_=>none
def Kq:D->Option D
 |.lst ds=>(bls ds).map λbs=>.bl (bs.all id)
 |_=>none
noncomputable def seqOf:D->Option (List D)
 |.lst xs=>some xs
 |.tup xs=>some xs
 |.str z=>if z.cps.size<=big then some (z.cps.toList.map λc=>.str ⟨#[c]⟩)else none
 |_=>none
def itS(c:Ex):Ev (List D):=λE=>bnd (c E) λE x=>val E (seqOf x.2)
def J0(i:Int):Bool:=decide (-(2 ^ 62)<=i)&&decide (i<2 ^ 62)
def kj(lo hi:Int):List D:=(List.range (hi - lo).toNat).map λ(k:Nat)=>.int (lo+(k:Int))
noncomputable def qJ(c:Ex):Ev (List D):=λE=>bnd (c E) λE x=>match x.2 with
 |.int j=>if J0 j/\j.toNat<=big then some (.ok E (kj 0 j))else none
 |_=>none
noncomputable def wk2(c:Ex):Ex:=λE=>bnd (c E) λE x=>match x.2 with
 |.int j=>if J0 j/\j.toNat<=big then some (.ok E (.rt,.lst (kj 0 j)))else none
 |_=>none
abbrev Fn:=List Sd->Option (Res Sd)
noncomputable def fn(n:Nat)(b:Sm):Fn:=λxs=>match b (xs.map some++List.replicate (n - xs.length) none)with
 |some (.rt E x)=>some (.ok E x)
 |some (.nx E)=>some (.ok E (.dp,.non))
 |some (.xc E c)=>some (.exc E c)
 |_=>none
def letAll(xs:List Sd):List Sd:=xs.map λx=>(.no,x.2)
noncomputable def jQ(f:Fn)(cs:List Ex):Ex:=λE=>bnd (kJ cs E) λE xs=>match f (letAll xs)with
 |some (.ok _ y)=>some (.ok E y)
 |some (.exc _ c)=>some (.exc E c)
 |none=>none
end Q
namespace Q
open PySem PySem.Spec PyProof.Rows L2 L3
mutual
noncomputable def vw5:D->Int
 |.int i=>hashInt i
 |.tup xs=>reduceHash (Builtin.Tuple.tupleHashOf (hashDs xs))
 |_=>4238894112
noncomputable def hashDs:List D->List Int
 |[]=>[]
 |a::x=>vw5 a::hashDs x
end
def Kd:Type:={ d:D // JV 6 d=true }
instance:DecidableEq Kd:=λa b=>Classical.propDecidable (a=b)
abbrev Ent:=Kd×Addr×Value
noncomputable def DicO(a:Addr)(es:List Ent)(ep:Nat):HO:=.ext λh=>∃o ds,h.get? a=some o/\o.ExactDict/\o.data=.dict ds ep/\ds.toList=es.map λx=>(⟨vw5 x.1.1,.ref x.2.1,x.2.2⟩:DictEntry)
mutual
noncomputable def PuR(K:PySem.W.Frag)(H:Hp):D->V->Prop
 |.non,v=>v=.non
 |.int i,v=>v=.int i
 |.tup ds,v=>∃a xs,v=.ref a/\SqT K H a xs/\PuRs K H ds xs
 |_,_=>False
noncomputable def PuRs(K:PySem.W.Frag)(H:Hp):List D->List V->Prop
 |[],xs=>xs=[]
 |d::ds,xs=>∃x r,xs=x::r/\PuR K H d x/\PuRs K H ds r
end
noncomputable def DcN(K:PySem.W.Frag)(H:Hp)(a:Addr)(ks:List D)(vs:List V):Prop:=∃(es:List Ent) (ep:Nat),H a=some (DicO a es ep)/\(a==sysModules)=false/\es.length<=sizeLine/\(es.map (·.1)).Nodup/\ks=es.map (·.1.1)/\(∀x∈es,PuR K H x.1.1 (.ref x.2.1))/\Vals vs (es.map (·.2.2))
noncomputable def DcI(H:Hp)(a:Addr)(ks:List D)(vs:List V):Prop:=∃(kv:List (Int×V)) (m:Str),H a=some (.dK (kv.map λp=>(Sum.inl p.1,p.2)))/\ks=.str m::kv.map (λp=>D.int p.1)/\vs=.non::kv.map (·.2)
def DcA(K:PySem.W.Frag)(H:Hp)(a:Addr)(ks:List D)(vs:List V):Prop:=DcN K H a ks vs\/DcI H a ks vs
noncomputable def wk6(K:PySem.W.Frag)(a:Addr)(xs:List V):Prop:=∃(aa:Array Value) (n:Nat),K.lookup a=some { cls:=.type "list",data:=.seq aa n }/\aa.size<=sizeLine/\Vals xs aa.toList
def vxh(K:PySem.W.Frag)(H:Hp)(a:Addr)(xs:List V):Prop:=(∃o,H a=some (.frz o (.lst xs)))\/wk6 K a xs
def LsR(K:PySem.W.Frag)(H:Hp)(a:Addr)(xs:List V):Prop:=Rd H a (.lst xs)\/wk6 K a xs
theorem LsR.of{K:PySem.W.Frag}{H:Hp}{a:Addr}{xs:List V}(h:vxh K H a xs):LsR K H a xs:=h.imp .inr id
theorem LsR.sq{K:PySem.W.Frag}{H:Hp}{a:Addr}{xs:List V}(h:LsR K H a xs):SqL K H a xs:=by
 rcases h with h|⟨aa,n,h1,h2,h3⟩
 ·exact .inl h
 ·exact .inr ⟨_,aa,n,h1,rfl,rfl,rfl,h2,h3⟩
theorem LsR.is{X:Cx}{pins:List (Addr×Obj)}{σ:L2.St}{H:Hp}{s:Shared}{a:Addr}{xs:List V}(I:L2.Inv X pins σ H s)(h:LsR X.K H a xs):xs.length<=sizeLine/\∃(aa:List Value) (n:Nat),Vals xs aa/\s.heap.get? a=some { cls:=.type "list",data:=.seq aa.toArray n }:=by
 rcases h with h|⟨aa,n,h1,h2,h3⟩
 ·obtain⟨z,aa,n,r,e⟩:=h.ok I.hok;exact⟨z,aa,n,r,e⟩
 ·have hl:=h3.length;simp only[Xb]at hl;exact⟨by omega,aa.toList,n,h3,by simpa using I.kIn a _ h1⟩
noncomputable def ExD(K:PySem.W.Frag)(H:Hp)(c:Str)(v:V):Prop:=∃x o C,v=.ref x/\H x=some (.frz o (.ext λ_=>True))/\ExAt K x o C/\PySem.W.nsIn K mainGlobals c=some (some (.ref C))
mutual
noncomputable def RepL(K:PySem.W.Frag)(H:Hp)(g:Bool):D->V->List Addr->Prop
 |.non,v,as=>v=.non/\as=[]
 |.bl b,v,as=>v=.bl b/\as=[]
 |.int i,v,as=>v=.int i/\as=[]
 |.str z,v,as=>v=.str z/\as=[]/\z.length<=sizeLine
 |.tup ds,v,as=>∃a xs,v=.ref a/\SqT K H a xs/\RepA K H g ds xs as
 |.lst ds,v,as=>∃a xs bs,v=.ref a/\RepA K H g ds xs bs/\((H a=some (.lst xs)/\as=a::bs)\/(g=true/\vxh K H a xs/\as=bs))
 |.dct ai,v,as=>∃a xs bs,v=.ref a/\RepP K H g ai xs bs/\DcA K H a (ai.map (·.1)) xs/\as=a::bs
 |.obj c _,v,as=>as=[]/\ExD K H c v
noncomputable def RepA(K:PySem.W.Frag)(H:Hp)(g:Bool):List D->List V->List Addr->Prop
 |[],xs,as=>xs=[]/\as=[]
 |d::ds,xs,as=>∃x r bs cs,xs=x::r/\as=bs++cs/\RepL K H g d x bs/\RepA K H g ds r cs
noncomputable def RepP(K:PySem.W.Frag)(H:Hp)(g:Bool):List (D×D)->List V->List Addr->Prop
 |[],xs,as=>xs=[]/\as=[]
 |(_,d)::ds,xs,as=>∃x r bs cs,xs=x::r/\as=bs++cs/\RepL K H g d x bs/\RepP K H g ds r cs
end
noncomputable def RepR(K:PySem.W.Frag)(H:Hp):D->V->List Addr->Prop
 |.lst ds,v,as=>∃a xs bs,v=.ref a/\RepA K H true ds xs bs/\H a=some (.lst xs)/\as=a::bs
 |.dct ai,v,as=>∃a xs bs,v=.ref a/\RepP K H true ai xs bs/\DcA K H a (ai.map (·.1)) xs/\as=a::bs
 |_,_,_=>False
noncomputable def RepO(K:PySem.W.Frag)(H:Hp):Own->D->V->List Addr->Prop
 |.no=>RepL K H true
 |.rt=>RepR K H
 |.dp=>RepL K H false
section
variable {K:PySem.W.Frag}{H H':Hp}
noncomputable def Kp(H H':Hp)(as:List Addr):Prop:=(∀a xs,H a=some (.tup xs)->H' a=some (.tup xs))/\(∀a o u,H a=some (.frz o u)->H' a=some (.frz o u))/\∀a∈as,∀ob,H a=some ob->H' a=some ob
theorem Kp.left{as bs:List Addr}(k:Kp H H' (as++bs)):Kp H H' as:=⟨k.1,k.2.1,λa ha=>k.2.2 a (ll9 _ ha)⟩
theorem Kp.right{as bs:List Addr}(k:Kp H H' (as++bs)):Kp H H' bs:=⟨k.1,k.2.1,λa ha=>k.2.2 a (lr9 _ ha)⟩
theorem Kp.tail{a:Addr}{bs:List Addr}(k:Kp H H' (a::bs)):Kp H H' bs:=⟨k.1,k.2.1,λb hb=>k.2.2 b (lc9 _ hb)⟩
theorem Kp.tupT{as:List Addr}{a:Addr}{xs:List V}(k:Kp H H' as)(h:SqT K H a xs):SqT K H' a xs:=by
 rcases h with(h|⟨o,h⟩)|h
 ·exact .inl (.inl (k.1 a xs h))
 ·exact .inl (.inr ⟨o,k.2.1 a o _ h⟩)
 ·exact .inr h
theorem Kp.frzL{as:List Addr}{a:Addr}{xs:List V}(k:Kp H H' as)(h:vxh K H a xs):vxh K H' a xs:=by
 rcases h with⟨o,h⟩|h
 ·exact .inl ⟨o,k.2.1 a o _ h⟩
 ·exact .inr h
mutual
theorem PuR.kp{as:List Addr}(k:Kp H H' as):∀{d:D} {v:V},PuR K H d v->PuR K H' d v
 |.non,_,h=>by unfold PuR at h ⊢;exact h
 |.int _,_,h=>by unfold PuR at h ⊢;exact h
 |.tup ds,_,h=>by
  unfold PuR at h ⊢;obtain⟨a,xs,e,s,r⟩:=h;exact⟨a,xs,e,k.tupT s,PuRs.kp k r⟩
 |.bl _,_,h=>by unfold PuR at h;exact h.elim
 |.str _,_,h=>by unfold PuR at h;exact h.elim
 |.lst _,_,h=>by unfold PuR at h;exact h.elim
 |.dct _,_,h=>by unfold PuR at h;exact h.elim
 |.obj _ _,_,h=>by unfold PuR at h;exact h.elim
theorem PuRs.kp{as:List Addr}(k:Kp H H' as):∀{ds:List D} {xs:List V},PuRs K H ds xs->PuRs K H' ds xs
 |[],_,h=>by unfold PuRs at h ⊢;exact h
 |d::ds,_,h=>by
  unfold PuRs at h ⊢;obtain⟨x,r,e,h1,h2⟩:=h;exact⟨x,r,e,PuR.kp k h1,PuRs.kp k h2⟩
end
theorem Kp.dcn{a:Addr}{bs:List Addr}{ks:List D}{vs:List V}(k:Kp H H' (a::bs))(h:DcN K H a ks vs):DcN K H' a ks vs:=by
 obtain⟨es,ep,e,h1,h2,h3,h4,h5,h6⟩:=h;exact⟨es,ep,k.2.2 a X3 _ e,h1,h2,h3,h4,λx hx=>PuR.kp k (h5 x hx),h6⟩
theorem Kp.dca{a:Addr}{bs:List Addr}{ks:List D}{vs:List V}(k:Kp H H' (a::bs))(h:DcA K H a ks vs):DcA K H' a ks vs:=by
 rcases h with h|⟨kv,m,e,h⟩
 ·exact .inl (k.dcn h)
 ·exact .inr ⟨kv,m,k.2.2 a X3 _ e,h⟩
theorem Kp.of_same{as:List Addr}(s:k4 H H'):Kp H H' as:=⟨λa xs h=>s a _ h,λa o u h=>s a _ h,λa _ ob h=>s a ob h⟩
mutual
theorem RepL.kp{g:Bool}:∀{d:D} {v:V} {as:List Addr},RepL K H g d v as->Kp H H' as->RepL K H' g d v as
 | .non,_,_,h,_=>by unfold RepL at h ⊢;exact h
 | .bl _,_,_,h,_=>by unfold RepL at h ⊢;exact h
 | .int _,_,_,h,_=>by unfold RepL at h ⊢;exact h
 | .str _,_,_,h,_=>by unfold RepL at h ⊢;exact h
 | .tup ds,_,_,h,k=>by
  unfold RepL at h ⊢;obtain⟨a,xs,e,s,r⟩:=h;exact⟨a,xs,e,k.tupT s,RepA.kp r k⟩
 | .lst ds,_,_,h,k=>by
  unfold RepL at h ⊢;obtain⟨a,xs,bs,e,r,q⟩:=h;refine⟨a,xs,bs,e,?_,?_⟩
  ·rcases q with⟨_,rfl⟩|⟨_,_,rfl⟩
   ·exact RepA.kp r k.tail
   ·exact RepA.kp r k
  ·rcases q with⟨h1,rfl⟩|⟨hg,h1,rfl⟩
   ·exact .inl ⟨k.2.2 a X3 _ h1,rfl⟩
   ·exact .inr ⟨hg,k.frzL h1,rfl⟩
 |.dct ai,_,_,h,k=>by
  unfold RepL at h ⊢;obtain⟨a,xs,bs,e,r,q,rfl⟩:=h;exact⟨a,xs,bs,e,RepP.kp r k.tail,k.dca q,rfl⟩
 |.obj _ _,_,_,h,k=>by
  unfold RepL at h ⊢;obtain⟨e,x,o,C,h1,h2,h3⟩:=h;exact⟨e,x,o,C,h1,k.2.1 _ _ _ h2,h3⟩
theorem RepA.kp{g:Bool}:∀{ds:List D} {xs:List V} {as:List Addr},RepA K H g ds xs as->Kp H H' as->RepA K H' g ds xs as
 |[],_,_,h,_=>by unfold RepA at h ⊢;exact h
 |d::ds,_,_,h,k=>by
  unfold RepA at h ⊢;obtain⟨x,r,bs,cs,e1,rfl,h1,h2⟩:=h;exact⟨x,r,bs,cs,e1,rfl,RepL.kp h1 k.left,RepA.kp h2 k.right⟩
theorem RepP.kp{g : Bool}: ∀{ds : List (D × D)} {xs : List V} {as : List Addr}, RepP K H g ds xs as -> Kp H H' as -> RepP K H' g ds xs as
  | [], _, _, h, _=>by unfold RepP at h ⊢; exact h
  | (q, d)::ds, _, _, h, k=>by
    unfold RepP at h ⊢;obtain⟨x, r, bs, cs, e1, rfl, h1, h2⟩:= h;exact⟨x, r, bs, cs, e1, rfl, RepL.kp h1 k.left, RepP.kp h2 k.right⟩
end
mutual
theorem RepL.wk:∀{d:D} {v:V} {as:List Addr},RepL K H false d v as->RepL K H true d v as
 |.non,_,_,h=>by unfold RepL at h ⊢;exact h
 |.bl _,_,_,h=>by unfold RepL at h ⊢;exact h
 |.int _,_,_,h=>by unfold RepL at h ⊢;exact h
 |.str _,_,_,h=>by unfold RepL at h ⊢;exact h
 |.tup ds,_,_,h=>by
  unfold RepL at h ⊢;obtain⟨a,xs,e,s,r⟩:=h;exact⟨a,xs,e,s,RepA.wk r⟩
 |.lst ds,_,_,h=>by
  unfold RepL at h ⊢;obtain⟨a,xs,bs,e,r,q⟩:=h;refine⟨a,xs,bs,e,RepA.wk r,?_⟩;rcases q with q|⟨z,_⟩
  ·exact .inl q
  ·cases z
 |.dct ai,_,_,h=>by
  unfold RepL at h ⊢;obtain⟨a,xs,bs,e,r,q,z⟩:=h;exact⟨a,xs,bs,e,RepP.wk r,q,z⟩
 |.obj _ _,_,_,h=>by unfold RepL at h ⊢;exact h
theorem RepA.wk:∀{ds:List D} {xs:List V} {as:List Addr},RepA K H false ds xs as->RepA K H true ds xs as
 |[],_,_,h=>by unfold RepA at h ⊢;exact h
 |d::ds,_,_,h=>by
  unfold RepA at h ⊢;obtain⟨x,r,bs,cs,e1,e2,h1,h2⟩:=h;exact⟨x,r,bs,cs,e1,e2,RepL.wk h1,RepA.wk h2⟩
theorem RepP.wk : ∀{ds : List (D × D)} {xs : List V} {as : List Addr}, RepP K H false ds xs as -> RepP K H true ds xs as
  | [], _, _, h=>by unfold RepP at h ⊢; exact h
  | (q, d)::ds, _, _, h=>by
    unfold RepP at h ⊢;obtain⟨x, r, bs, cs, e1, e2, h1, h2⟩:= h;exact⟨x, r, bs, cs, e1, e2, RepL.wk h1, RepP.wk h2⟩
end
mutual
theorem RepL.al{g:Bool}:∀{d:D} {v:V} {as:List Addr},RepL K H g d v as->∀a∈as,(∃xs,H a=some (.lst xs))\/(∃ φ,H a=some (.ext φ))\/∃ai,H a=some (.dK ai)
 | .non,_,_,h=>by unfold RepL at h;rw[h.2];exact λ_ z=>nomatch z
 | .bl _,_,_,h=>by unfold RepL at h;rw[h.2];exact λ_ z=>nomatch z
 | .int _,_,_,h=>by unfold RepL at h;rw[h.2];exact λ_ z=>nomatch z
 | .str _,_,_,h=>by unfold RepL at h;rw[h.2.1];exact λ_ z=>nomatch z
 | .tup ds,_,_,h=>by
  unfold RepL at h;obtain⟨a,xs,e,s,r⟩:=h;exact RepA.al r
 | .lst ds,_,_,h=>by
  unfold RepL at h;obtain⟨a,xs,bs,e,r,q⟩:=h;rcases q with⟨h1,rfl⟩|⟨_,_,rfl⟩
  ·intro b hb;rcases List.mem_cons.mp hb with rfl|hb
   ·exact .inl ⟨_,h1⟩
   ·exact RepA.al r b hb
  ·exact RepA.al r
 | .dct ai,_,_,h=>by
  unfold RepL at h;obtain⟨a,xs,bs,e,r,q,rfl⟩:=h;intro b hb;rcases List.mem_cons.mp hb with rfl|hb
  ·rcases q with⟨es,ep,q,_⟩|⟨kv,m,q,_⟩
   ·exact .inr (.inl ⟨_,q⟩)
   ·exact .inr (.inr ⟨_,q⟩)
  ·exact RepP.al r b hb
 |.obj _ _,_,_,h=>by unfold RepL at h;rw[h.1];exact λ_ z=>nomatch z
theorem RepA.al{g:Bool}:∀{ds:List D} {xs:List V} {as:List Addr},RepA K H g ds xs as->∀a∈as,(∃xs,H a=some (.lst xs))\/(∃ φ,H a=some (.ext φ))\/∃ai,H a=some (.dK ai)
 |[],_,_,h=>by unfold RepA at h;rw[h.2];exact λ_ z=>nomatch z
 |d::ds,_,_,h=>by
  unfold RepA at h;obtain⟨x,r,bs,cs,e1,rfl,h1,h2⟩:=h;intro a ha;rcases List.mem_append.mp ha with ha|ha
  ·exact RepL.al h1 a ha
  ·exact RepA.al h2 a ha
theorem RepP.al{g : Bool}: ∀{ds : List (D × D)} {xs : List V} {as : List Addr}, RepP K H g ds xs as -> ∀a ∈ as, (∃xs, H a = some (.lst xs)) \/ (∃ φ, H a = some (.ext φ)) \/ ∃ai, H a = some (.dK ai)
  | [], _, _, h=>by unfold RepP at h; rw[h.2]; exact λ_ z=>nomatch z
  | (_, d)::ds, _, _, h=>by
    unfold RepP at h;obtain⟨x, r, bs, cs, e1, rfl, h1, h2⟩:= h;intro a ha;rcases List.mem_append.mp ha with ha|ha
    · exact RepL.al h1 a ha
    · exact RepP.al h2 a ha
end
mutual
theorem RepL.pu{g g':Bool}:∀{d:D} {v:V} {as:List Addr},RepL K H g d v as->d.pure=true->as=[]/\RepL K H g' d v []
 |.non,_,_,h,_=>by unfold RepL at h ⊢;exact⟨h.2,h.1,rfl⟩
 |.bl _,_,_,h,_=>by unfold RepL at h ⊢;exact⟨h.2,h.1,rfl⟩
 |.int _,_,_,h,_=>by unfold RepL at h ⊢;exact⟨h.2,h.1,rfl⟩
 |.str _,_,_,h,_=>by unfold RepL at h ⊢;exact⟨h.2.1,h.1,rfl,h.2.2⟩
 |.tup ds,_,_,h,p=>by
  unfold RepL at h ⊢;obtain⟨a,xs,e,s,r⟩:=h;obtain⟨z,r'⟩:=RepA.pu (g':=g') r (by unfold D.pure at p;exact p);exact⟨z,a,xs,e,s,r'⟩
 |.lst ds,_,_,h,p=>by unfold D.pure at p;cases p
 |.dct ds,_,_,h,p=>by unfold D.pure at p;cases p
 |.obj _ _,_,_,h,p=>by unfold D.pure at p;cases p
theorem RepA.pu{g g':Bool}:∀{ds:List D} {xs:List V} {as:List Addr},RepA K H g ds xs as->D.pures ds=true->as=[]/\RepA K H g' ds xs []
 |[],_,_,h,_=>by unfold RepA at h ⊢;exact⟨h.2,h.1,rfl⟩
 |d::ds,_,_,h,p=>by
  unfold RepA at h ⊢;unfold D.pures at p;rw[Bool.and_eq_true]at p;obtain⟨x,r,bs,cs,e1,rfl,h1,h2⟩:=h;obtain⟨rfl,q1⟩:=RepL.pu (g':=g') h1 p.1;obtain⟨rfl,q2⟩:=RepA.pu (g':=g') h2 p.2;exact⟨rfl,x,r,[],[],e1,rfl,q1,q2⟩
end
theorem RepR.wk:∀{d:D} {v:V} {as:List Addr},RepR K H d v as->RepL K H true d v as
 |.lst ds,_,_,h=>by
  obtain⟨a,xs,bs,e,r,q,z⟩:=h;unfold RepL;exact⟨a,xs,bs,e,r,.inl ⟨q,z⟩⟩
 |.dct ai,_,_,h=>by
  obtain⟨a,xs,bs,e,r,q,z⟩:=h;unfold RepL;exact⟨a,xs,bs,e,r,q,z⟩
theorem RepR.kp:∀{d:D} {v:V} {as:List Addr},RepR K H d v as->Kp H H' as->RepR K H' d v as
 |.lst ds,_,_,h,k=>by
  obtain⟨a,xs,bs,e,r,q,rfl⟩:=h;exact⟨a,xs,bs,e,r.kp k.tail,k.2.2 a X3 _ q,rfl⟩
 |.dct ai,_,_,h,k=>by
  obtain⟨a,xs,bs,e,r,q,rfl⟩:=h;exact⟨a,xs,bs,e,r.kp k.tail,k.dca q,rfl⟩
theorem RepO.wk:∀{o:Own} {d:D} {v:V} {as:List Addr},RepO K H o d v as->RepL K H true d v as
 |.no,_,_,_,h=>h
 |.rt,_,_,_,h=>RepR.wk h
 |.dp,_,_,_,h=>RepL.wk h
theorem RepO.kp:∀{o:Own} {d:D} {v:V} {as:List Addr},RepO K H o d v as->Kp H H' as->RepO K H' o d v as
 |.no,_,_,_,h,k=>RepL.kp h k
 |.rt,_,_,_,h,k=>RepR.kp h k
 |.dp,_,_,_,h,k=>RepL.kp h k
end
structure Sl where
 o:Own
 d:D
 v:V
 as:List Addr
def Sl.own(x:Sl):List Addr:=match x.o with
 |.no=>[]
 |.rt=>x.as.take 1
 |.dp=>x.as
def Sl.frz(x:Sl):List Addr:=match x.o with
 |.no=>x.as
 |.rt=>x.as.drop 1
 |.dp=>[]
theorem Sl.parts(x:Sl):x.own++x.frz=x.as:=by
 unfold Sl.own Sl.frz;cases x.o with
 |no=>rfl
 |rt=>exact List.take_append_drop 1 x.as
 |dp=>exact Y9 _
theorem Sl.own_as{x:Sl}{a:Addr}(h:a∈x.own):a∈x.as:=by rw[<-x.parts];exact ll9 _ h
theorem Sl.frz_as{x:Sl}{a:Addr}(h:a∈x.frz):a∈x.as:=by rw[<-x.parts];exact lr9 _ h
theorem Sl.as_of{x:Sl}{a:Addr}(h:a∈x.as):a∈x.own\/a∈x.frz:=by rw[<-x.parts]at h;exact List.mem_append.mp h
def Sl.let(x:Sl):Sl:={ x with o:=.no }
abbrev Ls:=List (Option Sl)
def j6(L:Ls):List Addr:=L.flatMap λx=>x.elim [] Sl.own
def jY(L:Ls):List Addr:=L.flatMap λx=>x.elim [] Sl.frz
@[simp] theorem qkt:j6 []=[]:=rfl
@[simp] theorem vk7:jY []=[]:=rfl
@[simp] theorem jk (x:Sl)(L:Ls):j6 (some x::L)=x.own++j6 L:=by simp[j6]
@[simp] theorem k8 (x:Sl)(L:Ls):jY (some x::L)=x.frz++jY L:=by simp[jY]
@[simp] theorem kzz (L:Ls):j6 (none::L)=j6 L:=by simp[j6]
@[simp] theorem kwx (L:Ls):jY (none::L)=jY L:=by simp[jY]
@[simp] theorem jZ (L T:Ls):j6 (L++T)=j6 L++j6 T:=by simp[j6]
@[simp] theorem kW (L T:Ls):jY (L++T)=jY L++jY T:=by simp[jY]
theorem mem_owned{L:Ls}{a:Addr}:a∈j6 L↔∃x,some x∈L/\a∈x.own:=by
 unfold j6;rw[List.mem_flatMap];constructor
 ·rintro ⟨y,hy,h⟩;cases y with
  |none=>exact nomatch h
  |some x=>exact⟨x,hy,h⟩
 ·rintro ⟨x,hx,h⟩;exact⟨some x,hx,h⟩
theorem mem_frozen{L:Ls}{a:Addr}:a∈jY L↔∃x,some x∈L/\a∈x.frz:=by
 unfold jY;rw[List.mem_flatMap];constructor
 ·rintro ⟨y,hy,h⟩;cases y with
  |none=>exact nomatch h
  |some x=>exact⟨x,hy,h⟩
 ·rintro ⟨x,hx,h⟩;exact⟨some x,hx,h⟩
def Sl.ok(K:PySem.W.Frag)(H:Hp)(x:Sl):Prop:=RepO K H x.o x.d x.v x.as
theorem Sl.ok.al{K:PySem.W.Frag}{H:Hp}{x:Sl}(h:x.ok K H):∀a∈x.as,(∃xs,H a=some (.lst xs))\/(∃ φ,H a=some (.ext φ))\/∃ai,H a=some (.dK ai):=(RepO.wk h).al
theorem Sl.ok.some{K:PySem.W.Frag}{H:Hp}{x:Sl}(h:x.ok K H){a:Addr}(ha:a∈x.as):H a≠none:=λz=>by
 rcases h.al a ha with⟨xs,e⟩|⟨xs,e⟩|⟨xs,e⟩<;>(rw[z]at e;cases e)
structure World (K:PySem.W.Frag)(H:Hp)(L:Ls):Prop where
 ok:∀x,some x∈L->x.ok K H
 nd:(j6 L).Nodup
 ds:∀a∈j6 L,a∉jY L
structure Step (H:Hp)(L:Ls)(H':Hp)(L':Ls):Prop where
 keep:∀a ob,H a=some ob->a∉j6 L->H' a=some ob
 own:∀a∈j6 L',a∈j6 L\/H a=none
 frz:∀a∈jY L',a∈jY L\/a∈j6 L\/H a=none
section
variable {K:PySem.W.Frag}{H H1 H2 H':Hp}{L L1 L2' L' T:Ls}{x y:Sl}
theorem World.own_al(w:World K H L){a:Addr}(h:a∈j6 L):(∃xs,H a=some (.lst xs))\/(∃ φ,H a=some (.ext φ))\/∃ai,H a=some (.dK ai):=by
 obtain⟨x,hx,ha⟩:=mem_owned.mp h;exact(w.ok x hx).al a (Sl.own_as ha)
theorem World.own_some(w:World K H L){a:Addr}(h:a∈j6 L):H a≠none:=by
 obtain⟨x,hx,ha⟩:=mem_owned.mp h;exact(w.ok x hx).some (Sl.own_as ha)
theorem World.frz_some(w:World K H L){a:Addr}(h:a∈jY L):H a≠none:=by
 obtain⟨x,hx,ha⟩:=mem_frozen.mp h;exact(w.ok x hx).some (Sl.frz_as ha)
theorem Step.refl:Step H L H L:=⟨λ_ _ h _=>h,λ_ h=>.inl h,λ_ h=>.inl h⟩
theorem Step.trans(a:Step H L H1 L1)(b:Step H1 L1 H2 L2'):Step H L H2 L2' where
 keep:=λc ob h hn=>b.keep c ob (a.keep c ob h hn) λz=>(a.own c z).elim hn λe=>by rw[h]at e;cases e
 own:=λc hc=>by
  rcases b.own c hc with z|z
  ·exact a.own c z
  ·by_cases h:c∈j6 L
   ·exact .inl h
   ·refine .inr ?_;cases e:H c with
    |none=>rfl
    |some ob=>rw[a.keep c ob e h]at z;cases z
 frz:=λc hc=>by
  rcases b.frz c hc with z|z|z
  ·exact a.frz c z
  ·exact .inr (a.own c z)
  ·by_cases h:c∈j6 L
   ·exact .inr (.inl h)
   ·refine .inr (.inr ?_);cases e:H c with
    |none=>rfl
    |some ob=>rw[a.keep c ob e h]at z;cases z
theorem Step.kp(a:Step H L H' L')(w:World K H L){as:List Addr}(h:∀b∈as,b∉j6 L):Kp H H' as:=by
 have no:∀b ob,H b=some ob->(∀xs,ob≠.lst xs)->(∀ φ,ob≠.ext φ)->(∀ai,ob≠.dK ai)->H' b=some ob:=λb ob e h1 h2 h3=>a.keep b ob e λz=>by
  rcases w.own_al z with⟨xs,q⟩|⟨es,q⟩|⟨es,q⟩
  ·rw[e]at q;cases q;exact h1 _ rfl
  ·rw[e]at q;cases q;exact h2 _ rfl
  ·rw[e]at q;cases q;exact h3 _ rfl
 exact⟨λb xs e=>no b _ e (λ_ z=>(nomatch z)) (λ_ z=>(nomatch z)) (λ_ z=>(nomatch z)),λb o u e=>no b _ e (λ_ z=>(nomatch z)) (λ_ z=>(nomatch z)) (λ_ z=>(nomatch z)),λb hb ob e=>a.keep b ob e (h b hb)⟩
theorem Step.frame(a:Step H L H' L')(w:World K H (L++T))(w':World K H' L')(wL:World K H L):World K H' (L'++T):=by
 have nd:=w.nd;rw [jZ,X5]at nd;have dis:∀b∈j6 L,b∉j6 T:=λb hb hT=>nd.2.2 b hb b hT rfl
 have ik:∀x,some x∈T->x.ok K H:=λx hx=>w.ok x (lr9 _ hx)
 have nT:∀x,some x∈T->∀b∈x.as,b∉j6 L:=λx hx b hb hL=>by
  rcases Sl.as_of hb with z|z
  ·exact dis b hL (mem_owned.mpr ⟨x,hx,z⟩)
  ·refine w.ds b (by rw[jZ];exact ll9 _ hL) ?_;rw[kW];exact lr9 _ (mem_frozen.mpr ⟨x,hx,z⟩)
 refine⟨λx hx=>?_,?_,λb hb=>?_⟩
 ·rcases List.mem_append.mp hx with hx|hx
  ·exact w'.ok x hx
  ·exact(ik x hx).kp (a.kp wL (nT x hx))
 ·rw[jZ,X5];refine⟨w'.nd,nd.2.1,λb hb c hc e=>?_⟩;subst e;obtain⟨x,hx,fq⟩:=mem_owned.mp hc;rcases a.own b hb with z|z
  ·exact dis b z hc
  ·exact(ik x hx).some (Sl.own_as fq) z
 ·rw[jZ]at hb;rw[kW];intro hf;rcases List.mem_append.mp hb with hb|hb
  ·rcases List.mem_append.mp hf with hf|hf
   ·exact w'.ds b hb hf
   ·obtain⟨x,hx,fq⟩:=mem_frozen.mp hf;rcases a.own b hb with z|z
    ·exact nT x hx b (Sl.frz_as fq) z
    ·exact(ik x hx).some (Sl.frz_as fq) z
  ·rcases List.mem_append.mp hf with hf|hf
   ·obtain⟨x,hx,fq⟩:=mem_owned.mp hb;rcases a.frz b hf with z|z|z
    ·exact w.ds b (by rw[jZ];exact lr9 _ hb) (by rw[kW];exact ll9 _ z)
    ·exact dis b z hb
    ·exact(ik x hx).some (Sl.own_as fq) z
   ·exact w.ds b (by rw[jZ];exact lr9 _ hb) (by rw[kW];exact lr9 _ hf)
theorem World.left(w:World K H (L++T)):World K H L:=by
 have nd:=w.nd;rw[jZ,X5]at nd;exact⟨λx hx=>w.ok x (ll9 _ hx),nd.1,λa ha hf=>w.ds a (by rw[jZ];exact ll9 _ ha) (by rw[kW];exact ll9 _ hf)⟩
theorem World.right(w:World K H (L++T)):World K H T:=by
 have nd:=w.nd;rw[jZ,X5]at nd;exact⟨λx hx=>w.ok x (lr9 _ hx),nd.2.1,λa ha hf=>w.ds a (by rw[jZ];exact lr9 _ ha) (by rw[kW];exact lr9 _ hf)⟩
theorem World.comm(w:World K H (L++T)):World K H (T++L):=by
 refine⟨λx hx=>w.ok x ?_,?_,λa ha hf=>w.ds a ?_ ?_⟩
 ·rcases List.mem_append.mp hx with h|h
  ·exact lr9 _ h
  ·exact ll9 _ h
 ·have nd:=w.nd;rw[jZ,X5]at nd ⊢;exact⟨nd.2.1,nd.1,λa ha b hb e=>nd.2.2 b hb a ha e.symm⟩
 ·rw[jZ]at ha ⊢;rcases List.mem_append.mp ha with h|h
  ·exact lr9 _ h
  ·exact ll9 _ h
 ·rw[kW]at hf ⊢;rcases List.mem_append.mp hf with h|h
  ·exact lr9 _ h
  ·exact ll9 _ h
theorem World.tail{q:Option Sl}(w:World K H (q::L)):World K H L:=World.right (L:=[q]) w
theorem World.head(w:World K H (some x::L)):x.ok K H:=w.ok x X3
theorem World.apart(w:World K H (some x::L)):∀a∈x.as,a∉j6 L:=λa ha hL=>by
 rcases Sl.as_of ha with z|z
 ·have nd:=w.nd;rw[jk,X5]at nd;exact nd.2.2 a z a hL rfl
 ·exact w.ds a (by rw[jk];exact lr9 _ hL) (by rw[k8];exact ll9 _ z)
theorem World.cons(w:World K H L)(h:x.ok K H)(n:x.own.Nodup)(h1:∀a∈x.own,a∉j6 L)(h2:∀a∈x.own,a∉jY L)(h3:∀a∈x.frz,a∉j6 L)(h4:∀a∈x.own,a∉x.frz):World K H (some x::L):=by
 refine⟨λy hy=>?_,?_,λa ha hf=>?_⟩
 ·rcases List.mem_cons.mp hy with z|z
  ·cases z;exact h
  ·exact w.ok y z
 ·rw[jk,X5];exact⟨n,w.nd,λa ha b hb e=>by subst e;exact h1 a ha hb⟩
 ·rw[jk]at ha;rw[k8]at hf;rcases List.mem_append.mp ha with ha|ha
  ·rcases List.mem_append.mp hf with hf|hf
   ·exact h4 a ha hf
   ·exact h2 a ha hf
  ·rcases List.mem_append.mp hf with hf|hf
   ·exact h3 a hf ha
   ·exact w.ds a ha hf
theorem World.consNo(w:World K H L)(h:x.ok K H)(ho:x.o=.no)(h3:∀a∈x.as,a∉j6 L):World K H (some x::L):=by
 have e1:x.own=[]:=by unfold Sl.own;rw[ho]
 have e2:x.frz=x.as:=by unfold Sl.frz;rw[ho]
 exact w.cons h (by rw[e1];exact Y1) (by rw[e1];exact λ_ z=>nomatch z) (by rw[e1];exact λ_ z=>nomatch z) (by rw[e2];exact h3) (by rw[e1];exact λ_ z=>nomatch z)
theorem World.consPu(w:World K H L)(h:x.ok K H)(e:x.as=[]):World K H (some x::L):=by
 have e1:∀a,a∉x.own:=λa ha=>by have:=Sl.own_as ha;rw[e]at this;exact nomatch this
 have e2:∀a,a∉x.frz:=λa ha=>by have:=Sl.frz_as ha;rw[e]at this;exact nomatch this
 have e3:x.own=[]:=List.eq_nil_iff_forall_not_mem.mpr e1;exact w.cons h (by rw[e3];exact Y1) (λa z=>absurd z (e1 a)) (λa z=>absurd z (e1 a)) (λa z=>absurd z (e2 a)) (λa z=>absurd z (e1 a))
theorem jv0{L:Ls}{i:Nat}{q:Option Sl}(h:some y∈L.set i q):q=some y\/some y∈L:=by
 rcases List.mem_or_eq_of_mem_set h with z|z
 ·exact .inr z
 ·exact .inl z.symm
theorem Vq{i:Nat}{a:Addr}(h:a∈j6 (L.set i (some x))):a∈x.own\/a∈j6 L:=by
 obtain⟨y,hy,ha⟩:=mem_owned.mp h;rcases jv0 hy with z|z
 ·cases z;exact .inl ha
 ·exact .inr (mem_owned.mpr ⟨y,z,ha⟩)
theorem ZV{i:Nat}{a:Addr}(h:a∈jY (L.set i (some x))):a∈x.frz\/a∈jY L:=by
 obtain⟨y,hy,ha⟩:=mem_frozen.mp h;rcases jv0 hy with z|z
 ·cases z;exact .inl ha
 ·exact .inr (mem_frozen.mpr ⟨y,z,ha⟩)
theorem jqs:∀{L:Ls} {i:Nat},(x.own++j6 L).Nodup->(j6 (L.set i (some x))).Nodup
 |[],_,h=>by simp
 |q::L,0,h=>by
  rw[List.set_cons_zero,jk];have e:j6 (q::L)=q.elim [] Sl.own++j6 L:=by simp[j6]
  rw[e,X5]at h;obtain⟨h1,h2,h3⟩:=h;rw[X5]at h2 ⊢;exact⟨h1,h2.2.1,λa ha b hb=>h3 a ha b (lr9 _ hb)⟩
 |q::L,i+1,h=>by
  rw[List.set_cons_succ];have e:∀M:Ls,j6 (q::M)=q.elim [] Sl.own++j6 M:=λM=>by simp[j6]
  rw[e]at h ⊢;rw[X5]at h;obtain⟨h1,h2,h3⟩:=h;rw[X5]at h2;rw[X5];refine⟨h2.1,jqs (by rw[X5];exact⟨h1,h2.2.1,λa ha b hb=>h3 a ha b (lr9 _ hb)⟩),λa ha b hb e=>?_⟩;subst e;rcases Vq hb with z|z
  ·exact h3 a z a (ll9 _ ha) rfl
  ·exact h2.2.2 a ha a z rfl
theorem World.set{i:Nat}(w:World K H (some x::L)):World K H (L.set i (some x)):=by
 refine⟨λy hy=>?_,jqs (by have:=w.nd;rwa [jk]at this),λa ha hf=>?_⟩
 ·rcases jv0 hy with z|z
  ·cases z;exact w.head
  ·exact w.ok y (lc9 _ z)
 ·refine w.ds a ?_ ?_
  ·rw[jk];exact List.mem_append.mpr (Vq ha)
  ·rw[k8];exact List.mem_append.mpr (ZV hf)
theorem Step.set{i:Nat}:Step H (some x::L) H (L.set i (some x)) where
 keep:=λ_ _ h _=>h
 own:=λa ha=>.inl (by rw[jk];exact List.mem_append.mpr (Vq ha))
 frz:=λa ha=>.inl (by rw[k8];exact List.mem_append.mpr (ZV ha))
theorem Step.drop{q:Option Sl}:Step H (q::L) H L where
 keep:=λ_ _ h _=>h
 own:=λa ha=>.inl (by rw[show(q::L:Ls)=[q]++L from rfl,jZ];exact lr9 _ ha)
 frz:=λa ha=>.inl (by rw[show(q::L:Ls)=[q]++L from rfl,kW];exact lr9 _ ha)
theorem wQ{i:Nat}(h:L[i]?=some (some x)):some x∈L:=Yn h
theorem zX(x:Sl):x.let.own=[]/\x.let.frz=x.as/\x.let.as=x.as:=⟨rfl,rfl,rfl⟩
theorem kvg{i:Nat}{a:Addr}(h:a∈j6 (L.set i (some x.let))):a∈j6 L:=by
 rcases Vq h with z|z
 ·exact nomatch z
 ·exact z
theorem kwu:∀{L:Ls} {i:Nat},(j6 L).Nodup->(∀a∈j6 L,a∉jY L)->L[i]?=some (some x)->∀a∈x.as,a∉j6 (L.set i (some x.let))
 | [],_,_,_,h,_,_=>by simp at h
 | q::L,0,nd,ds,h,a,ha=>by
  have e:q=some x:=by simpa using h
  subst e;rw[List.set_cons_zero,jk];intro hm;have hm:a∈j6 L:=by simpa [zX]using hm
  rcases Sl.as_of ha with z|z
  ·rw[jk,X5]at nd;exact nd.2.2 a z a hm rfl
  ·exact ds a (by rw[jk];exact lr9 _ hm) (by rw[k8];exact ll9 _ z)
 | q::L,i+1,nd,ds,h,a,ha=>by
  have h:L[i]?=some (some x):=by simpa using h
  rw[List.set_cons_succ];have e:∀M:Ls,j6 (q::M)=q.elim [] Sl.own++j6 M:=λM=>by simp[j6]
  have f:jY (q::L)=q.elim [] Sl.frz++jY L:=by simp[jY]
  rw[e];intro hm;rw[e,X5]at nd;rcases List.mem_append.mp hm with hm|hm
  ·rcases Sl.as_of ha with z|z
   ·exact nd.2.2 a hm a (mem_owned.mpr ⟨x,wQ h,z⟩) rfl
   ·exact ds a (by rw[e];exact ll9 _ hm) (by rw[f];exact lr9 _ (mem_frozen.mpr ⟨x,wQ h,z⟩))
  ·exact kwu (L:=L) nd.2.1 (λb hb hf=>ds b (by rw[e];exact lr9 _ hb) (by rw[f];exact lr9 _ hf)) h a ha hm
theorem zq(h:x.ok K H):x.let.ok K H:=RepO.wk h
theorem World.let{i:Nat}(w:World K H L)(h:L[i]?=some (some x)):World K H (L.set i (some x.let)):=by
 have out:=kwu w.nd w.ds h;refine⟨λy hy=>?_,jqs (by rw[(zX x).1];exact w.nd),λa ha hf=>?_⟩
 ·rcases jv0 hy with z|z
  ·cases z;exact zq (w.ok x (wQ h))
  ·exact w.ok y z
 ·rcases ZV hf with z|z
  ·exact out a z ha
  ·exact w.ds a (kvg ha) z
theorem World.read{i:Nat}(w:World K H L)(h:L[i]?=some (some x)):World K H (some x.let::L.set i (some x.let)):=
 (w.let h).consNo (zq (w.ok x (wQ h))) rfl (kwu (x:=x) w.nd w.ds h)
theorem Step.read{i:Nat}(h:L[i]?=some (some x)):Step H L H (some x.let::L.set i (some x.let)) where
 keep:=λ_ _ h _=>h
 own:=λa ha=>.inl (by rw[jk,(zX x).1]at ha;exact kvg ha)
 frz:=λa ha=>by
  have hx:=wQ h;have q:∀a∈x.as,a∈jY L\/a∈j6 L\/H a=none:=λa ha=>by
   rcases Sl.as_of ha with z|z
   ·exact .inr (.inl (mem_owned.mpr ⟨x,hx,z⟩))
   ·exact .inl (mem_frozen.mpr ⟨x,hx,z⟩)
  rw[k8]at ha;rcases List.mem_append.mp ha with z|z
  ·exact q a z
  ·rcases ZV z with z|z
   ·exact q a z
   ·exact .inl z
end
inductive Mt:En->L2.St->Ls->Prop
 |nil:Mt [] [] []
 |un {E:En} {σ:L2.St} {L:Ls} {y:Option V}:Mt E σ L->Mt (none::E) (y :: σ) (none::L)
 |cons {E:En} {σ:L2.St} {L:Ls} {x:Sl}:Mt E σ L->Mt (some (x.o,x.d)::E) (some x.v :: σ) (some x::L)
theorem Mt.get:∀{E:En} {σ:L2.St} {L:Ls} {i:Nat} {o:Own} {d:D},Mt E σ L->E[i]?=some (some (o,d))->∃x,L[i]?=some (some x)/\x.o=o/\x.d=d/\σ[i]?=some (some x.v)
 |_,_,_,_,_,_,.nil,h=>by simp at h
 |_,_,_,0,_,_,.un _,h=>by simp at h
 |_,_,_,i+1,_,_,.un m,h=>by simpa using m.get (i:=i) (by simpa using h)
 |_,_,_,0,_,_,.cons (x:=x) m,h=>by
  simp only[List.getElem?_cons_zero,Option.some.injEq,Prod.mk.injEq]at h;exact⟨x,by simp,h.1,h.2,by simp⟩
 |_,_,_,i+1,_,_,.cons m,h=>by simpa using m.get (i:=i) (by simpa using h)
theorem Mt.set{x:Sl}:∀{E:En} {σ:L2.St} {L:Ls} (i:Nat),Mt E σ L->Mt (E.set i (some (x.o,x.d))) (σ.set i (some x.v)) (L.set i (some x))
 |_,_,_,_,.nil=>.nil
 |_,_,_,0,.un m=>.cons m
 |_,_,_,i+1,.un m=>.un (m.set i)
 |_,_,_,0,.cons m=>.cons m
 |_,_,_,i+1,.cons m=>.cons (m.set i)
theorem Mt.let{x:Sl}:∀{E:En} {σ:L2.St} {L:Ls} {i:Nat},Mt E σ L->L[i]?=some (some x)->Mt (E.set i (some (.no,x.d))) σ (L.set i (some x.let))
 |_,_,_,_,.nil,h=>by simp at h
 |_,_,_,0,.un m,h=>by simp at h
 |_,_,_,i+1,.un m,h=>.un (m.let (i:=i) (by simpa using h))
 |_,_,_,0,.cons (x:=y) m,h=>by
  have e:y=x:=by simpa using h
  subst e;exact .cons (x:=y.let) m
 |_,_,_,i+1,.cons m,h=>.cons (m.let (i:=i) (by simpa using h))
theorem Mt.len:∀{E:En} {σ:L2.St} {L:Ls},Mt E σ L->E.length=σ.length/\L.length=σ.length
 |_,_,_,.nil=>⟨rfl,rfl⟩
 |_,_,_,.un m=>by simp[m.len]
 |_,_,_,.cons m=>by simp[m.len]
def sls(L:Ls):List Sl:=L.filterMap id
theorem K9(L:Ls):j6 L=(sls L).flatMap Sl.own:=by
 induction L with
 |nil=>rfl
 |cons q L ih=>
  cases q with
  |none=>rw[kzz,ih];rfl
  |some x=>rw[jk,ih];rfl
theorem Kz(L:Ls):jY L=(sls L).flatMap Sl.frz:=by
 induction L with
 |nil=>rfl
 |cons q L ih=>
  cases q with
  |none=>rw[kwx,ih];rfl
  |some x=>rw[k8,ih];rfl
theorem mem_sls{L:Ls}{x:Sl}:x∈sls L↔some x∈L:=by simp[sls]
@[simp] theorem Q5 (L T:Ls):sls (L++T)=sls L++sls T:=by simp[sls]
@[simp] theorem qvm (L:Ls):sls (none::L)=sls L:=rfl
@[simp] theorem kxi (x:Sl)(L:Ls):sls (some x::L)=x::sls L:=rfl
@[simp] theorem vxo:sls []=[]:=rfl
@[simp] theorem vxp (T:List Sl):sls (T.map some)=T:=by simp[sls]
@[simp] theorem qz5 (k:Nat):sls (List.replicate k none)=[]:=by
 induction k with
 |zero=>rfl
 |succ k ih=>rw[List.replicate_succ,qvm,ih]
theorem jqn{α β:Type}(f:α->List β){l l':List α}(h:l.Sublist l'):(l.flatMap f).Sublist (l'.flatMap f):=by
 induction h with
 |slnil=>exact List.Sublist.refl _
 |cons a _ ih=>rw[List.flatMap_cons];exact List.Sublist.trans ih (List.sublist_append_right _ _)
 |cons_cons a _ ih=>rw[List.flatMap_cons,List.flatMap_cons];exact List.Sublist.append (List.Sublist.refl _) ih
section
variable {K:PySem.W.Frag}{H H':Hp}{L L' M M':Ls}
theorem World.same(w:World K H L)(p:(sls L).Perm (sls L')):World K H L':=by
 have po:(j6 L).Perm (j6 L'):=by rw[K9,K9];exact p.flatMap_right _
 have pf:(jY L).Perm (jY L'):=by rw[Kz,Kz];exact p.flatMap_right _
 exact⟨λx hx=>w.ok x (mem_sls.mp (p.mem_iff.mpr (mem_sls.mpr hx))),po.nodup_iff.mp w.nd,λa ha hf=>w.ds a (po.mem_iff.mpr ha) (pf.mem_iff.mpr hf)⟩
theorem Step.same(s:Step H L H' L')(p:(sls L).Perm (sls M))(p':(sls L').Perm (sls M')):Step H M H' M':=by
 have po:(j6 L).Perm (j6 M):=by rw[K9,K9];exact p.flatMap_right _
 have pf:(jY L).Perm (jY M):=by rw[Kz,Kz];exact p.flatMap_right _
 have po':(j6 L').Perm (j6 M'):=by rw[K9,K9];exact p'.flatMap_right _
 have pf':(jY L').Perm (jY M'):=by rw[Kz,Kz];exact p'.flatMap_right _
 exact⟨λa ob h hn=>s.keep a ob h λz=>hn (po.mem_iff.mp z),λa ha=>(s.own a (po'.mem_iff.mpr ha)).imp (λz=>po.mem_iff.mp z) id,
  λa ha=>(s.frz a (pf'.mem_iff.mpr ha)).imp (λz=>pf.mem_iff.mp z) λz=>z.imp (λz=>po.mem_iff.mp z) id⟩
theorem World.sub(w:World K H L)(p:(sls L').Sublist (sls L)):World K H L':=by
 refine⟨λx hx=>w.ok x (mem_sls.mp (p.subset (mem_sls.mpr hx))),?_,λa ha hf=>w.ds a ?_ ?_⟩
 ·have:=w.nd;rw[K9]at this ⊢;exact(jqn _ p).nodup this
 ·rw[K9]at ha ⊢;exact(jqn _ p).subset ha
 ·rw[Kz]at hf ⊢;exact(jqn _ p).subset hf
theorem Step.sub(s:Step H L H' L')(p:(sls M).Sublist (sls L')):Step H L H' M:=by
 refine⟨s.keep,λa ha=>s.own a ?_,λa ha=>s.frz a ?_⟩
 ·rw[K9]at ha ⊢;exact(jqn _ p).subset ha
 ·rw[Kz]at ha ⊢;exact(jqn _ p).subset ha
end
theorem jx3:∀{L:Ls} {j:Nat},(sls (at' L j::L.set j none)).Perm (sls L)
 | [],j=>by simp[at',sls]
 | q::L,0=>by
  cases q with
  |none=>simp[at',sls]
  |some x=>simp[at',sls]
 | q::L,j+1=>by
  have ih:=jx3 (L:=L) (j:=j);have e:at' (q::L) (j+1)=at' L j:=by simp[at']
  rw[e,List.set_cons_succ];have e2:∀(a b:Option Sl) (M:Ls),(sls (a::b::M)).Perm (sls (b::a::M)):=λa b M=>by
   cases a<;>cases b<;>simp[sls]
   exact List.Perm.swap ..
  refine(e2 _ _ _).trans ?_;cases q with
  |none=>simpa [sls]using ih
  |some y=>simpa [sls]using ih
theorem kzf:∀{R:List Nat} {L:Ls},R.Nodup->(sls (R.map (at' L)++clr R L)).Perm (sls L)
 | [],L,_=>by simp[clr]
 | j::R,L,h=>by
  rw[List.nodup_cons]at h;have e:R.map (at' L)=R.map (at' (L.set j none)):=by
   apply List.map_congr_left;intro i hi;have:j≠i:=λe=>h.1 (e▸hi)
   unfold at';rw[Xr this]
  rw[List.map_cons,List.cons_append,clr,e];have ih:=kzf (R:=R) (L:=L.set j none) h.2;refine List.Perm.trans ?_ (jx3 (L:=L) (j:=j));cases hq:at' L j with
  |none=>simpa [sls]using ih
  |some x=>simpa [sls]using ih
theorem qqz{α:Type}:∀{R:List Nat} {L:List (Option α)},(clr R L).length=L.length
 |[],_=>rfl
 |j::R,L=>by rw[clr,qqz,Yp]
theorem qv0{α:Type}:∀{R:List Nat} {L:List (Option α)} {j:Nat},j∈R->at' (clr R L) j=none
 | [],_,_,h=>by cases h
 | i :: R,L,j,h=>by
  rw [clr]
  by_cases hR:j∈R
  ·exact qv0 hR
  ·have e:j=i:=by simpa [hR]using h
   subst e;have gen:∀{R:List Nat} {M:List (Option α)},j∉R->at' (clr R M) j=at' M j:=by
    intro R
    induction R with
    |nil=>intro M _;rfl
    |cons r R ih=>
     intro M h;rw[Xh,not_or]at h;rw[clr,ih h.2];unfold at';rw[Xr (Ne.symm h.1)]
   rw[gen hR];unfold at'
   by_cases hl:j<L.length
   ·rw[Y0 hl];rfl
   ·rw[List.set_eq_of_length_le (by omega),Ym (by omega)];rfl
theorem kwb:∀{R:List Nat} {B L:Ls},R.Nodup->(∀j∈R,at' L j=none)->(∀j∈R,j<L.length)->B.length=R.length->(sls (back R B L)).Perm (sls (B++L))
 | [],B,L,_,_,_,hl=>by
  have:B=[]:=by simpa using hl
  subst this;simp [back]
 | j :: R,[],L,_,_,_,hl=>by simp at hl
 | j :: R,q::B,L,hn,hz,hr,hl=>by
  rw [List.nodup_cons]at hn;rw [back];have hj:=hr j X3;have ih:=kwb (R:=R) (B:=B) (L:=L.set j q) hn.2 (λi hi=>by
   have:j≠i:=λe=>hn.1 (e▸hi)
   unfold at';rw [Xr this];exact hz i (lc9 _ hi)) (λi hi=>by rw[Yp];exact hr i (lc9 _ hi)) (by simpa using hl)
  refine ih.trans ?_;have sp:∀{M:Ls} {i:Nat},at' M i=none->i<M.length->(sls (M.set i q)).Perm (sls (q::M)):=by
   intro M
   induction M with
   | nil=>intro i _ h;simp at h
   | cons r M ihM=>
    intro i h1 h2;cases i with
    | zero=>
     have:r=none:=by simpa [at']using h1
     subst this;cases q<;>simp[sls]
    | succ i=>
     have:=ihM (i:=i) (by simpa [at']using h1) (by simpa using h2);rw[List.set_cons_succ];cases r with
     | none=>cases q<;>simpa [sls]using this
     | some y=>
      cases q with
      |none=>simpa [sls]using this
      |some x=>
       simp only[kxi]at this ⊢;exact(this.cons y).trans (List.Perm.swap ..)
  rw[Q5,List.cons_append];have h1:=sp (hz j X3) hj;have h2:(sls B++sls (L.set j q)).Perm (sls B++sls (q::L)):=h1.append_left _;refine h2.trans ?_;cases q with
  |none=>simp
  |some x=>
   simp only[kxi,Q5];exact List.perm_middle
section
variable {K:PySem.W.Frag}{H H1 H2 H':Hp}{L L1 L' T:Ls}{x y:Sl}
theorem W8(p:L.Perm L'):(j6 L).Perm (j6 L'):=p.flatMap_right _
theorem jwz(p:L.Perm L'):(jY L).Perm (jY L'):=p.flatMap_right _
theorem World.perm(w:World K H L)(p:L.Perm L'):World K H L':=
 ⟨λx hx=>w.ok x (p.mem_iff.mpr hx),(W8 p).nodup_iff.mp w.nd,λa ha hf=>w.ds a ((W8 p).mem_iff.mpr ha) ((jwz p).mem_iff.mpr hf)⟩
theorem Step.perm(s : Step H L H' L'){M M' : Ls}(p : L.Perm M)(p' : L'.Perm M'): Step H M H' M':=
  ⟨λa ob h hn=>s.keep a ob h λz=>hn ((W8 p).mem_iff.mp z),
   λa ha=>(s.own a ((W8 p').mem_iff.mpr ha)).imp (λz=>(W8 p).mem_iff.mp z) id,
   λa ha=>(s.frz a ((jwz p').mem_iff.mpr ha)).imp (λz=>(jwz p).mem_iff.mp z) λz=>z.imp (λz=>(W8 p).mem_iff.mp z) id⟩
theorem Step.frm(s:Step H L H' L'):Step H (L++T) H' (L'++T) where
 keep:=λa ob h hn=>s.keep a ob h λz=>hn (by rw[jZ];exact ll9 _ z)
 own:=λa ha=>by
  rw[jZ]at ha ⊢;rcases List.mem_append.mp ha with z|z
  ·exact(s.own a z).imp (ll9 _) id
  ·exact .inl (lr9 _ z)
 frz:=λa ha=>by
  rw[kW]at ha ⊢;rw[jZ];rcases List.mem_append.mp ha with z|z
  ·exact(s.frz a z).imp (ll9 _) λz=>z.imp (ll9 _) id
  ·exact .inl (lr9 _ z)
theorem vxb(w:World K H (T++L))(s:Step H L H' L')(w':World K H' L'):World K H' (T++L')/\Step H (T++L) H' (T++L'):=by
 have w1:World K H (L++T):=w.comm;exact⟨(s.frame w1 w' w1.left).comm,s.frm.perm List.perm_append_comm List.perm_append_comm⟩
end
theorem ex8{α β γ:Type}{P:Prop}{a b c d e:α->β->γ->Prop}(h:∃x y z,a x y z/\b x y z/\c x y z/\d x y z/\e x y z)(f:∀x y z,a x y z->b x y z->c x y z->d x y z->e x y z->P):P:=
 h.elim λx h=>h.elim λy h=>h.elim λz h=>f x y z h.1 h.2.1 h.2.2.1 h.2.2.2.1 h.2.2.2.2
theorem ex7{α β γ:Type}{P:Prop}{a b c d:α->β->γ->Prop}(h:∃x y z,a x y z/\b x y z/\c x y z/\d x y z)(f:∀x y z,a x y z->b x y z->c x y z->d x y z->P):P:=
 h.elim λx h=>h.elim λy h=>h.elim λz h=>f x y z h.1 h.2.1 h.2.2.1 h.2.2.2
theorem kY{X:Cx}{e:Expr}{t t':TE}(h:PE X e t)(w:∀ σ H Q,t' σ H Q->t σ H Q):PE X e t':=λpins s σ H Q I q=>h pins s σ H Q I (w σ H Q q)
theorem kxp{X:Cx}{e:Expr}{t t':TT}(h:PT X e t)(w:∀ σ H Q,t' σ H Q->t σ H Q):PT X e t':=λpins s σ H Q I q=>h pins s σ H Q I (w σ H Q q)
theorem Jv{X:Cx}{e:Stmt}{t t':TS}(h:PS X e t)(w:∀D σ H,t' D σ H->t D σ H):PS X e t':=λpins s σ H D I q=>h pins s σ H D I (w D σ H q)
theorem qkm{X:Cx}{e:List Stmt}{t t':TS}(h:PSs X e t)(w:∀D σ H,t' D σ H->t D σ H):PSs X e t':=λpins s σ H D I q=>h pins s σ H D I (w D σ H q)
structure Fx0 where
 K:PySem.W.Frag
 mg:Str->Option Value
 EX:XK
noncomputable def Xc{α:Type}(Z:Fx0)(σ:L2.St)(H:Hp)(L:Ls)(r:Res α):Prop:=∀E' c,r=.exc E' c->∀C L' H',Z.mg c=some (.ref C)->Mt E' σ L'->World Z.K H' L'->Step H L H' L'->Z.EX (.ref C) none H'
theorem Xc.step{α:Type}{Z:Fx0}{σ:L2.St}{H H1:Hp}{L L1:Ls}{r:Res α}(x:Xc Z σ H L r)(s:Step H L H1 L1):Xc Z σ H1 L1 r:=λE' c e C L' H' hm m w s'=>x E' c e C L' H' hm m w (s.trans s')
theorem Xc.map{α β:Type}{Z:Fx0}{σ:L2.St}{H:Hp}{L:Ls}{r:Res α}{E':En}{c:Str}(x:Xc Z σ H L r)(e:r=.exc E' c):Xc Z σ H L (.exc E' c:Res β):=λE1 c1 e1=>by
 injection e1 with h1 h2;subst h1 h2;exact x _ _ e
noncomputable def tQ(Z:Fx0)(q:Bool)(c:Ex):TE:=fun σ H Q=>∃E L r,Mt E σ L/\World Z.K H L/\c E=some r/\Xc Z σ H L r /\
 ∀E' a,r=.ok E' a->∀(x:Sl) L' H',x.o=a.1->x.d=a.2->Mt E' σ L'->World Z.K H' (some x::L')->Step H L H' (some x::L')->(q=true->k4 H H'/\∀b∈x.own,H b=none)->Q x.v H'
def Src(H:Hp)(L:Ls)(as:List Addr):Prop:=∀b∈as,b∈jY L\/b∈j6 L\/H b=none
theorem Src.back{H H1:Hp}{L L1:Ls}{as:List Addr}(h:Src H1 L1 as)(s:Step H L H1 L1):Src H L as:=λb hb=>by
 rcases h b hb with z|z|z
 ·exact s.frz b z
 ·exact .inr (s.own b z)
 ·by_cases ho:b∈j6 L
  ·exact .inr (.inl ho)
  ·refine .inr (.inr ?_);cases e:H b with
   |none=>rfl
   |some ob=>rw[s.keep b ob e ho]at z;cases z
noncomputable def tV(Z:Fx0)(q:Bool)(c:Ex):TE:=fun σ H Q=>∃E L r,Mt E σ L/\World Z.K H L/\c E=some r/\Xc Z σ H L r /\
 ∀E' a,r=.ok E' a->∀(x:Sl) L' H',x.o=a.1->x.d=a.2->Mt E' σ L'->World Z.K H' L'->x.ok Z.K H'->(∀b∈x.frz,b∉j6 L')->Src H L x.as->Step H L H' L'->(q=true->k4 H H')->Q x.v H'
def QE(X:Cx)(Z:Fx0)(q:Bool)(c:Ex)(e:Expr):Prop:=PE X e (tQ Z q c)
def QV(X:Cx)(Z:Fx0)(q:Bool)(c:Ex)(e:Expr):Prop:=PE X e (tV Z q c)
section
variable {X:Cx}{Z:Fx0}{q qa qb:Bool}{a b c:Ex}{e ea eb:Expr}{pos:Pos}{α:Type}{σ:L2.St}{H:Hp}{L:Ls}{E:En}
theorem vk{β:Type}{m:Option (Res α)}{F:En->α->Option (Res β)}{r:Res β}(h:bnd m F=some r):(∃E1 x,m=some (.ok E1 x)/\F E1 x=some r)\/∃E1 c,m=some (.exc E1 c)/\r=.exc E1 c:=by
 cases m with
 |none=>cases h
 |some q=>
  cases q with
  |ok E1 x=>exact .inl ⟨E1,x,rfl,h⟩
  |exc E1 c=>exact .inr ⟨E1,c,rfl,(oq9 h).symm⟩
theorem QQ{F:En->Sd->Option (Res α)}{r:Res α}{G:VK}(m:Mt E σ L)(w:World Z.K H L)(h:bnd (a E) F=some r)(xc:Xc Z σ H L r)
  (k:∀E1 s,F E1 s=some r->∀(x:Sl) L1 H1,x.o=s.1->x.d=s.2->Mt E1 σ L1->World Z.K H1 (some x::L1)->Step H L H1 (some x::L1)->(q=true->k4 H H1/\∀b∈x.own,H b=none)->G x.v H1):tQ Z q a σ H G:=by
 rcases vk h with⟨E1,s,h1,h2⟩|⟨E1,c,h1,h2⟩
 ·exact⟨E,L,_,m,w,h1,(λ_ _ z=>by cases z),λE' s' z x L' H' e1 e2 m' w' st sm=>by
   injection z with z1 z2;subst z1 z2;exact k _ _ h2 x L' H' e1 e2 m' w' st sm⟩
 ·exact⟨E,L,_,m,w,h1,xc.map h2,λE' s' z=>by cases z⟩
theorem vz{F:En->Sd->Option (Res α)}{r:Res α}{G:VK}(m:Mt E σ L)(w:World Z.K H L)(h:bnd (a E) F=some r)(xc:Xc Z σ H L r)
  (k:∀E1 s,F E1 s=some r->∀(x:Sl) L1 H1,x.o=s.1->x.d=s.2->Mt E1 σ L1->World Z.K H1 L1->x.ok Z.K H1->(∀b∈x.frz,b∉j6 L1)->Src H L x.as->Step H L H1 L1->(q=true->k4 H H1)->G x.v H1):tV Z q a σ H G:=by
 rcases vk h with⟨E1,s,h1,h2⟩|⟨E1,c,h1,h2⟩
 ·exact⟨E,L,_,m,w,h1,(λ_ _ z=>by cases z),λE' s' z x L' H' e1 e2 m' w' ok fr sr st sm=>by
   injection z with z1 z2;subst z1 z2;exact k _ _ h2 x L' H' e1 e2 m' w' ok fr sr st sm⟩
 ·exact⟨E,L,_,m,w,h1,xc.map h2,λE' s' z=>by cases z⟩
theorem Qj{x:Sl}{K:PySem.W.Frag}{H1 H2:Hp}{L1 L2':Ls}(ok:x.ok K H1)(fr:∀b∈x.frz,b∉j6 L1)(st:Step H1 L1 H2 L2')(sm:k4 H1 H2):x.ok K H2/\∀b∈x.frz,b∉j6 L2':=
 ⟨RepO.kp ok (Kp.of_same sm),λb hb ho=>(st.own b ho).elim (fr b hb) λz=>ok.some (Sl.frz_as hb) z⟩
theorem wW{x:Option α}{r:Res α}(h:val E x=some r):∃y,x=some y/\r=.ok E y:=by
 cases x with
 |none=>cases h
 |some y=>exact⟨y,rfl,(oq9 h).symm⟩
theorem QE.weak(h:QE X Z true c e):QE X Z q c e:=kY h fun σ H Q ak=>ex8 ak λE L r m w hc xc k=>⟨E,L,r,m,w,hc,xc,λE' s z x L' H' e1 e2 m' w' st sm=>k E' s z x L' H' e1 e2 m' w' st λ_=>sm rfl⟩
theorem jzj{x:Sl}{H1:Hp}{L1:Ls}(st:Step H L H1 (some x::L1)):Src H L x.as:=λb hb=>by
 rcases Sl.as_of hb with z|z
 ·exact .inr (st.own b (by rw[jk];exact ll9 _ z))
 ·exact st.frz b (by rw[k8];exact ll9 _ z)
theorem j4(h:QE X Z q c e):QV X Z q (vE c) e:=kY h fun σ H Q ak=>ex8 ak λE L r m w hc xc k=>
 QQ m w hc xc λE1 s h1 x L1 H1 e1 e2 m1 w1 st sm=>by
  cases oq9 h1;exact k _ _ rfl x.let L1 H1 rfl e2 m1 w1.tail (zq w1.head) (λb hb=>w1.apart b hb) (jzj (x:=x) st) (st.trans Step.drop) λhq=>(sm hq).1
theorem K8{x:Sl}{H1:Hp}{L1:Ls}(st:Step H L H1 L1)(sr:Src H L x.as)(ho:x.own=[]):Step H L H1 (some x::L1) where
 keep:=st.keep
 own:=λb hb=>by rw[jk,ho]at hb;exact st.own b hb
 frz:=λb hb=>by
  rw[k8]at hb;rcases List.mem_append.mp hb with z|z
  ·exact sr b (Sl.frz_as z)
  ·exact st.frz b z
theorem qku{x:Sl}(h:x.o=.no):x.own=[]:=by unfold Sl.own;rw[h]
theorem ZQ{x:Sl}(h:x.o=.no):x.frz=x.as:=by unfold Sl.frz;rw[h]
theorem qzx{x:Sl}(h:x.as=[]):x.own=[]:=List.eq_nil_iff_forall_not_mem.mpr λa ha=>by have:=Sl.own_as ha;rw[h]at this;exact nomatch this
theorem k9(h:QV X Z q c e):QE X Z q (cH c) e:=kY h fun σ H Q ak=>ex8 ak λE L r m w hc xc k=>
 vz m w hc xc λE1 s h1 x L1 H1 e1 e2 m1 w1 ok fr sr st sm=>by
  by_cases ho:s.1=.no
  ·rw[Xf ho]at h1;cases oq9 h1;have eo:x.o=.no:=e1.trans ho;exact k _ _ rfl x L1 H1 eo e2 m1 (w1.consNo ok eo λb hb=>fr b (by rw[ZQ eo];exact hb)) (K8 st sr (qku eo)) λhq=>⟨sm hq,by rw[qku eo];exact λ_ z=>(nomatch z)⟩
  ·rw[Xm ho]at h1
   by_cases hp:s.2.pure=true
   ·rw[Xf hp]at h1;cases oq9 h1;obtain⟨z,rp⟩:=RepL.pu (g':=false) (RepO.wk ok) (by rw[e2];exact hp);exact k _ _ rfl ⟨.dp,x.d,x.v,[]⟩ L1 H1 rfl e2 m1 (w1.consPu rp rfl) (K8 (x:=⟨.dp,x.d,x.v,[]⟩) st (λb hb=>nomatch hb) rfl) λhq=>⟨sm hq,λ_ z=>(nomatch z)⟩
   ·rw[Xm hp]at h1;cases h1
theorem q_C{d:D}{v:V}(h:PE X e (tC v))(hr:∀H,RepL Z.K H false d v []):QE X Z true (cC d) e:=kY h fun σ H Q ak=>ex8 ak λE L r m w hc xc k=>by
 cases oq9 hc;exact k _ _ rfl ⟨.dp,d,v,[]⟩ L H rfl rfl m (w.consPu (hr H) rfl) (K8 (x:=⟨.dp,d,v,[]⟩) Step.refl (λb hb=>nomatch hb) rfl) λ_=>⟨λ_ _ z=>z,λ_ z=>(nomatch z)⟩
theorem q_V{i:Nat}(h:PE X e (Jj i)):QE X Z true (cV i) e:=kY h fun σ H Q ak=>ex8 ak λE L r m w hc xc k=>by
 unfold cV at hc
 split at hc
 ·rename_i o d hE;cases oq9 hc;obtain⟨x,h1,h2,h3,h4⟩:=m.get hE;refine⟨x.v,h4,k _ _ rfl x.let _ H rfl h3 ?_ (w.read h1) (Step.read h1) λ_=>⟨λ_ _ z=>z,λ_ z=>(nomatch z)⟩⟩;have:=m.let h1
  rwa [h3]at this
 ·cases hc
theorem Qq:∀{E:En} {σ:L2.St} {L:Ls} (j:Nat),Mt E σ L->Mt (E.set j none) σ (L.set j none):=by
 intro E σ L j m
 induction m generalizing j with
 |nil=>exact .nil
 |un m ih=>cases j with
  |zero=>exact .un m
  |succ j=>exact .un (ih j)
 |cons m ih=>cases j with
  |zero=>exact .un m
  |succ j=>exact .cons (ih j)
theorem Vw{x:Sl}:∀{L:Ls} {i:Nat},L[i]?=some (some x)->(none::L).Perm (some x::L.set i none)
 |[],_,h=>by simp at h
 |q::L,0,h=>by
  have e:q=some x:=by simpa using h
  subst e;exact List.Perm.swap ..
 |q::L,i+1,h=>by
  have:=Vw (L:=L) (i:=i) (by simpa using h);rw[List.set_cons_succ];exact(List.Perm.swap ..).trans ((this.cons q).trans (List.Perm.swap ..))
theorem q_mv{i:Nat}(h:PE X e (Jj i)):QE X Z false (cMv i) e:=kY h fun σ H Q ak=>ex8 ak λE L r m w hc xc k=>by
 unfold cMv at hc
 split at hc
 ·rename_i s hE;cases oq9 hc;obtain⟨o,d⟩:=s;obtain⟨x,h1,h2,h3,h4⟩:=m.get hE;have wn:World Z.K H (none::L):=⟨λy hy=>w.ok y (by simpa using hy),by simpa using w.nd,by simpa using w.ds⟩;have sn:Step H L H (none::L):=⟨λ_ _ z _=>z,λa z=>.inl (by simpa using z),λa z=>.inl (by simpa using z)⟩;exact⟨x.v,h4,k _ _ rfl x _ H h2 h3 (Qq i m) (wn.perm (Vw h1)) (sn.trans (Step.refl.perm (List.Perm.refl _) (Vw h1))) λz=>(nomatch z)⟩
 ·cases hc
theorem q_vV{i:Nat}(h:PE X e (Jj i)):QV X Z true (vV i) e:=kY h fun σ H Q ak=>ex8 ak λE L r m w hc xc k=>by
 unfold vV at hc
 split at hc
 ·rename_i s hE;cases oq9 hc;obtain⟨o,d⟩:=s;obtain⟨x,h1,h2,h3,h4⟩:=m.get hE;have hx:=wQ h1;refine⟨x.v,h4,k _ _ rfl x L H h2 h3 m w (w.ok x hx) (λb hb ho=>w.ds b ho (mem_frozen.mpr ⟨x,hx,hb⟩)) (λb hb=>?_) Step.refl λ_=>λ_ _ z=>z⟩;rcases Sl.as_of hb with z|z
  ·exact .inr (.inl (mem_owned.mpr ⟨x,hx,z⟩))
  ·exact .inl (mem_frozen.mpr ⟨x,hx,z⟩)
 ·cases hc
structure Out (K:PySem.W.Frag)(H H':Hp)(z:Sl)(fr:List Addr):Prop where
 same:k4 H H'
 ok:z.ok K H'
 new:∀b∈z.own,H b=none
 nd:z.own.Nodup
 fr:∀b∈z.frz,b∈fr
noncomputable def Ad1(K:PySem.W.Frag)(r:V->Hp->VK->Prop)(f:Sd->Option Sd):Prop:=∀(H:Hp) (x:Sl) (s:Sd) (Q:VK),x.ok K H->f (x.o,x.d)=some s->(∀(z:Sl) H',z.o=s.1->z.d=s.2->Out K H H' z x.frz->Q z.v H')->r x.v H Q
noncomputable def Ad2(K:PySem.W.Frag)(r:R2)(f:Sd->Sd->Option Sd):Prop:=∀(H:Hp) (x y:Sl) (s:Sd) (Q:VK),x.ok K H->y.ok K H->f (x.o,x.d) (y.o,y.d)=some s->(∀(z:Sl) H',z.o=s.1->z.d=s.2->Out K H H' z (x.frz++y.frz)->Q z.v H')->r x.v y.v H Q
theorem kq1{K:PySem.W.Frag}{H H':Hp}{d:D}{v:V}{fr:List Addr}(s:k4 H H')(r:RepL K H' false d v []):Out K H H' ⟨.dp,d,v,[]⟩ fr:=⟨s,r,λ_ h=>(nomatch h),Y1,λ_ h=>(nomatch h)⟩
theorem wX{H:Hp}:k4 H H:=λ_ _ z=>z
theorem kw{H H1 H2:Hp}(a:k4 H H1)(b:k4 H1 H2):k4 H H2:=λc ob h=>b c ob (a c ob h)
theorem Kj{z:Sl}{fr:List Addr}{H1 H2:Hp}{L1:Ls}(w:World Z.K H1 L1)(st:Step H L H1 L1)(o:Out Z.K H1 H2 z fr)(ap:∀b∈fr,b∉j6 L1)(al:∀b∈fr,H1 b≠none)(sr:Src H L fr):
  World Z.K H2 (some z::L1)/\Step H L H2 (some z::L1):=by
 have w2:World Z.K H2 L1:=⟨λx hx=>RepO.kp (w.ok x hx) (Kp.of_same o.same),w.nd,w.ds⟩;refine⟨w2.cons o.ok o.nd (λb hb ho=>w.own_some ho (o.new b hb)) (λb hb hf=>w.frz_some hf (o.new b hb)) (λb hb=>ap b (o.fr b hb)) (λb hb hf=>al b (o.fr b hf) (o.new b hb)),?_⟩;refine⟨λb ob h hn=>o.same b ob (st.keep b ob h hn),λb hb=>?_,λb hb=>?_⟩
 ·rw[jk]at hb;rcases List.mem_append.mp hb with z|z
  ·by_cases ho:b∈j6 L
   ·exact .inl ho
   ·refine .inr ?_;cases e:H b with
    |none=>rfl
    |some ob=>have:=o.new b z;rw[st.keep b ob e ho]at this;cases this
  ·exact st.own b z
 ·rw[k8]at hb;rcases List.mem_append.mp hb with z|z
  ·exact sr b (o.fr b z)
  ·exact st.frz b z
theorem Qv{as bs:List Addr}(h:Src H L as)(hb:∀b∈bs,b∈as):Src H L bs:=λb z=>h b (hb b z)
theorem qjx{as bs:List Addr}(h:Src H L as)(h':Src H L bs):Src H L (as++bs):=λb z=>(List.mem_append.mp z).elim (h b) (h' b)
theorem xx{H H1:Hp}{b:Addr}(s:k4 H H1)(h:H1 b=none):H b=none:=by
 cases e:H b with
 |none=>rfl
 |some ob=>rw[s b ob e]at h;cases h
theorem jzq{r:V->Hp->VK->Prop}{f:Sd->Option Sd}(ad:Ad1 Z.K r f){Q:VK}(h:tQ Z q (cF1 f a) σ H Q):tUn r (tV Z q a) σ H Q:=by
 obtain⟨E,L,R,m,w,hc,xc,k⟩:=h;refine vz m w hc xc λE1 s h1 x L1 H1 e1 e2 m1 w1 ok fr sr st sm=>?_
 obtain⟨z,hz,rfl⟩:=wW h1;refine ad H1 x z Q ok (by rw[e1,e2];exact hz) λy H' ho hd o=>?_
 obtain⟨w3,cw⟩:=Kj w1 st o fr (λb hb=>ok.some (Sl.frz_as hb)) (Qv sr λb hb=>Sl.frz_as hb);exact k _ _ rfl y L1 H' ho hd m1 w3 cw λhq=>⟨kw (sm hq) o.same,λb hb=>xx (sm hq) (o.new b hb)⟩
theorem kqo{r:R2}{f:Sd->Sd->Option Sd}(ad:Ad2 Z.K r f){Q:VK}(h:tQ Z qa (cF2 f a b) σ H Q):tOp r (tV Z qa a) (tV Z true b) σ H Q:=by
 obtain⟨E,L,R,m,w,hc,xc,k⟩:=h;refine vz m w hc xc λE1 s h1 x L1 H1 e1 e2 m1 w1 ok fr sr st sm=>?_
 refine vz m1 w1 h1 (xc.step st) λE2 s2 h2 y L2 H2 e3 e4 m2 w2 jf nk oj bm dl=>?_
 obtain⟨z,hz,rfl⟩:=wW h2;have kx:=Qj ok fr bm (dl rfl);refine ad H2 x y z Q kx.1 jf (by rw[e1,e2,e3,e4];exact hz) λy' H' ho hd o=>?_
 obtain⟨w3,cw⟩:=Kj w2 (st.trans bm) o (λb hb=>(List.mem_append.mp hb).elim (kx.2 b) (nk b)) (λb hb=>(List.mem_append.mp hb).elim (λz=>kx.1.some (Sl.frz_as z)) λz=>jf.some (Sl.frz_as z))
  (qjx (Qv sr λb hb=>Sl.frz_as hb) (Qv (oj.back st) λb hb=>Sl.frz_as hb))
 exact k _ _ rfl y' L2 H' ho hd m2 w3 cw λhq=>⟨kw (sm hq) (kw (dl rfl) o.same),λb hb=>xx (kw (sm hq) (dl rfl)) (o.new b hb)⟩
theorem vx{op:Operator}{r:R2}{f:Sd->Sd->Option Sd}(ho:OpR X (binaryOp op) r)(ad:Ad2 Z.K r f)(ha:QV X Z qa a ea)(hb:QV X Z true b eb):QE X Z qa (cF2 f a b) (.BinOp ea op eb pos):=
 kY (vz9 ho ha hb) fun σ H Q h=>kqo ad h
theorem KK{op:CmpOp}{r:R2}{f:Sd->Sd->Option Sd}(ho:OpR X (compareOp op) r)(ad:Ad2 Z.K r f)(ha:QV X Z qa a ea)(hb:QV X Z true b eb)(hm:behindInMarks op eb=false):QE X Z qa (cF2 f a b) (.Compare ea [op] [eb] pos):=
 kY (qzs ho ha hb hm) fun σ H Q h=>kqo ad h
theorem RepA.get{K:PySem.W.Frag}{H:Hp}{g:Bool}:∀{ds:List D} {xs:List V} {as:List Addr} {i:Nat} {d:D},RepA K H g ds xs as->ds[i]?=some d->∃v bs,xs[i]?=some v/\RepL K H g d v bs/\∀b∈bs,b∈as
 | [],_,_,_,_,_,e=>by simp at e
 | d::ds,_,_,i,d',h,e=>by
  unfold RepA at h;obtain⟨x,r,bs,cs,rfl,rfl,h1,h2⟩:=h;cases i with
  |zero=>
   have e:d=d':=by simpa using e
   subst e;exact⟨x,bs,by simp,h1,λb hb=>ll9 _ hb⟩
  |succ i=>
   obtain⟨v,cf,e1,e2,e3⟩:=RepA.get (i:=i) h2 (by simpa using e);exact⟨v,cf,by simpa using e1,e2,λb hb=>lr9 _ (e3 b hb)⟩
theorem RepA.len{K:PySem.W.Frag}{H:Hp}{g:Bool}:∀{ds:List D} {xs:List V} {as:List Addr},RepA K H g ds xs as->ds.length=xs.length
 |[],_,_,h=>by unfold RepA at h;rw[h.1];rfl
 |d::ds,_,_,h=>by
  unfold RepA at h;obtain⟨x,r,bs,cs,rfl,rfl,h1,h2⟩:=h;simp[RepA.len h2]
theorem items{K:PySem.W.Frag}{H:Hp}{x:Sl}{ds:List D}(ok:x.ok K H)(h:x.d=.lst ds\/x.d=.tup ds):∃a xs bs,x.v=.ref a/\((x.d=.lst ds/\LsR K H a xs)\/(x.d=.tup ds/\SqT K H a xs))/\RepA K H (x.o != .dp) ds xs bs/\(∀b∈bs,b∈x.as)/\(x.o≠.dp->∀b∈bs,b∈x.frz):=by
 obtain⟨o,d,v,as⟩:=x;dsimp only at h;rcases h with rfl|rfl
 ·cases o with
  |no=>
   have ok:RepL K H true (.lst ds) v as:=ok;unfold RepL at ok;obtain⟨a,xs,bs,rfl,r,q⟩:=ok;rcases q with⟨q,rfl⟩|⟨_,q,rfl⟩
   ·exact⟨a,xs,bs,rfl,.inl ⟨rfl,.inl (.inl q)⟩,r,λb hb=>lc9 _ hb,λ_ b hb=>lc9 _ hb⟩
   ·exact⟨a,xs,as,rfl,.inl ⟨rfl,.of q⟩,r,λb hb=>hb,λ_ b hb=>hb⟩
  |rt=>
   obtain⟨a,xs,bs,rfl,r,q,rfl⟩:=(show RepR K H (.lst ds) v as from ok);exact⟨a,xs,bs,rfl,.inl ⟨rfl,.inl (.inl q)⟩,r,λb hb=>lc9 _ hb,λ_ b hb=>by simpa [Sl.frz]using hb⟩
  |dp=>
   have ok:RepL K H false (.lst ds) v as:=ok;unfold RepL at ok;obtain⟨a,xs,bs,rfl,r,q⟩:=ok;rcases q with⟨q,rfl⟩|⟨z,_⟩
   ·exact⟨a,xs,bs,rfl,.inl ⟨rfl,.inl (.inl q)⟩,r,λb hb=>lc9 _ hb,λz=>absurd rfl z⟩
   ·cases z
 ·cases o with
  |no=>
   have ok:RepL K H true (.tup ds) v as:=ok;unfold RepL at ok;obtain⟨a,xs,rfl,q,r⟩:=ok;exact⟨a,xs,as,rfl,.inr ⟨rfl,q⟩,r,λb hb=>hb,λ_ b hb=>hb⟩
  |rt=>exact(show RepR K H (.tup ds) v as from ok).elim
  |dp=>
   have ok:RepL K H false (.tup ds) v as:=ok;unfold RepL at ok;obtain⟨a,xs,rfl,q,r⟩:=ok;exact⟨a,xs,as,rfl,.inr ⟨rfl,q⟩,r,λb hb=>hb,λz=>absurd rfl z⟩
theorem xK{K:PySem.W.Frag}{H:Hp}{x:Sl}{ds:List D}(ok:x.ok K H)(h:x.d=.lst ds\/x.d=.tup ds)(hl:qx (x.o,x.d)=true):∃a xs bs,x.v=.ref a/\((x.d=.lst ds/\LsR K H a xs)\/(x.d=.tup ds/\SqT K H a xs))/\RepA K H true ds xs bs/\(∀b∈bs,b∈x.frz):=by
 obtain⟨a,xs,bs,e,q,r,h1,h2⟩:=items ok h
 by_cases ho:x.o=.dp
 ·have hp:D.pures ds=true:=by
   unfold qx at hl;rw[show(x.o,x.d).1=Own.dp from ho]at hl;have:wjz x.d=ds:=by rcases h with h|h<;>rw[h]<;>rfl
   simpa [this]using hl
  obtain⟨rfl,r'⟩:=RepA.pu (g':=true) r hp;exact⟨a,xs,[],e,q,r',λ_ z=>nomatch z⟩
 ·have:(x.o != Own.dp)=true:=by simpa using ho
  rw[this]at r;exact⟨a,xs,bs,e,q,r,h2 ho⟩
end
section
variable {K:PySem.W.Frag}{H:Hp}{x y:Sl}
theorem vQ{i:Int}(ok:x.ok K H)(h:x.d=.int i):x.v=.int i:=by
 have:=RepO.wk ok;rw[h]at this;unfold RepL at this;exact this.1
theorem Q8{i:Bool}(ok:x.ok K H)(h:x.d=.bl i):x.v=.bl i:=by
 have:=RepO.wk ok;rw[h]at this;unfold RepL at this;exact this.1
theorem qxe(ok:x.ok K H)(h:x.d=.non):x.v=.non:=by
 have:=RepO.wk ok;rw[h]at this;unfold RepL at this;exact this.1
theorem xj{z:Str}(ok:x.ok K H)(h:x.d=.str z):x.v=.str z/\z.length<=sizeLine:=by
 have:=RepO.wk ok;rw[h]at this;unfold RepL at this;exact⟨this.1,this.2.2⟩
theorem zV{i:Int}{g:Bool}:RepL K H g (.int i) (.int i) []:=by unfold RepL;exact⟨rfl,rfl⟩
theorem qz{i:Bool}{g:Bool}:RepL K H g (.bl i) (.bl i) []:=by unfold RepL;exact⟨rfl,rfl⟩
theorem kwk{g:Bool}:RepL K H g .non .non []:=by unfold RepL;exact⟨rfl,rfl⟩
theorem Qk{z:Str}{g:Bool}(h:z.length<=sizeLine):RepL K H g (.str z) (.str z) []:=by unfold RepL;exact⟨rfl,rfl,h⟩
theorem Z5{i:Int}{fr:List Addr}:Out K H H ⟨.dp,.int i,.int i,[]⟩ fr:=kq1 wX zV
theorem wZ{i:Bool}{fr:List Addr}:Out K H H ⟨.dp,.bl i,.bl i,[]⟩ fr:=kq1 wX qz
theorem vzb{z:Str}{fr:List Addr}(h:z.length<=sizeLine):Out K H H ⟨.dp,.str z,.str z,[]⟩ fr:=kq1 wX (Qk h)
theorem vk1{C:Int->Int->Prop}{g:Int->Int->Int}{f:Int->Int->Option Int}(h:∀i j k,f i j=some k->C i j/\k=g i j):Ad2 K (rI C λi j=>.int (g i j)) (pu2 (i2 f)):=by
 intro H x y s Q ox oy hf k;unfold pu2 i2 at hf;dsimp only at hf
 split at hf
 ·rename_i i j e1 e2;cases hk:f i j with
  |none=>rw[hk]at hf;cases hf
  |some n=>
   rw[hk]at hf;cases oq9 hf;obtain⟨hc,rfl⟩:=h i j n hk;exact⟨i,j,vQ ox e1,vQ oy e2,hc,k ⟨.dp,.int (g i j),.int (g i j),[]⟩ H rfl rfl Z5⟩
 ·cases hf
theorem xJ{g:Int->Int->Bool}:Ad2 K (rI0 λi j=>.bl (g i j)) (pu2 (c2 g)):=by
 intro H x y s Q ox oy hf k;unfold pu2 c2 at hf;dsimp only at hf
 split at hf
 ·rename_i i j e1 e2;cases oq9 hf;exact⟨i,j,vQ ox e1,vQ oy e2,k ⟨.dp,.bl (g i j),.bl (g i j),[]⟩ H rfl rfl wZ⟩
 ·cases hf
theorem vY:Ad2 K (rI vx3 λi j=>.int (i / j)) (pu2 qv):=vk1 λi j k h=>by
 split at h
 ·rename_i c;exact⟨c,(oq9 h).symm⟩
 ·cases h
theorem vwv:Ad2 K (rI (λ_ j=>0<j) λi j=>.int (i % j)) (pu2 jJ):=vk1 λi j k h=>by
 split at h
 ·rename_i c;exact⟨c,(oq9 h).symm⟩
 ·cases h
theorem vwu:Ad2 K (rI wk7 λi j=>.int (i*2 ^ j.toNat)) (pu2 vzq):=vk1 λi j k h=>by
 split at h
 ·rename_i c;exact⟨c,(oq9 h).symm⟩
 ·cases h
end
noncomputable def vq7(K:PySem.W.Frag):R2:=λx y H Q=>∃l b xs zs,x=.ref l/\y=.ref b/\LsR K H l xs/\LsR K H b zs/\xs.length+zs.length<=sizeLine/\∀p,H p=none->Q (.ref p) (upd H p (.lst (xs++zs)))
theorem op_catL{X:Cx}:OpR X (binaryOp .Add) (vq7 X.K):=by
 intro pins s σ H x y v u Q I rx ry h;obtain⟨l,b,xs,zs,rfl,rfl,hH,hB,hz,q⟩:=h;cases rx;cases ry;obtain⟨z,aa,n,r,e⟩:=hH.is I;obtain⟨z2,cp,n2,r2,e2⟩:=hB.is I;have hl:=r.length;have gp:=r2.length;refine PySem.P.add_list e e2 ?_ (by rw[X7,X7];omega);have ea:aa.toArray++cp.toArray=(aa++cp).toArray:=by simp
 rw[ea];exact⟨.ref _,_,I.lnew (t':=s.toks) (r.append r2) (by rw[Y3];omega),rfl,q _ I.fresh⟩
def vq8(K:PySem.W.Frag):R2:=λx y H Q=>∃a b ys,x=.ref a/\y=.ref b/\SqT K H a []/\SqT K H b ys/\Q (.ref b) H
theorem op_catE{X:Cx}:OpR X (binaryOp .Add) (vq8 X.K):=by
 intro pins s σ H x y v u Q I rx ry h;obtain⟨a,b,ys,rfl,rfl,ha,hb,q⟩:=h;cases rx;cases ry;obtain⟨aa,r1,p1,_⟩:=I.tuple ha;obtain⟨cp,r2,p2,_⟩:=I.tuple hb;obtain⟨⟨cls,dd,data,sl⟩,ho,hc,n,hd⟩:=id p1;obtain⟨⟨cls2,dd2,data2,js⟩,i5,lh,n2,f9⟩:=id p2;simp only at hc hd lh f9;subst hc hd lh f9;have e:aa=[]:=r1.nil_iff.mpr rfl;subst e;exact concat_meets ⟨_,ho,rfl⟩ ⟨_,i5,rfl⟩ noFill_tuple_add seq_tuple_add PySem.F.slot_tuple_add PySem.F.entry_tuple_add (PySem.F.args_tuple_add_2 _ _)
   (tuple_addW0 a b [].toArray cp.toArray n n2 dd dd2 sl js (by simp)) ⟨ho,i5,⟨.ref b,H,I,rfl,q⟩⟩
noncomputable def vq9(K:PySem.W.Frag):R2:=λx y H Q=>rI0 (λi j=>.int (i+j)) x y H Q\/(∃i j,x=.str i/\y=.str j/\i.length+j.length<=sizeLine/\Q (.str (i++j)) H)\/vq7 K x y H Q\/vq8 K x y H Q\/vq6 K x y H Q
theorem vvd{X:Cx}{K:PySem.W.Frag}(hK:X.K=K):OpR X (binaryOp .Add) (vq9 K):=by subst hK;exact op_add.or (op_add_str.or (op_catL.or (op_catE.or vj0)))
theorem RepA.app{K:PySem.W.Frag}{H:Hp}{g:Bool}{ds':List D}{xs':List V}{cf:List Addr}(h':RepA K H g ds' xs' cf):∀{ds:List D} {xs:List V} {as:List Addr},RepA K H g ds xs as->RepA K H g (ds++ds') (xs++xs') (as++cf)
 |[],_,_,h=>by unfold RepA at h;rw[h.1,h.2];exact h'
 |d::ds,_,_,h=>by
  unfold RepA at h;obtain⟨x,r,bs,cs,rfl,rfl,h1,h2⟩:=h;rw[List.cons_append];unfold RepA;exact⟨x,r++xs',bs,cs++cf,rfl,by rw[Xs],h1,RepA.app h' h2⟩
theorem wv{H:Hp}{p:Addr}{o:HO}(h:H p=none):k4 H (upd H p o):=λb u q=>by rw[kX (zZ q h)];exact q
theorem Kk{K:PySem.W.Frag}{H:Hp}{p:Addr}{ds:List D}{xs:List V}{bs fr:List Addr}(hp:H p=none)(r:RepA K H true ds xs bs)(hb:∀b∈bs,b∈fr):Out K H (upd H p (.lst xs)) ⟨.rt,.lst ds,.ref p,p::bs⟩ fr:=by
 refine⟨wv hp,⟨p,xs,bs,rfl,r.kp (Kp.of_same (wv hp)),xX,rfl⟩,λb hb=>?_,?_,λb dm=>hb b (by simpa [Sl.frz]using dm)⟩
 ·have:b=p:=by simpa [Sl.own]using hb
  rw[this];exact hp
 ·simp[Sl.own]
theorem XY{K:PySem.W.Frag}{H:Hp}{p:Addr}{ds:List D}{xs:List V}{bs fr:List Addr}(hp:H p=none)(r:RepA K H true ds xs bs)(hb:∀b∈bs,b∈fr):Out K H (upd H p (.tup xs)) ⟨.no,.tup ds,.ref p,bs⟩ fr:=by
 refine⟨wv hp,?_,λb hb=>(nomatch hb),Y1,λb dm=>hb b dm⟩;show RepL K _ true (.tup ds) (.ref p) bs;unfold RepL;exact⟨p,xs,rfl,SqT.of xX,r.kp (Kp.of_same (wv hp))⟩
theorem vx0{K:PySem.W.Frag}:Ad2 K (vq9 K) jz:=by
 intro H x y s Q ox oy hf k;unfold jz at hf;dsimp only at hf
 split at hf
 ·rename_i i j e1 e2;cases oq9 hf;exact .inl ⟨i,j,vQ ox e1,vQ oy e2,k ⟨.dp,.int _,.int _,[]⟩ H rfl rfl Z5⟩
 ·rename_i i j e1 e2
  split at hf
  ·rename_i hl;cases oq9 hf;have hl':(i++j).length<=sizeLine:=by rw[strLen_append];exact hl
   exact .inr (.inl ⟨i,j,(xj ox e1).1,(xj oy e2).1,hl,k ⟨.dp,.str _,.str _,[]⟩ H rfl rfl (vzb hl')⟩)
  ·cases hf
 ·rename_i i j e1 e2
  split at hf
  ·rename_i hl;cases oq9 hf;obtain⟨a,xs,bs,e3,q3,r3,h3⟩:=xK ox (.inl e1) hl.2.1;obtain⟨b,ys,cs,e4,q4,r4,h4⟩:=xK oy (.inl e2) hl.2.2;have q3:LsR K H a xs:=by rcases q3 with⟨_,z⟩|⟨z,_⟩;exact z;rw[e1]at z;cases z
   have q4:LsR K H b ys:=by rcases q4 with⟨_,z⟩|⟨z,_⟩;exact z;rw[e2]at z;cases z
   refine .inr (.inr (.inl ⟨a,b,xs,ys,e3,e4,q3,q4,by rw[<-r3.len,<-r4.len];exact hl.1,λp hp=>?_⟩));exact k ⟨.rt,.lst (i++j),.ref p,p::(bs++cs)⟩ _ rfl rfl (Kk hp (r4.app r3) λb hb=>(List.mem_append.mp hb).elim (λz=>ll9 _ (h3 b z)) λz=>lr9 _ (h4 b z))
  ·cases hf
 ·rename_i i j e1 e2
  split at hf
  ·rename_i hl;cases oq9 hf;obtain⟨a,xs,bs,e3,q3,r3,h3⟩:=xK ox (.inr e1) hl.2.1;obtain⟨b,ys,cs,e4,q4,r4,h4⟩:=xK oy (.inr e2) hl.2.2;have q3:SqT K H a xs:=by rcases q3 with⟨z,_⟩|⟨_,z⟩;rw[e1]at z;cases z;exact z
   have q4:SqT K H b ys:=by rcases q4 with⟨z,_⟩|⟨_,z⟩;rw[e2]at z;cases z;exact z
   have ap:=r4.app r3;have n6:∀b∈bs++cs,b∈x.frz++y.frz:=λb hb=>(List.mem_append.mp hb).elim (λz=>ll9 _ (h3 b z)) λz=>lr9 _ (h4 b z)
   have same:∀c zs,zs=xs++ys->SqT K H c zs->Q (.ref c) H:=λc zs e hq=>by
    refine k ⟨.no,.tup (i++j),.ref c,bs++cs⟩ H rfl rfl ⟨wX,?_,λb hb=>(nomatch hb),Y1,n6⟩;show RepL K H true (.tup (i++j)) (.ref c) (bs++cs);unfold RepL;exact⟨c,zs,rfl,hq,by rw[e];exact ap⟩
   by_cases hx:xs=[]
   ·subst hx;exact .inr (.inr (.inr (.inl ⟨a,b,ys,e3,e4,q3,q4,same b ys rfl q4⟩)))
   ·refine .inr (.inr (.inr (.inr ⟨a,b,xs,ys,e3,e4,q3,q4,hx,by rw[<-r3.len,<-r4.len];exact hl.1,λhy=>?_,λhy p hp=>?_⟩)))
    ·exact same a xs (by rw[hy,Y9]) q3
    ·exact k ⟨.no,.tup (i++j),.ref p,bs++cs⟩ _ rfl rfl (XY hp ap n6)
  ·cases hf
 ·cases hf
noncomputable def tT(Z:Fx0)(q:Bool)(c:Ts):TT:=fun σ H Q=>∃E L r,Mt E σ L/\World Z.K H L/\c E=some r/\Xc Z σ H L r /\
 ∀E' k,r=.ok E' k->∀L' H',Mt E' σ L'->World Z.K H' L'->Step H L H' L'->(q=true->k4 H H')->Q k H'
def QT(X:Cx)(Z:Fx0)(q:Bool)(c:Ts)(e:Expr):Prop:=PT X e (tT Z q c)
def QW(X:Cx)(Z:Fx0)(q:Bool)(c:Ts)(e:Expr):Prop:=PW X e (tT Z q c)
section
variable {X:Cx}{Z:Fx0}{q qa qb:Bool}{a b c:Ex}{u v:Ts}{e ea eb:Expr}{es:List Expr}{pos:Pos}{α β:Type}{σ:L2.St}{H:Hp}{L:Ls}{E:En}
theorem qx7{e:Expr}{t t':TT}(h:PW X e t)(w:∀ σ H Q,t' σ H Q->t σ H Q):PW X e t':=λwh pins s σ H Q I q=>h wh pins s σ H Q I (w σ H Q q)
theorem qz0{F:En->Bool->Option (Res α)}{r:Res α}{G:Bool->Hp->Prop}(m:Mt E σ L)(w:World Z.K H L)(h:bnd (u E) F=some r)(xc:Xc Z σ H L r)
  (k:∀E1 s,F E1 s=some r->∀L1 H1,Mt E1 σ L1->World Z.K H1 L1->Step H L H1 L1->(q=true->k4 H H1)->G s H1):tT Z q u σ H G:=by
 rcases vk h with⟨E1,s,h1,h2⟩|⟨E1,c,h1,h2⟩
 ·exact⟨E,L,_,m,w,h1,(λ_ _ z=>by cases z),λE' s' z L' H' m' w' st sm=>by
   injection z with z1 z2;subst z1 z2;exact k _ _ h2 L' H' m' w' st sm⟩
 ·exact⟨E,L,_,m,w,h1,xc.map h2,λE' s' z=>by cases z⟩
theorem kwm(ha:QT X Z q u ea):QW X Z q u (.BoolOp .And [ea] pos):=qzf ha
theorem xk(ha:QT X Z q u ea):QW X Z q u (.BoolOp .Or [ea] pos):=vqj ha
theorem qkf(ha:QT X Z q u ea)(hb:QW X Z q v (.BoolOp .And (eb::es) pos)):QW X Z q (Q.tAnd u v) (.BoolOp .And (ea::eb::es) pos):=
 qx7 (vqk ha hb) fun σ H Q ak=>ex8 ak λE L r m w hc xc k=>qz0 m w hc xc λE1 s h1 L1 H1 m1 w1 st sm=>by
  cases s with
  |true=>
   rw[Xf rfl]at h1 ⊢;exact⟨E1,L1,r,m1,w1,h1,xc.step st,λE' k' z L' H' m' w' dq il=>k E' k' z L' H' m' w' (st.trans dq) λhq=>kw (sm hq) (il hq)⟩
  |false=>
   rw[Xm (by decide)]at h1 ⊢;cases oq9 h1;exact k _ _ rfl L1 H1 m1 w1 st sm
theorem vJ(ha:QT X Z q u ea)(hb:QW X Z q v (.BoolOp .Or (eb::es) pos)):QW X Z q (Q.tOr u v) (.BoolOp .Or (ea::eb::es) pos):=
 qx7 (vz5 ha hb) fun σ H Q ak=>ex8 ak λE L r m w hc xc k=>qz0 m w hc xc λE1 s h1 L1 H1 m1 w1 st sm=>by
  cases s with
  |false=>
   rw[Xm (by decide)]at h1 ⊢;exact⟨E1,L1,r,m1,w1,h1,xc.step st,λE' k' z L' H' m' w' dq il=>k E' k' z L' H' m' w' (st.trans dq) λhq=>kw (sm hq) (il hq)⟩
  |true=>
   rw[Xf rfl]at h1 ⊢;cases oq9 h1;exact k _ _ rfl L1 H1 m1 w1 st sm
theorem QW.pt(h:QW X Z q u e):QT X Z q u e:=PW.pt h
theorem qQ(ha:QT X Z q u ea):QT X Z q (Q.tNot u) (.UnaryOp .Not ea pos):=
 kxp (vql ha) fun σ H Q ak=>ex8 ak λE L r m w hc xc k=>qz0 m w hc xc λE1 s h1 L1 H1 m1 w1 st sm=>by
  cases oq9 h1;exact k _ _ rfl L1 H1 m1 w1 st sm
theorem qV{op:CmpOp}{r:R2}{f:Sd->Sd->Option Sd}(ho:OpR X (compareOp op) r)(ad:Ad2 Z.K r f)(ha:QV X Z qa a ea)(hb:QV X Z true b eb)(hm:behindInMarks op eb=false)(hf:∀x y s,f x y=some s->∃k,s.2=.bl k):QT X Z qa (Q.tE (cF2 f a b)) (.Compare ea [op] [eb] pos):=
 kxp (qzi ho ha hb hm) fun σ H Q ak=>ex8 ak λE L r m w hc xc k=>by
  refine kqo ad ?_;have mv:bnd (cF2 f a b E) (λE x=>val E (truth x.2))=some r:=hc;rcases vk mv with⟨E1,s,h1,h2⟩|⟨E1,c,h1,h2⟩
  ·refine⟨E,L,_,m,w,h1,(λ_ _ z=>by cases z),λE' s' z x L' H' e1 e2 m' w' st sm=>?_⟩;injection z with z1 z2;subst z1 z2;obtain⟨kk,hk⟩:∃k,s.2=.bl k:=by
    unfold cF2 at h1;rcases vk h1 with⟨E2,s2,h3,h4⟩|⟨_,_,_,z⟩
    ·rcases vk h4 with⟨E3,s3,h5,h6⟩|⟨_,_,_,z⟩
     ·obtain⟨y,hy,z⟩:=wW h6;cases z;exact hf _ _ _ hy
     ·cases z
    ·cases z
   rw[hk]at h2;cases oq9 h2;exact⟨kk,Q8 w'.head (e2.trans hk),k _ _ rfl L' H' m' w'.tail (st.trans Step.drop) λhq=>(sm hq).1⟩
  ·exact⟨E,L,_,m,w,h1,xc.map h2,λE' s' z=>by cases z⟩
end
def Pn(pn:List Nat)(σ σ':L2.St):Prop:=∀p∈pn,σ'[p]?=σ[p]?
theorem Pn.refl{pn:List Nat}{σ:L2.St}:Pn pn σ σ:=λ_ _=>rfl
theorem Pn.trans{pn:List Nat}{σ σ1 σ2:L2.St}(a:Pn pn σ σ1)(b:Pn pn σ1 σ2):Pn pn σ σ2:=λp hp=>(b p hp).trans (a p hp)
theorem Pn.set{pn:List Nat}{σ σ1:L2.St}{i:Nat}{y:Option V}(a:Pn pn σ σ1)(h:i∉pn):Pn pn σ (σ1.set i y):=λp hp=>by
 have:i≠p:=λe=>h (e▸hp)
 rw[Xr this];exact a p hp
noncomputable def FlP(Z:Fx0)(pn:List Nat)(D:Ends)(σ:L2.St)(H:Hp)(L:Ls):Fl->Prop
 |.nx E'=>∀ σ' L' H',Pn pn σ σ'->Mt E' σ' L'->World Z.K H' L'->Step H L H' L'->D.nx σ' H'
 |.ct E'=>∀ σ' L' H',Pn pn σ σ'->Mt E' σ' L'->World Z.K H' L'->Step H L H' L'->D.ct σ' H'
 |.bk E'=>∀ σ' L' H',Pn pn σ σ'->Mt E' σ' L'->World Z.K H' L'->Step H L H' L'->D.bk σ' H'
 |.rt E' a=>∀(x:Sl) σ' L' H',x.o=a.1->x.d=a.2->Pn pn σ σ'->Mt E' σ' L'->World Z.K H' (some x::L')->Step H L H' (some x::L')->D.rt x.v H'
 |.xc E' c=>∀C σ' L' H',Z.mg c=some (.ref C)->Pn pn σ σ'->Mt E' σ' L'->World Z.K H' L'->Step H L H' L'->Z.EX (.ref C) none H'
theorem FlP.step{Z:Fx0}{pn:List Nat}{D:Ends}{σ σ1:L2.St}{H H1:Hp}{L L1:Ls}{r:Fl}(k:FlP Z pn D σ H L r)(s:Step H L H1 L1)(p:Pn pn σ σ1):FlP Z pn D σ1 H1 L1 r:=by
 cases r with
 |nx E'=>exact fun σ' L' H' p' m w s'=>k σ' L' H' (p.trans p') m w (s.trans s')
 |ct E'=>exact fun σ' L' H' p' m w s'=>k σ' L' H' (p.trans p') m w (s.trans s')
 |bk E'=>exact fun σ' L' H' p' m w s'=>k σ' L' H' (p.trans p') m w (s.trans s')
 |rt E' a=>exact λx σ' L' H' e1 e2 p' m w s'=>k x σ' L' H' e1 e2 (p.trans p') m w (s.trans s')
 |xc E' c=>exact λC σ' L' H' hm p' m w s'=>k C σ' L' H' hm (p.trans p') m w (s.trans s')
theorem FlP.xc{α:Type}{Z:Fx0}{pn:List Nat}{D:Ends}{σ:L2.St}{H:Hp}{L:Ls}{E':En}{c:Str}(k:FlP Z pn D σ H L (.xc E' c)):Xc Z σ H L (.exc E' c:Res α):=λE1 c1 e C L' H' hm m w s=>by
 injection e with h1 h2;subst h1 h2;exact k C σ L' H' hm Pn.refl m w s
def tS(Z:Fx0)(pn:List Nat)(c:Sm):TS:=λD σ H=>∃E L r,Mt E σ L/\World Z.K H L/\c E=some r/\FlP Z pn D σ H L r
def QS(X:Cx)(Z:Fx0)(pn:List Nat)(c:Sm)(st:Stmt):Prop:=PS X st (tS Z pn c)
def QSs(X:Cx)(Z:Fx0)(pn:List Nat)(c:Sm)(st:List Stmt):Prop:=PSs X st (tS Z pn c)
section
variable {X:Cx}{Z:Fx0}{pn:List Nat}{q qa qb:Bool}{a b c:Ex}{u v:Ts}{A B:Sm}{e ea eb:Expr}{st:Stmt}{ss tt:List Stmt}{pos:Pos}{α:Type}{σ:L2.St}{H:Hp}{L:Ls}{E:En}{D:Ends}
theorem jx7{m:Option (Res α)}{F:En->α->Option Fl}{r:Fl}(h:ofE m F=some r):(∃E1 x,m=some (.ok E1 x)/\F E1 x=some r)\/∃E1 c,m=some (.exc E1 c)/\r=.xc E1 c:=by
 cases m with
 |none=>cases h
 |some q=>
  cases q with
  |ok E1 x=>exact .inl ⟨E1,x,rfl,h⟩
  |exc E1 c=>exact .inr ⟨E1,c,rfl,(oq9 h).symm⟩
theorem Wz{F:En->Sd->Option Fl}{r:Fl}{G:VK}(m:Mt E σ L)(w:World Z.K H L)(h:ofE (a E) F=some r)(k:FlP Z pn D σ H L r)
  (g:∀E1 s,F E1 s=some r->∀(x:Sl) L1 H1,x.o=s.1->x.d=s.2->Mt E1 σ L1->World Z.K H1 (some x::L1)->Step H L H1 (some x::L1)->(q=true->k4 H H1/\∀b∈x.own,H b=none)->G x.v H1):tQ Z q a σ H G:=by
 rcases jx7 h with⟨E1,s,h1,h2⟩|⟨E1,c,h1,rfl⟩
 ·exact⟨E,L,_,m,w,h1,(λ_ _ z=>by cases z),λE' s' z x L' H' e1 e2 m' w' st sm=>by
   injection z with z1 z2;subst z1 z2;exact g _ _ h2 x L' H' e1 e2 m' w' st sm⟩
 ·exact⟨E,L,_,m,w,h1,k.xc,λE' s' z=>by cases z⟩
theorem vks{F:En->Bool->Option Fl}{r:Fl}{G:Bool->Hp->Prop}(m:Mt E σ L)(w:World Z.K H L)(h:ofE (u E) F=some r)(k:FlP Z pn D σ H L r)
  (g:∀E1 s,F E1 s=some r->∀L1 H1,Mt E1 σ L1->World Z.K H1 L1->Step H L H1 L1->G s H1):tT Z q u σ H G:=by
 rcases jx7 h with⟨E1,s,h1,h2⟩|⟨E1,c,h1,rfl⟩
 ·exact⟨E,L,_,m,w,h1,(λ_ _ z=>by cases z),λE' s' z L' H' m' w' st sm=>by
   injection z with z1 z2;subst z1 z2;exact g _ _ h2 L' H' m' w' st⟩
 ·exact⟨E,L,_,m,w,h1,k.xc,λE' s' z=>by cases z⟩
theorem kZ:QSs X Z pn kz []:=qkm qzj λD σ H ak=>ex7 ak λE L r m w hc k=>by
 cases oq9 hc;exact k σ L H Pn.refl m w Step.refl
theorem jK(h1:QS X Z pn A st)(h2:QSs X Z pn B ss):QSs X Z pn (j7 A B) (st::ss):=qkm (qvx h1 h2) λD σ H ak=>ex7 ak λE L r m w hc k=>by
 unfold j7 at hc;cases ha:A E with
 |none=>rw[ha]at hc;cases hc
 |some f=>
  rw[ha]at hc;cases f with
  |nx E1=>exact⟨E,L,_,m,w,ha,fun σ' L' H' p m' w' s=>⟨E1,L',r,m',w',hc,k.step s p⟩⟩
  |ct E1=>cases oq9 hc;exact⟨E,L,_,m,w,ha,k⟩
  |bk E1=>cases oq9 hc;exact⟨E,L,_,m,w,ha,k⟩
  |rt E1 x=>cases oq9 hc;exact⟨E,L,_,m,w,ha,k⟩
  |xc E1 x=>cases oq9 hc;exact⟨E,L,_,m,w,ha,k⟩
theorem jv(h1:QS X Z pn A st):QSs X Z pn A [st]:=qkl h1
theorem jX(h:QE X Z q a ea):QS X Z pn (jq a) (.Return (some ea) pos):=Jv (vqn h) λD σ H ak=>ex7 ak λE L r m w hc k=>
 Wz m w hc k λE1 s h1 x L1 H1 e1 e2 m1 w1 st _=>by
  cases oq9 h1;exact k x σ L1 H1 e1 e2 Pn.refl m1 w1 st
theorem qx6(h:QE X Z q a ea)(hs:autoParam (swapsWith ea none pos.line X.env=pure false) Ŕ):QS X Z pn (Zz a) (.Expr ea pos):=Jv (Zj h hs) λD σ H ak=>ex7 ak λE L r m w hc k=>
 Wz m w hc k λE1 s h1 x L1 H1 e1 e2 m1 w1 st _=>by
  cases oq9 h1;exact k σ L1 H1 Pn.refl m1 w1.tail (st.trans Step.drop)
theorem qj(hc:QT X Z q u e)(ha:QSs X Z pn A ss)(hb:QSs X Z pn B tt):QS X Z pn (sIf u A B) (.If e ss tt pos):=Jv (vz6 hc ha hb) λD σ H ak=>ex7 ak λE L r m w hc k=>
 vks m w hc k λE1 s h1 L1 H1 m1 w1 st=>by
  cases s with
  |true=>rw[Xf rfl]at h1 ⊢;exact⟨E1,L1,r,m1,w1,h1,k.step st Pn.refl⟩
  |false=>rw[Xm (by decide)]at h1 ⊢;exact⟨E1,L1,r,m1,w1,h1,k.step st Pn.refl⟩
theorem V4{x:Sl}{i:Nat}{s:Sd}(m:Mt E σ L)(e1:x.o=s.1)(e2:x.d=s.2):Mt (E.set i (some s)) (σ.set i (some x.v)) (L.set i (some x)):=by
 have:=m.set (x:=x) i;rw[e1,e2]at this;exact this
theorem vz3{i:Nat}{y:Str}{ef:Pos}(hN:X.N.Nodup)(hi:X.N[i]?=some y)(hx:Loc X.env.scope y)(h:QE X Z q a ea)(hp:autoParam (i∉pn) ŕ)(hs:autoParam (swapsWith ea (some (.Name y ef)) pos.line X.env=pure false) Ŕ)(hf:autoParam (X.fn y=true\/X.env.scope.names.lookup y=some .local) Ř):
  QS X Z pn (jx i a) (.Assign [.Name y ef] ea pos):=Jv (vqm hN hi hx h hs hf) λD σ H ak=>ex7 ak λE L r m w hc k=>
 Wz m w hc k λE1 s h1 x L1 H1 e1 e2 m1 w1 st _=>by
  cases oq9 h1;exact k (σ.set i (some x.v)) (L1.set i (some x)) H1 (Pn.refl.set hp) (V4 m1 e1 e2) w1.set (st.trans Step.set)
end
structure Walks (K:PySem.W.Frag)(J:It)(T:List Sl)(ds:List D):Prop where
 no:∀t∈T,t.o=.no
 go:∀i H,(∀t∈T,t.ok K H)->i<ds.length->J.go i H
 stop:∀H,(∀t∈T,t.ok K H)->J.stop ds.length H
 yld:∀i H v H' d,(∀t∈T,t.ok K H)->J.yld i H v H'->ds[i]?=some d->∃z:Sl,z.o=.no/\z.d=d/\z.v=v/\k4 H H'/\z.ok K H'/\∀b∈z.as,∃t∈T,b∈t.as
noncomputable def tI(Z:Fx0)(q:Bool)(it:Ev (List D)):TI:=fun σ H R=>∃E L r,Mt E σ L/\World Z.K H L/\it E=some r/\Xc Z σ H L r /\
 ∀E' ds,r=.ok E' ds->∀J T L' H',Mt E' σ L'->World Z.K H' (L'++T.map some)->Step H L H' (L'++T.map some)->ds.length<=sizeLine->(q=true->k4 H H')->Walks Z.K J T ds->R J H'
def QI(X:Cx)(Z:Fx0)(q:Bool)(tg:Expr)(it:Ev (List D))(e:Expr):Prop:=PI X tg e (tI Z q it)
def wj8(K:PySem.W.Frag)(H0:Hp)(T:List Sl)(H:Hp):Prop:=(∀t∈T,t.ok K H)/\∀t∈T,Kp H0 H t.as
structure WalksD (K:PySem.W.Frag)(H0:Hp)(J:It)(T:List Sl)(ds:List D):Prop where
 no:∀t∈T,t.o=.no
 go:∀i H,wj8 K H0 T H->i<ds.length->J.go i H
 stop:∀H,wj8 K H0 T H->J.stop ds.length H
 yld:∀i H v H' d,wj8 K H0 T H->J.yld i H v H'->ds[i]?=some d->∃z:Sl,z.o=.no/\z.d=d/\z.v=v/\k4 H H'/\z.ok K H'/\∀b∈z.as,∃t∈T,b∈t.as
theorem Walks.D{K:PySem.W.Frag}{H0:Hp}{J:It}{T:List Sl}{ds:List D}(h:Walks K J T ds):WalksD K H0 J T ds:=⟨h.no,λi H o=>h.go i H o.1,λH o=>h.stop H o.1,λi H v H' d o=>h.yld i H v H' d o.1⟩
noncomputable def tID(Z:Fx0)(q:Bool)(it:Ev (List D)):TI:=fun σ H R=>∃E L r,Mt E σ L/\World Z.K H L/\it E=some r/\Xc Z σ H L r /\
 ∀E' ds,r=.ok E' ds->∀J T L' H',Mt E' σ L'->World Z.K H' (L'++T.map some)->Step H L H' (L'++T.map some)->ds.length<=sizeLine->(q=true->k4 H H')->WalksD Z.K H' J T ds->R J H'
def QID(X:Cx)(Z:Fx0)(q:Bool)(tg:Expr)(it:Ev (List D))(e:Expr):Prop:=PI X tg e (tID Z q it)
theorem QI.D{X:Cx}{Z:Fx0}{q:Bool}{tg:Expr}{it:Ev (List D)}{e:Expr}(h:QI X Z q tg it e):QID X Z q tg it e:=λpins s σ H R I hz=>h pins s σ H R I (by
 obtain⟨E,L,r,m,w,e,x,k⟩:=hz;exact⟨E,L,r,m,w,e,x,λE' ds z J T L' H' m' w' st hl sm wk=>k E' ds z J T L' H' m' w' st hl sm wk.D⟩)
structure WalksS (K:PySem.W.Frag)(q:Bool)(H0:Hp)(J:It)(T:List Sl)(ds:List D):Prop where
 no:∀t∈T,t.o=.no
 go:∀i H,(∀t∈T,t.ok K H)->(q=true->k4 H0 H)->i<ds.length->J.go i H
 stop:∀H,(∀t∈T,t.ok K H)->(q=true->k4 H0 H)->J.stop ds.length H
 yld:∀i H v H' d,(∀t∈T,t.ok K H)->(q=true->k4 H0 H)->J.yld i H v H'->ds[i]?=some d->∃z:Sl,z.o=.no/\z.d=d/\z.v=v/\k4 H H'/\z.ok K H'/\∀b∈z.as,∃t∈T,b∈t.as
theorem qxw{K:PySem.W.Frag}{q:Bool}{H0:Hp}{J:It}{T:List Sl}{ds:List D}(h:Walks K J T ds):WalksS K q H0 J T ds:=⟨h.no,λi H o _=>h.go i H o,λH o _=>h.stop H o,λi H v H' d o _=>h.yld i H v H' d o⟩
noncomputable def tIS(Z:Fx0)(q:Bool)(it:Ev (List D)):TI:=fun σ H R=>∃E L r,Mt E σ L/\World Z.K H L/\it E=some r/\Xc Z σ H L r /\
 ∀E' ds,r=.ok E' ds->∀J T L' H',Mt E' σ L'->World Z.K H' (L'++T.map some)->Step H L H' (L'++T.map some)->ds.length<=sizeLine->(q=true->k4 H H')->WalksS Z.K q H J T ds->R J H'
def QIS(X:Cx)(Z:Fx0)(q:Bool)(tg:Expr)(it:Ev (List D))(e:Expr):Prop:=PI X tg e (tIS Z q it)
theorem qi_S{X:Cx}{Z:Fx0}{q:Bool}{tg:Expr}{it:Ev (List D)}{e:Expr}(h:QI X Z q tg it e):QIS X Z q tg it e:=λpins s σ H R I hz=>h pins s σ H R I (by
 obtain⟨E,L,r,m,w,e,x,k⟩:=hz;exact⟨E,L,r,m,w,e,x,λE' ds z J T L' H' m' w' st hl sm wk=>k E' ds z J T L' H' m' w' st hl sm (qxw wk)⟩)
noncomputable def tG(Z:Fx0)(pn:List Nat)(tg:Tg):TG:=λv σ H Q=>∃(E:En) (L:Ls) (z:Sl) (E':En),Mt E σ L/\World Z.K H (some z::L)/\z.o=.no/\z.v=v/\tg.put z.d E=some E' /\
 ∀ σ' L',Pn pn σ σ'->Mt E' σ' L'->World Z.K H L'->Step H (some z::L) H L'->Q σ' H
def QG(X:Cx)(Z:Fx0)(pn:List Nat)(tg:Tg)(e:Expr):Prop:=PG X e (tG Z pn tg)
section
variable {X:Cx}{Z:Fx0}{pn:List Nat}{e:Expr}{σ:L2.St}{H:Hp}{L:Ls}{E:En}
theorem qx9{t t':TG}(h:PG X e t)(w:∀v σ H Q,t' v σ H Q->t v σ H Q):PG X e t':=λpins s σ H x v Q I r q=>h pins s σ H x v Q I r (w x σ H Q q)
theorem wjs{i:Nat}(h:PG X e (ZY i))(hp:autoParam (i∉pn) ŕ):QG X Z pn (.n i) e:=qx9 h λv σ H Q ⟨E,L,z,E',m,w,ho,hv,bc,k⟩=>by
 cases oq9 bc;rw[<-hv];exact k (σ.set i (some z.v)) (L.set i (some z)) (Pn.refl.set hp) (V4 m ho rfl) w.set Step.set
def gNs:List Nat->TGs
 |[]=>wk0
 |i::is=>vw8 (ZY i) (gNs is)
theorem qql{Q:L2.St->Hp->Prop}{M:Ls}{σ0:L2.St}:∀{is:List Nat} {ds:List D} {xs:List V} {bs:List Addr} {E:En} {L:Ls} {σ:L2.St} {E':En},Mt E σ L->World Z.K H L->RepA Z.K H true ds xs bs->(∀b∈bs,b∉j6 L)->(∀b∈bs,b∈jY M)->Step H M H L->Pn pn σ0 σ ->
  setAll is ds E=some E'->(∀i∈is,i∉pn)->(∀ σ' L',Pn pn σ0 σ'->Mt E' σ' L'->World Z.K H L'->Step H M H L'->Q σ' H)->gNs is xs σ H Q
 | [],[],xs,bs,E,L,σ,E',m,w,r,_,_,st,p,e,_,k=>by
  cases oq9 e;unfold RepA at r;exact⟨r.1,k σ L p m w st⟩
 | [],_::_,_,_,_,_,_,_,_,_,_,_,_,_,_,e,_,_=>by cases e
 | _::_,[],_,_,_,_,_,_,_,_,_,_,_,_,_,e,_,_=>by cases e
 | i::is,d::ds,xs,bs,E,L,σ,E',m,w,r,hb,hf,st,p,e,hi,k=>by
  unfold RepA at r;obtain⟨x,rr,cs,es,rfl,rfl,h1,h2⟩:=r;have w1:World Z.K H (some ⟨.no,d,x,cs⟩::L):=w.consNo (x:=⟨.no,d,x,cs⟩) h1 rfl λb dm=>hb b (ll9 _ dm)
  have s1:Step H M H (L.set i (some ⟨.no,d,x,cs⟩)):=by
   refine⟨λ_ _ h _=>h,λa ha=>?_,λa ha=>?_⟩
   ·rcases Vq ha with z|z
    ·exact nomatch z
    ·exact st.own a z
   ·rcases ZV ha with z|z
    ·exact .inl (hf a (ll9 _ z))
    ·exact st.frz a z
  exact⟨x,rr,rfl,qql (is:=is) (V4 (x:=⟨.no,d,x,cs⟩) (s:=(.no,d)) m rfl rfl) w1.set h2 (λb dm ho=>by
   rcases Vq ho with z|z
   ·exact nomatch z
   ·exact hb b (lr9 _ dm) z) (λb dm=>hf b (lr9 _ dm)) s1 (p.set (hi i X3)) e (λj hj=>hi j (lc9 _ hj)) k⟩
theorem kk7:∀{is:List Nat} {ds:List D} {E E':En},setAll is ds E=some E'->is.length=ds.length
 |[],[],_,_,_=>rfl
 |[],_::_,_,_,e=>by cases e
 |_::_,[],_,_,e=>by cases e
 |i::is,d::ds,E,E',e=>by rw[Xp,Xp,kk7 (E:=E.set i (some (.no,d))) e]
noncomputable def vxc(K:PySem.W.Frag)(n:Nat)(t:TGs):TG:=λv σ H Q=>∃a xs,v=.ref a/\(SqT K H a xs\/SqL K H a xs)/\xs.length=n/\t xs σ H Q
section
variable {prog:Program}{w:PySem.World}{A:Around}{E':Value->Shared->Prop}
theorem kw1{it t:Addr}{items:Array Value}(dw:t≠it):∀(n i:Nat) (s:Shared) (Q:List Value->Shared->Prop),s.heap.IsListIter it t i->s.heap.IsList t items->i+n<=items.size ->
  (∀h',h'.IsListIter it t (i+n)->Heap.SameBut it s.heap h'->Q ((items.toList.drop i).take n) { s with heap:=h' })->wpAny (model prog w) A (draw (.ref it) n) Q E' s
 | 0,i,s,Q,f8,_,_,hQ=>by
  show wpAny _ _ (pure []) Q E' s;exact X4 (by simpa using hQ s.heap f8 (Heap.SameBut.refl ..))
 | n+1,i,s,Q,f8,ht,em,hQ=>by
  have cz:i<items.size:=by omega
  show wpAny _ _ (pyNext (.ref it) >>= _) Q E' s;refine X0 (wpAny_pyNext_list_item f8 ht (x:=items[i]) (by simp[cz]) λh₁ mf ou=>?_);have ht₁:h₁.IsList t items:=by
   obtain⟨o,ho,r⟩:=ht;exact⟨o,(ou.2 t dw).trans ho,r⟩
  refine X0 (Yi (kw1 dw n (i+1) _ _ mf ht₁ (by omega) λh₂ hit₂ hs₂=>X4 ?_));have hd:items.toList.drop i=items[i]::items.toList.drop (i+1):=by simp[List.drop_eq_getElem_cons,cz]
  have:=hQ h₂ (by rw[show i+(n+1)=i+1+n by omega];exact hit₂) (ou.trans hs₂);rw[hd,List.take_succ_cons]at this;exact this
theorem jz4{s:Shared}{t:Addr}{items:Array Value}{Q:List Value->Shared->Prop}(hh:A.handled=none)(ht:s.heap.IsList t items)
  (hQ:∀h',Heap.ExtBut s.heap.objs.size s.heap h'->Q items.toList { s with heap:=h' }):wpAny (model prog w) A (unpackItems (.ref t) items.size none) Q E' s:=by
 have cz:t≠s.heap.objs.size:=by obtain⟨o,ho,_⟩:=ht;exact Xl (Xa ho)
 unfold unpackItems;refine X0 ?_;unfold notIterableAtAll;refine X0 (wpAny_specialOf ht.typeIs slot_list_iter.lookup ?_);refine X4 ?_;simp only[Bool.false_eq_true,if_false];refine X0 (Yi (Yu ht ?_));have ht0:∀o:Obj,(s.heap.push o).IsList t items:=λo=>by
  obtain⟨ob,ho,r⟩:=ht;exact⟨ob,X1 _ ho,r⟩
 refine X0 (Yi (kw1 cz items.size 0 _ _ ⟨_,X8 _ rfl,rfl,rfl⟩ (ht0 _) (by omega) λh₁ mf ou=>?_));have lr:List.take items.size (List.drop 0 items.toList)=items.toList:=by
  rw[List.drop_zero];exact List.take_of_length_le (by simp)
 rw[lr];rw[Xm (by simp)];have ht₁:h₁.IsList t items:=by
  obtain⟨o,ho,r⟩:=ht0 _;exact⟨o,(ou.2 t cz).trans ho,r⟩
 refine X0 (Yi (wpAny_pyNext_list_end hh mf ht₁ (by simp) λh₂ he₂=>?_));simp only[Option.isSome_none,Bool.false_eq_true,if_false];exact X4 (hQ h₂ λb o hb e=>he₂ b o hb (ou.extBut b o hb (X1 _ e)))
theorem jxx{s:Shared}{env:Env}{c8:List Expr}{x1}{pos:Pos}{t:Addr}{items:Array Value}{Q:Unit->Shared->Prop}(hh:A.handled=none)(ht:s.heap.IsList t items)
  (hn:(assignEach c8 env).length=items.size) (n8:(assignEach c8 env).findIdx? (·.1)=none)
  (h:∀h',Heap.ExtBut s.heap.objs.size s.heap h'->wpAny (model prog w) A (assignInOrder ((assignEach c8 env).map (·.2)) items.toList) Q E' { s with heap:=h' }):
  wpAny (model prog w) A (assign (.Tuple c8 x1 pos) env (.ref t)) Q E' s:=by
 rw[assign_Tuple];refine X0 (wpAny_standAt ?_);unfold unpack;rw[hn,n8];exact X0 (Yi (jz4 hh ht h))
end
theorem Z6(K:PySem.W.Frag){es:List Expr}{k:Nat}{t:TGs}{n:Nat}{pos:Pos}(h:PGs X es t)(hc:autoParam (X.calm=true) Ŕ)(hK:autoParam (X.K=K) Ŕ)
  (hn:autoParam ((assignEach es X.env).length=n) Ŕ) (bq:autoParam ((assignEach es X.env).findIdx? (·.1)=none) Ŕ):PG X (.Tuple es k pos) (vxc K n t):=by
 subst hK;intro pins s σ H v u Q I r hw;obtain⟨a,xs,e1,hq,hl,hw⟩:=hw;subst e1;cases r;rcases hq with hq|hq
 ·obtain⟨aa,rv,ht,hz⟩:=I.tuple hq;refine assign_Tuple_tuple (I.ok.hd hc) ht (by simp[hn,<-hl,rv.length]) bq λh' hx=>?_
  have I1:L2.Inv X pins σ H { s with heap:=h' }:=I.kept (t':=s.toks) λb o e=>hx b o (Xl (Xa e)) e
  exact h pins _ σ H xs _ Q I1 (by simpa using rv) hw
 ·obtain⟨aa,rv,ht,hz⟩:=I.list hq;refine jxx (I.ok.hd hc) ht.isList (by simp[hn,<-hl,rv.length]) bq λh' hx=>?_
  have I1:L2.Inv X pins σ H { s with heap:=h' }:=I.kept (t':=s.toks) λb o e=>hx b o (Xl (Xa e)) e
  exact h pins _ σ H xs _ Q I1 (by simpa using rv) hw
theorem vx9{is:List Nat}(h:PG X e (vxc Z.K is.length (gNs is)))(hp:autoParam (∀i∈is,i∉pn) ŕ):QG X Z pn (.t is) e:=qx9 h λv σ H Q ⟨E,L,z,E',m,w,ho,hv,bc,k⟩=>by
 have fin:∀ds:List D,(z.d=.lst ds\/z.d=.tup ds)->setAll is ds E=some E'->vxc Z.K is.length (gNs is) v σ H Q:=λds hd bc=>by
  obtain⟨a,xs,bs,e1,q1,r,h1,h2⟩:=items w.head hd;rw[ho]at r;refine⟨a,xs,hv.symm.trans e1,?_,by rw[kk7 bc,r.len],qql (M:=some z::L) m w.tail r (λb hb=>w.apart b (h1 b hb)) (λb hb=>?_) Step.drop Pn.refl bc hp k⟩
  ·rcases q1 with⟨_,z'⟩|⟨_,z'⟩
   ·exact .inr z'.sq
   ·exact .inl z'
  ·rw[k8,ZQ ho];exact ll9 _ (h1 b hb)
 cases hd:z.d with
 |tup ds=>rw[hd]at bc;exact fin ds (.inr hd) bc
 |lst ds=>rw[hd]at bc;exact fin ds (.inl hd) bc
 |_=>rw[hd]at bc;cases bc
end
section
variable {X:Cx}{Z:Fx0}{pn:List Nat}{q:Bool}{tg aw:Expr}{it:Ev (List D)}{t:Tg}{B:Sm}{ss:List Stmt}{pos:Pos}{σ:L2.St}{H:Hp}{L:Ls}{E:En}
theorem kkd{K:PySem.W.Frag}{T:List Sl}{H1 H2:Hp}{L1:Ls}{z:Sl}(w:World K H1 (L1++T.map some))(hT:∀t∈T,t.o=.no)(sm:k4 H1 H2)(ok:z.ok K H2)(ho:z.o=.no)(hz:∀b∈z.as,∃t∈T,b∈t.as):
  World K H2 ((some z::L1)++T.map some)/\Step H1 (L1++T.map some) H2 ((some z::L1)++T.map some):=by
 have w2:World K H2 (L1++T.map some):=⟨λx hx=>RepO.kp (w.ok x hx) (Kp.of_same sm),w.nd,w.ds⟩;have hf:∀b∈z.as,b∈jY (L1++T.map some):=λb hb=>by
  obtain⟨t,ht,hbt⟩:=hz b hb;rw[kW];exact lr9 _ (mem_frozen.mpr ⟨t,Xj ht,by rw[ZQ (hT t ht)];exact hbt⟩)
 refine⟨w2.consNo ok ho λb hb hL=>w2.ds b hL (hf b hb),λa ob h _=>sm a ob h,λa ha=>?_,λa ha=>?_⟩
 ·rw[List.cons_append,jk,qku ho]at ha;exact .inl ha
 ·rw[List.cons_append,k8,ZQ ho]at ha;rcases List.mem_append.mp ha with q|q
  ·exact .inl (hf a q)
  ·exact .inl q
theorem stay{K:PySem.W.Frag}{T L1 L2:Ls}{H1 H2:Hp}(w:World K H1 (L1++T))(s:Step H1 L1 H2 L2)(w2:World K H2 L2):World K H2 (L2++T)/\Step H1 (L1++T) H2 (L2++T):=⟨s.frame w w2 w.left,s.frm⟩
theorem Step.dropT{T:Ls}{H1:Hp}{L1:Ls}:Step H1 (L1++T) H1 L1:=⟨λ_ _ h _=>h,λa ha=>.inl (by rw[jZ];exact ll9 _ ha),λa ha=>.inl (by rw[kW];exact ll9 _ ha)⟩
theorem Kp.trans{H H1 H2:Hp}{as:List Addr}(a:Kp H H1 as)(b:Kp H1 H2 as):Kp H H2 as:=⟨λc xs e=>b.1 c xs (a.1 c xs e),λc o u e=>b.2.1 c o u (a.2.1 c o u e),λc hc ob e=>b.2.2 c hc ob (a.2.2 c hc ob e)⟩
theorem kxq{K:PySem.W.Frag}{H2 H3:Hp}{L2 L3:Ls}{T:List Sl}(w:World K H2 (L2++T.map some))(hT:∀t∈T,t.o=.no)(s:Step H2 L2 H3 L3){H0:Hp}(h:∀t∈T,Kp H0 H2 t.as):∀t∈T,Kp H0 H3 t.as:=λt ht=>
 (h t ht).trans (s.kp w.left λb hb z=>w.ds b (by rw[jZ];exact ll9 _ z) (by
  rw[kW];exact lr9 _ (mem_frozen.mpr ⟨t,Xj ht,by rw[ZQ (hT t ht)];exact hb⟩)))
theorem vqh(hp:PassesOwn (model X.prog X.w) X.A X.env X.xe)(hc:X.calm=true)(hi:QID X Z q tg it aw)(hg:QG X Z pn t tg)(hb:QSs X Z pn B ss)(hs:autoParam (∀x,foldedSetIterable aw X.env x=pure x) Ŗ):QS X Z pn (wq it t B) (.For tg aw ss [] pos):=Jv (qx8 hp hc hi hg hb hs) λD σ H ak=>ex7 ak λE L r m w hr k=>by
 have hr:ofE (it E) (λE ds=>J7 t B ds E)=some r:=hr;rcases jx7 hr with⟨E1,ds,h1,h2⟩|⟨E1,c,h1,rfl⟩
 rotate_left
 ·exact⟨E,L,_,m,w,h1,k.xc,λE' s' z=>by cases z⟩
 refine⟨E,L,_,m,w,h1,(λ_ _ z=>by cases z),λE' ds' z J T L' H' m' w' st hz _ wk=>?_⟩;injection z with z1 z2;subst z1 z2;have ik:∀{H2:Hp} {L2:Ls},World Z.K H2 (L2++T.map some)->∀t∈T,t.ok Z.K H2:=λw2 t ht=>w2.ok t (lr9 _ (Xj ht))
 refine⟨λi n σ1 H1=>∃E1 L1,Mt E1 σ1 L1/\World Z.K H1 (L1++T.map some)/\Step H L H1 (L1++T.map some)/\Pn pn σ σ1/\J7 t B (ds.drop i) E1=some r/\i<=ds.length/\n=ds.length - i/\∀t∈T,Kp H' H1 t.as,⟨_,E1,L',m',w',st,Pn.refl,h2,Z1 _,rfl,λ_ _=>Kp.of_same wX⟩,?_⟩;rintro i n σ1 H1 ⟨E1,L1,m1,w1,st1,p1,f1,hi,rfl,pins⟩
 by_cases cz:i<ds.length
 ·have hd:ds.drop i=ds[i]::ds.drop (i+1):=List.drop_eq_getElem_cons cz;rw [hd]at f1;unfold J7 at f1;cases bc:t.put ds[i] E1 with
  | none=>rw[bc]at f1;cases f1
  | some E2=>
   rw[bc]at f1;dsimp only at f1;refine .inr ⟨wk.go i H1 ⟨ik w1,pins⟩ cz,fun σ2 H2=>∃E2 L2,Mt E2 σ2 L2/\World Z.K H2 (L2++T.map some)/\Step H L H2 (L2++T.map some)/\Pn pn σ σ2/\J7 t B (ds.drop (i+1)) E2=some r/\∀t∈T,Kp H' H2 t.as,fun σ2 H2 ⟨E2,L2,a1,a2,a3,a4,a5,a6⟩=>⟨ds.length - (i+1),by omega,E2,L2,a1,a2,a3,a4,a5,cz,rfl,a6⟩,λv H2 hy=>?_⟩;obtain⟨z,zo,zd,zv,sm,n9,zas⟩:=wk.yld i H1 v H2 ds[i] ⟨ik w1,pins⟩ hy (X2 cz);obtain⟨wz,sz⟩:=kkd w1 wk.no sm n9 zo zas;refine⟨E1,L1,z,E2,m1,wz.left,zo,zv,by rw[zd];exact bc,fun σ2 L2 p2 m2 w2 bm=>?_⟩;obtain⟨w3,cw⟩:=stay wz bm w2;have iz:Step H L H2 (L2++T.map some):=st1.trans (sz.trans cw);have ko:∀t∈T,Kp H' H2 t.as:=λt ht=>(pins t ht).trans (Kp.of_same sm)
   cases hB:B E2 with
   | none=>rw[hB]at f1;cases f1
   | some g=>
    rw[hB]at f1;refine⟨E2,L2,g,m2,w2,hB,?_⟩;have fin:∀{g:Fl},g=r->(∀ σ',D.nx σ'=D.nx σ')->FlP Z pn D σ2 H2 (L2++T.map some) g:=λe _=>e▸k.step iz (p1.trans p2)
    cases g with
    |nx E3=>
     intro σ3 L3 H3 p3 m3 w4 s3;obtain⟨w5,s5⟩:=stay w3 s3 w4;exact⟨E3,L3,m3,w5,iz.trans s5,(p1.trans p2).trans p3,f1,kxq w3 wk.no s3 ko⟩
    |ct E3=>
     intro σ3 L3 H3 p3 m3 w4 s3;obtain⟨w5,s5⟩:=stay w3 s3 w4;exact⟨E3,L3,m3,w5,iz.trans s5,(p1.trans p2).trans p3,f1,kxq w3 wk.no s3 ko⟩
    |bk E3=>
     have e:=oq9 f1;subst e;intro σ3 L3 H3 p3 m3 w4 s3;exact k σ3 L3 H3 ((p1.trans p2).trans p3) m3 w4 ((iz.trans Step.dropT).trans s3)
    |rt E3 x=>
     have e:=oq9 f1;subst e;intro y σ3 L3 H3 e1 e2 p3 m3 w4 s3;exact k y σ3 L3 H3 e1 e2 ((p1.trans p2).trans p3) m3 w4 ((iz.trans Step.dropT).trans s3)
    |xc E3 c=>
     have e:=oq9 f1;subst e;intro C σ3 L3 H3 hm p3 m3 w4 s3;exact k C σ3 L3 H3 hm ((p1.trans p2).trans p3) m3 w4 ((iz.trans Step.dropT).trans s3)
 ·have e:i=ds.length:=by omega
  subst e;rw[List.drop_length]at f1;cases oq9 f1;exact .inl ⟨wk.stop H1 ⟨ik w1,pins⟩,k σ1 L1 H1 p1 m1 w1.left (st1.trans Step.dropT)⟩
theorem vz2(hp:PassesOwn (model X.prog X.w) X.A X.env X.xe)(hc:X.calm=true)(hi:QI X Z q tg it aw)(hg:QG X Z pn t tg)(hb:QSs X Z pn B ss)(hs:autoParam (∀x,foldedSetIterable aw X.env x=pure x) Ŗ):QS X Z pn (wq it t B) (.For tg aw ss [] pos):=vqh hp hc hi.D hg hb hs
end
mutual
noncomputable def jV(h:Heap):D->Value->Prop
 |.non,u=>u=.none
 |.bl b,u=>u=.bool b
 |.int i,u=>∃t,u=.int i t
 |.str z,u=>∃t,u=.str z t
 |.tup ds,u=>∃a us,u=.ref a/\h.IsTuple a us.toArray/\CReps h ds us
 |.lst ds,u=>∃a us,u=.ref a/\h.IsList a us.toArray/\CReps h ds us
 |.dct _,_=>False
 |.obj _ _,_=>False
noncomputable def CReps(h:Heap):List D->List Value->Prop
 |[],us=>us=[]
 |d::ds,us=>∃u r,us=u::r/\jV h d u/\CReps h ds r
end
theorem kz8{n:Nat}{k:List (D×D)}:D.flat n (.dct k)=false:=by cases n<;>simp[D.flat]
theorem kz7{n:Nat}{c:Str}{k:List (Str×D)}:D.flat n (.obj c k)=false:=by cases n<;>simp[D.flat]
section
variable {X:Cx}{pins:List (Addr×Obj)}{σ:L2.St}{H:Hp}{s:Shared}
mutual
theorem Vj(I:Inv X pins σ H s){g:Bool}:∀{n:Nat} {d:D} {v:V} {as:List Addr} {u:Value},RepL X.K H g d v as->d.flat n=true->RelV v u->jV s.heap d u
 | _,.non,_,_,_,h,_,r=>by
  unfold RepL at h;rw[h.1]at r;unfold jV;exact r
 | _,.bl _,_,_,_,h,_,r=>by
  unfold RepL at h;rw[h.1]at r;unfold jV;exact r
 | _,.int _,_,_,_,h,_,r=>by
  unfold RepL at h;rw[h.1]at r;unfold jV;exact r
 | _,.str _,_,_,_,h,_,r=>by
  unfold RepL at h;rw[h.1]at r;unfold jV;exact r
 | 0,.tup ds,_,_,_,h,f,r=>by unfold D.flat at f;cases f
 | n+1,.tup ds,_,_,_,h,f,r=>by
  unfold RepL at h;unfold D.flat at f;obtain⟨a,xs,rfl,q,ra⟩:=h;cases r;obtain⟨aa,rv,p,_⟩:=I.tuple q;unfold jV;exact⟨a,aa,rfl,p,creps_of I ra f rv⟩
 | 0,.lst ds,_,_,_,h,f,r=>by unfold D.flat at f;cases f
 | n+1,.lst ds,_,_,_,h,f,r=>by
  unfold RepL at h;unfold D.flat at f;obtain⟨a,xs,bs,rfl,ra,q⟩:=h;cases r;have q':SqL X.K H a xs:=by
   rcases q with⟨q,_⟩|⟨_,q,_⟩
   ·exact SqL.of q
   ·exact(LsR.of q).sq
  obtain⟨aa,rv,p,_⟩:=I.list q';unfold jV;exact⟨a,aa,rfl,p.isList,creps_of I ra f rv⟩
 |_,.dct _,_,_,_,h,f,r=>by rw[kz8]at f;cases f
 |_,.obj _ _,_,_,_,h,f,r=>by rw[kz7]at f;cases f
theorem creps_of(I:Inv X pins σ H s){g:Bool}:∀{n:Nat} {ds:List D} {xs:List V} {as:List Addr} {us:List Value},RepA X.K H g ds xs as->D.flats n ds=true->Vals xs us->CReps s.heap ds us
 | _,[],_,_,_,h,_,r=>by
  unfold RepA at h;rw[h.1]at r;cases r;unfold CReps;rfl
 | n,d::ds,_,_,_,h,f,r=>by
  unfold RepA at h;unfold D.flats at f;rw[Bool.and_eq_true]at f;obtain⟨x,rr,bs,cs,rfl,rfl,h1,h2⟩:=h;cases r with
  |cons r1 r2=>
   unfold CReps;exact⟨_,_,rfl,Vj I h1 f.1 r1,creps_of I h2 f.2 r2⟩
end
end
theorem CReps.len{h:Heap}:∀{ds:List D} {us:List Value},CReps h ds us->ds.length=us.length
 |[],_,r=>by unfold CReps at r;rw[r];rfl
 |d::ds,_,r=>by
  unfold CReps at r;obtain⟨u,rr,rfl,_,h2⟩:=r;simp[CReps.len h2]
theorem CReps.get{h:Heap}:∀{ds:List D} {us:List Value} {j:Nat} {d:D},CReps h ds us->ds[j]?=some d->∃u,us[j]?=some u/\jV h d u
 | [],_,_,_,_,e=>by simp at e
 | d::ds,_,j,d',r,e=>by
  unfold CReps at r;obtain⟨u,rr,rfl,h1,h2⟩:=r;cases j with
  |zero=>
   have e:d=d':=by simpa using e
   subst e;exact⟨u,by simp,h1⟩
  |succ j=>
   obtain⟨w,e1,e2⟩:=CReps.get (j:=j) h2 (by simpa using e);exact⟨w,by simpa using e1,e2⟩
theorem qxy{h:Heap}{a:Addr}{x y:Array Value}(p:h.IsTuple a x)(q:h.IsTuple a y):x=y:=by
 obtain⟨o,h1,_,n,h2⟩:=p;obtain⟨o',h3,_,n',h4⟩:=q;rw[h1]at h3;cases h3;rw[h2]at h4;injection h4
theorem vj8{h:Heap}{a:Addr}{x y:Array Value}(p:h.IsList a x)(q:h.IsList a y):x=y:=by
 obtain⟨o,h1,_,n,h2⟩:=p;obtain⟨o',h3,_,n',h4⟩:=q;rw[h1]at h3;cases h3;rw[h2]at h4;injection h4
theorem qq2{h:Heap}{a:Addr}{x y:Array Value}(p:h.IsList a x)(q:h.IsTuple a y):False:=by
 obtain⟨o,h1,h2,_⟩:=p;obtain⟨o',h3,h4,_⟩:=q;rw[h1]at h3;cases h3;rw[h2]at h4;exact absurd (Value.type.inj h4) (by decide)
mutual
theorem kqj{h:Heap}:∀{d d':D} {u:Value},jV h d u->jV h d' u->d=d'
 | .non,d',u,a,b=>by
  unfold jV at a;subst a;cases d'<;>unfold jV at b<;>first|rfl|exact b.elim|(cases b;done)|(obtain⟨_,b⟩:=b;cases b;done)|(obtain⟨_,_,b,_⟩:=b;cases b)
 | .bl k,d',u,a,b=>by
  unfold jV at a;subst a;cases d'<;>unfold jV at b<;>first|exact b.elim|(cases b;rfl)|(cases b;done)|(obtain⟨_,b⟩:=b;cases b;done)|(obtain⟨_,_,b,_⟩:=b;cases b)
 | .int k,d',u,a,b=>by
  unfold jV at a;obtain⟨t,rfl⟩:=a;cases d'<;>unfold jV at b<;>first|exact b.elim|(cases b;done)|(obtain⟨_,b⟩:=b;cases b;rfl)|(obtain⟨_,b⟩:=b;cases b;done)|(obtain⟨_,_,b,_⟩:=b;cases b)
 | .str k,d',u,a,b=>by
  unfold jV at a;obtain⟨t,rfl⟩:=a;cases d'<;>unfold jV at b<;>first|exact b.elim|(cases b;done)|(obtain⟨_,b⟩:=b;cases b;rfl)|(obtain⟨_,b⟩:=b;cases b;done)|(obtain⟨_,_,b,_⟩:=b;cases b)
 | .tup ds,d',u,a,b=>by
  unfold jV at a;obtain⟨x,us,rfl,p,r⟩:=a;cases d' with
  |tup es=>
   unfold jV at b;obtain⟨y,ws,e,p',r'⟩:=b;cases e;have e2:us=ws:=by simpa using qxy p p'
   subst e2;rw[creps_inj r r']
  |lst es=>
   unfold jV at b;obtain⟨y,ws,e,p',r'⟩:=b;cases e;exact(qq2 p' p).elim
  |non=>unfold jV at b;cases b
  |bl k=>unfold jV at b;cases b
  |int k=>unfold jV at b;obtain⟨_,b⟩:=b;cases b
  |str k=>unfold jV at b;obtain⟨_,b⟩:=b;cases b
  |dct k=>unfold jV at b;exact b.elim
  |obj k l=>unfold jV at b;exact b.elim
 | .lst ds,d',u,a,b=>by
  unfold jV at a;obtain⟨x,us,rfl,p,r⟩:=a;cases d' with
  |lst es=>
   unfold jV at b;obtain⟨y,ws,e,p',r'⟩:=b;cases e;have e2:us=ws:=by simpa using vj8 p p'
   subst e2;rw[creps_inj r r']
  |tup es=>
   unfold jV at b;obtain⟨y,ws,e,p',r'⟩:=b;cases e;exact(qq2 p p').elim
  |non=>unfold jV at b;cases b
  |bl k=>unfold jV at b;cases b
  |int k=>unfold jV at b;obtain⟨_,b⟩:=b;cases b
  |str k=>unfold jV at b;obtain⟨_,b⟩:=b;cases b
  |dct k=>unfold jV at b;exact b.elim
  |obj k l=>unfold jV at b;exact b.elim
 |.dct k,_,_,a,_=>by unfold jV at a;exact a.elim
 |.obj k l,_,_,a,_=>by unfold jV at a;exact a.elim
theorem creps_inj{h:Heap}:∀{ds ds':List D} {us:List Value},CReps h ds us->CReps h ds' us->ds=ds'
 | [],ds',us,a,b=>by
  unfold CReps at a;subst a;cases ds' with
  |nil=>rfl
  |cons d ds=>unfold CReps at b;obtain⟨_,_,e,_⟩:=b;cases e
 | d::ds,ds',us,a,b=>by
  unfold CReps at a;obtain⟨u,r,rfl,h1,h2⟩:=a;cases ds' with
  |nil=>unfold CReps at b;cases b
  |cons d' ds'=>
   unfold CReps at b;obtain⟨u',r',e,h3,h4⟩:=b;cases e;rw[kqj h1 h3,creps_inj h2 h4]
end
mutual
theorem VX:∀{n:Nat} {d:D},d.flat n=true->peq d d=true
 |_,.non,_=>by unfold peq;rfl
 |_,.bl b,_=>by unfold peq;simp
 |_,.int b,_=>by unfold peq;simp
 |_,.str b,_=>by unfold peq;simp
 |0,.tup ds,f=>by unfold D.flat at f;cases f
 |n+1,.tup ds,f=>by unfold peq;unfold D.flat at f;exact peqs_refl f
 |0,.lst ds,f=>by unfold D.flat at f;cases f
 |n+1,.lst ds,f=>by unfold peq;unfold D.flat at f;exact peqs_refl f
 |_,.dct _,f=>by rw[kz8]at f;cases f
 |_,.obj _ _,f=>by rw[kz7]at f;cases f
theorem peqs_refl:∀{n:Nat} {d:List D},D.flats n d=true->peqs d d=true
 |_,[],_=>by unfold peqs;rfl
 |n,d::ds,f=>by
  unfold D.flats at f;rw[Bool.and_eq_true]at f;unfold peqs;rw[VX f.1,peqs_refl f.2];rfl
end
theorem jxa : ∀{n : Nat} {ds : List D} {j : Nat} {d : D}, D.flats n ds = true -> ds[j]? = some d -> d.flat n = true
  | _, [], _, _, _, e=>by simp at e
  | n, d::ds, j, d', f, e=>by
    unfold D.flats at f;rw[Bool.and_eq_true]at f;cases j with
    | zero => have e : d = d':= by simpa using e
              subst e; exact f.1
    |succ j=>exact jxa (j:= j) f.2 (by simpa using e)
def pAt(as bs:List D)(j:Nat):Bool:=match as[j]?,bs[j]? with
 |some a,some b=>peq a b
 |_,_=>true
theorem jwe:∀(as bs:List D),as.length=bs.length->(List.range as.length).all (pAt as bs)=peqs as bs
 |[],[],_=>by unfold peqs;rfl
 |a::as,b::bs,h=>by
  have ih:=jwe as bs (by simpa using h);rw[Xp,List.range_succ_eq_map,List.all_cons,List.all_map];unfold peqs;rw[<-ih];rfl
 |[],_::_,h=>by simp at h
 |_::_,[],h=>by simp at h
theorem jzl:∀(as bs:List D),as.length≠bs.length->peqs as bs=false
 |[],[],h=>by simp at h
 |a::as,b::bs,h=>by
  unfold peqs;rw[jzl as bs (by simpa using h),Bool.and_false]
 |[],_::_,_=>by unfold peqs;rfl
 |_::_,[],_=>by unfold peqs;rfl
theorem kxa(as bs:List D):((List.range (min as.length bs.length)).all (pAt as bs)&&as.length==bs.length)=peqs as bs:=by
 by_cases e:as.length=bs.length
 ·rw[<-e,Nat.min_self,jwe as bs e];simp[e]
 ·rw[jzl as bs e];have:(as.length==bs.length)=false:=by simpa using e
  rw[this,Bool.and_false]
section
variable {s:Shared}
theorem kwq{as bs:List D}{us ws:List Value}{A:Around}(ra:CReps s.heap as us)(rb:CReps s.heap bs ws)
  (h:∀(j:Nat) (d d':D) (u w:Value),as[j]?=some d->bs[j]?=some d'->jV s.heap d u->jV s.heap d' w->SeqAt.EqAt A s u w (peq d d')):
  ∀j (h1:j<us.toArray.size) (h2:j<ws.toArray.size),SeqAt.EqAt A s us.toArray[j] ws.toArray[j] (pAt as bs j):=λj h1 h2=>by
 have l1:=ra.len;have l2:=rb.len;simp only[X7]at h1 h2;have ha:j<as.length:=by omega
 have hb:j<bs.length:=by omega
 obtain⟨u,eu,ru⟩:=ra.get (X2 ha);obtain⟨w,ew,nv⟩:=rb.get (X2 hb);have e1:us.toArray[j]=u:=by
  obtain⟨_,q⟩:=List.getElem?_eq_some_iff.mp eu
  simpa using q
 have e2:ws.toArray[j]=w:=by
  obtain⟨_,q⟩:=List.getElem?_eq_some_iff.mp ew
  simpa using q
 have e3:pAt as bs j=peq as[j] bs[j]:=by
  unfold pAt;rw[X2 ha,X2 hb]
 rw[e1,e2,e3];exact h j _ _ u w (X2 ha) (X2 hb) ru nv
inductive Cv (h:Heap):D->Value->Prop
 |non:Cv h .non .none
 |bl (b:Bool):Cv h (.bl b) (.bool b)
 |int (i:Int) (t:_):Cv h (.int i) (.int i t)
 |str (z:Str) (t:_):Cv h (.str z) (.str z t)
 |lst {ds:List D} {a:Addr} {us:List Value} (p:h.IsList a us.toArray) (q:CReps h ds us):Cv h (.lst ds) (.ref a)
 |tup {ds:List D} {a:Addr} {us:List Value} (p:h.IsTuple a us.toArray) (q:CReps h ds us):Cv h (.tup ds) (.ref a)
theorem crv{h:Heap}{d:D}{u:Value}(r:jV h d u):Cv h d u:=by
 cases d<;>unfold jV at r
 all_goals first|exact r.elim|(subst r;constructor)|(obtain⟨_,rfl⟩:=r;constructor)|(obtain⟨_,_,rfl,p,q⟩:=r;first|exact .lst p q|exact .tup p q)
theorem vq1{A:Around}{d d':D}{u w:Value}(hu:A.units<cLine)(r:jV s.heap d u)(r':jV s.heap d' w)
  (el:∀(as bs:List D) (us ws:List Value),(d=.lst as\/d=.tup as)->(d'=.lst bs\/d'=.tup bs)->CReps s.heap as us->CReps s.heap bs ws->∀j (h1:j<us.toArray.size) (h2:j<ws.toArray.size),SeqAt.EqAt A.in1 s us.toArray[j] ws.toArray[j] (pAt as bs j)):
  SeqAt.RcAt A s u w (peq d d'):=by
 cases crv r<;>cases crv r'<;>unfold peq
 ·exact SeqAt.RcAt.none_none
 ·exact SeqAt.RcAt.none_bool _
 ·exact SeqAt.RcAt.none_int _ _
 ·exact SeqAt.RcAt.none_str _ _
 ·exact SeqAt.RcAt.none_list ‹_› hu
 ·exact SeqAt.RcAt.none_tuple ‹_› hu
 ·exact SeqAt.RcAt.bool_none _
 ·exact SeqAt.RcAt.bool_bool _ _
 ·exact SeqAt.RcAt.bool_int _ _ _
 ·exact SeqAt.RcAt.bool_str _ _ _
 ·exact SeqAt.RcAt.bool_list _ ‹_› hu
 ·exact SeqAt.RcAt.bool_tuple _ ‹_› hu
 ·exact SeqAt.RcAt.int_none _ _
 ·exact SeqAt.RcAt.int_bool _ _ _
 ·exact SeqAt.RcAt.int_int _ _ _ _
 ·exact SeqAt.RcAt.int_str _ _ _ _
 ·exact SeqAt.RcAt.int_list _ _ ‹_› hu
 ·exact SeqAt.RcAt.int_tuple _ _ ‹_› hu
 ·exact SeqAt.RcAt.str_none _ _
 ·exact SeqAt.RcAt.str_bool _ _ _
 ·exact SeqAt.RcAt.str_int _ _ _ _
 ·exact SeqAt.RcAt.str_str _ _ _ _
 ·exact SeqAt.RcAt.str_list _ _ ‹_› hu
 ·exact SeqAt.RcAt.str_tuple _ _ ‹_› hu
 ·exact SeqAt.RcAt.list_none ‹_› hu
 ·exact SeqAt.RcAt.list_bool _ ‹_› hu
 ·exact SeqAt.RcAt.list_int _ _ ‹_› hu
 ·exact SeqAt.RcAt.list_str _ _ ‹_› hu
 ·rename_i as a us p ra bs b ws p' rb;have l1:=ra.len;have l2:=rb.len
  by_cases hl:as.length=bs.length
  ·rw[<-jwe as bs hl];have z:=SeqAt.RcAt.lists (A:=A) (s:=s) (e:=pAt as bs) p p' (by simp only[X7];omega) hu (el as bs us ws (.inl rfl) (.inl rfl) ra rb);rw[X7,<-l1]at z;exact z
  ·rw[jzl as bs hl];exact SeqAt.RcAt.lists_lengths p p' (by simp only[X7,bne_iff_ne];omega) hu
 ·exact SeqAt.RcAt.list_tuple ‹_› ‹_› hu
 ·exact SeqAt.RcAt.tuple_none ‹_› hu
 ·exact SeqAt.RcAt.tuple_bool _ ‹_› hu
 ·exact SeqAt.RcAt.tuple_int _ _ ‹_› hu
 ·exact SeqAt.RcAt.tuple_str _ _ ‹_› hu
 ·exact SeqAt.RcAt.tuple_list ‹_› ‹_› hu
 ·rename_i as a us p ra bs b ws p' rb;have l1:=ra.len;have l2:=rb.len;rw[<-kxa as bs];have z:=SeqAt.RcAt.tuples (A:=A) (s:=s) (e:=pAt as bs) p p' hu (el as bs us ws (.inr rfl) (.inr rfl) ra rb);rw[X7,X7,<-l1,<-l2]at z;exact z
theorem vxv{A:Around}{d d':D}{u w:Value}(hu:A.units<cLine)(r:jV s.heap d u)(r':jV s.heap d' w)
  (el:∀(as bs:List D) (us ws:List Value),(d=.lst as\/d=.tup as)->(d'=.lst bs\/d'=.tup bs)->CReps s.heap as us->CReps s.heap bs ws->∀j (h1:j<us.toArray.size) (h2:j<ws.toArray.size),SeqAt.EqAt A.in1 s us.toArray[j] ws.toArray[j] (pAt as bs j)):
  SeqAt.RcNeAt A s u w (!peq d d'):=by
 cases crv r<;>cases crv r'<;>unfold peq
 ·exact SeqAt.RcNeAt.none_none
 ·exact SeqAt.RcNeAt.none_bool _
 ·exact SeqAt.RcNeAt.none_int _ _
 ·exact SeqAt.RcNeAt.none_str _ _
 ·exact SeqAt.RcNeAt.none_list ‹_› hu
 ·exact SeqAt.RcNeAt.none_tuple ‹_› hu
 ·exact SeqAt.RcNeAt.bool_none _
 ·exact SeqAt.RcNeAt.bool_bool _ _
 ·exact SeqAt.RcNeAt.bool_int _ _ _
 ·exact SeqAt.RcNeAt.bool_str _ _ _
 ·exact SeqAt.RcNeAt.bool_list _ ‹_› hu
 ·exact SeqAt.RcNeAt.bool_tuple _ ‹_› hu
 ·exact SeqAt.RcNeAt.int_none _ _
 ·exact SeqAt.RcNeAt.int_bool _ _ _
 ·exact SeqAt.RcNeAt.int_int _ _ _ _
 ·exact SeqAt.RcNeAt.int_str _ _ _ _
 ·exact SeqAt.RcNeAt.int_list _ _ ‹_› hu
 ·exact SeqAt.RcNeAt.int_tuple _ _ ‹_› hu
 ·exact SeqAt.RcNeAt.str_none _ _
 ·exact SeqAt.RcNeAt.str_bool _ _ _
 ·exact SeqAt.RcNeAt.str_int _ _ _ _
 ·exact SeqAt.RcNeAt.str_str _ _ _ _
 ·exact SeqAt.RcNeAt.str_list _ _ ‹_› hu
 ·exact SeqAt.RcNeAt.str_tuple _ _ ‹_› hu
 ·exact SeqAt.RcNeAt.list_none ‹_› hu
 ·exact SeqAt.RcNeAt.list_bool _ ‹_› hu
 ·exact SeqAt.RcNeAt.list_int _ _ ‹_› hu
 ·exact SeqAt.RcNeAt.list_str _ _ ‹_› hu
 ·rename_i as a us p ra bs b ws p' rb;have l1:=ra.len;have l2:=rb.len
  by_cases hl:as.length=bs.length
  ·rw[<-jwe as bs hl];have z:=SeqAt.RcNeAt.lists (A:=A) (s:=s) (e:=pAt as bs) p p' (by simp only[X7];omega) hu (el as bs us ws (.inl rfl) (.inl rfl) ra rb);rw[X7,<-l1]at z;exact z
  ·rw[jzl as bs hl];exact SeqAt.RcNeAt.lists_lengths p p' (by simp only[X7,bne_iff_ne];omega) hu
 ·exact SeqAt.RcNeAt.list_tuple ‹_› ‹_› hu
 ·exact SeqAt.RcNeAt.tuple_none ‹_› hu
 ·exact SeqAt.RcNeAt.tuple_bool _ ‹_› hu
 ·exact SeqAt.RcNeAt.tuple_int _ _ ‹_› hu
 ·exact SeqAt.RcNeAt.tuple_str _ _ ‹_› hu
 ·exact SeqAt.RcNeAt.tuple_list ‹_› ‹_› hu
 ·rename_i as a us p ra bs b ws p' rb;have l1:=ra.len;have l2:=rb.len;rw[<-kxa as bs];have z:=SeqAt.RcNeAt.tuples (A:=A) (s:=s) (e:=pAt as bs) p p' hu (el as bs us ws (.inr rfl) (.inr rfl) ra rb);rw[X7,X7,<-l1,<-l2]at z;exact z
theorem kqh{A:Around}{a a':Addr}{b:Bool}(ju:Value.ref a=Value.ref a'->b=true)(rc:SeqAt.RcAt A s (.ref a) (.ref a') b):SeqAt.EqAt A s (.ref a) (.ref a') b:=by
 by_cases e:a=a'
 ·subst e;rw[ju rfl];exact SeqAt.EqAt.same _
 ·exact SeqAt.EqAt.of_refs e rc
theorem vzr{A:Around}{d d':D}{u w:Value}(hu:A.units<cLine)(r:jV s.heap d u)(r':jV s.heap d' w)(ju:u=w->peq d d'=true)(rc:SeqAt.RcAt A s u w (peq d d')):SeqAt.EqAt A s u w (peq d d'):=by
 cases crv r<;>cases crv r'<;>try unfold peq
 ·exact SeqAt.EqAt.same _
 ·exact SeqAt.EqAt.none_bool _
 ·exact SeqAt.EqAt.none_int _ _
 ·exact SeqAt.EqAt.none_str _ _
 ·exact SeqAt.EqAt.none_list ‹_› hu
 ·exact SeqAt.EqAt.none_tuple ‹_› hu
 ·exact SeqAt.EqAt.bool_none _
 ·exact SeqAt.EqAt.bool_bool _ _
 ·exact SeqAt.EqAt.bool_int _ _ _
 ·exact SeqAt.EqAt.bool_str _ _ _
 ·exact SeqAt.EqAt.bool_list _ ‹_› hu
 ·exact SeqAt.EqAt.bool_tuple _ ‹_› hu
 ·exact SeqAt.EqAt.int_none _ _
 ·exact SeqAt.EqAt.int_bool _ _ _
 ·exact SeqAt.EqAt.int_int _ _ _ _
 ·exact SeqAt.EqAt.int_str _ _ _ _
 ·exact SeqAt.EqAt.int_list _ _ ‹_› hu
 ·exact SeqAt.EqAt.int_tuple _ _ ‹_› hu
 ·exact SeqAt.EqAt.str_none _ _
 ·exact SeqAt.EqAt.str_bool _ _ _
 ·exact SeqAt.EqAt.str_int _ _ _ _
 ·exact SeqAt.EqAt.str_str _ _ _ _
 ·exact SeqAt.EqAt.str_list _ _ ‹_› hu
 ·exact SeqAt.EqAt.str_tuple _ _ ‹_› hu
 ·exact SeqAt.EqAt.list_none ‹_› hu
 ·exact SeqAt.EqAt.list_bool _ ‹_› hu
 ·exact SeqAt.EqAt.list_int _ _ ‹_› hu
 ·exact SeqAt.EqAt.list_str _ _ ‹_› hu
 ·exact kqh ju rc
 ·exact kqh ju rc
 ·exact SeqAt.EqAt.tuple_none ‹_› hu
 ·exact SeqAt.EqAt.tuple_bool _ ‹_› hu
 ·exact SeqAt.EqAt.tuple_int _ _ ‹_› hu
 ·exact SeqAt.EqAt.tuple_str _ _ ‹_› hu
 ·exact kqh ju rc
 ·exact kqh ju rc
theorem kza:∀(n:Nat) {d d':D} {u w:Value} {A:Around},d.flat n=true->jV s.heap d u->jV s.heap d' w->A.units+n<cLine->SeqAt.EqAt A s u w (peq d d')
 | n,d,d',u,w,A,f,r,r',hu=>by
  refine vzr (by omega) r r' (λe=>?_) (vq1 (by omega) r r' λas bs us ws h1 h2 ra rb=>?_)
  rotate_left
  ·cases n with
   |zero=>rcases h1 with rfl|rfl<;>(unfold D.flat at f;cases f)
   |succ n=>
    have fs:D.flats n as=true:=by rcases h1 with rfl|rfl<;>(unfold D.flat at f;exact f)
    exact kwq ra rb λj d d' u w e1 e2 q1 q2=>kza n (jxa fs e1) q1 q2 (by have:=L3.in1_units A;omega)
  ·subst e;rw[kqj r' r];exact VX f
end
section
variable {X:Cx}{Z:Fx0}{K:PySem.W.Frag}
noncomputable def wjo(K:PySem.W.Frag):R2:=λx y H Q=>∃d d' as bs,RepL K H true d x as/\RepL K H true d' y bs/\d.flat 40=true/\d'.flat 40=true/\Q (.bl (peq d d')) H
noncomputable def wjj(K:PySem.W.Frag):R2:=λx y H Q=>∃d d' as bs,RepL K H true d x as/\RepL K H true d' y bs/\d.flat 40=true/\d'.flat 40=true/\Q (.bl (!peq d d')) H
theorem xw(hu:X.A.units+64<cLine)(hK:autoParam (X.K=K) Ŕ):OpR X (compareOp .Eq) (wjo K):=by
 subst hK;intro pins s σ H x y v u Q I rx ry h;obtain⟨d,d',as,bs,h1,h2,f1,f2,q⟩:=h;have c1:=Vj I h1 f1 rx;have c2:=Vj I h2 f2 ry;refine vq1 (by omega) c1 c2 (λas bs us ws e1 e2 ra rb=>kwq ra rb λj d d' u w e3 e4 q1 q2=>?_) _ _ _ _ ⟨.bl _,H,I,rfl,q⟩;have fs:D.flats 39 as=true:=by rcases e1 with rfl|rfl<;>(unfold D.flat at f1;exact f1)
 exact kza 39 (jxa fs e3) q1 q2 (by have:=L3.in1_units X.A;omega)
theorem zw(hu:X.A.units+64<cLine)(hK:autoParam (X.K=K) Ŕ):OpR X (compareOp .NotEq) (wjj K):=by
 subst hK;intro pins s σ H x y v u Q I rx ry h;obtain⟨d,d',as,bs,h1,h2,f1,f2,q⟩:=h;have c1:=Vj I h1 f1 rx;have c2:=Vj I h2 f2 ry;refine vxv (by omega) c1 c2 (λas bs us ws e1 e2 ra rb=>kwq ra rb λj d d' u w e3 e4 q1 q2=>?_) _ _ _ _ ⟨.bl _,H,I,rfl,q⟩;have fs:D.flats 39 as=true:=by rcases e1 with rfl|rfl<;>(unfold D.flat at f1;exact f1)
 exact kza 39 (jxa fs e3) q1 q2 (by have:=L3.in1_units X.A;omega)
theorem xQ:Ad2 K (wjo K) (pu2 fEq):=by
 intro H x y s Q ox oy hf k;unfold pu2 fEq at hf;dsimp only at hf
 by_cases hc:(x.d.flat 40&&y.d.flat 40)=true
 ·rw[Xf hc]at hf;rw[Bool.and_eq_true]at hc;cases oq9 hf;exact⟨x.d,y.d,x.as,y.as,RepO.wk ox,RepO.wk oy,hc.1,hc.2,k ⟨.dp,.bl _,.bl _,[]⟩ H rfl rfl wZ⟩
 ·rw[Xm hc]at hf;cases hf
theorem xY:Ad2 K (wjj K) (pu2 fNe):=by
 intro H x y s Q ox oy hf k;unfold pu2 fNe at hf;dsimp only at hf
 by_cases hc:(x.d.flat 40&&y.d.flat 40)=true
 ·rw[Xf hc]at hf;rw[Bool.and_eq_true]at hc;cases oq9 hf;exact⟨x.d,y.d,x.as,y.as,RepO.wk ox,RepO.wk oy,hc.1,hc.2,k ⟨.dp,.bl _,.bl _,[]⟩ H rfl rfl wZ⟩
 ·rw[Xm hc]at hf;cases hf
end
end Q
namespace Q
open PySem PySem.Spec PyProof.Rows L2 L3
abbrev Sl.sd(x:Sl):Sd:=(x.o,x.d)
noncomputable def tA(Z:Fx0)(q:Bool)(cs:List Ex):TA:=fun σ H Q=>∃E L r,Mt E σ L/\World Z.K H L/\kJ cs E=some r/\Xc Z σ H L r /\
 ∀E' ys,r=.ok E' ys->∀(xs:List Sl) L' H',xs.map Sl.sd=ys->Mt E' σ L'->World Z.K H' (xs.map some++L')->Step H L H' (xs.map some++L')->(q=true->k4 H H'/\∀b∈j6 (xs.map some),H b=none)->Q (xs.map Sl.v) H'
def QA(X:Cx)(Z:Fx0)(q:Bool)(cs:List Ex)(es:List Expr):Prop:=PA X es (tA Z q cs)
theorem W2{X:Cx}{es:List Expr}{t t':TA}(h:PA X es t)(w:∀ σ H Q,t' σ H Q->t σ H Q):PA X es t':=λpos pins s σ H Q I q=>h pos pins s σ H Q I (w σ H Q q)
section
variable {X:Cx}{Z:Fx0}{pn:List Nat}{q:Bool}{c:Ex}{cs:List Ex}{e:Expr}{es:List Expr}{pos:Pos}{σ:L2.St}{H:Hp}{L:Ls}{E:En}
theorem jW:QA X Z true [] []:=W2 ww fun σ H Q ak=>ex8 ak λE L r m w hc xc k=>by
 cases oq9 hc;exact k _ _ rfl [] L H rfl m w Step.refl λ_=>⟨λ_ _ z=>z,λ_ z=>(nomatch z)⟩
theorem j5(h:QE X Z q c e)(hs:QA X Z q cs es)(bq:autoParam (starEach (e::es) X.env=(false,eval e X.env)::starEach es X.env) Ŕ):QA X Z q (c::cs) (e::es):=
 W2 (vZ h hs bq) fun σ H Q ak=>ex8 ak λE L r m w hc xc k=>by
  refine QQ m w (show bnd (c E) _=some r from hc) xc λE1 s h1 x L1 H1 e1 e2 m1 w1 st sm=>?_
  have s1:Step H L H1 L1:=st.trans Step.drop;rcases vk h1 with⟨E2,ys,h2,h3⟩|⟨E2,cc,h2,h3⟩
  ·cases oq9 h3;refine⟨E1,L1,_,m1,w1.tail,h2,(λ_ _ z=>by cases z),λE' ys' z xs L2 H2 e3 m2 w2 bm dl=>?_⟩;injection z with z1 z2;subst z1 z2;obtain⟨w3,cw⟩:=vxb (T:=[some x]) w1 bm w2;refine k _ _ rfl (x::xs) L2 H2 (by rw[List.map_cons,e3];simp[Sl.sd,e1,e2]) m2 w3 (st.trans cw) λhq=>?_
   obtain⟨a1,a2⟩:=sm hq;obtain⟨b1,b2⟩:=dl hq;refine⟨kw a1 b1,λb hb=>?_⟩;rw[List.map_cons,jk]at hb;rcases List.mem_append.mp hb with z|z
   ·exact a2 b z
   ·exact xx a1 (b2 b z)
  ·exact⟨E1,L1,_,m1,w1.tail,h2,(xc.step s1).map h3,λE' s' z=>by cases z⟩
end
section
variable {X:Cx}{Z:Fx0}{q:Bool}{cs:List Ex}{es:List Expr}{pos:Pos}{σ:L2.St}{H:Hp}{L:Ls}{E:En}{α:Type}
theorem VJ:∀{cs:List Ex} {E E':En} {ys:List Sd},kJ cs E=some (.ok E' ys)->ys.length=cs.length
 | [],E,E',ys,h=>by cases oq9 h;rfl
 | c::cs,E,E',ys,h=>by
  rcases vk (show bnd (c E) _=some _ from h)with⟨E1,x,h1,h2⟩|⟨_,_,_,z⟩
  ·rcases vk h2 with⟨E2,xs,h3,h4⟩|⟨_,_,_,z⟩
   ·cases oq9 h4;rw[Xp,Xp,VJ h3]
   ·cases z
  ·cases z
theorem vk2{F:En->List Sd->Option (Res α)}{r:Res α}{G:List V->Hp->Prop}(m:Mt E σ L)(w:World Z.K H L)(h:bnd (kJ cs E) F=some r)(xc:Xc Z σ H L r)
  (k:∀E1 ys,F E1 ys=some r->ys.length=cs.length->∀(xs:List Sl) L1 H1,xs.map Sl.sd=ys->Mt E1 σ L1->World Z.K H1 (xs.map some++L1)->Step H L H1 (xs.map some++L1)->(q=true->k4 H H1/\∀b∈j6 (xs.map some),H b=none)->G (xs.map Sl.v) H1):tA Z q cs σ H G:=by
 rcases vk h with⟨E1,s,h1,h2⟩|⟨E1,c,h1,h2⟩
 ·exact⟨E,L,_,m,w,h1,(λ_ _ z=>by cases z),λE' s' z xs L' H' e1 m' w' st sm=>by
   injection z with z1 z2;subst z1 z2;exact k _ _ h2 (VJ h1) xs L' H' e1 m' w' st sm⟩
 ·exact⟨E,L,_,m,w,h1,xc.map h2,λE' s' z=>by cases z⟩
theorem jwg{K:PySem.W.Frag}{H:Hp}(g:Bool):∀{xs:List Sl},(∀x∈xs,x.ok K H)->(g=false->∀x∈xs,qW x.sd=true)->∃bs,RepA K H g (xs.map Sl.d) (xs.map Sl.v) bs/\(∀b∈bs,∃x∈xs,b∈x.as)/\(g=false->bs=j6 (xs.map some))/\(g=true->bs=xs.flatMap Sl.as)
 | [],_,_=>⟨[],by unfold RepA;exact⟨rfl,rfl⟩,λ_ h=>(nomatch h),λ_=>rfl,λ_=>rfl⟩
 | x :: xs,h,ht=>by
  obtain⟨bs,r,hb,ho,hg⟩:=jwg g (xs:=xs) (λy hy=>h y (lc9 _ hy)) λhg y hy=>ht hg y (lc9 _ hy)
  have hx:=h x X3;have nh:∃cs,RepL K H g x.d x.v cs/\(∀b∈cs,b∈x.as)/\(g=false->cs=x.own)/\(g=true->cs=x.as):=by
   cases g with
   | true=>exact⟨x.as,RepO.wk hx,λb hb=>hb,(λz=>by cases z),λ_=>rfl⟩
   | false=>
    have t:=ht rfl x X3;unfold qW at t
    by_cases ho:x.o=.dp
    ·refine⟨x.as,?_,λb hb=>hb,λ_=>?_,λz=>by cases z⟩
     ·have:=hx;unfold Sl.ok at this;rw[ho]at this;exact this
     ·unfold Sl.own;rw[ho]
    ·have hp:x.d.pure=true:=by
      rcases Bool.or_eq_true_iff.mp t with z|z
      ·exact absurd (by simpa using z) ho
      ·exact z
     obtain⟨z,rp⟩:=RepL.pu (g':=false) (RepO.wk hx) hp;exact⟨[],rp,λ_ h=>(nomatch h),λ_=>(qzx z).symm,λz=>by cases z⟩
  obtain⟨cs,r1,h1,h2,h3⟩:=nh;refine⟨cs++bs,?_,λb dm=>?_,λlx=>?_,λlx=>?_⟩
  ·rw[List.map_cons,List.map_cons];unfold RepA;exact⟨x.v,xs.map Sl.v,cs,bs,rfl,rfl,r1,r⟩
  ·rcases List.mem_append.mp dm with z|z
   ·exact⟨x,X3,h1 b z⟩
   ·obtain⟨y,hy,hby⟩:=hb b z;exact⟨y,lc9 _ hy,hby⟩
  ·rw[List.map_cons,jk,h2 lx,ho lx]
  ·rw[List.flatMap_cons,h3 lx,hg lx]
theorem qw5{K:PySem.W.Frag}{H:Hp}{p:Addr}{xs:List Sl}{L:Ls}(w:World K H (xs.map some++L))(hp:H p=none):
  ∃bs,World K (upd H p (.lst (xs.map Sl.v))) (some ⟨.rt,.lst (xs.map Sl.d),.ref p,p::bs⟩::L)/\Step H (xs.map some++L) (upd H p (.lst (xs.map Sl.v))) (some ⟨.rt,.lst (xs.map Sl.d),.ref p,p::bs⟩::L):=by
 obtain⟨bs,r,hb,_,_⟩:=jwg true (xs:=xs) (λx hx=>w.ok x (ll9 _ (Xj hx))) (λz=>by cases z);have ap:∀b∈bs,b∉j6 L:=λb dm hL=>by
  obtain⟨x,hx,fq⟩:=hb b dm;rcases Sl.as_of fq with z|z
  ·have nd:=w.nd;rw[jZ,X5]at nd;exact nd.2.2 b (mem_owned.mpr ⟨x,Xj hx,z⟩) b hL rfl
  ·exact w.ds b (by rw[jZ];exact lr9 _ hL) (by rw[kW];exact ll9 _ (mem_frozen.mpr ⟨x,Xj hx,z⟩))
 have al:∀b∈bs,H b≠none:=λb dm=>by
  obtain⟨x,hx,fq⟩:=hb b dm;exact(w.ok x (ll9 _ (Xj hx))).some fq
 have sr:Src H (xs.map some++L) bs:=λb dm=>by
  obtain⟨x,hx,fq⟩:=hb b dm;rcases Sl.as_of fq with z|z
  ·exact .inr (.inl (by rw[jZ];exact ll9 _ (mem_owned.mpr ⟨x,Xj hx,z⟩)))
  ·exact .inl (by rw[kW];exact ll9 _ (mem_frozen.mpr ⟨x,Xj hx,z⟩))
 have o:Out K H (upd H p (.lst (xs.map Sl.v))) ⟨.rt,.lst (xs.map Sl.d),.ref p,p::bs⟩ bs:=Kk hp r λb hb=>hb
 have st:Step H (xs.map some++L) H L:=⟨λ_ _ h _=>h,λa ha=>.inl (by rw[jZ];exact lr9 _ ha),λa ha=>.inl (by rw[kW];exact lr9 _ ha)⟩;exact⟨bs,Kj (Z:=⟨K,λ_=>none,λ_ _ _=>True⟩) w.right st o ap al sr⟩
theorem qw4{K:PySem.W.Frag}{H:Hp}{p:Addr}{xs:List Sl}{L:Ls}(w:World K H (xs.map some++L))(hp:H p=none):
  ∃bs,World K (upd H p (.tup (xs.map Sl.v))) (some ⟨.no,.tup (xs.map Sl.d),.ref p,bs⟩::L)/\Step H (xs.map some++L) (upd H p (.tup (xs.map Sl.v))) (some ⟨.no,.tup (xs.map Sl.d),.ref p,bs⟩::L):=by
 obtain⟨bs,r,hb,_,_⟩:=jwg true (xs:=xs) (λx hx=>w.ok x (ll9 _ (Xj hx))) (λz=>by cases z);have ap:∀b∈bs,b∉j6 L:=λb dm hL=>by
  obtain⟨x,hx,fq⟩:=hb b dm;rcases Sl.as_of fq with z|z
  ·have nd:=w.nd;rw[jZ,X5]at nd;exact nd.2.2 b (mem_owned.mpr ⟨x,Xj hx,z⟩) b hL rfl
  ·exact w.ds b (by rw[jZ];exact lr9 _ hL) (by rw[kW];exact ll9 _ (mem_frozen.mpr ⟨x,Xj hx,z⟩))
 have al:∀b∈bs,H b≠none:=λb dm=>by
  obtain⟨x,hx,fq⟩:=hb b dm;exact(w.ok x (ll9 _ (Xj hx))).some fq
 have sr:Src H (xs.map some++L) bs:=λb dm=>by
  obtain⟨x,hx,fq⟩:=hb b dm;rcases Sl.as_of fq with z|z
  ·exact .inr (.inl (by rw[jZ];exact ll9 _ (mem_owned.mpr ⟨x,Xj hx,z⟩)))
  ·exact .inl (by rw[kW];exact ll9 _ (mem_frozen.mpr ⟨x,Xj hx,z⟩))
 have o:Out K H (upd H p (.tup (xs.map Sl.v))) ⟨.no,.tup (xs.map Sl.d),.ref p,bs⟩ bs:=XY hp r λb hb=>hb
 have st:Step H (xs.map some++L) H L:=⟨λ_ _ h _=>h,λa ha=>.inl (by rw[jZ];exact lr9 _ ha),λa ha=>.inl (by rw[kW];exact lr9 _ ha)⟩;exact⟨bs,Kj (Z:=⟨K,λ_=>none,λ_ _ _=>True⟩) w.right st o ap al sr⟩
theorem qq1{K:PySem.W.Frag}{H H':Hp}{xs:List Sl}{L:Ls}{d:D}{v:V}{ps:List Addr}(w:World K H (xs.map some++L))(ht:∀x∈xs,qW x.sd=true)(hp:∀b∈ps,H b=none)(nd:ps.Nodup)(sm:k4 H H')
  (rep:∀bs,RepA K H false (xs.map Sl.d) (xs.map Sl.v) bs->RepL K H' false d v (ps++bs)):
  World K H' (some ⟨.dp,d,v,ps++j6 (xs.map some)⟩::L)/\Step H (xs.map some++L) H' (some ⟨.dp,d,v,ps++j6 (xs.map some)⟩::L):=by
 obtain⟨bs,r,hb,ho,_⟩:=jwg false (xs:=xs) (λx hx=>w.ok x (ll9 _ (Xj hx))) (λ_=>ht);have e:=ho rfl;subst e;have w2:World K H' (xs.map some++L):=⟨λx hx=>RepO.kp (w.ok x hx) (Kp.of_same sm),w.nd,w.ds⟩;have ndx:=w.nd;rw[jZ,X5]at ndx;have al:∀b∈j6 (xs.map some),H b≠none:=λb hb=>w.own_some (by rw[jZ];exact ll9 _ hb)
 refine⟨w2.right.cons (x:=⟨.dp,d,v,ps++j6 (xs.map some)⟩) (rep _ r) ?_ (λa ha hL=>?_) (λa ha hf=>?_) (λa ha=>(nomatch ha)) (λa ha=>λz=>(nomatch z)),⟨λa ob h _=>sm a ob h,λa ha=>?_,λa ha=>?_⟩⟩
 ·show(ps++j6 (xs.map some)).Nodup;rw[X5];exact⟨nd,ndx.1,λa ha b hb e=>by subst e;exact al a hb (hp a ha)⟩
 ·rcases List.mem_append.mp (show a∈ps++j6 (xs.map some)from ha)with z|z
  ·exact w.own_some (by rw[jZ];exact lr9 _ hL) (hp a z)
  ·exact ndx.2.2 a z a hL rfl
 ·rcases List.mem_append.mp (show a∈ps++j6 (xs.map some)from ha)with z|z
  ·exact w.frz_some (by rw[kW];exact lr9 _ hf) (hp a z)
  ·exact w.ds a (by rw[jZ];exact ll9 _ z) (by rw[kW];exact lr9 _ hf)
 ·rw[jk]at ha;rcases List.mem_append.mp ha with z|z
  ·rcases List.mem_append.mp (show a∈ps++j6 (xs.map some)from z)with y|y
   ·exact .inr (hp a y)
   ·exact .inl (by rw[jZ];exact ll9 _ y)
  ·exact .inl (by rw[jZ];exact lr9 _ z)
 ·rw[k8]at ha;exact .inl (by rw[kW];exact lr9 _ ha)
theorem vx6{xs:List Sl}{ys:List Sd}(h:xs.map Sl.sd=ys):xs.map Sl.d=ys.map (·.2):=by rw[<-h,Y2];rfl
theorem kxj{xs:List Sl}{ys:List Sd}(h:xs.map Sl.sd=ys)(ht:ys.all qW=true):∀x∈xs,qW x.sd=true:=λx hx=>by
 rw[<-h,List.all_map,Yr]at ht;exact ht x hx
theorem kxy{o:Own}{xs:List Sl}{ys:List Sd}{E':En}{r:Res Sd}{L':Ls}{H1:Hp}{Q:VK}{Hq:Hp}{Lq:Ls}(h:mkL o E' ys=some r)(e:xs.map Sl.sd=ys)(w:World Z.K H1 (xs.map some++L'))(st:Step Hq Lq H1 (xs.map some++L'))(sm:q=true->k4 Hq H1/\∀b∈j6 (xs.map some),Hq b=none)
  (k:∀E'' a,r=.ok E'' a->∀(x:Sl) L'' H',x.o=a.1->x.d=a.2->Mt E'' σ L''->World Z.K H' (some x::L'')->Step Hq Lq H' (some x::L'')->(q=true->k4 Hq H'/\∀b∈x.own,Hq b=none)->Q x.v H') (m:Mt E' σ L'):
  ∀ p,H1 p=none->Q (.ref p) (upd H1 p (.lst (xs.map Sl.v))):=by
 intro p hp;unfold mkL at h
 by_cases ho:o=.dp
 ·rw[Xf ho]at h
  by_cases ht:ys.all qW=true
  ·rw[Xf ht]at h;cases oq9 h;obtain⟨w2,s2⟩:=qq1 (d:=.lst (xs.map Sl.d)) (v:=.ref p) (ps:=[p]) w (kxj e ht) (λb hb=>by rw[List.mem_singleton.mp hb];exact hp) (by simp) (wv (o:=.lst (xs.map Sl.v)) hp) (λbs r=>by
    unfold RepL;exact⟨p,_,bs,rfl,r.kp (Kp.of_same (wv hp)),.inl ⟨xX,rfl⟩⟩)
   refine k _ _ rfl ⟨.dp,.lst (xs.map Sl.d),.ref p,_⟩ L' _ rfl (by rw[vx6 e]) m w2 (st.trans s2) λhq=>⟨kw (sm hq).1 (wv hp),λb hb=>?_⟩
   rcases List.mem_append.mp (show b∈[p]++j6 (xs.map some)from hb)with z|z
   ·rw[List.mem_singleton.mp z];exact xx (sm hq).1 hp
   ·exact(sm hq).2 b z
  ·rw[Xm ht]at h;cases h
 ·rw[Xm ho]at h;cases oq9 h;obtain⟨bs,w2,s2⟩:=qw5 w hp;refine k _ _ rfl ⟨.rt,.lst (xs.map Sl.d),.ref p,p::bs⟩ L' _ rfl (by rw[vx6 e]) m w2 (st.trans s2) λhq=>⟨kw (sm hq).1 (wv hp),λb hb=>?_⟩
  have:b=p:=by simpa [Sl.own]using hb
  rw[this];exact xx (sm hq).1 hp
theorem vkl{xs:List Sl}{ys:List Sd}{n:Nat}(h:xs.map Sl.sd=ys)(hl:ys.length=n)(hz:n<=1000):(xs.map Sl.v).length<=sizeLine:=by
 have:xs.length=n:=by rw[<-hl,<-h,X6]
 rw[X6,this];exact Y6 hz (by decide)
theorem Vv{o:Own}(h:QA X Z q cs es)(hz:autoParam (cs.length<=1000) ŕ):QE X Z q (qY o cs) (.List es pos):=kY (vqw h) fun σ H Q ak=>ex8 ak λE L r m w hc xc k=>
 vk2 m w (show bnd (kJ cs E) _=some r from hc) xc λE1 ys h1 hl xs L1 H1 e1 m1 w1 st sm=>⟨vkl e1 hl hz,kxy (o:=o) (E':=E1) (ys:=ys) (by unfold mkL;exact h1) e1 w1 st sm k m1⟩
theorem zK{o:Own}{x1}(h:QA X Z q cs es)(hz:autoParam (cs.length<=1000) ŕ):QE X Z q (v9 o cs) (.Tuple es x1 pos):=kY (vqt h) fun σ H Q ak=>ex8 ak λE L r m w hc xc k=>
 vk2 m w (show bnd (kJ cs E) _=some r from hc) xc λE1 ys h1 hl xs L1 H1 e1 m1 w1 st sm=>⟨vkl e1 hl hz,λp hp=>by
  by_cases ho:o=.dp
  ·rw[Xf ho]at h1
   by_cases ht:ys.all qW=true
   ·rw[Xf ht]at h1;cases oq9 h1;obtain⟨w2,s2⟩:=qq1 (d:=.tup (xs.map Sl.d)) (v:=.ref p) (ps:=[]) w1 (kxj e1 ht) (λb hb=>(nomatch hb)) (by simp) (wv (o:=.tup (xs.map Sl.v)) hp) (λbs r=>by
     unfold RepL;exact⟨p,_,rfl,SqT.of xX,r.kp (Kp.of_same (wv hp))⟩)
    exact k _ _ rfl ⟨.dp,.tup (xs.map Sl.d),.ref p,_⟩ L1 _ rfl (by rw[vx6 e1]) m1 w2 (st.trans s2) λhq=>⟨kw (sm hq).1 (wv hp),λb hb=>(sm hq).2 b hb⟩
   ·rw[Xm ht]at h1;cases h1
  ·rw[Xm ho]at h1;cases oq9 h1;obtain⟨bs,w2,s2⟩:=qw4 w1 hp;exact k _ _ rfl ⟨.no,.tup (xs.map Sl.d),.ref p,bs⟩ L1 _ rfl (by rw[vx6 e1]) m1 w2 (st.trans s2) λhq=>⟨kw (sm hq).1 (wv hp),λb hb=>(nomatch hb)⟩⟩
end
noncomputable def spF(K:PySem.W.Frag)(mg:Str->Option Value)(n:Nat)(f:Fn):Sp:=λvs H Q E=>∃(xs:List Sl) (r:Res Sd),vs=xs.map Sl.v/\xs.length=n/\World K H (xs.map some)/\f (xs.map Sl.sd)=some r /\
 (∀E' c,r=.exc E' c->∀C H',mg c=some (.ref C)->Step H (xs.map some) H' []->E (.ref C) none H') /\
 ∀E' a,r=.ok E' a->∀(x:Sl) H',x.o=a.1->x.d=a.2->World K H' [some x]->Step H (xs.map some) H' [some x]->Q x.v H'
theorem qk{K:PySem.W.Frag}{mg:Str->Option Value}{n:Nat}{f:Fn}{ps:List Str}(hn:ps.length=n):∀vs H Q E,spF K mg n f vs H Q E->vs.length=ps.length:=λvs H Q E ⟨xs,r,e,hl,_⟩=>by rw[e,X6,hl,hn]
theorem jzm:∀(xs:List Sl) (k:Nat),Mt (xs.map (λx=>some x.sd)++List.replicate k none) (xs.map (λx=>some x.v)++List.replicate k none) (xs.map some++List.replicate k none)
 |[],0=>.nil
 |[],k+1=>by
  rw[List.map_nil,List.map_nil,List.map_nil,List.replicate_succ,List.replicate_succ,List.replicate_succ];exact .un (jzm [] k)
 |x::xs,k=>.cons (x:=x) (jzm xs k)
theorem qw{X:Cx}{K:PySem.W.Frag}{mg:Str->Option Value}{N:List Str}{n nn:Nat}{B:Sm}{body:List Stmt}{H:Hp}{vs:List V}{Q:VK}{E:XK}(hN:N.length=nn)(t:QSs X ⟨K,mg,E⟩ [] B body)(h:spF K mg n (fn nn B) vs H Q E):
  ∃t,PSs X body t/\t { nx:=λ_ H'=>Q .non H',rt:=Q } (L2.start N vs) H:=by
 refine⟨_,t,?_⟩;obtain⟨xs,r,rfl,hl,w,hf,hx,hk⟩:=h;unfold fn at hf;rw[X6,Y2]at hf;have m:=jzm xs (nn - xs.length);have e1:L2.start N (xs.map Sl.v)=xs.map (λx=>some x.v)++List.replicate (nn - xs.length) none:=by
  unfold L2.start;rw[Y2,X6,hN];rfl
 have wL:World K H (xs.map some++List.replicate (nn - xs.length) none):=w.same (by simp);have sL:Step H (xs.map some) H (xs.map some++List.replicate (nn - xs.length) none):=Step.refl.same (List.Perm.refl _) (by simp);cases hB:B (xs.map (λx=>some x.sd)++List.replicate (nn - xs.length) none)with
 | none=>rw[show(some∘Sl.sd)=(λx:Sl=>some x.sd)from rfl,hB]at hf;cases hf
 | some g=>
  rw[show(some∘Sl.sd)=(λx:Sl=>some x.sd)from rfl,hB]at hf;refine⟨_,_,g,e1▸m,wL,hB,?_⟩;cases g with
  |nx E1=>
   cases oq9 hf;intro σ' L' H' _ m' w' s';exact hk _ _ rfl ⟨.dp,.non,.non,[]⟩ H' rfl rfl (World.consPu (x:=⟨.dp,.non,.non,[]⟩) (L:=[]) ⟨λ_ z=>(nomatch z),Y1,λ_ z=>(nomatch z)⟩ (show RepL K H' false .non .non []from kwk) rfl) (K8 (x:=⟨.dp,.non,.non,[]⟩) ((sL.trans s').sub (by simp)) (λb hb=>(nomatch hb)) rfl)
  |rt E1 a=>
   cases oq9 hf;intro x σ' L' H' e2 e3 _ m' w' s';exact hk _ _ rfl x H' e2 e3 (w'.sub (by simp)) ((sL.trans s').sub (by simp))
  |xc E1 c=>
   cases oq9 hf;intro C σ' L' H' hm _ m' w' s';exact hx _ _ rfl C H' hm ((sL.trans s').sub (by simp))
  |ct E1=>cases hf
  |bk E1=>cases hf
section
variable {X:Cx}{Z:Fx0}{q:Bool}{cs:List Ex}{e:Expr}{es:List Expr}{pos p:Pos}{x:Str}{ps:List Str}{k n:Nat}{f:Fn}
theorem wJ:∀xs:List Sl,j6 ((xs.map Sl.let).map some)=[]
 |[]=>rfl
 |x::xs=>by rw[List.map_cons,List.map_cons,jk,wJ xs];rfl
theorem jx0:∀xs:List Sl,jY ((xs.map Sl.let).map some)=xs.flatMap Sl.as
 |[]=>rfl
 |x::xs=>by rw[List.map_cons,List.map_cons,k8,jx0 xs,List.flatMap_cons];rfl
theorem kqc(xs:List Sl):(xs.map Sl.let).map Sl.sd=letAll (xs.map Sl.sd):=by
 unfold letAll;rw[Y2,Y2];rfl
theorem kk3{K:PySem.W.Frag}{H:Hp}{xs:List Sl}{L:Ls}(w:World K H (xs.map some++L)):World K H ((xs.map Sl.let).map some++L)/\Step H (xs.map some++L) H ((xs.map Sl.let).map some++L):=by
 have nd:=w.nd;rw[jZ,X5]at nd;have cl:∀a∈xs.flatMap Sl.as,a∈j6 (xs.map some)\/a∈jY (xs.map some):=λa ha=>by
  obtain⟨x,hx,hax⟩:=List.mem_flatMap.mp ha;exact(Sl.as_of hax).imp (λz=>mem_owned.mpr ⟨x,Xj hx,z⟩) λz=>mem_frozen.mpr ⟨x,Xj hx,z⟩
 refine⟨⟨λx hx=>?_,by rw[jZ,wJ];exact nd.2.1,λa ha hf=>?_⟩,λ_ _ h _=>h,λa ha=>?_,λa ha=>?_⟩
 ·rcases List.mem_append.mp hx with hx|hx
  ·obtain⟨y,hy,e⟩:=List.mem_map.mp hx;cases e;obtain⟨z,hz,rfl⟩:=List.mem_map.mp hy;exact zq (w.ok z (ll9 _ (Xj hz)))
  ·exact w.ok x (lr9 _ hx)
 ·rw[jZ,wJ]at ha;rw[kW,jx0]at hf;rcases List.mem_append.mp hf with z|z
  ·rcases cl a z with z|z
   ·exact nd.2.2 a z a ha rfl
   ·exact w.ds a (by rw[jZ];exact lr9 _ ha) (by rw[kW];exact ll9 _ z)
  ·exact w.ds a (by rw[jZ];exact lr9 _ ha) (by rw[kW];exact lr9 _ z)
 ·rw[jZ,wJ]at ha;exact .inl (by rw[jZ];exact lr9 _ ha)
 ·rw[kW,jx0]at ha;rw[kW,jZ];rcases List.mem_append.mp ha with z|z
  ·rcases cl a z with z|z
   ·exact .inr (.inl (ll9 _ z))
   ·exact .inl (ll9 _ z)
  ·exact .inl (lr9 _ z)
theorem vqi(D:kq X.prog X.w X.K X.mg X.base k x ps (spF Z.K Z.mg n f))(hr:Room k X.A)(g:xq X Z.EX)(ha:QA X Z q cs (e::es))(hn:autoParam (cs.length=n) Ŕ)(hg:autoParam (Gl X x) Ŕ)(eh:autoParam ((x==("__debug__":Str))=false) ŕ)
  (he:autoParam (starEach (e::es) X.env=(false,eval e X.env)::starEach es X.env) Ŕ) (bo:autoParam ((backTo pos (starEach es X.env)).any (·.1)=false) Ŕ):
  QE X Z q (jQ f cs) (.Call (.Name x p) (e::es) [] pos):=kY (kxr D hr g ha hg eh he bo) fun σ H Q ak=>ex8 ak λE L r m w hc xc kk=>
 vk2 m w (show bnd (kJ cs E) _=some r from hc) xc λE1 ys h1 hl xs L1 H1 e1 m1 w1 st sm=>by
  rw [Y9];have ac:xs.length=n:=by rw[<-hn,<-hl,<-e1,X6]
  cases hf:f (letAll ys)with
  | none=>rw[hf]at h1;cases h1
  | some fr=>
   rw[hf]at h1;obtain⟨wl,sl⟩:=kk3 w1;have ev:xs.map Sl.v=(xs.map Sl.let).map Sl.v:=by rw[Y2];rfl
   rw[ev];refine⟨xs.map Sl.let,fr,rfl,by rw[X6];exact ac,wl.left,by rw[<-e1]at hf;rw[kqc];exact hf,λE' c ee C H' hm s'=>?_,λE' a ee y H' e2 e3 w' s'=>?_⟩
   ·subst ee;cases oq9 h1;obtain⟨w2,s2⟩:=stay wl s' ⟨λ_ z=>(nomatch z),Y1,λ_ z=>(nomatch z)⟩;exact xc _ _ rfl C L1 H' hm m1 w2 ((st.trans sl).trans s2)
   ·subst ee;cases oq9 h1;obtain⟨w2,s2⟩:=stay wl s' w';refine kk _ _ rfl y L1 H' e2 e3 m1 w2 ((st.trans sl).trans s2) λhq=>?_
    obtain⟨a1,a2⟩:=sm hq;refine⟨λb ob hb=>s'.keep b ob (a1 b ob hb) λz=>?_,λb hb=>?_⟩
    ·rw[wJ]at z;exact nomatch z
    ·rcases s'.own b (by rw[jk];exact ll9 _ hb)with z|z
     ·rw[wJ]at z;exact nomatch z
     ·exact xx a1 z
end
noncomputable def vq4(K:PySem.W.Frag):R2:=λx y H Q=>∃l k xs,x=.ref l/\y=.int k/\LsR K H l xs/\-(2 ^ 63)<=k/\k<2 ^ 63/\xs.length*k.toNat<=sizeLine /\
 ∀p,H p=none->Q (.ref p) (upd H p (.lst (List.replicate k.toNat xs).flatten))
theorem op_repR{X:Cx}:OpR X (binaryOp .Mult) (vq4 X.K):=by
 intro pins s σ H x y v u Q I rx ry h;obtain⟨l,k,xs,rfl,rfl,hH,h1,h2,hz,q⟩:=h;cases rx;obtain⟨t,rfl⟩:=ry;obtain⟨z,aa,n,r,e⟩:=hH.is I;have hl:=r.length;have ac:aa.toArray.size*k.toNat<=sizeLine:=by rw[X7,<-hl];exact hz
 have hcap:¬aa.toArray.size*k.toNat>(2 ^ 63 - 1) / 8:=by
  have:(sizeLine:Nat)<=(2 ^ 63 - 1) / 8:=by decide
  omega
 have hfit:¬(!Builtin.List.listFitsIndex k)=true:=by
  rw[fitsIndex_both h1 h2];exact Bool.false_ne_true
 have ov:¬Builtin.List.listTooLong (aa.toArray.size*k.toNat)=true:=by
  rw[qw1 ac];exact Bool.false_ne_true
 have je:List.foldl (λx1 x2=>x1++x2) #[] (List.replicate (if aa.toArray.isEmpty=true then 0 else k.toNat) aa.toArray)=(List.replicate k.toNat aa).flatten.toArray:=by
  have f0:∀m:Nat,List.foldl (λx1 x2=>x1++x2) #[] (List.replicate m aa.toArray)=(List.replicate m aa).flatten.toArray:=λm=>by
   have:=kjf aa m [];rw[List.nil_append]at this;exact this
  rw[f0];cases aa with
  |nil=>simp
  |cons a r'=>rw[Xm (by simp)]
 refine wpAny_binaryOp_repeat_ref (T:="list") (U:="int") (by decide) ⟨_,e,rfl⟩ (λs'=>typeIs_int s' k t) noFill_list_mul F.fills_int_mul F.slot_int_rmul repeat_list F.slot_int_index.lookup
  (call_meets F.slot_int_rmul (typeIs_int s k t) F.entry_int_rmul (F.args_int_rmul_2 _ _) (int___rmul___int_list k t l aa.toArray n)
   ⟨e,rfl,⟨_,e,rfl⟩,call_meets F.slot_list_mul ⟨_,e,rfl⟩ F.entry_list_mul (F.args_list_mul_2 _ _) (AutoListH.list___mul___list_int_3 l aa.toArray n k t hfit hcap ov) ⟨e,?_⟩⟩)
 rw[je];exact⟨.ref _,_,I.lnew (t':=s.toks) (r.rep k.toNat) (by rw[qq4,Nat.mul_comm];exact hz),rfl,q _ I.fresh⟩
def qz9(K:PySem.W.Frag):R2:=λx y H Q=>rI IntMulOk (λi j=>.int (i*j)) x y H Q\/vq4 K x y H Q\/vq3 x y H Q
theorem vva{X:Cx}{K:PySem.W.Frag}(hK:autoParam (X.K=K) Ŕ):OpR X (binaryOp .Mult) (qz9 K):=by subst hK;exact op_mulI.or (op_repR.or qzy)
theorem kz0{a:Int}(h:a.natAbs.log2<2000000):Builtin.Int.intBits a<=2000000:=by
 unfold Builtin.Int.intBits
 split
 ·exact Z1 _
 ·omega
theorem mulOk_of{a b:Int}(h:VW a b=true):IntMulOk a b:=by
 unfold VW Zv at h;simp only[Bool.or_eq_true,Bool.and_eq_true,decide_eq_true_eq]at h;rcases h with(h|h)|h
 ·exact .of_left (intBits_le_64 h.1 h.2)
 ·exact .of_right (intBits_le_64 h.1 h.2)
 ·have h1:=kz0 h.1;have h2:=kz0 h.2;unfold IntMulOk Builtin.Int.intTooBig;have e:(2:Nat) ^ 27=134217728:=by decide
  have hb:bitsLine=134217728:=e;simp only[Bool.and_eq_true,decide_eq_true_eq,not_and];intro _ _;omega
theorem RepA.reps{K:PySem.W.Frag}{H:Hp}{ds:List D}{xs:List V}{bs:List Addr}(h:RepA K H true ds xs bs):∀k:Nat,∃cs,RepA K H true (List.replicate k ds).flatten (List.replicate k xs).flatten cs/\∀b∈cs,b∈bs
 |0=>⟨[],by simp only[List.replicate_zero,List.flatten_nil];unfold RepA;exact⟨rfl,rfl⟩,λ_ z=>(nomatch z)⟩
 |k+1=>by
  obtain⟨cs,r,hc⟩:=RepA.reps h k;rw[List.replicate_succ,List.replicate_succ,Yv,Yv];exact⟨bs++cs,r.app h,λb hb=>(List.mem_append.mp hb).elim id (hc b)⟩
theorem qxr{K:PySem.W.Frag}:Ad2 K (qz9 K) YJ:=by
 intro H x y s Q ox oy hf k;unfold YJ at hf;dsimp only at hf
 split at hf
 ·rename_i i j e1 e2
  split at hf
  ·rename_i hm;cases oq9 hf;exact .inl ⟨i,j,vQ ox e1,vQ oy e2,mulOk_of hm,k ⟨.dp,.int _,.int _,[]⟩ H rfl rfl Z5⟩
  ·cases hf
 ·rename_i a n e1 e2
  split at hf
  ·rename_i hc;cases oq9 hf;obtain⟨l,xs,bs,e3,q3,r3,h3⟩:=xK ox (.inl e1) hc.2.2.2;have q3:LsR K H l xs:=by rcases q3 with⟨_,z⟩|⟨z,_⟩;exact z;rw[e1]at z;cases z
   obtain⟨cs,r4,h4⟩:=r3.reps n.toNat;refine .inr (.inl ⟨l,n,xs,e3,vQ oy e2,q3,hc.1,hc.2.1,by rw[<-r3.len];exact hc.2.2.1,λp hp=>?_⟩);exact k ⟨.rt,.lst _,.ref p,p::cs⟩ _ rfl rfl (Kk hp r4 λb hb=>ll9 _ (h3 b (h4 b hb)))
  ·cases hf
 ·rename_i z n e1 e2
  split at hf
  ·rename_i hc;cases oq9 hf;exact .inr (.inr ⟨z,n,(xj ox e1).1,vQ oy e2,hc.1,k ⟨.dp,.str _,.str _,[]⟩ H rfl rfl (vzb hc.2)⟩)
  ·cases hf
 ·cases hf
def dec(h:Heap)(u:Value):D:=open Classical in if e:∃d,jV h d u then e.choose else .non
theorem qxk{h:Heap}{u:Value}{d:D}(r:jV h d u):dec h u=d:=by
 unfold dec;have e:∃d,jV h d u:=⟨d,r⟩;rw[dif_pos e];exact kqj e.choose_spec r
theorem kx6{h:Heap}{d:D}:∀{ds:List D} {us:List Value},CReps h ds us->us.any (λu=>peq (dec h u) d)=ds.any λz=>peq z d
 |[],_,r=>by unfold CReps at r;rw[r];rfl
 |z::ds,_,r=>by
  unfold CReps at r;obtain⟨u,rr,rfl,h1,h2⟩:=r;rw[List.any_cons,List.any_cons,qxk h1,kx6 h2]
theorem kxz{h:Heap}:∀{ds:List D} {us:List Value} {u:Value},CReps h ds us->u∈us->∃d∈ds,jV h d u
 | [],_,_,r,hu=>by unfold CReps at r;rw[r]at hu;cases hu
 | z::ds,_,u,r,hu=>by
  unfold CReps at r;obtain⟨u',rr,rfl,h1,h2⟩:=r;rcases List.mem_cons.mp hu with rfl|hu
  ·exact⟨z,X3,h1⟩
  ·obtain⟨d,hd,c⟩:=kxz h2 hu;exact⟨d,lc9 _ hd,c⟩
theorem kvw:∀{n:Nat} {ds:List D} {d:D},D.flats n ds=true->d∈ds->d.flat n=true
 |_,[],_,_,h=>by cases h
 |n,z::ds,d,f,h=>by
  unfold D.flats at f;rw[Bool.and_eq_true]at f;rcases List.mem_cons.mp h with rfl|h
  ·exact f.1
  ·exact kvw f.2 h
section
variable {X:Cx}{Z:Fx0}{K:PySem.W.Frag}{q qa qb:Bool}{a b c:Ex}{u v:Ts}{e ea eb:Expr}{es:List Expr}{pos p:Pos}{σ:L2.St}{H:Hp}{L:Ls}{E:En}
noncomputable def qx4(K:PySem.W.Frag)(io:Bool):R2:=λx y H Q=>∃d ds as bs p xs,RepL K H true d x as/\y=.ref p/\(SqL K H p xs\/SqT K H p xs)/\RepA K H true ds xs bs/\d.flat 30=true/\D.flats 30 ds=true/\Q (.bl (if io then !(ds.any λz=>peq z d)else ds.any λz=>peq z d)) H
theorem vj1(hu:X.A.units+64<cLine):OpR X (compareOp .In) (qx4 X.K false):=by
 intro pins s σ H x y v u Q I rx ry h;obtain⟨d,ds,as,bs,p,xs,h1,rfl,hq,ra,f1,f2,q⟩:=h;cases ry;have c1:=Vj I h1 f1 rx;have he:∀{us:List Value},CReps s.heap ds us->∀w,w∈us.toArray->SeqAt.EqAt X.A.in1 s w v (peq (dec s.heap w) d):=fun {us} cr w hw=>by
  obtain⟨d',hd,c⟩:=kxz cr (by simpa using hw);rw[qxk c];exact kza 30 (kvw f2 hd) c c1 (by have:=L3.in1_units X.A;omega)
 rcases hq with hq|hq
 ·obtain⟨aa,r,pl,hz⟩:=I.list hq;have cr:=creps_of I ra f2 r;refine SeqAt.in_listAt _ pl.isList (he cr) ⟨.bl _,H,I,rfl,?_⟩;rw[List.any_toArray,kx6 cr];exact q
 ·obtain⟨aa,r,pl,hz⟩:=I.tuple hq;have cr:=creps_of I ra f2 r;refine SeqAt.in_tupleAt _ pl (he cr) ⟨.bl _,H,I,rfl,?_⟩;rw[List.any_toArray,kx6 cr];exact q
def qx3(io:Bool):R2:=λx y H Q=>∃i j,x=.str i/\y=.str j/\Q (.bl (if io then !Zq i j else Zq i j)) H
theorem opInStr:OpR X (compareOp .In) (qx3 false):=λpins s σ H x y v u Q I rx ry ⟨i,j,e1,e2,q⟩=>qkw pins s σ H x y v u Q I rx ry ⟨i,j,e1,e2,q⟩
def vxz(K:PySem.W.Frag)(io:Bool):R2:=λx y H Q=>qx3 io x y H Q\/qx4 K io x y H Q
theorem vvc(hu:X.A.units+64<cLine)(hK:autoParam (X.K=K) Ŕ):OpR X (compareOp .In) (vxz K false):=by subst hK;exact opInStr.or (vj1 hu)
theorem xW{H:Hp}{l:Addr}{xs:List V}(h:LsR K H l xs):SqL K H l xs:=h.sq
theorem qqj{x y:Sl}{ys:List D}{io:Bool}{Q:VK}(ox:x.ok K H)(oy:y.ok K H)(hy:y.d=.lst ys\/y.d=.tup ys)(hc:(x.d.flat 30&&D.flats 30 ys)=true)
  (k:Q (.bl (if io then !(ys.any λz=>peq z x.d)else ys.any λz=>peq z x.d)) H):vxz K io x.v y.v H Q:=by
 rw[Bool.and_eq_true]at hc;obtain⟨l,xs,bs,e3,q3,r3,_⟩:=items oy hy;have r3':RepA K H true ys xs bs:=by
  cases ho:(y.o != .dp)with
  |true=>rw[ho]at r3;exact r3
  |false=>rw[ho]at r3;exact r3.wk
 refine .inr ⟨x.d,ys,x.as,bs,l,xs,RepO.wk ox,e3,?_,r3',hc.1,hc.2,k⟩;rcases q3 with⟨_,z⟩|⟨_,z⟩
 ·exact .inl (xW z)
 ·exact .inr z
theorem vwz:Ad2 K (vxz K false) (pu2 Q0):=by
 intro H x y s Q ox oy hf k;unfold pu2 Q0 fIn at hf;dsimp only at hf;cases hy:y.d with
 | lst ys=>
  rw[hy]at hf;dsimp only at hf
  split at hf
  ·rename_i hc;cases oq9 hf;exact qqj ox oy (.inl hy) hc (k ⟨.dp,.bl _,.bl _,[]⟩ H rfl rfl wZ)
  ·cases hf
 | tup ys=>
  rw[hy]at hf;dsimp only at hf
  split at hf
  ·rename_i hc;cases oq9 hf;exact qqj ox oy (.inr hy) hc (k ⟨.dp,.bl _,.bl _,[]⟩ H rfl rfl wZ)
  ·cases hf
 | str b=>
  rw[hy]at hf;dsimp only at hf
  split at hf
  ·rename_i a hx;cases oq9 hf;exact .inl ⟨a,b,(xj ox hx).1,(xj oy hy).1,k ⟨.dp,.bl _,.bl _,[]⟩ H rfl rfl wZ⟩
  ·cases hf
 |_=>rw[hy]at hf;cases hf
theorem kxm{g:Bool}{d:D}{v:V}{as:List Addr}(h:RepL K H g d v as):decide (v=.non)=isNon d:=by
 cases d with
 |non=>unfold RepL at h;rw[h.1];rfl
 |bl _=>unfold RepL at h;rw[h.1];rfl
 |int _=>unfold RepL at h;rw[h.1];rfl
 |str _=>unfold RepL at h;rw[h.1];rfl
 |tup _=>unfold RepL at h;obtain⟨a,xs,e,_⟩:=h;rw[e];rfl
 |lst _=>unfold RepL at h;obtain⟨a,xs,bs,e,_⟩:=h;rw[e];rfl
 |dct _=>unfold RepL at h;obtain⟨a,xs,bs,e,_⟩:=h;rw[e];rfl
 |obj _ _=>unfold RepL at h;obtain⟨_,x,o,C,e,_⟩:=h;rw[e];rfl
theorem vwy:Ad2 K (λx y H Q=>y=.non/\Q (.bl (decide (x=.non))) H) (f2First fIsNon):=by
 intro H x y s Q ox oy hf k;unfold f2First fIsNon at hf;dsimp only at hf
 split at hf
 ·rename_i hy;cases oq9 hf;have e:=kxm (RepO.wk oy);rw[hy]at e;refine⟨of_decide_eq_true e,?_⟩;rw[kxm (RepO.wk ox)];exact k ⟨.dp,.bl _,.bl _,[]⟩ H rfl rfl wZ
 ·cases hf
theorem qxg(n:Nat)(i:Int):_root_.Q.ixN n i=L2.ixN n i:=rfl
theorem vjf{x y:Sl}{d:D}{Q:VK}(ox:x.ok K H)(oy:y.ok K H)(hf:jw x.d y.d=some d)(k:∀z:Sl,z.o=sub x.o->z.d=d->z.ok K H->(∀b∈z.frz,b∈x.frz)->(∀b∈z.as,b∈x.as)->Q z.v H):rIx K x.v y.v H Q:=by
 have seq:∀ds:List D,(x.d=.lst ds\/x.d=.tup ds)->∀i:Int,y.d=.int i->((_root_.Q.ixN ds.length i).bind λj=>ds[j]?)=some d->rIx K x.v y.v H Q:=by
  intro ds hx i hy hd;obtain⟨l,xs,bs,e3,q3,r3,h3,h4⟩:=items ox hx;cases hj:_root_.Q.ixN ds.length i with
  | none=>rw[hj]at hd;cases hd
  | some j=>
   rw [hj]at hd;obtain⟨v,cs,e4,r4,h5⟩:=r3.get (show ds[j]?=some d from hd);have gz:atI xs i=some v:=by
    unfold atI;rw[<-r3.len,<-qxg,hj];exact e4
   have fin:Q v H:=by
    cases ho:x.o with
    | dp=>
     rw[ho]at r4;exact k ⟨.dp,d,v,cs⟩ (by rw[ho];rfl) rfl r4 (λb hb=>(nomatch hb)) λb hb=>h3 b (h5 b hb)
    | no=>
     rw[ho]at r4;exact k ⟨.no,d,v,cs⟩ (by rw[ho];rfl) rfl r4 (λb hb=>h4 (by rw[ho];exact(λz=>nomatch z)) b (h5 b hb)) λb hb=>h3 b (h5 b hb)
    | rt=>
     rw[ho]at r4;exact k ⟨.no,d,v,cs⟩ (by rw[ho];rfl) rfl r4 (λb hb=>h4 (by rw[ho];exact(λz=>nomatch z)) b (h5 b hb)) λb hb=>h3 b (h5 b hb)
   rcases q3 with⟨_,z⟩|⟨_,z⟩
   ·exact .inl ⟨l,xs,i,v,e3,vQ oy hy,xW z,gz,fin⟩
   ·exact .inr (.inl ⟨l,xs,i,v,e3,vQ oy hy,z,gz,fin⟩)
 unfold jw at hf;cases hx:x.d with
 | lst ds=>
  rw [hx]at hf;cases hy:y.d with
  | int i=>rw[hy]at hf;exact seq ds (.inl hx) i hy hf
  | _=>rw[hy]at hf;cases hf
 | tup ds=>
  rw [hx]at hf;cases hy:y.d with
  | int i=>rw[hy]at hf;exact seq ds (.inr hx) i hy hf
  | _=>rw[hy]at hf;cases hf
 | str z=>
  rw [hx]at hf;cases hy:y.d with
  | int i=>
   rw [hy]at hf;have hf:((_root_.Q.ixN z.cps.size i).bind λj=>(z.cps.toList[j]?).map λc=>D.str ⟨#[c]⟩)=some d:=hf;cases hj:_root_.Q.ixN z.cps.size i with
   | none=>rw[hj]at hf;cases hf
   | some j=>
    rw[hj]at hf;cases hc:z.cps.toList[j]? with
    | none=>rw[Option.bind_some,hc]at hf;cases hf
    | some c=>
     rw[Option.bind_some,hc]at hf;cases oq9 hf;have gz:atI z.cps.toList i=some c:=by
      unfold atI;rw[Xb,<-qxg,hj];exact hc
     obtain⟨e1,hz⟩:=xj ox hx;refine .inr (.inr ⟨z,i,c,e1,vQ oy hy,hz,gz,?_⟩);have rp:∀g,RepL K H g (.str ⟨#[c]⟩) (.str ⟨#[c]⟩) []:=λg=>Qk (show(1:Nat)<=sizeLine by decide)
     cases ho:x.o with
     |dp=>exact k ⟨.dp,.str ⟨#[c]⟩,.str ⟨#[c]⟩,[]⟩ (by rw[ho];rfl) rfl (rp false) (λb hb=>(nomatch hb)) λb hb=>(nomatch hb)
     |no=>exact k ⟨.no,.str ⟨#[c]⟩,.str ⟨#[c]⟩,[]⟩ (by rw[ho];rfl) rfl (rp true) (λb hb=>(nomatch hb)) λb hb=>(nomatch hb)
     |rt=>exact k ⟨.no,.str ⟨#[c]⟩,.str ⟨#[c]⟩,[]⟩ (by rw[ho];rfl) rfl (rp true) (λb hb=>(nomatch hb)) λb hb=>(nomatch hb)
  |_=>rw[hy]at hf;cases hf
 |non=>rw[hx]at hf;cases hf
 |bl _=>rw[hx]at hf;cases hf
 |int _=>rw[hx]at hf;cases hf
 |dct _=>rw[hx]at hf;cases hf
 |obj _ _=>rw[hx]at hf;cases hf
theorem q_ix(ha:QV X Z qa a ea)(hb:QV X Z true b eb)(hs:XW eb)(hK:autoParam (X.K=Z.K) Ŕ):QV X Z qa (j8 a b) (.Subscript ea eb pos):=
 kY (qzq (hK▸qqc) ha hb hs) fun σ H Q ak=>ex8 ak λE L r m w hc xc k=>by
  refine vz m w (show bnd (a E) _=some r from hc) xc λE1 s h1 x L1 H1 e1 e2 m1 w1 ok fr sr st sm=>?_
  refine vz m1 w1 h1 (xc.step st) λE2 s2 h2 y L2 H2 e3 e4 m2 w2 jf nk oj bm dl=>?_
  obtain⟨z,hz,rfl⟩:=wW h2;cases hf:jw s.2 s2.2 with
  |none=>rw[hf]at hz;cases hz
  |some d=>
   rw[hf]at hz;cases oq9 hz;have kx:=Qj ok fr bm (dl rfl);refine vjf kx.1 jf (by rw[e2,e4];exact hf) λz zo zd n9 zf za=>?_
   exact k _ _ rfl z L2 H2 (by rw[zo,e1]) zd m2 w2 n9 (λb hb=>kx.2 b (zf b hb)) (Qv sr za) (st.trans bm) λhq=>kw (sm hq) (dl rfl)
theorem z9{op}(h:QE X Z q a ea):QE X Z q a (.BoolOp op [ea] pos):=vqu h
theorem xz(ha:QV X Z q a ea)(hb:QE X Z q b (.BoolOp .And (eb::es) pos)):QE X Z q (wK a b) (.BoolOp .And (ea::eb::es) pos):=kY (vqz ha hb) fun σ H Q ak=>ex8 ak λE L r m w hc xc k=>
 vz m w (show bnd (a E) _=some r from hc) xc λE1 s h1 x L1 H1 e1 e2 m1 w1 ok fr sr st sm=>by
  cases hs:s.2 with
  | bl kk=>
   rw[hs]at h1;refine⟨kk,Q8 ok (e2.trans hs),?_⟩;cases kk with
   |true=>
    rw[Xf rfl];exact⟨E1,L1,r,m1,w1,h1,xc.step st,λE' a z x L' H' e1 e2 m' w' dq il=>k E' a z x L' H' e1 e2 m' w' (st.trans dq) λhq=>⟨kw (sm hq) (il hq).1,λb hb=>xx (sm hq) ((il hq).2 b hb)⟩⟩
   |false=>
    rw[Xm (by decide)];cases oq9 h1;obtain⟨w3,cw⟩:=Kj w1 st (wZ (K:=Z.K) (H:=H1) (i:=false) (fr:=[])) (λ_ z=>(nomatch z)) (λ_ z=>(nomatch z)) (λ_ z=>(nomatch z));exact k _ _ rfl ⟨.dp,.bl false,.bl false,[]⟩ L1 H1 rfl rfl m1 w3 cw λhq=>⟨sm hq,λ_ z=>(nomatch z)⟩
  |_=>rw[hs]at h1;cases h1
theorem vz1(ha:QV X Z q a ea)(hb:QE X Z q b (.BoolOp .Or (eb::es) pos)):QE X Z q (cOr a b) (.BoolOp .Or (ea::eb::es) pos):=kY (vz8 ha hb) fun σ H Q ak=>ex8 ak λE L r m w hc xc k=>
 vz m w (show bnd (a E) _=some r from hc) xc λE1 s h1 x L1 H1 e1 e2 m1 w1 ok fr sr st sm=>by
  cases hs:s.2 with
  | bl kk=>
   rw[hs]at h1;refine⟨kk,Q8 ok (e2.trans hs),?_⟩;cases kk with
   |false=>
    rw[Xm (by decide)];exact⟨E1,L1,r,m1,w1,h1,xc.step st,λE' a z x L' H' e1 e2 m' w' dq il=>k E' a z x L' H' e1 e2 m' w' (st.trans dq) λhq=>⟨kw (sm hq) (il hq).1,λb hb=>xx (sm hq) ((il hq).2 b hb)⟩⟩
   |true=>
    rw[Xf rfl];cases oq9 h1;obtain⟨w3,cw⟩:=Kj w1 st (wZ (K:=Z.K) (H:=H1) (i:=true) (fr:=[])) (λ_ z=>(nomatch z)) (λ_ z=>(nomatch z)) (λ_ z=>(nomatch z));exact k _ _ rfl ⟨.dp,.bl true,.bl true,[]⟩ L1 H1 rfl rfl m1 w3 cw λhq=>⟨sm hq,λ_ z=>(nomatch z)⟩
  |_=>rw[hs]at h1;cases h1
theorem wja{x:Sl}{k:Bool}(ok:x.ok K H)(h:truth x.d=some k)(hd:∀ai,x.d≠.dct ai):vxg K x.v H k:=by
 cases hx:x.d with
 |non=>rw[hx]at h;rw[qxe ok hx];exact(oq9 h).symm
 |bl b=>rw[hx]at h;rw[Q8 ok hx];exact(oq9 h).symm
 |int i=>rw[hx]at h;rw[vQ ok hx];exact(oq9 h).symm
 |str z=>
  rw[hx]at h;obtain⟨e,hz⟩:=xj ok hx;rw[e];refine⟨hz,?_⟩;rw[<-oq9 h];show(z.cps.size != 0)=(((z.cps.size:Nat):Int) != 0);rw[Bool.eq_iff_iff];simp
 |lst ds=>
  rw[hx]at h;obtain⟨a,xs,bs,e,q,r,_⟩:=items ok (.inl hx);rw[e];have q':LsR K H a xs:=by rcases q with⟨_,z⟩|⟨z,_⟩;exact z;rw[hx]at z;cases z
  refine .inl ⟨xs,xW q',?_⟩;rw[<-oq9 h];have:=r.len;cases ds<;>cases xs<;>simp_all
 |tup ds=>
  rw[hx]at h;obtain⟨a,xs,bs,e,q,r,_⟩:=items ok (.inr hx);rw[e];have q':SqT K H a xs:=by rcases q with⟨z,_⟩|⟨_,z⟩;rw[hx]at z;cases z;exact z
  refine .inr (.inl ⟨xs,q',?_⟩);rw[<-oq9 h];have:=r.len;cases ds<;>cases xs<;>simp_all
 |dct ai=>exact absurd hx (hd ai)
 |obj c f=>rw[hx]at h;cases h
theorem kqt{d:D}{k:Bool}(h:truthQ d=some k):truth d=some k/\∀ai,d≠.dct ai:=by
 cases d<;>first|exact⟨h,λ_ z=>nomatch z⟩|cases h
theorem v8(h:QV X Z q a ea)(he:autoParam (∀dz,isTrue ea X.env dz=(do let v <-dz;standAt ea.pos;holding [v] (truthy v))) Ŗ)(hK:autoParam (X.K=Z.K) Ŕ):QT X Z q (tEQ a) ea:=kxp (qvv h he) fun σ H Q ak=>ex8 ak λE L r m w hc xc k=>
 vz m w (show bnd (a E) _=some r from hc) xc λE1 s h1 x L1 H1 e1 e2 m1 w1 ok fr sr st sm=>by
  obtain⟨kk,hk,rfl⟩:=wW h1;obtain⟨h2,h3⟩:=kqt hk;exact⟨kk,hK▸wja ok (by rw[e2];exact h2) (by rw[e2];exact h3),k _ _ rfl L1 H1 m1 w1 st sm⟩
theorem vqd(h:QV X Z q a ea)(hK:autoParam (X.K=Z.K) Ŕ):QE X Z q (qwu a) (.UnaryOp .Not ea pos):=by
 intro pins s σ H Q I ⟨E,L,r,m,w,hc,xc,k⟩;refine UnaryOp_ (thn (h pins s σ H _ I (vz (G:=λv H1=>∃kk,vxg X.K v H1 kk/\Q (.bl (!kk)) H1) m w (show bnd (a E) _=some r from hc) xc λE1 s h1 x L1 H1 e1 e2 m1 w1 ok fr sr st sm=>?_)) λv s1 ⟨x,H1,I1,r1,kk,t1,q1⟩=>?_)
 ·obtain⟨y,hy,rfl⟩:=wW h1;cases hk:truthQ s.2 with
  |none=>rw[hk]at hy;cases hy
  |some kk=>
   rw[hk]at hy;cases oq9 hy;obtain⟨h2,h3⟩:=kqt hk;refine⟨kk,hK▸wja ok (by rw[e2];exact h2) (by rw[e2];exact h3),?_⟩;obtain⟨w3,cw⟩:=Kj w1 st (wZ (K:=Z.K) (H:=H1) (i:=!kk) (fr:=[])) (λ_ z=>(nomatch z)) (λ_ z=>(nomatch z)) (λ_ z=>(nomatch z));exact k _ _ rfl ⟨.dp,.bl (!kk),.bl (!kk),[]⟩ L1 H1 rfl rfl m1 w3 cw λhq=>⟨sm hq,λ_ z=>(nomatch z)⟩
 ·exact not_of (thn (qx0 pins s1 σ H1 x v (λkk H2=>Q (.bl (!kk)) H2) I1 r1 ⟨kk,t1,q1⟩) λc s2 ⟨H2,I2,q2⟩=>⟨.bl (!c),H2,I2,rfl,q2⟩)
end
theorem jxb{α:Type}:∀{L:List α} {i:Nat} {q:α},L[i]?=some q->∃A B,L=A++q::B/\∀q',L.set i q'=A++q'::B
 |[],_,_,h=>by simp at h
 |a::L,0,q,h=>by
  have e:a=q:=by simpa using h
  subst e;exact⟨[],L,rfl,λ_=>rfl⟩
 |a::L,i+1,q,h=>by
  obtain⟨A,B,e,f⟩:=jxb (L:=L) (i:=i) (by simpa using h);exact⟨a::A,B,by rw[e];rfl,λq'=>by rw[List.set_cons_succ,f];rfl⟩
section
variable {K:PySem.W.Frag}{H:Hp}{M T L:Ls}{y y':Sl}{l:Addr}{ob:HO}
theorem World.write(w:World K H (some y::(T++M)))(hl:l∈y.own)(ok':y'.ok K (upd H l ob))(nd:y'.own.Nodup)(h1:∀a∈y'.own,a∈y.own\/a∈j6 T)(h2:∀a∈y'.frz,a∈y.as\/a∈j6 T\/a∈jY T)(h3:∀a∈y'.own,a∉y'.frz):
  World K (upd H l ob) (some y'::M)/\Step H (some y::(T++M)) (upd H l ob) (some y'::M):=by
 have wn:=w.nd;rw [jk,jZ,X5,X5]at wn;obtain⟨n1,⟨n2,n3,n4⟩,n5⟩:=wn;have oy:l∈j6 (some y::(T++M)):=by rw[jk];exact ll9 _ hl
 have jn:=w.own_al oy;have ds:∀a,(a∈y.own\/a∈j6 T\/a∈j6 M)->¬(a∈y.frz\/a∈jY T\/a∈jY M):=λa ha hf=>by
  refine w.ds a ?_ ?_
  ·rw[jk,jZ];rcases ha with z|z|z
   ·exact ll9 _ z
   ·exact lr9 _ (ll9 _ z)
   ·exact lr9 _ (lr9 _ z)
  ·rw[k8,kW];rcases hf with z|z|z
   ·exact ll9 _ z
   ·exact lr9 _ (ll9 _ z)
   ·exact lr9 _ (lr9 _ z)
 have noM:∀z,some z∈M->l∉z.as:=λz hz ha=>by
  rcases Sl.as_of ha with q|q
  ·exact n5 l hl l (lr9 _ (mem_owned.mpr ⟨z,hz,q⟩)) rfl
  ·exact ds l (.inl hl) (.inr (.inr (mem_frozen.mpr ⟨z,hz,q⟩)))
 have ke:∀a o,H a=some o->a≠l->upd H l ob a=some o:=λa o e ne=>by rw[kX ne];exact e
 have kp:∀as:List Addr,l∉as->Kp H (upd H l ob) as:=λas hn=>by
  refine⟨λa xs e=>ke a _ e λz=>?_,λa o u e=>ke a _ e λz=>?_,λa ha o e=>ke a o e λz=>hn (z▸ha)⟩
  ·subst z;rcases jn with⟨_,q⟩|⟨_,q⟩|⟨_,q⟩<;>(rw[e]at q;cases q)
  ·subst z;rcases jn with⟨_,q⟩|⟨_,q⟩|⟨_,q⟩<;>(rw[e]at q;cases q)
 have wM:World K (upd H l ob) M:=by
  have w1:World K H M:=w.tail.right;exact⟨λz hz=>RepO.kp (w1.ok z hz) (kp _ (noM z hz)),w1.nd,w1.ds⟩
 refine⟨wM.cons ok' nd (λa ha hM=>?_) (λa ha hM=>?_) (λa ha hM=>?_) h3,λa o e hn=>ke a o e λz=>hn (z▸oy),λa ha=>?_,λa ha=>?_⟩
 ·rcases h1 a ha with z|z
  ·exact n5 a z a (lr9 _ hM) rfl
  ·exact n4 a z a hM rfl
 ·rcases h1 a ha with z|z
  ·exact ds a (.inl z) (.inr (.inr hM))
  ·exact ds a (.inr (.inl z)) (.inr (.inr hM))
 ·rcases h2 a ha with z|z|z
  ·rcases Sl.as_of z with z|z
   ·exact n5 a z a (lr9 _ hM) rfl
   ·exact ds a (.inr (.inr hM)) (.inl z)
  ·exact n4 a z a hM rfl
  ·exact ds a (.inr (.inr hM)) (.inr (.inl z))
 ·rw[jk]at ha;rw[jk,jZ];rcases List.mem_append.mp ha with z|z
  ·rcases h1 a z with z|z
   ·exact .inl (ll9 _ z)
   ·exact .inl (lr9 _ (ll9 _ z))
  ·exact .inl (lr9 _ (lr9 _ z))
 ·rw[k8]at ha;rw[jk,jZ,k8,kW];rcases List.mem_append.mp ha with z|z
  ·rcases h2 a z with z|z|z
   ·rcases Sl.as_of z with z|z
    ·exact .inr (.inl (ll9 _ z))
    ·exact .inl (ll9 _ z)
   ·exact .inr (.inl (lr9 _ (ll9 _ z)))
   ·exact .inl (lr9 _ (ll9 _ z))
  ·exact .inl (lr9 _ (lr9 _ z))
theorem World.writeAt{i:Nat}(w:World K H (T++L))(hy:L[i]?=some (some y))(hl:l∈y.own)(ok':y'.ok K (upd H l ob))(nd:y'.own.Nodup)(h1:∀a∈y'.own,a∈y.own\/a∈j6 T)(h2:∀a∈y'.frz,a∈y.as\/a∈j6 T\/a∈jY T)(h3:∀a∈y'.own,a∉y'.frz):
  World K (upd H l ob) (L.set i (some y'))/\Step H (T++L) (upd H l ob) (L.set i (some y')):=by
 obtain⟨A,B,e,f⟩:=jxb hy;rw[f];subst e;have p:(T++(A++some y::B)).Perm (some y::(T++(A++B))):=by
  refine(List.Perm.append_left T (List.perm_middle (a:=some y) (l₁:=A) (l₂:=B))).trans List.perm_middle
 obtain⟨w2,s2⟩:=World.write (M:=A++B) (w.perm p) hl ok' nd h1 h2 h3;exact⟨w2.perm List.perm_middle.symm,s2.perm p.symm List.perm_middle.symm⟩
end
theorem RepA.snoc{K:PySem.W.Frag}{H:Hp}{g:Bool}{d:D}{x:V}{cs:List Addr}(h:RepL K H g d x cs){ds:List D}{xs:List V}{bs:List Addr}(r:RepA K H g ds xs bs):RepA K H g (ds++[d]) (xs++[x]) (bs++cs):=by
 refine RepA.app ?_ r;unfold RepA;exact⟨x,[],cs,[],rfl,by simp,h,by unfold RepA;exact⟨rfl,rfl⟩⟩
theorem qkv{K:PySem.W.Frag}{H:Hp}{y:Sl}{ds:List D}(ok:y.ok K H)(hd:y.d=.lst ds)(ho:y.o≠.no):∃l xs bs,y.v=.ref l/\H l=some (.lst xs)/\y.as=l::bs/\l∈y.own/\RepA K H (y.o != .dp) ds xs bs:=by
 obtain⟨o,d,v,as⟩:=y;dsimp only at hd ho;subst hd;cases o with
 |no=>exact absurd rfl ho
 |rt=>
  obtain⟨a,xs,bs,rfl,r,q,rfl⟩:=(show RepR K H (.lst ds) v as from ok);exact⟨a,xs,bs,rfl,q,rfl,by simp[Sl.own],r⟩
 |dp=>
  have ok:RepL K H false (.lst ds) v as:=ok;unfold RepL at ok;obtain⟨a,xs,bs,rfl,r,q⟩:=ok;rcases q with⟨q,rfl⟩|⟨z,_⟩
  ·exact⟨a,xs,bs,rfl,q,rfl,by simp[Sl.own],r⟩
  ·cases z
theorem qkk{K:PySem.W.Frag}{H:Hp}{T L:Ls}{i:Nat}{y:Sl}{l:Addr}{xs xs':List V}{bs cs:List Addr}{o':Own}{ds':List D}(w:World K H (T++L))(hy:L[i]?=some (some y))(hH:H l=some (.lst xs))(ha:y.as=l::bs)(hl:l∈y.own)(hv:y.v=.ref l)
  (r:RepA K H (o' != .dp) ds' xs' cs) (hc:(o'=.rt/\∀a∈cs,a∈bs\/a∈j6 T\/a∈jY T)\/(o'=.dp/\y.o=.dp/\cs.Nodup/\∀a∈cs,a∈bs\/a∈j6 T)):
  World K (upd H l (.lst xs')) (L.set i (some ⟨o',.lst ds',y.v,l::cs⟩))/\Step H (T++L) (upd H l (.lst xs')) (L.set i (some ⟨o',.lst ds',y.v,l::cs⟩)):=by
 have oL:l∈j6 L:=mem_owned.mpr ⟨y,wQ hy,hl⟩;have oy:l∈j6 (T++L):=by rw[jZ];exact lr9 _ oL
 have nd:=w.nd;rw [jZ,X5]at nd;have nT:l∉j6 T:=λz=>nd.2.2 l z l oL rfl
 have nF:l∉jY T:=λz=>w.ds l oy (by rw[kW];exact ll9 _ z)
 have yn:y.own.Nodup:=by
  obtain⟨A,B,e,_⟩:=jxb hy;have:=nd.2.1;rw[e,jZ,jk,X5]at this;exact(List.nodup_append.mp this.2.1).1
 have nb:l∉bs:=λz=>by
  cases ho:y.o with
  | no=>unfold Sl.own at hl;rw[ho]at hl;exact nomatch hl
  | rt=>
   have:l∈y.frz:=by unfold Sl.frz;rw[ho,ha];exact z
   exact w.ds l oy (by rw[kW];exact lr9 _ (mem_frozen.mpr ⟨y,wQ hy,this⟩))
  | dp=>
   unfold Sl.own at yn;rw[ho,ha]at yn;exact(List.nodup_cons.mp yn).1 z
 have nc:l∉cs:=λz=>by
  rcases hc with⟨_,hc⟩|⟨_,_,_,hc⟩
  ·rcases hc l z with q|q|q
   ·exact nb q
   ·exact nT q
   ·exact nF q
  ·rcases hc l z with q|q
   ·exact nb q
   ·exact nT q
 have kp:Kp H (upd H l (.lst xs')) cs:=by
  have k2:∀a o,H a=some o->a≠l->upd H l (.lst xs') a=some o:=λa o e ne=>by rw[kX ne];exact e
  refine⟨λa zs e=>k2 a _ e λz=>?_,λa o u e=>k2 a _ e λz=>?_,λa ha o e=>k2 a o e λz=>nc (z▸ha)⟩
  ·subst z;rw[hH]at e;cases e
  ·subst z;rw[hH]at e;cases e
 have r':=r.kp kp;rcases hc with⟨rfl,hc⟩|⟨rfl,hdp,ms,hc⟩
 ·refine World.writeAt w hy hl (y':=⟨.rt,.lst ds',y.v,l::cs⟩) ⟨l,xs',cs,hv,r',xX,rfl⟩ (by simp[Sl.own]) (λa h=>?_) (λa h=>?_) (λa h z=>?_)
  ·have:a=l:=by simpa [Sl.own]using h
   subst this;exact .inl hl
  ·rcases hc a (by simpa [Sl.frz]using h)with q|q
   ·exact .inl (by rw[ha];exact lc9 _ q)
   ·exact .inr q
  ·have:a=l:=by simpa [Sl.own]using h
   subst this;exact nc (by simpa [Sl.frz]using z)
 ·have oa:y.own=y.as:=by unfold Sl.own;rw[hdp]
  refine World.writeAt w hy hl (y':=⟨.dp,.lst ds',y.v,l::cs⟩) ?_ (List.nodup_cons.mpr ⟨nc,ms⟩) (λa h=>?_) (λa h=>(nomatch h)) (λa h z=>(nomatch z))
  ·show RepL K _ false (.lst ds') y.v (l::cs);unfold RepL;exact⟨l,xs',cs,hv,r',.inl ⟨xX,rfl⟩⟩
  ·rcases List.mem_cons.mp (show a∈l::cs from h)with q|q
   ·subst q;exact .inl hl
   ·rcases hc a q with q|q
    ·exact .inl (by rw[oa,ha];exact lc9 _ q)
    ·exact .inr q
section
variable {X:Cx}{Z:Fx0}{pn:List Nat}{q:Bool}{c:Ex}{e:Expr}{σ:L2.St}{H:Hp}{L:Ls}{E:En}
theorem vvk{K:PySem.W.Frag}{x:Sl}{ds:List D}(ok:x.ok K H)(hd:x.d=.lst ds):tyV K "list" x.v H:=by
 obtain⟨a,xs,bs,e1,q1,_⟩:=items ok (.inl hd);rw[e1];rcases q1 with⟨_,z⟩|⟨z,_⟩
 ·exact .inl ⟨rfl,xs,z.sq⟩
 ·rw[hd]at z;cases z
theorem vw7{K:PySem.W.Frag}{x:Sl}(ok:x.ok K H)(b:Bool)(hb:b=false->qW x.sd=true):∃cs,RepL K H b x.d x.v cs/\(∀a∈cs,a∈x.as)/\(b=false->∀a∈cs,a∈x.own)/\(b=false->x.own.Nodup->cs.Nodup):=by
 cases b with
 | true=>exact⟨x.as,RepO.wk ok,λ_ h=>h,(λz=>by cases z),(λz=>by cases z)⟩
 | false=>
  have t:=hb rfl;unfold qW at t
  by_cases ho:x.o=.dp
  ·have e:x.own=x.as:=by unfold Sl.own;rw[ho]
   refine⟨x.as,?_,λ_ h=>h,λ_ a h=>by rw[e];exact h,λ_ n=>by rw[e]at n;exact n⟩;have:=ok;unfold Sl.ok at this;rw[ho]at this;exact this
  ·have hp:x.d.pure=true:=by
    rcases Bool.or_eq_true_iff.mp t with z|z
    ·exact absurd (by simpa using z) ho
    ·exact z
   obtain⟨z,rp⟩:=RepL.pu (g':=false) (RepO.wk ok) hp;exact⟨[],rp,λ_ h=>(nomatch h),λ_ _ h=>(nomatch h),λ_ _=>Y1⟩
theorem Jq{α:Type}{l:List α}{i:Nat}{x:α}(h:l[i]?=some x):l.set i x=l:=by
 obtain⟨h1,h2⟩:=List.getElem?_eq_some_iff.mp h;rw[<-h2];simp
theorem mut1 {D':Ends} {f:List D->D->Option (List D)} {i:Nat} {r:Fl} {G:V->V->Hp->Prop} (m:Mt E σ L) (w:World Z.K H L) (hc:xv f i c E=some r) (k:FlP Z pn D' σ H L r)
  (g:∀ (l:Addr) (x:V) (xs:List V) (ds ds':List D) (d:D) (bs cs:List Addr) (H1:Hp) (gg:Bool),f ds d=some ds'->H1 l=some (.lst xs)->RepA Z.K H1 gg ds xs bs->RepL Z.K H1 gg d x cs ->
   (∀ xs' es,RepA Z.K H1 gg ds' xs' es->(∀a∈es,a∈bs\/a∈cs)->((bs++cs).Nodup->es.Nodup)->D'.nx σ (upd H1 l (.lst xs')))->G (.ref l) x H1):
  ∃ v,σ[i]?=some (some v)/\tyV Z.K "list" v H/\tQ Z q c σ H (G v):=by
 unfold xv at hc;cases h0:E[i]? with
 | none=>rw[h0]at hc;cases hc
 | some s0 =>
  cases s0 with
  | none=>rw[h0]at hc;cases hc
  | some s0=>
   obtain ⟨o0,d0⟩:=s0;cases d0 with
   | lst ds0=>
    rw [h0,Xf (show vjh (some (some (o0,D.lst ds0)))=true from rfl)]at hc;obtain ⟨x0,a1,a2,a3,a4⟩:=m.get h0;refine ⟨x0.v,a4,vvk (w.ok x0 (wQ a1)) a3,?_⟩;refine Wz m w hc k λE1 s h1 x L1 H1 e1 e2 m1 w1 st _=>?_
    cases hE:E1[i]? with
    | none=>rw[hE]at h1;cases h1
    | some s1=>
     cases s1 with
     | none=>rw[hE]at h1;cases h1
     | some s1=>
      obtain⟨oo,dd⟩:=s1;rw [hE]at h1;cases dd with
      | lst ds=>
       dsimp only at h1
       by_cases pb:oo=.no
       ·rw [Xf pb]at h1;cases h1
       ·rw [Xm pb]at h1;cases hfd:f ds s.2 with
        | none=>rw[hfd]at h1;cases h1
        | some ds'=>
         rw[hfd]at h1;obtain⟨y,b1,b2,b3,b4⟩:=m1.get hE;have hv:y.v=x0.v:=by rw[a4]at b4;exact(oq9 (oq9 b4)).symm
         obtain⟨l,xs,bs,c1,c2,c3,c4,c5⟩:=qkv (w1.ok y (lc9 _ (wQ b1))) b3 (by rw[b2];exact pb);have ex0:x0.v=.ref l:=hv▸c1;rw[ex0];have wT:World Z.K H1 ([some x]++L1):=w1;have jd:=w1.head;have nd:=w1.nd;rw[jk,X5]at nd;have oT:j6 [some x]=x.own:=by simp
         have fT:jY [some x]=x.frz:=by simp
         by_cases hd:oo=.dp/\qW s=true
         ·rw[Xf hd]at h1;cases oq9 h1;have pq:y.o=.dp:=b2.trans hd.1;rw[pq]at c5;obtain⟨cs,r1,h3,h4,h5⟩:=vw7 jd false λ_=>by rw[show x.sd=s from by simp[Sl.sd,e1,e2]];exact hd.2
          refine g l x.v xs ds ds' s.2 bs cs H1 false hfd c2 c5 (by rw[<-e2];exact r1) λxs' es re he hn=>?_
          have ynd:(bs++cs).Nodup:=by
           have yo:y.own=l::bs:=by unfold Sl.own;rw[pq,c3]
           obtain⟨A,B,e,_⟩:=jxb b1;have q:=nd.2.1;rw[e,jZ,jk,X5]at q;have q2:=(List.nodup_append.mp q.2.1).1;rw[yo]at q2;rw[X5];refine⟨(List.nodup_cons.mp q2).2,h5 rfl nd.1,λa ha b hb fb=>?_⟩;subst fb;exact nd.2.2 a (h4 rfl a hb) a (mem_owned.mpr ⟨y,wQ b1,by rw[yo];exact lc9 _ ha⟩) rfl
          obtain⟨w3,s3⟩:=qkk (o':=.dp) (ds':=ds') (xs':=xs') wT b1 c2 c3 c4 c1 re (.inr ⟨rfl,pq,hn ynd,λa ha=>(he a ha).imp id λz=>by rw[oT];exact h4 rfl a z⟩);refine k σ _ _ Pn.refl ?_ w3 (st.trans s3);have:=m1.set (x:=⟨.dp,.lst ds',y.v,l::es⟩) i;rw[Jq b4]at this;exact this
         ·rw[Xm hd]at h1;cases oq9 h1;have c6:RepA Z.K H1 true ds xs bs:=by
           cases hb:(y.o != .dp)with
           |true=>rw[hb]at c5;exact c5
           |false=>rw[hb]at c5;exact c5.wk
          refine g l x.v xs ds ds' s.2 bs x.as H1 true hfd c2 c6 (by rw[<-e2];exact RepO.wk jd) λxs' es re he hn=>?_
          obtain⟨w3,s3⟩:=qkk (o':=.rt) (ds':=ds') (xs':=xs') wT b1 c2 c3 c4 c1 re (.inl ⟨rfl,λa ha=>(he a ha).imp id λz=>by rw[oT,fT];exact Sl.as_of z⟩);refine k σ _ _ Pn.refl ?_ w3 (st.trans s3);have:=m1.set (x:=⟨.rt,.lst ds',y.v,l::es⟩) i;rw[Jq b4]at this;exact this
      |_=>cases h1
   |_=>rw[h0]at hc;cases hc
theorem vz4{i:Nat}{o:Expr}{av ag pos:Pos}(hb:PE X (.Call (.Attribute o "append" av) [e] [] ag) (tBM Z.K "list" kkx (Jj i) (vkj (tQ Z q c) wjb)))(hs:autoParam (swapsWith (.Call (.Attribute o "append" av) [e] [] ag) none pos.line X.env=pure false) Ŕ):
  QS X Z pn (xv x8 i c) (.Expr (.Call (.Attribute o "append" av) [e] [] ag) pos):=Jv (Zj hb hs) λD σ H ak=>ex7 ak λE L r m w hc k=>
 mut1 (G:=λv x H1=>kkx v [x] H1 λ_ H2=>D.nx σ H2) m w hc k λl x xs ds ds' d bs cs H1 gg hf hH ra rx fin=>by
  unfold x8 at hf
  by_cases hl:ds.length<big
  ·rw[Xf hl]at hf;cases oq9 hf;exact⟨l,xs,x,rfl,rfl,hH,by rw[<-ra.len];exact hl,fin (xs++[x]) (bs++cs) (RepA.snoc rx ra) (λa ha=>List.mem_append.mp ha) λh=>h⟩
  ·rw[Xm hl]at hf;cases hf
end
section
variable {X:Cx}{Z:Fx0}{pn:List Nat}{q:Bool}{a b c:Ex}{tg e ea eb:Expr}{σ:L2.St}{H:Hp}{L:Ls}{E:En}{pos p:Pos}
theorem vkn{pins:List (Addr×Obj)}{H1:Hp}{s1:Shared}{x:Str}{t:Tok}{R:It->Hp->Prop}(I1:L2.Inv X pins σ H1 s1)(q:R (Its x) H1):wpAny (model X.prog X.w) X.A (pyIter (.str x t)) (PIE X pins σ tg R) X.xe s1:=by
 have fp:∀b∈[s1.heap.objs.size],vq X pins H1 b:=λb hb=>by
  have e:b=s1.heap.objs.size:=by simpa using hb
  subst e;exact I1.fpOk (Xd _) (I1.hok.fresh (Xd _))
 cases ha:x.cps.all (· < 128)
 ·exact wpAny_pyIter_wide ha ⟨s1.heap.objs.size,[s1.heap.objs.size],_,_,H1,rfl,I1.kept (t':=s1.toks) λb o e=>X1 _ e,kx9 (λA' hA=>PySem.Walks.strWide hA _ x t) (λ_ _ _ _ _ st h=>wpAny_pyIter_striter_wide st h) (by decide),⟨_,X8 _ rfl,rfl,rfl⟩,fp,q⟩
 ·exact wpAny_pyIter_ascii ha ⟨s1.heap.objs.size,[s1.heap.objs.size],_,_,H1,rfl,I1.kept (t':=s1.toks) λb o e=>X1 _ e,kx9 (λA' hA=>PySem.Walks.strAscii hA _ x t) (λ_ _ _ _ _ st h=>wpAny_pyIter_striter_ascii st h) (by decide),⟨_,X8 _ rfl,rfl,rfl⟩,fp,q⟩
theorem vvh{K:PySem.W.Frag}{H:Hp}(c:Nat):Sl.ok K H ⟨.no,.str ⟨#[c]⟩,.str ⟨#[c]⟩,[]⟩:=by
 show RepL K H true _ _ _;exact Qk (show(1:Nat)<=sizeLine by decide)
theorem vvg{K:PySem.W.Frag}{H:Hp}(i:Int):Sl.ok K H ⟨.no,.int i,.int i,[]⟩:=by
 show RepL K H true _ _ _;exact zV
noncomputable def iAny(K:PySem.W.Frag)(tl:TE):TI:=fun σ H R=>tl σ H λx H1=>(∃a xs,x=.ref a/\SqL K H1 a xs/\(xs.length<=sizeLine->R (Itl K a) H1))\/(∃a xs,x=.ref a/\SqT K H1 a xs/\(xs.length<=sizeLine->R (Itt K a) H1))\/∃z,x=.str z/\R (Its z) H1
theorem vqr{l:Expr}{tl:TE}(hl:PE X l tl):PI X tg l (iAny X.K tl):=by
 intro pins s σ H R I h;have h':tl σ H λx H1=>(∃a xs,x=.ref a/\SqL X.K H1 a xs/\(xs.length<=sizeLine->R (Itl X.K a) H1))\/(∃a xs,x=.ref a/\SqT X.K H1 a xs/\(xs.length<=sizeLine->R (Itt X.K a) H1))\/∃z,x=.str z/\R (Its z) H1:=h
 refine thn (hl pins s σ H _ I h') λv s1 ⟨x,H1,I1,r1,q1⟩=>?_
 rcases q1 with⟨a,xs,rfl,hq,q⟩|⟨a,xs,rfl,hq,q⟩|⟨z,rfl,q⟩
 ·cases r1;obtain⟨aa,rv,p,hz⟩:=I1.list hq;refine Yu p.isList ?_;refine⟨s1.heap.objs.size,[s1.heap.objs.size],_,_,H1,rfl,I1.kept (t':=s1.toks) λb o e=>X1 _ e,kqr a _,⟨_,X8 _ rfl,rfl,rfl⟩,λb hb=>?_,q hz⟩;have e:b=s1.heap.objs.size:=by simpa using hb
  subst e;exact I1.fpOk (Xd _) (I1.hok.fresh (Xd _))
 ·cases r1;obtain⟨aa,rv,p,hz⟩:=I1.tuple hq;refine wpAny_pyIter_tuple (show s1.heap.IsTuple a aa.toArray from p) ?_;refine⟨s1.heap.objs.size,[s1.heap.objs.size],_,_,H1,rfl,I1.kept (t':=s1.toks) λb o e=>X1 _ e,kzm a _,⟨_,X8 _ rfl,rfl,rfl⟩,λb hb=>?_,q hz⟩;have e:b=s1.heap.objs.size:=by simpa using hb
  subst e;exact I1.fpOk (Xd _) (I1.hok.fresh (Xd _))
 ·obtain⟨t,rfl⟩:=r1;exact vkn I1 q
theorem zJ(h:QE X Z q c e)(hK:autoParam (X.K=Z.K) Ŕ):QI X Z q tg (itS c) e:=λpins s σ H R I ak=>ex8 ak λE L r m w hc xc k=>by
 refine(hK▸vqr h) pins s σ H R I ?_;refine QQ m w (show bnd (c E) _=some r from hc) xc λE1 s h1 x L1 H1 e1 e2 m1 w1 st sm=>?_
 obtain⟨ds,hd,rfl⟩:=wW h1;have ok:=w1.head;have wT:World Z.K H1 (L1++[x.let].map some):=by
  refine World.comm (L:=[some x.let]) ?_;exact w1.tail.consNo (zq ok) rfl λb hb=>w1.apart b hb
 have sT:Step H L H1 (L1++[x.let].map some):=by
  refine⟨st.keep,λb hb=>?_,λb hb=>?_⟩
  ·have:b∈j6 L1:=by simpa [zX]using hb
   exact st.own b (by rw[jk];exact lr9 _ this)
  ·have:b∈jY L1\/b∈x.as:=by simpa [zX]using hb
   rcases this with z|z
   ·exact st.frz b (by rw[k8];exact lr9 _ z)
   ·exact jzj st b z
 cases hx:x.d with
 | lst es=>
  rw[<-e2,hx]at hd;have mi:es=ds:=oq9 hd;subst mi;obtain⟨a,xs,bs,ev,q3,r3,h3,_⟩:=items ok (.inl hx);have q3:LsR Z.K H1 a xs:=by rcases q3 with⟨_,z⟩|⟨z,_⟩;exact z;rw[hx]at z;cases z
  have again:∀H2:Hp,(∀t∈[x.let],t.ok Z.K H2)->∃ys cs,SqL Z.K H2 a ys/\RepA Z.K H2 true es ys cs/\∀b∈cs,b∈x.as:=λH2 hok=>by
   obtain⟨a',ys,cs,mj,q4,r4,h4,_⟩:=items (hok x.let (List.mem_singleton.mpr rfl)) (.inl hx);have:a'=a:=by have:=mj.symm.trans ev;exact V.ref.inj this
   subst this;rcases q4 with⟨_,z⟩|⟨z,_⟩
   ·exact⟨ys,cs,z.sq,r4,h4⟩
   ·rw[show x.let.d=D.lst es from hx]at z;cases z
  refine .inl ⟨a,xs,ev,q3.sq,λac=>k _ _ rfl (Itl Z.K a) [x.let] L1 H1 m1 wT sT (by rw[r3.len];exact ac) (λhq=>(sm hq).1) ⟨λt ht=>by rw[List.mem_singleton.mp ht];rfl,λi H2 hok hi=>?_,λH2 hok=>?_,λi H2 v H3 d hok hy d6=>?_⟩⟩
  ·obtain⟨ys,cs,s1,s2,_⟩:=again H2 hok;have hl:=s2.len;exact⟨ys,ys[i]'(by omega),s1,X2 (by omega)⟩
  ·obtain⟨ys,cs,s1,s2,_⟩:=again H2 hok;exact⟨ys,s1,by rw[s2.len];exact Xd _⟩
  ·obtain⟨ys,cs,s1,s2,s3⟩:=again H2 hok;obtain⟨e3,hy⟩:=hy;subst e3;obtain⟨v',cf,f1,f2,f3⟩:=s2.get d6;have:v'=v:=by have:=hy ys s1;rw[f1]at this;exact oq9 this
   subst this;exact⟨⟨.no,d,v',cf⟩,rfl,rfl,rfl,wX,f2,λb hb=>⟨x.let,List.mem_singleton.mpr rfl,s3 b (f3 b hb)⟩⟩
 | tup es=>
  rw[<-e2,hx]at hd;have mi:es=ds:=oq9 hd;subst mi;obtain⟨a,xs,bs,ev,q3,r3,h3,_⟩:=items ok (.inr hx);have q3:SqT Z.K H1 a xs:=by rcases q3 with⟨z,_⟩|⟨_,z⟩;rw[hx]at z;cases z;exact z
  have again:∀H2:Hp,(∀t∈[x.let],t.ok Z.K H2)->∃ys cs,SqT Z.K H2 a ys/\RepA Z.K H2 true es ys cs/\∀b∈cs,b∈x.as:=λH2 hok=>by
   obtain⟨a',ys,cs,mj,q4,r4,h4,_⟩:=items (hok x.let (List.mem_singleton.mpr rfl)) (.inr hx);have:a'=a:=by have:=mj.symm.trans ev;exact V.ref.inj this
   subst this;rcases q4 with⟨z,_⟩|⟨_,z⟩
   ·rw[show x.let.d=D.tup es from hx]at z;cases z
   ·exact⟨ys,cs,z,r4,h4⟩
  refine .inr (.inl ⟨a,xs,ev,q3,λac=>k _ _ rfl (Itt Z.K a) [x.let] L1 H1 m1 wT sT (by rw[r3.len];exact ac) (λhq=>(sm hq).1) ⟨λt ht=>by rw[List.mem_singleton.mp ht];rfl,λi H2 hok hi=>?_,λH2 hok=>?_,λi H2 v H3 d hok hy d6=>?_⟩⟩)
  ·obtain⟨ys,cs,s1,s2,_⟩:=again H2 hok;have hl:=s2.len;exact⟨ys,ys[i]'(by omega),s1,X2 (by omega)⟩
  ·obtain⟨ys,cs,s1,s2,_⟩:=again H2 hok;exact⟨ys,s1,by rw[s2.len];exact Xd _⟩
  ·obtain⟨ys,cs,s1,s2,s3⟩:=again H2 hok;obtain⟨e3,hy⟩:=hy;subst e3;obtain⟨v',cf,f1,f2,f3⟩:=s2.get d6;have:v'=v:=by have:=hy ys s1;rw[f1]at this;exact oq9 this
   subst this;exact⟨⟨.no,d,v',cf⟩,rfl,rfl,rfl,wX,f2,λb hb=>⟨x.let,List.mem_singleton.mpr rfl,s3 b (f3 b hb)⟩⟩
 | str z=>
  rw[<-e2,hx]at hd;have hd:(if z.cps.size<=big then some (z.cps.toList.map λc=>D.str ⟨#[c]⟩)else none)=some ds:=hd
  split at hd
  ·rename_i hz;cases oq9 hd;refine .inr (.inr ⟨z,(xj ok hx).1,k _ _ rfl (Its z) [] L1 H1 m1 (by simpa using w1.tail) (by simpa using (st.trans Step.drop)) (by rw[X6,Xb];exact hz) (λhq=>(sm hq).1) ⟨λt ht=>(nomatch ht),λi H2 _ hi=>?_,λH2 _=>?_,λi H2 v H3 d _ hy d6=>?_⟩⟩)
   ·show i<z.cps.size
    simpa using hi
   ·show(z.cps.toList.map λc=>D.str ⟨#[c]⟩).length=z.cps.size;simp
   ·obtain⟨e3,cc,hc,rfl⟩:=hy;subst e3;rw[Xk,Array.getElem?_toList,hc]at d6;cases oq9 d6;exact⟨⟨.no,.str ⟨#[cc]⟩,.str ⟨#[cc]⟩,[]⟩,rfl,rfl,rfl,wX,vvh cc,λb hb=>(nomatch hb)⟩
  ·cases hd
 |non=>rw[<-e2,hx]at hd;cases hd
 |bl _=>rw[<-e2,hx]at hd;cases hd
 |int _=>rw[<-e2,hx]at hd;cases hd
 |dct _=>rw[<-e2,hx]at hd;cases hd
 |obj _ _=>rw[<-e2,hx]at hd;cases hd
theorem kzl{K:PySem.W.Frag}(lo hi:Int):Walks K (Itr lo (hi - lo).toNat) [] (kj lo hi):=by
 have hl:(kj lo hi).length=(hi - lo).toNat:=by simp[kj]
 refine⟨λt ht=>(nomatch ht),λi H _ p6=>by rw[hl]at p6;exact p6,λH _=>by rw[hl];exact Xd _,λi H v H' d _ hy hd=>?_⟩;obtain⟨e,rfl⟩:=hy;subst e;unfold kj at hd;rw[Xk]at hd;cases hr:(List.range (hi - lo).toNat)[i]? with
 | none=>rw[hr]at hd;cases hd
 | some j=>
  rw[hr]at hd;have:j=i:=by
   obtain⟨_,h2⟩:=List.getElem?_eq_some_iff.mp hr
   simpa using h2.symm
  subst this;cases oq9 hd;exact⟨⟨.no,.int (lo+(j:Int)),.int (lo+(j:Int)),[]⟩,rfl,rfl,rfl,wX,vvg _,λb hb=>(nomatch hb)⟩
theorem kzr{i:Int}(h:J0 i=true):-(2 ^ 62)<=i/\i<2 ^ 62:=by
 unfold J0 at h
 simpa using h
theorem JQ(ha:QV X Z q a ea)(hg:Gl X "range")(hm:X.mg "range"=none)(bq:autoParam (starEach [ea] X.env=[(false,eval ea X.env)]) Ŕ):QI X Z q tg (qJ a) (.Call (.Name "range" p) [ea] [] pos):=λpins s σ H R I ak=>ex8 ak λE L r m w hc xc k=>by
 refine(qkp hg hm (vZ ha ww bq) bq) pins s σ H R I ?_;refine vz m w (show bnd (a E) _=some r from hc) xc λE1 s h1 x L1 H1 e1 e2 m1 w1 ok fr sr st sm=>?_
 cases hx:s.2 with
 | int j=>
  rw[hx]at h1;dsimp only at h1
  split at h1
  ·rename_i hj;cases oq9 h1;obtain⟨j1,j2⟩:=kzr hj.1;have hv:=vQ ok (e2.trans hx);refine⟨j,by rw[hv],j1,j2,?_⟩;have wk:=kzl (K:=Z.K) 0 j;rw[Int.sub_zero]at wk;exact k _ _ rfl (Itr 0 j.toNat) [] L1 H1 m1 (by simpa using w1) (by simpa using st) (by simp only[kj,X6,Y7,Int.sub_zero];exact hj.2) sm wk
  ·cases h1
 |_=>rw[hx]at h1;cases h1
theorem Mt.clr:∀{R:List Nat} {E:En} {L:Ls},Mt E σ L->Mt (Q.clr R E) σ (Q.clr R L)
 | [],_,_,m=>m
 | j::R,E,L,m=>by
  have un:∀{E:En} {σ:L2.St} {L:Ls} (j:Nat),Mt E σ L->Mt (E.set j none) σ (L.set j none):=by
   intro E σ L j m
   induction m generalizing j with
   |nil=>exact .nil
   |un m ih=>cases j with
    |zero=>exact .un m
    |succ j=>exact .un (ih j)
   |cons m ih=>cases j with
    |zero=>exact .un m
    |succ j=>exact .cons (ih j)
  show Mt (Q.clr R (E.set j none)) σ (Q.clr R (L.set j none));exact Mt.clr (un j m)
theorem Mt.drop:∀{E:En} {σ:L2.St} {L:Ls} (k:Nat),Mt E σ L->Mt (E.drop k) (σ.drop k) (L.drop k)
 |_,_,_,0,m=>m
 |_,_,_,k+1,.nil=>.nil
 |_,_,_,k+1,.un m=>m.drop k
 |_,_,_,k+1,.cons m=>m.drop k
theorem Mt.none_at:∀{E:En} {σ:L2.St} {L:Ls} {j:Nat},Mt E σ L->E[j]?=some none->L[j]?=some none
 |_,_,_,_,.nil,h=>by simp at h
 |_,_,_,0,.un _,_=>by simp
 |_,_,_,j+1,.un m,h=>by simpa using m.none_at (j:=j) (by simpa using h)
 |_,_,_,0,.cons _,h=>by simp at h
 |_,_,_,j+1,.cons m,h=>by simpa using m.none_at (j:=j) (by simpa using h)
theorem Mt.pick:∀{R:List Nat},Mt E σ L->Mt (R.map (at' E)) (R.map (at' σ)) (R.map (at' L))
 | [],_=>.nil
 | j::R,m=>by
  rw[List.map_cons,List.map_cons,List.map_cons];cases hE:E[j]? with
  | none=>
   have hl:=m.len;have:L[j]?=none:=by rw[List.getElem?_eq_none_iff]at hE ⊢;omega
   rw[show at' E j=none from by unfold at';rw[hE];rfl,show at' L j=none from by unfold at';rw[this];rfl];exact .un m.pick
  | some s=>
   cases s with
   |none=>
    have:L[j]?=some none:=m.none_at hE;rw[show at' E j=none from by unfold at';rw[hE];rfl,show at' L j=none from by unfold at';rw[this];rfl];exact .un m.pick
   |some s=>
    obtain⟨o,d⟩:=s;obtain⟨x,h1,h2,h3,h4⟩:=m.get hE;rw[show at' E j=some (x.o,x.d)from by unfold at';rw[hE,h2,h3];rfl,show at' L j=some x from by unfold at';rw[h1];rfl,show at' σ j=some x.v from by unfold at';rw[h4];rfl];exact .cons m.pick
theorem Mt.rep:∀{k:Nat},Mt E σ L->Mt (List.replicate k none++E) (List.replicate k none++σ) (List.replicate k none++L)
 |0,m=>by simpa using m
 |k+1,m=>by
  rw[List.replicate_succ,List.replicate_succ,List.replicate_succ];exact .un m.rep
theorem Mt.back:∀{R:List Nat} {B:En} {τ:L2.St} {M:Ls} {E:En} {L:Ls},Mt E σ L->Mt B τ M->(∀(i j:Nat) (v:V),R[i]?=some j->τ[i]?=some (some v)->σ[j]?=some (some v))->Mt (Q.back R B E) σ (Q.back R M L)
 | [],B,τ,M,E,L,m,_,_=>by simpa [Q.back]using m
 | j::R,_,_,_,E,L,m,.nil,_=>by simpa [Q.back]using m
 | j::R,_,_,_,E,L,m,.un mB,h=>by
  have un:∀{E:En} {σ:L2.St} {L:Ls} (j:Nat),Mt E σ L->Mt (E.set j none) σ (L.set j none):=by
   intro E σ L j m
   induction m generalizing j with
   |nil=>exact .nil
   |un m ih=>cases j with
    |zero=>exact .un m
    |succ j=>exact .un (ih j)
   |cons m ih=>cases j with
    |zero=>exact .un m
    |succ j=>exact .cons (ih j)
  show Mt (Q.back R _ (E.set j none)) σ (Q.back R _ (L.set j none));exact Mt.back (un j m) mB λi jj v e1 e2=>h (i+1) jj v (by simpa using e1) (by simpa using e2)
 |j::R,_,_,_,E,L,m,.cons (x:=x) mB,h=>by
  have h0:=h 0 j x.v (by simp) (by simp);have m1:=m.set (x:=x) j;rw[Jq h0]at m1;show Mt (Q.back R _ (E.set j _)) σ (Q.back R _ (L.set j _));exact Mt.back m1 mB λi jj v e1 e2=>h (i+1) jj v (by simpa using e1) (by simpa using e2)
section
variable {aw fw:Expr}{fg:List Expr}{scope:Scope}{N:List Str}{k:Nat}{R:List Nat}{it:Ev (List D)}{tt:Tg}{u:Ts}{o:Own}{q1 q2:Bool}
theorem vjb:zQ k R σ=List.replicate k none++R.map (at' σ):=rfl
theorem vzi{K:PySem.W.Frag}{M:Ls}(hR:R.Nodup)(w:World K H (L++M)):World K H ((List.replicate k none++R.map (at' L))++(Q.clr R L++M))/\Step H (L++M) H ((List.replicate k none++R.map (at' L))++(Q.clr R L++M)):=by
 have p:(sls (L++M)).Perm (sls ((List.replicate k none++R.map (at' L))++(Q.clr R L++M))):=by
  have:=kzf (R:=R) (L:=L) hR;rw[Q5]at this;simp only[Q5,qz5,List.nil_append];rw[<-Xs];exact(this.append_right _).symm
 exact⟨w.same p,Step.refl.same (List.Perm.refl _) p⟩
theorem vvl{K:PySem.W.Frag}{B:Ls}{M:Ls}{H2:Hp}(hR:R.Nodup)(hr:∀j∈R,j<L.length)(hB:B.length=k+R.length)(w:World K H2 (B++(Q.clr R L++M))):World K H2 (Q.back R (B.drop k) (Q.clr R L)++M)/\Step H2 (B++(Q.clr R L++M)) H2 (Q.back R (B.drop k) (Q.clr R L)++M):=by
 have p:=kwb (R:=R) (B:=B.drop k) (L:=Q.clr R L) hR (λj hj=>qv0 hj) (λj hj=>by rw[qqz];exact hr j hj) (by rw[List.length_drop,hB];omega);have p2:(sls (Q.back R (B.drop k) (Q.clr R L)++M)).Perm (sls (B.drop k++(Q.clr R L++M))):=by
  rw[Q5,<-Xs,Q5 (B.drop k++Q.clr R L)];exact p.append_right _
 have sub:(sls (B.drop k++(Q.clr R L++M))).Sublist (sls (B++(Q.clr R L++M))):=by
  rw[Q5,Q5 B];refine List.Sublist.append ?_ (List.Sublist.refl _);unfold sls;exact(List.drop_sublist k B).filterMap _
 exact⟨(w.sub sub).same p2.symm,(Step.refl.sub sub).same (List.Perm.refl _) p2.symm⟩
theorem jzr:∀{is:List Nat} {es:List D} {E E':En},setAll is es E=some E'->E'.length=E.length
 |[],[],_,_,h=>by cases oq9 h;rfl
 |[],_::_,_,_,h=>by cases h
 |_::_,[],_,_,h=>by cases h
 |i::is,d::es,E,E',h=>by rw[jzr (E:=E.set i (some (.no,d))) h,Yp]
theorem qzg{t:Tg}{d:D}{E E':En}(h:t.put d E=some E'):E'.length=E.length:=by
 cases t with
 |n i=>cases oq9 h;rw[Yp]
 |t is=>
  cases d with
  |tup es=>exact jzr (show setAll is es E=some E' from h)
  |lst es=>exact jzr (show setAll is es E=some E' from h)
  |_=>cases h
theorem vj9{nN:Nat}{Q:VK}(hσ:σ.length=nN)(hR:R.Nodup)(hr:∀j∈R,j<nN)(h:tQ Z q (cLC o k R it tt u c) σ H Q):tLC (tIS Z q it) (tG Z ((List.range R.length).map (k + ·)) tt) (tT Z q u) (tQ Z q c) k R σ H Q:=by
 obtain⟨E,L,r,m,w,bj,xc,kk⟩:=h;have bj:bnd (it E) (λE ds=>match lcL tt u c ds (V1 k R E) []with
  | some (.ok B xs)=>mkL o (JJ k R B E) xs
  | some (.exc B e)=>some (.exc (JJ k R B E) e)
  | none=>none)=some r:=bj
 rcases vk bj with⟨E1,ds,h1,h2⟩|⟨E1,cc,h1,h2⟩
 rotate_left
 ·exact⟨E,L,_,m,w,h1,xc.map h2,λE' s' z=>by cases z⟩
 refine⟨E,L,_,m,w,h1,(λ_ _ z=>by cases z),λE' ds' z J T L1 H1 m1 w1 st hz sm wk=>?_⟩;injection z with z1 z2;subst z1 z2;have hL1:∀j∈R,j<L1.length:=λj hj=>by have:=m1.len;have:=hr j hj;omega
 obtain⟨wB,sB⟩:=vzi (k:=k) hR w1;cases hrB:lcL tt u c ds (V1 k R E1) []with
 | none=>rw[hrB]at h2;cases h2
 | some rB=>
  rw [hrB]at h2;have ik:∀{H2:Hp} {A B:Ls},World Z.K H2 (A++(B++(_root_.Q.clr R L1++T.map some)))->∀t∈T,t.ok Z.K H2:=λw2 t ht=>w2.ok t (lr9 _ (lr9 _ (lr9 _ (Xj ht))))
  have mB0:Mt (V1 k R E1) (zQ k R σ) (List.replicate k none++R.map (at' L1)):=(m1.pick (R:=R)).rep;have p8:∀{B:En} {LB:Ls} {τ:L2.St} {H2:Hp} {A:Ls},Mt B τ LB->τ.length=k+R.length->Pn ((List.range R.length).map (k + ·)) (zQ k R σ) τ->World Z.K H2 (LB++(A++(_root_.Q.clr R L1++T.map some))) ->
    Mt (JJ k R B E1) σ (_root_.Q.back R (LB.drop k) (_root_.Q.clr R L1))/\World Z.K H2 (A++_root_.Q.back R (LB.drop k) (_root_.Q.clr R L1))/\Step H2 (LB++(A++(_root_.Q.clr R L1++T.map some))) H2 (A++_root_.Q.back R (LB.drop k) (_root_.Q.clr R L1)):=fun {B LB τ H2 A} mB lB pB wB2=>by
   have hl:LB.length=k+R.length:=by rw[mB.len.2];exact lB
   have pm:(LB++(A++(_root_.Q.clr R L1++T.map some))).Perm (LB++(_root_.Q.clr R L1++(A++T.map some))):=by
    refine List.Perm.append_left _ ?_;rw [<-Xs,<-Xs];exact List.Perm.append_right _ List.perm_append_comm
   obtain⟨w3,s3⟩:=vvl (k:=k) hR hL1 hl (wB2.perm pm);have pd:(_root_.Q.back R (LB.drop k) (_root_.Q.clr R L1)++(A++T.map some)).Perm ((A++_root_.Q.back R (LB.drop k) (_root_.Q.clr R L1))++T.map some):=by
    rw [<-Xs];exact List.Perm.append_right _ List.perm_append_comm
   refine⟨?_,(w3.perm pd).left,(s3.perm pm.symm pd).trans Step.dropT⟩;refine Mt.back (m1.clr) (mB.drop k) λi j v e1 e2=>?_
   have hi:i<R.length:=(List.getElem?_eq_some_iff.mp e1).1;have e3:=pB (k+i) (List.mem_map.mpr ⟨i,List.mem_range.mpr hi,rfl⟩);rw [List.getElem?_drop,e3,vjb,List.getElem?_append_right (by simp),Yc,show k+i - k=i from by omega,Xk,e1]at e2;have e4:at' σ j=some v:=by simpa using e2
   unfold at' at e4;cases hh:σ[j]? with
   | none=>rw[hh]at e4;cases e4
   | some s=>rw[hh]at e4;rw[show s=some v from e4]
  refine⟨λi n ys τ H2=>∃(B:En) (LB:Ls) (af:List Sl),Mt B τ LB/\τ.length=k+R.length/\Pn ((List.range R.length).map (k + ·)) (zQ k R σ) τ/\World Z.K H2 (LB++(af.map some++(_root_.Q.clr R L1++T.map some)))/\Step H L H2 (LB++(af.map some++(_root_.Q.clr R L1++T.map some))) /\
   ys=af.map Sl.v/\lcL tt u c (ds.drop i) B (af.map Sl.sd)=some rB/\i<=ds.length/\af.length<=i/\n=ds.length - i/\(q=true->k4 H H2/\∀b∈j6 (af.map some),H b=none),⟨_,V1 k R E1,_,[],mB0,by simp[zQ],Pn.refl,wB,st.trans sB,rfl,hrB,Z1 _,Z1 _,rfl,λhq=>⟨sm hq,λ_ z=>(nomatch z)⟩⟩,?_⟩
  rintro i n ys τ H2 ⟨B,LB,af,mB,lB,pB,wB2,sB2,rfl,f1,hi,kh,rfl,smB⟩
  by_cases cz:i<ds.length
  rotate_left
  ·have e:i=ds.length:=by omega
   subst e;rw [List.drop_length]at f1;cases oq9 f1;obtain⟨m3,w3,s3⟩:=p8 mB lB pB wB2;refine .inl ⟨wk.stop H2 (ik wB2) (λhq=>(smB hq).1),by rw[X6];omega,?_⟩;exact kxy (σ:=σ) (Q:=Q) (o:=o) (xs:=af) h2 rfl w3 (sB2.trans s3) smB kk m3
  ·have hd:ds.drop i=ds[i]::ds.drop (i+1):=List.drop_eq_getElem_cons cz;rw [hd]at f1;unfold lcL at f1;cases bc:tt.put ds[i] B with
   | none=>rw[bc]at f1;cases f1
   | some B2=>
    rw [bc]at f1;dsimp only at f1;refine .inr ⟨wk.go i H2 (ik wB2) (λhq=>(smB hq).1) cz,λv H3 hy=>?_⟩;obtain⟨z,zo,zd,zv,smz,n9,zas⟩:=wk.yld i H2 v H3 ds[i] (ik wB2) (λhq=>(smB hq).1) hy (X2 cz);have pm:(LB++(af.map some++(_root_.Q.clr R L1++T.map some))).Perm ((LB++(af.map some++_root_.Q.clr R L1))++T.map some):=by
     rw[<-Xs (af.map some),<-Xs]
    obtain⟨wz,sz⟩:=kkd (wB2.perm pm) wk.no smz n9 zo zas;have wz':World Z.K H3 ((some z::LB)++(af.map some++(_root_.Q.clr R L1++T.map some))):=wz.perm (by
     rw[List.cons_append,List.cons_append];exact List.Perm.cons _ pm.symm)
    have sz':Step H2 (LB++(af.map some++(_root_.Q.clr R L1++T.map some))) H3 ((some z::LB)++(af.map some++(_root_.Q.clr R L1++T.map some))):=sz.perm pm.symm (by
     rw[List.cons_append,List.cons_append];exact List.Perm.cons _ pm.symm)
    refine⟨B,LB,z,B2,mB,wz'.left,zo,zv,by rw[zd];exact bc,fun τ2 LB2 p2 mB2 wB3 sB3=>?_⟩;obtain⟨w4,s4⟩:=stay wz' sB3 wB3;have lB2:τ2.length=k+R.length:=by
     have h1:=mB2.len.1;have h2:=mB.len.1;have h3:=qzg bc;omega
    have p3:=pB.trans p2;have nu:Step H L H3 (LB2++(af.map some++(_root_.Q.clr R L1++T.map some))):=sB2.trans (sz'.trans s4);have fu:q=true->k4 H H3/\∀b∈j6 (af.map some),H b=none:=λhq=>⟨kw (smB hq).1 smz,(smB hq).2⟩
    refine⟨λy H5=>∃(B:En) (LB:Ls) (fj:List Sl),Mt B τ2 LB/\World Z.K H5 (LB++(fj.map some++(_root_.Q.clr R L1++T.map some)))/\Step H L H5 (LB++(fj.map some++(_root_.Q.clr R L1++T.map some)))/\af.map Sl.v++[y]=fj.map Sl.v/\fj.length=af.length+1/\lcL tt u c (ds.drop (i+1)) B (fj.map Sl.sd)=some rB/\(q=true->k4 H H5/\∀b∈j6 (fj.map some),H b=none),
     λH5=>∃B LB,Mt B τ2 LB/\World Z.K H5 (LB++(af.map some++(_root_.Q.clr R L1++T.map some)))/\Step H L H5 (LB++(af.map some++(_root_.Q.clr R L1++T.map some)))/\lcL tt u c (ds.drop (i+1)) B (af.map Sl.sd)=some rB/\(q=true->k4 H H5/\∀b∈j6 (af.map some),H b=none),
     λy H5 ⟨B5,LB5,acc5,c1,c2,c3,c4,c5,c6,c7⟩=>⟨by rw[X6];omega,ds.length - (i+1),by omega,B5,LB5,acc5,c1,lB2,p3,c2,c3,c4,c6,cz,by omega,rfl,c7⟩,
     λH5 ⟨B5,LB5,c1,c2,c3,c6,c7⟩=>⟨ds.length - (i+1),by omega,B5,LB5,af,c1,lB2,p3,c2,c3,rfl,c6,cz,by omega,rfl,c7⟩,?_⟩
    have xcB:∀{α:Type} {H6:Hp} {L6:Ls} {B6:En} {cc:Str} {A:Ls},rB=.exc B6 cc->World Z.K H6 (L6++(A++(_root_.Q.clr R L1++T.map some)))->Step H L H6 (L6++(A++(_root_.Q.clr R L1++T.map some)))->Xc Z τ2 H6 L6 (.exc B6 cc:Res α):=fun {α H6 L6 B6 cc A} er w6 s6 E7 c7 e7 C L7 H7 hm m7 w7 s7=>by
     injection e7 with e8 e9;subst e8 e9;subst er;cases oq9 h2;obtain⟨w8,s8⟩:=stay w6 s7 w7;obtain⟨m9,w9,s9⟩:=p8 m7 lB2 p3 w8;exact xc _ _ rfl C _ H7 hm m9 w9.right ((s6.trans (s8.trans s9)).trans ⟨λ_ _ h _=>h,λa ha=>.inl (by rw[jZ];exact lr9 _ ha),λa ha=>.inl (by rw[kW];exact lr9 _ ha)⟩)
    rcases vk f1 with⟨B4,kb,g1,g2⟩|⟨B4,cc,g1,g2⟩
    rotate_left
    ·exact⟨B2,LB2,_,mB2,wB3,g1,xcB g2 w4 nu,λE' s' z=>by cases z⟩
    refine⟨B2,LB2,_,mB2,wB3,g1,(λ_ _ z=>by cases z),λE' s' z LB4 H4 mB4 wB4 sB4 lv=>?_⟩;injection z with z1 z2;subst z1 z2;obtain⟨w5,s5⟩:=stay w4 sB4 wB4;have jg:=nu.trans s5;cases kb with
    | false=>
     rw[Xm (by decide)]at g2 ⊢;exact⟨B4,LB4,mB4,w5,jg,g2,λhq=>⟨kw (fu hq).1 (lv hq),(fu hq).2⟩⟩
    | true=>
     rw[Xf rfl]at g2 ⊢;rcases vk g2 with⟨B6,y,g3,g4⟩|⟨B6,cc,g3,g4⟩
     rotate_left
     ·exact⟨B4,LB4,_,mB4,wB4,g3,xcB g4 w5 jg,λE' s' z=>by cases z⟩
     refine⟨B4,LB4,_,mB4,wB4,g3,(λ_ _ z=>by cases z),λE' s' z x LB6 H6 ex ey mB6 wB6 sB6 sm6=>?_⟩;injection z with z1 z2;subst z1 z2;obtain⟨w7,s7⟩:=stay w5 sB6 wB6;have pm3:((some x::LB6)++(af.map some++(_root_.Q.clr R L1++T.map some))).Perm (LB6++((af++[x]).map some++(_root_.Q.clr R L1++T.map some))):=by
      rw[Ya,List.cons_append];have:(LB6++(af.map some++[x].map some++(_root_.Q.clr R L1++T.map some)))=(LB6++af.map some)++some x::(_root_.Q.clr R L1++T.map some):=by simp
      rw[this];refine List.Perm.trans ?_ List.perm_middle.symm;rw[Xs]
     refine⟨B6,LB6,af++[x],mB6,w7.perm pm3,(jg.trans s7).perm (List.Perm.refl _) pm3,by simp,by simp,?_,λhq=>⟨kw (fu hq).1 (kw (lv hq) (sm6 hq).1),λb hb=>?_⟩⟩
     ·rw[Ya,show[x].map Sl.sd=[y]from by simp[Sl.sd,ex,ey]];exact g4
     ·rw[Ya,jZ]at hb;rcases List.mem_append.mp hb with hb|hb
      ·exact(fu hq).2 b hb
      ·have hb:b∈x.own:=by simpa using hb
       exact xx (kw (fu hq).1 (lv hq)) ((sm6 hq).2 b hb)
theorem wjr(N:List Str)(hi:QI X Z q tg it aw)
  (hg:∀cl C s0 H0 fp,QG (lcE X scope N cl C s0 H0 fp Z.EX) Z ((List.range R.length).map (k + ·)) tt tg) (ht:∀cl C s0 H0 fp,PTs (lcE X scope N cl C s0 H0 fp Z.EX) fg (tT Z q u)) (he:∀cl C s0 H0 fp,QE (lcE X scope N cl C s0 H0 fp Z.EX) Z q c fw)
  (gx:xq X Z.EX) (top:K6 X) (hR:R.Nodup) (hr:∀j∈R,j<X.N.length) (hc:autoParam (X.calm=true) Ŕ) (hk:autoParam (scope.kind=.function) Ŕ) (ly:autoParam (V5 X.N X.env.scope scope N k R=true) Ŕ) (hs:autoParam (∀x,foldedSetIterable aw X.env x=pure x) Ŗ):
  QE X Z q (cLC o k R it tt u c) (.ListComp fw [⟨tg,aw,fg,0⟩] scope pos):=λpins s σ H Q I hw=>
 vqx (EX:=Z.EX) N k R (qi_S hi) hg ht he gx top hc hk ly hs pins s σ H Q I (vj9 I.len hR hr hw)
end
end
section
variable {X:Cx}{Z:Fx0}{K:PySem.W.Frag}{pn:List Nat}{q qa qb:Bool}{a b c:Ex}{u:Ts}{tg e ea eb:Expr}{σ:L2.St}{H:Hp}{L:Ls}{E:En}{pos p:Pos}{x:Str}{id T:String}{r:List V->Hp->VK->Prop}{f:Sd->Option Sd}{g:Sd->Sd->Option Sd}
theorem vqb:PTs X [] (tT Z q _root_.Q.tYes):=λpins s σ H Q I ak=>ex8 ak λE L r m w hc xc k=>by
 cases oq9 hc;exact qzh pins s σ H Q I (k _ _ rfl L H m w Step.refl λ_=>wX)
theorem Kv(hc:CallR X (.builtin id) r)(ad:Ad1 Z.K (λv H Q=>r [v] H Q) f)(ha:QV X Z q a ea)(hm:X.mg x=none)(hv:bootBuiltins x=some (.builtin id))(hg:autoParam (Gl X x) Ŕ)(hn:autoParam (x≠"__name__") ŕ)(eh:autoParam ((x==("__debug__":Str))=false) ŕ)
  (he:autoParam (starEach [ea] X.env=(false,eval ea X.env)::starEach [] X.env) Ŕ) (bo:autoParam ((backTo pos (starEach [] X.env)).any (·.1)=false) Ŕ):QE X Z q (cF1 f a) (.Call (.Name x p) [ea] [] pos):=
 kY (kxs hc hg hm hv (vZ ha ww he) hn eh he bo) fun σ H Q h=>jzq (r:=λv H Q=>r [v] H Q) ad h
theorem Z4(hc:CallR X (.type T) r)(ad:Ad1 Z.K (λv H Q=>r [v] H Q) f)(ha:QV X Z q a ea)(hm:X.mg x=none)(hv:bootBuiltins x=some (.type T))(hg:autoParam (Gl X x) Ŕ)(hn:autoParam (x≠"__name__") ŕ)(eh:autoParam ((x==("__debug__":Str))=false) ŕ)
  (he:autoParam (starEach [ea] X.env=(false,eval ea X.env)::starEach [] X.env) Ŕ) (bo:autoParam ((backTo pos (starEach [] X.env)).any (·.1)=false) Ŕ):QE X Z q (cF1 f a) (.Call (.Name x p) [ea] [] pos):=
 kY (qkq hc hg hm hv (vZ ha ww he) hn eh he bo) fun σ H Q h=>jzq (r:=λv H Q=>r [v] H Q) ad h
theorem vww:Ad1 K (λv H Q=>qkd K [v] H Q) (pu1 v6):=by
 intro H x s Q ok hf k;unfold pu1 at hf;have fin:∀n:Nat,v6 x.d=some (.int n)->Q (.int n) H:=λn e=>by
  rw[show(x.o,x.d).2=x.d from rfl,e]at hf;cases oq9 hf;exact k ⟨.dp,.int n,.int n,[]⟩ H rfl rfl Z5
 cases hx:x.d with
 |lst ds=>
  obtain⟨l,xs,bs,e,q,r,_⟩:=items ok (.inl hx);refine .inl ⟨l,xs,by rw[e],?_,by rw[<-r.len];exact fin ds.length (by rw[hx];rfl)⟩;rcases q with⟨_,z⟩|⟨_,z⟩
  ·exact .inl (xW z)
  ·exact .inr z
 |tup ds=>
  obtain⟨l,xs,bs,e,q,r,_⟩:=items ok (.inr hx);refine .inl ⟨l,xs,by rw[e],?_,by rw[<-r.len];exact fin ds.length (by rw[hx];rfl)⟩;rcases q with⟨_,z⟩|⟨_,z⟩
  ·exact .inl (xW z)
  ·exact .inr z
 |str z=>
  obtain⟨e,hz⟩:=xj ok hx;exact .inr (.inl ⟨z,by rw[e],hz,fin z.length (by rw[hx];rfl)⟩)
 |_=>rw[show(x.o,x.d).2=x.d from rfl,hx]at hf;cases hf
noncomputable def qza(K:PySem.W.Frag):List V->Hp->VK->Prop:=λxs H Q=>wjn K xs H Q\/(∃p ys U,xs=[.ref p,.ty U]/\SqT K H p ys/\U∈kinds.tail/\Q (.bl (vw2 "tuple" U)) H)\/∃p ys U,xs=[.ref p,.ty U]/\SqL K H p ys/\U∈kinds.tail/\Q (.bl (vw2 "list" U)) H
theorem qv3(hK:autoParam (X.K=K) Ŕ):CallR X (.builtin "isinstance") (qza K):=by
 subst hK;intro pins s σ H xs us Q I r h;rcases h with h|⟨p,ys,U,rfl,hq,hU,q⟩|⟨p,ys,U,rfl,hq,hU,q⟩
 ·exact qwr pins s σ H xs us Q I r h
 ·obtain⟨u,w',rfl,r1,r2⟩:=qjq r;cases(show w'=Value.type U from r2);cases r1;obtain⟨aa,_,⟨o,h1,h2,_⟩,_⟩:=I.tuple hq;exact Y5 PySem.W.kitx_tuple I.kIn ⟨o,h1,h2⟩ (kwv (T:="tuple") (by decide) hU) (λz=>nomatch z) λtk=>⟨.bl _,H,I.tok _,rfl,q⟩
 ·obtain⟨u,w',rfl,r1,r2⟩:=qjq r;cases(show w'=Value.type U from r2);cases r1;obtain⟨aa,_,⟨o,n,h1,h2,_⟩,_⟩:=I.list hq;exact Y5 PySem.W.kitx_list I.kIn ⟨o,h1,h2⟩ (kwv (T:="list") (by decide) hU) (λz=>nomatch z) λtk=>⟨.bl _,H,I.tok _,rfl,q⟩
theorem vwx{U:String}(hU:U∈kinds.tail):Ad1 K (λv H Q=>qza K [v,.ty U] H Q) (pu1 (k6 U)):=by
 intro H x s Q ok hf k;unfold pu1 k6 at hf;have fin:∀(T:String),kind x.d=T->(∀c f,x.d≠.obj c f)->Q (.bl (vw2 T U)) H:=λT e ho=>by
  cases hx:x.d with
  |obj c f=>exact absurd hx (ho c f)
  |dct ai=>rw[show(x.o,x.d).2=x.d from rfl,hx]at hf;cases hf
  |_=>
   rw[show(x.o,x.d).2=x.d from rfl,hx]at hf;cases oq9 hf;rw[<-e,hx];exact k ⟨.dp,.bl _,.bl _,[]⟩ H rfl rfl wZ
 cases hx:x.d with
 |non=>exact .inl ⟨x.v,"NoneType",U,rfl,by rw[qxe ok hx];exact .non,by decide,hU,fin _ (by rw[hx];rfl) (by rw[hx];exact λ_ _ z=>nomatch z)⟩
 |bl k=>exact .inl ⟨x.v,"bool",U,rfl,by rw[Q8 ok hx];exact .bl _,by decide,hU,fin _ (by rw[hx];rfl) (by rw[hx];exact λ_ _ z=>nomatch z)⟩
 |int k=>exact .inl ⟨x.v,"int",U,rfl,by rw[vQ ok hx];exact .int _,by decide,hU,fin _ (by rw[hx];rfl) (by rw[hx];exact λ_ _ z=>nomatch z)⟩
 |str k=>exact .inl ⟨x.v,"str",U,rfl,by rw[(xj ok hx).1];exact .str _,by decide,hU,fin _ (by rw[hx];rfl) (by rw[hx];exact λ_ _ z=>nomatch z)⟩
 |lst ds=>
  obtain⟨l,xs,bs,e,q,r,_⟩:=items ok (.inl hx);have f:=fin "list" (by rw[hx];rfl) (by rw[hx];exact λ_ _ z=>nomatch z);rcases q with⟨_,z⟩|⟨z,_⟩
  ·exact .inr (.inr ⟨l,xs,U,by rw[e],z.sq,hU,f⟩)
  ·rw[hx]at z;cases z
 |tup ds=>
  obtain⟨l,xs,bs,e,q,r,_⟩:=items ok (.inr hx);have f:=fin "tuple" (by rw[hx];rfl) (by rw[hx];exact λ_ _ z=>nomatch z);rcases q with⟨z,_⟩|⟨_,z⟩
  ·rw[hx]at z;cases z
  ·exact .inr (.inl ⟨l,xs,U,by rw[e],z,hU,f⟩)
 |dct ai=>
  rw[show(x.o,x.d).2=x.d from rfl,hx]at hf;cases hf
 |obj c f=>
  rw[show(x.o,x.d).2=x.d from rfl,hx]at hf;cases hf
theorem vw{U:String}{y:Str}{p2:Pos}(ha:QV X Z q a ea)(hm:X.mg "isinstance"=none)(hmy:X.mg y=none)(hy:bootBuiltins y=some (.type U))(hK:X.K=Z.K)(hU:autoParam (U∈kinds.tail) ŕ)(hg:autoParam (Gl X "isinstance") Ŕ)(hgy:autoParam (Gl X y) Ŕ)(hny:autoParam (y≠"__name__") ŕ)(hdy:autoParam ((y==("__debug__":Str))=false) ŕ)
  (he:autoParam (starEach [ea,.Name y p2] X.env=(false,eval ea X.env)::starEach [.Name y p2] X.env) Ŕ) (ia:autoParam (starEach [.Name y p2] X.env=(false,eval (.Name y p2) X.env)::starEach [] X.env) Ŕ) (bo:autoParam ((backTo pos (starEach [.Name y p2] X.env)).any (·.1)=false) Ŕ):
  QE X Z q (cF1 (pu1 (k6 U)) a) (.Call (.Name "isinstance" p) [ea,.Name y p2] [] pos):=
 kY (kxs (qv3 hK) hg hm kql (vZ ha (vZ (qzv (v:=.ty U) hgy hmy hy rfl hny hdy) ww ia) he) (by decide) (by decide) he bo) fun σ H Q h=>jzq (r:=λv H Q=>qza Z.K [v,.ty U] H Q) (vwx hU) h
theorem kqn:Ad1 K (λv H Q=>qkc K [v] H Q) J3:=by
 intro H x s Q ok hf k;unfold J3 at hf;dsimp only at hf
 split at hf
 ·rename_i ds e
  split at hf
  ·rename_i hl;cases oq9 hf;obtain⟨l,xs,bs,ev,q3,r3,h3⟩:=xK ok (.inl e) hl;have q3:LsR K H l xs:=by rcases q3 with⟨_,z⟩|⟨z,_⟩;exact z;rw[e]at z;cases z
   exact⟨l,xs,by rw[ev],.inl (xW q3),λp hp=>k ⟨.rt,.lst ds,.ref p,p::bs⟩ _ rfl rfl (Kk hp r3 h3)⟩
  ·cases hf
 ·rename_i ds e
  split at hf
  ·rename_i hl;cases oq9 hf;obtain⟨l,xs,bs,ev,q3,r3,h3⟩:=xK ok (.inr e) hl;have q3:SqT K H l xs:=by rcases q3 with⟨z,_⟩|⟨_,z⟩;rw[e]at z;cases z;exact z
   exact⟨l,xs,by rw[ev],.inr q3,λp hp=>k ⟨.rt,.lst ds,.ref p,p::bs⟩ _ rfl rfl (Kk hp r3 h3)⟩
  ·cases hf
 ·cases hf
noncomputable def kxo(K:PySem.W.Frag):List V->Hp->VK->Prop:=λxs H Q=>∃p ys,xs=[.ref p]/\((SqL K H p ys/\∀l,H l=none->Q (.ref l) (upd H l (.tup ys)))\/(SqT K H p ys/\Q (.ref p) H))
theorem qv4(hK:X.K=K):CallR X (.type "tuple") (kxo K):=by subst hK;exact kqk
theorem qww:Ad1 K (λv H Q=>kxo K [v] H Q) Wj:=by
 intro H x s Q ok hf k;unfold Wj at hf;dsimp only at hf
 split at hf
 ·rename_i ds e
  split at hf
  ·rename_i hl;cases oq9 hf;obtain⟨l,xs,bs,ev,q3,r3,h3⟩:=xK ok (.inl e) hl;have q3:LsR K H l xs:=by rcases q3 with⟨_,z⟩|⟨z,_⟩;exact z;rw[e]at z;cases z
   exact⟨l,xs,by rw[ev],.inl ⟨xW q3,λp hp=>k ⟨.no,.tup ds,.ref p,bs⟩ _ rfl rfl (XY hp r3 h3)⟩⟩
  ·cases hf
 ·rename_i ds e
  split at hf
  ·rename_i hl;cases oq9 hf;obtain⟨l,xs,bs,ev,q3,r3,h3⟩:=xK ok (.inr e) hl;have q3:SqT K H l xs:=by rcases q3 with⟨z,_⟩|⟨_,z⟩;rw[e]at z;cases z;exact z
   refine⟨l,xs,by rw[ev],.inr ⟨q3,k ⟨.no,.tup ds,.ref l,bs⟩ H rfl rfl ⟨wX,?_,λb hb=>(nomatch hb),Y1,λb hb=>h3 b hb⟩⟩⟩;show RepL K H true (.tup ds) (.ref l) bs;unfold RepL;exact⟨l,xs,rfl,q3,r3⟩
  ·cases hf
 ·cases hf
theorem qv7{g:Bool}:∀{ds:List D} {bs:List Bool} {xs:List V} {as:List Addr},bls ds=some bs->RepA K H g ds xs as->xs=bs.map V.bl
 | [],bs,xs,as,h,r=>by
  cases oq9 h;unfold RepA at r;exact r.1
 | d::ds,bs,xs,as,h,r=>by
  cases d with
  | bl b=>
   unfold bls at h;cases hb:bls ds with
   |none=>rw[hb]at h;cases h
   |some cf=>
    rw[hb]at h;cases oq9 h;unfold RepA at r;obtain⟨x,rr,c1,c2,rfl,rfl,h1,h2⟩:=r;unfold RepL at h1;rw[h1.1,qv7 hb h2];rfl
  |_=>unfold bls at h;cases h
theorem W4:Ad1 K (λv H Q=>vz0 K [v] H Q) (pu1 Kq):=by
 intro H x s Q ok hf k;unfold pu1 Kq at hf;dsimp only at hf
 split at hf
 ·rename_i ds e;cases hb:bls ds with
  |none=>rw[hb]at hf;cases hf
  |some bs=>
   rw[hb]at hf;cases oq9 hf;obtain⟨l,xs,cs,ev,q3,r3,_⟩:=items ok (.inl e);have q3:LsR K H l xs:=by rcases q3 with⟨_,z⟩|⟨z,_⟩;exact z;rw[e]at z;cases z
   exact⟨l,bs,by rw[ev],by rw[<-qv7 hb r3];exact xW q3,k ⟨.dp,.bl _,.bl _,[]⟩ H rfl rfl wZ⟩
 ·cases hf
theorem Qw{g:Int->Int->Bool}:∀x y s,pu2 (c2 g) x y=some s->∃k,s.2=.bl k:=by
 intro x y s h;unfold pu2 c2 at h
 split at h
 ·cases oq9 h;exact⟨_,rfl⟩
 ·cases h
theorem Jx:∀x y s,pu2 fEq x y=some s->∃k,s.2=.bl k:=by
 intro x y s h;unfold pu2 fEq at h
 split at h
 ·cases oq9 h;exact⟨_,rfl⟩
 ·cases h
theorem xZ:∀x y s,pu2 fNe x y=some s->∃k,s.2=.bl k:=by
 intro x y s h;unfold pu2 fNe at h
 split at h
 ·cases oq9 h;exact⟨_,rfl⟩
 ·cases h
end
end Q
namespace Q
open PySem
def vkx:Sm:=λ_=>none
def JX(n d:Nat):Option Int->Nat
 |none=>d
 |some v=>if v<0 then(v+(n:Int)).toNat else min v.toNat n
noncomputable def QX(xs:List D)(lo hi:Option Int):List D:=(xs.drop (JX xs.length 0 lo)).take (JX xs.length xs.length hi - JX xs.length 0 lo)
noncomputable def fSl:Sd->Option Int->Option Int->Option Sd:=λx lo hi=>match x.2 with
 |.lst xs=>if qx x then some (.rt,.lst (QX xs lo hi))else none
 |.tup xs=>if qx x/\¬(JX xs.length 0 lo=0/\JX xs.length xs.length hi=xs.length)then some (.no,.tup (QX xs lo hi))else none
 |.str z=>if(Txt.slice z lo hi).length<=big then some (.dp,.str (Txt.slice z lo hi))else none
 |_=>none
noncomputable def QK:Option Ex->Ev (Option Int)
 |none,E=>some (.ok E none)
 |some c,E=>bnd (c E) λE x=>match x.2 with
  |.int i=>some (.ok E (some i))
  |_=>none
noncomputable def cSl(a:Ex)(lo hi:Option Ex):Ex:=λE=>bnd (a E) λE x=>bnd (QK lo E) λE l=>bnd (QK hi E) λE h=>val E (fSl x l h)
def vwd:Nat->List D->List D
 |_,[]=>[]
 |k,d::ds=>.tup [.int k,d]::vwd (k+1) ds
def v7:List D->List D->List D
 |a::x,b::y=>.tup [a,b]::v7 x y
 |_,_=>[]
def lstOf:D->Option (List D)
 |.lst xs=>some xs
 |_=>none
noncomputable def qqe(c d:Ex):Ev (List D):=λE=>bnd (c E) λE x=>bnd (d E) λE y=>val E ((lstOf x.2).bind λxs=>(lstOf y.2).bind λys=>if xs.length<=big then some (v7 xs ys)else none)
def x5:List D->Option (List Str)
 |[]=>some []
 |.str z::ds=>(x5 ds).map (z :: ·)
 |_=>none
def zW:List D->Option (List Int)
 |[]=>some []
 |.int z::ds=>(zW ds).map (z :: ·)
 |_=>none
noncomputable def V0(a:Str):List Str->List Str
 |[]=>[a]
 |b::r=>if Spec.ltCps b.cps.toList a.cps.toList then b::V0 a r else a::b::r
def qK:List Str->List Str
 |[]=>[]
 |a::r=>V0 a (qK r)
def JZ(a:Int):List Int->List Int
 |[]=>[a]
 |b::r=>if b<a then b::JZ a r else a::b::r
def Q9:List Int->List Int
 |[]=>[]
 |a::r=>JZ a (Q9 r)
noncomputable def V6:Sd->Option Sd:=λx=>match x.2 with
 | .lst ds=>(match x5 ds with
  |some ss=>if ss.length<64 then some (.rt,.lst ((qK ss).map .str))else none
  |none=>(match zW ds with
   |some is=>if is.length<64 then some (.rt,.lst ((Q9 is).map .int))else none
   |none=>none))
 |_=>none
def isSq:D->Bool
 |.lst _=>true
 |.tup _=>true
 |_=>false
noncomputable def J5(f:Fn)(cs:List Ex):Ex:=λE=>bnd (kJ cs E) λE xs=>match f (letAll xs)with
 |some (.ok _ y)=>if y.2.pure then some (.ok E (.dp,y.2))else none
 |some (.exc _ c)=>some (.exc E c)
 |none=>none
def W5(i:Nat)(E:En):En:=match E[i]? with
 |some (some (_,d))=>E.set i (some (.no,d))
 |_=>E
def sFz(i:Nat)(s:Sm):Sm:=λE=>s (W5 i E)
def vzj:Option (Option Sd)->Bool
 |some (some (.dp,.lst _))=>true
 |_=>false
noncomputable def K7 (i:Nat) (j c:Ex):Sm:=λE=>if vzj E[i]? then ofE (j E) λE k=>match E[i]?,k.2 with
 | some (some (.dp,.lst xs)),.int k=>(match ixN xs.length k with
  | some n=>(match xs[n]? with
   | some (.lst _)=>ofE (c E) λE x=>match E[i]? with
    |some (some (.dp,.lst xs))=>(match xs[n]? with
     |some (.lst ys)=>if qW x/\ys.length<big then some (.nx (E.set i (some (.dp,.lst (xs.set n (.lst (ys++[x.2])))))))else none
     |_=>none)
    |_=>none
   |_=>none)
  |none=>none)
 |_,_=>none
 else none
noncomputable def qX:Sd->Sd->Option Sd:=λx y=>match x.2,y.2 with
 |.tup a,.int k=>if -(2 ^ 63)<=k/\k<2 ^ 63/\a.length*k.toNat<=big/\qx x then some (.no,.tup (List.replicate k.toNat a).flatten)else none
 |_,_=>YJ x y
noncomputable def zj(f g:D->D->Option D)(a b c:Ex):Ex:=λE=>bnd (a E) λE x=>bnd (b E) λE y=>match f x.2 y.2 with
 |some (.bl true)=>bnd (c E) λE z=>val E ((g y.2 z.2).map λd=>(.dp,d))
 |some (.bl false)=>some (.ok E (.dp,.bl false))
 |_=>none
end Q
namespace Q
open PySem
def ZK(is:List Int):Bool:=is.all λi=>decide (0<=i)&&decide (i<=1000000)
noncomputable def WY:D->Option D:=λd=>match d with
 |.lst ds=>(match zW ds with
  |some is=>if ZK is=true/\is.length<=100000 then some (.int is.sum)else none
  |none=>none)
 |_=>none
def Wv(d e:D):Option D:=match d,e with
 |.bl a,.bl b=>some (.bl (a==b))
 |_,_=>none
def Vx(d e:D):Option D:=match d,e with
 |.bl a,.bl b=>some (.bl (!(a==b)))
 |_,_=>none
end Q
namespace Q
open PySem
noncomputable def XV(z:Str):D->Option D:=λd=>match d with
 |.lst ds=>(match x5 ds with
  |some ys=>if(ys.map (·.length)).sum+ys.length*z.length<=100000 then some (.str (Txt.join z ys))else none
  |none=>none)
 |_=>none
def Z9(z:Str)(c:Ex):Ex:=λE=>bnd (c E) λE x=>val E ((XV z x.2).map λd=>(.dp,d))
end Q
namespace Q
open PySem
def kz5:D->Bool
 |.str _=>true
 |_=>false
noncomputable def Zk:D->D->Option D:=λx y=>match x,y with
 |.str a,.str b=>(match Builtin.Str.occurrences a b 0 a.length 1 with
  |i::_=>some (.int i)
  |[]=>none)
 |_,_=>none
noncomputable def qwv(a b:Ex):Ex:=λE=>bnd (a E) λE x=>if kz5 x.2=true then bnd (b E) λE y=>val E ((Zk x.2 y.2).map λd=>(.dp,d))else none
end Q
namespace Q
open PySem
def VV(x:Sd):Bool:=qW x||(x.1 == .rt&&(match x.2 with
 |.lst ds=>D.pures ds
 |_=>false))
end Q
namespace Q
open PySem
noncomputable def D.at:List Nat->D->Option D
 |[],d=>some d
 |n::p,.tup ds=>match ds[n]? with
  |some d=>D.at p d
  |none=>none
 |n::p,.lst ds=>match ds[n]? with
  |some d=>D.at p d
  |none=>none
 |_::_,_=>none
noncomputable def D.put(d':D):List Nat->D->D
 |[],_=>d'
 |n::p,.tup ds=>match ds[n]? with
  |some d=>.tup (ds.set n (D.put d' p d))
  |none=>.tup ds
 |n::p,.lst ds=>match ds[n]? with
  |some d=>.lst (ds.set n (D.put d' p d))
  |none=>.lst ds
 |_::_,d=>d
noncomputable def sPC(i:Nat)(p:List Nat):Sm:=λE=>match E[i]? with
 |some (some (.dp,d))=>(match D.at p d with
  |some (.lst _)=>some (.nx (E.set i (some (.dp,D.put (.lst []) p d))))
  |_=>none)
 |_=>none
def K1(c:Ex):Ex:=λE=>bnd (c E) λE x=>if VV x=true then some (.ok E (.dp,x.2))else none
noncomputable def WZ(f:Fn)(i:Nat)(cs:List Ex):Ex:=λE=>bnd (kJ cs E) λE xs=>match E[i]? with
 | some (some x)=>(match f (letAll xs++[x])with
  |some (.ok E' y)=>(match E'[xs.length]? with
   |some (some x')=>some (.ok (E.set i (some x')) y)
   |_=>none)
  |some (.exc _ c)=>some (.exc (E.set i none) c)
  |none=>none)
 |_=>none
end Q
namespace Q
open PySem
noncomputable def qwg:D->D->Option (List D)
 |.lst xs,.lst ys=>if xs.length<=big then some (v7 xs ys)else none
 |.tup xs,.tup ys=>if xs.length<=big/\xs.length=ys.length then some (v7 xs ys)else none
 |_,_=>none
def kz4(c d:Ex):Ev (List D):=λE=>bnd (c E) λE x=>bnd (d E) λE y=>val E (qwg x.2 y.2)
noncomputable def QJ:Nat->Nat->D->Option D
 |0,_,d=>some d
 |n+1,k,d=>match D.at [k] d with
  |some (.tup [_,_,.lst _])=>QJ n (k+1) (D.put (.lst []) [k,2] d)
  |_=>none
noncomputable def WJ(i r1 r2 r3:Nat)(p:List Nat):Sm:=λE=>match E[i]? with
 | some (some (.dp,d))=>(match D.at p d with
  |some (.lst ds)=>if r1<E.length/\r2<E.length/\r3<E.length then(match QJ ds.length 0 (.lst ds)with
   |some d1=>some (.nx (((((E.set i none).set r1 none).set r2 none).set r3 none).set i (some (.dp,D.put d1 p d))))
   |none=>none)else none
  |_=>none)
 |_=>none
end Q
namespace Q
open PySem PySem.Spec PyProof.Rows L2 L3
section
variable {X:Cx}{Z:Fx0}{K:PySem.W.Frag}{pn:List Nat}{q qa qb:Bool}{a b c:Ex}{u:Ts}{tg e ea eb:Expr}{st:Stmt}{σ:L2.St}{H:Hp}{L:Ls}{E:En}{pos p p2:Pos}{x:Str}
theorem vqe:QS X Z pn vkx st:=λpins s σ H D I ak=>ex7 ak λE L r m w hc k=>by cases hc
theorem kjd(a:Str):∀r,(V0 a r).Perm (a::r)
 |[]=>List.Perm.refl _
 |b::r=>by
  unfold V0
  split
  ·exact((kjd a r).cons b).trans (List.Perm.swap ..)
  ·exact List.Perm.refl _
theorem zk:∀r,(qK r).Perm r
 |[]=>List.Perm.refl _
 |a::r=>(kjd a _).trans ((zk r).cons a)
def leS(a b:Str):Prop:=Spec.ltCps b.cps.toList a.cps.toList=false
theorem leS_iff{a b:Str}:leS a b↔a.cps.toList<=b.cps.toList:=by
 unfold leS;rw[ltCps_eq,decide_eq_false_iff_not,List.not_lt]
theorem kvu{a b c:Str}(h:leS a b)(h':leS b c):leS a c:=leS_iff.mpr (List.le_trans (leS_iff.mp h) (leS_iff.mp h'))
theorem kz2{a b:Str}(h:leS a b)(h':leS b a):a=b:=by
 have:=List.le_antisymm (leS_iff.mp h) (leS_iff.mp h');cases a;cases b;simp only at this
 congr 1
 exact Array.toList_inj.mp this
theorem qq6{a b:Str}(h:¬leS a b):leS b a:=by
 rw[leS_iff]at h ⊢;exact List.le_of_lt (List.not_le.mp h)
theorem kv8:∀{a:Str} {r:List Str},risingS a r=true->(a::r).Pairwise leS
 |a,[],_=>by simp
 |a,b::r,h=>by
  have h:(!(Spec.ltCps b.cps.toList a.cps.toList)&&risingS b r)=true:=h;rw[Bool.and_eq_true,Bool.not_eq_true']at h;have ih:=kv8 h.2;refine List.pairwise_cons.mpr ⟨λc hc=>?_,ih⟩;rcases List.mem_cons.mp hc with rfl|hc
  ·exact h.1
  ·exact kvu h.1 ((List.pairwise_cons.mp ih).1 c hc)
theorem qjy{r:List Str}(h:sortedS r=true):r.Pairwise leS:=by
 cases r with
 |nil=>exact .nil
 |cons a r=>exact kv8 h
theorem qqh{a:Str}:∀{r:List Str},r.Pairwise leS->(V0 a r).Pairwise leS
 | [],_=>by simp[V0]
 | b::r,h=>by
  rw[List.pairwise_cons]at h;unfold V0
  by_cases hl:Spec.ltCps b.cps.toList a.cps.toList=true
  ·rw[Xf hl];refine List.pairwise_cons.mpr ⟨λc hc=>?_,qqh h.2⟩;rcases List.mem_cons.mp ((kjd a r).mem_iff.mp hc)with rfl|hc
   ·exact qq6 (by unfold leS;rw[hl];exact λz=>nomatch z)
   ·exact h.1 c hc
  ·rw[Xm hl];have fb:leS a b:=by unfold leS;exact Bool.eq_false_iff.mpr hl
   refine List.pairwise_cons.mpr ⟨λc hc=>?_,List.pairwise_cons.mpr h⟩;rcases List.mem_cons.mp hc with rfl|hc
   ·exact fb
   ·exact kvu fb (h.1 c hc)
theorem jzk:∀{r:List Str},(qK r).Pairwise leS
 |[]=>.nil
 |a::r=>qqh jzk
theorem kxg{r s:List Str}(p:s.Perm r)(h:sortedS s=true):s=qK r:=
 List.Perm.eq_of_pairwise (λa b _ _ h1 h2=>kz2 h1 h2) (qjy h) jzk (p.trans (zk r).symm)
theorem kje(a:Int):∀r,(JZ a r).Perm (a::r)
 |[]=>List.Perm.refl _
 |b::r=>by
  unfold JZ
  split
  ·exact((kje a r).cons b).trans (List.Perm.swap ..)
  ·exact List.Perm.refl _
theorem jxg:∀r,(Q9 r).Perm r
 |[]=>List.Perm.refl _
 |a::r=>(kje a _).trans ((jxg r).cons a)
theorem qqi{a:Int}:∀{r:List Int},r.Pairwise (·<=·)->(JZ a r).Pairwise (·<=·)
 | [],_=>by simp[JZ]
 | b::r,h=>by
  rw[List.pairwise_cons]at h;unfold JZ
  by_cases hl:b<a
  ·rw[Xf hl];refine List.pairwise_cons.mpr ⟨λc hc=>?_,qqi h.2⟩;rcases List.mem_cons.mp ((kje a r).mem_iff.mp hc)with rfl|hc
   ·exact Int.le_of_lt hl
   ·exact h.1 c hc
  ·rw[Xm hl];refine List.pairwise_cons.mpr ⟨λc hc=>?_,List.pairwise_cons.mpr h⟩;rcases List.mem_cons.mp hc with rfl|hc
   ·omega
   ·have:=h.1 c hc;omega
theorem kxh:∀{r:List Int},(Q9 r).Pairwise (·<=·)
 |[]=>.nil
 |a::r=>qqi kxh
theorem qvk{r s:List Int}(p:s.Perm r)(h:s.Pairwise (·<=·)):s=Q9 r:=
 List.Perm.eq_of_pairwise (λa b _ _ h1 h2=>Int.le_antisymm h1 h2) h kxh (p.trans (jxg r).symm)
theorem kk4{ns:List Str}:∀{us:List Value},Vals (ns.map V.str) us->StrsAre us ns:=by
 induction ns with
 | nil=>intro us r;rw[List.map_nil]at r;cases r;exact .nil
 | cons n ns ih=>
  intro us r;rw[List.map_cons]at r;cases r with
  |cons r1 r2=>
   obtain⟨t,e⟩:=r1;subst e;exact .cons n t (ih r2)
theorem kqp{us:List Value}{ns:List Str}(h:StrsAre us ns):Vals (ns.map V.str) us:=by
 induction h with
 |nil=>exact .nil
 |cons y t _ ih=>exact .cons ⟨t,rfl⟩ ih
theorem kqq{us:List Value}{ns:List Int}(h:IntsAre us ns):Vals (ns.map V.int) us:=by
 induction h with
 |nil=>exact .nil
 |cons y t _ ih=>exact .cons ⟨t,rfl⟩ ih
noncomputable def qkb(K:PySem.W.Frag):List V->Hp->VK->Prop:=λxs H Q=>
 (∃p ss,xs=[.ref p]/\SqL K H p (ss.map V.str)/\ss.length<64/\∀l,H l=none->Q (.ref l) (upd H l (.lst ((qK ss).map V.str)))) \/
 ∃p ss,xs=[.ref p]/\SqL K H p (ss.map V.int)/\ss.length<64/\∀l,H l=none->Q (.ref l) (upd H l (.lst ((Q9 ss).map V.int)))
theorem kx0(hK:X.K=K):CallR X (.builtin "sorted") (qkb K):=by
 subst hK;intro pins s σ H xs us Q I r h;rcases h with⟨p,ss,rfl,hq,hl,q⟩|⟨p,ss,rfl,hq,hl,q⟩
 ·obtain⟨u,rfl,rx⟩:=J8 r;cases rx;obtain⟨aa,r',pl,hz⟩:=I.list hq;have ac:=r'.length;rw[X6]at ac hz;refine sorted_strs (vs:=aa) pl.isList (kk4 r') (by omega) λout ss' h1 h2 h3=>?_
  have e:=kxg h2 h3;subst e;obtain⟨n,hn⟩:=sortedAll_at s.heap aa out;have em:s.heap.objs.size<=s.heap.objs.size+1:=Nat.le_succ _;refine⟨.ref (s.heap.objs.size+1),_,I.laid (t':=s.toks) (o:=.lst ((qK ss).map V.str)) (λb o e=>sortedAll_old e) em ?_,rfl,q _ (I.hok.fresh em)⟩;exact⟨by rw[X6,(zk ss).length_eq];exact hz,out.toList,n,kqp h1,by simpa using hn⟩
 ·obtain⟨u,rfl,rx⟩:=J8 r;cases rx;obtain⟨aa,r',pl,hz⟩:=I.list hq;have ac:=r'.length;rw[X6]at ac hz;refine sorted_ints (vs:=aa) pl.isList (qj7 r') (by omega) λout ss' h1 h2 h3=>?_
  have e:=qvk h2 h3;subst e;obtain⟨n,hn⟩:=sortedAll_at s.heap aa out;have em:s.heap.objs.size<=s.heap.objs.size+1:=Nat.le_succ _;refine⟨.ref (s.heap.objs.size+1),_,I.laid (t':=s.toks) (o:=.lst ((Q9 ss).map V.int)) (λb o e=>sortedAll_old e) em ?_,rfl,q _ (I.hok.fresh em)⟩;exact⟨by rw[X6,(jxg ss).length_eq];exact hz,out.toList,n,kqq h1,by simpa using hn⟩
theorem jzi{g:Bool}:∀{ds:List D} {bs:List Str} {xs:List V} {as:List Addr},x5 ds=some bs->RepA K H g ds xs as->xs=bs.map V.str/\∀z∈bs,z.length<=sizeLine
 | [],bs,xs,as,h,r=>by
  cases oq9 h;unfold RepA at r;exact⟨r.1,λ_ z=>nomatch z⟩
 | d::ds,bs,xs,as,h,r=>by
  cases d with
  | str b=>
   unfold x5 at h;cases hb:x5 ds with
   |none=>rw[hb]at h;cases h
   |some cf=>
    rw[hb]at h;cases oq9 h;unfold RepA at r;obtain⟨x,rr,c1,c2,rfl,rfl,h1,h2⟩:=r;unfold RepL at h1;obtain⟨i1,i2⟩:=jzi hb h2;exact⟨by rw[h1.1,i1];rfl,λz hz=>(List.mem_cons.mp hz).elim (λe=>e▸h1.2.2) (i2 z)⟩
  |_=>unfold x5 at h;cases h
theorem kqf{g:Bool}:∀{ds:List D} {bs:List Int} {xs:List V} {as:List Addr},zW ds=some bs->RepA K H g ds xs as->xs=bs.map V.int
 | [],bs,xs,as,h,r=>by
  cases oq9 h;unfold RepA at r;exact r.1
 | d::ds,bs,xs,as,h,r=>by
  cases d with
  | int b=>
   unfold zW at h;cases hb:zW ds with
   |none=>rw[hb]at h;cases h
   |some cf=>
    rw[hb]at h;cases oq9 h;unfold RepA at r;obtain⟨x,rr,c1,c2,rfl,rfl,h1,h2⟩:=r;unfold RepL at h1;rw[h1.1,kqf hb h2];rfl
  |_=>unfold zW at h;cases h
theorem kkv{g:Bool}:∀{bs:List Str},(∀z∈bs,z.length<=sizeLine)->RepA K H g (bs.map D.str) (bs.map V.str) []
 |[],_=>by unfold RepA;exact⟨rfl,rfl⟩
 |b::bs,h=>by
  rw[List.map_cons,List.map_cons];unfold RepA;exact⟨_,_,[],[],rfl,rfl,Qk (h b X3),kkv λz hz=>h z (lc9 _ hz)⟩
theorem kxn{g:Bool}:∀{bs:List Int},RepA K H g (bs.map D.int) (bs.map V.int) []
 |[]=>by unfold RepA;exact⟨rfl,rfl⟩
 |b::bs=>by
  rw[List.map_cons,List.map_cons];unfold RepA;exact⟨_,_,[],[],rfl,rfl,zV,kxn⟩
theorem qvd:Ad1 K (λv H Q=>qkb K [v] H Q) V6:=by
 intro H x s Q ok hf k;unfold V6 at hf;dsimp only at hf;cases hx:x.d with
 | lst ds=>
  rw [hx]at hf;dsimp only at hf;obtain⟨l,xs,bs,ev,q3,r3,_⟩:=items ok (.inl hx);have q3:LsR K H l xs:=by rcases q3 with⟨_,z⟩|⟨z,_⟩;exact z;rw[hx]at z;cases z
  cases hs:x5 ds with
  | some ss=>
   rw[hs]at hf;dsimp only at hf
   split at hf
   ·rename_i hl;cases oq9 hf;obtain⟨e1,e2⟩:=jzi hs r3;subst e1;refine .inl ⟨l,ss,by rw[ev],xW q3,hl,λp hp=>?_⟩;exact k ⟨.rt,.lst _,.ref p,p::[]⟩ _ rfl rfl (Kk hp (kkv λz hz=>e2 z ((zk ss).mem_iff.mp hz)) λb hb=>nomatch hb)
   ·cases hf
  | none=>
   rw[hs]at hf;dsimp only at hf;cases hi:zW ds with
   | none=>rw[hi]at hf;cases hf
   | some ss=>
    rw[hi]at hf;dsimp only at hf
    split at hf
    ·rename_i hl;cases oq9 hf;have e1:=kqf hi r3;subst e1;refine .inr ⟨l,ss,by rw[ev],xW q3,hl,λp hp=>?_⟩;exact k ⟨.rt,.lst _,.ref p,p::[]⟩ _ rfl rfl (Kk hp kxn λb hb=>nomatch hb)
    ·cases hf
 |_=>rw[hx]at hf;cases hf
def tPo(Z:Fx0):Option Ex->TO
 |none=>qjr
 |some c=>vki (tV Z true c)
theorem vqc:PO X none (tPo Z none):=qzm
theorem W3(h:QV X Z true c e):PO X (some e) (tPo Z (some c)):=qzk h
theorem qkn{α:Type}{co:Option Ex}{F:En->Option Int->Option (Res α)}{r:Res α}{G:Option Int->Hp->Prop}(m:Mt E σ L)(w:World Z.K H L)(h:bnd (QK co E) F=some r)(xc:Xc Z σ H L r)
  (k:∀E1 l,F E1 l=some r->∀L1 H1,Mt E1 σ L1->World Z.K H1 L1->Step H L H1 L1->k4 H H1->G l H1):tPo Z co σ H G:=by
 cases co with
 | none=>exact k E none h L H m w Step.refl wX
 | some c=>
  have h:bnd (bnd (c E) λE x=>match x.2 with|.int i=>some (.ok E (some i))|_=>none) F=some r:=h;have h':bnd (c E) (λE x=>bnd (match x.2 with|.int i=>some (.ok E (some i))|_=>none) F)=some r:=by
   cases hc:c E with
   |none=>rw[hc]at h;exact h
   |some y=>rw[hc]at h;cases y<;>exact h
  show tV Z true c σ H λx H1=>∃i,x=.int i/\G (some i) H1
  refine vz m w h' xc λE1 s h1 x L1 H1 e1 e2 m1 w1 ok fr sr st sm=>?_
  cases hs:s.2 with
  |int i=>
   rw[hs]at h1;exact⟨i,vQ ok (e2.trans hs),k E1 (some i) h1 L1 H1 m1 w1 st (sm rfl)⟩
  |_=>rw[hs]at h1;cases h1
theorem kxk(n d:Nat)(v:Option Int):HT.sIx n d v=JX n d v:=by
 cases v<;>rfl
theorem RepA.drop{K:PySem.W.Frag}{H:Hp}{g:Bool}:∀(n:Nat) {ds:List D} {xs:List V} {as:List Addr},RepA K H g ds xs as->∃bs,RepA K H g (ds.drop n) (xs.drop n) bs/\∀b∈bs,b∈as
 |0,ds,xs,as,h=>⟨as,h,λ_ h=>h⟩
 |n+1,[],xs,as,h=>by
  unfold RepA at h;obtain⟨rfl,rfl⟩:=h;exact⟨[],by simp only[List.drop_nil];unfold RepA;exact⟨rfl,rfl⟩,λ_ h=>h⟩
 |n+1,d::ds,xs,as,h=>by
  unfold RepA at h;obtain⟨x,r,bs,cs,rfl,rfl,h1,h2⟩:=h;obtain⟨es,r2,hb⟩:=RepA.drop n h2;exact⟨es,r2,λb h=>lr9 _ (hb b h)⟩
theorem RepA.take{K:PySem.W.Frag}{H:Hp}{g:Bool}:∀(n:Nat) {ds:List D} {xs:List V} {as:List Addr},RepA K H g ds xs as->∃bs,RepA K H g (ds.take n) (xs.take n) bs/\∀b∈bs,b∈as
 |0,ds,xs,as,h=>⟨[],by simp only[List.take_zero];unfold RepA;exact⟨rfl,rfl⟩,λ_ h=>nomatch h⟩
 |n+1,[],xs,as,h=>by
  unfold RepA at h;obtain⟨rfl,rfl⟩:=h;exact⟨[],by simp only[List.take_nil];unfold RepA;exact⟨rfl,rfl⟩,λ_ h=>h⟩
 |n+1,d::ds,xs,as,h=>by
  unfold RepA at h;obtain⟨x,r,bs,cs,rfl,rfl,h1,h2⟩:=h;obtain⟨es,r2,hb⟩:=RepA.take n h2;refine⟨bs++es,?_,λb h=>(List.mem_append.mp h).elim (λz=>ll9 _ z) λz=>lr9 _ (hb b z)⟩;rw[List.take_succ_cons,List.take_succ_cons];unfold RepA;exact⟨x,r.take n,bs,es,rfl,rfl,h1,r2⟩
theorem RepA.cut{K:PySem.W.Frag}{H:Hp}{g:Bool}{ds:List D}{xs:List V}{as:List Addr}(h:RepA K H g ds xs as)(lo hi:Option Int):∃bs,RepA K H g (QX ds lo hi) (Q4 xs lo hi) bs/\∀b∈bs,b∈as:=by
 have hl:=h.len;unfold QX Q4;rw[kxk,kxk,<-hl];obtain⟨bs,r,hb⟩:=h.drop (JX ds.length 0 lo);obtain⟨cs,r2,hc⟩:=r.take (JX ds.length ds.length hi - JX ds.length 0 lo);exact⟨cs,r2,λb h=>hb b (hc b h)⟩
theorem qz6{x:Sl}{s:Sd}{lo hi:Option Int}{Q:VK}(ok:x.ok K H)(hf:fSl (x.o,x.d) lo hi=some s)(k:∀(z:Sl) H',z.o=s.1->z.d=s.2->Out K H H' z x.frz->Q z.v H'):qx2 K x.v lo hi H Q:=by
 unfold fSl at hf;dsimp only at hf;cases hx:x.d with
 | lst ds=>
  rw[hx]at hf;dsimp only at hf
  split at hf
  ·rename_i hl;cases oq9 hf;obtain⟨l,xs,bs,ev,q3,r3,h3⟩:=xK ok (.inl hx) (by rw[hx];exact hl);have q3:LsR K H l xs:=by rcases q3 with⟨_,z⟩|⟨z,_⟩;exact z;rw[hx]at z;cases z
   obtain⟨cs,r4,h4⟩:=r3.cut lo hi;exact .inl ⟨l,xs,ev,xW q3,λp hp=>k ⟨.rt,.lst _,.ref p,p::cs⟩ _ rfl rfl (Kk hp r4 λb hb=>h3 b (h4 b hb))⟩
  ·cases hf
 | tup ds=>
  rw[hx]at hf;dsimp only at hf
  split at hf
  ·rename_i hl;cases oq9 hf;obtain⟨l,xs,bs,ev,q3,r3,h3⟩:=xK ok (.inr hx) (by rw[hx];exact hl.1);have q3:SqT K H l xs:=by rcases q3 with⟨z,_⟩|⟨_,z⟩;rw[hx]at z;cases z;exact z
   obtain⟨cs,r4,h4⟩:=r3.cut lo hi;refine .inr (.inl ⟨l,xs,ev,q3,?_,λp hp=>k ⟨.no,.tup _,.ref p,cs⟩ _ rfl rfl (XY hp r4 λb hb=>h3 b (h4 b hb))⟩);rw[kxk,kxk,<-r3.len];exact hl.2
  ·cases hf
 | str z=>
  rw[hx]at hf;dsimp only at hf
  split at hf
  ·rename_i hl;cases oq9 hf;obtain⟨e,hz⟩:=xj ok hx;exact .inr (.inr ⟨z,e,hz,k ⟨.dp,.str _,.str _,[]⟩ H rfl rfl (vzb hl)⟩)
  ·cases hf
 |_=>rw[hx]at hf;cases hf
theorem vx8{lo hi:Option Ex}{elo ehi:Option Expr}(ha:QV X Z q a ea)(hl:PO X elo (tPo Z lo))(hh:PO X ehi (tPo Z hi))(hK:autoParam (X.K=Z.K) Ŕ):QE X Z q (cSl a lo hi) (.Subscript ea (.Slice elo ehi none p2) pos):=
 kY (qvz (vxq Z.K hK) ha hl hh) fun σ H Q ak=>ex8 ak λE L r m w hc xc k=>by
  refine vz m w (show bnd (a E) _=some r from hc) xc λE1 s h1 x L1 H1 e1 e2 m1 w1 ok fr sr st sm=>?_
  refine qkn m1 w1 h1 (xc.step st) λE2 l h2 L2 H2 m2 w2 bm dl=>?_
  refine qkn m2 w2 h2 (xc.step (st.trans bm)) λE3 u h3 L3 H3 m3 w3 cw mx=>?_
  obtain⟨z,hz,rfl⟩:=wW h3;have k1:=Qj ok fr bm dl;have k2:=Qj k1.1 k1.2 cw mx;refine qz6 k2.1 (by rw[e1,e2];exact hz) λy H' ho hd o=>?_
  obtain⟨w4,iz⟩:=Kj w3 ((st.trans bm).trans cw) o k2.2 (λb hb=>k2.1.some (Sl.frz_as hb)) (Qv sr λb hb=>Sl.frz_as hb);have il:q=true->k4 H H3:=λhq=>kw (sm hq) (kw dl mx)
  exact k _ _ rfl y L3 H' ho hd m3 w4 iz λhq=>⟨kw (il hq) o.same,λb hb=>xx (il hq) (o.new b hb)⟩
noncomputable def tAV(Z:Fx0)(cs:List Ex):TA:=fun σ H Q=>∃E L r,Mt E σ L/\World Z.K H L/\kJ cs E=some r/\Xc Z σ H L r /\
 ∀E' ys,r=.ok E' ys->∀(xs:List Sl) L' H',xs.map Sl.sd=ys->Mt E' σ L'->World Z.K H' L'->(∀x∈xs,x.ok Z.K H')->Step H L H' L'->k4 H H'->Q (xs.map Sl.v) H'
def QAV(X:Cx)(Z:Fx0)(cs:List Ex)(es:List Expr):Prop:=PA X es (tAV Z cs)
theorem Q2:QAV X Z [] []:=W2 ww fun σ H Q ak=>ex8 ak λE L r m w hc xc k=>by
 cases oq9 hc;exact k _ _ rfl [] L H rfl m w (λ_ z=>nomatch z) Step.refl wX
theorem zY{cs:List Ex}{es:List Expr}(h:QV X Z true c e)(hs:QAV X Z cs es)(bq:autoParam (starEach (e::es) X.env=(false,eval e X.env)::starEach es X.env) Ŕ):QAV X Z (c::cs) (e::es):=
 W2 (vZ h hs bq) fun σ H Q ak=>ex8 ak λE L r m w hc xc k=>by
  refine vz m w (show bnd (c E) _=some r from hc) xc λE1 s h1 x L1 H1 e1 e2 m1 w1 ok fr sr st sm=>?_
  rcases vk h1 with⟨E2,ys,h2,h3⟩|⟨E2,cc,h2,h3⟩
  ·cases oq9 h3;refine⟨E1,L1,_,m1,w1,h2,(λ_ _ z=>by cases z),λE' ys' z xs L2 H2 e3 m2 w2 jf bm dl=>?_⟩;injection z with z1 z2;subst z1 z2;refine k _ _ rfl (x::xs) L2 H2 (by rw[List.map_cons,e3];simp[Sl.sd,e1,e2]) m2 w2 (λy hy=>?_) (st.trans bm) (kw (sm rfl) dl);rcases List.mem_cons.mp hy with rfl|hy
   ·exact(Qj ok fr bm dl).1
   ·exact jf y hy
  ·exact⟨E1,L1,_,m1,w1,h2,(xc.step st).map h3,λE' s' z=>by cases z⟩
theorem Wq{k n:Nat}{ps:List Str}{f:Fn}{cs:List Ex}{es:List Expr}(D:kq X.prog X.w X.K X.mg X.base k x ps (spF Z.K Z.mg n f))(hr:Room k X.A)(g:xq X Z.EX)(ha:QAV X Z cs (e::es))(hn:autoParam (cs.length=n) Ŕ)(hg:autoParam (Gl X x) Ŕ)(eh:autoParam ((x==("__debug__":Str))=false) ŕ)
  (he:autoParam (starEach (e::es) X.env=(false,eval e X.env)::starEach es X.env) Ŕ) (bo:autoParam ((backTo pos (starEach es X.env)).any (·.1)=false) Ŕ):
  QE X Z true (J5 f cs) (.Call (.Name x p) (e::es) [] pos):=kY (kxr D hr g ha hg eh he bo) fun σ H Q ak=>ex8 ak λE L r m w hc xc kk=>by
 have hc:bnd (kJ cs E) _=some r:=hc;rcases vk hc with⟨E1,ys,h1,h2⟩|⟨E1,cc,h1,h2⟩
 rotate_left
 ·exact⟨E,L,_,m,w,h1,xc.map h2,λE' s' z=>by cases z⟩
 refine⟨E,L,_,m,w,h1,(λ_ _ z=>by cases z),λE' ys' z xs L1 H1 e1 m1 w1 ok1 st sm=>?_⟩;injection z with z1 z2;subst z1 z2;rw [Y9];have ac:xs.length=n:=by rw[<-hn,<-VJ h1,<-e1,X6]
 cases hf:f (letAll ys)with
 | none=>rw[hf]at h2;cases h2
 | some fr=>
  rw[hf]at h2;have ev:xs.map Sl.v=(xs.map Sl.let).map Sl.v:=by rw[Y2];rfl
  have wl:World Z.K H1 ((xs.map Sl.let).map some):=by
   refine⟨λy hy=>?_,by rw[wJ];exact Y1,λa ha=>by rw[wJ]at ha;exact nomatch ha⟩;obtain⟨y',hy',e⟩:=List.mem_map.mp hy;cases e;obtain⟨t,ht,rfl⟩:=List.mem_map.mp hy';exact zq (ok1 t ht)
  rw[ev];refine⟨xs.map Sl.let,fr,rfl,by rw[X6];exact ac,wl,by rw[<-e1]at hf;rw[kqc];exact hf,λE' c ee C H' hm s'=>?_,λE' a ee y H' e2 e3 w' s'=>?_⟩
  ·subst ee;cases oq9 h2;have ib:k4 H1 H':=λb ob hb=>s'.keep b ob hb λz=>by rw[wJ]at z;exact nomatch z
   exact xc _ _ rfl C L1 H' hm m1 ⟨λy hy=>RepO.kp (w1.ok y hy) (Kp.of_same ib),w1.nd,w1.ds⟩ (st.trans ⟨λb ob hb _=>ib b ob hb,λ_ h=>.inl h,λ_ h=>.inl h⟩)
  ·subst ee;dsimp only at h2
   split at h2
   ·rename_i hp;cases oq9 h2;have ib:k4 H1 H':=λb ob hb=>s'.keep b ob hb λz=>by rw[wJ]at z;exact nomatch z
    have w2:World Z.K H' L1:=⟨λy hy=>RepO.kp (w1.ok y hy) (Kp.of_same ib),w1.nd,w1.ds⟩;obtain⟨z,rp⟩:=RepL.pu (g':=false) (RepO.wk (w'.ok y X3)) (by rw[e3];exact hp);have bm:Step H L H' L1:=st.trans ⟨λb ob hb _=>ib b ob hb,λ_ h=>.inl h,λ_ h=>.inl h⟩;exact kk _ _ rfl ⟨.dp,y.d,y.v,[]⟩ L1 H' rfl e3 m1 (w2.consPu rp rfl) (K8 (x:=⟨.dp,y.d,y.v,[]⟩) bm (λb hb=>nomatch hb) rfl) λ_=>⟨kw sm ib,λ_ z=>(nomatch z)⟩
   ·cases h2
end
theorem vxs{prog:Program}{w:PySem.World}{A:Around}{E:Value->Shared->Prop}{s:Shared}{l:Addr}{items:Array Value}{k:Int}{t:Tok}{Q:Value->Shared->Prop}
  (ht:IsTup s.heap l items) (h:Q .notImplemented s):wpAny (model prog w) A (call (.builtin "int.__rmul__") [.int k t,.ref l]) Q E s:=by
 refine Xv PySem.F.slot_int_rmul (typeIs_int s k t) PySem.F.entry_int_rmul ?_ (PySem.F.args_int_rmul_2 _ _);obtain⟨o,e,c,n,hd⟩:=ht;show wpAny _ _ (asInt? (.ref l) >>= _) _ _ s;unfold asInt?;refine X0 (X0 (wpAny_load e ?_));rw[hd];refine X4 ?_;dsimp only;refine X0 (Z2 ?_);exact X4 ⟨_,rfl,h⟩
theorem mulT{prog:Program}{w:PySem.World}{A:Around}{E:Value->Shared->Prop}{s:Shared}{l:Addr}{items:Array Value}{k:Int}{t:Tok}{Q:Value->Shared->Prop}
  (ht:IsTup s.heap l items) (h1:-(2 ^ 63)<=k) (h2:k<2 ^ 63) (hz:items.size*k.toNat<=sizeLine)
  (i6:(items.isEmpty=true\/k=1)->Q (.ref l) s)
  (hsz:(List.foldl (λx1 x2=>x1++x2) #[] (List.replicate k.toNat items)).size<=sizeLine)
  (je:Q (.ref s.heap.objs.size) { s with heap:=s.heap.push { cls:=.type "tuple",data:=.seq (List.foldl (λx1 x2=>x1++x2) #[] (List.replicate k.toNat items)) } })
  : wpAny (model prog w) A (call (.builtin "tuple.__mul__") [.ref l,.int k t]) Q E s:=by
 refine Xv PySem.F.slot_tuple_mul ht.typeIs PySem.F.entry_tuple_mul ?_ (PySem.F.args_tuple_mul_2 _ _);show wpAny _ _ (if(decide (k < -2 ^ 63)||decide (k>=2 ^ 63))=true then _ else _) _ _ s;rw [Xm (by simp;omega)];show wpAny _ _ (Builtin.Tuple.tupleItemsOf (.ref l) >>= _) _ _ s;refine X0 (tupleItemsOf_ ht ?_)
 by_cases hs:(items.isEmpty||k==1)=true
 ·rw[Xf hs];unfold Builtin.Tuple.tupleIsExact;refine X0 (X0 (wpAny_typeOf ht.typeIs (X4 ?_)));rw[Xf (by decide)];refine X0 (Z2 ?_);refine X4 ⟨_,rfl,i6 ?_⟩
  simpa using hs
 ·rw[Xm hs];have dw:items.isEmpty=false:=by
   cases h:items.isEmpty<;>simp_all
  have hm:((items.size:Int)*k)<=(sizeLine:Int)\/k<=0:=by
   by_cases hk:k<=0
   ·exact .inr hk
   ·refine .inl ?_;have e:((k.toNat:Nat):Int)=k:=Int.toNat_of_nonneg (by omega);have:((items.size*k.toNat:Nat):Int)<=(sizeLine:Int):=Int.ofNat_le.mpr hz;rw[Int.natCast_mul,e]at this;exact this
  dsimp only
  by_cases hk:k<=0
  ·rw[Xf (by simp[hk])];have e:k.toNat=0:=by omega
   rw[e]at je;unfold Builtin.Tuple.tupleExact;exact X0 (Xq (X4 ⟨_,rfl,je⟩) (show(0:Nat)<=sizeLine from Z1 _))
  ·rw[Xm (by simp[hk,dw])];have hm:=hm.resolve_right hk;have hsl:(sizeLine:Int)=16777216:=by decide
   rw[Xm (by omega)];rw[Xm (by unfold Builtin.Tuple.tupleTooMany;simp;omega)];unfold Builtin.Tuple.tupleExact;exact X0 (Xq (X4 ⟨_,rfl,je⟩) hsz)
section
variable {X:Cx}{Z:Fx0}{K:PySem.W.Frag}{pn:List Nat}{q qa qb:Bool}{a b c:Ex}{u:Ts}{tg e ea eb:Expr}{st:Stmt}{σ:L2.St}{H:Hp}{L:Ls}{E:En}{pos p p2:Pos}{x:Str}
noncomputable def vq2(K:PySem.W.Frag):R2:=λx y H Q=>∃l k xs,x=.ref l/\y=.int k/\SqT K H l xs/\-(2 ^ 63)<=k/\k<2 ^ 63/\xs.length*k.toNat<=sizeLine/\((xs=[]\/k=1)->Q (.ref l) H)/\∀p,H p=none->Q (.ref p) (upd H p (.tup (List.replicate k.toNat xs).flatten))
theorem op_repT:OpR X (binaryOp .Mult) (vq2 X.K):=by
 intro pins s σ H x y v u Q I rx ry h;obtain⟨l,k,xs,rfl,rfl,hq,h1,h2,hz,q1,q2⟩:=h;cases rx;obtain⟨t,rfl⟩:=ry;obtain⟨aa,r,ht,hl⟩:=I.tuple hq;have ac:=r.length;have f0:List.foldl (λx1 x2=>x1++x2) #[] (List.replicate k.toNat aa.toArray)=(List.replicate k.toNat aa).flatten.toArray:=by
  have:=kjf aa k.toNat [];rw[List.nil_append]at this;exact this
 have jp:(List.replicate k.toNat xs).flatten.length<=sizeLine:=by rw[qq4,Nat.mul_comm];exact hz
 refine wpAny_binaryOp_repeat_ref (T:="tuple") (U:="int") (by decide) ht.typeIs (λs'=>typeIs_int s' k t) rfl F.fills_int_mul F.slot_int_rmul (show seqRepeat? (Value.type "tuple")=pure (some (Value.builtin "tuple.__mul__"))from rfl) F.slot_int_index.lookup
  (vxs ht ⟨rfl,ht.typeIs,mulT ht h1 h2 (by rw[X7,<-ac];exact hz) (λhs=>?_) ?_ ?_⟩)
 ·refine⟨.ref l,H,I,rfl,q1 ?_⟩;rcases hs with hs|hs
  ·left;have:aa=[]:=by simpa using hs
   subst this
   simpa using ac
  ·exact .inr hs
 ·rw[f0,X7,<-(r.rep k.toNat).length];exact jp
 ·rw[f0];exact⟨.ref _,_,I.laid (t':=s.toks) (o:=.tup _) (λb o e=>X1 _ e) (Xd _) ⟨jp,_,r.rep k.toNat,IsTupD.new _ _⟩,rfl,q2 _ (I.hok.fresh (Xd _))⟩
def vq5(K:PySem.W.Frag):R2:=λx y H Q=>vq2 K x y H Q\/qz9 K x y H Q
theorem vv9(hK:autoParam (X.K=K) Ŕ):OpR X (binaryOp .Mult) (vq5 K):=by subst hK;exact op_repT.or vva
theorem vk0:Ad2 K (vq5 K) qX:=by
 intro H x y s Q ox oy hf k;cases hx:x.d with
 | tup ds=>
  cases hy:y.d with
  | int n=>
   unfold qX at hf;rw [show(x.o,x.d).2=x.d from rfl,show(y.o,y.d).2=y.d from rfl,hx,hy]at hf;dsimp only at hf
   split at hf
   ·rename_i hc;cases oq9 hf;obtain⟨l,xs,bs,e3,q3,r3,h3⟩:=xK ox (.inr hx) (by rw[hx];exact hc.2.2.2);have q3:SqT K H l xs:=by rcases q3 with⟨z,_⟩|⟨_,z⟩;rw[hx]at z;cases z;exact z
    obtain⟨cs,r4,h4⟩:=r3.reps n.toNat;refine .inl ⟨l,n,xs,e3,vQ oy hy,q3,hc.1,hc.2.1,by rw[<-r3.len];exact hc.2.2.1,λhs=>?_,λp hp=>?_⟩
    ·refine k ⟨.no,.tup _,.ref l,cs⟩ H rfl rfl ⟨wX,?_,λb hb=>(nomatch hb),Y1,λb hb=>ll9 _ (h3 b (h4 b hb))⟩;show RepL K H true (.tup _) (.ref l) cs;unfold RepL;refine⟨l,xs,rfl,q3,?_⟩;have e:(List.replicate n.toNat xs).flatten=xs:=by
      rcases hs with hs|hs
      ·subst hs;simp
      ·subst hs;simp
     rw[e]at r4;exact r4
    ·exact k ⟨.no,.tup _,.ref p,cs⟩ _ rfl rfl (XY hp r4 λb hb=>ll9 _ (h3 b (h4 b hb)))
   ·cases hf
  |_=>
   refine .inr (qxr H x y s Q ox oy ?_ k);unfold qX at hf;rw[show(x.o,x.d).2=x.d from rfl,show(y.o,y.d).2=y.d from rfl,hx,hy]at hf;rw[hx,hy];exact hf
 |_=>
  refine .inr (qxr H x y s Q ox oy ?_ k);unfold qX at hf;rw[show(x.o,x.d).2=x.d from rfl,hx]at hf;rw[hx];exact hf
end
section
variable {X:Cx}{Z:Fx0}{K:PySem.W.Frag}{pn:List Nat}{q qa qb:Bool}{a b c:Ex}{u:Ts}{tg e ea eb:Expr}{st:Stmt}{σ:L2.St}{H:Hp}{L:Ls}{E:En}{pos p p2 fh:Pos}{x:Str}{c8:List Expr}{k1:Nat}
theorem jzf:∀(xs ys:List D) (i:Nat),(v7 xs ys)[i]?=(xs[i]?).bind λa=>(ys[i]?).map λb=>.tup [a,b]
 |[],_,_=>by simp[v7]
 |_::_,[],i=>by cases i<;>simp[v7]
 |a::x,b::y,0=>by simp[v7]
 |a::x,b::y,i+1=>by rw[v7,List.getElem?_cons_succ,List.getElem?_cons_succ,List.getElem?_cons_succ,jzf x y i]
theorem J6:∀(xs ys:List D),(v7 xs ys).length=min xs.length ys.length
 |[],_=>by simp[v7]
 |_::_,[]=>by simp[v7]
 |a::x,b::y=>by rw[v7,Xp,Xp,Xp,J6 x y];omega
theorem jx9{x:Sl}{es:List D}{l:Addr}{H1:Hp}(hx:x.d=.lst es)(ev:x.v=.ref l):∀H2:Hp,x.let.ok K H2->∃ys cs,SqL K H2 l ys/\RepA K H2 true es ys cs/\∀b∈cs,b∈x.as:=λH2 hok=>by
 obtain⟨a',ys,cs,mj,q4,r4,h4,_⟩:=items hok (.inl hx);have:a'=l:=by have:=mj.symm.trans ev;exact V.ref.inj this
 subst this;rcases q4 with⟨_,z⟩|⟨z,_⟩
 ·exact⟨ys,cs,z.sq,r4,h4⟩
 ·rw[show x.let.d=D.lst es from hx]at z;cases z
theorem kkw{H2:Hp}{T:Addr}{d1 d2:D}{v1 v2:V}{b1 b2:List Addr}(hT:H2 T=none)(r1:RepL K H2 true d1 v1 b1)(r2:RepL K H2 true d2 v2 b2):RepL K (upd H2 T (.tup [v1,v2])) true (.tup [d1,d2]) (.ref T) (b1++b2):=by
 have sm:k4 H2 (upd H2 T (.tup [v1,v2])):=wv hT;unfold RepL;refine⟨T,[v1,v2],rfl,.inl (.inl xX),?_⟩;unfold RepA;refine⟨v1,[v2],b1,b2,rfl,rfl,r1.kp (Kp.of_same sm),?_⟩;unfold RepA;refine⟨v2,[],b2,[],rfl,by simp,r2.kp (Kp.of_same sm),?_⟩;unfold RepA;exact⟨rfl,rfl⟩
theorem qkh{b:Ex}(ha:QE X Z q a ea)(hb:QE X Z q b eb)(hg:Gl X "zip")(hm:X.mg "zip"=none)(hK:autoParam (X.K=Z.K) Ŕ)
  (hs:autoParam (starEach [ea,eb] X.env=[(false,eval ea X.env),(false,eval eb X.env)]) Ŕ) (ip:autoParam (starEach [eb] X.env=[(false,eval eb X.env)]) Ŕ)
  (hs3:autoParam (starEach [ea,eb] X.env=(false,eval ea X.env)::starEach [eb] X.env) Ŕ):QI X Z q (.Tuple c8 k1 fh) (qqe a b) (.Call (.Name "zip" p) [ea,eb] [] pos):=λpins s σ H R I ak=>ex8 ak λE L r m w hc xc k=>by
 refine(vqq Z.K hg hm (vZ ha (vZ hb ww ip) hs3) hK hs ip) pins s σ H R I ?_;refine QQ m w (show bnd (a E) _=some r from hc) xc λE1 s h1 x L1 H1 e1 e2 m1 w1 st sm=>?_
 have s1:Step H L H1 L1:=st.trans Step.drop;refine QQ (q:=q) m1 w1.tail h1 (xc.step s1) λE2 s2 h2 y L2 H2 e3 e4 m2 w2 bm dl=>?_
 have hh:=vxb (T:=[some x]) w1 bm w2;have w3:World Z.K H2 (some x::some y::L2):=hh.1;have cw:Step H1 (some x::L1) H2 (some x::some y::L2):=hh.2;obtain⟨ds,hd,rfl⟩:=wW h2;have jd:=w3.head;have mz:=w3.tail.head;have wT:World Z.K H2 (L2++[x.let,y.let].map some):=by
  have wy:World Z.K H2 (some y.let::L2):=w3.tail.tail.consNo (zq mz) rfl λb hb=>w3.tail.apart b hb
  have wx:World Z.K H2 (some x.let::some y.let::L2):=wy.consNo (zq jd) rfl λb hb ho=>w3.apart b hb (by
   rw [jk]at ho ⊢;exact lr9 _ ((List.mem_append.mp ho).elim (λz=>by rw[(zX y).1]at z;exact nomatch z) id))
  exact World.comm (L:=[some x.let,some y.let]) wx
 have bt:Step H L H2 (some x::some y::L2):=st.trans cw;have sT:Step H L H2 (L2++[x.let,y.let].map some):=by
  refine⟨bt.keep,λb hb=>?_,λb hb=>?_⟩
  ·have:b∈j6 L2:=by simpa [zX]using hb
   exact bt.own b (by rw[jk,jk];exact lr9 _ (lr9 _ this))
  ·have:b∈jY L2\/b∈x.as\/b∈y.as:=by simpa [zX]using hb
   rcases this with z|z|z
   ·exact bt.frz b (by rw[k8,k8];exact lr9 _ (lr9 _ z))
   ·exact jzj bt b z
   ·rcases Sl.as_of z with z|z
    ·exact .inr (bt.own b (by rw[jk,jk];exact lr9 _ (ll9 _ z)))
    ·exact bt.frz b (by rw[k8,k8];exact lr9 _ (ll9 _ z))
 cases hx:x.d with
 | lst es=>
  cases hy:y.d with
  | lst fs=>
   rw [<-e2,<-e4,hx,hy]at hd;have hd:(if es.length<=big then some (v7 es fs)else none)=some ds:=hd
   split at hd
   rotate_left
   ·cases hd
   rename_i ac;have ac:es.length<=sizeLine:=ac;cases oq9 hd;obtain⟨l1,xs,bs,ev,q3,r3,h3,_⟩:=items jd (.inl hx);have q3:LsR Z.K H2 l1 xs:=by rcases q3 with⟨_,z⟩|⟨z,_⟩;exact z;rw[hx]at z;cases z
   obtain⟨l2,ys,cs,lq,q4,r4,h4,_⟩:=items mz (.inl hy);have q4:LsR Z.K H2 l2 ys:=by rcases q4 with⟨_,z⟩|⟨z,_⟩;exact z;rw[hy]at z;cases z
   have iu:=jx9 (K:=Z.K) (H1:=H1) hx ev;have iw:=jx9 (K:=Z.K) (H1:=H1) hy lq;refine⟨l1,l2,by rw[ev,lq],⟨xs,q3.sq⟩,⟨ys,q4.sq⟩,k _ _ rfl (Itz Z.K l1 l2) [x.let,y.let] L2 H2 m2 wT sT (by rw[J6];omega) (λhq=>kw (sm hq).1 (dl hq).1) ⟨λt ht=>?_,λi H3 hok hi=>?_,λH3 hok=>?_,λi H3 v H4 d hok m8 d6=>?_⟩⟩
   ·simp only[Xh,Xe,or_false]at ht;rcases ht with rfl|rfl<;>rfl
   ·obtain⟨us,li,a1,a2,_⟩:=iu H3 (hok _ (by simp));obtain⟨vs,km,b1,b2,_⟩:=iw H3 (hok _ (by simp));have hl:=a2.len;have gp:=b2.len;rw[J6]at hi;exact⟨us,vs,us[i]'(by omega),vs[i]'(by omega),a1,b1,X2 (by omega),X2 (by omega)⟩
   ·obtain⟨us,li,a1,a2,_⟩:=iu H3 (hok _ (by simp));obtain⟨vs,km,b1,b2,_⟩:=iw H3 (hok _ (by simp));have hl:=a2.len;have gp:=b2.len;exact⟨us,vs,a1,b1,by rw[J6];omega⟩
   ·obtain⟨us,li,a1,a2,a3⟩:=iu H3 (hok _ (by simp));obtain⟨vs,km,b1,b2,b3⟩:=iw H3 (hok _ (by simp));obtain⟨T,x',y',hT,rfl,rfl,g1,g2⟩:=m8;rw[jzf]at d6;cases he1:es[i]? with
    | none=>rw[he1]at d6;cases d6
    | some d1=>
     cases ia:fs[i]? with
     |none=>rw[he1,ia]at d6;cases d6
     |some d2=>
      rw[he1,ia]at d6;cases oq9 d6;obtain⟨v1,pj,f1,f2,f3⟩:=a2.get he1;obtain⟨v2,jm,j1,j2,j3⟩:=b2.get ia;have e5:v1=x':=by have:=g1 us a1;rw[f1]at this;exact oq9 this
      have e6:v2=y':=by have:=g2 vs b1;rw[j1]at this;exact oq9 this
      subst e5 e6;refine⟨⟨.no,_,.ref T,pj++jm⟩,rfl,rfl,rfl,wv hT,kkw hT f2 j2,λb hb=>?_⟩;rcases List.mem_append.mp hb with z|z
      ·exact⟨x.let,by simp,a3 b (f3 b z)⟩
      ·exact⟨y.let,by simp,b3 b (j3 b z)⟩
  |_=>rw[<-e2,<-e4,hx,hy]at hd;cases hd
 |_=>rw[<-e2,hx]at hd;cases hd
theorem q_fz{i:Nat}{A:Sm}(h:QS X Z pn A st):QS X Z pn (sFz i A) st:=Jv h λD σ H ak=>ex7 ak λE L r m w hc k=>by
 have hc:A (W5 i E)=some r:=hc;unfold W5 at hc
 split at hc
 ·rename_i o d hE;obtain⟨x,h1,h2,h3,h4⟩:=m.get hE;have m':=m.let h1
  rw[h3]at m';exact⟨_,_,r,m',(w.read h1).tail,hc,k.step ((Step.read h1).trans Step.drop) Pn.refl⟩
 ·exact⟨E,L,r,m,w,hc,k⟩
end
theorem vvz{n:Nat}{i:Int}{j:Nat}(h:_root_.Q.ixN n i=some j):seqIndex? i n=some j/\j<n/\-(n:Int)<=i/\i<n:=by
 have e:L2.ixN n i=some j:=by
  unfold _root_.Q.ixN at h;unfold L2.ixN
  by_cases h0:0<=i
  ·rw[Xf h0]at h ⊢;exact h
  ·rw[Xm h0]at h ⊢;exact h
 exact qqd e
section
variable {X:Cx}{Z:Fx0}{K:PySem.W.Frag}{pn:List Nat}{q qa qb:Bool}{a b c:Ex}{u:Ts}{tg e ea eb:Expr}{st:Stmt}{σ:L2.St}{H:Hp}{L:Ls}{E:En}{pos p p2 fh:Pos}{x:Str}{c8:List Expr}{k1:Nat}
theorem RepA.setAt{H H':Hp}{l:Addr}{d':D}{cs:List Addr}:∀{n:Nat} {ds:List D} {xs:List V} {as:List Addr} {ys:List D},RepA K H false ds xs as->as.Nodup->ds[n]?=some (.lst ys)->xs[n]?=some (.ref l) ->
  (∀bs:List Addr,l∉bs->(∀b∈bs,b∈as)->Kp H H' bs)->(∀bs,RepL K H false (.lst ys) (.ref l) bs->(∀b∈bs,b∈as)->bs.Nodup->∃es,RepL K H' false d' (.ref l) es/\es.Nodup/\(∀b∈es,b∈bs\/b∈cs))->(∀b∈cs,b∉as) ->
  ∃cu,RepA K H' false (ds.set n d') xs cu/\cu.Nodup/\∀b∈cu,b∈as\/b∈cs
 | _,[],_,_,_,_,_,e,_,_,_,_=>by simp at e
 | 0,d::ds,xs,as,ys,h,nd,e,ex,kp,new,ic=>by
  have e:d=.lst ys:=by simpa using e
  subst e;unfold RepA at h;obtain⟨x,r,bs,es,rfl,rfl,h1,h2⟩:=h;have ex:x=.ref l:=by simpa using ex
  subst ex;rw[X5]at nd;obtain⟨fs,n1,n2,n3⟩:=new bs h1 (λb hb=>ll9 _ hb) nd.1;have hl:l∈bs:=by
   unfold RepL at h1;obtain⟨a,zs,gs,ea,_,q⟩:=h1;cases ea;rcases q with⟨_,rfl⟩|⟨z,_⟩
   ·exact X3
   ·cases z
  have le:l∉es:=λz=>nd.2.2 l hl l z rfl
  refine⟨fs++es,?_,?_,λb hb=>?_⟩
  ·rw[List.set_cons_zero];unfold RepA;exact⟨_,r,fs,es,rfl,rfl,n1,h2.kp (kp es le λb hb=>lr9 _ hb)⟩
  ·rw[X5];refine⟨n2,nd.2.1,λa ha b hb fb=>?_⟩;subst fb;rcases n3 a ha with z|z
   ·exact nd.2.2 a z a hb rfl
   ·exact ic a z (lr9 _ hb)
  ·rcases List.mem_append.mp hb with z|z
   ·exact(n3 b z).imp (λz=>ll9 _ z) id
   ·exact .inl (lr9 _ z)
 | n+1,d::ds,xs,as,ys,h,nd,e,ex,kp,new,ic=>by
  unfold RepA at h;obtain⟨x,r,bs,es,rfl,rfl,h1,h2⟩:=h;rw[X5]at nd;obtain⟨cu,n1,n2,n3⟩:=RepA.setAt (n:=n) h2 nd.2.1 (by simpa using e) (by simpa using ex) (λbs h1 h2=>kp bs h1 λb hb=>lr9 _ (h2 b hb)) (λbs h1 h2 h3=>new bs h1 (λb hb=>lr9 _ (h2 b hb)) h3) (λb hb z=>ic b hb (lr9 _ z));have hl:l∈es:=by
   obtain⟨v,gs,q1,q2,q3⟩:=h2.get (i:=n) (by simpa using e);rw[show r[n]?=some (V.ref l)from by simpa using ex]at q1;cases oq9 q1;unfold RepL at q2;obtain⟨a,zs,hs,ea,_,q⟩:=q2;cases ea;rcases q with⟨_,rfl⟩|⟨z,_⟩
   ·exact q3 l X3
   ·cases z
  have lb:l∉bs:=λz=>nd.2.2 l z l hl rfl
  refine⟨bs++cu,?_,?_,λb hb=>?_⟩
  ·rw[List.set_cons_succ];unfold RepA;exact⟨x,r,bs,cu,rfl,rfl,h1.kp (kp bs lb λb hb=>ll9 _ hb),n1⟩
  ·rw[X5];refine⟨nd.1,n2,λa ha b hb fb=>?_⟩;subst fb;rcases n3 a hb with z|z
   ·exact nd.2.2 a ha a z rfl
   ·exact ic a z (ll9 _ ha)
  ·rcases List.mem_append.mp hb with z|z
   ·exact .inl (ll9 _ z)
   ·exact(n3 b z).imp (λz=>lr9 _ z) id
theorem YQ{y:Sl}{ds:List D}(ok:y.ok K H)(hd:y.d=.lst ds)(ho:y.o=.dp):∃l xs bs,y.v=.ref l/\H l=some (.lst xs)/\y.as=l::bs/\y.own=l::bs/\RepA K H false ds xs bs:=by
 obtain⟨l,xs,bs,c1,c2,c3,c4,c5⟩:=qkv ok hd (by rw[ho];exact λz=>nomatch z);rw[ho]at c5;exact⟨l,xs,bs,c1,c2,c3,by unfold Sl.own;rw[ho,c3],c5⟩
theorem qx5 {i:Nat} {j:Ex} {ex ej:Expr} {av ag gc:Pos} (hj:QV X Z true j ej) (hc:QE X Z true c e) (hx:PE X ex (Jj i)) (bo:XW ej) (hK:autoParam (X.K=Z.K) Ŕ)
  (hm:MtR X "list.append" kkx)
  (b6:autoParam (attributeBase (.Subscript ex ej p) "append" X.env (eval (.Subscript ex ej p) X.env)=eval (.Subscript ex ej p) X.env) Ŕ)
  (ei:autoParam (((backTo ag (starEach [e] X.env)).all (λx=>!x.1)&&(backToKw ag (keywordEach [] X.env)).all (λx=>x.1.isSome)
   && decide ([e].length+([]:List Keyword).length+(if([]:List Keyword).isEmpty then 0 else 1)<30))=true) Ŕ)
  (b8:autoParam ((av.endLine==ag.line)=true) Ŕ) (hs:autoParam (starEach [e] X.env=(false,eval e X.env)::starEach [] X.env) Ŕ) (be:autoParam ((backTo ag (starEach [] X.env)).any (·.1)=false) Ŕ)
  (md:autoParam (swapsWith (.Call (.Attribute (.Subscript ex ej p) "append" av) [e] [] ag) none gc.line X.env=pure false) Ŕ):
  QS X Z pn (K7 i j c) (.Expr (.Call (.Attribute (.Subscript ex ej p) "append" av) [e] [] ag) gc):=
 Jv (Zj (qxc Z.K PySem.F.plainAttrs_list PySem.F.slot_list_append PySem.F.type_list_append hm (qzq (hK▸qqc) hx hj bo) (vZ hc ww hs) b6 ei b8 hs be hK) md) λD σ H ak=>ex7 ak λE L r m w bj k=>by
 unfold K7 at bj;cases h0:E[i]? with
 | none=>rw[h0]at bj;cases bj
 | some s0=>
 cases s0 with
 | none=>rw[h0]at bj;cases bj
 | some s0=>
 obtain ⟨o0,d0⟩:=s0;rw [h0] at bj;cases o0 with
 | no=>cases bj
 | rt=>cases bj
 | dp =>
 cases d0 with
 | lst ds0=>
  rw [Xf (show vzj (some (some (Own.dp,_root_.Q.D.lst ds0)))=true from rfl)]at bj;obtain ⟨x0,a1,a2,a3,a4⟩:=m.get h0;refine ⟨x0.v,a4,?_⟩;rcases jx7 bj with⟨E1,s,h1,h2⟩|⟨E1,cc,h1,rfl⟩
  rotate_left
  ·exact ⟨E,L,_,m,w,h1,k.xc,λE' s' z=>by cases z⟩
  refine ⟨E,L,_,m,w,h1,(λ_ _ z=>by cases z),λE' s' z x L1 H1 e1 e2 m1 w1 jd fr sr st sm=>?_⟩;injection z with z1 z2;subst z1 z2;cases hE:E1[i]? with
  | none=>rw[hE]at h2;cases h2
  | some s1=>
  cases s1 with
  | none=>rw[hE]at h2;cases h2
  | some s1=>
  obtain ⟨o1,d1⟩:=s1;rw [hE] at h2;cases o1 with
  | no=>cases h2
  | rt=>cases h2
  | dp =>
  cases d1 with
  | lst bi=>
   cases hsi:s.2 with
   | int kk=>
    rw [hsi]at h2;dsimp only at h2;cases jh:_root_.Q.ixN bi.length kk with
    | none=>rw[jh]at h2;cases h2
    | some n=>
    rw [jh]at h2;dsimp only at h2;cases hdn:bi[n]? with
    | none=>rw[hdn]at h2;cases h2
    | some dn=>
    rw [hdn]at h2;cases dn with
    | lst ys0=>
     dsimp only at h2;obtain⟨y,b1,b2,b3,b4⟩:=m1.get hE;have hv:y.v=x0.v:=by rw[a4]at b4;exact(oq9 (oq9 b4)).symm
     obtain⟨la,xs,bs,c1,c2,c3,c4,c5⟩:=YQ (w1.ok y (wQ b1)) b3 b2;obtain⟨vn,gs,f1,f2,f3⟩:=c5.get hdn;obtain⟨g1,g2,g3,g4⟩:=vvz jh;have hvn:=f2;unfold RepL at hvn;obtain⟨l,zs,jl,evn,hra,hqq⟩:=hvn;subst evn;have i7:H1 l=some (.lst zs):=by rcases hqq with⟨z,_⟩|⟨z,_⟩;exact z;cases z
     rw [<-hv,c1];refine .inl ⟨la,xs,kk,.ref l,rfl,vQ jd (e2.trans hsi),.inl (.inl c2),?_,.inl ⟨rfl,zs,.inl (.inl i7)⟩,?_⟩
     ·unfold atI;have:L2.ixN xs.length kk=some n:=by
       rw [<-c5.len];unfold _root_.Q.ixN at jh;unfold L2.ixN
       by_cases h0:0<=kk
       ·rw[Xf h0]at jh ⊢;exact jh
       ·rw[Xm h0]at jh ⊢;exact jh
      rw [this];exact f1
     have k1:FlP Z pn D σ H1 L1 r:=k.step st Pn.refl;refine Wz (q:=true) m1 w1 h2 k1 λE2 s2 h3 x2 L2 H2 e3 e4 m2 w2 bm dl=>?_
     cases hE2:E2[i]? with
     | none=>rw[hE2]at h3;cases h3
     | some s3=>
     cases s3 with
     | none=>rw[hE2]at h3;cases h3
     | some s3=>
     obtain⟨o3,d3⟩:=s3;rw [hE2]at h3;cases o3 with
     | no=>cases h3
     | rt=>cases h3
     | dp =>
     cases d3 with
     | lst fy=>
      dsimp only at h3;cases f9:fy[n]? with
      | none=>rw[f9]at h3;cases h3
      | some dn2=>
      rw [f9]at h3;cases dn2 with
      | lst ys=>
       dsimp only at h3
       split at h3
       rotate_left
       ·cases h3
       rename_i hti;cases oq9 h3;obtain⟨y2,p1,p2,p3,p4⟩:=m2.get hE2;have hv2:y2.v=.ref la:=by
        have:y2.v=y.v:=by rw[b4]at p4;exact(oq9 (oq9 p4)).symm
        rw[this,c1]
       obtain⟨ig,xs2,jm,q1,q2,q3,q4,q5⟩:=YQ (w2.ok y2 (lc9 _ (wQ p1))) p3 p2;have:ig=la:=by rw[hv2]at q1;exact(V.ref.inj q1).symm
       subst this;have i6:=(dl rfl).1;have:xs2=xs:=by rw[i6 _ _ c2]at q2;cases q2;rfl
       subst this;obtain⟨vn2,gs2,j1,j2,j3⟩:=q5.get f9;have:vn2=.ref l:=by rw[f1]at j1;exact(oq9 j1).symm
       subst this;have gp:H2 l=some (.lst zs):=i6 _ _ i7;have lin:l∈jm:=by
        unfold RepL at j2;obtain⟨a,zz,hs,ea,_,qq⟩:=j2;cases ea;rcases qq with⟨_,rfl⟩|⟨z,_⟩
        ·exact j3 l X3
        ·cases z
       obtain⟨cs,r1,t3,t4,t5⟩:=vw7 w2.head false λ_=>by rw[show x2.sd=s2 from by simp[Sl.sd,e3,e4]];exact hti.1
       have nd:=w2.nd;rw [jk,X5]at nd;have yn:(ig::jm).Nodup:=by
        obtain⟨A,B,e,_⟩:=jxb p1;have:=nd.2.1;rw[e,jZ,jk,X5]at this;have:=(List.nodup_append.mp this.2.1).1;rw[q4]at this;exact this
       rw [List.nodup_cons]at yn;have oin:∀b∈ig::jm,b∈j6 L2:=λb hb=>mem_owned.mpr ⟨y2,wQ p1,by rw[q4];exact hb⟩
       have csx:∀b∈cs,b∉ig::jm:=λb hb hz=>nd.2.2 b (t4 rfl b hb) b (oin b hz) rfl
       have nlc:l∉cs:=λz=>csx l z (lc9 _ lin)
       have kpg:∀as:List Addr,l∉as->Kp H2 (upd H2 l (.lst (zs++[x2.v]))) as:=λas hn=>by
        have ke:∀a o,H2 a=some o->a≠l->upd H2 l (.lst (zs++[x2.v])) a=some o:=λa o e ne=>by rw[kX ne];exact e
        refine⟨λa xs e=>ke a _ e λz=>?_,λa o u e=>ke a _ e λz=>?_,λa ha o e=>ke a o e λz=>hn (z▸ha)⟩
        ·subst z;rw[gp]at e;cases e
        ·subst z;rw[gp]at e;cases e
       obtain⟨cu,n1,n2,n3⟩:=RepA.setAt (H':=upd H2 l (.lst (zs++[x2.v]))) (d':=.lst (ys++[s2.2])) (cs:=cs) q5 yn.2 f9 f1 (λbs h1 _=>kpg bs h1) (λbs hb gh ms=>by
        unfold RepL at hb;obtain⟨a,zz,hs,ea,lu,qq⟩:=hb;cases ea;rcases qq with⟨qq,rfl⟩|⟨z,_⟩
        ·have:zz=zs:=by rw[gp]at qq;cases qq;rfl
         subst this;rw[List.nodup_cons]at ms;refine⟨l::(hs++cs),?_,?_,λb hb=>?_⟩
         ·unfold RepL;refine⟨l,zz++[x2.v],hs++cs,rfl,RepA.snoc (by rw[<-e4];exact r1.kp (kpg cs nlc)) (lu.kp (kpg hs ms.1)),.inl ⟨xX,rfl⟩⟩
         ·rw[List.nodup_cons,X5];refine⟨λz=>(List.mem_append.mp z).elim ms.1 nlc,ms.2,t5 rfl nd.1,λa ha b hb fb=>?_⟩;subst fb;exact csx a hb (lc9 _ (gh a (lc9 _ ha)))
         ·rcases List.mem_cons.mp hb with rfl|hb
          ·exact .inl X3
          ·exact(List.mem_append.mp hb).imp (lc9 _) id
        ·cases z) (λb hb z=>csx b hb (lc9 _ z))
       have lla:ig≠l:=λz=>yn.1 (z▸lin)
       refine⟨l,zs,x2.v,rfl,rfl,gp,?_,?_⟩
       ·have:ys.length=zs.length:=by
         unfold RepL at j2;obtain⟨a,zz,hs,ea,lu,qq⟩:=j2;cases ea;rcases qq with⟨qq,rfl⟩|⟨z,_⟩
         ·have:zz=zs:=by rw[gp]at qq;cases qq;rfl
          subst this;exact lu.len
         ·cases z
        rw[<-this];exact hti.2
       have laas:ig∉cu:=λz=>by
        rcases n3 ig z with z|z
        ·exact yn.1 z
        ·exact csx ig z X3
       obtain⟨w3,s3⟩:=World.writeAt (T:=[some x2]) (L:=L2) (i:=i) (y':=⟨.dp,.lst (fy.set n (.lst (ys++[s2.2]))),y2.v,ig::cu⟩) (l:=l) (ob:=.lst (zs++[x2.v])) w2 p1 (by rw[q4];exact lc9 _ lin) (by
        show RepL Z.K _ false _ _ _;unfold RepL;exact⟨ig,xs2,cu,hv2,n1,.inl ⟨by rw[kX lla];exact q2,rfl⟩⟩) (List.nodup_cons.mpr ⟨laas,n2⟩) (λa ha=>by
        rcases List.mem_cons.mp (show a∈ig::cu from ha)with rfl|ha
        ·exact .inl (by rw[q4];exact X3)
        ·rcases n3 a ha with z|z
         ·exact .inl (by rw[q4];exact lc9 _ z)
         ·exact .inr (by simpa using t4 rfl a z)) (λa ha=>(nomatch ha)) (λa ha z=>(nomatch z))
       refine k1 σ _ _ Pn.refl ?_ w3 (bm.trans s3);have mm:=m2.set (x:=⟨.dp,.lst (fy.set n (.lst (ys++[s2.2]))),y2.v,ig::cu⟩) i;rw[Jq p4]at mm;exact mm
      |_=>cases h3
     |_=>cases h3
    |_=>cases h2
   |_=>rw[hsi]at h2;cases h2
  |_=>cases h2
 |_=>cases bj
end
section
variable {X:Cx}{Z:Fx0}{q:Bool}{a b c:Ex}{ea eb ec:Expr}{σ:L2.St}{H:Hp}{pos:Pos}
theorem kkh{r r':R2}{f g:D->D->Option D}(ad:Ad2 Z.K r (pu2 f))(ph:Ad2 Z.K r' (pu2 g)){Q:VK}(h:tQ Z q (zj f g a b c) σ H Q):qjs r r' (tV Z q a) (tV Z true b) (tV Z true c) σ H Q:=by
 obtain⟨E,L,R,m,w,hc,xc,k⟩:=h;refine vz m w hc xc λE1 s h1 x L1 H1 e1 e2 m1 w1 ok fr sr st sm=>?_
 refine vz m1 w1 h1 (xc.step st) λE2 s2 h2 y L2 H2 e3 e4 m2 w2 jf nk oj bm dl=>?_
 have kx:=Qj ok fr bm (dl rfl);cases hf:f s.2 s2.2 with
 | none=>rw[hf]at h2;cases h2
 | some d=>
  rw [hf]at h2;cases d with
  | bl kb=>
   refine ad H2 x y (.dp,.bl kb) _ kx.1 jf (by show(f x.d y.d).map _=_;rw[e2,e4,hf];rfl) λz H' zo zd o=>?_
   refine⟨kb,Q8 o.ok zd,?_⟩;have w3:World Z.K H' L2:=⟨λt ht=>RepO.kp (w2.ok t ht) (Kp.of_same o.same),w2.nd,w2.ds⟩;have cw:Step H L H' L2:=(st.trans bm).trans ⟨λb ob h _=>o.same b ob h,λ_ h=>.inl h,λ_ h=>.inl h⟩;have mx:q=true->k4 H H':=λhq=>kw (sm hq) (kw (dl rfl) o.same)
   cases kb with
   | false=>
    cases oq9 h2;rw[Xm (by decide)];exact k _ _ rfl ⟨.dp,.bl false,.bl false,[]⟩ L2 H' rfl rfl m2 (w3.consPu (x:=⟨.dp,.bl false,.bl false,[]⟩) (show RepL Z.K H' false (.bl false) (.bl false) []from qz) rfl) (K8 (x:=⟨.dp,.bl false,.bl false,[]⟩) cw (λb hb=>nomatch hb) rfl) λhq=>⟨mx hq,λ_ z=>(nomatch z)⟩
   | true=>
    rw[Xf rfl];refine vz m2 w3 h2 (xc.step cw) λE3 s3 h3 v L3 H3 e5 e6 m3 w4 ok3 lz sr3 iz lv=>?_
    obtain⟨zz,hz,rfl⟩:=wW h3;have ky:=Qj (x:=y) (RepO.kp jf (Kp.of_same o.same)) nk iz (lv rfl);refine ph H3 y v zz Q ky.1 ok3 (by show(g y.d v.d).map _=_;rw[e4,e6];exact hz) λt H5 to td ot=>?_
    obtain⟨w5,jo⟩:=Kj w4 (cw.trans iz) ot (λb hb=>(List.mem_append.mp hb).elim (ky.2 b) (lz b)) (λb hb=>(List.mem_append.mp hb).elim (λz=>ky.1.some (Sl.frz_as z)) λz=>ok3.some (Sl.frz_as z))
     (qjx (Qv (oj.back st) λb hb=>Sl.frz_as hb) (Qv (sr3.back cw) λb hb=>Sl.frz_as hb))
    exact k _ _ rfl t L3 H5 to td m3 w5 jo λhq=>⟨kw (mx hq) (kw (lv rfl) ot.same),λb hb=>xx (kw (mx hq) (lv rfl)) (ot.new b hb)⟩
  |_=>cases h2
theorem qzd{op gj:CmpOp}{r r':R2}{f g:D->D->Option D}(ho:OpR X (compareOp op) r)(ad:Ad2 Z.K r (pu2 f))(ft:OpR X (compareOp gj) r')(ph:Ad2 Z.K r' (pu2 g))(ha:QV X Z q a ea)(hb:QV X Z true b eb)(hc:QV X Z true c ec)
  (hm:lastMarks [op,gj] [eb,ec]=false:=by with_unfolding_all rfl):QE X Z q (zj f g a b c) (.Compare ea [op,gj] [eb,ec] pos):=kY (qw0 ho ft ha hb hc hm) fun σ H Q h=>kkh ad ph h
theorem kky {op gj:CmpOp} {r r':R2} {f g:D->D->Option D} (ho:OpR X (compareOp op) r) (ad:Ad2 Z.K r (pu2 f)) (ft:OpR X (compareOp gj) r') (ph:Ad2 Z.K r' (pu2 g)) (ha:QV X Z q a ea) (hb:QV X Z true b eb) (hc:QV X Z true c ec) (hg:∀x y s,pu2 g x y=some s->∃k,s.2=.bl k)
  (hm:lastMarks [op,gj] [eb,ec]=false:=by with_unfolding_all rfl):QT X Z q (_root_.Q.tE (zj f g a b c)) (.Compare ea [op,gj] [eb,ec] pos):=
 kxp (qvw ho ft ha hb hc hm) fun σ H Q ak=>ex8 ak λE L r m w bj xc k=>by
  refine kkh ad ph ?_;have mv:bnd (zj f g a b c E) (λE x=>val E (truth x.2))=some r:=bj;rcases vk mv with⟨E1,s,h1,h2⟩|⟨E1,cx,h1,h2⟩
  ·refine⟨E,L,_,m,w,h1,(λ_ _ z=>by cases z),λE' s' z x L' H' e1 e2 m' w' st sm=>?_⟩;injection z with z1 z2;subst z1 z2;obtain⟨kk,hk⟩:∃k,s.2=.bl k:=by
    unfold zj at h1;rcases vk h1 with⟨E2,s2,h3,h4⟩|⟨_,_,_,z⟩
    ·rcases vk h4 with⟨E3,s3,h5,h6⟩|⟨_,_,_,z⟩
     ·split at h6
      ·rcases vk h6 with⟨E4,s4,h7,h8⟩|⟨_,_,_,z⟩
       ·obtain⟨y,hy,z⟩:=wW h8;cases z;exact hg s3 s4 _ hy
       ·cases z
      ·cases oq9 h6;exact⟨false,rfl⟩
      ·cases h6
     ·cases z
    ·cases z
   rw[hk]at h2;cases oq9 h2;exact⟨kk,Q8 w'.head (e2.trans hk),k _ _ rfl L' H' m' w'.tail (st.trans Step.drop) λhq=>(sm hq).1⟩
  ·exact⟨E,L,_,m,w,h1,xc.map h2,λE' s' z=>by cases z⟩
end
end Q
namespace Q
open PySem PySem.Spec PyProof.Rows L2 L3
theorem kwo{is:List Int}{val:Nat->Int}(hv:∀i (h:i<is.length),val i=is[i]):∀n,n<=is.length->preSum val n=(is.take n).sum
 |0,_=>by simp[preSum]
 |n+1,h=>by
  rw[preSum,kwo hv n (by omega),hv n (by omega),List.take_succ_eq_append_getElem (by omega),List.sum_append];simp
theorem vkm{is:List Int}(h:∀i∈is,0<=i/\i<=1000000):0<=is.sum/\is.sum<=1000000*is.length:=by
 induction is with
 |nil=>simp
 |cons a is ih=>
  have h1:=h a X3;have h2:=ih λi hi=>h i (lc9 _ hi)
  rw[List.sum_cons,Xp];omega
noncomputable def vxw(K:PySem.W.Frag):List V->Hp->VK->Prop:=λxs H Q=>∃(p:Addr) (is:List Int),xs=[.ref p]/\SqL K H p (is.map V.int)/\ZK is=true/\is.length<=100000/\Q (.int is.sum) H
theorem qwp{X:Cx}(hc:autoParam (X.calm=true) Ŕ):CallR X (.builtin "sum") (vxw X.K):=by
 intro pins s σ H xs us Q I r h;obtain⟨p,is,rfl,hq,hs,hl,q⟩:=h;obtain⟨u,rfl,ru⟩:=J8 r;cases ru;obtain⟨aa,rv,pl,hz⟩:=I.list hq;have hli:=pl.isList;have cz:p<s.heap.objs.size:=by obtain⟨_,e,_⟩:=hli;exact Xa e
 have ac:is.length=aa.length:=by rw[<-rv.length,X6]
 have hb:∀i∈is,0<=i/\i<=1000000:=λi hi=>by
  have:=List.all_eq_true.mp hs i hi;rw[Bool.and_eq_true]at this;exact⟨of_decide_eq_true this.1,of_decide_eq_true this.2⟩
 have i9:∀i (h:i<is.length),(λi=>is.getD i 0) i=is[i]:=λi h=>by
  show is.getD i 0=_;rw[X9,X2 h];rfl
 refine call_sum_walk (Yu hli ?_);refine⟨s.heap.objs.size,[s.heap.objs.size,p],[s.heap.objs.size],aa.toArray.size,_,_,λi=>is.getD i 0,rfl,PySem.Walks.list (A:=X.A.in1) (I.ok.hd hc) _ p (Xl cz) aa.toArray,
  ⟨⟨_,X8 _ rfl,rfl,rfl⟩,hli.push _⟩,λb dm=>?_,λi v hP=>?_,λj hj=>?_,λh' tk t' hk=>?_⟩
 ·rw[Yk];simp only[Xh,Xe,or_false]at dm;rcases dm with e|e
  ·rw[e];exact Nat.lt_succ_self _
  ·rw[e];exact Yw cz
 ·have hP:aa[i]?=some v:=by simpa using hP
  have hi:i<is.length:=by rw[ac];exact(List.getElem?_eq_some_iff.mp hP).1
  obtain⟨u,e1,e2⟩:=rv.get (i:=i) (x:=.int is[i]) (by rw[Xk,X2 hi];rfl);rw[hP]at e1;cases oq9 e1;obtain⟨t,rfl⟩:=e2;exact⟨t,by rw[i9 i hi]⟩
 ·have hj:j<is.length:=by rw[ac];simpa using hj
  have h1:=hb _ (Yb hj);have h2:=vkm (is:=is.take (j+1)) λi hi=>hb i (List.mem_of_mem_take hi)
  rw[i9 j hj,kwo i9 (j+1) hj];have h3:(is.take (j+1)).length<=100000:=by rw[Yg];omega
  exact⟨⟨by omega,by omega⟩,⟨by omega,by omega⟩⟩
 ·rw[X7,<-ac,kwo i9 is.length (Xd _),List.take_length];refine⟨.int _,H,I.kept (t':=tk) (h':=h') λb o e=>hk b o (λz=>?_) (X1 _ e),⟨_,rfl⟩,q⟩;exact absurd (Xa e) (by rw[List.mem_singleton.mp z];exact Y8 _)
theorem vju{X:Cx}(K:PySem.W.Frag)(hK:autoParam (X.K=K) Ŕ)(hc:autoParam (X.calm=true) Ŕ):CallR X (.builtin "sum") (vxw K):=by subst hK;exact qwp hc
theorem vwt{K:PySem.W.Frag}:Ad1 K (λv H Q=>vxw K [v] H Q) (pu1 WY):=by
 intro H x s Q ok hf k;unfold pu1 WY at hf;dsimp only at hf
 split at hf
 ·rename_i ds e;cases hb:zW ds with
  | none=>rw[hb]at hf;cases hf
  | some is=>
   rw[hb]at hf;dsimp only at hf
   by_cases hs:ZK is=true/\is.length<=100000
   ·rw[Xf hs]at hf;cases oq9 hf;obtain⟨l,xs,cs,ev,q3,r3,_⟩:=items ok (.inl e);have q3:LsR K H l xs:=by rcases q3 with⟨_,z⟩|⟨z,_⟩;exact z;rw[e]at z;cases z
    exact⟨l,is,by rw[ev],by rw[<-kqf hb r3];exact q3.sq,hs.1,hs.2,k ⟨.dp,.int _,.int _,[]⟩ H rfl rfl Z5⟩
   ·rw[Xm hs]at hf;cases hf
 ·cases hf
def vx7(io:Bool):R2:=λx y H Q=>∃a b,x=.bl a/\y=.bl b/\Q (.bl (io != (a==b))) H
theorem vvb{X:Cx}:OpR X (compareOp .Is) (vx7 false):=by
 intro pins s σ H x y v u Q I rx ry h;obtain⟨a,b,rfl,rfl,q⟩:=h;cases rx;cases ry;exact is_bool (kz9 I (by simpa using q) rfl)
theorem vv8{X:Cx}:OpR X (compareOp .IsNot) (vx7 true):=by
 intro pins s σ H x y v u Q I rx ry h;obtain⟨a,b,rfl,rfl,q⟩:=h;cases rx;cases ry;exact isnot_bool (kz9 I q (by cases a<;>cases b<;>rfl))
theorem kxw{K:PySem.W.Frag}{H:Hp}{x:Sl}{a:Bool}(ok:x.ok K H)(h:x.d=.bl a):x.v=.bl a:=by
 have:=RepO.wk ok;rw[h]at this;unfold RepL at this;exact this.1
theorem qxs{K:PySem.W.Frag}:Ad2 K (vx7 false) (pu2 Wv):=by
 intro H x y s Q ox oy hf k;unfold pu2 Wv at hf;cases hx:x.d with
 | bl a=>cases hy:y.d with
  |bl b=>
   rw[show(x.o,x.d).2=D.bl a from hx,show(y.o,y.d).2=D.bl b from hy]at hf;cases oq9 hf;exact⟨a,b,kxw ox hx,kxw oy hy,by rw[show(false != (a==b))=(a==b)by cases a<;>cases b<;>rfl];exact k ⟨.dp,.bl _,.bl _,[]⟩ H rfl rfl wZ⟩
  |_=>rw[show(x.o,x.d).2=D.bl a from hx,show(y.o,y.d).2=_ from hy]at hf;cases hf
 |_=>rw[show(x.o,x.d).2=_ from hx]at hf;cases hf
theorem vjz{K:PySem.W.Frag}:Ad2 K (vx7 true) (pu2 Vx):=by
 intro H x y s Q ox oy hf k;unfold pu2 Vx at hf;cases hx:x.d with
 | bl a=>cases hy:y.d with
  |bl b=>
   rw[show(x.o,x.d).2=D.bl a from hx,show(y.o,y.d).2=D.bl b from hy]at hf;cases oq9 hf;exact⟨a,b,kxw ox hx,kxw oy hy,by rw[show(true != (a==b))=(!(a==b))by cases a<;>cases b<;>rfl];exact k ⟨.dp,.bl _,.bl _,[]⟩ H rfl rfl wZ⟩
  |_=>rw[show(x.o,x.d).2=D.bl a from hx,show(y.o,y.d).2=_ from hy]at hf;cases hf
 |_=>rw[show(x.o,x.d).2=_ from hx]at hf;cases hf
theorem vjx:∀x y s,pu2 Vx x y=some s->∃k,s.2=.bl k:=by
 intro x y s h;unfold pu2 Vx at h
 split at h
 ·cases oq9 h;exact⟨_,rfl⟩
 ·cases h
end Q
namespace Q
open PySem PySem.Spec PyProof.Rows L2 L3
theorem qze{X:Cx}{Z:Fx0}{q:Bool}:QA X Z q [] []:=W2 ww fun σ H Q ak=>ex8 ak λE L r m w hc xc k=>by
 cases oq9 hc;exact k _ _ rfl [] L H rfl m w Step.refl λ_=>⟨λ_ _ z=>z,λ_ z=>(nomatch z)⟩
theorem vqf{X:Cx}{Z:Fx0}{q:Bool}{c:Ex}{o e:Expr}{z:Str}{av ag:Pos}(ho:PE X o (tC (.str z)))(hc:QV X Z q c e)(hK:autoParam (X.K=Z.K) Ŕ)
  (b6:autoParam (attributeBase o "join" X.env (eval o X.env)=eval o X.env) Ŕ)
  (ei:autoParam (((backTo ag (starEach [e] X.env)).all (λx=>!x.1)&&(backToKw ag (keywordEach [] X.env)).all (λx=>x.1.isSome)
   && decide ([e].length+([]:List Keyword).length+(if([]:List Keyword).isEmpty then 0 else 1)<30))=true) Ŕ)
  (b8:autoParam ((av.endLine==ag.line)=true) Ŕ) (hs:autoParam (starEach [e] X.env=(false,eval e X.env)::starEach [] X.env) Ŕ) (be:autoParam ((backTo ag (starEach [] X.env)).any (·.1)=false) Ŕ):
  QE X Z q (Z9 z c) (.Call (.Attribute o "join" av) [e] [] ag):=
 kY (qzu PySem.F.plainAttrs_str PySem.F.slot_str_join PySem.F.type_str_join vj5 ho (vZ hc ww hs) b6 ei b8 hs be) fun σ H Q ak=>ex8 ak λE L r m w bj xc k=>by
  refine⟨?_,?_⟩
  ·rfl
  ·refine vz m w (show bnd (c E) _=some r from bj) xc λE1 s h1 x L1 H1 e1 e2 m1 w1 ok fr sr st sm=>?_
   obtain⟨y,hz,rfl⟩:=wW h1;unfold XV at hz;cases hx:s.2 with
   | lst ds=>
    rw [hx]at hz;dsimp only at hz;cases hp:x5 ds with
    | none=>rw[hp]at hz;cases hz
    | some ys=>
     rw[hp]at hz;dsimp only at hz
     by_cases hl:(ys.map (·.length)).sum+ys.length*z.length<=100000
     ·rw[Xf hl]at hz;cases oq9 hz;obtain⟨a,xs,bs,ev,q1,ra⟩:=items ok (.inl (by rw[e2];exact hx));have hq:SqL Z.K H1 a xs:=by
       rcases q1 with⟨_,t⟩|⟨t,_⟩
       ·exact t.sq
       ·rw[e2,hx]at t;cases t
      have ex:=(jzi hp ra.1).1;subst ex;have ac:(Txt.join z ys).length<=sizeLine:=joinOk_length (joinOk_of (by omega));refine⟨z,a,ys,rfl,by rw[ev],by rw[hK];exact hq,by omega,?_⟩;exact k _ _ rfl ⟨.dp,.str (Txt.join z ys),.str (Txt.join z ys),[]⟩ L1 H1 rfl rfl m1 (w1.consPu (x:=⟨.dp,.str (Txt.join z ys),.str (Txt.join z ys),[]⟩) (show RepL Z.K H1 false (.str _) (.str _) []from Qk ac) rfl) (K8 (x:=⟨.dp,.str (Txt.join z ys),.str (Txt.join z ys),[]⟩) st (λb hb=>nomatch hb) rfl) λhq=>⟨sm hq,λ_ t=>(nomatch t)⟩
     ·rw[Xm hl]at hz;cases hz
   |_=>rw[hx]at hz;cases hz
end Q
namespace PySem
section
variable {prog:Program}{w:World}{A:Around}{E:Value->Shared->Prop}{s:Shared}
theorem kjg(hh:A.handled=none)(it t:Addr)(dw:t≠it)(items:Array Value):Draws prog w A it [it,t] items.size (λi v=>items[i]?=some v) (λi h=>h.IsTupleIter it t i/\h.IsTuple t items) where
 live:=λ_ _ st=>let ⟨o,ho,_⟩:=st.1;⟨o,ho⟩
 frame:=λ_ _ _ st hk=>by
  obtain⟨⟨o,ho,r⟩,o2,i5,r2⟩:=st;exact⟨⟨o,hk it (by simp) o ho,r⟩,o2,hk t (by simp) o2 i5,r2⟩
 item:=λi s Q E hi st hQ=>by
  obtain⟨f8,ht⟩:=st;obtain⟨o,ho,hc,hd⟩:=id f8;obtain⟨o2,i5,lh,n2,f9⟩:=id ht;have hx:items[i]?=some items[i]:=by simp[hi]
  unfold Builtin.SmallTypes.nextOf;refine X0 (Xz (name:=Str.ofString "__next__") f8.typeIs F.slot_tuple_iterator_next (Xv F.slot_tuple_iterator_next f8.typeIs F.entry_tuple_iterator_next ?_ (F.args_tuple_iterator_next_1 _)));show wpAny _ _ (field (.ref it) 0 >>= _) _ _ s;refine X0 (Xy ho hd (x:=.ref t) rfl ?_);show wpAny _ _ (if(Value.ref t==Value.none)=true then _ else _) _ _ s;rw[Xm (show ¬((Value.ref t==Value.none)=true)from Bool.false_ne_true)];show wpAny _ _ (field (.ref it) 1 >>= _) _ _ s;refine X0 (Xy ho hd (x:=.int i 0) rfl ?_);show wpAny _ _ (seqItems? (.ref t) >>= _) _ _ s;refine X0 (Yo i5 f9 ?_);simp only[Xw,hx];refine X0 (Ye ho hd (by simp) (X4 ⟨items[i],rfl,X4 (hQ _ _ s.toks hx ⟨⟨_,Xx _ ho (Yt (Ys hd _)),(Obj.cls_mapFields ..).trans hc,by rw[Ys hd];simp[rawInt]⟩,o2,(Heap.get?_update_other _ _ (Ne.symm dw)).trans i5,lh,n2,f9⟩ (Y4 ..))⟩))
 done:=λs Q E st hE=>by
  obtain⟨f8,ht⟩:=st;obtain⟨o,ho,hc,hd⟩:=id f8;obtain⟨o2,i5,lh,n2,f9⟩:=id ht;have hx:items[items.size]?=none:=by simp
  unfold Builtin.SmallTypes.nextOf;refine X0 (Xz (name:=Str.ofString "__next__") f8.typeIs F.slot_tuple_iterator_next (Xv F.slot_tuple_iterator_next f8.typeIs F.entry_tuple_iterator_next ?_ (F.args_tuple_iterator_next_1 _)));show wpAny _ _ (field (.ref it) 0 >>= _) _ _ s;refine X0 (Xy ho hd (x:=.ref t) rfl ?_);show wpAny _ _ (if(Value.ref t==Value.none)=true then _ else _) _ _ s;rw[Xm (show ¬((Value.ref t==Value.none)=true)from Bool.false_ne_true)];show wpAny _ _ (field (.ref it) 1 >>= _) _ _ s;refine X0 (Xy ho hd (x:=.int items.size 0) rfl ?_);show wpAny _ _ (seqItems? (.ref t) >>= _) _ _ s;refine X0 (Yo i5 f9 ?_);simp only[Xw,hx];refine X0 (Z2 (X0 (Ye ho hd (by simp) ?_)));show wpAny _ _ (newExc (.type "StopIteration") [] >>= _) _ _ _;refine X0 ?_;simp only[newExc,newTuple];refine X0 (Xq ?_ (by size_fits));refine X0 (m:=firstArgMember _ _) (wpAny_of_eq (a:=Value.none) (by first|rfl|(simp only[firstArgMember];rfl)) ?_);refine Xq ?_ (by size_fits);simp only[raiseNew];refine X0 (wpAny_handled ?_)
  first|rw[show A.in1.handled=none from hh]|rw[hh]
  refine X0 (X4 (wpAny_throw ?_));exact hE _ _ (((Y4 ..).extBut.push _).push _) ⟨_,X8 _ rfl,rfl⟩
end
end PySem
namespace Q
open PySem PySem.Spec PyProof.Rows L2 L3
section
variable {X:Cx}{Z:Fx0}{K:PySem.W.Frag}{pn:List Nat}{q:Bool}{c:Ex}{e:Expr}{σ:L2.St}{H:Hp}{L:Ls}{E:En}{pos p fh:Pos}{c8:List Expr}{k1:Nat}
theorem kqs{x:Sl}{es:List D}{l:Addr}{H1:Hp}(hx:x.d=.tup es)(ev:x.v=.ref l):∀H2:Hp,x.let.ok K H2->∃ys cs,SqT K H2 l ys/\RepA K H2 true es ys cs/\∀b∈cs,b∈x.as:=λH2 hok=>by
 obtain⟨a',ys,cs,mj,q4,r4,h4,_⟩:=items hok (.inr hx);have:a'=l:=by have:=mj.symm.trans ev;exact V.ref.inj this
 subst this;rcases q4 with⟨z,_⟩|⟨_,z⟩
 ·rw[show x.let.d=D.tup es from hx]at z;cases z
 ·exact⟨ys,cs,z,r4,h4⟩
end
end Q
namespace Q
open PySem PySem.Spec PyProof.Rows L2 L3
section
variable {X:Cx}{Z:Fx0}{pn:List Nat}{q:Bool}{a b:Ex}{o e:Expr}{av ag:Pos}
theorem vqg(ha:QV X Z q a o)(hb:QV X Z true b e)(hK:autoParam (X.K=Z.K) Ŕ)
  (b6:autoParam (attributeBase o "index" X.env (eval o X.env)=eval o X.env) Ŕ)
  (ei:autoParam (((backTo ag (starEach [e] X.env)).all (λx=>!x.1)&&(backToKw ag (keywordEach [] X.env)).all (λx=>x.1.isSome)
   && decide ([e].length+([]:List Keyword).length+(if([]:List Keyword).isEmpty then 0 else 1)<30))=true) Ŕ)
  (b8:autoParam ((av.endLine==ag.line)=true) Ŕ) (hs:autoParam (starEach [e] X.env=(false,eval e X.env)::starEach [] X.env) Ŕ) (be:autoParam ((backTo ag (starEach [] X.env)).any (·.1)=false) Ŕ):
  QE X Z q (qwv a b) (.Call (.Attribute o "index" av) [e] [] ag):=
 kY (qzu PySem.F.plainAttrs_str PySem.F.slot_str_index PySem.F.type_str_index vj6 ha (vZ hb ww hs) b6 ei b8 hs be) fun σ H Q ak=>ex8 ak λE L r m w bj xc k=>by
  refine vz m w (show bnd (a E) _=some r from bj) xc λE1 s h1 x L1 H1 e1 e2 m1 w1 ok fr sr st sm=>?_
  by_cases bq:kz5 s.2=true
  ·rw [Xf bq]at h1;cases hx:s.2 with
   | str z=>
    have ev:x.v=.str z:=(xj ok (by rw[e2];exact hx)).1;refine⟨by rw[ev];rfl,?_⟩;refine vz m1 w1 h1 (xc.step st) λE2 s2 h2 y L2 H2 e3 e4 m2 w2 jf nk oj bm dl=>?_
    obtain⟨d,hz,rfl⟩:=wW h2;rw[hx]at hz;unfold Zk at hz;cases hy:s2.2 with
    | str y'=>
     rw[hy]at hz;dsimp only at hz;cases ho:Builtin.Str.occurrences z y' 0 z.length 1 with
     |nil=>rw[ho]at hz;cases hz
     |cons i j9=>
      rw[ho]at hz;cases oq9 hz;have ey:y.v=.str y':=(xj jf (by rw[e4];exact hy)).1;refine⟨z,y',i,j9,ev,by rw[ey],ho,?_⟩;exact k _ _ rfl ⟨.dp,.int (i:Nat),.int (i:Nat),[]⟩ L2 H2 rfl rfl m2 (w2.consPu (x:=⟨.dp,.int (i:Nat),.int (i:Nat),[]⟩) (show RepL Z.K H2 false (.int _) (.int _) []from zV) rfl) (K8 (x:=⟨.dp,.int (i:Nat),.int (i:Nat),[]⟩) (st.trans bm) (λb hb=>nomatch hb) rfl) λhq=>⟨kw (sm hq) (dl rfl),λ_ t=>(nomatch t)⟩
    |_=>rw[hy]at hz;cases hz
   |_=>rw[hx]at bq;cases bq
  ·rw[Xm bq]at h1;cases h1
end
end Q
namespace Q
open PySem PySem.Spec PyProof.Rows L2 L3
theorem qzw{K:PySem.W.Frag}{H:Hp}{x:Sl}(ok:x.ok K H)(ht:VV x.sd=true)(nd:x.own.Nodup):∃cs,RepL K H false x.d x.v cs/\(∀a∈cs,a∈x.own)/\cs.Nodup:=by
 obtain⟨o,d,v,as⟩:=x;unfold VV at ht;rw [Bool.or_eq_true]at ht;rcases ht with ht|ht
 ·unfold qW at ht;rw[Bool.or_eq_true]at ht;rcases ht with ht|ht
  ·have ho:o=.dp:=by
    have ht:(o==Own.dp)=true:=ht;cases o with
    |dp=>rfl
    |no=>cases ht
    |rt=>cases ht
   subst ho;exact⟨as,ok,λa h=>h,nd⟩
  ·obtain⟨_,r⟩:=RepL.pu (g':=false) (RepO.wk ok) ht;exact⟨[],r,λ_ h=>(nomatch h),Y1⟩
 ·rw[Bool.and_eq_true]at ht;have ho:o=.rt:=by
   have ht:(o==Own.rt)=true:=ht.1;cases o with
   |rt=>rfl
   |no=>cases ht
   |dp=>cases ht
  subst ho;cases d with
  | lst ds=>
   have hp:D.pures ds=true:=ht.2;obtain⟨a,xs,bs,e,r,h,e2⟩:=(show RepR K H (.lst ds) v as from ok);obtain⟨_,r2⟩:=RepA.pu (g':=false) r hp;refine⟨[a],?_,λb hb=>?_,by simp⟩
   ·unfold RepL;exact⟨a,xs,[],e,r2,.inl ⟨h,rfl⟩⟩
   ·rw[List.mem_singleton.mp hb];show a∈as.take 1;rw[e2];exact X3
  |_=>cases ht.2
end Q
namespace Q
open PySem PySem.Spec PyProof.Rows L2 L3
noncomputable def PV(K:PySem.W.Frag)(H:Hp):List Nat->D->V->V->Prop
 |[],_,v,u=>u=v
 |n::p,.tup ds,v,u=>∃a xs x d,v=.ref a/\SqT K H a xs/\xs[n]?=some x/\(ds[n]?=some d/\xs.length=ds.length)/\PV K H p d x u
 |n::p,.lst ds,v,u=>∃a xs x d,v=.ref a/\H a=some (.lst xs)/\xs[n]?=some x/\(ds[n]?=some d/\xs.length=ds.length)/\PV K H p d x u
 |_::_,_,_,_=>False
section
variable {K:PySem.W.Frag}{H:Hp}
theorem PV.snoc:∀{p:List Nat} {n:Nat} {d:D} {v u:V},PV K H (p++[n]) d v u->∃d' w,PV K H p d v w/\PV K H [n] d' w u
 |[],n,d,v,u,h=>⟨d,v,rfl,h⟩
 |m::p,n,.tup ds,v,u,⟨a,xs,x,d,e,q,ex,ed,h⟩=>by
  obtain⟨d',w,h1,h2⟩:=PV.snoc (p:=p) h;exact⟨d',w,⟨a,xs,x,d,e,q,ex,ed,h1⟩,h2⟩
 |m::p,n,.lst ds,v,u,⟨a,xs,x,d,e,q,ex,ed,h⟩=>by
  obtain⟨d',w,h1,h2⟩:=PV.snoc (p:=p) h;exact⟨d',w,⟨a,xs,x,d,e,q,ex,ed,h1⟩,h2⟩
 |_::_,_,.non,_,_,h=>h.elim
 |_::_,_,.bl _,_,_,h=>h.elim
 |_::_,_,.int _,_,_,h=>h.elim
 |_::_,_,.str _,_,_,h=>h.elim
 |_::_,_,.dct _,_,_,h=>h.elim
 |_::_,_,.obj _ _,_,_,h=>h.elim
theorem PV.one{n:Nat}{d:D}{v u:V}(h:PV K H [n] d v u):∃a xs,v=.ref a/\(H a=some (.lst xs)\/SqT K H a xs)/\xs[n]?=some u:=by
 cases d with
 |tup ds=>
  obtain⟨a,xs,x,d,e,q,ex,ed,h⟩:=h;have h:u=x:=h;subst h;exact⟨a,xs,e,.inr q,ex⟩
 |lst ds=>
  obtain⟨a,xs,x,d,e,q,ex,ed,h⟩:=h;have h:u=x:=h;subst h;exact⟨a,xs,e,.inl q,ex⟩
 |_=>exact h.elim
structure Kx (H H':Hp)(as bs:List Addr):Prop where
 tup:∀a xs,H a=some (.tup xs)->H' a=some (.tup xs)
 frz:∀a o u,H a=some (.frz o u)->H' a=some (.frz o u)
 out:∀b∈as,b∉bs->∀ob,H b=some ob->H' b=some ob
theorem Kx.kp{H':Hp}{as bs cs:List Addr}(k:Kx H H' as bs)(h:∀b∈cs,b∈as/\b∉bs):Kp H H' cs:=⟨k.tup,k.frz,λa ha=>k.out a (h a ha).1 (h a ha).2⟩
theorem RepA.hole:∀{n:Nat} {ds:List D} {xs:List V} {as:List Addr} {dn:D},RepA K H false ds xs as->as.Nodup->ds[n]?=some dn->∃x bs,xs[n]?=some x/\RepL K H false dn x bs/\bs.Nodup/\(∀b∈bs,b∈as) /\
  ∀(H':Hp) (o6:D) (cf:List Addr),Kx H H' as bs->RepL K H' false o6 x cf->cf.Nodup->(∀b∈as,b∉bs->b∉cf)->∃cu,RepA K H' false (ds.set n o6) xs cu/\cu.Nodup/\∀b∈cu,(b∈as/\b∉bs)\/b∈cf
 | _,[],_,_,_,_,_,e=>by simp at e
 | 0,d::ds,xs,as,dn,h,nd,e=>by
  have e:d=dn:=by simpa using e
  subst e;unfold RepA at h;obtain⟨x,r,bs,es,rfl,rfl,h1,h2⟩:=h;rw[X5]at nd;refine⟨x,bs,rfl,h1,nd.1,λb hb=>ll9 _ hb,λH' o6 cf kx r' j' hd=>?_⟩;have he:∀b∈es,b∈bs++es/\b∉bs:=λb hb=>⟨lr9 _ hb,λz=>nd.2.2 b z b hb rfl⟩
  refine⟨cf++es,?_,?_,λb hb=>?_⟩
  ·rw[List.set_cons_zero];unfold RepA;exact⟨x,r,cf,es,rfl,rfl,r',h2.kp (kx.kp he)⟩
  ·rw[X5];refine⟨j',nd.2.1,λa ha b hb fb=>?_⟩;subst fb;exact hd a (he a hb).1 (he a hb).2 ha
  ·rcases List.mem_append.mp hb with z|z
   ·exact .inr z
   ·exact .inl (he b z)
 | n+1,d::ds,xs,as,dn,h,nd,e=>by
  unfold RepA at h;obtain⟨x,r,bs,es,rfl,rfl,h1,h2⟩:=h;rw[X5]at nd;obtain⟨y,fs,q1,q2,q3,q4,q5⟩:=RepA.hole (n:=n) h2 nd.2.1 (by simpa using e);have hb:∀b∈bs,b∈bs++es/\b∉fs:=λb hb=>⟨ll9 _ hb,λz=>nd.2.2 b hb b (q4 b z) rfl⟩
  refine⟨y,fs,by simpa using q1,q2,q3,λb hb=>lr9 _ (q4 b hb),λH' o6 cf kx r' j' hd=>?_⟩;obtain⟨cu,a1,a2,a3⟩:=q5 H' o6 cf ⟨kx.tup,kx.frz,λb hb=>kx.out b (lr9 _ hb)⟩ r' j' (λb hb=>hd b (lr9 _ hb));refine⟨bs++cu,?_,?_,λb lw=>?_⟩
  ·rw[List.set_cons_succ];unfold RepA;exact⟨x,r,bs,cu,rfl,rfl,h1.kp (kx.kp hb),a1⟩
  ·rw[X5];refine⟨nd.1,a2,λa ha b lw fb=>?_⟩;subst fb;rcases a3 a lw with z|z
   ·exact nd.2.2 a ha a z.1 rfl
   ·exact hd a (hb a ha).1 (hb a ha).2 z
  ·rcases List.mem_append.mp lw with z|z
   ·exact .inl (hb b z)
   ·exact(a3 b z).imp (λz=>⟨lr9 _ z.1,z.2⟩) id
theorem RepL.hole:∀{p:List Nat} {d d1:D} {v:V} {as:List Addr},RepL K H false d v as->as.Nodup->D.at p d=some d1->∃v1 fk,PV K H p d v v1/\RepL K H false d1 v1 fk/\fk.Nodup/\(∀b∈fk,b∈as) /\
  ∀ (H':Hp) (d':D) (cf:List Addr),Kx H H' as fk->RepL K H' false d' v1 cf->cf.Nodup->(∀b∈as,b∉fk->b∉cf)->∃cu,RepL K H' false (D.put d' p d) v cu/\cu.Nodup/\∀b∈cu,(b∈as/\b∉fk)\/b∈cf
 | [],d,d1,v,as,h,nd,e=>by
  cases oq9 (show some d=some d1 from e);exact⟨v,as,rfl,h,nd,λ_ h=>h,λH' d' cf kx r' j' hd=>⟨cf,r',j',λb hb=>.inr hb⟩⟩
 | n::p,.tup ds,d1,v,as,h,nd,e=>by
  unfold D.at at e;cases hn:ds[n]? with
  | none=>rw[hn]at e;cases e
  | some dn=>
   rw[hn]at e;unfold RepL at h;obtain⟨a,xs,e1,sq,ra⟩:=h;obtain⟨x,bs,q1,q2,q3,q4,q5⟩:=RepA.hole ra nd hn;obtain⟨v1,fk,p1,p2,p3,p4,p5⟩:=RepL.hole (p:=p) q2 q3 e;refine⟨v1,fk,⟨a,xs,x,dn,e1,sq,q1,⟨hn,ra.len.symm⟩,p1⟩,p2,p3,λb hb=>q4 b (p4 b hb),λH' d' cf kx r' j' hd=>?_⟩;obtain⟨cs,c1,c2,c3⟩:=p5 H' d' cf ⟨kx.tup,kx.frz,λb hb=>kx.out b (q4 b hb)⟩ r' j' (λb hb=>hd b (q4 b hb));obtain⟨cu,a1,a2,a3⟩:=q5 H' _ cs ⟨kx.tup,kx.frz,λb hb hn=>kx.out b hb λz=>hn (p4 b z)⟩ c1 c2 (λb hb hn z=>by
    rcases c3 b z with z|z
    ·exact hn z.1
    ·exact hd b hb (λz=>hn (p4 b z)) z)
   refine⟨cu,?_,a2,λb hb=>?_⟩
   ·unfold D.put;rw[hn];dsimp only;unfold RepL;exact⟨a,xs,e1,Kp.tupT (as:=[]) ⟨kx.tup,kx.frz,λ_ h=>nomatch h⟩ sq,a1⟩
   ·rcases a3 b hb with z|z
    ·exact .inl ⟨z.1,λy=>z.2 (p4 b y)⟩
    ·exact(c3 b z).imp (λz=>⟨q4 b z.1,z.2⟩) id
 | n::p,.lst ds,d1,v,as,h,nd,e=>by
  unfold D.at at e;cases hn:ds[n]? with
  | none=>rw[hn]at e;cases e
  | some dn=>
   rw[hn]at e;unfold RepL at h;obtain⟨a,xs,fs,e1,ra,sq⟩:=h;rcases sq with⟨sq,rfl⟩|⟨z,_⟩
   rotate_left
   ·cases z
   rw[List.nodup_cons]at nd;obtain⟨x,bs,q1,q2,q3,q4,q5⟩:=RepA.hole ra nd.2 hn;obtain⟨v1,fk,p1,p2,p3,p4,p5⟩:=RepL.hole (p:=p) q2 q3 e;have ha1:a∉fk:=λz=>nd.1 (q4 a (p4 a z))
   refine⟨v1,fk,⟨a,xs,x,dn,e1,sq,q1,⟨hn,ra.len.symm⟩,p1⟩,p2,p3,λb hb=>lc9 _ (q4 b (p4 b hb)),λH' d' cf kx r' j' hd=>?_⟩;obtain⟨cs,c1,c2,c3⟩:=p5 H' d' cf ⟨kx.tup,kx.frz,λb hb=>kx.out b (lc9 _ (q4 b hb))⟩ r' j' (λb hb=>hd b (lc9 _ (q4 b hb)));obtain⟨cu,a1,a2,a3⟩:=q5 H' _ cs ⟨kx.tup,kx.frz,λb hb hn=>kx.out b (lc9 _ hb) λz=>hn (p4 b z)⟩ c1 c2 (λb hb hn z=>by
    rcases c3 b z with z|z
    ·exact hn z.1
    ·exact hd b (lc9 _ hb) (λz=>hn (p4 b z)) z)
   have h3:∀b∈cu,(b∈fs/\b∉fk)\/b∈cf:=λb hb=>by
    rcases a3 b hb with z|z
    ·exact .inl ⟨z.1,λy=>z.2 (p4 b y)⟩
    ·exact(c3 b z).imp (λz=>⟨q4 b z.1,z.2⟩) id
   refine⟨a::cu,?_,List.nodup_cons.mpr ⟨λz=>?_,a2⟩,λb hb=>?_⟩
   ·unfold D.put;rw[hn];dsimp only;unfold RepL;exact⟨a,xs,cu,e1,a1,.inl ⟨kx.out a X3 ha1 _ sq,rfl⟩⟩
   ·rcases h3 a z with z|z
    ·exact nd.1 z.1
    ·exact hd a X3 ha1 z
   ·rcases List.mem_cons.mp hb with rfl|hb
    ·exact .inl ⟨X3,ha1⟩
    ·exact(h3 b hb).imp (λz=>⟨lc9 _ z.1,z.2⟩) id
 |_::_,.non,_,_,_,_,_,e=>by cases e
 |_::_,.bl _,_,_,_,_,_,e=>by cases e
 |_::_,.int _,_,_,_,_,_,e=>by cases e
 |_::_,.str _,_,_,_,_,_,e=>by cases e
 |_::_,.dct _,_,_,_,_,_,e=>by cases e
 |_::_,.obj _ _,_,_,_,_,_,e=>by cases e
theorem wY{y:Sl}(h:y.o=.dp):y.own=y.as:=by unfold Sl.own;rw[h]
theorem World.hole{L:Ls}{y:Sl}{p:List Nat}{d1:D}(w:World K H (some y::L))(ho:y.o=.dp)(h:D.at p y.d=some d1):∃y1:Sl,y1.o=.dp/\y1.d=d1/\PV K H p y.d y.v y1.v/\World K H (some y1::L) /\
  ∀ (He:Hp) (Le:Ls) (z:Sl),World K He (some z::Le)->Step H (some y1::L) He (some z::Le)->z.o=.dp->z.v=y1.v->∃y':Sl,y'.o=.dp/\y'.d=D.put z.d p y.d/\y'.v=y.v/\World K He (some y'::Le)/\Step H (some y::L) He (some y'::Le):=by
 have ok:RepL K H false y.d y.v y.as:=by
  have:=w.ok y X3;unfold Sl.ok at this;rw[ho]at this;exact this
 have nd:=w.nd;rw [jk,wY ho,X5]at nd;have ds:=w.ds;obtain⟨v1,fk,p1,p2,p3,p4,p5⟩:=RepL.hole ok nd.1 h;have al:∀b∈y.as,H b≠none:=λb hb z=>by
  rcases w.own_al (a:=b) (by rw[jk,wY ho];exact ll9 _ hb)with⟨_,q⟩|⟨_,q⟩|⟨_,q⟩<;>· rw[z]at q;cases q
 refine⟨⟨.dp,d1,v1,fk⟩,rfl,rfl,p1,⟨λx hx=>?_,?_,λa ha=>?_⟩,λHe Le z wz st zo zv=>?_⟩
 ·rcases List.mem_cons.mp hx with e|hx
  ·cases e;exact p2
  ·exact w.ok x (lc9 _ hx)
 ·rw[jk,X5];exact⟨p3,nd.2.1,λa ha b hb=>nd.2.2 a (p4 a ha) b hb⟩
 ·have ha2:a∈j6 (some y::L):=by
   rw[jk]at ha ⊢;rcases List.mem_append.mp ha with ha|ha
   ·exact ll9 _ (by rw[wY ho];exact p4 a ha)
   ·exact lr9 _ ha
  have:=ds a ha2;rw[k8]at this ⊢;intro q;rcases List.mem_append.mp q with q|q
  ·cases q
  ·exact this (lr9 _ q)
 ·have okz:RepL K He false z.d v1 z.as:=by
   have:=wz.ok z X3;unfold Sl.ok at this;rw[zo,zv]at this;exact this
  have ndz:=wz.nd;rw[jk,wY zo,X5]at ndz;have no1:∀b∈y.as,b∉fk->b∉j6 (some (⟨.dp,d1,v1,fk⟩:Sl)::L):=λb hb hn q=>by
   rw[jk]at q;rcases List.mem_append.mp q with q|q
   ·exact hn q
   ·exact nd.2.2 b hb b q rfl
  have noz:∀b∈y.as,b∉fk->b∉j6 (some z::Le):=λb hb hn q=>by
   rcases st.own b q with q|q
   ·exact no1 b hb hn q
   ·exact al b hb q
  have nof:∀b∈y.as,b∉fk->b∉jY Le:=λb hb hn q=>by
   rcases st.frz b (by rw[k8];exact lr9 _ q)with q|q|q
   ·rw[k8]at q;rcases List.mem_append.mp q with q|q
    ·cases q
    ·exact ds b (by rw[jk,wY ho];exact ll9 _ hb) (by rw[k8];exact lr9 _ q)
   ·exact no1 b hb hn q
   ·exact al b hb q
  have tupk:∀a xs,H a=some (.tup xs)->He a=some (.tup xs):=λa xs e=>st.keep a _ e λq=>by
   have q2:a∈j6 (some y::L):=by
    rw[jk]at q ⊢;exact List.mem_append.mpr ((List.mem_append.mp q).imp (λq=>by rw[wY ho];exact p4 a q) id)
   rcases w.own_al q2 with⟨_,q⟩|⟨_,q⟩|⟨_,q⟩<;>· rw[e]at q;cases q
  have frzk:∀a o u,H a=some (.frz o u)->He a=some (.frz o u):=λa o u e=>st.keep a _ e λq=>by
   have q2:a∈j6 (some y::L):=by
    rw[jk]at q ⊢;exact List.mem_append.mpr ((List.mem_append.mp q).imp (λq=>by rw[wY ho];exact p4 a q) id)
   rcases w.own_al q2 with⟨_,q⟩|⟨_,q⟩|⟨_,q⟩<;>· rw[e]at q;cases q
  obtain⟨cu,a1,a2,a3⟩:=p5 He z.d z.as ⟨tupk,frzk,λb hb hn ob e=>st.keep b ob e (no1 b hb hn)⟩ okz ndz.1 (λb hb hn q=>noz b hb hn (by rw[jk,wY zo];exact ll9 _ q));have sub:∀b∈j6 (some z::Le),b∈j6 (some y::L)\/H b=none:=λb hb=>(st.own b hb).imp (λq=>by
   rw[jk]at q ⊢;exact List.mem_append.mpr ((List.mem_append.mp q).imp (λq=>by rw[wY ho];exact p4 b q) id)) id
  refine⟨⟨.dp,D.put z.d p y.d,y.v,cu⟩,rfl,rfl,rfl,⟨λx hx=>?_,?_,λa ha q=>?_⟩,⟨λa ob e hn=>st.keep a ob e λq=>hn ?_,λa ha=>?_,λa ha=>?_⟩⟩
  ·rcases List.mem_cons.mp hx with e|hx
   ·cases e;exact a1
   ·exact wz.ok x (lc9 _ hx)
  ·rw[jk,X5];refine⟨a2,ndz.2.1,λa ha b hb fb=>?_⟩;subst fb;rcases a3 a ha with q|q
   ·exact noz a q.1 q.2 (by rw[jk];exact lr9 _ hb)
   ·exact ndz.2.2 a q a hb rfl
  ·have q:a∈jY Le:=by
    rw[k8]at q;rcases List.mem_append.mp q with q|q
    ·cases q
    ·exact q
   rw[jk]at ha;have fz:a∈jY (some z::Le):=by rw[k8];exact lr9 _ q
   rcases List.mem_append.mp ha with ha|ha
   ·rcases a3 a ha with r|r
    ·exact nof a r.1 r.2 q
    ·exact wz.ds a (by rw[jk,wY zo];exact ll9 _ r) fz
   ·exact wz.ds a (by rw[jk];exact lr9 _ ha) fz
  ·rw[jk]at q ⊢;exact List.mem_append.mpr ((List.mem_append.mp q).imp (λq=>by rw[wY ho];exact p4 a q) id)
  ·rw[jk]at ha;rcases List.mem_append.mp ha with ha|ha
   ·rcases a3 a ha with q|q
    ·exact .inl (by rw[jk,wY ho];exact ll9 _ q.1)
    ·exact sub a (by rw[jk,wY zo];exact ll9 _ q)
   ·exact sub a (by rw[jk];exact lr9 _ ha)
  ·have q:a∈jY Le:=by
    rw[k8]at ha;rcases List.mem_append.mp ha with q|q
    ·cases q
    ·exact q
   rcases st.frz a (by rw[k8];exact lr9 _ q)with r|r|r
   ·refine .inl ?_;rw[k8]at r ⊢;rcases List.mem_append.mp r with r|r
    ·cases r
    ·exact lr9 _ r
   ·refine .inr (.inl ?_);rw[jk]at r ⊢;exact List.mem_append.mpr ((List.mem_append.mp r).imp (λq=>by rw[wY ho];exact p4 a q) id)
   ·exact .inr (.inr r)
end
end Q
namespace Q
open PySem PySem.Spec PyProof.Rows L2 L3
abbrev tP(K:PySem.W.Frag)(i:Nat)(p:List Nat):TE:=fun σ H Q=>∃d v u,σ[i]?=some (some v)/\PV K H p d v u/\Q u H
theorem qv9{xs:List V}{n:Nat}{x:V}(h:xs[n]?=some x):atI xs (n:Int)=some x:=by
 have hn:n<xs.length:=(List.getElem?_eq_some_iff.mp h).1;have e:L2.ixN xs.length (n:Int)=some n:=by
  unfold L2.ixN;rw[Xf (Int.natCast_nonneg n)];simp[hn]
 unfold atI;rw[e];exact h
section
variable {X:Cx}{Z:Fx0}{pn:List Nat}{q:Bool}{c:Ex}{e ep:Expr}{i:Nat}{p:List Nat}{pos:Pos}
theorem kwn(K:PySem.W.Frag)(h:PE X e (Jj i)):PE X e (tP K i []):=kY h fun σ H Q ⟨d,v,u,hv,hu,q⟩=>by
 have hu:u=v:=hu;subst hu;exact⟨u,hv,q⟩
theorem kq0{K:PySem.W.Frag}{z:Int}{j:Nat}{ef:Pos}(n:Nat)(h:PE X e (tP K i p))(bo:XW (.Constant (.int z) j ef))(hK:autoParam (X.K=K) Ŕ)(hz:autoParam (z=(n:Int)) Ŕ):PE X (.Subscript e (.Constant (.int z) j ef) pos) (tP K i (p++[n])):=
 kY (qzq (hK▸qqc) h qxb bo) fun σ H Q ⟨d,v,u,hv,hu,q⟩=>by
  subst hz;obtain⟨d',w,h1,h2⟩:=hu.snoc;obtain⟨a,xs,e1,sq,ex⟩:=h2.one;refine⟨d,v,w,hv,h1,?_⟩;rcases sq with sq|sq
  ·exact .inl ⟨a,xs,n,u,e1,rfl,.inl (.inl sq),qv9 ex,q⟩
  ·exact .inr (.inl ⟨a,xs,n,u,e1,rfl,sq,qv9 ex,q⟩)
theorem kkm{K:PySem.W.Frag}{H:Hp}{L:Ls}{y:Sl}(w:World K H L)(h:L[i]?=some (some y)):World K H (some y::L.set i none)/\Step H L H (some y::L.set i none):=by
 have wn:World K H (none::L):=⟨λy hy=>w.ok y (by simpa using hy),by simpa using w.nd,by simpa using w.ds⟩;have sn:Step H L H (none::L):=⟨λ_ _ z _=>z,λa z=>.inl (by simpa using z),λa z=>.inl (by simpa using z)⟩;exact⟨wn.perm (Vw h),sn.trans (Step.refl.perm (List.Perm.refl _) (Vw h))⟩
theorem World.clr{K:PySem.W.Frag}{H:Hp}{M:Ls}{y:Sl}{ds:List D}(w:World K H (some y::M))(ho:y.o=.dp)(hd:y.d=.lst ds):∃l xs,y.v=.ref l/\H l=some (.lst xs) /\
  ∃z:Sl,z.o=.dp/\z.d=.lst []/\z.v=y.v/\World K (upd H l (.lst [])) (some z::M)/\Step H (some y::M) (upd H l (.lst [])) (some z::M):=by
 obtain⟨l,xs,bs,c1,c2,c3,c4,c5⟩:=YQ (w.ok y X3) hd ho;refine⟨l,xs,c1,c2,⟨.dp,.lst [],y.v,[l]⟩,rfl,rfl,rfl,World.write (T:=[]) (M:=M) w (by rw[c4];exact X3) ?_ (by simp[Sl.own]) (λa ha=>.inl ?_) (λa ha=>nomatch ha) (λa ha z=>nomatch z)⟩
 ·show RepL K _ false _ _ _;unfold RepL;exact⟨l,[],[],c1,by unfold RepA;exact⟨rfl,rfl⟩,.inl ⟨xX,rfl⟩⟩
 ·rw[c4];have ha:a∈[l]:=ha;rw[List.mem_singleton.mp ha];exact X3
theorem qwy{K:PySem.W.Frag}{H:Hp}{l:Addr}{xs:List V}(h:H l=some (.lst xs)):tyV K "list" (.ref l) H:=.inl ⟨rfl,xs,.inl (.inl h)⟩
theorem wjp(hP:PE X ep (tP Z.K i p))(hK:autoParam (X.K=Z.K) Ŕ)(hm:MtR X "list.clear" qke){av ag gc:Pos}
  (b6:autoParam (attributeBase ep "clear" X.env (eval ep X.env)=eval ep X.env) Ŕ) (b8:autoParam ((av.endLine==ag.line)=true) Ŕ)
  (md:autoParam (swapsWith (.Call (.Attribute ep "clear" av) [] [] ag) none gc.line X.env=pure false) Ŕ):
  QS X Z pn (sPC i p) (.Expr (.Call (.Attribute ep "clear" av) [] [] ag) gc):=
 Jv (Zj (qkr Z.K PySem.F.plainAttrs_list PySem.F.slot_list_clear PySem.F.type_list_clear hm hP b6 b8 hK) md) λDe σ H ak=>ex7 ak λE L r m w bj k=>by
 unfold sPC at bj
 split at bj
 rotate_left
 ·cases bj
 rename_i d hE
 split at bj
 rotate_left
 ·cases bj
 rename_i ds gz;cases oq9 bj;obtain⟨y,a1,a2,a3,a4⟩:=m.get hE;obtain⟨w0,s0⟩:=kkm w a1;obtain⟨y1,b1,b2,b3,b4,b5⟩:=w0.hole a2 (by rw[a3];exact gz);obtain⟨l,xs,c1,c2,z,z1,z2,z3,z4,z5⟩:=World.clr b4 b1 b2;refine⟨y.d,y.v,y1.v,a4,b3,by rw[c1];exact qwy c2,?_⟩;obtain⟨y',g1,g2,g3,g4,g5⟩:=b5 _ _ z z4 z5 z1 z3;refine⟨l,xs,c1,rfl,c2,?_⟩;have mm:=V4 (i:=i) (x:=y') (s:=(.dp,Q.D.put (.lst []) p d)) (Qq i m) g1 (by rw[g2,z2,a3]);rw[g3,Jq a4,List.set_set]at mm;exact k σ _ _ Pn.refl mm g4.set (s0.trans (g5.trans Step.set))
theorem vzg{u:Option V}:∀{E:En} {σ:L2.St} {L:Ls} (j:Nat),Mt E σ L->Mt (E.set j none) (σ.set j u) (L.set j none):=by
 intro E σ L j m
 induction m generalizing j with
 |nil=>exact .nil
 |un m ih=>cases j with
  |zero=>exact .un m
  |succ j=>exact .un (ih j)
 |cons m ih=>cases j with
  |zero=>exact .un m
  |succ j=>exact .cons (ih j)
theorem World.out1{K:PySem.W.Frag}{H:Hp}{L:Ls}(r:Nat)(w:World K H L):World K H (L.set r none)/\Step H L H (L.set r none):=by
 cases h:L[r]? with
 | none=>
  rw[show L.set r none=L from List.set_eq_of_length_le (by simpa using h)];exact⟨w,Step.refl⟩
 | some q=>
  cases q with
  |none=>
   rw[Jq h];exact⟨w,Step.refl⟩
  |some y=>
   obtain⟨w1,s1⟩:=kkm w h;exact⟨w1.tail,s1.trans Step.drop⟩
theorem WQ(hc:QE X Z q c e):QE X Z q (K1 c) e:=kY hc fun σ H Q ak=>ex8 ak λE L r m w hr xc k=>by
 unfold K1 at hr;rcases vk hr with⟨E1,s,h1,h2⟩|⟨E1,cc,h1,h2⟩
 ·refine⟨E,L,_,m,w,h1,(λ_ _ z=>by cases z),λE' s' z x L' H' e1 e2 m' w' st sm=>?_⟩;injection z with z1 z2;subst z1 z2
  split at h2
  rotate_left
  ·cases h2
  rename_i hown;cases oq9 h2;have xn:x.own.Nodup:=by
   have:=w'.nd;rw[jk]at this;exact(List.nodup_append.mp this).1
  obtain⟨cs,rx,ic,hcn⟩:=qzw w'.head (by unfold Sl.sd;rw[e1,e2];exact hown) xn;have nd:=w'.nd;rw[jk,X5]at nd;refine k _ _ rfl ⟨.dp,x.d,x.v,cs⟩ L' H' rfl e2 m' ⟨λy hy=>?_,?_,λa ha=>?_⟩ ⟨st.keep,λa ha=>?_,λa ha=>?_⟩ λhq=>⟨(sm hq).1,λb hb=>(sm hq).2 b (ic b hb)⟩
  ·rcases List.mem_cons.mp hy with z|z
   ·cases z;exact rx
   ·exact w'.ok y (lc9 _ z)
  ·rw[jk,X5];exact⟨hcn,nd.2.1,λa ha b hb=>nd.2.2 a (ic a ha) b hb⟩
  ·have ha2:a∈j6 (some x::L'):=by
    rw[jk]at ha ⊢;exact List.mem_append.mpr ((List.mem_append.mp ha).imp (ic a) id)
   intro q2;rw[k8]at q2;refine w'.ds a ha2 ?_;rw[k8];exact lr9 _ ((List.mem_append.mp q2).elim (λz=>nomatch z) id)
  ·refine st.own a ?_;rw[jk]at ha ⊢;exact List.mem_append.mpr ((List.mem_append.mp ha).imp (ic a) id)
  ·refine st.frz a ?_;rw[k8]at ha ⊢;exact lr9 _ ((List.mem_append.mp ha).elim (λz=>nomatch z) id)
 ·exact⟨E,L,_,m,w,h1,xc.map h2,λE' s' z=>by cases z⟩
end
end Q
namespace Q
open PySem PySem.Spec PyProof.Rows L2 L3
noncomputable def spM(K:PySem.W.Frag)(mg:Str->Option Value)(n:Nat)(f:Fn):Sp:=λvs H Q E=>∃(xs:List Sl) (y:Sl) (r:Res Sd),vs=xs.map Sl.v++[y.v]/\xs.length=n/\World K H ((xs++[y]).map some)/\f ((xs++[y]).map Sl.sd)=some r /\
 (∀E' c,r=.exc E' c->∀C H',mg c=some (.ref C)->Step H ((xs++[y]).map some) H' []->E (.ref C) none H') /\
 ∀E' a,r=.ok E' a->∃sd,E'[n]?=some (some sd)/\∀(x y':Sl) H',x.o=a.1->x.d=a.2->y'.o=sd.1->y'.d=sd.2->y'.v=y.v->World K H' [some x,some y']->Step H ((xs++[y]).map some) H' [some x,some y']->Q x.v H'
theorem qz4{K:PySem.W.Frag}{mg:Str->Option Value}{n:Nat}{f:Fn}{ps:List Str}(hn:ps.length=n+1):∀vs H Q E,spM K mg n f vs H Q E->vs.length=ps.length:=λvs H Q E ⟨xs,y,r,e,hl,_⟩=>by rw[e,Y3,X6,hl,hn];rfl
theorem kkn{L:Ls}{x y:Sl}{i:Nat}(h:L[i]?=some (some y)):(sls [some x,some y]).Sublist (sls (some x::L)):=by
 have:y∈sls L:=mem_sls.mpr (wQ h);show(x::[y]).Sublist (x::sls L);exact(List.singleton_sublist.mpr this).cons₂ x
theorem vjl{X:Cx}{K:PySem.W.Frag}{mg:Str->Option Value}{N:List Str}{n nn:Nat}{B:Sm}{body:List Stmt}{H:Hp}{vs:List V}{Q:VK}{E:XK}(hN:N.length=nn)(t:QSs X ⟨K,mg,E⟩ [n] B body)(h:spM K mg n (fn nn B) vs H Q E):
  ∃t,PSs X body t/\t { nx:=λ_ H'=>Q .non H',rt:=Q } (L2.start N vs) H:=by
 refine⟨_,t,?_⟩;obtain⟨xs,y,r,rfl,hl,w,hf,hx,hk⟩:=h;unfold fn at hf;rw[X6,Y2]at hf;have m:=jzm (xs++[y]) (nn - (xs++[y]).length);have e1:L2.start N (xs.map Sl.v++[y.v])=(xs++[y]).map (λx=>some x.v)++List.replicate (nn - (xs++[y]).length) none:=by
  unfold L2.start;rw[show xs.map Sl.v++[y.v]=(xs++[y]).map Sl.v by simp,Y2,X6,hN];rfl
 have hy0:(L2.start N (xs.map Sl.v++[y.v]))[n]?=some (some y.v):=by
  rw[e1,List.getElem?_append_left (by simp[hl])];simp[hl]
 have wL:World K H ((xs++[y]).map some++List.replicate (nn - (xs++[y]).length) none):=w.same (by simp);have sL:Step H ((xs++[y]).map some) H ((xs++[y]).map some++List.replicate (nn - (xs++[y]).length) none):=Step.refl.same (List.Perm.refl _) (by simp);have fin:∀{E1:En} {σ':L2.St} {L':Ls} {sd:Sd},E1[n]?=some (some sd)->Pn [n] (L2.start N (xs.map Sl.v++[y.v])) σ'->Mt E1 σ' L'->∃y':Sl,L'[n]?=some (some y')/\y'.o=sd.1/\y'.d=sd.2/\y'.v=y.v:=λhE p m'=>by
  obtain⟨y',a1,a2,a3,a4⟩:=m'.get hE;refine⟨y',a1,a2,a3,?_⟩;have:=p n (List.mem_singleton.mpr rfl);rw[a4,hy0]at this;exact oq9 (oq9 this)
 cases hB:B ((xs++[y]).map (λx=>some x.sd)++List.replicate (nn - (xs++[y]).length) none)with
 | none=>rw[show(some∘Sl.sd)=(λx:Sl=>some x.sd)from rfl,hB]at hf;cases hf
 | some g=>
  rw[show(some∘Sl.sd)=(λx:Sl=>some x.sd)from rfl,hB]at hf;refine⟨_,_,g,e1▸m,wL,hB,?_⟩;cases g with
  |nx E1=>
   cases oq9 hf;intro σ' L' H' p m' w' s';obtain⟨sd,hE,hk⟩:=hk _ _ rfl;obtain⟨y',b1,b2,b3,b4⟩:=fin hE p m';have wx:World K H' (some (⟨.dp,.non,.non,[]⟩:Sl)::L'):=w'.consPu (show RepL K H' false .non .non []from kwk) rfl;have sx:Step H ((xs++[y]).map some) H' (some (⟨.dp,.non,.non,[]⟩:Sl)::L'):=K8 (x:=⟨.dp,.non,.non,[]⟩) (sL.trans s') (λb hb=>(nomatch hb)) rfl;exact hk ⟨.dp,.non,.non,[]⟩ y' H' rfl rfl b2 b3 b4 (wx.sub (kkn b1)) (sx.sub (kkn b1))
  |rt E1 a=>
   cases oq9 hf;intro x σ' L' H' e2 e3 p m' w' s';obtain⟨sd,hE,hk⟩:=hk _ _ rfl;obtain⟨y',b1,b2,b3,b4⟩:=fin hE p m';exact hk x y' H' e2 e3 b2 b3 b4 (w'.sub (kkn b1)) ((sL.trans s').sub (kkn b1))
  |xc E1 c=>
   cases oq9 hf;intro C σ' L' H' hm _ m' w' s';exact hx _ _ rfl C H' hm ((sL.trans s').sub (by simp))
  |ct E1=>cases hf
  |bk E1=>cases hf
noncomputable def tAM(Z:Fx0)(q:Bool)(cs:List Ex)(i:Nat):TA:=fun σ H Q=>∃E L r,Mt E σ L/\World Z.K H L/\kJ cs E=some r/\Xc Z σ H L r /\
 ∀E' ys,r=.ok E' ys->∀(xs:List Sl) L' H',xs.map Sl.sd=ys->Mt E' σ L'->World Z.K H' (xs.map some++L')->Step H L H' (xs.map some++L')->(q=true->k4 H H'/\∀b∈j6 (xs.map some),H b=none)->∃v,σ[i]?=some (some v)/\Q (xs.map Sl.v++[v]) H'
section
variable {X:Cx}{Z:Fx0}{q:Bool}{c:Ex}{cs:List Ex}{e:Expr}{es:List Expr}{pos p:Pos}{x:Str}{ps:List Str}{k n i:Nat}{f:Fn}
theorem wjq(h:PE X e (Jj i))(bq:autoParam (starEach [e] X.env=(false,eval e X.env)::starEach [] X.env) Ŕ):PA X [e] (tAM Z q [] i):=W2 (vZ h ww bq) fun σ H Q ak=>ex8 ak λE L r m w hc xc k=>by
 cases oq9 hc;obtain⟨v,hv,q⟩:=k _ _ rfl [] L H rfl m w Step.refl λ_=>⟨λ_ _ z=>z,λ_ z=>(nomatch z)⟩
 exact⟨v,hv,q⟩
theorem qvl{L:Ls}{y:Sl}(h:L[i]?=some (some y)):(sls L).Perm (y::sls (L.set i none)):=by
 have:=(Vw h).filterMap id;exact this
theorem qkj(D:kq X.prog X.w X.K X.mg X.base k x ps (spM Z.K Z.mg n f))(hr:Room k X.A)(g:xq X Z.EX)(ha:PA X (e::es) (tAM Z q cs i))(hn:autoParam (cs.length=n) Ŕ)(hg:autoParam (Gl X x) Ŕ)(eh:autoParam ((x==("__debug__":Str))=false) ŕ)
  (he:autoParam (starEach (e::es) X.env=(false,eval e X.env)::starEach es X.env) Ŕ) (bo:autoParam ((backTo pos (starEach es X.env)).any (·.1)=false) Ŕ):
  QE X Z false (WZ f i cs) (.Call (.Name x p) (e::es) [] pos):=kY (kxr D hr g ha hg eh he bo) fun σ H Q ak=>ex8 ak λE L r m w hc xc kk=>by
 rcases vk (show bnd (kJ cs E) _=some r from hc)with⟨E1,ys,h1,h2⟩|⟨E1,cc,h1,h2⟩
 rotate_left
 ·exact⟨E,L,_,m,w,h1,xc.map h2,λE' s' z=>by cases z⟩
 refine⟨E,L,_,m,w,h1,(λ_ _ z=>by cases z),λE' ys' z xs L1 H1 e1 m1 w1 st sm=>?_⟩;injection z with z1 z2;subst z1 z2;have ac:xs.length=n:=by rw[<-hn,<-VJ h1,<-e1,X6]
 have m8:ys.length=n:=by rw[<-hn];exact VJ h1
 split at h2
 rotate_left
 ·cases h2
 rename_i x0 hE;obtain⟨o0,d0⟩:=x0;obtain⟨y,a1,a2,a3,a4⟩:=m1.get hE;refine⟨y.v,a4,?_⟩;dsimp only;rw [Y9];obtain⟨wl,sl⟩:=kk3 w1;have pm:(sls ((xs.map Sl.let).map some++L1)).Perm (sls ((xs.map Sl.let++[y]).map some++L1.set i none)):=by
  have e2:∀A B:Ls,sls (A++B)=sls A++sls B:=λA B=>List.filterMap_append ..
  rw[Ya,Xs,e2,e2];exact List.Perm.append_left _ (qvl a1)
 have wl2:=wl.same pm;have js:Step H L H1 ((xs.map Sl.let++[y]).map some++L1.set i none):=(st.trans sl).trans (Step.refl.same (List.Perm.refl _) pm);cases hf:f (letAll ys++[(o0,d0)])with
 | none=>rw[hf]at h2;cases h2
 | some fr=>
  rw[hf]at h2;refine⟨xs.map Sl.let,y,fr,by rw[Y2];rfl,by rw[X6];exact ac,wl2.left,?_,λE' c ee C H' hm s'=>?_,λE' a ee=>?_⟩
  ·rw[Ya,kqc,e1];show f (letAll ys++[(y.o,y.d)])=some fr;rw[a2,a3];exact hf
  ·subst ee;cases oq9 h2;obtain⟨w2,s2⟩:=stay wl2 s' ⟨λ_ z=>(nomatch z),Y1,λ_ z=>(nomatch z)⟩;exact xc _ _ rfl C _ H' hm (Qq i m1) w2 (js.trans s2)
  ·subst ee;dsimp only at h2
   split at h2
   rotate_left
   ·cases h2
   rename_i x' hE';cases oq9 h2;rw[m8]at hE';refine⟨x',hE',λx y' H' e2 e3 e4 e5 e6 w' s'=>?_⟩;obtain⟨w2,s2⟩:=stay wl2 s' w';have pd:([some x,some y']++L1.set i none).Perm (some y'::(some x::L1.set i none)):=List.Perm.swap ..;have w3:=(w2.perm pd).set (i:=i+1);rw[List.set_cons_succ,List.set_set]at w3;have s3:Step H L H' (some x::L1.set i (some y')):=by
    have:=(js.trans (s2.perm (List.Perm.refl _) pd)).trans (Step.set (i:=i+1));rw[List.set_cons_succ,List.set_set]at this;exact this
   have mm:=V4 (i:=i) (x:=y') (s:=x') m1 e4 e5;rw[e6,Jq a4]at mm;exact kk _ _ rfl x _ H' e2 e3 mm w3 s3 λz=>nomatch z
end
end Q
namespace Q
open PySem PySem.Spec PyProof.Rows L2 L3
theorem qqb{P:Program}{w:PySem.World}{K:PySem.W.Frag}{mg mb:Str->Option Value}{CX:CXT}{k:Nat}{fa a:Addr}{fd:FuncData}{x:Str}{sp:Sp}{s₁:Shared}{vs:List Value}{ns:List Int}
  (KX:K.In s₁.heap) (hns:s₁.heap.Ns mainGlobals mg) (hb:s₁.heap.Ns builtinsNs mb) (hbb:∀x:Str,x≠"__name__"->mb x=bootBuiltins x) (hlim:s₁.heap.NoLimit) (hg:s₁.gens=#[])
  (ha:s₁.heap.get? a=some { cls:=.type "list",data:=.seq vs.toArray }) (hi:IntsAre vs ns) (hl:ns.length<=sizeLine) (hr:Room k callerA)
  (F:∀base:Heap,K.In base->base.Ns mainGlobals mg->FnOk P w K mg base CX k fa fd [x] sp) (oq:∀(s:Shared) (u:Value),BindsTo s fd ⟨[u],[]⟩ [(x,u)])
  (ku:∀H:Hp,wj6 H->LsR K H a (ns.map V.int)->sp [.ref a] H (λv _=>v=.bl true) λ_ _ _=>False)
  (hCX:∀H e s',CX [] H s₁ (λ_ _ _=>False) e s'->False):
  codeAny (model P w) callerA (.call (.ref fa) ⟨[.ref a],[]⟩) (λr s'=>r=.ok (.ret (.bool true))/\OldK s₁.heap s'.heap/\s'.os=s₁.os/\AllBare s'.gens) s₁:=by
 have rv:=kqq hi;have lenV:=hi.length;have ng:∀H:Hp,wj6 H->LsR K H a (ns.map V.int)->HOk P w H s₁.heap->(∀b,H b≠none->b=a)->(H a≠none->K.lookup a=none) ->
   codeAny (model P w) callerA (.call (.ref fa) ⟨[.ref a],[]⟩) (λr s'=>r=.ok (.ret (.bool true))/\OldK s₁.heap s'.heap/\s'.os=s₁.os/\AllBare s'.gens) s₁:=by
  intro H hO hS hok hA hK;have gw:∀{b:Addr} {o:Obj},s₁.heap.get? b=some o->H b=none->(K5 s₁.heap H).get? b=some o:=λe n=>qwb e n
  have qc:∀{b:Addr} {o:Obj} {es:Array DictEntry} {ep:Nat},s₁.heap.get? b=some o->o.data=.dict es ep->H b=none:=fun {b o es ep} e d=>by
   cases q:H b with
   | none=>rfl
   | some u=>
    have e':b=a:=hA b (by rw[q];simp);subst e';rw[ha]at e;cases e;have d':Data.seq vs.toArray _=Data.dict es ep:=d;cases d'
  have nsK:∀{b:Addr} {m:Str->Option Value},s₁.heap.Ns b m->(K5 s₁.heap H).Ns b m:=fun {b m} ⟨o,es,ep,e,d,r⟩=>⟨o,es,ep,gw e (qc e d),d,r⟩
  have hKb:K.In (K5 s₁.heap H):=λb o e=>gw (KX b o e) (by
   cases q:H b with
   | none=>rfl
   | some u=>
    have e':b=a:=hA b (by rw[q];simp);subst e';rw[hK (by rw[q];simp)]at e;cases e)
  have hM:Mod K mg (K5 s₁.heap H):=⟨hKb,nsK hns,⟨mb,nsK hb,hbb⟩,let ⟨mc,h1,h2⟩:=hlim;⟨mc,nsK h1,h2⟩⟩;have e0:Env0 P w K mg (K5 s₁.heap H) callerA [] s₁ H:=⟨rfl,hM,λb o e=>vj3 e,Nat.le_of_eq (qqk _ _),trivial,λb hb=>absurd (show b∈([]:List Addr)from hb) (by simp),hok,.of_eq hg⟩;refine codeAny_mono ((F _ hKb (nsK hns)).run callerA [] s₁ H ⟨[.ref a],[]⟩ [.ref a] [.ref a] _ _ hr e0 (oq s₁ (.ref a)) (.cons rfl .nil) (ku H hO hS)) λr s' h=>?_
  cases r with
  | error e=>exact(hCX H e s' h).elim
  | ok fl=>
   cases fl with
   | next=>exact False.elim h
   | brk=>exact False.elim h
   | cont=>exact False.elim h
   | ret u=>
    obtain⟨v,H',os,bare,un,hok',r',q⟩:=h;have q':v=.bl true:=q;subst q';obtain rfl:u=Value.bool true:=r';refine⟨rfl,OldK.of_keep λb o e=>?_,os,bare⟩;cases q:H b with
    | none=>exact un.keep b o e q (by intro z;exact absurd (show b∈([]:List Addr)from z) (by simp)) (by simp)
    | some u=>
     rcases hO b with z|⟨ob,xs,z⟩
     ·rw[q]at z;cases z
     ·have z2:=un.frzs b ob _ z;obtain⟨e1,_⟩:=hok b _ z;obtain⟨e2,_⟩:=hok' b _ z2;rw[e]at e1;cases e1;exact e2
 cases hk:K.lookup a with
 | some o=>
  have e:=KX a o hk;rw[ha]at e;cases e;refine ng (λ_=>none) (λ_=>.inl rfl) (.inr ⟨vs.toArray,_,hk,by rw[X7,lenV];exact hl,by simpa using rv⟩) (λb u z=>by have z':(none:Option HO)=some u:=z;cases z') (λb z=>absurd rfl z) λz=>absurd rfl z
 | none=>
  refine ng (λb=>if b=a then some (.frz { cls:=.type "list",data:=.seq vs.toArray } (.lst (ns.map V.int)))else none) (λb=>?_) (.inl (.inr ⟨{ cls:=.type "list",data:=.seq vs.toArray },Xf rfl⟩)) (λb u z=>?_) (λb z=>?_) λ_=>hk
  ·by_cases hb:b=a
   ·exact .inr ⟨_,_,Xf hb⟩
   ·exact .inl (Xm hb)
  ·by_cases hb:b=a
   ·have z':=(Xf hb).symm.trans z;cases z';subst hb;exact⟨ha,by rw[X6];exact hl,vs,_,rv,ha⟩
   ·have z':=(Xm hb).symm.trans z;cases z'
  ·by_cases hb:b=a
   ·exact hb
   ·exact absurd (Xm hb) z
@[elab_as_elim] theorem wjy {P:List Value->Prop}(us:List Value)(e:us.length=1)(h:∀a,P [a]):P us:=by
 cases us with
 |nil=>cases e
 |cons a us=>cases List.eq_nil_of_length_eq_zero (Nat.succ.inj e);exact h a
@[elab_as_elim] theorem wjx {P:List Value->Prop}(us:List Value)(e:us.length=2)(h:∀a b,P [a,b]):P us:=by
 cases us with
 |nil=>cases e
 |cons a us=>exact wjy (P:=λl=>P (a::l)) us (Nat.succ.inj e) λb=>h a b
@[elab_as_elim] theorem wjw {P:List Value->Prop}(us:List Value)(e:us.length=3)(h:∀a b c,P [a,b,c]):P us:=by
 cases us with
 |nil=>cases e
 |cons a us=>exact wjx (P:=λl=>P (a::l)) us (Nat.succ.inj e) λb c=>h a b c
@[elab_as_elim] theorem wjv {P:List Value->Prop}(us:List Value)(e:us.length=4)(h:∀a b c d,P [a,b,c,d]):P us:=by
 cases us with
 |nil=>cases e
 |cons a us=>exact wjw (P:=λl=>P (a::l)) us (Nat.succ.inj e) λb c d=>h a b c d
@[elab_as_elim] theorem wju {P:List Value->Prop}(us:List Value)(e:us.length=5)(h:∀a b c d f,P [a,b,c,d,f]):P us:=by
 cases us with
 |nil=>cases e
 |cons a us=>exact wjv (P:=λl=>P (a::l)) us (Nat.succ.inj e) λb c d f=>h a b c d f
@[elab_as_elim] theorem len6 {P:List Value->Prop}(us:List Value)(e:us.length=6)(h:∀a b c d f g,P [a,b,c,d,f,g]):P us:=by
 cases us with
 |nil=>cases e
 |cons a us=>exact wju (P:=λl=>P (a::l)) us (Nat.succ.inj e) λb c d f g=>h a b c d f g
theorem jxh{K:PySem.W.Frag}{H:Hp}{g:Bool}:∀(ns:List Int),RepA K H g (ns.map D.int) (ns.map V.int) []
 |[]=>by unfold RepA;exact⟨rfl,rfl⟩
 |n::ns=>by
  rw[List.map_cons,List.map_cons];unfold RepA;exact⟨_,_,[],[],rfl,rfl,zV,jxh ns⟩
theorem vvp{K:PySem.W.Frag}{mg:Str->Option Value}{f:Fn}{H:Hp}{a:Addr}{ns:List Int}(h:∃E o,f [(.no,.lst (ns.map D.int))]=some (.ok E (o,.bl true)))(hs:LsR K H a (ns.map V.int))(hO:wj6 H):
  spF K mg 1 f [.ref a] H (λv _=>v=.bl true) λ_ _ _=>False:=by
 obtain⟨E,o,h⟩:=h;have nh:∃as,RepL K H true (.lst (ns.map D.int)) (.ref a) as/\(∀b∈as,False):=by
  rcases hs with(hs|⟨ob,hs⟩)|hs
  ·rcases hO a with z|⟨_,_,z⟩<;>(rw[hs]at z;cases z)
  ·refine⟨[],?_,λb hb=>nomatch hb⟩;unfold RepL;exact⟨a,ns.map V.int,[],rfl,jxh ns,.inr ⟨rfl,.inl ⟨ob,hs⟩,rfl⟩⟩
  ·refine⟨[],?_,λb hb=>nomatch hb⟩;unfold RepL;exact⟨a,ns.map V.int,[],rfl,jxh ns,.inr ⟨rfl,.inr hs,rfl⟩⟩
 obtain⟨as,r,hn⟩:=nh;refine⟨[⟨.no,.lst (ns.map D.int),.ref a,as⟩],_,rfl,rfl,?_,h,(λE' c z=>by cases z),λE' s z x H' e1 e2 w' st=>?_⟩
 ·exact⟨λx hx=>by rw[oq9 (List.mem_singleton.mp hx)];exact r,by simp[Sl.own],λb hb=>by simp[Sl.own]at hb⟩
 ·injection z with z1 z2;subst z2;exact Q8 w'.head e2
section
open PySem.W PySem.Calls
theorem walkQ{l:OpenLaw}{n k:Nat}{q:Program}{qx:List Str}{XP:(Str->Option Value)->Heap->Prop}{YP:PySem.World->Heap->Prop}{d:DefRec}{K:Params->Frag}{f:Fn}{x:Str}
  (hn:l.most=some n) (hn2:n<=sizeLine) (hdf:d.params.defaults=[]) (hr:Room k callerA)
  (hY:∀(w:PySem.World) (h:Heap),YP w h->(K w.params).In h)
  (F:∀(w:PySem.World) (mg:Str->Option Value) (fa:Addr) (h:Heap),(K w.params).In h->h.Ns mainGlobals mg->mg d.name=some (.ref fa) ->
   ∃fd:FuncData,(∀(s:Shared) (u:Value),BindsTo s fd ⟨[u],[]⟩ [(x,u)])/\∀base:Heap,(K w.params).In base->base.Ns mainGlobals mg->FnOk l.prog w (K w.params) mg base (CXE l.prog w) k fa fd [x] (spF (K w.params) mg 1 f))
  (ku:∀(ns:List Int),ns.length<=n->(∀i∈ns,Builtin.Int.intBits i<=1048576)->∃E o,f [(.no,.lst (ns.map D.int))]=some (.ok E (o,.bl true))):
  WalkO q qx XP YP l.row.toRowW d [] (λf vs=>PySem.call f vs):=by
 intro w s0 s1 mg mb G Y fa o pm cd fm dV kV ho hd gf hD hmg hg args bz as kf hlay hrd hwl hlo;obtain rfl:dV=.none:=Dflts.none hD hdf;obtain rfl:kV=.none:=Dflts.noKw hD;obtain⟨a,vs,ns,rfl,rfl,hobj,p9,ac⟩:=Att.script_of hn kf hwl;have pi:=kx4 hlay;have KX:=hY w _ Y;obtain⟨fd,hb,hF⟩:=F w mg fa _ KX G.T.g hmg;refine enter_call (codeAny_mono (qqb KX G.T.g G.T.b G.T.builtins G.T.nolimit hg hobj p9 (Y6 ac hn2) hr hF hb (λH hO hS=>vvp (ku ns ac pi) hS hO) (λ_ _ _ ⟨_,_,_,_,_,_,_,_,_,_,_,_,_,_,_,z⟩=>z)) λr s' hq=>?_);obtain⟨rfl,h2,h3,h4⟩:=hq;exact⟨.inl ⟨.bool true,.bool true,[],rfl,λ_=>rfl,.bool true,Att.post_true l _,λ_=>⟨List.Pairwise.nil,λ_ hm=>(nomatch hm)⟩⟩,h2,h3,h4⟩
end
end Q
namespace Q
open PySem PySem.Spec PyProof.Rows L2 L3
section
variable {P:Program}{w:PySem.World}{K:PySem.W.Frag}{mg:Str->Option Value}{base h:Heap}{x:Str}{st:Stmt}{ps:List Str}{k:Nat}{sp:Sp}
noncomputable def Gf(K:PySem.W.Frag)(x:Str)(st:Stmt):Prop:=∃(f:Addr) (oc:Value) (od:Option Addr) (kV dc pm:Value) (an:Option Addr) (cd ct:Value) (sl:Array (Option Value)),PySem.W.nsIn K mainGlobals x=some (some (.ref f))/\K.lookup f=some ⟨oc,od,.func (PySem.W.fnOf x x (Q6 st) (K3 st) (k7 st) .none kV dc pm an cd ct),sl⟩/\PySem.W.codeIn K cd x=true/\PySem.W.keepIn K (.ref f)=true
theorem Gf.mk{f:Addr}{oc:Value}{od:Option Addr}{kV dc pm:Value}{an:Option Addr}{cd ct:Value}{sl:Array (Option Value)}(a:PySem.W.nsIn K mainGlobals x=some (some (.ref f)))(l:K.lookup f=some ⟨oc,od,.func (PySem.W.fnOf x x (Q6 st) (K3 st) (k7 st) .none kV dc pm an cd ct),sl⟩)(c:PySem.W.codeIn K cd x=true)(k:PySem.W.keepIn K (.ref f)=true):Gf K x st:=⟨f,oc,od,kV,dc,pm,an,cd,ct,sl,a,l,c,k⟩
theorem Gf.d(g:Gf K x st)(X:K.In h)(G:h.Ns mainGlobals mg)(ok:∀{f:Addr} {fd:FuncData},Fun K x x st f fd->FnOk P w K mg base (CXE P w) k f fd ps sp)
  (hb:∀(kV fm pm:Value) (an:Option Addr) (b9 ct:Value) (us:List Value),us.length=ps.length->bindArgs (PySem.W.fnOf x x (Q6 st) (K3 st) (k7 st) .none kV fm pm an b9 ct) ⟨us,[]⟩=pure (ps.zip us):=by
   intro _ _ _ _ _ _ us hl
   first
   |exact wjy us hl λ_=>rfl
   |exact wjx us hl λ_ _=>rfl
   |exact wjw us hl λ_ _ _=>rfl
   |exact wjv us hl λ_ _ _ _=>rfl
   |exact wju us hl λ_ _ _ _ _=>rfl
   |exact len6 us hl λ_ _ _ _ _ _=>rfl):kq P w K mg base k x ps sp:=by
 obtain⟨f,oc,od,kV,dc,pm,an,cd,ct,sl,a,l,c,kp⟩:=g;exact⟨f,_,ok (qqn l c kp),(qqn l c kp).binds hb,kp,Yy X G a⟩
theorem Gf.law{fa:Addr}{y:Str}(g:Gf K "law" st)(X:K.In h)(G:h.Ns mainGlobals mg)(hfa:mg "law"=some (.ref fa))(ok:∀{base:Heap} {f:Addr} {fd:FuncData},Fun K "law" "law" st f fd->FnOk P w K mg base (CXE P w) k f fd [y] sp)
  (hb:∀(kV fm pm:Value) (an:Option Addr) (b9 ct:Value) (s:Shared) (v:Value),BindsTo s (PySem.W.fnOf "law" "law" (Q6 st) (K3 st) (k7 st) .none kV fm pm an b9 ct) ⟨[v],[]⟩ [(y,v)]:=by
   intros
   exact .of_eq rfl):
  ∃fd:FuncData,(∀(s:Shared) (v:Value),BindsTo s fd ⟨[v],[]⟩ [(y,v)])/\∀base:Heap,K.In base->base.Ns mainGlobals mg->FnOk P w K mg base (CXE P w) k fa fd [y] sp:=by
 obtain⟨f,oc,od,kV,dc,pm,an,cd,ct,sl,a,l,c,kp⟩:=g;have e:=hfa.symm.trans (Yy X G a);cases e;exact⟨_,hb kV dc pm an cd ct,λbase _ _=>ok (qqn l c kp)⟩
end
end Q
namespace Q
open PySem L2
theorem mkS{N P:List Str}{sc:Scope}(h1:autoParam (sc.kind=.function) Ŕ)(h2:autoParam (sc.isCoroutine=false) Ŕ)(h3:autoParam (sc.isGenerator=false) Ŕ)(h4:autoParam (N.Nodup) ŗ)(h5:autoParam (N.take P.length=P) Ŕ)(h6:autoParam (∀x∈P,sc.names.lookup x=some .local\/sc.names.lookup x=some .cell) ŗ)(h7:autoParam (∀y∈sc.names,y.2≠.free) ŗ):FnScope N P sc:=⟨h1,h2,h3,h4,h5,h6,h7⟩
end Q
namespace Q
open PySem PySem.Spec PyProof.Rows L2 L3
section
variable {X:Cx}{Z:Fx0}{pn:List Nat}{q qa:Bool}{a b c:Ex}{e ea eb:Expr}{pos p:Pos}
theorem kI{z:Int}{j}:QE X Z true (cC (.int z)) (.Constant (.int z) j p):=q_C qxb λ_=>zV
theorem ki{z:Int}{j}:QV X Z true (vE (cC (.int z))) (.Constant (.int z) j p):=j4 kI
theorem kN{j}:QE X Z true (cC .non) (.Constant .none j p):=q_C vqv λ_=>kwk
theorem kn{j}:QV X Z true (vE (cC .non)) (.Constant .none j p):=j4 kN
theorem kS{z:Str}{j}(h:autoParam (z.length<=sizeLine) ŕ):QE X Z true (cC (.str z)) (.Constant (.str z) j p):=q_C qxa λ_=>Qk h
theorem vv(i:Nat){x:Str}(hN:autoParam (X.N[i]?=some x) Ŕ)(hv:autoParam (Vis X.env.scope x) ř)(hd:autoParam ((x==("__debug__":Str))=false) ŕ)
  (gf:autoParam ((x==("__classdict__":Str))=false) ŕ):QV X Z true (vV i) (.Name x pos):=q_vV (pv i hN hv hd gf)
theorem cv(i:Nat){x:Str}(hN:autoParam (X.N[i]?=some x) Ŕ)(hv:autoParam (Vis X.env.scope x) ř)(hd:autoParam ((x==("__debug__":Str))=false) ŕ)
  (gf:autoParam ((x==("__classdict__":Str))=false) ŕ):QE X Z true (cV i) (.Name x pos):=q_V (pv i hN hv hd gf)
theorem kx(ha:QV X Z qa a ea)(hb:QV X Z true b eb)(hs:XW eb:=by exact λ_ _=>rfl)(hK:autoParam (X.K=Z.K) Ŕ):QV X Z qa (j8 a b) (.Subscript ea eb pos):=q_ix ha hb hs hK
theorem qA{i:Nat}{y:Str}{ef:Pos}(hN:X.N.Nodup)(h:QE X Z q a ea)(hi:autoParam (X.N[i]?=some y) Ŕ)(hx:autoParam (Loc X.env.scope y) Ś)(hp:autoParam (i∉pn) ŕ)(hs:autoParam (swapsWith ea (some (.Name y ef)) pos.line X.env=pure false) Ŕ)(hf:autoParam (X.fn y=true\/X.env.scope.names.lookup y=some .local) Ř):
  QS X Z pn (jx i a) (.Assign [.Name y ef] ea pos):=vz3 hN hi hx h hp hs hf
theorem gn{i:Nat}{x:Str}(hN:X.N.Nodup)(hi:autoParam (X.N[i]?=some x) Ŕ)(hx:autoParam (Loc X.env.scope x) Ś)(hf:autoParam (X.fn x=true\/X.env.scope.names.lookup x=some .local) Ř):PG X (.Name x pos) (ZY i):=V8 hN hi hx hf
theorem gN{i:Nat}{x:Str}(hN:X.N.Nodup)(hi:autoParam (X.N[i]?=some x) Ŕ)(hx:autoParam (Loc X.env.scope x) Ś)(hf:autoParam (X.fn x=true\/X.env.scope.names.lookup x=some .local) Ř)(hp:autoParam (i∉pn) ŕ):QG X Z pn (.n i) (.Name x pos):=wjs (V8 hN hi hx hf) hp
theorem qC{k m n:Nat}{x:Str}{ps:List Str}{f:Fn}{cs:List Ex}{es:List Expr}(D:kq X.prog X.w X.K X.mg X.base k x ps (spF Z.K Z.mg n f))(hr:Room m X.A)(ha:QA X Z q cs (e::es))(g:xq X Z.EX:=by exact x6)(em:autoParam (k<=m) ŕ)(hn:autoParam (cs.length=n) Ŕ)(hg:autoParam (Gl X x) Ŕ)(eh:autoParam ((x==("__debug__":Str))=false) ŕ)
  (he:autoParam (starEach (e::es) X.env=(false,eval e X.env)::starEach es X.env) Ŕ) (bo:autoParam ((backTo pos (starEach es X.env)).any (·.1)=false) Ŕ):
  QE X Z q (jQ f cs) (.Call (.Name x p) (e::es) [] pos):=vqi D (hr.mono em) g ha hn hg eh he bo
theorem qF{tg aw:Expr}{ss:List Stmt}{it:Ev (List D)}{t:Tg}{B:Sm}(hi:QI X Z q tg it aw)(hg:QG X Z pn t tg)(hb:QSs X Z pn B ss)(hp:PassesOwn (model X.prog X.w) X.A X.env X.xe:=by exact vv2 ⟨_,_,rfl,rfl⟩)(hc:autoParam (X.calm=true) Ŕ)(hs:autoParam (∀x,foldedSetIterable aw X.env x=pure x) Ŗ):QS X Z pn (wq it t B) (.For tg aw ss [] pos):=vz2 hp hc hi hg hb hs
theorem oA(ha:QV X Z qa a ea)(hb:QV X Z true b eb)(hK:autoParam (X.K=Z.K) Ŕ):QE X Z qa (cF2 jz a b) (.BinOp ea .Add eb pos):=vx (vvd hK) vx0 ha hb
theorem oX(ha:QV X Z qa a ea)(hb:QV X Z true b eb)(hK:autoParam (X.K=Z.K) Ŕ):QE X Z qa (cF2 qX a b) (.BinOp ea .Mult eb pos):=vx (vv9 hK) vk0 ha hb
theorem oM(ha:QV X Z qa a ea)(hb:QV X Z true b eb):QE X Z qa (cF2 (pu2 jJ) a b) (.BinOp ea .Mod eb pos):=vx vv5 vwv ha hb
theorem qP{i:Nat}{x:Str}{av ag xp:Pos}(h:QE X Z q c e)(hN:autoParam (X.N[i]?=some x) Ŕ)(hv:autoParam (Vis X.env.scope x) ř)(hd:autoParam ((x==("__debug__":Str))=false) ŕ)
  (gf:autoParam ((x==("__classdict__":Str))=false) ŕ) (b6:autoParam (attributeBase (.Name x xp) "append" X.env (eval (.Name x xp) X.env)=eval (.Name x xp) X.env) Ŕ)
  (ei:autoParam (((backTo ag (starEach [e] X.env)).all (λx=>!x.1)&&(backToKw ag (keywordEach [] X.env)).all (λx=>x.1.isSome)
   && decide ([e].length+([]:List Keyword).length+(if([]:List Keyword).isEmpty then 0 else 1)<30))=true) Ŕ)
  (b8:autoParam ((av.endLine==ag.line)=true) Ŕ) (hs:autoParam (starEach [e] X.env=(false,eval e X.env)::starEach [] X.env) Ŕ) (be:autoParam ((backTo ag (starEach [] X.env)).any (·.1)=false) Ŕ) (hK:autoParam (X.K=Z.K) Ŕ)
  (md:autoParam (swapsWith (.Call (.Attribute (.Name x xp) "append" av) [e] [] ag) none pos.line X.env=pure false) Ŕ):
  QS X Z pn (xv x8 i c) (.Expr (.Call (.Attribute (.Name x xp) "append" av) [e] [] ag) pos):=vz4 (qxc Z.K PySem.F.plainAttrs_list PySem.F.slot_list_append PySem.F.type_list_append kj7 (pv i hN hv hd gf) (vZ h ww hs) b6 ei b8 hs be hK) md
theorem qL(ha:QV X Z q a ea)(hm:X.mg "len"=none)(hK:autoParam (X.K=Z.K) Ŕ)(hg:autoParam (Gl X "len") Ŕ)(he:autoParam (starEach [ea] X.env=(false,eval ea X.env)::starEach [] X.env) Ŕ)(bo:autoParam ((backTo pos (starEach [] X.env)).any (·.1)=false) Ŕ):QE X Z q (cF1 (pu1 v6) a) (.Call (.Name "len" p) [ea] [] pos):=Kv (hK▸vjv X.K) vww ha hm vwn hg (by decide) (by decide) he bo
theorem qT(ha:QV X Z q a ea)(hm:X.mg "tuple"=none)(hK:autoParam (X.K=Z.K) Ŕ)(hg:autoParam (Gl X "tuple") Ŕ)(he:autoParam (starEach [ea] X.env=(false,eval ea X.env)::starEach [] X.env) Ŕ)(bo:autoParam ((backTo pos (starEach [] X.env)).any (·.1)=false) Ŕ):QE X Z q (cF1 Wj a) (.Call (.Name "tuple" p) [ea] [] pos):=Z4 (qv4 hK) qww ha hm V7 hg (by decide) (by decide) he bo
variable {aw fw tg:Expr}{fg:List Expr}{scope:Scope}{it:Ev (List D)}{tt:Tg}{u:Ts}
theorem qm(o:Own)(k:Nat)(R:List Nat)(m:Nat)(N:List Str)(hi:QI X Z q tg it aw)
  (hg:N.Nodup->∀cl C s0 H0 fp,QG (lcE X scope N cl C s0 H0 fp Z.EX) Z ((List.range R.length).map (k + ·)) tt tg) (ht:∀cl C s0 H0 fp,PTs (lcE X scope N cl C s0 H0 fp Z.EX) fg (tT Z q u)) (he:∀cl C s0 H0 fp,QE (lcE X scope N cl C s0 H0 fp Z.EX) Z q c fw)
  (hN:autoParam (N.Nodup) ŗ) (gx:xq X Z.EX:=by exact x6) (top:K6 X:=by exact⟨_,_,rfl,rfl⟩) (hR:autoParam (R.Nodup) ŕ) (hm:autoParam (X.N.length=m) Ŕ) (hr:autoParam (∀j∈R,j<m) ŕ) (hc:autoParam (X.calm=true) Ŕ) (hk:autoParam (scope.kind=.function) Ŕ) (ly:autoParam (V5 X.N X.env.scope scope N k R=true) Ŕ) (hs:autoParam (∀x,foldedSetIterable aw X.env x=pure x) Ŗ):
  QE X Z q (cLC o k R it tt u c) (.ListComp fw [⟨tg,aw,fg,0⟩] scope pos):=wjr N hi (hg hN) ht he gx top hR (hm▸hr) hc hk ly hs
theorem qM{x:Str}{p':Pos}(o:Own)(k:Nat)(R:List Nat)(m:Nat)(N:List Str)(hi:QI X Z q (.Name x p') it aw)(he:∀cl C s0 H0 fp,QE (lcE X scope N cl C s0 H0 fp Z.EX) Z q c fw)
  (hN:autoParam (N.Nodup) ŗ) (gx:xq X Z.EX:=by exact x6) (top:K6 X:=by exact⟨_,_,rfl,rfl⟩) (hR:autoParam (R.Nodup) ŕ) (hm:autoParam (X.N.length=m) Ŕ) (hr:autoParam (∀j∈R,j<m) ŕ) (hc:autoParam (X.calm=true) Ŕ) (hk:autoParam (scope.kind=.function) Ŕ) (ly:autoParam (V5 X.N X.env.scope scope N k R=true) Ŕ) (hs:autoParam (∀x,foldedSetIterable aw X.env x=pure x) Ŗ)
  (hg:N.Nodup->∀cl C s0 H0 fp,QG (lcE X scope N cl C s0 H0 fp Z.EX) Z ((List.range R.length).map (k + ·)) (.n 0) (.Name x p'):=by exact λh _ _ _ _ _=>wjs (V8 (i:=0) h rfl (by first|exact Or.inl rfl|exact Or.inr rfl))):
  QE X Z q (cLC o k R it (.n 0) tYes c) (.ListComp fw [⟨.Name x p',aw,[],0⟩] scope pos):=wjr N hi (hg hN) (λ_ _ _ _ _=>vqb) he gx top hR (hm▸hr) hc hk ly hs
end
end Q
namespace PySem
structure ZA (z TI TO i1 i2:Addr)(f1 f2:List Addr):Prop where
 a1:TI≠z
 a2:TO≠z
 a3:TI≠TO
 a4:i1≠z
 a5:i2≠z
 a6:TI≠i1
 a7:TI≠i2
 a8:TO≠i1
 a9:TO≠i2
 b1:i1≠i2
 c1:z∉f1
 c2:TO∉f1
 c3:i2∉f1
 d1:z∉f2
 d2:TO∉f2
 d3:i1∉f2
section
variable {prog:Program}{w:World}{A:Around}{E:Value->Shared->Prop}{s:Shared}{z TI TO i1 i2:Addr}{f1 f2:List Addr}{n1 n2 k:Nat}{P1 P2:Nat->Value->Prop}{S1 S2:Nat->Heap->Prop}
theorem JY{h h':Heap}{a:Addr}{f:List Addr}{S:Nat->Heap->Prop}{it n i P}(D:Draws prog w A it f n P S)(hs:Heap.SameBut a h h')(ha:a∉f)(st:S i h):S i h':=D.frame i h h' st λb hb o e=>hs.extBut _ _ (λx=>ha (x▸hb)) e
abbrev ZSt(z TI TO i1 i2:Addr)(S1 S2:Nat->Heap->Prop)(k:Nat)(h:Heap):Prop:=IsZip h z TI TO .none/\IsPair h TI (.ref i1) (.ref i2)/\(∃a b,IsPair h TO a b)/\S1 k h/\S2 k h
theorem qxu{Q:Option Value->Shared->Prop}(ap:ZA z TI TO i1 i2 f1 f2)(D1:Draws prog w A.in1 i1 f1 n1 P1 S1)(D2:Draws prog w A.in1 i2 f2 n2 P2 S2)(st:ZSt z TI TO i1 i2 S1 S2 k s.heap)(h1:k<n1)(h2:k<n2)
  (hQ:∀h' tk x y,P1 k x->P2 k y->IsZip h' z TI TO (rawInt s.heap.objs.size)->IsPair h' TI (.ref i1) (.ref i2)->IsPair h' TO x y->S1 (k+1) h'->S2 (k+1) h'->IsPair h' s.heap.objs.size x y ->
   (∀c o,c≠z->c≠TO->c≠i1->c≠i2->s.heap.get? c=some o->h'.get? c=some o)->Q (some (.ref s.heap.objs.size)) { s with heap:=h',toks:=tk }):wpAny (model prog w) A (pyNext (.ref z)) Q E s:=by
 obtain⟨hz,hTI,⟨a,b,hTO⟩,s1,s2⟩:=st;have hT:s.TypeIs (.ref z) "zip":=⟨_,hz,rfl⟩;unfold pyNext;refine X0 (wpAny_attempt (Xz (name:=Str.ofString "__next__") hT F.slot_zip_next (Xv F.slot_zip_next hT F.entry_zip_next ?_ (F.args_zip_next_1 _))));show wpAny _ _ (field (.ref z) 2 >>= _) _ _ _;refine X0 (Xy hz rfl (x:=.bool false) rfl ?_);show wpAny _ _ (field (.ref z) 3 >>= _) _ _ _;refine X0 (Xy hz rfl (x:=.ref TI) rfl ?_);refine X0 (Yo hTI rfl ?_);show wpAny _ _ (Builtin.SmallTypes.ownedTupleIsFree (.ref z) >>= _) _ _ _;refine X0 ?_;unfold Builtin.SmallTypes.ownedTupleIsFree;refine X0 (Xy hz rfl (x:=.none) rfl (X4 ?_));simp only[if_true];refine X0 (Z2 ?_);refine X0 (Xy hz rfl (x:=.ref TO) rfl ?_);refine X0 (wpAny_setField_rec hz (by simp) λg1 z1 e1=>?_);have z1:IsZip g1 z TI TO .ellipsis:=z1;refine X0 ?_;simp only[List.zipIdx_cons,List.zipIdx_nil,List.forIn_cons,List.forIn_nil];refine X0 (X0 (wpAny_onRaise ?_));show wpAny _ _ (Builtin.SmallTypes.nextOf (.ref i1) >>= _) _ _ _;refine X0 (D1.item k { s with heap:=g1 } _ _ h1 (JY D1 e1 ap.c1 s1) λx g2 t2 px s1' e2=>X4 ?_);have e2:Heap.SameBut i1 g1 g2:=e2;have o2:IsPair g2 TO a b:=e2.extBut _ _ ap.a8 (e1.extBut _ _ ap.a2 hTO);refine X0 (Yo o2 rfl ?_);refine X0 (wpAny_updateSeq_pair o2 λg3 o3 e3=>?_);have o3:IsPair g3 TO x b:=o3;have e3:Heap.SameBut TO g2 g3:=e3;refine X0 (wpAny_letGo (X4 ?_));refine X0 (X0 (wpAny_onRaise ?_));show wpAny _ _ (Builtin.SmallTypes.nextOf (.ref i2) >>= _) _ _ _;refine X0 (D2.item k { s with heap:=g3,toks:=t2 } _ _ h2 (JY D2 e3 ap.d2 (JY D2 e2 ap.d3 (JY D2 e1 ap.d1 s2))) λy g4 t4 py s2' e4=>X4 ?_);have e4:Heap.SameBut i2 g3 g4:=e4;have o4:IsPair g4 TO x b:=e4.extBut _ _ ap.a9 o3;refine X0 (Yo o4 rfl ?_);refine X0 (wpAny_updateSeq_pair o4 λg5 o5 e5=>?_);have o5:IsPair g5 TO x y:=o5;have e5:Heap.SameBut TO g4 g5:=e5;refine X0 (wpAny_letGo (X4 (X4 ?_)));refine X0 (Yo o5 rfl ?_);refine X0 (wpAny_newTuple ?_);have hsz:g5.objs.size=s.heap.objs.size:=by rw[e5.1,e4.1,e3.1,e2.1,e1.1]
 have z5:IsZip g5 z TI TO .ellipsis:=e5.extBut _ _ ap.a2.symm (e4.extBut _ _ ap.a5.symm (e3.extBut _ _ ap.a2.symm (e2.extBut _ _ ap.a4.symm z1)));have keep:∀c o,c≠z->c≠TO->c≠i1->c≠i2->s.heap.get? c=some o->g5.get? c=some o:=λc o c1 c2 c3 c4 e=>e5.extBut _ _ c2 (e4.extBut _ _ c4 (e3.extBut _ _ c2 (e2.extBut _ _ c3 (e1.extBut _ _ c1 e))))
 have r1:S1 (k+1) g5:=JY D1 e5 ap.c2 (JY D1 e4 ap.c3 (JY D1 e3 ap.c2 s1'));have r2:S2 (k+1) g5:=JY D2 e5 ap.d2 s2';have zl:z<g5.objs.size:=Xa z5;show wpAny _ _ (Builtin.SmallTypes.ownedTupleHandOut (.ref z) (.ref g5.objs.size) >>= _) _ _ _;refine X0 ?_;unfold Builtin.SmallTypes.ownedTupleHandOut;have z6:IsZip (g5.push { cls:=.type "tuple",data:=.seq #[x,y] }) z TI TO .ellipsis:=X1 _ z5;refine X0 (wpAny_setField_rec z6 (by simp) λg7 z7 e7=>?_);have z7:IsZip g7 z TI TO (rawInt g5.objs.size):=z7;refine wpAny_setField_rec z7 (by simp) λg8 z8 e8=>?_
 have z8:IsZip g8 z TI TO (rawInt g5.objs.size):=z8;have up:∀c o,c≠z->g5.get? c=some o->g8.get? c=some o:=λc o c1 e=>e8.extBut _ _ c1 (e7.extBut _ _ c1 (X1 _ e))
 have t8:IsPair g8 g5.objs.size x y:=e8.extBut _ _ (Nat.ne_of_gt zl) (e7.extBut _ _ (Nat.ne_of_gt zl) (X8 _ rfl));rw[hsz]at z8 t8;refine X4 ⟨_,rfl,?_⟩;refine X4 ?_;show Q (some (.ref g5.objs.size)) _;rw[hsz];exact hQ g8 t4 x y px py z8 (up _ _ ap.a1 (keep _ _ ap.a1 ap.a3 ap.a6 ap.a7 hTI)) (up _ _ ap.a2 o5) (D1.frame _ _ _ r1 λb hb o e=>up b o (λq=>ap.c1 (q▸hb)) e) (D2.frame _ _ _ r2 λb hb o e=>up b o (λq=>ap.d1 (q▸hb)) e) t8 λc o c1 c2 c3 c4 e=>up c o c1 (keep c o c1 c2 c3 c4 e)
theorem vka{Q:Option Value->Shared->Prop}(ap:ZA z TI TO i1 i2 f1 f2)(D1:Draws prog w A.in1 i1 f1 n1 P1 S1)(st:ZSt z TI TO i1 i2 S1 S2 n1 s.heap)
  (hQ:∀h',(∀c o,c≠z->c≠i1->s.heap.get? c=some o->h'.get? c=some o)->Q none { s with heap:=h' }):wpAny (model prog w) A (pyNext (.ref z)) Q E s:=by
 obtain⟨hz,hTI,⟨a,b,hTO⟩,s1,s2⟩:=st;have hT:s.TypeIs (.ref z) "zip":=⟨_,hz,rfl⟩;unfold pyNext;refine X0 (wpAny_attempt (Xz (name:=Str.ofString "__next__") hT F.slot_zip_next (Xv F.slot_zip_next hT F.entry_zip_next ?_ (F.args_zip_next_1 _))));show wpAny _ _ (field (.ref z) 2 >>= _) _ _ _;refine X0 (Xy hz rfl (x:=.bool false) rfl ?_);show wpAny _ _ (field (.ref z) 3 >>= _) _ _ _;refine X0 (Xy hz rfl (x:=.ref TI) rfl ?_);refine X0 (Yo hTI rfl ?_);show wpAny _ _ (Builtin.SmallTypes.ownedTupleIsFree (.ref z) >>= _) _ _ _;refine X0 ?_;unfold Builtin.SmallTypes.ownedTupleIsFree;refine X0 (Xy hz rfl (x:=.none) rfl (X4 ?_));simp only[if_true];refine X0 (Z2 ?_);refine X0 (Xy hz rfl (x:=.ref TO) rfl ?_);refine X0 (wpAny_setField_rec hz (by simp) λg1 z1 e1=>?_);have z1:IsZip g1 z TI TO .ellipsis:=z1;refine X0 ?_;simp only[List.zipIdx_cons,List.zipIdx_nil,List.forIn_cons,List.forIn_nil];refine X0 (X0 (wpAny_onRaise ?_));show wpAny _ _ (Builtin.SmallTypes.nextOf (.ref i1) >>= _) _ _ _;refine X0 (D1.done { s with heap:=g1 } _ _ (JY D1 e1 ap.c1 s1) λg2 ex e2 he=>?_);have e2:Heap.ExtBut i1 g1 g2:=e2;obtain⟨oe,hoe,hce⟩:=he;have z2:IsZip g2 z TI TO .ellipsis:=e2 _ _ ap.a4.symm z1;have hez:ex≠z:=λq=>by subst q;rw[z2]at hoe;cases hoe;simp at hce
 refine wpAny_setField_rec z2 (by simp) λg3 _ e3=>?_
 refine X0 (wpAny_isInstance (T:="StopIteration") (b:=true) ⟨oe,e3.extBut _ _ hez hoe,hce⟩ isSubtype_stop ?_);exact X4 (hQ _ λc o c1 c2 q=>e3.extBut _ _ c1 (e2 _ _ c2 (e1.extBut _ _ c1 q)))
end
abbrev zt1(h:Heap)(t:Addr):Heap:=h.push { cls:=.type "tuple_iterator",data:=.fields #[.ref t,.int 0 0] }
abbrev zt2(h:Heap)(t u:Addr):Heap:=(zt1 h t).push { cls:=.type "tuple_iterator",data:=.fields #[.ref u,.int 0 0] }
abbrev zt3(h:Heap)(t u:Addr):Heap:=(zt2 h t u).push { cls:=.type "tuple",data:=.seq #[.ref h.objs.size,.ref (zt1 h t).objs.size] }
abbrev zt4(h:Heap)(t u:Addr):Heap:=(zt3 h t u).push { cls:=.type "tuple",data:=.seq #[.none,.none] }
abbrev zt5(h:Heap)(t u:Addr):Heap:=(zt4 h t u).push { cls:=.type "zip",data:=.fields #[.none,.bool false,.bool false,.ref (zt2 h t u).objs.size,.ref (zt3 h t u).objs.size] }
theorem vk9(t u:Addr)(xs ys:Array Value):Meets (Builtin.«zip.__new__» ⟨[.type "zip",.ref t,.ref u],[]⟩) (λ_ R s=>s.heap.IsTuple t xs/\s.heap.IsTuple u ys/\R (.ok (.ret (.ref (zt4 s.heap t u).objs.size))) { s with heap:=zt5 s.heap t u }):=
 .of_wp λprog w A R s h=>by
  obtain⟨hp,g,d,tk,os⟩:=s;obtain⟨i7,gp,h⟩:=h;have gh:=sub_zip;have hL1:Heap.IsTuple (Shared.heap ⟨hp,g,d,tk,os⟩) t xs:=i7;have hL2:Heap.IsTuple (Shared.heap ⟨hp.push { cls:=.type "tuple_iterator",data:=.fields #[.ref t,.int 0 0] },g,d,tk,os⟩) u ys:=by obtain⟨o,ho,r⟩:=gp;exact⟨o,X1 _ ho,r⟩
  wp_walk using wpAny_pyIter_tuple hL1,wpAny_pyIter_tuple hL2
  exact⟨_,rfl,h⟩
section
variable {prog:Program}{w:World}{A:Around}{E:Value->Shared->Prop}{s:Shared}
theorem qxt{t u:Addr}{xs ys:Array Value}{Q:Value->Shared->Prop}(h1:s.heap.IsTuple t xs)(h2:s.heap.IsTuple u ys)
  (h:∀h',IsZip h' (s.heap.objs.size+4) (s.heap.objs.size+2) (s.heap.objs.size+3) .none->IsPair h' (s.heap.objs.size+2) (.ref s.heap.objs.size) (.ref (s.heap.objs.size+1))->IsPair h' (s.heap.objs.size+3) .none .none ->
   h'.IsTupleIter s.heap.objs.size t 0->h'.IsTupleIter (s.heap.objs.size+1) u 0->(∀c o,s.heap.get? c=some o->h'.get? c=some o)->Q (.ref (s.heap.objs.size+4)) { s with heap:=h' }):wpAny (model prog w) A (call (.type "zip") [.ref t,.ref u]) Q E s:=by
 refine callType_new F.called_zip (by decide) (F.typeCall_zip_2 _ _) (F.newCall_zip_2 _ _) (λobj=>F.args_object_init_3 obj _ _) F.entry_zip_new (vk9 t u xs ys) ⟨h1,h2,?_⟩;have q1:(zt1 s.heap t).objs.size=s.heap.objs.size+1:=Yk ..;have q2:(zt2 s.heap t u).objs.size=s.heap.objs.size+2:=by rw[Yk,q1]
 have q3:(zt3 s.heap t u).objs.size=s.heap.objs.size+3:=by rw[Yk,q2]
 have q4:(zt4 s.heap t u).objs.size=s.heap.objs.size+4:=by rw[Yk,q3]
 have p5:(zt5 s.heap t u).get? (zt4 s.heap t u).objs.size=some _:=X8 _ rfl;have p4:(zt5 s.heap t u).get? (zt3 s.heap t u).objs.size=some _:=X1 _ (X8 _ rfl);have p3:(zt5 s.heap t u).get? (zt2 s.heap t u).objs.size=some _:=X1 _ (X1 _ (X8 _ rfl));have p2:(zt5 s.heap t u).get? (zt1 s.heap t).objs.size=some _:=X1 _ (X1 _ (X1 _ (X8 _ rfl)));have p1:(zt5 s.heap t u).get? s.heap.objs.size=some _:=X1 _ (X1 _ (X1 _ (X1 _ (X8 _ rfl))));show _/\_;rw[q2,q3,q4]at p5;rw[q1,q2]at p3;rw[q3]at p4;rw[q1]at p2;rw[q4];exact⟨⟨_,p5,rfl⟩,h _ p5 p3 p4 ⟨_,p1,rfl,rfl⟩ ⟨_,p2,rfl,rfl⟩ λc o x=>X1 _ (X1 _ (X1 _ (X1 _ (X1 _ x))))⟩
end
end PySem
namespace Q
open PySem PySem.Spec PyProof.Rows L2 L3
noncomputable def ItZ(K:PySem.W.Frag)(l1 l2:Addr):It:=⟨λi H=>∃xs ys x y,SqT K H l1 xs/\SqT K H l2 ys/\xs[i]?=some x/\ys[i]?=some y,
 λi H v H'=>∃T x y,H T=none/\v=.ref T/\H'=upd H T (.tup [x,y])/\(∀xs,SqT K H l1 xs->xs[i]?=some x)/\∀ys,SqT K H l2 ys->ys[i]?=some y,
 λi H=>∃xs ys,SqT K H l1 xs/\SqT K H l2 ys/\xs.length=i⟩
abbrev ztS(z TI TO i1 i2 l1 l2:Addr)(i:Nat)(h:Heap):Prop:=IsZip h z TI TO .none/\IsPair h TI (.ref i1) (.ref i2)/\(∃a b,IsPair h TO a b)/\h.IsTupleIter i1 l1 i/\h.IsTupleIter i2 l2 i
theorem vxi{n l1 l2:Addr}(h1:l1<n)(h2:l2<n):ZA (n+4) (n+2) (n+3) n (n+1) [n,l1] [n+1,l2]:=by
 constructor<;>simp only[Xh,Xe,or_false,not_or,ne_eq]<;>first|omega|(unfold Addr at *;omega)
theorem qxx{P:Program}{w:PySem.World}{K:PySem.W.Frag}{c8:List Expr}{k1:Nat}{pos:Pos}{z TI TO i1 i2 l1 l2:Addr}(ap:ZA z TI TO i1 i2 [i1,l1] [i2,l2])(n1:l1≠i1)(n2:l2≠i2):
  Turn P w K (.Tuple c8 k1 pos) (ItZ K l1 l2) [z,TI,TO,i1,i2] z (ztS z TI TO i1 i2 l1 l2) where
 mem:=by simp
 obj:=λi h st b hb=>by
  obtain⟨h1,h2,⟨a,c,h3⟩,⟨o4,e4,c4,d4⟩,o5,e5,c5,d5⟩:=st;simp only[Xh,Xe,or_false]at hb;rcases hb with rfl|rfl|rfl|rfl|rfl
  ·exact⟨_,h1,λv z=>by cases z⟩
  ·exact⟨_,h2,λv z=>by cases z⟩
  ·exact⟨_,h3,λv z=>by cases z⟩
  ·exact⟨_,e4,λv z=>by rw[d4]at z;cases z⟩
  ·exact⟨_,e5,λv z=>by rw[d5]at z;cases z⟩
 keep:=λi h h' st k=>by
  obtain⟨h1,h2,⟨a,c,h3⟩,⟨o4,e4,c4,d4⟩,o5,e5,c5,d5⟩:=st;exact⟨k _ (by simp) _ h1,k _ (by simp) _ h2,⟨a,c,k _ (by simp) _ h3⟩,⟨o4,k _ (by simp) _ e4,c4,d4⟩,o5,k _ (by simp) _ e5,c5,d5⟩
 item:=by
  intro X hP hw hK hc i pins s σ H E I hf st hg;subst hP hw hK;obtain⟨xs,ys,x,y,q1,q2,hx,hy⟩:=hg;obtain⟨f7,ji,p1,jt⟩:=I.tuple q1;obtain⟨u1,hu1,ru1⟩:=ji.get hx;obtain⟨cp,kl,p2,jp⟩:=I.tuple q2;obtain⟨u2,hu2,ru2⟩:=kl.get hy;obtain⟨t1,t2,⟨a,b,t3⟩,t4,t5⟩:=st;have hh:X.A.in1.handled=none:=by have:=I.ok.hd hc;simpa using this
  refine qxu ap (kjg hh i1 l1 n1 f7.toArray) (kjg hh i2 l2 n2 cp.toArray) ⟨t1,t2,⟨a,b,t3⟩,⟨t4,p1⟩,t5,p2⟩ (by rw[X7];exact(List.getElem?_eq_some_iff.mp hu1).1) (by rw[X7];exact(List.getElem?_eq_some_iff.mp hu2).1) λh1 tk v1 v2 w1 w2 g1 gI g3 g4 g5 gT gk=>?_
  have e1:v1=u1:=by
   have w1:f7[i]?=some v1:=by simpa using w1
   rw[hu1]at w1;exact(oq9 w1).symm
  have e2:v2=u2:=by
   have w2:cp[i]?=some v2:=by simpa using w2
   rw[hu2]at w2;exact(oq9 w2).symm
  subst e1 e2;refine⟨_,rfl,wpAny_letOwnedTupleGo_zip (s:={ s with heap:=h1,toks:=tk }) g1 λh2 f1 sb=>?_⟩;have fT:vq X pins H s.heap.objs.size:=I.fpOk (Xd _) (I.hok.fresh (Xd _));have nT:∀b∈[z,TI,TO,i1,i2],b≠s.heap.objs.size:=λb hb e=>by
   obtain⟨o,eo⟩:∃o,s.heap.get? b=some o:=by
    simp only[Xh,Xe,or_false]at hb;obtain⟨o4,e4,_⟩:=t4;obtain⟨o5,e5,_⟩:=t5;rcases hb with rfl|rfl|rfl|rfl|rfl
    ·exact⟨_,t1⟩
    ·exact⟨_,t2⟩
    ·exact⟨_,t3⟩
    ·exact⟨_,e4⟩
    ·exact⟨_,e5⟩
   exact absurd (Xa eo) (by rw[e];exact Y8 _)
  have kk:∀b o,b∉[z,TO,i1,i2]->s.heap.get? b=some o->h2.get? b=some o:=λb o hb e=>by
   simp only[Xh,Xe,or_false,not_or]at hb;exact(sb.2 b hb.1).trans (gk b o hb.1 hb.2.1 hb.2.2.1 hb.2.2.2 e)
  have I1:L2.Inv X pins σ H { s with heap:=h2,toks:=tk }:=jvp [z,TO,i1,i2] I kk λb hb=>hf b (by
   simp only[Xh,Xe,or_false]at hb ⊢;rcases hb with h|h|h|h<;>simp[h])
  have nz:s.heap.objs.size≠z:=λe=>nT z (by simp) e.symm
  have I2:=kja (a:=s.heap.objs.size) (o:=.tup [x,y]) I1 fT.1 fT.2.1 fT.2.2.2.1 fT.2.2.2.2.1 fT.2.2.2.2.2
   (show ObjOk X.prog X.w _ h2 _ (.tup [x,y])from⟨by show(2:Nat)<=sizeLine;decide,[v1,v2],.cons ru1 (.cons ru2 .nil),⟨_,(sb.2 _ nz).trans gT,rfl,rfl,0,rfl⟩⟩)
  refine⟨.ref s.heap.objs.size,_,I2,rfl,⟨_,x,y,fT.1,rfl,rfl,λzs mh=>by rw[I.tuple_inj mh q1];exact hx,λzs mh=>by rw[I.tuple_inj mh q2];exact hy⟩,?_,λb hb=>by rw[kX (nT b hb)];exact(hf b hb).1⟩;obtain⟨⟨o4,e4,c4,d4⟩,_⟩:=g4;obtain⟨⟨o5,e5,c5,d5⟩,_⟩:=g5;exact⟨f1,(sb.2 _ ap.a1).trans gI,⟨v1,v2,(sb.2 _ ap.a2).trans g3⟩,⟨o4,(sb.2 _ ap.a4).trans e4,c4,d4⟩,o5,(sb.2 _ ap.a5).trans e5,c5,d5⟩
 done:=by
  intro X hP hw hK hc i pins s σ H E I hf st hg;subst hP hw hK;obtain⟨xs,ys,q1,q2,hx⟩:=hg;obtain⟨f7,ji,p1,jt⟩:=I.tuple q1;obtain⟨cp,kl,p2,jp⟩:=I.tuple q2;obtain⟨t1,t2,⟨a,b,t3⟩,t4,t5⟩:=st;have i7:=ji.length;have hh:X.A.in1.handled=none:=by have:=I.ok.hd hc;simpa using this
  have hsz:f7.toArray.size=i:=by rw[X7,<-i7];exact hx
  refine vka (S2:=λk h=>h.IsTupleIter i2 l2 k/\h.IsTuple l2 cp.toArray) ap (kjg hh i1 l1 n1 f7.toArray) (by rw[hsz];exact⟨t1,t2,⟨a,b,t3⟩,⟨t4,p1⟩,t5,p2⟩) λh' kk=>⟨rfl,?_⟩
  refine jvp (t':=s.toks) [z,TO,i1,i2] I (λb o hb e=>?_) λb hb=>hf b (by
   simp only[Xh,Xe,or_false]at hb ⊢;rcases hb with h|h|h|h<;>simp[h])
  simp only[Xh,Xe,or_false,not_or]at hb;exact kk b o hb.1 hb.2.2.1 e
 self:=λ_ _ _ _ _ st h=>wpAny_pyIter_zip st.1 h
abbrev vzk(K:PySem.W.Frag)(ta:TA):TI:=fun σ H R=>ta σ H λvs H1=>∃l1 l2,vs=[.ref l1,.ref l2]/\(((∃xs,SqL K H1 l1 xs)/\(∃ys,SqL K H1 l2 ys)/\R (Itz K l1 l2) H1)\/((∃xs,SqT K H1 l1 xs)/\(∃ys,SqT K H1 l2 ys)/\R (ItZ K l1 l2) H1))
section
variable {X:Cx}{p pos fh:Pos}{c8:List Expr}{k1:Nat}
theorem qzn(K:PySem.W.Frag){a b:Expr}{ta:TA}(hg:Gl X "zip")(hm:X.mg "zip"=none)(ha:PA X [a,b] ta)(hK:autoParam (X.K=K) Ŕ)
  (hs:autoParam (starEach [a,b] X.env=[(false,eval a X.env),(false,eval b X.env)]) Ŕ) (ip:autoParam (starEach [b] X.env=[(false,eval b X.env)]) Ŕ):
  PI X (.Tuple c8 k1 fh) (.Call (.Name "zip" p) [a,b] [] pos) (vzk K ta):=by
 subst hK;intro pins s σ H R I h;refine Call_ (Q1 I hg hm qxo (Yh (thn (ha pos pins s σ H _ I h) λus s1 ⟨vs,H1,I1,r1,q1⟩=>?_) (by rw[hs,ip]) (by rw[ip];rfl)));obtain⟨l1,l2,rfl,q⟩:=q1;obtain⟨u1,u2,rfl,e1,e2⟩:=qjq r1;cases e1;cases e2;have fin:∀b∈[s1.heap.objs.size+4,s1.heap.objs.size+2,s1.heap.objs.size+3,s1.heap.objs.size,s1.heap.objs.size+1],vq X pins H1 b:=λb hb=>by
  have em:s1.heap.objs.size<=b:=by
   simp only[Xh,Xe,or_false]at hb;rcases hb with rfl|rfl|rfl|rfl|rfl<;>omega
  exact I1.fpOk em (I1.hok.fresh em)
 rcases q with⟨⟨xs,q1⟩,⟨ys,q2⟩,q⟩|⟨⟨xs,q1⟩,⟨ys,q2⟩,q⟩
 ·obtain⟨f7,ji,p1,jt⟩:=I1.list q1;obtain⟨cp,kl,p2,jp⟩:=I1.list q2;have lt:∀{l:Addr} {ar:Array Value},s1.heap.IsList l ar->l<s1.heap.objs.size:=λh=>by obtain⟨_,e,_⟩:=h;exact Xa e
  exact call_zip_2 p1.isList p2.isList λh' g1 g2 g3 g4 g5 gs gk=>wpAny_pyIter_zip g1 ⟨_,_,_,_,H1,rfl,I1.kept (t':=s1.toks) gk,kx8 (zipApart_new (lt p1.isList) (lt p2.isList)),⟨g1,g2,⟨_,_,g3⟩,g4,g5⟩,fin,q⟩
 ·obtain⟨f7,ji,p1,jt⟩:=I1.tuple q1;obtain⟨cp,kl,p2,jp⟩:=I1.tuple q2;have lt:∀{l:Addr} {ar:Array Value},s1.heap.IsTuple l ar->l<s1.heap.objs.size:=λh=>by obtain⟨_,e,_⟩:=h;exact Xa e
  have t1:=lt p1;have t2:=lt p2;exact qxt p1 p2 λh' g1 g2 g3 g4 g5 gk=>wpAny_pyIter_zip g1 ⟨_,_,_,_,H1,rfl,I1.kept (t':=s1.toks) gk,qxx (vxi t1 t2) (Xl t1) (Xl (Yw t2)),⟨g1,g2,⟨_,_,g3⟩,g4,g5⟩,fin,q⟩
end
section
variable {X:Cx}{Z:Fx0}{K:PySem.W.Frag}{pn:List Nat}{q qa qb:Bool}{a b c:Ex}{u:Ts}{tg e ea eb:Expr}{st:Stmt}{σ:L2.St}{H:Hp}{L:Ls}{E:En}{pos p p2 fh:Pos}{x:Str}{c8:List Expr}{k1:Nat}
theorem qvt{b:Ex}(ha:QE X Z q a ea)(hb:QE X Z q b eb)(hg:Gl X "zip")(hm:X.mg "zip"=none)(hK:autoParam (X.K=Z.K) Ŕ)
  (hs:autoParam (starEach [ea,eb] X.env=[(false,eval ea X.env),(false,eval eb X.env)]) Ŕ) (ip:autoParam (starEach [eb] X.env=[(false,eval eb X.env)]) Ŕ)
  (hs3:autoParam (starEach [ea,eb] X.env=(false,eval ea X.env)::starEach [eb] X.env) Ŕ):QI X Z q (.Tuple c8 k1 fh) (kz4 a b) (.Call (.Name "zip" p) [ea,eb] [] pos):=λpins s σ H R I ak=>ex8 ak λE L r m w hc xc k=>by
 refine(qzn Z.K hg hm (vZ ha (vZ hb ww ip) hs3) hK hs ip) pins s σ H R I ?_;refine QQ m w (show bnd (a E) _=some r from hc) xc λE1 s h1 x L1 H1 e1 e2 m1 w1 st sm=>?_
 have s1:Step H L H1 L1:=st.trans Step.drop;refine QQ (q:=q) m1 w1.tail h1 (xc.step s1) λE2 s2 h2 y L2 H2 e3 e4 m2 w2 bm dl=>?_
 have hh:=vxb (T:=[some x]) w1 bm w2;have w3:World Z.K H2 (some x::some y::L2):=hh.1;have cw:Step H1 (some x::L1) H2 (some x::some y::L2):=hh.2;obtain⟨ds,hd,rfl⟩:=wW h2;have jd:=w3.head;have mz:=w3.tail.head;have wT:World Z.K H2 (L2++[x.let,y.let].map some):=by
  have wy:World Z.K H2 (some y.let::L2):=w3.tail.tail.consNo (zq mz) rfl λb hb=>w3.tail.apart b hb
  have wx:World Z.K H2 (some x.let::some y.let::L2):=wy.consNo (zq jd) rfl λb hb ho=>w3.apart b hb (by
   rw [jk]at ho ⊢;exact lr9 _ ((List.mem_append.mp ho).elim (λz=>by rw[(zX y).1]at z;exact nomatch z) id))
  exact World.comm (L:=[some x.let,some y.let]) wx
 have bt:Step H L H2 (some x::some y::L2):=st.trans cw;have sT:Step H L H2 (L2++[x.let,y.let].map some):=by
  refine⟨bt.keep,λb hb=>?_,λb hb=>?_⟩
  ·have:b∈j6 L2:=by simpa [zX]using hb
   exact bt.own b (by rw[jk,jk];exact lr9 _ (lr9 _ this))
  ·have:b∈jY L2\/b∈x.as\/b∈y.as:=by simpa [zX]using hb
   rcases this with z|z|z
   ·exact bt.frz b (by rw[k8,k8];exact lr9 _ (lr9 _ z))
   ·exact jzj bt b z
   ·rcases Sl.as_of z with z|z
    ·exact .inr (bt.own b (by rw[jk,jk];exact lr9 _ (ll9 _ z)))
    ·exact bt.frz b (by rw[k8,k8];exact lr9 _ (ll9 _ z))
 cases hx:x.d with
 | lst es=>
  cases hy:y.d with
  | lst fs=>
   rw [<-e2,<-e4,hx,hy]at hd;have hd:(if es.length<=big then some (v7 es fs)else none)=some ds:=hd
   split at hd
   rotate_left
   ·cases hd
   rename_i ac;have ac:es.length<=sizeLine:=ac;cases oq9 hd;obtain⟨l1,xs,bs,ev,q3,r3,h3,_⟩:=items jd (.inl hx);have q3:LsR Z.K H2 l1 xs:=by rcases q3 with⟨_,z⟩|⟨z,_⟩;exact z;rw[hx]at z;cases z
   obtain⟨l2,ys,cs,lq,q4,r4,h4,_⟩:=items mz (.inl hy);have q4:LsR Z.K H2 l2 ys:=by rcases q4 with⟨_,z⟩|⟨z,_⟩;exact z;rw[hy]at z;cases z
   have iu:=jx9 (K:=Z.K) (H1:=H1) hx ev;have iw:=jx9 (K:=Z.K) (H1:=H1) hy lq;refine⟨l1,l2,by rw[ev,lq],.inl ⟨⟨xs,q3.sq⟩,⟨ys,q4.sq⟩,k _ _ rfl (Itz Z.K l1 l2) [x.let,y.let] L2 H2 m2 wT sT (by rw[J6];omega) (λhq=>kw (sm hq).1 (dl hq).1) ⟨λt ht=>?_,λi H3 hok hi=>?_,λH3 hok=>?_,λi H3 v H4 d hok m8 d6=>?_⟩⟩⟩
   ·simp only[Xh,Xe,or_false]at ht;rcases ht with rfl|rfl<;>rfl
   ·obtain⟨us,li,a1,a2,_⟩:=iu H3 (hok _ (by simp));obtain⟨vs,km,b1,b2,_⟩:=iw H3 (hok _ (by simp));have hl:=a2.len;have gp:=b2.len;rw[J6]at hi;exact⟨us,vs,us[i]'(by omega),vs[i]'(by omega),a1,b1,X2 (by omega),X2 (by omega)⟩
   ·obtain⟨us,li,a1,a2,_⟩:=iu H3 (hok _ (by simp));obtain⟨vs,km,b1,b2,_⟩:=iw H3 (hok _ (by simp));have hl:=a2.len;have gp:=b2.len;exact⟨us,vs,a1,b1,by rw[J6];omega⟩
   ·obtain⟨us,li,a1,a2,a3⟩:=iu H3 (hok _ (by simp));obtain⟨vs,km,b1,b2,b3⟩:=iw H3 (hok _ (by simp));obtain⟨T,x',y',hT,rfl,rfl,g1,g2⟩:=m8;rw[jzf]at d6;cases he1:es[i]? with
    | none=>rw[he1]at d6;cases d6
    | some d1=>
     cases ia:fs[i]? with
     |none=>rw[he1,ia]at d6;cases d6
     |some d2=>
      rw[he1,ia]at d6;cases oq9 d6;obtain⟨v1,pj,f1,f2,f3⟩:=a2.get he1;obtain⟨v2,jm,j1,j2,j3⟩:=b2.get ia;have e5:v1=x':=by have:=g1 us a1;rw[f1]at this;exact oq9 this
      have e6:v2=y':=by have:=g2 vs b1;rw[j1]at this;exact oq9 this
      subst e5 e6;refine⟨⟨.no,_,.ref T,pj++jm⟩,rfl,rfl,rfl,wv hT,kkw hT f2 j2,λb hb=>?_⟩;rcases List.mem_append.mp hb with z|z
      ·exact⟨x.let,by simp,a3 b (f3 b z)⟩
      ·exact⟨y.let,by simp,b3 b (j3 b z)⟩
  | _=>rw[<-e2,<-e4,hx,hy]at hd;cases hd
 | tup es=>
  cases hy:y.d with
  | tup fs=>
   rw [<-e2,<-e4,hx,hy]at hd;have hd:(if es.length<=big/\es.length=fs.length then some (v7 es fs)else none)=some ds:=hd
   split at hd
   rotate_left
   ·cases hd
   rename_i ac;obtain⟨ac,em⟩:=ac;have ac:es.length<=sizeLine:=ac;cases oq9 hd;obtain⟨l1,xs,bs,ev,q3,r3,h3,_⟩:=items jd (.inr hx);have q3:SqT Z.K H2 l1 xs:=by rcases q3 with⟨z,_⟩|⟨_,z⟩;rw[hx]at z;cases z;exact z
   obtain⟨l2,ys,cs,lq,q4,r4,h4,_⟩:=items mz (.inr hy);have q4:SqT Z.K H2 l2 ys:=by rcases q4 with⟨z,_⟩|⟨_,z⟩;rw[hy]at z;cases z;exact z
   have iu:=kqs (K:=Z.K) (H1:=H1) hx ev;have iw:=kqs (K:=Z.K) (H1:=H1) hy lq;refine⟨l1,l2,by rw[ev,lq],.inr ⟨⟨xs,q3⟩,⟨ys,q4⟩,k _ _ rfl (ItZ Z.K l1 l2) [x.let,y.let] L2 H2 m2 wT sT (by rw[J6];omega) (λhq=>kw (sm hq).1 (dl hq).1) ⟨λt ht=>?_,λi H3 hok hi=>?_,λH3 hok=>?_,λi H3 v H4 d hok m8 d6=>?_⟩⟩⟩
   ·simp only[Xh,Xe,or_false]at ht;rcases ht with rfl|rfl<;>rfl
   ·obtain⟨us,li,a1,a2,_⟩:=iu H3 (hok _ (by simp));obtain⟨vs,km,b1,b2,_⟩:=iw H3 (hok _ (by simp));have hl:=a2.len;have gp:=b2.len;rw[J6]at hi;exact⟨us,vs,us[i]'(by omega),vs[i]'(by omega),a1,b1,X2 (by omega),X2 (by omega)⟩
   ·obtain⟨us,li,a1,a2,_⟩:=iu H3 (hok _ (by simp));obtain⟨vs,km,b1,b2,_⟩:=iw H3 (hok _ (by simp));have hl:=a2.len;have gp:=b2.len;exact⟨us,vs,a1,b1,by rw[J6];omega⟩
   ·obtain⟨us,li,a1,a2,a3⟩:=iu H3 (hok _ (by simp));obtain⟨vs,km,b1,b2,b3⟩:=iw H3 (hok _ (by simp));obtain⟨T,x',y',hT,rfl,rfl,g1,g2⟩:=m8;rw[jzf]at d6;cases he1:es[i]? with
    | none=>rw[he1]at d6;cases d6
    | some d1=>
     cases ia:fs[i]? with
     |none=>rw[he1,ia]at d6;cases d6
     |some d2=>
      rw[he1,ia]at d6;cases oq9 d6;obtain⟨v1,pj,f1,f2,f3⟩:=a2.get he1;obtain⟨v2,jm,j1,j2,j3⟩:=b2.get ia;have e5:v1=x':=by have:=g1 us a1;rw[f1]at this;exact oq9 this
      have e6:v2=y':=by have:=g2 vs b1;rw[j1]at this;exact oq9 this
      subst e5 e6;refine⟨⟨.no,_,.ref T,pj++jm⟩,rfl,rfl,rfl,wv hT,kkw hT f2 j2,λb hb=>?_⟩;rcases List.mem_append.mp hb with z|z
      ·exact⟨x.let,by simp,a3 b (f3 b z)⟩
      ·exact⟨y.let,by simp,b3 b (j3 b z)⟩
  |_=>rw[<-e2,<-e4,hx,hy]at hd;cases hd
 |_=>rw[<-e2,hx]at hd;cases hd
end
end Q
namespace Q
open PySem PySem.Spec PyProof.Rows L2 L3
section
variable {X:Cx}{Z:Fx0}{pn:List Nat}{ep:Expr}{i:Nat}{p:List Nat}{pos:Pos}
theorem kq8{E:En}{σ:L2.St}{L:Ls}{r:Nat}(hE:E[r]?=some none)(hL:L[r]?=some none)(u:Option V)(h:Mt E σ L):Mt E (σ.set r u) L:=by
 have:=vzg (u:=u) r h;rw[Jq hE,Jq hL]at this;exact this
theorem qzc{r1 r2 r3:Nat}{tg es:Expr}(hp:PassesOwn (model X.prog X.w) X.A X.env X.xe)(hcm:X.calm=true)(hP:PE X ep (tP Z.K i p))(hg:PG X tg (vxc Z.K 3 (gNs [r1,r2,r3])))(hS:PE X es (Jj r3))(hK:autoParam (X.K=Z.K) Ŕ)(hm:MtR X "list.clear" qke){av ag gc fpos:Pos}
  (h1:autoParam (r1≠i) ŕ) (h2:autoParam (r2≠i) ŕ) (h3:autoParam (r3≠i) ŕ) (hpn1:autoParam (r1∉pn) ŕ) (hpn2:autoParam (r2∉pn) ŕ) (hpn3:autoParam (r3∉pn) ŕ)
  (b6:autoParam (attributeBase es "clear" X.env (eval es X.env)=eval es X.env) Ŕ) (b8:autoParam ((av.endLine==ag.line)=true) Ŕ)
  (md:autoParam (swapsWith (.Call (.Attribute es "clear" av) [] [] ag) none gc.line X.env=pure false) Ŕ) (ie:autoParam (∀x,foldedSetIterable ep X.env x=pure x) Ŗ):
  QS X Z pn (WJ i r1 r2 r3 p) (.For tg ep [.Expr (.Call (.Attribute es "clear" av) [] [] ag) gc] [] fpos):=
 Jv (qx8 hp hcm (qzo hP) hg (qkl (Zj (qkr Z.K PySem.F.plainAttrs_list PySem.F.slot_list_clear PySem.F.type_list_clear hm hS b6 b8 hK) md)) ie) λDe σ H ak=>ex7 ak λE L rr m w bj k=>by
 unfold WJ at bj
 split at bj
 rotate_left
 ·cases bj
 rename_i d hE
 split at bj
 rotate_left
 ·cases bj
 rename_i ds gz
 split at bj
 rotate_left
 ·cases bj
 rename_i hrE;obtain⟨q1,q2,q3⟩:=hrE
 split at bj
 rotate_left
 ·cases bj
 rename_i de hea;cases oq9 bj;obtain⟨y,a1,a2,a3,a4⟩:=m.get hE;obtain⟨w0,s0⟩:=kkm w a1;have m0:=Qq r3 (Qq r2 (Qq r1 (Qq i m)));obtain⟨wa,sa⟩:=World.out1 r1 w0.tail;obtain⟨wb,sb⟩:=World.out1 r2 wa;obtain⟨wc,sc⟩:=World.out1 r3 wb;obtain⟨w0,s0'⟩:=vxb (T:=[some y]) w0 ((sa.trans sb).trans sc) wc;have s0:=s0.trans s0';have ml:=m.len;have none_at:∀{α:Type} {l:List (Option α)} {a b c n:Nat},n<l.length->(n=a\/n=b\/n=c)->(((l.set a none).set b none).set c none)[n]?=some none:=fun {α l a b c n} hn h=>by
  by_cases e3:c=n
  ·rw[e3,Y0 (by simpa using hn)]
  ·rw[Xr e3]
   by_cases e2:b=n
   ·rw[e2,Y0 (by simpa using hn)]
   ·rw[Xr e2];have:n=a:=by rcases h with h|h|h;exact h;exact absurd h.symm e2;exact absurd h.symm e3
    rw[this,Y0 (by rw[<-this];exact hn)]
 have e1:((((E.set i none).set r1 none).set r2 none).set r3 none)[r1]?=some none:=none_at (by simpa using q1) (.inl rfl);have e2:((((E.set i none).set r1 none).set r2 none).set r3 none)[r2]?=some none:=none_at (by simpa using q2) (.inr (.inl rfl));have e3:((((E.set i none).set r1 none).set r2 none).set r3 none)[r3]?=some none:=none_at (by simpa using q3) (.inr (.inr rfl));have f1:((((L.set i none).set r1 none).set r2 none).set r3 none)[r1]?=some none:=none_at (by simp;omega) (.inl rfl);have f2:((((L.set i none).set r1 none).set r2 none).set r3 none)[r2]?=some none:=none_at (by simp;omega) (.inr (.inl rfl));have f3:((((L.set i none).set r1 none).set r2 none).set r3 none)[r3]?=some none:=none_at (by simp;omega) (.inr (.inr rfl));generalize hL0:(((L.set i none).set r1 none).set r2 none).set r3 none=L0 at *;generalize hE0:(((E.set i none).set r1 none).set r2 none).set r3 none=E0 at *;obtain⟨y1,b1,b2,b3,b4,b5⟩:=World.hole w0 a2 (by rw[a3];exact gz);obtain⟨l,xs0,bs,c1,c2,_,_,c5⟩:=YQ (b4.ok y1 X3) b2 b1;refine⟨y.d,y.v,y1.v,a4,b3,l,c1,⟨xs0,.inl (.inl c2)⟩,?_⟩;refine⟨λk0 n σ1 H1=>∃(z:Sl) (bi:List Q.D),k0<=ds.length/\n=ds.length - k0/\Mt E0 σ1 L0/\World Z.K H1 (some z::L0)/\z.o=.dp/\z.d=.lst bi/\z.v=y1.v/\Step H (some y1::L0) H1 (some z::L0)/\QJ (ds.length - k0) k0 (.lst bi)=some de/\bi.length=ds.length/\σ1[i]?=some (some y.v)/\Pn pn σ σ1/\σ1.length=σ.length,
  ⟨_,y1,ds,Z1 _,rfl,m0,b4,b1,b2,rfl,Step.refl,hea,rfl,a4,Pn.refl,rfl⟩,?_⟩
 rintro k0 n σ1 H1 ⟨z,bi,hk,rfl,m1,w1,z1,z2,z3,st1,hea1,i7,jl,hpn,hσl⟩;obtain⟨l',xs,cf,d1,d2,_,_,d5⟩:=YQ (w1.ok z X3) z2 z1;have hll:l'=l:=by rw[z3,c1]at d1;exact(V.ref.inj d1).symm
 subst hll;have hxl:xs.length=ds.length:=by rw[<-d5.len,i7]
 by_cases cz:k0<ds.length
 ·refine .inr ⟨⟨xs,xs[k0]'(by omega),.inl (.inl d2),X2 _⟩,fun σ2 H2=>∃m',m'<ds.length - k0/\_,fun σ' H' h=>h,λx H' hy=>?_⟩;obtain⟨rfl,hyx⟩:=hy;have hx:xs[k0]?=some x:=hyx xs (.inl (.inl d2));obtain⟨n,hn⟩:∃n,ds.length - k0=n+1:=⟨ds.length - k0 - 1,by omega⟩;rw[hn]at hea1;unfold QJ at hea1
  split at hea1
  rotate_left
  ·cases hea1
  rename_i da db cq hat2;have hdk:bi[k0]?=some (.tup [da,db,.lst cq]):=by
   have:(match bi[k0]? with|some d=>Q.D.at [] d|none=>none)=some (.tup [da,db,.lst cq]):=hat2
   split at this
   ·rename_i d' mi;rw[mi];exact this
   ·cases this
  have hat3:Q.D.at [k0,2] (.lst bi)=some (.lst cq):=by
   show(match bi[k0]? with|some d=>Q.D.at [2] d|none=>none)=_;rw[hdk];rfl
  have bc:Q.D.put (.lst []) [k0,2] (.lst bi)=.lst (bi.set k0 (.tup [da,db,.lst []])):=by
   show(match bi[k0]? with|some d=>Q.D.lst (bi.set k0 (Q.D.put (.lst []) [2] d))|none=>_)=_;rw[hdk];rfl
  obtain⟨y2,g1,g2,g3,g4,g5⟩:=w1.hole z1 (by rw[z2];exact hat3);rw[z2]at g3;obtain⟨la,xs2,x2,dx,t1,t2,t3,⟨t4,_⟩,t5⟩:=g3;have u1:la=l':=by rw[d1]at t1;exact(V.ref.inj t1).symm
  subst u1;have u2:xs2=xs:=by rw[d2]at t2;cases t2;rfl
  subst u2;have u3:x2=x:=by rw[hx]at t3;exact(oq9 t3).symm
  subst u3;rw[hdk]at t4;cases oq9 t4;obtain⟨i4,us,u,du,v1,v2,v3,⟨_,v4⟩,v5⟩:=t5;have v4:us.length=3:=v4;have v5:y2.v=u:=v5;obtain⟨ua,ub,uc,rfl⟩:∃a b c,us=[a,b,c]:=by
   match us,v4 with
   |[a,b,c],_=>exact⟨a,b,c,rfl⟩
  have v3:uc=u:=oq9 v3;subst v3;obtain⟨l3,xs3,j1,j2,zn,n1,n2,n3,n4,n5⟩:=World.clr g4 g1 g2;obtain⟨z',o1,o2,o3,o4,o5⟩:=g5 _ _ zn n4 n5 n1 n3;have sg:((((σ1.set r1 (some ua)).set r2 (some ub)).set r3 (some uc)))[r3]?=some (some uc):=Y0 (by simp;omega);refine⟨i4,[ua,ub,uc],v1,.inl v2,rfl,?_⟩;refine⟨ua,_,rfl,ub,_,rfl,uc,_,rfl,rfl,?_⟩;refine⟨uc,sg,by rw[<-v5,j1];exact qwy j2,l3,xs3,by rw[<-v5];exact j1,rfl,j2,?_⟩;refine⟨ds.length - (k0+1),by omega,z',bi.set k0 (.tup [da,db,.lst []]),by omega,rfl,kq8 e3 f3 _ (kq8 e2 f2 _ (kq8 e1 f1 _ m1)),o4,o1,by rw[o2,n2,z2];exact bc,o3.trans z3,st1.trans o5,?_,by rw[Yp];exact i7,?_,((hpn.set hpn1).set hpn2).set hpn3,by simp;exact hσl⟩
  ·rw[show ds.length - (k0+1)=n by omega,<-bc];exact hea1
  ·rw[Xr h3,Xr h2,Xr h1];exact jl
 ·have hk2:k0=ds.length:=by omega
  refine .inl ⟨⟨xs,.inl (.inl d2),by omega⟩,?_⟩;rw[hk2,Nat.sub_self]at hea1;unfold QJ at hea1;cases oq9 hea1;obtain⟨y',g1,g2,g3,g4,g5⟩:=b5 _ _ z w1 st1 z1 z3;have mm:=V4 (i:=i) (x:=y') (s:=(.dp,Q.D.put (.lst bi) p d)) m1 g1 (by rw[g2,z2,a3]);rw[g3,Jq jl]at mm;exact k σ1 _ _ hpn mm g4.set (s0.trans (g5.trans Step.set))
end
end Q
namespace Q
def ddS(ss:List PySem.Str):List PySem.Str:=ss.foldl (λl k=>if l.any (· == k)then l else l++[k]) []
noncomputable def Q7:Sd->Option Sd:=λx=>match x.2 with
 |.lst ds=>(match x5 ds with
  |some ss=>if ss.length<64 then some (.rt,.lst ((qK (ddS ss)).map .str))else none
  |none=>none)
 |_=>none
noncomputable def W6(f:Fn)(cs:List Ex):Ex:=λE=>bnd (kJ cs E) λE xs=>match f (letAll xs)with
 |some (.ok _ y)=>if y.1=.dp then some (.ok E y)else none
 |some (.exc _ c)=>some (.exc E c)
 |none=>none
end Q
namespace Sw
open PySem PyProof.Rows
section
variable {prog:Program}{w:World}{A:Around}{E:Value->Shared->Prop}{s:Shared}
def tx(w:World):Bool:=w.params.followText "set-order"
structure Ok (prog:Program)(w:World)(o:Obj)(es:Array (Int×Value))(ep:Nat)(t:SetTable):Prop where
 ex:o.ExactSet
 d:o.data=.set es ep t
 el:ElemsOf (PySem.strKind prog w) es.toList
 b:es.size<scanBound
 f:t.fits es.size=true
 led:t.led=!tx w
 pl:t.plain=false\/es.size=0
def Wk(es:List (Int×Value)):List Str:=es.map λe=>strOf e.2
noncomputable def Has(prog:Program)(w:World)(h:Heap)(a:Addr)(ls:List Str):Prop:=∃o es ep t,h.get? a=some o/\Ok prog w o es ep t/\(Wk es.toList).Perm ls
theorem qxj{l:List (Int×Value)}(h:ElemsOf (PySem.strKind prog w) l){e:Int×Value}(he:e∈l):∃k t,e.2=.str k t:=by
 obtain⟨⟨k,hk,_⟩,_⟩:=h e he;obtain⟨t,ht⟩:=Value.isStrOf_shape hk;exact⟨k,t,ht⟩
theorem vw3{l:List (Int×Value)}(h:ElemsOf (PySem.strKind prog w) l)(k:Str):(∃e∈l,(PySem.strKind prog w).is k e.2=true)↔k∈Wk l:=by
 unfold Wk;rw[List.mem_map];constructor
 ·rintro ⟨e,he,hk⟩;obtain⟨t,ht⟩:=Value.isStrOf_shape hk;exact⟨e,he,by rw[ht];rfl⟩
 ·rintro ⟨e,he,hk⟩;obtain⟨k',t,ht⟩:=qxj h he;rw[ht]at hk;cases(show k'=k from hk);exact⟨e,he,by rw[ht];exact strKind_is _ _ _ _⟩
theorem vje(t:SetTable)(es:Array (Int×Value))(h:Int)(x:Value):(layNew t es h x).2.1.led=t.led/\((layNew t es h x).2.1.plain=true->t.plain=true):=by
 unfold layNew
 split
 ·rename_i slot wd _;show((t.put slot).1.orStandIn _).led=_/\(((t.put slot).1.orStandIn _).plain=true->_);unfold SetTable.orStandIn
  split
  ·exact⟨rfl,λh=>h⟩
  ·exact⟨rfl,λh=>nomatch h⟩
 ·exact⟨rfl,λh=>nomatch h⟩
theorem qk7(t:SetTable)(es:Array (Int×Value))(n:Nat):(relayAll t es n).2.1.led=t.led/\((relayAll t es n).2.1.plain=true->t.plain=true):=by
 unfold relayAll
 split
 ·rename_i t' order hr;dsimp only
  split
  ·unfold SetTable.relaid SetTable.laid at hr;rw[Option.bind_eq_bind,Option.bind_eq_some_iff]at hr;obtain⟨ow,_,e⟩:=hr;cases oq9 e;exact⟨rfl,λh=>h⟩
  ·exact⟨rfl,λh=>nomatch h⟩
 ·exact⟨rfl,λh=>nomatch h⟩
theorem vko{h:Heap}{a:Addr}{o:Obj}{es es':Array (Int×Value)}{ep:Nat}{t t':SetTable}(ho:h.get? a=some o)(hd:o.data=.set es ep t):(h.update a (Obj.putSet es' t')).get? a=some { o with data:=.set es' (ep+1) t' }:=by
 have:=Xx (Obj.putSet es' t') ho (by rw[putSet_of es' t' hd];rfl)
 rwa [putSet_of es' t' hd]at this
theorem tail{g:Bool->Sem Unit}(hg:∀(b:Bool) (s₁:Shared) (Q':Unit->Shared->Prop),Q' () s₁->wpAny (model prog w) A (g b) Q' E s₁)
  {a:Addr} {o:Obj} {es cq:Array (Int×Value)} {ep:Nat} {t t2:SetTable} {ls:List Str} {jb:Bool} {R:Option Bool->Shared->Prop} (ho:s.heap.get? a=some o) (hd:o.data=.set es ep t) (hex:o.ExactSet)
  (hel:ElemsOf (PySem.strKind prog w) cq.toList) (hb:cq.size<scanBound) (hf:t2.fits cq.size=true) (o9:t2.led=!tx w) (bo:t2.plain=false) (hp:(Wk cq.toList).Perm ls)
  (h:∀h',Heap.SameBut a s.heap h'->Has prog w h' a ls->R (some true) { s with heap:=h' }):
  wpAny (model prog w) A (do
    storeSet a cq t2
    if(!jb&&t2.tooFull)=true then do
      g (relayAll t2 cq (SetTable.grown cq.size)).2.2
      storeSet a (relayAll t2 cq (SetTable.grown cq.size)).1 (relayAll t2 cq (SetTable.grown cq.size)).2.1
      pure (some true)
     else pure (some true)) R E s:=by
 refine X0 (wpAny_storeSet_of ho hd ?_ (fits_of_scanBound hb));have ij:=vko (es':=cq) (t':=t2) ho hd;have jl:=Y4 s.heap a (Obj.putSet cq t2)
 split
 ·have r1:=relayAll_perm t2 cq (SetTable.grown cq.size);have r2:=relayAll_fits t2 cq (SetTable.grown cq.size);obtain⟨r3,r4⟩:=qk7 t2 cq (SetTable.grown cq.size);generalize relayAll t2 cq (SetTable.grown cq.size)=V at r1 r2 r3 r4 ⊢;obtain⟨es2,t3,gv⟩:=V;dsimp only at r1 r2 r3 r4 ⊢;have hz:es2.size=cq.size:=by rw[<-Xb,r1.length_eq,Xb]
  refine X0 (hg _ _ _ ?_);refine X0 (wpAny_storeSet_of ij rfl ?_ (fits_of_scanBound (by rw[hz];exact hb)));refine X4 (h _ (jl.trans (Y4 _ a _)) ⟨_,es2,_,t3,vko ij rfl,⟨hex,rfl,hel.perm r1,by rw[hz];exact hb,r2,r3.trans o9,.inl ?_⟩,(r1.map _).trans hp⟩);cases hq:t3.plain with
  |false=>rfl
  |true=>rw[r4 hq]at bo;cases bo
 ·exact X4 (h _ jl ⟨_,cq,_,t2,ij,⟨hex,rfl,hel,hb,hf,o9,.inl bo⟩,hp⟩)
theorem add{a:Addr}{k:Str}{tk:Tok}{ls:List Str}{Q:Bool->Shared->Prop}(hS:Has prog w s.heap a ls)(hl:ls.length+1<scanBound)
  (h:∀b h',Heap.SameBut a s.heap h'->Has prog w h' a (step_dedup ls k)->Q b { s with heap:=h' }):wpAny (model prog w) A (setAddHashed a (.str k tk) ((PySem.strKind prog w).hash k)) Q E s:=by
 obtain⟨o,es,ep,t,ho,hk,hp⟩:=hS;have hsz:es.size=ls.length:=by rw[<-hp.length_eq];unfold Wk;rw[X6,Xb]
 have jr:(PySem.strKind prog w).is k (.str k tk)=true:=strKind_is _ _ _ _;have hmk:(∃e∈es.toList,(PySem.strKind prog w).is k e.2=true)↔k∈ls:=(vw3 hk.el k).trans hp.mem_iff;unfold setAddHashed setAddHashedIn;refine Yi (X0 (Yx ho hk.d hk.f ?_));dsimp only;rw[byScan_of rfl hk.b hk.el];simp only[↓reduceIte];unfold setAddByScan;refine X0 ?_;refine X0 (Z2 ?_);refine X0 (wpAny_setScan_of jr ho hk.d hk.f hk.el ?_);cases hr:List.findIdx? (λe=>(PySem.strKind prog w).is k e.2) es.toList with
 | some j=>
  dsimp only;obtain⟨hj,hpj,_⟩:=List.findIdx?_eq_some_iff_getElem.mp hr;have hin:k∈ls:=hmk.mp ⟨_,Yb hj,hpj⟩;have bq:step_dedup ls k=ls:=by unfold step_dedup;rw[Xf (List.any_eq_true.mpr ⟨k,hin,by simp⟩)]
  refine X4 (X4 ?_);have:=h false s.heap (Heap.SameBut.refl a s.heap) (by rw[bq];exact⟨o,es,ep,t,ho,hk,hp⟩);exact this
 | none=>
  dsimp only;have hni:k∉ls:=λhin=>by
   obtain⟨e,he,hq⟩:=hmk.mpr hin;have:=List.findIdx?_eq_none_iff.mp hr e he;rw[hq]at this;cases this
  have bq:step_dedup ls k=ls++[k]:=by
   unfold step_dedup;rw[Xm];intro hh;obtain⟨y,hy,e⟩:=List.any_eq_true.mp hh;rw[eq_of_beq e]at hy;exact hni hy
  rw[bq]at h;have hgw:∀(b:Bool) {s₁:Shared} {Q':Unit->Shared->Prop},Q' () s₁->wpAny (model prog w) A (match b with|true=>PySem.rule "set.scan.the-table-gave-way" | false=>pure ()) Q' E s₁:=
   λb s₁ Q' hq=>by cases b<;>first|exact X4 hq|exact Z2 hq
  have l1:=layNew_perm t es ((PySem.strKind prog w).hash k) (.str k tk);have l2:=layNew_fits t es ((PySem.strKind prog w).hash k) (.str k tk);obtain⟨l3,l4⟩:=vje t es ((PySem.strKind prog w).hash k) (.str k tk);generalize layNew t es ((PySem.strKind prog w).hash k) (.str k tk)=V at l1 l2 l3 l4 ⊢;obtain⟨cq,t1,wd,gv⟩:=V;dsimp only at l1 l2 l3 l4 ⊢;rw[Array.toList_push]at l1;have nq:ElemsOf (PySem.strKind prog w) cq.toList:=(hk.el.push jr rfl).perm l1;have jt:cq.size=ls.length+1:=by rw[<-Xb,l1.length_eq,Y3,Xb,hsz];rfl
  have hp1:(Wk cq.toList).Perm (ls++[k]):=by
   refine(l1.map λe=>strOf e.2).trans ?_;rw[Ya];exact hp.append (List.Perm.refl _)
  refine X0 (hgw _ ?_)
  split
  ·refine X0 ?_;rw[hashByValue_scannable 8 rfl];refine X4 ?_;refine tail ?_ ho hk.d hk.ex nq (by rw[jt];exact hl) (SetTable.fits_plain_off l2) (l3.trans hk.led) rfl hp1 λh' a1 a2=>?_
   ·intro b s₁ Q' hq;cases b<;>first|exact X4 hq|exact Z2 hq
   ·exact X4 (h true h' a1 a2)
  ·rename_i bo;refine X0 (X4 ?_);refine tail ?_ ho hk.d hk.ex nq (by rw[jt];exact hl) l2 (l3.trans hk.led) (show t1.plain=false from Bool.eq_false_iff.mpr bo) hp1 λh' a1 a2=>?_
   ·intro b s₁ Q' hq;cases b<;>first|exact X4 hq|exact Z2 hq
   ·exact X4 (h true h' a1 a2)
def dd(ss:List Str):List Str:=ss.foldl step_dedup []
theorem vjq{ss:List Str}{i:Nat}{x:Str}(h:ss[i]?=some x):dd (ss.take (i+1))=step_dedup (dd (ss.take i)) x:=by
 obtain⟨hl,e⟩:=List.getElem?_eq_some_iff.mp h;unfold dd;rw[List.take_succ,h,List.foldl_append];rfl
theorem dd_le(ss:List Str):(dd ss).length<=ss.length:=foldl_step_dedup_nil_length_le ss
theorem qjv:∀{vs:List Value} {ss:List Str},StrsAre vs ss->∀(i:Nat) (v:Value),vs[i]?=some v->∃x t,v=.str x t/\ss[i]?=some x
 |_,_,.nil,i,v,h=>by cases i<;>cases h
 |_,_,.cons x t r,0,v,h=>by cases oq9 h;exact⟨x,t,rfl,rfl⟩
 |_,_,.cons x t r,i+1,v,h=>qjv r i v h
theorem kko:∀{vs:List Value} {ss:List Str},StrsAre vs ss->vs.length=ss.length
 |_,_,.nil=>rfl
 |_,_,.cons x t r=>congrArg (· + 1) (kko r)
theorem Has.same{h h':Heap}{a:Addr}{ls:List Str}(x:Has prog w h a ls)(e:∀o,h.get? a=some o->h'.get? a=some o):Has prog w h' a ls:=by
 obtain⟨o,es,ep,t,ho,r⟩:=x;exact⟨o,es,ep,t,e _ ho,r⟩
theorem loop{R:Result->Shared->Prop}{I:Addr}{fp wr:List Addr}{G:Array GenState->Array GenState->Prop}{n:Nat}{P:Nat->Value->Prop}{St:Nat->Shared->Prop}(W:WalksS prog w A.in1 I fp wr G n P St)(S:Addr)(oz:S∉fp)
  {ss:List Str} (hn:ss.length=n) (i9:∀i v,P i v->∃x t,v=.str x t/\ss[i]?=some x) (hb:n+1<scanBound):∀(k i:Nat) (s:Shared),n - i=k->i<=n->St i s->Has prog w s.heap S (dd (ss.take i)) ->
   (∀s',Moved (S::wr) G s s'->Has prog w s'.heap S (dd ss)->R (.ok (.ret .none)) s')->codeAny (model prog w) A (.builtin "set.update.loop" ⟨[.ref S,.ref I],[]⟩) R s:=by
 have hSw:S∉wr:=λh=>oz (W.sub _ h)
 have gh:∀b∈wr,b∈S::wr:=λb hb=>lc9 _ hb
 intro k
 induction k with
 | zero=>
  intro i s hk hi bq hS hR;cases(show i=n by omega);refine codeAny_builtin F.entry_set_update_loop ?_;rw[Around.under_plainId F.plain_set_update_loop _];show wpAny _ A.in1 (pyNext (.ref I) >>= _) _ _ s;refine X0 (W.done s _ _ bq λs' hm=>?_);refine X4 (hR s' (hm.mono gh) ?_);rw[<-hn,List.take_length]at hS;exact hS.same λo e=>hm.heap S _ hSw e
 | succ k ih=>
  intro i s hk hi bq hS hR;refine codeAny_builtin F.entry_set_update_loop ?_;rw[Around.under_plainId F.plain_set_update_loop _];show wpAny _ A.in1 (pyNext (.ref I) >>= _) _ _ s;refine X0 (W.item i s _ _ (by omega) bq λv s' hP i' hm=>?_);obtain⟨x,t,rfl,hx⟩:=i9 i v hP;have lf:Has prog w s'.heap S (dd (ss.take i)):=hS.same λo e=>hm.heap S _ hSw e
  show wpAny _ A.in1 (holding [Value.str x t] (setAdd S (.str x t)) >>= _) _ _ s';refine X0 (Yi ?_);unfold setAdd;refine Yi ?_;refine X0 ((PySem.strKind prog w).pyHash (k:=x) (strKind_is _ _ _ _) ?_);have em:(dd (ss.take i)).length+1<scanBound:=by have:=dd_le (ss.take i);rw[Yg]at this;omega
  refine add lf em λb h' a1 a2=>?_
  rw[<-vjq hx]at a2;refine X4 ⟨plainId_quiet F.plain_set_update_loop _,ih (i+1) _ (by omega) (by omega) (W.frame _ s' _ _ i' (Nat.le_succ _) λb hb o e=>?_) a2 λm5 hm'' hS''=>?_⟩
  ·rw[a1.2 b (λh:b=S=>oz (by rw[<-h];exact hb))];exact e
  ·refine hR m5 (Moved.trans W.gtrans ((hm.mono gh).then_heap (Nat.le_succ _) λb o hb e=>?_) hm'') hS'';rw[a1.2 b (λh:b=S=>hb (by rw[h];exact X3))];exact e
def fresh(w:World):Obj:={ cls:=.type "set",dict:=none,data:=.set #[] 0 (.fresh 0 0 (!tx w)) }
theorem qqo{h:Heap}{a:Addr}(e:h.get? a=some (fresh w)):Has prog w h a []:=
 ⟨_,#[],0,.fresh 0 0 (!tx w),e,⟨⟨rfl,rfl,rfl⟩,rfl,(λe he=>nomatch he),by decide,by rfl,rfl,.inr rfl⟩,.refl _⟩
theorem made(a:Value){Q₁:Value->Shared->Prop}(h:Q₁ (.ref s.heap.objs.size) { s with heap:=s.heap.push (fresh w) }):
  codeAny (model prog w) A (.call (.builtin "set.__new__") ⟨[.type "set",a],[]⟩) (wants Q₁ E) s:=by
 refine codeAny_of_tree ?_;show wpAny _ A.in1 (do checkBuiltinCall "set.__new__" ⟨[.type "set",a],[]⟩;again (.builtin "set.__new__" ⟨[.type "set",a],[]⟩)) _ _ s;refine X0 (wpAny_of_eq (F.newCall_set_1 a) (X4 ⟨plainId_quiet F.plain_set_new _,codeAny_builtin F.entry_set_new ?_⟩));rw[Around.under_plainId F.plain_set_new _];unfold Builtin.«set.__new__» Builtin.Frozenset.newClass;have gh:=sub_set_self;obtain⟨hp,g,d,tk,os⟩:=s;dsimp only
 wp_walk
 refine Z0 (X4 ?_);dsimp only;simp only[newObj];refine X0 (wpAny_alloc (X4 ?_));exact X4 h
set_option maxHeartbeats 8000000 in
theorem qwq{l:Addr}{items:Array Value}{ss:List Str}{Q:Value->Shared->Prop}(hh:A.handled=none)(hl:s.heap.IsList l items)(hi:StrsAre items.toList ss)(hb:items.size+1<scanBound)
  (h:∀(h':Heap) (tk:Nat),Has prog w h' s.heap.objs.size (dd ss)->(∀b o,b<s.heap.objs.size->s.heap.get? b=some o->h'.get? b=some o)->Q (.ref s.heap.objs.size) { s with heap:=h',toks:=tk }):
  wpAny (model prog w) A (call (.type "set") [.ref l]) Q E s:=by
 obtain⟨c,tl,hmro⟩:=F.called_set.mro;have hmade:=F.called_set.made;have gh:=F.called_set.sub;refine wpAny_call (codeAny_of_tree ?_);show wpAny _ _ (callAny (.type "set") _) _ _ _;refine X4 ⟨Code.quiet_builtin _ (by decide +kernel),codeAny_builtin F.entry_type_call ?_⟩;rw [Around.under_plain (weight_type_call_type "set" [.ref l] []) rfl];have h1:=F.called_set.notType;have h2:=F.called_set.canCreate;have hct:=F.typeCall_set_1 (.ref l)
 repeat (any_goals (first|assumption|wp_step))
 refine codeAny_mono (made (.ref l) (E:=E) (Q₁:=λobj s₁=>obj=.ref s.heap.objs.size/\s₁={ s with heap:=s.heap.push (fresh w) }) ⟨rfl,rfl⟩) λr s₁ hr=>?_
 cases r with
 | error e=>exact hr
 | ok fl=>
 cases fl with
 | ret obj=>
  obtain⟨rfl,rfl⟩:=hr;have hS:(s.heap.push (fresh w)).get? s.heap.objs.size=some (fresh w):=X8 _ rfl;have hT:Shared.TypeIs { s with heap:=s.heap.push (fresh w) } (.ref s.heap.objs.size) "set":=⟨_,hS,rfl⟩;have hli:=F.called_set.init.lookup;have hbi:=F.called_set.init.bind (.ref s.heap.objs.size)
  repeat (any_goals (first|assumption|wp_step))
  refine codeAny_mono (codeAny_call_builtin (R:=wants (λr s₂=>r=.none/\∃h' tk,s₂={ s with heap:=h',toks:=tk }/\Has prog w h' s.heap.objs.size (dd ss) /\
    (∀b o,b<s.heap.objs.size->s.heap.get? b=some o->h'.get? b=some o)) E) F.called_set.init.plain F.entry_set_init (check_set_init_1 hT ?_)) λr₂ s₂ hr₂=>?_
  ·obtain⟨ol,hol,fv,nl,hdl⟩:=hl;obtain⟨ocls,np,odata,mn⟩:=ol;simp only at fv hdl;subst fv;subst hdl;have hol':(s.heap.push (fresh w)).get? l=some { cls:=.type "list",dict:=np,data:=.seq items nl,slots:=mn }:=X1 _ hol;have hsls:=F.sub_list_set;have hslf:=F.sub_list_frozenset;have dw:(Value.type "list" == Value.type "dict")=false:=by decide
   have i7:(s.heap.push (fresh w)).IsList l items:=⟨_,hol',rfl,nl,rfl⟩;have hlS:l<s.heap.objs.size:=Xa hol;have n6:({ cls:=.type "set",dict:=none,data:=.set #[] 0 (.fresh 0 0 (!tx w)) }:Obj)=fresh w:=rfl;unfold Builtin.«set.__init__» noKeywords Builtin.Frozenset.updateFrom;generalize hPI:pyIter=PI
   wp_walk
   subst hPI;refine Yu i7 ?_;refine X0 (wpAny_runValue ?_);have hh3:A.in1.in1.in1.handled=none:=by simp[hh]
   have hsz:(s.heap.push (fresh w)).objs.size=s.heap.objs.size+1:=Yk ..;refine loop ((Walks.list hh3 _ l (by rw[hsz];exact Xl (Yw hlS)) items).toS) s.heap.objs.size (by rw[hsz];simp only[Xh,Xe,or_false,not_or];exact⟨Xl (Nat.lt_succ_self _),Nat.ne_of_gt hlS⟩) (ss:=ss) ?_ (λi v hv=>qjv hi i v (by rw[Array.getElem?_toList];exact hv)) hb (items.size - 0) 0 _ (by omega) (Z1 _)
    ⟨⟨_,X8 _ rfl,rfl,rfl⟩,i7.push _⟩ ?_ ?_
   ·rw[<-kko hi,Xb]
   ·exact qqo (X1 _ hS)
   ·intro s' hm lf;obtain⟨h',g',d',tk',os'⟩:=s';have eg:g'=s.gens:=hm.gens;have ed:d'=s.drawn:=hm.drawn;have eo:os'=s.os:=hm.os;subst eg;subst ed;subst eo;show wpAny _ _ _ _ _ _;refine X4 ?_;show wpAny _ _ (ret Value.none) _ _ _;refine X4 ⟨rfl,h',tk',rfl,lf,λb o hb e=>?_⟩;exact hm.heap b o (by simp only[Xh,Xe,or_false,not_or];rw[hsz];exact⟨Xl hb,Xl (Yw hb)⟩) (X1 _ (X1 _ e))
  ·cases r₂ with
   | error e=>exact hr₂
   | ok fl₂=>
    cases fl₂ with
    |ret r=>
     obtain⟨rfl,h',tk,rfl,lf,hk'⟩:=hr₂
     repeat (any_goals (first|assumption|wp_step))
     exact h _ _ lf hk'
    |_=>exact hr₂.elim
 |_=>exact hr.elim
end
theorem slot_next:Slot "set_iterator" "__next__" "set_iterator.__next__" :=
 .of (owner:="set_iterator") (n:="__next__") (by rw[typeLookup_type,builtinLookup_eq_fast];kernel_rfl) (by decide +kernel) (by decide +kernel) (by decide +kernel)
  (by first|exact .inl (by decide +kernel)|exact .inr (by decide +kernel)) (by rw[isSubtype_type];kernel_rfl)
theorem kqw:Slot "set_iterator" "__iter__" "set_iterator.__iter__" :=
 .of (owner:="set_iterator") (n:="__iter__") (by rw[typeLookup_type,builtinLookup_eq_fast];kernel_rfl) (by decide +kernel) (by decide +kernel) (by decide +kernel)
  (by first|exact .inl (by decide +kernel)|exact .inr (by decide +kernel)) (by rw[isSubtype_type];kernel_rfl)
theorem jwh:entryFor table "set_iterator.__next__"=some Builtin.«set_iterator.__next__»:=entryFor_of_tree (by kernel_rfl)
theorem qjb:entryFor table "set_iterator.__iter__"=some Builtin.«dict_keyiterator.__iter__»:=entryFor_alias (id':="dict_keyiterator.__iter__") (by kernel_rfl) rfl (by decide +kernel) (by kernel_rfl)
theorem qjc:entryFor table "set.__iter__"=some Builtin.«frozenset.__iter__»:=entryFor_alias (id':="frozenset.__iter__") (by kernel_rfl) rfl (by decide +kernel) (by kernel_rfl)
theorem jxc(a:Value):argsOk "set_iterator.__next__" ⟨[a],[]⟩:=by unfold argsOk;kernel_rfl
theorem qva(a:Value):argsOk "set_iterator.__iter__" ⟨[a],[]⟩:=by unfold argsOk;kernel_rfl
theorem qvb(a:Value):argsOk "set.__iter__" ⟨[a],[]⟩:=by unfold argsOk;kernel_rfl
section
variable {prog:Program}{w:World}{A:Around}{E:Value->Shared->Prop}{s:Shared}
theorem vwg{src:Source}{n:Nat}{Q:Nat->Shared->Prop}(hn:n≠0)(h:∀i d,i<n->Q i { s with drawn:=d }):wpAny (model prog w) A (choose src n) Q E s:=
 λ_ _ _=>⟨hn,h _ _ (Nat.mod_lt _ (Nat.pos_of_ne_zero hn))⟩
theorem jxu{α:Type}:∀{l:List α} {i:Nat} (h:i<l.length),(l[i]::l.eraseIdx i).Perm l
 |a::l,0,h=>List.Perm.refl _
 |a::l,i+1,h=>by
  have hi:i<l.length:=Nat.lt_of_succ_lt_succ h;exact(List.Perm.swap a (l[i]'hi) _).trans ((jxu hi).cons a)
theorem drawn{α:Type}:∀(n:Nat) (xs:List α) (s:Shared) {Q:List α->Shared->Prop},xs.length=n->(∀ys d,ys.Perm xs->Q ys { s with drawn:=d })->wpAny (model prog w) A (drawOrder n xs) Q E s
 | 0,xs,s,Q,hl,h=>by
  cases xs with
  |nil=>exact X4 (h [] s.drawn (.refl _))
  |cons=>cases hl
 | n+1,xs,s,Q,hl,h=>by
  cases xs with
  |nil=>cases hl
  |cons x xs=>
   unfold drawOrder;refine X0 (vwg (by simp) λi d hi=>?_);rw[X2 hi];refine X0 (drawn n _ _ (by rw[List.length_eraseIdx,Xf hi];exact Nat.succ.inj hl) λys d' hp=>?_);exact X4 (h _ d' ((hp.cons _).trans (jxu hi)))
theorem qko{α:Type}(f:Nat->Nat):∀(n k:Nat) (l:List α) (out:Array α),l.length=n->(pickOrder.go f n k l out).toList.Perm (out.toList++l)
 |0,k,l,out,hl=>by
  cases l with
  |nil=>unfold pickOrder.go;simp
  |cons=>cases hl
 |n+1,k,l,out,hl=>by
  have hi:f k % l.length<l.length:=Nat.mod_lt _ (by omega);unfold pickOrder.go;rw[X2 hi];refine(qko f n (k+1) _ _ (by rw[List.length_eraseIdx,Xf hi];omega)).trans ?_;rw[Array.toList_push,Xs];exact(List.Perm.refl _).append (jxu hi)
theorem kve{α:Type}(f:Nat->Nat)(xs:Array α):(pickOrder f xs).toList.Perm xs.toList:=by
 unfold pickOrder;exact qko f _ 0 _ #[] (by simp)
end
section
variable {prog:Program}{w:World}{A:Around}{E:Value->Shared->Prop}{s:Shared}
noncomputable def It(h:Heap)(I a:Addr)(f:Value)(i n ep:Nat):Prop:=∃o,h.get? I=some o/\o.cls=.type "set_iterator"/\o.data=.fields #[f,.int i 0,.ref a,.int n 0,.int ep 0]
theorem It.at'{h h':Heap}{I a:Addr}{f:Value}{i n ep:Nat}(x:It h I a f i n ep)(e:∀o,h.get? I=some o->h'.get? I=some o):It h' I a f i n ep:=by
 obtain⟨o,ho,r⟩:=x;exact⟨o,e _ ho,r⟩
noncomputable def Stn(h:Heap)(a:Addr)(n ep:Nat):Prop:=∃o es t,h.get? a=some o/\o.data=.set es ep t/\t.fits es.size=true/\es.size=n
theorem qk2{I a:Addr}{f:Value}{i n ep:Nat}{Q:Value->Shared->Prop}(f8:It s.heap I a f i n ep)(h:Q (.ref I) s):wpAny (model prog w) A (pyIter (.ref I)) Q E s:=by
 obtain⟨o,ho,hc,hd⟩:=f8;have hT:s.TypeIs (.ref I) "set_iterator":=⟨o,ho,hc⟩;refine wpAny_pyIter_slot hT kqw (Xv kqw hT qjb ?_ (qva _));show wpAny _ _ (ret (.ref I)) _ _ s;exact X4 ⟨_,rfl,"set_iterator",_,hT,slot_next.lookup,h⟩
theorem vw1{I a:Addr}{sl nx i n ep:Nat}{v:Value}{Q:Option Value->Shared->Prop}(f8:It s.heap I a (.int sl 0) i n ep)(hs:Stn s.heap a n ep)
  (hN:∀(A':Around) (E':Value->Shared->Prop) (R:Option (Value×Nat)->Shared->Prop),R (some (v,nx)) s->wpAny (model prog w) A' (setNext a sl i ep) R E' s)
  (hQ:∀h',It h' I a (.int nx 0) (i+1) n ep->Heap.SameBut I s.heap h'->Q (some v) { s with heap:=h' }):wpAny (model prog w) A (pyNext (.ref I)) Q E s:=by
 obtain⟨o,ho,hc,hd⟩:=f8;obtain⟨os,es,t,i8,df,hf,hn⟩:=hs;have hT:s.TypeIs (.ref I) "set_iterator":=⟨o,ho,hc⟩;unfold pyNext;refine X0 (wpAny_attempt (Xz (name:=Str.ofString "__next__") hT slot_next (Xv slot_next hT jwh ?_ (jxc _))));show wpAny _ _ (fieldsOf (.ref I) >>= _) _ _ s;refine X0 (wpAny_fieldsOf ho hd ?_);show wpAny _ _ (setEntries a >>= _) _ _ s;refine X0 (wpAny_setEntries_of i8 df hf ?_);rw[Xm (by rw[hn];simp)];show wpAny _ _ (setNext a ((sl:Int)).toNat ((i:Int)).toNat ((ep:Int)).toNat >>= _) _ _ s;rw[Xw,Xw,Xw];refine X0 (hN _ _ _ ?_);refine X0 (Ye ho hd (by simp) ?_);have mt:=Ys hd (·.setIfInBounds 0 (rawInt nx));have ij:=Xx (Obj.mapFields (·.setIfInBounds 0 (rawInt nx))) ho (Yt mt);refine X0 (Ye ij mt (by simp) (X4 ⟨v,rfl,X4 (hQ _ ?_ ((Y4 ..).trans (Y4 ..)))⟩));have f9:=Ys mt (·.setIfInBounds 1 (rawInt (i+1)));refine⟨_,Xx _ ij (Yt f9),(Obj.cls_mapFields ..).trans ((Obj.cls_mapFields ..).trans hc),?_⟩;rw[f9];simp[rawInt]
theorem vw0{I a T:Addr}{i n ep:Nat}{v:Value}{pl:List Nat}{p:Nat}{Q:Option Value->Shared->Prop}(f8:It s.heap I a (.ref T) i n ep)(hs:Stn s.heap a n ep)(hT':∃o k,s.heap.get? T=some o/\o.data=.seq (pl.map λ(j:Nat)=>rawInt j).toArray k)
  (hp:pl[i]?=some p)
  (hN:∀(A':Around) (E':Value->Shared->Prop) (R:Value->Shared->Prop),R v s->wpAny (model prog w) A' (setNextDrawn a p ep) R E' s)
  (hQ:∀h',It h' I a (.ref T) (i+1) n ep->Heap.SameBut I s.heap h'->Q (some v) { s with heap:=h' }):wpAny (model prog w) A (pyNext (.ref I)) Q E s:=by
 obtain⟨o,ho,hc,hd⟩:=f8;obtain⟨os,es,t,i8,df,hf,hn⟩:=hs;obtain⟨oT,kT,hoT,my⟩:=hT';have hT:s.TypeIs (.ref I) "set_iterator":=⟨o,ho,hc⟩;unfold pyNext;refine X0 (wpAny_attempt (Xz (name:=Str.ofString "__next__") hT slot_next (Xv slot_next hT jwh ?_ (jxc _))));show wpAny _ _ (fieldsOf (.ref I) >>= _) _ _ s;refine X0 (wpAny_fieldsOf ho hd ?_);show wpAny _ _ (setEntries a >>= _) _ _ s;refine X0 (wpAny_setEntries_of i8 df hf ?_);rw[Xm (by rw[hn];simp)];show wpAny _ _ (seqItems? (.ref T) >>= _) _ _ s;refine X0 (Yo hoT my ?_);have hg:(pl.map λ(j:Nat)=>rawInt j).toArray[((i:Int)).toNat]?=some (.int p 0):=by
  rw[Xw,List.getElem?_toArray,Xk,hp];rfl
 dsimp only;rw[hg];show wpAny _ _ (setNextDrawn a ((p:Int)).toNat ((ep:Int)).toNat >>= _) _ _ s;rw[Xw,Xw];refine X0 (hN _ _ _ ?_);have f9:=Ys hd (·.setIfInBounds 1 (rawInt (i+1)));refine X0 (Ye ho hd (by simp) (X4 ⟨v,rfl,X4 (hQ _ ?_ (Y4 ..))⟩));refine⟨_,Xx _ ho (Yt f9),(Obj.cls_mapFields ..).trans hc,?_⟩;rw[f9];simp[rawInt]
theorem vzt{I a:Addr}{sl i n ep:Nat}{Q:Option Value->Shared->Prop}(hh:A.handled=none)(f8:It s.heap I a (.int sl 0) i n ep)(hs:Stn s.heap a n ep)
  (hN:∀(A':Around) (E':Value->Shared->Prop) (R:Option (Value×Nat)->Shared->Prop),R none s->wpAny (model prog w) A' (setNext a sl i ep) R E' s)
  (hQ:∀h',Heap.ExtBut I s.heap h'->Q none { s with heap:=h' }):wpAny (model prog w) A (pyNext (.ref I)) Q E s:=by
 obtain⟨o,ho,hc,hd⟩:=f8;obtain⟨os,es,t,i8,df,hf,hn⟩:=hs;have hT:s.TypeIs (.ref I) "set_iterator":=⟨o,ho,hc⟩;unfold pyNext;refine X0 (wpAny_attempt (Xz (name:=Str.ofString "__next__") hT slot_next (Xv slot_next hT jwh ?_ (jxc _))));show wpAny _ _ (fieldsOf (.ref I) >>= _) _ _ s;refine X0 (wpAny_fieldsOf ho hd ?_);show wpAny _ _ (setEntries a >>= _) _ _ s;refine X0 (wpAny_setEntries_of i8 df hf ?_);rw[Xm (by rw[hn];simp)];show wpAny _ _ (setNext a ((sl:Int)).toNat ((i:Int)).toNat ((ep:Int)).toNat >>= _) _ _ s;rw[Xw,Xw,Xw];refine X0 (hN _ _ _ ?_);refine X0 (Ye ho hd (by simp) ?_);show wpAny _ _ (newExc (.type "StopIteration") [] >>= _) _ _ _;refine X0 ?_;simp only[newExc,newTuple];refine X0 (Xq ?_ (by size_fits));refine X0 (m:=firstArgMember _ _) (wpAny_of_eq (a:=Value.none) (by first|rfl|(simp only[firstArgMember];rfl)) ?_);refine Xq ?_ (by size_fits);simp only[raiseNew];refine X0 (wpAny_handled ?_);rw[show A.in1.handled=none from hh];refine X0 (X4 (wpAny_throw ?_));refine X0 (wpAny_isInstance (T:="StopIteration") (b:=true) ⟨_,X8 _ rfl,rfl⟩ isSubtype_stop ?_);exact X4 (hQ _ (((Y4 ..).extBut.push _).push _))
theorem vzs{I a T:Addr}{i n ep:Nat}{pl:List Nat}{Q:Option Value->Shared->Prop}(hh:A.handled=none)(f8:It s.heap I a (.ref T) i n ep)(hs:Stn s.heap a n ep)(hT':∃o k,s.heap.get? T=some o/\o.data=.seq (pl.map λ(j:Nat)=>rawInt j).toArray k)
  (hp:pl[i]?=none) (hQ:∀h',Heap.ExtBut I s.heap h'->Q none { s with heap:=h' }):wpAny (model prog w) A (pyNext (.ref I)) Q E s:=by
 obtain⟨o,ho,hc,hd⟩:=f8;obtain⟨os,es,t,i8,df,hf,hn⟩:=hs;obtain⟨oT,kT,hoT,my⟩:=hT';have hT:s.TypeIs (.ref I) "set_iterator":=⟨o,ho,hc⟩;unfold pyNext;refine X0 (wpAny_attempt (Xz (name:=Str.ofString "__next__") hT slot_next (Xv slot_next hT jwh ?_ (jxc _))));show wpAny _ _ (fieldsOf (.ref I) >>= _) _ _ s;refine X0 (wpAny_fieldsOf ho hd ?_);show wpAny _ _ (setEntries a >>= _) _ _ s;refine X0 (wpAny_setEntries_of i8 df hf ?_);rw[Xm (by rw[hn];simp)];show wpAny _ _ (seqItems? (.ref T) >>= _) _ _ s;refine X0 (Yo hoT my ?_);have hg:(pl.map λ(j:Nat)=>rawInt j).toArray[((i:Int)).toNat]?=none:=by
  rw[Xw,List.getElem?_toArray,Xk,hp];rfl
 dsimp only;rw[hg];have mt:=Ys hd (·.setIfInBounds 0 (rawInt 0));have ij:=Xx (Obj.mapFields (·.setIfInBounds 0 (rawInt 0))) ho (Yt mt);refine X0 (Ye ho hd (by simp) ?_);refine X0 (Ye ij mt (by simp) ?_);show wpAny _ _ (newExc (.type "StopIteration") [] >>= _) _ _ _;refine X0 ?_;simp only[newExc,newTuple];refine X0 (Xq ?_ (by size_fits));refine X0 (m:=firstArgMember _ _) (wpAny_of_eq (a:=Value.none) (by first|rfl|(simp only[firstArgMember];rfl)) ?_);refine Xq ?_ (by size_fits);simp only[raiseNew];refine X0 (wpAny_handled ?_);rw[show A.in1.handled=none from hh];refine X0 (X4 (wpAny_throw ?_));refine X0 (wpAny_isInstance (T:="StopIteration") (b:=true) ⟨_,X8 _ rfl,rfl⟩ isSubtype_stop ?_);exact X4 (hQ _ ((((Y4 ..).trans (Y4 ..)).extBut.push _).push _))
end
section
variable {prog:Program}{w:World}{A:Around}{E:Value->Shared->Prop}{s:Shared}
theorem qjm(hh:A.handled=none)(I a:Addr)(dw:a≠I){o:Obj}{es:Array (Int×Value)}{ep:Nat}{t:SetTable}(hd:o.data=.set es ep t)(hf:t.fits es.size=true){bz:List Value}(hl:bz.length=es.size)(sl:Nat->Nat)
  (hN:∀(i:Nat) (s:Shared) (A':Around) (E':Value->Shared->Prop) (R:Option (Value×Nat)->Shared->Prop),s.heap.get? a=some o->i<=es.size->R (bz[i]?.map λv=>(v,sl (i+1))) s->wpAny (model prog w) A' (setNext a (sl i) i ep) R E' s):
  Walks prog w A I [I,a] [I] es.size (λi v=>bz[i]?=some v) (λi h=>It h I a (.int (sl i) 0) i es.size ep/\h.get? a=some o) where
 sub:=λb hb=>by simp at hb;simp[hb]
 frame:=λ_ _ _ st hk=>⟨st.1.at' λo e=>hk I (by simp) o e,hk a (by simp) _ st.2⟩
 item:=λi s Q E hi st hQ=>by
  have hv:bz[i]?=some (bz[i]'(by omega)):=X2 _;refine vw1 (nx:=sl (i+1)) (v:=bz[i]'(by omega)) st.1 ⟨o,es,t,st.2,hd,hf,rfl⟩ (λA' E' R hR=>hN i s A' E' R st.2 (Nat.le_of_lt hi) (by rw[hv];exact hR)) λh' ma lm=>?_
  exact hQ _ h' s.toks hv ⟨ma,(lm.extBut a o dw st.2)⟩ λb o hb e=>lm.extBut b o (λh=>hb (by simp[h])) e
 done:=λs Q E st hQ=>by
  refine vzt hh st.1 ⟨o,es,t,st.2,hd,hf,rfl⟩ (λA' E' R hR=>hN es.size s A' E' R st.2 (Xd _) (by rw[Ym (by omega)];exact hR)) λh' he=>?_
  exact hQ h' s.toks λb o hb e=>he b o (λh=>hb (by simp[h])) e
 self:=λ_ _ _ _ st hQ=>qk2 st.1 hQ
theorem qxv(hh:A.handled=none)(I a T:Addr)(dw:a≠I)(hneT:T≠I){o oT:Obj}{es:Array (Int×Value)}{ep k:Nat}{t:SetTable}(hd:o.data=.set es ep t)(hf:t.fits es.size=true){pl:List Nat}(hp:pl.Perm (List.range es.size))(my:oT.data=.seq (pl.map λ(j:Nat)=>rawInt j).toArray k):
  Walks prog w A I [I,a,T] [I] es.size (λi v=>(pl.map λj=>(es.getD j (0,.none)).2)[i]?=some v) (λi h=>It h I a (.ref T) i es.size ep/\h.get? a=some o/\h.get? T=some oT) where
 sub:=λb hb=>by simp at hb;simp[hb]
 frame:=λ_ _ _ st hk=>⟨st.1.at' λo e=>hk I (by simp) o e,hk a (by simp) _ st.2.1,hk T (by simp) _ st.2.2⟩
 item:=λi s Q E hi st hQ=>by
  have ac:pl.length=es.size:=by rw[hp.length_eq,Y7]
  have hv:pl[i]?=some (pl[i]'(by omega)):=X2 _;have cz:pl[i]'(by omega)<es.size:=List.mem_range.mp (hp.mem_iff.mp (Yb _));refine vw0 (p:=pl[i]'(by omega)) (v:=(es.getD (pl[i]'(by omega)) (0,.none)).2) st.1 ⟨o,es,t,st.2.1,hd,hf,rfl⟩ ⟨oT,k,st.2.2,my⟩ hv (λA' E' R hR=>?_) λh' ma lm=>?_
  ·unfold setNextDrawn;refine X0 (Yx st.2.1 hd hf ?_);dsimp only;rw[Xm (by simp),Array.getElem?_eq_getElem cz];refine X4 ?_;rw[Array.getD_eq_getD_getElem?,Array.getElem?_eq_getElem cz]at hR;exact hR
  ·exact hQ _ h' s.toks (by rw[Xk,hv];rfl) ⟨ma,(lm.extBut a o dw st.2.1),(lm.extBut T oT hneT st.2.2)⟩ λb o hb e=>lm.extBut b o (λh=>hb (by simp[h])) e
 done:=λs Q E st hQ=>by
  have ac:pl.length=es.size:=by rw[hp.length_eq,Y7]
  refine vzs hh st.1 ⟨o,es,t,st.2.1,hd,hf,rfl⟩ ⟨oT,k,st.2.2,my⟩ (Ym (by omega)) λh' he=>?_
  exact hQ h' s.toks λb o hb e=>he b o (λh=>hb (by simp[h])) e
 self:=λ_ _ _ _ st hQ=>qk2 st.1 hQ
theorem qkz(jy:tx w=true){a:Addr}{o:Obj}{es:Array (Int×Value)}{ep:Nat}{t:SetTable}(hd:o.data=.set es ep t)(hf:t.fits es.size=true):
  ∀(i:Nat) (s:Shared) (A':Around) (E':Value->Shared->Prop) (R:Option (Value×Nat)->Shared->Prop),s.heap.get? a=some o->i<=es.size->R (((pickOrder (w.params.setOrder a ep) es).toList.map (·.2))[i]?.map λv=>(v,0)) s->wpAny (model prog w) A' (setNext a 0 i ep) R E' s:=by
 intro i s A' E' R ho hi hR;unfold setNext;refine X0 (Yx ho hd hf ?_);unfold setsByText;refine X0 (X0 (Z0 (X4 ?_)));show wpAny _ _ (if tx w=true then _ else _) _ _ _;rw[Xf jy];rw[Xm (by simp)];unfold setWalk;refine X0 (X0 (Yx ho hd hf ?_));unfold setsByText;refine X0 (X0 (Z0 (X4 ?_)));show wpAny _ _ (if tx w=true then _ else _) _ _ _;rw[Xf jy];refine X0 (Z0 (X4 ?_));refine X4 ?_;rw[Xk,Array.getElem?_toList,Option.map_map]at hR;exact hR
end
section
variable {prog:Program}{w:World}{A:Around}{E:Value->Shared->Prop}{s:Shared}
theorem qqq{t:SetTable}{n:Nat}(h:t.fits n=true):t.place.size=n:=by
 simp only[SetTable.fits,Bool.and_eq_true,beq_iff_eq]at h;exact h.1
def sl1(t:SetTable)(i:Nat):Nat:=if i=0 then 0 else t.place.getD 0 0+1
theorem qw3(jy:tx w=false){a:Addr}{o:Obj}{es:Array (Int×Value)}{ep:Nat}{t:SetTable}(hk:Ok prog w o es ep t)(h1:es.size<=1):
  ∀ (i:Nat) (s:Shared) (A':Around) (E':Value->Shared->Prop) (R:Option (Value×Nat)->Shared->Prop),s.heap.get? a=some o->i<=es.size->R ((es.toList.map (·.2))[i]?.map λv=>(v,sl1 t (i+1))) s->wpAny (model prog w) A' (setNext a (sl1 t i) i ep) R E' s:=by
 intro i s A' E' R ho hi hR;have hsz:=qqq hk.f;unfold setNext;refine X0 (Yx ho hk.d hk.f ?_);unfold setsByText;refine X0 (X0 (Z0 (X4 ?_)));show wpAny _ _ (if tx w=true then _ else _) _ _ _;rw [Xm (by rw[jy];decide)];show wpAny _ _ (if(!t.plain&&decide (es.size>1))=true then _ else _) _ _ _;rw [Xm (by rw[Yf (by omega)];simp)];show wpAny _ _ ((if(!t.led && !es.isEmpty)=true then _ else pure ()) >>= _) _ _ _;rw [Xm (by rw[hk.led,jy];simp)];refine X0 (X4 ?_);refine X4 ?_;obtain⟨es⟩:=es;obtain⟨mask,⟨pl⟩,du,fi,le,mo,pln⟩:=t;cases es with
 | nil=>
  cases pl with
  | nil=>
   have hi0:i=0:=by simpa using hi
   subst hi0;exact hR
  | cons=>cases hsz
 | cons e es=>
  cases es with
  | cons=>exact absurd h1 (by simp)
  | nil=>
   cases pl with
   | nil=>cases hsz
   | cons p pl=>
    cases pl with
    | cons=>cases hsz
    | nil=>
     have hb0:SetTable.below #[p] 0=0:=by
      show SetTable.below.go #[p] 0 1 0 1=0;unfold SetTable.below.go;rw[Xf (by decide),Xm (by simp)];rfl
     have hb1:SetTable.below #[p] (p+1)=1:=by
      show SetTable.below.go #[p] (p+1) 1 0 1=1;unfold SetTable.below.go;rw[Xf (by decide),Xf (by simp)];rfl
     rcases(show i=0\/i=1 by have:i<=1:=hi;omega)with rfl|rfl
     ·show R (match (#[e]:Array (Int×Value))[SetTable.below #[p] 0]?,(#[p]:Array Nat)[SetTable.below #[p] 0]? with|some (_,x),some j=>some (x,j+1)|_,_=>none) s;rw[hb0];exact hR
     ·show R (match (#[e]:Array (Int×Value))[SetTable.below #[p] (p+1)]?,(#[p]:Array Nat)[SetTable.below #[p] (p+1)]? with|some (_,x),some j=>some (x,j+1)|_,_=>none) s;rw[hb1];exact hR
theorem qjp{es:Array (Int×Value)}{pl:List Nat}(hp:pl.Perm (List.range es.size)):(pl.map λj=>(es.getD j (0,.none)).2).Perm (es.toList.map (·.2)):=by
 refine(hp.map _).trans (.of_eq ?_);apply List.ext_getElem
 ·simp
 ·intro i h1 h2;simp at h1;simp[Array.getD_eq_getD_getElem?,h1]
end
section
variable {prog:Program}{w:World}{A:Around}{E:Value->Shared->Prop}{s:Shared}
theorem qwm{a:Addr}{o:Obj}{es:Array (Int×Value)}{ep:Nat}{t:SetTable}(ho:s.heap.get? a=some o)(hk:Ok prog w o es ep t){Q:Bool->Shared->Prop}(h:Q (!tx w&&(!t.plain&&decide (es.size>1))) s):wpAny (model prog w) A (setDrawn a) Q E s:=by
 unfold setDrawn;refine X0 (Yx ho hk.d hk.f ?_);unfold setsByText;refine X0 (X0 (Z0 (X4 ?_)));exact X4 h
theorem vjg{a:Addr}{o:Obj}{es:Array (Int×Value)}{ep:Nat}{t:SetTable}{Q:Value->Shared->Prop}(ho:s.heap.get? a=some o)(hk:Ok prog w o es ep t)
  (h:∀(h':Heap) (d:Drawn) (I:Addr) (fp:List Addr) (bz:List Value) (St:Nat->Heap->Prop),(∀b o,s.heap.get? b=some o->h'.get? b=some o)->s.heap.objs.size<=I->(∀b∈fp,b=a\/s.heap.objs.size<=b) ->
   (∀A':Around,A'.handled=none->Walks prog w A' I fp [I] es.size (λi v=>bz[i]?=some v) St)->St 0 h'->bz.Perm (es.toList.map (·.2))->Q (.ref I) { s with heap:=h',drawn:=d }):wpAny (model prog w) A (pyIter (.ref a)) Q E s:=by
 have hT:s.TypeIs (.ref a) "set":=⟨o,ho,hk.ex.1⟩;have jn:a<s.heap.objs.size:=Xa ho;refine wpAny_pyIter_slot hT F.slot_set_iter (Xv F.slot_set_iter hT qjc ?_ (qvb _));unfold Builtin.«frozenset.__iter__» Builtin.Frozenset.slot0 slotArgs;simp only[List.isEmpty_nil,Bool.not_true,Bool.false_eq_true,↓reduceIte,bind_assoc,List.length_nil,bne_self_eq_false];unfold Builtin.Frozenset.addrOf Builtin.Frozenset.sizeOf;refine X0 (X4 ?_)
 try dsimp only
 refine X0 (X4 ?_);refine X0 (X0 (wpAny_setEntries_of ho hk.d hk.f (X4 ?_)));refine X0 (qwm ho hk ?_)
 by_cases hdr:(!tx w&&(!t.plain&&decide (es.size>1)))=true
 ·rw [Xf hdr];refine X0 (drawn es.size _ s (by simp) λpl d hp=>?_);refine X0 (wpAny_newTuple ?_ (hsz:=by rw[X6,hp.length_eq,Y7];exact fits_of_scanBound hk.b));refine X0 (wpAny_setEpoch_of (X1 _ ho) hk.d hk.f ?_);refine X0 (Xq (X4 ⟨_,rfl,"set_iterator",_,⟨_,X8 _ rfl,rfl⟩,slot_next.lookup,?_⟩));have hsz:(s.heap.push (seqObj "tuple" (pl.map λ(i:Nat)=>rawInt i).toArray 0)).objs.size=s.heap.objs.size+1:=Yk ..;refine h _ d _ [_,a,s.heap.objs.size] (pl.map λj=>(es.getD j (0,.none)).2) _ (λb o e=>X1 _ (X1 _ e)) (by rw[hsz];exact Nat.le_succ _) (λb hb=>?_)
   (λA' hh=>qxv hh _ a s.heap.objs.size (by rw[hsz];exact Xl (Yw jn)) (by rw[hsz];exact Xl (Nat.lt_succ_self _)) (o:=o) (oT:=seqObj "tuple" (pl.map λ(i:Nat)=>rawInt i).toArray 0) hk.d hk.f hp rfl)
   ⟨⟨_,X8 _ rfl,rfl,rfl⟩,X1 _ (X1 _ ho),X1 _ (X8 _ rfl)⟩ (qjp hp)
  rcases List.mem_cons.mp hb with rfl|hb
  ·exact .inr (by rw[hsz];exact Nat.le_succ _)
  rcases List.mem_cons.mp hb with rfl|hb
  ·exact .inl rfl
  ·rw[List.mem_singleton.mp hb];exact .inr (Xd _)
 ·rw [Xm hdr];refine X0 (X4 ?_);refine X0 (wpAny_setEpoch_of ho hk.d hk.f ?_);refine X0 (Xq (X4 ⟨_,rfl,"set_iterator",_,⟨_,X8 _ rfl,rfl⟩,slot_next.lookup,?_⟩));have hfp:∀b∈[s.heap.objs.size,a],b=a\/s.heap.objs.size<=b:=λb hb=>by
   rcases List.mem_cons.mp hb with rfl|hb
   ·exact .inr (Xd _)
   ·exact .inl (List.mem_singleton.mp hb)
  cases jy:tx w with
  | true=>
   refine h _ s.drawn _ [_,a] ((pickOrder (w.params.setOrder a ep) es).toList.map (·.2)) _ (λb o e=>X1 _ e) (Xd _) hfp
    (λA' hh=>qjm hh _ a (Xl jn) (o:=o) hk.d hk.f (by rw[X6,(kve _ es).length_eq,Xb]) (λ_=>0) (qkz jy hk.d hk.f))
    ⟨⟨_,X8 _ rfl,rfl,rfl⟩,X1 _ ho⟩ ((kve _ es).map _)
  | false=>
   have h1:es.size<=1:=by
    rcases hk.pl with hp|hp
    ·rw[jy,hp]at hdr;simp at hdr;exact hdr
    ·omega
   refine h _ s.drawn _ [_,a] (es.toList.map (·.2)) _ (λb o e=>X1 _ e) (Xd _) hfp
    (λA' hh=>qjm hh _ a (Xl jn) (o:=o) hk.d hk.f (by rw[X6,Xb]) (sl1 t) (qw3 jy hk h1))
    ⟨⟨_,X8 _ rfl,rfl,rfl⟩,X1 _ ho⟩ (.refl _)
theorem vjk{a:Addr}{Q:Bool->Shared->Prop}(hT:s.TypeIs (.ref a) "set")(h:Q false s):wpAny (model prog w) A (Builtin.List.listLengthHint (.ref a)) Q E s:=by
 unfold Builtin.List.listLengthHint;refine X0 (wpAny_specialOf hT F.slot_set_len.lookup ?_);generalize ju:("set.__len__":String)=id0
 wp_delta
 rw[show splitId id0=some ("set","__len__")from by subst ju;decide +kernel];subst ju;refine X0 (wpAny_isInstance (T:="set") (b:=true) hT sub_set_self ?_);refine wpAny_ite_split (λfb=>absurd fb (by decide)) (λ_=>?_);refine wpAny_ite_split (λ_=>?_) (λfb=>absurd (by decide +kernel) fb);refine X0 (wpAny_typeOf hT ?_);exact X4 h
theorem qju:∀{vs:List Value},(∀v∈vs,∃x t,v=Value.str x t)->StrsAre vs (vs.map strOf)
 |[],_=>.nil
 |v::vs,h=>by
  obtain⟨x,t,rfl⟩:=h v X3;exact .cons x t (qju λv hv=>h v (lc9 _ hv))
theorem qje{a:Addr}{ls:List Str}{Q:List Value->Shared->Prop}(hh:A.handled=none)(hS:Has prog w s.heap a ls)
  (h:∀(h':Heap) (d:Drawn) (tk:Nat) (vs:List Value) (ss:List Str),(∀b o,s.heap.get? b=some o->h'.get? b=some o)->s.heap.objs.size<h'.objs.size->StrsAre vs ss->ss.Perm ls->Q vs { s with heap:=h',drawn:=d,toks:=tk }):
  wpAny (model prog w) A (collect (.ref a)) Q E s:=by
 obtain⟨o,es,ep,t,ho,hk,hp⟩:=hS;have jn:a<s.heap.objs.size:=Xa ho;unfold collect;refine X0 (wpAny_runValue (codeAny_builtin F.entry_proto_collect ?_));rw[Around.under_plainId F.plain_proto_collect _];show wpAny _ A.in1 (newList [] >>= λl=>again (.builtin "list.__iadd__" ⟨[l,.ref a],[]⟩)) _ _ s;refine X0 (Xq ?_);refine X4 ⟨plainId_quiet F.plain_list_iadd _,codeAny_builtin F.entry_list_iadd ?_⟩;rw[Around.under_plainId F.plain_list_iadd _];have ij:(s.heap.push { cls:=.type "list",data:=.seq ([]:List Value).toArray }).get? a=some o:=X1 _ ho;have hT1:Shared.TypeIs { s with heap:=s.heap.push { cls:=.type "list",data:=.seq ([]:List Value).toArray } } (.ref a) "set":=⟨o,ij,hk.ex.1⟩;show wpAny _ A.in1 (Builtin.List.listExtendWith (.ref s.heap.objs.size) (.ref a) (.ref s.heap.objs.size)) _ _ _;unfold Builtin.List.listExtendWith;refine X0 (wpAny_typeOf hT1 ?_);have h1:Builtin.List.listSameRef (.ref s.heap.objs.size) (.ref a)=false:=by simp[Builtin.List.listSameRef];exact Nat.ne_of_gt jn
 have h2:(Value.type "set" == Value.type "list")=false:=by decide
 have h3:(Value.type "set" == Value.type "tuple")=false:=by decide
 simp only[h1,h2,h3,Bool.or_false,Bool.false_eq_true,if_false];refine X0 (vjg ij hk λh' d I fp bz St ff hI hfp W st0 hv=>?_);refine X0 (Yi (vjk ⟨o,ff _ _ ij,hk.ex.1⟩ ?_));show wpAny _ A.in1 (PySem.rule "list.extend.makes-room" >>= λ_=>Builtin.List.listTouch (.ref s.heap.objs.size) >>= λ_=>
  again (.builtin "list.extend.loop" ⟨[.ref s.heap.objs.size,.ref I,.ref s.heap.objs.size],[]⟩)) _ _ _
 refine X0 (Z2 ?_);have hsz:(s.heap.push { cls:=.type "list",data:=.seq ([]:List Value).toArray }).objs.size=s.heap.objs.size+1:=Yk ..;have hI':s.heap.objs.size+1<=I:=by rw[<-hsz];exact hI
 have oz:s.heap.objs.size∉fp:=λhm=>by
  rcases hfp _ hm with e|e
  ·exact absurd e (Nat.ne_of_gt jn)
  ·have e:s.heap.objs.size+1<=s.heap.objs.size:=by rw[<-hsz];exact e
   exact absurd e (Nat.not_succ_le_self _)
 have hS₁:h'.get? s.heap.objs.size=some { cls:=.type "list",data:=.seq ([]:List Value).toArray }:=ff _ _ (X8 _ rfl);refine X0 ?_;show wpAny _ A.in1 (updateSeq s.heap.objs.size (·.push .none) >>= λ_=>updateSeq s.heap.objs.size (·.pop)) _ _ _;refine X0 (wpAny_updateSeq hS₁ rfl ?_);have hS₂:=Xx (Obj.mapSeq (·.push Value.none)) hS₁ rfl;refine wpAny_updateSeq hS₂ rfl ?_;have hS₃:=Xx (Obj.mapSeq (·.pop)) hS₂ rfl;have oth:∀b o,b≠s.heap.objs.size->h'.get? b=some o->((h'.update s.heap.objs.size (Obj.mapSeq (·.push Value.none))).update s.heap.objs.size (Obj.mapSeq (·.pop))).get? b=some o:=
  λb o hb e=>(Heap.get?_update_other _ _ (Ne.symm hb)).trans ((Heap.get?_update_other _ _ (Ne.symm hb)).trans e)
 have WW:=W A.in1 hh;have ac:bz.length=es.size:=by rw[hv.length_eq,X6,Xb]
 refine X4 ⟨plainId_quiet F.plain_extend_loop _,codeAny_extend_loopS WW.toS (fits_of_scanBound hk.b) _ oz _ es.size 0 _ _ _ rfl (Z1 _) (WW.frame 0 h' _ st0 λb hb o e=>oth b o (λe'=>oz (e'▸hb)) e) hS₃ (ItemsOf.nil _) λs' fj c' hm lf kh=>?_⟩;show wpAny _ A (load s.heap.objs.size >>= _) _ _ s';refine X0 (wpAny_load lf ?_);have kd:fj.toList=bz:=by
  apply List.ext_getElem?;intro j
  by_cases hj:j<es.size
  ·have hj1:j<fj.size:=by rw[kh.1];exact hj
   rw[Array.getElem?_toList,Array.getElem?_eq_getElem hj1];exact(kh.2 j _ (Array.getElem?_eq_getElem hj1)).symm
  ·rw[Ym (by rw[Xb,kh.1];omega),Ym (by omega)]
 refine X4 ?_;rw[kd,Moved.eq_with hm];refine h _ d _ bz (bz.map strOf) (λb o e=>?_) (Xa lf) ?_ ?_
 ·have hb:b<s.heap.objs.size:=Xa e;have hbS:b≠s.heap.objs.size:=Xl hb;refine hm.heap b o (λhmem=>?_) (oth b o hbS (ff b o (X1 _ e)));rcases List.mem_cons.mp hmem with e'|hmem
  ·exact hbS e'
  ·rw[List.mem_singleton.mp hmem]at hb;exact absurd hb (Nat.not_lt.mpr (Nat.le_of_succ_le hI'))
 ·exact qju λv hvm=>by
   obtain⟨e,he,rfl⟩:=List.mem_map.mp (hv.mem_iff.mp hvm);exact qxj hk.el he
 ·refine((hv.map strOf).trans (.of_eq ?_)).trans hp;rw[Y2];rfl
end
section
variable {prog:Program}{w:World}{A:Around}{E:Value->Shared->Prop}{s:Shared}
theorem kzp{a:Addr}{ls:List Str}{Q:Value->Shared->Prop}(hh:A.handled=none)(hS:Has prog w s.heap a ls)(h64:ls.length<64)
  (h:∀(h':Heap) (d:Drawn) (tk l e:Nat) (out:Array Value) (ss:List Str),(∀b o,s.heap.get? b=some o->h'.get? b=some o)->s.heap.objs.size<=l->h'.get? l=some (seqObj "list" out e)->StrsAre out.toList ss->ss.Perm ls->sortedS ss=true->Q (.ref l) { s with heap:=h',drawn:=d,toks:=tk }):
  wpAny (model prog w) A (call (.builtin "sorted") [.ref a]) Q E s:=by
 refine Calls.call_function_entry kind_sorted plain_sorted entry_sorted (args_sorted1 _) ?_;unfold Builtin.«sorted»;refine X0 (m:=checkCount "sorted" 1 1 _) (X4 ?_);refine X0 (qje (by simpa using hh) hS λh' d tk vs ss ff hsz hv hp=>?_);have h64':vs.length<64:=by rw[kko hv,hp.length_eq];exact h64
 refine X0 (wpAny_newList ?_ (hsz:=by rw[sizeLine_eq];omega));have o7:(h'.push (seqObj "list" vs.toArray 0)).get? h'.objs.size=some (seqObj "list" vs.toArray 0):=X8 _ rfl;refine X0 (Yi (Xv slot_list_sort ⟨_,o7,rfl⟩ entry_list_sort (list_sort_treeK strKind_oneLt o7 hv.keysOf (λv₁ v₂ j9 e=>keyKind_strs (by rw[<-e];exact hv)) h64' λdq a1 a2=>⟨_,rfl,?_⟩) (args_list_sort _)));obtain⟨ss',h1,h2,h3⟩:=sorted_out_str hv a1 a2;obtain⟨e,he⟩:=sortedHeap_at (out:=(arrOf dq).map (·.2)) o7;refine X4 ⟨_,rfl,h _ d tk _ e _ ss' (λb o q=>?_) (Nat.le_of_lt hsz) he h1 (h2.trans hp) h3⟩;have hb:=Xa (ff b o q);show(sortedHeap (h'.push (seqObj "list" vs.toArray 0)) h'.objs.size vs _).get? b=some o;rw[sortedHeap_old (Xl hb) (by rw[size_push'];exact Yw hb)];exact X1 _ (ff b o q)
end
end Sw
namespace Q
open PySem PySem.Spec PyProof.Rows L2 L3 Sw
section
variable {X:Cx}{Z:Fx0}{K:PySem.W.Frag}{q:Bool}{a:Ex}{e ea:Expr}{σ:L2.St}{H:Hp}{pos p p2 iv:Pos}{x y:Str}{pins:List (Addr×Obj)}{s:Shared}
theorem Inv.dr{d:Drawn}(I:L2.Inv X pins σ H s):L2.Inv X pins σ H { s with drawn:=d }:=⟨I.ok,I.os,I.bare,I.base,I.loc,I.cell,I.free,I.freeC,I.pin,I.hok,I.len⟩
noncomputable def wk5(X:Cx)(f:Value)(r:List Str->Hp->VK->Prop):Prop:=
 ∀(pins:List (Addr×Obj)) (s:Shared) (σ:L2.St) (H:Hp) (b:Addr) (ls:List Str) (Q:VK),L2.Inv X pins σ H s->Has X.prog X.w s.heap b ls->r ls H Q->wpAny (model X.prog X.w) X.A (call f [.ref b]) (EP X pins σ Q) X.xe s
noncomputable def vxx(K:PySem.W.Frag)(r:List Str->Hp->VK->Prop):List V->Hp->VK->Prop:=λxs H Q=>∃p ss,xs=[.ref p]/\SqL K H p (ss.map V.str)/\ss.length<4000/\r (dd ss) H Q
theorem qzp{id:String}{r:List Str->Hp->VK->Prop}{t:TE}(hc:X.calm=true)(hf:wk5 X (.builtin id) r)(hg:Gl X x)(hm:X.mg x=none)(hv:bootBuiltins x=some (.builtin id))(hg2:Gl X "set")(mq:X.mg "set"=none)(hv2:bootBuiltins "set"=some (.type "set"))
  (ha:PE X e t) (hn:autoParam (x≠"__name__") ŕ) (eh:autoParam ((x==("__debug__":Str))=false) ŕ) (hn2:autoParam (("set":Str)≠"__name__") ŕ) (hdb2:autoParam ((("set":Str)==("__debug__":Str))=false) ŕ)
  (he:autoParam (starEach [e] X.env=(false,eval e X.env)::starEach [] X.env) Ŕ):
  PE X (.Call (.Name x p) [.Call (.Name "set" p2) [e] [] iv] [] pos) (fun σ H Q=>t σ H λv H1=>vxx X.K r [v] H1 Q):=by
 intro pins s σ H Q I h;refine wpAny_Call_Name_kw (Q1 I hg hm hv ?_ hn eh);refine PyProof.Rows.callWith_builtin1 ?_ rfl rfl;show wpAny _ _ (spliced ((false,eval (.Call (.Name "set" p2) [e] [] iv) X.env)::[])) _ _ s;refine Calls.spliced_cons ?_;refine wpAny_Call_Name_kw (Q1 I hg2 mq hv2 ?_ hn2 hdb2);refine Yh (thn (vZ ha ww he iv pins s σ H (λvs H1=>vxx X.K r vs H1 Q) I ?_) λus s1 ⟨vs,H1,I1,r1,q1⟩=>?_) he rfl
 ·exact h
 obtain⟨b,ss,rfl,hq,hl,q⟩:=q1;obtain⟨u,rfl,rx⟩:=J8 r1;cases rx;obtain⟨aa,r',pl,hz⟩:=I1.list hq;have ac:=r'.length;rw[X6]at ac hz;refine qwq (I1.ok.hd hc) pl.isList (by simpa using kk4 r') (by simp;unfold scanBound;omega) λh' tk hS ff=>?_
 have I2:L2.Inv X pins σ H1 { s1 with heap:=h',toks:=tk }:=I1.kept λb u q=>ff b u (Xa q) q
 exact Calls.spliced_nil (hf pins _ σ H1 _ (dd ss) Q I2 hS q)
theorem kzs(hc:X.calm=true):wk5 X (.builtin "sorted") (λls H Q=>ls.length<64/\∀l,H l=none->Q (.ref l) (upd H l (.lst ((qK ls).map V.str)))):=by
 intro pins s σ H b ls Q I hS h;refine kzp (I.ok.hd hc) hS h.1 λh' d tk l e out ss ff hl hg h1 h2 h3=>?_
 have e1:=kxg h2 h3;subst e1;have hz:(qK ls).length<=sizeLine:=by rw[(zk ls).length_eq,sizeLine_eq];omega
 refine⟨.ref l,_,Inv.dr (I.laid (t':=tk) (o:=.lst ((qK ls).map V.str)) ff hl ?_),rfl,h.2 l (I.hok.fresh hl)⟩;exact⟨by rw[X6];exact hz,out.toList,e,kqp h1,by simpa using hg⟩
end
section
variable {X:Cx}{Z:Fx0}{K:PySem.W.Frag}{q:Bool}{a:Ex}{e ea:Expr}{σ:L2.St}{H:Hp}{pos p p2 iv:Pos}{x y:Str}{pins:List (Addr×Obj)}{s:Shared}
theorem qxl{ss:List Str}{z:Str}(h:z∈ddS ss):z∈ss:=by
 have:∀(l af:List Str),z∈l.foldl (λl k=>if l.any (· == k)then l else l++[k]) af->z∈af\/z∈l:=by
  intro l
  induction l with
  | nil=>intro af h;exact .inl h
  | cons k l ih=>
   intro af h;rcases ih _ h with h|h
   ·dsimp only at h
    split at h
    ·exact .inl h
    ·rcases List.mem_append.mp h with h|h
     ·exact .inl h
     ·exact .inr (by rw[List.mem_singleton.mp h];exact X3)
   ·exact .inr (lc9 _ h)
 rcases this ss [] h with h|h
 ·cases h
 ·exact h
noncomputable def rSS(K:PySem.W.Frag):List V->Hp->VK->Prop:=vxx K λls H Q=>ls.length<64/\∀l,H l=none->Q (.ref l) (upd H l (.lst ((qK ls).map V.str)))
theorem qjh:Ad1 K (λv H Q=>rSS K [v] H Q) Q7:=by
 intro H x s Q ok hf k;unfold Q7 at hf;dsimp only at hf;cases hx:x.d with
 | lst ds=>
  rw[hx]at hf;dsimp only at hf;obtain⟨l,xs,bs,ev,q3,r3,_⟩:=items ok (.inl hx);have q3:LsR K H l xs:=by rcases q3 with⟨_,z⟩|⟨z,_⟩;exact z;rw[hx]at z;cases z
  cases hs:x5 ds with
  | some ss=>
   rw[hs]at hf;dsimp only at hf
   split at hf
   ·rename_i hl;cases oq9 hf;obtain⟨e1,e2⟩:=jzi hs r3;subst e1;refine⟨l,ss,by rw[ev],xW q3,by omega,Nat.lt_of_le_of_lt (dd_le ss) hl,λp hp=>?_⟩;exact k ⟨.rt,.lst _,.ref p,p::[]⟩ _ rfl rfl (Kk hp (kkv λz hz=>e2 z (qxl ((zk _).mem_iff.mp hz))) λb hb=>nomatch hb)
   ·cases hf
  |none=>rw[hs]at hf;cases hf
 |_=>rw[hx]at hf;cases hf
theorem kva(hK:X.K=Z.K)(hc:X.calm=true)(ha:QV X Z q a ea)(hm:X.mg "sorted"=none)(mq:X.mg "set"=none)(hg:autoParam (Gl X "sorted") Ŕ)(hg2:autoParam (Gl X "set") Ŕ)(he:autoParam (starEach [ea] X.env=(false,eval ea X.env)::starEach [] X.env) Ŕ):
  QE X Z q (cF1 Q7 a) (.Call (.Name "sorted" p) [.Call (.Name "set" p2) [ea] [] iv] [] pos):=
 kY (qzp hc (kzs hc) hg hm rfl hg2 mq rfl ha (he:=he)) fun σ H Q h=>by
  have:=jzq (r:=λv H Q=>rSS Z.K [v] H Q) qjh h;rw[hK];exact this
end
end Q
namespace Q
open PySem PySem.Spec PyProof.Rows L2 L3
section
variable {X:Cx}{Z:Fx0}{K:PySem.W.Frag}{pn:List Nat}{q qa qb:Bool}{a b c:Ex}{u:Ts}{tg e ea eb:Expr}{st:Stmt}{σ:L2.St}{H:Hp}{L:Ls}{E:En}{pos p p2:Pos}{x:Str}
theorem qki{k n:Nat}{ps:List Str}{f:Fn}{cs:List Ex}{es:List Expr}(D:kq X.prog X.w X.K X.mg X.base k x ps (spF Z.K Z.mg n f))(hr:Room k X.A)(g:xq X Z.EX)(ha:QAV X Z cs (e::es))(hn:autoParam (cs.length=n) Ŕ)(hg:autoParam (Gl X x) Ŕ)(eh:autoParam ((x==("__debug__":Str))=false) ŕ)
  (he:autoParam (starEach (e::es) X.env=(false,eval e X.env)::starEach es X.env) Ŕ) (bo:autoParam ((backTo pos (starEach es X.env)).any (·.1)=false) Ŕ):
  QE X Z true (W6 f cs) (.Call (.Name x p) (e::es) [] pos):=kY (kxr D hr g ha hg eh he bo) fun σ H Q ak=>ex8 ak λE L r m w hc xc kk=>by
 have hc:bnd (kJ cs E) _=some r:=hc;rcases vk hc with⟨E1,ys,h1,h2⟩|⟨E1,cc,h1,h2⟩
 rotate_left
 ·exact⟨E,L,_,m,w,h1,xc.map h2,λE' s' z=>by cases z⟩
 refine⟨E,L,_,m,w,h1,(λ_ _ z=>by cases z),λE' ys' z xs L1 H1 e1 m1 w1 ok1 st sm=>?_⟩;injection z with z1 z2;subst z1 z2;rw [Y9];have ac:xs.length=n:=by rw[<-hn,<-VJ h1,<-e1,X6]
 cases hf:f (letAll ys)with
 | none=>rw[hf]at h2;cases h2
 | some fr=>
  rw [hf]at h2;have ev:xs.map Sl.v=(xs.map Sl.let).map Sl.v:=by rw[Y2];rfl
  have wl:World Z.K H1 ((xs.map Sl.let).map some):=by
   refine⟨λy hy=>?_,by rw[wJ];exact Y1,λa ha=>by rw[wJ]at ha;exact nomatch ha⟩;obtain⟨y',hy',e⟩:=List.mem_map.mp hy;cases e;obtain⟨t,ht,rfl⟩:=List.mem_map.mp hy';exact zq (ok1 t ht)
  rw [ev];refine⟨xs.map Sl.let,fr,rfl,by rw[X6];exact ac,wl,by rw[<-e1]at hf;rw[kqc];exact hf,λE' c ee C H' hm s'=>?_,λE' a ee y H' e2 e3 w' s'=>?_⟩
  ·subst ee;cases oq9 h2;have ib:k4 H1 H':=λb ob hb=>s'.keep b ob hb λz=>by rw[wJ]at z;exact nomatch z
   exact xc _ _ rfl C L1 H' hm m1 ⟨λy hy=>RepO.kp (w1.ok y hy) (Kp.of_same ib),w1.nd,w1.ds⟩ (st.trans ⟨λb ob hb _=>ib b ob hb,λ_ h=>.inl h,λ_ h=>.inl h⟩)
  ·subst ee;dsimp only at h2
   split at h2
   ·rename_i hp;cases oq9 h2;have ib:k4 H1 H':=λb ob hb=>s'.keep b ob hb λz=>by rw[wJ]at z;exact nomatch z
    have w2:World Z.K H' L1:=⟨λy hy=>RepO.kp (w1.ok y hy) (Kp.of_same ib),w1.nd,w1.ds⟩;have pq:y.o=.dp:=e2.trans hp;have nw:∀b∈y.own,H1 b=none:=λb hb=>by
     rcases s'.own b (by rw[jk];exact ll9 _ hb)with z|z
     ·rw[wJ]at z;exact nomatch z
     ·exact z
    have fz:y.frz=[]:=by unfold Sl.frz;rw[pq]
    have nd:y.own.Nodup:=by have:=w'.nd;rw[jk,qkt,Y9]at this;exact this
    have bm:Step H L H' L1:=st.trans ⟨λb ob hb _=>ib b ob hb,λ_ h=>.inl h,λ_ h=>.inl h⟩;have w3:World Z.K H' (some y::L1):=w2.cons (w'.ok y X3) nd (λb hb hL=>w1.own_some hL (nw b hb)) (λb hb hL=>w1.frz_some hL (nw b hb)) (λb hb=>by rw[fz]at hb;cases hb) (λb hb hL=>by rw[fz]at hL;cases hL);have ll:∀b∈y.own,H b=none:=λb hb=>xx sm (nw b hb)
    refine kk _ _ rfl y L1 H' e2 e3 m1 w3 ⟨bm.keep,λb hb=>?_,λb hb=>?_⟩ λ_=>⟨kw sm ib,λb hb=>ll b hb⟩
    ·rw[jk]at hb;rcases List.mem_append.mp hb with hb|hb
     ·exact .inr (ll b hb)
     ·exact bm.own b hb
    ·rw[k8,fz]at hb;exact bm.frz b hb
   ·cases h2
end
end Q
namespace Q
open PySem
noncomputable def out(f:Fn)(xs:List Sd):Option (Sd ⊕ Str):=match f xs with
 |some (.ok _ y)=>some (.inl y)
 |some (.exc _ c)=>some (.inr c)
 |none=>none
theorem vvj(n:Nat)(h:300<=n):(10:Nat) ^ 70<2 ^ n:=Xg (show(10:Nat) ^ 70<2 ^ 240 by decide) (Nat.pow_le_pow_right (by decide) (by omega))
theorem mul_l{o1 o2:Own}{a b:Int}(h1:-18446744073709551616<a)(h2:a<18446744073709551616):YJ (o1,.int a) (o2,.int b)=some (.dp,.int (a*b)):=by
 have:VW a b=true:=by
  have:Zv a=true:=by unfold Zv;rw[Yd (show -(2 ^ 64)<a by omega),Yd (show a<2 ^ 64 by omega)];rfl
  unfold VW;rw[this];rfl
 show(if VW a b=true then _ else _)=_;rw[Xf this]
theorem add_i{o1 o2:Own}{a b:Int}:jz (o1,.int a) (o2,.int b)=some (.dp,.int (a+b)):=rfl
theorem sub_i{a b:Int}:fSub (.int a) (.int b)=some (.int (a - b)):=rfl
theorem div_i{a b:Int}(h:0<b)(h2:b<10 ^ 70):qv (.int a) (.int b)=some (.int (a / b)):=by
 have hb:b.natAbs.log2<9000:=by
  exact(Nat.log2_lt (by omega)).mpr (Nat.lt_trans (show b.natAbs<10 ^ 70 by omega) (vvj 9000 (by decide)))
 show(if 0<b/\b.natAbs.log2<9000 then some (a / b)else none).map _=_;rw[Xf ⟨h,hb⟩];rfl
theorem mod_i{a b:Int}(h:0<b):jJ (.int a) (.int b)=some (.int (a % b)):=by
 show(if 0<b then some (a % b)else none).map _=_;rw[Xf h];rfl
theorem KZ{a b:Int}:fEq (.int a) (.int b)=some (.bl (a==b)):=rfl
theorem lt_ii{a b:Int}:fLt (.int a) (.int b)=some (.bl (decide (a<b))):=rfl
theorem gt_ii{a b:Int}:fGt (.int a) (.int b)=some (.bl (decide (b<a))):=rfl
theorem le_ii{a b:Int}:fLe (.int a) (.int b)=some (.bl (decide (a<=b))):=rfl
theorem ge_ii{a b:Int}:fGe (.int a) (.int b)=some (.bl (decide (b<=a))):=rfl
theorem vK{xs:List D}{i:Int}{d:D}(h0:0<=i)(h:xs[i.toNat]?=some d):jw (.lst xs) (.int i)=some d:=by
 show((ixN xs.length i).bind λj=>xs[j]?)=some d;have hl:i.toNat<xs.length:=(List.getElem?_eq_some_iff.mp h).1;unfold ixN;rw[Xf h0,Xf (by omega)];exact h
theorem len_l{xs:List D}:v6 (.lst xs)=some (.int xs.length):=rfl
theorem len_t{xs:List D}:v6 (.tup xs)=some (.int xs.length):=rfl
theorem vws{o1 o2:Own}{a b:List D}(h1:o1≠.dp)(h2:o2≠.dp)(hl:a.length+b.length<10000):jz (o1,.lst a) (o2,.lst b)=some (.rt,.lst (a++b)):=by
 show(if a.length+b.length<=big/\qx (o1,.lst a)/\qx (o2,.lst b)then _ else _)=_;rw[Xf ⟨by unfold big;omega,by cases o1<;>simp_all [qx],by cases o2<;>simp_all [qx]⟩]
theorem vxj{o:Own}{xs:List D}(h:o≠.dp):Wj (o,.lst xs)=some (.no,.tup xs):=by
 show(if qx (o,.lst xs)then _ else _)=_;rw[Xf (by cases o<;>simp_all [qx])]
abbrev XP:=Str->Prop
theorem nd{α:Sort _}{a b:α}(h:a=b):a=b:=h
@[irreducible] noncomputable def Eo {α:Type} (m:Option (Res α)) (P:En->α->Prop) (X:XP):Prop:=match m with
 |some (.ok E a)=>P E a
 |some (.exc _ c)=>X c
 |none=>False
@[irreducible] noncomputable def Vo {α:Type} (m:Option α) (P:α->Prop):Prop:=match m with
 |some a=>P a
 |none=>False
@[irreducible] noncomputable def Oo (f:Fn) (xs:List Sd) (P:Sd->Prop) (X:XP):Prop:=match f xs with
 |some (.ok _ y)=>P y
 |some (.exc _ c)=>X c
 |none=>False
@[irreducible] noncomputable def Po (r:Option Fl) (N C:En->Prop) (R:Sd->Prop) (X:XP):Prop:=match r with
 |some (.nx E)=>N E
 |some (.ct E)=>C E
 |some (.rt _ x)=>R x
 |some (.xc _ c)=>X c
 |_=>False
abbrev noX:XP:=λ_=>False
section
variable {α β:Type}{P:En->α->Prop}{X:XP}{N C:En->Prop}{R:Sd->Prop}{E:En}
theorem Zx{a:α}:Eo (some (.ok E a)) P X=P E a:=nd (by with_unfolding_all rfl)
theorem qxi{c:Str}:Eo (some (.exc E c):Option (Res α)) P X=X c:=nd (by with_unfolding_all rfl)
theorem qqv:Eo (none:Option (Res α)) P X=False:=nd (by with_unfolding_all rfl)
theorem k5{m:Option (Res β)}{f:En->β->Option (Res α)}:Eo (bnd m f) P X=Eo m (λE a=>Eo (f E a) P X) X:=by
 cases m with
 |none=>with_unfolding_all rfl
 |some r=>cases r<;>with_unfolding_all rfl
theorem vo_some{a:α}{P:α->Prop}:Vo (some a) P=P a:=nd (by with_unfolding_all rfl)
theorem vo_map{x:Option β}{f:β->α}{P:α->Prop}:Vo (x.map f) P=Vo x (λa=>P (f a)):=by cases x<;>with_unfolding_all rfl
theorem x9{x:Option α}:Eo (val E x) P X=Vo x (P E):=by cases x<;>with_unfolding_all rfl
theorem qzl{E:En}:Po (some (.nx E)) N C R X=N E:=nd (by with_unfolding_all rfl)
theorem vz7{E:En}{x:Sd}:Po (some (.rt E x)) N C R X=R x:=nd (by with_unfolding_all rfl)
theorem KW{m:Option (Res α)}{f:En->α->Option Fl}:Po (ofE m f) N C R X=Eo m (λE a=>Po (f E a) N C R X) X:=by
 cases m with
 |none=>with_unfolding_all rfl
 |some r=>cases r<;>with_unfolding_all rfl
theorem vqp{a b:Sm}:Po (j7 a b E) N C R X=Po (a E) (λE=>Po (b E) N C R X) C R X:=by
 unfold j7 Po;cases a E with
 |none=>with_unfolding_all rfl
 |some r=>cases r<;>with_unfolding_all rfl
theorem Eo.mono{m:Option (Res α)}{P':En->α->Prop}(h:Eo m P X)(k:∀E a,P E a->P' E a):Eo m P' X:=by
 cases m with
 |none=>with_unfolding_all exact h
 |some r=>cases r with
  |ok E a=>with_unfolding_all exact k E a h
  |exc E c=>with_unfolding_all exact h
theorem Oo.mono{f:Fn}{xs:List Sd}{P P':Sd->Prop}(h:Oo f xs P X)(k:∀y,P y->P' y):Oo f xs P' X:=by
 unfold Oo at h ⊢;cases hf:f xs with
 |none=>rw[hf]at h;with_unfolding_all exact h
 |some r=>rw[hf]at h;cases r with
  |ok E a=>with_unfolding_all exact k a h
  |exc E c=>with_unfolding_all exact h
theorem Oo.out{f:Fn}{xs:List Sd}{P:Sd->Prop}(h:Oo f xs P noX):∃E y,f xs=some (.ok E y)/\P y:=by
 unfold Oo at h;cases hf:f xs with
 |none=>rw[hf]at h;with_unfolding_all exact(show False from h).elim
 |some r=>rw[hf]at h;cases r with
  |ok E a=>with_unfolding_all exact⟨E,a,rfl,h⟩
  |exc E c=>with_unfolding_all exact(show False from h).elim
theorem kQ{n:Nat}{b:Sm}{xs:List Sd}{P:Sd->Prop}(h:Po (b (xs.map some++List.replicate (n - xs.length) none)) (λ_=>P (.dp,.non)) (λ_=>False) P X):Oo (fn n b) xs P X:=by
 unfold Oo fn;unfold Po at h;cases hb:b (xs.map some++List.replicate (n - xs.length) none)with
 |none=>rw[hb]at h;with_unfolding_all exact h
 |some r=>rw[hb]at h;cases r<;>with_unfolding_all exact h
theorem vjo{f:Fn}{cs:List Ex}{P:En->Sd->Prop}:Eo (jQ f cs E) P X=Eo (kJ cs E) (λE xs=>Oo f (letAll xs) (P E) X) X:=by
 unfold jQ;rw[k5]
 congr 1
 funext E xs;unfold Oo;cases f (letAll xs)with
 |none=>with_unfolding_all rfl
 |some r=>cases r<;>with_unfolding_all rfl
theorem qwk{f:Fn}{cs:List Ex}{P:En->Sd->Prop}:Eo (J5 f cs E) P X=Eo (kJ cs E) (λE xs=>Oo f (letAll xs) (λy=>y.2.pure=true/\P E (.dp,y.2)) X) X:=by
 unfold J5;rw[k5]
 congr 1
 funext E xs;unfold Oo;cases f (letAll xs)with
 | none=>with_unfolding_all rfl
 | some r=>
  cases r with
  |exc=>with_unfolding_all rfl
  |ok E1 y=>
   dsimp only
   by_cases hp:y.2.pure=true
   ·rw[Xf hp];with_unfolding_all exact propext ⟨λh=>⟨hp,h⟩,λh=>h.2⟩
   ·rw[Xm hp];with_unfolding_all exact propext ⟨λh=>(show False from h).elim,λh=>hp h.1⟩
def vxf(d:D){α:Type}(a b:Option α):Option α:=match d with
 |.bl k=>if k=true then a else b
 |_=>none
theorem vjw(a b:Ex):wK a b E=bnd (a E) λE x=>vxf x.2 (b E) (some (.ok E (.dp,.bl false))):=by
 unfold wK vxf
 congr 1
 funext E x;cases x.2 with
 |bl k=>cases k<;>with_unfolding_all rfl
 |_=>with_unfolding_all rfl
theorem vwl(a b:Ex):cOr a b E=bnd (a E) λE x=>vxf x.2 (some (.ok E (.dp,.bl true))) (b E):=by
 unfold cOr vxf
 congr 1
 funext E x;cases x.2 with
 |bl k=>cases k<;>with_unfolding_all rfl
 |_=>with_unfolding_all rfl
theorem kwp{tg:Tg}{b:Sm}(I:En->List D->Prop)(hs:∀E d ds,I E (d::ds)->Vo (tg.put d E) λE1=>Po (b E1) (λE2=>I E2 ds) (λE2=>I E2 ds) R X)(h1:∀E,I E []->N E):∀ds E,I E ds->Po (J7 tg b ds E) N C R X
 | [],E,h=>by with_unfolding_all exact h1 E h
 | d::ds,E,h=>by
  have h2:=hs E d ds h;unfold J7;cases hp:tg.put d E with
  | none=>rw[hp]at h2;with_unfolding_all exact(show False from h2).elim
  | some E1=>
   rw[hp]at h2;have h2:Po (b E1) (λE2=>I E2 ds) (λE2=>I E2 ds) R X:=by with_unfolding_all exact h2
   dsimp only;cases hb:b E1 with
   |none=>rw[hb]at h2;with_unfolding_all exact(show False from h2).elim
   |some r=>
    rw[hb]at h2;cases r with
    |nx E2=>with_unfolding_all exact kwp I hs h1 ds E2 h2
    |ct E2=>with_unfolding_all exact kwp I hs h1 ds E2 h2
    |rt E2 x=>with_unfolding_all exact h2
    |xc E2 c=>with_unfolding_all exact h2
    |bk E2=>with_unfolding_all exact(show False from h2).elim
theorem WK{it:Ev (List D)}{tg:Tg}{b:Sm}(I:En->List D->Prop)(h0:Eo (it E) I X)(hs:∀E d ds,I E (d::ds)->Vo (tg.put d E) λE1=>Po (b E1) (λE2=>I E2 ds) (λE2=>I E2 ds) R X)(h1:∀E,I E []->N E):Po (wq it tg b E) N C R X:=by
 show Po (ofE (it E) λE ds=>J7 tg b ds E) N C R X;rw[KW]
 with_unfolding_all exact h0.mono λE ds h=>kwp I hs h1 ds E h
theorem qqw{tg:Tg}{t:Ts}{c:Ex}{P:En->List Sd->Prop}(J:En->List D->List Sd->Prop)(hs:∀B d ds af,J B (d::ds) af->Vo (tg.put d B) λB1=>Eo (t B1) (λB2 k=>if k=true then Eo (c B2) (λB3 y=>J B3 ds (af++[y])) X else J B2 ds af) X)(h1:∀B af,J B [] af->P B af):∀ds B af,J B ds af->Eo (lcL tg t c ds B af) P X
 | [],B,af,h=>by with_unfolding_all exact h1 B af h
 | d::ds,B,af,h=>by
  have h2:=hs B d ds af h;unfold lcL;cases hp:tg.put d B with
  | none=>rw[hp]at h2;with_unfolding_all exact(show False from h2).elim
  | some B1=>
   rw[hp]at h2;have h2:Eo (t B1) (λB2 k=>if k=true then Eo (c B2) (λB3 y=>J B3 ds (af++[y])) X else J B2 ds af) X:=by with_unfolding_all exact h2
   dsimp only;rw[k5];refine h2.mono λB2 k h3=>?_
   cases k with
   |false=>with_unfolding_all exact qqw J hs h1 ds B2 af h3
   |true=>
    show Eo (bnd (c B2) _) P X;rw[k5]
    with_unfolding_all exact Eo.mono (P:=λB3 y=>J B3 ds (af++[y])) h3 λB3 y h4=>qqw J hs h1 ds B3 _ h4
theorem qwi{o:Own}{k:Nat}{r:List Nat}{it:Ev (List D)}{tg:Tg}{t:Ts}{c:Ex}{P:En->Sd->Prop}(J:En->En->List D->List Sd->Prop)(h0:Eo (it E) (λE1 ds=>J E1 (V1 k r E1) ds []) X)
  (hs:∀E1 B d ds af,J E1 B (d::ds) af->Vo (tg.put d B) λB1=>Eo (t B1) (λB2 k=>if k=true then Eo (c B2) (λB3 y=>J E1 B3 ds (af++[y])) X else J E1 B2 ds af) X) (h1:∀E1 B af,J E1 B [] af->Eo (mkL o (JJ k r B E1) af) P X):Eo (cLC o k r it tg t c E) P X:=by
 unfold cLC;rw[k5];refine h0.mono λE1 ds hJ=>?_
 have:=qqw (P:=λB af=>Eo (mkL o (JJ k r B E1) af) P X) (J E1) (hs E1) (h1 E1) ds _ _ hJ;cases hl:lcL tg t c ds (V1 k r E1) []with
 |none=>rw[hl]at this;with_unfolding_all exact(show False from this).elim
 |some q=>rw[hl]at this;cases q<;>with_unfolding_all exact this
end
theorem mulT_i{o1:Own}{a:Int}{y:Sd}:qX (o1,.int a) y=YJ (o1,.int a) y:=by
 unfold qX;with_unfolding_all rfl
def sl(q:Option (Option Sd)):Option Sd:=match q with
 |some (some x)=>some x
 |_=>none
theorem sl_some{x:Sd}:sl (some (some x))=some x:=nd (by with_unfolding_all rfl)
def vxe(d:D)(a b:Prop):Prop:=match d with
 |.bl k=>if k=true then a else b
 |_=>False
theorem andP_bl{k:Bool}{a b:Prop}:vxe (.bl k) a b=if k=true then a else b:=nd (by with_unfolding_all rfl)
def Wo{α:Type}(m:Option α)(E:En)(P:En->α->Prop):Prop:=Vo m (P E)
theorem wo_some{α:Type}{a:α}{E:En}{P:En->α->Prop}:Wo (some a) E P=P E a:=by unfold Wo;exact vo_some
theorem wo_map{α β:Type}{x:Option β}{f:β->α}{E:En}{P:En->α->Prop}:Wo (x.map f) E P=Wo x E (λE a=>P E (f a)):=by unfold Wo;exact vo_map
def Oe(f:Fn)(xs:List Sd)(E:En)(P:En->Sd->Prop)(X:XP):Prop:=Oo f xs (P E) X
def intP(d:D)(P:Int->Prop):Prop:=match d with
 |.int i=>P i
 |_=>False
def Ie(d:D)(E:En)(P:En->Int->Prop):Prop:=intP d (P E)
theorem ie_i{i:Int}{E:En}{P:En->Int->Prop}:Ie (.int i) E P=P E i:=nd (by with_unfolding_all rfl)
section
variable {P:En->Sd->Prop}{T:En->Bool->Prop}{X:XP}{N C:En->Prop}{R:Sd->Prop}{E:En}{e:Option Sd}{a b c:Ex}{t u:Ts}{i:Nat}
theorem w_seq{a b:Sm}:Po (j7 a b (e::E)) N C R X=Po (a (e::E)) (λE=>Po (b E) N C R X) C R X:=vqp
theorem w_asg:Po (jx i c (e::E)) N C R X=Eo (c (e::E)) (λE x=>N (E.set i (some x))) X:=by unfold jx;rw[KW];with_unfolding_all rfl
theorem w_expr:Po (Zz c (e::E)) N C R X=Eo (c (e::E)) (λE _=>N E) X:=by unfold Zz;rw[KW];with_unfolding_all rfl
theorem w_ret:Po (jq c (e::E)) N C R X=Eo (c (e::E)) (λ_ x=>R x) X:=by unfold jq;rw[KW];with_unfolding_all rfl
theorem w_pass:Po (kz (e::E)) N C R X=N (e::E):=nd (by with_unfolding_all rfl)
theorem w_if{a b:Sm}:Po (sIf t a b (e::E)) N C R X=Eo (t (e::E)) (λE k=>if k=true then Po (a E) N C R X else Po (b E) N C R X) X:=by
 unfold sIf;rw[KW];congr 1;funext E k;cases k<;>with_unfolding_all rfl
theorem w_fz{s:Sm}:Po (sFz i s (e::E)) N C R X=Po (s (W5 i (e::E))) N C R X:=nd (by with_unfolding_all rfl)
theorem w_vV:Eo (vV i (e::E)) P X=Wo (sl (e::E)[i]?) (e::E) P:=by
 unfold vV Wo;cases(e::E)[i]? with
 |none=>with_unfolding_all rfl
 |some q=>cases q<;>with_unfolding_all rfl
theorem w_cV:Eo (cV i (e::E)) P X=Wo (sl (e::E)[i]?) (e::E) (λE x=>P (E.set i (some (.no,x.2))) (.no,x.2)):=by
 unfold cV Wo;cases(e::E)[i]? with
 |none=>with_unfolding_all rfl
 |some q=>cases q<;>with_unfolding_all rfl
theorem w_cMv:Eo (cMv i (e::E)) P X=Wo (sl (e::E)[i]?) (e::E) (λE x=>P (E.set i none) x):=by
 unfold cMv Wo;cases(e::E)[i]? with
 |none=>with_unfolding_all rfl
 |some q=>cases q<;>with_unfolding_all rfl
theorem w_cC{d:D}:Eo (cC d (e::E)) P X=P (e::E) (.dp,d):=nd (by with_unfolding_all rfl)
theorem w_vE:Eo (vE c (e::E)) P X=Eo (c (e::E)) (λE x=>P E (.no,x.2)) X:=by unfold vE;rw[k5];with_unfolding_all rfl
theorem w_cH:Eo (cH c (e::E)) P X=Eo (c (e::E)) (λE x=>if x.1=.no then P E (.no,x.2)else if x.2.pure=true then P E (.dp,x.2)else False) X:=by
 unfold cH;rw[k5]
 congr 1
 funext E x
 by_cases h:x.1=.no
 ·rw[Xf h,Xf h];with_unfolding_all rfl
 ·rw[Xm h,Xm h]
  by_cases h2:x.2.pure=true
  ·rw[Xf h2,Xf h2];with_unfolding_all rfl
  ·rw[Xm h2,Xm h2];with_unfolding_all rfl
theorem w_f1{f:Sd->Option Sd}:Eo (cF1 f a (e::E)) P X=Eo (a (e::E)) (λE x=>Wo (f x) E P) X:=by
 unfold cF1;rw[k5];congr 1;funext E x;exact x9
theorem w_f2{f:Sd->Sd->Option Sd}:Eo (cF2 f a b (e::E)) P X=Eo (a (e::E)) (λE x=>Eo (b E) (λE y=>Wo (f x y) E P) X) X:=by
 unfold cF2;rw[k5];congr 1;funext E x;rw[k5];congr 1;funext E y;exact x9
theorem w_ix:Eo (j8 a b (e::E)) P X=Eo (a (e::E)) (λE x=>Eo (b E) (λE y=>Wo (jw x.2 y.2) E (λE d=>P E (sub x.1,d))) X) X:=by
 unfold j8;rw[k5];congr 1;funext E x;rw[k5];congr 1;funext E y;rw[x9];exact vo_map
theorem w_tE:Eo (tE c (e::E)) T X=Eo (c (e::E)) (λE x=>Wo (truth x.2) E T) X:=by
 unfold tE;rw[k5];congr 1;funext E x;exact x9
theorem w_tEQ:Eo (tEQ c (e::E)) T X=Eo (c (e::E)) (λE x=>Wo (truthQ x.2) E T) X:=by
 unfold tEQ;rw[k5];congr 1;funext E x;exact x9
theorem w_tNot:Eo (tNot t (e::E)) T X=Eo (t (e::E)) (λE k=>T E (!k)) X:=by unfold tNot;rw[k5];with_unfolding_all rfl
theorem w_tAnd:Eo (tAnd t u (e::E)) T X=Eo (t (e::E)) (λE k=>if k=true then Eo (u E) T X else T E false) X:=by
 unfold tAnd;rw[k5];congr 1;funext E k;cases k<;>with_unfolding_all rfl
theorem w_tOr:Eo (tOr t u (e::E)) T X=Eo (t (e::E)) (λE k=>if k=true then T E true else Eo (u E) T X) X:=by
 unfold tOr;rw[k5];congr 1;funext E k;cases k<;>with_unfolding_all rfl
theorem w_tYes:Eo (tYes (e::E)) T X=T (e::E) true:=nd (by with_unfolding_all rfl)
theorem w_cAnd:Eo (wK a b (e::E)) P X=Eo (a (e::E)) (λE x=>vxe x.2 (Eo (b E) P X) (P E (.dp,.bl false))) X:=by
 rw[vjw,k5];congr 1;funext E x;cases x.2 with
 |bl k=>cases k<;>with_unfolding_all rfl
 |_=>with_unfolding_all rfl
theorem w_cOr:Eo (cOr a b (e::E)) P X=Eo (a (e::E)) (λE x=>vxe x.2 (P E (.dp,.bl true)) (Eo (b E) P X)) X:=by
 rw[vwl,k5];congr 1;funext E x;cases x.2 with
 |bl k=>cases k<;>with_unfolding_all rfl
 |_=>with_unfolding_all rfl
theorem w_cNotQ:Eo (qwu c (e::E)) P X=Eo (c (e::E)) (λE x=>Wo (truthQ x.2) E (λE k=>P E (.dp,.bl (!k)))) X:=by
 unfold qwu;rw[k5];congr 1;funext E x;rw[x9];exact vo_map
theorem w_call{f:Fn}{cs:List Ex}:Eo (jQ f cs (e::E)) P X=Eo (kJ cs (e::E)) (λE xs=>Oe f (letAll xs) E P X) X:=by with_unfolding_all exact vjo
theorem w_callB{f:Fn}{cs:List Ex}:Eo (J5 f cs (e::E)) P X=Eo (kJ cs (e::E)) (λE xs=>Oe f (letAll xs) E (λE y=>y.2.pure=true/\P E (.dp,y.2)) X) X:=by with_unfolding_all exact qwk
theorem w_partN{P:En->Option Int->Prop}:Eo (QK none (e::E)) P X=P (e::E) none:=nd (by with_unfolding_all rfl)
theorem w_partS{P:En->Option Int->Prop}:Eo (QK (some c) (e::E)) P X=Eo (c (e::E)) (λE x=>Ie x.2 E (λE i=>P E (some i))) X:=by
 show Eo (bnd (c (e::E)) _) P X=_;rw[k5];congr 1;funext E x;unfold Ie;cases x.2<;>with_unfolding_all rfl
theorem w_sl{lo hi:Option Ex}:Eo (cSl a lo hi (e::E)) P X=Eo (a (e::E)) (λE x=>Eo (QK lo E) (λE l=>Eo (QK hi E) (λE h=>Wo (fSl x l h) E P) X) X) X:=by
 unfold cSl;rw[k5];congr 1;funext E x;rw[k5];congr 1;funext E l;rw[k5];congr 1;funext E h;exact x9
theorem w_itS{P:En->List D->Prop}:Eo (itS c (e::E)) P X=Eo (c (e::E)) (λE x=>Wo (seqOf x.2) E P) X:=by
 unfold itS;rw[k5]
 congr 1
 funext E x;exact x9
end
theorem args_nil{e:Option Sd}{E:En}{P:En->List Sd->Prop}{X:XP}:Eo (kJ [] (e::E)) P X=P (e::E) []:=nd (by with_unfolding_all rfl)
theorem args_cons{e:Option Sd}{E:En}{c:Ex}{cs:List Ex}{P:En->List Sd->Prop}{X:XP}:Eo (kJ (c::cs) (e::E)) P X=Eo (c (e::E)) (λE x=>Eo (kJ cs E) (λE xs=>P E (x::xs)) X) X:=by
 show Eo (bnd (c (e::E)) λE x=>bnd (kJ cs E) λE xs=>some (.ok E (x::xs))) P X=_;rw[k5]
 congr 1
 funext E x;rw[k5]
 with_unfolding_all rfl
theorem eo_tup{e:Option Sd}{E:En}{cs:List Ex}{P:En->Sd->Prop}{X:XP}:Eo (v9 .no cs (e::E)) P X=Eo (kJ cs (e::E)) (λE xs=>P E (.no,.tup (xs.map (·.2)))) X:=by
 unfold v9;rw[k5]
 with_unfolding_all rfl
theorem eo_lst{e:Option Sd}{E:En}{cs:List Ex}{P:En->Sd->Prop}{X:XP}:Eo (qY .rt cs (e::E)) P X=Eo (kJ cs (e::E)) (λE xs=>P E (.rt,.lst (xs.map (·.2)))) X:=by
 unfold qY;rw[k5]
 with_unfolding_all rfl
theorem JW{c:Ex}{E:En}{P:En->List D->Prop}{X:XP}(h:Eo (c E) (λE x=>∃n:Int,x.2=.int n/\n<=1000/\-1000<=n/\P E (kj 0 n)) X):Eo (qJ c E) P X:=by
 unfold qJ;rw[k5];refine h.mono ?_;rintro E ⟨o,d⟩ ⟨n,rfl,h1,h2,h3⟩;have:J0 n=true:=by unfold J0;rw[Yd (by omega),Yd (by omega)];with_unfolding_all rfl
 show Eo (if J0 n=true/\n.toNat<=big then _ else _) P X;rw[Xf ⟨this,by unfold big;omega⟩]
 with_unfolding_all exact h3
theorem vwq{i:Nat}{c:Ex}{E:En}{o:Own}{xs:List D}{N C:En->Prop}{R:Sd->Prop}{X:XP}(h0:E[i]?=some (some (o,.lst xs)))
  (h:Eo (c E) (λE1 x=>∃o ys,E1[i]?=some (some (o,.lst ys))/\o≠.no/\ys.length<10000/\N (E1.set i (some (if o=.dp/\qW x then .dp else .rt,.lst (ys++[x.2]))))) X):Po (xv x8 i c E) N C R X:=by
 unfold xv;rw[h0,Xf (show vjh (some (some (o,.lst xs)))=true from rfl),KW];refine h.mono ?_;rintro E1 x ⟨o,ys,h1,h2,h3,h4⟩;rw[h1];dsimp only;have hg:x8 ys x.2=some (ys++[x.2]):=by unfold x8;rw[Xf (by unfold big;omega)]
 rw[Xm h2,hg]
 with_unfolding_all exact h4
theorem vwp{i:Nat}{c:Ex}{E:En}{xs:List D}{N C:En->Prop}{R:Sd->Prop}{X:XP}(h0:E[i]?=some (some (.rt,.lst xs)))
  (h:Eo (c E) (λE1 x=>∃ys,E1[i]?=some (some (.rt,.lst ys))/\ys.length<10000/\N (E1.set i (some (.rt,.lst (ys++[x.2]))))) X):Po (xv x8 i c E) N C R X:=
 vwq h0 (h.mono λE1 x ⟨ys,h1,h2,h3⟩=>⟨.rt,ys,h1,by decide,h2,by rw[Xm (by rintro ⟨z,_⟩;cases z)];with_unfolding_all exact h3⟩)
theorem rng_ok{n:Int}(h1:-1000<=n)(h2:n<=1000):(J0 n=true/\n.toNat<=big)=True:=by
 have:J0 n=true:=by unfold J0;rw[Yd (by omega),Yd (by omega)];with_unfolding_all rfl
 with_unfolding_all exact eq_true ⟨this,by unfold big;omega⟩
theorem kqi{α:Type}{p:Prop}[Decidable p]{a:Option (Res α)}{P:En->α->Prop}{X:XP}:Eo (if p then a else none) P X=(p/\Eo a P X):=by
 by_cases h:p
 ·rw[Xf h];with_unfolding_all exact propext ⟨λz=>⟨h,z⟩,λz=>z.2⟩
 ·rw[Xm h];with_unfolding_all exact propext ⟨λz=>z.elim,λz=>h z.1⟩
theorem w_R1{c:Ex}{e:Option Sd}{E:En}{P:En->List D->Prop}{X:XP}:Eo (qJ c (e::E)) P X=Eo (c (e::E)) (λE x=>Ie x.2 E λE n=>(J0 n=true/\n.toNat<=big)/\P E (kj 0 n)) X:=by
 unfold qJ;rw[k5];congr 1;funext E x;cases x.2 with
 |int n=>with_unfolding_all exact kqi
 |_=>with_unfolding_all rfl
theorem qks{i:Nat}{j c:Ex}{E:En}{xs:List D}{N C:En->Prop}{R:Sd->Prop}{X:XP}(h0:E[i]?=some (some (.dp,.lst xs)))
  (h:Eo (j E) (λE1 y=>∃(n:Int) (ys:List D),y.2=.int n/\0<=n/\E1[i]?=some (some (.dp,.lst xs))/\xs[n.toNat]?=some (.lst ys)/\ys.length<10000/\Eo (c E1) (λE2 x=>E2[i]?=some (some (.dp,.lst xs))/\qW x=true/\N (E2.set i (some (.dp,.lst (xs.set n.toNat (.lst (ys++[x.2]))))))) X) X):Po (K7 i j c E) N C R X:=by
 unfold K7;rw[h0,Xf (show vzj (some (some (Own.dp,D.lst xs)))=true from rfl),KW];refine h.mono ?_;rintro E1 ⟨o,d⟩ ⟨n,ys,rfl,hn,h1,h2,h3,h4⟩;have hl:n.toNat<xs.length:=(List.getElem?_eq_some_iff.mp h2).1;have hx:ixN xs.length n=some n.toNat:=by unfold ixN;rw[Xf hn,Xf (by omega)]
 rw[h1];dsimp only;rw[hx];dsimp only;rw[h2];dsimp only;rw[KW];refine h4.mono ?_;rintro E2 x ⟨g1,g2,g3⟩;rw[g1];dsimp only;rw[h2];dsimp only;rw[Xf ⟨g2,by unfold big;omega⟩]
 with_unfolding_all exact g3
theorem lst_dp0{e:Option Sd}{E:En}{P:En->Sd->Prop}{X:XP}:Eo (qY .dp [] (e::E)) P X=P (e::E) (.dp,.lst []):=nd (by with_unfolding_all rfl)
theorem qq0{E:En}{ys:List Sd}{P:En->Sd->Prop}{X:XP}(h:ys.all qW=true):Eo (mkL .dp E ys) P X=P E (.dp,.lst (ys.map (·.2))):=by
 unfold mkL;rw[Xf rfl,Xf h];with_unfolding_all rfl
theorem vkw{o:Own}{xs:List D}{lo hi:Option Int}(h:o≠.dp):fSl (o,.lst xs) lo hi=some (.rt,.lst (QX xs lo hi)):=by
 show(if qx (o,.lst xs)then _ else _)=_;rw[Xf (by cases o<;>simp_all [qx])]
theorem vzo{i:Nat}{E:En}{o:Own}{d:D}(h:E[i]?=some (some (o,d))):W5 i E=E.set i (some (.no,d)):=by unfold W5;rw[h]
theorem sub_no:sub .no=.no:=nd (by with_unfolding_all rfl)
theorem sub_rt:sub .rt=.no:=nd (by with_unfolding_all rfl)
theorem sub_dp:sub .dp=.dp:=nd (by with_unfolding_all rfl)
theorem Oo.use{ι:Sort _}{f:Fn}{xs:List Sd}{g:ι->Sd}{S:ι->Prop}{E:En}{P:En->Sd->Prop}{X:XP}(h:Oo f xs (λy=>∃i,y=g i/\S i) X)(k:∀i,S i->P E (g i)):Oe f xs E P X:=h.mono λy ⟨i,e,s⟩=>e▸k i s
theorem Oo.via{f:Fn}{xs:List Sd}{S:Sd->Prop}{E:En}{P:En->Sd->Prop}{X:XP}(h:Oo f xs S X)(k:∀y,S y->P E y):Oe f xs E P X:=h.mono k
theorem vW{E:En}{ys:List Sd}{P:En->Sd->Prop}{X:XP}:Eo (mkL .rt E ys) P X=P E (.rt,.lst (ys.map (·.2))):=nd (by with_unfolding_all rfl)
theorem w_zip{c d:Ex}{e:Option Sd}{E:En}{P:En->List D->Prop}{X:XP}:Eo (qqe c d (e::E)) P X=Eo (c (e::E)) (λE x=>Eo (d E) (λE y=>Wo ((lstOf x.2).bind λxs=>(lstOf y.2).bind λys=>if xs.length<=big then some (v7 xs ys)else none) E P) X) X:=by
 unfold qqe;rw[k5];congr 1;funext E x;rw[k5];congr 1;funext E y;exact x9
theorem w_chain{f g:D->D->Option D}{a b c:Ex}{e:Option Sd}{E:En}{P:En->Sd->Prop}{X:XP}:Eo (zj f g a b c (e::E)) P X=Eo (a (e::E)) (λE x=>Eo (b E) (λE y=>Wo (f x.2 y.2) E λE d=>vxe d (Eo (c E) (λE z=>Wo (g y.2 z.2) E λE d=>P E (.dp,d)) X) (P E (.dp,.bl false))) X) X:=by
 unfold zj;rw [k5]
 congr 1
 funext E x;rw [k5]
 congr 1
 funext E y;cases f x.2 y.2 with
 | none=>with_unfolding_all rfl
 | some d=>
  rw[wo_some];cases d with
  | bl k=>
   rw[andP_bl];cases k with
   |false=>with_unfolding_all rfl
   |true=>
    rw[Xf rfl];dsimp only;rw[k5]
    congr 1
    funext E z;rw[x9];exact vo_map
  |_=>with_unfolding_all rfl
section
variable {a b c kc vc:Ex}{e:Option Sd}{E:En}{X:XP}{N C:En->Prop}{R:Sd->Prop}{P:En->Sd->Prop}
theorem vkf{z:Str}:Eo (Z9 z c (e::E)) P X=Eo (c (e::E)) (λE x=>Wo (XV z x.2) E (λE d=>P E (.dp,d))) X:=by
 unfold Z9;rw[k5];congr 1;funext E x;rw[x9];exact vo_map
end
section
variable {a b c kc vc:Ex}{e:Option Sd}{E:En}{X:XP}{N C:En->Prop}{R:Sd->Prop}{P:En->Sd->Prop}
theorem vkg:Eo (qwv a b (e::E)) P X=Eo (a (e::E)) (λE x=>kz5 x.2=true/\Eo (b E) (λE y=>Wo (Zk x.2 y.2) E (λE d=>P E (.dp,d))) X) X:=by
 unfold qwv;rw[k5];congr 1;funext E x;rw[kqi];congr 1;rw[k5];congr 1;funext E y;rw[x9];exact vo_map
end
section
variable {a b c:Ex}{cs:List Ex}{e:Option Sd}{E:En}{X:XP}{N C:En->Prop}{R:Sd->Prop}{P:En->Sd->Prop}{i r:Nat}{p:List Nat}{d:D}{ds:List D}
theorem XQ:Eo (K1 c (e::E)) P X=Eo (c (e::E)) (λE x=>VV x=true/\P E (.dp,x.2)) X:=by
 unfold K1;rw[k5];congr 1;funext E x;rw[kqi,Zx]
theorem kx7:Eo (v9 .dp cs (e::E)) P X=Eo (kJ cs (e::E)) (λE xs=>xs.all qW=true/\P E (.dp,.tup (xs.map (·.2)))) X:=by
 unfold v9;rw[k5];congr 1;funext E x;rw[Xf rfl,kqi,Zx]
theorem vv0(h0:E[i]?=some (some (.dp,d)))(gz:D.at p d=some (.lst ds))(h:N (E.set i (some (.dp,D.put (.lst []) p d)))):Po (sPC i p E) N C R X:=by
 unfold sPC;rw[h0];dsimp only;rw[gz];dsimp only;rw[qzl];exact h
end
section
variable {a b c kc vc:Ex}{cs:List Ex}{e:Option Sd}{E:En}{X:XP}{N C:En->Prop}{R:Sd->Prop}{P:En->Sd->Prop}{i r n:Nat}{t:Ts}
def Z8(s:Option (Option Sd))(Q:Sd->Prop):Prop:=match s with
 |some (some x)=>Q x
 |_=>False
noncomputable def Om(m:Option Fl)(n:Nat)(N:En->Prop)(P:Sd->Sd->Prop)(X:XP):Prop:=match m with
 |some (.nx E)=>N E
 |some (.rt E x)=>Z8 E[n]? (P x)
 |some (.xc _ c)=>X c
 |_=>False
noncomputable def Oom(f:Fn)(xs:List Sd)(n:Nat)(P:Sd->Sd->Prop)(X:XP):Prop:=match f xs with
 |some (.ok E y)=>Z8 E[n]? (P y)
 |some (.exc _ c)=>X c
 |none=>False
theorem vve{nn:Nat}{b:Sm}{xs:List Sd}{P:Sd->Sd->Prop}(h:Om (b (xs.map some++List.replicate (nn - xs.length) none)) n (λE=>Z8 E[n]? (P (.dp,.non))) P X):Oom (fn nn b) xs n P X:=by
 unfold Oom fn;cases hb:b (xs.map some++List.replicate (nn - xs.length) none)with
 |none=>rw[hb]at h;exact h.elim
 |some f=>
  rw[hb]at h;cases f with
  |nx E=>exact h
  |rt E x=>exact h
  |xc E c=>exact h
  |ct E=>exact h.elim
  |bk E=>exact h.elim
theorem qxd{a b:Sm}{P:Sd->Sd->Prop}(h:Om (a E) n (λE=>Om (b E) n N P X) P X):Om (j7 a b E) n N P X:=by
 unfold j7;cases ha:a E with
 |none=>rw[ha]at h;exact h.elim
 |some f=>
  rw[ha]at h;cases f with
  |nx E=>exact h
  |rt E x=>exact h
  |xc E c=>exact h
  |ct E=>exact h.elim
  |bk E=>exact h.elim
theorem vj2{m:Option Fl}{P:Sd->Sd->Prop}(h:Po m N (λ_=>False) (λ_=>False) X):Om m n N P X:=by
 cases m with
 |none=>with_unfolding_all exact h
 |some f=>
  cases f with
  |nx E=>rw[qzl]at h;exact h
  |rt E x=>rw[vz7]at h;exact h.elim
  |xc E c=>with_unfolding_all exact h
  |ct E=>with_unfolding_all exact h
  |bk E=>with_unfolding_all exact h
theorem kzh{f:Fn}(h:Eo (kJ cs E) (λE1 xs=>∃x,E1[i]?=some (some x)/\Oom f (letAll xs++[x]) xs.length (λy x'=>P (E1.set i (some x')) y) X) X):Eo (WZ f i cs E) P X:=by
 unfold WZ;rw [k5];refine h.mono ?_;rintro E1 xs ⟨x,e1,h1⟩;rw [e1];dsimp only;unfold Oom at h1;cases hf:f (letAll xs++[x])with
 | none=>rw[hf]at h1;exact h1.elim
 | some rr=>
  rw[hf]at h1;cases rr with
  | exc E' c=>dsimp only;rw[qxi];exact h1
  | ok E' y=>
   dsimp only at h1 ⊢;unfold Z8 at h1;cases hs:E'[xs.length]? with
   |none=>rw[hs]at h1;exact h1.elim
   |some s=>
    rw[hs]at h1;cases s with
    |none=>exact h1.elim
    |some x'=>dsimp only at h1 ⊢;rw[Zx];exact h1
theorem Oom.mono{f:Fn}{xs:List Sd}{P Q:Sd->Sd->Prop}{X Y:XP}(h:Oom f xs n P X)(hp:∀y x,P y x->Q y x)(hx:∀c,X c->Y c):Oom f xs n Q Y:=by
 unfold Oom at h ⊢;cases hf:f xs with
 | none=>rw[hf]at h;exact h.elim
 | some rr=>
  rw[hf]at h;cases rr with
  | exc E' c=>exact hx c h
  | ok E' y=>
   dsimp only at h ⊢;unfold Z8 at h ⊢;cases hs:E'[n]? with
   |none=>rw[hs]at h;exact h.elim
   |some s=>
    rw[hs]at h;cases s with
    |none=>exact h.elim
    |some x'=>exact hp _ _ h
end
end Q
namespace C
open PySem Q
noncomputable def jvn:Fn:=fn 4
  (j7 (jx 2 (qY .rt []))
  (j7 (wq (itS (cV 1)) (.n 3) (j7 (xv x8 2 (cF2 (pu2 jJ) (vV 0) (vV 3)))
  (jx 0 (cF2 (pu2 qv) (vV 0) (vV 3)))))
  (jq (cMv 2))))
noncomputable def KY:Fn:=fn 11
  (j7 (jx 2 (cC (.str "abcdefghijklmnopqrstuvwxyz")))
  (j7 (sTup [3,4,5] (jQ jvn [(cV 0),(qY .rt [(cC (.int 8)),(cC (.int 840)),(cC (.int 8))])]))
  (j7 (jx 4 (cF2 (pu2 jJ) (vV 4) (vE (cF2 jz (vV 3) (C9 1)))))
  (j7 (jx 6 (qY .rt []))
  (j7 (wq (qJ (vV 1)) (.n 7) (j7 (jx 8 (cC (.str "")))
  (j7 (wq (qJ (vE (cF2 jz (vV 3) (C9 1)))) (.n 9) (j7 (jx 10 (cF2 jz (vE (cF2 (pu2 qv) (vV 0) (vE (cF2 jz (C9 53761) (vE (cF2 qX (vE (cF2 qX (C9 26) (vV 9))) (vV 9))))))) (vE (cF2 qX (vE (cF2 qX (vV 7) (vE (cF2 jz (vV 5) (C9 1))))) (vE (cF1 (pu1 wk1) (vE (cF2 (pu2 fEq) (vV 9) (vV 4)))))))))
  (jx 8 (cF2 jz (vV 8) (j8 (vV 2) (vE (cF2 (pu2 jJ) (vV 10) (C9 26))))))))
  (xv x8 6 (cV 8)))))
  (jq (cF1 V6 (vV 6))))))))
noncomputable def QY(dr:Fn):Fn:=fn 15
  (j7 (jx 3 (jQ jvn [(jQ dr [(cV 0),(cV 1)]),(cF2 jz (vE (cF2 jz (vE (qY .rt [(cC (.int 4)),(cC (.int 8)),(cC (.int 12))])) (vE (cF2 qX (vE (qY .rt [(cC (.int 12))])) (C9 4))))) (vE (cF2 qX (vE (qY .rt [(cC (.int 2))])) (C9 4))))]))
  (j7 (jx 4 (cF2 jz (C9 1) (j8 (vV 3) (C9 0))))
  (j7 (jx 5 (cLC .rt 1 [3] (qJ (vV 4)) (.n 0) tYes (cF2 (pu2 jJ) (j8 (vV 1) (vE (cF2 jz (C9 3) (vV 0)))) (vE (cF2 jz (C9 3) (vE (cF1 (pu1 wk1) (vE (cF2 (pu2 fEq) (j8 (vV 1) (C9 1)) (C9 3))))))))))
  (j7 (jx 6 (cLC .dp 1 [] (qJ (vV 4)) (.n 0) tYes (qY .dp [])))
  (j7 (wq (qJ (vE (cF2 jz (C9 3) (j8 (vV 3) (C9 2))))) (.n 7) (j7 (jx 8 (jQ jvn [(jQ dr [(cV 0),(cF2 jz (vE (cF2 jz (vV 1) (C9 1))) (vV 7))]),(cF2 jz (vE (qY .rt [(cC (.int 12)),(cC (.int 6)),(cC (.int 60)),(cC (.int 12))])) (vE (cF2 qX (vE (qY .rt [(cC (.int 60))])) (C9 3))))]))
  (j7 (jx 9 (cH (j8 (vV 5) (vE (cF2 (pu2 jJ) (j8 (vV 8) (C9 0)) (vV 4))))))
  (j7 (jx 10 (cF2 (pu2 jJ) (j8 (vV 8) (C9 3)) (vV 4)))
  (j7 (jx 11 (cF2 jz (vE (qY .rt [(cC (.str "new")),(cC .non)])) (vE (wk2 (vV 9)))))
  (j7 (jx 12 (cF1 Wj (vE (cLC .rt 1 [11] (itS (cSl (vV 8) (some (C9 4)) (some (vE (cF2 jz (C9 4) (j8 (vV 5) (vV 10))))))) (.n 0) tYes (cH (j8 (vV 1) (vE (cF2 (pu2 jJ) (vV 0) (vE (cF1 (pu1 v6) (vV 1)))))))))))
  (j7 (jx 13 (cH (j8 (vE (cF2 jz (vE (qY .rt [(cC (.str "fresh")),(cC (.str "any"))])) (vE (wk2 (vV 9))))) (vE (cF2 (pu2 jJ) (j8 (vV 8) (C9 2)) (vE (cF2 jz (C9 2) (vV 9))))))))
  (K7 6 (vE (cF2 (pu2 jJ) (j8 (vV 8) (C9 0)) (vV 4))) (v9 .no [(cH (j8 (vV 2) (vE (cF2 (pu2 jJ) (j8 (vV 8) (C9 1)) (vE (cF1 (pu1 v6) (vV 2))))))),(cV 13),(cV 10),(cV 12)])))))))))
  (j7 (sFz 6 (jx 14 (cLC .rt 1 [5,3,6] (qJ (vV 4)) (.n 0) tYes (v9 .no [(cH (j8 (vV 1) (vV 0))),(cF2 (pu2 fEq) (j8 (vV 2) (vE (cF2 jz (C9 7) (vV 0)))) (C9 1)),(cH (j8 (vV 3) (vV 0)))]))))
  (jq (v9 .no [(v9 .no [(cF1 J3 (vV 2)),(cV 14)]),(cF2 jz (vE (cF2 jz (vV 1) (C9 4))) (j8 (vV 3) (C9 2)))]))))))))
noncomputable def W1:Fn:=fn 1
  (jq (v9 .no [(cF1 J3 (j8 (vV 0) (C9 0))),(cLC .rt 1 [] (itS (cH (j8 (vV 0) (C9 1)))) (.n 0) tYes (v9 .no [(cH (j8 (vV 0) (C9 0))),(cH (j8 (vV 0) (C9 1))),(cF1 J3 (j8 (vV 0) (C9 2)))]))]))
end C
local macro_rules
 | `(tactic| simp![$ts,*])=>`(tactic| simp(config:={ maxSteps:=1000000,failIfUnchanged:=false,implicitDefEqProofs:=true }) (disch:=omega) only[↓Q.w_seq,↓Q.w_asg,↓Q.w_expr,↓Q.w_ret,↓Q.w_pass,↓Q.w_if,↓Q.w_vV,↓Q.w_cV,↓Q.w_cMv,↓Q.w_cC,↓Q.w_vE,↓Q.w_cH,↓Q.w_f1,↓Q.w_f2,↓Q.w_ix,↓Q.w_tE,↓Q.w_tEQ,↓Q.w_tNot,↓Q.w_tAnd,↓Q.w_tOr,↓Q.w_tYes,↓Q.w_cAnd,↓Q.w_cOr,↓Q.w_cNotQ,↓Q.w_call,↓Q.w_callB,↓Q.w_partN,↓Q.w_partS,↓Q.w_sl,↓Q.w_itS,↓Q.w_zip,↓Q.w_chain,↓Q.w_R1,Q.rng_ok,true_and,Q.lst_dp0,↓Q.ie_i,Q.isSq,Q.sl_some,↓Q.andP_bl,↓Q.vo_some,↓Q.vo_map,↓Q.wo_some,↓Q.wo_map,↓Q.args_nil,↓Q.args_cons,↓Q.eo_tup,↓Q.eo_lst,Q.letAll,Q.pu2,Q.pu1,Q.f2First,Q.fIsNon,Q.fNotNon,Q.isNon,List.map_cons,List.map_nil,List.cons_append,List.nil_append,Xp,List.length_nil,X6,Nat.reduceAdd,Nat.reduceSub,List.replicate,List.set_cons_zero,List.set_cons_succ,List.getElem?_cons_zero,List.getElem?_cons_succ,Q.len_l,Q.len_t,Q.lt_ii,Q.gt_ii,Q.le_ii,Q.ge_ii,Q.add_i,Q.sub_i,Q.div_i,Q.mod_i,Q.mulT_i,Q.mul_l,Option.map_some,Q.truth,Q.truthQ,Q.D.pure,↓reduceIte,if_true,if_false,ite_true,ite_false,Q.sub_no,Q.sub_rt,Q.sub_dp,Bool.false_eq_true,reduceCtorEq,Bool.not_true,Bool.not_false,Q.Tg.put,Q.setAll,Q.seqOf,Q.lstOf,$ts,*])
namespace C
open Q PySem
abbrev most:Int:=1000*10 ^ 64
abbrev iL(ns:List Int):D:=.lst (ns.map D.int)
def Each(G:D->Sd->Prop):List D->List Sd->Prop
 |[],[]=>True
 |d::ds,y::ys=>G d y/\Each G ds ys
 |_,_=>False
theorem Each.snoc{G:D->Sd->Prop}{d:D}{y:Sd}(h:G d y):∀{ds:List D} {ys:List Sd},Each G ds ys->Each G (ds++[d]) (ys++[y])
 |[],[],_=>⟨h,trivial⟩
 |_::_,_::_,r=>⟨r.1,Each.snoc h r.2⟩
theorem vX{X:XP}{E:En}{o:Own}{r:List Nat}{it:Ev (List D)}{c:Ex}{P:En->Sd->Prop}(j9:En)(G:D->Sd->Prop)(h0:Eo (it E) (λE1 ds=>r.map (at' E1)=j9/\(∀d∈ds,Eo (c (some (.no,d)::j9)) (λB y=>(∃q,B=q::j9)/\G d y) X)/\∀ys,Each G ds ys->Eo (mkL o (back r j9 (clr r E1)) ys) P X) X):Eo (cLC o 1 r it (.n 0) tYes c E) P X:=by
 refine qwi (λE1 B fy af=>∃ds bi q,ds=bi++fy/\B=q::j9/\Each G bi af/\(∀d∈ds,Eo (c (some (.no,d)::j9)) (λB y=>(∃q,B=q::j9)/\G d y) X)/\∀ys,Each G ds ys->Eo (mkL o (back r j9 (clr r E1)) ys) P X) ?_ ?_ ?_
 ·refine h0.mono λE1 ds ⟨h1,h2,h3⟩=>⟨ds,[],none,rfl,by rw[<-h1];rfl,trivial,h2,h3⟩
 ·rintro E1 B d fy af ⟨ds,bi,q,e,rfl,hE,h2,h3⟩;have hp:(Tg.n 0).put d (q::j9)=some (some (.no,d)::j9):=rfl;rw[hp,vo_some,show tYes (some (Own.no,d)::j9)=some (.ok (some (Own.no,d)::j9) true)from rfl,Zx,Xf rfl];refine(h2 d (by rw[e];simp)).mono ?_;rintro B y ⟨⟨q',rfl⟩,hG⟩;exact⟨ds,bi++[d],q',by rw[e];simp,rfl,hE.snoc hG,h2,h3⟩
 ·rintro E1 B af ⟨ds,bi,q,e,rfl,hE,h2,h3⟩;rw[Y9]at e;subst e;exact h3 af hE
theorem kvz{G:D->Sd->Prop}{S:Int->Prop}(hG:∀d y,G d y->∃i,y.2=.int i/\S i):∀{ds:List D} {ys:List Sd},Each G ds ys->∃ps:List Int,ys.map (·.2)=ps.map D.int/\ps.length=ds.length/\∀p∈ps,S p
 |[],[],_=>⟨[],rfl,rfl,λ_ h=>nomatch h⟩
 |d::ds,y::ys,r=>by
  obtain⟨i,e,s⟩:=hG d y r.1;obtain⟨ps,h1,h2,h3⟩:=kvz hG r.2;exact⟨i::ps,by simp[e,h1],by simp[h2],λp hp=>(List.mem_cons.mp hp).elim (λz=>z▸s) (h3 p)⟩
theorem kze{G:D->Sd->Prop}{S:D->Prop}(hG:∀d y,G d y->S y.2):∀{ds:List D} {ys:List Sd},Each G ds ys->∀z∈ys.map (·.2),S z
 |[],[],_,_,h=>nomatch h
 |d::ds,y::ys,r,z,h=>by
  rcases List.mem_cons.mp h with rfl|h
  ·exact hG d y r.1
  ·exact kze hG r.2 z h
theorem qk9{n:Int}:kj n n=[]:=by unfold kj;rw[Int.sub_self];rfl
theorem kk8{k n:Int}(h:k<n):kj k n=.int k::kj (k+1) n:=by
 unfold kj;have:(n - k).toNat=(n - (k+1)).toNat+1:=by
  obtain⟨m,hm⟩:=Int.eq_ofNat_of_zero_le (show 0<=n - (k+1)by omega);rw[hm,show n - k=(m+1:Nat)by omega];rfl
 rw[this,List.range_succ_eq_map,List.map_cons,Y2]
 congr 1
 ·simp
 ·apply List.map_congr_left;intro i _;simp only[Function.comp]
  congr 1
  omega
theorem qk8{k n:Int}{d:D}{ds:List D}(hk:k<=n)(h:d::ds=kj k n):k<n/\d=.int k/\ds=kj (k+1) n:=by
 by_cases hl:k<n
 ·rw[kk8 hl]at h;injection h with h1 h2;exact⟨hl,h1,h2⟩
 ·have:k=n:=by omega
  subst this;rw[qk9]at h;cases h
theorem qka{k n:Int}(hk:k<=n)(h:[]=kj k n):k=n:=by
 by_cases hl:k<n
 ·rw[kk8 hl]at h;cases h
 ·omega
theorem J4{k n:Int}{d:D}(h:d∈kj k n):∃i:Int,k<=i/\i<n/\d=.int i:=by
 unfold kj at h;obtain⟨j,hj,rfl⟩:=List.mem_map.mp h;have:=List.mem_range.mp hj;exact⟨k+j,by omega,by omega,rfl⟩
theorem YV{k n:Int}(h:k<=n):((kj k n).length:Int)=n - k:=by
 unfold kj;rw[X6,Y7];omega
theorem qvc{o1 o2:Own}{a b:Str}(h:a.cps.size+b.cps.size<=10000):jz (o1,.str a) (o2,.str b)=some (.dp,.str (a++b)):=by
 show(if a.cps.size+b.cps.size<=big then _ else _)=_;rw[Xf (by unfold big;omega)]
theorem qvn(a b:Str):(a++b).cps.size=a.cps.size+b.cps.size:=by
 show(a.cps++b.cps).size=_;exact Array.size_append
theorem kkp:∀(ss:List Str),x5 (ss.map D.str)=some ss
 |[]=>rfl
 |s::ss=>by rw[List.map_cons,x5,kkp ss];rfl
abbrev sL(ss:List Str):D:=.lst (ss.map D.str)
theorem ixI(ks:List Int)(S:Int->Prop)(hS:∀k∈ks,S k)(i:Int)(h0:0<=i)(h1:i<ks.length):∃v,jw (iL ks) (.int i)=some (.int v)/\S v/\ks[i.toNat]?=some v:=by
 have hl:i.toNat<ks.length:=by omega
 refine⟨ks[i.toNat],vK h0 (by rw[Xk,X2 hl];rfl),hS _ (Yb hl),X2 hl⟩
def Gd(n:Int)(g:D):Prop:=g=.str "fresh"\/g=.str "any"\/∃i:Int,0<=i/\i<n/\g=.int i
def Fd(n:Int)(g:D):Prop:=g=.str "new"\/g=.non\/∃i:Int,0<=i/\i<n/\g=.int i
noncomputable def St(own:Int)(d:D):Prop:=∃(z:Str) (g:D) (to:Int) (fs:List D),d=.tup [.str z,g,.int to,.tup fs]/\Gd own g/\(∀f∈fs,Fd own f)/\fs.length<=3
noncomputable def Rm(d:D):Prop:=∃(kp:Int) (gd:Bool) (ss:List D),d=.tup [.int kp,.bl gd,.lst ss]/\0<=kp/\kp<=3/\(∀s∈ss,St kp s)/\ss.length<=14
def Rms(rs:List D):Prop:=1<=rs.length/\rs.length<=4/\∀r∈rs,Rm r
def Rmw(rs:List D):Prop:=1<=rs.length/\rs.length<=12/\∀r∈rs,Rm r
instance {rs:List D}:Coe (Rms rs) (Rmw rs):=⟨λh=>⟨h.1,by have:=h.2.1;omega,h.2.2⟩⟩
noncomputable def Sx(sgs:List Str)(fe:List Int)(d:D):Prop:=∃(z:Str) (g:D) (to:Int) (fs:List D),d=.tup [.str z,g,.int to,.tup fs]/\z∈sgs/\0<=to/\to<fe.length/\(fs.length:Int)=fe.getD to.toNat 0
def At(d:D):Prop:=d=.non\/∃i,d=.int i
theorem J9{n:Nat}:∀{ks:List D},(∀k∈ks,k.flat n=true)->D.flats n ks=true
 |[],_=>by cases n<;>simp[D.flats]
 |k::ks,h=>by rw[D.flats,h k X3,J9 λe he=>h e (lc9 _ he)];rfl
mutual
theorem VX:∀{n:Nat} (d:D),d.flat n=true->peq d d=true
 |n,.non,_=>by simp[peq]
 |n,.bl b,_=>by simp[peq]
 |n,.int b,_=>by simp[peq]
 |n,.str b,_=>by simp[peq]
 |0,.tup xs,h=>by simp[D.flat]at h
 |0,.lst xs,h=>by simp[D.flat]at h
 |n+1,.tup xs,h=>by rw[peq];exact peqs_refl xs (by simpa [D.flat]using h)
 |n+1,.lst xs,h=>by rw[peq];exact peqs_refl xs (by simpa [D.flat]using h)
 |n,.dct _,h=>by cases n<;>simp[D.flat]at h
 |n,.obj _ _,h=>by cases n<;>simp[D.flat]at h
theorem peqs_refl:∀{n:Nat} (ds:List D),D.flats n ds=true->peqs ds ds=true
 |_,[],_=>by simp[peqs]
 |n,d::ds,h=>by
  rw[D.flats,Bool.and_eq_true]at h;rw[peqs,VX d h.1,peqs_refl ds h.2];rfl
end
theorem eq_self{d:D}(h:d.flat 40=true):fEq d d=some (.bl true):=by unfold fEq;rw[h,VX d h];rfl
theorem kq7{d:D}(h:d.flat 40=true):fNe d d=some (.bl false):=by unfold fNe;rw[h,VX d h];rfl
noncomputable def fitB(ks:List D)(d g:D):Bool:=match g with
 |.int i=>peq (ks.getD i.toNat .non) d
 |.str s=>if s="fresh" then !ks.any λz=>peq z d else true
 |_=>true
theorem ix1(c g r f:D):jw (.tup [c,g,r,f]) (.int 1)=some g:=rfl
theorem ix2(c g r f:D):jw (.tup [c,g,r,f]) (.int 2)=some r:=rfl
theorem p0(a b:D):jw (.tup [a,b]) (.int 0)=some a:=rfl
theorem p1(a b:D):jw (.tup [a,b]) (.int 1)=some b:=rfl
theorem t0(a b c:D):jw (.tup [a,b,c]) (.int 0)=some a:=rfl
theorem t1(a b c:D):jw (.tup [a,b,c]) (.int 1)=some b:=rfl
theorem t2(a b c:D):jw (.tup [a,b,c]) (.int 2)=some c:=rfl
def vw4(ks:List D)(d f:D):D:=match f with
 |.int i=>ks.getD i.toNat .non
 |.str _=>d
 |_=>.non
theorem K2{G:D->Sd->Prop}{h:D->D}(hG:∀d y,G d y->y.2=h d):∀{ds:List D} {ys:List Sd},Each G ds ys->ys.map (·.2)=ds.map h
 |[],[],_=>rfl
 |d::ds,y::ys,r=>by rw[List.map_cons,List.map_cons,hG d y r.1,K2 hG r.2]
abbrev vj(ss:List Str)(rs:List D):D:=.tup [sL ss,.lst rs]
def vzz(z:Str)(ks:List D)(d s:D):Bool:=match s with
 |.tup [.str w,g,_,_]=>(w==z)&&fitB ks d g
 |_=>false
noncomputable def qqr(p:D->Bool):Nat->List D->List D
 |_,[]=>[]
 |k,s::r=>if p s=true then .int k::qqr p (k+1) r else qqr p (k+1) r
def qv8(ks:List D)(d s:D):D:=match s with
 |.tup [_,_,to,.tup fs]=>.tup [to,.tup (fs.map (vw4 ks d))]
 |_=>.non
theorem vjp{G:D->Sd->Prop}(hG:∀d y,G d y->y.2=d){ds:List D}{ys:List Sd}(h:Each G ds ys):ys.map (·.2)=ds:=by
 rw[K2 (h:=id) hG h,List.map_id]
theorem kz1{o:Own}{xs:List D}(h:o≠.dp):J3 (o,.lst xs)=some (.rt,.lst xs):=by
 show(if qx (o,.lst xs)then _ else _)=_;rw[Xf (by cases o<;>simp_all [qx])]
theorem in_s{z:Str}{ss:List Str}:Q0 (.str z) (sL ss)=some (.bl (ss.any λw=>w==z)):=by
 show(if(D.str z).flat 30&&D.flats 30 (ss.map D.str)then some (D.bl ((ss.map D.str).any λw=>peq w (.str z)))else none)=_;rw[show(D.str z).flat 30=true from rfl,J9 (ks:=ss.map D.str) (λk hk=>by obtain⟨w,_,rfl⟩:=List.mem_map.mp hk;rfl),List.any_map];rfl
def wr(x:Int):Int:=if x<=0 then x else x - 10 ^ 60
def bnd1(own k:Int):Int:=own+(if k=own then 1 else 0)
noncomputable def Cs(fe:List Int)(b:Int)(c:D):Prop:=c=.non\/∃(to:Int) (fs:List Int),c=.tup [.int to,.tup (fs.map D.int)]/\0<=to/\to<fe.length/\(∀f∈fs,0<=f/\f<b)/\fs.Nodup/\(fs.length:Int)=fe.getD to.toNat 0
theorem vwr{a b:List D}(hl:a.length+b.length<=10000):jz (.no,.tup a) (.no,.tup b)=some (.no,.tup (a++b)):=by
 show(if a.length+b.length<=big/\qx (.no,.tup a)/\qx (.no,.tup b)then _ else _)=_;rw[Xf ⟨by unfold big;omega,rfl,rfl⟩]
abbrev iT(ks:List Int):D:=.tup (ks.map D.int)
def vvi(ks:List Int)(p:Int)(f:Int):Int:=(ks++[p]).getD f.toNat 0
noncomputable def wj1(ks:List Int)(p:Int)(c:D):D:=match c with
 |.tup [to,.tup fs]=>.tup [to,.tup (fs.map λf=>match f with|.int i=>.int (vvi ks p i)|_=>.non)]
 |_=>.non
noncomputable def vwk(ss:List Str)(st:List D)(ks:List Int)(z:Str)(p:Int):D:=match st[ss.findIdx λw=>w==z]? with
 |some (.lst cs)=>cs.getD (ks.findIdx λw=>w==p) .non
 |_=>.non
noncomputable def vxt(ss:List Str)(st:List D)(ks:List Int)(z:Str)(p:Int):D:=if(ss.any λw=>w==z)=true then wj1 ks p (vwk ss st ks z p)else .non
noncomputable def Cas(fe:List Int)(n:Nat)(own:Int)(st:List D):Prop:=st.length=n/\∀c∈st,∃cs:List D,c=.lst cs/\(cs.length:Int)=own+1/\∀k:Nat,k<cs.length->∃z,cs[k]?=some z/\Cs fe (bnd1 own k) z
inductive DR1 (ns:List Int)(k:Int):En->List D->Prop
 |mk (x:Int) (f:Int) (j:Int) {o3:Own} {o4:Own} {l5:Option Sd} {j9:List D} (h0:0<=x) (h1:x<10000000000) (h2:0<=j) (h3:j<=8) (h4:j9=kj j 8):DR1 ns k [some (.no,iL ns),some (.no,.int k),some (.dp,.int most),some (o3,.int x),some (o4,.int f),l5] j9
noncomputable def Go(rs:List D)(s:D)(w:Str×Int)(k:Nat)(s':D):Prop:=∃(ay:Int) (ks st:List D) (gd:D),s=.tup [.int ay,.tup ks]/\0<=ay/\rs[ay.toNat]?=some (.tup [.int ks.length,gd,.lst st])/\(∀s∈st,St ks.length s)/\(∀k∈ks,At k)/\∃h:k<st.length,D.int k∈qqr (vzz w.1 ks (.int w.2)) 0 st/\s'=qv8 ks (.int w.2) st[k]
abbrev Lg:=List ((Str×Int)×Nat)
def vx2(rs:List D):D->Lg->D->Prop
 |s,[],s'=>s=s'
 |s,x::r,s'=>∃m,Go rs s x.1 x.2 m/\vx2 rs m r s'
abbrev wj9(L:Lg):List D:=L.map λx=>.int x.2
end C
namespace C
open Q PySem
noncomputable def Rd(fe:List Int)(ss:List Str)(rs:List D)(s:D)(w:Str×Int)(s':D):Prop:=(s=.non/\s'=.non)\/∃(ay:Int) (ks:List Int) (st:List D) (kp gd:D),s=.tup [.int ay,iT ks]/\0<=ay/\rs[ay.toNat]?=some (.tup [kp,gd,.lst st])/\Cas fe ss.length ks.length st/\ks.length<=3/\s'=vxt ss st ks w.1 w.2
abbrev st0:D:=.tup [.int 0,iT []]
noncomputable def vw6(rs:List D)(s:D):Bool:=match s with
 |.tup [.int ay,_]=>(match rs[ay.toNat]? with
  |some (.tup [_,.bl b,_])=>b
  |_=>false)
 |_=>false
end C
namespace C
open Q PySem
noncomputable section
def Wx(K:List D)(d:D):List D:=if d∈K then K else K++[d]
def VZ:D->List D
 |.tup [_,.tup ks]=>ks
 |_=>[]
noncomputable def wjd(rs:List D):D->List D
 |.tup [.int r,_]=>(match rs.getD r.toNat .non with
  |.tup [_,_,.lst st]=>st
  |_=>[])
 |_=>[]
noncomputable def vzn(rs:List D):D->Bool
 |.tup [.int r,_]=>(match rs.getD r.toNat .non with
  |.tup [_,.bl b,_]=>b
  |_=>false)
 |_=>false
def bh(ks st:List D)(p:Int):D->D
 |.int k=>qv8 ks (.int p) (st.getD k.toNat .non)
 |_=>.non
noncomputable def qw2(rs:List D)(w:Str×Int)(s:D):List D:=(qqr (vzz w.1 (VZ s) (.int w.2)) 0 (wjd rs s)).map (bh (VZ s) (wjd rs s) w.2)
def vxn(rs:List D)(w:Str×Int)(K:List D):List D:=(K.flatMap (qw2 rs w)).foldl Wx []
def wje(rs:List D):List (Str×Int)->List D->List D
 |[],K=>K
 |w::ws,K=>wje rs ws (vxn rs w K)
end
noncomputable def SokV(fe:List Int)(V:List D)(s:D):Prop:=∃(ay:Int) (ks:List D),s=.tup [.int ay,.tup ks]/\0<=ay/\ay<fe.length/\(ks.length:Int)=fe.getD ay.toNat 0/\(∀k∈ks,At k)/\∀k∈ks,k∈V
def Kin(fe:List Int)(V K:List D):Prop:=K.Nodup/\∀s∈K,SokV fe V s
abbrev Kvs:=List (D×D)
abbrev Lws:=List (Str×Int)
noncomputable def Wd(rs:List D)(s0:D)(pre:List (Str×Int))(ai:List (D×D)):Prop:=∀e∈ai,∃L:Lg,e.2=.lst (wj9 L)/\L.map (·.1)=pre/\vx2 rs s0 L e.1
inductive WO1 (ss:List Str)(rs V:List D)(fe:List Int)(s0:D)(pre:Lws)(ai:Kvs)(z:Str)(p:Int):En->List D->Prop
 |mk (lj:Kvs) (on:Kvs) (kv:Kvs) {l5:Option Sd} {l6:Option Sd} {l7:Option Sd} {l8:Option Sd} {j9:List D} (h0:j9=on.map (λe=>D.tup [e.1,e.2])) (h1:ai=lj++on) (h2:kv.map (·.1)=((lj.map (·.1)).flatMap (qw2 rs (z,p))).foldl Wx []) (h3:Kin fe V (kv.map (·.1))) (h4:Wd rs s0 (pre++[(z,p)]) kv):WO1 ss rs V fe s0 pre ai z p [some (.no,vj ss rs),some (.no,.dct ai),some (.no,.str z),some (.no,.int p),some (.rt,.dct kv),l5,l6,l7,l8] j9
inductive WO2 (ss:List Str)(rs V:List D)(fe:List Int)(s0:D)(pre:Lws)(ai:Kvs)(z:Str)(p:Int)(ay:Int)(ks st:List D)(L:Lg)(lj:Kvs):En->List D->Prop
 |mk (f1:List D) (kv:Kvs) {l7:Option Sd} {l8:Option Sd} {j9:List D} (h0:qqr (vzz z ks (.int p)) 0 st=f1++j9) (h1:kv.map (·.1)=(f1.map (bh ks st p)).foldl Wx (((lj.map (·.1)).flatMap (qw2 rs (z,p))).foldl Wx [])) (h2:Kin fe V (kv.map (·.1))) (h3:Wd rs s0 (pre++[(z,p)]) kv):WO2 ss rs V fe s0 pre ai z p ay ks st L lj [some (.no,vj ss rs),some (.no,.dct ai),some (.no,.str z),some (.no,.int p),some (.rt,.dct kv),some (.no,.tup [.int ay,.tup ks]),some (.no,.lst (wj9 L)),l7,l8] j9
abbrev rwD(ws:List (Str×Int)):List D:=ws.map λw=>.tup [.str w.1,.int w.2]
inductive WB1 (ss:List Str)(rs:List D)(s0:D)(ws:Lws):En->List D->Prop
 |mk (w1:Lws) (w2:Lws) (kv:Kvs) {l3:Option Sd} {l4:Option Sd} {j9:List D} (h0:j9=rwD w2) (h1:ws=w1++w2) (h2:kv.map (·.1)=wje rs w1 [s0]) (h3:Wd rs s0 w1 kv):WB1 ss rs s0 ws [some (.no,vj ss rs),some (.no,.lst (rwD ws)),some (.rt,.dct kv),l3,l4,none,none] j9
inductive WB2 (ss:List Str)(rs:List D)(ws:Lws)(kv:Kvs):En->List D->Prop
 |mk (lj:Kvs) (on:Kvs) {o2:Own} {l3:Option Sd} {l4:Option Sd} {l5:Option Sd} {l6:Option Sd} {j9:List D} (h0:j9=on.map (λe=>D.tup [e.1,e.2])) (h1:kv=lj++on) (h2:(lj.map (·.1)).any (vzn rs)=false):WB2 ss rs ws kv [some (.no,vj ss rs),some (.no,.lst (rwD ws)),some (o2,.dct kv),l3,l4,l5,l6] j9
noncomputable section
end
end C
namespace B
open Q PySem C
abbrev Sn:=Option (Int×List Int)
def nms:Sn->List Int
 |none=>[]
 |some p=>p.2
theorem eqi{a b:Int}{k:Bool}(h:(a==b)=k):fEq (.int a) (.int b)=some (.bl k):=by rw[<-h];rfl
end B
namespace B
open PySem Q
noncomputable def m__law_cell_at:Fn:=fn 2
  (j7 (sIf (tE (cF2 (pu2 fLt) (vV 1) (vE (cF1 (pu1 v6) (vV 0))))) (jq (cH (j8 (vV 0) (vV 1)))) kz)
  (jq (cC (.int 0))))
noncomputable def m__law_whole:Fn:=fn 1
  (jq (wK (vE (cF1 (pu1 (k6 "int")) (vV 0))) (qwu (vE (cF1 (pu1 (k6 "bool")) (vV 0))))))
noncomputable def kqb:Fn:=fn 5
  (j7 (jx 2 (qY .rt []))
  (j7 (sIf (tE (cF2 (pu2 fEq) (vE (cF2 (pu2 jJ) (vV 0) (C9 2))) (C9 1))) (j7 (jx 0 (cF2 (pu2 qv) (vV 0) (C9 2)))
  (j7 (wq (qJ (vV 1)) (.n 3) (j7 (xv x8 2 (cF2 (pu2 jJ) (vV 0) (C9 2147483647)))
  (jx 0 (cF2 (pu2 qv) (vV 0) (C9 2147483647)))))
  (jq (cMv 2)))) kz)
  (j7 (jx 4 (cF2 jz (vE (cF2 (pu2 jJ) (vE (cF2 (pu2 qv) (vV 0) (C9 2))) (C9 2147483647))) (C9 48271)))
  (j7 (wq (qJ (vE (cF2 jz (vV 1) (C9 1)))) (.n 3) (j7 (jx 4 (cF2 (pu2 jJ) (vE (cF2 jz (vE (cF2 jz (vE (cF2 qX (vV 4) (vV 4))) (vE (cF2 qX (C9 48271) (vV 4))))) (vV 3))) (C9 2147483647)))
  (xv x8 2 (cF2 (pu2 jJ) (vE (cF2 jz (vE (cF2 qX (vV 4) (C9 40692))) (vE (cF2 qX (C9 7) (vV 3))))) (C9 2147483399)))))
  (jq (cSl (vV 2) (some (C9 1)) none))))))
noncomputable def KY:Fn:=fn 7
  (j7 (jx 1 (cC (.str "abcdefghijklmnopqrstuvwxyz")))
  (j7 (jx 2 (jQ kqb [(cV 0),(cC (.int 9))]))
  (j7 (jx 3 (Z9 "" (vE (cLC .rt 1 [1] (itS (cSl (vV 2) none (some (vE (cF2 jz (C9 1) (vE (cF2 (pu2 jJ) (vV 0) (C9 8)))))))) (.n 0) tYes (cH (j8 (vV 1) (vE (cF2 (pu2 jJ) (vV 0) (C9 26)))))))))
  (j7 (jx 4 (cF2 (pu2 jJ) (vE (cF2 (pu2 qv) (vV 0) (C9 8))) (vE (cF1 (pu1 v6) (vV 3)))))
  (j7 (jx 5 (qY .rt []))
  (j7 (wq (qJ (j8 (vE (qY .rt [(cC (.int 1)),(cC (.int 2)),(cC (.int 1)),(cC (.int 2)),(cC (.int 2)),(cC (.int 1)),(cC (.int 2)),(cC (.int 3))])) (vE (cF2 (pu2 jJ) (vE (cF2 (pu2 qv) (vV 0) (C9 64))) (C9 8))))) (.n 6) (xv x8 5 (cF2 jz (vE (cF2 jz (vE (cSl (vV 3) none (some (vV 4)))) (j8 (vV 1) (vE (cF2 jz (vE (cF2 (pu2 jJ) (j8 (vV 2) (C9 8)) (C9 24))) (vV 6)))))) (vE (cSl (vV 3) (some (vE (cF2 jz (vV 4) (C9 1)))) none)))))
  (jq (cMv 5))))))))
end B
namespace B
open Q PySem C
def Z7(ns:List Int)(k:Nat):Int:=ns.getD k 0
theorem cell_ok(ns:List Int)(k:Nat)(hn:ns.length<=10000):Oo m__law_cell_at [(.no,iL ns),(.no,.int k)] (λy=>∃o':Own,y=(o',.int (Z7 ns k))/\True) noX:=by
 unfold m__law_cell_at;refine kQ ?_;simp![]
 by_cases h:(k:Int)<ns.length
 ·have hx:jw (iL ns) (.int k)=some (.int (Z7 ns k)):=by
   refine vK (by omega) ?_;unfold Z7;rw[Xw,Xk,X2 (by omega),X9,X2 (by omega)];rfl
  have hd:decide ((k:Int)<ns.length)=true:=Yd h;rw[Xf hd];simp![hx];exact⟨_,rfl,trivial⟩
 ·have hd:¬decide ((k:Int)<ns.length)=true:=by rw[Yf h];decide
  rw[Xm hd];refine⟨.dp,?_,trivial⟩;rw[show Z7 ns k=0 by unfold Z7;rw[X9,Ym (by omega)];rfl]
def St(n:Int)(xs:List Int):Prop:=(xs.length:Int)=n/\∀x∈xs,0<=x/\x<2147483647
theorem kxb:∀{ps:List Str},(∀p∈ps,p.length=1)->(ps.map (·.length)).sum=ps.length
 |[],_=>rfl
 |p::ps,h=>by rw[List.map_cons,List.sum_cons,h p X3,kxb λq hq=>h q (lc9 _ hq),Xp];omega
theorem sl_s{o:Own}{z:Str}{lo hi:Option Int}(h:z.cps.size<=100):fSl (o,.str z) lo hi=some (.dp,.str (Txt.slice z lo hi)):=by
 have hl:(Txt.slice z lo hi).length<=z.length:=Txt.slice_le z lo hi;have h:z.length<=100:=h;show(if(Txt.slice z lo hi).length<=big then _ else none)=_;rw[Xf (by unfold big;omega)]
def vw4(S:Sn)(c:Int):D:=if c∈nms S then .int ((nms S).findIdx λw=>w==c:Nat)else .non
end B
namespace A
open PySem Q
noncomputable def m__law_mixed:Fn:=fn 3
  (j7 (sIf (tE (cF2 (pu2 fEq) (vE (cF2 (pu2 jJ) (vV 0) (C9 2))) (C9 0))) (jq (cF2 (pu2 qv) (vV 0) (vE (cF2 (pu2 vzq) (C9 2) (vE (cF2 qX (C9 8) (vV 1))))))) kz)
  (j7 (jx 2 (cF2 (pu2 jJ) (vE (cF2 qX (vE (cF2 jz (vE (cF2 jz (vE (cF2 (pu2 jJ) (vV 0) (C9 2147483647))) (vE (cF2 qX (C9 69621) (vV 1))))) (C9 7919))) (C9 48271))) (C9 2147483647)))
  (j7 (jx 2 (cF2 (pu2 jJ) (vE (cF2 qX (vV 2) (vV 2))) (C9 2147483629)))
  (jq (cF2 (pu2 jJ) (vE (cF2 jz (vE (cF2 qX (vV 2) (vV 2))) (vE (cF2 qX (C9 16807) (vV 1))))) (C9 2147483587))))))
noncomputable def m__law_words:Fn:=fn 9
  (j7 (jx 2 (cC (.str "abcdefghijklmnopqrstuvwxyz")))
  (j7 (jx 3 (Z9 "" (vE (cLC .rt 1 [2,0] (qJ (C9 8)) (.n 0) tYes (cH (j8 (vV 1) (vE (cF2 (pu2 jJ) (vE (jQ m__law_mixed [(cV 2),(cV 0)])) (C9 26)))))))))
  (j7 (sIf (tE (cF2 (pu2 fEq) (vE (cF2 (pu2 jJ) (vV 0) (C9 3))) (C9 1))) (jq (cLC .rt 1 [3,0] (qJ (vV 1)) (.n 0) tYes (cSl (vV 1) none (some (vE (cF2 jz (C9 1) (vE (cF2 (pu2 jJ) (vE (cF2 jz (vV 0) (vE (cF2 (pu2 qv) (vV 2) (C9 3))))) (C9 8))))))))) kz)
  (j7 (jx 4 (cF2 jz (C9 1) (vE (cF2 (pu2 jJ) (vE (cF2 (pu2 qv) (vV 0) (C9 3))) (C9 8)))))
  (j7 (jx 5 (cF2 (pu2 jJ) (vE (cF2 (pu2 qv) (vV 0) (C9 24))) (vV 4)))
  (j7 (jx 6 (qY .rt []))
  (j7 (wq (qJ (vV 1)) (.n 7) (j7 (jx 8 (cF2 (pu2 jJ) (vE (cF2 jz (vE (qwv (vV 2) (j8 (vV 3) (vV 5)))) (vE (cF2 qX (vV 7) (vE (cF2 jz (C9 1) (vE (cF2 (pu2 jJ) (vE (cF2 (pu2 qv) (vV 0) (C9 192))) (C9 5))))))))) (C9 26)))
  (xv x8 6 (cF2 jz (vE (cF2 jz (vE (cSl (vV 3) none (some (vV 5)))) (j8 (vV 2) (vV 8)))) (vE (cSl (vV 3) (some (vE (cF2 jz (vV 5) (C9 1)))) (some (vV 4))))))))
  (jq (cMv 6)))))))))
end A
namespace A
open Q PySem C B
theorem vqo{n:Nat}(h:n<=8000):((2:Int)*2 ^ n).natAbs.log2<9000:=by
 have e:((2:Int)*2 ^ n).natAbs=2 ^ (n+1):=by
  rw[Int.natAbs_mul,Int.natAbs_pow,Nat.pow_succ,Nat.mul_comm];rfl
 rw[e,Nat.log2_two_pow];omega
theorem vxr{n:Int}(h0:0<=n)(h1:n<=8000):vzq (.int 2) (.int n)=some (.int (2*2 ^ n.toNat)):=by
 show(if 0<=n/\n<=1000000/\(2:Int).natAbs<2 ^ 64 then some (2*2 ^ n.toNat)else none).map D.int=_;rw[Xf ⟨h0,by omega,by decide⟩];rfl
theorem vzw{c n:Int}(h1:n<=8000):qv (.int c) (.int (2*2 ^ n.toNat))=some (.int (c / (2*2 ^ n.toNat))):=by
 show(if 0<(2:Int)*2 ^ n.toNat/\((2:Int)*2 ^ n.toNat).natAbs.log2<9000 then some (c / (2*2 ^ n.toNat))else none).map D.int=_;rw[Xf ⟨Int.mul_pos (by decide) (Int.pow_pos (by decide)),vqo (by omega)⟩];rfl
theorem mixed_ok(c k:Int)(h0:0<=k)(h1:k<=100):Oo m__law_mixed [(.no,.int c),(.no,.int k)] (λy=>∃v:Int,y=(.dp,.int v)/\True) noX:=by
 unfold m__law_mixed;refine kQ ?_
 by_cases h:c % 2=0
 ·have hd:(c % 2==0)=true:=by simp[h]
  simp![eqi hd,vxr (n:=8*k) (by omega) (by omega),vzw (c:=c) (n:=8*k) (by omega)];exact⟨_,rfl,trivial⟩
 ·have hd:(c % 2==0)=false:=beq_false_of_ne h;have m0:=Xn c (show(2147483647:Int)≠0 by decide);have m1:=Xi c (show(0:Int)<2147483647 by decide);generalize hu:c % 2147483647=u at m0 m1;have e1:=mul_l (o1:=.no) (o2:=.no) (a:=u+69621*k+7919) (b:=48271) (by omega) (by omega);have n0:=Xn ((u+69621*k+7919)*48271) (show(2147483647:Int)≠0 by decide);have n1:=Xi ((u+69621*k+7919)*48271) (show(0:Int)<2147483647 by decide);simp![eqi hd,hu,e1];generalize (u+69621*k+7919)*48271 % 2147483647=w at n0 n1;have e2:=mul_l (o1:=.no) (o2:=.no) (a:=w) (b:=w) (by omega) (by omega);have e2':=mul_l (o1:=.dp) (o2:=.dp) (a:=w) (b:=w) (by omega) (by omega);have p0:=Xn (w*w) (show(2147483629:Int)≠0 by decide);have p1:=Xi (w*w) (show(0:Int)<2147483629 by decide);simp![e2,e2'];generalize w*w % 2147483629=t at p0 p1;have e3:=mul_l (o1:=.no) (o2:=.no) (a:=t) (b:=t) (by omega) (by omega);have e3':=mul_l (o1:=.dp) (o2:=.dp) (a:=t) (b:=t) (by omega) (by omega);simp![e3,e3'];exact⟨_,rfl,trivial⟩
abbrev AZ:Str:="abcdefghijklmnopqrstuvwxyz"
theorem az_found:∀ch∈AZ.cps.toList,∃i:Nat,Zk (.str AZ) (.str ⟨#[ch]⟩)=some (.int i):=by
 have h:∀ch∈AZ.cps.toList,(Builtin.Str.occurrences AZ ⟨#[ch]⟩ 0 AZ.length 1).isEmpty=false:=by decide +kernel
 intro ch hc;have:=h ch hc;unfold Zk;dsimp only;cases e:Builtin.Str.occurrences AZ ⟨#[ch]⟩ 0 AZ.length 1 with
 |nil=>rw[e]at this;cases this
 |cons i r=>exact⟨i,rfl⟩
theorem ix_strM(z:Str)(i:Int)(h0:0<=i)(h1:i<z.cps.size):∃c∈z.cps.toList,jw (.str z) (.int i)=some (.str ⟨#[c]⟩):=by
 have:i.toNat<z.cps.toList.length:=by rw[Xb];omega
 refine⟨z.cps.toList[i.toNat],Yb _,?_⟩;show((Q.ixN z.cps.size i).bind λj=>(z.cps.toList[j]?).map λc=>D.str ⟨#[c]⟩)=_;unfold Q.ixN;rw[Xf h0,Xf h1];show((z.cps.toList[i.toNat]?).map λc=>D.str ⟨#[c]⟩)=_;rw[X2 this];rfl
theorem list_app(a b:Str):(a++b).cps.toList=a.cps.toList++b.cps.toList:=by
 show(a.cps++b.cps).toList=_;exact Array.toList_append
theorem kz3{L:List Nat}:∀{ps:List Str},(∀p∈ps,∃c∈L,p=⟨#[c]⟩)->(Str.join "" ps).cps.toList.length=ps.length/\∀c∈(Str.join "" ps).cps.toList,c∈L
 | [],_=>⟨rfl,λc h=>by exact absurd h (by simp[Str.join,Str.empty])⟩
 | [x],h=>by
  obtain⟨c,hc,rfl⟩:=h x X3;refine⟨rfl,λd hd=>?_⟩;have:d=c:=by simpa [Str.join]using hd
  rw[this];exact hc
 | x::y::r,h=>by
  obtain⟨c,hc,rfl⟩:=h x X3;obtain⟨i1,i2⟩:=kz3 (ps:=y::r) λp hp=>h p (lc9 _ hp)
  have e:(Str.join "" ((⟨#[c]⟩:Str)::y::r)).cps.toList=c::(Str.join "" (y::r)).cps.toList:=by
   show((⟨#[c]⟩:Str)++""++Str.join "" (y::r)).cps.toList=_;rw[list_app,list_app];rfl
  rw[e];refine⟨by rw[Xp,i1];rfl,λd hd=>?_⟩;rcases List.mem_cons.mp hd with rfl|hd
  ·exact hc
  ·exact i2 d hd
theorem each_one{L:List Nat}{G:D->Sd->Prop}(hG:∀d y,G d y->∃c∈L,y.2=.str ⟨#[c]⟩):∀{ds:List D} {ys:List Sd},Each G ds ys->∃ps:List Str,ys.map (·.2)=ps.map D.str/\ps.length=ds.length/\∀p∈ps,∃c∈L,p=⟨#[c]⟩
 |[],[],_=>⟨[],rfl,rfl,λ_ h=>nomatch h⟩
 |d::ds,y::ys,r=>by
  obtain⟨i,hi,e⟩:=hG d y r.1;obtain⟨ps,h1,h2,h3⟩:=each_one hG r.2;exact⟨⟨#[i]⟩::ps,by simp[e,h1],by simp[h2],λp hp=>(List.mem_cons.mp hp).elim (λz=>z▸⟨i,hi,rfl⟩) (h3 p)⟩
theorem join_az{ps:List Str}(h:∀p∈ps,∃c∈AZ.cps.toList,p=⟨#[c]⟩)(h1:ps.length<=100):∃z:Str,XV "" (.lst (ps.map D.str))=some (.str z)/\z.cps.size=ps.length/\∀c∈z.cps.toList,c∈AZ.cps.toList:=by
 have hz:("":Str).length=0:=rfl;have hs:=kxb (ps:=ps) λp hp=>by obtain⟨c,_,rfl⟩:=h p hp;rfl
 obtain⟨j1,j2⟩:=kz3 h;refine⟨Txt.join "" ps,?_,?_,?_⟩
 ·unfold XV;dsimp only;rw[kkp];dsimp only;rw[Xf (by rw[hs,hz];omega)]
 ·unfold Txt.join;rw[StrLaws.glued_eq_join,<-j1,Xb]
 ·unfold Txt.join;rw[StrLaws.glued_eq_join];exact j2
end A
namespace F
open Q PySem C
def JZ(af:List Int):D->List Int
 |.int i=>if i∈af then af else af++[i]
 |_=>af
def V2(ks:List D):List Int:=ks.foldl JZ []
def plc(ns:List Int):D->D
 |.int i=>.int (ns.findIdx λw=>w==i:Nat)
 |d=>d
def pr(ks:List D):List D:=ks.map (plc (V2 ks))
noncomputable def vwi(K:List D)(s:D):List D×D:=match s with
 |.tup [ay,.tup ks]=>(Wx K (.tup [ay,.tup (pr ks)]),.tup [.int ((Wx K (.tup [ay,.tup (pr ks)])).idxOf (.tup [ay,.tup (pr ks)]):Nat),iT (V2 ks)])
 |_=>(K,.non)
end F
namespace F
open Q PySem C
def obD(rs:List D)(s:D)(z:Str)(p:Int):Option D:=match qw2 rs (z,p) s with
 |[]=>some .non
 |[d]=>some d
 |_=>none
noncomputable def qxn(rs:List D)(s:D)(z:Str):List D->List D->Option (List D×List D)
 |[],K=>some (K,[])
 |.int p::ps,K=>match obD rs s z p with
  |none=>none
  |some d=>(qxn rs s z ps (vwi K d).1).map λr=>(r.1,(vwi K d).2::r.2)
 |_::_,_=>none
end F
namespace F
open Q PySem C
def vwh(rs:List D)(s:D)(z:Str)(K:List D):Option (List D×List D):=qxn rs s z (kj 0 ((V2 (VZ s)).length+1)) K
noncomputable def qx1(rs:List D)(s:D):List Str->List D->Option (List D×List D)
 |[],K=>some (K,[])
 |z::zs,K=>match vwh rs s z K with
  |none=>none
  |some r=>(qx1 rs s zs r.1).map λq=>(q.1,.lst r.2::q.2)
noncomputable def vw6(rs:List D)(s:D):D:=match s with
 |.tup [.int ay,_]=>(match rs[ay.toNat]? with
  |some (.tup [_,g,_])=>g
  |_=>.non)
 |_=>.non
def vq0(rs:List D)(s:D)(st:List D):D:=.tup [.int (V2 (VZ s)).length,vw6 rs s,.lst st]
noncomputable def vkr(ss:List Str)(rs K b7:List D):Option (List D×List D):=(qx1 rs (K.getD b7.length .non) ss K).map λr=>(r.1,b7++[vq0 rs (K.getD b7.length .non) r.2])
inductive Run (ss:List Str)(rs:List D):List D->List D->Option (List D×List D)->Prop
 |stop {K b7:List D}:¬b7.length<K.length->Run ss rs K b7 (some (K,b7))
 |fail {K b7:List D}:b7.length<K.length->vkr ss rs K b7=none->Run ss rs K b7 none
 |go {K b7 K' iy:List D} {r:Option (List D×List D)}:b7.length<K.length->vkr ss rs K b7=some (K',iy)->Run ss rs K' iy r->Run ss rs K b7 r
end F
namespace F
open Q PySem C
def ltr:List Nat:=("abcdefghijklmnopqrstuvwxyz":Str).cps.toList
def Sg(z:Str):Prop:=z.cps.size<=8/\∀c∈z.cps.toList,c∈ltr
end F
namespace F
open Q PySem C
noncomputable def FA(g:D)(fs:List D):Prop:=(∀(i j:Nat) (f:D),f≠.non->fs[i]?=some f->fs[j]?=some f->i=j)/\(D.str "new"∈fs->g≠.str "any"/\g∉fs)
end F
namespace F
open Q PySem C
noncomputable def Cpt(ap:Bool)(g g':D):Prop:=(g=.str "fresh"/\∃i,g'=.int i)\/(g'=.str "fresh"/\∃i,g=.int i)\/(ap=true/\∃i j:Int,g=.int i/\g'=.int j/\i≠j)
noncomputable def wk4(ap:Bool)(st:List D):Prop:=(∀(i j:Nat) (z:Str) (g g' t t' f f':D),i<j->st[i]?=some (.tup [.str z,g,t,f])->st[j]?=some (.tup [.str z,g',t',f'])->Cpt ap g g')/\(ap=true->∀(z:Str) (g t:D) (fs:List D),D.tup [.str z,g,t,.tup fs]∈st->FA g fs)
end F
namespace F
open Q PySem C
def Asks(ap:Bool)(br:Int)(as:List D):Prop:=as.Pairwise (Cpt ap)/\(∀a∈as,Gd br a)/\as.length<=4
end F
namespace F
open Q PySem C
def FAb(ap:Bool)(g:D)(fs:List D):Prop:=ap=true->FA g fs
inductive FJ1 (zs:List Int)(g:D)(br there:Int)(ap:Bool)(LL:List D):En->List D->Prop
 |mk (fs:List D) (ws:List Int) {l7:Option Sd} {l8:Option Sd} {j9:List D} (h0:j9=ws.map D.int) (h1:(fs.length+ws.length:Int)=there) (h2:(∀f∈fs,Fd br f)) (h3:FAb ap g fs):FJ1 zs g br there ap LL [some (.no,iL zs),some (.no,g),some (.no,.int br),some (.no,.int there),some (.no,.bl ap),some (.rt,.lst LL),some (.rt,.lst fs),l7,l8] j9
def Ltr(b st:Int)(i4:Nat)(i:Nat)(z:Str):Prop:=z.cps.toList[i4]?=some (ltr.getD ((b+i*(st+1)) % 26).toNat 0)
inductive FJ2 (x n sz am st b:Int):En->List D->Prop
 |mk (k:Int) (ss:List Str) {l7:Option Sd} {l8:Option Sd} {l9:Option Sd} {me:Option Sd} {j9:List D} (h0:0<=k) (h1:k<=n) (h2:j9=kj k n) (h3:(ss.length:Int)=k) (h4:∀i:Nat,i<ss.length->Ltr b st am.toNat i (ss.getD i "")):FJ2 x n sz am st b [some (.no,.int x),some (.no,.int n),some (.dp,.str "abcdefghijklmnopqrstuvwxyz"),some (.no,.int sz),some (.dp,.int am),some (.no,.int st),some (.rt,sL ss),l7,l8,l9,me] j9
inductive FJ3 (x n sz am st b k:Int)(ss:List Str):En->List D->Prop
 |mk (j:Int) (z:Str) {l9:Option Sd} {me:Option Sd} {o8:Own} {j9:List D} (h0:0<=j) (h1:j<=sz+1) (h2:j9=kj j (sz+1)) (h3:(z.cps.size:Int)=j) (h4:(am<j->Ltr b st am.toNat ss.length z)):FJ3 x n sz am st b k ss [some (.no,.int x),some (.no,.int n),some (.dp,.str "abcdefghijklmnopqrstuvwxyz"),some (.no,.int sz),some (.dp,.int am),some (.no,.int st),some (.rt,sL ss),some (.no,.int k),some (o8,.str z),l9,me] j9
end F
namespace F
open Q PySem C
inductive SJ1 (ns:List Int)(a:Int)(ss:List Str)(hs ks:List Int)(v0:Int)(ap:Bool):En->List D->Prop
 |mk (r:Nat) (rs:List D) {l7 l8 l9 me og nr pc pw:Option Sd} {j9:List D} (h1:j9=kj r (1+v0)) (h2:(r:Int)<=1+v0) (h3:rs.length=r) (h4:∀i:Nat,i<r->∃(gd:Bool) (st:List D),rs[i]?=some (.tup [.int (ks.getD i 0),.bl gd,.lst st])/\(∀s∈st,St (ks.getD i 0) s/\Sx ss ks s)/\st.length<=12/\wk4 ap st):SJ1 ns a ss hs ks v0 ap [some (.no,iL ns),some (.no,.int a),some (.no,sL ss),some (.rt,iL hs),some (.dp,.int (1+v0)),some (.rt,iL ks),some (.rt,.lst rs),l7,l8,l9,me,og,nr,pc,pw] j9
noncomputable def Sgn(ss:List Str)(j:Nat)(st:List D):Prop:=∀s∈st,∃i,i<j/\∃(hi:i<ss.length) (g t f:D),s=.tup [.str ss[i],g,t,f]
inductive SJ2 (ns:List Int)(a:Int)(ss:List Str)(hs ks:List Int)(v0:Int)(ap:Bool)(rs:List D)(r:Nat)(br:Int):En->List D->Prop
 |mk (j:Nat) (st:List D) {l9 me og nr pc pw:Option Sd} {j9:List D} (h1:j9=kj j ss.length) (h2:j<=ss.length) (h3:∀s∈st,St br s/\Sx ss ks s) (h4:st.length<=4*j) (h5:wk4 ap st) (h6:Sgn ss j st):SJ2 ns a ss hs ks v0 ap rs r br [some (.no,iL ns),some (.no,.int a),some (.no,sL ss),some (.rt,iL hs),some (.dp,.int (1+v0)),some (.rt,iL ks),some (.rt,.lst rs),some (.no,.int r),some (.rt,.lst st),l9,me,og,nr,pc,pw] j9
noncomputable def Ads(ss:List Str)(j:Nat)(hj:j<ss.length)(ap:Bool)(as add:List D):Prop:=∀(i:Nat) (d:D),add[i]?=some d->∃(g t:D) (fs:List D),as[i]?=some g/\d=.tup [.str ss[j],g,t,.tup fs]/\(ap=true->FA g fs)
inductive SJ3 (ns:List Int)(a:Int)(ss:List Str)(hs ks:List Int)(v0:Int)(ap:Bool)(rs:List D)(r:Nat)(br:Int)(st:List D)(j:Nat)(hj:j<ss.length)(ys:List Int):En->List D->Prop
 |mk (k:Nat) (as add bm:List D) {og nr pc pw:Option Sd} {j9:List D} (h0:bm=st++add) (h1:Asks ap br as) (h2:k<=as.length) (h3:j9=vwd k (as.drop k)) (h4:add.length=k) (h5:∀s∈add,St br s/\Sx ss ks s) (h6:Ads ss j hj ap as add):SJ3 ns a ss hs ks v0 ap rs r br st j hj ys [some (.no,iL ns),some (.no,.int a),some (.no,sL ss),some (.rt,iL hs),some (.dp,.int (1+v0)),some (.rt,iL ks),some (.rt,.lst rs),some (.no,.int r),some (.rt,.lst bm),some (.no,.int j),some (.no,iL ys),og,nr,pc,pw] j9
end F
namespace F
open Q PySem C
noncomputable def vwj(K:List D)(d:D):D:=match d with
 |.tup [ay,.tup ks]=>.tup [.int (K.idxOf (.tup [ay,.tup (pr ks)]):Nat),iT (V2 ks)]
 |_=>.non
noncomputable def wj0(rs:List D)(s:D)(z:Str)(L:List D)(d:D):D:=match d with
 |.int p=>(match obD rs s z p with
  |some d=>vwj L d
  |none=>.non)
 |_=>.non
def wjf(s:D):List D:=kj 0 ((V2 (VZ s)).length+1)
def vkq(ss:List Str)(rs L:List D)(s:D):List D:=ss.map λz=>.lst ((wjf s).map (wj0 rs s z L))
def wj7(L:List D)(e:D):Prop:=∀ay ks,e=.tup [ay,.tup ks]->D.tup [ay,.tup (pr ks)]∈L
def Clo(zs:List Str)(rs L:List D)(s:D):Prop:=∀z∈zs,∀p:Int,D.int p∈wjf s->∃e,obD rs s z p=some e/\wj7 L e
def Nrm(t:D):Prop:=∃ay ks,t=.tup [ay,.tup (pr ks)]
noncomputable def Inv(ss:List Str)(rs K b7:List D):Prop:=b7.length<=K.length/\(∀i,i<b7.length->Clo ss rs K (K.getD i .non)/\∀L,K <+: L->b7[i]?=some (vq0 rs (K.getD i .non) (vkq ss rs L (K.getD i .non))))/\∀t∈K,Nrm t
end F
namespace G
open Q PySem C F
def fl(own:Int):D->D
 |.int f=>if f=own then .str "new" else .int f
 |d=>d
end G
namespace G
open Q PySem C F
def nN(t:D):Nat:=(V2 (VZ t)).length
end G
namespace Nk10
open PySem Q
def YK : Fn:= B.m__law_whole
noncomputable def ZW:Fn:=fn 1
  (j7 (sIf (tOr (tNot (tEQ (vE (cF1 (pu1 (k6 "str")) (vV 0))))) (tNot (tE (zj fLe fLe (C9 1) (vE (cF1 (pu1 v6) (vV 0))) (C9 8))))) (jq (cC (.bl false))) kz)
  (jq (cF1 (pu1 Kq) (vE (cLC .rt 1 [] (itS (cV 0)) (.n 0) tYes (cF2 (pu2 Q0) (vV 0) (vE (cC (.str "abcdefghijklmnopqrstuvwxyz")))))))))
noncomputable def KQ:Fn:=fn 2
  (jq (wK (vE (cF1 (pu1 (k6 "tuple")) (vV 0))) (cF2 (pu2 fEq) (vE (cF1 (pu1 v6) (vV 0))) (vV 1))))
noncomputable def Qx:Fn:=fn 1
  (j7 (sIf (tOr (tNot (tEQ (vE (cF1 (pu1 (k6 "list")) (vV 0))))) (tNot (tE (zj fLe fLe (C9 1) (vE (cF1 (pu1 v6) (vV 0))) (C9 3))))) (jq (cC (.bl false))) kz)
  (j7 (sIf (tNot (tEQ (vE (cF1 (pu1 Kq) (vE (cLC .rt 1 [] (itS (cV 0)) (.n 0) tYes (jQ ZW [(cV 0)]))))))) (jq (cC (.bl false))) kz)
  (jq (cF2 (pu2 fEq) (vV 0) (vE (cF1 Q7 (vV 0)))))))
def Jz:Fn:=fn 2
  (jq (wK (vE (cF1 (pu1 (k6 "str")) (vV 0))) (cF2 (pu2 Q0) (vV 0) (vV 1))))
def KJ:Fn:=fn 2
  (jq (wK (vE (jQ YK [(cV 0)])) (zj fLe fLt (C9 0) (vV 0) (vV 1))))
noncomputable def Zw:Fn:=fn 2
  (jq (cOr (vE (cF2 (f2First fIsNon) (vV 0) (vE (cC .non)))) (cOr (vE (jQ Jz [(cV 0),(v9 .no [(cC (.str "new"))])])) (jQ KJ [(cV 0),(cV 1)]))))
noncomputable def YX:Fn:=fn 3
  (jq (wK (vE (jQ KQ [(cV 0),(cV 2)])) (cF1 (pu1 Kq) (vE (cLC .rt 1 [1] (itS (cV 0)) (.n 0) tYes (jQ Zw [(cV 0),(cV 1)]))))))
noncomputable def XX:Fn:=fn 2
  (jq (cOr (vE (jQ Jz [(cV 0),(v9 .no [(cC (.str "fresh")),(cC (.str "any"))])])) (jQ KJ [(cV 0),(cV 1)])))
noncomputable def jw3:Fn:=fn 4
  (j7 (sIf (tNot (tEQ (vE (jQ KQ [(cV 0),(cC (.int 4))])))) (jq (cC (.bl false))) kz)
  (j7 (sIf (tOr (tNot (tEQ (vE (jQ Jz [(cH (j8 (vV 0) (C9 0))),(cV 2)])))) (tOr (tNot (tEQ (vE (jQ XX [(cH (j8 (vV 0) (C9 1))),(cV 1)])))) (tNot (tEQ (vE (jQ KJ [(cH (j8 (vV 0) (C9 2))),(cF1 (pu1 v6) (vV 3))])))))) (jq (cC (.bl false))) kz)
  (jq (jQ YX [(cH (j8 (vV 0) (C9 3))),(cV 1),(cH (j8 (vV 3) (j8 (vV 0) (C9 2))))]))))
noncomputable def WX:Fn:=fn 4
  (jq (cF1 (pu1 Kq) (vE (cLC .rt 1 [1,2,3] (itS (cV 0)) (.n 0) tYes (jQ jw3 [(cV 0),(cV 1),(cV 2),(cV 3)])))))
noncomputable def ZX:Fn:=fn 1
  (j7 (sIf (tNot (tEQ (vE (jQ KQ [(cV 0),(cC (.int 3))])))) (jq (cC (.bl false))) kz)
  (jq (wK (vE (jQ KJ [(cH (j8 (vV 0) (C9 0))),(cF2 jz (C9 3) (C9 1))])) (wK (vE (cF1 (pu1 (k6 "bool")) (j8 (vV 0) (C9 1)))) (cF1 (pu1 (k6 "list")) (j8 (vV 0) (C9 2)))))))
noncomputable def XJ:Fn:=fn 3
  (j7 (sIf (tOr (tNot (tEQ (vE (cF1 (pu1 (k6 "list")) (vV 0))))) (tNot (tE (zj fLe fLe (C9 1) (vE (cF1 (pu1 v6) (vV 0))) (C9 12))))) (jq (cC (.bl false))) kz)
  (j7 (sIf (tNot (tEQ (vE (cF1 (pu1 Kq) (vE (cLC .rt 1 [] (itS (cV 0)) (.n 0) tYes (jQ ZX [(cV 0)]))))))) (jq (cC (.bl false))) kz)
  (j7 (sIf (tE (cF2 (pu2 fGt) (vE (cF1 (pu1 WY) (vE (cLC .rt 1 [] (itS (cV 0)) (.n 0) tYes (cF1 (pu1 v6) (j8 (vV 0) (C9 2))))))) (C9 120))) (jq (cC (.bl false))) kz)
  (j7 (jx 2 (cLC .rt 1 [] (itS (cV 0)) (.n 0) tYes (cH (j8 (vV 0) (C9 0)))))
  (jq (cF1 (pu1 Kq) (vE (cLC .rt 1 [1,2] (itS (cV 0)) (.n 0) tYes (jQ WX [(cH (j8 (vV 0) (C9 2))),(cH (j8 (vV 0) (C9 0))),(cV 1),(cV 2)])))))))))
noncomputable def Jk:Fn:=fn 1
  (jq (wK (vE (jQ KQ [(cV 0),(cC (.int 2))])) (wK (vE (jQ Qx [(cH (j8 (vV 0) (C9 0)))])) (jQ XJ [(cH (j8 (vV 0) (C9 1))),(cH (j8 (vV 0) (C9 0)))]))))
noncomputable def ZZ:Fn:=fn 1
  (jq (v9 .dp [(cH (j8 (vV 0) (C9 0))),(cH (j8 (vV 0) (C9 1))),(K1 (cF1 J3 (j8 (vV 0) (C9 2))))]))
noncomputable def W7:Fn:=fn 1
  (j7 (sIf (tNot (tEQ (vE (jQ Jk [(cV 0)])))) vkx kz)
  (jq (v9 .dp [(K1 (cF1 J3 (j8 (vV 0) (C9 0)))),(cLC .dp 1 [] (itS (cH (j8 (vV 0) (C9 1)))) (.n 0) tYes (K1 (jQ ZZ [(cV 0)])))])))
def m__law_cell_at : Fn:= B.m__law_cell_at
def m__law_mixed : Fn:= A.m__law_mixed
def m__law_words : Fn:= A.m__law_words
def m__law_whole : Fn:= B.m__law_whole
noncomputable def KY:Fn:=fn 2
  (j7 (sIf (tE (cF2 (pu2 fEq) (vE (cF2 (pu2 jJ) (vV 0) (C9 4))) (C9 1))) (j7 (jx 1 (qY .rt [(cC (.str "any")),(cC (.str "fresh")),(cC (.str "good")),(cC (.str "new")),(cC (.str "none")),(cC (.str "room")),(cC (.str "signs"))]))
  (jq (cF1 Q7 (vE (qY .rt [(cH (j8 (vV 1) (vE (cF2 (pu2 jJ) (vE (cF2 (pu2 qv) (vV 0) (C9 4))) (C9 7))))),(cH (j8 (vV 1) (vE (cF2 (pu2 jJ) (vE (cF2 (pu2 qv) (vV 0) (C9 28))) (C9 7))))),(cH (j8 (vV 1) (vE (cF2 (pu2 jJ) (vE (cF2 (pu2 qv) (vV 0) (C9 196))) (C9 7)))))]))))) kz)
  (jq (cF1 V6 (vE (jQ m__law_words [(cF2 (pu2 qv) (vV 0) (C9 4)),(cF2 jz (C9 1) (vE (cF2 (pu2 jJ) (vE (cF2 (pu2 qv) (vV 0) (C9 32))) (C9 3))))])))))
noncomputable def Z3:Fn:=fn 2
  (j7 (sIf (tOr (tE (cF2 (pu2 fEq) (vE (cF2 (pu2 jJ) (vV 0) (C9 4))) (C9 0))) (tAnd (tE (cF2 (pu2 fEq) (vE (cF2 (pu2 jJ) (vV 0) (C9 4))) (C9 1))) (tE (cF2 (pu2 fEq) (vV 1) (C9 0))))) (jq (cC .non)) kz)
  (j7 (sIf (tAnd (tE (cF2 (pu2 fLt) (vE (cF2 (pu2 jJ) (vV 0) (C9 4))) (C9 3))) (tE (cF2 (pu2 fGt) (vV 1) (C9 0)))) (jq (cF2 (pu2 jJ) (vE (cF2 (pu2 qv) (vV 0) (C9 4))) (vV 1))) kz)
  (jq (cC (.str "new")))))
noncomputable def V9:Fn:=fn 8
  (j7 (jx 4 (jQ m__law_mixed [(cV 0),(cC (.int 0))]))
  (j7 (jx 5 (cF2 (pu2 jJ) (vE (cF2 (pu2 qv) (vV 4) (C9 3))) (vE (cF1 (pu1 v6) (vV 3)))))
  (j7 (jx 6 (cH (j8 (vE (cF2 jz (vE (qY .rt [(cC (.str "fresh")),(cC (.str "any")),(cC (.str "fresh"))])) (vE (cLC .rt 1 [] (qJ (j8 (vV 3) (vV 2))) (.n 0) tYes (cV 0))))) (vE (cF2 (pu2 jJ) (vE (cF2 (pu2 qv) (vV 4) (C9 60))) (vE (cF2 jz (C9 3) (j8 (vV 3) (vV 2)))))))))
  (j7 (jx 7 (cF1 Wj (vE (cLC .rt 1 [4,3,2] (qJ (j8 (vV 3) (vV 5))) (.n 0) tYes (jQ Z3 [(cF2 (pu2 qv) (vV 1) (j8 (vE (qY .rt [(cC (.int 720)),(cC (.int 46080)),(cC (.int 2949120))])) (vV 0))),(cH (j8 (vV 2) (vV 3)))])))))
  (jq (v9 .no [(cH (j8 (vV 1) (vE (cF2 (pu2 jJ) (vV 4) (vE (cF1 (pu1 v6) (vV 1))))))),(cV 6),(cV 5),(cV 7)]))))))
noncomputable def QY:Fn:=fn 10
  (j7 (jx 2 (jQ m__law_mixed [(jQ m__law_cell_at [(cV 0),(cC (.int 0))]),(cC (.int 0))]))
  (j7 (jx 3 (jQ KY [(jQ m__law_cell_at [(cV 0),(cC (.int 1))])]))
  (j7 (jx 4 (cF2 jz (C9 1) (vE (cF2 (pu2 jJ) (vV 2) (C9 4)))))
  (j7 (sIf (tE (cF2 (pu2 fEq) (vE (cF2 (pu2 jJ) (vE (cF2 (pu2 qv) (vV 2) (C9 4))) (C9 6))) (C9 1))) (jx 4 (cF2 jz (C9 5) (vE (cF2 (pu2 jJ) (vE (cF2 (pu2 qv) (vV 2) (C9 24))) (C9 8))))) kz)
  (j7 (jx 5 (cLC .rt 1 [0] (qJ (vV 4)) (.n 0) tYes (cF2 (pu2 jJ) (vE (jQ m__law_mixed [(jQ m__law_cell_at [(cV 1),(cC (.int 2))]),(cV 0)])) (C9 4))))
  (j7 (jx 6 (cLC .dp 1 [] (qJ (vV 4)) (.n 0) tYes (qY .dp [])))
  (j7 (wq (itS (cSl (vV 0) (some (vV 1)) (some (vE (cF2 jz (vV 1) (C9 50)))))) (.n 7) (j7 (jx 8 (cF2 (pu2 jJ) (vE (jQ m__law_mixed [(cV 7),(cC (.int 12))])) (vV 4)))
  (j7 (K7 6 (vV 8) (jQ V9 [(cV 7),(cV 3),(cV 8),(cV 5)]))
  (sIf (tAnd (tE (cF2 (pu2 fEq) (vE (cF2 (pu2 jJ) (vE (cF2 (pu2 qv) (vV 2) (C9 200))) (C9 4))) (C9 1))) (tE (cF2 (pu2 fEq) (vE (cF2 (pu2 jJ) (vV 7) (C9 3))) (C9 1)))) (K7 6 (vV 8) (cH (j8 (j8 (vV 6) (vV 8)) (C9 0)))) kz))))
  (j7 (jx 9 (cLC .rt 1 [0] (qJ (vV 4)) (.n 0) tYes (cF2 (pu2 fEq) (vE (cF2 (pu2 jJ) (vE (jQ m__law_mixed [(jQ m__law_cell_at [(cV 1),(cC (.int 3))]),(cV 0)])) (C9 2))) (C9 1))))
  (sFz 6 (jq (v9 .no [(cV 3),(cLC .rt 1 [5,9,6] (qJ (vV 4)) (.n 0) tYes (v9 .no [(cH (j8 (vV 1) (vV 0))),(cH (j8 (vV 2) (vV 0))),(cH (j8 (vV 3) (vV 0)))]))])))))))))))
noncomputable def W1:Fn:=fn 1
  (jq (v9 .dp [(K1 (cF1 J3 (j8 (vV 0) (C9 0)))),(cLC .dp 3 [] (itS (cH (j8 (vV 0) (C9 1)))) (.t [0,1,2]) tYes (v9 .dp [(cV 0),(cV 1),(K1 (cF1 J3 (vV 2)))]))]))
noncomputable def YY:Fn:=fn 4
  (j7 (sIf (tOr (tNot (tEQ (vE (cF1 (pu1 (k6 "tuple")) (vV 0))))) (tOr (tE (cF2 (pu2 fNe) (vV 0) (vV 1))) (tNot (tEQ (vE (cF1 (pu1 (k6 "tuple")) (j8 (vV 0) (C9 3)))))))) (jq (cC (.bl false))) kz)
  (j7 (wq (kz4 (cF2 jz (vE (v9 .no [(cH (j8 (vV 0) (C9 1))),(cH (j8 (vV 0) (C9 2)))])) (j8 (vV 0) (C9 3))) (cF2 jz (vE (v9 .no [(cH (j8 (vV 1) (C9 1))),(cH (j8 (vV 1) (C9 2)))])) (j8 (vV 1) (C9 3)))) (.t [2,3]) (sIf (tOr (tEQ (vE (cF1 (pu1 (k6 "bool")) (vV 2)))) (tE (cF2 (pu2 fNe) (vE (cF1 (pu1 (k6 "str")) (vV 2))) (vE (cF1 (pu1 (k6 "str")) (vV 3)))))) (jq (cC (.bl false))) kz))
  (jq (cC (.bl true)))))
noncomputable def Qz:Fn:=fn 6
  (j7 (sIf (tOr (tNot (tEQ (vE (cF1 (pu1 (k6 "tuple")) (vV 0))))) (tOr (tE (cF2 (pu2 fNe) (vE (cF1 (pu1 v6) (vV 0))) (C9 2))) (tOr (tNot (tEQ (vE (cF1 (pu1 (k6 "list")) (j8 (vV 0) (C9 0)))))) (tE (cF2 (pu2 fNe) (j8 (vV 0) (C9 0)) (j8 (vV 1) (C9 0))))))) (jq (cC (.bl false))) kz)
  (j7 (sIf (tOr (tNot (tEQ (vE (cF1 (pu1 (k6 "list")) (j8 (vV 0) (C9 1)))))) (tE (cF2 (pu2 fNe) (vE (cF1 (pu1 v6) (j8 (vV 0) (C9 1)))) (vE (cF1 (pu1 v6) (j8 (vV 1) (C9 1))))))) (jq (cC (.bl false))) kz)
  (j7 (wq (qqe (cH (j8 (vV 0) (C9 1))) (cH (j8 (vV 1) (C9 1)))) (.t [2,3]) (j7 (sIf (tOr (tNot (tEQ (vE (cF1 (pu1 (k6 "tuple")) (vV 2))))) (tOr (tE (cF2 (pu2 fNe) (vE (cF1 (pu1 v6) (vV 2))) (C9 3))) (tOr (tNot (tEQ (vE (jQ m__law_whole [(cH (j8 (vV 2) (C9 0)))])))) (tE (cF2 (pu2 fNe) (j8 (vV 2) (C9 0)) (j8 (vV 3) (C9 0))))))) (jq (cC (.bl false))) kz)
  (j7 (sIf (tOr (tNot (tEQ (vE (cF1 (pu1 (k6 "bool")) (j8 (vV 2) (C9 1)))))) (tOr (tE (cF2 (pu2 fNe) (j8 (vV 2) (C9 1)) (j8 (vV 3) (C9 1)))) (tNot (tEQ (vE (cF1 (pu1 (k6 "list")) (j8 (vV 2) (C9 2)))))))) (jq (cC (.bl false))) kz)
  (j7 (sIf (tE (cF2 (pu2 fNe) (vE (cF1 (pu1 v6) (j8 (vV 2) (C9 2)))) (vE (cF1 (pu1 v6) (j8 (vV 3) (C9 2)))))) (jq (cC (.bl false))) kz)
  (wq (qqe (cH (j8 (vV 2) (C9 2))) (cH (j8 (vV 3) (C9 2)))) (.t [4,5]) (sIf (tNot (tEQ (vE (jQ YY [(cV 4),(cV 5)])))) (jq (cC (.bl false))) kz))))))
  (jq (cC (.bl true))))))
def V3:Fn:=fn 4
  (j7 (WJ 0 1 2 3 [1])
  (j7 (sPC 0 [1])
  (sPC 0 [0])))
noncomputable def m_law:Fn:=fn 5
  (j7 (jx 1 (jQ QY [(cV 0),(cC (.int 5))]))
  (j7 (jx 2 (jQ W1 [(cV 1)]))
  (j7 (sIf (tOr (tE (cF2 (pu2 Vx) (vE (J5 Jk [(vV 2)])) (vE (cC (.bl true))))) (tE (cF2 (pu2 fNe) (vV 2) (vV 1)))) (jq (cC (.bl false))) kz)
  (j7 (jx 3 (W6 W7 [(vV 2)]))
  (j7 (sIf (tOr (tNot (tEQ (vE (J5 Qz [(vV 3),(vV 1)])))) (tE (cF2 (pu2 fNe) (vV 2) (vV 1)))) (jq (cC (.bl false))) kz)
  (j7 (Zz (WZ V3 3 []))
  (j7 (sIf (tNot (tEQ (vE (J5 Qz [(vV 2),(vV 1)])))) (jq (cC (.bl false))) kz)
  (j7 (jx 4 (W6 W7 [(vV 2)]))
  (j7 (Zz (WZ V3 2 []))
  (jq (wK (vE (J5 Qz [(vV 4),(vV 1)])) (wK (vE (cF2 (pu2 Wv) (vE (J5 Jk [(vV 4)])) (vE (cC (.bl true))))) (cF2 (pu2 Wv) (vE (J5 Jk [(vV 2)])) (vE (cC (.bl false))))))))))))))))
end Nk10
namespace Nk10
open Q PySem C
abbrev Yes(f:Fn)(xs:List Sd):Prop:=Oo f xs (λy=>∃o':Own,y=(o',.bl true)/\True) noX
theorem qvh(i:Int):Yes YK [(.no,.int i)]:=by
 unfold YK;refine kQ ?_;have i1:k6 "int" (.int i)=some (.bl true):=rfl;have i2:k6 "bool" (.int i)=some (.bl false):=rfl;simp![i1,i2];exact⟨_,rfl,trivial⟩
theorem jzp{i n:Int}(h0:0<=i)(h1:i<n):Yes KJ [(.no,.int i),(.no,.int n)]:=by
 unfold KJ;refine kQ ?_;simp![];refine(qvh i).use ?_;intro _ _;have e1:fLe (.int 0) (.int i)=some (.bl true):=by rw[le_ii];simp[h0]
 have e2:fLt (.int i) (.int n)=some (.bl true):=by rw[lt_ii];simp[h1]
 simp![e1,e2];exact⟨_,rfl,trivial⟩
theorem XZ(ds:List D)(hl:ds.length<=10000):Yes KQ [(.no,.tup ds),(.no,.int ds.length)]:=by
 unfold KQ;refine kQ ?_;have i1:k6 "tuple" (.tup ds)=some (.bl true):=rfl;have e:fEq (.int ds.length) (.int ds.length)=some (.bl true):=by rw[KZ];simp
 simp![i1,e];exact⟨_,rfl,trivial⟩
theorem kxv{z:Str}{ds:List D}{q:D}(hq:q=.tup ds\/q=.lst ds)(h:Q0 (.str z) q=some (.bl true)):Yes Jz [(.no,.str z),(.no,q)]:=by
 unfold Jz;refine kQ ?_;have i1:k6 "str" (.str z)=some (.bl true):=rfl;simp![i1,h];exact⟨_,rfl,trivial⟩
def Fil(own:Int)(d:D):Prop:=d=.non\/d=.str "new"\/∃i,d=.int i/\0<=i/\i<own
theorem none_of{i:Int}{ds:List D}:Oo Jz [(.no,.int i),(.no,.tup ds)] (λy=>∃o':Own,y=(o',.bl false)/\True) noX:=by
 unfold Jz;refine kQ ?_;have i1:k6 "str" (.int i)=some (.bl false):=rfl;simp![i1];exact⟨_,rfl,trivial⟩
theorem vjm{own:Int}{d:D}(h:Fil own d):Yes Zw [(.no,d),(.no,.int own)]:=by
 unfold Zw;refine kQ ?_;rcases h with rfl|rfl|⟨i,rfl,h0,h1⟩
 ·simp![];exact⟨_,rfl,trivial⟩
 ·simp![];refine(kxv (.inl rfl) ?_).use ?_
  ·rfl
  intro _ _;simp![];exact⟨_,rfl,trivial⟩
 ·simp![];refine none_of.use ?_;intro _ _;simp![];refine(jzp h0 h1).use ?_;intro _ _;simp![];exact⟨_,rfl,trivial⟩
theorem vwo{own:Int}{d:D}(h:d=.str "fresh"\/d=.str "any"\/∃i,d=.int i/\0<=i/\i<own):Yes XX [(.no,d),(.no,.int own)]:=by
 unfold XX;refine kQ ?_;rcases h with rfl|rfl|⟨i,rfl,h0,h1⟩
 ·simp![];refine(kxv (.inl rfl) ?_).use ?_
  ·rfl
  intro _ _;simp![];exact⟨_,rfl,trivial⟩
 ·simp![];refine(kxv (.inl rfl) ?_).use ?_
  ·rfl
  intro _ _;simp![];exact⟨_,rfl,trivial⟩
 ·simp![];refine none_of.use ?_;intro _ _;simp![];refine(jzp h0 h1).use ?_;intro _ _;simp![];exact⟨_,rfl,trivial⟩
theorem W0(n:Nat):Kq (.lst (List.replicate n (D.bl true)))=some (.bl true):=by
 have:∀n,bls (List.replicate n (D.bl true))=some (List.replicate n true):=λn=>by
  induction n with
  |zero=>rfl
  |succ n ih=>
   rw[List.replicate_succ];unfold bls;rw[ih];rfl
 show Option.map (λbs:List Bool=>D.bl (bs.all id)) (bls (List.replicate n (D.bl true)))=_;rw[this];simp
theorem VQ{G:D->Sd->Prop}(hG:∀d y,G d y->y.2=.bl true):∀{ds:List D} {ys:List Sd},Each G ds ys->ys.map (·.2)=List.replicate ds.length (.bl true)
 |[],[],_=>rfl
 |d::ds,y::ys,r=>by
  rw[List.map_cons,hG d y r.1,VQ hG r.2];rfl
theorem qwf{own:Int}{fs:List D}(hl:fs.length<=1000)(h:∀f∈fs,Fil own f):Yes YX [(.no,.tup fs),(.no,.int own),(.no,.int fs.length)]:=by
 unfold YX;refine kQ ?_;simp![];refine(XZ fs (by omega)).use ?_;intro _ _;simp![];refine vX [some (.no,.int own)] (λ_ y=>y.2=.bl true) ?_;simp![];refine⟨rfl,λd hd=>?_,λys hy=>?_⟩
 ·simp![];refine(vjm (h d hd)).use ?_;intro _ _;exact⟨⟨_,rfl⟩,rfl⟩
 ·rw[vW,VQ (λ_ _ h=>h) hy];simp![W0];exact⟨_,rfl,trivial⟩
def Ask(own:Int)(d:D):Prop:=d=.str "fresh"\/d=.str "any"\/∃i,d=.int i/\0<=i/\i<own
noncomputable def Stp(ss:List Str)(own:Int)(ks:List Int)(d:D):Prop:=∃(sg:Str) (en:D) (to:Int) (fs:List D),d=.tup [.str sg,en,.int to,.tup fs]/\sg∈ss/\Ask own en/\0<=to/\to<ks.length/\(fs.length:Int)=ks.getD to.toNat 0/\∀f∈fs,Fil own f
theorem qz2{ss:List Str}{own:Int}{ks:List Int}{d:D}(hk:∀k∈ks,k<=3)(oh:ks.length<=100)(h:Stp ss own ks d):Yes jw3 [(.no,d),(.no,.int own),(.no,sL ss),(.no,iL ks)]:=by
 obtain⟨sg,en,to,fs,rfl,hs,ha,t0,t1,hf,ie⟩:=h;have j0:∀a b c d:D,jw (.tup [a,b,c,d]) (.int 0)=some a:=λ_ _ _ _=>rfl
 have j1:∀a b c d:D,jw (.tup [a,b,c,d]) (.int 1)=some b:=λ_ _ _ _=>rfl
 have j2:∀a b c d:D,jw (.tup [a,b,c,d]) (.int 2)=some c:=λ_ _ _ _=>rfl
 have j3:∀a b c d:D,jw (.tup [a,b,c,d]) (.int 3)=some d:=λ_ _ _ _=>rfl
 have hg:ks[to.toNat]?=some (ks.getD to.toNat 0):=by rw[X9,X2 (by omega)];rfl
 have hx:jw (iL ks) (.int to)=some (.int (ks.getD to.toNat 0)):=vK t0 (by rw[Xk,hg];rfl);have h3:ks.getD to.toNat 0<=3:=hk _ (Yn hg);unfold jw3;refine kQ ?_;simp![];refine(XZ [.str sg,en,.int to,.tup fs] (by simp)).use ?_;intro _ _;simp![j0];refine(kxv (.inr rfl) ?_).use ?_
 ·show Q0 (.str sg) (sL ss)=_;rw[in_s,show(ss.any λw=>w==sg)=true from List.any_eq_true.mpr ⟨sg,hs,by simp⟩]
 intro _ _;simp![j1];refine(vwo ha).use ?_;intro _ _;simp![j2];refine(jzp t0 t1).use ?_;intro _ _;simp![j2,j3,hx];rw[<-hf];refine(qwf (by omega) ie).use ?_;intro _ _;simp![];exact⟨_,rfl,trivial⟩
theorem qvi{ss:List Str}{own:Int}{ks:List Int}{st:List D}(hk:∀k∈ks,k<=3)(oh:ks.length<=100)(hl:st.length<=1000)(h:∀d∈st,Stp ss own ks d):Yes WX [(.no,.lst st),(.no,.int own),(.no,sL ss),(.no,iL ks)]:=by
 unfold WX;refine kQ ?_;simp![];refine vX [some (.no,.int own),some (.no,sL ss),some (.no,iL ks)] (λ_ y=>y.2=.bl true) ?_;simp![];refine⟨rfl,λd hd=>?_,λys hy=>?_⟩
 ·simp![];refine(qz2 hk oh (h d hd)).use ?_;intro _ _;exact⟨⟨_,rfl⟩,rfl⟩
 ·rw[vW,VQ (λ_ _ h=>h) hy];simp![W0];exact⟨_,rfl,trivial⟩
noncomputable def Rm(ss:List Str)(ks:List Int)(r:D):Prop:=∃(k:Int) (gd:Bool) (st:List D),r=.tup [.int k,.bl gd,.lst st]/\0<=k/\k<=3/\st.length<=120/\∀d∈st,Stp ss k ks d
def JV:D->D
 |.tup [k,_,_]=>k
 |d=>d
def Kw:D->Nat
 |.tup [_,_,.lst st]=>st.length
 |_=>0
def K4(rs:List D):Nat:=(rs.map Kw).sum
theorem qwe{ss:List Str}{ks:List Int}{r:D}(h:Rm ss ks r):Yes ZX [(.no,r)]:=by
 obtain⟨k,gd,st,rfl,h0,h3,_⟩:=h;have j0:∀a b c:D,jw (.tup [a,b,c]) (.int 0)=some a:=λ_ _ _=>rfl
 have j1:∀a b c:D,jw (.tup [a,b,c]) (.int 1)=some b:=λ_ _ _=>rfl
 have j2:∀a b c:D,jw (.tup [a,b,c]) (.int 2)=some c:=λ_ _ _=>rfl
 have i1:k6 "bool" (.bl gd)=some (.bl true):=rfl;have i2:k6 "list" (.lst st)=some (.bl true):=rfl;unfold ZX;refine kQ ?_;simp![];refine(XZ [.int k,.bl gd,.lst st] (by simp)).use ?_;intro _ _;simp![j0];refine(jzp h0 (by omega)).use ?_;intro _ _;simp![j1,j2,i1,i2];exact⟨_,rfl,trivial⟩
theorem kz6:∀iq:List D,zW (iq.map λd=>D.int (Kw d))=some (iq.map λd=>(Kw d:Int))
 |[]=>rfl
 |d::r=>by rw[List.map_cons,zW,kz6 r];rfl
theorem kxc:∀iq:List D,(iq.map λd=>(Kw d:Int)).sum=(K4 iq:Nat)
 |[]=>rfl
 |d::r=>by unfold K4;rw[List.map_cons,List.sum_cons,kxc r,List.map_cons,List.sum_cons];unfold K4;omega
theorem qz1{ss:List Str}{ks:List Int}{iq:List D}(h:∀m∈iq,Rm ss ks m)(hl:iq.length<=1000):WY (.lst (iq.map λd=>D.int (Kw d)))=some (.int (K4 iq:Nat)):=by
 unfold WY;dsimp only;rw[kz6];dsimp only;have hs:ZK (iq.map λd=>(Kw d:Int))=true:=by
  unfold ZK;rw[Yr];intro i hi;obtain⟨d,hd,rfl⟩:=List.mem_map.mp hi;obtain⟨a,b,st,rfl,_,_,bq,_⟩:=h d hd;have:(Kw (.tup [.int a,.bl b,.lst st]):Int)=st.length:=rfl;rw[Yd (by omega),Yd (by omega)];rfl
 rw[Xf ⟨hs,by rw[X6];omega⟩,kxc]
theorem qvr{ss:List Str}{ks:List Int}{rs:List D}(h1:1<=rs.length)(h12:rs.length<=12)(hk:rs.map JV=ks.map D.int)(h:∀r∈rs,Rm ss ks r)(hs:K4 rs<=120):Yes XJ [(.no,.lst rs),(.no,sL ss)]:=by
 have oh:ks.length=rs.length:=by have:=congrArg List.length hk;rw[X6,X6]at this;exact this.symm
 have hk3:∀k∈ks,k<=3:=λk hm=>by
  have:D.int k∈rs.map JV:=by rw[hk];exact List.mem_map.mpr ⟨k,hm,rfl⟩
  obtain⟨r,hr,e⟩:=List.mem_map.mp this;obtain⟨k',gd,st,rfl,_,k3,_⟩:=h r hr;have e:D.int k'=.int k:=e;injection e with e;omega
 have j0:∀a b c:D,jw (.tup [a,b,c]) (.int 0)=some a:=λ_ _ _=>rfl
 have j2:∀a b c:D,jw (.tup [a,b,c]) (.int 2)=some c:=λ_ _ _=>rfl
 have i1:k6 "list" (.lst rs)=some (.bl true):=rfl;have e1:fLe (.int 1) (.int rs.length)=some (.bl true):=by rw[le_ii];simp;omega
 have e2:fLe (.int rs.length) (.int 12)=some (.bl true):=by rw[le_ii];simp;omega
 have e3:fGt (.int (K4 rs:Nat)) (.int 120)=some (.bl false):=by rw[gt_ii];simp;omega
 have bk:∀E:En,back [] [] (clr [] E)=E:=λ_=>rfl
 unfold XJ;refine kQ ?_;simp![i1,e1,e2];refine vX [] (λ_ y=>y.2=.bl true) ?_;simp![];refine⟨λd hd=>?_,λys hy=>?_⟩
 ·simp![];refine(qwe (h d hd)).use ?_;intro _ _;exact⟨⟨_,rfl⟩,rfl⟩
 rw[vW,VQ (λ_ _ h=>h) hy,bk];simp![W0];refine vX [] (λd y=>y.2=.int (Kw d)) ?_;simp![];refine⟨λd hd=>?_,λys hy=>?_⟩
 ·obtain⟨k,gd,st,rfl,_,_,bq,_⟩:=h d hd;simp![j2];exact⟨⟨_,rfl⟩,rfl⟩
 rw[vW,K2 (h:=λd=>D.int (Kw d)) (λ_ _ h=>h) hy,bk];simp![qz1 h (by omega),e3];refine vX [] (λd y=>y.2=JV d) ?_;simp![];refine⟨λd hd=>?_,λys hy=>?_⟩
 ·obtain⟨k,gd,st,rfl,_,_,bq,_⟩:=h d hd;simp![j0];exact⟨⟨_,rfl⟩,rfl⟩
 rw[vW,K2 (h:=JV) (λ_ _ h=>h) hy,hk,bk];simp![];refine qwi (λE1 B ds af=>∃(o:Own) (q:Option Sd),(o=.rt\/o=.no)/\B=[q,some (.no,sL ss),some (o,iL ks)]/\(∀d∈ds,d∈rs)/\∃n,af.map (·.2)=List.replicate n (.bl true)) ?_ ?_ ?_
 ·simp![];exact⟨.rt,_,.inl rfl,rfl,λ_ h=>h,0,rfl⟩
 ·rintro E1 B d ds af ⟨o,q,ho,rfl,df,n,hn⟩;obtain⟨k,gd,st,rfl,_,_,bq,hstp⟩:=h d (df d X3);rcases ho with rfl|rfl
  all_goals
   simp![j0,j2];refine(qvi hk3 (by omega) (by omega) hstp).use ?_;intro _ _;exact⟨.no,_,.inr rfl,rfl,λd hd=>df d (lc9 _ hd),n+1,by rw[Ya,hn,List.replicate_succ'];rfl⟩
 ·rintro E1 B af ⟨o,q,ho,rfl,df,n,hn⟩;rw[vW,hn];simp![W0];exact⟨_,rfl,trivial⟩
abbrev AZ:Str:="abcdefghijklmnopqrstuvwxyz"
def Sg(z:Str):Prop:=1<=z.cps.size/\z.cps.size<=8/\∀c∈z.cps.toList,c∈AZ.cps.toList
theorem wj4:∀c∈AZ.cps.toList,Zq ⟨#[c]⟩ AZ=true:=by decide +kernel
theorem qz7{z:Str}(h:Sg z):Yes ZW [(.no,.str z)]:=by
 obtain⟨h1,h8,hz⟩:=h;have i1:k6 "str" (.str z)=some (.bl true):=rfl;have l:v6 (.str z)=some (.int z.cps.size):=rfl;have e1:fLe (.int 1) (.int z.cps.size)=some (.bl true):=by rw[le_ii];simp;omega
 have e2:fLe (.int z.cps.size) (.int 8)=some (.bl true):=by rw[le_ii];simp;omega
 have hb:z.cps.size<=big:=by unfold big;omega
 unfold ZW;refine kQ ?_;simp![i1,l,e1,e2];refine vX [] (λ_ y=>y.2=.bl true) ?_;simp![hb];refine⟨λd hd=>?_,λys hy=>?_⟩
 ·obtain⟨c,hc,rfl⟩:=List.mem_map.mp hd;have e:Q0 (.str ⟨#[c]⟩) (.str "abcdefghijklmnopqrstuvwxyz")=some (.bl true):=by
   show some (D.bl (Zq ⟨#[c]⟩ AZ))=_;rw[wj4 c (hz c hc)]
  simp![e];exact⟨⟨_,rfl⟩,trivial⟩
 ·rw[vW,VQ (λ_ _ h=>h) hy];simp![W0];exact⟨_,rfl,trivial⟩
theorem qqp(ss:List Str):(sL ss).flat 40=true:=by
 show D.flats 39 (ss.map D.str)=true;exact J9 λd hd=>by obtain⟨w,_,rfl⟩:=List.mem_map.mp hd;rfl
theorem qvo{ss:List Str}(h1:1<=ss.length)(h3:ss.length<=3)(h:∀z∈ss,Sg z)(hs:qK (ddS ss)=ss):Yes Qx [(.no,sL ss)]:=by
 have i1:k6 "list" (sL ss)=some (.bl true):=rfl;have e1:fLe (.int 1) (.int ss.length)=some (.bl true):=by rw[le_ii];simp;omega
 have e2:fLe (.int ss.length) (.int 3)=some (.bl true):=by rw[le_ii];simp;omega
 have e3:Q7 (.no,sL ss)=some (.rt,sL ss):=by
  unfold Q7;dsimp only;rw[kkp];dsimp only;rw[Xf (by omega),hs]
 have bk:∀E:En,back [] [] (clr [] E)=E:=λ_=>rfl
 unfold Qx;refine kQ ?_;simp![i1,e1,e2];refine vX [] (λ_ y=>y.2=.bl true) ?_;simp![];refine⟨λd hd=>?_,λys hy=>?_⟩
 ·obtain⟨z,hz,rfl⟩:=List.mem_map.mp hd;simp![];refine(qz7 (h z hz)).use ?_;intro _ _;exact⟨⟨_,rfl⟩,rfl⟩
 rw[vW,VQ (λ_ _ h=>h) hy,bk];simp![W0,e3,C.eq_self (qqp ss)];exact⟨_,rfl,trivial⟩
structure Mc (ss:List Str)(ks:List Int)(rs:List D):Prop where
 s1:1<=ss.length
 s3:ss.length<=3
 sg:∀z∈ss,Sg z
 so:qK (ddS ss)=ss
 r1:1<=rs.length
 r12:rs.length<=12
 ky:rs.map JV=ks.map D.int
 rm:∀r∈rs,Rm ss ks r
 ln:K4 rs<=120
theorem jxr{ss:List Str}{ks:List Int}{rs:List D}(h:Mc ss ks rs):Yes Jk [(.no,vj ss rs)]:=by
 have j0:∀a b:D,jw (.tup [a,b]) (.int 0)=some a:=λ_ _=>rfl
 have j1:∀a b:D,jw (.tup [a,b]) (.int 1)=some b:=λ_ _=>rfl
 unfold Jk;refine kQ ?_;simp![];refine(XZ [sL ss,.lst rs] (by simp)).use ?_;intro _ _;simp![j0];refine(qvo h.s1 h.s3 h.sg h.so).use ?_;intro _ _;simp![j0,j1];refine(qvr h.r1 h.r12 h.ky h.rm h.ln).use ?_;intro _ _;simp![];exact⟨_,rfl,trivial⟩
end Nk10
namespace Nk10
open Q PySem C
theorem kxt{xs:List D}(h:D.pures xs=true):VV (.rt,.lst xs)=true:=by
 unfold VV;dsimp only;exact h
theorem kkz{xs:List D}(h:∀x∈xs,x.pure=true):D.pures xs=true:=by rw[D.pures_all,Yr];exact h
theorem Fil.pure{own:Int}{d:D}(h:Fil own d):d.pure=true:=by rcases h with rfl|rfl|⟨i,rfl,_⟩<;>rfl
theorem Stp.pure{ss:List Str}{own:Int}{ks:List Int}{d:D}(h:Stp ss own ks d):d.pure=true:=by
 obtain⟨sg,en,to,fs,rfl,hs,ha,t0,t1,hf,ie⟩:=h;have h1:en.pure=true:=by rcases ha with rfl|rfl|⟨i,rfl,_⟩<;>rfl
 have h2:D.pures fs=true:=kkz λf hf=>(ie f hf).pure
 show(D.pure (.str sg)&&(en.pure&&(D.pure (.int to)&&(D.pures fs&&true))))=true;rw[h1,h2];rfl
theorem qwo{ss:List Str}{ks:List Int}{r:D}(h:Rm ss ks r):Oo ZZ [(.no,r)] (λy=>∃_:Unit,y=(.dp,r)/\True) noX:=by
 obtain⟨k,gd,st,rfl,h0,h3,hl,bq⟩:=h;have j0:∀a b c:D,jw (.tup [a,b,c]) (.int 0)=some a:=λ_ _ _=>rfl
 have j1:∀a b c:D,jw (.tup [a,b,c]) (.int 1)=some b:=λ_ _ _=>rfl
 have j2:∀a b c:D,jw (.tup [a,b,c]) (.int 2)=some c:=λ_ _ _=>rfl
 unfold ZZ;refine kQ ?_;simp![j0,j1,j2,XQ,kx7,kz1 (o:=.no) (xs:=st) (by decide)];exact⟨kxt (kkz λd hd=>(bq d hd).pure),rfl,(),trivial⟩
theorem vjs{ss:List Str}{ks:List Int}{rs:List D}(h:Mc ss ks rs):Oo W1 [(.no,vj ss rs)] (λy=>∃_:Unit,y=(.dp,vj ss rs)/\True) noX:=by
 have j0:∀a b:D,jw (.tup [a,b]) (.int 0)=some a:=λ_ _=>rfl
 have j1:∀a b:D,jw (.tup [a,b]) (.int 1)=some b:=λ_ _=>rfl
 unfold W1;refine kQ ?_;simp![j0,XQ,kx7,kz1 (o:=.no) (xs:=ss.map D.str) (by decide)];refine⟨kxt (D.pures_map _ _ λ_ _=>rfl),?_⟩;refine qwi (λE1 B ds af=>E1=[some (.no,vj ss rs)]/\∃(l0 l1 l2:Option Sd) (pre:List D),B=[l0,l1,l2]/\rs=pre++ds/\(∀y∈af,y.1=.dp)/\af.map (·.2)=pre) ?_ ?_ ?_
 ·simp![j1];exact⟨_,_,_,[],rfl,rfl,(λy h=>nomatch h),rfl⟩
 ·rintro E1 B d ds af ⟨rfl,l0,l1,l2,pre,rfl,df,kd,hmap⟩;obtain⟨k,gd,st,rfl,h0,h3,hl,bq⟩:=h.rm d (by rw[df];simp);simp![XQ,kx7,kz1 (o:=.no) (xs:=st) (by decide)];refine⟨kxt (kkz λd hd=>(bq d hd).pure),rfl,_,_,_,pre++[.tup [.int k,.bl gd,.lst st]],rfl,by rw[df];simp,λy hy=>?_,?_⟩
  ·rcases List.mem_append.mp hy with hy|hy
   ·exact kd y hy
   ·rw[List.mem_singleton.mp hy]
  ·rw[Ya,hmap];rfl
 ·rintro E1 B af ⟨rfl,l0,l1,l2,pre,rfl,df,kd,hmap⟩;rw[Y9]at df;subst df;rw[qq0 (List.all_eq_true.mpr λy hy=>by unfold qW;rw[kd y hy];rfl),hmap];simp only[JJ,back,clr,at',List.drop,List.map_cons,List.map_nil,List.set_cons_zero,List.set_cons_succ];simp![];exact⟨rfl,(),trivial⟩
theorem kw3{ss:List Str}{ks:List Int}{rs:List D}(h:Mc ss ks rs):Oo W7 [(.no,vj ss rs)] (λy=>∃_:Unit,y=(.dp,vj ss rs)/\True) noX:=by
 have j0:∀a b:D,jw (.tup [a,b]) (.int 0)=some a:=λ_ _=>rfl
 have j1:∀a b:D,jw (.tup [a,b]) (.int 1)=some b:=λ_ _=>rfl
 unfold W7;refine kQ ?_;simp![];refine(jxr h).use ?_;intro _ _;simp![j0,XQ,kx7,kz1 (o:=.no) (xs:=ss.map D.str) (by decide)];refine⟨kxt (D.pures_map _ _ λ_ _=>rfl),?_⟩;refine qwi (λE1 B ds af=>E1=[some (.no,vj ss rs)]/\∃(l0:Option Sd) (pre:List D),B=[l0]/\rs=pre++ds/\(∀y∈af,y.1=.dp)/\af.map (·.2)=pre) ?_ ?_ ?_
 ·simp![j1];exact⟨_,[],rfl,rfl,(λy h=>nomatch h),rfl⟩
 ·rintro E1 B d ds af ⟨rfl,l0,pre,rfl,df,kd,hmap⟩;simp![XQ];refine(qwo (h.rm d (by rw[df];simp))).use ?_;intro _ _;simp![];refine⟨rfl,_,pre++[d],rfl,by rw[df];simp,λy hy=>?_,?_⟩
  ·rcases List.mem_append.mp hy with hy|hy
   ·exact kd y hy
   ·rw[List.mem_singleton.mp hy]
  ·rw[Ya,hmap];rfl
 ·rintro E1 B af ⟨rfl,l0,pre,rfl,df,kd,hmap⟩;rw[Y9]at df;subst df;rw[qq0 (List.all_eq_true.mpr λy hy=>by unfold qW;rw[kd y hy];rfl),hmap];simp only[JJ,back,clr,at',List.drop,List.map_cons,List.map_nil,List.set_cons_zero,List.set_cons_succ];simp![];exact⟨rfl,(),trivial⟩
end Nk10
namespace Nk10
open Q PySem C
theorem vke{c d:Ex}{e:Option Sd}{E:En}{P:En->List D->Prop}{X:XP}:Eo (kz4 c d (e::E)) P X=Eo (c (e::E)) (λE x=>Eo (d E) (λE y=>Wo (qwg x.2 y.2) E P) X) X:=by
 unfold kz4;rw[k5];congr 1;funext E x;rw[k5];congr 1;funext E y;exact x9
theorem Fil.flat{own:Int}{n:Nat}{d:D}(h:Fil own d):d.flat (n+1)=true:=by rcases h with rfl|rfl|⟨i,rfl,_⟩<;>rfl
theorem Ask.flat{own:Int}{n:Nat}{d:D}(h:Ask own d):d.flat (n+1)=true:=by rcases h with rfl|rfl|⟨i,rfl,_⟩<;>rfl
theorem Stp.flat{ss:List Str}{own:Int}{ks:List Int}{d:D}{n:Nat}(h:Stp ss own ks d):d.flat (n+4)=true:=by
 obtain⟨sg,en,to,fs,rfl,hs,ha,t0,t1,hf,ie⟩:=h;refine J9 λx hx=>?_
 simp only[Xh,Xe,or_false]at hx;rcases hx with rfl|rfl|rfl|rfl
 ·rfl
 ·exact ha.flat
 ·rfl
 ·exact J9 λf hf=>(ie f hf).flat
theorem qvj{ss:List Str}{own:Int}{ks:List Int}{d:D}(hk:∀k∈ks,k<=3)(h:Stp ss own ks d):Yes YY [(.no,d),(.no,d)]:=by
 have dw:=kq7 (h.flat (n:=36));obtain⟨sg,en,to,fs,rfl,hs,ha,t0,t1,hf,ie⟩:=h;have hg:ks[to.toNat]?=some (ks.getD to.toNat 0):=by rw[X9,X2 (by omega)];rfl
 have h3:ks.getD to.toNat 0<=3:=hk _ (Yn hg);have j1:∀a b c d:D,jw (.tup [a,b,c,d]) (.int 1)=some b:=λ_ _ _ _=>rfl
 have j2:∀a b c d:D,jw (.tup [a,b,c,d]) (.int 2)=some c:=λ_ _ _ _=>rfl
 have j3:∀a b c d:D,jw (.tup [a,b,c,d]) (.int 3)=some d:=λ_ _ _ _=>rfl
 have i1:∀xs,k6 "tuple" (.tup xs)=some (.bl true):=λ_=>rfl
 have ad:jz (.no,.tup [en,.int to]) (.no,.tup fs)=some (.no,.tup ([en,.int to]++fs)):=vwr (by simp;omega);have hz:qwg (.tup (en :: .int to::fs)) (.tup (en :: .int to::fs))=some (v7 (en :: .int to::fs) (en :: .int to::fs)):=by
  unfold qwg;dsimp only;rw[Xf (by unfold big;simp;omega)]
 have hx:∀x∈[en,.int to]++fs,k6 "bool" x=some (.bl false)/\∃b,k6 "str" x=some (.bl b):=λx hx=>by
  rcases List.mem_append.mp hx with hx|hx
  ·simp only[Xh,Xe,or_false]at hx;rcases hx with rfl|rfl
   ·rcases ha with rfl|rfl|⟨i,rfl,_⟩<;>exact⟨rfl,_,rfl⟩
   ·exact⟨rfl,_,rfl⟩
  ·rcases ie x hx with rfl|rfl|⟨i,rfl,_⟩<;>exact⟨rfl,_,rfl⟩
 have nb:∀b,fNe (.bl b) (.bl b)=some (.bl false):=λb=>by cases b<;>rfl
 unfold YY;refine kQ ?_;simp![i1,dw,j3];refine WK (λE j9=>∃(l2 l3:Option Sd) (bi:List D),E=[some (.no,.tup [.str sg,en,.int to,.tup fs]),some (.no,.tup [.str sg,en,.int to,.tup fs]),l2,l3]/\j9=v7 bi bi/\∀d∈bi,d∈[en,.int to]++fs) ?_ ?_ ?_
 ·simp![vke,j1,j2,j3,ad,hz];exact⟨_,_,_,rfl,rfl,λd h=>h⟩
 ·rintro E d j9 ⟨l2,l3,bi,rfl,he,hm⟩;cases bi with
  |nil=>cases he
  |cons x bi=>
   have he:d::j9=.tup [x,x]::v7 bi bi:=he;injection he with e1 e2;subst e1 e2;obtain⟨b1,b,b2⟩:=hx x (hm x X3);simp![b1,b2,nb];exact⟨_,_,bi,rfl,rfl,λd h=>hm d (lc9 _ h)⟩
 ·rintro E ⟨l2,l3,bi,rfl,he,hm⟩;simp![];exact⟨_,rfl,trivial⟩
theorem Rm.flat{ss:List Str}{ks:List Int}{r:D}{n:Nat}(h:Rm ss ks r):r.flat (n+7)=true:=by
 obtain⟨k,gd,st,rfl,h0,h3,hl,bq⟩:=h;refine J9 λx hx=>?_
 simp only[Xh,Xe,or_false]at hx;rcases hx with rfl|rfl|rfl
 ·rfl
 ·rfl
 ·exact J9 λd hd=>(bq d hd).flat (n:=n+1)
theorem vkc(i:Int):Yes m__law_whole [(.no,.int i)]:=by
 unfold m__law_whole;refine kQ ?_;have i1:k6 "int" (.int i)=some (.bl true):=rfl;have i2:k6 "bool" (.int i)=some (.bl false):=rfl;simp![i1,i2];exact⟨_,rfl,trivial⟩
theorem Mc.k3{ss:List Str}{ks:List Int}{rs:List D}(h:Mc ss ks rs):∀k∈ks,k<=3:=λk hm=>by
 have:D.int k∈rs.map JV:=by rw[h.ky];exact List.mem_map.mpr ⟨k,hm,rfl⟩
 obtain⟨r,hr,e⟩:=List.mem_map.mp this;obtain⟨k',gd,st,rfl,_,k3,_⟩:=h.rm r hr;have e:D.int k'=.int k:=e;injection e with e;omega
theorem kwj{ss:List Str}{ks:List Int}{rs:List D}(h:Mc ss ks rs):Yes Qz [(.no,vj ss rs),(.no,vj ss rs)]:=by
 have k3:=h.k3;have r12:=h.r12;have j0:∀a b:D,jw (.tup [a,b]) (.int 0)=some a:=λ_ _=>rfl
 have j1:∀a b:D,jw (.tup [a,b]) (.int 1)=some b:=λ_ _=>rfl
 have t0:∀a b c:D,jw (.tup [a,b,c]) (.int 0)=some a:=λ_ _ _=>rfl
 have t1:∀a b c:D,jw (.tup [a,b,c]) (.int 1)=some b:=λ_ _ _=>rfl
 have t2:∀a b c:D,jw (.tup [a,b,c]) (.int 2)=some c:=λ_ _ _=>rfl
 have i1:∀xs,k6 "tuple" (.tup xs)=some (.bl true):=λ_=>rfl
 have i2:∀xs,k6 "list" (.lst xs)=some (.bl true):=λ_=>rfl
 have i3:∀b,k6 "bool" (.bl b)=some (.bl true):=λ_=>rfl
 have ni:∀i:Int,fNe (.int i) (.int i)=some (.bl false):=λi=>kq7 rfl
 have nb:∀b,fNe (.bl b) (.bl b)=some (.bl false):=λb=>by cases b<;>rfl
 have n2:fNe (.int ((2:Nat):Int)) (.int 2)=some (.bl false):=rfl;have n3:fNe (.int ((3:Nat):Int)) (.int 3)=some (.bl false):=rfl;have ns:fNe (sL ss) (sL ss)=some (.bl false):=kq7 (qqp ss);have bg:rs.length<=big:=by unfold big;omega
 unfold Qz;refine kQ ?_;simp![i1,i2,ni,ns,j0,j1,n2];refine WK (λE j9=>∃(l2 l3 l4 l5:Option Sd) (bi:List D),E=[some (.no,vj ss rs),some (.no,vj ss rs),l2,l3,l4,l5]/\j9=v7 bi bi/\∀d∈bi,d∈rs) ?_ ?_ ?_
 ·simp![j1,Option.bind_some,bg];exact⟨_,_,_,_,rs,rfl,rfl,λd h=>h⟩
 ·rintro E d j9 ⟨l2,l3,l4,l5,bi,rfl,he,hm⟩;cases bi with
  | nil=>cases he
  | cons x bi=>
   have he:d::j9=.tup [x,x]::v7 bi bi:=he;injection he with e1 e2;subst e1 e2;obtain⟨k,gd,st,rfl,h0,h3,hl,bq⟩:=h.rm x (hm x X3);have bg2:st.length<=big:=by unfold big;omega
   simp![i1,ni,t0,n3];refine(vkc k).use ?_;intro _ _;simp![i2,i3,ni,nb,t0,t1,t2];refine WK (λE ja=>∃(l4 l5:Option Sd) (fy:List D),E=[some (.no,vj ss rs),some (.no,vj ss rs),some (.no,.tup [.int k,.bl gd,.lst st]),some (.no,.tup [.int k,.bl gd,.lst st]),l4,l5]/\ja=v7 fy fy/\∀d∈fy,d∈st) ?_ ?_ ?_
   ·simp![t2,Option.bind_some,bg2];exact⟨_,_,st,rfl,rfl,λd h=>h⟩
   ·rintro E d ja ⟨l4,l5,fy,rfl,he,mq⟩;cases fy with
    |nil=>cases he
    |cons x2 fy=>
     have he:d::ja=.tup [x2,x2]::v7 fy fy:=he;injection he with e1 e2;subst e1 e2;simp![];refine(qvj k3 (bq x2 (mq x2 X3))).use ?_;intro _ _;simp![];exact⟨_,_,fy,rfl,rfl,λd h=>mq d (lc9 _ h)⟩
   ·rintro E ⟨l4,l5,fy,rfl,_,_⟩;exact⟨_,_,_,_,bi,rfl,rfl,λd h=>hm d (lc9 _ h)⟩
 ·rintro E ⟨l2,l3,l4,l5,bi,rfl,he,hm⟩;simp![];exact⟨_,rfl,trivial⟩
end Nk10
namespace Nk10
open Q PySem C
theorem kw0:∀(n k:Nat) (rs:List D),k+n=rs.length->(∀j,k<=j->j<rs.length->∃a b l,rs[j]?=some (.tup [a,b,.lst l]))->∃m4,QJ n k (.lst rs)=some (.lst m4)
 | 0,_,rs,_,_=>⟨rs,rfl⟩
 | n+1,k,rs,hk,hs=>by
  have cz:k<rs.length:=by omega
  obtain⟨a,b,l,hg⟩:=hs k (Xd _) cz;have gz:D.at [k] (.lst rs)=some (.tup [a,b,.lst l]):=by
   show(match rs[k]? with|some d=>D.at [] d|none=>none)=_;rw[hg];rfl
  have bc:D.put (.lst []) [k,2] (.lst rs)=.lst (rs.set k (.tup [a,b,.lst []])):=by
   show(match rs[k]? with|some d=>Q.D.lst (rs.set k (D.put (.lst []) [2] d))|none=>_)=_;rw[hg];rfl
  unfold QJ;rw[gz];dsimp only;rw[bc];refine kw0 n (k+1) (rs.set k _) (by rw[Yp];omega) λj hj jh=>?_
  rw[Yp]at jh;obtain⟨a',b',l',e⟩:=hs j (by omega) jh;exact⟨a',b',l',by rw[Xr (by omega)];exact e⟩
theorem qwl{E:En}{i r1 r2 r3:Nat}{p:List Nat}{d:D}{rs:List D}{N C:En->Prop}{R:Sd->Prop}{X:XP}(h0:E[i]?=some (some (.dp,d)))(gz:D.at p d=some (.lst rs))(h1:r1<E.length)(h2:r2<E.length)(h3:r3<E.length)(hs:∀x∈rs,∃a b l,x=.tup [a,b,.lst l])
  (h:∀m4,N (((((E.set i none).set r1 none).set r2 none).set r3 none).set i (some (.dp,D.put (.lst m4) p d)))):Po (WJ i r1 r2 r3 p E) N C R X:=by
 obtain⟨m4,he⟩:=kw0 rs.length 0 rs (by omega) λj _ hj=>by
  obtain⟨a,b,l,e⟩:=hs rs[j] (Yb _);exact⟨a,b,l,by rw[X2 hj,e]⟩
 unfold WJ;rw[h0];dsimp only;rw[gz];dsimp only;rw[Xf ⟨h1,h2,h3⟩,he];dsimp only;rw[qzl];exact h m4
theorem kkg{ss:List Str}{ks:List Int}{rs:List D}(h:∀r∈rs,Rm ss ks r):Oom V3 [(.dp,vj ss rs)] 0 (λ_ x'=>x'=(.dp,.tup [.lst [],.lst []])) noX:=by
 unfold V3;refine vve ?_;refine qxd (vj2 ?_);refine qwl (p:=[1]) (rs:=rs) rfl rfl (by simp) (by simp) (by simp) (λx hx=>?_) λm4=>?_
 ·obtain⟨k,gd,st,rfl,_⟩:=h x hx;exact⟨_,_,st,rfl⟩
 refine qxd (vj2 ?_);refine vv0 rfl (ds:=m4) rfl ?_;refine vj2 ?_;refine vv0 rfl (ds:=ss.map D.str) rfl ?_;rfl
theorem empty_no:Oo Jk [(.no,.tup [.lst [],.lst []])] (λy=>∃o':Own,y=(o',.bl false)/\True) noX:=by
 have j0:∀a b:D,jw (.tup [a,b]) (.int 0)=some a:=λ_ _=>rfl
 have sg:Oo Qx [(.no,.lst [])] (λy=>∃o':Own,y=(o',.bl false)/\True) noX:=by
  have i1:k6 "list" (.lst [])=some (.bl true):=rfl;have e1:fLe (.int 1) (.int 0)=some (.bl false):=rfl;have l0:v6 (.lst [])=some (.int 0):=rfl;unfold Qx;refine kQ ?_;simp![i1,l0,e1];exact⟨_,rfl,trivial⟩
 unfold Jk;refine kQ ?_;simp![];refine(XZ [.lst [],.lst []] (by simp)).use ?_;intro _ _;simp![j0];refine sg.use ?_;intro _ _;simp![];exact⟨_,rfl,trivial⟩
theorem Mc.flat{ss:List Str}{ks:List Int}{rs:List D}(h:Mc ss ks rs):(vj ss rs).flat 40=true:=by
 refine J9 λx hx=>?_
 simp only[Xh,Xe,or_false]at hx;rcases hx with rfl|rfl
 ·exact J9 λd hd=>by obtain⟨w,_,rfl⟩:=List.mem_map.mp hd;rfl
 ·exact J9 λd hd=>(h.rm d hd).flat (n:=31)
theorem qwj{f:Fn}{cs:List Ex}{E:En}{X:XP}{P:En->Sd->Prop}:Eo (W6 f cs E) P X=Eo (kJ cs E) (λE xs=>Oo f (letAll xs) (λy=>y.1=.dp/\P E y) X) X:=by
 unfold W6;rw [k5]
 congr 1
 funext E xs;unfold Oo;cases hf:f (letAll xs)with
 | none=>exact qqv
 | some r=>
  cases r with
  | ok E' y=>
   dsimp only
   split
   ·rename_i h;rw[Zx];simp[h]
   ·rename_i h;rw[qqv];simp[h]
  |exc E' c=>exact qxi
theorem qjo{f:Fn}{cs:List Ex}{e:Option Sd}{E:En}{X:XP}{P:En->Sd->Prop}:Eo (W6 f cs (e::E)) P X=Eo (kJ cs (e::E)) (λE xs=>Oe f (letAll xs) E (λE y=>y.1=.dp/\P E y) X) X:=by with_unfolding_all exact qwj
theorem vvr(ns:List Int)(hm:Oo QY [(.no,iL ns),(.no,.int 5)] (λy=>∃(z:List Str×List Int×List D),y=(.no,vj z.1 z.2.2)/\Mc z.1 z.2.1 z.2.2) noX):Oo m_law [(.no,iL ns)] (λy=>y.2=.bl true) noX:=by
 unfold m_law;refine kQ ?_;simp![];refine hm.use ?_;rintro ⟨ss,ks,rs⟩ h;have h:Mc ss ks rs:=h;have ne:=kq7 h.flat;have b1:Vx (.bl true) (.bl true)=some (.bl false):=rfl;have b2:Wv (.bl true) (.bl true)=some (.bl true):=rfl;have b3:Wv (.bl false) (.bl false)=some (.bl true):=rfl;simp![];refine(vjs h).use ?_;intro _ _;simp![];refine(jxr h).use ?_;intro _ _;simp![b1,ne];rw[qjo];simp![];refine(kw3 h).use ?_;intro _ _;simp![];refine(kwj h).use ?_;intro _ _;simp![ne];refine kzh ?_;simp![];refine⟨_,rfl,(kkg h.rm).mono (λy x' hx=>?_) λ_ h=>h⟩;subst hx;simp![];refine(kwj h).use ?_;intro _ _;simp![];rw[qjo];simp![];refine(kw3 h).use ?_;intro _ _;simp![];refine kzh ?_;simp![];refine⟨_,rfl,(kkg h.rm).mono (λy x' hx=>?_) λ_ h=>h⟩;subst hx;simp![];refine(kwj h).use ?_;intro _ _;simp![];refine(jxr h).use ?_;intro _ _;simp![b2];refine empty_no.use ?_;intro _ _;simp![b3]
end Nk10
namespace Nk10
open Q PySem C
theorem kwz:m__law_mixed=A.m__law_mixed:=rfl
theorem vzu:m__law_words=A.m__law_words:=rfl
theorem vwe:m__law_cell_at=B.m__law_cell_at:=rfl
theorem kzq(l:List Str):qK (qK l)=qK l:=List.Perm.eq_of_pairwise (λa b _ _ h1 h2=>kz2 h1 h2) jzk jzk (zk _)
theorem vwf:∀(l af:List Str),af.Nodup->(l.foldl (λl k=>if l.any (· == k)then l else l++[k]) af).Nodup
 | [],af,h=>h
 | k::l,af,h=>by
  rw[List.foldl_cons];refine vwf l _ ?_
  split
  ·exact h
  ·rename_i hn;refine List.nodup_append.mpr ⟨h,by simp,λa ha b hb e=>hn (List.any_eq_true.mpr ⟨a,ha,?_⟩)⟩;rw[List.mem_singleton]at hb;rw[e,hb];exact beq_self_eq_true _
theorem qwn(l:List Str):(ddS l).Nodup:=vwf l [] Y1
theorem qqx:∀(l af:List Str),(af++l).Nodup->l.foldl (λl k=>if l.any (· == k)then l else l++[k]) af=af++l
 | [],af,_=>by simp
 | k::l,af,h=>by
  have hk:k∉af:=λhm=>(List.nodup_append.mp h).2.2 k hm k X3 rfl
  rw[List.foldl_cons,Xm (λhh=>by
   obtain⟨y,hy,e⟩:=List.any_eq_true.mp hh;rw[eq_of_beq e]at hy;exact hk hy),qqx l (af++[k]) (by rw[Xs];exact h),Xs]
  rfl
theorem vzx{l:List Str}(h:l.Nodup):ddS l=l:=qqx l [] h
theorem qjz{l:List Str}(h:l.Nodup):qK (ddS (qK l))=qK l:=by
 rw[vzx ((zk l).nodup_iff.mpr h),kzq]
theorem vjn(n own:Int)(h0:0<=own):Oo Z3 [(.no,.int n),(.no,.int own)] (λy=>Fil own y.2) noX:=by
 have e1:∀a b:Int,fEq (.int a) (.int b)=some (.bl (a==b)):=λa b=>KZ
 unfold Z3;refine kQ ?_;have q0:=Xn n (show(4:Int)≠0 by decide);have q1:=Xi n (show(0:Int)<4 by decide);have hm:jJ (.int n) (.int 4)=some (.int (n % 4)):=mod_i (by decide);generalize n % 4=t at q0 q1 hm
 by_cases hz:own=0
 ·subst hz;rcases(show t=0\/t=1\/t=2\/t=3 by omega)with rfl|rfl|rfl|rfl
  all_goals
   simp![hm,e1]
   first|exact .inl rfl|exact .inr (.inl rfl)
 ·have hp:0<own:=by omega
  have w0:=Xn (n / 4) (show own≠0 by omega);have w1:=Xi (n / 4) hp;have ez:(own==0)=false:=beq_false_of_ne hz;have eg:decide (own>0)=true:=Yd hp;rcases(show t=0\/t=1\/t=2\/t=3 by omega)with rfl|rfl|rfl|rfl
  all_goals
   simp![hm,e1,ez,eg,mod_i (a:=n / 4) (b:=own) hp]
   first|exact .inl rfl|exact .inr (.inl rfl)|exact .inr (.inr ⟨_,rfl,w0,w1⟩)
theorem vj7{xs:List D}{t:Int}(h0:0<=t)(h1:t<xs.length):∃a∈xs,jw (.lst xs) (.int t)=some a:=
 ⟨xs[t.toNat]'(by omega),Yb _,vK h0 (X2 (by omega))⟩
theorem kzc{G:D->Sd->Prop}:∀{ds:List D} {ys:List Sd},Each G ds ys->ys.length=ds.length
 |[],[],_=>rfl
 |d::ds,y::ys,r=>congrArg (· + 1) (kzc r.2)
theorem qz3{ss:List Str}{ks:List Int}(c br:Int)(hs:1<=ss.length)(hs3:ss.length<=3)(hk:∀k∈ks,0<=k/\k<=3)(oh:ks.length<=12)(h0:0<=br)(h1:br<ks.length):
  Oo V9 [(.no,.int c),(.no,sL ss),(.no,.int br),(.no,iL ks)] (λy=>∃d,y=(.no,d)/\Stp ss (ks.getD br.toNat 0) ks d) noX:=by
 obtain⟨own,ho,⟨o0,o3⟩,eo⟩:=ixI ks (λk=>0<=k/\k<=3) hk br h0 h1;have eo':ks.getD br.toNat 0=own:=by rw[X9,eo];rfl
 rw[eo'];unfold V9;rw[kwz];refine kQ ?_;simp![];refine(A.mixed_ok c 0 (by decide) (by decide)).use ?_;intro m _;have t0:=Xn (m / 3) (show(ks.length:Int)≠0 by omega);have t1:=Xi (m / 3) (show(0:Int)<ks.length by omega);have a0:=Xn (m / 60) (show 3+own≠0 by omega);have a1:=Xi (m / 60) (show 0<3+own by omega);have g0:=Xn m (show(ss.length:Int)≠0 by omega);have g1:=Xi m (show(0:Int)<ss.length by omega);obtain⟨kt,ht,⟨k0,k3⟩,et⟩:=ixI ks (λk=>0<=k/\k<=3) hk (m / 3 % ks.length) t0 t1;have et':ks.getD (m / 3 % ks.length).toNat 0=kt:=by rw[X9,et];rfl
 simp![mod_i (a:=m / 3) (b:=(ks.length:Int)) (by omega),ho];refine vX [] (λd y=>y.2=d) ?_;refine JW ?_;simp![ho];refine⟨own,rfl,by omega,by omega,λd hd=>⟨⟨_,rfl⟩,trivial⟩,λys hy=>?_⟩;have bk:∀E:En,back [] [] (clr [] E)=E:=λ_=>rfl
 have hlr:=YV (k:=0) (n:=own) (by omega);have ad:jz (.no,.lst [D.str "fresh",.str "any",.str "fresh"]) (.no,.lst (kj 0 own))=some (.rt,.lst (D.str "fresh" :: .str "any" :: .str "fresh" :: kj 0 own)):=vws (by decide) (by decide) (by simp only[Xp,List.length_nil];omega);obtain⟨en,hmem,hask⟩:=vj7 (xs:=D.str "fresh" :: .str "any" :: .str "fresh" :: kj 0 own) a0 (by simp only[Xp];omega);have hA:Ask own en:=by
  simp only[Xh]at hmem;rcases hmem with rfl|rfl|rfl|hm
  ·exact .inl rfl
  ·exact .inr (.inl rfl)
  ·exact .inl rfl
  ·obtain⟨i,i0,i1,rfl⟩:=J4 hm;exact .inr (.inr ⟨i,rfl,i0,i1⟩)
 rw[vW,vjp (λ_ _ h=>h) hy,bk];simp![ad,mod_i (a:=m / 60) (b:=3+own) (by omega),hask,ho];refine vX [some (.dp,.int m),some (.no,iL ks),some (.no,.int br)] (λ_ y=>Fil own y.2) ?_;refine JW ?_;simp![ht];refine⟨kt,rfl,by omega,by omega,rfl,λd hd=>?_,λys hy=>?_⟩
 ·obtain⟨i,i0,i1,rfl⟩:=J4 hd;have hdv:∃dv:Int,jw (.lst [.int 720,.int 46080,.int 2949120]) (.int i)=some (.int dv)/\0<dv/\dv<10 ^ 70:=by
   rcases(show i=0\/i=1\/i=2 by omega)with rfl|rfl|rfl
   ·exact⟨720,rfl,by decide,by decide⟩
   ·exact⟨46080,rfl,by decide,by decide⟩
   ·exact⟨2949120,rfl,by decide,by decide⟩
  obtain⟨dv,hdv,d0,d1⟩:=hdv;simp![hdv,div_i (a:=m) (b:=dv) d0 d1,ho];refine(vjn (m / dv) own o0).via ?_;rintro ⟨o,y⟩ hy;exact⟨⟨_,rfl⟩,hy⟩
 have ie:∀z∈ys.map (·.2),Fil own z:=kze (S:=Fil own) (λ_ _ h=>h) hy;have hfl:((ys.map (·.2)).length:Int)=kt:=by rw[X6,kzc hy,YV (by omega)];omega
 rw[vW];generalize ys.map (·.2)=fs at ie hfl;have esg:jw (sL ss) (.int (m % ss.length))=some (.str (ss[(m % ss.length).toNat]'(by omega))):=vK g0 (by rw[Xk,X2 (by omega)];rfl);have hsgm:ss[(m % ss.length).toNat]'(by omega)∈ss:=Yb _;simp only[back,clr,at',List.map_cons,List.map_nil,List.set_cons_zero,List.set_cons_succ];simp![vxj (o:=.no) (xs:=fs) (by decide),mod_i (a:=m) (b:=(ss.length:Int)) (by omega),esg];exact⟨_,rfl,_,en,_,fs,rfl,hsgm,hA,t0,t1,by rw[et',hfl],ie⟩
end Nk10
namespace Nk10
open Q PySem C
def Q3:D->Nat
 |.lst st=>st.length
 |_=>0
def x4(ls:List D):Nat:=(ls.map Q3).sum
theorem qjt:∀(ls:List D) (n:Nat) (st:List D) (d:D),ls[n]?=some (.lst st)->x4 (ls.set n (.lst (st++[d])))=x4 ls+1
 |[],n,st,d,h=>nomatch h
 |a::ls,0,st,d,h=>by
  cases oq9 h;show(st++[d]).length+x4 ls=st.length+x4 ls+1;rw[Y3];simp only[Xp,List.length_nil];omega
 |a::ls,n+1,st,d,h=>by
  have h:ls[n]?=some (.lst st):=h;show Q3 a+x4 (ls.set n (.lst (st++[d])))=Q3 a+x4 ls+1;rw[qjt ls n st d h];omega
theorem kwf:∀(ls:List D) (n:Nat) (x:D),ls[n]?=some x->Q3 x<=x4 ls
 |[],n,x,h=>nomatch h
 |a::ls,0,x,h=>by
  cases oq9 h;show Q3 a<=Q3 a+x4 ls;omega
 |a::ls,n+1,x,h=>by
  have:=kwf ls n x h;show Q3 x<=Q3 a+x4 ls;omega
structure Bs (ss:List Str)(ks:List Int)(ls:List D)(b:Nat):Prop where
 ln:ls.length=ks.length
 ok:∀j:Nat,j<ks.length->∃st:List D,ls[j]?=some (.lst st)/\∀d∈st,Stp ss (ks.getD j 0) ks d
 sm:x4 ls<=b
theorem Bs.put{ss:List Str}{ks:List Int}{ls:List D}{b n:Nat}{st:List D}{d:D}(h:Bs ss ks ls b)(hn:n<ks.length)(e:ls[n]?=some (.lst st))(hd:Stp ss (ks.getD n 0) ks d):Bs ss ks (ls.set n (.lst (st++[d]))) (b+1):=by
 refine⟨by rw[Yp];exact h.ln,λj hj=>?_,by rw[qjt ls n st d e];have:=h.sm;omega⟩
 by_cases hjn:j=n
 ·subst hjn;obtain⟨dq,e',i'⟩:=h.ok j hj;rw[e]at e';cases oq9 e';refine⟨st++[d],by rw[Y0 (by rw[h.ln];exact hj)],λx hx=>?_⟩;rcases List.mem_append.mp hx with hx|hx
  ·exact i' x hx
  ·rw[List.mem_singleton.mp hx];exact hd
 ·obtain⟨dq,e',i'⟩:=h.ok j hj;exact⟨dq,by rw[Xr (Ne.symm hjn)];exact e',i'⟩
theorem Bs.first{ss:List Str}{ks:List Int}{n:Nat}:Bs ss ks (List.replicate ks.length (.lst [])) 0:=by
 refine⟨Yc,λj hj=>⟨[],by rw[List.getElem?_replicate,Xf hj],λd h=>nomatch h⟩,?_⟩;unfold x4;rw[List.map_replicate];show(List.replicate ks.length 0).sum<=0;simp
noncomputable def wV(ks:List Int)(gs:List Bool)(ls:List D):List D:=(List.range ks.length).map λj=>.tup [.int (ks.getD j 0),.bl (gs.getD j false),ls.getD j .non]
theorem vzh{ss:List Str}{ks:List Int}{gs:List Bool}{ls:List D}(s1:1<=ss.length)(s3:ss.length<=3)(sg:∀z∈ss,Sg z)(so:qK (ddS ss)=ss)(k1:1<=ks.length)(k12:ks.length<=12)(hk:∀k∈ks,0<=k/\k<=3)(h:Bs ss ks ls 100):Mc ss ks (wV ks gs ls):=by
 have gl:∀j,j<ks.length->∃st,ls.getD j .non=.lst st/\st.length<=100/\∀d∈st,Stp ss (ks.getD j 0) ks d:=λj hj=>by
  obtain⟨st,e,bq⟩:=h.ok j hj;refine⟨st,by rw[X9,e];rfl,?_,bq⟩;exact Y6 (kwf ls j _ e) h.sm
 refine⟨s1,s3,sg,so,?_,?_,?_,λr hr=>?_,?_⟩
 ·unfold wV;rw[X6,Y7];exact k1
 ·unfold wV;rw[X6,Y7];exact k12
 ·unfold wV;rw[Y2];apply List.ext_getElem
  ·simp
  ·intro j h1 h2;have hj:j<ks.length:=by simpa using h2
   simp only[List.getElem_map,List.getElem_range,Function.comp];show D.int (ks.getD j 0)=D.int ks[j];rw[X9,X2 hj];rfl
 ·unfold wV at hr;obtain⟨j,hj,rfl⟩:=List.mem_map.mp hr;have hj:=List.mem_range.mp hj;obtain⟨st,e,hl,bq⟩:=gl j hj;have hm:ks.getD j 0∈ks:=by rw[X9,X2 hj];exact Yb _
  exact⟨_,_,st,by rw[e],(hk _ hm).1,(hk _ hm).2,by omega,bq⟩
 ·have:K4 (wV ks gs ls)=x4 ls:=by
   unfold K4 x4 wV;rw[Y2]
   congr 1
   apply List.ext_getElem
   ·simp[h.ln]
   ·intro j h1 h2;have hj:j<ks.length:=by simpa using h1
    obtain⟨st,e,_⟩:=h.ok j hj;obtain⟨cz,e2⟩:=List.getElem?_eq_some_iff.mp e;simp only[List.getElem_map,List.getElem_range,Function.comp];have e3:ls.getD j .non=.lst st:=by rw[X9,e];rfl
    rw[e2,e3];rfl
  rw[this];have:=h.sm;omega
def WV(ss:List Str):Prop:=1<=ss.length/\ss.length<=3/\(∀z∈ss,Sg z)/\qK (ddS ss)=ss
theorem kzb{G:D->Sd->Prop}{v:Sd}(hG:∀d y,G d y->y=v):∀{ds:List D} {ys:List Sd},Each G ds ys->ys=List.replicate ds.length v
 |[],[],_=>rfl
 |d::ds,y::ys,r=>by
  rw[hG d y r.1,kzb hG r.2];rfl
theorem kqu{ss:List Str}{own:Int}{ks:List Int}{d:D}{o:Own}(h:Stp ss own ks d):qW (o,d)=true:=by
 unfold qW;rw[h.pure,Bool.or_true]
theorem kzd{G:D->Sd->Prop}(hG:∀d y,G d y->∃b,y.2=.bl b):∀{ds:List D} {ys:List Sd},Each G ds ys->∃gs:List Bool,ys.map (·.2)=gs.map D.bl/\gs.length=ds.length
 |[],[],_=>⟨[],rfl,rfl⟩
 |d::ds,y::ys,r=>by
  obtain⟨b,e⟩:=hG d y r.1;obtain⟨gs,h1,h2⟩:=kzd hG r.2;exact⟨b::gs,by rw[List.map_cons,e,h1];rfl,by simp[h2]⟩
noncomputable def hD(ks:List Int)(gs:List Bool)(ls:List D):D->D
 |.int i=>.tup [.int (ks.getD i.toNat 0),.bl (gs.getD i.toNat false),ls.getD i.toNat .non]
 |d=>d
theorem qk6{ns:List Int}{ss:List Str}{head ah:Int}(pz:ns.length<=63)(hs:WV ss)(m1:1<=ah)(m12:ah<=12):
Eo
  (cLC Own.rt 1 [0] (qJ (vV 4)) (Tg.n 0) tYes
   (cF2 (pu2 jJ) (vE (jQ A.m__law_mixed [jQ B.m__law_cell_at [cV 1,cC (D.int 2)],cV 0]))
    (vE (cC (D.int 4))))
   [some (Own.no,iL ns),some (Own.no,D.int 5),some (Own.dp,D.int head),some (Own.rt,sL ss),
    some (Own.dp,D.int ah),none,none,none,none,none])
  (fun E x =>
   Po
    (j7 (jx 6 (cLC Own.dp 1 [] (qJ (vV 4)) (Tg.n 0) tYes (qY Own.dp [])))
     (j7
      (wq (itS (cSl (vV 0) (some (vV 1)) (some (vE (cF2 jz (vV 1) (vE (cC (D.int 50)))))))) (Tg.n 7)
       (j7 (jx 8 (cF2 (pu2 jJ) (vE (jQ A.m__law_mixed [cV 7,cC (D.int 12)])) (vV 4)))
        (j7 (K7 6 (vV 8) (jQ V9 [cV 7,cV 3,cV 8,cV 5]))
         (sIf
          (tAnd
           (tE
            (cF2 (pu2 fEq)
             (vE (cF2 (pu2 jJ) (vE (cF2 (pu2 qv) (vV 2) (vE (cC (D.int 200))))) (vE (cC (D.int 4)))))
             (vE (cC (D.int 1)))))
           (tE (cF2 (pu2 fEq) (vE (cF2 (pu2 jJ) (vV 7) (vE (cC (D.int 3))))) (vE (cC (D.int 1))))))
          (K7 6 (vV 8) (cH (j8 (j8 (vV 6) (vV 8)) (vE (cC (D.int 0)))))) kz))))
      (j7
       (jx 9
        (cLC Own.rt 1 [0] (qJ (vV 4)) (Tg.n 0) tYes
         (cF2 (pu2 fEq)
          (vE
           (cF2 (pu2 jJ) (vE (jQ A.m__law_mixed [jQ B.m__law_cell_at [cV 1,cC (D.int 3)],cV 0]))
            (vE (cC (D.int 2)))))
          (vE (cC (D.int 1))))))
       (sFz 6
        (jq
         (v9 Own.no
          [cV 3,
           cLC Own.rt 1 [5,9,6] (qJ (vV 4)) (Tg.n 0) tYes
            (v9 Own.no [cH (j8 (vV 1) (vV 0)),cH (j8 (vV 2) (vV 0)),cH (j8 (vV 3) (vV 0))])])))))
     (List.set E 5 (some x)))
    (λx=>∃z:List Str×List Int×List D,(Own.dp,D.non)=(Own.no,vj z.1 z.2.2)/\Mc z.1 z.2.1 z.2.2) (λx=>False)
    (λy=>∃z:List Str×List Int×List D,y=(Own.no,vj z.1 z.2.2)/\Mc z.1 z.2.1 z.2.2) noX)
  noX:=by
 have bk:∀E:En,back [] [] (clr [] E)=E:=λ_=>rfl
 obtain⟨s1,s3,sg,so⟩:=hs;refine vX [some (.no,iL ns)] (λ_ y=>∃i,y.2=.int i/\0<=i/\i<=3) ?_;refine JW ?_;simp![];refine⟨ah,rfl,by omega,by omega,rfl,λd hd=>?_,λys hy=>?_⟩
 ·obtain⟨i,i0,i1,rfl⟩:=J4 hd;simp![];refine(B.cell_ok ns 2 (by omega)).use ?_;intro _ _;simp![];refine(A.mixed_ok _ i i0 (by omega)).use ?_;intro v _;have t0:=Xn v (show(4:Int)≠0 by decide);have t1:=Xi v (show(0:Int)<4 by decide);simp![];exact⟨⟨_,rfl⟩,_,rfl,t0,by omega⟩
 obtain⟨ks,e1,e2,hk⟩:=kvz (S:=λi=>0<=i/\i<=3) (λd y ⟨i,h,s⟩=>⟨i,h,s⟩) hy;have oh:(ks.length:Int)=ah:=by rw[e2,YV (by omega)];omega
 rw [vW,e1];simp only[back,clr,at',List.map_cons,List.map_nil,List.set_cons_zero,List.set_cons_succ];simp![];refine vX [] (λ_ y=>y=(.dp,.lst [])) ?_;refine JW ?_;simp![];refine⟨ah,rfl,by omega,by omega,λd hd=>?_,λys hy=>?_⟩
 ·exact⟨⟨_,rfl⟩,trivial⟩
 rw [kzb (λ_ _ h=>h) hy,qq0 (List.all_eq_true.mpr λy hy=>by rw[List.eq_of_mem_replicate hy];rfl),List.map_replicate,bk];rw [show(kj 0 ah).length=ks.length by have:=YV (k:=0) (n:=ah) (by omega);omega];simp![vkw (o:=.no) (xs:=ns.map D.int) (lo:=some 5) (hi:=some (5+50)) (by decide)];obtain⟨cells,hc1,hc3⟩:∃cells:List Int,QX (ns.map D.int) (some 5) (some (5+50))=cells.map D.int/\cells.length<=50:=by
  refine⟨(ns.drop _).take _,by unfold QX;rw[List.map_take,List.map_drop],?_⟩;rw [Yg,List.length_drop,X6];show min (min (55:Int).toNat ns.length - min (5:Int).toNat ns.length) (ns.length - min (5:Int).toNat ns.length)<=50;have h1:(55:Int).toNat=55:=rfl;have h2:(5:Int).toNat=5:=rfl;rw [h1,h2];omega
 refine WK (λE j9=>∃(ls:List D) (n:Nat) (o3 o5:Own) (l7 l8:Option Sd) (cs:List Int),(o3=.rt\/o3=.no)/\(o5=.rt\/o5=.no)/\E=[some (.no,iL ns),some (.no,.int 5),some (.dp,.int head),some (o3,sL ss),some (.dp,.int ah),some (o5,iL ks),some (.dp,.lst ls),l7,l8,none]/\j9=cs.map D.int/\n+2*cs.length<=100/\Bs ss ks ls n) ?_ ?_ ?_
 ·simp![vkw (o:=.no) (xs:=ns.map D.int) (lo:=some 5) (hi:=some (5+50)) (by decide),hc1];exact⟨_,0,.rt,.rt,_,_,cells,.inl rfl,.inl rfl,rfl,rfl,by omega,Bs.first (n:=0)⟩
 ·rintro E d j9 ⟨ls,n,o3,o5,l7,l8,cs,ho3,ho5,rfl,he,hn,hb⟩;cases cs with
  | nil=>cases he
  | cons c cs=>
   have he:d::j9=.int c::cs.map D.int:=he;injection he with e1 e2;subst e1 e2;have w0:=λv=>Xn v (show ah≠0 by omega)
   have w1:=λv=>Xi v (show 0<ah by omega)
   have nh:∀(v:Int),0<=v % ah->v % ah<ah->∃st,ls[(v % ah).toNat]?=some (.lst st)/\∀d∈st,Stp ss (ks.getD (v % ah).toNat 0) ks d:=λv a b=>hb.ok _ (by omega)
   have r1:fEq (.int (head / 200 % 4)) (.int 1)=some (.bl (head / 200 % 4==1)):=KZ;have r2:fEq (.int (c % 3)) (.int 1)=some (.bl (c % 3==1)):=KZ;simp![];refine(A.mixed_ok c 12 (by decide) (by decide)).use ?_;intro v _;obtain⟨st,est,bq⟩:=nh v (w0 v) (w1 v);have hsm:=hb.sm;have ac:=kwf ls _ _ est;have ac:st.length<=x4 ls:=ac;simp![mod_i (a:=v) (b:=ah) (by omega)];refine qks rfl ?_;simp![];refine⟨_,st,rfl,w0 v,est,by omega,?_⟩;rcases ho3 with rfl|rfl<;>rcases ho5 with rfl|rfl
   all_goals
    simp![];refine(qz3 c (v % ah) s1 s3 hk (by omega) (w0 v) (by have:=w1 v;omega)).use ?_;intro d hd;have lw:=hb.put (n:=(v % ah).toNat) (by have:=w1 v;have:=w0 v;omega) est hd;have hfst:∃x,(st++[d])[0]?=some x/\Stp ss (ks.getD (v % ah).toNat 0) ks x:=by
     cases st with
     |nil=>exact⟨d,rfl,hd⟩
     |cons a st=>exact⟨a,rfl,bq a X3⟩
    obtain⟨x,ex,hx⟩:=hfst;refine⟨rfl,kqu hd,?_⟩;have ne:∀o:Own,∃l7 l8:Option Sd,True:=λ_=>⟨none,none,trivial⟩
    cases hq1:(head / 200 % 4==1)with
    | false=>
     rw[hq1]at r1;simp![r1];exact⟨_,n+1,.no,.no,_,_,cs,.inr rfl,.inr rfl,rfl,rfl,by simp only[Xp]at hn;omega,lw⟩
    | true=>
     rw[hq1]at r1;cases hq2:(c % 3==1)with
     |false=>
      rw[hq2]at r2;simp![r1,r2];exact⟨_,n+1,.no,.no,_,_,cs,.inr rfl,.inr rfl,rfl,rfl,by simp only[Xp]at hn;omega,lw⟩
     |true=>
      rw[hq2]at r2;have m6:(ls.set (v % ah).toNat (.lst (st++[d])))[(v % ah).toNat]?=some (.lst (st++[d])):=Y0 (List.getElem?_eq_some_iff.mp est).1;have ix1:jw (.lst (ls.set (v % ah).toNat (.lst (st++[d])))) (.int (v % ah))=some (.lst (st++[d])):=vK (w0 v) m6;have ix2:jw (.lst (st++[d])) (.int 0)=some x:=vK (by decide) ex;have hb3:=lw.put (n:=(v % ah).toNat) (by have:=w1 v;have:=w0 v;omega) m6 hx;simp![r1,r2];refine qks rfl ?_;simp![];refine⟨_,_,rfl,w0 v,m6,by rw[Y3];simp only[Xp,List.length_nil];omega,?_⟩;simp![ix1,ix2];rw[Xf hx.pure];exact⟨kqu hx,_,n+2,.no,.no,_,_,cs,.inr rfl,.inr rfl,rfl,rfl,by simp only[Xp]at hn;omega,hb3⟩
 ·rintro E ⟨ls,n,o3,o5,l7,l8,cs,ho3,ho5,rfl,he,hn,hb⟩;simp![];refine vX [some (.no,iL ns)] (λ_ y=>∃b,y.2=.bl b) ?_;refine JW ?_;simp![];refine⟨ah,rfl,by omega,by omega,rfl,λd hd=>?_,λys hy=>?_⟩
  ·obtain⟨i,i0,i1,rfl⟩:=J4 hd;simp![];refine(B.cell_ok ns 3 (by omega)).use ?_;intro _ _;simp![];refine(A.mixed_ok _ i i0 (by omega)).use ?_;intro v _;have r1:fEq (.int (v % 2)) (.int 1)=some (.bl (v % 2==1)):=KZ;simp![r1];exact⟨⟨_,rfl⟩,_,rfl⟩
  obtain⟨gs,f1,f2⟩:=kzd (λ_ _ h=>h) hy;have hgl:gs.length=ks.length:=by rw[f2];have:=YV (k:=0) (n:=ah) (by omega);omega
  rw[vW,f1];simp only[back,clr,at',List.map_cons,List.map_nil,List.set_cons_zero,List.set_cons_succ];simp![];rw[w_fz,vzo rfl];have hM:Mc ss ks (wV ks gs ls):=vzh s1 s3 sg so (by omega) (by omega) hk ⟨hb.ln,hb.ok,Y6 hb.sm (by omega)⟩;have hR:(kj 0 ah).map (hD ks gs ls)=wV ks gs ls:=by
   unfold kj wV;rw[Y2,show(ah - 0).toNat=ks.length by omega]
   congr 1
   funext k;show D.tup [.int (ks.getD (0+(k:Int)).toNat 0),.bl (gs.getD (0+(k:Int)).toNat false),ls.getD (0+(k:Int)).toNat .non]=_;rw[show(0+(k:Int)).toNat=k by omega]
  rcases ho5 with rfl|rfl<;>rcases ho3 with rfl|rfl
  rotate_left 2
  ·simp![];refine vX [some (.no,iL ks),some (.rt,.lst (gs.map D.bl)),some (.no,.lst ls)] (λd y=>y.2=hD ks gs ls d) ?_;refine JW ?_;simp![];refine⟨ah,rfl,by omega,by omega,rfl,λd hd=>?_,λys hy=>?_⟩
   ·obtain⟨i,i0,i1,rfl⟩:=J4 hd;have hi:i.toNat<ks.length:=by omega
    have x1:jw (iL ks) (.int i)=some (.int (ks.getD i.toNat 0)):=vK i0 (by rw[Xk,X9,X2 hi];rfl);have x2:jw (.lst (gs.map D.bl)) (.int i)=some (.bl (gs.getD i.toNat false)):=vK i0 (by rw[Xk,X9,X2 (by omega)];rfl);have x3:jw (.lst ls) (.int i)=some (ls.getD i.toNat .non):=vK i0 (by rw[X9,X2 (by rw[hb.ln];exact hi)];rfl);simp![x1,x2,x3];exact⟨⟨_,rfl⟩,rfl⟩
   rw[vW,K2 (h:=hD ks gs ls) (λ_ _ h=>h) hy,hR];simp only[back,clr,at',List.map_cons,List.map_nil,List.set_cons_zero,List.set_cons_succ];simp![];exact⟨(ss,ks,wV ks gs ls),rfl,hM⟩
  ·simp![];refine vX [some (.no,iL ks),some (.rt,.lst (gs.map D.bl)),some (.no,.lst ls)] (λd y=>y.2=hD ks gs ls d) ?_;refine JW ?_;simp![];refine⟨ah,rfl,by omega,by omega,rfl,λd hd=>?_,λys hy=>?_⟩
   ·obtain⟨i,i0,i1,rfl⟩:=J4 hd;have hi:i.toNat<ks.length:=by omega
    have x1:jw (iL ks) (.int i)=some (.int (ks.getD i.toNat 0)):=vK i0 (by rw[Xk,X9,X2 hi];rfl);have x2:jw (.lst (gs.map D.bl)) (.int i)=some (.bl (gs.getD i.toNat false)):=vK i0 (by rw[Xk,X9,X2 (by omega)];rfl);have x3:jw (.lst ls) (.int i)=some (ls.getD i.toNat .non):=vK i0 (by rw[X9,X2 (by rw[hb.ln];exact hi)];rfl);simp![x1,x2,x3];exact⟨⟨_,rfl⟩,rfl⟩
   rw[vW,K2 (h:=hD ks gs ls) (λ_ _ h=>h) hy,hR];simp only[back,clr,at',List.map_cons,List.map_nil,List.set_cons_zero,List.set_cons_succ];simp![];exact⟨(ss,ks,wV ks gs ls),rfl,hM⟩
  ·simp![];refine vX [some (.rt,iL ks),some (.rt,.lst (gs.map D.bl)),some (.no,.lst ls)] (λd y=>y.2=hD ks gs ls d) ?_;refine JW ?_;simp![];refine⟨ah,rfl,by omega,by omega,rfl,λd hd=>?_,λys hy=>?_⟩
   ·obtain⟨i,i0,i1,rfl⟩:=J4 hd;have hi:i.toNat<ks.length:=by omega
    have x1:jw (iL ks) (.int i)=some (.int (ks.getD i.toNat 0)):=vK i0 (by rw[Xk,X9,X2 hi];rfl);have x2:jw (.lst (gs.map D.bl)) (.int i)=some (.bl (gs.getD i.toNat false)):=vK i0 (by rw[Xk,X9,X2 (by omega)];rfl);have x3:jw (.lst ls) (.int i)=some (ls.getD i.toNat .non):=vK i0 (by rw[X9,X2 (by rw[hb.ln];exact hi)];rfl);simp![x1,x2,x3];exact⟨⟨_,rfl⟩,rfl⟩
   rw[vW,K2 (h:=hD ks gs ls) (λ_ _ h=>h) hy,hR];simp only[back,clr,at',List.map_cons,List.map_nil,List.set_cons_zero,List.set_cons_succ];simp![];exact⟨(ss,ks,wV ks gs ls),rfl,hM⟩
  ·simp![];refine vX [some (.rt,iL ks),some (.rt,.lst (gs.map D.bl)),some (.no,.lst ls)] (λd y=>y.2=hD ks gs ls d) ?_;refine JW ?_;simp![];refine⟨ah,rfl,by omega,by omega,rfl,λd hd=>?_,λys hy=>?_⟩
   ·obtain⟨i,i0,i1,rfl⟩:=J4 hd;have hi:i.toNat<ks.length:=by omega
    have x1:jw (iL ks) (.int i)=some (.int (ks.getD i.toNat 0)):=vK i0 (by rw[Xk,X9,X2 hi];rfl);have x2:jw (.lst (gs.map D.bl)) (.int i)=some (.bl (gs.getD i.toNat false)):=vK i0 (by rw[Xk,X9,X2 (by omega)];rfl);have x3:jw (.lst ls) (.int i)=some (ls.getD i.toNat .non):=vK i0 (by rw[X9,X2 (by rw[hb.ln];exact hi)];rfl);simp![x1,x2,x3];exact⟨⟨_,rfl⟩,rfl⟩
   rw[vW,K2 (h:=hD ks gs ls) (λ_ _ h=>h) hy,hR];simp only[back,clr,at',List.map_cons,List.map_nil,List.set_cons_zero,List.set_cons_succ];simp![];exact⟨(ss,ks,wV ks gs ls),rfl,hM⟩
theorem qj4(ns:List Int)(pz:ns.length<=63)(hS:∀c:Int,Oo KY [(.no,.int c)] (λy=>∃ss,y=(.rt,sL ss)/\WV ss) noX):
  Oo QY [(.no,iL ns),(.no,.int 5)] (λy=>∃(z:List Str×List Int×List D),y=(.no,vj z.1 z.2.2)/\Mc z.1 z.2.1 z.2.2) noX:=by
 unfold QY;rw[kwz,vwe];refine kQ ?_;simp![];refine(B.cell_ok ns 0 (by omega)).use ?_;intro _ _;simp![];refine(A.mixed_ok _ 0 (by decide) (by decide)).use ?_;intro head _;simp![];refine(B.cell_ok ns 1 (by omega)).use ?_;intro _ _;simp![];refine(hS _).use ?_;rintro ss ⟨s1,s3,sg,so⟩;have q0:=Xn head (show(4:Int)≠0 by decide);have q1:=Xi head (show(0:Int)<4 by decide);have u0:=Xn (head / 24) (show(8:Int)≠0 by decide);have u1:=Xi (head / 24) (show(0:Int)<8 by decide);have hbr:∃ah:Int,1<=ah/\ah<=12/\((head / 4 % 6=1/\ah=5+head / 24 % 8)\/(head / 4 % 6≠1/\ah=1+head % 4)):=by
  by_cases hc:head / 4 % 6=1
  ·exact⟨_,by omega,by omega,.inl ⟨hc,rfl⟩⟩
  ·exact⟨_,by omega,by omega,.inr ⟨hc,rfl⟩⟩
 obtain⟨ah,m1,m12,kr⟩:=hbr;have hj:∀P:Int->Prop,P ah->(head / 4 % 6=1->P (5+head / 24 % 8))/\(head / 4 % 6≠1->P (1+head % 4)):=λP h=>by
  rcases kr with⟨hc,e⟩|⟨hc,e⟩
  ·exact⟨λ_=>e▸h,λz=>absurd hc z⟩
  ·exact⟨λz=>absurd z hc,λ_=>e▸h⟩
 have hq:∀(b:Bool),b=(head / 4 % 6==1)->fEq (.int (head / 4 % 6)) (.int 1)=some (.bl b):=λb e=>by rw[KZ,e]
 rcases kr with⟨hc,hmv⟩|⟨hc,hmv⟩
 ·simp![hq true (by simp[hc])];rw[<-hmv];exact qk6 pz ⟨s1,s3,sg,so⟩ m1 m12
 ·simp![hq false (by simp[hc])];rw[<-hmv];exact qk6 pz ⟨s1,s3,sg,so⟩ m1 m12
end Nk10
namespace Nk10
open Q PySem C
theorem kji:∀z∈(["any","fresh","good","new","none","room","signs"]:List Str),Sg z:=by
 intro z hz;simp only[Xh,Xe,or_false]at hz;have h:∀z:Str,(decide (1<=z.cps.size)&&decide (z.cps.size<=8)&&z.cps.toList.all λc=>AZ.cps.toList.any (· == c))=true->Sg z:=λz h=>by
  rw[Bool.and_eq_true,Bool.and_eq_true]at h;refine⟨of_decide_eq_true h.1.1,of_decide_eq_true h.1.2,λc hc=>?_⟩;obtain⟨x,hx,e⟩:=List.any_eq_true.mp (List.all_eq_true.mp h.2 c hc);rw[<-eq_of_beq e];exact hx
 rcases hz with rfl|rfl|rfl|rfl|rfl|rfl|rfl<;>exact h _ (by decide +kernel)
theorem kk5{l:List Str}(h1:1<=l.length)(h3:l.length<=3)(hn:l.Nodup)(hs:∀z∈l,Sg z):WV (qK l):=
 ⟨by rw[(zk l).length_eq];exact h1,by rw[(zk l).length_eq];exact h3,λz hz=>hs z ((zk l).mem_iff.mp hz),qjz hn⟩
theorem qvp(c:Int)(hw:∀(c ah:Int),1<=ah->ah<=3->Oo m__law_words [(.no,.int c),(.no,.int ah)] (λy=>∃l,y=(.rt,sL l)/\(l.length:Int)=ah/\l.Nodup/\∀z∈l,Sg z) noX):
  Oo KY [(.no,.int c)] (λy=>∃ss,y=(.rt,sL ss)/\WV ss) noX:=by
 unfold KY;refine kQ ?_;have q0:=Xn (c / 32) (show(3:Int)≠0 by decide);have q1:=Xi (c / 32) (show(0:Int)<3 by decide)
 by_cases h:c % 4=1
 ·have e:fEq (.int (c % 4)) (.int 1)=some (.bl true):=by rw[h];rfl
  have ix:∀v:Int,∃z∈(["any","fresh","good","new","none","room","signs"]:List Str),jw (.lst [.str "any",.str "fresh",.str "good",.str "new",.str "none",.str "room",.str "signs"]) (.int (v % 7))=some (.str z):=λv=>by
   have t0:=Xn v (show(7:Int)≠0 by decide);have t1:=Xi v (show(0:Int)<7 by decide);generalize v % 7=t at t0 t1;rcases(show t=0\/t=1\/t=2\/t=3\/t=4\/t=5\/t=6 by omega)with rfl|rfl|rfl|rfl|rfl|rfl|rfl
   ·exact⟨"any",by simp,rfl⟩
   ·exact⟨"fresh",by simp,rfl⟩
   ·exact⟨"good",by simp,rfl⟩
   ·exact⟨"new",by simp,rfl⟩
   ·exact⟨"none",by simp,rfl⟩
   ·exact⟨"room",by simp,rfl⟩
   ·exact⟨"signs",by simp,rfl⟩
  obtain⟨z1,m1,x1⟩:=ix (c / 4);obtain⟨z2,m2,x2⟩:=ix (c / 28);obtain⟨z3,m3,x3⟩:=ix (c / 196);have es:Q7 (.no,.lst [.str z1,.str z2,.str z3])=some (.rt,sL (qK (ddS [z1,z2,z3]))):=rfl;have hd:WV (qK (ddS [z1,z2,z3])):=by
   refine kk5 ?_ (Sw.dd_le [z1,z2,z3]) (qwn _) λz hz=>?_
   ·rcases(PyProof.Rows.foldl_step_dedup_nil_zero_or_pos [z1,z2,z3])with h|h
    ·cases h
    ·exact h
   ·have:=qxl hz;simp only[Xh,Xe,or_false]at this;rcases this with rfl|rfl|rfl
    ·exact kji _ m1
    ·exact kji _ m2
    ·exact kji _ m3
  simp![e,x1,x2,x3,es];exact⟨_,rfl,hd⟩
 ·have e:fEq (.int (c % 4)) (.int 1)=some (.bl false):=by rw[KZ];simp[h]
  simp![e];refine(hw (c / 4) (1+c / 32 % 3) (by omega) (by omega)).use ?_;rintro l ⟨l1,l2,l3⟩;have es:V6 (.no,sL l)=some (.rt,sL (qK l)):=by
   unfold V6;dsimp only;rw[kkp];dsimp only;rw[Xf (by omega)]
  simp![es];exact⟨_,rfl,kk5 (by omega) (by omega) l2 l3⟩
end Nk10
namespace Nk10
open Q PySem C
theorem kvt{n:Nat}{f:Nat->Str}(h:∀i j,i<j->j<n->f i≠f j):((List.range n).map f).Nodup:=by
 unfold List.Nodup;rw[List.pairwise_map];exact List.pairwise_lt_range.imp_of_mem λ_ hj cz=>h _ _ cz (List.mem_range.mp hj)
theorem vkt{z:Str}{j:Int}(h0:0<=j)(h1:j<=z.cps.size):(Txt.slice z none (some j)).cps.toList=z.cps.toList.take j.toNat:=by
 have:=StrLaws.sliceText_to (x:=z) (j:=j) ⟨h0,by rw[Xb];exact h1⟩;rw[show Txt.slice z none (some j)=StrLaws.sliceText z none (some j)from rfl,this];simp
theorem vkv{z:Str}{i j:Int}(h0:0<=i)(hij:i<=j)(h1:j<=z.cps.size):(Txt.slice z (some i) (some j)).cps.toList=(z.cps.toList.drop i.toNat).take (j - i).toNat:=by
 have:=StrLaws.sliceText_plain (x:=z) (i:=i) (j:=j) ⟨h0,hij,by rw[Xb];exact h1⟩;rw[show Txt.slice z (some i) (some j)=StrLaws.sliceText z (some i) (some j)from rfl,this]
def chr(t:Int):Nat:=AZ.cps.toList.getD t.toNat 0
theorem vvy{t:Int}(h0:0<=t)(h1:t<26):jw (.str AZ) (.int t)=some (.str ⟨#[chr t]⟩)/\chr t∈AZ.cps.toList:=by
 have hl:AZ.cps.toList.length=26:=by decide +kernel
 have hs:AZ.cps.size=26:=by decide +kernel
 have e:AZ.cps.toList[t.toNat]?=some (chr t):=by
  unfold chr;rw[X9,X2 (by omega)];rfl
 refine⟨?_,Yn e⟩;show((Q.ixN AZ.cps.size t).bind λj=>(AZ.cps.toList[j]?).map λc=>D.str ⟨#[c]⟩)=_;unfold Q.ixN;rw[Xf h0,Xf (by omega)];show((AZ.cps.toList[t.toNat]?).map λc=>D.str ⟨#[c]⟩)=_;rw[e];rfl
theorem vjt{t u:Int}(h0:0<=t)(h1:t<26)(g0:0<=u)(g1:u<26)(e:chr t=chr u):t=u:=by
 have h:∀i:Fin 26,∀j:Fin 26,AZ.cps.toList.getD i 0=AZ.cps.toList.getD j 0->i=j:=by decide +kernel
 have:=h ⟨t.toNat,by omega⟩ ⟨u.toNat,by omega⟩ e;have:=congrArg Fin.val this;have:t.toNat=u.toNat:=this;omega
def wdA(z:Str)(c:Int)(k:Nat):Str:=Txt.slice z none (some (1+((k:Int)+c / 3) % 8))
theorem qjk{z:Str}{c:Int}(hz:z.cps.size=8)(hl:∀x∈z.cps.toList,x∈AZ.cps.toList)(k:Nat):Sg (wdA z c k)/\((wdA z c k).cps.size:Int)=1+((k:Int)+c / 3) % 8:=by
 have t0:=Xn ((k:Int)+c / 3) (show(8:Int)≠0 by decide);have t1:=Xi ((k:Int)+c / 3) (show(0:Int)<8 by decide);have e:=vkt (z:=z) (j:=1+((k:Int)+c / 3) % 8) (by omega) (by omega);have hs:((wdA z c k).cps.size:Int)=1+((k:Int)+c / 3) % 8:=by
  unfold wdA;rw[<-Xb,e,Yg,Xb];omega
 refine⟨⟨by omega,by omega,λx hx=>hl x ?_⟩,hs⟩;unfold wdA at hx;rw[e]at hx;exact List.mem_of_mem_take hx
theorem qjl{z:Str}{c:Int}(hz:z.cps.size=8)(hl:∀x∈z.cps.toList,x∈AZ.cps.toList){n:Nat}(hn:n<=3):((List.range n).map (wdA z c)).Nodup:=kvt λi j hij hj e=>by
 have h1:=(qjk (c:=c) hz hl i).2;have h2:=(qjk (c:=c) hz hl j).2;rw[e]at h1;omega
def wdB(w1 w2:Str)(ii s:Int)(k:Nat):Str:=w1++⟨#[chr ((ii+(k:Int)*s) % 26)]⟩++w2
theorem jzh(w1 w2:Str)(ii s:Int)(k:Nat):(wdB w1 w2 ii s k).cps.toList=w1.cps.toList++(chr ((ii+(k:Int)*s) % 26)::w2.cps.toList):=by
 unfold wdB;rw[A.list_app,A.list_app,Xs];rfl
theorem vkd{w1 w2:Str}{ii s:Int}(hs:w1.cps.size+w2.cps.size<=7)(h1:∀x∈w1.cps.toList,x∈AZ.cps.toList)(h2:∀x∈w2.cps.toList,x∈AZ.cps.toList)(k:Nat):Sg (wdB w1 w2 ii s k):=by
 have t0:=Xn (ii+(k:Int)*s) (show(26:Int)≠0 by decide);have t1:=Xi (ii+(k:Int)*s) (show(0:Int)<26 by decide);have hz:(wdB w1 w2 ii s k).cps.size=w1.cps.size+w2.cps.size+1:=by
  rw[<-Xb,jzh,Y3,Xp,Xb,Xb];omega
 refine⟨by omega,by omega,λx hx=>?_⟩;rw[jzh]at hx;rcases List.mem_append.mp hx with hx|hx
 ·exact h1 x hx
 ·rcases List.mem_cons.mp hx with rfl|hx
  ·exact(vvy t0 t1).2
  ·exact h2 x hx
theorem qjj{w1 w2:Str}{ii s:Int}(s1:1<=s)(s5:s<=5){n:Nat}(hn:n<=3):((List.range n).map (wdB w1 w2 ii s)).Nodup:=kvt λi j hij hj e=>by
 have e:(wdB w1 w2 ii s i).cps.toList=(wdB w1 w2 ii s j).cps.toList:=by rw[e]
 rw[jzh,jzh]at e;have e:=List.append_cancel_left e;injection e with e _;have b:=λk:Nat=>Xn (ii+(k:Int)*s) (show(26:Int)≠0 by decide)
 have d:=λk:Nat=>Xi (ii+(k:Int)*s) (show(0:Int)<26 by decide)
 have e:=vjt (b i) (d i) (b j) (d j) e;have hi:i=0\/i=1:=by omega
 have hj:j=1\/j=2:=by omega
 rcases hi with rfl|rfl<;>rcases hj with rfl|rfl<;>omega
def hW(f:Nat->Str):D->D
 |.int k=>.str (f k.toNat)
 |d=>d
theorem qjd{G:D->Sd->Prop}{f:Nat->Str}{n:Int}{ys:List Sd}(hG:∀d y,G d y->y.2=hW f d)(h:Each G (kj 0 n) ys):ys.map (·.2)=((List.range n.toNat).map f).map D.str:=by
 rw[K2 (h:=hW f) hG h];unfold kj;rw[Y2,Y2,Int.sub_zero]
 congr 1
 funext k;show D.str (f (0+(k:Int)).toNat)=_;rw[show(0+(k:Int)).toNat=k by omega];rfl
theorem vkb(c ah:Int)(h0:1<=ah)(h1:ah<=3):Oo m__law_words [(.no,.int c),(.no,.int ah)] (λy=>∃l,y=(.rt,sL l)/\(l.length:Int)=ah/\l.Nodup/\∀z∈l,Sg z) noX:=by
 rw[vzu];unfold A.m__law_words;refine kQ ?_;simp![↓vkf];refine vX [some (.dp,.str AZ),some (.no,.int c)] (λ_ y=>∃ch∈AZ.cps.toList,y.2=.str ⟨#[ch]⟩) ?_;simp![];refine⟨rfl,λd hd=>?_,λys hys=>?_⟩
 ·obtain⟨j,j0,j1,rfl⟩:=J4 hd;simp![];refine(A.mixed_ok c j j0 (by omega)).use ?_;intro v _;have t0:=Xn v (show(26:Int)≠0 by decide);have t1:=Xi v (show(0:Int)<26 by decide);obtain⟨ch,dy,hc⟩:=A.ix_strM AZ (v % 26) t0 t1;simp![hc];exact⟨⟨_,rfl⟩,ch,dy,rfl⟩
 obtain⟨ps,g1,g2,g3⟩:=A.each_one (λd y h=>h) hys;have bo:ps.length=8:=by rw[g2];rfl
 obtain⟨z,hz,z0,z1⟩:=A.join_az g3 (by omega);rw [vW,g1];simp only[back,clr,at',List.map_cons,List.map_nil,List.set_cons_zero,List.set_cons_succ];have zs:z.cps.size<=100:=by omega
 have z8:z.cps.size=8:=by omega
 by_cases h3:c % 3=1
 ·have hd:fEq (.int (c % 3)) (.int 1)=some (.bl true):=by rw[h3];rfl
  simp![hz,hd];refine vX [some (.dp,.str z),some (.no,.int c)] (λd y=>y.2=hW (wdA z c) d) ?_;simp![];refine⟨rfl,λd hd=>?_,λys hys=>?_⟩
  ·obtain⟨j,j0,j1,rfl⟩:=J4 hd;have s1:=B.sl_s (o:=.no) (z:=z) (lo:=none) (hi:=some (1+(j+c / 3) % 8)) zs;have s1':=B.sl_s (o:=.dp) (z:=z) (lo:=none) (hi:=some (1+(j+c / 3) % 8)) zs;simp![s1,s1'];refine⟨⟨_,rfl⟩,?_⟩;show _=D.str (wdA z c j.toNat);unfold wdA;rw[show((j.toNat:Nat):Int)=j by omega]
  ·rw[vW,qjd (λ_ _ h=>h) hys];exact⟨_,rfl,by rw[X6,Y7];omega,qjl z8 z1 (by omega),λw hw=>by
    obtain⟨k,_,rfl⟩:=List.mem_map.mp hw;exact(qjk z8 z1 k).1⟩
 ·have hd:fEq (.int (c % 3)) (.int 1)=some (.bl false):=by rw[KZ];simp[h3]
  have a0:=Xn (c / 3) (show(8:Int)≠0 by decide);have a1:=Xi (c / 3) (show(0:Int)<8 by decide);have b0:=Xn (c / 24) (show 1+c / 3 % 8≠0 by omega);have b1:=Xi (c / 24) (show 0<1+c / 3 % 8 by omega);simp![hz,hd,mod_i (a:=c / 24) (b:=1+c / 3 % 8) (by omega)];generalize c / 24 % (1+c / 3 % 8)=i4 at b0 b1;obtain⟨lg,hlg⟩:∃lg,lg=1+c / 3 % 8:=⟨_,rfl⟩;rw[<-hlg]at b1 ⊢;have c0:=Xn (c / 192) (show(5:Int)≠0 by decide);have c1:=Xi (c / 192) (show(0:Int)<5 by decide);obtain⟨ch,dy,hix⟩:=A.ix_strM z i4 b0 (by omega);obtain⟨ii,hii⟩:=A.az_found ch (z1 ch dy);have e1:=vkt (z:=z) (j:=i4) b0 (by omega);have e2:=vkv (z:=z) (i:=i4+1) (j:=lg) (by omega) (by omega) (by omega);have s1:=λo=>B.sl_s (o:=o) (z:=z) (lo:=none) (hi:=some i4) zs
  have s2:=λo=>B.sl_s (o:=o) (z:=z) (lo:=some (i4+1)) (hi:=some lg) zs
  generalize Txt.slice z none (some i4)=w1 at e1 s1;generalize Txt.slice z (some (i4+1)) (some lg)=w2 at e2 s2;have n1:(w1.cps.size:Int)=i4:=by rw[<-Xb,e1,Yg,Xb];omega
  have n2:(w2.cps.size:Int)=lg - (i4+1):=by rw[<-Xb,e2,Yg,List.length_drop,Xb];omega
  have v1:∀x∈w1.cps.toList,x∈AZ.cps.toList:=λx hx=>z1 x (by rw[e1]at hx;exact List.mem_of_mem_take hx)
  have v2:∀x∈w2.cps.toList,x∈AZ.cps.toList:=λx hx=>z1 x (by rw[e2]at hx;exact List.mem_of_mem_drop (List.mem_of_mem_take hx))
  refine WK (λE j9=>∃(j:Nat) (l7 l8:Option Sd) (o2 o3 o4 o5:Own),E=[some (.no,.int c),some (.no,.int ah),some (o2,.str AZ),some (o3,.str z),some (o4,.int lg),some (o5,.int i4),some (.rt,sL ((List.range j).map (wdB w1 w2 ii (1+c / 192 % 5)))),l7,l8]/\(j:Int)<=ah/\j9=kj j ah) ?_ ?_ ?_
  ·simp![];exact⟨0,_,_,_,_,_,_,rfl,by omega,rfl⟩
  ·rintro E d ds ⟨j,l7,l8,o2,o3,o4,o5,rfl,j1,hr⟩;obtain⟨hj,rfl,rfl⟩:=qk8 j1 hr;have m1:=mul_l (o1:=.no) (o2:=.no) (a:=(j:Int)) (b:=1+c / 192 % 5) (by omega) (by omega);have t0:=Xn ((ii:Int)+j*(1+c / 192 % 5)) (show(26:Int)≠0 by decide);have t1:=Xi ((ii:Int)+j*(1+c / 192 % 5)) (show(0:Int)<26 by decide);simp![↓vkg,hix,hii,m1,show kz5 (.str AZ)=true from rfl];have hx:=(vvy t0 t1).1;have jl:((⟨#[chr (((ii:Int)+j*(1+c / 192 % 5)) % 26)]⟩:Str).cps.size)=1:=rfl;have a1:=qvc (o1:=.no) (o2:=.no) (a:=w1) (b:=⟨#[chr (((ii:Int)+j*(1+c / 192 % 5)) % 26)]⟩) (by rw[jl];omega);have a2:=qvc (o1:=.no) (o2:=.no) (a:=w1++⟨#[chr (((ii:Int)+j*(1+c / 192 % 5)) % 26)]⟩) (b:=w2) (by rw[qvn,jl];omega);have a1':=qvc (o1:=.no) (o2:=sub o2) (a:=w1) (b:=⟨#[chr (((ii:Int)+j*(1+c / 192 % 5)) % 26)]⟩) (by rw[jl];omega);refine vwp rfl ?_;simp![s1,s2,hx,a1,a2,a1'];refine⟨_,rfl,by rw[X6,X6,Y7];omega,?_⟩;rw[show((List.range j).map (wdB w1 w2 ii (1+c / 192 % 5))).map D.str++[D.str (w1++⟨#[chr (((ii:Int)+j*(1+c / 192 % 5)) % 26)]⟩++w2)]=((List.range (j+1)).map (wdB w1 w2 ii (1+c / 192 % 5))).map D.str by rw[List.range_succ,Ya,Ya];rfl];exact⟨j+1,_,_,_,_,_,_,rfl,by omega,by rw[show((j:Int)+1)=((j+1:Nat):Int)by omega]⟩
  ·rintro E ⟨j,l7,l8,o2,o3,o4,o5,rfl,j1,hr⟩;have:=qka j1 hr;simp![];exact⟨_,rfl,by rw[X6,Y7];omega,qjj (by omega) (by omega) (by omega),λw hw=>by
    obtain⟨k,_,rfl⟩:=List.mem_map.mp hw;exact vkd (by omega) v1 v2 k⟩
theorem vvq(ns:List Int)(pz:ns.length<=63):Oo m_law [(.no,iL ns)] (λy=>y.2=.bl true) noX:=vvr ns (qj4 ns pz λc=>qvp c vkb)
theorem law_true(ns:List Int)(hl:ns.length<=63)(hb:∀i∈ns,Builtin.Int.intBits i<=1048576):∃E o,m_law [(.no,.lst (ns.map D.int))]=some (.ok E (o,.bl true)):=by
 obtain⟨E,⟨o,d⟩,h,hd⟩:=(vvq ns hl).out;have hd:d=.bl true:=hd;subst hd;exact⟨E,o,h⟩
end Nk10
namespace Nk10
open PySem L2 L3 Q
def top(i:Nat):Stmt:=PySem.Challenge.pw_freshrooms_k10_machines_copied.main.body.getD i (.Pass ⟨0,0,0,0⟩)
abbrev jxj:Stmt:=top 6
abbrev jzu:Stmt:=top 7
abbrev jvk:Stmt:=top 16
abbrev jwq:Stmt:=top 19
abbrev jwo:Stmt:=top 18
abbrev jxk:Stmt:=top 17
abbrev jzv:Stmt:=top 26
abbrev jws:Stmt:=top 25
abbrev kkt:Stmt:=top 24
abbrev jzt:Stmt:=top 23
abbrev jwp:Stmt:=top 22
abbrev jqp:Stmt:=top 21
abbrev jwr:Stmt:=top 20
abbrev jvx:Stmt:=top 13
abbrev jvl:Stmt:=top 15
abbrev jqg:Stmt:=top 14
abbrev jv5:Stmt:=top 28
abbrev jw1:Stmt:=top 29
abbrev jvy:Stmt:=top 30
abbrev jvz:Stmt:=top 31
abbrev jw0:Stmt:=top 32
abbrev jwv:Stmt:=top 33
abbrev jwt:Stmt:=top 34
abbrev jv3:Stmt:=top 35
abbrev jww:Stmt:=top 36
abbrev jqh:Stmt:=top 37
abbrev jwu:Stmt:=top 38
abbrev jv4:Stmt:=top 39
abbrev qz8:Stmt:=top 40
theorem kwh:FnScope ["thing"] ["thing"] (k7 jxj):=mkS
theorem kzu:FnScope ["thing"] ["thing"] (k7 jzu):=mkS
theorem kjx:FnScope ["thing","many"] ["thing","many"] (k7 jvk):=mkS
theorem kv0:FnScope ["thing"] ["thing"] (k7 jwq):=mkS
theorem kqy:FnScope ["thing","texts"] ["thing","texts"] (k7 jwo):=mkS
theorem kwi:FnScope ["thing","end"] ["thing","end"] (k7 jxk):=mkS
theorem kzv:FnScope ["thing","own"] ["thing","own"] (k7 jzv):=mkS
theorem kv3:FnScope ["thing","own","many"] ["thing","own","many"] (k7 jws):=mkS
theorem qk3:FnScope ["thing","own"] ["thing","own"] (k7 kkt):=mkS
theorem kzt:FnScope ["thing","own","signs","keepers"] ["thing","own","signs","keepers"] (k7 jzt):=mkS
theorem kqz:FnScope ["steps","own","signs","keepers"] ["steps","own","signs","keepers"] (k7 jwp):=mkS
theorem jz6:FnScope ["thing"] ["thing"] (k7 jqp):=mkS
theorem sc_are_rooms:FnScope ["thing","signs","keepers"] ["thing","signs"] (k7 jwr):=mkS
theorem kkr:FnScope ["thing"] ["thing"] (k7 jvx):=mkS
theorem kjy:FnScope ["room"] ["room"] (k7 jvl):=mkS
theorem jxi:FnScope ["thing"] ["thing"] (k7 jqg):=mkS
theorem jzs:FnScope ["_law_script","_law_k"] ["_law_script","_law_k"] (k7 jv5):=mkS
theorem sc__law_mixed:FnScope ["_law_cell","_law_k","_law_number"] ["_law_cell","_law_k"] (k7 jw1):=mkS
theorem sc__law_words:FnScope ["_law_cell","_law_many","_law_letters","_law_word","_law_long","_law_at","_law_some","_law_k","_law_turn"] ["_law_cell","_law_many"] (k7 jvy):=mkS
theorem kks:FnScope ["_law_found"] ["_law_found"] (k7 jvz):=mkS
theorem sc__law_signs:FnScope ["_law_cell","_law_some"] ["_law_cell"] (k7 jw0):=mkS
theorem kv4:FnScope ["_law_number","_law_keepers"] ["_law_number","_law_keepers"] (k7 jwv):=mkS
theorem sc__law_step:FnScope ["_law_cell","_law_signs_here","_law_here","_law_keepers","_law_m","_law_to","_law_asks","_law_fills"] ["_law_cell","_law_signs_here","_law_here","_law_keepers"] (k7 jwt):=mkS
theorem sc__law_machine:FnScope ["_law_script","_law_start","_law_head","_law_signs_here","_law_many","_law_keepers","_law_steps","_law_cell","_law_here","_law_goods"] ["_law_script","_law_start"] (k7 jv3):=mkS
theorem kv5:FnScope ["_law_machine_here"] ["_law_machine_here"] (k7 jww):=mkS
theorem sc__law_same_step:FnScope ["_law_found","_law_due","_law_one","_law_other"] ["_law_found","_law_due"] (k7 jqh):=mkS
theorem sc__law_same:FnScope ["_law_found","_law_due","_law_one","_law_other","_law_here","_law_there"] ["_law_found","_law_due"] (k7 jwu):=mkS
theorem sc__law_emptied:FnScope ["_law_machine_here","_law_keepers","_law_good","_law_steps"] ["_law_machine_here"] (k7 jv4):=mkS
theorem sc_law:FnScope ["_law_script","_law_machine_here","_law_handed","_law_found","_law_again"] ["_law_script"] (k7 qz8):=mkS
structure Txt (K:PySem.W.Frag)(mg:Str->Option Value):Prop where
 b_all:mg "all"=none
 b_bool:mg "bool"=none
 b_int:mg "int"=none
 b_isinstance:mg "isinstance"=none
 b_len:mg "len"=none
 b_list:mg "list"=none
 b_range:mg "range"=none
 b_set:mg "set"=none
 b_sorted:mg "sorted"=none
 b_str:mg "str"=none
 b_sum:mg "sum"=none
 b_tuple:mg "tuple"=none
 b_zip:mg "zip"=none
 c_LETTERS:Cst mg "LETTERS" (V.str "abcdefghijklmnopqrstuvwxyz")
 c_MOST_LETTERS:Cst mg "MOST_LETTERS" (V.int (8))
 c_MOST_SIGNS:Cst mg "MOST_SIGNS" (V.int (3))
 c_MOST_ROOMS:Cst mg "MOST_ROOMS" (V.int (12))
 c_MOST_KEEPERS:Cst mg "MOST_KEEPERS" (V.int (3))
 c_MOST_STEPS:Cst mg "MOST_STEPS" (V.int (120))
section
variable (P:Program)(w:PySem.World)(K:PySem.W.Frag)(mg:Str->Option Value)(base:Heap)
abbrev kkl:=kq P w K mg base 1 "is_whole" ["thing"] (spF K mg 1 YK)
abbrev kwd:=kq P w K mg base 1 "is_sign" ["thing"] (spF K mg 1 ZW)
abbrev YZ:=kq P w K mg base 1 "is_tuple_of" ["thing","many"] (spF K mg 2 KQ)
abbrev kjn:=kq P w K mg base 2 "are_signs" ["thing"] (spF K mg 1 Qx)
abbrev jvs:=kq P w K mg base 1 "is_one_of" ["thing","texts"] (spF K mg 2 Jz)
abbrev jvi:=kq P w K mg base 2 "is_below" ["thing","end"] (spF K mg 2 KJ)
abbrev kwe:=kq P w K mg base 3 "is_fill" ["thing","own"] (spF K mg 2 Zw)
abbrev kjp:=kq P w K mg base 4 "are_fills" ["thing","own","many"] (spF K mg 3 YX)
abbrev kzk:=kq P w K mg base 3 "is_ask" ["thing","own"] (spF K mg 2 XX)
abbrev kwc:=kq P w K mg base 5 "is_step" ["thing","own","signs","keepers"] (spF K mg 4 jw3)
abbrev kjm:=kq P w K mg base 6 "are_steps" ["steps","own","signs","keepers"] (spF K mg 4 WX)
abbrev jwb:=kq P w K mg base 3 "is_room_frame" ["thing"] (spF K mg 1 ZX)
abbrev kjo:=kq P w K mg base 7 "are_rooms" ["thing","signs"] (spF K mg 2 XJ)
abbrev jwc:=kq P w K mg base 8 "is_machine" ["thing"] (spF K mg 1 Jk)
abbrev jxd:=kq P w K mg base 1 "copied_room" ["room"] (spF K mg 1 ZZ)
abbrev jvt:=kq P w K mg base 9 "copied_machine" ["thing"] (spF K mg 1 W7)
abbrev jwn:=kq P w K mg base 1 "_law_cell_at" ["_law_script","_law_k"] (spF K mg 2 m__law_cell_at)
abbrev jv2:=kq P w K mg base 1 "_law_mixed" ["_law_cell","_law_k"] (spF K mg 2 m__law_mixed)
abbrev jz1:=kq P w K mg base 2 "_law_words" ["_law_cell","_law_many"] (spF K mg 2 m__law_words)
abbrev jz2:=kq P w K mg base 1 "_law_whole" ["_law_found"] (spF K mg 1 m__law_whole)
abbrev jz3:=kq P w K mg base 3 "_law_signs" ["_law_cell"] (spF K mg 1 KY)
abbrev kjs:=kq P w K mg base 1 "_law_fill" ["_law_number","_law_keepers"] (spF K mg 2 Z3)
abbrev kjq:=kq P w K mg base 2 "_law_step" ["_law_cell","_law_signs_here","_law_here","_law_keepers"] (spF K mg 4 V9)
abbrev jwl:=kq P w K mg base 4 "_law_machine" ["_law_script","_law_start"] (spF K mg 2 QY)
abbrev kjt:=kq P w K mg base 1 "_law_copy" ["_law_machine_here"] (spF K mg 1 W1)
abbrev jvu:=kq P w K mg base 1 "_law_same_step" ["_law_found","_law_due"] (spF K mg 2 YY)
abbrev kjr:=kq P w K mg base 2 "_law_same" ["_law_found","_law_due"] (spF K mg 2 Qz)
abbrev jwm:=kq P w K mg base 1 "_law_emptied" ["_law_machine_here"] (spM K mg 0 V3)
end
section
variable {P:Program}{w:PySem.World}{K:PySem.W.Frag}{mg:Str->Option Value}{base:Heap}{f:Addr}{fd:FuncData}
theorem kws(T:Txt K mg)  (F:Fun K "is_whole" "is_whole" jxj f fd):FnOk P w K mg base (CXE P w) 1 f fd ["thing"] (spF K mg 1 YK):=
 q9 F kwh (qk rfl) λb9 A outer s H vs Q E hr h=>qw rfl
  (jv (jX (xz (j4 (vw (vv 0) T.b_isinstance T.b_int qxp rfl)) (z9 (vqd (j4 (vw (vv 0) T.b_isinstance T.b_bool ZJ rfl))))))) h
theorem qj1(T:Txt K mg)  (F:Fun K "is_sign" "is_sign" jzu f fd):FnOk P w K mg base (CXE P w) 1 f fd ["thing"] (spF K mg 1 ZW):=
 q9 F kzu (qk rfl) λb9 A outer s H vs Q E hr h=>qw rfl
  (jK (qj (QW.pt (vJ (qQ (v8 (j4 (vw (vv 0) T.b_isinstance T.b_str kzi rfl)))) (xk (qQ (kky QZ (xJ (g:=λa b=>decide (a<=b))) QZ (xJ (g:=λa b=>decide (a<=b))) ki (j4 (qL (vv 0) T.b_len)) (j4 (q_C (Ww T.c_MOST_LETTERS) (λ_=>zV))) Qw))))) (jv (jX (q_C qZ (λ_=>qz)))) kZ) (jv (jX (Kv (Vz K) W4 (j4 (qM .rt 1 [] 1 ["letter"] (zJ (cv 0)) (λ_ _ _ _ _=>(KK (vvc hr.units) vwz (vv 0) (j4 (q_C (Ww T.c_LETTERS) (λ_=>Qk (by decide)))) (by rfl))))) T.b_all Vk)))) h
theorem kk0(T:Txt K mg)  (F:Fun K "is_tuple_of" "is_tuple_of" jvk f fd):FnOk P w K mg base (CXE P w) 1 f fd ["thing","many"] (spF K mg 2 KQ):=
 q9 F kjx (qk rfl) λb9 A outer s H vs Q E hr h=>qw rfl
  (jv (jX (xz (j4 (vw (vv 0) T.b_isinstance T.b_tuple V7 rfl)) (z9 (KK (xw hr.units) xQ (j4 (qL (vv 0) T.b_len)) (vv 1) (kK _)))))) h
theorem kvj(T:Txt K mg)(dk:kwd P w K mg base)(F:Fun K "are_signs" "are_signs" jwq f fd):FnOk P w K mg base (CXE P w) 2 f fd ["thing"] (spF K mg 1 Qx):=
 q9 F kv0 (qk rfl) λb9 A outer s H vs Q E hr h=>qw rfl
  (jK (qj (QW.pt (vJ (qQ (v8 (j4 (vw (vv 0) T.b_isinstance T.b_list Jw rfl)))) (xk (qQ (kky QZ (xJ (g:=λa b=>decide (a<=b))) QZ (xJ (g:=λa b=>decide (a<=b))) ki (j4 (qL (vv 0) T.b_len)) (j4 (q_C (Ww T.c_MOST_SIGNS) (λ_=>zV))) Qw))))) (jv (jX (q_C qZ (λ_=>qz)))) kZ) (jK (qj (qQ (v8 (j4 (Kv (Vz K) W4 (j4 (qM .rt 1 [] 1 ["sign"] (zJ (cv 0)) (λ_ _ _ _ _=>(qC dk hr (j5 (cv 0) jW))))) T.b_all Vk)))) (jv (jX (q_C qZ (λ_=>qz)))) kZ) (jv (jX (KK (xw hr.units) xQ (vv 0) (j4 (kva rfl rfl (vv 0) T.b_sorted T.b_set)) (kK _)))))) h
theorem kvh(T:Txt K mg)  (F:Fun K "is_one_of" "is_one_of" jwo f fd):FnOk P w K mg base (CXE P w) 1 f fd ["thing","texts"] (spF K mg 2 Jz):=
 q9 F kqy (qk rfl) λb9 A outer s H vs Q E hr h=>qw rfl
  (jv (jX (xz (j4 (vw (vv 0) T.b_isinstance T.b_str kzi rfl)) (z9 (KK (vvc hr.units) vwz (vv 0) (vv 1) (by rfl)))))) h
theorem kwt(T:Txt K mg)(cy:kkl P w K mg base)(F:Fun K "is_below" "is_below" jxk f fd):FnOk P w K mg base (CXE P w) 2 f fd ["thing","end"] (spF K mg 2 KJ):=
 q9 F kwi (qk rfl) λb9 A outer s H vs Q E hr h=>qw rfl
  (jv (jX (xz (j4 (qC cy hr (j5 (cv 0) jW))) (z9 (qzd QZ (xJ (g:=λa b=>decide (a<=b))) qzz (xJ (g:=λa b=>decide (a<b))) ki (vv 0) (vv 1)))))) h
theorem qj2(T:Txt K mg)(ao:jvs P w K mg base)(aj:jvi P w K mg base)(F:Fun K "is_fill" "is_fill" jzv f fd):FnOk P w K mg base (CXE P w) 3 f fd ["thing","own"] (spF K mg 2 Zw):=
 q9 F kzv (qk rfl) λb9 A outer s H vs Q E hr h=>qw rfl
  (jv (jX (vz1 (j4 (KK vv6 vwy (vv 0) kn (kK _))) (vz1 (j4 (qC ao hr (j5 (cv 0) (j5 (zK (o:=.no) (j5 kS jW)) jW)))) (z9 (qC aj hr (j5 (cv 0) (j5 (cv 1) jW)))))))) h
theorem kvl(T:Txt K mg)(ab:YZ P w K mg base)(dh:kwe P w K mg base)(F:Fun K "are_fills" "are_fills" jws f fd):FnOk P w K mg base (CXE P w) 4 f fd ["thing","own","many"] (spF K mg 3 YX):=
 q9 F kv3 (qk rfl) λb9 A outer s H vs Q E hr h=>qw rfl
  (jv (jX (xz (j4 (qC ab hr (j5 (cv 0) (j5 (cv 2) jW)))) (z9 (Kv (Vz K) W4 (j4 (qM .rt 1 [1] 3 ["fill","own"] (zJ (cv 0)) (λ_ _ _ _ _=>(qC dh hr (j5 (cv 0) (j5 (cv 1) jW)))))) T.b_all Vk))))) h
theorem qkx(T:Txt K mg)(ao:jvs P w K mg base)(aj:jvi P w K mg base)(F:Fun K "is_ask" "is_ask" kkt f fd):FnOk P w K mg base (CXE P w) 3 f fd ["thing","own"] (spF K mg 2 XX):=
 q9 F qk3 (qk rfl) λb9 A outer s H vs Q E hr h=>qw rfl
  (jv (jX (vz1 (j4 (qC ao hr (j5 (cv 0) (j5 (zK (o:=.no) (j5 kS (j5 kS jW))) jW)))) (z9 (qC aj hr (j5 (cv 0) (j5 (cv 1) jW))))))) h
theorem qj0(T:Txt K mg)(ci:kjp P w K mg base)(ab:YZ P w K mg base)(ao:jvs P w K mg base)(ek:kzk P w K mg base)(aj:jvi P w K mg base)(F:Fun K "is_step" "is_step" jzt f fd):FnOk P w K mg base (CXE P w) 5 f fd ["thing","own","signs","keepers"] (spF K mg 4 jw3):=
 q9 F kzt (qk rfl) λb9 A outer s H vs Q E hr h=>qw rfl
  (jK (qj (qQ (v8 (j4 (qC ab hr (j5 (cv 0) (j5 kI jW)))))) (jv (jX (q_C qZ (λ_=>qz)))) kZ) (jK (qj (QW.pt (vJ (qQ (v8 (j4 (qC ao hr (j5 (k9 (kx (vv 0) ki)) (j5 (cv 2) jW)))))) (vJ (qQ (v8 (j4 (qC ek hr (j5 (k9 (kx (vv 0) ki)) (j5 (cv 1) jW)))))) (xk (qQ (v8 (j4 (qC aj hr (j5 (k9 (kx (vv 0) ki)) (j5 (qL (vv 3) T.b_len) jW)))))))))) (jv (jX (q_C qZ (λ_=>qz)))) kZ) (jv (jX (qC ci hr (j5 (k9 (kx (vv 0) ki)) (j5 (cv 1) (j5 (k9 (kx (vv 3) (kx (vv 0) ki))) jW)))))))) h
theorem kvi(T:Txt K mg)(dg:kwc P w K mg base)(F:Fun K "are_steps" "are_steps" jwp f fd):FnOk P w K mg base (CXE P w) 6 f fd ["steps","own","signs","keepers"] (spF K mg 4 WX):=
 q9 F kqz (qk rfl) λb9 A outer s H vs Q E hr h=>qw rfl
  (jv (jX (Kv (Vz K) W4 (j4 (qM .rt 1 [1,2,3] 4 ["step","own","signs","keepers"] (zJ (cv 0)) (λ_ _ _ _ _=>(qC dg hr (j5 (cv 0) (j5 (cv 1) (j5 (cv 2) (j5 (cv 3) jW)))))))) T.b_all Vk))) h
theorem jza(T:Txt K mg)(ab:YZ P w K mg base)(aj:jvi P w K mg base)(F:Fun K "is_room_frame" "is_room_frame" jqp f fd):FnOk P w K mg base (CXE P w) 3 f fd ["thing"] (spF K mg 1 ZX):=
 q9 F jz6 (qk rfl) λb9 A outer s H vs Q E hr h=>qw rfl
  (jK (qj (qQ (v8 (j4 (qC ab hr (j5 (cv 0) (j5 kI jW)))))) (jv (jX (q_C qZ (λ_=>qz)))) kZ) (jv (jX (xz (j4 (qC aj hr (j5 (k9 (kx (vv 0) ki)) (j5 (oA (j4 (q_C (Ww T.c_MOST_KEEPERS) (λ_=>zV))) ki) jW)))) (xz (j4 (vw (kx (vv 0) ki) T.b_isinstance T.b_bool ZJ rfl)) (z9 (vw (kx (vv 0) ki) T.b_isinstance T.b_list Jw rfl))))))) h
theorem kvk(T:Txt K mg)(ck:kjm P w K mg base)(bd:jwb P w K mg base)(F:Fun K "are_rooms" "are_rooms" jwr f fd):FnOk P w K mg base (CXE P w) 7 f fd ["thing","signs"] (spF K mg 2 XJ):=
 q9 F sc_are_rooms (qk rfl) λb9 A outer s H vs Q E hr h=>have nd:=sc_are_rooms.nd;qw rfl
  (jK (qj (QW.pt (vJ (qQ (v8 (j4 (vw (vv 0) T.b_isinstance T.b_list Jw rfl)))) (xk (qQ (kky QZ (xJ (g:=λa b=>decide (a<=b))) QZ (xJ (g:=λa b=>decide (a<=b))) ki (j4 (qL (vv 0) T.b_len)) (j4 (q_C (Ww T.c_MOST_ROOMS) (λ_=>zV))) Qw))))) (jv (jX (q_C qZ (λ_=>qz)))) kZ) (jK (qj (qQ (v8 (j4 (Kv (Vz K) W4 (j4 (qM .rt 1 [] 3 ["room"] (zJ (cv 0)) (λ_ _ _ _ _=>(qC bd hr (j5 (cv 0) jW))))) T.b_all Vk)))) (jv (jX (q_C qZ (λ_=>qz)))) kZ) (jK (qj (qV vv7 (xJ (g:=λa b=>decide (b<a))) (j4 (Kv (vju K) vwt (j4 (qM .rt 1 [] 3 ["room"] (zJ (cv 0)) (λ_ _ _ _ _=>(qL (kx (vv 0) ki) T.b_len)))) T.b_sum vwm)) (j4 (q_C (Ww T.c_MOST_STEPS) (λ_=>zV))) (kK _) Qw) (jv (jX (q_C qZ (λ_=>qz)))) kZ) (jK (qA nd (qM .rt 1 [] 3 ["room"] (zJ (cv 0)) (λ_ _ _ _ _=>(k9 (kx (vv 0) ki))))) (jv (jX (Kv (Vz K) W4 (j4 (qM .rt 1 [1,2] 3 ["room","signs","keepers"] (zJ (cv 0)) (λ_ _ _ _ _=>(qC ck hr (j5 (k9 (kx (vv 0) ki)) (j5 (k9 (kx (vv 0) ki)) (j5 (cv 1) (j5 (cv 2) jW)))))))) T.b_all Vk))))))) h
theorem kq2(T:Txt K mg)(ab:YZ P w K mg base)(ce:kjn P w K mg base)(cj:kjo P w K mg base)(F:Fun K "is_machine" "is_machine" jvx f fd):FnOk P w K mg base (CXE P w) 8 f fd ["thing"] (spF K mg 1 Jk):=
 q9 F kkr (qk rfl) λb9 A outer s H vs Q E hr h=>qw rfl
  (jv (jX (xz (j4 (qC ab hr (j5 (cv 0) (j5 kI jW)))) (xz (j4 (qC ce hr (j5 (k9 (kx (vv 0) ki)) jW))) (z9 (qC cj hr (j5 (k9 (kx (vv 0) ki)) (j5 (k9 (kx (vv 0) ki)) jW)))))))) h
theorem kk1(T:Txt K mg)  (F:Fun K "copied_room" "copied_room" jvl f fd):FnOk P w K mg base (CXE P w) 1 f fd ["room"] (spF K mg 1 ZZ):=
 q9 F kjy (qk rfl) λb9 A outer s H vs Q E hr h=>qw rfl
  (jv (jX (zK (o:=.dp) (q:=false) (j5 (QE.weak (k9 (kx (vv 0) ki))) (j5 (QE.weak (k9 (kx (vv 0) ki))) (j5 (QE.weak (WQ (Z4 (jzn K) kqn (kx (vv 0) ki) T.b_list Jw))) qze)))))) h
theorem jxo(T:Txt K mg)(aq:jwc P w K mg base)(bp:jxd P w K mg base)(F:Fun K "copied_machine" "copied_machine" jqg f fd):FnOk P w K mg base (CXE P w) 9 f fd ["thing"] (spF K mg 1 W7):=
 q9 F jxi (qk rfl) λb9 A outer s H vs Q E hr h=>qw rfl
  (jK (qj (qQ (v8 (j4 (qC aq hr (j5 (cv 0) jW))))) (jv vqe) kZ) (jv (jX (zK (o:=.dp) (q:=false) (j5 (QE.weak (WQ (Z4 (jzn K) kqn (kx (vv 0) ki) T.b_list Jw))) (j5 (QE.weak (qM .dp 1 [] 1 ["room"] (zJ (k9 (kx (vv 0) ki))) (λ_ _ _ _ _=>(WQ (qC bp hr (j5 (cv 0) jW)))))) qze)))))) h
theorem kj5(T:Txt K mg)  (F:Fun K "_law_cell_at" "_law_cell_at" jv5 f fd):FnOk P w K mg base (CXE P w) 1 f fd ["_law_script","_law_k"] (spF K mg 2 m__law_cell_at):=
 q9 F jzs (qk rfl) λb9 A outer s H vs Q E hr h=>qw rfl
  (jK (qj (qV qzz (xJ (g:=λa b=>decide (a<b))) (vv 1) (j4 (qL (vv 0) T.b_len)) (kK _) Qw) (jv (jX (k9 (kx (vv 0) (vv 1))))) kZ) (jv (jX kI))) h
theorem kq6(T:Txt K mg)  (F:Fun K "_law_mixed" "_law_mixed" jw1 f fd):FnOk P w K mg base (CXE P w) 1 f fd ["_law_cell","_law_k"] (spF K mg 2 m__law_mixed):=
 q9 F sc__law_mixed (qk rfl) λb9 A outer s H vs Q E hr h=>have nd:=sc__law_mixed.nd;qw rfl
  (jK (qj (qV (xw hr.units) xQ (j4 (oM (vv 0) ki)) ki (kK _) Jx) (jv (jX (vx wj vY (vv 0) (j4 (vx vv4 vwu ki (j4 (oX ki (vv 1)))))))) kZ) (jK (qA nd (oM (j4 (oX (j4 (oA (j4 (oA (j4 (oM (vv 0) ki)) (j4 (oX ki (vv 1))))) ki)) ki)) ki)) (jK (qA nd (oM (j4 (oX (vv 2) (vv 2))) ki)) (jv (jX (oM (j4 (oA (j4 (oX (vv 2) (vv 2))) (j4 (oX ki (vv 1))))) ki)))))) h
theorem kq3(T:Txt K mg)(ae:jv2 P w K mg base)(F:Fun K "_law_words" "_law_words" jvy f fd):FnOk P w K mg base (CXE P w) 2 f fd ["_law_cell","_law_many"] (spF K mg 2 m__law_words):=
 q9 F sc__law_words (qk rfl) λb9 A outer s H vs Q E hr h=>have nd:=sc__law_words.nd;qw rfl
  (jK (qA nd kS) (jK (qA nd (vqf qxa (j4 (qM .rt 1 [2,0] 9 ["_law_j","_law_letters","_law_cell"] (JQ ki rfl T.b_range) (λ_ _ _ _ _=>(k9 (kx (vv 1) (j4 (oM (j4 (qC ae hr (j5 (cv 2) (j5 (cv 0) jW)))) ki))))))))) (jK (qj (qV (xw hr.units) xQ (j4 (oM (vv 0) ki)) ki (kK _) Jx) (jv (jX (qM .rt 1 [3,0] 9 ["_law_k","_law_word","_law_cell"] (JQ (vv 1) rfl T.b_range) (λ_ _ _ _ _=>(vx8 (vv 1) vqc (W3 (j4 (oA ki (j4 (oM (j4 (oA (vv 0) (j4 (vx wj vY (vv 2) ki)))) ki)))))))))) kZ) (jK (qA nd (oA ki (j4 (oM (j4 (vx wj vY (vv 0) ki)) ki)))) (jK (qA nd (oM (j4 (vx wj vY (vv 0) ki)) (vv 4))) (jK (qA nd (Vv (o:=.rt) jW)) (jK (qF (JQ (vv 1) rfl T.b_range) (gN nd) (jK (qA nd (oM (j4 (oA (j4 (vqg (vv 2) (kx (vv 3) (vv 5)))) (j4 (oX (vv 7) (j4 (oA ki (j4 (oM (j4 (vx wj vY (vv 0) ki)) ki)))))))) ki)) (jv (qP (oA (j4 (oA (j4 (vx8 (vv 3) vqc (W3 (vv 5)))) (kx (vv 2) (vv 8)))) (j4 (vx8 (vv 3) (W3 (j4 (oA (vv 5) ki))) (W3 (vv 4))))))))) (jv (jX (q_mv (pv 6))))))))))) h
theorem kq4(T:Txt K mg)  (F:Fun K "_law_whole" "_law_whole" jvz f fd):FnOk P w K mg base (CXE P w) 1 f fd ["_law_found"] (spF K mg 1 m__law_whole):=
 q9 F kks (qk rfl) λb9 A outer s H vs Q E hr h=>qw rfl
  (jv (jX (xz (j4 (vw (vv 0) T.b_isinstance T.b_int qxp rfl)) (z9 (vqd (j4 (vw (vv 0) T.b_isinstance T.b_bool ZJ rfl))))))) h
theorem kq5(T:Txt K mg)(bv:jz1 P w K mg base)(F:Fun K "_law_signs" "_law_signs" jw0 f fd):FnOk P w K mg base (CXE P w) 3 f fd ["_law_cell"] (spF K mg 1 KY):=
 q9 F sc__law_signs (qk rfl) λb9 A outer s H vs Q E hr h=>have nd:=sc__law_signs.nd;qw rfl
  (jK (qj (qV (xw hr.units) xQ (j4 (oM (vv 0) ki)) ki (kK _) Jx) (jK (qA nd (Vv (o:=.rt) (j5 kS (j5 kS (j5 kS (j5 kS (j5 kS (j5 kS (j5 kS jW))))))))) (jv (jX (kva rfl rfl (j4 (Vv (o:=.rt) (j5 (k9 (kx (vv 1) (j4 (oM (j4 (vx wj vY (vv 0) ki)) ki)))) (j5 (k9 (kx (vv 1) (j4 (oM (j4 (vx wj vY (vv 0) ki)) ki)))) (j5 (k9 (kx (vv 1) (j4 (oM (j4 (vx wj vY (vv 0) ki)) ki)))) jW))))) T.b_sorted T.b_set)))) kZ) (jv (jX (Kv (kx0 rfl) qvd (j4 (qC bv hr (j5 (vx wj vY (vv 0) ki) (j5 (oA ki (j4 (oM (j4 (vx wj vY (vv 0) ki)) ki))) jW)))) T.b_sorted qv6)))) h
theorem kvo(T:Txt K mg)  (F:Fun K "_law_fill" "_law_fill" jwv f fd):FnOk P w K mg base (CXE P w) 1 f fd ["_law_number","_law_keepers"] (spF K mg 2 Z3):=
 q9 F kv4 (qk rfl) λb9 A outer s H vs Q E hr h=>qw rfl
  (jK (qj (QW.pt (vJ (qV (xw hr.units) xQ (j4 (oM (vv 0) ki)) ki (kK _) Jx) (xk (QW.pt (qkf (qV (xw hr.units) xQ (j4 (oM (vv 0) ki)) ki (kK _) Jx) (kwm (qV (xw hr.units) xQ (vv 1) ki (kK _) Jx))))))) (jv (jX kN)) kZ) (jK (qj (QW.pt (qkf (qV qzz (xJ (g:=λa b=>decide (a<b))) (j4 (oM (vv 0) ki)) ki (kK _) Qw) (kwm (qV vv7 (xJ (g:=λa b=>decide (b<a))) (vv 1) ki (kK _) Qw)))) (jv (jX (oM (j4 (vx wj vY (vv 0) ki)) (vv 1)))) kZ) (jv (jX kS)))) h
theorem kvm(T:Txt K mg)(ae:jv2 P w K mg base)(c9:kjs P w K mg base)(F:Fun K "_law_step" "_law_step" jwt f fd):FnOk P w K mg base (CXE P w) 2 f fd ["_law_cell","_law_signs_here","_law_here","_law_keepers"] (spF K mg 4 V9):=
 q9 F sc__law_step (qk rfl) λb9 A outer s H vs Q E hr h=>have nd:=sc__law_step.nd;qw rfl
  (jK (qA nd (qC ae hr (j5 (cv 0) (j5 kI jW)))) (jK (qA nd (oM (j4 (vx wj vY (vv 4) ki)) (j4 (qL (vv 3) T.b_len)))) (jK (qA nd (k9 (kx (j4 (oA (j4 (Vv (o:=.rt) (j5 kS (j5 kS (j5 kS jW))))) (j4 (qM .rt 1 [] 8 ["_law_k"] (JQ (kx (vv 3) (vv 2)) rfl T.b_range) (λ_ _ _ _ _=>(cv 0)))))) (j4 (oM (j4 (vx wj vY (vv 4) ki)) (j4 (oA ki (kx (vv 3) (vv 2))))))))) (jK (qA nd (qT (j4 (qM .rt 1 [4,3,2] 8 ["_law_k","_law_m","_law_keepers","_law_here"] (JQ (kx (vv 3) (vv 5)) rfl T.b_range) (λ_ _ _ _ _=>(qC c9 hr (j5 (vx wj vY (vv 1) (kx (j4 (Vv (o:=.rt) (j5 kI (j5 kI (j5 kI jW))))) (vv 0))) (j5 (k9 (kx (vv 2) (vv 3))) jW)))))) T.b_tuple)) (jv (jX (zK (o:=.no) (j5 (k9 (kx (vv 1) (j4 (oM (vv 4) (j4 (qL (vv 1) T.b_len)))))) (j5 (cv 6) (j5 (cv 5) (j5 (cv 7) jW))))))))))) h
theorem kj3(T:Txt K mg)(ae:jv2 P w K mg base)(bw:jz3 P w K mg base)(au:jwn P w K mg base)(cb:kjq P w K mg base)(F:Fun K "_law_machine" "_law_machine" jv3 f fd):FnOk P w K mg base (CXE P w) 4 f fd ["_law_script","_law_start"] (spF K mg 2 QY):=
 q9 F sc__law_machine (qk rfl) λb9 A outer s H vs Q E hr h=>have nd:=sc__law_machine.nd;qw rfl
  (jK (qA nd (qC ae hr (j5 (qC au hr (j5 (cv 0) (j5 kI jW))) (j5 kI jW)))) (jK (qA nd (qC bw hr (j5 (qC au hr (j5 (cv 0) (j5 kI jW))) jW))) (jK (qA nd (oA ki (j4 (oM (vv 2) ki)))) (jK (qj (qV (xw hr.units) xQ (j4 (oM (j4 (vx wj vY (vv 2) ki)) ki)) ki (kK _) Jx) (jv (qA nd (oA ki (j4 (oM (j4 (vx wj vY (vv 2) ki)) ki))))) kZ) (jK (qA nd (qM .rt 1 [0] 10 ["_law_k","_law_script"] (JQ (vv 4) rfl T.b_range) (λ_ _ _ _ _=>(oM (j4 (qC ae hr (j5 (qC au hr (j5 (cv 1) (j5 kI jW))) (j5 (cv 0) jW)))) ki)))) (jK (qA nd (qM .dp 1 [] 10 ["_law_k"] (JQ (vv 4) rfl T.b_range) (λ_ _ _ _ _=>(Vv (o:=.dp) jW)))) (jK (qF (zJ (vx8 (vv 0) (W3 (vv 1)) (W3 (j4 (oA (vv 1) ki))))) (gN nd) (jK (qA nd (oM (j4 (qC ae hr (j5 (cv 7) (j5 kI jW)))) (vv 4))) (jK (qx5 (i:=6) (vv 8) (qC cb hr (j5 (cv 7) (j5 (cv 3) (j5 (cv 8) (j5 (cv 5) jW))))) (pv 6) (λ_ _=>rfl) rfl kj7) (jv (qj (QW.pt (qkf (qV (xw hr.units) xQ (j4 (oM (j4 (vx wj vY (vv 2) ki)) ki)) ki (kK _) Jx) (kwm (qV (xw hr.units) xQ (j4 (oM (vv 7) ki)) ki (kK _) Jx)))) (jv (qx5 (i:=6) (vv 8) (k9 (kx (kx (vv 6) (vv 8)) ki)) (pv 6) (λ_ _=>rfl) rfl kj7)) kZ))))) (jK (qA nd (qM .rt 1 [0] 10 ["_law_k","_law_script"] (JQ (vv 4) rfl T.b_range) (λ_ _ _ _ _=>(KK (xw hr.units) xQ (j4 (oM (j4 (qC ae hr (j5 (qC au hr (j5 (cv 1) (j5 kI jW))) (j5 (cv 0) jW)))) ki)) ki (kK _))))) (jv (q_fz (i:=6) (jX (zK (o:=.no) (j5 (cv 3) (j5 (qM .rt 1 [5,9,6] 10 ["_law_k","_law_keepers","_law_goods","_law_steps"] (JQ (vv 4) rfl T.b_range) (λ_ _ _ _ _=>(zK (o:=.no) (j5 (k9 (kx (vv 1) (vv 0))) (j5 (k9 (kx (vv 2) (vv 0))) (j5 (k9 (kx (vv 3) (vv 0))) jW)))))) jW)))))))))))))) h
theorem kvp(T:Txt K mg)  (F:Fun K "_law_copy" "_law_copy" jww f fd):FnOk P w K mg base (CXE P w) 1 f fd ["_law_machine_here"] (spF K mg 1 W1):=
 q9 F kv5 (qk rfl) λb9 A outer s H vs Q E hr h=>qw rfl
  (jv (jX (zK (o:=.dp) (q:=false) (j5 (QE.weak (WQ (Z4 (jzn K) kqn (kx (vv 0) ki) T.b_list Jw))) (j5 (QE.weak (qm .dp 3 [] 1 ["_law_keepers","_law_good","_law_steps"] (zJ (k9 (kx (vv 0) ki))) (λhN _ _ _ _ _=>(vx9 (is:=[0,1,2]) (Z6 K (t:=gNs [0,1,2]) (n:=3) (xV (V8 (i:=0) hN rfl (by first|exact Or.inl rfl|exact Or.inr rfl)) (xV (V8 (i:=1) hN rfl (by first|exact Or.inl rfl|exact Or.inr rfl)) (xV (V8 (i:=2) hN rfl (by first|exact Or.inl rfl|exact Or.inr rfl)) kj0)))))) (λ_ _ _ _ _=>vqb) (λ_ _ _ _ _=>(zK (o:=.dp) (j5 (cv 0) (j5 (cv 1) (j5 (WQ (Z4 (jzn K) kqn (vv 2) T.b_list Jw)) jW))))))) qze))))) h
theorem jxp(T:Txt K mg)  (F:Fun K "_law_same_step" "_law_same_step" jqh f fd):FnOk P w K mg base (CXE P w) 1 f fd ["_law_found","_law_due"] (spF K mg 2 YY):=
 q9 F sc__law_same_step (qk rfl) λb9 A outer s H vs Q E hr h=>have nd:=sc__law_same_step.nd;qw rfl
  (jK (qj (QW.pt (vJ (qQ (v8 (j4 (vw (vv 0) T.b_isinstance T.b_tuple V7 rfl)))) (vJ (qV (zw hr.units) xY (vv 0) (vv 1) (kK _) xZ) (xk (qQ (v8 (j4 (vw (kx (vv 0) ki) T.b_isinstance T.b_tuple V7 rfl)))))))) (jv (jX (q_C qZ (λ_=>qz)))) kZ) (jK (qF (qvt (oA (j4 (zK (o:=.no) (j5 (k9 (kx (vv 0) ki)) (j5 (k9 (kx (vv 0) ki)) jW)))) (kx (vv 0) ki)) (oA (j4 (zK (o:=.no) (j5 (k9 (kx (vv 1) ki)) (j5 (k9 (kx (vv 1) ki)) jW)))) (kx (vv 1) ki)) rfl T.b_zip) (vx9 (is:=[2,3]) (Z6 K (t:=gNs [2,3]) (n:=2) (xV (gn nd) (xV (gn nd) kj0)))) (jv (qj (QW.pt (vJ (v8 (j4 (vw (vv 2) T.b_isinstance T.b_bool ZJ rfl))) (xk (qV (zw hr.units) xY (j4 (vw (vv 2) T.b_isinstance T.b_str kzi rfl)) (j4 (vw (vv 3) T.b_isinstance T.b_str kzi rfl)) (kK _) xZ)))) (jv (jX (q_C qZ (λ_=>qz)))) kZ))) (jv (jX (q_C qZ (λ_=>qz)))))) h
theorem kvn(T:Txt K mg)(bu:jz2 P w K mg base)(ba:jvu P w K mg base)(F:Fun K "_law_same" "_law_same" jwu f fd):FnOk P w K mg base (CXE P w) 2 f fd ["_law_found","_law_due"] (spF K mg 2 Qz):=
 q9 F sc__law_same (qk rfl) λb9 A outer s H vs Q E hr h=>have nd:=sc__law_same.nd;qw rfl
  (jK (qj (QW.pt (vJ (qQ (v8 (j4 (vw (vv 0) T.b_isinstance T.b_tuple V7 rfl)))) (vJ (qV (zw hr.units) xY (j4 (qL (vv 0) T.b_len)) ki (kK _) xZ) (vJ (qQ (v8 (j4 (vw (kx (vv 0) ki) T.b_isinstance T.b_list Jw rfl)))) (xk (qV (zw hr.units) xY (kx (vv 0) ki) (kx (vv 1) ki) (kK _) xZ)))))) (jv (jX (q_C qZ (λ_=>qz)))) kZ) (jK (qj (QW.pt (vJ (qQ (v8 (j4 (vw (kx (vv 0) ki) T.b_isinstance T.b_list Jw rfl)))) (xk (qV (zw hr.units) xY (j4 (qL (kx (vv 0) ki) T.b_len)) (j4 (qL (kx (vv 1) ki) T.b_len)) (kK _) xZ)))) (jv (jX (q_C qZ (λ_=>qz)))) kZ) (jK (qF (qkh (k9 (kx (vv 0) ki)) (k9 (kx (vv 1) ki)) rfl T.b_zip) (vx9 (is:=[2,3]) (Z6 K (t:=gNs [2,3]) (n:=2) (xV (gn nd) (xV (gn nd) kj0)))) (jK (qj (QW.pt (vJ (qQ (v8 (j4 (vw (vv 2) T.b_isinstance T.b_tuple V7 rfl)))) (vJ (qV (zw hr.units) xY (j4 (qL (vv 2) T.b_len)) ki (kK _) xZ) (vJ (qQ (v8 (j4 (qC bu hr (j5 (k9 (kx (vv 2) ki)) jW))))) (xk (qV (zw hr.units) xY (kx (vv 2) ki) (kx (vv 3) ki) (kK _) xZ)))))) (jv (jX (q_C qZ (λ_=>qz)))) kZ) (jK (qj (QW.pt (vJ (qQ (v8 (j4 (vw (kx (vv 2) ki) T.b_isinstance T.b_bool ZJ rfl)))) (vJ (qV (zw hr.units) xY (kx (vv 2) ki) (kx (vv 3) ki) (kK _) xZ) (xk (qQ (v8 (j4 (vw (kx (vv 2) ki) T.b_isinstance T.b_list Jw rfl)))))))) (jv (jX (q_C qZ (λ_=>qz)))) kZ) (jK (qj (qV (zw hr.units) xY (j4 (qL (kx (vv 2) ki) T.b_len)) (j4 (qL (kx (vv 3) ki) T.b_len)) (kK _) xZ) (jv (jX (q_C qZ (λ_=>qz)))) kZ) (jv (qF (qkh (k9 (kx (vv 2) ki)) (k9 (kx (vv 3) ki)) rfl T.b_zip) (vx9 (is:=[4,5]) (Z6 K (t:=gNs [4,5]) (n:=2) (xV (gn nd) (xV (gn nd) kj0)))) (jv (qj (qQ (v8 (j4 (qC ba hr (j5 (cv 4) (j5 (cv 5) jW)))))) (jv (jX (q_C qZ (λ_=>qz)))) kZ)))))))) (jv (jX (q_C qZ (λ_=>qz))))))) h
theorem kj4(T:Txt K mg)  (F:Fun K "_law_emptied" "_law_emptied" jv4 f fd):FnOk P w K mg base (CXE P w) 1 f fd ["_law_machine_here"] (spM K mg 0 V3):=
 q9 F sc__law_emptied (qz4 rfl) λb9 A outer s H vs Q E hr h=>have nd:=sc__law_emptied.nd;vjl rfl
  (jK (qzc (i:=0) (r1:=1) (r2:=2) (r3:=3) (p:=[1]) (vv2 ⟨_,_,rfl,rfl⟩) rfl (kq0 1 (kwn K (pv 0)) (λ_ _=>rfl)) (Z6 K (t:=gNs [1,2,3]) (n:=3) (xV (gn nd) (xV (gn nd) (xV (gn nd) kj0)))) (pv 3) rfl kq9) (jK (wjp (i:=0) (p:=[1]) (kq0 1 (kwn K (pv 0)) (λ_ _=>rfl)) rfl kq9) (jv (wjp (i:=0) (p:=[0]) (kq0 0 (kwn K (pv 0)) (λ_ _=>rfl)) rfl kq9)))) h
theorem vvf(T:Txt K mg)(bf:jwl P w K mg base)(ca:kjt P w K mg base)(ax:jvt P w K mg base)(az:jwm P w K mg base)(bb:kjr P w K mg base)(aq:jwc P w K mg base)(F:Fun K "law" "law" qz8 f fd):FnOk P w K mg base (CXE P w) 10 f fd ["_law_script"] (spF K mg 1 m_law):=
 q9 F sc_law (qk rfl) λb9 A outer s H vs Q E hr h=>have nd:=sc_law.nd;qw rfl
  (jK (qA nd (qC bf hr (j5 (cv 0) (j5 kI jW)))) (jK (qA nd (qC ca hr (j5 (cv 1) jW))) (jK (qj (QW.pt (vJ (qV vv8 vjz (j4 (Wq aq (hr.mono (by decide)) x6 (zY (vv 2) Q2))) (j4 (q_C qZ (λ_=>qz))) (kK _) vjx) (xk (qV (zw hr.units) xY (vv 2) (vv 1) (kK _) xZ)))) (jv (jX (q_C qZ (λ_=>qz)))) kZ) (jK (qA nd (qki ax (hr.mono (by decide)) x6 (zY (vv 2) Q2))) (jK (qj (QW.pt (vJ (qQ (v8 (j4 (Wq bb (hr.mono (by decide)) x6 (zY (vv 3) (zY (vv 1) Q2)))))) (xk (qV (zw hr.units) xY (vv 2) (vv 1) (kK _) xZ)))) (jv (jX (q_C qZ (λ_=>qz)))) kZ) (jK (qx6 (qkj (q:=false) (i:=3) az (hr.mono (by decide)) x6 (wjq (i:=3) (pv 3)))) (jK (qj (qQ (v8 (j4 (Wq bb (hr.mono (by decide)) x6 (zY (vv 2) (zY (vv 1) Q2)))))) (jv (jX (q_C qZ (λ_=>qz)))) kZ) (jK (qA nd (qki ax (hr.mono (by decide)) x6 (zY (vv 2) Q2))) (jK (qx6 (qkj (q:=false) (i:=2) az (hr.mono (by decide)) x6 (wjq (i:=2) (pv 2)))) (jv (jX (xz (j4 (Wq bb (hr.mono (by decide)) x6 (zY (vv 4) (zY (vv 1) Q2)))) (xz (j4 (KK vvb qxs (j4 (Wq aq (hr.mono (by decide)) x6 (zY (vv 4) Q2))) (j4 (q_C qZ (λ_=>qz))) (kK _))) (z9 (KK vvb qxs (j4 (Wq aq (hr.mono (by decide)) x6 (zY (vv 2) Q2))) (j4 (q_C qZ (λ_=>qz))) (kK _)))))))))))))))) h
end
theorem all_mk{l:PySem.W.OpenLaw}{w:PySem.World}{K:PySem.W.Frag}{h:Heap}{mg:Str->Option Value}{fa:Addr}(X:K.In h)(G:h.Ns mainGlobals mg)(hfa:mg "law"=some (.ref fa)){fc cm d8 d9 cg d7:Value}
  (g0:Gf K "is_whole" jxj)
  (g1:Gf K "is_sign" jzu)
  (g2:Gf K "is_tuple_of" jvk)
  (g3:Gf K "are_signs" jwq)
  (g4:Gf K "is_one_of" jwo)
  (g5:Gf K "is_below" jxk)
  (g6:Gf K "is_fill" jzv)
  (g7:Gf K "are_fills" jws)
  (g8:Gf K "is_ask" kkt)
  (g9:Gf K "is_step" jzt)
  (g10:Gf K "are_steps" jwp)
  (g11:Gf K "is_room_frame" jqp)
  (g12:Gf K "are_rooms" jwr)
  (g13:Gf K "is_machine" jvx)
  (g14:Gf K "copied_room" jvl)
  (g15:Gf K "copied_machine" jqg)
  (g16:Gf K "_law_cell_at" jv5)
  (g17:Gf K "_law_mixed" jw1)
  (g18:Gf K "_law_words" jvy)
  (g19:Gf K "_law_whole" jvz)
  (g20:Gf K "_law_signs" jw0)
  (g21:Gf K "_law_fill" jwv)
  (g22:Gf K "_law_step" jwt)
  (g23:Gf K "_law_machine" jv3)
  (g24:Gf K "_law_copy" jww)
  (g25:Gf K "_law_same_step" jqh)
  (g26:Gf K "_law_same" jwu)
  (g27:Gf K "_law_emptied" jv4)
  (g28:Gf K "law" qz8)
  (q_LETTERS:PySem.W.nsIn K mainGlobals "LETTERS"=some (some fc)) (r_LETTERS:RelV (V.str "abcdefghijklmnopqrstuvwxyz") fc)
  (q_MOST_LETTERS:PySem.W.nsIn K mainGlobals "MOST_LETTERS"=some (some cm)) (r_MOST_LETTERS:RelV (V.int (8)) cm)
  (q_MOST_SIGNS:PySem.W.nsIn K mainGlobals "MOST_SIGNS"=some (some d8)) (r_MOST_SIGNS:RelV (V.int (3)) d8)
  (q_MOST_ROOMS:PySem.W.nsIn K mainGlobals "MOST_ROOMS"=some (some d9)) (r_MOST_ROOMS:RelV (V.int (12)) d9)
  (q_MOST_KEEPERS:PySem.W.nsIn K mainGlobals "MOST_KEEPERS"=some (some cg)) (r_MOST_KEEPERS:RelV (V.int (3)) cg)
  (q_MOST_STEPS:PySem.W.nsIn K mainGlobals "MOST_STEPS"=some (some d7)) (r_MOST_STEPS:RelV (V.int (120)) d7)
  (z_all:PySem.W.nsIn K mainGlobals "all"=some none)
  (z_bool:PySem.W.nsIn K mainGlobals "bool"=some none)
  (z_int:PySem.W.nsIn K mainGlobals "int"=some none)
  (z_isinstance:PySem.W.nsIn K mainGlobals "isinstance"=some none)
  (z_len:PySem.W.nsIn K mainGlobals "len"=some none)
  (z_list:PySem.W.nsIn K mainGlobals "list"=some none)
  (z_range:PySem.W.nsIn K mainGlobals "range"=some none)
  (z_set:PySem.W.nsIn K mainGlobals "set"=some none)
  (z_sorted:PySem.W.nsIn K mainGlobals "sorted"=some none)
  (z_str:PySem.W.nsIn K mainGlobals "str"=some none)
  (z_sum:PySem.W.nsIn K mainGlobals "sum"=some none)
  (z_tuple:PySem.W.nsIn K mainGlobals "tuple"=some none)
  (z_zip:PySem.W.nsIn K mainGlobals "zip"=some none)
  : ∃fd:FuncData,(∀(s:Shared) (v:Value),BindsTo s fd ⟨[v],[]⟩ [("_law_script",v)])/\∀base:Heap,K.In base->base.Ns mainGlobals mg->FnOk l.prog w K mg base (CXE l.prog w) 10 fa fd ["_law_script"] (spF K mg 1 m_law):=by
 have T:Txt K mg:=⟨Xu X G z_all,Xu X G z_bool,Xu X G z_int,Xu X G z_isinstance,Xu X G z_len,Xu X G z_list,Xu X G z_range,Xu X G z_set,Xu X G z_sorted,Xu X G z_str,Xu X G z_sum,Xu X G z_tuple,Xu X G z_zip,⟨_,Yy X G q_LETTERS,r_LETTERS⟩,⟨_,Yy X G q_MOST_LETTERS,r_MOST_LETTERS⟩,⟨_,Yy X G q_MOST_SIGNS,r_MOST_SIGNS⟩,⟨_,Yy X G q_MOST_ROOMS,r_MOST_ROOMS⟩,⟨_,Yy X G q_MOST_KEEPERS,r_MOST_KEEPERS⟩,⟨_,Yy X G q_MOST_STEPS,r_MOST_STEPS⟩⟩;refine g28.law X G hfa fun {base _ _} F=>?_
 have cy:kkl l.prog w K mg base:=g0.d X G (kws T );have dk:kwd l.prog w K mg base:=g1.d X G (qj1 T );have ab:YZ l.prog w K mg base:=g2.d X G (kk0 T );have ce:kjn l.prog w K mg base:=g3.d X G (kvj T dk);have ao:jvs l.prog w K mg base:=g4.d X G (kvh T );have aj:jvi l.prog w K mg base:=g5.d X G (kwt T cy);have dh:kwe l.prog w K mg base:=g6.d X G (qj2 T ao aj);have ci:kjp l.prog w K mg base:=g7.d X G (kvl T ab dh);have ek:kzk l.prog w K mg base:=g8.d X G (qkx T ao aj);have dg:kwc l.prog w K mg base:=g9.d X G (qj0 T ci ab ao ek aj);have ck:kjm l.prog w K mg base:=g10.d X G (kvi T dg);have bd:jwb l.prog w K mg base:=g11.d X G (jza T ab aj);have cj:kjo l.prog w K mg base:=g12.d X G (kvk T ck bd);have aq:jwc l.prog w K mg base:=g13.d X G (kq2 T ab ce cj);have bp:jxd l.prog w K mg base:=g14.d X G (kk1 T );have ax:jvt l.prog w K mg base:=g15.d X G (jxo T aq bp);have au:jwn l.prog w K mg base:=g16.d X G (kj5 T );have ae:jv2 l.prog w K mg base:=g17.d X G (kq6 T );have bv:jz1 l.prog w K mg base:=g18.d X G (kq3 T ae);have bu:jz2 l.prog w K mg base:=g19.d X G (kq4 T );have bw:jz3 l.prog w K mg base:=g20.d X G (kq5 T bv);have c9:kjs l.prog w K mg base:=g21.d X G (kvo T );have cb:kjq l.prog w K mg base:=g22.d X G (kvm T ae c9);have bf:jwl l.prog w K mg base:=g23.d X G (kj3 T ae bw au cb);have ca:kjt l.prog w K mg base:=g24.d X G (kvp T );have ba:jvu l.prog w K mg base:=g25.d X G (jxp T );have bb:kjr l.prog w K mg base:=g26.d X G (kvn T bu ba);have az:jwm l.prog w K mg base:=g27.d X G (kj4 T );exact vvf T bf ca ax az bb aq F
end Nk10
namespace PySem.W.Fast
theorem tw6475909806328159175:True:=⟨⟩
theorem tw16586185670184515345:True:=⟨⟩
theorem tw17570307078319909407:True:=⟨⟩
theorem tw576986934692201157:True:=⟨⟩
theorem tw417953091081870207:True:=⟨⟩
theorem tw11920540363406404162:True:=⟨⟩
theorem tw5904239985031523574:True:=⟨⟩
theorem tw7233047426076102576:True:=⟨⟩
theorem tw10664330274962085735:True:=⟨⟩
theorem tw4547628812252692815:True:=⟨⟩
theorem tw3314680958446253426:True:=⟨⟩
theorem tw3913736001728894479:True:=⟨⟩
theorem tw16047859490292564452:True:=⟨⟩
theorem tw8315418134131809975:True:=⟨⟩
theorem tw10979286020880500222:True:=⟨⟩
theorem tw4053568749328016028:True:=⟨⟩
theorem tw1072847064029219482:True:=⟨⟩
theorem tw12093285077582977057:True:=⟨⟩
theorem tw7365590041706353217:True:=⟨⟩
theorem tw13897603576835821217:True:=⟨⟩
theorem tw11383079528922712711:True:=⟨⟩
theorem tw14299089253387137613:True:=⟨⟩
theorem tw8694371097607018952:True:=⟨⟩
theorem tw7764631465859690977:True:=⟨⟩
theorem tw14694306865730962187:True:=⟨⟩
theorem tw6881819823078660618:True:=⟨⟩
theorem tw8251460530171984651:True:=⟨⟩
theorem tw1599133464951877182:True:=⟨⟩
theorem tw14007008711924952340:True:=⟨⟩
theorem tw12862182062677979645:True:=⟨⟩
theorem tw10026674262247501114:True:=⟨⟩
theorem tw7278345965912357143:True:=⟨⟩
theorem tw11634900955825674545:True:=⟨⟩
theorem tw6727620979942560570:True:=⟨⟩
theorem tw6455755099112647744:True:=⟨⟩
theorem tw10880263907946421802:True:=⟨⟩
theorem tw7960639702260002726:True:=⟨⟩
theorem tw5737668832161432664:True:=⟨⟩
theorem tw3350750556861402652:True:=⟨⟩
theorem tw12047022992022963742:True:=⟨⟩
theorem tw2266025679455586000:True:=⟨⟩
theorem tw14755129055577892272:True:=⟨⟩
theorem tw7022234116943647594:True:=⟨⟩
theorem tw708600116559919099:True:=⟨⟩
theorem tw15807361990609211374:True:=⟨⟩
theorem tw6291707106016985758:True:=⟨⟩
theorem tw15712506829042001654:True:=⟨⟩
theorem tw18225686355727693884:True:=⟨⟩
theorem tw2267284245687501512:True:=⟨⟩
theorem tw1285013739418034306:True:=⟨⟩
theorem tw8881840546476127086:True:=⟨⟩
theorem tw12088224891010713575:True:=⟨⟩
theorem tw11167550615502977233:True:=⟨⟩
theorem tw5064621089464864779:True:=⟨⟩
theorem tw10759293928209167217:True:=⟨⟩
theorem tw1983270380584063449:True:=⟨⟩
theorem tw15831193988942306541:True:=⟨⟩
theorem tw8571150164327872795:True:=⟨⟩
theorem tw10060187612695852325:True:=⟨⟩
theorem tw16040861825089009977:True:=⟨⟩
theorem tw5005667976413830243:True:=⟨⟩
theorem tw3562122066816701509:True:=⟨⟩
theorem tw17738200456828967733:True:=⟨⟩
theorem tw828880693976255522:True:=⟨⟩
theorem tw2104916164710888863:True:=⟨⟩
theorem tw9114843533203627070:True:=⟨⟩
theorem tw15827565003433444096:True:=⟨⟩
theorem tw7614319427042057410:True:=⟨⟩
theorem tw13046258127994417050:True:=⟨⟩
theorem tw1892851658279431535:True:=⟨⟩
theorem tw7941582110066741049:True:=⟨⟩
theorem tw3122441615756683687:True:=⟨⟩
theorem tw14472323414436146130:True:=⟨⟩
theorem tw5931521348305807788:True:=⟨⟩
theorem tw9376411400017156581:True:=⟨⟩
theorem tw13935572579446196038:True:=⟨⟩
theorem tw10146004375842391392:True:=⟨⟩
theorem tw17737200556330745945:True:=⟨⟩
theorem tw16079459385219111589:True:=⟨⟩
theorem tw17202260496432442455:True:=⟨⟩
theorem tw14098472775919562015:True:=⟨⟩
theorem tw7283461505936244041:True:=⟨⟩
end PySem.W.Fast
open PySem PySem.W PyProof.Rows
set_option maxRecDepth 100000 in
set_option maxHeartbeats 0 in
theorem PySem.Challenge.cw_freshrooms_k10_machines_copied_holds : PySem.Challenge.rw_freshrooms_k10_machines_copied.Holds := by
 w_on;o_law;k_head;(case hw=>w_witness2)
 k_fill
 refine Q.walkQ (l:=PySem.Challenge.rw_freshrooms_k10_machines_copied) (n:=63) (k:=10) (x:="_law_script") (f:=Nk10.m_law) rfl (by decide) rfl ⟨rfl,by decide,by decide,rfl⟩ (fun w h Y=>PySem.W.kIn_of Y) ?F Nk10.law_true
 case F =>
  intro w mg fa h KX G hmg
  refine' Nk10.all_mk KX G hmg ?_ ?_ ?_ ?_ ?_ ?_ ?_ ?_ ?_ ?_ ?_ ?_ ?_ ?_ ?_ ?_ ?_ ?_ ?_ ?_ ?_ ?_ ?_ ?_ ?_ ?_ ?_ ?_ ?_ ?q_LETTERS ?r_LETTERS ?q_MOST_LETTERS ?r_MOST_LETTERS ?q_MOST_SIGNS ?r_MOST_SIGNS ?q_MOST_ROOMS ?r_MOST_ROOMS ?q_MOST_KEEPERS ?r_MOST_KEEPERS ?q_MOST_STEPS ?r_MOST_STEPS ?z_all ?z_bool ?z_int ?z_isinstance ?z_len ?z_list ?z_range ?z_set ?z_sorted ?z_str ?z_sum ?z_tuple ?z_zip
  all_goals try (refine' Q.Gf.mk ?a ?b ?c ?d;(case a=>k_is);(case b=>k_is);(case c=>k_is);(case d=>k_is))
  (case q_LETTERS=>k_is)
  (case r_LETTERS=>exact ⟨_,rfl⟩)
  (case q_MOST_LETTERS=>k_is)
  (case r_MOST_LETTERS=>exact ⟨_,rfl⟩)
  (case q_MOST_SIGNS=>k_is)
  (case r_MOST_SIGNS=>exact ⟨_,rfl⟩)
  (case q_MOST_ROOMS=>k_is)
  (case r_MOST_ROOMS=>exact ⟨_,rfl⟩)
  (case q_MOST_KEEPERS=>k_is)
  (case r_MOST_KEEPERS=>exact ⟨_,rfl⟩)
  (case q_MOST_STEPS=>k_is)
  (case r_MOST_STEPS=>exact ⟨_,rfl⟩)
  (case z_all=>k_is)
  (case z_bool=>k_is)
  (case z_int=>k_is)
  (case z_isinstance=>k_is)
  (case z_len=>k_is)
  (case z_list=>k_is)
  (case z_range=>k_is)
  (case z_set=>k_is)
  (case z_sorted=>k_is)
  (case z_str=>k_is)
  (case z_sum=>k_is)
  (case z_tuple=>k_is)
  (case z_zip=>k_is)
