import PyProof.Rows.All
import Wide.All
import OpenK.AllK
import Wide.FinOn
import Lean
import PySem.Challenge.RW_freshrooms_k11_no_machines
set_option Elab.async false
set_option linter.all false
set_option bootstrap.genMatcherCode false
set_option compiler.extract_closed false
set_option maxRecDepth 100000
theorem Ŕq(_:True:=by rfl):True:=trivial
theorem Ŕq.z:True:=trivial
open Ŕq renaming _auto_1→Ŕ
theorem ŕq(_:True:=by decide):True:=trivial
theorem ŕq.z:True:=trivial
open ŕq renaming _auto_1→ŕ
theorem Ŗq(_:True:=by intro _;rfl):True:=trivial
theorem Ŗq.z:True:=trivial
open Ŗq renaming _auto_1→Ŗ
theorem ŗq(_:True:=by decide +kernel):True:=trivial
theorem ŗq.z:True:=trivial
open ŗq renaming _auto_1→ŗ
theorem Řq(_:True:=by first|exact .inl rfl|exact .inr rfl|assumption):True:=trivial
theorem Řq.z:True:=trivial
open Řq renaming _auto_1→Ř
theorem řq(_:True:=by first|exact Or.inl rfl|exact Or.inr (Or.inl rfl)|exact Or.inr (Or.inr rfl)):True:=trivial
theorem řq.z:True:=trivial
open řq renaming _auto_1→ř
theorem Śq(_:True:=by first|exact Or.inl rfl|exact Or.inr rfl):True:=trivial
theorem Śq.z:True:=trivial
open Śq renaming _auto_1→Ś
theorem oq9{α : Type _}{a b : α}(h:some a=some b):a=b:=Option.some.inj h
theorem lr9{α : Type _}{a : α}{b : List α}(c : List α)(h:a ∈ b):a ∈ c ++ b:=List.mem_append_right c h
theorem ll9{α : Type _}{a : α}{b : List α}(c : List α)(h:a ∈ b):a ∈ b ++ c:=List.mem_append_left c h
theorem lc9{α : Type _}{a : α}{l : List α}(b : α)(h:a ∈ l):a ∈ b::l:=List.mem_cons_of_mem b h
section
open PySem PySem.Spec PyProof.Rows
theorem X0:type_of% @wpAny_bind:=@wpAny_bind
theorem X1:type_of% @List.getElem?_eq_getElem:=@List.getElem?_eq_getElem
theorem X2:type_of% @Heap.get?_push_of_some:=@Heap.get?_push_of_some
theorem X3:type_of% @wpAny_pure:=@wpAny_pure
theorem X4:type_of% @List.length_map:=@List.length_map
theorem X5:type_of% @List.getD_eq_getElem?_getD:=@List.getD_eq_getElem?_getD
theorem X6:type_of% @List.mem_cons_self:=@List.mem_cons_self
theorem X7:type_of% @List.size_toArray:=@List.size_toArray
theorem X8:type_of% @List.nodup_append:=@List.nodup_append
theorem X9:type_of% @Int.emod_lt_of_pos:=@Int.emod_lt_of_pos
theorem Xa:type_of% @Array.length_toList:=@Array.length_toList
theorem Xb:type_of% @Heap.lt_size:=@Heap.lt_size
theorem Xd:type_of% @Heap.get?_push_size:=@Heap.get?_push_size
theorem Xe:type_of% @if_pos:=@if_pos
theorem Xf:type_of% @Int.emod_nonneg:=@Int.emod_nonneg
theorem Xg:type_of% @Nat.le_refl:=@Nat.le_refl
theorem Xh:type_of% @List.getElem?_map:=@List.getElem?_map
theorem Xi:type_of% @Nat.lt_of_lt_of_le:=@Nat.lt_of_lt_of_le
theorem Xj:type_of% @decide_eq_true:=@decide_eq_true
theorem Xk:type_of% @List.mem_map_of_mem:=@List.mem_map_of_mem
theorem Xl:type_of% @if_neg:=@if_neg
theorem Xm:type_of% @decide_eq_false:=@decide_eq_false
theorem Xn:type_of% @Nat.ne_of_lt:=@Nat.ne_of_lt
theorem Xp:type_of% @List.length_cons:=@List.length_cons
theorem Xq:type_of% @wpAny_newObj_type:=@wpAny_newObj_type
theorem Xr:type_of% @List.append_assoc:=@List.append_assoc
theorem Xs:type_of% @Nat.le_trans:=@Nat.le_trans
theorem Xu:type_of% @PySem.W.mg_of:=@PySem.W.mg_of
theorem Xv:type_of% @List.length_append:=@List.length_append
theorem Xw:type_of% @PySem.W.mg_none_of:=@PySem.W.mg_none_of
theorem Xx:type_of% @List.not_mem_nil:=@List.not_mem_nil
theorem Xy:type_of% @List.getElem_mem:=@List.getElem_mem
theorem Xz:type_of% @PySem.W.kia_one:=@PySem.W.kia_one
theorem Y0:type_of% @Heap.get?_update_self:=@Heap.get?_update_self
theorem Y1:type_of% @wpAny_holding:=@wpAny_holding
theorem Y2:type_of% @List.length_take:=@List.length_take
theorem Y3:type_of% @List.map_map:=@List.map_map
theorem Y4:type_of% @List.mem_cons:=@List.mem_cons
theorem Y5:type_of% @List.length_range:=@List.length_range
theorem Y6:type_of% @Int.toNat_natCast:=@Int.toNat_natCast
theorem Y7:type_of% @List.getElem?_set_ne:=@List.getElem?_set_ne
theorem Y8:type_of% @List.nodup_nil:=@List.nodup_nil
theorem Y9:type_of% @List.append_nil:=@List.append_nil
theorem Ya:type_of% @List.getElem?_set_self:=@List.getElem?_set_self
theorem Yb:type_of% @List.length_drop:=@List.length_drop
theorem Yc:type_of% @wpAny_call_entry:=@wpAny_call_entry
theorem Yd:type_of% @List.all_eq_true:=@List.all_eq_true
theorem Ye:type_of% @Heap.SameBut.update:=@Heap.SameBut.update
theorem Yf:type_of% @List.length_replicate:=@List.length_replicate
theorem Yg:type_of% @Nat.lt_irrefl:=@Nat.lt_irrefl
theorem Yh:type_of% @wpAny_truthy_bool:=@wpAny_truthy_bool
theorem Yi:type_of% @PySem.mem_of_lookup:=@PySem.mem_of_lookup
theorem Yj:type_of% @List.map_append:=@List.map_append
theorem Yk:type_of% @List.getElem?_eq_none:=@List.getElem?_eq_none
theorem Yl:type_of% @List.lookup_cons:=@List.lookup_cons
theorem Ym:type_of% @wpAny_setField:=@wpAny_setField
theorem Yn:type_of% @wpAny_callSpecial?_slot:=@wpAny_callSpecial?_slot
theorem Yo:type_of% @List.length_set:=@List.length_set
theorem Yp:type_of% @Heap.get?_update_ne:=@Heap.get?_update_ne
theorem Yq:type_of% @wpAny_Call_Name_kw:=@wpAny_Call_Name_kw
theorem Yr:type_of% @List.flatten_cons:=@List.flatten_cons
theorem Ys:type_of% @List.Sublist.refl:=@List.Sublist.refl
theorem Yt:type_of% @Nat.zero_le:=@Nat.zero_le
theorem Yu:type_of% @wpAny_setState_of:=@wpAny_setState_of
theorem Yv:type_of% @wpAny_askSetting:=@wpAny_askSetting
theorem Yw:type_of% @wpAny_field:=@wpAny_field
end
noncomputable section
namespace L2
open PySem PySem.Spec PyProof.Rows
abbrev Key:=Sum Int Str
def vwr:Key->Value->Bool
 |.inl k,v=>Value.isInt k v
 |.inr x,v=>Value.isStrOf x v
def keyH(w:World):Key->Int
 |.inl k=>hashInt k
 |.inr x=>hashStr w x
theorem KJ:∀{k:Key} {v:Value},vwr k v=true->(∃i t,k=Sum.inl i/\v=Value.int i t)\/(∃x t,k=Sum.inr x/\v=Value.str x t)
 |.inl i,v,h=>by
  obtain⟨t,e⟩:=Value.isInt_shape (k:=i) (v:=v) h;exact .inl ⟨i,t,rfl,e⟩
 |.inr x,v,h=>by
  obtain⟨t,e⟩:=Value.isStrOf_shape (x:=x) (v:=v) h;exact .inr ⟨x,t,rfl,e⟩
theorem vwq(a b:Int):decide ((Sum.inl a:Key)=Sum.inl b)=(a==b):=by
 by_cases e:a=b
 ·subst e;simp
 ·have h:¬(Sum.inl a:Key)=Sum.inl b:=λq=>e (Sum.inl.inj q)
  rw[Xm h];exact(beq_eq_false_iff_ne.mpr e).symm
theorem vwn(a b:Str):decide ((Sum.inr a:Key)=Sum.inr b)=decide (a=b):=by
 by_cases e:a=b
 ·subst e;simp
 ·have h:¬(Sum.inr a:Key)=Sum.inr b:=λq=>e (Sum.inr.inj q)
  rw[Xm h,Xm e]
theorem vwp(a:Int)(b:Str):decide ((Sum.inl a:Key)=Sum.inr b)=false:=Xm (λq=>nomatch q)
theorem vwo(a:Str)(b:Int):decide ((Sum.inr a:Key)=Sum.inl b)=false:=Xm (λq=>nomatch q)
noncomputable def kqa(prog:Program)(w:World):PySem.KeyKind prog w Key where
 is:=vwr
 hash:=keyH w
 inj:=λv a b ha hb=>by
  rcases KJ ha with⟨i,t,rfl,rfl⟩|⟨x,t,rfl,rfl⟩
  ·rcases KJ hb with⟨j,u,rfl,e⟩|⟨y,u,rfl,e⟩
   ·injection e with e1 _;rw[e1]
   ·exact nomatch e
  ·rcases KJ hb with⟨j,u,rfl,e⟩|⟨y,u,rfl,e⟩
   ·exact nomatch e
   ·injection e with e1 _;rw[e1]
 byValue:=λk v h=>by
  rcases KJ h with⟨i,t,rfl,rfl⟩|⟨x,t,rfl,rfl⟩<;>rfl
 pyHash:=λhv h=>by
  rcases KJ hv with⟨i,t,rfl,rfl⟩|⟨x,t,rfl,rfl⟩
  ·exact wpAny_pyHash_int h
  ·exact wpAny_pyHash_str h
 eqBool:=λhu hv h=>by
  rcases KJ hu with⟨i,t,rfl,rfl⟩|⟨x,t,rfl,rfl⟩
  ·rcases KJ hv with⟨j,u,rfl,rfl⟩|⟨y,u,rfl,rfl⟩
   ·rw[vwq]at h;exact wpAny_eqBool_int h
   ·rw[vwp]at h;exact SeqAt.EqAt.int_str i t y u _ _ _ _ h
  ·rcases KJ hv with⟨j,u,rfl,rfl⟩|⟨y,u,rfl,rfl⟩
   ·rw[vwo]at h;exact SeqAt.EqAt.str_int x t j u _ _ _ _ h
   ·rw[vwn]at h;exact wpAny_eqBool_str h
 «strs»:=λk x t v h=>by
  rcases KJ h with⟨i,u,rfl,e⟩|⟨y,u,rfl,e⟩
  ·exact nomatch e
  ·injection e with e1 _;subst e1;cases v<;>rfl
inductive V where
 |non|bl (b:Bool)|int (i:Int)|str (x:Str)|byt (b:Array UInt8)|flt (b:UInt64)|ref (a:Addr)|ty (n:String)
 deriving DecidableEq
noncomputable def RelV:V->Value->Prop
 |.non,u=>u=Value.none
 |.bl b,u=>u=Value.bool b
 |.int i,u=>∃t,u=Value.int i t
 |.str x,u=>∃t,u=Value.str x t
 |.byt b,u=>∃t,u=Value.bytes b t
 |.flt b,u=>∃t,u=Value.float b t
 |.ref a,u=>u=Value.ref a
 |.ty n,u=>u=Value.type n
abbrev Vals:List V->List Value->Prop:=Paired RelV
theorem Vals.length{xs:List V}{us:List Value}(r:Vals xs us):xs.length=us.length:=Paired.length r
theorem Vals.get:∀{xs:List V} {us:List Value} {i:Nat} {x:V},Vals xs us->xs[i]?=some x->∃u,us[i]?=some u/\RelV x u
 |_,_,_,_,.nil,e=>by simp at e
 |_,_,0,_,.cons r _,e=>by simp at e;subst e;exact⟨_,rfl,r⟩
 |_,_,i+1,x,.cons _ t,e=>by
  obtain⟨u,h1,h2⟩:=Vals.get (i:=i) (x:=x) t (by simpa using e);exact⟨u,by simpa using h1,h2⟩
theorem Vals.set{x:V}{u:Value}(r:RelV x u):∀{xs:List V} {us:List Value} (i:Nat),Vals xs us->Vals (xs.set i x) (us.set i u)
 |_,_,_,.nil=>.nil
 |_,_,0,.cons _ t=>.cons r t
 |_,_,i+1,.cons q t=>.cons q (Vals.set r i t)
theorem Vals.append:∀{xs ys:List V} {us ws:List Value},Vals xs us->Vals ys ws->Vals (xs++ys) (us++ws)
 |_,_,_,_,.nil,s=>s
 |_,_,_,_,.cons r t,s=>.cons r (Vals.append t s)
theorem Vals.take:∀{xs:List V} {us:List Value} (n:Nat),Vals xs us->Vals (xs.take n) (us.take n)
 |_,_,0,_=>.nil
 |_,_,_+1,.nil=>.nil
 |_,_,n+1,.cons r t=>.cons r (Vals.take n t)
theorem Vals.drop:∀{xs:List V} {us:List Value} (n:Nat),Vals xs us->Vals (xs.drop n) (us.drop n)
 |_,_,0,r=>r
 |_,_,_+1,.nil=>.nil
 |_,_,n+1,.cons _ t=>Vals.drop n t
def wkd:Option V->Option Value->Prop
 |some v,some u=>RelV v u
 |none,none=>True
 |_,_=>False
def KV{κ:Type}:List (κ×V)->List (κ×Value)->Prop:=Paired λ(p:κ×V) (q:κ×Value)=>p.1=q.1/\RelV p.2 q.2
def kV:Key->V
 |.inl i=>.int i
 |.inr x=>.str x
inductive HO where
 |lst (xs:List V)
 |tup (xs:List V)
 |dK (ay:List (Key×V))|dT (ay:List (List Key×V))
 |set (S:Int->Bool) (n:Nat)
 |ins (C dx:Addr) (fs:List (Str×V))
 |own (x:Addr)
 |xd (fs:List (Str×V))
 |met (f x:Addr)
 |rng (lo hi:Int)
 |frz (o:Obj) (u:HO)
 |tbl (ps:Array Value)
 |ext (φ:Heap->Prop)
abbrev Hp:=Addr->Option HO
noncomputable def IsTupD(h:Heap)(a:Addr)(items:Array Value):Prop:=∃o,h.get? a=some o/\o.cls=.type "tuple"/\o.dict=none/\∃n,o.data=.seq items n
theorem IsTupD.tup{h:Heap}{a:Addr}{items:Array Value}(p:IsTupD h a items):IsTup h a items:=by
 obtain⟨o,e,c,_,n,d⟩:=p;exact⟨o,e,c,n,d⟩
theorem IsTupD.new(h:Heap)(xs:Array Value):IsTupD (h.push { cls:=.type "tuple",data:=.seq xs }) h.objs.size xs:=⟨_,Xd _ rfl,rfl,rfl,0,rfl⟩
def upd(H:Hp)(a:Addr)(o:HO):Hp:=λb=>if b=a then some o else H b
theorem xJ{H:Hp}{a:Addr}{o:HO}:upd H a o a=some o:=by unfold upd;rw[Xe rfl]
theorem kJ{H:Hp}{a b:Addr}{o:HO}(h:b≠a):upd H a o b=H b:=by unfold upd;rw[Xl h]
theorem wv{H:Hp}{a b:Addr}{o:HO}(h:H a=some o)(h':H b=none):a≠b:=by
 intro e;subst e;rw[h]at h';cases h'
section
variable (P:Program)(w:World)
noncomputable def ObjOk(H : Hp)(h : Heap)(a : Addr): HO -> Prop
  |.lst xs=>xs.length<=sizeLine /\ ∃(ag : List Value) (n : Nat), Vals xs ag /\ h.get? a = some { cls:= .type "list", data:= .seq ag.toArray n }
  |.tup xs=>xs.length<=sizeLine /\ ∃ag : List Value, Vals xs ag /\ IsTupD h a ag.toArray
  |.dK ay=>ay.length<=sizeLine /\ (a==sysModules) = false /\ ∃vs, KV ay vs /\ h.DictOf (kqa P w) a vs
  |.dT ay=>ay.length<=sizeLine /\ (a==sysModules) = false /\ ∃xs : List (List Key × Addr × Value),
      Paired (λ(p : List Key × V) (q : List Key × Addr × Value)=>p.1 = q.1 /\ H q.2.1 = some (.tup (p.1.map kV)) /\ RelV p.2 q.2.2) ay xs /\
      ∃o es ep, h.get? a = some o /\ o.ExactDict /\ o.data = .dict es ep /\ es.toList = xs.map (entryOfKey (tupleKind (kqa P w))) /\ (xs.map (·.1)).Nodup
  |.set S n=>h.SetOf (intKind P w) a S n
  |.ins C dx fs=>H dx = some (.own a) /\ fs.length<=1000 /\ dx≠a /\ h.get? a = some (PySem.W.instObj C dx) /\
      ∃mA, h.Ns1 dx mA /\ (∀f, wkd (fs.lookup f) (mA f)) /\ PySem.Within mA (fs.map (·.1))
  |.own _=> ∃o, h.get? a = some o
  |.xd fs=> ∃mA, h.Ns1 a mA /\ ∀f, wkd (fs.lookup f) (mA f)
  |.rng lo hi=> ∃t u v, h.get? a = some { cls:= .type "range", data:= .fields #[.int lo t, .int hi u, .int 1 v] }
  |.frz o u=>h.get? a = some o /\ ObjOk H h a u
  |.tbl ps=>h.get? a = some { cls:= .none, data:= .fields ps }
  |.met f x=>h.get? a = some (PySem.W.methodObj (.ref f) (.ref x))
  |.ext φ=>φ h /\ (∃o, h.get? a = some o) /\ ∀h1 h2 : Heap, φ h1 -> (∀o, h1.get? a = some o -> h2.get? a = some o) -> φ h2
def HOk(H:Hp)(h:Heap):Prop:=∀a o,H a=some o->ObjOk P w H h a o
end
section
variable {P:Program}{w:World}{H H':Hp}{h h':Heap}{a:Addr}{o:HO}
theorem ObjOk.lt(x:ObjOk P w H h a o):a<h.objs.size:=by
 cases o with
 |lst xs=>obtain⟨_,_,_,_,e⟩:=x;exact Xb e
 |tup xs=>obtain⟨_,_,_,p⟩:=x;exact p.tup.lt
 |dK ay=>obtain⟨_,_,_,_,o,_,_,e,_⟩:=x;exact Xb e
 |dT ay=>obtain⟨_,_,_,_,o,_,_,e,_⟩:=x;exact Xb e
 |set S n=>obtain⟨o,_,_,_,e,_⟩:=x;exact Xb e
 |ins C dx fs=>obtain⟨_,_,_,e,_⟩:=x;exact Xb e
 |own y=>obtain⟨_,e⟩:=x;exact Xb e
 |xd fs=>obtain⟨_,⟨_,_,_,e,_⟩,_⟩:=x;exact Xb e
 |rng lo hi=>obtain⟨_,_,_,e⟩:=x;exact Xb e
 |frz ob u=>obtain⟨e,_⟩:=x;exact Xb e
 |tbl ps=>exact Xb (show h.get? a=some _ from x)
 |met f y=>exact Xb (show h.get? a=some _ from x)
 |ext φ=>obtain⟨_,⟨_,e⟩,_⟩:=x;exact Xb e
theorem Paired.mapP{α β:Type}{F G:α->β->Prop}:∀{l₁:List α} {l₂:List β},Paired F l₁ l₂->(∀a b,F a b->G a b)->Paired G l₁ l₂
 |_,_,.nil,_=>.nil
 |_,_,.cons r t,f=>.cons (f _ _ r) (Paired.mapP t f)
theorem ObjOk.stay(x:ObjOk P w H h a o)(k:∀b u,(b=a\/H b=some (.own a))->h.get? b=some u->h'.get? b=some u)
  (ho:∀b,H b=some (.own a)->H' b=some (.own a)) (ht:∀b xs,H b=some (.tup xs)->H' b=some (.tup xs)):ObjOk P w H' h' a o:=by
 induction o with
 |lst xs=>obtain⟨z,ag,n,r,e⟩:=x;exact⟨z,ag,n,r,k _ _ (.inl rfl) e⟩
 |tup xs=>obtain⟨z,ag,r,ob,e,c⟩:=x;exact⟨z,ag,r,ob,k _ _ (.inl rfl) e,c⟩
 |dK ay=>obtain⟨z,y,vs,r,ob,es,ep,e,c⟩:=x;exact⟨z,y,vs,r,ob,es,ep,k _ _ (.inl rfl) e,c⟩
 |dT ay=>
  obtain⟨z,y,xs,r,ob,es,ep,e,c⟩:=x;exact⟨z,y,xs,Paired.mapP r λp q z=>⟨z.1,ht _ _ z.2.1,z.2.2⟩,ob,es,ep,k _ _ (.inl rfl) e,c⟩
 |set S n=>obtain⟨ob,es,ep,t,e,c⟩:=x;exact⟨ob,es,ep,t,k _ _ (.inl rfl) e,c⟩
 |ins C dx fs=>
  obtain⟨d,z,ne,e,mA,⟨od,es,ep,e2,c⟩,r⟩:=x;exact⟨ho _ d,z,ne,k _ _ (.inl rfl) e,mA,⟨od,es,ep,k _ _ (.inr d) e2,c⟩,r⟩
 |own y=>obtain⟨ob,e⟩:=x;exact⟨ob,k _ _ (.inl rfl) e⟩
 |xd fs=>obtain⟨mA,⟨od,es,ep,e,c⟩,r⟩:=x;exact⟨mA,⟨od,es,ep,k _ _ (.inl rfl) e,c⟩,r⟩
 |rng lo hi=>obtain⟨t,u,v,e⟩:=x;exact⟨t,u,v,k _ _ (.inl rfl) e⟩
 |frz ob u ih=>obtain⟨e,q⟩:=x;exact⟨k _ _ (.inl rfl) e,ih q⟩
 |tbl ps=>
  have e:h.get? a=some { cls:=.none,data:=.fields ps }:=x;show h'.get? a=some { cls:=.none,data:=.fields ps };exact k a _ (.inl rfl) e
 |met f y=>
  have e:h.get? a=some (PySem.W.methodObj (.ref f) (.ref y)):=x;show h'.get? a=some (PySem.W.methodObj (.ref f) (.ref y));exact k a _ (.inl rfl) e
 |ext φ=>obtain⟨p,⟨o,e⟩,st⟩:=x;exact⟨st _ _ p λo q=>k _ _ (.inl rfl) q,⟨o,k _ _ (.inl rfl) e⟩,st⟩
theorem HOk.lt(x:HOk P w H h)(e:H a=some o):a<h.objs.size:=(x a o e).lt
theorem HOk.fresh(x:HOk P w H h)(e:h.objs.size<=a):H a=none:=by
 cases q:H a with
 |none=>rfl
 |some u=>exact absurd (Xi (x.lt q) e) (Yg _)
theorem HOk.kept(x:HOk P w H h)(k:∀b u,h.get? b=some u->h'.get? b=some u):HOk P w H h':=λa o e=>
 (x a o e).stay (λb u _ q=>k b u q) (λ_ q=>q) λ_ _ q=>q
theorem HOk.laid(x:HOk P w H h)(k:∀b u,h.get? b=some u->h'.get? b=some u)(hp:h.objs.size<=a)(new:ObjOk P w (upd H a o) h' a o):HOk P w (upd H a o) h':=λb u e=>by
 have hn:=x.fresh hp
 by_cases hb:b=a
 ·subst hb;rw[xJ]at e;cases e;exact new
 ·rw[kJ hb]at e;exact(x b u e).stay (λc v _ q=>k c v q) (λc q=>by rw[kJ (wv q hn)];exact q) λc xs q=>by rw[kJ (wv q hn)];exact q
end
def Rd(H:Hp)(a:Addr)(u:HO):Prop:=H a=some u\/∃o,H a=some (.frz o u)
theorem Rd.ok{P:Program}{w:World}{H:Hp}{h:Heap}{a:Addr}{u:HO}(r:Rd H a u)(x:HOk P w H h):ObjOk P w H h a u:=by
 rcases r with r|⟨o,r⟩
 ·exact x a u r
 ·obtain⟨_,q⟩:=x a _ r;exact q
noncomputable def Mut:Option HO->Prop
 |some (.lst _)=>True
 |some (.dK _)=>True
 |some (.dT _)=>True
 |some (.set _ _)=>True
 |some (.ins _ _ _)=>True
 |some (.ext _)=>True
 |_=>False
section
variable {P:Program}{w:World}{H:Hp}{h h':Heap}{x e:Addr}{o':HO}
theorem HOk.write(ok:HOk P w H h)(mu:Mut (H x))(he:e=x\/H e=some (.own x))(k:∀b u,b≠e->h.get? b=some u->h'.get? b=some u)(ly:∃u,h'.get? e=some u)
  (new:ObjOk P w (upd H x o') h' x o'):HOk P w (upd H x o') h':=λb u q=>by
 have og:∀c y,H c=some (.own y)->c≠x:=λc y r z=>by subst z;rw[r]at mu;exact mu
 have ntup:∀c xs,H c=some (.tup xs)->c≠x:=λc xs r z=>by subst z;rw[r]at mu;exact mu
 by_cases hb:b=x
 ·subst hb;rw[xJ]at q;cases q;exact new
 ·rw[kJ hb]at q
  by_cases hbe:b=e
  ·have q':H b=some (.own x):=by
    rcases he with z|z
    ·exact absurd (hbe.trans z) hb
    ·rw[hbe];exact z
   rw[q]at q';cases q';obtain⟨v,hv⟩:=ly;exact⟨v,by rw[hbe];exact hv⟩
  ·refine(ok b u q).stay (λc v hc r=>k c v ?_ r) (λc r=>by rw[kJ (og c b r)];exact r) λc xs r=>by rw[kJ (ntup c xs r)];exact r
   rcases hc with rfl|hc
   ·exact hbe
   ·rintro rfl;rcases he with z|z
    ·exact og c b hc z
    ·rw[hc]at z;cases z;exact hb rfl
end
structure Un (fs ex:List Addr)(H H':Hp)(h h':Heap):Prop where
 keep:∀b o,h.get? b=some o->H b=none->b∉fs->b∉ex->h'.get? b=some o
 slot:∀b o,h.get? b=some o->H b=none->b∈fs->b∉ex->∃sl,h'.get? b=some { o with slots:=sl }
 free:∀b o,h.get? b=some o->H b=none->b∉ex->H' b=none
 there:∀b o,h.get? b=some o->b∉ex->∃o',h'.get? b=some o'
 tups:∀b xs,H b=some (.tup xs)->H' b=some (.tup xs)
 frzs:∀b o u,H b=some (.frz o u)->H' b=some (.frz o u)
 tbls:∀b ps,H b=some (.tbl ps)->∃gf,H' b=some (.tbl (ps++gf))
section
variable {fs fs' ex ex':List Addr}{H H1 H2:Hp}{h h1 h2 h':Heap}{a x e:Addr}{o:HO}
theorem Un.any(u:Un fs ex H H1 h h1){b:Addr}{ob:Obj}(q:h.get? b=some ob)(n:H b=none)(hx:b∉ex):∃sl,h1.get? b=some { ob with slots:=sl }:=by
 by_cases hb:b∈fs
 ·exact u.slot b ob q n hb hx
 ·exact⟨ob.slots,u.keep b ob q n hb hx⟩
theorem Un.kept(k:∀b u,h.get? b=some u->h'.get? b=some u):Un fs ex H H h h':=
 ⟨λb ob q _ _ _=>k b ob q,λb ob q _ _ _=>⟨ob.slots,k b ob q⟩,λ_ _ _ n _=>n,λb ob q _=>⟨ob,k b ob q⟩,λ_ _ q=>q,λ_ _ _ q=>q,λ_ ps q=>⟨#[],by rw[q];simp⟩⟩
theorem Un.refl:Un fs ex H H h h:=Un.kept λ_ _ q=>q
theorem Un.laid(k:∀b u,h.get? b=some u->h'.get? b=some u)(hp:h.objs.size<=a)(hn:H a=none):Un fs ex H (upd H a o) h h' where
 keep:=λb u q _ _ _=>k b u q
 slot:=λb u q _ _ _=>⟨u.slots,k b u q⟩
 free:=λb u q n _=>by rw[kJ (Xn (Xi (Xb q) hp))];exact n
 there:=λb u q _=>⟨u,k b u q⟩
 tups:=λb xs q=>by rw[kJ (wv q hn)];exact q
 frzs:=λb u xs q=>by rw[kJ (wv q hn)];exact q
 tbls:=λb ps q=>⟨#[],by rw[kJ (wv q hn),q];simp⟩
theorem Un.write(mu:Mut (H x))(he:e=x\/H e=some (.own x))(k:∀b u,b≠e->h.get? b=some u->h'.get? b=some u)(ly:∃u,h'.get? e=some u):Un fs ex H (upd H x o) h h':=by
 have hx:∀b,H b=none->b≠x:=λb n z=>by subst z;rw[n]at mu;exact mu
 have hb:∀b,H b=none->b≠e:=λb n z=>by
  subst z;rcases he with r|r
  ·exact hx b n r
  ·rw[n]at r;cases r
 have hm:∀b u,H b=some u->¬Mut (some u)->b≠x:=λb u q nm z=>by subst z;rw[q]at mu;exact nm mu
 refine⟨λb u q n _ _=>k b u (hb b n) q,λb u q n _ _=>⟨u.slots,k b u (hb b n) q⟩,λb u q n _=>by rw[kJ (hx b n)];exact n,λb u q _=>?_,
  λb xs q=>by rw[kJ (hm b _ q λz=>z)];exact q,λb u xs q=>by rw[kJ (hm b _ q λz=>z)];exact q,λb ps q=>⟨#[],by rw[kJ (hm b _ q λz=>z),q];simp⟩⟩
 by_cases hbe:b=e
 ·subst hbe;exact ly
 ·exact⟨u,k b u hbe q⟩
end
def trk(h:Heap)(H:Hp):List Addr:=(List.range h.objs.size).filter λa=>(H a).isSome
def Kw(h:Heap)(H:Hp):Heap:=PySem.W.hideAll h (trk h H)
theorem qqv(h:Heap)(H:Hp):(Kw h H).objs.size=h.objs.size:=PySem.W.hideAll_size _ _
theorem qx6{h:Heap}{H:Hp}{b:Addr}{o:Obj}(e:h.get? b=some o)(n:H b=none):(Kw h H).get? b=some o:=
 PySem.W.hideAll_get _ e λhm=>by
  have q:(H b).isSome=true:=(List.mem_filter.mp hm).2;rw[n]at q;simp at q
theorem vk0{h:Heap}{H:Hp}{b:Addr}{o:Obj}(e:(Kw h H).get? b=some o):h.get? b=some o/\H b=none:=by
 have e':h.get? b=some o:=PySem.W.of_hideAll (trk h H) e;refine⟨e',?_⟩;cases q:H b with
 |none=>rfl
 |some x=>
  have hm:b∈trk h H:=List.mem_filter.mpr ⟨List.mem_range.mpr (Xb e'),by simp[q]⟩;have z:(Kw h H).get? b=none:=PySem.W.hideAll_none (trk h H) hm;rw[z]at e;cases e
noncomputable def vkv(g h:Heap)(L:Addr):List (Addr×Obj):=(List.range h.objs.size).filterMap λa=>if a=L\/(g.get? a).isSome=true then none else(h.get? a).map λo=>(a,o)
def jx(g h:Heap)(L d:Addr):List (Addr×Obj):=(vkv g h L).filter λp=>decide (p.1≠d)
structure Mod (K:PySem.W.Frag)(mg:Str->Option Value)(base:Heap):Prop where
 kin:K.In base
 glob:base.Ns mainGlobals mg
 blt:∃mb,base.Ns builtinsNs mb/\∀x:Str,x≠"__name__"->mb x=bootBuiltins x
 nolimit:base.NoLimit
structure Cx where
 prog:Program
 w:World
 K:PySem.W.Frag
 mg:Str->Option Value
 base:Heap
 A:Around
 N:List Str
 s₀:Shared
 H₀:Hp
 env:Env
 outer:List Env
 stack:List Env
 ex:List Addr
 fn:Str->Bool
 calm:Bool
 pn:List (Addr×Obj)
 xe:Value->Shared->Prop
def frs(l:List Env):List Addr:=l.filterMap (·.frame)
abbrev Cx.fs(X:Cx):List Addr:=frs X.outer
noncomputable def Vis(sc:Scope)(x:Str):Prop:=sc.names.lookup x=some .local\/sc.names.lookup x=some .cell\/sc.names.lookup x=some .free
def Loc(sc:Scope)(x:Str):Prop:=sc.names.lookup x=some .local\/sc.names.lookup x=some .cell
noncomputable def wqe(env:Env)(h:Heap)(m:Str->Option Value)(x:Str)(u:Value):Prop:=
 (env.kindOf x=some .local/\m x=some u)\/((env.kindOf x=some .cell\/env.kindOf x=some .free)/\∃c,env.cells.lookup x=some c/\h.IsCell c (some u))
structure Cx.Ok (X:Cx):Prop where
 mod:Mod X.K X.mg X.base
 kind:X.env.scope.kind=.function
 glob:X.env.globals=mainGlobals
 blt:X.env.builtins=builtinsNs
 above:X.s₀.heap.objs.size<=X.env.locals
 inj:∀x y c,X.env.cells.lookup x=some c->X.env.cells.lookup y=some c->x=y
 has:∀x,(X.env.kindOf x=some .cell\/X.env.kindOf x=some .free)->∃c,X.env.cells.lookup x=some c
 cab:∀x c,X.fn x=true->X.env.cells.lookup x=some c->X.s₀.heap.objs.size<=c
 hd:X.calm=true->X.A.handled=none
 frames:X.A.frames=some X.stack
 stk:X.stack=X.outer\/(X.stack=X.env::X.outer/\X.env.frame=some X.env.locals)
 exf:∀b∈X.ex,b≠X.env.locals/\∀x c,X.env.cells.lookup x=some c->c≠b
 bs:∀b o,X.base.get? b=some o->X.s₀.heap.get? b=some o/\X.H₀ b=none
 bsz:X.base.objs.size<=X.s₀.heap.objs.size
 noex:∀b o,X.base.get? b=some o->b∉X.ex
 exfs:∀b∈X.ex,b∉X.fs
 funs:X.s₀.heap.FunFrames X.base X.outer
 frf:∀b∈X.fs,X.H₀ b=none
structure Inv (X:Cx)(pins:List (Addr×Obj))(σ:List (Option V))(H:Hp)(s:Shared):Prop where
 ok:X.Ok
 os:s.os=X.s₀.os
 bare:AllBare s.gens
 base:Un X.fs X.ex X.H₀ H X.s₀.heap s.heap
 loc:∃m,s.heap.Ns X.env.locals m/\∀(i:Nat) (x:Str) (v:V),X.N[i]?=some x->σ[i]?=some (some v)->Vis X.env.scope x->∃u,RelV v u/\wqe X.env s.heap m x u
 cell:∀x c,X.env.cells.lookup x=some c->∃v,s.heap.IsCell c v
 free:H X.env.locals=none
 freeC:∀x c,X.env.cells.lookup x=some c->H c=none
 pin:∀p∈X.pn++pins,s.heap.get? p.1=some p.2/\H p.1=none/\p.1≠X.env.locals/\p.1∉X.fs/\∀v,p.2.data≠.cell v
 hok:HOk X.prog X.w H s.heap
 len:σ.length=X.N.length
section
variable {X:Cx}{pins:List (Addr×Obj)}{σ:List (Option V)}{H H':Hp}{s:Shared}{h':Heap}
theorem Cx.Ok.nofr(ok:X.Ok){b:Addr}{o:Obj}(e:X.base.get? b=some o):b∉X.fs:=λhb=>by
 have:=(ok.funs.mem hb).1;rw[e]at this;cases this
theorem Inv.bs(I:Inv X pins σ H s):∀b o,X.base.get? b=some o->s.heap.get? b=some o/\H b=none:=λb o e=>
 ⟨I.base.keep b o (I.ok.bs b o e).1 (I.ok.bs b o e).2 (I.ok.nofr e) (I.ok.noex b o e),I.base.free b o (I.ok.bs b o e).1 (I.ok.bs b o e).2 (I.ok.noex b o e)⟩
theorem Inv.bk(I:Inv X pins σ H s):∀b o,X.base.get? b=some o->s.heap.get? b=some o:=λb o e=>(I.bs b o e).1
theorem Inv.mod(I:Inv X pins σ H s):Mod X.K X.mg X.base:=I.ok.mod
theorem Inv.kIn(I:Inv X pins σ H s):X.K.In s.heap:=I.ok.mod.kin.keeps I.bk
theorem Inv.lt(I:Inv X pins σ H s):X.env.locals<s.heap.objs.size:=let ⟨_,hn,_⟩:=I.loc;hn.lt
theorem Inv.sz(I:Inv X pins σ H s):X.s₀.heap.objs.size<=s.heap.objs.size:=Xs I.ok.above (Nat.le_of_lt I.lt)
theorem Inv.nofs(I:Inv X pins σ H s){a:Addr}(h:s.heap.objs.size<=a):a∉X.fs:=λhb=>by
 obtain⟨_,o,ho,_⟩:=I.ok.funs.mem hb;exact absurd (Xi (Xb ho) (Xs I.sz h)) (Yg _)
theorem Inv.cne(I:Inv X pins σ H s):∀x c,X.env.cells.lookup x=some c->c≠X.env.locals:=λx c e z=>by
 obtain⟨v,o,ho,hd⟩:=I.cell x c e;obtain⟨m,⟨o',es,ep,f8,oi,_⟩,_⟩:=I.loc;rw[z,f8]at ho;cases ho;rw[oi]at hd;cases hd
theorem Inv.funs(I:Inv X pins σ H s):s.heap.FunFrames X.base X.outer:=by
 have all:∀(l:List Env),(∀b∈frs l,b∈X.fs)->X.s₀.heap.FunFrames X.base l->s.heap.FunFrames X.base l:=by
  intro l
  induction l with
  |nil=>intro _ _;trivial
  |cons env r ih=>
   intro hs hl;obtain⟨hk,⟨L,o,hf,hn,ho,hd⟩,hr⟩:=hl;have hL:L∈X.fs:=hs L (by unfold frs;rw[List.filterMap_cons,hf];exact X6);obtain⟨sl,e⟩:=I.base.slot L o ho (I.ok.frf L hL) hL λz=>I.ok.exfs L z hL
   exact⟨hk,⟨L,_,hf,hn,e,hd⟩,ih (λb hb=>hs b (by unfold frs;rw[List.filterMap_cons,hf];exact lc9 _ hb)) hr⟩
 exact all X.outer (λ_ hb=>hb) I.ok.funs
theorem Inv.stack(I:Inv X pins σ H s):s.heap.FunFrames X.base X.stack:=by
 rcases I.ok.stk with e|⟨e,hf⟩
 ·rw[e];exact I.funs
 ·rw[e];obtain⟨m,hn,_⟩:=I.loc;refine .cons (by rw[I.ok.kind];decide) hf hn ?_ I.funs;exact Heap.get?_none_of_le (Xs I.ok.bsz I.ok.above)
theorem Inv.stkSub(I:Inv X pins σ H s):∀b∈frs X.stack,b∈X.env.locals::X.fs:=λb hb=>by
 rcases I.ok.stk with e|⟨e,hf⟩
 ·rw[e]at hb;exact lc9 _ hb
 ·rw[e]at hb;unfold frs at hb;rw[List.filterMap_cons,hf]at hb;exact hb
theorem Inv.stkFree(I:Inv X pins σ H s):∀b∈frs X.stack,H b=none:=λb hb=>by
 rcases List.mem_cons.mp (I.stkSub b hb)with e|hb
 ·rw[e];exact I.free
 ·obtain⟨_,o,ho,_⟩:=I.ok.funs.mem hb;exact I.base.free b o ho (I.ok.frf b hb) λz=>I.ok.exfs b z hb
theorem Inv.step{g':Array GenState}{t':Nat}{d':Drawn}{ch:List Addr}(I:Inv X pins σ H s)
  (dw:∀b∈ch,(b∈X.ex\/X.s₀.heap.objs.size<=b)/\b≠X.env.locals/\(∀x c,X.env.cells.lookup x=some c->c≠b)/\∀p∈X.pn++pins,p.1≠b)
  (keep:∀b o,b≠X.env.locals->b∉X.fs->b∉ch->s.heap.get? b=some o->H b=none->h'.get? b=some o)
  (slot:∀b o,b≠X.env.locals->b∈X.fs->b∉ch->s.heap.get? b=some o->H b=none->∃sl,h'.get? b=some { o with slots:=sl }) (free:∀b o,b∉ch->s.heap.get? b=some o->H b=none->H' b=none)
  (there:∀b o,b∉ch->s.heap.get? b=some o->∃o',h'.get? b=some o')
  (tups:∀b xs,H b=some (.tup xs)->H' b=some (.tup xs)) (frzs:∀b o u,H b=some (.frz o u)->H' b=some (.frz o u)) (tbls:∀b ps,H b=some (.tbl ps)->∃gf,H' b=some (.tbl (ps++gf)))
  (ns:∀m,s.heap.Ns X.env.locals m->h'.Ns X.env.locals m) (hok:HOk X.prog X.w H' h') (hg:AllBare g'):
  Inv X pins σ H' { s with heap:=h',gens:=g',drawn:=d',toks:=t' }:=by
 have mt:∀b o,X.s₀.heap.get? b=some o->b≠X.env.locals:=λb o e=>Xn (Xi (Xb e) I.ok.above)
 have jf:∀b o,X.s₀.heap.get? b=some o->b∉X.ex->b∉ch:=λb o e hx hb=>by
  rcases(dw b hb).1 with z|z
  ·exact hx z
  ·exact absurd (Xi (Xb e) z) (Yg _)
 have fq:∀x c,X.env.cells.lookup x=some c->∀v,s.heap.IsCell c v->h'.IsCell c v:=λx c e v ⟨o,ho,hd⟩=>by
  have il:c∉ch:=λz=>(dw c z).2.2.1 x c e rfl
  by_cases hc:c∈X.fs
  ·obtain⟨sl,q⟩:=slot c o (I.cne x c e) hc il ho (I.freeC x c e);exact⟨_,q,hd⟩
  ·exact⟨o,keep c o (I.cne x c e) hc il ho (I.freeC x c e),hd⟩
 refine⟨I.ok,I.os,hg,⟨λb o e n hb hx=>?_,λb o e n hb hx=>?_,λb o e n hx=>?_,λb o e hx=>?_,λb xs e=>tups b xs (I.base.tups b xs e),λb o xs e=>frzs b o xs (I.base.frzs b o xs e),λb ps e=>?_⟩,?_,λx c e=>?_,?_,λx c e=>?_,λp hp=>?_,hok,I.len⟩
 ·exact keep b o (mt b o e) hb (jf b o e hx) (I.base.keep b o e n hb hx) (I.base.free b o e n hx)
 ·obtain⟨sl,e1⟩:=I.base.slot b o e n hb hx;obtain⟨sl',e2⟩:=slot b _ (mt b o e) hb (jf b o e hx) e1 (I.base.free b o e n hx);exact⟨sl',e2⟩
 ·obtain⟨o',e1⟩:=I.base.there b o e hx;exact free b o' (jf b o e hx) e1 (I.base.free b o e n hx)
 ·obtain⟨o',e1⟩:=I.base.there b o e hx;exact there b o' (jf b o e hx) e1
 ·obtain⟨m1,e1⟩:=I.base.tbls b ps e;obtain⟨m2,e2⟩:=tbls b _ e1;exact⟨m1++m2,by rw[e2,Array.append_assoc]⟩
 ·obtain⟨m,hn,hl⟩:=I.loc;refine⟨m,ns m hn,λi x v e1 e2 e3=>?_⟩;obtain⟨u,r,l⟩:=hl i x v e1 e2 e3;refine⟨u,r,?_⟩;rcases l with l|⟨k,c,e,z⟩
  ·exact .inl l
  ·exact .inr ⟨k,c,e,fq x c e _ z⟩
 ·obtain⟨v,z⟩:=I.cell x c e;exact⟨v,fq x c e v z⟩
 ·obtain⟨m,⟨o,_,_,ho,_⟩,_⟩:=I.loc;exact free _ o (λz=>(dw _ z).2.1 rfl) ho I.free
 ·obtain⟨v,o,ho,hd⟩:=I.cell x c e;exact free c o (λz=>(dw c z).2.2.1 x c e rfl) ho (I.freeC x c e)
 ·obtain⟨e,n,ne,nf,d⟩:=I.pin p hp;have il:p.1∉ch:=λz=>(dw p.1 z).2.2.2 p hp rfl
  exact⟨keep p.1 p.2 ne nf il e n,free p.1 p.2 il e n,ne,nf,d⟩
theorem Inv.un{t':Nat}(I:Inv X pins σ H s)(u:Un X.fs [] H H' s.heap h')(hok:HOk X.prog X.w H' h'):Inv X pins σ H' { s with heap:=h',toks:=t' }:=by
 obtain⟨m,⟨o,es,ep,ho,r⟩,_⟩:=id I.loc;obtain⟨sl,hL⟩:=u.any ho I.free (by simp);exact I.step (g':=s.gens) (d':=s.drawn) (ch:=[]) (λ_ z=>nomatch z) (λb o _ hb _ e n=>u.keep b o e n hb (by simp)) (λb o _ hb _ e n=>u.slot b o e n hb (by simp)) (λb o _ e n=>u.free b o e n (by simp)) (λb o _ e=>u.there b o e (by simp)) u.tups u.frzs u.tbls (λm' hm=>by
  obtain⟨o',es',n9,f8,r'⟩:=hm;rw[ho]at f8;cases f8;exact⟨_,es',n9,hL,r'⟩) hok I.bare
theorem Inv.call{g':Array GenState}{t':Nat}{d':Drawn}{ch:List Addr}(I:Inv X pins σ H s)(u:Un (frs X.stack) ch H H' s.heap h')(hok:HOk X.prog X.w H' h')(hg:AllBare g')
  (dw:∀b∈ch,(b∈X.ex\/X.s₀.heap.objs.size<=b)/\b≠X.env.locals/\(∀x c,X.env.cells.lookup x=some c->c≠b)/\∀p∈X.pn++pins,p.1≠b):
  Inv X pins σ H' { s with heap:=h',gens:=g',drawn:=d',toks:=t' }:=by
 obtain⟨m,⟨o,es,ep,ho,r⟩,_⟩:=id I.loc;obtain⟨sl,hL⟩:=u.any ho I.free λz=>(dw _ z).2.1 rfl
 exact I.step (ch:=ch) dw (λb o hL hb hc e n=>u.keep b o e n (λz=>(List.mem_cons.mp (I.stkSub b z)).elim hL hb) hc) (λb o _ _ hc e n=>u.any e n hc) (λb o hc e n=>u.free b o e n hc) (λb o hc e=>u.there b o e hc) u.tups u.frzs u.tbls (λm' hm=>by
  obtain⟨o',es',n9,f8,r'⟩:=hm;rw[ho]at f8;cases f8;exact⟨_,es',n9,hL,r'⟩) hok hg
theorem Inv.turned{t':Nat}{it:Addr}(I:Inv X pins σ H s)(k:∀b o,b≠it->s.heap.get? b=some o->h'.get? b=some o)(hn:H it=none)(hL:it≠X.env.locals)
  (h1:it∈X.ex\/X.s₀.heap.objs.size<=it) (h2:∀x c,X.env.cells.lookup x=some c->c≠it) (h3:∀p∈X.pn++pins,p.1≠it):Inv X pins σ H { s with heap:=h',toks:=t' }:=by
 have nit:∀b u,H b=some u->b≠it:=λb u e z=>by rw[z,hn]at e;cases e
 refine I.step (g':=s.gens) (d':=s.drawn) (ch:=[it]) (λb hb=>?_) (λb o _ _ hc e _=>k b o (λz=>hc (by simp[z])) e) (λb o _ _ hc e _=>⟨o.slots,k b o (λz=>hc (by simp[z])) e⟩) (λ_ _ _ _ n=>n)
  (λb o hc e=>⟨o,k b o (λz=>hc (by simp[z])) e⟩) (λ_ _ e=>e) (λ_ _ _ e=>e) (λb ps e=>⟨#[],by rw[e];simp⟩) (λm hm=>?_) (λb u e=>?_) I.bare
 ·have e:b=it:=by simpa using hb
  subst e;exact⟨h1,hL,h2,h3⟩
 ·obtain⟨o,es,ep,ho,r⟩:=hm;exact⟨o,es,ep,k _ o (Ne.symm hL) ho,r⟩
 ·refine(I.hok b u e).stay (λc v hc q=>k c v ?_ q) (λ_ q=>q) λ_ _ q=>q
  rcases hc with z|z
  ·rw[z];exact nit b u e
  ·exact nit c _ z
theorem Inv.tok(I:Inv X pins σ H s)(t:Nat):Inv X pins σ H { s with toks:=t }:=I.un (h':=s.heap) (t':=t) Un.refl I.hok
theorem Inv.kept{t':Nat}(I:Inv X pins σ H s)(k:∀b u,s.heap.get? b=some u->h'.get? b=some u):Inv X pins σ H { s with heap:=h',toks:=t' }:=I.un (Un.kept k) (I.hok.kept k)
theorem Inv.laid{a:Addr}{o:HO}{t':Nat}(I:Inv X pins σ H s)(k:∀b u,s.heap.get? b=some u->h'.get? b=some u)(hp:s.heap.objs.size<=a)(new:ObjOk X.prog X.w (upd H a o) h' a o):
  Inv X pins σ (upd H a o) { s with heap:=h',toks:=t' }:=I.un (Un.laid k hp (I.hok.fresh hp)) (I.hok.laid k hp new)
theorem Inv.write{x e:Addr}{o:HO}{t':Nat}(I:Inv X pins σ H s)(mu:Mut (H x))(he:e=x\/H e=some (.own x))(k:∀b u,b≠e->s.heap.get? b=some u->h'.get? b=some u)(ly:∃u,h'.get? e=some u)
  (new:ObjOk X.prog X.w (upd H x o) h' x o):Inv X pins σ (upd H x o) { s with heap:=h',toks:=t' }:=I.un (Un.write mu he k ly) (I.hok.write mu he k ly new)
theorem Inv.pins_of{d5:List (Addr×Obj)}(I:Inv X pins σ H s)(h:∀p∈d5,s.heap.get? p.1=some p.2/\H p.1=none/\p.1≠X.env.locals/\p.1∉X.fs/\∀v,p.2.data≠.cell v):Inv X d5 σ H s:=
 ⟨I.ok,I.os,I.bare,I.base,I.loc,I.cell,I.free,I.freeC,λp hp=>(List.mem_append.mp hp).elim (λz=>I.pin p (ll9 _ z)) (h p),I.hok,I.len⟩
theorem kq7{N:List Str}(hN:N.Nodup){i j:Nat}{x:Str}(a:N[i]?=some x)(b:N[j]?=some x):i=j:=by
 obtain⟨h1,e1⟩:=List.getElem?_eq_some_iff.mp a;obtain⟨h2,e2⟩:=List.getElem?_eq_some_iff.mp b;exact(List.getElem_inj hN).mp (e1.trans e2.symm)
theorem qk6{M:Model}{A:Around}{E:Value->Shared->Prop}{i:Nat}{x:Str}{v:V}{u:Value}{Q:Unit->Shared->Prop}(I:Inv X pins σ H s)(hN:X.N.Nodup)(hi:X.N[i]?=some x)(hx:Loc X.env.scope x)(r:RelV v u)
  (h:∀s',Inv X pins (σ.set i (some v)) H s'->(∃a,Heap.SameBut a s.heap s'.heap/\(a=X.env.locals\/X.env.cells.lookup x=some a))->Q () s') (hf:autoParam (X.fn x=true\/X.env.scope.names.lookup x=some .local) Ř):wpAny M A (storeName X.env x u) Q E s:=by
 obtain⟨m,hn,hl⟩:=id I.loc;have ko:(X.env.scope.kind == .class||(X.env.scope.kind == .module&&X.env.locals != X.env.globals))=false:=by rw[I.ok.kind];rfl
 have mz:i < σ.length:=by rw[I.len];exact(List.getElem?_eq_some_iff.mp hi).1
 have cne:=I.cne;have gq:∀{a:Addr} {h':Heap},(∃o,s.heap.get? a=some o/\H a=none)->Heap.SameBut a s.heap h'->HOk X.prog X.w H h':=fun {a h'} ha hs b ob e=>by
  obtain⟨_,_,c9⟩:=ha;refine(I.hok b ob e).stay (λc w' hc q=>(hs.2 c ?_).trans q) (λ_ q=>q) λ_ _ q=>q
  rintro rfl;rcases hc with rfl|hc
  ·rw[c9]at e;cases e
  ·rw[c9]at hc;cases hc
 rcases hx with hk|hk
 ·refine wpAny_storeName_local hk hn (λh' oh hs=>?_) ko;obtain⟨oL,_,_,mw,_⟩:=id hn;refine h _ ⟨I.ok,I.os,I.bare,⟨λb o e n hb hx=>?_,λb o e n hb hx=>?_,I.base.free,λb o e hx=>?_,I.base.tups,I.base.frzs,I.base.tbls⟩,⟨_,oh,λj y v' e1 e2 e3=>?_⟩,λy c e=>?_,I.free,I.freeC,λp hp=>?_,gq ⟨oL,mw,I.free⟩ hs,by simpa using I.len⟩ ⟨_,hs,.inl rfl⟩
  ·exact(hs.2 b (Xn (Xi (Xb e) I.ok.above))).trans (I.base.keep b o e n hb hx)
  ·obtain⟨sl,e1⟩:=I.base.slot b o e n hb hx;exact⟨sl,(hs.2 b (Xn (Xi (Xb e) I.ok.above))).trans e1⟩
  ·obtain⟨o',e1⟩:=I.base.there b o e hx;exact⟨o',(hs.2 b (Xn (Xi (Xb e) I.ok.above))).trans e1⟩
  ·by_cases hj:j=i
   ·subst hj;rw[hi]at e1;cases e1;rw[Ya mz]at e2;cases e2;exact⟨u,r,.inl ⟨hk,by simp⟩⟩
   ·rw[Y7 (Ne.symm hj)]at e2;obtain⟨u',r',q⟩:=hl j y v' e1 e2 e3;refine⟨u',r',?_⟩;rcases q with⟨k,e⟩|⟨k,c,e,z⟩
    ·refine .inl ⟨k,?_⟩;have:y≠x:=λe=>hj (kq7 hN e1 (e▸hi))
     simp[this,e]
    ·exact .inr ⟨k,c,e,z.sameBut hs (cne y c e)⟩
  ·obtain⟨w',z⟩:=I.cell y c e;exact⟨w',z.sameBut hs (cne y c e)⟩
  ·obtain⟨e,n,ne,nf,d⟩:=I.pin p hp;exact⟨(hs.2 p.1 ne).trans e,n,ne,nf,d⟩
 ·have hfn:X.fn x=true:=by
   rcases hf with z|z
   ·exact z
   ·rw[z]at hk;cases hk
  obtain⟨c,hc⟩:=I.ok.has x (.inl hk);obtain⟨w',z⟩:=I.cell x c hc;refine wpAny_storeName_cell I.ok.kind hk hc z (λh' jr hs=>?_);obtain⟨oc,hoc,hocd⟩:=id z;refine h { s with heap:=h' } ⟨I.ok,I.os,I.bare,⟨λb o e n hb hx=>?_,λb o e n hb hx=>?_,I.base.free,λb o e hx=>?_,I.base.tups,I.base.frzs,I.base.tbls⟩,⟨m,hn.sameBut hs (Ne.symm (cne x c hc)),λj y v' e1 e2 e3=>?_⟩,λy c' e=>?_,I.free,I.freeC,λp hp=>?_,gq ⟨oc,hoc,I.freeC x c hc⟩ hs,by simpa using I.len⟩ ⟨c,hs,.inr hc⟩
  ·exact(hs.2 b (Xn (Xi (Xb e) (I.ok.cab x c hfn hc)))).trans (I.base.keep b o e n hb hx)
  ·obtain⟨sl,e1⟩:=I.base.slot b o e n hb hx;exact⟨sl,(hs.2 b (Xn (Xi (Xb e) (I.ok.cab x c hfn hc)))).trans e1⟩
  ·obtain⟨o',e1⟩:=I.base.there b o e hx;exact⟨o',(hs.2 b (Xn (Xi (Xb e) (I.ok.cab x c hfn hc)))).trans e1⟩
  ·by_cases hj:j=i
   ·subst hj;rw[hi]at e1;cases e1;rw[Ya mz]at e2;cases e2;exact⟨u,r,.inr ⟨.inl hk,c,hc,jr⟩⟩
   ·rw[Y7 (Ne.symm hj)]at e2;obtain⟨u',r',q⟩:=hl j y v' e1 e2 e3;refine⟨u',r',?_⟩;rcases q with q|⟨k,c',e,z'⟩
    ·exact .inl q
    ·refine .inr ⟨k,c',e,z'.sameBut hs ?_⟩;rintro rfl;exact hj (kq7 hN e1 (I.ok.inj _ _ _ e hc▸hi))
  ·by_cases dl:c'=c
   ·subst dl;exact⟨_,jr⟩
   ·obtain⟨w2,z2⟩:=I.cell y c' e;exact⟨w2,z2.sameBut hs dl⟩
  ·obtain⟨e,n,ne,nf,d⟩:=I.pin p hp;refine⟨(hs.2 p.1 ?_).trans e,n,ne,nf,d⟩;intro q;rw[q,hoc]at e;have q':oc=p.2:=oq9 e;exact d w' (by rw[<-q'];exact hocd)
theorem jzo{M:Model}{A:Around}{E:Value->Shared->Prop}{i:Nat}{x:Str}{v:V}{u:Value}{Q:Unit->Shared->Prop}(I:Inv X pins σ H s)(hN:X.N.Nodup)(hi:X.N[i]?=some x)(hx:Loc X.env.scope x)(r:RelV v u)
  (h:∀s',Inv X pins (σ.set i (some v)) H s'->Q () s') (hf:autoParam (X.fn x=true\/X.env.scope.names.lookup x=some .local) Ř):wpAny M A (storeName X.env x u) Q E s:=
 qk6 I hN hi hx r (λs' I' _=>h s' I') hf
theorem Inv.call'{s':Shared}{ch:List Addr}(I:Inv X pins σ H s)(ho:s'.os=s.os)(u:Un (frs X.stack) ch H H' s.heap s'.heap)(hok:HOk X.prog X.w H' s'.heap)(hg:AllBare s'.gens)
  (dw:∀b∈ch,(b∈X.ex\/X.s₀.heap.objs.size<=b)/\b≠X.env.locals/\(∀x c,X.env.cells.lookup x=some c->c≠b)/\∀p∈X.pn++pins,p.1≠b):Inv X pins σ H' s':=by
 obtain⟨h',g',d',t',o'⟩:=s';have e:o'=s.os:=ho;subst e;exact I.call (g':=g') (t':=t') (d':=d') u hok hg dw
end
abbrev XK:=Value->Option Addr->Hp->Prop
abbrev St:=List (Option V)
abbrev VK:=V->Hp->Prop
abbrev TE:=St->Hp->VK->Prop
abbrev TT:=St->Hp->(Bool->Hp->Prop)->Prop
abbrev TA:=St->Hp->(List V->Hp->Prop)->Prop
structure Ends where
 nx:St->Hp->Prop
 rt:VK
 bk:St->Hp->Prop:=λ_ _=>False
 ct:St->Hp->Prop:=λ_ _=>False
abbrev TS:=Ends->St->Hp->Prop
noncomputable def EP(X:Cx)(pins:List (Addr×Obj))(σ:St)(Q:VK)(u:Value)(s':Shared):Prop:=∃v H',Inv X pins σ H' s'/\RelV v u/\Q v H'
noncomputable def TP(X:Cx)(pins:List (Addr×Obj))(σ:St)(Q:Bool->Hp->Prop)(b:Bool)(s':Shared):Prop:=∃H',Inv X pins σ H' s'/\Q b H'
noncomputable def AP(X:Cx)(pins:List (Addr×Obj))(σ:St)(Q:List V->Hp->Prop)(us:List Value)(s':Shared):Prop:=∃vs H',Inv X pins σ H' s'/\Vals vs us/\Q vs H'
noncomputable def SP(X:Cx)(pins:List (Addr×Obj))(D:Ends)(f:Flow)(s':Shared):Prop:=
 match f with
 |.next=>∃ σ' H',Inv X pins σ' H' s'/\D.nx σ' H'
 |.brk=>∃ σ' H',Inv X pins σ' H' s'/\D.bk σ' H'
 |.cont=>∃ σ' H',Inv X pins σ' H' s'/\D.ct σ' H'
 |.ret u=>∃v σ' H',Inv X pins σ' H' s'/\RelV v u/\D.rt v H'
noncomputable def PE(X:Cx)(e:Expr)(t:TE):Prop:=
 ∀(pins:List (Addr×Obj)) (s:Shared) (σ:St) (H:Hp) (Q:VK),Inv X pins σ H s->t σ H Q->wpAny (model X.prog X.w) X.A (eval e X.env) (EP X pins σ Q) X.xe s
noncomputable def PT(X:Cx)(e:Expr)(t:TT):Prop:=
 ∀(pins:List (Addr×Obj)) (s:Shared) (σ:St) (H:Hp) (Q:Bool->Hp->Prop),Inv X pins σ H s->t σ H Q->wpAny (model X.prog X.w) X.A (isTrue e X.env (eval e X.env)) (TP X pins σ Q) X.xe s
noncomputable def PW(X:Cx)(e:Expr)(t:TT):Prop:=
 ∀(dz:Sem Value) (pins:List (Addr×Obj)) (s:Shared) (σ:St) (H:Hp) (Q:Bool->Hp->Prop),Inv X pins σ H s->t σ H Q->wpAny (model X.prog X.w) X.A (isTrue e X.env dz) (TP X pins σ Q) X.xe s
theorem PW.pt{X:Cx}{e:Expr}{t:TT}(h:PW X e t):PT X e t:=h _
noncomputable def PA(X:Cx)(es:List Expr)(t:TA):Prop:=
 ∀(pos:Pos) (pins:List (Addr×Obj)) (s:Shared) (σ:St) (H:Hp) (Q:List V->Hp->Prop),Inv X pins σ H s->t σ H Q->wpAny (model X.prog X.w) X.A (spliced (backTo pos (starEach es X.env))) (AP X pins σ Q) X.xe s
noncomputable def PS(X:Cx)(st:Stmt)(t:TS):Prop:=
 ∀(pins:List (Addr×Obj)) (s:Shared) (σ:St) (H:Hp) (D:Ends),Inv X pins σ H s->t D σ H->wpAny (model X.prog X.w) X.A (exec st X.env) (SP X pins D) X.xe s
noncomputable def PSs(X:Cx)(st:List Stmt)(t:TS):Prop:=
 ∀(pins:List (Addr×Obj)) (s:Shared) (σ:St) (H:Hp) (D:Ends),Inv X pins σ H s->t D σ H->wpAny (model X.prog X.w) X.A (execs st X.env) (SP X pins D) X.xe s
theorem thn{α:Type}{t:Sem α}{Q Q':α->Shared->Prop}{M:Model}{A:Around}{E:Value->Shared->Prop}{s:Shared}(h:wpAny M A t Q E s)(hQ:∀a s,Q a s->Q' a s):wpAny M A t Q' E s:=wpAny_mono h hQ λ_ _ x=>x
section
variable {X:Cx}
abbrev Qj(i:Nat):TE:=fun σ H Q=>∃v,σ[i]?=some (some v)/\Q v H
abbrev tC(v:V):TE:=λ_ H Q=>Q v H
theorem vvr{i:Nat}{x:Str}{pos:Pos}(hN:X.N[i]?=some x)(hv:Vis X.env.scope x)(hd:autoParam ((x==("__debug__":Str))=false) ŕ)(fz:autoParam ((x==("__classdict__":Str))=false) ŕ):PE X (.Name x pos) (Qj i):=by
 intro pins s σ H Q I h;obtain⟨v,e,h⟩:=h;obtain⟨m,hn,hl⟩:=I.loc;obtain⟨u,r,l⟩:=hl i x v hN e hv;have fin:EP X pins σ Q u s:=⟨v,H,I,r,h⟩;rcases l with⟨hk,hm⟩|⟨hk,c,hc,hcell⟩
 ·exact wpAny_Name (wpAny_loadName_local I.ok.kind hk hn hm fin) hd
 ·rcases hk with hk|hk
  ·exact wpAny_Name (wpAny_loadName_cell I.ok.kind hk hc hcell fin) hd
  ·exact wpAny_Name (wpAny_loadName_free I.ok.kind hk hc hcell fin fz) hd
theorem vvx{i j pos}:PE X (.Constant (.int i) j pos) (tC (.int i)):=λ_ _ _ H _ I h=>wpAny_Constant_int ⟨.int i,H,I.tok _,⟨_,rfl⟩,h⟩
theorem vw{b j pos}:PE X (.Constant (.bool b) j pos) (tC (.bl b)):=λ_ _ _ H _ I h=>Constant_bool ⟨.bl b,H,I,rfl,h⟩
theorem vvt{j pos}:PE X (.Constant .none j pos) (tC .non):=λ_ _ _ H _ I h=>Constant_none ⟨.non,H,I,rfl,h⟩
theorem qkv{x j pos}:PE X (.Constant (.str x) j pos) (tC (.str x)):=λ_ _ _ H _ I h=>Calls.Constant_str ⟨.str x,H,I.tok _,⟨_,rfl⟩,h⟩
def Gl(X:Cx)(x:Str):Prop:=X.env.kindOf x=some .globalImplicit
theorem WQ{E:Value->Shared->Prop}{pins:List (Addr×Obj)}{s:Shared}{σ:St}{H:Hp}{x:Str}{u:Value}{pos:Pos}{Q:Value->Shared->Prop}(I:Inv X pins σ H s)(hg:Gl X x)(hm:X.mg x=some u)(h:Q u s)
  (hd:autoParam ((x==("__debug__":Str))=false) ŕ):wpAny (model X.prog X.w) X.A (eval (.Name x pos) X.env) Q E s:=
 Calls.Name_function_global I.ok.kind hg (Calls.loadGlobal_global (by rw[I.ok.glob];exact I.mod.glob.keeps I.bk) hm h) hd
theorem W3{E:Value->Shared->Prop}{pins:List (Addr×Obj)}{s:Shared}{σ:St}{H:Hp}{x:Str}{u:Value}{pos:Pos}{Q:Value->Shared->Prop}(I:Inv X pins σ H s)(hg:Gl X x)(hm:X.mg x=none)(hv:bootBuiltins x=some u)(h:Q u s)
  (hn:autoParam (x≠"__name__") ŕ) (hd:autoParam ((x==("__debug__":Str))=false) ŕ):wpAny (model X.prog X.w) X.A (eval (.Name x pos) X.env) Q E s:=by
 obtain⟨mb,h1,h2⟩:=I.mod.blt;exact Calls.Name_function_global I.ok.kind hg (Calls.loadGlobal_builtin (by rw[I.ok.glob];exact I.mod.glob.keeps I.bk) hm (by rw[I.ok.blt];exact h1.keeps I.bk) ((h2 x hn).trans hv) h) hd
theorem qkw{x:Str}{v:V}{u:Value}{pos:Pos}(hg:Gl X x)(hm:X.mg x=some u)(r:RelV v u)(hd:autoParam ((x==("__debug__":Str))=false) ŕ):PE X (.Name x pos) (tC v):=
 λ_ _ _ H _ I h=>WQ I hg hm ⟨v,H,I,r,h⟩ hd
theorem qky{x:Str}{v:V}{u:Value}{pos:Pos}(hg:Gl X x)(hm:X.mg x=none)(hv:bootBuiltins x=some u)(r:RelV v u)(hn:autoParam (x≠"__name__") ŕ)(hd:autoParam ((x==("__debug__":Str))=false) ŕ):PE X (.Name x pos) (tC v):=
 λ_ _ _ H _ I h=>W3 I hg hm hv ⟨v,H,I,r,h⟩ hn hd
variable {a b:Expr}{ta tb:TE}{pos:Pos}
variable {tA tB':TT}{jx:List Expr}
abbrev tAnd(t u:TT):TT:=fun σ H Q=>t σ H λc H1=>if c=true then u σ H1 Q else Q false H1
abbrev tOr(t u:TT):TT:=fun σ H Q=>t σ H λc H1=>if c=true then Q true H1 else u σ H1 Q
abbrev tNot(t:TT):TT:=fun σ H Q=>t σ H λc H1=>Q (!c) H1
theorem vjg(ha:PT X a tA):PW X (.BoolOp .And [a] pos) tA:=by
 intro wh pins s σ H Q I h;refine isTrue_and (thn (ha pins s σ H Q I h) λc s1 e=>?_);cases c with
 |true=>exact isTrue_and_nil e
 |false=>exact e
theorem vvf(ha:PT X a tA):PW X (.BoolOp .Or [a] pos) tA:=by
 intro wh pins s σ H Q I h;refine isTrue_or (thn (ha pins s σ H Q I h) λc s1 e=>?_);cases c with
 |false=>exact isTrue_or_nil e
 |true=>exact e
theorem vvg(ha:PT X a tA)(hb:PW X (.BoolOp .And (b::jx) pos) tB'):PW X (.BoolOp .And (a::b::jx) pos) (tAnd tA tB'):=by
 intro wh pins s σ H Q I h;refine isTrue_and (thn (ha pins s σ H _ I h) λc s1 ⟨H1,I1,q1⟩=>?_);cases c with
 |true=>exact hb wh pins s1 σ H1 Q I1 q1
 |false=>exact⟨H1,I1,q1⟩
theorem wj9(ha:PT X a tA)(hb:PW X (.BoolOp .Or (b::jx) pos) tB'):PW X (.BoolOp .Or (a::b::jx) pos) (tOr tA tB'):=by
 intro wh pins s σ H Q I h;refine isTrue_or (thn (ha pins s σ H _ I h) λc s1 ⟨H1,I1,q1⟩=>?_);cases c with
 |true=>exact⟨H1,I1,q1⟩
 |false=>exact hb wh pins s1 σ H1 Q I1 q1
theorem vvh(ha:PT X a tA):PT X (.UnaryOp .Not a pos) (tNot tA):=by
 intro pins s σ H Q I h;exact isTrue_not (ha pins s σ H (λc H1=>Q (!c) H1) I h)
abbrev vzn(ta tb:TE):TE:=fun σ H Q=>ta σ H λx H1=>∃c,x=.bl c/\if c=true then tb σ H1 Q else Q (.bl false) H1
abbrev tOrV(ta tb:TE):TE:=fun σ H Q=>ta σ H λx H1=>∃c,x=.bl c/\if c=true then Q (.bl true) H1 else tb σ H1 Q
theorem vvs{op}{t:TE}(h:PE X a t):PE X (.BoolOp op [a] pos) t:=λpins s σ H Q I hw=>BoolOp_one (h pins s σ H Q I hw)
theorem vw0(ha:PE X a ta)(hb:PE X (.BoolOp .And (b::jx) pos) tb):PE X (.BoolOp .And (a::b::jx) pos) (vzn ta tb):=by
 intro pins s σ H Q I h;refine BoolOp_and (thn (ha pins s σ H _ I h) λv s1 ⟨x,H1,I1,r1,q1⟩=>?_);obtain⟨c,rfl,q1⟩:=q1;cases r1;refine Yh ?_;cases c with
 |true=>exact hb pins s1 σ H1 Q I1 q1
 |false=>exact⟨.bl false,H1,I1,rfl,q1⟩
theorem wjd(ha:PE X a ta)(hb:PE X (.BoolOp .Or (b::jx) pos) tb):PE X (.BoolOp .Or (a::b::jx) pos) (tOrV ta tb):=by
 intro pins s σ H Q I h;refine BoolOp_or (thn (ha pins s σ H _ I h) λv s1 ⟨x,H1,I1,r1,q1⟩=>?_);obtain⟨c,rfl,q1⟩:=q1;cases r1;refine Yh ?_;cases c with
 |false=>exact hb pins s1 σ H1 Q I1 q1
 |true=>exact⟨.bl true,H1,I1,rfl,q1⟩
end
noncomputable def SqL(K:PySem.W.Frag)(H:Hp)(a:Addr)(xs:List V):Prop:=
 Rd H a (.lst xs) \/
  ∃(o:Obj) (ag:Array Value) (n:Nat),K.lookup a=some o/\o.cls=.type "list"/\o.dict=none/\o.data=.seq ag n/\ag.size<=sizeLine/\Vals xs ag.toList
noncomputable def SqT(K:PySem.W.Frag)(H:Hp)(a:Addr)(xs:List V):Prop:=
 Rd H a (.tup xs) \/
  ∃(o:Obj) (ag:Array Value) (n:Nat),K.lookup a=some o/\o.cls=.type "tuple"/\o.dict=none/\o.data=.seq ag n/\ag.size<=sizeLine/\Vals xs ag.toList
noncomputable def absV:Value->Option V
 |.none=>some .non
 |.bool b=>some (.bl b)
 |.int i _=>some (.int i)
 |.str x _=>some (.str x)
 |.bytes b _=>some (.byt b)
 |.float b _=>some (.flt b)
 |.ref a=>some (.ref a)
 |.type n=>some (.ty n)
 |_=>none
theorem RelV.abs{x:V}{u:Value}(r:RelV x u):absV u=some x:=by
 cases x with
 |non=>cases r;rfl
 |bl _=>cases r;rfl
 |int _=>obtain⟨t,rfl⟩:=r;rfl
 |str _=>obtain⟨t,rfl⟩:=r;rfl
 |byt _=>obtain⟨t,rfl⟩:=r;rfl
 |flt _=>obtain⟨t,rfl⟩:=r;rfl
 |ref _=>cases r;rfl
 |ty _=>cases r;rfl
theorem RelV.inj{x y:V}{u:Value}(r:RelV x u)(q:RelV y u):x=y:=oq9 (r.abs.symm.trans q.abs)
theorem Vals.inj:∀{xs ys:List V} {us:List Value},Vals xs us->Vals ys us->xs=ys
 |_,_,_,.nil,.nil=>rfl
 |_,_,_,.cons r t,.cons r' t'=>by rw[r.inj r',Vals.inj t t']
section
variable {X:Cx}{pins:List (Addr×Obj)}{σ:St}{H:Hp}{s:Shared}{a:Addr}{xs ys:List V}
theorem SqL.of{K:PySem.W.Frag}(h:H a=some (.lst xs)):SqL K H a xs:=.inl (.inl h)
theorem SqT.of{K:PySem.W.Frag}(h:H a=some (.tup xs)):SqT K H a xs:=.inl (.inl h)
theorem Inv.list(I:Inv X pins σ H s)(h:SqL X.K H a xs):∃ag:List Value,Vals xs ag/\PlainL s.heap a ag.toArray/\xs.length<=sizeLine:=by
 rcases h with h|⟨o,ag,n,hk,hc,hd,hs,hz,r⟩
 ·obtain⟨z,ag,n,r,e⟩:=h.ok I.hok;exact⟨ag,r,⟨_,n,e,rfl,rfl,rfl⟩,z⟩
 ·refine⟨ag.toList,r,⟨o,n,I.kIn a o hk,hc,hd,by simpa using hs⟩,?_⟩;have e:=r.length;simp only[Xa]at e;omega
theorem Inv.tuple(I:Inv X pins σ H s)(h:SqT X.K H a xs):∃ag:List Value,Vals xs ag/\IsTup s.heap a ag.toArray/\xs.length<=sizeLine:=by
 rcases h with h|⟨o,ag,n,hk,hc,_,hs,hz,r⟩
 ·obtain⟨z,ag,r,p⟩:=h.ok I.hok;exact⟨ag,r,p.tup,z⟩
 ·refine⟨ag.toList,r,⟨o,I.kIn a o hk,hc,n,by simpa using hs⟩,?_⟩;have e:=r.length;simp only[Xa]at e;omega
theorem Inv.list_inj(I:Inv X pins σ H s)(h:SqL X.K H a xs)(h':SqL X.K H a ys):xs=ys:=by
 obtain⟨ag,r,⟨o,n,e,_,_,d⟩,_⟩:=I.list h;obtain⟨its',r',⟨o',n',e',_,_,d'⟩,_⟩:=I.list h';rw[e]at e';cases e';rw[d]at d';injection d' with d1 _;have:ag=its':=by simpa using congrArg Array.toList d1
 subst this;exact r.inj r'
theorem Inv.tuple_inj(I:Inv X pins σ H s)(h:SqT X.K H a xs)(h':SqT X.K H a ys):xs=ys:=by
 obtain⟨ag,r,⟨o,e,_,n,d⟩,_⟩:=I.tuple h;obtain⟨its',r',⟨o',e',_,n',d'⟩,_⟩:=I.tuple h';rw[e]at e';cases e';rw[d]at d';injection d' with d1 _;have:ag=its':=by simpa using congrArg Array.toList d1
 subst this;exact r.inj r'
end
abbrev Cx.wish(X:Cx)(E:Value->Shared->Prop):Cx:={ X with xe:=E }
abbrev Cx.nox(X:Cx):Cx:=X.wish λ_ _=>False
theorem Cx.Ok.wish{X:Cx}(ok:X.Ok)(E:Value->Shared->Prop):(X.wish E).Ok:=
 ⟨ok.mod,ok.kind,ok.glob,ok.blt,ok.above,ok.inj,ok.has,ok.cab,ok.hd,ok.frames,ok.stk,ok.exf,ok.bs,ok.bsz,ok.noex,ok.exfs,ok.funs,ok.frf⟩
theorem Cx.Ok.unwish{X:Cx}{E:Value->Shared->Prop}(ok:(X.wish E).Ok):X.Ok:=
 ⟨ok.mod,ok.kind,ok.glob,ok.blt,ok.above,ok.inj,ok.has,ok.cab,ok.hd,ok.frames,ok.stk,ok.exf,ok.bs,ok.bsz,ok.noex,ok.exfs,ok.funs,ok.frf⟩
section
variable {X:Cx}{pins:List (Addr×Obj)}{σ:St}{H:Hp}{s:Shared}{E:Value->Shared->Prop}
theorem Inv.wish(I:Inv X pins σ H s)(E:Value->Shared->Prop):Inv (X.wish E) pins σ H s:=⟨I.ok.wish E,I.os,I.bare,I.base,I.loc,I.cell,I.free,I.freeC,I.pin,I.hok,I.len⟩
theorem Inv.unwish(I:Inv (X.wish E) pins σ H s):Inv X pins σ H s:=⟨I.ok.unwish,I.os,I.bare,I.base,I.loc,I.cell,I.free,I.freeC,I.pin,I.hok,I.len⟩
theorem SP.unwish{D:Ends}{f:Flow}{s':Shared}(h:SP (X.wish E) pins D f s'):SP X pins D f s':=by
 cases f with
 |next=>obtain⟨σ',H',I,q⟩:=h;exact⟨σ',H',I.unwish,q⟩
 |brk=>obtain⟨σ',H',I,q⟩:=h;exact⟨σ',H',I.unwish,q⟩
 |cont=>obtain⟨σ',H',I,q⟩:=h;exact⟨σ',H',I.unwish,q⟩
 |ret u=>obtain⟨v,σ',H',I,r,q⟩:=h;exact⟨v,σ',H',I.unwish,r,q⟩
end
section
variable {X:Cx}{st:Stmt}{jx:List Stmt}{t u:TS}{e:Expr}{te:TE}{pos:Pos}
abbrev vzm:TS:=λD σ H=>D.nx σ H
abbrev tSeq(t u:TS):TS:=λD σ H=>t { D with nx:=u D } σ H
theorem vjl:PSs X [] vzm:=λ_ _ σ H _ I h=>wpAny_execs_nil ⟨σ,H,I,h⟩
theorem qwp(h1:PS X st t)(h2:PSs X jx u):PSs X (st::jx) (tSeq t u):=by
 intro pins s σ H D I h;refine wpAny_execs_cons (thn (h1 pins s σ H { D with nx:=u D } I h) λf s1 q=>?_);cases f with
 |next=>
  obtain⟨σ',H',I',q⟩:=q;exact h2 pins s1 σ' H' D I' q
 |ret v=>exact q
 |brk=>exact q
 |cont=>exact q
theorem vjk(h1:PS X st t):PSs X [st] t:=by
 intro pins s σ H D I h;refine wpAny_execs_cons (thn (h1 pins s σ H D I h) λf s1 q=>?_);cases f with
 |next=>exact wpAny_execs_nil q
 |ret v=>exact q
 |brk=>exact q
 |cont=>exact q
theorem Inv.quiet{pins:List (Addr×Obj)}{σ:St}{H:Hp}{s:Shared}(I:Inv X pins σ H s):interactive X.env=false:=by simp[interactive,I.ok.kind]
abbrev vqg(te:TE):TS:=λD σ H=>te σ H λ_ H1=>D.nx σ H1
theorem qkp(he:PE X e te)(hs:autoParam (swapsWith e none pos.line X.env=pure false) Ŕ):PS X (.Expr e pos) (vqg te):=by
 intro pins s σ H D I h;exact wpAny_Expr_any (thn (he pins s σ H _ I h) λv s1 ⟨x,H1,I1,r1,q1⟩=>⟨σ,H1,I1,q1⟩) I.quiet hs
abbrev tRet(te:TE):TS:=λD σ H=>te σ H D.rt
theorem vvj(he:PE X e te):PS X (.Return (some e) pos) (tRet te):=by
 intro pins s σ H D I h;exact wpAny_Return_some (thn (he pins s σ H _ I h) λv s1 ⟨x,H1,I1,r1,q1⟩=>⟨x,σ,H1,I1,r1,q1⟩)
abbrev tIfS(c:TT)(t u:TS):TS:=λD σ H=>c σ H λb H1=>if b=true then t D σ H1 else u D σ H1
theorem wja{c:Expr}{a b:List Stmt}{tc:TT}(hc:PT X c tc)(ha:PSs X a t)(hb:PSs X b u):PS X (.If c a b pos) (tIfS tc t u):=by
 intro pins s σ H D I h;refine wpAny_If (thn (hc pins s σ H _ I h) λd s1 ⟨H1,I1,q1⟩=>?_);cases d with
 |true=>exact ha pins s1 σ H1 D I1 q1
 |false=>exact hb pins s1 σ H1 D I1 q1
end
abbrev TG:=V->St->Hp->(St->Hp->Prop)->Prop
abbrev TGs:=List V->St->Hp->(St->Hp->Prop)->Prop
noncomputable def PG(X:Cx)(dk:Expr)(t:TG):Prop:=
 ∀(pins:List (Addr×Obj)) (s:Shared) (σ:St) (H:Hp) (v:V) (u:Value) (Q:St->Hp->Prop),Inv X pins σ H s->RelV v u->t v σ H Q ->
  wpAny (model X.prog X.w) X.A (assign dk X.env u) (λ_ s'=>∃ σ' H',Inv X pins σ' H' s'/\Q σ' H') X.xe s
noncomputable def PGs(X:Cx)(ts:List Expr)(t:TGs):Prop:=
 ∀(pins:List (Addr×Obj)) (s:Shared) (σ:St) (H:Hp) (vs:List V) (us:List Value) (Q:St->Hp->Prop),Inv X pins σ H s->Vals vs us->t vs σ H Q ->
  wpAny (model X.prog X.w) X.A (assignInOrder ((assignEach ts X.env).map (·.2)) us) (λ_ s'=>∃ σ' H',Inv X pins σ' H' s'/\Q σ' H') X.xe s
abbrev wkc:=V->V->V->Hp->(Hp->Prop)->Prop
noncomputable def wqc(X:Cx)(t:wkc):Prop:=
 ∀(pins:List (Addr×Obj)) (s:Shared) (σ:St) (H:Hp) (o i v:V) (ov iv u:Value) (Q:Hp->Prop),Inv X pins σ H s->RelV o ov->RelV i iv->RelV v u->t o i v H Q ->
  wpAny (model X.prog X.w) X.A (setItem ov iv u) (λ_ s'=>∃H',Inv X pins σ H' s'/\Q H') X.xe s
section
variable {X:Cx}{pos:Pos}
abbrev WJ(i:Nat):TG:=λv σ H Q=>Q (σ.set i (some v)) H
theorem kwq{i:Nat}{x:Str}(hN:X.N.Nodup)(hi:X.N[i]?=some x)(hx:Loc X.env.scope x)(hf:autoParam (X.fn x=true\/X.env.scope.names.lookup x=some .local) Ř):PG X (.Name x pos) (WJ i):=by
 intro pins s σ H v u Q I r h;exact wpAny_assign_Name (jzo I hN hi hx r (λs' I'=>⟨_,H,I',h⟩) hf)
abbrev wq7:TGs:=λvs σ H Q=>vs=[]/\Q σ H
abbrev vx7(t:TG)(u:TGs):TGs:=λvs σ H Q=>∃v r,vs=v::r/\t v σ H fun σ' H'=>u r σ' H' Q
theorem kwp:PGs X [] wq7:=by
 intro pins s σ H vs us Q I r h;obtain⟨e,h⟩:=h;subst e;cases r;exact assignInOrder_nil ⟨σ,H,I,h⟩
theorem KY{e:Expr}{es:List Expr}{t:TG}{u:TGs}(h1:PG X e t)(h2:PGs X es u)
  (hs:autoParam ((assignEach (e::es) X.env).map (·.2)=assign e X.env::(assignEach es X.env).map (·.2)) Ŕ):PGs X (e::es) (vx7 t u):=by
 intro pins s σ H vs us Q I r h;obtain⟨v,vr,e1,h⟩:=h;subst e1;cases r with
 |cons r rr=>
  rw[hs];refine assignInOrder_cons (thn (h1 pins s σ H _ _ _ I r h) λ_ s1 ⟨σ1,H1,I1,q1⟩=>?_);exact h2 pins s1 σ1 H1 _ _ Q I1 rr q1
abbrev gSub(to ti:TE)(t:wkc):TG:=λv σ H Q=>to σ H λo H1=>ti σ H1 λi H2=>t o i v H2 λH3=>Q σ H3
theorem vvq{o i:Expr}{to ti:TE}{t:wkc}(ho:PE X o to)(hi:PE X i ti)(hs:wqc X t)
  (ha:autoParam (∀v,assign (.Subscript o i pos) X.env v=(do
   let ov <-holding [v] (eval o X.env)
   let iv <-holding [v,ov] (eval i X.env)
   standAt pos
   holding [v,ov,iv] (setItem ov iv v)
   release [v,ov,iv] [])) Ŗ):PG X (.Subscript o i pos) (gSub to ti t):=by
 intro pins s σ H v u Q I r h;rw[ha];refine X0 (Y1 (thn (ho pins s σ H _ I h) λov s1 ⟨x,H1,I1,r1,q1⟩=>?_));refine X0 (Y1 (thn (hi pins s1 σ H1 _ I1 q1) λiv s2 ⟨y,H2,I2,r2,q2⟩=>?_));refine X0 (wpAny_standAt (X0 (Y1 (thn (hs pins s2 σ H2 x y v ov iv u _ I2 r1 r2 r q2) λ_ s3 ⟨H3,I3,q3⟩=>?_))));exact wpAny_release ⟨σ,H3,I3,q3⟩
abbrev wkj(te:TE)(g:TG):TS:=λD σ H=>te σ H λx H1=>g x σ H1 D.nx
theorem qz3{tg e:Expr}{te:TE}{g:TG}(he:PE X e te)(hg:PG X tg g)(hs:autoParam (swapsWithSole [tg] e pos.line X.env=pure false) Ŕ)(hw:autoParam (swappedStores [tg] e X.env=pure none) Ŕ)
  (h1:autoParam ((assignEach [tg] X.env).map (·.2)=[assign tg X.env]) Ŕ):PS X (.Assign [tg] e pos) (wkj te g):=by
 intro pins s σ H D I h;refine wpAny_Assign_stores (thn (he pins s σ H _ I h) λv s1 ⟨x,H1,I1,r1,q1⟩=>?_) hs hw;rw[h1];exact thn (hg pins s1 σ H1 x v _ I1 r1 q1) λ_ s2 q=>q
theorem vvi{i:Nat}{x:Str}{e:Expr}{te:TE}{d4:Pos}(hN:X.N.Nodup)(hi:X.N[i]?=some x)(hx:Loc X.env.scope x)(he:PE X e te)(hs:autoParam (swapsWith e (some (.Name x d4)) pos.line X.env=pure false) Ŕ)(hf:autoParam (X.fn x=true\/X.env.scope.names.lookup x=some .local) Ř):
  PS X (.Assign [.Name x d4] e pos) (wkj te (WJ i)):=by
 intro pins s σ H D I h;refine wpAny_Assign_Name (thn (he pins s σ H _ I h) λv s1 ⟨y,H1,I1,r1,q1⟩=>?_) hs;exact jzo I1 hN hi hx r1 (λs2 I2=>⟨_,H1,I2,q1⟩) hf
end
structure It where
 go:Nat->Hp->Prop
 yld:Nat->Hp->V->Hp->Prop
 stop:Nat->Hp->Prop
noncomputable def vZ(X:Cx)(pins:List (Addr×Obj))(H:Hp)(b:Addr):Prop:=
 H b=none/\b≠X.env.locals/\b∉X.fs/\(b∈X.ex\/X.s₀.heap.objs.size<=b)/\(∀x c,X.env.cells.lookup x=some c->c≠b)/\∀p∈X.pn++pins,p.1≠b
theorem Inv.fpOk{X:Cx}{pins:List (Addr×Obj)}{σ:St}{H H':Hp}{s:Shared}{b:Addr}(I:Inv X pins σ H s)(hb:s.heap.objs.size<=b)(hn:H' b=none):vZ X pins H' b:=by
 refine⟨hn,Nat.ne_of_gt (Xi I.lt hb),I.nofs hb,.inr (Xs I.sz hb),λx c e z=>?_,λp hp z=>?_⟩
 ·obtain⟨v,q⟩:=I.cell x c e;exact absurd (Xi q.lt (by rw[z];exact hb)) (Yg _)
 ·exact absurd (Xi (Xb (I.pin p hp).1) (by rw[z];exact hb)) (Yg _)
structure Turn (P:Program)(w:World)(K:PySem.W.Frag)(tg:Expr)(J:It)(fp:List Addr)(it:Addr)(tn:Nat->Heap->Prop):Prop where
 mem:it∈fp
 obj:∀i h,tn i h->∀b∈fp,∃o,h.get? b=some o/\∀v,o.data≠.cell v
 keep:∀i h h',tn i h->(∀b∈fp,∀o,h.get? b=some o->h'.get? b=some o)->tn i h'
 item:∀(X:Cx),X.prog=P->X.w=w->X.K=K->X.calm=true->∀(i:Nat) (pins:List (Addr×Obj)) (s:Shared) (σ:St) (H:Hp) (E:Value->Shared->Prop),Inv X pins σ H s->(∀b∈fp,vZ X pins H b)->tn i s.heap->J.go i H ->
  wpAny (model P w) X.A (pyNext (.ref it)) (λr s1=>∃u,r=some u /\
   wpAny (model P w) X.A (letOwnedTupleGo tg (.ref it) u) (λ_ s2=>∃x H',Inv X pins σ H' s2/\RelV x u/\J.yld i H x H'/\tn (i+1) s2.heap/\∀b∈fp,H' b=none) E s1) E s
 done:∀(X:Cx),X.prog=P->X.w=w->X.K=K->X.calm=true->∀(i:Nat) (pins:List (Addr×Obj)) (s:Shared) (σ:St) (H:Hp) (E:Value->Shared->Prop),Inv X pins σ H s->(∀b∈fp,vZ X pins H b)->tn i s.heap->J.stop i H ->
  wpAny (model P w) X.A (pyNext (.ref it)) (λr s1=>r=none/\Inv X pins σ H s1) E s
 self:∀(A:Around) (i:Nat) (s:Shared) (Q:Value->Shared->Prop) (E:Value->Shared->Prop),tn i s.heap->Q (.ref it) s->wpAny (model P w) A (pyIter (.ref it)) Q E s
abbrev TI:=St->Hp->(It->Hp->Prop)->Prop
noncomputable def PIE(X:Cx)(pins:List (Addr×Obj))(σ:St)(tg:Expr)(R:It->Hp->Prop)(itv:Value)(s2:Shared):Prop:=
 ∃(it:Addr) (fp:List Addr) (tn:Nat->Heap->Prop) (J:It) (H':Hp),itv=.ref it/\Inv X pins σ H' s2/\Turn X.prog X.w X.K tg J fp it tn/\tn 0 s2.heap/\(∀b∈fp,vZ X pins H' b)/\R J H'
noncomputable def PI(X:Cx)(tg ba:Expr)(wi:TI):Prop:=
 ∀(pins:List (Addr×Obj)) (s:Shared) (σ:St) (H:Hp) (R:It->Hp->Prop),Inv X pins σ H s->wi σ H R ->
  wpAny (model X.prog X.w) X.A (eval ba X.env) (λv s1=>wpAny (model X.prog X.w) X.A (pyIter v) (PIE X pins σ tg R) X.xe s1) X.xe s
theorem qx8 {M : Model} {A : Around} {E : Value -> Shared -> Prop} {s : Shared} {tg : Expr} {it : Addr} {u : Value} {o : Obj} {n : String} {vs : Array Value} {Q : Unit -> Shared -> Prop} (ho : s.heap.get? it = some o) (hc : o.cls = .type n) (hd : o.data = .fields vs)
    (hn : ["enumerate", "zip", "dict_itemiterator", "dict_reverseitemiterator", "odict_iterator", "itertools.zip_longest", "itertools.pairwise"].contains n = false) (hQ : Q () s): wpAny M A (letOwnedTupleGo tg (.ref it) u) Q E s:= by
  unfold letOwnedTupleGo;cases tg <;> first
    |exact X3 hQ
    |(cases u <;> first
        |exact X3 hQ
        | (refine X0 (wpAny_load ho ?_)
           rw[hc, hd];show wpAny M A (if(["enumerate", "zip", "dict_itemiterator", "dict_reverseitemiterator", "odict_iterator", "itertools.zip_longest", "itertools.pairwise"].contains n&&vs[0]? == some (rawInt _)) = true then _ else _) Q E s;rw[Xl (by intro h; rw[hn, Bool.false_and]at h; cases h)];exact X3 hQ))
noncomputable def Itl(K:PySem.W.Frag)(a:Addr):It:=
 ⟨λi H=>∃xs x,SqL K H a xs/\xs[i]?=some x,λi H x H'=>H'=H/\∀xs,SqL K H a xs->xs[i]?=some x,λi H=>∃xs,SqL K H a xs/\xs.length<=i⟩
noncomputable def Itt(K:PySem.W.Frag)(a:Addr):It:=
 ⟨λi H=>∃xs x,SqT K H a xs/\xs[i]?=some x,λi H x H'=>H'=H/\∀xs,SqT K H a xs->xs[i]?=some x,λi H=>∃xs,SqT K H a xs/\xs.length<=i⟩
def Itr(lo:Int)(n:Nat):It:=⟨λi _=>i<n,λi H x H'=>H'=H/\x=.int (lo+i),λi _=>n<=i⟩
theorem qjz{P:Program}{w:World}{K:PySem.W.Frag}{tg:Expr}(a it:Addr):Turn P w K tg (Itl K a) [it] it (λi h=>h.IsListIter it a i) where
 mem:=by simp
 obj:=λi h st b hb=>by
  have e:b=it:=by simpa using hb
  subst e;obtain⟨o,e,c,d⟩:=st;exact⟨o,e,λv z=>by rw[d]at z;cases z⟩
 keep:=λi h h' st k=>st.at λo e=>k it (by simp) o e
 item:=by
  intro X hP hw hK hc i pins s σ H E I hf st hg;subst hP hw hK;obtain⟨xs,x,hq,hx⟩:=hg;obtain⟨ag,rv,p,hz⟩:=I.list hq;obtain⟨u,hu,ru⟩:=rv.get hx;obtain⟨f0,f1,f2,f3,f4,f5⟩:=hf it (by simp);refine wpAny_pyNext_list_item st p.isList (x:=u) (by simpa using hu) λh' cz sb=>?_
  have I1:Inv X pins σ H { s with heap:=h' }:=I.turned (t':=s.toks) (λb o hb e=>(sb.2 b hb).trans e) f0 f1 f3 f4 f5;obtain⟨o,e,c,d⟩:=id cz;exact⟨u,rfl,qx8 (s:={ s with heap:=h' }) e c d (by decide) ⟨x,H,I1,ru,⟨rfl,λys hy=>by rw[I.list_inj hy hq];exact hx⟩,cz,λb hb=>(hf b hb).1⟩⟩
 done:=by
  intro X hP hw hK hc i pins s σ H E I hf st hg;subst hP hw hK;obtain⟨xs,hq,hx⟩:=hg;obtain⟨ag,rv,p,hz⟩:=I.list hq;obtain⟨f0,f1,f2,f3,f4,f5⟩:=hf it (by simp);have hl:=rv.length;exact wpAny_pyNext_list_end (I.ok.hd hc) st p.isList (by simp;omega) λh' eb=>⟨rfl,I.turned (t':=s.toks) (λb o hb e=>eb b o hb e) f0 f1 f3 f4 f5⟩
 self:=λ_ _ _ _ _ st h=>wpAny_pyIter_listiter st h
theorem kzo{P:Program}{w:World}{K:PySem.W.Frag}{tg:Expr}(a it:Addr):Turn P w K tg (Itt K a) [it] it (λi h=>h.IsTupleIter it a i) where
 mem:=by simp
 obj:=λi h st b hb=>by
  have e:b=it:=by simpa using hb
  subst e;obtain⟨o,e,c,d⟩:=st;exact⟨o,e,λv z=>by rw[d]at z;cases z⟩
 keep:=λi h h' st k=>st.at λo e=>k it (by simp) o e
 item:=by
  intro X hP hw hK hc i pins s σ H E I hf st hg;subst hP hw hK;obtain⟨xs,x,hq,hx⟩:=hg;obtain⟨ag,rv,p,hz⟩:=I.tuple hq;obtain⟨u,hu,ru⟩:=rv.get hx;obtain⟨f0,f1,f2,f3,f4,f5⟩:=hf it (by simp);refine wpAny_pyNext_tuple_item st (show s.heap.IsTuple a ag.toArray from p) (x:=u) (by simpa using hu) λh' cz sb=>?_
  have I1:Inv X pins σ H { s with heap:=h' }:=I.turned (t':=s.toks) (λb o hb e=>(sb.2 b hb).trans e) f0 f1 f3 f4 f5;obtain⟨o,e,c,d⟩:=id cz;exact⟨u,rfl,qx8 (s:={ s with heap:=h' }) e c d (by decide) ⟨x,H,I1,ru,⟨rfl,λys hy=>by rw[I.tuple_inj hy hq];exact hx⟩,cz,λb hb=>(hf b hb).1⟩⟩
 done:=by
  intro X hP hw hK hc i pins s σ H E I hf st hg;subst hP hw hK;obtain⟨xs,hq,hx⟩:=hg;obtain⟨ag,rv,p,hz⟩:=I.tuple hq;obtain⟨f0,f1,f2,f3,f4,f5⟩:=hf it (by simp);have hl:=rv.length;exact wpAny_pyNext_tuple_end (I.ok.hd hc) st (show s.heap.IsTuple a ag.toArray from p) (by simp;omega) λh' eb=>⟨rfl,I.turned (t':=s.toks) (λb o hb e=>eb b o hb e) f0 f1 f3 f4 f5⟩
 self:=λ_ _ _ _ _ st h=>wpAny_pyIter_tupleiter st h
theorem kzp{P:Program}{w:World}{K:PySem.W.Frag}{tg:Expr}(it:Addr)(lo:Int)(n:Nat):Turn P w K tg (Itr lo n) [it] it (λi h=>IsRangeIter h it (lo+(i:Nat)*1) ((n:Int) - (i:Nat)) 1) where
 mem:=by simp
 obj:=λi h st b hb=>by
  have e:b=it:=by simpa using hb
  subst e;exact⟨_,st,λv z=>by
   have z':Data.fields _=Data.cell v:=z;cases z'⟩
 keep:=λi h h' st k=>k it (by simp) _ st
 item:=by
  intro X hP hw hK hc i pins s σ H E I hf st hg;subst hP hw hK;obtain⟨f0,f1,f2,f3,f4,f5⟩:=hf it (by simp);have W:=Walks.range (prog:=X.prog) (w:=X.w) (I.ok.hd hc) it lo 1 n;refine W.item i s _ _ hg st λv h' tk hv cz kk=>?_
  obtain⟨t,rfl⟩:=hv;have I1:Inv X pins σ H { s with heap:=h',toks:=tk }:=I.turned (λb o hb e=>kk b o (by simpa using hb) e) f0 f1 f3 f4 f5;refine⟨_,rfl,qx8 (s:={ s with heap:=h',toks:=tk }) (n:="range_iterator") cz rfl rfl (by decide) ⟨.int (lo+i),H,I1,⟨t,?_⟩,⟨rfl,rfl⟩,cz,λb hb=>(hf b hb).1⟩⟩;rw[Int.mul_one]
 done:=by
  intro X hP hw hK hc i pins s σ H E I hf st hg;subst hP hw hK;obtain⟨f0,f1,f2,f3,f4,f5⟩:=hf it (by simp);exact wpAny_pyNext_range_end (I.ok.hd hc) st (by have:n<=i:=hg;omega) λh' eb=>⟨rfl,I.turned (t':=s.toks) (λb o hb e=>eb b o hb e) f0 f1 f3 f4 f5⟩
 self:=λ_ _ _ _ _ st h=>wpAny_pyIter_rangeiter st h
section
variable {X:Cx}{tg:Expr}
theorem qwi{pins:List (Addr×Obj)}{σ:St}{H:Hp}{s:Shared}{R:It->Hp->Prop}{E:Value->Shared->Prop}{lo hi:Int}{t u v:Tok}{tk:Nat}(I:Inv X pins σ H s)(h1:-(2 ^ 62)<=lo)(h2:lo<2 ^ 62)(h3:-(2 ^ 62)<=hi)(h4:hi<2 ^ 62)
  (q:R (Itr lo (hi - lo).toNat) H):wpAny (model X.prog X.w) X.A (pyIter (.ref s.heap.objs.size)) (PIE X pins σ tg R) E { s with heap:=s.heap.push { cls:=.type "range",data:=.fields #[.int lo t,.int hi u,.int 1 v] },toks:=tk }:=by
 refine wpAny_pyIter_range (IsRange.new ..) (small_one h1 h2 h3 h4) ?_;have I1:Inv X pins σ H { s with heap:=s.heap.push { cls:=.type "range",data:=.fields #[.int lo t,.int hi u,.int 1 v] },toks:=tk }:=I.kept λb o e=>X2 _ e
 refine⟨(s.heap.push { cls:=.type "range",data:=.fields #[.int lo t,.int hi u,.int 1 v] }).objs.size,[(s.heap.push { cls:=.type "range",data:=.fields #[.int lo t,.int hi u,.int 1 v] }).objs.size],_,_,H,rfl,
  I1.kept (t':=tk) λb o e=>X2 _ e,kzp _ lo (hi - lo).toNat,?_,λb hb=>?_,q⟩
 ·have e1:lo+((0:Nat):Int)*1=lo:=by simp
  have e2:(((hi - lo).toNat:Nat):Int) - ((0:Nat):Int)=Builtin.Range.rangeSize lo hi 1:=by rw[rangeSize_one];split<;>omega
  show IsRangeIter _ _ (lo+((0:Nat):Int)*1) ((((hi - lo).toNat:Nat):Int) - ((0:Nat):Int)) 1;rw[e1,e2];exact Xd _ rfl
 ·have e:b=(s.heap.push { cls:=.type "range",data:=.fields #[.int lo t,.int hi u,.int 1 v] }).objs.size:=by simpa using hb
  subst e;exact I1.fpOk (Xg _) (I1.hok.fresh (Xg _))
abbrev wjq(ta:TA):TI:=fun σ H R=>ta σ H λvs H1=>∃j:Int,vs=[.int j]/\-(2 ^ 62)<=j/\j<2 ^ 62/\R (Itr 0 j.toNat) H1
theorem qkt{a:Expr}{ta:TA}{p pos:Pos}(hg:Gl X "range")(hm:X.mg "range"=none)(ha:PA X [a] ta)(hs:autoParam (starEach [a] X.env=[(false,eval a X.env)]) Ŕ):PI X tg (.Call (.Name "range" p) [a] [] pos) (wjq ta):=by
 intro pins s σ H R I h;refine Call_ (W3 I hg hm boot_range (PyProof.Rows.callWith_type1 (thn (ha pos pins s σ H _ I h) λus s1 ⟨vs,H1,I1,r1,q1⟩=>?_) hs rfl));obtain⟨j,e,q1,q2,q⟩:=q1;subst e;cases r1 with
 |cons r rr=>
  cases rr;obtain⟨t,rfl⟩:=r;exact call_range_1 (qwi I1 (by omega) (by omega) q1 q2 (by simpa using q))
abbrev tFor(wi:TI)(g:TG)(tb:TS):TS:=λD σ H=>wi σ H λJ H1=>∃W:Nat->Nat->St->Hp->Prop,(∃m,W 0 m σ H1)/\∀i m σ H,W i m σ H ->
 (J.stop i H/\D.nx σ H)\/(J.go i H/\∃N:St->Hp->Prop,(∀ σ' H',N σ' H'->∃m',m'<m/\W (i+1) m' σ' H')/\∀x H',J.yld i H x H'->g x σ H' fun σ2 H2=>tb { D with nx:=N,ct:=N,bk:=D.nx } σ2 H2)
def Kz(fp:List Addr)(h:Heap):List (Addr×Obj):=fp.filterMap λb=>(h.get? b).map λo=>(b,o)
theorem jz0{fp:List Addr}{h:Heap}{b:Addr}{o:Obj}(hb:b∈fp)(e:h.get? b=some o):(b,o)∈Kz fp h:=List.mem_filterMap.mpr ⟨b,hb,by rw[e];rfl⟩
theorem kvn{fp:List Addr}{h:Heap}{p:Addr×Obj}(hp:p∈Kz fp h):p.1∈fp/\h.get? p.1=some p.2:=by
 obtain⟨b,hb,e⟩:=List.mem_filterMap.mp hp;cases q:h.get? b with
 |none=>rw[q]at e;cases e
 |some o=>
  rw[q]at e;have e':(b,o)=p:=oq9 e;subst e';exact⟨hb,q⟩
theorem Inv.pinned{pins:List (Addr×Obj)}{σ:St}{H:Hp}{s:Shared}{fp:List Addr}(I:Inv X pins σ H s)(hf:∀b∈fp,vZ X pins H b)(ho:∀b∈fp,∃o,s.heap.get? b=some o/\∀v,o.data≠.cell v):Inv X (pins++Kz fp s.heap) σ H s:=
 I.pins_of λp hp=>(List.mem_append.mp hp).elim (λz=>I.pin p (lr9 _ z)) λz=>by
  obtain⟨hb,e⟩:=kvn z;obtain⟨f0,f1,f2,_⟩:=hf p.1 hb;obtain⟨o,e',d⟩:=ho p.1 hb;rw[e]at e';cases e';exact⟨e,f0,f1,f2,d⟩
theorem Inv.unpinned{pins pl:List (Addr×Obj)}{σ:St}{H:Hp}{s:Shared}(I:Inv X (pins++pl) σ H s):Inv X pins σ H s:=I.pins_of λp hp=>I.pin p (lr9 _ (ll9 _ hp))
theorem vvk{ba:Expr}{body:List Stmt}{wi:TI}{g:TG}{tb:TS}{pos:Pos}(hp:PassesOwn (model X.prog X.w) X.A X.env X.xe)(hc:X.calm=true)(hi:PI X tg ba wi)(hg:PG X tg g)(hb:PSs X body tb)
  (hs:autoParam (∀x,foldedSetIterable ba X.env x=pure x) Ŗ):PS X (.For tg ba body [] pos) (tFor wi g tb):=by
 intro pins s σ H D I h;refine wpAny_For (thn (hi pins s σ H _ I h) λv s1 h1=>thn h1 λitv s2 h2=>?_) hs;obtain⟨it,fp,tn,J,H2,e,I2,T,st2,f2,W,⟨m0,w0⟩,gj⟩:=h2;subst e;have gb:∀{H':Hp},(∀b∈fp,H' b=none)->∀b∈fp,vZ X pins H' b:=λhn b hb=>⟨hn b hb,(f2 b hb).2⟩
 refine codeAny_forLoop_any (λn s'=>∃i σ' H',Inv X pins σ' H' s'/\tn i s'.heap/\(∀b∈fp,H' b=none)/\W i n σ' H') ?_ m0 ⟨0,σ,H2,I2,st2,λb hb=>(f2 b hb).1,w0⟩;rintro n s3 ⟨i,σ3,H3,I3,st3,km,w3⟩;rcases gj i n σ3 H3 w3 with⟨stop,qn⟩|⟨go,N,hN,step⟩
 ·refine wpAny_passesOwn hp (thn (T.done X rfl rfl rfl hc i pins s3 σ3 H3 X.xe I3 (gb km) st3 stop) λr s4 ⟨hr,I4⟩=>?_);subst hr;exact wpAny_execs_nil ⟨σ3,H3,I4,qn⟩
 ·refine wpAny_passesOwn hp (thn (T.item X rfl rfl rfl hc i pins s3 σ3 H3 X.xe I3 (gb km) st3 go) λr s4 ⟨u,hr,h4⟩=>?_);subst hr;refine wpAny_passesOwn hp (thn h4 λ_ s5 ⟨x,H5,I5,r5,y5,ir,fr5⟩=>?_);have I5':=I5.pinned (gb fr5) (T.obj _ _ ir);refine wpAny_passesOwn hp (thn (hg _ s5 σ3 H5 x u _ I5' r5 (step x H5 y5)) λ_ s6 ⟨σ6,H6,I6,q6⟩=>?_);refine wpAny_passesOwn hp (thn (hb _ s6 σ6 H6 _ I6 q6) λf s7 q7=>?_);have again:∀{σ7:St} {H7:Hp},Inv X (pins++Kz fp s5.heap) σ7 H7 s7->N σ7 H7->∃m,m<n/\∃i σ' H',Inv X pins σ' H' s7/\tn i s7.heap/\(∀b∈fp,H' b=none)/\W i m σ' H':=fun {σ7 H7} I7 n7=>by
   obtain⟨m',hm,w7⟩:=hN σ7 H7 n7;refine⟨m',hm,i+1,σ7,H7,I7.unpinned,T.keep _ _ _ ir λb hb o e=>(I7.pin (b,o) (lr9 _ (lr9 _ (jz0 hb e)))).1,λb hb=>?_,w7⟩;obtain⟨o,e,d⟩:=T.obj _ _ ir b hb;exact(I7.pin (b,o) (lr9 _ (lr9 _ (jz0 hb e)))).2.1
  cases f with
  |next=>obtain⟨σ7,H7,I7,n7⟩:=q7;exact again I7 n7
  |cont=>obtain⟨σ7,H7,I7,n7⟩:=q7;exact again I7 n7
  |brk=>obtain⟨σ7,H7,I7,q7⟩:=q7;exact⟨σ7,H7,I7.unpinned,q7⟩
  |ret v=>obtain⟨x7,σ7,H7,I7,r7,q7⟩:=q7;exact⟨x7,σ7,H7,I7.unpinned,r7,q7⟩
end
abbrev R2:=V->V->Hp->VK->Prop
noncomputable def OpR(X:Cx)(f:Value->Value->Sem Value)(r:R2):Prop:=
 ∀(pins:List (Addr×Obj)) (s:Shared) (σ:St) (H:Hp) (x y:V) (v u:Value) (Q:VK),Inv X pins σ H s->RelV x v->RelV y u->r x y H Q ->
  wpAny (model X.prog X.w) X.A (f v u) (EP X pins σ Q) X.xe s
noncomputable def UnR(X:Cx)(f:Value->Sem Value)(r:V->Hp->VK->Prop):Prop:=
 ∀(pins:List (Addr×Obj)) (s:Shared) (σ:St) (H:Hp) (x:V) (v:Value) (Q:VK),Inv X pins σ H s->RelV x v->r x H Q ->
  wpAny (model X.prog X.w) X.A (f v) (EP X pins σ Q) X.xe s
noncomputable def CallR(X:Cx)(f:Value)(r:List V->Hp->VK->Prop):Prop:=
 ∀(pins:List (Addr×Obj)) (s:Shared) (σ:St) (H:Hp) (xs:List V) (us:List Value) (Q:VK),Inv X pins σ H s->Vals xs us->r xs H Q ->
  wpAny (model X.prog X.w) X.A (call f us) (EP X pins σ Q) X.xe s
noncomputable def TruR(X:Cx)(r:V->Hp->(Bool->Hp->Prop)->Prop):Prop:=
 ∀(pins:List (Addr×Obj)) (s:Shared) (σ:St) (H:Hp) (x:V) (v:Value) (Q:Bool->Hp->Prop),Inv X pins σ H s->RelV x v->r x H Q ->
  wpAny (model X.prog X.w) X.A (truthy v) (TP X pins σ Q) X.xe s
abbrev tOp(r:R2)(ta tb:TE):TE:=fun σ H Q=>ta σ H λx H1=>tb σ H1 λy H2=>r x y H2 Q
abbrev tUn(r:V->Hp->VK->Prop)(ta:TE):TE:=fun σ H Q=>ta σ H λx H1=>r x H1 Q
def rI(C:Int->Int->Prop)(g:Int->Int->V):R2:=λx y H Q=>∃i j,x=.int i/\y=.int j/\C i j/\Q (g i j) H
def rI0(g:Int->Int->V):R2:=λx y H Q=>∃i j,x=.int i/\y=.int j/\Q (g i j) H
def rU(g:Int->V):V->Hp->VK->Prop:=λx H Q=>∃i,x=.int i/\Q (g i) H
section
variable {X:Cx}{a b c:Expr}{ta tb tc:TE}{pos:Pos}
theorem wk9(ha:PE X a ta)(hb:PE X b tb){pins:List (Addr×Obj)}{s:Shared}{σ:St}{H:Hp}{R:V->V->Hp->Prop}(I:Inv X pins σ H s)
  (h:ta σ H λx H1=>tb σ H1 λy H2=>R x y H2) {Q:Value->Shared->Prop} {f:Value->Value->Sem Value}
  (hf:∀v u s2 x y H2,Inv X pins σ H2 s2->RelV x v->RelV y u->R x y H2->wpAny (model X.prog X.w) X.A (f v u) Q X.xe s2):
  wpAny (model X.prog X.w) X.A (eval a X.env) (λv s₁=>wpAny (model X.prog X.w) X.A (eval b X.env) (λu s₂=>wpAny (model X.prog X.w) X.A (f v u) Q X.xe s₂) X.xe s₁) X.xe s:=by
 refine thn (ha pins s σ H _ I h) λv s1 ⟨x,H1,I1,r1,q1⟩=>?_
 refine thn (hb pins s1 σ H1 _ I1 q1) λu s2 ⟨y,H2,I2,r2,q2⟩=>?_
 exact hf v u s2 x y H2 I2 r1 r2 q2
theorem wje{op:Operator}{r:R2}(ho:OpR X (binaryOp op) r)(ha:PE X a ta)(hb:PE X b tb):PE X (.BinOp a op b pos) (tOp r ta tb):=by
 intro pins s σ H Q I h;exact wpAny_BinOp (wk9 ha hb I h λv u s2 x y H2 I2 rx ry q=>ho pins s2 σ H2 x y v u Q I2 rx ry q)
theorem wjc{op:UnaryOp}{r:V->Hp->VK->Prop}(ho:UnR X (unaryOp op) r)(ha:PE X a ta):PE X (.UnaryOp op a pos) (tUn r ta):=by
 intro pins s σ H Q I h;exact UnaryOp_ (thn (ha pins s σ H _ I h) λv s1 ⟨x,H1,I1,r1,q1⟩=>ho pins s1 σ H1 x v Q I1 r1 q1)
theorem opI{f:Value->Value->Sem Value}{C:Int->Int->Prop}{g:Int->Int->Int}
  (rule:∀(i j:Int) (t u:Tok) (s:Shared) (Q:Value->Shared->Prop) (E:Value->Shared->Prop),C i j->Q (.int (g i j) s.toks) { s with toks:=s.toks+1 }->wpAny (model X.prog X.w) X.A (f (.int i t) (.int j u)) Q E s):
  OpR X f (rI C λi j=>.int (g i j)):=by
 intro pins s σ H x y v u Q I rx ry h;obtain⟨i,j,rfl,rfl,hc,q⟩:=h;obtain⟨t,rfl⟩:=rx;obtain⟨t',rfl⟩:=ry;exact rule i j t t' s _ _ hc ⟨.int (g i j),H,I.tok _,⟨_,rfl⟩,q⟩
theorem opI0{f:Value->Value->Sem Value}{g:Int->Int->Int}
  (rule:∀(i j:Int) (t u:Tok) (s:Shared) (Q:Value->Shared->Prop) (E:Value->Shared->Prop),Q (.int (g i j) s.toks) { s with toks:=s.toks+1 }->wpAny (model X.prog X.w) X.A (f (.int i t) (.int j u)) Q E s):
  OpR X f (rI0 λi j=>.int (g i j)):=by
 intro pins s σ H x y v u Q I rx ry h;obtain⟨i,j,rfl,rfl,q⟩:=h;obtain⟨t,rfl⟩:=rx;obtain⟨t',rfl⟩:=ry;exact rule i j t t' s _ _ ⟨.int (g i j),H,I.tok _,⟨_,rfl⟩,q⟩
theorem wji{f:Value->Value->Sem Value}{g:Int->Int->Bool}
  (rule:∀(i j:Int) (t u:Tok) (s:Shared) (Q:Value->Shared->Prop) (E:Value->Shared->Prop),Q (.bool (g i j)) s->wpAny (model X.prog X.w) X.A (f (.int i t) (.int j u)) Q E s):
  OpR X f (rI0 λi j=>.bl (g i j)):=by
 intro pins s σ H x y v u Q I rx ry h;obtain⟨i,j,rfl,rfl,q⟩:=h;obtain⟨t,rfl⟩:=rx;obtain⟨t',rfl⟩:=ry;exact rule i j t t' s _ _ ⟨.bl (g i j),H,I,rfl,q⟩
def wqf(i j:Int):Prop:=0<=j/\j<=1000000/\i.natAbs<2 ^ 64
theorem op_add:OpR X (binaryOp .Add) (rI0 λi j=>.int (i+j)):=opI0 λ_ _ _ _ _ _ _ q=>add_int q
theorem vw4:OpR X (binaryOp .Mod) (rI (λ_ j=>0<j) λi j=>.int (i % j)):=opI λi j _ _ _ _ _ hc q=>by
 have h1:(0:Int)<j:=hc;exact mod_int' (by omega) (by rw[Int.fmod_eq_emod_of_nonneg i (by omega)];exact q)
theorem vw3:OpR X (binaryOp .LShift) (rI wqf λi j=>.int (i*2 ^ j.toNat)):=opI λ_ _ _ _ _ _ _ hc q=>lshift_int_small hc.1 hc.2.1 hc.2.2 q
theorem unI{f:Value->Sem Value}{g:Int->Int}
  (rule:∀(i:Int) (t:Tok) (s:Shared) (Q:Value->Shared->Prop) (E:Value->Shared->Prop),Q (.int (g i) s.toks) { s with toks:=s.toks+1 }->wpAny (model X.prog X.w) X.A (f (.int i t)) Q E s):
  UnR X f (rU λi=>.int (g i)):=by
 intro pins s σ H x v Q I rx h;obtain⟨i,rfl,q⟩:=h;obtain⟨t,rfl⟩:=rx;exact rule i t s _ _ ⟨.int (g i),H,I.tok _,⟨_,rfl⟩,q⟩
theorem ZY:UnR X (unaryOp .USub) (rU λi=>.int (-i)):=unI λ_ _ _ _ _ q=>neg_int q
end
section
variable {X:Cx}{a b c:Expr}{ta tb tc:TE}{pos:Pos}
theorem kz9{pins:List (Addr×Obj)}{σ:St}{H:Hp}{s:Shared}{Q:VK}{k k':Bool}(I:Inv X pins σ H s)(q:Q (.bl k) H)(e:k=k'):EP X pins σ Q (.bool k') s:=by
 subst e;exact⟨.bl k,H,I,rfl,q⟩
theorem vjx:OpR X (compareOp .Lt) (rI0 λi j=>.bl (decide (i<j))):=wji λ_ _ _ _ _ _ _ q=>lt_int q
theorem QZ:OpR X (compareOp .LtE) (rI0 λi j=>.bl (decide (i<=j))):=wji λ_ _ _ _ _ _ _ q=>le_int q
theorem qww:OpR X (compareOp .Gt) (rI0 λi j=>.bl (decide (j<i))):=wji λ_ _ _ _ _ _ _ q=>gt_int q
theorem qq2:OpR X (compareOp .In) (λx y H Q=>∃i j,x=.str i/\y=.str j/\Q (.bl (!(Builtin.Str.occurrences j i 0 j.length 1).isEmpty)) H):=by
 intro pins s σ H x y v u Q I rx ry h;obtain⟨i,j,rfl,rfl,q⟩:=h;obtain⟨t,rfl⟩:=rx;obtain⟨t',rfl⟩:=ry;exact in_str (kz9 I q rfl)
theorem vw5 : OpR X (compareOp .Is) (λx y H Q=>y = .non /\ Q (.bl (decide (x = .non))) H):= by
  intro pins s σ H x y v u Q I rx ry h;obtain⟨rfl, q⟩:= h;cases ry;refine is_none_gen (kz9 I q ?_);cases x <;> first
    |(cases rx; rfl)
    |(obtain⟨t, rfl⟩:= rx; rfl)
theorem OpR.or{f:Value->Value->Sem Value}{r r':R2}(h:OpR X f r)(h':OpR X f r'):OpR X f (λx y H Q=>r x y H Q\/r' x y H Q):=by
 intro pins s σ H x y v u Q I rx ry q;rcases q with q|q
 ·exact h pins s σ H x y v u Q I rx ry q
 ·exact h' pins s σ H x y v u Q I rx ry q
theorem v6(b:Expr){op:CmpOp}(h:autoParam (op≠.In) ŕ)(h2:autoParam (op≠.NotIn) ŕ):behindInMarks op b=false:=by
 have e1:(op==CmpOp.In)=false:=by cases op<;>first|rfl|exact absurd rfl h
 have e2:(op==CmpOp.NotIn)=false:=by cases op<;>first|rfl|exact absurd rfl h2
 cases b<;>simp[behindInMarks,e1,e2]
theorem vjr{op:CmpOp}{r:R2}(ho:OpR X (compareOp op) r)(ha:PE X a ta)(hb:PE X b tb)(hm:behindInMarks op b=false):PE X (.Compare a [op] [b] pos) (tOp r ta tb):=by
 intro pins s σ H Q I h;exact wpAny_Compare1 (wk9 ha hb I h λv u s2 x y H2 I2 rx ry q=>ho pins s2 σ H2 x y v u Q I2 rx ry q) hm
abbrev vqd(t:TE):TT:=fun σ H Q=>t σ H λx H'=>∃k,x=.bl k/\Q k H'
theorem vjj{op:CmpOp}{r:R2}(ho:OpR X (compareOp op) r)(ha:PE X a ta)(hb:PE X b tb)(hm:behindInMarks op b=false):PT X (.Compare a [op] [b] pos) (vqd (tOp r ta tb)):=by
 intro pins s σ H Q I h;refine wpAny_isTrue_Compare1 (thn (ha pins s σ H _ I h) λv s1 ⟨x,H1,I1,r1,q1⟩=>thn (hb pins s1 σ H1 _ I1 q1) λu s2 ⟨y,H2,I2,r2,q2⟩=>
  thn (ho pins s2 σ H2 x y v u _ I2 r1 r2 q2) λc s3 ⟨z,H3,I3,r3,k,e,q3⟩=>?_) hm
 subst e;cases r3;exact Yh ⟨H3,I3,q3⟩
abbrev qk2(r r':R2)(ta tb tc:TE):TE:=fun σ H Q=>ta σ H λx H1=>tb σ H1 λy H2=>r x y H2 λz H3=>∃k,z=.bl k /\
 (if k=true then tc σ H3 λw' H4=>r' y w' H4 Q else Q (.bl false) H3)
theorem qwu{op gh:CmpOp}{r r':R2}(ho:OpR X (compareOp op) r)(f8:OpR X (compareOp gh) r')(ha:PE X a ta)(hb:PE X b tb)(hc:PE X c tc)
  (hm:lastMarks [op,gh] [b,c]=false:=by with_unfolding_all rfl):PE X (.Compare a [op,gh] [b,c] pos) (qk2 r r' ta tb tc):=by
 intro pins s σ H Q I h;refine Compare_chain (thn (ha pins s σ H _ I h) λv s1 ⟨x,H1,I1,r1,q1⟩=>chain_link (thn (hb pins s1 σ H1 _ I1 q1) λu s2 ⟨y,H2,I2,r2,q2⟩=>
  thn (ho pins s2 σ H2 x y v u _ I2 r1 r2 q2) λd s3 ⟨z,H3,I3,r3,k,e,q3⟩=>?_)) hm
 subst e;cases r3;refine Yh ?_;cases k with
 |false=>exact ite_ff ⟨.bl false,H3,I3,rfl,q3⟩
 |true=>exact ite_tt (chain_last (thn (hc pins s3 σ H3 _ I3 q3) λw' s4 ⟨z',H4,I4,r4,q4⟩=>f8 pins s4 σ H4 y z' u w' Q I4 r2 r4 q4))
theorem qwn{op gh:CmpOp}{r r':R2}(ho:OpR X (compareOp op) r)(f8:OpR X (compareOp gh) r')(ha:PE X a ta)(hb:PE X b tb)(hc:PE X c tc)
  (hm:lastMarks [op,gh] [b,c]=false:=by with_unfolding_all rfl):PT X (.Compare a [op,gh] [b,c] pos) (vqd (qk2 r r' ta tb tc)):=by
 intro pins s σ H Q I h;refine isTrue_chain (thn (ha pins s σ H _ I h) λv s1 ⟨x,H1,I1,r1,q1⟩=>test_link (thn (hb pins s1 σ H1 _ I1 q1) λu s2 ⟨y,H2,I2,r2,q2⟩=>
  thn (ho pins s2 σ H2 x y v u _ I2 r1 r2 q2) λd s3 ⟨z,H3,I3,r3,k,e,q3⟩=>?_)) hm
 subst e;cases r3;refine Yh ?_;cases k with
 |false=>
  obtain⟨k',e',q'⟩:=q3;cases e';exact ite_ff ⟨H3,I3,q'⟩
 |true=>
  refine ite_tt (test_last (thn (hc pins s3 σ H3 _ I3 q3) λw' s4 ⟨z',H4,I4,r4,q4⟩=>thn (f8 pins s4 σ H4 y z' u w' _ I4 r2 r4 q4) λd' s5 ⟨z2,H5,I5,r5,k2,e2,q5⟩=>?_));subst e2;cases r5;exact Yh ⟨H5,I5,q5⟩
noncomputable def vzg(K:PySem.W.Frag)(x:V)(H:Hp)(k:Bool):Prop:=
 match x with
 |.non=>k=false
 |.bl b=>k=b
 |.int i=>k=(i != 0)
 |.str y=>y.length<=sizeLine/\k=((y.length:Int) != 0)
 |.byt y=>y.size<=sizeLine/\k=((y.size:Int) != 0)
 |.ref p=>(∃xs,SqL K H p xs/\k=!xs.isEmpty)\/(∃xs,SqT K H p xs/\k=!xs.isEmpty)\/∃ay,H p=some (.dK ay)/\k=!ay.isEmpty
 |_=>False
theorem qjd{κ:Type}{ay:List (κ×V)}{vs:List (κ×Value)}(r:KV ay vs):(!vs.isEmpty)=!ay.isEmpty:=by
 cases r<;>rfl
theorem kki{xs:List V}{ag:List Value}(r:Vals xs ag):(!ag.toArray.isEmpty)=!xs.isEmpty:=by
 cases r<;>simp
theorem QJ:(sizeLine:Nat)<2 ^ 63:=by rw[sizeLine_eq];decide
theorem qxu:TruR X (λx H Q=>∃k,vzg X.K x H k/\Q k H):=by
 intro pins s σ H x v Q I rx h;obtain⟨k,e,q⟩:=h;have hl:=QJ;have hs:sizeLine=16777216:=sizeLine_eq;cases x with
 | non=>
  cases rx;have e':k=false:=e;subst e';exact truthy_none ⟨H,I,q⟩
 | bl b=>
  cases rx;have e':k=b:=e;subst e';exact Yh ⟨H,I,q⟩
 | int i=>
  obtain⟨t,rfl⟩:=rx;have e':k=(i != 0):=e;subst e';exact PySem.P.truthy_int ⟨H,I,q⟩
 | str y=>
  obtain⟨t,rfl⟩:=rx;obtain⟨hy,e'⟩:y.length<=sizeLine/\k=((y.length:Int) != 0):=e;subst e';exact PySem.P.truthy_str (by omega) ⟨H,I.tok _,q⟩
 | byt y=>
  obtain⟨t,rfl⟩:=rx;obtain⟨hy,e'⟩:y.size<=sizeLine/\k=((y.size:Int) != 0):=e;subst e';exact PySem.W.truthy_bytes (by omega) ⟨H,I.tok _,q⟩
 | ref p=>
  cases rx;have e':(∃xs,SqL X.K H p xs/\k=!xs.isEmpty)\/(∃xs,SqT X.K H p xs/\k=!xs.isEmpty)\/∃ay,H p=some (.dK ay)/\k=!ay.isEmpty:=e;rcases e' with⟨xs,hx,e'⟩|⟨xs,hx,e'⟩|⟨ay,hx,e'⟩
  ·subst e';obtain⟨ag,r,pl,hz⟩:=I.list hx;have ax:=r.length;exact wpAny_truthy_list pl.isList (by simp only[X7];omega) ⟨H,I.tok _,by rw[kki r];exact q⟩
  ·subst e';obtain⟨ag,r,pl,hz⟩:=I.tuple hx;have ax:=r.length;exact truthy_tuple pl (by simp only[X7];omega) ⟨H,I.tok _,by rw[kki r];exact q⟩
  ·subst e';obtain⟨hz,hS,vs,r,m⟩:ay.length<=sizeLine/\(p==sysModules)=false/\∃vs,KV ay vs/\s.heap.DictOf (kqa X.prog X.w) p vs:=I.hok p _ hx;have ax:ay.length=vs.length:=Paired.length r;exact wpAny_truthy_dict hS m (by omega) ⟨H,I.tok _,by rw[qjd r];exact q⟩
 |_=>exact(show False from e).elim
theorem qwm(ha:PE X a ta)(he:∀dz,isTrue a X.env dz=(do let v <-dz;standAt a.pos;holding [v] (truthy v))):
  PT X a (fun σ H Q=>ta σ H λx H'=>∃k,vzg X.K x H' k/\Q k H'):=by
 intro pins s σ H Q I h;exact isTrue_plain (thn (ha pins s σ H _ I h) λv s1 ⟨x,H1,I1,r1,q1⟩=>qxu pins s1 σ H1 x v Q I1 r1 q1) (he _)
theorem op_add_str:OpR X (binaryOp .Add) (λx y H Q=>∃i j,x=.str i/\y=.str j/\i.length+j.length<=sizeLine/\Q (.str (i++j)) H):=by
 intro pins s σ H x y v u Q I rx ry h;obtain⟨i,j,rfl,rfl,hz,q⟩:=h;obtain⟨t,rfl⟩:=rx;obtain⟨t',rfl⟩:=ry;exact add_str (λt' tk=>⟨.str (i++j),H,I.tok _,⟨_,rfl⟩,q⟩) hz
theorem xw{x:V}{us:List Value}(r:Vals [x] us):∃u,us=[u]/\RelV x u:=by
 cases r with
 |cons r1 r2=>cases r2;exact⟨_,rfl,r1⟩
theorem W8{x y:V}{us:List Value}(r:Vals [x,y] us):∃u w',us=[u,w']/\RelV x u/\RelV y w':=by
 cases r with
 |cons r1 r2=>
  cases r2 with
  |cons r3 r4=>cases r4;exact⟨_,_,rfl,r1,r3⟩
theorem qvi:CallR X (.type "int") (λxs H Q=>(∃i,xs=[.int i]/\Q (.int i) H)\/∃k,xs=[.bl k]/\Q (.int (if k then 1 else 0)) H):=by
 intro pins s σ H xs us Q I r h;rcases h with⟨i,rfl,q⟩|⟨k,rfl,q⟩
 ·obtain⟨u,rfl,t,rfl⟩:=xw r;exact call_int_int ⟨.int i,H,I,⟨_,rfl⟩,q⟩
 ·obtain⟨u,rfl,r1⟩:=xw r;cases r1;exact call_int_bool ⟨.int (if k then 1 else 0),H,I.tok _,⟨_,rfl⟩,q⟩
end
structure ObjM (h:Heap)(x dx C:Addr)(mA:Str->Option Value):Prop where
 obj:h.get? x=some (PySem.W.instObj C dx)
 ns:h.Ns1 dx mA
 ne:dx≠x
theorem qq9{h:Heap}{dx:Addr}{mA:Str->Option Value}(n:h.Ns1 dx mA):∃od,h.get? dx=some od/\∀name,PySem.W.lookIn name od=some (mA name):=by
 obtain⟨o,es,ep,ho,hd,hk,_,hm⟩:=n;refine⟨o,ho,λname=>?_⟩;have e:=hm name;unfold nsFind findBy at e;rw[<-Array.find?_toList]at e;unfold PySem.W.lookIn;rw[hd];dsimp only
 split
 ·rename_i y q;rw[q]at e;exact congrArg some e
 ·rename_i q;rw[q]at e;have a:es.toList.any (·.refKey)=false:=by
   rw[List.any_eq_false];intro y hy;obtain⟨z,t,je⟩:=hk y (Array.mem_toList_iff.mp hy);simp[DictEntry.refKey,je]
  have a':¬es.toList.any (·.refKey)=true:=by rw[a];exact Bool.false_ne_true
  rw[Xl a'];exact congrArg some e
theorem ObjM.look{h:Heap}{x dx C:Addr}{mA:Str->Option Value}(I:ObjM h x dx C mA):∃od,PySem.W.InstAt h x (PySem.W.instObj C dx) C (some od)/\∀name,PySem.W.lookIn name od=some (mA name):=
 let ⟨od,ho,hl⟩:=qq9 I.ns
 ⟨od,⟨I.obj,rfl,rfl,ho⟩,hl⟩
section
variable {P:Program}{w:World}{H H':Hp}{h h':Heap}{a C dx:Addr}{fs fs':List (Str×V)}
theorem vkh(hok:HOk P w H h)(e:H a=some (.ins C dx fs)):∃mA,ObjM h a dx C mA/\(∀f,wkd (fs.lookup f) (mA f))/\PySem.Within mA (fs.map (·.1))/\fs.length<=1000/\H dx=some (.own a):=by
 obtain⟨d,z,ne,ob,mA,n,r,q⟩:=(show ObjOk P w H h a (.ins C dx fs)from hok a _ e);exact⟨mA,⟨ob,n,ne⟩,r,q,z,d⟩
end
structure Cls (K:PySem.W.Frag)(C:Addr):Prop where
 pg:PySem.W.plainGet K C Str.empty=true
 hd:PySem.W.hasDictIn K C=true
 po:PySem.W.plainOver K C=true
 sa:PySem.W.findIn K (.ref C) "__setattr__"=some (some (.builtin "object.__setattr__"))
theorem Cls.get{K:PySem.W.Frag}{C:Addr}(c:Cls K C)(f:Str):PySem.W.plainGet K C f=true:=c.pg
section
variable {X:Cx}{pins:List (Addr×Obj)}{σ:St}{H:Hp}{s:Shared}{A:Around}{E:Value->Shared->Prop}{Q:Value->Shared->Prop}{c:Value}{b:Bool}
inductive TyOf (K:PySem.W.Frag)(H:Hp):V->Value->Prop where
 | non:TyOf K H .non (.type "NoneType")
 | bl (x:Bool):TyOf K H (.bl x) (.type "bool")
 | int (i:Int):TyOf K H (.int i) (.type "int")
 | str (x:Str):TyOf K H (.str x) (.type "str")
 | flt (x:UInt64):TyOf K H (.flt x) (.type "float")
 | lst {a:Addr} {xs:List V} (e:H a=some (.lst xs)):TyOf K H (.ref a) (.type "list")
 | frz {a:Addr} {o:Obj} {xs:List V} (e:H a=some (.frz o (.lst xs))):TyOf K H (.ref a) (.type "list")
 | tup {a:Addr} {xs:List V} (e:H a=some (.tup xs)):TyOf K H (.ref a) (.type "tuple")
 | dK {a:Addr} {ay:List (Key×V)} (e:H a=some (.dK ay)):TyOf K H (.ref a) (.type "dict")
 | dT {a:Addr} {ay:List (List Key×V)} (e:H a=some (.dT ay)):TyOf K H (.ref a) (.type "dict")
 | ins {a C dx:Addr} {fs:List (Str×V)} (e:H a=some (.ins C dx fs)) (cl:Cls K C) (ha:PySem.W.findIn K (.ref C) "__class__"=some (some (.builtin "object.__class__")))
   (hn:PySem.W.specialIn K (.builtin "object.__class__") "__get__"=some (some (.builtin "getset_descriptor.__get__"))) (htk:PySem.W.takesIn K (.builtin "object.__class__")=some true)
   (hm:PySem.W.mroIn K C (.type "object")=some true):TyOf K H (.ref a) (.ref C)
theorem qqo{x:V}{u t:Value}(I:Inv X pins σ H s)(rx:RelV x u)(ty:TyOf X.K H x t)(e:PySem.W.kitOne X.K t c=some b)(h:∀tk,Q (.bool b) { s with toks:=tk }):
  wpAny (model X.prog X.w) A (call (.builtin "isinstance") [u,c]) Q E s:=by
 cases ty with
 |non=>cases(show u=Value.none from rx);exact Xz PySem.W.kitx_none I.kIn True.intro e (λz=>nomatch z) h
 |bl y=>cases(show u=Value.bool y from rx);exact Xz PySem.W.kitx_bool I.kIn True.intro e (λz=>nomatch z) h
 |int i=>obtain⟨t,q⟩:=(show ∃t,u=Value.int i t from rx);cases q;exact Xz PySem.W.kitx_int I.kIn True.intro e (λz=>nomatch z) h
 |str y=>obtain⟨t,q⟩:=(show ∃t,u=Value.str y t from rx);cases q;exact Xz PySem.W.kitx_str I.kIn True.intro e (λz=>nomatch z) h
 |flt y=>obtain⟨t,q⟩:=(show ∃t,u=Value.float y t from rx);cases q;exact Xz PySem.W.kitx_float I.kIn True.intro e (λz=>nomatch z) h
 |@lst a xs ea=>
  cases(show u=Value.ref a from rx);obtain⟨_,_,n,_,h1⟩:=(show ObjOk X.prog X.w H s.heap a (.lst xs)from I.hok a _ ea);exact Xz PySem.W.kitx_list I.kIn ⟨_,h1,rfl⟩ e (λz=>nomatch z) h
 |@frz a ob xs ea=>
  cases(show u=Value.ref a from rx);obtain⟨_,_,_,n,_,h1⟩:=(show ObjOk X.prog X.w H s.heap a (.frz ob (.lst xs))from I.hok a _ ea);exact Xz PySem.W.kitx_list I.kIn ⟨_,h1,rfl⟩ e (λz=>nomatch z) h
 |@tup a xs ea=>
  cases(show u=Value.ref a from rx);obtain⟨_,_,_,p⟩:=(show ObjOk X.prog X.w H s.heap a (.tup xs)from I.hok a _ ea);obtain⟨o,h1,h2,_⟩:=p;exact Xz PySem.W.kitx_tuple I.kIn ⟨o,h1,h2⟩ e (λz=>nomatch z) h
 |@dK a ay ea=>
  cases(show u=Value.ref a from rx);obtain⟨_,_,vs,_,p⟩:=(show ObjOk X.prog X.w H s.heap a (.dK ay)from I.hok a _ ea);obtain⟨o,es,ep,h1,h2,_⟩:=p;exact Xz PySem.W.kitx_dict I.kIn ⟨o,h1,h2.1⟩ e (λz=>nomatch z) h
 |@dT a ay ea=>
  cases(show u=Value.ref a from rx);obtain⟨_,_,xs,_,o,es,ep,h1,h2,_⟩:=(show ObjOk X.prog X.w H s.heap a (.dT ay)from I.hok a _ ea);exact Xz PySem.W.kitx_dict I.kIn ⟨o,h1,h2.1⟩ e (λz=>nomatch z) h
 |@ins a C dx fs ea cl ha hn htk hm=>
  cases(show u=Value.ref a from rx);obtain⟨mA,O,_⟩:=vkh I.hok ea;obtain⟨od,J,_⟩:=O.look;exact Xz (PySem.W.kitx_own (cl.get _) cl.hd ha hn htk hm) I.kIn J e (λz=>nomatch z) h
end
structure Room (k:Nat)(A:Around):Prop where
 hd:A.handled=none
 dp:A.depth+3*k+5<recursionLimit
 un:A.units+16*k+200<cLine
 gd:A.guards=some []
theorem Room.mono{j k:Nat}{A:Around}(r:Room k A)(h:j<=k):Room j A:=⟨r.hd,by have:=r.dp;omega,by have:=r.un;omega,r.gd⟩
theorem Room.deeper{k:Nat}{A:Around}(r:Room (k+1) A)(env:Env):Room k (A.deeper env):=
 ⟨r.hd,by have:=r.dp;show A.depth+1+3*k+5<_;omega,by have:=r.un;show A.units+3+16*k+200<_;omega,r.gd⟩
theorem Room.depth{k:Nat}{A:Around}(r:Room k A):A.depth<recursionLimit:=by have:=r.dp;omega
theorem Room.units{k:Nat}{A:Around}(r:Room k A):A.units+64<cLine:=by have:=r.un;omega
abbrev vzl:TA:=λ_ H Q=>Q [] H
abbrev qzy(ta:TE)(tr:TA):TA:=fun σ H Q=>ta σ H λx H1=>tr σ H1 λxs H2=>Q (x::xs) H2
section
variable {X:Cx}{e:Expr}{es:List Expr}{te:TE}{t:TA}{pos:Pos}
theorem wZ:PA X [] vzl:=λ_ _ _ _ H Q I h=>Calls.spliced_nil ⟨[],H,I,.nil,h⟩
theorem v5(ha:PE X e te)(hr:PA X es t)(hs:autoParam (starEach (e::es) X.env=(false,eval e X.env)::starEach es X.env) Ŕ):PA X (e::es) (qzy te t):=by
 intro pos pins s σ H Q I h;rw[hs];show wpAny _ _ (spliced ((false,eval e X.env)::backTo pos (starEach es X.env))) _ _ s;refine Calls.spliced_cons (thn (ha pins s σ H _ I h) λu s1 ⟨x,H1,I1,r1,q1⟩=>?_);exact thn (hr pos pins s1 σ H1 _ I1 q1) λus s2 ⟨xs,H2,I2,r2,q2⟩=>⟨x::xs,H2,I2,.cons r1 r2,q2⟩
abbrev tTup(t:TA):TE:=fun σ H Q=>t σ H λxs H1=>xs.length<=sizeLine/\∀p,H1 p=none->Q (.ref p) (upd H1 p (.tup xs))
abbrev tLst(t:TA):TE:=fun σ H Q=>t σ H λxs H1=>xs.length<=sizeLine/\∀p,H1 p=none->Q (.ref p) (upd H1 p (.lst xs))
theorem qz5{x1}(h:PA X es t):PE X (.Tuple es x1 pos) (tTup t):=by
 intro pins s σ H Q I hq;refine wpAny_Tuple_spliced (thn (h pos pins s σ H _ I hq) λus s1 ⟨xs,H1,I1,r,z,q⟩=>⟨by rw[<-r.length];exact z,?_⟩);have hf:H1 s1.heap.objs.size=none:=I1.hok.fresh (Xg _);refine⟨.ref s1.heap.objs.size,upd H1 s1.heap.objs.size (.tup xs),I1.laid (t':=s1.toks) (λb u e=>X2 _ e) (Xg _) ?_,rfl,q _ hf⟩;exact⟨z,us,r,⟨_,Xd _ rfl,rfl,rfl,_,rfl⟩⟩
theorem vvu(h:PA X es t):PE X (.List es pos) (tLst t):=by
 intro pins s σ H Q I hq;refine wpAny_List_spliced (thn (h pos pins s σ H _ I hq) λus s1 ⟨xs,H1,I1,r,z,q⟩=>⟨by rw[<-r.length];exact z,?_⟩);have hf:H1 s1.heap.objs.size=none:=I1.hok.fresh (Xg _);refine⟨.ref s1.heap.objs.size,upd H1 s1.heap.objs.size (.lst xs),I1.laid (t':=s1.toks) (λb u e=>X2 _ e) (Xg _) ?_,rfl,q _ hf⟩;exact⟨z,us,0,r,Xd _ rfl⟩
end
abbrev Sp:=List V->Hp->VK->XK->Prop
abbrev CXT:=List Env->Hp->Shared->XK->Value->Shared->Prop
structure Env0 (P:Program)(w:World)(K:PySem.W.Frag)(mg:Str->Option Value)(base:Heap)(A:Around)(outer:List Env)(s:Shared)(H:Hp):Prop where
 frames:A.frames=some outer
 mod:Mod K mg base
 bs:∀b o,base.get? b=some o->s.heap.get? b=some o/\H b=none
 bsz:base.objs.size<=s.heap.objs.size
 funs:s.heap.FunFrames base outer
 frf:∀b∈frs outer,H b=none
 hok:HOk P w H s.heap
 bare:AllBare s.gens
noncomputable def CE(outer:List Env)(P:Program)(w:World)(H:Hp)(s:Shared)(Q:VK)(u:Value)(s':Shared):Prop:=
 ∃v H',s'.os=s.os/\AllBare s'.gens/\Un (frs outer) [] H H' s.heap s'.heap/\HOk P w H' s'.heap/\RelV v u/\Q v H'
noncomputable def CR(CX:CXT)(outer:List Env)(P:Program)(w:World)(H:Hp)(s:Shared)(Q:VK)(E:XK)(r:Result)(s':Shared):Prop:=
 match r with
 |.ok (.ret u)=>CE outer P w H s Q u s'
 |.ok _=>False
 |.error e=>CX outer H s E e s'
structure FnOk (P:Program)(w:World)(K:PySem.W.Frag)(mg:Str->Option Value)(base:Heap)(CX:CXT)(k:Nat)(f:Addr)(fd:FuncData)(ps:List Str)(sp:Sp):Prop where
 len:∀vs H Q E,sp vs H Q E->vs.length=ps.length
 run:∀(A:Around) (outer:List Env) (s:Shared) (H:Hp) (args:Args) (us:List Value) (vs:List V) (Q:VK) (E:XK),Room k A->Env0 P w K mg base A outer s H->BindsTo s fd args (ps.zip us)->Vals vs us->sp vs H Q E ->
  codeAny (model P w) A (.call (.ref f) args) (CR CX outer P w H s Q E) s
section
variable {X:Cx}{pins:List (Addr×Obj)}{σ:St}{H:Hp}{s s':Shared}
theorem Inv.env0(I:Inv X pins σ H s):Env0 X.prog X.w X.K X.mg X.base X.A X.stack s H:=
 ⟨I.ok.frames,I.ok.mod,I.bs,Xs I.ok.bsz I.sz,I.stack,I.stkFree,I.hok,I.bare⟩
theorem Inv.after{Q:VK}{u:Value}(I:Inv X pins σ H s)(h:CE X.stack X.prog X.w H s Q u s'):EP X pins σ Q u s':=by
 obtain⟨v,H',os,bare,un,hok,r,q⟩:=h;obtain⟨hh,g,d,t,os'⟩:=s';obtain rfl:os'=s.os:=os;exact⟨v,H',I.call (h':=hh) (g':=g) (d':=d) (t':=t) (ch:=[]) un hok bare (λb z=>absurd z (by simp)),r,q⟩
end
abbrev qzz(sp:Sp)(jt:List V)(E:XK)(t:TA):TE:=fun σ H Q=>t σ H λvs H1=>sp (vs++jt) H1 Q E
noncomputable def Binds(K:PySem.W.Frag)(fd:FuncData)(ps:List Str)(ds:List Value):Prop:=
 ∀(s:Shared) (us:List Value),K.In s.heap->(us++ds).length=ps.length->BindsTo s fd ⟨us,[]⟩ (ps.zip (us++ds))
theorem Binds.all{K:PySem.W.Frag}{fd:FuncData}{ps:List Str}(h:∀us:List Value,us.length=ps.length->bindArgs fd ⟨us,[]⟩=pure (ps.zip us)):Binds K fd ps []:=λs us _ hl=>by
 rw[Y9]at hl ⊢;exact .of_eq (h us hl)
noncomputable def qvz(CX:CXT)(X:Cx)(E:XK):Prop:=∀(pins:List (Addr×Obj)) (σ:St) (H:Hp) (s:Shared) (e:Value) (s':Shared),Inv X pins σ H s->CX X.stack H s E e s'->X.xe e s'
section
variable {X:Cx}{CX:CXT}{k:Nat}{f C:Addr}{fd:FuncData}{ps:List Str}{sp:Sp}{jt:List V}{ds:List Value}{E:XK}{x m:Str}{p pos be:Pos}{e o:Expr}{es:List Expr}{ta:TE}{t:TA}
theorem vqu{pins:List (Addr×Obj)}{σ:St}{H:Hp}{s:Shared}{Q:VK}{us:List Value}{vs:List V}(F:FnOk X.prog X.w X.K X.mg X.base CX k f fd ps sp)(hr:Room k X.A)(hb:Binds X.K fd ps ds)(hd:Vals jt ds)(hx:qvz CX X E)
  (I:Inv X pins σ H s) (r:Vals vs us) (h:sp (vs++jt) H Q E):wpAny (model X.prog X.w) X.A (call (.ref f) us) (EP X pins σ Q) X.xe s:=by
 have r2:Vals (vs++jt) (us++ds):=r.append hd;have hl:(us++ds).length=ps.length:=by rw[<-r2.length];exact F.len _ _ _ _ h
 refine wpAny_call (codeAny_mono (F.run X.A X.stack s H ⟨us,[]⟩ (us++ds) (vs++jt) Q E hr I.env0 (hb s us I.kIn hl) r2 h) λr s' hq=>?_);cases r with
 |error e=>exact hx pins σ H s e s' I hq
 |ok fl=>
  cases fl with
  |ret u=>exact I.after hq
  |next=>exact False.elim hq
  |brk=>exact False.elim hq
  |cont=>exact False.elim hq
theorem vjs(F:FnOk X.prog X.w X.K X.mg X.base CX k f fd ps sp)(hr:Room k X.A)(hg:Gl X x)(hm:X.mg x=some (.ref f))(hk:PySem.W.keepIn X.K (.ref f)=true)(hb:Binds X.K fd ps ds)(hd:Vals jt ds)(hx:qvz CX X E)
  (ha:PA X (e::es) t) (d8:autoParam ((x==("__debug__":Str))=false) ŕ) (he:autoParam (starEach (e::es) X.env=(false,eval e X.env)::starEach es X.env) Ŕ) (bq:autoParam ((backTo pos (starEach es X.env)).any (·.1)=false) Ŕ):
  PE X (.Call (.Name x p) (e::es) [] pos) (qzz sp jt E t):=by
 intro pins s σ H Q I h;refine Yq (WQ I hg hm ?_ d8);refine PySem.W.callWith_K (h₀:=X.base) I.ok.mod.kin hk (thn (ha pos pins s σ H _ I h) λus s1 ⟨vs,H1,I1,r,q⟩=>⟨I1.kIn,?_⟩) he bq;exact vqu F hr hb hd hx I1 r q
end
structure FnScope (N P:List Str)(sc:Scope):Prop where
 kind:sc.kind=.function
 co:sc.isCoroutine=false
 gen:sc.isGenerator=false
 nd:N.Nodup
 pre:N.take P.length=P
 par:∀x∈P,sc.names.lookup x=some .local\/sc.names.lookup x=some .cell
 nofree:∀y∈sc.names,y.2≠.free
theorem kw0{kindOf : Str -> Option NameKind}{x : Str}: ∀{binds : List (Str × Value)} {m : Str -> Option Value}, (∀v, (x, v)∉binds) -> bindL kindOf binds m x = m x
  | [], _, _=>rfl
  | (n, v)::r, m, h=>by
    unfold bindL;rw[kw0 λw hw=>h w (lc9 _ hw)]
    split
    · have : x≠n:= by rintro rfl; exact h v X6
      simp[this]
    · rfl
theorem kw2{kindOf : Str -> Option NameKind}{x : Str}: ∀{binds : List (Str × Value)} {m : Str -> Option Value}, (∀v, (x, v)∉binds) -> bindC kindOf binds m x = m x
  | [], _, _=>rfl
  | (n, v)::r, m, h=>by
    unfold bindC;rw[kw2 λw hw=>h w (lc9 _ hw)]
    split
    · rfl
    · have : x≠n:= by rintro rfl; exact h v X6
      simp[this]
theorem kw1{kindOf:Str->Option NameKind}{x:Str}{v:Value}:∀{P:List Str} {vs:List Value} {i:Nat} {m:Str->Option Value},P.Nodup->P[i]?=some x->vs[i]?=some v->kindOf x=some .local ->
  bindL kindOf (P.zip vs) m x=some v
 |[],_,_,_,_,h,_,_=>by simp at h
 |_::_,[],_,_,_,_,h,_=>by simp at h
 |p::P,w::vs,0,m,nd,h1,h2,hk=>by
  simp at h1 h2;subst h1;subst h2;show bindL kindOf ((p,w)::P.zip vs) m p=_;unfold bindL;rw[kw0 λv hv=>(List.nodup_cons.mp nd).1 (List.of_mem_zip hv).1,Xe hk];simp
 |p::P,w::vs,i+1,m,nd,h1,h2,hk=>by
  show bindL kindOf ((p,w)::P.zip vs) m x=_;unfold bindL;exact kw1 (i:=i) (List.nodup_cons.mp nd).2 (by simpa using h1) (by simpa using h2) hk
theorem kw3{kindOf:Str->Option NameKind}{x:Str}{v:Value}:∀{P:List Str} {vs:List Value} {i:Nat} {m:Str->Option Value},P.Nodup->P[i]?=some x->vs[i]?=some v->kindOf x≠some .local ->
  bindC kindOf (P.zip vs) m x=some v
 |[],_,_,_,_,h,_,_=>by simp at h
 |_::_,[],_,_,_,_,h,_=>by simp at h
 |p::P,w::vs,0,m,nd,h1,h2,hk=>by
  simp at h1 h2;subst h1;subst h2;show bindC kindOf ((p,w)::P.zip vs) m p=_;unfold bindC;rw[kw2 λv hv=>(List.nodup_cons.mp nd).1 (List.of_mem_zip hv).1,Xl hk];simp
 |p::P,w::vs,i+1,m,nd,h1,h2,hk=>by
  show bindC kindOf ((p,w)::P.zip vs) m x=_;unfold bindC;exact kw3 (i:=i) (List.nodup_cons.mp nd).2 (by simpa using h1) (by simpa using h2) hk
def start(N:List Str)(vs:List V):St:=vs.map some++List.replicate (N.length - vs.length) none
noncomputable def zJ(CX:CXT)(P:Program)(w:World)(K:PySem.W.Frag)(mg:Str->Option Value)(base:Heap)(N:List Str)(qual:Str)(scope:Scope)(f:Addr)(cd:Value)(A:Around)(outer:List Env)(s:Shared)(H:Hp)(E:XK):Cx where
 prog:=P
 w:=w
 K:=K
 mg:=mg
 base:=base
 A:=A.deeper (envOfC qual scope s.heap.objs.size f cd)
 N:=N
 s₀:=s
 H₀:=H
 env:=envOfC qual scope s.heap.objs.size f cd
 outer:=outer
 stack:=envOfC qual scope s.heap.objs.size f cd::outer
 ex:=[]
 calm:=true
 fn:=λ_=>true
 pn:=[]
 xe:=λe s'=>wpAny (model P w) (A.deeper (envOfC qual scope s.heap.objs.size f cd)) (leaving (envOfC qual scope s.heap.objs.size f cd) e) (λ_ kr=>CX outer H s E e kr) (λe' kr=>CX outer H s E e' kr) s'
theorem kzh{sc:Scope}{n:Nat}{x:Str}(h:sc.names.lookup x=some .cell):∃c,(cellsFrom n sc.names []).lookup x=some c:=by
 have q:=PySem.W.cellsFrom_some sc.names n [] (.inl h);exact Option.isSome_iff_exists.mp q
theorem qqp{CX:CXT}{P:Program}{w:World}{K:PySem.W.Frag}{mg:Str->Option Value}{base:Heap}{N ps:List Str}{qual:Str}{scope:Scope}{f:Addr}{cd:Value}{A:Around}{outer:List Env}{s s1:Shared}{H:Hp}{E:XK}{us:List Value}{vs:List V}
  (S:FnScope N ps scope) (hd:A.handled=none) (e0:Env0 P w K mg base A outer s H) (hl:vs.length=ps.length) (r:Vals vs us)
  (x:InCallC s s.heap.objs.size (bindL (envOfC qual scope s.heap.objs.size f cd).kindOf (ps.zip us) λ_=>none) (cellsFrom (s.heap.objs.size+1) scope.names []) (bindC (envOfC qual scope s.heap.objs.size f cd).kindOf (ps.zip us) λ_=>none) s1):
  Inv (zJ CX P w K mg base N qual scope f cd A outer s H E) [] (start N vs) H s1:=by
 have bq:ps.length<=N.length:=by have:=congrArg List.length S.pre;rw[Y2]at this;omega
 obtain⟨h1,tk,rfl,hk⟩:=x.done;have nz:∀b:Addr,b∉(zJ CX P w K mg base N qual scope f cd A outer s H E).ex:=λb z=>absurd (show b∈([]:List Addr)from z) (by simp)
 refine⟨⟨e0.mod,S.kind,rfl,rfl,Xg _,λy z c h1 h2=>?_,λy hy=>?_,λy c _ h=>?_,λ_=>hd,Around.frames_deeper e0.frames,.inr ⟨rfl,rfl⟩,λb z=>absurd z (nz b),e0.bs,e0.bsz,λb _ _=>nz b,λb z=>absurd z (nz b),e0.funs,e0.frf⟩,
  rfl,e0.bare,Un.kept hk,⟨_,x.toInCall.ns,λi y v h1 h2 h3=>?_⟩,λy c h=>⟨_,x.cell y c h⟩,e0.hok.fresh (Xg _),λy c h=>?_,λp hp=>absurd (show p∈([]:List (Addr×Obj))from hp) (by simp),e0.hok.kept hk,?_⟩
 ·exact name_of_addr x.apart (Yi h1) (Yi h2)
 ·have hy:scope.names.lookup y=some .cell\/scope.names.lookup y=some .free:=hy;rcases hy with hy|hy
  ·exact kzh hy
  ·exact absurd rfl (S.nofree _ (Yi hy))
 ·exact Nat.le_of_lt (x.above y c (Yi h))
 ·have hi:i<vs.length:=by
   unfold start at h2
   by_cases hi:i<vs.length
   ·exact hi
   ·rw[List.getElem?_append_right (by simpa using hi)]at h2;rw[List.getElem?_replicate]at h2
    split at h2<;>cases h2
  have ha:vs[i]?=some v:=by
   unfold start at h2;rw[List.getElem?_append_left (by simpa using hi),Xh]at h2;cases e:vs[i]? with
   |none=>rw[e]at h2;cases h2
   |some a=>rw[e]at h2;cases h2;rfl
  obtain⟨u,hu,rv⟩:=r.get ha;have hp:ps[i]?=some y:=by
   rw[<-S.pre,List.getElem?_take_of_lt (by omega)];exact h1
  have ndP:ps.Nodup:=by rw[<-S.pre];exact S.nd.sublist (List.take_sublist _ _)
  refine⟨u,rv,?_⟩;rcases S.par y (List.mem_of_getElem? hp)with k|k
  ·exact .inl ⟨k,kw1 ndP hp hu k⟩
  ·obtain⟨c,e⟩:=kzh (n:=s.heap.objs.size+1) k;refine .inr ⟨.inl k,c,e,?_⟩;have q:=x.cell y c e;rw[kw3 ndP hp hu (by show scope.names.lookup y≠_;rw[k];decide)]at q;exact q
 ·exact e0.hok.fresh (Nat.le_of_lt (x.above y c (Yi h)))
 ·unfold start;show _=N.length;rw[Xv,X4,Yf];omega
theorem wju{CX:CXT}{P:Program}{w:World}{K:PySem.W.Frag}{mg:Str->Option Value}{base:Heap}{k:Nat}{f:Addr}{name qual:Str}{params:Arguments}{body:List Stmt}{scope:Scope}{dV kV fj pm bf ct oc:Value}{an od:Option Addr}
  {jc:Array (Option Value)} {N ps:List Str} {sp:Sp} (lk:K.lookup f=some ⟨oc,od,.func (PySem.W.fnOf name qual params body scope dV kV fj pm an bf ct),jc⟩) (fz:PySem.W.codeIn K bf qual=true) (S:FnScope N ps scope)
  (len:∀vs H Q E,sp vs H Q E->vs.length=ps.length)
  (ik:∀(A:Around) (outer:List Env) (s:Shared) (H:Hp) (vs:List V) (Q:VK) (E:XK),Room k (A.deeper (envOfC qual scope s.heap.objs.size f bf))->sp vs H Q E ->
   ∃t,PSs (zJ CX P w K mg base N qual scope f bf A outer s H E) body t/\t { nx:=λ_ H'=>Q .non H',rt:=Q } (start N vs) H):
  FnOk P w K mg base CX (k+1) f (PySem.W.fnOf name qual params body scope dV kV fj pm an bf ct) ps sp:=by
 refine⟨len,λA outer s H args us vs Q E hr e0 hb r iu=>?_⟩;have hl:=len _ _ _ _ iu;have KX:K.In s.heap:=e0.mod.kin.keeps λb o e=>(e0.bs b o e).1
 have lim:s.heap.NoLimit:=e0.mod.nolimit.keeps λb o e=>(e0.bs b o e).1
 have m8:∀y∈ps.zip us,scope.names.lookup y.1=some .local\/(scope.names.lookup y.1=some .cell/\((cellsFrom (s.heap.objs.size+1) scope.names []).lookup y.1).isSome=true):=λ⟨n,v⟩ hy=>by
  rcases S.par n (List.of_mem_zip hy).1 with q|q
  ·exact .inl q
  ·exact .inr ⟨q,PySem.W.cellsFrom_some _ _ _ (.inl q)⟩
 refine codeAny_call_function hr.depth (KX _ _ lk) rfl S.co S.gen rfl (PySem.W.codeRec_of KX fz) (hb _ _ _ _ ?_);refine wpAny_newFunctionEnv_cells S.kind m8 λenv he s1 x=>?_
 subst he;refine⟨lim.keeps x.toInCall.keep,codeAny_func ?_⟩;obtain⟨t,ht,hq⟩:=ik A outer s H vs Q E (hr.deeper _) iu;have I:Inv (zJ CX P w K mg base N qual scope f bf A outer s H E) [] (start N vs) H s1:=qqp S hr.hd e0 hl r x;refine wpAny_mono (ht [] s1 (start N vs) H _ I hq) (λfl s' hs=>?_) λe s' hs=>hs
 have fin:∀{σ':St} {H':Hp} {v:V} {u:Value},Inv (zJ CX P w K mg base N qual scope f bf A outer s H E) [] σ' H' s'->RelV v u->Q v H'->CE outer P w H s Q u s':=
  fun {σ' H' v u} J rv q=>⟨v,H',J.os,J.bare,J.base,J.hok,rv,q⟩
 cases fl with
 |ret u=>
  obtain⟨v,σ',H',J,rv,q⟩:=hs;exact fin J rv q
 |next=>
  obtain⟨σ',H',J,q⟩:=hs;exact fin (v:=V.non) (u:=Value.none) J rfl q
 |brk=>
  obtain⟨_,_,_,q⟩:=hs;exact False.elim q
 |cont=>
  obtain⟨_,_,_,q⟩:=hs;exact False.elim q
section
variable {X:Cx}{x:Str}{p pos:Pos}{e:Expr}{es:List Expr}{t:TA}{id T:String}{r:List V->Hp->VK->Prop}
abbrev tCB(r:List V->Hp->VK->Prop)(t:TA):TE:=fun σ H Q=>t σ H λvs H1=>r vs H1 Q
theorem jzq(hc:CallR X (.builtin id) r)(hg:Gl X x)(hm:X.mg x=none)(hv:bootBuiltins x=some (.builtin id))(ha:PA X (e::es) t)(hn:autoParam (x≠"__name__") ŕ)(d8:autoParam ((x==("__debug__":Str))=false) ŕ)
  (he:autoParam (starEach (e::es) X.env=(false,eval e X.env)::starEach es X.env) Ŕ) (bq:autoParam ((backTo pos (starEach es X.env)).any (·.1)=false) Ŕ):PE X (.Call (.Name x p) (e::es) [] pos) (tCB r t):=by
 intro pins s σ H Q I h;refine Yq (W3 I hg hm hv ?_ hn d8);exact PyProof.Rows.callWith_builtin1 (thn (ha pos pins s σ H _ I h) λus s1 ⟨vs,H1,I1,r1,q1⟩=>hc pins s1 σ H1 vs us Q I1 r1 q1) he bq
theorem qkx(hc:CallR X (.type T) r)(hg:Gl X x)(hm:X.mg x=none)(hv:bootBuiltins x=some (.type T))(ha:PA X (e::es) t)(hn:autoParam (x≠"__name__") ŕ)(d8:autoParam ((x==("__debug__":Str))=false) ŕ)
  (he:autoParam (starEach (e::es) X.env=(false,eval e X.env)::starEach es X.env) Ŕ) (bq:autoParam ((backTo pos (starEach es X.env)).any (·.1)=false) Ŕ):PE X (.Call (.Name x p) (e::es) [] pos) (tCB r t):=by
 intro pins s σ H Q I h;refine Yq (W3 I hg hm hv ?_ hn d8);exact PyProof.Rows.callWith_type1 (thn (ha pos pins s σ H _ I h) λus s1 ⟨vs,H1,I1,r1,q1⟩=>hc pins s1 σ H1 vs us Q I1 r1 q1) he bq
end
end L2
namespace HT
open PySem PyProof.Rows
section
variable {prog:Program}{w:World}{A:Around}{E:Value->Shared->Prop}{s:Shared}
theorem cat_tup{t b:Addr}{vs ws:List Value}{Q:Value->Shared->Prop}(ht:IsTup s.heap t vs.toArray)(hb:IsTup s.heap b ws.toArray)(hv:vs≠[])
  (h1:ws=[]->Q (.ref t) s) (h2:ws≠[]->Q (.ref s.heap.objs.size) { s with heap:=s.heap.push { cls:=.type "tuple",data:=.seq (vs++ws).toArray } })
  (hsz:vs.length+ws.length<=sizeLine):wpAny (model prog w) A (binaryOp .Add (.ref t) (.ref b)) Q E s:=by
 obtain⟨⟨cls,dd,data,sl⟩,ho,hc,n,hd⟩:=id ht;obtain⟨⟨cls2,dd2,data2,m4⟩,ho2,hc2,n2,fw⟩:=id hb;simp only at hc hd hc2 fw;subst hc hd hc2 fw;have e:vs.toArray++ws.toArray=(vs++ws).toArray:=by simp
 by_cases hw:ws=[]
 ·exact concat_meets ⟨_,ho,rfl⟩ ⟨_,ho2,rfl⟩ noFill_tuple_add seq_tuple_add PySem.F.slot_tuple_add PySem.F.entry_tuple_add (PySem.F.args_tuple_add_2 _ _)
   (tuple_addW1 t b vs.toArray ws.toArray n n2 dd dd2 sl m4 (by simpa using hv) (by simp[hw])) ⟨ho,ho2,h1 hw⟩
 ·refine concat_meets ⟨_,ho,rfl⟩ ⟨_,ho2,rfl⟩ noFill_tuple_add seq_tuple_add PySem.F.slot_tuple_add PySem.F.entry_tuple_add (PySem.F.args_tuple_add_2 _ _)
   (tuple_addW2 t b vs.toArray ws.toArray n n2 dd dd2 sl m4 (by simpa using hv) (by simpa using hw) (by rw[X7,X7];exact hsz)) ⟨ho,ho2,?_⟩
  rw[e];exact h2 hw
def sIx(n d:Nat):Option Int->Nat
 |none=>d
 |some v=>if v<0 then(v+(n:Int)).toNat else min v.toNat n
theorem vqt(n d:Nat)(hd:d<=n)(o:Option Int):sIx n d o<=n:=by
 cases o with
 |none=>exact hd
 |some v=>
  show(if v<0 then(v+(n:Int)).toNat else min v.toNat n)<=n
  by_cases hv:v<0
  ·rw[Xe hv];omega
  ·rw[Xl hv];exact Nat.min_le_right _ _
theorem qve(v:Int)(n d:Nat):(if v<0 then max (v+(n:Int)) 0 else min v (n:Int))=((sIx n d (some v):Nat):Int):=by
 show(if v<0 then max (v+(n:Int)) 0 else min v (n:Int))=(((if v<0 then(v+(n:Int)).toNat else min v.toNat n):Nat):Int)
 by_cases hv:v<0
 ·simp only[Xe hv];omega
 ·simp only[Xl hv];omega
theorem qjp(lo hi:Option Int)(n:Nat):Builtin.Slice.sliceAdjust lo hi 1 (n:Int)=(((sIx n 0 lo:Nat):Int),((sIx n n hi:Nat):Int)):=by
 have h1:¬((1:Int)<0):=by omega
 unfold Builtin.Slice.sliceAdjust;simp only[h1,if_false];refine Prod.ext ?_ ?_
 ·cases lo with
  |none=>rfl
  |some v=>exact qve v n 0
 ·cases hi with
  |none=>rfl
  |some v=>exact qve v n n
theorem qj5(i j:Nat):Builtin.Slice.slicePlaces (i:Int) (j:Int) 1=j - i:=by
 unfold Builtin.Slice.slicePlaces;have h1:(1:Int)>0:=by omega
 simp only[h1,if_true,Int.ediv_one]
 split<;>omega
theorem kka{v:Value}{o:Option Int}{Q:Option Int->Shared->Prop}(p:IsPart v o)(h:Q o s):wpAny (model prog w) A (Builtin.Slice.slicePartIndex v) Q E s:=by
 cases p with
 |none=>exact slicePart_none h
 |int i t=>exact slicePart_int h
theorem jzd{sl:Addr}{vl vu:Value}{lo hi:Option Int}{n:Nat}{Q:Int×Int×Nat->Shared->Prop}(hs:s.heap.IsSliceOf sl vl vu .none)(pl:IsPart vl lo)(pu:IsPart vu hi)
  (h:Q (((sIx n 0 lo:Nat):Int),1,sIx n n hi - sIx n 0 lo) s):wpAny (model prog w) A (Builtin.Slice.sliceApplied (.ref sl) (pure (n:Int))) Q E s:=by
 obtain⟨os,gy,kd,eh⟩:=id hs;unfold Builtin.Slice.sliceApplied Builtin.Slice.sliceFields;refine X0 (X0 (Yw gy eh (x:=vl) rfl (X0 (Yw gy eh (x:=vu) rfl (X0 (Yw gy eh (x:=.none) rfl (X3 ?_)))))));refine X0 (slicePart_none ?_);show wpAny _ _ (if((1:Int)==0)=true then _ else _) _ _ s;rw[Xl (by decide)];refine X0 (kka pl (X0 (kka pu (X0 (X3 ?_)))));show wpAny _ _ (match Builtin.Slice.sliceAdjust lo hi 1 (n:Int)with|(lo,hi)=>pure (lo,(1:Int),Builtin.Slice.slicePlaces lo hi 1)) _ _ s;rw[qjp lo hi n];show wpAny _ _ (pure (((sIx n 0 lo:Nat):Int),(1:Int),Builtin.Slice.slicePlaces ((sIx n 0 lo:Nat):Int) ((sIx n n hi:Nat):Int) 1)) _ _ s;rw[qj5];exact X3 h
theorem qwr(xs:Array Value)(i k:Nat):((List.range k).filterMap λ(m:Nat)=>xs[((i:Int)+(m:Int)*1).toNat]?).toArray=((xs.toList.drop i).take k).toArray:=by
 have e:(λ(m:Nat)=>xs[((i:Int)+(m:Int)*1).toNat]?)=λm=>xs[i+m]?:=by
  funext m;have:((i:Int)+(m:Int)*1).toNat=i+m:=by omega
  rw[this]
 rw[e];have:=pick_run xs i k;rw[List.filterMap_map]at this;have e2:((λx=>xs[x]?)∘λx=>i+x)=λm=>xs[i+m]?:=rfl
 rw[e2]at this;rw[this]
theorem getItem_tuple_cut{t sl:Addr}{items:Array Value}{vl vu:Value}{lo hi:Option Int}{Q:Value->Shared->Prop}(ht:IsTup s.heap t items)(hs:s.heap.IsSliceOf sl vl vu .none)(pl:IsPart vl lo)(pu:IsPart vu hi)
  (hw:¬(sIx items.size 0 lo=0/\sIx items.size items.size hi=items.size))
  (h:Q (.ref s.heap.objs.size) { s with heap:=s.heap.push { cls:=.type "tuple",data:=.seq ((items.toList.drop (sIx items.size 0 lo)).take (sIx items.size items.size hi - sIx items.size 0 lo)).toArray } })
  (hsz:items.size<=sizeLine):wpAny (model prog w) A (getItem (.ref t) (.ref sl)) Q E s:=by
 have gp:sizeOk (.seq ((items.toList.drop (sIx items.size 0 lo)).take (sIx items.size items.size hi - sIx items.size 0 lo)).toArray):=by
  show((items.toList.drop (sIx items.size 0 lo)).take (sIx items.size items.size hi - sIx items.size 0 lo)).toArray.size<=sizeLine;rw[X7,Y2,Yb,Xa];omega
 have hj:sIx items.size items.size hi<=items.size:=vqt _ _ (Xg _) hi;obtain⟨os,gy,kd,eh⟩:=id hs;have hTs:s.TypeIs (.ref sl) "slice":=⟨os,gy,kd⟩;unfold getItem
 try with_reducible refine Y1 ?_
 first|refine X0 (X3 ?_)|skip
 refine X0 (wpAny_sequenceKey ht.typeIs (by decide) ?_);refine X0 (Yn (name:=Str.ofString "__getitem__") ht.typeIs PyProof.Rows.slot_tuple_getitem
  (Yc PyProof.Rows.slot_tuple_getitem ht.typeIs entry_tuple_getitem ?_ (args_tuple_getitem _ _)))
 show wpAny _ _ (Builtin.Tuple.tupleItemsOf (.ref t) >>= _) _ _ s;refine X0 (tupleItemsOf_ ht ?_);refine X0 (wpAny_typeOf hTs ?_);rw[Xe (by decide)];refine X0 (jzd hs pl pu ?_);have jg:¬((((sIx items.size 0 lo:Nat):Int)==0&&(1:Int)==1&&(sIx items.size items.size hi - sIx items.size 0 lo)==items.size)=true):=by
  intro q;rw[Bool.and_eq_true,Bool.and_eq_true]at q;have q1:((sIx items.size 0 lo:Nat):Int)=0:=eq_of_beq q.1.1;have q2:sIx items.size items.size hi - sIx items.size 0 lo=items.size:=eq_of_beq q.2;exact hw ⟨by omega,by omega⟩
 show wpAny _ _ (if(((sIx items.size 0 lo:Nat):Int)==0&&(1:Int)==1&&(sIx items.size items.size hi - sIx items.size 0 lo)==items.size)=true then _ else _) _ _ s;rw[Xl jg,qwr]
 first
  |exact X0 (m:=Builtin.Tuple.tupleExact _) (Xq (X3 ⟨_,rfl,X3 h⟩) gp)
  |exact X0 (m:=Builtin.Tuple.tupleExact _) (Xq (X0 (X3 (X3 ⟨_,rfl,X3 h⟩))) gp)
  |exact X0 (X0 (m:=Builtin.Tuple.tupleExact _) (Xq (X3 (X3 ⟨_,rfl,X3 h⟩)) gp))
  |exact X0 (X0 (m:=Builtin.Tuple.tupleExact _) (Xq (X3 ⟨_,rfl,X3 h⟩) gp))
end
end HT
namespace L2
open PySem PySem.Spec PyProof.Rows
abbrev TO:=St->Hp->(Option Int->Hp->Prop)->Prop
noncomputable def PO(X:Cx)(e:Option Expr)(t:TO):Prop:=
 ∀(pins:List (Addr×Obj)) (s:Shared) (σ:St) (H:Hp) (Q:Option Int->Hp->Prop),Inv X pins σ H s->t σ H Q ->
  wpAny (model X.prog X.w) X.A (evalPart e X.env) (λu s'=>∃o H',Inv X pins σ H' s'/\IsPart u o/\Q o H') X.xe s
abbrev qk1:TO:=λ_ H Q=>Q none H
abbrev vqf(t:TE):TO:=fun σ H Q=>t σ H λx H1=>∃i,x=.int i/\Q (some i) H1
theorem qje{ns:List Int}:∀{us:List Value},Vals (ns.map V.int) us->IntsAre us ns:=by
 induction ns with
 | nil=>intro us r;rw[List.map_nil]at r;cases r;exact .nil
 | cons n ns ih=>
  intro us r;rw[List.map_cons]at r;cases r with
  |cons r1 r2=>
   obtain⟨t,e⟩:=r1;subst e;exact .cons n t (ih r2)
section
variable {X:Cx}{e:Expr}{te:TE}{lo hi:Option Expr}{tl th:TO}{pos p2:Pos}
theorem vjo:PO X none qk1:=by
 intro pins s σ H Q I h;rw[evalPart_none];exact X3 ⟨none,H,I,.none,h⟩
theorem vjn(h:PE X e te):PO X (some e) (vqf te):=by
 intro pins s σ H Q I hw;rw[evalPart_some];refine thn (h pins s σ H _ I hw) λu s1 ⟨x,H1,I1,r1,q1⟩=>?_
 obtain⟨i,rfl,q⟩:=q1;obtain⟨t,rfl⟩:=r1;exact⟨some i,H1,I1,.int i t,q⟩
noncomputable def SlR(X:Cx)(r:V->Option Int->Option Int->Hp->VK->Prop):Prop:=
 ∀(pins:List (Addr×Obj)) (s:Shared) (σ:St) (H:Hp) (x:V) (v vl vu:Value) (lo hi:Option Int) (sl:Addr) (Q:VK),Inv X pins σ H s->RelV x v->s.heap.IsSliceOf sl vl vu .none->IsPart vl lo->IsPart vu hi->r x lo hi H Q ->
  ∃T id,typeLookup (.type T) "__getitem__"=pure (some (.builtin id))/\s.TypeIs v T/\wpAny (model X.prog X.w) X.A (getItem v (.ref sl)) (EP X pins σ Q) X.xe s
theorem SlR.or{r r':V->Option Int->Option Int->Hp->VK->Prop}(h:SlR X r)(h':SlR X r'):SlR X (λx lo hi H Q=>r x lo hi H Q\/r' x lo hi H Q):=by
 intro pins s σ H x v vl vu lo hi sl Q I rx hs pl pu q;rcases q with q|q
 ·exact h pins s σ H x v vl vu lo hi sl Q I rx hs pl pu q
 ·exact h' pins s σ H x v vl vu lo hi sl Q I rx hs pl pu q
abbrev tSl(r:V->Option Int->Option Int->Hp->VK->Prop)(te:TE)(tl th:TO):TE:=fun σ H Q=>te σ H λx H1=>tl σ H1 λl H2=>th σ H2 λu H3=>r x l u H3 Q
theorem qwt{r:V->Option Int->Option Int->Hp->VK->Prop}(hr:SlR X r)(he:PE X e te)(hl:PO X lo tl)(hu:PO X hi th):PE X (.Subscript e (.Slice lo hi none p2) pos) (tSl r te tl th):=by
 intro pins s σ H Q I h;refine Subscript_ (thn (he pins s σ H _ I h) λv s1 ⟨x,H1,I1,r1,q1⟩=>?_);refine wpAny_Slice (thn (hl pins s1 σ H1 _ I1 q1) λvl s2 ⟨l,H2,I2,pl,q2⟩=>thn (hu pins s2 σ H2 _ I2 q2) λvu s3 ⟨u,H3,I3,pu,q3⟩=>?_);rw[evalPart_none];refine X3 ?_;have I4:Inv X pins σ H3 { s3 with heap:=s3.heap.push { cls:=.type "slice",data:=.fields #[vl,vu,.none] } }:=I3.kept (t':=s3.toks) λb ob q=>X2 _ q
 obtain⟨T,id,hT,ht,hg⟩:=hr pins { s3 with heap:=s3.heap.push { cls:=.type "slice",data:=.fields #[vl,vu,.none] } } σ H3 x v vl vu l u s3.heap.objs.size Q I4 r1 (Heap.IsSliceOf.new ..) pl pu q3;show wpAny (model X.prog X.w) X.A (subscriptTail e (.Slice lo hi none p2) v (.ref s3.heap.objs.size)) (EP X pins σ Q) X.xe { s3 with heap:=s3.heap.push { cls:=.type "slice",data:=.fields #[vl,vu,.none] } };exact tail_any (ops:=[.ref s3.heap.objs.size,v]) ht hT hg (by with_unfolding_all rfl)
noncomputable def Q2(xs:List V)(lo hi:Option Int):List V:=(xs.drop (HT.sIx xs.length 0 lo)).take (HT.sIx xs.length xs.length hi - HT.sIx xs.length 0 lo)
theorem kjq(xs:List V)(lo hi:Option Int):(Q2 xs lo hi).length<=xs.length:=by
 unfold Q2;rw[Y2,Yb];omega
noncomputable def wkn(K:PySem.W.Frag):V->Option Int->Option Int->Hp->VK->Prop:=λx lo hi H Q=>∃a xs,x=.ref a/\SqT K H a xs /\
 ¬(HT.sIx xs.length 0 lo=0/\HT.sIx xs.length xs.length hi=xs.length)/\∀p,H p=none->Q (.ref p) (upd H p (.tup (Q2 xs lo hi)))
theorem sl_tup:SlR X (wkn X.K):=by
 intro pins s σ H x v vl vu lo hi sl Q I rx hs pl pu h;obtain⟨a,xs,rfl,hx,hw,q⟩:=h;cases rx;obtain⟨ag,r,ht,hz⟩:=I.tuple hx;have ax:ag.toArray.size=xs.length:=by rw[X7];exact r.length.symm
 refine⟨"tuple",_,PyProof.Rows.slot_tuple_getitem.lookup,ht.typeIs,?_⟩;refine HT.getItem_tuple_cut ht hs pl pu (by rw[ax];exact hw) ?_ (by rw[ax];exact hz);rw[ax];refine⟨.ref s.heap.objs.size,_,I.laid (t':=s.toks) (o:=.tup (Q2 xs lo hi)) (λb ob q=>X2 _ q) (Xg _) ?_,rfl,q _ (I.hok.fresh (Xg _))⟩;exact⟨Xs (kjq xs lo hi) hz,_,(r.drop (HT.sIx xs.length 0 lo)).take (HT.sIx xs.length xs.length hi - HT.sIx xs.length 0 lo),IsTupD.new _ _⟩
noncomputable def vv2(K:PySem.W.Frag):R2:=λx y H Q=>∃a b xs ys,x=.ref a/\y=.ref b/\SqT K H a xs/\SqT K H b ys/\xs≠[]/\xs.length+ys.length<=sizeLine /\
 (ys=[]->Q (.ref a) H)/\(ys≠[]->∀p,H p=none->Q (.ref p) (upd H p (.tup (xs++ys))))
theorem Vals.nil_iff{xs:List V}{us:List Value}(r:Vals xs us):us=[]↔xs=[]:=by
 cases r with
 |nil=>simp
 |cons _ _=>simp
theorem vjy:OpR X (binaryOp .Add) (vv2 X.K):=by
 intro pins s σ H x y v u Q I rx ry h;obtain⟨a,b,xs,ys,rfl,rfl,ha,hb,hx,hz,q1,q2⟩:=h;cases rx;cases ry;obtain⟨ag,r1,p1,_⟩:=I.tuple ha;obtain⟨ij,r2,p2,_⟩:=I.tuple hb;refine HT.cat_tup p1 p2 (λz=>hx (r1.nil_iff.mp z)) (λz=>⟨.ref a,H,I,rfl,q1 (r2.nil_iff.mp z)⟩) (λz=>?_) (by rw[<-r1.length,<-r2.length];exact hz);refine⟨.ref s.heap.objs.size,_,I.laid (t':=s.toks) (o:=.tup (xs++ys)) (λb ob q=>X2 _ q) (Xg _) ?_,rfl,q2 (λw=>z (r2.nil_iff.mpr w)) _ (I.hok.fresh (Xg _))⟩;exact⟨by rw[Xv];exact hz,_,r1.append r2,IsTupD.new _ _⟩
end
noncomputable def ixN(n:Nat)(i:Int):Option Nat:=if 0<=i then(if i<n then some i.toNat else none)else if -(n:Int)<=i then some (i+n).toNat else none
def atI{α:Type}(xs:List α)(i:Int):Option α:=(ixN xs.length i).bind λj=>xs[j]?
theorem kx0{n:Nat}{i:Int}{j:Nat}(h:ixN n i=some j):seqIndex? i n=some j/\j<n/\-(n:Int)<=i/\i<n:=by
 unfold ixN at h
 by_cases h0:0<=i
 ·rw[Xe h0]at h
  by_cases h1:i<n
  ·rw[Xe h1]at h;have e:i.toNat=j:=oq9 h;exact⟨by rw[seqIndex_of h0 h1,e],by omega,by omega,h1⟩
  ·rw[Xl h1]at h;cases h
 ·rw[Xl h0]at h
  by_cases h1:-(n:Int)<=i
  ·rw[Xe h1]at h;have e:(i+n).toNat=j:=oq9 h;exact⟨by rw[seqIndex_neg (by omega) h1,e],by omega,h1,by omega⟩
  ·rw[Xl h1]at h;cases h
theorem kx9{α:Type}{xs:List α}{i:Int}{v:α}(h:atI xs i=some v):∃j,seqIndex? i xs.length=some j/\xs[j]?=some v/\j<xs.length/\-(xs.length:Int)<=i/\i<xs.length:=by
 unfold atI at h;cases e:ixN xs.length i with
 |none=>rw[e]at h;cases h
 |some j=>
  rw[e]at h;obtain⟨h1,h2,h3,h4⟩:=kx0 e;exact⟨j,h1,h,h2,h3,h4⟩
def kqr(b:Expr):Prop:=∀o i,subscripted b false o i=operate [o,i] (getItem o i)
noncomputable def IxR(X:Cx)(r:R2):Prop:=
 ∀(value slice:Expr) (pins:List (Addr×Obj)) (s:Shared) (σ:St) (H:Hp) (x y:V) (v u:Value) (Q:VK),Inv X pins σ H s->RelV x v->RelV y u->r x y H Q ->
  subscripted slice false v u=operate [v,u] (getItem v u)->wpAny (model X.prog X.w) X.A (subscriptTail value slice v u) (EP X pins σ Q) X.xe s
noncomputable def MtR(X:Cx)(id:String)(r:V->List V->Hp->VK->Prop):Prop:=
 ∀(pins:List (Addr×Obj)) (s:Shared) (σ:St) (H:Hp) (x:V) (xs:List V) (v:Value) (us:List Value) (Q:VK),Inv X pins σ H s->RelV x v->Vals xs us->r x xs H Q ->
  wpAny (model X.prog X.w) X.A (call (.builtin id) (v::us)) (EP X pins σ Q) X.xe s
section
variable {X:Cx}{a b:Expr}{ta tb:TE}{pos:Pos}
theorem IxR.or{r r':R2}(h:IxR X r)(h':IxR X r'):IxR X (λx y H Q=>r x y H Q\/r' x y H Q):=by
 intro value slice pins s σ H x y v u Q I rx ry q hs;rcases q with q|q
 ·exact h value slice pins s σ H x y v u Q I rx ry q hs
 ·exact h' value slice pins s σ H x y v u Q I rx ry q hs
theorem vvw{r:R2}(hr:IxR X r)(ha:PE X a ta)(hb:PE X b tb)(hs:kqr b):PE X (.Subscript a b pos) (tOp r ta tb):=by
 intro pins s σ H Q I h;exact Subscript_ (wk9 ha hb I h λv u s2 x y H2 I2 rx ry q=>hr a b pins s2 σ H2 x y v u Q I2 rx ry q (hs _ _))
def wks(K:PySem.W.Frag):R2:=λx y H Q=>∃p xs i v,x=.ref p/\y=.int i/\SqL K H p xs/\atI xs i=some v/\Q v H
def wkq(K:PySem.W.Frag):R2:=λx y H Q=>∃p xs i v,x=.ref p/\y=.int i/\SqT K H p xs/\atI xs i=some v/\Q v H
noncomputable def wkr:R2:=λx y H Q=>∃z i c,x=.str z/\y=.int i/\z.length<=sizeLine/\atI z.cps.toList i=some c/\Q (.str ⟨#[c]⟩) H
theorem ix_list:IxR X (wks X.K):=by
 intro value slice pins s σ H x y v u Q I rx ry h hs;obtain⟨p,xs,i,z,rfl,rfl,hq,he,q⟩:=h;cases rx;obtain⟨t,rfl⟩:=ry;obtain⟨ag,r,pl,hz⟩:=I.list hq;obtain⟨j,h1,h2,h3,h4,h5⟩:=kx9 he;obtain⟨w,ew,nu⟩:=r.get h2;have hl:=r.length;have hn:=QJ;have fin:EP X pins σ Q w s:=⟨z,H,I,nu,q⟩
 by_cases h0:0<=i
 ·have hj:i.toNat=j:=by
   rw[seqIndex_of h0 h5]at h1;exact oq9 h1
  exact item_listR pl.isList h0 (by omega) (by rw[hj];simpa using ew) fin hs
 ·have hj:(i+(ag.toArray.size:Int)).toNat=j:=by
   rw[seqIndex_neg (by omega) h4]at h1;rw[X7,<-hl];exact oq9 h1
  exact subscriptTail_builtinR (x:=w) pl.isList.typeIs slot_list_getitem.lookup
   (wpAny_getItem_list_neg (Q:=λr s'=>r=w/\EP X pins σ Q r s') pl.isList (by omega) (by rw[X7]<;>omega) (by omega) (by rw[hj];simpa using ew) ⟨rfl,fin⟩) hs
theorem ix_tup:IxR X (wkq X.K):=by
 intro value slice pins s σ H x y v u Q I rx ry h hs;obtain⟨p,xs,i,z,rfl,rfl,hq,he,q⟩:=h;cases rx;obtain⟨t,rfl⟩:=ry;obtain⟨ag,r,pl,hz⟩:=I.tuple hq;obtain⟨j,h1,h2,h3,h4,h5⟩:=kx9 he;obtain⟨w,ew,nu⟩:=r.get h2;have hl:=r.length;have hn:=QJ;have fin:EP X pins σ Q w s:=⟨z,H,I,nu,q⟩;exact subscriptTail_builtinR (x:=w) pl.typeIs slot_tuple_getitem.lookup
  (getItem_tuple (j:=j) (Q:=λr s'=>r=w/\EP X pins σ Q r s') pl (by omega) (by omega) (by rw[X7,<-hl];exact h1) (by simpa using ew) ⟨rfl,fin⟩) hs
theorem vwt:IxR X wkr:=by
 intro value slice pins s σ H x y v u Q I rx ry h hs;obtain⟨z,i,c,rfl,rfl,hz,he,q⟩:=h;obtain⟨t,rfl⟩:=rx;obtain⟨t',rfl⟩:=ry;obtain⟨j,h1,h2,h3,h4,h5⟩:=kx9 he;have hl:z.cps.toList.length=z.length:=by simp[Str.length]
 rw[hl]at h1 h4 h5;have hn:=QJ;exact tail_any (typeIs_str s z t) slot_str_getitem.lookup (getItem_str (c:=c) (by
  have e1:decide (i < -(2 ^ 63:Int))=false:=Xm (by omega);have e2:decide (i>=2 ^ 63)=false:=Xm (by omega);rw[e1,e2,Bool.or_false]) (by rw[h1];simpa using h2) ⟨.str ⟨#[c]⟩,H,I.tok _,⟨_,rfl⟩,q⟩) hs
def rIx(K:PySem.W.Frag):R2:=λx y H Q=>wks K x y H Q\/wkq K x y H Q\/wkr x y H Q
theorem qzb:IxR X (rIx X.K):=ix_list.or (ix_tup.or vwt)
theorem qja(ag:List Value)(n j:Nat)(u:Value):Obj.mapSeq (·.setIfInBounds j u) { cls:=.type "list",data:=.seq ag.toArray n }={ cls:=.type "list",data:=.seq (ag.set j u).toArray n }:=by
 simp[Obj.mapSeq]
theorem Inv.lst{pins:List (Addr×Obj)}{σ:St}{H:Hp}{s:Shared}{p:Addr}{xs:List V}(I:Inv X pins σ H s)(h:H p=some (.lst xs)):
  ∃(ag:List Value) (n:Nat),Vals xs ag/\s.heap.get? p=some { cls:=.type "list",data:=.seq ag.toArray n }/\xs.length<=sizeLine:=by
 obtain⟨z,ag,n,r,e⟩:=I.hok p _ h;exact⟨ag,n,r,e,z⟩
theorem Inv.lstUpd{pins:List (Addr×Obj)}{σ:St}{H:Hp}{s:Shared}{p:Addr}{xs ys:List V}{ag its':List Value}{n n':Nat}{f:Obj->Obj}(I:Inv X pins σ H s)(h:H p=some (.lst xs))
  (ho:s.heap.get? p=some { cls:=.type "list",data:=.seq ag.toArray n }) (hf:f { cls:=.type "list",data:=.seq ag.toArray n }={ cls:=.type "list",data:=.seq its'.toArray n' }) (r:Vals ys its') (hz:ys.length<=sizeLine) (t:Nat):
  Inv X pins σ (upd H p (.lst ys)) { s with heap:=s.heap.update p f,toks:=t }:=by
 have e:(s.heap.update p f).get? p=some { cls:=.type "list",data:=.seq its'.toArray n' }:=by
  rw[Y0 f ho (by rw[hf]<;>rfl),hf]
 refine I.write (x:=p) (e:=p) (by rw[h];trivial) (.inl rfl) (λb u hb q=>(Heap.get?_update_other _ _ (Ne.symm hb)).trans q) ⟨_,e⟩ ?_;exact⟨hz,its',n',r,e⟩
noncomputable def vzx:V->V->V->Hp->(Hp->Prop)->Prop:=λo i v H Q=>∃p xs k j,o=.ref p/\i=.int k/\H p=some (.lst xs)/\ixN xs.length k=some j/\Q (upd H p (.lst (xs.set j v)))
theorem qwe:wqc X vzx:=by
 intro pins s σ H o i v ov iv u Q I ro ri rv h;obtain⟨p,xs,k,j,rfl,rfl,hp,hj,q⟩:=h;cases ro;obtain⟨t,rfl⟩:=ri;obtain⟨ag,n,r,ho,hz⟩:=I.lst hp;obtain⟨h1,h2,h3,h4⟩:=kx0 hj;have hl:=r.length;have hn:=QJ;have I':Inv X pins σ (upd H p (.lst (xs.set j v))) { s with heap:=s.heap.update p (Obj.mapSeq (·.setIfInBounds j u)) }:=
  I.lstUpd hp ho (qja ag n j u) (r.set rv j) (by rw[Yo];exact hz) s.toks
 by_cases h0:0<=k
 ·have hk:k.toNat=j:=by
   rw[seqIndex_of h0 h4]at h1;exact oq9 h1
  exact PySem.W.ki_setAt ho h0 (by omega) (by rw[X7,<-hl];exact h4) (by rw[hk];exact⟨_,I',q⟩)
 ·have hk:(k+(ag.toArray.size:Int)).toNat=j:=by
   rw[seqIndex_neg (by omega) h3]at h1;rw[X7,<-hl];exact oq9 h1
  exact PySem.W.ki_setBack ho (by omega) (by rw[X7,<-hl];exact h3) (by omega) (by rw[hk];exact⟨_,I',q⟩)
theorem kv4(lo hi:Option Int)(n:Nat):(sliceBounds lo hi none n).1=((HT.sIx n 0 lo:Nat):Int)/\(sliceBounds lo hi none n).2.1=((HT.sIx n n hi:Nat):Int)/\(sliceBounds lo hi none n).2.2=1:=by
 refine⟨?_,?_,rfl⟩
 ·cases lo with
  |none=>simp[sliceBounds,HT.sIx]
  |some i=>
   simp only[sliceBounds,HT.sIx,Option.getD_none,show(1:Int)>0 by decide,if_true]
   by_cases h:i<0
   ·simp only[h,if_true]<;>omega
   ·simp only[h,if_false]<;>omega
 ·cases hi with
  |none=>simp[sliceBounds,HT.sIx]
  |some i=>
   simp only[sliceBounds,HT.sIx,Option.getD_none,show(1:Int)>0 by decide,if_true]
   by_cases h:i<0
   ·simp only[h,if_true]<;>omega
   ·simp only[h,if_false]<;>omega
theorem kks(ag:List Value)(lo hi:Option Int):slicePick ag.toArray lo hi none=((ag.drop (HT.sIx ag.length 0 lo)).take (HT.sIx ag.length ag.length hi - HT.sIx ag.length 0 lo)).toArray:=by
 obtain⟨h1,h2,h3⟩:=kv4 lo hi ag.toArray.size;unfold slicePick;rw[h1,h2,h3];simp only[sliceRange_one,pick_run,X7]<;>rfl
noncomputable def wkp(K:PySem.W.Frag):V->Option Int->Option Int->Hp->VK->Prop:=λx lo hi H Q=>∃a xs,x=.ref a/\SqL K H a xs/\∀p,H p=none->Q (.ref p) (upd H p (.lst (Q2 xs lo hi)))
theorem sl_list:SlR X (wkp X.K):=by
 intro pins s σ H x v vl vu lo hi sl Q I rx hs pl pu h;obtain⟨a,xs,rfl,hx,q⟩:=h;cases rx;obtain⟨ag,r,ht,hz⟩:=I.list hx;have ax:=r.length;refine⟨"list",_,slot_list_getitem.lookup,ht.isList.typeIs,?_⟩;refine wpAny_getItem_list_slice ht.isList hs pl pu .none (by simp) ?_ (by rw[X7]<;>omega);rw[kks,<-ax];refine⟨.ref s.heap.objs.size,_,I.laid (t':=s.toks) (o:=.lst (Q2 xs lo hi)) (λb ob q=>X2 _ q) (Xg _) ?_,rfl,q _ (I.hok.fresh (Xg _))⟩;exact⟨Xs (kjq xs lo hi) hz,_,0,(r.drop (HT.sIx xs.length 0 lo)).take (HT.sIx xs.length xs.length hi - HT.sIx xs.length 0 lo),Xd _ rfl⟩
theorem call_len_seq:CallR X (.builtin "len") (λxs H Q=>∃p ys,xs=[.ref p]/\(SqL X.K H p ys\/SqT X.K H p ys)/\Q (.int ys.length) H):=by
 intro pins s σ H xs us Q I r h;obtain⟨p,ys,rfl,hq,q⟩:=h;obtain⟨u,rfl,rx⟩:=xw r;cases rx;have hn:=QJ;rcases hq with hq|hq
 ·obtain⟨ag,r',pl,hz⟩:=I.list hq;have ax:=r'.length;exact Calls.call_len_list pl.isList (by simp only[X7]<;>omega) ⟨.int ys.length,H,I.tok _,⟨s.toks+1,by rw[X7,ax]⟩,q⟩
 ·obtain⟨ag,r',pl,hz⟩:=I.tuple hq;have ax:=r'.length;exact len_tuple pl (by simp only[X7]<;>omega) ⟨.int ys.length,H,I.tok _,⟨s.toks+1,by rw[X7,ax]⟩,q⟩
theorem call_len_str:CallR X (.builtin "len") (λxs H Q=>∃z,xs=[.str z]/\z.length<=sizeLine/\Q (.int z.length) H):=by
 intro pins s σ H xs us Q I r h;obtain⟨z,rfl,hz,q⟩:=h;obtain⟨u,rfl,t,rfl⟩:=xw r;have hn:=QJ;exact len_str (by omega) ⟨.int z.length,H,I.tok _,⟨_,rfl⟩,q⟩
theorem CallR.or{f:Value}{r r':List V->Hp->VK->Prop}(h:CallR X f r)(h':CallR X f r'):CallR X f (λxs H Q=>r xs H Q\/r' xs H Q):=by
 intro pins s σ H xs us Q I rs q;rcases q with q|q
 ·exact h pins s σ H xs us Q I rs q
 ·exact h' pins s σ H xs us Q I rs q
theorem kvz:CallR X (.type "list") (λxs H Q=>∃p ys,xs=[.ref p]/\(SqL X.K H p ys\/SqT X.K H p ys)/\∀l,H l=none->Q (.ref l) (upd H l (.lst ys))):=by
 intro pins s σ H xs us Q I r h;obtain⟨p,ys,rfl,hq,q⟩:=h;obtain⟨u,rfl,rx⟩:=xw r;cases rx;have fin:∀(ag:List Value),Vals ys ag->ys.length<=sizeLine->∀(h':Heap) (c':Nat),(∀b o',s.heap.get? b=some o'->h'.get? b=some o') ->
   h'.get? s.heap.objs.size=some { cls:=.type "list",dict:=none,data:=.seq ag.toArray c',slots:=#[] }->EP X pins σ Q (.ref s.heap.objs.size) { s with heap:=h' }:=λag r' hz h' c' kp e=>
  ⟨.ref s.heap.objs.size,_,I.laid (t':=s.toks) kp (Xg _) (show ObjOk X.prog X.w _ h' _ (.lst ys)from⟨hz,ag,c',r',e⟩),rfl,q _ (I.hok.fresh (Xg _))⟩
 rcases hq with hq|hq
 ·obtain⟨ag,r',pl,hz⟩:=I.list hq;have ax:=r'.length;obtain⟨o,ho,hc,n,hd⟩:=pl.isList;exact call_list_seq p (.inl rfl) ho hc hd (λh' c' kp e=>fin ag r' hz h' c' kp e) (by simp only[X7]<;>omega)
 ·obtain⟨ag,r',pl,hz⟩:=I.tuple hq;have ax:=r'.length;obtain⟨o,ho,hc,n,hd⟩:=pl;exact call_list_seq p (.inr rfl) ho hc hd (λh' c' kp e=>fin ag r' hz h' c' kp e) (by simp only[X7]<;>omega)
theorem kqm:CallR X (.type "tuple") (λxs H Q=>∃p ys,xs=[.ref p]/\((SqL X.K H p ys/\∀l,H l=none->Q (.ref l) (upd H l (.tup ys)))\/(SqT X.K H p ys/\Q (.ref p) H))):=by
 intro pins s σ H xs us Q I r h;obtain⟨p,ys,rfl,h⟩:=h;obtain⟨u,rfl,rx⟩:=xw r;cases rx;rcases h with⟨hq,q⟩|⟨hq,q⟩
 ·obtain⟨ag,r',pl,hz⟩:=I.list hq;have ax:=r'.length;refine call_tuple_list pl.isList (λh' kp=>?_) (by simp only[X7]<;>omega);have I1:Inv X pins σ H { s with heap:=h' }:=I.kept (t':=s.toks) kp;have I2:Inv X pins σ (upd H h'.objs.size (.tup ys)) { s with heap:=h'.push { cls:=.type "tuple",data:=.seq ag.toArray } }:=
   I1.laid (t':=s.toks) (λb o e=>X2 _ e) (Xg _) (show ObjOk X.prog X.w _ _ _ (.tup ys)from⟨hz,ag,r',IsTupD.new _ _⟩)
  exact⟨.ref h'.objs.size,_,I2,rfl,q _ (I1.hok.fresh (Xg _))⟩
 ·obtain⟨ag,r',pl,hz⟩:=I.tuple hq;exact call_tuple_same pl ⟨.ref p,H,I,rfl,q⟩
noncomputable def tyV(K : PySem.W.Frag)(T : String)(x : V)(H : Hp): Prop:= match x with
  |.str _=>T = "str"
  |.int _=>T = "int"
  |.ref p=>(T = "list" /\ ∃xs, SqL K H p xs) \/ (T = "tuple" /\ ∃o, K.lookup p = some o /\ o.cls = .type "tuple" /\ o.dict = none) \/
      (T = "dict" /\ ((∃ay, H p = some (.dK ay)) \/ ∃ay, H p = some (.dT ay))) \/ (T = "set" /\ ∃S n, H p = some (.set S n))
  |_=>False
theorem qxs{pins:List (Addr×Obj)}{σ:St}{H:Hp}{s:Shared}{T:String}{x:V}{v:Value}(I:Inv X pins σ H s)(r:RelV x v)(ty:tyV X.K T x H):
  s.TypeIs v T/\∀a,v=.ref a->∃ob,s.heap.get? a=some ob/\ob.dict=none:=by
 cases x with
 | str z=>
  obtain⟨t,rfl⟩:=r;cases(show T="str" from ty);exact⟨typeIs_str s z t,λ_ e=>nomatch e⟩
 | int i=>
  obtain⟨t,rfl⟩:=r;cases(show T="int" from ty);exact⟨typeIs_int s i t,λ_ e=>nomatch e⟩
 | ref p=>
  cases r;rcases ty with⟨rfl,xs,hq⟩|⟨rfl,o,hk,hc,hd⟩|⟨rfl,hk⟩|⟨rfl,S,n,hk⟩
  ·obtain⟨ag,_,pl,_⟩:=I.list hq;refine⟨pl.isList.typeIs,λa e=>?_⟩;cases e;obtain⟨o,n,e,c,hd,_⟩:=pl;exact⟨o,e,hd⟩
  ·refine⟨⟨o,I.kIn p o hk,hc⟩,λa e=>?_⟩;cases e;exact⟨o,I.kIn _ o hk,hd⟩
  ·have z:∃o,s.heap.get? p=some o/\o.ExactDict:=by
    rcases hk with⟨ay,hk⟩|⟨ay,hk⟩
    ·obtain⟨_,_,_,_,o,_,_,e,ex,_⟩:=I.hok p _ hk;exact⟨o,e,ex⟩
    ·obtain⟨_,_,_,_,o,_,_,e,ex,_⟩:=I.hok p _ hk;exact⟨o,e,ex⟩
   obtain⟨o,e,ex⟩:=z;refine⟨⟨o,e,ex.1⟩,λa e2=>?_⟩;cases e2;exact⟨o,e,ex.2.1⟩
  ·obtain⟨o,_,_,_,e,ex,_⟩:=I.hok p _ hk;refine⟨⟨o,e,ex.1⟩,λa e2=>?_⟩;cases e2;exact⟨o,e,ex.2.1⟩
 |_=>exact False.elim ty
abbrev tBM0(K:PySem.W.Frag)(T:String)(r:V->List V->Hp->VK->Prop)(to:TE):TE:=fun σ H Q=>to σ H λx H1=>tyV K T x H1/\r x [] H1 Q
abbrev tBM(K:PySem.W.Frag)(T:String)(r:V->List V->Hp->VK->Prop)(to:TE)(t:TA):TE:=fun σ H Q=>to σ H λx H1=>tyV K T x H1/\t σ H1 λxs H2=>r x xs H2 Q
variable {o e:Expr}{es:List Expr}{to:TE}{t:TA}{name:Str}{be aw:Pos}{T id:String}{r:V->List V->Hp->VK->Prop}
theorem vvz(pa:PlainAttrs T)(slot:Slot T name id)(l0:typeOf (.builtin id)=pure (.type "method_descriptor"))(hm:MtR X id r)(ho:PE X o to)
  (br:autoParam (attributeBase o name X.env (eval o X.env)=eval o X.env) Ŕ) (c8:autoParam ((be.endLine==aw.line)=true) Ŕ):PE X (.Call (.Attribute o name be) [] [] aw) (tBM0 X.K T r to):=by
 intro pins s σ H Q I h;refine wpAny_Call_method0_late br c8 (thn (ho pins s σ H _ I h) λv s1 ⟨x,H1,I1,r1,ty,q1⟩=>?_);obtain⟨h1,h2⟩:=qxs I1 r1 ty;exact⟨T,id,pa,slot,l0,h1,h2,Calls.callWith_builtin rfl (PySem.evalArgs_none (hm pins s1 σ H1 x [] v [] Q I1 r1 .nil q1))⟩
theorem vjt(pa:PlainAttrs T)(slot:Slot T name id)(l0:typeOf (.builtin id)=pure (.type "method_descriptor"))(hm:MtR X id r)(ho:PE X o to)(ha:PA X (e::es) t)
  (br:autoParam (attributeBase o name X.env (eval o X.env)=eval o X.env) Ŕ)
  (dy:autoParam (((backTo aw (starEach (e::es) X.env)).all (λx=>!x.1)&&(backToKw aw (keywordEach [] X.env)).all (λx=>x.1.isSome)
   && decide ((e::es).length+([]:List Keyword).length+(if([]:List Keyword).isEmpty then 0 else 1)<30))=true) Ŕ)
  (c8:autoParam ((be.endLine==aw.line)=true) Ŕ) (hs:autoParam (starEach (e::es) X.env=(false,eval e X.env)::starEach es X.env) Ŕ) (bw:autoParam ((backTo aw (starEach es X.env)).any (·.1)=false) Ŕ):
  PE X (.Call (.Attribute o name be) (e::es) [] aw) (tBM X.K T r to t):=by
 intro pins s σ H Q I h;refine wpAny_Call_method_late br dy c8 rfl (thn (ho pins s σ H _ I h) λv s1 ⟨x,H1,I1,r1,ty,q1⟩=>?_);obtain⟨h1,h2⟩:=qxs I1 r1 ty;refine⟨T,id,pa,slot,l0,h1,h2,?_⟩;have hA:=ha aw pins s1 σ H1 _ I1 q1;rw[hs]at hA ⊢;refine Calls.callWith_builtin (by show(false||(backTo aw (starEach es X.env)).any (·.1))=false;rw[bw]<;>rfl) (Calls.evalArgs_plain ?_);exact thn hA λus s2 ⟨vs,H2,I2,r2,q2⟩=>hm pins s2 σ H2 x vs v us Q I2 r1 r2 q2
end
noncomputable def MtM(X:Cx)(id:String)(r:V->List V->Hp->VK->Prop):Prop:=
 ∀(pins:List (Addr×Obj)) (s:Shared) (σ:St) (H:Hp) (x:V) (xs:List V) (v:Value) (us:List Value) (Q:VK),Inv X pins σ H s->RelV x v->Vals xs us->r x xs H Q ->
  wpAny (model X.prog X.w) X.A (call (.builtin id) (v::us)) (EP X pins σ Q) X.xe s
theorem Vals.one:∀{x:V} {us:List Value},Vals [x] us->∃u,us=[u]/\RelV x u
 |_,_,.cons r .nil=>⟨_,rfl,r⟩
theorem Vals.rep{xs:List V}{us:List Value}(h:Vals xs us):∀k:Nat,Vals (List.replicate k xs).flatten (List.replicate k us).flatten
 |0=>.nil
 |k+1=>by
  rw[List.replicate_succ,List.replicate_succ,Yr,Yr];exact Vals.append h (Vals.rep h k)
theorem kjm(ag:List Value):∀(k:Nat) (av:List Value),
  List.foldl (λx1 x2=>x1++x2) av.toArray (List.replicate k ag.toArray)=(av++(List.replicate k ag).flatten).toArray
 | 0,av=>by simp
 | k+1,av=>by
  have e:av.toArray++ag.toArray=(av++ag).toArray:=by simp
  have e2:(av++ag)++(List.replicate k ag).flatten=av++(List.replicate (k+1) ag).flatten:=by
   rw[List.replicate_succ,Yr,Xr]
  rw[<-e2,<-kjm ag k (av++ag),<-e,List.replicate_succ,List.foldl_cons]
section
variable {X:Cx}{pins:List (Addr×Obj)}{σ:St}{H:Hp}{s:Shared}{l b:Addr}{xs ys zs:List V}
theorem Inv.lset{ag its':List Value}{n:Nat}{f:Array Value->Array Value}{t':Nat}(I:Inv X pins σ H s)(hH:H l=some (.lst xs))
  (e:s.heap.get? l=some { cls:=.type "list",data:=.seq ag.toArray n }) (hf:f ag.toArray=its'.toArray) (hv:Vals ys its') (hz:ys.length<=sizeLine):
  Inv X pins σ (upd H l (.lst ys)) { s with heap:=s.heap.update l (Obj.mapSeq f),toks:=t' }:=by
 have q:=PySem.IsL.update e f;rw[hf]at q;refine I.write (x:=l) (e:=l) (by rw[hH];exact trivial) (.inl rfl) (λb' u hb hu=>(Heap.get?_update_other s.heap (Obj.mapSeq f) (Ne.symm hb)).trans hu) ⟨_,q⟩ ?_;exact⟨hz,its',_,hv,q⟩
theorem Inv.lnew{ag:List Value}{t':Nat}(I:Inv X pins σ H s)(hv:Vals ys ag)(hz:ys.length<=sizeLine):
  Inv X pins σ (upd H s.heap.objs.size (.lst ys)) { s with heap:=s.heap.push { cls:=.type "list",data:=.seq ag.toArray },toks:=t' }:=
 I.laid (λ_ _ q=>X2 _ q) (Xg _) ⟨hz,ag,0,hv,Xd _ rfl⟩
theorem Inv.fresh(I:Inv X pins σ H s):H s.heap.objs.size=none:=I.hok.fresh (Xg _)
theorem Inv.lstM(I:Inv X pins σ H s)(hH:H l=some (.lst xs)):xs.length<=sizeLine/\∃(ag:List Value) (n:Nat),Vals xs ag/\xs.length=ag.length/\s.heap.get? l=some { cls:=.type "list",data:=.seq ag.toArray n }:=by
 obtain⟨z,ag,n,r,e⟩:=I.hok l _ hH;exact⟨z,ag,n,r,r.length,e⟩
theorem qwx{n:Nat}(h:n<=sizeLine):Builtin.List.listTooLong n=false:=by
 unfold Builtin.List.listTooLong;exact Xm (by omega)
end
section
variable {X:Cx}
noncomputable def kkx:V->List V->Hp->VK->Prop:=λx vs H Q=>∃l xs y,x=.ref l/\vs=[y]/\H l=some (.lst xs)/\xs.length<sizeLine/\Q .non (upd H l (.lst (xs++[y])))
theorem kjc:MtM X "list.append" kkx:=by
 intro pins s σ H x vs v us Q I rx rv h;obtain⟨l,xs,y,rfl,rfl,hH,hz,q⟩:=h;cases rx;obtain⟨u,rfl,ru⟩:=rv.one;obtain⟨z,ag,n,r,hl,e⟩:=I.lstM hH;refine call_meets F.slot_list_append ⟨_,e,rfl⟩ F.entry_list_append (F.args_list_append_2 _ _) (PySem.list_append l ag.toArray n u (by rw[X7];omega)) ⟨e,?_⟩;refine⟨.non,_,I.lset (its':=ag++[u]) hH e (by simp) (r.append (.cons ru .nil)) ?_,rfl,q⟩;rw[Xv,List.length_singleton];omega
theorem qqc{α:Type}(xs:List α)(k:Nat):(List.replicate k xs).flatten.length=k*xs.length:=by
 induction k with
 |zero=>simp
 |succ k ih=>rw[List.replicate_succ,Yr,Xv,ih,Nat.succ_mul,Nat.add_comm]
end
end L2
namespace Att
open PySem PySem.W PySem.Calls PyProof.Rows
theorem kjh{P:Params}{h:Heap}:∀(ns:List Int) (vs:List Value),WellAll P h vs (ns.map WData.int)->IntsAre vs ns:=by
 intro ns
 induction ns with
 | nil=>
  intro vs w;rw[List.map_nil]at w;cases w;exact .nil
 | cons n ns ih=>
  intro vs w;rw[List.map_cons]at w;cases w with
  |cons a b=>
   cases a;exact .cons _ _ (ih _ b)
theorem script_of{l : OpenLaw}{n : Nat}(hn : l.most = some n){P : Params}{h : Heap}{args : List WData}{cj : List Value}
    (ji : l.row.toRowW.claim.pre args = true) (hwl : WellAll P h cj args):
    ∃ a vs ns, cj = [Value.ref a] /\ args = [WData.list (ns.map WData.int)] /\ h.get? a = some { cls:= .type "list", data:= .seq vs.toArray } /\ IntsAre vs ns /\ ns.length<=n:= by
  have hsh : WShape.hasAll [] args [.list .int] = true:= (pre_splitW ji).1;have hc : l.pre.holds [] { args:= args } = true:= (pre_splitW ji).2;obtain⟨d, r, rfl, h1, h2⟩:= hasAllW_cons hsh;obtain rfl:= hasAllW_nil h2;obtain⟨xs, rfl, h3⟩:= hasW_list h1;obtain⟨ns, rfl⟩:= items_int h3;have ax : ns.length<=n:= by
    unfold OpenLaw.pre at hc;have h4 : (WTm.not (.lt (.lit (.int (n : Int))) (.len (.arg 0)))).holds [] { args:= [.list (ns.map .int)] } = true:= by
      have h4:= (holds_andW hc).1;rw[hn]at h4;exact h4
    have h5:= condW_of h4 (w_not (w_lt w_lit (w_len_list (w_arg rfl))));rw[X4]at h5;refine Nat.le_of_not_lt λq=> ?_
    have q' : (n : Int)<((ns.length : Nat): Int):= by omega
    first
      |(rw[Xj q']at h5; exact absurd h5 (by decide))
      |(simp at h5; omega)
  cases hwl with
  | cons w1 w2=>
    cases w2;cases w1 with
    |list ho kf=>exact⟨_, _, ns, rfl, rfl, ho, kjh ns _ kf, ax⟩
theorem post_true(l:OpenLaw)(args:List WData):l.row.toRowW.claim.post args (.bool true) args=true:=
 postW_of (r:=l.row.toRowW) (X:=(true==true))
  (show WShape.has [] (.bool true) .bool=true by first|rfl|decide|simp[WShape.has,WShape.arms,WShape.armsAll])
  (show(WTm.eq .res (.lit (.bool true))).value [] { args:=args,res:=some (.bool true),after:=args }=some (.bool (true==true))from w_eq_bool (w_res rfl) w_lit) rfl
end Att
namespace L2
open PySem PySem.Spec PyProof.Rows
def wke(H:Hp):Prop:=∀b,H b=none\/∃o xs,H b=some (.frz o (.lst xs))
noncomputable def Qq(s:Stmt):Arguments:=match s with
 |.FunctionDef _ a _ _ _ _ _ _ _ _=>a
 |_=>{ posonlyargs:=[],args:=[],vararg:=none,kwonlyargs:=[],kw_defaults:=[],kwarg:=none,defaults:=[] }
def Kv(s:Stmt):List Stmt:=match s with
 |.FunctionDef _ _ b _ _ _ _ _ _ _=>b
 |_=>[]
noncomputable def kj(s:Stmt):Scope:=match s with
 |.FunctionDef _ _ _ _ _ _ sc _ _ _=>sc
 |_=>{ kind:=.function,names:=[],isGenerator:=false,isCoroutine:=false }
structure Fun (K:PySem.W.Frag)(x qual:Str)(st:Stmt)(f:Addr)(fd:FuncData):Prop where
 ex:∃(oc:Value) (od:Option Addr) (kV fj pm:Value) (an:Option Addr) (bf ct:Value) (jc:Array (Option Value)),
  fd=PySem.W.fnOf x qual (Qq st) (Kv st) (kj st) .none kV fj pm an bf ct/\K.lookup f=some ⟨oc,od,.func fd,jc⟩/\PySem.W.codeIn K bf qual=true
 kp:PySem.W.keepIn K (.ref f)=true
section
variable {P:Program}{w:World}{K:PySem.W.Frag}{mg:Str->Option Value}{base:Heap}
theorem Fun.binds{x qual:Str}{st:Stmt}{f:Addr}{fd:FuncData}{ps:List Str}(F:Fun K x qual st f fd)
  (h:∀(kV fj pm:Value) (an:Option Addr) (bf ct:Value) (us:List Value),us.length=ps.length->bindArgs (PySem.W.fnOf x qual (Qq st) (Kv st) (kj st) .none kV fj pm an bf ct) ⟨us,[]⟩=pure (ps.zip us)):Binds K fd ps []:=by
 obtain⟨oc,od,kV,fj,pm,an,bf,ct,jc,rfl,lk,fz⟩:=F.ex;exact .all (h kV fj pm an bf ct)
theorem qqy{x qual:Str}{st:Stmt}{f:Addr}{oc:Value}{od an:Option Addr}{jc:Array (Option Value)}{kV fj pm bf ct:Value}(l:K.lookup f=some ⟨oc,od,.func (PySem.W.fnOf x qual (Qq st) (Kv st) (kj st) .none kV fj pm an bf ct),jc⟩)
  (c:PySem.W.codeIn K bf qual=true) (k:PySem.W.keepIn K (.ref f)=true):Fun K x qual st f (PySem.W.fnOf x qual (Qq st) (Kv st) (kj st) .none kV fj pm an bf ct):=⟨⟨oc,od,kV,fj,pm,an,bf,ct,jc,rfl,l,c⟩,k⟩
end
section
variable {X:Cx}
theorem pv(i:Nat){x:Str}{pos:Pos}(hN:autoParam (X.N[i]?=some x) Ŕ)(hv:autoParam (Vis X.env.scope x) ř)(hd:autoParam ((x==("__debug__":Str))=false) ŕ)
  (fz:autoParam ((x==("__classdict__":Str))=false) ŕ):PE X (.Name x pos) (Qj i):=vvr hN hv hd fz
end
def k9(H H':Hp):Prop:=∀b o,H b=some o->H' b=some o
section
variable {κ:Type}[DecidableEq κ]
theorem KV.length{ay:List (κ×V)}{vs:List (κ×Value)}(r:KV ay vs):ay.length=vs.length:=Paired.length r
end
section
variable {P:Program}{w:World}{H:Hp}{h:Heap}{a:Addr}
theorem vzv{u:HO}(ok:HOk P w H h)(e:Rd H a u):ObjOk P w H h a u:=e.ok ok
theorem wk0{ay:List (Key×V)}(ok:HOk P w H h)(e:Rd H a (.dK ay)):ay.length<=sizeLine/\(a==sysModules)=false/\∃vs,KV ay vs/\h.DictOf (kqa P w) a vs:=
 show ObjOk P w H h a (.dK ay)from vzv ok e
end
section
variable {X:Cx}{pins:List (Addr×Obj)}{σ:St}{H:Hp}{s:Shared}{a:Addr}{ay:List (Key×V)}{k:Key}{u:Value}{A:Around}{E:Value->Shared->Prop}
theorem wk3{Q:Value->Shared->Prop}(I:Inv X pins σ H s)(e:Rd H a (.dK ay))(h:∀t s',Inv X pins σ H s'->Q (.int ay.length t) s'):wpAny (model X.prog X.w) A (call (.builtin "len") [.ref a]) Q E s:=by
 obtain⟨z,hd,vs,rel,dd⟩:=wk0 I.hok e;refine call_len_dict hd dd (by rw[<-rel.length];rw[sizeLine_eq]at z;omega) ?_;rw[<-rel.length];exact h _ _ (I.tok _)
end
section
variable {X:Cx}
theorem qvf:CallR X (.builtin "len") (λxs H Q=>∃a ay,xs=[V.ref a]/\H a=some (.dK ay)/\Q (.int ay.length) H):=by
 intro pins s σ H xs us Q I r h;obtain⟨a,ay,rfl,ha,q⟩:=h;obtain⟨u,rfl,ru⟩:=xw r;cases ru;exact wk3 I (.inl ha) λt s' I'=>⟨.int ay.length,H,I',⟨t,rfl⟩,q⟩
end
end L2
set_option maxHeartbeats 4000000
namespace L3
open PySem PySem.Spec PyProof.Rows L2
abbrev qqg(fv:List Expr)(env:Env):Sem Bool:=
 forIn fv true λc r=>if r=true then do let ok <-isTrue c env (eval c env);pure (ForInStep.yield ok)else pure (ForInStep.yield r)
theorem jwg (env : Env): ∀(l : List (Str × NameKind)) (cs : List (Str × Addr)), (∀y ∈ l, y.2 = .free -> ∃c, env.cells.lookup y.1 = some c) ->
    (∀x c, cs.lookup x = some c -> env.cells.lookup x = some c) ->
    ∃ cl, (forIn l cs (λ(x : Str × NameKind) (r : List (Str × Addr))=>if(x.2==NameKind.free) = true then do let a <-cellOf env x.1; pure (ForInStep.yield ((x.1, a)::r))else pure (ForInStep.yield r)): Sem (List (Str × Addr))) = pure cl /\
      (∀x c, cl.lookup x = some c -> env.cells.lookup x = some c) /\ (∀x c, cs.lookup x = some c -> ∃c', cl.lookup x = some c') /\ ∀y ∈ l, y.2 = .free -> ∃c, cl.lookup y.1 = some c
  | [], cs, _, hs=>⟨cs, rfl, hs, λx c h=>⟨c, h⟩, λ_ h=>nomatch h⟩
  | (n, k)::r, cs, hl, hs=>by
    by_cases hk : k = .free
    · subst hk
      obtain⟨c, hc⟩:= hl (n, .free) X6 rfl;have iw : ∀x d, ((n, c)::cs).lookup x = some d -> env.cells.lookup x = some d:= λx d h=>by
        rw[Yl]at h;cases hx : x==n with
        | true=>
          rw[hx]at h;have e : x = n:= by simpa using hx
          have e2 : c = d:= by simpa using h
          subst e; subst e2;exact hc
        | false=>rw[hx]at h; exact hs x d h
      obtain⟨cl, e, a, b, d⟩:= jwg env r ((n, c)::cs) (λy hy=>hl y (lc9 _ hy)) iw;refine⟨cl, ?_, a, λx c' h=> ?_, λy hy hf=> ?_⟩
      · rw[List.forIn_cons]
        have q : cellOf env n = pure c:= by unfold cellOf; rw[hc]
        simp only[beq_self_eq_true, if_true, q, pure_bind];exact e
      · cases hx : x==n with
        | true=>exact b x c (by rw[Yl, hx])
        | false=>exact b x c' (by rw[Yl, hx]; exact h)
      · rcases List.mem_cons.mp hy with z|z
        · subst z
          exact b n c (by rw[Yl]; simp)
        · exact d y z hf
    · obtain⟨cl, e, a, b, d⟩:= jwg env r cs (λy hy=>hl y (lc9 _ hy)) hs
      refine⟨cl, ?_, a, b, λy hy hf=> ?_⟩
      · rw[List.forIn_cons]
        have q : (k==NameKind.free) = false:= by simpa using hk
        simp only[q, Bool.false_eq_true, if_false, pure_bind];exact e
      · rcases List.mem_cons.mp hy with z|z
        · subst z
          exact absurd hf hk
        · exact d y z hf
theorem qjm{scope:Scope}{env:Env}(h:∀y∈scope.names,y.2=.free->∃c,env.cells.lookup y.1=some c):
  ∃cl,closureFor scope env=pure cl/\(∀x c,cl.lookup x=some c->env.cells.lookup x=some c)/\∀y∈scope.names,y.2=.free->∃c,cl.lookup y.1=some c:=by
 obtain⟨cl,e,a,_,d⟩:=jwg env scope.names [] h (λx c h=>nomatch h);refine⟨cl,?_,a,d⟩;unfold closureFor;have e':=congrArg (λt:Sem (List (Str×Addr))=>t >>= pure) e
 simpa using e'
noncomputable def lcX(X:Cx)(scope:Scope)(N:List Str)(cl:List (Str×Addr))(C:Addr)(s0:Shared)(H0:Hp)(fp:List Addr):Cx:=
 { X with N:=N,s₀:=s0,H₀:=H0,env:=compEnvC scope cl C X.env,outer:=X.stack,ex:=fp,fn:=λ_=>false,pn:=[],xe:=λ_ _=>False }
def J6(k:Nat)(R:List Nat)(σ:L2.St):L2.St:=List.replicate k none++R.map λj=>(σ[j]?).join
structure LcOk (X:Cx)(scope:Scope)(N:List Str)(k:Nat)(R:List Nat):Prop where
 kind:scope.kind=.function
 nocell:∀y∈scope.names,y.2≠.cell
 names:∀y∈scope.names,y.2=.local->scope.names.lookup y.1=some .local
 caps:∀y∈scope.names,y.2=.free->X.env.kindOf y.1=some .cell\/X.env.kindOf y.1=some .free
 len:N.length=k+R.length
 outs:∀i j x,R[i]?=some j->N[k+i]?=some x->X.N[j]?=some x/\scope.names.lookup x=some .free
noncomputable def Yx(XN:List Str)(sc scope:Scope)(N:List Str)(k:Nat)(R:List Nat):Bool:=
 scope.names.all (λy=>y.2 != .cell)&&scope.names.all (λy=>y.2 != .local||scope.names.lookup y.1==some .local) &&
 scope.names.all (λy=>y.2 != .free||(sc.names.lookup y.1==some .cell||sc.names.lookup y.1==some .free)) &&
 (N.length==k+R.length)&&(R.zip (N.drop k)).all (λp=>XN[p.1]? == some p.2&&scope.names.lookup p.2==some .free)
theorem qx3{X:Cx}{scope:Scope}{N:List Str}{k:Nat}{R:List Nat}(hk:scope.kind=.function)(h:Yx X.N X.env.scope scope N k R=true):LcOk X scope N k R:=by
 unfold Yx at h;simp only[Bool.and_eq_true,Yd,bne_iff_ne,Bool.or_eq_true,beq_iff_eq]at h;obtain⟨⟨⟨⟨h1,h2⟩,h3⟩,h4⟩,h5⟩:=h;refine⟨hk,λy hy=>h1 y hy,λy hy e=>(h2 y hy).resolve_left (λz=>z e),λy hy e=>(h3 y hy).resolve_left (λz=>z e),h4,λi j x e1 e2=>?_⟩;have m:(j,x)∈R.zip (N.drop k):=by
  refine List.mem_of_getElem? (i:=i) ?_;rw[List.getElem?_zip_eq_some];exact⟨e1,by rw[List.getElem?_drop];exact e2⟩
 exact h5 (j,x) m
theorem ZV {env : Env} {x : Str} {q : NameKind}: ∀{names : List (Str × NameKind)}, (names.map λ(n, k)=>if(k==NameKind.free&&env.scope.kind == .function&&env.kindOf n==some .cell)then(n, NameKind.cell)else(n, k)).lookup x = some q ->
    (x, q) ∈ names \/ (q = .cell /\ (x, NameKind.free) ∈ names)
  | [], h=>nomatch h
  | (n, k)::r, h=>by
    have h : List.lookup x ((if(k==NameKind.free&&env.scope.kind == .function&&env.kindOf n==some .cell) = true then(n, NameKind.cell)else(n, k))::(r.map λ(n, k)=>if(k==NameKind.free&&env.scope.kind == .function&&env.kindOf n==some .cell)then(n, NameKind.cell)else(n, k))) = some q:= h
    by_cases hc : (k==NameKind.free&&env.scope.kind == .function&&env.kindOf n==some .cell) = true
    · rw[Xe hc, Yl]at h
      cases hx : x==n with
      | true=>
        rw[hx]at h;have e : x = n:= by simpa using hx
        have e2 : NameKind.cell = q:= by simpa using h
        subst e;simp only[Bool.and_eq_true, beq_iff_eq]at hc;obtain⟨⟨e3, _⟩, _⟩:= hc;subst e3;exact .inr ⟨e2.symm, X6⟩
      | false=>
        rw[hx]at h;rcases ZV (names:= r) h with z|⟨z, y⟩
        · exact .inl (lc9 _ z)
        · exact .inr ⟨z, lc9 _ y⟩
    · rw[Xl hc, Yl]at h
      cases hx : x==n with
      | true=>
        rw[hx]at h;have e : x = n:= by simpa using hx
        have e2 : k = q:= by simpa using h
        subst e; subst e2;exact .inl X6
      | false=>
        rw[hx]at h;rcases ZV (names:= r) h with z|⟨z, y⟩
        · exact .inl (lc9 _ z)
        · exact .inr ⟨z, lc9 _ y⟩
section
variable {X:Cx}{pins:List (Addr×Obj)}{σ:L2.St}{H:Hp}{s:Shared}
theorem vwi{scope:Scope}{N:List Str}{k:Nat}{R:List Nat}{cl:List (Str×Addr)}{C:Addr}(sc:LcOk X scope N k R)(c9:∀y∈scope.names,y.2=.free->∃c,cl.lookup y.1=some c)
  {x:Str} (h:(compEnvC scope cl C X.env).kindOf x=some .cell\/(compEnvC scope cl C X.env).kindOf x=some .free):∃c,cl.lookup x=some c:=by
 rcases h with h|h
 ·rcases ZV (env:=X.env) (names:=scope.names) h with z|⟨_,z⟩
  ·exact absurd rfl (sc.nocell _ z)
  ·exact c9 _ z rfl
 ·rcases ZV (env:=X.env) (names:=scope.names) h with z|⟨z,_⟩
  ·exact c9 _ z rfl
  ·cases z
theorem vwk{scope:Scope}{N:List Str}{k:Nat}{R:List Nat}{cl:List (Str×Addr)}{C:Addr}{fp:List Addr}(I:Inv X pins σ H s)(sc:LcOk X scope N k R)(hf:∀b∈fp,vZ X pins H b)(ho:∀b∈fp,∃o,s.heap.get? b=some o)
  (hC:s.heap.objs.size<=C) (fk:∀x c,cl.lookup x=some c->X.env.cells.lookup x=some c) (c9:∀y∈scope.names,y.2=.free->∃c,cl.lookup y.1=some c):(lcX X scope N cl C s H fp).Ok where
 mod:=I.ok.mod
 kind:=sc.kind
 glob:=I.ok.glob
 blt:=I.ok.blt
 above:=hC
 inj:=λx y c h1 h2=>I.ok.inj x y c (fk _ _ h1) (fk _ _ h2)
 has:=λx h=>vwi sc c9 h
 cab:=λx c h=>by cases h
 hd:=I.ok.hd
 frames:=I.ok.frames
 stk:=.inl rfl
 exf:=λb hb=>by
  obtain⟨o,e⟩:=ho b hb;exact⟨Xn (Xi (Xb e) hC),λx c h=>(hf b hb).2.2.2.2.1 x c (fk x c h)⟩
 bs:=λb o e=>I.bs b o e
 bsz:=Xs I.ok.bsz I.sz
 noex:=λb o e hb=>by
  rcases(hf b hb).2.2.2.1 with z|z
  ·exact I.ok.noex b o e z
  ·exact absurd (Xi (Xb e) (Xs I.ok.bsz z)) (Yg _)
 exfs:=λb hb hs=>by
  rcases List.mem_cons.mp (I.stkSub b hs)with z|z
  ·exact(hf b hb).2.1 z
  ·exact(hf b hb).2.2.1 z
 funs:=I.stack
 frf:=I.stkFree
theorem vql(I:Inv X pins σ H s){a:Addr}(h:s.heap.objs.size<=a):a∉frs X.stack:=λz=>by
 rcases List.mem_cons.mp (I.stkSub a z)with e|e
 ·subst e;exact absurd (Xi I.lt h) (Yg _)
 ·exact I.nofs h e
theorem vk7 {scope:Scope} {N:List Str} {k:Nat} {R:List Nat} {cl:List (Str×Addr)} {C D:Addr} {fp:List Addr} {h1:Heap} {t:Nat} {m:Str->Option Value} {oD:Obj} (I:Inv X pins σ H s) (sc:LcOk X scope N k R)
  (hf:∀ b∈fp,vZ X pins H b) (ho:∀b∈fp,∃o,s.heap.get? b=some o)
  (hC:s.heap.objs.size<=C) (hD:s.heap.objs.size<=D) (lr:D≠C) (fk:∀x c,cl.lookup x=some c->X.env.cells.lookup x=some c) (c9:∀y∈scope.names,y.2=.free->∃c,cl.lookup y.1=some c)
  (en:∀ b o,s.heap.get? b=some o->h1.get? b=some o) (hn:h1.Ns C m) (eD:h1.get? D=some oD) (dD:∀v,oD.data≠.cell v):
  Inv (lcX X scope N cl C s H fp) [(D,oD)] (J6 k R σ) H { s with heap:=h1,toks:=t } where
 ok:=vwk I sc hf ho hC fk c9
 os:=rfl
 bare:=I.bare
 base:=Un.kept en
 loc:=⟨m,hn,λi x v e1 e2 vis=>by
  obtain⟨mX,hnX,hl⟩:=I.loc;unfold J6 at e2
  by_cases hi:i<k
  ·rw [List.getElem?_append_left (by rw[Yf];exact hi),List.getElem?_replicate,Xe hi]at e2;cases e2
  ·have hk:k<=i:=Nat.le_of_not_lt hi;rw [List.getElem?_append_right (by rw[Yf];exact hk),Yf,Xh]at e2;cases er:R[i - k]? with
   | none=>rw[er]at e2;cases e2
   | some j=>
    rw [er]at e2;have ej:(σ[j]?).join=some v:=by simpa using e2
    have ej':σ[j]?=some (some v):=by
     cases q:σ[j]? with
     | none=>rw[q]at ej;cases ej
     | some z=>rw[q]at ej;cases z with
      | none=>cases ej
      | some z=>rw[show z=v by simpa using ej]
    obtain⟨o1,o2⟩:=sc.outs (i - k) j x er (by rw[show k+(i - k)=i by omega];exact e1);have cap:=sc.caps (x,.free) (Yi o2) rfl;have visX:Vis X.env.scope x:=cap.elim (λz=>.inr (.inl z)) λz=>.inr (.inr z)
    obtain⟨u,ru,q⟩:=hl j x v o1 ej' visX;refine⟨u,ru,?_⟩;rcases q with⟨q,_⟩|⟨_,c,ec,hc⟩
    ·rcases cap with z|z
     ·rw[z]at q;cases q
     ·rw[z]at q;cases q
    ·obtain⟨c',ec'⟩:=c9 (x,.free) (Yi o2) rfl;have e:c'=c:=oq9 ((fk x c' ec').symm.trans ec);subst e;refine .inr ⟨?_,c',ec',?_⟩
     ·rcases vis with z|z|z
      ·rcases ZV (env:=X.env) (names:=scope.names) z with y|⟨y,_⟩
       ·have y':=sc.names _ y rfl;rw[o2]at y';cases y'
       ·cases y
      ·exact .inl z
      ·exact .inr z
     ·obtain⟨o,h1,h2⟩:=hc;exact⟨o,en _ _ h1,h2⟩⟩
 cell:=λx c h=>by
  obtain⟨v,o,h1,h2⟩:=I.cell x c (fk x c h);exact⟨v,o,en _ _ h1,h2⟩
 free:=I.hok.fresh hC
 freeC:=λx c h=>I.freeC x c (fk x c h)
 pin:=λp hp=>by
  have e:p=(D,oD):=by
   have hp:p∈([]++[(D,oD)]:List (Addr×Obj)):=hp
   simpa using hp
  subst e;exact⟨eD,I.hok.fresh hD,lr,vql I hD,dD⟩
 hok:=I.hok.kept en
 len:=by
  show(J6 k R σ).length=N.length;unfold J6;rw[sc.len,Xv,Yf,X4]
theorem qqr{a:Addr}{o:HO}(I:Inv X pins σ H s)(hn:H a=none)(hL:a≠X.env.locals)(h1:a∈X.ex\/X.s₀.heap.objs.size<=a)(h2:∀x c,X.env.cells.lookup x=some c->c≠a)(h3:∀p∈X.pn++pins,p.1≠a)
  (new:ObjOk X.prog X.w (upd H a o) s.heap a o):Inv X pins σ (upd H a o) s:=by
 have hok:HOk X.prog X.w (upd H a o) s.heap:=λb u e=>by
  by_cases hb:b=a
  ·subst hb;rw[xJ]at e;cases e;exact new
  ·rw[kJ hb]at e;exact(I.hok b u e).stay (λ_ _ _ q=>q) (λc q=>by rw[kJ (wv q hn)];exact q) λc xs q=>by rw[kJ (wv q hn)];exact q
 have na:∀b:Addr,b∉[a]->b≠a:=λb hb z=>hb (by rw[z];exact List.mem_singleton.mpr rfl)
 exact I.step (h':=s.heap) (H':=upd H a o) (g':=s.gens) (t':=s.toks) (d':=s.drawn) (ch:=[a])
  (λb hb=>by rw[List.mem_singleton.mp hb];exact⟨h1,hL,h2,h3⟩) (λb o _ _ _ e _=>e) (λb o _ _ _ e _=>⟨o.slots,e⟩) (λb o hb _ q=>by rw[kJ (na b hb)];exact q)
  (λb o _ e=>⟨o,e⟩) (λb xs q=>by rw[kJ (wv q hn)];exact q) (λb o u q=>by rw[kJ (wv q hn)];exact q) (λb ps q=>⟨#[],by rw[kJ (wv q hn),q];simp⟩)
  (λm hm=>hm) hok I.bare
end
noncomputable def PTs(X:Cx)(fv:List Expr)(t:TT):Prop:=
 ∀(pins:List (Addr×Obj)) (s:Shared) (σ:L2.St) (H:Hp) (Q:Bool->Hp->Prop),Inv X pins σ H s->t σ H Q->wpAny (model X.prog X.w) X.A (qqg fv X.env) (TP X pins σ Q) X.xe s
abbrev tYes:TT:=λ_ H Q=>Q true H
theorem vji{X:Cx}:PTs X [] tYes:=λ_ _ _ H _ I h=>wpAny_tests_nil ⟨H,I,h⟩
noncomputable def LcW(g:TG)(tt:TT)(te:TE)(Q:VK)(J:It)(W:Nat->Nat->List V->L2.St->Hp->Prop):Prop:=∀i m ys σ H,W i m ys σ H ->
 (J.stop i H/\ys.length<=sizeLine/\∀p,H p=none->Q (.ref p) (upd H p (.lst ys))) \/
 (J.go i H/\∀x H1,J.yld i H x H1->g x σ H1 fun σ2 H2=>∃(Ny:VK) (Nn:Hp->Prop),(∀y H4,Ny y H4->ys.length<=sizeLine/\∃m',m'<m/\W (i+1) m' (ys++[y]) σ2 H4) /\
  (∀H4,Nn H4->∃m',m'<m/\W (i+1) m' ys σ2 H4)/\tt σ2 H2 λb H3=>if b=true then te σ2 H3 Ny else Nn H3)
abbrev tLC(wi:TI)(g:TG)(tt:TT)(te:TE)(k:Nat)(R:List Nat):TE:=fun σ H Q=>wi σ H λJ H1=>
 ∃W:Nat->Nat->List V->L2.St->Hp->Prop,(∃m,W 0 m [] (J6 k R σ) H1)/\LcW g tt te Q J W
abbrev Vj(ag:List Value)(n:Nat):Obj:={ cls:=.type "list",data:=.seq ag.toArray n }
section
variable {X:Cx}
theorem op_mulI:OpR X (binaryOp .Mult) (rI IntMulOk λi j=>.int (i*j)):=opI λ_ _ _ _ _ _ _ hc q=>mul_int q hc
def vz4(_i j:Int):Prop:=0<j/\j.natAbs.log2<9000
theorem qX:OpR X (binaryOp .FloorDiv) (rI vz4 λi j=>.int (i / j)):=opI λi j _ _ _ _ _ hc q=>by
 have h1:(0:Int)<j:=hc.1;exact floordiv_int (by omega) (by rw[Int.fdiv_eq_ediv_of_nonneg i (by omega)];exact q) (.inl (PyProof.noPylong_of_log2 hc.2))
def kinds:List String:=["NoneType","bool","int","str","list","tuple","dict"]
def vwz(T U:String):Bool:=T==U||(T == "bool" && U == "int")
theorem kwz{K:PySem.W.Frag}{T U:String}(hT:T∈kinds)(hU:U∈kinds.tail):PySem.W.kitOne K (.type T) (.type U)=some (vwz T U):=by
 simp only[kinds,List.tail_cons,Y4,Xx,or_false]at hT hU;rcases hT with rfl|rfl|rfl|rfl|rfl|rfl|rfl<;>rcases hU with rfl|rfl|rfl|rfl|rfl|rfl<;>with_unfolding_all rfl
noncomputable def wkt(K:PySem.W.Frag):List V->Hp->VK->Prop:=λxs H Q=>∃x T U,xs=[x,.ty U]/\TyOf K H x (.type T)/\T∈kinds/\U∈kinds.tail/\Q (.bl (vwz T U)) H
theorem qxf:CallR X (.builtin "isinstance") (wkt X.K):=by
 intro pins s σ H xs us Q I r h;obtain⟨x,T,U,rfl,ty,hT,hU,q⟩:=h;obtain⟨u,w',rfl,r1,r2⟩:=W8 r;cases(show w'=Value.type U from r2);exact qqo I r1 ty (kwz hT hU) λtk=>⟨.bl _,H,I.tok _,rfl,q⟩
theorem qzq:∀{bs:List Bool} {ag:List Value} {i:Nat} {v:Value},Vals (bs.map V.bl) ag->ag[i]?=some v->∃b,bs[i]?=some b/\v=.bool b
 |[],_,_,_,.nil,e=>by simp at e
 |b::bs,_,0,v,.cons r _,e=>by
  simp at e;subst e;exact⟨b,rfl,r⟩
 |b::bs,_,i+1,v,.cons _ t,e=>by
  obtain⟨b',e1,e2⟩:=qzq (i:=i) t (by simpa using e);exact⟨b',by simpa using e1,e2⟩
theorem kvc(bs:List Bool):((List.range bs.length).all λi=>(bs[i]?).getD true)=bs.all id:=by
 rw[Bool.eq_iff_iff,Yd,Yd];constructor
 ·intro h b hb;obtain⟨i,hi,e⟩:=List.getElem_of_mem hb;have:=h i (List.mem_range.mpr hi);rw[X1 hi,e]at this;exact this
 ·intro h i hi;have ma:=List.mem_range.mp hi;rw[X1 ma];exact h _ (Xy ma)
noncomputable def wj2(K:PySem.W.Frag):List V->Hp->VK->Prop:=λxs H Q=>∃(p:Addr) (bs:List Bool),xs=[.ref p]/\SqL K H p (bs.map V.bl)/\Q (.bl (bs.all id)) H
theorem qxi(hc:X.calm=true):CallR X (.builtin "all") (wj2 X.K):=by
 intro pins s σ H xs us Q I r h;obtain⟨p,bs,rfl,hq,q⟩:=h;obtain⟨u,rfl,ru⟩:=xw r;cases ru;obtain⟨ag,rv,pl,hz⟩:=I.list hq;have hl:=pl.isList;have db:p<s.heap.objs.size:=by obtain⟨_,e,_⟩:=hl;exact Xb e
 have ax:bs.length=ag.length:=by rw[<-rv.length,X4]
 refine call_all_walk (wpAny_pyIter_list hl ?_);refine⟨s.heap.objs.size,[s.heap.objs.size,p],[s.heap.objs.size],ag.toArray.size,_,_,λi=>(bs[i]?).getD true,rfl,Walks.list (A:=X.A.in1) (I.ok.hd hc) _ p (Xn db) ag.toArray,
  ⟨⟨_,Xd _ rfl,rfl,rfl⟩,hl.push _⟩,λi v s' Q' E' hP hQ=>?_,λh' tk hk=>?_⟩
 ·obtain⟨b,e,rfl⟩:=qzq rv (by simpa using hP);simp only[e,Option.getD_some]at hQ;exact Yh hQ
 ·have e:((List.range ag.toArray.size).all λi=>(bs[i]?).getD true)=bs.all id:=by
   rw[X7,<-ax];exact kvc bs
  rw[e];refine⟨.bl _,H,I.kept (t':=tk) (h':=h') λb o e=>hk b o (λz=>?_) (X2 _ e),rfl,q⟩;exact absurd (Xb e) (by rw[List.mem_singleton.mp z];exact Yg _)
def Its(x:Str):It:=⟨λi _=>i<x.cps.size,λi H v H'=>H'=H/\∃c,x.cps[i]?=some c/\v=.str ⟨#[c]⟩,λi _=>i=x.cps.size⟩
theorem kxb{P:Program}{w:World}{K:PySem.W.Frag}{tg:Expr}{x:Str}{t:Tok}{it:Addr}{ty:String}
  (W:∀A':Around,A'.handled=none->Walks P w A' it [it] [it] x.cps.size (SignAt x) (λi h=>h.IsStrIter it ty x t i))
  (nr:∀(A:Around) (i:Nat) (s:Shared) (Q:Value->Shared->Prop) (E:Value->Shared->Prop),s.heap.IsStrIter it ty x t i->Q (.ref it) s->wpAny (model P w) A (pyIter (.ref it)) Q E s)
  (l0:["enumerate","zip","dict_itemiterator","dict_reverseitemiterator","odict_iterator","itertools.zip_longest","itertools.pairwise"].contains ty=false):
  Turn P w K tg (Its x) [it] it (λi h=>h.IsStrIter it ty x t i) where
 mem:=by simp
 obj:=λi h st b hb=>by
  have e:b=it:=by simpa using hb
  subst e;obtain⟨o,e,c,d⟩:=st;exact⟨o,e,λv z=>by rw[d]at z;cases z⟩
 keep:=λi h h' st k=>by
  obtain⟨o,e,r⟩:=st;exact⟨o,k it (by simp) o e,r⟩
 item:=by
  intro X hP hw hK hc i pins s σ H E I hf st hg;subst hP hw hK;obtain⟨f0,f1,f2,f3,f4,f5⟩:=hf it (by simp);refine(W X.A (I.ok.hd hc)).item i s _ _ hg st λv h' tk hv cz kk=>?_
  obtain⟨c,u,dl,rfl⟩:=hv;have I1:Inv X pins σ H { s with heap:=h',toks:=tk }:=I.turned (λb o hb e=>kk b o (by simpa using hb) e) f0 f1 f3 f4 f5;obtain⟨o,e,c1,d⟩:=id cz;exact⟨_,rfl,qx8 (s:={ s with heap:=h',toks:=tk }) e c1 d l0 ⟨.str ⟨#[c]⟩,H,I1,⟨u,rfl⟩,⟨rfl,c,dl,rfl⟩,cz,λb hb=>(hf b hb).1⟩⟩
 done:=by
  intro X hP hw hK hc i pins s σ H E I hf st hg;subst hP hw hK;obtain⟨f0,f1,f2,f3,f4,f5⟩:=hf it (by simp);have kh:i=x.cps.size:=hg;subst kh;exact(W X.A (I.ok.hd hc)).done s _ _ st λh' tk kk=>⟨rfl,I.turned (λb o hb e=>kk b o (by simpa using hb) e) f0 f1 f3 f4 f5⟩
 self:=λA i s Q E st hQ=>nr A i s Q E st hQ
noncomputable def wko:V->Option Int->Option Int->Hp->VK->Prop:=λx lo hi H Q=>∃z,x=.str z/\z.length<=sizeLine/\Q (.str (Txt.slice z lo hi)) H
theorem vqq:SlR X wko:=by
 intro pins s σ H x v vl vu lo hi sl Q I rx hs pl pu h;obtain⟨z,rfl,hz,q⟩:=h;obtain⟨t,rfl⟩:=rx;refine⟨"str",_,F.slot_str_getitem.lookup,typeIs_str _ _ _,?_⟩;have fin:∀(t':Tok) (k:Nat),EP X pins σ Q (.str (Txt.slice z lo hi) t') { s with toks:=k }:=λt' k=>⟨.str _,H,I.tok k,⟨t',rfl⟩,q⟩
 have gc:(Txt.slice z lo hi).length<=sizeLine:=Xs (Txt.slice_le z _ _) hz;cases pl with
 |none=>cases pu with
  |none=>exact wpAny_getItem_str_slice (l:=none) (u:=none) (st:=none) hs rfl (post_val_or_str ⟨gc,fin⟩)
  |int j tj=>exact wpAny_getItem_str_slice (l:=none) (u:=some (j,tj)) (st:=none) hs rfl (post_val_or_str ⟨gc,fin⟩)
 |int i ti=>cases pu with
  |none=>exact wpAny_getItem_str_slice (l:=some (i,ti)) (u:=none) (st:=none) hs rfl (post_val_or_str ⟨gc,fin⟩)
  |int j tj=>exact wpAny_getItem_str_slice (l:=some (i,ti)) (u:=some (j,tj)) (st:=none) hs rfl (post_val_or_str ⟨gc,fin⟩)
def vqy:R2:=λx y H Q=>∃z n,x=.str z/\y=.int n/\(z.length<=1024/\n<=1024/\-1024<=n)/\Q (.str (Txt.mul z n)) H
theorem vjw:OpR X (binaryOp .Mult) vqy:=by
 intro pins s σ H x y v u Q I rx ry h;obtain⟨z,n,rfl,rfl,⟨h1,h2,h3⟩,q⟩:=h;obtain⟨t,rfl⟩:=rx;obtain⟨t',rfl⟩:=ry;exact SB.mul (mulOk_of 1024 1024 h1 h2 (by omega) (by decide) (by decide)) λt' k=>⟨.str _,H,I.tok k,⟨t',rfl⟩,q⟩
theorem kxf:∀{ys:List Str} {ag:List Value},Vals (ys.map V.str) ag->StrsAre ag ys
 |[],_,.nil=>.nil
 |_::_,_,.cons ⟨t,e⟩ r=>by subst e;exact .cons _ t (kxf r)
noncomputable def vzz(K:PySem.W.Frag):V->List V->Hp->VK->Prop:=λx vs H Q=>∃z p ys,x=.str z/\vs=[.ref p]/\SqL K H p (ys.map V.str)/\(ys.map (·.length)).sum+ys.length*z.length<=16777216/\Q (.str (Txt.join z ys)) H
theorem vk3:MtR X "str.join" (vzz X.K):=by
 intro pins s σ H x xs v us Q I rx rv h;obtain⟨z,p,ys,rfl,rfl,hq,hok,q⟩:=h;obtain⟨t,rfl⟩:=rx;obtain⟨u,rfl,ru⟩:=rv.one;cases ru;obtain⟨ag,rs,pl,hz⟩:=I.list hq;exact join_list pl.isList (kxf rs) hok λt' k=>⟨.str _,H,I.tok k,⟨t',rfl⟩,q⟩
noncomputable def qxx(K:PySem.W.Frag):V->Option Int->Option Int->Hp->VK->Prop:=λx lo hi H Q=>wkp K x lo hi H Q\/wkn K x lo hi H Q\/wko x lo hi H Q
theorem vzr(K:PySem.W.Frag)(hK:autoParam (X.K=K) Ŕ):SlR X (qxx K):=by subst hK;exact sl_list.or (sl_tup.or vqq)
noncomputable def qkl(K:PySem.W.Frag):List V->Hp->VK->Prop:=λxs H Q=>(∃p ys,xs=[.ref p]/\(SqL K H p ys\/SqT K H p ys)/\Q (.int ys.length) H)\/(∃z,xs=[.str z]/\z.length<=sizeLine/\Q (.int z.length) H)\/(∃a ay,xs=[V.ref a]/\H a=some (.dK ay)/\Q (.int ay.length) H)
theorem vks(K:PySem.W.Frag)(hK:autoParam (X.K=K) Ŕ):CallR X (.builtin "len") (qkl K):=by subst hK;exact call_len_seq.or (call_len_str.or qvf)
theorem qvk:CallR X (.type "int") (λxs H Q=>(∃i,xs=[.int i]/\Q (.int i) H)\/∃k,xs=[.bl k]/\Q (.int (if k then 1 else 0)) H):=qvi
theorem W1(K:PySem.W.Frag)(hK:autoParam (X.K=K) Ŕ)(hc:autoParam (X.calm=true) Ŕ):CallR X (.builtin "all") (wj2 K):=by subst hK;exact qxi hc
theorem qz6(K:PySem.W.Frag){o e:Expr}{es:List Expr}{T:String}{name:Str}{id:String}{r:V->List V->Hp->VK->Prop}{to:TE}{t:TA}{be aw:Pos}
  (pa:PlainAttrs T) (slot:Slot T name id) (l0:typeOf (.builtin id)=pure (.type "method_descriptor")) (hm:MtR X id r) (ho:PE X o to) (ha:PA X (e::es) t)
  (br:autoParam (attributeBase o name X.env (eval o X.env)=eval o X.env) Ŕ)
  (dy:autoParam (((backTo aw (starEach (e::es) X.env)).all (λx=>!x.1)&&(backToKw aw (keywordEach [] X.env)).all (λx=>x.1.isSome)
   && decide ((e::es).length+([]:List Keyword).length+(if([]:List Keyword).isEmpty then 0 else 1)<30))=true) Ŕ)
  (c8:autoParam ((be.endLine==aw.line)=true) Ŕ) (hs:autoParam (starEach (e::es) X.env=(false,eval e X.env)::starEach es X.env) Ŕ) (bw:autoParam ((backTo aw (starEach es X.env)).any (·.1)=false) Ŕ) (hK:autoParam (X.K=K) Ŕ):
  PE X (.Call (.Attribute o name be) (e::es) [] aw) (tBM K T r to t):=by subst hK;exact vjt pa slot l0 hm ho ha br dy c8 hs bw
theorem vxl:bootBuiltins "len"=some (.builtin "len"):=by decide +kernel
theorem jvx:bootBuiltins "isinstance"=some (.builtin "isinstance"):=by decide +kernel
theorem VJ:bootBuiltins "all"=some (.builtin "all"):=by decide +kernel
theorem vxk:bootBuiltins "sum"=some (.builtin "sum"):=by decide +kernel
theorem qvm:bootBuiltins "sorted"=some (.builtin "sorted"):=by decide +kernel
theorem qzp:bootBuiltins "int"=some (.type "int"):=by decide +kernel
theorem qzo:bootBuiltins "str"=some (.type "str"):=by decide +kernel
theorem qvn:bootBuiltins "bool"=some (.type "bool"):=by decide +kernel
theorem V6:bootBuiltins "list"=some (.type "list"):=by decide +kernel
theorem kzi:bootBuiltins "tuple"=some (.type "tuple"):=by decide +kernel
end
def Cst(mg:Str->Option Value)(x:Str)(v:V):Prop:=∃u,mg x=some u/\RelV v u
section
variable {X:Cx}{x:Str}{p pos:Pos}{e:Expr}{es:List Expr}{t:TA}{ps:List Str}{sp:Sp}{k:Nat}{v:V}
theorem Wv(c:Cst X.mg x v)(hg:autoParam (Gl X x) Ŕ)(hd:autoParam ((x==("__debug__":Str))=false) ŕ):PE X (.Name x pos) (tC v):=by
 obtain⟨u,m,r⟩:=c;exact qkw hg m r hd
end
theorem kzj:∀{ns:List Int} {m:Nat},PySem.W.WData.weightAll (ns.map PySem.W.WData.int)<=m->∀n∈ns,Builtin.Int.intBits n<=m
 | [],_,_,_,h=>nomatch h
 | a::r,m,h,n,hn=>by
  have h':(if a==0 then 0 else a.natAbs.log2+1)+1+PySem.W.WData.weightAll (r.map PySem.W.WData.int)<=m:=h;rcases List.mem_cons.mp hn with z|z
  ·subst z;have e:Builtin.Int.intBits n=(if n==0 then 0 else n.natAbs.log2+1):=rfl;rw[e];omega
  ·exact kzj (m:=m) (by omega) n z
theorem kx8{ns:List Int}(h:PySem.W.WData.layableAll [PySem.W.WData.list (ns.map PySem.W.WData.int)]=true):∀n∈ns,Builtin.Int.intBits n<=1048576:=by
 have h1:(PySem.W.WData.list (ns.map PySem.W.WData.int)).layable=true:=(PySem.W.layW_cons h).1;unfold PySem.W.WData.layable at h1;simp only[Bool.and_eq_true,decide_eq_true_eq]at h1;have h2:PySem.W.WData.weightAll (ns.map PySem.W.WData.int)<=2 ^ 20:=h1.2;exact kzj (by simpa using h2)
inductive D where
 |non|bl (b:Bool)|int (i:Int)|str (z:Str)|lst (xs:List D)|tup (xs:List D)
section
variable {X:Cx}{pins:List (Addr×Obj)}{σ:L2.St}{H:Hp}{s:Shared}
theorem in1_units(A:Around):A.in1.units<=A.units+1:=by
 first|exact Xg _|(show A.units+1<=A.units+1;exact Xg _)|(unfold Around.in1;simp)
end
section
variable {X:Cx}
noncomputable def vj9:V->List V->Hp->VK->Prop:=λv vs H Q=>∃(x y:Str) (i:Nat) (jx:List Nat),v=.str x/\vs=[.str y]/\Builtin.Str.occurrences x y 0 x.length 1=i::jx/\Q (.int i) H
theorem vk4:MtR X "str.index" vj9:=by
 intro pins s σ H x xs v us Q I rx rv h;obtain⟨z,y,i,jx,rfl,rfl,ho,q⟩:=h;obtain⟨t,rfl⟩:=rx;obtain⟨u,rfl,t',rfl⟩:=rv.one;exact SC.index ho ⟨.int i,H,I.tok _,⟨_,rfl⟩,q⟩
noncomputable def qkk(K:PySem.W.Frag):List V->Hp->VK->Prop:=λxs H Q=>∃p ys,xs=[.ref p]/\(SqL K H p ys\/SqT K H p ys)/\∀l,H l=none->Q (.ref l) (upd H l (.lst ys))
theorem jzs(K:PySem.W.Frag)(hK:autoParam (X.K=K) Ŕ):CallR X (.type "list") (qkk K):=by subst hK;exact kvz
end
abbrev LET:Str:="abcdefghijklmnopqrstuvwxyz"
def Wd(z:Str):Prop:=1<=z.length/\z.length<=8/\∀ch∈z.cps.toList,ch∈LET.cps.toList
section
variable {X:Cx}
noncomputable def qkm:List V->Hp->VK->Prop:=λxs H Q=>(∃i,xs=[.int i]/\Q (.int i) H)\/(∃k,xs=[.bl k]/\Q (.int (if k then 1 else 0)) H)\/∃(x:Str) (n:Int),xs=[.str x]/\PySem.intText? x=some n/\x.length<=640/\Q (.int n) H
theorem qvh:CallR X (.type "int") qkm:=by
 intro pins s σ H xs us Q I r h;rcases h with h|h|⟨x,n,rfl,hx,hl,q⟩
 ·exact qvk pins s σ H xs us Q I r (.inl h)
 ·exact qvk pins s σ H xs us Q I r (.inr h)
 ·obtain⟨u,rfl,t,rfl⟩:=xw r;exact PySem.W.KIN.call_text hx hl ⟨.int n,H,I.tok _,⟨_,rfl⟩,q⟩
end
end L3
namespace L2
open PySem PySem.Spec PyProof.Rows
section
variable {P:Program}{w:World}{H H':Hp}{h h':Heap}{a:Addr}{o:HO}
theorem ObjOk.obj(x:ObjOk P w H h a o):∃u,h.get? a=some u:=by
 cases o with
 |lst xs=>obtain⟨_,_,_,_,e⟩:=x;exact⟨_,e⟩
 |tup xs=>obtain⟨_,_,_,p⟩:=x;obtain⟨u,e,_⟩:=p;exact⟨u,e⟩
 |dK ay=>obtain⟨_,_,_,_,o,_,_,e,_⟩:=x;exact⟨_,e⟩
 |dT ay=>obtain⟨_,_,_,_,o,_,_,e,_⟩:=x;exact⟨_,e⟩
 |set S n=>obtain⟨o,_,_,_,e,_⟩:=x;exact⟨_,e⟩
 |ins C dx fs=>obtain⟨_,_,_,e,_⟩:=x;exact⟨_,e⟩
 |own y=>obtain⟨_,e⟩:=x;exact⟨_,e⟩
 |xd fs=>obtain⟨_,⟨_,_,_,e,_⟩,_⟩:=x;exact⟨_,e⟩
 |rng lo hi=>obtain⟨_,_,_,e⟩:=x;exact⟨_,e⟩
 |frz ob u=>obtain⟨e,_⟩:=x;exact⟨_,e⟩
 |tbl ps=>exact⟨_,x⟩
 |met f y=>exact⟨_,x⟩
 |ext φ=>obtain⟨_,⟨_,e⟩,_⟩:=x;exact⟨_,e⟩
end
section
variable {X:Cx}{pins:List (Addr×Obj)}{σ:List (Option V)}{H H':Hp}{s:Shared}{h':Heap}
theorem Inv.stepN{g':Array GenState}{t':Nat}{d':Drawn}{ch:List Addr}(I:Inv X pins σ H s)
  (dw:∀b∈ch,(b∈X.ex\/X.s₀.heap.get? b=none)/\b≠X.env.locals/\(∀x c,X.env.cells.lookup x=some c->c≠b)/\∀p∈X.pn++pins,p.1≠b)
  (keep:∀b o,b≠X.env.locals->b∉X.fs->b∉ch->s.heap.get? b=some o->H b=none->h'.get? b=some o)
  (slot:∀b o,b≠X.env.locals->b∈X.fs->b∉ch->s.heap.get? b=some o->H b=none->∃sl,h'.get? b=some { o with slots:=sl }) (free:∀b o,b∉ch->s.heap.get? b=some o->H b=none->H' b=none)
  (there:∀b o,b∉ch->s.heap.get? b=some o->∃o',h'.get? b=some o')
  (tups:∀b xs,H b=some (.tup xs)->H' b=some (.tup xs)) (frzs:∀b o u,H b=some (.frz o u)->H' b=some (.frz o u)) (tbls:∀b ps,H b=some (.tbl ps)->∃gf,H' b=some (.tbl (ps++gf)))
  (ns:∀m,s.heap.Ns X.env.locals m->h'.Ns X.env.locals m) (hok:HOk X.prog X.w H' h') (hg:AllBare g'):
  Inv X pins σ H' { s with heap:=h',gens:=g',drawn:=d',toks:=t' }:=by
 have mt:∀b o,X.s₀.heap.get? b=some o->b≠X.env.locals:=λb o e=>Xn (Xi (Xb e) I.ok.above)
 have jf:∀b o,X.s₀.heap.get? b=some o->b∉X.ex->b∉ch:=λb o e hx hb=>by
  rcases(dw b hb).1 with z|z
  ·exact hx z
  ·rw[z]at e;cases e
 have fq:∀x c,X.env.cells.lookup x=some c->∀v,s.heap.IsCell c v->h'.IsCell c v:=λx c e v ⟨o,ho,hd⟩=>by
  have il:c∉ch:=λz=>(dw c z).2.2.1 x c e rfl
  by_cases hc:c∈X.fs
  ·obtain⟨sl,q⟩:=slot c o (I.cne x c e) hc il ho (I.freeC x c e);exact⟨_,q,hd⟩
  ·exact⟨o,keep c o (I.cne x c e) hc il ho (I.freeC x c e),hd⟩
 refine⟨I.ok,I.os,hg,⟨λb o e n hb hx=>?_,λb o e n hb hx=>?_,λb o e n hx=>?_,λb o e hx=>?_,λb xs e=>tups b xs (I.base.tups b xs e),λb o xs e=>frzs b o xs (I.base.frzs b o xs e),λb ps e=>?_⟩,?_,λx c e=>?_,?_,λx c e=>?_,λp hp=>?_,hok,I.len⟩
 ·exact keep b o (mt b o e) hb (jf b o e hx) (I.base.keep b o e n hb hx) (I.base.free b o e n hx)
 ·obtain⟨sl,e1⟩:=I.base.slot b o e n hb hx;obtain⟨sl',e2⟩:=slot b _ (mt b o e) hb (jf b o e hx) e1 (I.base.free b o e n hx);exact⟨sl',e2⟩
 ·obtain⟨o',e1⟩:=I.base.there b o e hx;exact free b o' (jf b o e hx) e1 (I.base.free b o e n hx)
 ·obtain⟨o',e1⟩:=I.base.there b o e hx;exact there b o' (jf b o e hx) e1
 ·obtain⟨m1,e1⟩:=I.base.tbls b ps e;obtain⟨m2,e2⟩:=tbls b _ e1;exact⟨m1++m2,by rw[e2,Array.append_assoc]⟩
 ·obtain⟨m,hn,hl⟩:=I.loc;refine⟨m,ns m hn,λi x v e1 e2 e3=>?_⟩;obtain⟨u,r,l⟩:=hl i x v e1 e2 e3;refine⟨u,r,?_⟩;rcases l with l|⟨k,c,e,z⟩
  ·exact .inl l
  ·exact .inr ⟨k,c,e,fq x c e _ z⟩
 ·obtain⟨v,z⟩:=I.cell x c e;exact⟨v,fq x c e v z⟩
 ·obtain⟨m,⟨o,_,_,ho,_⟩,_⟩:=I.loc;exact free _ o (λz=>(dw _ z).2.1 rfl) ho I.free
 ·obtain⟨v,o,ho,hd⟩:=I.cell x c e;exact free c o (λz=>(dw c z).2.2.1 x c e rfl) ho (I.freeC x c e)
 ·obtain⟨e,n,ne,nf,d⟩:=I.pin p hp;have il:p.1∉ch:=λz=>(dw p.1 z).2.2.2 p hp rfl
  exact⟨keep p.1 p.2 ne nf il e n,free p.1 p.2 il e n,ne,nf,d⟩
theorem Inv.callN{g':Array GenState}{t':Nat}{d':Drawn}{ch:List Addr}(I:Inv X pins σ H s)(u:Un (frs X.stack) ch H H' s.heap h')(hok:HOk X.prog X.w H' h')(hg:AllBare g')
  (dw:∀b∈ch,(b∈X.ex\/X.s₀.heap.get? b=none)/\b≠X.env.locals/\(∀x c,X.env.cells.lookup x=some c->c≠b)/\∀p∈X.pn++pins,p.1≠b):
  Inv X pins σ H' { s with heap:=h',gens:=g',drawn:=d',toks:=t' }:=by
 obtain⟨m,⟨o,es,ep,ho,r⟩,_⟩:=id I.loc;obtain⟨sl,hL⟩:=u.any ho I.free λz=>(dw _ z).2.1 rfl
 exact I.stepN (ch:=ch) dw (λb o hL hb hc e n=>u.keep b o e n (λz=>(List.mem_cons.mp (I.stkSub b z)).elim hL hb) hc) (λb o _ _ hc e n=>u.any e n hc) (λb o hc e n=>u.free b o e n hc) (λb o hc e=>u.there b o e hc) u.tups u.frzs u.tbls (λm' hm=>by
  obtain⟨o',es',n9,f8,r'⟩:=hm;rw[ho]at f8;cases f8;exact⟨_,es',n9,hL,r'⟩) hok hg
end
end L2
namespace L3
open PySem PySem.Spec PyProof.Rows L2
theorem kjb{e:Value}{env env0:Env}(h:env.frame=env0.frame):noteFrame e env=noteFrame e env0:=by
 unfold noteFrame PySem.frameOf;rw[h]
structure Fl0 (h:Heap)(x:Addr)(C:Value)(vs:Array Value):Prop where
 ob:h.get? x=some { cls:=C,data:=.fields vs }
 sz:1<vs.size
structure FlT (h:Heap)(x T:Addr)(C:Value)(fl:Value):Prop where
 ex:∃vs,h.get? x=some { cls:=C,data:=.fields vs }/\vs[1]?=some (.ref T)
 tb:∃oT ts,h.get? T=some oT/\oT.data=.fields ts/\ts[3]?=some fl
 ne:T≠x
structure Chg (fs ch:List Addr)(h h':Heap):Prop where
 keep:∀b o,h.get? b=some o->b∉fs->b∉ch->h'.get? b=some o
 slot:∀b o,h.get? b=some o->b∉ch->∃sl,h'.get? b=some { cls:=o.cls,dict:=o.dict,data:=o.data,slots:=sl }
 size:h.objs.size<=h'.objs.size
theorem Chg.trans{fs ch ch':List Addr}{h h1 h2:Heap}(a:Chg fs ch h h1)(b:Chg fs ch' h1 h2)(hc:∀x∈ch',x∈ch\/h.get? x=none):Chg fs ch h h2 where
 keep:=λx o e h1 h2=>b.keep x o (a.keep x o e h1 h2) h1 λz=>(hc x z).elim h2 λq=>by rw[q]at e;cases e
 slot:=λx o e hn=>by
  obtain⟨sl,e1⟩:=a.slot x o e hn;obtain⟨m4,e2⟩:=b.slot x _ e1 λz=>(hc x z).elim hn λq=>by rw[q]at e;cases e
  exact⟨m4,e2⟩
 size:=Xs a.size b.size
theorem Chg.mono{fs ch ch':List Addr}{h h1:Heap}(a:Chg fs ch h h1)(hc:∀x∈ch,x∈ch'):Chg fs ch' h h1:=⟨λb o e h1 h2=>a.keep b o e h1 λz=>h2 (hc b z),λb o e h2=>a.slot b o e λz=>h2 (hc b z),a.size⟩
theorem Chg.of_upd{fs : List Addr}{h : Heap}{a : Addr}{f : Obj -> Obj}: Chg fs [a] h (h.update a f):=
  ⟨λb o e _ hn=>by rw[Yp _ _ _ _ (λz=>hn (List.mem_singleton.mpr z))]; exact e,
   λb o e hn=>⟨o.slots, by rw[Yp _ _ _ _ (λz=>hn (List.mem_singleton.mpr z))]; exact e⟩, by rw[Heap.size_update]; exact Xg _⟩
theorem Chg.of_push{fs:List Addr}{h:Heap}{o:Obj}:Chg fs [] h (h.push o):=
 ⟨λb o e _ _=>X2 _ e,λb o e _=>⟨o.slots,X2 _ e⟩,by rw[Heap.size_push];omega⟩
theorem Chg.of_slots{fs:List Addr}{h h':Heap}(s:Heap.SlotsOnly fs h h'):Chg fs [] h h':=
 ⟨λb o e hn _=>(s.2.1 b hn).trans e,λb o e _=>s.2.2 b o e,by rw[s.1];exact Xg _⟩
theorem Chg.refl{fs ch:List Addr}{h:Heap}:Chg fs ch h h:=⟨λ_ _ e _ _=>e,λb o e _=>⟨o.slots,e⟩,Xg _⟩
section
variable {M:Model}{A:Around}{E:Value->Shared->Prop}{s:Shared}{base:Heap}{env:Env}{outer:List Env}{L x T:Addr}{C fl:Value}
theorem kvv{head:Value}{hadNext:Bool}{vs:Array Value}{Q:Unit->Shared->Prop}(hA:A.frames=some (env::outer))(hF:s.heap.FunFrames base (env::outer))(hL:env.frame=some L)(ho:Fl0 s.heap x C vs)
  (h:∀h' T',Chg (frs (env::outer)) [x] s.heap h'->s.heap.objs.size<=T'->FlT h' x T' C (rawInt ↑L)->Q () { s with heap:=h' }):
  wpAny M A (do
   let a <-PySem.frameOf env
   let pl <-entryPlaceOf L hadNext
   let b <-EntryCells.newEntry head a Value.none (rawInt ↑L) Value.none pl
   setField (Value.ref x) 1 b) Q E s:=by
 refine X0 (wpAny_frameOf_fun hA hF hL λh1 s1=>?_);have hx:x∉frs (env::outer):=λz=>by
  obtain⟨_,o,e,hn⟩:=hF.mem z;rw[ho.ob]at e;cases e;exact hn _ rfl
 have o1:h1.get? x=some { cls:=C,data:=.fields vs }:=(s1.2.1 x hx).trans ho.ob;have fin:∀pl:List Value,IsPlace pl->wpAny M A (do
   let b <-EntryCells.newEntry head (Value.ref L) Value.none (rawInt ↑L) Value.none pl
   setField (Value.ref x) 1 b) Q E { s with heap:=h1 }:=λpl bq=>by
  refine X0 ?_;unfold EntryCells.newEntry newFields;have har:([head,Value.ref L,Value.none,rawInt ↑L,Value.none]++if pl.isEmpty=true then List.replicate 6 Value.none else pl).toArray[3]?=some (rawInt ↑L):=by simp
  have hsz:([head,Value.ref L,Value.none,rawInt ↑L,Value.none]++if pl.isEmpty=true then List.replicate 6 Value.none else pl).toArray.size<=sizeLine+2:=by
   rcases bq with rfl|⟨_,_,_,_,_,_,_,rfl⟩<;>simp<;>decide
  generalize ([head,Value.ref L,Value.none,rawInt ↑L,Value.none]++if pl.isEmpty=true then List.replicate 6 Value.none else pl).toArray=ar at har hsz;refine Xq ?_ hsz;have o2:(h1.push { cls:=.type "traceback",data:=.fields ar }).get? x=some { cls:=C,data:=.fields vs }:=X2 _ o1;refine Ym (s:={ s with heap:=h1.push _ }) o2 rfl ho.sz ?_;have ef:h1.objs.size≠x:=λe=>absurd (Xb o1) (by rw[<-e];exact Yg _)
  have o3:((h1.push { cls:=.type "traceback",data:=.fields ar }).update x (Obj.mapFields λy=>y.setIfInBounds 1 (.ref h1.objs.size))).get? h1.objs.size=some { cls:=.type "traceback",data:=.fields ar }:=by
   rw[Yp _ _ _ _ ef];exact Xd _ rfl
  refine h _ h1.objs.size (((Chg.of_slots s1).mono (λ_ z=>nomatch z)).trans ((Chg.of_push.mono λ_ z=>nomatch z).trans (ch:=[x]) Chg.of_upd λy hy=>.inl hy) λy hy=>.inl hy) (by rw[s1.1];exact Xg _) ⟨⟨vs.setIfInBounds 1 (.ref h1.objs.size),?_,Array.getElem?_setIfInBounds_self_of_lt ho.sz⟩,⟨_,_,o3,rfl,har⟩,ef⟩;exact Y0 _ o2 rfl
 exact X0 (wpAny_entryPlaceOf λpl bq=>fin pl bq)
theorem wjl{vs:Array Value}{Q:Unit->Shared->Prop}(hA:A.frames=some (env::outer))(hF:s.heap.FunFrames base (env::outer))(hL:env.frame=some L)(ho:Fl0 s.heap x C vs)(hv:vs[1]?=some .none)
  (h:∀h' T',Chg (frs (env::outer)) [x] s.heap h'->s.heap.objs.size<=T'->FlT h' x T' C (rawInt ↑L)->Q () { s with heap:=h' }):wpAny M A (noteFrame (.ref x) env) Q E s:=by
 unfold noteFrame;rw[hL];refine X0 (Yw ho.ob rfl hv ?_);exact kvv (hadNext:=false) hA hF hL ho h
theorem upd3{T:Addr}{oT:Obj}{ts:Array Value}{v:Value}{h:Heap}(e:h.get? T=some oT)(ed:oT.data=.fields ts)(h3:3<ts.size):
  ∃o' ts',(h.update T (Obj.mapFields λy=>y.setIfInBounds 3 v)).get? T=some o'/\o'.data=.fields ts'/\ts'[3]?=some v:=by
 obtain⟨c,d,dt,sl⟩:=oT;cases(show dt=.fields ts from ed);exact⟨_,ts.setIfInBounds 3 v,Y0 _ e rfl,rfl,Array.getElem?_setIfInBounds_self_of_lt h3⟩
theorem wjk{Q:Unit->Shared->Prop}(hA:A.frames=some (env::outer))(hF:s.heap.FunFrames base (env::outer))(hL:env.frame=some L)(f:FlT s.heap x T C fl)
  (h:∀h' T',Chg (frs (env::outer)) [x,T] s.heap h'->(s.heap.objs.size<=T'\/T'=T)->FlT h' x T' C (rawInt ↑L)->Q () { s with heap:=h' }):wpAny M A (noteFrame (.ref x) env) Q E s:=by
 obtain⟨⟨vs,e1,v1⟩,⟨oT,ts,e2,d2,v2⟩,ef⟩:=f;have h3:3<ts.size:=by
  rw[Array.getElem?_eq_some_iff]at v2;exact v2.1
 have h1:1<vs.size:=by
  rw[Array.getElem?_eq_some_iff]at v1;exact v1.1
 unfold noteFrame;rw [hL];refine X0 (Yw e1 rfl v1 ?_);show wpAny M A (if((Value.ref T != Value.none)=true)then _ else _) Q E s;rw [Xe (show(Value.ref T != Value.none)=true from rfl)];refine X0 (Yw e2 d2 v2 ?_)
 by_cases hf:(fl==rawInt ↑L)=true
 ·rw[Xe hf];have e:fl=rawInt ↑L:=eq_of_beq hf;subst e;exact X3 (h s.heap T Chg.refl (.inr rfl) ⟨⟨vs,e1,v1⟩,⟨oT,ts,e2,d2,v2⟩,ef⟩)
 ·rw[Xl hf];refine X0 (Ym e2 d2 h3 ?_);have c1:Chg (frs (env::outer)) [x,T] s.heap (s.heap.update T (Obj.mapFields λy=>y.setIfInBounds 3 Value.none)):=Chg.of_upd.mono λy hy=>by
   rw[List.mem_singleton.mp hy];simp
  have e1':(s.heap.update T (Obj.mapFields λy=>y.setIfInBounds 3 Value.none)).get? x=some { cls:=C,data:=.fields vs }:=by
   rw[Yp _ _ _ _ ef.symm];exact e1
  have hF':(s.heap.update T (Obj.mapFields λy=>y.setIfInBounds 3 Value.none)).FunFrames base (env::outer):=by
   refine hF.of_keeps λb o e hn=>⟨o,?_,rfl⟩
   rw[Yp _ _ _ _ λz=>?_]
   ·exact e
   ·rw[z,e2]at e;cases e;exact hn _ d2
  refine kvv (s:={ s with heap:=s.heap.update T _ }) (hadNext:=true) hA hF' hL ⟨e1',h1⟩ λh' T' c2 hs f'=>?_
  refine h h' T' (c1.trans (c2.mono (ch':=[x,T]) λy hy=>by rw[List.mem_singleton.mp hy];simp) λy hy=>.inl hy) (.inl ?_) f';rw[Heap.size_update]at hs;exact hs
theorem vx8{Q:Unit->Shared->Prop}{fr:Option Addr}(f:FlT s.heap x T C fl)(h:∀h',Chg (frs outer) [x,T] s.heap h'->FlT h' x T C (fr.elim Value.none λf=>rawInt ↑f)->Q () { s with heap:=h' }):wpAny M A (setFlight (.ref x) fr) Q E s:=by
 obtain⟨⟨vs,e1,v1⟩,⟨oT,ts,e2,d2,v2⟩,ef⟩:=f;have h3:3<ts.size:=by
  rw[Array.getElem?_eq_some_iff]at v2;exact v2.1
 unfold setFlight;refine X0 (Yw e1 rfl v1 ?_);rw[Xe (show(Value.ref T != Value.none)=true from rfl)];refine Ym e2 d2 h3 (h _ (Chg.of_upd.mono λy hy=>by rw[List.mem_singleton.mp hy];simp) ⟨⟨vs,?_,v1⟩,upd3 e2 d2 h3,ef⟩);rw[Yp _ _ _ _ ef.symm];exact e1
end
theorem qxl:plainId "BaseException.__getattribute__"=true:=by decide +kernel
theorem vku:builtinKind "BaseException.__getattribute__"=some .slot:=by decide +kernel
theorem qxk:splitId "BaseException.__getattribute__"=some ("BaseException","__getattribute__"):=by decide +kernel
structure XCls (K:PySem.W.Frag)(C:Addr):Prop where
 ga:PySem.W.findIn K (.ref C) "__getattribute__"=some (some (.builtin "BaseException.__getattribute__"))
 gt:PySem.W.findIn K (.ref C) "__getattr__"=some none
 fo:PySem.W.findObj K C none "__class__"=some (.bind (.builtin "getset_descriptor.__get__") (.builtin "object.__class__"))
 ob:PySem.W.mroIn K C (.type "object")=some true
 bx:PySem.W.mroIn K C (.type "BaseException")=some true
 cl:(PySem.W.clsIn K C).isSome=true
section
variable {P:Program}{w:World}{A:Around}{E:Value->Shared->Prop}{s:Shared}{K:PySem.W.Frag}{x C:Addr}{ox:Obj}
theorem Lk{α:Type}{M:Model}{A:Around}{E:Value->Shared->Prop}{s:Shared}{t:Sem α}{r:α}{Q:α->Shared->Prop}(l:PySem.W.Looks M s.heap t r)(q:Q r s):wpAny M A t Q E s:=l A Q E s (λ_ _ e=>e) q
theorem qxn{nm:Value}{Q:Unit->Shared->Prop}(KI:K.In s.heap)(X:XCls K C)(bp:PySem.W.InstAt s.heap x ox C none)(q:Q () s):
  wpAny (model P w) A (checkBuiltinCall "BaseException.__getattribute__" { pos:=[.ref x,nm] }) Q E s:=by
 rw[checkBuiltinCall.eq_1,vku,qxk];refine X0 ?_;unfold isInstance;refine X0 (Lk bp.type (Lk (PySem.W.looks_mroIn KI X.bx) ?_));rw[Xl (by decide)];have h:=F.args_bexc_ga (.ref x) nm;unfold argsOk at h;show wpAny _ A (match Manifest.signature? "BaseException.__getattribute__" with|some sig=>Bind.checkArgs "BaseException.__getattribute__" sig { pos:=[.ref x,nm] }|x=>pure ()) Q E s;cases hs:Manifest.signature? "BaseException.__getattribute__" with
 |none=>exact X3 q
 |some sig=>
  rw[hs]at h;have h:Bind.checkArgs "BaseException.__getattribute__" sig { pos:=[.ref x,nm] }=pure ():=h;show wpAny _ A (Bind.checkArgs "BaseException.__getattribute__" sig { pos:=[.ref x,nm] }) Q E s;rw[h];exact X3 q
theorem wk7:(Value.builtin "BaseException.__getattribute__" == Value.builtin "object.__getattribute__")=false:=by decide
theorem qxm{Q:Option Value->Shared->Prop}(KI:K.In s.heap)(X:XCls K C)(bp:PySem.W.InstAt s.heap x ox C none)(q:Q (some (.ref C)) { s with toks:=s.toks+1 }):
  wpAny (model P w) A (getAttr? (.ref x) "__class__") Q E s:=by
 unfold getAttr?;refine X0 (wpAny_mkText ?_);unfold getAttrBy?;refine X0 (wpAny_attempt ?_);unfold getAttrBy;refine Y1 (X0 (Lk (s:={ s with toks:=s.toks+1 }) bp.type (X0 (Lk (s:={ s with toks:=s.toks+1 }) (PySem.W.looks_findIn KI X.ga) ?_))));dsimp only;rw[Xl (by rw[wk7,Bool.and_false];decide)];unfold getAttrByItsOwn;refine X0 (Lk (s:={ s with toks:=s.toks+1 }) (PySem.W.looks_hook (K:=K) KI (r:=none) X.gt) ?_);refine X0 (wpAny_attempt (Y1 ?_));unfold callGetattribute;rw[Xl (by decide)];unfold boundAndCalled;rw[F.excAttr_ValueError.ga.bind];refine X0 (X3 ?_);refine wpAny_call (codeAny_call_builtin qxl F.entry_bexc_ga (qxn (s:={ s with toks:=s.toks+1 }) KI X bp ?_));unfold Builtin.«object.__getattribute__»;have hsl:slotArgs "__getattribute__" 1 { pos:=[.ref x]++[.str "__class__" s.toks] }=pure (.ref x,[.str "__class__" s.toks]):=rfl;rw[hsl];refine X0 (X3 ?_);show wpAny _ A.in1 (Builtin.ObjectAttr.attrName (.str "__class__" s.toks) >>= _) _ _ _;refine X0 (X3 ?_);refine X0 (Lk (s:={ s with toks:=s.toks+1 }) bp.type ?_);refine X0 (Lk (s:={ s with toks:=s.toks+1 }) (PySem.W.looks_find KI bp X.fo) ?_);show wpAny _ A.in1 (Builtin.ObjectAttr.bindTo (.builtin "getset_descriptor.__get__") (.builtin "object.__class__") (.ref x) (.ref C)) _ _ _;unfold Builtin.ObjectAttr.bindTo;refine X0 (Y1 (wpAny_call (PySem.W.class_get (s:={ s with toks:=s.toks+1 }) KI bp X.ob ?_)));refine X3 ?_;exact X3 (X3 q)
theorem qvb{h:Heap}(KI:K.In h)(X:XCls K C):∃o cd,h.get? C=some o/\o.data=.cls cd:=by
 have c:=X.cl;unfold PySem.W.clsIn at c
 split at c
 ·rename_i e;exact⟨_,_,KI _ _ e,rfl⟩
 ·cases c
theorem kqd(X:XCls K C):PySem.W.KitX K (.ref x) (.ref C) (λh=>∃ox,PySem.W.InstAt h x ox C none) where
 ty:=λM h KI ⟨ox,a⟩=>a.type
 it:=λM h KI _=>by
  obtain⟨o,cd,e,d⟩:=qvb KI X;intro A Q E s hk q;unfold isType;refine X0 (PySem.W.Looks.ld e A _ _ s hk ?_);rw[d];exact X3 q
 ne:=λh tp dd ag n sl KI e=>by
  obtain⟨o,cd,e',d⟩:=qvb KI X
  by_cases z:C=tp
  ·subst z;rw[e']at e;cases e;cases d
  ·simpa using z
 ca:=λKI ⟨ox,a⟩ q=>qxm KI X a q
end
noncomputable def FpX(X:Cx)(pins:List (Addr×Obj))(H:Hp)(b:Addr):Prop:=
 H b=none/\b≠X.env.locals/\b∉X.fs/\(b∈X.ex\/X.s₀.heap.get? b=none)/\(∀x c,X.env.cells.lookup x=some c->c≠b)/\∀p∈X.pn++pins,p.1≠b
section
variable {X:Cx}{pins:List (Addr×Obj)}{σ:L2.St}{H:Hp}{s:Shared}
theorem qx5{P:Program}{w:World}{H:Hp}{h:Heap}{b:Addr}(k:HOk P w H h)(e:h.get? b=none):H b=none:=by
 cases q:H b with
 |none=>rfl
 |some u=>
  obtain⟨o,z⟩:=(k b u q).obj;rw[e]at z;cases z
theorem fpX{H':Hp}{b:Addr}(I:Inv X pins σ H s)(hb:s.heap.get? b=none)(hn:H' b=none):FpX X pins H' b:=by
 refine⟨hn,λz=>?_,λz=>?_,?_,λx c e z=>?_,λp hp z=>?_⟩
 ·obtain⟨m,⟨o,_,_,ho,_⟩,_⟩:=I.loc;rw[<-z,hb]at ho;cases ho
 ·obtain⟨_,o,e,_⟩:=I.ok.funs.mem z
  by_cases hx:b∈X.ex
  ·exact I.ok.exfs b hx z
  ·obtain⟨o',e'⟩:=I.base.there b o e hx;rw[hb]at e';cases e'
 ·by_cases hx:b∈X.ex
  ·exact .inl hx
  ·cases e:X.s₀.heap.get? b with
   |none=>exact .inr rfl
   |some o=>
    obtain⟨o',e'⟩:=I.base.there b o e hx;rw[hb]at e';cases e'
 ·obtain⟨v,o,ho,_⟩:=I.cell x c e;rw[z,hb]at ho;cases ho
 ·have:=(I.pin p hp).1;rw[z,hb]at this;cases this
theorem FpX.of{b:Addr}(h:vZ X pins H b):FpX X pins H b:=⟨h.1,h.2.1,h.2.2.1,h.2.2.2.1.imp id λz=>Heap.get?_none_of_le z,h.2.2.2.2⟩
theorem kx2{h':Heap}{ch:List Addr}(I:Inv X pins σ H s)(c:Chg (frs X.stack) ch s.heap h')(hf:∀b∈ch,FpX X pins H b):Inv X pins σ H { s with heap:=h' }:=by
 refine I.callN (g':=s.gens) (t':=s.toks) (d':=s.drawn) (ch:=ch) ⟨λb o e _ h1 h2=>c.keep b o e h1 h2,λb o e _ _ h2=>c.slot b o e h2,λ_ _ _ n _=>n,λb o e h2=>?_,λ_ _ e=>e,λ_ _ _ e=>e,λ_ _ e=>⟨#[],by rw[e];simp⟩⟩ (λb u e=>?_) I.bare λb hb=>?_
 ·obtain⟨sl,q⟩:=c.slot b o e h2;exact⟨_,q⟩
 ·have no:∀d v,H d=some v->d∉frs X.stack/\d∉ch:=λd v e=>⟨λz=>(by rw[I.stkFree d z]at e;cases e),λz=>(by rw[(hf d z).1]at e;cases e)⟩
  refine(I.hok b u e).stay (λd v hc q=>?_) (λ_ q=>q) λ_ _ q=>q
  rcases hc with z|z
  ·rw[z]at q ⊢;exact c.keep b v q (no b u e).1 (no b u e).2
  ·exact c.keep d v q (no d _ z).1 (no d _ z).2
 ·obtain⟨_,f1,_,f3,f4,f5⟩:=hf b hb;exact⟨f3,f1,f4,f5⟩
end
structure Fx (X:Cx)(pins:List (Addr×Obj))(H:Hp)(h:Heap)(x:Addr)(C:Value):Prop where
 fp:FpX X pins H x
 st:(∃vs,Fl0 h x C vs/\vs[1]?=some .none)\/∃T fl,FlT h x T C fl/\FpX X pins H T
structure Xt (X:Cx)(pins:List (Addr×Obj))(σ:L2.St)(H:Hp)(x T:Addr)(C fl:Value)(s:Shared):Prop where
 inv:Inv X pins σ H s
 fx:FpX X pins H x
 fT:FpX X pins H T
 f:FlT s.heap x T C fl
theorem Xt.to{X:Cx}{pins:List (Addr×Obj)}{σ:L2.St}{H:Hp}{x T:Addr}{C fl:Value}{s:Shared}(h:Xt X pins σ H x T C fl s):Fx X pins H s.heap x C:=⟨h.fx,.inr ⟨T,fl,h.f,h.fT⟩⟩
noncomputable def Xo(X:Cx)(E:XK)(e:Value)(s:Shared):Prop:=∃pins σ H x C,e=.ref x/\Inv X pins σ H s/\Fx X pins H s.heap x C/\E C none H
def zx(X:Cx)(E:XK):Prop:=∀pins σ H s x C,Inv X pins σ H s->Fx X pins H s.heap x C->E C none H->X.xe (.ref x) s
abbrev Cx.ex'(X:Cx)(E:XK):Cx:=X.wish (Xo X E)
theorem kjl{X:Cx}{E:XK}:zx (Cx.ex' X E) E:=λpins σ H s x C I f q=>⟨pins,σ,H,x,C,rfl,I.unwish,⟨f.fp,f.st⟩,q⟩
def Jq(X:Cx):Prop:=∃env0 out,X.stack=env0::out/\X.env.frame=env0.frame
section
variable {X:Cx}{pins:List (Addr×Obj)}{σ:L2.St}{H:Hp}{s:Shared}{M:Model}{E':Value->Shared->Prop}{x T:Addr}{C fl:Value}
theorem kxw{A:Around}{Q:Unit->Shared->Prop}(top:Jq X)(hA:A.frames=X.A.frames)(I:Inv X pins σ H s)(f:Fx X pins H s.heap x C)(h:∀L T s',X.env.frame=some L->Xt X pins σ H x T C (rawInt ↑L) s'->Q () s'):
  wpAny M A (noteFrame (.ref x) X.env) Q E' s:=by
 obtain⟨env0,out,e1,e2⟩:=top;have hF:=I.stack;have i9:A.frames=some (env0::out):=by rw[hA,I.ok.frames,e1]
 rw[e1]at hF;obtain⟨_,⟨L,o,hL,_⟩,_⟩:=id hF;rw[kjb e2];have hL':X.env.frame=some L:=e2.trans hL;rcases f.st with⟨vs,f0,hv⟩|⟨T,fl,fT,pT⟩
 ·refine wjl i9 hF hL f0 hv λh' T' c hs jy=>h L T' _ hL' ⟨?_,f.fp,fpX I (Heap.get?_none_of_le hs) (I.hok.fresh hs),jy⟩
  rw[<-e1]at c;exact kx2 I c λb hb=>by rw[List.mem_singleton.mp hb];exact f.fp
 ·refine wjk i9 hF hL fT λh' T' c hs jy=>?_
  rw[<-e1]at c;refine h L T' _ hL' ⟨kx2 I c λb hb=>?_,f.fp,?_,jy⟩
  ·simp only[Y4,Xx,or_false]at hb;rcases hb with rfl|rfl
   ·exact f.fp
   ·exact pT
  ·rcases hs with hs|hs
   ·exact fpX I (Heap.get?_none_of_le hs) (I.hok.fresh hs)
   ·rw[hs];exact pT
theorem Z3{A:Around}{Q:Unit->Shared->Prop}{fr:Option Addr}(t:Xt X pins σ H x T C fl s)(h:∀s',Xt X pins σ H x T C (fr.elim Value.none λf=>rawInt ↑f) s'->Q () s'):wpAny M A (setFlight (.ref x) fr) Q E' s:=by
 refine vx8 (outer:=X.stack) t.f λh' c jy=>h _ ⟨kx2 t.inv c λb hb=>?_,t.fx,t.fT,jy⟩
 simp only[Y4,Xx,or_false]at hb;rcases hb with rfl|rfl
 ·exact t.fx
 ·exact t.fT
theorem vw1{α:Type}{A:Around}{what:String}{ie:Env}{Q:α->Shared->Prop}(t:Xt X pins σ H x T C fl s)(h:∀s' jy,Xt X pins σ H x T C jy s'->E' (.ref x) s'):wpAny M A (PySem.passOn what (.ref x) ie:Sem α) Q E' s:=by
 unfold PySem.passOn;obtain⟨vs,e1,v1⟩:=t.f.ex;refine X0 (Yw e1 rfl v1 ?_);rw[Xl (show ¬(Value.ref T==Value.none)=true by intro z;cases z)];refine X0 (Z3 t λs' t'=>?_);exact wpAny_throw (h s' _ t')
theorem wjg{E:XK}(top:Jq X):PassesOwn M X.A X.env (Xo X E):=by
 rintro e s' ⟨pins,σ,H,x,C,rfl,I,f,q⟩;unfold notedBy;refine kxw top rfl I f λL T s1 _ t=>?_
 unfold cameBackBy;obtain⟨vs,e1,v1⟩:=t.f.ex;refine X0 (Yw e1 rfl v1 ?_);rw[Xl (show ¬(Value.ref T==Value.none)=true by intro z;cases z)];exact Z3 t λs2 t2=>⟨pins,σ,H,x,C,rfl,t2.inv,t2.to,q⟩
end
noncomputable def CXE(P:Program)(w:World):CXT:=λouter H s E e s'=>∃x T C fl H',e=.ref x/\s'.os=s.os/\AllBare s'.gens/\Un (frs outer) [] H H' s.heap s'.heap/\HOk P w H' s'.heap /\
 s.heap.get? x=none/\s.heap.get? T=none/\H' x=none/\H' T=none/\FlT s'.heap x T C fl/\E C none H'
theorem wjf{X:Cx}{E:XK}(g:zx X E):qvz (CXE X.prog X.w) X E:=by
 rintro pins σ H s e s' I ⟨x,T,C,fl,H',rfl,os,bare,un,hok,hx,hT,nx,nT,f,q⟩;refine g pins σ H' s' x C (I.call' os un hok bare λb hb=>nomatch hb) ⟨fpX I hx nx,.inr ⟨T,fl,f,fpX I hT nT⟩⟩ q
theorem qzw{CX:CXT}{P:Program}{w:World}{K:PySem.W.Frag}{mg:Str->Option Value}{base:Heap}{N:List Str}{qual:Str}{scope:Scope}{f:Addr}{cd:Value}{A:Around}{outer:List Env}{s:Shared}{H:Hp}{E:XK}:
  Jq (zJ CX P w K mg base N qual scope f cd A outer s H E):=⟨_,_,rfl,rfl⟩
theorem qqd{P:Program}{w:World}{K:PySem.W.Frag}{mg:Str->Option Value}{base:Heap}{N:List Str}{qual:Str}{scope:Scope}{f:Addr}{cd:Value}{A:Around}{outer:List Env}{s:Shared}{H:Hp}{E:XK}{e:Value}{s':Shared}
  (h:Xo (zJ (CXE P w) P w K mg base N qual scope f cd A outer s H E) E e s'):(zJ (CXE P w) P w K mg base N qual scope f cd A outer s H E).xe e s':=by
 obtain⟨pins,σ,H',x,C,rfl,I,fx,q⟩:=h;show wpAny (model P w) _ (leaving _ (.ref x)) _ _ s';unfold leaving;refine X0 (kxw (X:=zJ (CXE P w) P w K mg base N qual scope f cd A outer s H E) qzw rfl I fx λL T s1 _ t=>?_);refine Z3 t λs2 t2=>?_
 have ge:∀b,FpX (zJ (CXE P w) P w K mg base N qual scope f cd A outer s H E) pins H' b->s.heap.get? b=none:=λb hb=>hb.2.2.2.1.elim (λz=>nomatch z) λz=>z
 exact⟨x,T,C,_,H',rfl,t2.inv.os,t2.inv.bare,t2.inv.base,t2.inv.hok,ge x t2.fx,ge T t2.fT,t2.fx.1,t2.fT.1,t2.f,q⟩
section
variable {P:Program}{w:World}{K:PySem.W.Frag}{mg:Str->Option Value}{base:Heap}
theorem qv{x qual:Str}{st:Stmt}{f:Addr}{fd:FuncData}{N ps:List Str}{k:Nat}{sp:Sp}(F:Fun K x qual st f fd)(S:FnScope N ps (kj st))(len:∀vs H Q E,sp vs H Q E->vs.length=ps.length)
  (ik:∀(bf:Value) (A:Around) (outer:List Env) (s:Shared) (H:Hp) (vs:List V) (Q:VK) (E:XK),Room k (A.deeper (envOfC qual (kj st) s.heap.objs.size f bf))->sp vs H Q E ->
   ∃t,PSs (Cx.ex' (zJ (CXE P w) P w K mg base N qual (kj st) f bf A outer s H E) E) (Kv st) t/\t { nx:=λ_ H'=>Q .non H',rt:=Q } (L2.start N vs) H):FnOk P w K mg base (CXE P w) (k+1) f fd ps sp:=by
 obtain⟨oc,od,kV,fj,pm,an,bf,ct,jc,rfl,lk,fz⟩:=F.ex;refine wju lk fz S len λA outer s H vs Q E hr iu=>?_
 obtain⟨t,h,q⟩:=ik bf A outer s H vs Q E hr iu;exact⟨t,λpins s' σ H' D I hw=>wpAny_mono (h pins s' σ H' D (I.wish _) hw) (λf kr z=>z.unwish) λe kr z=>qqd z,q⟩
noncomputable def kW(P:Program)(w:World)(K:PySem.W.Frag)(mg:Str->Option Value)(base:Heap)(k:Nat)(x:Str)(ps:List Str)(sp:Sp):Prop:=
 ∃(f:Addr) (fd:FuncData),FnOk P w K mg base (CXE P w) k f fd ps sp/\Binds K fd ps []/\PySem.W.keepIn K (.ref f)=true/\mg x=some (.ref f)
end
section
variable {X:Cx}{x:Str}{p pos:Pos}{e:Expr}{es:List Expr}{t:TA}{ps:List Str}{sp:Sp}{k:Nat}{v:V}{E:XK}
theorem vvy(D:kW X.prog X.w X.K X.mg X.base k x ps sp)(hr:Room k X.A)(g:zx X E)(ha:PA X (e::es) t)(hg:autoParam (Gl X x) Ŕ)(d8:autoParam ((x==("__debug__":Str))=false) ŕ)
  (he:autoParam (starEach (e::es) X.env=(false,eval e X.env)::starEach es X.env) Ŕ) (bq:autoParam ((backTo pos (starEach es X.env)).any (·.1)=false) Ŕ):
  PE X (.Call (.Name x p) (e::es) [] pos) (qzz sp [] E t):=by
 obtain⟨f,fd,F,b,kp,m⟩:=D;exact vjs F hr hg m kp b .nil (wjf g) ha d8 he bq
end
abbrev lcE(X:Cx)(scope:Scope)(N:List Str)(cl:List (Str×Addr))(C:Addr)(s0:Shared)(H0:Hp)(fp:List Addr)(EX:XK):Cx:=Cx.ex' (lcX X scope N cl C s0 H0 fp) EX
section
variable {prog:Program}{w:World}{A:Around}{R:Result->Shared->Prop}{s:Shared}
theorem vk9{gi dk ba:Expr}{fv:List Expr}{scope:Scope}{pos:Pos}{it av:Value}{env:Env}(Ex:Value->Shared->Prop)(I:Nat->Shared->Prop)
  (gj:∀n s,I n s->wpAny (model prog w) A (pyNext it) (λr s1=>match r with
   | none=>R (.ok .next) s1
   | some v=>wpAny (model prog w) A (letOwnedTupleGo dk it v) (λ_ s2=>wpAny (model prog w) A (assign dk env v) (λ_ s3=>
     wpAny (model prog w) A (qqg fv env) (λok s4=>
      if ok=true then
       wpAny (model prog w) A (eval gi env) (λx s5=>wpAny (model prog w) A (call (.builtin "list.append") [av,x]) (λ_ s6=>∃m,m<n/\I m s6) Ex s5) Ex s4
      else ∃m,m<n/\I m s4) Ex s3) Ex s2) Ex s1) Ex s)
  (hx:∀e s,Ex e s->notedBy (model prog w) A env (λe s'=>R (.error e) s') e s) (n:Nat) (h:I n s):codeAny (model prog w) A (.compLoop (.ListComp gi [⟨dk,ba,fv,0⟩] scope pos) 0 it av env) R s:=by
 refine codeAny_loop rfl I (λn s hI=>?_) n h;show wpAny _ A ((compTurn (.ListComp gi [⟨dk,ba,fv,0⟩] scope pos) 0 it av env).onRaise _) _ _ s;refine wpAny_noted ?_;rw[compTurn_list];refine wpAny_mono (E:=Ex) (X0 (wpAny_standAt (X0 (thn (gj n s hI) λr s1 h1=>?_)))) (λ_ _ q=>q) (λe s q=>?_)
 rotate_left
 ·exact hx e s q
 cases r with
 |none=>exact X3 h1
 |some v=>
  refine X0 (thn h1 λ_ s2 h2=>?_);refine X0 (thn h2 λ_ s3 h3=>?_);refine X0 (thn h3 λok s4 h4=>?_);cases ok with
  |false=>exact X3 ⟨rfl,h4⟩
  |true=>exact X0 (X0 (thn h4 λx s5 h5=>X0 (thn h5 λ_ s6 h6=>X3 (X3 ⟨rfl,h6⟩))))
end
section
variable {X:Cx}{tg ba gi:Expr}{fv:List Expr}{scope:Scope}{N:List Str}{k:Nat}{R:List Nat}{g:TG}{tt:TT}{te:TE}{pos:Pos}
theorem vwj{EX:XK}{pins d5:List (Addr×Obj)}{σ σ':L2.St}{H2 H':Hp}{s2 s':Shared}{fp:List Addr}{cl:List (Str×Addr)}{C x T:Addr}{Cc fl:Value}{Q:Value->Shared->Prop}{av:Value}{use:Option (Value->Sem Unit)}(gx:zx X EX)
  (I2:Inv X pins σ H2 s2) (f2:∀b∈fp,vZ X pins H2 b) (hC:s2.heap.objs.size<=C) (t:Xt (lcX X scope N cl C s2 H2 fp) d5 σ' H' x T Cc fl s') (q:EX Cc none H'):
  compPost (model X.prog X.w) X.A X.xe use Q av C (.error (.ref x)) s':=by
 obtain⟨m,hn,_⟩:=t.inv.loc;refine⟨m,hn,λh' sb ie _=>?_⟩;have J1:Inv X pins σ H' s':=I2.call' t.inv.os t.inv.base t.inv.hok t.inv.bare λb hb=>⟨(f2 b hb).2.2.2.1,(f2 b hb).2.1,(f2 b hb).2.2.2.2.1,(f2 b hb).2.2.2.2.2⟩
 have fC:vZ X pins H' C:=I2.fpOk hC t.inv.free;have J2:Inv X pins σ H' { s' with heap:=h',toks:=s'.toks }:=J1.turned (it:=C) (λb o hb e=>(sb.2 b hb).trans e) fC.1 fC.2.1 fC.2.2.2.1 fC.2.2.2.2.1 fC.2.2.2.2.2;have fp':∀b,FpX (lcX X scope N cl C s2 H2 fp) d5 H' b->FpX X pins H' b:=λb hb=>by
  rcases hb.2.2.2.1 with z|z
  ·exact⟨hb.1,(FpX.of (f2 b z)).2⟩
  ·exact fpX I2 z hb.1
 have nx:x≠C:=t.fx.2.1;have nT:T≠C:=t.fT.2.1;have f:FlT h' x T Cc fl:=by
  obtain⟨⟨vs,e1,v1⟩,⟨oT,ts,e2,d2,v2⟩,ef⟩:=t.f;exact⟨⟨vs,(sb.2 x nx).trans e1,v1⟩,⟨oT,ts,(sb.2 T nT).trans e2,d2,v2⟩,ef⟩
 refine vw1 (X:=X) (pins:=pins) (σ:=σ) (H:=H') (s:={ s' with heap:=h' }) ⟨J2,fp' x t.fx,fp' T t.fT,f⟩ λs3 jy t3=>gx pins σ H' s3 x Cc t3.inv t3.to q
theorem qqf{EX:XK}{pins:List (Addr×Obj)}{σ:L2.St}{H2:Hp}{s2:Shared}{it:Addr}{fp:List Addr}{tn:Nat->Heap->Prop}{J:It}{Q:VK}{W:Nat->Nat->List V->L2.St->Hp->Prop}{cl:List (Str×Addr)}{E:Value->Shared->Prop}
  {RR:Value->Addr->Result->Shared->Prop} (hc:X.calm=true) (top:Jq X) (sc:LcOk X scope N k R)
  (fk:∀x c,cl.lookup x=some c->X.env.cells.lookup x=some c) (c9:∀y∈scope.names,y.2=.free->∃c,cl.lookup y.1=some c)
  (hg:∀C s0 H0 fp,PG (lcE X scope N cl C s0 H0 fp EX) tg g) (ht:∀C s0 H0 fp,PTs (lcE X scope N cl C s0 H0 fp EX) fv tt) (he:∀C s0 H0 fp,PE (lcE X scope N cl C s0 H0 fp EX) gi te)
  (I2:Inv X pins σ H2 s2) (T:Turn X.prog X.w X.K tg J fp it tn) (st2:tn 0 s2.heap) (f2:∀b∈fp,vZ X pins H2 b) (w0:∃m,W 0 m [] (J6 k R σ) H2) (gj:LcW g tt te Q J W)
  (hRR:∀D C oC m ys H' s',Inv X (pins++[(C,oC)]) σ (upd H' D (.lst ys)) s'->s'.heap.get? C=some oC->s'.heap.Ns C m->vZ X pins (upd H' D (.lst ys)) C->Q (.ref D) (upd H' D (.lst ys))->RR (.ref D) C (.ok .next) s')
  (hER:∀D C s' d5 σ' H' x T Cc fl,s2.heap.objs.size<=C->Xt (lcX X scope N cl C s2 H2 fp) d5 σ' H' x T Cc fl s'->EX Cc none H'->RR (.ref D) C (.error (.ref x)) s'):
  wpAny (model X.prog X.w) X.A (newList []) (λav s3=>wpAny (model X.prog X.w) X.A (newFunctionEnv scope X.env.globals cl [] X.env.qual none .none (some X.env)) (λie s4=>
   codeAny (model X.prog X.w) X.A (.compStart (.ListComp gi [⟨tg,ba,fv,0⟩] scope pos) 0 (.ref it) av { ie with scope:=relabel scope X.env }) (RR av ie.locals) s4) E s3) E s2:=by
 have me:∀b∈fp,∃o,s2.heap.get? b=some o:=λb hb=>let ⟨o,e,_⟩:=T.obj 0 _ st2 b hb;⟨o,e⟩
 refine Xq (wpAny_newFunctionEnv sc.nocell (by intro y hy;simp at hy) (λh1 hn1 m6=>?_) sc.kind);dsimp only at hn1 m6 ⊢;generalize eH:s2.heap.push { cls:=.type "list",dict:=none,data:=.seq ([]:List Value).toArray }=Hx at hn1 m6 ⊢;have eC:Hx.objs.size=s2.heap.objs.size+1:=by rw[<-eH,Heap.size_push]
 generalize eD:s2.heap.objs.size=D at eC;generalize eC':Hx.objs.size=C at hn1 m6 eC ⊢;have lr:D≠C:=by omega
 have hC:s2.heap.objs.size<=C:=by omega
 have hD:s2.heap.objs.size<=D:=by omega
 have en:∀b o,s2.heap.get? b=some o->h1.get? b=some o:=λb o e=>by
  exact m6.extBut b o (Xn (Xi (Xb e) hC)) (X2 _ (eH▸X2 _ e))
 have accD:h1.get? D=some (Vj [] 0):=by
  refine m6.extBut _ _ lr (X2 _ ?_);rw [<-eH,<-eD];exact Xd _ rfl
 have below:∀b∈fp,b≠D/\b≠C:=λb hb=>by
  obtain⟨o,e⟩:=me b hb;exact⟨Xn (Xi (Xb e) hD),Xn (Xi (Xb e) hC)⟩
 have gb:∀{H':Hp} {oD:Obj},(∀b∈fp,H' b=none)->∀b∈fp,vZ (lcE X scope N cl C s2 H2 fp EX) [(D,oD)] H' b:=fun {H' oD} hn b hb=>by
  obtain⟨_,f1,f3,f4,f5,f6⟩:=f2 b hb;refine⟨hn b hb,(below b hb).2,λz=>?_,.inl hb,λx c h=>f5 x c (fk x c h),λp hp=>?_⟩
  ·rcases List.mem_cons.mp (I2.stkSub b z)with y|y
   ·exact f1 y
   ·exact f3 y
  ·have e:p=(D,oD):=by
    have hp:p∈([]++[(D,oD)]:List (Addr×Obj)):=hp
    simpa using hp
   rw [e];exact(below b hb).1.symm
 have loop:∀s3:Shared,s3={ s2 with heap:=h1,toks:=s2.toks+([]:List (Str×Value)).length } ->
   codeAny (model X.prog X.w) X.A (.compLoop (.ListComp gi [⟨tg,ba,fv,0⟩] scope pos) 0 (.ref it) (.ref D) (compEnvC scope cl C X.env)) (RR (.ref D) C) s3:=by
  rintro s3 rfl;obtain⟨m0,w0⟩:=w0;have hxx:∀e s,Xo (lcX X scope N cl C s2 H2 fp) EX e s->notedBy (model X.prog X.w) X.A (compEnvC scope cl C X.env) (λe s'=>RR (.ref D) C (.error e) s') e s:=by
   rintro e s ⟨d5,σ',H',x,Cc,rfl,I',f',q'⟩;have top':Jq (lcX X scope N cl C s2 H2 fp):=top;exact kxw (X:=lcX X scope N cl C s2 H2 fp) top' rfl I' f' λL T s1 _ t=>hER D C s1 d5 σ' H' x T Cc _ hC t q'
  refine vk9 (Xo (lcX X scope N cl C s2 H2 fp) EX) (λn s'=>∃i ys ag nn σ' H',Inv (lcE X scope N cl C s2 H2 fp EX) [(D,Vj ag nn)] σ' H' s'/\Vals ys ag/\tn i s'.heap/\(∀b∈fp,H' b=none)/\W i n ys σ' H') ?_ hxx m0
   ⟨0,[],[],0,_,H2,(vk7 I2 sc f2 me hC hD lr fk c9 en hn1 accD (λv z=>by cases z)).wish _,.nil,T.keep _ _ _ st2 (λb hb o e=>en b o e),λb hb=>(f2 b hb).1,w0⟩
  rintro n s3 ⟨i,ys,ag,nn,σ3,H3,I3,rv,st3,km,w3⟩;rcases gj i n ys σ3 H3 w3 with⟨stop,hz,qn⟩|⟨go,step⟩
  ·refine thn (T.done (lcE X scope N cl C s2 H2 fp EX) rfl rfl rfl hc i _ s3 σ3 H3 _ I3 (gb km) st3 stop) λr s4 ⟨hr,I4⟩=>?_
   subst hr;show RR (.ref D) C (.ok .next) s4;have hD4:=I4.pin (D,Vj ag nn) (by show _∈([]++[(D,Vj ag nn)]:List (Addr×Obj));simp);have J1:Inv X pins σ H3 s4:=I2.call' I4.os I4.base I4.hok I4.bare λb hb=>⟨(f2 b hb).2.2.2.1,(f2 b hb).2.1,(f2 b hb).2.2.2.2.1,(f2 b hb).2.2.2.2.2⟩
   have fD:vZ X pins H3 D:=I2.fpOk hD hD4.2.1;have fC:vZ X pins H3 C:=I2.fpOk hC I4.free;have J2:Inv X pins σ (upd H3 D (.lst ys)) s4:=qqr J1 hD4.2.1 fD.2.1 fD.2.2.2.1 fD.2.2.2.2.1 fD.2.2.2.2.2 ⟨hz,ag,nn,rv,hD4.1⟩;obtain⟨mC,nC,_⟩:=I4.loc;obtain⟨oC,es,ep,hoC,hdC,hrest⟩:=id nC;have fC':vZ X pins (upd H3 D (.lst ys)) C:=⟨by rw[kJ lr.symm];exact fC.1,fC.2⟩;refine hRR D C oC mC ys H3 s4 (J2.pins_of λp hp=>?_) hoC nC fC' (qn D hD4.2.1);rcases List.mem_append.mp hp with z|z
   ·exact J2.pin p (lr9 _ z)
   ·rw[List.mem_singleton.mp z];exact⟨hoC,fC'.1,fC'.2.1,fC'.2.2.1,λv y=>by rw[hdC]at y;cases y⟩
  ·refine thn (T.item (lcE X scope N cl C s2 H2 fp EX) rfl rfl rfl hc i _ s3 σ3 H3 _ I3 (gb km) st3 go) λr s4 ⟨u,hr,h4⟩=>?_
   subst hr;refine thn h4 λ_ s5 ⟨x,H5,I5,r5,y5,ir,fr5⟩=>?_
   have I5':=I5.pinned (gb fr5) (T.obj _ _ ir);have gm:∀{σ':L2.St} {H':Hp} {s':Shared} {pl:List (Addr×Obj)},Inv (lcE X scope N cl C s2 H2 fp EX) (pl++Kz fp s5.heap) σ' H' s'->tn (i+1) s'.heap/\∀b∈fp,H' b=none:=fun {σ' H' s' pl} I'=>by
    have q:∀b∈fp,∀o,s5.heap.get? b=some o->s'.heap.get? b=some o/\H' b=none:=λb hb o e=>by
     obtain⟨a1,a2,_⟩:=I'.pin (b,o) (lr9 _ (lr9 _ (jz0 hb e)));exact⟨a1,a2⟩
    refine⟨T.keep _ _ _ ir λb hb o e=>(q b hb o e).1,λb hb=>?_⟩;obtain⟨o,e,_⟩:=T.obj _ _ ir b hb;exact(q b hb o e).2
   refine thn (hg C s2 H2 fp _ s5 σ3 H5 x u _ I5' r5 (step x H5 y5)) λ_ s6 ⟨σ6,H6,I6,Ny,Nn,hNy,hNn,q6⟩=>?_
   refine thn (ht C s2 H2 fp _ s6 σ6 H6 _ I6 q6) λok s7 ⟨H7,I7,q7⟩=>?_
   cases ok with
   | false=>
    obtain⟨m',hm,w7⟩:=hNn _ q7;exact⟨m',hm,i+1,ys,ag,nn,σ6,H7,I7.unpinned,rv,(gm I7).1,(gm I7).2,w7⟩
   | true=>
    refine thn (he C s2 H2 fp _ s7 σ6 H7 _ I7 q7) λu8 s8 ⟨y,H8,I8,r8,q8⟩=>?_
    obtain⟨hz,m',hm,w8⟩:=hNy _ _ q8;have pD:=I8.pin (D,Vj ag nn) (lr9 _ (ll9 _ (List.mem_singleton.mpr rfl)));have ax:=rv.length;refine append_at (hsz:=by rw[X7];omega) pD.1 λh9 sb9 e9=>?_
    have I8a:Inv (lcE X scope N cl C s2 H2 fp EX) ([]++Kz fp s5.heap) σ6 H8 s8:=I8.pins_of λp hp=>I8.pin p (lr9 _ (lr9 _ hp))
    have I9:Inv (lcE X scope N cl C s2 H2 fp EX) ([]++Kz fp s5.heap) σ6 H8 { s8 with heap:=h9,toks:=s8.toks }:=I8a.turned (it:=D) (λb o hb e=>(sb9.2 b hb).trans e) pD.2.1 lr (.inr hD)
     (λx c h z=>by
      obtain⟨v,q⟩:=I2.cell x c (fk x c h);exact absurd (Xi q.lt (by rw[z];exact hD)) (Yg _))
     (λp hp z=>by
      have hp:p∈([]++([]++Kz fp s5.heap):List (Addr×Obj)):=hp;have hp:p∈Kz fp s5.heap:=by simpa using hp
      exact(below p.1 (kvn hp).1).1 z)
    have e9':h9.get? D=some (Vj (ag++[u8]) (nn+1)):=by rw[e9];simp[List.push_toArray]
    refine⟨m',hm,i+1,ys++[y],ag++[u8],nn+1,σ6,H8,I9.pins_of λp hp=>?_,rv.append (.cons r8 .nil),(gm I9).1,(gm I9).2,w8⟩;rw[List.mem_singleton.mp hp];exact⟨e9',pD.2.1,pD.2.2.1,pD.2.2.2.1,λv z=>by cases z⟩
 exact codeAny_compStart_list (loop _ rfl) (T.self _ 0 _ _ _ (T.keep _ _ _ st2 λb hb o e=>en b o e) (loop _ rfl))
theorem vvv{EX:XK}{wi:TI}(N:List Str)(k:Nat)(R:List Nat)(hi:PI X tg ba wi)
  (hg:∀cl C s0 H0 fp,PG (lcE X scope N cl C s0 H0 fp EX) tg g) (ht:∀cl C s0 H0 fp,PTs (lcE X scope N cl C s0 H0 fp EX) fv tt) (he:∀cl C s0 H0 fp,PE (lcE X scope N cl C s0 H0 fp EX) gi te)
  (gx:zx X EX) (top:Jq X) (hc:autoParam (X.calm=true) Ŕ) (hk:autoParam (scope.kind=.function) Ŕ) (n6:autoParam (Yx X.N X.env.scope scope N k R=true) Ŕ) (hs:autoParam (∀x,foldedSetIterable ba X.env x=pure x) Ŗ):
  PE X (.ListComp gi [⟨tg,ba,fv,0⟩] scope pos) (tLC wi g tt te k R):=by
 intro pins s σ H Q I h;have sc:=qx3 hk n6;obtain⟨cl,mi,fk,c9⟩:=qjm (scope:=scope) (env:=X.env) λy hy e=>I.ok.has y.1 (sc.caps y hy e)
 rw[eval_ListComp];refine wpAny_comprehension_free (use:=none) rfl hs mi sc.kind sc.names (thn (hi pins s σ H _ I h) λv s1 h1=>thn h1 λitv s2 h2=>?_);obtain⟨it,fp,tn,J,H2,e,I2,T,st2,f2,W,w0,gj⟩:=h2;subst e;refine qqf (EX:=EX) (RR:=λav C=>compPost (model X.prog X.w) X.A X.xe none (EP X pins σ Q) av C) hc top sc fk c9 (hg cl) (ht cl) (he cl) I2 T st2 f2 w0 gj ?_ ?_
 rotate_left
 ·intro D C s' d5 σ' H' x T Cc fl hC t q;exact vwj gx I2 f2 hC t q
 intro D C oC m ys H' s' I' _ nC fC q;exact⟨m,nC,λh' sb=>⟨.ref D,_,I'.unpinned.turned (it:=C) (t':=s'.toks) (λb o hb e=>(sb.2 b hb).trans e) fC.1 fC.2.1 fC.2.2.2.1 fC.2.2.2.2.1 fC.2.2.2.2.2,rfl,q⟩⟩
end
abbrev bmV:List Value:=[.type "ValueError",.type "Exception",.type "BaseException",.type "object"]
structure ECls (K:PySem.W.Frag)(mg:Str->Option Value)(x:Str)(C:Addr):Prop where
 bd:mg x=some (.ref C)
 ec:PySem.W.excIn K C bmV "ValueError.__new__"=true
 xc:XCls K C
theorem vju{K:PySem.W.Frag}{h:Heap}{C:Addr}{bmB:List Value}{ju:String}(KI:K.In h)(e:PySem.W.excIn K C bmB ju=true):
  ∃ bm N nm q bs hdct sn sub ab col dd k0 k1 k2 k3 k5 mN,h.get? C=some (excClassObj nm q C N bs bm hdct sn sub ab col dd k0 k1 k2 k3 k5 ju)/\h.Ns N mN/\mN "__init__"=none/\OwnTail h bmB bm:=by
 unfold PySem.W.excIn at e
 split at e
 ·rename_i dict cd sl hl
  split at e
  ·rename_i bm C' k0 k1 k2 k3 n k5 hm hs;simp only[Bool.and_eq_true,beq_iff_eq,Bool.not_eq_true']at e;obtain⟨⟨⟨⟨⟨e1,e2⟩,e3⟩,e4⟩,e5⟩,e6⟩:=e;subst e1 e2;have g:=KI _ _ hl;obtain⟨nm,bs,mro,ns,qn,hd,hdel,sn,sub,ab,col⟩:=cd;dsimp only at hm e3 e5 e6;subst hm e3;have hsl:sl=#[k0,k1,k2,k3,some (Value.builtin n),k5]:=by
    apply Array.toList_inj.mp;rw[hs]
   subst hsl;exact⟨_,ns,nm,qn,bs,hd,hdel,sn,sub,ab,dict,k0,k1,k2,k3,k5,h.nsMap ns,g,Heap.Ns.of_isNs (PySem.W.isNs_of_in KI e5),PySem.W.nsMap_none_of_in KI e5 e6,PySem.W.tail_of_in KI e4⟩
  ·cases e
 ·cases e
section
variable {X:Cx}{x:Str}{np aw pos:Pos}{e:Expr}{es:List Expr}{ta:TA}{C:Addr}{E:XK}
abbrev vqe(E:XK)(C:Addr)(ta:TA):TS:=λ_ σ H=>ta σ H λvs H1=>vs.length<=sizeLine/\E (.ref C) none H1
theorem qwq(c:ECls X.K X.mg x C)(g:zx X E)(ha:PA X (e::es) ta)(hg:autoParam (Gl X x) Ŕ)(hc:autoParam (X.calm=true) Ŕ)(d8:autoParam ((x==("__debug__":Str))=false) ŕ)
  (he:autoParam (starEach (e::es) X.env=(false,eval e X.env)::starEach es X.env) Ŕ) (bq:autoParam (((backTo aw (starEach (e::es) X.env)).any (·.1))=false) Ŕ):
  PS X (.Raise (some (.Call (.Name x np) (e::es) [] aw)) none pos) (vqe E C ta):=by
 intro pins s σ H D I h;obtain⟨bm,N,nm,q,bs,hdct,sn,sub,ab,col,dd,k0,k1,k2,k3,k5,mN,o1,o2,o3,o4⟩:=vju I.ok.mod.kin c.ec;refine wpAny_Raise_call_subT (nm:=nm) (q:=q) (C:=C) (N:=N) (bs:=bs) (bm:=bm) (hdct:=hdct) (sn:=sn) (sub:=sub) (ab:=ab) (col:=col) (dd:=dd) (k0:=k0) (k1:=k1) (k2:=k2) (k3:=k3) (k5:=k5) (bmB:=bmV) F.excBase_ValueError (o4.hasType (X:="BaseException") rfl) (I.ok.hd hc) bq o3 (WQ I hg c.bd ⟨rfl,?_⟩ d8);obtain⟨y0,r0,i'⟩:∃y r,backTo aw (starEach (e::es) X.env)=(false,y)::r:=by rw[he];exact⟨_,_,rfl⟩
 have iu:=ha aw pins s σ H _ I h;rw[i']at iu ⊢;refine Calls.evalArgs_plain (thn iu λus s2 ⟨vs,H1,I1,r1,q1⟩=>⟨rfl,by rw[<-r1.length];exact q1.1,I1.bk _ _ o1,?_,?_,λh' ea made=>?_⟩)
 ·obtain⟨o,es',ep,ho,r⟩:=o2;exact⟨o,es',ep,I1.bk _ _ ho,r⟩
 ·exact o4.keeps λb o e=>I1.bk b o e
 ·obtain⟨t,m1,m2,m3⟩:=made.there;have J:Inv X pins σ H1 { s2 with heap:=h',toks:=s2.toks }:=I1.kept made.keeps;exact g pins σ H1 _ ea (.ref C) J ⟨fpX I1 made.new (qx5 I1.hok made.new),.inl ⟨_,⟨m1,by show(1:Nat)<6;decide⟩,rfl⟩⟩ q1.2
noncomputable def XX(X:Cx)(pins:List (Addr×Obj))(σ:L2.St)(E:XK)(e:Value)(s:Shared):Prop:=∃H x C,e=.ref x/\Inv X pins σ H s/\Fx X pins H s.heap x C/\E C none H
noncomputable def PSX(X:Cx)(st:Stmt)(t:XK->TS):Prop:=∀(E:XK) (pins:List (Addr×Obj)) (s:Shared) (σ:L2.St) (H:Hp) (D:Ends),Inv X pins σ H s->t E D σ H->wpAny (model X.prog X.w) X.A (exec st X.env) (SP X pins D) (XX X pins σ E) s
noncomputable def PEX(X:Cx)(ex:Expr)(t:XK->TE):Prop:=∀(E:XK) (pins:List (Addr×Obj)) (s:Shared) (σ:L2.St) (H:Hp) (Q:VK),Inv X pins σ H s->t E σ H Q->wpAny (model X.prog X.w) X.A (eval ex X.env) (EP X pins σ Q) (XX X pins σ E) s
theorem qws{k:Nat}{ps:List Str}{sp:Sp}(D:kW X.prog X.w X.K X.mg X.base k x ps sp)(hr:Room k X.A)(ha:PA X.nox (e::es) ta)(hg:autoParam (Gl X x) Ŕ)(d8:autoParam ((x==("__debug__":Str))=false) ŕ)
  (he:autoParam (starEach (e::es) X.env=(false,eval e X.env)::starEach es X.env) Ŕ) (bq:autoParam ((backTo pos (starEach es X.env)).any (·.1)=false) Ŕ):
  PEX X (.Call (.Name x np) (e::es) [] pos) (λE=>qzz sp [] E ta):=by
 obtain⟨f,fd,F,hb,kp,m⟩:=D;intro E pins s σ H Q I h;refine Yq (WQ I hg m ?_ d8);refine PySem.W.callWith_K (h₀:=X.base) I.ok.mod.kin kp (wpAny_mono (ha pos pins s σ H _ (I.wish _) h) (λus s1 ⟨vs,H1,I1,r,q⟩=>⟨I1.kIn,?_⟩) λ_ _ z=>z.elim) he bq;have I1:=I1.unwish;have q:sp (vs++[]) H1 Q E:=q;have hl:us.length=ps.length:=by
  rw[<-r.length];have:=F.len _ _ _ _ q
  rwa [Y9]at this
 refine wpAny_call (codeAny_mono (F.run X.A X.stack s1 H1 ⟨us,[]⟩ us vs Q E hr I1.env0 (by have:=hb s1 us I1.kIn (by rw[Y9];exact hl);rwa [Y9]at this) r (by rwa [Y9]at q)) λrr s' hq=>?_);cases rr with
 |error e=>
  obtain⟨x,T,C,fl,H',rfl,os,bare,un,hok,hx,hT,nx,nT,f,q⟩:=hq;exact⟨H',x,C,rfl,I1.call' os un hok bare (λb hb=>nomatch hb),⟨fpX I1 hx nx,.inr ⟨T,fl,f,fpX I1 hT nT⟩⟩,q⟩
 |ok fl=>
  cases fl with
  |ret u=>exact I1.after hq
  |next=>exact False.elim hq
  |brk=>exact False.elim hq
  |cont=>exact False.elim hq
theorem qwo{ex:Expr}{t:XK->TE}(h:PEX X ex t)(hs:autoParam (swapsWith ex none pos.line X.env=pure false) Ŕ):PSX X (.Expr ex pos) (λE=>vqg (t E)):=by
 intro E pins s σ H D I hw;exact wpAny_Expr_any (thn (h E pins s σ H _ I hw) λv s1 ⟨x,H1,I1,r1,q1⟩=>⟨σ,H1,I1,q1⟩) I.quiet hs
end
section
variable {X:Cx}{pins:List (Addr×Obj)}{σ:L2.St}{H:Hp}{s:Shared}{x:Addr}{ox:Obj}
theorem qqq{σ':L2.St}{h':Heap}{t':Nat}{m':Str->Option Value}(I:Inv X pins σ H s)(hs:Heap.SameBut X.env.locals s.heap h')(oh:h'.Ns X.env.locals m')(hl:σ'.length=X.N.length)
  (hv:∀(j:Nat) (y:Str) (v:V),X.N[j]?=some y->σ'[j]?=some (some v)->Vis X.env.scope y->∃u,RelV v u/\wqe X.env h' m' y u):Inv X pins σ' H { s with heap:=h',toks:=t' }:=by
 have nL:∀b o,X.s₀.heap.get? b=some o->b≠X.env.locals:=λb o e=>Xn (Xi (Xb e) I.ok.above)
 refine⟨I.ok,I.os,I.bare,⟨λb o e n hb hx=>?_,λb o e n hb hx=>?_,I.base.free,λb o e hx=>?_,I.base.tups,I.base.frzs,I.base.tbls⟩,⟨m',oh,hv⟩,λy c e=>?_,I.free,I.freeC,λp hp=>?_,λb ob e=>?_,hl⟩
 ·exact(hs.2 b (nL b o e)).trans (I.base.keep b o e n hb hx)
 ·obtain⟨sl,e1⟩:=I.base.slot b o e n hb hx;exact⟨sl,(hs.2 b (nL b o e)).trans e1⟩
 ·obtain⟨o',e1⟩:=I.base.there b o e hx;exact⟨o',(hs.2 b (nL b o e)).trans e1⟩
 ·obtain⟨w',z⟩:=I.cell y c e;exact⟨w',z.sameBut hs (I.cne y c e)⟩
 ·obtain⟨e,n,ne,nf,d⟩:=I.pin p hp;exact⟨(hs.2 p.1 ne).trans e,n,ne,nf,d⟩
 ·refine(I.hok b ob e).stay (λc w' hc q=>(hs.2 c ?_).trans q) (λ_ q=>q) λ_ _ q=>q
  rintro rfl;rcases hc with rfl|hc
  ·rw[I.free]at e;cases e
  ·rw[I.free]at hc;cases hc
theorem jxd{M:Model}{A:Around}{E:Value->Shared->Prop}{n:Str}{i:Nat}{pos:Pos}{Q:Unit->Shared->Prop}(I:Inv X pins σ H s)(hN:X.N.Nodup)(hi:X.N[i]?=some n)(hk:X.env.scope.names.lookup n=some .local)
  (h:∀s',Inv X pins (σ.set i none) H s'->Q () s'):wpAny M A (do bindName X.env n Value.none;unbindBehindTheSuite X.env n pos) Q E s:=by
 refine X0 (wpAny_bindName (jzo I hN hi (.inl hk) (v:=.non) (u:=.none) rfl (λs1 I1=>?_) (.inr hk)));have mz:i < σ.length:=by rw[I.len];exact(List.getElem?_eq_some_iff.mp hi).1
 obtain⟨m,hn,hl⟩:=id I1.loc;obtain⟨u,ru,lk⟩:=hl i n .non hi (Ya mz) (.inl hk);have hm:m n=some u:=by
  rcases lk with⟨_,z⟩|⟨z,_⟩
  ·exact z
  ·rcases z with z|z
   ·have z:X.env.scope.names.lookup n=some .cell:=z;rw[hk]at z;cases z
   ·have z:X.env.scope.names.lookup n=some .free:=z;rw[hk]at z;cases z
 have ko:(X.env.scope.kind == .class||(X.env.scope.kind == .module&&X.env.locals != X.env.globals))=false:=by rw[I.ok.kind];rfl
 unfold unbindBehindTheSuite;refine wpAny_onRaise (wpAny_unbindName_local hk hn hm ko λh' u' oh sb=>h _ ?_);refine qqq (t':=s1.toks) I1 sb oh (by rw[Yo];exact I.len) λj y v e1 e2 e3=>?_
 by_cases hj:j=i
 ·subst hj;rw[Ya mz]at e2;cases e2
 ·rw[Y7 (Ne.symm hj)]at e2;obtain⟨u2,r2,l2⟩:=hl j y v e1 (by rw[Y7 (Ne.symm hj)];exact e2) e3;refine⟨u2,r2,?_⟩;rcases l2 with⟨k,e⟩|⟨k,c,e,z⟩
  ·refine .inl ⟨k,?_⟩;have:y≠n:=λe=>hj (kq7 hN e1 (e▸hi))
   simp[this,e]
  ·exact .inr ⟨k,c,e,z.sameBut sb (I.cne y c e)⟩
end
structure ExAt (K:PySem.W.Frag)(x:Addr)(ox:Obj)(C:Addr):Prop where
 cls:ox.cls=.ref C
 no:PySem.W.notCls ox=true
 di:ox.dict=none
 xc:XCls K C
theorem K9{X:Cx}{x:Str}{pos:Pos}{C:Addr}(h:X.mg x=some (.ref C))(hg:autoParam (Gl X x) Ŕ)(hd:autoParam ((x==("__debug__":Str))=false) ŕ):PE X (.Name x pos) (tC (.ref C)):=qkw hg h (v:=.ref C) rfl hd
end L3
namespace Q
open PySem
inductive D where
 |non|bl (b:Bool)|int (i:Int)|str (z:Str)|tup (xs:List D)|lst (xs:List D)|dct (ay:List (D×D))|obj (c:Str) (fs:List (Str×D))
instance:DecidableEq D:=λa b=>Classical.propDecidable (a=b)
instance:Inhabited D:=⟨.non⟩
mutual
noncomputable def D.pure:D->Bool
 |.tup xs=>D.pures xs
 |.lst _=>false
 |.dct _=>false
 |.obj _ _=>false
 |_=>true
noncomputable def D.pures:List D->Bool
 |[]=>true
 |a::x=>D.pure a&&D.pures x
end
theorem D.pures_all:∀xs:List D,D.pures xs=xs.all D.pure
 |[]=>by simp[D.pures]
 |a::x=>by rw[D.pures,List.all_cons,D.pures_all x]
@[simp] theorem D.pures_map {α:Type}(f:α->D)(xs:List α)(h:∀x∈xs,(f x).pure=true):D.pures (xs.map f)=true:=by
 rw[D.pures_all,Yd];intro d hd;obtain⟨x,hx,rfl⟩:=List.mem_map.mp hd;exact h x hx
mutual
noncomputable def peq:D->D->Bool
 |.non,.non=>true
 |.bl a,.bl b=>a==b
 |.bl a,.int b=>(if a then 1 else 0)==b
 |.int a,.bl b=>a==(if b then 1 else 0)
 |.int a,.int b=>a==b
 |.str a,.str b=>a==b
 |.lst as,.lst bs=>peqs as bs
 |.tup as,.tup bs=>peqs as bs
 |_,_=>false
noncomputable def peqs:List D->List D->Bool
 |[],[]=>true
 |a::as,b::bs=>peq a b&&peqs as bs
 |_,_=>false
end
mutual
noncomputable def D.flat:Nat->D->Bool
 |0,.tup _=>false
 |0,.lst _=>false
 |n+1,.tup xs=>D.flats n xs
 |n+1,.lst xs=>D.flats n xs
 |_,.dct _=>false
 |_,.obj _ _=>false
 |_,_=>true
noncomputable def D.flats:Nat->List D->Bool
 |_,[]=>true
 |n,a::x=>D.flat n a&&D.flats n x
end
mutual
noncomputable def Zq:Nat->D->Bool
 |_,.non=>true
 |_,.int _=>true
 |n+1,.tup xs=>keyDs n xs
 |_,_=>false
noncomputable def keyDs:Nat->List D->Bool
 |_,[]=>true
 |n,a::x=>Zq n a&&keyDs n x
end
inductive Own where
 |no|rt|dp
 deriving DecidableEq
abbrev Sd:=Own×D
abbrev En:=List (Option Sd)
inductive Res (α:Type) where
 |ok (E:En) (a:α)
 |exc (E:En) (c:Str)
abbrev Ev(α:Type):=En->Option (Res α)
abbrev Ex:=Ev Sd
noncomputable def bnd{α β:Type}(m:Option (Res α))(f:En->α->Option (Res β)):Option (Res β):=
 match m with
 |some (.ok E a)=>f E a
 |some (.exc E c)=>some (.exc E c)
 |none=>none
@[simp] theorem wq9 {α β:Type}(E:En)(a:α)(f:En->α->Option (Res β)):bnd (some (.ok E a)) f=f E a:=rfl
@[simp] theorem wk8 {α β:Type}(E:En)(c:Str)(f:En->α->Option (Res β)):bnd (some (.exc E c)) f=some (.exc E c):=rfl
@[simp] theorem vzd {α β:Type}(f:En->α->Option (Res β)):bnd none f=none:=rfl
def val{α:Type}(E:En)(x:Option α):Option (Res α):=x.map (Res.ok E)
@[simp] theorem vz5 {α:Type}(E:En)(x:α):val E (some x)=some (.ok E x):=rfl
@[simp] theorem vz6 {α:Type}(E:En):val E (none:Option α)=none:=rfl
def cC(d:D):Ex:=λE=>some (.ok E (.dp,d))
noncomputable def cV(i:Nat):Ex:=λE=>match E[i]? with
 |some (some (_,d))=>some (.ok (E.set i (some (.no,d))) (.no,d))
 |_=>none
def cMv(i:Nat):Ex:=λE=>match E[i]? with
 |some (some x)=>some (.ok (E.set i none) x)
 |_=>none
def vV(i:Nat):Ex:=λE=>match E[i]? with
 |some (some x)=>some (.ok E x)
 |_=>none
def vE(c:Ex):Ex:=λE=>bnd (c E) λE x=>some (.ok E (.no,x.2))
abbrev C9(z:Int):Ex:=vE (cC (.int z))
noncomputable def cH(v:Ex):Ex:=λE=>bnd (v E) λE x=>if x.1=.no then some (.ok E (.no,x.2))else if x.2.pure then some (.ok E (.dp,x.2))else none
def cF1(f:Sd->Option Sd)(a:Ex):Ex:=λE=>bnd (a E) λE x=>val E (f x)
def cF2(f:Sd->Sd->Option Sd)(a b:Ex):Ex:=λE=>bnd (a E) λE x=>bnd (b E) λE y=>val E (f x y)
def pu1(f:D->Option D):Sd->Option Sd:=λx=>(f x.2).map λd=>(.dp,d)
def pu2(f:D->D->Option D):Sd->Sd->Option Sd:=λx y=>(f x.2 y.2).map λd=>(.dp,d)
def wq3:D->List D
 |.lst xs=>xs
 |.tup xs=>xs
 |.dct ay=>ay.map (·.2)
 |_=>[]
def qK(x:Sd):Bool:=x.1 != .dp||D.pures (wq3 x.2)
def sub:Own->Own
 |.dp=>.dp
 |_=>.no
noncomputable def ixN(n:Nat)(i:Int):Option Nat:=if 0<=i then(if i<n then some i.toNat else none)else if -(n:Int)<=i then some (i+n).toNat else none
noncomputable def ixD:D->D->Option D
 |.lst xs,.int i=>(ixN xs.length i).bind λj=>xs[j]?
 |.tup xs,.int i=>(ixN xs.length i).bind λj=>xs[j]?
 |.str z,.int i=>(ixN z.cps.size i).bind λj=>(z.cps.toList[j]?).map λc=>.str ⟨#[c]⟩
 |.dct ay,k=>(ay.find? λe=>decide (e.1=k)).map (·.2)
 |_,_=>none
def big:Nat:=16777216
def i2(f:Int->Int->Option Int):D->D->Option D
 |.int a,.int b=>(f a b).map .int
 |_,_=>none
def c2(f:Int->Int->Bool):D->D->Option D
 |.int a,.int b=>some (.bl (f a b))
 |_,_=>none
def QQ(a:Int):Bool:=decide (-(2 ^ 64)<a)&&decide (a<2 ^ 64)
noncomputable def jw:Sd->Sd->Option Sd:=λx y=>match x.2,y.2 with
 |.int a,.int b=>some (.dp,.int (a+b))
 |.str a,.str b=>if a.cps.size+b.cps.size<=big then some (.dp,.str (a++b))else none
 |.lst a,.lst b=>if a.length+b.length<=big/\qK x/\qK y then some (.rt,.lst (a++b))else none
 |.tup a,.tup b=>if a.length+b.length<=big/\qK x/\qK y then some (.no,.tup (a++b))else none
 |_,_=>none
def K4(a b:Int):Bool:=QQ a||QQ b||(decide (a.natAbs.log2<2000000)&&decide (b.natAbs.log2<2000000))
noncomputable def Wk:Sd->Sd->Option Sd:=λx y=>match x.2,y.2 with
 |.int a,.int b=>if K4 a b then some (.dp,.int (a*b))else none
 |.lst a,.int k=>if -(2 ^ 63)<=k/\k<2 ^ 63/\a.length*k.toNat<=big/\qK x then some (.rt,.lst (List.replicate k.toNat a).flatten)else none
 |.str z,.int n=>if(z.cps.size<=1024/\n<=1024/\-1024<=n)/\(Txt.mul z n).cps.size<=big then some (.dp,.str (Txt.mul z n))else none
 |_,_=>none
def fSub:D->D->Option D:=i2 λa b=>some (a - b)
def kw:D->D->Option D:=i2 λa b=>if 0<b/\b.natAbs.log2<9000 then some (a / b)else none
def jv:D->D->Option D:=i2 λa b=>if 0<b then some (a % b)else none
def wjv:D->D->Option D:=i2 λa b=>if 0<=b/\b<=1000000/\a.natAbs<2 ^ 64 then some (a*2 ^ b.toNat)else none
def fEq:D->D->Option D:=λa b=>if a.flat 40&&b.flat 40 then some (.bl (peq a b))else none
def isNon:D->Bool
 |.non=>true
 |_=>false
def fLt:D->D->Option D:=c2 λa b=>decide (a<b)
def fLe:D->D->Option D:=c2 λa b=>decide (a<=b)
def fGt:D->D->Option D:=c2 λa b=>decide (b<a)
def fGe:D->D->Option D:=c2 λa b=>decide (b<=a)
def KK:D->Option D
 |.int a=>some (.int (-a))
 |_=>none
def JQ(a b:Str):Bool:=!(Builtin.Str.occurrences b a 0 b.length 1).isEmpty
noncomputable def fIn:D->D->Option D:=λx y=>match y with
 |.lst ys=>if x.flat 30&&D.flats 30 ys then some (.bl (ys.any λz=>peq z x))else none
 |.tup ys=>if x.flat 30&&D.flats 30 ys then some (.bl (ys.any λz=>peq z x))else none
 |.str b=>(match x with
  |.str a=>some (.bl (JQ a b))
  |_=>none)
 |.dct ay=>some (.bl (ay.any λe=>decide (e.1=x)))
 |_=>none
noncomputable def v3:D->Option D
 |.lst xs=>some (.int xs.length)
 |.tup xs=>some (.int xs.length)
 |.str z=>some (.int z.length)
 |_=>none
noncomputable def kind:D->String
 |.non=>"NoneType"
 |.bl _=>"bool"
 |.int _=>"int"
 |.str _=>"str"
 |.tup _=>"tuple"
 |.lst _=>"list"
 |.dct _=>"dict"
 |.obj _ _=>""
def wq4(t u:String):Bool:=t==u||(t == "bool" && u == "int")
def jZ(u:String):D->Option D:=λd=>match d with
 |.obj _ _=>none
 |.dct _=>none
 |_=>some (.bl (wq4 (kind d) u))
def fIsNon:D->Option D:=λd=>some (.bl (isNon d))
def fNotNon:D->Option D:=λd=>some (.bl (!isNon d))
abbrev Ts:=Ev Bool
noncomputable def truth:D->Option Bool
 |.bl b=>some b
 |.non=>some false
 |.int i=>some (i != 0)
 |.str z=>some (z.cps.size != 0)
 |.lst xs=>some (!xs.isEmpty)
 |.tup xs=>some (!xs.isEmpty)
 |.dct xs=>some (!xs.isEmpty)
 |.obj _ _=>none
def tE(c:Ex):Ts:=λE=>bnd (c E) λE x=>val E (truth x.2)
def tAnd(a b:Ts):Ts:=λE=>bnd (a E) λE x=>if x then b E else some (.ok E false)
def tOr(a b:Ts):Ts:=λE=>bnd (a E) λE x=>if x then some (.ok E true)else b E
def tNot(a:Ts):Ts:=λE=>bnd (a E) λE x=>some (.ok E (!x))
def tYes:Ts:=λE=>some (.ok E true)
def cIf(t:Ts)(a b:Ex):Ex:=λE=>bnd (t E) λE x=>if x then a E else b E
noncomputable def ww(a b:Ex):Ex:=λE=>bnd (a E) λE x=>match x.2 with
 |.bl true=>b E
 |.bl false=>some (.ok E (.dp,.bl false))
 |_=>none
noncomputable def cOr(a b:Ex):Ex:=λE=>bnd (a E) λE x=>match x.2 with
 |.bl true=>some (.ok E (.dp,.bl true))
 |.bl false=>b E
 |_=>none
def zV:D->D->Option D:=λx y=>match y with
 |.dct _=>none
 |_=>fIn x y
def f2First(f:D->Option D):Sd->Sd->Option Sd:=λx y=>if isNon y.2 then(f x.2).map λd=>(.dp,d)else none
def jQ:D->D->Option D:=λx y=>match x with
 |.dct _=>none
 |_=>ixD x y
def j9(a b:Ex):Ex:=λE=>bnd (a E) λE x=>bnd (b E) λE y=>val E ((jQ x.2 y.2).map λd=>(sub x.1,d))
def truthQ:D->Option Bool:=λd=>match d with
 |.dct _=>none
 |_=>truth d
def tEQ(c:Ex):Ts:=λE=>bnd (c E) λE x=>val E (truthQ x.2)
def Vv(c:Ex):Ex:=λE=>bnd (c E) λE x=>val E ((truthQ x.2).map λk=>(.dp,.bl (!k)))
noncomputable def vz:List Ex->Ev (List Sd)
 |[],E=>some (.ok E [])
 |c::cs,E=>bnd (c E) λE x=>bnd (vz cs E) λE xs=>some (.ok E (x::xs))
def vK(x:Sd):Bool:=x.1 == .dp||x.2.pure
noncomputable def jV(o:Own)(cs:List Ex):Ex:=λE=>bnd (vz cs E) λE xs=>if o=.dp then(if xs.all vK then some (.ok E (.dp,.lst (xs.map (·.2))))else none)else some (.ok E (.rt,.lst (xs.map (·.2))))
noncomputable def jz(o:Own)(cs:List Ex):Ex:=λE=>bnd (vz cs E) λE xs=>if o=.dp then(if xs.all vK then some (.ok E (.dp,.tup (xs.map (·.2))))else none)else some (.ok E (.no,.tup (xs.map (·.2))))
inductive Fl where
 |nx (E:En)|rt (E:En) (x:Sd)|ct (E:En)|bk (E:En)|xc (E:En) (c:Str)
abbrev Sm:=En->Option Fl
noncomputable def ofE{α:Type}(m:Option (Res α))(f:En->α->Option Fl):Option Fl:=
 match m with
 |some (.ok E a)=>f E a
 |some (.exc E c)=>some (.xc E c)
 |none=>none
@[simp] theorem wkx {α:Type}(E:En)(a:α)(f:En->α->Option Fl):ofE (some (.ok E a)) f=f E a:=rfl
@[simp] theorem wjj {α:Type}(E:En)(c:Str)(f:En->α->Option Fl):ofE (some (.exc E c)) f=some (.xc E c):=rfl
@[simp] theorem vzb {α:Type}(f:En->α->Option Fl):ofE none f=none:=rfl
def j7(a b:Sm):Sm:=λE=>match a E with
 |some (.nx E)=>b E
 |r=>r
def qQ:Sm:=λE=>some (.nx E)
def jk(i:Nat)(c:Ex):Sm:=λE=>ofE (c E) λE x=>some (.nx (E.set i (some x)))
def qwg(c:Ex):Sm:=λE=>ofE (c E) λE _=>some (.nx E)
def jK(c:Ex):Sm:=λE=>ofE (c E) λE x=>some (.rt E x)
def sRetN:Sm:=λE=>some (.rt E (.dp,.non))
def sIf(t:Ts)(a b:Sm):Sm:=λE=>ofE (t E) λE x=>if x then a E else b E
inductive Tg where
 |n (i:Nat)|t (ts:List Nat)
noncomputable def setAll:List Nat->List D->En->Option En
 |[],[],E=>some E
 |i::is,d::ds,E=>setAll is ds (E.set i (some (.no,d)))
 |_,_,_=>none
noncomputable def Tg.put:Tg->D->En->Option En
 |.n i,d,E=>some (E.set i (some (.no,d)))
 |.t is,.tup ds,E=>setAll is ds E
 |.t is,.lst ds,E=>setAll is ds E
 |.t _,_,_=>none
def Qv(is:List Nat)(c:Ex):Sm:=λE=>ofE (c E) λE x=>(Tg.put (.t is) x.2 E).map .nx
noncomputable def JK(tg:Tg)(b:Sm):List D->En->Option Fl
 | [],E=>some (.nx E)
 | d::ds,E=>match tg.put d E with
  |none=>none
  |some E=>match b E with
   |some (.nx E)=>JK tg b ds E
   |some (.ct E)=>JK tg b ds E
   |some (.bk E)=>some (.nx E)
   |r=>r
def wX(it:Ev (List D))(tg:Tg)(b:Sm):Sm:=λE=>ofE (it E) λE ds=>JK tg b ds E
def at'{α:Type}(L:List (Option α))(j:Nat):Option α:=(L[j]?).join
def clr{α:Type}:List Nat->List (Option α)->List (Option α)
 |[],L=>L
 |j::R,L=>clr R (L.set j none)
noncomputable def back{α:Type}:List Nat->List (Option α)->List (Option α)->List (Option α)
 |j::R,q::B,L=>back R B (L.set j q)
 |_,_,L=>L
def V7(k:Nat)(R:List Nat)(E:En):En:=List.replicate k none++R.map (at' E)
def V3(k:Nat)(R:List Nat)(B E:En):En:=back R (B.drop k) (clr R E)
noncomputable def lcL(tg:Tg)(t:Ts)(c:Ex):List D->En->List Sd->Option (Res (List Sd))
 |[],B,av=>some (.ok B av)
 |d::ds,B,av=>match tg.put d B with
  |none=>none
  |some B=>bnd (t B) λB x=>if x then bnd (c B) λB y=>lcL tg t c ds B (av++[y])else lcL tg t c ds B av
noncomputable def mkL(o:Own)(E:En)(xs:List Sd):Option (Res Sd):=
 if o=.dp then(if xs.all vK then some (.ok E (.dp,.lst (xs.map (·.2))))else none)else some (.ok E (.rt,.lst (xs.map (·.2))))
noncomputable def cLC(o:Own)(k:Nat)(R:List Nat)(it:Ev (List D))(tg:Tg)(t:Ts)(c:Ex):Ex:=λE=>bnd (it E) λE ds=>
 match lcL tg t c ds (V7 k R E) []with
 |some (.ok B xs)=>mkL o (V3 k R B E) xs
 |some (.exc B e)=>some (.exc (V3 k R B E) e)
 |none=>none
def J3:Option (Option Sd)->Bool
 |some (some (_,.lst _))=>true
 |_=>false
noncomputable def xz(f:List D->D->Option (List D))(i:Nat)(c:Ex):Sm:=λE=>if J3 E[i]? then ofE (c E) λE x=>match E[i]? with
 |some (some (o,.lst xs))=>if o=.no then none else(match f xs x.2 with
  |some ys=>some (.nx (E.set i (some (if o=.dp/\vK x then .dp else .rt,.lst ys))))
  |none=>none)
 |_=>none
 else none
def xV:List D->D->Option (List D):=λxs d=>if xs.length<big then some (xs++[d])else none
noncomputable def W7:D->Option D
 |.int i=>some (.int i)
 |.bl k=>some (.int (if k then 1 else 0))
 |.str z=>if z.length<=640 then(PySem.intText? z).map .int else none
 |_=>none
noncomputable def K1:Sd->Option Sd:=λx=>match x.2 with
 |.lst xs=>if qK x then some (.rt,.lst xs)else none
 |.tup xs=>if qK x then some (.rt,.lst xs)else none
 |_=>none
noncomputable def Jv:Sd->Option Sd:=λx=>match x.2 with
 |.lst xs=>if qK x then some (.no,.tup xs)else none
 |.tup xs=>if qK x then some (.no,.tup xs)else none
 |_=>none
def bls:List D->Option (List Bool)
 |[]=>some []
 |.bl b::ds=>(bls ds).map (b :: ·)
 |_=>none
def Jk:D->Option D
 |.lst ds=>(bls ds).map λbs=>.bl (bs.all id)
 |_=>none
noncomputable def seqOf:D->Option (List D)
 |.lst xs=>some xs
 |.tup xs=>some xs
 |.str z=>if z.cps.size<=big then some (z.cps.toList.map λc=>.str ⟨#[c]⟩)else none
 |_=>none
def itS(c:Ex):Ev (List D):=λE=>bnd (c E) λE x=>val E (seqOf x.2)
def zQ(i:Int):Bool:=decide (-(2 ^ 62)<=i)&&decide (i<2 ^ 62)
def k7(lo hi:Int):List D:=(List.range (hi - lo).toNat).map λ(k:Nat)=>.int (lo+(k:Int))
noncomputable def kY(c:Ex):Ev (List D):=λE=>bnd (c E) λE x=>match x.2 with
 |.int j=>if zQ j/\j.toNat<=big then some (.ok E (k7 0 j))else none
 |_=>none
noncomputable def wq8(c:Ex):Ex:=λE=>bnd (c E) λE x=>match x.2 with
 |.int j=>if zQ j/\j.toNat<=big then some (.ok E (.rt,.lst (k7 0 j)))else none
 |_=>none
abbrev Fn:=List Sd->Option (Res Sd)
noncomputable def fn(n:Nat)(b:Sm):Fn:=λxs=>match b (xs.map some++List.replicate (n - xs.length) none)with
 |some (.rt E x)=>some (.ok E x)
 |some (.nx E)=>some (.ok E (.dp,.non))
 |some (.xc E c)=>some (.exc E c)
 |_=>none
def letAll(xs:List Sd):List Sd:=xs.map λx=>(.no,x.2)
noncomputable def jJ(f:Fn)(cs:List Ex):Ex:=λE=>bnd (vz cs E) λE xs=>match f (letAll xs)with
 |some (.ok _ y)=>some (.ok E y)
 |some (.exc _ c)=>some (.exc E c)
 |none=>none
end Q
namespace Q
open PySem PySem.Spec PyProof.Rows L2 L3
mutual
noncomputable def vx4:D->Int
 |.int i=>hashInt i
 |.tup xs=>reduceHash (Builtin.Tuple.tupleHashOf (hashDs xs))
 |_=>4238894112
noncomputable def hashDs:List D->List Int
 |[]=>[]
 |a::x=>vx4 a::hashDs x
end
def Kd:Type:={ d:D // Zq 6 d=true }
instance:DecidableEq Kd:=λa b=>Classical.propDecidable (a=b)
abbrev Ent:=Kd×Addr×Value
noncomputable def DicO(a:Addr)(es:List Ent)(ep:Nat):HO:=.ext λh=>∃o ds,h.get? a=some o/\o.ExactDict/\o.data=.dict ds ep/\ds.toList=es.map λx=>(⟨vx4 x.1.1,.ref x.2.1,x.2.2⟩:DictEntry)
mutual
noncomputable def PuR(K:PySem.W.Frag)(H:Hp):D->V->Prop
 |.non,v=>v=.non
 |.int i,v=>v=.int i
 |.tup ds,v=>∃a xs,v=.ref a/\SqT K H a xs/\PuRs K H ds xs
 |_,_=>False
noncomputable def PuRs(K:PySem.W.Frag)(H:Hp):List D->List V->Prop
 |[],xs=>xs=[]
 |d::ds,xs=>∃x r,xs=x::r/\PuR K H d x/\PuRs K H ds r
end
noncomputable def DcN(K:PySem.W.Frag)(H:Hp)(a:Addr)(ks:List D)(vs:List V):Prop:=∃(es:List Ent) (ep:Nat),H a=some (DicO a es ep)/\(a==sysModules)=false/\es.length<=sizeLine/\(es.map (·.1)).Nodup/\ks=es.map (·.1.1)/\(∀x∈es,PuR K H x.1.1 (.ref x.2.1))/\Vals vs (es.map (·.2.2))
noncomputable def DcI(H:Hp)(a:Addr)(ks:List D)(vs:List V):Prop:=∃(kv:List (Int×V)) (m:Str),H a=some (.dK (kv.map λp=>(Sum.inl p.1,p.2)))/\ks=.str m::kv.map (λp=>D.int p.1)/\vs=.non::kv.map (·.2)
def DcA(K:PySem.W.Frag)(H:Hp)(a:Addr)(ks:List D)(vs:List V):Prop:=DcN K H a ks vs\/DcI H a ks vs
noncomputable def wqd(K:PySem.W.Frag)(a:Addr)(xs:List V):Prop:=∃(ag:Array Value) (n:Nat),K.lookup a=some { cls:=.type "list",data:=.seq ag n }/\ag.size<=sizeLine/\Vals xs ag.toList
def vzi(K:PySem.W.Frag)(H:Hp)(a:Addr)(xs:List V):Prop:=(∃o,H a=some (.frz o (.lst xs)))\/wqd K a xs
def LsR(K:PySem.W.Frag)(H:Hp)(a:Addr)(xs:List V):Prop:=Rd H a (.lst xs)\/wqd K a xs
theorem LsR.of{K:PySem.W.Frag}{H:Hp}{a:Addr}{xs:List V}(h:vzi K H a xs):LsR K H a xs:=h.imp .inr id
theorem LsR.sq{K:PySem.W.Frag}{H:Hp}{a:Addr}{xs:List V}(h:LsR K H a xs):SqL K H a xs:=by
 rcases h with h|⟨ag,n,h1,h2,h3⟩
 ·exact .inl h
 ·exact .inr ⟨_,ag,n,h1,rfl,rfl,rfl,h2,h3⟩
theorem LsR.is{X:Cx}{pins:List (Addr×Obj)}{σ:L2.St}{H:Hp}{s:Shared}{a:Addr}{xs:List V}(I:L2.Inv X pins σ H s)(h:LsR X.K H a xs):xs.length<=sizeLine/\∃(ag:List Value) (n:Nat),Vals xs ag/\s.heap.get? a=some { cls:=.type "list",data:=.seq ag.toArray n }:=by
 rcases h with h|⟨ag,n,h1,h2,h3⟩
 ·obtain⟨z,ag,n,r,e⟩:=h.ok I.hok;exact⟨z,ag,n,r,e⟩
 ·have hl:=h3.length;simp only[Xa]at hl;exact⟨by omega,ag.toList,n,h3,by simpa using I.kIn a _ h1⟩
noncomputable def ExD(K:PySem.W.Frag)(H:Hp)(c:Str)(v:V):Prop:=∃x o C,v=.ref x/\H x=some (.frz o (.ext λ_=>True))/\ExAt K x o C/\PySem.W.nsIn K mainGlobals c=some (some (.ref C))
mutual
noncomputable def RepL(K:PySem.W.Frag)(H:Hp)(g:Bool):D->V->List Addr->Prop
 |.non,v,as=>v=.non/\as=[]
 |.bl b,v,as=>v=.bl b/\as=[]
 |.int i,v,as=>v=.int i/\as=[]
 |.str z,v,as=>v=.str z/\as=[]/\z.length<=sizeLine
 |.tup ds,v,as=>∃a xs,v=.ref a/\SqT K H a xs/\RepA K H g ds xs as
 |.lst ds,v,as=>∃a xs bs,v=.ref a/\RepA K H g ds xs bs/\((H a=some (.lst xs)/\as=a::bs)\/(g=true/\vzi K H a xs/\as=bs))
 |.dct ay,v,as=>∃a xs bs,v=.ref a/\RepP K H g ay xs bs/\DcA K H a (ay.map (·.1)) xs/\as=a::bs
 |.obj c _,v,as=>as=[]/\ExD K H c v
noncomputable def RepA(K:PySem.W.Frag)(H:Hp)(g:Bool):List D->List V->List Addr->Prop
 |[],xs,as=>xs=[]/\as=[]
 |d::ds,xs,as=>∃x r bs cs,xs=x::r/\as=bs++cs/\RepL K H g d x bs/\RepA K H g ds r cs
noncomputable def RepP(K:PySem.W.Frag)(H:Hp)(g:Bool):List (D×D)->List V->List Addr->Prop
 |[],xs,as=>xs=[]/\as=[]
 |(_,d)::ds,xs,as=>∃x r bs cs,xs=x::r/\as=bs++cs/\RepL K H g d x bs/\RepP K H g ds r cs
end
noncomputable def RepR(K:PySem.W.Frag)(H:Hp):D->V->List Addr->Prop
 |.lst ds,v,as=>∃a xs bs,v=.ref a/\RepA K H true ds xs bs/\H a=some (.lst xs)/\as=a::bs
 |.dct ay,v,as=>∃a xs bs,v=.ref a/\RepP K H true ay xs bs/\DcA K H a (ay.map (·.1)) xs/\as=a::bs
 |_,_,_=>False
noncomputable def RepO(K:PySem.W.Frag)(H:Hp):Own->D->V->List Addr->Prop
 |.no=>RepL K H true
 |.rt=>RepR K H
 |.dp=>RepL K H false
section
variable {K:PySem.W.Frag}{H H':Hp}
noncomputable def Kp(H H':Hp)(as:List Addr):Prop:=(∀a xs,H a=some (.tup xs)->H' a=some (.tup xs))/\(∀a o u,H a=some (.frz o u)->H' a=some (.frz o u))/\∀a∈as,∀ob,H a=some ob->H' a=some ob
theorem Kp.left{as bs:List Addr}(k:Kp H H' (as++bs)):Kp H H' as:=⟨k.1,k.2.1,λa ha=>k.2.2 a (ll9 _ ha)⟩
theorem Kp.right{as bs:List Addr}(k:Kp H H' (as++bs)):Kp H H' bs:=⟨k.1,k.2.1,λa ha=>k.2.2 a (lr9 _ ha)⟩
theorem Kp.tail{a:Addr}{bs:List Addr}(k:Kp H H' (a::bs)):Kp H H' bs:=⟨k.1,k.2.1,λb hb=>k.2.2 b (lc9 _ hb)⟩
theorem Kp.tupT{as:List Addr}{a:Addr}{xs:List V}(k:Kp H H' as)(h:SqT K H a xs):SqT K H' a xs:=by
 rcases h with(h|⟨o,h⟩)|h
 ·exact .inl (.inl (k.1 a xs h))
 ·exact .inl (.inr ⟨o,k.2.1 a o _ h⟩)
 ·exact .inr h
theorem Kp.frzL{as:List Addr}{a:Addr}{xs:List V}(k:Kp H H' as)(h:vzi K H a xs):vzi K H' a xs:=by
 rcases h with⟨o,h⟩|h
 ·exact .inl ⟨o,k.2.1 a o _ h⟩
 ·exact .inr h
mutual
theorem PuR.kp{as:List Addr}(k:Kp H H' as):∀{d:D} {v:V},PuR K H d v->PuR K H' d v
 |.non,_,h=>by unfold PuR at h ⊢;exact h
 |.int _,_,h=>by unfold PuR at h ⊢;exact h
 |.tup ds,_,h=>by
  unfold PuR at h ⊢;obtain⟨a,xs,e,s,r⟩:=h;exact⟨a,xs,e,k.tupT s,PuRs.kp k r⟩
 |.bl _,_,h=>by unfold PuR at h;exact h.elim
 |.str _,_,h=>by unfold PuR at h;exact h.elim
 |.lst _,_,h=>by unfold PuR at h;exact h.elim
 |.dct _,_,h=>by unfold PuR at h;exact h.elim
 |.obj _ _,_,h=>by unfold PuR at h;exact h.elim
theorem PuRs.kp{as:List Addr}(k:Kp H H' as):∀{ds:List D} {xs:List V},PuRs K H ds xs->PuRs K H' ds xs
 |[],_,h=>by unfold PuRs at h ⊢;exact h
 |d::ds,_,h=>by
  unfold PuRs at h ⊢;obtain⟨x,r,e,h1,h2⟩:=h;exact⟨x,r,e,PuR.kp k h1,PuRs.kp k h2⟩
end
theorem Kp.dcn{a:Addr}{bs:List Addr}{ks:List D}{vs:List V}(k:Kp H H' (a::bs))(h:DcN K H a ks vs):DcN K H' a ks vs:=by
 obtain⟨es,ep,e,h1,h2,h3,h4,h5,h6⟩:=h;exact⟨es,ep,k.2.2 a X6 _ e,h1,h2,h3,h4,λx hx=>PuR.kp k (h5 x hx),h6⟩
theorem Kp.dca{a:Addr}{bs:List Addr}{ks:List D}{vs:List V}(k:Kp H H' (a::bs))(h:DcA K H a ks vs):DcA K H' a ks vs:=by
 rcases h with h|⟨kv,m,e,h⟩
 ·exact .inl (k.dcn h)
 ·exact .inr ⟨kv,m,k.2.2 a X6 _ e,h⟩
theorem Kp.of_same{as:List Addr}(s:k9 H H'):Kp H H' as:=⟨λa xs h=>s a _ h,λa o u h=>s a _ h,λa _ ob h=>s a ob h⟩
mutual
theorem RepL.kp{g:Bool}:∀{d:D} {v:V} {as:List Addr},RepL K H g d v as->Kp H H' as->RepL K H' g d v as
 | .non,_,_,h,_=>by unfold RepL at h ⊢;exact h
 | .bl _,_,_,h,_=>by unfold RepL at h ⊢;exact h
 | .int _,_,_,h,_=>by unfold RepL at h ⊢;exact h
 | .str _,_,_,h,_=>by unfold RepL at h ⊢;exact h
 | .tup ds,_,_,h,k=>by
  unfold RepL at h ⊢;obtain⟨a,xs,e,s,r⟩:=h;exact⟨a,xs,e,k.tupT s,RepA.kp r k⟩
 | .lst ds,_,_,h,k=>by
  unfold RepL at h ⊢;obtain⟨a,xs,bs,e,r,q⟩:=h;refine⟨a,xs,bs,e,?_,?_⟩
  ·rcases q with⟨_,rfl⟩|⟨_,_,rfl⟩
   ·exact RepA.kp r k.tail
   ·exact RepA.kp r k
  ·rcases q with⟨h1,rfl⟩|⟨hg,h1,rfl⟩
   ·exact .inl ⟨k.2.2 a X6 _ h1,rfl⟩
   ·exact .inr ⟨hg,k.frzL h1,rfl⟩
 |.dct ay,_,_,h,k=>by
  unfold RepL at h ⊢;obtain⟨a,xs,bs,e,r,q,rfl⟩:=h;exact⟨a,xs,bs,e,RepP.kp r k.tail,k.dca q,rfl⟩
 |.obj _ _,_,_,h,k=>by
  unfold RepL at h ⊢;obtain⟨e,x,o,C,h1,h2,h3⟩:=h;exact⟨e,x,o,C,h1,k.2.1 _ _ _ h2,h3⟩
theorem RepA.kp{g:Bool}:∀{ds:List D} {xs:List V} {as:List Addr},RepA K H g ds xs as->Kp H H' as->RepA K H' g ds xs as
 |[],_,_,h,_=>by unfold RepA at h ⊢;exact h
 |d::ds,_,_,h,k=>by
  unfold RepA at h ⊢;obtain⟨x,r,bs,cs,e1,rfl,h1,h2⟩:=h;exact⟨x,r,bs,cs,e1,rfl,RepL.kp h1 k.left,RepA.kp h2 k.right⟩
theorem RepP.kp{g : Bool}: ∀{ds : List (D × D)} {xs : List V} {as : List Addr}, RepP K H g ds xs as -> Kp H H' as -> RepP K H' g ds xs as
  | [], _, _, h, _=>by unfold RepP at h ⊢; exact h
  | (q, d)::ds, _, _, h, k=>by
    unfold RepP at h ⊢;obtain⟨x, r, bs, cs, e1, rfl, h1, h2⟩:= h;exact⟨x, r, bs, cs, e1, rfl, RepL.kp h1 k.left, RepP.kp h2 k.right⟩
end
mutual
theorem RepL.wk:∀{d:D} {v:V} {as:List Addr},RepL K H false d v as->RepL K H true d v as
 |.non,_,_,h=>by unfold RepL at h ⊢;exact h
 |.bl _,_,_,h=>by unfold RepL at h ⊢;exact h
 |.int _,_,_,h=>by unfold RepL at h ⊢;exact h
 |.str _,_,_,h=>by unfold RepL at h ⊢;exact h
 |.tup ds,_,_,h=>by
  unfold RepL at h ⊢;obtain⟨a,xs,e,s,r⟩:=h;exact⟨a,xs,e,s,RepA.wk r⟩
 |.lst ds,_,_,h=>by
  unfold RepL at h ⊢;obtain⟨a,xs,bs,e,r,q⟩:=h;refine⟨a,xs,bs,e,RepA.wk r,?_⟩;rcases q with q|⟨z,_⟩
  ·exact .inl q
  ·cases z
 |.dct ay,_,_,h=>by
  unfold RepL at h ⊢;obtain⟨a,xs,bs,e,r,q,z⟩:=h;exact⟨a,xs,bs,e,RepP.wk r,q,z⟩
 |.obj _ _,_,_,h=>by unfold RepL at h ⊢;exact h
theorem RepA.wk:∀{ds:List D} {xs:List V} {as:List Addr},RepA K H false ds xs as->RepA K H true ds xs as
 |[],_,_,h=>by unfold RepA at h ⊢;exact h
 |d::ds,_,_,h=>by
  unfold RepA at h ⊢;obtain⟨x,r,bs,cs,e1,e2,h1,h2⟩:=h;exact⟨x,r,bs,cs,e1,e2,RepL.wk h1,RepA.wk h2⟩
theorem RepP.wk : ∀{ds : List (D × D)} {xs : List V} {as : List Addr}, RepP K H false ds xs as -> RepP K H true ds xs as
  | [], _, _, h=>by unfold RepP at h ⊢; exact h
  | (q, d)::ds, _, _, h=>by
    unfold RepP at h ⊢;obtain⟨x, r, bs, cs, e1, e2, h1, h2⟩:= h;exact⟨x, r, bs, cs, e1, e2, RepL.wk h1, RepP.wk h2⟩
end
mutual
theorem RepL.al{g:Bool}:∀{d:D} {v:V} {as:List Addr},RepL K H g d v as->∀a∈as,(∃xs,H a=some (.lst xs))\/(∃ φ,H a=some (.ext φ))\/∃ay,H a=some (.dK ay)
 | .non,_,_,h=>by unfold RepL at h;rw[h.2];exact λ_ z=>nomatch z
 | .bl _,_,_,h=>by unfold RepL at h;rw[h.2];exact λ_ z=>nomatch z
 | .int _,_,_,h=>by unfold RepL at h;rw[h.2];exact λ_ z=>nomatch z
 | .str _,_,_,h=>by unfold RepL at h;rw[h.2.1];exact λ_ z=>nomatch z
 | .tup ds,_,_,h=>by
  unfold RepL at h;obtain⟨a,xs,e,s,r⟩:=h;exact RepA.al r
 | .lst ds,_,_,h=>by
  unfold RepL at h;obtain⟨a,xs,bs,e,r,q⟩:=h;rcases q with⟨h1,rfl⟩|⟨_,_,rfl⟩
  ·intro b hb;rcases List.mem_cons.mp hb with rfl|hb
   ·exact .inl ⟨_,h1⟩
   ·exact RepA.al r b hb
  ·exact RepA.al r
 | .dct ay,_,_,h=>by
  unfold RepL at h;obtain⟨a,xs,bs,e,r,q,rfl⟩:=h;intro b hb;rcases List.mem_cons.mp hb with rfl|hb
  ·rcases q with⟨es,ep,q,_⟩|⟨kv,m,q,_⟩
   ·exact .inr (.inl ⟨_,q⟩)
   ·exact .inr (.inr ⟨_,q⟩)
  ·exact RepP.al r b hb
 |.obj _ _,_,_,h=>by unfold RepL at h;rw[h.1];exact λ_ z=>nomatch z
theorem RepA.al{g:Bool}:∀{ds:List D} {xs:List V} {as:List Addr},RepA K H g ds xs as->∀a∈as,(∃xs,H a=some (.lst xs))\/(∃ φ,H a=some (.ext φ))\/∃ay,H a=some (.dK ay)
 |[],_,_,h=>by unfold RepA at h;rw[h.2];exact λ_ z=>nomatch z
 |d::ds,_,_,h=>by
  unfold RepA at h;obtain⟨x,r,bs,cs,e1,rfl,h1,h2⟩:=h;intro a ha;rcases List.mem_append.mp ha with ha|ha
  ·exact RepL.al h1 a ha
  ·exact RepA.al h2 a ha
theorem RepP.al{g : Bool}: ∀{ds : List (D × D)} {xs : List V} {as : List Addr}, RepP K H g ds xs as -> ∀a ∈ as, (∃xs, H a = some (.lst xs)) \/ (∃ φ, H a = some (.ext φ)) \/ ∃ay, H a = some (.dK ay)
  | [], _, _, h=>by unfold RepP at h; rw[h.2]; exact λ_ z=>nomatch z
  | (_, d)::ds, _, _, h=>by
    unfold RepP at h;obtain⟨x, r, bs, cs, e1, rfl, h1, h2⟩:= h;intro a ha;rcases List.mem_append.mp ha with ha|ha
    · exact RepL.al h1 a ha
    · exact RepP.al h2 a ha
end
mutual
theorem RepL.pu{g g':Bool}:∀{d:D} {v:V} {as:List Addr},RepL K H g d v as->d.pure=true->as=[]/\RepL K H g' d v []
 |.non,_,_,h,_=>by unfold RepL at h ⊢;exact⟨h.2,h.1,rfl⟩
 |.bl _,_,_,h,_=>by unfold RepL at h ⊢;exact⟨h.2,h.1,rfl⟩
 |.int _,_,_,h,_=>by unfold RepL at h ⊢;exact⟨h.2,h.1,rfl⟩
 |.str _,_,_,h,_=>by unfold RepL at h ⊢;exact⟨h.2.1,h.1,rfl,h.2.2⟩
 |.tup ds,_,_,h,p=>by
  unfold RepL at h ⊢;obtain⟨a,xs,e,s,r⟩:=h;obtain⟨z,r'⟩:=RepA.pu (g':=g') r (by unfold D.pure at p;exact p);exact⟨z,a,xs,e,s,r'⟩
 |.lst ds,_,_,h,p=>by unfold D.pure at p;cases p
 |.dct ds,_,_,h,p=>by unfold D.pure at p;cases p
 |.obj _ _,_,_,h,p=>by unfold D.pure at p;cases p
theorem RepA.pu{g g':Bool}:∀{ds:List D} {xs:List V} {as:List Addr},RepA K H g ds xs as->D.pures ds=true->as=[]/\RepA K H g' ds xs []
 |[],_,_,h,_=>by unfold RepA at h ⊢;exact⟨h.2,h.1,rfl⟩
 |d::ds,_,_,h,p=>by
  unfold RepA at h ⊢;unfold D.pures at p;rw[Bool.and_eq_true]at p;obtain⟨x,r,bs,cs,e1,rfl,h1,h2⟩:=h;obtain⟨rfl,q1⟩:=RepL.pu (g':=g') h1 p.1;obtain⟨rfl,q2⟩:=RepA.pu (g':=g') h2 p.2;exact⟨rfl,x,r,[],[],e1,rfl,q1,q2⟩
end
theorem RepR.wk:∀{d:D} {v:V} {as:List Addr},RepR K H d v as->RepL K H true d v as
 |.lst ds,_,_,h=>by
  obtain⟨a,xs,bs,e,r,q,z⟩:=h;unfold RepL;exact⟨a,xs,bs,e,r,.inl ⟨q,z⟩⟩
 |.dct ay,_,_,h=>by
  obtain⟨a,xs,bs,e,r,q,z⟩:=h;unfold RepL;exact⟨a,xs,bs,e,r,q,z⟩
theorem RepR.kp:∀{d:D} {v:V} {as:List Addr},RepR K H d v as->Kp H H' as->RepR K H' d v as
 |.lst ds,_,_,h,k=>by
  obtain⟨a,xs,bs,e,r,q,rfl⟩:=h;exact⟨a,xs,bs,e,r.kp k.tail,k.2.2 a X6 _ q,rfl⟩
 |.dct ay,_,_,h,k=>by
  obtain⟨a,xs,bs,e,r,q,rfl⟩:=h;exact⟨a,xs,bs,e,r.kp k.tail,k.dca q,rfl⟩
theorem RepO.wk:∀{o:Own} {d:D} {v:V} {as:List Addr},RepO K H o d v as->RepL K H true d v as
 |.no,_,_,_,h=>h
 |.rt,_,_,_,h=>RepR.wk h
 |.dp,_,_,_,h=>RepL.wk h
theorem RepO.kp:∀{o:Own} {d:D} {v:V} {as:List Addr},RepO K H o d v as->Kp H H' as->RepO K H' o d v as
 |.no,_,_,_,h,k=>RepL.kp h k
 |.rt,_,_,_,h,k=>RepR.kp h k
 |.dp,_,_,_,h,k=>RepL.kp h k
end
structure Sl where
 o:Own
 d:D
 v:V
 as:List Addr
def Sl.own(x:Sl):List Addr:=match x.o with
 |.no=>[]
 |.rt=>x.as.take 1
 |.dp=>x.as
def Sl.frz(x:Sl):List Addr:=match x.o with
 |.no=>x.as
 |.rt=>x.as.drop 1
 |.dp=>[]
theorem Sl.parts(x:Sl):x.own++x.frz=x.as:=by
 unfold Sl.own Sl.frz;cases x.o with
 |no=>rfl
 |rt=>exact List.take_append_drop 1 x.as
 |dp=>exact Y9 _
theorem Sl.own_as{x:Sl}{a:Addr}(h:a∈x.own):a∈x.as:=by rw[<-x.parts];exact ll9 _ h
theorem Sl.frz_as{x:Sl}{a:Addr}(h:a∈x.frz):a∈x.as:=by rw[<-x.parts];exact lr9 _ h
theorem Sl.as_of{x:Sl}{a:Addr}(h:a∈x.as):a∈x.own\/a∈x.frz:=by rw[<-x.parts]at h;exact List.mem_append.mp h
def Sl.let(x:Sl):Sl:={ x with o:=.no }
abbrev Ls:=List (Option Sl)
def j8(L:Ls):List Addr:=L.flatMap λx=>x.elim [] Sl.own
def k8(L:Ls):List Addr:=L.flatMap λx=>x.elim [] Sl.frz
@[simp] theorem vw2:j8 []=[]:=rfl
@[simp] theorem vq3:k8 []=[]:=rfl
@[simp] theorem kQ (x:Sl)(L:Ls):j8 (some x::L)=x.own++j8 L:=by simp[j8]
@[simp] theorem vQ (x:Sl)(L:Ls):k8 (some x::L)=x.frz++k8 L:=by simp[k8]
@[simp] theorem qj6 (L:Ls):j8 (none::L)=j8 L:=by simp[j8]
@[simp] theorem kx3 (L:Ls):k8 (none::L)=k8 L:=by simp[k8]
@[simp] theorem k4 (L T:Ls):j8 (L++T)=j8 L++j8 T:=by simp[j8]
@[simp] theorem kX (L T:Ls):k8 (L++T)=k8 L++k8 T:=by simp[k8]
theorem mem_owned{L:Ls}{a:Addr}:a∈j8 L↔∃x,some x∈L/\a∈x.own:=by
 unfold j8;rw[List.mem_flatMap];constructor
 ·rintro ⟨y,hy,h⟩;cases y with
  |none=>exact nomatch h
  |some x=>exact⟨x,hy,h⟩
 ·rintro ⟨x,hx,h⟩;exact⟨some x,hx,h⟩
theorem mem_frozen{L:Ls}{a:Addr}:a∈k8 L↔∃x,some x∈L/\a∈x.frz:=by
 unfold k8;rw[List.mem_flatMap];constructor
 ·rintro ⟨y,hy,h⟩;cases y with
  |none=>exact nomatch h
  |some x=>exact⟨x,hy,h⟩
 ·rintro ⟨x,hx,h⟩;exact⟨some x,hx,h⟩
def Sl.ok(K:PySem.W.Frag)(H:Hp)(x:Sl):Prop:=RepO K H x.o x.d x.v x.as
theorem Sl.ok.al{K:PySem.W.Frag}{H:Hp}{x:Sl}(h:x.ok K H):∀a∈x.as,(∃xs,H a=some (.lst xs))\/(∃ φ,H a=some (.ext φ))\/∃ay,H a=some (.dK ay):=(RepO.wk h).al
theorem Sl.ok.some{K:PySem.W.Frag}{H:Hp}{x:Sl}(h:x.ok K H){a:Addr}(ha:a∈x.as):H a≠none:=λz=>by
 rcases h.al a ha with⟨xs,e⟩|⟨xs,e⟩|⟨xs,e⟩<;>(rw[z]at e;cases e)
structure World (K:PySem.W.Frag)(H:Hp)(L:Ls):Prop where
 ok:∀x,some x∈L->x.ok K H
 nd:(j8 L).Nodup
 ds:∀a∈j8 L,a∉k8 L
structure Step (H:Hp)(L:Ls)(H':Hp)(L':Ls):Prop where
 keep:∀a ob,H a=some ob->a∉j8 L->H' a=some ob
 own:∀a∈j8 L',a∈j8 L\/H a=none
 frz:∀a∈k8 L',a∈k8 L\/a∈j8 L\/H a=none
section
variable {K:PySem.W.Frag}{H H1 H2 H':Hp}{L L1 L2' L' T:Ls}{x y:Sl}
theorem World.own_al(w:World K H L){a:Addr}(h:a∈j8 L):(∃xs,H a=some (.lst xs))\/(∃ φ,H a=some (.ext φ))\/∃ay,H a=some (.dK ay):=by
 obtain⟨x,hx,ha⟩:=mem_owned.mp h;exact(w.ok x hx).al a (Sl.own_as ha)
theorem World.own_some(w:World K H L){a:Addr}(h:a∈j8 L):H a≠none:=by
 obtain⟨x,hx,ha⟩:=mem_owned.mp h;exact(w.ok x hx).some (Sl.own_as ha)
theorem World.frz_some(w:World K H L){a:Addr}(h:a∈k8 L):H a≠none:=by
 obtain⟨x,hx,ha⟩:=mem_frozen.mp h;exact(w.ok x hx).some (Sl.frz_as ha)
theorem Step.refl:Step H L H L:=⟨λ_ _ h _=>h,λ_ h=>.inl h,λ_ h=>.inl h⟩
theorem Step.trans(a:Step H L H1 L1)(b:Step H1 L1 H2 L2'):Step H L H2 L2' where
 keep:=λc ob h hn=>b.keep c ob (a.keep c ob h hn) λz=>(a.own c z).elim hn λe=>by rw[h]at e;cases e
 own:=λc hc=>by
  rcases b.own c hc with z|z
  ·exact a.own c z
  ·by_cases h:c∈j8 L
   ·exact .inl h
   ·refine .inr ?_;cases e:H c with
    |none=>rfl
    |some ob=>rw[a.keep c ob e h]at z;cases z
 frz:=λc hc=>by
  rcases b.frz c hc with z|z|z
  ·exact a.frz c z
  ·exact .inr (a.own c z)
  ·by_cases h:c∈j8 L
   ·exact .inr (.inl h)
   ·refine .inr (.inr ?_);cases e:H c with
    |none=>rfl
    |some ob=>rw[a.keep c ob e h]at z;cases z
theorem Step.kp(a:Step H L H' L')(w:World K H L){as:List Addr}(h:∀b∈as,b∉j8 L):Kp H H' as:=by
 have no:∀b ob,H b=some ob->(∀xs,ob≠.lst xs)->(∀ φ,ob≠.ext φ)->(∀ay,ob≠.dK ay)->H' b=some ob:=λb ob e h1 h2 h3=>a.keep b ob e λz=>by
  rcases w.own_al z with⟨xs,q⟩|⟨es,q⟩|⟨es,q⟩
  ·rw[e]at q;cases q;exact h1 _ rfl
  ·rw[e]at q;cases q;exact h2 _ rfl
  ·rw[e]at q;cases q;exact h3 _ rfl
 exact⟨λb xs e=>no b _ e (λ_ z=>(nomatch z)) (λ_ z=>(nomatch z)) (λ_ z=>(nomatch z)),λb o u e=>no b _ e (λ_ z=>(nomatch z)) (λ_ z=>(nomatch z)) (λ_ z=>(nomatch z)),λb hb ob e=>a.keep b ob e (h b hb)⟩
theorem Step.frame(a:Step H L H' L')(w:World K H (L++T))(w':World K H' L')(wL:World K H L):World K H' (L'++T):=by
 have nd:=w.nd;rw [k4,X8]at nd;have dis:∀b∈j8 L,b∉j8 T:=λb hb hT=>nd.2.2 b hb b hT rfl
 have ic:∀x,some x∈T->x.ok K H:=λx hx=>w.ok x (lr9 _ hx)
 have nT:∀x,some x∈T->∀b∈x.as,b∉j8 L:=λx hx b hb hL=>by
  rcases Sl.as_of hb with z|z
  ·exact dis b hL (mem_owned.mpr ⟨x,hx,z⟩)
  ·refine w.ds b (by rw[k4];exact ll9 _ hL) ?_;rw[kX];exact lr9 _ (mem_frozen.mpr ⟨x,hx,z⟩)
 refine⟨λx hx=>?_,?_,λb hb=>?_⟩
 ·rcases List.mem_append.mp hx with hx|hx
  ·exact w'.ok x hx
  ·exact(ic x hx).kp (a.kp wL (nT x hx))
 ·rw[k4,X8];refine⟨w'.nd,nd.2.1,λb hb c hc e=>?_⟩;subst e;obtain⟨x,hx,f9⟩:=mem_owned.mp hc;rcases a.own b hb with z|z
  ·exact dis b z hc
  ·exact(ic x hx).some (Sl.own_as f9) z
 ·rw[k4]at hb;rw[kX];intro hf;rcases List.mem_append.mp hb with hb|hb
  ·rcases List.mem_append.mp hf with hf|hf
   ·exact w'.ds b hb hf
   ·obtain⟨x,hx,f9⟩:=mem_frozen.mp hf;rcases a.own b hb with z|z
    ·exact nT x hx b (Sl.frz_as f9) z
    ·exact(ic x hx).some (Sl.frz_as f9) z
  ·rcases List.mem_append.mp hf with hf|hf
   ·obtain⟨x,hx,f9⟩:=mem_owned.mp hb;rcases a.frz b hf with z|z|z
    ·exact w.ds b (by rw[k4];exact lr9 _ hb) (by rw[kX];exact ll9 _ z)
    ·exact dis b z hb
    ·exact(ic x hx).some (Sl.own_as f9) z
   ·exact w.ds b (by rw[k4];exact lr9 _ hb) (by rw[kX];exact lr9 _ hf)
theorem World.left(w:World K H (L++T)):World K H L:=by
 have nd:=w.nd;rw[k4,X8]at nd;exact⟨λx hx=>w.ok x (ll9 _ hx),nd.1,λa ha hf=>w.ds a (by rw[k4];exact ll9 _ ha) (by rw[kX];exact ll9 _ hf)⟩
theorem World.right(w:World K H (L++T)):World K H T:=by
 have nd:=w.nd;rw[k4,X8]at nd;exact⟨λx hx=>w.ok x (lr9 _ hx),nd.2.1,λa ha hf=>w.ds a (by rw[k4];exact lr9 _ ha) (by rw[kX];exact lr9 _ hf)⟩
theorem World.comm(w:World K H (L++T)):World K H (T++L):=by
 refine⟨λx hx=>w.ok x ?_,?_,λa ha hf=>w.ds a ?_ ?_⟩
 ·rcases List.mem_append.mp hx with h|h
  ·exact lr9 _ h
  ·exact ll9 _ h
 ·have nd:=w.nd;rw[k4,X8]at nd ⊢;exact⟨nd.2.1,nd.1,λa ha b hb e=>nd.2.2 b hb a ha e.symm⟩
 ·rw[k4]at ha ⊢;rcases List.mem_append.mp ha with h|h
  ·exact lr9 _ h
  ·exact ll9 _ h
 ·rw[kX]at hf ⊢;rcases List.mem_append.mp hf with h|h
  ·exact lr9 _ h
  ·exact ll9 _ h
theorem World.tail{q:Option Sl}(w:World K H (q::L)):World K H L:=World.right (L:=[q]) w
theorem World.head(w:World K H (some x::L)):x.ok K H:=w.ok x X6
theorem World.apart(w:World K H (some x::L)):∀a∈x.as,a∉j8 L:=λa ha hL=>by
 rcases Sl.as_of ha with z|z
 ·have nd:=w.nd;rw[kQ,X8]at nd;exact nd.2.2 a z a hL rfl
 ·exact w.ds a (by rw[kQ];exact lr9 _ hL) (by rw[vQ];exact ll9 _ z)
theorem World.cons(w:World K H L)(h:x.ok K H)(n:x.own.Nodup)(h1:∀a∈x.own,a∉j8 L)(h2:∀a∈x.own,a∉k8 L)(h3:∀a∈x.frz,a∉j8 L)(h4:∀a∈x.own,a∉x.frz):World K H (some x::L):=by
 refine⟨λy hy=>?_,?_,λa ha hf=>?_⟩
 ·rcases List.mem_cons.mp hy with z|z
  ·cases z;exact h
  ·exact w.ok y z
 ·rw[kQ,X8];exact⟨n,w.nd,λa ha b hb e=>by subst e;exact h1 a ha hb⟩
 ·rw[kQ]at ha;rw[vQ]at hf;rcases List.mem_append.mp ha with ha|ha
  ·rcases List.mem_append.mp hf with hf|hf
   ·exact h4 a ha hf
   ·exact h2 a ha hf
  ·rcases List.mem_append.mp hf with hf|hf
   ·exact h3 a hf ha
   ·exact w.ds a ha hf
theorem World.consNo(w:World K H L)(h:x.ok K H)(ho:x.o=.no)(h3:∀a∈x.as,a∉j8 L):World K H (some x::L):=by
 have e1:x.own=[]:=by unfold Sl.own;rw[ho]
 have e2:x.frz=x.as:=by unfold Sl.frz;rw[ho]
 exact w.cons h (by rw[e1];exact Y8) (by rw[e1];exact λ_ z=>nomatch z) (by rw[e1];exact λ_ z=>nomatch z) (by rw[e2];exact h3) (by rw[e1];exact λ_ z=>nomatch z)
theorem World.consPu(w:World K H L)(h:x.ok K H)(e:x.as=[]):World K H (some x::L):=by
 have e1:∀a,a∉x.own:=λa ha=>by have:=Sl.own_as ha;rw[e]at this;exact nomatch this
 have e2:∀a,a∉x.frz:=λa ha=>by have:=Sl.frz_as ha;rw[e]at this;exact nomatch this
 have e3:x.own=[]:=List.eq_nil_iff_forall_not_mem.mpr e1;exact w.cons h (by rw[e3];exact Y8) (λa z=>absurd z (e1 a)) (λa z=>absurd z (e1 a)) (λa z=>absurd z (e2 a)) (λa z=>absurd z (e1 a))
theorem jv3{L:Ls}{i:Nat}{q:Option Sl}(h:some y∈L.set i q):q=some y\/some y∈L:=by
 rcases List.mem_or_eq_of_mem_set h with z|z
 ·exact .inr z
 ·exact .inl z.symm
theorem Vz{i:Nat}{a:Addr}(h:a∈j8 (L.set i (some x))):a∈x.own\/a∈j8 L:=by
 obtain⟨y,hy,ha⟩:=mem_owned.mp h;rcases jv3 hy with z|z
 ·cases z;exact .inl ha
 ·exact .inr (mem_owned.mpr ⟨y,z,ha⟩)
theorem Z5{i:Nat}{a:Addr}(h:a∈k8 (L.set i (some x))):a∈x.frz\/a∈k8 L:=by
 obtain⟨y,hy,ha⟩:=mem_frozen.mp h;rcases jv3 hy with z|z
 ·cases z;exact .inl ha
 ·exact .inr (mem_frozen.mpr ⟨y,z,ha⟩)
theorem jqv:∀{L:Ls} {i:Nat},(x.own++j8 L).Nodup->(j8 (L.set i (some x))).Nodup
 |[],_,h=>by simp
 |q::L,0,h=>by
  rw[List.set_cons_zero,kQ];have e:j8 (q::L)=q.elim [] Sl.own++j8 L:=by simp[j8]
  rw[e,X8]at h;obtain⟨h1,h2,h3⟩:=h;rw[X8]at h2 ⊢;exact⟨h1,h2.2.1,λa ha b hb=>h3 a ha b (lr9 _ hb)⟩
 |q::L,i+1,h=>by
  rw[List.set_cons_succ];have e:∀M:Ls,j8 (q::M)=q.elim [] Sl.own++j8 M:=λM=>by simp[j8]
  rw[e]at h ⊢;rw[X8]at h;obtain⟨h1,h2,h3⟩:=h;rw[X8]at h2;rw[X8];refine⟨h2.1,jqv (by rw[X8];exact⟨h1,h2.2.1,λa ha b hb=>h3 a ha b (lr9 _ hb)⟩),λa ha b hb e=>?_⟩;subst e;rcases Vz hb with z|z
  ·exact h3 a z a (ll9 _ ha) rfl
  ·exact h2.2.2 a ha a z rfl
theorem World.set{i:Nat}(w:World K H (some x::L)):World K H (L.set i (some x)):=by
 refine⟨λy hy=>?_,jqv (by have:=w.nd;rwa [kQ]at this),λa ha hf=>?_⟩
 ·rcases jv3 hy with z|z
  ·cases z;exact w.head
  ·exact w.ok y (lc9 _ z)
 ·refine w.ds a ?_ ?_
  ·rw[kQ];exact List.mem_append.mpr (Vz ha)
  ·rw[vQ];exact List.mem_append.mpr (Z5 hf)
theorem Step.set{i:Nat}:Step H (some x::L) H (L.set i (some x)) where
 keep:=λ_ _ h _=>h
 own:=λa ha=>.inl (by rw[kQ];exact List.mem_append.mpr (Vz ha))
 frz:=λa ha=>.inl (by rw[vQ];exact List.mem_append.mpr (Z5 ha))
theorem Step.drop{q:Option Sl}:Step H (q::L) H L where
 keep:=λ_ _ h _=>h
 own:=λa ha=>.inl (by rw[show(q::L:Ls)=[q]++L from rfl,k4];exact lr9 _ ha)
 frz:=λa ha=>.inl (by rw[show(q::L:Ls)=[q]++L from rfl,kX];exact lr9 _ ha)
theorem x4{i:Nat}(h:L[i]?=some (some x)):some x∈L:=List.mem_of_getElem? h
theorem ZX(x:Sl):x.let.own=[]/\x.let.frz=x.as/\x.let.as=x.as:=⟨rfl,rfl,rfl⟩
theorem kvf{i:Nat}{a:Addr}(h:a∈j8 (L.set i (some x.let))):a∈j8 L:=by
 rcases Vz h with z|z
 ·exact nomatch z
 ·exact z
theorem kwx:∀{L:Ls} {i:Nat},(j8 L).Nodup->(∀a∈j8 L,a∉k8 L)->L[i]?=some (some x)->∀a∈x.as,a∉j8 (L.set i (some x.let))
 | [],_,_,_,h,_,_=>by simp at h
 | q::L,0,nd,ds,h,a,ha=>by
  have e:q=some x:=by simpa using h
  subst e;rw[List.set_cons_zero,kQ];intro hm;have hm:a∈j8 L:=by simpa [ZX]using hm
  rcases Sl.as_of ha with z|z
  ·rw[kQ,X8]at nd;exact nd.2.2 a z a hm rfl
  ·exact ds a (by rw[kQ];exact lr9 _ hm) (by rw[vQ];exact ll9 _ z)
 | q::L,i+1,nd,ds,h,a,ha=>by
  have h:L[i]?=some (some x):=by simpa using h
  rw[List.set_cons_succ];have e:∀M:Ls,j8 (q::M)=q.elim [] Sl.own++j8 M:=λM=>by simp[j8]
  have f:k8 (q::L)=q.elim [] Sl.frz++k8 L:=by simp[k8]
  rw[e];intro hm;rw[e,X8]at nd;rcases List.mem_append.mp hm with hm|hm
  ·rcases Sl.as_of ha with z|z
   ·exact nd.2.2 a hm a (mem_owned.mpr ⟨x,x4 h,z⟩) rfl
   ·exact ds a (by rw[e];exact ll9 _ hm) (by rw[f];exact lr9 _ (mem_frozen.mpr ⟨x,x4 h,z⟩))
  ·exact kwx (L:=L) nd.2.1 (λb hb hf=>ds b (by rw[e];exact lr9 _ hb) (by rw[f];exact lr9 _ hf)) h a ha hm
theorem Wj(h:x.ok K H):x.let.ok K H:=RepO.wk h
theorem World.let{i:Nat}(w:World K H L)(h:L[i]?=some (some x)):World K H (L.set i (some x.let)):=by
 have out:=kwx w.nd w.ds h;refine⟨λy hy=>?_,jqv (by rw[(ZX x).1];exact w.nd),λa ha hf=>?_⟩
 ·rcases jv3 hy with z|z
  ·cases z;exact Wj (w.ok x (x4 h))
  ·exact w.ok y z
 ·rcases Z5 hf with z|z
  ·exact out a z ha
  ·exact w.ds a (kvf ha) z
theorem World.read{i:Nat}(w:World K H L)(h:L[i]?=some (some x)):World K H (some x.let::L.set i (some x.let)):=
 (w.let h).consNo (Wj (w.ok x (x4 h))) rfl (kwx (x:=x) w.nd w.ds h)
theorem Step.read{i:Nat}(h:L[i]?=some (some x)):Step H L H (some x.let::L.set i (some x.let)) where
 keep:=λ_ _ h _=>h
 own:=λa ha=>.inl (by rw[kQ,(ZX x).1]at ha;exact kvf ha)
 frz:=λa ha=>by
  have hx:=x4 h;have q:∀a∈x.as,a∈k8 L\/a∈j8 L\/H a=none:=λa ha=>by
   rcases Sl.as_of ha with z|z
   ·exact .inr (.inl (mem_owned.mpr ⟨x,hx,z⟩))
   ·exact .inl (mem_frozen.mpr ⟨x,hx,z⟩)
  rw[vQ]at ha;rcases List.mem_append.mp ha with z|z
  ·exact q a z
  ·rcases Z5 z with z|z
   ·exact q a z
   ·exact .inl z
end
inductive Mt:En->L2.St->Ls->Prop
 |nil:Mt [] [] []
 |un {E:En} {σ:L2.St} {L:Ls} {y:Option V}:Mt E σ L->Mt (none::E) (y :: σ) (none::L)
 |cons {E:En} {σ:L2.St} {L:Ls} {x:Sl}:Mt E σ L->Mt (some (x.o,x.d)::E) (some x.v :: σ) (some x::L)
theorem Mt.get:∀{E:En} {σ:L2.St} {L:Ls} {i:Nat} {o:Own} {d:D},Mt E σ L->E[i]?=some (some (o,d))->∃x,L[i]?=some (some x)/\x.o=o/\x.d=d/\σ[i]?=some (some x.v)
 |_,_,_,_,_,_,.nil,h=>by simp at h
 |_,_,_,0,_,_,.un _,h=>by simp at h
 |_,_,_,i+1,_,_,.un m,h=>by simpa using m.get (i:=i) (by simpa using h)
 |_,_,_,0,_,_,.cons (x:=x) m,h=>by
  simp only[List.getElem?_cons_zero,Option.some.injEq,Prod.mk.injEq]at h;exact⟨x,by simp,h.1,h.2,by simp⟩
 |_,_,_,i+1,_,_,.cons m,h=>by simpa using m.get (i:=i) (by simpa using h)
theorem Mt.set{x:Sl}:∀{E:En} {σ:L2.St} {L:Ls} (i:Nat),Mt E σ L->Mt (E.set i (some (x.o,x.d))) (σ.set i (some x.v)) (L.set i (some x))
 |_,_,_,_,.nil=>.nil
 |_,_,_,0,.un m=>.cons m
 |_,_,_,i+1,.un m=>.un (m.set i)
 |_,_,_,0,.cons m=>.cons m
 |_,_,_,i+1,.cons m=>.cons (m.set i)
theorem Mt.let{x:Sl}:∀{E:En} {σ:L2.St} {L:Ls} {i:Nat},Mt E σ L->L[i]?=some (some x)->Mt (E.set i (some (.no,x.d))) σ (L.set i (some x.let))
 |_,_,_,_,.nil,h=>by simp at h
 |_,_,_,0,.un m,h=>by simp at h
 |_,_,_,i+1,.un m,h=>.un (m.let (i:=i) (by simpa using h))
 |_,_,_,0,.cons (x:=y) m,h=>by
  have e:y=x:=by simpa using h
  subst e;exact .cons (x:=y.let) m
 |_,_,_,i+1,.cons m,h=>.cons (m.let (i:=i) (by simpa using h))
theorem Mt.len:∀{E:En} {σ:L2.St} {L:Ls},Mt E σ L->E.length=σ.length/\L.length=σ.length
 |_,_,_,.nil=>⟨rfl,rfl⟩
 |_,_,_,.un m=>by simp[m.len]
 |_,_,_,.cons m=>by simp[m.len]
def sls(L:Ls):List Sl:=L.filterMap id
theorem K5(L:Ls):j8 L=(sls L).flatMap Sl.own:=by
 induction L with
 |nil=>rfl
 |cons q L ih=>
  cases q with
  |none=>rw[qj6,ih];rfl
  |some x=>rw[kQ,ih];rfl
theorem Q3(L:Ls):k8 L=(sls L).flatMap Sl.frz:=by
 induction L with
 |nil=>rfl
 |cons q L ih=>
  cases q with
  |none=>rw[kx3,ih];rfl
  |some x=>rw[vQ,ih];rfl
theorem mem_sls{L:Ls}{x:Sl}:x∈sls L↔some x∈L:=by simp[sls]
@[simp] theorem Q4 (L T:Ls):sls (L++T)=sls L++sls T:=by simp[sls]
@[simp] theorem qwa (L:Ls):sls (none::L)=sls L:=rfl
@[simp] theorem kxi (x:Sl)(L:Ls):sls (some x::L)=x::sls L:=rfl
@[simp] theorem vzp:sls []=[]:=rfl
@[simp] theorem vzq (T:List Sl):sls (T.map some)=T:=by simp[sls]
@[simp] theorem vj2 (k:Nat):sls (List.replicate k none)=[]:=by
 induction k with
 |zero=>rfl
 |succ k ih=>rw[List.replicate_succ,qwa,ih]
theorem jqm{α β:Type}(f:α->List β){l l':List α}(h:l.Sublist l'):(l.flatMap f).Sublist (l'.flatMap f):=by
 induction h with
 |slnil=>exact Ys _
 |cons a _ ih=>rw[List.flatMap_cons];exact List.Sublist.trans ih (List.sublist_append_right _ _)
 |cons_cons a _ ih=>rw[List.flatMap_cons,List.flatMap_cons];exact List.Sublist.append (Ys _) ih
section
variable {K:PySem.W.Frag}{H H':Hp}{L L' M M':Ls}
theorem World.same(w:World K H L)(p:(sls L).Perm (sls L')):World K H L':=by
 have po:(j8 L).Perm (j8 L'):=by rw[K5,K5];exact p.flatMap_right _
 have pf:(k8 L).Perm (k8 L'):=by rw[Q3,Q3];exact p.flatMap_right _
 exact⟨λx hx=>w.ok x (mem_sls.mp (p.mem_iff.mpr (mem_sls.mpr hx))),po.nodup_iff.mp w.nd,λa ha hf=>w.ds a (po.mem_iff.mpr ha) (pf.mem_iff.mpr hf)⟩
theorem Step.same(s:Step H L H' L')(p:(sls L).Perm (sls M))(p':(sls L').Perm (sls M')):Step H M H' M':=by
 have po:(j8 L).Perm (j8 M):=by rw[K5,K5];exact p.flatMap_right _
 have pf:(k8 L).Perm (k8 M):=by rw[Q3,Q3];exact p.flatMap_right _
 have po':(j8 L').Perm (j8 M'):=by rw[K5,K5];exact p'.flatMap_right _
 have pf':(k8 L').Perm (k8 M'):=by rw[Q3,Q3];exact p'.flatMap_right _
 exact⟨λa ob h hn=>s.keep a ob h λz=>hn (po.mem_iff.mp z),λa ha=>(s.own a (po'.mem_iff.mpr ha)).imp (λz=>po.mem_iff.mp z) id,
  λa ha=>(s.frz a (pf'.mem_iff.mpr ha)).imp (λz=>pf.mem_iff.mp z) λz=>z.imp (λz=>po.mem_iff.mp z) id⟩
theorem World.sub(w:World K H L)(p:(sls L').Sublist (sls L)):World K H L':=by
 refine⟨λx hx=>w.ok x (mem_sls.mp (p.subset (mem_sls.mpr hx))),?_,λa ha hf=>w.ds a ?_ ?_⟩
 ·have:=w.nd;rw[K5]at this ⊢;exact(jqm _ p).nodup this
 ·rw[K5]at ha ⊢;exact(jqm _ p).subset ha
 ·rw[Q3]at hf ⊢;exact(jqm _ p).subset hf
theorem Step.sub(s:Step H L H' L')(p:(sls M).Sublist (sls L')):Step H L H' M:=by
 refine⟨s.keep,λa ha=>s.own a ?_,λa ha=>s.frz a ?_⟩
 ·rw[K5]at ha ⊢;exact(jqm _ p).subset ha
 ·rw[Q3]at ha ⊢;exact(jqm _ p).subset ha
end
theorem jx9:∀{L:Ls} {j:Nat},(sls (at' L j::L.set j none)).Perm (sls L)
 | [],j=>by simp[at',sls]
 | q::L,0=>by
  cases q with
  |none=>simp[at',sls]
  |some x=>simp[at',sls]
 | q::L,j+1=>by
  have ih:=jx9 (L:=L) (j:=j);have e:at' (q::L) (j+1)=at' L j:=by simp[at']
  rw[e,List.set_cons_succ];have e2:∀(a b:Option Sl) (M:Ls),(sls (a::b::M)).Perm (sls (b::a::M)):=λa b M=>by
   cases a<;>cases b<;>simp[sls]
   exact List.Perm.swap ..
  refine(e2 _ _ _).trans ?_;cases q with
  |none=>simpa [sls]using ih
  |some y=>simpa [sls]using ih
theorem kzg:∀{R:List Nat} {L:Ls},R.Nodup->(sls (R.map (at' L)++clr R L)).Perm (sls L)
 | [],L,_=>by simp[clr]
 | j::R,L,h=>by
  rw[List.nodup_cons]at h;have e:R.map (at' L)=R.map (at' (L.set j none)):=by
   apply List.map_congr_left;intro i hi;have:j≠i:=λe=>h.1 (e▸hi)
   unfold at';rw[Y7 this]
  rw[List.map_cons,List.cons_append,clr,e];have ih:=kzg (R:=R) (L:=L.set j none) h.2;refine List.Perm.trans ?_ (jx9 (L:=L) (j:=j));cases hq:at' L j with
  |none=>simpa [sls]using ih
  |some x=>simpa [sls]using ih
theorem qvc{α:Type}:∀{R:List Nat} {L:List (Option α)},(clr R L).length=L.length
 |[],_=>rfl
 |j::R,L=>by rw[clr,qvc,Yo]
theorem qvd{α:Type}:∀{R:List Nat} {L:List (Option α)} {j:Nat},j∈R->at' (clr R L) j=none
 | [],_,_,h=>by cases h
 | i :: R,L,j,h=>by
  rw [clr]
  by_cases hR:j∈R
  ·exact qvd hR
  ·have e:j=i:=by simpa [hR]using h
   subst e;have gen:∀{R:List Nat} {M:List (Option α)},j∉R->at' (clr R M) j=at' M j:=by
    intro R
    induction R with
    |nil=>intro M _;rfl
    |cons r R ih=>
     intro M h;rw[Y4,not_or]at h;rw[clr,ih h.2];unfold at';rw[Y7 (Ne.symm h.1)]
   rw[gen hR];unfold at'
   by_cases hl:j<L.length
   ·rw[Ya hl];rfl
   ·rw[List.set_eq_of_length_le (by omega),Yk (by omega)];rfl
theorem kw4:∀{R:List Nat} {B L:Ls},R.Nodup->(∀j∈R,at' L j=none)->(∀j∈R,j<L.length)->B.length=R.length->(sls (back R B L)).Perm (sls (B++L))
 | [],B,L,_,_,_,hl=>by
  have:B=[]:=by simpa using hl
  subst this;simp [back]
 | j :: R,[],L,_,_,_,hl=>by simp at hl
 | j :: R,q::B,L,hn,hz,hr,hl=>by
  rw [List.nodup_cons]at hn;rw [back];have hj:=hr j X6;have ih:=kw4 (R:=R) (B:=B) (L:=L.set j q) hn.2 (λi hi=>by
   have:j≠i:=λe=>hn.1 (e▸hi)
   unfold at';rw [Y7 this];exact hz i (lc9 _ hi)) (λi hi=>by rw[Yo];exact hr i (lc9 _ hi)) (by simpa using hl)
  refine ih.trans ?_;have sp:∀{M:Ls} {i:Nat},at' M i=none->i<M.length->(sls (M.set i q)).Perm (sls (q::M)):=by
   intro M
   induction M with
   | nil=>intro i _ h;simp at h
   | cons r M ihM=>
    intro i h1 h2;cases i with
    | zero=>
     have:r=none:=by simpa [at']using h1
     subst this;cases q<;>simp[sls]
    | succ i=>
     have:=ihM (i:=i) (by simpa [at']using h1) (by simpa using h2);rw[List.set_cons_succ];cases r with
     | none=>cases q<;>simpa [sls]using this
     | some y=>
      cases q with
      |none=>simpa [sls]using this
      |some x=>
       simp only[kxi]at this ⊢;exact(this.cons y).trans (List.Perm.swap ..)
  rw[Q4,List.cons_append];have h1:=sp (hz j X6) hj;have h2:(sls B++sls (L.set j q)).Perm (sls B++sls (q::L)):=h1.append_left _;refine h2.trans ?_;cases q with
  |none=>simp
  |some x=>
   simp only[kxi,Q4];exact List.perm_middle
section
variable {K:PySem.W.Frag}{H H1 H2 H':Hp}{L L1 L' T:Ls}{x y:Sl}
theorem VV(p:L.Perm L'):(j8 L).Perm (j8 L'):=p.flatMap_right _
theorem jx5(p:L.Perm L'):(k8 L).Perm (k8 L'):=p.flatMap_right _
theorem World.perm(w:World K H L)(p:L.Perm L'):World K H L':=
 ⟨λx hx=>w.ok x (p.mem_iff.mpr hx),(VV p).nodup_iff.mp w.nd,λa ha hf=>w.ds a ((VV p).mem_iff.mpr ha) ((jx5 p).mem_iff.mpr hf)⟩
theorem Step.perm(s : Step H L H' L'){M M' : Ls}(p : L.Perm M)(p' : L'.Perm M'): Step H M H' M':=
  ⟨λa ob h hn=>s.keep a ob h λz=>hn ((VV p).mem_iff.mp z),
   λa ha=>(s.own a ((VV p').mem_iff.mpr ha)).imp (λz=>(VV p).mem_iff.mp z) id,
   λa ha=>(s.frz a ((jx5 p').mem_iff.mpr ha)).imp (λz=>(jx5 p).mem_iff.mp z) λz=>z.imp (λz=>(VV p).mem_iff.mp z) id⟩
theorem Step.frm(s:Step H L H' L'):Step H (L++T) H' (L'++T) where
 keep:=λa ob h hn=>s.keep a ob h λz=>hn (by rw[k4];exact ll9 _ z)
 own:=λa ha=>by
  rw[k4]at ha ⊢;rcases List.mem_append.mp ha with z|z
  ·exact(s.own a z).imp (ll9 _) id
  ·exact .inl (lr9 _ z)
 frz:=λa ha=>by
  rw[kX]at ha ⊢;rw[k4];rcases List.mem_append.mp ha with z|z
  ·exact(s.frz a z).imp (ll9 _) λz=>z.imp (ll9 _) id
  ·exact .inl (lr9 _ z)
theorem wq6(w:World K H (T++L))(s:Step H L H' L')(w':World K H' L'):World K H' (T++L')/\Step H (T++L) H' (T++L'):=by
 have w1:World K H (L++T):=w.comm;exact⟨(s.frame w1 w' w1.left).comm,s.frm.perm List.perm_append_comm List.perm_append_comm⟩
end
theorem ex8{α β γ:Type}{P:Prop}{a b c d e:α->β->γ->Prop}(h:∃x y z,a x y z/\b x y z/\c x y z/\d x y z/\e x y z)(f:∀x y z,a x y z->b x y z->c x y z->d x y z->e x y z->P):P:=
 h.elim λx h=>h.elim λy h=>h.elim λz h=>f x y z h.1 h.2.1 h.2.2.1 h.2.2.2.1 h.2.2.2.2
theorem ex7{α β γ:Type}{P:Prop}{a b c d:α->β->γ->Prop}(h:∃x y z,a x y z/\b x y z/\c x y z/\d x y z)(f:∀x y z,a x y z->b x y z->c x y z->d x y z->P):P:=
 h.elim λx h=>h.elim λy h=>h.elim λz h=>f x y z h.1 h.2.1 h.2.2.1 h.2.2.2
theorem qZ{X:Cx}{e:Expr}{t t':TE}(h:PE X e t)(w:∀ σ H Q,t' σ H Q->t σ H Q):PE X e t':=λpins s σ H Q I q=>h pins s σ H Q I (w σ H Q q)
theorem kxq{X:Cx}{e:Expr}{t t':TT}(h:PT X e t)(w:∀ σ H Q,t' σ H Q->t σ H Q):PT X e t':=λpins s σ H Q I q=>h pins s σ H Q I (w σ H Q q)
theorem zY{X:Cx}{e:Stmt}{t t':TS}(h:PS X e t)(w:∀D σ H,t' D σ H->t D σ H):PS X e t':=λpins s σ H D I q=>h pins s σ H D I (w D σ H q)
theorem qko{X:Cx}{e:List Stmt}{t t':TS}(h:PSs X e t)(w:∀D σ H,t' D σ H->t D σ H):PSs X e t':=λpins s σ H D I q=>h pins s σ H D I (w D σ H q)
structure Fx0 where
 K:PySem.W.Frag
 mg:Str->Option Value
 EX:XK
noncomputable def Xc{α:Type}(Z:Fx0)(σ:L2.St)(H:Hp)(L:Ls)(r:Res α):Prop:=∀E' c,r=.exc E' c->∀C L' H',Z.mg c=some (.ref C)->Mt E' σ L'->World Z.K H' L'->Step H L H' L'->Z.EX (.ref C) none H'
theorem Xc.step{α:Type}{Z:Fx0}{σ:L2.St}{H H1:Hp}{L L1:Ls}{r:Res α}(x:Xc Z σ H L r)(s:Step H L H1 L1):Xc Z σ H1 L1 r:=λE' c e C L' H' hm m w s'=>x E' c e C L' H' hm m w (s.trans s')
theorem Xc.map{α β:Type}{Z:Fx0}{σ:L2.St}{H:Hp}{L:Ls}{r:Res α}{E':En}{c:Str}(x:Xc Z σ H L r)(e:r=.exc E' c):Xc Z σ H L (.exc E' c:Res β):=λE1 c1 e1=>by
 injection e1 with h1 h2;subst h1 h2;exact x _ _ e
noncomputable def tQ(Z:Fx0)(q:Bool)(c:Ex):TE:=fun σ H Q=>∃E L r,Mt E σ L/\World Z.K H L/\c E=some r/\Xc Z σ H L r /\
 ∀E' a,r=.ok E' a->∀(x:Sl) L' H',x.o=a.1->x.d=a.2->Mt E' σ L'->World Z.K H' (some x::L')->Step H L H' (some x::L')->(q=true->k9 H H'/\∀b∈x.own,H b=none)->Q x.v H'
def Src(H:Hp)(L:Ls)(as:List Addr):Prop:=∀b∈as,b∈k8 L\/b∈j8 L\/H b=none
theorem Src.back{H H1:Hp}{L L1:Ls}{as:List Addr}(h:Src H1 L1 as)(s:Step H L H1 L1):Src H L as:=λb hb=>by
 rcases h b hb with z|z|z
 ·exact s.frz b z
 ·exact .inr (s.own b z)
 ·by_cases ho:b∈j8 L
  ·exact .inr (.inl ho)
  ·refine .inr (.inr ?_);cases e:H b with
   |none=>rfl
   |some ob=>rw[s.keep b ob e ho]at z;cases z
noncomputable def tV(Z:Fx0)(q:Bool)(c:Ex):TE:=fun σ H Q=>∃E L r,Mt E σ L/\World Z.K H L/\c E=some r/\Xc Z σ H L r /\
 ∀E' a,r=.ok E' a->∀(x:Sl) L' H',x.o=a.1->x.d=a.2->Mt E' σ L'->World Z.K H' L'->x.ok Z.K H'->(∀b∈x.frz,b∉j8 L')->Src H L x.as->Step H L H' L'->(q=true->k9 H H')->Q x.v H'
def QE(X:Cx)(Z:Fx0)(q:Bool)(c:Ex)(e:Expr):Prop:=PE X e (tQ Z q c)
def QV(X:Cx)(Z:Fx0)(q:Bool)(c:Ex)(e:Expr):Prop:=PE X e (tV Z q c)
section
variable {X:Cx}{Z:Fx0}{q qa qb:Bool}{a b c:Ex}{e ea eb:Expr}{pos:Pos}{α:Type}{σ:L2.St}{H:Hp}{L:Ls}{E:En}
theorem wq{β:Type}{m:Option (Res α)}{F:En->α->Option (Res β)}{r:Res β}(h:bnd m F=some r):(∃E1 x,m=some (.ok E1 x)/\F E1 x=some r)\/∃E1 c,m=some (.exc E1 c)/\r=.exc E1 c:=by
 cases m with
 |none=>cases h
 |some q=>
  cases q with
  |ok E1 x=>exact .inl ⟨E1,x,rfl,h⟩
  |exc E1 c=>exact .inr ⟨E1,c,rfl,(oq9 h).symm⟩
theorem vja{F:En->Sd->Option (Res α)}{r:Res α}{G:VK}(m:Mt E σ L)(w:World Z.K H L)(h:bnd (a E) F=some r)(xc:Xc Z σ H L r)
  (k:∀E1 s,F E1 s=some r->∀(x:Sl) L1 H1,x.o=s.1->x.d=s.2->Mt E1 σ L1->World Z.K H1 (some x::L1)->Step H L H1 (some x::L1)->(q=true->k9 H H1/\∀b∈x.own,H b=none)->G x.v H1):tQ Z q a σ H G:=by
 rcases wq h with⟨E1,s,h1,h2⟩|⟨E1,c,h1,h2⟩
 ·exact⟨E,L,_,m,w,h1,(λ_ _ z=>by cases z),λE' s' z x L' H' e1 e2 m' w' st sm=>by
   injection z with z1 z2;subst z1 z2;exact k _ _ h2 x L' H' e1 e2 m' w' st sm⟩
 ·exact⟨E,L,_,m,w,h1,xc.map h2,λE' s' z=>by cases z⟩
theorem vY{F:En->Sd->Option (Res α)}{r:Res α}{G:VK}(m:Mt E σ L)(w:World Z.K H L)(h:bnd (a E) F=some r)(xc:Xc Z σ H L r)
  (k:∀E1 s,F E1 s=some r->∀(x:Sl) L1 H1,x.o=s.1->x.d=s.2->Mt E1 σ L1->World Z.K H1 L1->x.ok Z.K H1->(∀b∈x.frz,b∉j8 L1)->Src H L x.as->Step H L H1 L1->(q=true->k9 H H1)->G x.v H1):tV Z q a σ H G:=by
 rcases wq h with⟨E1,s,h1,h2⟩|⟨E1,c,h1,h2⟩
 ·exact⟨E,L,_,m,w,h1,(λ_ _ z=>by cases z),λE' s' z x L' H' e1 e2 m' w' ok fr sr st sm=>by
   injection z with z1 z2;subst z1 z2;exact k _ _ h2 x L' H' e1 e2 m' w' ok fr sr st sm⟩
 ·exact⟨E,L,_,m,w,h1,xc.map h2,λE' s' z=>by cases z⟩
theorem Vw{x:Sl}{K:PySem.W.Frag}{H1 H2:Hp}{L1 L2':Ls}(ok:x.ok K H1)(fr:∀b∈x.frz,b∉j8 L1)(st:Step H1 L1 H2 L2')(sm:k9 H1 H2):x.ok K H2/\∀b∈x.frz,b∉j8 L2':=
 ⟨RepO.kp ok (Kp.of_same sm),λb hb ho=>(st.own b ho).elim (fr b hb) λz=>ok.some (Sl.frz_as hb) z⟩
theorem zq{x:Option α}{r:Res α}(h:val E x=some r):∃y,x=some y/\r=.ok E y:=by
 cases x with
 |none=>cases h
 |some y=>exact⟨y,rfl,(oq9 h).symm⟩
theorem kkr{x:Sl}{H1:Hp}{L1:Ls}(st:Step H L H1 (some x::L1)):Src H L x.as:=λb hb=>by
 rcases Sl.as_of hb with z|z
 ·exact .inr (st.own b (by rw[kQ];exact ll9 _ z))
 ·exact st.frz b (by rw[vQ];exact ll9 _ z)
theorem j5(h:QE X Z q c e):QV X Z q (vE c) e:=qZ h fun σ H Q b8=>ex8 b8 λE L r m w hc xc k=>
 vja m w hc xc λE1 s h1 x L1 H1 e1 e2 m1 w1 st sm=>by
  cases oq9 h1;exact k _ _ rfl x.let L1 H1 rfl e2 m1 w1.tail (Wj w1.head) (λb hb=>w1.apart b hb) (kkr (x:=x) st) (st.trans Step.drop) λhq=>(sm hq).1
theorem Q9{x:Sl}{H1:Hp}{L1:Ls}(st:Step H L H1 L1)(sr:Src H L x.as)(ho:x.own=[]):Step H L H1 (some x::L1) where
 keep:=st.keep
 own:=λb hb=>by rw[kQ,ho]at hb;exact st.own b hb
 frz:=λb hb=>by
  rw[vQ]at hb;rcases List.mem_append.mp hb with z|z
  ·exact sr b (Sl.frz_as z)
  ·exact st.frz b z
theorem qq1{x:Sl}(h:x.o=.no):x.own=[]:=by unfold Sl.own;rw[h]
theorem ZK{x:Sl}(h:x.o=.no):x.frz=x.as:=by unfold Sl.frz;rw[h]
theorem vjv{x:Sl}(h:x.as=[]):x.own=[]:=List.eq_nil_iff_forall_not_mem.mpr λa ha=>by have:=Sl.own_as ha;rw[h]at this;exact nomatch this
theorem kz(h:QV X Z q c e):QE X Z q (cH c) e:=qZ h fun σ H Q b8=>ex8 b8 λE L r m w hc xc k=>
 vY m w hc xc λE1 s h1 x L1 H1 e1 e2 m1 w1 ok fr sr st sm=>by
  by_cases ho:s.1=.no
  ·rw[Xe ho]at h1;cases oq9 h1;have eo:x.o=.no:=e1.trans ho;exact k _ _ rfl x L1 H1 eo e2 m1 (w1.consNo ok eo λb hb=>fr b (by rw[ZK eo];exact hb)) (Q9 st sr (qq1 eo)) λhq=>⟨sm hq,by rw[qq1 eo];exact λ_ z=>(nomatch z)⟩
  ·rw[Xl ho]at h1
   by_cases hp:s.2.pure=true
   ·rw[Xe hp]at h1;cases oq9 h1;obtain⟨z,rp⟩:=RepL.pu (g':=false) (RepO.wk ok) (by rw[e2];exact hp);exact k _ _ rfl ⟨.dp,x.d,x.v,[]⟩ L1 H1 rfl e2 m1 (w1.consPu rp rfl) (Q9 (x:=⟨.dp,x.d,x.v,[]⟩) st (λb hb=>nomatch hb) rfl) λhq=>⟨sm hq,λ_ z=>(nomatch z)⟩
   ·rw[Xl hp]at h1;cases h1
theorem q_C{d:D}{v:V}(h:PE X e (tC v))(hr:∀H,RepL Z.K H false d v []):QE X Z true (cC d) e:=qZ h fun σ H Q b8=>ex8 b8 λE L r m w hc xc k=>by
 cases oq9 hc;exact k _ _ rfl ⟨.dp,d,v,[]⟩ L H rfl rfl m (w.consPu (hr H) rfl) (Q9 (x:=⟨.dp,d,v,[]⟩) Step.refl (λb hb=>nomatch hb) rfl) λ_=>⟨λ_ _ z=>z,λ_ z=>(nomatch z)⟩
theorem q_V{i:Nat}(h:PE X e (Qj i)):QE X Z true (cV i) e:=qZ h fun σ H Q b8=>ex8 b8 λE L r m w hc xc k=>by
 unfold cV at hc
 split at hc
 ·rename_i o d hE;cases oq9 hc;obtain⟨x,h1,h2,h3,h4⟩:=m.get hE;refine⟨x.v,h4,k _ _ rfl x.let _ H rfl h3 ?_ (w.read h1) (Step.read h1) λ_=>⟨λ_ _ z=>z,λ_ z=>(nomatch z)⟩⟩;have:=m.let h1
  rwa [h3]at this
 ·cases hc
theorem vk2:∀{E:En} {σ:L2.St} {L:Ls} (j:Nat),Mt E σ L->Mt (E.set j none) σ (L.set j none):=by
 intro E σ L j m
 induction m generalizing j with
 |nil=>exact .nil
 |un m ih=>cases j with
  |zero=>exact .un m
  |succ j=>exact .un (ih j)
 |cons m ih=>cases j with
  |zero=>exact .un m
  |succ j=>exact .cons (ih j)
theorem kj5{x:Sl}:∀{L:Ls} {i:Nat},L[i]?=some (some x)->(none::L).Perm (some x::L.set i none)
 |[],_,h=>by simp at h
 |q::L,0,h=>by
  have e:q=some x:=by simpa using h
  subst e;exact List.Perm.swap ..
 |q::L,i+1,h=>by
  have:=kj5 (L:=L) (i:=i) (by simpa using h);rw[List.set_cons_succ];exact(List.Perm.swap ..).trans ((this.cons q).trans (List.Perm.swap ..))
theorem wkv{i:Nat}(h:PE X e (Qj i)):QE X Z false (cMv i) e:=qZ h fun σ H Q b8=>ex8 b8 λE L r m w hc xc k=>by
 unfold cMv at hc
 split at hc
 ·rename_i s hE;cases oq9 hc;obtain⟨o,d⟩:=s;obtain⟨x,h1,h2,h3,h4⟩:=m.get hE;have wn:World Z.K H (none::L):=⟨λy hy=>w.ok y (by simpa using hy),by simpa using w.nd,by simpa using w.ds⟩;have sn:Step H L H (none::L):=⟨λ_ _ z _=>z,λa z=>.inl (by simpa using z),λa z=>.inl (by simpa using z)⟩;exact⟨x.v,h4,k _ _ rfl x _ H h2 h3 (vk2 i m) (wn.perm (kj5 h1)) (sn.trans (Step.refl.perm (List.Perm.refl _) (kj5 h1))) λz=>(nomatch z)⟩
 ·cases hc
theorem q_vV{i:Nat}(h:PE X e (Qj i)):QV X Z true (vV i) e:=qZ h fun σ H Q b8=>ex8 b8 λE L r m w hc xc k=>by
 unfold vV at hc
 split at hc
 ·rename_i s hE;cases oq9 hc;obtain⟨o,d⟩:=s;obtain⟨x,h1,h2,h3,h4⟩:=m.get hE;have hx:=x4 h1;refine⟨x.v,h4,k _ _ rfl x L H h2 h3 m w (w.ok x hx) (λb hb ho=>w.ds b ho (mem_frozen.mpr ⟨x,hx,hb⟩)) (λb hb=>?_) Step.refl λ_=>λ_ _ z=>z⟩;rcases Sl.as_of hb with z|z
  ·exact .inr (.inl (mem_owned.mpr ⟨x,hx,z⟩))
  ·exact .inl (mem_frozen.mpr ⟨x,hx,z⟩)
 ·cases hc
structure Out (K:PySem.W.Frag)(H H':Hp)(z:Sl)(fr:List Addr):Prop where
 same:k9 H H'
 ok:z.ok K H'
 new:∀b∈z.own,H b=none
 nd:z.own.Nodup
 fr:∀b∈z.frz,b∈fr
noncomputable def Ad1(K:PySem.W.Frag)(r:V->Hp->VK->Prop)(f:Sd->Option Sd):Prop:=∀(H:Hp) (x:Sl) (s:Sd) (Q:VK),x.ok K H->f (x.o,x.d)=some s->(∀(z:Sl) H',z.o=s.1->z.d=s.2->Out K H H' z x.frz->Q z.v H')->r x.v H Q
noncomputable def Ad2(K:PySem.W.Frag)(r:R2)(f:Sd->Sd->Option Sd):Prop:=∀(H:Hp) (x y:Sl) (s:Sd) (Q:VK),x.ok K H->y.ok K H->f (x.o,x.d) (y.o,y.d)=some s->(∀(z:Sl) H',z.o=s.1->z.d=s.2->Out K H H' z (x.frz++y.frz)->Q z.v H')->r x.v y.v H Q
theorem jzr{K:PySem.W.Frag}{H H':Hp}{d:D}{v:V}{fr:List Addr}(s:k9 H H')(r:RepL K H' false d v []):Out K H H' ⟨.dp,d,v,[]⟩ fr:=⟨s,r,λ_ h=>(nomatch h),Y8,λ_ h=>(nomatch h)⟩
theorem xQ{H:Hp}:k9 H H:=λ_ _ z=>z
theorem qx{H H1 H2:Hp}(a:k9 H H1)(b:k9 H1 H2):k9 H H2:=λc ob h=>b c ob (a c ob h)
theorem K7{z:Sl}{fr:List Addr}{H1 H2:Hp}{L1:Ls}(w:World Z.K H1 L1)(st:Step H L H1 L1)(o:Out Z.K H1 H2 z fr)(ap:∀b∈fr,b∉j8 L1)(al:∀b∈fr,H1 b≠none)(sr:Src H L fr):
  World Z.K H2 (some z::L1)/\Step H L H2 (some z::L1):=by
 have w2:World Z.K H2 L1:=⟨λx hx=>RepO.kp (w.ok x hx) (Kp.of_same o.same),w.nd,w.ds⟩;refine⟨w2.cons o.ok o.nd (λb hb ho=>w.own_some ho (o.new b hb)) (λb hb hf=>w.frz_some hf (o.new b hb)) (λb hb=>ap b (o.fr b hb)) (λb hb hf=>al b (o.fr b hf) (o.new b hb)),?_⟩;refine⟨λb ob h hn=>o.same b ob (st.keep b ob h hn),λb hb=>?_,λb hb=>?_⟩
 ·rw[kQ]at hb;rcases List.mem_append.mp hb with z|z
  ·by_cases ho:b∈j8 L
   ·exact .inl ho
   ·refine .inr ?_;cases e:H b with
    |none=>rfl
    |some ob=>have:=o.new b z;rw[st.keep b ob e ho]at this;cases this
  ·exact st.own b z
 ·rw[vQ]at hb;rcases List.mem_append.mp hb with z|z
  ·exact sr b (o.fr b z)
  ·exact st.frz b z
theorem V8{as bs:List Addr}(h:Src H L as)(hb:∀b∈bs,b∈as):Src H L bs:=λb z=>h b (hb b z)
theorem qk8{as bs:List Addr}(h:Src H L as)(h':Src H L bs):Src H L (as++bs):=λb z=>(List.mem_append.mp z).elim (h b) (h' b)
theorem J5{H H1:Hp}{b:Addr}(s:k9 H H1)(h:H1 b=none):H b=none:=by
 cases e:H b with
 |none=>rfl
 |some ob=>rw[s b ob e]at h;cases h
theorem Q6{r:V->Hp->VK->Prop}{f:Sd->Option Sd}(ad:Ad1 Z.K r f){Q:VK}(h:tQ Z q (cF1 f a) σ H Q):tUn r (tV Z q a) σ H Q:=by
 obtain⟨E,L,R,m,w,hc,xc,k⟩:=h;refine vY m w hc xc λE1 s h1 x L1 H1 e1 e2 m1 w1 ok fr sr st sm=>?_
 obtain⟨z,hz,rfl⟩:=zq h1;refine ad H1 x z Q ok (by rw[e1,e2];exact hz) λy H' ho hd o=>?_
 obtain⟨w3,st3⟩:=K7 w1 st o fr (λb hb=>ok.some (Sl.frz_as hb)) (V8 sr λb hb=>Sl.frz_as hb);exact k _ _ rfl y L1 H' ho hd m1 w3 st3 λhq=>⟨qx (sm hq) o.same,λb hb=>J5 (sm hq) (o.new b hb)⟩
theorem kqq{r:R2}{f:Sd->Sd->Option Sd}(ad:Ad2 Z.K r f){Q:VK}(h:tQ Z qa (cF2 f a b) σ H Q):tOp r (tV Z qa a) (tV Z true b) σ H Q:=by
 obtain⟨E,L,R,m,w,hc,xc,k⟩:=h;refine vY m w hc xc λE1 s h1 x L1 H1 e1 e2 m1 w1 ok fr sr st sm=>?_
 refine vY m1 w1 h1 (xc.step st) λE2 s2 h2 y L2 H2 e3 e4 m2 w2 jh mv nq st2 fh=>?_
 obtain⟨z,hz,rfl⟩:=zq h2;have kx:=Vw ok fr st2 (fh rfl);refine ad H2 x y z Q kx.1 jh (by rw[e1,e2,e3,e4];exact hz) λy' H' ho hd o=>?_
 obtain⟨w3,st3⟩:=K7 w2 (st.trans st2) o (λb hb=>(List.mem_append.mp hb).elim (kx.2 b) (mv b)) (λb hb=>(List.mem_append.mp hb).elim (λz=>kx.1.some (Sl.frz_as z)) λz=>jh.some (Sl.frz_as z))
  (qk8 (V8 sr λb hb=>Sl.frz_as hb) (V8 (nq.back st) λb hb=>Sl.frz_as hb))
 exact k _ _ rfl y' L2 H' ho hd m2 w3 st3 λhq=>⟨qx (sm hq) (qx (fh rfl) o.same),λb hb=>J5 (qx (sm hq) (fh rfl)) (o.new b hb)⟩
theorem kZ{op:Operator}{r:R2}{f:Sd->Sd->Option Sd}(ho:OpR X (binaryOp op) r)(ad:Ad2 Z.K r f)(ha:QV X Z qa a ea)(hb:QV X Z true b eb):QE X Z qa (cF2 f a b) (.BinOp ea op eb pos):=
 qZ (wje ho ha hb) fun σ H Q h=>kqq ad h
theorem V1{op:CmpOp}{r:R2}{f:Sd->Sd->Option Sd}(ho:OpR X (compareOp op) r)(ad:Ad2 Z.K r f)(ha:QV X Z qa a ea)(hb:QV X Z true b eb)(hm:behindInMarks op eb=false):QE X Z qa (cF2 f a b) (.Compare ea [op] [eb] pos):=
 qZ (vjr ho ha hb hm) fun σ H Q h=>kqq ad h
theorem Z9{op:UnaryOp}{r:V->Hp->VK->Prop}{f:Sd->Option Sd}(ho:UnR X (unaryOp op) r)(ad:Ad1 Z.K r f)(ha:QV X Z q a ea):QE X Z q (cF1 f a) (.UnaryOp op ea pos):=
 qZ (wjc ho ha) fun σ H Q h=>Q6 ad h
theorem RepA.get{K:PySem.W.Frag}{H:Hp}{g:Bool}:∀{ds:List D} {xs:List V} {as:List Addr} {i:Nat} {d:D},RepA K H g ds xs as->ds[i]?=some d->∃v bs,xs[i]?=some v/\RepL K H g d v bs/\∀b∈bs,b∈as
 | [],_,_,_,_,_,e=>by simp at e
 | d::ds,_,_,i,d',h,e=>by
  unfold RepA at h;obtain⟨x,r,bs,cs,rfl,rfl,h1,h2⟩:=h;cases i with
  |zero=>
   have e:d=d':=by simpa using e
   subst e;exact⟨x,bs,by simp,h1,λb hb=>ll9 _ hb⟩
  |succ i=>
   obtain⟨v,i7,e1,e2,e3⟩:=RepA.get (i:=i) h2 (by simpa using e);exact⟨v,i7,by simpa using e1,e2,λb hb=>lr9 _ (e3 b hb)⟩
theorem RepA.len{K:PySem.W.Frag}{H:Hp}{g:Bool}:∀{ds:List D} {xs:List V} {as:List Addr},RepA K H g ds xs as->ds.length=xs.length
 |[],_,_,h=>by unfold RepA at h;rw[h.1];rfl
 |d::ds,_,_,h=>by
  unfold RepA at h;obtain⟨x,r,bs,cs,rfl,rfl,h1,h2⟩:=h;simp[RepA.len h2]
theorem items{K:PySem.W.Frag}{H:Hp}{x:Sl}{ds:List D}(ok:x.ok K H)(h:x.d=.lst ds\/x.d=.tup ds):∃a xs bs,x.v=.ref a/\((x.d=.lst ds/\LsR K H a xs)\/(x.d=.tup ds/\SqT K H a xs))/\RepA K H (x.o != .dp) ds xs bs/\(∀b∈bs,b∈x.as)/\(x.o≠.dp->∀b∈bs,b∈x.frz):=by
 obtain⟨o,d,v,as⟩:=x;dsimp only at h;rcases h with rfl|rfl
 ·cases o with
  |no=>
   have ok:RepL K H true (.lst ds) v as:=ok;unfold RepL at ok;obtain⟨a,xs,bs,rfl,r,q⟩:=ok;rcases q with⟨q,rfl⟩|⟨_,q,rfl⟩
   ·exact⟨a,xs,bs,rfl,.inl ⟨rfl,.inl (.inl q)⟩,r,λb hb=>lc9 _ hb,λ_ b hb=>lc9 _ hb⟩
   ·exact⟨a,xs,as,rfl,.inl ⟨rfl,.of q⟩,r,λb hb=>hb,λ_ b hb=>hb⟩
  |rt=>
   obtain⟨a,xs,bs,rfl,r,q,rfl⟩:=(show RepR K H (.lst ds) v as from ok);exact⟨a,xs,bs,rfl,.inl ⟨rfl,.inl (.inl q)⟩,r,λb hb=>lc9 _ hb,λ_ b hb=>by simpa [Sl.frz]using hb⟩
  |dp=>
   have ok:RepL K H false (.lst ds) v as:=ok;unfold RepL at ok;obtain⟨a,xs,bs,rfl,r,q⟩:=ok;rcases q with⟨q,rfl⟩|⟨z,_⟩
   ·exact⟨a,xs,bs,rfl,.inl ⟨rfl,.inl (.inl q)⟩,r,λb hb=>lc9 _ hb,λz=>absurd rfl z⟩
   ·cases z
 ·cases o with
  |no=>
   have ok:RepL K H true (.tup ds) v as:=ok;unfold RepL at ok;obtain⟨a,xs,rfl,q,r⟩:=ok;exact⟨a,xs,as,rfl,.inr ⟨rfl,q⟩,r,λb hb=>hb,λ_ b hb=>hb⟩
  |rt=>exact(show RepR K H (.tup ds) v as from ok).elim
  |dp=>
   have ok:RepL K H false (.tup ds) v as:=ok;unfold RepL at ok;obtain⟨a,xs,rfl,q,r⟩:=ok;exact⟨a,xs,as,rfl,.inr ⟨rfl,q⟩,r,λb hb=>hb,λz=>absurd rfl z⟩
theorem z4{K:PySem.W.Frag}{H:Hp}{x:Sl}{ds:List D}(ok:x.ok K H)(h:x.d=.lst ds\/x.d=.tup ds)(hl:qK (x.o,x.d)=true):∃a xs bs,x.v=.ref a/\((x.d=.lst ds/\LsR K H a xs)\/(x.d=.tup ds/\SqT K H a xs))/\RepA K H true ds xs bs/\(∀b∈bs,b∈x.frz):=by
 obtain⟨a,xs,bs,e,q,r,h1,h2⟩:=items ok h
 by_cases ho:x.o=.dp
 ·have hp:D.pures ds=true:=by
   unfold qK at hl;rw[show(x.o,x.d).1=Own.dp from ho]at hl;have:wq3 x.d=ds:=by rcases h with h|h<;>rw[h]<;>rfl
   simpa [this]using hl
  obtain⟨rfl,r'⟩:=RepA.pu (g':=true) r hp;exact⟨a,xs,[],e,q,r',λ_ z=>nomatch z⟩
 ·have:(x.o != Own.dp)=true:=by simpa using ho
  rw[this]at r;exact⟨a,xs,bs,e,q,r,h2 ho⟩
end
section
variable {K:PySem.W.Frag}{H:Hp}{x y:Sl}
theorem vk{i:Int}(ok:x.ok K H)(h:x.d=.int i):x.v=.int i:=by
 have:=RepO.wk ok;rw[h]at this;unfold RepL at this;exact this.1
theorem JY{i:Bool}(ok:x.ok K H)(h:x.d=.bl i):x.v=.bl i:=by
 have:=RepO.wk ok;rw[h]at this;unfold RepL at this;exact this.1
theorem qz9(ok:x.ok K H)(h:x.d=.non):x.v=.non:=by
 have:=RepO.wk ok;rw[h]at this;unfold RepL at this;exact this.1
theorem wK{z:Str}(ok:x.ok K H)(h:x.d=.str z):x.v=.str z/\z.length<=sizeLine:=by
 have:=RepO.wk ok;rw[h]at this;unfold RepL at this;exact⟨this.1,this.2.2⟩
theorem zZ{i:Int}{g:Bool}:RepL K H g (.int i) (.int i) []:=by unfold RepL;exact⟨rfl,rfl⟩
theorem v4{i:Bool}{g:Bool}:RepL K H g (.bl i) (.bl i) []:=by unfold RepL;exact⟨rfl,rfl⟩
theorem qkf{g:Bool}:RepL K H g .non .non []:=by unfold RepL;exact⟨rfl,rfl⟩
theorem V5{z:Str}{g:Bool}(h:z.length<=sizeLine):RepL K H g (.str z) (.str z) []:=by unfold RepL;exact⟨rfl,rfl,h⟩
theorem JX{i:Int}{fr:List Addr}:Out K H H ⟨.dp,.int i,.int i,[]⟩ fr:=jzr xQ zZ
theorem x8{i:Bool}{fr:List Addr}:Out K H H ⟨.dp,.bl i,.bl i,[]⟩ fr:=jzr xQ v4
theorem vza{z:Str}{fr:List Addr}(h:z.length<=sizeLine):Out K H H ⟨.dp,.str z,.str z,[]⟩ fr:=jzr xQ (V5 h)
theorem vkx{C:Int->Int->Prop}{g:Int->Int->Int}{f:Int->Int->Option Int}(h:∀i j k,f i j=some k->C i j/\k=g i j):Ad2 K (rI C λi j=>.int (g i j)) (pu2 (i2 f)):=by
 intro H x y s Q ox oy hf k;unfold pu2 i2 at hf;dsimp only at hf
 split at hf
 ·rename_i i j e1 e2;cases hk:f i j with
  |none=>rw[hk]at hf;cases hf
  |some n=>
   rw[hk]at hf;cases oq9 hf;obtain⟨hc,rfl⟩:=h i j n hk;exact⟨i,j,vk ox e1,vk oy e2,hc,k ⟨.dp,.int (g i j),.int (g i j),[]⟩ H rfl rfl JX⟩
 ·cases hf
theorem x5{g:Int->Int->Bool}:Ad2 K (rI0 λi j=>.bl (g i j)) (pu2 (c2 g)):=by
 intro H x y s Q ox oy hf k;unfold pu2 c2 at hf;dsimp only at hf
 split at hf
 ·rename_i i j e1 e2;cases oq9 hf;exact⟨i,j,vk ox e1,vk oy e2,k ⟨.dp,.bl (g i j),.bl (g i j),[]⟩ H rfl rfl x8⟩
 ·cases hf
theorem qV:Ad2 K (rI vz4 λi j=>.int (i / j)) (pu2 kw):=vkx λi j k h=>by
 split at h
 ·rename_i c;exact⟨c,(oq9 h).symm⟩
 ·cases h
theorem vxs:Ad2 K (rI (λ_ j=>0<j) λi j=>.int (i % j)) (pu2 jv):=vkx λi j k h=>by
 split at h
 ·rename_i c;exact⟨c,(oq9 h).symm⟩
 ·cases h
theorem vxr:Ad2 K (rI wqf λi j=>.int (i*2 ^ j.toNat)) (pu2 wjv):=vkx λi j k h=>by
 split at h
 ·rename_i c;exact⟨c,(oq9 h).symm⟩
 ·cases h
end
noncomputable def vv3(K:PySem.W.Frag):R2:=λx y H Q=>∃l b xs zs,x=.ref l/\y=.ref b/\LsR K H l xs/\LsR K H b zs/\xs.length+zs.length<=sizeLine/\∀p,H p=none->Q (.ref p) (upd H p (.lst (xs++zs)))
theorem op_catL{X:Cx}:OpR X (binaryOp .Add) (vv3 X.K):=by
 intro pins s σ H x y v u Q I rx ry h;obtain⟨l,b,xs,zs,rfl,rfl,hH,hB,hz,q⟩:=h;cases rx;cases ry;obtain⟨z,ag,n,r,e⟩:=hH.is I;obtain⟨z2,ij,n2,r2,e2⟩:=hB.is I;have hl:=r.length;have lq:=r2.length;refine PySem.P.add_list e e2 ?_ (by rw[X7,X7];omega);have ea:ag.toArray++ij.toArray=(ag++ij).toArray:=by simp
 rw[ea];exact⟨.ref _,_,I.lnew (t':=s.toks) (r.append r2) (by rw[Xv];omega),rfl,q _ I.fresh⟩
def vv4(K:PySem.W.Frag):R2:=λx y H Q=>∃a b ys,x=.ref a/\y=.ref b/\SqT K H a []/\SqT K H b ys/\Q (.ref b) H
theorem op_catE{X:Cx}:OpR X (binaryOp .Add) (vv4 X.K):=by
 intro pins s σ H x y v u Q I rx ry h;obtain⟨a,b,ys,rfl,rfl,ha,hb,q⟩:=h;cases rx;cases ry;obtain⟨ag,r1,p1,_⟩:=I.tuple ha;obtain⟨ij,r2,p2,_⟩:=I.tuple hb;obtain⟨⟨cls,dd,data,sl⟩,ho,hc,n,hd⟩:=id p1;obtain⟨⟨cls2,dd2,data2,m4⟩,ho2,hc2,n2,fw⟩:=id p2;simp only at hc hd hc2 fw;subst hc hd hc2 fw;have e:ag=[]:=r1.nil_iff.mpr rfl;subst e;exact concat_meets ⟨_,ho,rfl⟩ ⟨_,ho2,rfl⟩ noFill_tuple_add seq_tuple_add PySem.F.slot_tuple_add PySem.F.entry_tuple_add (PySem.F.args_tuple_add_2 _ _)
   (tuple_addW0 a b [].toArray ij.toArray n n2 dd dd2 sl m4 (by simp)) ⟨ho,ho2,⟨.ref b,H,I,rfl,q⟩⟩
noncomputable def vv5(K:PySem.W.Frag):R2:=λx y H Q=>rI0 (λi j=>.int (i+j)) x y H Q\/(∃i j,x=.str i/\y=.str j/\i.length+j.length<=sizeLine/\Q (.str (i++j)) H)\/vv3 K x y H Q\/vv4 K x y H Q\/vv2 K x y H Q
theorem vw9{X:Cx}{K:PySem.W.Frag}(hK:X.K=K):OpR X (binaryOp .Add) (vv5 K):=by subst hK;exact op_add.or (op_add_str.or (op_catL.or (op_catE.or vjy)))
theorem RepA.app{K:PySem.W.Frag}{H:Hp}{g:Bool}{ds':List D}{xs':List V}{i7:List Addr}(h':RepA K H g ds' xs' i7):∀{ds:List D} {xs:List V} {as:List Addr},RepA K H g ds xs as->RepA K H g (ds++ds') (xs++xs') (as++i7)
 |[],_,_,h=>by unfold RepA at h;rw[h.1,h.2];exact h'
 |d::ds,_,_,h=>by
  unfold RepA at h;obtain⟨x,r,bs,cs,rfl,rfl,h1,h2⟩:=h;rw[List.cons_append];unfold RepA;exact⟨x,r++xs',bs,cs++i7,rfl,by rw[Xr],h1,RepA.app h' h2⟩
theorem wY{H:Hp}{p:Addr}{o:HO}(h:H p=none):k9 H (upd H p o):=λb u q=>by rw[kJ (wv q h)];exact q
theorem K0{K:PySem.W.Frag}{H:Hp}{p:Addr}{ds:List D}{xs:List V}{bs fr:List Addr}(hp:H p=none)(r:RepA K H true ds xs bs)(hb:∀b∈bs,b∈fr):Out K H (upd H p (.lst xs)) ⟨.rt,.lst ds,.ref p,p::bs⟩ fr:=by
 refine⟨wY hp,⟨p,xs,bs,rfl,r.kp (Kp.of_same (wY hp)),xJ,rfl⟩,λb hb=>?_,?_,λb dm=>hb b (by simpa [Sl.frz]using dm)⟩
 ·have:b=p:=by simpa [Sl.own]using hb
  rw[this];exact hp
 ·simp[Sl.own]
theorem Zv{K:PySem.W.Frag}{H:Hp}{p:Addr}{ds:List D}{xs:List V}{bs fr:List Addr}(hp:H p=none)(r:RepA K H true ds xs bs)(hb:∀b∈bs,b∈fr):Out K H (upd H p (.tup xs)) ⟨.no,.tup ds,.ref p,bs⟩ fr:=by
 refine⟨wY hp,?_,λb hb=>(nomatch hb),Y8,λb dm=>hb b dm⟩;show RepL K _ true (.tup ds) (.ref p) bs;unfold RepL;exact⟨p,xs,rfl,SqT.of xJ,r.kp (Kp.of_same (wY hp))⟩
theorem vz1{K:PySem.W.Frag}:Ad2 K (vv5 K) jw:=by
 intro H x y s Q ox oy hf k;unfold jw at hf;dsimp only at hf
 split at hf
 ·rename_i i j e1 e2;cases oq9 hf;exact .inl ⟨i,j,vk ox e1,vk oy e2,k ⟨.dp,.int _,.int _,[]⟩ H rfl rfl JX⟩
 ·rename_i i j e1 e2
  split at hf
  ·rename_i hl;cases oq9 hf;have nj:(i++j).length<=sizeLine:=by rw[strLen_append];exact hl
   exact .inr (.inl ⟨i,j,(wK ox e1).1,(wK oy e2).1,hl,k ⟨.dp,.str _,.str _,[]⟩ H rfl rfl (vza nj)⟩)
  ·cases hf
 ·rename_i i j e1 e2
  split at hf
  ·rename_i hl;cases oq9 hf;obtain⟨a,xs,bs,e3,q3,r3,h3⟩:=z4 ox (.inl e1) hl.2.1;obtain⟨b,ys,cs,e4,q4,r4,h4⟩:=z4 oy (.inl e2) hl.2.2;have q3:LsR K H a xs:=by rcases q3 with⟨_,z⟩|⟨z,_⟩;exact z;rw[e1]at z;cases z
   have q4:LsR K H b ys:=by rcases q4 with⟨_,z⟩|⟨z,_⟩;exact z;rw[e2]at z;cases z
   refine .inr (.inr (.inl ⟨a,b,xs,ys,e3,e4,q3,q4,by rw[<-r3.len,<-r4.len];exact hl.1,λp hp=>?_⟩));exact k ⟨.rt,.lst (i++j),.ref p,p::(bs++cs)⟩ _ rfl rfl (K0 hp (r4.app r3) λb hb=>(List.mem_append.mp hb).elim (λz=>ll9 _ (h3 b z)) λz=>lr9 _ (h4 b z))
  ·cases hf
 ·rename_i i j e1 e2
  split at hf
  ·rename_i hl;cases oq9 hf;obtain⟨a,xs,bs,e3,q3,r3,h3⟩:=z4 ox (.inr e1) hl.2.1;obtain⟨b,ys,cs,e4,q4,r4,h4⟩:=z4 oy (.inr e2) hl.2.2;have q3:SqT K H a xs:=by rcases q3 with⟨z,_⟩|⟨_,z⟩;rw[e1]at z;cases z;exact z
   have q4:SqT K H b ys:=by rcases q4 with⟨z,_⟩|⟨_,z⟩;rw[e2]at z;cases z;exact z
   have ap:=r4.app r3;have i9:∀b∈bs++cs,b∈x.frz++y.frz:=λb hb=>(List.mem_append.mp hb).elim (λz=>ll9 _ (h3 b z)) λz=>lr9 _ (h4 b z)
   have same:∀c zs,zs=xs++ys->SqT K H c zs->Q (.ref c) H:=λc zs e hq=>by
    refine k ⟨.no,.tup (i++j),.ref c,bs++cs⟩ H rfl rfl ⟨xQ,?_,λb hb=>(nomatch hb),Y8,i9⟩;show RepL K H true (.tup (i++j)) (.ref c) (bs++cs);unfold RepL;exact⟨c,zs,rfl,hq,by rw[e];exact ap⟩
   by_cases hx:xs=[]
   ·subst hx;exact .inr (.inr (.inr (.inl ⟨a,b,ys,e3,e4,q3,q4,same b ys rfl q4⟩)))
   ·refine .inr (.inr (.inr (.inr ⟨a,b,xs,ys,e3,e4,q3,q4,hx,by rw[<-r3.len,<-r4.len];exact hl.1,λhy=>?_,λhy p hp=>?_⟩)))
    ·exact same a xs (by rw[hy,Y9]) q3
    ·exact k ⟨.no,.tup (i++j),.ref p,bs++cs⟩ _ rfl rfl (Zv hp ap i9)
  ·cases hf
 ·cases hf
noncomputable def tT(Z:Fx0)(q:Bool)(c:Ts):TT:=fun σ H Q=>∃E L r,Mt E σ L/\World Z.K H L/\c E=some r/\Xc Z σ H L r /\
 ∀E' k,r=.ok E' k->∀L' H',Mt E' σ L'->World Z.K H' L'->Step H L H' L'->(q=true->k9 H H')->Q k H'
def QT(X:Cx)(Z:Fx0)(q:Bool)(c:Ts)(e:Expr):Prop:=PT X e (tT Z q c)
def QW(X:Cx)(Z:Fx0)(q:Bool)(c:Ts)(e:Expr):Prop:=PW X e (tT Z q c)
section
variable {X:Cx}{Z:Fx0}{q qa qb:Bool}{a b c:Ex}{u v:Ts}{e ea eb:Expr}{es:List Expr}{pos:Pos}{α β:Type}{σ:L2.St}{H:Hp}{L:Ls}{E:En}
theorem qz1{e:Expr}{t t':TT}(h:PW X e t)(w:∀ σ H Q,t' σ H Q->t σ H Q):PW X e t':=λwh pins s σ H Q I q=>h wh pins s σ H Q I (w σ H Q q)
theorem qzx{F:En->Bool->Option (Res α)}{r:Res α}{G:Bool->Hp->Prop}(m:Mt E σ L)(w:World Z.K H L)(h:bnd (u E) F=some r)(xc:Xc Z σ H L r)
  (k:∀E1 s,F E1 s=some r->∀L1 H1,Mt E1 σ L1->World Z.K H1 L1->Step H L H1 L1->(q=true->k9 H H1)->G s H1):tT Z q u σ H G:=by
 rcases wq h with⟨E1,s,h1,h2⟩|⟨E1,c,h1,h2⟩
 ·exact⟨E,L,_,m,w,h1,(λ_ _ z=>by cases z),λE' s' z L' H' m' w' st sm=>by
   injection z with z1 z2;subst z1 z2;exact k _ _ h2 L' H' m' w' st sm⟩
 ·exact⟨E,L,_,m,w,h1,xc.map h2,λE' s' z=>by cases z⟩
theorem kkz(ha:QT X Z q u ea):QW X Z q u (.BoolOp .And [ea] pos):=vjg ha
theorem Wz(ha:QT X Z q u ea):QW X Z q u (.BoolOp .Or [ea] pos):=vvf ha
theorem kxp(ha:QT X Z q u ea)(hb:QW X Z q v (.BoolOp .And (eb::es) pos)):QW X Z q (Q.tAnd u v) (.BoolOp .And (ea::eb::es) pos):=
 qz1 (vvg ha hb) fun σ H Q b8=>ex8 b8 λE L r m w hc xc k=>qzx m w hc xc λE1 s h1 L1 H1 m1 w1 st sm=>by
  cases s with
  |true=>
   rw[Xe rfl]at h1 ⊢;exact⟨E1,L1,r,m1,w1,h1,xc.step st,λE' k' z L' H' m' w' cz ia=>k E' k' z L' H' m' w' (st.trans cz) λhq=>qx (sm hq) (ia hq)⟩
  |false=>
   rw[Xl (by decide)]at h1 ⊢;cases oq9 h1;exact k _ _ rfl L1 H1 m1 w1 st sm
theorem QX(ha:QT X Z q u ea)(hb:QW X Z q v (.BoolOp .Or (eb::es) pos)):QW X Z q (Q.tOr u v) (.BoolOp .Or (ea::eb::es) pos):=
 qz1 (wj9 ha hb) fun σ H Q b8=>ex8 b8 λE L r m w hc xc k=>qzx m w hc xc λE1 s h1 L1 H1 m1 w1 st sm=>by
  cases s with
  |false=>
   rw[Xl (by decide)]at h1 ⊢;exact⟨E1,L1,r,m1,w1,h1,xc.step st,λE' k' z L' H' m' w' cz ia=>k E' k' z L' H' m' w' (st.trans cz) λhq=>qx (sm hq) (ia hq)⟩
  |true=>
   rw[Xe rfl]at h1 ⊢;cases oq9 h1;exact k _ _ rfl L1 H1 m1 w1 st sm
theorem QW.pt(h:QW X Z q u e):QT X Z q u e:=PW.pt h
theorem wW(ha:QT X Z q u ea):QT X Z q (Q.tNot u) (.UnaryOp .Not ea pos):=
 kxq (vvh ha) fun σ H Q b8=>ex8 b8 λE L r m w hc xc k=>qzx m w hc xc λE1 s h1 L1 H1 m1 w1 st sm=>by
  cases oq9 h1;exact k _ _ rfl L1 H1 m1 w1 st sm
theorem vW{op:CmpOp}{r:R2}{f:Sd->Sd->Option Sd}(ho:OpR X (compareOp op) r)(ad:Ad2 Z.K r f)(ha:QV X Z qa a ea)(hb:QV X Z true b eb)(hm:behindInMarks op eb=false)(hf:∀x y s,f x y=some s->∃k,s.2=.bl k):QT X Z qa (Q.tE (cF2 f a b)) (.Compare ea [op] [eb] pos):=
 kxq (vjj ho ha hb hm) fun σ H Q b8=>ex8 b8 λE L r m w hc xc k=>by
  refine kqq ad ?_;have jr:bnd (cF2 f a b E) (λE x=>val E (truth x.2))=some r:=hc;rcases wq jr with⟨E1,s,h1,h2⟩|⟨E1,c,h1,h2⟩
  ·refine⟨E,L,_,m,w,h1,(λ_ _ z=>by cases z),λE' s' z x L' H' e1 e2 m' w' st sm=>?_⟩;injection z with z1 z2;subst z1 z2;obtain⟨kk,hk⟩:∃k,s.2=.bl k:=by
    unfold cF2 at h1;rcases wq h1 with⟨E2,s2,h3,h4⟩|⟨_,_,_,z⟩
    ·rcases wq h4 with⟨E3,s3,h5,h6⟩|⟨_,_,_,z⟩
     ·obtain⟨y,hy,z⟩:=zq h6;cases z;exact hf _ _ _ hy
     ·cases z
    ·cases z
   rw[hk]at h2;cases oq9 h2;exact⟨kk,JY w'.head (e2.trans hk),k _ _ rfl L' H' m' w'.tail (st.trans Step.drop) λhq=>(sm hq).1⟩
  ·exact⟨E,L,_,m,w,h1,xc.map h2,λE' s' z=>by cases z⟩
end
def Pn(pn:List Nat)(σ σ':L2.St):Prop:=∀p∈pn,σ'[p]?=σ[p]?
theorem Pn.refl{pn:List Nat}{σ:L2.St}:Pn pn σ σ:=λ_ _=>rfl
theorem Pn.trans{pn:List Nat}{σ σ1 σ2:L2.St}(a:Pn pn σ σ1)(b:Pn pn σ1 σ2):Pn pn σ σ2:=λp hp=>(b p hp).trans (a p hp)
theorem Pn.set{pn:List Nat}{σ σ1:L2.St}{i:Nat}{y:Option V}(a:Pn pn σ σ1)(h:i∉pn):Pn pn σ (σ1.set i y):=λp hp=>by
 have:i≠p:=λe=>h (e▸hp)
 rw[Y7 this];exact a p hp
noncomputable def FlP(Z:Fx0)(pn:List Nat)(D:Ends)(σ:L2.St)(H:Hp)(L:Ls):Fl->Prop
 |.nx E'=>∀ σ' L' H',Pn pn σ σ'->Mt E' σ' L'->World Z.K H' L'->Step H L H' L'->D.nx σ' H'
 |.ct E'=>∀ σ' L' H',Pn pn σ σ'->Mt E' σ' L'->World Z.K H' L'->Step H L H' L'->D.ct σ' H'
 |.bk E'=>∀ σ' L' H',Pn pn σ σ'->Mt E' σ' L'->World Z.K H' L'->Step H L H' L'->D.bk σ' H'
 |.rt E' a=>∀(x:Sl) σ' L' H',x.o=a.1->x.d=a.2->Pn pn σ σ'->Mt E' σ' L'->World Z.K H' (some x::L')->Step H L H' (some x::L')->D.rt x.v H'
 |.xc E' c=>∀C σ' L' H',Z.mg c=some (.ref C)->Pn pn σ σ'->Mt E' σ' L'->World Z.K H' L'->Step H L H' L'->Z.EX (.ref C) none H'
theorem FlP.step{Z:Fx0}{pn:List Nat}{D:Ends}{σ σ1:L2.St}{H H1:Hp}{L L1:Ls}{r:Fl}(k:FlP Z pn D σ H L r)(s:Step H L H1 L1)(p:Pn pn σ σ1):FlP Z pn D σ1 H1 L1 r:=by
 cases r with
 |nx E'=>exact fun σ' L' H' p' m w s'=>k σ' L' H' (p.trans p') m w (s.trans s')
 |ct E'=>exact fun σ' L' H' p' m w s'=>k σ' L' H' (p.trans p') m w (s.trans s')
 |bk E'=>exact fun σ' L' H' p' m w s'=>k σ' L' H' (p.trans p') m w (s.trans s')
 |rt E' a=>exact λx σ' L' H' e1 e2 p' m w s'=>k x σ' L' H' e1 e2 (p.trans p') m w (s.trans s')
 |xc E' c=>exact λC σ' L' H' hm p' m w s'=>k C σ' L' H' hm (p.trans p') m w (s.trans s')
theorem FlP.xc{α:Type}{Z:Fx0}{pn:List Nat}{D:Ends}{σ:L2.St}{H:Hp}{L:Ls}{E':En}{c:Str}(k:FlP Z pn D σ H L (.xc E' c)):Xc Z σ H L (.exc E' c:Res α):=λE1 c1 e C L' H' hm m w s=>by
 injection e with h1 h2;subst h1 h2;exact k C σ L' H' hm Pn.refl m w s
def tS(Z:Fx0)(pn:List Nat)(c:Sm):TS:=λD σ H=>∃E L r,Mt E σ L/\World Z.K H L/\c E=some r/\FlP Z pn D σ H L r
def QS(X:Cx)(Z:Fx0)(pn:List Nat)(c:Sm)(st:Stmt):Prop:=PS X st (tS Z pn c)
def QSs(X:Cx)(Z:Fx0)(pn:List Nat)(c:Sm)(st:List Stmt):Prop:=PSs X st (tS Z pn c)
section
variable {X:Cx}{Z:Fx0}{pn:List Nat}{q qa qb:Bool}{a b c:Ex}{u v:Ts}{A B:Sm}{e ea eb:Expr}{st:Stmt}{ss tt:List Stmt}{pos:Pos}{α:Type}{σ:L2.St}{H:Hp}{L:Ls}{E:En}{D:Ends}
theorem Vq{m:Option (Res α)}{F:En->α->Option Fl}{r:Fl}(h:ofE m F=some r):(∃E1 x,m=some (.ok E1 x)/\F E1 x=some r)\/∃E1 c,m=some (.exc E1 c)/\r=.xc E1 c:=by
 cases m with
 |none=>cases h
 |some q=>
  cases q with
  |ok E1 x=>exact .inl ⟨E1,x,rfl,h⟩
  |exc E1 c=>exact .inr ⟨E1,c,rfl,(oq9 h).symm⟩
theorem VY{F:En->Sd->Option Fl}{r:Fl}{G:VK}(m:Mt E σ L)(w:World Z.K H L)(h:ofE (a E) F=some r)(k:FlP Z pn D σ H L r)
  (g:∀E1 s,F E1 s=some r->∀(x:Sl) L1 H1,x.o=s.1->x.d=s.2->Mt E1 σ L1->World Z.K H1 (some x::L1)->Step H L H1 (some x::L1)->(q=true->k9 H H1/\∀b∈x.own,H b=none)->G x.v H1):tQ Z q a σ H G:=by
 rcases Vq h with⟨E1,s,h1,h2⟩|⟨E1,c,h1,rfl⟩
 ·exact⟨E,L,_,m,w,h1,(λ_ _ z=>by cases z),λE' s' z x L' H' e1 e2 m' w' st sm=>by
   injection z with z1 z2;subst z1 z2;exact g _ _ h2 x L' H' e1 e2 m' w' st sm⟩
 ·exact⟨E,L,_,m,w,h1,k.xc,λE' s' z=>by cases z⟩
theorem vqo{F:En->Bool->Option Fl}{r:Fl}{G:Bool->Hp->Prop}(m:Mt E σ L)(w:World Z.K H L)(h:ofE (u E) F=some r)(k:FlP Z pn D σ H L r)
  (g:∀E1 s,F E1 s=some r->∀L1 H1,Mt E1 σ L1->World Z.K H1 L1->Step H L H1 L1->G s H1):tT Z q u σ H G:=by
 rcases Vq h with⟨E1,s,h1,h2⟩|⟨E1,c,h1,rfl⟩
 ·exact⟨E,L,_,m,w,h1,(λ_ _ z=>by cases z),λE' s' z L' H' m' w' st sm=>by
   injection z with z1 z2;subst z1 z2;exact g _ _ h2 L' H' m' w' st⟩
 ·exact⟨E,L,_,m,w,h1,k.xc,λE' s' z=>by cases z⟩
theorem v8:QSs X Z pn qQ []:=qko vjl λD σ H b8=>ex7 b8 λE L r m w hc k=>by
 cases oq9 hc;exact k σ L H Pn.refl m w Step.refl
theorem jq(h1:QS X Z pn A st)(h2:QSs X Z pn B ss):QSs X Z pn (j7 A B) (st::ss):=qko (qwp h1 h2) λD σ H b8=>ex7 b8 λE L r m w hc k=>by
 unfold j7 at hc;cases ha:A E with
 |none=>rw[ha]at hc;cases hc
 |some f=>
  rw[ha]at hc;cases f with
  |nx E1=>exact⟨E,L,_,m,w,ha,fun σ' L' H' p m' w' s=>⟨E1,L',r,m',w',hc,k.step s p⟩⟩
  |ct E1=>cases oq9 hc;exact⟨E,L,_,m,w,ha,k⟩
  |bk E1=>cases oq9 hc;exact⟨E,L,_,m,w,ha,k⟩
  |rt E1 x=>cases oq9 hc;exact⟨E,L,_,m,w,ha,k⟩
  |xc E1 x=>cases oq9 hc;exact⟨E,L,_,m,w,ha,k⟩
theorem jX(h1:QS X Z pn A st):QSs X Z pn A [st]:=vjk h1
theorem k6(h:QE X Z q a ea):QS X Z pn (jK a) (.Return (some ea) pos):=zY (vvj h) λD σ H b8=>ex7 b8 λE L r m w hc k=>
 VY m w hc k λE1 s h1 x L1 H1 e1 e2 m1 w1 st _=>by
  cases oq9 h1;exact k x σ L1 H1 e1 e2 Pn.refl m1 w1 st
theorem v7(hc:QT X Z q u e)(ha:QSs X Z pn A ss)(hb:QSs X Z pn B tt):QS X Z pn (sIf u A B) (.If e ss tt pos):=zY (wja hc ha hb) λD σ H b8=>ex7 b8 λE L r m w hc k=>
 vqo m w hc k λE1 s h1 L1 H1 m1 w1 st=>by
  cases s with
  |true=>rw[Xe rfl]at h1 ⊢;exact⟨E1,L1,r,m1,w1,h1,k.step st Pn.refl⟩
  |false=>rw[Xl (by decide)]at h1 ⊢;exact⟨E1,L1,r,m1,w1,h1,k.step st Pn.refl⟩
theorem kxx{x:Sl}{i:Nat}{s:Sd}(m:Mt E σ L)(e1:x.o=s.1)(e2:x.d=s.2):Mt (E.set i (some s)) (σ.set i (some x.v)) (L.set i (some x)):=by
 have:=m.set (x:=x) i;rw[e1,e2]at this;exact this
theorem wj7{i:Nat}{y:Str}{d4:Pos}(hN:X.N.Nodup)(hi:X.N[i]?=some y)(hx:Loc X.env.scope y)(h:QE X Z q a ea)(hp:autoParam (i∉pn) ŕ)(hs:autoParam (swapsWith ea (some (.Name y d4)) pos.line X.env=pure false) Ŕ)(hf:autoParam (X.fn y=true\/X.env.scope.names.lookup y=some .local) Ř):
  QS X Z pn (jk i a) (.Assign [.Name y d4] ea pos):=zY (vvi hN hi hx h hs hf) λD σ H b8=>ex7 b8 λE L r m w hc k=>
 VY m w hc k λE1 s h1 x L1 H1 e1 e2 m1 w1 st _=>by
  cases oq9 h1;exact k (σ.set i (some x.v)) (L1.set i (some x)) H1 (Pn.refl.set hp) (kxx m1 e1 e2) w1.set (st.trans Step.set)
end
structure Walks (K:PySem.W.Frag)(J:It)(T:List Sl)(ds:List D):Prop where
 no:∀t∈T,t.o=.no
 go:∀i H,(∀t∈T,t.ok K H)->i<ds.length->J.go i H
 stop:∀H,(∀t∈T,t.ok K H)->J.stop ds.length H
 yld:∀i H v H' d,(∀t∈T,t.ok K H)->J.yld i H v H'->ds[i]?=some d->∃z:Sl,z.o=.no/\z.d=d/\z.v=v/\k9 H H'/\z.ok K H'/\∀b∈z.as,∃t∈T,b∈t.as
noncomputable def tI(Z:Fx0)(q:Bool)(it:Ev (List D)):TI:=fun σ H R=>∃E L r,Mt E σ L/\World Z.K H L/\it E=some r/\Xc Z σ H L r /\
 ∀E' ds,r=.ok E' ds->∀J T L' H',Mt E' σ L'->World Z.K H' (L'++T.map some)->Step H L H' (L'++T.map some)->ds.length<=sizeLine->(q=true->k9 H H')->Walks Z.K J T ds->R J H'
def QI(X:Cx)(Z:Fx0)(q:Bool)(tg:Expr)(it:Ev (List D))(e:Expr):Prop:=PI X tg e (tI Z q it)
def wkg(K:PySem.W.Frag)(H0:Hp)(T:List Sl)(H:Hp):Prop:=(∀t∈T,t.ok K H)/\∀t∈T,Kp H0 H t.as
structure WalksD (K:PySem.W.Frag)(H0:Hp)(J:It)(T:List Sl)(ds:List D):Prop where
 no:∀t∈T,t.o=.no
 go:∀i H,wkg K H0 T H->i<ds.length->J.go i H
 stop:∀H,wkg K H0 T H->J.stop ds.length H
 yld:∀i H v H' d,wkg K H0 T H->J.yld i H v H'->ds[i]?=some d->∃z:Sl,z.o=.no/\z.d=d/\z.v=v/\k9 H H'/\z.ok K H'/\∀b∈z.as,∃t∈T,b∈t.as
theorem Walks.D{K:PySem.W.Frag}{H0:Hp}{J:It}{T:List Sl}{ds:List D}(h:Walks K J T ds):WalksD K H0 J T ds:=⟨h.no,λi H o=>h.go i H o.1,λH o=>h.stop H o.1,λi H v H' d o=>h.yld i H v H' d o.1⟩
noncomputable def tID(Z:Fx0)(q:Bool)(it:Ev (List D)):TI:=fun σ H R=>∃E L r,Mt E σ L/\World Z.K H L/\it E=some r/\Xc Z σ H L r /\
 ∀E' ds,r=.ok E' ds->∀J T L' H',Mt E' σ L'->World Z.K H' (L'++T.map some)->Step H L H' (L'++T.map some)->ds.length<=sizeLine->(q=true->k9 H H')->WalksD Z.K H' J T ds->R J H'
def QID(X:Cx)(Z:Fx0)(q:Bool)(tg:Expr)(it:Ev (List D))(e:Expr):Prop:=PI X tg e (tID Z q it)
theorem QI.D{X:Cx}{Z:Fx0}{q:Bool}{tg:Expr}{it:Ev (List D)}{e:Expr}(h:QI X Z q tg it e):QID X Z q tg it e:=λpins s σ H R I hz=>h pins s σ H R I (by
 obtain⟨E,L,r,m,w,e,x,k⟩:=hz;exact⟨E,L,r,m,w,e,x,λE' ds z J T L' H' m' w' st hl sm wk=>k E' ds z J T L' H' m' w' st hl sm wk.D⟩)
structure WalksS (K:PySem.W.Frag)(q:Bool)(H0:Hp)(J:It)(T:List Sl)(ds:List D):Prop where
 no:∀t∈T,t.o=.no
 go:∀i H,(∀t∈T,t.ok K H)->(q=true->k9 H0 H)->i<ds.length->J.go i H
 stop:∀H,(∀t∈T,t.ok K H)->(q=true->k9 H0 H)->J.stop ds.length H
 yld:∀i H v H' d,(∀t∈T,t.ok K H)->(q=true->k9 H0 H)->J.yld i H v H'->ds[i]?=some d->∃z:Sl,z.o=.no/\z.d=d/\z.v=v/\k9 H H'/\z.ok K H'/\∀b∈z.as,∃t∈T,b∈t.as
theorem qzu{K:PySem.W.Frag}{q:Bool}{H0:Hp}{J:It}{T:List Sl}{ds:List D}(h:Walks K J T ds):WalksS K q H0 J T ds:=⟨h.no,λi H o _=>h.go i H o,λH o _=>h.stop H o,λi H v H' d o _=>h.yld i H v H' d o⟩
noncomputable def tIS(Z:Fx0)(q:Bool)(it:Ev (List D)):TI:=fun σ H R=>∃E L r,Mt E σ L/\World Z.K H L/\it E=some r/\Xc Z σ H L r /\
 ∀E' ds,r=.ok E' ds->∀J T L' H',Mt E' σ L'->World Z.K H' (L'++T.map some)->Step H L H' (L'++T.map some)->ds.length<=sizeLine->(q=true->k9 H H')->WalksS Z.K q H J T ds->R J H'
def QIS(X:Cx)(Z:Fx0)(q:Bool)(tg:Expr)(it:Ev (List D))(e:Expr):Prop:=PI X tg e (tIS Z q it)
theorem qi_S{X:Cx}{Z:Fx0}{q:Bool}{tg:Expr}{it:Ev (List D)}{e:Expr}(h:QI X Z q tg it e):QIS X Z q tg it e:=λpins s σ H R I hz=>h pins s σ H R I (by
 obtain⟨E,L,r,m,w,e,x,k⟩:=hz;exact⟨E,L,r,m,w,e,x,λE' ds z J T L' H' m' w' st hl sm wk=>k E' ds z J T L' H' m' w' st hl sm (qzu wk)⟩)
noncomputable def tG(Z:Fx0)(pn:List Nat)(tg:Tg):TG:=λv σ H Q=>∃(E:En) (L:Ls) (z:Sl) (E':En),Mt E σ L/\World Z.K H (some z::L)/\z.o=.no/\z.v=v/\tg.put z.d E=some E' /\
 ∀ σ' L',Pn pn σ σ'->Mt E' σ' L'->World Z.K H L'->Step H (some z::L) H L'->Q σ' H
def QG(X:Cx)(Z:Fx0)(pn:List Nat)(tg:Tg)(e:Expr):Prop:=PG X e (tG Z pn tg)
section
variable {X:Cx}{Z:Fx0}{pn:List Nat}{e:Expr}{σ:L2.St}{H:Hp}{L:Ls}{E:En}
theorem qz4{t t':TG}(h:PG X e t)(w:∀v σ H Q,t' v σ H Q->t v σ H Q):PG X e t':=λpins s σ H x v Q I r q=>h pins s σ H x v Q I r (w x σ H Q q)
theorem wkw{i:Nat}(h:PG X e (WJ i))(hp:autoParam (i∉pn) ŕ):QG X Z pn (.n i) e:=qz4 h λv σ H Q ⟨E,L,z,E',m,w,ho,hv,cf,k⟩=>by
 cases oq9 cf;rw[<-hv];exact k (σ.set i (some z.v)) (L.set i (some z)) (Pn.refl.set hp) (kxx m ho rfl) w.set Step.set
def gNs:List Nat->TGs
 |[]=>wq7
 |i::is=>vx7 (WJ i) (gNs is)
theorem qqw{Q:L2.St->Hp->Prop}{M:Ls}{σ0:L2.St}:∀{is:List Nat} {ds:List D} {xs:List V} {bs:List Addr} {E:En} {L:Ls} {σ:L2.St} {E':En},Mt E σ L->World Z.K H L->RepA Z.K H true ds xs bs->(∀b∈bs,b∉j8 L)->(∀b∈bs,b∈k8 M)->Step H M H L->Pn pn σ0 σ ->
  setAll is ds E=some E'->(∀i∈is,i∉pn)->(∀ σ' L',Pn pn σ0 σ'->Mt E' σ' L'->World Z.K H L'->Step H M H L'->Q σ' H)->gNs is xs σ H Q
 | [],[],xs,bs,E,L,σ,E',m,w,r,_,_,st,p,e,_,k=>by
  cases oq9 e;unfold RepA at r;exact⟨r.1,k σ L p m w st⟩
 | [],_::_,_,_,_,_,_,_,_,_,_,_,_,_,_,e,_,_=>by cases e
 | _::_,[],_,_,_,_,_,_,_,_,_,_,_,_,_,e,_,_=>by cases e
 | i::is,d::ds,xs,bs,E,L,σ,E',m,w,r,hb,hf,st,p,e,hi,k=>by
  unfold RepA at r;obtain⟨x,rr,cs,es,rfl,rfl,h1,h2⟩:=r;have w1:World Z.K H (some ⟨.no,d,x,cs⟩::L):=w.consNo (x:=⟨.no,d,x,cs⟩) h1 rfl λb dm=>hb b (ll9 _ dm)
  have s1:Step H M H (L.set i (some ⟨.no,d,x,cs⟩)):=by
   refine⟨λ_ _ h _=>h,λa ha=>?_,λa ha=>?_⟩
   ·rcases Vz ha with z|z
    ·exact nomatch z
    ·exact st.own a z
   ·rcases Z5 ha with z|z
    ·exact .inl (hf a (ll9 _ z))
    ·exact st.frz a z
  exact⟨x,rr,rfl,qqw (is:=is) (kxx (x:=⟨.no,d,x,cs⟩) (s:=(.no,d)) m rfl rfl) w1.set h2 (λb dm ho=>by
   rcases Vz ho with z|z
   ·exact nomatch z
   ·exact hb b (lr9 _ dm) z) (λb dm=>hf b (lr9 _ dm)) s1 (p.set (hi i X6)) e (λj hj=>hi j (lc9 _ hj)) k⟩
theorem kkb:∀{is:List Nat} {ds:List D} {E E':En},setAll is ds E=some E'->is.length=ds.length
 |[],[],_,_,_=>rfl
 |[],_::_,_,_,e=>by cases e
 |_::_,[],_,_,e=>by cases e
 |i::is,d::ds,E,E',e=>by rw[Xp,Xp,kkb (E:=E.set i (some (.no,d))) e]
noncomputable def wjs(K:PySem.W.Frag)(n:Nat)(t:TGs):TG:=λv σ H Q=>∃a xs,v=.ref a/\(SqT K H a xs\/SqL K H a xs)/\xs.length=n/\t xs σ H Q
section
variable {prog:Program}{w:PySem.World}{A:Around}{E':Value->Shared->Prop}
theorem kvx{it t:Addr}{items:Array Value}(ef:t≠it):∀(n i:Nat) (s:Shared) (Q:List Value->Shared->Prop),s.heap.IsListIter it t i->s.heap.IsList t items->i+n<=items.size ->
  (∀h',h'.IsListIter it t (i+n)->Heap.SameBut it s.heap h'->Q ((items.toList.drop i).take n) { s with heap:=h' })->wpAny (model prog w) A (draw (.ref it) n) Q E' s
 | 0,i,s,Q,gz,_,_,hQ=>by
  show wpAny _ _ (pure []) Q E' s;exact X3 (by simpa using hQ s.heap gz (Heap.SameBut.refl ..))
 | n+1,i,s,Q,gz,ht,gc,hQ=>by
  have db:i<items.size:=by omega
  show wpAny _ _ (pyNext (.ref it) >>= _) Q E' s;refine X0 (wpAny_pyNext_list_item gz ht (x:=items[i]) (by simp[db]) λh₁ ka o6=>?_);have ht₁:h₁.IsList t items:=by
   obtain⟨o,ho,r⟩:=ht;exact⟨o,(o6.2 t ef).trans ho,r⟩
  refine X0 (Y1 (kvx ef n (i+1) _ _ ka ht₁ (by omega) λh₂ hit₂ hs₂=>X3 ?_));have hd:items.toList.drop i=items[i]::items.toList.drop (i+1):=by simp[List.drop_eq_getElem_cons,db]
  have:=hQ h₂ (by rw[show i+(n+1)=i+1+n by omega];exact hit₂) (o6.trans hs₂);rw[hd,List.take_succ_cons]at this;exact this
theorem jzc{s:Shared}{t:Addr}{items:Array Value}{Q:List Value->Shared->Prop}(hh:A.handled=none)(ht:s.heap.IsList t items)
  (hQ:∀h',Heap.ExtBut s.heap.objs.size s.heap h'->Q items.toList { s with heap:=h' }):wpAny (model prog w) A (unpackItems (.ref t) items.size none) Q E' s:=by
 have db:t≠s.heap.objs.size:=by obtain⟨o,ho,_⟩:=ht;exact Xn (Xb ho)
 unfold unpackItems;refine X0 ?_;unfold notIterableAtAll;refine X0 (wpAny_specialOf ht.typeIs slot_list_iter.lookup ?_);refine X3 ?_;simp only[Bool.false_eq_true,if_false];refine X0 (Y1 (wpAny_pyIter_list ht ?_));have ht0:∀o:Obj,(s.heap.push o).IsList t items:=λo=>by
  obtain⟨ob,ho,r⟩:=ht;exact⟨ob,X2 _ ho,r⟩
 refine X0 (Y1 (kvx db items.size 0 _ _ ⟨_,Xd _ rfl,rfl,rfl⟩ (ht0 _) (by omega) λh₁ ka o6=>?_));have kf:List.take items.size (List.drop 0 items.toList)=items.toList:=by
  rw[List.drop_zero];exact List.take_of_length_le (by simp)
 rw[kf];rw[Xl (by simp)];have ht₁:h₁.IsList t items:=by
  obtain⟨o,ho,r⟩:=ht0 _;exact⟨o,(o6.2 t db).trans ho,r⟩
 refine X0 (Y1 (wpAny_pyNext_list_end hh ka ht₁ (by simp) λh₂ he₂=>?_));simp only[Option.isSome_none,Bool.false_eq_true,if_false];exact X3 (hQ h₂ λb o hb e=>he₂ b o hb (o6.extBut b o hb (X2 _ e)))
theorem jz6{s:Shared}{env:Env}{i3:List Expr}{x1}{pos:Pos}{t:Addr}{items:Array Value}{Q:Unit->Shared->Prop}(hh:A.handled=none)(ht:s.heap.IsList t items)
  (hn:(assignEach i3 env).length=items.size) (mx:(assignEach i3 env).findIdx? (·.1)=none)
  (h:∀h',Heap.ExtBut s.heap.objs.size s.heap h'->wpAny (model prog w) A (assignInOrder ((assignEach i3 env).map (·.2)) items.toList) Q E' { s with heap:=h' }):
  wpAny (model prog w) A (assign (.Tuple i3 x1 pos) env (.ref t)) Q E' s:=by
 rw[assign_Tuple];refine X0 (wpAny_standAt ?_);unfold unpack;rw[hn,mx];exact X0 (Y1 (jzc hh ht h))
end
theorem qku(K:PySem.W.Frag){es:List Expr}{k:Nat}{t:TGs}{n:Nat}{pos:Pos}(h:PGs X es t)(hc:autoParam (X.calm=true) Ŕ)(hK:autoParam (X.K=K) Ŕ)
  (hn:autoParam ((assignEach es X.env).length=n) Ŕ) (ce:autoParam ((assignEach es X.env).findIdx? (·.1)=none) Ŕ):PG X (.Tuple es k pos) (wjs K n t):=by
 subst hK;intro pins s σ H v u Q I r hw;obtain⟨a,xs,e1,hq,hl,hw⟩:=hw;subst e1;cases r;rcases hq with hq|hq
 ·obtain⟨ag,rv,ht,hz⟩:=I.tuple hq;refine assign_Tuple_tuple (I.ok.hd hc) ht (by simp[hn,<-hl,rv.length]) ce λh' hx=>?_
  have I1:L2.Inv X pins σ H { s with heap:=h' }:=I.kept (t':=s.toks) λb o e=>hx b o (Xn (Xb e)) e
  exact h pins _ σ H xs _ Q I1 (by simpa using rv) hw
 ·obtain⟨ag,rv,ht,hz⟩:=I.list hq;refine jz6 (I.ok.hd hc) ht.isList (by simp[hn,<-hl,rv.length]) ce λh' hx=>?_
  have I1:L2.Inv X pins σ H { s with heap:=h' }:=I.kept (t':=s.toks) λb o e=>hx b o (Xn (Xb e)) e
  exact h pins _ σ H xs _ Q I1 (by simpa using rv) hw
theorem wj5{is:List Nat}(h:PG X e (wjs Z.K is.length (gNs is)))(hp:autoParam (∀i∈is,i∉pn) ŕ):QG X Z pn (.t is) e:=qz4 h λv σ H Q ⟨E,L,z,E',m,w,ho,hv,cf,k⟩=>by
 have fin:∀ds:List D,(z.d=.lst ds\/z.d=.tup ds)->setAll is ds E=some E'->wjs Z.K is.length (gNs is) v σ H Q:=λds hd cf=>by
  obtain⟨a,xs,bs,e1,q1,r,h1,h2⟩:=items w.head hd;rw[ho]at r;refine⟨a,xs,hv.symm.trans e1,?_,by rw[kkb cf,r.len],qqw (M:=some z::L) m w.tail r (λb hb=>w.apart b (h1 b hb)) (λb hb=>?_) Step.drop Pn.refl cf hp k⟩
  ·rcases q1 with⟨_,z'⟩|⟨_,z'⟩
   ·exact .inr z'.sq
   ·exact .inl z'
  ·rw[vQ,ZK ho];exact ll9 _ (h1 b hb)
 cases hd:z.d with
 |tup ds=>rw[hd]at cf;exact fin ds (.inr hd) cf
 |lst ds=>rw[hd]at cf;exact fin ds (.inl hd) cf
 |_=>rw[hd]at cf;cases cf
theorem qkn{is:List Nat}{q:Bool}{c:Ex}{ea tg:Expr}{pos:Pos}(h:QE X Z q c ea)(hg:QG X Z pn (.t is) tg)(hs:autoParam (swapsWithSole [tg] ea pos.line X.env=pure false) Ŕ)(hw:autoParam (swappedStores [tg] ea X.env=pure none) Ŕ)(h1:autoParam ((assignEach [tg] X.env).map (·.2)=[assign tg X.env]) Ŕ):
  QS X Z pn (Qv is c) (.Assign [tg] ea pos):=zY (qz3 h hg hs hw h1) λD σ H b8=>ex7 b8 λE L r m w hc k=>
 VY m w (show ofE (c E) _=some r from hc) k λE1 s h1 x L1 H1 e1 e2 m1 w1 st _=>by
  cases hp:Tg.put (.t is) s.2 E1 with
  |none=>rw[hp]at h1;cases h1
  |some E2=>
   rw[hp]at h1;cases oq9 h1;have w2:World Z.K H1 (some x.let::L1):=w1.tail.consNo (Wj w1.head) rfl λb hb=>w1.apart b hb
   have s2:Step H L H1 (some x.let::L1):=Q9 (x:=x.let) (st.trans Step.drop) (kkr (x:=x) st) rfl;exact⟨E1,L1,x.let,E2,m1,w2,rfl,rfl,by rw[show x.let.d=s.2 from e2];exact hp,fun σ' L' p m' w' s'=>k σ' L' H1 p m' w' (s2.trans s')⟩
end
section
variable {X:Cx}{Z:Fx0}{pn:List Nat}{q:Bool}{tg ba:Expr}{it:Ev (List D)}{t:Tg}{B:Sm}{ss:List Stmt}{pos:Pos}{σ:L2.St}{H:Hp}{L:Ls}{E:En}
theorem kkh{K:PySem.W.Frag}{T:List Sl}{H1 H2:Hp}{L1:Ls}{z:Sl}(w:World K H1 (L1++T.map some))(hT:∀t∈T,t.o=.no)(sm:k9 H1 H2)(ok:z.ok K H2)(ho:z.o=.no)(hz:∀b∈z.as,∃t∈T,b∈t.as):
  World K H2 ((some z::L1)++T.map some)/\Step H1 (L1++T.map some) H2 ((some z::L1)++T.map some):=by
 have w2:World K H2 (L1++T.map some):=⟨λx hx=>RepO.kp (w.ok x hx) (Kp.of_same sm),w.nd,w.ds⟩;have hf:∀b∈z.as,b∈k8 (L1++T.map some):=λb hb=>by
  obtain⟨t,ht,hbt⟩:=hz b hb;rw[kX];exact lr9 _ (mem_frozen.mpr ⟨t,Xk ht,by rw[ZK (hT t ht)];exact hbt⟩)
 refine⟨w2.consNo ok ho λb hb hL=>w2.ds b hL (hf b hb),λa ob h _=>sm a ob h,λa ha=>?_,λa ha=>?_⟩
 ·rw[List.cons_append,kQ,qq1 ho]at ha;exact .inl ha
 ·rw[List.cons_append,vQ,ZK ho]at ha;rcases List.mem_append.mp ha with q|q
  ·exact .inl (hf a q)
  ·exact .inl q
theorem stay{K:PySem.W.Frag}{T L1 L2:Ls}{H1 H2:Hp}(w:World K H1 (L1++T))(s:Step H1 L1 H2 L2)(w2:World K H2 L2):World K H2 (L2++T)/\Step H1 (L1++T) H2 (L2++T):=⟨s.frame w w2 w.left,s.frm⟩
theorem Step.dropT{T:Ls}{H1:Hp}{L1:Ls}:Step H1 (L1++T) H1 L1:=⟨λ_ _ h _=>h,λa ha=>.inl (by rw[k4];exact ll9 _ ha),λa ha=>.inl (by rw[kX];exact ll9 _ ha)⟩
theorem Kp.trans{H H1 H2:Hp}{as:List Addr}(a:Kp H H1 as)(b:Kp H1 H2 as):Kp H H2 as:=⟨λc xs e=>b.1 c xs (a.1 c xs e),λc o u e=>b.2.1 c o u (a.2.1 c o u e),λc hc ob e=>b.2.2 c hc ob (a.2.2 c hc ob e)⟩
theorem kxr{K:PySem.W.Frag}{H2 H3:Hp}{L2 L3:Ls}{T:List Sl}(w:World K H2 (L2++T.map some))(hT:∀t∈T,t.o=.no)(s:Step H2 L2 H3 L3){H0:Hp}(h:∀t∈T,Kp H0 H2 t.as):∀t∈T,Kp H0 H3 t.as:=λt ht=>
 (h t ht).trans (s.kp w.left λb hb z=>w.ds b (by rw[k4];exact ll9 _ z) (by
  rw[kX];exact lr9 _ (mem_frozen.mpr ⟨t,Xk ht,by rw[ZK (hT t ht)];exact hb⟩)))
theorem vvd(hp:PassesOwn (model X.prog X.w) X.A X.env X.xe)(hc:X.calm=true)(hi:QID X Z q tg it ba)(hg:QG X Z pn t tg)(hb:QSs X Z pn B ss)(hs:autoParam (∀x,foldedSetIterable ba X.env x=pure x) Ŗ):QS X Z pn (wX it t B) (.For tg ba ss [] pos):=zY (vvk hp hc hi hg hb hs) λD σ H b8=>ex7 b8 λE L r m w hr k=>by
 have hr:ofE (it E) (λE ds=>JK t B ds E)=some r:=hr;rcases Vq hr with⟨E1,ds,h1,h2⟩|⟨E1,c,h1,rfl⟩
 rotate_left
 ·exact⟨E,L,_,m,w,h1,k.xc,λE' s' z=>by cases z⟩
 refine⟨E,L,_,m,w,h1,(λ_ _ z=>by cases z),λE' ds' z J T L' H' m' w' st hz _ wk=>?_⟩;injection z with z1 z2;subst z1 z2;have ic:∀{H2:Hp} {L2:Ls},World Z.K H2 (L2++T.map some)->∀t∈T,t.ok Z.K H2:=λw2 t ht=>w2.ok t (lr9 _ (Xk ht))
 refine⟨λi n σ1 H1=>∃E1 L1,Mt E1 σ1 L1/\World Z.K H1 (L1++T.map some)/\Step H L H1 (L1++T.map some)/\Pn pn σ σ1/\JK t B (ds.drop i) E1=some r/\i<=ds.length/\n=ds.length - i/\∀t∈T,Kp H' H1 t.as,⟨_,E1,L',m',w',st,Pn.refl,h2,Yt _,rfl,λ_ _=>Kp.of_same xQ⟩,?_⟩;rintro i n σ1 H1 ⟨E1,L1,m1,w1,st1,p1,f1,hi,rfl,pins⟩
 by_cases db:i<ds.length
 ·have hd:ds.drop i=ds[i]::ds.drop (i+1):=List.drop_eq_getElem_cons db;rw [hd]at f1;unfold JK at f1;cases cf:t.put ds[i] E1 with
  | none=>rw[cf]at f1;cases f1
  | some E2=>
   rw[cf]at f1;dsimp only at f1;refine .inr ⟨wk.go i H1 ⟨ic w1,pins⟩ db,fun σ2 H2=>∃E2 L2,Mt E2 σ2 L2/\World Z.K H2 (L2++T.map some)/\Step H L H2 (L2++T.map some)/\Pn pn σ σ2/\JK t B (ds.drop (i+1)) E2=some r/\∀t∈T,Kp H' H2 t.as,fun σ2 H2 ⟨E2,L2,a1,a2,a3,a4,a5,a6⟩=>⟨ds.length - (i+1),by omega,E2,L2,a1,a2,a3,a4,a5,db,rfl,a6⟩,λv H2 hy=>?_⟩;obtain⟨z,zo,zd,zv,sm,ni,zas⟩:=wk.yld i H1 v H2 ds[i] ⟨ic w1,pins⟩ hy (X1 db);obtain⟨wz,sz⟩:=kkh w1 wk.no sm ni zo zas;refine⟨E1,L1,z,E2,m1,wz.left,zo,zv,by rw[zd];exact cf,fun σ2 L2 p2 m2 w2 st2=>?_⟩;obtain⟨w3,st3⟩:=stay wz st2 w2;have st4:Step H L H2 (L2++T.map some):=st1.trans (sz.trans st3);have jp:∀t∈T,Kp H' H2 t.as:=λt ht=>(pins t ht).trans (Kp.of_same sm)
   cases hB:B E2 with
   | none=>rw[hB]at f1;cases f1
   | some g=>
    rw[hB]at f1;refine⟨E2,L2,g,m2,w2,hB,?_⟩;have fin:∀{g:Fl},g=r->(∀ σ',D.nx σ'=D.nx σ')->FlP Z pn D σ2 H2 (L2++T.map some) g:=λe _=>e▸k.step st4 (p1.trans p2)
    cases g with
    |nx E3=>
     intro σ3 L3 H3 p3 m3 w4 s3;obtain⟨w5,s5⟩:=stay w3 s3 w4;exact⟨E3,L3,m3,w5,st4.trans s5,(p1.trans p2).trans p3,f1,kxr w3 wk.no s3 jp⟩
    |ct E3=>
     intro σ3 L3 H3 p3 m3 w4 s3;obtain⟨w5,s5⟩:=stay w3 s3 w4;exact⟨E3,L3,m3,w5,st4.trans s5,(p1.trans p2).trans p3,f1,kxr w3 wk.no s3 jp⟩
    |bk E3=>
     have e:=oq9 f1;subst e;intro σ3 L3 H3 p3 m3 w4 s3;exact k σ3 L3 H3 ((p1.trans p2).trans p3) m3 w4 ((st4.trans Step.dropT).trans s3)
    |rt E3 x=>
     have e:=oq9 f1;subst e;intro y σ3 L3 H3 e1 e2 p3 m3 w4 s3;exact k y σ3 L3 H3 e1 e2 ((p1.trans p2).trans p3) m3 w4 ((st4.trans Step.dropT).trans s3)
    |xc E3 c=>
     have e:=oq9 f1;subst e;intro C σ3 L3 H3 hm p3 m3 w4 s3;exact k C σ3 L3 H3 hm ((p1.trans p2).trans p3) m3 w4 ((st4.trans Step.dropT).trans s3)
 ·have e:i=ds.length:=by omega
  subst e;rw[List.drop_length]at f1;cases oq9 f1;exact .inl ⟨wk.stop H1 ⟨ic w1,pins⟩,k σ1 L1 H1 p1 m1 w1.left (st1.trans Step.dropT)⟩
theorem wj6(hp:PassesOwn (model X.prog X.w) X.A X.env X.xe)(hc:X.calm=true)(hi:QI X Z q tg it ba)(hg:QG X Z pn t tg)(hb:QSs X Z pn B ss)(hs:autoParam (∀x,foldedSetIterable ba X.env x=pure x) Ŗ):QS X Z pn (wX it t B) (.For tg ba ss [] pos):=vvd hp hc hi.D hg hb hs
end
mutual
noncomputable def jY(h:Heap):D->Value->Prop
 |.non,u=>u=.none
 |.bl b,u=>u=.bool b
 |.int i,u=>∃t,u=.int i t
 |.str z,u=>∃t,u=.str z t
 |.tup ds,u=>∃a us,u=.ref a/\h.IsTuple a us.toArray/\CReps h ds us
 |.lst ds,u=>∃a us,u=.ref a/\h.IsList a us.toArray/\CReps h ds us
 |.dct _,_=>False
 |.obj _ _,_=>False
noncomputable def CReps(h:Heap):List D->List Value->Prop
 |[],us=>us=[]
 |d::ds,us=>∃u r,us=u::r/\jY h d u/\CReps h ds r
end
theorem kz8{n:Nat}{k:List (D×D)}:D.flat n (.dct k)=false:=by cases n<;>simp[D.flat]
theorem kz7{n:Nat}{c:Str}{k:List (Str×D)}:D.flat n (.obj c k)=false:=by cases n<;>simp[D.flat]
section
variable {X:Cx}{pins:List (Addr×Obj)}{σ:L2.St}{H:Hp}{s:Shared}
mutual
theorem kqk(I:Inv X pins σ H s){g:Bool}:∀{n:Nat} {d:D} {v:V} {as:List Addr} {u:Value},RepL X.K H g d v as->d.flat n=true->RelV v u->jY s.heap d u
 | _,.non,_,_,_,h,_,r=>by
  unfold RepL at h;rw[h.1]at r;unfold jY;exact r
 | _,.bl _,_,_,_,h,_,r=>by
  unfold RepL at h;rw[h.1]at r;unfold jY;exact r
 | _,.int _,_,_,_,h,_,r=>by
  unfold RepL at h;rw[h.1]at r;unfold jY;exact r
 | _,.str _,_,_,_,h,_,r=>by
  unfold RepL at h;rw[h.1]at r;unfold jY;exact r
 | 0,.tup ds,_,_,_,h,f,r=>by unfold D.flat at f;cases f
 | n+1,.tup ds,_,_,_,h,f,r=>by
  unfold RepL at h;unfold D.flat at f;obtain⟨a,xs,rfl,q,ra⟩:=h;cases r;obtain⟨ag,rv,p,_⟩:=I.tuple q;unfold jY;exact⟨a,ag,rfl,p,creps_of I ra f rv⟩
 | 0,.lst ds,_,_,_,h,f,r=>by unfold D.flat at f;cases f
 | n+1,.lst ds,_,_,_,h,f,r=>by
  unfold RepL at h;unfold D.flat at f;obtain⟨a,xs,bs,rfl,ra,q⟩:=h;cases r;have q':SqL X.K H a xs:=by
   rcases q with⟨q,_⟩|⟨_,q,_⟩
   ·exact SqL.of q
   ·exact(LsR.of q).sq
  obtain⟨ag,rv,p,_⟩:=I.list q';unfold jY;exact⟨a,ag,rfl,p.isList,creps_of I ra f rv⟩
 |_,.dct _,_,_,_,h,f,r=>by rw[kz8]at f;cases f
 |_,.obj _ _,_,_,_,h,f,r=>by rw[kz7]at f;cases f
theorem creps_of(I:Inv X pins σ H s){g:Bool}:∀{n:Nat} {ds:List D} {xs:List V} {as:List Addr} {us:List Value},RepA X.K H g ds xs as->D.flats n ds=true->Vals xs us->CReps s.heap ds us
 | _,[],_,_,_,h,_,r=>by
  unfold RepA at h;rw[h.1]at r;cases r;unfold CReps;rfl
 | n,d::ds,_,_,_,h,f,r=>by
  unfold RepA at h;unfold D.flats at f;rw[Bool.and_eq_true]at f;obtain⟨x,rr,bs,cs,rfl,rfl,h1,h2⟩:=h;cases r with
  |cons r1 r2=>
   unfold CReps;exact⟨_,_,rfl,kqk I h1 f.1 r1,creps_of I h2 f.2 r2⟩
end
end
theorem CReps.len{h:Heap}:∀{ds:List D} {us:List Value},CReps h ds us->ds.length=us.length
 |[],_,r=>by unfold CReps at r;rw[r];rfl
 |d::ds,_,r=>by
  unfold CReps at r;obtain⟨u,rr,rfl,_,h2⟩:=r;simp[CReps.len h2]
theorem CReps.get{h:Heap}:∀{ds:List D} {us:List Value} {j:Nat} {d:D},CReps h ds us->ds[j]?=some d->∃u,us[j]?=some u/\jY h d u
 | [],_,_,_,_,e=>by simp at e
 | d::ds,_,j,d',r,e=>by
  unfold CReps at r;obtain⟨u,rr,rfl,h1,h2⟩:=r;cases j with
  |zero=>
   have e:d=d':=by simpa using e
   subst e;exact⟨u,by simp,h1⟩
  |succ j=>
   obtain⟨w,e1,e2⟩:=CReps.get (j:=j) h2 (by simpa using e);exact⟨w,by simpa using e1,e2⟩
theorem qzv{h:Heap}{a:Addr}{x y:Array Value}(p:h.IsTuple a x)(q:h.IsTuple a y):x=y:=by
 obtain⟨o,h1,_,n,h2⟩:=p;obtain⟨o',h3,_,n',h4⟩:=q;rw[h1]at h3;cases h3;rw[h2]at h4;injection h4
theorem vk5{h:Heap}{a:Addr}{x y:Array Value}(p:h.IsList a x)(q:h.IsList a y):x=y:=by
 obtain⟨o,h1,_,n,h2⟩:=p;obtain⟨o',h3,_,n',h4⟩:=q;rw[h1]at h3;cases h3;rw[h2]at h4;injection h4
theorem qq8{h:Heap}{a:Addr}{x y:Array Value}(p:h.IsList a x)(q:h.IsTuple a y):False:=by
 obtain⟨o,h1,h2,_⟩:=p;obtain⟨o',h3,h4,_⟩:=q;rw[h1]at h3;cases h3;rw[h2]at h4;exact absurd (Value.type.inj h4) (by decide)
mutual
theorem kql{h:Heap}:∀{d d':D} {u:Value},jY h d u->jY h d' u->d=d'
 | .non,d',u,a,b=>by
  unfold jY at a;subst a;cases d'<;>unfold jY at b<;>first|rfl|exact b.elim|(cases b;done)|(obtain⟨_,b⟩:=b;cases b;done)|(obtain⟨_,_,b,_⟩:=b;cases b)
 | .bl k,d',u,a,b=>by
  unfold jY at a;subst a;cases d'<;>unfold jY at b<;>first|exact b.elim|(cases b;rfl)|(cases b;done)|(obtain⟨_,b⟩:=b;cases b;done)|(obtain⟨_,_,b,_⟩:=b;cases b)
 | .int k,d',u,a,b=>by
  unfold jY at a;obtain⟨t,rfl⟩:=a;cases d'<;>unfold jY at b<;>first|exact b.elim|(cases b;done)|(obtain⟨_,b⟩:=b;cases b;rfl)|(obtain⟨_,b⟩:=b;cases b;done)|(obtain⟨_,_,b,_⟩:=b;cases b)
 | .str k,d',u,a,b=>by
  unfold jY at a;obtain⟨t,rfl⟩:=a;cases d'<;>unfold jY at b<;>first|exact b.elim|(cases b;done)|(obtain⟨_,b⟩:=b;cases b;rfl)|(obtain⟨_,b⟩:=b;cases b;done)|(obtain⟨_,_,b,_⟩:=b;cases b)
 | .tup ds,d',u,a,b=>by
  unfold jY at a;obtain⟨x,us,rfl,p,r⟩:=a;cases d' with
  |tup es=>
   unfold jY at b;obtain⟨y,ws,e,p',r'⟩:=b;cases e;have e2:us=ws:=by simpa using qzv p p'
   subst e2;rw[creps_inj r r']
  |lst es=>
   unfold jY at b;obtain⟨y,ws,e,p',r'⟩:=b;cases e;exact(qq8 p' p).elim
  |non=>unfold jY at b;cases b
  |bl k=>unfold jY at b;cases b
  |int k=>unfold jY at b;obtain⟨_,b⟩:=b;cases b
  |str k=>unfold jY at b;obtain⟨_,b⟩:=b;cases b
  |dct k=>unfold jY at b;exact b.elim
  |obj k l=>unfold jY at b;exact b.elim
 | .lst ds,d',u,a,b=>by
  unfold jY at a;obtain⟨x,us,rfl,p,r⟩:=a;cases d' with
  |lst es=>
   unfold jY at b;obtain⟨y,ws,e,p',r'⟩:=b;cases e;have e2:us=ws:=by simpa using vk5 p p'
   subst e2;rw[creps_inj r r']
  |tup es=>
   unfold jY at b;obtain⟨y,ws,e,p',r'⟩:=b;cases e;exact(qq8 p p').elim
  |non=>unfold jY at b;cases b
  |bl k=>unfold jY at b;cases b
  |int k=>unfold jY at b;obtain⟨_,b⟩:=b;cases b
  |str k=>unfold jY at b;obtain⟨_,b⟩:=b;cases b
  |dct k=>unfold jY at b;exact b.elim
  |obj k l=>unfold jY at b;exact b.elim
 |.dct k,_,_,a,_=>by unfold jY at a;exact a.elim
 |.obj k l,_,_,a,_=>by unfold jY at a;exact a.elim
theorem creps_inj{h:Heap}:∀{ds ds':List D} {us:List Value},CReps h ds us->CReps h ds' us->ds=ds'
 | [],ds',us,a,b=>by
  unfold CReps at a;subst a;cases ds' with
  |nil=>rfl
  |cons d ds=>unfold CReps at b;obtain⟨_,_,e,_⟩:=b;cases e
 | d::ds,ds',us,a,b=>by
  unfold CReps at a;obtain⟨u,r,rfl,h1,h2⟩:=a;cases ds' with
  |nil=>unfold CReps at b;cases b
  |cons d' ds'=>
   unfold CReps at b;obtain⟨u',r',e,h3,h4⟩:=b;cases e;rw[kql h1 h3,creps_inj h2 h4]
end
mutual
theorem kxt:∀{n:Nat} {d:D},d.flat n=true->peq d d=true
 |_,.non,_=>by unfold peq;rfl
 |_,.bl b,_=>by unfold peq;simp
 |_,.int b,_=>by unfold peq;simp
 |_,.str b,_=>by unfold peq;simp
 |0,.tup ds,f=>by unfold D.flat at f;cases f
 |n+1,.tup ds,f=>by unfold peq;unfold D.flat at f;exact peqs_refl f
 |0,.lst ds,f=>by unfold D.flat at f;cases f
 |n+1,.lst ds,f=>by unfold peq;unfold D.flat at f;exact peqs_refl f
 |_,.dct _,f=>by rw[kz8]at f;cases f
 |_,.obj _ _,f=>by rw[kz7]at f;cases f
theorem peqs_refl:∀{n:Nat} {d:List D},D.flats n d=true->peqs d d=true
 |_,[],_=>by unfold peqs;rfl
 |n,d::ds,f=>by
  unfold D.flats at f;rw[Bool.and_eq_true]at f;unfold peqs;rw[kxt f.1,peqs_refl f.2];rfl
end
theorem kjn : ∀{n : Nat} {ds : List D} {j : Nat} {d : D}, D.flats n ds = true -> ds[j]? = some d -> d.flat n = true
  | _, [], _, _, _, e=>by simp at e
  | n, d::ds, j, d', f, e=>by
    unfold D.flats at f;rw[Bool.and_eq_true]at f;cases j with
    | zero => have e : d = d':= by simpa using e
              subst e; exact f.1
    |succ j=>exact kjn (j:= j) f.2 (by simpa using e)
def pAt(as bs:List D)(j:Nat):Bool:=match as[j]?,bs[j]? with
 |some a,some b=>peq a b
 |_,_=>true
theorem jxx:∀(as bs:List D),as.length=bs.length->(List.range as.length).all (pAt as bs)=peqs as bs
 |[],[],_=>by unfold peqs;rfl
 |a::as,b::bs,h=>by
  have ih:=jxx as bs (by simpa using h);rw[Xp,List.range_succ_eq_map,List.all_cons,List.all_map];unfold peqs;rw[<-ih];rfl
 |[],_::_,h=>by simp at h
 |_::_,[],h=>by simp at h
theorem kq1:∀(as bs:List D),as.length≠bs.length->peqs as bs=false
 |[],[],h=>by simp at h
 |a::as,b::bs,h=>by
  unfold peqs;rw[kq1 as bs (by simpa using h),Bool.and_false]
 |[],_::_,_=>by unfold peqs;rfl
 |_::_,[],_=>by unfold peqs;rfl
theorem qw6(as bs:List D):((List.range (min as.length bs.length)).all (pAt as bs)&&as.length==bs.length)=peqs as bs:=by
 by_cases e:as.length=bs.length
 ·rw[<-e,Nat.min_self,jxx as bs e];simp[e]
 ·rw[kq1 as bs e];have:(as.length==bs.length)=false:=by simpa using e
  rw[this,Bool.and_false]
section
variable {s:Shared}
theorem qq0{as bs:List D}{us ws:List Value}{A:Around}(ra:CReps s.heap as us)(rb:CReps s.heap bs ws)
  (h:∀(j:Nat) (d d':D) (u w:Value),as[j]?=some d->bs[j]?=some d'->jY s.heap d u->jY s.heap d' w->SeqAt.EqAt A s u w (peq d d')):
  ∀j (h1:j<us.toArray.size) (h2:j<ws.toArray.size),SeqAt.EqAt A s us.toArray[j] ws.toArray[j] (pAt as bs j):=λj h1 h2=>by
 have l1:=ra.len;have l2:=rb.len;simp only[X7]at h1 h2;have ha:j<as.length:=by omega
 have hb:j<bs.length:=by omega
 obtain⟨u,eu,ru⟩:=ra.get (X1 ha);obtain⟨w,ew,nu⟩:=rb.get (X1 hb);have e1:us.toArray[j]=u:=by
  obtain⟨_,q⟩:=List.getElem?_eq_some_iff.mp eu
  simpa using q
 have e2:ws.toArray[j]=w:=by
  obtain⟨_,q⟩:=List.getElem?_eq_some_iff.mp ew
  simpa using q
 have e3:pAt as bs j=peq as[j] bs[j]:=by
  unfold pAt;rw[X1 ha,X1 hb]
 rw[e1,e2,e3];exact h j _ _ u w (X1 ha) (X1 hb) ru nu
inductive Cv (h:Heap):D->Value->Prop
 |non:Cv h .non .none
 |bl (b:Bool):Cv h (.bl b) (.bool b)
 |int (i:Int) (t:_):Cv h (.int i) (.int i t)
 |str (z:Str) (t:_):Cv h (.str z) (.str z t)
 |lst {ds:List D} {a:Addr} {us:List Value} (p:h.IsList a us.toArray) (q:CReps h ds us):Cv h (.lst ds) (.ref a)
 |tup {ds:List D} {a:Addr} {us:List Value} (p:h.IsTuple a us.toArray) (q:CReps h ds us):Cv h (.tup ds) (.ref a)
theorem crv{h:Heap}{d:D}{u:Value}(r:jY h d u):Cv h d u:=by
 cases d<;>unfold jY at r
 all_goals first|exact r.elim|(subst r;constructor)|(obtain⟨_,rfl⟩:=r;constructor)|(obtain⟨_,_,rfl,p,q⟩:=r;first|exact .lst p q|exact .tup p q)
theorem vqw{A:Around}{d d':D}{u w:Value}(hu:A.units<cLine)(r:jY s.heap d u)(r':jY s.heap d' w)
  (el:∀(as bs:List D) (us ws:List Value),(d=.lst as\/d=.tup as)->(d'=.lst bs\/d'=.tup bs)->CReps s.heap as us->CReps s.heap bs ws->∀j (h1:j<us.toArray.size) (h2:j<ws.toArray.size),SeqAt.EqAt A.in1 s us.toArray[j] ws.toArray[j] (pAt as bs j)):
  SeqAt.RcAt A s u w (peq d d'):=by
 cases crv r<;>cases crv r'<;>unfold peq
 ·exact SeqAt.RcAt.none_none
 ·exact SeqAt.RcAt.none_bool _
 ·exact SeqAt.RcAt.none_int _ _
 ·exact SeqAt.RcAt.none_str _ _
 ·exact SeqAt.RcAt.none_list ‹_› hu
 ·exact SeqAt.RcAt.none_tuple ‹_› hu
 ·exact SeqAt.RcAt.bool_none _
 ·exact SeqAt.RcAt.bool_bool _ _
 ·exact SeqAt.RcAt.bool_int _ _ _
 ·exact SeqAt.RcAt.bool_str _ _ _
 ·exact SeqAt.RcAt.bool_list _ ‹_› hu
 ·exact SeqAt.RcAt.bool_tuple _ ‹_› hu
 ·exact SeqAt.RcAt.int_none _ _
 ·exact SeqAt.RcAt.int_bool _ _ _
 ·exact SeqAt.RcAt.int_int _ _ _ _
 ·exact SeqAt.RcAt.int_str _ _ _ _
 ·exact SeqAt.RcAt.int_list _ _ ‹_› hu
 ·exact SeqAt.RcAt.int_tuple _ _ ‹_› hu
 ·exact SeqAt.RcAt.str_none _ _
 ·exact SeqAt.RcAt.str_bool _ _ _
 ·exact SeqAt.RcAt.str_int _ _ _ _
 ·exact SeqAt.RcAt.str_str _ _ _ _
 ·exact SeqAt.RcAt.str_list _ _ ‹_› hu
 ·exact SeqAt.RcAt.str_tuple _ _ ‹_› hu
 ·exact SeqAt.RcAt.list_none ‹_› hu
 ·exact SeqAt.RcAt.list_bool _ ‹_› hu
 ·exact SeqAt.RcAt.list_int _ _ ‹_› hu
 ·exact SeqAt.RcAt.list_str _ _ ‹_› hu
 ·rename_i as a us p ra bs b ws p' rb;have l1:=ra.len;have l2:=rb.len
  by_cases hl:as.length=bs.length
  ·rw[<-jxx as bs hl];have z:=SeqAt.RcAt.lists (A:=A) (s:=s) (e:=pAt as bs) p p' (by simp only[X7];omega) hu (el as bs us ws (.inl rfl) (.inl rfl) ra rb);rw[X7,<-l1]at z;exact z
  ·rw[kq1 as bs hl];exact SeqAt.RcAt.lists_lengths p p' (by simp only[X7,bne_iff_ne];omega) hu
 ·exact SeqAt.RcAt.list_tuple ‹_› ‹_› hu
 ·exact SeqAt.RcAt.tuple_none ‹_› hu
 ·exact SeqAt.RcAt.tuple_bool _ ‹_› hu
 ·exact SeqAt.RcAt.tuple_int _ _ ‹_› hu
 ·exact SeqAt.RcAt.tuple_str _ _ ‹_› hu
 ·exact SeqAt.RcAt.tuple_list ‹_› ‹_› hu
 ·rename_i as a us p ra bs b ws p' rb;have l1:=ra.len;have l2:=rb.len;rw[<-qw6 as bs];have z:=SeqAt.RcAt.tuples (A:=A) (s:=s) (e:=pAt as bs) p p' hu (el as bs us ws (.inr rfl) (.inr rfl) ra rb);rw[X7,X7,<-l1,<-l2]at z;exact z
theorem kqi{A:Around}{a a':Addr}{b:Bool}(jd:Value.ref a=Value.ref a'->b=true)(rc:SeqAt.RcAt A s (.ref a) (.ref a') b):SeqAt.EqAt A s (.ref a) (.ref a') b:=by
 by_cases e:a=a'
 ·subst e;rw[jd rfl];exact SeqAt.EqAt.same _
 ·exact SeqAt.EqAt.of_refs e rc
theorem wjx{A:Around}{d d':D}{u w:Value}(hu:A.units<cLine)(r:jY s.heap d u)(r':jY s.heap d' w)(jd:u=w->peq d d'=true)(rc:SeqAt.RcAt A s u w (peq d d')):SeqAt.EqAt A s u w (peq d d'):=by
 cases crv r<;>cases crv r'<;>try unfold peq
 ·exact SeqAt.EqAt.same _
 ·exact SeqAt.EqAt.none_bool _
 ·exact SeqAt.EqAt.none_int _ _
 ·exact SeqAt.EqAt.none_str _ _
 ·exact SeqAt.EqAt.none_list ‹_› hu
 ·exact SeqAt.EqAt.none_tuple ‹_› hu
 ·exact SeqAt.EqAt.bool_none _
 ·exact SeqAt.EqAt.bool_bool _ _
 ·exact SeqAt.EqAt.bool_int _ _ _
 ·exact SeqAt.EqAt.bool_str _ _ _
 ·exact SeqAt.EqAt.bool_list _ ‹_› hu
 ·exact SeqAt.EqAt.bool_tuple _ ‹_› hu
 ·exact SeqAt.EqAt.int_none _ _
 ·exact SeqAt.EqAt.int_bool _ _ _
 ·exact SeqAt.EqAt.int_int _ _ _ _
 ·exact SeqAt.EqAt.int_str _ _ _ _
 ·exact SeqAt.EqAt.int_list _ _ ‹_› hu
 ·exact SeqAt.EqAt.int_tuple _ _ ‹_› hu
 ·exact SeqAt.EqAt.str_none _ _
 ·exact SeqAt.EqAt.str_bool _ _ _
 ·exact SeqAt.EqAt.str_int _ _ _ _
 ·exact SeqAt.EqAt.str_str _ _ _ _
 ·exact SeqAt.EqAt.str_list _ _ ‹_› hu
 ·exact SeqAt.EqAt.str_tuple _ _ ‹_› hu
 ·exact SeqAt.EqAt.list_none ‹_› hu
 ·exact SeqAt.EqAt.list_bool _ ‹_› hu
 ·exact SeqAt.EqAt.list_int _ _ ‹_› hu
 ·exact SeqAt.EqAt.list_str _ _ ‹_› hu
 ·exact kqi jd rc
 ·exact kqi jd rc
 ·exact SeqAt.EqAt.tuple_none ‹_› hu
 ·exact SeqAt.EqAt.tuple_bool _ ‹_› hu
 ·exact SeqAt.EqAt.tuple_int _ _ ‹_› hu
 ·exact SeqAt.EqAt.tuple_str _ _ ‹_› hu
 ·exact kqi jd rc
 ·exact kqi jd rc
theorem qv6:∀(n:Nat) {d d':D} {u w:Value} {A:Around},d.flat n=true->jY s.heap d u->jY s.heap d' w->A.units+n<cLine->SeqAt.EqAt A s u w (peq d d')
 | n,d,d',u,w,A,f,r,r',hu=>by
  refine wjx (by omega) r r' (λe=>?_) (vqw (by omega) r r' λas bs us ws h1 h2 ra rb=>?_)
  rotate_left
  ·cases n with
   |zero=>rcases h1 with rfl|rfl<;>(unfold D.flat at f;cases f)
   |succ n=>
    have fs:D.flats n as=true:=by rcases h1 with rfl|rfl<;>(unfold D.flat at f;exact f)
    exact qq0 ra rb λj d d' u w e1 e2 q1 q2=>qv6 n (kjn fs e1) q1 q2 (by have:=L3.in1_units A;omega)
  ·subst e;rw[kql r' r];exact kxt f
end
section
variable {X:Cx}{Z:Fx0}{K:PySem.W.Frag}
noncomputable def wku(K:PySem.W.Frag):R2:=λx y H Q=>∃d d' as bs,RepL K H true d x as/\RepL K H true d' y bs/\d.flat 40=true/\d'.flat 40=true/\Q (.bl (peq d d')) H
theorem x6(hu:X.A.units+64<cLine)(hK:autoParam (X.K=K) Ŕ):OpR X (compareOp .Eq) (wku K):=by
 subst hK;intro pins s σ H x y v u Q I rx ry h;obtain⟨d,d',as,bs,h1,h2,f1,f2,q⟩:=h;have c1:=kqk I h1 f1 rx;have c2:=kqk I h2 f2 ry;refine vqw (by omega) c1 c2 (λas bs us ws e1 e2 ra rb=>qq0 ra rb λj d d' u w e3 e4 q1 q2=>?_) _ _ _ _ ⟨.bl _,H,I,rfl,q⟩;have fs:D.flats 39 as=true:=by rcases e1 with rfl|rfl<;>(unfold D.flat at f1;exact f1)
 exact qv6 39 (kjn fs e3) q1 q2 (by have:=L3.in1_units X.A;omega)
theorem x9:Ad2 K (wku K) (pu2 fEq):=by
 intro H x y s Q ox oy hf k;unfold pu2 fEq at hf;dsimp only at hf
 by_cases hc:(x.d.flat 40&&y.d.flat 40)=true
 ·rw[Xe hc]at hf;rw[Bool.and_eq_true]at hc;cases oq9 hf;exact⟨x.d,y.d,x.as,y.as,RepO.wk ox,RepO.wk oy,hc.1,hc.2,k ⟨.dp,.bl _,.bl _,[]⟩ H rfl rfl x8⟩
 ·rw[Xl hc]at hf;cases hf
end
end Q
namespace Q
open PySem PySem.Spec PyProof.Rows L2 L3
abbrev Sl.sd(x:Sl):Sd:=(x.o,x.d)
noncomputable def tA(Z:Fx0)(q:Bool)(cs:List Ex):TA:=fun σ H Q=>∃E L r,Mt E σ L/\World Z.K H L/\vz cs E=some r/\Xc Z σ H L r /\
 ∀E' ys,r=.ok E' ys->∀(xs:List Sl) L' H',xs.map Sl.sd=ys->Mt E' σ L'->World Z.K H' (xs.map some++L')->Step H L H' (xs.map some++L')->(q=true->k9 H H'/\∀b∈j8 (xs.map some),H b=none)->Q (xs.map Sl.v) H'
def QA(X:Cx)(Z:Fx0)(q:Bool)(cs:List Ex)(es:List Expr):Prop:=PA X es (tA Z q cs)
theorem qz7{X:Cx}{es:List Expr}{t t':TA}(h:PA X es t)(w:∀ σ H Q,t' σ H Q->t σ H Q):PA X es t':=λpos pins s σ H Q I q=>h pos pins s σ H Q I (w σ H Q q)
section
variable {X:Cx}{Z:Fx0}{pn:List Nat}{q:Bool}{c:Ex}{cs:List Ex}{e:Expr}{es:List Expr}{pos:Pos}{σ:L2.St}{H:Hp}{L:Ls}{E:En}
theorem j6:QA X Z true [] []:=qz7 wZ fun σ H Q b8=>ex8 b8 λE L r m w hc xc k=>by
 cases oq9 hc;exact k _ _ rfl [] L H rfl m w Step.refl λ_=>⟨λ_ _ z=>z,λ_ z=>(nomatch z)⟩
theorem j4(h:QE X Z q c e)(hs:QA X Z q cs es)(ce:autoParam (starEach (e::es) X.env=(false,eval e X.env)::starEach es X.env) Ŕ):QA X Z q (c::cs) (e::es):=
 qz7 (v5 h hs ce) fun σ H Q b8=>ex8 b8 λE L r m w hc xc k=>by
  refine vja m w (show bnd (c E) _=some r from hc) xc λE1 s h1 x L1 H1 e1 e2 m1 w1 st sm=>?_
  have s1:Step H L H1 L1:=st.trans Step.drop;rcases wq h1 with⟨E2,ys,h2,h3⟩|⟨E2,cc,h2,h3⟩
  ·cases oq9 h3;refine⟨E1,L1,_,m1,w1.tail,h2,(λ_ _ z=>by cases z),λE' ys' z xs L2 H2 e3 m2 w2 st2 fh=>?_⟩;injection z with z1 z2;subst z1 z2;obtain⟨w3,st3⟩:=wq6 (T:=[some x]) w1 st2 w2;refine k _ _ rfl (x::xs) L2 H2 (by rw[List.map_cons,e3];simp[Sl.sd,e1,e2]) m2 w3 (st.trans st3) λhq=>?_
   obtain⟨a1,a2⟩:=sm hq;obtain⟨b1,b2⟩:=fh hq;refine⟨qx a1 b1,λb hb=>?_⟩;rw[List.map_cons,kQ]at hb;rcases List.mem_append.mp hb with z|z
   ·exact a2 b z
   ·exact J5 a1 (b2 b z)
  ·exact⟨E1,L1,_,m1,w1.tail,h2,(xc.step s1).map h3,λE' s' z=>by cases z⟩
end
section
variable {X:Cx}{Z:Fx0}{q:Bool}{cs:List Ex}{es:List Expr}{pos:Pos}{σ:L2.St}{H:Hp}{L:Ls}{E:En}{α:Type}
theorem kjs:∀{cs:List Ex} {E E':En} {ys:List Sd},vz cs E=some (.ok E' ys)->ys.length=cs.length
 | [],E,E',ys,h=>by cases oq9 h;rfl
 | c::cs,E,E',ys,h=>by
  rcases wq (show bnd (c E) _=some _ from h)with⟨E1,x,h1,h2⟩|⟨_,_,_,z⟩
  ·rcases wq h2 with⟨E2,xs,h3,h4⟩|⟨_,_,_,z⟩
   ·cases oq9 h4;rw[Xp,Xp,kjs h3]
   ·cases z
  ·cases z
theorem vky{F:En->List Sd->Option (Res α)}{r:Res α}{G:List V->Hp->Prop}(m:Mt E σ L)(w:World Z.K H L)(h:bnd (vz cs E) F=some r)(xc:Xc Z σ H L r)
  (k:∀E1 ys,F E1 ys=some r->ys.length=cs.length->∀(xs:List Sl) L1 H1,xs.map Sl.sd=ys->Mt E1 σ L1->World Z.K H1 (xs.map some++L1)->Step H L H1 (xs.map some++L1)->(q=true->k9 H H1/\∀b∈j8 (xs.map some),H b=none)->G (xs.map Sl.v) H1):tA Z q cs σ H G:=by
 rcases wq h with⟨E1,s,h1,h2⟩|⟨E1,c,h1,h2⟩
 ·exact⟨E,L,_,m,w,h1,(λ_ _ z=>by cases z),λE' s' z xs L' H' e1 m' w' st sm=>by
   injection z with z1 z2;subst z1 z2;exact k _ _ h2 (kjs h1) xs L' H' e1 m' w' st sm⟩
 ·exact⟨E,L,_,m,w,h1,xc.map h2,λE' s' z=>by cases z⟩
theorem jwm{K:PySem.W.Frag}{H:Hp}(g:Bool):∀{xs:List Sl},(∀x∈xs,x.ok K H)->(g=false->∀x∈xs,vK x.sd=true)->∃bs,RepA K H g (xs.map Sl.d) (xs.map Sl.v) bs/\(∀b∈bs,∃x∈xs,b∈x.as)/\(g=false->bs=j8 (xs.map some))/\(g=true->bs=xs.flatMap Sl.as)
 | [],_,_=>⟨[],by unfold RepA;exact⟨rfl,rfl⟩,λ_ h=>(nomatch h),λ_=>rfl,λ_=>rfl⟩
 | x :: xs,h,ht=>by
  obtain⟨bs,r,hb,ho,hg⟩:=jwm g (xs:=xs) (λy hy=>h y (lc9 _ hy)) λhg y hy=>ht hg y (lc9 _ hy)
  have hx:=h x X6;have my:∃cs,RepL K H g x.d x.v cs/\(∀b∈cs,b∈x.as)/\(g=false->cs=x.own)/\(g=true->cs=x.as):=by
   cases g with
   | true=>exact⟨x.as,RepO.wk hx,λb hb=>hb,(λz=>by cases z),λ_=>rfl⟩
   | false=>
    have t:=ht rfl x X6;unfold vK at t
    by_cases ho:x.o=.dp
    ·refine⟨x.as,?_,λb hb=>hb,λ_=>?_,λz=>by cases z⟩
     ·have:=hx;unfold Sl.ok at this;rw[ho]at this;exact this
     ·unfold Sl.own;rw[ho]
    ·have hp:x.d.pure=true:=by
      rcases Bool.or_eq_true_iff.mp t with z|z
      ·exact absurd (by simpa using z) ho
      ·exact z
     obtain⟨z,rp⟩:=RepL.pu (g':=false) (RepO.wk hx) hp;exact⟨[],rp,λ_ h=>(nomatch h),λ_=>(vjv z).symm,λz=>by cases z⟩
  obtain⟨cs,r1,h1,h2,h3⟩:=my;refine⟨cs++bs,?_,λb dm=>?_,λkh=>?_,λkh=>?_⟩
  ·rw[List.map_cons,List.map_cons];unfold RepA;exact⟨x.v,xs.map Sl.v,cs,bs,rfl,rfl,r1,r⟩
  ·rcases List.mem_append.mp dm with z|z
   ·exact⟨x,X6,h1 b z⟩
   ·obtain⟨y,hy,hby⟩:=hb b z;exact⟨y,lc9 _ hy,hby⟩
  ·rw[List.map_cons,kQ,h2 kh,ho kh]
  ·rw[List.flatMap_cons,h3 kh,hg kh]
theorem qx2{K:PySem.W.Frag}{H:Hp}{p:Addr}{xs:List Sl}{L:Ls}(w:World K H (xs.map some++L))(hp:H p=none):
  ∃bs,World K (upd H p (.lst (xs.map Sl.v))) (some ⟨.rt,.lst (xs.map Sl.d),.ref p,p::bs⟩::L)/\Step H (xs.map some++L) (upd H p (.lst (xs.map Sl.v))) (some ⟨.rt,.lst (xs.map Sl.d),.ref p,p::bs⟩::L):=by
 obtain⟨bs,r,hb,_,_⟩:=jwm true (xs:=xs) (λx hx=>w.ok x (ll9 _ (Xk hx))) (λz=>by cases z);have ap:∀b∈bs,b∉j8 L:=λb dm hL=>by
  obtain⟨x,hx,f9⟩:=hb b dm;rcases Sl.as_of f9 with z|z
  ·have nd:=w.nd;rw[k4,X8]at nd;exact nd.2.2 b (mem_owned.mpr ⟨x,Xk hx,z⟩) b hL rfl
  ·exact w.ds b (by rw[k4];exact lr9 _ hL) (by rw[kX];exact ll9 _ (mem_frozen.mpr ⟨x,Xk hx,z⟩))
 have al:∀b∈bs,H b≠none:=λb dm=>by
  obtain⟨x,hx,f9⟩:=hb b dm;exact(w.ok x (ll9 _ (Xk hx))).some f9
 have sr:Src H (xs.map some++L) bs:=λb dm=>by
  obtain⟨x,hx,f9⟩:=hb b dm;rcases Sl.as_of f9 with z|z
  ·exact .inr (.inl (by rw[k4];exact ll9 _ (mem_owned.mpr ⟨x,Xk hx,z⟩)))
  ·exact .inl (by rw[kX];exact ll9 _ (mem_frozen.mpr ⟨x,Xk hx,z⟩))
 have o:Out K H (upd H p (.lst (xs.map Sl.v))) ⟨.rt,.lst (xs.map Sl.d),.ref p,p::bs⟩ bs:=K0 hp r λb hb=>hb
 have st:Step H (xs.map some++L) H L:=⟨λ_ _ h _=>h,λa ha=>.inl (by rw[k4];exact lr9 _ ha),λa ha=>.inl (by rw[kX];exact lr9 _ ha)⟩;exact⟨bs,K7 (Z:=⟨K,λ_=>none,λ_ _ _=>True⟩) w.right st o ap al sr⟩
theorem qx1{K:PySem.W.Frag}{H:Hp}{p:Addr}{xs:List Sl}{L:Ls}(w:World K H (xs.map some++L))(hp:H p=none):
  ∃bs,World K (upd H p (.tup (xs.map Sl.v))) (some ⟨.no,.tup (xs.map Sl.d),.ref p,bs⟩::L)/\Step H (xs.map some++L) (upd H p (.tup (xs.map Sl.v))) (some ⟨.no,.tup (xs.map Sl.d),.ref p,bs⟩::L):=by
 obtain⟨bs,r,hb,_,_⟩:=jwm true (xs:=xs) (λx hx=>w.ok x (ll9 _ (Xk hx))) (λz=>by cases z);have ap:∀b∈bs,b∉j8 L:=λb dm hL=>by
  obtain⟨x,hx,f9⟩:=hb b dm;rcases Sl.as_of f9 with z|z
  ·have nd:=w.nd;rw[k4,X8]at nd;exact nd.2.2 b (mem_owned.mpr ⟨x,Xk hx,z⟩) b hL rfl
  ·exact w.ds b (by rw[k4];exact lr9 _ hL) (by rw[kX];exact ll9 _ (mem_frozen.mpr ⟨x,Xk hx,z⟩))
 have al:∀b∈bs,H b≠none:=λb dm=>by
  obtain⟨x,hx,f9⟩:=hb b dm;exact(w.ok x (ll9 _ (Xk hx))).some f9
 have sr:Src H (xs.map some++L) bs:=λb dm=>by
  obtain⟨x,hx,f9⟩:=hb b dm;rcases Sl.as_of f9 with z|z
  ·exact .inr (.inl (by rw[k4];exact ll9 _ (mem_owned.mpr ⟨x,Xk hx,z⟩)))
  ·exact .inl (by rw[kX];exact ll9 _ (mem_frozen.mpr ⟨x,Xk hx,z⟩))
 have o:Out K H (upd H p (.tup (xs.map Sl.v))) ⟨.no,.tup (xs.map Sl.d),.ref p,bs⟩ bs:=Zv hp r λb hb=>hb
 have st:Step H (xs.map some++L) H L:=⟨λ_ _ h _=>h,λa ha=>.inl (by rw[k4];exact lr9 _ ha),λa ha=>.inl (by rw[kX];exact lr9 _ ha)⟩;exact⟨bs,K7 (Z:=⟨K,λ_=>none,λ_ _ _=>True⟩) w.right st o ap al sr⟩
theorem qq7{K:PySem.W.Frag}{H H':Hp}{xs:List Sl}{L:Ls}{d:D}{v:V}{ps:List Addr}(w:World K H (xs.map some++L))(ht:∀x∈xs,vK x.sd=true)(hp:∀b∈ps,H b=none)(nd:ps.Nodup)(sm:k9 H H')
  (rep:∀bs,RepA K H false (xs.map Sl.d) (xs.map Sl.v) bs->RepL K H' false d v (ps++bs)):
  World K H' (some ⟨.dp,d,v,ps++j8 (xs.map some)⟩::L)/\Step H (xs.map some++L) H' (some ⟨.dp,d,v,ps++j8 (xs.map some)⟩::L):=by
 obtain⟨bs,r,hb,ho,_⟩:=jwm false (xs:=xs) (λx hx=>w.ok x (ll9 _ (Xk hx))) (λ_=>ht);have e:=ho rfl;subst e;have w2:World K H' (xs.map some++L):=⟨λx hx=>RepO.kp (w.ok x hx) (Kp.of_same sm),w.nd,w.ds⟩;have ndx:=w.nd;rw[k4,X8]at ndx;have al:∀b∈j8 (xs.map some),H b≠none:=λb hb=>w.own_some (by rw[k4];exact ll9 _ hb)
 refine⟨w2.right.cons (x:=⟨.dp,d,v,ps++j8 (xs.map some)⟩) (rep _ r) ?_ (λa ha hL=>?_) (λa ha hf=>?_) (λa ha=>(nomatch ha)) (λa ha=>λz=>(nomatch z)),⟨λa ob h _=>sm a ob h,λa ha=>?_,λa ha=>?_⟩⟩
 ·show(ps++j8 (xs.map some)).Nodup;rw[X8];exact⟨nd,ndx.1,λa ha b hb e=>by subst e;exact al a hb (hp a ha)⟩
 ·rcases List.mem_append.mp (show a∈ps++j8 (xs.map some)from ha)with z|z
  ·exact w.own_some (by rw[k4];exact lr9 _ hL) (hp a z)
  ·exact ndx.2.2 a z a hL rfl
 ·rcases List.mem_append.mp (show a∈ps++j8 (xs.map some)from ha)with z|z
  ·exact w.frz_some (by rw[kX];exact lr9 _ hf) (hp a z)
  ·exact w.ds a (by rw[k4];exact ll9 _ z) (by rw[kX];exact lr9 _ hf)
 ·rw[kQ]at ha;rcases List.mem_append.mp ha with z|z
  ·rcases List.mem_append.mp (show a∈ps++j8 (xs.map some)from z)with y|y
   ·exact .inr (hp a y)
   ·exact .inl (by rw[k4];exact ll9 _ y)
  ·exact .inl (by rw[k4];exact lr9 _ z)
 ·rw[vQ]at ha;exact .inl (by rw[kX];exact lr9 _ ha)
theorem vz7{xs:List Sl}{ys:List Sd}(h:xs.map Sl.sd=ys):xs.map Sl.d=ys.map (·.2):=by rw[<-h,Y3];rfl
theorem kxj{xs:List Sl}{ys:List Sd}(h:xs.map Sl.sd=ys)(ht:ys.all vK=true):∀x∈xs,vK x.sd=true:=λx hx=>by
 rw[<-h,List.all_map,Yd]at ht;exact ht x hx
theorem kxy{o:Own}{xs:List Sl}{ys:List Sd}{E':En}{r:Res Sd}{L':Ls}{H1:Hp}{Q:VK}{Hq:Hp}{Lq:Ls}(h:mkL o E' ys=some r)(e:xs.map Sl.sd=ys)(w:World Z.K H1 (xs.map some++L'))(st:Step Hq Lq H1 (xs.map some++L'))(sm:q=true->k9 Hq H1/\∀b∈j8 (xs.map some),Hq b=none)
  (k:∀E'' a,r=.ok E'' a->∀(x:Sl) L'' H',x.o=a.1->x.d=a.2->Mt E'' σ L''->World Z.K H' (some x::L'')->Step Hq Lq H' (some x::L'')->(q=true->k9 Hq H'/\∀b∈x.own,Hq b=none)->Q x.v H') (m:Mt E' σ L'):
  ∀ p,H1 p=none->Q (.ref p) (upd H1 p (.lst (xs.map Sl.v))):=by
 intro p hp;unfold mkL at h
 by_cases ho:o=.dp
 ·rw[Xe ho]at h
  by_cases ht:ys.all vK=true
  ·rw[Xe ht]at h;cases oq9 h;obtain⟨w2,s2⟩:=qq7 (d:=.lst (xs.map Sl.d)) (v:=.ref p) (ps:=[p]) w (kxj e ht) (λb hb=>by rw[List.mem_singleton.mp hb];exact hp) (by simp) (wY (o:=.lst (xs.map Sl.v)) hp) (λbs r=>by
    unfold RepL;exact⟨p,_,bs,rfl,r.kp (Kp.of_same (wY hp)),.inl ⟨xJ,rfl⟩⟩)
   refine k _ _ rfl ⟨.dp,.lst (xs.map Sl.d),.ref p,_⟩ L' _ rfl (by rw[vz7 e]) m w2 (st.trans s2) λhq=>⟨qx (sm hq).1 (wY hp),λb hb=>?_⟩
   rcases List.mem_append.mp (show b∈[p]++j8 (xs.map some)from hb)with z|z
   ·rw[List.mem_singleton.mp z];exact J5 (sm hq).1 hp
   ·exact(sm hq).2 b z
  ·rw[Xl ht]at h;cases h
 ·rw[Xl ho]at h;cases oq9 h;obtain⟨bs,w2,s2⟩:=qx2 w hp;refine k _ _ rfl ⟨.rt,.lst (xs.map Sl.d),.ref p,p::bs⟩ L' _ rfl (by rw[vz7 e]) m w2 (st.trans s2) λhq=>⟨qx (sm hq).1 (wY hp),λb hb=>?_⟩
  have:b=p:=by simpa [Sl.own]using hb
  rw[this];exact J5 (sm hq).1 hp
theorem vqh{xs:List Sl}{ys:List Sd}{n:Nat}(h:xs.map Sl.sd=ys)(hl:ys.length=n)(hz:n<=1000):(xs.map Sl.v).length<=sizeLine:=by
 have:xs.length=n:=by rw[<-hl,<-h,X4]
 rw[X4,this];exact Xs hz (by decide)
theorem kq{o:Own}(h:QA X Z q cs es)(hz:autoParam (cs.length<=1000) ŕ):QE X Z q (jV o cs) (.List es pos):=qZ (vvu h) fun σ H Q b8=>ex8 b8 λE L r m w hc xc k=>
 vky m w (show bnd (vz cs E) _=some r from hc) xc λE1 ys h1 hl xs L1 H1 e1 m1 w1 st sm=>⟨vqh e1 hl hz,kxy (o:=o) (E':=E1) (ys:=ys) (by unfold mkL;exact h1) e1 w1 st sm k m1⟩
theorem jW{o:Own}{x1}(h:QA X Z q cs es)(hz:autoParam (cs.length<=1000) ŕ):QE X Z q (jz o cs) (.Tuple es x1 pos):=qZ (qz5 h) fun σ H Q b8=>ex8 b8 λE L r m w hc xc k=>
 vky m w (show bnd (vz cs E) _=some r from hc) xc λE1 ys h1 hl xs L1 H1 e1 m1 w1 st sm=>⟨vqh e1 hl hz,λp hp=>by
  by_cases ho:o=.dp
  ·rw[Xe ho]at h1
   by_cases ht:ys.all vK=true
   ·rw[Xe ht]at h1;cases oq9 h1;obtain⟨w2,s2⟩:=qq7 (d:=.tup (xs.map Sl.d)) (v:=.ref p) (ps:=[]) w1 (kxj e1 ht) (λb hb=>(nomatch hb)) (by simp) (wY (o:=.tup (xs.map Sl.v)) hp) (λbs r=>by
     unfold RepL;exact⟨p,_,rfl,SqT.of xJ,r.kp (Kp.of_same (wY hp))⟩)
    exact k _ _ rfl ⟨.dp,.tup (xs.map Sl.d),.ref p,_⟩ L1 _ rfl (by rw[vz7 e1]) m1 w2 (st.trans s2) λhq=>⟨qx (sm hq).1 (wY hp),λb hb=>(sm hq).2 b hb⟩
   ·rw[Xl ht]at h1;cases h1
  ·rw[Xl ho]at h1;cases oq9 h1;obtain⟨bs,w2,s2⟩:=qx1 w1 hp;exact k _ _ rfl ⟨.no,.tup (xs.map Sl.d),.ref p,bs⟩ L1 _ rfl (by rw[vz7 e1]) m1 w2 (st.trans s2) λhq=>⟨qx (sm hq).1 (wY hp),λb hb=>(nomatch hb)⟩⟩
end
noncomputable def spF(K:PySem.W.Frag)(mg:Str->Option Value)(n:Nat)(f:Fn):Sp:=λvs H Q E=>∃(xs:List Sl) (r:Res Sd),vs=xs.map Sl.v/\xs.length=n/\World K H (xs.map some)/\f (xs.map Sl.sd)=some r /\
 (∀E' c,r=.exc E' c->∀C H',mg c=some (.ref C)->Step H (xs.map some) H' []->E (.ref C) none H') /\
 ∀E' a,r=.ok E' a->∀(x:Sl) H',x.o=a.1->x.d=a.2->World K H' [some x]->Step H (xs.map some) H' [some x]->Q x.v H'
theorem qj{K:PySem.W.Frag}{mg:Str->Option Value}{n:Nat}{f:Fn}{ps:List Str}(hn:ps.length=n):∀vs H Q E,spF K mg n f vs H Q E->vs.length=ps.length:=λvs H Q E ⟨xs,r,e,hl,_⟩=>by rw[e,X4,hl,hn]
theorem kq9:∀(xs:List Sl) (k:Nat),Mt (xs.map (λx=>some x.sd)++List.replicate k none) (xs.map (λx=>some x.v)++List.replicate k none) (xs.map some++List.replicate k none)
 |[],0=>.nil
 |[],k+1=>by
  rw[List.map_nil,List.map_nil,List.map_nil,List.replicate_succ,List.replicate_succ,List.replicate_succ];exact .un (kq9 [] k)
 |x::xs,k=>.cons (x:=x) (kq9 xs k)
theorem qw{X:Cx}{K:PySem.W.Frag}{mg:Str->Option Value}{N:List Str}{n nn:Nat}{B:Sm}{body:List Stmt}{H:Hp}{vs:List V}{Q:VK}{E:XK}(hN:N.length=nn)(t:QSs X ⟨K,mg,E⟩ [] B body)(h:spF K mg n (fn nn B) vs H Q E):
  ∃t,PSs X body t/\t { nx:=λ_ H'=>Q .non H',rt:=Q } (L2.start N vs) H:=by
 refine⟨_,t,?_⟩;obtain⟨xs,r,rfl,hl,w,hf,hx,hk⟩:=h;unfold fn at hf;rw[X4,Y3]at hf;have m:=kq9 xs (nn - xs.length);have e1:L2.start N (xs.map Sl.v)=xs.map (λx=>some x.v)++List.replicate (nn - xs.length) none:=by
  unfold L2.start;rw[Y3,X4,hN];rfl
 have wL:World K H (xs.map some++List.replicate (nn - xs.length) none):=w.same (by simp);have sL:Step H (xs.map some) H (xs.map some++List.replicate (nn - xs.length) none):=Step.refl.same (List.Perm.refl _) (by simp);cases hB:B (xs.map (λx=>some x.sd)++List.replicate (nn - xs.length) none)with
 | none=>rw[show(some∘Sl.sd)=(λx:Sl=>some x.sd)from rfl,hB]at hf;cases hf
 | some g=>
  rw[show(some∘Sl.sd)=(λx:Sl=>some x.sd)from rfl,hB]at hf;refine⟨_,_,g,e1▸m,wL,hB,?_⟩;cases g with
  |nx E1=>
   cases oq9 hf;intro σ' L' H' _ m' w' s';exact hk _ _ rfl ⟨.dp,.non,.non,[]⟩ H' rfl rfl (World.consPu (x:=⟨.dp,.non,.non,[]⟩) (L:=[]) ⟨λ_ z=>(nomatch z),Y8,λ_ z=>(nomatch z)⟩ (show RepL K H' false .non .non []from qkf) rfl) (Q9 (x:=⟨.dp,.non,.non,[]⟩) ((sL.trans s').sub (by simp)) (λb hb=>(nomatch hb)) rfl)
  |rt E1 a=>
   cases oq9 hf;intro x σ' L' H' e2 e3 _ m' w' s';exact hk _ _ rfl x H' e2 e3 (w'.sub (by simp)) ((sL.trans s').sub (by simp))
  |xc E1 c=>
   cases oq9 hf;intro C σ' L' H' hm _ m' w' s';exact hx _ _ rfl C H' hm ((sL.trans s').sub (by simp))
  |ct E1=>cases hf
  |bk E1=>cases hf
section
variable {X:Cx}{Z:Fx0}{q:Bool}{cs:List Ex}{e:Expr}{es:List Expr}{pos p:Pos}{x:Str}{ps:List Str}{k n:Nat}{f:Fn}
theorem W4:∀xs:List Sl,j8 ((xs.map Sl.let).map some)=[]
 |[]=>rfl
 |x::xs=>by rw[List.map_cons,List.map_cons,kQ,W4 xs];rfl
theorem jx6:∀xs:List Sl,k8 ((xs.map Sl.let).map some)=xs.flatMap Sl.as
 |[]=>rfl
 |x::xs=>by rw[List.map_cons,List.map_cons,vQ,jx6 xs,List.flatMap_cons];rfl
theorem qqb(xs:List Sl):(xs.map Sl.let).map Sl.sd=letAll (xs.map Sl.sd):=by
 unfold letAll;rw[Y3,Y3];rfl
theorem kk7{K:PySem.W.Frag}{H:Hp}{xs:List Sl}{L:Ls}(w:World K H (xs.map some++L)):World K H ((xs.map Sl.let).map some++L)/\Step H (xs.map some++L) H ((xs.map Sl.let).map some++L):=by
 have nd:=w.nd;rw[k4,X8]at nd;have cl:∀a∈xs.flatMap Sl.as,a∈j8 (xs.map some)\/a∈k8 (xs.map some):=λa ha=>by
  obtain⟨x,hx,hax⟩:=List.mem_flatMap.mp ha;exact(Sl.as_of hax).imp (λz=>mem_owned.mpr ⟨x,Xk hx,z⟩) λz=>mem_frozen.mpr ⟨x,Xk hx,z⟩
 refine⟨⟨λx hx=>?_,by rw[k4,W4];exact nd.2.1,λa ha hf=>?_⟩,λ_ _ h _=>h,λa ha=>?_,λa ha=>?_⟩
 ·rcases List.mem_append.mp hx with hx|hx
  ·obtain⟨y,hy,e⟩:=List.mem_map.mp hx;cases e;obtain⟨z,hz,rfl⟩:=List.mem_map.mp hy;exact Wj (w.ok z (ll9 _ (Xk hz)))
  ·exact w.ok x (lr9 _ hx)
 ·rw[k4,W4]at ha;rw[kX,jx6]at hf;rcases List.mem_append.mp hf with z|z
  ·rcases cl a z with z|z
   ·exact nd.2.2 a z a ha rfl
   ·exact w.ds a (by rw[k4];exact lr9 _ ha) (by rw[kX];exact ll9 _ z)
  ·exact w.ds a (by rw[k4];exact lr9 _ ha) (by rw[kX];exact lr9 _ z)
 ·rw[k4,W4]at ha;exact .inl (by rw[k4];exact lr9 _ ha)
 ·rw[kX,jx6]at ha;rw[kX,k4];rcases List.mem_append.mp ha with z|z
  ·rcases cl a z with z|z
   ·exact .inr (.inl (ll9 _ z))
   ·exact .inl (ll9 _ z)
  ·exact .inl (lr9 _ z)
theorem vve(D:kW X.prog X.w X.K X.mg X.base k x ps (spF Z.K Z.mg n f))(hr:Room k X.A)(g:zx X Z.EX)(ha:QA X Z q cs (e::es))(hn:autoParam (cs.length=n) Ŕ)(hg:autoParam (Gl X x) Ŕ)(d8:autoParam ((x==("__debug__":Str))=false) ŕ)
  (he:autoParam (starEach (e::es) X.env=(false,eval e X.env)::starEach es X.env) Ŕ) (bq:autoParam ((backTo pos (starEach es X.env)).any (·.1)=false) Ŕ):
  QE X Z q (jJ f cs) (.Call (.Name x p) (e::es) [] pos):=qZ (vvy D hr g ha hg d8 he bq) fun σ H Q b8=>ex8 b8 λE L r m w hc xc kk=>
 vky m w (show bnd (vz cs E) _=some r from hc) xc λE1 ys h1 hl xs L1 H1 e1 m1 w1 st sm=>by
  rw [Y9];have ax:xs.length=n:=by rw[<-hn,<-hl,<-e1,X4]
  cases hf:f (letAll ys)with
  | none=>rw[hf]at h1;cases h1
  | some fr=>
   rw[hf]at h1;obtain⟨wl,sl⟩:=kk7 w1;have ev:xs.map Sl.v=(xs.map Sl.let).map Sl.v:=by rw[Y3];rfl
   rw[ev];refine⟨xs.map Sl.let,fr,rfl,by rw[X4];exact ax,wl.left,by rw[<-e1]at hf;rw[qqb];exact hf,λE' c ee C H' hm s'=>?_,λE' a ee y H' e2 e3 w' s'=>?_⟩
   ·subst ee;cases oq9 h1;obtain⟨w2,s2⟩:=stay wl s' ⟨λ_ z=>(nomatch z),Y8,λ_ z=>(nomatch z)⟩;exact xc _ _ rfl C L1 H' hm m1 w2 ((st.trans sl).trans s2)
   ·subst ee;cases oq9 h1;obtain⟨w2,s2⟩:=stay wl s' w';refine kk _ _ rfl y L1 H' e2 e3 m1 w2 ((st.trans sl).trans s2) λhq=>?_
    obtain⟨a1,a2⟩:=sm hq;refine⟨λb ob hb=>s'.keep b ob (a1 b ob hb) λz=>?_,λb hb=>?_⟩
    ·rw[W4]at z;exact nomatch z
    ·rcases s'.own b (by rw[kQ];exact ll9 _ hb)with z|z
     ·rw[W4]at z;exact nomatch z
     ·exact J5 a1 z
end
noncomputable def vqz(K:PySem.W.Frag):R2:=λx y H Q=>∃l k xs,x=.ref l/\y=.int k/\LsR K H l xs/\-(2 ^ 63)<=k/\k<2 ^ 63/\xs.length*k.toNat<=sizeLine /\
 ∀p,H p=none->Q (.ref p) (upd H p (.lst (List.replicate k.toNat xs).flatten))
theorem op_repR{X:Cx}:OpR X (binaryOp .Mult) (vqz X.K):=by
 intro pins s σ H x y v u Q I rx ry h;obtain⟨l,k,xs,rfl,rfl,hH,h1,h2,hz,q⟩:=h;cases rx;obtain⟨t,rfl⟩:=ry;obtain⟨z,ag,n,r,e⟩:=hH.is I;have hl:=r.length;have ax:ag.toArray.size*k.toNat<=sizeLine:=by rw[X7,<-hl];exact hz
 have hcap:¬ag.toArray.size*k.toNat>(2 ^ 63 - 1) / 8:=by
  have:(sizeLine:Nat)<=(2 ^ 63 - 1) / 8:=by decide
  omega
 have hfit:¬(!Builtin.List.listFitsIndex k)=true:=by
  rw[fitsIndex_both h1 h2];exact Bool.false_ne_true
 have nh:¬Builtin.List.listTooLong (ag.toArray.size*k.toNat)=true:=by
  rw[qwx ax];exact Bool.false_ne_true
 have ig:List.foldl (λx1 x2=>x1++x2) #[] (List.replicate (if ag.toArray.isEmpty=true then 0 else k.toNat) ag.toArray)=(List.replicate k.toNat ag).flatten.toArray:=by
  have f0:∀m:Nat,List.foldl (λx1 x2=>x1++x2) #[] (List.replicate m ag.toArray)=(List.replicate m ag).flatten.toArray:=λm=>by
   have:=kjm ag m [];rw[List.nil_append]at this;exact this
  rw[f0];cases ag with
  |nil=>simp
  |cons a r'=>rw[Xl (by simp)]
 refine wpAny_binaryOp_repeat_ref (T:="list") (U:="int") (by decide) ⟨_,e,rfl⟩ (λs'=>typeIs_int s' k t) noFill_list_mul F.fills_int_mul F.slot_int_rmul repeat_list F.slot_int_index.lookup
  (call_meets F.slot_int_rmul (typeIs_int s k t) F.entry_int_rmul (F.args_int_rmul_2 _ _) (int___rmul___int_list k t l ag.toArray n)
   ⟨e,rfl,⟨_,e,rfl⟩,call_meets F.slot_list_mul ⟨_,e,rfl⟩ F.entry_list_mul (F.args_list_mul_2 _ _) (AutoListH.list___mul___list_int_3 l ag.toArray n k t hfit hcap nh) ⟨e,?_⟩⟩)
 rw[ig];exact⟨.ref _,_,I.lnew (t':=s.toks) (r.rep k.toNat) (by rw[qqc,Nat.mul_comm];exact hz),rfl,q _ I.fresh⟩
def vj7(K:PySem.W.Frag):R2:=λx y H Q=>rI IntMulOk (λi j=>.int (i*j)) x y H Q\/vqz K x y H Q\/vqy x y H Q
theorem vw7{X:Cx}{K:PySem.W.Frag}(hK:autoParam (X.K=K) Ŕ):OpR X (binaryOp .Mult) (vj7 K):=by subst hK;exact op_mulI.or (op_repR.or vjw)
theorem kz0{a:Int}(h:a.natAbs.log2<2000000):Builtin.Int.intBits a<=2000000:=by
 unfold Builtin.Int.intBits
 split
 ·exact Yt _
 ·omega
theorem mulOk_of{a b:Int}(h:K4 a b=true):IntMulOk a b:=by
 unfold K4 QQ at h;simp only[Bool.or_eq_true,Bool.and_eq_true,decide_eq_true_eq]at h;rcases h with(h|h)|h
 ·exact .of_left (intBits_le_64 h.1 h.2)
 ·exact .of_right (intBits_le_64 h.1 h.2)
 ·have h1:=kz0 h.1;have h2:=kz0 h.2;unfold IntMulOk Builtin.Int.intTooBig;have e:(2:Nat) ^ 27=134217728:=by decide
  have hb:bitsLine=134217728:=e;simp only[Bool.and_eq_true,decide_eq_true_eq,not_and];intro _ _;omega
theorem RepA.reps{K:PySem.W.Frag}{H:Hp}{ds:List D}{xs:List V}{bs:List Addr}(h:RepA K H true ds xs bs):∀k:Nat,∃cs,RepA K H true (List.replicate k ds).flatten (List.replicate k xs).flatten cs/\∀b∈cs,b∈bs
 |0=>⟨[],by simp only[List.replicate_zero,List.flatten_nil];unfold RepA;exact⟨rfl,rfl⟩,λ_ z=>(nomatch z)⟩
 |k+1=>by
  obtain⟨cs,r,hc⟩:=RepA.reps h k;rw[List.replicate_succ,List.replicate_succ,Yr,Yr];exact⟨bs++cs,r.app h,λb hb=>(List.mem_append.mp hb).elim id (hc b)⟩
theorem qzr{K:PySem.W.Frag}:Ad2 K (vj7 K) Wk:=by
 intro H x y s Q ox oy hf k;unfold Wk at hf;dsimp only at hf
 split at hf
 ·rename_i i j e1 e2
  split at hf
  ·rename_i hm;cases oq9 hf;exact .inl ⟨i,j,vk ox e1,vk oy e2,mulOk_of hm,k ⟨.dp,.int _,.int _,[]⟩ H rfl rfl JX⟩
  ·cases hf
 ·rename_i a n e1 e2
  split at hf
  ·rename_i hc;cases oq9 hf;obtain⟨l,xs,bs,e3,q3,r3,h3⟩:=z4 ox (.inl e1) hc.2.2.2;have q3:LsR K H l xs:=by rcases q3 with⟨_,z⟩|⟨z,_⟩;exact z;rw[e1]at z;cases z
   obtain⟨cs,r4,h4⟩:=r3.reps n.toNat;refine .inr (.inl ⟨l,n,xs,e3,vk oy e2,q3,hc.1,hc.2.1,by rw[<-r3.len];exact hc.2.2.1,λp hp=>?_⟩);exact k ⟨.rt,.lst _,.ref p,p::cs⟩ _ rfl rfl (K0 hp r4 λb hb=>ll9 _ (h3 b (h4 b hb)))
  ·cases hf
 ·rename_i z n e1 e2
  split at hf
  ·rename_i hc;cases oq9 hf;exact .inr (.inr ⟨z,n,(wK ox e1).1,vk oy e2,hc.1,k ⟨.dp,.str _,.str _,[]⟩ H rfl rfl (vza hc.2)⟩)
  ·cases hf
 ·cases hf
def dec(h:Heap)(u:Value):D:=open Classical in if e:∃d,jY h d u then e.choose else .non
theorem qzk{h:Heap}{u:Value}{d:D}(r:jY h d u):dec h u=d:=by
 unfold dec;have e:∃d,jY h d u:=⟨d,r⟩;rw[dif_pos e];exact kql e.choose_spec r
theorem kxa{h:Heap}{d:D}:∀{ds:List D} {us:List Value},CReps h ds us->us.any (λu=>peq (dec h u) d)=ds.any λz=>peq z d
 |[],_,r=>by unfold CReps at r;rw[r];rfl
 |z::ds,_,r=>by
  unfold CReps at r;obtain⟨u,rr,rfl,h1,h2⟩:=r;rw[List.any_cons,List.any_cons,qzk h1,kxa h2]
theorem kxz{h:Heap}:∀{ds:List D} {us:List Value} {u:Value},CReps h ds us->u∈us->∃d∈ds,jY h d u
 | [],_,_,r,hu=>by unfold CReps at r;rw[r]at hu;cases hu
 | z::ds,_,u,r,hu=>by
  unfold CReps at r;obtain⟨u',rr,rfl,h1,h2⟩:=r;rcases List.mem_cons.mp hu with rfl|hu
  ·exact⟨z,X6,h1⟩
  ·obtain⟨d,hd,c⟩:=kxz h2 hu;exact⟨d,lc9 _ hd,c⟩
theorem kvt:∀{n:Nat} {ds:List D} {d:D},D.flats n ds=true->d∈ds->d.flat n=true
 |_,[],_,_,h=>by cases h
 |n,z::ds,d,f,h=>by
  unfold D.flats at f;rw[Bool.and_eq_true]at f;rcases List.mem_cons.mp h with rfl|h
  ·exact f.1
  ·exact kvt f.2 h
section
variable {X:Cx}{Z:Fx0}{K:PySem.W.Frag}{q qa qb:Bool}{a b c:Ex}{u v:Ts}{e ea eb:Expr}{es:List Expr}{pos p:Pos}{σ:L2.St}{H:Hp}{L:Ls}{E:En}
noncomputable def qxz(K:PySem.W.Frag)(iy:Bool):R2:=λx y H Q=>∃d ds as bs p xs,RepL K H true d x as/\y=.ref p/\(SqL K H p xs\/SqT K H p xs)/\RepA K H true ds xs bs/\d.flat 30=true/\D.flats 30 ds=true/\Q (.bl (if iy then !(ds.any λz=>peq z d)else ds.any λz=>peq z d)) H
theorem vjz(hu:X.A.units+64<cLine):OpR X (compareOp .In) (qxz X.K false):=by
 intro pins s σ H x y v u Q I rx ry h;obtain⟨d,ds,as,bs,p,xs,h1,rfl,hq,ra,f1,f2,q⟩:=h;cases ry;have c1:=kqk I h1 f1 rx;have he:∀{us:List Value},CReps s.heap ds us->∀w,w∈us.toArray->SeqAt.EqAt X.A.in1 s w v (peq (dec s.heap w) d):=fun {us} cr w hw=>by
  obtain⟨d',hd,c⟩:=kxz cr (by simpa using hw);rw[qzk c];exact qv6 30 (kvt f2 hd) c c1 (by have:=L3.in1_units X.A;omega)
 rcases hq with hq|hq
 ·obtain⟨ag,r,pl,hz⟩:=I.list hq;have cr:=creps_of I ra f2 r;refine SeqAt.in_listAt _ pl.isList (he cr) ⟨.bl _,H,I,rfl,?_⟩;rw[List.any_toArray,kxa cr];exact q
 ·obtain⟨ag,r,pl,hz⟩:=I.tuple hq;have cr:=creps_of I ra f2 r;refine SeqAt.in_tupleAt _ pl (he cr) ⟨.bl _,H,I,rfl,?_⟩;rw[List.any_toArray,kxa cr];exact q
def qxy(iy:Bool):R2:=λx y H Q=>∃i j,x=.str i/\y=.str j/\Q (.bl (if iy then !JQ i j else JQ i j)) H
theorem opInStr:OpR X (compareOp .In) (qxy false):=λpins s σ H x y v u Q I rx ry ⟨i,j,e1,e2,q⟩=>qq2 pins s σ H x y v u Q I rx ry ⟨i,j,e1,e2,q⟩
def wj1(K:PySem.W.Frag)(iy:Bool):R2:=λx y H Q=>qxy iy x y H Q\/qxz K iy x y H Q
theorem vw8(hu:X.A.units+64<cLine)(hK:autoParam (X.K=K) Ŕ):OpR X (compareOp .In) (wj1 K false):=by subst hK;exact opInStr.or (vjz hu)
theorem z9{H:Hp}{l:Addr}{xs:List V}(h:LsR K H l xs):SqL K H l xs:=h.sq
theorem qqu{x y:Sl}{ys:List D}{iy:Bool}{Q:VK}(ox:x.ok K H)(oy:y.ok K H)(hy:y.d=.lst ys\/y.d=.tup ys)(hc:(x.d.flat 30&&D.flats 30 ys)=true)
  (k:Q (.bl (if iy then !(ys.any λz=>peq z x.d)else ys.any λz=>peq z x.d)) H):wj1 K iy x.v y.v H Q:=by
 rw[Bool.and_eq_true]at hc;obtain⟨l,xs,bs,e3,q3,r3,_⟩:=items oy hy;have r3':RepA K H true ys xs bs:=by
  cases ho:(y.o != .dp)with
  |true=>rw[ho]at r3;exact r3
  |false=>rw[ho]at r3;exact r3.wk
 refine .inr ⟨x.d,ys,x.as,bs,l,xs,RepO.wk ox,e3,?_,r3',hc.1,hc.2,k⟩;rcases q3 with⟨_,z⟩|⟨_,z⟩
 ·exact .inl (z9 z)
 ·exact .inr z
theorem vz0:Ad2 K (wj1 K false) (pu2 zV):=by
 intro H x y s Q ox oy hf k;unfold pu2 zV fIn at hf;dsimp only at hf;cases hy:y.d with
 | lst ys=>
  rw[hy]at hf;dsimp only at hf
  split at hf
  ·rename_i hc;cases oq9 hf;exact qqu ox oy (.inl hy) hc (k ⟨.dp,.bl _,.bl _,[]⟩ H rfl rfl x8)
  ·cases hf
 | tup ys=>
  rw[hy]at hf;dsimp only at hf
  split at hf
  ·rename_i hc;cases oq9 hf;exact qqu ox oy (.inr hy) hc (k ⟨.dp,.bl _,.bl _,[]⟩ H rfl rfl x8)
  ·cases hf
 | str b=>
  rw[hy]at hf;dsimp only at hf
  split at hf
  ·rename_i a hx;cases oq9 hf;exact .inl ⟨a,b,(wK ox hx).1,(wK oy hy).1,k ⟨.dp,.bl _,.bl _,[]⟩ H rfl rfl x8⟩
  ·cases hf
 |_=>rw[hy]at hf;cases hf
theorem kxm{g:Bool}{d:D}{v:V}{as:List Addr}(h:RepL K H g d v as):decide (v=.non)=isNon d:=by
 cases d with
 |non=>unfold RepL at h;rw[h.1];rfl
 |bl _=>unfold RepL at h;rw[h.1];rfl
 |int _=>unfold RepL at h;rw[h.1];rfl
 |str _=>unfold RepL at h;rw[h.1];rfl
 |tup _=>unfold RepL at h;obtain⟨a,xs,e,_⟩:=h;rw[e];rfl
 |lst _=>unfold RepL at h;obtain⟨a,xs,bs,e,_⟩:=h;rw[e];rfl
 |dct _=>unfold RepL at h;obtain⟨a,xs,bs,e,_⟩:=h;rw[e];rfl
 |obj _ _=>unfold RepL at h;obtain⟨_,x,o,C,e,_⟩:=h;rw[e];rfl
theorem vxx:Ad2 K (λx y H Q=>y=.non/\Q (.bl (decide (x=.non))) H) (f2First fIsNon):=by
 intro H x y s Q ox oy hf k;unfold f2First fIsNon at hf;dsimp only at hf
 split at hf
 ·rename_i hy;cases oq9 hf;have e:=kxm (RepO.wk oy);rw[hy]at e;refine⟨of_decide_eq_true e,?_⟩;rw[kxm (RepO.wk ox)];exact k ⟨.dp,.bl _,.bl _,[]⟩ H rfl rfl x8
 ·cases hf
theorem YW:Ad1 K (rU λi=>.int (-i)) (pu1 KK):=by
 intro H x s Q ox hf k;unfold pu1 KK at hf;dsimp only at hf
 split at hf
 ·rename_i i e;cases oq9 hf;exact⟨i,vk ox e,k ⟨.dp,.int _,.int _,[]⟩ H rfl rfl JX⟩
 ·cases hf
theorem qql(n:Nat)(i:Int):_root_.Q.ixN n i=L2.ixN n i:=rfl
theorem vkc{x y:Sl}{d:D}{Q:VK}(ox:x.ok K H)(oy:y.ok K H)(hf:jQ x.d y.d=some d)(k:∀z:Sl,z.o=sub x.o->z.d=d->z.ok K H->(∀b∈z.frz,b∈x.frz)->(∀b∈z.as,b∈x.as)->Q z.v H):rIx K x.v y.v H Q:=by
 have seq:∀ds:List D,(x.d=.lst ds\/x.d=.tup ds)->∀i:Int,y.d=.int i->((_root_.Q.ixN ds.length i).bind λj=>ds[j]?)=some d->rIx K x.v y.v H Q:=by
  intro ds hx i hy hd;obtain⟨l,xs,bs,e3,q3,r3,h3,h4⟩:=items ox hx;cases hj:_root_.Q.ixN ds.length i with
  | none=>rw[hj]at hd;cases hd
  | some j=>
   rw [hj]at hd;obtain⟨v,cs,e4,r4,h5⟩:=r3.get (show ds[j]?=some d from hd);have hat:atI xs i=some v:=by
    unfold atI;rw[<-r3.len,<-qql,hj];exact e4
   have fin:Q v H:=by
    cases ho:x.o with
    | dp=>
     rw[ho]at r4;exact k ⟨.dp,d,v,cs⟩ (by rw[ho];rfl) rfl r4 (λb hb=>(nomatch hb)) λb hb=>h3 b (h5 b hb)
    | no=>
     rw[ho]at r4;exact k ⟨.no,d,v,cs⟩ (by rw[ho];rfl) rfl r4 (λb hb=>h4 (by rw[ho];exact(λz=>nomatch z)) b (h5 b hb)) λb hb=>h3 b (h5 b hb)
    | rt=>
     rw[ho]at r4;exact k ⟨.no,d,v,cs⟩ (by rw[ho];rfl) rfl r4 (λb hb=>h4 (by rw[ho];exact(λz=>nomatch z)) b (h5 b hb)) λb hb=>h3 b (h5 b hb)
   rcases q3 with⟨_,z⟩|⟨_,z⟩
   ·exact .inl ⟨l,xs,i,v,e3,vk oy hy,z9 z,hat,fin⟩
   ·exact .inr (.inl ⟨l,xs,i,v,e3,vk oy hy,z,hat,fin⟩)
 unfold jQ at hf;cases hx:x.d with
 | lst ds=>
  rw [hx]at hf;cases hy:y.d with
  | int i=>rw[hy]at hf;exact seq ds (.inl hx) i hy hf
  | _=>rw[hy]at hf;cases hf
 | tup ds=>
  rw [hx]at hf;cases hy:y.d with
  | int i=>rw[hy]at hf;exact seq ds (.inr hx) i hy hf
  | _=>rw[hy]at hf;cases hf
 | str z=>
  rw [hx]at hf;cases hy:y.d with
  | int i=>
   rw [hy]at hf;have hf:((_root_.Q.ixN z.cps.size i).bind λj=>(z.cps.toList[j]?).map λc=>D.str ⟨#[c]⟩)=some d:=hf;cases hj:_root_.Q.ixN z.cps.size i with
   | none=>rw[hj]at hf;cases hf
   | some j=>
    rw[hj]at hf;cases hc:z.cps.toList[j]? with
    | none=>rw[Option.bind_some,hc]at hf;cases hf
    | some c=>
     rw[Option.bind_some,hc]at hf;cases oq9 hf;have hat:atI z.cps.toList i=some c:=by
      unfold atI;rw[Xa,<-qql,hj];exact hc
     obtain⟨e1,hz⟩:=wK ox hx;refine .inr (.inr ⟨z,i,c,e1,vk oy hy,hz,hat,?_⟩);have rp:∀g,RepL K H g (.str ⟨#[c]⟩) (.str ⟨#[c]⟩) []:=λg=>V5 (show(1:Nat)<=sizeLine by decide)
     cases ho:x.o with
     |dp=>exact k ⟨.dp,.str ⟨#[c]⟩,.str ⟨#[c]⟩,[]⟩ (by rw[ho];rfl) rfl (rp false) (λb hb=>(nomatch hb)) λb hb=>(nomatch hb)
     |no=>exact k ⟨.no,.str ⟨#[c]⟩,.str ⟨#[c]⟩,[]⟩ (by rw[ho];rfl) rfl (rp true) (λb hb=>(nomatch hb)) λb hb=>(nomatch hb)
     |rt=>exact k ⟨.no,.str ⟨#[c]⟩,.str ⟨#[c]⟩,[]⟩ (by rw[ho];rfl) rfl (rp true) (λb hb=>(nomatch hb)) λb hb=>(nomatch hb)
  |_=>rw[hy]at hf;cases hf
 |non=>rw[hx]at hf;cases hf
 |bl _=>rw[hx]at hf;cases hf
 |int _=>rw[hx]at hf;cases hf
 |dct _=>rw[hx]at hf;cases hf
 |obj _ _=>rw[hx]at hf;cases hf
theorem q_ix(ha:QV X Z qa a ea)(hb:QV X Z true b eb)(hs:kqr eb)(hK:autoParam (X.K=Z.K) Ŕ):QV X Z qa (j9 a b) (.Subscript ea eb pos):=
 qZ (vvw (hK▸qzb) ha hb hs) fun σ H Q b8=>ex8 b8 λE L r m w hc xc k=>by
  refine vY m w (show bnd (a E) _=some r from hc) xc λE1 s h1 x L1 H1 e1 e2 m1 w1 ok fr sr st sm=>?_
  refine vY m1 w1 h1 (xc.step st) λE2 s2 h2 y L2 H2 e3 e4 m2 w2 jh mv nq st2 fh=>?_
  obtain⟨z,hz,rfl⟩:=zq h2;cases hf:jQ s.2 s2.2 with
  |none=>rw[hf]at hz;cases hz
  |some d=>
   rw[hf]at hz;cases oq9 hz;have kx:=Vw ok fr st2 (fh rfl);refine vkc kx.1 jh (by rw[e2,e4];exact hf) λz zo zd ni zf za=>?_
   exact k _ _ rfl z L2 H2 (by rw[zo,e1]) zd m2 w2 ni (λb hb=>kx.2 b (zf b hb)) (V8 sr za) (st.trans st2) λhq=>qx (sm hq) (fh rfl)
theorem z6{op}(h:QE X Z q a ea):QE X Z q a (.BoolOp op [ea] pos):=vvs h
theorem z7(ha:QV X Z q a ea)(hb:QE X Z q b (.BoolOp .And (eb::es) pos)):QE X Z q (ww a b) (.BoolOp .And (ea::eb::es) pos):=qZ (vw0 ha hb) fun σ H Q b8=>ex8 b8 λE L r m w hc xc k=>
 vY m w (show bnd (a E) _=some r from hc) xc λE1 s h1 x L1 H1 e1 e2 m1 w1 ok fr sr st sm=>by
  cases hs:s.2 with
  | bl kk=>
   rw[hs]at h1;refine⟨kk,JY ok (e2.trans hs),?_⟩;cases kk with
   |true=>
    rw[Xe rfl];exact⟨E1,L1,r,m1,w1,h1,xc.step st,λE' a z x L' H' e1 e2 m' w' cz ia=>k E' a z x L' H' e1 e2 m' w' (st.trans cz) λhq=>⟨qx (sm hq) (ia hq).1,λb hb=>J5 (sm hq) ((ia hq).2 b hb)⟩⟩
   |false=>
    rw[Xl (by decide)];cases oq9 h1;obtain⟨w3,st3⟩:=K7 w1 st (x8 (K:=Z.K) (H:=H1) (i:=false) (fr:=[])) (λ_ z=>(nomatch z)) (λ_ z=>(nomatch z)) (λ_ z=>(nomatch z));exact k _ _ rfl ⟨.dp,.bl false,.bl false,[]⟩ L1 H1 rfl rfl m1 w3 st3 λhq=>⟨sm hq,λ_ z=>(nomatch z)⟩
  |_=>rw[hs]at h1;cases h1
theorem wj4(ha:QV X Z q a ea)(hb:QE X Z q b (.BoolOp .Or (eb::es) pos)):QE X Z q (cOr a b) (.BoolOp .Or (ea::eb::es) pos):=qZ (wjd ha hb) fun σ H Q b8=>ex8 b8 λE L r m w hc xc k=>
 vY m w (show bnd (a E) _=some r from hc) xc λE1 s h1 x L1 H1 e1 e2 m1 w1 ok fr sr st sm=>by
  cases hs:s.2 with
  | bl kk=>
   rw[hs]at h1;refine⟨kk,JY ok (e2.trans hs),?_⟩;cases kk with
   |false=>
    rw[Xl (by decide)];exact⟨E1,L1,r,m1,w1,h1,xc.step st,λE' a z x L' H' e1 e2 m' w' cz ia=>k E' a z x L' H' e1 e2 m' w' (st.trans cz) λhq=>⟨qx (sm hq) (ia hq).1,λb hb=>J5 (sm hq) ((ia hq).2 b hb)⟩⟩
   |true=>
    rw[Xe rfl];cases oq9 h1;obtain⟨w3,st3⟩:=K7 w1 st (x8 (K:=Z.K) (H:=H1) (i:=true) (fr:=[])) (λ_ z=>(nomatch z)) (λ_ z=>(nomatch z)) (λ_ z=>(nomatch z));exact k _ _ rfl ⟨.dp,.bl true,.bl true,[]⟩ L1 H1 rfl rfl m1 w3 st3 λhq=>⟨sm hq,λ_ z=>(nomatch z)⟩
  |_=>rw[hs]at h1;cases h1
theorem wki{x:Sl}{k:Bool}(ok:x.ok K H)(h:truth x.d=some k)(hd:∀ay,x.d≠.dct ay):vzg K x.v H k:=by
 cases hx:x.d with
 |non=>rw[hx]at h;rw[qz9 ok hx];exact(oq9 h).symm
 |bl b=>rw[hx]at h;rw[JY ok hx];exact(oq9 h).symm
 |int i=>rw[hx]at h;rw[vk ok hx];exact(oq9 h).symm
 |str z=>
  rw[hx]at h;obtain⟨e,hz⟩:=wK ok hx;rw[e];refine⟨hz,?_⟩;rw[<-oq9 h];show(z.cps.size != 0)=(((z.cps.size:Nat):Int) != 0);rw[Bool.eq_iff_iff];simp
 |lst ds=>
  rw[hx]at h;obtain⟨a,xs,bs,e,q,r,_⟩:=items ok (.inl hx);rw[e];have q':LsR K H a xs:=by rcases q with⟨_,z⟩|⟨z,_⟩;exact z;rw[hx]at z;cases z
  refine .inl ⟨xs,z9 q',?_⟩;rw[<-oq9 h];have:=r.len;cases ds<;>cases xs<;>simp_all
 |tup ds=>
  rw[hx]at h;obtain⟨a,xs,bs,e,q,r,_⟩:=items ok (.inr hx);rw[e];have q':SqT K H a xs:=by rcases q with⟨z,_⟩|⟨_,z⟩;rw[hx]at z;cases z;exact z
  refine .inr (.inl ⟨xs,q',?_⟩);rw[<-oq9 h];have:=r.len;cases ds<;>cases xs<;>simp_all
 |dct ay=>exact absurd hx (hd ay)
 |obj c f=>rw[hx]at h;cases h
theorem kqy{d:D}{k:Bool}(h:truthQ d=some k):truth d=some k/\∀ay,d≠.dct ay:=by
 cases d<;>first|exact⟨h,λ_ z=>nomatch z⟩|cases h
theorem zj(h:QV X Z q a ea)(he:autoParam (∀dz,isTrue ea X.env dz=(do let v <-dz;standAt ea.pos;holding [v] (truthy v))) Ŗ)(hK:autoParam (X.K=Z.K) Ŕ):QT X Z q (tEQ a) ea:=kxq (qwm h he) fun σ H Q b8=>ex8 b8 λE L r m w hc xc k=>
 vY m w (show bnd (a E) _=some r from hc) xc λE1 s h1 x L1 H1 e1 e2 m1 w1 ok fr sr st sm=>by
  obtain⟨kk,hk,rfl⟩:=zq h1;obtain⟨h2,h3⟩:=kqy hk;exact⟨kk,hK▸wki ok (by rw[e2];exact h2) (by rw[e2];exact h3),k _ _ rfl L1 H1 m1 w1 st sm⟩
theorem vjd(h:QV X Z q a ea)(hK:autoParam (X.K=Z.K) Ŕ):QE X Z q (Vv a) (.UnaryOp .Not ea pos):=by
 intro pins s σ H Q I ⟨E,L,r,m,w,hc,xc,k⟩;refine UnaryOp_ (thn (h pins s σ H _ I (vY (G:=λv H1=>∃kk,vzg X.K v H1 kk/\Q (.bl (!kk)) H1) m w (show bnd (a E) _=some r from hc) xc λE1 s h1 x L1 H1 e1 e2 m1 w1 ok fr sr st sm=>?_)) λv s1 ⟨x,H1,I1,r1,kk,t1,q1⟩=>?_)
 ·obtain⟨y,hy,rfl⟩:=zq h1;cases hk:truthQ s.2 with
  |none=>rw[hk]at hy;cases hy
  |some kk=>
   rw[hk]at hy;cases oq9 hy;obtain⟨h2,h3⟩:=kqy hk;refine⟨kk,hK▸wki ok (by rw[e2];exact h2) (by rw[e2];exact h3),?_⟩;obtain⟨w3,st3⟩:=K7 w1 st (x8 (K:=Z.K) (H:=H1) (i:=!kk) (fr:=[])) (λ_ z=>(nomatch z)) (λ_ z=>(nomatch z)) (λ_ z=>(nomatch z));exact k _ _ rfl ⟨.dp,.bl (!kk),.bl (!kk),[]⟩ L1 H1 rfl rfl m1 w3 st3 λhq=>⟨sm hq,λ_ z=>(nomatch z)⟩
 ·exact not_of (thn (qxu pins s1 σ H1 x v (λkk H2=>Q (.bl (!kk)) H2) I1 r1 ⟨kk,t1,q1⟩) λc s2 ⟨H2,I2,q2⟩=>⟨.bl (!c),H2,I2,rfl,q2⟩)
end
theorem Z4{α:Type}:∀{L:List α} {i:Nat} {q:α},L[i]?=some q->∃A B,L=A++q::B/\∀q',L.set i q'=A++q'::B
 |[],_,_,h=>by simp at h
 |a::L,0,q,h=>by
  have e:a=q:=by simpa using h
  subst e;exact⟨[],L,rfl,λ_=>rfl⟩
 |a::L,i+1,q,h=>by
  obtain⟨A,B,e,f⟩:=Z4 (L:=L) (i:=i) (by simpa using h);exact⟨a::A,B,by rw[e];rfl,λq'=>by rw[List.set_cons_succ,f];rfl⟩
section
variable {K:PySem.W.Frag}{H:Hp}{M T L:Ls}{y y':Sl}{l:Addr}{ob:HO}
theorem World.write(w:World K H (some y::(T++M)))(hl:l∈y.own)(ok':y'.ok K (upd H l ob))(nd:y'.own.Nodup)(h1:∀a∈y'.own,a∈y.own\/a∈j8 T)(h2:∀a∈y'.frz,a∈y.as\/a∈j8 T\/a∈k8 T)(h3:∀a∈y'.own,a∉y'.frz):
  World K (upd H l ob) (some y'::M)/\Step H (some y::(T++M)) (upd H l ob) (some y'::M):=by
 have wn:=w.nd;rw [kQ,k4,X8,X8]at wn;obtain⟨n1,⟨n2,n3,n4⟩,n5⟩:=wn;have oy:l∈j8 (some y::(T++M)):=by rw[kQ];exact ll9 _ hl
 have jn:=w.own_al oy;have ds:∀a,(a∈y.own\/a∈j8 T\/a∈j8 M)->¬(a∈y.frz\/a∈k8 T\/a∈k8 M):=λa ha hf=>by
  refine w.ds a ?_ ?_
  ·rw[kQ,k4];rcases ha with z|z|z
   ·exact ll9 _ z
   ·exact lr9 _ (ll9 _ z)
   ·exact lr9 _ (lr9 _ z)
  ·rw[vQ,kX];rcases hf with z|z|z
   ·exact ll9 _ z
   ·exact lr9 _ (ll9 _ z)
   ·exact lr9 _ (lr9 _ z)
 have noM:∀z,some z∈M->l∉z.as:=λz hz ha=>by
  rcases Sl.as_of ha with q|q
  ·exact n5 l hl l (lr9 _ (mem_owned.mpr ⟨z,hz,q⟩)) rfl
  ·exact ds l (.inl hl) (.inr (.inr (mem_frozen.mpr ⟨z,hz,q⟩)))
 have ke:∀a o,H a=some o->a≠l->upd H l ob a=some o:=λa o e ne=>by rw[kJ ne];exact e
 have kp:∀as:List Addr,l∉as->Kp H (upd H l ob) as:=λas hn=>by
  refine⟨λa xs e=>ke a _ e λz=>?_,λa o u e=>ke a _ e λz=>?_,λa ha o e=>ke a o e λz=>hn (z▸ha)⟩
  ·subst z;rcases jn with⟨_,q⟩|⟨_,q⟩|⟨_,q⟩<;>(rw[e]at q;cases q)
  ·subst z;rcases jn with⟨_,q⟩|⟨_,q⟩|⟨_,q⟩<;>(rw[e]at q;cases q)
 have wM:World K (upd H l ob) M:=by
  have w1:World K H M:=w.tail.right;exact⟨λz hz=>RepO.kp (w1.ok z hz) (kp _ (noM z hz)),w1.nd,w1.ds⟩
 refine⟨wM.cons ok' nd (λa ha hM=>?_) (λa ha hM=>?_) (λa ha hM=>?_) h3,λa o e hn=>ke a o e λz=>hn (z▸oy),λa ha=>?_,λa ha=>?_⟩
 ·rcases h1 a ha with z|z
  ·exact n5 a z a (lr9 _ hM) rfl
  ·exact n4 a z a hM rfl
 ·rcases h1 a ha with z|z
  ·exact ds a (.inl z) (.inr (.inr hM))
  ·exact ds a (.inr (.inl z)) (.inr (.inr hM))
 ·rcases h2 a ha with z|z|z
  ·rcases Sl.as_of z with z|z
   ·exact n5 a z a (lr9 _ hM) rfl
   ·exact ds a (.inr (.inr hM)) (.inl z)
  ·exact n4 a z a hM rfl
  ·exact ds a (.inr (.inr hM)) (.inr (.inl z))
 ·rw[kQ]at ha;rw[kQ,k4];rcases List.mem_append.mp ha with z|z
  ·rcases h1 a z with z|z
   ·exact .inl (ll9 _ z)
   ·exact .inl (lr9 _ (ll9 _ z))
  ·exact .inl (lr9 _ (lr9 _ z))
 ·rw[vQ]at ha;rw[kQ,k4,vQ,kX];rcases List.mem_append.mp ha with z|z
  ·rcases h2 a z with z|z|z
   ·rcases Sl.as_of z with z|z
    ·exact .inr (.inl (ll9 _ z))
    ·exact .inl (ll9 _ z)
   ·exact .inr (.inl (lr9 _ (ll9 _ z)))
   ·exact .inl (lr9 _ (ll9 _ z))
  ·exact .inl (lr9 _ (lr9 _ z))
theorem World.writeAt{i:Nat}(w:World K H (T++L))(hy:L[i]?=some (some y))(hl:l∈y.own)(ok':y'.ok K (upd H l ob))(nd:y'.own.Nodup)(h1:∀a∈y'.own,a∈y.own\/a∈j8 T)(h2:∀a∈y'.frz,a∈y.as\/a∈j8 T\/a∈k8 T)(h3:∀a∈y'.own,a∉y'.frz):
  World K (upd H l ob) (L.set i (some y'))/\Step H (T++L) (upd H l ob) (L.set i (some y')):=by
 obtain⟨A,B,e,f⟩:=Z4 hy;rw[f];subst e;have p:(T++(A++some y::B)).Perm (some y::(T++(A++B))):=by
  refine(List.Perm.append_left T (List.perm_middle (a:=some y) (l₁:=A) (l₂:=B))).trans List.perm_middle
 obtain⟨w2,s2⟩:=World.write (M:=A++B) (w.perm p) hl ok' nd h1 h2 h3;exact⟨w2.perm List.perm_middle.symm,s2.perm p.symm List.perm_middle.symm⟩
end
theorem RepA.snoc{K:PySem.W.Frag}{H:Hp}{g:Bool}{d:D}{x:V}{cs:List Addr}(h:RepL K H g d x cs){ds:List D}{xs:List V}{bs:List Addr}(r:RepA K H g ds xs bs):RepA K H g (ds++[d]) (xs++[x]) (bs++cs):=by
 refine RepA.app ?_ r;unfold RepA;exact⟨x,[],cs,[],rfl,by simp,h,by unfold RepA;exact⟨rfl,rfl⟩⟩
theorem kwr{K:PySem.W.Frag}{H:Hp}{y:Sl}{ds:List D}(ok:y.ok K H)(hd:y.d=.lst ds)(ho:y.o≠.no):∃l xs bs,y.v=.ref l/\H l=some (.lst xs)/\y.as=l::bs/\l∈y.own/\RepA K H (y.o != .dp) ds xs bs:=by
 obtain⟨o,d,v,as⟩:=y;dsimp only at hd ho;subst hd;cases o with
 |no=>exact absurd rfl ho
 |rt=>
  obtain⟨a,xs,bs,rfl,r,q,rfl⟩:=(show RepR K H (.lst ds) v as from ok);exact⟨a,xs,bs,rfl,q,rfl,by simp[Sl.own],r⟩
 |dp=>
  have ok:RepL K H false (.lst ds) v as:=ok;unfold RepL at ok;obtain⟨a,xs,bs,rfl,r,q⟩:=ok;rcases q with⟨q,rfl⟩|⟨z,_⟩
  ·exact⟨a,xs,bs,rfl,q,rfl,by simp[Sl.own],r⟩
  ·cases z
theorem kwm{K:PySem.W.Frag}{H:Hp}{T L:Ls}{i:Nat}{y:Sl}{l:Addr}{xs xs':List V}{bs cs:List Addr}{o':Own}{ds':List D}(w:World K H (T++L))(hy:L[i]?=some (some y))(hH:H l=some (.lst xs))(ha:y.as=l::bs)(hl:l∈y.own)(hv:y.v=.ref l)
  (r:RepA K H (o' != .dp) ds' xs' cs) (hc:(o'=.rt/\∀a∈cs,a∈bs\/a∈j8 T\/a∈k8 T)\/(o'=.dp/\y.o=.dp/\cs.Nodup/\∀a∈cs,a∈bs\/a∈j8 T)):
  World K (upd H l (.lst xs')) (L.set i (some ⟨o',.lst ds',y.v,l::cs⟩))/\Step H (T++L) (upd H l (.lst xs')) (L.set i (some ⟨o',.lst ds',y.v,l::cs⟩)):=by
 have oL:l∈j8 L:=mem_owned.mpr ⟨y,x4 hy,hl⟩;have oy:l∈j8 (T++L):=by rw[k4];exact lr9 _ oL
 have nd:=w.nd;rw [k4,X8]at nd;have nT:l∉j8 T:=λz=>nd.2.2 l z l oL rfl
 have nF:l∉k8 T:=λz=>w.ds l oy (by rw[kX];exact ll9 _ z)
 have yn:y.own.Nodup:=by
  obtain⟨A,B,e,_⟩:=Z4 hy;have:=nd.2.1;rw[e,k4,kQ,X8]at this;exact(List.nodup_append.mp this.2.1).1
 have nb:l∉bs:=λz=>by
  cases ho:y.o with
  | no=>unfold Sl.own at hl;rw[ho]at hl;exact nomatch hl
  | rt=>
   have:l∈y.frz:=by unfold Sl.frz;rw[ho,ha];exact z
   exact w.ds l oy (by rw[kX];exact lr9 _ (mem_frozen.mpr ⟨y,x4 hy,this⟩))
  | dp=>
   unfold Sl.own at yn;rw[ho,ha]at yn;exact(List.nodup_cons.mp yn).1 z
 have nc:l∉cs:=λz=>by
  rcases hc with⟨_,hc⟩|⟨_,_,_,hc⟩
  ·rcases hc l z with q|q|q
   ·exact nb q
   ·exact nT q
   ·exact nF q
  ·rcases hc l z with q|q
   ·exact nb q
   ·exact nT q
 have kp:Kp H (upd H l (.lst xs')) cs:=by
  have k2:∀a o,H a=some o->a≠l->upd H l (.lst xs') a=some o:=λa o e ne=>by rw[kJ ne];exact e
  refine⟨λa zs e=>k2 a _ e λz=>?_,λa o u e=>k2 a _ e λz=>?_,λa ha o e=>k2 a o e λz=>nc (z▸ha)⟩
  ·subst z;rw[hH]at e;cases e
  ·subst z;rw[hH]at e;cases e
 have r':=r.kp kp;rcases hc with⟨rfl,hc⟩|⟨rfl,hdp,lu,hc⟩
 ·refine World.writeAt w hy hl (y':=⟨.rt,.lst ds',y.v,l::cs⟩) ⟨l,xs',cs,hv,r',xJ,rfl⟩ (by simp[Sl.own]) (λa h=>?_) (λa h=>?_) (λa h z=>?_)
  ·have:a=l:=by simpa [Sl.own]using h
   subst this;exact .inl hl
  ·rcases hc a (by simpa [Sl.frz]using h)with q|q
   ·exact .inl (by rw[ha];exact lc9 _ q)
   ·exact .inr q
  ·have:a=l:=by simpa [Sl.own]using h
   subst this;exact nc (by simpa [Sl.frz]using z)
 ·have oa:y.own=y.as:=by unfold Sl.own;rw[hdp]
  refine World.writeAt w hy hl (y':=⟨.dp,.lst ds',y.v,l::cs⟩) ?_ (List.nodup_cons.mpr ⟨nc,lu⟩) (λa h=>?_) (λa h=>(nomatch h)) (λa h z=>(nomatch z))
  ·show RepL K _ false (.lst ds') y.v (l::cs);unfold RepL;exact⟨l,xs',cs,hv,r',.inl ⟨xJ,rfl⟩⟩
  ·rcases List.mem_cons.mp (show a∈l::cs from h)with q|q
   ·subst q;exact .inl hl
   ·rcases hc a q with q|q
    ·exact .inl (by rw[oa,ha];exact lc9 _ q)
    ·exact .inr q
section
variable {X:Cx}{Z:Fx0}{pn:List Nat}{q:Bool}{c:Ex}{e:Expr}{σ:L2.St}{H:Hp}{L:Ls}{E:En}
theorem vwg{K:PySem.W.Frag}{x:Sl}{ds:List D}(ok:x.ok K H)(hd:x.d=.lst ds):tyV K "list" x.v H:=by
 obtain⟨a,xs,bs,e1,q1,_⟩:=items ok (.inl hd);rw[e1];rcases q1 with⟨_,z⟩|⟨z,_⟩
 ·exact .inl ⟨rfl,xs,z.sq⟩
 ·rw[hd]at z;cases z
theorem vx6{K:PySem.W.Frag}{x:Sl}(ok:x.ok K H)(b:Bool)(hb:b=false->vK x.sd=true):∃cs,RepL K H b x.d x.v cs/\(∀a∈cs,a∈x.as)/\(b=false->∀a∈cs,a∈x.own)/\(b=false->x.own.Nodup->cs.Nodup):=by
 cases b with
 | true=>exact⟨x.as,RepO.wk ok,λ_ h=>h,(λz=>by cases z),(λz=>by cases z)⟩
 | false=>
  have t:=hb rfl;unfold vK at t
  by_cases ho:x.o=.dp
  ·have e:x.own=x.as:=by unfold Sl.own;rw[ho]
   refine⟨x.as,?_,λ_ h=>h,λ_ a h=>by rw[e];exact h,λ_ n=>by rw[e]at n;exact n⟩;have:=ok;unfold Sl.ok at this;rw[ho]at this;exact this
  ·have hp:x.d.pure=true:=by
    rcases Bool.or_eq_true_iff.mp t with z|z
    ·exact absurd (by simpa using z) ho
    ·exact z
   obtain⟨z,rp⟩:=RepL.pu (g':=false) (RepO.wk ok) hp;exact⟨[],rp,λ_ h=>(nomatch h),λ_ _ h=>(nomatch h),λ_ _=>Y8⟩
theorem Z0{α:Type}{l:List α}{i:Nat}{x:α}(h:l[i]?=some x):l.set i x=l:=by
 obtain⟨h1,h2⟩:=List.getElem?_eq_some_iff.mp h;rw[<-h2];simp
theorem mut1 {D':Ends} {f:List D->D->Option (List D)} {i:Nat} {r:Fl} {G:V->V->Hp->Prop} (m:Mt E σ L) (w:World Z.K H L) (hc:xz f i c E=some r) (k:FlP Z pn D' σ H L r)
  (g:∀ (l:Addr) (x:V) (xs:List V) (ds ds':List D) (d:D) (bs cs:List Addr) (H1:Hp) (gg:Bool),f ds d=some ds'->H1 l=some (.lst xs)->RepA Z.K H1 gg ds xs bs->RepL Z.K H1 gg d x cs ->
   (∀ xs' es,RepA Z.K H1 gg ds' xs' es->(∀a∈es,a∈bs\/a∈cs)->((bs++cs).Nodup->es.Nodup)->D'.nx σ (upd H1 l (.lst xs')))->G (.ref l) x H1):
  ∃ v,σ[i]?=some (some v)/\tyV Z.K "list" v H/\tQ Z q c σ H (G v):=by
 unfold xz at hc;cases h0:E[i]? with
 | none=>rw[h0]at hc;cases hc
 | some s0 =>
  cases s0 with
  | none=>rw[h0]at hc;cases hc
  | some s0=>
   obtain ⟨o0,d0⟩:=s0;cases d0 with
   | lst ds0=>
    rw [h0,Xe (show J3 (some (some (o0,D.lst ds0)))=true from rfl)]at hc;obtain ⟨x0,a1,a2,a3,a4⟩:=m.get h0;refine ⟨x0.v,a4,vwg (w.ok x0 (x4 a1)) a3,?_⟩;refine VY m w hc k λE1 s h1 x L1 H1 e1 e2 m1 w1 st _=>?_
    cases hE:E1[i]? with
    | none=>rw[hE]at h1;cases h1
    | some s1=>
     cases s1 with
     | none=>rw[hE]at h1;cases h1
     | some s1=>
      obtain⟨oo,dd⟩:=s1;rw [hE]at h1;cases dd with
      | lst ds=>
       dsimp only at h1
       by_cases jg:oo=.no
       ·rw [Xe jg]at h1;cases h1
       ·rw [Xl jg]at h1;cases hfd:f ds s.2 with
        | none=>rw[hfd]at h1;cases h1
        | some ds'=>
         rw[hfd]at h1;obtain⟨y,b1,b2,b3,b4⟩:=m1.get hE;have hv:y.v=x0.v:=by rw[a4]at b4;exact(oq9 (oq9 b4)).symm
         obtain⟨l,xs,bs,c1,c2,c3,c4,c5⟩:=kwr (w1.ok y (lc9 _ (x4 b1))) b3 (by rw[b2];exact jg);have ex0:x0.v=.ref l:=hv▸c1;rw[ex0];have wT:World Z.K H1 ([some x]++L1):=w1;have okx:=w1.head;have nd:=w1.nd;rw[kQ,X8]at nd;have oT:j8 [some x]=x.own:=by simp
         have fT:k8 [some x]=x.frz:=by simp
         by_cases hd:oo=.dp/\vK s=true
         ·rw[Xe hd]at h1;cases oq9 h1;have hyo:y.o=.dp:=b2.trans hd.1;rw[hyo]at c5;obtain⟨cs,r1,h3,h4,h5⟩:=vx6 okx false λ_=>by rw[show x.sd=s from by simp[Sl.sd,e1,e2]];exact hd.2
          refine g l x.v xs ds ds' s.2 bs cs H1 false hfd c2 c5 (by rw[<-e2];exact r1) λxs' es re he hn=>?_
          have ynd:(bs++cs).Nodup:=by
           have yo:y.own=l::bs:=by unfold Sl.own;rw[hyo,c3]
           obtain⟨A,B,e,_⟩:=Z4 b1;have q:=nd.2.1;rw[e,k4,kQ,X8]at q;have q2:=(List.nodup_append.mp q.2.1).1;rw[yo]at q2;rw[X8];refine⟨(List.nodup_cons.mp q2).2,h5 rfl nd.1,λa ha b hb gu=>?_⟩;subst gu;exact nd.2.2 a (h4 rfl a hb) a (mem_owned.mpr ⟨y,x4 b1,by rw[yo];exact lc9 _ ha⟩) rfl
          obtain⟨w3,s3⟩:=kwm (o':=.dp) (ds':=ds') (xs':=xs') wT b1 c2 c3 c4 c1 re (.inr ⟨rfl,hyo,hn ynd,λa ha=>(he a ha).imp id λz=>by rw[oT];exact h4 rfl a z⟩);refine k σ _ _ Pn.refl ?_ w3 (st.trans s3);have:=m1.set (x:=⟨.dp,.lst ds',y.v,l::es⟩) i;rw[Z0 b4]at this;exact this
         ·rw[Xl hd]at h1;cases oq9 h1;have c6:RepA Z.K H1 true ds xs bs:=by
           cases hb:(y.o != .dp)with
           |true=>rw[hb]at c5;exact c5
           |false=>rw[hb]at c5;exact c5.wk
          refine g l x.v xs ds ds' s.2 bs x.as H1 true hfd c2 c6 (by rw[<-e2];exact RepO.wk okx) λxs' es re he hn=>?_
          obtain⟨w3,s3⟩:=kwm (o':=.rt) (ds':=ds') (xs':=xs') wT b1 c2 c3 c4 c1 re (.inl ⟨rfl,λa ha=>(he a ha).imp id λz=>by rw[oT,fT];exact Sl.as_of z⟩);refine k σ _ _ Pn.refl ?_ w3 (st.trans s3);have:=m1.set (x:=⟨.rt,.lst ds',y.v,l::es⟩) i;rw[Z0 b4]at this;exact this
      |_=>cases h1
   |_=>rw[h0]at hc;cases hc
theorem wj8{i:Nat}{o:Expr}{be aw pos:Pos}(hb:PE X (.Call (.Attribute o "append" be) [e] [] aw) (tBM Z.K "list" kkx (Qj i) (qzy (tQ Z q c) vzl)))(hs:autoParam (swapsWith (.Call (.Attribute o "append" be) [e] [] aw) none pos.line X.env=pure false) Ŕ):
  QS X Z pn (xz xV i c) (.Expr (.Call (.Attribute o "append" be) [e] [] aw) pos):=zY (qkp hb hs) λD σ H b8=>ex7 b8 λE L r m w hc k=>
 mut1 (G:=λv x H1=>kkx v [x] H1 λ_ H2=>D.nx σ H2) m w hc k λl x xs ds ds' d bs cs H1 gg hf hH ra rx fin=>by
  unfold xV at hf
  by_cases hl:ds.length<big
  ·rw[Xe hl]at hf;cases oq9 hf;exact⟨l,xs,x,rfl,rfl,hH,by rw[<-ra.len];exact hl,fin (xs++[x]) (bs++cs) (RepA.snoc rx ra) (λa ha=>List.mem_append.mp ha) λh=>h⟩
  ·rw[Xl hl]at hf;cases hf
end
section
variable {X:Cx}{Z:Fx0}{pn:List Nat}{q:Bool}{a b c:Ex}{tg e ea eb:Expr}{σ:L2.St}{H:Hp}{L:Ls}{E:En}{pos p:Pos}
theorem vqj{pins:List (Addr×Obj)}{H1:Hp}{s1:Shared}{x:Str}{t:Tok}{R:It->Hp->Prop}(I1:L2.Inv X pins σ H1 s1)(q:R (Its x) H1):wpAny (model X.prog X.w) X.A (pyIter (.str x t)) (PIE X pins σ tg R) X.xe s1:=by
 have fp:∀b∈[s1.heap.objs.size],vZ X pins H1 b:=λb hb=>by
  have e:b=s1.heap.objs.size:=by simpa using hb
  subst e;exact I1.fpOk (Xg _) (I1.hok.fresh (Xg _))
 cases ha:x.cps.all (· < 128)
 ·exact wpAny_pyIter_wide ha ⟨s1.heap.objs.size,[s1.heap.objs.size],_,_,H1,rfl,I1.kept (t':=s1.toks) λb o e=>X2 _ e,kxb (λA' hA=>PySem.Walks.strWide hA _ x t) (λ_ _ _ _ _ st h=>wpAny_pyIter_striter_wide st h) (by decide),⟨_,Xd _ rfl,rfl,rfl⟩,fp,q⟩
 ·exact wpAny_pyIter_ascii ha ⟨s1.heap.objs.size,[s1.heap.objs.size],_,_,H1,rfl,I1.kept (t':=s1.toks) λb o e=>X2 _ e,kxb (λA' hA=>PySem.Walks.strAscii hA _ x t) (λ_ _ _ _ _ st h=>wpAny_pyIter_striter_ascii st h) (by decide),⟨_,Xd _ rfl,rfl,rfl⟩,fp,q⟩
theorem vwc{K:PySem.W.Frag}{H:Hp}(c:Nat):Sl.ok K H ⟨.no,.str ⟨#[c]⟩,.str ⟨#[c]⟩,[]⟩:=by
 show RepL K H true _ _ _;exact V5 (show(1:Nat)<=sizeLine by decide)
theorem vwb{K:PySem.W.Frag}{H:Hp}(i:Int):Sl.ok K H ⟨.no,.int i,.int i,[]⟩:=by
 show RepL K H true _ _ _;exact zZ
noncomputable def iAny(K:PySem.W.Frag)(tl:TE):TI:=fun σ H R=>tl σ H λx H1=>(∃a xs,x=.ref a/\SqL K H1 a xs/\(xs.length<=sizeLine->R (Itl K a) H1))\/(∃a xs,x=.ref a/\SqT K H1 a xs/\(xs.length<=sizeLine->R (Itt K a) H1))\/∃z,x=.str z/\R (Its z) H1
theorem vvp{l:Expr}{tl:TE}(hl:PE X l tl):PI X tg l (iAny X.K tl):=by
 intro pins s σ H R I h;have h':tl σ H λx H1=>(∃a xs,x=.ref a/\SqL X.K H1 a xs/\(xs.length<=sizeLine->R (Itl X.K a) H1))\/(∃a xs,x=.ref a/\SqT X.K H1 a xs/\(xs.length<=sizeLine->R (Itt X.K a) H1))\/∃z,x=.str z/\R (Its z) H1:=h
 refine thn (hl pins s σ H _ I h') λv s1 ⟨x,H1,I1,r1,q1⟩=>?_
 rcases q1 with⟨a,xs,rfl,hq,q⟩|⟨a,xs,rfl,hq,q⟩|⟨z,rfl,q⟩
 ·cases r1;obtain⟨ag,rv,p,hz⟩:=I1.list hq;refine wpAny_pyIter_list p.isList ?_;refine⟨s1.heap.objs.size,[s1.heap.objs.size],_,_,H1,rfl,I1.kept (t':=s1.toks) λb o e=>X2 _ e,qjz a _,⟨_,Xd _ rfl,rfl,rfl⟩,λb hb=>?_,q hz⟩;have e:b=s1.heap.objs.size:=by simpa using hb
  subst e;exact I1.fpOk (Xg _) (I1.hok.fresh (Xg _))
 ·cases r1;obtain⟨ag,rv,p,hz⟩:=I1.tuple hq;refine wpAny_pyIter_tuple (show s1.heap.IsTuple a ag.toArray from p) ?_;refine⟨s1.heap.objs.size,[s1.heap.objs.size],_,_,H1,rfl,I1.kept (t':=s1.toks) λb o e=>X2 _ e,kzo a _,⟨_,Xd _ rfl,rfl,rfl⟩,λb hb=>?_,q hz⟩;have e:b=s1.heap.objs.size:=by simpa using hb
  subst e;exact I1.fpOk (Xg _) (I1.hok.fresh (Xg _))
 ·obtain⟨t,rfl⟩:=r1;exact vqj I1 q
theorem Jw(h:QE X Z q c e)(hK:autoParam (X.K=Z.K) Ŕ):QI X Z q tg (itS c) e:=λpins s σ H R I b8=>ex8 b8 λE L r m w hc xc k=>by
 refine(hK▸vvp h) pins s σ H R I ?_;refine vja m w (show bnd (c E) _=some r from hc) xc λE1 s h1 x L1 H1 e1 e2 m1 w1 st sm=>?_
 obtain⟨ds,hd,rfl⟩:=zq h1;have ok:=w1.head;have wT:World Z.K H1 (L1++[x.let].map some):=by
  refine World.comm (L:=[some x.let]) ?_;exact w1.tail.consNo (Wj ok) rfl λb hb=>w1.apart b hb
 have sT:Step H L H1 (L1++[x.let].map some):=by
  refine⟨st.keep,λb hb=>?_,λb hb=>?_⟩
  ·have:b∈j8 L1:=by simpa [ZX]using hb
   exact st.own b (by rw[kQ];exact lr9 _ this)
  ·have:b∈k8 L1\/b∈x.as:=by simpa [ZX]using hb
   rcases this with z|z
   ·exact st.frz b (by rw[vQ];exact lr9 _ z)
   ·exact kkr st b z
 cases hx:x.d with
 | lst es=>
  rw[<-e2,hx]at hd;have oi:es=ds:=oq9 hd;subst oi;obtain⟨a,xs,bs,ev,q3,r3,h3,_⟩:=items ok (.inl hx);have q3:LsR Z.K H1 a xs:=by rcases q3 with⟨_,z⟩|⟨z,_⟩;exact z;rw[hx]at z;cases z
  have again:∀H2:Hp,(∀t∈[x.let],t.ok Z.K H2)->∃ys cs,SqL Z.K H2 a ys/\RepA Z.K H2 true es ys cs/\∀b∈cs,b∈x.as:=λH2 hok=>by
   obtain⟨a',ys,cs,ev',q4,r4,h4,_⟩:=items (hok x.let (List.mem_singleton.mpr rfl)) (.inl hx);have:a'=a:=by have:=ev'.symm.trans ev;exact V.ref.inj this
   subst this;rcases q4 with⟨_,z⟩|⟨z,_⟩
   ·exact⟨ys,cs,z.sq,r4,h4⟩
   ·rw[show x.let.d=D.lst es from hx]at z;cases z
  refine .inl ⟨a,xs,ev,q3.sq,λax=>k _ _ rfl (Itl Z.K a) [x.let] L1 H1 m1 wT sT (by rw[r3.len];exact ax) (λhq=>(sm hq).1) ⟨λt ht=>by rw[List.mem_singleton.mp ht];rfl,λi H2 hok hi=>?_,λH2 hok=>?_,λi H2 v H3 d hok hy lv=>?_⟩⟩
  ·obtain⟨ys,cs,s1,s2,_⟩:=again H2 hok;have hl:=s2.len;exact⟨ys,ys[i]'(by omega),s1,X1 (by omega)⟩
  ·obtain⟨ys,cs,s1,s2,_⟩:=again H2 hok;exact⟨ys,s1,by rw[s2.len];exact Xg _⟩
  ·obtain⟨ys,cs,s1,s2,s3⟩:=again H2 hok;obtain⟨e3,hy⟩:=hy;subst e3;obtain⟨v',i7,f1,f2,f3⟩:=s2.get lv;have:v'=v:=by have:=hy ys s1;rw[f1]at this;exact oq9 this
   subst this;exact⟨⟨.no,d,v',i7⟩,rfl,rfl,rfl,xQ,f2,λb hb=>⟨x.let,List.mem_singleton.mpr rfl,s3 b (f3 b hb)⟩⟩
 | tup es=>
  rw[<-e2,hx]at hd;have oi:es=ds:=oq9 hd;subst oi;obtain⟨a,xs,bs,ev,q3,r3,h3,_⟩:=items ok (.inr hx);have q3:SqT Z.K H1 a xs:=by rcases q3 with⟨z,_⟩|⟨_,z⟩;rw[hx]at z;cases z;exact z
  have again:∀H2:Hp,(∀t∈[x.let],t.ok Z.K H2)->∃ys cs,SqT Z.K H2 a ys/\RepA Z.K H2 true es ys cs/\∀b∈cs,b∈x.as:=λH2 hok=>by
   obtain⟨a',ys,cs,ev',q4,r4,h4,_⟩:=items (hok x.let (List.mem_singleton.mpr rfl)) (.inr hx);have:a'=a:=by have:=ev'.symm.trans ev;exact V.ref.inj this
   subst this;rcases q4 with⟨z,_⟩|⟨_,z⟩
   ·rw[show x.let.d=D.tup es from hx]at z;cases z
   ·exact⟨ys,cs,z,r4,h4⟩
  refine .inr (.inl ⟨a,xs,ev,q3,λax=>k _ _ rfl (Itt Z.K a) [x.let] L1 H1 m1 wT sT (by rw[r3.len];exact ax) (λhq=>(sm hq).1) ⟨λt ht=>by rw[List.mem_singleton.mp ht];rfl,λi H2 hok hi=>?_,λH2 hok=>?_,λi H2 v H3 d hok hy lv=>?_⟩⟩)
  ·obtain⟨ys,cs,s1,s2,_⟩:=again H2 hok;have hl:=s2.len;exact⟨ys,ys[i]'(by omega),s1,X1 (by omega)⟩
  ·obtain⟨ys,cs,s1,s2,_⟩:=again H2 hok;exact⟨ys,s1,by rw[s2.len];exact Xg _⟩
  ·obtain⟨ys,cs,s1,s2,s3⟩:=again H2 hok;obtain⟨e3,hy⟩:=hy;subst e3;obtain⟨v',i7,f1,f2,f3⟩:=s2.get lv;have:v'=v:=by have:=hy ys s1;rw[f1]at this;exact oq9 this
   subst this;exact⟨⟨.no,d,v',i7⟩,rfl,rfl,rfl,xQ,f2,λb hb=>⟨x.let,List.mem_singleton.mpr rfl,s3 b (f3 b hb)⟩⟩
 | str z=>
  rw[<-e2,hx]at hd;have hd:(if z.cps.size<=big then some (z.cps.toList.map λc=>D.str ⟨#[c]⟩)else none)=some ds:=hd
  split at hd
  ·rename_i hz;cases oq9 hd;refine .inr (.inr ⟨z,(wK ok hx).1,k _ _ rfl (Its z) [] L1 H1 m1 (by simpa using w1.tail) (by simpa using (st.trans Step.drop)) (by rw[X4,Xa];exact hz) (λhq=>(sm hq).1) ⟨λt ht=>(nomatch ht),λi H2 _ hi=>?_,λH2 _=>?_,λi H2 v H3 d _ hy lv=>?_⟩⟩)
   ·show i<z.cps.size
    simpa using hi
   ·show(z.cps.toList.map λc=>D.str ⟨#[c]⟩).length=z.cps.size;simp
   ·obtain⟨e3,cc,hc,rfl⟩:=hy;subst e3;rw[Xh,Array.getElem?_toList,hc]at lv;cases oq9 lv;exact⟨⟨.no,.str ⟨#[cc]⟩,.str ⟨#[cc]⟩,[]⟩,rfl,rfl,rfl,xQ,vwc cc,λb hb=>(nomatch hb)⟩
  ·cases hd
 |non=>rw[<-e2,hx]at hd;cases hd
 |bl _=>rw[<-e2,hx]at hd;cases hd
 |int _=>rw[<-e2,hx]at hd;cases hd
 |dct _=>rw[<-e2,hx]at hd;cases hd
 |obj _ _=>rw[<-e2,hx]at hd;cases hd
theorem kzm{K:PySem.W.Frag}(lo hi:Int):Walks K (Itr lo (hi - lo).toNat) [] (k7 lo hi):=by
 have hl:(k7 lo hi).length=(hi - lo).toNat:=by simp[k7]
 refine⟨λt ht=>(nomatch ht),λi H _ ma=>by rw[hl]at ma;exact ma,λH _=>by rw[hl];exact Xg _,λi H v H' d _ hy hd=>?_⟩;obtain⟨e,rfl⟩:=hy;subst e;unfold k7 at hd;rw[Xh]at hd;cases hr:(List.range (hi - lo).toNat)[i]? with
 | none=>rw[hr]at hd;cases hd
 | some j=>
  rw[hr]at hd;have:j=i:=by
   obtain⟨_,h2⟩:=List.getElem?_eq_some_iff.mp hr
   simpa using h2.symm
  subst this;cases oq9 hd;exact⟨⟨.no,.int (lo+(j:Int)),.int (lo+(j:Int)),[]⟩,rfl,rfl,rfl,xQ,vwb _,λb hb=>(nomatch hb)⟩
theorem kzw{i:Int}(h:zQ i=true):-(2 ^ 62)<=i/\i<2 ^ 62:=by
 unfold zQ at h
 simpa using h
theorem xx(ha:QV X Z q a ea)(hg:Gl X "range")(hm:X.mg "range"=none)(ce:autoParam (starEach [ea] X.env=[(false,eval ea X.env)]) Ŕ):QI X Z q tg (kY a) (.Call (.Name "range" p) [ea] [] pos):=λpins s σ H R I b8=>ex8 b8 λE L r m w hc xc k=>by
 refine(qkt hg hm (v5 ha wZ ce) ce) pins s σ H R I ?_;refine vY m w (show bnd (a E) _=some r from hc) xc λE1 s h1 x L1 H1 e1 e2 m1 w1 ok fr sr st sm=>?_
 cases hx:s.2 with
 | int j=>
  rw[hx]at h1;dsimp only at h1
  split at h1
  ·rename_i hj;cases oq9 h1;obtain⟨j1,j2⟩:=kzw hj.1;have hv:=vk ok (e2.trans hx);refine⟨j,by rw[hv],j1,j2,?_⟩;have wk:=kzm (K:=Z.K) 0 j;rw[Int.sub_zero]at wk;exact k _ _ rfl (Itr 0 j.toNat) [] L1 H1 m1 (by simpa using w1) (by simpa using st) (by simp only[k7,X4,Y5,Int.sub_zero];exact hj.2) sm wk
  ·cases h1
 |_=>rw[hx]at h1;cases h1
theorem Mt.clr:∀{R:List Nat} {E:En} {L:Ls},Mt E σ L->Mt (Q.clr R E) σ (Q.clr R L)
 | [],_,_,m=>m
 | j::R,E,L,m=>by
  have un:∀{E:En} {σ:L2.St} {L:Ls} (j:Nat),Mt E σ L->Mt (E.set j none) σ (L.set j none):=by
   intro E σ L j m
   induction m generalizing j with
   |nil=>exact .nil
   |un m ih=>cases j with
    |zero=>exact .un m
    |succ j=>exact .un (ih j)
   |cons m ih=>cases j with
    |zero=>exact .un m
    |succ j=>exact .cons (ih j)
  show Mt (Q.clr R (E.set j none)) σ (Q.clr R (L.set j none));exact Mt.clr (un j m)
theorem Mt.drop:∀{E:En} {σ:L2.St} {L:Ls} (k:Nat),Mt E σ L->Mt (E.drop k) (σ.drop k) (L.drop k)
 |_,_,_,0,m=>m
 |_,_,_,k+1,.nil=>.nil
 |_,_,_,k+1,.un m=>m.drop k
 |_,_,_,k+1,.cons m=>m.drop k
theorem Mt.none_at:∀{E:En} {σ:L2.St} {L:Ls} {j:Nat},Mt E σ L->E[j]?=some none->L[j]?=some none
 |_,_,_,_,.nil,h=>by simp at h
 |_,_,_,0,.un _,_=>by simp
 |_,_,_,j+1,.un m,h=>by simpa using m.none_at (j:=j) (by simpa using h)
 |_,_,_,0,.cons _,h=>by simp at h
 |_,_,_,j+1,.cons m,h=>by simpa using m.none_at (j:=j) (by simpa using h)
theorem Mt.pick:∀{R:List Nat},Mt E σ L->Mt (R.map (at' E)) (R.map (at' σ)) (R.map (at' L))
 | [],_=>.nil
 | j::R,m=>by
  rw[List.map_cons,List.map_cons,List.map_cons];cases hE:E[j]? with
  | none=>
   have hl:=m.len;have:L[j]?=none:=by rw[List.getElem?_eq_none_iff]at hE ⊢;omega
   rw[show at' E j=none from by unfold at';rw[hE];rfl,show at' L j=none from by unfold at';rw[this];rfl];exact .un m.pick
  | some s=>
   cases s with
   |none=>
    have:L[j]?=some none:=m.none_at hE;rw[show at' E j=none from by unfold at';rw[hE];rfl,show at' L j=none from by unfold at';rw[this];rfl];exact .un m.pick
   |some s=>
    obtain⟨o,d⟩:=s;obtain⟨x,h1,h2,h3,h4⟩:=m.get hE;rw[show at' E j=some (x.o,x.d)from by unfold at';rw[hE,h2,h3];rfl,show at' L j=some x from by unfold at';rw[h1];rfl,show at' σ j=some x.v from by unfold at';rw[h4];rfl];exact .cons m.pick
theorem Mt.rep:∀{k:Nat},Mt E σ L->Mt (List.replicate k none++E) (List.replicate k none++σ) (List.replicate k none++L)
 |0,m=>by simpa using m
 |k+1,m=>by
  rw[List.replicate_succ,List.replicate_succ,List.replicate_succ];exact .un m.rep
theorem Mt.back:∀{R:List Nat} {B:En} {τ:L2.St} {M:Ls} {E:En} {L:Ls},Mt E σ L->Mt B τ M->(∀(i j:Nat) (v:V),R[i]?=some j->τ[i]?=some (some v)->σ[j]?=some (some v))->Mt (Q.back R B E) σ (Q.back R M L)
 | [],B,τ,M,E,L,m,_,_=>by simpa [Q.back]using m
 | j::R,_,_,_,E,L,m,.nil,_=>by simpa [Q.back]using m
 | j::R,_,_,_,E,L,m,.un mB,h=>by
  have un:∀{E:En} {σ:L2.St} {L:Ls} (j:Nat),Mt E σ L->Mt (E.set j none) σ (L.set j none):=by
   intro E σ L j m
   induction m generalizing j with
   |nil=>exact .nil
   |un m ih=>cases j with
    |zero=>exact .un m
    |succ j=>exact .un (ih j)
   |cons m ih=>cases j with
    |zero=>exact .un m
    |succ j=>exact .cons (ih j)
  show Mt (Q.back R _ (E.set j none)) σ (Q.back R _ (L.set j none));exact Mt.back (un j m) mB λi jj v e1 e2=>h (i+1) jj v (by simpa using e1) (by simpa using e2)
 |j::R,_,_,_,E,L,m,.cons (x:=x) mB,h=>by
  have h0:=h 0 j x.v (by simp) (by simp);have m1:=m.set (x:=x) j;rw[Z0 h0]at m1;show Mt (Q.back R _ (E.set j _)) σ (Q.back R _ (L.set j _));exact Mt.back m1 mB λi jj v e1 e2=>h (i+1) jj v (by simpa using e1) (by simpa using e2)
section
variable {ba gi:Expr}{fv:List Expr}{scope:Scope}{N:List Str}{k:Nat}{R:List Nat}{it:Ev (List D)}{tt:Tg}{u:Ts}{o:Own}{q1 q2:Bool}
theorem vk8:J6 k R σ=List.replicate k none++R.map (at' σ):=rfl
theorem wjn{K:PySem.W.Frag}{M:Ls}(hR:R.Nodup)(w:World K H (L++M)):World K H ((List.replicate k none++R.map (at' L))++(Q.clr R L++M))/\Step H (L++M) H ((List.replicate k none++R.map (at' L))++(Q.clr R L++M)):=by
 have p:(sls (L++M)).Perm (sls ((List.replicate k none++R.map (at' L))++(Q.clr R L++M))):=by
  have:=kzg (R:=R) (L:=L) hR;rw[Q4]at this;simp only[Q4,vj2,List.nil_append];rw[<-Xr];exact(this.append_right _).symm
 exact⟨w.same p,Step.refl.same (List.Perm.refl _) p⟩
theorem vwh{K:PySem.W.Frag}{B:Ls}{M:Ls}{H2:Hp}(hR:R.Nodup)(hr:∀j∈R,j<L.length)(hB:B.length=k+R.length)(w:World K H2 (B++(Q.clr R L++M))):World K H2 (Q.back R (B.drop k) (Q.clr R L)++M)/\Step H2 (B++(Q.clr R L++M)) H2 (Q.back R (B.drop k) (Q.clr R L)++M):=by
 have p:=kw4 (R:=R) (B:=B.drop k) (L:=Q.clr R L) hR (λj hj=>qvd hj) (λj hj=>by rw[qvc];exact hr j hj) (by rw[Yb,hB];omega);have p2:(sls (Q.back R (B.drop k) (Q.clr R L)++M)).Perm (sls (B.drop k++(Q.clr R L++M))):=by
  rw[Q4,<-Xr,Q4 (B.drop k++Q.clr R L)];exact p.append_right _
 have sub:(sls (B.drop k++(Q.clr R L++M))).Sublist (sls (B++(Q.clr R L++M))):=by
  rw[Q4,Q4 B];refine List.Sublist.append ?_ (Ys _);unfold sls;exact(List.drop_sublist k B).filterMap _
 exact⟨(w.sub sub).same p2.symm,(Step.refl.sub sub).same (List.Perm.refl _) p2.symm⟩
theorem jzw:∀{is:List Nat} {es:List D} {E E':En},setAll is es E=some E'->E'.length=E.length
 |[],[],_,_,h=>by cases oq9 h;rfl
 |[],_::_,_,_,h=>by cases h
 |_::_,[],_,_,h=>by cases h
 |i::is,d::es,E,E',h=>by rw[jzw (E:=E.set i (some (.no,d))) h,Yo]
theorem vjh{t:Tg}{d:D}{E E':En}(h:t.put d E=some E'):E'.length=E.length:=by
 cases t with
 |n i=>cases oq9 h;rw[Yo]
 |t is=>
  cases d with
  |tup es=>exact jzw (show setAll is es E=some E' from h)
  |lst es=>exact jzw (show setAll is es E=some E' from h)
  |_=>cases h
theorem vk6{nN:Nat}{Q:VK}(hσ:σ.length=nN)(hR:R.Nodup)(hr:∀j∈R,j<nN)(h:tQ Z q (cLC o k R it tt u c) σ H Q):tLC (tIS Z q it) (tG Z ((List.range R.length).map (k + ·)) tt) (tT Z q u) (tQ Z q c) k R σ H Q:=by
 obtain⟨E,L,r,m,w,dl,xc,kk⟩:=h;have dl:bnd (it E) (λE ds=>match lcL tt u c ds (V7 k R E) []with
  | some (.ok B xs)=>mkL o (V3 k R B E) xs
  | some (.exc B e)=>some (.exc (V3 k R B E) e)
  | none=>none)=some r:=dl
 rcases wq dl with⟨E1,ds,h1,h2⟩|⟨E1,cc,h1,h2⟩
 rotate_left
 ·exact⟨E,L,_,m,w,h1,xc.map h2,λE' s' z=>by cases z⟩
 refine⟨E,L,_,m,w,h1,(λ_ _ z=>by cases z),λE' ds' z J T L1 H1 m1 w1 st hz sm wk=>?_⟩;injection z with z1 z2;subst z1 z2;have hL1:∀j∈R,j<L1.length:=λj hj=>by have:=m1.len;have:=hr j hj;omega
 obtain⟨wB,sB⟩:=wjn (k:=k) hR w1;cases hrB:lcL tt u c ds (V7 k R E1) []with
 | none=>rw[hrB]at h2;cases h2
 | some rB=>
  rw [hrB]at h2;have ic:∀{H2:Hp} {A B:Ls},World Z.K H2 (A++(B++(_root_.Q.clr R L1++T.map some)))->∀t∈T,t.ok Z.K H2:=λw2 t ht=>w2.ok t (lr9 _ (lr9 _ (lr9 _ (Xk ht))))
  have mB0:Mt (V7 k R E1) (J6 k R σ) (List.replicate k none++R.map (at' L1)):=(m1.pick (R:=R)).rep;have om:∀{B:En} {LB:Ls} {τ:L2.St} {H2:Hp} {A:Ls},Mt B τ LB->τ.length=k+R.length->Pn ((List.range R.length).map (k + ·)) (J6 k R σ) τ->World Z.K H2 (LB++(A++(_root_.Q.clr R L1++T.map some))) ->
    Mt (V3 k R B E1) σ (_root_.Q.back R (LB.drop k) (_root_.Q.clr R L1))/\World Z.K H2 (A++_root_.Q.back R (LB.drop k) (_root_.Q.clr R L1))/\Step H2 (LB++(A++(_root_.Q.clr R L1++T.map some))) H2 (A++_root_.Q.back R (LB.drop k) (_root_.Q.clr R L1)):=fun {B LB τ H2 A} mB lB pB wB2=>by
   have hl:LB.length=k+R.length:=by rw[mB.len.2];exact lB
   have pm:(LB++(A++(_root_.Q.clr R L1++T.map some))).Perm (LB++(_root_.Q.clr R L1++(A++T.map some))):=by
    refine List.Perm.append_left _ ?_;rw [<-Xr,<-Xr];exact List.Perm.append_right _ List.perm_append_comm
   obtain⟨w3,s3⟩:=vwh (k:=k) hR hL1 hl (wB2.perm pm);have pm2:(_root_.Q.back R (LB.drop k) (_root_.Q.clr R L1)++(A++T.map some)).Perm ((A++_root_.Q.back R (LB.drop k) (_root_.Q.clr R L1))++T.map some):=by
    rw [<-Xr];exact List.Perm.append_right _ List.perm_append_comm
   refine⟨?_,(w3.perm pm2).left,(s3.perm pm.symm pm2).trans Step.dropT⟩;refine Mt.back (m1.clr) (mB.drop k) λi j v e1 e2=>?_
   have hi:i<R.length:=(List.getElem?_eq_some_iff.mp e1).1;have e3:=pB (k+i) (List.mem_map.mpr ⟨i,List.mem_range.mpr hi,rfl⟩);rw [List.getElem?_drop,e3,vk8,List.getElem?_append_right (by simp),Yf,show k+i - k=i from by omega,Xh,e1]at e2;have e4:at' σ j=some v:=by simpa using e2
   unfold at' at e4;cases hh:σ[j]? with
   | none=>rw[hh]at e4;cases e4
   | some s=>rw[hh]at e4;rw[show s=some v from e4]
  refine⟨λi n ys τ H2=>∃(B:En) (LB:Ls) (av:List Sl),Mt B τ LB/\τ.length=k+R.length/\Pn ((List.range R.length).map (k + ·)) (J6 k R σ) τ/\World Z.K H2 (LB++(av.map some++(_root_.Q.clr R L1++T.map some)))/\Step H L H2 (LB++(av.map some++(_root_.Q.clr R L1++T.map some))) /\
   ys=av.map Sl.v/\lcL tt u c (ds.drop i) B (av.map Sl.sd)=some rB/\i<=ds.length/\av.length<=i/\n=ds.length - i/\(q=true->k9 H H2/\∀b∈j8 (av.map some),H b=none),⟨_,V7 k R E1,_,[],mB0,by simp[J6],Pn.refl,wB,st.trans sB,rfl,hrB,Yt _,Yt _,rfl,λhq=>⟨sm hq,λ_ z=>(nomatch z)⟩⟩,?_⟩
  rintro i n ys τ H2 ⟨B,LB,av,mB,lB,pB,wB2,sB2,rfl,f1,hi,jl,rfl,smB⟩
  by_cases db:i<ds.length
  rotate_left
  ·have e:i=ds.length:=by omega
   subst e;rw [List.drop_length]at f1;cases oq9 f1;obtain⟨m3,w3,s3⟩:=om mB lB pB wB2;refine .inl ⟨wk.stop H2 (ic wB2) (λhq=>(smB hq).1),by rw[X4];omega,?_⟩;exact kxy (σ:=σ) (Q:=Q) (o:=o) (xs:=av) h2 rfl w3 (sB2.trans s3) smB kk m3
  ·have hd:ds.drop i=ds[i]::ds.drop (i+1):=List.drop_eq_getElem_cons db;rw [hd]at f1;unfold lcL at f1;cases cf:tt.put ds[i] B with
   | none=>rw[cf]at f1;cases f1
   | some B2=>
    rw [cf]at f1;dsimp only at f1;refine .inr ⟨wk.go i H2 (ic wB2) (λhq=>(smB hq).1) db,λv H3 hy=>?_⟩;obtain⟨z,zo,zd,zv,smz,ni,zas⟩:=wk.yld i H2 v H3 ds[i] (ic wB2) (λhq=>(smB hq).1) hy (X1 db);have pm:(LB++(av.map some++(_root_.Q.clr R L1++T.map some))).Perm ((LB++(av.map some++_root_.Q.clr R L1))++T.map some):=by
     rw[<-Xr (av.map some),<-Xr]
    obtain⟨wz,sz⟩:=kkh (wB2.perm pm) wk.no smz ni zo zas;have wz':World Z.K H3 ((some z::LB)++(av.map some++(_root_.Q.clr R L1++T.map some))):=wz.perm (by
     rw[List.cons_append,List.cons_append];exact List.Perm.cons _ pm.symm)
    have sz':Step H2 (LB++(av.map some++(_root_.Q.clr R L1++T.map some))) H3 ((some z::LB)++(av.map some++(_root_.Q.clr R L1++T.map some))):=sz.perm pm.symm (by
     rw[List.cons_append,List.cons_append];exact List.Perm.cons _ pm.symm)
    refine⟨B,LB,z,B2,mB,wz'.left,zo,zv,by rw[zd];exact cf,fun τ2 LB2 p2 mB2 wB3 sB3=>?_⟩;obtain⟨w4,s4⟩:=stay wz' sB3 wB3;have lB2:τ2.length=k+R.length:=by
     have h1:=mB2.len.1;have h2:=mB.len.1;have h3:=vjh cf;omega
    have p3:=pB.trans p2;have nw:Step H L H3 (LB2++(av.map some++(_root_.Q.clr R L1++T.map some))):=sB2.trans (sz'.trans s4);have fu:q=true->k9 H H3/\∀b∈j8 (av.map some),H b=none:=λhq=>⟨qx (smB hq).1 smz,(smB hq).2⟩
    refine⟨λy H5=>∃(B:En) (LB:Ls) (f7:List Sl),Mt B τ2 LB/\World Z.K H5 (LB++(f7.map some++(_root_.Q.clr R L1++T.map some)))/\Step H L H5 (LB++(f7.map some++(_root_.Q.clr R L1++T.map some)))/\av.map Sl.v++[y]=f7.map Sl.v/\f7.length=av.length+1/\lcL tt u c (ds.drop (i+1)) B (f7.map Sl.sd)=some rB/\(q=true->k9 H H5/\∀b∈j8 (f7.map some),H b=none),
     λH5=>∃B LB,Mt B τ2 LB/\World Z.K H5 (LB++(av.map some++(_root_.Q.clr R L1++T.map some)))/\Step H L H5 (LB++(av.map some++(_root_.Q.clr R L1++T.map some)))/\lcL tt u c (ds.drop (i+1)) B (av.map Sl.sd)=some rB/\(q=true->k9 H H5/\∀b∈j8 (av.map some),H b=none),
     λy H5 ⟨B5,LB5,acc5,c1,c2,c3,c4,c5,c6,c7⟩=>⟨by rw[X4];omega,ds.length - (i+1),by omega,B5,LB5,acc5,c1,lB2,p3,c2,c3,c4,c6,db,by omega,rfl,c7⟩,
     λH5 ⟨B5,LB5,c1,c2,c3,c6,c7⟩=>⟨ds.length - (i+1),by omega,B5,LB5,av,c1,lB2,p3,c2,c3,rfl,c6,db,by omega,rfl,c7⟩,?_⟩
    have xcB:∀{α:Type} {H6:Hp} {L6:Ls} {B6:En} {cc:Str} {A:Ls},rB=.exc B6 cc->World Z.K H6 (L6++(A++(_root_.Q.clr R L1++T.map some)))->Step H L H6 (L6++(A++(_root_.Q.clr R L1++T.map some)))->Xc Z τ2 H6 L6 (.exc B6 cc:Res α):=fun {α H6 L6 B6 cc A} er w6 s6 E7 c7 e7 C L7 H7 hm m7 w7 s7=>by
     injection e7 with e8 e9;subst e8 e9;subst er;cases oq9 h2;obtain⟨w8,s8⟩:=stay w6 s7 w7;obtain⟨m9,w9,s9⟩:=om m7 lB2 p3 w8;exact xc _ _ rfl C _ H7 hm m9 w9.right ((s6.trans (s8.trans s9)).trans ⟨λ_ _ h _=>h,λa ha=>.inl (by rw[k4];exact lr9 _ ha),λa ha=>.inl (by rw[kX];exact lr9 _ ha)⟩)
    rcases wq f1 with⟨B4,kb,g1,g2⟩|⟨B4,cc,g1,g2⟩
    rotate_left
    ·exact⟨B2,LB2,_,mB2,wB3,g1,xcB g2 w4 nw,λE' s' z=>by cases z⟩
    refine⟨B2,LB2,_,mB2,wB3,g1,(λ_ _ z=>by cases z),λE' s' z LB4 H4 mB4 wB4 sB4 kl=>?_⟩;injection z with z1 z2;subst z1 z2;obtain⟨w5,s5⟩:=stay w4 sB4 wB4;have io:=nw.trans s5;cases kb with
    | false=>
     rw[Xl (by decide)]at g2 ⊢;exact⟨B4,LB4,mB4,w5,io,g2,λhq=>⟨qx (fu hq).1 (kl hq),(fu hq).2⟩⟩
    | true=>
     rw[Xe rfl]at g2 ⊢;rcases wq g2 with⟨B6,y,g3,g4⟩|⟨B6,cc,g3,g4⟩
     rotate_left
     ·exact⟨B4,LB4,_,mB4,wB4,g3,xcB g4 w5 io,λE' s' z=>by cases z⟩
     refine⟨B4,LB4,_,mB4,wB4,g3,(λ_ _ z=>by cases z),λE' s' z x LB6 H6 ex ey mB6 wB6 sB6 sm6=>?_⟩;injection z with z1 z2;subst z1 z2;obtain⟨w7,s7⟩:=stay w5 sB6 wB6;have pm3:((some x::LB6)++(av.map some++(_root_.Q.clr R L1++T.map some))).Perm (LB6++((av++[x]).map some++(_root_.Q.clr R L1++T.map some))):=by
      rw[Yj,List.cons_append];have:(LB6++(av.map some++[x].map some++(_root_.Q.clr R L1++T.map some)))=(LB6++av.map some)++some x::(_root_.Q.clr R L1++T.map some):=by simp
      rw[this];refine List.Perm.trans ?_ List.perm_middle.symm;rw[Xr]
     refine⟨B6,LB6,av++[x],mB6,w7.perm pm3,(io.trans s7).perm (List.Perm.refl _) pm3,by simp,by simp,?_,λhq=>⟨qx (fu hq).1 (qx (kl hq) (sm6 hq).1),λb hb=>?_⟩⟩
     ·rw[Yj,show[x].map Sl.sd=[y]from by simp[Sl.sd,ex,ey]];exact g4
     ·rw[Yj,k4]at hb;rcases List.mem_append.mp hb with hb|hb
      ·exact(fu hq).2 b hb
      ·have hb:b∈x.own:=by simpa using hb
       exact J5 (qx (fu hq).1 (kl hq)) ((sm6 hq).2 b hb)
theorem q_lc(N:List Str)(hi:QI X Z q tg it ba)
  (hg:∀cl C s0 H0 fp,QG (lcE X scope N cl C s0 H0 fp Z.EX) Z ((List.range R.length).map (k + ·)) tt tg) (ht:∀cl C s0 H0 fp,PTs (lcE X scope N cl C s0 H0 fp Z.EX) fv (tT Z q u)) (he:∀cl C s0 H0 fp,QE (lcE X scope N cl C s0 H0 fp Z.EX) Z q c gi)
  (gx:zx X Z.EX) (top:Jq X) (hR:R.Nodup) (hr:∀j∈R,j<X.N.length) (hc:autoParam (X.calm=true) Ŕ) (hk:autoParam (scope.kind=.function) Ŕ) (n6:autoParam (Yx X.N X.env.scope scope N k R=true) Ŕ) (hs:autoParam (∀x,foldedSetIterable ba X.env x=pure x) Ŗ):
  QE X Z q (cLC o k R it tt u c) (.ListComp gi [⟨tg,ba,fv,0⟩] scope pos):=λpins s σ H Q I hw=>
 vvv (EX:=Z.EX) N k R (qi_S hi) hg ht he gx top hc hk n6 hs pins s σ H Q I (vk6 I.len hR hr hw)
end
end
section
variable {X:Cx}{Z:Fx0}{K:PySem.W.Frag}{pn:List Nat}{q qa qb:Bool}{a b c:Ex}{u:Ts}{tg e ea eb:Expr}{σ:L2.St}{H:Hp}{L:Ls}{E:En}{pos p:Pos}{x:Str}{id T:String}{r:List V->Hp->VK->Prop}{f:Sd->Option Sd}{g:Sd->Sd->Option Sd}
theorem wj3:PTs X [] (tT Z q _root_.Q.tYes):=λpins s σ H Q I b8=>ex8 b8 λE L r m w hc xc k=>by
 cases oq9 hc;exact vji pins s σ H Q I (k _ _ rfl L H m w Step.refl λ_=>xQ)
theorem Kq(hc:CallR X (.builtin id) r)(ad:Ad1 Z.K (λv H Q=>r [v] H Q) f)(ha:QV X Z q a ea)(hm:X.mg x=none)(hv:bootBuiltins x=some (.builtin id))(hg:autoParam (Gl X x) Ŕ)(hn:autoParam (x≠"__name__") ŕ)(d8:autoParam ((x==("__debug__":Str))=false) ŕ)
  (he:autoParam (starEach [ea] X.env=(false,eval ea X.env)::starEach [] X.env) Ŕ) (bq:autoParam ((backTo pos (starEach [] X.env)).any (·.1)=false) Ŕ):QE X Z q (cF1 f a) (.Call (.Name x p) [ea] [] pos):=
 qZ (jzq hc hg hm hv (v5 ha wZ he) hn d8 he bq) fun σ H Q h=>Q6 (r:=λv H Q=>r [v] H Q) ad h
theorem V9(hc:CallR X (.type T) r)(ad:Ad1 Z.K (λv H Q=>r [v] H Q) f)(ha:QV X Z q a ea)(hm:X.mg x=none)(hv:bootBuiltins x=some (.type T))(hg:autoParam (Gl X x) Ŕ)(hn:autoParam (x≠"__name__") ŕ)(d8:autoParam ((x==("__debug__":Str))=false) ŕ)
  (he:autoParam (starEach [ea] X.env=(false,eval ea X.env)::starEach [] X.env) Ŕ) (bq:autoParam ((backTo pos (starEach [] X.env)).any (·.1)=false) Ŕ):QE X Z q (cF1 f a) (.Call (.Name x p) [ea] [] pos):=
 qZ (qkx hc hg hm hv (v5 ha wZ he) hn d8 he bq) fun σ H Q h=>Q6 (r:=λv H Q=>r [v] H Q) ad h
theorem vxt:Ad1 K (λv H Q=>qkl K [v] H Q) (pu1 v3):=by
 intro H x s Q ok hf k;unfold pu1 at hf;have fin:∀n:Nat,v3 x.d=some (.int n)->Q (.int n) H:=λn e=>by
  rw[show(x.o,x.d).2=x.d from rfl,e]at hf;cases oq9 hf;exact k ⟨.dp,.int n,.int n,[]⟩ H rfl rfl JX
 cases hx:x.d with
 |lst ds=>
  obtain⟨l,xs,bs,e,q,r,_⟩:=items ok (.inl hx);refine .inl ⟨l,xs,by rw[e],?_,by rw[<-r.len];exact fin ds.length (by rw[hx];rfl)⟩;rcases q with⟨_,z⟩|⟨_,z⟩
  ·exact .inl (z9 z)
  ·exact .inr z
 |tup ds=>
  obtain⟨l,xs,bs,e,q,r,_⟩:=items ok (.inr hx);refine .inl ⟨l,xs,by rw[e],?_,by rw[<-r.len];exact fin ds.length (by rw[hx];rfl)⟩;rcases q with⟨_,z⟩|⟨_,z⟩
  ·exact .inl (z9 z)
  ·exact .inr z
 |str z=>
  obtain⟨e,hz⟩:=wK ok hx;exact .inr (.inl ⟨z,by rw[e],hz,fin z.length (by rw[hx];rfl)⟩)
 |_=>rw[show(x.o,x.d).2=x.d from rfl,hx]at hf;cases hf
noncomputable def vj8(K:PySem.W.Frag):List V->Hp->VK->Prop:=λxs H Q=>wkt K xs H Q\/(∃p ys U,xs=[.ref p,.ty U]/\SqT K H p ys/\U∈kinds.tail/\Q (.bl (vwz "tuple" U)) H)\/∃p ys U,xs=[.ref p,.ty U]/\SqL K H p ys/\U∈kinds.tail/\Q (.bl (vwz "list" U)) H
theorem qvg(hK:autoParam (X.K=K) Ŕ):CallR X (.builtin "isinstance") (vj8 K):=by
 subst hK;intro pins s σ H xs us Q I r h;rcases h with h|⟨p,ys,U,rfl,hq,hU,q⟩|⟨p,ys,U,rfl,hq,hU,q⟩
 ·exact qxf pins s σ H xs us Q I r h
 ·obtain⟨u,w',rfl,r1,r2⟩:=W8 r;cases(show w'=Value.type U from r2);cases r1;obtain⟨ag,_,⟨o,h1,h2,_⟩,_⟩:=I.tuple hq;exact Xz PySem.W.kitx_tuple I.kIn ⟨o,h1,h2⟩ (kwz (T:="tuple") (by decide) hU) (λz=>nomatch z) λtk=>⟨.bl _,H,I.tok _,rfl,q⟩
 ·obtain⟨u,w',rfl,r1,r2⟩:=W8 r;cases(show w'=Value.type U from r2);cases r1;obtain⟨ag,_,⟨o,n,h1,h2,_⟩,_⟩:=I.list hq;exact Xz PySem.W.kitx_list I.kIn ⟨o,h1,h2⟩ (kwz (T:="list") (by decide) hU) (λz=>nomatch z) λtk=>⟨.bl _,H,I.tok _,rfl,q⟩
theorem vxu{U:String}(hU:U∈kinds.tail):Ad1 K (λv H Q=>vj8 K [v,.ty U] H Q) (pu1 (jZ U)):=by
 intro H x s Q ok hf k;unfold pu1 jZ at hf;have fin:∀(T:String),kind x.d=T->(∀c f,x.d≠.obj c f)->Q (.bl (vwz T U)) H:=λT e ho=>by
  cases hx:x.d with
  |obj c f=>exact absurd hx (ho c f)
  |dct ay=>rw[show(x.o,x.d).2=x.d from rfl,hx]at hf;cases hf
  |_=>
   rw[show(x.o,x.d).2=x.d from rfl,hx]at hf;cases oq9 hf;rw[<-e,hx];exact k ⟨.dp,.bl _,.bl _,[]⟩ H rfl rfl x8
 cases hx:x.d with
 |non=>exact .inl ⟨x.v,"NoneType",U,rfl,by rw[qz9 ok hx];exact .non,by decide,hU,fin _ (by rw[hx];rfl) (by rw[hx];exact λ_ _ z=>nomatch z)⟩
 |bl k=>exact .inl ⟨x.v,"bool",U,rfl,by rw[JY ok hx];exact .bl _,by decide,hU,fin _ (by rw[hx];rfl) (by rw[hx];exact λ_ _ z=>nomatch z)⟩
 |int k=>exact .inl ⟨x.v,"int",U,rfl,by rw[vk ok hx];exact .int _,by decide,hU,fin _ (by rw[hx];rfl) (by rw[hx];exact λ_ _ z=>nomatch z)⟩
 |str k=>exact .inl ⟨x.v,"str",U,rfl,by rw[(wK ok hx).1];exact .str _,by decide,hU,fin _ (by rw[hx];rfl) (by rw[hx];exact λ_ _ z=>nomatch z)⟩
 |lst ds=>
  obtain⟨l,xs,bs,e,q,r,_⟩:=items ok (.inl hx);have f:=fin "list" (by rw[hx];rfl) (by rw[hx];exact λ_ _ z=>nomatch z);rcases q with⟨_,z⟩|⟨z,_⟩
  ·exact .inr (.inr ⟨l,xs,U,by rw[e],z.sq,hU,f⟩)
  ·rw[hx]at z;cases z
 |tup ds=>
  obtain⟨l,xs,bs,e,q,r,_⟩:=items ok (.inr hx);have f:=fin "tuple" (by rw[hx];rfl) (by rw[hx];exact λ_ _ z=>nomatch z);rcases q with⟨z,_⟩|⟨_,z⟩
  ·rw[hx]at z;cases z
  ·exact .inr (.inl ⟨l,xs,U,by rw[e],z,hU,f⟩)
 |dct ay=>
  rw[show(x.o,x.d).2=x.d from rfl,hx]at hf;cases hf
 |obj c f=>
  rw[show(x.o,x.d).2=x.d from rfl,hx]at hf;cases hf
theorem K3{U:String}{y:Str}{p2:Pos}(ha:QV X Z q a ea)(hm:X.mg "isinstance"=none)(hmy:X.mg y=none)(hy:bootBuiltins y=some (.type U))(hK:X.K=Z.K)(hU:autoParam (U∈kinds.tail) ŕ)(hg:autoParam (Gl X "isinstance") Ŕ)(hgy:autoParam (Gl X y) Ŕ)(hny:autoParam (y≠"__name__") ŕ)(hdy:autoParam ((y==("__debug__":Str))=false) ŕ)
  (he:autoParam (starEach [ea,.Name y p2] X.env=(false,eval ea X.env)::starEach [.Name y p2] X.env) Ŕ) (nt:autoParam (starEach [.Name y p2] X.env=(false,eval (.Name y p2) X.env)::starEach [] X.env) Ŕ) (bq:autoParam ((backTo pos (starEach [.Name y p2] X.env)).any (·.1)=false) Ŕ):
  QE X Z q (cF1 (pu1 (jZ U)) a) (.Call (.Name "isinstance" p) [ea,.Name y p2] [] pos):=
 qZ (jzq (qvg hK) hg hm jvx (v5 ha (v5 (qky (v:=.ty U) hgy hmy hy rfl hny hdy) wZ nt) he) (by decide) (by decide) he bq) fun σ H Q h=>Q6 (r:=λv H Q=>vj8 Z.K [v,.ty U] H Q) (vxu hU) h
theorem vxz:Ad1 K (λv H Q=>qkm [v] H Q) (pu1 W7):=by
 intro H x s Q ok hf k;unfold pu1 W7 at hf;dsimp only at hf
 split at hf
 ·rename_i i e;cases oq9 hf;exact .inl ⟨i,by rw[vk ok e],k ⟨.dp,.int _,.int _,[]⟩ H rfl rfl JX⟩
 ·rename_i i e;cases oq9 hf;exact .inr (.inl ⟨i,by rw[JY ok e],k ⟨.dp,.int _,.int _,[]⟩ H rfl rfl JX⟩)
 ·rename_i z e
  split at hf
  ·rename_i hz;cases ht:PySem.intText? z with
   |none=>rw[ht]at hf;cases hf
   |some n=>
    rw[ht]at hf;cases oq9 hf;exact .inr (.inr ⟨z,n,by rw[(wK ok e).1],ht,hz,k ⟨.dp,.int _,.int _,[]⟩ H rfl rfl JX⟩)
  ·cases hf
 ·cases hf
theorem kqp:Ad1 K (λv H Q=>qkk K [v] H Q) K1:=by
 intro H x s Q ok hf k;unfold K1 at hf;dsimp only at hf
 split at hf
 ·rename_i ds e
  split at hf
  ·rename_i hl;cases oq9 hf;obtain⟨l,xs,bs,ev,q3,r3,h3⟩:=z4 ok (.inl e) hl;have q3:LsR K H l xs:=by rcases q3 with⟨_,z⟩|⟨z,_⟩;exact z;rw[e]at z;cases z
   exact⟨l,xs,by rw[ev],.inl (z9 q3),λp hp=>k ⟨.rt,.lst ds,.ref p,p::bs⟩ _ rfl rfl (K0 hp r3 h3)⟩
  ·cases hf
 ·rename_i ds e
  split at hf
  ·rename_i hl;cases oq9 hf;obtain⟨l,xs,bs,ev,q3,r3,h3⟩:=z4 ok (.inr e) hl;have q3:SqT K H l xs:=by rcases q3 with⟨z,_⟩|⟨_,z⟩;rw[e]at z;cases z;exact z
   exact⟨l,xs,by rw[ev],.inr q3,λp hp=>k ⟨.rt,.lst ds,.ref p,p::bs⟩ _ rfl rfl (K0 hp r3 h3)⟩
  ·cases hf
 ·cases hf
noncomputable def kxo(K:PySem.W.Frag):List V->Hp->VK->Prop:=λxs H Q=>∃p ys,xs=[.ref p]/\((SqL K H p ys/\∀l,H l=none->Q (.ref l) (upd H l (.tup ys)))\/(SqT K H p ys/\Q (.ref p) H))
theorem qvj(hK:X.K=K):CallR X (.type "tuple") (kxo K):=by subst hK;exact kqm
theorem qxr:Ad1 K (λv H Q=>kxo K [v] H Q) Jv:=by
 intro H x s Q ok hf k;unfold Jv at hf;dsimp only at hf
 split at hf
 ·rename_i ds e
  split at hf
  ·rename_i hl;cases oq9 hf;obtain⟨l,xs,bs,ev,q3,r3,h3⟩:=z4 ok (.inl e) hl;have q3:LsR K H l xs:=by rcases q3 with⟨_,z⟩|⟨z,_⟩;exact z;rw[e]at z;cases z
   exact⟨l,xs,by rw[ev],.inl ⟨z9 q3,λp hp=>k ⟨.no,.tup ds,.ref p,bs⟩ _ rfl rfl (Zv hp r3 h3)⟩⟩
  ·cases hf
 ·rename_i ds e
  split at hf
  ·rename_i hl;cases oq9 hf;obtain⟨l,xs,bs,ev,q3,r3,h3⟩:=z4 ok (.inr e) hl;have q3:SqT K H l xs:=by rcases q3 with⟨z,_⟩|⟨_,z⟩;rw[e]at z;cases z;exact z
   refine⟨l,xs,by rw[ev],.inr ⟨q3,k ⟨.no,.tup ds,.ref l,bs⟩ H rfl rfl ⟨xQ,?_,λb hb=>(nomatch hb),Y8,λb hb=>h3 b hb⟩⟩⟩;show RepL K H true (.tup ds) (.ref l) bs;unfold RepL;exact⟨l,xs,rfl,q3,r3⟩
  ·cases hf
 ·cases hf
theorem qvo{g:Bool}:∀{ds:List D} {bs:List Bool} {xs:List V} {as:List Addr},bls ds=some bs->RepA K H g ds xs as->xs=bs.map V.bl
 | [],bs,xs,as,h,r=>by
  cases oq9 h;unfold RepA at r;exact r.1
 | d::ds,bs,xs,as,h,r=>by
  cases d with
  | bl b=>
   unfold bls at h;cases hb:bls ds with
   |none=>rw[hb]at h;cases h
   |some i7=>
    rw[hb]at h;cases oq9 h;unfold RepA at r;obtain⟨x,rr,c1,c2,rfl,rfl,h1,h2⟩:=r;unfold RepL at h1;rw[h1.1,qvo hb h2];rfl
  |_=>unfold bls at h;cases h
theorem W5:Ad1 K (λv H Q=>wj2 K [v] H Q) (pu1 Jk):=by
 intro H x s Q ok hf k;unfold pu1 Jk at hf;dsimp only at hf
 split at hf
 ·rename_i ds e;cases hb:bls ds with
  |none=>rw[hb]at hf;cases hf
  |some bs=>
   rw[hb]at hf;cases oq9 hf;obtain⟨l,xs,cs,ev,q3,r3,_⟩:=items ok (.inl e);have q3:LsR K H l xs:=by rcases q3 with⟨_,z⟩|⟨z,_⟩;exact z;rw[e]at z;cases z
   exact⟨l,bs,by rw[ev],by rw[<-qvo hb r3];exact z9 q3,k ⟨.dp,.bl _,.bl _,[]⟩ H rfl rfl x8⟩
 ·cases hf
theorem JZ{g:Int->Int->Bool}:∀x y s,pu2 (c2 g) x y=some s->∃k,s.2=.bl k:=by
 intro x y s h;unfold pu2 c2 at h
 split at h
 ·cases oq9 h;exact⟨_,rfl⟩
 ·cases h
theorem zX:∀x y s,pu2 fEq x y=some s->∃k,s.2=.bl k:=by
 intro x y s h;unfold pu2 fEq at h
 split at h
 ·cases oq9 h;exact⟨_,rfl⟩
 ·cases h
end
end Q
namespace Q
open PySem
def xZ(n d:Nat):Option Int->Nat
 |none=>d
 |some v=>if v<0 then(v+(n:Int)).toNat else min v.toNat n
noncomputable def qk(xs:List D)(lo hi:Option Int):List D:=(xs.drop (xZ xs.length 0 lo)).take (xZ xs.length xs.length hi - xZ xs.length 0 lo)
noncomputable def fSl:Sd->Option Int->Option Int->Option Sd:=λx lo hi=>match x.2 with
 |.lst xs=>if qK x then some (.rt,.lst (qk xs lo hi))else none
 |.tup xs=>if qK x/\¬(xZ xs.length 0 lo=0/\xZ xs.length xs.length hi=xs.length)then some (.no,.tup (qk xs lo hi))else none
 |.str z=>if(Txt.slice z lo hi).length<=big then some (.dp,.str (Txt.slice z lo hi))else none
 |_=>none
noncomputable def V2:Option Ex->Ev (Option Int)
 |none,E=>some (.ok E none)
 |some c,E=>bnd (c E) λE x=>match x.2 with
  |.int i=>some (.ok E (some i))
  |_=>none
noncomputable def cSl(a:Ex)(lo hi:Option Ex):Ex:=λE=>bnd (a E) λE x=>bnd (V2 lo E) λE l=>bnd (V2 hi E) λE h=>val E (fSl x l h)
def vxc:Nat->List D->List D
 |_,[]=>[]
 |k,d::ds=>.tup [.int k,d]::vxc (k+1) ds
def lstOf:D->Option (List D)
 |.lst xs=>some xs
 |_=>none
def xv:List D->Option (List Str)
 |[]=>some []
 |.str z::ds=>(xv ds).map (z :: ·)
 |_=>none
def J7:List D->Option (List Int)
 |[]=>some []
 |.int z::ds=>(J7 ds).map (z :: ·)
 |_=>none
noncomputable def Qx(a:Str):List Str->List Str
 |[]=>[a]
 |b::r=>if Spec.ltCps b.cps.toList a.cps.toList then b::Qx a r else a::b::r
def q9:List Str->List Str
 |[]=>[]
 |a::r=>Qx a (q9 r)
def JW(a:Int):List Int->List Int
 |[]=>[a]
 |b::r=>if b<a then b::JW a r else a::b::r
def V4:List Int->List Int
 |[]=>[]
 |a::r=>JW a (V4 r)
noncomputable def VW:Sd->Option Sd:=λx=>match x.2 with
 | .lst ds=>(match xv ds with
  |some ss=>if ss.length<64 then some (.rt,.lst ((q9 ss).map .str))else none
  |none=>(match J7 ds with
   |some is=>if is.length<64 then some (.rt,.lst ((V4 is).map .int))else none
   |none=>none))
 |_=>none
def isSq:D->Bool
 |.lst _=>true
 |.tup _=>true
 |_=>false
def Vx(i:Nat)(E:En):En:=match E[i]? with
 |some (some (_,d))=>E.set i (some (.no,d))
 |_=>E
def sFz(i:Nat)(s:Sm):Sm:=λE=>s (Vx i E)
def wjo:Option (Option Sd)->Bool
 |some (some (.dp,.lst _))=>true
 |_=>false
noncomputable def K8 (i:Nat) (j c:Ex):Sm:=λE=>if wjo E[i]? then ofE (j E) λE k=>match E[i]?,k.2 with
 | some (some (.dp,.lst xs)),.int k=>(match ixN xs.length k with
  | some n=>(match xs[n]? with
   | some (.lst _)=>ofE (c E) λE x=>match E[i]? with
    |some (some (.dp,.lst xs))=>(match xs[n]? with
     |some (.lst ys)=>if vK x/\ys.length<big then some (.nx (E.set i (some (.dp,.lst (xs.set n (.lst (ys++[x.2])))))))else none
     |_=>none)
    |_=>none
   |_=>none)
  |none=>none)
 |_,_=>none
 else none
noncomputable def qY:Sd->Sd->Option Sd:=λx y=>match x.2,y.2 with
 |.tup a,.int k=>if -(2 ^ 63)<=k/\k<2 ^ 63/\a.length*k.toNat<=big/\qK x then some (.no,.tup (List.replicate k.toNat a).flatten)else none
 |_,_=>Wk x y
def sRz(c:Str):Sm:=λE=>some (.xc E c)
noncomputable def W6(f:Fn)(cs:List Ex):Ex:=λE=>match vz cs E with
 |some (.ok E xs)=>(match f (letAll xs)with
  |some (.ok _ y)=>some (.ok E y)
  |some (.exc _ c)=>some (.exc E c)
  |none=>none)
 |_=>none
noncomputable def qxt(i:Nat):Option Fl->Option Fl
 |some (.nx E)=>some (.nx (E.set i none))
 |some (.rt E x)=>some (.rt (E.set i none) x)
 |some (.ct E)=>some (.ct (E.set i none))
 |some (.bk E)=>some (.bk (E.set i none))
 |_=>none
noncomputable def Kj(cs:List Str)(i:Nat)(b h:Sm):Sm:=λE=>match b E with
 |some (.xc E c)=>if c∈cs then qxt i (h (E.set i (some (.no,.obj c []))))else none
 |r=>r
def xk(t:List (Str×Bool)):D->Option D
 |.obj c _=>(t.lookup c).map .bl
 |_=>none
noncomputable def zW(f g:D->D->Option D)(a b c:Ex):Ex:=λE=>bnd (a E) λE x=>bnd (b E) λE y=>match f x.2 y.2 with
 |some (.bl true)=>bnd (c E) λE z=>val E ((g y.2 z.2).map λd=>(.dp,d))
 |some (.bl false)=>some (.ok E (.dp,.bl false))
 |_=>none
end Q
namespace Q
open PySem
def WZ(is:List Int):Bool:=is.all λi=>decide (0<=i)&&decide (i<=1000000)
noncomputable def Zj:D->Option D:=λd=>match d with
 |.lst ds=>(match J7 ds with
  |some is=>if WZ is=true/\is.length<=100000 then some (.int is.sum)else none
  |none=>none)
 |_=>none
def vzc(d e:D):Option D:=match d,e with
 |.bl a,.bl b=>some (.bl (a==b))
 |_,_=>none
def Qk(d e:D):Option D:=match d,e with
 |.bl a,.bl b=>some (.bl (!(a==b)))
 |_,_=>none
end Q
namespace Q
open PySem
noncomputable def YJ(i:Nat)(kc vc:Ex):Sm:=λE=>ofE (vc E) λE v=>if J3 E[i]?=true then ofE (kc E) λE k=>match E[i]?,k.2 with
 |some (some (o,.lst xs)),.int j=>if o=.no then none else(match ixN xs.length j with
  |some n=>some (.nx (E.set i (some (.rt,.lst (xs.set n v.2)))))
  |none=>none)
 |_,_=>none
 else none
noncomputable def XV(z:Str):D->Option D:=λd=>match d with
 |.lst ds=>(match xv ds with
  |some ys=>if(ys.map (·.length)).sum+ys.length*z.length<=100000 then some (.str (Txt.join z ys))else none
  |none=>none)
 |_=>none
def YZ(z:Str)(c:Ex):Ex:=λE=>bnd (c E) λE x=>val E ((XV z x.2).map λd=>(.dp,d))
end Q
namespace Q
open PySem
def kz5:D->Bool
 |.str _=>true
 |_=>false
noncomputable def Zz:D->D->Option D:=λx y=>match x,y with
 |.str a,.str b=>(match Builtin.Str.occurrences a b 0 a.length 1 with
  |i::_=>some (.int i)
  |[]=>none)
 |_,_=>none
noncomputable def qxj(a b:Ex):Ex:=λE=>bnd (a E) λE x=>if kz5 x.2=true then bnd (b E) λE y=>val E ((Zz x.2 y.2).map λd=>(.dp,d))else none
end Q
namespace Q
open PySem
noncomputable def D.at:List Nat->D->Option D
 |[],d=>some d
 |n::p,.tup ds=>match ds[n]? with
  |some d=>D.at p d
  |none=>none
 |n::p,.lst ds=>match ds[n]? with
  |some d=>D.at p d
  |none=>none
 |_::_,_=>none
noncomputable def D.put(d':D):List Nat->D->D
 |[],_=>d'
 |n::p,.tup ds=>match ds[n]? with
  |some d=>.tup (ds.set n (D.put d' p d))
  |none=>.tup ds
 |n::p,.lst ds=>match ds[n]? with
  |some d=>.lst (ds.set n (D.put d' p d))
  |none=>.lst ds
 |_::_,d=>d
end Q
namespace Q
open PySem PySem.Spec PyProof.Rows L2 L3
section
variable {X:Cx}{Z:Fx0}{K:PySem.W.Frag}{pn:List Nat}{q qa qb:Bool}{a b c:Ex}{u:Ts}{tg e ea eb:Expr}{st:Stmt}{σ:L2.St}{H:Hp}{L:Ls}{E:En}{pos p p2:Pos}{x:Str}
theorem kjj(a:Str):∀r,(Qx a r).Perm (a::r)
 |[]=>List.Perm.refl _
 |b::r=>by
  unfold Qx
  split
  ·exact((kjj a r).cons b).trans (List.Perm.swap ..)
  ·exact List.Perm.refl _
theorem zw:∀r,(q9 r).Perm r
 |[]=>List.Perm.refl _
 |a::r=>(kjj a _).trans ((zw r).cons a)
def leS(a b:Str):Prop:=Spec.ltCps b.cps.toList a.cps.toList=false
theorem leS_iff{a b:Str}:leS a b↔a.cps.toList<=b.cps.toList:=by
 unfold leS;rw[ltCps_eq,decide_eq_false_iff_not,List.not_lt]
theorem kvq{a b c:Str}(h:leS a b)(h':leS b c):leS a c:=leS_iff.mpr (List.le_trans (leS_iff.mp h) (leS_iff.mp h'))
theorem kz1{a b:Str}(h:leS a b)(h':leS b a):a=b:=by
 have:=List.le_antisymm (leS_iff.mp h) (leS_iff.mp h');cases a;cases b;simp only at this
 congr 1
 exact Array.toList_inj.mp this
theorem qqe{a b:Str}(h:¬leS a b):leS b a:=by
 rw[leS_iff]at h ⊢;exact List.le_of_lt (List.not_le.mp h)
theorem kva:∀{a:Str} {r:List Str},risingS a r=true->(a::r).Pairwise leS
 |a,[],_=>by simp
 |a,b::r,h=>by
  have h:(!(Spec.ltCps b.cps.toList a.cps.toList)&&risingS b r)=true:=h;rw[Bool.and_eq_true,Bool.not_eq_true']at h;have ih:=kva h.2;refine List.pairwise_cons.mpr ⟨λc hc=>?_,ih⟩;rcases List.mem_cons.mp hc with rfl|hc
  ·exact h.1
  ·exact kvq h.1 ((List.pairwise_cons.mp ih).1 c hc)
theorem qk9{r:List Str}(h:sortedS r=true):r.Pairwise leS:=by
 cases r with
 |nil=>exact .nil
 |cons a r=>exact kva h
theorem qqs{a:Str}:∀{r:List Str},r.Pairwise leS->(Qx a r).Pairwise leS
 | [],_=>by simp[Qx]
 | b::r,h=>by
  rw[List.pairwise_cons]at h;unfold Qx
  by_cases hl:Spec.ltCps b.cps.toList a.cps.toList=true
  ·rw[Xe hl];refine List.pairwise_cons.mpr ⟨λc hc=>?_,qqs h.2⟩;rcases List.mem_cons.mp ((kjj a r).mem_iff.mp hc)with rfl|hc
   ·exact qqe (by unfold leS;rw[hl];exact λz=>nomatch z)
   ·exact h.1 c hc
  ·rw[Xl hl];have gu:leS a b:=by unfold leS;exact Bool.eq_false_iff.mpr hl
   refine List.pairwise_cons.mpr ⟨λc hc=>?_,List.pairwise_cons.mpr h⟩;rcases List.mem_cons.mp hc with rfl|hc
   ·exact gu
   ·exact kvq gu (h.1 c hc)
theorem jzp:∀{r:List Str},(q9 r).Pairwise leS
 |[]=>.nil
 |a::r=>qqs jzp
theorem kxg{r s:List Str}(p:s.Perm r)(h:sortedS s=true):s=q9 r:=
 List.Perm.eq_of_pairwise (λa b _ _ h1 h2=>kz1 h1 h2) (qk9 h) jzp (p.trans (zw r).symm)
theorem kjk(a:Int):∀r,(JW a r).Perm (a::r)
 |[]=>List.Perm.refl _
 |b::r=>by
  unfold JW
  split
  ·exact((kjk a r).cons b).trans (List.Perm.swap ..)
  ·exact List.Perm.refl _
theorem jxr:∀r,(V4 r).Perm r
 |[]=>List.Perm.refl _
 |a::r=>(kjk a _).trans ((jxr r).cons a)
theorem qqt{a:Int}:∀{r:List Int},r.Pairwise (·<=·)->(JW a r).Pairwise (·<=·)
 | [],_=>by simp[JW]
 | b::r,h=>by
  rw[List.pairwise_cons]at h;unfold JW
  by_cases hl:b<a
  ·rw[Xe hl];refine List.pairwise_cons.mpr ⟨λc hc=>?_,qqt h.2⟩;rcases List.mem_cons.mp ((kjk a r).mem_iff.mp hc)with rfl|hc
   ·exact Int.le_of_lt hl
   ·exact h.1 c hc
  ·rw[Xl hl];refine List.pairwise_cons.mpr ⟨λc hc=>?_,List.pairwise_cons.mpr h⟩;rcases List.mem_cons.mp hc with rfl|hc
   ·omega
   ·have:=h.1 c hc;omega
theorem kxh:∀{r:List Int},(V4 r).Pairwise (·<=·)
 |[]=>.nil
 |a::r=>qqt kxh
theorem qw9{r s:List Int}(p:s.Perm r)(h:s.Pairwise (·<=·)):s=V4 r:=
 List.Perm.eq_of_pairwise (λa b _ _ h1 h2=>Int.le_antisymm h1 h2) h kxh (p.trans (jxr r).symm)
theorem kk8{ns:List Str}:∀{us:List Value},Vals (ns.map V.str) us->StrsAre us ns:=by
 induction ns with
 | nil=>intro us r;rw[List.map_nil]at r;cases r;exact .nil
 | cons n ns ih=>
  intro us r;rw[List.map_cons]at r;cases r with
  |cons r1 r2=>
   obtain⟨t,e⟩:=r1;subst e;exact .cons n t (ih r2)
theorem kqu{us:List Value}{ns:List Str}(h:StrsAre us ns):Vals (ns.map V.str) us:=by
 induction h with
 |nil=>exact .nil
 |cons y t _ ih=>exact .cons ⟨t,rfl⟩ ih
theorem kqw{us:List Value}{ns:List Int}(h:IntsAre us ns):Vals (ns.map V.int) us:=by
 induction h with
 |nil=>exact .nil
 |cons y t _ ih=>exact .cons ⟨t,rfl⟩ ih
noncomputable def qkj(K:PySem.W.Frag):List V->Hp->VK->Prop:=λxs H Q=>
 (∃p ss,xs=[.ref p]/\SqL K H p (ss.map V.str)/\ss.length<64/\∀l,H l=none->Q (.ref l) (upd H l (.lst ((q9 ss).map V.str)))) \/
 ∃p ss,xs=[.ref p]/\SqL K H p (ss.map V.int)/\ss.length<64/\∀l,H l=none->Q (.ref l) (upd H l (.lst ((V4 ss).map V.int)))
theorem kx6(hK:X.K=K):CallR X (.builtin "sorted") (qkj K):=by
 subst hK;intro pins s σ H xs us Q I r h;rcases h with⟨p,ss,rfl,hq,hl,q⟩|⟨p,ss,rfl,hq,hl,q⟩
 ·obtain⟨u,rfl,rx⟩:=xw r;cases rx;obtain⟨ag,r',pl,hz⟩:=I.list hq;have ax:=r'.length;rw[X4]at ax hz;refine sorted_strs (vs:=ag) pl.isList (kk8 r') (by omega) λout ss' h1 h2 h3=>?_
  have e:=kxg h2 h3;subst e;obtain⟨n,hn⟩:=sortedAll_at s.heap ag out;have gc:s.heap.objs.size<=s.heap.objs.size+1:=Nat.le_succ _;refine⟨.ref (s.heap.objs.size+1),_,I.laid (t':=s.toks) (o:=.lst ((q9 ss).map V.str)) (λb o e=>sortedAll_old e) gc ?_,rfl,q _ (I.hok.fresh gc)⟩;exact⟨by rw[X4,(zw ss).length_eq];exact hz,out.toList,n,kqu h1,by simpa using hn⟩
 ·obtain⟨u,rfl,rx⟩:=xw r;cases rx;obtain⟨ag,r',pl,hz⟩:=I.list hq;have ax:=r'.length;rw[X4]at ax hz;refine sorted_ints (vs:=ag) pl.isList (qje r') (by omega) λout ss' h1 h2 h3=>?_
  have e:=qw9 h2 h3;subst e;obtain⟨n,hn⟩:=sortedAll_at s.heap ag out;have gc:s.heap.objs.size<=s.heap.objs.size+1:=Nat.le_succ _;refine⟨.ref (s.heap.objs.size+1),_,I.laid (t':=s.toks) (o:=.lst ((V4 ss).map V.int)) (λb o e=>sortedAll_old e) gc ?_,rfl,q _ (I.hok.fresh gc)⟩;exact⟨by rw[X4,(jxr ss).length_eq];exact hz,out.toList,n,kqw h1,by simpa using hn⟩
theorem jzn{g:Bool}:∀{ds:List D} {bs:List Str} {xs:List V} {as:List Addr},xv ds=some bs->RepA K H g ds xs as->xs=bs.map V.str/\∀z∈bs,z.length<=sizeLine
 | [],bs,xs,as,h,r=>by
  cases oq9 h;unfold RepA at r;exact⟨r.1,λ_ z=>nomatch z⟩
 | d::ds,bs,xs,as,h,r=>by
  cases d with
  | str b=>
   unfold xv at h;cases hb:xv ds with
   |none=>rw[hb]at h;cases h
   |some i7=>
    rw[hb]at h;cases oq9 h;unfold RepA at r;obtain⟨x,rr,c1,c2,rfl,rfl,h1,h2⟩:=r;unfold RepL at h1;obtain⟨i1,i2⟩:=jzn hb h2;exact⟨by rw[h1.1,i1];rfl,λz hz=>(List.mem_cons.mp hz).elim (λe=>e▸h1.2.2) (i2 z)⟩
  |_=>unfold xv at h;cases h
theorem kqf{g:Bool}:∀{ds:List D} {bs:List Int} {xs:List V} {as:List Addr},J7 ds=some bs->RepA K H g ds xs as->xs=bs.map V.int
 | [],bs,xs,as,h,r=>by
  cases oq9 h;unfold RepA at r;exact r.1
 | d::ds,bs,xs,as,h,r=>by
  cases d with
  | int b=>
   unfold J7 at h;cases hb:J7 ds with
   |none=>rw[hb]at h;cases h
   |some i7=>
    rw[hb]at h;cases oq9 h;unfold RepA at r;obtain⟨x,rr,c1,c2,rfl,rfl,h1,h2⟩:=r;unfold RepL at h1;rw[h1.1,kqf hb h2];rfl
  |_=>unfold J7 at h;cases h
theorem kkw{g:Bool}:∀{bs:List Str},(∀z∈bs,z.length<=sizeLine)->RepA K H g (bs.map D.str) (bs.map V.str) []
 |[],_=>by unfold RepA;exact⟨rfl,rfl⟩
 |b::bs,h=>by
  rw[List.map_cons,List.map_cons];unfold RepA;exact⟨_,_,[],[],rfl,rfl,V5 (h b X6),kkw λz hz=>h z (lc9 _ hz)⟩
theorem kxn{g:Bool}:∀{bs:List Int},RepA K H g (bs.map D.int) (bs.map V.int) []
 |[]=>by unfold RepA;exact⟨rfl,rfl⟩
 |b::bs=>by
  rw[List.map_cons,List.map_cons];unfold RepA;exact⟨_,_,[],[],rfl,rfl,zZ,kxn⟩
theorem qvx:Ad1 K (λv H Q=>qkj K [v] H Q) VW:=by
 intro H x s Q ok hf k;unfold VW at hf;dsimp only at hf;cases hx:x.d with
 | lst ds=>
  rw [hx]at hf;dsimp only at hf;obtain⟨l,xs,bs,ev,q3,r3,_⟩:=items ok (.inl hx);have q3:LsR K H l xs:=by rcases q3 with⟨_,z⟩|⟨z,_⟩;exact z;rw[hx]at z;cases z
  cases hs:xv ds with
  | some ss=>
   rw[hs]at hf;dsimp only at hf
   split at hf
   ·rename_i hl;cases oq9 hf;obtain⟨e1,e2⟩:=jzn hs r3;subst e1;refine .inl ⟨l,ss,by rw[ev],z9 q3,hl,λp hp=>?_⟩;exact k ⟨.rt,.lst _,.ref p,p::[]⟩ _ rfl rfl (K0 hp (kkw λz hz=>e2 z ((zw ss).mem_iff.mp hz)) λb hb=>nomatch hb)
   ·cases hf
  | none=>
   rw[hs]at hf;dsimp only at hf;cases hi:J7 ds with
   | none=>rw[hi]at hf;cases hf
   | some ss=>
    rw[hi]at hf;dsimp only at hf
    split at hf
    ·rename_i hl;cases oq9 hf;have e1:=kqf hi r3;subst e1;refine .inr ⟨l,ss,by rw[ev],z9 q3,hl,λp hp=>?_⟩;exact k ⟨.rt,.lst _,.ref p,p::[]⟩ _ rfl rfl (K0 hp kxn λb hb=>nomatch hb)
    ·cases hf
 |_=>rw[hx]at hf;cases hf
def tPo(Z:Fx0):Option Ex->TO
 |none=>qk1
 |some c=>vqf (tV Z true c)
theorem QY:PO X none (tPo Z none):=vjo
theorem J9(h:QV X Z true c e):PO X (some e) (tPo Z (some c)):=vjn h
theorem qkq{α:Type}{co:Option Ex}{F:En->Option Int->Option (Res α)}{r:Res α}{G:Option Int->Hp->Prop}(m:Mt E σ L)(w:World Z.K H L)(h:bnd (V2 co E) F=some r)(xc:Xc Z σ H L r)
  (k:∀E1 l,F E1 l=some r->∀L1 H1,Mt E1 σ L1->World Z.K H1 L1->Step H L H1 L1->k9 H H1->G l H1):tPo Z co σ H G:=by
 cases co with
 | none=>exact k E none h L H m w Step.refl xQ
 | some c=>
  have h:bnd (bnd (c E) λE x=>match x.2 with|.int i=>some (.ok E (some i))|_=>none) F=some r:=h;have h':bnd (c E) (λE x=>bnd (match x.2 with|.int i=>some (.ok E (some i))|_=>none) F)=some r:=by
   cases hc:c E with
   |none=>rw[hc]at h;exact h
   |some y=>rw[hc]at h;cases y<;>exact h
  show tV Z true c σ H λx H1=>∃i,x=.int i/\G (some i) H1
  refine vY m w h' xc λE1 s h1 x L1 H1 e1 e2 m1 w1 ok fr sr st sm=>?_
  cases hs:s.2 with
  |int i=>
   rw[hs]at h1;exact⟨i,vk ok (e2.trans hs),k E1 (some i) h1 L1 H1 m1 w1 st (sm rfl)⟩
  |_=>rw[hs]at h1;cases h1
theorem kxk(n d:Nat)(v:Option Int):HT.sIx n d v=xZ n d v:=by
 cases v<;>rfl
theorem RepA.drop{K:PySem.W.Frag}{H:Hp}{g:Bool}:∀(n:Nat) {ds:List D} {xs:List V} {as:List Addr},RepA K H g ds xs as->∃bs,RepA K H g (ds.drop n) (xs.drop n) bs/\∀b∈bs,b∈as
 |0,ds,xs,as,h=>⟨as,h,λ_ h=>h⟩
 |n+1,[],xs,as,h=>by
  unfold RepA at h;obtain⟨rfl,rfl⟩:=h;exact⟨[],by simp only[List.drop_nil];unfold RepA;exact⟨rfl,rfl⟩,λ_ h=>h⟩
 |n+1,d::ds,xs,as,h=>by
  unfold RepA at h;obtain⟨x,r,bs,cs,rfl,rfl,h1,h2⟩:=h;obtain⟨es,r2,hb⟩:=RepA.drop n h2;exact⟨es,r2,λb h=>lr9 _ (hb b h)⟩
theorem RepA.take{K:PySem.W.Frag}{H:Hp}{g:Bool}:∀(n:Nat) {ds:List D} {xs:List V} {as:List Addr},RepA K H g ds xs as->∃bs,RepA K H g (ds.take n) (xs.take n) bs/\∀b∈bs,b∈as
 |0,ds,xs,as,h=>⟨[],by simp only[List.take_zero];unfold RepA;exact⟨rfl,rfl⟩,λ_ h=>nomatch h⟩
 |n+1,[],xs,as,h=>by
  unfold RepA at h;obtain⟨rfl,rfl⟩:=h;exact⟨[],by simp only[List.take_nil];unfold RepA;exact⟨rfl,rfl⟩,λ_ h=>h⟩
 |n+1,d::ds,xs,as,h=>by
  unfold RepA at h;obtain⟨x,r,bs,cs,rfl,rfl,h1,h2⟩:=h;obtain⟨es,r2,hb⟩:=RepA.take n h2;refine⟨bs++es,?_,λb h=>(List.mem_append.mp h).elim (λz=>ll9 _ z) λz=>lr9 _ (hb b z)⟩;rw[List.take_succ_cons,List.take_succ_cons];unfold RepA;exact⟨x,r.take n,bs,es,rfl,rfl,h1,r2⟩
theorem RepA.cut{K:PySem.W.Frag}{H:Hp}{g:Bool}{ds:List D}{xs:List V}{as:List Addr}(h:RepA K H g ds xs as)(lo hi:Option Int):∃bs,RepA K H g (qk ds lo hi) (Q2 xs lo hi) bs/\∀b∈bs,b∈as:=by
 have hl:=h.len;unfold qk Q2;rw[kxk,kxk,<-hl];obtain⟨bs,r,hb⟩:=h.drop (xZ ds.length 0 lo);obtain⟨cs,r2,hc⟩:=r.take (xZ ds.length ds.length hi - xZ ds.length 0 lo);exact⟨cs,r2,λb h=>hb b (hc b h)⟩
theorem vj3{x:Sl}{s:Sd}{lo hi:Option Int}{Q:VK}(ok:x.ok K H)(hf:fSl (x.o,x.d) lo hi=some s)(k:∀(z:Sl) H',z.o=s.1->z.d=s.2->Out K H H' z x.frz->Q z.v H'):qxx K x.v lo hi H Q:=by
 unfold fSl at hf;dsimp only at hf;cases hx:x.d with
 | lst ds=>
  rw[hx]at hf;dsimp only at hf
  split at hf
  ·rename_i hl;cases oq9 hf;obtain⟨l,xs,bs,ev,q3,r3,h3⟩:=z4 ok (.inl hx) (by rw[hx];exact hl);have q3:LsR K H l xs:=by rcases q3 with⟨_,z⟩|⟨z,_⟩;exact z;rw[hx]at z;cases z
   obtain⟨cs,r4,h4⟩:=r3.cut lo hi;exact .inl ⟨l,xs,ev,z9 q3,λp hp=>k ⟨.rt,.lst _,.ref p,p::cs⟩ _ rfl rfl (K0 hp r4 λb hb=>h3 b (h4 b hb))⟩
  ·cases hf
 | tup ds=>
  rw[hx]at hf;dsimp only at hf
  split at hf
  ·rename_i hl;cases oq9 hf;obtain⟨l,xs,bs,ev,q3,r3,h3⟩:=z4 ok (.inr hx) (by rw[hx];exact hl.1);have q3:SqT K H l xs:=by rcases q3 with⟨z,_⟩|⟨_,z⟩;rw[hx]at z;cases z;exact z
   obtain⟨cs,r4,h4⟩:=r3.cut lo hi;refine .inr (.inl ⟨l,xs,ev,q3,?_,λp hp=>k ⟨.no,.tup _,.ref p,cs⟩ _ rfl rfl (Zv hp r4 λb hb=>h3 b (h4 b hb))⟩);rw[kxk,kxk,<-r3.len];exact hl.2
  ·cases hf
 | str z=>
  rw[hx]at hf;dsimp only at hf
  split at hf
  ·rename_i hl;cases oq9 hf;obtain⟨e,hz⟩:=wK ok hx;exact .inr (.inr ⟨z,e,hz,k ⟨.dp,.str _,.str _,[]⟩ H rfl rfl (vza hl)⟩)
  ·cases hf
 |_=>rw[hx]at hf;cases hf
theorem Kk{lo hi:Option Ex}{elo ehi:Option Expr}(ha:QV X Z q a ea)(hl:PO X elo (tPo Z lo))(hh:PO X ehi (tPo Z hi))(hK:autoParam (X.K=Z.K) Ŕ):QE X Z q (cSl a lo hi) (.Subscript ea (.Slice elo ehi none p2) pos):=
 qZ (qwt (vzr Z.K hK) ha hl hh) fun σ H Q b8=>ex8 b8 λE L r m w hc xc k=>by
  refine vY m w (show bnd (a E) _=some r from hc) xc λE1 s h1 x L1 H1 e1 e2 m1 w1 ok fr sr st sm=>?_
  refine qkq m1 w1 h1 (xc.step st) λE2 l h2 L2 H2 m2 w2 st2 fh=>?_
  refine qkq m2 w2 h2 (xc.step (st.trans st2)) λE3 u h3 L3 H3 m3 w3 st3 lx=>?_
  obtain⟨z,hz,rfl⟩:=zq h3;have k1:=Vw ok fr st2 fh;have k2:=Vw k1.1 k1.2 st3 lx;refine vj3 k2.1 (by rw[e1,e2];exact hz) λy H' ho hd o=>?_
  obtain⟨w4,st4⟩:=K7 w3 ((st.trans st2).trans st3) o k2.2 (λb hb=>k2.1.some (Sl.frz_as hb)) (V8 sr λb hb=>Sl.frz_as hb);have ia:q=true->k9 H H3:=λhq=>qx (sm hq) (qx fh lx)
  exact k _ _ rfl y L3 H' ho hd m3 w4 st4 λhq=>⟨qx (ia hq) o.same,λb hb=>J5 (ia hq) (o.new b hb)⟩
end
theorem vzt{prog:Program}{w:PySem.World}{A:Around}{E:Value->Shared->Prop}{s:Shared}{l:Addr}{items:Array Value}{k:Int}{t:Tok}{Q:Value->Shared->Prop}
  (ht:IsTup s.heap l items) (h:Q .notImplemented s):wpAny (model prog w) A (call (.builtin "int.__rmul__") [.int k t,.ref l]) Q E s:=by
 refine Yc PySem.F.slot_int_rmul (typeIs_int s k t) PySem.F.entry_int_rmul ?_ (PySem.F.args_int_rmul_2 _ _);obtain⟨o,e,c,n,hd⟩:=ht;show wpAny _ _ (asInt? (.ref l) >>= _) _ _ s;unfold asInt?;refine X0 (X0 (wpAny_load e ?_));rw[hd];refine X3 ?_;dsimp only;refine X0 (wpAny_rule ?_);exact X3 ⟨_,rfl,h⟩
theorem mulT{prog:Program}{w:PySem.World}{A:Around}{E:Value->Shared->Prop}{s:Shared}{l:Addr}{items:Array Value}{k:Int}{t:Tok}{Q:Value->Shared->Prop}
  (ht:IsTup s.heap l items) (h1:-(2 ^ 63)<=k) (h2:k<2 ^ 63) (hz:items.size*k.toNat<=sizeLine)
  (gr:(items.isEmpty=true\/k=1)->Q (.ref l) s)
  (hsz:(List.foldl (λx1 x2=>x1++x2) #[] (List.replicate k.toNat items)).size<=sizeLine)
  (ig:Q (.ref s.heap.objs.size) { s with heap:=s.heap.push { cls:=.type "tuple",data:=.seq (List.foldl (λx1 x2=>x1++x2) #[] (List.replicate k.toNat items)) } })
  : wpAny (model prog w) A (call (.builtin "tuple.__mul__") [.ref l,.int k t]) Q E s:=by
 refine Yc PySem.F.slot_tuple_mul ht.typeIs PySem.F.entry_tuple_mul ?_ (PySem.F.args_tuple_mul_2 _ _);show wpAny _ _ (if(decide (k < -2 ^ 63)||decide (k>=2 ^ 63))=true then _ else _) _ _ s;rw [Xl (by simp;omega)];show wpAny _ _ (Builtin.Tuple.tupleItemsOf (.ref l) >>= _) _ _ s;refine X0 (tupleItemsOf_ ht ?_)
 by_cases hs:(items.isEmpty||k==1)=true
 ·rw[Xe hs];unfold Builtin.Tuple.tupleIsExact;refine X0 (X0 (wpAny_typeOf ht.typeIs (X3 ?_)));rw[Xe (by decide)];refine X0 (wpAny_rule ?_);refine X3 ⟨_,rfl,gr ?_⟩
  simpa using hs
 ·rw[Xl hs];have ef:items.isEmpty=false:=by
   cases h:items.isEmpty<;>simp_all
  have hm:((items.size:Int)*k)<=(sizeLine:Int)\/k<=0:=by
   by_cases hk:k<=0
   ·exact .inr hk
   ·refine .inl ?_;have e:((k.toNat:Nat):Int)=k:=Int.toNat_of_nonneg (by omega);have:((items.size*k.toNat:Nat):Int)<=(sizeLine:Int):=Int.ofNat_le.mpr hz;rw[Int.natCast_mul,e]at this;exact this
  dsimp only
  by_cases hk:k<=0
  ·rw[Xe (by simp[hk])];have e:k.toNat=0:=by omega
   rw[e]at ig;unfold Builtin.Tuple.tupleExact;exact X0 (Xq (X3 ⟨_,rfl,ig⟩) (show(0:Nat)<=sizeLine from Yt _))
  ·rw[Xl (by simp[hk,ef])];have hm:=hm.resolve_right hk;have hsl:(sizeLine:Int)=16777216:=by decide
   rw[Xl (by omega)];rw[Xl (by unfold Builtin.Tuple.tupleTooMany;simp;omega)];unfold Builtin.Tuple.tupleExact;exact X0 (Xq (X3 ⟨_,rfl,ig⟩) hsz)
section
variable {X:Cx}{Z:Fx0}{K:PySem.W.Frag}{pn:List Nat}{q qa qb:Bool}{a b c:Ex}{u:Ts}{tg e ea eb:Expr}{st:Stmt}{σ:L2.St}{H:Hp}{L:Ls}{E:En}{pos p p2:Pos}{x:Str}
noncomputable def vqx(K:PySem.W.Frag):R2:=λx y H Q=>∃l k xs,x=.ref l/\y=.int k/\SqT K H l xs/\-(2 ^ 63)<=k/\k<2 ^ 63/\xs.length*k.toNat<=sizeLine/\((xs=[]\/k=1)->Q (.ref l) H)/\∀p,H p=none->Q (.ref p) (upd H p (.tup (List.replicate k.toNat xs).flatten))
theorem op_repT:OpR X (binaryOp .Mult) (vqx X.K):=by
 intro pins s σ H x y v u Q I rx ry h;obtain⟨l,k,xs,rfl,rfl,hq,h1,h2,hz,q1,q2⟩:=h;cases rx;obtain⟨t,rfl⟩:=ry;obtain⟨ag,r,ht,hl⟩:=I.tuple hq;have ax:=r.length;have f0:List.foldl (λx1 x2=>x1++x2) #[] (List.replicate k.toNat ag.toArray)=(List.replicate k.toNat ag).flatten.toArray:=by
  have:=kjm ag k.toNat [];rw[List.nil_append]at this;exact this
 have hz2:(List.replicate k.toNat xs).flatten.length<=sizeLine:=by rw[qqc,Nat.mul_comm];exact hz
 refine wpAny_binaryOp_repeat_ref (T:="tuple") (U:="int") (by decide) ht.typeIs (λs'=>typeIs_int s' k t) rfl F.fills_int_mul F.slot_int_rmul (show seqRepeat? (Value.type "tuple")=pure (some (Value.builtin "tuple.__mul__"))from rfl) F.slot_int_index.lookup
  (vzt ht ⟨rfl,ht.typeIs,mulT ht h1 h2 (by rw[X7,<-ax];exact hz) (λhs=>?_) ?_ ?_⟩)
 ·refine⟨.ref l,H,I,rfl,q1 ?_⟩;rcases hs with hs|hs
  ·left;have:ag=[]:=by simpa using hs
   subst this
   simpa using ax
  ·exact .inr hs
 ·rw[f0,X7,<-(r.rep k.toNat).length];exact hz2
 ·rw[f0];exact⟨.ref _,_,I.laid (t':=s.toks) (o:=.tup _) (λb o e=>X2 _ e) (Xg _) ⟨hz2,_,r.rep k.toNat,IsTupD.new _ _⟩,rfl,q2 _ (I.hok.fresh (Xg _))⟩
def vv0(K:PySem.W.Frag):R2:=λx y H Q=>vqx K x y H Q\/vj7 K x y H Q
theorem vw6(hK:autoParam (X.K=K) Ŕ):OpR X (binaryOp .Mult) (vv0 K):=by subst hK;exact op_repT.or vw7
theorem vkw:Ad2 K (vv0 K) qY:=by
 intro H x y s Q ox oy hf k;cases hx:x.d with
 | tup ds=>
  cases hy:y.d with
  | int n=>
   unfold qY at hf;rw [show(x.o,x.d).2=x.d from rfl,show(y.o,y.d).2=y.d from rfl,hx,hy]at hf;dsimp only at hf
   split at hf
   ·rename_i hc;cases oq9 hf;obtain⟨l,xs,bs,e3,q3,r3,h3⟩:=z4 ox (.inr hx) (by rw[hx];exact hc.2.2.2);have q3:SqT K H l xs:=by rcases q3 with⟨z,_⟩|⟨_,z⟩;rw[hx]at z;cases z;exact z
    obtain⟨cs,r4,h4⟩:=r3.reps n.toNat;refine .inl ⟨l,n,xs,e3,vk oy hy,q3,hc.1,hc.2.1,by rw[<-r3.len];exact hc.2.2.1,λhs=>?_,λp hp=>?_⟩
    ·refine k ⟨.no,.tup _,.ref l,cs⟩ H rfl rfl ⟨xQ,?_,λb hb=>(nomatch hb),Y8,λb hb=>ll9 _ (h3 b (h4 b hb))⟩;show RepL K H true (.tup _) (.ref l) cs;unfold RepL;refine⟨l,xs,rfl,q3,?_⟩;have e:(List.replicate n.toNat xs).flatten=xs:=by
      rcases hs with hs|hs
      ·subst hs;simp
      ·subst hs;simp
     rw[e]at r4;exact r4
    ·exact k ⟨.no,.tup _,.ref p,cs⟩ _ rfl rfl (Zv hp r4 λb hb=>ll9 _ (h3 b (h4 b hb)))
   ·cases hf
  |_=>
   refine .inr (qzr H x y s Q ox oy ?_ k);unfold qY at hf;rw[show(x.o,x.d).2=x.d from rfl,show(y.o,y.d).2=y.d from rfl,hx,hy]at hf;rw[hx,hy];exact hf
 |_=>
  refine .inr (qzr H x y s Q ox oy ?_ k);unfold qY at hf;rw[show(x.o,x.d).2=x.d from rfl,hx]at hf;rw[hx];exact hf
end
section
variable {X:Cx}{Z:Fx0}{K:PySem.W.Frag}{pn:List Nat}{q qa qb:Bool}{a b c:Ex}{u:Ts}{tg e ea eb:Expr}{st:Stmt}{σ:L2.St}{H:Hp}{L:Ls}{E:En}{pos p p2 lj:Pos}{x:Str}{i3:List Expr}{k1:Nat}
theorem q_fz{i:Nat}{A:Sm}(h:QS X Z pn A st):QS X Z pn (sFz i A) st:=zY h λD σ H b8=>ex7 b8 λE L r m w hc k=>by
 have hc:A (Vx i E)=some r:=hc;unfold Vx at hc
 split at hc
 ·rename_i o d hE;obtain⟨x,h1,h2,h3,h4⟩:=m.get hE;have m':=m.let h1
  rw[h3]at m';exact⟨_,_,r,m',(w.read h1).tail,hc,k.step ((Step.read h1).trans Step.drop) Pn.refl⟩
 ·exact⟨E,L,r,m,w,hc,k⟩
end
theorem vwv{n:Nat}{i:Int}{j:Nat}(h:_root_.Q.ixN n i=some j):seqIndex? i n=some j/\j<n/\-(n:Int)<=i/\i<n:=by
 have e:L2.ixN n i=some j:=by
  unfold _root_.Q.ixN at h;unfold L2.ixN
  by_cases h0:0<=i
  ·rw[Xe h0]at h ⊢;exact h
  ·rw[Xl h0]at h ⊢;exact h
 exact kx0 e
section
variable {X:Cx}{Z:Fx0}{K:PySem.W.Frag}{pn:List Nat}{q qa qb:Bool}{a b c:Ex}{u:Ts}{tg e ea eb:Expr}{st:Stmt}{σ:L2.St}{H:Hp}{L:Ls}{E:En}{pos p p2 lj:Pos}{x:Str}{i3:List Expr}{k1:Nat}
theorem RepA.setAt{H H':Hp}{l:Addr}{d':D}{cs:List Addr}:∀{n:Nat} {ds:List D} {xs:List V} {as:List Addr} {ys:List D},RepA K H false ds xs as->as.Nodup->ds[n]?=some (.lst ys)->xs[n]?=some (.ref l) ->
  (∀bs:List Addr,l∉bs->(∀b∈bs,b∈as)->Kp H H' bs)->(∀bs,RepL K H false (.lst ys) (.ref l) bs->(∀b∈bs,b∈as)->bs.Nodup->∃es,RepL K H' false d' (.ref l) es/\es.Nodup/\(∀b∈es,b∈bs\/b∈cs))->(∀b∈cs,b∉as) ->
  ∃i6,RepA K H' false (ds.set n d') xs i6/\i6.Nodup/\∀b∈i6,b∈as\/b∈cs
 | _,[],_,_,_,_,_,e,_,_,_,_=>by simp at e
 | 0,d::ds,xs,as,ys,h,nd,e,ex,kp,new,kd=>by
  have e:d=.lst ys:=by simpa using e
  subst e;unfold RepA at h;obtain⟨x,r,bs,es,rfl,rfl,h1,h2⟩:=h;have ex:x=.ref l:=by simpa using ex
  subst ex;rw[X8]at nd;obtain⟨fs,n1,n2,n3⟩:=new bs h1 (λb hb=>ll9 _ hb) nd.1;have hl:l∈bs:=by
   unfold RepL at h1;obtain⟨a,zs,gs,ea,_,q⟩:=h1;cases ea;rcases q with⟨_,rfl⟩|⟨z,_⟩
   ·exact X6
   ·cases z
  have le:l∉es:=λz=>nd.2.2 l hl l z rfl
  refine⟨fs++es,?_,?_,λb hb=>?_⟩
  ·rw[List.set_cons_zero];unfold RepA;exact⟨_,r,fs,es,rfl,rfl,n1,h2.kp (kp es le λb hb=>lr9 _ hb)⟩
  ·rw[X8];refine⟨n2,nd.2.1,λa ha b hb gu=>?_⟩;subst gu;rcases n3 a ha with z|z
   ·exact nd.2.2 a z a hb rfl
   ·exact kd a z (lr9 _ hb)
  ·rcases List.mem_append.mp hb with z|z
   ·exact(n3 b z).imp (λz=>ll9 _ z) id
   ·exact .inl (lr9 _ z)
 | n+1,d::ds,xs,as,ys,h,nd,e,ex,kp,new,kd=>by
  unfold RepA at h;obtain⟨x,r,bs,es,rfl,rfl,h1,h2⟩:=h;rw[X8]at nd;obtain⟨i6,n1,n2,n3⟩:=RepA.setAt (n:=n) h2 nd.2.1 (by simpa using e) (by simpa using ex) (λbs h1 h2=>kp bs h1 λb hb=>lr9 _ (h2 b hb)) (λbs h1 h2 h3=>new bs h1 (λb hb=>lr9 _ (h2 b hb)) h3) (λb hb z=>kd b hb (lr9 _ z));have hl:l∈es:=by
   obtain⟨v,gs,q1,q2,q3⟩:=h2.get (i:=n) (by simpa using e);rw[show r[n]?=some (V.ref l)from by simpa using ex]at q1;cases oq9 q1;unfold RepL at q2;obtain⟨a,zs,hs,ea,_,q⟩:=q2;cases ea;rcases q with⟨_,rfl⟩|⟨z,_⟩
   ·exact q3 l X6
   ·cases z
  have lb:l∉bs:=λz=>nd.2.2 l z l hl rfl
  refine⟨bs++i6,?_,?_,λb hb=>?_⟩
  ·rw[List.set_cons_succ];unfold RepA;exact⟨x,r,bs,i6,rfl,rfl,h1.kp (kp bs lb λb hb=>ll9 _ hb),n1⟩
  ·rw[X8];refine⟨nd.1,n2,λa ha b hb gu=>?_⟩;subst gu;rcases n3 a hb with z|z
   ·exact nd.2.2 a ha a z rfl
   ·exact kd a z (ll9 _ ha)
  ·rcases List.mem_append.mp hb with z|z
   ·exact .inl (ll9 _ z)
   ·exact(n3 b z).imp (λz=>lr9 _ z) id
theorem qzj{y:Sl}{ds:List D}(ok:y.ok K H)(hd:y.d=.lst ds)(ho:y.o=.dp):∃l xs bs,y.v=.ref l/\H l=some (.lst xs)/\y.as=l::bs/\y.own=l::bs/\RepA K H false ds xs bs:=by
 obtain⟨l,xs,bs,c1,c2,c3,c4,c5⟩:=kwr ok hd (by rw[ho];exact λz=>nomatch z);rw[ho]at c5;exact⟨l,xs,bs,c1,c2,c3,by unfold Sl.own;rw[ho,c3],c5⟩
theorem qz0 {i:Nat} {j:Ex} {ex ej:Expr} {be aw o9:Pos} (hj:QV X Z true j ej) (hc:QE X Z true c e) (hx:PE X ex (Qj i)) (bq:kqr ej) (hK:autoParam (X.K=Z.K) Ŕ)
  (hm:MtR X "list.append" kkx)
  (br:autoParam (attributeBase (.Subscript ex ej p) "append" X.env (eval (.Subscript ex ej p) X.env)=eval (.Subscript ex ej p) X.env) Ŕ)
  (dy:autoParam (((backTo aw (starEach [e] X.env)).all (λx=>!x.1)&&(backToKw aw (keywordEach [] X.env)).all (λx=>x.1.isSome)
   && decide ([e].length+([]:List Keyword).length+(if([]:List Keyword).isEmpty then 0 else 1)<30))=true) Ŕ)
  (c8:autoParam ((be.endLine==aw.line)=true) Ŕ) (hs:autoParam (starEach [e] X.env=(false,eval e X.env)::starEach [] X.env) Ŕ) (bw:autoParam ((backTo aw (starEach [] X.env)).any (·.1)=false) Ŕ)
  (oe:autoParam (swapsWith (.Call (.Attribute (.Subscript ex ej p) "append" be) [e] [] aw) none o9.line X.env=pure false) Ŕ):
  QS X Z pn (K8 i j c) (.Expr (.Call (.Attribute (.Subscript ex ej p) "append" be) [e] [] aw) o9):=
 zY (qkp (qz6 Z.K PySem.F.plainAttrs_list PySem.F.slot_list_append PySem.F.type_list_append hm (vvw (hK▸qzb) hx hj bq) (v5 hc wZ hs) br dy c8 hs bw hK) oe) λD σ H b8=>ex7 b8 λE L r m w dl k=>by
 unfold K8 at dl;cases h0:E[i]? with
 | none=>rw[h0]at dl;cases dl
 | some s0=>
 cases s0 with
 | none=>rw[h0]at dl;cases dl
 | some s0=>
 obtain ⟨o0,d0⟩:=s0;rw [h0] at dl;cases o0 with
 | no=>cases dl
 | rt=>cases dl
 | dp =>
 cases d0 with
 | lst ds0=>
  rw [Xe (show wjo (some (some (Own.dp,_root_.Q.D.lst ds0)))=true from rfl)]at dl;obtain ⟨x0,a1,a2,a3,a4⟩:=m.get h0;refine ⟨x0.v,a4,?_⟩;rcases Vq dl with⟨E1,s,h1,h2⟩|⟨E1,cc,h1,rfl⟩
  rotate_left
  ·exact ⟨E,L,_,m,w,h1,k.xc,λE' s' z=>by cases z⟩
  refine ⟨E,L,_,m,w,h1,(λ_ _ z=>by cases z),λE' s' z x L1 H1 e1 e2 m1 w1 okx fr sr st sm=>?_⟩;injection z with z1 z2;subst z1 z2;cases hE:E1[i]? with
  | none=>rw[hE]at h2;cases h2
  | some s1=>
  cases s1 with
  | none=>rw[hE]at h2;cases h2
  | some s1=>
  obtain ⟨o1,d1⟩:=s1;rw [hE] at h2;cases o1 with
  | no=>cases h2
  | rt=>cases h2
  | dp =>
  cases d1 with
  | lst ds1=>
   cases hsi:s.2 with
   | int kk=>
    rw [hsi]at h2;dsimp only at h2;cases hj2:_root_.Q.ixN ds1.length kk with
    | none=>rw[hj2]at h2;cases h2
    | some n=>
    rw [hj2]at h2;dsimp only at h2;cases hdn:ds1[n]? with
    | none=>rw[hdn]at h2;cases h2
    | some dn=>
    rw [hdn]at h2;cases dn with
    | lst ys0=>
     dsimp only at h2;obtain⟨y,b1,b2,b3,b4⟩:=m1.get hE;have hv:y.v=x0.v:=by rw[a4]at b4;exact(oq9 (oq9 b4)).symm
     obtain⟨la,xs,bs,c1,c2,c3,c4,c5⟩:=qzj (w1.ok y (x4 b1)) b3 b2;obtain⟨vn,gs,f1,f2,f3⟩:=c5.get hdn;obtain⟨g1,g2,g3,g4⟩:=vwv hj2;have hvn:=f2;unfold RepL at hvn;obtain⟨l,zs,lm,evn,hra,hqq⟩:=hvn;subst evn;have mj:H1 l=some (.lst zs):=by rcases hqq with⟨z,_⟩|⟨z,_⟩;exact z;cases z
     rw [<-hv,c1];refine .inl ⟨la,xs,kk,.ref l,rfl,vk okx (e2.trans hsi),.inl (.inl c2),?_,.inl ⟨rfl,zs,.inl (.inl mj)⟩,?_⟩
     ·unfold atI;have:L2.ixN xs.length kk=some n:=by
       rw [<-c5.len];unfold _root_.Q.ixN at hj2;unfold L2.ixN
       by_cases h0:0<=kk
       ·rw[Xe h0]at hj2 ⊢;exact hj2
       ·rw[Xl h0]at hj2 ⊢;exact hj2
      rw [this];exact f1
     have k1:FlP Z pn D σ H1 L1 r:=k.step st Pn.refl;refine VY (q:=true) m1 w1 h2 k1 λE2 s2 h3 x2 L2 H2 e3 e4 m2 w2 st2 fh=>?_
     cases hE2:E2[i]? with
     | none=>rw[hE2]at h3;cases h3
     | some s3=>
     cases s3 with
     | none=>rw[hE2]at h3;cases h3
     | some s3=>
     obtain⟨o3,d3⟩:=s3;rw [hE2]at h3;cases o3 with
     | no=>cases h3
     | rt=>cases h3
     | dp =>
     cases d3 with
     | lst lw=>
      dsimp only at h3;cases fw:lw[n]? with
      | none=>rw[fw]at h3;cases h3
      | some dn2=>
      rw [fw]at h3;cases dn2 with
      | lst ys=>
       dsimp only at h3
       split at h3
       rotate_left
       ·cases h3
       rename_i hti;cases oq9 h3;obtain⟨y2,p1,p2,p3,p4⟩:=m2.get hE2;have hv2:y2.v=.ref la:=by
        have:y2.v=y.v:=by rw[b4]at p4;exact(oq9 (oq9 p4)).symm
        rw[this,c1]
       obtain⟨i8,xs2,bs2,q1,q2,q3,q4,q5⟩:=qzj (w2.ok y2 (lc9 _ (x4 p1))) p3 p2;have:i8=la:=by rw[hv2]at q1;exact(V.ref.inj q1).symm
       subst this;have gr:=(fh rfl).1;have:xs2=xs:=by rw[gr _ _ c2]at q2;cases q2;rfl
       subst this;obtain⟨vn2,gs2,j1,j2,j3⟩:=q5.get fw;have:vn2=.ref l:=by rw[f1]at j1;exact(oq9 j1).symm
       subst this;have lq:H2 l=some (.lst zs):=gr _ _ mj;have lin:l∈bs2:=by
        unfold RepL at j2;obtain⟨a,zz,hs,ea,_,qq⟩:=j2;cases ea;rcases qq with⟨_,rfl⟩|⟨z,_⟩
        ·exact j3 l X6
        ·cases z
       obtain⟨cs,r1,t3,t4,t5⟩:=vx6 w2.head false λ_=>by rw[show x2.sd=s2 from by simp[Sl.sd,e3,e4]];exact hti.1
       have nd:=w2.nd;rw [kQ,X8]at nd;have yn:(i8::bs2).Nodup:=by
        obtain⟨A,B,e,_⟩:=Z4 p1;have:=nd.2.1;rw[e,k4,kQ,X8]at this;have:=(List.nodup_append.mp this.2.1).1;rw[q4]at this;exact this
       rw [List.nodup_cons]at yn;have oin:∀b∈i8::bs2,b∈j8 L2:=λb hb=>mem_owned.mpr ⟨y2,x4 p1,by rw[q4];exact hb⟩
       have csx:∀b∈cs,b∉i8::bs2:=λb hb hz=>nd.2.2 b (t4 rfl b hb) b (oin b hz) rfl
       have nlc:l∉cs:=λz=>csx l z (lc9 _ lin)
       have kpg:∀as:List Addr,l∉as->Kp H2 (upd H2 l (.lst (zs++[x2.v]))) as:=λas hn=>by
        have ke:∀a o,H2 a=some o->a≠l->upd H2 l (.lst (zs++[x2.v])) a=some o:=λa o e ne=>by rw[kJ ne];exact e
        refine⟨λa xs e=>ke a _ e λz=>?_,λa o u e=>ke a _ e λz=>?_,λa ha o e=>ke a o e λz=>hn (z▸ha)⟩
        ·subst z;rw[lq]at e;cases e
        ·subst z;rw[lq]at e;cases e
       obtain⟨i6,n1,n2,n3⟩:=RepA.setAt (H':=upd H2 l (.lst (zs++[x2.v]))) (d':=.lst (ys++[s2.2])) (cs:=cs) q5 yn.2 fw f1 (λbs h1 _=>kpg bs h1) (λbs hb i4 lu=>by
        unfold RepL at hb;obtain⟨a,zz,hs,ea,kg,qq⟩:=hb;cases ea;rcases qq with⟨qq,rfl⟩|⟨z,_⟩
        ·have:zz=zs:=by rw[lq]at qq;cases qq;rfl
         subst this;rw[List.nodup_cons]at lu;refine⟨l::(hs++cs),?_,?_,λb hb=>?_⟩
         ·unfold RepL;refine⟨l,zz++[x2.v],hs++cs,rfl,RepA.snoc (by rw[<-e4];exact r1.kp (kpg cs nlc)) (kg.kp (kpg hs lu.1)),.inl ⟨xJ,rfl⟩⟩
         ·rw[List.nodup_cons,X8];refine⟨λz=>(List.mem_append.mp z).elim lu.1 nlc,lu.2,t5 rfl nd.1,λa ha b hb gu=>?_⟩;subst gu;exact csx a hb (lc9 _ (i4 a (lc9 _ ha)))
         ·rcases List.mem_cons.mp hb with rfl|hb
          ·exact .inl X6
          ·exact(List.mem_append.mp hb).imp (lc9 _) id
        ·cases z) (λb hb z=>csx b hb (lc9 _ z))
       have lla:i8≠l:=λz=>yn.1 (z▸lin)
       refine⟨l,zs,x2.v,rfl,rfl,lq,?_,?_⟩
       ·have:ys.length=zs.length:=by
         unfold RepL at j2;obtain⟨a,zz,hs,ea,kg,qq⟩:=j2;cases ea;rcases qq with⟨qq,rfl⟩|⟨z,_⟩
         ·have:zz=zs:=by rw[lq]at qq;cases qq;rfl
          subst this;exact kg.len
         ·cases z
        rw[<-this];exact hti.2
       have laas:i8∉i6:=λz=>by
        rcases n3 i8 z with z|z
        ·exact yn.1 z
        ·exact csx i8 z X6
       obtain⟨w3,s3⟩:=World.writeAt (T:=[some x2]) (L:=L2) (i:=i) (y':=⟨.dp,.lst (lw.set n (.lst (ys++[s2.2]))),y2.v,i8::i6⟩) (l:=l) (ob:=.lst (zs++[x2.v])) w2 p1 (by rw[q4];exact lc9 _ lin) (by
        show RepL Z.K _ false _ _ _;unfold RepL;exact⟨i8,xs2,i6,hv2,n1,.inl ⟨by rw[kJ lla];exact q2,rfl⟩⟩) (List.nodup_cons.mpr ⟨laas,n2⟩) (λa ha=>by
        rcases List.mem_cons.mp (show a∈i8::i6 from ha)with rfl|ha
        ·exact .inl (by rw[q4];exact X6)
        ·rcases n3 a ha with z|z
         ·exact .inl (by rw[q4];exact lc9 _ z)
         ·exact .inr (by simpa using t4 rfl a z)) (λa ha=>(nomatch ha)) (λa ha z=>(nomatch z))
       refine k1 σ _ _ Pn.refl ?_ w3 (st2.trans s3);have mm:=m2.set (x:=⟨.dp,.lst (lw.set n (.lst (ys++[s2.2]))),y2.v,i8::i6⟩) i;rw[Z0 p4]at mm;exact mm
      |_=>cases h3
     |_=>cases h3
    |_=>cases h2
   |_=>rw[hsi]at h2;cases h2
  |_=>cases h2
 |_=>cases dl
end
section
variable {X:Cx}{Z:Fx0}{q:Bool}{a b c:Ex}{ea eb ec:Expr}{σ:L2.St}{H:Hp}{pos:Pos}
theorem kkj{r r':R2}{f g:D->D->Option D}(ad:Ad2 Z.K r (pu2 f))(nk:Ad2 Z.K r' (pu2 g)){Q:VK}(h:tQ Z q (zW f g a b c) σ H Q):qk2 r r' (tV Z q a) (tV Z true b) (tV Z true c) σ H Q:=by
 obtain⟨E,L,R,m,w,hc,xc,k⟩:=h;refine vY m w hc xc λE1 s h1 x L1 H1 e1 e2 m1 w1 ok fr sr st sm=>?_
 refine vY m1 w1 h1 (xc.step st) λE2 s2 h2 y L2 H2 e3 e4 m2 w2 jh mv nq st2 fh=>?_
 have kx:=Vw ok fr st2 (fh rfl);cases hf:f s.2 s2.2 with
 | none=>rw[hf]at h2;cases h2
 | some d=>
  rw [hf]at h2;cases d with
  | bl kb=>
   refine ad H2 x y (.dp,.bl kb) _ kx.1 jh (by show(f x.d y.d).map _=_;rw[e2,e4,hf];rfl) λz H' zo zd o=>?_
   refine⟨kb,JY o.ok zd,?_⟩;have w3:World Z.K H' L2:=⟨λt ht=>RepO.kp (w2.ok t ht) (Kp.of_same o.same),w2.nd,w2.ds⟩;have st3:Step H L H' L2:=(st.trans st2).trans ⟨λb ob h _=>o.same b ob h,λ_ h=>.inl h,λ_ h=>.inl h⟩;have lx:q=true->k9 H H':=λhq=>qx (sm hq) (qx (fh rfl) o.same)
   cases kb with
   | false=>
    cases oq9 h2;rw[Xl (by decide)];exact k _ _ rfl ⟨.dp,.bl false,.bl false,[]⟩ L2 H' rfl rfl m2 (w3.consPu (x:=⟨.dp,.bl false,.bl false,[]⟩) (show RepL Z.K H' false (.bl false) (.bl false) []from v4) rfl) (Q9 (x:=⟨.dp,.bl false,.bl false,[]⟩) st3 (λb hb=>nomatch hb) rfl) λhq=>⟨lx hq,λ_ z=>(nomatch z)⟩
   | true=>
    rw[Xe rfl];refine vY m2 w3 h2 (xc.step st3) λE3 s3 h3 v L3 H3 e5 e6 m3 w4 ok3 km sr3 st4 kl=>?_
    obtain⟨zz,hz,rfl⟩:=zq h3;have ky:=Vw (x:=y) (RepO.kp jh (Kp.of_same o.same)) mv st4 (kl rfl);refine nk H3 y v zz Q ky.1 ok3 (by show(g y.d v.d).map _=_;rw[e4,e6];exact hz) λt H5 to td ot=>?_
    obtain⟨w5,ir⟩:=K7 w4 (st3.trans st4) ot (λb hb=>(List.mem_append.mp hb).elim (ky.2 b) (km b)) (λb hb=>(List.mem_append.mp hb).elim (λz=>ky.1.some (Sl.frz_as z)) λz=>ok3.some (Sl.frz_as z))
     (qk8 (V8 (nq.back st) λb hb=>Sl.frz_as hb) (V8 (sr3.back st3) λb hb=>Sl.frz_as hb))
    exact k _ _ rfl t L3 H5 to td m3 w5 ir λhq=>⟨qx (lx hq) (qx (kl rfl) ot.same),λb hb=>J5 (qx (lx hq) (kl rfl)) (ot.new b hb)⟩
  |_=>cases h2
theorem vje{op gh:CmpOp}{r r':R2}{f g:D->D->Option D}(ho:OpR X (compareOp op) r)(ad:Ad2 Z.K r (pu2 f))(f8:OpR X (compareOp gh) r')(nk:Ad2 Z.K r' (pu2 g))(ha:QV X Z q a ea)(hb:QV X Z true b eb)(hc:QV X Z true c ec)
  (hm:lastMarks [op,gh] [eb,ec]=false:=by with_unfolding_all rfl):QE X Z q (zW f g a b c) (.Compare ea [op,gh] [eb,ec] pos):=qZ (qwu ho f8 ha hb hc hm) fun σ H Q h=>kkj ad nk h
theorem kky {op gh:CmpOp} {r r':R2} {f g:D->D->Option D} (ho:OpR X (compareOp op) r) (ad:Ad2 Z.K r (pu2 f)) (f8:OpR X (compareOp gh) r') (nk:Ad2 Z.K r' (pu2 g)) (ha:QV X Z q a ea) (hb:QV X Z true b eb) (hc:QV X Z true c ec) (hg:∀x y s,pu2 g x y=some s->∃k,s.2=.bl k)
  (hm:lastMarks [op,gh] [eb,ec]=false:=by with_unfolding_all rfl):QT X Z q (_root_.Q.tE (zW f g a b c)) (.Compare ea [op,gh] [eb,ec] pos):=
 kxq (qwn ho f8 ha hb hc hm) fun σ H Q b8=>ex8 b8 λE L r m w dl xc k=>by
  refine kkj ad nk ?_;have jr:bnd (zW f g a b c E) (λE x=>val E (truth x.2))=some r:=dl;rcases wq jr with⟨E1,s,h1,h2⟩|⟨E1,cx,h1,h2⟩
  ·refine⟨E,L,_,m,w,h1,(λ_ _ z=>by cases z),λE' s' z x L' H' e1 e2 m' w' st sm=>?_⟩;injection z with z1 z2;subst z1 z2;obtain⟨kk,hk⟩:∃k,s.2=.bl k:=by
    unfold zW at h1;rcases wq h1 with⟨E2,s2,h3,h4⟩|⟨_,_,_,z⟩
    ·rcases wq h4 with⟨E3,s3,h5,h6⟩|⟨_,_,_,z⟩
     ·split at h6
      ·rcases wq h6 with⟨E4,s4,h7,h8⟩|⟨_,_,_,z⟩
       ·obtain⟨y,hy,z⟩:=zq h8;cases z;exact hg s3 s4 _ hy
       ·cases z
      ·cases oq9 h6;exact⟨false,rfl⟩
      ·cases h6
     ·cases z
    ·cases z
   rw[hk]at h2;cases oq9 h2;exact⟨kk,JY w'.head (e2.trans hk),k _ _ rfl L' H' m' w'.tail (st.trans Step.drop) λhq=>(sm hq).1⟩
  ·exact⟨E,L,_,m,w,h1,xc.map h2,λE' s' z=>by cases z⟩
end
end Q
namespace L3
open PySem PySem.Spec PyProof.Rows L2
def tX(X:Cx)(x:Addr):Cx:={ X with A:=X.A.mark (some (.ref x)),calm:=false,xe:=λ_ _=>False }
abbrev exO(o:Obj):HO:=.frz o (.ext λ_=>True)
section
variable {X:Cx}{pins:List (Addr×Obj)}{σ:L2.St}{H:Hp}{s:Shared}{x:Addr}{ox:Obj}
theorem qzf(I:Inv X pins σ H s):Inv (tX X x) pins σ H s:=
 ⟨⟨I.ok.mod,I.ok.kind,I.ok.glob,I.ok.blt,I.ok.above,I.ok.inj,I.ok.has,I.ok.cab,λz=>(by cases z),I.ok.frames,I.ok.stk,I.ok.exf,I.ok.bs,I.ok.bsz,I.ok.noex,I.ok.exfs,I.ok.funs,I.ok.frf⟩,I.os,I.bare,I.base,I.loc,I.cell,I.free,I.freeC,I.pin,I.hok,I.len⟩
theorem vkf(ok:X.Ok)(I:Inv (tX X x) pins σ H s):Inv X pins σ H s:=⟨ok,I.os,I.bare,I.base,I.loc,I.cell,I.free,I.freeC,I.pin,I.hok,I.len⟩
theorem vkg(I:Inv X pins σ H s)(e:s.heap.get? x=some ox)(f:FpX X pins H x):Inv X pins σ (upd H x (exO ox)) s:=by
 obtain⟨hn,f1,f2,f3,f4,f5⟩:=f;refine⟨I.ok,I.os,I.bare,⟨I.base.keep,I.base.slot,λb o q n hx=>?_,I.base.there,λb xs q=>?_,λb o u q=>?_,λb ps q=>?_⟩,I.loc,I.cell,?_,λy c q=>?_,λp hp=>?_,λb u q=>?_,I.len⟩
 ·have hb:b≠x:=by
   rintro rfl;rcases f3 with z|z
   ·exact hx z
   ·rw[z]at q;cases q
  rw[kJ hb];exact I.base.free b o q n hx
 ·have:=I.base.tups b xs q;rw[kJ (wv this hn)];exact this
 ·have:=I.base.frzs b o u q;rw[kJ (wv this hn)];exact this
 ·obtain⟨gf,this⟩:=I.base.tbls b ps q;exact⟨gf,by rw[kJ (wv this hn)];exact this⟩
 ·rw[kJ (Ne.symm f1)];exact I.free
 ·rw[kJ (f4 y c q)];exact I.freeC y c q
 ·obtain⟨a1,a2,a3⟩:=I.pin p hp;exact⟨a1,by rw[kJ (f5 p hp)];exact a2,a3⟩
 ·by_cases hb:b=x
  ·subst hb;rw[xJ]at q;cases q;exact⟨e,trivial,⟨_,e⟩,λ_ _ _ _=>trivial⟩
  ·rw[kJ hb]at q;exact(I.hok b u q).stay (λc v _ q=>q) (λc q=>by rw[kJ (wv q hn)];exact q) λc xs q=>by rw[kJ (wv q hn)];exact q
end
abbrev vqc(K:PySem.W.Frag)(UC:Addr)(i:Nat)(tb:XK->TS)(ts:TS):TS:=λD σ H=>∃E:XK,tb E D σ H/\∀x Cv H',E Cv none H'->H' x=none->∃C,Cv=.ref C/\PySem.W.exmOne K (.ref C) (.ref UC)=some true/\XCls K C /\
 ∀o,ExAt K x o C->ts { nx:=fun σ' H''=>D.nx (σ'.set i none) H'',rt:=D.rt,bk:=fun σ' H''=>D.bk (σ'.set i none) H'',ct:=fun σ' H''=>D.ct (σ'.set i none) H'' } (σ.set i (some (.ref x))) (upd H' x (exO o))
theorem vjm{X:Cx}{ux n:Str}{np i' pos:Pos}{UC:Addr}{i:Nat}{st b0:Stmt}{fm:List Stmt}{tb:XK->TS}{ts:TS}(hN:X.N.Nodup)(hi:X.N[i]?=some n)(hk:X.env.scope.names.lookup n=some .local)(top:Jq X)(hU:X.mg ux=some (.ref UC))(hb:PSX X st tb)
  (hs:∀x,PSs (tX X x) (b0::fm) ts) (hg:autoParam (Gl X ux) Ŕ) (d8:autoParam ((ux==("__debug__":Str))=false) ŕ):
  PS X (.Try [st] [.ExceptHandler (some (.Name ux np)) (some n) (b0::fm) i'] [] [] pos) (vqc X.K UC i tb ts):=by
 intro pins s σ H D I ⟨E,h1,h2⟩;refine wpAny_Try_except (wpAny_execs_cons (wpAny_mono (hb E pins s σ H D I h1) (λf s1 q=>?_) (λe s1 q=>?_)))
 ·cases f with
  |next=>exact wpAny_execs_nil (wpAny_execs_nil q)
  |ret v=>exact q
  |brk=>exact q
  |cont=>exact q
 ·obtain⟨H',x,Cv,rfl,I1,f1,q1⟩:=q;refine kxw top rfl I1 f1 λL T s2 _ t2=>Z3 t2 λs3 t3=>?_
  obtain⟨C,rfl,hm,xc,ht⟩:=h2 x Cv H' q1 t3.fx.1;refine wpAny_handleBy_cons (codeAny_handlers_test ?_) (λz=>nomatch z);obtain⟨vs,ho,hv⟩:=t3.f.ex;have I3:Inv (tX X x) pins σ H' s3:=qzf t3.inv;refine WQ I3 hg hU ?_ d8;have at3:PySem.W.InstAt s3.heap x { cls:=.ref C,data:=.fields vs } C none:=⟨ho,rfl,rfl,trivial⟩;refine Lk (PySem.W.exm_one t3.inv.kIn at3.type hm) ?_;show codeAny _ _ _ _ s3;refine codeAny_handlers_suite_as (Z3 t3 λs4 t4=>?_);obtain⟨vs4,ho4,hv4⟩:=t4.f.ex;have I4:Inv (tX X x) pins σ (upd H' x (exO { cls:=.ref C,data:=.fields vs4 })) s4:=qzf (vkg t4.inv ho4 t4.fx);refine jzo (X:=tX X x) I4 hN hi (.inl hk) (v:=.ref x) (u:=.ref x) rfl (λs5 I5=>?_) (.inr hk);refine wpAny_mono (hs x pins s5 _ _ _ I5 (ht _ ⟨rfl,rfl,rfl,xc⟩)) (λf s6 q=>?_) λ_ _ z=>z.elim
  have bk:∀{σ6:L2.St} {H6:Hp},Inv (tX X x) pins σ6 H6 s6->Inv X pins σ6 H6 s6:=λz=>vkf I.ok z
  show wpAny _ _ _ _ _ s6;cases f with
  |next=>
   obtain⟨σ6,H6,I6,q6⟩:=q;exact jxd (bk I6) hN hi hk λs7 I7=>⟨_,_,I7,q6⟩
  |brk=>
   obtain⟨σ6,H6,I6,q6⟩:=q;exact jxd (bk I6) hN hi hk λs7 I7=>⟨_,_,I7,q6⟩
  |cont=>
   obtain⟨σ6,H6,I6,q6⟩:=q;exact jxd (bk I6) hN hi hk λs7 I7=>⟨_,_,I7,q6⟩
  |ret v=>
   obtain⟨v',σ6,H6,I6,r6,q6⟩:=q;exact jxd (bk I6) hN hi hk λs7 I7=>⟨v',_,_,I7,r6,q6⟩
noncomputable def vz8(K:PySem.W.Frag):List V->Hp->VK->Prop:=λxs H Q=>∃x o C b,ExAt K x o C/\H x=some (exO o)/\((∃U,xs=[.ref x,.ref U]/\PySem.W.kitOne K (.ref C) (.ref U)=some b)\/∃U,xs=[.ref x,.ty U]/\PySem.W.kitOne K (.ref C) (.type U)=some b)/\Q (.bl b) H
theorem qxh{X:Cx}:CallR X (.builtin "isinstance") (vz8 X.K):=by
 intro pins s σ H xs us Q I r ⟨x,o,C,b,a,e,h,q⟩;have px:s.heap.get? x=some o:=(show ObjOk X.prog X.w H s.heap x (exO o)from I.hok x _ e).1;have bp:∃o,PySem.W.InstAt s.heap x o C none:=⟨o,px,a.cls,a.no,by rw[a.di];trivial⟩;rcases h with⟨U,rfl,hk⟩|⟨U,rfl,hk⟩
 ·obtain⟨u1,u2,rfl,e1,e2⟩:=W8 r;cases e1;cases e2;exact Xz (kqd a.xc) I.kIn bp hk (λz=>nomatch z) λtk=>⟨.bl b,H,I.tok _,rfl,q⟩
 ·obtain⟨u1,u2,rfl,e1,e2⟩:=W8 r;cases e1;cases(show u2=Value.type U from e2);exact Xz (kqd a.xc) I.kIn bp hk (λz=>nomatch z) λtk=>⟨.bl b,H,I.tok _,rfl,q⟩
end L3
namespace Q
open PySem PySem.Spec PyProof.Rows L2 L3
theorem kqn:bootBuiltins "ValueError"=some (.type "ValueError"):=by decide +kernel
theorem qzs{K:PySem.W.Frag}{C:Addr}(ga:PySem.W.findIn K (.ref C) "__getattribute__"=some (some (.builtin "BaseException.__getattribute__")))(gt:PySem.W.findIn K (.ref C) "__getattr__"=some none)(fa:PySem.W.findIn K (.ref C) "__class__"=some (some (.builtin "object.__class__")))
  (fg:PySem.W.specialIn K (.builtin "object.__class__") "__get__"=some (some (.builtin "getset_descriptor.__get__"))) (ft:PySem.W.takesIn K (.builtin "object.__class__")=some true) (ob:PySem.W.mroIn K C (.type "object")=some true) (bx:PySem.W.mroIn K C (.type "BaseException")=some true) (cl:PySem.W.isClsIn K C=true):XCls K C:=
 ⟨ga,gt,by
  obtain⟨cd,hc⟩:=Option.isSome_iff_exists.mp (show(PySem.W.clsIn K C).isSome=true from cl);unfold PySem.W.findObj;rw[hc,Option.bind_some,fa,Option.bind_some];simp[fg,ft],ob,bx,cl⟩
noncomputable def Kx(K:PySem.W.Frag)(u:V)(t:List (Str×Bool)):Prop:=∀c b,t.lookup c=some b->∃C,PySem.W.nsIn K mainGlobals c=some (some (.ref C))/\((∃U,u=.ref U/\PySem.W.kitOne K (.ref C) (.ref U)=some b)\/∃U,u=.ty U/\PySem.W.kitOne K (.ref C) (.type U)=some b)
theorem qqm{K:PySem.W.Frag}{u:V}:Kx K u []:=λ_ _ z=>nomatch z
theorem kz3{K:PySem.W.Frag}{u:V}{c:Str}{b:Bool}{C:Addr}{t:List (Str×Bool)}(h:PySem.W.nsIn K mainGlobals c=some (some (.ref C)))(k:(∃U,u=.ref U/\PySem.W.kitOne K (.ref C) (.ref U)=some b)\/∃U,u=.ty U/\PySem.W.kitOne K (.ref C) (.type U)=some b)(r:Kx K u t):Kx K u ((c,b)::t):=λc' b' z=>by
 rw[Yl]at z
 split at z
 ·rename_i e;cases eq_of_beq e;cases z;exact⟨C,h,k⟩
 ·exact r c' b' z
theorem vke{K:PySem.W.Frag}{c:Str}{b:Bool}{C U:Addr}{t:List (Str×Bool)}(h:PySem.W.nsIn K mainGlobals c=some (some (.ref C)))(k:PySem.W.kitOne K (.ref C) (.ref U)=some b)(r:Kx K (.ref U) t):Kx K (.ref U) ((c,b)::t):=kz3 h (.inl ⟨U,rfl,k⟩) r
theorem vwy{K:PySem.W.Frag}{c:Str}{b:Bool}{C:Addr}{U:String}{t:List (Str×Bool)}(h:PySem.W.nsIn K mainGlobals c=some (some (.ref C)))(k:PySem.W.kitOne K (.ref C) (.type U)=some b)(r:Kx K (.ty U) t):Kx K (.ty U) ((c,b)::t):=kz3 h (.inr ⟨U,rfl,k⟩) r
theorem vxv{K:PySem.W.Frag}{u:V}{t:List (Str×Bool)}(ht:Kx K u t):Ad1 K (λv H Q=>vz8 K [v,u] H Q) (pu1 (xk t)):=by
 intro H x s Q ok hf k;have ok:=RepO.wk ok;unfold pu1 at hf;obtain⟨o,d,v,as⟩:=x;cases d with
 | obj c fs=>
  unfold xk at hf;cases hl:t.lookup c with
  |none=>simp only[hl]at hf;cases hf
  |some b=>
   simp only[hl]at hf;cases oq9 hf;dsimp only at ok;unfold RepL at ok;obtain⟨e0,x,ob,C,rfl,h1,h2,h3⟩:=ok;obtain⟨C',h4,h5⟩:=ht c b hl;rw[h3]at h4;cases oq9 (oq9 h4);refine⟨x,ob,C,b,h2,h1,?_,k ⟨.dp,.bl b,.bl b,[]⟩ H rfl rfl x8⟩;rcases h5 with⟨U,rfl,h5⟩|⟨U,rfl,h5⟩
   ·exact .inl ⟨U,rfl,h5⟩
   ·exact .inr ⟨U,rfl,h5⟩
 |_=>cases hf
section
variable {X:Cx}{Z:Fx0}{pn:List Nat}{q:Bool}{a b c:Ex}{e ea eb:Expr}{es:List Expr}{pos p p2:Pos}{t:List (Str×Bool)}{y:Str}{u:V}
theorem vva(ha:QV X Z q a ea)(hm:X.mg "isinstance"=none)(hu:PE X (.Name y p2) (tC u))(hK:X.K=Z.K)(ht:Kx X.K u t)(hg:autoParam (Gl X "isinstance") Ŕ)
  (he:autoParam (starEach [ea,.Name y p2] X.env=(false,eval ea X.env)::starEach [.Name y p2] X.env) Ŕ) (nt:autoParam (starEach [.Name y p2] X.env=(false,eval (.Name y p2) X.env)::starEach [] X.env) Ŕ) (bq:autoParam ((backTo pos (starEach [.Name y p2] X.env)).any (·.1)=false) Ŕ):
  QE X Z q (cF1 (pu1 (xk t)) a) (.Call (.Name "isinstance" p) [ea,.Name y p2] [] pos):=by
 rw[hK]at ht;have hc:CallR X (.builtin "isinstance") (vz8 Z.K):=hK▸qxh;exact qZ (jzq hc hg hm jvx (v5 ha (v5 hu wZ nt) he) (by decide) (by decide) he bq) fun σ H Q h=>Q6 (r:=λv H Q=>vz8 Z.K [v,u] H Q) (vxv ht) h
theorem vjc{x:Str}{C:Addr}{z:Str}{np aw:Pos}(c:ECls X.K X.mg x C)(hm:Z.mg x=some (.ref C))(g:zx X Z.EX)(hz:PE X e (tC (.str z)))(hg:autoParam (Gl X x) Ŕ)(hc:autoParam (X.calm=true) Ŕ)(d8:autoParam ((x==("__debug__":Str))=false) ŕ)
  (he:autoParam (starEach [e] X.env=(false,eval e X.env)::starEach [] X.env) Ŕ) (bq:autoParam (((backTo aw (starEach [e] X.env)).any (·.1))=false) Ŕ):
  QS X Z pn (sRz x) (.Raise (some (.Call (.Name x np) [e] [] aw)) none pos):=zY (qwq c g (v5 hz wZ he) hg hc d8 he bq) λD σ H b8=>ex7 b8 λE L r m w hr k=>by
 cases oq9 hr;exact⟨show(1:Nat)<=sizeLine by decide,k C σ L H hm Pn.refl m w Step.refl⟩
def QEX(X:Cx)(Z:Fx0)(q:Bool)(c:Ex)(e:Expr):Prop:=PEX X e λEX=>tQ ⟨Z.K,Z.mg,EX⟩ q c
theorem vjp{t t':XK->TE}(h:PEX X e t)(w:∀E σ H Q,t' E σ H Q->t E σ H Q):PEX X e t':=λE pins s σ H Q I q=>h E pins s σ H Q I (w E σ H Q q)
theorem vjf{k n:Nat}{x:Str}{ps:List Str}{f:Fn}{cs:List Ex}(D:kW X.prog X.w X.K X.mg X.base k x ps (spF Z.K Z.mg n f))(hr:Room k X.A)(ha:QA X.nox ⟨Z.K,Z.mg,λ_ _ _=>False⟩ q cs (e::es))(hn:autoParam (cs.length=n) Ŕ)(hg:autoParam (Gl X x) Ŕ)(d8:autoParam ((x==("__debug__":Str))=false) ŕ)
  (he:autoParam (starEach (e::es) X.env=(false,eval e X.env)::starEach es X.env) Ŕ) (bq:autoParam ((backTo pos (starEach es X.env)).any (·.1)=false) Ŕ):
  QEX X Z false (W6 f cs) (.Call (.Name x p) (e::es) [] pos):=vjp (qws D hr ha hg d8 he bq) λEX σ H Q b8=>ex8 b8 λE L r m w hc xc kk=>by
 have hc:W6 f cs E=some r:=hc;unfold W6 at hc
 split at hc
 ·rename_i E1 ys hA;refine⟨E,L,_,m,w,hA,(λ_ _ z=>by cases z),λE' ys' z xs L1 H1 e1 m1 w1 st sm=>?_⟩;injection z with z1 z2;subst z1 z2;show spF _ _ _ _ _ _ _ _;rw[Y9];have ax:xs.length=n:=by
   rw[<-hn];have:ys.length=cs.length:=kjs hA;rw[<-this,<-e1,X4]
  cases hf:f (letAll ys)with
  | none=>rw[hf]at hc;cases hc
  | some fr=>
   rw[hf]at hc;obtain⟨wl,sl⟩:=kk7 w1;have ev:xs.map Sl.v=(xs.map Sl.let).map Sl.v:=by rw[Y3];rfl
   rw[ev];refine⟨xs.map Sl.let,fr,rfl,by rw[X4];exact ax,wl.left,by rw[<-e1]at hf;rw[qqb];exact hf,λE' c ee C H' hm s'=>?_,λE' a ee y H' e2 e3 w' s'=>?_⟩
   ·subst ee;cases oq9 hc;obtain⟨w2,s2⟩:=stay wl s' ⟨λ_ z=>(nomatch z),Y8,λ_ z=>(nomatch z)⟩;exact xc _ _ rfl C L1 H' hm m1 w2 ((st.trans sl).trans s2)
   ·subst ee;cases oq9 hc;obtain⟨w2,s2⟩:=stay wl s' w';exact kk _ _ rfl y L1 H' e2 e3 m1 w2 ((st.trans sl).trans s2) λhq=>nomatch hq
 ·cases hc
theorem Mt.unset:∀{E:En} {σ:L2.St} {L:Ls} (i:Nat),Mt E σ L->Mt (E.set i none) (σ.set i none) (L.set i none)
 |_,_,_,_,.nil=>.nil
 |_,_,_,0,.un m=>.un m
 |_,_,_,0,.cons m=>.un m
 |_,_,_,i+1,.un m=>.un (Mt.unset i m)
 |_,_,_,i+1,.cons m=>.cons (Mt.unset i m)
theorem Wq:∀(L:Ls) (i:Nat),(sls (L.set i none)).Sublist (sls L)
 |[],_=>Ys _
 |none::L,0=>Ys _
 |some x::L,0=>List.Sublist.cons _ (Ys _)
 |none::L,i+1=>Wq L i
 |some x::L,i+1=>List.Sublist.cons_cons _ (Wq L i)
theorem World.unset{K:PySem.W.Frag}{H:Hp}{L:Ls}{i:Nat}(w:World K H L):World K H (L.set i none):=w.sub (Wq L i)
theorem Step.unset{H H':Hp}{L L':Ls}{i:Nat}(s:Step H L H' L'):Step H L H' (L'.set i none):=s.sub (Wq L' i)
theorem World.unset1{K:PySem.W.Frag}{H:Hp}{L:Ls}{x:Sl}{i:Nat}(w:World K H (some x::L)):World K H (some x::L.set i none):=w.sub (List.Sublist.cons_cons _ (Wq L i))
theorem Step.unset1{H H':Hp}{L L':Ls}{x:Sl}{i:Nat}(s:Step H L H' (some x::L')):Step H L H' (some x::L'.set i none):=s.sub (List.Sublist.cons_cons _ (Wq L' i))
noncomputable def WK(K:PySem.W.Frag)(mg:Str->Option Value)(UC:Addr)(cs:List Str):Prop:=∀c∈cs,∃C,mg c=some (.ref C)/\PySem.W.nsIn K mainGlobals c=some (some (.ref C))/\PySem.W.exmOne K (.ref C) (.ref UC)=some true/\XCls K C
theorem qjn{K:PySem.W.Frag}{mg:Str->Option Value}{UC:Addr}:WK K mg UC []:=λ_ z=>nomatch z
theorem kx5{K:PySem.W.Frag}{mg:Str->Option Value}{UC C:Addr}{c:Str}{cs:List Str}(e:ECls K mg c C)(h:PySem.W.nsIn K mainGlobals c=some (some (.ref C)))(k:PySem.W.exmOne K (.ref C) (.ref UC)=some true)(r:WK K mg UC cs):WK K mg UC (c::cs):=λc' hc=>by
 rcases List.mem_cons.mp hc with rfl|hc
 ·exact⟨C,e.bd,h,k,e.xc⟩
 ·exact r c' hc
theorem qw7{UC:Addr}{i:Nat}{cs:List Str}{B h:Sm}{tb:XK->TS}{D:Ends}{σ:L2.St}{H:Hp}(hK:X.K=Z.K)(ca:WK X.K Z.mg UC cs)(hp:i∉pn)
  (hb:∀(EX:XK) E L r,Mt E σ L->World Z.K H L->B E=some r->(∀E' c,r=.xc E' c->∀C L' H',Z.mg c=some (.ref C)->Mt E' σ L'->World Z.K H' L'->Step H L H' L'->EX (.ref C) none H')->((∀E' c,r≠.xc E' c)->FlP Z pn D σ H L r)->tb EX D σ H)
  (hr:tS Z pn (Kj cs i B h) D σ H):vqc X.K UC i tb (tS ⟨Z.K,Z.mg,λ_ _ _=>False⟩ pn h) D σ H:=by
 obtain⟨E,L,r,m,w,hr,k⟩:=hr;have hr:Kj cs i B h E=some r:=hr;cases hB:B E with
 | none=>unfold Kj at hr;rw[hB]at hr;cases hr
 | some rb=>
  refine⟨λCv _ H'=>∃E1 c C L1,rb=.xc E1 c/\Cv=.ref C/\Z.mg c=some (.ref C)/\Mt E1 σ L1/\World Z.K H' L1/\Step H L H' L1,hb _ E L rb m w hB (λE' c e C L' H' hm m' w' st=>⟨E',c,C,L',e,rfl,hm,m',w',st⟩) (λef=>?_),?_⟩
  ·unfold Kj at hr;rw [hB]at hr;cases rb with
   | xc E1 c1=>exact absurd rfl (ef E1 c1)
   | nx E1=>cases oq9 hr;exact k
   | ct E1=>cases oq9 hr;exact k
   | bk E1=>cases oq9 hr;exact k
   | rt E1 x=>cases oq9 hr;exact k
  ·rintro x Cv H' ⟨E1,c,C,L1,rfl,rfl,hm,m1,w1,st1⟩ hx;unfold Kj at hr;rw [hB]at hr;dsimp only at hr
   by_cases hc:c∈cs
   ·rw[Xe hc]at hr;obtain⟨C',g1,g2,g3,g4⟩:=ca c hc;rw[hm]at g1;cases oq9 g1;refine⟨C,rfl,g3,g4,λo bp=>?_⟩;have sm:k9 H' (upd H' x (exO o)):=wY hx
    let y:Sl:=⟨.no,.obj c [],.ref x,[]⟩
    have wy:World Z.K (upd H' x (exO o)) (some y::L1):=by
     refine World.consPu ⟨λt ht=>RepO.kp (w1.ok t ht) (Kp.of_same sm),w1.nd,w1.ds⟩ ?_ rfl;show RepL Z.K _ true (.obj c []) (.ref x) [];unfold RepL;exact⟨rfl,x,o,C,rfl,xJ,hK▸bp,hK▸g2⟩
    have sy:Step H L (upd H' x (exO o)) (some y::L1):=by
     refine⟨λb ob q hn=>sm b ob (st1.keep b ob q hn),λb hb=>st1.own b (by rw[kQ]at hb;exact hb),λb hb=>st1.frz b (by rw[vQ]at hb;exact hb)⟩
    cases h2:h (E1.set i (some (.no,.obj c [])))with
    | none=>rw[h2]at hr;cases hr
    | some r2=>
     rw[h2]at hr;refine⟨_,_,r2,kxx (x:=y) m1 rfl rfl,wy.set,h2,?_⟩;have sy2:Step H L (upd H' x (exO o)) (L1.set i (some y)):=sy.trans Step.set;have pp:Pn pn σ (σ.set i (some (V.ref x))):=Pn.refl.set hp;cases r2 with
     |nx E2=>
      cases oq9 hr;intro σ' L' H2 p' m' w' cz;exact k _ _ H2 ((pp.trans p').set hp) (Mt.unset i m') w'.unset (sy2.trans cz).unset
     |ct E2=>
      cases oq9 hr;intro σ' L' H2 p' m' w' cz;exact k _ _ H2 ((pp.trans p').set hp) (Mt.unset i m') w'.unset (sy2.trans cz).unset
     |bk E2=>
      cases oq9 hr;intro σ' L' H2 p' m' w' cz;exact k _ _ H2 ((pp.trans p').set hp) (Mt.unset i m') w'.unset (sy2.trans cz).unset
     |rt E2 a2=>
      cases oq9 hr;intro z σ' L' H2 e1 e2 p' m' w' cz;exact k z _ _ H2 e1 e2 ((pp.trans p').set hp) (Mt.unset i m') w'.unset1 (sy2.trans cz).unset1
     |xc E2 c2=>cases hr
   ·rw[Xl hc]at hr;cases hr
theorem vv7{ux n:Str}{np i' lj:Pos}{UC:Addr}{i:Nat}{b0:Stmt}{fm:List Stmt}{cs:List Str}{h:Sm}(hN:X.N.Nodup)(hi:X.N[i]?=some n)(hk:X.env.scope.names.lookup n=some .local)(top:Jq X)(hU:X.mg ux=some (.ref UC))(hK:X.K=Z.K)(ca:WK X.K Z.mg UC cs)(hb:QEX X Z q b e)
  (hs:∀x,QSs (tX X x) ⟨Z.K,Z.mg,λ_ _ _=>False⟩ pn h (b0::fm)) (hp:autoParam (i∉pn) ŕ) (oe:autoParam (swapsWith e none pos.line X.env=pure false) Ŕ) (hg:autoParam (Gl X ux) Ŕ) (d8:autoParam ((ux==("__debug__":Str))=false) ŕ):
  QS X Z pn (Kj cs i (qwg b) h) (.Try [.Expr e pos] [.ExceptHandler (some (.Name ux np)) (some n) (b0::fm) i'] [] [] lj):=
 zY (vjm hN hi hk top hU (qwo hb oe) hs hg d8) λD σ H hr=>qw7 hK ca hp (λEX E L r m w hB hx hk=>by
  have hB:ofE (b E) (λE _=>some (.nx E))=some r:=hB;rcases Vq hB with⟨E1,s,h1,h2⟩|⟨E1,c,h1,rfl⟩
  ·cases oq9 h2;refine⟨E,L,_,m,w,h1,(λ_ _ z=>by cases z),λE' s' z x L' H' e1 e2 m' w' st sm=>?_⟩;injection z with z1 z2;subst z1 z2;exact hk (λ_ _ z=>nomatch z) σ L' H' Pn.refl m' w'.tail (st.trans Step.drop)
  ·exact⟨E,L,_,m,w,h1,(λE' c' e C L' H' hm m' w' st=>by injection e with z1 z2;subst z1 z2;exact hx _ _ rfl C L' H' hm m' w' st),λE' s' z=>by cases z⟩) hr
end
end Q
namespace Q
open PySem PySem.Spec PyProof.Rows L2 L3
theorem kwn{is:List Int}{val:Nat->Int}(hv:∀i (h:i<is.length),val i=is[i]):∀n,n<=is.length->preSum val n=(is.take n).sum
 |0,_=>by simp[preSum]
 |n+1,h=>by
  rw[preSum,kwn hv n (by omega),hv n (by omega),List.take_succ_eq_append_getElem (by omega),List.sum_append];simp
theorem vqi{is:List Int}(h:∀i∈is,0<=i/\i<=1000000):0<=is.sum/\is.sum<=1000000*is.length:=by
 induction is with
 |nil=>simp
 |cons a is ih=>
  have h1:=h a X6;have h2:=ih λi hi=>h i (lc9 _ hi)
  rw[List.sum_cons,Xp];omega
noncomputable def vzw(K:PySem.W.Frag):List V->Hp->VK->Prop:=λxs H Q=>∃(p:Addr) (is:List Int),xs=[.ref p]/\SqL K H p (is.map V.int)/\WZ is=true/\is.length<=100000/\Q (.int is.sum) H
theorem qxd{X:Cx}(hc:autoParam (X.calm=true) Ŕ):CallR X (.builtin "sum") (vzw X.K):=by
 intro pins s σ H xs us Q I r h;obtain⟨p,is,rfl,hq,hs,hl,q⟩:=h;obtain⟨u,rfl,ru⟩:=xw r;cases ru;obtain⟨ag,rv,pl,hz⟩:=I.list hq;have hli:=pl.isList;have db:p<s.heap.objs.size:=by obtain⟨_,e,_⟩:=hli;exact Xb e
 have ax:is.length=ag.length:=by rw[<-rv.length,X4]
 have hb:∀i∈is,0<=i/\i<=1000000:=λi hi=>by
  have:=List.all_eq_true.mp hs i hi;rw[Bool.and_eq_true]at this;exact⟨of_decide_eq_true this.1,of_decide_eq_true this.2⟩
 have i5:∀i (h:i<is.length),(λi=>is.getD i 0) i=is[i]:=λi h=>by
  show is.getD i 0=_;rw[X5,X1 h];rfl
 refine call_sum_walk (wpAny_pyIter_list hli ?_);refine⟨s.heap.objs.size,[s.heap.objs.size,p],[s.heap.objs.size],ag.toArray.size,_,_,λi=>is.getD i 0,rfl,PySem.Walks.list (A:=X.A.in1) (I.ok.hd hc) _ p (Xn db) ag.toArray,
  ⟨⟨_,Xd _ rfl,rfl,rfl⟩,hli.push _⟩,λb dm=>?_,λi v hP=>?_,λj hj=>?_,λh' tk t' hk=>?_⟩
 ·rw[Heap.size_push];simp only[Y4,Xx,or_false]at dm;rcases dm with e|e
  ·rw[e];exact Nat.lt_succ_self _
  ·rw[e];exact Nat.lt_succ_of_lt db
 ·have hP:ag[i]?=some v:=by simpa using hP
  have hi:i<is.length:=by rw[ax];exact(List.getElem?_eq_some_iff.mp hP).1
  obtain⟨u,e1,e2⟩:=rv.get (i:=i) (x:=.int is[i]) (by rw[Xh,X1 hi];rfl);rw[hP]at e1;cases oq9 e1;obtain⟨t,rfl⟩:=e2;exact⟨t,by rw[i5 i hi]⟩
 ·have hj:j<is.length:=by rw[ax];simpa using hj
  have h1:=hb _ (Xy hj);have h2:=vqi (is:=is.take (j+1)) λi hi=>hb i (List.mem_of_mem_take hi)
  rw[i5 j hj,kwn i5 (j+1) hj];have h3:(is.take (j+1)).length<=100000:=by rw[Y2];omega
  exact⟨⟨by omega,by omega⟩,⟨by omega,by omega⟩⟩
 ·rw[X7,<-ax,kwn i5 is.length (Xg _),List.take_length];refine⟨.int _,H,I.kept (t':=tk) (h':=h') λb o e=>hk b o (λz=>?_) (X2 _ e),⟨_,rfl⟩,q⟩;exact absurd (Xb e) (by rw[List.mem_singleton.mp z];exact Yg _)
theorem vkr{X:Cx}(K:PySem.W.Frag)(hK:autoParam (X.K=K) Ŕ)(hc:autoParam (X.calm=true) Ŕ):CallR X (.builtin "sum") (vzw K):=by subst hK;exact qxd hc
theorem vxq{K:PySem.W.Frag}:Ad1 K (λv H Q=>vzw K [v] H Q) (pu1 Zj):=by
 intro H x s Q ok hf k;unfold pu1 Zj at hf;dsimp only at hf
 split at hf
 ·rename_i ds e;cases hb:J7 ds with
  | none=>rw[hb]at hf;cases hf
  | some is=>
   rw[hb]at hf;dsimp only at hf
   by_cases hs:WZ is=true/\is.length<=100000
   ·rw[Xe hs]at hf;cases oq9 hf;obtain⟨l,xs,cs,ev,q3,r3,_⟩:=items ok (.inl e);have q3:LsR K H l xs:=by rcases q3 with⟨_,z⟩|⟨z,_⟩;exact z;rw[e]at z;cases z
    exact⟨l,is,by rw[ev],by rw[<-kqf hb r3];exact q3.sq,hs.1,hs.2,k ⟨.dp,.int _,.int _,[]⟩ H rfl rfl JX⟩
   ·rw[Xl hs]at hf;cases hf
 ·cases hf
def vz9(iy:Bool):R2:=λx y H Q=>∃a b,x=.bl a/\y=.bl b/\Q (.bl (iy != (a==b))) H
theorem wjh{X:Cx}:OpR X (compareOp .Is) (vz9 false):=by
 intro pins s σ H x y v u Q I rx ry h;obtain⟨a,b,rfl,rfl,q⟩:=h;cases rx;cases ry;exact is_bool (kz9 I (by simpa using q) rfl)
theorem qz8{X:Cx}:OpR X (compareOp .IsNot) (vz9 true):=by
 intro pins s σ H x y v u Q I rx ry h;obtain⟨a,b,rfl,rfl,q⟩:=h;cases rx;cases ry;exact isnot_bool (kz9 I q (by cases a<;>cases b<;>rfl))
theorem kxv{K:PySem.W.Frag}{H:Hp}{x:Sl}{a:Bool}(ok:x.ok K H)(h:x.d=.bl a):x.v=.bl a:=by
 have:=RepO.wk ok;rw[h]at this;unfold RepL at this;exact this.1
theorem vxy{K:PySem.W.Frag}:Ad2 K (vz9 false) (pu2 vzc):=by
 intro H x y s Q ox oy hf k;unfold pu2 vzc at hf;cases hx:x.d with
 | bl a=>cases hy:y.d with
  |bl b=>
   rw[show(x.o,x.d).2=D.bl a from hx,show(y.o,y.d).2=D.bl b from hy]at hf;cases oq9 hf;exact⟨a,b,kxv ox hx,kxv oy hy,by rw[show(false != (a==b))=(a==b)by cases a<;>cases b<;>rfl];exact k ⟨.dp,.bl _,.bl _,[]⟩ H rfl rfl x8⟩
  |_=>rw[show(x.o,x.d).2=D.bl a from hx,show(y.o,y.d).2=_ from hy]at hf;cases hf
 |_=>rw[show(x.o,x.d).2=_ from hx]at hf;cases hf
theorem qvy{K:PySem.W.Frag}:Ad2 K (vz9 true) (pu2 Qk):=by
 intro H x y s Q ox oy hf k;unfold pu2 Qk at hf;cases hx:x.d with
 | bl a=>cases hy:y.d with
  |bl b=>
   rw[show(x.o,x.d).2=D.bl a from hx,show(y.o,y.d).2=D.bl b from hy]at hf;cases oq9 hf;exact⟨a,b,kxv ox hx,kxv oy hy,by rw[show(true != (a==b))=(!(a==b))by cases a<;>cases b<;>rfl];exact k ⟨.dp,.bl _,.bl _,[]⟩ H rfl rfl x8⟩
  |_=>rw[show(x.o,x.d).2=D.bl a from hx,show(y.o,y.d).2=_ from hy]at hf;cases hf
 |_=>rw[show(x.o,x.d).2=_ from hx]at hf;cases hf
theorem qvq:∀x y s,pu2 Qk x y=some s->∃k,s.2=.bl k:=by
 intro x y s h;unfold pu2 Qk at h
 split at h
 ·cases oq9 h;exact⟨_,rfl⟩
 ·cases h
end Q
namespace Q
open PySem PySem.Spec PyProof.Rows L2 L3
theorem RepA.put{K:PySem.W.Frag}{H:Hp}{g:Bool}{d:D}{x:V}{cs:List Addr}(hx:RepL K H g d x cs):∀{ds:List D} {xs:List V} {bs:List Addr} (n:Nat),RepA K H g ds xs bs->∃es,RepA K H g (ds.set n d) (xs.set n x) es/\∀a∈es,a∈bs\/a∈cs
 | [],_,bs,n,h=>by
  have h0:=h;unfold RepA at h0;obtain⟨rfl,rfl⟩:=h0;exact⟨[],by simpa using h,λ_ z=>nomatch z⟩
 | e::ds,_,_,n,h=>by
  unfold RepA at h;obtain⟨y,r,b1,b2,rfl,rfl,h1,h2⟩:=h;cases n with
  | zero=>
   refine⟨cs++b2,?_,λa ha=>?_⟩
   ·rw[List.set_cons_zero,List.set_cons_zero];unfold RepA;exact⟨x,r,cs,b2,rfl,rfl,hx,h2⟩
   ·rcases List.mem_append.mp ha with z|z
    ·exact .inr z
    ·exact .inl (lr9 _ z)
  | succ n=>
   obtain⟨es,i1,i2⟩:=RepA.put hx n h2;refine⟨b1++es,?_,λa ha=>?_⟩
   ·rw[List.set_cons_succ,List.set_cons_succ];unfold RepA;exact⟨y,r.set n x,b1,es,rfl,rfl,h1,i1⟩
   ·rcases List.mem_append.mp ha with z|z
    ·exact .inl (ll9 _ z)
    ·exact(i2 a z).imp (lr9 _) id
section
variable {X:Cx}{Z:Fx0}{pn:List Nat}{q:Bool}{kc vc:Ex}{o ke ve:Expr}{pos d4:Pos}
theorem vv8 {i:Nat} (ho:PE X o (Qj i)) (hk:QV X Z true kc ke) (hv:QE X Z q vc ve) (hs:autoParam (swapsWithSole [.Subscript o ke d4] ve pos.line X.env=pure false) Ŕ) (hw:autoParam (swappedStores [.Subscript o ke d4] ve X.env=pure none) Ŕ)
  (h1:autoParam ((assignEach [.Subscript o ke d4] X.env).map (·.2)=[assign (.Subscript o ke d4) X.env]) Ŕ)
  (ha:autoParam (∀ v,assign (.Subscript o ke d4) X.env v=(do
   let ov <-holding [v] (eval o X.env)
   let iv <-holding [v,ov] (eval ke X.env)
   standAt d4
   holding [v,ov,iv] (setItem ov iv v)
   release [v,ov,iv] [])) Ŗ):
  QS X Z pn (YJ i kc vc) (.Assign [.Subscript o ke d4] ve pos):=zY (qz3 hv (vvq ho hk qwe ha) hs hw h1) λD σ H b8=>ex7 b8 λE L r m w hr k=>
 VY m w hr k λE1 s1 h1 x L1 H1 e1 e2 m1 w1 st1 _=>by
  by_cases hd:J3 E1[i]?=true
  ·rw [Xe hd]at h1;obtain ⟨s0,hd0⟩:∃s0,E1[i]?=some (some s0):=by
    cases h0:E1[i]? with
    | none=>rw[h0]at hd;cases hd
    | some s0=>
     cases s0 with
     | none=>rw[h0]at hd;cases hd
     | some s0=>exact⟨s0,rfl⟩
   obtain ⟨y0,a1,a2,a3,a4⟩:=m1.get hd0;refine ⟨y0.v,a4,?_⟩;have stL:Step H L H1 L1:=st1.trans Step.drop;rcases Vq h1 with⟨E2,ky,hk1,hk2⟩|⟨E2,c,hk1,rfl⟩
   ·refine ⟨E1,L1,_,m1,w1.tail,hk1,(λ_ _ z=>by cases z),λE' s' z zk L2 H2 f1 f2 m2 w2 okz frz _ st2 sm=>?_⟩;injection z with z1 z2;subst z1 z2;cases hE:E2[i]? with
    | none=>rw[hE]at hk2;cases hk2
    | some s2=>
     cases s2 with
     | none=>rw[hE]at hk2;cases hk2
     | some s2=>
      obtain⟨oo,dd⟩:=s2;rw [hE]at hk2;cases dd with
      | lst ds=>
       cases hkd:ky.2 with
       | int j=>
        rw [hkd]at hk2;dsimp only at hk2
        by_cases jg:oo=.no
        ·rw[Xe jg]at hk2;cases hk2
        ·rw[Xl jg]at hk2;cases hj:ixN ds.length j with
         | none=>rw[hj]at hk2;cases hk2
         | some n=>
          rw[hj]at hk2;cases oq9 hk2;obtain⟨y,b1,b2,b3,b4⟩:=m2.get hE;have hyv:y.v=y0.v:=by rw[a4]at b4;exact(oq9 (oq9 b4)).symm
          obtain⟨w3,st3⟩:=wq6 (T:=[some x]) w1 st2 w2;obtain⟨l,xs,bs,c1,c2,c3,c4,c5⟩:=kwr (w2.ok y (x4 b1)) b3 (by rw[b2];exact jg);have c6:RepA Z.K H2 true ds xs bs:=by
           cases hb:(y.o != .dp)with
           |true=>rw[hb]at c5;exact c5
           |false=>rw[hb]at c5;exact c5.wk
          have rx:RepL Z.K H2 true s1.2 x.v x.as:=by rw[<-e2];exact RepO.wk (w3.ok x X6)
          obtain⟨es,g1,g2⟩:=RepA.put rx n c6;obtain⟨w4,st4⟩:=kwm (T:=[some x]) (o':=.rt) (ds':=ds.set n s1.2) (xs':=xs.set n x.v) w3 b1 c2 c3 c4 c1 g1 (.inl ⟨rfl,λa ha=>(g2 a ha).imp id λz=>by
           rcases Sl.as_of z with z|z
           ·exact .inl (by simpa using z)
           ·exact .inr (by simpa using z)⟩)
          have hkz:zk.v=.int j:=vk okz (by rw[f2];exact hkd);refine⟨l,xs,j,n,hyv▸c1,hkz,c2,by rw[<-c6.len,<-qql];exact hj,?_⟩;have ir:Step H L _ _:=(st1.trans st3).trans st4;refine k σ _ _ Pn.refl ?_ w4 ir;have:=m2.set (x:=⟨.rt,.lst (ds.set n s1.2),y.v,l::es⟩) i;rw[Z0 b4]at this;exact this
       |_=>rw[hkd]at hk2;cases hk2
      |_=>cases hk2
   ·exact⟨E1,L1,_,m1,w1.tail,hk1,(λE' c' e C L' H' hm m' w' st=>by injection e with z1 z2;subst z1 z2;exact k C σ L' H' hm Pn.refl m' w' (stL.trans st)),λE' s' z=>by cases z⟩
  ·rw[Xl hd]at h1;cases h1
end
end Q
namespace Q
open PySem PySem.Spec PyProof.Rows L2 L3
theorem vv9{X:Cx}{Z:Fx0}{q:Bool}{c:Ex}{o e:Expr}{z:Str}{be aw:Pos}(ho:PE X o (tC (.str z)))(hc:QV X Z q c e)(hK:autoParam (X.K=Z.K) Ŕ)
  (br:autoParam (attributeBase o "join" X.env (eval o X.env)=eval o X.env) Ŕ)
  (dy:autoParam (((backTo aw (starEach [e] X.env)).all (λx=>!x.1)&&(backToKw aw (keywordEach [] X.env)).all (λx=>x.1.isSome)
   && decide ([e].length+([]:List Keyword).length+(if([]:List Keyword).isEmpty then 0 else 1)<30))=true) Ŕ)
  (c8:autoParam ((be.endLine==aw.line)=true) Ŕ) (hs:autoParam (starEach [e] X.env=(false,eval e X.env)::starEach [] X.env) Ŕ) (bw:autoParam ((backTo aw (starEach [] X.env)).any (·.1)=false) Ŕ):
  QE X Z q (YZ z c) (.Call (.Attribute o "join" be) [e] [] aw):=
 qZ (vjt PySem.F.plainAttrs_str PySem.F.slot_str_join PySem.F.type_str_join vk3 ho (v5 hc wZ hs) br dy c8 hs bw) fun σ H Q b8=>ex8 b8 λE L r m w dl xc k=>by
  refine⟨?_,?_⟩
  ·rfl
  ·refine vY m w (show bnd (c E) _=some r from dl) xc λE1 s h1 x L1 H1 e1 e2 m1 w1 ok fr sr st sm=>?_
   obtain⟨y,hz,rfl⟩:=zq h1;unfold XV at hz;cases hx:s.2 with
   | lst ds=>
    rw [hx]at hz;dsimp only at hz;cases hp:xv ds with
    | none=>rw[hp]at hz;cases hz
    | some ys=>
     rw[hp]at hz;dsimp only at hz
     by_cases hl:(ys.map (·.length)).sum+ys.length*z.length<=100000
     ·rw[Xe hl]at hz;cases oq9 hz;obtain⟨a,xs,bs,ev,q1,ra⟩:=items ok (.inl (by rw[e2];exact hx));have hq:SqL Z.K H1 a xs:=by
       rcases q1 with⟨_,t⟩|⟨t,_⟩
       ·exact t.sq
       ·rw[e2,hx]at t;cases t
      have ex:=(jzn hp ra.1).1;subst ex;have ax:(Txt.join z ys).length<=sizeLine:=joinOk_length (joinOk_of (by omega));refine⟨z,a,ys,rfl,by rw[ev],by rw[hK];exact hq,by omega,?_⟩;exact k _ _ rfl ⟨.dp,.str (Txt.join z ys),.str (Txt.join z ys),[]⟩ L1 H1 rfl rfl m1 (w1.consPu (x:=⟨.dp,.str (Txt.join z ys),.str (Txt.join z ys),[]⟩) (show RepL Z.K H1 false (.str _) (.str _) []from V5 ax) rfl) (Q9 (x:=⟨.dp,.str (Txt.join z ys),.str (Txt.join z ys),[]⟩) st (λb hb=>nomatch hb) rfl) λhq=>⟨sm hq,λ_ t=>(nomatch t)⟩
     ·rw[Xl hl]at hz;cases hz
   |_=>rw[hx]at hz;cases hz
end Q
namespace Q
open PySem PySem.Spec PyProof.Rows L2 L3
section
variable {X:Cx}{Z:Fx0}{pn:List Nat}{q:Bool}{a b:Ex}{o e:Expr}{be aw:Pos}
theorem vvc(ha:QV X Z q a o)(hb:QV X Z true b e)(hK:autoParam (X.K=Z.K) Ŕ)
  (br:autoParam (attributeBase o "index" X.env (eval o X.env)=eval o X.env) Ŕ)
  (dy:autoParam (((backTo aw (starEach [e] X.env)).all (λx=>!x.1)&&(backToKw aw (keywordEach [] X.env)).all (λx=>x.1.isSome)
   && decide ([e].length+([]:List Keyword).length+(if([]:List Keyword).isEmpty then 0 else 1)<30))=true) Ŕ)
  (c8:autoParam ((be.endLine==aw.line)=true) Ŕ) (hs:autoParam (starEach [e] X.env=(false,eval e X.env)::starEach [] X.env) Ŕ) (bw:autoParam ((backTo aw (starEach [] X.env)).any (·.1)=false) Ŕ):
  QE X Z q (qxj a b) (.Call (.Attribute o "index" be) [e] [] aw):=
 qZ (vjt PySem.F.plainAttrs_str PySem.F.slot_str_index PySem.F.type_str_index vk4 ha (v5 hb wZ hs) br dy c8 hs bw) fun σ H Q b8=>ex8 b8 λE L r m w dl xc k=>by
  refine vY m w (show bnd (a E) _=some r from dl) xc λE1 s h1 x L1 H1 e1 e2 m1 w1 ok fr sr st sm=>?_
  by_cases ce:kz5 s.2=true
  ·rw [Xe ce]at h1;cases hx:s.2 with
   | str z=>
    have ev:x.v=.str z:=(wK ok (by rw[e2];exact hx)).1;refine⟨by rw[ev];rfl,?_⟩;refine vY m1 w1 h1 (xc.step st) λE2 s2 h2 y L2 H2 e3 e4 m2 w2 jh mv nq st2 fh=>?_
    obtain⟨d,hz,rfl⟩:=zq h2;rw[hx]at hz;unfold Zz at hz;cases hy:s2.2 with
    | str y'=>
     rw[hy]at hz;dsimp only at hz;cases ho:Builtin.Str.occurrences z y' 0 z.length 1 with
     |nil=>rw[ho]at hz;cases hz
     |cons i jx=>
      rw[ho]at hz;cases oq9 hz;have ey:y.v=.str y':=(wK jh (by rw[e4];exact hy)).1;refine⟨z,y',i,jx,ev,by rw[ey],ho,?_⟩;exact k _ _ rfl ⟨.dp,.int (i:Nat),.int (i:Nat),[]⟩ L2 H2 rfl rfl m2 (w2.consPu (x:=⟨.dp,.int (i:Nat),.int (i:Nat),[]⟩) (show RepL Z.K H2 false (.int _) (.int _) []from zZ) rfl) (Q9 (x:=⟨.dp,.int (i:Nat),.int (i:Nat),[]⟩) (st.trans st2) (λb hb=>nomatch hb) rfl) λhq=>⟨qx (sm hq) (fh rfl),λ_ t=>(nomatch t)⟩
    |_=>rw[hy]at hz;cases hz
   |_=>rw[hx]at ce;cases ce
  ·rw[Xl ce]at h1;cases h1
end
end Q
namespace L3
open PySem PySem.Spec PyProof.Rows L2
noncomputable def wj0(K:PySem.W.Frag):List V->Hp->VK->Prop:=λxs H Q=>∃(x:Addr) (o:Obj) (C:Addr) (b:Bool) (tp:Addr) (us:List Addr),ExAt K x o C/\H x=some (exO o)/\xs=[.ref x,.ref tp]/\SqT K H tp (us.map V.ref)/\PySem.W.kitAny K (.ref C) (us.map Value.ref)=some b/\Q (.bl b) H
theorem kqv:∀{us:List Addr} {ag:List Value},Vals (us.map V.ref) ag->ag=us.map Value.ref
 |[],_,.nil=>rfl
 |u::us,_,.cons h r=>by
  cases(show _=Value.ref u from h);rw[kqv r];rfl
theorem qxg{X:Cx}:CallR X (.builtin "isinstance") (wj0 X.K):=by
 intro pins s σ H xs us Q I r h;obtain⟨x,o,C,b,tp,cs,a,e,rfl,ht,hk,q⟩:=h;have px:s.heap.get? x=some o:=(show ObjOk X.prog X.w H s.heap x (exO o)from I.hok x _ e).1;have bp:∃o,PySem.W.InstAt s.heap x o C none:=⟨o,px,a.cls,a.no,by rw[a.di];trivial⟩;obtain⟨u1,u2,rfl,e1,e2⟩:=W8 r;cases e1;cases e2;obtain⟨ag,rv,⟨ot,h1,h2,n,h3⟩,_⟩:=I.tuple ht;have hi:=kqv rv;subst hi;obtain⟨oc,od,oda,jc⟩:=ot;cases h2;cases h3;exact PySem.W.kia_tup (kqd a.xc) I.kIn bp h1 hk (λz=>nomatch z) λtk=>⟨.bl b,H,I.tok _,rfl,q⟩
end L3
namespace Q
open PySem PySem.Spec PyProof.Rows L2 L3
noncomputable def kw9(K:PySem.W.Frag)(us:List Addr)(t:List (Str×Bool)):Prop:=∀c b,t.lookup c=some b->∃C,PySem.W.nsIn K mainGlobals c=some (some (.ref C))/\PySem.W.kitAny K (.ref C) (us.map Value.ref)=some b
theorem qqn{K:PySem.W.Frag}{us:List Addr}:kw9 K us []:=λ_ _ z=>nomatch z
theorem kz4{K:PySem.W.Frag}{us:List Addr}{c:Str}{b:Bool}{C:Addr}{t:List (Str×Bool)}(h:PySem.W.nsIn K mainGlobals c=some (some (.ref C)))(k:PySem.W.kitAny K (.ref C) (us.map Value.ref)=some b)(r:kw9 K us t):kw9 K us ((c,b)::t):=λc' b' z=>by
 rw[Yl]at z
 split at z
 ·rename_i e;cases eq_of_beq e;cases z;exact⟨C,h,k⟩
 ·exact r c' b' z
theorem qqk{K:PySem.W.Frag}{C:Value}:PySem.W.kitAny K C (([]:List Addr).map Value.ref)=some false:=rfl
theorem Q1{K:PySem.W.Frag}{C:Value}{u:Addr}{us:List Addr}{b:Bool}(h:PySem.W.kitOne K C (.ref u)=some false)(r:PySem.W.kitAny K C (us.map Value.ref)=some b):PySem.W.kitAny K C ((u::us).map Value.ref)=some b:=by
 rw[List.map_cons];unfold PySem.W.kitAny;rw[h];exact r
noncomputable def vv1(K:PySem.W.Frag)(us:List Addr):V->Hp->VK->Prop:=λv H Q=>(us.map V.ref).length<=sizeLine/\∀p,H p=none->wj0 K [v,.ref p] (upd H p (.tup (us.map V.ref))) Q
theorem vxw{K:PySem.W.Frag}{us:List Addr}{t:List (Str×Bool)}(hl:us.length<=1000)(ht:kw9 K us t):Ad1 K (vv1 K us) (pu1 (xk t)):=by
 intro H x s Q ok hf k;have ok:=RepO.wk ok;unfold pu1 at hf;obtain⟨o,d,v,as⟩:=x;cases d with
 | obj c fs=>
  unfold xk at hf;cases nj:t.lookup c with
  |none=>simp only[nj]at hf;cases hf
  |some b=>
   simp only[nj]at hf;cases oq9 hf;dsimp only at ok;unfold RepL at ok;obtain⟨e0,x,ob,C,rfl,h1,h2,h3⟩:=ok;obtain⟨C',h4,h5⟩:=ht c b nj;rw[h3]at h4;cases oq9 (oq9 h4);refine⟨by rw[X4];exact Xs hl (by decide),λp hp=>⟨x,ob,C,b,p,us,h2,?_,rfl,SqT.of xJ,h5,k ⟨.dp,.bl b,.bl b,[]⟩ _ rfl rfl (jzr (wY hp) v4)⟩⟩;exact wY hp _ _ h1
 |_=>cases hf
def tCs:List Addr->TA
 |[]=>vzl
 |u::us=>qzy (tC (.ref u)) (tCs us)
theorem vqb{us:List Addr}{σ:L2.St}{H:Hp}:∀{Q:List V->Hp->Prop},Q (us.map V.ref) H->tCs us σ H Q:=by
 induction us with
 |nil=>intro Q h;exact h
 |cons u us ih=>intro Q h;exact ih (Q:=λxs H2=>Q (V.ref u::xs) H2) h
section
variable {X:Cx}{Z:Fx0}{pn:List Nat}{q:Bool}{a:Ex}{ea:Expr}{es:List Expr}{pos p p2:Pos}{t:List (Str×Bool)}{us:List Addr}{k1:Nat}
theorem vvb(ha:QV X Z q a ea)(hm:X.mg "isinstance"=none)(hu:PA X es (tCs us))(hK:X.K=Z.K)(ht:kw9 X.K us t)(hl:us.length<=1000:=by simp)(hg:autoParam (Gl X "isinstance") Ŕ)
  (he:autoParam (starEach [ea,.Tuple es k1 p2] X.env=(false,eval ea X.env)::starEach [.Tuple es k1 p2] X.env) Ŕ) (nt:autoParam (starEach [.Tuple es k1 p2] X.env=(false,eval (.Tuple es k1 p2) X.env)::starEach [] X.env) Ŕ) (bq:autoParam ((backTo pos (starEach [.Tuple es k1 p2] X.env)).any (·.1)=false) Ŕ):
  QE X Z q (cF1 (pu1 (xk t)) a) (.Call (.Name "isinstance" p) [ea,.Tuple es k1 p2] [] pos):=by
 rw[hK]at ht;have hc:CallR X (.builtin "isinstance") (wj0 Z.K):=hK▸qxg;refine qZ (jzq hc hg hm jvx (v5 ha (v5 (qz5 hu) wZ nt) he) (by decide) (by decide) he bq) fun σ H Q h=>?_
 have h2:tUn (vv1 Z.K us) (tV Z q a) σ H Q:=Q6 (vxw hl ht) h;obtain⟨E,L,R,m,w,jr,xc,kk⟩:=h2;exact⟨E,L,R,m,w,jr,xc,λE' s' z x L' H' e1 e2 m' w' ok fr sr st sm=>vqb (kk E' s' z x L' H' e1 e2 m' w' ok fr sr st sm)⟩
end
end Q
namespace Q
open PySem PySem.Spec PyProof.Rows L2 L3
theorem qqj{P:Program}{w:PySem.World}{K:PySem.W.Frag}{mg mb:Str->Option Value}{CX:CXT}{k:Nat}{fa a:Addr}{fd:FuncData}{x:Str}{sp:Sp}{s₁:Shared}{vs:List Value}{ns:List Int}
  (KX:K.In s₁.heap) (hns:s₁.heap.Ns mainGlobals mg) (hb:s₁.heap.Ns builtinsNs mb) (hbb:∀x:Str,x≠"__name__"->mb x=bootBuiltins x) (hlim:s₁.heap.NoLimit) (hg:s₁.gens=#[])
  (ha:s₁.heap.get? a=some { cls:=.type "list",data:=.seq vs.toArray }) (hi:IntsAre vs ns) (hl:ns.length<=sizeLine) (hr:Room k callerA)
  (F:∀base:Heap,K.In base->base.Ns mainGlobals mg->FnOk P w K mg base CX k fa fd [x] sp) (mn:∀(s:Shared) (u:Value),BindsTo s fd ⟨[u],[]⟩ [(x,u)])
  (iu:∀H:Hp,wke H->LsR K H a (ns.map V.int)->sp [.ref a] H (λv _=>v=.bl true) λ_ _ _=>False)
  (hCX:∀H e s',CX [] H s₁ (λ_ _ _=>False) e s'->False):
  codeAny (model P w) callerA (.call (.ref fa) ⟨[.ref a],[]⟩) (λr s'=>r=.ok (.ret (.bool true))/\OldK s₁.heap s'.heap/\s'.os=s₁.os/\AllBare s'.gens) s₁:=by
 have rv:=kqw hi;have lenV:=hi.length;have m5:∀H:Hp,wke H->LsR K H a (ns.map V.int)->HOk P w H s₁.heap->(∀b,H b≠none->b=a)->(H a≠none->K.lookup a=none) ->
   codeAny (model P w) callerA (.call (.ref fa) ⟨[.ref a],[]⟩) (λr s'=>r=.ok (.ret (.bool true))/\OldK s₁.heap s'.heap/\s'.os=s₁.os/\AllBare s'.gens) s₁:=by
  intro H hO hS hok hA hK;have gk:∀{b:Addr} {o:Obj},s₁.heap.get? b=some o->H b=none->(Kw s₁.heap H).get? b=some o:=λe n=>qx6 e n
  have nz:∀{b:Addr} {o:Obj} {es:Array DictEntry} {ep:Nat},s₁.heap.get? b=some o->o.data=.dict es ep->H b=none:=fun {b o es ep} e d=>by
   cases q:H b with
   | none=>rfl
   | some u=>
    have e':b=a:=hA b (by rw[q];simp);subst e';rw[ha]at e;cases e;have d':Data.seq vs.toArray _=Data.dict es ep:=d;cases d'
  have nsK:∀{b:Addr} {m:Str->Option Value},s₁.heap.Ns b m->(Kw s₁.heap H).Ns b m:=fun {b m} ⟨o,es,ep,e,d,r⟩=>⟨o,es,ep,gk e (nz e d),d,r⟩
  have hKb:K.In (Kw s₁.heap H):=λb o e=>gk (KX b o e) (by
   cases q:H b with
   | none=>rfl
   | some u=>
    have e':b=a:=hA b (by rw[q];simp);subst e';rw[hK (by rw[q];simp)]at e;cases e)
  have hM:Mod K mg (Kw s₁.heap H):=⟨hKb,nsK hns,⟨mb,nsK hb,hbb⟩,let ⟨mc,h1,h2⟩:=hlim;⟨mc,nsK h1,h2⟩⟩;have e0:Env0 P w K mg (Kw s₁.heap H) callerA [] s₁ H:=⟨rfl,hM,λb o e=>vk0 e,Nat.le_of_eq (qqv _ _),trivial,λb hb=>absurd (show b∈([]:List Addr)from hb) (by simp),hok,.of_eq hg⟩;refine codeAny_mono ((F _ hKb (nsK hns)).run callerA [] s₁ H ⟨[.ref a],[]⟩ [.ref a] [.ref a] _ _ hr e0 (mn s₁ (.ref a)) (.cons rfl .nil) (iu H hO hS)) λr s' h=>?_
  cases r with
  | error e=>exact(hCX H e s' h).elim
  | ok fl=>
   cases fl with
   | next=>exact False.elim h
   | brk=>exact False.elim h
   | cont=>exact False.elim h
   | ret u=>
    obtain⟨v,H',os,bare,un,hok',r',q⟩:=h;have q':v=.bl true:=q;subst q';obtain rfl:u=Value.bool true:=r';refine⟨rfl,OldK.of_keep λb o e=>?_,os,bare⟩;cases q:H b with
    | none=>exact un.keep b o e q (by intro z;exact absurd (show b∈([]:List Addr)from z) (by simp)) (by simp)
    | some u=>
     rcases hO b with z|⟨ob,xs,z⟩
     ·rw[q]at z;cases z
     ·have z2:=un.frzs b ob _ z;obtain⟨e1,_⟩:=hok b _ z;obtain⟨e2,_⟩:=hok' b _ z2;rw[e]at e1;cases e1;exact e2
 cases hk:K.lookup a with
 | some o=>
  have e:=KX a o hk;rw[ha]at e;cases e;refine m5 (λ_=>none) (λ_=>.inl rfl) (.inr ⟨vs.toArray,_,hk,by rw[X7,lenV];exact hl,by simpa using rv⟩) (λb u z=>by have z':(none:Option HO)=some u:=z;cases z') (λb z=>absurd rfl z) λz=>absurd rfl z
 | none=>
  refine m5 (λb=>if b=a then some (.frz { cls:=.type "list",data:=.seq vs.toArray } (.lst (ns.map V.int)))else none) (λb=>?_) (.inl (.inr ⟨{ cls:=.type "list",data:=.seq vs.toArray },Xe rfl⟩)) (λb u z=>?_) (λb z=>?_) λ_=>hk
  ·by_cases hb:b=a
   ·exact .inr ⟨_,_,Xe hb⟩
   ·exact .inl (Xl hb)
  ·by_cases hb:b=a
   ·have z':=(Xe hb).symm.trans z;cases z';subst hb;exact⟨ha,by rw[X4];exact hl,vs,_,rv,ha⟩
   ·have z':=(Xl hb).symm.trans z;cases z'
  ·by_cases hb:b=a
   ·exact hb
   ·exact absurd (Xl hb) z
@[elab_as_elim] theorem wq2 {P:List Value->Prop}(us:List Value)(e:us.length=1)(h:∀a,P [a]):P us:=by
 cases us with
 |nil=>cases e
 |cons a us=>cases List.eq_nil_of_length_eq_zero (Nat.succ.inj e);exact h a
@[elab_as_elim] theorem wq1 {P:List Value->Prop}(us:List Value)(e:us.length=2)(h:∀a b,P [a,b]):P us:=by
 cases us with
 |nil=>cases e
 |cons a us=>exact wq2 (P:=λl=>P (a::l)) us (Nat.succ.inj e) λb=>h a b
@[elab_as_elim] theorem wq0 {P:List Value->Prop}(us:List Value)(e:us.length=3)(h:∀a b c,P [a,b,c]):P us:=by
 cases us with
 |nil=>cases e
 |cons a us=>exact wq1 (P:=λl=>P (a::l)) us (Nat.succ.inj e) λb c=>h a b c
@[elab_as_elim] theorem wkz {P:List Value->Prop}(us:List Value)(e:us.length=4)(h:∀a b c d,P [a,b,c,d]):P us:=by
 cases us with
 |nil=>cases e
 |cons a us=>exact wq0 (P:=λl=>P (a::l)) us (Nat.succ.inj e) λb c d=>h a b c d
@[elab_as_elim] theorem wky {P:List Value->Prop}(us:List Value)(e:us.length=5)(h:∀a b c d f,P [a,b,c,d,f]):P us:=by
 cases us with
 |nil=>cases e
 |cons a us=>exact wkz (P:=λl=>P (a::l)) us (Nat.succ.inj e) λb c d f=>h a b c d f
@[elab_as_elim] theorem len6 {P:List Value->Prop}(us:List Value)(e:us.length=6)(h:∀a b c d f g,P [a,b,c,d,f,g]):P us:=by
 cases us with
 |nil=>cases e
 |cons a us=>exact wky (P:=λl=>P (a::l)) us (Nat.succ.inj e) λb c d f g=>h a b c d f g
theorem jxs{K:PySem.W.Frag}{H:Hp}{g:Bool}:∀(ns:List Int),RepA K H g (ns.map D.int) (ns.map V.int) []
 |[]=>by unfold RepA;exact⟨rfl,rfl⟩
 |n::ns=>by
  rw[List.map_cons,List.map_cons];unfold RepA;exact⟨_,_,[],[],rfl,rfl,zZ,jxs ns⟩
theorem vwl{K:PySem.W.Frag}{mg:Str->Option Value}{f:Fn}{H:Hp}{a:Addr}{ns:List Int}(h:∃E o,f [(.no,.lst (ns.map D.int))]=some (.ok E (o,.bl true)))(hs:LsR K H a (ns.map V.int))(hO:wke H):
  spF K mg 1 f [.ref a] H (λv _=>v=.bl true) λ_ _ _=>False:=by
 obtain⟨E,o,h⟩:=h;have my:∃as,RepL K H true (.lst (ns.map D.int)) (.ref a) as/\(∀b∈as,False):=by
  rcases hs with(hs|⟨ob,hs⟩)|hs
  ·rcases hO a with z|⟨_,_,z⟩<;>(rw[hs]at z;cases z)
  ·refine⟨[],?_,λb hb=>nomatch hb⟩;unfold RepL;exact⟨a,ns.map V.int,[],rfl,jxs ns,.inr ⟨rfl,.inl ⟨ob,hs⟩,rfl⟩⟩
  ·refine⟨[],?_,λb hb=>nomatch hb⟩;unfold RepL;exact⟨a,ns.map V.int,[],rfl,jxs ns,.inr ⟨rfl,.inr hs,rfl⟩⟩
 obtain⟨as,r,hn⟩:=my;refine⟨[⟨.no,.lst (ns.map D.int),.ref a,as⟩],_,rfl,rfl,?_,h,(λE' c z=>by cases z),λE' s z x H' e1 e2 w' st=>?_⟩
 ·exact⟨λx hx=>by rw[oq9 (List.mem_singleton.mp hx)];exact r,by simp[Sl.own],λb hb=>by simp[Sl.own]at hb⟩
 ·injection z with z1 z2;subst z2;exact JY w'.head e2
section
open PySem.W PySem.Calls
theorem walkQ{l:OpenLaw}{n k:Nat}{q:Program}{qK:List Str}{XP:(Str->Option Value)->Heap->Prop}{YP:PySem.World->Heap->Prop}{d:DefRec}{K:Params->Frag}{f:Fn}{x:Str}
  (hn:l.most=some n) (hn2:n<=sizeLine) (hdf:d.params.defaults=[]) (hr:Room k callerA)
  (hY:∀(w:PySem.World) (h:Heap),YP w h->(K w.params).In h)
  (F:∀(w:PySem.World) (mg:Str->Option Value) (fa:Addr) (h:Heap),(K w.params).In h->h.Ns mainGlobals mg->mg d.name=some (.ref fa) ->
   ∃fd:FuncData,(∀(s:Shared) (u:Value),BindsTo s fd ⟨[u],[]⟩ [(x,u)])/\∀base:Heap,(K w.params).In base->base.Ns mainGlobals mg->FnOk l.prog w (K w.params) mg base (CXE l.prog w) k fa fd [x] (spF (K w.params) mg 1 f))
  (iu:∀(ns:List Int),ns.length<=n->(∀i∈ns,Builtin.Int.intBits i<=1048576)->∃E o,f [(.no,.lst (ns.map D.int))]=some (.ok E (o,.bl true))):
  WalkO q qK XP YP l.row.toRowW d [] (λf vs=>PySem.call f vs):=by
 intro w s0 s1 mg mb G Y fa o pm cd fj dV kV ho hd fz hD hmg hg args cj as ji hlay hrd hwl hlo;obtain rfl:dV=.none:=Dflts.none hD hdf;obtain rfl:kV=.none:=Dflts.noKw hD;obtain⟨a,vs,ns,rfl,rfl,hobj,o7,ax⟩:=Att.script_of hn ji hwl;have mr:=kx8 hlay;have KX:=hY w _ Y;obtain⟨fd,hb,hF⟩:=F w mg fa _ KX G.T.g hmg;refine enter_call (codeAny_mono (qqj KX G.T.g G.T.b G.T.builtins G.T.nolimit hg hobj o7 (Xs ax hn2) hr hF hb (λH hO hS=>vwl (iu ns ax mr) hS hO) (λ_ _ _ ⟨_,_,_,_,_,_,_,_,_,_,_,_,_,_,_,z⟩=>z)) λr s' hq=>?_);obtain⟨rfl,h2,h3,h4⟩:=hq;exact⟨.inl ⟨.bool true,.bool true,[],rfl,λ_=>rfl,.bool true,Att.post_true l _,λ_=>⟨List.Pairwise.nil,λ_ hm=>(nomatch hm)⟩⟩,h2,h3,h4⟩
end
end Q
namespace Q
open PySem PySem.Spec PyProof.Rows L2 L3
section
variable {P:Program}{w:PySem.World}{K:PySem.W.Frag}{mg:Str->Option Value}{base h:Heap}{x:Str}{st:Stmt}{ps:List Str}{k:Nat}{sp:Sp}
noncomputable def Gf(K:PySem.W.Frag)(x:Str)(st:Stmt):Prop:=∃(f:Addr) (oc:Value) (od:Option Addr) (kV dc pm:Value) (an:Option Addr) (cd ct:Value) (sl:Array (Option Value)),PySem.W.nsIn K mainGlobals x=some (some (.ref f))/\K.lookup f=some ⟨oc,od,.func (PySem.W.fnOf x x (Qq st) (Kv st) (kj st) .none kV dc pm an cd ct),sl⟩/\PySem.W.codeIn K cd x=true/\PySem.W.keepIn K (.ref f)=true
theorem Gf.mk{f:Addr}{oc:Value}{od:Option Addr}{kV dc pm:Value}{an:Option Addr}{cd ct:Value}{sl:Array (Option Value)}(a:PySem.W.nsIn K mainGlobals x=some (some (.ref f)))(l:K.lookup f=some ⟨oc,od,.func (PySem.W.fnOf x x (Qq st) (Kv st) (kj st) .none kV dc pm an cd ct),sl⟩)(c:PySem.W.codeIn K cd x=true)(k:PySem.W.keepIn K (.ref f)=true):Gf K x st:=⟨f,oc,od,kV,dc,pm,an,cd,ct,sl,a,l,c,k⟩
theorem Gf.d(g:Gf K x st)(X:K.In h)(G:h.Ns mainGlobals mg)(ok:∀{f:Addr} {fd:FuncData},Fun K x x st f fd->FnOk P w K mg base (CXE P w) k f fd ps sp)
  (hb:∀(kV fj pm:Value) (an:Option Addr) (bf ct:Value) (us:List Value),us.length=ps.length->bindArgs (PySem.W.fnOf x x (Qq st) (Kv st) (kj st) .none kV fj pm an bf ct) ⟨us,[]⟩=pure (ps.zip us):=by
   intro _ _ _ _ _ _ us hl
   first
   |exact wq2 us hl λ_=>rfl
   |exact wq1 us hl λ_ _=>rfl
   |exact wq0 us hl λ_ _ _=>rfl
   |exact wkz us hl λ_ _ _ _=>rfl
   |exact wky us hl λ_ _ _ _ _=>rfl
   |exact len6 us hl λ_ _ _ _ _ _=>rfl):kW P w K mg base k x ps sp:=by
 obtain⟨f,oc,od,kV,dc,pm,an,cd,ct,sl,a,l,c,kp⟩:=g;exact⟨f,_,ok (qqy l c kp),(qqy l c kp).binds hb,kp,Xu X G a⟩
theorem Gf.law{fa:Addr}{y:Str}(g:Gf K "law" st)(X:K.In h)(G:h.Ns mainGlobals mg)(hfa:mg "law"=some (.ref fa))(ok:∀{base:Heap} {f:Addr} {fd:FuncData},Fun K "law" "law" st f fd->FnOk P w K mg base (CXE P w) k f fd [y] sp)
  (hb:∀(kV fj pm:Value) (an:Option Addr) (bf ct:Value) (s:Shared) (v:Value),BindsTo s (PySem.W.fnOf "law" "law" (Qq st) (Kv st) (kj st) .none kV fj pm an bf ct) ⟨[v],[]⟩ [(y,v)]:=by
   intros
   exact .of_eq rfl):
  ∃fd:FuncData,(∀(s:Shared) (v:Value),BindsTo s fd ⟨[v],[]⟩ [(y,v)])/\∀base:Heap,K.In base->base.Ns mainGlobals mg->FnOk P w K mg base (CXE P w) k fa fd [y] sp:=by
 obtain⟨f,oc,od,kV,dc,pm,an,cd,ct,sl,a,l,c,kp⟩:=g;have e:=hfa.symm.trans (Xu X G a);cases e;exact⟨_,hb kV dc pm an cd ct,λbase _ _=>ok (qqy l c kp)⟩
end
end Q
namespace Q
open PySem L2
theorem mkS{N P:List Str}{sc:Scope}(h1:autoParam (sc.kind=.function) Ŕ)(h2:autoParam (sc.isCoroutine=false) Ŕ)(h3:autoParam (sc.isGenerator=false) Ŕ)(h4:autoParam (N.Nodup) ŗ)(h5:autoParam (N.take P.length=P) Ŕ)(h6:autoParam (∀x∈P,sc.names.lookup x=some .local\/sc.names.lookup x=some .cell) ŗ)(h7:autoParam (∀y∈sc.names,y.2≠.free) ŗ):FnScope N P sc:=⟨h1,h2,h3,h4,h5,h6,h7⟩
end Q
namespace Q
open PySem PySem.Spec PyProof.Rows L2 L3
section
variable {X:Cx}{Z:Fx0}{pn:List Nat}{q qa:Bool}{a b c:Ex}{e ea eb:Expr}{pos p:Pos}
theorem kI{z:Int}{j}:QE X Z true (cC (.int z)) (.Constant (.int z) j p):=q_C vvx λ_=>zZ
theorem ki{z:Int}{j}:QV X Z true (vE (cC (.int z))) (.Constant (.int z) j p):=j5 kI
theorem kN{j}:QE X Z true (cC .non) (.Constant .none j p):=q_C vvt λ_=>qkf
theorem kn{j}:QV X Z true (vE (cC .non)) (.Constant .none j p):=j5 kN
theorem kS{z:Str}{j}(h:autoParam (z.length<=sizeLine) ŕ):QE X Z true (cC (.str z)) (.Constant (.str z) j p):=q_C qkv λ_=>V5 h
theorem ks{z:Str}{j}(h:autoParam (z.length<=sizeLine) ŕ):QV X Z true (vE (cC (.str z))) (.Constant (.str z) j p):=j5 (kS h)
theorem vv(i:Nat){x:Str}(hN:autoParam (X.N[i]?=some x) Ŕ)(hv:autoParam (Vis X.env.scope x) ř)(hd:autoParam ((x==("__debug__":Str))=false) ŕ)
  (fz:autoParam ((x==("__classdict__":Str))=false) ŕ):QV X Z true (vV i) (.Name x pos):=q_vV (pv i hN hv hd fz)
theorem cv(i:Nat){x:Str}(hN:autoParam (X.N[i]?=some x) Ŕ)(hv:autoParam (Vis X.env.scope x) ř)(hd:autoParam ((x==("__debug__":Str))=false) ŕ)
  (fz:autoParam ((x==("__classdict__":Str))=false) ŕ):QE X Z true (cV i) (.Name x pos):=q_V (pv i hN hv hd fz)
theorem kx(ha:QV X Z qa a ea)(hb:QV X Z true b eb)(hs:kqr eb:=by exact λ_ _=>rfl)(hK:autoParam (X.K=Z.K) Ŕ):QV X Z qa (j9 a b) (.Subscript ea eb pos):=q_ix ha hb hs hK
theorem qA{i:Nat}{y:Str}{d4:Pos}(hN:X.N.Nodup)(h:QE X Z q a ea)(hi:autoParam (X.N[i]?=some y) Ŕ)(hx:autoParam (Loc X.env.scope y) Ś)(hp:autoParam (i∉pn) ŕ)(hs:autoParam (swapsWith ea (some (.Name y d4)) pos.line X.env=pure false) Ŕ)(hf:autoParam (X.fn y=true\/X.env.scope.names.lookup y=some .local) Ř):
  QS X Z pn (jk i a) (.Assign [.Name y d4] ea pos):=wj7 hN hi hx h hp hs hf
theorem gn{i:Nat}{x:Str}(hN:X.N.Nodup)(hi:autoParam (X.N[i]?=some x) Ŕ)(hx:autoParam (Loc X.env.scope x) Ś)(hf:autoParam (X.fn x=true\/X.env.scope.names.lookup x=some .local) Ř):PG X (.Name x pos) (WJ i):=kwq hN hi hx hf
theorem gN{i:Nat}{x:Str}(hN:X.N.Nodup)(hi:autoParam (X.N[i]?=some x) Ŕ)(hx:autoParam (Loc X.env.scope x) Ś)(hf:autoParam (X.fn x=true\/X.env.scope.names.lookup x=some .local) Ř)(hp:autoParam (i∉pn) ŕ):QG X Z pn (.n i) (.Name x pos):=wkw (kwq hN hi hx hf) hp
theorem qC{k m n:Nat}{x:Str}{ps:List Str}{f:Fn}{cs:List Ex}{es:List Expr}(D:kW X.prog X.w X.K X.mg X.base k x ps (spF Z.K Z.mg n f))(hr:Room m X.A)(ha:QA X Z q cs (e::es))(g:zx X Z.EX:=by exact kjl)(gc:autoParam (k<=m) ŕ)(hn:autoParam (cs.length=n) Ŕ)(hg:autoParam (Gl X x) Ŕ)(d8:autoParam ((x==("__debug__":Str))=false) ŕ)
  (he:autoParam (starEach (e::es) X.env=(false,eval e X.env)::starEach es X.env) Ŕ) (bq:autoParam ((backTo pos (starEach es X.env)).any (·.1)=false) Ŕ):
  QE X Z q (jJ f cs) (.Call (.Name x p) (e::es) [] pos):=vve D (hr.mono gc) g ha hn hg d8 he bq
theorem qF{tg ba:Expr}{ss:List Stmt}{it:Ev (List D)}{t:Tg}{B:Sm}(hi:QI X Z q tg it ba)(hg:QG X Z pn t tg)(hb:QSs X Z pn B ss)(hp:PassesOwn (model X.prog X.w) X.A X.env X.xe:=by exact wjg ⟨_,_,rfl,rfl⟩)(hc:autoParam (X.calm=true) Ŕ)(hs:autoParam (∀x,foldedSetIterable ba X.env x=pure x) Ŗ):QS X Z pn (wX it t B) (.For tg ba ss [] pos):=wj6 hp hc hi hg hb hs
theorem oA(ha:QV X Z qa a ea)(hb:QV X Z true b eb)(hK:autoParam (X.K=Z.K) Ŕ):QE X Z qa (cF2 jw a b) (.BinOp ea .Add eb pos):=kZ (vw9 hK) vz1 ha hb
theorem oX(ha:QV X Z qa a ea)(hb:QV X Z true b eb)(hK:autoParam (X.K=Z.K) Ŕ):QE X Z qa (cF2 qY a b) (.BinOp ea .Mult eb pos):=kZ (vw6 hK) vkw ha hb
theorem oM(ha:QV X Z qa a ea)(hb:QV X Z true b eb):QE X Z qa (cF2 (pu2 jv) a b) (.BinOp ea .Mod eb pos):=kZ vw4 vxs ha hb
theorem qP{i:Nat}{x:Str}{be aw xp:Pos}(h:QE X Z q c e)(hN:autoParam (X.N[i]?=some x) Ŕ)(hv:autoParam (Vis X.env.scope x) ř)(hd:autoParam ((x==("__debug__":Str))=false) ŕ)
  (fz:autoParam ((x==("__classdict__":Str))=false) ŕ) (br:autoParam (attributeBase (.Name x xp) "append" X.env (eval (.Name x xp) X.env)=eval (.Name x xp) X.env) Ŕ)
  (dy:autoParam (((backTo aw (starEach [e] X.env)).all (λx=>!x.1)&&(backToKw aw (keywordEach [] X.env)).all (λx=>x.1.isSome)
   && decide ([e].length+([]:List Keyword).length+(if([]:List Keyword).isEmpty then 0 else 1)<30))=true) Ŕ)
  (c8:autoParam ((be.endLine==aw.line)=true) Ŕ) (hs:autoParam (starEach [e] X.env=(false,eval e X.env)::starEach [] X.env) Ŕ) (bw:autoParam ((backTo aw (starEach [] X.env)).any (·.1)=false) Ŕ) (hK:autoParam (X.K=Z.K) Ŕ)
  (oe:autoParam (swapsWith (.Call (.Attribute (.Name x xp) "append" be) [e] [] aw) none pos.line X.env=pure false) Ŕ):
  QS X Z pn (xz xV i c) (.Expr (.Call (.Attribute (.Name x xp) "append" be) [e] [] aw) pos):=wj8 (qz6 Z.K PySem.F.plainAttrs_list PySem.F.slot_list_append PySem.F.type_list_append kjc (pv i hN hv hd fz) (v5 h wZ hs) br dy c8 hs bw hK) oe
theorem qL(ha:QV X Z q a ea)(hm:X.mg "len"=none)(hK:autoParam (X.K=Z.K) Ŕ)(hg:autoParam (Gl X "len") Ŕ)(he:autoParam (starEach [ea] X.env=(false,eval ea X.env)::starEach [] X.env) Ŕ)(bq:autoParam ((backTo pos (starEach [] X.env)).any (·.1)=false) Ŕ):QE X Z q (cF1 (pu1 v3) a) (.Call (.Name "len" p) [ea] [] pos):=Kq (hK▸vks X.K) vxt ha hm vxl hg (by decide) (by decide) he bq
theorem qT(ha:QV X Z q a ea)(hm:X.mg "tuple"=none)(hK:autoParam (X.K=Z.K) Ŕ)(hg:autoParam (Gl X "tuple") Ŕ)(he:autoParam (starEach [ea] X.env=(false,eval ea X.env)::starEach [] X.env) Ŕ)(bq:autoParam ((backTo pos (starEach [] X.env)).any (·.1)=false) Ŕ):QE X Z q (cF1 Jv a) (.Call (.Name "tuple" p) [ea] [] pos):=V9 (qvj hK) qxr ha hm kzi hg (by decide) (by decide) he bq
variable {ba gi tg:Expr}{fv:List Expr}{scope:Scope}{it:Ev (List D)}{tt:Tg}{u:Ts}
theorem qM{x:Str}{p':Pos}(o:Own)(k:Nat)(R:List Nat)(m:Nat)(N:List Str)(hi:QI X Z q (.Name x p') it ba)(he:∀cl C s0 H0 fp,QE (lcE X scope N cl C s0 H0 fp Z.EX) Z q c gi)
  (hN:autoParam (N.Nodup) ŗ) (gx:zx X Z.EX:=by exact kjl) (top:Jq X:=by exact⟨_,_,rfl,rfl⟩) (hR:autoParam (R.Nodup) ŕ) (hm:autoParam (X.N.length=m) Ŕ) (hr:autoParam (∀j∈R,j<m) ŕ) (hc:autoParam (X.calm=true) Ŕ) (hk:autoParam (scope.kind=.function) Ŕ) (n6:autoParam (Yx X.N X.env.scope scope N k R=true) Ŕ) (hs:autoParam (∀x,foldedSetIterable ba X.env x=pure x) Ŗ)
  (hg:N.Nodup->∀cl C s0 H0 fp,QG (lcE X scope N cl C s0 H0 fp Z.EX) Z ((List.range R.length).map (k + ·)) (.n 0) (.Name x p'):=by exact λh _ _ _ _ _=>wkw (kwq (i:=0) h rfl (by first|exact Or.inl rfl|exact Or.inr rfl))):
  QE X Z q (cLC o k R it (.n 0) tYes c) (.ListComp gi [⟨.Name x p',ba,[],0⟩] scope pos):=q_lc N hi (hg hN) (λ_ _ _ _ _=>wj3) he gx top hR (hm▸hr) hc hk n6 hs
end
end Q
namespace Q
def ddS(ss:List PySem.Str):List PySem.Str:=ss.foldl (λl k=>if l.any (· == k)then l else l++[k]) []
noncomputable def KW:Sd->Option Sd:=λx=>match x.2 with
 |.lst ds=>(match xv ds with
  |some ss=>if ss.length<64 then some (.rt,.lst ((q9 (ddS ss)).map .str))else none
  |none=>none)
 |_=>none
end Q
namespace Sw
open PySem PyProof.Rows
section
variable {prog:Program}{w:World}{A:Around}{E:Value->Shared->Prop}{s:Shared}
def tx(w:World):Bool:=w.params.followText "set-order"
structure Ok (prog:Program)(w:World)(o:Obj)(es:Array (Int×Value))(ep:Nat)(t:SetTable):Prop where
 ex:o.ExactSet
 d:o.data=.set es ep t
 el:ElemsOf (PySem.strKind prog w) es.toList
 b:es.size<scanBound
 f:t.fits es.size=true
 led:t.led=!tx w
 pl:t.plain=false\/es.size=0
def VX(es:List (Int×Value)):List Str:=es.map λe=>strOf e.2
noncomputable def Has(prog:Program)(w:World)(h:Heap)(a:Addr)(ls:List Str):Prop:=∃o es ep t,h.get? a=some o/\Ok prog w o es ep t/\(VX es.toList).Perm ls
theorem qzh{l:List (Int×Value)}(h:ElemsOf (PySem.strKind prog w) l){e:Int×Value}(he:e∈l):∃k t,e.2=.str k t:=by
 obtain⟨⟨k,hk,_⟩,_⟩:=h e he;obtain⟨t,ht⟩:=Value.isStrOf_shape hk;exact⟨k,t,ht⟩
theorem vx0{l:List (Int×Value)}(h:ElemsOf (PySem.strKind prog w) l)(k:Str):(∃e∈l,(PySem.strKind prog w).is k e.2=true)↔k∈VX l:=by
 unfold VX;rw[List.mem_map];constructor
 ·rintro ⟨e,he,hk⟩;obtain⟨t,ht⟩:=Value.isStrOf_shape hk;exact⟨e,he,by rw[ht];rfl⟩
 ·rintro ⟨e,he,hk⟩;obtain⟨k',t,ht⟩:=qzh h he;rw[ht]at hk;cases(show k'=k from hk);exact⟨e,he,by rw[ht];exact strKind_is _ _ _ _⟩
theorem vkb(t:SetTable)(es:Array (Int×Value))(h:Int)(x:Value):(layNew t es h x).2.1.led=t.led/\((layNew t es h x).2.1.plain=true->t.plain=true):=by
 unfold layNew
 split
 ·rename_i slot wd _;show((t.put slot).1.orStandIn _).led=_/\(((t.put slot).1.orStandIn _).plain=true->_);unfold SetTable.orStandIn
  split
  ·exact⟨rfl,λh=>h⟩
  ·exact⟨rfl,λh=>nomatch h⟩
 ·exact⟨rfl,λh=>nomatch h⟩
theorem qkg(t:SetTable)(es:Array (Int×Value))(n:Nat):(relayAll t es n).2.1.led=t.led/\((relayAll t es n).2.1.plain=true->t.plain=true):=by
 unfold relayAll
 split
 ·rename_i t' order hr;dsimp only
  split
  ·unfold SetTable.relaid SetTable.laid at hr;rw[Option.bind_eq_bind,Option.bind_eq_some_iff]at hr;obtain⟨ow,_,e⟩:=hr;cases oq9 e;exact⟨rfl,λh=>h⟩
  ·exact⟨rfl,λh=>nomatch h⟩
 ·exact⟨rfl,λh=>nomatch h⟩
theorem vqk{h:Heap}{a:Addr}{o:Obj}{es es':Array (Int×Value)}{ep:Nat}{t t':SetTable}(ho:h.get? a=some o)(hd:o.data=.set es ep t):(h.update a (Obj.putSet es' t')).get? a=some { o with data:=.set es' (ep+1) t' }:=by
 have:=Y0 (Obj.putSet es' t') ho (by rw[putSet_of es' t' hd];rfl)
 rwa [putSet_of es' t' hd]at this
theorem tail{g:Bool->Sem Unit}(hg:∀(b:Bool) (s₁:Shared) (Q':Unit->Shared->Prop),Q' () s₁->wpAny (model prog w) A (g b) Q' E s₁)
  {a:Addr} {o:Obj} {es dg:Array (Int×Value)} {ep:Nat} {t t2:SetTable} {ls:List Str} {im:Bool} {R:Option Bool->Shared->Prop} (ho:s.heap.get? a=some o) (hd:o.data=.set es ep t) (hex:o.ExactSet)
  (hel:ElemsOf (PySem.strKind prog w) dg.toList) (hb:dg.size<scanBound) (hf:t2.fits dg.size=true) (nv:t2.led=!tx w) (bq:t2.plain=false) (hp:(VX dg.toList).Perm ls)
  (h:∀h',Heap.SameBut a s.heap h'->Has prog w h' a ls->R (some true) { s with heap:=h' }):
  wpAny (model prog w) A (do
    storeSet a dg t2
    if(!im&&t2.tooFull)=true then do
      g (relayAll t2 dg (SetTable.grown dg.size)).2.2
      storeSet a (relayAll t2 dg (SetTable.grown dg.size)).1 (relayAll t2 dg (SetTable.grown dg.size)).2.1
      pure (some true)
     else pure (some true)) R E s:=by
 refine X0 (wpAny_storeSet_of ho hd ?_ (fits_of_scanBound hb));have ib:=vqk (es':=dg) (t':=t2) ho hd;have lm:=Ye s.heap a (Obj.putSet dg t2)
 split
 ·have r1:=relayAll_perm t2 dg (SetTable.grown dg.size);have r2:=relayAll_fits t2 dg (SetTable.grown dg.size);obtain⟨r3,r4⟩:=qkg t2 dg (SetTable.grown dg.size);generalize relayAll t2 dg (SetTable.grown dg.size)=V at r1 r2 r3 r4 ⊢;obtain⟨es2,t3,gv⟩:=V;dsimp only at r1 r2 r3 r4 ⊢;have hz:es2.size=dg.size:=by rw[<-Xa,r1.length_eq,Xa]
  refine X0 (hg _ _ _ ?_);refine X0 (wpAny_storeSet_of ib rfl ?_ (fits_of_scanBound (by rw[hz];exact hb)));refine X3 (h _ (lm.trans (Ye _ a _)) ⟨_,es2,_,t3,vqk ib rfl,⟨hex,rfl,hel.perm r1,by rw[hz];exact hb,r2,r3.trans nv,.inl ?_⟩,(r1.map _).trans hp⟩);cases hq:t3.plain with
  |false=>rfl
  |true=>rw[r4 hq]at bq;cases bq
 ·exact X3 (h _ lm ⟨_,dg,_,t2,ib,⟨hex,rfl,hel,hb,hf,nv,.inl bq⟩,hp⟩)
theorem add{a:Addr}{k:Str}{tk:Tok}{ls:List Str}{Q:Bool->Shared->Prop}(hS:Has prog w s.heap a ls)(hl:ls.length+1<scanBound)
  (h:∀b h',Heap.SameBut a s.heap h'->Has prog w h' a (step_dedup ls k)->Q b { s with heap:=h' }):wpAny (model prog w) A (setAddHashed a (.str k tk) ((PySem.strKind prog w).hash k)) Q E s:=by
 obtain⟨o,es,ep,t,ho,hk,hp⟩:=hS;have hsz:es.size=ls.length:=by rw[<-hp.length_eq];unfold VX;rw[X4,Xa]
 have je:(PySem.strKind prog w).is k (.str k tk)=true:=strKind_is _ _ _ _;have hmk:(∃e∈es.toList,(PySem.strKind prog w).is k e.2=true)↔k∈ls:=(vx0 hk.el k).trans hp.mem_iff;unfold setAddHashed setAddHashedIn;refine Y1 (X0 (Yu ho hk.d hk.f ?_));dsimp only;rw[byScan_of rfl hk.b hk.el];simp only[↓reduceIte];unfold setAddByScan;refine X0 ?_;refine X0 (wpAny_rule ?_);refine X0 (wpAny_setScan_of je ho hk.d hk.f hk.el ?_);cases hr:List.findIdx? (λe=>(PySem.strKind prog w).is k e.2) es.toList with
 | some j=>
  dsimp only;obtain⟨hj,hpj,_⟩:=List.findIdx?_eq_some_iff_getElem.mp hr;have hin:k∈ls:=hmk.mp ⟨_,Xy hj,hpj⟩;have ce:step_dedup ls k=ls:=by unfold step_dedup;rw[Xe (List.any_eq_true.mpr ⟨k,hin,by simp⟩)]
  refine X3 (X3 ?_);have:=h false s.heap (Heap.SameBut.refl a s.heap) (by rw[ce];exact⟨o,es,ep,t,ho,hk,hp⟩);exact this
 | none=>
  dsimp only;have hni:k∉ls:=λhin=>by
   obtain⟨e,he,hq⟩:=hmk.mpr hin;have:=List.findIdx?_eq_none_iff.mp hr e he;rw[hq]at this;cases this
  have ce:step_dedup ls k=ls++[k]:=by
   unfold step_dedup;rw[Xl];intro hh;obtain⟨y,hy,e⟩:=List.any_eq_true.mp hh;rw[eq_of_beq e]at hy;exact hni hy
  rw[ce]at h;have hgw:∀(b:Bool) {s₁:Shared} {Q':Unit->Shared->Prop},Q' () s₁->wpAny (model prog w) A (match b with|true=>PySem.rule "set.scan.the-table-gave-way" | false=>pure ()) Q' E s₁:=
   λb s₁ Q' hq=>by cases b<;>first|exact X3 hq|exact wpAny_rule hq
  have l1:=layNew_perm t es ((PySem.strKind prog w).hash k) (.str k tk);have l2:=layNew_fits t es ((PySem.strKind prog w).hash k) (.str k tk);obtain⟨l3,l4⟩:=vkb t es ((PySem.strKind prog w).hash k) (.str k tk);generalize layNew t es ((PySem.strKind prog w).hash k) (.str k tk)=V at l1 l2 l3 l4 ⊢;obtain⟨dg,t1,wd,gv⟩:=V;dsimp only at l1 l2 l3 l4 ⊢;rw[Array.toList_push]at l1;have ms:ElemsOf (PySem.strKind prog w) dg.toList:=(hk.el.push je rfl).perm l1;have hz1:dg.size=ls.length+1:=by rw[<-Xa,l1.length_eq,Xv,Xa,hsz];rfl
  have hp1:(VX dg.toList).Perm (ls++[k]):=by
   refine(l1.map λe=>strOf e.2).trans ?_;rw[Yj];exact hp.append (List.Perm.refl _)
  refine X0 (hgw _ ?_)
  split
  ·refine X0 ?_;rw[hashByValue_scannable 8 rfl];refine X3 ?_;refine tail ?_ ho hk.d hk.ex ms (by rw[hz1];exact hl) (SetTable.fits_plain_off l2) (l3.trans hk.led) rfl hp1 λh' a1 a2=>?_
   ·intro b s₁ Q' hq;cases b<;>first|exact X3 hq|exact wpAny_rule hq
   ·exact X3 (h true h' a1 a2)
  ·rename_i bq;refine X0 (X3 ?_);refine tail ?_ ho hk.d hk.ex ms (by rw[hz1];exact hl) l2 (l3.trans hk.led) (show t1.plain=false from Bool.eq_false_iff.mpr bq) hp1 λh' a1 a2=>?_
   ·intro b s₁ Q' hq;cases b<;>first|exact X3 hq|exact wpAny_rule hq
   ·exact X3 (h true h' a1 a2)
def dd(ss:List Str):List Str:=ss.foldl step_dedup []
theorem vkp{ss:List Str}{i:Nat}{x:Str}(h:ss[i]?=some x):dd (ss.take (i+1))=step_dedup (dd (ss.take i)) x:=by
 obtain⟨hl,e⟩:=List.getElem?_eq_some_iff.mp h;unfold dd;rw[List.take_succ,h,List.foldl_append];rfl
theorem dd_le(ss:List Str):(dd ss).length<=ss.length:=foldl_step_dedup_nil_length_le ss
theorem qk5:∀{vs:List Value} {ss:List Str},StrsAre vs ss->∀(i:Nat) (v:Value),vs[i]?=some v->∃x t,v=.str x t/\ss[i]?=some x
 |_,_,.nil,i,v,h=>by cases i<;>cases h
 |_,_,.cons x t r,0,v,h=>by cases oq9 h;exact⟨x,t,rfl,rfl⟩
 |_,_,.cons x t r,i+1,v,h=>qk5 r i v h
theorem kkp:∀{vs:List Value} {ss:List Str},StrsAre vs ss->vs.length=ss.length
 |_,_,.nil=>rfl
 |_,_,.cons x t r=>congrArg (· + 1) (kkp r)
theorem Has.same{h h':Heap}{a:Addr}{ls:List Str}(x:Has prog w h a ls)(e:∀o,h.get? a=some o->h'.get? a=some o):Has prog w h' a ls:=by
 obtain⟨o,es,ep,t,ho,r⟩:=x;exact⟨o,es,ep,t,e _ ho,r⟩
theorem loop{R:Result->Shared->Prop}{I:Addr}{fp wr:List Addr}{G:Array GenState->Array GenState->Prop}{n:Nat}{P:Nat->Value->Prop}{St:Nat->Shared->Prop}(W:WalksS prog w A.in1 I fp wr G n P St)(S:Addr)(mq:S∉fp)
  {ss:List Str} (hn:ss.length=n) (i5:∀i v,P i v->∃x t,v=.str x t/\ss[i]?=some x) (hb:n+1<scanBound):∀(k i:Nat) (s:Shared),n - i=k->i<=n->St i s->Has prog w s.heap S (dd (ss.take i)) ->
   (∀s',Moved (S::wr) G s s'->Has prog w s'.heap S (dd ss)->R (.ok (.ret .none)) s')->codeAny (model prog w) A (.builtin "set.update.loop" ⟨[.ref S,.ref I],[]⟩) R s:=by
 have hSw:S∉wr:=λh=>mq (W.sub _ h)
 have i4:∀b∈wr,b∈S::wr:=λb hb=>lc9 _ hb
 intro k
 induction k with
 | zero=>
  intro i s hk hi ce hS hR;cases(show i=n by omega);refine codeAny_builtin F.entry_set_update_loop ?_;rw[Around.under_plainId F.plain_set_update_loop _];show wpAny _ A.in1 (pyNext (.ref I) >>= _) _ _ s;refine X0 (W.done s _ _ ce λs' hm=>?_);refine X3 (hR s' (hm.mono i4) ?_);rw[<-hn,List.take_length]at hS;exact hS.same λo e=>hm.heap S _ hSw e
 | succ k ih=>
  intro i s hk hi ce hS hR;refine codeAny_builtin F.entry_set_update_loop ?_;rw[Around.under_plainId F.plain_set_update_loop _];show wpAny _ A.in1 (pyNext (.ref I) >>= _) _ _ s;refine X0 (W.item i s _ _ (by omega) ce λv s' hP iz hm=>?_);obtain⟨x,t,rfl,hx⟩:=i5 i v hP;have js:Has prog w s'.heap S (dd (ss.take i)):=hS.same λo e=>hm.heap S _ hSw e
  show wpAny _ A.in1 (holding [Value.str x t] (setAdd S (.str x t)) >>= _) _ _ s';refine X0 (Y1 ?_);unfold setAdd;refine Y1 ?_;refine X0 ((PySem.strKind prog w).pyHash (k:=x) (strKind_is _ _ _ _) ?_);have gc:(dd (ss.take i)).length+1<scanBound:=by have:=dd_le (ss.take i);rw[Y2]at this;omega
  refine add js gc λb h' a1 a2=>?_
  rw[<-vkp hx]at a2;refine X3 ⟨plainId_quiet F.plain_set_update_loop _,ih (i+1) _ (by omega) (by omega) (W.frame _ s' _ _ iz (Nat.le_succ _) λb hb o e=>?_) a2 λkr hm'' hS''=>?_⟩
  ·rw[a1.2 b (λh:b=S=>mq (by rw[<-h];exact hb))];exact e
  ·refine hR kr (Moved.trans W.gtrans ((hm.mono i4).then_heap (Nat.le_succ _) λb o hb e=>?_) hm'') hS'';rw[a1.2 b (λh:b=S=>hb (by rw[h];exact X6))];exact e
def fresh(w:World):Obj:={ cls:=.type "set",dict:=none,data:=.set #[] 0 (.fresh 0 0 (!tx w)) }
theorem qqz{h:Heap}{a:Addr}(e:h.get? a=some (fresh w)):Has prog w h a []:=
 ⟨_,#[],0,.fresh 0 0 (!tx w),e,⟨⟨rfl,rfl,rfl⟩,rfl,(λe he=>nomatch he),by decide,by rfl,rfl,.inr rfl⟩,.refl _⟩
theorem made(a:Value){Q₁:Value->Shared->Prop}(h:Q₁ (.ref s.heap.objs.size) { s with heap:=s.heap.push (fresh w) }):
  codeAny (model prog w) A (.call (.builtin "set.__new__") ⟨[.type "set",a],[]⟩) (wants Q₁ E) s:=by
 refine codeAny_of_tree ?_;show wpAny _ A.in1 (do checkBuiltinCall "set.__new__" ⟨[.type "set",a],[]⟩;again (.builtin "set.__new__" ⟨[.type "set",a],[]⟩)) _ _ s;refine X0 (wpAny_of_eq (F.newCall_set_1 a) (X3 ⟨plainId_quiet F.plain_set_new _,codeAny_builtin F.entry_set_new ?_⟩));rw[Around.under_plainId F.plain_set_new _];unfold Builtin.«set.__new__» Builtin.Frozenset.newClass;have i4:=sub_set_self;obtain⟨hp,g,d,tk,os⟩:=s;dsimp only
 wp_walk
 refine Yv (X3 ?_);dsimp only;simp only[newObj];refine X0 (wpAny_alloc (X3 ?_));exact X3 h
set_option maxHeartbeats 8000000 in
theorem qxe{l:Addr}{items:Array Value}{ss:List Str}{Q:Value->Shared->Prop}(hh:A.handled=none)(hl:s.heap.IsList l items)(hi:StrsAre items.toList ss)(hb:items.size+1<scanBound)
  (h:∀(h':Heap) (tk:Nat),Has prog w h' s.heap.objs.size (dd ss)->(∀b o,b<s.heap.objs.size->s.heap.get? b=some o->h'.get? b=some o)->Q (.ref s.heap.objs.size) { s with heap:=h',toks:=tk }):
  wpAny (model prog w) A (call (.type "set") [.ref l]) Q E s:=by
 obtain⟨c,tl,hmro⟩:=F.called_set.mro;have hmade:=F.called_set.made;have i4:=F.called_set.sub;refine wpAny_call (codeAny_of_tree ?_);show wpAny _ _ (callAny (.type "set") _) _ _ _;refine X3 ⟨Code.quiet_builtin _ (by decide +kernel),codeAny_builtin F.entry_type_call ?_⟩;rw [Around.under_plain (weight_type_call_type "set" [.ref l] []) rfl];have h1:=F.called_set.notType;have h2:=F.called_set.canCreate;have hct:=F.typeCall_set_1 (.ref l)
 repeat (any_goals (first|assumption|wp_step))
 refine codeAny_mono (made (.ref l) (E:=E) (Q₁:=λobj s₁=>obj=.ref s.heap.objs.size/\s₁={ s with heap:=s.heap.push (fresh w) }) ⟨rfl,rfl⟩) λr s₁ hr=>?_
 cases r with
 | error e=>exact hr
 | ok fl=>
 cases fl with
 | ret obj=>
  obtain⟨rfl,rfl⟩:=hr;have hS:(s.heap.push (fresh w)).get? s.heap.objs.size=some (fresh w):=Xd _ rfl;have hT:Shared.TypeIs { s with heap:=s.heap.push (fresh w) } (.ref s.heap.objs.size) "set":=⟨_,hS,rfl⟩;have hli:=F.called_set.init.lookup;have hbi:=F.called_set.init.bind (.ref s.heap.objs.size)
  repeat (any_goals (first|assumption|wp_step))
  refine codeAny_mono (codeAny_call_builtin (R:=wants (λr s₂=>r=.none/\∃h' tk,s₂={ s with heap:=h',toks:=tk }/\Has prog w h' s.heap.objs.size (dd ss) /\
    (∀b o,b<s.heap.objs.size->s.heap.get? b=some o->h'.get? b=some o)) E) F.called_set.init.plain F.entry_set_init (check_set_init_1 hT ?_)) λr₂ s₂ hr₂=>?_
  ·obtain⟨ol,hol,fk,nl,hdl⟩:=hl;obtain⟨ocls,n8,odata,lh⟩:=ol;simp only at fk hdl;subst fk;subst hdl;have hol':(s.heap.push (fresh w)).get? l=some { cls:=.type "list",dict:=n8,data:=.seq items nl,slots:=lh }:=X2 _ hol;have hsls:=F.sub_list_set;have hslf:=F.sub_list_frozenset;have ef:(Value.type "list" == Value.type "dict")=false:=by decide
   have mj:(s.heap.push (fresh w)).IsList l items:=⟨_,hol',rfl,nl,rfl⟩;have hlS:l<s.heap.objs.size:=Xb hol;have i9:({ cls:=.type "set",dict:=none,data:=.set #[] 0 (.fresh 0 0 (!tx w)) }:Obj)=fresh w:=rfl;unfold Builtin.«set.__init__» noKeywords Builtin.Frozenset.updateFrom;generalize hPI:pyIter=PI
   wp_walk
   subst hPI;refine wpAny_pyIter_list mj ?_;refine X0 (wpAny_runValue ?_);have hh3:A.in1.in1.in1.handled=none:=by simp[hh]
   have hsz:(s.heap.push (fresh w)).objs.size=s.heap.objs.size+1:=Heap.size_push ..;refine loop ((Walks.list hh3 _ l (by rw[hsz];exact Xn (Nat.lt_succ_of_lt hlS)) items).toS) s.heap.objs.size (by rw[hsz];simp only[Y4,Xx,or_false,not_or];exact⟨Xn (Nat.lt_succ_self _),Nat.ne_of_gt hlS⟩) (ss:=ss) ?_ (λi v hv=>qk5 hi i v (by rw[Array.getElem?_toList];exact hv)) hb (items.size - 0) 0 _ (by omega) (Yt _)
    ⟨⟨_,Xd _ rfl,rfl,rfl⟩,mj.push _⟩ ?_ ?_
   ·rw[<-kkp hi,Xa]
   ·exact qqz (X2 _ hS)
   ·intro s' hm js;obtain⟨h',g',d',tk',os'⟩:=s';have eg:g'=s.gens:=hm.gens;have ed:d'=s.drawn:=hm.drawn;have eo:os'=s.os:=hm.os;subst eg;subst ed;subst eo;show wpAny _ _ _ _ _ _;refine X3 ?_;show wpAny _ _ (ret Value.none) _ _ _;refine X3 ⟨rfl,h',tk',rfl,js,λb o hb e=>?_⟩;exact hm.heap b o (by simp only[Y4,Xx,or_false,not_or];rw[hsz];exact⟨Xn hb,Xn (Nat.lt_succ_of_lt hb)⟩) (X2 _ (X2 _ e))
  ·cases r₂ with
   | error e=>exact hr₂
   | ok fl₂=>
    cases fl₂ with
    |ret r=>
     obtain⟨rfl,h',tk,rfl,js,hk'⟩:=hr₂
     repeat (any_goals (first|assumption|wp_step))
     exact h _ _ js hk'
    |_=>exact hr₂.elim
 |_=>exact hr.elim
end
theorem slot_next:Slot "set_iterator" "__next__" "set_iterator.__next__" :=
 .of (owner:="set_iterator") (n:="__next__") (by rw[typeLookup_type,builtinLookup_eq_fast];kernel_rfl) (by decide +kernel) (by decide +kernel) (by decide +kernel)
  (by first|exact .inl (by decide +kernel)|exact .inr (by decide +kernel)) (by rw[isSubtype_type];kernel_rfl)
theorem kv3:Slot "set_iterator" "__iter__" "set_iterator.__iter__" :=
 .of (owner:="set_iterator") (n:="__iter__") (by rw[typeLookup_type,builtinLookup_eq_fast];kernel_rfl) (by decide +kernel) (by decide +kernel) (by decide +kernel)
  (by first|exact .inl (by decide +kernel)|exact .inr (by decide +kernel)) (by rw[isSubtype_type];kernel_rfl)
theorem jwo:entryFor table "set_iterator.__next__"=some Builtin.«set_iterator.__next__»:=entryFor_of_tree (by kernel_rfl)
theorem qjh:entryFor table "set_iterator.__iter__"=some Builtin.«dict_keyiterator.__iter__»:=entryFor_alias (id':="dict_keyiterator.__iter__") (by kernel_rfl) rfl (by decide +kernel) (by kernel_rfl)
theorem qji:entryFor table "set.__iter__"=some Builtin.«frozenset.__iter__»:=entryFor_alias (id':="frozenset.__iter__") (by kernel_rfl) rfl (by decide +kernel) (by kernel_rfl)
theorem jxk(a:Value):argsOk "set_iterator.__next__" ⟨[a],[]⟩:=by unfold argsOk;kernel_rfl
theorem qvu(a:Value):argsOk "set_iterator.__iter__" ⟨[a],[]⟩:=by unfold argsOk;kernel_rfl
theorem qvv(a:Value):argsOk "set.__iter__" ⟨[a],[]⟩:=by unfold argsOk;kernel_rfl
section
variable {prog:Program}{w:World}{A:Around}{E:Value->Shared->Prop}{s:Shared}
theorem vxe{src:Source}{n:Nat}{Q:Nat->Shared->Prop}(hn:n≠0)(h:∀i d,i<n->Q i { s with drawn:=d }):wpAny (model prog w) A (choose src n) Q E s:=
 λ_ _ _=>⟨hn,h _ _ (Nat.mod_lt _ (Nat.pos_of_ne_zero hn))⟩
theorem jz4{α:Type}:∀{l:List α} {i:Nat} (h:i<l.length),(l[i]::l.eraseIdx i).Perm l
 |a::l,0,h=>List.Perm.refl _
 |a::l,i+1,h=>by
  have hi:i<l.length:=Nat.lt_of_succ_lt_succ h;exact(List.Perm.swap a (l[i]'hi) _).trans ((jz4 hi).cons a)
theorem drawn{α:Type}:∀(n:Nat) (xs:List α) (s:Shared) {Q:List α->Shared->Prop},xs.length=n->(∀ys d,ys.Perm xs->Q ys { s with drawn:=d })->wpAny (model prog w) A (drawOrder n xs) Q E s
 | 0,xs,s,Q,hl,h=>by
  cases xs with
  |nil=>exact X3 (h [] s.drawn (.refl _))
  |cons=>cases hl
 | n+1,xs,s,Q,hl,h=>by
  cases xs with
  |nil=>cases hl
  |cons x xs=>
   unfold drawOrder;refine X0 (vxe (by simp) λi d hi=>?_);rw[X1 hi];refine X0 (drawn n _ _ (by rw[List.length_eraseIdx,Xe hi];exact Nat.succ.inj hl) λys d' hp=>?_);exact X3 (h _ d' ((hp.cons _).trans (jz4 hi)))
theorem qks{α:Type}(f:Nat->Nat):∀(n k:Nat) (l:List α) (out:Array α),l.length=n->(pickOrder.go f n k l out).toList.Perm (out.toList++l)
 |0,k,l,out,hl=>by
  cases l with
  |nil=>unfold pickOrder.go;simp
  |cons=>cases hl
 |n+1,k,l,out,hl=>by
  have hi:f k % l.length<l.length:=Nat.mod_lt _ (by omega);unfold pickOrder.go;rw[X1 hi];refine(qks f n (k+1) _ _ (by rw[List.length_eraseIdx,Xe hi];omega)).trans ?_;rw[Array.toList_push,Xr];exact(List.Perm.refl _).append (jz4 hi)
theorem kve{α:Type}(f:Nat->Nat)(xs:Array α):(pickOrder f xs).toList.Perm xs.toList:=by
 unfold pickOrder;exact qks f _ 0 _ #[] (by simp)
end
section
variable {prog:Program}{w:World}{A:Around}{E:Value->Shared->Prop}{s:Shared}
noncomputable def It(h:Heap)(I a:Addr)(f:Value)(i n ep:Nat):Prop:=∃o,h.get? I=some o/\o.cls=.type "set_iterator"/\o.data=.fields #[f,.int i 0,.ref a,.int n 0,.int ep 0]
theorem It.at'{h h':Heap}{I a:Addr}{f:Value}{i n ep:Nat}(x:It h I a f i n ep)(e:∀o,h.get? I=some o->h'.get? I=some o):It h' I a f i n ep:=by
 obtain⟨o,ho,r⟩:=x;exact⟨o,e _ ho,r⟩
noncomputable def Stn(h:Heap)(a:Addr)(n ep:Nat):Prop:=∃o es t,h.get? a=some o/\o.data=.set es ep t/\t.fits es.size=true/\es.size=n
theorem qkc{I a:Addr}{f:Value}{i n ep:Nat}{Q:Value->Shared->Prop}(gz:It s.heap I a f i n ep)(h:Q (.ref I) s):wpAny (model prog w) A (pyIter (.ref I)) Q E s:=by
 obtain⟨o,ho,hc,hd⟩:=gz;have hT:s.TypeIs (.ref I) "set_iterator":=⟨o,ho,hc⟩;refine wpAny_pyIter_slot hT kv3 (Yc kv3 hT qjh ?_ (qvu _));show wpAny _ _ (ret (.ref I)) _ _ s;exact X3 ⟨_,rfl,"set_iterator",_,hT,slot_next.lookup,h⟩
theorem vwx{I a:Addr}{sl nx i n ep:Nat}{v:Value}{Q:Option Value->Shared->Prop}(gz:It s.heap I a (.int sl 0) i n ep)(hs:Stn s.heap a n ep)
  (hN:∀(A':Around) (E':Value->Shared->Prop) (R:Option (Value×Nat)->Shared->Prop),R (some (v,nx)) s->wpAny (model prog w) A' (setNext a sl i ep) R E' s)
  (hQ:∀h',It h' I a (.int nx 0) (i+1) n ep->Heap.SameBut I s.heap h'->Q (some v) { s with heap:=h' }):wpAny (model prog w) A (pyNext (.ref I)) Q E s:=by
 obtain⟨o,ho,hc,hd⟩:=gz;obtain⟨os,es,t,gy,eh,hf,hn⟩:=hs;have hT:s.TypeIs (.ref I) "set_iterator":=⟨o,ho,hc⟩;unfold pyNext;refine X0 (wpAny_attempt (Yn (name:=Str.ofString "__next__") hT slot_next (Yc slot_next hT jwo ?_ (jxk _))));show wpAny _ _ (fieldsOf (.ref I) >>= _) _ _ s;refine X0 (wpAny_fieldsOf ho hd ?_);show wpAny _ _ (setEntries a >>= _) _ _ s;refine X0 (wpAny_setEntries_of gy eh hf ?_);rw[Xl (by rw[hn];simp)];show wpAny _ _ (setNext a ((sl:Int)).toNat ((i:Int)).toNat ((ep:Int)).toNat >>= _) _ _ s;rw[Y6,Y6,Y6];refine X0 (hN _ _ _ ?_);refine X0 (Ym ho hd (by simp) ?_);have lp:=Obj.data_mapFields hd (·.setIfInBounds 0 (rawInt nx));have ib:=Y0 (Obj.mapFields (·.setIfInBounds 0 (rawInt nx))) ho (Obj.isFreed_of_fields lp);refine X0 (Ym ib lp (by simp) (X3 ⟨v,rfl,X3 (hQ _ ?_ ((Ye ..).trans (Ye ..)))⟩));have fw:=Obj.data_mapFields lp (·.setIfInBounds 1 (rawInt (i+1)));refine⟨_,Y0 _ ib (Obj.isFreed_of_fields fw),(Obj.cls_mapFields ..).trans ((Obj.cls_mapFields ..).trans hc),?_⟩;rw[fw];simp[rawInt]
theorem vww{I a T:Addr}{i n ep:Nat}{v:Value}{pl:List Nat}{p:Nat}{Q:Option Value->Shared->Prop}(gz:It s.heap I a (.ref T) i n ep)(hs:Stn s.heap a n ep)(hT':∃o k,s.heap.get? T=some o/\o.data=.seq (pl.map λ(j:Nat)=>rawInt j).toArray k)
  (hp:pl[i]?=some p)
  (hN:∀(A':Around) (E':Value->Shared->Prop) (R:Value->Shared->Prop),R v s->wpAny (model prog w) A' (setNextDrawn a p ep) R E' s)
  (hQ:∀h',It h' I a (.ref T) (i+1) n ep->Heap.SameBut I s.heap h'->Q (some v) { s with heap:=h' }):wpAny (model prog w) A (pyNext (.ref I)) Q E s:=by
 obtain⟨o,ho,hc,hd⟩:=gz;obtain⟨os,es,t,gy,eh,hf,hn⟩:=hs;obtain⟨oT,kT,hoT,lz⟩:=hT';have hT:s.TypeIs (.ref I) "set_iterator":=⟨o,ho,hc⟩;unfold pyNext;refine X0 (wpAny_attempt (Yn (name:=Str.ofString "__next__") hT slot_next (Yc slot_next hT jwo ?_ (jxk _))));show wpAny _ _ (fieldsOf (.ref I) >>= _) _ _ s;refine X0 (wpAny_fieldsOf ho hd ?_);show wpAny _ _ (setEntries a >>= _) _ _ s;refine X0 (wpAny_setEntries_of gy eh hf ?_);rw[Xl (by rw[hn];simp)];show wpAny _ _ (seqItems? (.ref T) >>= _) _ _ s;refine X0 (wpAny_seqItems hoT lz ?_);have hg:(pl.map λ(j:Nat)=>rawInt j).toArray[((i:Int)).toNat]?=some (.int p 0):=by
  rw[Y6,List.getElem?_toArray,Xh,hp];rfl
 dsimp only;rw[hg];show wpAny _ _ (setNextDrawn a ((p:Int)).toNat ((ep:Int)).toNat >>= _) _ _ s;rw[Y6,Y6];refine X0 (hN _ _ _ ?_);have fw:=Obj.data_mapFields hd (·.setIfInBounds 1 (rawInt (i+1)));refine X0 (Ym ho hd (by simp) (X3 ⟨v,rfl,X3 (hQ _ ?_ (Ye ..))⟩));refine⟨_,Y0 _ ho (Obj.isFreed_of_fields fw),(Obj.cls_mapFields ..).trans hc,?_⟩;rw[fw];simp[rawInt]
theorem wjz{I a:Addr}{sl i n ep:Nat}{Q:Option Value->Shared->Prop}(hh:A.handled=none)(gz:It s.heap I a (.int sl 0) i n ep)(hs:Stn s.heap a n ep)
  (hN:∀(A':Around) (E':Value->Shared->Prop) (R:Option (Value×Nat)->Shared->Prop),R none s->wpAny (model prog w) A' (setNext a sl i ep) R E' s)
  (hQ:∀h',Heap.ExtBut I s.heap h'->Q none { s with heap:=h' }):wpAny (model prog w) A (pyNext (.ref I)) Q E s:=by
 obtain⟨o,ho,hc,hd⟩:=gz;obtain⟨os,es,t,gy,eh,hf,hn⟩:=hs;have hT:s.TypeIs (.ref I) "set_iterator":=⟨o,ho,hc⟩;unfold pyNext;refine X0 (wpAny_attempt (Yn (name:=Str.ofString "__next__") hT slot_next (Yc slot_next hT jwo ?_ (jxk _))));show wpAny _ _ (fieldsOf (.ref I) >>= _) _ _ s;refine X0 (wpAny_fieldsOf ho hd ?_);show wpAny _ _ (setEntries a >>= _) _ _ s;refine X0 (wpAny_setEntries_of gy eh hf ?_);rw[Xl (by rw[hn];simp)];show wpAny _ _ (setNext a ((sl:Int)).toNat ((i:Int)).toNat ((ep:Int)).toNat >>= _) _ _ s;rw[Y6,Y6,Y6];refine X0 (hN _ _ _ ?_);refine X0 (Ym ho hd (by simp) ?_);show wpAny _ _ (newExc (.type "StopIteration") [] >>= _) _ _ _;refine X0 ?_;simp only[newExc,newTuple];refine X0 (Xq ?_ (by size_fits));refine X0 (m:=firstArgMember _ _) (wpAny_of_eq (a:=Value.none) (by first|rfl|(simp only[firstArgMember];rfl)) ?_);refine Xq ?_ (by size_fits);simp only[raiseNew];refine X0 (wpAny_handled ?_);rw[show A.in1.handled=none from hh];refine X0 (X3 (wpAny_throw ?_));refine X0 (wpAny_isInstance (T:="StopIteration") (b:=true) ⟨_,Xd _ rfl,rfl⟩ isSubtype_stop ?_);exact X3 (hQ _ (((Ye ..).extBut.push _).push _))
theorem wjy{I a T:Addr}{i n ep:Nat}{pl:List Nat}{Q:Option Value->Shared->Prop}(hh:A.handled=none)(gz:It s.heap I a (.ref T) i n ep)(hs:Stn s.heap a n ep)(hT':∃o k,s.heap.get? T=some o/\o.data=.seq (pl.map λ(j:Nat)=>rawInt j).toArray k)
  (hp:pl[i]?=none) (hQ:∀h',Heap.ExtBut I s.heap h'->Q none { s with heap:=h' }):wpAny (model prog w) A (pyNext (.ref I)) Q E s:=by
 obtain⟨o,ho,hc,hd⟩:=gz;obtain⟨os,es,t,gy,eh,hf,hn⟩:=hs;obtain⟨oT,kT,hoT,lz⟩:=hT';have hT:s.TypeIs (.ref I) "set_iterator":=⟨o,ho,hc⟩;unfold pyNext;refine X0 (wpAny_attempt (Yn (name:=Str.ofString "__next__") hT slot_next (Yc slot_next hT jwo ?_ (jxk _))));show wpAny _ _ (fieldsOf (.ref I) >>= _) _ _ s;refine X0 (wpAny_fieldsOf ho hd ?_);show wpAny _ _ (setEntries a >>= _) _ _ s;refine X0 (wpAny_setEntries_of gy eh hf ?_);rw[Xl (by rw[hn];simp)];show wpAny _ _ (seqItems? (.ref T) >>= _) _ _ s;refine X0 (wpAny_seqItems hoT lz ?_);have hg:(pl.map λ(j:Nat)=>rawInt j).toArray[((i:Int)).toNat]?=none:=by
  rw[Y6,List.getElem?_toArray,Xh,hp];rfl
 dsimp only;rw[hg];have lp:=Obj.data_mapFields hd (·.setIfInBounds 0 (rawInt 0));have ib:=Y0 (Obj.mapFields (·.setIfInBounds 0 (rawInt 0))) ho (Obj.isFreed_of_fields lp);refine X0 (Ym ho hd (by simp) ?_);refine X0 (Ym ib lp (by simp) ?_);show wpAny _ _ (newExc (.type "StopIteration") [] >>= _) _ _ _;refine X0 ?_;simp only[newExc,newTuple];refine X0 (Xq ?_ (by size_fits));refine X0 (m:=firstArgMember _ _) (wpAny_of_eq (a:=Value.none) (by first|rfl|(simp only[firstArgMember];rfl)) ?_);refine Xq ?_ (by size_fits);simp only[raiseNew];refine X0 (wpAny_handled ?_);rw[show A.in1.handled=none from hh];refine X0 (X3 (wpAny_throw ?_));refine X0 (wpAny_isInstance (T:="StopIteration") (b:=true) ⟨_,Xd _ rfl,rfl⟩ isSubtype_stop ?_);exact X3 (hQ _ ((((Ye ..).trans (Ye ..)).extBut.push _).push _))
end
section
variable {prog:Program}{w:World}{A:Around}{E:Value->Shared->Prop}{s:Shared}
theorem qjv(hh:A.handled=none)(I a:Addr)(ef:a≠I){o:Obj}{es:Array (Int×Value)}{ep:Nat}{t:SetTable}(hd:o.data=.set es ep t)(hf:t.fits es.size=true){cj:List Value}(hl:cj.length=es.size)(sl:Nat->Nat)
  (hN:∀(i:Nat) (s:Shared) (A':Around) (E':Value->Shared->Prop) (R:Option (Value×Nat)->Shared->Prop),s.heap.get? a=some o->i<=es.size->R (cj[i]?.map λv=>(v,sl (i+1))) s->wpAny (model prog w) A' (setNext a (sl i) i ep) R E' s):
  Walks prog w A I [I,a] [I] es.size (λi v=>cj[i]?=some v) (λi h=>It h I a (.int (sl i) 0) i es.size ep/\h.get? a=some o) where
 sub:=λb hb=>by simp at hb;simp[hb]
 frame:=λ_ _ _ st hk=>⟨st.1.at' λo e=>hk I (by simp) o e,hk a (by simp) _ st.2⟩
 item:=λi s Q E hi st hQ=>by
  have hv:cj[i]?=some (cj[i]'(by omega)):=X1 _;refine vwx (nx:=sl (i+1)) (v:=cj[i]'(by omega)) st.1 ⟨o,es,t,st.2,hd,hf,rfl⟩ (λA' E' R hR=>hN i s A' E' R st.2 (Nat.le_of_lt hi) (by rw[hv];exact hR)) λh' li iw=>?_
  exact hQ _ h' s.toks hv ⟨li,(iw.extBut a o ef st.2)⟩ λb o hb e=>iw.extBut b o (λh=>hb (by simp[h])) e
 done:=λs Q E st hQ=>by
  refine wjz hh st.1 ⟨o,es,t,st.2,hd,hf,rfl⟩ (λA' E' R hR=>hN es.size s A' E' R st.2 (Xg _) (by rw[Yk (by omega)];exact hR)) λh' he=>?_
  exact hQ h' s.toks λb o hb e=>he b o (λh=>hb (by simp[h])) e
 self:=λ_ _ _ _ st hQ=>qkc st.1 hQ
theorem qzt(hh:A.handled=none)(I a T:Addr)(ef:a≠I)(hneT:T≠I){o oT:Obj}{es:Array (Int×Value)}{ep k:Nat}{t:SetTable}(hd:o.data=.set es ep t)(hf:t.fits es.size=true){pl:List Nat}(hp:pl.Perm (List.range es.size))(lz:oT.data=.seq (pl.map λ(j:Nat)=>rawInt j).toArray k):
  Walks prog w A I [I,a,T] [I] es.size (λi v=>(pl.map λj=>(es.getD j (0,.none)).2)[i]?=some v) (λi h=>It h I a (.ref T) i es.size ep/\h.get? a=some o/\h.get? T=some oT) where
 sub:=λb hb=>by simp at hb;simp[hb]
 frame:=λ_ _ _ st hk=>⟨st.1.at' λo e=>hk I (by simp) o e,hk a (by simp) _ st.2.1,hk T (by simp) _ st.2.2⟩
 item:=λi s Q E hi st hQ=>by
  have ax:pl.length=es.size:=by rw[hp.length_eq,Y5]
  have hv:pl[i]?=some (pl[i]'(by omega)):=X1 _;have db:pl[i]'(by omega)<es.size:=List.mem_range.mp (hp.mem_iff.mp (Xy _));refine vww (p:=pl[i]'(by omega)) (v:=(es.getD (pl[i]'(by omega)) (0,.none)).2) st.1 ⟨o,es,t,st.2.1,hd,hf,rfl⟩ ⟨oT,k,st.2.2,lz⟩ hv (λA' E' R hR=>?_) λh' li iw=>?_
  ·unfold setNextDrawn;refine X0 (Yu st.2.1 hd hf ?_);dsimp only;rw[Xl (by simp),Array.getElem?_eq_getElem db];refine X3 ?_;rw[Array.getD_eq_getD_getElem?,Array.getElem?_eq_getElem db]at hR;exact hR
  ·exact hQ _ h' s.toks (by rw[Xh,hv];rfl) ⟨li,(iw.extBut a o ef st.2.1),(iw.extBut T oT hneT st.2.2)⟩ λb o hb e=>iw.extBut b o (λh=>hb (by simp[h])) e
 done:=λs Q E st hQ=>by
  have ax:pl.length=es.size:=by rw[hp.length_eq,Y5]
  refine wjy hh st.1 ⟨o,es,t,st.2.1,hd,hf,rfl⟩ ⟨oT,k,st.2.2,lz⟩ (Yk (by omega)) λh' he=>?_
  exact hQ h' s.toks λb o hb e=>he b o (λh=>hb (by simp[h])) e
 self:=λ_ _ _ _ st hQ=>qkc st.1 hQ
theorem qq5(jm:tx w=true){a:Addr}{o:Obj}{es:Array (Int×Value)}{ep:Nat}{t:SetTable}(hd:o.data=.set es ep t)(hf:t.fits es.size=true):
  ∀(i:Nat) (s:Shared) (A':Around) (E':Value->Shared->Prop) (R:Option (Value×Nat)->Shared->Prop),s.heap.get? a=some o->i<=es.size->R (((pickOrder (w.params.setOrder a ep) es).toList.map (·.2))[i]?.map λv=>(v,0)) s->wpAny (model prog w) A' (setNext a 0 i ep) R E' s:=by
 intro i s A' E' R ho hi hR;unfold setNext;refine X0 (Yu ho hd hf ?_);unfold setsByText;refine X0 (X0 (Yv (X3 ?_)));show wpAny _ _ (if tx w=true then _ else _) _ _ _;rw[Xe jm];rw[Xl (by simp)];unfold setWalk;refine X0 (X0 (Yu ho hd hf ?_));unfold setsByText;refine X0 (X0 (Yv (X3 ?_)));show wpAny _ _ (if tx w=true then _ else _) _ _ _;rw[Xe jm];refine X0 (Yv (X3 ?_));refine X3 ?_;rw[Xh,Array.getElem?_toList,Option.map_map]at hR;exact hR
end
section
variable {prog:Program}{w:World}{A:Around}{E:Value->Shared->Prop}{s:Shared}
theorem qv1{t:SetTable}{n:Nat}(h:t.fits n=true):t.place.size=n:=by
 simp only[SetTable.fits,Bool.and_eq_true,beq_iff_eq]at h;exact h.1
def sl1(t:SetTable)(i:Nat):Nat:=if i=0 then 0 else t.place.getD 0 0+1
theorem qwz(jm:tx w=false){a:Addr}{o:Obj}{es:Array (Int×Value)}{ep:Nat}{t:SetTable}(hk:Ok prog w o es ep t)(h1:es.size<=1):
  ∀ (i:Nat) (s:Shared) (A':Around) (E':Value->Shared->Prop) (R:Option (Value×Nat)->Shared->Prop),s.heap.get? a=some o->i<=es.size->R ((es.toList.map (·.2))[i]?.map λv=>(v,sl1 t (i+1))) s->wpAny (model prog w) A' (setNext a (sl1 t i) i ep) R E' s:=by
 intro i s A' E' R ho hi hR;have hsz:=qv1 hk.f;unfold setNext;refine X0 (Yu ho hk.d hk.f ?_);unfold setsByText;refine X0 (X0 (Yv (X3 ?_)));show wpAny _ _ (if tx w=true then _ else _) _ _ _;rw [Xl (by rw[jm];decide)];show wpAny _ _ (if(!t.plain&&decide (es.size>1))=true then _ else _) _ _ _;rw [Xl (by rw[Xm (by omega)];simp)];show wpAny _ _ ((if(!t.led && !es.isEmpty)=true then _ else pure ()) >>= _) _ _ _;rw [Xl (by rw[hk.led,jm];simp)];refine X0 (X3 ?_);refine X3 ?_;obtain⟨es⟩:=es;obtain⟨mask,⟨pl⟩,du,fi,le,mo,pln⟩:=t;cases es with
 | nil=>
  cases pl with
  | nil=>
   have hi0:i=0:=by simpa using hi
   subst hi0;exact hR
  | cons=>cases hsz
 | cons e es=>
  cases es with
  | cons=>exact absurd h1 (by simp)
  | nil=>
   cases pl with
   | nil=>cases hsz
   | cons p pl=>
    cases pl with
    | cons=>cases hsz
    | nil=>
     have hb0:SetTable.below #[p] 0=0:=by
      show SetTable.below.go #[p] 0 1 0 1=0;unfold SetTable.below.go;rw[Xe (by decide),Xl (by simp)];rfl
     have hb1:SetTable.below #[p] (p+1)=1:=by
      show SetTable.below.go #[p] (p+1) 1 0 1=1;unfold SetTable.below.go;rw[Xe (by decide),Xe (by simp)];rfl
     rcases(show i=0\/i=1 by have:i<=1:=hi;omega)with rfl|rfl
     ·show R (match (#[e]:Array (Int×Value))[SetTable.below #[p] 0]?,(#[p]:Array Nat)[SetTable.below #[p] 0]? with|some (_,x),some j=>some (x,j+1)|_,_=>none) s;rw[hb0];exact hR
     ·show R (match (#[e]:Array (Int×Value))[SetTable.below #[p] (p+1)]?,(#[p]:Array Nat)[SetTable.below #[p] (p+1)]? with|some (_,x),some j=>some (x,j+1)|_,_=>none) s;rw[hb1];exact hR
theorem qjw{es:Array (Int×Value)}{pl:List Nat}(hp:pl.Perm (List.range es.size)):(pl.map λj=>(es.getD j (0,.none)).2).Perm (es.toList.map (·.2)):=by
 refine(hp.map _).trans (.of_eq ?_);apply List.ext_getElem
 ·simp
 ·intro i h1 h2;simp at h1;simp[Array.getD_eq_getD_getElem?,h1]
end
section
variable {prog:Program}{w:World}{A:Around}{E:Value->Shared->Prop}{s:Shared}
theorem qxb{a:Addr}{o:Obj}{es:Array (Int×Value)}{ep:Nat}{t:SetTable}(ho:s.heap.get? a=some o)(hk:Ok prog w o es ep t){Q:Bool->Shared->Prop}(h:Q (!tx w&&(!t.plain&&decide (es.size>1))) s):wpAny (model prog w) A (setDrawn a) Q E s:=by
 unfold setDrawn;refine X0 (Yu ho hk.d hk.f ?_);unfold setsByText;refine X0 (X0 (Yv (X3 ?_)));exact X3 h
theorem vkd{a:Addr}{o:Obj}{es:Array (Int×Value)}{ep:Nat}{t:SetTable}{Q:Value->Shared->Prop}(ho:s.heap.get? a=some o)(hk:Ok prog w o es ep t)
  (h:∀(h':Heap) (d:Drawn) (I:Addr) (fp:List Addr) (cj:List Value) (St:Nat->Heap->Prop),(∀b o,s.heap.get? b=some o->h'.get? b=some o)->s.heap.objs.size<=I->(∀b∈fp,b=a\/s.heap.objs.size<=b) ->
   (∀A':Around,A'.handled=none->Walks prog w A' I fp [I] es.size (λi v=>cj[i]?=some v) St)->St 0 h'->cj.Perm (es.toList.map (·.2))->Q (.ref I) { s with heap:=h',drawn:=d }):wpAny (model prog w) A (pyIter (.ref a)) Q E s:=by
 have hT:s.TypeIs (.ref a) "set":=⟨o,ho,hk.ex.1⟩;have jn:a<s.heap.objs.size:=Xb ho;refine wpAny_pyIter_slot hT F.slot_set_iter (Yc F.slot_set_iter hT qji ?_ (qvv _));unfold Builtin.«frozenset.__iter__» Builtin.Frozenset.slot0 slotArgs;simp only[List.isEmpty_nil,Bool.not_true,Bool.false_eq_true,↓reduceIte,bind_assoc,List.length_nil,bne_self_eq_false];unfold Builtin.Frozenset.addrOf Builtin.Frozenset.sizeOf;refine X0 (X3 ?_)
 try dsimp only
 refine X0 (X3 ?_);refine X0 (X0 (wpAny_setEntries_of ho hk.d hk.f (X3 ?_)));refine X0 (qxb ho hk ?_)
 by_cases hdr:(!tx w&&(!t.plain&&decide (es.size>1)))=true
 ·rw [Xe hdr];refine X0 (drawn es.size _ s (by simp) λpl d hp=>?_);refine X0 (wpAny_newTuple ?_ (hsz:=by rw[X4,hp.length_eq,Y5];exact fits_of_scanBound hk.b));refine X0 (wpAny_setEpoch_of (X2 _ ho) hk.d hk.f ?_);refine X0 (Xq (X3 ⟨_,rfl,"set_iterator",_,⟨_,Xd _ rfl,rfl⟩,slot_next.lookup,?_⟩));have hsz:(s.heap.push (seqObj "tuple" (pl.map λ(i:Nat)=>rawInt i).toArray 0)).objs.size=s.heap.objs.size+1:=Heap.size_push ..;refine h _ d _ [_,a,s.heap.objs.size] (pl.map λj=>(es.getD j (0,.none)).2) _ (λb o e=>X2 _ (X2 _ e)) (by rw[hsz];exact Nat.le_succ _) (λb hb=>?_)
   (λA' hh=>qzt hh _ a s.heap.objs.size (by rw[hsz];exact Xn (Nat.lt_succ_of_lt jn)) (by rw[hsz];exact Xn (Nat.lt_succ_self _)) (o:=o) (oT:=seqObj "tuple" (pl.map λ(i:Nat)=>rawInt i).toArray 0) hk.d hk.f hp rfl)
   ⟨⟨_,Xd _ rfl,rfl,rfl⟩,X2 _ (X2 _ ho),X2 _ (Xd _ rfl)⟩ (qjw hp)
  rcases List.mem_cons.mp hb with rfl|hb
  ·exact .inr (by rw[hsz];exact Nat.le_succ _)
  rcases List.mem_cons.mp hb with rfl|hb
  ·exact .inl rfl
  ·rw[List.mem_singleton.mp hb];exact .inr (Xg _)
 ·rw [Xl hdr];refine X0 (X3 ?_);refine X0 (wpAny_setEpoch_of ho hk.d hk.f ?_);refine X0 (Xq (X3 ⟨_,rfl,"set_iterator",_,⟨_,Xd _ rfl,rfl⟩,slot_next.lookup,?_⟩));have hfp:∀b∈[s.heap.objs.size,a],b=a\/s.heap.objs.size<=b:=λb hb=>by
   rcases List.mem_cons.mp hb with rfl|hb
   ·exact .inr (Xg _)
   ·exact .inl (List.mem_singleton.mp hb)
  cases jm:tx w with
  | true=>
   refine h _ s.drawn _ [_,a] ((pickOrder (w.params.setOrder a ep) es).toList.map (·.2)) _ (λb o e=>X2 _ e) (Xg _) hfp
    (λA' hh=>qjv hh _ a (Xn jn) (o:=o) hk.d hk.f (by rw[X4,(kve _ es).length_eq,Xa]) (λ_=>0) (qq5 jm hk.d hk.f))
    ⟨⟨_,Xd _ rfl,rfl,rfl⟩,X2 _ ho⟩ ((kve _ es).map _)
  | false=>
   have h1:es.size<=1:=by
    rcases hk.pl with hp|hp
    ·rw[jm,hp]at hdr;simp at hdr;exact hdr
    ·omega
   refine h _ s.drawn _ [_,a] (es.toList.map (·.2)) _ (λb o e=>X2 _ e) (Xg _) hfp
    (λA' hh=>qjv hh _ a (Xn jn) (o:=o) hk.d hk.f (by rw[X4,Xa]) (sl1 t) (qwz jm hk h1))
    ⟨⟨_,Xd _ rfl,rfl,rfl⟩,X2 _ ho⟩ (.refl _)
theorem vkj{a:Addr}{Q:Bool->Shared->Prop}(hT:s.TypeIs (.ref a) "set")(h:Q false s):wpAny (model prog w) A (Builtin.List.listLengthHint (.ref a)) Q E s:=by
 unfold Builtin.List.listLengthHint;refine X0 (wpAny_specialOf hT F.slot_set_len.lookup ?_);generalize jd:("set.__len__":String)=id0
 wp_delta
 rw[show splitId id0=some ("set","__len__")from by subst jd;decide +kernel];subst jd;refine X0 (wpAny_isInstance (T:="set") (b:=true) hT sub_set_self ?_);refine wpAny_ite_split (λgu=>absurd gu (by decide)) (λ_=>?_);refine wpAny_ite_split (λ_=>?_) (λgu=>absurd (by decide +kernel) gu);refine X0 (wpAny_typeOf hT ?_);exact X3 h
theorem jzu:∀{vs:List Value},(∀v∈vs,∃x t,v=Value.str x t)->StrsAre vs (vs.map strOf)
 |[],_=>.nil
 |v::vs,h=>by
  obtain⟨x,t,rfl⟩:=h v X6;exact .cons x t (jzu λv hv=>h v (lc9 _ hv))
theorem qjl{a:Addr}{ls:List Str}{Q:List Value->Shared->Prop}(hh:A.handled=none)(hS:Has prog w s.heap a ls)
  (h:∀(h':Heap) (d:Drawn) (tk:Nat) (vs:List Value) (ss:List Str),(∀b o,s.heap.get? b=some o->h'.get? b=some o)->s.heap.objs.size<h'.objs.size->StrsAre vs ss->ss.Perm ls->Q vs { s with heap:=h',drawn:=d,toks:=tk }):
  wpAny (model prog w) A (collect (.ref a)) Q E s:=by
 obtain⟨o,es,ep,t,ho,hk,hp⟩:=hS;have jn:a<s.heap.objs.size:=Xb ho;unfold collect;refine X0 (wpAny_runValue (codeAny_builtin F.entry_proto_collect ?_));rw[Around.under_plainId F.plain_proto_collect _];show wpAny _ A.in1 (newList [] >>= λl=>again (.builtin "list.__iadd__" ⟨[l,.ref a],[]⟩)) _ _ s;refine X0 (Xq ?_);refine X3 ⟨plainId_quiet F.plain_list_iadd _,codeAny_builtin F.entry_list_iadd ?_⟩;rw[Around.under_plainId F.plain_list_iadd _];have ib:(s.heap.push { cls:=.type "list",data:=.seq ([]:List Value).toArray }).get? a=some o:=X2 _ ho;have hT1:Shared.TypeIs { s with heap:=s.heap.push { cls:=.type "list",data:=.seq ([]:List Value).toArray } } (.ref a) "set":=⟨o,ib,hk.ex.1⟩;show wpAny _ A.in1 (Builtin.List.listExtendWith (.ref s.heap.objs.size) (.ref a) (.ref s.heap.objs.size)) _ _ _;unfold Builtin.List.listExtendWith;refine X0 (wpAny_typeOf hT1 ?_);have h1:Builtin.List.listSameRef (.ref s.heap.objs.size) (.ref a)=false:=by simp[Builtin.List.listSameRef];exact Nat.ne_of_gt jn
 have h2:(Value.type "set" == Value.type "list")=false:=by decide
 have h3:(Value.type "set" == Value.type "tuple")=false:=by decide
 simp only[h1,h2,h3,Bool.or_false,Bool.false_eq_true,if_false];refine X0 (vkd ib hk λh' d I fp cj St en hI hfp W st0 hv=>?_);refine X0 (Y1 (vkj ⟨o,en _ _ ib,hk.ex.1⟩ ?_));show wpAny _ A.in1 (PySem.rule "list.extend.makes-room" >>= λ_=>Builtin.List.listTouch (.ref s.heap.objs.size) >>= λ_=>
  again (.builtin "list.extend.loop" ⟨[.ref s.heap.objs.size,.ref I,.ref s.heap.objs.size],[]⟩)) _ _ _
 refine X0 (wpAny_rule ?_);have hsz:(s.heap.push { cls:=.type "list",data:=.seq ([]:List Value).toArray }).objs.size=s.heap.objs.size+1:=Heap.size_push ..;have hI':s.heap.objs.size+1<=I:=by rw[<-hsz];exact hI
 have mq:s.heap.objs.size∉fp:=λhm=>by
  rcases hfp _ hm with e|e
  ·exact absurd e (Nat.ne_of_gt jn)
  ·have e:s.heap.objs.size+1<=s.heap.objs.size:=by rw[<-hsz];exact e
   exact absurd e (Nat.not_succ_le_self _)
 have hS₁:h'.get? s.heap.objs.size=some { cls:=.type "list",data:=.seq ([]:List Value).toArray }:=en _ _ (Xd _ rfl);refine X0 ?_;show wpAny _ A.in1 (updateSeq s.heap.objs.size (·.push .none) >>= λ_=>updateSeq s.heap.objs.size (·.pop)) _ _ _;refine X0 (wpAny_updateSeq hS₁ rfl ?_);have hS₂:=Y0 (Obj.mapSeq (·.push Value.none)) hS₁ rfl;refine wpAny_updateSeq hS₂ rfl ?_;have hS₃:=Y0 (Obj.mapSeq (·.pop)) hS₂ rfl;have oth:∀b o,b≠s.heap.objs.size->h'.get? b=some o->((h'.update s.heap.objs.size (Obj.mapSeq (·.push Value.none))).update s.heap.objs.size (Obj.mapSeq (·.pop))).get? b=some o:=
  λb o hb e=>(Heap.get?_update_other _ _ (Ne.symm hb)).trans ((Heap.get?_update_other _ _ (Ne.symm hb)).trans e)
 have WW:=W A.in1 hh;have ax:cj.length=es.size:=by rw[hv.length_eq,X4,Xa]
 refine X3 ⟨plainId_quiet F.plain_extend_loop _,codeAny_extend_loopS WW.toS (fits_of_scanBound hk.b) _ mq _ es.size 0 _ _ _ rfl (Yt _) (WW.frame 0 h' _ st0 λb hb o e=>oth b o (λe'=>mq (e'▸hb)) e) hS₃ (ItemsOf.nil _) λs' f7 c' hm js jl=>?_⟩;show wpAny _ A (load s.heap.objs.size >>= _) _ _ s';refine X0 (wpAny_load js ?_);have hac:f7.toList=cj:=by
  apply List.ext_getElem?;intro j
  by_cases hj:j<es.size
  ·have hj1:j<f7.size:=by rw[jl.1];exact hj
   rw[Array.getElem?_toList,Array.getElem?_eq_getElem hj1];exact(jl.2 j _ (Array.getElem?_eq_getElem hj1)).symm
  ·rw[Yk (by rw[Xa,jl.1];omega),Yk (by omega)]
 refine X3 ?_;rw[hac,Moved.eq_with hm];refine h _ d _ cj (cj.map strOf) (λb o e=>?_) (Xb js) ?_ ?_
 ·have hb:b<s.heap.objs.size:=Xb e;have hbS:b≠s.heap.objs.size:=Xn hb;refine hm.heap b o (λhmem=>?_) (oth b o hbS (en b o (X2 _ e)));rcases List.mem_cons.mp hmem with e'|hmem
  ·exact hbS e'
  ·rw[List.mem_singleton.mp hmem]at hb;exact absurd hb (Nat.not_lt.mpr (Nat.le_of_succ_le hI'))
 ·exact jzu λv hvm=>by
   obtain⟨e,he,rfl⟩:=List.mem_map.mp (hv.mem_iff.mp hvm);exact qzh hk.el he
 ·refine((hv.map strOf).trans (.of_eq ?_)).trans hp;rw[Y3];rfl
end
section
variable {prog:Program}{w:World}{A:Around}{E:Value->Shared->Prop}{s:Shared}
theorem kzu{a:Addr}{ls:List Str}{Q:Value->Shared->Prop}(hh:A.handled=none)(hS:Has prog w s.heap a ls)(h64:ls.length<64)
  (h:∀(h':Heap) (d:Drawn) (tk l e:Nat) (out:Array Value) (ss:List Str),(∀b o,s.heap.get? b=some o->h'.get? b=some o)->s.heap.objs.size<=l->h'.get? l=some (seqObj "list" out e)->StrsAre out.toList ss->ss.Perm ls->sortedS ss=true->Q (.ref l) { s with heap:=h',drawn:=d,toks:=tk }):
  wpAny (model prog w) A (call (.builtin "sorted") [.ref a]) Q E s:=by
 refine Calls.call_function_entry kind_sorted plain_sorted entry_sorted (args_sorted1 _) ?_;unfold Builtin.«sorted»;refine X0 (m:=checkCount "sorted" 1 1 _) (X3 ?_);refine X0 (qjl (by simpa using hh) hS λh' d tk vs ss en hsz hv hp=>?_);have h64':vs.length<64:=by rw[kkp hv,hp.length_eq];exact h64
 refine X0 (wpAny_newList ?_ (hsz:=by rw[sizeLine_eq];omega));have mw:(h'.push (seqObj "list" vs.toArray 0)).get? h'.objs.size=some (seqObj "list" vs.toArray 0):=Xd _ rfl;refine X0 (Y1 (Yc slot_list_sort ⟨_,mw,rfl⟩ entry_list_sort (list_sort_treeK strKind_oneLt mw hv.keysOf (λv₁ v₂ jx e=>keyKind_strs (by rw[<-e];exact hv)) h64' λcz a1 a2=>⟨_,rfl,?_⟩) (args_list_sort _)));obtain⟨ss',h1,h2,h3⟩:=sorted_out_str hv a1 a2;obtain⟨e,he⟩:=sortedHeap_at (out:=(arrOf cz).map (·.2)) mw;refine X3 ⟨_,rfl,h _ d tk _ e _ ss' (λb o q=>?_) (Nat.le_of_lt hsz) he h1 (h2.trans hp) h3⟩;have hb:=Xb (en b o q);show(sortedHeap (h'.push (seqObj "list" vs.toArray 0)) h'.objs.size vs _).get? b=some o;rw[sortedHeap_old (Xn hb) (by rw[size_push'];exact Nat.lt_succ_of_lt hb)];exact X2 _ (en b o q)
end
end Sw
namespace Q
open PySem PySem.Spec PyProof.Rows L2 L3 Sw
section
variable {X:Cx}{Z:Fx0}{K:PySem.W.Frag}{q:Bool}{a:Ex}{e ea:Expr}{σ:L2.St}{H:Hp}{pos p p2 ip:Pos}{x y:Str}{pins:List (Addr×Obj)}{s:Shared}
theorem Inv.dr{d:Drawn}(I:L2.Inv X pins σ H s):L2.Inv X pins σ H { s with drawn:=d }:=⟨I.ok,I.os,I.bare,I.base,I.loc,I.cell,I.free,I.freeC,I.pin,I.hok,I.len⟩
noncomputable def wqb(X:Cx)(f:Value)(r:List Str->Hp->VK->Prop):Prop:=
 ∀(pins:List (Addr×Obj)) (s:Shared) (σ:L2.St) (H:Hp) (b:Addr) (ls:List Str) (Q:VK),L2.Inv X pins σ H s->Has X.prog X.w s.heap b ls->r ls H Q->wpAny (model X.prog X.w) X.A (call f [.ref b]) (EP X pins σ Q) X.xe s
noncomputable def vzy(K:PySem.W.Frag)(r:List Str->Hp->VK->Prop):List V->Hp->VK->Prop:=λxs H Q=>∃p ss,xs=[.ref p]/\SqL K H p (ss.map V.str)/\ss.length<4000/\r (dd ss) H Q
theorem vjq{id:String}{r:List Str->Hp->VK->Prop}{t:TE}(hc:X.calm=true)(hf:wqb X (.builtin id) r)(hg:Gl X x)(hm:X.mg x=none)(hv:bootBuiltins x=some (.builtin id))(hg2:Gl X "set")(hm2:X.mg "set"=none)(hv2:bootBuiltins "set"=some (.type "set"))
  (ha:PE X e t) (hn:autoParam (x≠"__name__") ŕ) (d8:autoParam ((x==("__debug__":Str))=false) ŕ) (hn2:autoParam (("set":Str)≠"__name__") ŕ) (hdb2:autoParam ((("set":Str)==("__debug__":Str))=false) ŕ)
  (he:autoParam (starEach [e] X.env=(false,eval e X.env)::starEach [] X.env) Ŕ):
  PE X (.Call (.Name x p) [.Call (.Name "set" p2) [e] [] ip] [] pos) (fun σ H Q=>t σ H λv H1=>vzy X.K r [v] H1 Q):=by
 intro pins s σ H Q I h;refine Yq (W3 I hg hm hv ?_ hn d8);refine PyProof.Rows.callWith_builtin1 ?_ rfl rfl;show wpAny _ _ (spliced ((false,eval (.Call (.Name "set" p2) [e] [] ip) X.env)::[])) _ _ s;refine Calls.spliced_cons ?_;refine Yq (W3 I hg2 hm2 hv2 ?_ hn2 hdb2);refine PyProof.Rows.callWith_type1 (thn (v5 ha wZ he ip pins s σ H (λvs H1=>vzy X.K r vs H1 Q) I ?_) λus s1 ⟨vs,H1,I1,r1,q1⟩=>?_) he rfl
 ·exact h
 obtain⟨b,ss,rfl,hq,hl,q⟩:=q1;obtain⟨u,rfl,rx⟩:=xw r1;cases rx;obtain⟨ag,r',pl,hz⟩:=I1.list hq;have ax:=r'.length;rw[X4]at ax hz;refine qxe (I1.ok.hd hc) pl.isList (by simpa using kk8 r') (by simp;unfold scanBound;omega) λh' tk hS en=>?_
 have I2:L2.Inv X pins σ H1 { s1 with heap:=h',toks:=tk }:=I1.kept λb u q=>en b u (Xb q) q
 exact Calls.spliced_nil (hf pins _ σ H1 _ (dd ss) Q I2 hS q)
theorem kzy(hc:X.calm=true):wqb X (.builtin "sorted") (λls H Q=>ls.length<64/\∀l,H l=none->Q (.ref l) (upd H l (.lst ((q9 ls).map V.str)))):=by
 intro pins s σ H b ls Q I hS h;refine kzu (I.ok.hd hc) hS h.1 λh' d tk l e out ss en hl hg h1 h2 h3=>?_
 have e1:=kxg h2 h3;subst e1;have hz:(q9 ls).length<=sizeLine:=by rw[(zw ls).length_eq,sizeLine_eq];omega
 refine⟨.ref l,_,Inv.dr (I.laid (t':=tk) (o:=.lst ((q9 ls).map V.str)) en hl ?_),rfl,h.2 l (I.hok.fresh hl)⟩;exact⟨by rw[X4];exact hz,out.toList,e,kqu h1,by simpa using hg⟩
end
section
variable {X:Cx}{Z:Fx0}{K:PySem.W.Frag}{q:Bool}{a:Ex}{e ea:Expr}{σ:L2.St}{H:Hp}{pos p p2 ip:Pos}{x y:Str}{pins:List (Addr×Obj)}{s:Shared}
theorem qzl{ss:List Str}{z:Str}(h:z∈ddS ss):z∈ss:=by
 have:∀(l av:List Str),z∈l.foldl (λl k=>if l.any (· == k)then l else l++[k]) av->z∈av\/z∈l:=by
  intro l
  induction l with
  | nil=>intro av h;exact .inl h
  | cons k l ih=>
   intro av h;rcases ih _ h with h|h
   ·dsimp only at h
    split at h
    ·exact .inl h
    ·rcases List.mem_append.mp h with h|h
     ·exact .inl h
     ·exact .inr (by rw[List.mem_singleton.mp h];exact X6)
   ·exact .inr (lc9 _ h)
 rcases this ss [] h with h|h
 ·cases h
 ·exact h
noncomputable def rSS(K:PySem.W.Frag):List V->Hp->VK->Prop:=vzy K λls H Q=>ls.length<64/\∀l,H l=none->Q (.ref l) (upd H l (.lst ((q9 ls).map V.str)))
theorem qjq:Ad1 K (λv H Q=>rSS K [v] H Q) KW:=by
 intro H x s Q ok hf k;unfold KW at hf;dsimp only at hf;cases hx:x.d with
 | lst ds=>
  rw[hx]at hf;dsimp only at hf;obtain⟨l,xs,bs,ev,q3,r3,_⟩:=items ok (.inl hx);have q3:LsR K H l xs:=by rcases q3 with⟨_,z⟩|⟨z,_⟩;exact z;rw[hx]at z;cases z
  cases hs:xv ds with
  | some ss=>
   rw[hs]at hf;dsimp only at hf
   split at hf
   ·rename_i hl;cases oq9 hf;obtain⟨e1,e2⟩:=jzn hs r3;subst e1;refine⟨l,ss,by rw[ev],z9 q3,by omega,Nat.lt_of_le_of_lt (dd_le ss) hl,λp hp=>?_⟩;exact k ⟨.rt,.lst _,.ref p,p::[]⟩ _ rfl rfl (K0 hp (kkw λz hz=>e2 z (qzl ((zw _).mem_iff.mp hz))) λb hb=>nomatch hb)
   ·cases hf
  |none=>rw[hs]at hf;cases hf
 |_=>rw[hx]at hf;cases hf
theorem kvd(hK:X.K=Z.K)(hc:X.calm=true)(ha:QV X Z q a ea)(hm:X.mg "sorted"=none)(hm2:X.mg "set"=none)(hg:autoParam (Gl X "sorted") Ŕ)(hg2:autoParam (Gl X "set") Ŕ)(he:autoParam (starEach [ea] X.env=(false,eval ea X.env)::starEach [] X.env) Ŕ):
  QE X Z q (cF1 KW a) (.Call (.Name "sorted" p) [.Call (.Name "set" p2) [ea] [] ip] [] pos):=
 qZ (vjq hc (kzy hc) hg hm rfl hg2 hm2 rfl ha (he:=he)) fun σ H Q h=>by
  have:=Q6 (r:=λv H Q=>rSS Z.K [v] H Q) qjq h;rw[hK];exact this
end
end Q
namespace Q
open PySem
def fUp:D->Option D
 |.str z=>if(Txt.upper z).length<=sizeLine then some (.str (Txt.upper z))else none
 |_=>none
end Q
namespace Q
open PySem PySem.Spec PyProof.Rows L2 L3
section
variable {X:Cx}{Z:Fx0}{K:PySem.W.Frag}{q:Bool}{a:Ex}{o:Expr}{be aw:Pos}
noncomputable def rUp:V->List V->Hp->VK->Prop:=λv vs H Q=>∃z:Str,v=.str z/\vs=[]/\(Txt.upper z).length<=sizeLine/\Q (.str (Txt.upper z)) H
theorem qx0:MtR X "str.upper" rUp:=by
 intro pins s σ H x xs v us Q I rx rv h;obtain⟨z,rfl,rfl,hz,q⟩:=h;obtain⟨t,rfl⟩:=rx;cases rv;exact SC.upper (by unfold Builtin.Str.tooLong;simp;exact hz) ⟨.str _,H,I.tok _,⟨_,rfl⟩,q⟩
theorem wkb:Ad1 K (λv H Q=>tyV K "str" v H/\rUp v [] H Q) (pu1 fUp):=by
 intro H x s Q ok hf k;unfold pu1 fUp at hf;dsimp only at hf;cases hx:x.d with
 | str z=>
  rw[hx]at hf;dsimp only at hf
  split at hf
  ·rename_i hz;cases oq9 hf;have ev:x.v=.str z:=(wK ok hx).1;refine⟨by rw[ev];rfl,z,ev,rfl,hz,?_⟩;exact k ⟨.dp,.str _,.str _,[]⟩ H rfl rfl (vza hz)
  ·cases hf
 |_=>rw[hx]at hf;cases hf
theorem vjb(ha:QV X Z q a o)(hK:autoParam (X.K=Z.K) Ŕ)(br:autoParam (attributeBase o "upper" X.env (eval o X.env)=eval o X.env) Ŕ)(c8:autoParam ((be.endLine==aw.line)=true) Ŕ):
  QE X Z q (cF1 (pu1 fUp) a) (.Call (.Attribute o "upper" be) [] [] aw):=
 qZ (vvz PySem.F.plainAttrs_str PySem.F.slot_str_upper PySem.F.type_str_upper qx0 ha br c8) fun σ H Q h=>by
  rw[hK];exact Q6 (r:=λv H Q=>tyV Z.K "str" v H/\rUp v [] H Q) wkb h
end
end Q
namespace Q
open PySem
noncomputable def out(f:Fn)(xs:List Sd):Option (Sd ⊕ Str):=match f xs with
 |some (.ok _ y)=>some (.inl y)
 |some (.exc _ c)=>some (.inr c)
 |none=>none
theorem vwf(n:Nat)(h:300<=n):(10:Nat) ^ 70<2 ^ n:=Xi (show(10:Nat) ^ 70<2 ^ 240 by decide) (Nat.pow_le_pow_right (by decide) (by omega))
theorem mul_l{o1 o2:Own}{a b:Int}(h1:-18446744073709551616<a)(h2:a<18446744073709551616):Wk (o1,.int a) (o2,.int b)=some (.dp,.int (a*b)):=by
 have:K4 a b=true:=by
  have:QQ a=true:=by unfold QQ;rw[Xj (show -(2 ^ 64)<a by omega),Xj (show a<2 ^ 64 by omega)];rfl
  unfold K4;rw[this];rfl
 show(if K4 a b=true then _ else _)=_;rw[Xe this]
theorem mul_r{o1 o2:Own}{a b:Int}(h1:-18446744073709551616<b)(h2:b<18446744073709551616):Wk (o1,.int a) (o2,.int b)=some (.dp,.int (a*b)):=by
 have:K4 a b=true:=by
  have:QQ b=true:=by unfold QQ;rw[Xj (show -(2 ^ 64)<b by omega),Xj (show b<2 ^ 64 by omega)];rfl
  unfold K4;rw[this,Bool.or_true];rfl
 show(if K4 a b=true then _ else _)=_;rw[Xe this]
theorem add_i{o1 o2:Own}{a b:Int}:jw (o1,.int a) (o2,.int b)=some (.dp,.int (a+b)):=rfl
theorem sub_i{a b:Int}:fSub (.int a) (.int b)=some (.int (a - b)):=rfl
theorem div_i{a b:Int}(h:0<b)(h2:b<10 ^ 70):kw (.int a) (.int b)=some (.int (a / b)):=by
 have hb:b.natAbs.log2<9000:=by
  exact(Nat.log2_lt (by omega)).mpr (Nat.lt_trans (show b.natAbs<10 ^ 70 by omega) (vwf 9000 (by decide)))
 show(if 0<b/\b.natAbs.log2<9000 then some (a / b)else none).map _=_;rw[Xe ⟨h,hb⟩];rfl
theorem mod_i{a b:Int}(h:0<b):jv (.int a) (.int b)=some (.int (a % b)):=by
 show(if 0<b then some (a % b)else none).map _=_;rw[Xe h];rfl
theorem J4{a b:Int}:fEq (.int a) (.int b)=some (.bl (a==b)):=rfl
theorem lt_ii{a b:Int}:fLt (.int a) (.int b)=some (.bl (decide (a<b))):=rfl
theorem gt_ii{a b:Int}:fGt (.int a) (.int b)=some (.bl (decide (b<a))):=rfl
theorem le_ii{a b:Int}:fLe (.int a) (.int b)=some (.bl (decide (a<=b))):=rfl
theorem ge_ii{a b:Int}:fGe (.int a) (.int b)=some (.bl (decide (b<=a))):=rfl
theorem v9{xs:List D}{i:Int}{d:D}(h0:0<=i)(h:xs[i.toNat]?=some d):jQ (.lst xs) (.int i)=some d:=by
 show((ixN xs.length i).bind λj=>xs[j]?)=some d;have hl:i.toNat<xs.length:=(List.getElem?_eq_some_iff.mp h).1;unfold ixN;rw[Xe h0,Xe (by omega)];exact h
theorem len_l{xs:List D}:v3 (.lst xs)=some (.int xs.length):=rfl
theorem len_t{xs:List D}:v3 (.tup xs)=some (.int xs.length):=rfl
theorem wx{o1 o2:Own}{a b:List D}(h1:o1≠.dp)(h2:o2≠.dp)(hl:a.length+b.length<10000):jw (o1,.lst a) (o2,.lst b)=some (.rt,.lst (a++b)):=by
 show(if a.length+b.length<=big/\qK (o1,.lst a)/\qK (o2,.lst b)then _ else _)=_;rw[Xe ⟨by unfold big;omega,by cases o1<;>simp_all [qK],by cases o2<;>simp_all [qK]⟩]
theorem XW{o:Own}{xs:List D}(h:o≠.dp):Jv (o,.lst xs)=some (.no,.tup xs):=by
 show(if qK (o,.lst xs)then _ else _)=_;rw[Xe (by cases o<;>simp_all [qK])]
abbrev XP:=Str->Prop
theorem nd{α:Sort _}{a b:α}(h:a=b):a=b:=h
@[irreducible] noncomputable def Eo {α:Type} (m:Option (Res α)) (P:En->α->Prop) (X:XP):Prop:=match m with
 |some (.ok E a)=>P E a
 |some (.exc _ c)=>X c
 |none=>False
@[irreducible] noncomputable def Vo {α:Type} (m:Option α) (P:α->Prop):Prop:=match m with
 |some a=>P a
 |none=>False
@[irreducible] noncomputable def Oo (f:Fn) (xs:List Sd) (P:Sd->Prop) (X:XP):Prop:=match f xs with
 |some (.ok _ y)=>P y
 |some (.exc _ c)=>X c
 |none=>False
@[irreducible] noncomputable def Po (r:Option Fl) (N C:En->Prop) (R:Sd->Prop) (X:XP):Prop:=match r with
 |some (.nx E)=>N E
 |some (.ct E)=>C E
 |some (.rt _ x)=>R x
 |some (.xc _ c)=>X c
 |_=>False
abbrev noX:XP:=λ_=>False
section
variable {α β:Type}{P:En->α->Prop}{X:XP}{N C:En->Prop}{R:Sd->Prop}{E:En}
theorem vxa{a:α}:Eo (some (.ok E a)) P X=P E a:=nd (by with_unfolding_all rfl)
theorem kK{m:Option (Res β)}{f:En->β->Option (Res α)}:Eo (bnd m f) P X=Eo m (λE a=>Eo (f E a) P X) X:=by
 cases m with
 |none=>with_unfolding_all rfl
 |some r=>cases r<;>with_unfolding_all rfl
theorem vo_some{a:α}{P:α->Prop}:Vo (some a) P=P a:=nd (by with_unfolding_all rfl)
theorem vo_map{x:Option β}{f:β->α}{P:α->Prop}:Vo (x.map f) P=Vo x (λa=>P (f a)):=by cases x<;>with_unfolding_all rfl
theorem J0{x:Option α}:Eo (val E x) P X=Vo x (P E):=by cases x<;>with_unfolding_all rfl
theorem wjb{E:En}:Po (some (.nx E)) N C R X=N E:=nd (by with_unfolding_all rfl)
theorem Jz{m:Option (Res α)}{f:En->α->Option Fl}:Po (ofE m f) N C R X=Eo m (λE a=>Po (f E a) N C R X) X:=by
 cases m with
 |none=>with_unfolding_all rfl
 |some r=>cases r<;>with_unfolding_all rfl
theorem vvm{a b:Sm}:Po (j7 a b E) N C R X=Po (a E) (λE=>Po (b E) N C R X) C R X:=by
 unfold j7 Po;cases a E with
 |none=>with_unfolding_all rfl
 |some r=>cases r<;>with_unfolding_all rfl
theorem vvn{x:Option β}{f:β->Fl}:Po (x.map f) N C R X=Vo x (λa=>Po (some (f a)) N C R X):=by cases x<;>with_unfolding_all rfl
theorem Eo.mono{m:Option (Res α)}{P':En->α->Prop}(h:Eo m P X)(k:∀E a,P E a->P' E a):Eo m P' X:=by
 cases m with
 |none=>with_unfolding_all exact h
 |some r=>cases r with
  |ok E a=>with_unfolding_all exact k E a h
  |exc E c=>with_unfolding_all exact h
theorem Oo.mono{f:Fn}{xs:List Sd}{P P':Sd->Prop}(h:Oo f xs P X)(k:∀y,P y->P' y):Oo f xs P' X:=by
 unfold Oo at h ⊢;cases hf:f xs with
 |none=>rw[hf]at h;with_unfolding_all exact h
 |some r=>rw[hf]at h;cases r with
  |ok E a=>with_unfolding_all exact k a h
  |exc E c=>with_unfolding_all exact h
theorem Oo.out{f:Fn}{xs:List Sd}{P:Sd->Prop}(h:Oo f xs P noX):∃E y,f xs=some (.ok E y)/\P y:=by
 unfold Oo at h;cases hf:f xs with
 |none=>rw[hf]at h;with_unfolding_all exact(show False from h).elim
 |some r=>rw[hf]at h;cases r with
  |ok E a=>with_unfolding_all exact⟨E,a,rfl,h⟩
  |exc E c=>with_unfolding_all exact(show False from h).elim
theorem qz{n:Nat}{b:Sm}{xs:List Sd}{P:Sd->Prop}(h:Po (b (xs.map some++List.replicate (n - xs.length) none)) (λ_=>P (.dp,.non)) (λ_=>False) P X):Oo (fn n b) xs P X:=by
 unfold Oo fn;unfold Po at h;cases hb:b (xs.map some++List.replicate (n - xs.length) none)with
 |none=>rw[hb]at h;with_unfolding_all exact h
 |some r=>rw[hb]at h;cases r<;>with_unfolding_all exact h
theorem vkm{f:Fn}{cs:List Ex}{P:En->Sd->Prop}:Eo (jJ f cs E) P X=Eo (vz cs E) (λE xs=>Oo f (letAll xs) (P E) X) X:=by
 unfold jJ;rw[kK]
 congr 1
 funext E xs;unfold Oo;cases f (letAll xs)with
 |none=>with_unfolding_all rfl
 |some r=>cases r<;>with_unfolding_all rfl
def vzf(d:D){α:Type}(a b:Option α):Option α:=match d with
 |.bl k=>if k=true then a else b
 |_=>none
theorem vkt(a b:Ex):ww a b E=bnd (a E) λE x=>vzf x.2 (b E) (some (.ok E (.dp,.bl false))):=by
 unfold ww vzf
 congr 1
 funext E x;cases x.2 with
 |bl k=>cases k<;>with_unfolding_all rfl
 |_=>with_unfolding_all rfl
theorem vxj(a b:Ex):cOr a b E=bnd (a E) λE x=>vzf x.2 (some (.ok E (.dp,.bl true))) (b E):=by
 unfold cOr vzf
 congr 1
 funext E x;cases x.2 with
 |bl k=>cases k<;>with_unfolding_all rfl
 |_=>with_unfolding_all rfl
theorem kwo{tg:Tg}{b:Sm}(I:En->List D->Prop)(hs:∀E d ds,I E (d::ds)->Vo (tg.put d E) λE1=>Po (b E1) (λE2=>I E2 ds) (λE2=>I E2 ds) R X)(h1:∀E,I E []->N E):∀ds E,I E ds->Po (JK tg b ds E) N C R X
 | [],E,h=>by with_unfolding_all exact h1 E h
 | d::ds,E,h=>by
  have h2:=hs E d ds h;unfold JK;cases hp:tg.put d E with
  | none=>rw[hp]at h2;with_unfolding_all exact(show False from h2).elim
  | some E1=>
   rw[hp]at h2;have h2:Po (b E1) (λE2=>I E2 ds) (λE2=>I E2 ds) R X:=by with_unfolding_all exact h2
   dsimp only;cases hb:b E1 with
   |none=>rw[hb]at h2;with_unfolding_all exact(show False from h2).elim
   |some r=>
    rw[hb]at h2;cases r with
    |nx E2=>with_unfolding_all exact kwo I hs h1 ds E2 h2
    |ct E2=>with_unfolding_all exact kwo I hs h1 ds E2 h2
    |rt E2 x=>with_unfolding_all exact h2
    |xc E2 c=>with_unfolding_all exact h2
    |bk E2=>with_unfolding_all exact(show False from h2).elim
theorem qkr{it:Ev (List D)}{tg:Tg}{b:Sm}(I:En->List D->Prop)(h0:Eo (it E) I X)(hs:∀E d ds,I E (d::ds)->Vo (tg.put d E) λE1=>Po (b E1) (λE2=>I E2 ds) (λE2=>I E2 ds) R X)(h1:∀E,I E []->N E):Po (wX it tg b E) N C R X:=by
 show Po (ofE (it E) λE ds=>JK tg b ds E) N C R X;rw[Jz]
 with_unfolding_all exact h0.mono λE ds h=>kwo I hs h1 ds E h
theorem qv8{tg:Tg}{t:Ts}{c:Ex}{P:En->List Sd->Prop}(J:En->List D->List Sd->Prop)(hs:∀B d ds av,J B (d::ds) av->Vo (tg.put d B) λB1=>Eo (t B1) (λB2 k=>if k=true then Eo (c B2) (λB3 y=>J B3 ds (av++[y])) X else J B2 ds av) X)(h1:∀B av,J B [] av->P B av):∀ds B av,J B ds av->Eo (lcL tg t c ds B av) P X
 | [],B,av,h=>by with_unfolding_all exact h1 B av h
 | d::ds,B,av,h=>by
  have h2:=hs B d ds av h;unfold lcL;cases hp:tg.put d B with
  | none=>rw[hp]at h2;with_unfolding_all exact(show False from h2).elim
  | some B1=>
   rw[hp]at h2;have h2:Eo (t B1) (λB2 k=>if k=true then Eo (c B2) (λB3 y=>J B3 ds (av++[y])) X else J B2 ds av) X:=by with_unfolding_all exact h2
   dsimp only;rw[kK];refine h2.mono λB2 k h3=>?_
   cases k with
   |false=>with_unfolding_all exact qv8 J hs h1 ds B2 av h3
   |true=>
    show Eo (bnd (c B2) _) P X;rw[kK]
    with_unfolding_all exact Eo.mono (P:=λB3 y=>J B3 ds (av++[y])) h3 λB3 y h4=>qv8 J hs h1 ds B3 _ h4
theorem vxb{o:Own}{k:Nat}{r:List Nat}{it:Ev (List D)}{tg:Tg}{t:Ts}{c:Ex}{P:En->Sd->Prop}(J:En->En->List D->List Sd->Prop)(h0:Eo (it E) (λE1 ds=>J E1 (V7 k r E1) ds []) X)
  (hs:∀E1 B d ds av,J E1 B (d::ds) av->Vo (tg.put d B) λB1=>Eo (t B1) (λB2 k=>if k=true then Eo (c B2) (λB3 y=>J E1 B3 ds (av++[y])) X else J E1 B2 ds av) X) (h1:∀E1 B av,J E1 B [] av->Eo (mkL o (V3 k r B E1) av) P X):Eo (cLC o k r it tg t c E) P X:=by
 unfold cLC;rw[kK];refine h0.mono λE1 ds hJ=>?_
 have:=qv8 (P:=λB av=>Eo (mkL o (V3 k r B E1) av) P X) (J E1) (hs E1) (h1 E1) ds _ _ hJ;cases hl:lcL tg t c ds (V7 k r E1) []with
 |none=>rw[hl]at this;with_unfolding_all exact(show False from this).elim
 |some q=>rw[hl]at this;cases q<;>with_unfolding_all exact this
end
theorem mulT_i{o1:Own}{a:Int}{y:Sd}:qY (o1,.int a) y=Wk (o1,.int a) y:=by
 unfold qY;with_unfolding_all rfl
def sl(q:Option (Option Sd)):Option Sd:=match q with
 |some (some x)=>some x
 |_=>none
theorem sl_some{x:Sd}:sl (some (some x))=some x:=nd (by with_unfolding_all rfl)
def vze(d:D)(a b:Prop):Prop:=match d with
 |.bl k=>if k=true then a else b
 |_=>False
theorem andP_bl{k:Bool}{a b:Prop}:vze (.bl k) a b=if k=true then a else b:=nd (by with_unfolding_all rfl)
def Wo{α:Type}(m:Option α)(E:En)(P:En->α->Prop):Prop:=Vo m (P E)
theorem wo_some{α:Type}{a:α}{E:En}{P:En->α->Prop}:Wo (some a) E P=P E a:=by unfold Wo;exact vo_some
theorem wo_map{α β:Type}{x:Option β}{f:β->α}{E:En}{P:En->α->Prop}:Wo (x.map f) E P=Wo x E (λE a=>P E (f a)):=by unfold Wo;exact vo_map
def Oe(f:Fn)(xs:List Sd)(E:En)(P:En->Sd->Prop)(X:XP):Prop:=Oo f xs (P E) X
def intP(d:D)(P:Int->Prop):Prop:=match d with
 |.int i=>P i
 |_=>False
def Ie(d:D)(E:En)(P:En->Int->Prop):Prop:=intP d (P E)
theorem ie_i{i:Int}{E:En}{P:En->Int->Prop}:Ie (.int i) E P=P E i:=nd (by with_unfolding_all rfl)
section
variable {P:En->Sd->Prop}{T:En->Bool->Prop}{X:XP}{N C:En->Prop}{R:Sd->Prop}{E:En}{e:Option Sd}{a b c:Ex}{t u:Ts}{i:Nat}
theorem w_seq{a b:Sm}:Po (j7 a b (e::E)) N C R X=Po (a (e::E)) (λE=>Po (b E) N C R X) C R X:=vvm
theorem w_asg:Po (jk i c (e::E)) N C R X=Eo (c (e::E)) (λE x=>N (E.set i (some x))) X:=by unfold jk;rw[Jz];with_unfolding_all rfl
theorem w_ret:Po (jK c (e::E)) N C R X=Eo (c (e::E)) (λ_ x=>R x) X:=by unfold jK;rw[Jz];with_unfolding_all rfl
theorem w_pass:Po (qQ (e::E)) N C R X=N (e::E):=nd (by with_unfolding_all rfl)
theorem w_if{a b:Sm}:Po (sIf t a b (e::E)) N C R X=Eo (t (e::E)) (λE k=>if k=true then Po (a E) N C R X else Po (b E) N C R X) X:=by
 unfold sIf;rw[Jz];congr 1;funext E k;cases k<;>with_unfolding_all rfl
theorem w_tup{is:List Nat}:Po (Qv is c (e::E)) N C R X=Eo (c (e::E)) (λE x=>Vo (Tg.put (.t is) x.2 E) N) X:=by
 unfold Qv;rw[Jz];congr 1;funext E x;rw[vvn];with_unfolding_all rfl
theorem w_fz{s:Sm}:Po (sFz i s (e::E)) N C R X=Po (s (Vx i (e::E))) N C R X:=nd (by with_unfolding_all rfl)
theorem w_vV:Eo (vV i (e::E)) P X=Wo (sl (e::E)[i]?) (e::E) P:=by
 unfold vV Wo;cases(e::E)[i]? with
 |none=>with_unfolding_all rfl
 |some q=>cases q<;>with_unfolding_all rfl
theorem w_cV:Eo (cV i (e::E)) P X=Wo (sl (e::E)[i]?) (e::E) (λE x=>P (E.set i (some (.no,x.2))) (.no,x.2)):=by
 unfold cV Wo;cases(e::E)[i]? with
 |none=>with_unfolding_all rfl
 |some q=>cases q<;>with_unfolding_all rfl
theorem w_cMv:Eo (cMv i (e::E)) P X=Wo (sl (e::E)[i]?) (e::E) (λE x=>P (E.set i none) x):=by
 unfold cMv Wo;cases(e::E)[i]? with
 |none=>with_unfolding_all rfl
 |some q=>cases q<;>with_unfolding_all rfl
theorem w_cC{d:D}:Eo (cC d (e::E)) P X=P (e::E) (.dp,d):=nd (by with_unfolding_all rfl)
theorem w_vE:Eo (vE c (e::E)) P X=Eo (c (e::E)) (λE x=>P E (.no,x.2)) X:=by unfold vE;rw[kK];with_unfolding_all rfl
theorem w_cH:Eo (cH c (e::E)) P X=Eo (c (e::E)) (λE x=>if x.1=.no then P E (.no,x.2)else if x.2.pure=true then P E (.dp,x.2)else False) X:=by
 unfold cH;rw[kK]
 congr 1
 funext E x
 by_cases h:x.1=.no
 ·rw[Xe h,Xe h];with_unfolding_all rfl
 ·rw[Xl h,Xl h]
  by_cases h2:x.2.pure=true
  ·rw[Xe h2,Xe h2];with_unfolding_all rfl
  ·rw[Xl h2,Xl h2];with_unfolding_all rfl
theorem w_f1{f:Sd->Option Sd}:Eo (cF1 f a (e::E)) P X=Eo (a (e::E)) (λE x=>Wo (f x) E P) X:=by
 unfold cF1;rw[kK];congr 1;funext E x;exact J0
theorem w_f2{f:Sd->Sd->Option Sd}:Eo (cF2 f a b (e::E)) P X=Eo (a (e::E)) (λE x=>Eo (b E) (λE y=>Wo (f x y) E P) X) X:=by
 unfold cF2;rw[kK];congr 1;funext E x;rw[kK];congr 1;funext E y;exact J0
theorem w_ix:Eo (j9 a b (e::E)) P X=Eo (a (e::E)) (λE x=>Eo (b E) (λE y=>Wo (jQ x.2 y.2) E (λE d=>P E (sub x.1,d))) X) X:=by
 unfold j9;rw[kK];congr 1;funext E x;rw[kK];congr 1;funext E y;rw[J0];exact vo_map
theorem w_tE:Eo (tE c (e::E)) T X=Eo (c (e::E)) (λE x=>Wo (truth x.2) E T) X:=by
 unfold tE;rw[kK];congr 1;funext E x;exact J0
theorem w_tEQ:Eo (tEQ c (e::E)) T X=Eo (c (e::E)) (λE x=>Wo (truthQ x.2) E T) X:=by
 unfold tEQ;rw[kK];congr 1;funext E x;exact J0
theorem w_tNot:Eo (tNot t (e::E)) T X=Eo (t (e::E)) (λE k=>T E (!k)) X:=by unfold tNot;rw[kK];with_unfolding_all rfl
theorem w_tAnd:Eo (tAnd t u (e::E)) T X=Eo (t (e::E)) (λE k=>if k=true then Eo (u E) T X else T E false) X:=by
 unfold tAnd;rw[kK];congr 1;funext E k;cases k<;>with_unfolding_all rfl
theorem w_tOr:Eo (tOr t u (e::E)) T X=Eo (t (e::E)) (λE k=>if k=true then T E true else Eo (u E) T X) X:=by
 unfold tOr;rw[kK];congr 1;funext E k;cases k<;>with_unfolding_all rfl
theorem w_tYes:Eo (tYes (e::E)) T X=T (e::E) true:=nd (by with_unfolding_all rfl)
theorem w_cAnd:Eo (ww a b (e::E)) P X=Eo (a (e::E)) (λE x=>vze x.2 (Eo (b E) P X) (P E (.dp,.bl false))) X:=by
 rw[vkt,kK];congr 1;funext E x;cases x.2 with
 |bl k=>cases k<;>with_unfolding_all rfl
 |_=>with_unfolding_all rfl
theorem w_cOr:Eo (cOr a b (e::E)) P X=Eo (a (e::E)) (λE x=>vze x.2 (P E (.dp,.bl true)) (Eo (b E) P X)) X:=by
 rw[vxj,kK];congr 1;funext E x;cases x.2 with
 |bl k=>cases k<;>with_unfolding_all rfl
 |_=>with_unfolding_all rfl
theorem w_cNotQ:Eo (Vv c (e::E)) P X=Eo (c (e::E)) (λE x=>Wo (truthQ x.2) E (λE k=>P E (.dp,.bl (!k)))) X:=by
 unfold Vv;rw[kK];congr 1;funext E x;rw[J0];exact vo_map
theorem w_call{f:Fn}{cs:List Ex}:Eo (jJ f cs (e::E)) P X=Eo (vz cs (e::E)) (λE xs=>Oe f (letAll xs) E P X) X:=by with_unfolding_all exact vkm
theorem w_partN{P:En->Option Int->Prop}:Eo (V2 none (e::E)) P X=P (e::E) none:=nd (by with_unfolding_all rfl)
theorem w_partS{P:En->Option Int->Prop}:Eo (V2 (some c) (e::E)) P X=Eo (c (e::E)) (λE x=>Ie x.2 E (λE i=>P E (some i))) X:=by
 show Eo (bnd (c (e::E)) _) P X=_;rw[kK];congr 1;funext E x;unfold Ie;cases x.2<;>with_unfolding_all rfl
theorem w_sl{lo hi:Option Ex}:Eo (cSl a lo hi (e::E)) P X=Eo (a (e::E)) (λE x=>Eo (V2 lo E) (λE l=>Eo (V2 hi E) (λE h=>Wo (fSl x l h) E P) X) X) X:=by
 unfold cSl;rw[kK];congr 1;funext E x;rw[kK];congr 1;funext E l;rw[kK];congr 1;funext E h;exact J0
theorem w_itS{P:En->List D->Prop}:Eo (itS c (e::E)) P X=Eo (c (e::E)) (λE x=>Wo (seqOf x.2) E P) X:=by
 unfold itS;rw[kK]
 congr 1
 funext E x;exact J0
end
theorem args_nil{e:Option Sd}{E:En}{P:En->List Sd->Prop}{X:XP}:Eo (vz [] (e::E)) P X=P (e::E) []:=nd (by with_unfolding_all rfl)
theorem args_cons{e:Option Sd}{E:En}{c:Ex}{cs:List Ex}{P:En->List Sd->Prop}{X:XP}:Eo (vz (c::cs) (e::E)) P X=Eo (c (e::E)) (λE x=>Eo (vz cs E) (λE xs=>P E (x::xs)) X) X:=by
 show Eo (bnd (c (e::E)) λE x=>bnd (vz cs E) λE xs=>some (.ok E (x::xs))) P X=_;rw[kK]
 congr 1
 funext E x;rw[kK]
 with_unfolding_all rfl
theorem eo_tup{e:Option Sd}{E:En}{cs:List Ex}{P:En->Sd->Prop}{X:XP}:Eo (jz .no cs (e::E)) P X=Eo (vz cs (e::E)) (λE xs=>P E (.no,.tup (xs.map (·.2)))) X:=by
 unfold jz;rw[kK]
 with_unfolding_all rfl
theorem eo_lst{e:Option Sd}{E:En}{cs:List Ex}{P:En->Sd->Prop}{X:XP}:Eo (jV .rt cs (e::E)) P X=Eo (vz cs (e::E)) (λE xs=>P E (.rt,.lst (xs.map (·.2)))) X:=by
 unfold jV;rw[kK]
 with_unfolding_all rfl
theorem JV{c:Ex}{E:En}{P:En->List D->Prop}{X:XP}(h:Eo (c E) (λE x=>∃n:Int,x.2=.int n/\n<=1000/\-1000<=n/\P E (k7 0 n)) X):Eo (kY c E) P X:=by
 unfold kY;rw[kK];refine h.mono ?_;rintro E ⟨o,d⟩ ⟨n,rfl,h1,h2,h3⟩;have:zQ n=true:=by unfold zQ;rw[Xj (by omega),Xj (by omega)];with_unfolding_all rfl
 show Eo (if zQ n=true/\n.toNat<=big then _ else _) P X;rw[Xe ⟨this,by unfold big;omega⟩]
 with_unfolding_all exact h3
theorem vxo{i:Nat}{c:Ex}{E:En}{o:Own}{xs:List D}{N C:En->Prop}{R:Sd->Prop}{X:XP}(h0:E[i]?=some (some (o,.lst xs)))
  (h:Eo (c E) (λE1 x=>∃o ys,E1[i]?=some (some (o,.lst ys))/\o≠.no/\ys.length<10000/\N (E1.set i (some (if o=.dp/\vK x then .dp else .rt,.lst (ys++[x.2]))))) X):Po (xz xV i c E) N C R X:=by
 unfold xz;rw[h0,Xe (show J3 (some (some (o,.lst xs)))=true from rfl),Jz];refine h.mono ?_;rintro E1 x ⟨o,ys,h1,h2,h3,h4⟩;rw[h1];dsimp only;have hg:xV ys x.2=some (ys++[x.2]):=by unfold xV;rw[Xe (by unfold big;omega)]
 rw[Xl h2,hg]
 with_unfolding_all exact h4
theorem vxn{i:Nat}{c:Ex}{E:En}{xs:List D}{N C:En->Prop}{R:Sd->Prop}{X:XP}(h0:E[i]?=some (some (.rt,.lst xs)))
  (h:Eo (c E) (λE1 x=>∃ys,E1[i]?=some (some (.rt,.lst ys))/\ys.length<10000/\N (E1.set i (some (.rt,.lst (ys++[x.2]))))) X):Po (xz xV i c E) N C R X:=
 vxo h0 (h.mono λE1 x ⟨ys,h1,h2,h3⟩=>⟨.rt,ys,h1,by decide,h2,by rw[Xl (by rintro ⟨z,_⟩;cases z)];with_unfolding_all exact h3⟩)
theorem rng_ok{n:Int}(h1:-1000<=n)(h2:n<=1000):(zQ n=true/\n.toNat<=big)=True:=by
 have:zQ n=true:=by unfold zQ;rw[Xj (by omega),Xj (by omega)];with_unfolding_all rfl
 with_unfolding_all exact eq_true ⟨this,by unfold big;omega⟩
theorem qv7{α:Type}{p:Prop}[Decidable p]{a:Option (Res α)}{P:En->α->Prop}{X:XP}:Eo (if p then a else none) P X=(p/\Eo a P X):=by
 by_cases h:p
 ·rw[Xe h];with_unfolding_all exact propext ⟨λz=>⟨h,z⟩,λz=>z.2⟩
 ·rw[Xl h];with_unfolding_all exact propext ⟨λz=>z.elim,λz=>h z.1⟩
theorem w_R1{c:Ex}{e:Option Sd}{E:En}{P:En->List D->Prop}{X:XP}:Eo (kY c (e::E)) P X=Eo (c (e::E)) (λE x=>Ie x.2 E λE n=>(zQ n=true/\n.toNat<=big)/\P E (k7 0 n)) X:=by
 unfold kY;rw[kK];congr 1;funext E x;cases x.2 with
 |int n=>with_unfolding_all exact qv7
 |_=>with_unfolding_all rfl
theorem qkz{i:Nat}{j c:Ex}{E:En}{xs:List D}{N C:En->Prop}{R:Sd->Prop}{X:XP}(h0:E[i]?=some (some (.dp,.lst xs)))
  (h:Eo (j E) (λE1 y=>∃(n:Int) (ys:List D),y.2=.int n/\0<=n/\E1[i]?=some (some (.dp,.lst xs))/\xs[n.toNat]?=some (.lst ys)/\ys.length<10000/\Eo (c E1) (λE2 x=>E2[i]?=some (some (.dp,.lst xs))/\vK x=true/\N (E2.set i (some (.dp,.lst (xs.set n.toNat (.lst (ys++[x.2]))))))) X) X):Po (K8 i j c E) N C R X:=by
 unfold K8;rw[h0,Xe (show wjo (some (some (Own.dp,D.lst xs)))=true from rfl),Jz];refine h.mono ?_;rintro E1 ⟨o,d⟩ ⟨n,ys,rfl,hn,h1,h2,h3,h4⟩;have hl:n.toNat<xs.length:=(List.getElem?_eq_some_iff.mp h2).1;have hx:ixN xs.length n=some n.toNat:=by unfold ixN;rw[Xe hn,Xe (by omega)]
 rw[h1];dsimp only;rw[hx];dsimp only;rw[h2];dsimp only;rw[Jz];refine h4.mono ?_;rintro E2 x ⟨g1,g2,g3⟩;rw[g1];dsimp only;rw[h2];dsimp only;rw[Xe ⟨g2,by unfold big;omega⟩]
 with_unfolding_all exact g3
theorem lst_dp0{e:Option Sd}{E:En}{P:En->Sd->Prop}{X:XP}:Eo (jV .dp [] (e::E)) P X=P (e::E) (.dp,.lst []):=nd (by with_unfolding_all rfl)
theorem vwe{E:En}{ys:List Sd}{P:En->Sd->Prop}{X:XP}(h:ys.all vK=true):Eo (mkL .dp E ys) P X=P E (.dp,.lst (ys.map (·.2))):=by
 unfold mkL;rw[Xe rfl,Xe h];with_unfolding_all rfl
theorem Vk{o:Own}{xs:List D}{lo hi:Option Int}(h:o≠.dp):fSl (o,.lst xs) lo hi=some (.rt,.lst (qk xs lo hi)):=by
 show(if qK (o,.lst xs)then _ else _)=_;rw[Xe (by cases o<;>simp_all [qK])]
theorem kqj{xs:List D}{lo hi:Option Int}{d:D}(h:d∈qk xs lo hi):d∈xs:=List.mem_of_mem_drop (List.mem_of_mem_take h)
theorem wjt{i:Nat}{E:En}{o:Own}{d:D}(h:E[i]?=some (some (o,d))):Vx i E=E.set i (some (.no,d)):=by unfold Vx;rw[h]
theorem sub_no:sub .no=.no:=nd (by with_unfolding_all rfl)
theorem sub_rt:sub .rt=.no:=nd (by with_unfolding_all rfl)
theorem sub_dp:sub .dp=.dp:=nd (by with_unfolding_all rfl)
theorem Oo.use{ι:Sort _}{f:Fn}{xs:List Sd}{g:ι->Sd}{S:ι->Prop}{E:En}{P:En->Sd->Prop}{X:XP}(h:Oo f xs (λy=>∃i,y=g i/\S i) X)(k:∀i,S i->P E (g i)):Oe f xs E P X:=h.mono λy ⟨i,e,s⟩=>e▸k i s
theorem Oo.via{f:Fn}{xs:List Sd}{S:Sd->Prop}{E:En}{P:En->Sd->Prop}{X:XP}(h:Oo f xs S X)(k:∀y,S y->P E y):Oe f xs E P X:=h.mono k
theorem vx{E:En}{ys:List Sd}{P:En->Sd->Prop}{X:XP}:Eo (mkL .rt E ys) P X=P E (.rt,.lst (ys.map (·.2))):=nd (by with_unfolding_all rfl)
theorem w_chain{f g:D->D->Option D}{a b c:Ex}{e:Option Sd}{E:En}{P:En->Sd->Prop}{X:XP}:Eo (zW f g a b c (e::E)) P X=Eo (a (e::E)) (λE x=>Eo (b E) (λE y=>Wo (f x.2 y.2) E λE d=>vze d (Eo (c E) (λE z=>Wo (g y.2 z.2) E λE d=>P E (.dp,d)) X) (P E (.dp,.bl false))) X) X:=by
 unfold zW;rw [kK]
 congr 1
 funext E x;rw [kK]
 congr 1
 funext E y;cases f x.2 y.2 with
 | none=>with_unfolding_all rfl
 | some d=>
  rw[wo_some];cases d with
  | bl k=>
   rw[andP_bl];cases k with
   |false=>with_unfolding_all rfl
   |true=>
    rw[Xe rfl];dsimp only;rw[kK]
    congr 1
    funext E z;rw[J0];exact vo_map
  |_=>with_unfolding_all rfl
theorem w_rz{c:Str}{e:Option Sd}{E:En}{N C:En->Prop}{R:Sd->Prop}{X:XP}:Po (sRz c (e::E)) N C R X=X c:=nd (by with_unfolding_all rfl)
def Ox(f:Fn)(xs:List Sd)(E:En)(P:En->Sd->Prop)(Y:En->Str->Prop):Prop:=Oo f xs (P E) (Y E)
theorem Oo.ox{f:Fn}{xs:List Sd}{S:Sd->Prop}{W:XP}{E:En}{P:En->Sd->Prop}{Y:En->Str->Prop}(h:Oo f xs S W)(k:∀y,S y->P E y)(l:∀c,W c->Y E c):Ox f xs E P Y:=by
 unfold Ox Oo at *;cases hf:f xs with
 |none=>rw[hf]at h;with_unfolding_all exact h
 |some r=>rw[hf]at h;cases r with
  |ok E a=>with_unfolding_all exact k a h
  |exc E c=>with_unfolding_all exact l c h
theorem vvo{i:Nat}{m:Option Fl}{N C:En->Prop}{R:Sd->Prop}{X:XP}:Po (qxt i m) N C R X=Po m (λE=>N (E.set i none)) (λE=>C (E.set i none)) R noX:=by
 cases m with
 |none=>with_unfolding_all rfl
 |some r=>cases r<;>with_unfolding_all rfl
theorem w_tryE{cs:List Str}{i:Nat}{f:Fn}{as:List Ex}{h:Sm}{e:Option Sd}{E:En}{N C:En->Prop}{R:Sd->Prop}{X:XP}:Po (Kj cs i (qwg (W6 f as)) h (e::E)) N C R X =
  Eo (vz as (e::E)) (λE xs=>Ox f (letAll xs) E (λE _=>N E) (λE c=>c∈cs/\Po (h (E.set i (some (.no,.obj c [])))) (λE=>N (E.set i none)) (λE=>C (E.set i none)) R noX)) noX:=by
 unfold Kj qwg W6;cases vz as (e::E)with
 | none=>with_unfolding_all rfl
 | some r=>
  cases r with
  | exc E1 c=>with_unfolding_all rfl
  | ok E1 xs=>
   rw [vxa];unfold Ox Oo;dsimp only;cases f (letAll xs)with
   | none=>with_unfolding_all rfl
   | some r=>
    cases r with
    | ok E2 y=>with_unfolding_all rfl
    | exc E2 c=>
     dsimp only[ofE]
     by_cases hc:c∈cs
     ·rw[Xe hc,vvo]
      with_unfolding_all exact propext ⟨λz=>⟨hc,z⟩,λz=>z.2⟩
     ·rw[Xl hc]
      with_unfolding_all exact propext ⟨λz=>(show False from z).elim,λz=>absurd z.1 hc⟩
theorem qzc{t:List (Str×Bool)}{c:Str}{k:Bool}{fs:List (Str×D)}(h:t.lookup c=some k):xk t (.obj c fs)=some (.bl k):=by unfold xk;dsimp only;rw[h];rfl
theorem Oo.any{f:Fn}{xs:List Sd}{P:Sd->Prop}{X:XP}(h:Oo f xs P noX):Oo f xs P X:=by
 unfold Oo at *;cases hf:f xs with
 |none=>rw[hf]at h;with_unfolding_all exact h
 |some r=>rw[hf]at h;cases r with
  |ok E a=>with_unfolding_all exact h
  |exc E c=>with_unfolding_all exact(show False from h).elim
section
variable {a b c kc vc:Ex}{e:Option Sd}{E:En}{X:XP}{N C:En->Prop}{R:Sd->Prop}{P:En->Sd->Prop}
theorem vq8{z:Str}:Eo (YZ z c (e::E)) P X=Eo (c (e::E)) (λE x=>Wo (XV z x.2) E (λE d=>P E (.dp,d))) X:=by
 unfold YZ;rw[kK];congr 1;funext E x;rw[J0];exact vo_map
theorem qz2{i:Nat}(h:Eo (vc E) (λE1 v=>J3 E1[i]?=true/\Eo (kc E1) (λE2 k=>∃(o:Own) (xs:List D) (j:Int) (n:Nat),E2[i]?=some (some (o,.lst xs))/\o≠.no/\k.2=.int j/\ixN xs.length j=some n/\N (E2.set i (some (.rt,.lst (xs.set n v.2))))) X) X):Po (YJ i kc vc E) N C R X:=by
 unfold YJ;rw[Jz];refine h.mono ?_;rintro E1 v ⟨e1,h1⟩;rw[Xe e1,Jz];refine h1.mono ?_;rintro E2 k ⟨o,xs,j,n,e2,ho,hk,hn,h4⟩;rw[e2,hk];dsimp only;rw[Xl ho,hn];dsimp only;rw[wjb];exact h4
end
section
variable {a b c kc vc:Ex}{e:Option Sd}{E:En}{X:XP}{N C:En->Prop}{R:Sd->Prop}{P:En->Sd->Prop}
theorem vq9:Eo (qxj a b (e::E)) P X=Eo (a (e::E)) (λE x=>kz5 x.2=true/\Eo (b E) (λE y=>Wo (Zz x.2 y.2) E (λE d=>P E (.dp,d))) X) X:=by
 unfold qxj;rw[kK];congr 1;funext E x;rw[qv7];congr 1;rw[kK];congr 1;funext E y;rw[J0];exact vo_map
end
end Q
namespace C
open PySem Q
noncomputable def jvv:Fn:=fn 4
  (j7 (jk 2 (jV .rt []))
  (j7 (wX (itS (cV 1)) (.n 3) (j7 (xz xV 2 (cF2 (pu2 jv) (vV 0) (vV 3)))
  (jk 0 (cF2 (pu2 kw) (vV 0) (vV 3)))))
  (jK (cMv 2))))
noncomputable def Q5:Fn:=fn 11
  (j7 (jk 2 (cC (.str "abcdefghijklmnopqrstuvwxyz")))
  (j7 (Qv [3,4,5] (jJ jvv [(cV 0),(jV .rt [(cC (.int 8)),(cC (.int 840)),(cC (.int 8))])]))
  (j7 (jk 4 (cF2 (pu2 jv) (vV 4) (vE (cF2 jw (vV 3) (C9 1)))))
  (j7 (jk 6 (jV .rt []))
  (j7 (wX (kY (vV 1)) (.n 7) (j7 (jk 8 (cC (.str "")))
  (j7 (wX (kY (vE (cF2 jw (vV 3) (C9 1)))) (.n 9) (j7 (jk 10 (cF2 jw (vE (cF2 (pu2 kw) (vV 0) (vE (cF2 jw (C9 53761) (vE (cF2 qY (vE (cF2 qY (C9 26) (vV 9))) (vV 9))))))) (vE (cF2 qY (vE (cF2 qY (vV 7) (vE (cF2 jw (vV 5) (C9 1))))) (vE (cF1 (pu1 W7) (vE (cF2 (pu2 fEq) (vV 9) (vV 4)))))))))
  (jk 8 (cF2 jw (vV 8) (j9 (vV 2) (vE (cF2 (pu2 jv) (vV 10) (C9 26))))))))
  (xz xV 6 (cV 8)))))
  (jK (cF1 VW (vV 6))))))))
noncomputable def VZ(dr:Fn):Fn:=fn 15
  (j7 (jk 3 (jJ jvv [(jJ dr [(cV 0),(cV 1)]),(cF2 jw (vE (cF2 jw (vE (jV .rt [(cC (.int 4)),(cC (.int 8)),(cC (.int 12))])) (vE (cF2 qY (vE (jV .rt [(cC (.int 12))])) (C9 4))))) (vE (cF2 qY (vE (jV .rt [(cC (.int 2))])) (C9 4))))]))
  (j7 (jk 4 (cF2 jw (C9 1) (j9 (vV 3) (C9 0))))
  (j7 (jk 5 (cLC .rt 1 [3] (kY (vV 4)) (.n 0) tYes (cF2 (pu2 jv) (j9 (vV 1) (vE (cF2 jw (C9 3) (vV 0)))) (vE (cF2 jw (C9 3) (vE (cF1 (pu1 W7) (vE (cF2 (pu2 fEq) (j9 (vV 1) (C9 1)) (C9 3))))))))))
  (j7 (jk 6 (cLC .dp 1 [] (kY (vV 4)) (.n 0) tYes (jV .dp [])))
  (j7 (wX (kY (vE (cF2 jw (C9 3) (j9 (vV 3) (C9 2))))) (.n 7) (j7 (jk 8 (jJ jvv [(jJ dr [(cV 0),(cF2 jw (vE (cF2 jw (vV 1) (C9 1))) (vV 7))]),(cF2 jw (vE (jV .rt [(cC (.int 12)),(cC (.int 6)),(cC (.int 60)),(cC (.int 12))])) (vE (cF2 qY (vE (jV .rt [(cC (.int 60))])) (C9 3))))]))
  (j7 (jk 9 (cH (j9 (vV 5) (vE (cF2 (pu2 jv) (j9 (vV 8) (C9 0)) (vV 4))))))
  (j7 (jk 10 (cF2 (pu2 jv) (j9 (vV 8) (C9 3)) (vV 4)))
  (j7 (jk 11 (cF2 jw (vE (jV .rt [(cC (.str "new")),(cC .non)])) (vE (wq8 (vV 9)))))
  (j7 (jk 12 (cF1 Jv (vE (cLC .rt 1 [11] (itS (cSl (vV 8) (some (C9 4)) (some (vE (cF2 jw (C9 4) (j9 (vV 5) (vV 10))))))) (.n 0) tYes (cH (j9 (vV 1) (vE (cF2 (pu2 jv) (vV 0) (vE (cF1 (pu1 v3) (vV 1)))))))))))
  (j7 (jk 13 (cH (j9 (vE (cF2 jw (vE (jV .rt [(cC (.str "fresh")),(cC (.str "any"))])) (vE (wq8 (vV 9))))) (vE (cF2 (pu2 jv) (j9 (vV 8) (C9 2)) (vE (cF2 jw (C9 2) (vV 9))))))))
  (K8 6 (vE (cF2 (pu2 jv) (j9 (vV 8) (C9 0)) (vV 4))) (jz .no [(cH (j9 (vV 2) (vE (cF2 (pu2 jv) (j9 (vV 8) (C9 1)) (vE (cF1 (pu1 v3) (vV 2))))))),(cV 13),(cV 10),(cV 12)])))))))))
  (j7 (sFz 6 (jk 14 (cLC .rt 1 [5,3,6] (kY (vV 4)) (.n 0) tYes (jz .no [(cH (j9 (vV 1) (vV 0))),(cF2 (pu2 fEq) (j9 (vV 2) (vE (cF2 jw (C9 7) (vV 0)))) (C9 1)),(cH (j9 (vV 3) (vV 0)))]))))
  (jK (jz .no [(jz .no [(cF1 K1 (vV 2)),(cV 14)]),(cF2 jw (vE (cF2 jw (vV 1) (C9 4))) (j9 (vV 3) (C9 2)))]))))))))
end C
local macro_rules
 | `(tactic| simp![$ts,*])=>`(tactic| simp(config:={ maxSteps:=1000000,failIfUnchanged:=false,implicitDefEqProofs:=true }) (disch:=omega) only[↓Q.w_seq,↓Q.w_asg,↓Q.w_ret,↓Q.w_pass,↓Q.w_if,↓Q.w_tup,↓Q.w_vV,↓Q.w_cV,↓Q.w_cMv,↓Q.w_cC,↓Q.w_vE,↓Q.w_cH,↓Q.w_f1,↓Q.w_f2,↓Q.w_ix,↓Q.w_tE,↓Q.w_tEQ,↓Q.w_tNot,↓Q.w_tAnd,↓Q.w_tOr,↓Q.w_tYes,↓Q.w_cAnd,↓Q.w_cOr,↓Q.w_cNotQ,↓Q.w_call,↓Q.w_partN,↓Q.w_partS,↓Q.w_sl,↓Q.w_itS,↓Q.w_chain,↓Q.w_rz,↓Q.w_tryE,↓Q.w_R1,Q.rng_ok,true_and,Q.lst_dp0,↓Q.ie_i,Q.isSq,Q.sl_some,↓Q.andP_bl,↓Q.vo_some,↓Q.vo_map,↓Q.wo_some,↓Q.wo_map,↓Q.args_nil,↓Q.args_cons,↓Q.eo_tup,↓Q.eo_lst,Q.letAll,Q.pu2,Q.pu1,Q.f2First,Q.fIsNon,Q.fNotNon,Q.isNon,List.map_cons,List.map_nil,List.cons_append,List.nil_append,Xp,List.length_nil,X4,Nat.reduceAdd,Nat.reduceSub,List.replicate,List.set_cons_zero,List.set_cons_succ,List.getElem?_cons_zero,List.getElem?_cons_succ,Q.len_l,Q.len_t,Q.lt_ii,Q.gt_ii,Q.le_ii,Q.ge_ii,Q.add_i,Q.sub_i,Q.div_i,Q.mod_i,Q.mulT_i,Q.mul_l,Q.mul_r,Option.map_some,Q.truth,Q.truthQ,Q.D.pure,↓reduceIte,if_true,if_false,ite_true,ite_false,Q.sub_no,Q.sub_rt,Q.sub_dp,Bool.false_eq_true,reduceCtorEq,Bool.not_true,Bool.not_false,Q.Tg.put,Q.setAll,Q.seqOf,Q.lstOf,$ts,*])
namespace C
open Q PySem
abbrev most:Int:=1000*10 ^ 64
abbrev iL(ns:List Int):D:=.lst (ns.map D.int)
def Each(G:D->Sd->Prop):List D->List Sd->Prop
 |[],[]=>True
 |d::ds,y::ys=>G d y/\Each G ds ys
 |_,_=>False
theorem Each.snoc{G:D->Sd->Prop}{d:D}{y:Sd}(h:G d y):∀{ds:List D} {ys:List Sd},Each G ds ys->Each G (ds++[d]) (ys++[y])
 |[],[],_=>⟨h,trivial⟩
 |_::_,_::_,r=>⟨r.1,Each.snoc h r.2⟩
theorem vq{X:XP}{E:En}{o:Own}{r:List Nat}{it:Ev (List D)}{c:Ex}{P:En->Sd->Prop}(jx:En)(G:D->Sd->Prop)(h0:Eo (it E) (λE1 ds=>r.map (at' E1)=jx/\(∀d∈ds,Eo (c (some (.no,d)::jx)) (λB y=>(∃q,B=q::jx)/\G d y) X)/\∀ys,Each G ds ys->Eo (mkL o (back r jx (clr r E1)) ys) P X) X):Eo (cLC o 1 r it (.n 0) tYes c E) P X:=by
 refine vxb (λE1 B lw av=>∃ds ds1 q,ds=ds1++lw/\B=q::jx/\Each G ds1 av/\(∀d∈ds,Eo (c (some (.no,d)::jx)) (λB y=>(∃q,B=q::jx)/\G d y) X)/\∀ys,Each G ds ys->Eo (mkL o (back r jx (clr r E1)) ys) P X) ?_ ?_ ?_
 ·refine h0.mono λE1 ds ⟨h1,h2,h3⟩=>⟨ds,[],none,rfl,by rw[<-h1];rfl,trivial,h2,h3⟩
 ·rintro E1 B d lw av ⟨ds,ds1,q,e,rfl,hE,h2,h3⟩;have hp:(Tg.n 0).put d (q::jx)=some (some (.no,d)::jx):=rfl;rw[hp,vo_some,show tYes (some (Own.no,d)::jx)=some (.ok (some (Own.no,d)::jx) true)from rfl,vxa,Xe rfl];refine(h2 d (by rw[e];simp)).mono ?_;rintro B y ⟨⟨q',rfl⟩,hG⟩;exact⟨ds,ds1++[d],q',by rw[e];simp,rfl,hE.snoc hG,h2,h3⟩
 ·rintro E1 B av ⟨ds,ds1,q,e,rfl,hE,h2,h3⟩;rw[Y9]at e;subst e;exact h3 av hE
theorem kvw{G:D->Sd->Prop}{S:Int->Prop}(hG:∀d y,G d y->∃i,y.2=.int i/\S i):∀{ds:List D} {ys:List Sd},Each G ds ys->∃ps:List Int,ys.map (·.2)=ps.map D.int/\ps.length=ds.length/\∀p∈ps,S p
 |[],[],_=>⟨[],rfl,rfl,λ_ h=>nomatch h⟩
 |d::ds,y::ys,r=>by
  obtain⟨i,e,s⟩:=hG d y r.1;obtain⟨ps,h1,h2,h3⟩:=kvw hG r.2;exact⟨i::ps,by simp[e,h1],by simp[h2],λp hp=>(List.mem_cons.mp hp).elim (λz=>z▸s) (h3 p)⟩
theorem kze{G:D->Sd->Prop}{S:D->Prop}(hG:∀d y,G d y->S y.2):∀{ds:List D} {ys:List Sd},Each G ds ys->∀z∈ys.map (·.2),S z
 |[],[],_,_,h=>nomatch h
 |d::ds,y::ys,r,z,h=>by
  rcases List.mem_cons.mp h with rfl|h
  ·exact hG d y r.1
  ·exact kze hG r.2 z h
theorem qkh{n:Int}:k7 n n=[]:=by unfold k7;rw[Int.sub_self];rfl
theorem kkc{k n:Int}(h:k<n):k7 k n=.int k::k7 (k+1) n:=by
 unfold k7;have:(n - k).toNat=(n - (k+1)).toNat+1:=by
  obtain⟨m,hm⟩:=Int.eq_ofNat_of_zero_le (show 0<=n - (k+1)by omega);rw[hm,show n - k=(m+1:Nat)by omega];rfl
 rw[this,List.range_succ_eq_map,List.map_cons,Y3]
 congr 1
 ·simp
 ·apply List.map_congr_left;intro i _;simp only[Function.comp]
  congr 1
  omega
theorem kvb{k n:Int}{d:D}{ds:List D}(hk:k<=n)(h:d::ds=k7 k n):k<n/\d=.int k/\ds=k7 (k+1) n:=by
 by_cases hl:k<n
 ·rw[kkc hl]at h;injection h with h1 h2;exact⟨hl,h1,h2⟩
 ·have:k=n:=by omega
  subst this;rw[qkh]at h;cases h
theorem qki{k n:Int}(hk:k<=n)(h:[]=k7 k n):k=n:=by
 by_cases hl:k<n
 ·rw[kkc hl]at h;cases h
 ·omega
theorem JJ{k n:Int}{d:D}(h:d∈k7 k n):∃i:Int,k<=i/\i<n/\d=.int i:=by
 unfold k7 at h;obtain⟨j,hj,rfl⟩:=List.mem_map.mp h;have:=List.mem_range.mp hj;exact⟨k+j,by omega,by omega,rfl⟩
theorem VQ{k n:Int}(h:k<=n):((k7 k n).length:Int)=n - k:=by
 unfold k7;rw[X4,Y5];omega
theorem kzk{o1 o2:Own}{a b:Str}(h:a.cps.size+b.cps.size<=10000):jw (o1,.str a) (o2,.str b)=some (.dp,.str (a++b)):=by
 show(if a.cps.size+b.cps.size<=big then _ else _)=_;rw[Xe (by unfold big;omega)]
theorem qwb(a b:Str):(a++b).cps.size=a.cps.size+b.cps.size:=by
 show(a.cps++b.cps).size=_;exact Array.size_append
theorem kkq:∀(ss:List Str),xv (ss.map D.str)=some ss
 |[]=>rfl
 |s::ss=>by rw[List.map_cons,xv,kkq ss];rfl
abbrev sL(ss:List Str):D:=.lst (ss.map D.str)
theorem ixI(ks:List Int)(S:Int->Prop)(hS:∀k∈ks,S k)(i:Int)(h0:0<=i)(h1:i<ks.length):∃v,jQ (iL ks) (.int i)=some (.int v)/\S v/\ks[i.toNat]?=some v:=by
 have hl:i.toNat<ks.length:=by omega
 refine⟨ks[i.toNat],v9 h0 (by rw[Xh,X1 hl];rfl),hS _ (Xy hl),X1 hl⟩
def Gd(n:Int)(g:D):Prop:=g=.str "fresh"\/g=.str "any"\/∃i:Int,0<=i/\i<n/\g=.int i
def Fd(n:Int)(g:D):Prop:=g=.str "new"\/g=.non\/∃i:Int,0<=i/\i<n/\g=.int i
noncomputable def St(own:Int)(d:D):Prop:=∃(z:Str) (g:D) (to:Int) (fs:List D),d=.tup [.str z,g,.int to,.tup fs]/\Gd own g/\(∀f∈fs,Fd own f)/\fs.length<=3
noncomputable def Rm(d:D):Prop:=∃(kp:Int) (gd:Bool) (ss:List D),d=.tup [.int kp,.bl gd,.lst ss]/\0<=kp/\kp<=3/\(∀s∈ss,St kp s)/\ss.length<=14
def Rms(rs:List D):Prop:=1<=rs.length/\rs.length<=4/\∀r∈rs,Rm r
def Rmw(rs:List D):Prop:=1<=rs.length/\rs.length<=12/\∀r∈rs,Rm r
instance {rs:List D}:Coe (Rms rs) (Rmw rs):=⟨λh=>⟨h.1,by have:=h.2.1;omega,h.2.2⟩⟩
noncomputable def Sx(sgs:List Str)(ei:List Int)(d:D):Prop:=∃(z:Str) (g:D) (to:Int) (fs:List D),d=.tup [.str z,g,.int to,.tup fs]/\z∈sgs/\0<=to/\to<ei.length/\(fs.length:Int)=ei.getD to.toNat 0
def At(d:D):Prop:=d=.non\/∃i,d=.int i
theorem vj{n:Nat}:∀{ks:List D},(∀k∈ks,k.flat n=true)->D.flats n ks=true
 |[],_=>by cases n<;>simp[D.flats]
 |k::ks,h=>by rw[D.flats,h k X6,vj λe he=>h e (lc9 _ he)];rfl
noncomputable def fitB(ks:List D)(d g:D):Bool:=match g with
 |.int i=>peq (ks.getD i.toNat .non) d
 |.str s=>if s="fresh" then !ks.any λz=>peq z d else true
 |_=>true
theorem ix1(c g r f:D):jQ (.tup [c,g,r,f]) (.int 1)=some g:=rfl
theorem ix2(c g r f:D):jQ (.tup [c,g,r,f]) (.int 2)=some r:=rfl
theorem p0(a b:D):jQ (.tup [a,b]) (.int 0)=some a:=rfl
theorem p1(a b:D):jQ (.tup [a,b]) (.int 1)=some b:=rfl
theorem t0(a b c:D):jQ (.tup [a,b,c]) (.int 0)=some a:=rfl
theorem t1(a b c:D):jQ (.tup [a,b,c]) (.int 1)=some b:=rfl
theorem t2(a b c:D):jQ (.tup [a,b,c]) (.int 2)=some c:=rfl
def vx3(ks:List D)(d f:D):D:=match f with
 |.int i=>ks.getD i.toNat .non
 |.str _=>d
 |_=>.non
theorem wj{G:D->Sd->Prop}{h:D->D}(hG:∀d y,G d y->y.2=h d):∀{ds:List D} {ys:List Sd},Each G ds ys->ys.map (·.2)=ds.map h
 |[],[],_=>rfl
 |d::ds,y::ys,r=>by rw[List.map_cons,List.map_cons,hG d y r.1,wj hG r.2]
abbrev wQ(ss:List Str)(rs:List D):D:=.tup [sL ss,.lst rs]
def wk4(z:Str)(ks:List D)(d s:D):Bool:=match s with
 |.tup [.str w,g,_,_]=>(w==z)&&fitB ks d g
 |_=>false
noncomputable def XJ(p:D->Bool):Nat->List D->List D
 |_,[]=>[]
 |k,s::r=>if p s=true then .int k::XJ p (k+1) r else XJ p (k+1) r
def qvr(ks:List D)(d s:D):D:=match s with
 |.tup [_,_,to,.tup fs]=>.tup [to,.tup (fs.map (vx3 ks d))]
 |_=>.non
theorem vkn{G:D->Sd->Prop}(hG:∀d y,G d y->y.2=d){ds:List D}{ys:List Sd}(h:Each G ds ys):ys.map (·.2)=ds:=by
 rw[wj (h:=id) hG h,List.map_id]
theorem qqa{o:Own}{xs:List D}(h:o≠.dp):K1 (o,.lst xs)=some (.rt,.lst xs):=by
 show(if qK (o,.lst xs)then _ else _)=_;rw[Xe (by cases o<;>simp_all [qK])]
theorem wq5{z:Str}{ss:List Str}:zV (.str z) (sL ss)=some (.bl (ss.any λw=>w==z)):=by
 show(if(D.str z).flat 30&&D.flats 30 (ss.map D.str)then some (D.bl ((ss.map D.str).any λw=>peq w (.str z)))else none)=_;rw[show(D.str z).flat 30=true from rfl,vj (ks:=ss.map D.str) (λk hk=>by obtain⟨w,_,rfl⟩:=List.mem_map.mp hk;rfl),List.any_map];rfl
def wr(x:Int):Int:=if x<=0 then x else x - 10 ^ 60
def bnd1(own k:Int):Int:=own+(if k=own then 1 else 0)
noncomputable def Cs(ei:List Int)(b:Int)(c:D):Prop:=c=.non\/∃(to:Int) (fs:List Int),c=.tup [.int to,.tup (fs.map D.int)]/\0<=to/\to<ei.length/\(∀f∈fs,0<=f/\f<b)/\fs.Nodup/\(fs.length:Int)=ei.getD to.toNat 0
theorem qvw{a b:List D}(hl:a.length+b.length<=10000):jw (.no,.tup a) (.no,.tup b)=some (.no,.tup (a++b)):=by
 show(if a.length+b.length<=big/\qK (.no,.tup a)/\qK (.no,.tup b)then _ else _)=_;rw[Xe ⟨by unfold big;omega,rfl,rfl⟩]
abbrev iT(ks:List Int):D:=.tup (ks.map D.int)
def vwd(ks:List Int)(p:Int)(f:Int):Int:=(ks++[p]).getD f.toNat 0
noncomputable def wk6(ks:List Int)(p:Int)(c:D):D:=match c with
 |.tup [to,.tup fs]=>.tup [to,.tup (fs.map λf=>match f with|.int i=>.int (vwd ks p i)|_=>.non)]
 |_=>.non
noncomputable def vxi(ss:List Str)(st:List D)(ks:List Int)(z:Str)(p:Int):D:=match st[ss.findIdx λw=>w==z]? with
 |some (.lst cs)=>cs.getD (ks.findIdx λw=>w==p) .non
 |_=>.non
noncomputable def vzu(ss:List Str)(st:List D)(ks:List Int)(z:Str)(p:Int):D:=if(ss.any λw=>w==z)=true then wk6 ks p (vxi ss st ks z p)else .non
noncomputable def Cas(ei:List Int)(n:Nat)(own:Int)(st:List D):Prop:=st.length=n/\∀c∈st,∃cs:List D,c=.lst cs/\(cs.length:Int)=own+1/\∀k:Nat,k<cs.length->∃z,cs[k]?=some z/\Cs ei (bnd1 own k) z
inductive DR1 (ns:List Int)(k:Int):En->List D->Prop
 |mk (x:Int) (f:Int) (j:Int) {o3:Own} {o4:Own} {l5:Option Sd} {jx:List D} (h0:0<=x) (h1:x<10000000000) (h2:0<=j) (h3:j<=8) (h4:jx=k7 j 8):DR1 ns k [some (.no,iL ns),some (.no,.int k),some (.dp,.int most),some (o3,.int x),some (o4,.int f),l5] jx
noncomputable def Go(rs:List D)(s:D)(w:Str×Int)(k:Nat)(s':D):Prop:=∃(bb:Int) (ks st:List D) (gd:D),s=.tup [.int bb,.tup ks]/\0<=bb/\rs[bb.toNat]?=some (.tup [.int ks.length,gd,.lst st])/\(∀s∈st,St ks.length s)/\(∀k∈ks,At k)/\∃h:k<st.length,D.int k∈XJ (wk4 w.1 ks (.int w.2)) 0 st/\s'=qvr ks (.int w.2) st[k]
abbrev Lg:=List ((Str×Int)×Nat)
def vz3(rs:List D):D->Lg->D->Prop
 |s,[],s'=>s=s'
 |s,x::r,s'=>∃m,Go rs s x.1 x.2 m/\vz3 rs m r s'
abbrev wkh(L:Lg):List D:=L.map λx=>.int x.2
end C
namespace C
open Q PySem
noncomputable def Rd(ei:List Int)(ss:List Str)(rs:List D)(s:D)(w:Str×Int)(s':D):Prop:=(s=.non/\s'=.non)\/∃(bb:Int) (ks:List Int) (st:List D) (kp gd:D),s=.tup [.int bb,iT ks]/\0<=bb/\rs[bb.toNat]?=some (.tup [kp,gd,.lst st])/\Cas ei ss.length ks.length st/\ks.length<=3/\s'=vzu ss st ks w.1 w.2
abbrev st0:D:=.tup [.int 0,iT []]
noncomputable def vx5(rs:List D)(s:D):Bool:=match s with
 |.tup [.int bb,_]=>(match rs[bb.toNat]? with
  |some (.tup [_,.bl b,_])=>b
  |_=>false)
 |_=>false
end C
namespace C
open Q PySem
noncomputable section
def W0(K:List D)(d:D):List D:=if d∈K then K else K++[d]
def W2:D->List D
 |.tup [_,.tup ks]=>ks
 |_=>[]
noncomputable def wkk(rs:List D):D->List D
 |.tup [.int r,_]=>(match rs.getD r.toNat .non with
  |.tup [_,_,.lst st]=>st
  |_=>[])
 |_=>[]
noncomputable def wjr(rs:List D):D->Bool
 |.tup [.int r,_]=>(match rs.getD r.toNat .non with
  |.tup [_,.bl b,_]=>b
  |_=>false)
 |_=>false
def bh(ks st:List D)(p:Int):D->D
 |.int k=>qvr ks (.int p) (st.getD k.toNat .non)
 |_=>.non
noncomputable def qwy(rs:List D)(w:Str×Int)(s:D):List D:=(XJ (wk4 w.1 (W2 s) (.int w.2)) 0 (wkk rs s)).map (bh (W2 s) (wkk rs s) w.2)
def vzo(rs:List D)(w:Str×Int)(K:List D):List D:=(K.flatMap (qwy rs w)).foldl W0 []
def wkl(rs:List D):List (Str×Int)->List D->List D
 |[],K=>K
 |w::ws,K=>wkl rs ws (vzo rs w K)
end
noncomputable def SokV(ei:List Int)(V:List D)(s:D):Prop:=∃(bb:Int) (ks:List D),s=.tup [.int bb,.tup ks]/\0<=bb/\bb<ei.length/\(ks.length:Int)=ei.getD bb.toNat 0/\(∀k∈ks,At k)/\∀k∈ks,k∈V
def Kin(ei:List Int)(V K:List D):Prop:=K.Nodup/\∀s∈K,SokV ei V s
abbrev Kvs:=List (D×D)
abbrev Lws:=List (Str×Int)
noncomputable def Wd(rs:List D)(s0:D)(pre:List (Str×Int))(ay:List (D×D)):Prop:=∀e∈ay,∃L:Lg,e.2=.lst (wkh L)/\L.map (·.1)=pre/\vz3 rs s0 L e.1
inductive WO1 (ss:List Str)(rs V:List D)(ei:List Int)(s0:D)(pre:Lws)(ay:Kvs)(z:Str)(p:Int):En->List D->Prop
 |mk (j':Kvs) (ng:Kvs) (kv:Kvs) {l5:Option Sd} {l6:Option Sd} {l7:Option Sd} {l8:Option Sd} {jx:List D} (h0:jx=ng.map (λe=>D.tup [e.1,e.2])) (h1:ay=j'++ng) (h2:kv.map (·.1)=((j'.map (·.1)).flatMap (qwy rs (z,p))).foldl W0 []) (h3:Kin ei V (kv.map (·.1))) (h4:Wd rs s0 (pre++[(z,p)]) kv):WO1 ss rs V ei s0 pre ay z p [some (.no,wQ ss rs),some (.no,.dct ay),some (.no,.str z),some (.no,.int p),some (.rt,.dct kv),l5,l6,l7,l8] jx
inductive WO2 (ss:List Str)(rs V:List D)(ei:List Int)(s0:D)(pre:Lws)(ay:Kvs)(z:Str)(p:Int)(bb:Int)(ks st:List D)(L:Lg)(j':Kvs):En->List D->Prop
 |mk (f1:List D) (kv:Kvs) {l7:Option Sd} {l8:Option Sd} {jx:List D} (h0:XJ (wk4 z ks (.int p)) 0 st=f1++jx) (h1:kv.map (·.1)=(f1.map (bh ks st p)).foldl W0 (((j'.map (·.1)).flatMap (qwy rs (z,p))).foldl W0 [])) (h2:Kin ei V (kv.map (·.1))) (h3:Wd rs s0 (pre++[(z,p)]) kv):WO2 ss rs V ei s0 pre ay z p bb ks st L j' [some (.no,wQ ss rs),some (.no,.dct ay),some (.no,.str z),some (.no,.int p),some (.rt,.dct kv),some (.no,.tup [.int bb,.tup ks]),some (.no,.lst (wkh L)),l7,l8] jx
abbrev rwD(ws:List (Str×Int)):List D:=ws.map λw=>.tup [.str w.1,.int w.2]
inductive WB1 (ss:List Str)(rs:List D)(s0:D)(ws:Lws):En->List D->Prop
 |mk (w1:Lws) (w2:Lws) (kv:Kvs) {l3:Option Sd} {l4:Option Sd} {jx:List D} (h0:jx=rwD w2) (h1:ws=w1++w2) (h2:kv.map (·.1)=wkl rs w1 [s0]) (h3:Wd rs s0 w1 kv):WB1 ss rs s0 ws [some (.no,wQ ss rs),some (.no,.lst (rwD ws)),some (.rt,.dct kv),l3,l4,none,none] jx
inductive WB2 (ss:List Str)(rs:List D)(ws:Lws)(kv:Kvs):En->List D->Prop
 |mk (j':Kvs) (ng:Kvs) {o2:Own} {l3:Option Sd} {l4:Option Sd} {l5:Option Sd} {l6:Option Sd} {jx:List D} (h0:jx=ng.map (λe=>D.tup [e.1,e.2])) (h1:kv=j'++ng) (h2:(j'.map (·.1)).any (wjr rs)=false):WB2 ss rs ws kv [some (.no,wQ ss rs),some (.no,.lst (rwD ws)),some (o2,.dct kv),l3,l4,l5,l6] jx
noncomputable section
end
end C
namespace B
open Q PySem C
abbrev Sn:=Option (Int×List Int)
def nms:Sn->List Int
 |none=>[]
 |some p=>p.2
theorem eqi{a b:Int}{k:Bool}(h:(a==b)=k):fEq (.int a) (.int b)=some (.bl k):=by rw[<-h];rfl
end B
namespace B
open PySem Q
noncomputable def m__law_cell_at:Fn:=fn 2
  (j7 (sIf (tE (cF2 (pu2 fLt) (vV 1) (vE (cF1 (pu1 v3) (vV 0))))) (jK (cH (j9 (vV 0) (vV 1)))) qQ)
  (jK (cC (.int 0))))
noncomputable def kqc:Fn:=fn 5
  (j7 (jk 2 (jV .rt []))
  (j7 (sIf (tE (cF2 (pu2 fEq) (vE (cF2 (pu2 jv) (vV 0) (C9 2))) (C9 1))) (j7 (jk 0 (cF2 (pu2 kw) (vV 0) (C9 2)))
  (j7 (wX (kY (vV 1)) (.n 3) (j7 (xz xV 2 (cF2 (pu2 jv) (vV 0) (C9 2147483647)))
  (jk 0 (cF2 (pu2 kw) (vV 0) (C9 2147483647)))))
  (jK (cMv 2)))) qQ)
  (j7 (jk 4 (cF2 jw (vE (cF2 (pu2 jv) (vE (cF2 (pu2 kw) (vV 0) (C9 2))) (C9 2147483647))) (C9 48271)))
  (j7 (wX (kY (vE (cF2 jw (vV 1) (C9 1)))) (.n 3) (j7 (jk 4 (cF2 (pu2 jv) (vE (cF2 jw (vE (cF2 jw (vE (cF2 qY (vV 4) (vV 4))) (vE (cF2 qY (C9 48271) (vV 4))))) (vV 3))) (C9 2147483647)))
  (xz xV 2 (cF2 (pu2 jv) (vE (cF2 jw (vE (cF2 qY (vV 4) (C9 40692))) (vE (cF2 qY (C9 7) (vV 3))))) (C9 2147483399)))))
  (jK (cSl (vV 2) (some (C9 1)) none))))))
noncomputable def Q5:Fn:=fn 7
  (j7 (jk 1 (cC (.str "abcdefghijklmnopqrstuvwxyz")))
  (j7 (jk 2 (jJ kqc [(cV 0),(cC (.int 9))]))
  (j7 (jk 3 (YZ "" (vE (cLC .rt 1 [1] (itS (cSl (vV 2) none (some (vE (cF2 jw (C9 1) (vE (cF2 (pu2 jv) (vV 0) (C9 8)))))))) (.n 0) tYes (cH (j9 (vV 1) (vE (cF2 (pu2 jv) (vV 0) (C9 26)))))))))
  (j7 (jk 4 (cF2 (pu2 jv) (vE (cF2 (pu2 kw) (vV 0) (C9 8))) (vE (cF1 (pu1 v3) (vV 3)))))
  (j7 (jk 5 (jV .rt []))
  (j7 (wX (kY (j9 (vE (jV .rt [(cC (.int 1)),(cC (.int 2)),(cC (.int 1)),(cC (.int 2)),(cC (.int 2)),(cC (.int 1)),(cC (.int 2)),(cC (.int 3))])) (vE (cF2 (pu2 jv) (vE (cF2 (pu2 kw) (vV 0) (C9 64))) (C9 8))))) (.n 6) (xz xV 5 (cF2 jw (vE (cF2 jw (vE (cSl (vV 3) none (some (vV 4)))) (j9 (vV 1) (vE (cF2 jw (vE (cF2 (pu2 jv) (j9 (vV 2) (C9 8)) (C9 24))) (vV 6)))))) (vE (cSl (vV 3) (some (vE (cF2 jw (vV 4) (C9 1)))) none)))))
  (jK (cMv 5))))))))
end B
namespace B
open Q PySem C
def XQ(ns:List Int)(k:Nat):Int:=ns.getD k 0
theorem cell_ok(ns:List Int)(k:Nat)(hn:ns.length<=10000):Oo m__law_cell_at [(.no,iL ns),(.no,.int k)] (λy=>∃o':Own,y=(o',.int (XQ ns k))/\True) noX:=by
 unfold m__law_cell_at;refine qz ?_;simp![]
 by_cases h:(k:Int)<ns.length
 ·have hx:jQ (iL ns) (.int k)=some (.int (XQ ns k)):=by
   refine v9 (by omega) ?_;unfold XQ;rw[Y6,Xh,X1 (by omega),X5,X1 (by omega)];rfl
  have hd:decide ((k:Int)<ns.length)=true:=Xj h;rw[Xe hd];simp![hx];exact⟨_,rfl,trivial⟩
 ·have hd:¬decide ((k:Int)<ns.length)=true:=by rw[Xm h];decide
  rw[Xl hd];refine⟨.dp,?_,trivial⟩;rw[show XQ ns k=0 by unfold XQ;rw[X5,Yk (by omega)];rfl]
def St(n:Int)(xs:List Int):Prop:=(xs.length:Int)=n/\∀x∈xs,0<=x/\x<2147483647
theorem kxc:∀{ps:List Str},(∀p∈ps,p.length=1)->(ps.map (·.length)).sum=ps.length
 |[],_=>rfl
 |p::ps,h=>by rw[List.map_cons,List.sum_cons,h p X6,kxc λq hq=>h q (lc9 _ hq),Xp];omega
theorem sl_s{o:Own}{z:Str}{lo hi:Option Int}(h:z.cps.size<=100):fSl (o,.str z) lo hi=some (.dp,.str (Txt.slice z lo hi)):=by
 have hl:(Txt.slice z lo hi).length<=z.length:=Txt.slice_le z lo hi;have h:z.length<=100:=h;show(if(Txt.slice z lo hi).length<=big then _ else none)=_;rw[Xe (by unfold big;omega)]
def vx3(S:Sn)(c:Int):D:=if c∈nms S then .int ((nms S).findIdx λw=>w==c:Nat)else .non
end B
namespace A
open PySem Q
noncomputable def m__law_mixed:Fn:=fn 3
  (j7 (sIf (tE (cF2 (pu2 fEq) (vE (cF2 (pu2 jv) (vV 0) (C9 2))) (C9 0))) (jK (cF2 (pu2 kw) (vV 0) (vE (cF2 (pu2 wjv) (C9 2) (vE (cF2 qY (C9 8) (vV 1))))))) qQ)
  (j7 (jk 2 (cF2 (pu2 jv) (vE (cF2 qY (vE (cF2 jw (vE (cF2 jw (vE (cF2 (pu2 jv) (vV 0) (C9 2147483647))) (vE (cF2 qY (C9 69621) (vV 1))))) (C9 7919))) (C9 48271))) (C9 2147483647)))
  (j7 (jk 2 (cF2 (pu2 jv) (vE (cF2 qY (vV 2) (vV 2))) (C9 2147483629)))
  (jK (cF2 (pu2 jv) (vE (cF2 jw (vE (cF2 qY (vV 2) (vV 2))) (vE (cF2 qY (C9 16807) (vV 1))))) (C9 2147483587))))))
noncomputable def m__law_words:Fn:=fn 9
  (j7 (jk 2 (cC (.str "abcdefghijklmnopqrstuvwxyz")))
  (j7 (jk 3 (YZ "" (vE (cLC .rt 1 [2,0] (kY (C9 8)) (.n 0) tYes (cH (j9 (vV 1) (vE (cF2 (pu2 jv) (vE (jJ m__law_mixed [(cV 2),(cV 0)])) (C9 26)))))))))
  (j7 (sIf (tE (cF2 (pu2 fEq) (vE (cF2 (pu2 jv) (vV 0) (C9 3))) (C9 1))) (jK (cLC .rt 1 [3,0] (kY (vV 1)) (.n 0) tYes (cSl (vV 1) none (some (vE (cF2 jw (C9 1) (vE (cF2 (pu2 jv) (vE (cF2 jw (vV 0) (vE (cF2 (pu2 kw) (vV 2) (C9 3))))) (C9 8))))))))) qQ)
  (j7 (jk 4 (cF2 jw (C9 1) (vE (cF2 (pu2 jv) (vE (cF2 (pu2 kw) (vV 0) (C9 3))) (C9 8)))))
  (j7 (jk 5 (cF2 (pu2 jv) (vE (cF2 (pu2 kw) (vV 0) (C9 24))) (vV 4)))
  (j7 (jk 6 (jV .rt []))
  (j7 (wX (kY (vV 1)) (.n 7) (j7 (jk 8 (cF2 (pu2 jv) (vE (cF2 jw (vE (qxj (vV 2) (j9 (vV 3) (vV 5)))) (vE (cF2 qY (vV 7) (vE (cF2 jw (C9 1) (vE (cF2 (pu2 jv) (vE (cF2 (pu2 kw) (vV 0) (C9 192))) (C9 5))))))))) (C9 26)))
  (xz xV 6 (cF2 jw (vE (cF2 jw (vE (cSl (vV 3) none (some (vV 5)))) (j9 (vV 2) (vV 8)))) (vE (cSl (vV 3) (some (vE (cF2 jw (vV 5) (C9 1)))) (some (vV 4))))))))
  (jK (cMv 6)))))))))
end A
namespace A
open Q PySem C B
theorem vvl{n:Nat}(h:n<=8000):((2:Int)*2 ^ n).natAbs.log2<9000:=by
 have e:((2:Int)*2 ^ n).natAbs=2 ^ (n+1):=by
  rw[Int.natAbs_mul,Int.natAbs_pow,Nat.pow_succ,Nat.mul_comm];rfl
 rw[e,Nat.log2_two_pow];omega
theorem vzs{n:Int}(h0:0<=n)(h1:n<=8000):wjv (.int 2) (.int n)=some (.int (2*2 ^ n.toNat)):=by
 show(if 0<=n/\n<=1000000/\(2:Int).natAbs<2 ^ 64 then some (2*2 ^ n.toNat)else none).map D.int=_;rw[Xe ⟨h0,by omega,by decide⟩];rfl
theorem wk1{c n:Int}(h1:n<=8000):kw (.int c) (.int (2*2 ^ n.toNat))=some (.int (c / (2*2 ^ n.toNat))):=by
 show(if 0<(2:Int)*2 ^ n.toNat/\((2:Int)*2 ^ n.toNat).natAbs.log2<9000 then some (c / (2*2 ^ n.toNat))else none).map D.int=_;rw[Xe ⟨Int.mul_pos (by decide) (Int.pow_pos (by decide)),vvl (by omega)⟩];rfl
theorem mixed_ok(c k:Int)(h0:0<=k)(h1:k<=100):Oo m__law_mixed [(.no,.int c),(.no,.int k)] (λy=>∃v:Int,y=(.dp,.int v)/\True) noX:=by
 unfold m__law_mixed;refine qz ?_
 by_cases h:c % 2=0
 ·have hd:(c % 2==0)=true:=by simp[h]
  simp![eqi hd,vzs (n:=8*k) (by omega) (by omega),wk1 (c:=c) (n:=8*k) (by omega)];exact⟨_,rfl,trivial⟩
 ·have hd:(c % 2==0)=false:=beq_false_of_ne h;have m0:=Xf c (show(2147483647:Int)≠0 by decide);have m1:=X9 c (show(0:Int)<2147483647 by decide);generalize hu:c % 2147483647=u at m0 m1;have e1:=mul_l (o1:=.no) (o2:=.no) (a:=u+69621*k+7919) (b:=48271) (by omega) (by omega);have n0:=Xf ((u+69621*k+7919)*48271) (show(2147483647:Int)≠0 by decide);have n1:=X9 ((u+69621*k+7919)*48271) (show(0:Int)<2147483647 by decide);simp![eqi hd,hu,e1];generalize (u+69621*k+7919)*48271 % 2147483647=w at n0 n1;have e2:=mul_l (o1:=.no) (o2:=.no) (a:=w) (b:=w) (by omega) (by omega);have e2':=mul_l (o1:=.dp) (o2:=.dp) (a:=w) (b:=w) (by omega) (by omega);have p0:=Xf (w*w) (show(2147483629:Int)≠0 by decide);have p1:=X9 (w*w) (show(0:Int)<2147483629 by decide);simp![e2,e2'];generalize w*w % 2147483629=t at p0 p1;have e3:=mul_l (o1:=.no) (o2:=.no) (a:=t) (b:=t) (by omega) (by omega);have e3':=mul_l (o1:=.dp) (o2:=.dp) (a:=t) (b:=t) (by omega) (by omega);simp![e3,e3'];exact⟨_,rfl,trivial⟩
abbrev AZ:Str:="abcdefghijklmnopqrstuvwxyz"
theorem az_found:∀ch∈AZ.cps.toList,∃i:Nat,Zz (.str AZ) (.str ⟨#[ch]⟩)=some (.int i):=by
 have h:∀ch∈AZ.cps.toList,(Builtin.Str.occurrences AZ ⟨#[ch]⟩ 0 AZ.length 1).isEmpty=false:=by decide +kernel
 intro ch hc;have:=h ch hc;unfold Zz;dsimp only;cases e:Builtin.Str.occurrences AZ ⟨#[ch]⟩ 0 AZ.length 1 with
 |nil=>rw[e]at this;cases this
 |cons i r=>exact⟨i,rfl⟩
theorem ix_strM(z:Str)(i:Int)(h0:0<=i)(h1:i<z.cps.size):∃c∈z.cps.toList,jQ (.str z) (.int i)=some (.str ⟨#[c]⟩):=by
 have:i.toNat<z.cps.toList.length:=by rw[Xa];omega
 refine⟨z.cps.toList[i.toNat],Xy _,?_⟩;show((Q.ixN z.cps.size i).bind λj=>(z.cps.toList[j]?).map λc=>D.str ⟨#[c]⟩)=_;unfold Q.ixN;rw[Xe h0,Xe h1];show((z.cps.toList[i.toNat]?).map λc=>D.str ⟨#[c]⟩)=_;rw[X1 this];rfl
theorem list_app(a b:Str):(a++b).cps.toList=a.cps.toList++b.cps.toList:=by
 show(a.cps++b.cps).toList=_;exact Array.toList_append
theorem kz2{L:List Nat}:∀{ps:List Str},(∀p∈ps,∃c∈L,p=⟨#[c]⟩)->(Str.join "" ps).cps.toList.length=ps.length/\∀c∈(Str.join "" ps).cps.toList,c∈L
 | [],_=>⟨rfl,λc h=>by exact absurd h (by simp[Str.join,Str.empty])⟩
 | [x],h=>by
  obtain⟨c,hc,rfl⟩:=h x X6;refine⟨rfl,λd hd=>?_⟩;have:d=c:=by simpa [Str.join]using hd
  rw[this];exact hc
 | x::y::r,h=>by
  obtain⟨c,hc,rfl⟩:=h x X6;obtain⟨i1,i2⟩:=kz2 (ps:=y::r) λp hp=>h p (lc9 _ hp)
  have e:(Str.join "" ((⟨#[c]⟩:Str)::y::r)).cps.toList=c::(Str.join "" (y::r)).cps.toList:=by
   show((⟨#[c]⟩:Str)++""++Str.join "" (y::r)).cps.toList=_;rw[list_app,list_app];rfl
  rw[e];refine⟨by rw[Xp,i1];rfl,λd hd=>?_⟩;rcases List.mem_cons.mp hd with rfl|hd
  ·exact hc
  ·exact i2 d hd
theorem each_one{L:List Nat}{G:D->Sd->Prop}(hG:∀d y,G d y->∃c∈L,y.2=.str ⟨#[c]⟩):∀{ds:List D} {ys:List Sd},Each G ds ys->∃ps:List Str,ys.map (·.2)=ps.map D.str/\ps.length=ds.length/\∀p∈ps,∃c∈L,p=⟨#[c]⟩
 |[],[],_=>⟨[],rfl,rfl,λ_ h=>nomatch h⟩
 |d::ds,y::ys,r=>by
  obtain⟨i,hi,e⟩:=hG d y r.1;obtain⟨ps,h1,h2,h3⟩:=each_one hG r.2;exact⟨⟨#[i]⟩::ps,by simp[e,h1],by simp[h2],λp hp=>(List.mem_cons.mp hp).elim (λz=>z▸⟨i,hi,rfl⟩) (h3 p)⟩
theorem join_az{ps:List Str}(h:∀p∈ps,∃c∈AZ.cps.toList,p=⟨#[c]⟩)(h1:ps.length<=100):∃z:Str,XV "" (.lst (ps.map D.str))=some (.str z)/\z.cps.size=ps.length/\∀c∈z.cps.toList,c∈AZ.cps.toList:=by
 have hz:("":Str).length=0:=rfl;have hs:=kxc (ps:=ps) λp hp=>by obtain⟨c,_,rfl⟩:=h p hp;rfl
 obtain⟨j1,j2⟩:=kz2 h;refine⟨Txt.join "" ps,?_,?_,?_⟩
 ·unfold XV;dsimp only;rw[kkq];dsimp only;rw[Xe (by rw[hs,hz];omega)]
 ·unfold Txt.join;rw[StrLaws.glued_eq_join,<-j1,Xa]
 ·unfold Txt.join;rw[StrLaws.glued_eq_join];exact j2
end A
namespace F
open Q PySem C
def JW(av:List Int):D->List Int
 |.int i=>if i∈av then av else av++[i]
 |_=>av
def V0(ks:List D):List Int:=ks.foldl JW []
def plc(ns:List Int):D->D
 |.int i=>.int (ns.findIdx λw=>w==i:Nat)
 |d=>d
def pr(ks:List D):List D:=ks.map (plc (V0 ks))
noncomputable def vxg(K:List D)(s:D):List D×D:=match s with
 |.tup [bb,.tup ks]=>(W0 K (.tup [bb,.tup (pr ks)]),.tup [.int ((W0 K (.tup [bb,.tup (pr ks)])).idxOf (.tup [bb,.tup (pr ks)]):Nat),iT (V0 ks)])
 |_=>(K,.non)
end F
namespace F
open Q PySem C
def obD(rs:List D)(s:D)(z:Str)(p:Int):Option D:=match qwy rs (z,p) s with
 |[]=>some .non
 |[d]=>some d
 |_=>none
noncomputable def qzn(rs:List D)(s:D)(z:Str):List D->List D->Option (List D×List D)
 |[],K=>some (K,[])
 |.int p::ps,K=>match obD rs s z p with
  |none=>none
  |some d=>(qzn rs s z ps (vxg K d).1).map λr=>(r.1,(vxg K d).2::r.2)
 |_::_,_=>none
end F
namespace F
open Q PySem C
def vxf(rs:List D)(s:D)(z:Str)(K:List D):Option (List D×List D):=qzn rs s z (k7 0 ((V0 (W2 s)).length+1)) K
noncomputable def qxw(rs:List D)(s:D):List Str->List D->Option (List D×List D)
 |[],K=>some (K,[])
 |z::zs,K=>match vxf rs s z K with
  |none=>none
  |some r=>(qxw rs s zs r.1).map λq=>(q.1,.lst r.2::q.2)
noncomputable def vx5(rs:List D)(s:D):D:=match s with
 |.tup [.int bb,_]=>(match rs[bb.toNat]? with
  |some (.tup [_,g,_])=>g
  |_=>.non)
 |_=>.non
def vqv(rs:List D)(s:D)(st:List D):D:=.tup [.int (V0 (W2 s)).length,vx5 rs s,.lst st]
noncomputable def vqn(ss:List Str)(rs K bc:List D):Option (List D×List D):=(qxw rs (K.getD bc.length .non) ss K).map λr=>(r.1,bc++[vqv rs (K.getD bc.length .non) r.2])
inductive Run (ss:List Str)(rs:List D):List D->List D->Option (List D×List D)->Prop
 |stop {K bc:List D}:¬bc.length<K.length->Run ss rs K bc (some (K,bc))
 |fail {K bc:List D}:bc.length<K.length->vqn ss rs K bc=none->Run ss rs K bc none
 |go {K bc K' iq:List D} {r:Option (List D×List D)}:bc.length<K.length->vqn ss rs K bc=some (K',iq)->Run ss rs K' iq r->Run ss rs K bc r
end F
namespace F
open Q PySem C
def ltr:List Nat:=("abcdefghijklmnopqrstuvwxyz":Str).cps.toList
def Sg(z:Str):Prop:=z.cps.size<=8/\∀c∈z.cps.toList,c∈ltr
end F
namespace F
open Q PySem C
noncomputable def FA(g:D)(fs:List D):Prop:=(∀(i j:Nat) (f:D),f≠.non->fs[i]?=some f->fs[j]?=some f->i=j)/\(D.str "new"∈fs->g≠.str "any"/\g∉fs)
end F
namespace F
open Q PySem C
noncomputable def Cpt(ap:Bool)(g g':D):Prop:=(g=.str "fresh"/\∃i,g'=.int i)\/(g'=.str "fresh"/\∃i,g=.int i)\/(ap=true/\∃i j:Int,g=.int i/\g'=.int j/\i≠j)
noncomputable def wqa(ap:Bool)(st:List D):Prop:=(∀(i j:Nat) (z:Str) (g g' t t' f f':D),i<j->st[i]?=some (.tup [.str z,g,t,f])->st[j]?=some (.tup [.str z,g',t',f'])->Cpt ap g g')/\(ap=true->∀(z:Str) (g t:D) (fs:List D),D.tup [.str z,g,t,.tup fs]∈st->FA g fs)
end F
namespace F
open Q PySem C
def Asks(ap:Bool)(b9:Int)(as:List D):Prop:=as.Pairwise (Cpt ap)/\(∀a∈as,Gd b9 a)/\as.length<=4
end F
namespace F
open Q PySem C
def FAb(ap:Bool)(g:D)(fs:List D):Prop:=ap=true->FA g fs
inductive FJ1 (zs:List Int)(g:D)(b9 there:Int)(ap:Bool)(LL:List D):En->List D->Prop
 |mk (fs:List D) (ws:List Int) {l7:Option Sd} {l8:Option Sd} {jx:List D} (h0:jx=ws.map D.int) (h1:(fs.length+ws.length:Int)=there) (h2:(∀f∈fs,Fd b9 f)) (h3:FAb ap g fs):FJ1 zs g b9 there ap LL [some (.no,iL zs),some (.no,g),some (.no,.int b9),some (.no,.int there),some (.no,.bl ap),some (.rt,.lst LL),some (.rt,.lst fs),l7,l8] jx
def Ltr(b st:Int)(bp:Nat)(i:Nat)(z:Str):Prop:=z.cps.toList[bp]?=some (ltr.getD ((b+i*(st+1)) % 26).toNat 0)
inductive FJ2 (x n sz am st b:Int):En->List D->Prop
 |mk (k:Int) (ss:List Str) {l7:Option Sd} {l8:Option Sd} {l9:Option Sd} {lc:Option Sd} {jx:List D} (h0:0<=k) (h1:k<=n) (h2:jx=k7 k n) (h3:(ss.length:Int)=k) (h4:∀i:Nat,i<ss.length->Ltr b st am.toNat i (ss.getD i "")):FJ2 x n sz am st b [some (.no,.int x),some (.no,.int n),some (.dp,.str "abcdefghijklmnopqrstuvwxyz"),some (.no,.int sz),some (.dp,.int am),some (.no,.int st),some (.rt,sL ss),l7,l8,l9,lc] jx
inductive FJ3 (x n sz am st b k:Int)(ss:List Str):En->List D->Prop
 |mk (j:Int) (z:Str) {l9:Option Sd} {lc:Option Sd} {o8:Own} {jx:List D} (h0:0<=j) (h1:j<=sz+1) (h2:jx=k7 j (sz+1)) (h3:(z.cps.size:Int)=j) (h4:(am<j->Ltr b st am.toNat ss.length z)):FJ3 x n sz am st b k ss [some (.no,.int x),some (.no,.int n),some (.dp,.str "abcdefghijklmnopqrstuvwxyz"),some (.no,.int sz),some (.dp,.int am),some (.no,.int st),some (.rt,sL ss),some (.no,.int k),some (o8,.str z),l9,lc] jx
end F
namespace F
open Q PySem C
inductive SJ1 (ns:List Int)(a:Int)(ss:List Str)(hs ks:List Int)(v0:Int)(ap:Bool):En->List D->Prop
 |mk (r:Nat) (rs:List D) {l7 l8 l9 lc ny oj ll mf:Option Sd} {jx:List D} (h1:jx=k7 r (1+v0)) (h2:(r:Int)<=1+v0) (h3:rs.length=r) (h4:∀i:Nat,i<r->∃(gd:Bool) (st:List D),rs[i]?=some (.tup [.int (ks.getD i 0),.bl gd,.lst st])/\(∀s∈st,St (ks.getD i 0) s/\Sx ss ks s)/\st.length<=12/\wqa ap st):SJ1 ns a ss hs ks v0 ap [some (.no,iL ns),some (.no,.int a),some (.no,sL ss),some (.rt,iL hs),some (.dp,.int (1+v0)),some (.rt,iL ks),some (.rt,.lst rs),l7,l8,l9,lc,ny,oj,ll,mf] jx
noncomputable def Sgn(ss:List Str)(j:Nat)(st:List D):Prop:=∀s∈st,∃i,i<j/\∃(hi:i<ss.length) (g t f:D),s=.tup [.str ss[i],g,t,f]
inductive SJ2 (ns:List Int)(a:Int)(ss:List Str)(hs ks:List Int)(v0:Int)(ap:Bool)(rs:List D)(r:Nat)(b9:Int):En->List D->Prop
 |mk (j:Nat) (st:List D) {l9 lc ny oj ll mf:Option Sd} {jx:List D} (h1:jx=k7 j ss.length) (h2:j<=ss.length) (h3:∀s∈st,St b9 s/\Sx ss ks s) (h4:st.length<=4*j) (h5:wqa ap st) (h6:Sgn ss j st):SJ2 ns a ss hs ks v0 ap rs r b9 [some (.no,iL ns),some (.no,.int a),some (.no,sL ss),some (.rt,iL hs),some (.dp,.int (1+v0)),some (.rt,iL ks),some (.rt,.lst rs),some (.no,.int r),some (.rt,.lst st),l9,lc,ny,oj,ll,mf] jx
noncomputable def Ads(ss:List Str)(j:Nat)(hj:j<ss.length)(ap:Bool)(as add:List D):Prop:=∀(i:Nat) (d:D),add[i]?=some d->∃(g t:D) (fs:List D),as[i]?=some g/\d=.tup [.str ss[j],g,t,.tup fs]/\(ap=true->FA g fs)
inductive SJ3 (ns:List Int)(a:Int)(ss:List Str)(hs ks:List Int)(v0:Int)(ap:Bool)(rs:List D)(r:Nat)(b9:Int)(st:List D)(j:Nat)(hj:j<ss.length)(ys:List Int):En->List D->Prop
 |mk (k:Nat) (as add st2:List D) {ny oj ll mf:Option Sd} {jx:List D} (h0:st2=st++add) (h1:Asks ap b9 as) (h2:k<=as.length) (h3:jx=vxc k (as.drop k)) (h4:add.length=k) (h5:∀s∈add,St b9 s/\Sx ss ks s) (h6:Ads ss j hj ap as add):SJ3 ns a ss hs ks v0 ap rs r b9 st j hj ys [some (.no,iL ns),some (.no,.int a),some (.no,sL ss),some (.rt,iL hs),some (.dp,.int (1+v0)),some (.rt,iL ks),some (.rt,.lst rs),some (.no,.int r),some (.rt,.lst st2),some (.no,.int j),some (.no,iL ys),ny,oj,ll,mf] jx
end F
namespace F
open Q PySem C
noncomputable def vxh(K:List D)(d:D):D:=match d with
 |.tup [bb,.tup ks]=>.tup [.int (K.idxOf (.tup [bb,.tup (pr ks)]):Nat),iT (V0 ks)]
 |_=>.non
noncomputable def wk5(rs:List D)(s:D)(z:Str)(L:List D)(d:D):D:=match d with
 |.int p=>(match obD rs s z p with
  |some d=>vxh L d
  |none=>.non)
 |_=>.non
def wkm(s:D):List D:=k7 0 ((V0 (W2 s)).length+1)
def vqm(ss:List Str)(rs L:List D)(s:D):List D:=ss.map λz=>.lst ((wkm s).map (wk5 rs s z L))
def wkf(L:List D)(e:D):Prop:=∀bb ks,e=.tup [bb,.tup ks]->D.tup [bb,.tup (pr ks)]∈L
def Clo(zs:List Str)(rs L:List D)(s:D):Prop:=∀z∈zs,∀p:Int,D.int p∈wkm s->∃e,obD rs s z p=some e/\wkf L e
def Nrm(t:D):Prop:=∃bb ks,t=.tup [bb,.tup (pr ks)]
noncomputable def Inv(ss:List Str)(rs K bc:List D):Prop:=bc.length<=K.length/\(∀i,i<bc.length->Clo ss rs K (K.getD i .non)/\∀L,K <+: L->bc[i]?=some (vqv rs (K.getD i .non) (vqm ss rs L (K.getD i .non))))/\∀t∈K,Nrm t
end F
namespace G
open Q PySem C F
def fl(own:Int):D->D
 |.int f=>if f=own then .str "new" else .int f
 |d=>d
end G
namespace G
open Q PySem C F
def nN(t:D):Nat:=(V0 (W2 t)).length
end G
namespace Nk11
open PySem Q
def Z6:Fn:=fn 1
  (jK (ww (vE (cF1 (pu1 (jZ "int")) (vV 0))) (Vv (vE (cF1 (pu1 (jZ "bool")) (vV 0))))))
noncomputable def WX:Fn:=fn 1
  (j7 (sIf (tOr (tNot (tEQ (vE (cF1 (pu1 (jZ "str")) (vV 0))))) (tNot (tE (zW fLe fLe (C9 1) (vE (cF1 (pu1 v3) (vV 0))) (C9 8))))) (jK (cC (.bl false))) qQ)
  (jK (cF1 (pu1 Jk) (vE (cLC .rt 1 [] (itS (cV 0)) (.n 0) tYes (cF2 (pu2 zV) (vV 0) (vE (cC (.str "abcdefghijklmnopqrstuvwxyz")))))))))
noncomputable def Q8:Fn:=fn 2
  (jK (ww (vE (cF1 (pu1 (jZ "tuple")) (vV 0))) (cF2 (pu2 fEq) (vE (cF1 (pu1 v3) (vV 0))) (vV 1))))
noncomputable def Z8:Fn:=fn 1
  (j7 (sIf (tOr (tNot (tEQ (vE (cF1 (pu1 (jZ "list")) (vV 0))))) (tNot (tE (zW fLe fLe (C9 1) (vE (cF1 (pu1 v3) (vV 0))) (C9 3))))) (jK (cC (.bl false))) qQ)
  (j7 (sIf (tNot (tEQ (vE (cF1 (pu1 Jk) (vE (cLC .rt 1 [] (itS (cV 0)) (.n 0) tYes (jJ WX [(cV 0)]))))))) (jK (cC (.bl false))) qQ)
  (jK (cF2 (pu2 fEq) (vV 0) (vE (cF1 KW (vV 0)))))))
def Qz:Fn:=fn 2
  (jK (ww (vE (cF1 (pu1 (jZ "str")) (vV 0))) (cF2 (pu2 zV) (vV 0) (vV 1))))
def KQ:Fn:=fn 2
  (jK (ww (vE (jJ Z6 [(cV 0)])) (zW fLe fLt (C9 0) (vV 0) (vV 1))))
noncomputable def YK:Fn:=fn 2
  (jK (cOr (vE (cF2 (f2First fIsNon) (vV 0) (vE (cC .non)))) (cOr (vE (jJ Qz [(cV 0),(jz .no [(cC (.str "new"))])])) (jJ KQ [(cV 0),(cV 1)]))))
noncomputable def YX:Fn:=fn 3
  (jK (ww (vE (jJ Q8 [(cV 0),(cV 2)])) (cF1 (pu1 Jk) (vE (cLC .rt 1 [1] (itS (cV 0)) (.n 0) tYes (jJ YK [(cV 0),(cV 1)]))))))
noncomputable def jxe:Fn:=fn 2
  (jK (cOr (vE (jJ Qz [(cV 0),(jz .no [(cC (.str "fresh")),(cC (.str "any"))])])) (jJ KQ [(cV 0),(cV 1)])))
noncomputable def Z7:Fn:=fn 4
  (j7 (sIf (tNot (tEQ (vE (jJ Q8 [(cV 0),(cC (.int 4))])))) (jK (cC (.bl false))) qQ)
  (j7 (sIf (tOr (tNot (tEQ (vE (jJ Qz [(cH (j9 (vV 0) (C9 0))),(cV 2)])))) (tOr (tNot (tEQ (vE (jJ jxe [(cH (j9 (vV 0) (C9 1))),(cV 1)])))) (tNot (tEQ (vE (jJ KQ [(cH (j9 (vV 0) (C9 2))),(cF1 (pu1 v3) (vV 3))])))))) (jK (cC (.bl false))) qQ)
  (jK (jJ YX [(cH (j9 (vV 0) (C9 3))),(cV 1),(cH (j9 (vV 3) (j9 (vV 0) (C9 2))))]))))
noncomputable def YY:Fn:=fn 4
  (jK (cF1 (pu1 Jk) (vE (cLC .rt 1 [1,2,3] (itS (cV 0)) (.n 0) tYes (jJ Z7 [(cV 0),(cV 1),(cV 2),(cV 3)])))))
noncomputable def YV:Fn:=fn 1
  (j7 (sIf (tNot (tEQ (vE (jJ Q8 [(cV 0),(cC (.int 3))])))) (jK (cC (.bl false))) qQ)
  (jK (ww (vE (jJ KQ [(cH (j9 (vV 0) (C9 0))),(cF2 jw (C9 3) (C9 1))])) (ww (vE (cF1 (pu1 (jZ "bool")) (j9 (vV 0) (C9 1)))) (cF1 (pu1 (jZ "list")) (j9 (vV 0) (C9 2)))))))
noncomputable def ZZ:Fn:=fn 3
  (j7 (sIf (tOr (tNot (tEQ (vE (cF1 (pu1 (jZ "list")) (vV 0))))) (tNot (tE (zW fLe fLe (C9 1) (vE (cF1 (pu1 v3) (vV 0))) (C9 12))))) (jK (cC (.bl false))) qQ)
  (j7 (sIf (tNot (tEQ (vE (cF1 (pu1 Jk) (vE (cLC .rt 1 [] (itS (cV 0)) (.n 0) tYes (jJ YV [(cV 0)]))))))) (jK (cC (.bl false))) qQ)
  (j7 (sIf (tE (cF2 (pu2 fGt) (vE (cF1 (pu1 Zj) (vE (cLC .rt 1 [] (itS (cV 0)) (.n 0) tYes (cF1 (pu1 v3) (j9 (vV 0) (C9 2))))))) (C9 120))) (jK (cC (.bl false))) qQ)
  (j7 (jk 2 (cLC .rt 1 [] (itS (cV 0)) (.n 0) tYes (cH (j9 (vV 0) (C9 0)))))
  (jK (cF1 (pu1 Jk) (vE (cLC .rt 1 [1,2] (itS (cV 0)) (.n 0) tYes (jJ YY [(cH (j9 (vV 0) (C9 2))),(cH (j9 (vV 0) (C9 0))),(cV 1),(cV 2)])))))))))
noncomputable def KZ:Fn:=fn 1
  (jK (ww (vE (jJ Q8 [(cV 0),(cC (.int 2))])) (ww (vE (jJ Z8 [(cH (j9 (vV 0) (C9 0)))])) (jJ ZZ [(cH (j9 (vV 0) (C9 1))),(cH (j9 (vV 0) (C9 0)))]))))
def jvu:Fn:=fn 1
  (jK (jz .no [(cH (j9 (vV 0) (C9 0))),(cH (j9 (vV 0) (C9 1))),(cF1 K1 (j9 (vV 0) (C9 2)))]))
noncomputable def Zw:Fn:=fn 1
  (j7 (sIf (tNot (tEQ (vE (jJ KZ [(cV 0)])))) (sRz "NoMachine") qQ)
  (jK (jz .no [(cF1 K1 (j9 (vV 0) (C9 0))),(cLC .rt 1 [] (itS (cH (j9 (vV 0) (C9 1)))) (.n 0) tYes (jJ jvu [(cV 0)]))])))
def m__law_cell_at : Fn:= B.m__law_cell_at
def m__law_mixed : Fn:= A.m__law_mixed
def m__law_words : Fn:= A.m__law_words
noncomputable def Q5:Fn:=fn 2
  (j7 (sIf (tE (cF2 (pu2 fEq) (vE (cF2 (pu2 jv) (vV 0) (C9 4))) (C9 1))) (j7 (jk 1 (jV .rt [(cC (.str "any")),(cC (.str "fresh")),(cC (.str "good")),(cC (.str "new")),(cC (.str "none")),(cC (.str "room")),(cC (.str "signs"))]))
  (jK (cF1 KW (vE (jV .rt [(cH (j9 (vV 1) (vE (cF2 (pu2 jv) (vE (cF2 (pu2 kw) (vV 0) (C9 4))) (C9 7))))),(cH (j9 (vV 1) (vE (cF2 (pu2 jv) (vE (cF2 (pu2 kw) (vV 0) (C9 28))) (C9 7))))),(cH (j9 (vV 1) (vE (cF2 (pu2 jv) (vE (cF2 (pu2 kw) (vV 0) (C9 196))) (C9 7)))))]))))) qQ)
  (jK (cF1 VW (vE (jJ m__law_words [(cF2 (pu2 kw) (vV 0) (C9 4)),(cF2 jw (C9 1) (vE (cF2 (pu2 jv) (vE (cF2 (pu2 kw) (vV 0) (C9 32))) (C9 3))))])))))
noncomputable def Z1:Fn:=fn 2
  (j7 (sIf (tOr (tE (cF2 (pu2 fEq) (vE (cF2 (pu2 jv) (vV 0) (C9 4))) (C9 0))) (tAnd (tE (cF2 (pu2 fEq) (vE (cF2 (pu2 jv) (vV 0) (C9 4))) (C9 1))) (tE (cF2 (pu2 fEq) (vV 1) (C9 0))))) (jK (cC .non)) qQ)
  (j7 (sIf (tAnd (tE (cF2 (pu2 fLt) (vE (cF2 (pu2 jv) (vV 0) (C9 4))) (C9 3))) (tE (cF2 (pu2 fGt) (vV 1) (C9 0)))) (jK (cF2 (pu2 jv) (vE (cF2 (pu2 kw) (vV 0) (C9 4))) (vV 1))) qQ)
  (jK (cC (.str "new")))))
noncomputable def Wx:Fn:=fn 8
  (j7 (jk 4 (jJ m__law_mixed [(cV 0),(cC (.int 0))]))
  (j7 (jk 5 (cF2 (pu2 jv) (vE (cF2 (pu2 kw) (vV 4) (C9 3))) (vE (cF1 (pu1 v3) (vV 3)))))
  (j7 (jk 6 (cH (j9 (vE (cF2 jw (vE (jV .rt [(cC (.str "fresh")),(cC (.str "any")),(cC (.str "fresh"))])) (vE (cLC .rt 1 [] (kY (j9 (vV 3) (vV 2))) (.n 0) tYes (cV 0))))) (vE (cF2 (pu2 jv) (vE (cF2 (pu2 kw) (vV 4) (C9 60))) (vE (cF2 jw (C9 3) (j9 (vV 3) (vV 2)))))))))
  (j7 (jk 7 (cF1 Jv (vE (cLC .rt 1 [4,3,2] (kY (j9 (vV 3) (vV 5))) (.n 0) tYes (jJ Z1 [(cF2 (pu2 kw) (vV 1) (j9 (vE (jV .rt [(cC (.int 720)),(cC (.int 46080)),(cC (.int 2949120))])) (vV 0))),(cH (j9 (vV 2) (vV 3)))])))))
  (jK (jz .no [(cH (j9 (vV 1) (vE (cF2 (pu2 jv) (vV 4) (vE (cF1 (pu1 v3) (vV 1))))))),(cV 6),(cV 5),(cV 7)]))))))
noncomputable def VZ:Fn:=fn 10
  (j7 (jk 2 (jJ m__law_mixed [(jJ m__law_cell_at [(cV 0),(cC (.int 0))]),(cC (.int 0))]))
  (j7 (jk 3 (jJ Q5 [(jJ m__law_cell_at [(cV 0),(cC (.int 1))])]))
  (j7 (jk 4 (cF2 jw (C9 1) (vE (cF2 (pu2 jv) (vV 2) (C9 4)))))
  (j7 (sIf (tE (cF2 (pu2 fEq) (vE (cF2 (pu2 jv) (vE (cF2 (pu2 kw) (vV 2) (C9 4))) (C9 6))) (C9 1))) (jk 4 (cF2 jw (C9 5) (vE (cF2 (pu2 jv) (vE (cF2 (pu2 kw) (vV 2) (C9 24))) (C9 8))))) qQ)
  (j7 (jk 5 (cLC .rt 1 [0] (kY (vV 4)) (.n 0) tYes (cF2 (pu2 jv) (vE (jJ m__law_mixed [(jJ m__law_cell_at [(cV 1),(cC (.int 2))]),(cV 0)])) (C9 4))))
  (j7 (jk 6 (cLC .dp 1 [] (kY (vV 4)) (.n 0) tYes (jV .dp [])))
  (j7 (wX (itS (cSl (vV 0) (some (vV 1)) (some (vE (cF2 jw (vV 1) (C9 50)))))) (.n 7) (j7 (jk 8 (cF2 (pu2 jv) (vE (jJ m__law_mixed [(cV 7),(cC (.int 12))])) (vV 4)))
  (j7 (K8 6 (vV 8) (jJ Wx [(cV 7),(cV 3),(cV 8),(cV 5)]))
  (sIf (tAnd (tE (cF2 (pu2 fEq) (vE (cF2 (pu2 jv) (vE (cF2 (pu2 kw) (vV 2) (C9 200))) (C9 4))) (C9 1))) (tE (cF2 (pu2 fEq) (vE (cF2 (pu2 jv) (vV 7) (C9 3))) (C9 1)))) (K8 6 (vV 8) (cH (j9 (j9 (vV 6) (vV 8)) (C9 0)))) qQ))))
  (j7 (jk 9 (cLC .rt 1 [0] (kY (vV 4)) (.n 0) tYes (cF2 (pu2 fEq) (vE (cF2 (pu2 jv) (vE (jJ m__law_mixed [(jJ m__law_cell_at [(cV 1),(cC (.int 3))]),(cV 0)])) (C9 2))) (C9 1))))
  (sFz 6 (jK (jz .no [(cV 3),(cLC .rt 1 [5,9,6] (kY (vV 4)) (.n 0) tYes (jz .no [(cH (j9 (vV 1) (vV 0))),(cH (j9 (vV 2) (vV 0))),(cH (j9 (vV 3) (vV 0)))]))])))))))))))
noncomputable def YQ:Fn:=fn 11
  (j7 (jk 4 (cH (j9 (j9 (j9 (vV 1) (C9 1)) (vV 2)) (C9 0))))
  (j7 (jk 5 (cF2 (pu2 jv) (vE (cF2 (pu2 kw) (vV 3) (C9 7))) (vE (cF1 (pu1 v3) (j9 (vV 1) (C9 1))))))
  (j7 (jk 6 (cF1 Jv (vE (cLC .rt 1 [] (kY (j9 (j9 (j9 (vV 1) (C9 1)) (vV 5)) (C9 0))) (.n 0) tYes (cC .non)))))
  (j7 (jk 7 (cH (j9 (j9 (vV 1) (C9 0)) (vE (cF2 (pu2 jv) (vV 3) (vE (cF1 (pu1 v3) (j9 (vV 1) (C9 0)))))))))
  (j7 (jk 8 (jV .rt [(jV .rt [(cV 7),(cC (.str "fresh")),(cV 5),(cV 6)]),(jz .no [(cV 7),(cC (.str "fresh")),(cV 5)]),(jz .no [(cV 7),(cC (.str "fresh")),(cV 5),(cV 6),(cC .non)])]))
  (j7 (jk 8 (cF2 jw (vV 8) (vE (jV .rt [(jz .no [(cF2 jw (vV 7) (vE (cC (.str "zzzzzzzz")))),(cC (.str "any")),(cV 5),(cV 6)]),(jz .no [(cC .non),(cC (.str "any")),(cV 5),(cV 6)]),(jz .no [(cV 7),(cC (.str "old")),(cV 5),(cV 6)])]))))
  (j7 (jk 8 (cF2 jw (vV 8) (vE (jV .rt [(jz .no [(cV 7),(cV 4),(cV 5),(cV 6)]),(jz .no [(cV 7),(cF1 (pu1 KK) (C9 1)),(cV 5),(cV 6)])]))))
  (j7 (jk 8 (cF2 jw (vV 8) (vE (jV .rt [(jz .no [(cV 7),(cC .non),(cV 5),(cV 6)]),(jz .no [(cV 7),(cC (.str "any")),(cF1 (pu1 v3) (j9 (vV 1) (C9 1))),(cV 6)]),(jz .no [(cV 7),(cC (.str "any")),(cF1 (pu1 KK) (C9 1)),(cV 6)])]))))
  (j7 (jk 8 (cF2 jw (vV 8) (vE (jV .rt [(jz .no [(cV 7),(cC (.str "any")),(cV 5),(cF1 K1 (vV 6))]),(jz .no [(cV 7),(cC (.str "any")),(cV 5),(cF2 jw (vV 6) (vE (jz .no [(cC .non)])))]),(jz .no [(cV 7),(cC (.str "any")),(cC .non),(cV 6)])]))))
  (j7 (jk 8 (cF2 jw (vV 8) (vE (jV .rt [(jz .no [(cV 7),(cC (.str "any")),(cC (.bl true)),(cV 6)]),(jz .no [(cV 7),(cC (.bl true)),(cV 5),(cV 6)]),(jz .no [(cF1 (pu1 fUp) (vV 7)),(cC (.str "any")),(cV 5),(cV 6)])]))))
  (j7 (sIf (tAnd (tE (cF2 (pu2 fGt) (vE (cF1 (pu1 v3) (vV 6))) (C9 0))) (tE (cF2 (pu2 fGt) (vE (cF2 (pu2 jv) (vV 0) (C9 3))) (C9 0)))) (j7 (jk 9 (cF2 (pu2 jv) (vE (cF2 (pu2 kw) (vV 3) (C9 90))) (vE (cF1 (pu1 v3) (vV 6)))))
  (j7 (jk 10 (cH (j9 (vE (jV .rt [(cV 4),(cF1 (pu1 KK) (C9 1)),(cC (.str "old")),(cC (.str "none")),(cC (.bl true)),(jz .no [(cC (.int 0))])])) (vE (cF2 (pu2 jv) (vE (cF2 (pu2 kw) (vV 3) (C9 500))) (C9 6))))))
  (jK (jz .no [(cV 7),(cC (.str "any")),(cV 5),(cF2 jw (vE (cF2 jw (vE (cSl (vV 6) none (some (vV 9)))) (vE (jz .no [(cV 10)])))) (vE (cSl (vV 6) (some (vE (cF2 jw (vV 9) (C9 1)))) none)))])))) qQ)
  (jK (cH (j9 (vV 8) (vE (cF2 (pu2 jv) (vE (cF2 (pu2 kw) (vV 0) (C9 3))) (C9 17)))))))))))))))))
noncomputable def ZJ:Fn:=fn 6
  (j7 (Qv [2,3,4] (cV 1))
  (j7 (jk 5 (jV .rt [(jV .rt [(cV 2),(cV 3),(cV 4)]),(jz .no [(cV 2),(cV 3)]),(jz .no [(cV 2),(cV 3),(cV 4),(cC .non)]),(jz .no [(cC (.int 4)),(cV 3),(cV 4)])]))
  (j7 (jk 5 (cF2 jw (vV 5) (vE (jV .rt [(jz .no [(cF1 (pu1 KK) (C9 1)),(cV 3),(cV 4)]),(jz .no [(cC .non),(cV 3),(cV 4)]),(jz .no [(cC (.bl true)),(cV 3),(cV 4)]),(jz .no [(cV 2),(cF1 (pu1 W7) (vV 3)),(cV 4)])]))))
  (j7 (jk 5 (cF2 jw (vV 5) (vE (jV .rt [(jz .no [(cV 2),(cC .non),(cV 4)])]))))
  (jK (cH (j9 (vE (cF2 jw (vV 5) (vE (jV .rt [(jz .no [(cV 2),(cV 3),(cF1 Jv (vV 4))]),(jz .no [(cV 2),(cV 3),(cC .non)]),(cC .non)])))) (vE (cF2 (pu2 jv) (vV 0) (C9 12))))))))))
noncomputable def Zx:Fn:=fn 7
  (j7 (Qv [2,3] (cV 1))
  (j7 (jk 4 (jz .no [(cC (.int 0)),(cC (.bl false)),(jV .rt [])]))
  (j7 (jk 5 (jV .rt [(jV .rt [(cV 2),(cV 3)]),(jz .no [(cV 2)]),(jz .no [(cV 2),(cV 3),(cC .non)]),(cC .non),(jz .no [(cF1 Jv (vV 2)),(cV 3)]),(jz .no [(jV .rt []),(jV .rt [(cV 4)])])]))
  (j7 (jk 5 (cF2 jw (vV 5) (vE (jV .rt [(jz .no [(jV .rt [(cC (.str "a")),(cC (.str "b")),(cC (.str "c")),(cC (.str "d"))]),(jV .rt [(cV 4)])]),(jz .no [(cF2 jw (vV 2) (vE (cSl (vV 2) (some (vE (cF1 (pu1 KK) (C9 1)))) none))),(cV 3)]),(jz .no [(jV .rt [(cC (.str "b")),(cC (.str "a"))]),(jV .rt [(cV 4)])])]))))
  (j7 (jk 5 (cF2 jw (vV 5) (vE (jV .rt [(jz .no [(jV .rt [(cC (.str "a")),(cC (.str "B"))]),(jV .rt [(cV 4)])])]))))
  (j7 (jk 5 (cF2 jw (vV 5) (vE (jV .rt [(jz .no [(cV 2),(jV .rt [])]),(jz .no [(cV 2),(cLC .rt 1 [4] (kY (C9 13)) (.n 0) tYes (cV 1))]),(jz .no [(cV 2),(cF1 Jv (vV 3))]),(jz .no [(cV 2),(cC .non)])]))))
  (j7 (jk 6 (jz .no [(cH (j9 (vV 2) (C9 0))),(cC (.str "any")),(cC (.int 0)),(jz .no [])]))
  (j7 (jk 5 (cF2 jw (vV 5) (vE (jV .rt [(jz .no [(cV 2),(jV .rt [(jz .no [(cC (.int 0)),(cC (.bl true)),(cLC .rt 1 [6] (kY (C9 121)) (.n 0) tYes (cV 1))])])]),(cC (.str "machine")),(cC (.int 5)),(jz .no [(jV .rt [(cC (.str "a")),(cC (.str ""))]),(jV .rt [(cV 4)])])]))))
  (jK (cH (j9 (vV 5) (vE (cF2 (pu2 jv) (vV 0) (C9 18))))))))))))))
noncomputable def Yz:Fn:=fn 10
  (j7 (jk 2 (cF2 (pu2 jv) (vV 1) (C9 4)))
  (j7 (jk 3 (cF2 (pu2 jv) (vE (cF2 (pu2 kw) (vV 1) (C9 4))) (vE (cF1 (pu1 v3) (j9 (vV 0) (C9 1))))))
  (j7 (jk 4 (cF1 K1 (j9 (vV 0) (C9 1))))
  (j7 (sIf (tE (cF2 (pu2 fEq) (vV 2) (C9 0))) (jK (jJ Zx [(cF2 (pu2 kw) (vV 1) (C9 48)),(cV 0)])) qQ)
  (j7 (sIf (tE (cF2 (pu2 fEq) (vV 2) (C9 1))) (j7 (YJ 4 (vV 3) (jJ ZJ [(cF2 (pu2 kw) (vV 1) (C9 48)),(cH (j9 (vV 4) (vV 3)))]))
  (jK (jz .no [(cH (j9 (vV 0) (C9 0))),(cV 4)]))) qQ)
  (j7 (Qv [5,6,7] (cH (j9 (vV 4) (vV 3))))
  (j7 (jk 8 (cF2 (pu2 jv) (vE (cF2 (pu2 kw) (vV 1) (C9 48))) (vE (cF2 jw (vE (cF1 (pu1 v3) (vV 7))) (C9 1)))))
  (j7 (jk 9 (jJ YQ [(cF2 (pu2 jv) (vE (cF2 (pu2 kw) (vV 1) (C9 48))) (C9 51)),(cV 0),(cV 3),(cF2 (pu2 kw) (vV 1) (C9 2448))]))
  (j7 (YJ 4 (vV 3) (jz .no [(cV 5),(cV 6),(cF2 jw (vE (cF2 jw (vE (cSl (vV 7) none (some (vV 8)))) (vE (jV .rt [(cV 9)])))) (vE (cSl (vV 7) (some (vV 8)) none)))]))
  (jK (jz .no [(cH (j9 (vV 0) (C9 0))),(cV 4)])))))))))))
noncomputable def Z2:Fn:=fn 3
  (j7 (jk 1 (cC (.bl false)))
  (j7 (Kj ["NoMachine"] 2 (qwg (W6 Zw [(cV 0)])) (j7 (jk 1 (ww (vE (cF1 (pu1 (xk [("NoMachine",true)])) (vV 2))) (cF1 (pu1 (xk [("NoMachine",true)])) (vV 2))))
  (j7 (jk 1 (ww (vV 1) (Vv (vE (cF1 (pu1 (xk [("NoMachine",false)])) (vV 2))))))
  (jk 1 (ww (vV 1) (Vv (vE (cF1 (pu1 (xk [("NoMachine",false)])) (vV 2)))))))))
  (jK (cMv 1))))
noncomputable def m_law:Fn:=fn 5
  (j7 (jk 1 (jJ VZ [(cV 0),(cC (.int 6))]))
  (j7 (sIf (tE (cF2 (pu2 Qk) (vE (jJ KZ [(cV 1)])) (vE (cC (.bl true))))) (jK (cC (.bl false))) qQ)
  (j7 (wX (kY (C9 3)) (.n 2) (j7 (jk 3 (cF2 jw (vE (cF2 qY (vE (jJ m__law_mixed [(jJ m__law_cell_at [(cV 0),(cC (.int 4))]),(cV 2)])) (C9 1000003))) (vE (jJ m__law_mixed [(jJ m__law_cell_at [(cV 0),(cC (.int 5))]),(cV 2)]))))
  (j7 (jk 4 (jJ Yz [(cV 1),(cV 3)]))
  (sIf (tOr (tE (cF2 (pu2 Qk) (vE (jJ KZ [(cV 4)])) (vE (cC (.bl false))))) (tNot (tEQ (vE (jJ Z2 [(cV 4)]))))) (jK (cC (.bl false))) qQ))))
  (jK (cF2 (pu2 vzc) (vE (jJ KZ [(cV 1)])) (vE (cC (.bl true))))))))
end Nk11
namespace Nk11
open Q PySem C
abbrev Is(f:Fn)(xs:List Sd)(b:Bool):Prop:=Oo f xs (λy=>∃o':Own,y=(o',.bl b)/\True) noX
theorem qzd{n:Nat}{d:D}(h:d.flat n=true)(u:String):jZ u d=some (.bl (wq4 (kind d) u)):=by
 cases d with
 |dct _=>cases n<;>simp[D.flat]at h
 |obj _ _=>cases n<;>simp[D.flat]at h
 |_=>rfl
def wjp:D->Bool
 |.int _=>true
 |_=>false
theorem qw5{n:Nat}{d:D}(h:d.flat n=true):Is Z6 [(.no,d)] (wjp d):=by
 have i1:=qzd h "int";have i2:=qzd h "bool";unfold Z6;refine qz ?_;cases d with
 |int i=>
  have i1:jZ "int" (.int i)=some (.bl true):=rfl;have i2:jZ "bool" (.int i)=some (.bl false):=rfl;simp![i1,i2];exact⟨_,rfl,trivial⟩
 |bl b=>
  have i1:jZ "int" (.bl b)=some (.bl true):=rfl;have i2:jZ "bool" (.bl b)=some (.bl true):=rfl;simp![i1,i2];exact⟨_,rfl,trivial⟩
 |non=>
  have i1:jZ "int" .non=some (.bl false):=rfl;simp![i1];exact⟨_,rfl,trivial⟩
 |str z=>
  have i1:jZ "int" (.str z)=some (.bl false):=rfl;simp![i1];exact⟨_,rfl,trivial⟩
 |tup z=>
  have i1:jZ "int" (.tup z)=some (.bl false):=rfl;simp![i1];exact⟨_,rfl,trivial⟩
 |lst z=>
  have i1:jZ "int" (.lst z)=some (.bl false):=rfl;simp![i1];exact⟨_,rfl,trivial⟩
 |dct _=>cases n<;>simp[D.flat]at h
 |obj _ _=>cases n<;>simp[D.flat]at h
def qJ(d:D)(n:Int):Bool:=match d with
 |.int i=>decide (0<=i)&&decide (i<n)
 |_=>false
theorem jzt{k:Nat}{d:D}{n:Int}(h:d.flat k=true):Is KQ [(.no,d),(.no,.int n)] (qJ d n):=by
 unfold KQ;refine qz ?_;simp![];refine(qw5 h).use ?_;intro _ _;cases d with
 | int i=>
  have e0:wjp (.int i)=true:=rfl
  by_cases h0:0<=i
  ·by_cases h1:i<n
   ·have e1:fLe (.int 0) (.int i)=some (.bl true):=by rw[le_ii];simp[h0]
    have e2:fLt (.int i) (.int n)=some (.bl true):=by rw[lt_ii];simp[h1]
    simp![e0,e1,e2];exact⟨_,by simp[qJ,h0,h1];rfl,trivial⟩
   ·have e1:fLe (.int 0) (.int i)=some (.bl true):=by rw[le_ii];simp[h0]
    have e2:fLt (.int i) (.int n)=some (.bl false):=by rw[lt_ii];simp[h1]
    simp![e0,e1,e2];exact⟨_,by simp[qJ,h0,h1];rfl,trivial⟩
  ·have e1:fLe (.int 0) (.int i)=some (.bl false):=by rw[le_ii];simp[h0]
   simp![e0,e1];exact⟨_,by simp[qJ,h0];rfl,trivial⟩
 |dct _=>cases k<;>simp[D.flat]at h
 |obj _ _=>cases k<;>simp[D.flat]at h
 |_=>
  simp![wjp];exact⟨_,rfl,trivial⟩
def vqa(d:D)(n:Nat):Bool:=match d with
 |.tup ds=>decide (ds.length=n)
 |_=>false
theorem jzm {k : Nat} {d : D} {n : Nat} (h : d.flat k = true): Is Q8 [(.no, d), (.no, .int n)] (vqa d n):= by
  unfold Q8;refine qz ?_;cases d with
  | tup ds =>
    have i1 : jZ "tuple" (.tup ds) = some (.bl true):= rfl;have e : fEq (.int ds.length) (.int n) = some (.bl (decide (ds.length = n))):= by rw[J4]; congr 2; exact decide_eq_decide.mpr (by omega)
    simp![i1, e];exact ⟨_, rfl, trivial⟩
  | dct _ => cases k <;> simp[D.flat]at h
  | obj _ _ =>cases k <;> simp[D.flat]at h
  | non => have i1 : jZ "tuple" .non = some (.bl false):= rfl
           simp![i1]; exact⟨_, rfl, trivial⟩
  | bl b => have i1 : jZ "tuple" (.bl b) = some (.bl false):= rfl
            simp![i1]; exact⟨_, rfl, trivial⟩
  | int b => have i1 : jZ "tuple" (.int b) = some (.bl false):= rfl
             simp![i1]; exact⟨_, rfl, trivial⟩
  | str b => have i1 : jZ "tuple" (.str b) = some (.bl false):= rfl
             simp![i1]; exact⟨_, rfl, trivial⟩
  | lst b => have i1 : jZ "tuple" (.lst b) = some (.bl false):= rfl
             simp![i1]; exact⟨_, rfl, trivial⟩
def wV(d:D)(ss:List Str):Bool:=match d with
 |.str z=>ss.any λw=>w==z
 |_=>false
theorem qq3 {k : Nat} {d q : D} {ss : List Str} (h : d.flat k = true) (hq : ∀z, zV (.str z) q = some (.bl (ss.any λw=>w==z))): Is Qz [(.no, d), (.no, q)] (wV d ss):= by
  unfold Qz;refine qz ?_;cases d with
  | str z=>
    have i1 : jZ "str" (.str z) = some (.bl true):= rfl;simp![i1, hq z];exact ⟨_, rfl, trivial⟩
  | dct _ => cases k <;> simp[D.flat]at h
  | obj _ _ =>cases k <;> simp[D.flat]at h
  | non => have i1 : jZ "str" .non = some (.bl false):= rfl
           simp![i1]; exact⟨_, rfl, trivial⟩
  | bl b => have i1 : jZ "str" (.bl b) = some (.bl false):= rfl
            simp![i1]; exact⟨_, rfl, trivial⟩
  | int b => have i1 : jZ "str" (.int b) = some (.bl false):= rfl
             simp![i1]; exact⟨_, rfl, trivial⟩
  | tup b => have i1 : jZ "str" (.tup b) = some (.bl false):= rfl
             simp![i1]; exact⟨_, rfl, trivial⟩
  | lst b => have i1 : jZ "str" (.lst b) = some (.bl false):= rfl
             simp![i1]; exact⟨_, rfl, trivial⟩
theorem vx2{z:Str}{ss:List Str}:zV (.str z) (.tup (ss.map D.str))=some (.bl (ss.any λw=>w==z)):=by
 have:=@wq5 z ss;unfold zV at this ⊢;dsimp only[sL]at this ⊢;exact this
def J8(own:Int)(d:D):Bool:=isNon d||(wV d ["new"]||qJ d own)
theorem vkk{k:Nat}{own:Int}{d:D}(h:d.flat k=true):Is YK [(.no,d),(.no,.int own)] (J8 own d):=by
 have q:∀z,zV (.str z) (.tup [.str "new"])=some (.bl ((["new"]:List Str).any λw=>w==z)):=λz=>vx2 (ss:=["new"])
 unfold YK;refine qz ?_;cases hn:isNon d with
 | true=>
  cases d with
  |non=>simp![];exact⟨_,rfl,trivial⟩
  |_=>cases hn
 | false=>
  have e:fIsNon d=some (.bl false):=by unfold fIsNon;rw[hn]
  unfold J8;rw[hn];simp![e];rw[Xl (by intro h';exact absurd (hn.symm.trans h') (by decide))];refine(qq3 h q).use ?_;intro _ _;cases ho:wV d ["new"]with
  |true=>simp![];exact⟨_,rfl,trivial⟩
  |false=>
   simp![];refine(jzt h).use ?_;intro _ _;simp![];exact⟨_,rfl,trivial⟩
def K6(own:Int)(d:D):Bool:=wV d ["fresh","any"]||qJ d own
theorem vxm{k:Nat}{own:Int}{d:D}(h:d.flat k=true):Is jxe [(.no,d),(.no,.int own)] (K6 own d):=by
 have q:∀z,zV (.str z) (.tup [.str "fresh",.str "any"])=some (.bl ((["fresh","any"]:List Str).any λw=>w==z)):=λz=>vx2 (ss:=["fresh","any"])
 unfold jxe K6;refine qz ?_;simp![];refine(qq3 h q).use ?_;intro _ _;cases ho:wV d ["fresh","any"]with
 |true=>simp![];exact⟨_,rfl,trivial⟩
 |false=>
  simp![];refine(jzt h).use ?_;intro _ _;simp![];exact⟨_,rfl,trivial⟩
theorem qvp(g:D->Bool):∀ds:List D,bls (ds.map λd=>D.bl (g d))=some (ds.map g)
 |[]=>rfl
 |d::ds=>by
  rw[List.map_cons,bls,qvp g ds];rfl
theorem Q7(g:D->Bool)(ds:List D):Jk (.lst (ds.map λd=>D.bl (g d)))=some (.bl (ds.all g)):=by
 show(bls (ds.map λd=>D.bl (g d))).map _=_;rw[qvp];simp[List.all_map,Function.comp_def]
theorem Ww{n:Nat}:∀{ds:List D},D.flats n ds=true->∀d∈ds,d.flat n=true
 |a::x,h,d,hd=>by
  rw[D.flats,Bool.and_eq_true]at h;rcases List.mem_cons.mp hd with rfl|hd
  ·exact h.1
  ·exact Ww h.2 d hd
theorem z5{n:Nat}{ds:List D}(h:(D.tup ds).flat n=true):∀d∈ds,d.flat (n - 1)=true:=by
 cases n with
 |zero=>simp[D.flat]at h
 |succ n=>exact Ww (by simpa [D.flat]using h)
theorem ZQ{n:Nat}{ds:List D}(h:(D.lst ds).flat n=true):∀d∈ds,d.flat (n - 1)=true:=by
 cases n with
 |zero=>simp[D.flat]at h
 |succ n=>exact Ww (by simpa [D.flat]using h)
def K2(d:D)(own:Int)(au:Nat):Bool:=match d with
 |.tup fs=>decide (fs.length=au)&&fs.all (J8 own)
 |_=>false
theorem qxa {k : Nat} {own : Int} {au : Nat} {d : D} (h : d.flat k = true): Is YX [(.no, d), (.no, .int own), (.no, .int au)] (K2 d own au):= by
  unfold YX;refine qz ?_;simp![];refine(jzm h).use ?_;intro _ _;cases ht : vqa d au with
  | false=>
    simp![];refine⟨.dp, ?_, trivial⟩;cases d with
    | tup fs => have : decide (fs.length = au) = false:= ht
                simp only[K2, this]; rfl
    | _ =>rfl
  | true=>
    cases d with
    | tup fs=>
      have ht : decide (fs.length = au) = true:= ht;simp![];refine vq [some (.no, .int own)] (λd y=>y.2 = .bl (J8 own d)) ?_;simp![];refine⟨rfl, λd hd=> ?_, λys hy=> ?_⟩
      · simp![]
        refine(vkk (z5 h d hd)).use ?_;intro _ _;exact⟨⟨_, rfl⟩, rfl⟩
      · rw[vx, wj (h:= λd=>.bl (J8 own d)) (λ_ _ h=>h) hy]
        simp![Q7];exact⟨_, by simp only[K2, ht]; rfl, trivial⟩
    |_=>cases ht
end Nk11
namespace Nk11
open Q PySem C
def atK(ks:List Int):D->Int
 |.int t=>ks.getD t.toNat 0
 |_=>0
noncomputable def qW(ss:List Str)(own:Int)(ks:List Int)(d:D):Bool:=match d with
 |.tup [a,b,c,e]=>wV a ss&&K6 own b&&qJ c ks.length&&K2 e own (atK ks c).toNat
 |_=>false
theorem vj0 {k:Nat} {ss:List Str} {own:Int} {ks:List Int} {d:D} (hk:∀k∈ks,0<=k) (h:d.flat k=true):Is Z7 [(.no,d),(.no,.int own),(.no,sL ss),(.no,iL ks)] (qW ss own ks d):=by
 have j0:∀a b c d:D,jQ (.tup [a,b,c,d]) (.int 0)=some a:=λ_ _ _ _=>rfl
 have j1:∀a b c d:D,jQ (.tup [a,b,c,d]) (.int 1)=some b:=λ_ _ _ _=>rfl
 have j2:∀a b c d:D,jQ (.tup [a,b,c,d]) (.int 2)=some c:=λ_ _ _ _=>rfl
 have j3:∀a b c d:D,jQ (.tup [a,b,c,d]) (.int 3)=some d:=λ_ _ _ _=>rfl
 unfold Z7;refine qz ?_;simp![];refine (jzm (n:=4) h).use ?_;intro _ _;cases ht:vqa d 4 with
 | false=>
  simp![];refine⟨.dp,?_,trivial⟩;cases d with
  | tup fs=>
   match fs,ht with
   | [],_=>rfl
   | [_],_=>rfl
   | [_,_],_=>rfl
   | [_,_,_],_=>rfl
   | _ :: _::_::_::_::_,_=>rfl
  | _=>rfl
 | true =>
  cases d with
  | tup fs=>
   match fs,ht,h with
   | [a,b,c,e],_,h=>
    have fa:=z5 h a (by simp);have fb:=z5 h b (by simp);have fc:=z5 h c (by simp);have fe:=z5 h e (by simp);simp![j0];refine(qq3 fa λz=>wq5).use ?_;intro _ _;cases h1:wV a ss with
    | false=>simp![];exact⟨_,by simp only[qW,h1];rfl,trivial⟩
    | true=>
     simp![j1];refine(vxm fb).use ?_;intro _ _;cases h2:K6 own b with
     | false=>simp![];exact⟨_,by simp only[qW,h1,h2];rfl,trivial⟩
     | true=>
      simp![j2];refine(jzt fc).use ?_;intro _ _;cases h3:qJ c ks.length with
      | false=>simp![];exact⟨_,by simp only[qW,h1,h2,h3];rfl,trivial⟩
      | true=>
       cases c with
       |int t=>
        have h3':(decide (0<=t)&&decide (t<ks.length))=true:=h3;have t0:0<=t:=by simp at h3';omega
        have t1:t<ks.length:=by simp at h3';omega
        have hg:ks[t.toNat]?=some (ks.getD t.toNat 0):=by rw[X5,X1 (by omega)];rfl
        have hx:jQ (iL ks) (.int t)=some (.int (ks.getD t.toNat 0)):=v9 t0 (by rw[Xh,hg];rfl);have hn:ks.getD t.toNat 0=((ks.getD t.toNat 0).toNat:Int):=by have:=hk _ (List.mem_of_getElem? hg);omega
        simp![j2,j3,hx];rw[hn];refine(qxa fe).use ?_;intro _ _;simp![];exact⟨_,by simp only[qW,h1,h2,h3,atK];rfl,trivial⟩
       |_=>cases h3
  |_=>cases ht
theorem qw8{k:Nat}{ss:List Str}{own:Int}{ks:List Int}{st:List D}(hk:∀k∈ks,0<=k)(h:∀d∈st,d.flat k=true):Is YY [(.no,.lst st),(.no,.int own),(.no,sL ss),(.no,iL ks)] (st.all (qW ss own ks)):=by
 unfold YY;refine qz ?_;simp![];refine vq [some (.no,.int own),some (.no,sL ss),some (.no,iL ks)] (λd y=>y.2=.bl (qW ss own ks d)) ?_;simp![];refine⟨rfl,λd hd=>?_,λys hy=>?_⟩
 ·simp![];refine(vj0 hk (h d hd)).use ?_;intro _ _;exact⟨⟨_,rfl⟩,rfl⟩
 ·rw[vx,wj (h:=λd=>.bl (qW ss own ks d)) (λ_ _ h=>h) hy];simp![Q7];exact⟨_,rfl,trivial⟩
def XY:D->Bool
 |.bl _=>true
 |_=>false
def J3:D->Bool
 |.lst _=>true
 |_=>false
def wJ(d:D):Bool:=match d with
 |.tup [a,b,c]=>qJ a 4&&XY b&&J3 c
 |_=>false
theorem qze{n:Nat}{d:D}(h:d.flat n=true):jZ "bool" d=some (.bl (XY d)):=by
 cases d with
 |dct _=>cases n<;>simp[D.flat]at h
 |obj _ _=>cases n<;>simp[D.flat]at h
 |_=>rfl
theorem kx1{n:Nat}{d:D}(h:d.flat n=true):jZ "list" d=some (.bl (J3 d)):=by
 cases d with
 |dct _=>cases n<;>simp[D.flat]at h
 |obj _ _=>cases n<;>simp[D.flat]at h
 |_=>rfl
theorem qx9{k:Nat}{d:D}(h:d.flat k=true):Is YV [(.no,d)] (wJ d):=by
 have j0:∀a b c:D,jQ (.tup [a,b,c]) (.int 0)=some a:=λ_ _ _=>rfl
 have j1:∀a b c:D,jQ (.tup [a,b,c]) (.int 1)=some b:=λ_ _ _=>rfl
 have j2:∀a b c:D,jQ (.tup [a,b,c]) (.int 2)=some c:=λ_ _ _=>rfl
 unfold YV;refine qz ?_;simp![];refine(jzm (n:=3) h).use ?_;intro _ _;cases ht:vqa d 3 with
 | false=>
  simp![];refine⟨.dp,?_,trivial⟩;cases d with
  | tup fs=>
   match fs,ht with
   | [],_=>rfl
   | [_],_=>rfl
   | [_,_],_=>rfl
   | _::_::_::_::_,_=>rfl
  | _=>rfl
 | true=>
  cases d with
  | tup fs=>
   match fs,ht,h with
   | [a,b,c],_,h=>
    have fa:=z5 h a (by simp);have fb:=z5 h b (by simp);have fc:=z5 h c (by simp);simp![j0];refine(jzt fa).use ?_;intro _ _;cases h1:qJ a 4 with
    | false=>
     have h1':qJ a (3+1)=false:=h1;simp![h1'];exact⟨_,by simp only[wJ,h1];rfl,trivial⟩
    | true=>
     have h1':qJ a (3+1)=true:=h1;cases h2:XY b with
     |false=>
      simp![h1',j1,qze fb,h2];exact⟨_,by simp only[wJ,h1,h2];rfl,trivial⟩
     |true=>
      simp![h1',j1,j2,qze fb,h2,kx1 fc];exact⟨_,by simp only[wJ,h1,h2];rfl,trivial⟩
  |_=>cases ht
def vX:D->Int
 |.tup [.int k,_,_]=>k
 |_=>0
def vJ:D->List D
 |.tup [_,_,.lst s]=>s
 |_=>[]
def xY(rs:List D):Nat:=(rs.map λr=>(vJ r).length).sum
noncomputable def zK(ss:List Str)(rs:List D):Bool:=decide (1<=rs.length)&&decide (rs.length<=12)&&rs.all wJ&&decide (xY rs<=120)&&rs.all λr=>(vJ r).all (qW ss (vX r) (rs.map vX))
theorem kqg{d:D}(h:wJ d=true):∃k g st,d=.tup [.int k,.bl g,.lst st]/\0<=k/\k<=3:=by
 match d,h with
 | .tup [a,b,c],h=>
  simp only[wJ,Bool.and_eq_true]at h;obtain⟨⟨h1,h2⟩,h3⟩:=h;cases a with
  | int k=>
   cases b with
   | bl g=>
    cases c with
    |lst st=>
     have h1:(decide (0<=k)&&decide (k<4))=true:=h1;simp at h1;exact⟨k,g,st,rfl,h1.1,by omega⟩
    |_=>cases h3
   |_=>cases h2
  |_=>cases h1
theorem kz6:∀ja:List D,J7 (ja.map λd=>D.int (vJ d).length)=some (ja.map λd=>((vJ d).length:Int))
 |[]=>rfl
 |d::r=>by rw[List.map_cons,J7,kz6 r];rfl
theorem kxd:∀ja:List D,(ja.map λd=>((vJ d).length:Int)).sum=(xY ja:Nat)
 |[]=>rfl
 |d::r=>by
  have e:xY (d::r)=(vJ d).length+xY r:=by simp[xY]
  rw[e,List.map_cons,List.sum_cons,kxd r];omega
theorem qk4{ja:List D}(h:∀m∈ja,(vJ m).length<=1000)(hl:ja.length<=1000):Zj (.lst (ja.map λd=>D.int (vJ d).length))=some (.int (xY ja:Nat)):=by
 unfold Zj;dsimp only;rw[kz6];dsimp only;have hs:WZ (ja.map λd=>((vJ d).length:Int))=true:=by
  unfold WZ;rw[Yd];intro x hx;obtain⟨m,hm,rfl⟩:=List.mem_map.mp hx;have:=h m hm;rw[Xj (by omega),Xj (by omega)];rfl
 rw[Xe ⟨hs,by rw[X4];omega⟩,kxd]
theorem bk(E:En):back [] [] (clr [] E)=E:=rfl
def xK(ss:List Str)(d:D):Bool:=match d with
 |.lst rs=>zK ss rs
 |_=>false
theorem qwh {k : Nat} {ss : List Str} {d : D} (h : d.flat k = true) (hl : ∀rs, d = .lst rs -> ∀r ∈ rs, (vJ r).length<=1000): Is ZZ [(.no, d), (.no, sL ss)] (xK ss d):= by
  have j0 : ∀a b c : D, jQ (.tup [a, b, c]) (.int 0) = some a:= λ_ _ _=>rfl
  have j2 : ∀a b c : D, jQ (.tup [a, b, c]) (.int 2) = some c:= λ_ _ _=>rfl
  have i1 := kx1 h;unfold ZZ;refine qz ?_;cases d with
  | lst rs =>
    have i1 : jZ "list" (.lst rs) = some (.bl true):= i1
    by_cases h1 : 1<=rs.length
    rotate_left
    · have e1 : fLe (.int 1) (.int rs.length) = some (.bl false):= by rw[le_ii]; simp; omega
      simp![i1, e1];exact ⟨_, by simp only[xK, zK, Xm h1]; rfl, trivial⟩
    have e1 : fLe (.int 1) (.int rs.length) = some (.bl true):= by rw[le_ii]; simp; omega
    by_cases h2 : rs.length<=12
    rotate_left
    · have e2 : fLe (.int rs.length) (.int 12) = some (.bl false):= by rw[le_ii]; simp; omega
      simp![i1, e1, e2];exact ⟨_, by simp only[xK, zK, Xm h2, Bool.and_false, Bool.false_and]; rfl, trivial⟩
    have e2 : fLe (.int rs.length) (.int 12) = some (.bl true):= by rw[le_ii]; simp; omega
    have hl := hl rs rfl;simp![i1, e1, e2];refine vq [] (λd y=>y.2 = .bl (wJ d)) ?_;simp![];refine ⟨λd hd=> ?_, λys hy=> ?_⟩
    · simp![]
      refine (qx9 (ZQ h d hd)).use ?_;intro _ _;exact ⟨⟨_, rfl⟩, rfl⟩
    rw [vx, wj (h:= λd=>.bl (wJ d)) (λ_ _ h=>h) hy, bk];cases i9 : rs.all wJ with
    | false =>
      simp![Q7, i9];exact ⟨_, by simp only[xK, zK, i9, Bool.and_false, Bool.false_and]; rfl, trivial⟩
    | true =>
      have gw : ∀r ∈ rs, wJ r = true:= λr hr=>List.all_eq_true.mp i9 r hr
      simp![Q7, i9];refine vq [] (λd y=>y.2 = .int (vJ d).length) ?_;simp![];refine ⟨λd hd=> ?_, λys hy=> ?_⟩
      · obtain⟨k', g, st, rfl, _⟩:= kqg (gw d hd)
        simp![j2];exact⟨⟨_, rfl⟩, rfl⟩
      rw [vx, wj (h:= λd=>D.int (vJ d).length) (λ_ _ h=>h) hy, bk]
      by_cases h3 : xY rs<=120
      rotate_left
      · have e3 : fGt (.int (xY rs : Nat)) (.int 120) = some (.bl true):= by rw[gt_ii]; simp; omega
        simp![qk4 hl (by omega), e3];exact⟨_, by simp only[xK, zK, Xm h3, Bool.and_false, Bool.false_and]; rfl, trivial⟩
      have e3 : fGt (.int (xY rs : Nat)) (.int 120) = some (.bl false):= by rw[gt_ii]; simp; omega
      simp![qk4 hl (by omega), e3];refine vq [] (λd y=>y.2 = .int (vX d)) ?_;simp![];refine ⟨λd hd=> ?_, λys hy=> ?_⟩
      · obtain⟨k', g, st, rfl, _⟩:= kqg (gw d hd)
        simp![j0];exact⟨⟨_, rfl⟩, rfl⟩
      have ek : rs.map (λd=>D.int (vX d)) = (rs.map vX).map D.int:= by rw[Y3]; rfl
      rw [vx, wj (h:= λd=>D.int (vX d)) (λ_ _ h=>h) hy, bk, ek];have hk0 : ∀k ∈ rs.map vX, 0<=k:= λk hk=>by
        obtain⟨r, hr, rfl⟩:= List.mem_map.mp hk;obtain⟨k', g, st, rfl, a, _⟩:= kqg (gw r hr);exact a
      simp![];refine vxb (λE1 B ds av=> ∃(o : Own) (q : Option Sd) (as : List D), (o = .rt \/ o = .no) /\ B = [q, some (.no, sL ss), some (o, iL (rs.map vX))] /\ rs = as ++ ds /\ av.map (·.2) = as.map λr=>D.bl ((vJ r).all (qW ss (vX r) (rs.map vX)))) ?_ ?_ ?_
      · simp![]
        exact⟨.rt, _, [], .inl rfl, rfl, rfl, rfl⟩
      · rintro E1 B d ds av ⟨o, q, as, ho, rfl, eh, hn⟩
        have hd : d ∈ rs:= by rw[eh]; simp
        obtain⟨k', g, st, e, _⟩:= kqg (gw d hd);have ce : ∀x ∈ st, x.flat (k - 1 - 1 - 1) = true:= by
          have:= ZQ h d hd;rw [e]at this;exact ZQ (z5 this (.lst st) (by simp))
        have eq1 : D.bl ((vJ d).all (qW ss (vX d) (rs.map vX))) = .bl (st.all (qW ss k' (rs.map vX))):= by rw[e]; rfl
        rcases ho with rfl|rfl
        all_goals
          rw [e];simp![j0, j2];refine(qw8 hk0 ce).use ?_;intro _ _;exact⟨.no, _, as ++ [d], .inr rfl, rfl, by rw[eh, Xr]; rfl, by rw[Yj, hn, Yj, List.map_cons, List.map_cons, eq1]; rfl⟩
      · rintro E1 B av ⟨o, q, as, ho, rfl, eh, hn⟩
        rw [Y9]at eh;rw [vx, hn, <-eh];simp![Q7 (λr=>(vJ r).all (qW ss (vX r) (rs.map vX)))];exact⟨_, by simp only[xK, zK, i9, Xj h1, Xj h2, Xj h3]; rfl, trivial⟩
  | non => have i1 : jZ "list" .non = some (.bl false):= i1
           simp![i1]; exact⟨_, rfl, trivial⟩
  | bl b => have i1 : jZ "list" (.bl b) = some (.bl false):= i1
            simp![i1]; exact⟨_, rfl, trivial⟩
  | int b => have i1 : jZ "list" (.int b) = some (.bl false):= i1
             simp![i1]; exact⟨_, rfl, trivial⟩
  | str b => have i1 : jZ "list" (.str b) = some (.bl false):= i1
             simp![i1]; exact⟨_, rfl, trivial⟩
  | tup b => have i1 : jZ "list" (.tup b) = some (.bl false):= i1
             simp![i1]; exact⟨_, rfl, trivial⟩
  |dct _=>cases k <;> simp[D.flat]at h
  |obj _ _=>cases k <;> simp[D.flat]at h
end Nk11
namespace Nk11
open Q PySem C
abbrev AZ:Str:="abcdefghijklmnopqrstuvwxyz"
noncomputable def Jj(d:D):Bool:=match d with
 |.str z=>decide (1<=z.cps.size)&&decide (z.cps.size<=8)&&z.cps.toList.all λc=>JQ ⟨#[c]⟩ AZ
 |_=>false
theorem vxp(z:Str):Jk (.lst (((z.cps.toList.map λc=>D.str ⟨#[c]⟩)).map λd=>D.bl (match d with|.str y=>JQ y AZ|_=>false)))=some (.bl (z.cps.toList.all λc=>JQ ⟨#[c]⟩ AZ)):=by
 rw[Q7,List.all_map];rfl
theorem vj4 {k : Nat} {d : D} (h : d.flat k = true): Is WX [(.no, d)] (Jj d):= by
  unfold WX;refine qz ?_;cases d with
  | str z=>
    have i1 : jZ "str" (.str z) = some (.bl true):= rfl;have l : v3 (.str z) = some (.int z.cps.size):= rfl
    by_cases h1 : 1<=z.cps.size
    rotate_left
    · have e1 : fLe (.int 1) (.int z.cps.size) = some (.bl false):= by rw[le_ii]; simp; omega
      simp![i1, l, e1];exact ⟨_, by simp only[Jj, Xm h1]; rfl, trivial⟩
    have e1 : fLe (.int 1) (.int z.cps.size) = some (.bl true):= by rw[le_ii]; simp; omega
    by_cases h8 : z.cps.size<=8
    rotate_left
    · have e2 : fLe (.int z.cps.size) (.int 8) = some (.bl false):= by rw[le_ii]; simp; omega
      simp![i1, l, e1, e2];exact ⟨_, by simp only[Jj, Xm h8, Bool.and_false, Bool.false_and]; rfl, trivial⟩
    have e2 : fLe (.int z.cps.size) (.int 8) = some (.bl true):= by rw[le_ii]; simp; omega
    have hb : z.cps.size<=big:= by unfold big; omega
    simp![i1, l, e1, e2];refine vq [] (λd y=>y.2 = .bl (match d with|.str y=>JQ y AZ|_=>false)) ?_;simp![hb];refine ⟨λd hd=> ?_, λys hy=> ?_⟩
    · obtain ⟨c, hc, rfl⟩:= List.mem_map.mp hd
      have e : zV (.str ⟨#[c]⟩) (.str "abcdefghijklmnopqrstuvwxyz") = some (.bl (JQ ⟨#[c]⟩ AZ)):= rfl;simp![e];exact ⟨⟨_, rfl⟩, trivial⟩
    · rw[vx, wj (h:= λd=>.bl (match d with|.str y=>JQ y AZ|_=>false)) (λ_ _ h=>h) hy]
      simp![vxp];exact ⟨_, by simp only[Jj, Xj h1, Xj h8]; rfl, trivial⟩
  | dct _ => cases k <;> simp[D.flat]at h
  | obj _ _ =>cases k <;> simp[D.flat]at h
  | non => have i1 : jZ "str" .non = some (.bl false):= rfl
           simp![i1]; exact⟨_, rfl, trivial⟩
  | bl b => have i1 : jZ "str" (.bl b) = some (.bl false):= rfl
            simp![i1]; exact⟨_, rfl, trivial⟩
  | int b => have i1 : jZ "str" (.int b) = some (.bl false):= rfl
             simp![i1]; exact⟨_, rfl, trivial⟩
  | tup b => have i1 : jZ "str" (.tup b) = some (.bl false):= rfl
             simp![i1]; exact⟨_, rfl, trivial⟩
  | lst b => have i1 : jZ "str" (.lst b) = some (.bl false):= rfl
             simp![i1]; exact⟨_, rfl, trivial⟩
def txs(ds:List D):List Str:=ds.map λd=>match d with
 |.str z=>z
 |_=>""
theorem jzu{ds:List D}(h:∀d∈ds,Jj d=true):ds=(txs ds).map D.str:=by
 unfold txs;rw[Y3];refine(List.map_id ds).symm.trans (List.map_congr_left λd hd=>?_);have:=h d hd;cases d with
 |str z=>rfl
 |_=>cases this
theorem kxs:∀a b:List Str,peqs (a.map D.str) (b.map D.str)=decide (a=b)
 | [],[]=>by simp[peqs]
 | [],_::_=>by simp[peqs]
 | _::_,[]=>by simp[peqs]
 | x::a,y::b=>by
  rw[List.map_cons,List.map_cons,peqs,kxs a b,peq]
  by_cases h:x=y
  ·subst h;simp
  ·have:(x==y)=false:=by simpa using h
   rw[this];simp[h]
theorem qv0(ss:List Str):(sL ss).flat 40=true:=by
 show D.flats 39 (ss.map D.str)=true;exact vj λd hd=>by obtain⟨w,_,rfl⟩:=List.mem_map.mp hd;rfl
theorem wjw(a b:List Str):fEq (sL a) (sL b)=some (.bl (decide (a=b))):=by
 unfold fEq;rw[qv0,qv0];show some (D.bl (peqs (a.map D.str) (b.map D.str)))=_;rw[kxs]
noncomputable def xX(d:D):Bool:=match d with
 |.lst ds=>decide (1<=ds.length)&&decide (ds.length<=3)&&ds.all Jj&&decide (txs ds=q9 (ddS (txs ds)))
 |_=>false
theorem qwc {k : Nat} {d : D} (h : d.flat k = true): Is Z8 [(.no, d)] (xX d):= by
  have i1 := kx1 h;unfold Z8;refine qz ?_;cases d with
  | lst ds =>
    have i1 : jZ "list" (.lst ds) = some (.bl true):= i1
    by_cases h1 : 1 <= ds.length
    rotate_left
    · have e1 : fLe (.int 1) (.int ds.length) = some (.bl false):= by rw[le_ii]; simp; omega
      simp![i1, e1];exact ⟨_, by simp only[xX, Xm h1]; rfl, trivial⟩
    have e1 : fLe (.int 1) (.int ds.length) = some (.bl true):= by rw[le_ii]; simp; omega
    by_cases h2 : ds.length<=3
    rotate_left
    · have e2 : fLe (.int ds.length) (.int 3) = some (.bl false):= by rw[le_ii]; simp; omega
      simp![i1, e1, e2];exact ⟨_, by simp only[xX, Xm h2, Bool.and_false, Bool.false_and]; rfl, trivial⟩
    have e2 : fLe (.int ds.length) (.int 3) = some (.bl true):= by rw[le_ii]; simp; omega
    simp![i1, e1, e2];refine vq [] (λd y=>y.2 = .bl (Jj d)) ?_;simp![];refine ⟨λd hd=> ?_, λys hy=> ?_⟩
    · simp![]
      refine (vj4 (ZQ h d hd)).use ?_;intro _ _;exact ⟨⟨_, rfl⟩, rfl⟩
    rw [vx, wj (h:= λd=>.bl (Jj d)) (λ_ _ h=>h) hy, bk];cases hs : ds.all Jj with
    | false =>
      simp![Q7, hs];exact ⟨_, by simp only[xX, hs, Bool.and_false, Bool.false_and]; rfl, trivial⟩
    | true =>
      have ml:= jzu λd hd=>List.all_eq_true.mp hs d hd
      have e3 : KW (.no, .lst ds) = some (.rt, sL (q9 (ddS (txs ds)))):= by
        unfold KW;dsimp only;rw [ml, kkq];dsimp only;have h64:(txs ds).length<64:=by rw[show (txs ds).length=ds.length by unfold txs;rw[X4]];omega
        rw [Xe h64, <-ml]
      have e4 : fEq (.lst ds) (sL (q9 (ddS (txs ds)))) = some (.bl (decide (txs ds = q9 (ddS (txs ds))))):= by
        have := wjw (txs ds) (q9 (ddS (txs ds)));rw [show sL (txs ds) = .lst ds from congrArg D.lst ml.symm]at this;exact this
      simp![Q7, hs, e3, e4];exact ⟨_, by simp only[xX, hs, Xj h1, Xj h2]; rfl, trivial⟩
  | non => have i1 : jZ "list" .non = some (.bl false):= i1
           simp![i1]; exact⟨_, rfl, trivial⟩
  | bl b => have i1 : jZ "list" (.bl b) = some (.bl false):= i1
            simp![i1]; exact⟨_, rfl, trivial⟩
  | int b => have i1 : jZ "list" (.int b) = some (.bl false):= i1
             simp![i1]; exact⟨_, rfl, trivial⟩
  | str b => have i1 : jZ "list" (.str b) = some (.bl false):= i1
             simp![i1]; exact⟨_, rfl, trivial⟩
  | tup b => have i1 : jZ "list" (.tup b) = some (.bl false):= i1
             simp![i1]; exact⟨_, rfl, trivial⟩
  |dct _=>cases k <;> simp[D.flat]at h
  |obj _ _=>cases k <;> simp[D.flat]at h
def ssD:D->List Str
 |.lst ds=>txs ds
 |_=>[]
def Jx(d:D):Bool:=match d with
 |.tup [a,b]=>xX a&&xK (ssD a) b
 |_=>false
def vzh(d:D):Prop:=∀a rs,d=.tup [a,.lst rs]->∀r∈rs,(vJ r).length<=1000
theorem jz1{k:Nat}{d:D}(h:d.flat k=true)(hl:vzh d):Is KZ [(.no,d)] (Jx d):=by
 have j0:∀a b:D,jQ (.tup [a,b]) (.int 0)=some a:=λ_ _=>rfl
 have j1:∀a b:D,jQ (.tup [a,b]) (.int 1)=some b:=λ_ _=>rfl
 unfold KZ;refine qz ?_;simp![];refine(jzm (n:=2) h).use ?_;intro _ _;cases ht:vqa d 2 with
 | false=>
  simp![];refine⟨.dp,?_,trivial⟩;cases d with
  | tup fs=>
   match fs,ht with
   | [],_=>rfl
   | [_],_=>rfl
   | _::_::_::_,_=>rfl
  | _=>rfl
 | true=>
  cases d with
  | tup fs=>
   match fs,ht,h,hl with
   | [a,b],_,h,hl=>
    have fa:=z5 h a (by simp);have fb:=z5 h b (by simp);simp![j0];refine(qwc fa).use ?_;intro _ _;cases hs:xX a with
    | false=>
     simp![];exact⟨_,by simp only[Jx,hs];rfl,trivial⟩
    | true=>
     cases a with
     |lst ss=>
      have iw:=hs;simp only[xX,Bool.and_eq_true]at iw;have ml:=jzu λd hd=>List.all_eq_true.mp iw.1.2 d hd
      have ea:D.lst ss=sL (txs ss):=congrArg D.lst ml;simp![j0,j1];rw[ea];refine(qwh fb λrs e r hr=>hl (.lst ss) rs (by rw[e]) r hr).use ?_;intro _ _;simp![];exact⟨_,by simp only[Jx,<-ea,hs];rfl,trivial⟩
     |_=>cases hs
  |_=>cases ht
def Sg(z:Str):Prop:=1<=z.cps.size/\z.cps.size<=8/\∀c∈z.cps.toList,c∈AZ.cps.toList
theorem wka:∀c∈AZ.cps.toList,JQ ⟨#[c]⟩ AZ=true:=by decide +kernel
theorem Sg.b{z:Str}(h:Sg z):Jj (.str z)=true:=by
 obtain⟨h1,h2,h3⟩:=h;simp only[Jj,Xj h1,Xj h2,Bool.true_and];rw[Yd];exact λc hc=>wka c (h3 c hc)
def Fil(own:Int)(d:D):Prop:=d=.non\/d=.str "new"\/∃i,d=.int i/\0<=i/\i<own
theorem Fil.b{own:Int}{d:D}(h:Fil own d):J8 own d=true:=by
 rcases h with rfl|rfl|⟨i,rfl,h0,h1⟩
 ·rfl
 ·rfl
 ·have:qJ (.int i) own=true:=by simp[qJ,h0,h1]
  simp[J8,this]
def Ask(own:Int)(d:D):Prop:=d=.str "fresh"\/d=.str "any"\/∃i,d=.int i/\0<=i/\i<own
theorem Ask.b{own:Int}{d:D}(h:Ask own d):K6 own d=true:=by
 rcases h with rfl|rfl|⟨i,rfl,h0,h1⟩
 ·rfl
 ·rfl
 ·have:qJ (.int i) own=true:=by simp[qJ,h0,h1]
  simp[K6,this]
noncomputable def Stp(ss:List Str)(own:Int)(ks:List Int)(d:D):Prop:=∃(sg:Str) (jb:D) (to:Int) (fs:List D),d=.tup [.str sg,jb,.int to,.tup fs]/\sg∈ss/\Ask own jb/\0<=to/\to<ks.length/\(fs.length:Int)=ks.getD to.toNat 0/\∀f∈fs,Fil own f
theorem Stp.b{ss:List Str}{own:Int}{ks:List Int}{d:D}(h:Stp ss own ks d):qW ss own ks d=true:=by
 obtain⟨sg,jb,to,fs,rfl,hs,ha,t0,t1,hf,gw⟩:=h;have e1:wV (.str sg) ss=true:=List.any_eq_true.mpr ⟨sg,hs,by simp⟩;have e2:qJ (.int to) ks.length=true:=by simp[qJ,t0,t1]
 have e3:K2 (.tup fs) own (atK ks (.int to)).toNat=true:=by
  simp only[K2,atK,Bool.and_eq_true,decide_eq_true_eq];exact⟨Xj (show fs.length=(ks.getD to.toNat 0).toNat by omega),List.all_eq_true.mpr λf hf=>(gw f hf).b⟩
 simp only[qW,e1,ha.b,e2,e3,Bool.and_self]
noncomputable def Rm(ss:List Str)(ks:List Int)(r:D):Prop:=∃(k:Int) (gd:Bool) (st:List D),r=.tup [.int k,.bl gd,.lst st]/\0<=k/\k<=3/\st.length<=120/\∀d∈st,Stp ss k ks d
def Zq:D->D
 |.tup [k,_,_]=>k
 |d=>d
structure Mc (ss:List Str)(ks:List Int)(rs:List D):Prop where
 s1:1<=ss.length
 s3:ss.length<=3
 sg:∀z∈ss,Sg z
 so:q9 (ddS ss)=ss
 r1:1<=rs.length
 r12:rs.length<=12
 ky:rs.map Zq=ks.map D.int
 rm:∀r∈rs,Rm ss ks r
 ln:xY rs<=120
theorem kko(ss:List Str):txs (ss.map D.str)=ss:=by
 unfold txs;rw[Y3];exact List.map_id ss
theorem Mc.sgn{ss:List Str}{ks:List Int}{rs:List D}(h:Mc ss ks rs):xX (sL ss)=true:=by
 simp only[xX,sL,X4,kko,h.so,Xj h.s1,Xj h.s3,Bool.true_and,Bool.and_eq_true,Yd];refine⟨λd hd=>?_,by simp⟩;obtain⟨z,hz,rfl⟩:=List.mem_map.mp hd;exact(h.sg z hz).b
theorem Rm.frm{ss:List Str}{ks:List Int}{r:D}(h:Rm ss ks r):wJ r=true:=by
 obtain⟨k,gd,st,rfl,h0,h3,_⟩:=h;have:qJ (.int k) 4=true:=by simp[qJ,h0];omega
 simp[wJ,this,XY,J3]
theorem Mc.keys{ss:List Str}{ks:List Int}{rs:List D}(h:Mc ss ks rs):rs.map vX=ks:=by
 have:=h.ky;have e:∀rs:List D,(∀r∈rs,Rm ss ks r)->rs.map Zq=(rs.map vX).map D.int:=λrs h=>by
  rw[Y3];refine List.map_congr_left λr hr=>?_
  obtain⟨k,gd,st,rfl,_⟩:=h r hr;rfl
 rw[e rs h.rm]at this;exact(List.map_inj_right λa b h=>by injection h).mp this
theorem Mc.b{ss:List Str}{ks:List Int}{rs:List D}(h:Mc ss ks rs):Jx (.tup [sL ss,.lst rs])=true:=by
 have e:ssD (sL ss)=ss:=kko ss;simp only[Jx,h.sgn,Bool.true_and,e,xK,zK,Xj h.r1,Xj h.r12,Xj h.ln,Bool.and_eq_true,Yd,and_true,h.keys];refine⟨λr hr=>(h.rm r hr).frm,λr hr=>?_⟩;obtain⟨k,gd,st,rfl,_,_,_,ce⟩:=h.rm r hr;exact λd hd=>(ce d hd).b
end Nk11
namespace Nk11
open Q PySem C
theorem qwl{xs:List D}(h:∀x∈xs,x.pure=true):D.pures xs=true:=by rw[D.pures_all,Yd];exact h
theorem Fil.pure{own:Int}{d:D}(h:Fil own d):d.pure=true:=by rcases h with rfl|rfl|⟨i,rfl,_⟩<;>rfl
theorem Stp.pure{ss:List Str}{own:Int}{ks:List Int}{d:D}(h:Stp ss own ks d):d.pure=true:=by
 obtain⟨sg,jb,to,fs,rfl,hs,ha,t0,t1,hf,gw⟩:=h;have h1:jb.pure=true:=by rcases ha with rfl|rfl|⟨i,rfl,_⟩<;>rfl
 have h2:D.pures fs=true:=qwl λf hf=>(gw f hf).pure
 show(D.pure (.str sg)&&(jb.pure&&(D.pure (.int to)&&(D.pures fs&&true))))=true;rw[h1,h2];rfl
theorem kx4:m__law_mixed=A.m__law_mixed:=rfl
theorem vko:m__law_words=A.m__law_words:=rfl
theorem qzi:m__law_cell_at=B.m__law_cell_at:=rfl
theorem kzv(l:List Str):q9 (q9 l)=q9 l:=List.Perm.eq_of_pairwise (λa b _ _ h1 h2=>kz1 h1 h2) jzp jzp (zw _)
theorem vxd:∀(l av:List Str),av.Nodup->(l.foldl (λl k=>if l.any (· == k)then l else l++[k]) av).Nodup
 | [],av,h=>h
 | k::l,av,h=>by
  rw[List.foldl_cons];refine vxd l _ ?_
  split
  ·exact h
  ·rename_i hn;refine List.nodup_append.mpr ⟨h,by simp,λa ha b hb e=>hn (List.any_eq_true.mpr ⟨a,ha,?_⟩)⟩;rw[List.mem_singleton]at hb;rw[e,hb];exact beq_self_eq_true _
theorem kzf(l:List Str):(ddS l).Nodup:=vxd l [] Y8
theorem qv9:∀(l av:List Str),(av++l).Nodup->l.foldl (λl k=>if l.any (· == k)then l else l++[k]) av=av++l
 | [],av,_=>by simp
 | k::l,av,h=>by
  have hk:k∉av:=λhm=>(List.nodup_append.mp h).2.2 k hm k X6 rfl
  rw[List.foldl_cons,Xl (λhh=>by
   obtain⟨y,hy,e⟩:=List.any_eq_true.mp hh;rw[eq_of_beq e]at hy;exact hk hy),qv9 l (av++[k]) (by rw[Xr];exact h),Xr]
  rfl
theorem wk2{l:List Str}(h:l.Nodup):ddS l=l:=qv9 l [] h
theorem qka{l:List Str}(h:l.Nodup):q9 (ddS (q9 l))=q9 l:=by
 rw[wk2 ((zw l).nodup_iff.mpr h),kzv]
theorem vkl(n own:Int)(h0:0<=own):Oo Z1 [(.no,.int n),(.no,.int own)] (λy=>Fil own y.2) noX:=by
 have e1:∀a b:Int,fEq (.int a) (.int b)=some (.bl (a==b)):=λa b=>J4
 unfold Z1;refine qz ?_;have q0:=Xf n (show(4:Int)≠0 by decide);have q1:=X9 n (show(0:Int)<4 by decide);have hm:jv (.int n) (.int 4)=some (.int (n % 4)):=mod_i (by decide);generalize n % 4=t at q0 q1 hm
 by_cases hz:own=0
 ·subst hz;rcases(show t=0\/t=1\/t=2\/t=3 by omega)with rfl|rfl|rfl|rfl
  all_goals
   simp![hm,e1]
   first|exact .inl rfl|exact .inr (.inl rfl)
 ·have hp:0<own:=by omega
  have w0:=Xf (n / 4) (show own≠0 by omega);have w1:=X9 (n / 4) hp;have ez:(own==0)=false:=beq_false_of_ne hz;have eg:decide (own>0)=true:=Xj hp;rcases(show t=0\/t=1\/t=2\/t=3 by omega)with rfl|rfl|rfl|rfl
  all_goals
   simp![hm,e1,ez,eg,mod_i (a:=n / 4) (b:=own) hp]
   first|exact .inl rfl|exact .inr (.inl rfl)|exact .inr (.inr ⟨_,rfl,w0,w1⟩)
theorem qq6{xs:List D}{t:Int}(h0:0<=t)(h1:t<xs.length):∃a∈xs,jQ (.lst xs) (.int t)=some a:=
 ⟨xs[t.toNat]'(by omega),Xy _,v9 h0 (X1 (by omega))⟩
theorem kzc{G:D->Sd->Prop}:∀{ds:List D} {ys:List Sd},Each G ds ys->ys.length=ds.length
 |[],[],_=>rfl
 |d::ds,y::ys,r=>congrArg (· + 1) (kzc r.2)
theorem vj1{ss:List Str}{ks:List Int}(c b9:Int)(hs:1<=ss.length)(hs3:ss.length<=3)(hk:∀k∈ks,0<=k/\k<=3)(hkl:ks.length<=12)(h0:0<=b9)(h1:b9<ks.length):
  Oo Wx [(.no,.int c),(.no,sL ss),(.no,.int b9),(.no,iL ks)] (λy=>∃d,y=(.no,d)/\Stp ss (ks.getD b9.toNat 0) ks d) noX:=by
 obtain⟨own,ho,⟨o0,o3⟩,eo⟩:=ixI ks (λk=>0<=k/\k<=3) hk b9 h0 h1;have eo':ks.getD b9.toNat 0=own:=by rw[X5,eo];rfl
 rw[eo'];unfold Wx;rw[kx4];refine qz ?_;simp![];refine(A.mixed_ok c 0 (by decide) (by decide)).use ?_;intro m _;have t0:=Xf (m / 3) (show(ks.length:Int)≠0 by omega);have t1:=X9 (m / 3) (show(0:Int)<ks.length by omega);have a0:=Xf (m / 60) (show 3+own≠0 by omega);have a1:=X9 (m / 60) (show 0<3+own by omega);have g0:=Xf m (show(ss.length:Int)≠0 by omega);have g1:=X9 m (show(0:Int)<ss.length by omega);obtain⟨kt,ht,⟨k0,k3⟩,et⟩:=ixI ks (λk=>0<=k/\k<=3) hk (m / 3 % ks.length) t0 t1;have et':ks.getD (m / 3 % ks.length).toNat 0=kt:=by rw[X5,et];rfl
 simp![mod_i (a:=m / 3) (b:=(ks.length:Int)) (by omega),ho];refine vq [] (λd y=>y.2=d) ?_;refine JV ?_;simp![ho];refine⟨own,rfl,by omega,by omega,λd hd=>⟨⟨_,rfl⟩,trivial⟩,λys hy=>?_⟩;have bk:∀E:En,back [] [] (clr [] E)=E:=λ_=>rfl
 have hlr:=VQ (k:=0) (n:=own) (by omega);have ad:jw (.no,.lst [D.str "fresh",.str "any",.str "fresh"]) (.no,.lst (k7 0 own))=some (.rt,.lst (D.str "fresh" :: .str "any" :: .str "fresh" :: k7 0 own)):=wx (by decide) (by decide) (by simp only[Xp,List.length_nil];omega);obtain⟨jb,hmem,hask⟩:=qq6 (xs:=D.str "fresh" :: .str "any" :: .str "fresh" :: k7 0 own) a0 (by simp only[Xp];omega);have hA:Ask own jb:=by
  simp only[Y4]at hmem;rcases hmem with rfl|rfl|rfl|hm
  ·exact .inl rfl
  ·exact .inr (.inl rfl)
  ·exact .inl rfl
  ·obtain⟨i,i0,i1,rfl⟩:=JJ hm;exact .inr (.inr ⟨i,rfl,i0,i1⟩)
 rw[vx,vkn (λ_ _ h=>h) hy,bk];simp![ad,mod_i (a:=m / 60) (b:=3+own) (by omega),hask,ho];refine vq [some (.dp,.int m),some (.no,iL ks),some (.no,.int b9)] (λ_ y=>Fil own y.2) ?_;refine JV ?_;simp![ht];refine⟨kt,rfl,by omega,by omega,rfl,λd hd=>?_,λys hy=>?_⟩
 ·obtain⟨i,i0,i1,rfl⟩:=JJ hd;have hdv:∃dv:Int,jQ (.lst [.int 720,.int 46080,.int 2949120]) (.int i)=some (.int dv)/\0<dv/\dv<10 ^ 70:=by
   rcases(show i=0\/i=1\/i=2 by omega)with rfl|rfl|rfl
   ·exact⟨720,rfl,by decide,by decide⟩
   ·exact⟨46080,rfl,by decide,by decide⟩
   ·exact⟨2949120,rfl,by decide,by decide⟩
  obtain⟨dv,hdv,d0,d1⟩:=hdv;simp![hdv,div_i (a:=m) (b:=dv) d0 d1,ho];refine(vkl (m / dv) own o0).via ?_;rintro ⟨o,y⟩ hy;exact⟨⟨_,rfl⟩,hy⟩
 have gw:∀z∈ys.map (·.2),Fil own z:=kze (S:=Fil own) (λ_ _ h=>h) hy;have hfl:((ys.map (·.2)).length:Int)=kt:=by rw[X4,kzc hy,VQ (by omega)];omega
 rw[vx];generalize ys.map (·.2)=fs at gw hfl;have esg:jQ (sL ss) (.int (m % ss.length))=some (.str (ss[(m % ss.length).toNat]'(by omega))):=v9 g0 (by rw[Xh,X1 (by omega)];rfl);have hsgm:ss[(m % ss.length).toNat]'(by omega)∈ss:=Xy _;simp only[back,clr,at',List.map_cons,List.map_nil,List.set_cons_zero,List.set_cons_succ];simp![XW (o:=.no) (xs:=fs) (by decide),mod_i (a:=m) (b:=(ss.length:Int)) (by omega),esg];exact⟨_,rfl,_,jb,_,fs,rfl,hsgm,hA,t0,t1,by rw[et',hfl],gw⟩
end Nk11
namespace Nk11
open Q PySem C
def Q0:D->Nat
 |.lst st=>st.length
 |_=>0
def xj(ls:List D):Nat:=(ls.map Q0).sum
theorem qk3:∀(ls:List D) (n:Nat) (st:List D) (d:D),ls[n]?=some (.lst st)->xj (ls.set n (.lst (st++[d])))=xj ls+1
 |[],n,st,d,h=>nomatch h
 |a::ls,0,st,d,h=>by
  cases oq9 h;show(st++[d]).length+xj ls=st.length+xj ls+1;rw[Xv];simp only[Xp,List.length_nil];omega
 |a::ls,n+1,st,d,h=>by
  have h:ls[n]?=some (.lst st):=h;show Q0 a+xj (ls.set n (.lst (st++[d])))=Q0 a+xj ls+1;rw[qk3 ls n st d h];omega
theorem kwd:∀(ls:List D) (n:Nat) (x:D),ls[n]?=some x->Q0 x<=xj ls
 |[],n,x,h=>nomatch h
 |a::ls,0,x,h=>by
  cases oq9 h;show Q0 a<=Q0 a+xj ls;omega
 |a::ls,n+1,x,h=>by
  have:=kwd ls n x h;show Q0 x<=Q0 a+xj ls;omega
structure Bs (ss:List Str)(ks:List Int)(ls:List D)(b:Nat):Prop where
 ln:ls.length=ks.length
 ok:∀j:Nat,j<ks.length->∃st:List D,ls[j]?=some (.lst st)/\∀d∈st,Stp ss (ks.getD j 0) ks d
 sm:xj ls<=b
theorem Bs.put{ss:List Str}{ks:List Int}{ls:List D}{b n:Nat}{st:List D}{d:D}(h:Bs ss ks ls b)(hn:n<ks.length)(e:ls[n]?=some (.lst st))(hd:Stp ss (ks.getD n 0) ks d):Bs ss ks (ls.set n (.lst (st++[d]))) (b+1):=by
 refine⟨by rw[Yo];exact h.ln,λj hj=>?_,by rw[qk3 ls n st d e];have:=h.sm;omega⟩
 by_cases hjn:j=n
 ·subst hjn;obtain⟨cz,e',iz⟩:=h.ok j hj;rw[e]at e';cases oq9 e';refine⟨st++[d],by rw[Ya (by rw[h.ln];exact hj)],λx hx=>?_⟩;rcases List.mem_append.mp hx with hx|hx
  ·exact iz x hx
  ·rw[List.mem_singleton.mp hx];exact hd
 ·obtain⟨cz,e',iz⟩:=h.ok j hj;exact⟨cz,by rw[Y7 (Ne.symm hjn)];exact e',iz⟩
theorem Bs.first{ss:List Str}{ks:List Int}{n:Nat}:Bs ss ks (List.replicate ks.length (.lst [])) 0:=by
 refine⟨Yf,λj hj=>⟨[],by rw[List.getElem?_replicate,Xe hj],λd h=>nomatch h⟩,?_⟩;unfold xj;rw[List.map_replicate];show(List.replicate ks.length 0).sum<=0;simp
noncomputable def xq(ks:List Int)(gs:List Bool)(ls:List D):List D:=(List.range ks.length).map λj=>.tup [.int (ks.getD j 0),.bl (gs.getD j false),ls.getD j .non]
theorem wjm{ss:List Str}{ks:List Int}{gs:List Bool}{ls:List D}(s1:1<=ss.length)(s3:ss.length<=3)(sg:∀z∈ss,Sg z)(so:q9 (ddS ss)=ss)(k1:1<=ks.length)(k12:ks.length<=12)(hk:∀k∈ks,0<=k/\k<=3)(h:Bs ss ks ls 100):Mc ss ks (xq ks gs ls):=by
 have gl:∀j,j<ks.length->∃st,ls.getD j .non=.lst st/\st.length<=100/\∀d∈st,Stp ss (ks.getD j 0) ks d:=λj hj=>by
  obtain⟨st,e,ce⟩:=h.ok j hj;refine⟨st,by rw[X5,e];rfl,?_,ce⟩;exact Xs (kwd ls j _ e) h.sm
 refine⟨s1,s3,sg,so,?_,?_,?_,λr hr=>?_,?_⟩
 ·unfold xq;rw[X4,Y5];exact k1
 ·unfold xq;rw[X4,Y5];exact k12
 ·unfold xq;rw[Y3];apply List.ext_getElem
  ·simp
  ·intro j h1 h2;have hj:j<ks.length:=by simpa using h2
   simp only[List.getElem_map,List.getElem_range,Function.comp];show D.int (ks.getD j 0)=D.int ks[j];rw[X5,X1 hj];rfl
 ·unfold xq at hr;obtain⟨j,hj,rfl⟩:=List.mem_map.mp hr;have hj:=List.mem_range.mp hj;obtain⟨st,e,hl,ce⟩:=gl j hj;have hm:ks.getD j 0∈ks:=by rw[X5,X1 hj];exact Xy _
  exact⟨_,_,st,by rw[e],(hk _ hm).1,(hk _ hm).2,by omega,ce⟩
 ·have:xY (xq ks gs ls)=xj ls:=by
   unfold xY xj xq;rw[Y3]
   congr 1
   apply List.ext_getElem
   ·simp[h.ln]
   ·intro j h1 h2;have hj:j<ks.length:=by simpa using h1
    obtain⟨st,e,_⟩:=h.ok j hj;obtain⟨db,e2⟩:=List.getElem?_eq_some_iff.mp e;simp only[List.getElem_map,List.getElem_range,Function.comp];have e3:ls.getD j .non=.lst st:=by rw[X5,e];rfl
    rw[e2,e3];rfl
  rw[this];have:=h.sm;omega
def WV(ss:List Str):Prop:=1<=ss.length/\ss.length<=3/\(∀z∈ss,Sg z)/\q9 (ddS ss)=ss
theorem kzb{G:D->Sd->Prop}{v:Sd}(hG:∀d y,G d y->y=v):∀{ds:List D} {ys:List Sd},Each G ds ys->ys=List.replicate ds.length v
 |[],[],_=>rfl
 |d::ds,y::ys,r=>by
  rw[hG d y r.1,kzb hG r.2];rfl
theorem kqz{ss:List Str}{own:Int}{ks:List Int}{d:D}{o:Own}(h:Stp ss own ks d):vK (o,d)=true:=by
 unfold vK;rw[h.pure,Bool.or_true]
theorem kzd{G:D->Sd->Prop}(hG:∀d y,G d y->∃b,y.2=.bl b):∀{ds:List D} {ys:List Sd},Each G ds ys->∃gs:List Bool,ys.map (·.2)=gs.map D.bl/\gs.length=ds.length
 |[],[],_=>⟨[],rfl,rfl⟩
 |d::ds,y::ys,r=>by
  obtain⟨b,e⟩:=hG d y r.1;obtain⟨gs,h1,h2⟩:=kzd hG r.2;exact⟨b::gs,by rw[List.map_cons,e,h1];rfl,by simp[h2]⟩
noncomputable def hD(ks:List Int)(gs:List Bool)(ls:List D):D->D
 |.int i=>.tup [.int (ks.getD i.toNat 0),.bl (gs.getD i.toNat false),ls.getD i.toNat .non]
 |d=>d
theorem qke{ns:List Int}{ss:List Str}{head au:Int}(mh:ns.length<=63)(hs:WV ss)(m1:1<=au)(m12:au<=12):
Eo
  (cLC Own.rt 1 [0] (kY (vV 4)) (Tg.n 0) tYes
   (cF2 (pu2 jv) (vE (jJ A.m__law_mixed [jJ B.m__law_cell_at [cV 1,cC (D.int 2)],cV 0]))
    (vE (cC (D.int 4))))
   [some (Own.no,iL ns),some (Own.no,D.int 6),some (Own.dp,D.int head),some (Own.rt,sL ss),
    some (Own.dp,D.int au),none,none,none,none,none])
  (fun E x =>
   Po
    (j7 (jk 6 (cLC Own.dp 1 [] (kY (vV 4)) (Tg.n 0) tYes (jV Own.dp [])))
     (j7
      (wX (itS (cSl (vV 0) (some (vV 1)) (some (vE (cF2 jw (vV 1) (vE (cC (D.int 50)))))))) (Tg.n 7)
       (j7 (jk 8 (cF2 (pu2 jv) (vE (jJ A.m__law_mixed [cV 7,cC (D.int 12)])) (vV 4)))
        (j7 (K8 6 (vV 8) (jJ Wx [cV 7,cV 3,cV 8,cV 5]))
         (sIf
          (tAnd
           (tE
            (cF2 (pu2 fEq)
             (vE (cF2 (pu2 jv) (vE (cF2 (pu2 kw) (vV 2) (vE (cC (D.int 200))))) (vE (cC (D.int 4)))))
             (vE (cC (D.int 1)))))
           (tE (cF2 (pu2 fEq) (vE (cF2 (pu2 jv) (vV 7) (vE (cC (D.int 3))))) (vE (cC (D.int 1))))))
          (K8 6 (vV 8) (cH (j9 (j9 (vV 6) (vV 8)) (vE (cC (D.int 0)))))) qQ))))
      (j7
       (jk 9
        (cLC Own.rt 1 [0] (kY (vV 4)) (Tg.n 0) tYes
         (cF2 (pu2 fEq)
          (vE
           (cF2 (pu2 jv) (vE (jJ A.m__law_mixed [jJ B.m__law_cell_at [cV 1,cC (D.int 3)],cV 0]))
            (vE (cC (D.int 2)))))
          (vE (cC (D.int 1))))))
       (sFz 6
        (jK
         (jz Own.no
          [cV 3,
           cLC Own.rt 1 [5,9,6] (kY (vV 4)) (Tg.n 0) tYes
            (jz Own.no [cH (j9 (vV 1) (vV 0)),cH (j9 (vV 2) (vV 0)),cH (j9 (vV 3) (vV 0))])])))))
     (List.set E 5 (some x)))
    (λx=>∃z:List Str×List Int×List D,(Own.dp,D.non)=(Own.no,wQ z.1 z.2.2)/\Mc z.1 z.2.1 z.2.2) (λx=>False)
    (λy=>∃z:List Str×List Int×List D,y=(Own.no,wQ z.1 z.2.2)/\Mc z.1 z.2.1 z.2.2) noX)
  noX:=by
 have bk:∀E:En,back [] [] (clr [] E)=E:=λ_=>rfl
 obtain⟨s1,s3,sg,so⟩:=hs;refine vq [some (.no,iL ns)] (λ_ y=>∃i,y.2=.int i/\0<=i/\i<=3) ?_;refine JV ?_;simp![];refine⟨au,rfl,by omega,by omega,rfl,λd hd=>?_,λys hy=>?_⟩
 ·obtain⟨i,i0,i1,rfl⟩:=JJ hd;simp![];refine(B.cell_ok ns 2 (by omega)).use ?_;intro _ _;simp![];refine(A.mixed_ok _ i i0 (by omega)).use ?_;intro v _;have t0:=Xf v (show(4:Int)≠0 by decide);have t1:=X9 v (show(0:Int)<4 by decide);simp![];exact⟨⟨_,rfl⟩,_,rfl,t0,by omega⟩
 obtain⟨ks,e1,e2,hk⟩:=kvw (S:=λi=>0<=i/\i<=3) (λd y ⟨i,h,s⟩=>⟨i,h,s⟩) hy;have hkl:(ks.length:Int)=au:=by rw[e2,VQ (by omega)];omega
 rw [vx,e1];simp only[back,clr,at',List.map_cons,List.map_nil,List.set_cons_zero,List.set_cons_succ];simp![];refine vq [] (λ_ y=>y=(.dp,.lst [])) ?_;refine JV ?_;simp![];refine⟨au,rfl,by omega,by omega,λd hd=>?_,λys hy=>?_⟩
 ·exact⟨⟨_,rfl⟩,trivial⟩
 rw [kzb (λ_ _ h=>h) hy,vwe (List.all_eq_true.mpr λy hy=>by rw[List.eq_of_mem_replicate hy];rfl),List.map_replicate,bk];rw [show(k7 0 au).length=ks.length by have:=VQ (k:=0) (n:=au) (by omega);omega];simp![Vk (o:=.no) (xs:=ns.map D.int) (lo:=some 6) (hi:=some (6+50)) (by decide)];obtain⟨cells,hc1,hc3⟩:∃cells:List Int,qk (ns.map D.int) (some 6) (some (6+50))=cells.map D.int/\cells.length<=50:=by
  refine⟨(ns.drop _).take _,by unfold qk;rw[List.map_take,List.map_drop],?_⟩;rw [Y2,Yb,X4];show min (min (56:Int).toNat ns.length - min (6:Int).toNat ns.length) (ns.length - min (6:Int).toNat ns.length)<=50;have h1:(56:Int).toNat=56:=rfl;have h2:(6:Int).toNat=6:=rfl;rw [h1,h2];omega
 refine qkr (λE jx=>∃(ls:List D) (n:Nat) (o3 o5:Own) (l7 l8:Option Sd) (cs:List Int),(o3=.rt\/o3=.no)/\(o5=.rt\/o5=.no)/\E=[some (.no,iL ns),some (.no,.int 6),some (.dp,.int head),some (o3,sL ss),some (.dp,.int au),some (o5,iL ks),some (.dp,.lst ls),l7,l8,none]/\jx=cs.map D.int/\n+2*cs.length<=100/\Bs ss ks ls n) ?_ ?_ ?_
 ·simp![Vk (o:=.no) (xs:=ns.map D.int) (lo:=some 6) (hi:=some (6+50)) (by decide),hc1];exact⟨_,0,.rt,.rt,_,_,cells,.inl rfl,.inl rfl,rfl,rfl,by omega,Bs.first (n:=0)⟩
 ·rintro E d jx ⟨ls,n,o3,o5,l7,l8,cs,ho3,ho5,rfl,he,hn,hb⟩;cases cs with
  | nil=>cases he
  | cons c cs=>
   have he:d::jx=.int c::cs.map D.int:=he;injection he with e1 e2;subst e1 e2;have w0:=λv=>Xf v (show au≠0 by omega)
   have w1:=λv=>X9 v (show 0<au by omega)
   have my:∀(v:Int),0<=v % au->v % au<au->∃st,ls[(v % au).toNat]?=some (.lst st)/\∀d∈st,Stp ss (ks.getD (v % au).toNat 0) ks d:=λv a b=>hb.ok _ (by omega)
   have r1:fEq (.int (head / 200 % 4)) (.int 1)=some (.bl (head / 200 % 4==1)):=J4;have r2:fEq (.int (c % 3)) (.int 1)=some (.bl (c % 3==1)):=J4;simp![];refine(A.mixed_ok c 12 (by decide) (by decide)).use ?_;intro v _;obtain⟨st,est,ce⟩:=my v (w0 v) (w1 v);have hsm:=hb.sm;have ax:=kwd ls _ _ est;have ax:st.length<=xj ls:=ax;simp![mod_i (a:=v) (b:=au) (by omega)];refine qkz rfl ?_;simp![];refine⟨_,st,rfl,w0 v,est,by omega,?_⟩;rcases ho3 with rfl|rfl<;>rcases ho5 with rfl|rfl
   all_goals
    simp![];refine(vj1 c (v % au) s1 s3 hk (by omega) (w0 v) (by have:=w1 v;omega)).use ?_;intro d hd;have hb2:=hb.put (n:=(v % au).toNat) (by have:=w1 v;have:=w0 v;omega) est hd;have hfst:∃x,(st++[d])[0]?=some x/\Stp ss (ks.getD (v % au).toNat 0) ks x:=by
     cases st with
     |nil=>exact⟨d,rfl,hd⟩
     |cons a st=>exact⟨a,rfl,ce a X6⟩
    obtain⟨x,ex,hx⟩:=hfst;refine⟨rfl,kqz hd,?_⟩;have ne:∀o:Own,∃l7 l8:Option Sd,True:=λ_=>⟨none,none,trivial⟩
    cases hq1:(head / 200 % 4==1)with
    | false=>
     rw[hq1]at r1;simp![r1];exact⟨_,n+1,.no,.no,_,_,cs,.inr rfl,.inr rfl,rfl,rfl,by simp only[Xp]at hn;omega,hb2⟩
    | true=>
     rw[hq1]at r1;cases hq2:(c % 3==1)with
     |false=>
      rw[hq2]at r2;simp![r1,r2];exact⟨_,n+1,.no,.no,_,_,cs,.inr rfl,.inr rfl,rfl,rfl,by simp only[Xp]at hn;omega,hb2⟩
     |true=>
      rw[hq2]at r2;have ku:(ls.set (v % au).toNat (.lst (st++[d])))[(v % au).toNat]?=some (.lst (st++[d])):=Ya (List.getElem?_eq_some_iff.mp est).1;have ix1:jQ (.lst (ls.set (v % au).toNat (.lst (st++[d])))) (.int (v % au))=some (.lst (st++[d])):=v9 (w0 v) ku;have ix2:jQ (.lst (st++[d])) (.int 0)=some x:=v9 (by decide) ex;have hb3:=hb2.put (n:=(v % au).toNat) (by have:=w1 v;have:=w0 v;omega) ku hx;simp![r1,r2];refine qkz rfl ?_;simp![];refine⟨_,_,rfl,w0 v,ku,by rw[Xv];simp only[Xp,List.length_nil];omega,?_⟩;simp![ix1,ix2];rw[Xe hx.pure];exact⟨kqz hx,_,n+2,.no,.no,_,_,cs,.inr rfl,.inr rfl,rfl,rfl,by simp only[Xp]at hn;omega,hb3⟩
 ·rintro E ⟨ls,n,o3,o5,l7,l8,cs,ho3,ho5,rfl,he,hn,hb⟩;simp![];refine vq [some (.no,iL ns)] (λ_ y=>∃b,y.2=.bl b) ?_;refine JV ?_;simp![];refine⟨au,rfl,by omega,by omega,rfl,λd hd=>?_,λys hy=>?_⟩
  ·obtain⟨i,i0,i1,rfl⟩:=JJ hd;simp![];refine(B.cell_ok ns 3 (by omega)).use ?_;intro _ _;simp![];refine(A.mixed_ok _ i i0 (by omega)).use ?_;intro v _;have r1:fEq (.int (v % 2)) (.int 1)=some (.bl (v % 2==1)):=J4;simp![r1];exact⟨⟨_,rfl⟩,_,rfl⟩
  obtain⟨gs,f1,f2⟩:=kzd (λ_ _ h=>h) hy;have hgl:gs.length=ks.length:=by rw[f2];have:=VQ (k:=0) (n:=au) (by omega);omega
  rw[vx,f1];simp only[back,clr,at',List.map_cons,List.map_nil,List.set_cons_zero,List.set_cons_succ];simp![];rw[w_fz,wjt rfl];have hM:Mc ss ks (xq ks gs ls):=wjm s1 s3 sg so (by omega) (by omega) hk ⟨hb.ln,hb.ok,Xs hb.sm (by omega)⟩;have hR:(k7 0 au).map (hD ks gs ls)=xq ks gs ls:=by
   unfold k7 xq;rw[Y3,show(au - 0).toNat=ks.length by omega]
   congr 1
   funext k;show D.tup [.int (ks.getD (0+(k:Int)).toNat 0),.bl (gs.getD (0+(k:Int)).toNat false),ls.getD (0+(k:Int)).toNat .non]=_;rw[show(0+(k:Int)).toNat=k by omega]
  rcases ho5 with rfl|rfl<;>rcases ho3 with rfl|rfl
  rotate_left 2
  ·simp![];refine vq [some (.no,iL ks),some (.rt,.lst (gs.map D.bl)),some (.no,.lst ls)] (λd y=>y.2=hD ks gs ls d) ?_;refine JV ?_;simp![];refine⟨au,rfl,by omega,by omega,rfl,λd hd=>?_,λys hy=>?_⟩
   ·obtain⟨i,i0,i1,rfl⟩:=JJ hd;have hi:i.toNat<ks.length:=by omega
    have x1:jQ (iL ks) (.int i)=some (.int (ks.getD i.toNat 0)):=v9 i0 (by rw[Xh,X5,X1 hi];rfl);have x2:jQ (.lst (gs.map D.bl)) (.int i)=some (.bl (gs.getD i.toNat false)):=v9 i0 (by rw[Xh,X5,X1 (by omega)];rfl);have x3:jQ (.lst ls) (.int i)=some (ls.getD i.toNat .non):=v9 i0 (by rw[X5,X1 (by rw[hb.ln];exact hi)];rfl);simp![x1,x2,x3];exact⟨⟨_,rfl⟩,rfl⟩
   rw[vx,wj (h:=hD ks gs ls) (λ_ _ h=>h) hy,hR];simp only[back,clr,at',List.map_cons,List.map_nil,List.set_cons_zero,List.set_cons_succ];simp![];exact⟨(ss,ks,xq ks gs ls),rfl,hM⟩
  ·simp![];refine vq [some (.no,iL ks),some (.rt,.lst (gs.map D.bl)),some (.no,.lst ls)] (λd y=>y.2=hD ks gs ls d) ?_;refine JV ?_;simp![];refine⟨au,rfl,by omega,by omega,rfl,λd hd=>?_,λys hy=>?_⟩
   ·obtain⟨i,i0,i1,rfl⟩:=JJ hd;have hi:i.toNat<ks.length:=by omega
    have x1:jQ (iL ks) (.int i)=some (.int (ks.getD i.toNat 0)):=v9 i0 (by rw[Xh,X5,X1 hi];rfl);have x2:jQ (.lst (gs.map D.bl)) (.int i)=some (.bl (gs.getD i.toNat false)):=v9 i0 (by rw[Xh,X5,X1 (by omega)];rfl);have x3:jQ (.lst ls) (.int i)=some (ls.getD i.toNat .non):=v9 i0 (by rw[X5,X1 (by rw[hb.ln];exact hi)];rfl);simp![x1,x2,x3];exact⟨⟨_,rfl⟩,rfl⟩
   rw[vx,wj (h:=hD ks gs ls) (λ_ _ h=>h) hy,hR];simp only[back,clr,at',List.map_cons,List.map_nil,List.set_cons_zero,List.set_cons_succ];simp![];exact⟨(ss,ks,xq ks gs ls),rfl,hM⟩
  ·simp![];refine vq [some (.rt,iL ks),some (.rt,.lst (gs.map D.bl)),some (.no,.lst ls)] (λd y=>y.2=hD ks gs ls d) ?_;refine JV ?_;simp![];refine⟨au,rfl,by omega,by omega,rfl,λd hd=>?_,λys hy=>?_⟩
   ·obtain⟨i,i0,i1,rfl⟩:=JJ hd;have hi:i.toNat<ks.length:=by omega
    have x1:jQ (iL ks) (.int i)=some (.int (ks.getD i.toNat 0)):=v9 i0 (by rw[Xh,X5,X1 hi];rfl);have x2:jQ (.lst (gs.map D.bl)) (.int i)=some (.bl (gs.getD i.toNat false)):=v9 i0 (by rw[Xh,X5,X1 (by omega)];rfl);have x3:jQ (.lst ls) (.int i)=some (ls.getD i.toNat .non):=v9 i0 (by rw[X5,X1 (by rw[hb.ln];exact hi)];rfl);simp![x1,x2,x3];exact⟨⟨_,rfl⟩,rfl⟩
   rw[vx,wj (h:=hD ks gs ls) (λ_ _ h=>h) hy,hR];simp only[back,clr,at',List.map_cons,List.map_nil,List.set_cons_zero,List.set_cons_succ];simp![];exact⟨(ss,ks,xq ks gs ls),rfl,hM⟩
  ·simp![];refine vq [some (.rt,iL ks),some (.rt,.lst (gs.map D.bl)),some (.no,.lst ls)] (λd y=>y.2=hD ks gs ls d) ?_;refine JV ?_;simp![];refine⟨au,rfl,by omega,by omega,rfl,λd hd=>?_,λys hy=>?_⟩
   ·obtain⟨i,i0,i1,rfl⟩:=JJ hd;have hi:i.toNat<ks.length:=by omega
    have x1:jQ (iL ks) (.int i)=some (.int (ks.getD i.toNat 0)):=v9 i0 (by rw[Xh,X5,X1 hi];rfl);have x2:jQ (.lst (gs.map D.bl)) (.int i)=some (.bl (gs.getD i.toNat false)):=v9 i0 (by rw[Xh,X5,X1 (by omega)];rfl);have x3:jQ (.lst ls) (.int i)=some (ls.getD i.toNat .non):=v9 i0 (by rw[X5,X1 (by rw[hb.ln];exact hi)];rfl);simp![x1,x2,x3];exact⟨⟨_,rfl⟩,rfl⟩
   rw[vx,wj (h:=hD ks gs ls) (λ_ _ h=>h) hy,hR];simp only[back,clr,at',List.map_cons,List.map_nil,List.set_cons_zero,List.set_cons_succ];simp![];exact⟨(ss,ks,xq ks gs ls),rfl,hM⟩
theorem qjb(ns:List Int)(mh:ns.length<=63)(hS:∀c:Int,Oo Q5 [(.no,.int c)] (λy=>∃ss,y=(.rt,sL ss)/\WV ss) noX):
  Oo VZ [(.no,iL ns),(.no,.int 6)] (λy=>∃(z:List Str×List Int×List D),y=(.no,wQ z.1 z.2.2)/\Mc z.1 z.2.1 z.2.2) noX:=by
 unfold VZ;rw[kx4,qzi];refine qz ?_;simp![];refine(B.cell_ok ns 0 (by omega)).use ?_;intro _ _;simp![];refine(A.mixed_ok _ 0 (by decide) (by decide)).use ?_;intro head _;simp![];refine(B.cell_ok ns 1 (by omega)).use ?_;intro _ _;simp![];refine(hS _).use ?_;rintro ss ⟨s1,s3,sg,so⟩;have q0:=Xf head (show(4:Int)≠0 by decide);have q1:=X9 head (show(0:Int)<4 by decide);have u0:=Xf (head / 24) (show(8:Int)≠0 by decide);have u1:=X9 (head / 24) (show(0:Int)<8 by decide);have hbr:∃au:Int,1<=au/\au<=12/\((head / 4 % 6=1/\au=5+head / 24 % 8)\/(head / 4 % 6≠1/\au=1+head % 4)):=by
  by_cases hc:head / 4 % 6=1
  ·exact⟨_,by omega,by omega,.inl ⟨hc,rfl⟩⟩
  ·exact⟨_,by omega,by omega,.inr ⟨hc,rfl⟩⟩
 obtain⟨au,m1,m12,jo⟩:=hbr;have hj:∀P:Int->Prop,P au->(head / 4 % 6=1->P (5+head / 24 % 8))/\(head / 4 % 6≠1->P (1+head % 4)):=λP h=>by
  rcases jo with⟨hc,e⟩|⟨hc,e⟩
  ·exact⟨λ_=>e▸h,λz=>absurd hc z⟩
  ·exact⟨λz=>absurd z hc,λ_=>e▸h⟩
 have hq:∀(b:Bool),b=(head / 4 % 6==1)->fEq (.int (head / 4 % 6)) (.int 1)=some (.bl b):=λb e=>by rw[J4,e]
 rcases jo with⟨hc,hmv⟩|⟨hc,hmv⟩
 ·simp![hq true (by simp[hc])];rw[<-hmv];exact qke mh ⟨s1,s3,sg,so⟩ m1 m12
 ·simp![hq false (by simp[hc])];rw[<-hmv];exact qke mh ⟨s1,s3,sg,so⟩ m1 m12
end Nk11
namespace Nk11
open Q PySem C
theorem kjr:∀z∈(["any","fresh","good","new","none","room","signs"]:List Str),Sg z:=by
 intro z hz;simp only[Y4,Xx,or_false]at hz;have h:∀z:Str,(decide (1<=z.cps.size)&&decide (z.cps.size<=8)&&z.cps.toList.all λc=>AZ.cps.toList.any (· == c))=true->Sg z:=λz h=>by
  rw[Bool.and_eq_true,Bool.and_eq_true]at h;refine⟨of_decide_eq_true h.1.1,of_decide_eq_true h.1.2,λc hc=>?_⟩;obtain⟨x,hx,e⟩:=List.any_eq_true.mp (List.all_eq_true.mp h.2 c hc);rw[<-eq_of_beq e];exact hx
 rcases hz with rfl|rfl|rfl|rfl|rfl|rfl|rfl<;>exact h _ (by decide +kernel)
theorem kk9{l:List Str}(h1:1<=l.length)(h3:l.length<=3)(hn:l.Nodup)(hs:∀z∈l,Sg z):WV (q9 l):=
 ⟨by rw[(zw l).length_eq];exact h1,by rw[(zw l).length_eq];exact h3,λz hz=>hs z ((zw l).mem_iff.mp hz),qka hn⟩
theorem qwd(c:Int)(hw:∀(c au:Int),1<=au->au<=3->Oo m__law_words [(.no,.int c),(.no,.int au)] (λy=>∃l,y=(.rt,sL l)/\(l.length:Int)=au/\l.Nodup/\∀z∈l,Sg z) noX):
  Oo Q5 [(.no,.int c)] (λy=>∃ss,y=(.rt,sL ss)/\WV ss) noX:=by
 unfold Q5;refine qz ?_;have q0:=Xf (c / 32) (show(3:Int)≠0 by decide);have q1:=X9 (c / 32) (show(0:Int)<3 by decide)
 by_cases h:c % 4=1
 ·have e:fEq (.int (c % 4)) (.int 1)=some (.bl true):=by rw[h];rfl
  have ix:∀v:Int,∃z∈(["any","fresh","good","new","none","room","signs"]:List Str),jQ (.lst [.str "any",.str "fresh",.str "good",.str "new",.str "none",.str "room",.str "signs"]) (.int (v % 7))=some (.str z):=λv=>by
   have t0:=Xf v (show(7:Int)≠0 by decide);have t1:=X9 v (show(0:Int)<7 by decide);generalize v % 7=t at t0 t1;rcases(show t=0\/t=1\/t=2\/t=3\/t=4\/t=5\/t=6 by omega)with rfl|rfl|rfl|rfl|rfl|rfl|rfl
   ·exact⟨"any",by simp,rfl⟩
   ·exact⟨"fresh",by simp,rfl⟩
   ·exact⟨"good",by simp,rfl⟩
   ·exact⟨"new",by simp,rfl⟩
   ·exact⟨"none",by simp,rfl⟩
   ·exact⟨"room",by simp,rfl⟩
   ·exact⟨"signs",by simp,rfl⟩
  obtain⟨z1,m1,x1⟩:=ix (c / 4);obtain⟨z2,m2,x2⟩:=ix (c / 28);obtain⟨z3,m3,x3⟩:=ix (c / 196);have es:KW (.no,.lst [.str z1,.str z2,.str z3])=some (.rt,sL (q9 (ddS [z1,z2,z3]))):=rfl;have hd:WV (q9 (ddS [z1,z2,z3])):=by
   refine kk9 ?_ (Sw.dd_le [z1,z2,z3]) (kzf _) λz hz=>?_
   ·rcases(PyProof.Rows.foldl_step_dedup_nil_zero_or_pos [z1,z2,z3])with h|h
    ·cases h
    ·exact h
   ·have:=qzl hz;simp only[Y4,Xx,or_false]at this;rcases this with rfl|rfl|rfl
    ·exact kjr _ m1
    ·exact kjr _ m2
    ·exact kjr _ m3
  simp![e,x1,x2,x3,es];exact⟨_,rfl,hd⟩
 ·have e:fEq (.int (c % 4)) (.int 1)=some (.bl false):=by rw[J4];simp[h]
  simp![e];refine(hw (c / 4) (1+c / 32 % 3) (by omega) (by omega)).use ?_;rintro l ⟨l1,l2,l3⟩;have es:VW (.no,sL l)=some (.rt,sL (q9 l)):=by
   unfold VW;dsimp only;rw[kkq];dsimp only;rw[Xe (by omega)]
  simp![es];exact⟨_,rfl,kk9 (by omega) (by omega) l2 l3⟩
end Nk11
namespace Nk11
open Q PySem C
theorem kvo{n:Nat}{f:Nat->Str}(h:∀i j,i<j->j<n->f i≠f j):((List.range n).map f).Nodup:=by
 unfold List.Nodup;rw[List.pairwise_map];exact List.pairwise_lt_range.imp_of_mem λ_ hj db=>h _ _ db (List.mem_range.mp hj)
theorem vqp{z:Str}{j:Int}(h0:0<=j)(h1:j<=z.cps.size):(Txt.slice z none (some j)).cps.toList=z.cps.toList.take j.toNat:=by
 have:=StrLaws.sliceText_to (x:=z) (j:=j) ⟨h0,by rw[Xa];exact h1⟩;rw[show Txt.slice z none (some j)=StrLaws.sliceText z none (some j)from rfl,this];simp
theorem vqr{z:Str}{i j:Int}(h0:0<=i)(hij:i<=j)(h1:j<=z.cps.size):(Txt.slice z (some i) (some j)).cps.toList=(z.cps.toList.drop i.toNat).take (j - i).toNat:=by
 have:=StrLaws.sliceText_plain (x:=z) (i:=i) (j:=j) ⟨h0,hij,by rw[Xa];exact h1⟩;rw[show Txt.slice z (some i) (some j)=StrLaws.sliceText z (some i) (some j)from rfl,this]
def chr(t:Int):Nat:=AZ.cps.toList.getD t.toNat 0
theorem vwu{t:Int}(h0:0<=t)(h1:t<26):jQ (.str AZ) (.int t)=some (.str ⟨#[chr t]⟩)/\chr t∈AZ.cps.toList:=by
 have hl:AZ.cps.toList.length=26:=by decide +kernel
 have hs:AZ.cps.size=26:=by decide +kernel
 have e:AZ.cps.toList[t.toNat]?=some (chr t):=by
  unfold chr;rw[X5,X1 (by omega)];rfl
 refine⟨?_,List.mem_of_getElem? e⟩;show((Q.ixN AZ.cps.size t).bind λj=>(AZ.cps.toList[j]?).map λc=>D.str ⟨#[c]⟩)=_;unfold Q.ixN;rw[Xe h0,Xe (by omega)];show((AZ.cps.toList[t.toNat]?).map λc=>D.str ⟨#[c]⟩)=_;rw[e];rfl
theorem vkq{t u:Int}(h0:0<=t)(h1:t<26)(g0:0<=u)(g1:u<26)(e:chr t=chr u):t=u:=by
 have h:∀i:Fin 26,∀j:Fin 26,AZ.cps.toList.getD i 0=AZ.cps.toList.getD j 0->i=j:=by decide +kernel
 have:=h ⟨t.toNat,by omega⟩ ⟨u.toNat,by omega⟩ e;have:=congrArg Fin.val this;have:t.toNat=u.toNat:=this;omega
def wdA(z:Str)(c:Int)(k:Nat):Str:=Txt.slice z none (some (1+((k:Int)+c / 3) % 8))
theorem qjt{z:Str}{c:Int}(hz:z.cps.size=8)(hl:∀x∈z.cps.toList,x∈AZ.cps.toList)(k:Nat):Sg (wdA z c k)/\((wdA z c k).cps.size:Int)=1+((k:Int)+c / 3) % 8:=by
 have t0:=Xf ((k:Int)+c / 3) (show(8:Int)≠0 by decide);have t1:=X9 ((k:Int)+c / 3) (show(0:Int)<8 by decide);have e:=vqp (z:=z) (j:=1+((k:Int)+c / 3) % 8) (by omega) (by omega);have hs:((wdA z c k).cps.size:Int)=1+((k:Int)+c / 3) % 8:=by
  unfold wdA;rw[<-Xa,e,Y2,Xa];omega
 refine⟨⟨by omega,by omega,λx hx=>hl x ?_⟩,hs⟩;unfold wdA at hx;rw[e]at hx;exact List.mem_of_mem_take hx
theorem qju{z:Str}{c:Int}(hz:z.cps.size=8)(hl:∀x∈z.cps.toList,x∈AZ.cps.toList){n:Nat}(hn:n<=3):((List.range n).map (wdA z c)).Nodup:=kvo λi j hij hj e=>by
 have h1:=(qjt (c:=c) hz hl i).2;have h2:=(qjt (c:=c) hz hl j).2;rw[e]at h1;omega
def wdB(w1 w2:Str)(ii s:Int)(k:Nat):Str:=w1++⟨#[chr ((ii+(k:Int)*s) % 26)]⟩++w2
theorem jzl(w1 w2:Str)(ii s:Int)(k:Nat):(wdB w1 w2 ii s k).cps.toList=w1.cps.toList++(chr ((ii+(k:Int)*s) % 26)::w2.cps.toList):=by
 unfold wdB;rw[A.list_app,A.list_app,Xr];rfl
theorem vq7{w1 w2:Str}{ii s:Int}(hs:w1.cps.size+w2.cps.size<=7)(h1:∀x∈w1.cps.toList,x∈AZ.cps.toList)(h2:∀x∈w2.cps.toList,x∈AZ.cps.toList)(k:Nat):Sg (wdB w1 w2 ii s k):=by
 have t0:=Xf (ii+(k:Int)*s) (show(26:Int)≠0 by decide);have t1:=X9 (ii+(k:Int)*s) (show(0:Int)<26 by decide);have hz:(wdB w1 w2 ii s k).cps.size=w1.cps.size+w2.cps.size+1:=by
  rw[<-Xa,jzl,Xv,Xp,Xa,Xa];omega
 refine⟨by omega,by omega,λx hx=>?_⟩;rw[jzl]at hx;rcases List.mem_append.mp hx with hx|hx
 ·exact h1 x hx
 ·rcases List.mem_cons.mp hx with rfl|hx
  ·exact(vwu t0 t1).2
  ·exact h2 x hx
theorem qjs{w1 w2:Str}{ii s:Int}(s1:1<=s)(s5:s<=5){n:Nat}(hn:n<=3):((List.range n).map (wdB w1 w2 ii s)).Nodup:=kvo λi j hij hj e=>by
 have e:(wdB w1 w2 ii s i).cps.toList=(wdB w1 w2 ii s j).cps.toList:=by rw[e]
 rw[jzl,jzl]at e;have e:=List.append_cancel_left e;injection e with e _;have b:=λk:Nat=>Xf (ii+(k:Int)*s) (show(26:Int)≠0 by decide)
 have d:=λk:Nat=>X9 (ii+(k:Int)*s) (show(0:Int)<26 by decide)
 have e:=vkq (b i) (d i) (b j) (d j) e;have hi:i=0\/i=1:=by omega
 have hj:j=1\/j=2:=by omega
 rcases hi with rfl|rfl<;>rcases hj with rfl|rfl<;>omega
def hW(f:Nat->Str):D->D
 |.int k=>.str (f k.toNat)
 |d=>d
theorem qjj{G:D->Sd->Prop}{f:Nat->Str}{n:Int}{ys:List Sd}(hG:∀d y,G d y->y.2=hW f d)(h:Each G (k7 0 n) ys):ys.map (·.2)=((List.range n.toNat).map f).map D.str:=by
 rw[wj (h:=hW f) hG h];unfold k7;rw[Y3,Y3,Int.sub_zero]
 congr 1
 funext k;show D.str (f (0+(k:Int)).toNat)=_;rw[show(0+(k:Int)).toNat=k by omega];rfl
theorem vq6(c au:Int)(h0:1<=au)(h1:au<=3):Oo m__law_words [(.no,.int c),(.no,.int au)] (λy=>∃l,y=(.rt,sL l)/\(l.length:Int)=au/\l.Nodup/\∀z∈l,Sg z) noX:=by
 rw [vko];unfold A.m__law_words;refine qz ?_;simp![↓vq8];refine vq [some (.dp,.str AZ),some (.no,.int c)] (λ_ y=>∃ch∈AZ.cps.toList,y.2=.str ⟨#[ch]⟩) ?_;simp![];refine⟨rfl,λd hd=>?_,λys hys=>?_⟩
 ·obtain⟨j,j0,j1,rfl⟩:=JJ hd;simp![];refine(A.mixed_ok c j j0 (by omega)).use ?_;intro v _;have t0:=Xf v (show(26:Int)≠0 by decide);have t1:=X9 v (show(0:Int)<26 by decide);obtain⟨ch,dw,hc⟩:=A.ix_strM AZ (v % 26) t0 t1;simp![hc];exact⟨⟨_,rfl⟩,ch,dw,rfl⟩
 obtain⟨ps,g1,g2,g3⟩:=A.each_one (λd y h=>h) hys;have bq:ps.length=8:=by rw[g2];rfl
 obtain⟨z,hz,z0,z1⟩:=A.join_az g3 (by omega);rw [vx,g1];simp only[back,clr,at',List.map_cons,List.map_nil,List.set_cons_zero,List.set_cons_succ];have zs:z.cps.size<=100:=by omega
 have z8:z.cps.size=8:=by omega
 by_cases h3:c % 3=1
 ·have hd:fEq (.int (c % 3)) (.int 1)=some (.bl true):=by rw[h3];rfl
  simp![hz,hd];refine vq [some (.dp,.str z),some (.no,.int c)] (λd y=>y.2=hW (wdA z c) d) ?_;simp![];refine⟨rfl,λd hd=>?_,λys hys=>?_⟩
  ·obtain⟨j,j0,j1,rfl⟩:=JJ hd;have s1:=B.sl_s (o:=.no) (z:=z) (lo:=none) (hi:=some (1+(j+c / 3) % 8)) zs;have s1':=B.sl_s (o:=.dp) (z:=z) (lo:=none) (hi:=some (1+(j+c / 3) % 8)) zs;simp![s1,s1'];refine⟨⟨_,rfl⟩,?_⟩;show _=D.str (wdA z c j.toNat);unfold wdA;rw[show((j.toNat:Nat):Int)=j by omega]
  ·rw[vx,qjj (λ_ _ h=>h) hys];exact⟨_,rfl,by rw[X4,Y5];omega,qju z8 z1 (by omega),λw hw=>by
    obtain⟨k,_,rfl⟩:=List.mem_map.mp hw;exact(qjt z8 z1 k).1⟩
 ·have hd:fEq (.int (c % 3)) (.int 1)=some (.bl false):=by rw[J4];simp[h3]
  have a0:=Xf (c / 3) (show(8:Int)≠0 by decide);have a1:=X9 (c / 3) (show(0:Int)<8 by decide);have b0:=Xf (c / 24) (show 1+c / 3 % 8≠0 by omega);have b1:=X9 (c / 24) (show 0<1+c / 3 % 8 by omega);simp![hz,hd,mod_i (a:=c / 24) (b:=1+c / 3 % 8) (by omega)];generalize c / 24 % (1+c / 3 % 8)=bp at b0 b1;obtain⟨lg,hlg⟩:∃lg,lg=1+c / 3 % 8:=⟨_,rfl⟩;rw[<-hlg]at b1 ⊢;have c0:=Xf (c / 192) (show(5:Int)≠0 by decide);have c1:=X9 (c / 192) (show(0:Int)<5 by decide);obtain⟨ch,dw,md⟩:=A.ix_strM z bp b0 (by omega);obtain⟨ii,hii⟩:=A.az_found ch (z1 ch dw);have e1:=vqp (z:=z) (j:=bp) b0 (by omega);have e2:=vqr (z:=z) (i:=bp+1) (j:=lg) (by omega) (by omega) (by omega);have s1:=λo=>B.sl_s (o:=o) (z:=z) (lo:=none) (hi:=some bp) zs
  have s2:=λo=>B.sl_s (o:=o) (z:=z) (lo:=some (bp+1)) (hi:=some lg) zs
  generalize Txt.slice z none (some bp)=w1 at e1 s1;generalize Txt.slice z (some (bp+1)) (some lg)=w2 at e2 s2;have n1:(w1.cps.size:Int)=bp:=by rw[<-Xa,e1,Y2,Xa];omega
  have n2:(w2.cps.size:Int)=lg - (bp+1):=by rw[<-Xa,e2,Y2,Yb,Xa];omega
  have v1:∀x∈w1.cps.toList,x∈AZ.cps.toList:=λx hx=>z1 x (by rw[e1]at hx;exact List.mem_of_mem_take hx)
  have v2:∀x∈w2.cps.toList,x∈AZ.cps.toList:=λx hx=>z1 x (by rw[e2]at hx;exact List.mem_of_mem_drop (List.mem_of_mem_take hx))
  refine qkr (λE jx=>∃(j:Nat) (l7 l8:Option Sd) (o2 o3 o4 o5:Own),E=[some (.no,.int c),some (.no,.int au),some (o2,.str AZ),some (o3,.str z),some (o4,.int lg),some (o5,.int bp),some (.rt,sL ((List.range j).map (wdB w1 w2 ii (1+c / 192 % 5)))),l7,l8]/\(j:Int)<=au/\jx=k7 j au) ?_ ?_ ?_
  ·simp![];exact⟨0,_,_,_,_,_,_,rfl,by omega,rfl⟩
  ·rintro E d ds ⟨j,l7,l8,o2,o3,o4,o5,rfl,j1,hr⟩;obtain⟨hj,rfl,rfl⟩:=kvb j1 hr;have m1:=mul_l (o1:=.no) (o2:=.no) (a:=(j:Int)) (b:=1+c / 192 % 5) (by omega) (by omega);have t0:=Xf ((ii:Int)+j*(1+c / 192 % 5)) (show(26:Int)≠0 by decide);have t1:=X9 ((ii:Int)+j*(1+c / 192 % 5)) (show(0:Int)<26 by decide);simp![↓vq9,md,hii,m1,show kz5 (.str AZ)=true from rfl];have hx:=(vwu t0 t1).1;have lm:((⟨#[chr (((ii:Int)+j*(1+c / 192 % 5)) % 26)]⟩:Str).cps.size)=1:=rfl;have a1:=kzk (o1:=.no) (o2:=.no) (a:=w1) (b:=⟨#[chr (((ii:Int)+j*(1+c / 192 % 5)) % 26)]⟩) (by rw[lm];omega);have a2:=kzk (o1:=.no) (o2:=.no) (a:=w1++⟨#[chr (((ii:Int)+j*(1+c / 192 % 5)) % 26)]⟩) (b:=w2) (by rw[qwb,lm];omega);have a1':=kzk (o1:=.no) (o2:=sub o2) (a:=w1) (b:=⟨#[chr (((ii:Int)+j*(1+c / 192 % 5)) % 26)]⟩) (by rw[lm];omega);refine vxn rfl ?_;simp![s1,s2,hx,a1,a2,a1'];refine⟨_,rfl,by rw[X4,X4,Y5];omega,?_⟩;rw[show((List.range j).map (wdB w1 w2 ii (1+c / 192 % 5))).map D.str++[D.str (w1++⟨#[chr (((ii:Int)+j*(1+c / 192 % 5)) % 26)]⟩++w2)]=((List.range (j+1)).map (wdB w1 w2 ii (1+c / 192 % 5))).map D.str by rw[List.range_succ,Yj,Yj];rfl];exact⟨j+1,_,_,_,_,_,_,rfl,by omega,by rw[show((j:Int)+1)=((j+1:Nat):Int)by omega]⟩
  ·rintro E ⟨j,l7,l8,o2,o3,o4,o5,rfl,j1,hr⟩;have:=qki j1 hr;simp![];exact⟨_,rfl,by rw[X4,Y5];omega,qjs (by omega) (by omega) (by omega),λw hw=>by
    obtain⟨k,_,rfl⟩:=List.mem_map.mp hw;exact vq7 (by omega) v1 v2 k⟩
end Nk11
namespace Nk11
open Q PySem C
theorem Fil.flat{own:Int}{n:Nat}{d:D}(h:Fil own d):d.flat (n+1)=true:=by rcases h with rfl|rfl|⟨i,rfl,_⟩<;>rfl
theorem Ask.flat{own:Int}{n:Nat}{d:D}(h:Ask own d):d.flat (n+1)=true:=by rcases h with rfl|rfl|⟨i,rfl,_⟩<;>rfl
theorem Stp.flat{ss:List Str}{own:Int}{ks:List Int}{d:D}{n:Nat}(h:Stp ss own ks d):d.flat (n+4)=true:=by
 obtain⟨sg,jb,to,fs,rfl,hs,ha,t0,t1,hf,gw⟩:=h;refine vj λx hx=>?_
 simp only[Y4,Xx,or_false]at hx;rcases hx with rfl|rfl|rfl|rfl
 ·rfl
 ·exact ha.flat (n:=n+2)
 ·rfl
 ·exact vj λf hf=>(gw f hf).flat (n:=n+1)
structure BadR (d:D):Prop where
 no:wJ d=false
 fl:d.flat 38=true
 ln:(vJ d).length<=120
theorem n1:KK (.int 1)=some (.int (-1)):=rfl
theorem pick{L:List D}{t:Int}{E:En}{P:En->D->Prop}(h0:0<=t)(h1:t<L.length)(h:∀a∈L,P E a):Wo (jQ (.lst L) (.int t)) E P:=by
 obtain⟨a,ha,e⟩:=qq6 h0 h1;rw[e,wo_some];exact h a ha
theorem qxp(de k:Int)(g:Bool){st:List D}(k0:0<=k)(hl:st.length<=120)(hf:∀n,D.flats (n+4) st=true):
  Oo ZJ [(.no,.int de),(.no,.tup [.int k,.bl g,.lst st])] (λy=>∃d,y=(.no,d)/\BadR d) noX:=by
 have f1:D.flats 36 st=true:=hf 32;have i1:W7 (.bl g)=some (.int (if g then 1 else 0)):=rfl;have w0:=Xf de (show(12:Int)≠0 by decide);have w1:=X9 de (show(0:Int)<12 by decide);have hm:jv (.int de) (.int 12)=some (.int (de % 12)):=mod_i (by decide);generalize de % 12=t at w0 w1 hm;unfold ZJ;refine qz ?_;simp![n1,i1];rw [wx (by decide) (by decide) (by simp)];simp![];rw [wx (by decide) (by decide) (by simp)];simp![XW (o:=.no) (xs:=st) (by decide)];rw [wx (by decide) (by decide) (by simp)];simp![hm];refine pick w0 (by simp;omega) λa hmem=>?_
 simp![];refine⟨a,rfl,?_⟩;simp only[Y4,Xx,or_false]at hmem;rcases hmem with rfl|rfl|rfl|rfl|rfl|rfl|rfl|rfl|rfl|rfl|rfl|rfl
 all_goals
  refine⟨by simp[wJ,qJ,XY,J3],?_,?_⟩
  ·simp[D.flat,D.flats,f1]
  ·first
    |exact Yt _
    |exact hl
theorem Qw{a:D}{b:D}(h:xX a=false):Jx (.tup [a,b])=false:=by simp only[Jx,h,Bool.false_and]
theorem QK{a:D}{b:D}(h:xK (ssD a) b=false):Jx (.tup [a,b])=false:=by simp only[Jx,h,Bool.and_false]
structure BadM (d:D):Prop where
 no:Jx d=false
 fl:d.flat 40=true
 ln:vzh d
theorem qxc{xs:List D}(h:1<=xs.length):∃z∈xs,qk xs (some (-1)) none=[z]:=by
 have e:qk xs (some (-1)) none=xs.drop (xs.length - 1):=by
  unfold qk xZ;dsimp only;rw[show(if(-1:Int)<0 then(-1+(xs.length:Int)).toNat else min (-1:Int).toNat xs.length)=xs.length - 1 by rw[Xe (by decide)];omega];rw[List.take_of_length_le];rw[Yb];exact Xg _
 rw[e];refine⟨xs[xs.length - 1],Xy _,?_⟩;rw[List.drop_eq_getElem_cons (by omega),List.drop_eq_nil_of_le (by omega)]
theorem qjy{ss:List Str}{z:Str}(hz:z∈ss):xX (.lst (ss.map D.str++[.str z]))=false:=by
 have e:ss.map D.str++[D.str z]=(ss++[z]).map D.str:=by rw[Yj];rfl
 rw[e];simp only[xX,kko];rw[Bool.and_eq_false_iff];refine .inr (Xm λh=>?_);have hn:(ss++[z]).Nodup:=by rw[h];exact(zw _).nodup_iff.mpr (kzf _)
 rw[X8]at hn;exact hn.2.2 z hz z (by simp) rfl
abbrev W9:D:=.tup [.int 0,.bl false,.lst []]
theorem xW{a:D}{rs:List D}(h:∀r∈rs,(vJ r).length<=1000):vzh (.tup [a,.lst rs]):=λ_ _ e=>by
 injection e with e;injection e with _ e;injection e with e _;injection e with e;subst e;exact h
abbrev Zk(z:Str):D:=.tup [.str z,.str "any",.int 0,.tup []]
theorem qvs(de:Int){ss:List Str}{ks:List Int}{rs:List D}(h:Mc ss ks rs)(hf:∀n,D.flats (n+7) rs=true):
  Oo Zx [(.no,.int de),(.no,wQ ss rs)] (λy=>∃d,y=(.no,d)/\BadM d) noX:=by
 have w0:=Xf de (show(18:Int)≠0 by decide);have w1:=X9 de (show(0:Int)<18 by decide);have hm:jv (.int de) (.int 18)=some (.int (de % 18)):=mod_i (by decide);generalize de % 18=t at w0 w1 hm;obtain⟨z',hz',hcut⟩:=qxc (xs:=ss.map D.str) (by rw[X4];exact h.s1);obtain⟨z,hz,rfl⟩:=List.mem_map.mp hz';have s1:=h.s1;have s3:=h.s3;have hx0:jQ (sL ss) (.int 0)=some (.str (ss[0]'(by omega))):=v9 (by decide) (by rw[Xh];show Option.map D.str ss[0]?=_;rw[X1 (by omega)];rfl);unfold Zx;refine qz ?_;simp![XW (o:=.no) (xs:=ss.map D.str) (by decide),n1,Vk (o:=.no) (xs:=ss.map D.str) (lo:=some (-1)) (hi:=none) (by decide),hcut];rw[wx (by decide) (by decide) (by simp;omega)];simp![];rw[wx (by decide) (by decide) (by simp)];simp![];rw[wx (by decide) (by decide) (by simp)];simp![];refine vq [some (.no,W9)] (λ_ y=>y.2=W9) ?_;simp![];refine⟨rfl,λd hd=>⟨⟨_,rfl⟩,trivial⟩,λys hy=>?_⟩;rw[vx,wj (h:=λ_=>W9) (λ_ _ h=>h) hy];simp only[back,clr,at',List.map_cons,List.map_nil,List.set_cons_zero,List.set_cons_succ];simp![XW (o:=.no) (xs:=rs) (by decide)];rw[wx (by decide) (by decide) (by simp)];simp![hx0];refine vq [some (.no,Zk (ss[0]'(by omega)))] (λ_ y=>y.2=Zk (ss[0]'(by omega))) ?_;simp![];refine⟨rfl,λd hd=>⟨⟨_,rfl⟩,trivial⟩,λys2 hy2=>?_⟩;rw[vx,wj (h:=λ_=>Zk (ss[0]'(by omega))) (λ_ _ h=>h) hy2];simp only[back,clr,at',List.map_cons,List.map_nil,List.set_cons_zero,List.set_cons_succ];simp![];rw[wx (by decide) (by decide) (by simp)];simp![hm];refine pick w0 (by simp;omega) λa hmem=>?_
 simp![];refine⟨a,rfl,?_⟩;have ll:(k7 0 13).length=13:=rfl;have l121:(k7 0 121).length=121:=by unfold k7;rw[X4,Y5];rfl
 generalize k7 0 13=R13 at hmem ll;generalize k7 0 121=R121 at hmem l121;have F1:D.flats 38 rs=true:=hf 31;have F2:D.flats 38 (ss.map D.str)=true:=vj λd hd=>by obtain⟨w,_,rfl⟩:=List.mem_map.mp hd;rfl
 have F3:D.flats 38 (ss.map D.str++[.str z])=true:=vj λd hd=>by
  rcases List.mem_append.mp hd with hd|hd
  ·obtain⟨w,_,rfl⟩:=List.mem_map.mp hd;rfl
  ·rw[List.mem_singleton.mp hd];rfl
 have F4:D.flats 38 (R13.map λ_=>W9)=true:=vj λd hd=>by obtain⟨w,_,rfl⟩:=List.mem_map.mp hd;rfl
 have F5:D.flats 36 (R121.map λ_=>Zk (ss[0]'(by omega)))=true:=vj λd hd=>by obtain⟨w,_,rfl⟩:=List.mem_map.mp hd;rfl
 have S1:∀r∈rs,(vJ r).length<=1000:=λr hr=>by
  obtain⟨k,gd,st,rfl,_,_,ce,_⟩:=h.rm r hr;exact Xs ce (by decide)
 have S0:∀r∈[W9],(vJ r).length<=1000:=λr hr=>by rw[List.mem_singleton.mp hr];exact Yt _
 have L13:decide ((R13.map λ_=>W9).length<=12)=false:=Xm (by rw[X4];omega);have L121:decide (xY [.tup [.int 0,.bl true,.lst (R121.map λ_=>Zk (ss[0]'(by omega)))]]<=120)=false:=Xm (by
  show ¬(List.length (R121.map _)+0<=120);rw[X4];omega)
 simp only[Y4,Xx,or_false]at hmem;rcases hmem with rfl|rfl|rfl|rfl|rfl|rfl|rfl|rfl|rfl|rfl|rfl|rfl|rfl|rfl|rfl|rfl|rfl|rfl
 ·exact⟨rfl,by simp[D.flat,D.flats,F1,F2],λ_ _ e=>nomatch e⟩
 ·exact⟨rfl,by simp[D.flat,D.flats,F1,F2],λ_ _ e=>nomatch e⟩
 ·exact⟨rfl,by simp[D.flat,D.flats,F1,F2],λ_ _ e=>nomatch e⟩
 ·exact⟨rfl,rfl,λ_ _ e=>nomatch e⟩
 ·exact⟨Qw rfl,by simp[D.flat,D.flats,F1,F2],xW S1⟩
 ·exact⟨Qw rfl,rfl,xW S0⟩
 ·exact⟨Qw rfl,rfl,xW S0⟩
 ·exact⟨Qw (qjy hz),by simp[D.flat,D.flats,F1,F3],xW S1⟩
 ·exact⟨Qw (by decide +kernel),rfl,xW S0⟩
 ·exact⟨Qw (by decide +kernel),rfl,xW S0⟩
 ·exact⟨QK rfl,by simp[D.flat,D.flats,F2],xW λ_ h=>nomatch h⟩
 ·exact⟨QK (by simp only[xK,zK,L13,Bool.and_false,Bool.false_and]),by simp[D.flat,D.flats,F2,F4],xW λr hr=>by obtain⟨w,_,rfl⟩:=List.mem_map.mp hr;exact Yt _⟩
 ·exact⟨QK rfl,by simp[D.flat,D.flats,F1,F2],λ_ _ e=>nomatch e⟩
 ·exact⟨QK rfl,by simp[D.flat,D.flats,F2],λ_ _ e=>nomatch e⟩
 ·exact⟨QK (by simp only[xK,zK,L121,Bool.and_false,Bool.false_and]),by simp[D.flat,D.flats,F2,F5],xW λr hr=>by
   rw[List.mem_singleton.mp hr];show(List.map _ R121).length<=1000;rw[X4];omega⟩
 ·exact⟨rfl,rfl,λ_ _ e=>nomatch e⟩
 ·exact⟨rfl,rfl,λ_ _ e=>nomatch e⟩
 ·exact⟨Qw (by decide +kernel),rfl,xW S0⟩
end Nk11
namespace Nk11
open Q PySem C
section
variable {ss:List Str}{own:Int}{ks:List Int}{a b c e:D}
theorem st1(h:wV a ss=false):qW ss own ks (.tup [a,b,c,e])=false:=by simp only[qW,h,Bool.false_and]
theorem st2(h:K6 own b=false):qW ss own ks (.tup [a,b,c,e])=false:=by simp only[qW,h,Bool.and_false,Bool.false_and]
theorem st3(h:qJ c ks.length=false):qW ss own ks (.tup [a,b,c,e])=false:=by simp only[qW,h,Bool.and_false,Bool.false_and]
theorem st4(h:K2 e own (atK ks c).toNat=false):qW ss own ks (.tup [a,b,c,e])=false:=by simp only[qW,h,Bool.and_false]
end
theorem qvt:∀c∈AZ.cps.toList,97<=c/\c<=122:=by decide +kernel
theorem qjx{z:Str}(h:Sg z):fUp (.str z)=some (.str (Txt.upper z))/\Txt.upper z=⟨z.cps.map PyProof.Rows.up1⟩:=by
 have e:=PyProof.Rows.upper_ascii (x:=z) λc hc=>by have:=qvt c (h.2.2 c hc);omega
 refine⟨?_,e⟩;unfold fUp;dsimp only;rw[Xe];rw[e];show(z.cps.map _).size<=sizeLine;rw[Array.size_map];exact Xs h.2.1 (by decide)
theorem vzk{z:Str}{ss:List Str}(h:Sg z)(hs:∀w∈ss,Sg w):wV (.str (Txt.upper z)) ss=false:=by
 show(ss.any λw=>w==Txt.upper z)=false;rw[List.any_eq_false];intro w hw e;have e:w=Txt.upper z:=by simpa using e
 rw[(qjx h).2]at e;have h1:=h.1;have hc:z.cps[0]∈z.cps.toList:=by rw[Array.mem_toList_iff];exact Array.getElem_mem _
 have l1:=qvt _ (h.2.2 _ hc);have hm:PyProof.Rows.up1 z.cps[0]∈w.cps.toList:=by
  rw[e];rw[Array.mem_toList_iff];exact Array.mem_map.mpr ⟨_,Array.getElem_mem _,rfl⟩
 have l2:=qvt _ ((hs w hw).2.2 _ hm);unfold PyProof.Rows.up1 at l2;rw[Xe l1]at l2;omega
theorem vzj{z:Str}{ss:List Str}(h:Sg z)(hs:∀w∈ss,Sg w):wV (.str (z++"zzzzzzzz")) ss=false:=by
 show(ss.any λw=>w==z++"zzzzzzzz")=false;rw[List.any_eq_false];intro w hw e;have e:w=z++"zzzzzzzz":=by simpa using e
 have h8:=(hs w hw).2.1;rw[e]at h8;have:(z++("zzzzzzzz":Str)).cps.size=z.cps.size+8:=by
  show(z.cps++("zzzzzzzz":Str).cps).size=_;rw[Array.size_append];rfl
 have h1:=h.1;omega
structure BadS (ss:List Str)(own:Int)(ks:List Int)(d:D):Prop where
 no:qW ss own ks d=false
 fl:d.flat 36=true
theorem nons(n:Nat)(R:List D):D.flats n (R.map λ_=>D.non)=true:=vj λd hd=>by obtain⟨w,_,rfl⟩:=List.mem_map.mp hd;cases n<;>rfl
theorem qxo(de b9 cell:Int){ss:List Str}{ks:List Int}{rs:List D}(h:Mc ss ks rs)(h0:0<=b9)(h1:b9<rs.length):
  Oo YQ [(.no,.int de),(.no,wQ ss rs),(.no,.int b9),(.no,.int cell)] (λy=>∃d,y=(.no,d)/\BadS ss (ks.getD b9.toNat 0) ks d) noX:=by
 have s1:=h.s1;have s3:=h.s3;have r1:=h.r1;have r12:=h.r12;have j0:∀a b:D,jQ (.tup [a,b]) (.int 0)=some a:=λ_ _=>rfl
 have j1:∀a b:D,jQ (.tup [a,b]) (.int 1)=some b:=λ_ _=>rfl
 have k0:∀a b c:D,jQ (.tup [a,b,c]) (.int 0)=some a:=λ_ _ _=>rfl
 have hkl:ks.length=rs.length:=by rw[<-h.keys,X4]
 have rm:∀i:Int,0<=i->i<rs.length->∃g st,jQ (.lst rs) (.int i)=some (.tup [.int (ks.getD i.toNat 0),.bl g,.lst st])/\0<=ks.getD i.toNat 0/\ks.getD i.toNat 0<=3:=λi i0 i1=>by
  have hr:rs[i.toNat]?=some (rs[i.toNat]'(by omega)):=X1 (by omega);obtain⟨k,g,st,e,a,b,_⟩:=h.rm _ (Xy (by omega):rs[i.toNat]'(by omega)∈rs);have hk:ks.getD i.toNat 0=k:=by
   rw[<-h.keys,X5,Xh,hr,e];rfl
  rw [hk];exact⟨g,st,by rw[<-e];exact v9 i0 hr,a,b⟩
 obtain⟨g,st,hro,o0,o3⟩:=rm b9 h0 h1;generalize ks.getD b9.toNat 0=own at hro o0 o3;have t0:=Xf (cell / 7) (show(rs.length:Int)≠0 by omega);have t1:=X9 (cell / 7) (show(0:Int)<rs.length by omega);have ht:jv (.int (cell / 7)) (.int rs.length)=some (.int (cell / 7 % rs.length)):=mod_i (by omega);generalize cell / 7 % rs.length=to at t0 t1 ht;obtain⟨g',cz,hrt,p0,p3⟩:=rm to t0 t1;have g0:=Xf cell (show(ss.length:Int)≠0 by omega);have g1:=X9 cell (show(0:Int)<ss.length by omega);have hg:jv (.int cell) (.int ss.length)=some (.int (cell % ss.length)):=mod_i (by omega);have esg:jQ (sL ss) (.int (cell % ss.length))=some (.str (ss[(cell % ss.length).toNat]'(by omega))):=v9 g0 (by rw[Xh,X1 (by omega)];rfl);have hsm:ss[(cell % ss.length).toNat]'(by omega)∈ss:=Xy _;generalize ss[(cell % ss.length).toNat]'(by omega)=sg at esg hsm;have hS:=h.sg sg hsm;have az:sg.cps.size<=8:=hS.2.1;unfold YQ;refine qz ?_;simp![j0,j1,k0,hro,ht];refine vq [] (λ_ y=>y.2=.non) ?_;refine JV ?_;simp![j1,hrt,k0];refine⟨_,rfl,by omega,by omega,λd hd=>⟨⟨_,rfl⟩,trivial⟩,λys hy=>?_⟩;rw [vx,wj (h:=λ_=>.non) (λ_ _ h=>h) hy,bk];have lf:(((k7 0 (ks.getD to.toNat 0)).map λ_=>D.non).length:Int)=ks.getD to.toNat 0:=by rw[X4,VQ (by omega)];omega
 have ff:∀n,D.flats n ((k7 0 (ks.getD to.toNat 0)).map λ_=>D.non)=true:=λn=>nons n _
 have fa:∀d∈((k7 0 (ks.getD to.toNat 0)).map λ_=>D.non),d=.non:=λd hd=>by obtain⟨w,_,rfl⟩:=List.mem_map.mp hd;rfl
 generalize (k7 0 (ks.getD to.toNat 0)).map (λ_=>D.non)=fs at lf ff fa;have az8:jw (.no,.str sg) (.no,.str "zzzzzzzz")=some (.dp,.str (sg++"zzzzzzzz")):=kzk (by show sg.cps.size+8<=10000;omega);have hup:=(qjx hS).1;simp![XW (o:=.no) (xs:=fs) (by decide),j0,j1,hg,esg,n1,az8];rw [wx (by decide) (by decide) (by simp)];simp![n1];rw [wx (by decide) (by decide) (by simp)];simp![n1,j1];rw [wx (by decide) (by decide) (by simp)];simp![show K1 (.no,.tup fs)=some (.rt,.lst fs)from rfl,qvw (a:=fs) (b:=[.non]) (by simp;omega)];rw [wx (by decide) (by decide) (by simp)];simp![hup];rw [wx (by decide) (by decide) (by simp)];have y0:=Xf (de / 3) (show(17:Int)≠0 by decide);have y1:=X9 (de / 3) (show(0:Int)<17 by decide);have hy':jv (.int (de / 3)) (.int 17)=some (.int (de / 3 % 17)):=mod_i (by decide);generalize de / 3 % 17=t at y0 y1 hy';have hw3:jv (.int de) (.int 3)=some (.int (de % 3)):=mod_i (by decide);generalize de % 3=w3 at hw3;have fin:∀(E:En) (L:List D),L=[.lst [.str sg,.str "fresh",.int to,.tup fs],.tup [.str sg,.str "fresh",.int to],.tup [.str sg,.str "fresh",.int to,.tup fs,.non],
   .tup [.str (sg++"zzzzzzzz"),.str "any",.int to,.tup fs],.tup [.non,.str "any",.int to,.tup fs],.tup [.str sg,.str "old",.int to,.tup fs],
   .tup [.str sg,.int own,.int to,.tup fs],.tup [.str sg,.int (-1),.int to,.tup fs],
   .tup [.str sg,.non,.int to,.tup fs],.tup [.str sg,.str "any",.int rs.length,.tup fs],.tup [.str sg,.str "any",.int (-1),.tup fs],
   .tup [.str sg,.str "any",.int to,.lst fs],.tup [.str sg,.str "any",.int to,.tup (fs++[.non])],.tup [.str sg,.str "any",.non,.tup fs],
   .tup [.str sg,.str "any",.bl true,.tup fs],.tup [.str sg,.bl true,.int to,.tup fs],.tup [.str (Txt.upper sg),.str "any",.int to,.tup fs]] ->
   Wo (jQ (.lst L) (.int t)) E (λ_ a=>∃d,(Own.no,a)=(Own.no,d)/\BadS ss own ks d):=λE L hL=>by
  subst hL;refine pick y0 (by simp;omega) λa hmem=>⟨a,rfl,?_⟩
  have F1:=ff 34;have F2:D.flats 34 (fs++[.non])=true:=vj λd hd=>by
   rcases List.mem_append.mp hd with hd|hd
   ·rw[fa d hd];rfl
   ·rw[List.mem_singleton.mp hd];rfl
  simp only[Y4,Xx,or_false]at hmem;rcases hmem with rfl|rfl|rfl|rfl|rfl|rfl|rfl|rfl|rfl|rfl|rfl|rfl|rfl|rfl|rfl|rfl|rfl
  all_goals refine⟨?_,by simp[D.flat,D.flats,F1,F2]⟩
  ·rfl
  ·rfl
  ·rfl
  ·exact st1 (vzj hS h.sg)
  ·exact st1 rfl
  ·exact st2 rfl
  ·exact st2 (by simp[K6,wV,qJ])
  ·exact st2 (by simp[K6,wV,qJ])
  ·exact st2 rfl
  ·exact st3 (by simp[qJ];omega)
  ·exact st3 (by simp[qJ])
  ·exact st4 rfl
  ·refine st4 ?_;have:decide ((fs++[D.non]).length=(atK ks (.int to)).toNat)=false:=Xm (by
    show ¬((fs++[D.non]).length=(ks.getD to.toNat 0).toNat);rw[Xv,List.length_singleton];omega)
   simp only[K2,this,Bool.false_and]
  ·exact st3 rfl
  ·exact st3 rfl
  ·exact st2 rfl
  ·exact st1 (vzk hS h.sg)
 by_cases c1:0<fs.length
 rotate_left
 ·have e1:fGt (.int fs.length) (.int 0)=some (.bl false):=by rw[gt_ii,Xm (by omega)]
  simp![e1,hy'];exact fin _ _ rfl
 have e1:fGt (.int fs.length) (.int 0)=some (.bl true):=by rw[gt_ii,Xj (by omega)]
 by_cases c2:0<w3
 rotate_left
 ·have e2:fGt (.int w3) (.int 0)=some (.bl false):=by rw[gt_ii,Xm (by omega)]
  simp![e1,hw3,e2,hy'];exact fin _ _ rfl
 have e2:fGt (.int w3) (.int 0)=some (.bl true):=by rw[gt_ii,Xj (by omega)]
 have a0:=Xf (cell / 90) (show(fs.length:Int)≠0 by omega);have a1:=X9 (cell / 90) (show(0:Int)<fs.length by omega);have ha:jv (.int (cell / 90)) (.int fs.length)=some (.int (cell / 90 % fs.length)):=mod_i (by omega);generalize cell / 90 % fs.length=bp at a0 a1 ha;have b0:=Xf (cell / 500) (show(6:Int)≠0 by decide);have b1:=X9 (cell / 500) (show(0:Int)<6 by decide);have hb:jv (.int (cell / 500)) (.int 6)=some (.int (cell / 500 % 6)):=mod_i (by decide);generalize cell / 500 % 6=bt at b0 b1 hb;simp![e1,hw3,e2,ha,n1,hb];refine pick b0 (by simp;omega) λfy hmem=>?_
 have hbad:J8 own fy=false/\fy.flat 17=true:=by
  simp only[Y4,Xx,or_false]at hmem;rcases hmem with rfl|rfl|rfl|rfl|rfl|rfl
  ·exact⟨by simp[J8,isNon,wV,qJ],rfl⟩
  ·exact⟨by simp[J8,isNon,wV,qJ],rfl⟩
  ·exact⟨rfl,rfl⟩
  ·exact⟨rfl,rfl⟩
  ·exact⟨rfl,rfl⟩
  ·exact⟨rfl,rfl⟩
 have l1:fSl (.no,.tup fs) none (some bp)=some (.no,.tup (qk fs none (some bp))):=by
  refine Xe ⟨rfl,λhh=>?_⟩;have:=hh.2;unfold xZ at this;dsimp only at this;rw [Xl (by omega)]at this;omega
 have l2:fSl (.no,.tup fs) (some (bp+1)) none=some (.no,.tup (qk fs (some (bp+1)) none)):=by
  refine Xe ⟨rfl,λhh=>?_⟩;have:=hh.1;unfold xZ at this;dsimp only at this;rw [Xl (by omega)]at this;omega
 have m1:(qk fs none (some bp)).length<=3:=by
  unfold qk;rw [Y2,Yb];omega
 have m2:(qk fs (some (bp+1)) none).length<=3:=by
  unfold qk;rw [Y2,Yb];omega
 have q1:∀d∈qk fs none (some bp),d=.non:=λd hd=>fa d (kqj hd)
 have q2:∀d∈qk fs (some (bp+1)) none,d=.non:=λd hd=>fa d (kqj hd)
 simp![l1,l2];generalize qk fs none (some bp)=A1 at m1 q1;rw [qvw (by simp;omega)];simp![l2];clear l2;generalize qk fs (some (bp+1)) none=A2 at m2 q2;rw [qvw (by simp;omega)];simp![];refine⟨_,rfl,st4 ?_,?_⟩
 ·have:(A1++[fy]++A2).all (J8 own)=false:=by
   rw[List.all_append,List.all_append];simp[hbad.1]
  simp only[K2,this,Bool.and_false]
 ·have F1:D.flats 34 (A1++[fy]++A2)=true:=vj λd hd=>by
   rcases List.mem_append.mp hd with hd|hd
   ·rcases List.mem_append.mp hd with hd|hd
    ·rw[q1 d hd];rfl
    ·rw[List.mem_singleton.mp hd];simp only[Y4,Xx,or_false]at hmem;rcases hmem with rfl|rfl|rfl|rfl|rfl|rfl<;>rfl
   ·rw[q2 d hd];rfl
  simp only[D.flat,D.flats,F1,Bool.and_self]
theorem kqb{rs:List D}{n:Nat}{d x:D}(h:x∈rs.set n d):x∈rs\/x=d:=List.mem_or_eq_of_mem_set h
theorem qkb{rs:List D}{n:Nat}{d:D}(h:n<rs.length):d∈rs.set n d:=List.mem_iff_getElem.mpr ⟨n,by rw[Yo];exact h,List.getElem_set_self _⟩
theorem kzt{ss:List Str}{ks:List Int}{rs:List D}{n:Nat}{d:D}(h:Mc ss ks rs)(hf:D.flats 38 rs=true)(hn:n<rs.length)(hd:BadR d):BadM (wQ ss (rs.set n d)):=by
 refine⟨QK ?_,?_,xW λr hr=>?_⟩
 ·have:(rs.set n d).all wJ=false:=by
   rw[List.all_eq_false];exact⟨d,qkb hn,by rw[hd.no];decide⟩
  simp only[xK,zK,this,Bool.and_false,Bool.false_and]
 ·have F1:D.flats 38 (ss.map D.str)=true:=vj λd hd=>by obtain⟨w,_,rfl⟩:=List.mem_map.mp hd;rfl
  have F2:D.flats 38 (rs.set n d)=true:=vj λx hx=>by
   rcases kqb hx with hx|rfl
   ·exact Ww hf x hx
   ·exact hd.fl
  simp only[D.flat,D.flats,F1,F2,Bool.and_self]
 ·rcases kqb hr with hr|rfl
  ·obtain⟨k,gd,st,rfl,_,_,ce,_⟩:=h.rm r hr;exact Xs ce (by decide)
  ·exact Xs hd.ln (by decide)
theorem kzs{ss:List Str}{ks:List Int}{rs:List D}{n:Nat}{k:Int}{g:Bool}{st A B:List D}{fy:D}(h:Mc ss ks rs)(hf:D.flats 38 rs=true)(hn:n<rs.length)(e:rs[n]=.tup [.int k,.bl g,.lst st])(hb:BadS ss k ks fy)(hA:∀x∈A,x∈st)(hB:∀x∈B,x∈st)(hl:A.length+B.length<=500):
  BadM (wQ ss (rs.set n (.tup [.int k,.bl g,.lst (A++[fy]++B)]))):=by
 have ek:(rs.set n (.tup [.int k,.bl g,.lst (A++[fy]++B)])).map vX=ks:=by
  rw[List.map_set,<-h.keys];apply List.ext_getElem
  ·simp
  ·intro i h1 h2;rw[List.getElem_set]
   split
   ·rename_i hi;subst hi;rw[List.getElem_map,e];rfl
   ·rfl
 refine⟨QK ?_,?_,xW λr hr=>?_⟩
 ·have:((rs.set n (.tup [.int k,.bl g,.lst (A++[fy]++B)])).all λr=>(vJ r).all (qW ss (vX r) ks))=false:=by
   rw[List.all_eq_false];refine⟨_,qkb hn,?_⟩;have:(A++[fy]++B).all (qW ss k ks)=false:=by
    rw[List.all_append,List.all_append];simp[hb.no]
   show ¬((A++[fy]++B).all (qW ss k ks)=true);rw[this];decide
  have es:ssD (sL ss)=ss:=kko ss;simp only[xK,zK,ek,es,this,Bool.and_false]
 ·have F1:D.flats 38 (ss.map D.str)=true:=vj λd hd=>by obtain⟨w,_,rfl⟩:=List.mem_map.mp hd;rfl
  have fst:∀x∈st,x.flat 36=true:=by
   have:=Ww hf _ (Xy hn);rw[e]at this;exact ZQ (n:=37) (z5 (n:=38) this (.lst st) (by simp))
  have F3:D.flats 36 (A++[fy]++B)=true:=vj λx hx=>by
   rcases List.mem_append.mp hx with hx|hx
   ·rcases List.mem_append.mp hx with hx|hx
    ·exact fst x (hA x hx)
    ·rw[List.mem_singleton.mp hx];exact hb.fl
   ·exact fst x (hB x hx)
  have F2:D.flats 38 (rs.set n (.tup [.int k,.bl g,.lst (A++[fy]++B)]))=true:=vj λx hx=>by
   rcases kqb hx with hx|rfl
   ·exact Ww hf x hx
   ·simp only[D.flat,D.flats,F3,Bool.and_self]
  simp only[D.flat,D.flats,F1,F2,Bool.and_self]
 ·rcases kqb hr with hr|rfl
  ·obtain⟨k,gd,st,rfl,_,_,ce,_⟩:=h.rm r hr;exact Xs ce (by decide)
  ·show(A++[fy]++B).length<=1000;rw[Xv,Xv,List.length_singleton];omega
theorem kzr(cell:Int){ss:List Str}{ks:List Int}{rs:List D}(h:Mc ss ks rs)(hf:∀n,D.flats (n+7) rs=true):
  Oo Yz [(.no,wQ ss rs),(.no,.int cell)] (λy=>∃d,y=(.no,d)/\BadM d) noX:=by
 have r1:=h.r1;have r12:=h.r12;have j0:∀a b:D,jQ (.tup [a,b]) (.int 0)=some a:=λ_ _=>rfl
 have j1:∀a b:D,jQ (.tup [a,b]) (.int 1)=some b:=λ_ _=>rfl
 have e1:∀a b:Int,fEq (.int a) (.int b)=some (.bl (a==b)):=λa b=>J4
 have w0:=Xf cell (show(4:Int)≠0 by decide);have w1:=X9 cell (show(0:Int)<4 by decide);have hm:jv (.int cell) (.int 4)=some (.int (cell % 4)):=mod_i (by decide);generalize cell % 4=de at w0 w1 hm;have h0:=Xf (cell / 4) (show(rs.length:Int)≠0 by omega);have h1:=X9 (cell / 4) (show(0:Int)<rs.length by omega);have hh:jv (.int (cell / 4)) (.int rs.length)=some (.int (cell / 4 % rs.length)):=mod_i (by omega);generalize cell / 4 % rs.length=b9 at h0 h1 hh;have hr:rs[b9.toNat]?=some (rs[b9.toNat]'(by omega)):=X1 (by omega);obtain⟨k,g,st,e,k0,k3,ce,hstp⟩:=h.rm _ (Xy (by omega):rs[b9.toNat]'(by omega)∈rs);have md:jQ (.lst rs) (.int b9)=some (.tup [.int k,.bl g,.lst st]):=by rw[<-e];exact v9 h0 hr
 unfold Yz;refine qz ?_;have e00:fEq (.int 0) (.int 0)=some (.bl true):=rfl;have e10:fEq (.int 1) (.int 0)=some (.bl false):=rfl;have e11:fEq (.int 1) (.int 1)=some (.bl true):=rfl
 by_cases c0:de=0
 ·subst c0;simp![hm,j1,hh,qqa (o:=.no) (xs:=rs) (by decide),e00];refine(qvs _ h hf).use ?_;intro d hd;exact⟨_,rfl,hd⟩
 by_cases c1:de=1
 ·subst c1;simp![hm,j1,hh,qqa (o:=.no) (xs:=rs) (by decide),e10,e11,md];refine qz2 ?_;simp![md];refine(qxp _ k g k0 ce λn=>vj λd hd=>(hstp d hd).flat).use ?_;intro d hd;simp![];refine⟨rfl,_,_,_,b9.toNat,rfl,by decide,rfl,?_,?_⟩
  ·unfold ixN;rw[Xe h0,Xe h1]
  simp![j0];exact⟨_,rfl,kzt h (hf 31) (by omega) hd⟩
 have f0:fEq (.int de) (.int 0)=some (.bl false):=by rw[J4,beq_false_of_ne c0]
 have f1:fEq (.int de) (.int 1)=some (.bl false):=by rw[J4,beq_false_of_ne c1]
 have hk:ks.getD b9.toNat 0=k:=by
  rw[<-h.keys,X5,Xh,hr,e];rfl
 have a0:=Xf (cell / 48) (show(st.length:Int)+1≠0 by omega);have a1:=X9 (cell / 48) (show(0:Int)<st.length+1 by omega);simp![hm,j1,hh,qqa (o:=.no) (xs:=rs) (by decide),f0,f1,md];refine(qxo _ b9 _ h h0 h1).use ?_;intro fy hb;rw[hk]at hb;generalize cell / 48 % ((st.length:Int)+1)=bp at a0 a1;simp![];refine qz2 ?_;have m1:(qk st none (some bp)).length<=120:=by
  unfold qk;rw[Y2,Yb];omega
 have m2:(qk st (some bp) none).length<=120:=by
  unfold qk;rw[Y2,Yb];omega
 have q1:∀d∈qk st none (some bp),d∈st:=λd hd=>kqj hd
 have q2:∀d∈qk st (some bp) none,d∈st:=λd hd=>kqj hd
 simp![Vk (o:=.no) (xs:=st) (lo:=none) (hi:=some bp) (by decide),Vk (o:=.no) (xs:=st) (lo:=some bp) (hi:=none) (by decide)];generalize qk st none (some bp)=A1 at m1 q1;rw[wx (by decide) (by decide) (by simp;omega)];simp![Vk (o:=.no) (xs:=st) (lo:=some bp) (hi:=none) (by decide)];generalize qk st (some bp) none=A2 at m2 q2;rw[wx (by decide) (by decide) (by simp;omega)];simp![];refine⟨rfl,_,_,_,b9.toNat,rfl,by decide,rfl,?_,?_⟩
 ·unfold ixN;rw[Xe h0,Xe h1]
 simp![j0];exact⟨_,rfl,kzs h (hf 31) (by omega) e hb q1 q2 (by omega)⟩
end Nk11
namespace Nk11
open Q PySem C
theorem qjk{d:D}(h:BadM d):Oo Zw [(.no,d)] (λ_=>False) (λc=>c="NoMachine"):=by
 have hm:=jz1 h.fl h.ln;rw[h.no]at hm;unfold Zw;refine qz ?_;simp![];refine hm.any.use ?_;intro _ _;simp![]
theorem qj4{d:D}(h:BadM d):Oo Z2 [(.no,d)] (λy=>∃o':Own,y=(o',.bl true)/\True) noX:=by
 have a1:xk [("NoMachine",true)] (.obj "NoMachine" [])=some (.bl true):=qzc (by decide);have a2:xk [("NoMachine",false)] (.obj "NoMachine" [])=some (.bl false):=qzc (by decide);unfold Z2;refine qz ?_;simp![];refine(qjk h).ox (λy h=>h.elim) (λc hc=>?_);subst hc;refine⟨by simp,?_⟩;simp![a1,a2];exact⟨_,rfl,trivial⟩
theorem Rm.flat{ss:List Str}{ks:List Int}{r:D}{n:Nat}(h:Rm ss ks r):r.flat (n+7)=true:=by
 obtain⟨k,gd,st,rfl,_,_,_,ce⟩:=h;have:D.flats (n+5) st=true:=vj λd hd=>(ce d hd).flat (n:=n+1)
 simp only[D.flat,D.flats,this,Bool.and_self]
theorem Mc.shrt{ss:List Str}{ks:List Int}{rs:List D}(h:Mc ss ks rs):vzh (wQ ss rs):=xW λr hr=>by
 obtain⟨k,gd,st,rfl,_,_,ce,_⟩:=h.rm r hr;exact Xs ce (by decide)
theorem Mc.flat{ss:List Str}{ks:List Int}{rs:List D}(h:Mc ss ks rs):(wQ ss rs).flat 40=true:=by
 have F1:D.flats 38 (ss.map D.str)=true:=vj λd hd=>by obtain⟨w,_,rfl⟩:=List.mem_map.mp hd;rfl
 have F2:D.flats 38 rs=true:=vj λr hr=>(h.rm r hr).flat (n:=31)
 simp only[D.flat,D.flats,F1,F2,Bool.and_self]
theorem vwm(ns:List Int)(mh:ns.length<=63):Oo m_law [(.no,iL ns)] (λy=>y.2=.bl true) noX:=by
 unfold m_law;rw[kx4,qzi];refine qz ?_;simp![];refine(qjb ns mh λc=>qwd c vq6).use ?_;rintro ⟨ss,ks,rs⟩ h;have h:Mc ss ks rs:=h;have hm:=jz1 h.flat h.shrt;rw[h.b]at hm;have hf:∀n,D.flats (n+7) rs=true:=λn=>vj λr hr=>(h.rm r hr).flat
 have b1:Qk (.bl true) (.bl true)=some (.bl false):=rfl;have b2:vzc (.bl true) (.bl true)=some (.bl true):=rfl;have b3:Qk (.bl false) (.bl false)=some (.bl false):=rfl;simp![];refine hm.use ?_;intro _ _;simp![b1];refine qkr (λE jx=>∃(k:Int) (l2 l3 l4:Option Sd),E=[some (.no,iL ns),some (.no,wQ ss rs),l2,l3,l4]/\0<=k/\k<=3/\jx=k7 k 3) ?_ ?_ ?_
 ·simp![];exact⟨0,_,_,_,rfl,by decide,by decide,rfl⟩
 ·rintro E d ds ⟨k,l2,l3,l4,rfl,k0,k3,eh⟩;obtain⟨db,rfl,rfl⟩:=kvb (by omega) eh;simp![];refine(B.cell_ok ns 4 (by omega)).use ?_;intro c1 _;simp![];refine(A.mixed_ok _ k (by omega) (by omega)).use ?_;intro v1 _;simp![];refine(B.cell_ok ns 5 (by omega)).use ?_;intro c2 _;simp![];refine(A.mixed_ok _ k (by omega) (by omega)).use ?_;intro v2 _;simp![];refine(kzr _ h hf).use ?_;intro fy hb;have hmb:=jz1 hb.fl hb.ln;rw[hb.no]at hmb;simp![];refine hmb.use ?_;intro _ _;simp![b3];refine(qj4 hb).use ?_;intro _ _;simp![];exact⟨k+1,_,_,_,rfl,by omega,by omega,rfl⟩
 ·rintro E ⟨k,l2,l3,l4,rfl,k0,k3,eh⟩;simp![];refine hm.use ?_;intro _ _;simp![b2]
theorem law_true(ns:List Int)(hl:ns.length<=63)(hb:∀i∈ns,Builtin.Int.intBits i<=1048576):∃E o,m_law [(.no,.lst (ns.map D.int))]=some (.ok E (o,.bl true)):=by
 obtain⟨E,⟨o,d⟩,h,hd⟩:=(vwm ns hl).out;have hd:d=.bl true:=hd;subst hd;exact⟨E,o,h⟩
end Nk11
namespace Nk11
open PySem L2 L3 Q
def top(i:Nat):Stmt:=PySem.Challenge.pw_freshrooms_k11_no_machines.main.body.getD i (.Pass ⟨0,0,0,0⟩)
abbrev jxu:Stmt:=top 14
abbrev jzz:Stmt:=top 15
abbrev jvr:Stmt:=top 24
abbrev jwx:Stmt:=top 27
abbrev jwv:Stmt:=top 26
abbrev jxv:Stmt:=top 25
abbrev kj0:Stmt:=top 34
abbrev jwz:Stmt:=top 33
abbrev kku:Stmt:=top 32
abbrev jzy:Stmt:=top 31
abbrev jww:Stmt:=top 30
abbrev jqo:Stmt:=top 29
abbrev jwy:Stmt:=top 28
abbrev jw5:Stmt:=top 21
abbrev jvs:Stmt:=top 23
abbrev jqg:Stmt:=top 22
abbrev jv9:Stmt:=top 36
abbrev jw8:Stmt:=top 37
abbrev jw6:Stmt:=top 38
abbrev jw7:Stmt:=top 39
abbrev jx1:Stmt:=top 40
abbrev jx0:Stmt:=top 41
abbrev jv8:Stmt:=top 42
abbrev jqp:Stmt:=top 43
abbrev jqq:Stmt:=top 44
abbrev jqh:Stmt:=top 45
abbrev jv6:Stmt:=top 46
abbrev jv7:Stmt:=top 47
abbrev vj5:Stmt:=top 48
theorem kwg:FnScope ["thing"] ["thing"] (kj jxu):=mkS
theorem qj0:FnScope ["thing"] ["thing"] (kj jzz):=mkS
theorem kk1:FnScope ["thing","many"] ["thing","many"] (kj jvr):=mkS
theorem kv7:FnScope ["thing"] ["thing"] (kj jwx):=mkS
theorem kv5:FnScope ["thing","texts"] ["thing","texts"] (kj jwv):=mkS
theorem kwh:FnScope ["thing","end"] ["thing","end"] (kj jxv):=mkS
theorem qj1:FnScope ["thing","own"] ["thing","own"] (kj kj0):=mkS
theorem kv8:FnScope ["thing","own","many"] ["thing","own","many"] (kj jwz):=mkS
theorem qkd:FnScope ["thing","own"] ["thing","own"] (kj kku):=mkS
theorem kzz:FnScope ["thing","own","signs","keepers"] ["thing","own","signs","keepers"] (kj jzy):=mkS
theorem kv6:FnScope ["steps","own","signs","keepers"] ["steps","own","signs","keepers"] (kj jww):=mkS
theorem jze:FnScope ["thing"] ["thing"] (kj jqo):=mkS
theorem sc_are_rooms:FnScope ["thing","signs","keepers"] ["thing","signs"] (kj jwy):=mkS
theorem kkt:FnScope ["thing"] ["thing"] (kj jw5):=mkS
theorem kk2:FnScope ["room"] ["room"] (kj jvs):=mkS
theorem jxt:FnScope ["thing"] ["thing"] (kj jqg):=mkS
theorem jzx:FnScope ["_law_script","_law_k"] ["_law_script","_law_k"] (kj jv9):=mkS
theorem sc__law_mixed:FnScope ["_law_cell","_law_k","_law_number"] ["_law_cell","_law_k"] (kj jw8):=mkS
theorem sc__law_words:FnScope ["_law_cell","_law_many","_law_letters","_law_word","_law_long","_law_at","_law_some","_law_k","_law_turn"] ["_law_cell","_law_many"] (kj jw6):=mkS
theorem sc__law_signs:FnScope ["_law_cell","_law_some"] ["_law_cell"] (kj jw7):=mkS
theorem kv9:FnScope ["_law_number","_law_keepers"] ["_law_number","_law_keepers"] (kj jx1):=mkS
theorem sc__law_step:FnScope ["_law_cell","_law_signs_here","_law_here","_law_keepers","_law_m","_law_to","_law_asks","_law_fills"] ["_law_cell","_law_signs_here","_law_here","_law_keepers"] (kj jx0):=mkS
theorem sc__law_machine:FnScope ["_law_script","_law_start","_law_head","_law_signs_here","_law_many","_law_keepers","_law_steps","_law_cell","_law_here","_law_goods"] ["_law_script","_law_start"] (kj jv8):=mkS
theorem sc__law_bad_step:FnScope ["_law_way","_law_machine_here","_law_here","_law_cell","_law_keepers","_law_to","_law_fills","_law_sign","_law_some","_law_at","_law_bad"] ["_law_way","_law_machine_here","_law_here","_law_cell"] (kj jqp):=mkS
theorem sc__law_bad_room:FnScope ["_law_way","_law_room","_law_keepers","_law_good","_law_steps","_law_some"] ["_law_way","_law_room"] (kj jqq):=mkS
theorem sc__law_bad_whole:FnScope ["_law_way","_law_machine_here","_law_signs_here","_law_rooms","_law_room","_law_some","_law_step_here"] ["_law_way","_law_machine_here"] (kj jqh):=mkS
theorem sc__law_spoiled:FnScope ["_law_machine_here","_law_cell","_law_way","_law_here","_law_rooms","_law_keepers","_law_good","_law_steps","_law_at","_law_bad"] ["_law_machine_here","_law_cell"] (kj jv6):=mkS
theorem sc__law_refused:FnScope ["_law_thing","_law_refused_here","e"] ["_law_thing"] (kj jv7):=mkS
theorem sc_law:FnScope ["_law_script","_law_machine_here","_law_k","_law_cell","_law_bad"] ["_law_script"] (kj vj5):=mkS
structure Txt (K:PySem.W.Frag)(mg:Str->Option Value)(a7 ac a9 aj af ah ae ai a8 aa:Addr):Prop where
 b_ValueError:mg "ValueError"=none
 b_all:mg "all"=none
 b_bool:mg "bool"=none
 b_int:mg "int"=none
 b_isinstance:mg "isinstance"=none
 b_len:mg "len"=none
 b_list:mg "list"=none
 b_range:mg "range"=none
 b_set:mg "set"=none
 b_sorted:mg "sorted"=none
 b_str:mg "str"=none
 b_sum:mg "sum"=none
 b_tuple:mg "tuple"=none
 c_LETTERS:Cst mg "LETTERS" (V.str "abcdefghijklmnopqrstuvwxyz")
 c_MOST_LETTERS:Cst mg "MOST_LETTERS" (V.int (8))
 c_MOST_SIGNS:Cst mg "MOST_SIGNS" (V.int (3))
 c_MOST_ROOMS:Cst mg "MOST_ROOMS" (V.int (12))
 c_MOST_KEEPERS:Cst mg "MOST_KEEPERS" (V.int (3))
 c_MOST_STEPS:Cst mg "MOST_STEPS" (V.int (120))
 n_NoMachine:PySem.W.nsIn K mainGlobals "NoMachine"=some (some (.ref a7))
 m_NoMachine:mg "NoMachine"=some (.ref a7)
 e_NoMachine:ECls K mg "NoMachine" a7
 n_TooGreat:PySem.W.nsIn K mainGlobals "TooGreat"=some (some (.ref ac))
 m_TooGreat:mg "TooGreat"=some (.ref ac)
 n_NotSingle:PySem.W.nsIn K mainGlobals "NotSingle"=some (some (.ref a9))
 m_NotSingle:mg "NotSingle"=some (.ref a9)
 n_NoWay:PySem.W.nsIn K mainGlobals "NoWay"=some (some (.ref aj))
 m_NoWay:mg "NoWay"=some (.ref aj)
 n_NoText:PySem.W.nsIn K mainGlobals "NoText"=some (some (.ref af))
 m_NoText:mg "NoText"=some (.ref af)
 n_NoRow:PySem.W.nsIn K mainGlobals "NoRow"=some (some (.ref ah))
 m_NoRow:mg "NoRow"=some (.ref ah)
 n_NoName:PySem.W.nsIn K mainGlobals "NoName"=some (some (.ref ae))
 m_NoName:mg "NoName"=some (.ref ae)
 n_NoFit:PySem.W.nsIn K mainGlobals "NoFit"=some (some (.ref ai))
 m_NoFit:mg "NoFit"=some (.ref ai)
 n_NoExchange:PySem.W.nsIn K mainGlobals "NoExchange"=some (some (.ref a8))
 m_NoExchange:mg "NoExchange"=some (.ref a8)
 n_RoomError:PySem.W.nsIn K mainGlobals "RoomError"=some (some (.ref aa))
 m_RoomError:mg "RoomError"=some (.ref aa)
 h_NoMachine_NoMachine:PySem.W.exmOne K (.ref a7) (.ref a7)=some true
 i_NoMachine_TooGreat:PySem.W.kitOne K (.ref a7) (.ref ac)=some false
 i_NoMachine_NotSingle:PySem.W.kitOne K (.ref a7) (.ref a9)=some false
 i_NoMachine_NoWay:PySem.W.kitOne K (.ref a7) (.ref aj)=some false
 i_NoMachine_NoText:PySem.W.kitOne K (.ref a7) (.ref af)=some false
 i_NoMachine_NoRow:PySem.W.kitOne K (.ref a7) (.ref ah)=some false
 i_NoMachine_NoName:PySem.W.kitOne K (.ref a7) (.ref ae)=some false
 i_NoMachine_NoFit:PySem.W.kitOne K (.ref a7) (.ref ai)=some false
 i_NoMachine_NoExchange:PySem.W.kitOne K (.ref a7) (.ref a8)=some false
 i_NoMachine_ValueError:PySem.W.kitOne K (.ref a7) (.type "ValueError")=some true
 i_NoMachine_RoomError:PySem.W.kitOne K (.ref a7) (.ref aa)=some true
section
variable (P:Program)(w:PySem.World)(K:PySem.W.Frag)(mg:Str->Option Value)(base:Heap)
abbrev kkn:=kW P w K mg base 1 "is_whole" ["thing"] (spF K mg 1 Z6)
abbrev kw7:=kW P w K mg base 1 "is_sign" ["thing"] (spF K mg 1 WX)
abbrev ZW:=kW P w K mg base 1 "is_tuple_of" ["thing","many"] (spF K mg 2 Q8)
abbrev kjv:=kW P w K mg base 2 "are_signs" ["thing"] (spF K mg 1 Z8)
abbrev jvy:=kW P w K mg base 1 "is_one_of" ["thing","texts"] (spF K mg 2 Qz)
abbrev XZ:=kW P w K mg base 2 "is_below" ["thing","end"] (spF K mg 2 KQ)
abbrev kw8:=kW P w K mg base 3 "is_fill" ["thing","own"] (spF K mg 2 YK)
abbrev kjx:=kW P w K mg base 4 "are_fills" ["thing","own","many"] (spF K mg 3 YX)
abbrev kzl:=kW P w K mg base 3 "is_ask" ["thing","own"] (spF K mg 2 jxe)
abbrev kw6:=kW P w K mg base 5 "is_step" ["thing","own","signs","keepers"] (spF K mg 4 Z7)
abbrev kju:=kW P w K mg base 6 "are_steps" ["steps","own","signs","keepers"] (spF K mg 4 YY)
abbrev jwi:=kW P w K mg base 3 "is_room_frame" ["thing"] (spF K mg 1 YV)
abbrev kjw:=kW P w K mg base 7 "are_rooms" ["thing","signs"] (spF K mg 2 ZZ)
abbrev jwj:=kW P w K mg base 8 "is_machine" ["thing"] (spF K mg 1 KZ)
abbrev jxn:=kW P w K mg base 1 "copied_room" ["room"] (spF K mg 1 jvu)
abbrev jw2:=kW P w K mg base 9 "copied_machine" ["thing"] (spF K mg 1 Zw)
abbrev jve:=kW P w K mg base 1 "_law_cell_at" ["_law_script","_law_k"] (spF K mg 2 m__law_cell_at)
abbrev WY:=kW P w K mg base 1 "_law_mixed" ["_law_cell","_law_k"] (spF K mg 2 m__law_mixed)
abbrev jza:=kW P w K mg base 2 "_law_words" ["_law_cell","_law_many"] (spF K mg 2 m__law_words)
abbrev jzb:=kW P w K mg base 3 "_law_signs" ["_law_cell"] (spF K mg 1 Q5)
abbrev kjz:=kW P w K mg base 1 "_law_fill" ["_law_number","_law_keepers"] (spF K mg 2 Z1)
abbrev kjy:=kW P w K mg base 2 "_law_step" ["_law_cell","_law_signs_here","_law_here","_law_keepers"] (spF K mg 4 Wx)
abbrev jwu:=kW P w K mg base 4 "_law_machine" ["_law_script","_law_start"] (spF K mg 2 VZ)
abbrev jwk:=kW P w K mg base 1 "_law_bad_step" ["_law_way","_law_machine_here","_law_here","_law_cell"] (spF K mg 4 YQ)
abbrev jwl:=kW P w K mg base 1 "_law_bad_room" ["_law_way","_law_room"] (spF K mg 2 ZJ)
abbrev jw3:=kW P w K mg base 1 "_law_bad_whole" ["_law_way","_law_machine_here"] (spF K mg 2 Zx)
abbrev jws:=kW P w K mg base 2 "_law_spoiled" ["_law_machine_here","_law_cell"] (spF K mg 2 Yz)
abbrev jwt:=kW P w K mg base 10 "_law_refused" ["_law_thing"] (spF K mg 1 Z2)
end
section
variable {a7 ac a9 aj af ah ae ai a8 aa:Addr}
variable {P:Program}{w:PySem.World}{K:PySem.W.Frag}{mg:Str->Option Value}{base:Heap}{f:Addr}{fd:FuncData}
theorem kwu(T:Txt K mg a7 ac a9 aj af ah ae ai a8 aa)  (F:Fun K "is_whole" "is_whole" jxu f fd):FnOk P w K mg base (CXE P w) 1 f fd ["thing"] (spF K mg 1 Z6):=
 qv F kwg (qj rfl) λbf A outer s H vs Q E hr h=>qw rfl
  (jX (k6 (z7 (j5 (K3 (vv 0) T.b_isinstance T.b_int qzp rfl)) (z6 (vjd (j5 (K3 (vv 0) T.b_isinstance T.b_bool qvn rfl))))))) h
theorem qj8(T:Txt K mg a7 ac a9 aj af ah ae ai a8 aa)  (F:Fun K "is_sign" "is_sign" jzz f fd):FnOk P w K mg base (CXE P w) 1 f fd ["thing"] (spF K mg 1 WX):=
 qv F qj0 (qj rfl) λbf A outer s H vs Q E hr h=>qw rfl
  (jq (v7 (QW.pt (QX (wW (zj (j5 (K3 (vv 0) T.b_isinstance T.b_str qzo rfl)))) (Wz (wW (kky QZ (x5 (g:=λa b=>decide (a<=b))) QZ (x5 (g:=λa b=>decide (a<=b))) ki (j5 (qL (vv 0) T.b_len)) (j5 (q_C (Wv T.c_MOST_LETTERS) (λ_=>zZ))) JZ))))) (jX (k6 (q_C vw (λ_=>v4)))) v8) (jX (k6 (Kq (W1 K) W5 (j5 (qM .rt 1 [] 1 ["letter"] (Jw (cv 0)) (λ_ _ _ _ _=>(V1 (vw8 hr.units) vz0 (vv 0) (j5 (q_C (Wv T.c_LETTERS) (λ_=>V5 (by decide)))) (by rfl))))) T.b_all VJ)))) h
theorem kk4(T:Txt K mg a7 ac a9 aj af ah ae ai a8 aa)  (F:Fun K "is_tuple_of" "is_tuple_of" jvr f fd):FnOk P w K mg base (CXE P w) 1 f fd ["thing","many"] (spF K mg 2 Q8):=
 qv F kk1 (qj rfl) λbf A outer s H vs Q E hr h=>qw rfl
  (jX (k6 (z7 (j5 (K3 (vv 0) T.b_isinstance T.b_tuple kzi rfl)) (z6 (V1 (x6 hr.units) x9 (j5 (qL (vv 0) T.b_len)) (vv 1) (v6 _)))))) h
theorem kvi(T:Txt K mg a7 ac a9 aj af ah ae ai a8 aa)(df:kw7 P w K mg base)(F:Fun K "are_signs" "are_signs" jwx f fd):FnOk P w K mg base (CXE P w) 2 f fd ["thing"] (spF K mg 1 Z8):=
 qv F kv7 (qj rfl) λbf A outer s H vs Q E hr h=>qw rfl
  (jq (v7 (QW.pt (QX (wW (zj (j5 (K3 (vv 0) T.b_isinstance T.b_list V6 rfl)))) (Wz (wW (kky QZ (x5 (g:=λa b=>decide (a<=b))) QZ (x5 (g:=λa b=>decide (a<=b))) ki (j5 (qL (vv 0) T.b_len)) (j5 (q_C (Wv T.c_MOST_SIGNS) (λ_=>zZ))) JZ))))) (jX (k6 (q_C vw (λ_=>v4)))) v8) (jq (v7 (wW (zj (j5 (Kq (W1 K) W5 (j5 (qM .rt 1 [] 1 ["sign"] (Jw (cv 0)) (λ_ _ _ _ _=>(qC df hr (j4 (cv 0) j6))))) T.b_all VJ)))) (jX (k6 (q_C vw (λ_=>v4)))) v8) (jX (k6 (V1 (x6 hr.units) x9 (vv 0) (j5 (kvd rfl rfl (vv 0) T.b_sorted T.b_set)) (v6 _)))))) h
theorem kvg(T:Txt K mg a7 ac a9 aj af ah ae ai a8 aa)  (F:Fun K "is_one_of" "is_one_of" jwv f fd):FnOk P w K mg base (CXE P w) 1 f fd ["thing","texts"] (spF K mg 2 Qz):=
 qv F kv5 (qj rfl) λbf A outer s H vs Q E hr h=>qw rfl
  (jX (k6 (z7 (j5 (K3 (vv 0) T.b_isinstance T.b_str qzo rfl)) (z6 (V1 (vw8 hr.units) vz0 (vv 0) (vv 1) (by rfl)))))) h
theorem kwv(T:Txt K mg a7 ac a9 aj af ah ae ai a8 aa)(d6:kkn P w K mg base)(F:Fun K "is_below" "is_below" jxv f fd):FnOk P w K mg base (CXE P w) 2 f fd ["thing","end"] (spF K mg 2 KQ):=
 qv F kwh (qj rfl) λbf A outer s H vs Q E hr h=>qw rfl
  (jX (k6 (z7 (j5 (qC d6 hr (j4 (cv 0) j6))) (z6 (vje QZ (x5 (g:=λa b=>decide (a<=b))) vjx (x5 (g:=λa b=>decide (a<b))) ki (vv 0) (vv 1)))))) h
theorem qj9(T:Txt K mg a7 ac a9 aj af ah ae ai a8 aa)(b6:jvy P w K mg base)(b5:XZ P w K mg base)(F:Fun K "is_fill" "is_fill" kj0 f fd):FnOk P w K mg base (CXE P w) 3 f fd ["thing","own"] (spF K mg 2 YK):=
 qv F qj1 (qj rfl) λbf A outer s H vs Q E hr h=>qw rfl
  (jX (k6 (wj4 (j5 (V1 vw5 vxx (vv 0) kn (v6 _))) (wj4 (j5 (qC b6 hr (j4 (cv 0) (j4 (jW (o:=.no) (j4 kS j6)) j6)))) (z6 (qC b5 hr (j4 (cv 0) (j4 (cv 1) j6)))))))) h
theorem kvk(T:Txt K mg a7 ac a9 aj af ah ae ai a8 aa)(ao:ZW P w K mg base)(dh:kw8 P w K mg base)(F:Fun K "are_fills" "are_fills" jwz f fd):FnOk P w K mg base (CXE P w) 4 f fd ["thing","own","many"] (spF K mg 3 YX):=
 qv F kv8 (qj rfl) λbf A outer s H vs Q E hr h=>qw rfl
  (jX (k6 (z7 (j5 (qC ao hr (j4 (cv 0) (j4 (cv 2) j6)))) (z6 (Kq (W1 K) W5 (j5 (qM .rt 1 [1] 3 ["fill","own"] (Jw (cv 0)) (λ_ _ _ _ _=>(qC dh hr (j4 (cv 0) (j4 (cv 1) j6)))))) T.b_all VJ))))) h
theorem qq4(T:Txt K mg a7 ac a9 aj af ah ae ai a8 aa)(b6:jvy P w K mg base)(b5:XZ P w K mg base)(F:Fun K "is_ask" "is_ask" kku f fd):FnOk P w K mg base (CXE P w) 3 f fd ["thing","own"] (spF K mg 2 jxe):=
 qv F qkd (qj rfl) λbf A outer s H vs Q E hr h=>qw rfl
  (jX (k6 (wj4 (j5 (qC b6 hr (j4 (cv 0) (j4 (jW (o:=.no) (j4 kS (j4 kS j6))) j6)))) (z6 (qC b5 hr (j4 (cv 0) (j4 (cv 1) j6))))))) h
theorem qj7(T:Txt K mg a7 ac a9 aj af ah ae ai a8 aa)(cm:kjx P w K mg base)(ao:ZW P w K mg base)(b6:jvy P w K mg base)(dq:kzl P w K mg base)(b5:XZ P w K mg base)(F:Fun K "is_step" "is_step" jzy f fd):FnOk P w K mg base (CXE P w) 5 f fd ["thing","own","signs","keepers"] (spF K mg 4 Z7):=
 qv F kzz (qj rfl) λbf A outer s H vs Q E hr h=>qw rfl
  (jq (v7 (wW (zj (j5 (qC ao hr (j4 (cv 0) (j4 kI j6)))))) (jX (k6 (q_C vw (λ_=>v4)))) v8) (jq (v7 (QW.pt (QX (wW (zj (j5 (qC b6 hr (j4 (kz (kx (vv 0) ki)) (j4 (cv 2) j6)))))) (QX (wW (zj (j5 (qC dq hr (j4 (kz (kx (vv 0) ki)) (j4 (cv 1) j6)))))) (Wz (wW (zj (j5 (qC b5 hr (j4 (kz (kx (vv 0) ki)) (j4 (qL (vv 3) T.b_len) j6)))))))))) (jX (k6 (q_C vw (λ_=>v4)))) v8) (jX (k6 (qC cm hr (j4 (kz (kx (vv 0) ki)) (j4 (cv 1) (j4 (kz (kx (vv 3) (kx (vv 0) ki))) j6)))))))) h
theorem kvh(T:Txt K mg a7 ac a9 aj af ah ae ai a8 aa)(dj:kw6 P w K mg base)(F:Fun K "are_steps" "are_steps" jww f fd):FnOk P w K mg base (CXE P w) 6 f fd ["steps","own","signs","keepers"] (spF K mg 4 YY):=
 qv F kv6 (qj rfl) λbf A outer s H vs Q E hr h=>qw rfl
  (jX (k6 (Kq (W1 K) W5 (j5 (qM .rt 1 [1,2,3] 4 ["step","own","signs","keepers"] (Jw (cv 0)) (λ_ _ _ _ _=>(qC dj hr (j4 (cv 0) (j4 (cv 1) (j4 (cv 2) (j4 (cv 3) j6)))))))) T.b_all VJ))) h
theorem jzh(T:Txt K mg a7 ac a9 aj af ah ae ai a8 aa)(ao:ZW P w K mg base)(b5:XZ P w K mg base)(F:Fun K "is_room_frame" "is_room_frame" jqo f fd):FnOk P w K mg base (CXE P w) 3 f fd ["thing"] (spF K mg 1 YV):=
 qv F jze (qj rfl) λbf A outer s H vs Q E hr h=>qw rfl
  (jq (v7 (wW (zj (j5 (qC ao hr (j4 (cv 0) (j4 kI j6)))))) (jX (k6 (q_C vw (λ_=>v4)))) v8) (jX (k6 (z7 (j5 (qC b5 hr (j4 (kz (kx (vv 0) ki)) (j4 (oA (j5 (q_C (Wv T.c_MOST_KEEPERS) (λ_=>zZ))) ki) j6)))) (z7 (j5 (K3 (kx (vv 0) ki) T.b_isinstance T.b_bool qvn rfl)) (z6 (K3 (kx (vv 0) ki) T.b_isinstance T.b_list V6 rfl))))))) h
theorem kvj(T:Txt K mg a7 ac a9 aj af ah ae ai a8 aa)(cq:kju P w K mg base)(bj:jwi P w K mg base)(F:Fun K "are_rooms" "are_rooms" jwy f fd):FnOk P w K mg base (CXE P w) 7 f fd ["thing","signs"] (spF K mg 2 ZZ):=
 qv F sc_are_rooms (qj rfl) λbf A outer s H vs Q E hr h=>have nd:=sc_are_rooms.nd;qw rfl
  (jq (v7 (QW.pt (QX (wW (zj (j5 (K3 (vv 0) T.b_isinstance T.b_list V6 rfl)))) (Wz (wW (kky QZ (x5 (g:=λa b=>decide (a<=b))) QZ (x5 (g:=λa b=>decide (a<=b))) ki (j5 (qL (vv 0) T.b_len)) (j5 (q_C (Wv T.c_MOST_ROOMS) (λ_=>zZ))) JZ))))) (jX (k6 (q_C vw (λ_=>v4)))) v8) (jq (v7 (wW (zj (j5 (Kq (W1 K) W5 (j5 (qM .rt 1 [] 3 ["room"] (Jw (cv 0)) (λ_ _ _ _ _=>(qC bj hr (j4 (cv 0) j6))))) T.b_all VJ)))) (jX (k6 (q_C vw (λ_=>v4)))) v8) (jq (v7 (vW qww (x5 (g:=λa b=>decide (b<a))) (j5 (Kq (vkr K) vxq (j5 (qM .rt 1 [] 3 ["room"] (Jw (cv 0)) (λ_ _ _ _ _=>(qL (kx (vv 0) ki) T.b_len)))) T.b_sum vxk)) (j5 (q_C (Wv T.c_MOST_STEPS) (λ_=>zZ))) (v6 _) JZ) (jX (k6 (q_C vw (λ_=>v4)))) v8) (jq (qA nd (qM .rt 1 [] 3 ["room"] (Jw (cv 0)) (λ_ _ _ _ _=>(kz (kx (vv 0) ki))))) (jX (k6 (Kq (W1 K) W5 (j5 (qM .rt 1 [1,2] 3 ["room","signs","keepers"] (Jw (cv 0)) (λ_ _ _ _ _=>(qC cq hr (j4 (kz (kx (vv 0) ki)) (j4 (kz (kx (vv 0) ki)) (j4 (cv 1) (j4 (cv 2) j6)))))))) T.b_all VJ))))))) h
theorem kq2(T:Txt K mg a7 ac a9 aj af ah ae ai a8 aa)(ao:ZW P w K mg base)(cu:kjv P w K mg base)(cp:kjw P w K mg base)(F:Fun K "is_machine" "is_machine" jw5 f fd):FnOk P w K mg base (CXE P w) 8 f fd ["thing"] (spF K mg 1 KZ):=
 qv F kkt (qj rfl) λbf A outer s H vs Q E hr h=>qw rfl
  (jX (k6 (z7 (j5 (qC ao hr (j4 (cv 0) (j4 kI j6)))) (z7 (j5 (qC cu hr (j4 (kz (kx (vv 0) ki)) j6))) (z6 (qC cp hr (j4 (kz (kx (vv 0) ki)) (j4 (kz (kx (vv 0) ki)) j6)))))))) h
theorem kk5(T:Txt K mg a7 ac a9 aj af ah ae ai a8 aa)  (F:Fun K "copied_room" "copied_room" jvs f fd):FnOk P w K mg base (CXE P w) 1 f fd ["room"] (spF K mg 1 jvu):=
 qv F kk2 (qj rfl) λbf A outer s H vs Q E hr h=>qw rfl
  (jX (k6 (jW (o:=.no) (j4 (kz (kx (vv 0) ki)) (j4 (kz (kx (vv 0) ki)) (j4 (V9 (jzs K) kqp (kx (vv 0) ki) T.b_list V6) j6)))))) h
theorem jxy(T:Txt K mg a7 ac a9 aj af ah ae ai a8 aa)(b7:jwj P w K mg base)(cb:jxn P w K mg base)(F:Fun K "copied_machine" "copied_machine" jqg f fd):FnOk P w K mg base (CXE P w) 9 f fd ["thing"] (spF K mg 1 Zw):=
 qv F jxt (qj rfl) λbf A outer s H vs Q E hr h=>qw rfl
  (jq (v7 (wW (zj (j5 (qC b7 hr (j4 (cv 0) j6))))) (jX (vjc T.e_NoMachine T.m_NoMachine kjl qkv)) v8) (jX (k6 (jW (o:=.no) (j4 (V9 (jzs K) kqp (kx (vv 0) ki) T.b_list V6) (j4 (qM .rt 1 [] 1 ["room"] (Jw (kz (kx (vv 0) ki))) (λ_ _ _ _ _=>(qC cb hr (j4 (cv 0) j6)))) j6)))))) h
theorem kja(T:Txt K mg a7 ac a9 aj af ah ae ai a8 aa)  (F:Fun K "_law_cell_at" "_law_cell_at" jv9 f fd):FnOk P w K mg base (CXE P w) 1 f fd ["_law_script","_law_k"] (spF K mg 2 m__law_cell_at):=
 qv F jzx (qj rfl) λbf A outer s H vs Q E hr h=>qw rfl
  (jq (v7 (vW vjx (x5 (g:=λa b=>decide (a<b))) (vv 1) (j5 (qL (vv 0) T.b_len)) (v6 _) JZ) (jX (k6 (kz (kx (vv 0) (vv 1))))) v8) (jX (k6 kI))) h
theorem kq5(T:Txt K mg a7 ac a9 aj af ah ae ai a8 aa)  (F:Fun K "_law_mixed" "_law_mixed" jw8 f fd):FnOk P w K mg base (CXE P w) 1 f fd ["_law_cell","_law_k"] (spF K mg 2 m__law_mixed):=
 qv F sc__law_mixed (qj rfl) λbf A outer s H vs Q E hr h=>have nd:=sc__law_mixed.nd;qw rfl
  (jq (v7 (vW (x6 hr.units) x9 (j5 (oM (vv 0) ki)) ki (v6 _) zX) (jX (k6 (kZ qX qV (vv 0) (j5 (kZ vw3 vxr ki (j5 (oX ki (vv 1)))))))) v8) (jq (qA nd (oM (j5 (oX (j5 (oA (j5 (oA (j5 (oM (vv 0) ki)) (j5 (oX ki (vv 1))))) ki)) ki)) ki)) (jq (qA nd (oM (j5 (oX (vv 2) (vv 2))) ki)) (jX (k6 (oM (j5 (oA (j5 (oX (vv 2) (vv 2))) (j5 (oX ki (vv 1))))) ki)))))) h
theorem kq3(T:Txt K mg a7 ac a9 aj af ah ae ai a8 aa)(ak:WY P w K mg base)(F:Fun K "_law_words" "_law_words" jw6 f fd):FnOk P w K mg base (CXE P w) 2 f fd ["_law_cell","_law_many"] (spF K mg 2 m__law_words):=
 qv F sc__law_words (qj rfl) λbf A outer s H vs Q E hr h=>have nd:=sc__law_words.nd;qw rfl
  (jq (qA nd kS) (jq (qA nd (vv9 qkv (j5 (qM .rt 1 [2,0] 9 ["_law_j","_law_letters","_law_cell"] (xx ki rfl T.b_range) (λ_ _ _ _ _=>(kz (kx (vv 1) (j5 (oM (j5 (qC ak hr (j4 (cv 2) (j4 (cv 0) j6)))) ki))))))))) (jq (v7 (vW (x6 hr.units) x9 (j5 (oM (vv 0) ki)) ki (v6 _) zX) (jX (k6 (qM .rt 1 [3,0] 9 ["_law_k","_law_word","_law_cell"] (xx (vv 1) rfl T.b_range) (λ_ _ _ _ _=>(Kk (vv 1) QY (J9 (j5 (oA ki (j5 (oM (j5 (oA (vv 0) (j5 (kZ qX qV (vv 2) ki)))) ki)))))))))) v8) (jq (qA nd (oA ki (j5 (oM (j5 (kZ qX qV (vv 0) ki)) ki)))) (jq (qA nd (oM (j5 (kZ qX qV (vv 0) ki)) (vv 4))) (jq (qA nd (kq (o:=.rt) j6)) (jq (qF (xx (vv 1) rfl T.b_range) (gN nd) (jq (qA nd (oM (j5 (oA (j5 (vvc (vv 2) (kx (vv 3) (vv 5)))) (j5 (oX (vv 7) (j5 (oA ki (j5 (oM (j5 (kZ qX qV (vv 0) ki)) ki)))))))) ki)) (jX (qP (oA (j5 (oA (j5 (Kk (vv 3) QY (J9 (vv 5)))) (kx (vv 2) (vv 8)))) (j5 (Kk (vv 3) (J9 (j5 (oA (vv 5) ki))) (J9 (vv 4))))))))) (jX (k6 (wkv (pv 6))))))))))) h
theorem kq4(T:Txt K mg a7 ac a9 aj af ah ae ai a8 aa)(cg:jza P w K mg base)(F:Fun K "_law_signs" "_law_signs" jw7 f fd):FnOk P w K mg base (CXE P w) 3 f fd ["_law_cell"] (spF K mg 1 Q5):=
 qv F sc__law_signs (qj rfl) λbf A outer s H vs Q E hr h=>have nd:=sc__law_signs.nd;qw rfl
  (jq (v7 (vW (x6 hr.units) x9 (j5 (oM (vv 0) ki)) ki (v6 _) zX) (jq (qA nd (kq (o:=.rt) (j4 kS (j4 kS (j4 kS (j4 kS (j4 kS (j4 kS (j4 kS j6))))))))) (jX (k6 (kvd rfl rfl (j5 (kq (o:=.rt) (j4 (kz (kx (vv 1) (j5 (oM (j5 (kZ qX qV (vv 0) ki)) ki)))) (j4 (kz (kx (vv 1) (j5 (oM (j5 (kZ qX qV (vv 0) ki)) ki)))) (j4 (kz (kx (vv 1) (j5 (oM (j5 (kZ qX qV (vv 0) ki)) ki)))) j6))))) T.b_sorted T.b_set)))) v8) (jX (k6 (Kq (kx6 rfl) qvx (j5 (qC cg hr (j4 (kZ qX qV (vv 0) ki) (j4 (oA ki (j5 (oM (j5 (kZ qX qV (vv 0) ki)) ki))) j6)))) T.b_sorted qvm)))) h
theorem kvm(T:Txt K mg a7 ac a9 aj af ah ae ai a8 aa)  (F:Fun K "_law_fill" "_law_fill" jx1 f fd):FnOk P w K mg base (CXE P w) 1 f fd ["_law_number","_law_keepers"] (spF K mg 2 Z1):=
 qv F kv9 (qj rfl) λbf A outer s H vs Q E hr h=>qw rfl
  (jq (v7 (QW.pt (QX (vW (x6 hr.units) x9 (j5 (oM (vv 0) ki)) ki (v6 _) zX) (Wz (QW.pt (kxp (vW (x6 hr.units) x9 (j5 (oM (vv 0) ki)) ki (v6 _) zX) (kkz (vW (x6 hr.units) x9 (vv 1) ki (v6 _) zX))))))) (jX (k6 kN)) v8) (jq (v7 (QW.pt (kxp (vW vjx (x5 (g:=λa b=>decide (a<b))) (j5 (oM (vv 0) ki)) ki (v6 _) JZ) (kkz (vW qww (x5 (g:=λa b=>decide (b<a))) (vv 1) ki (v6 _) JZ)))) (jX (k6 (oM (j5 (kZ qX qV (vv 0) ki)) (vv 1)))) v8) (jX (k6 kS)))) h
theorem kvl(T:Txt K mg a7 ac a9 aj af ah ae ai a8 aa)(ak:WY P w K mg base)(cw:kjz P w K mg base)(F:Fun K "_law_step" "_law_step" jx0 f fd):FnOk P w K mg base (CXE P w) 2 f fd ["_law_cell","_law_signs_here","_law_here","_law_keepers"] (spF K mg 4 Wx):=
 qv F sc__law_step (qj rfl) λbf A outer s H vs Q E hr h=>have nd:=sc__law_step.nd;qw rfl
  (jq (qA nd (qC ak hr (j4 (cv 0) (j4 kI j6)))) (jq (qA nd (oM (j5 (kZ qX qV (vv 4) ki)) (j5 (qL (vv 3) T.b_len)))) (jq (qA nd (kz (kx (j5 (oA (j5 (kq (o:=.rt) (j4 kS (j4 kS (j4 kS j6))))) (j5 (qM .rt 1 [] 8 ["_law_k"] (xx (kx (vv 3) (vv 2)) rfl T.b_range) (λ_ _ _ _ _=>(cv 0)))))) (j5 (oM (j5 (kZ qX qV (vv 4) ki)) (j5 (oA ki (kx (vv 3) (vv 2))))))))) (jq (qA nd (qT (j5 (qM .rt 1 [4,3,2] 8 ["_law_k","_law_m","_law_keepers","_law_here"] (xx (kx (vv 3) (vv 5)) rfl T.b_range) (λ_ _ _ _ _=>(qC cw hr (j4 (kZ qX qV (vv 1) (kx (j5 (kq (o:=.rt) (j4 kI (j4 kI (j4 kI j6))))) (vv 0))) (j4 (kz (kx (vv 2) (vv 3))) j6)))))) T.b_tuple)) (jX (k6 (jW (o:=.no) (j4 (kz (kx (vv 1) (j5 (oM (vv 4) (j5 (qL (vv 1) T.b_len)))))) (j4 (cv 6) (j4 (cv 5) (j4 (cv 7) j6))))))))))) h
theorem kj9(T:Txt K mg a7 ac a9 aj af ah ae ai a8 aa)(ak:WY P w K mg base)(ci:jzb P w K mg base)(aq:jve P w K mg base)(cy:kjy P w K mg base)(F:Fun K "_law_machine" "_law_machine" jv8 f fd):FnOk P w K mg base (CXE P w) 4 f fd ["_law_script","_law_start"] (spF K mg 2 VZ):=
 qv F sc__law_machine (qj rfl) λbf A outer s H vs Q E hr h=>have nd:=sc__law_machine.nd;qw rfl
  (jq (qA nd (qC ak hr (j4 (qC aq hr (j4 (cv 0) (j4 kI j6))) (j4 kI j6)))) (jq (qA nd (qC ci hr (j4 (qC aq hr (j4 (cv 0) (j4 kI j6))) j6))) (jq (qA nd (oA ki (j5 (oM (vv 2) ki)))) (jq (v7 (vW (x6 hr.units) x9 (j5 (oM (j5 (kZ qX qV (vv 2) ki)) ki)) ki (v6 _) zX) (jX (qA nd (oA ki (j5 (oM (j5 (kZ qX qV (vv 2) ki)) ki))))) v8) (jq (qA nd (qM .rt 1 [0] 10 ["_law_k","_law_script"] (xx (vv 4) rfl T.b_range) (λ_ _ _ _ _=>(oM (j5 (qC ak hr (j4 (qC aq hr (j4 (cv 1) (j4 kI j6))) (j4 (cv 0) j6)))) ki)))) (jq (qA nd (qM .dp 1 [] 10 ["_law_k"] (xx (vv 4) rfl T.b_range) (λ_ _ _ _ _=>(kq (o:=.dp) j6)))) (jq (qF (Jw (Kk (vv 0) (J9 (vv 1)) (J9 (j5 (oA (vv 1) ki))))) (gN nd) (jq (qA nd (oM (j5 (qC ak hr (j4 (cv 7) (j4 kI j6)))) (vv 4))) (jq (qz0 (i:=6) (vv 8) (qC cy hr (j4 (cv 7) (j4 (cv 3) (j4 (cv 8) (j4 (cv 5) j6))))) (pv 6) (λ_ _=>rfl) rfl kjc) (jX (v7 (QW.pt (kxp (vW (x6 hr.units) x9 (j5 (oM (j5 (kZ qX qV (vv 2) ki)) ki)) ki (v6 _) zX) (kkz (vW (x6 hr.units) x9 (j5 (oM (vv 7) ki)) ki (v6 _) zX)))) (jX (qz0 (i:=6) (vv 8) (kz (kx (kx (vv 6) (vv 8)) ki)) (pv 6) (λ_ _=>rfl) rfl kjc)) v8))))) (jq (qA nd (qM .rt 1 [0] 10 ["_law_k","_law_script"] (xx (vv 4) rfl T.b_range) (λ_ _ _ _ _=>(V1 (x6 hr.units) x9 (j5 (oM (j5 (qC ak hr (j4 (qC aq hr (j4 (cv 1) (j4 kI j6))) (j4 (cv 0) j6)))) ki)) ki (v6 _))))) (jX (q_fz (i:=6) (k6 (jW (o:=.no) (j4 (cv 3) (j4 (qM .rt 1 [5,9,6] 10 ["_law_k","_law_keepers","_law_goods","_law_steps"] (xx (vv 4) rfl T.b_range) (λ_ _ _ _ _=>(jW (o:=.no) (j4 (kz (kx (vv 1) (vv 0))) (j4 (kz (kx (vv 2) (vv 0))) (j4 (kz (kx (vv 3) (vv 0))) j6)))))) j6)))))))))))))) h
theorem jzi(T:Txt K mg a7 ac a9 aj af ah ae ai a8 aa)  (F:Fun K "_law_bad_step" "_law_bad_step" jqp f fd):FnOk P w K mg base (CXE P w) 1 f fd ["_law_way","_law_machine_here","_law_here","_law_cell"] (spF K mg 4 YQ):=
 qv F sc__law_bad_step (qj rfl) λbf A outer s H vs Q E hr h=>have nd:=sc__law_bad_step.nd;qw rfl
  (jq (qA nd (kz (kx (kx (kx (vv 1) ki) (vv 2)) ki))) (jq (qA nd (oM (j5 (kZ qX qV (vv 3) ki)) (j5 (qL (kx (vv 1) ki) T.b_len)))) (jq (qA nd (qT (j5 (qM .rt 1 [] 11 ["_law_k"] (xx (kx (kx (kx (vv 1) ki) (vv 5)) ki) rfl T.b_range) (λ_ _ _ _ _=>kN))) T.b_tuple)) (jq (qA nd (kz (kx (kx (vv 1) ki) (j5 (oM (vv 3) (j5 (qL (kx (vv 1) ki) T.b_len))))))) (jq (qA nd (kq (o:=.rt) (j4 (kq (o:=.rt) (j4 (cv 7) (j4 kS (j4 (cv 5) (j4 (cv 6) j6))))) (j4 (jW (o:=.no) (j4 (cv 7) (j4 kS (j4 (cv 5) j6)))) (j4 (jW (o:=.no) (j4 (cv 7) (j4 kS (j4 (cv 5) (j4 (cv 6) (j4 kN j6)))))) j6))))) (jq (qA nd (oA (vv 8) (j5 (kq (o:=.rt) (j4 (jW (o:=.no) (j4 (oA (vv 7) ks) (j4 kS (j4 (cv 5) (j4 (cv 6) j6))))) (j4 (jW (o:=.no) (j4 kN (j4 kS (j4 (cv 5) (j4 (cv 6) j6))))) (j4 (jW (o:=.no) (j4 (cv 7) (j4 kS (j4 (cv 5) (j4 (cv 6) j6))))) j6))))))) (jq (qA nd (oA (vv 8) (j5 (kq (o:=.rt) (j4 (jW (o:=.no) (j4 (cv 7) (j4 (cv 4) (j4 (cv 5) (j4 (cv 6) j6))))) (j4 (jW (o:=.no) (j4 (cv 7) (j4 (Z9 ZY YW ki) (j4 (cv 5) (j4 (cv 6) j6))))) j6)))))) (jq (qA nd (oA (vv 8) (j5 (kq (o:=.rt) (j4 (jW (o:=.no) (j4 (cv 7) (j4 kN (j4 (cv 5) (j4 (cv 6) j6))))) (j4 (jW (o:=.no) (j4 (cv 7) (j4 kS (j4 (qL (kx (vv 1) ki) T.b_len) (j4 (cv 6) j6))))) (j4 (jW (o:=.no) (j4 (cv 7) (j4 kS (j4 (Z9 ZY YW ki) (j4 (cv 6) j6))))) j6))))))) (jq (qA nd (oA (vv 8) (j5 (kq (o:=.rt) (j4 (jW (o:=.no) (j4 (cv 7) (j4 kS (j4 (cv 5) (j4 (V9 (jzs K) kqp (vv 6) T.b_list V6) j6))))) (j4 (jW (o:=.no) (j4 (cv 7) (j4 kS (j4 (cv 5) (j4 (oA (vv 6) (j5 (jW (o:=.no) (j4 kN j6)))) j6))))) (j4 (jW (o:=.no) (j4 (cv 7) (j4 kS (j4 kN (j4 (cv 6) j6))))) j6))))))) (jq (qA nd (oA (vv 8) (j5 (kq (o:=.rt) (j4 (jW (o:=.no) (j4 (cv 7) (j4 kS (j4 (q_C vw (λ_=>v4)) (j4 (cv 6) j6))))) (j4 (jW (o:=.no) (j4 (cv 7) (j4 (q_C vw (λ_=>v4)) (j4 (cv 5) (j4 (cv 6) j6))))) (j4 (jW (o:=.no) (j4 (vjb (vv 7)) (j4 kS (j4 (cv 5) (j4 (cv 6) j6))))) j6))))))) (jq (v7 (QW.pt (kxp (vW qww (x5 (g:=λa b=>decide (b<a))) (j5 (qL (vv 6) T.b_len)) ki (v6 _) JZ) (kkz (vW qww (x5 (g:=λa b=>decide (b<a))) (j5 (oM (vv 0) ki)) ki (v6 _) JZ)))) (jq (qA nd (oM (j5 (kZ qX qV (vv 3) ki)) (j5 (qL (vv 6) T.b_len)))) (jq (qA nd (kz (kx (j5 (kq (o:=.rt) (j4 (cv 4) (j4 (Z9 ZY YW ki) (j4 kS (j4 kS (j4 (q_C vw (λ_=>v4)) (j4 (jW (o:=.no) (j4 kI j6)) j6)))))))) (j5 (oM (j5 (kZ qX qV (vv 3) ki)) ki))))) (jX (k6 (jW (o:=.no) (j4 (cv 7) (j4 kS (j4 (cv 5) (j4 (oA (j5 (oA (j5 (Kk (vv 6) QY (J9 (vv 9)))) (j5 (jW (o:=.no) (j4 (cv 10) j6))))) (j5 (Kk (vv 6) (J9 (j5 (oA (vv 9) ki))) QY))) j6))))))))) v8) (jX (k6 (kz (kx (vv 8) (j5 (oM (j5 (kZ qX qV (vv 0) ki)) ki))))))))))))))))) h
theorem jzj(T:Txt K mg a7 ac a9 aj af ah ae ai a8 aa)  (F:Fun K "_law_bad_room" "_law_bad_room" jqq f fd):FnOk P w K mg base (CXE P w) 1 f fd ["_law_way","_law_room"] (spF K mg 2 ZJ):=
 qv F sc__law_bad_room (qj rfl) λbf A outer s H vs Q E hr h=>have nd:=sc__law_bad_room.nd;qw rfl
  (jq (qkn (cv 1) (wj5 (is:=[2,3,4]) (qku K (t:=gNs [2,3,4]) (n:=3) (KY (gn nd) (KY (gn nd) (KY (gn nd) kwp)))))) (jq (qA nd (kq (o:=.rt) (j4 (kq (o:=.rt) (j4 (cv 2) (j4 (cv 3) (j4 (cv 4) j6)))) (j4 (jW (o:=.no) (j4 (cv 2) (j4 (cv 3) j6))) (j4 (jW (o:=.no) (j4 (cv 2) (j4 (cv 3) (j4 (cv 4) (j4 kN j6))))) (j4 (jW (o:=.no) (j4 kI (j4 (cv 3) (j4 (cv 4) j6)))) j6)))))) (jq (qA nd (oA (vv 5) (j5 (kq (o:=.rt) (j4 (jW (o:=.no) (j4 (Z9 ZY YW ki) (j4 (cv 3) (j4 (cv 4) j6)))) (j4 (jW (o:=.no) (j4 kN (j4 (cv 3) (j4 (cv 4) j6)))) (j4 (jW (o:=.no) (j4 (q_C vw (λ_=>v4)) (j4 (cv 3) (j4 (cv 4) j6)))) (j4 (jW (o:=.no) (j4 (cv 2) (j4 (V9 qvh vxz (vv 3) T.b_int qzp) (j4 (cv 4) j6)))) j6)))))))) (jq (qA nd (oA (vv 5) (j5 (kq (o:=.rt) (j4 (jW (o:=.no) (j4 (cv 2) (j4 kN (j4 (cv 4) j6)))) j6))))) (jX (k6 (kz (kx (j5 (oA (vv 5) (j5 (kq (o:=.rt) (j4 (jW (o:=.no) (j4 (cv 2) (j4 (cv 3) (j4 (qT (vv 4) T.b_tuple) j6)))) (j4 (jW (o:=.no) (j4 (cv 2) (j4 (cv 3) (j4 kN j6)))) (j4 kN j6))))))) (j5 (oM (vv 0) ki)))))))))) h
theorem jxz(T:Txt K mg a7 ac a9 aj af ah ae ai a8 aa)  (F:Fun K "_law_bad_whole" "_law_bad_whole" jqh f fd):FnOk P w K mg base (CXE P w) 1 f fd ["_law_way","_law_machine_here"] (spF K mg 2 Zx):=
 qv F sc__law_bad_whole (qj rfl) λbf A outer s H vs Q E hr h=>have nd:=sc__law_bad_whole.nd;qw rfl
  (jq (qkn (cv 1) (wj5 (is:=[2,3]) (qku K (t:=gNs [2,3]) (n:=2) (KY (gn nd) (KY (gn nd) kwp))))) (jq (qA nd (jW (o:=.no) (j4 kI (j4 (q_C vw (λ_=>v4)) (j4 (kq (o:=.rt) j6) j6))))) (jq (qA nd (kq (o:=.rt) (j4 (kq (o:=.rt) (j4 (cv 2) (j4 (cv 3) j6))) (j4 (jW (o:=.no) (j4 (cv 2) j6)) (j4 (jW (o:=.no) (j4 (cv 2) (j4 (cv 3) (j4 kN j6)))) (j4 kN (j4 (jW (o:=.no) (j4 (qT (vv 2) T.b_tuple) (j4 (cv 3) j6))) (j4 (jW (o:=.no) (j4 (kq (o:=.rt) j6) (j4 (kq (o:=.rt) (j4 (cv 4) j6)) j6))) j6)))))))) (jq (qA nd (oA (vv 5) (j5 (kq (o:=.rt) (j4 (jW (o:=.no) (j4 (kq (o:=.rt) (j4 kS (j4 kS (j4 kS (j4 kS j6))))) (j4 (kq (o:=.rt) (j4 (cv 4) j6)) j6))) (j4 (jW (o:=.no) (j4 (oA (vv 2) (j5 (Kk (vv 2) (J9 (j5 (Z9 ZY YW ki))) QY))) (j4 (cv 3) j6))) (j4 (jW (o:=.no) (j4 (kq (o:=.rt) (j4 kS (j4 kS j6))) (j4 (kq (o:=.rt) (j4 (cv 4) j6)) j6))) j6))))))) (jq (qA nd (oA (vv 5) (j5 (kq (o:=.rt) (j4 (jW (o:=.no) (j4 (kq (o:=.rt) (j4 kS (j4 kS j6))) (j4 (kq (o:=.rt) (j4 (cv 4) j6)) j6))) j6))))) (jq (qA nd (oA (vv 5) (j5 (kq (o:=.rt) (j4 (jW (o:=.no) (j4 (cv 2) (j4 (kq (o:=.rt) j6) j6))) (j4 (jW (o:=.no) (j4 (cv 2) (j4 (qM .rt 1 [4] 7 ["_law_k","_law_room"] (xx ki rfl T.b_range) (λ_ _ _ _ _=>(cv 1))) j6))) (j4 (jW (o:=.no) (j4 (cv 2) (j4 (qT (vv 3) T.b_tuple) j6))) (j4 (jW (o:=.no) (j4 (cv 2) (j4 kN j6))) j6)))))))) (jq (qA nd (jW (o:=.no) (j4 (kz (kx (vv 2) ki)) (j4 kS (j4 kI (j4 (jW (o:=.no) j6) j6)))))) (jq (qA nd (oA (vv 5) (j5 (kq (o:=.rt) (j4 (jW (o:=.no) (j4 (cv 2) (j4 (kq (o:=.rt) (j4 (jW (o:=.no) (j4 kI (j4 (q_C vw (λ_=>v4)) (j4 (qM .rt 1 [6] 7 ["_law_k","_law_step_here"] (xx ki rfl T.b_range) (λ_ _ _ _ _=>(cv 1))) j6)))) j6)) j6))) (j4 kS (j4 kI (j4 (jW (o:=.no) (j4 (kq (o:=.rt) (j4 kS (j4 kS j6))) (j4 (kq (o:=.rt) (j4 (cv 4) j6)) j6))) j6)))))))) (jX (k6 (kz (kx (vv 5) (j5 (oM (vv 0) ki)))))))))))))) h
theorem kj7(T:Txt K mg a7 ac a9 aj af ah ae ai a8 aa)(bo:jwk P w K mg base)(bg:jw3 P w K mg base)(bn:jwl P w K mg base)(F:Fun K "_law_spoiled" "_law_spoiled" jv6 f fd):FnOk P w K mg base (CXE P w) 2 f fd ["_law_machine_here","_law_cell"] (spF K mg 2 Yz):=
 qv F sc__law_spoiled (qj rfl) λbf A outer s H vs Q E hr h=>have nd:=sc__law_spoiled.nd;qw rfl
  (jq (qA nd (oM (vv 1) ki)) (jq (qA nd (oM (j5 (kZ qX qV (vv 1) ki)) (j5 (qL (kx (vv 0) ki) T.b_len)))) (jq (qA nd (V9 (jzs K) kqp (kx (vv 0) ki) T.b_list V6)) (jq (v7 (vW (x6 hr.units) x9 (vv 2) ki (v6 _) zX) (jX (k6 (qC bg hr (j4 (kZ qX qV (vv 1) ki) (j4 (cv 0) j6))))) v8) (jq (v7 (vW (x6 hr.units) x9 (vv 2) ki (v6 _) zX) (jq (vv8 (i:=4) (pv 4) (vv 3) (qC bn hr (j4 (kZ qX qV (vv 1) ki) (j4 (kz (kx (vv 4) (vv 3))) j6)))) (jX (k6 (jW (o:=.no) (j4 (kz (kx (vv 0) ki)) (j4 (cv 4) j6)))))) v8) (jq (qkn (kz (kx (vv 4) (vv 3))) (wj5 (is:=[5,6,7]) (qku K (t:=gNs [5,6,7]) (n:=3) (KY (gn nd) (KY (gn nd) (KY (gn nd) kwp)))))) (jq (qA nd (oM (j5 (kZ qX qV (vv 1) ki)) (j5 (oA (j5 (qL (vv 7) T.b_len)) ki)))) (jq (qA nd (qC bo hr (j4 (oM (j5 (kZ qX qV (vv 1) ki)) ki) (j4 (cv 0) (j4 (cv 3) (j4 (kZ qX qV (vv 1) ki) j6)))))) (jq (vv8 (i:=4) (pv 4) (vv 3) (jW (o:=.no) (j4 (cv 5) (j4 (cv 6) (j4 (oA (j5 (oA (j5 (Kk (vv 7) QY (J9 (vv 8)))) (j5 (kq (o:=.rt) (j4 (cv 9) j6))))) (j5 (Kk (vv 7) (J9 (vv 8)) QY))) j6))))) (jX (k6 (jW (o:=.no) (j4 (kz (kx (vv 0) ki)) (j4 (cv 4) j6)))))))))))))) h
theorem kj8(T:Txt K mg a7 ac a9 aj af ah ae ai a8 aa)(bi:jw2 P w K mg base)(F:Fun K "_law_refused" "_law_refused" jv7 f fd):FnOk P w K mg base (CXE P w) 10 f fd ["_law_thing"] (spF K mg 1 Z2):=
 qv F sc__law_refused (qj rfl) λbf A outer s H vs Q E hr h=>have nd:=sc__law_refused.nd;qw rfl
  (jq (qA nd (q_C vw (λ_=>v4))) (jq (vv7 (i:=2) (cs:=["NoMachine"]) nd rfl rfl ⟨_,_,rfl,rfl⟩ T.m_NoMachine rfl (kx5 T.e_NoMachine T.n_NoMachine T.h_NoMachine_NoMachine qjn) (vjf bi (hr.mono (by decide)) (j4 (cv 0) j6)) (λx_x=>(jq (qA nd (z7 (j5 (vva (vv 2) T.b_isinstance (K9 T.m_RoomError) rfl (vke T.n_NoMachine T.i_NoMachine_RoomError qqm))) (z6 (vva (vv 2) T.b_isinstance (qky (v:=.ty "ValueError") rfl T.b_ValueError kqn rfl) rfl (vwy T.n_NoMachine T.i_NoMachine_ValueError qqm))))) (jq (qA nd (z7 (vv 1) (z6 (vjd (j5 (vvb (us:=[a8,ai,ae,ah]) (vv 2) T.b_isinstance (v5 (K9 T.m_NoExchange) (v5 (K9 T.m_NoFit) (v5 (K9 T.m_NoName) (v5 (K9 T.m_NoRow) wZ)))) rfl (kz4 T.n_NoMachine (Q1 T.i_NoMachine_NoExchange (Q1 T.i_NoMachine_NoFit (Q1 T.i_NoMachine_NoName (Q1 T.i_NoMachine_NoRow qqk)))) qqn))))))) (jX (qA nd (z7 (vv 1) (z6 (vjd (j5 (vvb (us:=[af,aj,a9,ac]) (vv 2) T.b_isinstance (v5 (K9 T.m_NoText) (v5 (K9 T.m_NoWay) (v5 (K9 T.m_NotSingle) (v5 (K9 T.m_TooGreat) wZ)))) rfl (kz4 T.n_NoMachine (Q1 T.i_NoMachine_NoText (Q1 T.i_NoMachine_NoWay (Q1 T.i_NoMachine_NotSingle (Q1 T.i_NoMachine_TooGreat qqk)))) qqn)))))))))))) (jX (k6 (wkv (pv 1)))))) h
theorem vwa(T:Txt K mg a7 ac a9 aj af ah ae ai a8 aa)(bz:jwu P w K mg base)(b7:jwj P w K mg base)(bu:jws P w K mg base)(ak:WY P w K mg base)(aq:jve P w K mg base)(bv:jwt P w K mg base)(F:Fun K "law" "law" vj5 f fd):FnOk P w K mg base (CXE P w) 11 f fd ["_law_script"] (spF K mg 1 m_law):=
 qv F sc_law (qj rfl) λbf A outer s H vs Q E hr h=>have nd:=sc_law.nd;qw rfl
  (jq (qA nd (qC bz hr (j4 (cv 0) (j4 kI j6)))) (jq (v7 (vW qz8 qvy (j5 (qC b7 hr (j4 (cv 1) j6))) (j5 (q_C vw (λ_=>v4))) (v6 _) qvq) (jX (k6 (q_C vw (λ_=>v4)))) v8) (jq (qF (xx ki rfl T.b_range) (gN nd) (jq (qA nd (oA (j5 (oX (j5 (qC ak hr (j4 (qC aq hr (j4 (cv 0) (j4 kI j6))) (j4 (cv 2) j6)))) ki)) (j5 (qC ak hr (j4 (qC aq hr (j4 (cv 0) (j4 kI j6))) (j4 (cv 2) j6)))))) (jq (qA nd (qC bu hr (j4 (cv 1) (j4 (cv 3) j6)))) (jX (v7 (QW.pt (QX (vW qz8 qvy (j5 (qC b7 hr (j4 (cv 4) j6))) (j5 (q_C vw (λ_=>v4))) (v6 _) qvq) (Wz (wW (zj (j5 (qC bv hr (j4 (cv 4) j6)))))))) (jX (k6 (q_C vw (λ_=>v4)))) v8))))) (jX (k6 (V1 wjh vxy (j5 (qC b7 hr (j4 (cv 1) j6))) (j5 (q_C vw (λ_=>v4))) (v6 _))))))) h
end
theorem all_mk{l:PySem.W.OpenLaw}{w:PySem.World}{K:PySem.W.Frag}{h:Heap}{mg:Str->Option Value}{fa:Addr}(X:K.In h)(G:h.Ns mainGlobals mg)(hfa:mg "law"=some (.ref fa)){em ck da d7 cn d9:Value}{a7 ac a9 aj af ah ae ai a8 aa:Addr}
  (g0:Gf K "is_whole" jxu)
  (g1:Gf K "is_sign" jzz)
  (g2:Gf K "is_tuple_of" jvr)
  (g3:Gf K "are_signs" jwx)
  (g4:Gf K "is_one_of" jwv)
  (g5:Gf K "is_below" jxv)
  (g6:Gf K "is_fill" kj0)
  (g7:Gf K "are_fills" jwz)
  (g8:Gf K "is_ask" kku)
  (g9:Gf K "is_step" jzy)
  (g10:Gf K "are_steps" jww)
  (g11:Gf K "is_room_frame" jqo)
  (g12:Gf K "are_rooms" jwy)
  (g13:Gf K "is_machine" jw5)
  (g14:Gf K "copied_room" jvs)
  (g15:Gf K "copied_machine" jqg)
  (g16:Gf K "_law_cell_at" jv9)
  (g17:Gf K "_law_mixed" jw8)
  (g18:Gf K "_law_words" jw6)
  (g19:Gf K "_law_signs" jw7)
  (g20:Gf K "_law_fill" jx1)
  (g21:Gf K "_law_step" jx0)
  (g22:Gf K "_law_machine" jv8)
  (g23:Gf K "_law_bad_step" jqp)
  (g24:Gf K "_law_bad_room" jqq)
  (g25:Gf K "_law_bad_whole" jqh)
  (g26:Gf K "_law_spoiled" jv6)
  (g27:Gf K "_law_refused" jv7)
  (g28:Gf K "law" vj5)
  (q_LETTERS:PySem.W.nsIn K mainGlobals "LETTERS"=some (some em)) (r_LETTERS:RelV (V.str "abcdefghijklmnopqrstuvwxyz") em)
  (q_MOST_LETTERS:PySem.W.nsIn K mainGlobals "MOST_LETTERS"=some (some ck)) (r_MOST_LETTERS:RelV (V.int (8)) ck)
  (q_MOST_SIGNS:PySem.W.nsIn K mainGlobals "MOST_SIGNS"=some (some da)) (r_MOST_SIGNS:RelV (V.int (3)) da)
  (q_MOST_ROOMS:PySem.W.nsIn K mainGlobals "MOST_ROOMS"=some (some d7)) (r_MOST_ROOMS:RelV (V.int (12)) d7)
  (q_MOST_KEEPERS:PySem.W.nsIn K mainGlobals "MOST_KEEPERS"=some (some cn)) (r_MOST_KEEPERS:RelV (V.int (3)) cn)
  (q_MOST_STEPS:PySem.W.nsIn K mainGlobals "MOST_STEPS"=some (some d9)) (r_MOST_STEPS:RelV (V.int (120)) d9)
  (z_ValueError:PySem.W.nsIn K mainGlobals "ValueError"=some none)
  (z_all:PySem.W.nsIn K mainGlobals "all"=some none)
  (z_bool:PySem.W.nsIn K mainGlobals "bool"=some none)
  (z_int:PySem.W.nsIn K mainGlobals "int"=some none)
  (z_isinstance:PySem.W.nsIn K mainGlobals "isinstance"=some none)
  (z_len:PySem.W.nsIn K mainGlobals "len"=some none)
  (z_list:PySem.W.nsIn K mainGlobals "list"=some none)
  (z_range:PySem.W.nsIn K mainGlobals "range"=some none)
  (z_set:PySem.W.nsIn K mainGlobals "set"=some none)
  (z_sorted:PySem.W.nsIn K mainGlobals "sorted"=some none)
  (z_str:PySem.W.nsIn K mainGlobals "str"=some none)
  (z_sum:PySem.W.nsIn K mainGlobals "sum"=some none)
  (z_tuple:PySem.W.nsIn K mainGlobals "tuple"=some none)
  (n_NoMachine:PySem.W.nsIn K mainGlobals "NoMachine"=some (some (.ref a7)))
  (ec_NoMachine:PySem.W.excIn K a7 bmV "ValueError.__new__"=true) (ga_NoMachine:PySem.W.findIn K (.ref a7) "__getattribute__"=some (some (.builtin "BaseException.__getattribute__"))) (gt_NoMachine:PySem.W.findIn K (.ref a7) "__getattr__"=some none) (fa_NoMachine:PySem.W.findIn K (.ref a7) "__class__"=some (some (.builtin "object.__class__"))) (fg_NoMachine:PySem.W.specialIn K (.builtin "object.__class__") "__get__"=some (some (.builtin "getset_descriptor.__get__"))) (ft_NoMachine:PySem.W.takesIn K (.builtin "object.__class__")=some true) (ob_NoMachine:PySem.W.mroIn K a7 (.type "object")=some true) (bx_NoMachine:PySem.W.mroIn K a7 (.type "BaseException")=some true) (cl_NoMachine:PySem.W.isClsIn K a7=true)
  (n_TooGreat:PySem.W.nsIn K mainGlobals "TooGreat"=some (some (.ref ac)))
  (n_NotSingle:PySem.W.nsIn K mainGlobals "NotSingle"=some (some (.ref a9)))
  (n_NoWay:PySem.W.nsIn K mainGlobals "NoWay"=some (some (.ref aj)))
  (n_NoText:PySem.W.nsIn K mainGlobals "NoText"=some (some (.ref af)))
  (n_NoRow:PySem.W.nsIn K mainGlobals "NoRow"=some (some (.ref ah)))
  (n_NoName:PySem.W.nsIn K mainGlobals "NoName"=some (some (.ref ae)))
  (n_NoFit:PySem.W.nsIn K mainGlobals "NoFit"=some (some (.ref ai)))
  (n_NoExchange:PySem.W.nsIn K mainGlobals "NoExchange"=some (some (.ref a8)))
  (n_RoomError:PySem.W.nsIn K mainGlobals "RoomError"=some (some (.ref aa)))
  (h_NoMachine_NoMachine:PySem.W.exmOne K (.ref a7) (.ref a7)=some true)
  (i_NoMachine_TooGreat:PySem.W.kitOne K (.ref a7) (.ref ac)=some false)
  (i_NoMachine_NotSingle:PySem.W.kitOne K (.ref a7) (.ref a9)=some false)
  (i_NoMachine_NoWay:PySem.W.kitOne K (.ref a7) (.ref aj)=some false)
  (i_NoMachine_NoText:PySem.W.kitOne K (.ref a7) (.ref af)=some false)
  (i_NoMachine_NoRow:PySem.W.kitOne K (.ref a7) (.ref ah)=some false)
  (i_NoMachine_NoName:PySem.W.kitOne K (.ref a7) (.ref ae)=some false)
  (i_NoMachine_NoFit:PySem.W.kitOne K (.ref a7) (.ref ai)=some false)
  (i_NoMachine_NoExchange:PySem.W.kitOne K (.ref a7) (.ref a8)=some false)
  (i_NoMachine_ValueError:PySem.W.kitOne K (.ref a7) (.type "ValueError")=some true)
  (i_NoMachine_RoomError:PySem.W.kitOne K (.ref a7) (.ref aa)=some true)
  : ∃fd:FuncData,(∀(s:Shared) (v:Value),BindsTo s fd ⟨[v],[]⟩ [("_law_script",v)])/\∀base:Heap,K.In base->base.Ns mainGlobals mg->FnOk l.prog w K mg base (CXE l.prog w) 11 fa fd ["_law_script"] (spF K mg 1 m_law):=by
 have T:Txt K mg a7 ac a9 aj af ah ae ai a8 aa:=⟨Xw X G z_ValueError,Xw X G z_all,Xw X G z_bool,Xw X G z_int,Xw X G z_isinstance,Xw X G z_len,Xw X G z_list,Xw X G z_range,Xw X G z_set,Xw X G z_sorted,Xw X G z_str,Xw X G z_sum,Xw X G z_tuple,⟨_,Xu X G q_LETTERS,r_LETTERS⟩,⟨_,Xu X G q_MOST_LETTERS,r_MOST_LETTERS⟩,⟨_,Xu X G q_MOST_SIGNS,r_MOST_SIGNS⟩,⟨_,Xu X G q_MOST_ROOMS,r_MOST_ROOMS⟩,⟨_,Xu X G q_MOST_KEEPERS,r_MOST_KEEPERS⟩,⟨_,Xu X G q_MOST_STEPS,r_MOST_STEPS⟩,n_NoMachine,Xu X G n_NoMachine,⟨Xu X G n_NoMachine,ec_NoMachine,qzs ga_NoMachine gt_NoMachine fa_NoMachine fg_NoMachine ft_NoMachine ob_NoMachine bx_NoMachine cl_NoMachine⟩,n_TooGreat,Xu X G n_TooGreat,n_NotSingle,Xu X G n_NotSingle,n_NoWay,Xu X G n_NoWay,n_NoText,Xu X G n_NoText,n_NoRow,Xu X G n_NoRow,n_NoName,Xu X G n_NoName,n_NoFit,Xu X G n_NoFit,n_NoExchange,Xu X G n_NoExchange,n_RoomError,Xu X G n_RoomError,h_NoMachine_NoMachine,i_NoMachine_TooGreat,i_NoMachine_NotSingle,i_NoMachine_NoWay,i_NoMachine_NoText,i_NoMachine_NoRow,i_NoMachine_NoName,i_NoMachine_NoFit,i_NoMachine_NoExchange,i_NoMachine_ValueError,i_NoMachine_RoomError⟩;refine g28.law X G hfa fun {base _ _} F=>?_
 have d6:kkn l.prog w K mg base:=g0.d X G (kwu T );have df:kw7 l.prog w K mg base:=g1.d X G (qj8 T );have ao:ZW l.prog w K mg base:=g2.d X G (kk4 T );have cu:kjv l.prog w K mg base:=g3.d X G (kvi T df);have b6:jvy l.prog w K mg base:=g4.d X G (kvg T );have b5:XZ l.prog w K mg base:=g5.d X G (kwv T d6);have dh:kw8 l.prog w K mg base:=g6.d X G (qj9 T b6 b5);have cm:kjx l.prog w K mg base:=g7.d X G (kvk T ao dh);have dq:kzl l.prog w K mg base:=g8.d X G (qq4 T b6 b5);have dj:kw6 l.prog w K mg base:=g9.d X G (qj7 T cm ao b6 dq b5);have cq:kju l.prog w K mg base:=g10.d X G (kvh T dj);have bj:jwi l.prog w K mg base:=g11.d X G (jzh T ao b5);have cp:kjw l.prog w K mg base:=g12.d X G (kvj T cq bj);have b7:jwj l.prog w K mg base:=g13.d X G (kq2 T ao cu cp);have cb:jxn l.prog w K mg base:=g14.d X G (kk5 T );have bi:jw2 l.prog w K mg base:=g15.d X G (jxy T b7 cb);have aq:jve l.prog w K mg base:=g16.d X G (kja T );have ak:WY l.prog w K mg base:=g17.d X G (kq5 T );have cg:jza l.prog w K mg base:=g18.d X G (kq3 T ak);have ci:jzb l.prog w K mg base:=g19.d X G (kq4 T cg);have cw:kjz l.prog w K mg base:=g20.d X G (kvm T );have cy:kjy l.prog w K mg base:=g21.d X G (kvl T ak cw);have bz:jwu l.prog w K mg base:=g22.d X G (kj9 T ak ci aq cy);have bo:jwk l.prog w K mg base:=g23.d X G (jzi T );have bn:jwl l.prog w K mg base:=g24.d X G (jzj T );have bg:jw3 l.prog w K mg base:=g25.d X G (jxz T );have bu:jws l.prog w K mg base:=g26.d X G (kj7 T bo bg bn);have bv:jwt l.prog w K mg base:=g27.d X G (kj8 T bi);exact vwa T bz b7 bu ak aq bv F
end Nk11
namespace PySem.W.Fast
theorem tw4603543132558959084:True:=⟨⟩
theorem tw11775806374809734541:True:=⟨⟩
theorem tw16003133101974812394:True:=⟨⟩
theorem tw16805127434276900917:True:=⟨⟩
theorem tw2911385705680779721:True:=⟨⟩
theorem tw12667793961350642652:True:=⟨⟩
theorem tw16247477266050989193:True:=⟨⟩
theorem tw17819370864581785051:True:=⟨⟩
theorem tw4229327721655942955:True:=⟨⟩
theorem tw3639275783176349473:True:=⟨⟩
theorem tw15759298368883824762:True:=⟨⟩
theorem tw10212262540612365658:True:=⟨⟩
theorem tw14701948448821747514:True:=⟨⟩
theorem tw18308074391144183393:True:=⟨⟩
theorem tw16240016360011973413:True:=⟨⟩
theorem tw4115011843222231082:True:=⟨⟩
theorem tw15737084545046340963:True:=⟨⟩
theorem tw4977587210600961766:True:=⟨⟩
theorem tw8377811848679076487:True:=⟨⟩
theorem tw11912816549705619613:True:=⟨⟩
theorem tw16202125509017216564:True:=⟨⟩
theorem tw9674323390949765062:True:=⟨⟩
theorem tw11343455357515753213:True:=⟨⟩
theorem tw10377049150653240782:True:=⟨⟩
theorem tw4735362563435039349:True:=⟨⟩
theorem tw10938498292540982539:True:=⟨⟩
theorem tw6466141320038018588:True:=⟨⟩
theorem tw1920140825153582643:True:=⟨⟩
theorem tw7542564921629238438:True:=⟨⟩
theorem tw16154507858066108726:True:=⟨⟩
theorem tw7044508593204846290:True:=⟨⟩
theorem tw6569774886756303669:True:=⟨⟩
theorem tw9190464110707656937:True:=⟨⟩
theorem tw7299571418001616055:True:=⟨⟩
theorem tw13901409107041528837:True:=⟨⟩
theorem tw13705805363027966136:True:=⟨⟩
theorem tw6624782738671430229:True:=⟨⟩
theorem tw2791461093942057258:True:=⟨⟩
theorem tw16342371712041078651:True:=⟨⟩
theorem tw10795164770850153500:True:=⟨⟩
theorem tw11290551755322073407:True:=⟨⟩
theorem tw5174922975212014668:True:=⟨⟩
theorem tw6641787267295415663:True:=⟨⟩
theorem tw921906212249428332:True:=⟨⟩
theorem tw4036161650411769300:True:=⟨⟩
theorem tw14273842331308263882:True:=⟨⟩
theorem tw2637676169179677871:True:=⟨⟩
theorem tw3969133986228431185:True:=⟨⟩
theorem tw537694799361659663:True:=⟨⟩
theorem tw1360582078718415269:True:=⟨⟩
theorem tw2937146387589426060:True:=⟨⟩
theorem tw11407737780922275978:True:=⟨⟩
theorem tw8501686758918572596:True:=⟨⟩
theorem tw4838839051245322127:True:=⟨⟩
theorem tw8325004583025423438:True:=⟨⟩
theorem tw9106251273753896313:True:=⟨⟩
theorem tw466602857064228008:True:=⟨⟩
theorem tw14967713892197272636:True:=⟨⟩
theorem tw11404581780319000125:True:=⟨⟩
theorem tw13189346544858481476:True:=⟨⟩
theorem tw9060603131716590998:True:=⟨⟩
theorem tw2673952379590372775:True:=⟨⟩
theorem tw8530363675153224340:True:=⟨⟩
theorem tw4773106054477819266:True:=⟨⟩
theorem tw2322253443095593971:True:=⟨⟩
theorem tw18188629580941474508:True:=⟨⟩
theorem tw6273105678155580548:True:=⟨⟩
theorem tw4573998258334915399:True:=⟨⟩
theorem tw7930237016254561758:True:=⟨⟩
theorem tw1498961526179409357:True:=⟨⟩
theorem tw9515710342262122841:True:=⟨⟩
theorem tw14242388402574516698:True:=⟨⟩
theorem tw5249141914910139524:True:=⟨⟩
theorem tw17107281543227563861:True:=⟨⟩
theorem tw10358170685841998518:True:=⟨⟩
theorem tw8329211923893483366:True:=⟨⟩
theorem tw5360792130828245855:True:=⟨⟩
theorem tw13872274498446419882:True:=⟨⟩
theorem tw18367388321927485779:True:=⟨⟩
theorem tw13288050825625850436:True:=⟨⟩
theorem tw744053244833293923:True:=⟨⟩
theorem tw310256201321263111:True:=⟨⟩
theorem tw9710063589773734754:True:=⟨⟩
theorem tw10646501030142406045:True:=⟨⟩
theorem tw15388623665740343983:True:=⟨⟩
theorem tw11671365813123018599:True:=⟨⟩
theorem tw2741996448289321470:True:=⟨⟩
theorem tw2853890030476979391:True:=⟨⟩
theorem tw6515096132807746829:True:=⟨⟩
theorem tw6353117638344800706:True:=⟨⟩
theorem tw9247916268258184227:True:=⟨⟩
theorem tw12278267536780152533:True:=⟨⟩
theorem tw5735235823456807646:True:=⟨⟩
theorem tw1581323361942349716:True:=⟨⟩
theorem tw1340806530482143663:True:=⟨⟩
theorem tw16109566794247865898:True:=⟨⟩
theorem tw6900910146891090601:True:=⟨⟩
theorem tw14073641020482828100:True:=⟨⟩
theorem tw1848805566806321877:True:=⟨⟩
theorem tw7172676621800011177:True:=⟨⟩
theorem tw10935238972059429670:True:=⟨⟩
theorem tw14269371889118122667:True:=⟨⟩
theorem tw9831898753063905804:True:=⟨⟩
theorem tw13110869510550921844:True:=⟨⟩
theorem tw6932764972880638504:True:=⟨⟩
theorem tw7304405467230978660:True:=⟨⟩
theorem tw4437135547969687600:True:=⟨⟩
theorem tw15748198368957111334:True:=⟨⟩
theorem tw16895285991656856028:True:=⟨⟩
theorem tw10860737840983637520:True:=⟨⟩
theorem tw12718251968000781136:True:=⟨⟩
theorem tw4461170763378958928:True:=⟨⟩
theorem tw10156070822836271806:True:=⟨⟩
theorem tw11984503972766149661:True:=⟨⟩
theorem tw14284340072731025728:True:=⟨⟩
theorem tw4574401232901333870:True:=⟨⟩
theorem tw8338426587565424230:True:=⟨⟩
theorem tw15669688284683345997:True:=⟨⟩
theorem tw8389147770809863746:True:=⟨⟩
theorem tw18019044411844586950:True:=⟨⟩
theorem tw7486203201921805733:True:=⟨⟩
theorem tw17478111761213466851:True:=⟨⟩
theorem tw8234304714109889741:True:=⟨⟩
theorem tw10491833377228973360:True:=⟨⟩
theorem tw13513061401795076175:True:=⟨⟩
theorem tw13354319345151228513:True:=⟨⟩
theorem tw1959303520219258637:True:=⟨⟩
theorem tw13529496678419138213:True:=⟨⟩
theorem tw2760856429252057392:True:=⟨⟩
theorem tw12097492144534389437:True:=⟨⟩
theorem tw5460172123045206329:True:=⟨⟩
end PySem.W.Fast
open PySem PySem.W PyProof.Rows
set_option maxRecDepth 100000 in
set_option maxHeartbeats 0 in
theorem PySem.Challenge.cw_freshrooms_k11_no_machines_holds : PySem.Challenge.rw_freshrooms_k11_no_machines.Holds := by
 w_on;o_law;k_head;(case hw=>w_witness2)
 k_fill
 refine Q.walkQ (l:=PySem.Challenge.rw_freshrooms_k11_no_machines) (n:=63) (k:=11) (x:="_law_script") (f:=Nk11.m_law) rfl (by decide) rfl ⟨rfl,by decide,by decide,rfl⟩ (fun w h Y=>PySem.W.kIn_of Y) ?F Nk11.law_true
 case F =>
  intro w mg fa h KX G hmg
  refine' Nk11.all_mk KX G hmg ?_ ?_ ?_ ?_ ?_ ?_ ?_ ?_ ?_ ?_ ?_ ?_ ?_ ?_ ?_ ?_ ?_ ?_ ?_ ?_ ?_ ?_ ?_ ?_ ?_ ?_ ?_ ?_ ?_ ?q_LETTERS ?r_LETTERS ?q_MOST_LETTERS ?r_MOST_LETTERS ?q_MOST_SIGNS ?r_MOST_SIGNS ?q_MOST_ROOMS ?r_MOST_ROOMS ?q_MOST_KEEPERS ?r_MOST_KEEPERS ?q_MOST_STEPS ?r_MOST_STEPS ?z_ValueError ?z_all ?z_bool ?z_int ?z_isinstance ?z_len ?z_list ?z_range ?z_set ?z_sorted ?z_str ?z_sum ?z_tuple ?n_NoMachine ?ec_NoMachine ?ga_NoMachine ?gt_NoMachine ?fa_NoMachine ?fg_NoMachine ?ft_NoMachine ?ob_NoMachine ?bx_NoMachine ?cl_NoMachine ?n_TooGreat ?n_NotSingle ?n_NoWay ?n_NoText ?n_NoRow ?n_NoName ?n_NoFit ?n_NoExchange ?n_RoomError ?h_NoMachine_NoMachine ?i_NoMachine_TooGreat ?i_NoMachine_NotSingle ?i_NoMachine_NoWay ?i_NoMachine_NoText ?i_NoMachine_NoRow ?i_NoMachine_NoName ?i_NoMachine_NoFit ?i_NoMachine_NoExchange ?i_NoMachine_ValueError ?i_NoMachine_RoomError
  all_goals try (refine' Q.Gf.mk ?a ?b ?c ?d;(case a=>k_is);(case b=>k_is);(case c=>k_is);(case d=>k_is))
  (case q_LETTERS=>k_is)
  (case r_LETTERS=>exact ⟨_,rfl⟩)
  (case q_MOST_LETTERS=>k_is)
  (case r_MOST_LETTERS=>exact ⟨_,rfl⟩)
  (case q_MOST_SIGNS=>k_is)
  (case r_MOST_SIGNS=>exact ⟨_,rfl⟩)
  (case q_MOST_ROOMS=>k_is)
  (case r_MOST_ROOMS=>exact ⟨_,rfl⟩)
  (case q_MOST_KEEPERS=>k_is)
  (case r_MOST_KEEPERS=>exact ⟨_,rfl⟩)
  (case q_MOST_STEPS=>k_is)
  (case r_MOST_STEPS=>exact ⟨_,rfl⟩)
  (case z_ValueError=>k_is)
  (case z_all=>k_is)
  (case z_bool=>k_is)
  (case z_int=>k_is)
  (case z_isinstance=>k_is)
  (case z_len=>k_is)
  (case z_list=>k_is)
  (case z_range=>k_is)
  (case z_set=>k_is)
  (case z_sorted=>k_is)
  (case z_str=>k_is)
  (case z_sum=>k_is)
  (case z_tuple=>k_is)
  (case n_NoMachine=>k_is)
  (case ec_NoMachine=>k_exc)
  (case ga_NoMachine=>k_is)
  (case gt_NoMachine=>k_is)
  (case fa_NoMachine=>k_is)
  (case fg_NoMachine=>k_is)
  (case ft_NoMachine=>k_is)
  (case ob_NoMachine=>k_is)
  (case bx_NoMachine=>k_is)
  (case cl_NoMachine=>k_is)
  (case n_TooGreat=>k_is)
  (case n_NotSingle=>k_is)
  (case n_NoWay=>k_is)
  (case n_NoText=>k_is)
  (case n_NoRow=>k_is)
  (case n_NoName=>k_is)
  (case n_NoFit=>k_is)
  (case n_NoExchange=>k_is)
  (case n_RoomError=>k_is)
  (case h_NoMachine_NoMachine=>kts_exm)
  (case i_NoMachine_TooGreat=>kit_is)
  (case i_NoMachine_NotSingle=>kit_is)
  (case i_NoMachine_NoWay=>kit_is)
  (case i_NoMachine_NoText=>kit_is)
  (case i_NoMachine_NoRow=>kit_is)
  (case i_NoMachine_NoName=>kit_is)
  (case i_NoMachine_NoFit=>kit_is)
  (case i_NoMachine_NoExchange=>kit_is)
  (case i_NoMachine_ValueError=>kit_is)
  (case i_NoMachine_RoomError=>kit_is)
