import PyProof.Rows.All
import Wide.All
import OpenK.AllK
import Wide.FinOn
import Lean
import PySem.Challenge.RW_freshrooms_k06_texts_of_no_row
set_option Elab.async false
set_option linter.all false
set_option bootstrap.genMatcherCode false
set_option compiler.extract_closed false
set_option maxRecDepth 100000
theorem Ŕq(_:True:=by rfl):True:=trivial
theorem Ŕq.z:True:=trivial
open Ŕq renaming _auto_1→Ŕ
theorem ŕq(_:True:=by decide):True:=trivial
theorem ŕq.z:True:=trivial
open ŕq renaming _auto_1→ŕ
theorem Ŗq(_:True:=by intro _;rfl):True:=trivial
theorem Ŗq.z:True:=trivial
open Ŗq renaming _auto_1→Ŗ
theorem ŗq(_:True:=by decide +kernel):True:=trivial
theorem ŗq.z:True:=trivial
open ŗq renaming _auto_1→ŗ
theorem Řq(_:True:=by first|exact .inl rfl|exact .inr rfl|assumption):True:=trivial
theorem Řq.z:True:=trivial
open Řq renaming _auto_1→Ř
theorem řq(_:True:=by first|exact Or.inl rfl|exact Or.inr (Or.inl rfl)|exact Or.inr (Or.inr rfl)):True:=trivial
theorem řq.z:True:=trivial
open řq renaming _auto_1→ř
theorem Śq(_:True:=by first|exact Or.inl rfl|exact Or.inr rfl):True:=trivial
theorem Śq.z:True:=trivial
open Śq renaming _auto_1→Ś
theorem śq(_:True:=by first|exact .inl rfl|exact .inr rfl):True:=trivial
theorem śq.z:True:=trivial
open śq renaming _auto_1→ś
theorem oq9{α : Type _}{a b : α}(h:some a=some b):a=b:=Option.some.inj h
theorem lr9{α : Type _}{a : α}{b : List α}(c : List α)(h:a ∈ b):a ∈ c ++ b:=List.mem_append_right c h
theorem ll9{α : Type _}{a : α}{b : List α}(c : List α)(h:a ∈ b):a ∈ b ++ c:=List.mem_append_left c h
theorem lc9{α : Type _}{a : α}{l : List α}(b : α)(h:a ∈ l):a ∈ b::l:=List.mem_cons_of_mem b h
section
open PySem PySem.Spec PyProof.Rows
theorem X0:type_of% @Array.length_toList:=@Array.length_toList
theorem X1:type_of% @decide_eq_false:=@decide_eq_false
theorem X2:type_of% @wpAny_bind:=@wpAny_bind
theorem X3:type_of% @List.mem_cons_self:=@List.mem_cons_self
theorem X4:type_of% @List.size_toArray:=@List.size_toArray
theorem X5:type_of% @decide_eq_true:=@decide_eq_true
theorem X6:type_of% @Heap.get?_push_of_some:=@Heap.get?_push_of_some
theorem X7:type_of% @List.length_map:=@List.length_map
theorem X8:type_of% @List.getElem?_eq_getElem:=@List.getElem?_eq_getElem
theorem X9:type_of% @if_pos:=@if_pos
theorem Xa:type_of% @Nat.lt_of_lt_of_le:=@Nat.lt_of_lt_of_le
theorem Xb:type_of% @Nat.le_refl:=@Nat.le_refl
theorem Xd:type_of% @List.nodup_append:=@List.nodup_append
theorem Xe:type_of% @Heap.lt_size:=@Heap.lt_size
theorem Xf:type_of% @wpAny_pure:=@wpAny_pure
theorem Xg:type_of% @if_neg:=@if_neg
theorem Xh:type_of% @List.mem_map_of_mem:=@List.mem_map_of_mem
theorem Xi:type_of% @Int.emod_lt_of_pos:=@Int.emod_lt_of_pos
theorem Xj:type_of% @List.length_cons:=@List.length_cons
theorem Xk:type_of% @Heap.get?_push_size:=@Heap.get?_push_size
theorem Xl:type_of% @Nat.le_trans:=@Nat.le_trans
theorem Xm:type_of% @Int.emod_nonneg:=@Int.emod_nonneg
theorem Xn:type_of% @List.not_mem_nil:=@List.not_mem_nil
theorem Xp:type_of% @PySem.W.mg_of:=@PySem.W.mg_of
theorem Xq:type_of% @PySem.W.kia_one:=@PySem.W.kia_one
theorem Xr:type_of% @Nat.ne_of_lt:=@Nat.ne_of_lt
theorem Xs:type_of% @List.append_nil:=@List.append_nil
theorem Xu:type_of% @List.mem_cons:=@List.mem_cons
theorem Xv:type_of% @PySem.W.mg_none_of:=@PySem.W.mg_none_of
theorem Xw:type_of% @List.append_assoc:=@List.append_assoc
theorem Xx:type_of% @List.length_append:=@List.length_append
theorem Xy:type_of% @List.getElem?_set_ne:=@List.getElem?_set_ne
theorem Xz:type_of% @Nat.lt_irrefl:=@Nat.lt_irrefl
theorem Y0:type_of% @wpAny_newObj_type:=@wpAny_newObj_type
theorem Y1:type_of% @List.nodup_nil:=@List.nodup_nil
theorem Y2:type_of% @PySem.mem_of_lookup:=@PySem.mem_of_lookup
theorem Y3:type_of% @List.length_replicate:=@List.length_replicate
theorem Y4:type_of% @List.lookup_cons:=@List.lookup_cons
theorem Y5:type_of% @wpAny_truthy_bool:=@wpAny_truthy_bool
theorem Y6:type_of% @List.getElem?_map:=@List.getElem?_map
theorem Y7:type_of% @decide_eq_true_eq:=@decide_eq_true_eq
theorem Y8:type_of% @List.map_append:=@List.map_append
theorem Y9:type_of% @Heap.get?_update_ne:=@Heap.get?_update_ne
theorem Ya:type_of% @List.getElem?_set_self:=@List.getElem?_set_self
theorem Yb:type_of% @List.map_map:=@List.map_map
theorem Yc:type_of% @PySem.F.plainAttrs_str:=@PySem.F.plainAttrs_str
theorem Yd:type_of% @wpAny_holding:=@wpAny_holding
theorem Ye:type_of% @List.length_take:=@List.length_take
theorem Yf:type_of% @Calls.spliced_cons:=@Calls.spliced_cons
theorem Yg:type_of% @List.flatten_cons:=@List.flatten_cons
theorem Yh:type_of% @List.Sublist.refl:=@List.Sublist.refl
theorem Yi:type_of% @List.length_drop:=@List.length_drop
theorem Yj:type_of% @List.all_eq_true:=@List.all_eq_true
theorem Yk:type_of% @wpAny_field:=@wpAny_field
end
noncomputable section
namespace L2
open PySem PySem.Spec PyProof.Rows
abbrev Key:=Sum Int Str
def vkb:Key->Value->Bool
 |.inl k,v=>Value.isInt k v
 |.inr x,v=>Value.isStrOf x v
def keyH(w:World):Key->Int
 |.inl k=>hashInt k
 |.inr x=>hashStr w x
theorem zJ:∀{k:Key} {v:Value},vkb k v=true->(∃i t,k=Sum.inl i/\v=Value.int i t)\/(∃x t,k=Sum.inr x/\v=Value.str x t)
 |.inl i,v,h=>by
  obtain⟨t,e⟩:=Value.isInt_shape (k:=i) (v:=v) h;exact .inl ⟨i,t,rfl,e⟩
 |.inr x,v,h=>by
  obtain⟨t,e⟩:=Value.isStrOf_shape (x:=x) (v:=v) h;exact .inr ⟨x,t,rfl,e⟩
theorem vka(a b:Int):decide ((Sum.inl a:Key)=Sum.inl b)=(a==b):=by
 by_cases e:a=b
 ·subst e;simp
 ·have h:¬(Sum.inl a:Key)=Sum.inl b:=λq=>e (Sum.inl.inj q)
  rw[X1 h];exact(beq_eq_false_iff_ne.mpr e).symm
theorem vk7(a b:Str):decide ((Sum.inr a:Key)=Sum.inr b)=decide (a=b):=by
 by_cases e:a=b
 ·subst e;simp
 ·have h:¬(Sum.inr a:Key)=Sum.inr b:=λq=>e (Sum.inr.inj q)
  rw[X1 h,X1 e]
theorem vk9(a:Int)(b:Str):decide ((Sum.inl a:Key)=Sum.inr b)=false:=X1 (λq=>nomatch q)
theorem vk8(a:Str)(b:Int):decide ((Sum.inr a:Key)=Sum.inl b)=false:=X1 (λq=>nomatch q)
noncomputable def YY(prog:Program)(w:World):PySem.KeyKind prog w Key where
 is:=vkb
 hash:=keyH w
 inj:=λv a b ha hb=>by
  rcases zJ ha with⟨i,t,rfl,rfl⟩|⟨x,t,rfl,rfl⟩
  ·rcases zJ hb with⟨j,u,rfl,e⟩|⟨y,u,rfl,e⟩
   ·injection e with e1 _;rw[e1]
   ·exact nomatch e
  ·rcases zJ hb with⟨j,u,rfl,e⟩|⟨y,u,rfl,e⟩
   ·exact nomatch e
   ·injection e with e1 _;rw[e1]
 byValue:=λk v h=>by
  rcases zJ h with⟨i,t,rfl,rfl⟩|⟨x,t,rfl,rfl⟩<;>rfl
 pyHash:=λhv h=>by
  rcases zJ hv with⟨i,t,rfl,rfl⟩|⟨x,t,rfl,rfl⟩
  ·exact wpAny_pyHash_int h
  ·exact wpAny_pyHash_str h
 eqBool:=λhu hv h=>by
  rcases zJ hu with⟨i,t,rfl,rfl⟩|⟨x,t,rfl,rfl⟩
  ·rcases zJ hv with⟨j,u,rfl,rfl⟩|⟨y,u,rfl,rfl⟩
   ·rw[vka]at h;exact wpAny_eqBool_int h
   ·rw[vk9]at h;exact SeqAt.EqAt.int_str i t y u _ _ _ _ h
  ·rcases zJ hv with⟨j,u,rfl,rfl⟩|⟨y,u,rfl,rfl⟩
   ·rw[vk8]at h;exact SeqAt.EqAt.str_int x t j u _ _ _ _ h
   ·rw[vk7]at h;exact wpAny_eqBool_str h
 «strs»:=λk x t v h=>by
  rcases zJ h with⟨i,u,rfl,e⟩|⟨y,u,rfl,e⟩
  ·exact nomatch e
  ·injection e with e1 _;subst e1;cases v<;>rfl
inductive V where
 |non|bl (b:Bool)|int (i:Int)|str (x:Str)|byt (b:Array UInt8)|flt (b:UInt64)|ref (a:Addr)|ty (n:String)
 deriving DecidableEq
noncomputable def RelV:V->Value->Prop
 |.non,u=>u=Value.none
 |.bl b,u=>u=Value.bool b
 |.int i,u=>∃t,u=Value.int i t
 |.str x,u=>∃t,u=Value.str x t
 |.byt b,u=>∃t,u=Value.bytes b t
 |.flt b,u=>∃t,u=Value.float b t
 |.ref a,u=>u=Value.ref a
 |.ty n,u=>u=Value.type n
abbrev Vals:List V->List Value->Prop:=Paired RelV
theorem Vals.length{xs:List V}{us:List Value}(r:Vals xs us):xs.length=us.length:=Paired.length r
theorem Vals.get:∀{xs:List V} {us:List Value} {i:Nat} {x:V},Vals xs us->xs[i]?=some x->∃u,us[i]?=some u/\RelV x u
 |_,_,_,_,.nil,e=>by simp at e
 |_,_,0,_,.cons r _,e=>by simp at e;subst e;exact⟨_,rfl,r⟩
 |_,_,i+1,x,.cons _ t,e=>by
  obtain⟨u,h1,h2⟩:=Vals.get (i:=i) (x:=x) t (by simpa using e);exact⟨u,by simpa using h1,h2⟩
theorem Vals.append:∀{xs ys:List V} {us ws:List Value},Vals xs us->Vals ys ws->Vals (xs++ys) (us++ws)
 |_,_,_,_,.nil,s=>s
 |_,_,_,_,.cons r t,s=>.cons r (Vals.append t s)
theorem Vals.take:∀{xs:List V} {us:List Value} (n:Nat),Vals xs us->Vals (xs.take n) (us.take n)
 |_,_,0,_=>.nil
 |_,_,_+1,.nil=>.nil
 |_,_,n+1,.cons r t=>.cons r (Vals.take n t)
theorem Vals.drop:∀{xs:List V} {us:List Value} (n:Nat),Vals xs us->Vals (xs.drop n) (us.drop n)
 |_,_,0,r=>r
 |_,_,_+1,.nil=>.nil
 |_,_,n+1,.cons _ t=>Vals.drop n t
def vwg:Option V->Option Value->Prop
 |some v,some u=>RelV v u
 |none,none=>True
 |_,_=>False
def KV{κ:Type}:List (κ×V)->List (κ×Value)->Prop:=Paired λ(p:κ×V) (q:κ×Value)=>p.1=q.1/\RelV p.2 q.2
def kV:Key->V
 |.inl i=>.int i
 |.inr x=>.str x
inductive HO where
 |lst (xs:List V)
 |tup (xs:List V)
 |dK (ax:List (Key×V))|dT (ax:List (List Key×V))
 |set (S:Int->Bool) (n:Nat)
 |ins (C dx:Addr) (fs:List (Str×V))
 |own (x:Addr)
 |xd (fs:List (Str×V))
 |met (f x:Addr)
 |rng (lo hi:Int)
 |frz (o:Obj) (u:HO)
 |tbl (ps:Array Value)
 |ext (φ:Heap->Prop)
abbrev Hp:=Addr->Option HO
noncomputable def IsTupD(h:Heap)(a:Addr)(items:Array Value):Prop:=∃o,h.get? a=some o/\o.cls=.type "tuple"/\o.dict=none/\∃n,o.data=.seq items n
theorem IsTupD.tup{h:Heap}{a:Addr}{items:Array Value}(p:IsTupD h a items):IsTup h a items:=by
 obtain⟨o,e,c,_,n,d⟩:=p;exact⟨o,e,c,n,d⟩
theorem IsTupD.new(h:Heap)(xs:Array Value):IsTupD (h.push { cls:=.type "tuple",data:=.seq xs }) h.objs.size xs:=⟨_,Xk _ rfl,rfl,rfl,0,rfl⟩
def upd(H:Hp)(a:Addr)(o:HO):Hp:=λb=>if b=a then some o else H b
theorem wq{H:Hp}{a:Addr}{o:HO}:upd H a o a=some o:=by unfold upd;rw[X9 rfl]
theorem kj{H:Hp}{a b:Addr}{o:HO}(h:b≠a):upd H a o b=H b:=by unfold upd;rw[Xg h]
theorem vJ{H:Hp}{a b:Addr}{o:HO}(h:H a=some o)(h':H b=none):a≠b:=by
 intro e;subst e;rw[h]at h';cases h'
section
variable (P:Program)(w:World)
noncomputable def ObjOk(H : Hp)(h : Heap)(a : Addr): HO -> Prop
  |.lst xs=>xs.length<=sizeLine /\ ∃(ai : List Value) (n : Nat), Vals xs ai /\ h.get? a = some { cls:= .type "list", data:= .seq ai.toArray n }
  |.tup xs=>xs.length<=sizeLine /\ ∃ai : List Value, Vals xs ai /\ IsTupD h a ai.toArray
  |.dK ax=>ax.length<=sizeLine /\ (a==sysModules) = false /\ ∃vs, KV ax vs /\ h.DictOf (YY P w) a vs
  |.dT ax=>ax.length<=sizeLine /\ (a==sysModules) = false /\ ∃xs : List (List Key × Addr × Value),
      Paired (λ(p : List Key × V) (q : List Key × Addr × Value)=>p.1 = q.1 /\ H q.2.1 = some (.tup (p.1.map kV)) /\ RelV p.2 q.2.2) ax xs /\
      ∃o es ep, h.get? a = some o /\ o.ExactDict /\ o.data = .dict es ep /\ es.toList = xs.map (entryOfKey (tupleKind (YY P w))) /\ (xs.map (·.1)).Nodup
  |.set S n=>h.SetOf (intKind P w) a S n
  |.ins C dx fs=>H dx = some (.own a) /\ fs.length<=1000 /\ dx≠a /\ h.get? a = some (PySem.W.instObj C dx) /\
      ∃mA, h.Ns1 dx mA /\ (∀f, vwg (fs.lookup f) (mA f)) /\ PySem.Within mA (fs.map (·.1))
  |.own _=> ∃o, h.get? a = some o
  |.xd fs=> ∃mA, h.Ns1 a mA /\ ∀f, vwg (fs.lookup f) (mA f)
  |.rng lo hi=> ∃t u v, h.get? a = some { cls:= .type "range", data:= .fields #[.int lo t, .int hi u, .int 1 v] }
  |.frz o u=>h.get? a = some o /\ ObjOk H h a u
  |.tbl ps=>h.get? a = some { cls:= .none, data:= .fields ps }
  |.met f x=>h.get? a = some (PySem.W.methodObj (.ref f) (.ref x))
  |.ext φ=>φ h /\ (∃o, h.get? a = some o) /\ ∀h1 h2 : Heap, φ h1 -> (∀o, h1.get? a = some o -> h2.get? a = some o) -> φ h2
def HOk(H:Hp)(h:Heap):Prop:=∀a o,H a=some o->ObjOk P w H h a o
end
section
variable {P:Program}{w:World}{H H':Hp}{h h':Heap}{a:Addr}{o:HO}
theorem ObjOk.lt(x:ObjOk P w H h a o):a<h.objs.size:=by
 cases o with
 |lst xs=>obtain⟨_,_,_,_,e⟩:=x;exact Xe e
 |tup xs=>obtain⟨_,_,_,p⟩:=x;exact p.tup.lt
 |dK ax=>obtain⟨_,_,_,_,o,_,_,e,_⟩:=x;exact Xe e
 |dT ax=>obtain⟨_,_,_,_,o,_,_,e,_⟩:=x;exact Xe e
 |set S n=>obtain⟨o,_,_,_,e,_⟩:=x;exact Xe e
 |ins C dx fs=>obtain⟨_,_,_,e,_⟩:=x;exact Xe e
 |own y=>obtain⟨_,e⟩:=x;exact Xe e
 |xd fs=>obtain⟨_,⟨_,_,_,e,_⟩,_⟩:=x;exact Xe e
 |rng lo hi=>obtain⟨_,_,_,e⟩:=x;exact Xe e
 |frz ob u=>obtain⟨e,_⟩:=x;exact Xe e
 |tbl ps=>exact Xe (show h.get? a=some _ from x)
 |met f y=>exact Xe (show h.get? a=some _ from x)
 |ext φ=>obtain⟨_,⟨_,e⟩,_⟩:=x;exact Xe e
theorem Paired.mapP{α β:Type}{F G:α->β->Prop}:∀{l₁:List α} {l₂:List β},Paired F l₁ l₂->(∀a b,F a b->G a b)->Paired G l₁ l₂
 |_,_,.nil,_=>.nil
 |_,_,.cons r t,f=>.cons (f _ _ r) (Paired.mapP t f)
theorem ObjOk.stay(x:ObjOk P w H h a o)(k:∀b u,(b=a\/H b=some (.own a))->h.get? b=some u->h'.get? b=some u)
  (ho:∀b,H b=some (.own a)->H' b=some (.own a)) (ht:∀b xs,H b=some (.tup xs)->H' b=some (.tup xs)):ObjOk P w H' h' a o:=by
 induction o with
 |lst xs=>obtain⟨z,ai,n,r,e⟩:=x;exact⟨z,ai,n,r,k _ _ (.inl rfl) e⟩
 |tup xs=>obtain⟨z,ai,r,ob,e,c⟩:=x;exact⟨z,ai,r,ob,k _ _ (.inl rfl) e,c⟩
 |dK ax=>obtain⟨z,y,vs,r,ob,es,ep,e,c⟩:=x;exact⟨z,y,vs,r,ob,es,ep,k _ _ (.inl rfl) e,c⟩
 |dT ax=>
  obtain⟨z,y,xs,r,ob,es,ep,e,c⟩:=x;exact⟨z,y,xs,Paired.mapP r λp q z=>⟨z.1,ht _ _ z.2.1,z.2.2⟩,ob,es,ep,k _ _ (.inl rfl) e,c⟩
 |set S n=>obtain⟨ob,es,ep,t,e,c⟩:=x;exact⟨ob,es,ep,t,k _ _ (.inl rfl) e,c⟩
 |ins C dx fs=>
  obtain⟨d,z,ne,e,mA,⟨od,es,ep,e2,c⟩,r⟩:=x;exact⟨ho _ d,z,ne,k _ _ (.inl rfl) e,mA,⟨od,es,ep,k _ _ (.inr d) e2,c⟩,r⟩
 |own y=>obtain⟨ob,e⟩:=x;exact⟨ob,k _ _ (.inl rfl) e⟩
 |xd fs=>obtain⟨mA,⟨od,es,ep,e,c⟩,r⟩:=x;exact⟨mA,⟨od,es,ep,k _ _ (.inl rfl) e,c⟩,r⟩
 |rng lo hi=>obtain⟨t,u,v,e⟩:=x;exact⟨t,u,v,k _ _ (.inl rfl) e⟩
 |frz ob u ih=>obtain⟨e,q⟩:=x;exact⟨k _ _ (.inl rfl) e,ih q⟩
 |tbl ps=>
  have e:h.get? a=some { cls:=.none,data:=.fields ps }:=x;show h'.get? a=some { cls:=.none,data:=.fields ps };exact k a _ (.inl rfl) e
 |met f y=>
  have e:h.get? a=some (PySem.W.methodObj (.ref f) (.ref y)):=x;show h'.get? a=some (PySem.W.methodObj (.ref f) (.ref y));exact k a _ (.inl rfl) e
 |ext φ=>obtain⟨p,⟨o,e⟩,st⟩:=x;exact⟨st _ _ p λo q=>k _ _ (.inl rfl) q,⟨o,k _ _ (.inl rfl) e⟩,st⟩
theorem HOk.lt(x:HOk P w H h)(e:H a=some o):a<h.objs.size:=(x a o e).lt
theorem HOk.fresh(x:HOk P w H h)(e:h.objs.size<=a):H a=none:=by
 cases q:H a with
 |none=>rfl
 |some u=>exact absurd (Xa (x.lt q) e) (Xz _)
theorem HOk.kept(x:HOk P w H h)(k:∀b u,h.get? b=some u->h'.get? b=some u):HOk P w H h':=λa o e=>
 (x a o e).stay (λb u _ q=>k b u q) (λ_ q=>q) λ_ _ q=>q
theorem HOk.laid(x:HOk P w H h)(k:∀b u,h.get? b=some u->h'.get? b=some u)(hp:h.objs.size<=a)(new:ObjOk P w (upd H a o) h' a o):HOk P w (upd H a o) h':=λb u e=>by
 have hn:=x.fresh hp
 by_cases hb:b=a
 ·subst hb;rw[wq]at e;cases e;exact new
 ·rw[kj hb]at e;exact(x b u e).stay (λc v _ q=>k c v q) (λc q=>by rw[kj (vJ q hn)];exact q) λc xs q=>by rw[kj (vJ q hn)];exact q
end
def Rd(H:Hp)(a:Addr)(u:HO):Prop:=H a=some u\/∃o,H a=some (.frz o u)
theorem Rd.ok{P:Program}{w:World}{H:Hp}{h:Heap}{a:Addr}{u:HO}(r:Rd H a u)(x:HOk P w H h):ObjOk P w H h a u:=by
 rcases r with r|⟨o,r⟩
 ·exact x a u r
 ·obtain⟨_,q⟩:=x a _ r;exact q
noncomputable def Mut:Option HO->Prop
 |some (.lst _)=>True
 |some (.dK _)=>True
 |some (.dT _)=>True
 |some (.set _ _)=>True
 |some (.ins _ _ _)=>True
 |some (.ext _)=>True
 |_=>False
section
variable {P:Program}{w:World}{H:Hp}{h h':Heap}{x e:Addr}{o':HO}
theorem HOk.write(ok:HOk P w H h)(mu:Mut (H x))(he:e=x\/H e=some (.own x))(k:∀b u,b≠e->h.get? b=some u->h'.get? b=some u)(i':∃u,h'.get? e=some u)
  (new:ObjOk P w (upd H x o') h' x o'):HOk P w (upd H x o') h':=λb u q=>by
 have li:∀c y,H c=some (.own y)->c≠x:=λc y r z=>by subst z;rw[r]at mu;exact mu
 have ntup:∀c xs,H c=some (.tup xs)->c≠x:=λc xs r z=>by subst z;rw[r]at mu;exact mu
 by_cases hb:b=x
 ·subst hb;rw[wq]at q;cases q;exact new
 ·rw[kj hb]at q
  by_cases hbe:b=e
  ·have q':H b=some (.own x):=by
    rcases he with z|z
    ·exact absurd (hbe.trans z) hb
    ·rw[hbe];exact z
   rw[q]at q';cases q';obtain⟨v,hv⟩:=i';exact⟨v,by rw[hbe];exact hv⟩
  ·refine(ok b u q).stay (λc v hc r=>k c v ?_ r) (λc r=>by rw[kj (li c b r)];exact r) λc xs r=>by rw[kj (ntup c xs r)];exact r
   rcases hc with rfl|hc
   ·exact hbe
   ·rintro rfl;rcases he with z|z
    ·exact li c b hc z
    ·rw[hc]at z;cases z;exact hb rfl
end
structure Un (fs ex:List Addr)(H H':Hp)(h h':Heap):Prop where
 keep:∀b o,h.get? b=some o->H b=none->b∉fs->b∉ex->h'.get? b=some o
 slot:∀b o,h.get? b=some o->H b=none->b∈fs->b∉ex->∃sl,h'.get? b=some { o with slots:=sl }
 free:∀b o,h.get? b=some o->H b=none->b∉ex->H' b=none
 there:∀b o,h.get? b=some o->b∉ex->∃o',h'.get? b=some o'
 tups:∀b xs,H b=some (.tup xs)->H' b=some (.tup xs)
 frzs:∀b o u,H b=some (.frz o u)->H' b=some (.frz o u)
 tbls:∀b ps,H b=some (.tbl ps)->∃et,H' b=some (.tbl (ps++et))
section
variable {fs fs' ex ex':List Addr}{H H1 H2:Hp}{h h1 h2 h':Heap}{a x e:Addr}{o:HO}
theorem Un.any(u:Un fs ex H H1 h h1){b:Addr}{ob:Obj}(q:h.get? b=some ob)(n:H b=none)(hx:b∉ex):∃sl,h1.get? b=some { ob with slots:=sl }:=by
 by_cases hb:b∈fs
 ·exact u.slot b ob q n hb hx
 ·exact⟨ob.slots,u.keep b ob q n hb hx⟩
theorem Un.kept(k:∀b u,h.get? b=some u->h'.get? b=some u):Un fs ex H H h h':=
 ⟨λb ob q _ _ _=>k b ob q,λb ob q _ _ _=>⟨ob.slots,k b ob q⟩,λ_ _ _ n _=>n,λb ob q _=>⟨ob,k b ob q⟩,λ_ _ q=>q,λ_ _ _ q=>q,λ_ ps q=>⟨#[],by rw[q];simp⟩⟩
theorem Un.refl:Un fs ex H H h h:=Un.kept λ_ _ q=>q
theorem Un.laid(k:∀b u,h.get? b=some u->h'.get? b=some u)(hp:h.objs.size<=a)(hn:H a=none):Un fs ex H (upd H a o) h h' where
 keep:=λb u q _ _ _=>k b u q
 slot:=λb u q _ _ _=>⟨u.slots,k b u q⟩
 free:=λb u q n _=>by rw[kj (Xr (Xa (Xe q) hp))];exact n
 there:=λb u q _=>⟨u,k b u q⟩
 tups:=λb xs q=>by rw[kj (vJ q hn)];exact q
 frzs:=λb u xs q=>by rw[kj (vJ q hn)];exact q
 tbls:=λb ps q=>⟨#[],by rw[kj (vJ q hn),q];simp⟩
theorem Un.write(mu:Mut (H x))(he:e=x\/H e=some (.own x))(k:∀b u,b≠e->h.get? b=some u->h'.get? b=some u)(i':∃u,h'.get? e=some u):Un fs ex H (upd H x o) h h':=by
 have hx:∀b,H b=none->b≠x:=λb n z=>by subst z;rw[n]at mu;exact mu
 have hb:∀b,H b=none->b≠e:=λb n z=>by
  subst z;rcases he with r|r
  ·exact hx b n r
  ·rw[n]at r;cases r
 have hm:∀b u,H b=some u->¬Mut (some u)->b≠x:=λb u q nm z=>by subst z;rw[q]at mu;exact nm mu
 refine⟨λb u q n _ _=>k b u (hb b n) q,λb u q n _ _=>⟨u.slots,k b u (hb b n) q⟩,λb u q n _=>by rw[kj (hx b n)];exact n,λb u q _=>?_,
  λb xs q=>by rw[kj (hm b _ q λz=>z)];exact q,λb u xs q=>by rw[kj (hm b _ q λz=>z)];exact q,λb ps q=>⟨#[],by rw[kj (hm b _ q λz=>z),q];simp⟩⟩
 by_cases hbe:b=e
 ·subst hbe;exact i'
 ·exact⟨u,k b u hbe q⟩
end
def trk(h:Heap)(H:Hp):List Addr:=(List.range h.objs.size).filter λa=>(H a).isSome
def z9(h:Heap)(H:Hp):Heap:=PySem.W.hideAll h (trk h H)
theorem kz5(h:Heap)(H:Hp):(z9 h H).objs.size=h.objs.size:=PySem.W.hideAll_size _ _
theorem qkg{h:Heap}{H:Hp}{b:Addr}{o:Obj}(e:h.get? b=some o)(n:H b=none):(z9 h H).get? b=some o:=
 PySem.W.hideAll_get _ e λhm=>by
  have q:(H b).isSome=true:=(List.mem_filter.mp hm).2;rw[n]at q;simp at q
theorem qwg{h:Heap}{H:Hp}{b:Addr}{o:Obj}(e:(z9 h H).get? b=some o):h.get? b=some o/\H b=none:=by
 have e':h.get? b=some o:=PySem.W.of_hideAll (trk h H) e;refine⟨e',?_⟩;cases q:H b with
 |none=>rfl
 |some x=>
  have hm:b∈trk h H:=List.mem_filter.mpr ⟨List.mem_range.mpr (Xe e'),by simp[q]⟩;have z:(z9 h H).get? b=none:=PySem.W.hideAll_none (trk h H) hm;rw[z]at e;cases e
noncomputable def qxe(g h:Heap)(L:Addr):List (Addr×Obj):=(List.range h.objs.size).filterMap λa=>if a=L\/(g.get? a).isSome=true then none else(h.get? a).map λo=>(a,o)
def jv(g h:Heap)(L d:Addr):List (Addr×Obj):=(qxe g h L).filter λp=>decide (p.1≠d)
structure Mod (K:PySem.W.Frag)(mg:Str->Option Value)(base:Heap):Prop where
 kin:K.In base
 glob:base.Ns mainGlobals mg
 blt:∃mb,base.Ns builtinsNs mb/\∀x:Str,x≠"__name__"->mb x=bootBuiltins x
 nolimit:base.NoLimit
structure Cx where
 prog:Program
 w:World
 K:PySem.W.Frag
 mg:Str->Option Value
 base:Heap
 A:Around
 N:List Str
 s₀:Shared
 H₀:Hp
 env:Env
 outer:List Env
 stack:List Env
 ex:List Addr
 fn:Str->Bool
 calm:Bool
 pn:List (Addr×Obj)
 xe:Value->Shared->Prop
def frs(l:List Env):List Addr:=l.filterMap (·.frame)
abbrev Cx.fs(X:Cx):List Addr:=frs X.outer
noncomputable def Vis(sc:Scope)(x:Str):Prop:=sc.names.lookup x=some .local\/sc.names.lookup x=some .cell\/sc.names.lookup x=some .free
def Loc(sc:Scope)(x:Str):Prop:=sc.names.lookup x=some .local\/sc.names.lookup x=some .cell
noncomputable def vxk(env:Env)(h:Heap)(m:Str->Option Value)(x:Str)(u:Value):Prop:=
 (env.kindOf x=some .local/\m x=some u)\/((env.kindOf x=some .cell\/env.kindOf x=some .free)/\∃c,env.cells.lookup x=some c/\h.IsCell c (some u))
structure Cx.Ok (X:Cx):Prop where
 mod:Mod X.K X.mg X.base
 kind:X.env.scope.kind=.function
 glob:X.env.globals=mainGlobals
 blt:X.env.builtins=builtinsNs
 above:X.s₀.heap.objs.size<=X.env.locals
 inj:∀x y c,X.env.cells.lookup x=some c->X.env.cells.lookup y=some c->x=y
 has:∀x,(X.env.kindOf x=some .cell\/X.env.kindOf x=some .free)->∃c,X.env.cells.lookup x=some c
 cab:∀x c,X.fn x=true->X.env.cells.lookup x=some c->X.s₀.heap.objs.size<=c
 hd:X.calm=true->X.A.handled=none
 frames:X.A.frames=some X.stack
 stk:X.stack=X.outer\/(X.stack=X.env::X.outer/\X.env.frame=some X.env.locals)
 exf:∀b∈X.ex,b≠X.env.locals/\∀x c,X.env.cells.lookup x=some c->c≠b
 bs:∀b o,X.base.get? b=some o->X.s₀.heap.get? b=some o/\X.H₀ b=none
 bsz:X.base.objs.size<=X.s₀.heap.objs.size
 noex:∀b o,X.base.get? b=some o->b∉X.ex
 exfs:∀b∈X.ex,b∉X.fs
 funs:X.s₀.heap.FunFrames X.base X.outer
 frf:∀b∈X.fs,X.H₀ b=none
structure Inv (X:Cx)(pins:List (Addr×Obj))(σ:List (Option V))(H:Hp)(s:Shared):Prop where
 ok:X.Ok
 os:s.os=X.s₀.os
 bare:AllBare s.gens
 base:Un X.fs X.ex X.H₀ H X.s₀.heap s.heap
 loc:∃m,s.heap.Ns X.env.locals m/\∀(i:Nat) (x:Str) (v:V),X.N[i]?=some x->σ[i]?=some (some v)->Vis X.env.scope x->∃u,RelV v u/\vxk X.env s.heap m x u
 cell:∀x c,X.env.cells.lookup x=some c->∃v,s.heap.IsCell c v
 free:H X.env.locals=none
 freeC:∀x c,X.env.cells.lookup x=some c->H c=none
 pin:∀p∈X.pn++pins,s.heap.get? p.1=some p.2/\H p.1=none/\p.1≠X.env.locals/\p.1∉X.fs/\∀v,p.2.data≠.cell v
 hok:HOk X.prog X.w H s.heap
 len:σ.length=X.N.length
section
variable {X:Cx}{pins:List (Addr×Obj)}{σ:List (Option V)}{H H':Hp}{s:Shared}{h':Heap}
theorem Cx.Ok.nofr(ok:X.Ok){b:Addr}{o:Obj}(e:X.base.get? b=some o):b∉X.fs:=λhb=>by
 have:=(ok.funs.mem hb).1;rw[e]at this;cases this
theorem Inv.bs(I:Inv X pins σ H s):∀b o,X.base.get? b=some o->s.heap.get? b=some o/\H b=none:=λb o e=>
 ⟨I.base.keep b o (I.ok.bs b o e).1 (I.ok.bs b o e).2 (I.ok.nofr e) (I.ok.noex b o e),I.base.free b o (I.ok.bs b o e).1 (I.ok.bs b o e).2 (I.ok.noex b o e)⟩
theorem Inv.bk(I:Inv X pins σ H s):∀b o,X.base.get? b=some o->s.heap.get? b=some o:=λb o e=>(I.bs b o e).1
theorem Inv.mod(I:Inv X pins σ H s):Mod X.K X.mg X.base:=I.ok.mod
theorem Inv.kIn(I:Inv X pins σ H s):X.K.In s.heap:=I.ok.mod.kin.keeps I.bk
theorem Inv.lt(I:Inv X pins σ H s):X.env.locals<s.heap.objs.size:=let ⟨_,hn,_⟩:=I.loc;hn.lt
theorem Inv.sz(I:Inv X pins σ H s):X.s₀.heap.objs.size<=s.heap.objs.size:=Xl I.ok.above (Nat.le_of_lt I.lt)
theorem Inv.nofs(I:Inv X pins σ H s){a:Addr}(h:s.heap.objs.size<=a):a∉X.fs:=λhb=>by
 obtain⟨_,o,ho,_⟩:=I.ok.funs.mem hb;exact absurd (Xa (Xe ho) (Xl I.sz h)) (Xz _)
theorem Inv.cne(I:Inv X pins σ H s):∀x c,X.env.cells.lookup x=some c->c≠X.env.locals:=λx c e z=>by
 obtain⟨v,o,ho,hd⟩:=I.cell x c e;obtain⟨m,⟨o',es,ep,fb,jh,_⟩,_⟩:=I.loc;rw[z,fb]at ho;cases ho;rw[jh]at hd;cases hd
theorem Inv.funs(I:Inv X pins σ H s):s.heap.FunFrames X.base X.outer:=by
 have all:∀(l:List Env),(∀b∈frs l,b∈X.fs)->X.s₀.heap.FunFrames X.base l->s.heap.FunFrames X.base l:=by
  intro l
  induction l with
  |nil=>intro _ _;trivial
  |cons env r ih=>
   intro hs hl;obtain⟨hk,⟨L,o,hf,hn,ho,hd⟩,hr⟩:=hl;have hL:L∈X.fs:=hs L (by unfold frs;rw[List.filterMap_cons,hf];exact X3);obtain⟨sl,e⟩:=I.base.slot L o ho (I.ok.frf L hL) hL λz=>I.ok.exfs L z hL
   exact⟨hk,⟨L,_,hf,hn,e,hd⟩,ih (λb hb=>hs b (by unfold frs;rw[List.filterMap_cons,hf];exact lc9 _ hb)) hr⟩
 exact all X.outer (λ_ hb=>hb) I.ok.funs
theorem Inv.stack(I:Inv X pins σ H s):s.heap.FunFrames X.base X.stack:=by
 rcases I.ok.stk with e|⟨e,hf⟩
 ·rw[e];exact I.funs
 ·rw[e];obtain⟨m,hn,_⟩:=I.loc;refine .cons (by rw[I.ok.kind];decide) hf hn ?_ I.funs;exact Heap.get?_none_of_le (Xl I.ok.bsz I.ok.above)
theorem Inv.stkSub(I:Inv X pins σ H s):∀b∈frs X.stack,b∈X.env.locals::X.fs:=λb hb=>by
 rcases I.ok.stk with e|⟨e,hf⟩
 ·rw[e]at hb;exact lc9 _ hb
 ·rw[e]at hb;unfold frs at hb;rw[List.filterMap_cons,hf]at hb;exact hb
theorem Inv.stkFree(I:Inv X pins σ H s):∀b∈frs X.stack,H b=none:=λb hb=>by
 rcases List.mem_cons.mp (I.stkSub b hb)with e|hb
 ·rw[e];exact I.free
 ·obtain⟨_,o,ho,_⟩:=I.ok.funs.mem hb;exact I.base.free b o ho (I.ok.frf b hb) λz=>I.ok.exfs b z hb
theorem Inv.step{g':Array GenState}{t':Nat}{d':Drawn}{ch:List Addr}(I:Inv X pins σ H s)
  (d9:∀b∈ch,(b∈X.ex\/X.s₀.heap.objs.size<=b)/\b≠X.env.locals/\(∀x c,X.env.cells.lookup x=some c->c≠b)/\∀p∈X.pn++pins,p.1≠b)
  (keep:∀b o,b≠X.env.locals->b∉X.fs->b∉ch->s.heap.get? b=some o->H b=none->h'.get? b=some o)
  (slot:∀b o,b≠X.env.locals->b∈X.fs->b∉ch->s.heap.get? b=some o->H b=none->∃sl,h'.get? b=some { o with slots:=sl }) (free:∀b o,b∉ch->s.heap.get? b=some o->H b=none->H' b=none)
  (there:∀b o,b∉ch->s.heap.get? b=some o->∃o',h'.get? b=some o')
  (tups:∀b xs,H b=some (.tup xs)->H' b=some (.tup xs)) (frzs:∀b o u,H b=some (.frz o u)->H' b=some (.frz o u)) (tbls:∀b ps,H b=some (.tbl ps)->∃et,H' b=some (.tbl (ps++et)))
  (ns:∀m,s.heap.Ns X.env.locals m->h'.Ns X.env.locals m) (hok:HOk X.prog X.w H' h') (hg:AllBare g'):
  Inv X pins σ H' { s with heap:=h',gens:=g',drawn:=d',toks:=t' }:=by
 have lp:∀b o,X.s₀.heap.get? b=some o->b≠X.env.locals:=λb o e=>Xr (Xa (Xe e) I.ok.above)
 have gz:∀b o,X.s₀.heap.get? b=some o->b∉X.ex->b∉ch:=λb o e hx hb=>by
  rcases(d9 b hb).1 with z|z
  ·exact hx z
  ·exact absurd (Xa (Xe e) z) (Xz _)
 have dz:∀x c,X.env.cells.lookup x=some c->∀v,s.heap.IsCell c v->h'.IsCell c v:=λx c e v ⟨o,ho,hd⟩=>by
  have fw:c∉ch:=λz=>(d9 c z).2.2.1 x c e rfl
  by_cases hc:c∈X.fs
  ·obtain⟨sl,q⟩:=slot c o (I.cne x c e) hc fw ho (I.freeC x c e);exact⟨_,q,hd⟩
  ·exact⟨o,keep c o (I.cne x c e) hc fw ho (I.freeC x c e),hd⟩
 refine⟨I.ok,I.os,hg,⟨λb o e n hb hx=>?_,λb o e n hb hx=>?_,λb o e n hx=>?_,λb o e hx=>?_,λb xs e=>tups b xs (I.base.tups b xs e),λb o xs e=>frzs b o xs (I.base.frzs b o xs e),λb ps e=>?_⟩,?_,λx c e=>?_,?_,λx c e=>?_,λp hp=>?_,hok,I.len⟩
 ·exact keep b o (lp b o e) hb (gz b o e hx) (I.base.keep b o e n hb hx) (I.base.free b o e n hx)
 ·obtain⟨sl,e1⟩:=I.base.slot b o e n hb hx;obtain⟨sl',e2⟩:=slot b _ (lp b o e) hb (gz b o e hx) e1 (I.base.free b o e n hx);exact⟨sl',e2⟩
 ·obtain⟨o',e1⟩:=I.base.there b o e hx;exact free b o' (gz b o e hx) e1 (I.base.free b o e n hx)
 ·obtain⟨o',e1⟩:=I.base.there b o e hx;exact there b o' (gz b o e hx) e1
 ·obtain⟨m1,e1⟩:=I.base.tbls b ps e;obtain⟨m2,e2⟩:=tbls b _ e1;exact⟨m1++m2,by rw[e2,Array.append_assoc]⟩
 ·obtain⟨m,hn,hl⟩:=I.loc;refine⟨m,ns m hn,λi x v e1 e2 e3=>?_⟩;obtain⟨u,r,l⟩:=hl i x v e1 e2 e3;refine⟨u,r,?_⟩;rcases l with l|⟨k,c,e,z⟩
  ·exact .inl l
  ·exact .inr ⟨k,c,e,dz x c e _ z⟩
 ·obtain⟨v,z⟩:=I.cell x c e;exact⟨v,dz x c e v z⟩
 ·obtain⟨m,⟨o,_,_,ho,_⟩,_⟩:=I.loc;exact free _ o (λz=>(d9 _ z).2.1 rfl) ho I.free
 ·obtain⟨v,o,ho,hd⟩:=I.cell x c e;exact free c o (λz=>(d9 c z).2.2.1 x c e rfl) ho (I.freeC x c e)
 ·obtain⟨e,n,ne,nf,d⟩:=I.pin p hp;have fw:p.1∉ch:=λz=>(d9 p.1 z).2.2.2 p hp rfl
  exact⟨keep p.1 p.2 ne nf fw e n,free p.1 p.2 fw e n,ne,nf,d⟩
theorem Inv.un{t':Nat}(I:Inv X pins σ H s)(u:Un X.fs [] H H' s.heap h')(hok:HOk X.prog X.w H' h'):Inv X pins σ H' { s with heap:=h',toks:=t' }:=by
 obtain⟨m,⟨o,es,ep,ho,r⟩,_⟩:=id I.loc;obtain⟨sl,hL⟩:=u.any ho I.free (by simp);exact I.step (g':=s.gens) (d':=s.drawn) (ch:=[]) (λ_ z=>nomatch z) (λb o _ hb _ e n=>u.keep b o e n hb (by simp)) (λb o _ hb _ e n=>u.slot b o e n hb (by simp)) (λb o _ e n=>u.free b o e n (by simp)) (λb o _ e=>u.there b o e (by simp)) u.tups u.frzs u.tbls (λm' hm=>by
  obtain⟨o',ic,kh,fb,r'⟩:=hm;rw[ho]at fb;cases fb;exact⟨_,ic,kh,hL,r'⟩) hok I.bare
theorem Inv.call{g':Array GenState}{t':Nat}{d':Drawn}{ch:List Addr}(I:Inv X pins σ H s)(u:Un (frs X.stack) ch H H' s.heap h')(hok:HOk X.prog X.w H' h')(hg:AllBare g')
  (d9:∀b∈ch,(b∈X.ex\/X.s₀.heap.objs.size<=b)/\b≠X.env.locals/\(∀x c,X.env.cells.lookup x=some c->c≠b)/\∀p∈X.pn++pins,p.1≠b):
  Inv X pins σ H' { s with heap:=h',gens:=g',drawn:=d',toks:=t' }:=by
 obtain⟨m,⟨o,es,ep,ho,r⟩,_⟩:=id I.loc;obtain⟨sl,hL⟩:=u.any ho I.free λz=>(d9 _ z).2.1 rfl
 exact I.step (ch:=ch) d9 (λb o hL hb hc e n=>u.keep b o e n (λz=>(List.mem_cons.mp (I.stkSub b z)).elim hL hb) hc) (λb o _ _ hc e n=>u.any e n hc) (λb o hc e n=>u.free b o e n hc) (λb o hc e=>u.there b o e hc) u.tups u.frzs u.tbls (λm' hm=>by
  obtain⟨o',ic,kh,fb,r'⟩:=hm;rw[ho]at fb;cases fb;exact⟨_,ic,kh,hL,r'⟩) hok hg
theorem Inv.turned{t':Nat}{it:Addr}(I:Inv X pins σ H s)(k:∀b o,b≠it->s.heap.get? b=some o->h'.get? b=some o)(hn:H it=none)(hL:it≠X.env.locals)
  (h1:it∈X.ex\/X.s₀.heap.objs.size<=it) (h2:∀x c,X.env.cells.lookup x=some c->c≠it) (h3:∀p∈X.pn++pins,p.1≠it):Inv X pins σ H { s with heap:=h',toks:=t' }:=by
 have jg:∀b u,H b=some u->b≠it:=λb u e z=>by rw[z,hn]at e;cases e
 refine I.step (g':=s.gens) (d':=s.drawn) (ch:=[it]) (λb hb=>?_) (λb o _ _ hc e _=>k b o (λz=>hc (by simp[z])) e) (λb o _ _ hc e _=>⟨o.slots,k b o (λz=>hc (by simp[z])) e⟩) (λ_ _ _ _ n=>n)
  (λb o hc e=>⟨o,k b o (λz=>hc (by simp[z])) e⟩) (λ_ _ e=>e) (λ_ _ _ e=>e) (λb ps e=>⟨#[],by rw[e];simp⟩) (λm hm=>?_) (λb u e=>?_) I.bare
 ·have e:b=it:=by simpa using hb
  subst e;exact⟨h1,hL,h2,h3⟩
 ·obtain⟨o,es,ep,ho,r⟩:=hm;exact⟨o,es,ep,k _ o (Ne.symm hL) ho,r⟩
 ·refine(I.hok b u e).stay (λc v hc q=>k c v ?_ q) (λ_ q=>q) λ_ _ q=>q
  rcases hc with z|z
  ·rw[z];exact jg b u e
  ·exact jg c _ z
theorem Inv.tok(I:Inv X pins σ H s)(t:Nat):Inv X pins σ H { s with toks:=t }:=I.un (h':=s.heap) (t':=t) Un.refl I.hok
theorem Inv.kept{t':Nat}(I:Inv X pins σ H s)(k:∀b u,s.heap.get? b=some u->h'.get? b=some u):Inv X pins σ H { s with heap:=h',toks:=t' }:=I.un (Un.kept k) (I.hok.kept k)
theorem Inv.laid{a:Addr}{o:HO}{t':Nat}(I:Inv X pins σ H s)(k:∀b u,s.heap.get? b=some u->h'.get? b=some u)(hp:s.heap.objs.size<=a)(new:ObjOk X.prog X.w (upd H a o) h' a o):
  Inv X pins σ (upd H a o) { s with heap:=h',toks:=t' }:=I.un (Un.laid k hp (I.hok.fresh hp)) (I.hok.laid k hp new)
theorem Inv.write{x e:Addr}{o:HO}{t':Nat}(I:Inv X pins σ H s)(mu:Mut (H x))(he:e=x\/H e=some (.own x))(k:∀b u,b≠e->s.heap.get? b=some u->h'.get? b=some u)(i':∃u,h'.get? e=some u)
  (new:ObjOk X.prog X.w (upd H x o) h' x o):Inv X pins σ (upd H x o) { s with heap:=h',toks:=t' }:=I.un (Un.write mu he k i') (I.hok.write mu he k i' new)
theorem Inv.pins_of{cb:List (Addr×Obj)}(I:Inv X pins σ H s)(h:∀p∈cb,s.heap.get? p.1=some p.2/\H p.1=none/\p.1≠X.env.locals/\p.1∉X.fs/\∀v,p.2.data≠.cell v):Inv X cb σ H s:=
 ⟨I.ok,I.os,I.bare,I.base,I.loc,I.cell,I.free,I.freeC,λp hp=>(List.mem_append.mp hp).elim (λz=>I.pin p (ll9 _ z)) (h p),I.hok,I.len⟩
theorem jzx{N:List Str}(hN:N.Nodup){i j:Nat}{x:Str}(a:N[i]?=some x)(b:N[j]?=some x):i=j:=by
 obtain⟨h1,e1⟩:=List.getElem?_eq_some_iff.mp a;obtain⟨h2,e2⟩:=List.getElem?_eq_some_iff.mp b;exact(List.getElem_inj hN).mp (e1.trans e2.symm)
theorem kwi{M:Model}{A:Around}{E:Value->Shared->Prop}{i:Nat}{x:Str}{v:V}{u:Value}{Q:Unit->Shared->Prop}(I:Inv X pins σ H s)(hN:X.N.Nodup)(hi:X.N[i]?=some x)(hx:Loc X.env.scope x)(r:RelV v u)
  (h:∀s',Inv X pins (σ.set i (some v)) H s'->(∃a,Heap.SameBut a s.heap s'.heap/\(a=X.env.locals\/X.env.cells.lookup x=some a))->Q () s') (hf:autoParam (X.fn x=true\/X.env.scope.names.lookup x=some .local) Ř):wpAny M A (storeName X.env x u) Q E s:=by
 obtain⟨m,hn,hl⟩:=id I.loc;have ip:(X.env.scope.kind == .class||(X.env.scope.kind == .module&&X.env.locals != X.env.globals))=false:=by rw[I.ok.kind];rfl
 have lm:i < σ.length:=by rw[I.len];exact(List.getElem?_eq_some_iff.mp hi).1
 have cne:=I.cne;have ff:∀{a:Addr} {h':Heap},(∃o,s.heap.get? a=some o/\H a=none)->Heap.SameBut a s.heap h'->HOk X.prog X.w H h':=fun {a h'} ha hs b ob e=>by
  obtain⟨_,_,bn⟩:=ha;refine(I.hok b ob e).stay (λc w' hc q=>(hs.2 c ?_).trans q) (λ_ q=>q) λ_ _ q=>q
  rintro rfl;rcases hc with rfl|hc
  ·rw[bn]at e;cases e
  ·rw[bn]at hc;cases hc
 rcases hx with hk|hk
 ·refine wpAny_storeName_local hk hn (λh' ka hs=>?_) ip;obtain⟨oL,_,_,hoL,_⟩:=id hn;refine h _ ⟨I.ok,I.os,I.bare,⟨λb o e n hb hx=>?_,λb o e n hb hx=>?_,I.base.free,λb o e hx=>?_,I.base.tups,I.base.frzs,I.base.tbls⟩,⟨_,ka,λj y v' e1 e2 e3=>?_⟩,λy c e=>?_,I.free,I.freeC,λp hp=>?_,ff ⟨oL,hoL,I.free⟩ hs,by simpa using I.len⟩ ⟨_,hs,.inl rfl⟩
  ·exact(hs.2 b (Xr (Xa (Xe e) I.ok.above))).trans (I.base.keep b o e n hb hx)
  ·obtain⟨sl,e1⟩:=I.base.slot b o e n hb hx;exact⟨sl,(hs.2 b (Xr (Xa (Xe e) I.ok.above))).trans e1⟩
  ·obtain⟨o',e1⟩:=I.base.there b o e hx;exact⟨o',(hs.2 b (Xr (Xa (Xe e) I.ok.above))).trans e1⟩
  ·by_cases hj:j=i
   ·subst hj;rw[hi]at e1;cases e1;rw[Ya lm]at e2;cases e2;exact⟨u,r,.inl ⟨hk,by simp⟩⟩
   ·rw[Xy (Ne.symm hj)]at e2;obtain⟨u',r',q⟩:=hl j y v' e1 e2 e3;refine⟨u',r',?_⟩;rcases q with⟨k,e⟩|⟨k,c,e,z⟩
    ·refine .inl ⟨k,?_⟩;have:y≠x:=λe=>hj (jzx hN e1 (e▸hi))
     simp[this,e]
    ·exact .inr ⟨k,c,e,z.sameBut hs (cne y c e)⟩
  ·obtain⟨w',z⟩:=I.cell y c e;exact⟨w',z.sameBut hs (cne y c e)⟩
  ·obtain⟨e,n,ne,nf,d⟩:=I.pin p hp;exact⟨(hs.2 p.1 ne).trans e,n,ne,nf,d⟩
 ·have hfn:X.fn x=true:=by
   rcases hf with z|z
   ·exact z
   ·rw[z]at hk;cases hk
  obtain⟨c,hc⟩:=I.ok.has x (.inl hk);obtain⟨w',z⟩:=I.cell x c hc;refine wpAny_storeName_cell I.ok.kind hk hc z (λh' i9 hs=>?_);obtain⟨oc,hoc,hocd⟩:=id z;refine h { s with heap:=h' } ⟨I.ok,I.os,I.bare,⟨λb o e n hb hx=>?_,λb o e n hb hx=>?_,I.base.free,λb o e hx=>?_,I.base.tups,I.base.frzs,I.base.tbls⟩,⟨m,hn.sameBut hs (Ne.symm (cne x c hc)),λj y v' e1 e2 e3=>?_⟩,λy c' e=>?_,I.free,I.freeC,λp hp=>?_,ff ⟨oc,hoc,I.freeC x c hc⟩ hs,by simpa using I.len⟩ ⟨c,hs,.inr hc⟩
  ·exact(hs.2 b (Xr (Xa (Xe e) (I.ok.cab x c hfn hc)))).trans (I.base.keep b o e n hb hx)
  ·obtain⟨sl,e1⟩:=I.base.slot b o e n hb hx;exact⟨sl,(hs.2 b (Xr (Xa (Xe e) (I.ok.cab x c hfn hc)))).trans e1⟩
  ·obtain⟨o',e1⟩:=I.base.there b o e hx;exact⟨o',(hs.2 b (Xr (Xa (Xe e) (I.ok.cab x c hfn hc)))).trans e1⟩
  ·by_cases hj:j=i
   ·subst hj;rw[hi]at e1;cases e1;rw[Ya lm]at e2;cases e2;exact⟨u,r,.inr ⟨.inl hk,c,hc,i9⟩⟩
   ·rw[Xy (Ne.symm hj)]at e2;obtain⟨u',r',q⟩:=hl j y v' e1 e2 e3;refine⟨u',r',?_⟩;rcases q with q|⟨k,c',e,z'⟩
    ·exact .inl q
    ·refine .inr ⟨k,c',e,z'.sameBut hs ?_⟩;rintro rfl;exact hj (jzx hN e1 (I.ok.inj _ _ _ e hc▸hi))
  ·by_cases fe:c'=c
   ·subst fe;exact⟨_,i9⟩
   ·obtain⟨w2,z2⟩:=I.cell y c' e;exact⟨w2,z2.sameBut hs fe⟩
  ·obtain⟨e,n,ne,nf,d⟩:=I.pin p hp;refine⟨(hs.2 p.1 ?_).trans e,n,ne,nf,d⟩;intro q;rw[q,hoc]at e;have q':oc=p.2:=oq9 e;exact d w' (by rw[<-q'];exact hocd)
theorem WY{M:Model}{A:Around}{E:Value->Shared->Prop}{i:Nat}{x:Str}{v:V}{u:Value}{Q:Unit->Shared->Prop}(I:Inv X pins σ H s)(hN:X.N.Nodup)(hi:X.N[i]?=some x)(hx:Loc X.env.scope x)(r:RelV v u)
  (h:∀s',Inv X pins (σ.set i (some v)) H s'->Q () s') (hf:autoParam (X.fn x=true\/X.env.scope.names.lookup x=some .local) Ř):wpAny M A (storeName X.env x u) Q E s:=
 kwi I hN hi hx r (λs' I' _=>h s' I') hf
theorem Inv.call'{s':Shared}{ch:List Addr}(I:Inv X pins σ H s)(ho:s'.os=s.os)(u:Un (frs X.stack) ch H H' s.heap s'.heap)(hok:HOk X.prog X.w H' s'.heap)(hg:AllBare s'.gens)
  (d9:∀b∈ch,(b∈X.ex\/X.s₀.heap.objs.size<=b)/\b≠X.env.locals/\(∀x c,X.env.cells.lookup x=some c->c≠b)/\∀p∈X.pn++pins,p.1≠b):Inv X pins σ H' s':=by
 obtain⟨h',g',d',t',o'⟩:=s';have e:o'=s.os:=ho;subst e;exact I.call (g':=g') (t':=t') (d':=d') u hok hg d9
end
abbrev XK:=Value->Option Addr->Hp->Prop
abbrev St:=List (Option V)
abbrev VK:=V->Hp->Prop
abbrev TE:=St->Hp->VK->Prop
abbrev TT:=St->Hp->(Bool->Hp->Prop)->Prop
abbrev TA:=St->Hp->(List V->Hp->Prop)->Prop
structure Ends where
 nx:St->Hp->Prop
 rt:VK
 bk:St->Hp->Prop:=λ_ _=>False
 ct:St->Hp->Prop:=λ_ _=>False
abbrev TS:=Ends->St->Hp->Prop
noncomputable def EP(X:Cx)(pins:List (Addr×Obj))(σ:St)(Q:VK)(u:Value)(s':Shared):Prop:=∃v H',Inv X pins σ H' s'/\RelV v u/\Q v H'
noncomputable def TP(X:Cx)(pins:List (Addr×Obj))(σ:St)(Q:Bool->Hp->Prop)(b:Bool)(s':Shared):Prop:=∃H',Inv X pins σ H' s'/\Q b H'
noncomputable def AP(X:Cx)(pins:List (Addr×Obj))(σ:St)(Q:List V->Hp->Prop)(us:List Value)(s':Shared):Prop:=∃vs H',Inv X pins σ H' s'/\Vals vs us/\Q vs H'
noncomputable def SP(X:Cx)(pins:List (Addr×Obj))(D:Ends)(f:Flow)(s':Shared):Prop:=
 match f with
 |.next=>∃ σ' H',Inv X pins σ' H' s'/\D.nx σ' H'
 |.brk=>∃ σ' H',Inv X pins σ' H' s'/\D.bk σ' H'
 |.cont=>∃ σ' H',Inv X pins σ' H' s'/\D.ct σ' H'
 |.ret u=>∃v σ' H',Inv X pins σ' H' s'/\RelV v u/\D.rt v H'
noncomputable def PE(X:Cx)(e:Expr)(t:TE):Prop:=
 ∀(pins:List (Addr×Obj)) (s:Shared) (σ:St) (H:Hp) (Q:VK),Inv X pins σ H s->t σ H Q->wpAny (model X.prog X.w) X.A (eval e X.env) (EP X pins σ Q) X.xe s
noncomputable def PT(X:Cx)(e:Expr)(t:TT):Prop:=
 ∀(pins:List (Addr×Obj)) (s:Shared) (σ:St) (H:Hp) (Q:Bool->Hp->Prop),Inv X pins σ H s->t σ H Q->wpAny (model X.prog X.w) X.A (isTrue e X.env (eval e X.env)) (TP X pins σ Q) X.xe s
noncomputable def PW(X:Cx)(e:Expr)(t:TT):Prop:=
 ∀(da:Sem Value) (pins:List (Addr×Obj)) (s:Shared) (σ:St) (H:Hp) (Q:Bool->Hp->Prop),Inv X pins σ H s->t σ H Q->wpAny (model X.prog X.w) X.A (isTrue e X.env da) (TP X pins σ Q) X.xe s
theorem PW.pt{X:Cx}{e:Expr}{t:TT}(h:PW X e t):PT X e t:=h _
noncomputable def PA(X:Cx)(es:List Expr)(t:TA):Prop:=
 ∀(pos:Pos) (pins:List (Addr×Obj)) (s:Shared) (σ:St) (H:Hp) (Q:List V->Hp->Prop),Inv X pins σ H s->t σ H Q->wpAny (model X.prog X.w) X.A (spliced (backTo pos (starEach es X.env))) (AP X pins σ Q) X.xe s
noncomputable def PS(X:Cx)(st:Stmt)(t:TS):Prop:=
 ∀(pins:List (Addr×Obj)) (s:Shared) (σ:St) (H:Hp) (D:Ends),Inv X pins σ H s->t D σ H->wpAny (model X.prog X.w) X.A (exec st X.env) (SP X pins D) X.xe s
noncomputable def PSs(X:Cx)(st:List Stmt)(t:TS):Prop:=
 ∀(pins:List (Addr×Obj)) (s:Shared) (σ:St) (H:Hp) (D:Ends),Inv X pins σ H s->t D σ H->wpAny (model X.prog X.w) X.A (execs st X.env) (SP X pins D) X.xe s
theorem thn{α:Type}{t:Sem α}{Q Q':α->Shared->Prop}{M:Model}{A:Around}{E:Value->Shared->Prop}{s:Shared}(h:wpAny M A t Q E s)(hQ:∀a s,Q a s->Q' a s):wpAny M A t Q' E s:=wpAny_mono h hQ λ_ _ x=>x
section
variable {X:Cx}
abbrev zX(i:Nat):TE:=fun σ H Q=>∃v,σ[i]?=some (some v)/\Q v H
abbrev tC(v:V):TE:=λ_ H Q=>Q v H
theorem vjd{i:Nat}{x:Str}{pos:Pos}(hN:X.N[i]?=some x)(hv:Vis X.env.scope x)(hd:autoParam ((x==("__debug__":Str))=false) ŕ)(dq:autoParam ((x==("__classdict__":Str))=false) ŕ):PE X (.Name x pos) (zX i):=by
 intro pins s σ H Q I h;obtain⟨v,e,h⟩:=h;obtain⟨m,hn,hl⟩:=I.loc;obtain⟨u,r,l⟩:=hl i x v hN e hv;have fin:EP X pins σ Q u s:=⟨v,H,I,r,h⟩;rcases l with⟨hk,hm⟩|⟨hk,c,hc,hcell⟩
 ·exact wpAny_Name (wpAny_loadName_local I.ok.kind hk hn hm fin) hd
 ·rcases hk with hk|hk
  ·exact wpAny_Name (wpAny_loadName_cell I.ok.kind hk hc hcell fin) hd
  ·exact wpAny_Name (wpAny_loadName_free I.ok.kind hk hc hcell fin dq) hd
theorem vjh{i j pos}:PE X (.Constant (.int i) j pos) (tC (.int i)):=λ_ _ _ H _ I h=>wpAny_Constant_int ⟨.int i,H,I.tok _,⟨_,rfl⟩,h⟩
theorem xJ{b j pos}:PE X (.Constant (.bool b) j pos) (tC (.bl b)):=λ_ _ _ H _ I h=>Constant_bool ⟨.bl b,H,I,rfl,h⟩
theorem vjf{j pos}:PE X (.Constant .none j pos) (tC .non):=λ_ _ _ H _ I h=>Constant_none ⟨.non,H,I,rfl,h⟩
theorem zk{x j pos}:PE X (.Constant (.str x) j pos) (tC (.str x)):=λ_ _ _ H _ I h=>Calls.Constant_str ⟨.str x,H,I.tok _,⟨_,rfl⟩,h⟩
def Gl(X:Cx)(x:Str):Prop:=X.env.kindOf x=some .globalImplicit
theorem V5{E:Value->Shared->Prop}{pins:List (Addr×Obj)}{s:Shared}{σ:St}{H:Hp}{x:Str}{u:Value}{pos:Pos}{Q:Value->Shared->Prop}(I:Inv X pins σ H s)(hg:Gl X x)(hm:X.mg x=some u)(h:Q u s)
  (hd:autoParam ((x==("__debug__":Str))=false) ŕ):wpAny (model X.prog X.w) X.A (eval (.Name x pos) X.env) Q E s:=
 Calls.Name_function_global I.ok.kind hg (Calls.loadGlobal_global (by rw[I.ok.glob];exact I.mod.glob.keeps I.bk) hm h) hd
theorem V2{E:Value->Shared->Prop}{pins:List (Addr×Obj)}{s:Shared}{σ:St}{H:Hp}{x:Str}{u:Value}{pos:Pos}{Q:Value->Shared->Prop}(I:Inv X pins σ H s)(hg:Gl X x)(hm:X.mg x=none)(hv:bootBuiltins x=some u)(h:Q u s)
  (hn:autoParam (x≠"__name__") ŕ) (hd:autoParam ((x==("__debug__":Str))=false) ŕ):wpAny (model X.prog X.w) X.A (eval (.Name x pos) X.env) Q E s:=by
 obtain⟨mb,h1,h2⟩:=I.mod.blt;exact Calls.Name_function_global I.ok.kind hg (Calls.loadGlobal_builtin (by rw[I.ok.glob];exact I.mod.glob.keeps I.bk) hm (by rw[I.ok.blt];exact h1.keeps I.bk) ((h2 x hn).trans hv) h) hd
theorem kxb{x:Str}{v:V}{u:Value}{pos:Pos}(hg:Gl X x)(hm:X.mg x=some u)(r:RelV v u)(hd:autoParam ((x==("__debug__":Str))=false) ŕ):PE X (.Name x pos) (tC v):=
 λ_ _ _ H _ I h=>V5 I hg hm ⟨v,H,I,r,h⟩ hd
theorem kxd{x:Str}{v:V}{u:Value}{pos:Pos}(hg:Gl X x)(hm:X.mg x=none)(hv:bootBuiltins x=some u)(r:RelV v u)(hn:autoParam (x≠"__name__") ŕ)(hd:autoParam ((x==("__debug__":Str))=false) ŕ):PE X (.Name x pos) (tC v):=
 λ_ _ _ H _ I h=>V2 I hg hm hv ⟨v,H,I,r,h⟩ hn hd
variable {a b:Expr}{ta tb:TE}{pos:Pos}
variable {tA tB':TT}{jv:List Expr}
abbrev tAnd(t u:TT):TT:=fun σ H Q=>t σ H λc H1=>if c=true then u σ H1 Q else Q false H1
abbrev tOr(t u:TT):TT:=fun σ H Q=>t σ H λc H1=>if c=true then Q true H1 else u σ H1 Q
abbrev tNot(t:TT):TT:=fun σ H Q=>t σ H λc H1=>Q (!c) H1
theorem qvs(ha:PT X a tA):PW X (.BoolOp .And [a] pos) tA:=by
 intro wh pins s σ H Q I h;refine isTrue_and (thn (ha pins s σ H Q I h) λc s1 e=>?_);cases c with
 |true=>exact isTrue_and_nil e
 |false=>exact e
theorem vj0(ha:PT X a tA):PW X (.BoolOp .Or [a] pos) tA:=by
 intro wh pins s σ H Q I h;refine isTrue_or (thn (ha pins s σ H Q I h) λc s1 e=>?_);cases c with
 |false=>exact isTrue_or_nil e
 |true=>exact e
theorem vj1(ha:PT X a tA)(hb:PW X (.BoolOp .And (b::jv) pos) tB'):PW X (.BoolOp .And (a::b::jv) pos) (tAnd tA tB'):=by
 intro wh pins s σ H Q I h;refine isTrue_and (thn (ha pins s σ H _ I h) λc s1 ⟨H1,I1,q1⟩=>?_);cases c with
 |true=>exact hb wh pins s1 σ H1 Q I1 q1
 |false=>exact⟨H1,I1,q1⟩
theorem vvi(ha:PT X a tA)(hb:PW X (.BoolOp .Or (b::jv) pos) tB'):PW X (.BoolOp .Or (a::b::jv) pos) (tOr tA tB'):=by
 intro wh pins s σ H Q I h;refine isTrue_or (thn (ha pins s σ H _ I h) λc s1 ⟨H1,I1,q1⟩=>?_);cases c with
 |true=>exact⟨H1,I1,q1⟩
 |false=>exact hb wh pins s1 σ H1 Q I1 q1
theorem vj2(ha:PT X a tA):PT X (.UnaryOp .Not a pos) (tNot tA):=by
 intro pins s σ H Q I h;exact isTrue_not (ha pins s σ H (λc H1=>Q (!c) H1) I h)
abbrev vqu(ta tb:TE):TE:=fun σ H Q=>ta σ H λx H1=>∃c,x=.bl c/\if c=true then tb σ H1 Q else Q (.bl false) H1
abbrev tOrV(ta tb:TE):TE:=fun σ H Q=>ta σ H λx H1=>∃c,x=.bl c/\if c=true then Q (.bl true) H1 else tb σ H1 Q
theorem vje{op}{t:TE}(h:PE X a t):PE X (.BoolOp op [a] pos) t:=λpins s σ H Q I hw=>BoolOp_one (h pins s σ H Q I hw)
theorem vjk(ha:PE X a ta)(hb:PE X (.BoolOp .And (b::jv) pos) tb):PE X (.BoolOp .And (a::b::jv) pos) (vqu ta tb):=by
 intro pins s σ H Q I h;refine BoolOp_and (thn (ha pins s σ H _ I h) λv s1 ⟨x,H1,I1,r1,q1⟩=>?_);obtain⟨c,rfl,q1⟩:=q1;cases r1;refine Y5 ?_;cases c with
 |true=>exact hb pins s1 σ H1 Q I1 q1
 |false=>exact⟨.bl false,H1,I1,rfl,q1⟩
theorem vvk(ha:PE X a ta)(hb:PE X (.BoolOp .Or (b::jv) pos) tb):PE X (.BoolOp .Or (a::b::jv) pos) (tOrV ta tb):=by
 intro pins s σ H Q I h;refine BoolOp_or (thn (ha pins s σ H _ I h) λv s1 ⟨x,H1,I1,r1,q1⟩=>?_);obtain⟨c,rfl,q1⟩:=q1;cases r1;refine Y5 ?_;cases c with
 |false=>exact hb pins s1 σ H1 Q I1 q1
 |true=>exact⟨.bl true,H1,I1,rfl,q1⟩
abbrev tIf(t:TT)(ta tb:TE):TE:=fun σ H Q=>t σ H λc H1=>if c=true then ta σ H1 Q else tb σ H1 Q
theorem qk0{c:Expr}(hc:PT X c tA)(ha:PE X a ta)(hb:PE X b tb):PE X (.IfExp c a b pos) (tIf tA ta tb):=by
 intro pins s σ H Q I h;refine wpAny_IfExp (thn (hc pins s σ H _ I h) λd s1 ⟨H1,I1,q1⟩=>?_);cases d with
 |true=>exact ha pins s1 σ H1 Q I1 q1
 |false=>exact hb pins s1 σ H1 Q I1 q1
end
noncomputable def SqL(K:PySem.W.Frag)(H:Hp)(a:Addr)(xs:List V):Prop:=
 Rd H a (.lst xs) \/
  ∃(o:Obj) (ai:Array Value) (n:Nat),K.lookup a=some o/\o.cls=.type "list"/\o.dict=none/\o.data=.seq ai n/\ai.size<=sizeLine/\Vals xs ai.toList
noncomputable def SqT(K:PySem.W.Frag)(H:Hp)(a:Addr)(xs:List V):Prop:=
 Rd H a (.tup xs) \/
  ∃(o:Obj) (ai:Array Value) (n:Nat),K.lookup a=some o/\o.cls=.type "tuple"/\o.dict=none/\o.data=.seq ai n/\ai.size<=sizeLine/\Vals xs ai.toList
noncomputable def absV:Value->Option V
 |.none=>some .non
 |.bool b=>some (.bl b)
 |.int i _=>some (.int i)
 |.str x _=>some (.str x)
 |.bytes b _=>some (.byt b)
 |.float b _=>some (.flt b)
 |.ref a=>some (.ref a)
 |.type n=>some (.ty n)
 |_=>none
theorem RelV.abs{x:V}{u:Value}(r:RelV x u):absV u=some x:=by
 cases x with
 |non=>cases r;rfl
 |bl _=>cases r;rfl
 |int _=>obtain⟨t,rfl⟩:=r;rfl
 |str _=>obtain⟨t,rfl⟩:=r;rfl
 |byt _=>obtain⟨t,rfl⟩:=r;rfl
 |flt _=>obtain⟨t,rfl⟩:=r;rfl
 |ref _=>cases r;rfl
 |ty _=>cases r;rfl
theorem RelV.inj{x y:V}{u:Value}(r:RelV x u)(q:RelV y u):x=y:=oq9 (r.abs.symm.trans q.abs)
theorem Vals.inj:∀{xs ys:List V} {us:List Value},Vals xs us->Vals ys us->xs=ys
 |_,_,_,.nil,.nil=>rfl
 |_,_,_,.cons r t,.cons r' t'=>by rw[r.inj r',Vals.inj t t']
section
variable {X:Cx}{pins:List (Addr×Obj)}{σ:St}{H:Hp}{s:Shared}{a:Addr}{xs ys:List V}
theorem SqL.of{K:PySem.W.Frag}(h:H a=some (.lst xs)):SqL K H a xs:=.inl (.inl h)
theorem SqT.of{K:PySem.W.Frag}(h:H a=some (.tup xs)):SqT K H a xs:=.inl (.inl h)
theorem Inv.list(I:Inv X pins σ H s)(h:SqL X.K H a xs):∃ai:List Value,Vals xs ai/\PlainL s.heap a ai.toArray/\xs.length<=sizeLine:=by
 rcases h with h|⟨o,ai,n,hk,hc,hd,hs,hz,r⟩
 ·obtain⟨z,ai,n,r,e⟩:=h.ok I.hok;exact⟨ai,r,⟨_,n,e,rfl,rfl,rfl⟩,z⟩
 ·refine⟨ai.toList,r,⟨o,n,I.kIn a o hk,hc,hd,by simpa using hs⟩,?_⟩;have e:=r.length;simp only[X0]at e;omega
theorem Inv.tuple(I:Inv X pins σ H s)(h:SqT X.K H a xs):∃ai:List Value,Vals xs ai/\IsTup s.heap a ai.toArray/\xs.length<=sizeLine:=by
 rcases h with h|⟨o,ai,n,hk,hc,_,hs,hz,r⟩
 ·obtain⟨z,ai,r,p⟩:=h.ok I.hok;exact⟨ai,r,p.tup,z⟩
 ·refine⟨ai.toList,r,⟨o,I.kIn a o hk,hc,n,by simpa using hs⟩,?_⟩;have e:=r.length;simp only[X0]at e;omega
theorem Inv.list_inj(I:Inv X pins σ H s)(h:SqL X.K H a xs)(h':SqL X.K H a ys):xs=ys:=by
 obtain⟨ai,r,⟨o,n,e,_,_,d⟩,_⟩:=I.list h;obtain⟨its',r',⟨o',n',e',_,_,d'⟩,_⟩:=I.list h';rw[e]at e';cases e';rw[d]at d';injection d' with d1 _;have:ai=its':=by simpa using congrArg Array.toList d1
 subst this;exact r.inj r'
theorem Inv.tuple_inj(I:Inv X pins σ H s)(h:SqT X.K H a xs)(h':SqT X.K H a ys):xs=ys:=by
 obtain⟨ai,r,⟨o,e,_,n,d⟩,_⟩:=I.tuple h;obtain⟨its',r',⟨o',e',_,n',d'⟩,_⟩:=I.tuple h';rw[e]at e';cases e';rw[d]at d';injection d' with d1 _;have:ai=its':=by simpa using congrArg Array.toList d1
 subst this;exact r.inj r'
end
abbrev Cx.wish(X:Cx)(E:Value->Shared->Prop):Cx:={ X with xe:=E }
abbrev Cx.nox(X:Cx):Cx:=X.wish λ_ _=>False
theorem Cx.Ok.wish{X:Cx}(ok:X.Ok)(E:Value->Shared->Prop):(X.wish E).Ok:=
 ⟨ok.mod,ok.kind,ok.glob,ok.blt,ok.above,ok.inj,ok.has,ok.cab,ok.hd,ok.frames,ok.stk,ok.exf,ok.bs,ok.bsz,ok.noex,ok.exfs,ok.funs,ok.frf⟩
theorem Cx.Ok.unwish{X:Cx}{E:Value->Shared->Prop}(ok:(X.wish E).Ok):X.Ok:=
 ⟨ok.mod,ok.kind,ok.glob,ok.blt,ok.above,ok.inj,ok.has,ok.cab,ok.hd,ok.frames,ok.stk,ok.exf,ok.bs,ok.bsz,ok.noex,ok.exfs,ok.funs,ok.frf⟩
section
variable {X:Cx}{pins:List (Addr×Obj)}{σ:St}{H:Hp}{s:Shared}{E:Value->Shared->Prop}
theorem Inv.wish(I:Inv X pins σ H s)(E:Value->Shared->Prop):Inv (X.wish E) pins σ H s:=⟨I.ok.wish E,I.os,I.bare,I.base,I.loc,I.cell,I.free,I.freeC,I.pin,I.hok,I.len⟩
theorem Inv.unwish(I:Inv (X.wish E) pins σ H s):Inv X pins σ H s:=⟨I.ok.unwish,I.os,I.bare,I.base,I.loc,I.cell,I.free,I.freeC,I.pin,I.hok,I.len⟩
theorem SP.unwish{D:Ends}{f:Flow}{s':Shared}(h:SP (X.wish E) pins D f s'):SP X pins D f s':=by
 cases f with
 |next=>obtain⟨σ',H',I,q⟩:=h;exact⟨σ',H',I.unwish,q⟩
 |brk=>obtain⟨σ',H',I,q⟩:=h;exact⟨σ',H',I.unwish,q⟩
 |cont=>obtain⟨σ',H',I,q⟩:=h;exact⟨σ',H',I.unwish,q⟩
 |ret u=>obtain⟨v,σ',H',I,r,q⟩:=h;exact⟨v,σ',H',I.unwish,r,q⟩
end
section
variable {X:Cx}{st:Stmt}{jv:List Stmt}{t u:TS}{e:Expr}{te:TE}{pos:Pos}
abbrev vqt:TS:=λD σ H=>D.nx σ H
abbrev tSeq(t u:TS):TS:=λD σ H=>t { D with nx:=u D } σ H
theorem qvy:PSs X [] vqt:=λ_ _ σ H _ I h=>wpAny_execs_nil ⟨σ,H,I,h⟩
theorem qju(h1:PS X st t)(h2:PSs X jv u):PSs X (st::jv) (tSeq t u):=by
 intro pins s σ H D I h;refine wpAny_execs_cons (thn (h1 pins s σ H { D with nx:=u D } I h) λf s1 q=>?_);cases f with
 |next=>
  obtain⟨σ',H',I',q⟩:=q;exact h2 pins s1 σ' H' D I' q
 |ret v=>exact q
 |brk=>exact q
 |cont=>exact q
theorem qvx(h1:PS X st t):PSs X [st] t:=by
 intro pins s σ H D I h;refine wpAny_execs_cons (thn (h1 pins s σ H D I h) λf s1 q=>?_);cases f with
 |next=>exact wpAny_execs_nil q
 |ret v=>exact q
 |brk=>exact q
 |cont=>exact q
theorem Inv.quiet{pins:List (Addr×Obj)}{σ:St}{H:Hp}{s:Shared}(I:Inv X pins σ H s):interactive X.env=false:=by simp[interactive,I.ok.kind]
abbrev qxv(te:TE):TS:=λD σ H=>te σ H λ_ H1=>D.nx σ H1
theorem qw0(he:PE X e te)(hs:autoParam (swapsWith e none pos.line X.env=pure false) Ŕ):PS X (.Expr e pos) (qxv te):=by
 intro pins s σ H D I h;exact wpAny_Expr_any (thn (he pins s σ H _ I h) λv s1 ⟨x,H1,I1,r1,q1⟩=>⟨σ,H1,I1,q1⟩) I.quiet hs
abbrev tRet(te:TE):TS:=λD σ H=>te σ H D.rt
theorem vj4(he:PE X e te):PS X (.Return (some e) pos) (tRet te):=by
 intro pins s σ H D I h;exact wpAny_Return_some (thn (he pins s σ H _ I h) λv s1 ⟨x,H1,I1,r1,q1⟩=>⟨x,σ,H1,I1,r1,q1⟩)
abbrev tIfS(c:TT)(t u:TS):TS:=λD σ H=>c σ H λb H1=>if b=true then t D σ H1 else u D σ H1
theorem vvj{c:Expr}{a b:List Stmt}{tc:TT}(hc:PT X c tc)(ha:PSs X a t)(hb:PSs X b u):PS X (.If c a b pos) (tIfS tc t u):=by
 intro pins s σ H D I h;refine wpAny_If (thn (hc pins s σ H _ I h) λd s1 ⟨H1,I1,q1⟩=>?_);cases d with
 |true=>exact ha pins s1 σ H1 D I1 q1
 |false=>exact hb pins s1 σ H1 D I1 q1
end
abbrev TG:=V->St->Hp->(St->Hp->Prop)->Prop
abbrev TGs:=List V->St->Hp->(St->Hp->Prop)->Prop
noncomputable def PG(X:Cx)(cw:Expr)(t:TG):Prop:=
 ∀(pins:List (Addr×Obj)) (s:Shared) (σ:St) (H:Hp) (v:V) (u:Value) (Q:St->Hp->Prop),Inv X pins σ H s->RelV v u->t v σ H Q ->
  wpAny (model X.prog X.w) X.A (assign cw X.env u) (λ_ s'=>∃ σ' H',Inv X pins σ' H' s'/\Q σ' H') X.xe s
noncomputable def PGs(X:Cx)(ts:List Expr)(t:TGs):Prop:=
 ∀(pins:List (Addr×Obj)) (s:Shared) (σ:St) (H:Hp) (vs:List V) (us:List Value) (Q:St->Hp->Prop),Inv X pins σ H s->Vals vs us->t vs σ H Q ->
  wpAny (model X.prog X.w) X.A (assignInOrder ((assignEach ts X.env).map (·.2)) us) (λ_ s'=>∃ σ' H',Inv X pins σ' H' s'/\Q σ' H') X.xe s
section
variable {X:Cx}{pos:Pos}
abbrev Vz(i:Nat):TG:=λv σ H Q=>Q (σ.set i (some v)) H
theorem Jk{i:Nat}{x:Str}(hN:X.N.Nodup)(hi:X.N[i]?=some x)(hx:Loc X.env.scope x)(hf:autoParam (X.fn x=true\/X.env.scope.names.lookup x=some .local) Ř):PG X (.Name x pos) (Vz i):=by
 intro pins s σ H v u Q I r h;exact wpAny_assign_Name (WY I hN hi hx r (λs' I'=>⟨_,H,I',h⟩) hf)
abbrev vxe:TGs:=λvs σ H Q=>vs=[]/\Q σ H
abbrev vkj(t:TG)(u:TGs):TGs:=λvs σ H Q=>∃v r,vs=v::r/\t v σ H fun σ' H'=>u r σ' H' Q
theorem kkx:PGs X [] vxe:=by
 intro pins s σ H vs us Q I r h;obtain⟨e,h⟩:=h;subst e;cases r;exact assignInOrder_nil ⟨σ,H,I,h⟩
theorem KQ{e:Expr}{es:List Expr}{t:TG}{u:TGs}(h1:PG X e t)(h2:PGs X es u)
  (hs:autoParam ((assignEach (e::es) X.env).map (·.2)=assign e X.env::(assignEach es X.env).map (·.2)) Ŕ):PGs X (e::es) (vkj t u):=by
 intro pins s σ H vs us Q I r h;obtain⟨v,vr,e1,h⟩:=h;subst e1;cases r with
 |cons r rr=>
  rw[hs];refine assignInOrder_cons (thn (h1 pins s σ H _ _ _ I r h) λ_ s1 ⟨σ1,H1,I1,q1⟩=>?_);exact h2 pins s1 σ1 H1 _ _ Q I1 rr q1
abbrev vwm(te:TE)(g:TG):TS:=λD σ H=>te σ H λx H1=>g x σ H1 D.nx
theorem vj6{tg e:Expr}{te:TE}{g:TG}(he:PE X e te)(hg:PG X tg g)(hs:autoParam (swapsWithSole [tg] e pos.line X.env=pure false) Ŕ)(hw:autoParam (swappedStores [tg] e X.env=pure none) Ŕ)
  (h1:autoParam ((assignEach [tg] X.env).map (·.2)=[assign tg X.env]) Ŕ):PS X (.Assign [tg] e pos) (vwm te g):=by
 intro pins s σ H D I h;refine wpAny_Assign_stores (thn (he pins s σ H _ I h) λv s1 ⟨x,H1,I1,r1,q1⟩=>?_) hs hw;rw[h1];exact thn (hg pins s1 σ H1 x v _ I1 r1 q1) λ_ s2 q=>q
theorem vj3{i:Nat}{x:Str}{e:Expr}{te:TE}{df:Pos}(hN:X.N.Nodup)(hi:X.N[i]?=some x)(hx:Loc X.env.scope x)(he:PE X e te)(hs:autoParam (swapsWith e (some (.Name x df)) pos.line X.env=pure false) Ŕ)(hf:autoParam (X.fn x=true\/X.env.scope.names.lookup x=some .local) Ř):
  PS X (.Assign [.Name x df] e pos) (vwm te (Vz i)):=by
 intro pins s σ H D I h;refine wpAny_Assign_Name (thn (he pins s σ H _ I h) λv s1 ⟨y,H1,I1,r1,q1⟩=>?_) hs;exact WY I1 hN hi hx r1 (λs2 I2=>⟨_,H1,I2,q1⟩) hf
end
structure It where
 go:Nat->Hp->Prop
 yld:Nat->Hp->V->Hp->Prop
 stop:Nat->Hp->Prop
noncomputable def qQ(X:Cx)(pins:List (Addr×Obj))(H:Hp)(b:Addr):Prop:=
 H b=none/\b≠X.env.locals/\b∉X.fs/\(b∈X.ex\/X.s₀.heap.objs.size<=b)/\(∀x c,X.env.cells.lookup x=some c->c≠b)/\∀p∈X.pn++pins,p.1≠b
theorem Inv.fpOk{X:Cx}{pins:List (Addr×Obj)}{σ:St}{H H':Hp}{s:Shared}{b:Addr}(I:Inv X pins σ H s)(hb:s.heap.objs.size<=b)(hn:H' b=none):qQ X pins H' b:=by
 refine⟨hn,Nat.ne_of_gt (Xa I.lt hb),I.nofs hb,.inr (Xl I.sz hb),λx c e z=>?_,λp hp z=>?_⟩
 ·obtain⟨v,q⟩:=I.cell x c e;exact absurd (Xa q.lt (by rw[z];exact hb)) (Xz _)
 ·exact absurd (Xa (Xe (I.pin p hp).1) (by rw[z];exact hb)) (Xz _)
structure Turn (P:Program)(w:World)(K:PySem.W.Frag)(tg:Expr)(J:It)(fp:List Addr)(it:Addr)(tn:Nat->Heap->Prop):Prop where
 mem:it∈fp
 obj:∀i h,tn i h->∀b∈fp,∃o,h.get? b=some o/\∀v,o.data≠.cell v
 keep:∀i h h',tn i h->(∀b∈fp,∀o,h.get? b=some o->h'.get? b=some o)->tn i h'
 item:∀(X:Cx),X.prog=P->X.w=w->X.K=K->X.calm=true->∀(i:Nat) (pins:List (Addr×Obj)) (s:Shared) (σ:St) (H:Hp) (E:Value->Shared->Prop),Inv X pins σ H s->(∀b∈fp,qQ X pins H b)->tn i s.heap->J.go i H ->
  wpAny (model P w) X.A (pyNext (.ref it)) (λr s1=>∃u,r=some u /\
   wpAny (model P w) X.A (letOwnedTupleGo tg (.ref it) u) (λ_ s2=>∃x H',Inv X pins σ H' s2/\RelV x u/\J.yld i H x H'/\tn (i+1) s2.heap/\∀b∈fp,H' b=none) E s1) E s
 done:∀(X:Cx),X.prog=P->X.w=w->X.K=K->X.calm=true->∀(i:Nat) (pins:List (Addr×Obj)) (s:Shared) (σ:St) (H:Hp) (E:Value->Shared->Prop),Inv X pins σ H s->(∀b∈fp,qQ X pins H b)->tn i s.heap->J.stop i H ->
  wpAny (model P w) X.A (pyNext (.ref it)) (λr s1=>r=none/\Inv X pins σ H s1) E s
 self:∀(A:Around) (i:Nat) (s:Shared) (Q:Value->Shared->Prop) (E:Value->Shared->Prop),tn i s.heap->Q (.ref it) s->wpAny (model P w) A (pyIter (.ref it)) Q E s
abbrev TI:=St->Hp->(It->Hp->Prop)->Prop
noncomputable def PIE(X:Cx)(pins:List (Addr×Obj))(σ:St)(tg:Expr)(R:It->Hp->Prop)(itv:Value)(s2:Shared):Prop:=
 ∃(it:Addr) (fp:List Addr) (tn:Nat->Heap->Prop) (J:It) (H':Hp),itv=.ref it/\Inv X pins σ H' s2/\Turn X.prog X.w X.K tg J fp it tn/\tn 0 s2.heap/\(∀b∈fp,qQ X pins H' b)/\R J H'
noncomputable def PI(X:Cx)(tg az:Expr)(wi:TI):Prop:=
 ∀(pins:List (Addr×Obj)) (s:Shared) (σ:St) (H:Hp) (R:It->Hp->Prop),Inv X pins σ H s->wi σ H R ->
  wpAny (model X.prog X.w) X.A (eval az X.env) (λv s1=>wpAny (model X.prog X.w) X.A (pyIter v) (PIE X pins σ tg R) X.xe s1) X.xe s
theorem Z8 {M : Model} {A : Around} {E : Value -> Shared -> Prop} {s : Shared} {tg : Expr} {it : Addr} {u : Value} {o : Obj} {n : String} {vs : Array Value} {Q : Unit -> Shared -> Prop} (ho : s.heap.get? it = some o) (hc : o.cls = .type n) (hd : o.data = .fields vs)
    (hn : ["enumerate", "zip", "dict_itemiterator", "dict_reverseitemiterator", "odict_iterator", "itertools.zip_longest", "itertools.pairwise"].contains n = false) (hQ : Q () s): wpAny M A (letOwnedTupleGo tg (.ref it) u) Q E s:= by
  unfold letOwnedTupleGo;cases tg <;> first
    |exact Xf hQ
    |(cases u <;> first
        |exact Xf hQ
        | (refine X2 (wpAny_load ho ?_)
           rw[hc, hd];show wpAny M A (if(["enumerate", "zip", "dict_itemiterator", "dict_reverseitemiterator", "odict_iterator", "itertools.zip_longest", "itertools.pairwise"].contains n&&vs[0]? == some (rawInt _)) = true then _ else _) Q E s;rw[Xg (by intro h; rw[hn, Bool.false_and]at h; cases h)];exact Xf hQ))
noncomputable def Itl(K:PySem.W.Frag)(a:Addr):It:=
 ⟨λi H=>∃xs x,SqL K H a xs/\xs[i]?=some x,λi H x H'=>H'=H/\∀xs,SqL K H a xs->xs[i]?=some x,λi H=>∃xs,SqL K H a xs/\xs.length<=i⟩
noncomputable def Itt(K:PySem.W.Frag)(a:Addr):It:=
 ⟨λi H=>∃xs x,SqT K H a xs/\xs[i]?=some x,λi H x H'=>H'=H/\∀xs,SqT K H a xs->xs[i]?=some x,λi H=>∃xs,SqT K H a xs/\xs.length<=i⟩
def Itr(lo:Int)(n:Nat):It:=⟨λi _=>i<n,λi H x H'=>H'=H/\x=.int (lo+i),λi _=>n<=i⟩
theorem kwf{P:Program}{w:World}{K:PySem.W.Frag}{tg:Expr}(a it:Addr):Turn P w K tg (Itl K a) [it] it (λi h=>h.IsListIter it a i) where
 mem:=by simp
 obj:=λi h st b hb=>by
  have e:b=it:=by simpa using hb
  subst e;obtain⟨o,e,c,d⟩:=st;exact⟨o,e,λv z=>by rw[d]at z;cases z⟩
 keep:=λi h h' st k=>st.at λo e=>k it (by simp) o e
 item:=by
  intro X hP hw hK hc i pins s σ H E I hf st hg;subst hP hw hK;obtain⟨xs,x,hq,hx⟩:=hg;obtain⟨ai,rv,p,hz⟩:=I.list hq;obtain⟨u,hu,ru⟩:=rv.get hx;obtain⟨f0,f1,f2,f3,f4,f5⟩:=hf it (by simp);refine wpAny_pyNext_list_item st p.isList (x:=u) (by simpa using hu) λh' cq sb=>?_
  have I1:Inv X pins σ H { s with heap:=h' }:=I.turned (t':=s.toks) (λb o hb e=>(sb.2 b hb).trans e) f0 f1 f3 f4 f5;obtain⟨o,e,c,d⟩:=id cq;exact⟨u,rfl,Z8 (s:={ s with heap:=h' }) e c d (by decide) ⟨x,H,I1,ru,⟨rfl,λys hy=>by rw[I.list_inj hy hq];exact hx⟩,cq,λb hb=>(hf b hb).1⟩⟩
 done:=by
  intro X hP hw hK hc i pins s σ H E I hf st hg;subst hP hw hK;obtain⟨xs,hq,hx⟩:=hg;obtain⟨ai,rv,p,hz⟩:=I.list hq;obtain⟨f0,f1,f2,f3,f4,f5⟩:=hf it (by simp);have hl:=rv.length;exact wpAny_pyNext_list_end (I.ok.hd hc) st p.isList (by simp;omega) λh' eb=>⟨rfl,I.turned (t':=s.toks) (λb o hb e=>eb b o hb e) f0 f1 f3 f4 f5⟩
 self:=λ_ _ _ _ _ st h=>wpAny_pyIter_listiter st h
theorem kvr{P:Program}{w:World}{K:PySem.W.Frag}{tg:Expr}(a it:Addr):Turn P w K tg (Itt K a) [it] it (λi h=>h.IsTupleIter it a i) where
 mem:=by simp
 obj:=λi h st b hb=>by
  have e:b=it:=by simpa using hb
  subst e;obtain⟨o,e,c,d⟩:=st;exact⟨o,e,λv z=>by rw[d]at z;cases z⟩
 keep:=λi h h' st k=>st.at λo e=>k it (by simp) o e
 item:=by
  intro X hP hw hK hc i pins s σ H E I hf st hg;subst hP hw hK;obtain⟨xs,x,hq,hx⟩:=hg;obtain⟨ai,rv,p,hz⟩:=I.tuple hq;obtain⟨u,hu,ru⟩:=rv.get hx;obtain⟨f0,f1,f2,f3,f4,f5⟩:=hf it (by simp);refine wpAny_pyNext_tuple_item st (show s.heap.IsTuple a ai.toArray from p) (x:=u) (by simpa using hu) λh' cq sb=>?_
  have I1:Inv X pins σ H { s with heap:=h' }:=I.turned (t':=s.toks) (λb o hb e=>(sb.2 b hb).trans e) f0 f1 f3 f4 f5;obtain⟨o,e,c,d⟩:=id cq;exact⟨u,rfl,Z8 (s:={ s with heap:=h' }) e c d (by decide) ⟨x,H,I1,ru,⟨rfl,λys hy=>by rw[I.tuple_inj hy hq];exact hx⟩,cq,λb hb=>(hf b hb).1⟩⟩
 done:=by
  intro X hP hw hK hc i pins s σ H E I hf st hg;subst hP hw hK;obtain⟨xs,hq,hx⟩:=hg;obtain⟨ai,rv,p,hz⟩:=I.tuple hq;obtain⟨f0,f1,f2,f3,f4,f5⟩:=hf it (by simp);have hl:=rv.length;exact wpAny_pyNext_tuple_end (I.ok.hd hc) st (show s.heap.IsTuple a ai.toArray from p) (by simp;omega) λh' eb=>⟨rfl,I.turned (t':=s.toks) (λb o hb e=>eb b o hb e) f0 f1 f3 f4 f5⟩
 self:=λ_ _ _ _ _ st h=>wpAny_pyIter_tupleiter st h
theorem kvt{P:Program}{w:World}{K:PySem.W.Frag}{tg:Expr}(it:Addr)(lo:Int)(n:Nat):Turn P w K tg (Itr lo n) [it] it (λi h=>IsRangeIter h it (lo+(i:Nat)*1) ((n:Int) - (i:Nat)) 1) where
 mem:=by simp
 obj:=λi h st b hb=>by
  have e:b=it:=by simpa using hb
  subst e;exact⟨_,st,λv z=>by
   have z':Data.fields _=Data.cell v:=z;cases z'⟩
 keep:=λi h h' st k=>k it (by simp) _ st
 item:=by
  intro X hP hw hK hc i pins s σ H E I hf st hg;subst hP hw hK;obtain⟨f0,f1,f2,f3,f4,f5⟩:=hf it (by simp);have W:=Walks.range (prog:=X.prog) (w:=X.w) (I.ok.hd hc) it lo 1 n;refine W.item i s _ _ hg st λv h' tk hv cq kk=>?_
  obtain⟨t,rfl⟩:=hv;have I1:Inv X pins σ H { s with heap:=h',toks:=tk }:=I.turned (λb o hb e=>kk b o (by simpa using hb) e) f0 f1 f3 f4 f5;refine⟨_,rfl,Z8 (s:={ s with heap:=h',toks:=tk }) (n:="range_iterator") cq rfl rfl (by decide) ⟨.int (lo+i),H,I1,⟨t,?_⟩,⟨rfl,rfl⟩,cq,λb hb=>(hf b hb).1⟩⟩;rw[Int.mul_one]
 done:=by
  intro X hP hw hK hc i pins s σ H E I hf st hg;subst hP hw hK;obtain⟨f0,f1,f2,f3,f4,f5⟩:=hf it (by simp);exact wpAny_pyNext_range_end (I.ok.hd hc) st (by have:n<=i:=hg;omega) λh' eb=>⟨rfl,I.turned (t':=s.toks) (λb o hb e=>eb b o hb e) f0 f1 f3 f4 f5⟩
 self:=λ_ _ _ _ _ st h=>wpAny_pyIter_rangeiter st h
section
variable {X:Cx}{tg:Expr}
theorem qjn{pins:List (Addr×Obj)}{σ:St}{H:Hp}{s:Shared}{R:It->Hp->Prop}{E:Value->Shared->Prop}{lo hi:Int}{t u v:Tok}{tk:Nat}(I:Inv X pins σ H s)(h1:-(2 ^ 62)<=lo)(h2:lo<2 ^ 62)(h3:-(2 ^ 62)<=hi)(h4:hi<2 ^ 62)
  (q:R (Itr lo (hi - lo).toNat) H):wpAny (model X.prog X.w) X.A (pyIter (.ref s.heap.objs.size)) (PIE X pins σ tg R) E { s with heap:=s.heap.push { cls:=.type "range",data:=.fields #[.int lo t,.int hi u,.int 1 v] },toks:=tk }:=by
 refine wpAny_pyIter_range (IsRange.new ..) (small_one h1 h2 h3 h4) ?_;have I1:Inv X pins σ H { s with heap:=s.heap.push { cls:=.type "range",data:=.fields #[.int lo t,.int hi u,.int 1 v] },toks:=tk }:=I.kept λb o e=>X6 _ e
 refine⟨(s.heap.push { cls:=.type "range",data:=.fields #[.int lo t,.int hi u,.int 1 v] }).objs.size,[(s.heap.push { cls:=.type "range",data:=.fields #[.int lo t,.int hi u,.int 1 v] }).objs.size],_,_,H,rfl,
  I1.kept (t':=tk) λb o e=>X6 _ e,kvt _ lo (hi - lo).toNat,?_,λb hb=>?_,q⟩
 ·have e1:lo+((0:Nat):Int)*1=lo:=by simp
  have e2:(((hi - lo).toNat:Nat):Int) - ((0:Nat):Int)=Builtin.Range.rangeSize lo hi 1:=by rw[rangeSize_one];split<;>omega
  show IsRangeIter _ _ (lo+((0:Nat):Int)*1) ((((hi - lo).toNat:Nat):Int) - ((0:Nat):Int)) 1;rw[e1,e2];exact Xk _ rfl
 ·have e:b=(s.heap.push { cls:=.type "range",data:=.fields #[.int lo t,.int hi u,.int 1 v] }).objs.size:=by simpa using hb
  subst e;exact I1.fpOk (Xb _) (I1.hok.fresh (Xb _))
abbrev vvx(ta:TA):TI:=fun σ H R=>ta σ H λvs H1=>∃j:Int,vs=[.int j]/\-(2 ^ 62)<=j/\j<2 ^ 62/\R (Itr 0 j.toNat) H1
theorem kx7{a:Expr}{ta:TA}{p pos:Pos}(hg:Gl X "range")(hm:X.mg "range"=none)(ha:PA X [a] ta)(hs:autoParam (starEach [a] X.env=[(false,eval a X.env)]) Ŕ):PI X tg (.Call (.Name "range" p) [a] [] pos) (vvx ta):=by
 intro pins s σ H R I h;refine Call_ (V2 I hg hm boot_range (PyProof.Rows.callWith_type1 (thn (ha pos pins s σ H _ I h) λus s1 ⟨vs,H1,I1,r1,q1⟩=>?_) hs rfl));obtain⟨j,e,q1,q2,q⟩:=q1;subst e;cases r1 with
 |cons r rr=>
  cases rr;obtain⟨t,rfl⟩:=r;exact call_range_1 (qjn I1 (by omega) (by omega) q1 q2 (by simpa using q))
abbrev tFor(wi:TI)(g:TG)(tb:TS):TS:=λD σ H=>wi σ H λJ H1=>∃W:Nat->Nat->St->Hp->Prop,(∃m,W 0 m σ H1)/\∀i m σ H,W i m σ H ->
 (J.stop i H/\D.nx σ H)\/(J.go i H/\∃N:St->Hp->Prop,(∀ σ' H',N σ' H'->∃m',m'<m/\W (i+1) m' σ' H')/\∀x H',J.yld i H x H'->g x σ H' fun σ2 H2=>tb { D with nx:=N,ct:=N,bk:=D.nx } σ2 H2)
def zK(fp:List Addr)(h:Heap):List (Addr×Obj):=fp.filterMap λb=>(h.get? b).map λo=>(b,o)
theorem jwj{fp:List Addr}{h:Heap}{b:Addr}{o:Obj}(hb:b∈fp)(e:h.get? b=some o):(b,o)∈zK fp h:=List.mem_filterMap.mpr ⟨b,hb,by rw[e];rfl⟩
theorem kjv{fp:List Addr}{h:Heap}{p:Addr×Obj}(hp:p∈zK fp h):p.1∈fp/\h.get? p.1=some p.2:=by
 obtain⟨b,hb,e⟩:=List.mem_filterMap.mp hp;cases q:h.get? b with
 |none=>rw[q]at e;cases e
 |some o=>
  rw[q]at e;have e':(b,o)=p:=oq9 e;subst e';exact⟨hb,q⟩
theorem Inv.pinned{pins:List (Addr×Obj)}{σ:St}{H:Hp}{s:Shared}{fp:List Addr}(I:Inv X pins σ H s)(hf:∀b∈fp,qQ X pins H b)(ho:∀b∈fp,∃o,s.heap.get? b=some o/\∀v,o.data≠.cell v):Inv X (pins++zK fp s.heap) σ H s:=
 I.pins_of λp hp=>(List.mem_append.mp hp).elim (λz=>I.pin p (lr9 _ z)) λz=>by
  obtain⟨hb,e⟩:=kjv z;obtain⟨f0,f1,f2,_⟩:=hf p.1 hb;obtain⟨o,e',d⟩:=ho p.1 hb;rw[e]at e';cases e';exact⟨e,f0,f1,f2,d⟩
theorem Inv.unpinned{pins pl:List (Addr×Obj)}{σ:St}{H:Hp}{s:Shared}(I:Inv X (pins++pl) σ H s):Inv X pins σ H s:=I.pins_of λp hp=>I.pin p (lr9 _ (ll9 _ hp))
theorem vj5{az:Expr}{body:List Stmt}{wi:TI}{g:TG}{tb:TS}{pos:Pos}(hp:PassesOwn (model X.prog X.w) X.A X.env X.xe)(hc:X.calm=true)(hi:PI X tg az wi)(hg:PG X tg g)(hb:PSs X body tb)
  (hs:autoParam (∀x,foldedSetIterable az X.env x=pure x) Ŗ):PS X (.For tg az body [] pos) (tFor wi g tb):=by
 intro pins s σ H D I h;refine wpAny_For (thn (hi pins s σ H _ I h) λv s1 h1=>thn h1 λitv s2 h2=>?_) hs;obtain⟨it,fp,tn,J,H2,e,I2,T,cj,f2,W,⟨m0,w0⟩,dn⟩:=h2;subst e;have ek:∀{H':Hp},(∀b∈fp,H' b=none)->∀b∈fp,qQ X pins H' b:=λhn b hb=>⟨hn b hb,(f2 b hb).2⟩
 refine codeAny_forLoop_any (λn s'=>∃i σ' H',Inv X pins σ' H' s'/\tn i s'.heap/\(∀b∈fp,H' b=none)/\W i n σ' H') ?_ m0 ⟨0,σ,H2,I2,cj,λb hb=>(f2 b hb).1,w0⟩;rintro n s3 ⟨i,σ3,H3,I3,cm,ig,w3⟩;rcases dn i n σ3 H3 w3 with⟨stop,qn⟩|⟨go,N,hN,step⟩
 ·refine wpAny_passesOwn hp (thn (T.done X rfl rfl rfl hc i pins s3 σ3 H3 X.xe I3 (ek ig) cm stop) λr s4 ⟨hr,I4⟩=>?_);subst hr;exact wpAny_execs_nil ⟨σ3,H3,I4,qn⟩
 ·refine wpAny_passesOwn hp (thn (T.item X rfl rfl rfl hc i pins s3 σ3 H3 X.xe I3 (ek ig) cm go) λr s4 ⟨u,hr,h4⟩=>?_);subst hr;refine wpAny_passesOwn hp (thn h4 λ_ s5 ⟨x,H5,I5,r5,y5,gu,fr5⟩=>?_);have I5':=I5.pinned (ek fr5) (T.obj _ _ gu);refine wpAny_passesOwn hp (thn (hg _ s5 σ3 H5 x u _ I5' r5 (step x H5 y5)) λ_ s6 ⟨σ6,H6,I6,q6⟩=>?_);refine wpAny_passesOwn hp (thn (hb _ s6 σ6 H6 _ I6 q6) λf s7 q7=>?_);have ck:∀{σ7:St} {H7:Hp},Inv X (pins++zK fp s5.heap) σ7 H7 s7->N σ7 H7->∃m,m<n/\∃i σ' H',Inv X pins σ' H' s7/\tn i s7.heap/\(∀b∈fp,H' b=none)/\W i m σ' H':=fun {σ7 H7} I7 n7=>by
   obtain⟨m',hm,w7⟩:=hN σ7 H7 n7;refine⟨m',hm,i+1,σ7,H7,I7.unpinned,T.keep _ _ _ gu λb hb o e=>(I7.pin (b,o) (lr9 _ (lr9 _ (jwj hb e)))).1,λb hb=>?_,w7⟩;obtain⟨o,e,d⟩:=T.obj _ _ gu b hb;exact(I7.pin (b,o) (lr9 _ (lr9 _ (jwj hb e)))).2.1
  cases f with
  |next=>obtain⟨σ7,H7,I7,n7⟩:=q7;exact ck I7 n7
  |cont=>obtain⟨σ7,H7,I7,n7⟩:=q7;exact ck I7 n7
  |brk=>obtain⟨σ7,H7,I7,q7⟩:=q7;exact⟨σ7,H7,I7.unpinned,q7⟩
  |ret v=>obtain⟨x7,σ7,H7,I7,r7,q7⟩:=q7;exact⟨x7,σ7,H7,I7.unpinned,r7,q7⟩
end
abbrev R2:=V->V->Hp->VK->Prop
noncomputable def OpR(X:Cx)(f:Value->Value->Sem Value)(r:R2):Prop:=
 ∀(pins:List (Addr×Obj)) (s:Shared) (σ:St) (H:Hp) (x y:V) (v u:Value) (Q:VK),Inv X pins σ H s->RelV x v->RelV y u->r x y H Q ->
  wpAny (model X.prog X.w) X.A (f v u) (EP X pins σ Q) X.xe s
noncomputable def CallR(X:Cx)(f:Value)(r:List V->Hp->VK->Prop):Prop:=
 ∀(pins:List (Addr×Obj)) (s:Shared) (σ:St) (H:Hp) (xs:List V) (us:List Value) (Q:VK),Inv X pins σ H s->Vals xs us->r xs H Q ->
  wpAny (model X.prog X.w) X.A (call f us) (EP X pins σ Q) X.xe s
noncomputable def TruR(X:Cx)(r:V->Hp->(Bool->Hp->Prop)->Prop):Prop:=
 ∀(pins:List (Addr×Obj)) (s:Shared) (σ:St) (H:Hp) (x:V) (v:Value) (Q:Bool->Hp->Prop),Inv X pins σ H s->RelV x v->r x H Q ->
  wpAny (model X.prog X.w) X.A (truthy v) (TP X pins σ Q) X.xe s
abbrev tOp(r:R2)(ta tb:TE):TE:=fun σ H Q=>ta σ H λx H1=>tb σ H1 λy H2=>r x y H2 Q
abbrev tUn(r:V->Hp->VK->Prop)(ta:TE):TE:=fun σ H Q=>ta σ H λx H1=>r x H1 Q
def rI(C:Int->Int->Prop)(g:Int->Int->V):R2:=λx y H Q=>∃i j,x=.int i/\y=.int j/\C i j/\Q (g i j) H
def rI0(g:Int->Int->V):R2:=λx y H Q=>∃i j,x=.int i/\y=.int j/\Q (g i j) H
section
variable {X:Cx}{a b c:Expr}{ta tb tc:TE}{pos:Pos}
theorem vwd(ha:PE X a ta)(hb:PE X b tb){pins:List (Addr×Obj)}{s:Shared}{σ:St}{H:Hp}{R:V->V->Hp->Prop}(I:Inv X pins σ H s)
  (h:ta σ H λx H1=>tb σ H1 λy H2=>R x y H2) {Q:Value->Shared->Prop} {f:Value->Value->Sem Value}
  (hf:∀v u s2 x y H2,Inv X pins σ H2 s2->RelV x v->RelV y u->R x y H2->wpAny (model X.prog X.w) X.A (f v u) Q X.xe s2):
  wpAny (model X.prog X.w) X.A (eval a X.env) (λv s₁=>wpAny (model X.prog X.w) X.A (eval b X.env) (λu s₂=>wpAny (model X.prog X.w) X.A (f v u) Q X.xe s₂) X.xe s₁) X.xe s:=by
 refine thn (ha pins s σ H _ I h) λv s1 ⟨x,H1,I1,r1,q1⟩=>?_
 refine thn (hb pins s1 σ H1 _ I1 q1) λu s2 ⟨y,H2,I2,r2,q2⟩=>?_
 exact hf v u s2 x y H2 I2 r1 r2 q2
theorem vvl{op:Operator}{r:R2}(ho:OpR X (binaryOp op) r)(ha:PE X a ta)(hb:PE X b tb):PE X (.BinOp a op b pos) (tOp r ta tb):=by
 intro pins s σ H Q I h;exact wpAny_BinOp (vwd ha hb I h λv u s2 x y H2 I2 rx ry q=>ho pins s2 σ H2 x y v u Q I2 rx ry q)
theorem opI{f:Value->Value->Sem Value}{C:Int->Int->Prop}{g:Int->Int->Int}
  (gf:∀(i j:Int) (t u:Tok) (s:Shared) (Q:Value->Shared->Prop) (E:Value->Shared->Prop),C i j->Q (.int (g i j) s.toks) { s with toks:=s.toks+1 }->wpAny (model X.prog X.w) X.A (f (.int i t) (.int j u)) Q E s):
  OpR X f (rI C λi j=>.int (g i j)):=by
 intro pins s σ H x y v u Q I rx ry h;obtain⟨i,j,rfl,rfl,hc,q⟩:=h;obtain⟨t,rfl⟩:=rx;obtain⟨t',rfl⟩:=ry;exact gf i j t t' s _ _ hc ⟨.int (g i j),H,I.tok _,⟨_,rfl⟩,q⟩
theorem vx2{f:Value->Value->Sem Value}{g:Int->Int->Int}
  (gf:∀(i j:Int) (t u:Tok) (s:Shared) (Q:Value->Shared->Prop) (E:Value->Shared->Prop),Q (.int (g i j) s.toks) { s with toks:=s.toks+1 }->wpAny (model X.prog X.w) X.A (f (.int i t) (.int j u)) Q E s):
  OpR X f (rI0 λi j=>.int (g i j)):=by
 intro pins s σ H x y v u Q I rx ry h;obtain⟨i,j,rfl,rfl,q⟩:=h;obtain⟨t,rfl⟩:=rx;obtain⟨t',rfl⟩:=ry;exact gf i j t t' s _ _ ⟨.int (g i j),H,I.tok _,⟨_,rfl⟩,q⟩
theorem vvp{f:Value->Value->Sem Value}{g:Int->Int->Bool}
  (gf:∀(i j:Int) (t u:Tok) (s:Shared) (Q:Value->Shared->Prop) (E:Value->Shared->Prop),Q (.bool (g i j)) s->wpAny (model X.prog X.w) X.A (f (.int i t) (.int j u)) Q E s):
  OpR X f (rI0 λi j=>.bl (g i j)):=by
 intro pins s σ H x y v u Q I rx ry h;obtain⟨i,j,rfl,rfl,q⟩:=h;obtain⟨t,rfl⟩:=rx;obtain⟨t',rfl⟩:=ry;exact gf i j t t' s _ _ ⟨.bl (g i j),H,I,rfl,q⟩
def YX(i j:Int):Prop:=0<=j/\j<=1000000/\i.natAbs<2 ^ 64
theorem op_add:OpR X (binaryOp .Add) (rI0 λi j=>.int (i+j)):=vx2 λ_ _ _ _ _ _ _ q=>add_int q
theorem kxf:OpR X (binaryOp .Sub) (rI0 λi j=>.int (i - j)):=vx2 λ_ _ _ _ _ _ _ q=>sub_int q
theorem vjo:OpR X (binaryOp .Mod) (rI (λ_ j=>0<j) λi j=>.int (i % j)):=opI λi j _ _ _ _ _ hc q=>by
 have h1:(0:Int)<j:=hc;exact mod_int' (by omega) (by rw[Int.fmod_eq_emod_of_nonneg i (by omega)];exact q)
theorem Wk:OpR X (binaryOp .Pow) (rI YX λi j=>.int (i ^ j.toNat)):=opI λ_ _ _ _ _ _ _ hc q=>pow_int_small hc.1 hc.2.1 hc.2.2 q
theorem vjn:OpR X (binaryOp .LShift) (rI YX λi j=>.int (i*2 ^ j.toNat)):=opI λ_ _ _ _ _ _ _ hc q=>lshift_int_small hc.1 hc.2.1 hc.2.2 q
end
section
variable {X:Cx}{a b c:Expr}{ta tb tc:TE}{pos:Pos}
theorem kza{pins:List (Addr×Obj)}{σ:St}{H:Hp}{s:Shared}{Q:VK}{k k':Bool}(I:Inv X pins σ H s)(q:Q (.bl k) H)(e:k=k'):EP X pins σ Q (.bool k') s:=by
 subst e;exact⟨.bl k,H,I,rfl,q⟩
theorem Z7:OpR X (compareOp .Lt) (rI0 λi j=>.bl (decide (i<j))):=vvp λ_ _ _ _ _ _ _ q=>lt_int q
theorem qwd:OpR X (compareOp .LtE) (rI0 λi j=>.bl (decide (i<=j))):=vvp λ_ _ _ _ _ _ _ q=>le_int q
theorem Kq:OpR X (compareOp .Gt) (rI0 λi j=>.bl (decide (j<i))):=vvp λ_ _ _ _ _ _ _ q=>gt_int q
theorem kxg:OpR X (compareOp .In) (λx y H Q=>∃i j,x=.str i/\y=.str j/\Q (.bl (!(Builtin.Str.occurrences j i 0 j.length 1).isEmpty)) H):=by
 intro pins s σ H x y v u Q I rx ry h;obtain⟨i,j,rfl,rfl,q⟩:=h;obtain⟨t,rfl⟩:=rx;obtain⟨t',rfl⟩:=ry;exact in_str (kza I q rfl)
theorem qqh : OpR X (compareOp .Is) (λx y H Q=>y = .non /\ Q (.bl (decide (x = .non))) H):= by
  intro pins s σ H x y v u Q I rx ry h;obtain⟨rfl, q⟩:= h;cases ry;refine is_none_gen (kza I q ?_);cases x <;> first
    |(cases rx; rfl)
    |(obtain⟨t, rfl⟩:= rx; rfl)
theorem qwc : OpR X (compareOp .IsNot) (λx y H Q=>y = .non /\ Q (.bl (!decide (x = .non))) H):= by
  intro pins s σ H x y v u Q I rx ry h;obtain⟨rfl, q⟩:= h;cases ry;refine isnot_none_gen (kza I q ?_);cases x <;> first
    |(cases rx; rfl)
    |(obtain⟨t, rfl⟩:= rx; rfl)
theorem OpR.or{f:Value->Value->Sem Value}{r r':R2}(h:OpR X f r)(h':OpR X f r'):OpR X f (λx y H Q=>r x y H Q\/r' x y H Q):=by
 intro pins s σ H x y v u Q I rx ry q;rcases q with q|q
 ·exact h pins s σ H x y v u Q I rx ry q
 ·exact h' pins s σ H x y v u Q I rx ry q
theorem kq(b:Expr){op:CmpOp}(h:autoParam (op≠.In) ŕ)(h2:autoParam (op≠.NotIn) ŕ):behindInMarks op b=false:=by
 have e1:(op==CmpOp.In)=false:=by cases op<;>first|rfl|exact absurd rfl h
 have e2:(op==CmpOp.NotIn)=false:=by cases op<;>first|rfl|exact absurd rfl h2
 cases b<;>simp[behindInMarks,e1,e2]
theorem qw4{op:CmpOp}{r:R2}(ho:OpR X (compareOp op) r)(ha:PE X a ta)(hb:PE X b tb)(hm:behindInMarks op b=false):PE X (.Compare a [op] [b] pos) (tOp r ta tb):=by
 intro pins s σ H Q I h;exact wpAny_Compare1 (vwd ha hb I h λv u s2 x y H2 I2 rx ry q=>ho pins s2 σ H2 x y v u Q I2 rx ry q) hm
abbrev qxr(t:TE):TT:=fun σ H Q=>t σ H λx H'=>∃k,x=.bl k/\Q k H'
theorem qvw{op:CmpOp}{r:R2}(ho:OpR X (compareOp op) r)(ha:PE X a ta)(hb:PE X b tb)(hm:behindInMarks op b=false):PT X (.Compare a [op] [b] pos) (qxr (tOp r ta tb)):=by
 intro pins s σ H Q I h;refine wpAny_isTrue_Compare1 (thn (ha pins s σ H _ I h) λv s1 ⟨x,H1,I1,r1,q1⟩=>thn (hb pins s1 σ H1 _ I1 q1) λu s2 ⟨y,H2,I2,r2,q2⟩=>
  thn (ho pins s2 σ H2 x y v u _ I2 r1 r2 q2) λc s3 ⟨z,H3,I3,r3,k,e,q3⟩=>?_) hm
 subst e;cases r3;exact Y5 ⟨H3,I3,q3⟩
abbrev qq5(r r':R2)(ta tb tc:TE):TE:=fun σ H Q=>ta σ H λx H1=>tb σ H1 λy H2=>r x y H2 λz H3=>∃k,z=.bl k /\
 (if k=true then tc σ H3 λw' H4=>r' y w' H4 Q else Q (.bl false) H3)
theorem qjs{op iv:CmpOp}{r r':R2}(ho:OpR X (compareOp op) r)(fb:OpR X (compareOp iv) r')(ha:PE X a ta)(hb:PE X b tb)(hc:PE X c tc)
  (hm:lastMarks [op,iv] [b,c]=false:=by with_unfolding_all rfl):PT X (.Compare a [op,iv] [b,c] pos) (qxr (qq5 r r' ta tb tc)):=by
 intro pins s σ H Q I h;refine isTrue_chain (thn (ha pins s σ H _ I h) λv s1 ⟨x,H1,I1,r1,q1⟩=>test_link (thn (hb pins s1 σ H1 _ I1 q1) λu s2 ⟨y,H2,I2,r2,q2⟩=>
  thn (ho pins s2 σ H2 x y v u _ I2 r1 r2 q2) λd s3 ⟨z,H3,I3,r3,k,e,q3⟩=>?_)) hm
 subst e;cases r3;refine Y5 ?_;cases k with
 |false=>
  obtain⟨k',e',q'⟩:=q3;cases e';exact ite_ff ⟨H3,I3,q'⟩
 |true=>
  refine ite_tt (test_last (thn (hc pins s3 σ H3 _ I3 q3) λw' s4 ⟨z',H4,I4,r4,q4⟩=>thn (fb pins s4 σ H4 y z' u w' _ I4 r2 r4 q4) λd' s5 ⟨z2,H5,I5,r5,k2,e2,q5⟩=>?_));subst e2;cases r5;exact Y5 ⟨H5,I5,q5⟩
noncomputable def vqq(K:PySem.W.Frag)(x:V)(H:Hp)(k:Bool):Prop:=
 match x with
 |.non=>k=false
 |.bl b=>k=b
 |.int i=>k=(i != 0)
 |.str y=>y.length<=sizeLine/\k=((y.length:Int) != 0)
 |.byt y=>y.size<=sizeLine/\k=((y.size:Int) != 0)
 |.ref p=>(∃xs,SqL K H p xs/\k=!xs.isEmpty)\/(∃xs,SqT K H p xs/\k=!xs.isEmpty)\/∃ax,H p=some (.dK ax)/\k=!ax.isEmpty
 |_=>False
theorem kw6{κ:Type}{ax:List (κ×V)}{vs:List (κ×Value)}(r:KV ax vs):(!vs.isEmpty)=!ax.isEmpty:=by
 cases r<;>rfl
theorem jze{xs:List V}{ai:List Value}(r:Vals xs ai):(!ai.toArray.isEmpty)=!xs.isEmpty:=by
 cases r<;>simp
theorem Qq:(sizeLine:Nat)<2 ^ 63:=by rw[sizeLine_eq];decide
theorem qq4:TruR X (λx H Q=>∃k,vqq X.K x H k/\Q k H):=by
 intro pins s σ H x v Q I rx h;obtain⟨k,e,q⟩:=h;have hl:=Qq;have hs:sizeLine=16777216:=sizeLine_eq;cases x with
 | non=>
  cases rx;have e':k=false:=e;subst e';exact truthy_none ⟨H,I,q⟩
 | bl b=>
  cases rx;have e':k=b:=e;subst e';exact Y5 ⟨H,I,q⟩
 | int i=>
  obtain⟨t,rfl⟩:=rx;have e':k=(i != 0):=e;subst e';exact PySem.P.truthy_int ⟨H,I,q⟩
 | str y=>
  obtain⟨t,rfl⟩:=rx;obtain⟨hy,e'⟩:y.length<=sizeLine/\k=((y.length:Int) != 0):=e;subst e';exact PySem.P.truthy_str (by omega) ⟨H,I.tok _,q⟩
 | byt y=>
  obtain⟨t,rfl⟩:=rx;obtain⟨hy,e'⟩:y.size<=sizeLine/\k=((y.size:Int) != 0):=e;subst e';exact PySem.W.truthy_bytes (by omega) ⟨H,I.tok _,q⟩
 | ref p=>
  cases rx;have e':(∃xs,SqL X.K H p xs/\k=!xs.isEmpty)\/(∃xs,SqT X.K H p xs/\k=!xs.isEmpty)\/∃ax,H p=some (.dK ax)/\k=!ax.isEmpty:=e;rcases e' with⟨xs,hx,e'⟩|⟨xs,hx,e'⟩|⟨ax,hx,e'⟩
  ·subst e';obtain⟨ai,r,pl,hz⟩:=I.list hx;have b6:=r.length;exact wpAny_truthy_list pl.isList (by simp only[X4];omega) ⟨H,I.tok _,by rw[jze r];exact q⟩
  ·subst e';obtain⟨ai,r,pl,hz⟩:=I.tuple hx;have b6:=r.length;exact truthy_tuple pl (by simp only[X4];omega) ⟨H,I.tok _,by rw[jze r];exact q⟩
  ·subst e';obtain⟨hz,hS,vs,r,m⟩:ax.length<=sizeLine/\(p==sysModules)=false/\∃vs,KV ax vs/\s.heap.DictOf (YY X.prog X.w) p vs:=I.hok p _ hx;have b6:ax.length=vs.length:=Paired.length r;exact wpAny_truthy_dict hS m (by omega) ⟨H,I.tok _,by rw[kw6 r];exact q⟩
 |_=>exact(show False from e).elim
theorem qjr(ha:PE X a ta)(he:∀da,isTrue a X.env da=(do let v <-da;standAt a.pos;holding [v] (truthy v))):
  PT X a (fun σ H Q=>ta σ H λx H'=>∃k,vqq X.K x H' k/\Q k H'):=by
 intro pins s σ H Q I h;exact isTrue_plain (thn (ha pins s σ H _ I h) λv s1 ⟨x,H1,I1,r1,q1⟩=>qq4 pins s1 σ H1 x v Q I1 r1 q1) (he _)
theorem op_add_str:OpR X (binaryOp .Add) (λx y H Q=>∃i j,x=.str i/\y=.str j/\i.length+j.length<=sizeLine/\Q (.str (i++j)) H):=by
 intro pins s σ H x y v u Q I rx ry h;obtain⟨i,j,rfl,rfl,hz,q⟩:=h;obtain⟨t,rfl⟩:=rx;obtain⟨t',rfl⟩:=ry;exact add_str (λt' tk=>⟨.str (i++j),H,I.tok _,⟨_,rfl⟩,q⟩) hz
theorem JQ{x:V}{us:List Value}(r:Vals [x] us):∃u,us=[u]/\RelV x u:=by
 cases r with
 |cons r1 r2=>cases r2;exact⟨_,rfl,r1⟩
theorem K6{x y:V}{us:List Value}(r:Vals [x,y] us):∃u w',us=[u,w']/\RelV x u/\RelV y w':=by
 cases r with
 |cons r1 r2=>
  cases r2 with
  |cons r3 r4=>cases r4;exact⟨_,_,rfl,r1,r3⟩
theorem kzv:CallR X (.type "int") (λxs H Q=>(∃i,xs=[.int i]/\Q (.int i) H)\/∃k,xs=[.bl k]/\Q (.int (if k then 1 else 0)) H):=by
 intro pins s σ H xs us Q I r h;rcases h with⟨i,rfl,q⟩|⟨k,rfl,q⟩
 ·obtain⟨u,rfl,t,rfl⟩:=JQ r;exact call_int_int ⟨.int i,H,I,⟨_,rfl⟩,q⟩
 ·obtain⟨u,rfl,r1⟩:=JQ r;cases r1;exact call_int_bool ⟨.int (if k then 1 else 0),H,I.tok _,⟨_,rfl⟩,q⟩
end
structure ObjM (h:Heap)(x dx C:Addr)(mA:Str->Option Value):Prop where
 obj:h.get? x=some (PySem.W.instObj C dx)
 ns:h.Ns1 dx mA
 ne:dx≠x
theorem kxo{h:Heap}{dx:Addr}{mA:Str->Option Value}(n:h.Ns1 dx mA):∃od,h.get? dx=some od/\∀name,PySem.W.lookIn name od=some (mA name):=by
 obtain⟨o,es,ep,ho,hd,hk,_,hm⟩:=n;refine⟨o,ho,λname=>?_⟩;have e:=hm name;unfold nsFind findBy at e;rw[<-Array.find?_toList]at e;unfold PySem.W.lookIn;rw[hd];dsimp only
 split
 ·rename_i y q;rw[q]at e;exact congrArg some e
 ·rename_i q;rw[q]at e;have a:es.toList.any (·.refKey)=false:=by
   rw[List.any_eq_false];intro y hy;obtain⟨z,t,hkey⟩:=hk y (Array.mem_toList_iff.mp hy);simp[DictEntry.refKey,hkey]
  have a':¬es.toList.any (·.refKey)=true:=by rw[a];exact Bool.false_ne_true
  rw[Xg a'];exact congrArg some e
theorem ObjM.look{h:Heap}{x dx C:Addr}{mA:Str->Option Value}(I:ObjM h x dx C mA):∃od,PySem.W.InstAt h x (PySem.W.instObj C dx) C (some od)/\∀name,PySem.W.lookIn name od=some (mA name):=
 let ⟨od,ho,hl⟩:=kxo I.ns
 ⟨od,⟨I.obj,rfl,rfl,ho⟩,hl⟩
section
variable {P:Program}{w:World}{H H':Hp}{h h':Heap}{a C dx:Addr}{fs fs':List (Str×V)}
theorem qx0(hok:HOk P w H h)(e:H a=some (.ins C dx fs)):∃mA,ObjM h a dx C mA/\(∀f,vwg (fs.lookup f) (mA f))/\PySem.Within mA (fs.map (·.1))/\fs.length<=1000/\H dx=some (.own a):=by
 obtain⟨d,z,ne,ob,mA,n,r,q⟩:=(show ObjOk P w H h a (.ins C dx fs)from hok a _ e);exact⟨mA,⟨ob,n,ne⟩,r,q,z,d⟩
end
structure Cls (K:PySem.W.Frag)(C:Addr):Prop where
 pg:PySem.W.plainGet K C Str.empty=true
 hd:PySem.W.hasDictIn K C=true
 po:PySem.W.plainOver K C=true
 sa:PySem.W.findIn K (.ref C) "__setattr__"=some (some (.builtin "object.__setattr__"))
theorem Cls.get{K:PySem.W.Frag}{C:Addr}(c:Cls K C)(f:Str):PySem.W.plainGet K C f=true:=c.pg
section
variable {X:Cx}{pins:List (Addr×Obj)}{σ:St}{H:Hp}{s:Shared}{A:Around}{E:Value->Shared->Prop}{Q:Value->Shared->Prop}{c:Value}{b:Bool}
inductive TyOf (K:PySem.W.Frag)(H:Hp):V->Value->Prop where
 | non:TyOf K H .non (.type "NoneType")
 | bl (x:Bool):TyOf K H (.bl x) (.type "bool")
 | int (i:Int):TyOf K H (.int i) (.type "int")
 | str (x:Str):TyOf K H (.str x) (.type "str")
 | flt (x:UInt64):TyOf K H (.flt x) (.type "float")
 | lst {a:Addr} {xs:List V} (e:H a=some (.lst xs)):TyOf K H (.ref a) (.type "list")
 | frz {a:Addr} {o:Obj} {xs:List V} (e:H a=some (.frz o (.lst xs))):TyOf K H (.ref a) (.type "list")
 | tup {a:Addr} {xs:List V} (e:H a=some (.tup xs)):TyOf K H (.ref a) (.type "tuple")
 | dK {a:Addr} {ax:List (Key×V)} (e:H a=some (.dK ax)):TyOf K H (.ref a) (.type "dict")
 | dT {a:Addr} {ax:List (List Key×V)} (e:H a=some (.dT ax)):TyOf K H (.ref a) (.type "dict")
 | ins {a C dx:Addr} {fs:List (Str×V)} (e:H a=some (.ins C dx fs)) (cl:Cls K C) (ha:PySem.W.findIn K (.ref C) "__class__"=some (some (.builtin "object.__class__")))
   (hn:PySem.W.specialIn K (.builtin "object.__class__") "__get__"=some (some (.builtin "getset_descriptor.__get__"))) (htk:PySem.W.takesIn K (.builtin "object.__class__")=some true)
   (hm:PySem.W.mroIn K C (.type "object")=some true):TyOf K H (.ref a) (.ref C)
theorem kz2{x:V}{u t:Value}(I:Inv X pins σ H s)(rx:RelV x u)(ty:TyOf X.K H x t)(e:PySem.W.kitOne X.K t c=some b)(h:∀tk,Q (.bool b) { s with toks:=tk }):
  wpAny (model X.prog X.w) A (call (.builtin "isinstance") [u,c]) Q E s:=by
 cases ty with
 |non=>cases(show u=Value.none from rx);exact Xq PySem.W.kitx_none I.kIn True.intro e (λz=>nomatch z) h
 |bl y=>cases(show u=Value.bool y from rx);exact Xq PySem.W.kitx_bool I.kIn True.intro e (λz=>nomatch z) h
 |int i=>obtain⟨t,q⟩:=(show ∃t,u=Value.int i t from rx);cases q;exact Xq PySem.W.kitx_int I.kIn True.intro e (λz=>nomatch z) h
 |str y=>obtain⟨t,q⟩:=(show ∃t,u=Value.str y t from rx);cases q;exact Xq PySem.W.kitx_str I.kIn True.intro e (λz=>nomatch z) h
 |flt y=>obtain⟨t,q⟩:=(show ∃t,u=Value.float y t from rx);cases q;exact Xq PySem.W.kitx_float I.kIn True.intro e (λz=>nomatch z) h
 |@lst a xs ea=>
  cases(show u=Value.ref a from rx);obtain⟨_,_,n,_,h1⟩:=(show ObjOk X.prog X.w H s.heap a (.lst xs)from I.hok a _ ea);exact Xq PySem.W.kitx_list I.kIn ⟨_,h1,rfl⟩ e (λz=>nomatch z) h
 |@frz a ob xs ea=>
  cases(show u=Value.ref a from rx);obtain⟨_,_,_,n,_,h1⟩:=(show ObjOk X.prog X.w H s.heap a (.frz ob (.lst xs))from I.hok a _ ea);exact Xq PySem.W.kitx_list I.kIn ⟨_,h1,rfl⟩ e (λz=>nomatch z) h
 |@tup a xs ea=>
  cases(show u=Value.ref a from rx);obtain⟨_,_,_,p⟩:=(show ObjOk X.prog X.w H s.heap a (.tup xs)from I.hok a _ ea);obtain⟨o,h1,h2,_⟩:=p;exact Xq PySem.W.kitx_tuple I.kIn ⟨o,h1,h2⟩ e (λz=>nomatch z) h
 |@dK a ax ea=>
  cases(show u=Value.ref a from rx);obtain⟨_,_,vs,_,p⟩:=(show ObjOk X.prog X.w H s.heap a (.dK ax)from I.hok a _ ea);obtain⟨o,es,ep,h1,h2,_⟩:=p;exact Xq PySem.W.kitx_dict I.kIn ⟨o,h1,h2.1⟩ e (λz=>nomatch z) h
 |@dT a ax ea=>
  cases(show u=Value.ref a from rx);obtain⟨_,_,xs,_,o,es,ep,h1,h2,_⟩:=(show ObjOk X.prog X.w H s.heap a (.dT ax)from I.hok a _ ea);exact Xq PySem.W.kitx_dict I.kIn ⟨o,h1,h2.1⟩ e (λz=>nomatch z) h
 |@ins a C dx fs ea cl ha hn htk hm=>
  cases(show u=Value.ref a from rx);obtain⟨mA,O,_⟩:=qx0 I.hok ea;obtain⟨od,J,_⟩:=O.look;exact Xq (PySem.W.kitx_own (cl.get _) cl.hd ha hn htk hm) I.kIn J e (λz=>nomatch z) h
end
structure Room (k:Nat)(A:Around):Prop where
 hd:A.handled=none
 dp:A.depth+3*k+5<recursionLimit
 un:A.units+16*k+200<cLine
 gd:A.guards=some []
theorem Room.mono{j k:Nat}{A:Around}(r:Room k A)(h:j<=k):Room j A:=⟨r.hd,by have:=r.dp;omega,by have:=r.un;omega,r.gd⟩
theorem Room.deeper{k:Nat}{A:Around}(r:Room (k+1) A)(env:Env):Room k (A.deeper env):=
 ⟨r.hd,by have:=r.dp;show A.depth+1+3*k+5<_;omega,by have:=r.un;show A.units+3+16*k+200<_;omega,r.gd⟩
theorem Room.depth{k:Nat}{A:Around}(r:Room k A):A.depth<recursionLimit:=by have:=r.dp;omega
theorem Room.units{k:Nat}{A:Around}(r:Room k A):A.units+64<cLine:=by have:=r.un;omega
abbrev Yv:TA:=λ_ H Q=>Q [] H
abbrev Q7(ta:TE)(tr:TA):TA:=fun σ H Q=>ta σ H λx H1=>tr σ H1 λxs H2=>Q (x::xs) H2
section
variable {X:Cx}{e:Expr}{es:List Expr}{te:TE}{t:TA}{pos:Pos}
theorem vx:PA X [] Yv:=λ_ _ _ _ H Q I h=>Calls.spliced_nil ⟨[],H,I,.nil,h⟩
theorem kZ(ha:PE X e te)(hr:PA X es t)(hs:autoParam (starEach (e::es) X.env=(false,eval e X.env)::starEach es X.env) Ŕ):PA X (e::es) (Q7 te t):=by
 intro pos pins s σ H Q I h;rw[hs];show wpAny _ _ (spliced ((false,eval e X.env)::backTo pos (starEach es X.env))) _ _ s;refine Yf (thn (ha pins s σ H _ I h) λu s1 ⟨x,H1,I1,r1,q1⟩=>?_);exact thn (hr pos pins s1 σ H1 _ I1 q1) λus s2 ⟨xs,H2,I2,r2,q2⟩=>⟨x::xs,H2,I2,.cons r1 r2,q2⟩
abbrev tTup(t:TA):TE:=fun σ H Q=>t σ H λxs H1=>xs.length<=sizeLine/\∀p,H1 p=none->Q (.ref p) (upd H1 p (.tup xs))
abbrev tLst(t:TA):TE:=fun σ H Q=>t σ H λxs H1=>xs.length<=sizeLine/\∀p,H1 p=none->Q (.ref p) (upd H1 p (.lst xs))
theorem qqd{x1}(h:PA X es t):PE X (.Tuple es x1 pos) (tTup t):=by
 intro pins s σ H Q I hq;refine wpAny_Tuple_spliced (thn (h pos pins s σ H _ I hq) λus s1 ⟨xs,H1,I1,r,z,q⟩=>⟨by rw[<-r.length];exact z,?_⟩);have hf:H1 s1.heap.objs.size=none:=I1.hok.fresh (Xb _);refine⟨.ref s1.heap.objs.size,upd H1 s1.heap.objs.size (.tup xs),I1.laid (t':=s1.toks) (λb u e=>X6 _ e) (Xb _) ?_,rfl,q _ hf⟩;exact⟨z,us,r,⟨_,Xk _ rfl,rfl,rfl,_,rfl⟩⟩
theorem qqe(h:PA X es t):PE X (.List es pos) (tLst t):=by
 intro pins s σ H Q I hq;refine wpAny_List_spliced (thn (h pos pins s σ H _ I hq) λus s1 ⟨xs,H1,I1,r,z,q⟩=>⟨by rw[<-r.length];exact z,?_⟩);have hf:H1 s1.heap.objs.size=none:=I1.hok.fresh (Xb _);refine⟨.ref s1.heap.objs.size,upd H1 s1.heap.objs.size (.lst xs),I1.laid (t':=s1.toks) (λb u e=>X6 _ e) (Xb _) ?_,rfl,q _ hf⟩;exact⟨z,us,0,r,Xk _ rfl⟩
end
abbrev Sp:=List V->Hp->VK->XK->Prop
abbrev CXT:=List Env->Hp->Shared->XK->Value->Shared->Prop
structure Env0 (P:Program)(w:World)(K:PySem.W.Frag)(mg:Str->Option Value)(base:Heap)(A:Around)(outer:List Env)(s:Shared)(H:Hp):Prop where
 frames:A.frames=some outer
 mod:Mod K mg base
 bs:∀b o,base.get? b=some o->s.heap.get? b=some o/\H b=none
 bsz:base.objs.size<=s.heap.objs.size
 funs:s.heap.FunFrames base outer
 frf:∀b∈frs outer,H b=none
 hok:HOk P w H s.heap
 bare:AllBare s.gens
noncomputable def CE(outer:List Env)(P:Program)(w:World)(H:Hp)(s:Shared)(Q:VK)(u:Value)(s':Shared):Prop:=
 ∃v H',s'.os=s.os/\AllBare s'.gens/\Un (frs outer) [] H H' s.heap s'.heap/\HOk P w H' s'.heap/\RelV v u/\Q v H'
noncomputable def CR(CX:CXT)(outer:List Env)(P:Program)(w:World)(H:Hp)(s:Shared)(Q:VK)(E:XK)(r:Result)(s':Shared):Prop:=
 match r with
 |.ok (.ret u)=>CE outer P w H s Q u s'
 |.ok _=>False
 |.error e=>CX outer H s E e s'
structure FnOk (P:Program)(w:World)(K:PySem.W.Frag)(mg:Str->Option Value)(base:Heap)(CX:CXT)(k:Nat)(f:Addr)(fd:FuncData)(ps:List Str)(sp:Sp):Prop where
 len:∀vs H Q E,sp vs H Q E->vs.length=ps.length
 run:∀(A:Around) (outer:List Env) (s:Shared) (H:Hp) (args:Args) (us:List Value) (vs:List V) (Q:VK) (E:XK),Room k A->Env0 P w K mg base A outer s H->BindsTo s fd args (ps.zip us)->Vals vs us->sp vs H Q E ->
  codeAny (model P w) A (.call (.ref f) args) (CR CX outer P w H s Q E) s
section
variable {X:Cx}{pins:List (Addr×Obj)}{σ:St}{H:Hp}{s s':Shared}
theorem Inv.env0(I:Inv X pins σ H s):Env0 X.prog X.w X.K X.mg X.base X.A X.stack s H:=
 ⟨I.ok.frames,I.ok.mod,I.bs,Xl I.ok.bsz I.sz,I.stack,I.stkFree,I.hok,I.bare⟩
theorem Inv.after{Q:VK}{u:Value}(I:Inv X pins σ H s)(h:CE X.stack X.prog X.w H s Q u s'):EP X pins σ Q u s':=by
 obtain⟨v,H',os,bare,un,hok,r,q⟩:=h;obtain⟨hh,g,d,t,os'⟩:=s';obtain rfl:os'=s.os:=os;exact⟨v,H',I.call (h':=hh) (g':=g) (d':=d) (t':=t) (ch:=[]) un hok bare (λb z=>absurd z (by simp)),r,q⟩
end
abbrev qvc(sp:Sp)(ia:List V)(E:XK)(t:TA):TE:=fun σ H Q=>t σ H λvs H1=>sp (vs++ia) H1 Q E
noncomputable def Binds(K:PySem.W.Frag)(fd:FuncData)(ps:List Str)(ds:List Value):Prop:=
 ∀(s:Shared) (us:List Value),K.In s.heap->(us++ds).length=ps.length->BindsTo s fd ⟨us,[]⟩ (ps.zip (us++ds))
theorem Binds.all{K:PySem.W.Frag}{fd:FuncData}{ps:List Str}(h:∀us:List Value,us.length=ps.length->bindArgs fd ⟨us,[]⟩=pure (ps.zip us)):Binds K fd ps []:=λs us _ hl=>by
 rw[Xs]at hl ⊢;exact .of_eq (h us hl)
noncomputable def qj6(CX:CXT)(X:Cx)(E:XK):Prop:=∀(pins:List (Addr×Obj)) (σ:St) (H:Hp) (s:Shared) (e:Value) (s':Shared),Inv X pins σ H s->CX X.stack H s E e s'->X.xe e s'
section
variable {X:Cx}{CX:CXT}{k:Nat}{f C:Addr}{fd:FuncData}{ps:List Str}{sp:Sp}{ia:List V}{ds:List Value}{E:XK}{x m:Str}{p pos bb:Pos}{e o:Expr}{es:List Expr}{ta:TE}{t:TA}
theorem qza{pins:List (Addr×Obj)}{σ:St}{H:Hp}{s:Shared}{Q:VK}{us:List Value}{vs:List V}(F:FnOk X.prog X.w X.K X.mg X.base CX k f fd ps sp)(hr:Room k X.A)(hb:Binds X.K fd ps ds)(hd:Vals ia ds)(hx:qj6 CX X E)
  (I:Inv X pins σ H s) (r:Vals vs us) (h:sp (vs++ia) H Q E):wpAny (model X.prog X.w) X.A (call (.ref f) us) (EP X pins σ Q) X.xe s:=by
 have r2:Vals (vs++ia) (us++ds):=r.append hd;have hl:(us++ds).length=ps.length:=by rw[<-r2.length];exact F.len _ _ _ _ h
 refine wpAny_call (codeAny_mono (F.run X.A X.stack s H ⟨us,[]⟩ (us++ds) (vs++ia) Q E hr I.env0 (hb s us I.kIn hl) r2 h) λr s' hq=>?_);cases r with
 |error e=>exact hx pins σ H s e s' I hq
 |ok fl=>
  cases fl with
  |ret u=>exact I.after hq
  |next=>exact False.elim hq
  |brk=>exact False.elim hq
  |cont=>exact False.elim hq
theorem qw5(F:FnOk X.prog X.w X.K X.mg X.base CX k f fd ps sp)(hr:Room k X.A)(hg:Gl X x)(hm:X.mg x=some (.ref f))(hk:PySem.W.keepIn X.K (.ref f)=true)(hb:Binds X.K fd ps ds)(hd:Vals ia ds)(hx:qj6 CX X E)
  (ha:PA X (e::es) t) (cy:autoParam ((x==("__debug__":Str))=false) ŕ) (he:autoParam (starEach (e::es) X.env=(false,eval e X.env)::starEach es X.env) Ŕ) (bz:autoParam ((backTo pos (starEach es X.env)).any (·.1)=false) Ŕ):
  PE X (.Call (.Name x p) (e::es) [] pos) (qvc sp ia E t):=by
 intro pins s σ H Q I h;refine wpAny_Call_Name_kw (V5 I hg hm ?_ cy);refine PySem.W.callWith_K (h₀:=X.base) I.ok.mod.kin hk (thn (ha pos pins s σ H _ I h) λus s1 ⟨vs,H1,I1,r,q⟩=>⟨I1.kIn,?_⟩) he bz;exact qza F hr hb hd hx I1 r q
end
structure FnScope (N P:List Str)(sc:Scope):Prop where
 kind:sc.kind=.function
 co:sc.isCoroutine=false
 gen:sc.isGenerator=false
 nd:N.Nodup
 pre:N.take P.length=P
 par:∀x∈P,sc.names.lookup x=some .local\/sc.names.lookup x=some .cell
 nofree:∀y∈sc.names,y.2≠.free
theorem kkd{kindOf : Str -> Option NameKind}{x : Str}: ∀{binds : List (Str × Value)} {m : Str -> Option Value}, (∀v, (x, v)∉binds) -> bindL kindOf binds m x = m x
  | [], _, _=>rfl
  | (n, v)::r, m, h=>by
    unfold bindL;rw[kkd λw hw=>h w (lc9 _ hw)]
    split
    · have : x≠n:= by rintro rfl; exact h v X3
      simp[this]
    · rfl
theorem kkf{kindOf : Str -> Option NameKind}{x : Str}: ∀{binds : List (Str × Value)} {m : Str -> Option Value}, (∀v, (x, v)∉binds) -> bindC kindOf binds m x = m x
  | [], _, _=>rfl
  | (n, v)::r, m, h=>by
    unfold bindC;rw[kkf λw hw=>h w (lc9 _ hw)]
    split
    · rfl
    · have : x≠n:= by rintro rfl; exact h v X3
      simp[this]
theorem kke{kindOf:Str->Option NameKind}{x:Str}{v:Value}:∀{P:List Str} {vs:List Value} {i:Nat} {m:Str->Option Value},P.Nodup->P[i]?=some x->vs[i]?=some v->kindOf x=some .local ->
  bindL kindOf (P.zip vs) m x=some v
 |[],_,_,_,_,h,_,_=>by simp at h
 |_::_,[],_,_,_,_,h,_=>by simp at h
 |p::P,w::vs,0,m,nd,h1,h2,hk=>by
  simp at h1 h2;subst h1;subst h2;show bindL kindOf ((p,w)::P.zip vs) m p=_;unfold bindL;rw[kkd λv hv=>(List.nodup_cons.mp nd).1 (List.of_mem_zip hv).1,X9 hk];simp
 |p::P,w::vs,i+1,m,nd,h1,h2,hk=>by
  show bindL kindOf ((p,w)::P.zip vs) m x=_;unfold bindL;exact kke (i:=i) (List.nodup_cons.mp nd).2 (by simpa using h1) (by simpa using h2) hk
theorem kkg{kindOf:Str->Option NameKind}{x:Str}{v:Value}:∀{P:List Str} {vs:List Value} {i:Nat} {m:Str->Option Value},P.Nodup->P[i]?=some x->vs[i]?=some v->kindOf x≠some .local ->
  bindC kindOf (P.zip vs) m x=some v
 |[],_,_,_,_,h,_,_=>by simp at h
 |_::_,[],_,_,_,_,h,_=>by simp at h
 |p::P,w::vs,0,m,nd,h1,h2,hk=>by
  simp at h1 h2;subst h1;subst h2;show bindC kindOf ((p,w)::P.zip vs) m p=_;unfold bindC;rw[kkf λv hv=>(List.nodup_cons.mp nd).1 (List.of_mem_zip hv).1,Xg hk];simp
 |p::P,w::vs,i+1,m,nd,h1,h2,hk=>by
  show bindC kindOf ((p,w)::P.zip vs) m x=_;unfold bindC;exact kkg (i:=i) (List.nodup_cons.mp nd).2 (by simpa using h1) (by simpa using h2) hk
def start(N:List Str)(vs:List V):St:=vs.map some++List.replicate (N.length - vs.length) none
noncomputable def x9(CX:CXT)(P:Program)(w:World)(K:PySem.W.Frag)(mg:Str->Option Value)(base:Heap)(N:List Str)(qual:Str)(scope:Scope)(f:Addr)(cd:Value)(A:Around)(outer:List Env)(s:Shared)(H:Hp)(E:XK):Cx where
 prog:=P
 w:=w
 K:=K
 mg:=mg
 base:=base
 A:=A.deeper (envOfC qual scope s.heap.objs.size f cd)
 N:=N
 s₀:=s
 H₀:=H
 env:=envOfC qual scope s.heap.objs.size f cd
 outer:=outer
 stack:=envOfC qual scope s.heap.objs.size f cd::outer
 ex:=[]
 calm:=true
 fn:=λ_=>true
 pn:=[]
 xe:=λe s'=>wpAny (model P w) (A.deeper (envOfC qual scope s.heap.objs.size f cd)) (leaving (envOfC qual scope s.heap.objs.size f cd) e) (λ_ iu=>CX outer H s E e iu) (λe' iu=>CX outer H s E e' iu) s'
theorem kvk{sc:Scope}{n:Nat}{x:Str}(h:sc.names.lookup x=some .cell):∃c,(cellsFrom n sc.names []).lookup x=some c:=by
 have q:=PySem.W.cellsFrom_some sc.names n [] (.inl h);exact Option.isSome_iff_exists.mp q
theorem kz3{CX:CXT}{P:Program}{w:World}{K:PySem.W.Frag}{mg:Str->Option Value}{base:Heap}{N ps:List Str}{qual:Str}{scope:Scope}{f:Addr}{cd:Value}{A:Around}{outer:List Env}{s s1:Shared}{H:Hp}{E:XK}{us:List Value}{vs:List V}
  (S:FnScope N ps scope) (hd:A.handled=none) (e0:Env0 P w K mg base A outer s H) (hl:vs.length=ps.length) (r:Vals vs us)
  (x:InCallC s s.heap.objs.size (bindL (envOfC qual scope s.heap.objs.size f cd).kindOf (ps.zip us) λ_=>none) (cellsFrom (s.heap.objs.size+1) scope.names []) (bindC (envOfC qual scope s.heap.objs.size f cd).kindOf (ps.zip us) λ_=>none) s1):
  Inv (x9 CX P w K mg base N qual scope f cd A outer s H E) [] (start N vs) H s1:=by
 have bz:ps.length<=N.length:=by have:=congrArg List.length S.pre;rw[Ye]at this;omega
 obtain⟨h1,tk,rfl,hk⟩:=x.done;have lj:∀b:Addr,b∉(x9 CX P w K mg base N qual scope f cd A outer s H E).ex:=λb z=>absurd (show b∈([]:List Addr)from z) (by simp)
 refine⟨⟨e0.mod,S.kind,rfl,rfl,Xb _,λy z c h1 h2=>?_,λy hy=>?_,λy c _ h=>?_,λ_=>hd,Around.frames_deeper e0.frames,.inr ⟨rfl,rfl⟩,λb z=>absurd z (lj b),e0.bs,e0.bsz,λb _ _=>lj b,λb z=>absurd z (lj b),e0.funs,e0.frf⟩,
  rfl,e0.bare,Un.kept hk,⟨_,x.toInCall.ns,λi y v h1 h2 h3=>?_⟩,λy c h=>⟨_,x.cell y c h⟩,e0.hok.fresh (Xb _),λy c h=>?_,λp hp=>absurd (show p∈([]:List (Addr×Obj))from hp) (by simp),e0.hok.kept hk,?_⟩
 ·exact name_of_addr x.apart (Y2 h1) (Y2 h2)
 ·have hy:scope.names.lookup y=some .cell\/scope.names.lookup y=some .free:=hy;rcases hy with hy|hy
  ·exact kvk hy
  ·exact absurd rfl (S.nofree _ (Y2 hy))
 ·exact Nat.le_of_lt (x.above y c (Y2 h))
 ·have hi:i<vs.length:=by
   unfold start at h2
   by_cases hi:i<vs.length
   ·exact hi
   ·rw[List.getElem?_append_right (by simpa using hi)]at h2;rw[List.getElem?_replicate]at h2
    split at h2<;>cases h2
  have ha:vs[i]?=some v:=by
   unfold start at h2;rw[List.getElem?_append_left (by simpa using hi),Y6]at h2;cases e:vs[i]? with
   |none=>rw[e]at h2;cases h2
   |some a=>rw[e]at h2;cases h2;rfl
  obtain⟨u,hu,rv⟩:=r.get ha;have hp:ps[i]?=some y:=by
   rw[<-S.pre,List.getElem?_take_of_lt (by omega)];exact h1
  have ndP:ps.Nodup:=by rw[<-S.pre];exact S.nd.sublist (List.take_sublist _ _)
  refine⟨u,rv,?_⟩;rcases S.par y (List.mem_of_getElem? hp)with k|k
  ·exact .inl ⟨k,kke ndP hp hu k⟩
  ·obtain⟨c,e⟩:=kvk (n:=s.heap.objs.size+1) k;refine .inr ⟨.inl k,c,e,?_⟩;have q:=x.cell y c e;rw[kkg ndP hp hu (by show scope.names.lookup y≠_;rw[k];decide)]at q;exact q
 ·exact e0.hok.fresh (Nat.le_of_lt (x.above y c (Y2 h)))
 ·unfold start;show _=N.length;rw[Xx,X7,Y3];omega
theorem vw1{CX:CXT}{P:Program}{w:World}{K:PySem.W.Frag}{mg:Str->Option Value}{base:Heap}{k:Nat}{f:Addr}{name qual:Str}{params:Arguments}{body:List Stmt}{scope:Scope}{dV kV dv pm br ct oc:Value}{an od:Option Addr}
  {gq:Array (Option Value)} {N ps:List Str} {sp:Sp} (lk:K.lookup f=some ⟨oc,od,.func (PySem.W.fnOf name qual params body scope dV kV dv pm an br ct),gq⟩) (dq:PySem.W.codeIn K br qual=true) (S:FnScope N ps scope)
  (len:∀vs H Q E,sp vs H Q E->vs.length=ps.length)
  (gb:∀(A:Around) (outer:List Env) (s:Shared) (H:Hp) (vs:List V) (Q:VK) (E:XK),Room k (A.deeper (envOfC qual scope s.heap.objs.size f br))->sp vs H Q E ->
   ∃t,PSs (x9 CX P w K mg base N qual scope f br A outer s H E) body t/\t { nx:=λ_ H'=>Q .non H',rt:=Q } (start N vs) H):
  FnOk P w K mg base CX (k+1) f (PySem.W.fnOf name qual params body scope dV kV dv pm an br ct) ps sp:=by
 refine⟨len,λA outer s H args us vs Q E hr e0 hb r dr=>?_⟩;have hl:=len _ _ _ _ dr;have KX:K.In s.heap:=e0.mod.kin.keeps λb o e=>(e0.bs b o e).1
 have lim:s.heap.NoLimit:=e0.mod.nolimit.keeps λb o e=>(e0.bs b o e).1
 have la:∀y∈ps.zip us,scope.names.lookup y.1=some .local\/(scope.names.lookup y.1=some .cell/\((cellsFrom (s.heap.objs.size+1) scope.names []).lookup y.1).isSome=true):=λ⟨n,v⟩ hy=>by
  rcases S.par n (List.of_mem_zip hy).1 with q|q
  ·exact .inl q
  ·exact .inr ⟨q,PySem.W.cellsFrom_some _ _ _ (.inl q)⟩
 refine codeAny_call_function hr.depth (KX _ _ lk) rfl S.co S.gen rfl (PySem.W.codeRec_of KX dq) (hb _ _ _ _ ?_);refine wpAny_newFunctionEnv_cells S.kind la λenv he s1 x=>?_
 subst he;refine⟨lim.keeps x.toInCall.keep,codeAny_func ?_⟩;obtain⟨t,ht,hq⟩:=gb A outer s H vs Q E (hr.deeper _) dr;have I:Inv (x9 CX P w K mg base N qual scope f br A outer s H E) [] (start N vs) H s1:=kz3 S hr.hd e0 hl r x;refine wpAny_mono (ht [] s1 (start N vs) H _ I hq) (λfl s' hs=>?_) λe s' hs=>hs
 have fin:∀{σ':St} {H':Hp} {v:V} {u:Value},Inv (x9 CX P w K mg base N qual scope f br A outer s H E) [] σ' H' s'->RelV v u->Q v H'->CE outer P w H s Q u s':=
  fun {σ' H' v u} J rv q=>⟨v,H',J.os,J.bare,J.base,J.hok,rv,q⟩
 cases fl with
 |ret u=>
  obtain⟨v,σ',H',J,rv,q⟩:=hs;exact fin J rv q
 |next=>
  obtain⟨σ',H',J,q⟩:=hs;exact fin (v:=V.non) (u:=Value.none) J rfl q
 |brk=>
  obtain⟨_,_,_,q⟩:=hs;exact False.elim q
 |cont=>
  obtain⟨_,_,_,q⟩:=hs;exact False.elim q
section
variable {X:Cx}{x:Str}{p pos:Pos}{e:Expr}{es:List Expr}{t:TA}{id T:String}{r:List V->Hp->VK->Prop}
abbrev tCB(r:List V->Hp->VK->Prop)(t:TA):TE:=fun σ H Q=>t σ H λvs H1=>r vs H1 Q
theorem Z1(hc:CallR X (.builtin id) r)(hg:Gl X x)(hm:X.mg x=none)(hv:bootBuiltins x=some (.builtin id))(ha:PA X (e::es) t)(hn:autoParam (x≠"__name__") ŕ)(cy:autoParam ((x==("__debug__":Str))=false) ŕ)
  (he:autoParam (starEach (e::es) X.env=(false,eval e X.env)::starEach es X.env) Ŕ) (bz:autoParam ((backTo pos (starEach es X.env)).any (·.1)=false) Ŕ):PE X (.Call (.Name x p) (e::es) [] pos) (tCB r t):=by
 intro pins s σ H Q I h;refine wpAny_Call_Name_kw (V2 I hg hm hv ?_ hn cy);exact PyProof.Rows.callWith_builtin1 (thn (ha pos pins s σ H _ I h) λus s1 ⟨vs,H1,I1,r1,q1⟩=>hc pins s1 σ H1 vs us Q I1 r1 q1) he bz
theorem kxc(hc:CallR X (.type T) r)(hg:Gl X x)(hm:X.mg x=none)(hv:bootBuiltins x=some (.type T))(ha:PA X (e::es) t)(hn:autoParam (x≠"__name__") ŕ)(cy:autoParam ((x==("__debug__":Str))=false) ŕ)
  (he:autoParam (starEach (e::es) X.env=(false,eval e X.env)::starEach es X.env) Ŕ) (bz:autoParam ((backTo pos (starEach es X.env)).any (·.1)=false) Ŕ):PE X (.Call (.Name x p) (e::es) [] pos) (tCB r t):=by
 intro pins s σ H Q I h;refine wpAny_Call_Name_kw (V2 I hg hm hv ?_ hn cy);exact PyProof.Rows.callWith_type1 (thn (ha pos pins s σ H _ I h) λus s1 ⟨vs,H1,I1,r1,q1⟩=>hc pins s1 σ H1 vs us Q I1 r1 q1) he bz
end
end L2
namespace HT
open PySem PyProof.Rows
section
variable {prog:Program}{w:World}{A:Around}{E:Value->Shared->Prop}{s:Shared}
theorem cat_tup{t b:Addr}{vs ws:List Value}{Q:Value->Shared->Prop}(ht:IsTup s.heap t vs.toArray)(hb:IsTup s.heap b ws.toArray)(hv:vs≠[])
  (h1:ws=[]->Q (.ref t) s) (h2:ws≠[]->Q (.ref s.heap.objs.size) { s with heap:=s.heap.push { cls:=.type "tuple",data:=.seq (vs++ws).toArray } })
  (hsz:vs.length+ws.length<=sizeLine):wpAny (model prog w) A (binaryOp .Add (.ref t) (.ref b)) Q E s:=by
 obtain⟨⟨cls,dd,data,sl⟩,ho,hc,n,hd⟩:=id ht;obtain⟨⟨cls2,dd2,data2,ja⟩,ho2,hc2,n2,hd2⟩:=id hb;simp only at hc hd hc2 hd2;subst hc hd hc2 hd2;have e:vs.toArray++ws.toArray=(vs++ws).toArray:=by simp
 by_cases hw:ws=[]
 ·exact concat_meets ⟨_,ho,rfl⟩ ⟨_,ho2,rfl⟩ noFill_tuple_add seq_tuple_add PySem.F.slot_tuple_add PySem.F.entry_tuple_add (PySem.F.args_tuple_add_2 _ _)
   (tuple_addW1 t b vs.toArray ws.toArray n n2 dd dd2 sl ja (by simpa using hv) (by simp[hw])) ⟨ho,ho2,h1 hw⟩
 ·refine concat_meets ⟨_,ho,rfl⟩ ⟨_,ho2,rfl⟩ noFill_tuple_add seq_tuple_add PySem.F.slot_tuple_add PySem.F.entry_tuple_add (PySem.F.args_tuple_add_2 _ _)
   (tuple_addW2 t b vs.toArray ws.toArray n n2 dd dd2 sl ja (by simpa using hv) (by simpa using hw) (by rw[X4,X4];exact hsz)) ⟨ho,ho2,?_⟩
  rw[e];exact h2 hw
def sIx(n d:Nat):Option Int->Nat
 |none=>d
 |some v=>if v<0 then(v+(n:Int)).toNat else min v.toNat n
theorem qz9(n d:Nat)(hd:d<=n)(o:Option Int):sIx n d o<=n:=by
 cases o with
 |none=>exact hd
 |some v=>
  show(if v<0 then(v+(n:Int)).toNat else min v.toNat n)<=n
  by_cases hv:v<0
  ·rw[X9 hv];omega
  ·rw[Xg hv];exact Nat.min_le_right _ _
theorem kzq(v:Int)(n d:Nat):(if v<0 then max (v+(n:Int)) 0 else min v (n:Int))=((sIx n d (some v):Nat):Int):=by
 show(if v<0 then max (v+(n:Int)) 0 else min v (n:Int))=(((if v<0 then(v+(n:Int)).toNat else min v.toNat n):Nat):Int)
 by_cases hv:v<0
 ·simp only[X9 hv];omega
 ·simp only[Xg hv];omega
theorem kwa(lo hi:Option Int)(n:Nat):Builtin.Slice.sliceAdjust lo hi 1 (n:Int)=(((sIx n 0 lo:Nat):Int),((sIx n n hi:Nat):Int)):=by
 have h1:¬((1:Int)<0):=by omega
 unfold Builtin.Slice.sliceAdjust;simp only[h1,if_false];refine Prod.ext ?_ ?_
 ·cases lo with
  |none=>rfl
  |some v=>exact kzq v n 0
 ·cases hi with
  |none=>rfl
  |some v=>exact kzq v n n
theorem kw1(i j:Nat):Builtin.Slice.slicePlaces (i:Int) (j:Int) 1=j - i:=by
 unfold Builtin.Slice.slicePlaces;have h1:(1:Int)>0:=by omega
 simp only[h1,if_true,Int.ediv_one]
 split<;>omega
theorem jz6{v:Value}{o:Option Int}{Q:Option Int->Shared->Prop}(p:IsPart v o)(h:Q o s):wpAny (model prog w) A (Builtin.Slice.slicePartIndex v) Q E s:=by
 cases p with
 |none=>exact slicePart_none h
 |int i t=>exact slicePart_int h
theorem jwv{sl:Addr}{vl vu:Value}{lo hi:Option Int}{n:Nat}{Q:Int×Int×Nat->Shared->Prop}(hs:s.heap.IsSliceOf sl vl vu .none)(pl:IsPart vl lo)(pu:IsPart vu hi)
  (h:Q (((sIx n 0 lo:Nat):Int),1,sIx n n hi - sIx n 0 lo) s):wpAny (model prog w) A (Builtin.Slice.sliceApplied (.ref sl) (pure (n:Int))) Q E s:=by
 obtain⟨os,kd,hcs,eh⟩:=id hs;unfold Builtin.Slice.sliceApplied Builtin.Slice.sliceFields;refine X2 (X2 (Yk kd eh (x:=vl) rfl (X2 (Yk kd eh (x:=vu) rfl (X2 (Yk kd eh (x:=.none) rfl (Xf ?_)))))));refine X2 (slicePart_none ?_);show wpAny _ _ (if((1:Int)==0)=true then _ else _) _ _ s;rw[Xg (by decide)];refine X2 (jz6 pl (X2 (jz6 pu (X2 (Xf ?_)))));show wpAny _ _ (match Builtin.Slice.sliceAdjust lo hi 1 (n:Int)with|(lo,hi)=>pure (lo,(1:Int),Builtin.Slice.slicePlaces lo hi 1)) _ _ s;rw[kwa lo hi n];show wpAny _ _ (pure (((sIx n 0 lo:Nat):Int),(1:Int),Builtin.Slice.slicePlaces ((sIx n 0 lo:Nat):Int) ((sIx n n hi:Nat):Int) 1)) _ _ s;rw[kw1];exact Xf h
theorem qjw(xs:Array Value)(i k:Nat):((List.range k).filterMap λ(m:Nat)=>xs[((i:Int)+(m:Int)*1).toNat]?).toArray=((xs.toList.drop i).take k).toArray:=by
 have e:(λ(m:Nat)=>xs[((i:Int)+(m:Int)*1).toNat]?)=λm=>xs[i+m]?:=by
  funext m;have:((i:Int)+(m:Int)*1).toNat=i+m:=by omega
  rw[this]
 rw[e];have:=pick_run xs i k;rw[List.filterMap_map]at this;have e2:((λx=>xs[x]?)∘λx=>i+x)=λm=>xs[i+m]?:=rfl
 rw[e2]at this;rw[this]
theorem getItem_tuple_cut{t sl:Addr}{items:Array Value}{vl vu:Value}{lo hi:Option Int}{Q:Value->Shared->Prop}(ht:IsTup s.heap t items)(hs:s.heap.IsSliceOf sl vl vu .none)(pl:IsPart vl lo)(pu:IsPart vu hi)
  (hw:¬(sIx items.size 0 lo=0/\sIx items.size items.size hi=items.size))
  (h:Q (.ref s.heap.objs.size) { s with heap:=s.heap.push { cls:=.type "tuple",data:=.seq ((items.toList.drop (sIx items.size 0 lo)).take (sIx items.size items.size hi - sIx items.size 0 lo)).toArray } })
  (hsz:items.size<=sizeLine):wpAny (model prog w) A (getItem (.ref t) (.ref sl)) Q E s:=by
 have f7:sizeOk (.seq ((items.toList.drop (sIx items.size 0 lo)).take (sIx items.size items.size hi - sIx items.size 0 lo)).toArray):=by
  show((items.toList.drop (sIx items.size 0 lo)).take (sIx items.size items.size hi - sIx items.size 0 lo)).toArray.size<=sizeLine;rw[X4,Ye,Yi,X0];omega
 have hj:sIx items.size items.size hi<=items.size:=qz9 _ _ (Xb _) hi;obtain⟨os,kd,hcs,eh⟩:=id hs;have hTs:s.TypeIs (.ref sl) "slice":=⟨os,kd,hcs⟩;unfold getItem
 try with_reducible refine Yd ?_
 first|refine X2 (Xf ?_)|skip
 refine X2 (wpAny_sequenceKey ht.typeIs (by decide) ?_);refine X2 (wpAny_callSpecial?_slot (name:=Str.ofString "__getitem__") ht.typeIs PyProof.Rows.slot_tuple_getitem
  (wpAny_call_entry PyProof.Rows.slot_tuple_getitem ht.typeIs entry_tuple_getitem ?_ (args_tuple_getitem _ _)))
 show wpAny _ _ (Builtin.Tuple.tupleItemsOf (.ref t) >>= _) _ _ s;refine X2 (tupleItemsOf_ ht ?_);refine X2 (wpAny_typeOf hTs ?_);rw[X9 (by decide)];refine X2 (jwv hs pl pu ?_);have jm:¬((((sIx items.size 0 lo:Nat):Int)==0&&(1:Int)==1&&(sIx items.size items.size hi - sIx items.size 0 lo)==items.size)=true):=by
  intro q;rw[Bool.and_eq_true,Bool.and_eq_true]at q;have q1:((sIx items.size 0 lo:Nat):Int)=0:=eq_of_beq q.1.1;have q2:sIx items.size items.size hi - sIx items.size 0 lo=items.size:=eq_of_beq q.2;exact hw ⟨by omega,by omega⟩
 show wpAny _ _ (if(((sIx items.size 0 lo:Nat):Int)==0&&(1:Int)==1&&(sIx items.size items.size hi - sIx items.size 0 lo)==items.size)=true then _ else _) _ _ s;rw[Xg jm,qjw]
 first
  |exact X2 (m:=Builtin.Tuple.tupleExact _) (Y0 (Xf ⟨_,rfl,Xf h⟩) f7)
  |exact X2 (m:=Builtin.Tuple.tupleExact _) (Y0 (X2 (Xf (Xf ⟨_,rfl,Xf h⟩))) f7)
  |exact X2 (X2 (m:=Builtin.Tuple.tupleExact _) (Y0 (Xf (Xf ⟨_,rfl,Xf h⟩)) f7))
  |exact X2 (X2 (m:=Builtin.Tuple.tupleExact _) (Y0 (Xf ⟨_,rfl,Xf h⟩) f7))
end
end HT
namespace L2
open PySem PySem.Spec PyProof.Rows
abbrev TO:=St->Hp->(Option Int->Hp->Prop)->Prop
noncomputable def PO(X:Cx)(e:Option Expr)(t:TO):Prop:=
 ∀(pins:List (Addr×Obj)) (s:Shared) (σ:St) (H:Hp) (Q:Option Int->Hp->Prop),Inv X pins σ H s->t σ H Q ->
  wpAny (model X.prog X.w) X.A (evalPart e X.env) (λu s'=>∃o H',Inv X pins σ H' s'/\IsPart u o/\Q o H') X.xe s
abbrev kwg:TO:=λ_ H Q=>Q none H
abbrev qxu(t:TE):TO:=fun σ H Q=>t σ H λx H1=>∃i,x=.int i/\Q (some i) H1
section
variable {X:Cx}{e:Expr}{te:TE}{lo hi:Option Expr}{tl th:TO}{pos p2:Pos}
theorem qw2:PO X none kwg:=by
 intro pins s σ H Q I h;rw[evalPart_none];exact Xf ⟨none,H,I,.none,h⟩
theorem qw1(h:PE X e te):PO X (some e) (qxu te):=by
 intro pins s σ H Q I hw;rw[evalPart_some];refine thn (h pins s σ H _ I hw) λu s1 ⟨x,H1,I1,r1,q1⟩=>?_
 obtain⟨i,rfl,q⟩:=q1;obtain⟨t,rfl⟩:=r1;exact⟨some i,H1,I1,.int i t,q⟩
noncomputable def SlR(X:Cx)(r:V->Option Int->Option Int->Hp->VK->Prop):Prop:=
 ∀(pins:List (Addr×Obj)) (s:Shared) (σ:St) (H:Hp) (x:V) (v vl vu:Value) (lo hi:Option Int) (sl:Addr) (Q:VK),Inv X pins σ H s->RelV x v->s.heap.IsSliceOf sl vl vu .none->IsPart vl lo->IsPart vu hi->r x lo hi H Q ->
  ∃T id,typeLookup (.type T) "__getitem__"=pure (some (.builtin id))/\s.TypeIs v T/\wpAny (model X.prog X.w) X.A (getItem v (.ref sl)) (EP X pins σ Q) X.xe s
theorem SlR.or{r r':V->Option Int->Option Int->Hp->VK->Prop}(h:SlR X r)(h':SlR X r'):SlR X (λx lo hi H Q=>r x lo hi H Q\/r' x lo hi H Q):=by
 intro pins s σ H x v vl vu lo hi sl Q I rx hs pl pu q;rcases q with q|q
 ·exact h pins s σ H x v vl vu lo hi sl Q I rx hs pl pu q
 ·exact h' pins s σ H x v vl vu lo hi sl Q I rx hs pl pu q
abbrev tSl(r:V->Option Int->Option Int->Hp->VK->Prop)(te:TE)(tl th:TO):TE:=fun σ H Q=>te σ H λx H1=>tl σ H1 λl H2=>th σ H2 λu H3=>r x l u H3 Q
theorem qjz{r:V->Option Int->Option Int->Hp->VK->Prop}(hr:SlR X r)(he:PE X e te)(hl:PO X lo tl)(hu:PO X hi th):PE X (.Subscript e (.Slice lo hi none p2) pos) (tSl r te tl th):=by
 intro pins s σ H Q I h;refine Subscript_ (thn (he pins s σ H _ I h) λv s1 ⟨x,H1,I1,r1,q1⟩=>?_);refine wpAny_Slice (thn (hl pins s1 σ H1 _ I1 q1) λvl s2 ⟨l,H2,I2,pl,q2⟩=>thn (hu pins s2 σ H2 _ I2 q2) λvu s3 ⟨u,H3,I3,pu,q3⟩=>?_);rw[evalPart_none];refine Xf ?_;have I4:Inv X pins σ H3 { s3 with heap:=s3.heap.push { cls:=.type "slice",data:=.fields #[vl,vu,.none] } }:=I3.kept (t':=s3.toks) λb ob q=>X6 _ q
 obtain⟨T,id,hT,ht,hg⟩:=hr pins { s3 with heap:=s3.heap.push { cls:=.type "slice",data:=.fields #[vl,vu,.none] } } σ H3 x v vl vu l u s3.heap.objs.size Q I4 r1 (Heap.IsSliceOf.new ..) pl pu q3;show wpAny (model X.prog X.w) X.A (subscriptTail e (.Slice lo hi none p2) v (.ref s3.heap.objs.size)) (EP X pins σ Q) X.xe { s3 with heap:=s3.heap.push { cls:=.type "slice",data:=.fields #[vl,vu,.none] } };exact tail_any (ops:=[.ref s3.heap.objs.size,v]) ht hT hg (by with_unfolding_all rfl)
noncomputable def K2(xs:List V)(lo hi:Option Int):List V:=(xs.drop (HT.sIx xs.length 0 lo)).take (HT.sIx xs.length xs.length hi - HT.sIx xs.length 0 lo)
theorem jxp(xs:List V)(lo hi:Option Int):(K2 xs lo hi).length<=xs.length:=by
 unfold K2;rw[Ye,Yi];omega
noncomputable def vwr(K:PySem.W.Frag):V->Option Int->Option Int->Hp->VK->Prop:=λx lo hi H Q=>∃a xs,x=.ref a/\SqT K H a xs /\
 ¬(HT.sIx xs.length 0 lo=0/\HT.sIx xs.length xs.length hi=xs.length)/\∀p,H p=none->Q (.ref p) (upd H p (.tup (K2 xs lo hi)))
theorem sl_tup:SlR X (vwr X.K):=by
 intro pins s σ H x v vl vu lo hi sl Q I rx hs pl pu h;obtain⟨a,xs,rfl,hx,hw,q⟩:=h;cases rx;obtain⟨ai,r,ht,hz⟩:=I.tuple hx;have b6:ai.toArray.size=xs.length:=by rw[X4];exact r.length.symm
 refine⟨"tuple",_,PyProof.Rows.slot_tuple_getitem.lookup,ht.typeIs,?_⟩;refine HT.getItem_tuple_cut ht hs pl pu (by rw[b6];exact hw) ?_ (by rw[b6];exact hz);rw[b6];refine⟨.ref s.heap.objs.size,_,I.laid (t':=s.toks) (o:=.tup (K2 xs lo hi)) (λb ob q=>X6 _ q) (Xb _) ?_,rfl,q _ (I.hok.fresh (Xb _))⟩;exact⟨Xl (jxp xs lo hi) hz,_,(r.drop (HT.sIx xs.length 0 lo)).take (HT.sIx xs.length xs.length hi - HT.sIx xs.length 0 lo),IsTupD.new _ _⟩
noncomputable def qzk(K:PySem.W.Frag):R2:=λx y H Q=>∃a b xs ys,x=.ref a/\y=.ref b/\SqT K H a xs/\SqT K H b ys/\xs≠[]/\xs.length+ys.length<=sizeLine /\
 (ys=[]->Q (.ref a) H)/\(ys≠[]->∀p,H p=none->Q (.ref p) (upd H p (.tup (xs++ys))))
theorem Vals.nil_iff{xs:List V}{us:List Value}(r:Vals xs us):us=[]↔xs=[]:=by
 cases r with
 |nil=>simp
 |cons _ _=>simp
theorem qwe:OpR X (binaryOp .Add) (qzk X.K):=by
 intro pins s σ H x y v u Q I rx ry h;obtain⟨a,b,xs,ys,rfl,rfl,ha,hb,hx,hz,q1,q2⟩:=h;cases rx;cases ry;obtain⟨ai,r1,p1,_⟩:=I.tuple ha;obtain⟨ef,r2,p2,_⟩:=I.tuple hb;refine HT.cat_tup p1 p2 (λz=>hx (r1.nil_iff.mp z)) (λz=>⟨.ref a,H,I,rfl,q1 (r2.nil_iff.mp z)⟩) (λz=>?_) (by rw[<-r1.length,<-r2.length];exact hz);refine⟨.ref s.heap.objs.size,_,I.laid (t':=s.toks) (o:=.tup (xs++ys)) (λb ob q=>X6 _ q) (Xb _) ?_,rfl,q2 (λw=>z (r2.nil_iff.mpr w)) _ (I.hok.fresh (Xb _))⟩;exact⟨by rw[Xx];exact hz,_,r1.append r2,IsTupD.new _ _⟩
end
noncomputable def ixN(n:Nat)(i:Int):Option Nat:=if 0<=i then(if i<n then some i.toNat else none)else if -(n:Int)<=i then some (i+n).toNat else none
def atI{α:Type}(xs:List α)(i:Int):Option α:=(ixN xs.length i).bind λj=>xs[j]?
theorem qwv{n:Nat}{i:Int}{j:Nat}(h:ixN n i=some j):seqIndex? i n=some j/\j<n/\-(n:Int)<=i/\i<n:=by
 unfold ixN at h
 by_cases h0:0<=i
 ·rw[X9 h0]at h
  by_cases h1:i<n
  ·rw[X9 h1]at h;have e:i.toNat=j:=oq9 h;exact⟨by rw[seqIndex_of h0 h1,e],by omega,by omega,h1⟩
  ·rw[Xg h1]at h;cases h
 ·rw[Xg h0]at h
  by_cases h1:-(n:Int)<=i
  ·rw[X9 h1]at h;have e:(i+n).toNat=j:=oq9 h;exact⟨by rw[seqIndex_neg (by omega) h1,e],by omega,h1,by omega⟩
  ·rw[Xg h1]at h;cases h
theorem kqe{α:Type}{xs:List α}{i:Int}{v:α}(h:atI xs i=some v):∃j,seqIndex? i xs.length=some j/\xs[j]?=some v/\j<xs.length/\-(xs.length:Int)<=i/\i<xs.length:=by
 unfold atI at h;cases e:ixN xs.length i with
 |none=>rw[e]at h;cases h
 |some j=>
  rw[e]at h;obtain⟨h1,h2,h3,h4⟩:=qwv e;exact⟨j,h1,h,h2,h3,h4⟩
def kqf(b:Expr):Prop:=∀o i,subscripted b false o i=operate [o,i] (getItem o i)
noncomputable def IxR(X:Cx)(r:R2):Prop:=
 ∀(value slice:Expr) (pins:List (Addr×Obj)) (s:Shared) (σ:St) (H:Hp) (x y:V) (v u:Value) (Q:VK),Inv X pins σ H s->RelV x v->RelV y u->r x y H Q ->
  subscripted slice false v u=operate [v,u] (getItem v u)->wpAny (model X.prog X.w) X.A (subscriptTail value slice v u) (EP X pins σ Q) X.xe s
noncomputable def MtR(X:Cx)(id:String)(r:V->List V->Hp->VK->Prop):Prop:=
 ∀(pins:List (Addr×Obj)) (s:Shared) (σ:St) (H:Hp) (x:V) (xs:List V) (v:Value) (us:List Value) (Q:VK),Inv X pins σ H s->RelV x v->Vals xs us->r x xs H Q ->
  wpAny (model X.prog X.w) X.A (call (.builtin id) (v::us)) (EP X pins σ Q) X.xe s
section
variable {X:Cx}{a b:Expr}{ta tb:TE}{pos:Pos}
theorem IxR.or{r r':R2}(h:IxR X r)(h':IxR X r'):IxR X (λx y H Q=>r x y H Q\/r' x y H Q):=by
 intro value slice pins s σ H x y v u Q I rx ry q hs;rcases q with q|q
 ·exact h value slice pins s σ H x y v u Q I rx ry q hs
 ·exact h' value slice pins s σ H x y v u Q I rx ry q hs
theorem vvm{r:R2}(hr:IxR X r)(ha:PE X a ta)(hb:PE X b tb)(hs:kqf b):PE X (.Subscript a b pos) (tOp r ta tb):=by
 intro pins s σ H Q I h;exact Subscript_ (vwd ha hb I h λv u s2 x y H2 I2 rx ry q=>hr a b pins s2 σ H2 x y v u Q I2 rx ry q (hs _ _))
def vwx(K:PySem.W.Frag):R2:=λx y H Q=>∃p xs i v,x=.ref p/\y=.int i/\SqL K H p xs/\atI xs i=some v/\Q v H
def vwv(K:PySem.W.Frag):R2:=λx y H Q=>∃p xs i v,x=.ref p/\y=.int i/\SqT K H p xs/\atI xs i=some v/\Q v H
noncomputable def vww:R2:=λx y H Q=>∃z i c,x=.str z/\y=.int i/\z.length<=sizeLine/\atI z.cps.toList i=some c/\Q (.str ⟨#[c]⟩) H
theorem ix_list:IxR X (vwx X.K):=by
 intro value slice pins s σ H x y v u Q I rx ry h hs;obtain⟨p,xs,i,z,rfl,rfl,hq,he,q⟩:=h;cases rx;obtain⟨t,rfl⟩:=ry;obtain⟨ai,r,pl,hz⟩:=I.list hq;obtain⟨j,h1,h2,h3,h4,h5⟩:=kqe he;obtain⟨w,ew,lr⟩:=r.get h2;have hl:=r.length;have hn:=Qq;have fin:EP X pins σ Q w s:=⟨z,H,I,lr,q⟩
 by_cases h0:0<=i
 ·have hj:i.toNat=j:=by
   rw[seqIndex_of h0 h5]at h1;exact oq9 h1
  exact item_listR pl.isList h0 (by omega) (by rw[hj];simpa using ew) fin hs
 ·have hj:(i+(ai.toArray.size:Int)).toNat=j:=by
   rw[seqIndex_neg (by omega) h4]at h1;rw[X4,<-hl];exact oq9 h1
  exact subscriptTail_builtinR (x:=w) pl.isList.typeIs slot_list_getitem.lookup
   (wpAny_getItem_list_neg (Q:=λr s'=>r=w/\EP X pins σ Q r s') pl.isList (by omega) (by rw[X4]<;>omega) (by omega) (by rw[hj];simpa using ew) ⟨rfl,fin⟩) hs
theorem ix_tup:IxR X (vwv X.K):=by
 intro value slice pins s σ H x y v u Q I rx ry h hs;obtain⟨p,xs,i,z,rfl,rfl,hq,he,q⟩:=h;cases rx;obtain⟨t,rfl⟩:=ry;obtain⟨ai,r,pl,hz⟩:=I.tuple hq;obtain⟨j,h1,h2,h3,h4,h5⟩:=kqe he;obtain⟨w,ew,lr⟩:=r.get h2;have hl:=r.length;have hn:=Qq;have fin:EP X pins σ Q w s:=⟨z,H,I,lr,q⟩;exact subscriptTail_builtinR (x:=w) pl.typeIs slot_tuple_getitem.lookup
  (getItem_tuple (j:=j) (Q:=λr s'=>r=w/\EP X pins σ Q r s') pl (by omega) (by omega) (by rw[X4,<-hl];exact h1) (by simpa using ew) ⟨rfl,fin⟩) hs
theorem vkc:IxR X vww:=by
 intro value slice pins s σ H x y v u Q I rx ry h hs;obtain⟨z,i,c,rfl,rfl,hz,he,q⟩:=h;obtain⟨t,rfl⟩:=rx;obtain⟨t',rfl⟩:=ry;obtain⟨j,h1,h2,h3,h4,h5⟩:=kqe he;have hl:z.cps.toList.length=z.length:=by simp[Str.length]
 rw[hl]at h1 h4 h5;have hn:=Qq;exact tail_any (typeIs_str s z t) slot_str_getitem.lookup (getItem_str (c:=c) (by
  have e1:decide (i < -(2 ^ 63:Int))=false:=X1 (by omega);have e2:decide (i>=2 ^ 63)=false:=X1 (by omega);rw[e1,e2,Bool.or_false]) (by rw[h1];simpa using h2) ⟨.str ⟨#[c]⟩,H,I.tok _,⟨_,rfl⟩,q⟩) hs
def rIx(K:PySem.W.Frag):R2:=λx y H Q=>vwx K x y H Q\/vwv K x y H Q\/vww x y H Q
theorem vkd:IxR X (rIx X.K):=ix_list.or (ix_tup.or vkc)
theorem kjm(lo hi:Option Int)(n:Nat):(sliceBounds lo hi none n).1=((HT.sIx n 0 lo:Nat):Int)/\(sliceBounds lo hi none n).2.1=((HT.sIx n n hi:Nat):Int)/\(sliceBounds lo hi none n).2.2=1:=by
 refine⟨?_,?_,rfl⟩
 ·cases lo with
  |none=>simp[sliceBounds,HT.sIx]
  |some i=>
   simp only[sliceBounds,HT.sIx,Option.getD_none,show(1:Int)>0 by decide,if_true]
   by_cases h:i<0
   ·simp only[h,if_true]<;>omega
   ·simp only[h,if_false]<;>omega
 ·cases hi with
  |none=>simp[sliceBounds,HT.sIx]
  |some i=>
   simp only[sliceBounds,HT.sIx,Option.getD_none,show(1:Int)>0 by decide,if_true]
   by_cases h:i<0
   ·simp only[h,if_true]<;>omega
   ·simp only[h,if_false]<;>omega
theorem jzn(ai:List Value)(lo hi:Option Int):slicePick ai.toArray lo hi none=((ai.drop (HT.sIx ai.length 0 lo)).take (HT.sIx ai.length ai.length hi - HT.sIx ai.length 0 lo)).toArray:=by
 obtain⟨h1,h2,h3⟩:=kjm lo hi ai.toArray.size;unfold slicePick;rw[h1,h2,h3];simp only[sliceRange_one,pick_run,X4]<;>rfl
noncomputable def vwt(K:PySem.W.Frag):V->Option Int->Option Int->Hp->VK->Prop:=λx lo hi H Q=>∃a xs,x=.ref a/\SqL K H a xs/\∀p,H p=none->Q (.ref p) (upd H p (.lst (K2 xs lo hi)))
theorem sl_list:SlR X (vwt X.K):=by
 intro pins s σ H x v vl vu lo hi sl Q I rx hs pl pu h;obtain⟨a,xs,rfl,hx,q⟩:=h;cases rx;obtain⟨ai,r,ht,hz⟩:=I.list hx;have b6:=r.length;refine⟨"list",_,slot_list_getitem.lookup,ht.isList.typeIs,?_⟩;refine wpAny_getItem_list_slice ht.isList hs pl pu .none (by simp) ?_ (by rw[X4]<;>omega);rw[jzn,<-b6];refine⟨.ref s.heap.objs.size,_,I.laid (t':=s.toks) (o:=.lst (K2 xs lo hi)) (λb ob q=>X6 _ q) (Xb _) ?_,rfl,q _ (I.hok.fresh (Xb _))⟩;exact⟨Xl (jxp xs lo hi) hz,_,0,(r.drop (HT.sIx xs.length 0 lo)).take (HT.sIx xs.length xs.length hi - HT.sIx xs.length 0 lo),Xk _ rfl⟩
theorem kjt:OpR X (compareOp .NotIn) (λx y H Q=>∃i j,x=.str i/\y=.str j/\Q (.bl (!(!(Builtin.Str.occurrences j i 0 j.length 1).isEmpty))) H):=by
 intro pins s σ H x y v u Q I rx ry h;obtain⟨i,j,rfl,rfl,q⟩:=h;obtain⟨t,rfl⟩:=rx;obtain⟨t',rfl⟩:=ry;exact notIn_str ⟨.bl _,H,I,rfl,q⟩
theorem call_len_seq:CallR X (.builtin "len") (λxs H Q=>∃p ys,xs=[.ref p]/\(SqL X.K H p ys\/SqT X.K H p ys)/\Q (.int ys.length) H):=by
 intro pins s σ H xs us Q I r h;obtain⟨p,ys,rfl,hq,q⟩:=h;obtain⟨u,rfl,rx⟩:=JQ r;cases rx;have hn:=Qq;rcases hq with hq|hq
 ·obtain⟨ai,r',pl,hz⟩:=I.list hq;have b6:=r'.length;exact Calls.call_len_list pl.isList (by simp only[X4]<;>omega) ⟨.int ys.length,H,I.tok _,⟨s.toks+1,by rw[X4,b6]⟩,q⟩
 ·obtain⟨ai,r',pl,hz⟩:=I.tuple hq;have b6:=r'.length;exact len_tuple pl (by simp only[X4]<;>omega) ⟨.int ys.length,H,I.tok _,⟨s.toks+1,by rw[X4,b6]⟩,q⟩
theorem call_len_str:CallR X (.builtin "len") (λxs H Q=>∃z,xs=[.str z]/\z.length<=sizeLine/\Q (.int z.length) H):=by
 intro pins s σ H xs us Q I r h;obtain⟨z,rfl,hz,q⟩:=h;obtain⟨u,rfl,t,rfl⟩:=JQ r;have hn:=Qq;exact len_str (by omega) ⟨.int z.length,H,I.tok _,⟨_,rfl⟩,q⟩
theorem CallR.or{f:Value}{r r':List V->Hp->VK->Prop}(h:CallR X f r)(h':CallR X f r'):CallR X f (λxs H Q=>r xs H Q\/r' xs H Q):=by
 intro pins s σ H xs us Q I rs q;rcases q with q|q
 ·exact h pins s σ H xs us Q I rs q
 ·exact h' pins s σ H xs us Q I rs q
noncomputable def tyV(K : PySem.W.Frag)(T : String)(x : V)(H : Hp): Prop:= match x with
  |.str _=>T = "str"
  |.int _=>T = "int"
  |.ref p=>(T = "list" /\ ∃xs, SqL K H p xs) \/ (T = "tuple" /\ ∃o, K.lookup p = some o /\ o.cls = .type "tuple" /\ o.dict = none) \/
      (T = "dict" /\ ((∃ax, H p = some (.dK ax)) \/ ∃ax, H p = some (.dT ax))) \/ (T = "set" /\ ∃S n, H p = some (.set S n))
  |_=>False
theorem qq2{pins:List (Addr×Obj)}{σ:St}{H:Hp}{s:Shared}{T:String}{x:V}{v:Value}(I:Inv X pins σ H s)(r:RelV x v)(ty:tyV X.K T x H):
  s.TypeIs v T/\∀a,v=.ref a->∃ob,s.heap.get? a=some ob/\ob.dict=none:=by
 cases x with
 | str z=>
  obtain⟨t,rfl⟩:=r;cases(show T="str" from ty);exact⟨typeIs_str s z t,λ_ e=>nomatch e⟩
 | int i=>
  obtain⟨t,rfl⟩:=r;cases(show T="int" from ty);exact⟨typeIs_int s i t,λ_ e=>nomatch e⟩
 | ref p=>
  cases r;rcases ty with⟨rfl,xs,hq⟩|⟨rfl,o,hk,hc,hd⟩|⟨rfl,hk⟩|⟨rfl,S,n,hk⟩
  ·obtain⟨ai,_,pl,_⟩:=I.list hq;refine⟨pl.isList.typeIs,λa e=>?_⟩;cases e;obtain⟨o,n,e,c,hd,_⟩:=pl;exact⟨o,e,hd⟩
  ·refine⟨⟨o,I.kIn p o hk,hc⟩,λa e=>?_⟩;cases e;exact⟨o,I.kIn _ o hk,hd⟩
  ·have z:∃o,s.heap.get? p=some o/\o.ExactDict:=by
    rcases hk with⟨ax,hk⟩|⟨ax,hk⟩
    ·obtain⟨_,_,_,_,o,_,_,e,ex,_⟩:=I.hok p _ hk;exact⟨o,e,ex⟩
    ·obtain⟨_,_,_,_,o,_,_,e,ex,_⟩:=I.hok p _ hk;exact⟨o,e,ex⟩
   obtain⟨o,e,ex⟩:=z;refine⟨⟨o,e,ex.1⟩,λa e2=>?_⟩;cases e2;exact⟨o,e,ex.2.1⟩
  ·obtain⟨o,_,_,_,e,ex,_⟩:=I.hok p _ hk;refine⟨⟨o,e,ex.1⟩,λa e2=>?_⟩;cases e2;exact⟨o,e,ex.2.1⟩
 |_=>exact False.elim ty
abbrev tBM(K:PySem.W.Frag)(T:String)(r:V->List V->Hp->VK->Prop)(to:TE)(t:TA):TE:=fun σ H Q=>to σ H λx H1=>tyV K T x H1/\t σ H1 λxs H2=>r x xs H2 Q
variable {o e:Expr}{es:List Expr}{to:TE}{t:TA}{name:Str}{bb av:Pos}{T id:String}{r:V->List V->Hp->VK->Prop}
theorem V1(pa:PlainAttrs T)(slot:Slot T name id)(lc:typeOf (.builtin id)=pure (.type "method_descriptor"))(hm:MtR X id r)(ho:PE X o to)(ha:PA X (e::es) t)
  (bg:autoParam (attributeBase o name X.env (eval o X.env)=eval o X.env) Ŕ)
  (cg:autoParam (((backTo av (starEach (e::es) X.env)).all (λx=>!x.1)&&(backToKw av (keywordEach [] X.env)).all (λx=>x.1.isSome)
   && decide ((e::es).length+([]:List Keyword).length+(if([]:List Keyword).isEmpty then 0 else 1)<30))=true) Ŕ)
  (bi:autoParam ((bb.endLine==av.line)=true) Ŕ) (hs:autoParam (starEach (e::es) X.env=(false,eval e X.env)::starEach es X.env) Ŕ) (ba:autoParam ((backTo av (starEach es X.env)).any (·.1)=false) Ŕ):
  PE X (.Call (.Attribute o name bb) (e::es) [] av) (tBM X.K T r to t):=by
 intro pins s σ H Q I h;refine wpAny_Call_method_late bg cg bi rfl (thn (ho pins s σ H _ I h) λv s1 ⟨x,H1,I1,r1,ty,q1⟩=>?_);obtain⟨h1,h2⟩:=qq2 I1 r1 ty;refine⟨T,id,pa,slot,lc,h1,h2,?_⟩;have hA:=ha av pins s1 σ H1 _ I1 q1;rw[hs]at hA ⊢;refine Calls.callWith_builtin (by show(false||(backTo av (starEach es X.env)).any (·.1))=false;rw[ba]<;>rfl) (Calls.evalArgs_plain ?_);exact thn hA λus s2 ⟨vs,H2,I2,r2,q2⟩=>hm pins s2 σ H2 x vs v us Q I2 r1 r2 q2
end
noncomputable def MtM(X:Cx)(id:String)(r:V->List V->Hp->VK->Prop):Prop:=
 ∀(pins:List (Addr×Obj)) (s:Shared) (σ:St) (H:Hp) (x:V) (xs:List V) (v:Value) (us:List Value) (Q:VK),Inv X pins σ H s->RelV x v->Vals xs us->r x xs H Q ->
  wpAny (model X.prog X.w) X.A (call (.builtin id) (v::us)) (EP X pins σ Q) X.xe s
theorem Vals.one:∀{x:V} {us:List Value},Vals [x] us->∃u,us=[u]/\RelV x u
 |_,_,.cons r .nil=>⟨_,rfl,r⟩
theorem Vals.rep{xs:List V}{us:List Value}(h:Vals xs us):∀k:Nat,Vals (List.replicate k xs).flatten (List.replicate k us).flatten
 |0=>.nil
 |k+1=>by
  rw[List.replicate_succ,List.replicate_succ,Yg,Yg];exact Vals.append h (Vals.rep h k)
theorem jxm(ai:List Value):∀(k:Nat) (ay:List Value),
  List.foldl (λx1 x2=>x1++x2) ay.toArray (List.replicate k ai.toArray)=(ay++(List.replicate k ai).flatten).toArray
 | 0,ay=>by simp
 | k+1,ay=>by
  have e:ay.toArray++ai.toArray=(ay++ai).toArray:=by simp
  have e2:(ay++ai)++(List.replicate k ai).flatten=ay++(List.replicate (k+1) ai).flatten:=by
   rw[List.replicate_succ,Yg,Xw]
  rw[<-e2,<-jxm ai k (ay++ai),<-e,List.replicate_succ,List.foldl_cons]
section
variable {X:Cx}{pins:List (Addr×Obj)}{σ:St}{H:Hp}{s:Shared}{l b:Addr}{xs ys zs:List V}
theorem Inv.lset{ai its':List Value}{n:Nat}{f:Array Value->Array Value}{t':Nat}(I:Inv X pins σ H s)(hH:H l=some (.lst xs))
  (e:s.heap.get? l=some { cls:=.type "list",data:=.seq ai.toArray n }) (hf:f ai.toArray=its'.toArray) (hv:Vals ys its') (hz:ys.length<=sizeLine):
  Inv X pins σ (upd H l (.lst ys)) { s with heap:=s.heap.update l (Obj.mapSeq f),toks:=t' }:=by
 have q:=PySem.IsL.update e f;rw[hf]at q;refine I.write (x:=l) (e:=l) (by rw[hH];exact trivial) (.inl rfl) (λb' u hb hu=>(Heap.get?_update_other s.heap (Obj.mapSeq f) (Ne.symm hb)).trans hu) ⟨_,q⟩ ?_;exact⟨hz,its',_,hv,q⟩
theorem Inv.lnew{ai:List Value}{t':Nat}(I:Inv X pins σ H s)(hv:Vals ys ai)(hz:ys.length<=sizeLine):
  Inv X pins σ (upd H s.heap.objs.size (.lst ys)) { s with heap:=s.heap.push { cls:=.type "list",data:=.seq ai.toArray },toks:=t' }:=
 I.laid (λ_ _ q=>X6 _ q) (Xb _) ⟨hz,ai,0,hv,Xk _ rfl⟩
theorem Inv.fresh(I:Inv X pins σ H s):H s.heap.objs.size=none:=I.hok.fresh (Xb _)
theorem Inv.lstM(I:Inv X pins σ H s)(hH:H l=some (.lst xs)):xs.length<=sizeLine/\∃(ai:List Value) (n:Nat),Vals xs ai/\xs.length=ai.length/\s.heap.get? l=some { cls:=.type "list",data:=.seq ai.toArray n }:=by
 obtain⟨z,ai,n,r,e⟩:=I.hok l _ hH;exact⟨z,ai,n,r,r.length,e⟩
theorem qk7{n:Nat}(h:n<=sizeLine):Builtin.List.listTooLong n=false:=by
 unfold Builtin.List.listTooLong;exact X1 (by omega)
end
section
variable {X:Cx}
noncomputable def kku:V->List V->Hp->VK->Prop:=λx vs H Q=>∃l xs y,x=.ref l/\vs=[y]/\H l=some (.lst xs)/\xs.length<sizeLine/\Q .non (upd H l (.lst (xs++[y])))
theorem kxl:MtM X "list.append" kku:=by
 intro pins s σ H x vs v us Q I rx rv h;obtain⟨l,xs,y,rfl,rfl,hH,hz,q⟩:=h;cases rx;obtain⟨u,rfl,ru⟩:=rv.one;obtain⟨z,ai,n,r,hl,e⟩:=I.lstM hH;refine call_meets F.slot_list_append ⟨_,e,rfl⟩ F.entry_list_append (F.args_list_append_2 _ _) (PySem.list_append l ai.toArray n u (by rw[X4];omega)) ⟨e,?_⟩;refine⟨.non,_,I.lset (its':=ai++[u]) hH e (by simp) (r.append (.cons ru .nil)) ?_,rfl,q⟩;rw[Xx,List.length_singleton];omega
theorem kxr{α:Type}(xs:List α)(k:Nat):(List.replicate k xs).flatten.length=k*xs.length:=by
 induction k with
 |zero=>simp
 |succ k ih=>rw[List.replicate_succ,Yg,Xx,ih,Nat.succ_mul,Nat.add_comm]
end
end L2
namespace Att
open PySem PySem.W PySem.Calls PyProof.Rows
theorem jxl{P:Params}{h:Heap}:∀(ns:List Int) (vs:List Value),WellAll P h vs (ns.map WData.int)->IntsAre vs ns:=by
 intro ns
 induction ns with
 | nil=>
  intro vs w;rw[List.map_nil]at w;cases w;exact .nil
 | cons n ns ih=>
  intro vs w;rw[List.map_cons]at w;cases w with
  |cons a b=>
   cases a;exact .cons _ _ (ih _ b)
theorem script_of{l : OpenLaw}{n : Nat}(hn : l.most = some n){P : Params}{h : Heap}{args : List WData}{ir : List Value}
    (gr : l.row.toRowW.claim.pre args = true) (jc : WellAll P h ir args):
    ∃ a vs ns, ir = [Value.ref a] /\ args = [WData.list (ns.map WData.int)] /\ h.get? a = some { cls:= .type "list", data:= .seq vs.toArray } /\ IntsAre vs ns /\ ns.length<=n:= by
  have hsh : WShape.hasAll [] args [.list .int] = true:= (pre_splitW gr).1;have hc : l.pre.holds [] { args:= args } = true:= (pre_splitW gr).2;obtain⟨d, r, rfl, h1, h2⟩:= hasAllW_cons hsh;obtain rfl:= hasAllW_nil h2;obtain⟨xs, rfl, h3⟩:= hasW_list h1;obtain⟨ns, rfl⟩:= items_int h3;have b6 : ns.length<=n:= by
    unfold OpenLaw.pre at hc;have h4 : (WTm.not (.lt (.lit (.int (n : Int))) (.len (.arg 0)))).holds [] { args:= [.list (ns.map .int)] } = true:= by
      have h4:= (holds_andW hc).1;rw[hn]at h4;exact h4
    have h5:= condW_of h4 (w_not (w_lt w_lit (w_len_list (w_arg rfl))));rw[X7]at h5;refine Nat.le_of_not_lt λq=> ?_
    have q' : (n : Int)<((ns.length : Nat): Int):= by omega
    first
      |(rw[X5 q']at h5; exact absurd h5 (by decide))
      |(simp at h5; omega)
  cases jc with
  | cons w1 w2=>
    cases w2;cases w1 with
    |list ho iw=>exact⟨_, _, ns, rfl, rfl, ho, jxl ns _ iw, b6⟩
theorem post_true(l:OpenLaw)(args:List WData):l.row.toRowW.claim.post args (.bool true) args=true:=
 postW_of (r:=l.row.toRowW) (X:=(true==true))
  (show WShape.has [] (.bool true) .bool=true by first|rfl|decide|simp[WShape.has,WShape.arms,WShape.armsAll])
  (show(WTm.eq .res (.lit (.bool true))).value [] { args:=args,res:=some (.bool true),after:=args }=some (.bool (true==true))from w_eq_bool (w_res rfl) w_lit) rfl
end Att
namespace L2
open PySem PySem.Spec PyProof.Rows
def vwh(H:Hp):Prop:=∀b,H b=none\/∃o xs,H b=some (.frz o (.lst xs))
noncomputable def JW(s:Stmt):Arguments:=match s with
 |.FunctionDef _ a _ _ _ _ _ _ _ _=>a
 |_=>{ posonlyargs:=[],args:=[],vararg:=none,kwonlyargs:=[],kw_defaults:=[],kwarg:=none,defaults:=[] }
def xZ(s:Stmt):List Stmt:=match s with
 |.FunctionDef _ _ b _ _ _ _ _ _ _=>b
 |_=>[]
noncomputable def kW(s:Stmt):Scope:=match s with
 |.FunctionDef _ _ _ _ _ _ sc _ _ _=>sc
 |_=>{ kind:=.function,names:=[],isGenerator:=false,isCoroutine:=false }
structure Fun (K:PySem.W.Frag)(x qual:Str)(st:Stmt)(f:Addr)(fd:FuncData):Prop where
 ex:∃(oc:Value) (od:Option Addr) (kV dv pm:Value) (an:Option Addr) (br ct:Value) (gq:Array (Option Value)),
  fd=PySem.W.fnOf x qual (JW st) (xZ st) (kW st) .none kV dv pm an br ct/\K.lookup f=some ⟨oc,od,.func fd,gq⟩/\PySem.W.codeIn K br qual=true
 kp:PySem.W.keepIn K (.ref f)=true
section
variable {P:Program}{w:World}{K:PySem.W.Frag}{mg:Str->Option Value}{base:Heap}
theorem Fun.binds{x qual:Str}{st:Stmt}{f:Addr}{fd:FuncData}{ps:List Str}(F:Fun K x qual st f fd)
  (h:∀(kV dv pm:Value) (an:Option Addr) (br ct:Value) (us:List Value),us.length=ps.length->bindArgs (PySem.W.fnOf x qual (JW st) (xZ st) (kW st) .none kV dv pm an br ct) ⟨us,[]⟩=pure (ps.zip us)):Binds K fd ps []:=by
 obtain⟨oc,od,kV,dv,pm,an,br,ct,gq,rfl,lk,dq⟩:=F.ex;exact .all (h kV dv pm an br ct)
theorem kz8{x qual:Str}{st:Stmt}{f:Addr}{oc:Value}{od an:Option Addr}{gq:Array (Option Value)}{kV dv pm br ct:Value}(l:K.lookup f=some ⟨oc,od,.func (PySem.W.fnOf x qual (JW st) (xZ st) (kW st) .none kV dv pm an br ct),gq⟩)
  (c:PySem.W.codeIn K br qual=true) (k:PySem.W.keepIn K (.ref f)=true):Fun K x qual st f (PySem.W.fnOf x qual (JW st) (xZ st) (kW st) .none kV dv pm an br ct):=⟨⟨oc,od,kV,dv,pm,an,br,ct,gq,rfl,l,c⟩,k⟩
end
section
variable {X:Cx}
theorem pv(i:Nat){x:Str}{pos:Pos}(hN:autoParam (X.N[i]?=some x) Ŕ)(hv:autoParam (Vis X.env.scope x) ř)(hd:autoParam ((x==("__debug__":Str))=false) ŕ)
  (dq:autoParam ((x==("__classdict__":Str))=false) ŕ):PE X (.Name x pos) (zX i):=vjd hN hv hd dq
end
def jZ(H H':Hp):Prop:=∀b o,H b=some o->H' b=some o
section
variable {κ:Type}[DecidableEq κ]
theorem KV.length{ax:List (κ×V)}{vs:List (κ×Value)}(r:KV ax vs):ax.length=vs.length:=Paired.length r
end
section
variable {P:Program}{w:World}{H:Hp}{h:Heap}{a:Addr}
theorem vv6{u:HO}(ok:HOk P w H h)(e:Rd H a u):ObjOk P w H h a u:=e.ok ok
theorem vw5{ax:List (Key×V)}(ok:HOk P w H h)(e:Rd H a (.dK ax)):ax.length<=sizeLine/\(a==sysModules)=false/\∃vs,KV ax vs/\h.DictOf (YY P w) a vs:=
 show ObjOk P w H h a (.dK ax)from vv6 ok e
end
section
variable {X:Cx}{pins:List (Addr×Obj)}{σ:St}{H:Hp}{s:Shared}{a:Addr}{ax:List (Key×V)}{k:Key}{u:Value}{A:Around}{E:Value->Shared->Prop}
theorem vw7{Q:Value->Shared->Prop}(I:Inv X pins σ H s)(e:Rd H a (.dK ax))(h:∀t s',Inv X pins σ H s'->Q (.int ax.length t) s'):wpAny (model X.prog X.w) A (call (.builtin "len") [.ref a]) Q E s:=by
 obtain⟨z,hd,vs,rel,dd⟩:=vw5 I.hok e;refine call_len_dict hd dd (by rw[<-rel.length];rw[sizeLine_eq]at z;omega) ?_;rw[<-rel.length];exact h _ _ (I.tok _)
end
section
variable {X:Cx}
theorem kzt:CallR X (.builtin "len") (λxs H Q=>∃a ax,xs=[V.ref a]/\H a=some (.dK ax)/\Q (.int ax.length) H):=by
 intro pins s σ H xs us Q I r h;obtain⟨a,ax,rfl,ha,q⟩:=h;obtain⟨u,rfl,ru⟩:=JQ r;cases ru;exact vw7 I (.inl ha) λt s' I'=>⟨.int ax.length,H,I',⟨t,rfl⟩,q⟩
end
end L2
set_option maxHeartbeats 4000000
namespace L3
open PySem PySem.Spec PyProof.Rows L2
abbrev kxu(cz:List Expr)(env:Env):Sem Bool:=
 forIn cz true λc r=>if r=true then do let ok <-isTrue c env (eval c env);pure (ForInStep.yield ok)else pure (ForInStep.yield r)
theorem jv4 (env : Env): ∀(l : List (Str × NameKind)) (cs : List (Str × Addr)), (∀y ∈ l, y.2 = .free -> ∃c, env.cells.lookup y.1 = some c) ->
    (∀x c, cs.lookup x = some c -> env.cells.lookup x = some c) ->
    ∃ cl, (forIn l cs (λ(x : Str × NameKind) (r : List (Str × Addr))=>if(x.2==NameKind.free) = true then do let a <-cellOf env x.1; pure (ForInStep.yield ((x.1, a)::r))else pure (ForInStep.yield r)): Sem (List (Str × Addr))) = pure cl /\
      (∀x c, cl.lookup x = some c -> env.cells.lookup x = some c) /\ (∀x c, cs.lookup x = some c -> ∃c', cl.lookup x = some c') /\ ∀y ∈ l, y.2 = .free -> ∃c, cl.lookup y.1 = some c
  | [], cs, _, hs=>⟨cs, rfl, hs, λx c h=>⟨c, h⟩, λ_ h=>nomatch h⟩
  | (n, k)::r, cs, hl, hs=>by
    by_cases hk : k = .free
    · subst hk
      obtain⟨c, hc⟩:= hl (n, .free) X3 rfl;have hs' : ∀x d, ((n, c)::cs).lookup x = some d -> env.cells.lookup x = some d:= λx d h=>by
        rw[Y4]at h;cases hx : x==n with
        | true=>
          rw[hx]at h;have e : x = n:= by simpa using hx
          have e2 : c = d:= by simpa using h
          subst e; subst e2;exact hc
        | false=>rw[hx]at h; exact hs x d h
      obtain⟨cl, e, a, b, d⟩:= jv4 env r ((n, c)::cs) (λy hy=>hl y (lc9 _ hy)) hs';refine⟨cl, ?_, a, λx c' h=> ?_, λy hy hf=> ?_⟩
      · rw[List.forIn_cons]
        have q : cellOf env n = pure c:= by unfold cellOf; rw[hc]
        simp only[beq_self_eq_true, if_true, q, pure_bind];exact e
      · cases hx : x==n with
        | true=>exact b x c (by rw[Y4, hx])
        | false=>exact b x c' (by rw[Y4, hx]; exact h)
      · rcases List.mem_cons.mp hy with z|z
        · subst z
          exact b n c (by rw[Y4]; simp)
        · exact d y z hf
    · obtain⟨cl, e, a, b, d⟩:= jv4 env r cs (λy hy=>hl y (lc9 _ hy)) hs
      refine⟨cl, ?_, a, b, λy hy hf=> ?_⟩
      · rw[List.forIn_cons]
        have q : (k==NameKind.free) = false:= by simpa using hk
        simp only[q, Bool.false_eq_true, if_false, pure_bind];exact e
      · rcases List.mem_cons.mp hy with z|z
        · subst z
          exact absurd hf hk
        · exact d y z hf
theorem jzg{scope:Scope}{env:Env}(h:∀y∈scope.names,y.2=.free->∃c,env.cells.lookup y.1=some c):
  ∃cl,closureFor scope env=pure cl/\(∀x c,cl.lookup x=some c->env.cells.lookup x=some c)/\∀y∈scope.names,y.2=.free->∃c,cl.lookup y.1=some c:=by
 obtain⟨cl,e,a,_,d⟩:=jv4 env scope.names [] h (λx c h=>nomatch h);refine⟨cl,?_,a,d⟩;unfold closureFor;have e':=congrArg (λt:Sem (List (Str×Addr))=>t >>= pure) e
 simpa using e'
noncomputable def lcX(X:Cx)(scope:Scope)(N:List Str)(cl:List (Str×Addr))(C:Addr)(s0:Shared)(H0:Hp)(fp:List Addr):Cx:=
 { X with N:=N,s₀:=s0,H₀:=H0,env:=compEnvC scope cl C X.env,outer:=X.stack,ex:=fp,fn:=λ_=>false,pn:=[],xe:=λ_ _=>False }
def x8(k:Nat)(R:List Nat)(σ:L2.St):L2.St:=List.replicate k none++R.map λj=>(σ[j]?).join
structure LcOk (X:Cx)(scope:Scope)(N:List Str)(k:Nat)(R:List Nat):Prop where
 kind:scope.kind=.function
 nocell:∀y∈scope.names,y.2≠.cell
 names:∀y∈scope.names,y.2=.local->scope.names.lookup y.1=some .local
 caps:∀y∈scope.names,y.2=.free->X.env.kindOf y.1=some .cell\/X.env.kindOf y.1=some .free
 len:N.length=k+R.length
 outs:∀i j x,R[i]?=some j->N[k+i]?=some x->X.N[j]?=some x/\scope.names.lookup x=some .free
noncomputable def JJ(XN:List Str)(sc scope:Scope)(N:List Str)(k:Nat)(R:List Nat):Bool:=
 scope.names.all (λy=>y.2 != .cell)&&scope.names.all (λy=>y.2 != .local||scope.names.lookup y.1==some .local) &&
 scope.names.all (λy=>y.2 != .free||(sc.names.lookup y.1==some .cell||sc.names.lookup y.1==some .free)) &&
 (N.length==k+R.length)&&(R.zip (N.drop k)).all (λp=>XN[p.1]? == some p.2&&scope.names.lookup p.2==some .free)
theorem kv9{X:Cx}{scope:Scope}{N:List Str}{k:Nat}{R:List Nat}(hk:scope.kind=.function)(h:JJ X.N X.env.scope scope N k R=true):LcOk X scope N k R:=by
 unfold JJ at h;simp only[Bool.and_eq_true,Yj,bne_iff_ne,Bool.or_eq_true,beq_iff_eq]at h;obtain⟨⟨⟨⟨h1,h2⟩,h3⟩,h4⟩,h5⟩:=h;refine⟨hk,λy hy=>h1 y hy,λy hy e=>(h2 y hy).resolve_left (λz=>z e),λy hy e=>(h3 y hy).resolve_left (λz=>z e),h4,λi j x e1 e2=>?_⟩;have m:(j,x)∈R.zip (N.drop k):=by
  refine List.mem_of_getElem? (i:=i) ?_;rw[List.getElem?_zip_eq_some];exact⟨e1,by rw[List.getElem?_drop];exact e2⟩
 exact h5 (j,x) m
theorem Wq {env : Env} {x : Str} {q : NameKind}: ∀{names : List (Str × NameKind)}, (names.map λ(n, k)=>if(k==NameKind.free&&env.scope.kind == .function&&env.kindOf n==some .cell)then(n, NameKind.cell)else(n, k)).lookup x = some q ->
    (x, q) ∈ names \/ (q = .cell /\ (x, NameKind.free) ∈ names)
  | [], h=>nomatch h
  | (n, k)::r, h=>by
    have h : List.lookup x ((if(k==NameKind.free&&env.scope.kind == .function&&env.kindOf n==some .cell) = true then(n, NameKind.cell)else(n, k))::(r.map λ(n, k)=>if(k==NameKind.free&&env.scope.kind == .function&&env.kindOf n==some .cell)then(n, NameKind.cell)else(n, k))) = some q:= h
    by_cases hc : (k==NameKind.free&&env.scope.kind == .function&&env.kindOf n==some .cell) = true
    · rw[X9 hc, Y4]at h
      cases hx : x==n with
      | true=>
        rw[hx]at h;have e : x = n:= by simpa using hx
        have e2 : NameKind.cell = q:= by simpa using h
        subst e;simp only[Bool.and_eq_true, beq_iff_eq]at hc;obtain⟨⟨e3, _⟩, _⟩:= hc;subst e3;exact .inr ⟨e2.symm, X3⟩
      | false=>
        rw[hx]at h;rcases Wq (names:= r) h with z|⟨z, y⟩
        · exact .inl (lc9 _ z)
        · exact .inr ⟨z, lc9 _ y⟩
    · rw[Xg hc, Y4]at h
      cases hx : x==n with
      | true=>
        rw[hx]at h;have e : x = n:= by simpa using hx
        have e2 : k = q:= by simpa using h
        subst e; subst e2;exact .inl X3
      | false=>
        rw[hx]at h;rcases Wq (names:= r) h with z|⟨z, y⟩
        · exact .inl (lc9 _ z)
        · exact .inr ⟨z, lc9 _ y⟩
section
variable {X:Cx}{pins:List (Addr×Obj)}{σ:L2.St}{H:Hp}{s:Shared}
theorem vk3{scope:Scope}{N:List Str}{k:Nat}{R:List Nat}{cl:List (Str×Addr)}{C:Addr}(sc:LcOk X scope N k R)(bn:∀y∈scope.names,y.2=.free->∃c,cl.lookup y.1=some c)
  {x:Str} (h:(compEnvC scope cl C X.env).kindOf x=some .cell\/(compEnvC scope cl C X.env).kindOf x=some .free):∃c,cl.lookup x=some c:=by
 rcases h with h|h
 ·rcases Wq (env:=X.env) (names:=scope.names) h with z|⟨_,z⟩
  ·exact absurd rfl (sc.nocell _ z)
  ·exact bn _ z rfl
 ·rcases Wq (env:=X.env) (names:=scope.names) h with z|⟨z,_⟩
  ·exact bn _ z rfl
  ·cases z
theorem vk4{scope:Scope}{N:List Str}{k:Nat}{R:List Nat}{cl:List (Str×Addr)}{C:Addr}{fp:List Addr}(I:Inv X pins σ H s)(sc:LcOk X scope N k R)(hf:∀b∈fp,qQ X pins H b)(ho:∀b∈fp,∃o,s.heap.get? b=some o)
  (hC:s.heap.objs.size<=C) (ei:∀x c,cl.lookup x=some c->X.env.cells.lookup x=some c) (bn:∀y∈scope.names,y.2=.free->∃c,cl.lookup y.1=some c):(lcX X scope N cl C s H fp).Ok where
 mod:=I.ok.mod
 kind:=sc.kind
 glob:=I.ok.glob
 blt:=I.ok.blt
 above:=hC
 inj:=λx y c h1 h2=>I.ok.inj x y c (ei _ _ h1) (ei _ _ h2)
 has:=λx h=>vk3 sc bn h
 cab:=λx c h=>by cases h
 hd:=I.ok.hd
 frames:=I.ok.frames
 stk:=.inl rfl
 exf:=λb hb=>by
  obtain⟨o,e⟩:=ho b hb;exact⟨Xr (Xa (Xe e) hC),λx c h=>(hf b hb).2.2.2.2.1 x c (ei x c h)⟩
 bs:=λb o e=>I.bs b o e
 bsz:=Xl I.ok.bsz I.sz
 noex:=λb o e hb=>by
  rcases(hf b hb).2.2.2.1 with z|z
  ·exact I.ok.noex b o e z
  ·exact absurd (Xa (Xe e) (Xl I.ok.bsz z)) (Xz _)
 exfs:=λb hb hs=>by
  rcases List.mem_cons.mp (I.stkSub b hs)with z|z
  ·exact(hf b hb).2.1 z
  ·exact(hf b hb).2.2.1 z
 funs:=I.stack
 frf:=I.stkFree
theorem qxz(I:Inv X pins σ H s){a:Addr}(h:s.heap.objs.size<=a):a∉frs X.stack:=λz=>by
 rcases List.mem_cons.mp (I.stkSub a z)with e|e
 ·subst e;exact absurd (Xa I.lt h) (Xz _)
 ·exact I.nofs h e
theorem qwq {scope:Scope} {N:List Str} {k:Nat} {R:List Nat} {cl:List (Str×Addr)} {C D:Addr} {fp:List Addr} {h1:Heap} {t:Nat} {m:Str->Option Value} {oD:Obj} (I:Inv X pins σ H s) (sc:LcOk X scope N k R)
  (hf:∀ b∈fp,qQ X pins H b) (ho:∀b∈fp,∃o,s.heap.get? b=some o)
  (hC:s.heap.objs.size<=C) (hD:s.heap.objs.size<=D) (jb:D≠C) (ei:∀x c,cl.lookup x=some c->X.env.cells.lookup x=some c) (bn:∀y∈scope.names,y.2=.free->∃c,cl.lookup y.1=some c)
  (i8:∀ b o,s.heap.get? b=some o->h1.get? b=some o) (hn:h1.Ns C m) (eD:h1.get? D=some oD) (dD:∀v,oD.data≠.cell v):
  Inv (lcX X scope N cl C s H fp) [(D,oD)] (x8 k R σ) H { s with heap:=h1,toks:=t } where
 ok:=vk4 I sc hf ho hC ei bn
 os:=rfl
 bare:=I.bare
 base:=Un.kept i8
 loc:=⟨m,hn,λi x v e1 e2 vis=>by
  obtain⟨mX,hnX,hl⟩:=I.loc;unfold x8 at e2
  by_cases hi:i<k
  ·rw [List.getElem?_append_left (by rw[Y3];exact hi),List.getElem?_replicate,X9 hi]at e2;cases e2
  ·have hk:k<=i:=Nat.le_of_not_lt hi;rw [List.getElem?_append_right (by rw[Y3];exact hk),Y3,Y6]at e2;cases er:R[i - k]? with
   | none=>rw[er]at e2;cases e2
   | some j=>
    rw [er]at e2;have ej:(σ[j]?).join=some v:=by simpa using e2
    have ej':σ[j]?=some (some v):=by
     cases q:σ[j]? with
     | none=>rw[q]at ej;cases ej
     | some z=>rw[q]at ej;cases z with
      | none=>cases ej
      | some z=>rw[show z=v by simpa using ej]
    obtain⟨o1,o2⟩:=sc.outs (i - k) j x er (by rw[show k+(i - k)=i by omega];exact e1);have cap:=sc.caps (x,.free) (Y2 o2) rfl;have visX:Vis X.env.scope x:=cap.elim (λz=>.inr (.inl z)) λz=>.inr (.inr z)
    obtain⟨u,ru,q⟩:=hl j x v o1 ej' visX;refine⟨u,ru,?_⟩;rcases q with⟨q,_⟩|⟨_,c,ec,hc⟩
    ·rcases cap with z|z
     ·rw[z]at q;cases q
     ·rw[z]at q;cases q
    ·obtain⟨c',ec'⟩:=bn (x,.free) (Y2 o2) rfl;have e:c'=c:=oq9 ((ei x c' ec').symm.trans ec);subst e;refine .inr ⟨?_,c',ec',?_⟩
     ·rcases vis with z|z|z
      ·rcases Wq (env:=X.env) (names:=scope.names) z with y|⟨y,_⟩
       ·have y':=sc.names _ y rfl;rw[o2]at y';cases y'
       ·cases y
      ·exact .inl z
      ·exact .inr z
     ·obtain⟨o,h1,h2⟩:=hc;exact⟨o,i8 _ _ h1,h2⟩⟩
 cell:=λx c h=>by
  obtain⟨v,o,h1,h2⟩:=I.cell x c (ei x c h);exact⟨v,o,i8 _ _ h1,h2⟩
 free:=I.hok.fresh hC
 freeC:=λx c h=>I.freeC x c (ei x c h)
 pin:=λp hp=>by
  have e:p=(D,oD):=by
   have hp:p∈([]++[(D,oD)]:List (Addr×Obj)):=hp
   simpa using hp
  subst e;exact⟨eD,I.hok.fresh hD,jb,qxz I hD,dD⟩
 hok:=I.hok.kept i8
 len:=by
  show(x8 k R σ).length=N.length;unfold x8;rw[sc.len,Xx,Y3,X7]
theorem kk3{a:Addr}{o:HO}(I:Inv X pins σ H s)(hn:H a=none)(hL:a≠X.env.locals)(h1:a∈X.ex\/X.s₀.heap.objs.size<=a)(h2:∀x c,X.env.cells.lookup x=some c->c≠a)(h3:∀p∈X.pn++pins,p.1≠a)
  (new:ObjOk X.prog X.w (upd H a o) s.heap a o):Inv X pins σ (upd H a o) s:=by
 have hok:HOk X.prog X.w (upd H a o) s.heap:=λb u e=>by
  by_cases hb:b=a
  ·subst hb;rw[wq]at e;cases e;exact new
  ·rw[kj hb]at e;exact(I.hok b u e).stay (λ_ _ _ q=>q) (λc q=>by rw[kj (vJ q hn)];exact q) λc xs q=>by rw[kj (vJ q hn)];exact q
 have na:∀b:Addr,b∉[a]->b≠a:=λb hb z=>hb (by rw[z];exact List.mem_singleton.mpr rfl)
 exact I.step (h':=s.heap) (H':=upd H a o) (g':=s.gens) (t':=s.toks) (d':=s.drawn) (ch:=[a])
  (λb hb=>by rw[List.mem_singleton.mp hb];exact⟨h1,hL,h2,h3⟩) (λb o _ _ _ e _=>e) (λb o _ _ _ e _=>⟨o.slots,e⟩) (λb o hb _ q=>by rw[kj (na b hb)];exact q)
  (λb o _ e=>⟨o,e⟩) (λb xs q=>by rw[kj (vJ q hn)];exact q) (λb o u q=>by rw[kj (vJ q hn)];exact q) (λb ps q=>⟨#[],by rw[kj (vJ q hn),q];simp⟩)
  (λm hm=>hm) hok I.bare
end
noncomputable def PTs(X:Cx)(cz:List Expr)(t:TT):Prop:=
 ∀(pins:List (Addr×Obj)) (s:Shared) (σ:L2.St) (H:Hp) (Q:Bool->Hp->Prop),Inv X pins σ H s->t σ H Q->wpAny (model X.prog X.w) X.A (kxu cz X.env) (TP X pins σ Q) X.xe s
abbrev tYes:TT:=λ_ H Q=>Q true H
theorem qvv{X:Cx}:PTs X [] tYes:=λ_ _ _ H _ I h=>wpAny_tests_nil ⟨H,I,h⟩
theorem qvu{X:Cx}{c:Expr}{t:TT}(hc:PT X c t):PTs X [c] t:=λpins s σ H Q I h=>wpAny_tests_one (hc pins s σ H Q I h)
noncomputable def LcW(g:TG)(tt:TT)(te:TE)(Q:VK)(J:It)(W:Nat->Nat->List V->L2.St->Hp->Prop):Prop:=∀i m ys σ H,W i m ys σ H ->
 (J.stop i H/\ys.length<=sizeLine/\∀p,H p=none->Q (.ref p) (upd H p (.lst ys))) \/
 (J.go i H/\∀x H1,J.yld i H x H1->g x σ H1 fun σ2 H2=>∃(Ny:VK) (Nn:Hp->Prop),(∀y H4,Ny y H4->ys.length<=sizeLine/\∃m',m'<m/\W (i+1) m' (ys++[y]) σ2 H4) /\
  (∀H4,Nn H4->∃m',m'<m/\W (i+1) m' ys σ2 H4)/\tt σ2 H2 λb H3=>if b=true then te σ2 H3 Ny else Nn H3)
abbrev tLC(wi:TI)(g:TG)(tt:TT)(te:TE)(k:Nat)(R:List Nat):TE:=fun σ H Q=>wi σ H λJ H1=>
 ∃W:Nat->Nat->List V->L2.St->Hp->Prop,(∃m,W 0 m [] (x8 k R σ) H1)/\LcW g tt te Q J W
abbrev Q3(ai:List Value)(n:Nat):Obj:={ cls:=.type "list",data:=.seq ai.toArray n }
section
variable {X:Cx}
theorem op_mulI:OpR X (binaryOp .Mult) (rI IntMulOk λi j=>.int (i*j)):=opI λ_ _ _ _ _ _ _ hc q=>mul_int q hc
def vq9(_i j:Int):Prop:=0<j/\j.natAbs.log2<9000
theorem Q6:OpR X (binaryOp .FloorDiv) (rI vq9 λi j=>.int (i / j)):=opI λi j _ _ _ _ _ hc q=>by
 have h1:(0:Int)<j:=hc.1;exact floordiv_int (by omega) (by rw[Int.fdiv_eq_ediv_of_nonneg i (by omega)];exact q) (.inl (PyProof.noPylong_of_log2 hc.2))
def kinds:List String:=["NoneType","bool","int","str","list","tuple","dict"]
def VQ(T U:String):Bool:=T==U||(T == "bool" && U == "int")
theorem kq3{K:PySem.W.Frag}{T U:String}(hT:T∈kinds)(hU:U∈kinds.tail):PySem.W.kitOne K (.type T) (.type U)=some (VQ T U):=by
 simp only[kinds,List.tail_cons,Xu,Xn,or_false]at hT hU;rcases hT with rfl|rfl|rfl|rfl|rfl|rfl|rfl<;>rcases hU with rfl|rfl|rfl|rfl|rfl|rfl<;>with_unfolding_all rfl
noncomputable def vwy(K:PySem.W.Frag):List V->Hp->VK->Prop:=λxs H Q=>∃x T U,xs=[x,.ty U]/\TyOf K H x (.type T)/\T∈kinds/\U∈kinds.tail/\Q (.bl (VQ T U)) H
theorem qkm:CallR X (.builtin "isinstance") (vwy X.K):=by
 intro pins s σ H xs us Q I r h;obtain⟨x,T,U,rfl,ty,hT,hU,q⟩:=h;obtain⟨u,w',rfl,r1,r2⟩:=K6 r;cases(show w'=Value.type U from r2);exact kz2 I r1 ty (kq3 hT hU) λtk=>⟨.bl _,H,I.tok _,rfl,q⟩
theorem qqz:∀{bs:List Bool} {ai:List Value} {i:Nat} {v:Value},Vals (bs.map V.bl) ai->ai[i]?=some v->∃b,bs[i]?=some b/\v=.bool b
 |[],_,_,_,.nil,e=>by simp at e
 |b::bs,_,0,v,.cons r _,e=>by
  simp at e;subst e;exact⟨b,rfl,r⟩
 |b::bs,_,i+1,v,.cons _ t,e=>by
  obtain⟨b',e1,e2⟩:=qqz (i:=i) t (by simpa using e);exact⟨b',by simpa using e1,e2⟩
theorem kjn(bs:List Bool):((List.range bs.length).all λi=>(bs[i]?).getD true)=bs.all id:=by
 rw[Bool.eq_iff_iff,Yj,Yj];constructor
 ·intro h b hb;obtain⟨i,hi,e⟩:=List.getElem_of_mem hb;have:=h i (List.mem_range.mpr hi);rw[X8 hi,e]at this;exact this
 ·intro h i hi;have jt:=List.mem_range.mp hi;rw[X8 jt];exact h _ (List.getElem_mem jt)
noncomputable def vva(K:PySem.W.Frag):List V->Hp->VK->Prop:=λxs H Q=>∃(p:Addr) (bs:List Bool),xs=[.ref p]/\SqL K H p (bs.map V.bl)/\Q (.bl (bs.all id)) H
theorem qkp(hc:X.calm=true):CallR X (.builtin "all") (vva X.K):=by
 intro pins s σ H xs us Q I r h;obtain⟨p,bs,rfl,hq,q⟩:=h;obtain⟨u,rfl,ru⟩:=JQ r;cases ru;obtain⟨ai,rv,pl,hz⟩:=I.list hq;have hl:=pl.isList;have dl:p<s.heap.objs.size:=by obtain⟨_,e,_⟩:=hl;exact Xe e
 have b6:bs.length=ai.length:=by rw[<-rv.length,X7]
 refine call_all_walk (wpAny_pyIter_list hl ?_);refine⟨s.heap.objs.size,[s.heap.objs.size,p],[s.heap.objs.size],ai.toArray.size,_,_,λi=>(bs[i]?).getD true,rfl,Walks.list (A:=X.A.in1) (I.ok.hd hc) _ p (Xr dl) ai.toArray,
  ⟨⟨_,Xk _ rfl,rfl,rfl⟩,hl.push _⟩,λi v s' Q' E' hP hQ=>?_,λh' tk hk=>?_⟩
 ·obtain⟨b,e,rfl⟩:=qqz rv (by simpa using hP);simp only[e,Option.getD_some]at hQ;exact Y5 hQ
 ·have e:((List.range ai.toArray.size).all λi=>(bs[i]?).getD true)=bs.all id:=by
   rw[X4,<-b6];exact kjn bs
  rw[e];refine⟨.bl _,H,I.kept (t':=tk) (h':=h') λb o e=>hk b o (λz=>?_) (X6 _ e),rfl,q⟩;exact absurd (Xe e) (by rw[List.mem_singleton.mp z];exact Xz _)
def Its(x:Str):It:=⟨λi _=>i<x.cps.size,λi H v H'=>H'=H/\∃c,x.cps[i]?=some c/\v=.str ⟨#[c]⟩,λi _=>i=x.cps.size⟩
theorem kqh{P:Program}{w:World}{K:PySem.W.Frag}{tg:Expr}{x:Str}{t:Tok}{it:Addr}{ty:String}
  (W:∀A':Around,A'.handled=none->Walks P w A' it [it] [it] x.cps.size (SignAt x) (λi h=>h.IsStrIter it ty x t i))
  (lq:∀(A:Around) (i:Nat) (s:Shared) (Q:Value->Shared->Prop) (E:Value->Shared->Prop),s.heap.IsStrIter it ty x t i->Q (.ref it) s->wpAny (model P w) A (pyIter (.ref it)) Q E s)
  (lc:["enumerate","zip","dict_itemiterator","dict_reverseitemiterator","odict_iterator","itertools.zip_longest","itertools.pairwise"].contains ty=false):
  Turn P w K tg (Its x) [it] it (λi h=>h.IsStrIter it ty x t i) where
 mem:=by simp
 obj:=λi h st b hb=>by
  have e:b=it:=by simpa using hb
  subst e;obtain⟨o,e,c,d⟩:=st;exact⟨o,e,λv z=>by rw[d]at z;cases z⟩
 keep:=λi h h' st k=>by
  obtain⟨o,e,r⟩:=st;exact⟨o,k it (by simp) o e,r⟩
 item:=by
  intro X hP hw hK hc i pins s σ H E I hf st hg;subst hP hw hK;obtain⟨f0,f1,f2,f3,f4,f5⟩:=hf it (by simp);refine(W X.A (I.ok.hd hc)).item i s _ _ hg st λv h' tk hv cq kk=>?_
  obtain⟨c,u,fe,rfl⟩:=hv;have I1:Inv X pins σ H { s with heap:=h',toks:=tk }:=I.turned (λb o hb e=>kk b o (by simpa using hb) e) f0 f1 f3 f4 f5;obtain⟨o,e,c1,d⟩:=id cq;exact⟨_,rfl,Z8 (s:={ s with heap:=h',toks:=tk }) e c1 d lc ⟨.str ⟨#[c]⟩,H,I1,⟨u,rfl⟩,⟨rfl,c,fe,rfl⟩,cq,λb hb=>(hf b hb).1⟩⟩
 done:=by
  intro X hP hw hK hc i pins s σ H E I hf st hg;subst hP hw hK;obtain⟨f0,f1,f2,f3,f4,f5⟩:=hf it (by simp);have ie:i=x.cps.size:=hg;subst ie;exact(W X.A (I.ok.hd hc)).done s _ _ st λh' tk kk=>⟨rfl,I.turned (λb o hb e=>kk b o (by simpa using hb) e) f0 f1 f3 f4 f5⟩
 self:=λA i s Q E st hQ=>lq A i s Q E st hQ
noncomputable def vws:V->Option Int->Option Int->Hp->VK->Prop:=λx lo hi H Q=>∃z,x=.str z/\z.length<=sizeLine/\Q (.str (Txt.slice z lo hi)) H
theorem qz6:SlR X vws:=by
 intro pins s σ H x v vl vu lo hi sl Q I rx hs pl pu h;obtain⟨z,rfl,hz,q⟩:=h;obtain⟨t,rfl⟩:=rx;refine⟨"str",_,F.slot_str_getitem.lookup,typeIs_str _ _ _,?_⟩;have fin:∀(t':Tok) (k:Nat),EP X pins σ Q (.str (Txt.slice z lo hi) t') { s with toks:=k }:=λt' k=>⟨.str _,H,I.tok k,⟨t',rfl⟩,q⟩
 have fi:(Txt.slice z lo hi).length<=sizeLine:=Xl (Txt.slice_le z _ _) hz;cases pl with
 |none=>cases pu with
  |none=>exact wpAny_getItem_str_slice (l:=none) (u:=none) (st:=none) hs rfl (post_val_or_str ⟨fi,fin⟩)
  |int j tj=>exact wpAny_getItem_str_slice (l:=none) (u:=some (j,tj)) (st:=none) hs rfl (post_val_or_str ⟨fi,fin⟩)
 |int i ti=>cases pu with
  |none=>exact wpAny_getItem_str_slice (l:=some (i,ti)) (u:=none) (st:=none) hs rfl (post_val_or_str ⟨fi,fin⟩)
  |int j tj=>exact wpAny_getItem_str_slice (l:=some (i,ti)) (u:=some (j,tj)) (st:=none) hs rfl (post_val_or_str ⟨fi,fin⟩)
def qzf:R2:=λx y H Q=>∃z n,x=.str z/\y=.int n/\(z.length<=1024/\n<=1024/\-1024<=n)/\Q (.str (Txt.mul z n)) H
theorem qwb:OpR X (binaryOp .Mult) qzf:=by
 intro pins s σ H x y v u Q I rx ry h;obtain⟨z,n,rfl,rfl,⟨h1,h2,h3⟩,q⟩:=h;obtain⟨t,rfl⟩:=rx;obtain⟨t',rfl⟩:=ry;exact SB.mul (mulOk_of 1024 1024 h1 h2 (by omega) (by decide) (by decide)) λt' k=>⟨.str _,H,I.tok k,⟨t',rfl⟩,q⟩
theorem kql:∀{ys:List Str} {ai:List Value},Vals (ys.map V.str) ai->StrsAre ai ys
 |[],_,.nil=>.nil
 |_::_,_,.cons ⟨t,e⟩ r=>by subst e;exact .cons _ t (kql r)
noncomputable def vv8(K:PySem.W.Frag):V->List V->Hp->VK->Prop:=λx vs H Q=>∃z p ys,x=.str z/\vs=[.ref p]/\SqL K H p (ys.map V.str)/\(ys.map (·.length)).sum+ys.length*z.length<=16777216/\Q (.str (Txt.join z ys)) H
theorem qwl:MtR X "str.join" (vv8 X.K):=by
 intro pins s σ H x xs v us Q I rx rv h;obtain⟨z,p,ys,rfl,rfl,hq,hok,q⟩:=h;obtain⟨t,rfl⟩:=rx;obtain⟨u,rfl,ru⟩:=rv.one;cases ru;obtain⟨ai,rs,pl,hz⟩:=I.list hq;exact join_list pl.isList (kql rs) hok λt' k=>⟨.str _,H,I.tok k,⟨t',rfl⟩,q⟩
noncomputable def qq9(K:PySem.W.Frag):V->Option Int->Option Int->Hp->VK->Prop:=λx lo hi H Q=>vwt K x lo hi H Q\/vwr K x lo hi H Q\/vws x lo hi H Q
theorem vqz(K:PySem.W.Frag)(hK:autoParam (X.K=K) Ŕ):SlR X (qq9 K):=by subst hK;exact sl_list.or (sl_tup.or qz6)
noncomputable def kwt(K:PySem.W.Frag):List V->Hp->VK->Prop:=λxs H Q=>(∃p ys,xs=[.ref p]/\(SqL K H p ys\/SqT K H p ys)/\Q (.int ys.length) H)\/(∃z,xs=[.str z]/\z.length<=sizeLine/\Q (.int z.length) H)\/(∃a ax,xs=[V.ref a]/\H a=some (.dK ax)/\Q (.int ax.length) H)
theorem qx7(K:PySem.W.Frag)(hK:autoParam (X.K=K) Ŕ):CallR X (.builtin "len") (kwt K):=by subst hK;exact call_len_seq.or (call_len_str.or kzt)
theorem kzw:CallR X (.type "int") (λxs H Q=>(∃i,xs=[.int i]/\Q (.int i) H)\/∃k,xs=[.bl k]/\Q (.int (if k then 1 else 0)) H):=kzv
theorem kzx(K:PySem.W.Frag)(hK:autoParam (X.K=K) Ŕ)(hc:autoParam (X.calm=true) Ŕ):CallR X (.builtin "all") (vva K):=by subst hK;exact qkp hc
theorem vjj(K:PySem.W.Frag){o e:Expr}{es:List Expr}{T:String}{name:Str}{id:String}{r:V->List V->Hp->VK->Prop}{to:TE}{t:TA}{bb av:Pos}
  (pa:PlainAttrs T) (slot:Slot T name id) (lc:typeOf (.builtin id)=pure (.type "method_descriptor")) (hm:MtR X id r) (ho:PE X o to) (ha:PA X (e::es) t)
  (bg:autoParam (attributeBase o name X.env (eval o X.env)=eval o X.env) Ŕ)
  (cg:autoParam (((backTo av (starEach (e::es) X.env)).all (λx=>!x.1)&&(backToKw av (keywordEach [] X.env)).all (λx=>x.1.isSome)
   && decide ((e::es).length+([]:List Keyword).length+(if([]:List Keyword).isEmpty then 0 else 1)<30))=true) Ŕ)
  (bi:autoParam ((bb.endLine==av.line)=true) Ŕ) (hs:autoParam (starEach (e::es) X.env=(false,eval e X.env)::starEach es X.env) Ŕ) (ba:autoParam ((backTo av (starEach es X.env)).any (·.1)=false) Ŕ) (hK:autoParam (X.K=K) Ŕ):
  PE X (.Call (.Attribute o name bb) (e::es) [] av) (tBM K T r to t):=by subst hK;exact V1 pa slot lc hm ho ha bg cg bi hs ba
theorem vkx:bootBuiltins "len"=some (.builtin "len"):=by decide +kernel
theorem jqm:bootBuiltins "isinstance"=some (.builtin "isinstance"):=by decide +kernel
theorem qqx:bootBuiltins "all"=some (.builtin "all"):=by decide +kernel
theorem kzz:bootBuiltins "int"=some (.type "int"):=by decide +kernel
theorem Wj:bootBuiltins "str"=some (.type "str"):=by decide +kernel
theorem qxc:bootBuiltins "bool"=some (.type "bool"):=by decide +kernel
theorem qxb:bootBuiltins "list"=some (.type "list"):=by decide +kernel
theorem qkx:bootBuiltins "tuple"=some (.type "tuple"):=by decide +kernel
theorem vkw:bootBuiltins "zip"=some (.type "zip"):=by decide +kernel
end
def Cst(mg:Str->Option Value)(x:Str)(v:V):Prop:=∃u,mg x=some u/\RelV v u
section
variable {X:Cx}{x:Str}{p pos:Pos}{e:Expr}{es:List Expr}{t:TA}{ps:List Str}{sp:Sp}{k:Nat}{v:V}
theorem Qz(c:Cst X.mg x v)(hg:autoParam (Gl X x) Ŕ)(hd:autoParam ((x==("__debug__":Str))=false) ŕ):PE X (.Name x pos) (tC v):=by
 obtain⟨u,m,r⟩:=c;exact kxb hg m r hd
end
theorem kvm:∀{ns:List Int} {m:Nat},PySem.W.WData.weightAll (ns.map PySem.W.WData.int)<=m->∀n∈ns,Builtin.Int.intBits n<=m
 | [],_,_,_,h=>nomatch h
 | a::r,m,h,n,hn=>by
  have h':(if a==0 then 0 else a.natAbs.log2+1)+1+PySem.W.WData.weightAll (r.map PySem.W.WData.int)<=m:=h;rcases List.mem_cons.mp hn with z|z
  ·subst z;have e:Builtin.Int.intBits n=(if n==0 then 0 else n.natAbs.log2+1):=rfl;rw[e];omega
  ·exact kvm (m:=m) (by omega) n z
theorem kqd{ns:List Int}(h:PySem.W.WData.layableAll [PySem.W.WData.list (ns.map PySem.W.WData.int)]=true):∀n∈ns,Builtin.Int.intBits n<=1048576:=by
 have h1:(PySem.W.WData.list (ns.map PySem.W.WData.int)).layable=true:=(PySem.W.layW_cons h).1;unfold PySem.W.WData.layable at h1;simp only[Bool.and_eq_true,Y7]at h1;have h2:PySem.W.WData.weightAll (ns.map PySem.W.WData.int)<=2 ^ 20:=h1.2;exact kvm (by simpa using h2)
inductive D where
 |non|bl (b:Bool)|int (i:Int)|str (z:Str)|lst (xs:List D)|tup (xs:List D)
section
variable {X:Cx}{pins:List (Addr×Obj)}{σ:L2.St}{H:Hp}{s:Shared}
theorem in1_units(A:Around):A.in1.units<=A.units+1:=by
 first|exact Xb _|(show A.units+1<=A.units+1;exact Xb _)|(unfold Around.in1;simp)
end
section
variable {X:Cx}
noncomputable def qvm:V->List V->Hp->VK->Prop:=λv vs H Q=>∃(x y:Str) (i:Nat) (jv:List Nat),v=.str x/\vs=[.str y]/\Builtin.Str.occurrences x y 0 x.length 1=i::jv/\Q (.int i) H
theorem qwn:MtR X "str.index" qvm:=by
 intro pins s σ H x xs v us Q I rx rv h;obtain⟨z,y,i,jv,rfl,rfl,ho,q⟩:=h;obtain⟨t,rfl⟩:=rx;obtain⟨u,rfl,t',rfl⟩:=rv.one;exact SC.index ho ⟨.int i,H,I.tok _,⟨_,rfl⟩,q⟩
end
abbrev LET:Str:="abcdefghijklmnopqrstuvwxyz"
abbrev Nm(n:Int):Prop:=-(10 ^ 60)<n/\n<10 ^ 60
def Wd(z:Str):Prop:=1<=z.length/\z.length<=8/\∀ch∈z.cps.toList,ch∈LET.cps.toList
theorem xY(z:Str):z.length=z.cps.toList.length:=by rw[X0];rfl
theorem kzm(x y:Str):(x++y).cps.toList=x.cps.toList++y.cps.toList:=by
 show(x.cps++y.cps).toList=_;rw[Array.toList_append]
section
variable {X:Cx}{pins:List (Addr×Obj)}{σ:L2.St}{H:Hp}{s:Shared}
theorem jxk{t':Nat}{h':Heap}(fp:List Addr)(I:Inv X pins σ H s)(k:∀b o,b∉fp->s.heap.get? b=some o->h'.get? b=some o)(hf:∀b∈fp,qQ X pins H b):Inv X pins σ H { s with heap:=h',toks:=t' }:=by
 have jg:∀b u,H b=some u->b∉fp:=λb u e z=>by rw[(hf b z).1]at e;cases e
 refine I.step (g':=s.gens) (d':=s.drawn) (ch:=fp) (λb hb=>?_) (λb o _ _ hc e _=>k b o hc e) (λb o _ _ hc e _=>⟨o.slots,k b o hc e⟩) (λ_ _ _ _ n=>n)
  (λb o hc e=>⟨o,k b o hc e⟩) (λ_ _ e=>e) (λ_ _ _ e=>e) (λb ps e=>⟨#[],by rw[e];simp⟩) (λm hm=>?_) (λb u e=>?_) I.bare
 ·obtain⟨_,f1,_,f3,f4,f5⟩:=hf b hb;exact⟨f3,f1,f4,f5⟩
 ·obtain⟨o,es,ep,ho,r⟩:=hm;exact⟨o,es,ep,k _ o (λz=>(hf _ z).2.1 rfl) ho,r⟩
 ·refine(I.hok b u e).stay (λc v hc q=>k c v ?_ q) (λ_ q=>q) λ_ _ q=>q
  rcases hc with z|z
  ·rw[z];exact jg b u e
  ·exact jg c _ z
end
noncomputable def Itz(K:PySem.W.Frag)(l1 l2:Addr):It:=⟨λi H=>∃xs ys x y,SqL K H l1 xs/\SqL K H l2 ys/\xs[i]?=some x/\ys[i]?=some y,
 λi H v H'=>∃T x y,H T=none/\v=.ref T/\H'=upd H T (.tup [x,y])/\(∀xs,SqL K H l1 xs->xs[i]?=some x)/\∀ys,SqL K H l2 ys->ys[i]?=some y,
 λi H=>∃xs ys,SqL K H l1 xs/\SqL K H l2 ys/\(xs.length<=i\/ys.length<=i)⟩
abbrev znt(z TI TO i1 i2 l1 l2:Addr)(i:Nat)(h:Heap):Prop:=IsZip h z TI TO .none/\IsPair h TI (.ref i1) (.ref i2)/\(∃a b,IsPair h TO a b)/\h.IsListIter i1 l1 i/\h.IsListIter i2 l2 i
theorem qjc{P:Program}{w:World}{K:PySem.W.Frag}{dh:List Expr}{k1:Nat}{pos:Pos}{z TI TO i1 i2 l1 l2:Addr}(ap:ZipApart z TI TO i1 i2 l1 l2):
  Turn P w K (.Tuple dh k1 pos) (Itz K l1 l2) [z,TI,TO,i1,i2] z (znt z TI TO i1 i2 l1 l2) where
 mem:=by simp
 obj:=λi h st b hb=>by
  obtain⟨h1,h2,⟨a,c,h3⟩,⟨o4,e4,c4,d4⟩,o5,e5,c5,d5⟩:=st;simp only[Xu,Xn,or_false]at hb;rcases hb with rfl|rfl|rfl|rfl|rfl
  ·exact⟨_,h1,λv z=>by cases z⟩
  ·exact⟨_,h2,λv z=>by cases z⟩
  ·exact⟨_,h3,λv z=>by cases z⟩
  ·exact⟨_,e4,λv z=>by rw[d4]at z;cases z⟩
  ·exact⟨_,e5,λv z=>by rw[d5]at z;cases z⟩
 keep:=λi h h' st k=>by
  obtain⟨h1,h2,⟨a,c,h3⟩,⟨o4,e4,c4,d4⟩,o5,e5,c5,d5⟩:=st;exact⟨k _ (by simp) _ h1,k _ (by simp) _ h2,⟨a,c,k _ (by simp) _ h3⟩,⟨o4,k _ (by simp) _ e4,c4,d4⟩,o5,k _ (by simp) _ e5,c5,d5⟩
 item:=by
  intro X hP hw hK hc i pins s σ H E I hf st hg;subst hP hw hK;obtain⟨xs,ys,x,y,q1,q2,hx,hy⟩:=hg;obtain⟨km,rv1,p1,hz1⟩:=I.list q1;obtain⟨u1,hu1,ru1⟩:=rv1.get hx;obtain⟨ef,rv2,p2,jo⟩:=I.list q2;obtain⟨u2,hu2,ru2⟩:=rv2.get hy;obtain⟨t1,t2,⟨a,b,t3⟩,t4,t5⟩:=st;refine wpAny_pyNext_zip_item ap t1 t2 t3 t4 t5 p1.isList p2.isList (x:=u1) (y:=u2) (by simpa using hu1) (by simpa using hu2) λh1 g1 g3 g4 g5 gT gs gk=>?_
  refine⟨_,rfl,wpAny_letOwnedTupleGo_zip (s:={ s with heap:=h1 }) g1 λh2 f1 sb=>?_⟩;have fT:qQ X pins H s.heap.objs.size:=I.fpOk (Xb _) (I.hok.fresh (Xb _));have nT:∀b∈[z,TI,TO,i1,i2],b≠s.heap.objs.size:=λb hb e=>by
   obtain⟨o,eo,_⟩:∃o,s.heap.get? b=some o/\True:=by
    simp only[Xu,Xn,or_false]at hb;obtain⟨o4,e4,_⟩:=t4;obtain⟨o5,e5,_⟩:=t5;rcases hb with rfl|rfl|rfl|rfl|rfl
    ·exact⟨_,t1,trivial⟩
    ·exact⟨_,t2,trivial⟩
    ·exact⟨_,t3,trivial⟩
    ·exact⟨_,e4,trivial⟩
    ·exact⟨_,e5,trivial⟩
   exact absurd (Xe eo) (by rw[e];exact Xz _)
  have kk:∀b o,b∉[z,TO,i1,i2]->s.heap.get? b=some o->h2.get? b=some o:=λb o hb e=>by
   simp only[Xu,Xn,or_false,not_or]at hb;exact(sb.2 b hb.1).trans (gk b o hb.1 hb.2.1 hb.2.2.1 hb.2.2.2 e)
  have I1:Inv X pins σ H { s with heap:=h2,toks:=s.toks }:=jxk [z,TO,i1,i2] I kk λb hb=>hf b (by
   simp only[Xu,Xn,or_false]at hb ⊢;rcases hb with h|h|h|h<;>simp[h])
  have nz:s.heap.objs.size≠z:=λe=>nT z (by simp) e.symm
  have I2:=kk3 (a:=s.heap.objs.size) (o:=.tup [x,y]) I1 fT.1 fT.2.1 fT.2.2.2.1 fT.2.2.2.2.1 fT.2.2.2.2.2
   (show ObjOk X.prog X.w _ h2 _ (.tup [x,y])from⟨by show(2:Nat)<=sizeLine;decide,[u1,u2],.cons ru1 (.cons ru2 .nil),⟨_,(sb.2 _ nz).trans gT,rfl,rfl,0,rfl⟩⟩)
  refine⟨.ref s.heap.objs.size,_,I2,rfl,⟨_,x,y,fT.1,rfl,rfl,λzs hzs=>by rw[I.list_inj hzs q1];exact hx,λzs hzs=>by rw[I.list_inj hzs q2];exact hy⟩,?_,λb hb=>by rw[kj (nT b hb)];exact(hf b hb).1⟩;refine⟨f1,?_,⟨u1,u2,(sb.2 _ ap.TOz).trans g3⟩,g4.at λo e=>(sb.2 _ ap.i1z).trans e,g5.at λo e=>(sb.2 _ ap.i2z).trans e⟩;exact(sb.2 _ ap.TIz).trans (gk _ _ ap.TIz ap.TITO ap.TIi1 ap.TIi2 t2)
 done:=by
  intro X hP hw hK hc i pins s σ H E I hf st hg;subst hP hw hK;obtain⟨xs,ys,q1,q2,hx⟩:=hg;obtain⟨km,rv1,p1,hz1⟩:=I.list q1;obtain⟨ef,rv2,p2,jo⟩:=I.list q2;obtain⟨t1,t2,⟨a,b,t3⟩,t4,t5⟩:=st;have hl1:=rv1.length;have hl2:=rv2.length;refine wpAny_pyNext_zip_end (I.ok.hd hc) ap t1 t2 t3 t4 t5 p1.isList p2.isList (hx.imp (λh=>by simp;omega) λh=>by simp;omega) λh' kk=>⟨rfl,?_⟩
  refine jxk (t':=s.toks) [z,TO,i1,i2] I (λb o hb e=>?_) λb hb=>hf b (by
   simp only[Xu,Xn,or_false]at hb ⊢;rcases hb with h|h|h|h<;>simp[h])
  simp only[Xu,Xn,or_false,not_or]at hb;exact kk b o hb.1 hb.2.1 hb.2.2.1 hb.2.2.2 e
 self:=λ_ _ _ _ _ st h=>wpAny_pyIter_zip st.1 h
abbrev iZip(K:PySem.W.Frag)(ta:TA):TI:=fun σ H R=>ta σ H λvs H1=>∃l1 l2,vs=[.ref l1,.ref l2]/\(∃xs,SqL K H1 l1 xs)/\(∃ys,SqL K H1 l2 ys)/\R (Itz K l1 l2) H1
section
variable {X:Cx}
theorem vjb(K:PySem.W.Frag){a b:Expr}{ta:TA}{p pos gc:Pos}{dh:List Expr}{k1:Nat}(hg:Gl X "zip")(hm:X.mg "zip"=none)(ha:PA X [a,b] ta)(hK:autoParam (X.K=K) Ŕ)
  (hs:autoParam (starEach [a,b] X.env=[(false,eval a X.env),(false,eval b X.env)]) Ŕ) (kf:autoParam (starEach [b] X.env=[(false,eval b X.env)]) Ŕ):
  PI X (.Tuple dh k1 gc) (.Call (.Name "zip" p) [a,b] [] pos) (iZip K ta):=by
 subst hK;intro pins s σ H R I h;refine Call_ (V2 I hg hm vkw (PyProof.Rows.callWith_type1 (thn (ha pos pins s σ H _ I h) λus s1 ⟨vs,H1,I1,r1,q1⟩=>?_) (by rw[hs,kf]) (by rw[kf];rfl)));obtain⟨l1,l2,rfl,⟨xs,q1⟩,⟨ys,q2⟩,q⟩:=q1;obtain⟨u1,u2,rfl,e1,e2⟩:=K6 r1;cases e1;cases e2;obtain⟨km,rv1,p1,hz1⟩:=I1.list q1;obtain⟨ef,rv2,p2,jo⟩:=I1.list q2;have lt:∀{l:Addr} {ar:Array Value},s1.heap.IsList l ar->l<s1.heap.objs.size:=λh=>by obtain⟨_,e,_⟩:=h;exact Xe e
 refine call_zip_2 p1.isList p2.isList λh' g1 g2 g3 g4 g5 gs gk=>?_
 refine wpAny_pyIter_zip g1 ⟨_,[_,s1.heap.objs.size+2,s1.heap.objs.size+3,s1.heap.objs.size,s1.heap.objs.size+1],_,_,H1,rfl,I1.kept (t':=s1.toks) gk,
  qjc (zipApart_new (lt p1.isList) (lt p2.isList)),⟨g1,g2,⟨_,_,g3⟩,g4,g5⟩,λb hb=>?_,q⟩
 have fi:s1.heap.objs.size<=b:=by
  simp only[Xu,Xn,or_false]at hb;rcases hb with rfl|rfl|rfl|rfl|rfl<;>omega
 exact I1.fpOk fi (I1.hok.fresh fi)
end
noncomputable def splitL(c:Nat):List Nat->List (List Nat)
 |[]=>[[]]
 |x::r=>if x=c then[]::splitL c r else match splitL c r with
  |[]=>[[x]]
  |p::ps=>(x::p)::ps
def joinL(c:Nat):List (List Nat)->List Nat
 |[]=>[]
 |[p]=>p
 |p::q::r=>p++c::joinL c (q::r)
theorem jz3(c:Nat):∀l,(splitL c l).length<=l.length+1
 | []=>by simp[splitL]
 | x::r=>by
  have ih:=jz3 c r;unfold splitL
  split
  ·simp;omega
  ·split
   ·simp
   ·rename_i h;rw[h]at ih
    simpa using Nat.le_succ_of_le ih
theorem jx6{c:Nat}:∀{p:List Nat},c∉p->splitL c p=[p]
 |[],_=>rfl
 |x::r,h=>by
  have hx:x≠c:=λe=>h (by rw[e];exact X3)
  unfold splitL;rw[Xg hx,jx6 λz=>h (lc9 _ z)]
theorem jz4{c:Nat}{r:List Nat}:∀{p:List Nat},c∉p->splitL c (p++c::r)=p::splitL c r
 |[],_=>by simp[splitL]
 |x::p,h=>by
  have hx:x≠c:=λe=>h (by rw[e];exact X3)
  rw[List.cons_append,splitL.eq_2,Xg hx,jz4 λz=>h (lc9 _ z)]
theorem jvf{c:Nat}:∀{ps:List (List Nat)},ps≠[]->(∀p∈ps,c∉p)->splitL c (joinL c ps)=ps
 |[],h,_=>absurd rfl h
 |[p],_,h=>jx6 (h p (List.mem_singleton.mpr rfl))
 |p::q::r,_,h=>by
  show splitL c (p++c::joinL c (q::r))=_;rw[jz4 (h p X3),jvf (by simp) λz hz=>h z (lc9 _ hz)]
theorem joinS_cps(c:Nat):∀zs:List Str,(Txt.join ⟨#[c]⟩ zs).cps.toList=joinL c (zs.map λz=>z.cps.toList):=by
 intro zs;show(Builtin.Str.glued ⟨#[c]⟩ zs).cps.toList=_;rw[StrLaws.glued_eq_join]
 induction zs with
 | nil=>rfl
 | cons z zs ih=>
  cases zs with
  |nil=>simp[Str.join,joinL]
  |cons y ys=>
   show(z.cps++(#[c]:Array Nat)++(Str.join ⟨#[c]⟩ (y::ys)).cps).toList=_;rw[Array.toList_append,Array.toList_append,ih];show _=z.cps.toList++c::joinL c (y.cps.toList::ys.map λz=>z.cps.toList);simp
theorem str_ext{a b:Str}(h:a.cps.toList=b.cps.toList):a=b:=by
 rw[StrLaws.mk_of_toList h]
theorem split_list(x:Str)(c:Nat):(Txt.split x ⟨#[c]⟩).map (λz=>z.cps.toList)=splitL c x.cps.toList:=by
 have hj:=StrLaws.join_split x ⟨#[c]⟩;have hf:=StrLaws.split_free x c;have db:Txt.split x ⟨#[c]⟩≠[]:=by
  intro e;have e0:x.length<(⟨#[c]⟩:Str).length:=by
   rw[e]at hj;have:x=Str.empty:=hj.symm;rw[this];show 0<1;omega
  unfold Txt.split at e
  rw[X9 (by rw[X5 e0,Bool.true_or])]at e;cases e
 have q:=joinS_cps c (Txt.split x ⟨#[c]⟩);rw[show Txt.join ⟨#[c]⟩ (Txt.split x ⟨#[c]⟩)=x from(StrLaws.glued_eq_join _ _).trans hj]at q;rw[q];refine(jvf ?_ ?_).symm
 ·simpa using db
 ·intro p hp;obtain⟨z,hz,rfl⟩:=List.mem_map.mp hp;exact hf z hz
theorem kjl(x:Str)(c:Nat):(Txt.split x ⟨#[c]⟩).length<=x.length+1:=by
 have h:=congrArg List.length (split_list x c);rw[X7]at h;rw[h,xY];exact jz3 _ _
theorem jzl{c:Nat}{b:List Nat}:∀{a:List Nat},c∉a->(a++c::b).takeWhile (· != c)=a/\(a++c::b).dropWhile (· != c)=c::b
 |[],_=>by simp
 |x::a,h=>by
  have hx:x≠c:=λe=>h (by rw[e];exact X3)
  obtain⟨h1,h2⟩:=jzl (b:=b) (a:=a) λz=>h (lc9 _ z)
  have hb:(x != c)=true:=by simpa using hx
  constructor
  ·rw[List.cons_append,List.takeWhile_cons,X9 hb,h1]
  ·rw[List.cons_append,List.dropWhile_cons,X9 hb,h2]
theorem kko{c:Nat}:∀{a:List Nat},c∉a->a.takeWhile (· != c)=a/\a.dropWhile (· != c)=[]
 |[],_=>by simp
 |x::a,h=>by
  have hx:x≠c:=λe=>h (by rw[e];exact X3)
  obtain⟨h1,h2⟩:=kko (a:=a) λz=>h (lc9 _ z)
  have hb:(x != c)=true:=by simpa using hx
  constructor
  ·rw[List.takeWhile_cons,X9 hb,h1]
  ·rw[List.dropWhile_cons,X9 hb,h2]
theorem part_list(x:Str)(c:Nat):(Txt.partition x ⟨#[c]⟩).1.cps.toList=x.cps.toList.takeWhile (· != c)/\(Txt.partition x ⟨#[c]⟩).2.2.cps.toList=(x.cps.toList.dropWhile (· != c)).tail:=by
 rcases partition_whole x ⟨#[c]⟩with⟨e,h⟩|⟨i,e,h,hk⟩
 ·have hm:c∉x.cps.toList:=λz=>by
   obtain⟨i,hi,e⟩:=List.getElem_of_mem z;exact h i ((StrLaws.subAt_one x c i).mpr (by rw[X8 hi,e]))
  rw[e,(kko hm).1,(kko hm).2];exact⟨rfl,rfl⟩
 ·have hi:=(StrLaws.subAt_one x c i).mp h;have dl:i<x.cps.toList.length:=(List.getElem?_eq_some_iff.mp hi).1;have hm:c∉x.cps.toList.take i:=λz=>by
   obtain⟨k,hk1,e⟩:=List.getElem_of_mem z;have hk2:k<i:=by rw[Ye]at hk1;omega
   refine hk k hk2 ((StrLaws.subAt_one x c k).mpr ?_);rw[List.getElem_take]at e;rw[X8 (by omega),e]
  have ex:x.cps.toList=x.cps.toList.take i++c::x.cps.toList.drop (i+1):=by
   have:=List.take_append_drop i x.cps.toList;rw[List.drop_eq_getElem_cons dl]at this;rw[<-(List.getElem?_eq_some_iff.mp hi).2];exact this.symm
  rw[e];dsimp only;rw[StrLaws.strSub_toList,StrLaws.strSub_toList];have h1:=jzl (b:=x.cps.toList.drop (i+1)) hm;rw[<-ex]at h1;rw[h1.1,h1.2];refine⟨by simp,?_⟩;show List.take (x.length - (i+1)) (List.drop (i+1) x.cps.toList)=_;rw[List.tail_cons];refine List.take_of_length_le ?_;rw[Yi,xY];exact Xb _
theorem starts_list(x:Str)(c:Nat):Txt.startswith x ⟨#[c]⟩=decide (x.cps.toList.head?=some c):=by
 have h:=StrLaws.subAt_one x c 0;rw[Bool.eq_iff_iff,Y7,List.head?_eq_getElem?,<-h];unfold Txt.startswith;rw[Bool.and_eq_true,Y7]
section
variable {X:Cx}
theorem kjk:∀(k:Nat) (zs:List Str),Vals (zs.map V.str) (strsFrom k zs)
 |_,[]=>.nil
 |k,z::zs=>.cons ⟨k,rfl⟩ (kjk (k+1) zs)
def kkt:V->List V->Hp->VK->Prop:=λv vs H Q=>∃x y:Str,v=.str x/\vs=[.str y]/\Q (.bl (Txt.startswith x y)) H
theorem qka:MtR X "str.startswith" kkt:=by
 intro pins s σ H x xs v us Q I rx rv h;obtain⟨z,y,rfl,rfl,q⟩:=h;obtain⟨t,rfl⟩:=rx;obtain⟨u,rfl,t',rfl⟩:=rv.one;exact SC.startswith ⟨.bl _,H,I,rfl,q⟩
noncomputable def kws:V->List V->Hp->VK->Prop:=λv vs H Q=>∃(x:Str) (c:Nat),v=.str x/\vs=[.str ⟨#[c]⟩]/\x.length<sizeLine/\∀p,H p=none->Q (.ref p) (upd H p (.lst ((Txt.split x ⟨#[c]⟩).map V.str)))
theorem qwm:MtR X "str.split" kws:=by
 intro pins s σ H x xs v us Q I rx rv h;obtain⟨z,c,rfl,rfl,hz,q⟩:=h;obtain⟨t,rfl⟩:=rx;obtain⟨u,rfl,t',rfl⟩:=rv.one;have b6:=kjl z c;have hn:H s.heap.objs.size=none:=I.hok.fresh (Xb _);have fin:∀(ai:List Value) (tk:Nat),Vals ((Txt.split z ⟨#[c]⟩).map V.str) ai->EP X pins σ Q (.ref s.heap.objs.size) { s with heap:=s.heap.push { cls:=.type "list",data:=.seq ai.toArray },toks:=tk }:=λai tk r=>
  ⟨.ref _,_,I.laid (t':=tk) (λb o e=>X6 _ e) (Xb _) (show ObjOk X.prog X.w _ _ _ (.lst _)from⟨by rw[X7];omega,ai,0,r,Xk _ rfl⟩),rfl,q _ hn⟩
 by_cases h1:(decide (z.length<(⟨#[c]⟩:Str).length)||decide (Builtin.Str.strKind z<Builtin.Str.strKind ⟨#[c]⟩))=true
 ·refine call_meets F.slot_str_split (typeIs_str _ _ _) F.entry_str_split (F.args_str_split_2 _ _) (meets_str_split_cannot_occur z ⟨#[c]⟩ t t' h1) ?_;have e:Txt.split z ⟨#[c]⟩=[z]:=by unfold Txt.split;rw[X9 h1]
  exact fin [.str z t] s.toks (by rw[e];exact .cons ⟨_,rfl⟩ .nil)
 ·have h1':=Bool.eq_false_iff.mpr h1
  by_cases h2:(Builtin.Str.occurrences z ⟨#[c]⟩ 0 z.length (z.length+1)).isEmpty=true
  ·refine call_meets F.slot_str_split (typeIs_str _ _ _) F.entry_str_split (F.args_str_split_2 _ _) (meets_str_split_not_found z ⟨#[c]⟩ t t' h1' rfl h2) ?_;have e:Txt.split z ⟨#[c]⟩=[z]:=by unfold Txt.split;rw[Xg h1,X9 h2]
   exact fin [.str z t] s.toks (by rw[e];exact .cons ⟨_,rfl⟩ .nil)
  ·have e:Txt.split z ⟨#[c]⟩=Builtin.Str.partsBetween z (Builtin.Str.occurrences z ⟨#[c]⟩ 0 z.length (z.length+1)) (⟨#[c]⟩:Str).length:=by unfold Txt.split;rw[Xg h1,Xg h2]
   refine call_meets F.slot_str_split (typeIs_str _ _ _) F.entry_str_split (F.args_str_split_2 _ _) (meets_str_split_sep z ⟨#[c]⟩ t t' h1' rfl (Bool.eq_false_iff.mpr h2) (Nat.le_of_lt hz) (by rw[<-e];omega)) ?_;rw[<-e];exact fin _ _ (kjk _ _)
noncomputable def qvj:V->List V->Hp->VK->Prop:=λv vs H Q=>∃(x:Str) (c:Nat),v=.str x/\vs=[.str ⟨#[c]⟩]/\x.length<=sizeLine/\∀p,H p=none->Q (.ref p) (upd H p (.tup [.str (Txt.partition x ⟨#[c]⟩).1,.str (Txt.partition x ⟨#[c]⟩).2.1,.str (Txt.partition x ⟨#[c]⟩).2.2]))
theorem vjz:MtR X "str.partition" qvj:=by
 intro pins s σ H x xs v us Q I rx rv h;obtain⟨z,c,rfl,rfl,hz,q⟩:=h;obtain⟨t,rfl⟩:=rx;obtain⟨u,rfl,t',rfl⟩:=rv.one;have hn:H s.heap.objs.size=none:=I.hok.fresh (Xb _);refine call_meets F.slot_str_partition (typeIs_str _ _ _) F.entry_str_partition (F.args_str_partition_2 _ _) (meets_str_partition z ⟨#[c]⟩ t t' rfl hz) ?_;have fin:∀(a b d:Str) (t1 t2 t3:Tok) (tk:Nat),Txt.partition z ⟨#[c]⟩=(a,b,d)->EP X pins σ Q (.ref s.heap.objs.size) { s with heap:=s.heap.push { cls:=.type "tuple",data:=.seq #[.str a t1,.str b t2,.str d t3] },toks:=tk }:=λa b d t1 t2 t3 tk e=>by
  refine⟨.ref _,_,I.laid (t':=tk) (λb o e=>X6 _ e) (Xb _) (show ObjOk X.prog X.w _ _ _ (.tup _)from⟨by show 3<=sizeLine;decide,[.str a t1,.str b t2,.str d t3],?_,IsTupD.new _ _⟩),rfl,q _ hn⟩;rw[e];exact .cons ⟨_,rfl⟩ (.cons ⟨_,rfl⟩ (.cons ⟨_,rfl⟩ .nil))
 cases ho:Builtin.Str.occurrences z ⟨#[c]⟩ 0 z.length 1 with
 |nil=>exact fin z Str.empty Str.empty _ _ _ _ (by unfold Txt.partition;rw[ho])
 |cons i r=>exact fin _ ⟨#[c]⟩ _ _ _ _ _ (by unfold Txt.partition;rw[ho])
noncomputable def kwu:List V->Hp->VK->Prop:=λxs H Q=>(∃i,xs=[.int i]/\Q (.int i) H)\/(∃k,xs=[.bl k]/\Q (.int (if k then 1 else 0)) H)\/∃(x:Str) (n:Int),xs=[.str x]/\PySem.intText? x=some n/\x.length<=640/\Q (.int n) H
theorem kkb:CallR X (.type "int") kwu:=by
 intro pins s σ H xs us Q I r h;rcases h with h|h|⟨x,n,rfl,hx,hl,q⟩
 ·exact kzw pins s σ H xs us Q I r (.inl h)
 ·exact kzw pins s σ H xs us Q I r (.inr h)
 ·obtain⟨u,rfl,t,rfl⟩:=JQ r;exact PySem.W.KIN.call_text hx hl ⟨.int n,H,I.tok _,⟨_,rfl⟩,q⟩
end
abbrev FIG:Str:="0123456789"
def letC(c:Nat):Bool:=decide (c∈LET.cps.toList)
def figC(c:Nat):Bool:=decide (c∈FIG.cps.toList)
def signL(cs:List Nat):Bool:=decide (1<=cs.length)&&decide (cs.length<=8)&&cs.all letC
def numL(cs:List Nat):Bool:=!decide (cs=[])&&cs.all figC&&(decide (cs=[48])||!decide (cs.head?=some 48))
def figsL(cs:List Nat):List Nat:=if cs.head?=some 45 then cs.tail else cs
def nameL(cs:List Nat):Bool:=!decide (cs=[45,48])&&(numL (figsL cs)&&decide ((figsL cs).length<=60))
def valL(cs:List Nat):Int:=if cs.head?=some 45 then -(NumText.digitsVal cs.tail:Int)else NumText.digitsVal cs
noncomputable def partL(cs:List Nat):Option (Str×Int):=
 if signL (cs.takeWhile (· != 58))&&nameL (cs.dropWhile (· != 58)).tail then some (⟨(cs.takeWhile (· != 58)).toArray⟩,valL (cs.dropWhile (· != 58)).tail)else none
noncomputable def rowL(cs:List Nat):Option (List (Str×Int)):=if cs=[45]then some []else if(splitL 32 cs).length<=60 then(splitL 32 cs).mapM partL else none
theorem kzb(c:Nat):figC c=true↔48<=c/\c<=57:=by
 unfold figC;rw[Y7];have e:FIG.cps.toList=[48,49,50,51,52,53,54,55,56,57]:=by decide
 rw[e];simp only[Xu,Xn,or_false];omega
theorem kjz:∀c∈LET.cps.toList,97<=c/\c<=122:=by decide
theorem qv7{z:Str}(h:Wd z):signL z.cps.toList=true:=by
 obtain⟨h1,h2,h3⟩:=h;unfold signL;rw[<-xY,X5 h1,X5 h2,Bool.true_and,Bool.true_and,Yj];intro c hc;exact X5 (h3 c hc)
def numT(n:Int):List Nat:=(Str.ofString (toString n)).cps.toList
def qx(m:Nat):List Nat:=(Nat.toDigits 10 m).map Char.toNat
theorem kqz(m:Nat):numT (m:Int)=qx m:=PySem.W.KIN.signs_num m
theorem kjw(s:String):(Str.ofString s).cps.toList=s.toList.map Char.toNat:=by
 rw[PyProof.Rows.signs_ofString]
theorem kqy(m:Nat)(h:0<m):numT (-(m:Int))=45::qx m:=by
 unfold numT qx;rw[kjw];obtain⟨k,rfl⟩:∃k,m=k+1:=⟨m - 1,by omega⟩;have e:toString (-((k+1:Nat):Int))="-"++toString (k+1):=rfl;rw[e,String.toList_append,Y8];show[45]++List.map Char.toNat (toString (k+1)).toList=_;rw[Nat.toString_eq_ofList_toDigits,String.toList_ofList];rfl
theorem Vq(m:Nat):NumText.AllDigits (qx m):=λc hc=>by
 obtain⟨ch,h,rfl⟩:=List.mem_map.mp hc;have:=Nat.isDigit_of_mem_toDigits (by decide) (by decide) h;unfold Char.isDigit at this;simp only[Bool.and_eq_true,Y7]at this;have h1:=UInt32.le_iff_toNat_le.mp this.1;have h2:=UInt32.le_iff_toNat_le.mp this.2;exact⟨h1,h2⟩
theorem kq8(m:Nat):qx m≠[]:=λe=>Nat.toDigits_ne_nil (List.map_eq_nil_iff.mp e)
theorem W3(m:Nat):NumText.digitsVal (qx m)=m:=PySem.W.KIN.val_back m
theorem jx4{m:Nat}(h:m<10 ^ 60):(qx m).length<=60:=by
 unfold qx;rw[X7];exact digits10_le (by decide) h
theorem kzj(m:Nat):qx m=[48]\/(qx m).head?≠some 48:=by
 by_cases h0:m=0
 ·subst h0;exact .inl rfl
 ·refine .inr λe=>?_
  have h:=NumText.toDigits_all (qx m) (Vq m);rw[W3]at h;cases hd:qx m with
  | nil=>exact kq8 m hd
  | cons c r=>
   rw[hd]at e h;have ec:c=48:=by simpa using e
   subst ec;have hl:(Nat.toDigits 10 m).length=r.length+1:=by
    have:=congrArg List.length hd;unfold qx at this;rw[X7]at this;exact this
   rw[h]at hl;have hdw:List.dropWhile (λx=>x==48) (48::r)=List.dropWhile (λx=>x==48) r:=by simp
   rw[hdw]at hl h;have fi:(List.dropWhile (λx:Nat=>x==48) r).length<=r.length:=(List.dropWhile_sublist _).length_le;cases q:List.dropWhile (λx:Nat=>x==48) r with
   |nil=>
    rw[q]at h;have h:Nat.toDigits 10 m=['0']:=h;have:qx m=[48]:=by unfold qx;rw[h];rfl
    have v:=W3 m;rw[this]at v;exact h0 v.symm
   |cons c' r'=>
    rw[q]at hl fi;have hl:(List.map Char.ofNat (c'::r')).length=r.length+1:=hl;rw[X7]at hl;omega
theorem kqx(m:Nat):numL (qx m)=true:=by
 unfold numL;rw[X1 (kq8 m),Bool.not_false,Bool.true_and,Bool.and_eq_true];refine⟨List.all_eq_true.mpr λc hc=>(kzb c).mpr (Vq m c hc),?_⟩;rcases kzj m with h|h
 ·rw[X5 h,Bool.true_or]
 ·rw[X1 h,Bool.not_false,Bool.or_true]
theorem jv2(m:Nat):(qx m).head?≠some 45:=λe=>by
 cases h:qx m with
 |nil=>exact kq8 m h
 |cons c r=>
  rw[h]at e;have ec:c=45:=by simpa using e
  have:=Vq m c (by rw[h];exact X3);omega
theorem kv3{n:Int}(h:Nm n):(∃m:Nat,n=m/\m<10 ^ 60)\/∃m:Nat,n=-(m:Int)/\0<m/\m<10 ^ 60:=by
 obtain⟨h1,h2⟩:=h
 by_cases h0:0<=n
 ·exact .inl ⟨n.toNat,by omega,by omega⟩
 ·exact .inr ⟨(-n).toNat,by omega,by omega,by omega⟩
theorem kv4{n:Int}(h:Nm n):nameL (numT n)=true/\valL (numT n)=n:=by
 rcases kv3 h with⟨m,rfl,hm⟩|⟨m,rfl,h0,hm⟩
 ·rw[kqz];unfold nameL figsL valL;rw[Xg (jv2 m),Xg (jv2 m),kqx,X5 (jx4 hm),W3];refine⟨?_,rfl⟩;rw[X1 (λe=>jv2 m (by rw[e];rfl))];rfl
 ·rw[kqy m h0];unfold nameL figsL valL;have hh:(45::qx m).head?=some 45:=rfl;rw[X9 hh,X9 hh,List.tail_cons,kqx,X5 (jx4 hm),W3];refine⟨?_,rfl⟩;have:¬(45::qx m=[45,48]):=λe=>by
   have e':qx m=[48]:=by simpa using e
   have v:=W3 m;rw[e']at v;have:NumText.digitsVal [48]=0:=rfl;omega
  rw[X1 this];rfl
theorem numT_signs{n:Int}(h:Nm n):(∀c∈numT n,c=45\/48<=c/\c<=57)/\(numT n).length<=61:=by
 rcases kv3 h with⟨m,rfl,hm⟩|⟨m,rfl,h0,hm⟩
 ·rw[kqz];exact⟨λc hc=>.inr (Vq m c hc),Nat.le_succ_of_le (jx4 hm)⟩
 ·rw[kqy m h0];refine⟨λc hc=>?_,Nat.succ_le_succ (jx4 hm)⟩;rcases List.mem_cons.mp hc with e|e
  ·exact .inl e
  ·exact .inr (Vq m c e)
theorem int_name {z : Str} (h : nameL z.cps.toList = true): PySem.intText? z = some (valL z.cps.toList) /\ z.length<=61:= by
  unfold nameL at h;rw [Bool.and_eq_true, Bool.and_eq_true]at h;obtain⟨_, hn, hl⟩:= h;have hl:= of_decide_eq_true hl;unfold numL at hn;rw [Bool.and_eq_true, Bool.and_eq_true]at hn;obtain ⟨⟨h1, h2⟩, _⟩:= hn;have h1 : figsL z.cps.toList≠[]:= by simpa using h1
  have h2 : NumText.AllDigits (figsL z.cps.toList):= λc hc=>(kzb c).mp (List.all_eq_true.mp h2 c hc)
  by_cases hm : z.cps.toList.head? = some 45
  · unfold figsL at h1 h2 hl
    rw[X9 hm]at h1 h2 hl;unfold valL;rw[X9 hm];have e : z.cps.toList = 45::z.cps.toList.tail:= by
      cases q : z.cps.toList with
      |nil=>rw[q]at hm; cases hm
      | cons c r => rw[q]at hm; have : c = 45:= by simpa using hm
                    rw[this]; rfl
    have hz : z.length<=61:= by rw[xY, e, Xj]; omega
    exact⟨PySem.intText_neg e h2 h1 (by omega), hz⟩
  · unfold figsL at h1 h2 hl
    rw[Xg hm]at h1 h2 hl;unfold valL;rw[Xg hm];have hz : z.length<=61:= by rw[xY]; omega
    exact⟨PySem.intText_digits h2 h1 (by omega), hz⟩
def oneT(p:Str×Int):List Nat:=p.1.cps.toList++58::numT p.2
theorem qk2{p:Str×Int}(h:Wd p.1)(hn:Nm p.2):partL (oneT p)=some p:=by
 have hc:58∉p.1.cps.toList:=λz=>by have:=kjz _ (h.2.2 _ z);omega
 obtain⟨h1,h2⟩:=jzl (b:=numT p.2) hc;unfold partL oneT;rw[h1,h2,List.tail_cons,qv7 h,(kv4 hn).1,(kv4 hn).2];rfl
theorem one_signs{p:Str×Int}(h:Wd p.1)(hn:Nm p.2):32∉oneT p/\oneT p≠[45]/\(oneT p).length<=70:=by
 refine⟨λz=>?_,λe=>?_,?_⟩
 ·rcases List.mem_append.mp z with y|y
  ·have:=kjz _ (h.2.2 _ y);omega
  ·rcases List.mem_cons.mp y with y|y
   ·omega
   ·have:=(numT_signs hn).1 _ y;omega
 ·have:58∈oneT p:=lr9 _ X3;rw[e]at this;simp at this
 ·unfold oneT;have h2:=h.2.1;rw[xY]at h2;have:=(numT_signs hn).2;rw[Xx,Xj];omega
def rowT(r:List (Str×Int)):List Nat:=if r=[]then[45]else joinL 32 (r.map oneT)
theorem kv6:∀{r:List (Str×Int)},(∀p∈r,Wd p.1/\Nm p.2)->(r.map oneT).mapM partL=some r
 |[],_=>rfl
 |p::r,h=>by
  rw[List.map_cons,List.mapM_cons,qk2 (h p X3).1 (h p X3).2,kv6 λq hq=>h q (lc9 _ hq)];rfl
theorem row_read{r:List (Str×Int)}(h:∀p∈r,Wd p.1/\Nm p.2)(hl:r.length<=60):rowL (rowT r)=some r:=by
 cases r with
 | nil=>rfl
 | cons p r=>
  have hs:splitL 32 (joinL 32 ((p::r).map oneT))=(p::r).map oneT:=jvf (by simp) λq hq=>by
   obtain⟨y,hy,rfl⟩:=List.mem_map.mp hq;exact(one_signs (h y hy).1 (h y hy).2).1
  have db:joinL 32 ((p::r).map oneT)≠[45]:=λe=>by
   rw[e]at hs;have hs:[[45]]=(p::r).map oneT:=hs;have:oneT p=[45]:=by
    rw[List.map_cons]at hs;exact(List.cons.inj hs).1.symm
   exact(one_signs (h p X3).1 (h p X3).2).2.1 this
  unfold rowL rowT;rw[Xg (show ¬(p::r=[])by simp),Xg db,hs,X7,X9 hl,kv6 h]
theorem joinL_len{c k:Nat}:∀{ps:List (List Nat)},(∀p∈ps,p.length<=k)->(joinL c ps).length<=ps.length*(k+1)
 |[],_=>by simp[joinL]
 |[p],h=>by
  have:=h p (List.mem_singleton.mpr rfl);show p.length<=1*(k+1);omega
 |p::q::r,h=>by
  have h1:=h p X3;have ih:=joinL_len (c:=c) (ps:=q::r) λz hz=>h z (lc9 _ hz)
  show(p++c::joinL c (q::r)).length<=_;rw[Xx,Xj,Xj (a:=p),Nat.add_one_mul];omega
end L3
namespace L2
open PySem PySem.Spec PyProof.Rows
section
variable {P:Program}{w:World}{H H':Hp}{h h':Heap}{a:Addr}{o:HO}
theorem ObjOk.obj(x:ObjOk P w H h a o):∃u,h.get? a=some u:=by
 cases o with
 |lst xs=>obtain⟨_,_,_,_,e⟩:=x;exact⟨_,e⟩
 |tup xs=>obtain⟨_,_,_,p⟩:=x;obtain⟨u,e,_⟩:=p;exact⟨u,e⟩
 |dK ax=>obtain⟨_,_,_,_,o,_,_,e,_⟩:=x;exact⟨_,e⟩
 |dT ax=>obtain⟨_,_,_,_,o,_,_,e,_⟩:=x;exact⟨_,e⟩
 |set S n=>obtain⟨o,_,_,_,e,_⟩:=x;exact⟨_,e⟩
 |ins C dx fs=>obtain⟨_,_,_,e,_⟩:=x;exact⟨_,e⟩
 |own y=>obtain⟨_,e⟩:=x;exact⟨_,e⟩
 |xd fs=>obtain⟨_,⟨_,_,_,e,_⟩,_⟩:=x;exact⟨_,e⟩
 |rng lo hi=>obtain⟨_,_,_,e⟩:=x;exact⟨_,e⟩
 |frz ob u=>obtain⟨e,_⟩:=x;exact⟨_,e⟩
 |tbl ps=>exact⟨_,x⟩
 |met f y=>exact⟨_,x⟩
 |ext φ=>obtain⟨_,⟨_,e⟩,_⟩:=x;exact⟨_,e⟩
end
section
variable {X:Cx}{pins:List (Addr×Obj)}{σ:List (Option V)}{H H':Hp}{s:Shared}{h':Heap}
theorem Inv.stepN{g':Array GenState}{t':Nat}{d':Drawn}{ch:List Addr}(I:Inv X pins σ H s)
  (d9:∀b∈ch,(b∈X.ex\/X.s₀.heap.get? b=none)/\b≠X.env.locals/\(∀x c,X.env.cells.lookup x=some c->c≠b)/\∀p∈X.pn++pins,p.1≠b)
  (keep:∀b o,b≠X.env.locals->b∉X.fs->b∉ch->s.heap.get? b=some o->H b=none->h'.get? b=some o)
  (slot:∀b o,b≠X.env.locals->b∈X.fs->b∉ch->s.heap.get? b=some o->H b=none->∃sl,h'.get? b=some { o with slots:=sl }) (free:∀b o,b∉ch->s.heap.get? b=some o->H b=none->H' b=none)
  (there:∀b o,b∉ch->s.heap.get? b=some o->∃o',h'.get? b=some o')
  (tups:∀b xs,H b=some (.tup xs)->H' b=some (.tup xs)) (frzs:∀b o u,H b=some (.frz o u)->H' b=some (.frz o u)) (tbls:∀b ps,H b=some (.tbl ps)->∃et,H' b=some (.tbl (ps++et)))
  (ns:∀m,s.heap.Ns X.env.locals m->h'.Ns X.env.locals m) (hok:HOk X.prog X.w H' h') (hg:AllBare g'):
  Inv X pins σ H' { s with heap:=h',gens:=g',drawn:=d',toks:=t' }:=by
 have lp:∀b o,X.s₀.heap.get? b=some o->b≠X.env.locals:=λb o e=>Xr (Xa (Xe e) I.ok.above)
 have gz:∀b o,X.s₀.heap.get? b=some o->b∉X.ex->b∉ch:=λb o e hx hb=>by
  rcases(d9 b hb).1 with z|z
  ·exact hx z
  ·rw[z]at e;cases e
 have dz:∀x c,X.env.cells.lookup x=some c->∀v,s.heap.IsCell c v->h'.IsCell c v:=λx c e v ⟨o,ho,hd⟩=>by
  have fw:c∉ch:=λz=>(d9 c z).2.2.1 x c e rfl
  by_cases hc:c∈X.fs
  ·obtain⟨sl,q⟩:=slot c o (I.cne x c e) hc fw ho (I.freeC x c e);exact⟨_,q,hd⟩
  ·exact⟨o,keep c o (I.cne x c e) hc fw ho (I.freeC x c e),hd⟩
 refine⟨I.ok,I.os,hg,⟨λb o e n hb hx=>?_,λb o e n hb hx=>?_,λb o e n hx=>?_,λb o e hx=>?_,λb xs e=>tups b xs (I.base.tups b xs e),λb o xs e=>frzs b o xs (I.base.frzs b o xs e),λb ps e=>?_⟩,?_,λx c e=>?_,?_,λx c e=>?_,λp hp=>?_,hok,I.len⟩
 ·exact keep b o (lp b o e) hb (gz b o e hx) (I.base.keep b o e n hb hx) (I.base.free b o e n hx)
 ·obtain⟨sl,e1⟩:=I.base.slot b o e n hb hx;obtain⟨sl',e2⟩:=slot b _ (lp b o e) hb (gz b o e hx) e1 (I.base.free b o e n hx);exact⟨sl',e2⟩
 ·obtain⟨o',e1⟩:=I.base.there b o e hx;exact free b o' (gz b o e hx) e1 (I.base.free b o e n hx)
 ·obtain⟨o',e1⟩:=I.base.there b o e hx;exact there b o' (gz b o e hx) e1
 ·obtain⟨m1,e1⟩:=I.base.tbls b ps e;obtain⟨m2,e2⟩:=tbls b _ e1;exact⟨m1++m2,by rw[e2,Array.append_assoc]⟩
 ·obtain⟨m,hn,hl⟩:=I.loc;refine⟨m,ns m hn,λi x v e1 e2 e3=>?_⟩;obtain⟨u,r,l⟩:=hl i x v e1 e2 e3;refine⟨u,r,?_⟩;rcases l with l|⟨k,c,e,z⟩
  ·exact .inl l
  ·exact .inr ⟨k,c,e,dz x c e _ z⟩
 ·obtain⟨v,z⟩:=I.cell x c e;exact⟨v,dz x c e v z⟩
 ·obtain⟨m,⟨o,_,_,ho,_⟩,_⟩:=I.loc;exact free _ o (λz=>(d9 _ z).2.1 rfl) ho I.free
 ·obtain⟨v,o,ho,hd⟩:=I.cell x c e;exact free c o (λz=>(d9 c z).2.2.1 x c e rfl) ho (I.freeC x c e)
 ·obtain⟨e,n,ne,nf,d⟩:=I.pin p hp;have fw:p.1∉ch:=λz=>(d9 p.1 z).2.2.2 p hp rfl
  exact⟨keep p.1 p.2 ne nf fw e n,free p.1 p.2 fw e n,ne,nf,d⟩
theorem Inv.callN{g':Array GenState}{t':Nat}{d':Drawn}{ch:List Addr}(I:Inv X pins σ H s)(u:Un (frs X.stack) ch H H' s.heap h')(hok:HOk X.prog X.w H' h')(hg:AllBare g')
  (d9:∀b∈ch,(b∈X.ex\/X.s₀.heap.get? b=none)/\b≠X.env.locals/\(∀x c,X.env.cells.lookup x=some c->c≠b)/\∀p∈X.pn++pins,p.1≠b):
  Inv X pins σ H' { s with heap:=h',gens:=g',drawn:=d',toks:=t' }:=by
 obtain⟨m,⟨o,es,ep,ho,r⟩,_⟩:=id I.loc;obtain⟨sl,hL⟩:=u.any ho I.free λz=>(d9 _ z).2.1 rfl
 exact I.stepN (ch:=ch) d9 (λb o hL hb hc e n=>u.keep b o e n (λz=>(List.mem_cons.mp (I.stkSub b z)).elim hL hb) hc) (λb o _ _ hc e n=>u.any e n hc) (λb o hc e n=>u.free b o e n hc) (λb o hc e=>u.there b o e hc) u.tups u.frzs u.tbls (λm' hm=>by
  obtain⟨o',ic,kh,fb,r'⟩:=hm;rw[ho]at fb;cases fb;exact⟨_,ic,kh,hL,r'⟩) hok hg
end
end L2
namespace L3
open PySem PySem.Spec PyProof.Rows L2
theorem jxh{e:Value}{env env0:Env}(h:env.frame=env0.frame):noteFrame e env=noteFrame e env0:=by
 unfold noteFrame PySem.frameOf;rw[h]
structure Fl0 (h:Heap)(x:Addr)(C:Value)(vs:Array Value):Prop where
 ob:h.get? x=some { cls:=C,data:=.fields vs }
 sz:1<vs.size
structure FlT (h:Heap)(x T:Addr)(C:Value)(fl:Value):Prop where
 ex:∃vs,h.get? x=some { cls:=C,data:=.fields vs }/\vs[1]?=some (.ref T)
 tb:∃oT ts,h.get? T=some oT/\oT.data=.fields ts/\ts[3]?=some fl
 ne:T≠x
structure Chg (fs ch:List Addr)(h h':Heap):Prop where
 keep:∀b o,h.get? b=some o->b∉fs->b∉ch->h'.get? b=some o
 slot:∀b o,h.get? b=some o->b∉ch->∃sl,h'.get? b=some { cls:=o.cls,dict:=o.dict,data:=o.data,slots:=sl }
 size:h.objs.size<=h'.objs.size
theorem Chg.trans{fs ch ch':List Addr}{h h1 h2:Heap}(a:Chg fs ch h h1)(b:Chg fs ch' h1 h2)(hc:∀x∈ch',x∈ch\/h.get? x=none):Chg fs ch h h2 where
 keep:=λx o e h1 h2=>b.keep x o (a.keep x o e h1 h2) h1 λz=>(hc x z).elim h2 λq=>by rw[q]at e;cases e
 slot:=λx o e hn=>by
  obtain⟨sl,e1⟩:=a.slot x o e hn;obtain⟨ja,e2⟩:=b.slot x _ e1 λz=>(hc x z).elim hn λq=>by rw[q]at e;cases e
  exact⟨ja,e2⟩
 size:=Xl a.size b.size
theorem Chg.mono{fs ch ch':List Addr}{h h1:Heap}(a:Chg fs ch h h1)(hc:∀x∈ch,x∈ch'):Chg fs ch' h h1:=⟨λb o e h1 h2=>a.keep b o e h1 λz=>h2 (hc b z),λb o e h2=>a.slot b o e λz=>h2 (hc b z),a.size⟩
theorem Chg.of_upd{fs : List Addr}{h : Heap}{a : Addr}{f : Obj -> Obj}: Chg fs [a] h (h.update a f):=
  ⟨λb o e _ hn=>by rw[Y9 _ _ _ _ (λz=>hn (List.mem_singleton.mpr z))]; exact e,
   λb o e hn=>⟨o.slots, by rw[Y9 _ _ _ _ (λz=>hn (List.mem_singleton.mpr z))]; exact e⟩, by rw[Heap.size_update]; exact Xb _⟩
theorem Chg.of_push{fs:List Addr}{h:Heap}{o:Obj}:Chg fs [] h (h.push o):=
 ⟨λb o e _ _=>X6 _ e,λb o e _=>⟨o.slots,X6 _ e⟩,by rw[Heap.size_push];omega⟩
theorem Chg.of_slots{fs:List Addr}{h h':Heap}(s:Heap.SlotsOnly fs h h'):Chg fs [] h h':=
 ⟨λb o e hn _=>(s.2.1 b hn).trans e,λb o e _=>s.2.2 b o e,by rw[s.1];exact Xb _⟩
theorem Chg.refl{fs ch:List Addr}{h:Heap}:Chg fs ch h h:=⟨λ_ _ e _ _=>e,λb o e _=>⟨o.slots,e⟩,Xb _⟩
section
variable {M:Model}{A:Around}{E:Value->Shared->Prop}{s:Shared}{base:Heap}{env:Env}{outer:List Env}{L x T:Addr}{C fl:Value}
theorem kk8{head:Value}{hadNext:Bool}{vs:Array Value}{Q:Unit->Shared->Prop}(hA:A.frames=some (env::outer))(hF:s.heap.FunFrames base (env::outer))(hL:env.frame=some L)(ho:Fl0 s.heap x C vs)
  (h:∀h' T',Chg (frs (env::outer)) [x] s.heap h'->s.heap.objs.size<=T'->FlT h' x T' C (rawInt ↑L)->Q () { s with heap:=h' }):
  wpAny M A (do
   let a <-PySem.frameOf env
   let pl <-entryPlaceOf L hadNext
   let b <-EntryCells.newEntry head a Value.none (rawInt ↑L) Value.none pl
   setField (Value.ref x) 1 b) Q E s:=by
 refine X2 (wpAny_frameOf_fun hA hF hL λh1 s1=>?_);have hx:x∉frs (env::outer):=λz=>by
  obtain⟨_,o,e,hn⟩:=hF.mem z;rw[ho.ob]at e;cases e;exact hn _ rfl
 have o1:h1.get? x=some { cls:=C,data:=.fields vs }:=(s1.2.1 x hx).trans ho.ob;have fin:∀pl:List Value,IsPlace pl->wpAny M A (do
   let b <-EntryCells.newEntry head (Value.ref L) Value.none (rawInt ↑L) Value.none pl
   setField (Value.ref x) 1 b) Q E { s with heap:=h1 }:=λpl bz=>by
  refine X2 ?_;unfold EntryCells.newEntry newFields;have har:([head,Value.ref L,Value.none,rawInt ↑L,Value.none]++if pl.isEmpty=true then List.replicate 6 Value.none else pl).toArray[3]?=some (rawInt ↑L):=by simp
  have hsz:([head,Value.ref L,Value.none,rawInt ↑L,Value.none]++if pl.isEmpty=true then List.replicate 6 Value.none else pl).toArray.size<=sizeLine+2:=by
   rcases bz with rfl|⟨_,_,_,_,_,_,_,rfl⟩<;>simp<;>decide
  generalize ([head,Value.ref L,Value.none,rawInt ↑L,Value.none]++if pl.isEmpty=true then List.replicate 6 Value.none else pl).toArray=ar at har hsz;refine Y0 ?_ hsz;have o2:(h1.push { cls:=.type "traceback",data:=.fields ar }).get? x=some { cls:=C,data:=.fields vs }:=X6 _ o1;refine wpAny_setField (s:={ s with heap:=h1.push _ }) o2 rfl ho.sz ?_;have db:h1.objs.size≠x:=λe=>absurd (Xe o1) (by rw[<-e];exact Xz _)
  have o3:((h1.push { cls:=.type "traceback",data:=.fields ar }).update x (Obj.mapFields λy=>y.setIfInBounds 1 (.ref h1.objs.size))).get? h1.objs.size=some { cls:=.type "traceback",data:=.fields ar }:=by
   rw[Y9 _ _ _ _ db];exact Xk _ rfl
  refine h _ h1.objs.size (((Chg.of_slots s1).mono (λ_ z=>nomatch z)).trans ((Chg.of_push.mono λ_ z=>nomatch z).trans (ch:=[x]) Chg.of_upd λy hy=>.inl hy) λy hy=>.inl hy) (by rw[s1.1];exact Xb _) ⟨⟨vs.setIfInBounds 1 (.ref h1.objs.size),?_,Array.getElem?_setIfInBounds_self_of_lt ho.sz⟩,⟨_,_,o3,rfl,har⟩,db⟩;exact Heap.get?_update_self _ o2 rfl
 exact X2 (wpAny_entryPlaceOf λpl bz=>fin pl bz)
theorem vvs{vs:Array Value}{Q:Unit->Shared->Prop}(hA:A.frames=some (env::outer))(hF:s.heap.FunFrames base (env::outer))(hL:env.frame=some L)(ho:Fl0 s.heap x C vs)(hv:vs[1]?=some .none)
  (h:∀h' T',Chg (frs (env::outer)) [x] s.heap h'->s.heap.objs.size<=T'->FlT h' x T' C (rawInt ↑L)->Q () { s with heap:=h' }):wpAny M A (noteFrame (.ref x) env) Q E s:=by
 unfold noteFrame;rw[hL];refine X2 (Yk ho.ob rfl hv ?_);exact kk8 (hadNext:=false) hA hF hL ho h
theorem upd3{T:Addr}{oT:Obj}{ts:Array Value}{v:Value}{h:Heap}(e:h.get? T=some oT)(ed:oT.data=.fields ts)(h3:3<ts.size):
  ∃o' ts',(h.update T (Obj.mapFields λy=>y.setIfInBounds 3 v)).get? T=some o'/\o'.data=.fields ts'/\ts'[3]?=some v:=by
 obtain⟨c,d,dt,sl⟩:=oT;cases(show dt=.fields ts from ed);exact⟨_,ts.setIfInBounds 3 v,Heap.get?_update_self _ e rfl,rfl,Array.getElem?_setIfInBounds_self_of_lt h3⟩
theorem vvr{Q:Unit->Shared->Prop}(hA:A.frames=some (env::outer))(hF:s.heap.FunFrames base (env::outer))(hL:env.frame=some L)(f:FlT s.heap x T C fl)
  (h:∀h' T',Chg (frs (env::outer)) [x,T] s.heap h'->(s.heap.objs.size<=T'\/T'=T)->FlT h' x T' C (rawInt ↑L)->Q () { s with heap:=h' }):wpAny M A (noteFrame (.ref x) env) Q E s:=by
 obtain⟨⟨vs,e1,v1⟩,⟨oT,ts,e2,d2,v2⟩,db⟩:=f;have h3:3<ts.size:=by
  rw[Array.getElem?_eq_some_iff]at v2;exact v2.1
 have h1:1<vs.size:=by
  rw[Array.getElem?_eq_some_iff]at v1;exact v1.1
 unfold noteFrame;rw [hL];refine X2 (Yk e1 rfl v1 ?_);show wpAny M A (if((Value.ref T != Value.none)=true)then _ else _) Q E s;rw [X9 (show(Value.ref T != Value.none)=true from rfl)];refine X2 (Yk e2 d2 v2 ?_)
 by_cases hf:(fl==rawInt ↑L)=true
 ·rw[X9 hf];have e:fl=rawInt ↑L:=eq_of_beq hf;subst e;exact Xf (h s.heap T Chg.refl (.inr rfl) ⟨⟨vs,e1,v1⟩,⟨oT,ts,e2,d2,v2⟩,db⟩)
 ·rw[Xg hf];refine X2 (wpAny_setField e2 d2 h3 ?_);have c1:Chg (frs (env::outer)) [x,T] s.heap (s.heap.update T (Obj.mapFields λy=>y.setIfInBounds 3 Value.none)):=Chg.of_upd.mono λy hy=>by
   rw[List.mem_singleton.mp hy];simp
  have e1':(s.heap.update T (Obj.mapFields λy=>y.setIfInBounds 3 Value.none)).get? x=some { cls:=C,data:=.fields vs }:=by
   rw[Y9 _ _ _ _ db.symm];exact e1
  have hF':(s.heap.update T (Obj.mapFields λy=>y.setIfInBounds 3 Value.none)).FunFrames base (env::outer):=by
   refine hF.of_keeps λb o e hn=>⟨o,?_,rfl⟩
   rw[Y9 _ _ _ _ λz=>?_]
   ·exact e
   ·rw[z,e2]at e;cases e;exact hn _ d2
  refine kk8 (s:={ s with heap:=s.heap.update T _ }) (hadNext:=true) hA hF' hL ⟨e1',h1⟩ λh' T' c2 hs f'=>?_
  refine h h' T' (c1.trans (c2.mono (ch':=[x,T]) λy hy=>by rw[List.mem_singleton.mp hy];simp) λy hy=>.inl hy) (.inl ?_) f';rw[Heap.size_update]at hs;exact hs
theorem vkk{Q:Unit->Shared->Prop}{fr:Option Addr}(f:FlT s.heap x T C fl)(h:∀h',Chg (frs outer) [x,T] s.heap h'->FlT h' x T C (fr.elim Value.none λf=>rawInt ↑f)->Q () { s with heap:=h' }):wpAny M A (setFlight (.ref x) fr) Q E s:=by
 obtain⟨⟨vs,e1,v1⟩,⟨oT,ts,e2,d2,v2⟩,db⟩:=f;have h3:3<ts.size:=by
  rw[Array.getElem?_eq_some_iff]at v2;exact v2.1
 unfold setFlight;refine X2 (Yk e1 rfl v1 ?_);rw[X9 (show(Value.ref T != Value.none)=true from rfl)];refine wpAny_setField e2 d2 h3 (h _ (Chg.of_upd.mono λy hy=>by rw[List.mem_singleton.mp hy];simp) ⟨⟨vs,?_,v1⟩,upd3 e2 d2 h3,db⟩);rw[Y9 _ _ _ _ db.symm];exact e1
end
theorem qku:plainId "BaseException.__getattribute__"=true:=by decide +kernel
theorem qxa:builtinKind "BaseException.__getattribute__"=some .slot:=by decide +kernel
theorem qkt:splitId "BaseException.__getattribute__"=some ("BaseException","__getattribute__"):=by decide +kernel
structure XCls (K:PySem.W.Frag)(C:Addr):Prop where
 ga:PySem.W.findIn K (.ref C) "__getattribute__"=some (some (.builtin "BaseException.__getattribute__"))
 gt:PySem.W.findIn K (.ref C) "__getattr__"=some none
 fo:PySem.W.findObj K C none "__class__"=some (.bind (.builtin "getset_descriptor.__get__") (.builtin "object.__class__"))
 ob:PySem.W.mroIn K C (.type "object")=some true
 bx:PySem.W.mroIn K C (.type "BaseException")=some true
 cl:(PySem.W.clsIn K C).isSome=true
section
variable {P:Program}{w:World}{A:Around}{E:Value->Shared->Prop}{s:Shared}{K:PySem.W.Frag}{x C:Addr}{ox:Obj}
theorem Lk{α:Type}{M:Model}{A:Around}{E:Value->Shared->Prop}{s:Shared}{t:Sem α}{r:α}{Q:α->Shared->Prop}(l:PySem.W.Looks M s.heap t r)(q:Q r s):wpAny M A t Q E s:=l A Q E s (λ_ _ e=>e) q
theorem qkw{nm:Value}{Q:Unit->Shared->Prop}(KI:K.In s.heap)(X:XCls K C)(c9:PySem.W.InstAt s.heap x ox C none)(q:Q () s):
  wpAny (model P w) A (checkBuiltinCall "BaseException.__getattribute__" { pos:=[.ref x,nm] }) Q E s:=by
 rw[checkBuiltinCall.eq_1,qxa,qkt];refine X2 ?_;unfold isInstance;refine X2 (Lk c9.type (Lk (PySem.W.looks_mroIn KI X.bx) ?_));rw[Xg (by decide)];have h:=F.args_bexc_ga (.ref x) nm;unfold argsOk at h;show wpAny _ A (match Manifest.signature? "BaseException.__getattribute__" with|some sig=>Bind.checkArgs "BaseException.__getattribute__" sig { pos:=[.ref x,nm] }|x=>pure ()) Q E s;cases hs:Manifest.signature? "BaseException.__getattribute__" with
 |none=>exact Xf q
 |some sig=>
  rw[hs]at h;have h:Bind.checkArgs "BaseException.__getattribute__" sig { pos:=[.ref x,nm] }=pure ():=h;show wpAny _ A (Bind.checkArgs "BaseException.__getattribute__" sig { pos:=[.ref x,nm] }) Q E s;rw[h];exact Xf q
theorem vwb:(Value.builtin "BaseException.__getattribute__" == Value.builtin "object.__getattribute__")=false:=by decide
theorem qkv{Q:Option Value->Shared->Prop}(KI:K.In s.heap)(X:XCls K C)(c9:PySem.W.InstAt s.heap x ox C none)(q:Q (some (.ref C)) { s with toks:=s.toks+1 }):
  wpAny (model P w) A (getAttr? (.ref x) "__class__") Q E s:=by
 unfold getAttr?;refine X2 (wpAny_mkText ?_);unfold getAttrBy?;refine X2 (wpAny_attempt ?_);unfold getAttrBy;refine Yd (X2 (Lk (s:={ s with toks:=s.toks+1 }) c9.type (X2 (Lk (s:={ s with toks:=s.toks+1 }) (PySem.W.looks_findIn KI X.ga) ?_))));dsimp only;rw[Xg (by rw[vwb,Bool.and_false];decide)];unfold getAttrByItsOwn;refine X2 (Lk (s:={ s with toks:=s.toks+1 }) (PySem.W.looks_hook (K:=K) KI (r:=none) X.gt) ?_);refine X2 (wpAny_attempt (Yd ?_));unfold callGetattribute;rw[Xg (by decide)];unfold boundAndCalled;rw[F.excAttr_ValueError.ga.bind];refine X2 (Xf ?_);refine wpAny_call (codeAny_call_builtin qku F.entry_bexc_ga (qkw (s:={ s with toks:=s.toks+1 }) KI X c9 ?_));unfold Builtin.«object.__getattribute__»;have i7:slotArgs "__getattribute__" 1 { pos:=[.ref x]++[.str "__class__" s.toks] }=pure (.ref x,[.str "__class__" s.toks]):=rfl;rw[i7];refine X2 (Xf ?_);show wpAny _ A.in1 (Builtin.ObjectAttr.attrName (.str "__class__" s.toks) >>= _) _ _ _;refine X2 (Xf ?_);refine X2 (Lk (s:={ s with toks:=s.toks+1 }) c9.type ?_);refine X2 (Lk (s:={ s with toks:=s.toks+1 }) (PySem.W.looks_find KI c9 X.fo) ?_);show wpAny _ A.in1 (Builtin.ObjectAttr.bindTo (.builtin "getset_descriptor.__get__") (.builtin "object.__class__") (.ref x) (.ref C)) _ _ _;unfold Builtin.ObjectAttr.bindTo;refine X2 (Yd (wpAny_call (PySem.W.class_get (s:={ s with toks:=s.toks+1 }) KI c9 X.ob ?_)));refine Xf ?_;exact Xf (Xf q)
theorem kzn{h:Heap}(KI:K.In h)(X:XCls K C):∃o cd,h.get? C=some o/\o.data=.cls cd:=by
 have c:=X.cl;unfold PySem.W.clsIn at c
 split at c
 ·rename_i e;exact⟨_,_,KI _ _ e,rfl⟩
 ·cases c
theorem kj3(X:XCls K C):PySem.W.KitX K (.ref x) (.ref C) (λh=>∃ox,PySem.W.InstAt h x ox C none) where
 ty:=λM h KI ⟨ox,a⟩=>a.type
 it:=λM h KI _=>by
  obtain⟨o,cd,e,d⟩:=kzn KI X;intro A Q E s hk q;unfold isType;refine X2 (PySem.W.Looks.ld e A _ _ s hk ?_);rw[d];exact Xf q
 ne:=λh tp dd ai n sl KI e=>by
  obtain⟨o,cd,e',d⟩:=kzn KI X
  by_cases z:C=tp
  ·subst z;rw[e']at e;cases e;cases d
  ·simpa using z
 ca:=λKI ⟨ox,a⟩ q=>qkv KI X a q
end
noncomputable def FpX(X:Cx)(pins:List (Addr×Obj))(H:Hp)(b:Addr):Prop:=
 H b=none/\b≠X.env.locals/\b∉X.fs/\(b∈X.ex\/X.s₀.heap.get? b=none)/\(∀x c,X.env.cells.lookup x=some c->c≠b)/\∀p∈X.pn++pins,p.1≠b
section
variable {X:Cx}{pins:List (Addr×Obj)}{σ:L2.St}{H:Hp}{s:Shared}
theorem qkf{P:Program}{w:World}{H:Hp}{h:Heap}{b:Addr}(k:HOk P w H h)(e:h.get? b=none):H b=none:=by
 cases q:H b with
 |none=>rfl
 |some u=>
  obtain⟨o,z⟩:=(k b u q).obj;rw[e]at z;cases z
theorem fpX{H':Hp}{b:Addr}(I:Inv X pins σ H s)(hb:s.heap.get? b=none)(hn:H' b=none):FpX X pins H' b:=by
 refine⟨hn,λz=>?_,λz=>?_,?_,λx c e z=>?_,λp hp z=>?_⟩
 ·obtain⟨m,⟨o,_,_,ho,_⟩,_⟩:=I.loc;rw[<-z,hb]at ho;cases ho
 ·obtain⟨_,o,e,_⟩:=I.ok.funs.mem z
  by_cases hx:b∈X.ex
  ·exact I.ok.exfs b hx z
  ·obtain⟨o',e'⟩:=I.base.there b o e hx;rw[hb]at e';cases e'
 ·by_cases hx:b∈X.ex
  ·exact .inl hx
  ·cases e:X.s₀.heap.get? b with
   |none=>exact .inr rfl
   |some o=>
    obtain⟨o',e'⟩:=I.base.there b o e hx;rw[hb]at e';cases e'
 ·obtain⟨v,o,ho,_⟩:=I.cell x c e;rw[z,hb]at ho;cases ho
 ·have:=(I.pin p hp).1;rw[z,hb]at this;cases this
theorem FpX.of{b:Addr}(h:qQ X pins H b):FpX X pins H b:=⟨h.1,h.2.1,h.2.2.1,h.2.2.2.1.imp id λz=>Heap.get?_none_of_le z,h.2.2.2.2⟩
theorem kq5{h':Heap}{ch:List Addr}(I:Inv X pins σ H s)(c:Chg (frs X.stack) ch s.heap h')(hf:∀b∈ch,FpX X pins H b):Inv X pins σ H { s with heap:=h' }:=by
 refine I.callN (g':=s.gens) (t':=s.toks) (d':=s.drawn) (ch:=ch) ⟨λb o e _ h1 h2=>c.keep b o e h1 h2,λb o e _ _ h2=>c.slot b o e h2,λ_ _ _ n _=>n,λb o e h2=>?_,λ_ _ e=>e,λ_ _ _ e=>e,λ_ _ e=>⟨#[],by rw[e];simp⟩⟩ (λb u e=>?_) I.bare λb hb=>?_
 ·obtain⟨sl,q⟩:=c.slot b o e h2;exact⟨_,q⟩
 ·have no:∀d v,H d=some v->d∉frs X.stack/\d∉ch:=λd v e=>⟨λz=>(by rw[I.stkFree d z]at e;cases e),λz=>(by rw[(hf d z).1]at e;cases e)⟩
  refine(I.hok b u e).stay (λd v hc q=>?_) (λ_ q=>q) λ_ _ q=>q
  rcases hc with z|z
  ·rw[z]at q ⊢;exact c.keep b v q (no b u e).1 (no b u e).2
  ·exact c.keep d v q (no d _ z).1 (no d _ z).2
 ·obtain⟨_,f1,_,f3,f4,f5⟩:=hf b hb;exact⟨f3,f1,f4,f5⟩
end
structure Fx (X:Cx)(pins:List (Addr×Obj))(H:Hp)(h:Heap)(x:Addr)(C:Value):Prop where
 fp:FpX X pins H x
 st:(∃vs,Fl0 h x C vs/\vs[1]?=some .none)\/∃T fl,FlT h x T C fl/\FpX X pins H T
structure Xt (X:Cx)(pins:List (Addr×Obj))(σ:L2.St)(H:Hp)(x T:Addr)(C fl:Value)(s:Shared):Prop where
 inv:Inv X pins σ H s
 fx:FpX X pins H x
 fT:FpX X pins H T
 f:FlT s.heap x T C fl
theorem Xt.to{X:Cx}{pins:List (Addr×Obj)}{σ:L2.St}{H:Hp}{x T:Addr}{C fl:Value}{s:Shared}(h:Xt X pins σ H x T C fl s):Fx X pins H s.heap x C:=⟨h.fx,.inr ⟨T,fl,h.f,h.fT⟩⟩
noncomputable def Xo(X:Cx)(E:XK)(e:Value)(s:Shared):Prop:=∃pins σ H x C,e=.ref x/\Inv X pins σ H s/\Fx X pins H s.heap x C/\E C none H
def vY(X:Cx)(E:XK):Prop:=∀pins σ H s x C,Inv X pins σ H s->Fx X pins H s.heap x C->E C none H->X.xe (.ref x) s
abbrev Cx.ex'(X:Cx)(E:XK):Cx:=X.wish (Xo X E)
theorem Q1{X:Cx}{E:XK}:vY (Cx.ex' X E) E:=λpins σ H s x C I f q=>⟨pins,σ,H,x,C,rfl,I.unwish,⟨f.fp,f.st⟩,q⟩
def wQ(X:Cx):Prop:=∃env0 out,X.stack=env0::out/\X.env.frame=env0.frame
section
variable {X:Cx}{pins:List (Addr×Obj)}{σ:L2.St}{H:Hp}{s:Shared}{M:Model}{E':Value->Shared->Prop}{x T:Addr}{C fl:Value}
theorem Zz{A:Around}{Q:Unit->Shared->Prop}(top:wQ X)(hA:A.frames=X.A.frames)(I:Inv X pins σ H s)(f:Fx X pins H s.heap x C)(h:∀L T s',X.env.frame=some L->Xt X pins σ H x T C (rawInt ↑L) s'->Q () s'):
  wpAny M A (noteFrame (.ref x) X.env) Q E' s:=by
 obtain⟨env0,out,e1,e2⟩:=top;have hF:=I.stack;have ju:A.frames=some (env0::out):=by rw[hA,I.ok.frames,e1]
 rw[e1]at hF;obtain⟨_,⟨L,o,hL,_⟩,_⟩:=id hF;rw[jxh e2];have hL':X.env.frame=some L:=e2.trans hL;rcases f.st with⟨vs,f0,hv⟩|⟨T,fl,fT,pT⟩
 ·refine vvs ju hF hL f0 hv λh' T' c hs i3=>h L T' _ hL' ⟨?_,f.fp,fpX I (Heap.get?_none_of_le hs) (I.hok.fresh hs),i3⟩
  rw[<-e1]at c;exact kq5 I c λb hb=>by rw[List.mem_singleton.mp hb];exact f.fp
 ·refine vvr ju hF hL fT λh' T' c hs i3=>?_
  rw[<-e1]at c;refine h L T' _ hL' ⟨kq5 I c λb hb=>?_,f.fp,?_,i3⟩
  ·simp only[Xu,Xn,or_false]at hb;rcases hb with rfl|rfl
   ·exact f.fp
   ·exact pT
  ·rcases hs with hs|hs
   ·exact fpX I (Heap.get?_none_of_le hs) (I.hok.fresh hs)
   ·rw[hs];exact pT
theorem WK{A:Around}{Q:Unit->Shared->Prop}{fr:Option Addr}(t:Xt X pins σ H x T C fl s)(h:∀s',Xt X pins σ H x T C (fr.elim Value.none λf=>rawInt ↑f) s'->Q () s'):wpAny M A (setFlight (.ref x) fr) Q E' s:=by
 refine vkk (outer:=X.stack) t.f λh' c i3=>h _ ⟨kq5 t.inv c λb hb=>?_,t.fx,t.fT,i3⟩
 simp only[Xu,Xn,or_false]at hb;rcases hb with rfl|rfl
 ·exact t.fx
 ·exact t.fT
theorem vjl{α:Type}{A:Around}{what:String}{fz:Env}{Q:α->Shared->Prop}(t:Xt X pins σ H x T C fl s)(h:∀s' i3,Xt X pins σ H x T C i3 s'->E' (.ref x) s'):wpAny M A (PySem.passOn what (.ref x) fz:Sem α) Q E' s:=by
 unfold PySem.passOn;obtain⟨vs,e1,v1⟩:=t.f.ex;refine X2 (Yk e1 rfl v1 ?_);rw[Xg (show ¬(Value.ref T==Value.none)=true by intro z;cases z)];refine X2 (WK t λs' t'=>?_);exact wpAny_throw (h s' _ t')
theorem vvo{E:XK}(top:wQ X):PassesOwn M X.A X.env (Xo X E):=by
 rintro e s' ⟨pins,σ,H,x,C,rfl,I,f,q⟩;unfold notedBy;refine Zz top rfl I f λL T s1 _ t=>?_
 unfold cameBackBy;obtain⟨vs,e1,v1⟩:=t.f.ex;refine X2 (Yk e1 rfl v1 ?_);rw[Xg (show ¬(Value.ref T==Value.none)=true by intro z;cases z)];exact WK t λs2 t2=>⟨pins,σ,H,x,C,rfl,t2.inv,t2.to,q⟩
end
noncomputable def CXE(P:Program)(w:World):CXT:=λouter H s E e s'=>∃x T C fl H',e=.ref x/\s'.os=s.os/\AllBare s'.gens/\Un (frs outer) [] H H' s.heap s'.heap/\HOk P w H' s'.heap /\
 s.heap.get? x=none/\s.heap.get? T=none/\H' x=none/\H' T=none/\FlT s'.heap x T C fl/\E C none H'
theorem vvn{X:Cx}{E:XK}(g:vY X E):qj6 (CXE X.prog X.w) X E:=by
 rintro pins σ H s e s' I ⟨x,T,C,fl,H',rfl,os,bare,un,hok,hx,hT,nx,nT,f,q⟩;refine g pins σ H' s' x C (I.call' os un hok bare λb hb=>nomatch hb) ⟨fpX I hx nx,.inr ⟨T,fl,f,fpX I hT nT⟩⟩ q
theorem qva{CX:CXT}{P:Program}{w:World}{K:PySem.W.Frag}{mg:Str->Option Value}{base:Heap}{N:List Str}{qual:Str}{scope:Scope}{f:Addr}{cd:Value}{A:Around}{outer:List Env}{s:Shared}{H:Hp}{E:XK}:
  wQ (x9 CX P w K mg base N qual scope f cd A outer s H E):=⟨_,_,rfl,rfl⟩
theorem kxs{P:Program}{w:World}{K:PySem.W.Frag}{mg:Str->Option Value}{base:Heap}{N:List Str}{qual:Str}{scope:Scope}{f:Addr}{cd:Value}{A:Around}{outer:List Env}{s:Shared}{H:Hp}{E:XK}{e:Value}{s':Shared}
  (h:Xo (x9 (CXE P w) P w K mg base N qual scope f cd A outer s H E) E e s'):(x9 (CXE P w) P w K mg base N qual scope f cd A outer s H E).xe e s':=by
 obtain⟨pins,σ,H',x,C,rfl,I,fx,q⟩:=h;show wpAny (model P w) _ (leaving _ (.ref x)) _ _ s';unfold leaving;refine X2 (Zz (X:=x9 (CXE P w) P w K mg base N qual scope f cd A outer s H E) qva rfl I fx λL T s1 _ t=>?_);refine WK t λs2 t2=>?_
 have ge:∀b,FpX (x9 (CXE P w) P w K mg base N qual scope f cd A outer s H E) pins H' b->s.heap.get? b=none:=λb hb=>hb.2.2.2.1.elim (λz=>nomatch z) λz=>z
 exact⟨x,T,C,_,H',rfl,t2.inv.os,t2.inv.bare,t2.inv.base,t2.inv.hok,ge x t2.fx,ge T t2.fT,t2.fx.1,t2.fT.1,t2.f,q⟩
section
variable {P:Program}{w:World}{K:PySem.W.Frag}{mg:Str->Option Value}{base:Heap}
theorem vw{x qual:Str}{st:Stmt}{f:Addr}{fd:FuncData}{N ps:List Str}{k:Nat}{sp:Sp}(F:Fun K x qual st f fd)(S:FnScope N ps (kW st))(len:∀vs H Q E,sp vs H Q E->vs.length=ps.length)
  (gb:∀(br:Value) (A:Around) (outer:List Env) (s:Shared) (H:Hp) (vs:List V) (Q:VK) (E:XK),Room k (A.deeper (envOfC qual (kW st) s.heap.objs.size f br))->sp vs H Q E ->
   ∃t,PSs (Cx.ex' (x9 (CXE P w) P w K mg base N qual (kW st) f br A outer s H E) E) (xZ st) t/\t { nx:=λ_ H'=>Q .non H',rt:=Q } (L2.start N vs) H):FnOk P w K mg base (CXE P w) (k+1) f fd ps sp:=by
 obtain⟨oc,od,kV,dv,pm,an,br,ct,gq,rfl,lk,dq⟩:=F.ex;refine vw1 lk dq S len λA outer s H vs Q E hr dr=>?_
 obtain⟨t,h,q⟩:=gb br A outer s H vs Q E hr dr;exact⟨t,λpins s' σ H' D I hw=>wpAny_mono (h pins s' σ H' D (I.wish _) hw) (λf iu z=>z.unwish) λe iu z=>kxs z,q⟩
noncomputable def qw(P:Program)(w:World)(K:PySem.W.Frag)(mg:Str->Option Value)(base:Heap)(k:Nat)(x:Str)(ps:List Str)(sp:Sp):Prop:=
 ∃(f:Addr) (fd:FuncData),FnOk P w K mg base (CXE P w) k f fd ps sp/\Binds K fd ps []/\PySem.W.keepIn K (.ref f)=true/\mg x=some (.ref f)
end
section
variable {X:Cx}{x:Str}{p pos:Pos}{e:Expr}{es:List Expr}{t:TA}{ps:List Str}{sp:Sp}{k:Nat}{v:V}{E:XK}
theorem vji(D:qw X.prog X.w X.K X.mg X.base k x ps sp)(hr:Room k X.A)(g:vY X E)(ha:PA X (e::es) t)(hg:autoParam (Gl X x) Ŕ)(cy:autoParam ((x==("__debug__":Str))=false) ŕ)
  (he:autoParam (starEach (e::es) X.env=(false,eval e X.env)::starEach es X.env) Ŕ) (bz:autoParam ((backTo pos (starEach es X.env)).any (·.1)=false) Ŕ):
  PE X (.Call (.Name x p) (e::es) [] pos) (qvc sp [] E t):=by
 obtain⟨f,fd,F,b,kp,m⟩:=D;exact qw5 F hr hg m kp b .nil (vvn g) ha cy he bz
end
abbrev lcE(X:Cx)(scope:Scope)(N:List Str)(cl:List (Str×Addr))(C:Addr)(s0:Shared)(H0:Hp)(fp:List Addr)(EX:XK):Cx:=Cx.ex' (lcX X scope N cl C s0 H0 fp) EX
section
variable {prog:Program}{w:World}{A:Around}{R:Result->Shared->Prop}{s:Shared}
theorem qws{d8 cw az:Expr}{cz:List Expr}{scope:Scope}{pos:Pos}{it ay:Value}{env:Env}(Ex:Value->Shared->Prop)(I:Nat->Shared->Prop)
  (dn:∀n s,I n s->wpAny (model prog w) A (pyNext it) (λr s1=>match r with
   | none=>R (.ok .next) s1
   | some v=>wpAny (model prog w) A (letOwnedTupleGo cw it v) (λ_ s2=>wpAny (model prog w) A (assign cw env v) (λ_ s3=>
     wpAny (model prog w) A (kxu cz env) (λok s4=>
      if ok=true then
       wpAny (model prog w) A (eval d8 env) (λx s5=>wpAny (model prog w) A (call (.builtin "list.append") [ay,x]) (λ_ s6=>∃m,m<n/\I m s6) Ex s5) Ex s4
      else ∃m,m<n/\I m s4) Ex s3) Ex s2) Ex s1) Ex s)
  (hx:∀e s,Ex e s->notedBy (model prog w) A env (λe s'=>R (.error e) s') e s) (n:Nat) (h:I n s):codeAny (model prog w) A (.compLoop (.ListComp d8 [⟨cw,az,cz,0⟩] scope pos) 0 it ay env) R s:=by
 refine codeAny_loop rfl I (λn s hI=>?_) n h;show wpAny _ A ((compTurn (.ListComp d8 [⟨cw,az,cz,0⟩] scope pos) 0 it ay env).onRaise _) _ _ s;refine wpAny_noted ?_;rw[compTurn_list];refine wpAny_mono (E:=Ex) (X2 (wpAny_standAt (X2 (thn (dn n s hI) λr s1 h1=>?_)))) (λ_ _ q=>q) (λe s q=>?_)
 rotate_left
 ·exact hx e s q
 cases r with
 |none=>exact Xf h1
 |some v=>
  refine X2 (thn h1 λ_ s2 h2=>?_);refine X2 (thn h2 λ_ s3 h3=>?_);refine X2 (thn h3 λok s4 h4=>?_);cases ok with
  |false=>exact Xf ⟨rfl,h4⟩
  |true=>exact X2 (X2 (thn h4 λx s5 h5=>X2 (thn h5 λ_ s6 h6=>Xf (Xf ⟨rfl,h6⟩))))
end
section
variable {X:Cx}{tg az d8:Expr}{cz:List Expr}{scope:Scope}{N:List Str}{k:Nat}{R:List Nat}{g:TG}{tt:TT}{te:TE}{pos:Pos}
theorem qqk{EX:XK}{pins cb:List (Addr×Obj)}{σ σ':L2.St}{H2 H':Hp}{s2 s':Shared}{fp:List Addr}{cl:List (Str×Addr)}{C x T:Addr}{Cc fl:Value}{Q:Value->Shared->Prop}{ay:Value}{use:Option (Value->Sem Unit)}(gx:vY X EX)
  (I2:Inv X pins σ H2 s2) (f2:∀b∈fp,qQ X pins H2 b) (hC:s2.heap.objs.size<=C) (t:Xt (lcX X scope N cl C s2 H2 fp) cb σ' H' x T Cc fl s') (q:EX Cc none H'):
  compPost (model X.prog X.w) X.A X.xe use Q ay C (.error (.ref x)) s':=by
 obtain⟨m,hn,_⟩:=t.inv.loc;refine⟨m,hn,λh' sb fz _=>?_⟩;have J1:Inv X pins σ H' s':=I2.call' t.inv.os t.inv.base t.inv.hok t.inv.bare λb hb=>⟨(f2 b hb).2.2.2.1,(f2 b hb).2.1,(f2 b hb).2.2.2.2.1,(f2 b hb).2.2.2.2.2⟩
 have fC:qQ X pins H' C:=I2.fpOk hC t.inv.free;have J2:Inv X pins σ H' { s' with heap:=h',toks:=s'.toks }:=J1.turned (it:=C) (λb o hb e=>(sb.2 b hb).trans e) fC.1 fC.2.1 fC.2.2.2.1 fC.2.2.2.2.1 fC.2.2.2.2.2;have fp':∀b,FpX (lcX X scope N cl C s2 H2 fp) cb H' b->FpX X pins H' b:=λb hb=>by
  rcases hb.2.2.2.1 with z|z
  ·exact⟨hb.1,(FpX.of (f2 b z)).2⟩
  ·exact fpX I2 z hb.1
 have nx:x≠C:=t.fx.2.1;have nT:T≠C:=t.fT.2.1;have f:FlT h' x T Cc fl:=by
  obtain⟨⟨vs,e1,v1⟩,⟨oT,ts,e2,d2,v2⟩,db⟩:=t.f;exact⟨⟨vs,(sb.2 x nx).trans e1,v1⟩,⟨oT,ts,(sb.2 T nT).trans e2,d2,v2⟩,db⟩
 refine vjl (X:=X) (pins:=pins) (σ:=σ) (H:=H') (s:={ s' with heap:=h' }) ⟨J2,fp' x t.fx,fp' T t.fT,f⟩ λs3 i3 t3=>gx pins σ H' s3 x Cc t3.inv t3.to q
theorem kk1{EX:XK}{pins:List (Addr×Obj)}{σ:L2.St}{H2:Hp}{s2:Shared}{it:Addr}{fp:List Addr}{tn:Nat->Heap->Prop}{J:It}{Q:VK}{W:Nat->Nat->List V->L2.St->Hp->Prop}{cl:List (Str×Addr)}{E:Value->Shared->Prop}
  {RR:Value->Addr->Result->Shared->Prop} (hc:X.calm=true) (top:wQ X) (sc:LcOk X scope N k R)
  (ei:∀x c,cl.lookup x=some c->X.env.cells.lookup x=some c) (bn:∀y∈scope.names,y.2=.free->∃c,cl.lookup y.1=some c)
  (hg:∀C s0 H0 fp,PG (lcE X scope N cl C s0 H0 fp EX) tg g) (ht:∀C s0 H0 fp,PTs (lcE X scope N cl C s0 H0 fp EX) cz tt) (he:∀C s0 H0 fp,PE (lcE X scope N cl C s0 H0 fp EX) d8 te)
  (I2:Inv X pins σ H2 s2) (T:Turn X.prog X.w X.K tg J fp it tn) (cj:tn 0 s2.heap) (f2:∀b∈fp,qQ X pins H2 b) (w0:∃m,W 0 m [] (x8 k R σ) H2) (dn:LcW g tt te Q J W)
  (hRR:∀D C oC m ys H' s',Inv X (pins++[(C,oC)]) σ (upd H' D (.lst ys)) s'->s'.heap.get? C=some oC->s'.heap.Ns C m->qQ X pins (upd H' D (.lst ys)) C->Q (.ref D) (upd H' D (.lst ys))->RR (.ref D) C (.ok .next) s')
  (hER:∀D C s' cb σ' H' x T Cc fl,s2.heap.objs.size<=C->Xt (lcX X scope N cl C s2 H2 fp) cb σ' H' x T Cc fl s'->EX Cc none H'->RR (.ref D) C (.error (.ref x)) s'):
  wpAny (model X.prog X.w) X.A (newList []) (λay s3=>wpAny (model X.prog X.w) X.A (newFunctionEnv scope X.env.globals cl [] X.env.qual none .none (some X.env)) (λfz s4=>
   codeAny (model X.prog X.w) X.A (.compStart (.ListComp d8 [⟨tg,az,cz,0⟩] scope pos) 0 (.ref it) ay { fz with scope:=relabel scope X.env }) (RR ay fz.locals) s4) E s3) E s2:=by
 have lu:∀b∈fp,∃o,s2.heap.get? b=some o:=λb hb=>let ⟨o,e,_⟩:=T.obj 0 _ cj b hb;⟨o,e⟩
 refine Y0 (wpAny_newFunctionEnv sc.nocell (by intro y hy;simp at hy) (λh1 hn1 je=>?_) sc.kind);dsimp only at hn1 je ⊢;generalize eH:s2.heap.push { cls:=.type "list",dict:=none,data:=.seq ([]:List Value).toArray }=Hx at hn1 je ⊢;have eC:Hx.objs.size=s2.heap.objs.size+1:=by rw[<-eH,Heap.size_push]
 generalize eD:s2.heap.objs.size=D at eC;generalize eC':Hx.objs.size=C at hn1 je eC ⊢;have jb:D≠C:=by omega
 have hC:s2.heap.objs.size<=C:=by omega
 have hD:s2.heap.objs.size<=D:=by omega
 have i8:∀b o,s2.heap.get? b=some o->h1.get? b=some o:=λb o e=>by
  exact je.extBut b o (Xr (Xa (Xe e) hC)) (X6 _ (eH▸X6 _ e))
 have accD:h1.get? D=some (Q3 [] 0):=by
  refine je.extBut _ _ jb (X6 _ ?_);rw [<-eH,<-eD];exact Xk _ rfl
 have gl:∀b∈fp,b≠D/\b≠C:=λb hb=>by
  obtain⟨o,e⟩:=lu b hb;exact⟨Xr (Xa (Xe e) hD),Xr (Xa (Xe e) hC)⟩
 have ek:∀{H':Hp} {oD:Obj},(∀b∈fp,H' b=none)->∀b∈fp,qQ (lcE X scope N cl C s2 H2 fp EX) [(D,oD)] H' b:=fun {H' oD} hn b hb=>by
  obtain⟨_,f1,f3,f4,f5,f6⟩:=f2 b hb;refine⟨hn b hb,(gl b hb).2,λz=>?_,.inl hb,λx c h=>f5 x c (ei x c h),λp hp=>?_⟩
  ·rcases List.mem_cons.mp (I2.stkSub b z)with y|y
   ·exact f1 y
   ·exact f3 y
  ·have e:p=(D,oD):=by
    have hp:p∈([]++[(D,oD)]:List (Addr×Obj)):=hp
    simpa using hp
   rw [e];exact(gl b hb).1.symm
 have lf:∀s3:Shared,s3={ s2 with heap:=h1,toks:=s2.toks+([]:List (Str×Value)).length } ->
   codeAny (model X.prog X.w) X.A (.compLoop (.ListComp d8 [⟨tg,az,cz,0⟩] scope pos) 0 (.ref it) (.ref D) (compEnvC scope cl C X.env)) (RR (.ref D) C) s3:=by
  rintro s3 rfl;obtain⟨m0,w0⟩:=w0;have hxx:∀e s,Xo (lcX X scope N cl C s2 H2 fp) EX e s->notedBy (model X.prog X.w) X.A (compEnvC scope cl C X.env) (λe s'=>RR (.ref D) C (.error e) s') e s:=by
   rintro e s ⟨cb,σ',H',x,Cc,rfl,I',f',q'⟩;have top':wQ (lcX X scope N cl C s2 H2 fp):=top;exact Zz (X:=lcX X scope N cl C s2 H2 fp) top' rfl I' f' λL T s1 _ t=>hER D C s1 cb σ' H' x T Cc _ hC t q'
  refine qws (Xo (lcX X scope N cl C s2 H2 fp) EX) (λn s'=>∃i ys ai nn σ' H',Inv (lcE X scope N cl C s2 H2 fp EX) [(D,Q3 ai nn)] σ' H' s'/\Vals ys ai/\tn i s'.heap/\(∀b∈fp,H' b=none)/\W i n ys σ' H') ?_ hxx m0
   ⟨0,[],[],0,_,H2,(qwq I2 sc f2 lu hC hD jb ei bn i8 hn1 accD (λv z=>by cases z)).wish _,.nil,T.keep _ _ _ cj (λb hb o e=>i8 b o e),λb hb=>(f2 b hb).1,w0⟩
  rintro n s3 ⟨i,ys,ai,nn,σ3,H3,I3,rv,cm,ig,w3⟩;rcases dn i n ys σ3 H3 w3 with⟨stop,hz,qn⟩|⟨go,step⟩
  ·refine thn (T.done (lcE X scope N cl C s2 H2 fp EX) rfl rfl rfl hc i _ s3 σ3 H3 _ I3 (ek ig) cm stop) λr s4 ⟨hr,I4⟩=>?_
   subst hr;show RR (.ref D) C (.ok .next) s4;have hD4:=I4.pin (D,Q3 ai nn) (by show _∈([]++[(D,Q3 ai nn)]:List (Addr×Obj));simp);have J1:Inv X pins σ H3 s4:=I2.call' I4.os I4.base I4.hok I4.bare λb hb=>⟨(f2 b hb).2.2.2.1,(f2 b hb).2.1,(f2 b hb).2.2.2.2.1,(f2 b hb).2.2.2.2.2⟩
   have fD:qQ X pins H3 D:=I2.fpOk hD hD4.2.1;have fC:qQ X pins H3 C:=I2.fpOk hC I4.free;have J2:Inv X pins σ (upd H3 D (.lst ys)) s4:=kk3 J1 hD4.2.1 fD.2.1 fD.2.2.2.1 fD.2.2.2.2.1 fD.2.2.2.2.2 ⟨hz,ai,nn,rv,hD4.1⟩;obtain⟨mC,nC,_⟩:=I4.loc;obtain⟨oC,es,ep,hoC,hdC,hrest⟩:=id nC;have fC':qQ X pins (upd H3 D (.lst ys)) C:=⟨by rw[kj jb.symm];exact fC.1,fC.2⟩;refine hRR D C oC mC ys H3 s4 (J2.pins_of λp hp=>?_) hoC nC fC' (qn D hD4.2.1);rcases List.mem_append.mp hp with z|z
   ·exact J2.pin p (lr9 _ z)
   ·rw[List.mem_singleton.mp z];exact⟨hoC,fC'.1,fC'.2.1,fC'.2.2.1,λv y=>by rw[hdC]at y;cases y⟩
  ·refine thn (T.item (lcE X scope N cl C s2 H2 fp EX) rfl rfl rfl hc i _ s3 σ3 H3 _ I3 (ek ig) cm go) λr s4 ⟨u,hr,h4⟩=>?_
   subst hr;refine thn h4 λ_ s5 ⟨x,H5,I5,r5,y5,gu,fr5⟩=>?_
   have I5':=I5.pinned (ek fr5) (T.obj _ _ gu);have f8:∀{σ':L2.St} {H':Hp} {s':Shared} {pl:List (Addr×Obj)},Inv (lcE X scope N cl C s2 H2 fp EX) (pl++zK fp s5.heap) σ' H' s'->tn (i+1) s'.heap/\∀b∈fp,H' b=none:=fun {σ' H' s' pl} I'=>by
    have q:∀b∈fp,∀o,s5.heap.get? b=some o->s'.heap.get? b=some o/\H' b=none:=λb hb o e=>by
     obtain⟨a1,a2,_⟩:=I'.pin (b,o) (lr9 _ (lr9 _ (jwj hb e)));exact⟨a1,a2⟩
    refine⟨T.keep _ _ _ gu λb hb o e=>(q b hb o e).1,λb hb=>?_⟩;obtain⟨o,e,_⟩:=T.obj _ _ gu b hb;exact(q b hb o e).2
   refine thn (hg C s2 H2 fp _ s5 σ3 H5 x u _ I5' r5 (step x H5 y5)) λ_ s6 ⟨σ6,H6,I6,Ny,Nn,hNy,hNn,q6⟩=>?_
   refine thn (ht C s2 H2 fp _ s6 σ6 H6 _ I6 q6) λok s7 ⟨H7,I7,q7⟩=>?_
   cases ok with
   | false=>
    obtain⟨m',hm,w7⟩:=hNn _ q7;exact⟨m',hm,i+1,ys,ai,nn,σ6,H7,I7.unpinned,rv,(f8 I7).1,(f8 I7).2,w7⟩
   | true=>
    refine thn (he C s2 H2 fp _ s7 σ6 H7 _ I7 q7) λu8 s8 ⟨y,H8,I8,r8,q8⟩=>?_
    obtain⟨hz,m',hm,w8⟩:=hNy _ _ q8;have pD:=I8.pin (D,Q3 ai nn) (lr9 _ (ll9 _ (List.mem_singleton.mpr rfl)));have b6:=rv.length;refine append_at (hsz:=by rw[X4];omega) pD.1 λh9 sb9 e9=>?_
    have I8a:Inv (lcE X scope N cl C s2 H2 fp EX) ([]++zK fp s5.heap) σ6 H8 s8:=I8.pins_of λp hp=>I8.pin p (lr9 _ (lr9 _ hp))
    have I9:Inv (lcE X scope N cl C s2 H2 fp EX) ([]++zK fp s5.heap) σ6 H8 { s8 with heap:=h9,toks:=s8.toks }:=I8a.turned (it:=D) (λb o hb e=>(sb9.2 b hb).trans e) pD.2.1 jb (.inr hD)
     (λx c h z=>by
      obtain⟨v,q⟩:=I2.cell x c (ei x c h);exact absurd (Xa q.lt (by rw[z];exact hD)) (Xz _))
     (λp hp z=>by
      have hp:p∈([]++([]++zK fp s5.heap):List (Addr×Obj)):=hp;have hp:p∈zK fp s5.heap:=by simpa using hp
      exact(gl p.1 (kjv hp).1).1 z)
    have e9':h9.get? D=some (Q3 (ai++[u8]) (nn+1)):=by rw[e9];simp[List.push_toArray]
    refine⟨m',hm,i+1,ys++[y],ai++[u8],nn+1,σ6,H8,I9.pins_of λp hp=>?_,rv.append (.cons r8 .nil),(f8 I9).1,(f8 I9).2,w8⟩;rw[List.mem_singleton.mp hp];exact⟨e9',pD.2.1,pD.2.2.1,pD.2.2.2.1,λv z=>by cases z⟩
 exact codeAny_compStart_list (lf _ rfl) (T.self _ 0 _ _ _ (T.keep _ _ _ cj λb hb o e=>i8 b o e) (lf _ rfl))
theorem vjg{EX:XK}{wi:TI}(N:List Str)(k:Nat)(R:List Nat)(hi:PI X tg az wi)
  (hg:∀cl C s0 H0 fp,PG (lcE X scope N cl C s0 H0 fp EX) tg g) (ht:∀cl C s0 H0 fp,PTs (lcE X scope N cl C s0 H0 fp EX) cz tt) (he:∀cl C s0 H0 fp,PE (lcE X scope N cl C s0 H0 fp EX) d8 te)
  (gx:vY X EX) (top:wQ X) (hc:autoParam (X.calm=true) Ŕ) (hk:autoParam (scope.kind=.function) Ŕ) (gh:autoParam (JJ X.N X.env.scope scope N k R=true) Ŕ) (hs:autoParam (∀x,foldedSetIterable az X.env x=pure x) Ŗ):
  PE X (.ListComp d8 [⟨tg,az,cz,0⟩] scope pos) (tLC wi g tt te k R):=by
 intro pins s σ H Q I h;have sc:=kv9 hk gh;obtain⟨cl,fq,ei,bn⟩:=jzg (scope:=scope) (env:=X.env) λy hy e=>I.ok.has y.1 (sc.caps y hy e)
 rw[eval_ListComp];refine wpAny_comprehension_free (use:=none) rfl hs fq sc.kind sc.names (thn (hi pins s σ H _ I h) λv s1 h1=>thn h1 λitv s2 h2=>?_);obtain⟨it,fp,tn,J,H2,e,I2,T,cj,f2,W,w0,dn⟩:=h2;subst e;refine kk1 (EX:=EX) (RR:=λay C=>compPost (model X.prog X.w) X.A X.xe none (EP X pins σ Q) ay C) hc top sc ei bn (hg cl) (ht cl) (he cl) I2 T cj f2 w0 dn ?_ ?_
 rotate_left
 ·intro D C s' cb σ' H' x T Cc fl hC t q;exact qqk gx I2 f2 hC t q
 intro D C oC m ys H' s' I' _ nC fC q;exact⟨m,nC,λh' sb=>⟨.ref D,_,I'.unpinned.turned (it:=C) (t':=s'.toks) (λb o hb e=>(sb.2 b hb).trans e) fC.1 fC.2.1 fC.2.2.2.1 fC.2.2.2.2.1 fC.2.2.2.2.2,rfl,q⟩⟩
end
abbrev bmV:List Value:=[.type "ValueError",.type "Exception",.type "BaseException",.type "object"]
structure ECls (K:PySem.W.Frag)(mg:Str->Option Value)(x:Str)(C:Addr):Prop where
 bd:mg x=some (.ref C)
 ec:PySem.W.excIn K C bmV "ValueError.__new__"=true
 xc:XCls K C
theorem qw8{K:PySem.W.Frag}{h:Heap}{C:Addr}{bmB:List Value}{i6:String}(KI:K.In h)(e:PySem.W.excIn K C bmB i6=true):
  ∃ bm N nm q bs hdct sn sub ab col dd k0 k1 k2 k3 k5 mN,h.get? C=some (excClassObj nm q C N bs bm hdct sn sub ab col dd k0 k1 k2 k3 k5 i6)/\h.Ns N mN/\mN "__init__"=none/\OwnTail h bmB bm:=by
 unfold PySem.W.excIn at e
 split at e
 ·rename_i dict cd sl hl
  split at e
  ·rename_i bm C' k0 k1 k2 k3 n k5 hm hs;simp only[Bool.and_eq_true,beq_iff_eq,Bool.not_eq_true']at e;obtain⟨⟨⟨⟨⟨e1,e2⟩,e3⟩,e4⟩,e5⟩,e6⟩:=e;subst e1 e2;have g:=KI _ _ hl;obtain⟨nm,bs,mro,ns,qn,hd,hdel,sn,sub,ab,col⟩:=cd;dsimp only at hm e3 e5 e6;subst hm e3;have i7:sl=#[k0,k1,k2,k3,some (Value.builtin n),k5]:=by
    apply Array.toList_inj.mp;rw[hs]
   subst i7;exact⟨_,ns,nm,qn,bs,hd,hdel,sn,sub,ab,dict,k0,k1,k2,k3,k5,h.nsMap ns,g,Heap.Ns.of_isNs (PySem.W.isNs_of_in KI e5),PySem.W.nsMap_none_of_in KI e5 e6,PySem.W.tail_of_in KI e4⟩
  ·cases e
 ·cases e
section
variable {X:Cx}{x:Str}{np av pos:Pos}{e:Expr}{es:List Expr}{ta:TA}{C:Addr}{E:XK}
abbrev qxt(E:XK)(C:Addr)(ta:TA):TS:=λ_ σ H=>ta σ H λvs H1=>vs.length<=sizeLine/\E (.ref C) none H1
theorem qjv(c:ECls X.K X.mg x C)(g:vY X E)(ha:PA X (e::es) ta)(hg:autoParam (Gl X x) Ŕ)(hc:autoParam (X.calm=true) Ŕ)(cy:autoParam ((x==("__debug__":Str))=false) ŕ)
  (he:autoParam (starEach (e::es) X.env=(false,eval e X.env)::starEach es X.env) Ŕ) (bz:autoParam (((backTo av (starEach (e::es) X.env)).any (·.1))=false) Ŕ):
  PS X (.Raise (some (.Call (.Name x np) (e::es) [] av)) none pos) (qxt E C ta):=by
 intro pins s σ H D I h;obtain⟨bm,N,nm,q,bs,hdct,sn,sub,ab,col,dd,k0,k1,k2,k3,k5,mN,o1,o2,o3,o4⟩:=qw8 I.ok.mod.kin c.ec;refine wpAny_Raise_call_subT (nm:=nm) (q:=q) (C:=C) (N:=N) (bs:=bs) (bm:=bm) (hdct:=hdct) (sn:=sn) (sub:=sub) (ab:=ab) (col:=col) (dd:=dd) (k0:=k0) (k1:=k1) (k2:=k2) (k3:=k3) (k5:=k5) (bmB:=bmV) F.excBase_ValueError (o4.hasType (X:="BaseException") rfl) (I.ok.hd hc) bz o3 (V5 I hg c.bd ⟨rfl,?_⟩ cy);obtain⟨y0,r0,fv⟩:∃y r,backTo av (starEach (e::es) X.env)=(false,y)::r:=by rw[he];exact⟨_,_,rfl⟩
 have dr:=ha av pins s σ H _ I h;rw[fv]at dr ⊢;refine Calls.evalArgs_plain (thn dr λus s2 ⟨vs,H1,I1,r1,q1⟩=>⟨rfl,by rw[<-r1.length];exact q1.1,I1.bk _ _ o1,?_,?_,λh' ea gv=>?_⟩)
 ·obtain⟨o,ic,ep,ho,r⟩:=o2;exact⟨o,ic,ep,I1.bk _ _ ho,r⟩
 ·exact o4.keeps λb o e=>I1.bk b o e
 ·obtain⟨t,m1,m2,m3⟩:=gv.there;have J:Inv X pins σ H1 { s2 with heap:=h',toks:=s2.toks }:=I1.kept gv.keeps;exact g pins σ H1 _ ea (.ref C) J ⟨fpX I1 gv.new (qkf I1.hok gv.new),.inl ⟨_,⟨m1,by show(1:Nat)<6;decide⟩,rfl⟩⟩ q1.2
noncomputable def XX(X:Cx)(pins:List (Addr×Obj))(σ:L2.St)(E:XK)(e:Value)(s:Shared):Prop:=∃H x C,e=.ref x/\Inv X pins σ H s/\Fx X pins H s.heap x C/\E C none H
noncomputable def PSX(X:Cx)(st:Stmt)(t:XK->TS):Prop:=∀(E:XK) (pins:List (Addr×Obj)) (s:Shared) (σ:L2.St) (H:Hp) (D:Ends),Inv X pins σ H s->t E D σ H->wpAny (model X.prog X.w) X.A (exec st X.env) (SP X pins D) (XX X pins σ E) s
noncomputable def PEX(X:Cx)(ex:Expr)(t:XK->TE):Prop:=∀(E:XK) (pins:List (Addr×Obj)) (s:Shared) (σ:L2.St) (H:Hp) (Q:VK),Inv X pins σ H s->t E σ H Q->wpAny (model X.prog X.w) X.A (eval ex X.env) (EP X pins σ Q) (XX X pins σ E) s
theorem qjx{k:Nat}{ps:List Str}{sp:Sp}(D:qw X.prog X.w X.K X.mg X.base k x ps sp)(hr:Room k X.A)(ha:PA X.nox (e::es) ta)(hg:autoParam (Gl X x) Ŕ)(cy:autoParam ((x==("__debug__":Str))=false) ŕ)
  (he:autoParam (starEach (e::es) X.env=(false,eval e X.env)::starEach es X.env) Ŕ) (bz:autoParam ((backTo pos (starEach es X.env)).any (·.1)=false) Ŕ):
  PEX X (.Call (.Name x np) (e::es) [] pos) (λE=>qvc sp [] E ta):=by
 obtain⟨f,fd,F,hb,kp,m⟩:=D;intro E pins s σ H Q I h;refine wpAny_Call_Name_kw (V5 I hg m ?_ cy);refine PySem.W.callWith_K (h₀:=X.base) I.ok.mod.kin kp (wpAny_mono (ha pos pins s σ H _ (I.wish _) h) (λus s1 ⟨vs,H1,I1,r,q⟩=>⟨I1.kIn,?_⟩) λ_ _ z=>z.elim) he bz;have I1:=I1.unwish;have q:sp (vs++[]) H1 Q E:=q;have hl:us.length=ps.length:=by
  rw[<-r.length];have:=F.len _ _ _ _ q
  rwa [Xs]at this
 refine wpAny_call (codeAny_mono (F.run X.A X.stack s1 H1 ⟨us,[]⟩ us vs Q E hr I1.env0 (by have:=hb s1 us I1.kIn (by rw[Xs];exact hl);rwa [Xs]at this) r (by rwa [Xs]at q)) λrr s' hq=>?_);cases rr with
 |error e=>
  obtain⟨x,T,C,fl,H',rfl,os,bare,un,hok,hx,hT,nx,nT,f,q⟩:=hq;exact⟨H',x,C,rfl,I1.call' os un hok bare (λb hb=>nomatch hb),⟨fpX I1 hx nx,.inr ⟨T,fl,f,fpX I1 hT nT⟩⟩,q⟩
 |ok fl=>
  cases fl with
  |ret u=>exact I1.after hq
  |next=>exact False.elim hq
  |brk=>exact False.elim hq
  |cont=>exact False.elim hq
theorem qjt{ex:Expr}{t:XK->TE}(h:PEX X ex t)(hs:autoParam (swapsWith ex none pos.line X.env=pure false) Ŕ):PSX X (.Expr ex pos) (λE=>qxv (t E)):=by
 intro E pins s σ H D I hw;exact wpAny_Expr_any (thn (h E pins s σ H _ I hw) λv s1 ⟨x,H1,I1,r1,q1⟩=>⟨σ,H1,I1,q1⟩) I.quiet hs
end
section
variable {X:Cx}{pins:List (Addr×Obj)}{σ:L2.St}{H:Hp}{s:Shared}{x:Addr}{ox:Obj}
theorem kz4{σ':L2.St}{h':Heap}{t':Nat}{m':Str->Option Value}(I:Inv X pins σ H s)(hs:Heap.SameBut X.env.locals s.heap h')(ka:h'.Ns X.env.locals m')(hl:σ'.length=X.N.length)
  (hv:∀(j:Nat) (y:Str) (v:V),X.N[j]?=some y->σ'[j]?=some (some v)->Vis X.env.scope y->∃u,RelV v u/\vxk X.env h' m' y u):Inv X pins σ' H { s with heap:=h',toks:=t' }:=by
 have nL:∀b o,X.s₀.heap.get? b=some o->b≠X.env.locals:=λb o e=>Xr (Xa (Xe e) I.ok.above)
 refine⟨I.ok,I.os,I.bare,⟨λb o e n hb hx=>?_,λb o e n hb hx=>?_,I.base.free,λb o e hx=>?_,I.base.tups,I.base.frzs,I.base.tbls⟩,⟨m',ka,hv⟩,λy c e=>?_,I.free,I.freeC,λp hp=>?_,λb ob e=>?_,hl⟩
 ·exact(hs.2 b (nL b o e)).trans (I.base.keep b o e n hb hx)
 ·obtain⟨sl,e1⟩:=I.base.slot b o e n hb hx;exact⟨sl,(hs.2 b (nL b o e)).trans e1⟩
 ·obtain⟨o',e1⟩:=I.base.there b o e hx;exact⟨o',(hs.2 b (nL b o e)).trans e1⟩
 ·obtain⟨w',z⟩:=I.cell y c e;exact⟨w',z.sameBut hs (I.cne y c e)⟩
 ·obtain⟨e,n,ne,nf,d⟩:=I.pin p hp;exact⟨(hs.2 p.1 ne).trans e,n,ne,nf,d⟩
 ·refine(I.hok b ob e).stay (λc w' hc q=>(hs.2 c ?_).trans q) (λ_ q=>q) λ_ _ q=>q
  rintro rfl;rcases hc with rfl|hc
  ·rw[I.free]at e;cases e
  ·rw[I.free]at hc;cases hc
theorem jw2{M:Model}{A:Around}{E:Value->Shared->Prop}{n:Str}{i:Nat}{pos:Pos}{Q:Unit->Shared->Prop}(I:Inv X pins σ H s)(hN:X.N.Nodup)(hi:X.N[i]?=some n)(hk:X.env.scope.names.lookup n=some .local)
  (h:∀s',Inv X pins (σ.set i none) H s'->Q () s'):wpAny M A (do bindName X.env n Value.none;unbindBehindTheSuite X.env n pos) Q E s:=by
 refine X2 (wpAny_bindName (WY I hN hi (.inl hk) (v:=.non) (u:=.none) rfl (λs1 I1=>?_) (.inr hk)));have lm:i < σ.length:=by rw[I.len];exact(List.getElem?_eq_some_iff.mp hi).1
 obtain⟨m,hn,hl⟩:=id I1.loc;obtain⟨u,ru,lk⟩:=hl i n .non hi (Ya lm) (.inl hk);have hm:m n=some u:=by
  rcases lk with⟨_,z⟩|⟨z,_⟩
  ·exact z
  ·rcases z with z|z
   ·have z:X.env.scope.names.lookup n=some .cell:=z;rw[hk]at z;cases z
   ·have z:X.env.scope.names.lookup n=some .free:=z;rw[hk]at z;cases z
 have ip:(X.env.scope.kind == .class||(X.env.scope.kind == .module&&X.env.locals != X.env.globals))=false:=by rw[I.ok.kind];rfl
 unfold unbindBehindTheSuite;refine wpAny_onRaise (wpAny_unbindName_local hk hn hm ip λh' u' ka sb=>h _ ?_);refine kz4 (t':=s1.toks) I1 sb ka (by rw[List.length_set];exact I.len) λj y v e1 e2 e3=>?_
 by_cases hj:j=i
 ·subst hj;rw[Ya lm]at e2;cases e2
 ·rw[Xy (Ne.symm hj)]at e2;obtain⟨u2,r2,l2⟩:=hl j y v e1 (by rw[Xy (Ne.symm hj)];exact e2) e3;refine⟨u2,r2,?_⟩;rcases l2 with⟨k,e⟩|⟨k,c,e,z⟩
  ·refine .inl ⟨k,?_⟩;have:y≠n:=λe=>hj (jzx hN e1 (e▸hi))
   simp[this,e]
  ·exact .inr ⟨k,c,e,z.sameBut sb (I.cne y c e)⟩
end
structure ExAt (K:PySem.W.Frag)(x:Addr)(ox:Obj)(C:Addr):Prop where
 cls:ox.cls=.ref C
 no:PySem.W.notCls ox=true
 di:ox.dict=none
 xc:XCls K C
theorem zw{X:Cx}{x:Str}{pos:Pos}{C:Addr}(h:X.mg x=some (.ref C))(hg:autoParam (Gl X x) Ŕ)(hd:autoParam ((x==("__debug__":Str))=false) ŕ):PE X (.Name x pos) (tC (.ref C)):=kxb hg h (v:=.ref C) rfl hd
section
variable {P:Program}{w:World}{A:Around}{E:Value->Shared->Prop}{s:Shared}{Q:Value->Shared->Prop}
theorem kwh{x:Str}(h:x.length=0):x.cps.toList=[]:=by
 rw[xY]at h;exact List.length_eq_zero_iff.mp h
theorem vwe{x y:Str}{t u:Tok}(hz:x.length+y.length<=sizeLine)(h:∀t' k,s.toks<=k->Q (.str (x++y) t') { s with toks:=k }):wpAny (model P w) A (binaryOp .Add (.str x t) (.str y u)) Q E s:=by
 refine concat_gives (typeIs_str _ _ _) (typeIs_str _ _ _) PySem.noFill_str_add PySem.seq_str_add F.slot_str_add F.entry_str_add (F.args_str_add_2 _ _) (gives_str_add x y t u) ?_
 by_cases h1:(x.length==0)=true
 ·rw[X9 h1];have e:x++y=y:=str_ext (by rw[kzm,kwh (eq_of_beq h1)];rfl);have:=h u s.toks (Xb _);rw[e]at this;exact this
 ·rw[Xg h1]
  by_cases h2:(y.length==0)=true
  ·rw[X9 h2];have e:x++y=x:=str_ext (by rw[kzm,kwh (eq_of_beq h2),Xs]);have:=h t s.toks (Xb _);rw[e]at this;exact this
  ·rw[Xg h2];exact⟨by rw[strLen_append];exact hz,h _ _ (Nat.le_succ _)⟩
end
section
variable {X:Cx}{e a b o:Expr}{es:List Expr}{te ta tb to:TE}{t:TA}{pos:Pos}
noncomputable def PEt(X:Cx)(e:Expr)(t:TE):Prop:=∀(pins:List (Addr×Obj)) (s:Shared) (σ:L2.St) (H:Hp) (Q:VK),Inv X pins σ H s->0<s.toks->t σ H Q->wpAny (model X.prog X.w) X.A (eval e X.env) (λu s'=>EP X pins σ Q u s'/\0<s'.toks) X.xe s
noncomputable def PEl(X:Cx)(e:Expr)(t:TE):Prop:=∀(pins:List (Addr×Obj)) (s:Shared) (σ:L2.St) (H:Hp) (Q:VK),Inv X pins σ H s->0<s.toks->t σ H Q->wpAny (model X.prog X.w) X.A (eval e X.env) (EP X pins σ Q) X.xe s
noncomputable def PAl(X:Cx)(es:List Expr)(t:TA):Prop:=∀(pos:Pos) (pins:List (Addr×Obj)) (s:Shared) (σ:L2.St) (H:Hp) (Q:List V->Hp->Prop),Inv X pins σ H s->0<s.toks->t σ H Q->wpAny (model X.prog X.w) X.A (spliced (backTo pos (starEach es X.env))) (AP X pins σ Q) X.xe s
theorem W9{x j pos}:PEt X (.Constant (.str x) j pos) (tC (.str x)):=λ_ _ _ H _ I _ h=>Calls.Constant_str ⟨⟨.str x,H,I.tok _,⟨_,rfl⟩,h⟩,Nat.succ_pos _⟩
theorem kx9(i:Nat){x:Str}{pos:Pos}(hN:autoParam (X.N[i]?=some x) Ŕ)(hv:autoParam (Vis X.env.scope x) ř)(hd:autoParam ((x==("__debug__":Str))=false) ŕ)
  (dq:autoParam ((x==("__classdict__":Str))=false) ŕ):PEt X (.Name x pos) (zX i):=by
 intro pins s σ H Q I hp h;obtain⟨v,e,h⟩:=h;obtain⟨m,hn,hl⟩:=I.loc;obtain⟨u,r,l⟩:=hl i x v hN e hv;have fin:EP X pins σ Q u s/\0<s.toks:=⟨⟨v,H,I,r,h⟩,hp⟩;rcases l with⟨hk,hm⟩|⟨hk,c,hc,hcell⟩
 ·exact wpAny_Name (wpAny_loadName_local I.ok.kind hk hn hm fin) hd
 ·rcases hk with hk|hk
  ·exact wpAny_Name (wpAny_loadName_cell I.ok.kind hk hc hcell fin) hd
  ·exact wpAny_Name (wpAny_loadName_free I.ok.kind hk hc hcell fin dq) hd
abbrev vqv(ta tb:TE):TE:=fun σ H Q=>ta σ H λx H1=>tb σ H1 λy H2=>∃i j,x=.str i/\y=.str j/\i.length+j.length<=sizeLine/\Q (.str (i++j)) H2
theorem kxa(ha:PEt X a ta)(hb:PEt X b tb):PEt X (.BinOp a .Add b pos) (vqv ta tb):=by
 intro pins s σ H Q I hp h;refine wpAny_BinOp (thn (ha pins s σ H _ I hp h) λv s1 ⟨⟨x,H1,I1,r1,q1⟩,p1⟩=>thn (hb pins s1 σ H1 _ I1 p1 q1) λu s2 ⟨⟨y,H2,I2,r2,q2⟩,p2⟩=>?_);obtain⟨i,j,rfl,rfl,hz,q⟩:=q2;obtain⟨t,rfl⟩:=r1;obtain⟨t',rfl⟩:=r2;exact vwe hz λt'' k hk=>⟨⟨.str (i++j),H2,I2.tok _,⟨_,rfl⟩,q⟩,Xa p2 hk⟩
abbrev qxs(y z:Str)(to:TE):TE:=fun σ H Q=>to σ H λv H1=>∃x,v=.str x/\x.length+(x.length+1)*z.length<=16777216/\Q (.str (Txt.replace x y z)) H1
theorem qjy{y z:Str}{j1 j2}{c1 c2 bb av:Pos}(ho:PEt X o to)(hyz:autoParam ((y==z)=false) ŕ)
  (bg:autoParam (attributeBase o "replace" X.env (eval o X.env)=eval o X.env) Ŕ)
  (cg:autoParam (((backTo av (starEach [.Constant (.str y) j1 c1,.Constant (.str z) j2 c2] X.env)).all (λx=>!x.1)&&(backToKw av (keywordEach [] X.env)).all (λx=>x.1.isSome)
   && decide ([Expr.Constant (.str y) j1 c1,.Constant (.str z) j2 c2].length+([]:List Keyword).length+(if([]:List Keyword).isEmpty then 0 else 1)<30))=true) Ŕ)
  (bi:autoParam ((bb.endLine==av.line)=true) Ŕ):PEl X (.Call (.Attribute o "replace" bb) [.Constant (.str y) j1 c1,.Constant (.str z) j2 c2] [] av) (qxs y z to):=by
 intro pins s σ H Q I hp h;refine wpAny_Call_method_late bg cg bi rfl (thn (ho pins s σ H _ I hp h) λv s1 ⟨⟨x,H1,I1,r1,q1⟩,p1⟩=>?_);obtain⟨xs,rfl,hz,q⟩:=q1;obtain⟨t,rfl⟩:=r1;have ty:tyV X.K "str" (.str xs) H1:=rfl;have rr:RelV (.str xs) (.str xs t):=⟨t,rfl⟩;obtain⟨h1,h2⟩:=qq2 I1 rr ty;refine⟨"str","str.replace",F.plainAttrs_str,F.slot_str_replace,F.type_str_replace,h1,h2,?_⟩;refine Calls.callWith_builtin rfl (Calls.evalArgs_plain ?_);refine Yf (Calls.Constant_str (k:=j1) (pos:=c1) (Yf (Calls.Constant_str (k:=j2) (pos:=c2) ?_)));refine Xf ?_;exact SC.replace (Nat.ne_of_gt p1) (Nat.succ_ne_zero _) (Xr (Nat.lt_succ_self _)) hyz hz λt' k=>⟨.str _,H1,I1.tok _,⟨_,rfl⟩,q⟩
theorem WV(ha:PEt X e te)(hr:PAl X es t)(hs:autoParam (starEach (e::es) X.env=(false,eval e X.env)::starEach es X.env) Ŕ):PAl X (e::es) (Q7 te t):=by
 intro pos pins s σ H Q I hp h;rw[hs];show wpAny _ _ (spliced ((false,eval e X.env)::backTo pos (starEach es X.env))) _ _ s;refine Yf (thn (ha pins s σ H _ I hp h) λu s1 ⟨⟨x,H1,I1,r1,q1⟩,p1⟩=>?_);exact thn (hr pos pins s1 σ H1 _ I1 p1 q1) λus s2 ⟨xs,H2,I2,r2,q2⟩=>⟨x::xs,H2,I2,.cons r1 r2,q2⟩
theorem qk3(ha:PEl X e te)(hs:autoParam (starEach [e] X.env=[(false,eval e X.env)]) Ŕ):PAl X [e] (Q7 te Yv):=by
 intro pos pins s σ H Q I hp h;rw[hs];show wpAny _ _ (spliced ((false,eval e X.env)::[])) _ _ s;refine Yf (thn (ha pins s σ H _ I hp h) λu s1 ⟨x,H1,I1,r1,q1⟩=>?_);exact Xf ⟨[x],H1,I1,.cons r1 .nil,q1⟩
theorem qk4{x j p}(hr:PAl X es t)(hs:autoParam (starEach (.Constant (.str x) j p::es) X.env=(false,eval (.Constant (.str x) j p) X.env)::starEach es X.env) Ŕ):PA X (.Constant (.str x) j p::es) (Q7 (tC (.str x)) t):=by
 intro pos pins s σ H Q I h;rw[hs];show wpAny _ _ (spliced ((false,eval (.Constant (.str x) j p) X.env)::backTo pos (starEach es X.env))) _ _ s;refine Yf (Calls.Constant_str ?_);exact thn (hr pos pins { s with toks:=s.toks+1 } σ H _ (I.tok _) (Nat.succ_pos _) h) λus s2 ⟨xs,H2,I2,r2,q2⟩=>⟨.str x::xs,H2,I2,.cons ⟨_,rfl⟩ r2,q2⟩
theorem V6{c:Nat}:∀{l p:List Nat},p∈splitL c l->p.length<=l.length
 | [],p,h=>by
  have:p=[]:=by simpa [splitL]using h
  subst this;exact Xb _
 | x :: r,p,h=>by
  rw [splitL.eq_2]at h
  split at h
  ·rcases List.mem_cons.mp h with e|e
   ·subst e;simp
   ·exact Nat.le_succ_of_le (V6 e)
  ·split at h
   ·have:p=[x]:=by simpa using h
    subst this;simp
   ·rename_i q ps e;rcases List.mem_cons.mp h with e2|e2
    ·subst e2;exact Nat.succ_le_succ (V6 (by rw[e];exact X3))
    ·exact Nat.le_succ_of_le (V6 (by rw[e];exact lc9 _ e2))
theorem repl_len(x z:Str)(c:Nat):(Txt.replace x ⟨#[c]⟩ z).length<=(x.length+1)*x.length+(x.length+1)*z.length:=by
 rw[StrLaws.replace_one];have h1:=StrLaws.join_length_le z (Txt.split x ⟨#[c]⟩);have h2:=StrLaws.sumLen_le (B:=x.length) (Txt.split x ⟨#[c]⟩) λy hy=>by
  have:y.cps.toList∈splitL c x.cps.toList:=by rw[<-split_list];exact List.mem_map.mpr ⟨y,hy,rfl⟩
  rw[xY,xY];exact V6 this
 have h3:=kjl x c;have h4:(Txt.split x ⟨#[c]⟩).length*x.length<=(x.length+1)*x.length:=Nat.mul_le_mul_right _ h3;have h5:(Txt.split x ⟨#[c]⟩).length*z.length<=(x.length+1)*z.length:=Nat.mul_le_mul_right _ h3;omega
end
end L3
namespace Q
open PySem
inductive D where
 |non|bl (b:Bool)|int (i:Int)|str (z:Str)|tup (xs:List D)|lst (xs:List D)|dct (ax:List (D×D))|obj (c:Str) (fs:List (Str×D))
instance:DecidableEq D:=λa b=>Classical.propDecidable (a=b)
instance:Inhabited D:=⟨.non⟩
mutual
noncomputable def D.pure:D->Bool
 |.tup xs=>D.pures xs
 |.lst _=>false
 |.dct _=>false
 |.obj _ _=>false
 |_=>true
noncomputable def D.pures:List D->Bool
 |[]=>true
 |a::x=>D.pure a&&D.pures x
end
theorem D.pures_all:∀xs:List D,D.pures xs=xs.all D.pure
 |[]=>by simp[D.pures]
 |a::x=>by rw[D.pures,List.all_cons,D.pures_all x]
@[simp] theorem D.pures_map {α:Type}(f:α->D)(xs:List α)(h:∀x∈xs,(f x).pure=true):D.pures (xs.map f)=true:=by
 rw[D.pures_all,Yj];intro d hd;obtain⟨x,hx,rfl⟩:=List.mem_map.mp hd;exact h x hx
mutual
noncomputable def peq:D->D->Bool
 |.non,.non=>true
 |.bl a,.bl b=>a==b
 |.bl a,.int b=>(if a then 1 else 0)==b
 |.int a,.bl b=>a==(if b then 1 else 0)
 |.int a,.int b=>a==b
 |.str a,.str b=>a==b
 |.lst as,.lst bs=>peqs as bs
 |.tup as,.tup bs=>peqs as bs
 |_,_=>false
noncomputable def peqs:List D->List D->Bool
 |[],[]=>true
 |a::as,b::bs=>peq a b&&peqs as bs
 |_,_=>false
end
mutual
noncomputable def D.flat:Nat->D->Bool
 |0,.tup _=>false
 |0,.lst _=>false
 |n+1,.tup xs=>D.flats n xs
 |n+1,.lst xs=>D.flats n xs
 |_,.dct _=>false
 |_,.obj _ _=>false
 |_,_=>true
noncomputable def D.flats:Nat->List D->Bool
 |_,[]=>true
 |n,a::x=>D.flat n a&&D.flats n x
end
mutual
noncomputable def vxa:Nat->D->Bool
 |_,.non=>true
 |_,.int _=>true
 |n+1,.tup xs=>keyDs n xs
 |_,_=>false
noncomputable def keyDs:Nat->List D->Bool
 |_,[]=>true
 |n,a::x=>vxa n a&&keyDs n x
end
inductive Own where
 |no|rt|dp
 deriving DecidableEq
abbrev Sd:=Own×D
abbrev En:=List (Option Sd)
inductive Res (α:Type) where
 |ok (E:En) (a:α)
 |exc (E:En) (c:Str)
abbrev Ev(α:Type):=En->Option (Res α)
abbrev Ex:=Ev Sd
noncomputable def bnd{α β:Type}(m:Option (Res α))(f:En->α->Option (Res β)):Option (Res β):=
 match m with
 |some (.ok E a)=>f E a
 |some (.exc E c)=>some (.exc E c)
 |none=>none
@[simp] theorem vxg {α β:Type}(E:En)(a:α)(f:En->α->Option (Res β)):bnd (some (.ok E a)) f=f E a:=rfl
@[simp] theorem vwc {α β:Type}(E:En)(c:Str)(f:En->α->Option (Res β)):bnd (some (.exc E c)) f=some (.exc E c):=rfl
@[simp] theorem vqn {α β:Type}(f:En->α->Option (Res β)):bnd none f=none:=rfl
def val{α:Type}(E:En)(x:Option α):Option (Res α):=x.map (Res.ok E)
@[simp] theorem vqa {α:Type}(E:En)(x:α):val E (some x)=some (.ok E x):=rfl
@[simp] theorem vqb {α:Type}(E:En):val E (none:Option α)=none:=rfl
def cC(d:D):Ex:=λE=>some (.ok E (.dp,d))
noncomputable def cV(i:Nat):Ex:=λE=>match E[i]? with
 |some (some (_,d))=>some (.ok (E.set i (some (.no,d))) (.no,d))
 |_=>none
def cMv(i:Nat):Ex:=λE=>match E[i]? with
 |some (some x)=>some (.ok (E.set i none) x)
 |_=>none
def vV(i:Nat):Ex:=λE=>match E[i]? with
 |some (some x)=>some (.ok E x)
 |_=>none
def vE(c:Ex):Ex:=λE=>bnd (c E) λE x=>some (.ok E (.no,x.2))
abbrev C9(z:Int):Ex:=vE (cC (.int z))
noncomputable def cH(v:Ex):Ex:=λE=>bnd (v E) λE x=>if x.1=.no then some (.ok E (.no,x.2))else if x.2.pure then some (.ok E (.dp,x.2))else none
def cF1(f:Sd->Option Sd)(a:Ex):Ex:=λE=>bnd (a E) λE x=>val E (f x)
def cF2(f:Sd->Sd->Option Sd)(a b:Ex):Ex:=λE=>bnd (a E) λE x=>bnd (b E) λE y=>val E (f x y)
def pu1(f:D->Option D):Sd->Option Sd:=λx=>(f x.2).map λd=>(.dp,d)
def pu2(f:D->D->Option D):Sd->Sd->Option Sd:=λx y=>(f x.2 y.2).map λd=>(.dp,d)
def vx9:D->List D
 |.lst xs=>xs
 |.tup xs=>xs
 |.dct ax=>ax.map (·.2)
 |_=>[]
def v7(x:Sd):Bool:=x.1 != .dp||D.pures (vx9 x.2)
def sub:Own->Own
 |.dp=>.dp
 |_=>.no
noncomputable def ixN(n:Nat)(i:Int):Option Nat:=if 0<=i then(if i<n then some i.toNat else none)else if -(n:Int)<=i then some (i+n).toNat else none
noncomputable def ixD:D->D->Option D
 |.lst xs,.int i=>(ixN xs.length i).bind λj=>xs[j]?
 |.tup xs,.int i=>(ixN xs.length i).bind λj=>xs[j]?
 |.str z,.int i=>(ixN z.cps.size i).bind λj=>(z.cps.toList[j]?).map λc=>.str ⟨#[c]⟩
 |.dct ax,k=>(ax.find? λe=>decide (e.1=k)).map (·.2)
 |_,_=>none
def big:Nat:=16777216
def i2(f:Int->Int->Option Int):D->D->Option D
 |.int a,.int b=>(f a b).map .int
 |_,_=>none
def c2(f:Int->Int->Bool):D->D->Option D
 |.int a,.int b=>some (.bl (f a b))
 |_,_=>none
def W2(a:Int):Bool:=decide (-(2 ^ 64)<a)&&decide (a<2 ^ 64)
noncomputable def jJ:Sd->Sd->Option Sd:=λx y=>match x.2,y.2 with
 |.int a,.int b=>some (.dp,.int (a+b))
 |.str a,.str b=>if a.cps.size+b.cps.size<=big then some (.dp,.str (a++b))else none
 |.lst a,.lst b=>if a.length+b.length<=big/\v7 x/\v7 y then some (.rt,.lst (a++b))else none
 |.tup a,.tup b=>if a.length+b.length<=big/\v7 x/\v7 y then some (.no,.tup (a++b))else none
 |_,_=>none
def zQ(a b:Int):Bool:=W2 a||W2 b||(decide (a.natAbs.log2<2000000)&&decide (b.natAbs.log2<2000000))
noncomputable def Q5:Sd->Sd->Option Sd:=λx y=>match x.2,y.2 with
 |.int a,.int b=>if zQ a b then some (.dp,.int (a*b))else none
 |.lst a,.int k=>if -(2 ^ 63)<=k/\k<2 ^ 63/\a.length*k.toNat<=big/\v7 x then some (.rt,.lst (List.replicate k.toNat a).flatten)else none
 |.str z,.int n=>if(z.cps.size<=1024/\n<=1024/\-1024<=n)/\(Txt.mul z n).cps.size<=big then some (.dp,.str (Txt.mul z n))else none
 |_,_=>none
def WQ:D->D->Option D:=i2 λa b=>some (a - b)
def z7:D->D->Option D:=i2 λa b=>if 0<b/\b.natAbs.log2<9000 then some (a / b)else none
def kK:D->D->Option D:=i2 λa b=>if 0<b then some (a % b)else none
def K5:D->D->Option D:=i2 λa b=>if 0<=b/\b<=1000000/\a.natAbs<2 ^ 64 then some (a ^ b.toNat)else none
def vw2:D->D->Option D:=i2 λa b=>if 0<=b/\b<=1000000/\a.natAbs<2 ^ 64 then some (a*2 ^ b.toNat)else none
def fEq:D->D->Option D:=λa b=>if a.flat 40&&b.flat 40 then some (.bl (peq a b))else none
def fNe:D->D->Option D:=λa b=>if a.flat 40&&b.flat 40 then some (.bl (!peq a b))else none
def isNon:D->Bool
 |.non=>true
 |_=>false
def fLt:D->D->Option D:=c2 λa b=>decide (a<b)
def fLe:D->D->Option D:=c2 λa b=>decide (a<=b)
def fGt:D->D->Option D:=c2 λa b=>decide (b<a)
def fGe:D->D->Option D:=c2 λa b=>decide (b<=a)
def JV(a b:Str):Bool:=!(Builtin.Str.occurrences b a 0 b.length 1).isEmpty
noncomputable def fIn:D->D->Option D:=λx y=>match y with
 |.lst ys=>if x.flat 30&&D.flats 30 ys then some (.bl (ys.any λz=>peq z x))else none
 |.tup ys=>if x.flat 30&&D.flats 30 ys then some (.bl (ys.any λz=>peq z x))else none
 |.str b=>(match x with
  |.str a=>some (.bl (JV a b))
  |_=>none)
 |.dct ax=>some (.bl (ax.any λe=>decide (e.1=x)))
 |_=>none
def kzc:D->D->Option D:=λx y=>(fIn x y).bind λd=>match d with
 |.bl k=>some (.bl (!k))
 |_=>none
noncomputable def kz:D->Option D
 |.lst xs=>some (.int xs.length)
 |.tup xs=>some (.int xs.length)
 |.str z=>some (.int z.length)
 |_=>none
noncomputable def kind:D->String
 |.non=>"NoneType"
 |.bl _=>"bool"
 |.int _=>"int"
 |.str _=>"str"
 |.tup _=>"tuple"
 |.lst _=>"list"
 |.dct _=>"dict"
 |.obj _ _=>""
def isaK(t u:String):Bool:=t==u||(t == "bool" && u == "int")
def vW(u:String):D->Option D:=λd=>match d with
 |.obj _ _=>none
 |.dct _=>none
 |_=>some (.bl (isaK (kind d) u))
def fIsNon:D->Option D:=λd=>some (.bl (isNon d))
def fNotNon:D->Option D:=λd=>some (.bl (!isNon d))
abbrev Ts:=Ev Bool
noncomputable def truth:D->Option Bool
 |.bl b=>some b
 |.non=>some false
 |.int i=>some (i != 0)
 |.str z=>some (z.cps.size != 0)
 |.lst xs=>some (!xs.isEmpty)
 |.tup xs=>some (!xs.isEmpty)
 |.dct xs=>some (!xs.isEmpty)
 |.obj _ _=>none
def tE(c:Ex):Ts:=λE=>bnd (c E) λE x=>val E (truth x.2)
def tAnd(a b:Ts):Ts:=λE=>bnd (a E) λE x=>if x then b E else some (.ok E false)
def tOr(a b:Ts):Ts:=λE=>bnd (a E) λE x=>if x then some (.ok E true)else b E
def tNot(a:Ts):Ts:=λE=>bnd (a E) λE x=>some (.ok E (!x))
def tYes:Ts:=λE=>some (.ok E true)
def cIf(t:Ts)(a b:Ex):Ex:=λE=>bnd (t E) λE x=>if x then a E else b E
noncomputable def z5(a b:Ex):Ex:=λE=>bnd (a E) λE x=>match x.2 with
 |.bl true=>b E
 |.bl false=>some (.ok E (.dp,.bl false))
 |_=>none
noncomputable def cOr(a b:Ex):Ex:=λE=>bnd (a E) λE x=>match x.2 with
 |.bl true=>some (.ok E (.dp,.bl true))
 |.bl false=>b E
 |_=>none
def Q9:D->D->Option D:=λx y=>match y with
 |.dct _=>none
 |_=>fIn x y
def xk:D->D->Option D:=λx y=>match y with
 |.dct _=>none
 |_=>kzc x y
def f2First(f:D->Option D):Sd->Sd->Option Sd:=λx y=>if isNon y.2 then(f x.2).map λd=>(.dp,d)else none
def qZ:D->D->Option D:=λx y=>match x with
 |.dct _=>none
 |_=>ixD x y
def qJ(a b:Ex):Ex:=λE=>bnd (a E) λE x=>bnd (b E) λE y=>val E ((qZ x.2 y.2).map λd=>(sub x.1,d))
def truthQ:D->Option Bool:=λd=>match d with
 |.dct _=>none
 |_=>truth d
def tEQ(c:Ex):Ts:=λE=>bnd (c E) λE x=>val E (truthQ x.2)
def KW(c:Ex):Ex:=λE=>bnd (c E) λE x=>val E ((truthQ x.2).map λk=>(.dp,.bl (!k)))
noncomputable def qz:List Ex->Ev (List Sd)
 |[],E=>some (.ok E [])
 |c::cs,E=>bnd (c E) λE x=>bnd (qz cs E) λE xs=>some (.ok E (x::xs))
def vK(x:Sd):Bool:=x.1 == .dp||x.2.pure
noncomputable def xQ(o:Own)(cs:List Ex):Ex:=λE=>bnd (qz cs E) λE xs=>if o=.dp then(if xs.all vK then some (.ok E (.dp,.lst (xs.map (·.2))))else none)else some (.ok E (.rt,.lst (xs.map (·.2))))
noncomputable def K7(o:Own)(cs:List Ex):Ex:=λE=>bnd (qz cs E) λE xs=>if o=.dp then(if xs.all vK then some (.ok E (.dp,.tup (xs.map (·.2))))else none)else some (.ok E (.no,.tup (xs.map (·.2))))
inductive Fl where
 |nx (E:En)|rt (E:En) (x:Sd)|ct (E:En)|bk (E:En)|xc (E:En) (c:Str)
abbrev Sm:=En->Option Fl
noncomputable def ofE{α:Type}(m:Option (Res α))(f:En->α->Option Fl):Option Fl:=
 match m with
 |some (.ok E a)=>f E a
 |some (.exc E c)=>some (.xc E c)
 |none=>none
@[simp] theorem vx3 {α:Type}(E:En)(a:α)(f:En->α->Option Fl):ofE (some (.ok E a)) f=f E a:=rfl
@[simp] theorem vvq {α:Type}(E:En)(c:Str)(f:En->α->Option Fl):ofE (some (.exc E c)) f=some (.xc E c):=rfl
@[simp] theorem vqi {α:Type}(f:En->α->Option Fl):ofE none f=none:=rfl
def jq(a b:Sm):Sm:=λE=>match a E with
 |some (.nx E)=>b E
 |r=>r
def k9:Sm:=λE=>some (.nx E)
def jW(i:Nat)(c:Ex):Sm:=λE=>ofE (c E) λE x=>some (.nx (E.set i (some x)))
def Zj(c:Ex):Sm:=λE=>ofE (c E) λE _=>some (.nx E)
def jK(c:Ex):Sm:=λE=>ofE (c E) λE x=>some (.rt E x)
def sRetN:Sm:=λE=>some (.rt E (.dp,.non))
def sIf(t:Ts)(a b:Sm):Sm:=λE=>ofE (t E) λE x=>if x then a E else b E
inductive Tg where
 |n (i:Nat)|t (ts:List Nat)
noncomputable def setAll:List Nat->List D->En->Option En
 |[],[],E=>some E
 |i::is,d::ds,E=>setAll is ds (E.set i (some (.no,d)))
 |_,_,_=>none
noncomputable def Tg.put:Tg->D->En->Option En
 |.n i,d,E=>some (E.set i (some (.no,d)))
 |.t is,.tup ds,E=>setAll is ds E
 |.t is,.lst ds,E=>setAll is ds E
 |.t _,_,_=>none
def vqe(is:List Nat)(c:Ex):Sm:=λE=>ofE (c E) λE x=>(Tg.put (.t is) x.2 E).map .nx
noncomputable def xx(tg:Tg)(b:Sm):List D->En->Option Fl
 | [],E=>some (.nx E)
 | d::ds,E=>match tg.put d E with
  |none=>none
  |some E=>match b E with
   |some (.nx E)=>xx tg b ds E
   |some (.ct E)=>xx tg b ds E
   |some (.bk E)=>some (.nx E)
   |r=>r
def xW(it:Ev (List D))(tg:Tg)(b:Sm):Sm:=λE=>ofE (it E) λE ds=>xx tg b ds E
def at'{α:Type}(L:List (Option α))(j:Nat):Option α:=(L[j]?).join
def clr{α:Type}:List Nat->List (Option α)->List (Option α)
 |[],L=>L
 |j::R,L=>clr R (L.set j none)
noncomputable def back{α:Type}:List Nat->List (Option α)->List (Option α)->List (Option α)
 |j::R,q::B,L=>back R B (L.set j q)
 |_,_,L=>L
def K3(k:Nat)(R:List Nat)(E:En):En:=List.replicate k none++R.map (at' E)
def Kj(k:Nat)(R:List Nat)(B E:En):En:=back R (B.drop k) (clr R E)
noncomputable def lcL(tg:Tg)(t:Ts)(c:Ex):List D->En->List Sd->Option (Res (List Sd))
 |[],B,ay=>some (.ok B ay)
 |d::ds,B,ay=>match tg.put d B with
  |none=>none
  |some B=>bnd (t B) λB x=>if x then bnd (c B) λB y=>lcL tg t c ds B (ay++[y])else lcL tg t c ds B ay
noncomputable def mkL(o:Own)(E:En)(xs:List Sd):Option (Res Sd):=
 if o=.dp then(if xs.all vK then some (.ok E (.dp,.lst (xs.map (·.2))))else none)else some (.ok E (.rt,.lst (xs.map (·.2))))
noncomputable def cLC(o:Own)(k:Nat)(R:List Nat)(it:Ev (List D))(tg:Tg)(t:Ts)(c:Ex):Ex:=λE=>bnd (it E) λE ds=>
 match lcL tg t c ds (K3 k R E) []with
 |some (.ok B xs)=>mkL o (Kj k R B E) xs
 |some (.exc B e)=>some (.exc (Kj k R B E) e)
 |none=>none
def qwx:Option (Option Sd)->Bool
 |some (some (_,.lst _))=>true
 |_=>false
noncomputable def zq(f:List D->D->Option (List D))(i:Nat)(c:Ex):Sm:=λE=>if qwx E[i]? then ofE (c E) λE x=>match E[i]? with
 |some (some (o,.lst xs))=>if o=.no then none else(match f xs x.2 with
  |some ys=>some (.nx (E.set i (some (if o=.dp/\vK x then .dp else .rt,.lst ys))))
  |none=>none)
 |_=>none
 else none
def xX:List D->D->Option (List D):=λxs d=>if xs.length<big then some (xs++[d])else none
noncomputable def JK:D->Option D
 |.int i=>some (.int i)
 |.bl k=>some (.int (if k then 1 else 0))
 |.str z=>if z.length<=640 then(PySem.intText? z).map .int else none
 |_=>none
def bls:List D->Option (List Bool)
 |[]=>some []
 |.bl b::ds=>(bls ds).map (b :: ·)
 |_=>none
def VZ:D->Option D
 |.lst ds=>(bls ds).map λbs=>.bl (bs.all id)
 |_=>none
noncomputable def seqOf:D->Option (List D)
 |.lst xs=>some xs
 |.tup xs=>some xs
 |.str z=>if z.cps.size<=big then some (z.cps.toList.map λc=>.str ⟨#[c]⟩)else none
 |_=>none
def itS(c:Ex):Ev (List D):=λE=>bnd (c E) λE x=>val E (seqOf x.2)
def KK(i:Int):Bool:=decide (-(2 ^ 62)<=i)&&decide (i<2 ^ 62)
def q9(lo hi:Int):List D:=(List.range (hi - lo).toNat).map λ(k:Nat)=>.int (lo+(k:Int))
noncomputable def xK(c:Ex):Ev (List D):=λE=>bnd (c E) λE x=>match x.2 with
 |.int j=>if KK j/\j.toNat<=big then some (.ok E (q9 0 j))else none
 |_=>none
abbrev Fn:=List Sd->Option (Res Sd)
noncomputable def fn(n:Nat)(b:Sm):Fn:=λxs=>match b (xs.map some++List.replicate (n - xs.length) none)with
 |some (.rt E x)=>some (.ok E x)
 |some (.nx E)=>some (.ok E (.dp,.non))
 |some (.xc E c)=>some (.exc E c)
 |_=>none
def letAll(xs:List Sd):List Sd:=xs.map λx=>(.no,x.2)
noncomputable def jY(f:Fn)(cs:List Ex):Ex:=λE=>bnd (qz cs E) λE xs=>match f (letAll xs)with
 |some (.ok _ y)=>some (.ok E y)
 |some (.exc _ c)=>some (.exc E c)
 |none=>none
end Q
namespace Q
open PySem PySem.Spec PyProof.Rows L2 L3
mutual
noncomputable def vkh:D->Int
 |.int i=>hashInt i
 |.tup xs=>reduceHash (Builtin.Tuple.tupleHashOf (hashDs xs))
 |_=>4238894112
noncomputable def hashDs:List D->List Int
 |[]=>[]
 |a::x=>vkh a::hashDs x
end
def Kd:Type:={ d:D // vxa 6 d=true }
instance:DecidableEq Kd:=λa b=>Classical.propDecidable (a=b)
abbrev Ent:=Kd×Addr×Value
noncomputable def DicO(a:Addr)(es:List Ent)(ep:Nat):HO:=.ext λh=>∃o ds,h.get? a=some o/\o.ExactDict/\o.data=.dict ds ep/\ds.toList=es.map λx=>(⟨vkh x.1.1,.ref x.2.1,x.2.2⟩:DictEntry)
mutual
noncomputable def PuR(K:PySem.W.Frag)(H:Hp):D->V->Prop
 |.non,v=>v=.non
 |.int i,v=>v=.int i
 |.tup ds,v=>∃a xs,v=.ref a/\SqT K H a xs/\PuRs K H ds xs
 |_,_=>False
noncomputable def PuRs(K:PySem.W.Frag)(H:Hp):List D->List V->Prop
 |[],xs=>xs=[]
 |d::ds,xs=>∃x r,xs=x::r/\PuR K H d x/\PuRs K H ds r
end
noncomputable def DcN(K:PySem.W.Frag)(H:Hp)(a:Addr)(ks:List D)(vs:List V):Prop:=∃(es:List Ent) (ep:Nat),H a=some (DicO a es ep)/\(a==sysModules)=false/\es.length<=sizeLine/\(es.map (·.1)).Nodup/\ks=es.map (·.1.1)/\(∀x∈es,PuR K H x.1.1 (.ref x.2.1))/\Vals vs (es.map (·.2.2))
noncomputable def DcI(H:Hp)(a:Addr)(ks:List D)(vs:List V):Prop:=∃(kv:List (Int×V)) (m:Str),H a=some (.dK (kv.map λp=>(Sum.inl p.1,p.2)))/\ks=.str m::kv.map (λp=>D.int p.1)/\vs=.non::kv.map (·.2)
def DcA(K:PySem.W.Frag)(H:Hp)(a:Addr)(ks:List D)(vs:List V):Prop:=DcN K H a ks vs\/DcI H a ks vs
noncomputable def vxj(K:PySem.W.Frag)(a:Addr)(xs:List V):Prop:=∃(ai:Array Value) (n:Nat),K.lookup a=some { cls:=.type "list",data:=.seq ai n }/\ai.size<=sizeLine/\Vals xs ai.toList
def ZV(K:PySem.W.Frag)(H:Hp)(a:Addr)(xs:List V):Prop:=(∃o,H a=some (.frz o (.lst xs)))\/vxj K a xs
def LsR(K:PySem.W.Frag)(H:Hp)(a:Addr)(xs:List V):Prop:=Rd H a (.lst xs)\/vxj K a xs
theorem LsR.of{K:PySem.W.Frag}{H:Hp}{a:Addr}{xs:List V}(h:ZV K H a xs):LsR K H a xs:=h.imp .inr id
theorem LsR.sq{K:PySem.W.Frag}{H:Hp}{a:Addr}{xs:List V}(h:LsR K H a xs):SqL K H a xs:=by
 rcases h with h|⟨ai,n,h1,h2,h3⟩
 ·exact .inl h
 ·exact .inr ⟨_,ai,n,h1,rfl,rfl,rfl,h2,h3⟩
theorem LsR.is{X:Cx}{pins:List (Addr×Obj)}{σ:L2.St}{H:Hp}{s:Shared}{a:Addr}{xs:List V}(I:L2.Inv X pins σ H s)(h:LsR X.K H a xs):xs.length<=sizeLine/\∃(ai:List Value) (n:Nat),Vals xs ai/\s.heap.get? a=some { cls:=.type "list",data:=.seq ai.toArray n }:=by
 rcases h with h|⟨ai,n,h1,h2,h3⟩
 ·obtain⟨z,ai,n,r,e⟩:=h.ok I.hok;exact⟨z,ai,n,r,e⟩
 ·have hl:=h3.length;simp only[X0]at hl;exact⟨by omega,ai.toList,n,h3,by simpa using I.kIn a _ h1⟩
noncomputable def ExD(K:PySem.W.Frag)(H:Hp)(c:Str)(v:V):Prop:=∃x o C,v=.ref x/\H x=some (.frz o (.ext λ_=>True))/\ExAt K x o C/\PySem.W.nsIn K mainGlobals c=some (some (.ref C))
mutual
noncomputable def RepL(K:PySem.W.Frag)(H:Hp)(g:Bool):D->V->List Addr->Prop
 |.non,v,as=>v=.non/\as=[]
 |.bl b,v,as=>v=.bl b/\as=[]
 |.int i,v,as=>v=.int i/\as=[]
 |.str z,v,as=>v=.str z/\as=[]/\z.length<=sizeLine
 |.tup ds,v,as=>∃a xs,v=.ref a/\SqT K H a xs/\RepA K H g ds xs as
 |.lst ds,v,as=>∃a xs bs,v=.ref a/\RepA K H g ds xs bs/\((H a=some (.lst xs)/\as=a::bs)\/(g=true/\ZV K H a xs/\as=bs))
 |.dct ax,v,as=>∃a xs bs,v=.ref a/\RepP K H g ax xs bs/\DcA K H a (ax.map (·.1)) xs/\as=a::bs
 |.obj c _,v,as=>as=[]/\ExD K H c v
noncomputable def RepA(K:PySem.W.Frag)(H:Hp)(g:Bool):List D->List V->List Addr->Prop
 |[],xs,as=>xs=[]/\as=[]
 |d::ds,xs,as=>∃x r bs cs,xs=x::r/\as=bs++cs/\RepL K H g d x bs/\RepA K H g ds r cs
noncomputable def RepP(K:PySem.W.Frag)(H:Hp)(g:Bool):List (D×D)->List V->List Addr->Prop
 |[],xs,as=>xs=[]/\as=[]
 |(_,d)::ds,xs,as=>∃x r bs cs,xs=x::r/\as=bs++cs/\RepL K H g d x bs/\RepP K H g ds r cs
end
noncomputable def RepR(K:PySem.W.Frag)(H:Hp):D->V->List Addr->Prop
 |.lst ds,v,as=>∃a xs bs,v=.ref a/\RepA K H true ds xs bs/\H a=some (.lst xs)/\as=a::bs
 |.dct ax,v,as=>∃a xs bs,v=.ref a/\RepP K H true ax xs bs/\DcA K H a (ax.map (·.1)) xs/\as=a::bs
 |_,_,_=>False
noncomputable def RepO(K:PySem.W.Frag)(H:Hp):Own->D->V->List Addr->Prop
 |.no=>RepL K H true
 |.rt=>RepR K H
 |.dp=>RepL K H false
section
variable {K:PySem.W.Frag}{H H':Hp}
noncomputable def Kp(H H':Hp)(as:List Addr):Prop:=(∀a xs,H a=some (.tup xs)->H' a=some (.tup xs))/\(∀a o u,H a=some (.frz o u)->H' a=some (.frz o u))/\∀a∈as,∀ob,H a=some ob->H' a=some ob
theorem Kp.left{as bs:List Addr}(k:Kp H H' (as++bs)):Kp H H' as:=⟨k.1,k.2.1,λa ha=>k.2.2 a (ll9 _ ha)⟩
theorem Kp.right{as bs:List Addr}(k:Kp H H' (as++bs)):Kp H H' bs:=⟨k.1,k.2.1,λa ha=>k.2.2 a (lr9 _ ha)⟩
theorem Kp.tail{a:Addr}{bs:List Addr}(k:Kp H H' (a::bs)):Kp H H' bs:=⟨k.1,k.2.1,λb hb=>k.2.2 b (lc9 _ hb)⟩
theorem Kp.tupT{as:List Addr}{a:Addr}{xs:List V}(k:Kp H H' as)(h:SqT K H a xs):SqT K H' a xs:=by
 rcases h with(h|⟨o,h⟩)|h
 ·exact .inl (.inl (k.1 a xs h))
 ·exact .inl (.inr ⟨o,k.2.1 a o _ h⟩)
 ·exact .inr h
theorem Kp.frzL{as:List Addr}{a:Addr}{xs:List V}(k:Kp H H' as)(h:ZV K H a xs):ZV K H' a xs:=by
 rcases h with⟨o,h⟩|h
 ·exact .inl ⟨o,k.2.1 a o _ h⟩
 ·exact .inr h
mutual
theorem PuR.kp{as:List Addr}(k:Kp H H' as):∀{d:D} {v:V},PuR K H d v->PuR K H' d v
 |.non,_,h=>by unfold PuR at h ⊢;exact h
 |.int _,_,h=>by unfold PuR at h ⊢;exact h
 |.tup ds,_,h=>by
  unfold PuR at h ⊢;obtain⟨a,xs,e,s,r⟩:=h;exact⟨a,xs,e,k.tupT s,PuRs.kp k r⟩
 |.bl _,_,h=>by unfold PuR at h;exact h.elim
 |.str _,_,h=>by unfold PuR at h;exact h.elim
 |.lst _,_,h=>by unfold PuR at h;exact h.elim
 |.dct _,_,h=>by unfold PuR at h;exact h.elim
 |.obj _ _,_,h=>by unfold PuR at h;exact h.elim
theorem PuRs.kp{as:List Addr}(k:Kp H H' as):∀{ds:List D} {xs:List V},PuRs K H ds xs->PuRs K H' ds xs
 |[],_,h=>by unfold PuRs at h ⊢;exact h
 |d::ds,_,h=>by
  unfold PuRs at h ⊢;obtain⟨x,r,e,h1,h2⟩:=h;exact⟨x,r,e,PuR.kp k h1,PuRs.kp k h2⟩
end
theorem Kp.dcn{a:Addr}{bs:List Addr}{ks:List D}{vs:List V}(k:Kp H H' (a::bs))(h:DcN K H a ks vs):DcN K H' a ks vs:=by
 obtain⟨es,ep,e,h1,h2,h3,h4,h5,h6⟩:=h;exact⟨es,ep,k.2.2 a X3 _ e,h1,h2,h3,h4,λx hx=>PuR.kp k (h5 x hx),h6⟩
theorem Kp.dca{a:Addr}{bs:List Addr}{ks:List D}{vs:List V}(k:Kp H H' (a::bs))(h:DcA K H a ks vs):DcA K H' a ks vs:=by
 rcases h with h|⟨kv,m,e,h⟩
 ·exact .inl (k.dcn h)
 ·exact .inr ⟨kv,m,k.2.2 a X3 _ e,h⟩
theorem Kp.of_same{as:List Addr}(s:jZ H H'):Kp H H' as:=⟨λa xs h=>s a _ h,λa o u h=>s a _ h,λa _ ob h=>s a ob h⟩
mutual
theorem RepL.kp{g:Bool}:∀{d:D} {v:V} {as:List Addr},RepL K H g d v as->Kp H H' as->RepL K H' g d v as
 | .non,_,_,h,_=>by unfold RepL at h ⊢;exact h
 | .bl _,_,_,h,_=>by unfold RepL at h ⊢;exact h
 | .int _,_,_,h,_=>by unfold RepL at h ⊢;exact h
 | .str _,_,_,h,_=>by unfold RepL at h ⊢;exact h
 | .tup ds,_,_,h,k=>by
  unfold RepL at h ⊢;obtain⟨a,xs,e,s,r⟩:=h;exact⟨a,xs,e,k.tupT s,RepA.kp r k⟩
 | .lst ds,_,_,h,k=>by
  unfold RepL at h ⊢;obtain⟨a,xs,bs,e,r,q⟩:=h;refine⟨a,xs,bs,e,?_,?_⟩
  ·rcases q with⟨_,rfl⟩|⟨_,_,rfl⟩
   ·exact RepA.kp r k.tail
   ·exact RepA.kp r k
  ·rcases q with⟨h1,rfl⟩|⟨hg,h1,rfl⟩
   ·exact .inl ⟨k.2.2 a X3 _ h1,rfl⟩
   ·exact .inr ⟨hg,k.frzL h1,rfl⟩
 |.dct ax,_,_,h,k=>by
  unfold RepL at h ⊢;obtain⟨a,xs,bs,e,r,q,rfl⟩:=h;exact⟨a,xs,bs,e,RepP.kp r k.tail,k.dca q,rfl⟩
 |.obj _ _,_,_,h,k=>by
  unfold RepL at h ⊢;obtain⟨e,x,o,C,h1,h2,h3⟩:=h;exact⟨e,x,o,C,h1,k.2.1 _ _ _ h2,h3⟩
theorem RepA.kp{g:Bool}:∀{ds:List D} {xs:List V} {as:List Addr},RepA K H g ds xs as->Kp H H' as->RepA K H' g ds xs as
 |[],_,_,h,_=>by unfold RepA at h ⊢;exact h
 |d::ds,_,_,h,k=>by
  unfold RepA at h ⊢;obtain⟨x,r,bs,cs,e1,rfl,h1,h2⟩:=h;exact⟨x,r,bs,cs,e1,rfl,RepL.kp h1 k.left,RepA.kp h2 k.right⟩
theorem RepP.kp{g : Bool}: ∀{ds : List (D × D)} {xs : List V} {as : List Addr}, RepP K H g ds xs as -> Kp H H' as -> RepP K H' g ds xs as
  | [], _, _, h, _=>by unfold RepP at h ⊢; exact h
  | (q, d)::ds, _, _, h, k=>by
    unfold RepP at h ⊢;obtain⟨x, r, bs, cs, e1, rfl, h1, h2⟩:= h;exact⟨x, r, bs, cs, e1, rfl, RepL.kp h1 k.left, RepP.kp h2 k.right⟩
end
mutual
theorem RepL.wk:∀{d:D} {v:V} {as:List Addr},RepL K H false d v as->RepL K H true d v as
 |.non,_,_,h=>by unfold RepL at h ⊢;exact h
 |.bl _,_,_,h=>by unfold RepL at h ⊢;exact h
 |.int _,_,_,h=>by unfold RepL at h ⊢;exact h
 |.str _,_,_,h=>by unfold RepL at h ⊢;exact h
 |.tup ds,_,_,h=>by
  unfold RepL at h ⊢;obtain⟨a,xs,e,s,r⟩:=h;exact⟨a,xs,e,s,RepA.wk r⟩
 |.lst ds,_,_,h=>by
  unfold RepL at h ⊢;obtain⟨a,xs,bs,e,r,q⟩:=h;refine⟨a,xs,bs,e,RepA.wk r,?_⟩;rcases q with q|⟨z,_⟩
  ·exact .inl q
  ·cases z
 |.dct ax,_,_,h=>by
  unfold RepL at h ⊢;obtain⟨a,xs,bs,e,r,q,z⟩:=h;exact⟨a,xs,bs,e,RepP.wk r,q,z⟩
 |.obj _ _,_,_,h=>by unfold RepL at h ⊢;exact h
theorem RepA.wk:∀{ds:List D} {xs:List V} {as:List Addr},RepA K H false ds xs as->RepA K H true ds xs as
 |[],_,_,h=>by unfold RepA at h ⊢;exact h
 |d::ds,_,_,h=>by
  unfold RepA at h ⊢;obtain⟨x,r,bs,cs,e1,e2,h1,h2⟩:=h;exact⟨x,r,bs,cs,e1,e2,RepL.wk h1,RepA.wk h2⟩
theorem RepP.wk : ∀{ds : List (D × D)} {xs : List V} {as : List Addr}, RepP K H false ds xs as -> RepP K H true ds xs as
  | [], _, _, h=>by unfold RepP at h ⊢; exact h
  | (q, d)::ds, _, _, h=>by
    unfold RepP at h ⊢;obtain⟨x, r, bs, cs, e1, e2, h1, h2⟩:= h;exact⟨x, r, bs, cs, e1, e2, RepL.wk h1, RepP.wk h2⟩
end
mutual
theorem RepL.al{g:Bool}:∀{d:D} {v:V} {as:List Addr},RepL K H g d v as->∀a∈as,(∃xs,H a=some (.lst xs))\/(∃ φ,H a=some (.ext φ))\/∃ax,H a=some (.dK ax)
 | .non,_,_,h=>by unfold RepL at h;rw[h.2];exact λ_ z=>nomatch z
 | .bl _,_,_,h=>by unfold RepL at h;rw[h.2];exact λ_ z=>nomatch z
 | .int _,_,_,h=>by unfold RepL at h;rw[h.2];exact λ_ z=>nomatch z
 | .str _,_,_,h=>by unfold RepL at h;rw[h.2.1];exact λ_ z=>nomatch z
 | .tup ds,_,_,h=>by
  unfold RepL at h;obtain⟨a,xs,e,s,r⟩:=h;exact RepA.al r
 | .lst ds,_,_,h=>by
  unfold RepL at h;obtain⟨a,xs,bs,e,r,q⟩:=h;rcases q with⟨h1,rfl⟩|⟨_,_,rfl⟩
  ·intro b hb;rcases List.mem_cons.mp hb with rfl|hb
   ·exact .inl ⟨_,h1⟩
   ·exact RepA.al r b hb
  ·exact RepA.al r
 | .dct ax,_,_,h=>by
  unfold RepL at h;obtain⟨a,xs,bs,e,r,q,rfl⟩:=h;intro b hb;rcases List.mem_cons.mp hb with rfl|hb
  ·rcases q with⟨es,ep,q,_⟩|⟨kv,m,q,_⟩
   ·exact .inr (.inl ⟨_,q⟩)
   ·exact .inr (.inr ⟨_,q⟩)
  ·exact RepP.al r b hb
 |.obj _ _,_,_,h=>by unfold RepL at h;rw[h.1];exact λ_ z=>nomatch z
theorem RepA.al{g:Bool}:∀{ds:List D} {xs:List V} {as:List Addr},RepA K H g ds xs as->∀a∈as,(∃xs,H a=some (.lst xs))\/(∃ φ,H a=some (.ext φ))\/∃ax,H a=some (.dK ax)
 |[],_,_,h=>by unfold RepA at h;rw[h.2];exact λ_ z=>nomatch z
 |d::ds,_,_,h=>by
  unfold RepA at h;obtain⟨x,r,bs,cs,e1,rfl,h1,h2⟩:=h;intro a ha;rcases List.mem_append.mp ha with ha|ha
  ·exact RepL.al h1 a ha
  ·exact RepA.al h2 a ha
theorem RepP.al{g : Bool}: ∀{ds : List (D × D)} {xs : List V} {as : List Addr}, RepP K H g ds xs as -> ∀a ∈ as, (∃xs, H a = some (.lst xs)) \/ (∃ φ, H a = some (.ext φ)) \/ ∃ax, H a = some (.dK ax)
  | [], _, _, h=>by unfold RepP at h; rw[h.2]; exact λ_ z=>nomatch z
  | (_, d)::ds, _, _, h=>by
    unfold RepP at h;obtain⟨x, r, bs, cs, e1, rfl, h1, h2⟩:= h;intro a ha;rcases List.mem_append.mp ha with ha|ha
    · exact RepL.al h1 a ha
    · exact RepP.al h2 a ha
end
mutual
theorem RepL.pu{g g':Bool}:∀{d:D} {v:V} {as:List Addr},RepL K H g d v as->d.pure=true->as=[]/\RepL K H g' d v []
 |.non,_,_,h,_=>by unfold RepL at h ⊢;exact⟨h.2,h.1,rfl⟩
 |.bl _,_,_,h,_=>by unfold RepL at h ⊢;exact⟨h.2,h.1,rfl⟩
 |.int _,_,_,h,_=>by unfold RepL at h ⊢;exact⟨h.2,h.1,rfl⟩
 |.str _,_,_,h,_=>by unfold RepL at h ⊢;exact⟨h.2.1,h.1,rfl,h.2.2⟩
 |.tup ds,_,_,h,p=>by
  unfold RepL at h ⊢;obtain⟨a,xs,e,s,r⟩:=h;obtain⟨z,r'⟩:=RepA.pu (g':=g') r (by unfold D.pure at p;exact p);exact⟨z,a,xs,e,s,r'⟩
 |.lst ds,_,_,h,p=>by unfold D.pure at p;cases p
 |.dct ds,_,_,h,p=>by unfold D.pure at p;cases p
 |.obj _ _,_,_,h,p=>by unfold D.pure at p;cases p
theorem RepA.pu{g g':Bool}:∀{ds:List D} {xs:List V} {as:List Addr},RepA K H g ds xs as->D.pures ds=true->as=[]/\RepA K H g' ds xs []
 |[],_,_,h,_=>by unfold RepA at h ⊢;exact⟨h.2,h.1,rfl⟩
 |d::ds,_,_,h,p=>by
  unfold RepA at h ⊢;unfold D.pures at p;rw[Bool.and_eq_true]at p;obtain⟨x,r,bs,cs,e1,rfl,h1,h2⟩:=h;obtain⟨rfl,q1⟩:=RepL.pu (g':=g') h1 p.1;obtain⟨rfl,q2⟩:=RepA.pu (g':=g') h2 p.2;exact⟨rfl,x,r,[],[],e1,rfl,q1,q2⟩
end
theorem RepR.wk:∀{d:D} {v:V} {as:List Addr},RepR K H d v as->RepL K H true d v as
 |.lst ds,_,_,h=>by
  obtain⟨a,xs,bs,e,r,q,z⟩:=h;unfold RepL;exact⟨a,xs,bs,e,r,.inl ⟨q,z⟩⟩
 |.dct ax,_,_,h=>by
  obtain⟨a,xs,bs,e,r,q,z⟩:=h;unfold RepL;exact⟨a,xs,bs,e,r,q,z⟩
theorem RepR.kp:∀{d:D} {v:V} {as:List Addr},RepR K H d v as->Kp H H' as->RepR K H' d v as
 |.lst ds,_,_,h,k=>by
  obtain⟨a,xs,bs,e,r,q,rfl⟩:=h;exact⟨a,xs,bs,e,r.kp k.tail,k.2.2 a X3 _ q,rfl⟩
 |.dct ax,_,_,h,k=>by
  obtain⟨a,xs,bs,e,r,q,rfl⟩:=h;exact⟨a,xs,bs,e,r.kp k.tail,k.dca q,rfl⟩
theorem RepO.wk:∀{o:Own} {d:D} {v:V} {as:List Addr},RepO K H o d v as->RepL K H true d v as
 |.no,_,_,_,h=>h
 |.rt,_,_,_,h=>RepR.wk h
 |.dp,_,_,_,h=>RepL.wk h
theorem RepO.kp:∀{o:Own} {d:D} {v:V} {as:List Addr},RepO K H o d v as->Kp H H' as->RepO K H' o d v as
 |.no,_,_,_,h,k=>RepL.kp h k
 |.rt,_,_,_,h,k=>RepR.kp h k
 |.dp,_,_,_,h,k=>RepL.kp h k
end
structure Sl where
 o:Own
 d:D
 v:V
 as:List Addr
def Sl.own(x:Sl):List Addr:=match x.o with
 |.no=>[]
 |.rt=>x.as.take 1
 |.dp=>x.as
def Sl.frz(x:Sl):List Addr:=match x.o with
 |.no=>x.as
 |.rt=>x.as.drop 1
 |.dp=>[]
theorem Sl.parts(x:Sl):x.own++x.frz=x.as:=by
 unfold Sl.own Sl.frz;cases x.o with
 |no=>rfl
 |rt=>exact List.take_append_drop 1 x.as
 |dp=>exact Xs _
theorem Sl.own_as{x:Sl}{a:Addr}(h:a∈x.own):a∈x.as:=by rw[<-x.parts];exact ll9 _ h
theorem Sl.frz_as{x:Sl}{a:Addr}(h:a∈x.frz):a∈x.as:=by rw[<-x.parts];exact lr9 _ h
theorem Sl.as_of{x:Sl}{a:Addr}(h:a∈x.as):a∈x.own\/a∈x.frz:=by rw[<-x.parts]at h;exact List.mem_append.mp h
def Sl.let(x:Sl):Sl:={ x with o:=.no }
abbrev Ls:=List (Option Sl)
def jk(L:Ls):List Addr:=L.flatMap λx=>x.elim [] Sl.own
def jX(L:Ls):List Addr:=L.flatMap λx=>x.elim [] Sl.frz
@[simp] theorem vjm:jk []=[]:=rfl
@[simp] theorem qxl:jX []=[]:=rfl
@[simp] theorem k7 (x:Sl)(L:Ls):jk (some x::L)=x.own++jk L:=by simp[jk]
@[simp] theorem qq (x:Sl)(L:Ls):jX (some x::L)=x.frz++jX L:=by simp[jX]
@[simp] theorem kw3 (L:Ls):jk (none::L)=jk L:=by simp[jk]
@[simp] theorem kq6 (L:Ls):jX (none::L)=jX L:=by simp[jX]
@[simp] theorem jQ (L T:Ls):jk (L++T)=jk L++jk T:=by simp[jk]
@[simp] theorem kJ (L T:Ls):jX (L++T)=jX L++jX T:=by simp[jX]
theorem mem_owned{L:Ls}{a:Addr}:a∈jk L↔∃x,some x∈L/\a∈x.own:=by
 unfold jk;rw[List.mem_flatMap];constructor
 ·rintro ⟨y,hy,h⟩;cases y with
  |none=>exact nomatch h
  |some x=>exact⟨x,hy,h⟩
 ·rintro ⟨x,hx,h⟩;exact⟨some x,hx,h⟩
theorem mem_frozen{L:Ls}{a:Addr}:a∈jX L↔∃x,some x∈L/\a∈x.frz:=by
 unfold jX;rw[List.mem_flatMap];constructor
 ·rintro ⟨y,hy,h⟩;cases y with
  |none=>exact nomatch h
  |some x=>exact⟨x,hy,h⟩
 ·rintro ⟨x,hx,h⟩;exact⟨some x,hx,h⟩
def Sl.ok(K:PySem.W.Frag)(H:Hp)(x:Sl):Prop:=RepO K H x.o x.d x.v x.as
theorem Sl.ok.al{K:PySem.W.Frag}{H:Hp}{x:Sl}(h:x.ok K H):∀a∈x.as,(∃xs,H a=some (.lst xs))\/(∃ φ,H a=some (.ext φ))\/∃ax,H a=some (.dK ax):=(RepO.wk h).al
theorem Sl.ok.some{K:PySem.W.Frag}{H:Hp}{x:Sl}(h:x.ok K H){a:Addr}(ha:a∈x.as):H a≠none:=λz=>by
 rcases h.al a ha with⟨xs,e⟩|⟨xs,e⟩|⟨xs,e⟩<;>(rw[z]at e;cases e)
structure World (K:PySem.W.Frag)(H:Hp)(L:Ls):Prop where
 ok:∀x,some x∈L->x.ok K H
 nd:(jk L).Nodup
 ds:∀a∈jk L,a∉jX L
structure Step (H:Hp)(L:Ls)(H':Hp)(L':Ls):Prop where
 keep:∀a ob,H a=some ob->a∉jk L->H' a=some ob
 own:∀a∈jk L',a∈jk L\/H a=none
 frz:∀a∈jX L',a∈jX L\/a∈jk L\/H a=none
section
variable {K:PySem.W.Frag}{H H1 H2 H':Hp}{L L1 L2' L' T:Ls}{x y:Sl}
theorem World.own_al(w:World K H L){a:Addr}(h:a∈jk L):(∃xs,H a=some (.lst xs))\/(∃ φ,H a=some (.ext φ))\/∃ax,H a=some (.dK ax):=by
 obtain⟨x,hx,ha⟩:=mem_owned.mp h;exact(w.ok x hx).al a (Sl.own_as ha)
theorem World.own_some(w:World K H L){a:Addr}(h:a∈jk L):H a≠none:=by
 obtain⟨x,hx,ha⟩:=mem_owned.mp h;exact(w.ok x hx).some (Sl.own_as ha)
theorem World.frz_some(w:World K H L){a:Addr}(h:a∈jX L):H a≠none:=by
 obtain⟨x,hx,ha⟩:=mem_frozen.mp h;exact(w.ok x hx).some (Sl.frz_as ha)
theorem Step.refl:Step H L H L:=⟨λ_ _ h _=>h,λ_ h=>.inl h,λ_ h=>.inl h⟩
theorem Step.trans(a:Step H L H1 L1)(b:Step H1 L1 H2 L2'):Step H L H2 L2' where
 keep:=λc ob h hn=>b.keep c ob (a.keep c ob h hn) λz=>(a.own c z).elim hn λe=>by rw[h]at e;cases e
 own:=λc hc=>by
  rcases b.own c hc with z|z
  ·exact a.own c z
  ·by_cases h:c∈jk L
   ·exact .inl h
   ·refine .inr ?_;cases e:H c with
    |none=>rfl
    |some ob=>rw[a.keep c ob e h]at z;cases z
 frz:=λc hc=>by
  rcases b.frz c hc with z|z|z
  ·exact a.frz c z
  ·exact .inr (a.own c z)
  ·by_cases h:c∈jk L
   ·exact .inr (.inl h)
   ·refine .inr (.inr ?_);cases e:H c with
    |none=>rfl
    |some ob=>rw[a.keep c ob e h]at z;cases z
theorem Step.kp(a:Step H L H' L')(w:World K H L){as:List Addr}(h:∀b∈as,b∉jk L):Kp H H' as:=by
 have no:∀b ob,H b=some ob->(∀xs,ob≠.lst xs)->(∀ φ,ob≠.ext φ)->(∀ax,ob≠.dK ax)->H' b=some ob:=λb ob e h1 h2 h3=>a.keep b ob e λz=>by
  rcases w.own_al z with⟨xs,q⟩|⟨es,q⟩|⟨es,q⟩
  ·rw[e]at q;cases q;exact h1 _ rfl
  ·rw[e]at q;cases q;exact h2 _ rfl
  ·rw[e]at q;cases q;exact h3 _ rfl
 exact⟨λb xs e=>no b _ e (λ_ z=>(nomatch z)) (λ_ z=>(nomatch z)) (λ_ z=>(nomatch z)),λb o u e=>no b _ e (λ_ z=>(nomatch z)) (λ_ z=>(nomatch z)) (λ_ z=>(nomatch z)),λb hb ob e=>a.keep b ob e (h b hb)⟩
theorem Step.frame(a:Step H L H' L')(w:World K H (L++T))(w':World K H' L')(wL:World K H L):World K H' (L'++T):=by
 have nd:=w.nd;rw [jQ,Xd]at nd;have dis:∀b∈jk L,b∉jk T:=λb hb hT=>nd.2.2 b hb b hT rfl
 have fk:∀x,some x∈T->x.ok K H:=λx hx=>w.ok x (lr9 _ hx)
 have nT:∀x,some x∈T->∀b∈x.as,b∉jk L:=λx hx b hb hL=>by
  rcases Sl.as_of hb with z|z
  ·exact dis b hL (mem_owned.mpr ⟨x,hx,z⟩)
  ·refine w.ds b (by rw[jQ];exact ll9 _ hL) ?_;rw[kJ];exact lr9 _ (mem_frozen.mpr ⟨x,hx,z⟩)
 refine⟨λx hx=>?_,?_,λb hb=>?_⟩
 ·rcases List.mem_append.mp hx with hx|hx
  ·exact w'.ok x hx
  ·exact(fk x hx).kp (a.kp wL (nT x hx))
 ·rw[jQ,Xd];refine⟨w'.nd,nd.2.1,λb hb c hc e=>?_⟩;subst e;obtain⟨x,hx,du⟩:=mem_owned.mp hc;rcases a.own b hb with z|z
  ·exact dis b z hc
  ·exact(fk x hx).some (Sl.own_as du) z
 ·rw[jQ]at hb;rw[kJ];intro hf;rcases List.mem_append.mp hb with hb|hb
  ·rcases List.mem_append.mp hf with hf|hf
   ·exact w'.ds b hb hf
   ·obtain⟨x,hx,du⟩:=mem_frozen.mp hf;rcases a.own b hb with z|z
    ·exact nT x hx b (Sl.frz_as du) z
    ·exact(fk x hx).some (Sl.frz_as du) z
  ·rcases List.mem_append.mp hf with hf|hf
   ·obtain⟨x,hx,du⟩:=mem_owned.mp hb;rcases a.frz b hf with z|z|z
    ·exact w.ds b (by rw[jQ];exact lr9 _ hb) (by rw[kJ];exact ll9 _ z)
    ·exact dis b z hb
    ·exact(fk x hx).some (Sl.own_as du) z
   ·exact w.ds b (by rw[jQ];exact lr9 _ hb) (by rw[kJ];exact lr9 _ hf)
theorem World.left(w:World K H (L++T)):World K H L:=by
 have nd:=w.nd;rw[jQ,Xd]at nd;exact⟨λx hx=>w.ok x (ll9 _ hx),nd.1,λa ha hf=>w.ds a (by rw[jQ];exact ll9 _ ha) (by rw[kJ];exact ll9 _ hf)⟩
theorem World.right(w:World K H (L++T)):World K H T:=by
 have nd:=w.nd;rw[jQ,Xd]at nd;exact⟨λx hx=>w.ok x (lr9 _ hx),nd.2.1,λa ha hf=>w.ds a (by rw[jQ];exact lr9 _ ha) (by rw[kJ];exact lr9 _ hf)⟩
theorem World.comm(w:World K H (L++T)):World K H (T++L):=by
 refine⟨λx hx=>w.ok x ?_,?_,λa ha hf=>w.ds a ?_ ?_⟩
 ·rcases List.mem_append.mp hx with h|h
  ·exact lr9 _ h
  ·exact ll9 _ h
 ·have nd:=w.nd;rw[jQ,Xd]at nd ⊢;exact⟨nd.2.1,nd.1,λa ha b hb e=>nd.2.2 b hb a ha e.symm⟩
 ·rw[jQ]at ha ⊢;rcases List.mem_append.mp ha with h|h
  ·exact lr9 _ h
  ·exact ll9 _ h
 ·rw[kJ]at hf ⊢;rcases List.mem_append.mp hf with h|h
  ·exact lr9 _ h
  ·exact ll9 _ h
theorem World.tail{q:Option Sl}(w:World K H (q::L)):World K H L:=World.right (L:=[q]) w
theorem World.head(w:World K H (some x::L)):x.ok K H:=w.ok x X3
theorem World.apart(w:World K H (some x::L)):∀a∈x.as,a∉jk L:=λa ha hL=>by
 rcases Sl.as_of ha with z|z
 ·have nd:=w.nd;rw[k7,Xd]at nd;exact nd.2.2 a z a hL rfl
 ·exact w.ds a (by rw[k7];exact lr9 _ hL) (by rw[qq];exact ll9 _ z)
theorem World.cons(w:World K H L)(h:x.ok K H)(n:x.own.Nodup)(h1:∀a∈x.own,a∉jk L)(h2:∀a∈x.own,a∉jX L)(h3:∀a∈x.frz,a∉jk L)(h4:∀a∈x.own,a∉x.frz):World K H (some x::L):=by
 refine⟨λy hy=>?_,?_,λa ha hf=>?_⟩
 ·rcases List.mem_cons.mp hy with z|z
  ·cases z;exact h
  ·exact w.ok y z
 ·rw[k7,Xd];exact⟨n,w.nd,λa ha b hb e=>by subst e;exact h1 a ha hb⟩
 ·rw[k7]at ha;rw[qq]at hf;rcases List.mem_append.mp ha with ha|ha
  ·rcases List.mem_append.mp hf with hf|hf
   ·exact h4 a ha hf
   ·exact h2 a ha hf
  ·rcases List.mem_append.mp hf with hf|hf
   ·exact h3 a hf ha
   ·exact w.ds a ha hf
theorem World.consNo(w:World K H L)(h:x.ok K H)(ho:x.o=.no)(h3:∀a∈x.as,a∉jk L):World K H (some x::L):=by
 have e1:x.own=[]:=by unfold Sl.own;rw[ho]
 have e2:x.frz=x.as:=by unfold Sl.frz;rw[ho]
 exact w.cons h (by rw[e1];exact Y1) (by rw[e1];exact λ_ z=>nomatch z) (by rw[e1];exact λ_ z=>nomatch z) (by rw[e2];exact h3) (by rw[e1];exact λ_ z=>nomatch z)
theorem World.consPu(w:World K H L)(h:x.ok K H)(e:x.as=[]):World K H (some x::L):=by
 have e1:∀a,a∉x.own:=λa ha=>by have:=Sl.own_as ha;rw[e]at this;exact nomatch this
 have e2:∀a,a∉x.frz:=λa ha=>by have:=Sl.frz_as ha;rw[e]at this;exact nomatch this
 have e3:x.own=[]:=List.eq_nil_iff_forall_not_mem.mpr e1;exact w.cons h (by rw[e3];exact Y1) (λa z=>absurd z (e1 a)) (λa z=>absurd z (e1 a)) (λa z=>absurd z (e2 a)) (λa z=>absurd z (e1 a))
theorem Z4{L:Ls}{i:Nat}{q:Option Sl}(h:some y∈L.set i q):q=some y\/some y∈L:=by
 rcases List.mem_or_eq_of_mem_set h with z|z
 ·exact .inr z
 ·exact .inl z.symm
theorem Q0{i:Nat}{a:Addr}(h:a∈jk (L.set i (some x))):a∈x.own\/a∈jk L:=by
 obtain⟨y,hy,ha⟩:=mem_owned.mp h;rcases Z4 hy with z|z
 ·cases z;exact .inl ha
 ·exact .inr (mem_owned.mpr ⟨y,z,ha⟩)
theorem Vx{i:Nat}{a:Addr}(h:a∈jX (L.set i (some x))):a∈x.frz\/a∈jX L:=by
 obtain⟨y,hy,ha⟩:=mem_frozen.mp h;rcases Z4 hy with z|z
 ·cases z;exact .inl ha
 ·exact .inr (mem_frozen.mpr ⟨y,z,ha⟩)
theorem jkw:∀{L:Ls} {i:Nat},(x.own++jk L).Nodup->(jk (L.set i (some x))).Nodup
 |[],_,h=>by simp
 |q::L,0,h=>by
  rw[List.set_cons_zero,k7];have e:jk (q::L)=q.elim [] Sl.own++jk L:=by simp[jk]
  rw[e,Xd]at h;obtain⟨h1,h2,h3⟩:=h;rw[Xd]at h2 ⊢;exact⟨h1,h2.2.1,λa ha b hb=>h3 a ha b (lr9 _ hb)⟩
 |q::L,i+1,h=>by
  rw[List.set_cons_succ];have e:∀M:Ls,jk (q::M)=q.elim [] Sl.own++jk M:=λM=>by simp[jk]
  rw[e]at h ⊢;rw[Xd]at h;obtain⟨h1,h2,h3⟩:=h;rw[Xd]at h2;rw[Xd];refine⟨h2.1,jkw (by rw[Xd];exact⟨h1,h2.2.1,λa ha b hb=>h3 a ha b (lr9 _ hb)⟩),λa ha b hb e=>?_⟩;subst e;rcases Q0 hb with z|z
  ·exact h3 a z a (ll9 _ ha) rfl
  ·exact h2.2.2 a ha a z rfl
theorem World.set{i:Nat}(w:World K H (some x::L)):World K H (L.set i (some x)):=by
 refine⟨λy hy=>?_,jkw (by have:=w.nd;rwa [k7]at this),λa ha hf=>?_⟩
 ·rcases Z4 hy with z|z
  ·cases z;exact w.head
  ·exact w.ok y (lc9 _ z)
 ·refine w.ds a ?_ ?_
  ·rw[k7];exact List.mem_append.mpr (Q0 ha)
  ·rw[qq];exact List.mem_append.mpr (Vx hf)
theorem Step.set{i:Nat}:Step H (some x::L) H (L.set i (some x)) where
 keep:=λ_ _ h _=>h
 own:=λa ha=>.inl (by rw[k7];exact List.mem_append.mpr (Q0 ha))
 frz:=λa ha=>.inl (by rw[qq];exact List.mem_append.mpr (Vx ha))
theorem Step.drop{q:Option Sl}:Step H (q::L) H L where
 keep:=λ_ _ h _=>h
 own:=λa ha=>.inl (by rw[show(q::L:Ls)=[q]++L from rfl,jQ];exact lr9 _ ha)
 frz:=λa ha=>.inl (by rw[show(q::L:Ls)=[q]++L from rfl,kJ];exact lr9 _ ha)
theorem wX{i:Nat}(h:L[i]?=some (some x)):some x∈L:=List.mem_of_getElem? h
theorem J4(x:Sl):x.let.own=[]/\x.let.frz=x.as/\x.let.as=x.as:=⟨rfl,rfl,rfl⟩
theorem kjq{i:Nat}{a:Addr}(h:a∈jk (L.set i (some x.let))):a∈jk L:=by
 rcases Q0 h with z|z
 ·exact nomatch z
 ·exact z
theorem kq1:∀{L:Ls} {i:Nat},(jk L).Nodup->(∀a∈jk L,a∉jX L)->L[i]?=some (some x)->∀a∈x.as,a∉jk (L.set i (some x.let))
 | [],_,_,_,h,_,_=>by simp at h
 | q::L,0,nd,ds,h,a,ha=>by
  have e:q=some x:=by simpa using h
  subst e;rw[List.set_cons_zero,k7];intro hm;have hm:a∈jk L:=by simpa [J4]using hm
  rcases Sl.as_of ha with z|z
  ·rw[k7,Xd]at nd;exact nd.2.2 a z a hm rfl
  ·exact ds a (by rw[k7];exact lr9 _ hm) (by rw[qq];exact ll9 _ z)
 | q::L,i+1,nd,ds,h,a,ha=>by
  have h:L[i]?=some (some x):=by simpa using h
  rw[List.set_cons_succ];have e:∀M:Ls,jk (q::M)=q.elim [] Sl.own++jk M:=λM=>by simp[jk]
  have f:jX (q::L)=q.elim [] Sl.frz++jX L:=by simp[jX]
  rw[e];intro hm;rw[e,Xd]at nd;rcases List.mem_append.mp hm with hm|hm
  ·rcases Sl.as_of ha with z|z
   ·exact nd.2.2 a hm a (mem_owned.mpr ⟨x,wX h,z⟩) rfl
   ·exact ds a (by rw[e];exact ll9 _ hm) (by rw[f];exact lr9 _ (mem_frozen.mpr ⟨x,wX h,z⟩))
  ·exact kq1 (L:=L) nd.2.1 (λb hb hf=>ds b (by rw[e];exact lr9 _ hb) (by rw[f];exact lr9 _ hf)) h a ha hm
theorem K1(h:x.ok K H):x.let.ok K H:=RepO.wk h
theorem World.let{i:Nat}(w:World K H L)(h:L[i]?=some (some x)):World K H (L.set i (some x.let)):=by
 have out:=kq1 w.nd w.ds h;refine⟨λy hy=>?_,jkw (by rw[(J4 x).1];exact w.nd),λa ha hf=>?_⟩
 ·rcases Z4 hy with z|z
  ·cases z;exact K1 (w.ok x (wX h))
  ·exact w.ok y z
 ·rcases Vx hf with z|z
  ·exact out a z ha
  ·exact w.ds a (kjq ha) z
theorem World.read{i:Nat}(w:World K H L)(h:L[i]?=some (some x)):World K H (some x.let::L.set i (some x.let)):=
 (w.let h).consNo (K1 (w.ok x (wX h))) rfl (kq1 (x:=x) w.nd w.ds h)
theorem Step.read{i:Nat}(h:L[i]?=some (some x)):Step H L H (some x.let::L.set i (some x.let)) where
 keep:=λ_ _ h _=>h
 own:=λa ha=>.inl (by rw[k7,(J4 x).1]at ha;exact kjq ha)
 frz:=λa ha=>by
  have hx:=wX h;have q:∀a∈x.as,a∈jX L\/a∈jk L\/H a=none:=λa ha=>by
   rcases Sl.as_of ha with z|z
   ·exact .inr (.inl (mem_owned.mpr ⟨x,hx,z⟩))
   ·exact .inl (mem_frozen.mpr ⟨x,hx,z⟩)
  rw[qq]at ha;rcases List.mem_append.mp ha with z|z
  ·exact q a z
  ·rcases Vx z with z|z
   ·exact q a z
   ·exact .inl z
end
inductive Mt:En->L2.St->Ls->Prop
 |nil:Mt [] [] []
 |un {E:En} {σ:L2.St} {L:Ls} {y:Option V}:Mt E σ L->Mt (none::E) (y :: σ) (none::L)
 |cons {E:En} {σ:L2.St} {L:Ls} {x:Sl}:Mt E σ L->Mt (some (x.o,x.d)::E) (some x.v :: σ) (some x::L)
theorem Mt.get:∀{E:En} {σ:L2.St} {L:Ls} {i:Nat} {o:Own} {d:D},Mt E σ L->E[i]?=some (some (o,d))->∃x,L[i]?=some (some x)/\x.o=o/\x.d=d/\σ[i]?=some (some x.v)
 |_,_,_,_,_,_,.nil,h=>by simp at h
 |_,_,_,0,_,_,.un _,h=>by simp at h
 |_,_,_,i+1,_,_,.un m,h=>by simpa using m.get (i:=i) (by simpa using h)
 |_,_,_,0,_,_,.cons (x:=x) m,h=>by
  simp only[List.getElem?_cons_zero,Option.some.injEq,Prod.mk.injEq]at h;exact⟨x,by simp,h.1,h.2,by simp⟩
 |_,_,_,i+1,_,_,.cons m,h=>by simpa using m.get (i:=i) (by simpa using h)
theorem Mt.set{x:Sl}:∀{E:En} {σ:L2.St} {L:Ls} (i:Nat),Mt E σ L->Mt (E.set i (some (x.o,x.d))) (σ.set i (some x.v)) (L.set i (some x))
 |_,_,_,_,.nil=>.nil
 |_,_,_,0,.un m=>.cons m
 |_,_,_,i+1,.un m=>.un (m.set i)
 |_,_,_,0,.cons m=>.cons m
 |_,_,_,i+1,.cons m=>.cons (m.set i)
theorem Mt.let{x:Sl}:∀{E:En} {σ:L2.St} {L:Ls} {i:Nat},Mt E σ L->L[i]?=some (some x)->Mt (E.set i (some (.no,x.d))) σ (L.set i (some x.let))
 |_,_,_,_,.nil,h=>by simp at h
 |_,_,_,0,.un m,h=>by simp at h
 |_,_,_,i+1,.un m,h=>.un (m.let (i:=i) (by simpa using h))
 |_,_,_,0,.cons (x:=y) m,h=>by
  have e:y=x:=by simpa using h
  subst e;exact .cons (x:=y.let) m
 |_,_,_,i+1,.cons m,h=>.cons (m.let (i:=i) (by simpa using h))
theorem Mt.len:∀{E:En} {σ:L2.St} {L:Ls},Mt E σ L->E.length=σ.length/\L.length=σ.length
 |_,_,_,.nil=>⟨rfl,rfl⟩
 |_,_,_,.un m=>by simp[m.len]
 |_,_,_,.cons m=>by simp[m.len]
def sls(L:Ls):List Sl:=L.filterMap id
theorem zx(L:Ls):jk L=(sls L).flatMap Sl.own:=by
 induction L with
 |nil=>rfl
 |cons q L ih=>
  cases q with
  |none=>rw[kw3,ih];rfl
  |some x=>rw[k7,ih];rfl
theorem K0(L:Ls):jX L=(sls L).flatMap Sl.frz:=by
 induction L with
 |nil=>rfl
 |cons q L ih=>
  cases q with
  |none=>rw[kq6,ih];rfl
  |some x=>rw[qq,ih];rfl
theorem mem_sls{L:Ls}{x:Sl}:x∈sls L↔some x∈L:=by simp[sls]
@[simp] theorem Jx (L T:Ls):sls (L++T)=sls L++sls T:=by simp[sls]
@[simp] theorem qjg (L:Ls):sls (none::L)=sls L:=rfl
@[simp] theorem kqm (x:Sl)(L:Ls):sls (some x::L)=x::sls L:=rfl
@[simp] theorem vqx:sls []=[]:=rfl
@[simp] theorem vqy (T:List Sl):sls (T.map some)=T:=by simp[sls]
@[simp] theorem qvd (k:Nat):sls (List.replicate k none)=[]:=by
 induction k with
 |zero=>rfl
 |succ k ih=>rw[List.replicate_succ,qjg,ih]
theorem W5{α β:Type}(f:α->List β){l l':List α}(h:l.Sublist l'):(l.flatMap f).Sublist (l'.flatMap f):=by
 induction h with
 |slnil=>exact Yh _
 |cons a _ ih=>rw[List.flatMap_cons];exact List.Sublist.trans ih (List.sublist_append_right _ _)
 |cons_cons a _ ih=>rw[List.flatMap_cons,List.flatMap_cons];exact List.Sublist.append (Yh _) ih
section
variable {K:PySem.W.Frag}{H H':Hp}{L L' M M':Ls}
theorem World.same(w:World K H L)(p:(sls L).Perm (sls L')):World K H L':=by
 have po:(jk L).Perm (jk L'):=by rw[zx,zx];exact p.flatMap_right _
 have pf:(jX L).Perm (jX L'):=by rw[K0,K0];exact p.flatMap_right _
 exact⟨λx hx=>w.ok x (mem_sls.mp (p.mem_iff.mpr (mem_sls.mpr hx))),po.nodup_iff.mp w.nd,λa ha hf=>w.ds a (po.mem_iff.mpr ha) (pf.mem_iff.mpr hf)⟩
theorem Step.same(s:Step H L H' L')(p:(sls L).Perm (sls M))(p':(sls L').Perm (sls M')):Step H M H' M':=by
 have po:(jk L).Perm (jk M):=by rw[zx,zx];exact p.flatMap_right _
 have pf:(jX L).Perm (jX M):=by rw[K0,K0];exact p.flatMap_right _
 have po':(jk L').Perm (jk M'):=by rw[zx,zx];exact p'.flatMap_right _
 have pf':(jX L').Perm (jX M'):=by rw[K0,K0];exact p'.flatMap_right _
 exact⟨λa ob h hn=>s.keep a ob h λz=>hn (po.mem_iff.mp z),λa ha=>(s.own a (po'.mem_iff.mpr ha)).imp (λz=>po.mem_iff.mp z) id,
  λa ha=>(s.frz a (pf'.mem_iff.mpr ha)).imp (λz=>pf.mem_iff.mp z) λz=>z.imp (λz=>po.mem_iff.mp z) id⟩
theorem World.sub(w:World K H L)(p:(sls L').Sublist (sls L)):World K H L':=by
 refine⟨λx hx=>w.ok x (mem_sls.mp (p.subset (mem_sls.mpr hx))),?_,λa ha hf=>w.ds a ?_ ?_⟩
 ·have:=w.nd;rw[zx]at this ⊢;exact(W5 _ p).nodup this
 ·rw[zx]at ha ⊢;exact(W5 _ p).subset ha
 ·rw[K0]at hf ⊢;exact(W5 _ p).subset hf
theorem Step.sub(s:Step H L H' L')(p:(sls M).Sublist (sls L')):Step H L H' M:=by
 refine⟨s.keep,λa ha=>s.own a ?_,λa ha=>s.frz a ?_⟩
 ·rw[zx]at ha ⊢;exact(W5 _ p).subset ha
 ·rw[K0]at ha ⊢;exact(W5 _ p).subset ha
end
theorem jvs:∀{L:Ls} {j:Nat},(sls (at' L j::L.set j none)).Perm (sls L)
 | [],j=>by simp[at',sls]
 | q::L,0=>by
  cases q with
  |none=>simp[at',sls]
  |some x=>simp[at',sls]
 | q::L,j+1=>by
  have ih:=jvs (L:=L) (j:=j);have e:at' (q::L) (j+1)=at' L j:=by simp[at']
  rw[e,List.set_cons_succ];have e2:∀(a b:Option Sl) (M:Ls),(sls (a::b::M)).Perm (sls (b::a::M)):=λa b M=>by
   cases a<;>cases b<;>simp[sls]
   exact List.Perm.swap ..
  refine(e2 _ _ _).trans ?_;cases q with
  |none=>simpa [sls]using ih
  |some y=>simpa [sls]using ih
theorem kvj:∀{R:List Nat} {L:Ls},R.Nodup->(sls (R.map (at' L)++clr R L)).Perm (sls L)
 | [],L,_=>by simp[clr]
 | j::R,L,h=>by
  rw[List.nodup_cons]at h;have e:R.map (at' L)=R.map (at' (L.set j none)):=by
   apply List.map_congr_left;intro i hi;have:j≠i:=λe=>h.1 (e▸hi)
   unfold at';rw[Xy this]
  rw[List.map_cons,List.cons_append,clr,e];have ih:=kvj (R:=R) (L:=L.set j none) h.2;refine List.Perm.trans ?_ (jvs (L:=L) (j:=j));cases hq:at' L j with
  |none=>simpa [sls]using ih
  |some x=>simpa [sls]using ih
theorem kzo{α:Type}:∀{R:List Nat} {L:List (Option α)},(clr R L).length=L.length
 |[],_=>rfl
 |j::R,L=>by rw[clr,kzo,List.length_set]
theorem kzp{α:Type}:∀{R:List Nat} {L:List (Option α)} {j:Nat},j∈R->at' (clr R L) j=none
 | [],_,_,h=>by cases h
 | i :: R,L,j,h=>by
  rw [clr]
  by_cases hR:j∈R
  ·exact kzp hR
  ·have e:j=i:=by simpa [hR]using h
   subst e;have gen:∀{R:List Nat} {M:List (Option α)},j∉R->at' (clr R M) j=at' M j:=by
    intro R
    induction R with
    |nil=>intro M _;rfl
    |cons r R ih=>
     intro M h;rw[Xu,not_or]at h;rw[clr,ih h.2];unfold at';rw[Xy (Ne.symm h.1)]
   rw[gen hR];unfold at'
   by_cases hl:j<L.length
   ·rw[Ya hl];rfl
   ·rw[List.set_eq_of_length_le (by omega),List.getElem?_eq_none (by omega)];rfl
theorem kkh:∀{R:List Nat} {B L:Ls},R.Nodup->(∀j∈R,at' L j=none)->(∀j∈R,j<L.length)->B.length=R.length->(sls (back R B L)).Perm (sls (B++L))
 | [],B,L,_,_,_,hl=>by
  have:B=[]:=by simpa using hl
  subst this;simp [back]
 | j :: R,[],L,_,_,_,hl=>by simp at hl
 | j :: R,q::B,L,hn,hz,hr,hl=>by
  rw [List.nodup_cons]at hn;rw [back];have hj:=hr j X3;have ih:=kkh (R:=R) (B:=B) (L:=L.set j q) hn.2 (λi hi=>by
   have:j≠i:=λe=>hn.1 (e▸hi)
   unfold at';rw [Xy this];exact hz i (lc9 _ hi)) (λi hi=>by rw[List.length_set];exact hr i (lc9 _ hi)) (by simpa using hl)
  refine ih.trans ?_;have sp:∀{M:Ls} {i:Nat},at' M i=none->i<M.length->(sls (M.set i q)).Perm (sls (q::M)):=by
   intro M
   induction M with
   | nil=>intro i _ h;simp at h
   | cons r M ihM=>
    intro i h1 h2;cases i with
    | zero=>
     have:r=none:=by simpa [at']using h1
     subst this;cases q<;>simp[sls]
    | succ i=>
     have:=ihM (i:=i) (by simpa [at']using h1) (by simpa using h2);rw[List.set_cons_succ];cases r with
     | none=>cases q<;>simpa [sls]using this
     | some y=>
      cases q with
      |none=>simpa [sls]using this
      |some x=>
       simp only[kqm]at this ⊢;exact(this.cons y).trans (List.Perm.swap ..)
  rw[Jx,List.cons_append];have h1:=sp (hz j X3) hj;have h2:(sls B++sls (L.set j q)).Perm (sls B++sls (q::L)):=h1.append_left _;refine h2.trans ?_;cases q with
  |none=>simp
  |some x=>
   simp only[kqm,Jx];exact List.perm_middle
section
variable {K:PySem.W.Frag}{H H1 H2 H':Hp}{L L1 L' T:Ls}{x y:Sl}
theorem Q2(p:L.Perm L'):(jk L).Perm (jk L'):=p.flatMap_right _
theorem jvj(p:L.Perm L'):(jX L).Perm (jX L'):=p.flatMap_right _
theorem World.perm(w:World K H L)(p:L.Perm L'):World K H L':=
 ⟨λx hx=>w.ok x (p.mem_iff.mpr hx),(Q2 p).nodup_iff.mp w.nd,λa ha hf=>w.ds a ((Q2 p).mem_iff.mpr ha) ((jvj p).mem_iff.mpr hf)⟩
theorem Step.perm(s : Step H L H' L'){M M' : Ls}(p : L.Perm M)(p' : L'.Perm M'): Step H M H' M':=
  ⟨λa ob h hn=>s.keep a ob h λz=>hn ((Q2 p).mem_iff.mp z),
   λa ha=>(s.own a ((Q2 p').mem_iff.mpr ha)).imp (λz=>(Q2 p).mem_iff.mp z) id,
   λa ha=>(s.frz a ((jvj p').mem_iff.mpr ha)).imp (λz=>(jvj p).mem_iff.mp z) λz=>z.imp (λz=>(Q2 p).mem_iff.mp z) id⟩
theorem Step.frm(s:Step H L H' L'):Step H (L++T) H' (L'++T) where
 keep:=λa ob h hn=>s.keep a ob h λz=>hn (by rw[jQ];exact ll9 _ z)
 own:=λa ha=>by
  rw[jQ]at ha ⊢;rcases List.mem_append.mp ha with z|z
  ·exact(s.own a z).imp (ll9 _) id
  ·exact .inl (lr9 _ z)
 frz:=λa ha=>by
  rw[kJ]at ha ⊢;rw[jQ];rcases List.mem_append.mp ha with z|z
  ·exact(s.frz a z).imp (ll9 _) λz=>z.imp (ll9 _) id
  ·exact .inl (lr9 _ z)
theorem vxc(w:World K H (T++L))(s:Step H L H' L')(w':World K H' L'):World K H' (T++L')/\Step H (T++L) H' (T++L'):=by
 have w1:World K H (L++T):=w.comm;exact⟨(s.frame w1 w' w1.left).comm,s.frm.perm List.perm_append_comm List.perm_append_comm⟩
end
theorem ex8{α β γ:Type}{P:Prop}{a b c d e:α->β->γ->Prop}(h:∃x y z,a x y z/\b x y z/\c x y z/\d x y z/\e x y z)(f:∀x y z,a x y z->b x y z->c x y z->d x y z->e x y z->P):P:=
 h.elim λx h=>h.elim λy h=>h.elim λz h=>f x y z h.1 h.2.1 h.2.2.1 h.2.2.2.1 h.2.2.2.2
theorem ex7{α β γ:Type}{P:Prop}{a b c d:α->β->γ->Prop}(h:∃x y z,a x y z/\b x y z/\c x y z/\d x y z)(f:∀x y z,a x y z->b x y z->c x y z->d x y z->P):P:=
 h.elim λx h=>h.elim λy h=>h.elim λz h=>f x y z h.1 h.2.1 h.2.2.1 h.2.2.2
theorem qj{X:Cx}{e:Expr}{t t':TE}(h:PE X e t)(w:∀ σ H Q,t' σ H Q->t σ H Q):PE X e t':=λpins s σ H Q I q=>h pins s σ H Q I (w σ H Q q)
theorem kqt{X:Cx}{e:Expr}{t t':TT}(h:PT X e t)(w:∀ σ H Q,t' σ H Q->t σ H Q):PT X e t':=λpins s σ H Q I q=>h pins s σ H Q I (w σ H Q q)
theorem zV{X:Cx}{e:Stmt}{t t':TS}(h:PS X e t)(w:∀D σ H,t' D σ H->t D σ H):PS X e t':=λpins s σ H D I q=>h pins s σ H D I (w D σ H q)
theorem kx4{X:Cx}{e:List Stmt}{t t':TS}(h:PSs X e t)(w:∀D σ H,t' D σ H->t D σ H):PSs X e t':=λpins s σ H D I q=>h pins s σ H D I (w D σ H q)
structure Fx0 where
 K:PySem.W.Frag
 mg:Str->Option Value
 EX:XK
noncomputable def Xc{α:Type}(Z:Fx0)(σ:L2.St)(H:Hp)(L:Ls)(r:Res α):Prop:=∀E' c,r=.exc E' c->∀C L' H',Z.mg c=some (.ref C)->Mt E' σ L'->World Z.K H' L'->Step H L H' L'->Z.EX (.ref C) none H'
theorem Xc.step{α:Type}{Z:Fx0}{σ:L2.St}{H H1:Hp}{L L1:Ls}{r:Res α}(x:Xc Z σ H L r)(s:Step H L H1 L1):Xc Z σ H1 L1 r:=λE' c e C L' H' hm m w s'=>x E' c e C L' H' hm m w (s.trans s')
theorem Xc.map{α β:Type}{Z:Fx0}{σ:L2.St}{H:Hp}{L:Ls}{r:Res α}{E':En}{c:Str}(x:Xc Z σ H L r)(e:r=.exc E' c):Xc Z σ H L (.exc E' c:Res β):=λE1 c1 e1=>by
 injection e1 with h1 h2;subst h1 h2;exact x _ _ e
noncomputable def tQ(Z:Fx0)(q:Bool)(c:Ex):TE:=fun σ H Q=>∃E L r,Mt E σ L/\World Z.K H L/\c E=some r/\Xc Z σ H L r /\
 ∀E' a,r=.ok E' a->∀(x:Sl) L' H',x.o=a.1->x.d=a.2->Mt E' σ L'->World Z.K H' (some x::L')->Step H L H' (some x::L')->(q=true->jZ H H'/\∀b∈x.own,H b=none)->Q x.v H'
def Src(H:Hp)(L:Ls)(as:List Addr):Prop:=∀b∈as,b∈jX L\/b∈jk L\/H b=none
theorem Src.back{H H1:Hp}{L L1:Ls}{as:List Addr}(h:Src H1 L1 as)(s:Step H L H1 L1):Src H L as:=λb hb=>by
 rcases h b hb with z|z|z
 ·exact s.frz b z
 ·exact .inr (s.own b z)
 ·by_cases ho:b∈jk L
  ·exact .inr (.inl ho)
  ·refine .inr (.inr ?_);cases e:H b with
   |none=>rfl
   |some ob=>rw[s.keep b ob e ho]at z;cases z
noncomputable def tV(Z:Fx0)(q:Bool)(c:Ex):TE:=fun σ H Q=>∃E L r,Mt E σ L/\World Z.K H L/\c E=some r/\Xc Z σ H L r /\
 ∀E' a,r=.ok E' a->∀(x:Sl) L' H',x.o=a.1->x.d=a.2->Mt E' σ L'->World Z.K H' L'->x.ok Z.K H'->(∀b∈x.frz,b∉jk L')->Src H L x.as->Step H L H' L'->(q=true->jZ H H')->Q x.v H'
def QE(X:Cx)(Z:Fx0)(q:Bool)(c:Ex)(e:Expr):Prop:=PE X e (tQ Z q c)
def QV(X:Cx)(Z:Fx0)(q:Bool)(c:Ex)(e:Expr):Prop:=PE X e (tV Z q c)
section
variable {X:Cx}{Z:Fx0}{q qa qb:Bool}{a b c:Ex}{e ea eb:Expr}{pos:Pos}{α:Type}{σ:L2.St}{H:Hp}{L:Ls}{E:En}
theorem vk{β:Type}{m:Option (Res α)}{F:En->α->Option (Res β)}{r:Res β}(h:bnd m F=some r):(∃E1 x,m=some (.ok E1 x)/\F E1 x=some r)\/∃E1 c,m=some (.exc E1 c)/\r=.exc E1 c:=by
 cases m with
 |none=>cases h
 |some q=>
  cases q with
  |ok E1 x=>exact .inl ⟨E1,x,rfl,h⟩
  |exc E1 c=>exact .inr ⟨E1,c,rfl,(oq9 h).symm⟩
theorem V8{F:En->Sd->Option (Res α)}{r:Res α}{G:VK}(m:Mt E σ L)(w:World Z.K H L)(h:bnd (a E) F=some r)(xc:Xc Z σ H L r)
  (k:∀E1 s,F E1 s=some r->∀(x:Sl) L1 H1,x.o=s.1->x.d=s.2->Mt E1 σ L1->World Z.K H1 (some x::L1)->Step H L H1 (some x::L1)->(q=true->jZ H H1/\∀b∈x.own,H b=none)->G x.v H1):tQ Z q a σ H G:=by
 rcases vk h with⟨E1,s,h1,h2⟩|⟨E1,c,h1,h2⟩
 ·exact⟨E,L,_,m,w,h1,(λ_ _ z=>by cases z),λE' s' z x L' H' e1 e2 m' w' st sm=>by
   injection z with z1 z2;subst z1 z2;exact k _ _ h2 x L' H' e1 e2 m' w' st sm⟩
 ·exact⟨E,L,_,m,w,h1,xc.map h2,λE' s' z=>by cases z⟩
theorem qW{F:En->Sd->Option (Res α)}{r:Res α}{G:VK}(m:Mt E σ L)(w:World Z.K H L)(h:bnd (a E) F=some r)(xc:Xc Z σ H L r)
  (k:∀E1 s,F E1 s=some r->∀(x:Sl) L1 H1,x.o=s.1->x.d=s.2->Mt E1 σ L1->World Z.K H1 L1->x.ok Z.K H1->(∀b∈x.frz,b∉jk L1)->Src H L x.as->Step H L H1 L1->(q=true->jZ H H1)->G x.v H1):tV Z q a σ H G:=by
 rcases vk h with⟨E1,s,h1,h2⟩|⟨E1,c,h1,h2⟩
 ·exact⟨E,L,_,m,w,h1,(λ_ _ z=>by cases z),λE' s' z x L' H' e1 e2 m' w' ok fr sr st sm=>by
   injection z with z1 z2;subst z1 z2;exact k _ _ h2 x L' H' e1 e2 m' w' ok fr sr st sm⟩
 ·exact⟨E,L,_,m,w,h1,xc.map h2,λE' s' z=>by cases z⟩
theorem QX{x:Sl}{K:PySem.W.Frag}{H1 H2:Hp}{L1 L2':Ls}(ok:x.ok K H1)(fr:∀b∈x.frz,b∉jk L1)(st:Step H1 L1 H2 L2')(sm:jZ H1 H2):x.ok K H2/\∀b∈x.frz,b∉jk L2':=
 ⟨RepO.kp ok (Kp.of_same sm),λb hb ho=>(st.own b ho).elim (fr b hb) λz=>ok.some (Sl.frz_as hb) z⟩
theorem wJ{x:Option α}{r:Res α}(h:val E x=some r):∃y,x=some y/\r=.ok E y:=by
 cases x with
 |none=>cases h
 |some y=>exact⟨y,rfl,(oq9 h).symm⟩
theorem jx0{x:Sl}{H1:Hp}{L1:Ls}(st:Step H L H1 (some x::L1)):Src H L x.as:=λb hb=>by
 rcases Sl.as_of hb with z|z
 ·exact .inr (st.own b (by rw[k7];exact ll9 _ z))
 ·exact st.frz b (by rw[qq];exact ll9 _ z)
theorem j9(h:QE X Z q c e):QV X Z q (vE c) e:=qj h fun σ H Q b5=>ex8 b5 λE L r m w hc xc k=>
 V8 m w hc xc λE1 s h1 x L1 H1 e1 e2 m1 w1 st sm=>by
  cases oq9 h1;exact k _ _ rfl x.let L1 H1 rfl e2 m1 w1.tail (K1 w1.head) (λb hb=>w1.apart b hb) (jx0 (x:=x) st) (st.trans Step.drop) λhq=>(sm hq).1
theorem JY{x:Sl}{H1:Hp}{L1:Ls}(st:Step H L H1 L1)(sr:Src H L x.as)(ho:x.own=[]):Step H L H1 (some x::L1) where
 keep:=st.keep
 own:=λb hb=>by rw[k7,ho]at hb;exact st.own b hb
 frz:=λb hb=>by
  rw[qq]at hb;rcases List.mem_append.mp hb with z|z
  ·exact sr b (Sl.frz_as z)
  ·exact st.frz b z
theorem kxe{x:Sl}(h:x.o=.no):x.own=[]:=by unfold Sl.own;rw[h]
theorem W4{x:Sl}(h:x.o=.no):x.frz=x.as:=by unfold Sl.frz;rw[h]
theorem qw9{x:Sl}(h:x.as=[]):x.own=[]:=List.eq_nil_iff_forall_not_mem.mpr λa ha=>by have:=Sl.own_as ha;rw[h]at this;exact nomatch this
theorem xq(h:QV X Z q c e):QE X Z q (cH c) e:=qj h fun σ H Q b5=>ex8 b5 λE L r m w hc xc k=>
 qW m w hc xc λE1 s h1 x L1 H1 e1 e2 m1 w1 ok fr sr st sm=>by
  by_cases ho:s.1=.no
  ·rw[X9 ho]at h1;cases oq9 h1;have eo:x.o=.no:=e1.trans ho;exact k _ _ rfl x L1 H1 eo e2 m1 (w1.consNo ok eo λb hb=>fr b (by rw[W4 eo];exact hb)) (JY st sr (kxe eo)) λhq=>⟨sm hq,by rw[kxe eo];exact λ_ z=>(nomatch z)⟩
  ·rw[Xg ho]at h1
   by_cases hp:s.2.pure=true
   ·rw[X9 hp]at h1;cases oq9 h1;obtain⟨z,rp⟩:=RepL.pu (g':=false) (RepO.wk ok) (by rw[e2];exact hp);exact k _ _ rfl ⟨.dp,x.d,x.v,[]⟩ L1 H1 rfl e2 m1 (w1.consPu rp rfl) (JY (x:=⟨.dp,x.d,x.v,[]⟩) st (λb hb=>nomatch hb) rfl) λhq=>⟨sm hq,λ_ z=>(nomatch z)⟩
   ·rw[Xg hp]at h1;cases h1
theorem q_C{d:D}{v:V}(h:PE X e (tC v))(hr:∀H,RepL Z.K H false d v []):QE X Z true (cC d) e:=qj h fun σ H Q b5=>ex8 b5 λE L r m w hc xc k=>by
 cases oq9 hc;exact k _ _ rfl ⟨.dp,d,v,[]⟩ L H rfl rfl m (w.consPu (hr H) rfl) (JY (x:=⟨.dp,d,v,[]⟩) Step.refl (λb hb=>nomatch hb) rfl) λ_=>⟨λ_ _ z=>z,λ_ z=>(nomatch z)⟩
theorem q_V{i:Nat}(h:PE X e (zX i)):QE X Z true (cV i) e:=qj h fun σ H Q b5=>ex8 b5 λE L r m w hc xc k=>by
 unfold cV at hc
 split at hc
 ·rename_i o d hE;cases oq9 hc;obtain⟨x,h1,h2,h3,h4⟩:=m.get hE;refine⟨x.v,h4,k _ _ rfl x.let _ H rfl h3 ?_ (w.read h1) (Step.read h1) λ_=>⟨λ_ _ z=>z,λ_ z=>(nomatch z)⟩⟩;have:=m.let h1
  rwa [h3]at this
 ·cases hc
theorem qwk:∀{E:En} {σ:L2.St} {L:Ls} (j:Nat),Mt E σ L->Mt (E.set j none) σ (L.set j none):=by
 intro E σ L j m
 induction m generalizing j with
 |nil=>exact .nil
 |un m ih=>cases j with
  |zero=>exact .un m
  |succ j=>exact .un (ih j)
 |cons m ih=>cases j with
  |zero=>exact .un m
  |succ j=>exact .cons (ih j)
theorem jxb{x:Sl}:∀{L:Ls} {i:Nat},L[i]?=some (some x)->(none::L).Perm (some x::L.set i none)
 |[],_,h=>by simp at h
 |q::L,0,h=>by
  have e:q=some x:=by simpa using h
  subst e;exact List.Perm.swap ..
 |q::L,i+1,h=>by
  have:=jxb (L:=L) (i:=i) (by simpa using h);rw[List.set_cons_succ];exact(List.Perm.swap ..).trans ((this.cons q).trans (List.Perm.swap ..))
theorem vvb{i:Nat}(h:PE X e (zX i)):QE X Z false (cMv i) e:=qj h fun σ H Q b5=>ex8 b5 λE L r m w hc xc k=>by
 unfold cMv at hc
 split at hc
 ·rename_i s hE;cases oq9 hc;obtain⟨o,d⟩:=s;obtain⟨x,h1,h2,h3,h4⟩:=m.get hE;have wn:World Z.K H (none::L):=⟨λy hy=>w.ok y (by simpa using hy),by simpa using w.nd,by simpa using w.ds⟩;have sn:Step H L H (none::L):=⟨λ_ _ z _=>z,λa z=>.inl (by simpa using z),λa z=>.inl (by simpa using z)⟩;exact⟨x.v,h4,k _ _ rfl x _ H h2 h3 (qwk i m) (wn.perm (jxb h1)) (sn.trans (Step.refl.perm (List.Perm.refl _) (jxb h1))) λz=>(nomatch z)⟩
 ·cases hc
theorem q_vV{i:Nat}(h:PE X e (zX i)):QV X Z true (vV i) e:=qj h fun σ H Q b5=>ex8 b5 λE L r m w hc xc k=>by
 unfold vV at hc
 split at hc
 ·rename_i s hE;cases oq9 hc;obtain⟨o,d⟩:=s;obtain⟨x,h1,h2,h3,h4⟩:=m.get hE;have hx:=wX h1;refine⟨x.v,h4,k _ _ rfl x L H h2 h3 m w (w.ok x hx) (λb hb ho=>w.ds b ho (mem_frozen.mpr ⟨x,hx,hb⟩)) (λb hb=>?_) Step.refl λ_=>λ_ _ z=>z⟩;rcases Sl.as_of hb with z|z
  ·exact .inr (.inl (mem_owned.mpr ⟨x,hx,z⟩))
  ·exact .inl (mem_frozen.mpr ⟨x,hx,z⟩)
 ·cases hc
structure Out (K:PySem.W.Frag)(H H':Hp)(z:Sl)(fr:List Addr):Prop where
 same:jZ H H'
 ok:z.ok K H'
 new:∀b∈z.own,H b=none
 nd:z.own.Nodup
 fr:∀b∈z.frz,b∈fr
noncomputable def Ad1(K:PySem.W.Frag)(r:V->Hp->VK->Prop)(f:Sd->Option Sd):Prop:=∀(H:Hp) (x:Sl) (s:Sd) (Q:VK),x.ok K H->f (x.o,x.d)=some s->(∀(z:Sl) H',z.o=s.1->z.d=s.2->Out K H H' z x.frz->Q z.v H')->r x.v H Q
noncomputable def Ad2(K:PySem.W.Frag)(r:R2)(f:Sd->Sd->Option Sd):Prop:=∀(H:Hp) (x y:Sl) (s:Sd) (Q:VK),x.ok K H->y.ok K H->f (x.o,x.d) (y.o,y.d)=some s->(∀(z:Sl) H',z.o=s.1->z.d=s.2->Out K H H' z (x.frz++y.frz)->Q z.v H')->r x.v y.v H Q
theorem VJ{K:PySem.W.Frag}{H H':Hp}{d:D}{v:V}{fr:List Addr}(s:jZ H H')(r:RepL K H' false d v []):Out K H H' ⟨.dp,d,v,[]⟩ fr:=⟨s,r,λ_ h=>(nomatch h),Y1,λ_ h=>(nomatch h)⟩
theorem wY{H:Hp}:jZ H H:=λ_ _ z=>z
theorem kQ{H H1 H2:Hp}(a:jZ H H1)(b:jZ H1 H2):jZ H H2:=λc ob h=>b c ob (a c ob h)
theorem xz{z:Sl}{fr:List Addr}{H1 H2:Hp}{L1:Ls}(w:World Z.K H1 L1)(st:Step H L H1 L1)(o:Out Z.K H1 H2 z fr)(ap:∀b∈fr,b∉jk L1)(al:∀b∈fr,H1 b≠none)(sr:Src H L fr):
  World Z.K H2 (some z::L1)/\Step H L H2 (some z::L1):=by
 have w2:World Z.K H2 L1:=⟨λx hx=>RepO.kp (w.ok x hx) (Kp.of_same o.same),w.nd,w.ds⟩;refine⟨w2.cons o.ok o.nd (λb hb ho=>w.own_some ho (o.new b hb)) (λb hb hf=>w.frz_some hf (o.new b hb)) (λb hb=>ap b (o.fr b hb)) (λb hb hf=>al b (o.fr b hf) (o.new b hb)),?_⟩;refine⟨λb ob h hn=>o.same b ob (st.keep b ob h hn),λb hb=>?_,λb hb=>?_⟩
 ·rw[k7]at hb;rcases List.mem_append.mp hb with z|z
  ·by_cases ho:b∈jk L
   ·exact .inl ho
   ·refine .inr ?_;cases e:H b with
    |none=>rfl
    |some ob=>have:=o.new b z;rw[st.keep b ob e ho]at this;cases this
  ·exact st.own b z
 ·rw[qq]at hb;rcases List.mem_append.mp hb with z|z
  ·exact sr b (o.fr b z)
  ·exact st.frz b z
theorem Kw{as bs:List Addr}(h:Src H L as)(hb:∀b∈bs,b∈as):Src H L bs:=λb z=>h b (hb b z)
theorem kwj{as bs:List Addr}(h:Src H L as)(h':Src H L bs):Src H L (as++bs):=λb z=>(List.mem_append.mp z).elim (h b) (h' b)
theorem x5{H H1:Hp}{b:Addr}(s:jZ H H1)(h:H1 b=none):H b=none:=by
 cases e:H b with
 |none=>rfl
 |some ob=>rw[s b ob e]at h;cases h
theorem J7{r:V->Hp->VK->Prop}{f:Sd->Option Sd}(ad:Ad1 Z.K r f){Q:VK}(h:tQ Z q (cF1 f a) σ H Q):tUn r (tV Z q a) σ H Q:=by
 obtain⟨E,L,R,m,w,hc,xc,k⟩:=h;refine qW m w hc xc λE1 s h1 x L1 H1 e1 e2 m1 w1 ok fr sr st sm=>?_
 obtain⟨z,hz,rfl⟩:=wJ h1;refine ad H1 x z Q ok (by rw[e1,e2];exact hz) λy H' ho hd o=>?_
 obtain⟨w3,cm⟩:=xz w1 st o fr (λb hb=>ok.some (Sl.frz_as hb)) (Kw sr λb hb=>Sl.frz_as hb);exact k _ _ rfl y L1 H' ho hd m1 w3 cm λhq=>⟨kQ (sm hq) o.same,λb hb=>x5 (sm hq) (o.new b hb)⟩
theorem kjb{r:R2}{f:Sd->Sd->Option Sd}(ad:Ad2 Z.K r f){Q:VK}(h:tQ Z qa (cF2 f a b) σ H Q):tOp r (tV Z qa a) (tV Z true b) σ H Q:=by
 obtain⟨E,L,R,m,w,hc,xc,k⟩:=h;refine qW m w hc xc λE1 s h1 x L1 H1 e1 e2 m1 w1 ok fr sr st sm=>?_
 refine qW m1 w1 h1 (xc.step st) λE2 s2 h2 y L2 H2 e3 e4 m2 w2 gw kt ku cj dw=>?_
 obtain⟨z,hz,rfl⟩:=wJ h2;have kx:=QX ok fr cj (dw rfl);refine ad H2 x y z Q kx.1 gw (by rw[e1,e2,e3,e4];exact hz) λy' H' ho hd o=>?_
 obtain⟨w3,cm⟩:=xz w2 (st.trans cj) o (λb hb=>(List.mem_append.mp hb).elim (kx.2 b) (kt b)) (λb hb=>(List.mem_append.mp hb).elim (λz=>kx.1.some (Sl.frz_as z)) λz=>gw.some (Sl.frz_as z))
  (kwj (Kw sr λb hb=>Sl.frz_as hb) (Kw (ku.back st) λb hb=>Sl.frz_as hb))
 exact k _ _ rfl y' L2 H' ho hd m2 w3 cm λhq=>⟨kQ (sm hq) (kQ (dw rfl) o.same),λb hb=>x5 (kQ (sm hq) (dw rfl)) (o.new b hb)⟩
theorem v6{op:Operator}{r:R2}{f:Sd->Sd->Option Sd}(ho:OpR X (binaryOp op) r)(ad:Ad2 Z.K r f)(ha:QV X Z qa a ea)(hb:QV X Z true b eb):QE X Z qa (cF2 f a b) (.BinOp ea op eb pos):=
 qj (vvl ho ha hb) fun σ H Q h=>kjb ad h
theorem Yq{op:CmpOp}{r:R2}{f:Sd->Sd->Option Sd}(ho:OpR X (compareOp op) r)(ad:Ad2 Z.K r f)(ha:QV X Z qa a ea)(hb:QV X Z true b eb)(hm:behindInMarks op eb=false):QE X Z qa (cF2 f a b) (.Compare ea [op] [eb] pos):=
 qj (qw4 ho ha hb hm) fun σ H Q h=>kjb ad h
theorem RepA.get{K:PySem.W.Frag}{H:Hp}{g:Bool}:∀{ds:List D} {xs:List V} {as:List Addr} {i:Nat} {d:D},RepA K H g ds xs as->ds[i]?=some d->∃v bs,xs[i]?=some v/\RepL K H g d v bs/\∀b∈bs,b∈as
 | [],_,_,_,_,_,e=>by simp at e
 | d::ds,_,_,i,d',h,e=>by
  unfold RepA at h;obtain⟨x,r,bs,cs,rfl,rfl,h1,h2⟩:=h;cases i with
  |zero=>
   have e:d=d':=by simpa using e
   subst e;exact⟨x,bs,by simp,h1,λb hb=>ll9 _ hb⟩
  |succ i=>
   obtain⟨v,gj,e1,e2,e3⟩:=RepA.get (i:=i) h2 (by simpa using e);exact⟨v,gj,by simpa using e1,e2,λb hb=>lr9 _ (e3 b hb)⟩
theorem RepA.len{K:PySem.W.Frag}{H:Hp}{g:Bool}:∀{ds:List D} {xs:List V} {as:List Addr},RepA K H g ds xs as->ds.length=xs.length
 |[],_,_,h=>by unfold RepA at h;rw[h.1];rfl
 |d::ds,_,_,h=>by
  unfold RepA at h;obtain⟨x,r,bs,cs,rfl,rfl,h1,h2⟩:=h;simp[RepA.len h2]
theorem items{K:PySem.W.Frag}{H:Hp}{x:Sl}{ds:List D}(ok:x.ok K H)(h:x.d=.lst ds\/x.d=.tup ds):∃a xs bs,x.v=.ref a/\((x.d=.lst ds/\LsR K H a xs)\/(x.d=.tup ds/\SqT K H a xs))/\RepA K H (x.o != .dp) ds xs bs/\(∀b∈bs,b∈x.as)/\(x.o≠.dp->∀b∈bs,b∈x.frz):=by
 obtain⟨o,d,v,as⟩:=x;dsimp only at h;rcases h with rfl|rfl
 ·cases o with
  |no=>
   have ok:RepL K H true (.lst ds) v as:=ok;unfold RepL at ok;obtain⟨a,xs,bs,rfl,r,q⟩:=ok;rcases q with⟨q,rfl⟩|⟨_,q,rfl⟩
   ·exact⟨a,xs,bs,rfl,.inl ⟨rfl,.inl (.inl q)⟩,r,λb hb=>lc9 _ hb,λ_ b hb=>lc9 _ hb⟩
   ·exact⟨a,xs,as,rfl,.inl ⟨rfl,.of q⟩,r,λb hb=>hb,λ_ b hb=>hb⟩
  |rt=>
   obtain⟨a,xs,bs,rfl,r,q,rfl⟩:=(show RepR K H (.lst ds) v as from ok);exact⟨a,xs,bs,rfl,.inl ⟨rfl,.inl (.inl q)⟩,r,λb hb=>lc9 _ hb,λ_ b hb=>by simpa [Sl.frz]using hb⟩
  |dp=>
   have ok:RepL K H false (.lst ds) v as:=ok;unfold RepL at ok;obtain⟨a,xs,bs,rfl,r,q⟩:=ok;rcases q with⟨q,rfl⟩|⟨z,_⟩
   ·exact⟨a,xs,bs,rfl,.inl ⟨rfl,.inl (.inl q)⟩,r,λb hb=>lc9 _ hb,λz=>absurd rfl z⟩
   ·cases z
 ·cases o with
  |no=>
   have ok:RepL K H true (.tup ds) v as:=ok;unfold RepL at ok;obtain⟨a,xs,rfl,q,r⟩:=ok;exact⟨a,xs,as,rfl,.inr ⟨rfl,q⟩,r,λb hb=>hb,λ_ b hb=>hb⟩
  |rt=>exact(show RepR K H (.tup ds) v as from ok).elim
  |dp=>
   have ok:RepL K H false (.tup ds) v as:=ok;unfold RepL at ok;obtain⟨a,xs,rfl,q,r⟩:=ok;exact⟨a,xs,as,rfl,.inr ⟨rfl,q⟩,r,λb hb=>hb,λz=>absurd rfl z⟩
theorem Jj{K:PySem.W.Frag}{H:Hp}{x:Sl}{ds:List D}(ok:x.ok K H)(h:x.d=.lst ds\/x.d=.tup ds)(hl:v7 (x.o,x.d)=true):∃a xs bs,x.v=.ref a/\((x.d=.lst ds/\LsR K H a xs)\/(x.d=.tup ds/\SqT K H a xs))/\RepA K H true ds xs bs/\(∀b∈bs,b∈x.frz):=by
 obtain⟨a,xs,bs,e,q,r,h1,h2⟩:=items ok h
 by_cases ho:x.o=.dp
 ·have hp:D.pures ds=true:=by
   unfold v7 at hl;rw[show(x.o,x.d).1=Own.dp from ho]at hl;have:vx9 x.d=ds:=by rcases h with h|h<;>rw[h]<;>rfl
   simpa [this]using hl
  obtain⟨rfl,r'⟩:=RepA.pu (g':=true) r hp;exact⟨a,xs,[],e,q,r',λ_ z=>nomatch z⟩
 ·have:(x.o != Own.dp)=true:=by simpa using ho
  rw[this]at r;exact⟨a,xs,bs,e,q,r,h2 ho⟩
end
section
variable {K:PySem.W.Frag}{H:Hp}{x y:Sl}
theorem qv{i:Int}(ok:x.ok K H)(h:x.d=.int i):x.v=.int i:=by
 have:=RepO.wk ok;rw[h]at this;unfold RepL at this;exact this.1
theorem zZ{i:Bool}(ok:x.ok K H)(h:x.d=.bl i):x.v=.bl i:=by
 have:=RepO.wk ok;rw[h]at this;unfold RepL at this;exact this.1
theorem qqi(ok:x.ok K H)(h:x.d=.non):x.v=.non:=by
 have:=RepO.wk ok;rw[h]at this;unfold RepL at this;exact this.1
theorem qK{z:Str}(ok:x.ok K H)(h:x.d=.str z):x.v=.str z/\z.length<=sizeLine:=by
 have:=RepO.wk ok;rw[h]at this;unfold RepL at this;exact⟨this.1,this.2.2⟩
theorem J0{i:Int}{g:Bool}:RepL K H g (.int i) (.int i) []:=by unfold RepL;exact⟨rfl,rfl⟩
theorem wK{i:Bool}{g:Bool}:RepL K H g (.bl i) (.bl i) []:=by unfold RepL;exact⟨rfl,rfl⟩
theorem kwn{g:Bool}:RepL K H g .non .non []:=by unfold RepL;exact⟨rfl,rfl⟩
theorem x4{z:Str}{g:Bool}(h:z.length<=sizeLine):RepL K H g (.str z) (.str z) []:=by unfold RepL;exact⟨rfl,rfl,h⟩
theorem J9{i:Int}{fr:List Addr}:Out K H H ⟨.dp,.int i,.int i,[]⟩ fr:=VJ wY J0
theorem qX{i:Bool}{fr:List Addr}:Out K H H ⟨.dp,.bl i,.bl i,[]⟩ fr:=VJ wY wK
theorem XQ{z:Str}{fr:List Addr}(h:z.length<=sizeLine):Out K H H ⟨.dp,.str z,.str z,[]⟩ fr:=VJ wY (x4 h)
theorem Yw{C:Int->Int->Prop}{g:Int->Int->Int}{f:Int->Int->Option Int}(h:∀i j k,f i j=some k->C i j/\k=g i j):Ad2 K (rI C λi j=>.int (g i j)) (pu2 (i2 f)):=by
 intro H x y s Q ox oy hf k;unfold pu2 i2 at hf;dsimp only at hf
 split at hf
 ·rename_i i j e1 e2;cases hk:f i j with
  |none=>rw[hk]at hf;cases hf
  |some n=>
   rw[hk]at hf;cases oq9 hf;obtain⟨hc,rfl⟩:=h i j n hk;exact⟨i,j,qv ox e1,qv oy e2,hc,k ⟨.dp,.int (g i j),.int (g i j),[]⟩ H rfl rfl J9⟩
 ·cases hf
theorem vwf{g:Int->Int->Int}{f:Int->Int->Option Int}(h:∀i j,f i j=some (g i j)):Ad2 K (rI0 λi j=>.int (g i j)) (pu2 (i2 f)):=by
 intro H x y s Q ox oy hf k;unfold pu2 i2 at hf;dsimp only at hf
 split at hf
 ·rename_i i j e1 e2;rw[h]at hf;cases oq9 hf;exact⟨i,j,qv ox e1,qv oy e2,k ⟨.dp,.int (g i j),.int (g i j),[]⟩ H rfl rfl J9⟩
 ·cases hf
theorem wv{g:Int->Int->Bool}:Ad2 K (rI0 λi j=>.bl (g i j)) (pu2 (c2 g)):=by
 intro H x y s Q ox oy hf k;unfold pu2 c2 at hf;dsimp only at hf
 split at hf
 ·rename_i i j e1 e2;cases oq9 hf;exact⟨i,j,qv ox e1,qv oy e2,k ⟨.dp,.bl (g i j),.bl (g i j),[]⟩ H rfl rfl qX⟩
 ·cases hf
theorem qj3:Ad2 K (rI0 λi j=>.int (i - j)) (pu2 WQ):=vwf λ_ _=>rfl
theorem QZ:Ad2 K (rI vq9 λi j=>.int (i / j)) (pu2 z7):=Yw λi j k h=>by
 split at h
 ·rename_i c;exact⟨c,(oq9 h).symm⟩
 ·cases h
theorem vq1:Ad2 K (rI (λ_ j=>0<j) λi j=>.int (i % j)) (pu2 kK):=Yw λi j k h=>by
 split at h
 ·rename_i c;exact⟨c,(oq9 h).symm⟩
 ·cases h
theorem VW:Ad2 K (rI YX λi j=>.int (i ^ j.toNat)) (pu2 K5):=Yw λi j k h=>by
 split at h
 ·rename_i c;exact⟨c,(oq9 h).symm⟩
 ·cases h
theorem vq0:Ad2 K (rI YX λi j=>.int (i*2 ^ j.toNat)) (pu2 vw2):=Yw λi j k h=>by
 split at h
 ·rename_i c;exact⟨c,(oq9 h).symm⟩
 ·cases h
end
noncomputable def qzl(K:PySem.W.Frag):R2:=λx y H Q=>∃l b xs zs,x=.ref l/\y=.ref b/\LsR K H l xs/\LsR K H b zs/\xs.length+zs.length<=sizeLine/\∀p,H p=none->Q (.ref p) (upd H p (.lst (xs++zs)))
theorem op_catL{X:Cx}:OpR X (binaryOp .Add) (qzl X.K):=by
 intro pins s σ H x y v u Q I rx ry h;obtain⟨l,b,xs,zs,rfl,rfl,hH,hB,hz,q⟩:=h;cases rx;cases ry;obtain⟨z,ai,n,r,e⟩:=hH.is I;obtain⟨z2,ef,n2,r2,e2⟩:=hB.is I;have hl:=r.length;have hl2:=r2.length;refine PySem.P.add_list e e2 ?_ (by rw[X4,X4];omega);have ea:ai.toArray++ef.toArray=(ai++ef).toArray:=by simp
 rw[ea];exact⟨.ref _,_,I.lnew (t':=s.toks) (r.append r2) (by rw[Xx];omega),rfl,q _ I.fresh⟩
def qzm(K:PySem.W.Frag):R2:=λx y H Q=>∃a b ys,x=.ref a/\y=.ref b/\SqT K H a []/\SqT K H b ys/\Q (.ref b) H
theorem op_catE{X:Cx}:OpR X (binaryOp .Add) (qzm X.K):=by
 intro pins s σ H x y v u Q I rx ry h;obtain⟨a,b,ys,rfl,rfl,ha,hb,q⟩:=h;cases rx;cases ry;obtain⟨ai,r1,p1,_⟩:=I.tuple ha;obtain⟨ef,r2,p2,_⟩:=I.tuple hb;obtain⟨⟨cls,dd,data,sl⟩,ho,hc,n,hd⟩:=id p1;obtain⟨⟨cls2,dd2,data2,ja⟩,ho2,hc2,n2,hd2⟩:=id p2;simp only at hc hd hc2 hd2;subst hc hd hc2 hd2;have e:ai=[]:=r1.nil_iff.mpr rfl;subst e;exact concat_meets ⟨_,ho,rfl⟩ ⟨_,ho2,rfl⟩ noFill_tuple_add seq_tuple_add PySem.F.slot_tuple_add PySem.F.entry_tuple_add (PySem.F.args_tuple_add_2 _ _)
   (tuple_addW0 a b [].toArray ef.toArray n n2 dd dd2 sl ja (by simp)) ⟨ho,ho2,⟨.ref b,H,I,rfl,q⟩⟩
noncomputable def qzn(K:PySem.W.Frag):R2:=λx y H Q=>rI0 (λi j=>.int (i+j)) x y H Q\/(∃i j,x=.str i/\y=.str j/\i.length+j.length<=sizeLine/\Q (.str (i++j)) H)\/qzl K x y H Q\/qzm K x y H Q\/qzk K x y H Q
theorem vjs{X:Cx}{K:PySem.W.Frag}(hK:X.K=K):OpR X (binaryOp .Add) (qzn K):=by subst hK;exact op_add.or (op_add_str.or (op_catL.or (op_catE.or qwe)))
theorem RepA.app{K:PySem.W.Frag}{H:Hp}{g:Bool}{ds':List D}{xs':List V}{gj:List Addr}(h':RepA K H g ds' xs' gj):∀{ds:List D} {xs:List V} {as:List Addr},RepA K H g ds xs as->RepA K H g (ds++ds') (xs++xs') (as++gj)
 |[],_,_,h=>by unfold RepA at h;rw[h.1,h.2];exact h'
 |d::ds,_,_,h=>by
  unfold RepA at h;obtain⟨x,r,bs,cs,rfl,rfl,h1,h2⟩:=h;rw[List.cons_append];unfold RepA;exact⟨x,r++xs',bs,cs++gj,rfl,by rw[Xw],h1,RepA.app h' h2⟩
theorem v5{H:Hp}{p:Addr}{o:HO}(h:H p=none):jZ H (upd H p o):=λb u q=>by rw[kj (vJ q h)];exact q
theorem QY{K:PySem.W.Frag}{H:Hp}{p:Addr}{ds:List D}{xs:List V}{bs fr:List Addr}(hp:H p=none)(r:RepA K H true ds xs bs)(hb:∀b∈bs,b∈fr):Out K H (upd H p (.lst xs)) ⟨.rt,.lst ds,.ref p,p::bs⟩ fr:=by
 refine⟨v5 hp,⟨p,xs,bs,rfl,r.kp (Kp.of_same (v5 hp)),wq,rfl⟩,λb hb=>?_,?_,λb de=>hb b (by simpa [Sl.frz]using de)⟩
 ·have:b=p:=by simpa [Sl.own]using hb
  rw[this];exact hp
 ·simp[Sl.own]
theorem XW{K:PySem.W.Frag}{H:Hp}{p:Addr}{ds:List D}{xs:List V}{bs fr:List Addr}(hp:H p=none)(r:RepA K H true ds xs bs)(hb:∀b∈bs,b∈fr):Out K H (upd H p (.tup xs)) ⟨.no,.tup ds,.ref p,bs⟩ fr:=by
 refine⟨v5 hp,?_,λb hb=>(nomatch hb),Y1,λb de=>hb b de⟩;show RepL K _ true (.tup ds) (.ref p) bs;unfold RepL;exact⟨p,xs,rfl,SqT.of wq,r.kp (Kp.of_same (v5 hp))⟩
theorem vq7{K:PySem.W.Frag}:Ad2 K (qzn K) jJ:=by
 intro H x y s Q ox oy hf k;unfold jJ at hf;dsimp only at hf
 split at hf
 ·rename_i i j e1 e2;cases oq9 hf;exact .inl ⟨i,j,qv ox e1,qv oy e2,k ⟨.dp,.int _,.int _,[]⟩ H rfl rfl J9⟩
 ·rename_i i j e1 e2
  split at hf
  ·rename_i hl;cases oq9 hf;have lx:(i++j).length<=sizeLine:=by rw[strLen_append];exact hl
   exact .inr (.inl ⟨i,j,(qK ox e1).1,(qK oy e2).1,hl,k ⟨.dp,.str _,.str _,[]⟩ H rfl rfl (XQ lx)⟩)
  ·cases hf
 ·rename_i i j e1 e2
  split at hf
  ·rename_i hl;cases oq9 hf;obtain⟨a,xs,bs,e3,q3,r3,h3⟩:=Jj ox (.inl e1) hl.2.1;obtain⟨b,ys,cs,e4,q4,r4,h4⟩:=Jj oy (.inl e2) hl.2.2;have q3:LsR K H a xs:=by rcases q3 with⟨_,z⟩|⟨z,_⟩;exact z;rw[e1]at z;cases z
   have q4:LsR K H b ys:=by rcases q4 with⟨_,z⟩|⟨z,_⟩;exact z;rw[e2]at z;cases z
   refine .inr (.inr (.inl ⟨a,b,xs,ys,e3,e4,q3,q4,by rw[<-r3.len,<-r4.len];exact hl.1,λp hp=>?_⟩));exact k ⟨.rt,.lst (i++j),.ref p,p::(bs++cs)⟩ _ rfl rfl (QY hp (r4.app r3) λb hb=>(List.mem_append.mp hb).elim (λz=>ll9 _ (h3 b z)) λz=>lr9 _ (h4 b z))
  ·cases hf
 ·rename_i i j e1 e2
  split at hf
  ·rename_i hl;cases oq9 hf;obtain⟨a,xs,bs,e3,q3,r3,h3⟩:=Jj ox (.inr e1) hl.2.1;obtain⟨b,ys,cs,e4,q4,r4,h4⟩:=Jj oy (.inr e2) hl.2.2;have q3:SqT K H a xs:=by rcases q3 with⟨z,_⟩|⟨_,z⟩;rw[e1]at z;cases z;exact z
   have q4:SqT K H b ys:=by rcases q4 with⟨z,_⟩|⟨_,z⟩;rw[e2]at z;cases z;exact z
   have ap:=r4.app r3;have ju:∀b∈bs++cs,b∈x.frz++y.frz:=λb hb=>(List.mem_append.mp hb).elim (λz=>ll9 _ (h3 b z)) λz=>lr9 _ (h4 b z)
   have same:∀c zs,zs=xs++ys->SqT K H c zs->Q (.ref c) H:=λc zs e hq=>by
    refine k ⟨.no,.tup (i++j),.ref c,bs++cs⟩ H rfl rfl ⟨wY,?_,λb hb=>(nomatch hb),Y1,ju⟩;show RepL K H true (.tup (i++j)) (.ref c) (bs++cs);unfold RepL;exact⟨c,zs,rfl,hq,by rw[e];exact ap⟩
   by_cases hx:xs=[]
   ·subst hx;exact .inr (.inr (.inr (.inl ⟨a,b,ys,e3,e4,q3,q4,same b ys rfl q4⟩)))
   ·refine .inr (.inr (.inr (.inr ⟨a,b,xs,ys,e3,e4,q3,q4,hx,by rw[<-r3.len,<-r4.len];exact hl.1,λhy=>?_,λhy p hp=>?_⟩)))
    ·exact same a xs (by rw[hy,Xs]) q3
    ·exact k ⟨.no,.tup (i++j),.ref p,bs++cs⟩ _ rfl rfl (XW hp ap ju)
  ·cases hf
 ·cases hf
noncomputable def tT(Z:Fx0)(q:Bool)(c:Ts):TT:=fun σ H Q=>∃E L r,Mt E σ L/\World Z.K H L/\c E=some r/\Xc Z σ H L r /\
 ∀E' k,r=.ok E' k->∀L' H',Mt E' σ L'->World Z.K H' L'->Step H L H' L'->(q=true->jZ H H')->Q k H'
def QT(X:Cx)(Z:Fx0)(q:Bool)(c:Ts)(e:Expr):Prop:=PT X e (tT Z q c)
def QW(X:Cx)(Z:Fx0)(q:Bool)(c:Ts)(e:Expr):Prop:=PW X e (tT Z q c)
section
variable {X:Cx}{Z:Fx0}{q qa qb:Bool}{a b c:Ex}{u v:Ts}{e ea eb:Expr}{es:List Expr}{pos:Pos}{α β:Type}{σ:L2.St}{H:Hp}{L:Ls}{E:En}
theorem qqb{e:Expr}{t t':TT}(h:PW X e t)(w:∀ σ H Q,t' σ H Q->t σ H Q):PW X e t':=λwh pins s σ H Q I q=>h wh pins s σ H Q I (w σ H Q q)
theorem Zw{F:En->Bool->Option (Res α)}{r:Res α}{G:Bool->Hp->Prop}(m:Mt E σ L)(w:World Z.K H L)(h:bnd (u E) F=some r)(xc:Xc Z σ H L r)
  (k:∀E1 s,F E1 s=some r->∀L1 H1,Mt E1 σ L1->World Z.K H1 L1->Step H L H1 L1->(q=true->jZ H H1)->G s H1):tT Z q u σ H G:=by
 rcases vk h with⟨E1,s,h1,h2⟩|⟨E1,c,h1,h2⟩
 ·exact⟨E,L,_,m,w,h1,(λ_ _ z=>by cases z),λE' s' z L' H' m' w' st sm=>by
   injection z with z1 z2;subst z1 z2;exact k _ _ h2 L' H' m' w' st sm⟩
 ·exact⟨E,L,_,m,w,h1,xc.map h2,λE' s' z=>by cases z⟩
theorem kkv(ha:QT X Z q u ea):QW X Z q u (.BoolOp .And [ea] pos):=qvs ha
theorem JX(ha:QT X Z q u ea):QW X Z q u (.BoolOp .Or [ea] pos):=vj0 ha
theorem kwy(ha:QT X Z q u ea)(hb:QW X Z q v (.BoolOp .And (eb::es) pos)):QW X Z q (Q.tAnd u v) (.BoolOp .And (ea::eb::es) pos):=
 qqb (vj1 ha hb) fun σ H Q b5=>ex8 b5 λE L r m w hc xc k=>Zw m w hc xc λE1 s h1 L1 H1 m1 w1 st sm=>by
  cases s with
  |true=>
   rw[X9 rfl]at h1 ⊢;exact⟨E1,L1,r,m1,w1,h1,xc.step st,λE' k' z L' H' m' w' cq ez=>k E' k' z L' H' m' w' (st.trans cq) λhq=>kQ (sm hq) (ez hq)⟩
  |false=>
   rw[Xg (by decide)]at h1 ⊢;cases oq9 h1;exact k _ _ rfl L1 H1 m1 w1 st sm
theorem wW(ha:QT X Z q u ea)(hb:QW X Z q v (.BoolOp .Or (eb::es) pos)):QW X Z q (Q.tOr u v) (.BoolOp .Or (ea::eb::es) pos):=
 qqb (vvi ha hb) fun σ H Q b5=>ex8 b5 λE L r m w hc xc k=>Zw m w hc xc λE1 s h1 L1 H1 m1 w1 st sm=>by
  cases s with
  |false=>
   rw[Xg (by decide)]at h1 ⊢;exact⟨E1,L1,r,m1,w1,h1,xc.step st,λE' k' z L' H' m' w' cq ez=>k E' k' z L' H' m' w' (st.trans cq) λhq=>kQ (sm hq) (ez hq)⟩
  |true=>
   rw[X9 rfl]at h1 ⊢;cases oq9 h1;exact k _ _ rfl L1 H1 m1 w1 st sm
theorem QW.pt(h:QW X Z q u e):QT X Z q u e:=PW.pt h
theorem xj(ha:QT X Z q u ea):QT X Z q (Q.tNot u) (.UnaryOp .Not ea pos):=
 kqt (vj2 ha) fun σ H Q b5=>ex8 b5 λE L r m w hc xc k=>Zw m w hc xc λE1 s h1 L1 H1 m1 w1 st sm=>by
  cases oq9 h1;exact k _ _ rfl L1 H1 m1 w1 st sm
theorem kw{op:CmpOp}{r:R2}{f:Sd->Sd->Option Sd}(ho:OpR X (compareOp op) r)(ad:Ad2 Z.K r f)(ha:QV X Z qa a ea)(hb:QV X Z true b eb)(hm:behindInMarks op eb=false)(hf:∀x y s,f x y=some s->∃k,s.2=.bl k):QT X Z qa (Q.tE (cF2 f a b)) (.Compare ea [op] [eb] pos):=
 kqt (qvw ho ha hb hm) fun σ H Q b5=>ex8 b5 λE L r m w hc xc k=>by
  refine kjb ad ?_;have i9:bnd (cF2 f a b E) (λE x=>val E (truth x.2))=some r:=hc;rcases vk i9 with⟨E1,s,h1,h2⟩|⟨E1,c,h1,h2⟩
  ·refine⟨E,L,_,m,w,h1,(λ_ _ z=>by cases z),λE' s' z x L' H' e1 e2 m' w' st sm=>?_⟩;injection z with z1 z2;subst z1 z2;obtain⟨kk,hk⟩:∃k,s.2=.bl k:=by
    unfold cF2 at h1;rcases vk h1 with⟨E2,s2,h3,h4⟩|⟨_,_,_,z⟩
    ·rcases vk h4 with⟨E3,s3,h5,h6⟩|⟨_,_,_,z⟩
     ·obtain⟨y,hy,z⟩:=wJ h6;cases z;exact hf _ _ _ hy
     ·cases z
    ·cases z
   rw[hk]at h2;cases oq9 h2;exact⟨kk,zZ w'.head (e2.trans hk),k _ _ rfl L' H' m' w'.tail (st.trans Step.drop) λhq=>(sm hq).1⟩
  ·exact⟨E,L,_,m,w,h1,xc.map h2,λE' s' z=>by cases z⟩
end
def Pn(pn:List Nat)(σ σ':L2.St):Prop:=∀p∈pn,σ'[p]?=σ[p]?
theorem Pn.refl{pn:List Nat}{σ:L2.St}:Pn pn σ σ:=λ_ _=>rfl
theorem Pn.trans{pn:List Nat}{σ σ1 σ2:L2.St}(a:Pn pn σ σ1)(b:Pn pn σ1 σ2):Pn pn σ σ2:=λp hp=>(b p hp).trans (a p hp)
theorem Pn.set{pn:List Nat}{σ σ1:L2.St}{i:Nat}{y:Option V}(a:Pn pn σ σ1)(h:i∉pn):Pn pn σ (σ1.set i y):=λp hp=>by
 have:i≠p:=λe=>h (e▸hp)
 rw[Xy this];exact a p hp
noncomputable def FlP(Z:Fx0)(pn:List Nat)(D:Ends)(σ:L2.St)(H:Hp)(L:Ls):Fl->Prop
 |.nx E'=>∀ σ' L' H',Pn pn σ σ'->Mt E' σ' L'->World Z.K H' L'->Step H L H' L'->D.nx σ' H'
 |.ct E'=>∀ σ' L' H',Pn pn σ σ'->Mt E' σ' L'->World Z.K H' L'->Step H L H' L'->D.ct σ' H'
 |.bk E'=>∀ σ' L' H',Pn pn σ σ'->Mt E' σ' L'->World Z.K H' L'->Step H L H' L'->D.bk σ' H'
 |.rt E' a=>∀(x:Sl) σ' L' H',x.o=a.1->x.d=a.2->Pn pn σ σ'->Mt E' σ' L'->World Z.K H' (some x::L')->Step H L H' (some x::L')->D.rt x.v H'
 |.xc E' c=>∀C σ' L' H',Z.mg c=some (.ref C)->Pn pn σ σ'->Mt E' σ' L'->World Z.K H' L'->Step H L H' L'->Z.EX (.ref C) none H'
theorem FlP.step{Z:Fx0}{pn:List Nat}{D:Ends}{σ σ1:L2.St}{H H1:Hp}{L L1:Ls}{r:Fl}(k:FlP Z pn D σ H L r)(s:Step H L H1 L1)(p:Pn pn σ σ1):FlP Z pn D σ1 H1 L1 r:=by
 cases r with
 |nx E'=>exact fun σ' L' H' p' m w s'=>k σ' L' H' (p.trans p') m w (s.trans s')
 |ct E'=>exact fun σ' L' H' p' m w s'=>k σ' L' H' (p.trans p') m w (s.trans s')
 |bk E'=>exact fun σ' L' H' p' m w s'=>k σ' L' H' (p.trans p') m w (s.trans s')
 |rt E' a=>exact λx σ' L' H' e1 e2 p' m w s'=>k x σ' L' H' e1 e2 (p.trans p') m w (s.trans s')
 |xc E' c=>exact λC σ' L' H' hm p' m w s'=>k C σ' L' H' hm (p.trans p') m w (s.trans s')
theorem FlP.xc{α:Type}{Z:Fx0}{pn:List Nat}{D:Ends}{σ:L2.St}{H:Hp}{L:Ls}{E':En}{c:Str}(k:FlP Z pn D σ H L (.xc E' c)):Xc Z σ H L (.exc E' c:Res α):=λE1 c1 e C L' H' hm m w s=>by
 injection e with h1 h2;subst h1 h2;exact k C σ L' H' hm Pn.refl m w s
def tS(Z:Fx0)(pn:List Nat)(c:Sm):TS:=λD σ H=>∃E L r,Mt E σ L/\World Z.K H L/\c E=some r/\FlP Z pn D σ H L r
def QS(X:Cx)(Z:Fx0)(pn:List Nat)(c:Sm)(st:Stmt):Prop:=PS X st (tS Z pn c)
def QSs(X:Cx)(Z:Fx0)(pn:List Nat)(c:Sm)(st:List Stmt):Prop:=PSs X st (tS Z pn c)
section
variable {X:Cx}{Z:Fx0}{pn:List Nat}{q qa qb:Bool}{a b c:Ex}{u v:Ts}{A B:Sm}{e ea eb:Expr}{st:Stmt}{ss tt:List Stmt}{pos:Pos}{α:Type}{σ:L2.St}{H:Hp}{L:Ls}{E:En}{D:Ends}
theorem XZ{m:Option (Res α)}{F:En->α->Option Fl}{r:Fl}(h:ofE m F=some r):(∃E1 x,m=some (.ok E1 x)/\F E1 x=some r)\/∃E1 c,m=some (.exc E1 c)/\r=.xc E1 c:=by
 cases m with
 |none=>cases h
 |some q=>
  cases q with
  |ok E1 x=>exact .inl ⟨E1,x,rfl,h⟩
  |exc E1 c=>exact .inr ⟨E1,c,rfl,(oq9 h).symm⟩
theorem Wz{F:En->Sd->Option Fl}{r:Fl}{G:VK}(m:Mt E σ L)(w:World Z.K H L)(h:ofE (a E) F=some r)(k:FlP Z pn D σ H L r)
  (g:∀E1 s,F E1 s=some r->∀(x:Sl) L1 H1,x.o=s.1->x.d=s.2->Mt E1 σ L1->World Z.K H1 (some x::L1)->Step H L H1 (some x::L1)->(q=true->jZ H H1/\∀b∈x.own,H b=none)->G x.v H1):tQ Z q a σ H G:=by
 rcases XZ h with⟨E1,s,h1,h2⟩|⟨E1,c,h1,rfl⟩
 ·exact⟨E,L,_,m,w,h1,(λ_ _ z=>by cases z),λE' s' z x L' H' e1 e2 m' w' st sm=>by
   injection z with z1 z2;subst z1 z2;exact g _ _ h2 x L' H' e1 e2 m' w' st sm⟩
 ·exact⟨E,L,_,m,w,h1,k.xc,λE' s' z=>by cases z⟩
theorem qz3{F:En->Bool->Option Fl}{r:Fl}{G:Bool->Hp->Prop}(m:Mt E σ L)(w:World Z.K H L)(h:ofE (u E) F=some r)(k:FlP Z pn D σ H L r)
  (g:∀E1 s,F E1 s=some r->∀L1 H1,Mt E1 σ L1->World Z.K H1 L1->Step H L H1 L1->G s H1):tT Z q u σ H G:=by
 rcases XZ h with⟨E1,s,h1,h2⟩|⟨E1,c,h1,rfl⟩
 ·exact⟨E,L,_,m,w,h1,(λ_ _ z=>by cases z),λE' s' z L' H' m' w' st sm=>by
   injection z with z1 z2;subst z1 z2;exact g _ _ h2 L' H' m' w' st⟩
 ·exact⟨E,L,_,m,w,h1,k.xc,λE' s' z=>by cases z⟩
theorem kY:QSs X Z pn k9 []:=kx4 qvy λD σ H b5=>ex7 b5 λE L r m w hc k=>by
 cases oq9 hc;exact k σ L H Pn.refl m w Step.refl
theorem jx(h1:QS X Z pn A st)(h2:QSs X Z pn B ss):QSs X Z pn (jq A B) (st::ss):=kx4 (qju h1 h2) λD σ H b5=>ex7 b5 λE L r m w hc k=>by
 unfold jq at hc;cases ha:A E with
 |none=>rw[ha]at hc;cases hc
 |some f=>
  rw[ha]at hc;cases f with
  |nx E1=>exact⟨E,L,_,m,w,ha,fun σ' L' H' p m' w' s=>⟨E1,L',r,m',w',hc,k.step s p⟩⟩
  |ct E1=>cases oq9 hc;exact⟨E,L,_,m,w,ha,k⟩
  |bk E1=>cases oq9 hc;exact⟨E,L,_,m,w,ha,k⟩
  |rt E1 x=>cases oq9 hc;exact⟨E,L,_,m,w,ha,k⟩
  |xc E1 x=>cases oq9 hc;exact⟨E,L,_,m,w,ha,k⟩
theorem jV(h1:QS X Z pn A st):QSs X Z pn A [st]:=qvx h1
theorem k4(h:QE X Z q a ea):QS X Z pn (jK a) (.Return (some ea) pos):=zV (vj4 h) λD σ H b5=>ex7 b5 λE L r m w hc k=>
 Wz m w hc k λE1 s h1 x L1 H1 e1 e2 m1 w1 st _=>by
  cases oq9 h1;exact k x σ L1 H1 e1 e2 Pn.refl m1 w1 st
theorem kX(hc:QT X Z q u e)(ha:QSs X Z pn A ss)(hb:QSs X Z pn B tt):QS X Z pn (sIf u A B) (.If e ss tt pos):=zV (vvj hc ha hb) λD σ H b5=>ex7 b5 λE L r m w hc k=>
 qz3 m w hc k λE1 s h1 L1 H1 m1 w1 st=>by
  cases s with
  |true=>rw[X9 rfl]at h1 ⊢;exact⟨E1,L1,r,m1,w1,h1,k.step st Pn.refl⟩
  |false=>rw[Xg (by decide)]at h1 ⊢;exact⟨E1,L1,r,m1,w1,h1,k.step st Pn.refl⟩
theorem W8{x:Sl}{i:Nat}{s:Sd}(m:Mt E σ L)(e1:x.o=s.1)(e2:x.d=s.2):Mt (E.set i (some s)) (σ.set i (some x.v)) (L.set i (some x)):=by
 have:=m.set (x:=x) i;rw[e1,e2]at this;exact this
theorem vvg{i:Nat}{y:Str}{df:Pos}(hN:X.N.Nodup)(hi:X.N[i]?=some y)(hx:Loc X.env.scope y)(h:QE X Z q a ea)(hp:autoParam (i∉pn) ŕ)(hs:autoParam (swapsWith ea (some (.Name y df)) pos.line X.env=pure false) Ŕ)(hf:autoParam (X.fn y=true\/X.env.scope.names.lookup y=some .local) Ř):
  QS X Z pn (jW i a) (.Assign [.Name y df] ea pos):=zV (vj3 hN hi hx h hs hf) λD σ H b5=>ex7 b5 λE L r m w hc k=>
 Wz m w hc k λE1 s h1 x L1 H1 e1 e2 m1 w1 st _=>by
  cases oq9 h1;exact k (σ.set i (some x.v)) (L1.set i (some x)) H1 (Pn.refl.set hp) (W8 m1 e1 e2) w1.set (st.trans Step.set)
theorem qzz{i:Nat}{y:Str}{df:Pos}(hp:i∉pn)(h:PS X (.Assign [.Name y df] ea pos) (λD σ H=>tQ Z q a σ H λv H1=>D.nx (σ.set i (some v)) H1)):
  QS X Z pn (jW i a) (.Assign [.Name y df] ea pos):=zV h λD σ H b5=>ex7 b5 λE L r m w hc k=>
 Wz m w hc k λE1 s h1 x L1 H1 e1 e2 m1 w1 st _=>by
  cases oq9 h1;exact k (σ.set i (some x.v)) (L1.set i (some x)) H1 (Pn.refl.set hp) (W8 m1 e1 e2) w1.set (st.trans Step.set)
end
structure Walks (K:PySem.W.Frag)(J:It)(T:List Sl)(ds:List D):Prop where
 no:∀t∈T,t.o=.no
 go:∀i H,(∀t∈T,t.ok K H)->i<ds.length->J.go i H
 stop:∀H,(∀t∈T,t.ok K H)->J.stop ds.length H
 yld:∀i H v H' d,(∀t∈T,t.ok K H)->J.yld i H v H'->ds[i]?=some d->∃z:Sl,z.o=.no/\z.d=d/\z.v=v/\jZ H H'/\z.ok K H'/\∀b∈z.as,∃t∈T,b∈t.as
noncomputable def tI(Z:Fx0)(q:Bool)(it:Ev (List D)):TI:=fun σ H R=>∃E L r,Mt E σ L/\World Z.K H L/\it E=some r/\Xc Z σ H L r /\
 ∀E' ds,r=.ok E' ds->∀J T L' H',Mt E' σ L'->World Z.K H' (L'++T.map some)->Step H L H' (L'++T.map some)->ds.length<=sizeLine->(q=true->jZ H H')->Walks Z.K J T ds->R J H'
def QI(X:Cx)(Z:Fx0)(q:Bool)(tg:Expr)(it:Ev (List D))(e:Expr):Prop:=PI X tg e (tI Z q it)
def vwj(K:PySem.W.Frag)(H0:Hp)(T:List Sl)(H:Hp):Prop:=(∀t∈T,t.ok K H)/\∀t∈T,Kp H0 H t.as
structure WalksD (K:PySem.W.Frag)(H0:Hp)(J:It)(T:List Sl)(ds:List D):Prop where
 no:∀t∈T,t.o=.no
 go:∀i H,vwj K H0 T H->i<ds.length->J.go i H
 stop:∀H,vwj K H0 T H->J.stop ds.length H
 yld:∀i H v H' d,vwj K H0 T H->J.yld i H v H'->ds[i]?=some d->∃z:Sl,z.o=.no/\z.d=d/\z.v=v/\jZ H H'/\z.ok K H'/\∀b∈z.as,∃t∈T,b∈t.as
theorem Walks.D{K:PySem.W.Frag}{H0:Hp}{J:It}{T:List Sl}{ds:List D}(h:Walks K J T ds):WalksD K H0 J T ds:=⟨h.no,λi H o=>h.go i H o.1,λH o=>h.stop H o.1,λi H v H' d o=>h.yld i H v H' d o.1⟩
noncomputable def tID(Z:Fx0)(q:Bool)(it:Ev (List D)):TI:=fun σ H R=>∃E L r,Mt E σ L/\World Z.K H L/\it E=some r/\Xc Z σ H L r /\
 ∀E' ds,r=.ok E' ds->∀J T L' H',Mt E' σ L'->World Z.K H' (L'++T.map some)->Step H L H' (L'++T.map some)->ds.length<=sizeLine->(q=true->jZ H H')->WalksD Z.K H' J T ds->R J H'
def QID(X:Cx)(Z:Fx0)(q:Bool)(tg:Expr)(it:Ev (List D))(e:Expr):Prop:=PI X tg e (tID Z q it)
theorem QI.D{X:Cx}{Z:Fx0}{q:Bool}{tg:Expr}{it:Ev (List D)}{e:Expr}(h:QI X Z q tg it e):QID X Z q tg it e:=λpins s σ H R I hz=>h pins s σ H R I (by
 obtain⟨E,L,r,m,w,e,x,k⟩:=hz;exact⟨E,L,r,m,w,e,x,λE' ds z J T L' H' m' w' st hl sm wk=>k E' ds z J T L' H' m' w' st hl sm wk.D⟩)
structure WalksS (K:PySem.W.Frag)(q:Bool)(H0:Hp)(J:It)(T:List Sl)(ds:List D):Prop where
 no:∀t∈T,t.o=.no
 go:∀i H,(∀t∈T,t.ok K H)->(q=true->jZ H0 H)->i<ds.length->J.go i H
 stop:∀H,(∀t∈T,t.ok K H)->(q=true->jZ H0 H)->J.stop ds.length H
 yld:∀i H v H' d,(∀t∈T,t.ok K H)->(q=true->jZ H0 H)->J.yld i H v H'->ds[i]?=some d->∃z:Sl,z.o=.no/\z.d=d/\z.v=v/\jZ H H'/\z.ok K H'/\∀b∈z.as,∃t∈T,b∈t.as
theorem qv8{K:PySem.W.Frag}{q:Bool}{H0:Hp}{J:It}{T:List Sl}{ds:List D}(h:Walks K J T ds):WalksS K q H0 J T ds:=⟨h.no,λi H o _=>h.go i H o,λH o _=>h.stop H o,λi H v H' d o _=>h.yld i H v H' d o⟩
noncomputable def tIS(Z:Fx0)(q:Bool)(it:Ev (List D)):TI:=fun σ H R=>∃E L r,Mt E σ L/\World Z.K H L/\it E=some r/\Xc Z σ H L r /\
 ∀E' ds,r=.ok E' ds->∀J T L' H',Mt E' σ L'->World Z.K H' (L'++T.map some)->Step H L H' (L'++T.map some)->ds.length<=sizeLine->(q=true->jZ H H')->WalksS Z.K q H J T ds->R J H'
def QIS(X:Cx)(Z:Fx0)(q:Bool)(tg:Expr)(it:Ev (List D))(e:Expr):Prop:=PI X tg e (tIS Z q it)
theorem vx0{X:Cx}{Z:Fx0}{q:Bool}{tg:Expr}{it:Ev (List D)}{e:Expr}(h:QI X Z q tg it e):QIS X Z q tg it e:=λpins s σ H R I hz=>h pins s σ H R I (by
 obtain⟨E,L,r,m,w,e,x,k⟩:=hz;exact⟨E,L,r,m,w,e,x,λE' ds z J T L' H' m' w' st hl sm wk=>k E' ds z J T L' H' m' w' st hl sm (qv8 wk)⟩)
noncomputable def tG(Z:Fx0)(pn:List Nat)(tg:Tg):TG:=λv σ H Q=>∃(E:En) (L:Ls) (z:Sl) (E':En),Mt E σ L/\World Z.K H (some z::L)/\z.o=.no/\z.v=v/\tg.put z.d E=some E' /\
 ∀ σ' L',Pn pn σ σ'->Mt E' σ' L'->World Z.K H L'->Step H (some z::L) H L'->Q σ' H
def QG(X:Cx)(Z:Fx0)(pn:List Nat)(tg:Tg)(e:Expr):Prop:=PG X e (tG Z pn tg)
section
variable {X:Cx}{Z:Fx0}{pn:List Nat}{e:Expr}{σ:L2.St}{H:Hp}{L:Ls}{E:En}
theorem qqc{t t':TG}(h:PG X e t)(w:∀v σ H Q,t' v σ H Q->t v σ H Q):PG X e t':=λpins s σ H x v Q I r q=>h pins s σ H x v Q I r (w x σ H Q q)
theorem Wx{i:Nat}(h:PG X e (Vz i))(hp:autoParam (i∉pn) ŕ):QG X Z pn (.n i) e:=qqc h λv σ H Q ⟨E,L,z,E',m,w,ho,hv,bv,k⟩=>by
 cases oq9 bv;rw[<-hv];exact k (σ.set i (some z.v)) (L.set i (some z)) (Pn.refl.set hp) (W8 m ho rfl) w.set Step.set
def gNs:List Nat->TGs
 |[]=>vxe
 |i::is=>vkj (Vz i) (gNs is)
theorem kz6{Q:L2.St->Hp->Prop}{M:Ls}{σ0:L2.St}:∀{is:List Nat} {ds:List D} {xs:List V} {bs:List Addr} {E:En} {L:Ls} {σ:L2.St} {E':En},Mt E σ L->World Z.K H L->RepA Z.K H true ds xs bs->(∀b∈bs,b∉jk L)->(∀b∈bs,b∈jX M)->Step H M H L->Pn pn σ0 σ ->
  setAll is ds E=some E'->(∀i∈is,i∉pn)->(∀ σ' L',Pn pn σ0 σ'->Mt E' σ' L'->World Z.K H L'->Step H M H L'->Q σ' H)->gNs is xs σ H Q
 | [],[],xs,bs,E,L,σ,E',m,w,r,_,_,st,p,e,_,k=>by
  cases oq9 e;unfold RepA at r;exact⟨r.1,k σ L p m w st⟩
 | [],_::_,_,_,_,_,_,_,_,_,_,_,_,_,_,e,_,_=>by cases e
 | _::_,[],_,_,_,_,_,_,_,_,_,_,_,_,_,e,_,_=>by cases e
 | i::is,d::ds,xs,bs,E,L,σ,E',m,w,r,hb,hf,st,p,e,hi,k=>by
  unfold RepA at r;obtain⟨x,rr,cs,es,rfl,rfl,h1,h2⟩:=r;have w1:World Z.K H (some ⟨.no,d,x,cs⟩::L):=w.consNo (x:=⟨.no,d,x,cs⟩) h1 rfl λb de=>hb b (ll9 _ de)
  have s1:Step H M H (L.set i (some ⟨.no,d,x,cs⟩)):=by
   refine⟨λ_ _ h _=>h,λa ha=>?_,λa ha=>?_⟩
   ·rcases Q0 ha with z|z
    ·exact nomatch z
    ·exact st.own a z
   ·rcases Vx ha with z|z
    ·exact .inl (hf a (ll9 _ z))
    ·exact st.frz a z
  exact⟨x,rr,rfl,kz6 (is:=is) (W8 (x:=⟨.no,d,x,cs⟩) (s:=(.no,d)) m rfl rfl) w1.set h2 (λb de ho=>by
   rcases Q0 ho with z|z
   ·exact nomatch z
   ·exact hb b (lr9 _ de) z) (λb de=>hf b (lr9 _ de)) s1 (p.set (hi i X3)) e (λj hj=>hi j (lc9 _ hj)) k⟩
theorem jz7:∀{is:List Nat} {ds:List D} {E E':En},setAll is ds E=some E'->is.length=ds.length
 |[],[],_,_,_=>rfl
 |[],_::_,_,_,e=>by cases e
 |_::_,[],_,_,e=>by cases e
 |i::is,d::ds,E,E',e=>by rw[Xj,Xj,jz7 (E:=E.set i (some (.no,d))) e]
noncomputable def vw0(K:PySem.W.Frag)(n:Nat)(t:TGs):TG:=λv σ H Q=>∃a xs,v=.ref a/\(SqT K H a xs\/SqL K H a xs)/\xs.length=n/\t xs σ H Q
section
variable {prog:Program}{w:PySem.World}{A:Around}{E':Value->Shared->Prop}
theorem kk9{it t:Addr}{items:Array Value}(db:t≠it):∀(n i:Nat) (s:Shared) (Q:List Value->Shared->Prop),s.heap.IsListIter it t i->s.heap.IsList t items->i+n<=items.size ->
  (∀h',h'.IsListIter it t (i+n)->Heap.SameBut it s.heap h'->Q ((items.toList.drop i).take n) { s with heap:=h' })->wpAny (model prog w) A (draw (.ref it) n) Q E' s
 | 0,i,s,Q,ib,_,_,hQ=>by
  show wpAny _ _ (pure []) Q E' s;exact Xf (by simpa using hQ s.heap ib (Heap.SameBut.refl ..))
 | n+1,i,s,Q,ib,ht,fi,hQ=>by
  have dl:i<items.size:=by omega
  show wpAny _ _ (pyNext (.ref it) >>= _) Q E' s;refine X2 (wpAny_pyNext_list_item ib ht (x:=items[i]) (by simp[dl]) λh₁ ik le=>?_);have ht₁:h₁.IsList t items:=by
   obtain⟨o,ho,r⟩:=ht;exact⟨o,(le.2 t db).trans ho,r⟩
  refine X2 (Yd (kk9 db n (i+1) _ _ ik ht₁ (by omega) λh₂ hit₂ hs₂=>Xf ?_));have hd:items.toList.drop i=items[i]::items.toList.drop (i+1):=by simp[List.drop_eq_getElem_cons,dl]
  have:=hQ h₂ (by rw[show i+(n+1)=i+1+n by omega];exact hit₂) (le.trans hs₂);rw[hd,List.take_succ_cons]at this;exact this
theorem jwu{s:Shared}{t:Addr}{items:Array Value}{Q:List Value->Shared->Prop}(hh:A.handled=none)(ht:s.heap.IsList t items)
  (hQ:∀h',Heap.ExtBut s.heap.objs.size s.heap h'->Q items.toList { s with heap:=h' }):wpAny (model prog w) A (unpackItems (.ref t) items.size none) Q E' s:=by
 have dl:t≠s.heap.objs.size:=by obtain⟨o,ho,_⟩:=ht;exact Xr (Xe ho)
 unfold unpackItems;refine X2 ?_;unfold notIterableAtAll;refine X2 (wpAny_specialOf ht.typeIs slot_list_iter.lookup ?_);refine Xf ?_;simp only[Bool.false_eq_true,if_false];refine X2 (Yd (wpAny_pyIter_list ht ?_));have ht0:∀o:Obj,(s.heap.push o).IsList t items:=λo=>by
  obtain⟨ob,ho,r⟩:=ht;exact⟨ob,X6 _ ho,r⟩
 refine X2 (Yd (kk9 dl items.size 0 _ _ ⟨_,Xk _ rfl,rfl,rfl⟩ (ht0 _) (by omega) λh₁ ik le=>?_));have iw:List.take items.size (List.drop 0 items.toList)=items.toList:=by
  rw[List.drop_zero];exact List.take_of_length_le (by simp)
 rw[iw];rw[Xg (by simp)];have ht₁:h₁.IsList t items:=by
  obtain⟨o,ho,r⟩:=ht0 _;exact⟨o,(le.2 t dl).trans ho,r⟩
 refine X2 (Yd (wpAny_pyNext_list_end hh ik ht₁ (by simp) λh₂ he₂=>?_));simp only[Option.isSome_none,Bool.false_eq_true,if_false];exact Xf (hQ h₂ λb o hb e=>he₂ b o hb (le.extBut b o hb (X6 _ e)))
theorem jwk{s:Shared}{env:Env}{dh:List Expr}{x1}{pos:Pos}{t:Addr}{items:Array Value}{Q:Unit->Shared->Prop}(hh:A.handled=none)(ht:s.heap.IsList t items)
  (hn:(assignEach dh env).length=items.size) (jf:(assignEach dh env).findIdx? (·.1)=none)
  (h:∀h',Heap.ExtBut s.heap.objs.size s.heap h'->wpAny (model prog w) A (assignInOrder ((assignEach dh env).map (·.2)) items.toList) Q E' { s with heap:=h' }):
  wpAny (model prog w) A (assign (.Tuple dh x1 pos) env (.ref t)) Q E' s:=by
 rw[assign_Tuple];refine X2 (wpAny_standAt ?_);unfold unpack;rw[hn,jf];exact X2 (Yd (jwu hh ht h))
end
theorem kx8(K:PySem.W.Frag){es:List Expr}{k:Nat}{t:TGs}{n:Nat}{pos:Pos}(h:PGs X es t)(hc:autoParam (X.calm=true) Ŕ)(hK:autoParam (X.K=K) Ŕ)
  (hn:autoParam ((assignEach es X.env).length=n) Ŕ) (fj:autoParam ((assignEach es X.env).findIdx? (·.1)=none) Ŕ):PG X (.Tuple es k pos) (vw0 K n t):=by
 subst hK;intro pins s σ H v u Q I r hw;obtain⟨a,xs,e1,hq,hl,hw⟩:=hw;subst e1;cases r;rcases hq with hq|hq
 ·obtain⟨ai,rv,ht,hz⟩:=I.tuple hq;refine assign_Tuple_tuple (I.ok.hd hc) ht (by simp[hn,<-hl,rv.length]) fj λh' hx=>?_
  have I1:L2.Inv X pins σ H { s with heap:=h' }:=I.kept (t':=s.toks) λb o e=>hx b o (Xr (Xe e)) e
  exact h pins _ σ H xs _ Q I1 (by simpa using rv) hw
 ·obtain⟨ai,rv,ht,hz⟩:=I.list hq;refine jwk (I.ok.hd hc) ht.isList (by simp[hn,<-hl,rv.length]) fj λh' hx=>?_
  have I1:L2.Inv X pins σ H { s with heap:=h' }:=I.kept (t':=s.toks) λb o e=>hx b o (Xr (Xe e)) e
  exact h pins _ σ H xs _ Q I1 (by simpa using rv) hw
theorem vvc{is:List Nat}(h:PG X e (vw0 Z.K is.length (gNs is)))(hp:autoParam (∀i∈is,i∉pn) ŕ):QG X Z pn (.t is) e:=qqc h λv σ H Q ⟨E,L,z,E',m,w,ho,hv,bv,k⟩=>by
 have fin:∀ds:List D,(z.d=.lst ds\/z.d=.tup ds)->setAll is ds E=some E'->vw0 Z.K is.length (gNs is) v σ H Q:=λds hd bv=>by
  obtain⟨a,xs,bs,e1,q1,r,h1,h2⟩:=items w.head hd;rw[ho]at r;refine⟨a,xs,hv.symm.trans e1,?_,by rw[jz7 bv,r.len],kz6 (M:=some z::L) m w.tail r (λb hb=>w.apart b (h1 b hb)) (λb hb=>?_) Step.drop Pn.refl bv hp k⟩
  ·rcases q1 with⟨_,z'⟩|⟨_,z'⟩
   ·exact .inr z'.sq
   ·exact .inl z'
  ·rw[qq,W4 ho];exact ll9 _ (h1 b hb)
 cases hd:z.d with
 |tup ds=>rw[hd]at bv;exact fin ds (.inr hd) bv
 |lst ds=>rw[hd]at bv;exact fin ds (.inl hd) bv
 |_=>rw[hd]at bv;cases bv
theorem qzp{is:List Nat}{q:Bool}{c:Ex}{ea tg:Expr}{pos:Pos}(h:QE X Z q c ea)(hg:QG X Z pn (.t is) tg)(hs:autoParam (swapsWithSole [tg] ea pos.line X.env=pure false) Ŕ)(hw:autoParam (swappedStores [tg] ea X.env=pure none) Ŕ)(h1:autoParam ((assignEach [tg] X.env).map (·.2)=[assign tg X.env]) Ŕ):
  QS X Z pn (vqe is c) (.Assign [tg] ea pos):=zV (vj6 h hg hs hw h1) λD σ H b5=>ex7 b5 λE L r m w hc k=>
 Wz m w (show ofE (c E) _=some r from hc) k λE1 s h1 x L1 H1 e1 e2 m1 w1 st _=>by
  cases hp:Tg.put (.t is) s.2 E1 with
  |none=>rw[hp]at h1;cases h1
  |some E2=>
   rw[hp]at h1;cases oq9 h1;have w2:World Z.K H1 (some x.let::L1):=w1.tail.consNo (K1 w1.head) rfl λb hb=>w1.apart b hb
   have s2:Step H L H1 (some x.let::L1):=JY (x:=x.let) (st.trans Step.drop) (jx0 (x:=x) st) rfl;exact⟨E1,L1,x.let,E2,m1,w2,rfl,rfl,by rw[show x.let.d=s.2 from e2];exact hp,fun σ' L' p m' w' s'=>k σ' L' H1 p m' w' (s2.trans s')⟩
end
section
variable {X:Cx}{Z:Fx0}{pn:List Nat}{q:Bool}{tg az:Expr}{it:Ev (List D)}{t:Tg}{B:Sm}{ss:List Stmt}{pos:Pos}{σ:L2.St}{H:Hp}{L:Ls}{E:En}
theorem jzd{K:PySem.W.Frag}{T:List Sl}{H1 H2:Hp}{L1:Ls}{z:Sl}(w:World K H1 (L1++T.map some))(hT:∀t∈T,t.o=.no)(sm:jZ H1 H2)(ok:z.ok K H2)(ho:z.o=.no)(hz:∀b∈z.as,∃t∈T,b∈t.as):
  World K H2 ((some z::L1)++T.map some)/\Step H1 (L1++T.map some) H2 ((some z::L1)++T.map some):=by
 have w2:World K H2 (L1++T.map some):=⟨λx hx=>RepO.kp (w.ok x hx) (Kp.of_same sm),w.nd,w.ds⟩;have hf:∀b∈z.as,b∈jX (L1++T.map some):=λb hb=>by
  obtain⟨t,ht,hbt⟩:=hz b hb;rw[kJ];exact lr9 _ (mem_frozen.mpr ⟨t,Xh ht,by rw[W4 (hT t ht)];exact hbt⟩)
 refine⟨w2.consNo ok ho λb hb hL=>w2.ds b hL (hf b hb),λa ob h _=>sm a ob h,λa ha=>?_,λa ha=>?_⟩
 ·rw[List.cons_append,k7,kxe ho]at ha;exact .inl ha
 ·rw[List.cons_append,qq,W4 ho]at ha;rcases List.mem_append.mp ha with q|q
  ·exact .inl (hf a q)
  ·exact .inl q
theorem stay{K:PySem.W.Frag}{T L1 L2:Ls}{H1 H2:Hp}(w:World K H1 (L1++T))(s:Step H1 L1 H2 L2)(w2:World K H2 L2):World K H2 (L2++T)/\Step H1 (L1++T) H2 (L2++T):=⟨s.frame w w2 w.left,s.frm⟩
theorem Step.dropT{T:Ls}{H1:Hp}{L1:Ls}:Step H1 (L1++T) H1 L1:=⟨λ_ _ h _=>h,λa ha=>.inl (by rw[jQ];exact ll9 _ ha),λa ha=>.inl (by rw[kJ];exact ll9 _ ha)⟩
theorem Kp.trans{H H1 H2:Hp}{as:List Addr}(a:Kp H H1 as)(b:Kp H1 H2 as):Kp H H2 as:=⟨λc xs e=>b.1 c xs (a.1 c xs e),λc o u e=>b.2.1 c o u (a.2.1 c o u e),λc hc ob e=>b.2.2 c hc ob (a.2.2 c hc ob e)⟩
theorem kqv{K:PySem.W.Frag}{H2 H3:Hp}{L2 L3:Ls}{T:List Sl}(w:World K H2 (L2++T.map some))(hT:∀t∈T,t.o=.no)(s:Step H2 L2 H3 L3){H0:Hp}(h:∀t∈T,Kp H0 H2 t.as):∀t∈T,Kp H0 H3 t.as:=λt ht=>
 (h t ht).trans (s.kp w.left λb hb z=>w.ds b (by rw[jQ];exact ll9 _ z) (by
  rw[kJ];exact lr9 _ (mem_frozen.mpr ⟨t,Xh ht,by rw[W4 (hT t ht)];exact hb⟩)))
theorem qzx(hp:PassesOwn (model X.prog X.w) X.A X.env X.xe)(hc:X.calm=true)(hi:QID X Z q tg it az)(hg:QG X Z pn t tg)(hb:QSs X Z pn B ss)(hs:autoParam (∀x,foldedSetIterable az X.env x=pure x) Ŗ):QS X Z pn (xW it t B) (.For tg az ss [] pos):=zV (vj5 hp hc hi hg hb hs) λD σ H b5=>ex7 b5 λE L r m w hr k=>by
 have hr:ofE (it E) (λE ds=>xx t B ds E)=some r:=hr;rcases XZ hr with⟨E1,ds,h1,h2⟩|⟨E1,c,h1,rfl⟩
 rotate_left
 ·exact⟨E,L,_,m,w,h1,k.xc,λE' s' z=>by cases z⟩
 refine⟨E,L,_,m,w,h1,(λ_ _ z=>by cases z),λE' ds' z J T L' H' m' w' st hz _ wk=>?_⟩;injection z with z1 z2;subst z1 z2;have fk:∀{H2:Hp} {L2:Ls},World Z.K H2 (L2++T.map some)->∀t∈T,t.ok Z.K H2:=λw2 t ht=>w2.ok t (lr9 _ (Xh ht))
 refine⟨λi n σ1 H1=>∃E1 L1,Mt E1 σ1 L1/\World Z.K H1 (L1++T.map some)/\Step H L H1 (L1++T.map some)/\Pn pn σ σ1/\xx t B (ds.drop i) E1=some r/\i<=ds.length/\n=ds.length - i/\∀t∈T,Kp H' H1 t.as,⟨_,E1,L',m',w',st,Pn.refl,h2,Nat.zero_le _,rfl,λ_ _=>Kp.of_same wY⟩,?_⟩;rintro i n σ1 H1 ⟨E1,L1,m1,w1,st1,p1,f1,hi,rfl,pins⟩
 by_cases dl:i<ds.length
 ·have hd:ds.drop i=ds[i]::ds.drop (i+1):=List.drop_eq_getElem_cons dl;rw [hd]at f1;unfold xx at f1;cases bv:t.put ds[i] E1 with
  | none=>rw[bv]at f1;cases f1
  | some E2=>
   rw[bv]at f1;dsimp only at f1;refine .inr ⟨wk.go i H1 ⟨fk w1,pins⟩ dl,fun σ2 H2=>∃E2 L2,Mt E2 σ2 L2/\World Z.K H2 (L2++T.map some)/\Step H L H2 (L2++T.map some)/\Pn pn σ σ2/\xx t B (ds.drop (i+1)) E2=some r/\∀t∈T,Kp H' H2 t.as,fun σ2 H2 ⟨E2,L2,a1,a2,a3,a4,a5,a6⟩=>⟨ds.length - (i+1),by omega,E2,L2,a1,a2,a3,a4,a5,dl,rfl,a6⟩,λv H2 hy=>?_⟩;obtain⟨z,zo,zd,zv,sm,kr,zas⟩:=wk.yld i H1 v H2 ds[i] ⟨fk w1,pins⟩ hy (X8 dl);obtain⟨wz,sz⟩:=jzd w1 wk.no sm kr zo zas;refine⟨E1,L1,z,E2,m1,wz.left,zo,zv,by rw[zd];exact bv,fun σ2 L2 p2 m2 w2 cj=>?_⟩;obtain⟨w3,cm⟩:=stay wz cj w2;have fm:Step H L H2 (L2++T.map some):=st1.trans (sz.trans cm);have i5:∀t∈T,Kp H' H2 t.as:=λt ht=>(pins t ht).trans (Kp.of_same sm)
   cases hB:B E2 with
   | none=>rw[hB]at f1;cases f1
   | some g=>
    rw[hB]at f1;refine⟨E2,L2,g,m2,w2,hB,?_⟩;have fin:∀{g:Fl},g=r->(∀ σ',D.nx σ'=D.nx σ')->FlP Z pn D σ2 H2 (L2++T.map some) g:=λe _=>e▸k.step fm (p1.trans p2)
    cases g with
    |nx E3=>
     intro σ3 L3 H3 p3 m3 w4 s3;obtain⟨w5,s5⟩:=stay w3 s3 w4;exact⟨E3,L3,m3,w5,fm.trans s5,(p1.trans p2).trans p3,f1,kqv w3 wk.no s3 i5⟩
    |ct E3=>
     intro σ3 L3 H3 p3 m3 w4 s3;obtain⟨w5,s5⟩:=stay w3 s3 w4;exact⟨E3,L3,m3,w5,fm.trans s5,(p1.trans p2).trans p3,f1,kqv w3 wk.no s3 i5⟩
    |bk E3=>
     have e:=oq9 f1;subst e;intro σ3 L3 H3 p3 m3 w4 s3;exact k σ3 L3 H3 ((p1.trans p2).trans p3) m3 w4 ((fm.trans Step.dropT).trans s3)
    |rt E3 x=>
     have e:=oq9 f1;subst e;intro y σ3 L3 H3 e1 e2 p3 m3 w4 s3;exact k y σ3 L3 H3 e1 e2 ((p1.trans p2).trans p3) m3 w4 ((fm.trans Step.dropT).trans s3)
    |xc E3 c=>
     have e:=oq9 f1;subst e;intro C σ3 L3 H3 hm p3 m3 w4 s3;exact k C σ3 L3 H3 hm ((p1.trans p2).trans p3) m3 w4 ((fm.trans Step.dropT).trans s3)
 ·have e:i=ds.length:=by omega
  subst e;rw[List.drop_length]at f1;cases oq9 f1;exact .inl ⟨wk.stop H1 ⟨fk w1,pins⟩,k σ1 L1 H1 p1 m1 w1.left (st1.trans Step.dropT)⟩
theorem vvd(hp:PassesOwn (model X.prog X.w) X.A X.env X.xe)(hc:X.calm=true)(hi:QI X Z q tg it az)(hg:QG X Z pn t tg)(hb:QSs X Z pn B ss)(hs:autoParam (∀x,foldedSetIterable az X.env x=pure x) Ŗ):QS X Z pn (xW it t B) (.For tg az ss [] pos):=qzx hp hc hi.D hg hb hs
end
mutual
noncomputable def jz(h:Heap):D->Value->Prop
 |.non,u=>u=.none
 |.bl b,u=>u=.bool b
 |.int i,u=>∃t,u=.int i t
 |.str z,u=>∃t,u=.str z t
 |.tup ds,u=>∃a us,u=.ref a/\h.IsTuple a us.toArray/\CReps h ds us
 |.lst ds,u=>∃a us,u=.ref a/\h.IsList a us.toArray/\CReps h ds us
 |.dct _,_=>False
 |.obj _ _,_=>False
noncomputable def CReps(h:Heap):List D->List Value->Prop
 |[],us=>us=[]
 |d::ds,us=>∃u r,us=u::r/\jz h d u/\CReps h ds r
end
theorem kvf{n:Nat}{k:List (D×D)}:D.flat n (.dct k)=false:=by cases n<;>simp[D.flat]
theorem kve{n:Nat}{c:Str}{k:List (Str×D)}:D.flat n (.obj c k)=false:=by cases n<;>simp[D.flat]
section
variable {X:Cx}{pins:List (Addr×Obj)}{σ:L2.St}{H:Hp}{s:Shared}
mutual
theorem Kk(I:Inv X pins σ H s){g:Bool}:∀{n:Nat} {d:D} {v:V} {as:List Addr} {u:Value},RepL X.K H g d v as->d.flat n=true->RelV v u->jz s.heap d u
 | _,.non,_,_,_,h,_,r=>by
  unfold RepL at h;rw[h.1]at r;unfold jz;exact r
 | _,.bl _,_,_,_,h,_,r=>by
  unfold RepL at h;rw[h.1]at r;unfold jz;exact r
 | _,.int _,_,_,_,h,_,r=>by
  unfold RepL at h;rw[h.1]at r;unfold jz;exact r
 | _,.str _,_,_,_,h,_,r=>by
  unfold RepL at h;rw[h.1]at r;unfold jz;exact r
 | 0,.tup ds,_,_,_,h,f,r=>by unfold D.flat at f;cases f
 | n+1,.tup ds,_,_,_,h,f,r=>by
  unfold RepL at h;unfold D.flat at f;obtain⟨a,xs,rfl,q,ra⟩:=h;cases r;obtain⟨ai,rv,p,_⟩:=I.tuple q;unfold jz;exact⟨a,ai,rfl,p,creps_of I ra f rv⟩
 | 0,.lst ds,_,_,_,h,f,r=>by unfold D.flat at f;cases f
 | n+1,.lst ds,_,_,_,h,f,r=>by
  unfold RepL at h;unfold D.flat at f;obtain⟨a,xs,bs,rfl,ra,q⟩:=h;cases r;have q':SqL X.K H a xs:=by
   rcases q with⟨q,_⟩|⟨_,q,_⟩
   ·exact SqL.of q
   ·exact(LsR.of q).sq
  obtain⟨ai,rv,p,_⟩:=I.list q';unfold jz;exact⟨a,ai,rfl,p.isList,creps_of I ra f rv⟩
 |_,.dct _,_,_,_,h,f,r=>by rw[kvf]at f;cases f
 |_,.obj _ _,_,_,_,h,f,r=>by rw[kve]at f;cases f
theorem creps_of(I:Inv X pins σ H s){g:Bool}:∀{n:Nat} {ds:List D} {xs:List V} {as:List Addr} {us:List Value},RepA X.K H g ds xs as->D.flats n ds=true->Vals xs us->CReps s.heap ds us
 | _,[],_,_,_,h,_,r=>by
  unfold RepA at h;rw[h.1]at r;cases r;unfold CReps;rfl
 | n,d::ds,_,_,_,h,f,r=>by
  unfold RepA at h;unfold D.flats at f;rw[Bool.and_eq_true]at f;obtain⟨x,rr,bs,cs,rfl,rfl,h1,h2⟩:=h;cases r with
  |cons r1 r2=>
   unfold CReps;exact⟨_,_,rfl,Kk I h1 f.1 r1,creps_of I h2 f.2 r2⟩
end
end
theorem CReps.len{h:Heap}:∀{ds:List D} {us:List Value},CReps h ds us->ds.length=us.length
 |[],_,r=>by unfold CReps at r;rw[r];rfl
 |d::ds,_,r=>by
  unfold CReps at r;obtain⟨u,rr,rfl,_,h2⟩:=r;simp[CReps.len h2]
theorem CReps.get{h:Heap}:∀{ds:List D} {us:List Value} {j:Nat} {d:D},CReps h ds us->ds[j]?=some d->∃u,us[j]?=some u/\jz h d u
 | [],_,_,_,_,e=>by simp at e
 | d::ds,_,j,d',r,e=>by
  unfold CReps at r;obtain⟨u,rr,rfl,h1,h2⟩:=r;cases j with
  |zero=>
   have e:d=d':=by simpa using e
   subst e;exact⟨u,by simp,h1⟩
  |succ j=>
   obtain⟨w,e1,e2⟩:=CReps.get (j:=j) h2 (by simpa using e);exact⟨w,by simpa using e1,e2⟩
theorem qv9{h:Heap}{a:Addr}{x y:Array Value}(p:h.IsTuple a x)(q:h.IsTuple a y):x=y:=by
 obtain⟨o,h1,_,n,h2⟩:=p;obtain⟨o',h3,_,n',h4⟩:=q;rw[h1]at h3;cases h3;rw[h2]at h4;injection h4
theorem qwp{h:Heap}{a:Addr}{x y:Array Value}(p:h.IsList a x)(q:h.IsList a y):x=y:=by
 obtain⟨o,h1,_,n,h2⟩:=p;obtain⟨o',h3,_,n',h4⟩:=q;rw[h1]at h3;cases h3;rw[h2]at h4;injection h4
theorem kxn{h:Heap}{a:Addr}{x y:Array Value}(p:h.IsList a x)(q:h.IsTuple a y):False:=by
 obtain⟨o,h1,h2,_⟩:=p;obtain⟨o',h3,h4,_⟩:=q;rw[h1]at h3;cases h3;rw[h2]at h4;exact absurd (Value.type.inj h4) (by decide)
mutual
theorem kj8{h:Heap}:∀{d d':D} {u:Value},jz h d u->jz h d' u->d=d'
 | .non,d',u,a,b=>by
  unfold jz at a;subst a;cases d'<;>unfold jz at b<;>first|rfl|exact b.elim|(cases b;done)|(obtain⟨_,b⟩:=b;cases b;done)|(obtain⟨_,_,b,_⟩:=b;cases b)
 | .bl k,d',u,a,b=>by
  unfold jz at a;subst a;cases d'<;>unfold jz at b<;>first|exact b.elim|(cases b;rfl)|(cases b;done)|(obtain⟨_,b⟩:=b;cases b;done)|(obtain⟨_,_,b,_⟩:=b;cases b)
 | .int k,d',u,a,b=>by
  unfold jz at a;obtain⟨t,rfl⟩:=a;cases d'<;>unfold jz at b<;>first|exact b.elim|(cases b;done)|(obtain⟨_,b⟩:=b;cases b;rfl)|(obtain⟨_,b⟩:=b;cases b;done)|(obtain⟨_,_,b,_⟩:=b;cases b)
 | .str k,d',u,a,b=>by
  unfold jz at a;obtain⟨t,rfl⟩:=a;cases d'<;>unfold jz at b<;>first|exact b.elim|(cases b;done)|(obtain⟨_,b⟩:=b;cases b;rfl)|(obtain⟨_,b⟩:=b;cases b;done)|(obtain⟨_,_,b,_⟩:=b;cases b)
 | .tup ds,d',u,a,b=>by
  unfold jz at a;obtain⟨x,us,rfl,p,r⟩:=a;cases d' with
  |tup es=>
   unfold jz at b;obtain⟨y,ws,e,p',r'⟩:=b;cases e;have e2:us=ws:=by simpa using qv9 p p'
   subst e2;rw[creps_inj r r']
  |lst es=>
   unfold jz at b;obtain⟨y,ws,e,p',r'⟩:=b;cases e;exact(kxn p' p).elim
  |non=>unfold jz at b;cases b
  |bl k=>unfold jz at b;cases b
  |int k=>unfold jz at b;obtain⟨_,b⟩:=b;cases b
  |str k=>unfold jz at b;obtain⟨_,b⟩:=b;cases b
  |dct k=>unfold jz at b;exact b.elim
  |obj k l=>unfold jz at b;exact b.elim
 | .lst ds,d',u,a,b=>by
  unfold jz at a;obtain⟨x,us,rfl,p,r⟩:=a;cases d' with
  |lst es=>
   unfold jz at b;obtain⟨y,ws,e,p',r'⟩:=b;cases e;have e2:us=ws:=by simpa using qwp p p'
   subst e2;rw[creps_inj r r']
  |tup es=>
   unfold jz at b;obtain⟨y,ws,e,p',r'⟩:=b;cases e;exact(kxn p p').elim
  |non=>unfold jz at b;cases b
  |bl k=>unfold jz at b;cases b
  |int k=>unfold jz at b;obtain⟨_,b⟩:=b;cases b
  |str k=>unfold jz at b;obtain⟨_,b⟩:=b;cases b
  |dct k=>unfold jz at b;exact b.elim
  |obj k l=>unfold jz at b;exact b.elim
 |.dct k,_,_,a,_=>by unfold jz at a;exact a.elim
 |.obj k l,_,_,a,_=>by unfold jz at a;exact a.elim
theorem creps_inj{h:Heap}:∀{ds ds':List D} {us:List Value},CReps h ds us->CReps h ds' us->ds=ds'
 | [],ds',us,a,b=>by
  unfold CReps at a;subst a;cases ds' with
  |nil=>rfl
  |cons d ds=>unfold CReps at b;obtain⟨_,_,e,_⟩:=b;cases e
 | d::ds,ds',us,a,b=>by
  unfold CReps at a;obtain⟨u,r,rfl,h1,h2⟩:=a;cases ds' with
  |nil=>unfold CReps at b;cases b
  |cons d' ds'=>
   unfold CReps at b;obtain⟨u',r',e,h3,h4⟩:=b;cases e;rw[kj8 h1 h3,creps_inj h2 h4]
end
mutual
theorem WX:∀{n:Nat} {d:D},d.flat n=true->peq d d=true
 |_,.non,_=>by unfold peq;rfl
 |_,.bl b,_=>by unfold peq;simp
 |_,.int b,_=>by unfold peq;simp
 |_,.str b,_=>by unfold peq;simp
 |0,.tup ds,f=>by unfold D.flat at f;cases f
 |n+1,.tup ds,f=>by unfold peq;unfold D.flat at f;exact peqs_refl f
 |0,.lst ds,f=>by unfold D.flat at f;cases f
 |n+1,.lst ds,f=>by unfold peq;unfold D.flat at f;exact peqs_refl f
 |_,.dct _,f=>by rw[kvf]at f;cases f
 |_,.obj _ _,f=>by rw[kve]at f;cases f
theorem peqs_refl:∀{n:Nat} {d:List D},D.flats n d=true->peqs d d=true
 |_,[],_=>by unfold peqs;rfl
 |n,d::ds,f=>by
  unfold D.flats at f;rw[Bool.and_eq_true]at f;unfold peqs;rw[WX f.1,peqs_refl f.2];rfl
end
theorem YK : ∀{n : Nat} {ds : List D} {j : Nat} {d : D}, D.flats n ds = true -> ds[j]? = some d -> d.flat n = true
  | _, [], _, _, _, e=>by simp at e
  | n, d::ds, j, d', f, e=>by
    unfold D.flats at f;rw[Bool.and_eq_true]at f;cases j with
    | zero => have e : d = d':= by simpa using e
              subst e; exact f.1
    |succ j=>exact YK (j:= j) f.2 (by simpa using e)
def pAt(as bs:List D)(j:Nat):Bool:=match as[j]?,bs[j]? with
 |some a,some b=>peq a b
 |_,_=>true
theorem Yz:∀(as bs:List D),as.length=bs.length->(List.range as.length).all (pAt as bs)=peqs as bs
 |[],[],_=>by unfold peqs;rfl
 |a::as,b::bs,h=>by
  have ih:=Yz as bs (by simpa using h);rw[Xj,List.range_succ_eq_map,List.all_cons,List.all_map];unfold peqs;rw[<-ih];rfl
 |[],_::_,h=>by simp at h
 |_::_,[],h=>by simp at h
theorem jx2:∀(as bs:List D),as.length≠bs.length->peqs as bs=false
 |[],[],h=>by simp at h
 |a::as,b::bs,h=>by
  unfold peqs;rw[jx2 as bs (by simpa using h),Bool.and_false]
 |[],_::_,_=>by unfold peqs;rfl
 |_::_,[],_=>by unfold peqs;rfl
theorem kqi(as bs:List D):((List.range (min as.length bs.length)).all (pAt as bs)&&as.length==bs.length)=peqs as bs:=by
 by_cases e:as.length=bs.length
 ·rw[<-e,Nat.min_self,Yz as bs e];simp[e]
 ·rw[jx2 as bs e];have:(as.length==bs.length)=false:=by simpa using e
  rw[this,Bool.and_false]
section
variable {s:Shared}
theorem kky{as bs:List D}{us ws:List Value}{A:Around}(ra:CReps s.heap as us)(rb:CReps s.heap bs ws)
  (h:∀(j:Nat) (d d':D) (u w:Value),as[j]?=some d->bs[j]?=some d'->jz s.heap d u->jz s.heap d' w->SeqAt.EqAt A s u w (peq d d')):
  ∀j (h1:j<us.toArray.size) (h2:j<ws.toArray.size),SeqAt.EqAt A s us.toArray[j] ws.toArray[j] (pAt as bs j):=λj h1 h2=>by
 have l1:=ra.len;have l2:=rb.len;simp only[X4]at h1 h2;have ha:j<as.length:=by omega
 have hb:j<bs.length:=by omega
 obtain⟨u,eu,ru⟩:=ra.get (X8 ha);obtain⟨w,ew,lr⟩:=rb.get (X8 hb);have e1:us.toArray[j]=u:=by
  obtain⟨_,q⟩:=List.getElem?_eq_some_iff.mp eu
  simpa using q
 have e2:ws.toArray[j]=w:=by
  obtain⟨_,q⟩:=List.getElem?_eq_some_iff.mp ew
  simpa using q
 have e3:pAt as bs j=peq as[j] bs[j]:=by
  unfold pAt;rw[X8 ha,X8 hb]
 rw[e1,e2,e3];exact h j _ _ u w (X8 ha) (X8 hb) ru lr
inductive Cv (h:Heap):D->Value->Prop
 |non:Cv h .non .none
 |bl (b:Bool):Cv h (.bl b) (.bool b)
 |int (i:Int) (t:_):Cv h (.int i) (.int i t)
 |str (z:Str) (t:_):Cv h (.str z) (.str z t)
 |lst {ds:List D} {a:Addr} {us:List Value} (p:h.IsList a us.toArray) (q:CReps h ds us):Cv h (.lst ds) (.ref a)
 |tup {ds:List D} {a:Addr} {us:List Value} (p:h.IsTuple a us.toArray) (q:CReps h ds us):Cv h (.tup ds) (.ref a)
theorem crv{h:Heap}{d:D}{u:Value}(r:jz h d u):Cv h d u:=by
 cases d<;>unfold jz at r
 all_goals first|exact r.elim|(subst r;constructor)|(obtain⟨_,rfl⟩:=r;constructor)|(obtain⟨_,_,rfl,p,q⟩:=r;first|exact .lst p q|exact .tup p q)
theorem qzd{A:Around}{d d':D}{u w:Value}(hu:A.units<cLine)(r:jz s.heap d u)(r':jz s.heap d' w)
  (el:∀(as bs:List D) (us ws:List Value),(d=.lst as\/d=.tup as)->(d'=.lst bs\/d'=.tup bs)->CReps s.heap as us->CReps s.heap bs ws->∀j (h1:j<us.toArray.size) (h2:j<ws.toArray.size),SeqAt.EqAt A.in1 s us.toArray[j] ws.toArray[j] (pAt as bs j)):
  SeqAt.RcAt A s u w (peq d d'):=by
 cases crv r<;>cases crv r'<;>unfold peq
 ·exact SeqAt.RcAt.none_none
 ·exact SeqAt.RcAt.none_bool _
 ·exact SeqAt.RcAt.none_int _ _
 ·exact SeqAt.RcAt.none_str _ _
 ·exact SeqAt.RcAt.none_list ‹_› hu
 ·exact SeqAt.RcAt.none_tuple ‹_› hu
 ·exact SeqAt.RcAt.bool_none _
 ·exact SeqAt.RcAt.bool_bool _ _
 ·exact SeqAt.RcAt.bool_int _ _ _
 ·exact SeqAt.RcAt.bool_str _ _ _
 ·exact SeqAt.RcAt.bool_list _ ‹_› hu
 ·exact SeqAt.RcAt.bool_tuple _ ‹_› hu
 ·exact SeqAt.RcAt.int_none _ _
 ·exact SeqAt.RcAt.int_bool _ _ _
 ·exact SeqAt.RcAt.int_int _ _ _ _
 ·exact SeqAt.RcAt.int_str _ _ _ _
 ·exact SeqAt.RcAt.int_list _ _ ‹_› hu
 ·exact SeqAt.RcAt.int_tuple _ _ ‹_› hu
 ·exact SeqAt.RcAt.str_none _ _
 ·exact SeqAt.RcAt.str_bool _ _ _
 ·exact SeqAt.RcAt.str_int _ _ _ _
 ·exact SeqAt.RcAt.str_str _ _ _ _
 ·exact SeqAt.RcAt.str_list _ _ ‹_› hu
 ·exact SeqAt.RcAt.str_tuple _ _ ‹_› hu
 ·exact SeqAt.RcAt.list_none ‹_› hu
 ·exact SeqAt.RcAt.list_bool _ ‹_› hu
 ·exact SeqAt.RcAt.list_int _ _ ‹_› hu
 ·exact SeqAt.RcAt.list_str _ _ ‹_› hu
 ·rename_i as a us p ra bs b ws p' rb;have l1:=ra.len;have l2:=rb.len
  by_cases hl:as.length=bs.length
  ·rw[<-Yz as bs hl];have z:=SeqAt.RcAt.lists (A:=A) (s:=s) (e:=pAt as bs) p p' (by simp only[X4];omega) hu (el as bs us ws (.inl rfl) (.inl rfl) ra rb);rw[X4,<-l1]at z;exact z
  ·rw[jx2 as bs hl];exact SeqAt.RcAt.lists_lengths p p' (by simp only[X4,bne_iff_ne];omega) hu
 ·exact SeqAt.RcAt.list_tuple ‹_› ‹_› hu
 ·exact SeqAt.RcAt.tuple_none ‹_› hu
 ·exact SeqAt.RcAt.tuple_bool _ ‹_› hu
 ·exact SeqAt.RcAt.tuple_int _ _ ‹_› hu
 ·exact SeqAt.RcAt.tuple_str _ _ ‹_› hu
 ·exact SeqAt.RcAt.tuple_list ‹_› ‹_› hu
 ·rename_i as a us p ra bs b ws p' rb;have l1:=ra.len;have l2:=rb.len;rw[<-kqi as bs];have z:=SeqAt.RcAt.tuples (A:=A) (s:=s) (e:=pAt as bs) p p' hu (el as bs us ws (.inr rfl) (.inr rfl) ra rb);rw[X4,X4,<-l1,<-l2]at z;exact z
theorem vv7{A:Around}{d d':D}{u w:Value}(hu:A.units<cLine)(r:jz s.heap d u)(r':jz s.heap d' w)
  (el:∀(as bs:List D) (us ws:List Value),(d=.lst as\/d=.tup as)->(d'=.lst bs\/d'=.tup bs)->CReps s.heap as us->CReps s.heap bs ws->∀j (h1:j<us.toArray.size) (h2:j<ws.toArray.size),SeqAt.EqAt A.in1 s us.toArray[j] ws.toArray[j] (pAt as bs j)):
  SeqAt.RcNeAt A s u w (!peq d d'):=by
 cases crv r<;>cases crv r'<;>unfold peq
 ·exact SeqAt.RcNeAt.none_none
 ·exact SeqAt.RcNeAt.none_bool _
 ·exact SeqAt.RcNeAt.none_int _ _
 ·exact SeqAt.RcNeAt.none_str _ _
 ·exact SeqAt.RcNeAt.none_list ‹_› hu
 ·exact SeqAt.RcNeAt.none_tuple ‹_› hu
 ·exact SeqAt.RcNeAt.bool_none _
 ·exact SeqAt.RcNeAt.bool_bool _ _
 ·exact SeqAt.RcNeAt.bool_int _ _ _
 ·exact SeqAt.RcNeAt.bool_str _ _ _
 ·exact SeqAt.RcNeAt.bool_list _ ‹_› hu
 ·exact SeqAt.RcNeAt.bool_tuple _ ‹_› hu
 ·exact SeqAt.RcNeAt.int_none _ _
 ·exact SeqAt.RcNeAt.int_bool _ _ _
 ·exact SeqAt.RcNeAt.int_int _ _ _ _
 ·exact SeqAt.RcNeAt.int_str _ _ _ _
 ·exact SeqAt.RcNeAt.int_list _ _ ‹_› hu
 ·exact SeqAt.RcNeAt.int_tuple _ _ ‹_› hu
 ·exact SeqAt.RcNeAt.str_none _ _
 ·exact SeqAt.RcNeAt.str_bool _ _ _
 ·exact SeqAt.RcNeAt.str_int _ _ _ _
 ·exact SeqAt.RcNeAt.str_str _ _ _ _
 ·exact SeqAt.RcNeAt.str_list _ _ ‹_› hu
 ·exact SeqAt.RcNeAt.str_tuple _ _ ‹_› hu
 ·exact SeqAt.RcNeAt.list_none ‹_› hu
 ·exact SeqAt.RcNeAt.list_bool _ ‹_› hu
 ·exact SeqAt.RcNeAt.list_int _ _ ‹_› hu
 ·exact SeqAt.RcNeAt.list_str _ _ ‹_› hu
 ·rename_i as a us p ra bs b ws p' rb;have l1:=ra.len;have l2:=rb.len
  by_cases hl:as.length=bs.length
  ·rw[<-Yz as bs hl];have z:=SeqAt.RcNeAt.lists (A:=A) (s:=s) (e:=pAt as bs) p p' (by simp only[X4];omega) hu (el as bs us ws (.inl rfl) (.inl rfl) ra rb);rw[X4,<-l1]at z;exact z
  ·rw[jx2 as bs hl];exact SeqAt.RcNeAt.lists_lengths p p' (by simp only[X4,bne_iff_ne];omega) hu
 ·exact SeqAt.RcNeAt.list_tuple ‹_› ‹_› hu
 ·exact SeqAt.RcNeAt.tuple_none ‹_› hu
 ·exact SeqAt.RcNeAt.tuple_bool _ ‹_› hu
 ·exact SeqAt.RcNeAt.tuple_int _ _ ‹_› hu
 ·exact SeqAt.RcNeAt.tuple_str _ _ ‹_› hu
 ·exact SeqAt.RcNeAt.tuple_list ‹_› ‹_› hu
 ·rename_i as a us p ra bs b ws p' rb;have l1:=ra.len;have l2:=rb.len;rw[<-kqi as bs];have z:=SeqAt.RcNeAt.tuples (A:=A) (s:=s) (e:=pAt as bs) p p' hu (el as bs us ws (.inr rfl) (.inr rfl) ra rb);rw[X4,X4,<-l1,<-l2]at z;exact z
theorem Z6{A:Around}{a a':Addr}{b:Bool}(jd:Value.ref a=Value.ref a'->b=true)(rc:SeqAt.RcAt A s (.ref a) (.ref a') b):SeqAt.EqAt A s (.ref a) (.ref a') b:=by
 by_cases e:a=a'
 ·subst e;rw[jd rfl];exact SeqAt.EqAt.same _
 ·exact SeqAt.EqAt.of_refs e rc
theorem vw4{A:Around}{d d':D}{u w:Value}(hu:A.units<cLine)(r:jz s.heap d u)(r':jz s.heap d' w)(jd:u=w->peq d d'=true)(rc:SeqAt.RcAt A s u w (peq d d')):SeqAt.EqAt A s u w (peq d d'):=by
 cases crv r<;>cases crv r'<;>try unfold peq
 ·exact SeqAt.EqAt.same _
 ·exact SeqAt.EqAt.none_bool _
 ·exact SeqAt.EqAt.none_int _ _
 ·exact SeqAt.EqAt.none_str _ _
 ·exact SeqAt.EqAt.none_list ‹_› hu
 ·exact SeqAt.EqAt.none_tuple ‹_› hu
 ·exact SeqAt.EqAt.bool_none _
 ·exact SeqAt.EqAt.bool_bool _ _
 ·exact SeqAt.EqAt.bool_int _ _ _
 ·exact SeqAt.EqAt.bool_str _ _ _
 ·exact SeqAt.EqAt.bool_list _ ‹_› hu
 ·exact SeqAt.EqAt.bool_tuple _ ‹_› hu
 ·exact SeqAt.EqAt.int_none _ _
 ·exact SeqAt.EqAt.int_bool _ _ _
 ·exact SeqAt.EqAt.int_int _ _ _ _
 ·exact SeqAt.EqAt.int_str _ _ _ _
 ·exact SeqAt.EqAt.int_list _ _ ‹_› hu
 ·exact SeqAt.EqAt.int_tuple _ _ ‹_› hu
 ·exact SeqAt.EqAt.str_none _ _
 ·exact SeqAt.EqAt.str_bool _ _ _
 ·exact SeqAt.EqAt.str_int _ _ _ _
 ·exact SeqAt.EqAt.str_str _ _ _ _
 ·exact SeqAt.EqAt.str_list _ _ ‹_› hu
 ·exact SeqAt.EqAt.str_tuple _ _ ‹_› hu
 ·exact SeqAt.EqAt.list_none ‹_› hu
 ·exact SeqAt.EqAt.list_bool _ ‹_› hu
 ·exact SeqAt.EqAt.list_int _ _ ‹_› hu
 ·exact SeqAt.EqAt.list_str _ _ ‹_› hu
 ·exact Z6 jd rc
 ·exact Z6 jd rc
 ·exact SeqAt.EqAt.tuple_none ‹_› hu
 ·exact SeqAt.EqAt.tuple_bool _ ‹_› hu
 ·exact SeqAt.EqAt.tuple_int _ _ ‹_› hu
 ·exact SeqAt.EqAt.tuple_str _ _ ‹_› hu
 ·exact Z6 jd rc
 ·exact Z6 jd rc
theorem Vv:∀(n:Nat) {d d':D} {u w:Value} {A:Around},d.flat n=true->jz s.heap d u->jz s.heap d' w->A.units+n<cLine->SeqAt.EqAt A s u w (peq d d')
 | n,d,d',u,w,A,f,r,r',hu=>by
  refine vw4 (by omega) r r' (λe=>?_) (qzd (by omega) r r' λas bs us ws h1 h2 ra rb=>?_)
  rotate_left
  ·cases n with
   |zero=>rcases h1 with rfl|rfl<;>(unfold D.flat at f;cases f)
   |succ n=>
    have fs:D.flats n as=true:=by rcases h1 with rfl|rfl<;>(unfold D.flat at f;exact f)
    exact kky ra rb λj d d' u w e1 e2 q1 q2=>Vv n (YK fs e1) q1 q2 (by have:=L3.in1_units A;omega)
  ·subst e;rw[kj8 r' r];exact WX f
end
section
variable {X:Cx}{Z:Fx0}{K:PySem.W.Frag}
noncomputable def vwz(K:PySem.W.Frag):R2:=λx y H Q=>∃d d' as bs,RepL K H true d x as/\RepL K H true d' y bs/\d.flat 40=true/\d'.flat 40=true/\Q (.bl (peq d d')) H
noncomputable def vwu(K:PySem.W.Frag):R2:=λx y H Q=>∃d d' as bs,RepL K H true d x as/\RepL K H true d' y bs/\d.flat 40=true/\d'.flat 40=true/\Q (.bl (!peq d d')) H
theorem vX(hu:X.A.units+64<cLine)(hK:autoParam (X.K=K) Ŕ):OpR X (compareOp .Eq) (vwz K):=by
 subst hK;intro pins s σ H x y v u Q I rx ry h;obtain⟨d,d',as,bs,h1,h2,f1,f2,q⟩:=h;have c1:=Kk I h1 f1 rx;have c2:=Kk I h2 f2 ry;refine qzd (by omega) c1 c2 (λas bs us ws e1 e2 ra rb=>kky ra rb λj d d' u w e3 e4 q1 q2=>?_) _ _ _ _ ⟨.bl _,H,I,rfl,q⟩;have fs:D.flats 39 as=true:=by rcases e1 with rfl|rfl<;>(unfold D.flat at f1;exact f1)
 exact Vv 39 (YK fs e3) q1 q2 (by have:=L3.in1_units X.A;omega)
theorem Z9(hu:X.A.units+64<cLine)(hK:autoParam (X.K=K) Ŕ):OpR X (compareOp .NotEq) (vwu K):=by
 subst hK;intro pins s σ H x y v u Q I rx ry h;obtain⟨d,d',as,bs,h1,h2,f1,f2,q⟩:=h;have c1:=Kk I h1 f1 rx;have c2:=Kk I h2 f2 ry;refine vv7 (by omega) c1 c2 (λas bs us ws e1 e2 ra rb=>kky ra rb λj d d' u w e3 e4 q1 q2=>?_) _ _ _ _ ⟨.bl _,H,I,rfl,q⟩;have fs:D.flats 39 as=true:=by rcases e1 with rfl|rfl<;>(unfold D.flat at f1;exact f1)
 exact Vv 39 (YK fs e3) q1 q2 (by have:=L3.in1_units X.A;omega)
theorem vQ:Ad2 K (vwz K) (pu2 fEq):=by
 intro H x y s Q ox oy hf k;unfold pu2 fEq at hf;dsimp only at hf
 by_cases hc:(x.d.flat 40&&y.d.flat 40)=true
 ·rw[X9 hc]at hf;rw[Bool.and_eq_true]at hc;cases oq9 hf;exact⟨x.d,y.d,x.as,y.as,RepO.wk ox,RepO.wk oy,hc.1,hc.2,k ⟨.dp,.bl _,.bl _,[]⟩ H rfl rfl qX⟩
 ·rw[Xg hc]at hf;cases hf
theorem XV:Ad2 K (vwu K) (pu2 fNe):=by
 intro H x y s Q ox oy hf k;unfold pu2 fNe at hf;dsimp only at hf
 by_cases hc:(x.d.flat 40&&y.d.flat 40)=true
 ·rw[X9 hc]at hf;rw[Bool.and_eq_true]at hc;cases oq9 hf;exact⟨x.d,y.d,x.as,y.as,RepO.wk ox,RepO.wk oy,hc.1,hc.2,k ⟨.dp,.bl _,.bl _,[]⟩ H rfl rfl qX⟩
 ·rw[Xg hc]at hf;cases hf
end
end Q
namespace Q
open PySem PySem.Spec PyProof.Rows L2 L3
abbrev Sl.sd(x:Sl):Sd:=(x.o,x.d)
noncomputable def tA(Z:Fx0)(q:Bool)(cs:List Ex):TA:=fun σ H Q=>∃E L r,Mt E σ L/\World Z.K H L/\qz cs E=some r/\Xc Z σ H L r /\
 ∀E' ys,r=.ok E' ys->∀(xs:List Sl) L' H',xs.map Sl.sd=ys->Mt E' σ L'->World Z.K H' (xs.map some++L')->Step H L H' (xs.map some++L')->(q=true->jZ H H'/\∀b∈jk (xs.map some),H b=none)->Q (xs.map Sl.v) H'
def QA(X:Cx)(Z:Fx0)(q:Bool)(cs:List Ex)(es:List Expr):Prop:=PA X es (tA Z q cs)
theorem qqf{X:Cx}{es:List Expr}{t t':TA}(h:PA X es t)(w:∀ σ H Q,t' σ H Q->t σ H Q):PA X es t':=λpos pins s σ H Q I q=>h pos pins s σ H Q I (w σ H Q q)
section
variable {X:Cx}{Z:Fx0}{pn:List Nat}{q:Bool}{c:Ex}{cs:List Ex}{e:Expr}{es:List Expr}{pos:Pos}{σ:L2.St}{H:Hp}{L:Ls}{E:En}
theorem k8:QA X Z true [] []:=qqf vx fun σ H Q b5=>ex8 b5 λE L r m w hc xc k=>by
 cases oq9 hc;exact k _ _ rfl [] L H rfl m w Step.refl λ_=>⟨λ_ _ z=>z,λ_ z=>(nomatch z)⟩
theorem jw(h:QE X Z q c e)(hs:QA X Z q cs es)(fj:autoParam (starEach (e::es) X.env=(false,eval e X.env)::starEach es X.env) Ŕ):QA X Z q (c::cs) (e::es):=
 qqf (kZ h hs fj) fun σ H Q b5=>ex8 b5 λE L r m w hc xc k=>by
  refine V8 m w (show bnd (c E) _=some r from hc) xc λE1 s h1 x L1 H1 e1 e2 m1 w1 st sm=>?_
  have s1:Step H L H1 L1:=st.trans Step.drop;rcases vk h1 with⟨E2,ys,h2,h3⟩|⟨E2,cc,h2,h3⟩
  ·cases oq9 h3;refine⟨E1,L1,_,m1,w1.tail,h2,(λ_ _ z=>by cases z),λE' ys' z xs L2 H2 e3 m2 w2 cj dw=>?_⟩;injection z with z1 z2;subst z1 z2;obtain⟨w3,cm⟩:=vxc (T:=[some x]) w1 cj w2;refine k _ _ rfl (x::xs) L2 H2 (by rw[List.map_cons,e3];simp[Sl.sd,e1,e2]) m2 w3 (st.trans cm) λhq=>?_
   obtain⟨a1,a2⟩:=sm hq;obtain⟨b1,b2⟩:=dw hq;refine⟨kQ a1 b1,λb hb=>?_⟩;rw[List.map_cons,k7]at hb;rcases List.mem_append.mp hb with z|z
   ·exact a2 b z
   ·exact x5 a1 (b2 b z)
  ·exact⟨E1,L1,_,m1,w1.tail,h2,(xc.step s1).map h3,λE' s' z=>by cases z⟩
end
section
variable {X:Cx}{Z:Fx0}{q:Bool}{cs:List Ex}{es:List Expr}{pos:Pos}{σ:L2.St}{H:Hp}{L:Ls}{E:En}{α:Type}
theorem jxr:∀{cs:List Ex} {E E':En} {ys:List Sd},qz cs E=some (.ok E' ys)->ys.length=cs.length
 | [],E,E',ys,h=>by cases oq9 h;rfl
 | c::cs,E,E',ys,h=>by
  rcases vk (show bnd (c E) _=some _ from h)with⟨E1,x,h1,h2⟩|⟨_,_,_,z⟩
  ·rcases vk h2 with⟨E2,xs,h3,h4⟩|⟨_,_,_,z⟩
   ·cases oq9 h4;rw[Xj,Xj,jxr h3]
   ·cases z
  ·cases z
theorem qxi{F:En->List Sd->Option (Res α)}{r:Res α}{G:List V->Hp->Prop}(m:Mt E σ L)(w:World Z.K H L)(h:bnd (qz cs E) F=some r)(xc:Xc Z σ H L r)
  (k:∀E1 ys,F E1 ys=some r->ys.length=cs.length->∀(xs:List Sl) L1 H1,xs.map Sl.sd=ys->Mt E1 σ L1->World Z.K H1 (xs.map some++L1)->Step H L H1 (xs.map some++L1)->(q=true->jZ H H1/\∀b∈jk (xs.map some),H b=none)->G (xs.map Sl.v) H1):tA Z q cs σ H G:=by
 rcases vk h with⟨E1,s,h1,h2⟩|⟨E1,c,h1,h2⟩
 ·exact⟨E,L,_,m,w,h1,(λ_ _ z=>by cases z),λE' s' z xs L' H' e1 m' w' st sm=>by
   injection z with z1 z2;subst z1 z2;exact k _ _ h2 (jxr h1) xs L' H' e1 m' w' st sm⟩
 ·exact⟨E,L,_,m,w,h1,xc.map h2,λE' s' z=>by cases z⟩
theorem YZ{K:PySem.W.Frag}{H:Hp}(g:Bool):∀{xs:List Sl},(∀x∈xs,x.ok K H)->(g=false->∀x∈xs,vK x.sd=true)->∃bs,RepA K H g (xs.map Sl.d) (xs.map Sl.v) bs/\(∀b∈bs,∃x∈xs,b∈x.as)/\(g=false->bs=jk (xs.map some))/\(g=true->bs=xs.flatMap Sl.as)
 | [],_,_=>⟨[],by unfold RepA;exact⟨rfl,rfl⟩,λ_ h=>(nomatch h),λ_=>rfl,λ_=>rfl⟩
 | x :: xs,h,ht=>by
  obtain⟨bs,r,hb,ho,hg⟩:=YZ g (xs:=xs) (λy hy=>h y (lc9 _ hy)) λhg y hy=>ht hg y (lc9 _ hy)
  have hx:=h x X3;have io:∃cs,RepL K H g x.d x.v cs/\(∀b∈cs,b∈x.as)/\(g=false->cs=x.own)/\(g=true->cs=x.as):=by
   cases g with
   | true=>exact⟨x.as,RepO.wk hx,λb hb=>hb,(λz=>by cases z),λ_=>rfl⟩
   | false=>
    have t:=ht rfl x X3;unfold vK at t
    by_cases ho:x.o=.dp
    ·refine⟨x.as,?_,λb hb=>hb,λ_=>?_,λz=>by cases z⟩
     ·have:=hx;unfold Sl.ok at this;rw[ho]at this;exact this
     ·unfold Sl.own;rw[ho]
    ·have hp:x.d.pure=true:=by
      rcases Bool.or_eq_true_iff.mp t with z|z
      ·exact absurd (by simpa using z) ho
      ·exact z
     obtain⟨z,rp⟩:=RepL.pu (g':=false) (RepO.wk hx) hp;exact⟨[],rp,λ_ h=>(nomatch h),λ_=>(qw9 z).symm,λz=>by cases z⟩
  obtain⟨cs,r1,h1,h2,h3⟩:=io;refine⟨cs++bs,?_,λb de=>?_,λie=>?_,λie=>?_⟩
  ·rw[List.map_cons,List.map_cons];unfold RepA;exact⟨x.v,xs.map Sl.v,cs,bs,rfl,rfl,r1,r⟩
  ·rcases List.mem_append.mp de with z|z
   ·exact⟨x,X3,h1 b z⟩
   ·obtain⟨y,hy,hby⟩:=hb b z;exact⟨y,lc9 _ hy,hby⟩
  ·rw[List.map_cons,k7,h2 ie,ho ie]
  ·rw[List.flatMap_cons,h3 ie,hg ie]
theorem qkc{K:PySem.W.Frag}{H:Hp}{p:Addr}{xs:List Sl}{L:Ls}(w:World K H (xs.map some++L))(hp:H p=none):
  ∃bs,World K (upd H p (.lst (xs.map Sl.v))) (some ⟨.rt,.lst (xs.map Sl.d),.ref p,p::bs⟩::L)/\Step H (xs.map some++L) (upd H p (.lst (xs.map Sl.v))) (some ⟨.rt,.lst (xs.map Sl.d),.ref p,p::bs⟩::L):=by
 obtain⟨bs,r,hb,_,_⟩:=YZ true (xs:=xs) (λx hx=>w.ok x (ll9 _ (Xh hx))) (λz=>by cases z);have ap:∀b∈bs,b∉jk L:=λb de hL=>by
  obtain⟨x,hx,du⟩:=hb b de;rcases Sl.as_of du with z|z
  ·have nd:=w.nd;rw[jQ,Xd]at nd;exact nd.2.2 b (mem_owned.mpr ⟨x,Xh hx,z⟩) b hL rfl
  ·exact w.ds b (by rw[jQ];exact lr9 _ hL) (by rw[kJ];exact ll9 _ (mem_frozen.mpr ⟨x,Xh hx,z⟩))
 have al:∀b∈bs,H b≠none:=λb de=>by
  obtain⟨x,hx,du⟩:=hb b de;exact(w.ok x (ll9 _ (Xh hx))).some du
 have sr:Src H (xs.map some++L) bs:=λb de=>by
  obtain⟨x,hx,du⟩:=hb b de;rcases Sl.as_of du with z|z
  ·exact .inr (.inl (by rw[jQ];exact ll9 _ (mem_owned.mpr ⟨x,Xh hx,z⟩)))
  ·exact .inl (by rw[kJ];exact ll9 _ (mem_frozen.mpr ⟨x,Xh hx,z⟩))
 have o:Out K H (upd H p (.lst (xs.map Sl.v))) ⟨.rt,.lst (xs.map Sl.d),.ref p,p::bs⟩ bs:=QY hp r λb hb=>hb
 have st:Step H (xs.map some++L) H L:=⟨λ_ _ h _=>h,λa ha=>.inl (by rw[jQ];exact lr9 _ ha),λa ha=>.inl (by rw[kJ];exact lr9 _ ha)⟩;exact⟨bs,xz (Z:=⟨K,λ_=>none,λ_ _ _=>True⟩) w.right st o ap al sr⟩
theorem qkb{K:PySem.W.Frag}{H:Hp}{p:Addr}{xs:List Sl}{L:Ls}(w:World K H (xs.map some++L))(hp:H p=none):
  ∃bs,World K (upd H p (.tup (xs.map Sl.v))) (some ⟨.no,.tup (xs.map Sl.d),.ref p,bs⟩::L)/\Step H (xs.map some++L) (upd H p (.tup (xs.map Sl.v))) (some ⟨.no,.tup (xs.map Sl.d),.ref p,bs⟩::L):=by
 obtain⟨bs,r,hb,_,_⟩:=YZ true (xs:=xs) (λx hx=>w.ok x (ll9 _ (Xh hx))) (λz=>by cases z);have ap:∀b∈bs,b∉jk L:=λb de hL=>by
  obtain⟨x,hx,du⟩:=hb b de;rcases Sl.as_of du with z|z
  ·have nd:=w.nd;rw[jQ,Xd]at nd;exact nd.2.2 b (mem_owned.mpr ⟨x,Xh hx,z⟩) b hL rfl
  ·exact w.ds b (by rw[jQ];exact lr9 _ hL) (by rw[kJ];exact ll9 _ (mem_frozen.mpr ⟨x,Xh hx,z⟩))
 have al:∀b∈bs,H b≠none:=λb de=>by
  obtain⟨x,hx,du⟩:=hb b de;exact(w.ok x (ll9 _ (Xh hx))).some du
 have sr:Src H (xs.map some++L) bs:=λb de=>by
  obtain⟨x,hx,du⟩:=hb b de;rcases Sl.as_of du with z|z
  ·exact .inr (.inl (by rw[jQ];exact ll9 _ (mem_owned.mpr ⟨x,Xh hx,z⟩)))
  ·exact .inl (by rw[kJ];exact ll9 _ (mem_frozen.mpr ⟨x,Xh hx,z⟩))
 have o:Out K H (upd H p (.tup (xs.map Sl.v))) ⟨.no,.tup (xs.map Sl.d),.ref p,bs⟩ bs:=XW hp r λb hb=>hb
 have st:Step H (xs.map some++L) H L:=⟨λ_ _ h _=>h,λa ha=>.inl (by rw[jQ];exact lr9 _ ha),λa ha=>.inl (by rw[kJ];exact lr9 _ ha)⟩;exact⟨bs,xz (Z:=⟨K,λ_=>none,λ_ _ _=>True⟩) w.right st o ap al sr⟩
theorem kxm{K:PySem.W.Frag}{H H':Hp}{xs:List Sl}{L:Ls}{d:D}{v:V}{ps:List Addr}(w:World K H (xs.map some++L))(ht:∀x∈xs,vK x.sd=true)(hp:∀b∈ps,H b=none)(nd:ps.Nodup)(sm:jZ H H')
  (rep:∀bs,RepA K H false (xs.map Sl.d) (xs.map Sl.v) bs->RepL K H' false d v (ps++bs)):
  World K H' (some ⟨.dp,d,v,ps++jk (xs.map some)⟩::L)/\Step H (xs.map some++L) H' (some ⟨.dp,d,v,ps++jk (xs.map some)⟩::L):=by
 obtain⟨bs,r,hb,ho,_⟩:=YZ false (xs:=xs) (λx hx=>w.ok x (ll9 _ (Xh hx))) (λ_=>ht);have e:=ho rfl;subst e;have w2:World K H' (xs.map some++L):=⟨λx hx=>RepO.kp (w.ok x hx) (Kp.of_same sm),w.nd,w.ds⟩;have ndx:=w.nd;rw[jQ,Xd]at ndx;have al:∀b∈jk (xs.map some),H b≠none:=λb hb=>w.own_some (by rw[jQ];exact ll9 _ hb)
 refine⟨w2.right.cons (x:=⟨.dp,d,v,ps++jk (xs.map some)⟩) (rep _ r) ?_ (λa ha hL=>?_) (λa ha hf=>?_) (λa ha=>(nomatch ha)) (λa ha=>λz=>(nomatch z)),⟨λa ob h _=>sm a ob h,λa ha=>?_,λa ha=>?_⟩⟩
 ·show(ps++jk (xs.map some)).Nodup;rw[Xd];exact⟨nd,ndx.1,λa ha b hb e=>by subst e;exact al a hb (hp a ha)⟩
 ·rcases List.mem_append.mp (show a∈ps++jk (xs.map some)from ha)with z|z
  ·exact w.own_some (by rw[jQ];exact lr9 _ hL) (hp a z)
  ·exact ndx.2.2 a z a hL rfl
 ·rcases List.mem_append.mp (show a∈ps++jk (xs.map some)from ha)with z|z
  ·exact w.frz_some (by rw[kJ];exact lr9 _ hf) (hp a z)
  ·exact w.ds a (by rw[jQ];exact ll9 _ z) (by rw[kJ];exact lr9 _ hf)
 ·rw[k7]at ha;rcases List.mem_append.mp ha with z|z
  ·rcases List.mem_append.mp (show a∈ps++jk (xs.map some)from z)with y|y
   ·exact .inr (hp a y)
   ·exact .inl (by rw[jQ];exact ll9 _ y)
  ·exact .inl (by rw[jQ];exact lr9 _ z)
 ·rw[qq]at ha;exact .inl (by rw[kJ];exact lr9 _ ha)
theorem ZZ{xs:List Sl}{ys:List Sd}(h:xs.map Sl.sd=ys):xs.map Sl.d=ys.map (·.2):=by rw[<-h,Yb];rfl
theorem kqo{xs:List Sl}{ys:List Sd}(h:xs.map Sl.sd=ys)(ht:ys.all vK=true):∀x∈xs,vK x.sd=true:=λx hx=>by
 rw[<-h,List.all_map,Yj]at ht;exact ht x hx
theorem kv5{o:Own}{xs:List Sl}{ys:List Sd}{E':En}{r:Res Sd}{L':Ls}{H1:Hp}{Q:VK}{Hq:Hp}{Lq:Ls}(h:mkL o E' ys=some r)(e:xs.map Sl.sd=ys)(w:World Z.K H1 (xs.map some++L'))(st:Step Hq Lq H1 (xs.map some++L'))(sm:q=true->jZ Hq H1/\∀b∈jk (xs.map some),Hq b=none)
  (k:∀E'' a,r=.ok E'' a->∀(x:Sl) L'' H',x.o=a.1->x.d=a.2->Mt E'' σ L''->World Z.K H' (some x::L'')->Step Hq Lq H' (some x::L'')->(q=true->jZ Hq H'/\∀b∈x.own,Hq b=none)->Q x.v H') (m:Mt E' σ L'):
  ∀ p,H1 p=none->Q (.ref p) (upd H1 p (.lst (xs.map Sl.v))):=by
 intro p hp;unfold mkL at h
 by_cases ho:o=.dp
 ·rw[X9 ho]at h
  by_cases ht:ys.all vK=true
  ·rw[X9 ht]at h;cases oq9 h;obtain⟨w2,s2⟩:=kxm (d:=.lst (xs.map Sl.d)) (v:=.ref p) (ps:=[p]) w (kqo e ht) (λb hb=>by rw[List.mem_singleton.mp hb];exact hp) (by simp) (v5 (o:=.lst (xs.map Sl.v)) hp) (λbs r=>by
    unfold RepL;exact⟨p,_,bs,rfl,r.kp (Kp.of_same (v5 hp)),.inl ⟨wq,rfl⟩⟩)
   refine k _ _ rfl ⟨.dp,.lst (xs.map Sl.d),.ref p,_⟩ L' _ rfl (by rw[ZZ e]) m w2 (st.trans s2) λhq=>⟨kQ (sm hq).1 (v5 hp),λb hb=>?_⟩
   rcases List.mem_append.mp (show b∈[p]++jk (xs.map some)from hb)with z|z
   ·rw[List.mem_singleton.mp z];exact x5 (sm hq).1 hp
   ·exact(sm hq).2 b z
  ·rw[Xg ht]at h;cases h
 ·rw[Xg ho]at h;cases oq9 h;obtain⟨bs,w2,s2⟩:=qkc w hp;refine k _ _ rfl ⟨.rt,.lst (xs.map Sl.d),.ref p,p::bs⟩ L' _ rfl (by rw[ZZ e]) m w2 (st.trans s2) λhq=>⟨kQ (sm hq).1 (v5 hp),λb hb=>?_⟩
  have:b=p:=by simpa [Sl.own]using hb
  rw[this];exact x5 (sm hq).1 hp
theorem qxw{xs:List Sl}{ys:List Sd}{n:Nat}(h:xs.map Sl.sd=ys)(hl:ys.length=n)(hz:n<=1000):(xs.map Sl.v).length<=sizeLine:=by
 have:xs.length=n:=by rw[<-hl,<-h,X7]
 rw[X7,this];exact Xl hz (by decide)
theorem QK{o:Own}(h:QA X Z q cs es)(hz:autoParam (cs.length<=1000) ŕ):QE X Z q (xQ o cs) (.List es pos):=qj (qqe h) fun σ H Q b5=>ex8 b5 λE L r m w hc xc k=>
 qxi m w (show bnd (qz cs E) _=some r from hc) xc λE1 ys h1 hl xs L1 H1 e1 m1 w1 st sm=>⟨qxw e1 hl hz,kv5 (o:=o) (E':=E1) (ys:=ys) (by unfold mkL;exact h1) e1 w1 st sm k m1⟩
theorem qvn{o:Own}{x1}(h:QA X Z q cs es)(hz:autoParam (cs.length<=1000) ŕ):QE X Z q (K7 o cs) (.Tuple es x1 pos):=qj (qqd h) fun σ H Q b5=>ex8 b5 λE L r m w hc xc k=>
 qxi m w (show bnd (qz cs E) _=some r from hc) xc λE1 ys h1 hl xs L1 H1 e1 m1 w1 st sm=>⟨qxw e1 hl hz,λp hp=>by
  by_cases ho:o=.dp
  ·rw[X9 ho]at h1
   by_cases ht:ys.all vK=true
   ·rw[X9 ht]at h1;cases oq9 h1;obtain⟨w2,s2⟩:=kxm (d:=.tup (xs.map Sl.d)) (v:=.ref p) (ps:=[]) w1 (kqo e1 ht) (λb hb=>(nomatch hb)) (by simp) (v5 (o:=.tup (xs.map Sl.v)) hp) (λbs r=>by
     unfold RepL;exact⟨p,_,rfl,SqT.of wq,r.kp (Kp.of_same (v5 hp))⟩)
    exact k _ _ rfl ⟨.dp,.tup (xs.map Sl.d),.ref p,_⟩ L1 _ rfl (by rw[ZZ e1]) m1 w2 (st.trans s2) λhq=>⟨kQ (sm hq).1 (v5 hp),λb hb=>(sm hq).2 b hb⟩
   ·rw[Xg ht]at h1;cases h1
  ·rw[Xg ho]at h1;cases oq9 h1;obtain⟨bs,w2,s2⟩:=qkb w1 hp;exact k _ _ rfl ⟨.no,.tup (xs.map Sl.d),.ref p,bs⟩ L1 _ rfl (by rw[ZZ e1]) m1 w2 (st.trans s2) λhq=>⟨kQ (sm hq).1 (v5 hp),λb hb=>(nomatch hb)⟩⟩
end
noncomputable def spF(K:PySem.W.Frag)(mg:Str->Option Value)(n:Nat)(f:Fn):Sp:=λvs H Q E=>∃(xs:List Sl) (r:Res Sd),vs=xs.map Sl.v/\xs.length=n/\World K H (xs.map some)/\f (xs.map Sl.sd)=some r /\
 (∀E' c,r=.exc E' c->∀C H',mg c=some (.ref C)->Step H (xs.map some) H' []->E (.ref C) none H') /\
 ∀E' a,r=.ok E' a->∀(x:Sl) H',x.o=a.1->x.d=a.2->World K H' [some x]->Step H (xs.map some) H' [some x]->Q x.v H'
theorem vj{K:PySem.W.Frag}{mg:Str->Option Value}{n:Nat}{f:Fn}{ps:List Str}(hn:ps.length=n):∀vs H Q E,spF K mg n f vs H Q E->vs.length=ps.length:=λvs H Q E ⟨xs,r,e,hl,_⟩=>by rw[e,X7,hl,hn]
theorem jzz:∀(xs:List Sl) (k:Nat),Mt (xs.map (λx=>some x.sd)++List.replicate k none) (xs.map (λx=>some x.v)++List.replicate k none) (xs.map some++List.replicate k none)
 |[],0=>.nil
 |[],k+1=>by
  rw[List.map_nil,List.map_nil,List.map_nil,List.replicate_succ,List.replicate_succ,List.replicate_succ];exact .un (jzz [] k)
 |x::xs,k=>.cons (x:=x) (jzz xs k)
theorem v9{X:Cx}{K:PySem.W.Frag}{mg:Str->Option Value}{N:List Str}{n nn:Nat}{B:Sm}{body:List Stmt}{H:Hp}{vs:List V}{Q:VK}{E:XK}(hN:N.length=nn)(t:QSs X ⟨K,mg,E⟩ [] B body)(h:spF K mg n (fn nn B) vs H Q E):
  ∃t,PSs X body t/\t { nx:=λ_ H'=>Q .non H',rt:=Q } (L2.start N vs) H:=by
 refine⟨_,t,?_⟩;obtain⟨xs,r,rfl,hl,w,hf,hx,hk⟩:=h;unfold fn at hf;rw[X7,Yb]at hf;have m:=jzz xs (nn - xs.length);have e1:L2.start N (xs.map Sl.v)=xs.map (λx=>some x.v)++List.replicate (nn - xs.length) none:=by
  unfold L2.start;rw[Yb,X7,hN];rfl
 have wL:World K H (xs.map some++List.replicate (nn - xs.length) none):=w.same (by simp);have sL:Step H (xs.map some) H (xs.map some++List.replicate (nn - xs.length) none):=Step.refl.same (List.Perm.refl _) (by simp);cases hB:B (xs.map (λx=>some x.sd)++List.replicate (nn - xs.length) none)with
 | none=>rw[show(some∘Sl.sd)=(λx:Sl=>some x.sd)from rfl,hB]at hf;cases hf
 | some g=>
  rw[show(some∘Sl.sd)=(λx:Sl=>some x.sd)from rfl,hB]at hf;refine⟨_,_,g,e1▸m,wL,hB,?_⟩;cases g with
  |nx E1=>
   cases oq9 hf;intro σ' L' H' _ m' w' s';exact hk _ _ rfl ⟨.dp,.non,.non,[]⟩ H' rfl rfl (World.consPu (x:=⟨.dp,.non,.non,[]⟩) (L:=[]) ⟨λ_ z=>(nomatch z),Y1,λ_ z=>(nomatch z)⟩ (show RepL K H' false .non .non []from kwn) rfl) (JY (x:=⟨.dp,.non,.non,[]⟩) ((sL.trans s').sub (by simp)) (λb hb=>(nomatch hb)) rfl)
  |rt E1 a=>
   cases oq9 hf;intro x σ' L' H' e2 e3 _ m' w' s';exact hk _ _ rfl x H' e2 e3 (w'.sub (by simp)) ((sL.trans s').sub (by simp))
  |xc E1 c=>
   cases oq9 hf;intro C σ' L' H' hm _ m' w' s';exact hx _ _ rfl C H' hm ((sL.trans s').sub (by simp))
  |ct E1=>cases hf
  |bk E1=>cases hf
section
variable {X:Cx}{Z:Fx0}{q:Bool}{cs:List Ex}{e:Expr}{es:List Expr}{pos p:Pos}{x:Str}{ps:List Str}{k n:Nat}{f:Fn}
theorem Qv:∀xs:List Sl,jk ((xs.map Sl.let).map some)=[]
 |[]=>rfl
 |x::xs=>by rw[List.map_cons,List.map_cons,k7,Qv xs];rfl
theorem jvk:∀xs:List Sl,jX ((xs.map Sl.let).map some)=xs.flatMap Sl.as
 |[]=>rfl
 |x::xs=>by rw[List.map_cons,List.map_cons,qq,jvk xs,List.flatMap_cons];rfl
theorem kxp(xs:List Sl):(xs.map Sl.let).map Sl.sd=letAll (xs.map Sl.sd):=by
 unfold letAll;rw[Yb,Yb];rfl
theorem jz2{K:PySem.W.Frag}{H:Hp}{xs:List Sl}{L:Ls}(w:World K H (xs.map some++L)):World K H ((xs.map Sl.let).map some++L)/\Step H (xs.map some++L) H ((xs.map Sl.let).map some++L):=by
 have nd:=w.nd;rw[jQ,Xd]at nd;have cl:∀a∈xs.flatMap Sl.as,a∈jk (xs.map some)\/a∈jX (xs.map some):=λa ha=>by
  obtain⟨x,hx,hax⟩:=List.mem_flatMap.mp ha;exact(Sl.as_of hax).imp (λz=>mem_owned.mpr ⟨x,Xh hx,z⟩) λz=>mem_frozen.mpr ⟨x,Xh hx,z⟩
 refine⟨⟨λx hx=>?_,by rw[jQ,Qv];exact nd.2.1,λa ha hf=>?_⟩,λ_ _ h _=>h,λa ha=>?_,λa ha=>?_⟩
 ·rcases List.mem_append.mp hx with hx|hx
  ·obtain⟨y,hy,e⟩:=List.mem_map.mp hx;cases e;obtain⟨z,hz,rfl⟩:=List.mem_map.mp hy;exact K1 (w.ok z (ll9 _ (Xh hz)))
  ·exact w.ok x (lr9 _ hx)
 ·rw[jQ,Qv]at ha;rw[kJ,jvk]at hf;rcases List.mem_append.mp hf with z|z
  ·rcases cl a z with z|z
   ·exact nd.2.2 a z a ha rfl
   ·exact w.ds a (by rw[jQ];exact lr9 _ ha) (by rw[kJ];exact ll9 _ z)
  ·exact w.ds a (by rw[jQ];exact lr9 _ ha) (by rw[kJ];exact lr9 _ z)
 ·rw[jQ,Qv]at ha;exact .inl (by rw[jQ];exact lr9 _ ha)
 ·rw[kJ,jvk]at ha;rw[kJ,jQ];rcases List.mem_append.mp ha with z|z
  ·rcases cl a z with z|z
   ·exact .inr (.inl (ll9 _ z))
   ·exact .inl (ll9 _ z)
  ·exact .inl (lr9 _ z)
theorem qzy(D:qw X.prog X.w X.K X.mg X.base k x ps (spF Z.K Z.mg n f))(hr:Room k X.A)(g:vY X Z.EX)(ha:QA X Z q cs (e::es))(hn:autoParam (cs.length=n) Ŕ)(hg:autoParam (Gl X x) Ŕ)(cy:autoParam ((x==("__debug__":Str))=false) ŕ)
  (he:autoParam (starEach (e::es) X.env=(false,eval e X.env)::starEach es X.env) Ŕ) (bz:autoParam ((backTo pos (starEach es X.env)).any (·.1)=false) Ŕ):
  QE X Z q (jY f cs) (.Call (.Name x p) (e::es) [] pos):=qj (vji D hr g ha hg cy he bz) fun σ H Q b5=>ex8 b5 λE L r m w hc xc kk=>
 qxi m w (show bnd (qz cs E) _=some r from hc) xc λE1 ys h1 hl xs L1 H1 e1 m1 w1 st sm=>by
  rw [Xs];have b6:xs.length=n:=by rw[<-hn,<-hl,<-e1,X7]
  cases hf:f (letAll ys)with
  | none=>rw[hf]at h1;cases h1
  | some fr=>
   rw[hf]at h1;obtain⟨wl,sl⟩:=jz2 w1;have ev:xs.map Sl.v=(xs.map Sl.let).map Sl.v:=by rw[Yb];rfl
   rw[ev];refine⟨xs.map Sl.let,fr,rfl,by rw[X7];exact b6,wl.left,by rw[<-e1]at hf;rw[kxp];exact hf,λE' c ee C H' hm s'=>?_,λE' a ee y H' e2 e3 w' s'=>?_⟩
   ·subst ee;cases oq9 h1;obtain⟨w2,s2⟩:=stay wl s' ⟨λ_ z=>(nomatch z),Y1,λ_ z=>(nomatch z)⟩;exact xc _ _ rfl C L1 H' hm m1 w2 ((st.trans sl).trans s2)
   ·subst ee;cases oq9 h1;obtain⟨w2,s2⟩:=stay wl s' w';refine kk _ _ rfl y L1 H' e2 e3 m1 w2 ((st.trans sl).trans s2) λhq=>?_
    obtain⟨a1,a2⟩:=sm hq;refine⟨λb ob hb=>s'.keep b ob (a1 b ob hb) λz=>?_,λb hb=>?_⟩
    ·rw[Qv]at z;exact nomatch z
    ·rcases s'.own b (by rw[k7];exact ll9 _ hb)with z|z
     ·rw[Qv]at z;exact nomatch z
     ·exact x5 a1 z
end
noncomputable def qzg(K:PySem.W.Frag):R2:=λx y H Q=>∃l k xs,x=.ref l/\y=.int k/\LsR K H l xs/\-(2 ^ 63)<=k/\k<2 ^ 63/\xs.length*k.toNat<=sizeLine /\
 ∀p,H p=none->Q (.ref p) (upd H p (.lst (List.replicate k.toNat xs).flatten))
theorem op_repR{X:Cx}:OpR X (binaryOp .Mult) (qzg X.K):=by
 intro pins s σ H x y v u Q I rx ry h;obtain⟨l,k,xs,rfl,rfl,hH,h1,h2,hz,q⟩:=h;cases rx;obtain⟨t,rfl⟩:=ry;obtain⟨z,ai,n,r,e⟩:=hH.is I;have hl:=r.length;have b6:ai.toArray.size*k.toNat<=sizeLine:=by rw[X4,<-hl];exact hz
 have hcap:¬ai.toArray.size*k.toNat>(2 ^ 63 - 1) / 8:=by
  have:(sizeLine:Nat)<=(2 ^ 63 - 1) / 8:=by decide
  omega
 have hfit:¬(!Builtin.List.listFitsIndex k)=true:=by
  rw[fitsIndex_both h1 h2];exact Bool.false_ne_true
 have kg:¬Builtin.List.listTooLong (ai.toArray.size*k.toNat)=true:=by
  rw[qk7 b6];exact Bool.false_ne_true
 have gi:List.foldl (λx1 x2=>x1++x2) #[] (List.replicate (if ai.toArray.isEmpty=true then 0 else k.toNat) ai.toArray)=(List.replicate k.toNat ai).flatten.toArray:=by
  have f0:∀m:Nat,List.foldl (λx1 x2=>x1++x2) #[] (List.replicate m ai.toArray)=(List.replicate m ai).flatten.toArray:=λm=>by
   have:=jxm ai m [];rw[List.nil_append]at this;exact this
  rw[f0];cases ai with
  |nil=>simp
  |cons a r'=>rw[Xg (by simp)]
 refine wpAny_binaryOp_repeat_ref (T:="list") (U:="int") (by decide) ⟨_,e,rfl⟩ (λs'=>typeIs_int s' k t) noFill_list_mul F.fills_int_mul F.slot_int_rmul repeat_list F.slot_int_index.lookup
  (call_meets F.slot_int_rmul (typeIs_int s k t) F.entry_int_rmul (F.args_int_rmul_2 _ _) (int___rmul___int_list k t l ai.toArray n)
   ⟨e,rfl,⟨_,e,rfl⟩,call_meets F.slot_list_mul ⟨_,e,rfl⟩ F.entry_list_mul (F.args_list_mul_2 _ _) (AutoListH.list___mul___list_int_3 l ai.toArray n k t hfit hcap kg) ⟨e,?_⟩⟩)
 rw[gi];exact⟨.ref _,_,I.lnew (t':=s.toks) (r.rep k.toNat) (by rw[kxr,Nat.mul_comm];exact hz),rfl,q _ I.fresh⟩
def qvk(K:PySem.W.Frag):R2:=λx y H Q=>rI IntMulOk (λi j=>.int (i*j)) x y H Q\/qzg K x y H Q\/qzf x y H Q
theorem vjq{X:Cx}{K:PySem.W.Frag}(hK:autoParam (X.K=K) Ŕ):OpR X (binaryOp .Mult) (qvk K):=by subst hK;exact op_mulI.or (op_repR.or qwb)
theorem kv8{a:Int}(h:a.natAbs.log2<2000000):Builtin.Int.intBits a<=2000000:=by
 unfold Builtin.Int.intBits
 split
 ·exact Nat.zero_le _
 ·omega
theorem mulOk_of{a b:Int}(h:zQ a b=true):IntMulOk a b:=by
 unfold zQ W2 at h;simp only[Bool.or_eq_true,Bool.and_eq_true,Y7]at h;rcases h with(h|h)|h
 ·exact .of_left (intBits_le_64 h.1 h.2)
 ·exact .of_right (intBits_le_64 h.1 h.2)
 ·have h1:=kv8 h.1;have h2:=kv8 h.2;unfold IntMulOk Builtin.Int.intTooBig;have e:(2:Nat) ^ 27=134217728:=by decide
  have hb:bitsLine=134217728:=e;simp only[Bool.and_eq_true,Y7,not_and];intro _ _;omega
theorem RepA.reps{K:PySem.W.Frag}{H:Hp}{ds:List D}{xs:List V}{bs:List Addr}(h:RepA K H true ds xs bs):∀k:Nat,∃cs,RepA K H true (List.replicate k ds).flatten (List.replicate k xs).flatten cs/\∀b∈cs,b∈bs
 |0=>⟨[],by simp only[List.replicate_zero,List.flatten_nil];unfold RepA;exact⟨rfl,rfl⟩,λ_ z=>(nomatch z)⟩
 |k+1=>by
  obtain⟨cs,r,hc⟩:=RepA.reps h k;rw[List.replicate_succ,List.replicate_succ,Yg,Yg];exact⟨bs++cs,r.app h,λb hb=>(List.mem_append.mp hb).elim id (hc b)⟩
theorem qv2{K:PySem.W.Frag}:Ad2 K (qvk K) Q5:=by
 intro H x y s Q ox oy hf k;unfold Q5 at hf;dsimp only at hf
 split at hf
 ·rename_i i j e1 e2
  split at hf
  ·rename_i hm;cases oq9 hf;exact .inl ⟨i,j,qv ox e1,qv oy e2,mulOk_of hm,k ⟨.dp,.int _,.int _,[]⟩ H rfl rfl J9⟩
  ·cases hf
 ·rename_i a n e1 e2
  split at hf
  ·rename_i hc;cases oq9 hf;obtain⟨l,xs,bs,e3,q3,r3,h3⟩:=Jj ox (.inl e1) hc.2.2.2;have q3:LsR K H l xs:=by rcases q3 with⟨_,z⟩|⟨z,_⟩;exact z;rw[e1]at z;cases z
   obtain⟨cs,r4,h4⟩:=r3.reps n.toNat;refine .inr (.inl ⟨l,n,xs,e3,qv oy e2,q3,hc.1,hc.2.1,by rw[<-r3.len];exact hc.2.2.1,λp hp=>?_⟩);exact k ⟨.rt,.lst _,.ref p,p::cs⟩ _ rfl rfl (QY hp r4 λb hb=>ll9 _ (h3 b (h4 b hb)))
  ·cases hf
 ·rename_i z n e1 e2
  split at hf
  ·rename_i hc;cases oq9 hf;exact .inr (.inr ⟨z,n,(qK ox e1).1,qv oy e2,hc.1,k ⟨.dp,.str _,.str _,[]⟩ H rfl rfl (XQ hc.2)⟩)
  ·cases hf
 ·cases hf
def dec(h:Heap)(u:Value):D:=open Classical in if e:∃d,jz h d u then e.choose else .non
theorem kzk{h:Heap}{u:Value}{d:D}(r:jz h d u):dec h u=d:=by
 unfold dec;have e:∃d,jz h d u:=⟨d,r⟩;rw[dif_pos e];exact kj8 e.choose_spec r
theorem W0{h:Heap}{d:D}:∀{ds:List D} {us:List Value},CReps h ds us->us.any (λu=>peq (dec h u) d)=ds.any λz=>peq z d
 |[],_,r=>by unfold CReps at r;rw[r];rfl
 |z::ds,_,r=>by
  unfold CReps at r;obtain⟨u,rr,rfl,h1,h2⟩:=r;rw[List.any_cons,List.any_cons,kzk h1,W0 h2]
theorem kj2{h:Heap}:∀{ds:List D} {us:List Value} {u:Value},CReps h ds us->u∈us->∃d∈ds,jz h d u
 | [],_,_,r,hu=>by unfold CReps at r;rw[r]at hu;cases hu
 | z::ds,_,u,r,hu=>by
  unfold CReps at r;obtain⟨u',rr,rfl,h1,h2⟩:=r;rcases List.mem_cons.mp hu with rfl|hu
  ·exact⟨z,X3,h1⟩
  ·obtain⟨d,hd,c⟩:=kj2 h2 hu;exact⟨d,lc9 _ hd,c⟩
theorem jxn:∀{n:Nat} {ds:List D} {d:D},D.flats n ds=true->d∈ds->d.flat n=true
 |_,[],_,_,h=>by cases h
 |n,z::ds,d,f,h=>by
  unfold D.flats at f;rw[Bool.and_eq_true]at f;rcases List.mem_cons.mp h with rfl|h
  ·exact f.1
  ·exact jxn f.2 h
section
variable {X:Cx}{Z:Fx0}{K:PySem.W.Frag}{q qa qb:Bool}{a b c:Ex}{u v:Ts}{e ea eb:Expr}{es:List Expr}{pos p:Pos}{σ:L2.St}{H:Hp}{L:Ls}{E:En}
noncomputable def kww(K:PySem.W.Frag)(gy:Bool):R2:=λx y H Q=>∃d ds as bs p xs,RepL K H true d x as/\y=.ref p/\(SqL K H p xs\/SqT K H p xs)/\RepA K H true ds xs bs/\d.flat 30=true/\D.flats 30 ds=true/\Q (.bl (if gy then !(ds.any λz=>peq z d)else ds.any λz=>peq z d)) H
theorem qwf(hu:X.A.units+64<cLine):OpR X (compareOp .In) (kww X.K false):=by
 intro pins s σ H x y v u Q I rx ry h;obtain⟨d,ds,as,bs,p,xs,h1,rfl,hq,ra,f1,f2,q⟩:=h;cases ry;have c1:=Kk I h1 f1 rx;have he:∀{us:List Value},CReps s.heap ds us->∀w,w∈us.toArray->SeqAt.EqAt X.A.in1 s w v (peq (dec s.heap w) d):=fun {us} cr w hw=>by
  obtain⟨d',hd,c⟩:=kj2 cr (by simpa using hw);rw[kzk c];exact Vv 30 (jxn f2 hd) c c1 (by have:=L3.in1_units X.A;omega)
 rcases hq with hq|hq
 ·obtain⟨ai,r,pl,hz⟩:=I.list hq;have cr:=creps_of I ra f2 r;refine SeqAt.in_listAt _ pl.isList (he cr) ⟨.bl _,H,I,rfl,?_⟩;rw[List.any_toArray,W0 cr];exact q
 ·obtain⟨ai,r,pl,hz⟩:=I.tuple hq;have cr:=creps_of I ra f2 r;refine SeqAt.in_tupleAt _ pl (he cr) ⟨.bl _,H,I,rfl,?_⟩;rw[List.any_toArray,W0 cr];exact q
theorem kw4(hu:X.A.units+64<cLine):OpR X (compareOp .NotIn) (kww X.K true):=by
 intro pins s σ H x y v u Q I rx ry h;obtain⟨d,ds,as,bs,p,xs,h1,rfl,hq,ra,f1,f2,q⟩:=h;cases ry;have c1:=Kk I h1 f1 rx;have he:∀{us:List Value},CReps s.heap ds us->∀w,w∈us.toArray->SeqAt.EqAt X.A.in1 s w v (peq (dec s.heap w) d):=fun {us} cr w hw=>by
  obtain⟨d',hd,c⟩:=kj2 cr (by simpa using hw);rw[kzk c];exact Vv 30 (jxn f2 hd) c c1 (by have:=L3.in1_units X.A;omega)
 rcases hq with hq|hq
 ·obtain⟨ai,r,pl,hz⟩:=I.list hq;have cr:=creps_of I ra f2 r;refine SeqAt.notIn_listAt _ pl.isList (he cr) ⟨.bl _,H,I,rfl,?_⟩;rw[List.any_toArray,W0 cr];exact q
 ·obtain⟨ai,r,pl,hz⟩:=I.tuple hq;have cr:=creps_of I ra f2 r;refine SeqAt.notIn_tupleAt _ pl (he cr) ⟨.bl _,H,I,rfl,?_⟩;rw[List.any_toArray,W0 cr];exact q
def kwv(gy:Bool):R2:=λx y H Q=>∃i j,x=.str i/\y=.str j/\Q (.bl (if gy then !JV i j else JV i j)) H
theorem opInStr:OpR X (compareOp .In) (kwv false):=λpins s σ H x y v u Q I rx ry ⟨i,j,e1,e2,q⟩=>kxg pins s σ H x y v u Q I rx ry ⟨i,j,e1,e2,q⟩
theorem opNotInStr:OpR X (compareOp .NotIn) (kwv true):=λpins s σ H x y v u Q I rx ry ⟨i,j,e1,e2,q⟩=>kjt pins s σ H x y v u Q I rx ry ⟨i,j,e1,e2,q⟩
def V4(K:PySem.W.Frag)(gy:Bool):R2:=λx y H Q=>kwv gy x y H Q\/kww K gy x y H Q
theorem vjr(hu:X.A.units+64<cLine)(hK:autoParam (X.K=K) Ŕ):OpR X (compareOp .In) (V4 K false):=by subst hK;exact opInStr.or (qwf hu)
theorem kqw(hu:X.A.units+64<cLine)(hK:autoParam (X.K=K) Ŕ):OpR X (compareOp .NotIn) (V4 K true):=by subst hK;exact opNotInStr.or (kw4 hu)
theorem Kx{H:Hp}{l:Addr}{xs:List V}(h:LsR K H l xs):SqL K H l xs:=h.sq
theorem Z0{x y:Sl}{ys:List D}{gy:Bool}{Q:VK}(ox:x.ok K H)(oy:y.ok K H)(hy:y.d=.lst ys\/y.d=.tup ys)(hc:(x.d.flat 30&&D.flats 30 ys)=true)
  (k:Q (.bl (if gy then !(ys.any λz=>peq z x.d)else ys.any λz=>peq z x.d)) H):V4 K gy x.v y.v H Q:=by
 rw[Bool.and_eq_true]at hc;obtain⟨l,xs,bs,e3,q3,r3,_⟩:=items oy hy;have r3':RepA K H true ys xs bs:=by
  cases ho:(y.o != .dp)with
  |true=>rw[ho]at r3;exact r3
  |false=>rw[ho]at r3;exact r3.wk
 refine .inr ⟨x.d,ys,x.as,bs,l,xs,RepO.wk ox,e3,?_,r3',hc.1,hc.2,k⟩;rcases q3 with⟨_,z⟩|⟨_,z⟩
 ·exact .inl (Kx z)
 ·exact .inr z
theorem vq6:Ad2 K (V4 K false) (pu2 Q9):=by
 intro H x y s Q ox oy hf k;unfold pu2 Q9 fIn at hf;dsimp only at hf;cases hy:y.d with
 | lst ys=>
  rw[hy]at hf;dsimp only at hf
  split at hf
  ·rename_i hc;cases oq9 hf;exact Z0 ox oy (.inl hy) hc (k ⟨.dp,.bl _,.bl _,[]⟩ H rfl rfl qX)
  ·cases hf
 | tup ys=>
  rw[hy]at hf;dsimp only at hf
  split at hf
  ·rename_i hc;cases oq9 hf;exact Z0 ox oy (.inr hy) hc (k ⟨.dp,.bl _,.bl _,[]⟩ H rfl rfl qX)
  ·cases hf
 | str b=>
  rw[hy]at hf;dsimp only at hf
  split at hf
  ·rename_i a hx;cases oq9 hf;exact .inl ⟨a,b,(qK ox hx).1,(qK oy hy).1,k ⟨.dp,.bl _,.bl _,[]⟩ H rfl rfl qX⟩
  ·cases hf
 |_=>rw[hy]at hf;cases hf
theorem kvo:Ad2 K (V4 K true) (pu2 xk):=by
 intro H x y s Q ox oy hf k;unfold pu2 xk kzc fIn at hf;dsimp only at hf;cases hy:y.d with
 | lst ys=>
  rw[hy]at hf;dsimp only at hf
  split at hf
  ·rename_i hc;cases oq9 hf;exact Z0 ox oy (.inl hy) hc (k ⟨.dp,.bl _,.bl _,[]⟩ H rfl rfl qX)
  ·cases hf
 | tup ys=>
  rw[hy]at hf;dsimp only at hf
  split at hf
  ·rename_i hc;cases oq9 hf;exact Z0 ox oy (.inr hy) hc (k ⟨.dp,.bl _,.bl _,[]⟩ H rfl rfl qX)
  ·cases hf
 | str b=>
  rw[hy]at hf;dsimp only at hf
  split at hf
  ·rename_i a hx;cases oq9 hf;exact .inl ⟨a,b,(qK ox hx).1,(qK oy hy).1,k ⟨.dp,.bl _,.bl _,[]⟩ H rfl rfl qX⟩
  ·cases hf
 |_=>rw[hy]at hf;cases hf
theorem ZK{g:Bool}{d:D}{v:V}{as:List Addr}(h:RepL K H g d v as):decide (v=.non)=isNon d:=by
 cases d with
 |non=>unfold RepL at h;rw[h.1];rfl
 |bl _=>unfold RepL at h;rw[h.1];rfl
 |int _=>unfold RepL at h;rw[h.1];rfl
 |str _=>unfold RepL at h;rw[h.1];rfl
 |tup _=>unfold RepL at h;obtain⟨a,xs,e,_⟩:=h;rw[e];rfl
 |lst _=>unfold RepL at h;obtain⟨a,xs,bs,e,_⟩:=h;rw[e];rfl
 |dct _=>unfold RepL at h;obtain⟨a,xs,bs,e,_⟩:=h;rw[e];rfl
 |obj _ _=>unfold RepL at h;obtain⟨_,x,o,C,e,_⟩:=h;rw[e];rfl
theorem qv3:Ad2 K (λx y H Q=>y=.non/\Q (.bl (decide (x=.non))) H) (f2First fIsNon):=by
 intro H x y s Q ox oy hf k;unfold f2First fIsNon at hf;dsimp only at hf
 split at hf
 ·rename_i hy;cases oq9 hf;have e:=ZK (RepO.wk oy);rw[hy]at e;refine⟨of_decide_eq_true e,?_⟩;rw[ZK (RepO.wk ox)];exact k ⟨.dp,.bl _,.bl _,[]⟩ H rfl rfl qX
 ·cases hf
theorem qxg:Ad2 K (λx y H Q=>y=.non/\Q (.bl (!decide (x=.non))) H) (f2First fNotNon):=by
 intro H x y s Q ox oy hf k;unfold f2First fNotNon at hf;dsimp only at hf
 split at hf
 ·rename_i hy;cases oq9 hf;have e:=ZK (RepO.wk oy);rw[hy]at e;refine⟨of_decide_eq_true e,?_⟩;rw[ZK (RepO.wk ox)];exact k ⟨.dp,.bl _,.bl _,[]⟩ H rfl rfl qX
 ·cases hf
theorem qql(n:Nat)(i:Int):_root_.Q.ixN n i=L2.ixN n i:=rfl
theorem qwu{x y:Sl}{d:D}{Q:VK}(ox:x.ok K H)(oy:y.ok K H)(hf:qZ x.d y.d=some d)(k:∀z:Sl,z.o=sub x.o->z.d=d->z.ok K H->(∀b∈z.frz,b∈x.frz)->(∀b∈z.as,b∈x.as)->Q z.v H):rIx K x.v y.v H Q:=by
 have seq:∀ds:List D,(x.d=.lst ds\/x.d=.tup ds)->∀i:Int,y.d=.int i->((_root_.Q.ixN ds.length i).bind λj=>ds[j]?)=some d->rIx K x.v y.v H Q:=by
  intro ds hx i hy hd;obtain⟨l,xs,bs,e3,q3,r3,h3,h4⟩:=items ox hx;cases hj:_root_.Q.ixN ds.length i with
  | none=>rw[hj]at hd;cases hd
  | some j=>
   rw [hj]at hd;obtain⟨v,cs,e4,r4,h5⟩:=r3.get (show ds[j]?=some d from hd);have hat:atI xs i=some v:=by
    unfold atI;rw[<-r3.len,<-qql,hj];exact e4
   have fin:Q v H:=by
    cases ho:x.o with
    | dp=>
     rw[ho]at r4;exact k ⟨.dp,d,v,cs⟩ (by rw[ho];rfl) rfl r4 (λb hb=>(nomatch hb)) λb hb=>h3 b (h5 b hb)
    | no=>
     rw[ho]at r4;exact k ⟨.no,d,v,cs⟩ (by rw[ho];rfl) rfl r4 (λb hb=>h4 (by rw[ho];exact(λz=>nomatch z)) b (h5 b hb)) λb hb=>h3 b (h5 b hb)
    | rt=>
     rw[ho]at r4;exact k ⟨.no,d,v,cs⟩ (by rw[ho];rfl) rfl r4 (λb hb=>h4 (by rw[ho];exact(λz=>nomatch z)) b (h5 b hb)) λb hb=>h3 b (h5 b hb)
   rcases q3 with⟨_,z⟩|⟨_,z⟩
   ·exact .inl ⟨l,xs,i,v,e3,qv oy hy,Kx z,hat,fin⟩
   ·exact .inr (.inl ⟨l,xs,i,v,e3,qv oy hy,z,hat,fin⟩)
 unfold qZ at hf;cases hx:x.d with
 | lst ds=>
  rw [hx]at hf;cases hy:y.d with
  | int i=>rw[hy]at hf;exact seq ds (.inl hx) i hy hf
  | _=>rw[hy]at hf;cases hf
 | tup ds=>
  rw [hx]at hf;cases hy:y.d with
  | int i=>rw[hy]at hf;exact seq ds (.inr hx) i hy hf
  | _=>rw[hy]at hf;cases hf
 | str z=>
  rw [hx]at hf;cases hy:y.d with
  | int i=>
   rw [hy]at hf;have hf:((_root_.Q.ixN z.cps.size i).bind λj=>(z.cps.toList[j]?).map λc=>D.str ⟨#[c]⟩)=some d:=hf;cases hj:_root_.Q.ixN z.cps.size i with
   | none=>rw[hj]at hf;cases hf
   | some j=>
    rw[hj]at hf;cases hc:z.cps.toList[j]? with
    | none=>rw[Option.bind_some,hc]at hf;cases hf
    | some c=>
     rw[Option.bind_some,hc]at hf;cases oq9 hf;have hat:atI z.cps.toList i=some c:=by
      unfold atI;rw[X0,<-qql,hj];exact hc
     obtain⟨e1,hz⟩:=qK ox hx;refine .inr (.inr ⟨z,i,c,e1,qv oy hy,hz,hat,?_⟩);have rp:∀g,RepL K H g (.str ⟨#[c]⟩) (.str ⟨#[c]⟩) []:=λg=>x4 (show(1:Nat)<=sizeLine by decide)
     cases ho:x.o with
     |dp=>exact k ⟨.dp,.str ⟨#[c]⟩,.str ⟨#[c]⟩,[]⟩ (by rw[ho];rfl) rfl (rp false) (λb hb=>(nomatch hb)) λb hb=>(nomatch hb)
     |no=>exact k ⟨.no,.str ⟨#[c]⟩,.str ⟨#[c]⟩,[]⟩ (by rw[ho];rfl) rfl (rp true) (λb hb=>(nomatch hb)) λb hb=>(nomatch hb)
     |rt=>exact k ⟨.no,.str ⟨#[c]⟩,.str ⟨#[c]⟩,[]⟩ (by rw[ho];rfl) rfl (rp true) (λb hb=>(nomatch hb)) λb hb=>(nomatch hb)
  |_=>rw[hy]at hf;cases hf
 |non=>rw[hx]at hf;cases hf
 |bl _=>rw[hx]at hf;cases hf
 |int _=>rw[hx]at hf;cases hf
 |dct _=>rw[hx]at hf;cases hf
 |obj _ _=>rw[hx]at hf;cases hf
theorem q_ix(ha:QV X Z qa a ea)(hb:QV X Z true b eb)(hs:kqf eb)(hK:autoParam (X.K=Z.K) Ŕ):QV X Z qa (qJ a b) (.Subscript ea eb pos):=
 qj (vvm (hK▸vkd) ha hb hs) fun σ H Q b5=>ex8 b5 λE L r m w hc xc k=>by
  refine qW m w (show bnd (a E) _=some r from hc) xc λE1 s h1 x L1 H1 e1 e2 m1 w1 ok fr sr st sm=>?_
  refine qW m1 w1 h1 (xc.step st) λE2 s2 h2 y L2 H2 e3 e4 m2 w2 gw kt ku cj dw=>?_
  obtain⟨z,hz,rfl⟩:=wJ h2;cases hf:qZ s.2 s2.2 with
  |none=>rw[hf]at hz;cases hz
  |some d=>
   rw[hf]at hz;cases oq9 hz;have kx:=QX ok fr cj (dw rfl);refine qwu kx.1 gw (by rw[e2,e4];exact hf) λz zo zd kr zf za=>?_
   exact k _ _ rfl z L2 H2 (by rw[zo,e1]) zd m2 w2 kr (λb hb=>kx.2 b (zf b hb)) (Kw sr za) (st.trans cj) λhq=>kQ (sm hq) (dw rfl)
theorem vve(ht:QT X Z q u e)(ha:QE X Z q a ea)(hb:QE X Z q b eb):QE X Z q (cIf u a b) (.IfExp e ea eb pos):=qj (qk0 ht ha hb) fun σ H Q b5=>ex8 b5 λE L r m w hc xc k=>
 Zw m w (show bnd (u E) _=some r from hc) xc λE1 s h1 L1 H1 m1 w1 st sm=>by
  have fin:∀{c:Ex},c E1=some r->tQ Z q c σ H1 Q:=λhc=>⟨E1,L1,r,m1,w1,hc,xc.step st,λE' a z x L' H' e1 e2 m' w' cq ez=>k E' a z x L' H' e1 e2 m' w' (st.trans cq) λhq=>⟨kQ (sm hq) (ez hq).1,λb hb=>x5 (sm hq) ((ez hq).2 b hb)⟩⟩
  cases s with
  |true=>rw[X9 rfl]at h1 ⊢;exact fin h1
  |false=>rw[Xg (by decide)]at h1 ⊢;exact fin h1
theorem V0{op}(h:QE X Z q a ea):QE X Z q a (.BoolOp op [ea] pos):=vje h
theorem WJ(ha:QV X Z q a ea)(hb:QE X Z q b (.BoolOp .And (eb::es) pos)):QE X Z q (z5 a b) (.BoolOp .And (ea::eb::es) pos):=qj (vjk ha hb) fun σ H Q b5=>ex8 b5 λE L r m w hc xc k=>
 qW m w (show bnd (a E) _=some r from hc) xc λE1 s h1 x L1 H1 e1 e2 m1 w1 ok fr sr st sm=>by
  cases hs:s.2 with
  | bl kk=>
   rw[hs]at h1;refine⟨kk,zZ ok (e2.trans hs),?_⟩;cases kk with
   |true=>
    rw[X9 rfl];exact⟨E1,L1,r,m1,w1,h1,xc.step st,λE' a z x L' H' e1 e2 m' w' cq ez=>k E' a z x L' H' e1 e2 m' w' (st.trans cq) λhq=>⟨kQ (sm hq) (ez hq).1,λb hb=>x5 (sm hq) ((ez hq).2 b hb)⟩⟩
   |false=>
    rw[Xg (by decide)];cases oq9 h1;obtain⟨w3,cm⟩:=xz w1 st (qX (K:=Z.K) (H:=H1) (i:=false) (fr:=[])) (λ_ z=>(nomatch z)) (λ_ z=>(nomatch z)) (λ_ z=>(nomatch z));exact k _ _ rfl ⟨.dp,.bl false,.bl false,[]⟩ L1 H1 rfl rfl m1 w3 cm λhq=>⟨sm hq,λ_ z=>(nomatch z)⟩
  |_=>rw[hs]at h1;cases h1
theorem q_or(ha:QV X Z q a ea)(hb:QE X Z q b (.BoolOp .Or (eb::es) pos)):QE X Z q (cOr a b) (.BoolOp .Or (ea::eb::es) pos):=qj (vvk ha hb) fun σ H Q b5=>ex8 b5 λE L r m w hc xc k=>
 qW m w (show bnd (a E) _=some r from hc) xc λE1 s h1 x L1 H1 e1 e2 m1 w1 ok fr sr st sm=>by
  cases hs:s.2 with
  | bl kk=>
   rw[hs]at h1;refine⟨kk,zZ ok (e2.trans hs),?_⟩;cases kk with
   |false=>
    rw[Xg (by decide)];exact⟨E1,L1,r,m1,w1,h1,xc.step st,λE' a z x L' H' e1 e2 m' w' cq ez=>k E' a z x L' H' e1 e2 m' w' (st.trans cq) λhq=>⟨kQ (sm hq) (ez hq).1,λb hb=>x5 (sm hq) ((ez hq).2 b hb)⟩⟩
   |true=>
    rw[X9 rfl];cases oq9 h1;obtain⟨w3,cm⟩:=xz w1 st (qX (K:=Z.K) (H:=H1) (i:=true) (fr:=[])) (λ_ z=>(nomatch z)) (λ_ z=>(nomatch z)) (λ_ z=>(nomatch z));exact k _ _ rfl ⟨.dp,.bl true,.bl true,[]⟩ L1 H1 rfl rfl m1 w3 cm λhq=>⟨sm hq,λ_ z=>(nomatch z)⟩
  |_=>rw[hs]at h1;cases h1
theorem vwl{x:Sl}{k:Bool}(ok:x.ok K H)(h:truth x.d=some k)(hd:∀ax,x.d≠.dct ax):vqq K x.v H k:=by
 cases hx:x.d with
 |non=>rw[hx]at h;rw[qqi ok hx];exact(oq9 h).symm
 |bl b=>rw[hx]at h;rw[zZ ok hx];exact(oq9 h).symm
 |int i=>rw[hx]at h;rw[qv ok hx];exact(oq9 h).symm
 |str z=>
  rw[hx]at h;obtain⟨e,hz⟩:=qK ok hx;rw[e];refine⟨hz,?_⟩;rw[<-oq9 h];show(z.cps.size != 0)=(((z.cps.size:Nat):Int) != 0);rw[Bool.eq_iff_iff];simp
 |lst ds=>
  rw[hx]at h;obtain⟨a,xs,bs,e,q,r,_⟩:=items ok (.inl hx);rw[e];have q':LsR K H a xs:=by rcases q with⟨_,z⟩|⟨z,_⟩;exact z;rw[hx]at z;cases z
  refine .inl ⟨xs,Kx q',?_⟩;rw[<-oq9 h];have:=r.len;cases ds<;>cases xs<;>simp_all
 |tup ds=>
  rw[hx]at h;obtain⟨a,xs,bs,e,q,r,_⟩:=items ok (.inr hx);rw[e];have q':SqT K H a xs:=by rcases q with⟨z,_⟩|⟨_,z⟩;rw[hx]at z;cases z;exact z
  refine .inr (.inl ⟨xs,q',?_⟩);rw[<-oq9 h];have:=r.len;cases ds<;>cases xs<;>simp_all
 |dct ax=>exact absurd hx (hd ax)
 |obj c f=>rw[hx]at h;cases h
theorem kjj{d:D}{k:Bool}(h:truthQ d=some k):truth d=some k/\∀ax,d≠.dct ax:=by
 cases d<;>first|exact⟨h,λ_ z=>nomatch z⟩|cases h
theorem x6(h:QV X Z q a ea)(he:autoParam (∀da,isTrue ea X.env da=(do let v <-da;standAt ea.pos;holding [v] (truthy v))) Ŗ)(hK:autoParam (X.K=Z.K) Ŕ):QT X Z q (tEQ a) ea:=kqt (qjr h he) fun σ H Q b5=>ex8 b5 λE L r m w hc xc k=>
 qW m w (show bnd (a E) _=some r from hc) xc λE1 s h1 x L1 H1 e1 e2 m1 w1 ok fr sr st sm=>by
  obtain⟨kk,hk,rfl⟩:=wJ h1;obtain⟨h2,h3⟩:=kjj hk;exact⟨kk,hK▸vwl ok (by rw[e2];exact h2) (by rw[e2];exact h3),k _ _ rfl L1 H1 m1 w1 st sm⟩
theorem YJ(h:QV X Z q a ea)(hK:autoParam (X.K=Z.K) Ŕ):QE X Z q (KW a) (.UnaryOp .Not ea pos):=by
 intro pins s σ H Q I ⟨E,L,r,m,w,hc,xc,k⟩;refine UnaryOp_ (thn (h pins s σ H _ I (qW (G:=λv H1=>∃kk,vqq X.K v H1 kk/\Q (.bl (!kk)) H1) m w (show bnd (a E) _=some r from hc) xc λE1 s h1 x L1 H1 e1 e2 m1 w1 ok fr sr st sm=>?_)) λv s1 ⟨x,H1,I1,r1,kk,t1,q1⟩=>?_)
 ·obtain⟨y,hy,rfl⟩:=wJ h1;cases hk:truthQ s.2 with
  |none=>rw[hk]at hy;cases hy
  |some kk=>
   rw[hk]at hy;cases oq9 hy;obtain⟨h2,h3⟩:=kjj hk;refine⟨kk,hK▸vwl ok (by rw[e2];exact h2) (by rw[e2];exact h3),?_⟩;obtain⟨w3,cm⟩:=xz w1 st (qX (K:=Z.K) (H:=H1) (i:=!kk) (fr:=[])) (λ_ z=>(nomatch z)) (λ_ z=>(nomatch z)) (λ_ z=>(nomatch z));exact k _ _ rfl ⟨.dp,.bl (!kk),.bl (!kk),[]⟩ L1 H1 rfl rfl m1 w3 cm λhq=>⟨sm hq,λ_ z=>(nomatch z)⟩
 ·exact not_of (thn (qq4 pins s1 σ H1 x v (λkk H2=>Q (.bl (!kk)) H2) I1 r1 ⟨kk,t1,q1⟩) λc s2 ⟨H2,I2,q2⟩=>⟨.bl (!c),H2,I2,rfl,q2⟩)
end
theorem YV{α:Type}:∀{L:List α} {i:Nat} {q:α},L[i]?=some q->∃A B,L=A++q::B/\∀q',L.set i q'=A++q'::B
 |[],_,_,h=>by simp at h
 |a::L,0,q,h=>by
  have e:a=q:=by simpa using h
  subst e;exact⟨[],L,rfl,λ_=>rfl⟩
 |a::L,i+1,q,h=>by
  obtain⟨A,B,e,f⟩:=YV (L:=L) (i:=i) (by simpa using h);exact⟨a::A,B,by rw[e];rfl,λq'=>by rw[List.set_cons_succ,f];rfl⟩
section
variable {K:PySem.W.Frag}{H:Hp}{M T L:Ls}{y y':Sl}{l:Addr}{ob:HO}
theorem World.write(w:World K H (some y::(T++M)))(hl:l∈y.own)(ok':y'.ok K (upd H l ob))(nd:y'.own.Nodup)(h1:∀a∈y'.own,a∈y.own\/a∈jk T)(h2:∀a∈y'.frz,a∈y.as\/a∈jk T\/a∈jX T)(h3:∀a∈y'.own,a∉y'.frz):
  World K (upd H l ob) (some y'::M)/\Step H (some y::(T++M)) (upd H l ob) (some y'::M):=by
 have wn:=w.nd;rw [k7,jQ,Xd,Xd]at wn;obtain⟨n1,⟨n2,n3,n4⟩,n5⟩:=wn;have oy:l∈jk (some y::(T++M)):=by rw[k7];exact ll9 _ hl
 have hal:=w.own_al oy;have ds:∀a,(a∈y.own\/a∈jk T\/a∈jk M)->¬(a∈y.frz\/a∈jX T\/a∈jX M):=λa ha hf=>by
  refine w.ds a ?_ ?_
  ·rw[k7,jQ];rcases ha with z|z|z
   ·exact ll9 _ z
   ·exact lr9 _ (ll9 _ z)
   ·exact lr9 _ (lr9 _ z)
  ·rw[qq,kJ];rcases hf with z|z|z
   ·exact ll9 _ z
   ·exact lr9 _ (ll9 _ z)
   ·exact lr9 _ (lr9 _ z)
 have noM:∀z,some z∈M->l∉z.as:=λz hz ha=>by
  rcases Sl.as_of ha with q|q
  ·exact n5 l hl l (lr9 _ (mem_owned.mpr ⟨z,hz,q⟩)) rfl
  ·exact ds l (.inl hl) (.inr (.inr (mem_frozen.mpr ⟨z,hz,q⟩)))
 have ke:∀a o,H a=some o->a≠l->upd H l ob a=some o:=λa o e ne=>by rw[kj ne];exact e
 have kp:∀as:List Addr,l∉as->Kp H (upd H l ob) as:=λas hn=>by
  refine⟨λa xs e=>ke a _ e λz=>?_,λa o u e=>ke a _ e λz=>?_,λa ha o e=>ke a o e λz=>hn (z▸ha)⟩
  ·subst z;rcases hal with⟨_,q⟩|⟨_,q⟩|⟨_,q⟩<;>(rw[e]at q;cases q)
  ·subst z;rcases hal with⟨_,q⟩|⟨_,q⟩|⟨_,q⟩<;>(rw[e]at q;cases q)
 have wM:World K (upd H l ob) M:=by
  have w1:World K H M:=w.tail.right;exact⟨λz hz=>RepO.kp (w1.ok z hz) (kp _ (noM z hz)),w1.nd,w1.ds⟩
 refine⟨wM.cons ok' nd (λa ha hM=>?_) (λa ha hM=>?_) (λa ha hM=>?_) h3,λa o e hn=>ke a o e λz=>hn (z▸oy),λa ha=>?_,λa ha=>?_⟩
 ·rcases h1 a ha with z|z
  ·exact n5 a z a (lr9 _ hM) rfl
  ·exact n4 a z a hM rfl
 ·rcases h1 a ha with z|z
  ·exact ds a (.inl z) (.inr (.inr hM))
  ·exact ds a (.inr (.inl z)) (.inr (.inr hM))
 ·rcases h2 a ha with z|z|z
  ·rcases Sl.as_of z with z|z
   ·exact n5 a z a (lr9 _ hM) rfl
   ·exact ds a (.inr (.inr hM)) (.inl z)
  ·exact n4 a z a hM rfl
  ·exact ds a (.inr (.inr hM)) (.inr (.inl z))
 ·rw[k7]at ha;rw[k7,jQ];rcases List.mem_append.mp ha with z|z
  ·rcases h1 a z with z|z
   ·exact .inl (ll9 _ z)
   ·exact .inl (lr9 _ (ll9 _ z))
  ·exact .inl (lr9 _ (lr9 _ z))
 ·rw[qq]at ha;rw[k7,jQ,qq,kJ];rcases List.mem_append.mp ha with z|z
  ·rcases h2 a z with z|z|z
   ·rcases Sl.as_of z with z|z
    ·exact .inr (.inl (ll9 _ z))
    ·exact .inl (ll9 _ z)
   ·exact .inr (.inl (lr9 _ (ll9 _ z)))
   ·exact .inl (lr9 _ (ll9 _ z))
  ·exact .inl (lr9 _ (lr9 _ z))
theorem World.writeAt{i:Nat}(w:World K H (T++L))(hy:L[i]?=some (some y))(hl:l∈y.own)(ok':y'.ok K (upd H l ob))(nd:y'.own.Nodup)(h1:∀a∈y'.own,a∈y.own\/a∈jk T)(h2:∀a∈y'.frz,a∈y.as\/a∈jk T\/a∈jX T)(h3:∀a∈y'.own,a∉y'.frz):
  World K (upd H l ob) (L.set i (some y'))/\Step H (T++L) (upd H l ob) (L.set i (some y')):=by
 obtain⟨A,B,e,f⟩:=YV hy;rw[f];subst e;have p:(T++(A++some y::B)).Perm (some y::(T++(A++B))):=by
  refine(List.Perm.append_left T (List.perm_middle (a:=some y) (l₁:=A) (l₂:=B))).trans List.perm_middle
 obtain⟨w2,s2⟩:=World.write (M:=A++B) (w.perm p) hl ok' nd h1 h2 h3;exact⟨w2.perm List.perm_middle.symm,s2.perm p.symm List.perm_middle.symm⟩
end
theorem RepA.snoc{K:PySem.W.Frag}{H:Hp}{g:Bool}{d:D}{x:V}{cs:List Addr}(h:RepL K H g d x cs){ds:List D}{xs:List V}{bs:List Addr}(r:RepA K H g ds xs bs):RepA K H g (ds++[d]) (xs++[x]) (bs++cs):=by
 refine RepA.app ?_ r;unfold RepA;exact⟨x,[],cs,[],rfl,by simp,h,by unfold RepA;exact⟨rfl,rfl⟩⟩
theorem qwa{K:PySem.W.Frag}{H:Hp}{y:Sl}{ds:List D}(ok:y.ok K H)(hd:y.d=.lst ds)(ho:y.o≠.no):∃l xs bs,y.v=.ref l/\H l=some (.lst xs)/\y.as=l::bs/\l∈y.own/\RepA K H (y.o != .dp) ds xs bs:=by
 obtain⟨o,d,v,as⟩:=y;dsimp only at hd ho;subst hd;cases o with
 |no=>exact absurd rfl ho
 |rt=>
  obtain⟨a,xs,bs,rfl,r,q,rfl⟩:=(show RepR K H (.lst ds) v as from ok);exact⟨a,xs,bs,rfl,q,rfl,by simp[Sl.own],r⟩
 |dp=>
  have ok:RepL K H false (.lst ds) v as:=ok;unfold RepL at ok;obtain⟨a,xs,bs,rfl,r,q⟩:=ok;rcases q with⟨q,rfl⟩|⟨z,_⟩
  ·exact⟨a,xs,bs,rfl,q,rfl,by simp[Sl.own],r⟩
  ·cases z
theorem kx3{K:PySem.W.Frag}{H:Hp}{T L:Ls}{i:Nat}{y:Sl}{l:Addr}{xs xs':List V}{bs cs:List Addr}{o':Own}{ds':List D}(w:World K H (T++L))(hy:L[i]?=some (some y))(hH:H l=some (.lst xs))(ha:y.as=l::bs)(hl:l∈y.own)(hv:y.v=.ref l)
  (r:RepA K H (o' != .dp) ds' xs' cs) (hc:(o'=.rt/\∀a∈cs,a∈bs\/a∈jk T\/a∈jX T)\/(o'=.dp/\y.o=.dp/\cs.Nodup/\∀a∈cs,a∈bs\/a∈jk T)):
  World K (upd H l (.lst xs')) (L.set i (some ⟨o',.lst ds',y.v,l::cs⟩))/\Step H (T++L) (upd H l (.lst xs')) (L.set i (some ⟨o',.lst ds',y.v,l::cs⟩)):=by
 have oL:l∈jk L:=mem_owned.mpr ⟨y,wX hy,hl⟩;have oy:l∈jk (T++L):=by rw[jQ];exact lr9 _ oL
 have nd:=w.nd;rw [jQ,Xd]at nd;have nT:l∉jk T:=λz=>nd.2.2 l z l oL rfl
 have nF:l∉jX T:=λz=>w.ds l oy (by rw[kJ];exact ll9 _ z)
 have yn:y.own.Nodup:=by
  obtain⟨A,B,e,_⟩:=YV hy;have:=nd.2.1;rw[e,jQ,k7,Xd]at this;exact(List.nodup_append.mp this.2.1).1
 have nb:l∉bs:=λz=>by
  cases ho:y.o with
  | no=>unfold Sl.own at hl;rw[ho]at hl;exact nomatch hl
  | rt=>
   have:l∈y.frz:=by unfold Sl.frz;rw[ho,ha];exact z
   exact w.ds l oy (by rw[kJ];exact lr9 _ (mem_frozen.mpr ⟨y,wX hy,this⟩))
  | dp=>
   unfold Sl.own at yn;rw[ho,ha]at yn;exact(List.nodup_cons.mp yn).1 z
 have nc:l∉cs:=λz=>by
  rcases hc with⟨_,hc⟩|⟨_,_,_,hc⟩
  ·rcases hc l z with q|q|q
   ·exact nb q
   ·exact nT q
   ·exact nF q
  ·rcases hc l z with q|q
   ·exact nb q
   ·exact nT q
 have kp:Kp H (upd H l (.lst xs')) cs:=by
  have k2:∀a o,H a=some o->a≠l->upd H l (.lst xs') a=some o:=λa o e ne=>by rw[kj ne];exact e
  refine⟨λa zs e=>k2 a _ e λz=>?_,λa o u e=>k2 a _ e λz=>?_,λa ha o e=>k2 a o e λz=>nc (z▸ha)⟩
  ·subst z;rw[hH]at e;cases e
  ·subst z;rw[hH]at e;cases e
 have r':=r.kp kp;rcases hc with⟨rfl,hc⟩|⟨rfl,hdp,hnd,hc⟩
 ·refine World.writeAt w hy hl (y':=⟨.rt,.lst ds',y.v,l::cs⟩) ⟨l,xs',cs,hv,r',wq,rfl⟩ (by simp[Sl.own]) (λa h=>?_) (λa h=>?_) (λa h z=>?_)
  ·have:a=l:=by simpa [Sl.own]using h
   subst this;exact .inl hl
  ·rcases hc a (by simpa [Sl.frz]using h)with q|q
   ·exact .inl (by rw[ha];exact lc9 _ q)
   ·exact .inr q
  ·have:a=l:=by simpa [Sl.own]using h
   subst this;exact nc (by simpa [Sl.frz]using z)
 ·have oa:y.own=y.as:=by unfold Sl.own;rw[hdp]
  refine World.writeAt w hy hl (y':=⟨.dp,.lst ds',y.v,l::cs⟩) ?_ (List.nodup_cons.mpr ⟨nc,hnd⟩) (λa h=>?_) (λa h=>(nomatch h)) (λa h z=>(nomatch z))
  ·show RepL K _ false (.lst ds') y.v (l::cs);unfold RepL;exact⟨l,xs',cs,hv,r',.inl ⟨wq,rfl⟩⟩
  ·rcases List.mem_cons.mp (show a∈l::cs from h)with q|q
   ·subst q;exact .inl hl
   ·rcases hc a q with q|q
    ·exact .inl (by rw[oa,ha];exact lc9 _ q)
    ·exact .inr q
section
variable {X:Cx}{Z:Fx0}{pn:List Nat}{q:Bool}{c:Ex}{e:Expr}{σ:L2.St}{H:Hp}{L:Ls}{E:En}
theorem vk1{K:PySem.W.Frag}{x:Sl}{ds:List D}(ok:x.ok K H)(hd:x.d=.lst ds):tyV K "list" x.v H:=by
 obtain⟨a,xs,bs,e1,q1,_⟩:=items ok (.inl hd);rw[e1];rcases q1 with⟨_,z⟩|⟨z,_⟩
 ·exact .inl ⟨rfl,xs,z.sq⟩
 ·rw[hd]at z;cases z
theorem vvz{K:PySem.W.Frag}{x:Sl}(ok:x.ok K H)(b:Bool)(hb:b=false->vK x.sd=true):∃cs,RepL K H b x.d x.v cs/\(∀a∈cs,a∈x.as)/\(b=false->∀a∈cs,a∈x.own)/\(b=false->x.own.Nodup->cs.Nodup):=by
 cases b with
 | true=>exact⟨x.as,RepO.wk ok,λ_ h=>h,(λz=>by cases z),(λz=>by cases z)⟩
 | false=>
  have t:=hb rfl;unfold vK at t
  by_cases ho:x.o=.dp
  ·have e:x.own=x.as:=by unfold Sl.own;rw[ho]
   refine⟨x.as,?_,λ_ h=>h,λ_ a h=>by rw[e];exact h,λ_ n=>by rw[e]at n;exact n⟩;have:=ok;unfold Sl.ok at this;rw[ho]at this;exact this
  ·have hp:x.d.pure=true:=by
    rcases Bool.or_eq_true_iff.mp t with z|z
    ·exact absurd (by simpa using z) ho
    ·exact z
   obtain⟨z,rp⟩:=RepL.pu (g':=false) (RepO.wk ok) hp;exact⟨[],rp,λ_ h=>(nomatch h),λ_ _ h=>(nomatch h),λ_ _=>Y1⟩
theorem jzo{α:Type}{l:List α}{i:Nat}{x:α}(h:l[i]?=some x):l.set i x=l:=by
 obtain⟨h1,h2⟩:=List.getElem?_eq_some_iff.mp h;rw[<-h2];simp
theorem mut1 {D':Ends} {f:List D->D->Option (List D)} {i:Nat} {r:Fl} {G:V->V->Hp->Prop} (m:Mt E σ L) (w:World Z.K H L) (hc:zq f i c E=some r) (k:FlP Z pn D' σ H L r)
  (g:∀ (l:Addr) (x:V) (xs:List V) (ds ds':List D) (d:D) (bs cs:List Addr) (H1:Hp) (gg:Bool),f ds d=some ds'->H1 l=some (.lst xs)->RepA Z.K H1 gg ds xs bs->RepL Z.K H1 gg d x cs ->
   (∀ xs' es,RepA Z.K H1 gg ds' xs' es->(∀a∈es,a∈bs\/a∈cs)->((bs++cs).Nodup->es.Nodup)->D'.nx σ (upd H1 l (.lst xs')))->G (.ref l) x H1):
  ∃ v,σ[i]?=some (some v)/\tyV Z.K "list" v H/\tQ Z q c σ H (G v):=by
 unfold zq at hc;cases h0:E[i]? with
 | none=>rw[h0]at hc;cases hc
 | some s0 =>
  cases s0 with
  | none=>rw[h0]at hc;cases hc
  | some s0=>
   obtain ⟨o0,d0⟩:=s0;cases d0 with
   | lst ds0=>
    rw [h0,X9 (show qwx (some (some (o0,D.lst ds0)))=true from rfl)]at hc;obtain ⟨x0,a1,a2,a3,a4⟩:=m.get h0;refine ⟨x0.v,a4,vk1 (w.ok x0 (wX a1)) a3,?_⟩;refine Wz m w hc k λE1 s h1 x L1 H1 e1 e2 m1 w1 st _=>?_
    cases hE:E1[i]? with
    | none=>rw[hE]at h1;cases h1
    | some s1=>
     cases s1 with
     | none=>rw[hE]at h1;cases h1
     | some s1=>
      obtain⟨oo,dd⟩:=s1;rw [hE]at h1;cases dd with
      | lst ds=>
       dsimp only at h1
       by_cases jm:oo=.no
       ·rw [X9 jm]at h1;cases h1
       ·rw [Xg jm]at h1;cases hfd:f ds s.2 with
        | none=>rw[hfd]at h1;cases h1
        | some ds'=>
         rw[hfd]at h1;obtain⟨y,b1,b2,b3,b4⟩:=m1.get hE;have hv:y.v=x0.v:=by rw[a4]at b4;exact(oq9 (oq9 b4)).symm
         obtain⟨l,xs,bs,c1,c2,c3,c4,c5⟩:=qwa (w1.ok y (lc9 _ (wX b1))) b3 (by rw[b2];exact jm);have ex0:x0.v=.ref l:=hv▸c1;rw[ex0];have wT:World Z.K H1 ([some x]++L1):=w1;have jr:=w1.head;have nd:=w1.nd;rw[k7,Xd]at nd;have oT:jk [some x]=x.own:=by simp
         have fT:jX [some x]=x.frz:=by simp
         by_cases hd:oo=.dp/\vK s=true
         ·rw[X9 hd]at h1;cases oq9 h1;have hyo:y.o=.dp:=b2.trans hd.1;rw[hyo]at c5;obtain⟨cs,r1,h3,h4,h5⟩:=vvz jr false λ_=>by rw[show x.sd=s from by simp[Sl.sd,e1,e2]];exact hd.2
          refine g l x.v xs ds ds' s.2 bs cs H1 false hfd c2 c5 (by rw[<-e2];exact r1) λxs' es re he hn=>?_
          have ynd:(bs++cs).Nodup:=by
           have yo:y.own=l::bs:=by unfold Sl.own;rw[hyo,c3]
           obtain⟨A,B,e,_⟩:=YV b1;have q:=nd.2.1;rw[e,jQ,k7,Xd]at q;have q2:=(List.nodup_append.mp q.2.1).1;rw[yo]at q2;rw[Xd];refine⟨(List.nodup_cons.mp q2).2,h5 rfl nd.1,λa ha b hb hab=>?_⟩;subst hab;exact nd.2.2 a (h4 rfl a hb) a (mem_owned.mpr ⟨y,wX b1,by rw[yo];exact lc9 _ ha⟩) rfl
          obtain⟨w3,s3⟩:=kx3 (o':=.dp) (ds':=ds') (xs':=xs') wT b1 c2 c3 c4 c1 re (.inr ⟨rfl,hyo,hn ynd,λa ha=>(he a ha).imp id λz=>by rw[oT];exact h4 rfl a z⟩);refine k σ _ _ Pn.refl ?_ w3 (st.trans s3);have:=m1.set (x:=⟨.dp,.lst ds',y.v,l::es⟩) i;rw[jzo b4]at this;exact this
         ·rw[Xg hd]at h1;cases oq9 h1;have c6:RepA Z.K H1 true ds xs bs:=by
           cases hb:(y.o != .dp)with
           |true=>rw[hb]at c5;exact c5
           |false=>rw[hb]at c5;exact c5.wk
          refine g l x.v xs ds ds' s.2 bs x.as H1 true hfd c2 c6 (by rw[<-e2];exact RepO.wk jr) λxs' es re he hn=>?_
          obtain⟨w3,s3⟩:=kx3 (o':=.rt) (ds':=ds') (xs':=xs') wT b1 c2 c3 c4 c1 re (.inl ⟨rfl,λa ha=>(he a ha).imp id λz=>by rw[oT,fT];exact Sl.as_of z⟩);refine k σ _ _ Pn.refl ?_ w3 (st.trans s3);have:=m1.set (x:=⟨.rt,.lst ds',y.v,l::es⟩) i;rw[jzo b4]at this;exact this
      |_=>cases h1
   |_=>rw[h0]at hc;cases hc
theorem vvh{i:Nat}{o:Expr}{bb av pos:Pos}(hb:PE X (.Call (.Attribute o "append" bb) [e] [] av) (tBM Z.K "list" kku (zX i) (Q7 (tQ Z q c) Yv)))(hs:autoParam (swapsWith (.Call (.Attribute o "append" bb) [e] [] av) none pos.line X.env=pure false) Ŕ):
  QS X Z pn (zq xX i c) (.Expr (.Call (.Attribute o "append" bb) [e] [] av) pos):=zV (qw0 hb hs) λD σ H b5=>ex7 b5 λE L r m w hc k=>
 mut1 (G:=λv x H1=>kku v [x] H1 λ_ H2=>D.nx σ H2) m w hc k λl x xs ds ds' d bs cs H1 gg hf hH ra rx fin=>by
  unfold xX at hf
  by_cases hl:ds.length<big
  ·rw[X9 hl]at hf;cases oq9 hf;exact⟨l,xs,x,rfl,rfl,hH,by rw[<-ra.len];exact hl,fin (xs++[x]) (bs++cs) (RepA.snoc rx ra) (λa ha=>List.mem_append.mp ha) λh=>h⟩
  ·rw[Xg hl]at hf;cases hf
end
section
variable {X:Cx}{Z:Fx0}{pn:List Nat}{q:Bool}{a b c:Ex}{tg e ea eb:Expr}{σ:L2.St}{H:Hp}{L:Ls}{E:En}{pos p:Pos}
theorem qxx{pins:List (Addr×Obj)}{H1:Hp}{s1:Shared}{x:Str}{t:Tok}{R:It->Hp->Prop}(I1:L2.Inv X pins σ H1 s1)(q:R (Its x) H1):wpAny (model X.prog X.w) X.A (pyIter (.str x t)) (PIE X pins σ tg R) X.xe s1:=by
 have fp:∀b∈[s1.heap.objs.size],qQ X pins H1 b:=λb hb=>by
  have e:b=s1.heap.objs.size:=by simpa using hb
  subst e;exact I1.fpOk (Xb _) (I1.hok.fresh (Xb _))
 cases ha:x.cps.all (· < 128)
 ·exact wpAny_pyIter_wide ha ⟨s1.heap.objs.size,[s1.heap.objs.size],_,_,H1,rfl,I1.kept (t':=s1.toks) λb o e=>X6 _ e,kqh (λA' hA=>PySem.Walks.strWide hA _ x t) (λ_ _ _ _ _ st h=>wpAny_pyIter_striter_wide st h) (by decide),⟨_,Xk _ rfl,rfl,rfl⟩,fp,q⟩
 ·exact wpAny_pyIter_ascii ha ⟨s1.heap.objs.size,[s1.heap.objs.size],_,_,H1,rfl,I1.kept (t':=s1.toks) λb o e=>X6 _ e,kqh (λA' hA=>PySem.Walks.strAscii hA _ x t) (λ_ _ _ _ _ st h=>wpAny_pyIter_striter_ascii st h) (by decide),⟨_,Xk _ rfl,rfl,rfl⟩,fp,q⟩
theorem vjv{K:PySem.W.Frag}{H:Hp}(c:Nat):Sl.ok K H ⟨.no,.str ⟨#[c]⟩,.str ⟨#[c]⟩,[]⟩:=by
 show RepL K H true _ _ _;exact x4 (show(1:Nat)<=sizeLine by decide)
theorem vju{K:PySem.W.Frag}{H:Hp}(i:Int):Sl.ok K H ⟨.no,.int i,.int i,[]⟩:=by
 show RepL K H true _ _ _;exact J0
noncomputable def iAny(K:PySem.W.Frag)(tl:TE):TI:=fun σ H R=>tl σ H λx H1=>(∃a xs,x=.ref a/\SqL K H1 a xs/\(xs.length<=sizeLine->R (Itl K a) H1))\/(∃a xs,x=.ref a/\SqT K H1 a xs/\(xs.length<=sizeLine->R (Itt K a) H1))\/∃z,x=.str z/\R (Its z) H1
theorem vjc{l:Expr}{tl:TE}(hl:PE X l tl):PI X tg l (iAny X.K tl):=by
 intro pins s σ H R I h;have h':tl σ H λx H1=>(∃a xs,x=.ref a/\SqL X.K H1 a xs/\(xs.length<=sizeLine->R (Itl X.K a) H1))\/(∃a xs,x=.ref a/\SqT X.K H1 a xs/\(xs.length<=sizeLine->R (Itt X.K a) H1))\/∃z,x=.str z/\R (Its z) H1:=h
 refine thn (hl pins s σ H _ I h') λv s1 ⟨x,H1,I1,r1,q1⟩=>?_
 rcases q1 with⟨a,xs,rfl,hq,q⟩|⟨a,xs,rfl,hq,q⟩|⟨z,rfl,q⟩
 ·cases r1;obtain⟨ai,rv,p,hz⟩:=I1.list hq;refine wpAny_pyIter_list p.isList ?_;refine⟨s1.heap.objs.size,[s1.heap.objs.size],_,_,H1,rfl,I1.kept (t':=s1.toks) λb o e=>X6 _ e,kwf a _,⟨_,Xk _ rfl,rfl,rfl⟩,λb hb=>?_,q hz⟩;have e:b=s1.heap.objs.size:=by simpa using hb
  subst e;exact I1.fpOk (Xb _) (I1.hok.fresh (Xb _))
 ·cases r1;obtain⟨ai,rv,p,hz⟩:=I1.tuple hq;refine wpAny_pyIter_tuple (show s1.heap.IsTuple a ai.toArray from p) ?_;refine⟨s1.heap.objs.size,[s1.heap.objs.size],_,_,H1,rfl,I1.kept (t':=s1.toks) λb o e=>X6 _ e,kvr a _,⟨_,Xk _ rfl,rfl,rfl⟩,λb hb=>?_,q hz⟩;have e:b=s1.heap.objs.size:=by simpa using hb
  subst e;exact I1.fpOk (Xb _) (I1.hok.fresh (Xb _))
 ·obtain⟨t,rfl⟩:=r1;exact qxx I1 q
theorem J3(h:QE X Z q c e)(hK:autoParam (X.K=Z.K) Ŕ):QI X Z q tg (itS c) e:=λpins s σ H R I b5=>ex8 b5 λE L r m w hc xc k=>by
 refine(hK▸vjc h) pins s σ H R I ?_;refine V8 m w (show bnd (c E) _=some r from hc) xc λE1 s h1 x L1 H1 e1 e2 m1 w1 st sm=>?_
 obtain⟨ds,hd,rfl⟩:=wJ h1;have ok:=w1.head;have wT:World Z.K H1 (L1++[x.let].map some):=by
  refine World.comm (L:=[some x.let]) ?_;exact w1.tail.consNo (K1 ok) rfl λb hb=>w1.apart b hb
 have sT:Step H L H1 (L1++[x.let].map some):=by
  refine⟨st.keep,λb hb=>?_,λb hb=>?_⟩
  ·have:b∈jk L1:=by simpa [J4]using hb
   exact st.own b (by rw[k7];exact lr9 _ this)
  ·have:b∈jX L1\/b∈x.as:=by simpa [J4]using hb
   rcases this with z|z
   ·exact st.frz b (by rw[qq];exact lr9 _ z)
   ·exact jx0 st b z
 cases hx:x.d with
 | lst es=>
  rw[<-e2,hx]at hd;have jh:es=ds:=oq9 hd;subst jh;obtain⟨a,xs,bs,ev,q3,r3,h3,_⟩:=items ok (.inl hx);have q3:LsR Z.K H1 a xs:=by rcases q3 with⟨_,z⟩|⟨z,_⟩;exact z;rw[hx]at z;cases z
  have ck:∀H2:Hp,(∀t∈[x.let],t.ok Z.K H2)->∃ys cs,SqL Z.K H2 a ys/\RepA Z.K H2 true es ys cs/\∀b∈cs,b∈x.as:=λH2 hok=>by
   obtain⟨a',ys,cs,jl,q4,r4,h4,_⟩:=items (hok x.let (List.mem_singleton.mpr rfl)) (.inl hx);have:a'=a:=by have:=jl.symm.trans ev;exact V.ref.inj this
   subst this;rcases q4 with⟨_,z⟩|⟨z,_⟩
   ·exact⟨ys,cs,z.sq,r4,h4⟩
   ·rw[show x.let.d=D.lst es from hx]at z;cases z
  refine .inl ⟨a,xs,ev,q3.sq,λb6=>k _ _ rfl (Itl Z.K a) [x.let] L1 H1 m1 wT sT (by rw[r3.len];exact b6) (λhq=>(sm hq).1) ⟨λt ht=>by rw[List.mem_singleton.mp ht];rfl,λi H2 hok hi=>?_,λH2 hok=>?_,λi H2 v H3 d hok hy fc=>?_⟩⟩
  ·obtain⟨ys,cs,s1,s2,_⟩:=ck H2 hok;have hl:=s2.len;exact⟨ys,ys[i]'(by omega),s1,X8 (by omega)⟩
  ·obtain⟨ys,cs,s1,s2,_⟩:=ck H2 hok;exact⟨ys,s1,by rw[s2.len];exact Xb _⟩
  ·obtain⟨ys,cs,s1,s2,s3⟩:=ck H2 hok;obtain⟨e3,hy⟩:=hy;subst e3;obtain⟨v',gj,f1,f2,f3⟩:=s2.get fc;have:v'=v:=by have:=hy ys s1;rw[f1]at this;exact oq9 this
   subst this;exact⟨⟨.no,d,v',gj⟩,rfl,rfl,rfl,wY,f2,λb hb=>⟨x.let,List.mem_singleton.mpr rfl,s3 b (f3 b hb)⟩⟩
 | tup es=>
  rw[<-e2,hx]at hd;have jh:es=ds:=oq9 hd;subst jh;obtain⟨a,xs,bs,ev,q3,r3,h3,_⟩:=items ok (.inr hx);have q3:SqT Z.K H1 a xs:=by rcases q3 with⟨z,_⟩|⟨_,z⟩;rw[hx]at z;cases z;exact z
  have ck:∀H2:Hp,(∀t∈[x.let],t.ok Z.K H2)->∃ys cs,SqT Z.K H2 a ys/\RepA Z.K H2 true es ys cs/\∀b∈cs,b∈x.as:=λH2 hok=>by
   obtain⟨a',ys,cs,jl,q4,r4,h4,_⟩:=items (hok x.let (List.mem_singleton.mpr rfl)) (.inr hx);have:a'=a:=by have:=jl.symm.trans ev;exact V.ref.inj this
   subst this;rcases q4 with⟨z,_⟩|⟨_,z⟩
   ·rw[show x.let.d=D.tup es from hx]at z;cases z
   ·exact⟨ys,cs,z,r4,h4⟩
  refine .inr (.inl ⟨a,xs,ev,q3,λb6=>k _ _ rfl (Itt Z.K a) [x.let] L1 H1 m1 wT sT (by rw[r3.len];exact b6) (λhq=>(sm hq).1) ⟨λt ht=>by rw[List.mem_singleton.mp ht];rfl,λi H2 hok hi=>?_,λH2 hok=>?_,λi H2 v H3 d hok hy fc=>?_⟩⟩)
  ·obtain⟨ys,cs,s1,s2,_⟩:=ck H2 hok;have hl:=s2.len;exact⟨ys,ys[i]'(by omega),s1,X8 (by omega)⟩
  ·obtain⟨ys,cs,s1,s2,_⟩:=ck H2 hok;exact⟨ys,s1,by rw[s2.len];exact Xb _⟩
  ·obtain⟨ys,cs,s1,s2,s3⟩:=ck H2 hok;obtain⟨e3,hy⟩:=hy;subst e3;obtain⟨v',gj,f1,f2,f3⟩:=s2.get fc;have:v'=v:=by have:=hy ys s1;rw[f1]at this;exact oq9 this
   subst this;exact⟨⟨.no,d,v',gj⟩,rfl,rfl,rfl,wY,f2,λb hb=>⟨x.let,List.mem_singleton.mpr rfl,s3 b (f3 b hb)⟩⟩
 | str z=>
  rw[<-e2,hx]at hd;have hd:(if z.cps.size<=big then some (z.cps.toList.map λc=>D.str ⟨#[c]⟩)else none)=some ds:=hd
  split at hd
  ·rename_i hz;cases oq9 hd;refine .inr (.inr ⟨z,(qK ok hx).1,k _ _ rfl (Its z) [] L1 H1 m1 (by simpa using w1.tail) (by simpa using (st.trans Step.drop)) (by rw[X7,X0];exact hz) (λhq=>(sm hq).1) ⟨λt ht=>(nomatch ht),λi H2 _ hi=>?_,λH2 _=>?_,λi H2 v H3 d _ hy fc=>?_⟩⟩)
   ·show i<z.cps.size
    simpa using hi
   ·show(z.cps.toList.map λc=>D.str ⟨#[c]⟩).length=z.cps.size;simp
   ·obtain⟨e3,cc,hc,rfl⟩:=hy;subst e3;rw[Y6,Array.getElem?_toList,hc]at fc;cases oq9 fc;exact⟨⟨.no,.str ⟨#[cc]⟩,.str ⟨#[cc]⟩,[]⟩,rfl,rfl,rfl,wY,vjv cc,λb hb=>(nomatch hb)⟩
  ·cases hd
 |non=>rw[<-e2,hx]at hd;cases hd
 |bl _=>rw[<-e2,hx]at hd;cases hd
 |int _=>rw[<-e2,hx]at hd;cases hd
 |dct _=>rw[<-e2,hx]at hd;cases hd
 |obj _ _=>rw[<-e2,hx]at hd;cases hd
theorem kvq{K:PySem.W.Frag}(lo hi:Int):Walks K (Itr lo (hi - lo).toNat) [] (q9 lo hi):=by
 have hl:(q9 lo hi).length=(hi - lo).toNat:=by simp[q9]
 refine⟨λt ht=>(nomatch ht),λi H _ jt=>by rw[hl]at jt;exact jt,λH _=>by rw[hl];exact Xb _,λi H v H' d _ hy hd=>?_⟩;obtain⟨e,rfl⟩:=hy;subst e;unfold q9 at hd;rw[Y6]at hd;cases hr:(List.range (hi - lo).toNat)[i]? with
 | none=>rw[hr]at hd;cases hd
 | some j=>
  rw[hr]at hd;have:j=i:=by
   obtain⟨_,h2⟩:=List.getElem?_eq_some_iff.mp hr
   simpa using h2.symm
  subst this;cases oq9 hd;exact⟨⟨.no,.int (lo+(j:Int)),.int (lo+(j:Int)),[]⟩,rfl,rfl,rfl,wY,vju _,λb hb=>(nomatch hb)⟩
theorem kvv{i:Int}(h:KK i=true):-(2 ^ 62)<=i/\i<2 ^ 62:=by
 unfold KK at h
 simpa using h
theorem WZ(ha:QV X Z q a ea)(hg:Gl X "range")(hm:X.mg "range"=none)(fj:autoParam (starEach [ea] X.env=[(false,eval ea X.env)]) Ŕ):QI X Z q tg (xK a) (.Call (.Name "range" p) [ea] [] pos):=λpins s σ H R I b5=>ex8 b5 λE L r m w hc xc k=>by
 refine(kx7 hg hm (kZ ha vx fj) fj) pins s σ H R I ?_;refine qW m w (show bnd (a E) _=some r from hc) xc λE1 s h1 x L1 H1 e1 e2 m1 w1 ok fr sr st sm=>?_
 cases hx:s.2 with
 | int j=>
  rw[hx]at h1;dsimp only at h1
  split at h1
  ·rename_i hj;cases oq9 h1;obtain⟨j1,j2⟩:=kvv hj.1;have hv:=qv ok (e2.trans hx);refine⟨j,by rw[hv],j1,j2,?_⟩;have wk:=kvq (K:=Z.K) 0 j;rw[Int.sub_zero]at wk;exact k _ _ rfl (Itr 0 j.toNat) [] L1 H1 m1 (by simpa using w1) (by simpa using st) (by simp only[q9,X7,List.length_range,Int.sub_zero];exact hj.2) sm wk
  ·cases h1
 |_=>rw[hx]at h1;cases h1
theorem Mt.clr:∀{R:List Nat} {E:En} {L:Ls},Mt E σ L->Mt (Q.clr R E) σ (Q.clr R L)
 | [],_,_,m=>m
 | j::R,E,L,m=>by
  have un:∀{E:En} {σ:L2.St} {L:Ls} (j:Nat),Mt E σ L->Mt (E.set j none) σ (L.set j none):=by
   intro E σ L j m
   induction m generalizing j with
   |nil=>exact .nil
   |un m ih=>cases j with
    |zero=>exact .un m
    |succ j=>exact .un (ih j)
   |cons m ih=>cases j with
    |zero=>exact .un m
    |succ j=>exact .cons (ih j)
  show Mt (Q.clr R (E.set j none)) σ (Q.clr R (L.set j none));exact Mt.clr (un j m)
theorem Mt.drop:∀{E:En} {σ:L2.St} {L:Ls} (k:Nat),Mt E σ L->Mt (E.drop k) (σ.drop k) (L.drop k)
 |_,_,_,0,m=>m
 |_,_,_,k+1,.nil=>.nil
 |_,_,_,k+1,.un m=>m.drop k
 |_,_,_,k+1,.cons m=>m.drop k
theorem Mt.none_at:∀{E:En} {σ:L2.St} {L:Ls} {j:Nat},Mt E σ L->E[j]?=some none->L[j]?=some none
 |_,_,_,_,.nil,h=>by simp at h
 |_,_,_,0,.un _,_=>by simp
 |_,_,_,j+1,.un m,h=>by simpa using m.none_at (j:=j) (by simpa using h)
 |_,_,_,0,.cons _,h=>by simp at h
 |_,_,_,j+1,.cons m,h=>by simpa using m.none_at (j:=j) (by simpa using h)
theorem Mt.pick:∀{R:List Nat},Mt E σ L->Mt (R.map (at' E)) (R.map (at' σ)) (R.map (at' L))
 | [],_=>.nil
 | j::R,m=>by
  rw[List.map_cons,List.map_cons,List.map_cons];cases hE:E[j]? with
  | none=>
   have hl:=m.len;have:L[j]?=none:=by rw[List.getElem?_eq_none_iff]at hE ⊢;omega
   rw[show at' E j=none from by unfold at';rw[hE];rfl,show at' L j=none from by unfold at';rw[this];rfl];exact .un m.pick
  | some s=>
   cases s with
   |none=>
    have:L[j]?=some none:=m.none_at hE;rw[show at' E j=none from by unfold at';rw[hE];rfl,show at' L j=none from by unfold at';rw[this];rfl];exact .un m.pick
   |some s=>
    obtain⟨o,d⟩:=s;obtain⟨x,h1,h2,h3,h4⟩:=m.get hE;rw[show at' E j=some (x.o,x.d)from by unfold at';rw[hE,h2,h3];rfl,show at' L j=some x from by unfold at';rw[h1];rfl,show at' σ j=some x.v from by unfold at';rw[h4];rfl];exact .cons m.pick
theorem Mt.rep:∀{k:Nat},Mt E σ L->Mt (List.replicate k none++E) (List.replicate k none++σ) (List.replicate k none++L)
 |0,m=>by simpa using m
 |k+1,m=>by
  rw[List.replicate_succ,List.replicate_succ,List.replicate_succ];exact .un m.rep
theorem Mt.back:∀{R:List Nat} {B:En} {τ:L2.St} {M:Ls} {E:En} {L:Ls},Mt E σ L->Mt B τ M->(∀(i j:Nat) (v:V),R[i]?=some j->τ[i]?=some (some v)->σ[j]?=some (some v))->Mt (Q.back R B E) σ (Q.back R M L)
 | [],B,τ,M,E,L,m,_,_=>by simpa [Q.back]using m
 | j::R,_,_,_,E,L,m,.nil,_=>by simpa [Q.back]using m
 | j::R,_,_,_,E,L,m,.un mB,h=>by
  have un:∀{E:En} {σ:L2.St} {L:Ls} (j:Nat),Mt E σ L->Mt (E.set j none) σ (L.set j none):=by
   intro E σ L j m
   induction m generalizing j with
   |nil=>exact .nil
   |un m ih=>cases j with
    |zero=>exact .un m
    |succ j=>exact .un (ih j)
   |cons m ih=>cases j with
    |zero=>exact .un m
    |succ j=>exact .cons (ih j)
  show Mt (Q.back R _ (E.set j none)) σ (Q.back R _ (L.set j none));exact Mt.back (un j m) mB λi jj v e1 e2=>h (i+1) jj v (by simpa using e1) (by simpa using e2)
 |j::R,_,_,_,E,L,m,.cons (x:=x) mB,h=>by
  have h0:=h 0 j x.v (by simp) (by simp);have m1:=m.set (x:=x) j;rw[jzo h0]at m1;show Mt (Q.back R _ (E.set j _)) σ (Q.back R _ (L.set j _));exact Mt.back m1 mB λi jj v e1 e2=>h (i+1) jj v (by simpa using e1) (by simpa using e2)
section
variable {az d8:Expr}{cz:List Expr}{scope:Scope}{N:List Str}{k:Nat}{R:List Nat}{it:Ev (List D)}{tt:Tg}{u:Ts}{o:Own}{q1 q2:Bool}
theorem qwr:x8 k R σ=List.replicate k none++R.map (at' σ):=rfl
theorem vvu{K:PySem.W.Frag}{M:Ls}(hR:R.Nodup)(w:World K H (L++M)):World K H ((List.replicate k none++R.map (at' L))++(Q.clr R L++M))/\Step H (L++M) H ((List.replicate k none++R.map (at' L))++(Q.clr R L++M)):=by
 have p:(sls (L++M)).Perm (sls ((List.replicate k none++R.map (at' L))++(Q.clr R L++M))):=by
  have:=kvj (R:=R) (L:=L) hR;rw[Jx]at this;simp only[Jx,qvd,List.nil_append];rw[<-Xw];exact(this.append_right _).symm
 exact⟨w.same p,Step.refl.same (List.Perm.refl _) p⟩
theorem vk2{K:PySem.W.Frag}{B:Ls}{M:Ls}{H2:Hp}(hR:R.Nodup)(hr:∀j∈R,j<L.length)(hB:B.length=k+R.length)(w:World K H2 (B++(Q.clr R L++M))):World K H2 (Q.back R (B.drop k) (Q.clr R L)++M)/\Step H2 (B++(Q.clr R L++M)) H2 (Q.back R (B.drop k) (Q.clr R L)++M):=by
 have p:=kkh (R:=R) (B:=B.drop k) (L:=Q.clr R L) hR (λj hj=>kzp hj) (λj hj=>by rw[kzo];exact hr j hj) (by rw[Yi,hB];omega);have p2:(sls (Q.back R (B.drop k) (Q.clr R L)++M)).Perm (sls (B.drop k++(Q.clr R L++M))):=by
  rw[Jx,<-Xw,Jx (B.drop k++Q.clr R L)];exact p.append_right _
 have sub:(sls (B.drop k++(Q.clr R L++M))).Sublist (sls (B++(Q.clr R L++M))):=by
  rw[Jx,Jx B];refine List.Sublist.append ?_ (Yh _);unfold sls;exact(List.drop_sublist k B).filterMap _
 exact⟨(w.sub sub).same p2.symm,(Step.refl.sub sub).same (List.Perm.refl _) p2.symm⟩
theorem jx7:∀{is:List Nat} {es:List D} {E E':En},setAll is es E=some E'->E'.length=E.length
 |[],[],_,_,h=>by cases oq9 h;rfl
 |[],_::_,_,_,h=>by cases h
 |_::_,[],_,_,h=>by cases h
 |i::is,d::es,E,E',h=>by rw[jx7 (E:=E.set i (some (.no,d))) h,List.length_set]
theorem qvt{t:Tg}{d:D}{E E':En}(h:t.put d E=some E'):E'.length=E.length:=by
 cases t with
 |n i=>cases oq9 h;rw[List.length_set]
 |t is=>
  cases d with
  |tup es=>exact jx7 (show setAll is es E=some E' from h)
  |lst es=>exact jx7 (show setAll is es E=some E' from h)
  |_=>cases h
theorem kxt{nN:Nat}{Q:VK}(hσ:σ.length=nN)(hR:R.Nodup)(hr:∀j∈R,j<nN)(h:tQ Z q (cLC o k R it tt u c) σ H Q):tLC (tIS Z q it) (tG Z ((List.range R.length).map (k + ·)) tt) (tT Z q u) (tQ Z q c) k R σ H Q:=by
 obtain⟨E,L,r,m,w,fe,xc,kk⟩:=h;have fe:bnd (it E) (λE ds=>match lcL tt u c ds (K3 k R E) []with
  | some (.ok B xs)=>mkL o (Kj k R B E) xs
  | some (.exc B e)=>some (.exc (Kj k R B E) e)
  | none=>none)=some r:=fe
 rcases vk fe with⟨E1,ds,h1,h2⟩|⟨E1,cc,h1,h2⟩
 rotate_left
 ·exact⟨E,L,_,m,w,h1,xc.map h2,λE' s' z=>by cases z⟩
 refine⟨E,L,_,m,w,h1,(λ_ _ z=>by cases z),λE' ds' z J T L1 H1 m1 w1 st hz sm wk=>?_⟩;injection z with z1 z2;subst z1 z2;have hL1:∀j∈R,j<L1.length:=λj hj=>by have:=m1.len;have:=hr j hj;omega
 obtain⟨wB,sB⟩:=vvu (k:=k) hR w1;cases hrB:lcL tt u c ds (K3 k R E1) []with
 | none=>rw[hrB]at h2;cases h2
 | some rB=>
  rw [hrB]at h2;have fk:∀{H2:Hp} {A B:Ls},World Z.K H2 (A++(B++(_root_.Q.clr R L1++T.map some)))->∀t∈T,t.ok Z.K H2:=λw2 t ht=>w2.ok t (lr9 _ (lr9 _ (lr9 _ (Xh ht))))
  have mB0:Mt (K3 k R E1) (x8 k R σ) (List.replicate k none++R.map (at' L1)):=(m1.pick (R:=R)).rep;have lh:∀{B:En} {LB:Ls} {τ:L2.St} {H2:Hp} {A:Ls},Mt B τ LB->τ.length=k+R.length->Pn ((List.range R.length).map (k + ·)) (x8 k R σ) τ->World Z.K H2 (LB++(A++(_root_.Q.clr R L1++T.map some))) ->
    Mt (Kj k R B E1) σ (_root_.Q.back R (LB.drop k) (_root_.Q.clr R L1))/\World Z.K H2 (A++_root_.Q.back R (LB.drop k) (_root_.Q.clr R L1))/\Step H2 (LB++(A++(_root_.Q.clr R L1++T.map some))) H2 (A++_root_.Q.back R (LB.drop k) (_root_.Q.clr R L1)):=fun {B LB τ H2 A} mB lB pB wB2=>by
   have hl:LB.length=k+R.length:=by rw[mB.len.2];exact lB
   have pm:(LB++(A++(_root_.Q.clr R L1++T.map some))).Perm (LB++(_root_.Q.clr R L1++(A++T.map some))):=by
    refine List.Perm.append_left _ ?_;rw [<-Xw,<-Xw];exact List.Perm.append_right _ List.perm_append_comm
   obtain⟨w3,s3⟩:=vk2 (k:=k) hR hL1 hl (wB2.perm pm);have pm2:(_root_.Q.back R (LB.drop k) (_root_.Q.clr R L1)++(A++T.map some)).Perm ((A++_root_.Q.back R (LB.drop k) (_root_.Q.clr R L1))++T.map some):=by
    rw [<-Xw];exact List.Perm.append_right _ List.perm_append_comm
   refine⟨?_,(w3.perm pm2).left,(s3.perm pm.symm pm2).trans Step.dropT⟩;refine Mt.back (m1.clr) (mB.drop k) λi j v e1 e2=>?_
   have hi:i<R.length:=(List.getElem?_eq_some_iff.mp e1).1;have e3:=pB (k+i) (List.mem_map.mpr ⟨i,List.mem_range.mpr hi,rfl⟩);rw [List.getElem?_drop,e3,qwr,List.getElem?_append_right (by simp),Y3,show k+i - k=i from by omega,Y6,e1]at e2;have e4:at' σ j=some v:=by simpa using e2
   unfold at' at e4;cases hh:σ[j]? with
   | none=>rw[hh]at e4;cases e4
   | some s=>rw[hh]at e4;rw[show s=some v from e4]
  refine⟨λi n ys τ H2=>∃(B:En) (LB:Ls) (ay:List Sl),Mt B τ LB/\τ.length=k+R.length/\Pn ((List.range R.length).map (k + ·)) (x8 k R σ) τ/\World Z.K H2 (LB++(ay.map some++(_root_.Q.clr R L1++T.map some)))/\Step H L H2 (LB++(ay.map some++(_root_.Q.clr R L1++T.map some))) /\
   ys=ay.map Sl.v/\lcL tt u c (ds.drop i) B (ay.map Sl.sd)=some rB/\i<=ds.length/\ay.length<=i/\n=ds.length - i/\(q=true->jZ H H2/\∀b∈jk (ay.map some),H b=none),⟨_,K3 k R E1,_,[],mB0,by simp[x8],Pn.refl,wB,st.trans sB,rfl,hrB,Nat.zero_le _,Nat.zero_le _,rfl,λhq=>⟨sm hq,λ_ z=>(nomatch z)⟩⟩,?_⟩
  rintro i n ys τ H2 ⟨B,LB,ay,mB,lB,pB,wB2,sB2,rfl,f1,hi,hacc,rfl,smB⟩
  by_cases dl:i<ds.length
  rotate_left
  ·have e:i=ds.length:=by omega
   subst e;rw [List.drop_length]at f1;cases oq9 f1;obtain⟨m3,w3,s3⟩:=lh mB lB pB wB2;refine .inl ⟨wk.stop H2 (fk wB2) (λhq=>(smB hq).1),by rw[X7];omega,?_⟩;exact kv5 (σ:=σ) (Q:=Q) (o:=o) (xs:=ay) h2 rfl w3 (sB2.trans s3) smB kk m3
  ·have hd:ds.drop i=ds[i]::ds.drop (i+1):=List.drop_eq_getElem_cons dl;rw [hd]at f1;unfold lcL at f1;cases bv:tt.put ds[i] B with
   | none=>rw[bv]at f1;cases f1
   | some B2=>
    rw [bv]at f1;dsimp only at f1;refine .inr ⟨wk.go i H2 (fk wB2) (λhq=>(smB hq).1) dl,λv H3 hy=>?_⟩;obtain⟨z,zo,zd,zv,smz,kr,zas⟩:=wk.yld i H2 v H3 ds[i] (fk wB2) (λhq=>(smB hq).1) hy (X8 dl);have pm:(LB++(ay.map some++(_root_.Q.clr R L1++T.map some))).Perm ((LB++(ay.map some++_root_.Q.clr R L1))++T.map some):=by
     rw[<-Xw (ay.map some),<-Xw]
    obtain⟨wz,sz⟩:=jzd (wB2.perm pm) wk.no smz kr zo zas;have wz':World Z.K H3 ((some z::LB)++(ay.map some++(_root_.Q.clr R L1++T.map some))):=wz.perm (by
     rw[List.cons_append,List.cons_append];exact List.Perm.cons _ pm.symm)
    have sz':Step H2 (LB++(ay.map some++(_root_.Q.clr R L1++T.map some))) H3 ((some z::LB)++(ay.map some++(_root_.Q.clr R L1++T.map some))):=sz.perm pm.symm (by
     rw[List.cons_append,List.cons_append];exact List.Perm.cons _ pm.symm)
    refine⟨B,LB,z,B2,mB,wz'.left,zo,zv,by rw[zd];exact bv,fun τ2 LB2 p2 mB2 wB3 sB3=>?_⟩;obtain⟨w4,s4⟩:=stay wz' sB3 wB3;have lB2:τ2.length=k+R.length:=by
     have h1:=mB2.len.1;have h2:=mB.len.1;have h3:=qvt bv;omega
    have p3:=pB.trans p2;have jy:Step H L H3 (LB2++(ay.map some++(_root_.Q.clr R L1++T.map some))):=sB2.trans (sz'.trans s4);have dy:q=true->jZ H H3/\∀b∈jk (ay.map some),H b=none:=λhq=>⟨kQ (smB hq).1 smz,(smB hq).2⟩
    refine⟨λy H5=>∃(B:En) (LB:Ls) (fh:List Sl),Mt B τ2 LB/\World Z.K H5 (LB++(fh.map some++(_root_.Q.clr R L1++T.map some)))/\Step H L H5 (LB++(fh.map some++(_root_.Q.clr R L1++T.map some)))/\ay.map Sl.v++[y]=fh.map Sl.v/\fh.length=ay.length+1/\lcL tt u c (ds.drop (i+1)) B (fh.map Sl.sd)=some rB/\(q=true->jZ H H5/\∀b∈jk (fh.map some),H b=none),
     λH5=>∃B LB,Mt B τ2 LB/\World Z.K H5 (LB++(ay.map some++(_root_.Q.clr R L1++T.map some)))/\Step H L H5 (LB++(ay.map some++(_root_.Q.clr R L1++T.map some)))/\lcL tt u c (ds.drop (i+1)) B (ay.map Sl.sd)=some rB/\(q=true->jZ H H5/\∀b∈jk (ay.map some),H b=none),
     λy H5 ⟨B5,LB5,acc5,c1,c2,c3,c4,c5,c6,c7⟩=>⟨by rw[X7];omega,ds.length - (i+1),by omega,B5,LB5,acc5,c1,lB2,p3,c2,c3,c4,c6,dl,by omega,rfl,c7⟩,
     λH5 ⟨B5,LB5,c1,c2,c3,c6,c7⟩=>⟨ds.length - (i+1),by omega,B5,LB5,ay,c1,lB2,p3,c2,c3,rfl,c6,dl,by omega,rfl,c7⟩,?_⟩
    have xcB:∀{α:Type} {H6:Hp} {L6:Ls} {B6:En} {cc:Str} {A:Ls},rB=.exc B6 cc->World Z.K H6 (L6++(A++(_root_.Q.clr R L1++T.map some)))->Step H L H6 (L6++(A++(_root_.Q.clr R L1++T.map some)))->Xc Z τ2 H6 L6 (.exc B6 cc:Res α):=fun {α H6 L6 B6 cc A} er w6 s6 E7 c7 e7 C L7 H7 hm m7 w7 s7=>by
     injection e7 with e8 e9;subst e8 e9;subst er;cases oq9 h2;obtain⟨w8,s8⟩:=stay w6 s7 w7;obtain⟨m9,w9,s9⟩:=lh m7 lB2 p3 w8;exact xc _ _ rfl C _ H7 hm m9 w9.right ((s6.trans (s8.trans s9)).trans ⟨λ_ _ h _=>h,λa ha=>.inl (by rw[jQ];exact lr9 _ ha),λa ha=>.inl (by rw[kJ];exact lr9 _ ha)⟩)
    rcases vk f1 with⟨B4,kb,g1,g2⟩|⟨B4,cc,g1,g2⟩
    rotate_left
    ·exact⟨B2,LB2,_,mB2,wB3,g1,xcB g2 w4 jy,λE' s' z=>by cases z⟩
    refine⟨B2,LB2,_,mB2,wB3,g1,(λ_ _ z=>by cases z),λE' s' z LB4 H4 mB4 wB4 sB4 iy=>?_⟩;injection z with z1 z2;subst z1 z2;obtain⟨w5,s5⟩:=stay w4 sB4 wB4;have fy:=jy.trans s5;cases kb with
    | false=>
     rw[Xg (by decide)]at g2 ⊢;exact⟨B4,LB4,mB4,w5,fy,g2,λhq=>⟨kQ (dy hq).1 (iy hq),(dy hq).2⟩⟩
    | true=>
     rw[X9 rfl]at g2 ⊢;rcases vk g2 with⟨B6,y,g3,g4⟩|⟨B6,cc,g3,g4⟩
     rotate_left
     ·exact⟨B4,LB4,_,mB4,wB4,g3,xcB g4 w5 fy,λE' s' z=>by cases z⟩
     refine⟨B4,LB4,_,mB4,wB4,g3,(λ_ _ z=>by cases z),λE' s' z x LB6 H6 ex ey mB6 wB6 sB6 sm6=>?_⟩;injection z with z1 z2;subst z1 z2;obtain⟨w7,s7⟩:=stay w5 sB6 wB6;have pm3:((some x::LB6)++(ay.map some++(_root_.Q.clr R L1++T.map some))).Perm (LB6++((ay++[x]).map some++(_root_.Q.clr R L1++T.map some))):=by
      rw[Y8,List.cons_append];have:(LB6++(ay.map some++[x].map some++(_root_.Q.clr R L1++T.map some)))=(LB6++ay.map some)++some x::(_root_.Q.clr R L1++T.map some):=by simp
      rw[this];refine List.Perm.trans ?_ List.perm_middle.symm;rw[Xw]
     refine⟨B6,LB6,ay++[x],mB6,w7.perm pm3,(fy.trans s7).perm (List.Perm.refl _) pm3,by simp,by simp,?_,λhq=>⟨kQ (dy hq).1 (kQ (iy hq) (sm6 hq).1),λb hb=>?_⟩⟩
     ·rw[Y8,show[x].map Sl.sd=[y]from by simp[Sl.sd,ex,ey]];exact g4
     ·rw[Y8,jQ]at hb;rcases List.mem_append.mp hb with hb|hb
      ·exact(dy hq).2 b hb
      ·have hb:b∈x.own:=by simpa using hb
       exact x5 (kQ (dy hq).1 (iy hq)) ((sm6 hq).2 b hb)
theorem vx1(N:List Str)(hi:QI X Z q tg it az)
  (hg:∀cl C s0 H0 fp,QG (lcE X scope N cl C s0 H0 fp Z.EX) Z ((List.range R.length).map (k + ·)) tt tg) (ht:∀cl C s0 H0 fp,PTs (lcE X scope N cl C s0 H0 fp Z.EX) cz (tT Z q u)) (he:∀cl C s0 H0 fp,QE (lcE X scope N cl C s0 H0 fp Z.EX) Z q c d8)
  (gx:vY X Z.EX) (top:wQ X) (hR:R.Nodup) (hr:∀j∈R,j<X.N.length) (hc:autoParam (X.calm=true) Ŕ) (hk:autoParam (scope.kind=.function) Ŕ) (gh:autoParam (JJ X.N X.env.scope scope N k R=true) Ŕ) (hs:autoParam (∀x,foldedSetIterable az X.env x=pure x) Ŗ):
  QE X Z q (cLC o k R it tt u c) (.ListComp d8 [⟨tg,az,cz,0⟩] scope pos):=λpins s σ H Q I hw=>
 vjg (EX:=Z.EX) N k R (vx0 hi) hg ht he gx top hc hk gh hs pins s σ H Q I (kxt I.len hR hr hw)
theorem kx5{EX:XK}{wi:TI}{g:TG}{tte:TT}{te:TE}{i:Nat}{y:Str}{py fu:Pos}(N:List Str)(k:Nat)(R:List Nat)(hN:X.N.Nodup)(hy:X.N[i]?=some y)(hx:Loc X.env.scope y)(hi:PI X tg az wi)
  (hg:∀cl C s0 H0 fp,PG (lcE X scope N cl C s0 H0 fp EX) tg g) (ht:∀cl C s0 H0 fp,PTs (lcE X scope N cl C s0 H0 fp EX) cz tte) (he:∀cl C s0 H0 fp,PE (lcE X scope N cl C s0 H0 fp EX) d8 te) (gx:vY X EX) (top:wQ X)
  (im:autoParam (swapsWith (.ListComp d8 [⟨tg,az,cz,0⟩] scope pos) (some (.Name y py)) fu.line X.env=pure true) Ŕ)
  (hc:autoParam (X.calm=true) Ŕ) (hk:autoParam (scope.kind=.function) Ŕ) (gh:autoParam (JJ X.N X.env.scope scope N k R=true) Ŕ) (hs:autoParam (∀x,foldedSetIterable az X.env x=pure x) Ŗ)
  (hf:autoParam (X.fn y=true\/X.env.scope.names.lookup y=some .local) ś):
  PS X (.Assign [.Name y py] (.ListComp d8 [⟨tg,az,cz,0⟩] scope pos) fu) (λD σ H=>tLC wi g tte te k R σ H λv H1=>D.nx (σ.set i (some v)) H1):=by
 intro pins s σ H D I h;have sc:=kv9 hk gh;obtain⟨cl,fq,ei,bn⟩:=jzg (scope:=scope) (env:=X.env) λy hy e=>I.ok.has y.1 (sc.caps y hy e)
 rw[exec_Assign_Name_used _ _ _ _ im];refine X2 (wpAny_standAt (X2 ?_));show wpAny _ X.A (do let _ <-comprehension (.ListComp d8 [⟨tg,az,cz,0⟩] scope pos) scope X.env _ (newList []) false (eval az X.env) (some (assign (.Name y py) X.env))) _ _ s;refine X2 (thn (wpAny_comprehension_free (use:=some (assign (.Name y py) X.env)) (Q:=λ_ s'=>SP X pins D .next s') rfl hs fq sc.kind sc.names
  (thn (hi pins s σ H _ I h) λv s1 h1=>thn h1 λitv s2 h2=>?_)) λ_ s' hq=>Xf (Xf hq))
 obtain⟨it,fp,tn,J,H2,e,I2,T,cj,f2,W,w0,dn⟩:=h2;subst e;refine kk1 (EX:=EX) (RR:=λay C=>compPost (model X.prog X.w) X.A X.xe (some (assign (.Name y py) X.env)) (λ_ s'=>SP X pins D .next s') ay C) hc top sc ei bn (hg cl) (ht cl) (he cl) I2 T cj f2 w0 dn ?_ ?_
 rotate_left
 ·intro D' C s' cb σ' H' x T Cc fl hC t q;exact qqk gx I2 f2 hC t q
 intro L C oC m ys H' s' I' eC nC fC q;show wpAny _ X.A (assign (.Name y py) X.env (.ref L)) _ _ s';refine wpAny_assign_Name (WY I' hN hy hx (v:=.ref L) rfl (λiu I''=>?_) hf);have pC:=I''.pin (C,oC) (lr9 _ (lr9 _ (List.mem_singleton.mpr rfl)));refine⟨m,nC.at' λo e=>?_,λh' sb=>⟨_,_,I''.unpinned.turned (it:=C) (t':=iu.toks) (λb o hb e=>(sb.2 b hb).trans e) fC.1 fC.2.1 fC.2.2.2.1 fC.2.2.2.2.1 fC.2.2.2.2.2,q⟩⟩;rw[eC]at e;cases e;exact pC.1
theorem qvp{i:Nat}{y:Str}{py fu:Pos}(N:List Str)(hN:X.N.Nodup)(hy:X.N[i]?=some y)(hx:Loc X.env.scope y)(hi:QI X Z q tg it az)
  (hg:∀cl C s0 H0 fp,QG (lcE X scope N cl C s0 H0 fp Z.EX) Z ((List.range R.length).map (k + ·)) tt tg) (ht:∀cl C s0 H0 fp,PTs (lcE X scope N cl C s0 H0 fp Z.EX) cz (tT Z q u)) (he:∀cl C s0 H0 fp,QE (lcE X scope N cl C s0 H0 fp Z.EX) Z q c d8)
  (gx:vY X Z.EX) (top:wQ X) (hR:R.Nodup) (hr:∀j∈R,j<X.N.length) (hp:autoParam (i∉pn) ŕ)
  (im:autoParam (swapsWith (.ListComp d8 [⟨tg,az,cz,0⟩] scope pos) (some (.Name y py)) fu.line X.env=pure true) Ŕ)
  (hc:autoParam (X.calm=true) Ŕ) (hk:autoParam (scope.kind=.function) Ŕ) (gh:autoParam (JJ X.N X.env.scope scope N k R=true) Ŕ) (hs:autoParam (∀x,foldedSetIterable az X.env x=pure x) Ŗ)
  (hf:autoParam (X.fn y=true\/X.env.scope.names.lookup y=some .local) ś):
  QS X Z pn (jW i (cLC o k R it tt u c)) (.Assign [.Name y py] (.ListComp d8 [⟨tg,az,cz,0⟩] scope pos) fu):=
 qzz (q:=q) hp λpins s σ H D I hw=>kx5 N k R hN hy hx (vx0 hi) hg ht he gx top im hc hk gh hs hf pins s σ H D I (kxt I.len hR hr hw)
end
end
section
variable {X:Cx}{Z:Fx0}{K:PySem.W.Frag}{pn:List Nat}{q qa qb:Bool}{a b c:Ex}{u:Ts}{tg e ea eb:Expr}{σ:L2.St}{H:Hp}{L:Ls}{E:En}{pos p:Pos}{x:Str}{id T:String}{r:List V->Hp->VK->Prop}{f:Sd->Option Sd}{g:Sd->Sd->Option Sd}
theorem qvo:PTs X [] (tT Z q _root_.Q.tYes):=λpins s σ H Q I b5=>ex8 b5 λE L r m w hc xc k=>by
 cases oq9 hc;exact qvv pins s σ H Q I (k _ _ rfl L H m w Step.refl λ_=>wY)
theorem qzq(h:QT X Z q u e):PTs X [e] (tT Z q u):=qvu h
theorem vvf(hc:CallR X (.builtin id) r)(ad:Ad1 Z.K (λv H Q=>r [v] H Q) f)(ha:QV X Z q a ea)(hm:X.mg x=none)(hv:bootBuiltins x=some (.builtin id))(hg:autoParam (Gl X x) Ŕ)(hn:autoParam (x≠"__name__") ŕ)(cy:autoParam ((x==("__debug__":Str))=false) ŕ)
  (he:autoParam (starEach [ea] X.env=(false,eval ea X.env)::starEach [] X.env) Ŕ) (bz:autoParam ((backTo pos (starEach [] X.env)).any (·.1)=false) Ŕ):QE X Z q (cF1 f a) (.Call (.Name x p) [ea] [] pos):=
 qj (Z1 hc hg hm hv (kZ ha vx he) hn cy he bz) fun σ H Q h=>J7 (r:=λv H Q=>r [v] H Q) ad h
theorem V9(hc:CallR X (.type T) r)(ad:Ad1 Z.K (λv H Q=>r [v] H Q) f)(ha:QV X Z q a ea)(hm:X.mg x=none)(hv:bootBuiltins x=some (.type T))(hg:autoParam (Gl X x) Ŕ)(hn:autoParam (x≠"__name__") ŕ)(cy:autoParam ((x==("__debug__":Str))=false) ŕ)
  (he:autoParam (starEach [ea] X.env=(false,eval ea X.env)::starEach [] X.env) Ŕ) (bz:autoParam ((backTo pos (starEach [] X.env)).any (·.1)=false) Ŕ):QE X Z q (cF1 f a) (.Call (.Name x p) [ea] [] pos):=
 qj (kxc hc hg hm hv (kZ ha vx he) hn cy he bz) fun σ H Q h=>J7 (r:=λv H Q=>r [v] H Q) ad h
theorem vq2:Ad1 K (λv H Q=>kwt K [v] H Q) (pu1 kz):=by
 intro H x s Q ok hf k;unfold pu1 at hf;have fin:∀n:Nat,kz x.d=some (.int n)->Q (.int n) H:=λn e=>by
  rw[show(x.o,x.d).2=x.d from rfl,e]at hf;cases oq9 hf;exact k ⟨.dp,.int n,.int n,[]⟩ H rfl rfl J9
 cases hx:x.d with
 |lst ds=>
  obtain⟨l,xs,bs,e,q,r,_⟩:=items ok (.inl hx);refine .inl ⟨l,xs,by rw[e],?_,by rw[<-r.len];exact fin ds.length (by rw[hx];rfl)⟩;rcases q with⟨_,z⟩|⟨_,z⟩
  ·exact .inl (Kx z)
  ·exact .inr z
 |tup ds=>
  obtain⟨l,xs,bs,e,q,r,_⟩:=items ok (.inr hx);refine .inl ⟨l,xs,by rw[e],?_,by rw[<-r.len];exact fin ds.length (by rw[hx];rfl)⟩;rcases q with⟨_,z⟩|⟨_,z⟩
  ·exact .inl (Kx z)
  ·exact .inr z
 |str z=>
  obtain⟨e,hz⟩:=qK ok hx;exact .inr (.inl ⟨z,by rw[e],hz,fin z.length (by rw[hx];rfl)⟩)
 |_=>rw[show(x.o,x.d).2=x.d from rfl,hx]at hf;cases hf
noncomputable def qvl(K:PySem.W.Frag):List V->Hp->VK->Prop:=λxs H Q=>vwy K xs H Q\/(∃p ys U,xs=[.ref p,.ty U]/\SqT K H p ys/\U∈kinds.tail/\Q (.bl (VQ "tuple" U)) H)\/∃p ys U,xs=[.ref p,.ty U]/\SqL K H p ys/\U∈kinds.tail/\Q (.bl (VQ "list" U)) H
theorem kzu(hK:autoParam (X.K=K) Ŕ):CallR X (.builtin "isinstance") (qvl K):=by
 subst hK;intro pins s σ H xs us Q I r h;rcases h with h|⟨p,ys,U,rfl,hq,hU,q⟩|⟨p,ys,U,rfl,hq,hU,q⟩
 ·exact qkm pins s σ H xs us Q I r h
 ·obtain⟨u,w',rfl,r1,r2⟩:=K6 r;cases(show w'=Value.type U from r2);cases r1;obtain⟨ai,_,⟨o,h1,h2,_⟩,_⟩:=I.tuple hq;exact Xq PySem.W.kitx_tuple I.kIn ⟨o,h1,h2⟩ (kq3 (T:="tuple") (by decide) hU) (λz=>nomatch z) λtk=>⟨.bl _,H,I.tok _,rfl,q⟩
 ·obtain⟨u,w',rfl,r1,r2⟩:=K6 r;cases(show w'=Value.type U from r2);cases r1;obtain⟨ai,_,⟨o,n,h1,h2,_⟩,_⟩:=I.list hq;exact Xq PySem.W.kitx_list I.kIn ⟨o,h1,h2⟩ (kq3 (T:="list") (by decide) hU) (λz=>nomatch z) λtk=>⟨.bl _,H,I.tok _,rfl,q⟩
theorem vq3{U:String}(hU:U∈kinds.tail):Ad1 K (λv H Q=>qvl K [v,.ty U] H Q) (pu1 (vW U)):=by
 intro H x s Q ok hf k;unfold pu1 vW at hf;have fin:∀(T:String),kind x.d=T->(∀c f,x.d≠.obj c f)->Q (.bl (VQ T U)) H:=λT e ho=>by
  cases hx:x.d with
  |obj c f=>exact absurd hx (ho c f)
  |dct ax=>rw[show(x.o,x.d).2=x.d from rfl,hx]at hf;cases hf
  |_=>
   rw[show(x.o,x.d).2=x.d from rfl,hx]at hf;cases oq9 hf;rw[<-e,hx];exact k ⟨.dp,.bl _,.bl _,[]⟩ H rfl rfl qX
 cases hx:x.d with
 |non=>exact .inl ⟨x.v,"NoneType",U,rfl,by rw[qqi ok hx];exact .non,by decide,hU,fin _ (by rw[hx];rfl) (by rw[hx];exact λ_ _ z=>nomatch z)⟩
 |bl k=>exact .inl ⟨x.v,"bool",U,rfl,by rw[zZ ok hx];exact .bl _,by decide,hU,fin _ (by rw[hx];rfl) (by rw[hx];exact λ_ _ z=>nomatch z)⟩
 |int k=>exact .inl ⟨x.v,"int",U,rfl,by rw[qv ok hx];exact .int _,by decide,hU,fin _ (by rw[hx];rfl) (by rw[hx];exact λ_ _ z=>nomatch z)⟩
 |str k=>exact .inl ⟨x.v,"str",U,rfl,by rw[(qK ok hx).1];exact .str _,by decide,hU,fin _ (by rw[hx];rfl) (by rw[hx];exact λ_ _ z=>nomatch z)⟩
 |lst ds=>
  obtain⟨l,xs,bs,e,q,r,_⟩:=items ok (.inl hx);have f:=fin "list" (by rw[hx];rfl) (by rw[hx];exact λ_ _ z=>nomatch z);rcases q with⟨_,z⟩|⟨z,_⟩
  ·exact .inr (.inr ⟨l,xs,U,by rw[e],z.sq,hU,f⟩)
  ·rw[hx]at z;cases z
 |tup ds=>
  obtain⟨l,xs,bs,e,q,r,_⟩:=items ok (.inr hx);have f:=fin "tuple" (by rw[hx];rfl) (by rw[hx];exact λ_ _ z=>nomatch z);rcases q with⟨z,_⟩|⟨_,z⟩
  ·rw[hx]at z;cases z
  ·exact .inr (.inl ⟨l,xs,U,by rw[e],z,hU,f⟩)
 |dct ax=>
  rw[show(x.o,x.d).2=x.d from rfl,hx]at hf;cases hf
 |obj c f=>
  rw[show(x.o,x.d).2=x.d from rfl,hx]at hf;cases hf
theorem Qj{U:String}{y:Str}{p2:Pos}(ha:QV X Z q a ea)(hm:X.mg "isinstance"=none)(hmy:X.mg y=none)(hy:bootBuiltins y=some (.type U))(hK:X.K=Z.K)(hU:autoParam (U∈kinds.tail) ŕ)(hg:autoParam (Gl X "isinstance") Ŕ)(hgy:autoParam (Gl X y) Ŕ)(hny:autoParam (y≠"__name__") ŕ)(hdy:autoParam ((y==("__debug__":Str))=false) ŕ)
  (he:autoParam (starEach [ea,.Name y p2] X.env=(false,eval ea X.env)::starEach [.Name y p2] X.env) Ŕ) (gp:autoParam (starEach [.Name y p2] X.env=(false,eval (.Name y p2) X.env)::starEach [] X.env) Ŕ) (bz:autoParam ((backTo pos (starEach [.Name y p2] X.env)).any (·.1)=false) Ŕ):
  QE X Z q (cF1 (pu1 (vW U)) a) (.Call (.Name "isinstance" p) [ea,.Name y p2] [] pos):=
 qj (Z1 (kzu hK) hg hm jqm (kZ ha (kZ (kxd (v:=.ty U) hgy hmy hy rfl hny hdy) vx gp) he) (by decide) (by decide) he bz) fun σ H Q h=>J7 (r:=λv H Q=>qvl Z.K [v,.ty U] H Q) (vq3 hU) h
theorem qv4:Ad1 K (λv H Q=>kwu [v] H Q) (pu1 JK):=by
 intro H x s Q ok hf k;unfold pu1 JK at hf;dsimp only at hf
 split at hf
 ·rename_i i e;cases oq9 hf;exact .inl ⟨i,by rw[qv ok e],k ⟨.dp,.int _,.int _,[]⟩ H rfl rfl J9⟩
 ·rename_i i e;cases oq9 hf;exact .inr (.inl ⟨i,by rw[zZ ok e],k ⟨.dp,.int _,.int _,[]⟩ H rfl rfl J9⟩)
 ·rename_i z e
  split at hf
  ·rename_i hz;cases ht:PySem.intText? z with
   |none=>rw[ht]at hf;cases hf
   |some n=>
    rw[ht]at hf;cases oq9 hf;exact .inr (.inr ⟨z,n,by rw[(qK ok e).1],ht,hz,k ⟨.dp,.int _,.int _,[]⟩ H rfl rfl J9⟩)
  ·cases hf
 ·cases hf
theorem qj0{g:Bool}:∀{ds:List D} {bs:List Bool} {xs:List V} {as:List Addr},bls ds=some bs->RepA K H g ds xs as->xs=bs.map V.bl
 | [],bs,xs,as,h,r=>by
  cases oq9 h;unfold RepA at r;exact r.1
 | d::ds,bs,xs,as,h,r=>by
  cases d with
  | bl b=>
   unfold bls at h;cases hb:bls ds with
   |none=>rw[hb]at h;cases h
   |some gj=>
    rw[hb]at h;cases oq9 h;unfold RepA at r;obtain⟨x,rr,c1,c2,rfl,rfl,h1,h2⟩:=r;unfold RepL at h1;rw[h1.1,qj0 hb h2];rfl
  |_=>unfold bls at h;cases h
theorem qv5:Ad1 K (λv H Q=>vva K [v] H Q) (pu1 VZ):=by
 intro H x s Q ok hf k;unfold pu1 VZ at hf;dsimp only at hf
 split at hf
 ·rename_i ds e;cases hb:bls ds with
  |none=>rw[hb]at hf;cases hf
  |some bs=>
   rw[hb]at hf;cases oq9 hf;obtain⟨l,xs,cs,ev,q3,r3,_⟩:=items ok (.inl e);have q3:LsR K H l xs:=by rcases q3 with⟨_,z⟩|⟨z,_⟩;exact z;rw[e]at z;cases z
   exact⟨l,bs,by rw[ev],by rw[<-qj0 hb r3];exact Kx q3,k ⟨.dp,.bl _,.bl _,[]⟩ H rfl rfl qX⟩
 ·cases hf
theorem wZ{g:Int->Int->Bool}:∀x y s,pu2 (c2 g) x y=some s->∃k,s.2=.bl k:=by
 intro x y s h;unfold pu2 c2 at h
 split at h
 ·cases oq9 h;exact⟨_,rfl⟩
 ·cases h
theorem ww:∀x y s,pu2 fEq x y=some s->∃k,s.2=.bl k:=by
 intro x y s h;unfold pu2 fEq at h
 split at h
 ·cases oq9 h;exact⟨_,rfl⟩
 ·cases h
theorem XJ:∀x y s,pu2 fNe x y=some s->∃k,s.2=.bl k:=by
 intro x y s h;unfold pu2 fNe at h
 split at h
 ·cases oq9 h;exact⟨_,rfl⟩
 ·cases h
theorem vkn{x y d:D}(h:fIn x y=some d):∃k,d=.bl k:=by
 unfold fIn at h
 split at h
 ·split at h
  ·cases oq9 h;exact⟨_,rfl⟩
  ·cases h
 ·split at h
  ·cases oq9 h;exact⟨_,rfl⟩
  ·cases h
 ·split at h
  ·cases oq9 h;exact⟨_,rfl⟩
  ·cases h
 ·cases oq9 h;exact⟨_,rfl⟩
 ·cases h
theorem kvl:∀x y s,pu2 xk x y=some s->∃k,s.2=.bl k:=by
 intro x y s h;unfold pu2 xk kzc at h
 split at h
 ·cases h
 ·cases hf:fIn x.2 y.2 with
  |none=>rw[hf]at h;cases h
  |some d=>
   obtain⟨k,rfl⟩:=vkn hf;rw[hf]at h;cases oq9 h;exact⟨_,rfl⟩
theorem qqy:∀x y s,f2First fIsNon x y=some s->∃k,s.2=.bl k:=by
 intro x y s h;unfold f2First fIsNon at h
 split at h
 ·cases oq9 h;exact⟨_,rfl⟩
 ·cases h
theorem qxd:∀x y s,f2First fNotNon x y=some s->∃k,s.2=.bl k:=by
 intro x y s h;unfold f2First fNotNon at h
 split at h
 ·cases oq9 h;exact⟨_,rfl⟩
 ·cases h
end
end Q
namespace Q
open PySem
def xv(n d:Nat):Option Int->Nat
 |none=>d
 |some v=>if v<0 then(v+(n:Int)).toNat else min v.toNat n
noncomputable def J5(xs:List D)(lo hi:Option Int):List D:=(xs.drop (xv xs.length 0 lo)).take (xv xs.length xs.length hi - xv xs.length 0 lo)
noncomputable def fSl:Sd->Option Int->Option Int->Option Sd:=λx lo hi=>match x.2 with
 |.lst xs=>if v7 x then some (.rt,.lst (J5 xs lo hi))else none
 |.tup xs=>if v7 x/\¬(xv xs.length 0 lo=0/\xv xs.length xs.length hi=xs.length)then some (.no,.tup (J5 xs lo hi))else none
 |.str z=>if(Txt.slice z lo hi).length<=big then some (.dp,.str (Txt.slice z lo hi))else none
 |_=>none
noncomputable def Kv:Option Ex->Ev (Option Int)
 |none,E=>some (.ok E none)
 |some c,E=>bnd (c E) λE x=>match x.2 with
  |.int i=>some (.ok E (some i))
  |_=>none
noncomputable def cSl(a:Ex)(lo hi:Option Ex):Ex:=λE=>bnd (a E) λE x=>bnd (Kv lo E) λE l=>bnd (Kv hi E) λE h=>val E (fSl x l h)
def vkp:Nat->List D->List D
 |_,[]=>[]
 |k,d::ds=>.tup [.int k,d]::vkp (k+1) ds
def qY:List D->List D->List D
 |a::x,b::y=>.tup [a,b]::qY x y
 |_,_=>[]
def lstOf:D->Option (List D)
 |.lst xs=>some xs
 |_=>none
noncomputable def qkd(c d:Ex):Ev (List D):=λE=>bnd (c E) λE x=>bnd (d E) λE y=>val E ((lstOf x.2).bind λxs=>(lstOf y.2).bind λys=>if xs.length<=big then some (qY xs ys)else none)
def zj:List D->Option (List Str)
 |[]=>some []
 |.str z::ds=>(zj ds).map (z :: ·)
 |_=>none
def vvw(a:Int):List Int->List Int
 |[]=>[a]
 |b::r=>if b<a then b::vvw a r else a::b::r
def isSq:D->Bool
 |.lst _=>true
 |.tup _=>true
 |_=>false
noncomputable def qk:Sd->Sd->Option Sd:=λx y=>match x.2,y.2 with
 |.tup a,.int k=>if -(2 ^ 63)<=k/\k<2 ^ 63/\a.length*k.toNat<=big/\v7 x then some (.no,.tup (List.replicate k.toNat a).flatten)else none
 |_,_=>Q5 x y
def sRz(c:Str):Sm:=λE=>some (.xc E c)
noncomputable def QJ(f:Fn)(cs:List Ex):Ex:=λE=>match qz cs E with
 |some (.ok E xs)=>(match f (letAll xs)with
  |some (.ok _ y)=>some (.ok E y)
  |some (.exc _ c)=>some (.exc E c)
  |none=>none)
 |_=>none
noncomputable def qq3(i:Nat):Option Fl->Option Fl
 |some (.nx E)=>some (.nx (E.set i none))
 |some (.rt E x)=>some (.rt (E.set i none) x)
 |some (.ct E)=>some (.ct (E.set i none))
 |some (.bk E)=>some (.bk (E.set i none))
 |_=>none
noncomputable def z6(cs:List Str)(i:Nat)(b h:Sm):Sm:=λE=>match b E with
 |some (.xc E c)=>if c∈cs then qq3 i (h (E.set i (some (.no,.obj c []))))else none
 |r=>r
def vZ(t:List (Str×Bool)):D->Option D
 |.obj c _=>(t.lookup c).map .bl
 |_=>none
noncomputable def Kz(f g:D->D->Option D)(a b c:Ex):Ex:=λE=>bnd (a E) λE x=>bnd (b E) λE y=>match f x.2 y.2 with
 |some (.bl true)=>bnd (c E) λE z=>val E ((g y.2 z.2).map λd=>(.dp,d))
 |some (.bl false)=>some (.ok E (.dp,.bl false))
 |_=>none
end Q
namespace Q
open PySem
def valI(kv:List (Int×Int))(k:Int):Option Int:=(kv.find? λp=>decide (p.1=k)).map (·.2)
noncomputable def putI(kv:List (Int×Int))(k v:Int):List (Int×Int):=if(kv.any λp=>decide (p.1=k))=true then kv.map (λp=>if p.1=k then(p.1,v)else p)else kv++[(k,v)]
noncomputable def Jv(z:Str):D->Option D:=λd=>match d with
 |.lst ds=>(match zj ds with
  |some ys=>if(ys.map (·.length)).sum+ys.length*z.length<=100000 then some (.str (Txt.join z ys))else none
  |none=>none)
 |_=>none
def K4(z:Str)(c:Ex):Ex:=λE=>bnd (c E) λE x=>val E ((Jv z x.2).map λd=>(.dp,d))
end Q
namespace Q
open PySem
def Zv:D->Bool
 |.str _=>true
 |_=>false
noncomputable def VX:D->D->Option D:=λx y=>match x,y with
 |.str a,.str b=>(match Builtin.Str.occurrences a b 0 a.length 1 with
  |i::_=>some (.int i)
  |[]=>none)
 |_,_=>none
noncomputable def Yx(a b:Ex):Ex:=λE=>bnd (a E) λE x=>if Zv x.2=true then bnd (b E) λE y=>val E ((VX x.2 y.2).map λd=>(.dp,d))else none
end Q
namespace Q
open PySem
noncomputable def D.at:List Nat->D->Option D
 |[],d=>some d
 |n::p,.tup ds=>match ds[n]? with
  |some d=>D.at p d
  |none=>none
 |n::p,.lst ds=>match ds[n]? with
  |some d=>D.at p d
  |none=>none
 |_::_,_=>none
noncomputable def D.put(d':D):List Nat->D->D
 |[],_=>d'
 |n::p,.tup ds=>match ds[n]? with
  |some d=>.tup (ds.set n (D.put d' p d))
  |none=>.tup ds
 |n::p,.lst ds=>match ds[n]? with
  |some d=>.lst (ds.set n (D.put d' p d))
  |none=>.lst ds
 |_::_,d=>d
end Q
namespace Q
open PySem PySem.Spec PyProof.Rows L2 L3
section
variable {X:Cx}{Z:Fx0}{K:PySem.W.Frag}{pn:List Nat}{q qa qb:Bool}{a b c:Ex}{u:Ts}{tg e ea eb:Expr}{st:Stmt}{σ:L2.St}{H:Hp}{L:Ls}{E:En}{pos p p2:Pos}{x:Str}
theorem kwe{us:List Value}{ns:List Int}(h:IntsAre us ns):Vals (ns.map V.int) us:=by
 induction h with
 |nil=>exact .nil
 |cons y t _ ih=>exact .cons ⟨t,rfl⟩ ih
theorem kqk{g:Bool}:∀{ds:List D} {bs:List Str} {xs:List V} {as:List Addr},zj ds=some bs->RepA K H g ds xs as->xs=bs.map V.str/\∀z∈bs,z.length<=sizeLine
 | [],bs,xs,as,h,r=>by
  cases oq9 h;unfold RepA at r;exact⟨r.1,λ_ z=>nomatch z⟩
 | d::ds,bs,xs,as,h,r=>by
  cases d with
  | str b=>
   unfold zj at h;cases hb:zj ds with
   |none=>rw[hb]at h;cases h
   |some gj=>
    rw[hb]at h;cases oq9 h;unfold RepA at r;obtain⟨x,rr,c1,c2,rfl,rfl,h1,h2⟩:=r;unfold RepL at h1;obtain⟨i1,i2⟩:=kqk hb h2;exact⟨by rw[h1.1,i1];rfl,λz hz=>(List.mem_cons.mp hz).elim (λe=>e▸h1.2.2) (i2 z)⟩
  |_=>unfold zj at h;cases h
theorem jzr{g:Bool}:∀{bs:List Str},(∀z∈bs,z.length<=sizeLine)->RepA K H g (bs.map D.str) (bs.map V.str) []
 |[],_=>by unfold RepA;exact⟨rfl,rfl⟩
 |b::bs,h=>by
  rw[List.map_cons,List.map_cons];unfold RepA;exact⟨_,_,[],[],rfl,rfl,x4 (h b X3),jzr λz hz=>h z (lc9 _ hz)⟩
def tPo(Z:Fx0):Option Ex->TO
 |none=>kwg
 |some c=>qxu (tV Z true c)
theorem wj:PO X none (tPo Z none):=qw2
theorem v8(h:QV X Z true c e):PO X (some e) (tPo Z (some c)):=qw1 h
theorem kx6{α:Type}{co:Option Ex}{F:En->Option Int->Option (Res α)}{r:Res α}{G:Option Int->Hp->Prop}(m:Mt E σ L)(w:World Z.K H L)(h:bnd (Kv co E) F=some r)(xc:Xc Z σ H L r)
  (k:∀E1 l,F E1 l=some r->∀L1 H1,Mt E1 σ L1->World Z.K H1 L1->Step H L H1 L1->jZ H H1->G l H1):tPo Z co σ H G:=by
 cases co with
 | none=>exact k E none h L H m w Step.refl wY
 | some c=>
  have h:bnd (bnd (c E) λE x=>match x.2 with|.int i=>some (.ok E (some i))|_=>none) F=some r:=h;have h':bnd (c E) (λE x=>bnd (match x.2 with|.int i=>some (.ok E (some i))|_=>none) F)=some r:=by
   cases hc:c E with
   |none=>rw[hc]at h;exact h
   |some y=>rw[hc]at h;cases y<;>exact h
  show tV Z true c σ H λx H1=>∃i,x=.int i/\G (some i) H1
  refine qW m w h' xc λE1 s h1 x L1 H1 e1 e2 m1 w1 ok fr sr st sm=>?_
  cases hs:s.2 with
  |int i=>
   rw[hs]at h1;exact⟨i,qv ok (e2.trans hs),k E1 (some i) h1 L1 H1 m1 w1 st (sm rfl)⟩
  |_=>rw[hs]at h1;cases h1
theorem XY(n d:Nat)(v:Option Int):HT.sIx n d v=xv n d v:=by
 cases v<;>rfl
theorem RepA.drop{K:PySem.W.Frag}{H:Hp}{g:Bool}:∀(n:Nat) {ds:List D} {xs:List V} {as:List Addr},RepA K H g ds xs as->∃bs,RepA K H g (ds.drop n) (xs.drop n) bs/\∀b∈bs,b∈as
 |0,ds,xs,as,h=>⟨as,h,λ_ h=>h⟩
 |n+1,[],xs,as,h=>by
  unfold RepA at h;obtain⟨rfl,rfl⟩:=h;exact⟨[],by simp only[List.drop_nil];unfold RepA;exact⟨rfl,rfl⟩,λ_ h=>h⟩
 |n+1,d::ds,xs,as,h=>by
  unfold RepA at h;obtain⟨x,r,bs,cs,rfl,rfl,h1,h2⟩:=h;obtain⟨es,r2,hb⟩:=RepA.drop n h2;exact⟨es,r2,λb h=>lr9 _ (hb b h)⟩
theorem RepA.take{K:PySem.W.Frag}{H:Hp}{g:Bool}:∀(n:Nat) {ds:List D} {xs:List V} {as:List Addr},RepA K H g ds xs as->∃bs,RepA K H g (ds.take n) (xs.take n) bs/\∀b∈bs,b∈as
 |0,ds,xs,as,h=>⟨[],by simp only[List.take_zero];unfold RepA;exact⟨rfl,rfl⟩,λ_ h=>nomatch h⟩
 |n+1,[],xs,as,h=>by
  unfold RepA at h;obtain⟨rfl,rfl⟩:=h;exact⟨[],by simp only[List.take_nil];unfold RepA;exact⟨rfl,rfl⟩,λ_ h=>h⟩
 |n+1,d::ds,xs,as,h=>by
  unfold RepA at h;obtain⟨x,r,bs,cs,rfl,rfl,h1,h2⟩:=h;obtain⟨es,r2,hb⟩:=RepA.take n h2;refine⟨bs++es,?_,λb h=>(List.mem_append.mp h).elim (λz=>ll9 _ z) λz=>lr9 _ (hb b z)⟩;rw[List.take_succ_cons,List.take_succ_cons];unfold RepA;exact⟨x,r.take n,bs,es,rfl,rfl,h1,r2⟩
theorem RepA.cut{K:PySem.W.Frag}{H:Hp}{g:Bool}{ds:List D}{xs:List V}{as:List Addr}(h:RepA K H g ds xs as)(lo hi:Option Int):∃bs,RepA K H g (J5 ds lo hi) (K2 xs lo hi) bs/\∀b∈bs,b∈as:=by
 have hl:=h.len;unfold J5 K2;rw[XY,XY,<-hl];obtain⟨bs,r,hb⟩:=h.drop (xv ds.length 0 lo);obtain⟨cs,r2,hc⟩:=r.take (xv ds.length ds.length hi - xv ds.length 0 lo);exact⟨cs,r2,λb h=>hb b (hc b h)⟩
theorem qve{x:Sl}{s:Sd}{lo hi:Option Int}{Q:VK}(ok:x.ok K H)(hf:fSl (x.o,x.d) lo hi=some s)(k:∀(z:Sl) H',z.o=s.1->z.d=s.2->Out K H H' z x.frz->Q z.v H'):qq9 K x.v lo hi H Q:=by
 unfold fSl at hf;dsimp only at hf;cases hx:x.d with
 | lst ds=>
  rw[hx]at hf;dsimp only at hf
  split at hf
  ·rename_i hl;cases oq9 hf;obtain⟨l,xs,bs,ev,q3,r3,h3⟩:=Jj ok (.inl hx) (by rw[hx];exact hl);have q3:LsR K H l xs:=by rcases q3 with⟨_,z⟩|⟨z,_⟩;exact z;rw[hx]at z;cases z
   obtain⟨cs,r4,h4⟩:=r3.cut lo hi;exact .inl ⟨l,xs,ev,Kx q3,λp hp=>k ⟨.rt,.lst _,.ref p,p::cs⟩ _ rfl rfl (QY hp r4 λb hb=>h3 b (h4 b hb))⟩
  ·cases hf
 | tup ds=>
  rw[hx]at hf;dsimp only at hf
  split at hf
  ·rename_i hl;cases oq9 hf;obtain⟨l,xs,bs,ev,q3,r3,h3⟩:=Jj ok (.inr hx) (by rw[hx];exact hl.1);have q3:SqT K H l xs:=by rcases q3 with⟨z,_⟩|⟨_,z⟩;rw[hx]at z;cases z;exact z
   obtain⟨cs,r4,h4⟩:=r3.cut lo hi;refine .inr (.inl ⟨l,xs,ev,q3,?_,λp hp=>k ⟨.no,.tup _,.ref p,cs⟩ _ rfl rfl (XW hp r4 λb hb=>h3 b (h4 b hb))⟩);rw[XY,XY,<-r3.len];exact hl.2
  ·cases hf
 | str z=>
  rw[hx]at hf;dsimp only at hf
  split at hf
  ·rename_i hl;cases oq9 hf;obtain⟨e,hz⟩:=qK ok hx;exact .inr (.inr ⟨z,e,hz,k ⟨.dp,.str _,.str _,[]⟩ H rfl rfl (XQ hl)⟩)
  ·cases hf
 |_=>rw[hx]at hf;cases hf
theorem vz{lo hi:Option Ex}{elo ehi:Option Expr}(ha:QV X Z q a ea)(hl:PO X elo (tPo Z lo))(hh:PO X ehi (tPo Z hi))(hK:autoParam (X.K=Z.K) Ŕ):QE X Z q (cSl a lo hi) (.Subscript ea (.Slice elo ehi none p2) pos):=
 qj (qjz (vqz Z.K hK) ha hl hh) fun σ H Q b5=>ex8 b5 λE L r m w hc xc k=>by
  refine qW m w (show bnd (a E) _=some r from hc) xc λE1 s h1 x L1 H1 e1 e2 m1 w1 ok fr sr st sm=>?_
  refine kx6 m1 w1 h1 (xc.step st) λE2 l h2 L2 H2 m2 w2 cj dw=>?_
  refine kx6 m2 w2 h2 (xc.step (st.trans cj)) λE3 u h3 L3 H3 m3 w3 cm iz=>?_
  obtain⟨z,hz,rfl⟩:=wJ h3;have k1:=QX ok fr cj dw;have k2:=QX k1.1 k1.2 cm iz;refine qve k2.1 (by rw[e1,e2];exact hz) λy H' ho hd o=>?_
  obtain⟨w4,fm⟩:=xz w3 ((st.trans cj).trans cm) o k2.2 (λb hb=>k2.1.some (Sl.frz_as hb)) (Kw sr λb hb=>Sl.frz_as hb);have ez:q=true->jZ H H3:=λhq=>kQ (sm hq) (kQ dw iz)
  exact k _ _ rfl y L3 H' ho hd m3 w4 fm λhq=>⟨kQ (ez hq) o.same,λb hb=>x5 (ez hq) (o.new b hb)⟩
end
theorem vv4{prog:Program}{w:PySem.World}{A:Around}{E:Value->Shared->Prop}{s:Shared}{l:Addr}{items:Array Value}{k:Int}{t:Tok}{Q:Value->Shared->Prop}
  (ht:IsTup s.heap l items) (h:Q .notImplemented s):wpAny (model prog w) A (call (.builtin "int.__rmul__") [.int k t,.ref l]) Q E s:=by
 refine wpAny_call_entry PySem.F.slot_int_rmul (typeIs_int s k t) PySem.F.entry_int_rmul ?_ (PySem.F.args_int_rmul_2 _ _);obtain⟨o,e,c,n,hd⟩:=ht;show wpAny _ _ (asInt? (.ref l) >>= _) _ _ s;unfold asInt?;refine X2 (X2 (wpAny_load e ?_));rw[hd];refine Xf ?_;dsimp only;refine X2 (wpAny_rule ?_);exact Xf ⟨_,rfl,h⟩
theorem mulT{prog:Program}{w:PySem.World}{A:Around}{E:Value->Shared->Prop}{s:Shared}{l:Addr}{items:Array Value}{k:Int}{t:Tok}{Q:Value->Shared->Prop}
  (ht:IsTup s.heap l items) (h1:-(2 ^ 63)<=k) (h2:k<2 ^ 63) (hz:items.size*k.toNat<=sizeLine)
  (j':(items.isEmpty=true\/k=1)->Q (.ref l) s)
  (hsz:(List.foldl (λx1 x2=>x1++x2) #[] (List.replicate k.toNat items)).size<=sizeLine)
  (gi:Q (.ref s.heap.objs.size) { s with heap:=s.heap.push { cls:=.type "tuple",data:=.seq (List.foldl (λx1 x2=>x1++x2) #[] (List.replicate k.toNat items)) } })
  : wpAny (model prog w) A (call (.builtin "tuple.__mul__") [.ref l,.int k t]) Q E s:=by
 refine wpAny_call_entry PySem.F.slot_tuple_mul ht.typeIs PySem.F.entry_tuple_mul ?_ (PySem.F.args_tuple_mul_2 _ _);show wpAny _ _ (if(decide (k < -2 ^ 63)||decide (k>=2 ^ 63))=true then _ else _) _ _ s;rw [Xg (by simp;omega)];show wpAny _ _ (Builtin.Tuple.tupleItemsOf (.ref l) >>= _) _ _ s;refine X2 (tupleItemsOf_ ht ?_)
 by_cases hs:(items.isEmpty||k==1)=true
 ·rw[X9 hs];unfold Builtin.Tuple.tupleIsExact;refine X2 (X2 (wpAny_typeOf ht.typeIs (Xf ?_)));rw[X9 (by decide)];refine X2 (wpAny_rule ?_);refine Xf ⟨_,rfl,j' ?_⟩
  simpa using hs
 ·rw[Xg hs];have db:items.isEmpty=false:=by
   cases h:items.isEmpty<;>simp_all
  have hm:((items.size:Int)*k)<=(sizeLine:Int)\/k<=0:=by
   by_cases hk:k<=0
   ·exact .inr hk
   ·refine .inl ?_;have e:((k.toNat:Nat):Int)=k:=Int.toNat_of_nonneg (by omega);have:((items.size*k.toNat:Nat):Int)<=(sizeLine:Int):=Int.ofNat_le.mpr hz;rw[Int.natCast_mul,e]at this;exact this
  dsimp only
  by_cases hk:k<=0
  ·rw[X9 (by simp[hk])];have e:k.toNat=0:=by omega
   rw[e]at gi;unfold Builtin.Tuple.tupleExact;exact X2 (Y0 (Xf ⟨_,rfl,gi⟩) (show(0:Nat)<=sizeLine from Nat.zero_le _))
  ·rw[Xg (by simp[hk,db])];have hm:=hm.resolve_right hk;have i7:(sizeLine:Int)=16777216:=by decide
   rw[Xg (by omega)];rw[Xg (by unfold Builtin.Tuple.tupleTooMany;simp;omega)];unfold Builtin.Tuple.tupleExact;exact X2 (Y0 (Xf ⟨_,rfl,gi⟩) hsz)
section
variable {X:Cx}{Z:Fx0}{K:PySem.W.Frag}{pn:List Nat}{q qa qb:Bool}{a b c:Ex}{u:Ts}{tg e ea eb:Expr}{st:Stmt}{σ:L2.St}{H:Hp}{L:Ls}{E:En}{pos p p2:Pos}{x:Str}
noncomputable def qze(K:PySem.W.Frag):R2:=λx y H Q=>∃l k xs,x=.ref l/\y=.int k/\SqT K H l xs/\-(2 ^ 63)<=k/\k<2 ^ 63/\xs.length*k.toNat<=sizeLine/\((xs=[]\/k=1)->Q (.ref l) H)/\∀p,H p=none->Q (.ref p) (upd H p (.tup (List.replicate k.toNat xs).flatten))
theorem op_repT:OpR X (binaryOp .Mult) (qze X.K):=by
 intro pins s σ H x y v u Q I rx ry h;obtain⟨l,k,xs,rfl,rfl,hq,h1,h2,hz,q1,q2⟩:=h;cases rx;obtain⟨t,rfl⟩:=ry;obtain⟨ai,r,ht,hl⟩:=I.tuple hq;have b6:=r.length;have f0:List.foldl (λx1 x2=>x1++x2) #[] (List.replicate k.toNat ai.toArray)=(List.replicate k.toNat ai).flatten.toArray:=by
  have:=jxm ai k.toNat [];rw[List.nil_append]at this;exact this
 have jo:(List.replicate k.toNat xs).flatten.length<=sizeLine:=by rw[kxr,Nat.mul_comm];exact hz
 refine wpAny_binaryOp_repeat_ref (T:="tuple") (U:="int") (by decide) ht.typeIs (λs'=>typeIs_int s' k t) rfl F.fills_int_mul F.slot_int_rmul (show seqRepeat? (Value.type "tuple")=pure (some (Value.builtin "tuple.__mul__"))from rfl) F.slot_int_index.lookup
  (vv4 ht ⟨rfl,ht.typeIs,mulT ht h1 h2 (by rw[X4,<-b6];exact hz) (λhs=>?_) ?_ ?_⟩)
 ·refine⟨.ref l,H,I,rfl,q1 ?_⟩;rcases hs with hs|hs
  ·left;have:ai=[]:=by simpa using hs
   subst this
   simpa using b6
  ·exact .inr hs
 ·rw[f0,X4,<-(r.rep k.toNat).length];exact jo
 ·rw[f0];exact⟨.ref _,_,I.laid (t':=s.toks) (o:=.tup _) (λb o e=>X6 _ e) (Xb _) ⟨jo,_,r.rep k.toNat,IsTupD.new _ _⟩,rfl,q2 _ (I.hok.fresh (Xb _))⟩
def qzh(K:PySem.W.Frag):R2:=λx y H Q=>qze K x y H Q\/qvk K x y H Q
theorem vjp(hK:autoParam (X.K=K) Ŕ):OpR X (binaryOp .Mult) (qzh K):=by subst hK;exact op_repT.or vjq
theorem qxh:Ad2 K (qzh K) qk:=by
 intro H x y s Q ox oy hf k;cases hx:x.d with
 | tup ds=>
  cases hy:y.d with
  | int n=>
   unfold qk at hf;rw [show(x.o,x.d).2=x.d from rfl,show(y.o,y.d).2=y.d from rfl,hx,hy]at hf;dsimp only at hf
   split at hf
   ·rename_i hc;cases oq9 hf;obtain⟨l,xs,bs,e3,q3,r3,h3⟩:=Jj ox (.inr hx) (by rw[hx];exact hc.2.2.2);have q3:SqT K H l xs:=by rcases q3 with⟨z,_⟩|⟨_,z⟩;rw[hx]at z;cases z;exact z
    obtain⟨cs,r4,h4⟩:=r3.reps n.toNat;refine .inl ⟨l,n,xs,e3,qv oy hy,q3,hc.1,hc.2.1,by rw[<-r3.len];exact hc.2.2.1,λhs=>?_,λp hp=>?_⟩
    ·refine k ⟨.no,.tup _,.ref l,cs⟩ H rfl rfl ⟨wY,?_,λb hb=>(nomatch hb),Y1,λb hb=>ll9 _ (h3 b (h4 b hb))⟩;show RepL K H true (.tup _) (.ref l) cs;unfold RepL;refine⟨l,xs,rfl,q3,?_⟩;have e:(List.replicate n.toNat xs).flatten=xs:=by
      rcases hs with hs|hs
      ·subst hs;simp
      ·subst hs;simp
     rw[e]at r4;exact r4
    ·exact k ⟨.no,.tup _,.ref p,cs⟩ _ rfl rfl (XW hp r4 λb hb=>ll9 _ (h3 b (h4 b hb)))
   ·cases hf
  |_=>
   refine .inr (qv2 H x y s Q ox oy ?_ k);unfold qk at hf;rw[show(x.o,x.d).2=x.d from rfl,show(y.o,y.d).2=y.d from rfl,hx,hy]at hf;rw[hx,hy];exact hf
 |_=>
  refine .inr (qv2 H x y s Q ox oy ?_ k);unfold qk at hf;rw[show(x.o,x.d).2=x.d from rfl,hx]at hf;rw[hx];exact hf
end
section
variable {X:Cx}{Z:Fx0}{K:PySem.W.Frag}{pn:List Nat}{q qa qb:Bool}{a b c:Ex}{u:Ts}{tg e ea eb:Expr}{st:Stmt}{σ:L2.St}{H:Hp}{L:Ls}{E:En}{pos p p2 gc:Pos}{x:Str}{dh:List Expr}{k1:Nat}
theorem kqg:∀(xs ys:List D) (i:Nat),(qY xs ys)[i]?=(xs[i]?).bind λa=>(ys[i]?).map λb=>.tup [a,b]
 |[],_,_=>by simp[qY]
 |_::_,[],i=>by cases i<;>simp[qY]
 |a::x,b::y,0=>by simp[qY]
 |a::x,b::y,i+1=>by rw[qY,List.getElem?_cons_succ,List.getElem?_cons_succ,List.getElem?_cons_succ,kqg x y i]
theorem Z5:∀(xs ys:List D),(qY xs ys).length=min xs.length ys.length
 |[],_=>by simp[qY]
 |_::_,[]=>by simp[qY]
 |a::x,b::y=>by rw[qY,Xj,Xj,Xj,Z5 x y];omega
theorem kjy{x:Sl}{es:List D}{l:Addr}{H1:Hp}(hx:x.d=.lst es)(ev:x.v=.ref l):∀H2:Hp,x.let.ok K H2->∃ys cs,SqL K H2 l ys/\RepA K H2 true es ys cs/\∀b∈cs,b∈x.as:=λH2 hok=>by
 obtain⟨a',ys,cs,jl,q4,r4,h4,_⟩:=items hok (.inl hx);have:a'=l:=by have:=jl.symm.trans ev;exact V.ref.inj this
 subst this;rcases q4 with⟨_,z⟩|⟨z,_⟩
 ·exact⟨ys,cs,z.sq,r4,h4⟩
 ·rw[show x.let.d=D.lst es from hx]at z;cases z
theorem qjm{H2:Hp}{T:Addr}{d1 d2:D}{v1 v2:V}{b1 b2:List Addr}(hT:H2 T=none)(r1:RepL K H2 true d1 v1 b1)(r2:RepL K H2 true d2 v2 b2):RepL K (upd H2 T (.tup [v1,v2])) true (.tup [d1,d2]) (.ref T) (b1++b2):=by
 have sm:jZ H2 (upd H2 T (.tup [v1,v2])):=v5 hT;unfold RepL;refine⟨T,[v1,v2],rfl,.inl (.inl wq),?_⟩;unfold RepA;refine⟨v1,[v2],b1,b2,rfl,rfl,r1.kp (Kp.of_same sm),?_⟩;unfold RepA;refine⟨v2,[],b2,[],rfl,by simp,r2.kp (Kp.of_same sm),?_⟩;unfold RepA;exact⟨rfl,rfl⟩
theorem qvq{b:Ex}(ha:QE X Z q a ea)(hb:QE X Z q b eb)(hg:Gl X "zip")(hm:X.mg "zip"=none)(hK:autoParam (X.K=Z.K) Ŕ)
  (hs:autoParam (starEach [ea,eb] X.env=[(false,eval ea X.env),(false,eval eb X.env)]) Ŕ) (kf:autoParam (starEach [eb] X.env=[(false,eval eb X.env)]) Ŕ)
  (hs3:autoParam (starEach [ea,eb] X.env=(false,eval ea X.env)::starEach [eb] X.env) Ŕ):QI X Z q (.Tuple dh k1 gc) (qkd a b) (.Call (.Name "zip" p) [ea,eb] [] pos):=λpins s σ H R I b5=>ex8 b5 λE L r m w hc xc k=>by
 refine(vjb Z.K hg hm (kZ ha (kZ hb vx kf) hs3) hK hs kf) pins s σ H R I ?_;refine V8 m w (show bnd (a E) _=some r from hc) xc λE1 s h1 x L1 H1 e1 e2 m1 w1 st sm=>?_
 have s1:Step H L H1 L1:=st.trans Step.drop;refine V8 (q:=q) m1 w1.tail h1 (xc.step s1) λE2 s2 h2 y L2 H2 e3 e4 m2 w2 cj dw=>?_
 have hh:=vxc (T:=[some x]) w1 cj w2;have w3:World Z.K H2 (some x::some y::L2):=hh.1;have cm:Step H1 (some x::L1) H2 (some x::some y::L2):=hh.2;obtain⟨ds,hd,rfl⟩:=wJ h2;have jr:=w3.head;have oky:=w3.tail.head;have wT:World Z.K H2 (L2++[x.let,y.let].map some):=by
  have wy:World Z.K H2 (some y.let::L2):=w3.tail.tail.consNo (K1 oky) rfl λb hb=>w3.tail.apart b hb
  have wx:World Z.K H2 (some x.let::some y.let::L2):=wy.consNo (K1 jr) rfl λb hb ho=>w3.apart b hb (by
   rw [k7]at ho ⊢;exact lr9 _ ((List.mem_append.mp ho).elim (λz=>by rw[(J4 y).1]at z;exact nomatch z) id))
  exact World.comm (L:=[some x.let,some y.let]) wx
 have dm:Step H L H2 (some x::some y::L2):=st.trans cm;have sT:Step H L H2 (L2++[x.let,y.let].map some):=by
  refine⟨dm.keep,λb hb=>?_,λb hb=>?_⟩
  ·have:b∈jk L2:=by simpa [J4]using hb
   exact dm.own b (by rw[k7,k7];exact lr9 _ (lr9 _ this))
  ·have:b∈jX L2\/b∈x.as\/b∈y.as:=by simpa [J4]using hb
   rcases this with z|z|z
   ·exact dm.frz b (by rw[qq,qq];exact lr9 _ (lr9 _ z))
   ·exact jx0 dm b z
   ·rcases Sl.as_of z with z|z
    ·exact .inr (dm.own b (by rw[k7,k7];exact lr9 _ (ll9 _ z)))
    ·exact dm.frz b (by rw[qq,qq];exact lr9 _ (ll9 _ z))
 cases hx:x.d with
 | lst es=>
  cases hy:y.d with
  | lst fs=>
   rw [<-e2,<-e4,hx,hy]at hd;have hd:(if es.length<=big then some (qY es fs)else none)=some ds:=hd
   split at hd
   rotate_left
   ·cases hd
   rename_i b6;have b6:es.length<=sizeLine:=b6;cases oq9 hd;obtain⟨l1,xs,bs,ev,q3,r3,h3,_⟩:=items jr (.inl hx);have q3:LsR Z.K H2 l1 xs:=by rcases q3 with⟨_,z⟩|⟨z,_⟩;exact z;rw[hx]at z;cases z
   obtain⟨l2,ys,cs,ev2,q4,r4,h4,_⟩:=items oky (.inl hy);have q4:LsR Z.K H2 l2 ys:=by rcases q4 with⟨_,z⟩|⟨z,_⟩;exact z;rw[hy]at z;cases z
   have ag1:=kjy (K:=Z.K) (H1:=H1) hx ev;have ag2:=kjy (K:=Z.K) (H1:=H1) hy ev2;refine⟨l1,l2,by rw[ev,ev2],⟨xs,q3.sq⟩,⟨ys,q4.sq⟩,k _ _ rfl (Itz Z.K l1 l2) [x.let,y.let] L2 H2 m2 wT sT (by rw[Z5];omega) (λhq=>kQ (sm hq).1 (dw hq).1) ⟨λt ht=>?_,λi H3 hok hi=>?_,λH3 hok=>?_,λi H3 v H4 d hok hyl fc=>?_⟩⟩
   ·simp only[Xu,Xn,or_false]at ht;rcases ht with rfl|rfl<;>rfl
   ·obtain⟨us,cs1,a1,a2,_⟩:=ag1 H3 (hok _ (by simp));obtain⟨vs,cs2,b1,b2,_⟩:=ag2 H3 (hok _ (by simp));have hl:=a2.len;have hl2:=b2.len;rw[Z5]at hi;exact⟨us,vs,us[i]'(by omega),vs[i]'(by omega),a1,b1,X8 (by omega),X8 (by omega)⟩
   ·obtain⟨us,cs1,a1,a2,_⟩:=ag1 H3 (hok _ (by simp));obtain⟨vs,cs2,b1,b2,_⟩:=ag2 H3 (hok _ (by simp));have hl:=a2.len;have hl2:=b2.len;exact⟨us,vs,a1,b1,by rw[Z5];omega⟩
   ·obtain⟨us,cs1,a1,a2,a3⟩:=ag1 H3 (hok _ (by simp));obtain⟨vs,cs2,b1,b2,b3⟩:=ag2 H3 (hok _ (by simp));obtain⟨T,x',y',hT,rfl,rfl,g1,g2⟩:=hyl;rw[kqg]at fc;cases he1:es[i]? with
    | none=>rw[he1]at fc;cases fc
    | some d1=>
     cases gp:fs[i]? with
     |none=>rw[he1,gp]at fc;cases fc
     |some d2=>
      rw[he1,gp]at fc;cases oq9 fc;obtain⟨v1,bs1,f1,f2,f3⟩:=a2.get he1;obtain⟨v2,bs2,j1,j2,j3⟩:=b2.get gp;have e5:v1=x':=by have:=g1 us a1;rw[f1]at this;exact oq9 this
      have e6:v2=y':=by have:=g2 vs b1;rw[j1]at this;exact oq9 this
      subst e5 e6;refine⟨⟨.no,_,.ref T,bs1++bs2⟩,rfl,rfl,rfl,v5 hT,qjm hT f2 j2,λb hb=>?_⟩;rcases List.mem_append.mp hb with z|z
      ·exact⟨x.let,by simp,a3 b (f3 b z)⟩
      ·exact⟨y.let,by simp,b3 b (j3 b z)⟩
  |_=>rw[<-e2,<-e4,hx,hy]at hd;cases hd
 |_=>rw[<-e2,hx]at hd;cases hd
end
section
variable {X:Cx}{Z:Fx0}{q:Bool}{a b c:Ex}{ea eb ec:Expr}{σ:L2.St}{H:Hp}{pos:Pos}
theorem kw8{r r':R2}{f g:D->D->Option D}(ad:Ad2 Z.K r (pu2 f))(ad':Ad2 Z.K r' (pu2 g)){Q:VK}(h:tQ Z q (Kz f g a b c) σ H Q):qq5 r r' (tV Z q a) (tV Z true b) (tV Z true c) σ H Q:=by
 obtain⟨E,L,R,m,w,hc,xc,k⟩:=h;refine qW m w hc xc λE1 s h1 x L1 H1 e1 e2 m1 w1 ok fr sr st sm=>?_
 refine qW m1 w1 h1 (xc.step st) λE2 s2 h2 y L2 H2 e3 e4 m2 w2 gw kt ku cj dw=>?_
 have kx:=QX ok fr cj (dw rfl);cases hf:f s.2 s2.2 with
 | none=>rw[hf]at h2;cases h2
 | some d=>
  rw [hf]at h2;cases d with
  | bl kb=>
   refine ad H2 x y (.dp,.bl kb) _ kx.1 gw (by show(f x.d y.d).map _=_;rw[e2,e4,hf];rfl) λz H' zo zd o=>?_
   refine⟨kb,zZ o.ok zd,?_⟩;have w3:World Z.K H' L2:=⟨λt ht=>RepO.kp (w2.ok t ht) (Kp.of_same o.same),w2.nd,w2.ds⟩;have cm:Step H L H' L2:=(st.trans cj).trans ⟨λb ob h _=>o.same b ob h,λ_ h=>.inl h,λ_ h=>.inl h⟩;have iz:q=true->jZ H H':=λhq=>kQ (sm hq) (kQ (dw rfl) o.same)
   cases kb with
   | false=>
    cases oq9 h2;rw[Xg (by decide)];exact k _ _ rfl ⟨.dp,.bl false,.bl false,[]⟩ L2 H' rfl rfl m2 (w3.consPu (x:=⟨.dp,.bl false,.bl false,[]⟩) (show RepL Z.K H' false (.bl false) (.bl false) []from wK) rfl) (JY (x:=⟨.dp,.bl false,.bl false,[]⟩) cm (λb hb=>nomatch hb) rfl) λhq=>⟨iz hq,λ_ z=>(nomatch z)⟩
   | true=>
    rw[X9 rfl];refine qW m2 w3 h2 (xc.step cm) λE3 s3 h3 v L3 H3 e5 e6 m3 w4 ok3 ig sr3 fm iy=>?_
    obtain⟨zz,hz,rfl⟩:=wJ h3;have ky:=QX (x:=y) (RepO.kp gw (Kp.of_same o.same)) kt fm (iy rfl);refine ad' H3 y v zz Q ky.1 ok3 (by show(g y.d v.d).map _=_;rw[e4,e6];exact hz) λt H5 to td ot=>?_
    obtain⟨w5,gu⟩:=xz w4 (cm.trans fm) ot (λb hb=>(List.mem_append.mp hb).elim (ky.2 b) (ig b)) (λb hb=>(List.mem_append.mp hb).elim (λz=>ky.1.some (Sl.frz_as z)) λz=>ok3.some (Sl.frz_as z))
     (kwj (Kw (ku.back st) λb hb=>Sl.frz_as hb) (Kw (sr3.back cm) λb hb=>Sl.frz_as hb))
    exact k _ _ rfl t L3 H5 to td m3 w5 gu λhq=>⟨kQ (iz hq) (kQ (iy rfl) ot.same),λb hb=>x5 (kQ (iz hq) (iy rfl)) (ot.new b hb)⟩
  |_=>cases h2
theorem qjo {op iv:CmpOp} {r r':R2} {f g:D->D->Option D} (ho:OpR X (compareOp op) r) (ad:Ad2 Z.K r (pu2 f)) (fb:OpR X (compareOp iv) r') (ad':Ad2 Z.K r' (pu2 g)) (ha:QV X Z q a ea) (hb:QV X Z true b eb) (hc:QV X Z true c ec) (hg:∀x y s,pu2 g x y=some s->∃k,s.2=.bl k)
  (hm:lastMarks [op,iv] [eb,ec]=false:=by with_unfolding_all rfl):QT X Z q (_root_.Q.tE (Kz f g a b c)) (.Compare ea [op,iv] [eb,ec] pos):=
 kqt (qjs ho fb ha hb hc hm) fun σ H Q b5=>ex8 b5 λE L r m w fe xc k=>by
  refine kw8 ad ad' ?_;have i9:bnd (Kz f g a b c E) (λE x=>val E (truth x.2))=some r:=fe;rcases vk i9 with⟨E1,s,h1,h2⟩|⟨E1,cx,h1,h2⟩
  ·refine⟨E,L,_,m,w,h1,(λ_ _ z=>by cases z),λE' s' z x L' H' e1 e2 m' w' st sm=>?_⟩;injection z with z1 z2;subst z1 z2;obtain⟨kk,hk⟩:∃k,s.2=.bl k:=by
    unfold Kz at h1;rcases vk h1 with⟨E2,s2,h3,h4⟩|⟨_,_,_,z⟩
    ·rcases vk h4 with⟨E3,s3,h5,h6⟩|⟨_,_,_,z⟩
     ·split at h6
      ·rcases vk h6 with⟨E4,s4,h7,h8⟩|⟨_,_,_,z⟩
       ·obtain⟨y,hy,z⟩:=wJ h8;cases z;exact hg s3 s4 _ hy
       ·cases z
      ·cases oq9 h6;exact⟨false,rfl⟩
      ·cases h6
     ·cases z
    ·cases z
   rw[hk]at h2;cases oq9 h2;exact⟨kk,zZ w'.head (e2.trans hk),k _ _ rfl L' H' m' w'.tail (st.trans Step.drop) λhq=>(sm hq).1⟩
  ·exact⟨E,L,_,m,w,h1,xc.map h2,λE' s' z=>by cases z⟩
end
end Q
namespace L3
open PySem PySem.Spec PyProof.Rows L2
def tX(X:Cx)(x:Addr):Cx:={ X with A:=X.A.mark (some (.ref x)),calm:=false,xe:=λ_ _=>False }
abbrev exO(o:Obj):HO:=.frz o (.ext λ_=>True)
section
variable {X:Cx}{pins:List (Addr×Obj)}{σ:L2.St}{H:Hp}{s:Shared}{x:Addr}{ox:Obj}
theorem qqn(I:Inv X pins σ H s):Inv (tX X x) pins σ H s:=
 ⟨⟨I.ok.mod,I.ok.kind,I.ok.glob,I.ok.blt,I.ok.above,I.ok.inj,I.ok.has,I.ok.cab,λz=>(by cases z),I.ok.frames,I.ok.stk,I.ok.exf,I.ok.bs,I.ok.bsz,I.ok.noex,I.ok.exfs,I.ok.funs,I.ok.frf⟩,I.os,I.bare,I.base,I.loc,I.cell,I.free,I.freeC,I.pin,I.hok,I.len⟩
theorem qwy(ok:X.Ok)(I:Inv (tX X x) pins σ H s):Inv X pins σ H s:=⟨ok,I.os,I.bare,I.base,I.loc,I.cell,I.free,I.freeC,I.pin,I.hok,I.len⟩
theorem qwz(I:Inv X pins σ H s)(e:s.heap.get? x=some ox)(f:FpX X pins H x):Inv X pins σ (upd H x (exO ox)) s:=by
 obtain⟨hn,f1,f2,f3,f4,f5⟩:=f;refine⟨I.ok,I.os,I.bare,⟨I.base.keep,I.base.slot,λb o q n hx=>?_,I.base.there,λb xs q=>?_,λb o u q=>?_,λb ps q=>?_⟩,I.loc,I.cell,?_,λy c q=>?_,λp hp=>?_,λb u q=>?_,I.len⟩
 ·have hb:b≠x:=by
   rintro rfl;rcases f3 with z|z
   ·exact hx z
   ·rw[z]at q;cases q
  rw[kj hb];exact I.base.free b o q n hx
 ·have:=I.base.tups b xs q;rw[kj (vJ this hn)];exact this
 ·have:=I.base.frzs b o u q;rw[kj (vJ this hn)];exact this
 ·obtain⟨et,this⟩:=I.base.tbls b ps q;exact⟨et,by rw[kj (vJ this hn)];exact this⟩
 ·rw[kj (Ne.symm f1)];exact I.free
 ·rw[kj (f4 y c q)];exact I.freeC y c q
 ·obtain⟨a1,a2,a3⟩:=I.pin p hp;exact⟨a1,by rw[kj (f5 p hp)];exact a2,a3⟩
 ·by_cases hb:b=x
  ·subst hb;rw[wq]at q;cases q;exact⟨e,trivial,⟨_,e⟩,λ_ _ _ _=>trivial⟩
  ·rw[kj hb]at q;exact(I.hok b u q).stay (λc v _ q=>q) (λc q=>by rw[kj (vJ q hn)];exact q) λc xs q=>by rw[kj (vJ q hn)];exact q
end
abbrev qxq(K:PySem.W.Frag)(UC:Addr)(i:Nat)(tb:XK->TS)(ts:TS):TS:=λD σ H=>∃E:XK,tb E D σ H/\∀x Cv H',E Cv none H'->H' x=none->∃C,Cv=.ref C/\PySem.W.exmOne K (.ref C) (.ref UC)=some true/\XCls K C /\
 ∀o,ExAt K x o C->ts { nx:=fun σ' H''=>D.nx (σ'.set i none) H'',rt:=D.rt,bk:=fun σ' H''=>D.bk (σ'.set i none) H'',ct:=fun σ' H''=>D.ct (σ'.set i none) H'' } (σ.set i (some (.ref x))) (upd H' x (exO o))
theorem qvz{X:Cx}{ux n:Str}{np fv pos:Pos}{UC:Addr}{i:Nat}{st b0:Stmt}{eg:List Stmt}{tb:XK->TS}{ts:TS}(hN:X.N.Nodup)(hi:X.N[i]?=some n)(hk:X.env.scope.names.lookup n=some .local)(top:wQ X)(hU:X.mg ux=some (.ref UC))(hb:PSX X st tb)
  (hs:∀x,PSs (tX X x) (b0::eg) ts) (hg:autoParam (Gl X ux) Ŕ) (cy:autoParam ((ux==("__debug__":Str))=false) ŕ):
  PS X (.Try [st] [.ExceptHandler (some (.Name ux np)) (some n) (b0::eg) fv] [] [] pos) (qxq X.K UC i tb ts):=by
 intro pins s σ H D I ⟨E,h1,h2⟩;refine wpAny_Try_except (wpAny_execs_cons (wpAny_mono (hb E pins s σ H D I h1) (λf s1 q=>?_) (λe s1 q=>?_)))
 ·cases f with
  |next=>exact wpAny_execs_nil (wpAny_execs_nil q)
  |ret v=>exact q
  |brk=>exact q
  |cont=>exact q
 ·obtain⟨H',x,Cv,rfl,I1,f1,q1⟩:=q;refine Zz top rfl I1 f1 λL T s2 _ t2=>WK t2 λs3 t3=>?_
  obtain⟨C,rfl,hm,xc,ht⟩:=h2 x Cv H' q1 t3.fx.1;refine wpAny_handleBy_cons (codeAny_handlers_test ?_) (λz=>nomatch z);obtain⟨vs,ho,hv⟩:=t3.f.ex;have I3:Inv (tX X x) pins σ H' s3:=qqn t3.inv;refine V5 I3 hg hU ?_ cy;have at3:PySem.W.InstAt s3.heap x { cls:=.ref C,data:=.fields vs } C none:=⟨ho,rfl,rfl,trivial⟩;refine Lk (PySem.W.exm_one t3.inv.kIn at3.type hm) ?_;show codeAny _ _ _ _ s3;refine codeAny_handlers_suite_as (WK t3 λs4 t4=>?_);obtain⟨vs4,ho4,hv4⟩:=t4.f.ex;have I4:Inv (tX X x) pins σ (upd H' x (exO { cls:=.ref C,data:=.fields vs4 })) s4:=qqn (qwz t4.inv ho4 t4.fx);refine WY (X:=tX X x) I4 hN hi (.inl hk) (v:=.ref x) (u:=.ref x) rfl (λs5 I5=>?_) (.inr hk);refine wpAny_mono (hs x pins s5 _ _ _ I5 (ht _ ⟨rfl,rfl,rfl,xc⟩)) (λf s6 q=>?_) λ_ _ z=>z.elim
  have bk:∀{σ6:L2.St} {H6:Hp},Inv (tX X x) pins σ6 H6 s6->Inv X pins σ6 H6 s6:=λz=>qwy I.ok z
  show wpAny _ _ _ _ _ s6;cases f with
  |next=>
   obtain⟨σ6,H6,I6,q6⟩:=q;exact jw2 (bk I6) hN hi hk λs7 I7=>⟨_,_,I7,q6⟩
  |brk=>
   obtain⟨σ6,H6,I6,q6⟩:=q;exact jw2 (bk I6) hN hi hk λs7 I7=>⟨_,_,I7,q6⟩
  |cont=>
   obtain⟨σ6,H6,I6,q6⟩:=q;exact jw2 (bk I6) hN hi hk λs7 I7=>⟨_,_,I7,q6⟩
  |ret v=>
   obtain⟨v',σ6,H6,I6,r6,q6⟩:=q;exact jw2 (bk I6) hN hi hk λs7 I7=>⟨v',_,_,I7,r6,q6⟩
noncomputable def vqf(K:PySem.W.Frag):List V->Hp->VK->Prop:=λxs H Q=>∃x o C b,ExAt K x o C/\H x=some (exO o)/\((∃U,xs=[.ref x,.ref U]/\PySem.W.kitOne K (.ref C) (.ref U)=some b)\/∃U,xs=[.ref x,.ty U]/\PySem.W.kitOne K (.ref C) (.type U)=some b)/\Q (.bl b) H
theorem qko{X:Cx}:CallR X (.builtin "isinstance") (vqf X.K):=by
 intro pins s σ H xs us Q I r ⟨x,o,C,b,a,e,h,q⟩;have px:s.heap.get? x=some o:=(show ObjOk X.prog X.w H s.heap x (exO o)from I.hok x _ e).1;have c9:∃o,PySem.W.InstAt s.heap x o C none:=⟨o,px,a.cls,a.no,by rw[a.di];trivial⟩;rcases h with⟨U,rfl,hk⟩|⟨U,rfl,hk⟩
 ·obtain⟨u1,u2,rfl,e1,e2⟩:=K6 r;cases e1;cases e2;exact Xq (kj3 a.xc) I.kIn c9 hk (λz=>nomatch z) λtk=>⟨.bl b,H,I.tok _,rfl,q⟩
 ·obtain⟨u1,u2,rfl,e1,e2⟩:=K6 r;cases e1;cases(show u2=Value.type U from e2);exact Xq (kj3 a.xc) I.kIn c9 hk (λz=>nomatch z) λtk=>⟨.bl b,H,I.tok _,rfl,q⟩
end L3
namespace Q
open PySem PySem.Spec PyProof.Rows L2 L3
theorem kja:bootBuiltins "ValueError"=some (.type "ValueError"):=by decide +kernel
theorem qv6{K:PySem.W.Frag}{C:Addr}(ga:PySem.W.findIn K (.ref C) "__getattribute__"=some (some (.builtin "BaseException.__getattribute__")))(gt:PySem.W.findIn K (.ref C) "__getattr__"=some none)(fa:PySem.W.findIn K (.ref C) "__class__"=some (some (.builtin "object.__class__")))
  (fg:PySem.W.specialIn K (.builtin "object.__class__") "__get__"=some (some (.builtin "getset_descriptor.__get__"))) (ft:PySem.W.takesIn K (.builtin "object.__class__")=some true) (ob:PySem.W.mroIn K C (.type "object")=some true) (bx:PySem.W.mroIn K C (.type "BaseException")=some true) (cl:PySem.W.isClsIn K C=true):XCls K C:=
 ⟨ga,gt,by
  obtain⟨cd,hc⟩:=Option.isSome_iff_exists.mp (show(PySem.W.clsIn K C).isSome=true from cl);unfold PySem.W.findObj;rw[hc,Option.bind_some,fa,Option.bind_some];simp[fg,ft],ob,bx,cl⟩
noncomputable def xV(K:PySem.W.Frag)(u:V)(t:List (Str×Bool)):Prop:=∀c b,t.lookup c=some b->∃C,PySem.W.nsIn K mainGlobals c=some (some (.ref C))/\((∃U,u=.ref U/\PySem.W.kitOne K (.ref C) (.ref U)=some b)\/∃U,u=.ty U/\PySem.W.kitOne K (.ref C) (.type U)=some b)
theorem kz0{K:PySem.W.Frag}{u:V}:xV K u []:=λ_ _ z=>nomatch z
theorem kvb{K:PySem.W.Frag}{u:V}{c:Str}{b:Bool}{C:Addr}{t:List (Str×Bool)}(h:PySem.W.nsIn K mainGlobals c=some (some (.ref C)))(k:(∃U,u=.ref U/\PySem.W.kitOne K (.ref C) (.ref U)=some b)\/∃U,u=.ty U/\PySem.W.kitOne K (.ref C) (.type U)=some b)(r:xV K u t):xV K u ((c,b)::t):=λc' b' z=>by
 rw[Y4]at z
 split at z
 ·rename_i e;cases eq_of_beq e;cases z;exact⟨C,h,k⟩
 ·exact r c' b' z
theorem qww{K:PySem.W.Frag}{c:Str}{b:Bool}{C U:Addr}{t:List (Str×Bool)}(h:PySem.W.nsIn K mainGlobals c=some (some (.ref C)))(k:PySem.W.kitOne K (.ref C) (.ref U)=some b)(r:xV K (.ref U) t):xV K (.ref U) ((c,b)::t):=kvb h (.inl ⟨U,rfl,k⟩) r
theorem vke{K:PySem.W.Frag}{c:Str}{b:Bool}{C:Addr}{U:String}{t:List (Str×Bool)}(h:PySem.W.nsIn K mainGlobals c=some (some (.ref C)))(k:PySem.W.kitOne K (.ref C) (.type U)=some b)(r:xV K (.ty U) t):xV K (.ty U) ((c,b)::t):=kvb h (.inr ⟨U,rfl,k⟩) r
theorem vq4{K:PySem.W.Frag}{u:V}{t:List (Str×Bool)}(ht:xV K u t):Ad1 K (λv H Q=>vqf K [v,u] H Q) (pu1 (vZ t)):=by
 intro H x s Q ok hf k;have ok:=RepO.wk ok;unfold pu1 at hf;obtain⟨o,d,v,as⟩:=x;cases d with
 | obj c fs=>
  unfold vZ at hf;cases hl:t.lookup c with
  |none=>simp only[hl]at hf;cases hf
  |some b=>
   simp only[hl]at hf;cases oq9 hf;dsimp only at ok;unfold RepL at ok;obtain⟨e0,x,ob,C,rfl,h1,h2,h3⟩:=ok;obtain⟨C',h4,h5⟩:=ht c b hl;rw[h3]at h4;cases oq9 (oq9 h4);refine⟨x,ob,C,b,h2,h1,?_,k ⟨.dp,.bl b,.bl b,[]⟩ H rfl rfl qX⟩;rcases h5 with⟨U,rfl,h5⟩|⟨U,rfl,h5⟩
   ·exact .inl ⟨U,rfl,h5⟩
   ·exact .inr ⟨U,rfl,h5⟩
 |_=>cases hf
section
variable {X:Cx}{Z:Fx0}{pn:List Nat}{q:Bool}{a b c:Ex}{e ea eb:Expr}{es:List Expr}{pos p p2:Pos}{t:List (Str×Bool)}{y:Str}{u:V}
theorem qzt(ha:QV X Z q a ea)(hm:X.mg "isinstance"=none)(hu:PE X (.Name y p2) (tC u))(hK:X.K=Z.K)(ht:xV X.K u t)(hg:autoParam (Gl X "isinstance") Ŕ)
  (he:autoParam (starEach [ea,.Name y p2] X.env=(false,eval ea X.env)::starEach [.Name y p2] X.env) Ŕ) (gp:autoParam (starEach [.Name y p2] X.env=(false,eval (.Name y p2) X.env)::starEach [] X.env) Ŕ) (bz:autoParam ((backTo pos (starEach [.Name y p2] X.env)).any (·.1)=false) Ŕ):
  QE X Z q (cF1 (pu1 (vZ t)) a) (.Call (.Name "isinstance" p) [ea,.Name y p2] [] pos):=by
 rw[hK]at ht;have hc:CallR X (.builtin "isinstance") (vqf Z.K):=hK▸qko;exact qj (Z1 hc hg hm jqm (kZ ha (kZ hu vx gp) he) (by decide) (by decide) he bz) fun σ H Q h=>J7 (r:=λv H Q=>vqf Z.K [v,u] H Q) (vq4 ht) h
theorem kx0{x:Str}{C:Addr}{z:Str}{np av:Pos}(c:ECls X.K X.mg x C)(hm:Z.mg x=some (.ref C))(g:vY X Z.EX)(hz:PE X e (tC (.str z)))(hg:autoParam (Gl X x) Ŕ)(hc:autoParam (X.calm=true) Ŕ)(cy:autoParam ((x==("__debug__":Str))=false) ŕ)
  (he:autoParam (starEach [e] X.env=(false,eval e X.env)::starEach [] X.env) Ŕ) (bz:autoParam (((backTo av (starEach [e] X.env)).any (·.1))=false) Ŕ):
  QS X Z pn (sRz x) (.Raise (some (.Call (.Name x np) [e] [] av)) none pos):=zV (qjv c g (kZ hz vx he) hg hc cy he bz) λD σ H b5=>ex7 b5 λE L r m w hr k=>by
 cases oq9 hr;exact⟨show(1:Nat)<=sizeLine by decide,k C σ L H hm Pn.refl m w Step.refl⟩
def QEX(X:Cx)(Z:Fx0)(q:Bool)(c:Ex)(e:Expr):Prop:=PEX X e λEX=>tQ ⟨Z.K,Z.mg,EX⟩ q c
theorem qw3{t t':XK->TE}(h:PEX X e t)(w:∀E σ H Q,t' E σ H Q->t E σ H Q):PEX X e t':=λE pins s σ H Q I q=>h E pins s σ H Q I (w E σ H Q q)
theorem qvr{k n:Nat}{x:Str}{ps:List Str}{f:Fn}{cs:List Ex}(D:qw X.prog X.w X.K X.mg X.base k x ps (spF Z.K Z.mg n f))(hr:Room k X.A)(ha:QA X.nox ⟨Z.K,Z.mg,λ_ _ _=>False⟩ q cs (e::es))(hn:autoParam (cs.length=n) Ŕ)(hg:autoParam (Gl X x) Ŕ)(cy:autoParam ((x==("__debug__":Str))=false) ŕ)
  (he:autoParam (starEach (e::es) X.env=(false,eval e X.env)::starEach es X.env) Ŕ) (bz:autoParam ((backTo pos (starEach es X.env)).any (·.1)=false) Ŕ):
  QEX X Z false (QJ f cs) (.Call (.Name x p) (e::es) [] pos):=qw3 (qjx D hr ha hg cy he bz) λEX σ H Q b5=>ex8 b5 λE L r m w hc xc kk=>by
 have hc:QJ f cs E=some r:=hc;unfold QJ at hc
 split at hc
 ·rename_i E1 ys hA;refine⟨E,L,_,m,w,hA,(λ_ _ z=>by cases z),λE' ys' z xs L1 H1 e1 m1 w1 st sm=>?_⟩;injection z with z1 z2;subst z1 z2;show spF _ _ _ _ _ _ _ _;rw[Xs];have b6:xs.length=n:=by
   rw[<-hn];have:ys.length=cs.length:=jxr hA;rw[<-this,<-e1,X7]
  cases hf:f (letAll ys)with
  | none=>rw[hf]at hc;cases hc
  | some fr=>
   rw[hf]at hc;obtain⟨wl,sl⟩:=jz2 w1;have ev:xs.map Sl.v=(xs.map Sl.let).map Sl.v:=by rw[Yb];rfl
   rw[ev];refine⟨xs.map Sl.let,fr,rfl,by rw[X7];exact b6,wl.left,by rw[<-e1]at hf;rw[kxp];exact hf,λE' c ee C H' hm s'=>?_,λE' a ee y H' e2 e3 w' s'=>?_⟩
   ·subst ee;cases oq9 hc;obtain⟨w2,s2⟩:=stay wl s' ⟨λ_ z=>(nomatch z),Y1,λ_ z=>(nomatch z)⟩;exact xc _ _ rfl C L1 H' hm m1 w2 ((st.trans sl).trans s2)
   ·subst ee;cases oq9 hc;obtain⟨w2,s2⟩:=stay wl s' w';exact kk _ _ rfl y L1 H' e2 e3 m1 w2 ((st.trans sl).trans s2) λhq=>nomatch hq
 ·cases hc
theorem Mt.unset:∀{E:En} {σ:L2.St} {L:Ls} (i:Nat),Mt E σ L->Mt (E.set i none) (σ.set i none) (L.set i none)
 |_,_,_,_,.nil=>.nil
 |_,_,_,0,.un m=>.un m
 |_,_,_,0,.cons m=>.un m
 |_,_,_,i+1,.un m=>.un (Mt.unset i m)
 |_,_,_,i+1,.cons m=>.cons (Mt.unset i m)
theorem KZ:∀(L:Ls) (i:Nat),(sls (L.set i none)).Sublist (sls L)
 |[],_=>Yh _
 |none::L,0=>Yh _
 |some x::L,0=>List.Sublist.cons _ (Yh _)
 |none::L,i+1=>KZ L i
 |some x::L,i+1=>List.Sublist.cons_cons _ (KZ L i)
theorem World.unset{K:PySem.W.Frag}{H:Hp}{L:Ls}{i:Nat}(w:World K H L):World K H (L.set i none):=w.sub (KZ L i)
theorem Step.unset{H H':Hp}{L L':Ls}{i:Nat}(s:Step H L H' L'):Step H L H' (L'.set i none):=s.sub (KZ L' i)
theorem World.unset1{K:PySem.W.Frag}{H:Hp}{L:Ls}{x:Sl}{i:Nat}(w:World K H (some x::L)):World K H (some x::L.set i none):=w.sub (List.Sublist.cons_cons _ (KZ L i))
theorem Step.unset1{H H':Hp}{L L':Ls}{x:Sl}{i:Nat}(s:Step H L H' (some x::L')):Step H L H' (some x::L'.set i none):=s.sub (List.Sublist.cons_cons _ (KZ L' i))
noncomputable def Vj(K:PySem.W.Frag)(mg:Str->Option Value)(UC:Addr)(cs:List Str):Prop:=∀c∈cs,∃C,mg c=some (.ref C)/\PySem.W.nsIn K mainGlobals c=some (some (.ref C))/\PySem.W.exmOne K (.ref C) (.ref UC)=some true/\XCls K C
theorem kw9{K:PySem.W.Frag}{mg:Str->Option Value}{UC:Addr}:Vj K mg UC []:=λ_ z=>nomatch z
theorem kq9{K:PySem.W.Frag}{mg:Str->Option Value}{UC C:Addr}{c:Str}{cs:List Str}(e:ECls K mg c C)(h:PySem.W.nsIn K mainGlobals c=some (some (.ref C)))(k:PySem.W.exmOne K (.ref C) (.ref UC)=some true)(r:Vj K mg UC cs):Vj K mg UC (c::cs):=λc' hc=>by
 rcases List.mem_cons.mp hc with rfl|hc
 ·exact⟨C,e.bd,h,k,e.xc⟩
 ·exact r c' hc
theorem qjd{UC:Addr}{i:Nat}{cs:List Str}{B h:Sm}{tb:XK->TS}{D:Ends}{σ:L2.St}{H:Hp}(hK:X.K=Z.K)(ca:Vj X.K Z.mg UC cs)(hp:i∉pn)
  (hb:∀(EX:XK) E L r,Mt E σ L->World Z.K H L->B E=some r->(∀E' c,r=.xc E' c->∀C L' H',Z.mg c=some (.ref C)->Mt E' σ L'->World Z.K H' L'->Step H L H' L'->EX (.ref C) none H')->((∀E' c,r≠.xc E' c)->FlP Z pn D σ H L r)->tb EX D σ H)
  (hr:tS Z pn (z6 cs i B h) D σ H):qxq X.K UC i tb (tS ⟨Z.K,Z.mg,λ_ _ _=>False⟩ pn h) D σ H:=by
 obtain⟨E,L,r,m,w,hr,k⟩:=hr;have hr:z6 cs i B h E=some r:=hr;cases hB:B E with
 | none=>unfold z6 at hr;rw[hB]at hr;cases hr
 | some rb=>
  refine⟨λCv _ H'=>∃E1 c C L1,rb=.xc E1 c/\Cv=.ref C/\Z.mg c=some (.ref C)/\Mt E1 σ L1/\World Z.K H' L1/\Step H L H' L1,hb _ E L rb m w hB (λE' c e C L' H' hm m' w' st=>⟨E',c,C,L',e,rfl,hm,m',w',st⟩) (λdb=>?_),?_⟩
  ·unfold z6 at hr;rw [hB]at hr;cases rb with
   | xc E1 c1=>exact absurd rfl (db E1 c1)
   | nx E1=>cases oq9 hr;exact k
   | ct E1=>cases oq9 hr;exact k
   | bk E1=>cases oq9 hr;exact k
   | rt E1 x=>cases oq9 hr;exact k
  ·rintro x Cv H' ⟨E1,c,C,L1,rfl,rfl,hm,m1,w1,st1⟩ hx;unfold z6 at hr;rw [hB]at hr;dsimp only at hr
   by_cases hc:c∈cs
   ·rw[X9 hc]at hr;obtain⟨C',g1,g2,g3,g4⟩:=ca c hc;rw[hm]at g1;cases oq9 g1;refine⟨C,rfl,g3,g4,λo c9=>?_⟩;have sm:jZ H' (upd H' x (exO o)):=v5 hx
    let y:Sl:=⟨.no,.obj c [],.ref x,[]⟩
    have wy:World Z.K (upd H' x (exO o)) (some y::L1):=by
     refine World.consPu ⟨λt ht=>RepO.kp (w1.ok t ht) (Kp.of_same sm),w1.nd,w1.ds⟩ ?_ rfl;show RepL Z.K _ true (.obj c []) (.ref x) [];unfold RepL;exact⟨rfl,x,o,C,rfl,wq,hK▸c9,hK▸g2⟩
    have sy:Step H L (upd H' x (exO o)) (some y::L1):=by
     refine⟨λb ob q hn=>sm b ob (st1.keep b ob q hn),λb hb=>st1.own b (by rw[k7]at hb;exact hb),λb hb=>st1.frz b (by rw[qq]at hb;exact hb)⟩
    cases h2:h (E1.set i (some (.no,.obj c [])))with
    | none=>rw[h2]at hr;cases hr
    | some r2=>
     rw[h2]at hr;refine⟨_,_,r2,W8 (x:=y) m1 rfl rfl,wy.set,h2,?_⟩;have sy2:Step H L (upd H' x (exO o)) (L1.set i (some y)):=sy.trans Step.set;have pp:Pn pn σ (σ.set i (some (V.ref x))):=Pn.refl.set hp;cases r2 with
     |nx E2=>
      cases oq9 hr;intro σ' L' H2 p' m' w' cq;exact k _ _ H2 ((pp.trans p').set hp) (Mt.unset i m') w'.unset (sy2.trans cq).unset
     |ct E2=>
      cases oq9 hr;intro σ' L' H2 p' m' w' cq;exact k _ _ H2 ((pp.trans p').set hp) (Mt.unset i m') w'.unset (sy2.trans cq).unset
     |bk E2=>
      cases oq9 hr;intro σ' L' H2 p' m' w' cq;exact k _ _ H2 ((pp.trans p').set hp) (Mt.unset i m') w'.unset (sy2.trans cq).unset
     |rt E2 a2=>
      cases oq9 hr;intro z σ' L' H2 e1 e2 p' m' w' cq;exact k z _ _ H2 e1 e2 ((pp.trans p').set hp) (Mt.unset i m') w'.unset1 (sy2.trans cq).unset1
     |xc E2 c2=>cases hr
   ·rw[Xg hc]at hr;cases hr
theorem qzr{ux n:Str}{np fv gc:Pos}{UC:Addr}{i:Nat}{b0:Stmt}{eg:List Stmt}{cs:List Str}{h:Sm}(hN:X.N.Nodup)(hi:X.N[i]?=some n)(hk:X.env.scope.names.lookup n=some .local)(top:wQ X)(hU:X.mg ux=some (.ref UC))(hK:X.K=Z.K)(ca:Vj X.K Z.mg UC cs)(hb:QEX X Z q b e)
  (hs:∀x,QSs (tX X x) ⟨Z.K,Z.mg,λ_ _ _=>False⟩ pn h (b0::eg)) (hp:autoParam (i∉pn) ŕ) (im:autoParam (swapsWith e none pos.line X.env=pure false) Ŕ) (hg:autoParam (Gl X ux) Ŕ) (cy:autoParam ((ux==("__debug__":Str))=false) ŕ):
  QS X Z pn (z6 cs i (Zj b) h) (.Try [.Expr e pos] [.ExceptHandler (some (.Name ux np)) (some n) (b0::eg) fv] [] [] gc):=
 zV (qvz hN hi hk top hU (qjt hb im) hs hg cy) λD σ H hr=>qjd hK ca hp (λEX E L r m w hB hx hk=>by
  have hB:ofE (b E) (λE _=>some (.nx E))=some r:=hB;rcases XZ hB with⟨E1,s,h1,h2⟩|⟨E1,c,h1,rfl⟩
  ·cases oq9 h2;refine⟨E,L,_,m,w,h1,(λ_ _ z=>by cases z),λE' s' z x L' H' e1 e2 m' w' st sm=>?_⟩;injection z with z1 z2;subst z1 z2;exact hk (λ_ _ z=>nomatch z) σ L' H' Pn.refl m' w'.tail (st.trans Step.drop)
  ·exact⟨E,L,_,m,w,h1,(λE' c' e C L' H' hm m' w' st=>by injection e with z1 z2;subst z1 z2;exact hx _ _ rfl C L' H' hm m' w' st),λE' s' z=>by cases z⟩) hr
end
end Q
namespace Q
open PySem PySem.Spec PyProof.Rows L2 L3
theorem kx1{X:Cx}{Z:Fx0}{q:Bool}{c:Ex}{o e:Expr}{z:Str}{bb av:Pos}(ho:PE X o (tC (.str z)))(hc:QV X Z q c e)(hK:autoParam (X.K=Z.K) Ŕ)
  (bg:autoParam (attributeBase o "join" X.env (eval o X.env)=eval o X.env) Ŕ)
  (cg:autoParam (((backTo av (starEach [e] X.env)).all (λx=>!x.1)&&(backToKw av (keywordEach [] X.env)).all (λx=>x.1.isSome)
   && decide ([e].length+([]:List Keyword).length+(if([]:List Keyword).isEmpty then 0 else 1)<30))=true) Ŕ)
  (bi:autoParam ((bb.endLine==av.line)=true) Ŕ) (hs:autoParam (starEach [e] X.env=(false,eval e X.env)::starEach [] X.env) Ŕ) (ba:autoParam ((backTo av (starEach [] X.env)).any (·.1)=false) Ŕ):
  QE X Z q (K4 z c) (.Call (.Attribute o "join" bb) [e] [] av):=
 qj (V1 Yc PySem.F.slot_str_join PySem.F.type_str_join qwl ho (kZ hc vx hs) bg cg bi hs ba) fun σ H Q b5=>ex8 b5 λE L r m w fe xc k=>by
  refine⟨?_,?_⟩
  ·rfl
  ·refine qW m w (show bnd (c E) _=some r from fe) xc λE1 s h1 x L1 H1 e1 e2 m1 w1 ok fr sr st sm=>?_
   obtain⟨y,hz,rfl⟩:=wJ h1;unfold Jv at hz;cases hx:s.2 with
   | lst ds=>
    rw [hx]at hz;dsimp only at hz;cases hp:zj ds with
    | none=>rw[hp]at hz;cases hz
    | some ys=>
     rw[hp]at hz;dsimp only at hz
     by_cases hl:(ys.map (·.length)).sum+ys.length*z.length<=100000
     ·rw[X9 hl]at hz;cases oq9 hz;obtain⟨a,xs,bs,ev,q1,ra⟩:=items ok (.inl (by rw[e2];exact hx));have hq:SqL Z.K H1 a xs:=by
       rcases q1 with⟨_,t⟩|⟨t,_⟩
       ·exact t.sq
       ·rw[e2,hx]at t;cases t
      have ex:=(kqk hp ra.1).1;subst ex;have b6:(Txt.join z ys).length<=sizeLine:=joinOk_length (joinOk_of (by omega));refine⟨z,a,ys,rfl,by rw[ev],by rw[hK];exact hq,by omega,?_⟩;exact k _ _ rfl ⟨.dp,.str (Txt.join z ys),.str (Txt.join z ys),[]⟩ L1 H1 rfl rfl m1 (w1.consPu (x:=⟨.dp,.str (Txt.join z ys),.str (Txt.join z ys),[]⟩) (show RepL Z.K H1 false (.str _) (.str _) []from x4 b6) rfl) (JY (x:=⟨.dp,.str (Txt.join z ys),.str (Txt.join z ys),[]⟩) st (λb hb=>nomatch hb) rfl) λhq=>⟨sm hq,λ_ t=>(nomatch t)⟩
     ·rw[Xg hl]at hz;cases hz
   |_=>rw[hx]at hz;cases hz
end Q
namespace Q
open PySem PySem.Spec PyProof.Rows L2 L3
section
variable {X:Cx}{Z:Fx0}{pn:List Nat}{q:Bool}{a b:Ex}{o e:Expr}{bb av:Pos}
theorem qzv(ha:QV X Z q a o)(hb:QV X Z true b e)(hK:autoParam (X.K=Z.K) Ŕ)
  (bg:autoParam (attributeBase o "index" X.env (eval o X.env)=eval o X.env) Ŕ)
  (cg:autoParam (((backTo av (starEach [e] X.env)).all (λx=>!x.1)&&(backToKw av (keywordEach [] X.env)).all (λx=>x.1.isSome)
   && decide ([e].length+([]:List Keyword).length+(if([]:List Keyword).isEmpty then 0 else 1)<30))=true) Ŕ)
  (bi:autoParam ((bb.endLine==av.line)=true) Ŕ) (hs:autoParam (starEach [e] X.env=(false,eval e X.env)::starEach [] X.env) Ŕ) (ba:autoParam ((backTo av (starEach [] X.env)).any (·.1)=false) Ŕ):
  QE X Z q (Yx a b) (.Call (.Attribute o "index" bb) [e] [] av):=
 qj (V1 Yc PySem.F.slot_str_index PySem.F.type_str_index qwn ha (kZ hb vx hs) bg cg bi hs ba) fun σ H Q b5=>ex8 b5 λE L r m w fe xc k=>by
  refine qW m w (show bnd (a E) _=some r from fe) xc λE1 s h1 x L1 H1 e1 e2 m1 w1 ok fr sr st sm=>?_
  by_cases fj:Zv s.2=true
  ·rw [X9 fj]at h1;cases hx:s.2 with
   | str z=>
    have ev:x.v=.str z:=(qK ok (by rw[e2];exact hx)).1;refine⟨by rw[ev];rfl,?_⟩;refine qW m1 w1 h1 (xc.step st) λE2 s2 h2 y L2 H2 e3 e4 m2 w2 gw kt ku cj dw=>?_
    obtain⟨d,hz,rfl⟩:=wJ h2;rw[hx]at hz;unfold VX at hz;cases hy:s2.2 with
    | str y'=>
     rw[hy]at hz;dsimp only at hz;cases ho:Builtin.Str.occurrences z y' 0 z.length 1 with
     |nil=>rw[ho]at hz;cases hz
     |cons i jv=>
      rw[ho]at hz;cases oq9 hz;have ey:y.v=.str y':=(qK gw (by rw[e4];exact hy)).1;refine⟨z,y',i,jv,ev,by rw[ey],ho,?_⟩;exact k _ _ rfl ⟨.dp,.int (i:Nat),.int (i:Nat),[]⟩ L2 H2 rfl rfl m2 (w2.consPu (x:=⟨.dp,.int (i:Nat),.int (i:Nat),[]⟩) (show RepL Z.K H2 false (.int _) (.int _) []from J0) rfl) (JY (x:=⟨.dp,.int (i:Nat),.int (i:Nat),[]⟩) (st.trans cj) (λb hb=>nomatch hb) rfl) λhq=>⟨kQ (sm hq) (dw rfl),λ_ t=>(nomatch t)⟩
    |_=>rw[hy]at hz;cases hz
   |_=>rw[hx]at fj;cases fj
  ·rw[Xg fj]at h1;cases h1
end
end Q
namespace L3
open PySem PySem.Spec PyProof.Rows L2
noncomputable def vv9(K:PySem.W.Frag):List V->Hp->VK->Prop:=λxs H Q=>∃(x:Addr) (o:Obj) (C:Addr) (b:Bool) (tp:Addr) (us:List Addr),ExAt K x o C/\H x=some (exO o)/\xs=[.ref x,.ref tp]/\SqT K H tp (us.map V.ref)/\PySem.W.kitAny K (.ref C) (us.map Value.ref)=some b/\Q (.bl b) H
theorem kjh:∀{us:List Addr} {ai:List Value},Vals (us.map V.ref) ai->ai=us.map Value.ref
 |[],_,.nil=>rfl
 |u::us,_,.cons h r=>by
  cases(show _=Value.ref u from h);rw[kjh r];rfl
theorem qkn{X:Cx}:CallR X (.builtin "isinstance") (vv9 X.K):=by
 intro pins s σ H xs us Q I r h;obtain⟨x,o,C,b,tp,cs,a,e,rfl,ht,hk,q⟩:=h;have px:s.heap.get? x=some o:=(show ObjOk X.prog X.w H s.heap x (exO o)from I.hok x _ e).1;have c9:∃o,PySem.W.InstAt s.heap x o C none:=⟨o,px,a.cls,a.no,by rw[a.di];trivial⟩;obtain⟨u1,u2,rfl,e1,e2⟩:=K6 r;cases e1;cases e2;obtain⟨ai,rv,⟨ot,h1,h2,n,h3⟩,_⟩:=I.tuple ht;have hi:=kjh rv;subst hi;obtain⟨oc,od,oda,gq⟩:=ot;cases h2;cases h3;exact PySem.W.kia_tup (kj3 a.xc) I.kIn c9 h1 hk (λz=>nomatch z) λtk=>⟨.bl b,H,I.tok _,rfl,q⟩
end L3
namespace Q
open PySem PySem.Spec PyProof.Rows L2 L3
noncomputable def V3(K:PySem.W.Frag)(us:List Addr)(t:List (Str×Bool)):Prop:=∀c b,t.lookup c=some b->∃C,PySem.W.nsIn K mainGlobals c=some (some (.ref C))/\PySem.W.kitAny K (.ref C) (us.map Value.ref)=some b
theorem kz1{K:PySem.W.Frag}{us:List Addr}:V3 K us []:=λ_ _ z=>nomatch z
theorem kvc{K:PySem.W.Frag}{us:List Addr}{c:Str}{b:Bool}{C:Addr}{t:List (Str×Bool)}(h:PySem.W.nsIn K mainGlobals c=some (some (.ref C)))(k:PySem.W.kitAny K (.ref C) (us.map Value.ref)=some b)(r:V3 K us t):V3 K us ((c,b)::t):=λc' b' z=>by
 rw[Y4]at z
 split at z
 ·rename_i e;cases eq_of_beq e;cases z;exact⟨C,h,k⟩
 ·exact r c' b' z
theorem kxy{K:PySem.W.Frag}{C:Value}:PySem.W.kitAny K C (([]:List Addr).map Value.ref)=some false:=rfl
theorem Jq{K:PySem.W.Frag}{C:Value}{u:Addr}{us:List Addr}{b:Bool}(h:PySem.W.kitOne K C (.ref u)=some false)(r:PySem.W.kitAny K C (us.map Value.ref)=some b):PySem.W.kitAny K C ((u::us).map Value.ref)=some b:=by
 rw[List.map_cons];unfold PySem.W.kitAny;rw[h];exact r
noncomputable def qzi(K:PySem.W.Frag)(us:List Addr):V->Hp->VK->Prop:=λv H Q=>(us.map V.ref).length<=sizeLine/\∀p,H p=none->vv9 K [v,.ref p] (upd H p (.tup (us.map V.ref))) Q
theorem vq5{K:PySem.W.Frag}{us:List Addr}{t:List (Str×Bool)}(hl:us.length<=1000)(ht:V3 K us t):Ad1 K (qzi K us) (pu1 (vZ t)):=by
 intro H x s Q ok hf k;have ok:=RepO.wk ok;unfold pu1 at hf;obtain⟨o,d,v,as⟩:=x;cases d with
 | obj c fs=>
  unfold vZ at hf;cases lx:t.lookup c with
  |none=>simp only[lx]at hf;cases hf
  |some b=>
   simp only[lx]at hf;cases oq9 hf;dsimp only at ok;unfold RepL at ok;obtain⟨e0,x,ob,C,rfl,h1,h2,h3⟩:=ok;obtain⟨C',h4,h5⟩:=ht c b lx;rw[h3]at h4;cases oq9 (oq9 h4);refine⟨by rw[X7];exact Xl hl (by decide),λp hp=>⟨x,ob,C,b,p,us,h2,?_,rfl,SqT.of wq,h5,k ⟨.dp,.bl b,.bl b,[]⟩ _ rfl rfl (VJ (v5 hp) wK)⟩⟩;exact v5 hp _ _ h1
 |_=>cases hf
def tCs:List Addr->TA
 |[]=>Yv
 |u::us=>Q7 (tC (.ref u)) (tCs us)
theorem qxp{us:List Addr}{σ:L2.St}{H:Hp}:∀{Q:List V->Hp->Prop},Q (us.map V.ref) H->tCs us σ H Q:=by
 induction us with
 |nil=>intro Q h;exact h
 |cons u us ih=>intro Q h;exact ih (Q:=λxs H2=>Q (V.ref u::xs) H2) h
section
variable {X:Cx}{Z:Fx0}{pn:List Nat}{q:Bool}{a:Ex}{ea:Expr}{es:List Expr}{pos p p2:Pos}{t:List (Str×Bool)}{us:List Addr}{k1:Nat}
theorem qzu(ha:QV X Z q a ea)(hm:X.mg "isinstance"=none)(hu:PA X es (tCs us))(hK:X.K=Z.K)(ht:V3 X.K us t)(hl:us.length<=1000:=by simp)(hg:autoParam (Gl X "isinstance") Ŕ)
  (he:autoParam (starEach [ea,.Tuple es k1 p2] X.env=(false,eval ea X.env)::starEach [.Tuple es k1 p2] X.env) Ŕ) (gp:autoParam (starEach [.Tuple es k1 p2] X.env=(false,eval (.Tuple es k1 p2) X.env)::starEach [] X.env) Ŕ) (bz:autoParam ((backTo pos (starEach [.Tuple es k1 p2] X.env)).any (·.1)=false) Ŕ):
  QE X Z q (cF1 (pu1 (vZ t)) a) (.Call (.Name "isinstance" p) [ea,.Tuple es k1 p2] [] pos):=by
 rw[hK]at ht;have hc:CallR X (.builtin "isinstance") (vv9 Z.K):=hK▸qkn;refine qj (Z1 hc hg hm jqm (kZ ha (kZ (qqd hu) vx gp) he) (by decide) (by decide) he bz) fun σ H Q h=>?_
 have h2:tUn (qzi Z.K us) (tV Z q a) σ H Q:=J7 (vq5 hl ht) h;obtain⟨E,L,R,m,w,i9,xc,kk⟩:=h2;exact⟨E,L,R,m,w,i9,xc,λE' s' z x L' H' e1 e2 m' w' ok fr sr st sm=>qxp (kk E' s' z x L' H' e1 e2 m' w' ok fr sr st sm)⟩
end
end Q
namespace Q
open PySem PySem.Spec PyProof.Rows L2 L3
theorem kxw{P:Program}{w:PySem.World}{K:PySem.W.Frag}{mg mb:Str->Option Value}{CX:CXT}{k:Nat}{fa a:Addr}{fd:FuncData}{x:Str}{sp:Sp}{s₁:Shared}{vs:List Value}{ns:List Int}
  (KX:K.In s₁.heap) (hns:s₁.heap.Ns mainGlobals mg) (hb:s₁.heap.Ns builtinsNs mb) (hbb:∀x:Str,x≠"__name__"->mb x=bootBuiltins x) (hlim:s₁.heap.NoLimit) (hg:s₁.gens=#[])
  (ha:s₁.heap.get? a=some { cls:=.type "list",data:=.seq vs.toArray }) (hi:IntsAre vs ns) (hl:ns.length<=sizeLine) (hr:Room k callerA)
  (F:∀base:Heap,K.In base->base.Ns mainGlobals mg->FnOk P w K mg base CX k fa fd [x] sp) (jn:∀(s:Shared) (u:Value),BindsTo s fd ⟨[u],[]⟩ [(x,u)])
  (dr:∀H:Hp,vwh H->LsR K H a (ns.map V.int)->sp [.ref a] H (λv _=>v=.bl true) λ_ _ _=>False)
  (hCX:∀H e s',CX [] H s₁ (λ_ _ _=>False) e s'->False):
  codeAny (model P w) callerA (.call (.ref fa) ⟨[.ref a],[]⟩) (λr s'=>r=.ok (.ret (.bool true))/\OldK s₁.heap s'.heap/\s'.os=s₁.os/\AllBare s'.gens) s₁:=by
 have rv:=kwe hi;have lenV:=hi.length;have kl:∀H:Hp,vwh H->LsR K H a (ns.map V.int)->HOk P w H s₁.heap->(∀b,H b≠none->b=a)->(H a≠none->K.lookup a=none) ->
   codeAny (model P w) callerA (.call (.ref fa) ⟨[.ref a],[]⟩) (λr s'=>r=.ok (.ret (.bool true))/\OldK s₁.heap s'.heap/\s'.os=s₁.os/\AllBare s'.gens) s₁:=by
  intro H hO hS hok hA hK;have f9:∀{b:Addr} {o:Obj},s₁.heap.get? b=some o->H b=none->(z9 s₁.heap H).get? b=some o:=λe n=>qkg e n
  have lj:∀{b:Addr} {o:Obj} {es:Array DictEntry} {ep:Nat},s₁.heap.get? b=some o->o.data=.dict es ep->H b=none:=fun {b o es ep} e d=>by
   cases q:H b with
   | none=>rfl
   | some u=>
    have e':b=a:=hA b (by rw[q];simp);subst e';rw[ha]at e;cases e;have d':Data.seq vs.toArray _=Data.dict es ep:=d;cases d'
  have nsK:∀{b:Addr} {m:Str->Option Value},s₁.heap.Ns b m->(z9 s₁.heap H).Ns b m:=fun {b m} ⟨o,es,ep,e,d,r⟩=>⟨o,es,ep,f9 e (lj e d),d,r⟩
  have hKb:K.In (z9 s₁.heap H):=λb o e=>f9 (KX b o e) (by
   cases q:H b with
   | none=>rfl
   | some u=>
    have e':b=a:=hA b (by rw[q];simp);subst e';rw[hK (by rw[q];simp)]at e;cases e)
  have hM:Mod K mg (z9 s₁.heap H):=⟨hKb,nsK hns,⟨mb,nsK hb,hbb⟩,let ⟨mc,h1,h2⟩:=hlim;⟨mc,nsK h1,h2⟩⟩;have e0:Env0 P w K mg (z9 s₁.heap H) callerA [] s₁ H:=⟨rfl,hM,λb o e=>qwg e,Nat.le_of_eq (kz5 _ _),trivial,λb hb=>absurd (show b∈([]:List Addr)from hb) (by simp),hok,.of_eq hg⟩;refine codeAny_mono ((F _ hKb (nsK hns)).run callerA [] s₁ H ⟨[.ref a],[]⟩ [.ref a] [.ref a] _ _ hr e0 (jn s₁ (.ref a)) (.cons rfl .nil) (dr H hO hS)) λr s' h=>?_
  cases r with
  | error e=>exact(hCX H e s' h).elim
  | ok fl=>
   cases fl with
   | next=>exact False.elim h
   | brk=>exact False.elim h
   | cont=>exact False.elim h
   | ret u=>
    obtain⟨v,H',os,bare,un,hok',r',q⟩:=h;have q':v=.bl true:=q;subst q';obtain rfl:u=Value.bool true:=r';refine⟨rfl,OldK.of_keep λb o e=>?_,os,bare⟩;cases q:H b with
    | none=>exact un.keep b o e q (by intro z;exact absurd (show b∈([]:List Addr)from z) (by simp)) (by simp)
    | some u=>
     rcases hO b with z|⟨ob,xs,z⟩
     ·rw[q]at z;cases z
     ·have z2:=un.frzs b ob _ z;obtain⟨e1,_⟩:=hok b _ z;obtain⟨e2,_⟩:=hok' b _ z2;rw[e]at e1;cases e1;exact e2
 cases hk:K.lookup a with
 | some o=>
  have e:=KX a o hk;rw[ha]at e;cases e;refine kl (λ_=>none) (λ_=>.inl rfl) (.inr ⟨vs.toArray,_,hk,by rw[X4,lenV];exact hl,by simpa using rv⟩) (λb u z=>by have z':(none:Option HO)=some u:=z;cases z') (λb z=>absurd rfl z) λz=>absurd rfl z
 | none=>
  refine kl (λb=>if b=a then some (.frz { cls:=.type "list",data:=.seq vs.toArray } (.lst (ns.map V.int)))else none) (λb=>?_) (.inl (.inr ⟨{ cls:=.type "list",data:=.seq vs.toArray },X9 rfl⟩)) (λb u z=>?_) (λb z=>?_) λ_=>hk
  ·by_cases hb:b=a
   ·exact .inr ⟨_,_,X9 hb⟩
   ·exact .inl (Xg hb)
  ·by_cases hb:b=a
   ·have z':=(X9 hb).symm.trans z;cases z';subst hb;exact⟨ha,by rw[X7];exact hl,vs,_,rv,ha⟩
   ·have z':=(Xg hb).symm.trans z;cases z'
  ·by_cases hb:b=a
   ·exact hb
   ·exact absurd (Xg hb) z
@[elab_as_elim] theorem vx8 {P:List Value->Prop}(us:List Value)(e:us.length=1)(h:∀a,P [a]):P us:=by
 cases us with
 |nil=>cases e
 |cons a us=>cases List.eq_nil_of_length_eq_zero (Nat.succ.inj e);exact h a
@[elab_as_elim] theorem vx7 {P:List Value->Prop}(us:List Value)(e:us.length=2)(h:∀a b,P [a,b]):P us:=by
 cases us with
 |nil=>cases e
 |cons a us=>exact vx8 (P:=λl=>P (a::l)) us (Nat.succ.inj e) λb=>h a b
@[elab_as_elim] theorem vx6 {P:List Value->Prop}(us:List Value)(e:us.length=3)(h:∀a b c,P [a,b,c]):P us:=by
 cases us with
 |nil=>cases e
 |cons a us=>exact vx7 (P:=λl=>P (a::l)) us (Nat.succ.inj e) λb c=>h a b c
@[elab_as_elim] theorem vx5 {P:List Value->Prop}(us:List Value)(e:us.length=4)(h:∀a b c d,P [a,b,c,d]):P us:=by
 cases us with
 |nil=>cases e
 |cons a us=>exact vx6 (P:=λl=>P (a::l)) us (Nat.succ.inj e) λb c d=>h a b c d
@[elab_as_elim] theorem vx4 {P:List Value->Prop}(us:List Value)(e:us.length=5)(h:∀a b c d f,P [a,b,c,d,f]):P us:=by
 cases us with
 |nil=>cases e
 |cons a us=>exact vx5 (P:=λl=>P (a::l)) us (Nat.succ.inj e) λb c d f=>h a b c d f
@[elab_as_elim] theorem len6 {P:List Value->Prop}(us:List Value)(e:us.length=6)(h:∀a b c d f g,P [a,b,c,d,f,g]):P us:=by
 cases us with
 |nil=>cases e
 |cons a us=>exact vx4 (P:=λl=>P (a::l)) us (Nat.succ.inj e) λb c d f g=>h a b c d f g
theorem jwe{K:PySem.W.Frag}{H:Hp}{g:Bool}:∀(ns:List Int),RepA K H g (ns.map D.int) (ns.map V.int) []
 |[]=>by unfold RepA;exact⟨rfl,rfl⟩
 |n::ns=>by
  rw[List.map_cons,List.map_cons];unfold RepA;exact⟨_,_,[],[],rfl,rfl,J0,jwe ns⟩
theorem vk5{K:PySem.W.Frag}{mg:Str->Option Value}{f:Fn}{H:Hp}{a:Addr}{ns:List Int}(h:∃E o,f [(.no,.lst (ns.map D.int))]=some (.ok E (o,.bl true)))(hs:LsR K H a (ns.map V.int))(hO:vwh H):
  spF K mg 1 f [.ref a] H (λv _=>v=.bl true) λ_ _ _=>False:=by
 obtain⟨E,o,h⟩:=h;have io:∃as,RepL K H true (.lst (ns.map D.int)) (.ref a) as/\(∀b∈as,False):=by
  rcases hs with(hs|⟨ob,hs⟩)|hs
  ·rcases hO a with z|⟨_,_,z⟩<;>(rw[hs]at z;cases z)
  ·refine⟨[],?_,λb hb=>nomatch hb⟩;unfold RepL;exact⟨a,ns.map V.int,[],rfl,jwe ns,.inr ⟨rfl,.inl ⟨ob,hs⟩,rfl⟩⟩
  ·refine⟨[],?_,λb hb=>nomatch hb⟩;unfold RepL;exact⟨a,ns.map V.int,[],rfl,jwe ns,.inr ⟨rfl,.inr hs,rfl⟩⟩
 obtain⟨as,r,hn⟩:=io;refine⟨[⟨.no,.lst (ns.map D.int),.ref a,as⟩],_,rfl,rfl,?_,h,(λE' c z=>by cases z),λE' s z x H' e1 e2 w' st=>?_⟩
 ·exact⟨λx hx=>by rw[oq9 (List.mem_singleton.mp hx)];exact r,by simp[Sl.own],λb hb=>by simp[Sl.own]at hb⟩
 ·injection z with z1 z2;subst z2;exact zZ w'.head e2
section
open PySem.W PySem.Calls
theorem walkQ{l:OpenLaw}{n k:Nat}{q:Program}{v7:List Str}{XP:(Str->Option Value)->Heap->Prop}{YP:PySem.World->Heap->Prop}{d:DefRec}{K:Params->Frag}{f:Fn}{x:Str}
  (hn:l.most=some n) (hn2:n<=sizeLine) (hdf:d.params.defaults=[]) (hr:Room k callerA)
  (hY:∀(w:PySem.World) (h:Heap),YP w h->(K w.params).In h)
  (F:∀(w:PySem.World) (mg:Str->Option Value) (fa:Addr) (h:Heap),(K w.params).In h->h.Ns mainGlobals mg->mg d.name=some (.ref fa) ->
   ∃fd:FuncData,(∀(s:Shared) (u:Value),BindsTo s fd ⟨[u],[]⟩ [(x,u)])/\∀base:Heap,(K w.params).In base->base.Ns mainGlobals mg->FnOk l.prog w (K w.params) mg base (CXE l.prog w) k fa fd [x] (spF (K w.params) mg 1 f))
  (dr:∀(ns:List Int),ns.length<=n->(∀i∈ns,Builtin.Int.intBits i<=1048576)->∃E o,f [(.no,.lst (ns.map D.int))]=some (.ok E (o,.bl true))):
  WalkO q v7 XP YP l.row.toRowW d [] (λf vs=>PySem.call f vs):=by
 intro w s0 s1 mg mb G Y fa o pm cd dv dV kV ho hd dq hD hmg hg args ir as gr hlay hrd jc hlo;obtain rfl:dV=.none:=Dflts.none hD hdf;obtain rfl:kV=.none:=Dflts.noKw hD;obtain⟨a,vs,ns,rfl,rfl,hobj,js,b6⟩:=Att.script_of hn gr jc;have lw:=kqd hlay;have KX:=hY w _ Y;obtain⟨fd,hb,hF⟩:=F w mg fa _ KX G.T.g hmg;refine enter_call (codeAny_mono (kxw KX G.T.g G.T.b G.T.builtins G.T.nolimit hg hobj js (Xl b6 hn2) hr hF hb (λH hO hS=>vk5 (dr ns b6 lw) hS hO) (λ_ _ _ ⟨_,_,_,_,_,_,_,_,_,_,_,_,_,_,_,z⟩=>z)) λr s' hq=>?_);obtain⟨rfl,h2,h3,h4⟩:=hq;exact⟨.inl ⟨.bool true,.bool true,[],rfl,λ_=>rfl,.bool true,Att.post_true l _,λ_=>⟨List.Pairwise.nil,λ_ hm=>(nomatch hm)⟩⟩,h2,h3,h4⟩
end
end Q
namespace Q
open PySem PySem.Spec PyProof.Rows L2 L3
section
variable {P:Program}{w:PySem.World}{K:PySem.W.Frag}{mg:Str->Option Value}{base h:Heap}{x:Str}{st:Stmt}{ps:List Str}{k:Nat}{sp:Sp}
noncomputable def Gf(K:PySem.W.Frag)(x:Str)(st:Stmt):Prop:=∃(f:Addr) (oc:Value) (od:Option Addr) (kV dc pm:Value) (an:Option Addr) (cd ct:Value) (sl:Array (Option Value)),PySem.W.nsIn K mainGlobals x=some (some (.ref f))/\K.lookup f=some ⟨oc,od,.func (PySem.W.fnOf x x (JW st) (xZ st) (kW st) .none kV dc pm an cd ct),sl⟩/\PySem.W.codeIn K cd x=true/\PySem.W.keepIn K (.ref f)=true
theorem Gf.mk{f:Addr}{oc:Value}{od:Option Addr}{kV dc pm:Value}{an:Option Addr}{cd ct:Value}{sl:Array (Option Value)}(a:PySem.W.nsIn K mainGlobals x=some (some (.ref f)))(l:K.lookup f=some ⟨oc,od,.func (PySem.W.fnOf x x (JW st) (xZ st) (kW st) .none kV dc pm an cd ct),sl⟩)(c:PySem.W.codeIn K cd x=true)(k:PySem.W.keepIn K (.ref f)=true):Gf K x st:=⟨f,oc,od,kV,dc,pm,an,cd,ct,sl,a,l,c,k⟩
theorem Gf.d(g:Gf K x st)(X:K.In h)(G:h.Ns mainGlobals mg)(ok:∀{f:Addr} {fd:FuncData},Fun K x x st f fd->FnOk P w K mg base (CXE P w) k f fd ps sp)
  (hb:∀(kV dv pm:Value) (an:Option Addr) (br ct:Value) (us:List Value),us.length=ps.length->bindArgs (PySem.W.fnOf x x (JW st) (xZ st) (kW st) .none kV dv pm an br ct) ⟨us,[]⟩=pure (ps.zip us):=by
   intro _ _ _ _ _ _ us hl
   first
   |exact vx8 us hl λ_=>rfl
   |exact vx7 us hl λ_ _=>rfl
   |exact vx6 us hl λ_ _ _=>rfl
   |exact vx5 us hl λ_ _ _ _=>rfl
   |exact vx4 us hl λ_ _ _ _ _=>rfl
   |exact len6 us hl λ_ _ _ _ _ _=>rfl):qw P w K mg base k x ps sp:=by
 obtain⟨f,oc,od,kV,dc,pm,an,cd,ct,sl,a,l,c,kp⟩:=g;exact⟨f,_,ok (kz8 l c kp),(kz8 l c kp).binds hb,kp,Xp X G a⟩
theorem Gf.law{fa:Addr}{y:Str}(g:Gf K "law" st)(X:K.In h)(G:h.Ns mainGlobals mg)(hfa:mg "law"=some (.ref fa))(ok:∀{base:Heap} {f:Addr} {fd:FuncData},Fun K "law" "law" st f fd->FnOk P w K mg base (CXE P w) k f fd [y] sp)
  (hb:∀(kV dv pm:Value) (an:Option Addr) (br ct:Value) (s:Shared) (v:Value),BindsTo s (PySem.W.fnOf "law" "law" (JW st) (xZ st) (kW st) .none kV dv pm an br ct) ⟨[v],[]⟩ [(y,v)]:=by
   intros
   exact .of_eq rfl):
  ∃fd:FuncData,(∀(s:Shared) (v:Value),BindsTo s fd ⟨[v],[]⟩ [(y,v)])/\∀base:Heap,K.In base->base.Ns mainGlobals mg->FnOk P w K mg base (CXE P w) k fa fd [y] sp:=by
 obtain⟨f,oc,od,kV,dc,pm,an,cd,ct,sl,a,l,c,kp⟩:=g;have e:=hfa.symm.trans (Xp X G a);cases e;exact⟨_,hb kV dc pm an cd ct,λbase _ _=>ok (kz8 l c kp)⟩
end
end Q
namespace Q
open PySem L2
theorem mkS{N P:List Str}{sc:Scope}(h1:autoParam (sc.kind=.function) Ŕ)(h2:autoParam (sc.isCoroutine=false) Ŕ)(h3:autoParam (sc.isGenerator=false) Ŕ)(h4:autoParam (N.Nodup) ŗ)(h5:autoParam (N.take P.length=P) Ŕ)(h6:autoParam (∀x∈P,sc.names.lookup x=some .local\/sc.names.lookup x=some .cell) ŗ)(h7:autoParam (∀y∈sc.names,y.2≠.free) ŗ):FnScope N P sc:=⟨h1,h2,h3,h4,h5,h6,h7⟩
end Q
namespace Q
open PySem PySem.Spec PyProof.Rows L2 L3
section
variable {X:Cx}{Z:Fx0}{pn:List Nat}{q qa:Bool}{a b c:Ex}{e ea eb:Expr}{pos p:Pos}
theorem kI{z:Int}{j}:QE X Z true (cC (.int z)) (.Constant (.int z) j p):=q_C vjh λ_=>J0
theorem ki{z:Int}{j}:QV X Z true (vE (cC (.int z))) (.Constant (.int z) j p):=j9 kI
theorem kN{j}:QE X Z true (cC .non) (.Constant .none j p):=q_C vjf λ_=>kwn
theorem kn{j}:QV X Z true (vE (cC .non)) (.Constant .none j p):=j9 kN
theorem kS{z:Str}{j}(h:autoParam (z.length<=sizeLine) ŕ):QE X Z true (cC (.str z)) (.Constant (.str z) j p):=q_C zk λ_=>x4 h
theorem ks{z:Str}{j}(h:autoParam (z.length<=sizeLine) ŕ):QV X Z true (vE (cC (.str z))) (.Constant (.str z) j p):=j9 (kS h)
theorem vv(i:Nat){x:Str}(hN:autoParam (X.N[i]?=some x) Ŕ)(hv:autoParam (Vis X.env.scope x) ř)(hd:autoParam ((x==("__debug__":Str))=false) ŕ)
  (dq:autoParam ((x==("__classdict__":Str))=false) ŕ):QV X Z true (vV i) (.Name x pos):=q_vV (pv i hN hv hd dq)
theorem cv(i:Nat){x:Str}(hN:autoParam (X.N[i]?=some x) Ŕ)(hv:autoParam (Vis X.env.scope x) ř)(hd:autoParam ((x==("__debug__":Str))=false) ŕ)
  (dq:autoParam ((x==("__classdict__":Str))=false) ŕ):QE X Z true (cV i) (.Name x pos):=q_V (pv i hN hv hd dq)
theorem kx(ha:QV X Z qa a ea)(hb:QV X Z true b eb)(hs:kqf eb:=by exact λ_ _=>rfl)(hK:autoParam (X.K=Z.K) Ŕ):QV X Z qa (qJ a b) (.Subscript ea eb pos):=q_ix ha hb hs hK
theorem qA{i:Nat}{y:Str}{df:Pos}(hN:X.N.Nodup)(h:QE X Z q a ea)(hi:autoParam (X.N[i]?=some y) Ŕ)(hx:autoParam (Loc X.env.scope y) Ś)(hp:autoParam (i∉pn) ŕ)(hs:autoParam (swapsWith ea (some (.Name y df)) pos.line X.env=pure false) Ŕ)(hf:autoParam (X.fn y=true\/X.env.scope.names.lookup y=some .local) Ř):
  QS X Z pn (jW i a) (.Assign [.Name y df] ea pos):=vvg hN hi hx h hp hs hf
theorem gn{i:Nat}{x:Str}(hN:X.N.Nodup)(hi:autoParam (X.N[i]?=some x) Ŕ)(hx:autoParam (Loc X.env.scope x) Ś)(hf:autoParam (X.fn x=true\/X.env.scope.names.lookup x=some .local) Ř):PG X (.Name x pos) (Vz i):=Jk hN hi hx hf
theorem gN{i:Nat}{x:Str}(hN:X.N.Nodup)(hi:autoParam (X.N[i]?=some x) Ŕ)(hx:autoParam (Loc X.env.scope x) Ś)(hf:autoParam (X.fn x=true\/X.env.scope.names.lookup x=some .local) Ř)(hp:autoParam (i∉pn) ŕ):QG X Z pn (.n i) (.Name x pos):=Wx (Jk hN hi hx hf) hp
theorem qC{k m n:Nat}{x:Str}{ps:List Str}{f:Fn}{cs:List Ex}{es:List Expr}(D:qw X.prog X.w X.K X.mg X.base k x ps (spF Z.K Z.mg n f))(hr:Room m X.A)(ha:QA X Z q cs (e::es))(g:vY X Z.EX:=by exact Q1)(fi:autoParam (k<=m) ŕ)(hn:autoParam (cs.length=n) Ŕ)(hg:autoParam (Gl X x) Ŕ)(cy:autoParam ((x==("__debug__":Str))=false) ŕ)
  (he:autoParam (starEach (e::es) X.env=(false,eval e X.env)::starEach es X.env) Ŕ) (bz:autoParam ((backTo pos (starEach es X.env)).any (·.1)=false) Ŕ):
  QE X Z q (jY f cs) (.Call (.Name x p) (e::es) [] pos):=qzy D (hr.mono fi) g ha hn hg cy he bz
theorem qF{tg az:Expr}{ss:List Stmt}{it:Ev (List D)}{t:Tg}{B:Sm}(hi:QI X Z q tg it az)(hg:QG X Z pn t tg)(hb:QSs X Z pn B ss)(hp:PassesOwn (model X.prog X.w) X.A X.env X.xe:=by exact vvo ⟨_,_,rfl,rfl⟩)(hc:autoParam (X.calm=true) Ŕ)(hs:autoParam (∀x,foldedSetIterable az X.env x=pure x) Ŗ):QS X Z pn (xW it t B) (.For tg az ss [] pos):=vvd hp hc hi hg hb hs
theorem oA(ha:QV X Z qa a ea)(hb:QV X Z true b eb)(hK:autoParam (X.K=Z.K) Ŕ):QE X Z qa (cF2 jJ a b) (.BinOp ea .Add eb pos):=v6 (vjs hK) vq7 ha hb
theorem oX(ha:QV X Z qa a ea)(hb:QV X Z true b eb)(hK:autoParam (X.K=Z.K) Ŕ):QE X Z qa (cF2 qk a b) (.BinOp ea .Mult eb pos):=v6 (vjp hK) qxh ha hb
theorem oM(ha:QV X Z qa a ea)(hb:QV X Z true b eb):QE X Z qa (cF2 (pu2 kK) a b) (.BinOp ea .Mod eb pos):=v6 vjo vq1 ha hb
theorem qP{i:Nat}{x:Str}{bb av xp:Pos}(h:QE X Z q c e)(hN:autoParam (X.N[i]?=some x) Ŕ)(hv:autoParam (Vis X.env.scope x) ř)(hd:autoParam ((x==("__debug__":Str))=false) ŕ)
  (dq:autoParam ((x==("__classdict__":Str))=false) ŕ) (bg:autoParam (attributeBase (.Name x xp) "append" X.env (eval (.Name x xp) X.env)=eval (.Name x xp) X.env) Ŕ)
  (cg:autoParam (((backTo av (starEach [e] X.env)).all (λx=>!x.1)&&(backToKw av (keywordEach [] X.env)).all (λx=>x.1.isSome)
   && decide ([e].length+([]:List Keyword).length+(if([]:List Keyword).isEmpty then 0 else 1)<30))=true) Ŕ)
  (bi:autoParam ((bb.endLine==av.line)=true) Ŕ) (hs:autoParam (starEach [e] X.env=(false,eval e X.env)::starEach [] X.env) Ŕ) (ba:autoParam ((backTo av (starEach [] X.env)).any (·.1)=false) Ŕ) (hK:autoParam (X.K=Z.K) Ŕ)
  (im:autoParam (swapsWith (.Call (.Attribute (.Name x xp) "append" bb) [e] [] av) none pos.line X.env=pure false) Ŕ):
  QS X Z pn (zq xX i c) (.Expr (.Call (.Attribute (.Name x xp) "append" bb) [e] [] av) pos):=vvh (vjj Z.K PySem.F.plainAttrs_list PySem.F.slot_list_append PySem.F.type_list_append kxl (pv i hN hv hd dq) (kZ h vx hs) bg cg bi hs ba hK) im
theorem qL(ha:QV X Z q a ea)(hm:X.mg "len"=none)(hK:autoParam (X.K=Z.K) Ŕ)(hg:autoParam (Gl X "len") Ŕ)(he:autoParam (starEach [ea] X.env=(false,eval ea X.env)::starEach [] X.env) Ŕ)(bz:autoParam ((backTo pos (starEach [] X.env)).any (·.1)=false) Ŕ):QE X Z q (cF1 (pu1 kz) a) (.Call (.Name "len" p) [ea] [] pos):=vvf (hK▸qx7 X.K) vq2 ha hm vkx hg (by decide) (by decide) he bz
variable {az d8 tg:Expr}{cz:List Expr}{scope:Scope}{it:Ev (List D)}{tt:Tg}{u:Ts}
theorem qm(o:Own)(k:Nat)(R:List Nat)(m:Nat)(N:List Str)(hi:QI X Z q tg it az)
  (hg:N.Nodup->∀cl C s0 H0 fp,QG (lcE X scope N cl C s0 H0 fp Z.EX) Z ((List.range R.length).map (k + ·)) tt tg) (ht:∀cl C s0 H0 fp,PTs (lcE X scope N cl C s0 H0 fp Z.EX) cz (tT Z q u)) (he:∀cl C s0 H0 fp,QE (lcE X scope N cl C s0 H0 fp Z.EX) Z q c d8)
  (hN:autoParam (N.Nodup) ŗ) (gx:vY X Z.EX:=by exact Q1) (top:wQ X:=by exact⟨_,_,rfl,rfl⟩) (hR:autoParam (R.Nodup) ŕ) (hm:autoParam (X.N.length=m) Ŕ) (hr:autoParam (∀j∈R,j<m) ŕ) (hc:autoParam (X.calm=true) Ŕ) (hk:autoParam (scope.kind=.function) Ŕ) (gh:autoParam (JJ X.N X.env.scope scope N k R=true) Ŕ) (hs:autoParam (∀x,foldedSetIterable az X.env x=pure x) Ŗ):
  QE X Z q (cLC o k R it tt u c) (.ListComp d8 [⟨tg,az,cz,0⟩] scope pos):=vx1 N hi (hg hN) ht he gx top hR (hm▸hr) hc hk gh hs
theorem qM{x:Str}{p':Pos}(o:Own)(k:Nat)(R:List Nat)(m:Nat)(N:List Str)(hi:QI X Z q (.Name x p') it az)(he:∀cl C s0 H0 fp,QE (lcE X scope N cl C s0 H0 fp Z.EX) Z q c d8)
  (hN:autoParam (N.Nodup) ŗ) (gx:vY X Z.EX:=by exact Q1) (top:wQ X:=by exact⟨_,_,rfl,rfl⟩) (hR:autoParam (R.Nodup) ŕ) (hm:autoParam (X.N.length=m) Ŕ) (hr:autoParam (∀j∈R,j<m) ŕ) (hc:autoParam (X.calm=true) Ŕ) (hk:autoParam (scope.kind=.function) Ŕ) (gh:autoParam (JJ X.N X.env.scope scope N k R=true) Ŕ) (hs:autoParam (∀x,foldedSetIterable az X.env x=pure x) Ŗ)
  (hg:N.Nodup->∀cl C s0 H0 fp,QG (lcE X scope N cl C s0 H0 fp Z.EX) Z ((List.range R.length).map (k + ·)) (.n 0) (.Name x p'):=by exact λh _ _ _ _ _=>Wx (Jk (i:=0) h rfl (by first|exact Or.inl rfl|exact Or.inr rfl))):
  QE X Z q (cLC o k R it (.n 0) tYes c) (.ListComp d8 [⟨.Name x p',az,[],0⟩] scope pos):=vx1 N hi (hg hN) (λ_ _ _ _ _=>qvo) he gx top hR (hm▸hr) hc hk gh hs
end
end Q
namespace Sw
open PySem PyProof.Rows
section
variable {prog:Program}{w:World}{A:Around}{E:Value->Shared->Prop}{s:Shared}
def tx(w:World):Bool:=w.params.followText "set-order"
structure Ok (prog:Program)(w:World)(o:Obj)(es:Array (Int×Value))(ep:Nat)(t:SetTable):Prop where
 ex:o.ExactSet
 d:o.data=.set es ep t
 el:ElemsOf (PySem.strKind prog w) es.toList
 b:es.size<scanBound
 f:t.fits es.size=true
 led:t.led=!tx w
 pl:t.plain=false\/es.size=0
def dd(ss:List Str):List Str:=ss.foldl step_dedup []
def fresh(w:World):Obj:={ cls:=.type "set",dict:=none,data:=.set #[] 0 (.fresh 0 0 (!tx w)) }
end
section
variable {prog:Program}{w:World}{A:Around}{E:Value->Shared->Prop}{s:Shared}
noncomputable def It(h:Heap)(I a:Addr)(f:Value)(i n ep:Nat):Prop:=∃o,h.get? I=some o/\o.cls=.type "set_iterator"/\o.data=.fields #[f,.int i 0,.ref a,.int n 0,.int ep 0]
end
end Sw
namespace Q
open PySem PySem.Spec PyProof.Rows L2 L3
section
variable {X:Cx}{Z:Fx0}{K:PySem.W.Frag}{H:Hp}{q g:Bool}{a:Ex}{e:Expr}{p2 pos:Pos}{x:Str}{d:D}{ds:List D}{v:V}{vs:List V}
theorem vv5:RepA K H g [] [] []:=by unfold RepA;exact⟨rfl,rfl⟩
theorem qvi(h:RepL K H g d v [])(r:RepA K H g ds vs []):RepA K H g (d::ds) (v::vs) []:=by
 unfold RepA;exact⟨v,vs,[],[],rfl,rfl,h,r⟩
theorem repT{b:Addr}(h:SqT K H b vs)(r:RepA K H g ds vs []):RepL K H g (.tup ds) (.ref b) []:=by
 unfold RepL;exact⟨b,vs,rfl,h,r⟩
end
end Q
namespace Q
open PySem
noncomputable def K9(c:Nat):Sd->Option Sd:=λx=>match x.2 with
 |.str z=>if z.length<sizeLine then some (.rt,.lst ((Txt.split z ⟨#[c]⟩).map .str))else none
 |_=>none
noncomputable def Jz(c:Nat):D->Option D
 |.str z=>if z.length<=sizeLine then some (.tup [.str (Txt.partition z ⟨#[c]⟩).1,.str (Txt.partition z ⟨#[c]⟩).2.1,.str (Txt.partition z ⟨#[c]⟩).2.2])else none
 |_=>none
def J8(y:Str):D->Option D
 |.str z=>some (.bl (Txt.startswith z y))
 |_=>none
noncomputable def Jw:D->Option D
 |.int i=>if i.natAbs.log2<1920/\(Str.ofString (toString i)).length<=sizeLine then some (.str (Str.ofString (toString i)))else none
 |_=>none
noncomputable def Vw(i:Nat):Ex:=λE=>match E[i]? with
 |some (some (_,.str z))=>if z.length<=1000 then some (.ok E (.rt,.lst [.str "",.str " ",.str "-",.str "- ",.str (" "++z),.str (z++" "),.str (Txt.replace z " " "  ")]))else none
 |_=>none
end Q
namespace Q
open PySem PySem.Spec PyProof.Rows L2 L3
section
variable {X:Cx}{Z:Fx0}{K:PySem.W.Frag}{q:Bool}{a:Ex}{o:Expr}{y:Str}{c:Nat}{j:_}{p bb av:Pos}
theorem kkr{c:Nat}:∀{l p:List Nat},p∈splitL c l->p.length<=l.length:=V6
theorem split_parts{z w:Str}(h:w∈Txt.split z ⟨#[c]⟩):w.length<=z.length:=by
 have:w.cps.toList∈splitL c z.cps.toList:=by rw[<-split_list];exact List.mem_map.mpr ⟨w,h,rfl⟩
 have:=kkr this;rw[X0,X0]at this;exact this
theorem qkz:Ad1 K (λv H Q=>tyV K "str" v H/\kws v [.str ⟨#[c]⟩] H Q) (K9 c):=by
 intro H x s Q ok hf k;unfold K9 at hf;dsimp only at hf;cases hx:x.d with
 | str z=>
  rw[hx]at hf;dsimp only at hf
  split at hf
  ·rename_i hz;cases oq9 hf;have ev:x.v=.str z:=(qK ok hx).1;refine⟨by rw[ev];rfl,z,c,ev,rfl,hz,λl hl=>?_⟩;exact k ⟨.rt,.lst _,.ref l,l::[]⟩ _ rfl rfl (QY hl (jzr λw hw=>Xl (split_parts hw) (Nat.le_of_lt hz)) λb hb=>nomatch hb)
  ·cases hf
 |_=>rw[hx]at hf;cases hf
theorem kwz(hy:y=(⟨#[c]⟩:Str))(ha:QV X Z q a o)(hK:autoParam (X.K=Z.K) Ŕ)(bg:autoParam (attributeBase o "split" X.env (eval o X.env)=eval o X.env) Ŕ)
  (cg:autoParam (((backTo av (starEach [.Constant (.str y) j p] X.env)).all (λx=>!x.1)&&(backToKw av (keywordEach [] X.env)).all (λx=>x.1.isSome)
   && decide ([Expr.Constant (.str y) j p].length+([]:List Keyword).length+(if([]:List Keyword).isEmpty then 0 else 1)<30))=true) Ŕ)
  (bi:autoParam ((bb.endLine==av.line)=true) Ŕ) (hs:autoParam (starEach [.Constant (.str y) j p] X.env=(false,eval (.Constant (.str y) j p) X.env)::starEach [] X.env) Ŕ) (ba:autoParam ((backTo av (starEach [] X.env)).any (·.1)=false) Ŕ):
  QE X Z q (cF1 (K9 c) a) (.Call (.Attribute o "split" bb) [.Constant (.str y) j p] [] av):=
 qj (V1 Yc PySem.F.slot_str_split PySem.F.type_str_split qwm ha (kZ zk vx hs) bg cg bi hs ba) fun σ H Q h=>by
  rw[hK];subst hy;exact J7 (r:=λv H Q=>tyV Z.K "str" v H/\kws v [.str ⟨#[c]⟩] H Q) qkz h
theorem qxf:Ad1 K (λv H Q=>tyV K "str" v H/\qvj v [.str ⟨#[c]⟩] H Q) (pu1 (Jz c)):=by
 intro H x s Q ok hf k;unfold pu1 Jz at hf;dsimp only at hf;cases hx:x.d with
 | str z=>
  rw [hx]at hf;dsimp only at hf
  split at hf
  ·rename_i hz;cases oq9 hf;have ev:x.v=.str z:=(qK ok hx).1;have hp:(Txt.partition z ⟨#[c]⟩).1.length<=sizeLine/\(Txt.partition z ⟨#[c]⟩).2.1.length<=sizeLine/\(Txt.partition z ⟨#[c]⟩).2.2.length<=sizeLine:=by
    obtain⟨h1,h2⟩:=part_list z c;have e1:=congrArg List.length h1;have e2:=congrArg List.length h2;rw[X0]at e1 e2;have hz':z.cps.toList.length<=sizeLine:=by rw[X0];exact hz
    refine⟨?_,?_,?_⟩
    ·show(Txt.partition z ⟨#[c]⟩).1.cps.size<=_;rw[e1];exact Xl (List.takeWhile_sublist _).length_le hz'
    ·unfold Txt.partition
     split
     ·show 1<=sizeLine;decide
     ·show 0<=sizeLine;decide
    ·show(Txt.partition z ⟨#[c]⟩).2.2.cps.size<=_;rw[e2,List.length_tail];exact Xl (Nat.sub_le _ _) (Xl (List.dropWhile_sublist _).length_le hz')
   refine⟨by rw[ev];rfl,z,c,ev,rfl,hz,λl hl=>?_⟩;exact k ⟨.dp,.tup _,.ref l,[]⟩ _ rfl rfl (VJ (v5 hl) (repT (.of wq) (qvi (x4 hp.1) (qvi (x4 hp.2.1) (qvi (x4 hp.2.2) vv5)))))
  ·cases hf
 |_=>rw[hx]at hf;cases hf
theorem qqa(hy:y=(⟨#[c]⟩:Str))(ha:QV X Z q a o)(hK:autoParam (X.K=Z.K) Ŕ)(bg:autoParam (attributeBase o "partition" X.env (eval o X.env)=eval o X.env) Ŕ)
  (cg:autoParam (((backTo av (starEach [.Constant (.str y) j p] X.env)).all (λx=>!x.1)&&(backToKw av (keywordEach [] X.env)).all (λx=>x.1.isSome)
   && decide ([Expr.Constant (.str y) j p].length+([]:List Keyword).length+(if([]:List Keyword).isEmpty then 0 else 1)<30))=true) Ŕ)
  (bi:autoParam ((bb.endLine==av.line)=true) Ŕ) (hs:autoParam (starEach [.Constant (.str y) j p] X.env=(false,eval (.Constant (.str y) j p) X.env)::starEach [] X.env) Ŕ) (ba:autoParam ((backTo av (starEach [] X.env)).any (·.1)=false) Ŕ):
  QE X Z q (cF1 (pu1 (Jz c)) a) (.Call (.Attribute o "partition" bb) [.Constant (.str y) j p] [] av):=
 qj (V1 Yc PySem.F.slot_str_partition PySem.F.type_str_partition vjz ha (kZ zk vx hs) bg cg bi hs ba) fun σ H Q h=>by
  rw[hK];subst hy;exact J7 (r:=λv H Q=>tyV Z.K "str" v H/\qvj v [.str ⟨#[c]⟩] H Q) qxf h
theorem qj5:Ad1 K (λv H Q=>tyV K "str" v H/\kkt v [.str y] H Q) (pu1 (J8 y)):=by
 intro H x s Q ok hf k;unfold pu1 J8 at hf;dsimp only at hf;cases hx:x.d with
 |str z=>
  rw[hx]at hf;cases oq9 hf;have ev:x.v=.str z:=(qK ok hx).1;exact⟨by rw[ev];rfl,z,y,ev,rfl,k ⟨.dp,.bl _,.bl _,[]⟩ H rfl rfl qX⟩
 |_=>rw[hx]at hf;cases hf
theorem kqs(ha:QV X Z q a o)(hK:autoParam (X.K=Z.K) Ŕ)(bg:autoParam (attributeBase o "startswith" X.env (eval o X.env)=eval o X.env) Ŕ)
  (cg:autoParam (((backTo av (starEach [.Constant (.str y) j p] X.env)).all (λx=>!x.1)&&(backToKw av (keywordEach [] X.env)).all (λx=>x.1.isSome)
   && decide ([Expr.Constant (.str y) j p].length+([]:List Keyword).length+(if([]:List Keyword).isEmpty then 0 else 1)<30))=true) Ŕ)
  (bi:autoParam ((bb.endLine==av.line)=true) Ŕ) (hs:autoParam (starEach [.Constant (.str y) j p] X.env=(false,eval (.Constant (.str y) j p) X.env)::starEach [] X.env) Ŕ) (ba:autoParam ((backTo av (starEach [] X.env)).any (·.1)=false) Ŕ):
  QE X Z q (cF1 (pu1 (J8 y)) a) (.Call (.Attribute o "startswith" bb) [.Constant (.str y) j p] [] av):=
 qj (V1 Yc PySem.F.slot_str_startswith PySem.F.type_str_startswith qka ha (kZ zk vx hs) bg cg bi hs ba) fun σ H Q h=>by
  rw[hK];exact J7 (r:=λv H Q=>tyV Z.K "str" v H/\kkt v [.str y] H Q) qj5 h
noncomputable def vwq:List V->Hp->VK->Prop:=λxs H Q=>∃i:Int,xs=[.int i]/\i.natAbs.log2<1920/\Q (.str (Str.ofString (toString i))) H
theorem kj9:CallR X (.type "str") vwq:=by
 intro pins s σ H xs us Q I r h;obtain⟨i,rfl,hi,q⟩:=h;obtain⟨u,rfl,t,rfl⟩:=JQ r;exact PySem.P.str_of_int hi ⟨.str _,H,I.tok _,⟨_,rfl⟩,q⟩
theorem qj4:Ad1 K (λv H Q=>vwq [v] H Q) (pu1 Jw):=by
 intro H x s Q ok hf k;unfold pu1 Jw at hf;dsimp only at hf;cases hx:x.d with
 | int i=>
  rw[hx]at hf;dsimp only at hf
  split at hf
  ·rename_i hz;cases oq9 hf;exact⟨i,by rw[qv ok hx],hz.1,k ⟨.dp,.str _,.str _,[]⟩ H rfl rfl (XQ hz.2)⟩
  ·cases hf
 |_=>rw[hx]at hf;cases hf
theorem qzs{i:Nat}{x:Str}{e6:Expr}{j1 j2 j3 j4 j5 j6 j7 j8:_}{p1 p2 p3 p4 p5 p6 p7 p8 p9 pa pb pc pd pe p1' pos:Pos}(hN:autoParam (X.N[i]?=some x) Ŕ)(hK:autoParam (X.K=Z.K) Ŕ)(hv:autoParam (Vis X.env.scope x) ř)(hd:autoParam ((x==("__debug__":Str))=false) ŕ)(dq:autoParam ((x==("__classdict__":Str))=false) ŕ)
  (h6:autoParam (e6=.Call (.Attribute (.Name x pa) "replace" pb) [.Constant (.str " ") j7 pc,.Constant (.str "  ") j8 pd] [] pe) Ŕ)
  (g6:PEl X (.Call (.Attribute (.Name x pa) "replace" pb) [.Constant (.str " ") j7 pc,.Constant (.str "  ") j8 pd] [] pe) (qxs " " "  " (zX i)))
  (s1:autoParam (starEach [.BinOp (.Constant (.str " ") j5 p5) .Add (.Name x p6) p7,.BinOp (.Name x p8) .Add (.Constant (.str " ") j6 p9) p1,e6] X.env=(false,eval (.BinOp (.Constant (.str " ") j5 p5) .Add (.Name x p6) p7) X.env)::starEach [.BinOp (.Name x p8) .Add (.Constant (.str " ") j6 p9) p1,e6] X.env) Ŕ)
  (s2:autoParam (starEach [.BinOp (.Name x p8) .Add (.Constant (.str " ") j6 p9) p1,e6] X.env=(false,eval (.BinOp (.Name x p8) .Add (.Constant (.str " ") j6 p9) p1) X.env)::starEach [e6] X.env) Ŕ) (s3:autoParam (starEach [e6] X.env=[(false,eval e6 X.env)]) Ŕ)
  (s4:autoParam (starEach [.Constant (.str "- ") j4 p4,.BinOp (.Constant (.str " ") j5 p5) .Add (.Name x p6) p7,.BinOp (.Name x p8) .Add (.Constant (.str " ") j6 p9) p1,e6] X.env=(false,eval (.Constant (.str "- ") j4 p4) X.env)::starEach [.BinOp (.Constant (.str " ") j5 p5) .Add (.Name x p6) p7,.BinOp (.Name x p8) .Add (.Constant (.str " ") j6 p9) p1,e6] X.env) Ŕ)
  (s5:autoParam (starEach [.Constant (.str "-") j3 p3,.Constant (.str "- ") j4 p4,.BinOp (.Constant (.str " ") j5 p5) .Add (.Name x p6) p7,.BinOp (.Name x p8) .Add (.Constant (.str " ") j6 p9) p1,e6] X.env=(false,eval (.Constant (.str "-") j3 p3) X.env)::starEach [.Constant (.str "- ") j4 p4,.BinOp (.Constant (.str " ") j5 p5) .Add (.Name x p6) p7,.BinOp (.Name x p8) .Add (.Constant (.str " ") j6 p9) p1,e6] X.env) Ŕ)
  (s6:autoParam (starEach [.Constant (.str " ") j2 p2,.Constant (.str "-") j3 p3,.Constant (.str "- ") j4 p4,.BinOp (.Constant (.str " ") j5 p5) .Add (.Name x p6) p7,.BinOp (.Name x p8) .Add (.Constant (.str " ") j6 p9) p1,e6] X.env=(false,eval (.Constant (.str " ") j2 p2) X.env)::starEach [.Constant (.str "-") j3 p3,.Constant (.str "- ") j4 p4,.BinOp (.Constant (.str " ") j5 p5) .Add (.Name x p6) p7,.BinOp (.Name x p8) .Add (.Constant (.str " ") j6 p9) p1,e6] X.env) Ŕ)
  (s7:autoParam (starEach [.Constant (.str "") j1 p1',.Constant (.str " ") j2 p2,.Constant (.str "-") j3 p3,.Constant (.str "- ") j4 p4,.BinOp (.Constant (.str " ") j5 p5) .Add (.Name x p6) p7,.BinOp (.Name x p8) .Add (.Constant (.str " ") j6 p9) p1,e6] X.env=(false,eval (.Constant (.str "") j1 p1') X.env)::starEach [.Constant (.str " ") j2 p2,.Constant (.str "-") j3 p3,.Constant (.str "- ") j4 p4,.BinOp (.Constant (.str " ") j5 p5) .Add (.Name x p6) p7,.BinOp (.Name x p8) .Add (.Constant (.str " ") j6 p9) p1,e6] X.env) Ŕ):
  QE X Z true (Vw i) (.List [.Constant (.str "") j1 p1',.Constant (.str " ") j2 p2,.Constant (.str "-") j3 p3,.Constant (.str "- ") j4 p4,.BinOp (.Constant (.str " ") j5 p5) .Add (.Name x p6) p7,.BinOp (.Name x p8) .Add (.Constant (.str " ") j6 p9) p1,e6] pos):=by
 have pv:∀{p:Pos},PEt X (.Name x p) (zX i):=fun {p}=>kx9 i hN hv hd dq
 refine qj (qqe (qk4 (WV W9 (WV W9 (WV W9 (WV (kxa W9 pv) (WV (kxa pv W9) (qk3 (by rw[h6];exact g6) s3) s2) s1) s4) s5) s6) s7)) fun σ H Q b5=>ex8 b5 λE L r m w hc xc k=>?_
 unfold Vw at hc
 split at hc
 rotate_left
 ·cases hc
 rename_i o z hE
 split at hc
 rotate_left
 ·cases hc
 rename_i hz;cases oq9 hc;obtain⟨y,h1,h2,h3,h4⟩:=m.get hE;have ev:y.v=.str z:=(qK (w.ok y (wX h1)) h3).1;have i7:sizeLine=16777216:=by decide
 have l0:∀a b:Str,(a++b).length=a.length+b.length:=λa b=>by show(a.cps++b.cps).size=_;rw[Array.size_append];rfl
 have l1:(" ":Str).length=1:=rfl;have hr:=repl_len z "  " 32;have hr:(Txt.replace z " " "  ").length<=(z.length+1)*z.length+(z.length+1)*2:=hr;have hr:(Txt.replace z " " "  ").length<=sizeLine:=by
  have a1:(z.length+1)*z.length<=1001*1000:=Nat.mul_le_mul (by omega) hz;omega
 refine⟨y.v,h4," ",z,rfl,ev,by omega,y.v,h4,z," ",ev,rfl,by omega,y.v,h4,z,ev,?_,(by show 7<=sizeLine;decide),λp hp=>?_⟩
 ·have:("  ":Str).length=2:=rfl;rw[this];omega
 have ro:RepA Z.K H true (([("":Str)," ","-","- "," "++z,z++" ",Txt.replace z " " "  "]:List Str).map D.str) (([("":Str)," ","-","- "," "++z,z++" ",Txt.replace z " " "  "]:List Str).map V.str) []:=jzr λb hb=>by
  simp only[Xu,Xn,or_false]at hb;rcases hb with rfl|rfl|rfl|rfl|rfl|rfl|rfl
  ·decide
  ·decide
  ·decide
  ·decide
  ·rw[l0];omega
  ·rw[l0];omega
  ·exact hr
 have ot:=QY (fr:=[]) hp ro λb hb=>nomatch hb
 obtain⟨w3,cm⟩:=xz w Step.refl ot (λb hb=>nomatch hb) (λb hb=>nomatch hb) λb hb=>nomatch hb
 exact k _ _ rfl _ L _ rfl rfl m w3 cm λ_=>⟨ot.same,λb hb=>ot.new b hb⟩
end
end Q
namespace Q
open PySem
noncomputable def out(f:Fn)(xs:List Sd):Option (Sd ⊕ Str):=match f xs with
 |some (.ok _ y)=>some (.inl y)
 |some (.exc _ c)=>some (.inr c)
 |none=>none
theorem vk0(n:Nat)(h:300<=n):(10:Nat) ^ 70<2 ^ n:=Xa (show(10:Nat) ^ 70<2 ^ 240 by decide) (Nat.pow_le_pow_right (by decide) (by omega))
theorem mul_l{o1 o2:Own}{a b:Int}(h1:-18446744073709551616<a)(h2:a<18446744073709551616):Q5 (o1,.int a) (o2,.int b)=some (.dp,.int (a*b)):=by
 have:zQ a b=true:=by
  have:W2 a=true:=by unfold W2;rw[X5 (show -(2 ^ 64)<a by omega),X5 (show a<2 ^ 64 by omega)];rfl
  unfold zQ;rw[this];rfl
 show(if zQ a b=true then _ else _)=_;rw[X9 this]
theorem kxk{o1 o2:Own}{a b:Int}(ha:a.natAbs.log2<2000000)(hb:b.natAbs.log2<2000000):Q5 (o1,.int a) (o2,.int b)=some (.dp,.int (a*b)):=by
 have:zQ a b=true:=by unfold zQ;rw[X5 ha,X5 hb];simp
 show(if zQ a b=true then _ else _)=_;rw[X9 this]
theorem add_i{o1 o2:Own}{a b:Int}:jJ (o1,.int a) (o2,.int b)=some (.dp,.int (a+b)):=rfl
theorem sub_i{a b:Int}:WQ (.int a) (.int b)=some (.int (a - b)):=rfl
theorem div_i{a b:Int}(h:0<b)(h2:b<10 ^ 70):z7 (.int a) (.int b)=some (.int (a / b)):=by
 have hb:b.natAbs.log2<9000:=by
  exact(Nat.log2_lt (by omega)).mpr (Nat.lt_trans (show b.natAbs<10 ^ 70 by omega) (vk0 9000 (by decide)))
 show(if 0<b/\b.natAbs.log2<9000 then some (a / b)else none).map _=_;rw[X9 ⟨h,hb⟩];rfl
theorem mod_i{a b:Int}(h:0<b):kK (.int a) (.int b)=some (.int (a % b)):=by
 show(if 0<b then some (a % b)else none).map _=_;rw[X9 h];rfl
theorem pow_i{a b:Int}(h1:0<=b)(h2:b<=1000)(h3:-1000000<a)(h4:a<1000000):K5 (.int a) (.int b)=some (.int (a ^ b.toNat)):=by
 show(if 0<=b/\b<=1000000/\a.natAbs<2 ^ 64 then some (a ^ b.toNat)else none).map _=_;rw[X9 ⟨h1,by omega,by omega⟩];rfl
theorem Ww{a b:Int}:fEq (.int a) (.int b)=some (.bl (a==b)):=rfl
theorem vw3{a b:Str}:fEq (.str a) (.str b)=some (.bl (a==b)):=rfl
theorem lt_ii{a b:Int}:fLt (.int a) (.int b)=some (.bl (decide (a<b))):=rfl
theorem gt_ii{a b:Int}:fGt (.int a) (.int b)=some (.bl (decide (b<a))):=rfl
theorem le_ii{a b:Int}:fLe (.int a) (.int b)=some (.bl (decide (a<=b))):=rfl
theorem ge_ii{a b:Int}:fGe (.int a) (.int b)=some (.bl (decide (b<=a))):=rfl
theorem vxb{xs:List D}{i:Int}{d:D}(h0:0<=i)(h:xs[i.toNat]?=some d):qZ (.lst xs) (.int i)=some d:=by
 show((ixN xs.length i).bind λj=>xs[j]?)=some d;have hl:i.toNat<xs.length:=(List.getElem?_eq_some_iff.mp h).1;unfold ixN;rw[X9 h0,X9 (by omega)];exact h
theorem len_l{xs:List D}:kz (.lst xs)=some (.int xs.length):=rfl
theorem len_t{xs:List D}:kz (.tup xs)=some (.int xs.length):=rfl
theorem vkz{o1 o2:Own}{a b:List D}(h1:o1≠.dp)(h2:o2≠.dp)(hl:a.length+b.length<10000):jJ (o1,.lst a) (o2,.lst b)=some (.rt,.lst (a++b)):=by
 show(if a.length+b.length<=big/\v7 (o1,.lst a)/\v7 (o2,.lst b)then _ else _)=_;rw[X9 ⟨by unfold big;omega,by cases o1<;>simp_all [v7],by cases o2<;>simp_all [v7]⟩]
abbrev XP:=Str->Prop
theorem nd{α:Sort _}{a b:α}(h:a=b):a=b:=h
@[irreducible] noncomputable def Eo {α:Type} (m:Option (Res α)) (P:En->α->Prop) (X:XP):Prop:=match m with
 |some (.ok E a)=>P E a
 |some (.exc _ c)=>X c
 |none=>False
@[irreducible] noncomputable def Vo {α:Type} (m:Option α) (P:α->Prop):Prop:=match m with
 |some a=>P a
 |none=>False
@[irreducible] noncomputable def Oo (f:Fn) (xs:List Sd) (P:Sd->Prop) (X:XP):Prop:=match f xs with
 |some (.ok _ y)=>P y
 |some (.exc _ c)=>X c
 |none=>False
@[irreducible] noncomputable def Po (r:Option Fl) (N C:En->Prop) (R:Sd->Prop) (X:XP):Prop:=match r with
 |some (.nx E)=>N E
 |some (.ct E)=>C E
 |some (.rt _ x)=>R x
 |some (.xc _ c)=>X c
 |_=>False
abbrev noX:XP:=λ_=>False
section
variable {α β:Type}{P:En->α->Prop}{X:XP}{N C:En->Prop}{R:Sd->Prop}{E:En}
theorem qx2{a:α}:Eo (some (.ok E a)) P X=P E a:=nd (by with_unfolding_all rfl)
theorem k6{m:Option (Res β)}{f:En->β->Option (Res α)}:Eo (bnd m f) P X=Eo m (λE a=>Eo (f E a) P X) X:=by
 cases m with
 |none=>with_unfolding_all rfl
 |some r=>cases r<;>with_unfolding_all rfl
theorem vo_some{a:α}{P:α->Prop}:Vo (some a) P=P a:=nd (by with_unfolding_all rfl)
theorem vo_map{x:Option β}{f:β->α}{P:α->Prop}:Vo (x.map f) P=Vo x (λa=>P (f a)):=by cases x<;>with_unfolding_all rfl
theorem wV{x:Option α}:Eo (val E x) P X=Vo x (P E):=by cases x<;>with_unfolding_all rfl
theorem Qk{m:Option (Res α)}{f:En->α->Option Fl}:Po (ofE m f) N C R X=Eo m (λE a=>Po (f E a) N C R X) X:=by
 cases m with
 |none=>with_unfolding_all rfl
 |some r=>cases r<;>with_unfolding_all rfl
theorem vj8{a b:Sm}:Po (jq a b E) N C R X=Po (a E) (λE=>Po (b E) N C R X) C R X:=by
 unfold jq Po;cases a E with
 |none=>with_unfolding_all rfl
 |some r=>cases r<;>with_unfolding_all rfl
theorem vj9{x:Option β}{f:β->Fl}:Po (x.map f) N C R X=Vo x (λa=>Po (some (f a)) N C R X):=by cases x<;>with_unfolding_all rfl
theorem Eo.mono{m:Option (Res α)}{P':En->α->Prop}(h:Eo m P X)(k:∀E a,P E a->P' E a):Eo m P' X:=by
 cases m with
 |none=>with_unfolding_all exact h
 |some r=>cases r with
  |ok E a=>with_unfolding_all exact k E a h
  |exc E c=>with_unfolding_all exact h
theorem Oo.mono{f:Fn}{xs:List Sd}{P P':Sd->Prop}(h:Oo f xs P X)(k:∀y,P y->P' y):Oo f xs P' X:=by
 unfold Oo at h ⊢;cases hf:f xs with
 |none=>rw[hf]at h;with_unfolding_all exact h
 |some r=>rw[hf]at h;cases r with
  |ok E a=>with_unfolding_all exact k a h
  |exc E c=>with_unfolding_all exact h
theorem Oo.out{f:Fn}{xs:List Sd}{P:Sd->Prop}(h:Oo f xs P noX):∃E y,f xs=some (.ok E y)/\P y:=by
 unfold Oo at h;cases hf:f xs with
 |none=>rw[hf]at h;with_unfolding_all exact(show False from h).elim
 |some r=>rw[hf]at h;cases r with
  |ok E a=>with_unfolding_all exact⟨E,a,rfl,h⟩
  |exc E c=>with_unfolding_all exact(show False from h).elim
theorem vq{n:Nat}{b:Sm}{xs:List Sd}{P:Sd->Prop}(h:Po (b (xs.map some++List.replicate (n - xs.length) none)) (λ_=>P (.dp,.non)) (λ_=>False) P X):Oo (fn n b) xs P X:=by
 unfold Oo fn;unfold Po at h;cases hb:b (xs.map some++List.replicate (n - xs.length) none)with
 |none=>rw[hb]at h;with_unfolding_all exact h
 |some r=>rw[hb]at h;cases r<;>with_unfolding_all exact h
theorem qx4{f:Fn}{cs:List Ex}{P:En->Sd->Prop}:Eo (jY f cs E) P X=Eo (qz cs E) (λE xs=>Oo f (letAll xs) (P E) X) X:=by
 unfold jY;rw[k6]
 congr 1
 funext E xs;unfold Oo;cases f (letAll xs)with
 |none=>with_unfolding_all rfl
 |some r=>cases r<;>with_unfolding_all rfl
def Z3(d:D){α:Type}(a b:Option α):Option α:=match d with
 |.bl k=>if k=true then a else b
 |_=>none
theorem qx9(a b:Ex):z5 a b E=bnd (a E) λE x=>Z3 x.2 (b E) (some (.ok E (.dp,.bl false))):=by
 unfold z5 Z3
 congr 1
 funext E x;cases x.2 with
 |bl k=>cases k<;>with_unfolding_all rfl
 |_=>with_unfolding_all rfl
theorem vkv(a b:Ex):cOr a b E=bnd (a E) λE x=>Z3 x.2 (some (.ok E (.dp,.bl true))) (b E):=by
 unfold cOr Z3
 congr 1
 funext E x;cases x.2 with
 |bl k=>cases k<;>with_unfolding_all rfl
 |_=>with_unfolding_all rfl
theorem kkw{tg:Tg}{b:Sm}(I:En->List D->Prop)(hs:∀E d ds,I E (d::ds)->Vo (tg.put d E) λE1=>Po (b E1) (λE2=>I E2 ds) (λE2=>I E2 ds) R X)(h1:∀E,I E []->N E):∀ds E,I E ds->Po (xx tg b ds E) N C R X
 | [],E,h=>by with_unfolding_all exact h1 E h
 | d::ds,E,h=>by
  have h2:=hs E d ds h;unfold xx;cases hp:tg.put d E with
  | none=>rw[hp]at h2;with_unfolding_all exact(show False from h2).elim
  | some E1=>
   rw[hp]at h2;have h2:Po (b E1) (λE2=>I E2 ds) (λE2=>I E2 ds) R X:=by with_unfolding_all exact h2
   dsimp only;cases hb:b E1 with
   |none=>rw[hb]at h2;with_unfolding_all exact(show False from h2).elim
   |some r=>
    rw[hb]at h2;cases r with
    |nx E2=>with_unfolding_all exact kkw I hs h1 ds E2 h2
    |ct E2=>with_unfolding_all exact kkw I hs h1 ds E2 h2
    |rt E2 x=>with_unfolding_all exact h2
    |xc E2 c=>with_unfolding_all exact h2
    |bk E2=>with_unfolding_all exact(show False from h2).elim
theorem Zq{it:Ev (List D)}{tg:Tg}{b:Sm}(I:En->List D->Prop)(h0:Eo (it E) I X)(hs:∀E d ds,I E (d::ds)->Vo (tg.put d E) λE1=>Po (b E1) (λE2=>I E2 ds) (λE2=>I E2 ds) R X)(h1:∀E,I E []->N E):Po (xW it tg b E) N C R X:=by
 show Po (ofE (it E) λE ds=>xx tg b ds E) N C R X;rw[Qk]
 with_unfolding_all exact h0.mono λE ds h=>kkw I hs h1 ds E h
theorem kzg{tg:Tg}{t:Ts}{c:Ex}{P:En->List Sd->Prop}(J:En->List D->List Sd->Prop)(hs:∀B d ds ay,J B (d::ds) ay->Vo (tg.put d B) λB1=>Eo (t B1) (λB2 k=>if k=true then Eo (c B2) (λB3 y=>J B3 ds (ay++[y])) X else J B2 ds ay) X)(h1:∀B ay,J B [] ay->P B ay):∀ds B ay,J B ds ay->Eo (lcL tg t c ds B ay) P X
 | [],B,ay,h=>by with_unfolding_all exact h1 B ay h
 | d::ds,B,ay,h=>by
  have h2:=hs B d ds ay h;unfold lcL;cases hp:tg.put d B with
  | none=>rw[hp]at h2;with_unfolding_all exact(show False from h2).elim
  | some B1=>
   rw[hp]at h2;have h2:Eo (t B1) (λB2 k=>if k=true then Eo (c B2) (λB3 y=>J B3 ds (ay++[y])) X else J B2 ds ay) X:=by with_unfolding_all exact h2
   dsimp only;rw[k6];refine h2.mono λB2 k h3=>?_
   cases k with
   |false=>with_unfolding_all exact kzg J hs h1 ds B2 ay h3
   |true=>
    show Eo (bnd (c B2) _) P X;rw[k6]
    with_unfolding_all exact Eo.mono (P:=λB3 y=>J B3 ds (ay++[y])) h3 λB3 y h4=>kzg J hs h1 ds B3 _ h4
theorem qx3{o:Own}{k:Nat}{r:List Nat}{it:Ev (List D)}{tg:Tg}{t:Ts}{c:Ex}{P:En->Sd->Prop}(J:En->En->List D->List Sd->Prop)(h0:Eo (it E) (λE1 ds=>J E1 (K3 k r E1) ds []) X)
  (hs:∀E1 B d ds ay,J E1 B (d::ds) ay->Vo (tg.put d B) λB1=>Eo (t B1) (λB2 k=>if k=true then Eo (c B2) (λB3 y=>J E1 B3 ds (ay++[y])) X else J E1 B2 ds ay) X) (h1:∀E1 B ay,J E1 B [] ay->Eo (mkL o (Kj k r B E1) ay) P X):Eo (cLC o k r it tg t c E) P X:=by
 unfold cLC;rw[k6];refine h0.mono λE1 ds hJ=>?_
 have:=kzg (P:=λB ay=>Eo (mkL o (Kj k r B E1) ay) P X) (J E1) (hs E1) (h1 E1) ds _ _ hJ;cases hl:lcL tg t c ds (K3 k r E1) []with
 |none=>rw[hl]at this;with_unfolding_all exact(show False from this).elim
 |some q=>rw[hl]at this;cases q<;>with_unfolding_all exact this
end
theorem mulT_i{o1:Own}{a:Int}{y:Sd}:qk (o1,.int a) y=Q5 (o1,.int a) y:=by
 unfold qk;with_unfolding_all rfl
def sl(q:Option (Option Sd)):Option Sd:=match q with
 |some (some x)=>some x
 |_=>none
theorem sl_some{x:Sd}:sl (some (some x))=some x:=nd (by with_unfolding_all rfl)
def ZY(d:D)(a b:Prop):Prop:=match d with
 |.bl k=>if k=true then a else b
 |_=>False
theorem andP_bl{k:Bool}{a b:Prop}:ZY (.bl k) a b=if k=true then a else b:=nd (by with_unfolding_all rfl)
def Wo{α:Type}(m:Option α)(E:En)(P:En->α->Prop):Prop:=Vo m (P E)
theorem wo_some{α:Type}{a:α}{E:En}{P:En->α->Prop}:Wo (some a) E P=P E a:=by unfold Wo;exact vo_some
theorem wo_map{α β:Type}{x:Option β}{f:β->α}{E:En}{P:En->α->Prop}:Wo (x.map f) E P=Wo x E (λE a=>P E (f a)):=by unfold Wo;exact vo_map
def Oe(f:Fn)(xs:List Sd)(E:En)(P:En->Sd->Prop)(X:XP):Prop:=Oo f xs (P E) X
def intP(d:D)(P:Int->Prop):Prop:=match d with
 |.int i=>P i
 |_=>False
def Ie(d:D)(E:En)(P:En->Int->Prop):Prop:=intP d (P E)
theorem ie_i{i:Int}{E:En}{P:En->Int->Prop}:Ie (.int i) E P=P E i:=nd (by with_unfolding_all rfl)
section
variable {P:En->Sd->Prop}{T:En->Bool->Prop}{X:XP}{N C:En->Prop}{R:Sd->Prop}{E:En}{e:Option Sd}{a b c:Ex}{t u:Ts}{i:Nat}
theorem w_seq{a b:Sm}:Po (jq a b (e::E)) N C R X=Po (a (e::E)) (λE=>Po (b E) N C R X) C R X:=vj8
theorem w_asg:Po (jW i c (e::E)) N C R X=Eo (c (e::E)) (λE x=>N (E.set i (some x))) X:=by unfold jW;rw[Qk];with_unfolding_all rfl
theorem w_ret:Po (jK c (e::E)) N C R X=Eo (c (e::E)) (λ_ x=>R x) X:=by unfold jK;rw[Qk];with_unfolding_all rfl
theorem w_pass:Po (k9 (e::E)) N C R X=N (e::E):=nd (by with_unfolding_all rfl)
theorem w_if{a b:Sm}:Po (sIf t a b (e::E)) N C R X=Eo (t (e::E)) (λE k=>if k=true then Po (a E) N C R X else Po (b E) N C R X) X:=by
 unfold sIf;rw[Qk];congr 1;funext E k;cases k<;>with_unfolding_all rfl
theorem w_tup{is:List Nat}:Po (vqe is c (e::E)) N C R X=Eo (c (e::E)) (λE x=>Vo (Tg.put (.t is) x.2 E) N) X:=by
 unfold vqe;rw[Qk];congr 1;funext E x;rw[vj9];with_unfolding_all rfl
theorem w_vV:Eo (vV i (e::E)) P X=Wo (sl (e::E)[i]?) (e::E) P:=by
 unfold vV Wo;cases(e::E)[i]? with
 |none=>with_unfolding_all rfl
 |some q=>cases q<;>with_unfolding_all rfl
theorem w_cV:Eo (cV i (e::E)) P X=Wo (sl (e::E)[i]?) (e::E) (λE x=>P (E.set i (some (.no,x.2))) (.no,x.2)):=by
 unfold cV Wo;cases(e::E)[i]? with
 |none=>with_unfolding_all rfl
 |some q=>cases q<;>with_unfolding_all rfl
theorem w_cMv:Eo (cMv i (e::E)) P X=Wo (sl (e::E)[i]?) (e::E) (λE x=>P (E.set i none) x):=by
 unfold cMv Wo;cases(e::E)[i]? with
 |none=>with_unfolding_all rfl
 |some q=>cases q<;>with_unfolding_all rfl
theorem w_cC{d:D}:Eo (cC d (e::E)) P X=P (e::E) (.dp,d):=nd (by with_unfolding_all rfl)
theorem w_vE:Eo (vE c (e::E)) P X=Eo (c (e::E)) (λE x=>P E (.no,x.2)) X:=by unfold vE;rw[k6];with_unfolding_all rfl
theorem w_cH:Eo (cH c (e::E)) P X=Eo (c (e::E)) (λE x=>if x.1=.no then P E (.no,x.2)else if x.2.pure=true then P E (.dp,x.2)else False) X:=by
 unfold cH;rw[k6]
 congr 1
 funext E x
 by_cases h:x.1=.no
 ·rw[X9 h,X9 h];with_unfolding_all rfl
 ·rw[Xg h,Xg h]
  by_cases h2:x.2.pure=true
  ·rw[X9 h2,X9 h2];with_unfolding_all rfl
  ·rw[Xg h2,Xg h2];with_unfolding_all rfl
theorem w_f1{f:Sd->Option Sd}:Eo (cF1 f a (e::E)) P X=Eo (a (e::E)) (λE x=>Wo (f x) E P) X:=by
 unfold cF1;rw[k6];congr 1;funext E x;exact wV
theorem w_f2{f:Sd->Sd->Option Sd}:Eo (cF2 f a b (e::E)) P X=Eo (a (e::E)) (λE x=>Eo (b E) (λE y=>Wo (f x y) E P) X) X:=by
 unfold cF2;rw[k6];congr 1;funext E x;rw[k6];congr 1;funext E y;exact wV
theorem w_ix:Eo (qJ a b (e::E)) P X=Eo (a (e::E)) (λE x=>Eo (b E) (λE y=>Wo (qZ x.2 y.2) E (λE d=>P E (sub x.1,d))) X) X:=by
 unfold qJ;rw[k6];congr 1;funext E x;rw[k6];congr 1;funext E y;rw[wV];exact vo_map
theorem w_tE:Eo (tE c (e::E)) T X=Eo (c (e::E)) (λE x=>Wo (truth x.2) E T) X:=by
 unfold tE;rw[k6];congr 1;funext E x;exact wV
theorem w_tEQ:Eo (tEQ c (e::E)) T X=Eo (c (e::E)) (λE x=>Wo (truthQ x.2) E T) X:=by
 unfold tEQ;rw[k6];congr 1;funext E x;exact wV
theorem w_tNot:Eo (tNot t (e::E)) T X=Eo (t (e::E)) (λE k=>T E (!k)) X:=by unfold tNot;rw[k6];with_unfolding_all rfl
theorem w_tAnd:Eo (tAnd t u (e::E)) T X=Eo (t (e::E)) (λE k=>if k=true then Eo (u E) T X else T E false) X:=by
 unfold tAnd;rw[k6];congr 1;funext E k;cases k<;>with_unfolding_all rfl
theorem w_tOr:Eo (tOr t u (e::E)) T X=Eo (t (e::E)) (λE k=>if k=true then T E true else Eo (u E) T X) X:=by
 unfold tOr;rw[k6];congr 1;funext E k;cases k<;>with_unfolding_all rfl
theorem w_tYes:Eo (tYes (e::E)) T X=T (e::E) true:=nd (by with_unfolding_all rfl)
theorem w_cIf:Eo (cIf t a b (e::E)) P X=Eo (t (e::E)) (λE k=>if k=true then Eo (a E) P X else Eo (b E) P X) X:=by
 unfold cIf;rw[k6];congr 1;funext E k;cases k<;>with_unfolding_all rfl
theorem w_cAnd:Eo (z5 a b (e::E)) P X=Eo (a (e::E)) (λE x=>ZY x.2 (Eo (b E) P X) (P E (.dp,.bl false))) X:=by
 rw[qx9,k6];congr 1;funext E x;cases x.2 with
 |bl k=>cases k<;>with_unfolding_all rfl
 |_=>with_unfolding_all rfl
theorem w_cOr:Eo (cOr a b (e::E)) P X=Eo (a (e::E)) (λE x=>ZY x.2 (P E (.dp,.bl true)) (Eo (b E) P X)) X:=by
 rw[vkv,k6];congr 1;funext E x;cases x.2 with
 |bl k=>cases k<;>with_unfolding_all rfl
 |_=>with_unfolding_all rfl
theorem w_cNotQ:Eo (KW c (e::E)) P X=Eo (c (e::E)) (λE x=>Wo (truthQ x.2) E (λE k=>P E (.dp,.bl (!k)))) X:=by
 unfold KW;rw[k6];congr 1;funext E x;rw[wV];exact vo_map
theorem w_call{f:Fn}{cs:List Ex}:Eo (jY f cs (e::E)) P X=Eo (qz cs (e::E)) (λE xs=>Oe f (letAll xs) E P X) X:=by with_unfolding_all exact qx4
theorem w_partN{P:En->Option Int->Prop}:Eo (Kv none (e::E)) P X=P (e::E) none:=nd (by with_unfolding_all rfl)
theorem w_partS{P:En->Option Int->Prop}:Eo (Kv (some c) (e::E)) P X=Eo (c (e::E)) (λE x=>Ie x.2 E (λE i=>P E (some i))) X:=by
 show Eo (bnd (c (e::E)) _) P X=_;rw[k6];congr 1;funext E x;unfold Ie;cases x.2<;>with_unfolding_all rfl
theorem w_sl{lo hi:Option Ex}:Eo (cSl a lo hi (e::E)) P X=Eo (a (e::E)) (λE x=>Eo (Kv lo E) (λE l=>Eo (Kv hi E) (λE h=>Wo (fSl x l h) E P) X) X) X:=by
 unfold cSl;rw[k6];congr 1;funext E x;rw[k6];congr 1;funext E l;rw[k6];congr 1;funext E h;exact wV
theorem w_itS{P:En->List D->Prop}:Eo (itS c (e::E)) P X=Eo (c (e::E)) (λE x=>Wo (seqOf x.2) E P) X:=by
 unfold itS;rw[k6]
 congr 1
 funext E x;exact wV
end
theorem args_nil{e:Option Sd}{E:En}{P:En->List Sd->Prop}{X:XP}:Eo (qz [] (e::E)) P X=P (e::E) []:=nd (by with_unfolding_all rfl)
theorem args_cons{e:Option Sd}{E:En}{c:Ex}{cs:List Ex}{P:En->List Sd->Prop}{X:XP}:Eo (qz (c::cs) (e::E)) P X=Eo (c (e::E)) (λE x=>Eo (qz cs E) (λE xs=>P E (x::xs)) X) X:=by
 show Eo (bnd (c (e::E)) λE x=>bnd (qz cs E) λE xs=>some (.ok E (x::xs))) P X=_;rw[k6]
 congr 1
 funext E x;rw[k6]
 with_unfolding_all rfl
theorem eo_tup{e:Option Sd}{E:En}{cs:List Ex}{P:En->Sd->Prop}{X:XP}:Eo (K7 .no cs (e::E)) P X=Eo (qz cs (e::E)) (λE xs=>P E (.no,.tup (xs.map (·.2)))) X:=by
 unfold K7;rw[k6]
 with_unfolding_all rfl
theorem eo_lst{e:Option Sd}{E:En}{cs:List Ex}{P:En->Sd->Prop}{X:XP}:Eo (xQ .rt cs (e::E)) P X=Eo (qz cs (e::E)) (λE xs=>P E (.rt,.lst (xs.map (·.2)))) X:=by
 unfold xQ;rw[k6]
 with_unfolding_all rfl
theorem vky{i:Nat}{c:Ex}{E:En}{o:Own}{xs:List D}{N C:En->Prop}{R:Sd->Prop}{X:XP}(h0:E[i]?=some (some (o,.lst xs)))
  (h:Eo (c E) (λE1 x=>∃o ys,E1[i]?=some (some (o,.lst ys))/\o≠.no/\ys.length<10000/\N (E1.set i (some (if o=.dp/\vK x then .dp else .rt,.lst (ys++[x.2]))))) X):Po (zq xX i c E) N C R X:=by
 unfold zq;rw[h0,X9 (show qwx (some (some (o,.lst xs)))=true from rfl),Qk];refine h.mono ?_;rintro E1 x ⟨o,ys,h1,h2,h3,h4⟩;rw[h1];dsimp only;have hg:xX ys x.2=some (ys++[x.2]):=by unfold xX;rw[X9 (by unfold big;omega)]
 rw[Xg h2,hg]
 with_unfolding_all exact h4
theorem qv0{i:Nat}{c:Ex}{E:En}{xs:List D}{N C:En->Prop}{R:Sd->Prop}{X:XP}(h0:E[i]?=some (some (.rt,.lst xs)))
  (h:Eo (c E) (λE1 x=>∃ys,E1[i]?=some (some (.rt,.lst ys))/\ys.length<10000/\N (E1.set i (some (.rt,.lst (ys++[x.2]))))) X):Po (zq xX i c E) N C R X:=
 vky h0 (h.mono λE1 x ⟨ys,h1,h2,h3⟩=>⟨.rt,ys,h1,by decide,h2,by rw[Xg (by rintro ⟨z,_⟩;cases z)];with_unfolding_all exact h3⟩)
theorem rng_ok{n:Int}(h1:-1000<=n)(h2:n<=1000):(KK n=true/\n.toNat<=big)=True:=by
 have:KK n=true:=by unfold KK;rw[X5 (by omega),X5 (by omega)];with_unfolding_all rfl
 with_unfolding_all exact eq_true ⟨this,by unfold big;omega⟩
theorem kzf{α:Type}{p:Prop}[Decidable p]{a:Option (Res α)}{P:En->α->Prop}{X:XP}:Eo (if p then a else none) P X=(p/\Eo a P X):=by
 by_cases h:p
 ·rw[X9 h];with_unfolding_all exact propext ⟨λz=>⟨h,z⟩,λz=>z.2⟩
 ·rw[Xg h];with_unfolding_all exact propext ⟨λz=>z.elim,λz=>h z.1⟩
theorem w_R1{c:Ex}{e:Option Sd}{E:En}{P:En->List D->Prop}{X:XP}:Eo (xK c (e::E)) P X=Eo (c (e::E)) (λE x=>Ie x.2 E λE n=>(KK n=true/\n.toNat<=big)/\P E (q9 0 n)) X:=by
 unfold xK;rw[k6];congr 1;funext E x;cases x.2 with
 |int n=>with_unfolding_all exact kzf
 |_=>with_unfolding_all rfl
theorem qz8{o:Own}{xs:List D}{lo hi:Option Int}(h:o≠.dp):fSl (o,.lst xs) lo hi=some (.rt,.lst (J5 xs lo hi)):=by
 show(if v7 (o,.lst xs)then _ else _)=_;rw[X9 (by cases o<;>simp_all [v7])]
theorem sub_no:sub .no=.no:=nd (by with_unfolding_all rfl)
theorem sub_rt:sub .rt=.no:=nd (by with_unfolding_all rfl)
theorem sub_dp:sub .dp=.dp:=nd (by with_unfolding_all rfl)
theorem Oo.use{ι:Sort _}{f:Fn}{xs:List Sd}{g:ι->Sd}{S:ι->Prop}{E:En}{P:En->Sd->Prop}{X:XP}(h:Oo f xs (λy=>∃i,y=g i/\S i) X)(k:∀i,S i->P E (g i)):Oe f xs E P X:=h.mono λy ⟨i,e,s⟩=>e▸k i s
theorem zW{E:En}{ys:List Sd}{P:En->Sd->Prop}{X:XP}:Eo (mkL .rt E ys) P X=P E (.rt,.lst (ys.map (·.2))):=nd (by with_unfolding_all rfl)
theorem w_zip{c d:Ex}{e:Option Sd}{E:En}{P:En->List D->Prop}{X:XP}:Eo (qkd c d (e::E)) P X=Eo (c (e::E)) (λE x=>Eo (d E) (λE y=>Wo ((lstOf x.2).bind λxs=>(lstOf y.2).bind λys=>if xs.length<=big then some (qY xs ys)else none) E P) X) X:=by
 unfold qkd;rw[k6];congr 1;funext E x;rw[k6];congr 1;funext E y;exact wV
theorem w_chain{f g:D->D->Option D}{a b c:Ex}{e:Option Sd}{E:En}{P:En->Sd->Prop}{X:XP}:Eo (Kz f g a b c (e::E)) P X=Eo (a (e::E)) (λE x=>Eo (b E) (λE y=>Wo (f x.2 y.2) E λE d=>ZY d (Eo (c E) (λE z=>Wo (g y.2 z.2) E λE d=>P E (.dp,d)) X) (P E (.dp,.bl false))) X) X:=by
 unfold Kz;rw [k6]
 congr 1
 funext E x;rw [k6]
 congr 1
 funext E y;cases f x.2 y.2 with
 | none=>with_unfolding_all rfl
 | some d=>
  rw[wo_some];cases d with
  | bl k=>
   rw[andP_bl];cases k with
   |false=>with_unfolding_all rfl
   |true=>
    rw[X9 rfl];dsimp only;rw[k6]
    congr 1
    funext E z;rw[wV];exact vo_map
  |_=>with_unfolding_all rfl
theorem w_rz{c:Str}{e:Option Sd}{E:En}{N C:En->Prop}{R:Sd->Prop}{X:XP}:Po (sRz c (e::E)) N C R X=X c:=nd (by with_unfolding_all rfl)
def Ox(f:Fn)(xs:List Sd)(E:En)(P:En->Sd->Prop)(Y:En->Str->Prop):Prop:=Oo f xs (P E) (Y E)
theorem Oo.ox{f:Fn}{xs:List Sd}{S:Sd->Prop}{W:XP}{E:En}{P:En->Sd->Prop}{Y:En->Str->Prop}(h:Oo f xs S W)(k:∀y,S y->P E y)(l:∀c,W c->Y E c):Ox f xs E P Y:=by
 unfold Ox Oo at *;cases hf:f xs with
 |none=>rw[hf]at h;with_unfolding_all exact h
 |some r=>rw[hf]at h;cases r with
  |ok E a=>with_unfolding_all exact k a h
  |exc E c=>with_unfolding_all exact l c h
theorem vja{i:Nat}{m:Option Fl}{N C:En->Prop}{R:Sd->Prop}{X:XP}:Po (qq3 i m) N C R X=Po m (λE=>N (E.set i none)) (λE=>C (E.set i none)) R noX:=by
 cases m with
 |none=>with_unfolding_all rfl
 |some r=>cases r<;>with_unfolding_all rfl
theorem w_tryE{cs:List Str}{i:Nat}{f:Fn}{as:List Ex}{h:Sm}{e:Option Sd}{E:En}{N C:En->Prop}{R:Sd->Prop}{X:XP}:Po (z6 cs i (Zj (QJ f as)) h (e::E)) N C R X =
  Eo (qz as (e::E)) (λE xs=>Ox f (letAll xs) E (λE _=>N E) (λE c=>c∈cs/\Po (h (E.set i (some (.no,.obj c [])))) (λE=>N (E.set i none)) (λE=>C (E.set i none)) R noX)) noX:=by
 unfold z6 Zj QJ;cases qz as (e::E)with
 | none=>with_unfolding_all rfl
 | some r=>
  cases r with
  | exc E1 c=>with_unfolding_all rfl
  | ok E1 xs=>
   rw [qx2];unfold Ox Oo;dsimp only;cases f (letAll xs)with
   | none=>with_unfolding_all rfl
   | some r=>
    cases r with
    | ok E2 y=>with_unfolding_all rfl
    | exc E2 c=>
     dsimp only[ofE]
     by_cases hc:c∈cs
     ·rw[X9 hc,vja]
      with_unfolding_all exact propext ⟨λz=>⟨hc,z⟩,λz=>z.2⟩
     ·rw[Xg hc]
      with_unfolding_all exact propext ⟨λz=>(show False from z).elim,λz=>absurd z.1 hc⟩
theorem qqm{t:List (Str×Bool)}{c:Str}{k:Bool}{fs:List (Str×D)}(h:t.lookup c=some k):vZ t (.obj c fs)=some (.bl k):=by unfold vZ;dsimp only;rw[h];rfl
theorem Oo.any{f:Fn}{xs:List Sd}{P:Sd->Prop}{X:XP}(h:Oo f xs P noX):Oo f xs P X:=by
 unfold Oo at *;cases hf:f xs with
 |none=>rw[hf]at h;with_unfolding_all exact h
 |some r=>rw[hf]at h;cases r with
  |ok E a=>with_unfolding_all exact h
  |exc E c=>with_unfolding_all exact(show False from h).elim
section
variable {a b c kc vc:Ex}{e:Option Sd}{E:En}{X:XP}{N C:En->Prop}{R:Sd->Prop}{P:En->Sd->Prop}
theorem kwd{z:Str}:Eo (K4 z c (e::E)) P X=Eo (c (e::E)) (λE x=>Wo (Jv z x.2) E (λE d=>P E (.dp,d))) X:=by
 unfold K4;rw[k6];congr 1;funext E x;rw[wV];exact vo_map
end
section
variable {a b c kc vc:Ex}{e:Option Sd}{E:En}{X:XP}{N C:En->Prop}{R:Sd->Prop}{P:En->Sd->Prop}
theorem qxo:Eo (Yx a b (e::E)) P X=Eo (a (e::E)) (λE x=>Zv x.2=true/\Eo (b E) (λE y=>Wo (VX x.2 y.2) E (λE d=>P E (.dp,d))) X) X:=by
 unfold Yx;rw[k6];congr 1;funext E x;rw[kzf];congr 1;rw[k6];congr 1;funext E y;rw[wV];exact vo_map
end
end Q
local macro_rules
 | `(tactic| simp![$ts,*])=>`(tactic| simp(config:={ maxSteps:=1000000,failIfUnchanged:=false,implicitDefEqProofs:=true }) (disch:=omega) only[↓Q.w_seq,↓Q.w_asg,↓Q.w_ret,↓Q.w_pass,↓Q.w_if,↓Q.w_tup,↓Q.w_vV,↓Q.w_cV,↓Q.w_cMv,↓Q.w_cC,↓Q.w_vE,↓Q.w_cH,↓Q.w_f1,↓Q.w_f2,↓Q.w_ix,↓Q.w_tE,↓Q.w_tEQ,↓Q.w_tNot,↓Q.w_tAnd,↓Q.w_tOr,↓Q.w_tYes,↓Q.w_cIf,↓Q.w_cAnd,↓Q.w_cOr,↓Q.w_cNotQ,↓Q.w_call,↓Q.w_partN,↓Q.w_partS,↓Q.w_sl,↓Q.w_itS,↓Q.w_zip,↓Q.w_chain,↓Q.w_rz,↓Q.w_tryE,↓Q.w_R1,Q.rng_ok,true_and,↓Q.ie_i,Q.isSq,Q.sl_some,↓Q.andP_bl,↓Q.vo_some,↓Q.vo_map,↓Q.wo_some,↓Q.wo_map,↓Q.args_nil,↓Q.args_cons,↓Q.eo_tup,↓Q.eo_lst,Q.letAll,Q.pu2,Q.pu1,Q.f2First,Q.fIsNon,Q.fNotNon,Q.isNon,List.map_cons,List.map_nil,List.cons_append,List.nil_append,Xj,List.length_nil,X7,Nat.reduceAdd,Nat.reduceSub,List.replicate,List.set_cons_zero,List.set_cons_succ,List.getElem?_cons_zero,List.getElem?_cons_succ,Q.len_l,Q.len_t,Q.lt_ii,Q.gt_ii,Q.le_ii,Q.ge_ii,Q.add_i,Q.sub_i,Q.div_i,Q.mod_i,Q.pow_i,Q.mulT_i,Q.mul_l,Option.map_some,Q.truth,Q.truthQ,Q.D.pure,↓reduceIte,if_true,if_false,ite_true,ite_false,Q.sub_no,Q.sub_rt,Q.sub_dp,Bool.false_eq_true,reduceCtorEq,Bool.not_true,Bool.not_false,Q.Tg.put,Q.setAll,Q.seqOf,Q.lstOf,$ts,*])
namespace C
open Q PySem
abbrev most:Int:=1000*10 ^ 64
abbrev iL(ns:List Int):D:=.lst (ns.map D.int)
def Each(G:D->Sd->Prop):List D->List Sd->Prop
 |[],[]=>True
 |d::ds,y::ys=>G d y/\Each G ds ys
 |_,_=>False
theorem Each.snoc{G:D->Sd->Prop}{d:D}{y:Sd}(h:G d y):∀{ds:List D} {ys:List Sd},Each G ds ys->Each G (ds++[d]) (ys++[y])
 |[],[],_=>⟨h,trivial⟩
 |_::_,_::_,r=>⟨r.1,Each.snoc h r.2⟩
theorem K8{X:XP}{E:En}{o:Own}{r:List Nat}{it:Ev (List D)}{c:Ex}{P:En->Sd->Prop}(jv:En)(G:D->Sd->Prop)(h0:Eo (it E) (λE1 ds=>r.map (at' E1)=jv/\(∀d∈ds,Eo (c (some (.no,d)::jv)) (λB y=>(∃q,B=q::jv)/\G d y) X)/\∀ys,Each G ds ys->Eo (mkL o (back r jv (clr r E1)) ys) P X) X):Eo (cLC o 1 r it (.n 0) tYes c E) P X:=by
 refine qx3 (λE1 B ds2 ay=>∃ds ds1 q,ds=ds1++ds2/\B=q::jv/\Each G ds1 ay/\(∀d∈ds,Eo (c (some (.no,d)::jv)) (λB y=>(∃q,B=q::jv)/\G d y) X)/\∀ys,Each G ds ys->Eo (mkL o (back r jv (clr r E1)) ys) P X) ?_ ?_ ?_
 ·refine h0.mono λE1 ds ⟨h1,h2,h3⟩=>⟨ds,[],none,rfl,by rw[<-h1];rfl,trivial,h2,h3⟩
 ·rintro E1 B d ds2 ay ⟨ds,ds1,q,e,rfl,hE,h2,h3⟩;have hp:(Tg.n 0).put d (q::jv)=some (some (.no,d)::jv):=rfl;rw[hp,vo_some,show tYes (some (Own.no,d)::jv)=some (.ok (some (Own.no,d)::jv) true)from rfl,qx2,X9 rfl];refine(h2 d (by rw[e];simp)).mono ?_;rintro B y ⟨⟨q',rfl⟩,hG⟩;exact⟨ds,ds1++[d],q',by rw[e];simp,rfl,hE.snoc hG,h2,h3⟩
 ·rintro E1 B ay ⟨ds,ds1,q,e,rfl,hE,h2,h3⟩;rw[Xs]at e;subst e;exact h3 ay hE
theorem kwq{n:Int}:q9 n n=[]:=by unfold q9;rw[Int.sub_self];rfl
theorem jz8{k n:Int}(h:k<n):q9 k n=.int k::q9 (k+1) n:=by
 unfold q9;have:(n - k).toNat=(n - (k+1)).toNat+1:=by
  obtain⟨m,hm⟩:=Int.eq_ofNat_of_zero_le (show 0<=n - (k+1)by omega);rw[hm,show n - k=(m+1:Nat)by omega];rfl
 rw[this,List.range_succ_eq_map,List.map_cons,Yb]
 congr 1
 ·simp
 ·apply List.map_congr_left;intro i _;simp only[Function.comp]
  congr 1
  omega
theorem kwp{k n:Int}{d:D}{ds:List D}(hk:k<=n)(h:d::ds=q9 k n):k<n/\d=.int k/\ds=q9 (k+1) n:=by
 by_cases hl:k<n
 ·rw[jz8 hl]at h;injection h with h1 h2;exact⟨hl,h1,h2⟩
 ·have:k=n:=by omega
  subst this;rw[kwq]at h;cases h
theorem kwr{k n:Int}(hk:k<=n)(h:[]=q9 k n):k=n:=by
 by_cases hl:k<n
 ·rw[jz8 hl]at h;cases h
 ·omega
theorem ZX{k n:Int}{d:D}(h:d∈q9 k n):∃i:Int,k<=i/\i<n/\d=.int i:=by
 unfold q9 at h;obtain⟨j,hj,rfl⟩:=List.mem_map.mp h;have:=List.mem_range.mp hj;exact⟨k+j,by omega,by omega,rfl⟩
theorem kxq{k n:Int}(h:k<=n):((q9 k n).length:Int)=n - k:=by
 unfold q9;rw[X7,List.length_range];omega
def Nm(i:Int):Prop:=-(10 ^ 60)<i/\i<10 ^ 60
theorem Q4{o1 o2:Own}{a b:Str}(h:a.cps.size+b.cps.size<=10000):jJ (o1,.str a) (o2,.str b)=some (.dp,.str (a++b)):=by
 show(if a.cps.size+b.cps.size<=big then _ else _)=_;rw[X9 (by unfold big;omega)]
theorem qV(a b:Str):(a++b).cps.size=a.cps.size+b.cps.size:=by
 show(a.cps++b.cps).size=_;exact Array.size_append
theorem kkp:∀(ss:List Str),zj (ss.map D.str)=some ss
 |[]=>rfl
 |s::ss=>by rw[List.map_cons,zj,kkp ss];rfl
abbrev sL(ss:List Str):D:=.lst (ss.map D.str)
def Gd(n:Int)(g:D):Prop:=g=.str "fresh"\/g=.str "any"\/∃i:Int,0<=i/\i<n/\g=.int i
def Fd(n:Int)(g:D):Prop:=g=.str "new"\/g=.non\/∃i:Int,0<=i/\i<n/\g=.int i
noncomputable def St(own:Int)(d:D):Prop:=∃(z:Str) (g:D) (to:Int) (fs:List D),d=.tup [.str z,g,.int to,.tup fs]/\Gd own g/\(∀f∈fs,Fd own f)/\fs.length<=3
noncomputable def Rm(d:D):Prop:=∃(kp:Int) (gd:Bool) (ss:List D),d=.tup [.int kp,.bl gd,.lst ss]/\0<=kp/\kp<=3/\(∀s∈ss,St kp s)/\ss.length<=14
def Rms(rs:List D):Prop:=1<=rs.length/\rs.length<=4/\∀r∈rs,Rm r
def Rmw(rs:List D):Prop:=1<=rs.length/\rs.length<=12/\∀r∈rs,Rm r
instance {rs:List D}:Coe (Rms rs) (Rmw rs):=⟨λh=>⟨h.1,by have:=h.2.1;omega,h.2.2⟩⟩
noncomputable def Sx(sgs:List Str)(dg:List Int)(d:D):Prop:=∃(z:Str) (g:D) (to:Int) (fs:List D),d=.tup [.str z,g,.int to,.tup fs]/\z∈sgs/\0<=to/\to<dg.length/\(fs.length:Int)=dg.getD to.toNat 0
def At(d:D):Prop:=d=.non\/∃i,d=.int i
mutual
theorem WX:∀{n:Nat} (d:D),d.flat n=true->peq d d=true
 |n,.non,_=>by simp[peq]
 |n,.bl b,_=>by simp[peq]
 |n,.int b,_=>by simp[peq]
 |n,.str b,_=>by simp[peq]
 |0,.tup xs,h=>by simp[D.flat]at h
 |0,.lst xs,h=>by simp[D.flat]at h
 |n+1,.tup xs,h=>by rw[peq];exact peqs_refl xs (by simpa [D.flat]using h)
 |n+1,.lst xs,h=>by rw[peq];exact peqs_refl xs (by simpa [D.flat]using h)
 |n,.dct _,h=>by cases n<;>simp[D.flat]at h
 |n,.obj _ _,h=>by cases n<;>simp[D.flat]at h
theorem peqs_refl:∀{n:Nat} (ds:List D),D.flats n ds=true->peqs ds ds=true
 |_,[],_=>by simp[peqs]
 |n,d::ds,h=>by
  rw[D.flats,Bool.and_eq_true]at h;rw[peqs,WX d h.1,peqs_refl ds h.2];rfl
end
theorem qwi{d:D}(h:d.flat 40=true):fNe d d=some (.bl false):=by unfold fNe;rw[h,WX d h];rfl
noncomputable def fitB(ks:List D)(d g:D):Bool:=match g with
 |.int i=>peq (ks.getD i.toNat .non) d
 |.str s=>if s="fresh" then !ks.any λz=>peq z d else true
 |_=>true
theorem p0(a b:D):qZ (.tup [a,b]) (.int 0)=some a:=rfl
theorem p1(a b:D):qZ (.tup [a,b]) (.int 1)=some b:=rfl
theorem t0(a b c:D):qZ (.tup [a,b,c]) (.int 0)=some a:=rfl
theorem t1(a b c:D):qZ (.tup [a,b,c]) (.int 1)=some b:=rfl
theorem t2(a b c:D):qZ (.tup [a,b,c]) (.int 2)=some c:=rfl
def vkg(ks:List D)(d f:D):D:=match f with
 |.int i=>ks.getD i.toNat .non
 |.str _=>d
 |_=>.non
theorem kj7{G:D->Sd->Prop}{h:D->D}(hG:∀d y,G d y->y.2=h d):∀{ds:List D} {ys:List Sd},Each G ds ys->ys.map (·.2)=ds.map h
 |[],[],_=>rfl
 |d::ds,y::ys,r=>by rw[List.map_cons,List.map_cons,hG d y r.1,kj7 hG r.2]
abbrev Z2(ss:List Str)(rs:List D):D:=.tup [sL ss,.lst rs]
def vw8(z:Str)(ks:List D)(d s:D):Bool:=match s with
 |.tup [.str w,g,_,_]=>(w==z)&&fitB ks d g
 |_=>false
noncomputable def Wv(p:D->Bool):Nat->List D->List D
 |_,[]=>[]
 |k,s::r=>if p s=true then .int k::Wv p (k+1) r else Wv p (k+1) r
def qj2(ks:List D)(d s:D):D:=match s with
 |.tup [_,_,to,.tup fs]=>.tup [to,.tup (fs.map (vkg ks d))]
 |_=>.non
def wr(x:Int):Int:=if x<=0 then x else x - 10 ^ 60
def bnd1(own k:Int):Int:=own+(if k=own then 1 else 0)
noncomputable def Cs(dg:List Int)(b:Int)(c:D):Prop:=c=.non\/∃(to:Int) (fs:List Int),c=.tup [.int to,.tup (fs.map D.int)]/\0<=to/\to<dg.length/\(∀f∈fs,0<=f/\f<b)/\fs.Nodup/\(fs.length:Int)=dg.getD to.toNat 0
abbrev iT(ks:List Int):D:=.tup (ks.map D.int)
def vjy(ks:List Int)(p:Int)(f:Int):Int:=(ks++[p]).getD f.toNat 0
noncomputable def vwa(ks:List Int)(p:Int)(c:D):D:=match c with
 |.tup [to,.tup fs]=>.tup [to,.tup (fs.map λf=>match f with|.int i=>.int (vjy ks p i)|_=>.non)]
 |_=>.non
noncomputable def vku(ss:List Str)(st:List D)(ks:List Int)(z:Str)(p:Int):D:=match st[ss.findIdx λw=>w==z]? with
 |some (.lst cs)=>cs.getD (ks.findIdx λw=>w==p) .non
 |_=>.non
noncomputable def qzc(ss:List Str)(st:List D)(ks:List Int)(z:Str)(p:Int):D:=if(ss.any λw=>w==z)=true then vwa ks p (vku ss st ks z p)else .non
noncomputable def Cas(dg:List Int)(n:Nat)(own:Int)(st:List D):Prop:=st.length=n/\∀c∈st,∃cs:List D,c=.lst cs/\(cs.length:Int)=own+1/\∀k:Nat,k<cs.length->∃z,cs[k]?=some z/\Cs dg (bnd1 own k) z
inductive DR1 (ns:List Int)(k:Int):En->List D->Prop
 |mk (x:Int) (f:Int) (j:Int) {o3:Own} {o4:Own} {l5:Option Sd} {jv:List D} (h0:0<=x) (h1:x<10000000000) (h2:0<=j) (h3:j<=8) (h4:jv=q9 j 8):DR1 ns k [some (.no,iL ns),some (.no,.int k),some (.dp,.int most),some (o3,.int x),some (o4,.int f),l5] jv
noncomputable def Go(rs:List D)(s:D)(w:Str×Int)(k:Nat)(s':D):Prop:=∃(b7:Int) (ks st:List D) (gd:D),s=.tup [.int b7,.tup ks]/\0<=b7/\rs[b7.toNat]?=some (.tup [.int ks.length,gd,.lst st])/\(∀s∈st,St ks.length s)/\(∀k∈ks,At k)/\∃h:k<st.length,D.int k∈Wv (vw8 w.1 ks (.int w.2)) 0 st/\s'=qj2 ks (.int w.2) st[k]
abbrev Lg:=List ((Str×Int)×Nat)
def vq8(rs:List D):D->Lg->D->Prop
 |s,[],s'=>s=s'
 |s,x::r,s'=>∃m,Go rs s x.1 x.2 m/\vq8 rs m r s'
abbrev vwk(L:Lg):List D:=L.map λx=>.int x.2
end C
namespace C
open Q PySem
noncomputable def Rd(dg:List Int)(ss:List Str)(rs:List D)(s:D)(w:Str×Int)(s':D):Prop:=(s=.non/\s'=.non)\/∃(b7:Int) (ks:List Int) (st:List D) (kp gd:D),s=.tup [.int b7,iT ks]/\0<=b7/\rs[b7.toNat]?=some (.tup [kp,gd,.lst st])/\Cas dg ss.length ks.length st/\ks.length<=3/\s'=qzc ss st ks w.1 w.2
noncomputable def vki(rs:List D)(s:D):Bool:=match s with
 |.tup [.int b7,_]=>(match rs[b7.toNat]? with
  |some (.tup [_,.bl b,_])=>b
  |_=>false)
 |_=>false
end C
namespace C
open Q PySem
noncomputable section
def J6(K:List D)(d:D):List D:=if d∈K then K else K++[d]
def Qw:D->List D
 |.tup [_,.tup ks]=>ks
 |_=>[]
noncomputable def vwn(rs:List D):D->List D
 |.tup [.int r,_]=>(match rs.getD r.toNat .non with
  |.tup [_,_,.lst st]=>st
  |_=>[])
 |_=>[]
noncomputable def vvy(rs:List D):D->Bool
 |.tup [.int r,_]=>(match rs.getD r.toNat .non with
  |.tup [_,.bl b,_]=>b
  |_=>false)
 |_=>false
def bh(ks st:List D)(p:Int):D->D
 |.int k=>qj2 ks (.int p) (st.getD k.toNat .non)
 |_=>.non
noncomputable def Zx(rs:List D)(w:Str×Int)(s:D):List D:=(Wv (vw8 w.1 (Qw s) (.int w.2)) 0 (vwn rs s)).map (bh (Qw s) (vwn rs s) w.2)
def vqw(rs:List D)(w:Str×Int)(K:List D):List D:=(K.flatMap (Zx rs w)).foldl J6 []
def vwo(rs:List D):List (Str×Int)->List D->List D
 |[],K=>K
 |w::ws,K=>vwo rs ws (vqw rs w K)
end
noncomputable def SokV(dg:List Int)(V:List D)(s:D):Prop:=∃(b7:Int) (ks:List D),s=.tup [.int b7,.tup ks]/\0<=b7/\b7<dg.length/\(ks.length:Int)=dg.getD b7.toNat 0/\(∀k∈ks,At k)/\∀k∈ks,k∈V
def Kin(dg:List Int)(V K:List D):Prop:=K.Nodup/\∀s∈K,SokV dg V s
abbrev Kvs:=List (D×D)
abbrev Lws:=List (Str×Int)
noncomputable def Wd(rs:List D)(s0:D)(pre:List (Str×Int))(ax:List (D×D)):Prop:=∀e∈ax,∃L:Lg,e.2=.lst (vwk L)/\L.map (·.1)=pre/\vq8 rs s0 L e.1
inductive WO1 (ss:List Str)(rs V:List D)(dg:List Int)(s0:D)(pre:Lws)(ax:Kvs)(z:Str)(p:Int):En->List D->Prop
 |mk (i0:Kvs) (lb:Kvs) (kv:Kvs) {l5:Option Sd} {l6:Option Sd} {l7:Option Sd} {l8:Option Sd} {jv:List D} (h0:jv=lb.map (λe=>D.tup [e.1,e.2])) (h1:ax=i0++lb) (h2:kv.map (·.1)=((i0.map (·.1)).flatMap (Zx rs (z,p))).foldl J6 []) (h3:Kin dg V (kv.map (·.1))) (h4:Wd rs s0 (pre++[(z,p)]) kv):WO1 ss rs V dg s0 pre ax z p [some (.no,Z2 ss rs),some (.no,.dct ax),some (.no,.str z),some (.no,.int p),some (.rt,.dct kv),l5,l6,l7,l8] jv
inductive WO2 (ss:List Str)(rs V:List D)(dg:List Int)(s0:D)(pre:Lws)(ax:Kvs)(z:Str)(p:Int)(b7:Int)(ks st:List D)(L:Lg)(i0:Kvs):En->List D->Prop
 |mk (f1:List D) (kv:Kvs) {l7:Option Sd} {l8:Option Sd} {jv:List D} (h0:Wv (vw8 z ks (.int p)) 0 st=f1++jv) (h1:kv.map (·.1)=(f1.map (bh ks st p)).foldl J6 (((i0.map (·.1)).flatMap (Zx rs (z,p))).foldl J6 [])) (h2:Kin dg V (kv.map (·.1))) (h3:Wd rs s0 (pre++[(z,p)]) kv):WO2 ss rs V dg s0 pre ax z p b7 ks st L i0 [some (.no,Z2 ss rs),some (.no,.dct ax),some (.no,.str z),some (.no,.int p),some (.rt,.dct kv),some (.no,.tup [.int b7,.tup ks]),some (.no,.lst (vwk L)),l7,l8] jv
abbrev rwD(ws:List (Str×Int)):List D:=ws.map λw=>.tup [.str w.1,.int w.2]
inductive WB1 (ss:List Str)(rs:List D)(s0:D)(ws:Lws):En->List D->Prop
 |mk (w1:Lws) (w2:Lws) (kv:Kvs) {l3:Option Sd} {l4:Option Sd} {jv:List D} (h0:jv=rwD w2) (h1:ws=w1++w2) (h2:kv.map (·.1)=vwo rs w1 [s0]) (h3:Wd rs s0 w1 kv):WB1 ss rs s0 ws [some (.no,Z2 ss rs),some (.no,.lst (rwD ws)),some (.rt,.dct kv),l3,l4,none,none] jv
inductive WB2 (ss:List Str)(rs:List D)(ws:Lws)(kv:Kvs):En->List D->Prop
 |mk (i0:Kvs) (lb:Kvs) {o2:Own} {l3:Option Sd} {l4:Option Sd} {l5:Option Sd} {l6:Option Sd} {jv:List D} (h0:jv=lb.map (λe=>D.tup [e.1,e.2])) (h1:kv=i0++lb) (h2:(i0.map (·.1)).any (vvy rs)=false):WB2 ss rs ws kv [some (.no,Z2 ss rs),some (.no,.lst (rwD ws)),some (o2,.dct kv),l3,l4,l5,l6] jv
noncomputable section
end
end C
namespace B
open Q PySem C
abbrev Sn:=Option (Int×List Int)
def nms:Sn->List Int
 |none=>[]
 |some p=>p.2
def rmO:Sn->Int
 |none=>-1
 |some p=>p.1
def vxd(o t:List Int):List Int:=o++t.filter λn=>!(o.any λw=>w==n)
noncomputable def vv0(t:List Int):Nat->List Int->List (Int×Int)
 |_,[]=>[]
 |k,n::o=>if(t.any λw=>w==n)=true then((k:Int),((t.findIdx λw=>w==n:Nat):Int))::vv0 t (k+1) o else vv0 t (k+1) o
abbrev prs(l:List (Int×Int)):List D:=l.map λp=>.tup [.int p.1,.int p.2]
def qw7(a b:Sn):D:=.tup [.int (rmO a),.int (rmO b),.tup (prs (vv0 (nms b) 0 (nms a)))]
theorem eqi{a b:Int}{k:Bool}(h:(a==b)=k):fEq (.int a) (.int b)=some (.bl k):=by rw[<-h];rfl
def qxy(b7:Int)(ks:List Int):Sn:=if b7=-1 then none else some (b7,ks)
noncomputable def nmF(own:Int)(kv:List (Int×Int)):Nat->List Int
 |0=>[]
 |n+1=>nmF own kv n++[match valI kv n with
  |some i=>i
  |none=>own+((nmF own kv n).filter λx=>decide (own<=x)).length]
def kvS(sh:List (Int×Int)):List (Int×Int):=(sh.map λp=>(p.2,p.1)).foldl (λkv p=>putI kv p.1 p.2) []
abbrev rngL(k:Int):List Int:=(List.range k.toNat).map λ(i:Nat)=>(i:Int)
def fst1(p k:Int):Sn:=qxy p (rngL k)
def fst2(q k k':Int)(sh:List (Int×Int)):Sn:=qxy q (nmF k (kvS sh) k'.toNat)
end B
namespace B
open PySem Q
noncomputable def m__law_cell_at:Fn:=fn 2
  (jq (sIf (tE (cF2 (pu2 fLt) (vV 1) (vE (cF1 (pu1 kz) (vV 0))))) (jK (cH (qJ (vV 0) (vV 1)))) k9)
  (jK (cC (.int 0))))
noncomputable def m__law_whole:Fn:=fn 1
  (jK (z5 (vE (cF1 (pu1 (vW "int")) (vV 0))) (KW (vE (cF1 (pu1 (vW "bool")) (vV 0))))))
end B
namespace B
open Q PySem C
def cellAt(ns:List Int)(k:Nat):Int:=ns.getD k 0
theorem cell_ok(ns:List Int)(k:Nat)(hn:ns.length<=10000):Oo m__law_cell_at [(.no,iL ns),(.no,.int k)] (λy=>∃o':Own,y=(o',.int (cellAt ns k))/\True) noX:=by
 unfold m__law_cell_at;refine vq ?_;simp![]
 by_cases h:(k:Int)<ns.length
 ·have hx:qZ (iL ns) (.int k)=some (.int (cellAt ns k)):=by
   refine vxb (by omega) ?_;unfold cellAt;rw[Int.toNat_natCast,Y6,X8 (by omega),List.getD_eq_getElem?_getD,X8 (by omega)];rfl
  have hd:decide ((k:Int)<ns.length)=true:=X5 h;rw[X9 hd];simp![hx];exact⟨_,rfl,trivial⟩
 ·have hd:¬decide ((k:Int)<ns.length)=true:=by rw[X1 h];decide
  rw[Xg hd];refine⟨.dp,?_,trivial⟩;rw[show cellAt ns k=0 by unfold cellAt;rw[List.getD_eq_getElem?_getD,List.getElem?_eq_none (by omega)];rfl]
theorem kwc(i:Int):Oo m__law_whole [(.no,.int i)] (λy=>∃o':Own,y=(o',.bl true)/\True) noX:=by
 unfold m__law_whole;refine vq ?_;simp![show vW "int" (.int i)=some (.bl true)from rfl,show vW "bool" (.int i)=some (.bl false)from rfl];exact⟨_,rfl,trivial⟩
def St(n:Int)(xs:List Int):Prop:=(xs.length:Int)=n/\∀x∈xs,0<=x/\x<2147483647
theorem nei{a b:Int}{k:Bool}(h:(a==b)=k):fNe (.int a) (.int b)=some (.bl !k):=by rw[<-h];rfl
theorem kqj:∀{ps:List Str},(∀p∈ps,p.length=1)->(ps.map (·.length)).sum=ps.length
 |[],_=>rfl
 |p::ps,h=>by rw[List.map_cons,List.sum_cons,h p X3,kqj λq hq=>h q (lc9 _ hq),Xj];omega
theorem sl_s{o:Own}{z:Str}{lo hi:Option Int}(h:z.cps.size<=100):fSl (o,.str z) lo hi=some (.dp,.str (Txt.slice z lo hi)):=by
 have hl:(Txt.slice z lo hi).length<=z.length:=Txt.slice_le z lo hi;have h:z.length<=100:=h;show(if(Txt.slice z lo hi).length<=big then _ else none)=_;rw[X9 (by unfold big;omega)]
def vkg(S:Sn)(c:Int):D:=if c∈nms S then .int ((nms S).findIdx λw=>w==c:Nat)else .non
end B
namespace A
open PySem Q
noncomputable def m__law_mixed:Fn:=fn 3
  (jq (sIf (tE (cF2 (pu2 fEq) (vE (cF2 (pu2 kK) (vV 0) (C9 2))) (C9 0))) (jK (cF2 (pu2 z7) (vV 0) (vE (cF2 (pu2 vw2) (C9 2) (vE (cF2 qk (C9 8) (vV 1))))))) k9)
  (jq (jW 2 (cF2 (pu2 kK) (vE (cF2 qk (vE (cF2 jJ (vE (cF2 jJ (vE (cF2 (pu2 kK) (vV 0) (C9 2147483647))) (vE (cF2 qk (C9 69621) (vV 1))))) (C9 7919))) (C9 48271))) (C9 2147483647)))
  (jq (jW 2 (cF2 (pu2 kK) (vE (cF2 qk (vV 2) (vV 2))) (C9 2147483629)))
  (jK (cF2 (pu2 kK) (vE (cF2 jJ (vE (cF2 qk (vV 2) (vV 2))) (vE (cF2 qk (C9 16807) (vV 1))))) (C9 2147483587))))))
noncomputable def m__law_words:Fn:=fn 9
  (jq (jW 2 (cC (.str "abcdefghijklmnopqrstuvwxyz")))
  (jq (jW 3 (K4 "" (vE (cLC .rt 1 [2,0] (xK (C9 8)) (.n 0) tYes (cH (qJ (vV 1) (vE (cF2 (pu2 kK) (vE (jY m__law_mixed [(cV 2),(cV 0)])) (C9 26)))))))))
  (jq (sIf (tE (cF2 (pu2 fEq) (vE (cF2 (pu2 kK) (vV 0) (C9 3))) (C9 1))) (jK (cLC .rt 1 [3,0] (xK (vV 1)) (.n 0) tYes (cSl (vV 1) none (some (vE (cF2 jJ (C9 1) (vE (cF2 (pu2 kK) (vE (cF2 jJ (vV 0) (vE (cF2 (pu2 z7) (vV 2) (C9 3))))) (C9 8))))))))) k9)
  (jq (jW 4 (cF2 jJ (C9 1) (vE (cF2 (pu2 kK) (vE (cF2 (pu2 z7) (vV 0) (C9 3))) (C9 8)))))
  (jq (jW 5 (cF2 (pu2 kK) (vE (cF2 (pu2 z7) (vV 0) (C9 24))) (vV 4)))
  (jq (jW 6 (xQ .rt []))
  (jq (xW (xK (vV 1)) (.n 7) (jq (jW 8 (cF2 (pu2 kK) (vE (cF2 jJ (vE (Yx (vV 2) (qJ (vV 3) (vV 5)))) (vE (cF2 qk (vV 7) (vE (cF2 jJ (C9 1) (vE (cF2 (pu2 kK) (vE (cF2 (pu2 z7) (vV 0) (C9 192))) (C9 5))))))))) (C9 26)))
  (zq xX 6 (cF2 jJ (vE (cF2 jJ (vE (cSl (vV 3) none (some (vV 5)))) (qJ (vV 2) (vV 8)))) (vE (cSl (vV 3) (some (vE (cF2 jJ (vV 5) (C9 1)))) (some (vV 4))))))))
  (jK (cMv 6)))))))))
noncomputable def m__law_number:Fn:=fn 1
  (jq (sIf (tE (cF2 (pu2 fEq) (vE (cF2 (pu2 kK) (vV 0) (C9 3))) (C9 0))) (jK (cF2 (pu2 WQ) (vE (cF2 (pu2 kK) (vE (cF2 (pu2 z7) (vV 0) (C9 3))) (C9 19))) (C9 9))) k9)
  (jK (cF2 jJ (vE (cF2 (pu2 WQ) (vE (cF2 (pu2 kK) (vE (cF2 qk (vV 0) (vE (cF2 (pu2 K5) (C9 7919) (C9 15))))) (vE (cF2 (pu2 WQ) (vE (cF2 qk (C9 2) (vE (cF2 (pu2 K5) (C9 10) (C9 60))))) (C9 1))))) (vE (cF2 (pu2 K5) (C9 10) (C9 60))))) (C9 1))))
noncomputable def m__law_is_row:Fn:=fn 4
  (jq (sIf (tOr (tNot (tEQ (vE (cF1 (pu1 (vW "list")) (vV 0))))) (tE (cF2 (pu2 fNe) (vE (cF1 (pu1 kz) (vV 0))) (vE (cF1 (pu1 kz) (vV 1)))))) (jK (cC (.bl false))) k9)
  (jq (xW (qkd (cV 0) (cV 1)) (.t [2,3]) (jq (sIf (tOr (tNot (tEQ (vE (cF1 (pu1 (vW "tuple")) (vV 2))))) (tOr (tE (cF2 (pu2 fNe) (vE (cF1 (pu1 kz) (vV 2))) (C9 2))) (tNot (tEQ (vE (cF1 (pu1 (vW "str")) (qJ (vV 2) (C9 0)))))))) (jK (cC (.bl false))) k9)
  (sIf (tOr (tNot (tEQ (vE (jY B.m__law_whole [(cH (qJ (vV 2) (C9 1)))])))) (tE (cF2 (pu2 fNe) (vV 2) (vV 3)))) (jK (cC (.bl false))) k9)))
  (jK (cC (.bl true)))))
end A
namespace A
open Q PySem C B
theorem vj7{n:Nat}(h:n<=8000):((2:Int)*2 ^ n).natAbs.log2<9000:=by
 have e:((2:Int)*2 ^ n).natAbs=2 ^ (n+1):=by
  rw[Int.natAbs_mul,Int.natAbs_pow,Nat.pow_succ,Nat.mul_comm];rfl
 rw[e,Nat.log2_two_pow];omega
theorem vv1{n:Int}(h0:0<=n)(h1:n<=8000):vw2 (.int 2) (.int n)=some (.int (2*2 ^ n.toNat)):=by
 show(if 0<=n/\n<=1000000/\(2:Int).natAbs<2 ^ 64 then some (2*2 ^ n.toNat)else none).map D.int=_;rw[X9 ⟨h0,by omega,by decide⟩];rfl
theorem vw6{c n:Int}(h1:n<=8000):z7 (.int c) (.int (2*2 ^ n.toNat))=some (.int (c / (2*2 ^ n.toNat))):=by
 show(if 0<(2:Int)*2 ^ n.toNat/\((2:Int)*2 ^ n.toNat).natAbs.log2<9000 then some (c / (2*2 ^ n.toNat))else none).map D.int=_;rw[X9 ⟨Int.mul_pos (by decide) (Int.pow_pos (by decide)),vj7 (by omega)⟩];rfl
theorem mixed_ok(c k:Int)(h0:0<=k)(h1:k<=100):Oo m__law_mixed [(.no,.int c),(.no,.int k)] (λy=>∃v:Int,y=(.dp,.int v)/\True) noX:=by
 unfold m__law_mixed;refine vq ?_
 by_cases h:c % 2=0
 ·have hd:(c % 2==0)=true:=by simp[h]
  simp![eqi hd,vv1 (n:=8*k) (by omega) (by omega),vw6 (c:=c) (n:=8*k) (by omega)];exact⟨_,rfl,trivial⟩
 ·have hd:(c % 2==0)=false:=beq_false_of_ne h;have m0:=Xm c (show(2147483647:Int)≠0 by decide);have m1:=Xi c (show(0:Int)<2147483647 by decide);generalize hu:c % 2147483647=u at m0 m1;have e1:=mul_l (o1:=.no) (o2:=.no) (a:=u+69621*k+7919) (b:=48271) (by omega) (by omega);have n0:=Xm ((u+69621*k+7919)*48271) (show(2147483647:Int)≠0 by decide);have n1:=Xi ((u+69621*k+7919)*48271) (show(0:Int)<2147483647 by decide);simp![eqi hd,hu,e1];generalize (u+69621*k+7919)*48271 % 2147483647=w at n0 n1;have e2:=mul_l (o1:=.no) (o2:=.no) (a:=w) (b:=w) (by omega) (by omega);have e2':=mul_l (o1:=.dp) (o2:=.dp) (a:=w) (b:=w) (by omega) (by omega);have p0:=Xm (w*w) (show(2147483629:Int)≠0 by decide);have p1:=Xi (w*w) (show(0:Int)<2147483629 by decide);simp![e2,e2'];generalize w*w % 2147483629=t at p0 p1;have e3:=mul_l (o1:=.no) (o2:=.no) (a:=t) (b:=t) (by omega) (by omega);have e3':=mul_l (o1:=.dp) (o2:=.dp) (a:=t) (b:=t) (by omega) (by omega);simp![e3,e3'];exact⟨_,rfl,trivial⟩
def Sh(c:Int):Prop:=c.natAbs.log2<1100000
abbrev AZ:Str:="abcdefghijklmnopqrstuvwxyz"
theorem az_found:∀ch∈AZ.cps.toList,∃i:Nat,VX (.str AZ) (.str ⟨#[ch]⟩)=some (.int i):=by
 have h:∀ch∈AZ.cps.toList,(Builtin.Str.occurrences AZ ⟨#[ch]⟩ 0 AZ.length 1).isEmpty=false:=by decide +kernel
 intro ch hc;have:=h ch hc;unfold VX;dsimp only;cases e:Builtin.Str.occurrences AZ ⟨#[ch]⟩ 0 AZ.length 1 with
 |nil=>rw[e]at this;cases this
 |cons i r=>exact⟨i,rfl⟩
theorem ix_strM(z:Str)(i:Int)(h0:0<=i)(h1:i<z.cps.size):∃c∈z.cps.toList,qZ (.str z) (.int i)=some (.str ⟨#[c]⟩):=by
 have:i.toNat<z.cps.toList.length:=by rw[X0];omega
 refine⟨z.cps.toList[i.toNat],List.getElem_mem _,?_⟩;show((Q.ixN z.cps.size i).bind λj=>(z.cps.toList[j]?).map λc=>D.str ⟨#[c]⟩)=_;unfold Q.ixN;rw[X9 h0,X9 h1];show((z.cps.toList[i.toNat]?).map λc=>D.str ⟨#[c]⟩)=_;rw[X8 this];rfl
theorem list_app(a b:Str):(a++b).cps.toList=a.cps.toList++b.cps.toList:=by
 show(a.cps++b.cps).toList=_;exact Array.toList_append
theorem kva{L:List Nat}:∀{ps:List Str},(∀p∈ps,∃c∈L,p=⟨#[c]⟩)->(Str.join "" ps).cps.toList.length=ps.length/\∀c∈(Str.join "" ps).cps.toList,c∈L
 | [],_=>⟨rfl,λc h=>by exact absurd h (by simp[Str.join,Str.empty])⟩
 | [x],h=>by
  obtain⟨c,hc,rfl⟩:=h x X3;refine⟨rfl,λd hd=>?_⟩;have:d=c:=by simpa [Str.join]using hd
  rw[this];exact hc
 | x::y::r,h=>by
  obtain⟨c,hc,rfl⟩:=h x X3;obtain⟨i1,i2⟩:=kva (ps:=y::r) λp hp=>h p (lc9 _ hp)
  have e:(Str.join "" ((⟨#[c]⟩:Str)::y::r)).cps.toList=c::(Str.join "" (y::r)).cps.toList:=by
   show((⟨#[c]⟩:Str)++""++Str.join "" (y::r)).cps.toList=_;rw[list_app,list_app];rfl
  rw[e];refine⟨by rw[Xj,i1];rfl,λd hd=>?_⟩;rcases List.mem_cons.mp hd with rfl|hd
  ·exact hc
  ·exact i2 d hd
theorem each_one{L:List Nat}{G:D->Sd->Prop}(hG:∀d y,G d y->∃c∈L,y.2=.str ⟨#[c]⟩):∀{ds:List D} {ys:List Sd},Each G ds ys->∃ps:List Str,ys.map (·.2)=ps.map D.str/\ps.length=ds.length/\∀p∈ps,∃c∈L,p=⟨#[c]⟩
 |[],[],_=>⟨[],rfl,rfl,λ_ h=>nomatch h⟩
 |d::ds,y::ys,r=>by
  obtain⟨i,hi,e⟩:=hG d y r.1;obtain⟨ps,h1,h2,h3⟩:=each_one hG r.2;exact⟨⟨#[i]⟩::ps,by simp[e,h1],by simp[h2],λp hp=>(List.mem_cons.mp hp).elim (λz=>z▸⟨i,hi,rfl⟩) (h3 p)⟩
theorem join_az{ps:List Str}(h:∀p∈ps,∃c∈AZ.cps.toList,p=⟨#[c]⟩)(h1:ps.length<=100):∃z:Str,Jv "" (.lst (ps.map D.str))=some (.str z)/\z.cps.size=ps.length/\∀c∈z.cps.toList,c∈AZ.cps.toList:=by
 have hz:("":Str).length=0:=rfl;have hs:=kqj (ps:=ps) λp hp=>by obtain⟨c,_,rfl⟩:=h p hp;rfl
 obtain⟨j1,j2⟩:=kva h;refine⟨Txt.join "" ps,?_,?_,?_⟩
 ·unfold Jv;dsimp only;rw[kkp];dsimp only;rw[X9 (by rw[hs,hz];omega)]
 ·unfold Txt.join;rw[StrLaws.glued_eq_join,<-j1,X0]
 ·unfold Txt.join;rw[StrLaws.glued_eq_join];exact j2
theorem vkl(w:Str×Int):(D.tup [.str w.1,.int w.2]).flat 40=true:=rfl
theorem qja{a b:List D}(h:a.length<=10000):((some a).bind λxs=>(some b).bind λys=>if xs.length<=big then some (qY xs ys)else none)=some (qY a b):=by
 show(if a.length<=big then some (qY a b)else none)=_;rw[X9 (by unfold big;omega)]
theorem is_row_ok(ws:List (Str×Int))(hl:ws.length<=1000):Oo m__law_is_row [(.no,.lst (rwD ws)),(.no,.lst (rwD ws))] (λy=>∃o':Own,y=(o',.bl true)/\True) noX:=by
 unfold m__law_is_row;refine vq ?_;have it:∀ds:List D,vW "tuple" (.tup ds)=some (.bl true):=λds=>rfl
 have il:∀ds:List D,vW "list" (.lst ds)=some (.bl true):=λds=>rfl
 have is:∀z:Str,vW "str" (.str z)=some (.bl true):=λz=>rfl
 have zd:∀l:List D,qY l l=l.map λd=>.tup [d,d]:=λl=>by induction l with|nil=>rfl|cons a l ih=>show .tup [a,a]::qY l l=_;rw[ih];rfl
 simp![il,nei (a:=(ws.length:Int)) (b:=(ws.length:Int)) (beq_self_eq_true _)]
 try rw[Xg (by decide)]
 refine Zq (λE jv=>∃(f1 f2:List (Str×Int)) (l2 l3:Option Sd),E=[some (.no,.lst (rwD ws)),some (.no,.lst (rwD ws)),l2,l3]/\ws=f1++f2/\jv=(rwD f2).map λd=>.tup [d,d]) ?_ ?_ ?_
 ·simp![];rw[qja (by rw[X7];omega),wo_some,zd];exact⟨[],ws,_,_,rfl,rfl,rfl⟩
 ·rintro E d ds ⟨f1,f2,l2,l3,rfl,hf,hr⟩;cases f2 with
  |nil=>cases hr
  |cons w f2=>
   have hr:d::ds=.tup [.tup [.str w.1,.int w.2],.tup [.str w.1,.int w.2]]::(rwD f2).map λd=>.tup [d,d]:=hr
   injection hr with e1 e2;subst e1 e2;simp![p0,p1,it,is,nei (a:=2) (b:=2) rfl,show((2:Nat):Int)=2 from rfl]
   try rw[Xg (by decide)]
   refine(kwc w.2).use ?_;intro o _;simp![qwi (vkl w)];exact⟨f1++[w],f2,_,_,rfl,by rw[hf];simp,rfl⟩
 ·rintro E ⟨f1,f2,l2,l3,rfl,hf,hr⟩;simp![];exact⟨_,rfl,trivial⟩
end A
namespace F
open Q PySem C
def vvw(ay:List Int):D->List Int
 |.int i=>if i∈ay then ay else ay++[i]
 |_=>ay
def KJ(ks:List D):List Int:=ks.foldl vvw []
def plc(ns:List Int):D->D
 |.int i=>.int (ns.findIdx λw=>w==i:Nat)
 |d=>d
def pr(ks:List D):List D:=ks.map (plc (KJ ks))
noncomputable def vks(K:List D)(s:D):List D×D:=match s with
 |.tup [b7,.tup ks]=>(J6 K (.tup [b7,.tup (pr ks)]),.tup [.int ((J6 K (.tup [b7,.tup (pr ks)])).idxOf (.tup [b7,.tup (pr ks)]):Nat),iT (KJ ks)])
 |_=>(K,.non)
end F
namespace F
open Q PySem C
def obD(rs:List D)(s:D)(z:Str)(p:Int):Option D:=match Zx rs (z,p) s with
 |[]=>some .non
 |[d]=>some d
 |_=>none
noncomputable def qqw(rs:List D)(s:D)(z:Str):List D->List D->Option (List D×List D)
 |[],K=>some (K,[])
 |.int p::ps,K=>match obD rs s z p with
  |none=>none
  |some d=>(qqw rs s z ps (vks K d).1).map λr=>(r.1,(vks K d).2::r.2)
 |_::_,_=>none
end F
namespace F
open Q PySem C
def vkr(rs:List D)(s:D)(z:Str)(K:List D):Option (List D×List D):=qqw rs s z (q9 0 ((KJ (Qw s)).length+1)) K
noncomputable def qq7(rs:List D)(s:D):List Str->List D->Option (List D×List D)
 |[],K=>some (K,[])
 |z::zs,K=>match vkr rs s z K with
  |none=>none
  |some r=>(qq7 rs s zs r.1).map λq=>(q.1,.lst r.2::q.2)
noncomputable def vki(rs:List D)(s:D):D:=match s with
 |.tup [.int b7,_]=>(match rs[b7.toNat]? with
  |some (.tup [_,g,_])=>g
  |_=>.non)
 |_=>.non
def qzb(rs:List D)(s:D)(st:List D):D:=.tup [.int (KJ (Qw s)).length,vki rs s,.lst st]
noncomputable def qz1(ss:List Str)(rs K aw:List D):Option (List D×List D):=(qq7 rs (K.getD aw.length .non) ss K).map λr=>(r.1,aw++[qzb rs (K.getD aw.length .non) r.2])
inductive Run (ss:List Str)(rs:List D):List D->List D->Option (List D×List D)->Prop
 |stop {K aw:List D}:¬aw.length<K.length->Run ss rs K aw (some (K,aw))
 |fail {K aw:List D}:aw.length<K.length->qz1 ss rs K aw=none->Run ss rs K aw none
 |go {K aw K' gm:List D} {r:Option (List D×List D)}:aw.length<K.length->qz1 ss rs K aw=some (K',gm)->Run ss rs K' gm r->Run ss rs K aw r
end F
namespace F
open Q PySem C
def ltr:List Nat:=("abcdefghijklmnopqrstuvwxyz":Str).cps.toList
end F
namespace F
open Q PySem C
noncomputable def FA(g:D)(fs:List D):Prop:=(∀(i j:Nat) (f:D),f≠.non->fs[i]?=some f->fs[j]?=some f->i=j)/\(D.str "new"∈fs->g≠.str "any"/\g∉fs)
end F
namespace F
open Q PySem C
noncomputable def Cpt(ap:Bool)(g g':D):Prop:=(g=.str "fresh"/\∃i,g'=.int i)\/(g'=.str "fresh"/\∃i,g=.int i)\/(ap=true/\∃i j:Int,g=.int i/\g'=.int j/\i≠j)
noncomputable def vxi(ap:Bool)(st:List D):Prop:=(∀(i j:Nat) (z:Str) (g g' t t' f f':D),i<j->st[i]?=some (.tup [.str z,g,t,f])->st[j]?=some (.tup [.str z,g',t',f'])->Cpt ap g g')/\(ap=true->∀(z:Str) (g t:D) (fs:List D),D.tup [.str z,g,t,.tup fs]∈st->FA g fs)
end F
namespace F
open Q PySem C
def Asks(ap:Bool)(d7:Int)(as:List D):Prop:=as.Pairwise (Cpt ap)/\(∀a∈as,Gd d7 a)/\as.length<=4
end F
namespace F
open Q PySem C
def FAb(ap:Bool)(g:D)(fs:List D):Prop:=ap=true->FA g fs
inductive FJ1 (zs:List Int)(g:D)(d7 there:Int)(ap:Bool)(LL:List D):En->List D->Prop
 |mk (fs:List D) (ws:List Int) {l7:Option Sd} {l8:Option Sd} {jv:List D} (h0:jv=ws.map D.int) (h1:(fs.length+ws.length:Int)=there) (h2:(∀f∈fs,Fd d7 f)) (h3:FAb ap g fs):FJ1 zs g d7 there ap LL [some (.no,iL zs),some (.no,g),some (.no,.int d7),some (.no,.int there),some (.no,.bl ap),some (.rt,.lst LL),some (.rt,.lst fs),l7,l8] jv
def Ltr(b st:Int)(c9:Nat)(i:Nat)(z:Str):Prop:=z.cps.toList[c9]?=some (ltr.getD ((b+i*(st+1)) % 26).toNat 0)
inductive FJ2 (x n sz am st b:Int):En->List D->Prop
 |mk (k:Int) (ss:List Str) {l7:Option Sd} {l8:Option Sd} {l9:Option Sd} {iq:Option Sd} {jv:List D} (h0:0<=k) (h1:k<=n) (h2:jv=q9 k n) (h3:(ss.length:Int)=k) (h4:∀i:Nat,i<ss.length->Ltr b st am.toNat i (ss.getD i "")):FJ2 x n sz am st b [some (.no,.int x),some (.no,.int n),some (.dp,.str "abcdefghijklmnopqrstuvwxyz"),some (.no,.int sz),some (.dp,.int am),some (.no,.int st),some (.rt,sL ss),l7,l8,l9,iq] jv
inductive FJ3 (x n sz am st b k:Int)(ss:List Str):En->List D->Prop
 |mk (j:Int) (z:Str) {l9:Option Sd} {iq:Option Sd} {o8:Own} {jv:List D} (h0:0<=j) (h1:j<=sz+1) (h2:jv=q9 j (sz+1)) (h3:(z.cps.size:Int)=j) (h4:(am<j->Ltr b st am.toNat ss.length z)):FJ3 x n sz am st b k ss [some (.no,.int x),some (.no,.int n),some (.dp,.str "abcdefghijklmnopqrstuvwxyz"),some (.no,.int sz),some (.dp,.int am),some (.no,.int st),some (.rt,sL ss),some (.no,.int k),some (o8,.str z),l9,iq] jv
end F
namespace F
open Q PySem C
inductive SJ1 (ns:List Int)(a:Int)(ss:List Str)(hs ks:List Int)(v0:Int)(ap:Bool):En->List D->Prop
 |mk (r:Nat) (rs:List D) {l7 l8 l9 iq ko lv ji ln:Option Sd} {jv:List D} (h1:jv=q9 r (1+v0)) (h2:(r:Int)<=1+v0) (h3:rs.length=r) (h4:∀i:Nat,i<r->∃(gd:Bool) (st:List D),rs[i]?=some (.tup [.int (ks.getD i 0),.bl gd,.lst st])/\(∀s∈st,St (ks.getD i 0) s/\Sx ss ks s)/\st.length<=12/\vxi ap st):SJ1 ns a ss hs ks v0 ap [some (.no,iL ns),some (.no,.int a),some (.no,sL ss),some (.rt,iL hs),some (.dp,.int (1+v0)),some (.rt,iL ks),some (.rt,.lst rs),l7,l8,l9,iq,ko,lv,ji,ln] jv
noncomputable def Sgn(ss:List Str)(j:Nat)(st:List D):Prop:=∀s∈st,∃i,i<j/\∃(hi:i<ss.length) (g t f:D),s=.tup [.str ss[i],g,t,f]
inductive SJ2 (ns:List Int)(a:Int)(ss:List Str)(hs ks:List Int)(v0:Int)(ap:Bool)(rs:List D)(r:Nat)(d7:Int):En->List D->Prop
 |mk (j:Nat) (st:List D) {l9 iq ko lv ji ln:Option Sd} {jv:List D} (h1:jv=q9 j ss.length) (h2:j<=ss.length) (h3:∀s∈st,St d7 s/\Sx ss ks s) (h4:st.length<=4*j) (h5:vxi ap st) (h6:Sgn ss j st):SJ2 ns a ss hs ks v0 ap rs r d7 [some (.no,iL ns),some (.no,.int a),some (.no,sL ss),some (.rt,iL hs),some (.dp,.int (1+v0)),some (.rt,iL ks),some (.rt,.lst rs),some (.no,.int r),some (.rt,.lst st),l9,iq,ko,lv,ji,ln] jv
noncomputable def Ads(ss:List Str)(j:Nat)(hj:j<ss.length)(ap:Bool)(as d6:List D):Prop:=∀(i:Nat) (d:D),d6[i]?=some d->∃(g t:D) (fs:List D),as[i]?=some g/\d=.tup [.str ss[j],g,t,.tup fs]/\(ap=true->FA g fs)
inductive SJ3 (ns:List Int)(a:Int)(ss:List Str)(hs ks:List Int)(v0:Int)(ap:Bool)(rs:List D)(r:Nat)(d7:Int)(st:List D)(j:Nat)(hj:j<ss.length)(ys:List Int):En->List D->Prop
 |mk (k:Nat) (as d6 cj:List D) {ko lv ji ln:Option Sd} {jv:List D} (h0:cj=st++d6) (h1:Asks ap d7 as) (h2:k<=as.length) (h3:jv=vkp k (as.drop k)) (h4:d6.length=k) (h5:∀s∈d6,St d7 s/\Sx ss ks s) (h6:Ads ss j hj ap as d6):SJ3 ns a ss hs ks v0 ap rs r d7 st j hj ys [some (.no,iL ns),some (.no,.int a),some (.no,sL ss),some (.rt,iL hs),some (.dp,.int (1+v0)),some (.rt,iL ks),some (.rt,.lst rs),some (.no,.int r),some (.rt,.lst cj),some (.no,.int j),some (.no,iL ys),ko,lv,ji,ln] jv
end F
namespace F
open Q PySem C
noncomputable def vkt(K:List D)(d:D):D:=match d with
 |.tup [b7,.tup ks]=>.tup [.int (K.idxOf (.tup [b7,.tup (pr ks)]):Nat),iT (KJ ks)]
 |_=>.non
noncomputable def vw9(rs:List D)(s:D)(z:Str)(L:List D)(d:D):D:=match d with
 |.int p=>(match obD rs s z p with
  |some d=>vkt L d
  |none=>.non)
 |_=>.non
def vwp(s:D):List D:=q9 0 ((KJ (Qw s)).length+1)
def qz0(ss:List Str)(rs L:List D)(s:D):List D:=ss.map λz=>.lst ((vwp s).map (vw9 rs s z L))
def vwi(L:List D)(e:D):Prop:=∀b7 ks,e=.tup [b7,.tup ks]->D.tup [b7,.tup (pr ks)]∈L
def Clo(zs:List Str)(rs L:List D)(s:D):Prop:=∀z∈zs,∀p:Int,D.int p∈vwp s->∃e,obD rs s z p=some e/\vwi L e
def Nrm(t:D):Prop:=∃b7 ks,t=.tup [b7,.tup (pr ks)]
noncomputable def Inv(ss:List Str)(rs K aw:List D):Prop:=aw.length<=K.length/\(∀i,i<aw.length->Clo ss rs K (K.getD i .non)/\∀L,K <+: L->aw[i]?=some (qzb rs (K.getD i .non) (qz0 ss rs L (K.getD i .non))))/\∀t∈K,Nrm t
end F
namespace G
open Q PySem C F
def fl(own:Int):D->D
 |.int f=>if f=own then .str "new" else .int f
 |d=>d
end G
namespace G
open Q PySem C F
def nN(t:D):Nat:=(KJ (Qw t)).length
end G
namespace J
open Q PySem C B F
def vvv:D->Int
 |.int i=>i
 |_=>0
def snOf:D->Sn
 |.tup [.int r,.tup ks]=>some (r,ks.map vvv)
 |_=>none
noncomputable def rdF(ss:List Str)(rs:List D)(S:Sn)(z:Str)(c:Int):Sn:=match S with
 |none=>none
 |some (b7,ks)=>(match rs[b7.toNat]? with
  |some (.tup [_,_,.lst st])=>snOf (qzc ss st ks z c)
  |_=>none)
def kpF(rs:List D)(p:Int):Int:=if p=-1 then 0 else(match rs[p.toNat]? with
 |some (.tup [.int k,_,_])=>k
 |_=>0)
noncomputable def gdF(rs:List D)(p:Int):Bool:=if p=-1 then false else(match rs[p.toNat]? with
 |some (.tup [_,.bl g,_])=>g
 |_=>false)
noncomputable def qx6(K:List D)(x:Sn×Sn):List D×D:=if rmO x.1=-1/\rmO x.2=-1 then(K,.non)else(J6 K (qw7 x.1 x.2),.tup [.int ((J6 K (qw7 x.1 x.2)).idxOf (qw7 x.1 x.2):Nat),iT (vxd (nms x.1) (nms x.2))])
end J
namespace J
open Q PySem C B F
noncomputable def VY:List (Sn×Sn)->List D->List D×List D
 |[],K=>(K,[])
 |x::r,K=>((VY r (qx6 K x).1).1,(qx6 K x).2::(VY r (qx6 K x).1).2)
noncomputable def kxx(ss:List Str)(rs cn:List D)(S T:Sn)(own:Nat)(z:Str):List (Sn×Sn):=(List.range (own+1)).map λ(c:Nat)=>(rdF ss rs S z c,rdF ss cn T z c)
noncomputable def YQ(ss:List Str)(rs cn:List D)(S T:Sn)(own:Nat):List Str->List D->List D×List D
 |[],K=>(K,[])
 |z::zs,K=>((YQ ss rs cn S T own zs (VY (kxx ss rs cn S T own z) K).1).1,.lst (VY (kxx ss rs cn S T own z) K).2::(YQ ss rs cn S T own zs (VY (kxx ss rs cn S T own z) K).1).2)
noncomputable def byW(w:Str)(g g':Bool):Bool:=if w == "both" then g&&g' else if w == "either" then g||g' else if w == "first" then g && !g' else g != g'
section
variable {dg kps':List Int}{ss:List Str}{rs cn:List D}
def pS(rs:List D):D->Sn
 |.tup [.int p,_,_]=>fst1 p (kpF rs p)
 |_=>none
def vv2:List D->List (Int×Int)
 |[]=>[]
 |.tup [.int i,.int j]::r=>(i,j)::vv2 r
 |_::r=>vv2 r
def pT(rs cn:List D):D->Sn
 |.tup [.int p,.int q,.tup sh]=>fst2 q (kpF rs p) (kpF cn q) (vv2 sh)
 |_=>none
def pO(rs cn:List D)(P:D):Nat:=(vxd (nms (pS rs P)) (nms (pT rs cn P))).length
def gS(rs:List D):D->Bool
 |.tup [.int p,_,_]=>gdF rs p
 |_=>false
def gT(rs:List D):D->Bool
 |.tup [_,.int q,_]=>gdF rs q
 |_=>false
noncomputable def vv3(w:Str)(ss:List Str)(rs cn:List D)(P:D)(st:List D):D:=.tup [.int (pO rs cn P),.bl (byW w (gS rs P) (gT cn P)),.lst st]
noncomputable def qz2(w:Str)(ss:List Str)(rs cn K aw:List D):List D×List D:=
 ((YQ ss rs cn (pS rs (K.getD aw.length .non)) (pT rs cn (K.getD aw.length .non)) (pO rs cn (K.getD aw.length .non)) ss K).1,
  aw++[vv3 w ss rs cn (K.getD aw.length .non) (YQ ss rs cn (pS rs (K.getD aw.length .non)) (pT rs cn (K.getD aw.length .non)) (pO rs cn (K.getD aw.length .non)) ss K).2])
inductive RunJ (w:Str)(ss:List Str)(rs cn:List D):List D->List D->Option (List D×List D)->Prop
 |stop {K aw:List D}:¬aw.length<K.length->RunJ w ss rs cn K aw (some (K,aw))
 |great {K aw:List D}:aw.length<K.length->40<K.length->RunJ w ss rs cn K aw none
 |go {K aw:List D} {r:Option (List D×List D)}:aw.length<K.length->K.length<=40->RunJ w ss rs cn (qz2 w ss rs cn K aw).1 (qz2 w ss rs cn K aw).2 r->RunJ w ss rs cn K aw r
end
end J
namespace Nk06
open PySem Q
noncomputable def W7:Fn:=fn 1
  (jq (sIf (tOr (tNot (tEQ (vE (cF1 (pu1 (vW "str")) (vV 0))))) (tNot (tE (Kz fLe fLe (C9 1) (vE (cF1 (pu1 kz) (vV 0))) (C9 8))))) (jK (cC (.bl false))) k9)
  (jK (cF1 (pu1 VZ) (vE (cLC .rt 1 [] (itS (cV 0)) (.n 0) tYes (cF2 (pu2 Q9) (vV 0) (vE (cC (.str "abcdefghijklmnopqrstuvwxyz")))))))))
noncomputable def Vk:Fn:=fn 1
  (jq (sIf (tOr (tE (cF2 (pu2 fEq) (vV 0) (vE (cC (.str ""))))) (tNot (tEQ (vE (cF1 (pu1 VZ) (vE (cLC .rt 1 [] (itS (cV 0)) (.n 0) tYes (cF2 (pu2 Q9) (vV 0) (vE (cC (.str "0123456789"))))))))))) (jK (cC (.bl false))) k9)
  (jK (cOr (vE (cF2 (pu2 fEq) (vV 0) (vE (cC (.str "0"))))) (KW (vE (cF1 (pu1 (J8 "0")) (vV 0)))))))
noncomputable def V7:Fn:=fn 2
  (jq (sIf (tE (cF2 (pu2 fEq) (vV 0) (vE (cC (.str "-0"))))) (jK (cC (.bl false))) k9)
  (jq (jW 1 (cIf (tEQ (vE (cF1 (pu1 (J8 "-")) (vV 0)))) (cSl (vV 0) (some (C9 1)) none) (cV 0)))
  (jK (z5 (vE (jY Vk [(cV 1)])) (cF2 (pu2 fLe) (vE (cF1 (pu1 kz) (vV 1))) (C9 60))))))
noncomputable def VV:Fn:=fn 2
  (jq (jW 1 (cF1 (pu1 (Jz 58)) (vV 0)))
  (jq (sIf (tOr (tNot (tEQ (vE (jY W7 [(cH (qJ (vV 1) (C9 0)))])))) (tNot (tEQ (vE (jY V7 [(cH (qJ (vV 1) (C9 2)))]))))) (sRz "NoText") k9)
  (jK (K7 .no [(cH (qJ (vV 1) (C9 0))),(cF1 (pu1 JK) (qJ (vV 1) (C9 2)))]))))
noncomputable def xw:Fn:=fn 2
  (jq (sIf (tE (cF2 (pu2 fEq) (vV 0) (vE (cC (.str "-"))))) (jK (xQ .rt [])) k9)
  (jq (jW 1 (cF1 (K9 32) (vV 0)))
  (jq (sIf (tE (cF2 (pu2 fGt) (vE (cF1 (pu1 kz) (vV 1))) (C9 60))) (sRz "NoText") k9)
  (jK (cLC .rt 1 [] (itS (cV 1)) (.n 0) tYes (jY VV [(cV 0)]))))))
def m__law_cell_at : Fn:= B.m__law_cell_at
def m__law_mixed : Fn:= A.m__law_mixed
def m__law_words : Fn:= A.m__law_words
def m__law_number : Fn:= A.m__law_number
def m__law_whole : Fn:= B.m__law_whole
def m__law_is_row : Fn:= A.m__law_is_row
noncomputable def Qx:Fn:=fn 2
  (jq (jW 1 (cV 0))
  (jq (sIf (tE (cF2 (pu2 fEq) (vE (cSl (vV 0) none (some (C9 1)))) (vE (cC (.str "-"))))) (jW 1 (cSl (vV 0) (some (C9 1)) none)) k9)
  (jq (sIf (tOr (tE (cF2 (pu2 fEq) (vV 1) (vE (cC (.str ""))))) (tOr (tE (cF2 (pu2 fGt) (vE (cF1 (pu1 kz) (vV 1))) (C9 60))) (tAnd (tE (cF2 (pu2 fEq) (qJ (vV 1) (C9 0)) (vE (cC (.str "0"))))) (tE (cF2 (pu2 fNe) (vV 0) (vE (cC (.str "0")))))))) (jK (cC .non)) k9)
  (jq (sIf (tE (cF2 (pu2 fGt) (vE (cF1 (pu1 kz) (vE (cLC .rt 1 [] (itS (cV 1)) (.n 0) (tE (cF2 (pu2 xk) (vV 0) (vE (cC (.str "0123456789"))))) (cV 0))))) (C9 0))) (jK (cC .non)) k9)
  (jK (cF1 (pu1 JK) (vV 0)))))))
noncomputable def Q8:Fn:=fn 7
  (jq (sIf (tE (cF2 (pu2 fEq) (vV 0) (vE (cC (.str "-"))))) (jK (xQ .rt [])) k9)
  (jq (jW 1 (cF1 (K9 32) (vV 0)))
  (jq (sIf (tE (cF2 (pu2 fGt) (vE (cF1 (pu1 kz) (vV 1))) (C9 60))) (jK (cC .non)) k9)
  (jq (jW 2 (xQ .rt []))
  (jq (xW (itS (cV 1)) (.n 3) (jq (vqe [4,5,6] (cF1 (pu1 (Jz 58)) (vV 3)))
  (jq (sIf (tOr (tE (cF2 (pu2 fEq) (vV 5) (vE (cC (.str ""))))) (tOr (tE (cF2 (pu2 fLt) (vE (cF1 (pu1 kz) (vV 4))) (C9 1))) (tOr (tE (cF2 (pu2 fGt) (vE (cF1 (pu1 kz) (vV 4))) (C9 8))) (tE (cF2 (f2First fIsNon) (vE (jY Qx [(cV 6)])) (vE (cC .non))))))) (jK (cC .non)) k9)
  (jq (sIf (tE (cF2 (pu2 fGt) (vE (cF1 (pu1 kz) (vE (cLC .rt 1 [] (itS (cV 4)) (.n 0) (tE (cF2 (pu2 xk) (vV 0) (vE (cC (.str "abcdefghijklmnopqrstuvwxyz"))))) (cV 0))))) (C9 0))) (jK (cC .non)) k9)
  (zq xX 2 (K7 .no [(cV 4),(jY Qx [(cV 6)])]))))))
  (jK (cMv 2)))))))
noncomputable def WW:Fn:=fn 3
  (jq (jW 1 (cF1 (pu1 Jw) (vE (cF2 (pu2 kK) (vE (cF2 qk (vV 0) (vE (cF2 (pu2 K5) (C9 7919) (C9 15))))) (vE (cF2 (pu2 K5) (C9 10) (C9 40)))))))
  (jq (jW 2 (xQ .rt [(cF2 jJ (vE (cC (.str "0"))) (vV 1)),(cF2 jJ (vE (cC (.str "+"))) (vV 1)),(cF2 jJ (vE (cF2 jJ (vE (cSl (vV 1) none (some (C9 1)))) (vE (cC (.str "_"))))) (vE (cSl (vV 1) (some (C9 1)) none))),(cF2 qk (vE (cC (.str "9"))) (C9 60)),(cF2 qk (vE (cC (.str "9"))) (C9 61)),(cF2 jJ (vE (cC (.str "-"))) (vE (cF2 qk (vE (cC (.str "8"))) (C9 60))))]))
  (jq (jW 2 (cF2 jJ (vV 2) (vE (xQ .rt [(cC (.str "-0")),(cF2 jJ (vE (cC (.str "-"))) (vE (cF2 qk (vE (cC (.str "7"))) (C9 61)))),(cC (.str "")),(cC (.str "-")),(cC (.str "0")),(cC (.str "--1")),(cF2 jJ (vV 1) (vE (cC (.str "-")))),(cF2 jJ (vE (cC (.str " "))) (vV 1)),(cF2 jJ (vV 1) (vE (cC (.str ":")))),(cC (.str "1e3"))]))))
  (jK (cH (qJ (vV 2) (vE (cF2 (pu2 kK) (vE (jY m__law_mixed [(cV 0),(cC (.int 5))])) (C9 16)))))))))
noncomputable def QQ:Fn:=fn 6
  (jq (jW 2 (cF2 (pu2 kK) (vE (jY m__law_mixed [(cV 1),(cC (.int 1))])) (C9 8)))
  (jq (jW 3 (cF2 (pu2 kK) (vE (jY m__law_mixed [(cV 1),(cC (.int 2))])) (vE (cF2 jJ (vE (cF1 (pu1 kz) (vV 0))) (C9 1)))))
  (jq (jW 4 (cC (.str "ab z019-:; .A_+=\n/|{@`")))
  (jq (jW 5 (cH (qJ (vV 4) (vE (cF2 (pu2 kK) (vE (jY m__law_mixed [(cV 1),(cC (.int 3))])) (vE (cF1 (pu1 kz) (vV 4))))))))
  (jq (sIf (tE (cF2 (pu2 fLt) (vV 2) (C9 2))) (jK (cF2 jJ (vE (cF2 jJ (vE (cSl (vV 0) none (some (vV 3)))) (vV 5))) (vE (cSl (vV 0) (some (vE (cF2 jJ (vV 3) (C9 1)))) none)))) k9)
  (jq (sIf (tE (cF2 (pu2 fLt) (vV 2) (C9 4))) (jK (cF2 jJ (vE (cF2 jJ (vE (cSl (vV 0) none (some (vV 3)))) (vV 5))) (vE (cSl (vV 0) (some (vV 3)) none)))) k9)
  (jq (sIf (tE (cF2 (pu2 fEq) (vV 2) (C9 4))) (jK (cF2 jJ (vE (cSl (vV 0) none (some (vV 3)))) (vE (cSl (vV 0) (some (vE (cF2 jJ (vV 3) (C9 1)))) none)))) k9)
  (jq (sIf (tE (cF2 (pu2 fEq) (vV 2) (C9 5))) (jK (cH (qJ (vE (Vw 0)) (vE (cF2 (pu2 kK) (vE (jY m__law_mixed [(cV 1),(cC (.int 4))])) (C9 7)))))) k9)
  (jq (sIf (tE (cF2 (pu2 fEq) (vV 2) (C9 6))) (jK (cF2 jJ (vE (cF2 jJ (vE (cF2 jJ (vV 0) (vE (cC (.str " "))))) (vE (cC (.str "ab:"))))) (vE (jY WW [(cV 1)])))) k9)
  (jK (K4 " " (vE (cLC .rt 1 [1] (xK (vE (cF2 jJ (C9 59) (vE (cF2 (pu2 kK) (vE (jY m__law_mixed [(cV 1),(cC (.int 4))])) (C9 4)))))) (.n 0) tYes (cF2 jJ (vE (cC (.str "a:"))) (vE (cF1 (pu1 Jw) (vE (cF2 qk (vV 0) (vE (cF2 (pu2 kK) (vV 1) (C9 3)))))))))))))))))))))
noncomputable def KY:Fn:=fn 3
  (jq (jW 1 (cC (.bl false)))
  (jq (z6 ["NoText"] 2 (Zj (QJ xw [(cV 0)])) (jq (jW 1 (z5 (vE (cF1 (pu1 (vZ [("NoText",true)])) (vV 2))) (cF1 (pu1 (vZ [("NoText",true)])) (vV 2))))
  (jq (jW 1 (z5 (vV 1) (KW (vE (cF1 (pu1 (vZ [("NoText",false)])) (vV 2))))))
  (jW 1 (z5 (vV 1) (KW (vE (cF1 (pu1 (vZ [("NoText",false)])) (vV 2)))))))))
  (jK (cMv 1))))
noncomputable def m_law:Fn:=fn 7
  (jq (jW 1 (jY m__law_words [(jY m__law_cell_at [(cV 0),(cC (.int 0))]),(cC (.int 4))]))
  (jq (jW 2 (cLC .rt 1 [1,0] (xK (vE (cF2 (pu2 kK) (vE (jY m__law_cell_at [(cV 0),(cC (.int 5))])) (C9 5)))) (.n 0) tYes (K7 .no [(cH (qJ (vV 1) (vV 0))),(jY m__law_number [(jY m__law_cell_at [(cV 2),(cF2 jJ (C9 1) (vV 0))])])])))
  (jq (jW 2 (cSl (vV 2) none (some (C9 4))))
  (jq (jW 3 (cC (.str "-")))
  (jq (sIf (tE (cF2 (pu2 fGt) (vE (cF1 (pu1 kz) (vV 2))) (C9 0))) (jW 3 (K4 " " (vE (cLC .rt 2 [] (itS (cV 2)) (.t [0,1]) tYes (cF2 jJ (vE (cF2 jJ (vV 0) (vE (cC (.str ":"))))) (vE (cF1 (pu1 Jw) (vV 1)))))))) k9)
  (jq (xW (itS (cSl (vV 0) (some (C9 8)) (some (C9 48)))) (.n 4) (jq (jW 5 (jY QQ [(cV 3),(cV 4)]))
  (jq (jW 6 (jY Q8 [(cV 5)]))
  (jq (sIf (tAnd (tE (cF2 (f2First fIsNon) (vV 6) (vE (cC .non)))) (tNot (tEQ (vE (jY KY [(cV 5)]))))) (jK (cC (.bl false))) k9)
  (sIf (tAnd (tE (cF2 (f2First fNotNon) (vV 6) (vE (cC .non)))) (tNot (tEQ (vE (jY m__law_is_row [(jY xw [(cV 5)]),(cV 6)]))))) (jK (cC (.bl false))) k9)))))
  (jK (jY m__law_is_row [(jY xw [(cV 3)]),(cV 2)]))))))))
end Nk06
namespace Nk06
open Q PySem C
abbrev Is(f:Fn)(xs:List Sd)(b:Bool):Prop:=Oo f xs (λy=>∃o':Own,y=(o',.bl b)/\True) noX
abbrev AZ:Str:="abcdefghijklmnopqrstuvwxyz"
abbrev ls(z:Str):List Nat:=z.cps.toList
theorem qqp(y:Str)(c:Nat):JV ⟨#[c]⟩ y=decide (c∈ls y):=StrLaws.found_one y c
theorem qj1(g:Nat->Bool):∀ds:List Nat,bls (ds.map λd=>D.bl (g d))=some (ds.map g)
 |[]=>rfl
 |d::ds=>by
  rw[List.map_cons,bls,qj1 g ds];rfl
theorem qv1(g:Nat->Bool)(ds:List Nat):VZ (.lst (ds.map λd=>D.bl (g d)))=some (.bl (ds.all g)):=by
 show(bls (ds.map λd=>D.bl (g d))).map _=_;rw[qj1];simp[List.all_map,Function.comp_def]
def inS(y:Str):D->D
 |.str z=>.bl (JV z y)
 |d=>d
theorem qqv(y:Str)(l:List Nat):(l.map λc=>D.str ⟨#[c]⟩).map (inS y)=l.map λc=>D.bl (decide (c∈ls y)):=by
 rw[Yb];refine List.map_congr_left λc _=>?_
 show D.bl (JV ⟨#[c]⟩ y)=_;rw[qqp]
theorem qvf(z:Str):Is W7 [(.no,.str z)] (L3.signL (ls z)):=by
 unfold W7;refine vq ?_;have i1:vW "str" (.str z)=some (.bl true):=rfl;have l:kz (.str z)=some (.int z.cps.size):=rfl;have hls:(ls z).length=z.cps.size:=X0;unfold L3.signL;rw[hls]
 by_cases h1:1<=z.cps.size
 rotate_left
 ·have e1:fLe (.int 1) (.int z.cps.size)=some (.bl false):=by rw[le_ii];simp;omega
  simp![i1,l,e1];exact⟨_,by rw[X1 h1];rfl,trivial⟩
 have e1:fLe (.int 1) (.int z.cps.size)=some (.bl true):=by rw[le_ii];simp;omega
 by_cases h8:z.cps.size<=8
 rotate_left
 ·have e2:fLe (.int z.cps.size) (.int 8)=some (.bl false):=by rw[le_ii];simp;omega
  simp![i1,l,e1,e2];exact⟨_,by rw[X1 h8,Bool.and_false];rfl,trivial⟩
 have e2:fLe (.int z.cps.size) (.int 8)=some (.bl true):=by rw[le_ii];simp;omega
 have hb:z.cps.size<=big:=by unfold big;omega
 simp![i1,l,e1,e2];refine K8 [] (λd y=>y.2=inS AZ d) ?_;simp![hb];refine⟨λd hd=>?_,λys hy=>?_⟩
 ·obtain⟨c,hc,rfl⟩:=List.mem_map.mp hd;have e:Q9 (.str ⟨#[c]⟩) (.str "abcdefghijklmnopqrstuvwxyz")=some (.bl (JV ⟨#[c]⟩ AZ)):=rfl;simp![e];exact⟨⟨_,rfl⟩,rfl⟩
 ·rw[zW,kj7 (h:=inS AZ) (λ_ _ h=>h) hy,qqv];simp![qv1];exact⟨_,by rw[X5 h1,X5 h8];rfl,trivial⟩
theorem kvn(a b:Str):(a==b)=decide (ls a=ls b):=by
 by_cases h:a=b
 ·subst h;simp
 ·have h2:¬ls a=ls b:=λe=>h (L3.str_ext e)
  rw[X1 h2]
  simpa using h
theorem zY(a b:Str):fEq (.str a) (.str b)=some (.bl (decide (ls a=ls b))):=by rw[vw3,kvn]
theorem vvt(a b:Str):fNe (.str a) (.str b)=some (.bl (!decide (ls a=ls b))):=by
 rw[<-kvn];rfl
theorem qz4(z:Str)(c:Nat):J8 ⟨#[c]⟩ (.str z)=some (.bl (decide ((ls z).head?=some c))):=by
 show some (D.bl (Txt.startswith z ⟨#[c]⟩))=_;rw[L3.starts_list]
theorem qqj(z:Str)(hz:z.cps.size<=1000000):Is Vk [(.no,.str z)] (L3.numL (ls z)):=by
 unfold Vk;refine vq ?_;have hb:z.cps.size<=big:=by unfold big;omega
 have e0:=zY z "";have e1:=zY z "0";have e2:J8 "0" (.str z)=some (.bl (decide ((ls z).head?=some 48))):=qz4 z 48;have a0:ls ""=[]:=rfl;have a1:ls "0"=[48]:=by decide
 rw [a0]at e0;rw [a1]at e1;unfold L3.numL
 by_cases h0:ls z=[]
 ·rw[X5 h0]at e0;simp![e0];exact⟨_,by rw[X5 h0];rfl,trivial⟩
 rw [X1 h0]at e0;simp![e0];refine K8 [] (λd y=>y.2=inS "0123456789" d) ?_;simp![hb];refine⟨λd hd=>?_,λys hy=>?_⟩
 ·obtain⟨c,hc,rfl⟩:=List.mem_map.mp hd;have e:Q9 (.str ⟨#[c]⟩) (.str "0123456789")=some (.bl (JV ⟨#[c]⟩ "0123456789")):=rfl;simp![e];exact⟨⟨_,rfl⟩,rfl⟩
 ·rw[zW,kj7 (h:=inS "0123456789") (λ_ _ h=>h) hy,qqv];simp![qv1];have ea:((ls z).all λc=>decide (c∈ls "0123456789"))=(ls z).all L3.figC:=rfl;rw[ea,X1 h0];simp only[back,clr];cases ha:(ls z).all L3.figC with
  | false=>
   simp![];exact⟨_,rfl,trivial⟩
  | true=>
   by_cases h1:ls z=[48]
   ·rw[X5 h1]at e1;simp![e1];exact⟨_,by rw[X5 h1];rfl,trivial⟩
   ·rw[X1 h1]at e1;simp![e1,e2];exact⟨_,by rw[X1 h1];rfl,trivial⟩
theorem JZ{o:Own}{z:Str}{lo hi:Option Int}(h:z.cps.size<=1000000):fSl (o,.str z) lo hi=some (.dp,.str (Txt.slice z lo hi)):=by
 have hl:(Txt.slice z lo hi).length<=z.length:=Txt.slice_le z lo hi;have h:z.length<=1000000:=h;show(if(Txt.slice z lo hi).length<=big then _ else none)=_;rw[X9 (by unfold big;omega)]
theorem jz5(z:Str)(h:z.cps.size≠0):ls (Txt.slice z (some 1) none)=(ls z).tail:=by
 rw[show Txt.slice z (some 1) none=StrLaws.sliceText z (some 1) none from rfl,StrLaws.sliceText_from ⟨by decide,by rw[X0];omega⟩];show List.take _ (List.drop 1 (ls z))=_;have hl:(ls z).length=z.cps.toList.length:=rfl;rw[List.take_of_length_le (by rw[Yi,hl];omega),List.drop_one]
theorem qwj(z:Str)(hz:z.cps.size<=1000000):Is V7 [(.no,.str z)] (L3.nameL (ls z)):=by
 unfold V7;refine vq ?_;have e0:=zY z "-0";have a0:ls "-0"=[45,48]:=by decide
 rw[a0]at e0;have e2:J8 "-" (.str z)=some (.bl (decide ((ls z).head?=some 45))):=qz4 z 45;unfold L3.nameL
 by_cases h0:ls z=[45,48]
 ·rw[X5 h0]at e0;simp![e0];exact⟨_,by rw[X5 h0];rfl,trivial⟩
 rw[X1 h0]at e0;rw[X1 h0];unfold L3.figsL
 by_cases h1:(ls z).head?=some 45
 ·have hn:z.cps.size≠0:=λe=>by
   have:(ls z).length=0:=by rw[X0];exact e
   rw[List.length_eq_zero_iff]at this;rw[this]at h1;cases h1
  have e1:=jz5 z hn;rw[X5 h1]at e2;have s1:=λo=>JZ (o:=o) (z:=z) (lo:=some 1) (hi:=none) hz
  have hl:(Txt.slice z (some 1) none).length<=z.length:=Txt.slice_le z _ _;have hl:(Txt.slice z (some 1) none).cps.size<=z.cps.size:=hl;rw[X9 h1,<-e1];generalize Txt.slice z (some 1) none=w at e1 s1 hl;have l:kz (.str w)=some (.int w.cps.size):=rfl;simp![e0,e2,s1];refine(qqj w (by omega)).use ?_;intro _ _;cases L3.numL (ls w)with
  |false=>simp![];exact⟨_,rfl,trivial⟩
  |true=>
   simp![l];exact⟨.dp,by rw[X0,Bool.true_and,Bool.true_and];congr 2;exact decide_eq_decide.mpr (by omega),trivial⟩
 ·rw[X1 h1]at e2;rw[Xg h1];have l:kz (.str z)=some (.int z.cps.size):=rfl;simp![e0,e2];refine(qqj z (by omega)).use ?_;intro _ _;cases L3.numL (ls z)with
  |false=>simp![];exact⟨_,rfl,trivial⟩
  |true=>
   simp![l];exact⟨.dp,by rw[X0,Bool.true_and,Bool.true_and];congr 2;exact decide_eq_decide.mpr (by omega),trivial⟩
theorem _root_.Q.Oo.oe{f:Fn}{xs:List Sd}{S:Sd->Prop}{W X:XP}{E:En}{P:En->Sd->Prop}(h:Oo f xs S W)(k:∀y,S y->P E y)(l:∀c,W c->X c):Oe f xs E P X:=Oo.ox (Y:=λ_=>X) h k l
theorem qw6(z:Str)(hz:z.cps.size<=1000000):Oo VV [(.no,.str z)] (λy=>∃p:Str×Int,y=(.no,.tup [.str p.1,.int p.2])/\L3.partL (ls z)=some p) (λc=>c="NoText"/\L3.partL (ls z)=none):=by
 have hp:Jz 58 (.str z)=some (.tup [.str (Txt.partition z ⟨#[58]⟩).1,.str (Txt.partition z ⟨#[58]⟩).2.1,.str (Txt.partition z ⟨#[58]⟩).2.2]):=by
  have hz:z.length<=1000000:=hz;show(if z.length<=sizeLine then _ else _)=_;rw[X9 (Xl hz (by decide))]
 obtain⟨q1,q2⟩:=L3.part_list z 58;generalize (Txt.partition z ⟨#[58]⟩).2.1=m at hp;have hls:(ls z).length=z.cps.size:=X0;have n2:(Txt.partition z ⟨#[58]⟩).2.2.cps.size<=1000000:=by
  have:=congrArg List.length q2;rw[X0,List.length_tail]at this;have h2:(List.dropWhile (λx:Nat=>x != 58) z.cps.toList).length<=z.cps.toList.length:=(List.dropWhile_sublist _).length_le;have h3:z.cps.toList.length=z.cps.size:=X0;omega
 generalize (Txt.partition z ⟨#[58]⟩).1=a at hp q1;generalize (Txt.partition z ⟨#[58]⟩).2.2=b at hp q2 n2;unfold VV;refine vq ?_;have pt:L3.partL (ls z)=if L3.signL (ls a)&&L3.nameL (ls b)then some (a,L3.valL (ls b))else none:=by
  unfold L3.partL;rw[<-q1,<-q2]
 rw [pt];have p0:∀x y w:D,qZ (.tup [x,y,w]) (.int 0)=some x:=λ_ _ _=>rfl
 have p2:∀x y w:D,qZ (.tup [x,y,w]) (.int 2)=some w:=λ_ _ _=>rfl
 simp![hp,p0,p2];refine(qvf a).any.use ?_;intro _ _;cases hs:L3.signL (ls a)with
 | false=>
  simp![↓reduceIte,Bool.false_and]
 | true=>
  simp![p0,p2];refine(qwj b n2).any.use ?_;intro _ _;cases hn:L3.nameL (ls b)with
  | false=>
   simp![Bool.and_false]
  | true=>
   obtain⟨i1,i2⟩:=L3.int_name hn;have hi:JK (.str b)=some (.int (L3.valL (ls b))):=by
    show(if b.length<=640 then(PySem.intText? b).map D.int else none)=_;rw[X9 (by omega),i1];rfl
   simp![p0,p2,hi];exact⟨(a,L3.valL (ls b)),rfl,by simp⟩
def prD:D->Option (Str×Int)
 |.tup [.str a,.int i]=>some (a,i)
 |_=>none
def ptD:D->Option (Str×Int)
 |.str z=>L3.partL (ls z)
 |_=>none
theorem jzf:∀{zs:List Str} {ys:List Sd},Each (λd y=>∃p:Str×Int,y.2=.tup [.str p.1,.int p.2]/\ptD d=some p) (zs.map D.str) ys->∃r,ys.map (·.2)=rwD r/\(zs.map ls).mapM L3.partL=some r
 |[],[],_=>⟨[],rfl,rfl⟩
 |z::zs,y::ys,⟨⟨p,h1,h2⟩,h⟩=>by
  obtain⟨r,e1,e2⟩:=jzf h;have h2:L3.partL (ls z)=some p:=h2;exact⟨p::r,by rw[List.map_cons,e1,h1];rfl,by rw[List.map_cons,List.mapM_cons,h2,e2];rfl⟩
theorem jxi{f:List Nat->Option (Str×Int)}{x:List Nat}(hx:f x=none):∀{l:List (List Nat)},x∈l->l.mapM f=none
 | y::l,h=>by
  rw[List.mapM_cons];rcases List.mem_cons.mp h with rfl|h
  ·rw[hx];rfl
  ·rw[jxi hx h];cases f y<;>rfl
theorem qq8(z:Str)(hz:z.cps.size<=1000000):Oo xw [(.no,.str z)] (λy=>∃r,y=(.rt,.lst (rwD r))/\L3.rowL (ls z)=some r) (λc=>c="NoText"/\L3.rowL (ls z)=none):=by
 have e0:=zY z "-";have a0:ls "-"=[45]:=by decide
 rw[a0]at e0;have dr:K9 32 (.no,.str z)=some (.rt,.lst ((Txt.split z ⟨#[32]⟩).map D.str)):=by
  have hz:z.length<=1000000:=hz;show(if z.length<sizeLine then _ else _)=_;rw[X9 (Nat.lt_of_le_of_lt hz (by decide))]
 have q1:=L3.split_list z 32;have q2:∀w∈Txt.split z ⟨#[32]⟩,w.cps.size<=z.cps.size:=λw hw=>Q.split_parts hw
 generalize Txt.split z ⟨#[32]⟩=zs at dr q1 q2
 have q3:(L3.splitL 32 (ls z)).length=zs.length:=by rw[<-q1,X7]
 unfold xw;refine vq ?_;unfold L3.rowL
 by_cases h0:ls z=[45]
 ·rw[X5 h0]at e0;simp![e0];exact⟨[],rfl,by rw[X9 h0]⟩
 rw[X1 h0]at e0;rw[Xg h0]
 by_cases h1:zs.length<=60
 rotate_left
 ·have g:fGt (.int zs.length) (.int 60)=some (.bl true):=by rw[gt_ii];simp;omega
  simp![e0,dr,g];rw[Xg (by omega)]
 have g:fGt (.int zs.length) (.int 60)=some (.bl false):=by rw[gt_ii];simp;omega
 simp![e0,dr,g];rw[X9 (by omega),<-q1];refine K8 [] (λd y=>∃p:Str×Int,y.2=.tup [.str p.1,.int p.2]/\ptD d=some p) ?_;simp![];refine⟨λd hd=>?_,λys hy=>?_⟩
 ·obtain⟨w,hw,rfl⟩:=List.mem_map.mp hd;refine(qw6 w (Xl (q2 w hw) hz)).oe ?_ ?_
  ·rintro y ⟨p,rfl,hp⟩;exact⟨⟨_,rfl⟩,p,rfl,hp⟩
  ·rintro c ⟨rfl,hp⟩;exact⟨rfl,jxi hp (List.mem_map.mpr ⟨w,hw,rfl⟩)⟩
 ·obtain⟨r,e1,e2⟩:=jzf hy;rw[zW,e1];exact⟨r,rfl,e2⟩
end Nk06
namespace Nk06
open Q PySem C
theorem kvg(y:Str):∀l:List Nat,((l.filter λc=>!decide (c∈ls y)).length=0)=(l.all (λc=>decide (c∈ls y))=true)
 | []=>by simp
 | c::l=>by
  have ih:=kvg y l;rw[List.filter_cons,List.all_cons]
  by_cases h:c∈ls y
  ·rw[X5 h,Bool.true_and];exact ih
  ·rw[X1 h,Bool.false_and];simp
theorem kjr{X:XP}{y z:Str}{E:En}(E2:En){it:Ev (List D)}{P:En->Sd->Prop}(ib:Eo (it E) (λE1 ds=>E1=E2/\ds=(ls z).map λc=>D.str ⟨#[c]⟩) X)
  (h:∀ys:List D,(ys.length=0)=((ls z).all (λc=>decide (c∈ls y))=true)->P E2 (.rt,.lst ys)):
  Eo (cLC .rt 1 [] it (.n 0) (tE (cF2 (pu2 xk) (vV 0) (vE (cC (.str y))))) (cV 0) E) P X:=by
 refine qx3 (λE1 B ds ay=>E1=E2/\∃l1 l2 q,ls z=l1++l2/\B=[q]/\ds=l2.map (λc=>D.str ⟨#[c]⟩)/\ay.length=(l1.filter λc=>!decide (c∈ls y)).length) ?_ ?_ ?_
 ·refine ib.mono ?_;rintro E1 ds ⟨rfl,rfl⟩;exact⟨rfl,[],ls z,none,rfl,rfl,rfl,rfl⟩
 ·rintro E1 B d ds ay ⟨rfl,l1,l2,q,e,rfl,eh,ha⟩;cases l2 with
  | nil=>cases eh
  | cons c l2=>
   injection eh with e1 e2;subst e1 e2;have en:xk (.str ⟨#[c]⟩) (.str y)=some (.bl (!decide (c∈ls y))):=by
    rw[<-qqp];rfl
   have hl:(List.filter (λc=>!decide (c∈ls y)) (l1++[c])).length=(List.filter (λc=>!decide (c∈ls y)) l1).length+if c∈ls y then 0 else 1:=by
    rw[List.filter_append,Xx]
    congr 1
    rw[List.filter_cons]
    by_cases hc:c∈ls y
    ·rw[X5 hc,X9 hc];rfl
    ·rw[X1 hc,Xg hc];rfl
   simp![en]
   by_cases hc:c∈ls y
   ·rw[X5 hc];simp![];exact⟨l1++[c],l2,_,by rw[e];simp,rfl,rfl,by rw[hl,X9 hc];exact ha⟩
   ·rw[X1 hc];simp![];exact⟨l1++[c],l2,_,by rw[e];simp,rfl,rfl,by rw[hl,Xg hc,Xx,ha];rfl⟩
 ·rintro E1 B ay ⟨rfl,l1,l2,q,e,rfl,eh,ha⟩;have:l2=[]:=by cases l2 with|nil=>rfl|cons _ _=>cases eh
  subst this;rw[zW];refine h _ ?_;rw[X7,ha,kvg,e,Xs]
def W1:Option Int->D
 |some i=>.int i
 |none=>.non
theorem qk9(cs:List Nat):L3.nameL cs=(!decide (L3.figsL cs=[])&&(decide ((L3.figsL cs).length<=60)&&(!(decide ((L3.figsL cs).head?=some 48) && !decide (cs=[48]))&&(L3.figsL cs).all L3.figC))):=by
 unfold L3.nameL L3.numL;have io:(!decide (cs=[45,48])&&(decide (L3.figsL cs=[48])||!decide ((L3.figsL cs).head?=some 48)))=!(decide ((L3.figsL cs).head?=some 48) && !decide (cs=[48])):=by
  unfold L3.figsL
  by_cases hm:cs.head?=some 45
  ·rw[X9 hm];cases cs with
   | nil=>cases hm
   | cons c r=>
    have:c=45:=by simpa using hm
    subst this;rw[List.tail_cons,X1 (show ¬(45::r=[48])by intro e;injection e with e _;omega)]
    by_cases hr:r=[48]
    ·subst hr;rfl
    ·rw[X1 hr,X1 (show ¬(45::r=[45,48])by intro e;injection e with _ e;exact hr e)];simp
  ·rw[Xg hm];have:¬cs=[45,48]:=λe=>hm (by rw[e];rfl)
   rw[X1 this]
   by_cases hr:cs=[48]
   ·subst hr;rfl
   ·rw[X1 hr];simp
 rw[<-io];generalize decide (cs=[45,48])=a;generalize decide (L3.figsL cs=[])=b;generalize decide (L3.figsL cs=[48])=d;generalize decide ((L3.figsL cs).head?=some 48)=e;generalize decide ((L3.figsL cs).length<=60)=f;generalize (L3.figsL cs).all L3.figC=g;cases a<;>cases b<;>cases d<;>cases e<;>cases f<;>cases g<;>rfl
noncomputable def qvh:Sm:=
  (jq (sIf (tOr (tE (cF2 (pu2 fEq) (vV 1) (vE (cC (.str ""))))) (tOr (tE (cF2 (pu2 fGt) (vE (cF1 (pu1 kz) (vV 1))) (C9 60))) (tAnd (tE (cF2 (pu2 fEq) (qJ (vV 1) (C9 0)) (vE (cC (.str "0"))))) (tE (cF2 (pu2 fNe) (vV 0) (vE (cC (.str "0")))))))) (jK (cC .non)) k9)
  (jq (sIf (tE (cF2 (pu2 fGt) (vE (cF1 (pu1 kz) (vE (cLC .rt 1 [] (itS (cV 1)) (.n 0) (tE (cF2 (pu2 xk) (vV 0) (vE (cC (.str "0123456789"))))) (cV 0))))) (C9 0))) (jK (cC .non)) k9)
  (jK (cF1 (pu1 JK) (vV 0)))))
theorem kqq{z w:Str}{o:Own}(hz:z.cps.size<=1000000)(hl:w.cps.size<=1000000)(hw:ls w=L3.figsL (ls z)){N C:En->Prop}:Po (qvh [some (.no,.str z),some (o,.str w)]) N C (λy=>∃o':Own,y=(o',W1 (if L3.nameL (ls z)then some (L3.valL (ls z))else none))/\True) noX:=by
 have l:kz (.str w)=some (.int w.cps.size):=rfl;have e0:=zY w "";have e1:=vvt z "0";have a0:ls ""=[]:=rfl;have a1:ls "0"=[48]:=by decide
 rw [a0]at e0;rw [a1]at e1;have hn:=qk9 (ls z);rw [<-hw]at hn;have jc:(ls w).length=w.cps.size:=X0;rw [jc]at hn;unfold qvh
 by_cases h0:ls w=[]
 ·rw[X5 h0]at e0 hn;simp![e0];exact⟨_,by rw[hn];rfl,trivial⟩
 rw [X1 h0]at e0 hn
 by_cases h6:w.cps.size<=60
 rotate_left
 ·have g:fGt (.int w.cps.size) (.int 60)=some (.bl true):=by rw[gt_ii];simp;omega
  rw[X1 h6]at hn;simp![e0,l,g];exact⟨_,by rw[hn];rfl,trivial⟩
 have g:fGt (.int w.cps.size) (.int 60)=some (.bl false):=by rw[gt_ii];simp;omega
 rw [X5 h6]at hn;obtain⟨c,r,hc⟩:∃c r,ls w=c::r:=by
  cases h:ls w with
  | nil=>exact absurd h h0
  | cons c r=>exact⟨c,r,rfl⟩
 have ix:qZ (.str w) (.int 0)=some (.str ⟨#[c]⟩):=by
  have hs:(0:Int)<w.cps.size:=by rw[<-jc,hc];simp
  show((Q.ixN w.cps.size 0).bind λj=>(w.cps.toList[j]?).map λc=>D.str ⟨#[c]⟩)=_;unfold Q.ixN;rw[X9 (by decide),X9 hs];show((w.cps.toList[0]?).map λc=>D.str ⟨#[c]⟩)=_;rw[show w.cps.toList=c::r from hc];rfl
 have e2:fEq (.str ⟨#[c]⟩) (.str "0")=some (.bl (decide ((ls w).head?=some 48))):=by
  rw[zY,a1,hc]
  congr 2
  refine decide_eq_decide.mpr ?_;show[c]=[48]↔some c=some 48;simp
 by_cases h2:(decide ((ls w).head?=some 48) && !decide (ls z=[48]))=true
 ·have h3:=h2;rw[Bool.and_eq_true]at h3;rw[h3.1]at e2;rw[h3.2]at e1;rw[h2]at hn;simp![e0,l,g,ix,e2,e1];exact⟨_,by rw[hn];rfl,trivial⟩
 have h2:=Bool.eq_false_iff.mpr h2;rw [h2]at hn;have hb:w.cps.size<=big:=by unfold big;omega
 rw [Bool.not_false,Bool.true_and,Bool.true_and,Bool.true_and]at hn;have fin:∀k:Bool,Eo (cLC .rt 1 [] (itS (cV 1)) (.n 0) (tE (cF2 (pu2 xk) (vV 0) (vE (cC (.str "0123456789"))))) (cV 0) [some (.no,.str z),some (o,.str w)]) (λE x=>E=[some (.no,.str z),some (.no,.str w)]/\∃ys:List D,x=(.rt,.lst ys)/\(ys.length=0)=(L3.nameL (ls z)=true)) noX:=λ_=>by
  refine kjr (z:=w) [some (.no,.str z),some (.no,.str w)] ?_ λys hy=>⟨rfl,ys,rfl,?_⟩
  ·simp![hb]
  ·rw[hn];exact hy
 by_cases h4:(ls w).head?=some 48
 ·rw[X5 h4]at e2 h2;rw[Bool.true_and]at h2;rw[h2]at e1;simp![e0,l,g,ix,e2,e1];refine(fin true).mono ?_;rintro E x ⟨rfl,ys,rfl,hy⟩;simp![];cases hv:L3.nameL (ls z)with
  | true=>
   rw[hv]at hy;have i4:ys.length=0:=hy▸rfl;obtain⟨i1,i2⟩:=L3.int_name hv;have hi:JK (.str z)=some (.int (L3.valL (ls z))):=by
    show(if z.length<=640 then(PySem.intText? z).map D.int else none)=_;rw[X9 (by omega),i1];rfl
   have g0:decide ((0:Int)<ys.length)=false:=by rw[i4];rfl
   simp![g0,hi];exact⟨_,rfl,trivial⟩
  | false=>
   rw[hv]at hy;have i4:¬ys.length=0:=λe=>Bool.false_ne_true (hy▸e)
   have g0:decide ((0:Int)<ys.length)=true:=X5 (by omega);simp![g0];exact⟨_,rfl,trivial⟩
 ·rw[X1 h4]at e2;simp![e0,l,g,ix,e2];refine(fin true).mono ?_;rintro E x ⟨rfl,ys,rfl,hy⟩;simp![];cases hv:L3.nameL (ls z)with
  | true=>
   rw[hv]at hy;have i4:ys.length=0:=hy▸rfl;obtain⟨i1,i2⟩:=L3.int_name hv;have hi:JK (.str z)=some (.int (L3.valL (ls z))):=by
    show(if z.length<=640 then(PySem.intText? z).map D.int else none)=_;rw[X9 (by omega),i1];rfl
   have g0:decide ((0:Int)<ys.length)=false:=by rw[i4];rfl
   simp![g0,hi];exact⟨_,rfl,trivial⟩
  |false=>
   rw[hv]at hy;have i4:¬ys.length=0:=λe=>Bool.false_ne_true (hy▸e)
   have g0:decide ((0:Int)<ys.length)=true:=X5 (by omega);simp![g0];exact⟨_,rfl,trivial⟩
theorem kvw(z:Str):(ls (Txt.slice z none (some 1))=[45])↔(ls z).head?=some 45:=by
 by_cases h:z.cps.size=0
 ·have hl:(Txt.slice z none (some 1)).length<=z.length:=Txt.slice_le z _ _;have h1:(ls (Txt.slice z none (some 1))).length=0:=by
   rw[X0];have hl:(Txt.slice z none (some 1)).cps.size<=z.cps.size:=hl;omega
  have h2:(ls z).length=0:=by rw[X0];exact h
  rw[List.length_eq_zero_iff.mp h1,List.length_eq_zero_iff.mp h2];simp
 ·rw[show Txt.slice z none (some 1)=StrLaws.sliceText z none (some 1)from rfl,StrLaws.sliceText_to ⟨by decide,by rw[X0];omega⟩];show List.take 1 (List.drop 0 (ls z))=[45]↔_;have h2:(ls z).length≠0:=by rw[X0];exact h
  cases hc:ls z with
  |nil=>rw[hc]at h2;exact absurd rfl h2
  |cons c r=>simp
theorem kxj(z:Str)(hz:z.cps.size<=1000000):Oo Qx [(.no,.str z)] (λy=>∃o':Own,y=(o',W1 (if L3.nameL (ls z)then some (L3.valL (ls z))else none))/\True) noX:=by
 have e:Qx=fn 2 (jq (jW 1 (cV 0)) (jq (sIf (tE (cF2 (pu2 fEq) (vE (cSl (vV 0) none (some (C9 1)))) (vE (cC (.str "-"))))) (jW 1 (cSl (vV 0) (some (C9 1)) none)) k9) qvh)):=rfl;rw[e];refine vq ?_;have s1:=λo=>JZ (o:=o) (z:=z) (lo:=none) (hi:=some 1) hz
 have s2:=λo=>JZ (o:=o) (z:=z) (lo:=some 1) (hi:=none) hz
 have e0:=zY (Txt.slice z none (some 1)) "-";have a0:ls "-"=[45]:=by decide
 rw[a0,decide_eq_decide.mpr (kvw z)]at e0
 by_cases h1:(ls z).head?=some 45
 ·have hn:z.cps.size≠0:=λe=>by
   have:(ls z).length=0:=by rw[X0];exact e
   rw[List.length_eq_zero_iff]at this;rw[this]at h1;cases h1
  have hl:(Txt.slice z (some 1) none).length<=z.length:=Txt.slice_le z _ _;have hl:(Txt.slice z (some 1) none).cps.size<=z.cps.size:=hl;rw[X5 h1]at e0;simp![s1,s2,e0];exact kqq hz (by omega) (by rw[jz5 z hn];unfold L3.figsL;rw[X9 h1])
 ·rw[X1 h1]at e0;simp![s1,s2,e0];exact kqq hz (by omega) (by unfold L3.figsL;rw[Xg h1])
end Nk06
namespace Nk06
open Q PySem C
def YW:Option (List (Str×Int))->D
 |some r=>.lst (rwD r)
 |none=>.non
theorem vqj:L3.nameL []=false:=rfl
theorem qk1(z:Str)(hz:z.cps.size<=1000000):∃a m b:Str,Jz 58 (.str z)=some (.tup [.str a,.str m,.str b])/\a.cps.size<=1000000/\b.cps.size<=1000000/\(ls m=[]->L3.nameL (ls b)=false)/\L3.partL (ls z)=if L3.signL (ls a)&&L3.nameL (ls b)then some (a,L3.valL (ls b))else none:=by
 have hp:Jz 58 (.str z)=some (.tup [.str (Txt.partition z ⟨#[58]⟩).1,.str (Txt.partition z ⟨#[58]⟩).2.1,.str (Txt.partition z ⟨#[58]⟩).2.2]):=by
  have hz:z.length<=1000000:=hz;show(if z.length<=sizeLine then _ else _)=_;rw[X9 (Xl hz (by decide))]
 obtain⟨q1,q2⟩:=L3.part_list z 58;have h3:z.cps.toList.length=z.cps.size:=X0;have n1:(Txt.partition z ⟨#[58]⟩).1.cps.size<=1000000:=by
  have:=congrArg List.length q1;rw[X0]at this;have h2:(List.takeWhile (λx:Nat=>x != 58) z.cps.toList).length<=z.cps.toList.length:=(List.takeWhile_sublist _).length_le;omega
 have n2:(Txt.partition z ⟨#[58]⟩).2.2.cps.size<=1000000:=by
  have:=congrArg List.length q2;rw[X0,List.length_tail]at this;have h2:(List.dropWhile (λx:Nat=>x != 58) z.cps.toList).length<=z.cps.toList.length:=(List.dropWhile_sublist _).length_le;omega
 refine⟨_,_,_,hp,n1,n2,λhm=>?_,?_⟩
 ·rcases PyProof.Rows.partition_whole z ⟨#[58]⟩with⟨e,h⟩|⟨i,e,h,hk⟩
  ·rw[e];rfl
  ·rw[e]at hm;cases hm
 ·unfold L3.partL;rw[<-q1,<-q2]
theorem qjk(z:Str)(hz:z.cps.size<=1000000):Oo Q8 [(.no,.str z)] (λy=>∃o':Own,y=(o',YW (L3.rowL (ls z)))/\True) noX:=by
 have e0:=zY z "-";have a0:ls "-"=[45]:=by decide
 have b0:ls ""=[]:=rfl;rw [a0]at e0;have dr:K9 32 (.no,.str z)=some (.rt,.lst ((Txt.split z ⟨#[32]⟩).map D.str)):=by
  have hz:z.length<=1000000:=hz;show(if z.length<sizeLine then _ else _)=_;rw [X9 (Nat.lt_of_le_of_lt hz (by decide))]
 have q1:=L3.split_list z 32;have q2:∀w∈Txt.split z ⟨#[32]⟩,w.cps.size<=z.cps.size:=λw hw=>Q.split_parts hw
 generalize Txt.split z ⟨#[32]⟩=zs at dr q1 q2
 have q3:(L3.splitL 32 (ls z)).length=zs.length:=by rw[<-q1,X7]
 unfold Q8;refine vq ?_
 by_cases h0:ls z=[45]
 ·rw [X5 h0]at e0;simp![e0];exact⟨_,by unfold L3.rowL;rw[X9 h0];rfl,trivial⟩
 rw [X1 h0]at e0
 by_cases h1:zs.length<=60
 rotate_left
 ·have g:fGt (.int zs.length) (.int 60)=some (.bl true):=by rw[gt_ii];simp;omega
  simp![e0,dr,g];exact⟨_,by unfold L3.rowL;rw[Xg h0,Xg (by omega)];rfl,trivial⟩
 have g:fGt (.int zs.length) (.int 60)=some (.bl false):=by rw[gt_ii];simp;omega
 have er:L3.rowL (ls z)=(zs.map ls).mapM L3.partL:=by
  unfold L3.rowL;rw [Xg h0,X9 (by omega),<-q1]
 rw [er];have no:∀w∈zs,L3.partL (ls w)=none->(zs.map ls).mapM L3.partL=none:=λw hw hp=>jxi hp (List.mem_map.mpr ⟨w,hw,rfl⟩)
 simp![e0,dr,g];refine Zq (λE jv=>∃(f1 f2:List Str) (r:List (Str×Int)) (l3 l4 l5 l6:Option Sd),E=[some (.no,.str z),some (.no,.lst (zs.map D.str)),some (.rt,.lst (rwD r)),l3,l4,l5,l6]/\zs=f1++f2/\jv=f2.map D.str/\(f1.map ls).mapM L3.partL=some r/\r.length=f1.length) ?_ ?_ ?_
 ·simp![];exact⟨[],zs,[],_,_,_,_,rfl,rfl,rfl,rfl,rfl⟩
 ·rintro E d ds ⟨f1,f2,r,l3,l4,l5,l6,rfl,hf,hr,hm,hrl⟩;cases f2 with
  | nil=>cases hr
  | cons w f2=>
   injection hr with e1 e2;subst e1 e2;have hw:w∈zs:=by rw[hf];simp
   obtain⟨a,m,b,hp,n1,n2,hmk,hpt⟩:=qk1 w (Xl (q2 w hw) hz);have l:kz (.str a)=some (.int a.cps.size):=rfl;have em:=zY m "";rw [b0]at em;have hla:(ls a).length=a.cps.size:=X0;have jp:(L3.signL (ls a)&&L3.nameL (ls b))=false->∃o':Own,((Own.dp,D.non):Sd)=(o',YW ((zs.map ls).mapM L3.partL))/\True:=λh=>⟨.dp,by rw[no w hw (by rw[hpt,h];rfl)];rfl,trivial⟩
   by_cases h2:ls m=[]
   ·rw[X5 h2]at em;simp![hp,em];exact jp (by rw[hmk h2,Bool.and_false])
   rw [X1 h2]at em
   by_cases h3:a.cps.size<1
   ·have g1:fLt (.int a.cps.size) (.int 1)=some (.bl true):=by rw[lt_ii];simp;omega
    simp![hp,em,l,g1];exact jp (by unfold L3.signL;rw[hla,X1 (by omega)];rfl)
   have g1:fLt (.int a.cps.size) (.int 1)=some (.bl false):=by rw[lt_ii];simp;omega
   by_cases h4:8<a.cps.size
   ·have g2:fGt (.int a.cps.size) (.int 8)=some (.bl true):=by rw[gt_ii];simp;omega
    simp![hp,em,l,g1,g2];exact jp (by unfold L3.signL;rw[hla,X1 (show ¬a.cps.size<=8 by omega),Bool.and_false];rfl)
   have g2:fGt (.int a.cps.size) (.int 8)=some (.bl false):=by rw[gt_ii];simp;omega
   have hN:=kxj b n2;have sg:L3.signL (ls a)=(ls a).all λc=>decide (c∈ls AZ):=by
    unfold L3.signL;rw[hla,X5 (show 1<=a.cps.size by omega),X5 (show a.cps.size<=8 by omega)];rfl
   have hb:a.cps.size<=big:=by unfold big;omega
   cases hv:L3.nameL (ls b)with
   | false=>
    rw[hv]at hN;simp![hp,em,l,g1,g2];refine hN.use ?_;intro o _;simp![W1];exact jp (by rw[hv,Bool.and_false])
   | true=>
    rw[hv]at hN;simp![hp,em,l,g1,g2];refine hN.use ?_;intro o _;simp![W1];refine kjr (z:=a) [some (.no,.str z),some (.no,.lst (zs.map D.str)),some (.rt,.lst (rwD r)),some (.no,.str w),some (.no,.str a),some (.no,.str m),some (.no,.str b)] ?_ λys hy=>?_
    ·simp![hb]
    rw[<-sg]at hy;cases hs:L3.signL (ls a)with
    | false=>
     rw[hs]at hy;have i4:¬ys.length=0:=λe=>Bool.false_ne_true (hy▸e)
     have g0:decide ((0:Int)<ys.length)=true:=X5 (by omega);simp![g0];exact jp (by rw[hs,Bool.false_and])
    | true=>
     rw[hs]at hy;have i4:ys.length=0:=hy▸rfl;have g0:decide ((0:Int)<ys.length)=false:=by rw[i4];rfl
     rw[hs,hv]at hpt;simp![g0];refine qv0 rfl ?_;simp![];refine hN.use ?_;intro o2 _;simp![W1];have hzl:zs.length=f1.length+(f2.length+1):=by rw[hf];simp
     refine⟨_,rfl,by rw[X7];omega,f1++[w],f2,r++[(a,L3.valL (ls b))],some (.no,.str w),some (.no,.str a),some (.no,.str m),some (.no,.str b),?_,by rw[hf];simp,rfl,?_,by simp[hrl]⟩
     ·rw[show rwD (r++[(a,L3.valL (ls b))])=rwD r++[.tup [.str a,.int (L3.valL (ls b))]]by simp[rwD]]
     ·rw[Y8,List.mapM_append,hm,List.map_cons,List.map_nil,List.mapM_cons,hpt];rfl
 ·rintro E ⟨f1,f2,r,l3,l4,l5,l6,rfl,hf,hr,hm,hrl⟩;have:f2=[]:=by cases f2 with|nil=>rfl|cons _ _=>cases hr
  subst this;rw[Xs]at hf;subst hf;simp![];exact⟨_,by rw[hm];rfl,trivial⟩
end Nk06
namespace Nk06
open Q PySem C
theorem kzi:m__law_mixed=A.m__law_mixed:=rfl
theorem qx5:m__law_words=A.m__law_words:=rfl
theorem vxf:m__law_cell_at=B.m__law_cell_at:=rfl
theorem qkl:m__law_is_row=A.m__law_is_row:=rfl
theorem kq4{ss:List Str}{i:Int}(h0:0<=i)(h1:i<ss.length):∃w∈ss,qZ (.lst (ss.map D.str)) (.int i)=some (.str w):=by
 have h:i.toNat<ss.length:=by omega
 refine⟨ss[i.toNat],List.getElem_mem _,vxb h0 ?_⟩;rw[Y6,X8 h];rfl
theorem kkq{i:Int}(h:L3.Nm i):Jw (.int i)=some (.str (Str.ofString (toString i)))/\(Str.ofString (toString i)).cps.size<=61:=by
 have hs:(Str.ofString (toString i)).cps.size<=61:=by
  have:=(L3.numT_signs h).2;unfold L3.numT at this;rw[X0]at this;exact this
 refine⟨?_,hs⟩;show(if i.natAbs.log2<1920/\(Str.ofString (toString i)).length<=sizeLine then _ else _)=_;have hl:i.natAbs.log2<1920:=by
  rcases Nat.eq_zero_or_pos i.natAbs with z|z
  ·rw[z];decide
  ·refine(Nat.log2_lt (Nat.ne_of_gt z)).mpr ?_;have:i.natAbs<10 ^ 60:=by obtain⟨h1,h2⟩:=h;omega
   exact Xa this (by decide)
 have hs:(Str.ofString (toString i)).length<=61:=hs;rw[X9 ⟨hl,Xl hs (by decide)⟩]
theorem ZW(z:Str)(n:Int)(h:(z.cps.size<=1024/\n<=1024/\-1024<=n)/\(Txt.mul z n).cps.size<=big)(o1 o2:Own):qk (o1,.str z) (o2,.int n)=some (.dp,.str (Txt.mul z n)):=by
 show(if _ then _ else _)=_;rw[X9 h]
theorem vxh{a b:Str}{n m:Nat}(h1:a.cps.size<=n)(h2:b.cps.size<=m):(a++b).cps.size<=n+m:=by
 rw[qV];omega
theorem W6(z:Str)(lo hi:Option Int):(Txt.slice z lo hi).cps.size<=z.cps.size:=Txt.slice_le z lo hi
theorem vjw(c:Int)(hc:A.Sh c):Oo WW [(.no,.int c)] (λy=>∃p:Own×Str,y=(p.1,.str p.2)/\p.2.cps.size<=200) noX:=by
 have hp:((10:Int) ^ (Int.toNat 40))=10 ^ 40:=rfl;have hp2:((7919:Int) ^ (Int.toNat 15))=7919 ^ 15:=rfl;have e1:=kxk (o1:=.no) (o2:=.no) (a:=c) (b:=7919 ^ 15) (by unfold A.Sh at hc;omega) (by decide);have hm:kK (.int (c*7919 ^ 15)) (.int (10 ^ 40))=some (.int (c*7919 ^ 15 % 10 ^ 40)):=mod_i (by decide);have t0:=Xm (c*7919 ^ 15) (show((10:Int) ^ 40)≠0 by decide);have t1:=Xi (c*7919 ^ 15) (show(0:Int)<10 ^ 40 by decide);obtain⟨s1,s2⟩:=kkq (i:=c*7919 ^ 15 % 10 ^ 40) ⟨by omega,by omega⟩;generalize Str.ofString (toString (c*7919 ^ 15 % 10 ^ 40))=n at s1 s2;have q1:=ZW "9" 60 (by decide +kernel) .no .no;have q2:=ZW "9" 61 (by decide +kernel) .no .no;have q3:=ZW "8" 60 (by decide +kernel) .no .no;have q4:=ZW "7" 61 (by decide +kernel) .no .no;have z1:(Txt.mul "9" 60).cps.size=60:=by decide +kernel
 have z2:(Txt.mul "9" 61).cps.size=61:=by decide +kernel
 have z3:(Txt.mul "8" 60).cps.size=60:=by decide +kernel
 have z4:(Txt.mul "7" 61).cps.size=61:=by decide +kernel
 generalize Txt.mul "9" 60=m1 at q1 z1;generalize Txt.mul "9" 61=m2 at q2 z2;generalize Txt.mul "8" 60=m3 at q3 z3;generalize Txt.mul "7" 61=m4 at q4 z4;have l1:=W6 n none (some 1);have l2:=W6 n (some 1) none;have s3:=λo=>JZ (o:=o) (z:=n) (lo:=none) (hi:=some 1) (by omega)
 have s4:=λo=>JZ (o:=o) (z:=n) (lo:=some 1) (hi:=none) (by omega)
 generalize Txt.slice n none (some 1)=w1 at l1 s3;generalize Txt.slice n (some 1) none=w2 at l2 s4;have one:∀c:Nat,(⟨#[c]⟩:Str).cps.size=1:=λ_=>rfl
 have d6:∀(a b:Str),a.cps.size<=100->b.cps.size<=100->∀o1 o2:Own,jJ (o1,.str a) (o2,.str b)=some (.dp,.str (a++b)):=λa b h1 h2 o1 o2=>Q4 (by omega)
 have u1:("0":Str).cps.size=1:=by decide
 have u2:("+":Str).cps.size=1:=by decide
 have u3:("_":Str).cps.size=1:=by decide
 have u4:("-":Str).cps.size=1:=by decide
 have u5:(" ":Str).cps.size=1:=by decide
 have u6:(":":Str).cps.size=1:=by decide
 have a1:=d6 "0" n (by omega) (by omega);have a2:=d6 "+" n (by omega) (by omega);have a3:=d6 w1 "_" (by omega) (by omega);have a4:=d6 (w1++"_") w2 (by rw[qV];omega) (by omega);have a5:=d6 "-" m3 (by omega) (by omega);have a6:=d6 "-" m4 (by omega) (by omega);have a7:=d6 n "-" (by omega) (by omega);have a8:=d6 " " n (by omega) (by omega);have a9:=d6 n ":" (by omega) (by omega);have al:=vkz (o1:=.rt) (o2:=.no) (a:=[.str ("0"++n),.str ("+"++n),.str (w1++"_"++w2),.str m1,.str m2,.str ("-"++m3)]) (b:=[.str "-0",.str ("-"++m4),.str "",.str "-",.str "0",.str "--1",.str (n++"-"),.str (" "++n),.str (n++":"),.str "1e3"]) (by decide) (by decide) (by show(6:Nat)+10<10000;decide);have ix:∀i:Int,0<=i->i<16->∃w:Str,w.cps.size<=200/\qZ (.lst [.str ("0"++n),.str ("+"++n),.str (w1++"_"++w2),.str m1,.str m2,.str ("-"++m3),.str "-0",.str ("-"++m4),.str "",.str "-",.str "0",.str "--1",.str (n++"-"),.str (" "++n),.str (n++":"),.str "1e3"]) (.int i)=some (.str w):=λi h0 h1=>by
  obtain⟨w,hw,e⟩:=kq4 (ss:=["0"++n,"+"++n,w1++"_"++w2,m1,m2,"-"++m3,"-0","-"++m4,"","-","0","--1",n++"-"," "++n,n++":","1e3"]) h0 h1;refine⟨w,?_,e⟩;have v1:("-0":Str).cps.size=2:=by decide
  have v2:("":Str).cps.size=0:=by decide
  have v3:("--1":Str).cps.size=3:=by decide
  have v4:("1e3":Str).cps.size=3:=by decide
  simp only[Xu,Xn,or_false]at hw;rcases hw with rfl|rfl|rfl|rfl|rfl|rfl|rfl|rfl|rfl|rfl|rfl|rfl|rfl|rfl|rfl|rfl<;>(try simp only[qV])<;>omega
 unfold WW;rw[kzi];refine vq ?_;simp![hp,hp2,e1,hm,s1,s3,s4,a1,a2,a3,a4,a5,a6,a7,a8,a9,q1,q2,q3,q4,al];refine(A.mixed_ok c 5 (by decide) (by decide)).use ?_;intro v _;have t0:=Xm v (show(16:Int)≠0 by decide);have t1:=Xi v (show(0:Int)<16 by decide);obtain⟨w,hw,hx⟩:=ix (v % 16) t0 t1;simp![hx];exact⟨(_,w),rfl,hw⟩
end Nk06
namespace Nk06
open Q PySem C
theorem qwo{o:Own}{z:Str}{E:En}{P:En->Sd->Prop}{X:XP}(hz:z.cps.size<=1000):Eo (Vw 0 (some (o,.str z)::E)) P X=P (some (o,.str z)::E) (.rt,.lst [.str "",.str " ",.str "-",.str "- ",.str (" "++z),.str (z++" "),.str (Txt.replace z " " "  ")]):=by
 have hz:z.length<=1000:=hz;unfold Vw;simp only[List.getElem?_cons_zero];rw[X9 hz,qx2]
theorem kzh{G:D->Sd->Prop}{n:Nat}(hG:∀d y,G d y->∃w:Str,y.2=.str w/\w.cps.size<=n):∀{ds:List D} {ys:List Sd},Each G ds ys->∃ps:List Str,ys.map (·.2)=ps.map D.str/\ps.length=ds.length/\∀p∈ps,p.cps.size<=n
 |[],[],_=>⟨[],rfl,rfl,λ_ h=>nomatch h⟩
 |d::ds,y::ys,r=>by
  obtain⟨i,e,hi⟩:=hG d y r.1;obtain⟨ps,h1,h2,h3⟩:=kzh hG r.2;exact⟨i::ps,by simp[e,h1],by simp[h2],λp hp=>(List.mem_cons.mp hp).elim (λz=>z▸hi) (h3 p)⟩
theorem qq6{n:Nat}:∀{ps:List Str},(∀p∈ps,p.cps.size<=n)->(ps.map (·.length)).sum<=ps.length*n
 |[],_=>Nat.zero_le _
 |p::ps,h=>by
  have h1:p.length<=n:=h p X3;have h2:=qq6 (ps:=ps) λq hq=>h q (lc9 _ hq)
  rw[List.map_cons,List.sum_cons,Xj,Nat.add_one_mul];omega
theorem kxz{ps:List Str}{n:Nat}(h:∀p∈ps,p.cps.size<=n)(hn:n<=100)(hl:ps.length<=100):∃z:Str,Jv " " (.lst (ps.map D.str))=some (.str z)/\ls z=L3.joinL 32 (ps.map ls)/\z.cps.size<=ps.length*(n+1):=by
 have hs:=qq6 h;have h1:(" ":Str).length=1:=rfl;have h2:ps.length*n<=100*100:=Nat.mul_le_mul hl hn;have e:ls (Txt.join " " ps)=L3.joinL 32 (ps.map ls):=L3.joinS_cps 32 ps;refine⟨Txt.join " " ps,?_,e,?_⟩
 ·unfold Jv;dsimp only;rw[kkp];dsimp only;rw[X9 (by rw[h1];omega)]
 ·have:=L3.joinL_len (c:=32) (k:=n) (ps:=ps.map ls) λp hp=>by
   obtain⟨y,hy,rfl⟩:=List.mem_map.mp hp;rw[X0];exact h y hy
  rw[<-e,X0,X7]at this;exact this
theorem kw7(t:Str)(c:Int)(ht:t.cps.size<=400)(hc:A.Sh c):Oo QQ [(.no,.str t),(.no,.int c)] (λy=>∃p:Own×Str,y=(p.1,.str p.2)/\p.2.cps.size<=1000000) noX:=by
 have lt:kz (.str t)=some (.int t.cps.size):=rfl;have d6:∀(a b:Str),a.cps.size<=2000->b.cps.size<=2000->∀o1 o2:Own,jJ (o1,.str a) (o2,.str b)=some (.dp,.str (a++b)):=λa b h1 h2 o1 o2=>Q4 (by omega)
 have sg:("ab z019-:; .A_+=\n/|{@`":Str).cps.size=22:=by decide +kernel
 have lsg:kz (.str "ab z019-:; .A_+=\n/|{@`")=some (.int 22):=by
  show some (D.int ((("ab z019-:; .A_+=\n/|{@`":Str).cps.size:Nat):Int))=_;rw[sg];rfl
 unfold QQ;rw[kzi];refine vq ?_;simp![];refine(A.mixed_ok c 1 (by decide) (by decide)).use ?_;intro v1 _;simp![];refine(A.mixed_ok c 2 (by decide) (by decide)).use ?_;intro v2 _;simp![lt,mod_i (a:=v2) (b:=(t.cps.size:Int)+1) (by omega)];refine(A.mixed_ok c 3 (by decide) (by decide)).use ?_;intro v3 _;have r0:=Xm v3 (show(22:Int)≠0 by decide);have r1:=Xi v3 (show(0:Int)<22 by decide);obtain⟨ch,d9,hix⟩:=A.ix_strM "ab z019-:; .A_+=\n/|{@`" (v3 % 22) r0 (by rw[sg];omega);have w0:=Xm v1 (show(8:Int)≠0 by decide);have w1:=Xi v1 (show(0:Int)<8 by decide);generalize v1 % 8=way at w0 w1;generalize v2 % ((t.cps.size:Int)+1)=c9;simp![lsg,hix];have one:(⟨#[ch]⟩:Str).cps.size=1:=rfl;have l1:=W6 t none (some c9);have l2:=W6 t (some (c9+1)) none;have l3:=W6 t (some c9) none;have s1:=λo=>JZ (o:=o) (z:=t) (lo:=none) (hi:=some c9) (by omega)
 have s2:=λo=>JZ (o:=o) (z:=t) (lo:=some (c9+1)) (hi:=none) (by omega)
 have s3:=λo=>JZ (o:=o) (z:=t) (lo:=some c9) (hi:=none) (by omega)
 generalize Txt.slice t none (some c9)=x1 at l1 s1;generalize Txt.slice t (some (c9+1)) none=x2 at l2 s2;generalize Txt.slice t (some c9) none=x3 at l3 s3;have a1:=d6 x1 ⟨#[ch]⟩ (by omega) (by omega);have a2:=d6 (x1++⟨#[ch]⟩) x2 (by rw[qV];omega) (by omega);have a3:=d6 (x1++⟨#[ch]⟩) x3 (by rw[qV];omega) (by omega);have a4:=d6 x1 x2 (by omega) (by omega)
 by_cases c1:way<2
 ·simp![X5 c1,s1,s2,a1,a2];exact⟨(_,x1++⟨#[ch]⟩++x2),rfl,by rw[qV,qV,one];omega⟩
 by_cases c2:way<4
 ·simp![X1 c1,X5 c2,s1,s3,a1,a3];exact⟨(_,x1++⟨#[ch]⟩++x3),rfl,by rw[qV,qV,one];omega⟩
 by_cases c3:way=4
 ·have e:fEq (.int way) (.int 4)=some (.bl true):=by rw[c3];rfl
  simp![X1 c1,X1 c2,e,s1,s2,a4];exact⟨(_,_),rfl,by simp only[qV];omega⟩
 have e3:fEq (.int way) (.int 4)=some (.bl false):=by rw[Ww];simp[c3]
 by_cases c4:way=5
 ·have e:fEq (.int way) (.int 5)=some (.bl true):=by rw[c4];rfl
  simp![X1 c1,X1 c2,e3,e,qwo (show t.cps.size<=1000 by omega)];refine(A.mixed_ok c 4 (by decide) (by decide)).use ?_;intro v4 _;have t0:=Xm v4 (show(7:Int)≠0 by decide);have t1:=Xi v4 (show(0:Int)<7 by decide);obtain⟨w,hw,hx⟩:=kq4 (ss:=[""," ","-","- "," "++t,t++" ",Txt.replace t " " "  "]) t0 t1;simp only[List.map_cons,List.map_nil]at hx;simp![hx];refine⟨(_,w),rfl,?_⟩;have v1:("":Str).cps.size=0:=by decide
  have v2:(" ":Str).cps.size=1:=by decide
  have v3:("-":Str).cps.size=1:=by decide
  have v4:("- ":Str).cps.size=2:=by decide
  have hr:=L3.repl_len t "  " 32;have hr:(Txt.replace t " " "  ").cps.size<=(t.cps.size+1)*t.cps.size+(t.cps.size+1)*2:=hr;have hr2:(t.cps.size+1)*t.cps.size<=401*400:=Nat.mul_le_mul (by omega) ht;simp only[Xu,Xn,or_false]at hw;show w.cps.size<=1000000;rcases hw with rfl|rfl|rfl|rfl|rfl|rfl|rfl<;>(try simp only[qV])<;>omega
 have e4:fEq (.int way) (.int 5)=some (.bl false):=by rw[Ww];simp[c4]
 by_cases c5:way=6
 ·have e:fEq (.int way) (.int 6)=some (.bl true):=by rw[c5];rfl
  have v2:(" ":Str).cps.size=1:=by decide
  have v3:("ab:":Str).cps.size=3:=by decide
  have b1:=d6 t " " (by omega) (by omega);have b2:=d6 (t++" ") "ab:" (by rw[qV];omega) (by omega);simp![X1 c1,X1 c2,e3,e4,e,b1,b2];refine(vjw c hc).use ?_;rintro ⟨o,w⟩ hw;have hw:w.cps.size<=200:=hw;have b3:=d6 (t++" "++"ab:") w (by simp only[qV];omega) (by omega);simp![b3];exact⟨(_,_),rfl,by simp only[qV];omega⟩
 have e5:fEq (.int way) (.int 6)=some (.bl false):=by rw[Ww];simp[c5]
 simp![X1 c1,X1 c2,e3,e4,e5,↓kwd];refine K8 [some (.no,.int c)] (λ_ y=>∃w:Str,y.2=.str w/\w.cps.size<=100) ?_;simp![];refine(A.mixed_ok c 4 (by decide) (by decide)).use ?_;intro v4 _;have t0:=Xm v4 (show(4:Int)≠0 by decide);have t1:=Xi v4 (show(0:Int)<4 by decide);simp![];refine⟨rfl,λd hd=>?_,λys ij=>?_⟩
 ·obtain⟨k,k0,k1,rfl⟩:=ZX hd;have u0:=Xm c (show(3:Int)≠0 by decide);have u1:=Xi c (show(0:Int)<3 by decide);have hm:k*(c % 3)<=70*3:=Int.mul_le_mul (by omega) (by omega) u0 (by decide);have hm0:0<=k*(c % 3):=Int.mul_nonneg k0 u0;obtain⟨n1,n2⟩:=kkq (i:=k*(c % 3)) ⟨by omega,by omega⟩;have v2:("a:":Str).cps.size=2:=by decide
  have b1:=d6 "a:" (Str.ofString (toString (k*(c % 3)))) (by omega) (by omega);simp![n1,b1];exact⟨⟨_,rfl⟩,_,rfl,by rw[qV];omega⟩
 ·obtain⟨ps,g1,g2,g3⟩:=kzh (n:=100) (λd y h=>h) ij;have bz:ps.length<=62:=by
   have:=kxq (k:=0) (n:=59+v4 % 4) (by omega);omega
  obtain⟨z,z1,z2,z3⟩:=kxz g3 (Xb _) (by omega);rw[zW,g1];simp![z1];have:ps.length*101<=62*101:=Nat.mul_le_mul_right _ bz;exact⟨(_,z),rfl,by show z.cps.size<=1000000;omega⟩
end Nk06
namespace Nk06
open Q PySem C
theorem kxi(c:Int)(hc:A.Sh c):Oo m__law_number [(.no,.int c)] (λy=>∃v:Int,y=(.dp,.int v)/\L3.Nm v) noX:=by
 have hp:((10:Int) ^ (Int.toNat 60))=10 ^ 60:=rfl;have hp2:((7919:Int) ^ (Int.toNat 15))=7919 ^ 15:=rfl;unfold m__law_number;refine vq ?_
 by_cases h:c % 3=0
 ·have hd:fEq (.int (c % 3)) (.int 0)=some (.bl true):=by rw[h];rfl
  have t0:=Xm (c / 3) (show(19:Int)≠0 by decide);have t1:=Xi (c / 3) (show(0:Int)<19 by decide);simp![hd];exact⟨_,rfl,by constructor<;>omega⟩
 ·have hd:fEq (.int (c % 3)) (.int 0)=some (.bl false):=by rw[Ww];simp[h]
  have e1:=kxk (o1:=.no) (o2:=.no) (a:=c) (b:=7919 ^ 15) (by unfold A.Sh at hc;omega) (by decide);have hm:kK (.int (c*7919 ^ 15)) (.int (2*10 ^ 60 - 1))=some (.int (c*7919 ^ 15 % (2*10 ^ 60 - 1))):=mod_i (by decide);have t0:=Xm (c*7919 ^ 15) (show((2:Int)*10 ^ 60 - 1)≠0 by decide);have t1:=Xi (c*7919 ^ 15) (show(0:Int)<2*10 ^ 60 - 1 by decide);simp![hd,hp,hp2,e1,hm];exact⟨_,rfl,by constructor<;>omega⟩
theorem qz5{z:Str}{j:Int}(h0:0<=j)(h1:j<=z.cps.size):ls (Txt.slice z none (some j))=(ls z).take j.toNat:=by
 have:=StrLaws.sliceText_to (x:=z) (j:=j) ⟨h0,by rw[X0];exact h1⟩;rw[show Txt.slice z none (some j)=StrLaws.sliceText z none (some j)from rfl,this];simp
theorem qz7{z:Str}{i j:Int}(h0:0<=i)(hij:i<=j)(h1:j<=z.cps.size):ls (Txt.slice z (some i) (some j))=((ls z).drop i.toNat).take (j - i).toNat:=by
 have:=StrLaws.sliceText_plain (x:=z) (i:=i) (j:=j) ⟨h0,hij,by rw[X0];exact h1⟩;rw[show Txt.slice z (some i) (some j)=StrLaws.sliceText z (some i) (some j)from rfl,this]
theorem qjb(c:Int):Oo m__law_words [(.no,.int c),(.no,.int 4)] (λy=>∃l,y=(.rt,sL l)/\l.length=4/\∀z∈l,L3.Wd z) noX:=by
 rw [qx5];unfold A.m__law_words;refine vq ?_;simp![↓kwd];refine K8 [some (.dp,.str AZ),some (.no,.int c)] (λ_ y=>∃ch∈AZ.cps.toList,y.2=.str ⟨#[ch]⟩) ?_;simp![];refine⟨rfl,λd hd=>?_,λys ij=>?_⟩
 ·obtain⟨j,j0,j1,rfl⟩:=ZX hd;simp![];refine(A.mixed_ok c j j0 (by omega)).use ?_;intro v _;have t0:=Xm v (show(26:Int)≠0 by decide);have t1:=Xi v (show(0:Int)<26 by decide);obtain⟨ch,d9,hc⟩:=A.ix_strM AZ (v % 26) t0 t1;simp![hc];exact⟨⟨_,rfl⟩,ch,d9,rfl⟩
 obtain⟨ps,g1,g2,g3⟩:=A.each_one (λd y h=>h) ij;have bz:ps.length=8:=by rw[g2];rfl
 obtain⟨z,hz,z0,z1⟩:=A.join_az g3 (by omega);rw [zW,g1];simp only[back,clr,at',List.map_cons,List.map_nil,List.set_cons_zero,List.set_cons_succ];have zs:z.cps.size<=100:=by omega
 have z8:z.cps.size=8:=by omega
 by_cases h3:c % 3=1
 ·have hd:fEq (.int (c % 3)) (.int 1)=some (.bl true):=by rw[h3];rfl
  simp![hz,hd];refine K8 [some (.dp,.str z),some (.no,.int c)] (λ_ y=>∃w:Str,y.2=.str w/\L3.Wd w) ?_;simp![];refine⟨rfl,λd hd=>?_,λys ij=>?_⟩
  ·obtain⟨j,j0,j1,rfl⟩:=ZX hd;have s1:=B.sl_s (o:=.no) (z:=z) (lo:=none) (hi:=some (1+(j+c / 3) % 8)) zs;have s1':=B.sl_s (o:=.dp) (z:=z) (lo:=none) (hi:=some (1+(j+c / 3) % 8)) zs;have t0:=Xm (j+c / 3) (show(8:Int)≠0 by decide);have t1:=Xi (j+c / 3) (show(0:Int)<8 by decide);have e:=qz5 (z:=z) (j:=1+(j+c / 3) % 8) (by omega) (by omega);simp![s1,s1'];refine⟨⟨_,rfl⟩,_,rfl,?_⟩;have hs:(Txt.slice z none (some (1+(j+c / 3) % 8))).length=(1+(j+c / 3) % 8).toNat:=by
    show(Txt.slice z none (some (1+(j+c / 3) % 8))).cps.size=_;have:=congrArg List.length e;rw[X0,Ye,X0]at this;omega
   refine⟨by omega,by omega,λx hx=>z1 x ?_⟩;have hx:x∈ls (Txt.slice z none (some (1+(j+c / 3) % 8))):=hx;rw [e]at hx;exact List.mem_of_mem_take hx
  ·have io:∀{ds:List D} {ys:List Sd},Each (λ_ y=>∃w:Str,y.2=.str w/\L3.Wd w) ds ys->∃qs:List Str,ys.map (·.2)=qs.map D.str/\qs.length=ds.length/\∀q∈qs,L3.Wd q:=by
    intro ds
    induction ds with
    | nil=>
     intro ys h;cases ys with
     |nil=>exact⟨[],rfl,rfl,λ_ h=>nomatch h⟩
     |cons _ _=>exact h.elim
    | cons d ds ih=>
     intro ys h;cases ys with
     |nil=>exact h.elim
     |cons y ys=>
      obtain⟨⟨w,e,hw⟩,h⟩:=h;obtain⟨qs,h1,h2,h3⟩:=ih h;exact⟨w::qs,by simp[e,h1],by simp[h2],λp hp=>(List.mem_cons.mp hp).elim (λz=>z▸hw) (h3 p)⟩
   obtain⟨qs,k1,k2,k3⟩:=io ij;rw [zW,k1];exact⟨qs,rfl,by rw[k2];rfl,k3⟩
 ·have hd:fEq (.int (c % 3)) (.int 1)=some (.bl false):=by rw[Ww];simp[h3]
  have a0:=Xm (c / 3) (show(8:Int)≠0 by decide);have a1:=Xi (c / 3) (show(0:Int)<8 by decide);have b0:=Xm (c / 24) (show 1+c / 3 % 8≠0 by omega);have b1:=Xi (c / 24) (show 0<1+c / 3 % 8 by omega);simp![hz,hd,mod_i (a:=c / 24) (b:=1+c / 3 % 8) (by omega)];generalize c / 24 % (1+c / 3 % 8)=c9 at b0 b1;obtain⟨lg,hlg⟩:∃lg,lg=1+c / 3 % 8:=⟨_,rfl⟩;rw [<-hlg]at b1 ⊢;have c0:=Xm (c / 192) (show(5:Int)≠0 by decide);have c1:=Xi (c / 192) (show(0:Int)<5 by decide);obtain⟨ch,d9,hix⟩:=A.ix_strM z c9 b0 (by omega);obtain⟨ii,hii⟩:=A.az_found ch (z1 ch d9);have e1:=qz5 (z:=z) (j:=c9) b0 (by omega);have e2:=qz7 (z:=z) (i:=c9+1) (j:=lg) (by omega) (by omega) (by omega);have s1:=λo=>B.sl_s (o:=o) (z:=z) (lo:=none) (hi:=some c9) zs
  have s2:=λo=>B.sl_s (o:=o) (z:=z) (lo:=some (c9+1)) (hi:=some lg) zs
  generalize Txt.slice z none (some c9)=w1 at e1 s1;generalize Txt.slice z (some (c9+1)) (some lg)=w2 at e2 s2;have n1:(w1.cps.size:Int)=c9:=by rw[<-X0,show w1.cps.toList=_ from e1,Ye,X0];omega
  have n2:(w2.cps.size:Int)=lg - (c9+1):=by rw[<-X0,show w2.cps.toList=_ from e2,Ye,Yi,X0];omega
  have v1:∀x∈ls w1,x∈AZ.cps.toList:=λx hx=>z1 x (by rw[e1]at hx;exact List.mem_of_mem_take hx)
  have v2:∀x∈ls w2,x∈AZ.cps.toList:=λx hx=>z1 x (by rw[e2]at hx;exact List.mem_of_mem_drop (List.mem_of_mem_take hx))
  refine Zq (λE jv=>∃(j:Int) (ss:List Str) (l7 l8:Option Sd) (o2 o3 o4 o5:Own),E=[some (.no,.int c),some (.no,.int 4),some (o2,.str AZ),some (o3,.str z),some (o4,.int lg),some (o5,.int c9),some (.rt,sL ss),l7,l8]/\0<=j/\j<=4/\jv=q9 j 4/\(ss.length:Int)=j/\∀q∈ss,L3.Wd q) ?_ ?_ ?_
  ·simp![];exact⟨0,[],_,_,_,_,_,_,rfl,by omega,by omega,rfl,rfl,λ_ h=>nomatch h⟩
  ·rintro E d ds ⟨j,ss,l7,l8,o2,o3,o4,o5,rfl,j0,j1,hr,hl,hW⟩;obtain⟨hj,rfl,rfl⟩:=kwp j1 hr;have m1:=mul_l (o1:=.no) (o2:=.no) (a:=j) (b:=1+c / 192 % 5) (by omega) (by omega);have t0:=Xm ((ii:Int)+j*(1+c / 192 % 5)) (show(26:Int)≠0 by decide);have t1:=Xi ((ii:Int)+j*(1+c / 192 % 5)) (show(0:Int)<26 by decide);simp![↓qxo,hix,hii,m1,show Zv (.str AZ)=true from rfl];generalize ((ii:Int)+j*(1+c / 192 % 5)) % 26=tt at t0 t1;obtain⟨ll,hch2,hix2⟩:=A.ix_strM AZ tt t0 t1;have hs1:((⟨#[ll]⟩:Str).cps.size)=1:=rfl;have a1:=λo1 o2=>Q4 (o1:=o1) (o2:=o2) (a:=w1) (b:=⟨#[ll]⟩) (by rw[hs1];omega)
   have a2:=λo1 o2=>Q4 (o1:=o1) (o2:=o2) (a:=w1++⟨#[ll]⟩) (b:=w2) (by rw[qV,hs1];omega)
   refine qv0 rfl ?_;simp![s1,s2,hix2,a1,a2];refine⟨_,rfl,by rw[X7];omega,?_⟩;rw [show ∀w:Str,ss.map D.str++[D.str w]=(ss++[w]).map D.str from λw=>by simp];refine⟨j+1,ss++[_],_,_,_,_,_,_,rfl,by omega,by omega,rfl,by simp;omega,λq hq=>?_⟩;rcases List.mem_append.mp hq with hq|hq
   ·exact hW q hq
   ·rw[List.mem_singleton.mp hq];have hsz:(w1++⟨#[ll]⟩++w2).length=w1.cps.size+1+w2.cps.size:=by
     show(w1++⟨#[ll]⟩++w2).cps.size=_;rw[qV,qV,hs1]
    refine⟨by omega,by omega,λx hx=>?_⟩;rw[A.list_app,A.list_app]at hx;rcases List.mem_append.mp hx with hx|hx
    ·rcases List.mem_append.mp hx with hx|hx
     ·exact v1 x hx
     ·rw[List.mem_singleton.mp hx];exact hch2
    ·exact v2 x hx
  ·rintro E ⟨j,ss,l7,l8,o2,o3,o4,o5,rfl,j0,j1,hr,hl,hW⟩;have:=kwr j1 hr;simp![];exact⟨ss,rfl,by omega,hW⟩
theorem kvy{z:Str}(hz:z.cps.size<=1000000)(h:L3.rowL (ls z)=none):Oo KY [(.no,.str z)] (λy=>∃o':Own,y=(o',.bl true)/\True) noX:=by
 have a1:vZ [("NoText",true)] (.obj "NoText" [])=some (.bl true):=qqm (by decide);have a2:vZ [("NoText",false)] (.obj "NoText" [])=some (.bl false):=qqm (by decide);unfold KY;refine vq ?_;simp![];refine(qq8 z hz).ox (λy hy=>?_) (λc hc=>?_)
 ·obtain⟨r,_,e⟩:=hy;rw[h]at e;cases e
 obtain⟨hc,_⟩:=hc;subst hc;refine⟨by simp,?_⟩;simp![a1,a2];exact⟨_,rfl,trivial⟩
theorem kwo{z:Str}{r:List (Str×Int)}(hz:z.cps.size<=1000000)(h:L3.rowL (ls z)=some r):Oo xw [(.no,.str z)] (λy=>∃_:Unit,y=(.rt,.lst (rwD r))/\True) noX:=
 (qq8 z hz).oe (E:=[]) (P:=λ_ y=>∃_:Unit,y=(.rt,.lst (rwD r))/\True) (λy ⟨r',e,e'⟩=>by rw[h]at e';cases e';exact⟨(),e,trivial⟩) λc ⟨_,e⟩=>by rw[h]at e;cases e
theorem kv7{f:List Nat->Option (Str×Int)}:∀{l:List (List Nat)} {r:List (Str×Int)},l.mapM f=some r->r.length=l.length
 | [],r,h=>by cases h;rfl
 | x::l,r,h=>by
  rw[List.mapM_cons]at h;cases hx:f x with
  | none=>rw[hx]at h;cases h
  | some p=>
   rw[hx]at h;cases hl:l.mapM f with
   |none=>rw[hl]at h;cases h
   |some q=>
    rw[hl]at h;cases h;rw[Xj,Xj,kv7 hl]
theorem kwm{cs:List Nat}{r:List (Str×Int)}(h:L3.rowL cs=some r):r.length<=60:=by
 unfold L3.rowL at h
 split at h
 ·cases h;exact Nat.zero_le _
 ·split at h
  ·rename_i hl;rw[kv7 h];exact hl
  ·cases h
end Nk06
namespace Nk06
open Q PySem C
theorem kzr{ns:List Int}(hb:∀i∈ns,Builtin.Int.intBits i<=1048576):∀i∈ns,A.Sh i:=λi hi=>by
 have:=hb i hi;unfold Builtin.Int.intBits at this;unfold A.Sh
 split at this
 ·rename_i e;have:i.natAbs=0:=by simpa using e
  rw[this];decide
 ·omega
theorem kzs{ns:List Int}(hb:∀i∈ns,Builtin.Int.intBits i<=1048576)(k:Nat):A.Sh (B.cellAt ns k):=by
 unfold B.cellAt;rw[List.getD_eq_getElem?_getD]
 by_cases h:k<ns.length
 ·rw[X8 h];exact kzr hb _ (List.getElem_mem h)
 ·rw[List.getElem?_eq_none (by omega)];unfold A.Sh;decide
theorem vkq(ns:List Int)(lo hi:Option Int):∃cells:List Int,J5 (ns.map D.int) lo hi=cells.map D.int/\(∀c∈cells,c∈ns):=by
 unfold J5;exact⟨(ns.drop _).take _,by rw[List.map_take,List.map_drop],λc hc=>List.mem_of_mem_drop (List.mem_of_mem_take hc)⟩
def OkR(p:Str×Int):Prop:=L3.Wd p.1/\L3.Nm p.2
theorem kvi{G:D->Sd->Prop}(hG:∀d y,G d y->∃p:Str×Int,y.2=.tup [.str p.1,.int p.2]/\OkR p):∀{ds:List D} {ys:List Sd},Each G ds ys->∃r:List (Str×Int),ys.map (·.2)=rwD r/\r.length=ds.length/\∀p∈r,OkR p
 |[],[],_=>⟨[],rfl,rfl,λ_ h=>nomatch h⟩
 |d::ds,y::ys,r=>by
  obtain⟨i,e,hi⟩:=hG d y r.1;obtain⟨ps,h1,h2,h3⟩:=kvi hG r.2;exact⟨i::ps,by rw[List.map_cons,e,h1];rfl,by rw[Xj,h2];rfl,λp hp=>(List.mem_cons.mp hp).elim (λz=>z▸hi) (h3 p)⟩
def ZQ(p:Str×Int):Str:=p.1++":"++Str.ofString (toString p.2)
theorem kxh(p:Str×Int):ls (ZQ p)=L3.oneT p:=by
 unfold ZQ L3.oneT L3.numT;show(p.1++":"++Str.ofString (toString p.2)).cps.toList=_;rw[A.list_app,A.list_app,Xw];rfl
theorem qvb{r:List (Str×Int)}(hr:∀p∈r,OkR p)(h4:r.length<=4){E:En}{it:Ev (List D)}{P:En->Sd->Prop}(E2:En)(db:r≠[])(ib:Eo (it E) (λE1 ds=>E1=E2/\ds=rwD r) noX)
  (h:∀z:Str,z.cps.size<=400->ls z=L3.rowT r->P E2 (.dp,.str z)):
  Eo (cLC .rt 2 [] it (.t [0,1]) tYes (cF2 jJ (vE (cF2 jJ (vV 0) (vE (cC (.str ":"))))) (vE (cF1 (pu1 Jw) (vV 1)))) E) (λE x=>Wo (Jv " " x.2) E λE d=>P E (.dp,d)) noX:=by
 refine qx3 (λE1 B ds ay=>E1=E2/\∃r1 r2 q0 q1,r=r1++r2/\B=[q0,q1]/\ds=rwD r2/\ay.map (·.2)=(r1.map ZQ).map D.str) ?_ ?_ ?_
 ·refine ib.mono ?_;rintro E1 ds ⟨rfl,rfl⟩;exact⟨rfl,[],r,_,_,rfl,rfl,rfl,rfl⟩
 ·rintro E1 B d ds ay ⟨rfl,r1,r2,q0,q1,e,rfl,eh,ha⟩;cases r2 with
  |nil=>cases eh
  |cons p r2=>
   have eh:d::ds=.tup [.str p.1,.int p.2]::rwD r2:=eh;injection eh with e1 e2;subst e1 e2;have hp:=hr p (by rw[e];simp);obtain⟨n1,n2⟩:=kkq hp.2;have w8:p.1.cps.size<=8:=hp.1.2.1;have v1:(":":Str).cps.size=1:=by decide
   have a1:=λo1 o2=>Q4 (o1:=o1) (o2:=o2) (a:=p.1) (b:=":") (by omega)
   have a2:=λo1 o2=>Q4 (o1:=o1) (o2:=o2) (a:=p.1++":") (b:=Str.ofString (toString p.2)) (by rw[qV];omega)
   simp![n1,a1,a2];refine⟨r1++[p],r2,_,_,by rw[e];simp,rfl,rfl,?_⟩;rw[Y8,ha,Y8,Y8];rfl
 ·rintro E1 B ay ⟨rfl,r1,r2,q0,q1,e,rfl,eh,ha⟩;have:r2=[]:=by cases r2 with|nil=>rfl|cons _ _=>cases eh
  subst this;rw[Xs]at e;subst e;rw[zW,ha];obtain⟨z,z1,z2,z3⟩:=kxz (ps:=r.map ZQ) (n:=70) (λq hq=>by
   obtain⟨p,hp,rfl⟩:=List.mem_map.mp hq;have:=(L3.one_signs (hr p hp).1 (hr p hp).2).2.2;rw[<-kxh,X0]at this;exact this) (by decide) (by rw[X7];omega)
  simp![z1];refine h z ?_ ?_
  ·rw[X7]at z3;have:r.length*71<=4*71:=Nat.mul_le_mul_right _ h4;omega
  ·rw[z2,Yb];unfold L3.rowT;rw[Xg db]
   congr 1
   exact List.map_congr_left λp _=>kxh p
noncomputable def Zk:Sm:=
  (jq (xW (itS (cSl (vV 0) (some (C9 8)) (some (C9 48)))) (.n 4) (jq (jW 5 (jY QQ [(cV 3),(cV 4)]))
  (jq (jW 6 (jY Q8 [(cV 5)]))
  (jq (sIf (tAnd (tE (cF2 (f2First fIsNon) (vV 6) (vE (cC .non)))) (tNot (tEQ (vE (jY KY [(cV 5)]))))) (jK (cC (.bl false))) k9)
  (sIf (tAnd (tE (cF2 (f2First fNotNon) (vV 6) (vE (cC .non)))) (tNot (tEQ (vE (jY m__law_is_row [(jY xw [(cV 5)]),(cV 6)]))))) (jK (cC (.bl false))) k9)))))
  (jK (jY m__law_is_row [(jY xw [(cV 3)]),(cV 2)])))
theorem kqr{ns:List Int}(hb:∀i∈ns,Builtin.Int.intBits i<=1048576){r:List (Str×Int)}{t:Str}{e1:Option Sd}{o2 o3:Own}(ht:t.cps.size<=400)(hr:L3.rowL (ls t)=some r){N C:En->Prop}:Po (Zk [some (.no,iL ns),e1,some (o2,.lst (rwD r)),some (o3,.str t),none,none,none]) N C (λy=>y.2=.bl true) noX:=by
 obtain⟨cells,hce,hcm⟩:=vkq ns (some 8) (some 48);have i7:fSl (.no,iL ns) (some 8) (some 48)=some (.rt,iL cells):=by
  rw[show iL ns=.lst (ns.map D.int)from rfl,qz8 (o:=.no) (by decide),hce]
 unfold Zk;rw [qkl];simp![];refine Zq (λE jv=>∃(f:List Int) (o3:Own) (l4 l5 l6:Option Sd),E=[some (.no,iL ns),e1,some (o2,.lst (rwD r)),some (o3,.str t),l4,l5,l6]/\jv=f.map D.int/\∀c∈f,c∈ns) ?_ ?_ ?_
 ·simp![i7];exact⟨cells,o3,_,_,_,rfl,rfl,hcm⟩
 ·rintro E d ds ⟨f,o3,l4,l5,l6,rfl,hf,hm⟩;cases f with
  | nil=>cases hf
  | cons c f=>
   have hf:d::ds=.int c::f.map D.int:=hf;injection hf with e1 e2;subst e1 e2;simp![];refine(kw7 t c ht (kzr hb c (hm c X3))).use ?_;rintro ⟨o,w⟩ hw;have hw:w.cps.size<=1000000:=hw;simp![];refine(qjk w hw).use ?_;intro o' _;cases hd:L3.rowL (ls w)with
   |none=>
    simp![YW];refine(kvy hw hd).use ?_;intro _ _;simp![];exact⟨f,.no,_,_,_,rfl,rfl,λc hc=>hm c (lc9 _ hc)⟩
   |some r'=>
    simp![YW];refine(kwo hw hd).use ?_;intro _ _;simp![];refine(A.is_row_ok r' (Xl (kwm hd) (by decide))).use ?_;intro _ _;simp![];exact⟨f,.no,_,_,_,rfl,rfl,λc hc=>hm c (lc9 _ hc)⟩
 ·rintro E ⟨f,o3,l4,l5,l6,rfl,hf,hm⟩;simp![];refine(kwo (by omega) hr).use ?_;intro _ _;simp![];refine(A.is_row_ok r (Xl (kwm hr) (by decide))).use ?_;intro _ _;rfl
theorem vk6(ns:List Int)(hn:ns.length<=63)(hb:∀i∈ns,Builtin.Int.intBits i<=1048576):Oo m_law [(.no,iL ns)] (λy=>y.2=.bl true) noX:=by
 have e:m_law=fn 7
  (jq (jW 1 (jY m__law_words [(jY B.m__law_cell_at [(cV 0),(cC (.int 0))]),(cC (.int 4))]))
  (jq (jW 2 (cLC .rt 1 [1,0] (xK (vE (cF2 (pu2 kK) (vE (jY B.m__law_cell_at [(cV 0),(cC (.int 5))])) (C9 5)))) (.n 0) tYes (K7 .no [(cH (qJ (vV 1) (vV 0))),(jY m__law_number [(jY B.m__law_cell_at [(cV 2),(cF2 jJ (C9 1) (vV 0))])])])))
  (jq (jW 2 (cSl (vV 2) none (some (C9 4))))
  (jq (jW 3 (cC (.str "-")))
  (jq (sIf (tE (cF2 (pu2 fGt) (vE (cF1 (pu1 kz) (vV 2))) (C9 0))) (jW 3 (K4 " " (vE (cLC .rt 2 [] (itS (cV 2)) (.t [0,1]) tYes (cF2 jJ (vE (cF2 jJ (vV 0) (vE (cC (.str ":"))))) (vE (cF1 (pu1 Jw) (vV 1)))))))) k9)
  Zk))))):=rfl
 rw [e];refine vq ?_;simp![];refine(B.cell_ok ns 0 (by omega)).use ?_;intro o0 _;simp![];refine(qjb _).use ?_;rintro ss ⟨i7,hss⟩;have t0:=Xm (B.cellAt ns 5) (show(5:Int)≠0 by decide);have t1:=Xi (B.cellAt ns 5) (show(0:Int)<5 by decide);simp![];refine K8 [some (.rt,sL ss),some (.no,iL ns)] (λ_ y=>∃p:Str×Int,y.2=.tup [.str p.1,.int p.2]/\OkR p) ?_;simp![];refine(B.cell_ok ns 5 (by omega)).use ?_;intro o5 _;simp![];refine⟨rfl,λd hd=>?_,λys ij=>?_⟩
 ·obtain⟨k,k0,k1,rfl⟩:=ZX hd;obtain⟨w,hw,hx⟩:=kq4 (ss:=ss) k0 (by omega);have hc:=B.cell_ok ns (1+k.toNat) (by omega);rw[show((1+k.toNat:Nat):Int)=1+k by omega]at hc;simp![hx];refine hc.use ?_;intro _ _;simp![];refine(kxi _ (kzs hb _)).use ?_;intro v hv;simp![];exact⟨⟨_,rfl⟩,(w,v),rfl,hss w hw,hv⟩
 ·obtain⟨r,g1,g2,g3⟩:=kvi (λd y h=>h) ij;have hr4:r.length<=4:=by
   have:=kxq (k:=0) (n:=B.cellAt ns 5 % 5) t0;omega
  rw[zW,g1];simp only[back,clr,at',List.map_cons,List.map_nil,List.set_cons_zero,List.set_cons_succ];have hcut:fSl (.rt,.lst (rwD r)) none (some 4)=some (.rt,.lst (rwD r)):=by
   rw[qz8 (by decide)];unfold J5 xv;dsimp only;rw[Xg (by decide),List.drop_zero,List.take_of_length_le (by rw[X7];show r.length<=min 4 r.length - 0;omega)]
  simp![hcut];have hrr:∀{t:Str},ls t=L3.rowT r->L3.rowL (ls t)=some r:=λh=>by rw[h];exact L3.row_read (λp hp=>g3 p hp) (by omega)
  by_cases h0:r=[]
  ·subst h0;simp![];exact kqr hb (by decide) (hrr (by decide))
  ·have hl:0<r.length:=List.length_pos_iff.mpr h0;have g0:decide ((0:Int)<r.length)=true:=X5 (by omega);simp![g0,↓kwd];refine qvb (P:=λE y=>Po (Zk (List.set E 3 (some y))) (λ_=>False) (λ_=>False) (λy=>y.2=.bl true) noX) g3 hr4 [some (.no,iL ns),some (.rt,sL ss),some (.no,.lst (rwD r)),some (.dp,.str "-"),none,none,none] h0 ?_ ?_
   ·simp![]
   ·intro z hz hzr;simp![];exact kqr hb hz (hrr hzr)
theorem law_true(ns:List Int)(hl:ns.length<=63)(hb:∀i∈ns,Builtin.Int.intBits i<=1048576):∃E o,m_law [(.no,.lst (ns.map D.int))]=some (.ok E (o,.bl true)):=by
 obtain⟨E,⟨o,d⟩,h,hd⟩:=(vk6 ns hl hb).out;have hd:d=.bl true:=hd;subst hd;exact⟨E,o,h⟩
end Nk06
namespace Nk06
open PySem L2 L3 Q
def top(i:Nat):Stmt:=PySem.Challenge.pw_freshrooms_k06_texts_of_no_row.main.body.getD i (.Pass ⟨0,0,0,0⟩)
abbrev jx9:Stmt:=top 14
abbrev jkm:Stmt:=top 23
abbrev jq2:Stmt:=top 22
abbrev jvh:Stmt:=top 21
abbrev jwg:Stmt:=top 20
abbrev jq6:Stmt:=top 25
abbrev jqv:Stmt:=top 26
abbrev jqt:Stmt:=top 27
abbrev jqh:Stmt:=top 28
abbrev jqu:Stmt:=top 29
abbrev jqi:Stmt:=top 30
abbrev jq4:Stmt:=top 31
abbrev jqg:Stmt:=top 32
abbrev jku:Stmt:=top 33
abbrev jq5:Stmt:=top 34
abbrev jq3:Stmt:=top 35
abbrev qvg:Stmt:=top 36
theorem kvx:FnScope ["thing"] ["thing"] (kW jx9):=mkS
theorem jwf:FnScope ["text"] ["text"] (kW jkm):=mkS
theorem sc_is_name_text:FnScope ["text","figures"] ["text"] (kW jq2):=mkS
theorem sc_read_part:FnScope ["part","cut"] ["part"] (kW jvh):=mkS
theorem sc_read_row:FnScope ["text","parts"] ["text"] (kW jwg):=mkS
theorem jx8:FnScope ["_law_script","_law_k"] ["_law_script","_law_k"] (kW jq6):=mkS
theorem sc__law_mixed:FnScope ["_law_cell","_law_k","_law_number_here"] ["_law_cell","_law_k"] (kW jqv):=mkS
theorem sc__law_words:FnScope ["_law_cell","_law_many","_law_letters","_law_word","_law_long","_law_at","_law_some","_law_k","_law_turn"] ["_law_cell","_law_many"] (kW jqt):=mkS
theorem jxw:FnScope ["_law_cell"] ["_law_cell"] (kW jqh):=mkS
theorem jzp:FnScope ["_law_found"] ["_law_found"] (kW jqu):=mkS
theorem sc__law_is_row:FnScope ["_law_found","_law_due","_law_one","_law_other"] ["_law_found","_law_due"] (kW jqi):=mkS
theorem sc__law_name_of:FnScope ["_law_text","_law_figures"] ["_law_text"] (kW jq4):=mkS
theorem sc__law_row_of:FnScope ["_law_text","_law_parts","_law_row","_law_part","_law_sign","_law_mark","_law_name"] ["_law_text"] (kW jqg):=mkS
theorem sc__law_odd_name:FnScope ["_law_cell","_law_number_here","_law_some"] ["_law_cell"] (kW jku):=mkS
theorem sc__law_changed:FnScope ["_law_text","_law_cell","_law_way","_law_at","_law_signs","_law_sign"] ["_law_text","_law_cell"] (kW jq5):=mkS
theorem sc__law_refused:FnScope ["_law_text","_law_refused_here","e"] ["_law_text"] (kW jq3):=mkS
theorem sc_law:FnScope ["_law_script","_law_words_here","_law_row","_law_text","_law_cell","_law_changed_here","_law_due"] ["_law_script"] (kW qvg):=mkS
structure Txt (K:PySem.W.Frag)(mg:Str->Option Value)(aa ah af au ao aj ae aq ac ag:Addr):Prop where
 b_ValueError:mg "ValueError"=none
 b_all:mg "all"=none
 b_bool:mg "bool"=none
 b_int:mg "int"=none
 b_isinstance:mg "isinstance"=none
 b_len:mg "len"=none
 b_list:mg "list"=none
 b_range:mg "range"=none
 b_str:mg "str"=none
 b_tuple:mg "tuple"=none
 b_zip:mg "zip"=none
 c_LETTERS:Cst mg "LETTERS" (V.str "abcdefghijklmnopqrstuvwxyz")
 c_MOST_LETTERS:Cst mg "MOST_LETTERS" (V.int (8))
 c_FIGURES:Cst mg "FIGURES" (V.str "0123456789")
 c_MOST_FIGURES:Cst mg "MOST_FIGURES" (V.int (60))
 c_MOST_SIGNS:Cst mg "MOST_SIGNS" (V.int (60))
 c_EMPTY_ROW:Cst mg "EMPTY_ROW" (V.str "-")
 n_NoText:PySem.W.nsIn K mainGlobals "NoText"=some (some (.ref aa))
 m_NoText:mg "NoText"=some (.ref aa)
 e_NoText:ECls K mg "NoText" aa
 n_TooGreat:PySem.W.nsIn K mainGlobals "TooGreat"=some (some (.ref ah))
 m_TooGreat:mg "TooGreat"=some (.ref ah)
 n_NotSingle:PySem.W.nsIn K mainGlobals "NotSingle"=some (some (.ref af))
 m_NotSingle:mg "NotSingle"=some (.ref af)
 n_NoWay:PySem.W.nsIn K mainGlobals "NoWay"=some (some (.ref au))
 m_NoWay:mg "NoWay"=some (.ref au)
 n_NoRow:PySem.W.nsIn K mainGlobals "NoRow"=some (some (.ref ao))
 m_NoRow:mg "NoRow"=some (.ref ao)
 n_NoName:PySem.W.nsIn K mainGlobals "NoName"=some (some (.ref aj))
 m_NoName:mg "NoName"=some (.ref aj)
 n_NoMachine:PySem.W.nsIn K mainGlobals "NoMachine"=some (some (.ref ae))
 m_NoMachine:mg "NoMachine"=some (.ref ae)
 n_NoFit:PySem.W.nsIn K mainGlobals "NoFit"=some (some (.ref aq))
 m_NoFit:mg "NoFit"=some (.ref aq)
 n_NoExchange:PySem.W.nsIn K mainGlobals "NoExchange"=some (some (.ref ac))
 m_NoExchange:mg "NoExchange"=some (.ref ac)
 n_RoomError:PySem.W.nsIn K mainGlobals "RoomError"=some (some (.ref ag))
 m_RoomError:mg "RoomError"=some (.ref ag)
 h_NoText_NoText:PySem.W.exmOne K (.ref aa) (.ref aa)=some true
 i_NoText_TooGreat:PySem.W.kitOne K (.ref aa) (.ref ah)=some false
 i_NoText_NotSingle:PySem.W.kitOne K (.ref aa) (.ref af)=some false
 i_NoText_NoWay:PySem.W.kitOne K (.ref aa) (.ref au)=some false
 i_NoText_NoRow:PySem.W.kitOne K (.ref aa) (.ref ao)=some false
 i_NoText_NoName:PySem.W.kitOne K (.ref aa) (.ref aj)=some false
 i_NoText_NoMachine:PySem.W.kitOne K (.ref aa) (.ref ae)=some false
 i_NoText_NoFit:PySem.W.kitOne K (.ref aa) (.ref aq)=some false
 i_NoText_NoExchange:PySem.W.kitOne K (.ref aa) (.ref ac)=some false
 i_NoText_ValueError:PySem.W.kitOne K (.ref aa) (.type "ValueError")=some true
 i_NoText_RoomError:PySem.W.kitOne K (.ref aa) (.ref ag)=some true
section
variable (P:Program)(w:PySem.World)(K:PySem.W.Frag)(mg:Str->Option Value)(base:Heap)
abbrev kkj:=qw P w K mg base 1 "is_sign" ["thing"] (spF K mg 1 W7)
abbrev jqo:=qw P w K mg base 1 "is_number_text" ["text"] (spF K mg 1 Vk)
abbrev jv9:=qw P w K mg base 2 "is_name_text" ["text"] (spF K mg 1 V7)
abbrev jxt:=qw P w K mg base 3 "read_part" ["part"] (spF K mg 1 VV)
abbrev jwl:=qw P w K mg base 4 "read_row" ["text"] (spF K mg 1 xw)
abbrev jvd:=qw P w K mg base 1 "_law_cell_at" ["_law_script","_law_k"] (spF K mg 2 m__law_cell_at)
abbrev ZJ:=qw P w K mg base 1 "_law_mixed" ["_law_cell","_law_k"] (spF K mg 2 m__law_mixed)
abbrev jws:=qw P w K mg base 2 "_law_words" ["_law_cell","_law_many"] (spF K mg 2 m__law_words)
abbrev jwb:=qw P w K mg base 1 "_law_number" ["_law_cell"] (spF K mg 1 m__law_number)
abbrev jwt:=qw P w K mg base 1 "_law_whole" ["_law_found"] (spF K mg 1 m__law_whole)
abbrev jwc:=qw P w K mg base 2 "_law_is_row" ["_law_found","_law_due"] (spF K mg 2 m__law_is_row)
abbrev jvb:=qw P w K mg base 1 "_law_name_of" ["_law_text"] (spF K mg 1 Qx)
abbrev jwa:=qw P w K mg base 2 "_law_row_of" ["_law_text"] (spF K mg 1 Q8)
abbrev jv5:=qw P w K mg base 2 "_law_odd_name" ["_law_cell"] (spF K mg 1 WW)
abbrev jvc:=qw P w K mg base 3 "_law_changed" ["_law_text","_law_cell"] (spF K mg 2 QQ)
abbrev jva:=qw P w K mg base 5 "_law_refused" ["_law_text"] (spF K mg 1 KY)
end
section
variable {aa ah af au ao aj ae aq ac ag:Addr}
variable {P:Program}{w:PySem.World}{K:PySem.W.Frag}{mg:Str->Option Value}{base:Heap}{f:Addr}{fd:FuncData}
theorem kw5(T:Txt K mg aa ah af au ao aj ae aq ac ag)  (F:Fun K "is_sign" "is_sign" jx9 f fd):FnOk P w K mg base (CXE P w) 1 f fd ["thing"] (spF K mg 1 W7):=
 vw F kvx (vj rfl) λbr A outer s H vs Q E hr h=>v9 rfl
  (jx (kX (QW.pt (wW (xj (x6 (j9 (Qj (vv 0) T.b_isinstance T.b_str Wj rfl)))) (JX (xj (qjo qwd (wv (g:=λa b=>decide (a<=b))) qwd (wv (g:=λa b=>decide (a<=b))) ki (j9 (qL (vv 0) T.b_len)) (j9 (q_C (Qz T.c_MOST_LETTERS) (λ_=>J0))) wZ))))) (jV (k4 (q_C xJ (λ_=>wK)))) kY) (jV (k4 (vvf (kzx K) qv5 (j9 (qM .rt 1 [] 1 ["letter"] (J3 (cv 0)) (λ_ _ _ _ _=>(Yq (vjr hr.units) vq6 (vv 0) (j9 (q_C (Qz T.c_LETTERS) (λ_=>x4 (by decide)))) (by rfl))))) T.b_all qqx)))) h
theorem jwi(T:Txt K mg aa ah af au ao aj ae aq ac ag)  (F:Fun K "is_number_text" "is_number_text" jkm f fd):FnOk P w K mg base (CXE P w) 1 f fd ["text"] (spF K mg 1 Vk):=
 vw F jwf (vj rfl) λbr A outer s H vs Q E hr h=>v9 rfl
  (jx (kX (QW.pt (wW (kw (vX hr.units) vQ (vv 0) ks (kq _) ww) (JX (xj (x6 (j9 (vvf (kzx K) qv5 (j9 (qM .rt 1 [] 1 ["figure"] (J3 (cv 0)) (λ_ _ _ _ _=>(Yq (vjr hr.units) vq6 (vv 0) (j9 (q_C (Qz T.c_FIGURES) (λ_=>x4 (by decide)))) (by rfl))))) T.b_all qqx))))))) (jV (k4 (q_C xJ (λ_=>wK)))) kY) (jV (k4 (q_or (j9 (Yq (vX hr.units) vQ (vv 0) ks (kq _))) (V0 (YJ (j9 (kqs (vv 0))))))))) h
theorem jxc(T:Txt K mg aa ah af au ao aj ae aq ac ag)(be:jqo P w K mg base)(F:Fun K "is_name_text" "is_name_text" jq2 f fd):FnOk P w K mg base (CXE P w) 2 f fd ["text"] (spF K mg 1 V7):=
 vw F sc_is_name_text (vj rfl) λbr A outer s H vs Q E hr h=>have nd:=sc_is_name_text.nd;v9 rfl
  (jx (kX (kw (vX hr.units) vQ (vv 0) ks (kq _) ww) (jV (k4 (q_C xJ (λ_=>wK)))) kY) (jx (qA nd (vve (x6 (j9 (kqs (vv 0)))) (vz (vv 0) (v8 ki) wj) (cv 0))) (jV (k4 (WJ (j9 (qC be hr (jw (cv 1) k8))) (V0 (Yq qwd (wv (g:=λa b=>decide (a<=b))) (j9 (qL (vv 1) T.b_len)) (j9 (q_C (Qz T.c_MOST_FIGURES) (λ_=>J0))) (kq _)))))))) h
theorem kju(T:Txt K mg aa ah af au ao aj ae aq ac ag)(cu:kkj P w K mg base)(bp:jv9 P w K mg base)(F:Fun K "read_part" "read_part" jvh f fd):FnOk P w K mg base (CXE P w) 3 f fd ["part"] (spF K mg 1 VV):=
 vw F sc_read_part (vj rfl) λbr A outer s H vs Q E hr h=>have nd:=sc_read_part.nd;v9 rfl
  (jx (qA nd (qqa (c:=58) (by decide +kernel) (vv 0))) (jx (kX (QW.pt (wW (xj (x6 (j9 (qC cu hr (jw (xq (kx (vv 1) ki)) k8))))) (JX (xj (x6 (j9 (qC bp hr (jw (xq (kx (vv 1) ki)) k8)))))))) (jV (kx0 T.e_NoText T.m_NoText Q1 zk)) kY) (jV (k4 (qvn (o:=.no) (jw (xq (kx (vv 1) ki)) (jw (V9 kkb qv4 (kx (vv 1) ki) T.b_int kzz) k8))))))) h
theorem kq0(T:Txt K mg aa ah af au ao aj ae aq ac ag)(ce:jxt P w K mg base)(F:Fun K "read_row" "read_row" jwg f fd):FnOk P w K mg base (CXE P w) 4 f fd ["text"] (spF K mg 1 xw):=
 vw F sc_read_row (vj rfl) λbr A outer s H vs Q E hr h=>have nd:=sc_read_row.nd;v9 rfl
  (jx (kX (kw (vX hr.units) vQ (vv 0) (j9 (q_C (Qz T.c_EMPTY_ROW) (λ_=>x4 (by decide)))) (kq _) ww) (jV (k4 (QK (o:=.rt) k8))) kY) (jx (qA nd (kwz (c:=32) (by decide +kernel) (vv 0))) (jx (kX (kw Kq (wv (g:=λa b=>decide (b<a))) (j9 (qL (vv 1) T.b_len)) (j9 (q_C (Qz T.c_MOST_SIGNS) (λ_=>J0))) (kq _) wZ) (jV (kx0 T.e_NoText T.m_NoText Q1 zk)) kY) (jV (k4 (qM .rt 1 [] 2 ["part"] (J3 (cv 1)) (λ_ _ _ _ _=>(qC ce hr (jw (cv 0) k8))))))))) h
theorem jxg(T:Txt K mg aa ah af au ao aj ae aq ac ag)  (F:Fun K "_law_cell_at" "_law_cell_at" jq6 f fd):FnOk P w K mg base (CXE P w) 1 f fd ["_law_script","_law_k"] (spF K mg 2 m__law_cell_at):=
 vw F jx8 (vj rfl) λbr A outer s H vs Q E hr h=>v9 rfl
  (jx (kX (kw Z7 (wv (g:=λa b=>decide (a<b))) (vv 1) (j9 (qL (vv 0) T.b_len)) (kq _) wZ) (jV (k4 (xq (kx (vv 0) (vv 1))))) kY) (jV (k4 kI))) h
theorem jzv(T:Txt K mg aa ah af au ao aj ae aq ac ag)  (F:Fun K "_law_mixed" "_law_mixed" jqv f fd):FnOk P w K mg base (CXE P w) 1 f fd ["_law_cell","_law_k"] (spF K mg 2 m__law_mixed):=
 vw F sc__law_mixed (vj rfl) λbr A outer s H vs Q E hr h=>have nd:=sc__law_mixed.nd;v9 rfl
  (jx (kX (kw (vX hr.units) vQ (j9 (oM (vv 0) ki)) ki (kq _) ww) (jV (k4 (v6 Q6 QZ (vv 0) (j9 (v6 vjn vq0 ki (j9 (oX ki (vv 1)))))))) kY) (jx (qA nd (oM (j9 (oX (j9 (oA (j9 (oA (j9 (oM (vv 0) ki)) (j9 (oX ki (vv 1))))) ki)) ki)) ki)) (jx (qA nd (oM (j9 (oX (vv 2) (vv 2))) ki)) (jV (k4 (oM (j9 (oA (j9 (oX (vv 2) (vv 2))) (j9 (oX ki (vv 1))))) ki)))))) h
theorem jzt(T:Txt K mg aa ah af au ao aj ae aq ac ag)(ak:ZJ P w K mg base)(F:Fun K "_law_words" "_law_words" jqt f fd):FnOk P w K mg base (CXE P w) 2 f fd ["_law_cell","_law_many"] (spF K mg 2 m__law_words):=
 vw F sc__law_words (vj rfl) λbr A outer s H vs Q E hr h=>have nd:=sc__law_words.nd;v9 rfl
  (jx (qA nd kS) (jx (qA nd (kx1 zk (j9 (qM .rt 1 [2,0] 9 ["_law_j","_law_letters","_law_cell"] (WZ ki rfl T.b_range) (λ_ _ _ _ _=>(xq (kx (vv 1) (j9 (oM (j9 (qC ak hr (jw (cv 2) (jw (cv 0) k8)))) ki))))))))) (jx (kX (kw (vX hr.units) vQ (j9 (oM (vv 0) ki)) ki (kq _) ww) (jV (k4 (qM .rt 1 [3,0] 9 ["_law_k","_law_word","_law_cell"] (WZ (vv 1) rfl T.b_range) (λ_ _ _ _ _=>(vz (vv 1) wj (v8 (j9 (oA ki (j9 (oM (j9 (oA (vv 0) (j9 (v6 Q6 QZ (vv 2) ki)))) ki)))))))))) kY) (jx (qA nd (oA ki (j9 (oM (j9 (v6 Q6 QZ (vv 0) ki)) ki)))) (jx (qA nd (oM (j9 (v6 Q6 QZ (vv 0) ki)) (vv 4))) (jx (qA nd (QK (o:=.rt) k8)) (jx (qF (WZ (vv 1) rfl T.b_range) (gN nd) (jx (qA nd (oM (j9 (oA (j9 (qzv (vv 2) (kx (vv 3) (vv 5)))) (j9 (oX (vv 7) (j9 (oA ki (j9 (oM (j9 (v6 Q6 QZ (vv 0) ki)) ki)))))))) ki)) (jV (qP (oA (j9 (oA (j9 (vz (vv 3) wj (v8 (vv 5)))) (kx (vv 2) (vv 8)))) (j9 (vz (vv 3) (v8 (j9 (oA (vv 5) ki))) (v8 (vv 4))))))))) (jV (k4 (vvb (pv 6))))))))))) h
theorem jxz(T:Txt K mg aa ah af au ao aj ae aq ac ag)  (F:Fun K "_law_number" "_law_number" jqh f fd):FnOk P w K mg base (CXE P w) 1 f fd ["_law_cell"] (spF K mg 1 m__law_number):=
 vw F jxw (vj rfl) λbr A outer s H vs Q E hr h=>v9 rfl
  (jx (kX (kw (vX hr.units) vQ (j9 (oM (vv 0) ki)) ki (kq _) ww) (jV (k4 (v6 kxf qj3 (j9 (oM (j9 (v6 Q6 QZ (vv 0) ki)) ki)) ki))) kY) (jV (k4 (oA (j9 (v6 kxf qj3 (j9 (oM (j9 (oX (vv 0) (j9 (v6 Wk VW ki ki)))) (j9 (v6 kxf qj3 (j9 (oX ki (j9 (v6 Wk VW ki ki)))) ki)))) (j9 (v6 Wk VW ki ki)))) ki)))) h
theorem jzu(T:Txt K mg aa ah af au ao aj ae aq ac ag)  (F:Fun K "_law_whole" "_law_whole" jqu f fd):FnOk P w K mg base (CXE P w) 1 f fd ["_law_found"] (spF K mg 1 m__law_whole):=
 vw F jzp (vj rfl) λbr A outer s H vs Q E hr h=>v9 rfl
  (jV (k4 (WJ (j9 (Qj (vv 0) T.b_isinstance T.b_int kzz rfl)) (V0 (YJ (j9 (Qj (vv 0) T.b_isinstance T.b_bool qxc rfl))))))) h
theorem jz0(T:Txt K mg aa ah af au ao aj ae aq ac ag)(bw:jwt P w K mg base)(F:Fun K "_law_is_row" "_law_is_row" jqi f fd):FnOk P w K mg base (CXE P w) 2 f fd ["_law_found","_law_due"] (spF K mg 2 m__law_is_row):=
 vw F sc__law_is_row (vj rfl) λbr A outer s H vs Q E hr h=>have nd:=sc__law_is_row.nd;v9 rfl
  (jx (kX (QW.pt (wW (xj (x6 (j9 (Qj (vv 0) T.b_isinstance T.b_list qxb rfl)))) (JX (kw (Z9 hr.units) XV (j9 (qL (vv 0) T.b_len)) (j9 (qL (vv 1) T.b_len)) (kq _) XJ)))) (jV (k4 (q_C xJ (λ_=>wK)))) kY) (jx (qF (qvq (cv 0) (cv 1) rfl T.b_zip) (vvc (is:=[2,3]) (kx8 K (t:=gNs [2,3]) (n:=2) (KQ (gn nd) (KQ (gn nd) kkx)))) (jx (kX (QW.pt (wW (xj (x6 (j9 (Qj (vv 2) T.b_isinstance T.b_tuple qkx rfl)))) (wW (kw (Z9 hr.units) XV (j9 (qL (vv 2) T.b_len)) ki (kq _) XJ) (JX (xj (x6 (j9 (Qj (kx (vv 2) ki) T.b_isinstance T.b_str Wj rfl)))))))) (jV (k4 (q_C xJ (λ_=>wK)))) kY) (jV (kX (QW.pt (wW (xj (x6 (j9 (qC bw hr (jw (xq (kx (vv 2) ki)) k8))))) (JX (kw (Z9 hr.units) XV (vv 2) (vv 3) (kq _) XJ)))) (jV (k4 (q_C xJ (λ_=>wK)))) kY)))) (jV (k4 (q_C xJ (λ_=>wK)))))) h
theorem jxe(T:Txt K mg aa ah af au ao aj ae aq ac ag)  (F:Fun K "_law_name_of" "_law_name_of" jq4 f fd):FnOk P w K mg base (CXE P w) 1 f fd ["_law_text"] (spF K mg 1 Qx):=
 vw F sc__law_name_of (vj rfl) λbr A outer s H vs Q E hr h=>have nd:=sc__law_name_of.nd;v9 rfl
  (jx (qA nd (cv 0)) (jx (kX (kw (vX hr.units) vQ (j9 (vz (vv 0) wj (v8 ki))) ks (kq _) ww) (jV (qA nd (vz (vv 0) (v8 ki) wj))) kY) (jx (kX (QW.pt (wW (kw (vX hr.units) vQ (vv 1) ks (kq _) ww) (wW (kw Kq (wv (g:=λa b=>decide (b<a))) (j9 (qL (vv 1) T.b_len)) ki (kq _) wZ) (JX (QW.pt (kwy (kw (vX hr.units) vQ (kx (vv 1) ki) ks (kq _) ww) (kkv (kw (Z9 hr.units) XV (vv 0) ks (kq _) XJ)))))))) (jV (k4 kN)) kY) (jx (kX (kw Kq (wv (g:=λa b=>decide (b<a))) (j9 (qL (j9 (qm .rt 1 [] 2 ["_law_sign"] (J3 (cv 1)) (λhN _ _ _ _ _=>(Wx (Jk (i:=0) hN rfl (by first|exact Or.inl rfl|exact Or.inr rfl)))) (λ_ _ _ _ _=>(qzq (kw (kqw hr.units) kvo (vv 0) ks (by rfl) kvl))) (λ_ _ _ _ _=>(cv 0)))) T.b_len)) ki (kq _) wZ) (jV (k4 kN)) kY) (jV (k4 (V9 kkb qv4 (vv 0) T.b_int kzz))))))) h
theorem jxy(T:Txt K mg aa ah af au ao aj ae aq ac ag)(bc:jvb P w K mg base)(F:Fun K "_law_row_of" "_law_row_of" jqg f fd):FnOk P w K mg base (CXE P w) 2 f fd ["_law_text"] (spF K mg 1 Q8):=
 vw F sc__law_row_of (vj rfl) λbr A outer s H vs Q E hr h=>have nd:=sc__law_row_of.nd;v9 rfl
  (jx (kX (kw (vX hr.units) vQ (vv 0) ks (kq _) ww) (jV (k4 (QK (o:=.rt) k8))) kY) (jx (qA nd (kwz (c:=32) (by decide +kernel) (vv 0))) (jx (kX (kw Kq (wv (g:=λa b=>decide (b<a))) (j9 (qL (vv 1) T.b_len)) ki (kq _) wZ) (jV (k4 kN)) kY) (jx (qA nd (QK (o:=.rt) k8)) (jx (qF (J3 (cv 1)) (gN nd) (jx (qzp (qqa (c:=58) (by decide +kernel) (vv 3)) (vvc (is:=[4,5,6]) (kx8 K (t:=gNs [4,5,6]) (n:=3) (KQ (gn nd) (KQ (gn nd) (KQ (gn nd) kkx)))))) (jx (kX (QW.pt (wW (kw (vX hr.units) vQ (vv 5) ks (kq _) ww) (wW (kw Z7 (wv (g:=λa b=>decide (a<b))) (j9 (qL (vv 4) T.b_len)) ki (kq _) wZ) (wW (kw Kq (wv (g:=λa b=>decide (b<a))) (j9 (qL (vv 4) T.b_len)) ki (kq _) wZ) (JX (kw qqh qv3 (j9 (qC bc hr (jw (cv 6) k8))) kn (kq _) qqy)))))) (jV (k4 kN)) kY) (jx (kX (kw Kq (wv (g:=λa b=>decide (b<a))) (j9 (qL (j9 (qm .rt 1 [] 7 ["_law_one"] (J3 (cv 4)) (λhN _ _ _ _ _=>(Wx (Jk (i:=0) hN rfl (by first|exact Or.inl rfl|exact Or.inr rfl)))) (λ_ _ _ _ _=>(qzq (kw (kqw hr.units) kvo (vv 0) ks (by rfl) kvl))) (λ_ _ _ _ _=>(cv 0)))) T.b_len)) ki (kq _) wZ) (jV (k4 kN)) kY) (jV (qP (qvn (o:=.no) (jw (cv 4) (jw (qC bc hr (jw (cv 6) k8)) k8))))))))) (jV (k4 (vvb (pv 2))))))))) h
theorem jwx(T:Txt K mg aa ah af au ao aj ae aq ac ag)(ak:ZJ P w K mg base)(F:Fun K "_law_odd_name" "_law_odd_name" jku f fd):FnOk P w K mg base (CXE P w) 2 f fd ["_law_cell"] (spF K mg 1 WW):=
 vw F sc__law_odd_name (vj rfl) λbr A outer s H vs Q E hr h=>have nd:=sc__law_odd_name.nd;v9 rfl
  (jx (qA nd (V9 kj9 qj4 (j9 (oM (j9 (oX (vv 0) (j9 (v6 Wk VW ki ki)))) (j9 (v6 Wk VW ki ki)))) T.b_str Wj)) (jx (qA nd (QK (o:=.rt) (jw (oA ks (vv 1)) (jw (oA ks (vv 1)) (jw (oA (j9 (oA (j9 (vz (vv 1) wj (v8 ki))) ks)) (j9 (vz (vv 1) (v8 ki) wj))) (jw (oX ks ki) (jw (oX ks ki) (jw (oA ks (j9 (oX ks ki))) k8)))))))) (jx (qA nd (oA (vv 2) (j9 (QK (o:=.rt) (jw kS (jw (oA ks (j9 (oX ks ki))) (jw kS (jw kS (jw kS (jw kS (jw (oA (vv 1) ks) (jw (oA ks (vv 1)) (jw (oA (vv 1) ks) (jw kS k8)))))))))))))) (jV (k4 (xq (kx (vv 2) (j9 (oM (j9 (qC ak hr (jw (cv 0) (jw kI k8)))) ki))))))))) h
theorem jxf(T:Txt K mg aa ah af au ao aj ae aq ac ag)(ak:ZJ P w K mg base)(bj:jv5 P w K mg base)(F:Fun K "_law_changed" "_law_changed" jq5 f fd):FnOk P w K mg base (CXE P w) 3 f fd ["_law_text","_law_cell"] (spF K mg 2 QQ):=
 vw F sc__law_changed (vj rfl) λbr A outer s H vs Q E hr h=>have nd:=sc__law_changed.nd;v9 rfl
  (jx (qA nd (oM (j9 (qC ak hr (jw (cv 1) (jw kI k8)))) ki)) (jx (qA nd (oM (j9 (qC ak hr (jw (cv 1) (jw kI k8)))) (j9 (oA (j9 (qL (vv 0) T.b_len)) ki)))) (jx (qA nd kS) (jx (qA nd (xq (kx (vv 4) (j9 (oM (j9 (qC ak hr (jw (cv 1) (jw kI k8)))) (j9 (qL (vv 4) T.b_len))))))) (jx (kX (kw Z7 (wv (g:=λa b=>decide (a<b))) (vv 2) ki (kq _) wZ) (jV (k4 (oA (j9 (oA (j9 (vz (vv 0) wj (v8 (vv 3)))) (vv 5))) (j9 (vz (vv 0) (v8 (j9 (oA (vv 3) ki))) wj))))) kY) (jx (kX (kw Z7 (wv (g:=λa b=>decide (a<b))) (vv 2) ki (kq _) wZ) (jV (k4 (oA (j9 (oA (j9 (vz (vv 0) wj (v8 (vv 3)))) (vv 5))) (j9 (vz (vv 0) (v8 (vv 3)) wj))))) kY) (jx (kX (kw (vX hr.units) vQ (vv 2) ki (kq _) ww) (jV (k4 (oA (j9 (vz (vv 0) wj (v8 (vv 3)))) (j9 (vz (vv 0) (v8 (j9 (oA (vv 3) ki))) wj))))) kY) (jx (kX (kw (vX hr.units) vQ (vv 2) ki (kq _) ww) (jV (k4 (xq (kx (j9 (qzs (i:=0) (g6:=qjy (kx9 0)))) (j9 (oM (j9 (qC ak hr (jw (cv 1) (jw kI k8)))) ki)))))) kY) (jx (kX (kw (vX hr.units) vQ (vv 2) ki (kq _) ww) (jV (k4 (oA (j9 (oA (j9 (oA (vv 0) ks)) ks)) (j9 (qC bj hr (jw (cv 1) k8)))))) kY) (jV (k4 (kx1 zk (j9 (qM .rt 1 [1] 6 ["_law_k","_law_cell"] (WZ (j9 (oA ki (j9 (oM (j9 (qC ak hr (jw (cv 1) (jw kI k8)))) ki)))) rfl T.b_range) (λ_ _ _ _ _=>(oA ks (j9 (V9 kj9 qj4 (j9 (oX (vv 0) (j9 (oM (vv 1) ki)))) T.b_str Wj)))))))))))))))))) h
theorem jxd(T:Txt K mg aa ah af au ao aj ae aq ac ag)(b9:jwl P w K mg base)(F:Fun K "_law_refused" "_law_refused" jq3 f fd):FnOk P w K mg base (CXE P w) 5 f fd ["_law_text"] (spF K mg 1 KY):=
 vw F sc__law_refused (vj rfl) λbr A outer s H vs Q E hr h=>have nd:=sc__law_refused.nd;v9 rfl
  (jx (qA nd (q_C xJ (λ_=>wK))) (jx (qzr (i:=2) (cs:=["NoText"]) nd rfl rfl ⟨_,_,rfl,rfl⟩ T.m_NoText rfl (kq9 T.e_NoText T.n_NoText T.h_NoText_NoText kw9) (qvr b9 (hr.mono (by decide)) (jw (cv 0) k8)) (λx_x=>(jx (qA nd (WJ (j9 (qzt (vv 2) T.b_isinstance (zw T.m_RoomError) rfl (qww T.n_NoText T.i_NoText_RoomError kz0))) (V0 (qzt (vv 2) T.b_isinstance (kxd (v:=.ty "ValueError") rfl T.b_ValueError kja rfl) rfl (vke T.n_NoText T.i_NoText_ValueError kz0))))) (jx (qA nd (WJ (vv 1) (V0 (YJ (j9 (qzu (us:=[ac,aq,ae,aj]) (vv 2) T.b_isinstance (kZ (zw T.m_NoExchange) (kZ (zw T.m_NoFit) (kZ (zw T.m_NoMachine) (kZ (zw T.m_NoName) vx)))) rfl (kvc T.n_NoText (Jq T.i_NoText_NoExchange (Jq T.i_NoText_NoFit (Jq T.i_NoText_NoMachine (Jq T.i_NoText_NoName kxy)))) kz1))))))) (jV (qA nd (WJ (vv 1) (V0 (YJ (j9 (qzu (us:=[ao,au,af,ah]) (vv 2) T.b_isinstance (kZ (zw T.m_NoRow) (kZ (zw T.m_NoWay) (kZ (zw T.m_NotSingle) (kZ (zw T.m_TooGreat) vx)))) rfl (kvc T.n_NoText (Jq T.i_NoText_NoRow (Jq T.i_NoText_NoWay (Jq T.i_NoText_NotSingle (Jq T.i_NoText_TooGreat kxy)))) kz1)))))))))))) (jV (k4 (vvb (pv 1)))))) h
theorem vjt(T:Txt K mg aa ah af au ao aj ae aq ac ag)(c8:jws P w K mg base)(bf:jwc P w K mg base)(b8:jvd P w K mg base)(bo:jvc P w K mg base)(bt:jwa P w K mg base)(b9:jwl P w K mg base)(bu:jwb P w K mg base)(bq:jva P w K mg base)(F:Fun K "law" "law" qvg f fd):FnOk P w K mg base (CXE P w) 6 f fd ["_law_script"] (spF K mg 1 m_law):=
 vw F sc_law (vj rfl) λbr A outer s H vs Q E hr h=>have nd:=sc_law.nd;v9 rfl
  (jx (qA nd (qC c8 hr (jw (qC b8 hr (jw (cv 0) (jw kI k8))) (jw kI k8)))) (jx (qvp (i:=2) (o:=.rt) (k:=1) (R:=[1,0]) ["_law_k","_law_words_here","_law_script"] nd rfl (by first|exact Or.inl rfl|exact Or.inr rfl) (WZ (j9 (oM (j9 (qC b8 hr (jw (cv 0) (jw kI k8)))) ki)) rfl T.b_range) (λ_ _ _ _ _=>(Wx (Jk (i:=0) (show(["_law_k","_law_words_here","_law_script"]:List Str).Nodup by decide +kernel) rfl (by first|exact Or.inl rfl|exact Or.inr rfl)))) (λ_ _ _ _ _=>qvo) (λ_ _ _ _ _=>(qvn (o:=.no) (jw (xq (kx (vv 1) (vv 0))) (jw (qC bu hr (jw (qC b8 hr (jw (cv 2) (jw (oA ki (vv 0)) k8))) k8)) k8)))) Q1 ⟨_,_,rfl,rfl⟩ (by decide) (show ∀j∈([1,0]:List Nat) ,j<7 by decide)) (jx (qA nd (vz (vv 2) wj (v8 ki))) (jx (qA nd kS) (jx (kX (kw Kq (wv (g:=λa b=>decide (b<a))) (j9 (qL (vv 2) T.b_len)) ki (kq _) wZ) (jV (qA nd (kx1 zk (j9 (qm .rt 2 [] 7 ["_law_sign","_law_name"] (J3 (cv 2)) (λhN _ _ _ _ _=>(vvc (is:=[0,1]) (kx8 K (t:=gNs [0,1]) (n:=2) (KQ (Jk (i:=0) hN rfl (by first|exact Or.inl rfl|exact Or.inr rfl)) (KQ (Jk (i:=1) hN rfl (by first|exact Or.inl rfl|exact Or.inr rfl)) kkx))))) (λ_ _ _ _ _=>qvo) (λ_ _ _ _ _=>(oA (j9 (oA (vv 0) ks)) (j9 (V9 kj9 qj4 (vv 1) T.b_str Wj))))))))) kY) (jx (qF (J3 (vz (vv 0) (v8 ki) (v8 ki))) (gN nd) (jx (qA nd (qC bo hr (jw (cv 3) (jw (cv 4) k8)))) (jx (qA nd (qC bt hr (jw (cv 5) k8))) (jx (kX (QW.pt (kwy (kw qqh qv3 (vv 6) kn (kq _) qqy) (kkv (xj (x6 (j9 (qC bq hr (jw (cv 5) k8)))))))) (jV (k4 (q_C xJ (λ_=>wK)))) kY) (jV (kX (QW.pt (kwy (kw qwc qxg (vv 6) kn (kq _) qxd) (kkv (xj (x6 (j9 (qC bf hr (jw (qC b9 hr (jw (cv 5) k8)) (jw (cv 6) k8))))))))) (jV (k4 (q_C xJ (λ_=>wK)))) kY)))))) (jV (k4 (qC bf hr (jw (qC b9 hr (jw (cv 3) k8)) (jw (cv 2) k8))))))))))) h
end
theorem all_mk{l:PySem.W.OpenLaw}{w:PySem.World}{K:PySem.W.Frag}{h:Heap}{mg:Str->Option Value}{fa:Addr}(X:K.In h)(G:h.Ns mainGlobals mg)(hfa:mg "law"=some (.ref fa)){dj cf dk ci cp d3:Value}{aa ah af au ao aj ae aq ac ag:Addr}
  (g0:Gf K "is_sign" jx9)
  (g1:Gf K "is_number_text" jkm)
  (g2:Gf K "is_name_text" jq2)
  (g3:Gf K "read_part" jvh)
  (g4:Gf K "read_row" jwg)
  (g5:Gf K "_law_cell_at" jq6)
  (g6:Gf K "_law_mixed" jqv)
  (g7:Gf K "_law_words" jqt)
  (g8:Gf K "_law_number" jqh)
  (g9:Gf K "_law_whole" jqu)
  (g10:Gf K "_law_is_row" jqi)
  (g11:Gf K "_law_name_of" jq4)
  (g12:Gf K "_law_row_of" jqg)
  (g13:Gf K "_law_odd_name" jku)
  (g14:Gf K "_law_changed" jq5)
  (g15:Gf K "_law_refused" jq3)
  (g16:Gf K "law" qvg)
  (q_LETTERS:PySem.W.nsIn K mainGlobals "LETTERS"=some (some dj)) (r_LETTERS:RelV (V.str "abcdefghijklmnopqrstuvwxyz") dj)
  (q_MOST_LETTERS:PySem.W.nsIn K mainGlobals "MOST_LETTERS"=some (some cf)) (r_MOST_LETTERS:RelV (V.int (8)) cf)
  (q_FIGURES:PySem.W.nsIn K mainGlobals "FIGURES"=some (some dk)) (r_FIGURES:RelV (V.str "0123456789") dk)
  (q_MOST_FIGURES:PySem.W.nsIn K mainGlobals "MOST_FIGURES"=some (some ci)) (r_MOST_FIGURES:RelV (V.int (60)) ci)
  (q_MOST_SIGNS:PySem.W.nsIn K mainGlobals "MOST_SIGNS"=some (some cp)) (r_MOST_SIGNS:RelV (V.int (60)) cp)
  (q_EMPTY_ROW:PySem.W.nsIn K mainGlobals "EMPTY_ROW"=some (some d3)) (r_EMPTY_ROW:RelV (V.str "-") d3)
  (z_ValueError:PySem.W.nsIn K mainGlobals "ValueError"=some none)
  (z_all:PySem.W.nsIn K mainGlobals "all"=some none)
  (z_bool:PySem.W.nsIn K mainGlobals "bool"=some none)
  (z_int:PySem.W.nsIn K mainGlobals "int"=some none)
  (z_isinstance:PySem.W.nsIn K mainGlobals "isinstance"=some none)
  (z_len:PySem.W.nsIn K mainGlobals "len"=some none)
  (z_list:PySem.W.nsIn K mainGlobals "list"=some none)
  (z_range:PySem.W.nsIn K mainGlobals "range"=some none)
  (z_str:PySem.W.nsIn K mainGlobals "str"=some none)
  (z_tuple:PySem.W.nsIn K mainGlobals "tuple"=some none)
  (z_zip:PySem.W.nsIn K mainGlobals "zip"=some none)
  (n_NoText:PySem.W.nsIn K mainGlobals "NoText"=some (some (.ref aa)))
  (ec_NoText:PySem.W.excIn K aa bmV "ValueError.__new__"=true) (ga_NoText:PySem.W.findIn K (.ref aa) "__getattribute__"=some (some (.builtin "BaseException.__getattribute__"))) (gt_NoText:PySem.W.findIn K (.ref aa) "__getattr__"=some none) (fa_NoText:PySem.W.findIn K (.ref aa) "__class__"=some (some (.builtin "object.__class__"))) (fg_NoText:PySem.W.specialIn K (.builtin "object.__class__") "__get__"=some (some (.builtin "getset_descriptor.__get__"))) (ft_NoText:PySem.W.takesIn K (.builtin "object.__class__")=some true) (ob_NoText:PySem.W.mroIn K aa (.type "object")=some true) (bx_NoText:PySem.W.mroIn K aa (.type "BaseException")=some true) (cl_NoText:PySem.W.isClsIn K aa=true)
  (n_TooGreat:PySem.W.nsIn K mainGlobals "TooGreat"=some (some (.ref ah)))
  (n_NotSingle:PySem.W.nsIn K mainGlobals "NotSingle"=some (some (.ref af)))
  (n_NoWay:PySem.W.nsIn K mainGlobals "NoWay"=some (some (.ref au)))
  (n_NoRow:PySem.W.nsIn K mainGlobals "NoRow"=some (some (.ref ao)))
  (n_NoName:PySem.W.nsIn K mainGlobals "NoName"=some (some (.ref aj)))
  (n_NoMachine:PySem.W.nsIn K mainGlobals "NoMachine"=some (some (.ref ae)))
  (n_NoFit:PySem.W.nsIn K mainGlobals "NoFit"=some (some (.ref aq)))
  (n_NoExchange:PySem.W.nsIn K mainGlobals "NoExchange"=some (some (.ref ac)))
  (n_RoomError:PySem.W.nsIn K mainGlobals "RoomError"=some (some (.ref ag)))
  (h_NoText_NoText:PySem.W.exmOne K (.ref aa) (.ref aa)=some true)
  (i_NoText_TooGreat:PySem.W.kitOne K (.ref aa) (.ref ah)=some false)
  (i_NoText_NotSingle:PySem.W.kitOne K (.ref aa) (.ref af)=some false)
  (i_NoText_NoWay:PySem.W.kitOne K (.ref aa) (.ref au)=some false)
  (i_NoText_NoRow:PySem.W.kitOne K (.ref aa) (.ref ao)=some false)
  (i_NoText_NoName:PySem.W.kitOne K (.ref aa) (.ref aj)=some false)
  (i_NoText_NoMachine:PySem.W.kitOne K (.ref aa) (.ref ae)=some false)
  (i_NoText_NoFit:PySem.W.kitOne K (.ref aa) (.ref aq)=some false)
  (i_NoText_NoExchange:PySem.W.kitOne K (.ref aa) (.ref ac)=some false)
  (i_NoText_ValueError:PySem.W.kitOne K (.ref aa) (.type "ValueError")=some true)
  (i_NoText_RoomError:PySem.W.kitOne K (.ref aa) (.ref ag)=some true)
  : ∃fd:FuncData,(∀(s:Shared) (v:Value),BindsTo s fd ⟨[v],[]⟩ [("_law_script",v)])/\∀base:Heap,K.In base->base.Ns mainGlobals mg->FnOk l.prog w K mg base (CXE l.prog w) 6 fa fd ["_law_script"] (spF K mg 1 m_law):=by
 have T:Txt K mg aa ah af au ao aj ae aq ac ag:=⟨Xv X G z_ValueError,Xv X G z_all,Xv X G z_bool,Xv X G z_int,Xv X G z_isinstance,Xv X G z_len,Xv X G z_list,Xv X G z_range,Xv X G z_str,Xv X G z_tuple,Xv X G z_zip,⟨_,Xp X G q_LETTERS,r_LETTERS⟩,⟨_,Xp X G q_MOST_LETTERS,r_MOST_LETTERS⟩,⟨_,Xp X G q_FIGURES,r_FIGURES⟩,⟨_,Xp X G q_MOST_FIGURES,r_MOST_FIGURES⟩,⟨_,Xp X G q_MOST_SIGNS,r_MOST_SIGNS⟩,⟨_,Xp X G q_EMPTY_ROW,r_EMPTY_ROW⟩,n_NoText,Xp X G n_NoText,⟨Xp X G n_NoText,ec_NoText,qv6 ga_NoText gt_NoText fa_NoText fg_NoText ft_NoText ob_NoText bx_NoText cl_NoText⟩,n_TooGreat,Xp X G n_TooGreat,n_NotSingle,Xp X G n_NotSingle,n_NoWay,Xp X G n_NoWay,n_NoRow,Xp X G n_NoRow,n_NoName,Xp X G n_NoName,n_NoMachine,Xp X G n_NoMachine,n_NoFit,Xp X G n_NoFit,n_NoExchange,Xp X G n_NoExchange,n_RoomError,Xp X G n_RoomError,h_NoText_NoText,i_NoText_TooGreat,i_NoText_NotSingle,i_NoText_NoWay,i_NoText_NoRow,i_NoText_NoName,i_NoText_NoMachine,i_NoText_NoFit,i_NoText_NoExchange,i_NoText_ValueError,i_NoText_RoomError⟩;refine g16.law X G hfa fun {base _ _} F=>?_
 have cu:kkj l.prog w K mg base:=g0.d X G (kw5 T );have be:jqo l.prog w K mg base:=g1.d X G (jwi T );have bp:jv9 l.prog w K mg base:=g2.d X G (jxc T be);have ce:jxt l.prog w K mg base:=g3.d X G (kju T cu bp);have b9:jwl l.prog w K mg base:=g4.d X G (kq0 T ce);have b8:jvd l.prog w K mg base:=g5.d X G (jxg T );have ak:ZJ l.prog w K mg base:=g6.d X G (jzv T );have c8:jws l.prog w K mg base:=g7.d X G (jzt T ak);have bu:jwb l.prog w K mg base:=g8.d X G (jxz T );have bw:jwt l.prog w K mg base:=g9.d X G (jzu T );have bf:jwc l.prog w K mg base:=g10.d X G (jz0 T bw);have bc:jvb l.prog w K mg base:=g11.d X G (jxe T );have bt:jwa l.prog w K mg base:=g12.d X G (jxy T bc);have bj:jv5 l.prog w K mg base:=g13.d X G (jwx T ak);have bo:jvc l.prog w K mg base:=g14.d X G (jxf T ak bj);have bq:jva l.prog w K mg base:=g15.d X G (jxd T b9);exact vjt T c8 bf b8 bo bt b9 bu bq F
end Nk06
namespace PySem.W.Fast
theorem tw11888404608092941141:True:=⟨⟩
theorem tw8657597181913441727:True:=⟨⟩
theorem tw4369987813571842847:True:=⟨⟩
theorem tw10645477599249238525:True:=⟨⟩
theorem tw18231790594137115814:True:=⟨⟩
theorem tw3253075274094888551:True:=⟨⟩
theorem tw6161812690550362321:True:=⟨⟩
theorem tw9139225313941697201:True:=⟨⟩
theorem tw1435773376031163748:True:=⟨⟩
theorem tw6312770998591144053:True:=⟨⟩
theorem tw14473552320516739591:True:=⟨⟩
theorem tw3038931538537342103:True:=⟨⟩
theorem tw13801971462951126562:True:=⟨⟩
theorem tw15998057098178017633:True:=⟨⟩
theorem tw3201235788775914548:True:=⟨⟩
theorem tw16048801376185576857:True:=⟨⟩
theorem tw16366950046928389290:True:=⟨⟩
theorem tw3598502003923143738:True:=⟨⟩
theorem tw11902471139861504979:True:=⟨⟩
theorem tw17160919480342983557:True:=⟨⟩
theorem tw7067485973243970703:True:=⟨⟩
theorem tw7486957130055861134:True:=⟨⟩
theorem tw13569596396193577837:True:=⟨⟩
theorem tw3435549246082436183:True:=⟨⟩
theorem tw15787876538997801180:True:=⟨⟩
theorem tw11311414460580675025:True:=⟨⟩
theorem tw11506581557095001717:True:=⟨⟩
theorem tw8985193828828815678:True:=⟨⟩
theorem tw10835723445440352907:True:=⟨⟩
theorem tw2720020646834479303:True:=⟨⟩
theorem tw14631528691919633968:True:=⟨⟩
theorem tw8715509468189670079:True:=⟨⟩
theorem tw2939676178698124038:True:=⟨⟩
theorem tw1626855380806801741:True:=⟨⟩
theorem tw1155603584212442901:True:=⟨⟩
theorem tw2980358386131404878:True:=⟨⟩
theorem tw13030396965074527505:True:=⟨⟩
theorem tw6182386391802099550:True:=⟨⟩
theorem tw529986187787049857:True:=⟨⟩
theorem tw14919792011953917783:True:=⟨⟩
theorem tw16544104563079213053:True:=⟨⟩
theorem tw10238653861316044588:True:=⟨⟩
theorem tw799521056135414091:True:=⟨⟩
theorem tw5012445023821142741:True:=⟨⟩
theorem tw5872130240385822215:True:=⟨⟩
theorem tw8023313782514214245:True:=⟨⟩
theorem tw13133564355865871490:True:=⟨⟩
theorem tw15185674798213355276:True:=⟨⟩
theorem tw13493739318641927396:True:=⟨⟩
theorem tw15938709315105418040:True:=⟨⟩
theorem tw11479477212503591878:True:=⟨⟩
theorem tw10273631510970053727:True:=⟨⟩
theorem tw5750911762360290385:True:=⟨⟩
theorem tw13098395423311768663:True:=⟨⟩
theorem tw5617833881262510118:True:=⟨⟩
theorem tw6649157617962209678:True:=⟨⟩
theorem tw10859670577049583160:True:=⟨⟩
theorem tw3412992022037285725:True:=⟨⟩
theorem tw14655800223941798483:True:=⟨⟩
theorem tw9522148190139006869:True:=⟨⟩
theorem tw5172471105515521152:True:=⟨⟩
theorem tw15789129000234249817:True:=⟨⟩
theorem tw620907209412980152:True:=⟨⟩
theorem tw9759477776530013086:True:=⟨⟩
theorem tw10063657791206892809:True:=⟨⟩
theorem tw338831450752052612:True:=⟨⟩
theorem tw6757611305927301743:True:=⟨⟩
theorem tw4720171894686620280:True:=⟨⟩
theorem tw17624099720932103575:True:=⟨⟩
theorem tw16203733146089111398:True:=⟨⟩
theorem tw17193049952123348914:True:=⟨⟩
theorem tw566782388848270397:True:=⟨⟩
theorem tw14083540046913935986:True:=⟨⟩
theorem tw5151010806610384466:True:=⟨⟩
theorem tw7067470196497338952:True:=⟨⟩
theorem tw223667749126340766:True:=⟨⟩
theorem tw55341154048262769:True:=⟨⟩
theorem tw13171604170704108545:True:=⟨⟩
theorem tw8152027734406288514:True:=⟨⟩
theorem tw17257068069289491276:True:=⟨⟩
theorem tw10576081812545877344:True:=⟨⟩
theorem tw15400877176657046225:True:=⟨⟩
theorem tw16405656687104914875:True:=⟨⟩
theorem tw15303529620758460556:True:=⟨⟩
theorem tw17824945184991811255:True:=⟨⟩
theorem tw9111845338469459741:True:=⟨⟩
theorem tw10593452857569740790:True:=⟨⟩
theorem tw10186781370652430604:True:=⟨⟩
theorem tw1286224812155652114:True:=⟨⟩
theorem tw13312879982626482068:True:=⟨⟩
theorem tw867273660740881485:True:=⟨⟩
theorem tw17985950916691821712:True:=⟨⟩
theorem tw14532066745252077539:True:=⟨⟩
theorem tw11543601451787282344:True:=⟨⟩
theorem tw10705480451607262159:True:=⟨⟩
theorem tw7963326075933947733:True:=⟨⟩
theorem tw16060884480961333550:True:=⟨⟩
theorem tw12712494415777101541:True:=⟨⟩
theorem tw3736787793319189323:True:=⟨⟩
theorem tw9807904286470983969:True:=⟨⟩
theorem tw4049269724569233516:True:=⟨⟩
end PySem.W.Fast
open PySem PySem.W PyProof.Rows
set_option maxRecDepth 100000 in
set_option maxHeartbeats 0 in
theorem PySem.Challenge.cw_freshrooms_k06_texts_of_no_row_holds : PySem.Challenge.rw_freshrooms_k06_texts_of_no_row.Holds := by
 w_on;o_law;k_head;(case hw=>w_witness2)
 k_fill
 refine Q.walkQ (l:=PySem.Challenge.rw_freshrooms_k06_texts_of_no_row) (n:=63) (k:=6) (x:="_law_script") (f:=Nk06.m_law) rfl (by decide) rfl ⟨rfl,by decide,by decide,rfl⟩ (fun w h Y=>PySem.W.kIn_of Y) ?F Nk06.law_true
 case F =>
  intro w mg fa h KX G hmg
  refine' Nk06.all_mk KX G hmg ?_ ?_ ?_ ?_ ?_ ?_ ?_ ?_ ?_ ?_ ?_ ?_ ?_ ?_ ?_ ?_ ?_ ?q_LETTERS ?r_LETTERS ?q_MOST_LETTERS ?r_MOST_LETTERS ?q_FIGURES ?r_FIGURES ?q_MOST_FIGURES ?r_MOST_FIGURES ?q_MOST_SIGNS ?r_MOST_SIGNS ?q_EMPTY_ROW ?r_EMPTY_ROW ?z_ValueError ?z_all ?z_bool ?z_int ?z_isinstance ?z_len ?z_list ?z_range ?z_str ?z_tuple ?z_zip ?n_NoText ?ec_NoText ?ga_NoText ?gt_NoText ?fa_NoText ?fg_NoText ?ft_NoText ?ob_NoText ?bx_NoText ?cl_NoText ?n_TooGreat ?n_NotSingle ?n_NoWay ?n_NoRow ?n_NoName ?n_NoMachine ?n_NoFit ?n_NoExchange ?n_RoomError ?h_NoText_NoText ?i_NoText_TooGreat ?i_NoText_NotSingle ?i_NoText_NoWay ?i_NoText_NoRow ?i_NoText_NoName ?i_NoText_NoMachine ?i_NoText_NoFit ?i_NoText_NoExchange ?i_NoText_ValueError ?i_NoText_RoomError
  all_goals try (refine' Q.Gf.mk ?a ?b ?c ?d;(case a=>k_is);(case b=>k_is);(case c=>k_is);(case d=>k_is))
  (case q_LETTERS=>k_is)
  (case r_LETTERS=>exact ⟨_,rfl⟩)
  (case q_MOST_LETTERS=>k_is)
  (case r_MOST_LETTERS=>exact ⟨_,rfl⟩)
  (case q_FIGURES=>k_is)
  (case r_FIGURES=>exact ⟨_,rfl⟩)
  (case q_MOST_FIGURES=>k_is)
  (case r_MOST_FIGURES=>exact ⟨_,rfl⟩)
  (case q_MOST_SIGNS=>k_is)
  (case r_MOST_SIGNS=>exact ⟨_,rfl⟩)
  (case q_EMPTY_ROW=>k_is)
  (case r_EMPTY_ROW=>exact ⟨_,rfl⟩)
  (case z_ValueError=>k_is)
  (case z_all=>k_is)
  (case z_bool=>k_is)
  (case z_int=>k_is)
  (case z_isinstance=>k_is)
  (case z_len=>k_is)
  (case z_list=>k_is)
  (case z_range=>k_is)
  (case z_str=>k_is)
  (case z_tuple=>k_is)
  (case z_zip=>k_is)
  (case n_NoText=>k_is)
  (case ec_NoText=>k_exc)
  (case ga_NoText=>k_is)
  (case gt_NoText=>k_is)
  (case fa_NoText=>k_is)
  (case fg_NoText=>k_is)
  (case ft_NoText=>k_is)
  (case ob_NoText=>k_is)
  (case bx_NoText=>k_is)
  (case cl_NoText=>k_is)
  (case n_TooGreat=>k_is)
  (case n_NotSingle=>k_is)
  (case n_NoWay=>k_is)
  (case n_NoRow=>k_is)
  (case n_NoName=>k_is)
  (case n_NoMachine=>k_is)
  (case n_NoFit=>k_is)
  (case n_NoExchange=>k_is)
  (case n_RoomError=>k_is)
  (case h_NoText_NoText=>kts_exm)
  (case i_NoText_TooGreat=>kit_is)
  (case i_NoText_NotSingle=>kit_is)
  (case i_NoText_NoWay=>kit_is)
  (case i_NoText_NoRow=>kit_is)
  (case i_NoText_NoName=>kit_is)
  (case i_NoText_NoMachine=>kit_is)
  (case i_NoText_NoFit=>kit_is)
  (case i_NoText_NoExchange=>kit_is)
  (case i_NoText_ValueError=>kit_is)
  (case i_NoText_RoomError=>kit_is)
