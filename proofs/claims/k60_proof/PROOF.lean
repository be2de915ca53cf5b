import PyProof.Rows.All
import Wide.All
import OpenK.AllK
import Wide.FinOn
import Lean
import PySem.Challenge.RW_freshrooms_k60_turned
set_option Elab.async false
set_option linter.all false
set_option bootstrap.genMatcherCode false
set_option compiler.extract_closed false
set_option maxRecDepth 100000
theorem Ŕq(_:True:=by rfl):True:=trivial
theorem Ŕq.z:True:=trivial
open Ŕq renaming _auto_1→Ŕ
theorem ŕq(_:True:=by decide):True:=trivial
theorem ŕq.z:True:=trivial
open ŕq renaming _auto_1→ŕ
theorem Ŗq(_:True:=by intro _;rfl):True:=trivial
theorem Ŗq.z:True:=trivial
open Ŗq renaming _auto_1→Ŗ
theorem ŗq(_:True:=by decide +kernel):True:=trivial
theorem ŗq.z:True:=trivial
open ŗq renaming _auto_1→ŗ
theorem Řq(_:True:=by first|exact .inl rfl|exact .inr rfl|assumption):True:=trivial
theorem Řq.z:True:=trivial
open Řq renaming _auto_1→Ř
theorem řq(_:True:=by first|exact Or.inl rfl|exact Or.inr (Or.inl rfl)|exact Or.inr (Or.inr rfl)):True:=trivial
theorem řq.z:True:=trivial
open řq renaming _auto_1→ř
theorem Śq(_:True:=by first|exact Or.inl rfl|exact Or.inr rfl):True:=trivial
theorem Śq.z:True:=trivial
open Śq renaming _auto_1→Ś
theorem śq(_:True:=by first|exact .inl rfl|exact .inr rfl):True:=trivial
theorem śq.z:True:=trivial
open śq renaming _auto_1→ś
theorem oq9{α : Type _}{a b : α}(h:some a=some b):a=b:=Option.some.inj h
theorem lr9{α : Type _}{a : α}{b : List α}(c : List α)(h:a ∈ b):a ∈ c ++ b:=List.mem_append_right c h
theorem ll9{α : Type _}{a : α}{b : List α}(c : List α)(h:a ∈ b):a ∈ b ++ c:=List.mem_append_left c h
theorem lc9{α : Type _}{a : α}{l : List α}(b : α)(h:a ∈ l):a ∈ b::l:=List.mem_cons_of_mem b h
section
open PySem PySem.Spec PyProof.Rows
theorem X0:type_of% @wpAny_bind:=@wpAny_bind
theorem X1:type_of% @List.getElem?_eq_getElem:=@List.getElem?_eq_getElem
theorem X2:type_of% @Heap.get?_push_of_some:=@Heap.get?_push_of_some
theorem X3:type_of% @List.length_map:=@List.length_map
theorem X4:type_of% @List.size_toArray:=@List.size_toArray
theorem X5:type_of% @List.mem_cons_self:=@List.mem_cons_self
theorem X6:type_of% @List.nodup_append:=@List.nodup_append
theorem X7:type_of% @List.getD_eq_getElem?_getD:=@List.getD_eq_getElem?_getD
theorem X8:type_of% @Nat.le_refl:=@Nat.le_refl
theorem X9:type_of% @wpAny_pure:=@wpAny_pure
theorem Xa:type_of% @Heap.lt_size:=@Heap.lt_size
theorem Xb:type_of% @if_pos:=@if_pos
theorem Xd:type_of% @Heap.get?_push_size:=@Heap.get?_push_size
theorem Xe:type_of% @Nat.lt_of_lt_of_le:=@Nat.lt_of_lt_of_le
theorem Xf:type_of% @List.mem_map_of_mem:=@List.mem_map_of_mem
theorem Xg:type_of% @List.getElem?_map:=@List.getElem?_map
theorem Xh:type_of% @List.not_mem_nil:=@List.not_mem_nil
theorem Xi:type_of% @List.length_append:=@List.length_append
theorem Xj:type_of% @if_neg:=@if_neg
theorem Xk:type_of% @List.mem_cons:=@List.mem_cons
theorem Xl:type_of% @Int.emod_lt_of_pos:=@Int.emod_lt_of_pos
theorem Xm:type_of% @List.map_append:=@List.map_append
theorem Xn:type_of% @List.getElem?_set_ne:=@List.getElem?_set_ne
theorem Xp:type_of% @Nat.ne_of_lt:=@Nat.ne_of_lt
theorem Xq:type_of% @wpAny_field:=@wpAny_field
theorem Xr:type_of% @List.append_nil:=@List.append_nil
theorem Xs:type_of% @List.mem_of_getElem?:=@List.mem_of_getElem?
theorem Xu:type_of% @List.nodup_nil:=@List.nodup_nil
theorem Xv:type_of% @PySem.W.mg_none_of:=@PySem.W.mg_none_of
theorem Xw:type_of% @PySem.W.kia_one:=@PySem.W.kia_one
theorem Xx:type_of% @Int.emod_nonneg:=@Int.emod_nonneg
theorem Xy:type_of% @List.append_assoc:=@List.append_assoc
theorem Xz:type_of% @decide_eq_true:=@decide_eq_true
theorem Y0:type_of% @List.length_cons:=@List.length_cons
theorem Y1:type_of% @Nat.le_trans:=@Nat.le_trans
theorem Y2:type_of% @wpAny_newObj_type:=@wpAny_newObj_type
theorem Y3:type_of% @List.getElem?_append_right:=@List.getElem?_append_right
theorem Y4:type_of% @List.getElem?_set_self:=@List.getElem?_set_self
theorem Y5:type_of% @List.getElem_mem:=@List.getElem_mem
theorem Y6:type_of% @List.getElem?_append_left:=@List.getElem?_append_left
theorem Y7:type_of% @Int.toNat_natCast:=@Int.toNat_natCast
theorem Y8:type_of% @Nat.lt_irrefl:=@Nat.lt_irrefl
theorem Y9:type_of% @decide_eq_false:=@decide_eq_false
theorem Ya:type_of% @PySem.F.plainAttrs_list:=@PySem.F.plainAttrs_list
theorem Yb:type_of% @PyProof.Rows.callWith_type1:=@PyProof.Rows.callWith_type1
theorem Yc:type_of% @Array.length_toList:=@Array.length_toList
theorem Yd:type_of% @PySem.mem_of_lookup:=@PySem.mem_of_lookup
theorem Ye:type_of% @List.length_set:=@List.length_set
theorem Yf:type_of% @List.length_replicate:=@List.length_replicate
theorem Yg:type_of% @wpAny_call_entry:=@wpAny_call_entry
theorem Yh:type_of% @List.map_map:=@List.map_map
theorem Yi:type_of% @wpAny_callSpecial?_slot:=@wpAny_callSpecial?_slot
theorem Yj:type_of% @List.eraseIdx_cons_succ:=@List.eraseIdx_cons_succ
theorem Yk:type_of% @Heap.get?_update_ne:=@Heap.get?_update_ne
theorem Yl:type_of% @List.flatten_cons:=@List.flatten_cons
theorem Ym:type_of% @List.length_drop:=@List.length_drop
theorem Yn:type_of% @List.lookup_cons:=@List.lookup_cons
theorem Yo:type_of% @wpAny_seqItems:=@wpAny_seqItems
end
noncomputable section
namespace L2
open PySem PySem.Spec PyProof.Rows
abbrev Key:=Sum Int Str
def vjo:Key->Value->Bool
 |.inl k,v=>Value.isInt k v
 |.inr x,v=>Value.isStrOf x v
def keyH(w:World):Key->Int
 |.inl k=>hashInt k
 |.inr x=>hashStr w x
theorem Jx:∀{k:Key} {v:Value},vjo k v=true->(∃i t,k=Sum.inl i/\v=Value.int i t)\/(∃x t,k=Sum.inr x/\v=Value.str x t)
 |.inl i,v,h=>by
  obtain⟨t,e⟩:=Value.isInt_shape (k:=i) (v:=v) h;exact .inl ⟨i,t,rfl,e⟩
 |.inr x,v,h=>by
  obtain⟨t,e⟩:=Value.isStrOf_shape (x:=x) (v:=v) h;exact .inr ⟨x,t,rfl,e⟩
theorem vjn(a b:Int):decide ((Sum.inl a:Key)=Sum.inl b)=(a==b):=by
 by_cases e:a=b
 ·subst e;simp
 ·have h:¬(Sum.inl a:Key)=Sum.inl b:=λq=>e (Sum.inl.inj q)
  rw[Y9 h];exact(beq_eq_false_iff_ne.mpr e).symm
theorem vjk(a b:Str):decide ((Sum.inr a:Key)=Sum.inr b)=decide (a=b):=by
 by_cases e:a=b
 ·subst e;simp
 ·have h:¬(Sum.inr a:Key)=Sum.inr b:=λq=>e (Sum.inr.inj q)
  rw[Y9 h,Y9 e]
theorem vjm(a:Int)(b:Str):decide ((Sum.inl a:Key)=Sum.inr b)=false:=Y9 (λq=>nomatch q)
theorem vjl(a:Str)(b:Int):decide ((Sum.inr a:Key)=Sum.inl b)=false:=Y9 (λq=>nomatch q)
noncomputable def kjx(prog:Program)(w:World):PySem.KeyKind prog w Key where
 is:=vjo
 hash:=keyH w
 inj:=λv a b ha hb=>by
  rcases Jx ha with⟨i,t,rfl,rfl⟩|⟨x,t,rfl,rfl⟩
  ·rcases Jx hb with⟨j,u,rfl,e⟩|⟨y,u,rfl,e⟩
   ·injection e with e1 _;rw[e1]
   ·exact nomatch e
  ·rcases Jx hb with⟨j,u,rfl,e⟩|⟨y,u,rfl,e⟩
   ·exact nomatch e
   ·injection e with e1 _;rw[e1]
 byValue:=λk v h=>by
  rcases Jx h with⟨i,t,rfl,rfl⟩|⟨x,t,rfl,rfl⟩<;>rfl
 pyHash:=λhv h=>by
  rcases Jx hv with⟨i,t,rfl,rfl⟩|⟨x,t,rfl,rfl⟩
  ·exact wpAny_pyHash_int h
  ·exact wpAny_pyHash_str h
 eqBool:=λhu hv h=>by
  rcases Jx hu with⟨i,t,rfl,rfl⟩|⟨x,t,rfl,rfl⟩
  ·rcases Jx hv with⟨j,u,rfl,rfl⟩|⟨y,u,rfl,rfl⟩
   ·rw[vjn]at h;exact wpAny_eqBool_int h
   ·rw[vjm]at h;exact SeqAt.EqAt.int_str i t y u _ _ _ _ h
  ·rcases Jx hv with⟨j,u,rfl,rfl⟩|⟨y,u,rfl,rfl⟩
   ·rw[vjl]at h;exact SeqAt.EqAt.str_int x t j u _ _ _ _ h
   ·rw[vjk]at h;exact wpAny_eqBool_str h
 «strs»:=λk x t v h=>by
  rcases Jx h with⟨i,u,rfl,e⟩|⟨y,u,rfl,e⟩
  ·exact nomatch e
  ·injection e with e1 _;subst e1;cases v<;>rfl
inductive V where
 |non|bl (b:Bool)|int (i:Int)|str (x:Str)|byt (b:Array UInt8)|flt (b:UInt64)|ref (a:Addr)|ty (n:String)
 deriving DecidableEq
noncomputable def RelV:V->Value->Prop
 |.non,u=>u=Value.none
 |.bl b,u=>u=Value.bool b
 |.int i,u=>∃t,u=Value.int i t
 |.str x,u=>∃t,u=Value.str x t
 |.byt b,u=>∃t,u=Value.bytes b t
 |.flt b,u=>∃t,u=Value.float b t
 |.ref a,u=>u=Value.ref a
 |.ty n,u=>u=Value.type n
abbrev Vals:List V->List Value->Prop:=Paired RelV
theorem Vals.length{xs:List V}{us:List Value}(r:Vals xs us):xs.length=us.length:=Paired.length r
theorem Vals.get:∀{xs:List V} {us:List Value} {i:Nat} {x:V},Vals xs us->xs[i]?=some x->∃u,us[i]?=some u/\RelV x u
 |_,_,_,_,.nil,e=>by simp at e
 |_,_,0,_,.cons r _,e=>by simp at e;subst e;exact⟨_,rfl,r⟩
 |_,_,i+1,x,.cons _ t,e=>by
  obtain⟨u,h1,h2⟩:=Vals.get (i:=i) (x:=x) t (by simpa using e);exact⟨u,by simpa using h1,h2⟩
theorem Vals.set{x:V}{u:Value}(r:RelV x u):∀{xs:List V} {us:List Value} (i:Nat),Vals xs us->Vals (xs.set i x) (us.set i u)
 |_,_,_,.nil=>.nil
 |_,_,0,.cons _ t=>.cons r t
 |_,_,i+1,.cons q t=>.cons q (Vals.set r i t)
theorem Vals.append:∀{xs ys:List V} {us ws:List Value},Vals xs us->Vals ys ws->Vals (xs++ys) (us++ws)
 |_,_,_,_,.nil,s=>s
 |_,_,_,_,.cons r t,s=>.cons r (Vals.append t s)
theorem Vals.take:∀{xs:List V} {us:List Value} (n:Nat),Vals xs us->Vals (xs.take n) (us.take n)
 |_,_,0,_=>.nil
 |_,_,_+1,.nil=>.nil
 |_,_,n+1,.cons r t=>.cons r (Vals.take n t)
theorem Vals.drop:∀{xs:List V} {us:List Value} (n:Nat),Vals xs us->Vals (xs.drop n) (us.drop n)
 |_,_,0,r=>r
 |_,_,_+1,.nil=>.nil
 |_,_,n+1,.cons _ t=>Vals.drop n t
def vvl:Option V->Option Value->Prop
 |some v,some u=>RelV v u
 |none,none=>True
 |_,_=>False
def KV{κ:Type}:List (κ×V)->List (κ×Value)->Prop:=Paired λ(p:κ×V) (q:κ×Value)=>p.1=q.1/\RelV p.2 q.2
def kV:Key->V
 |.inl i=>.int i
 |.inr x=>.str x
inductive HO where
 |lst (xs:List V)
 |tup (xs:List V)
 |dK (ai:List (Key×V))|dT (ai:List (List Key×V))
 |set (S:Int->Bool) (n:Nat)
 |ins (C dx:Addr) (fs:List (Str×V))
 |own (x:Addr)
 |xd (fs:List (Str×V))
 |met (f x:Addr)
 |rng (lo hi:Int)
 |frz (o:Obj) (u:HO)
 |tbl (ps:Array Value)
 |ext (φ:Heap->Prop)
abbrev Hp:=Addr->Option HO
noncomputable def IsTupD(h:Heap)(a:Addr)(items:Array Value):Prop:=∃o,h.get? a=some o/\o.cls=.type "tuple"/\o.dict=none/\∃n,o.data=.seq items n
theorem IsTupD.tup{h:Heap}{a:Addr}{items:Array Value}(p:IsTupD h a items):IsTup h a items:=by
 obtain⟨o,e,c,_,n,d⟩:=p;exact⟨o,e,c,n,d⟩
theorem IsTupD.new(h:Heap)(xs:Array Value):IsTupD (h.push { cls:=.type "tuple",data:=.seq xs }) h.objs.size xs:=⟨_,Xd _ rfl,rfl,rfl,0,rfl⟩
def upd(H:Hp)(a:Addr)(o:HO):Hp:=λb=>if b=a then some o else H b
theorem xk{H:Hp}{a:Addr}{o:HO}:upd H a o a=some o:=by unfold upd;rw[Xb rfl]
theorem kZ{H:Hp}{a b:Addr}{o:HO}(h:b≠a):upd H a o b=H b:=by unfold upd;rw[Xj h]
theorem J4{H:Hp}{a b:Addr}{o:HO}(h:H a=some o)(h':H b=none):a≠b:=by
 intro e;subst e;rw[h]at h';cases h'
section
variable (P:Program)(w:World)
noncomputable def ObjOk(H : Hp)(h : Heap)(a : Addr): HO -> Prop
  |.lst xs=>xs.length<=sizeLine /\ ∃(aa : List Value) (n : Nat), Vals xs aa /\ h.get? a = some { cls:= .type "list", data:= .seq aa.toArray n }
  |.tup xs=>xs.length<=sizeLine /\ ∃aa : List Value, Vals xs aa /\ IsTupD h a aa.toArray
  |.dK ai=>ai.length<=sizeLine /\ (a==sysModules) = false /\ ∃vs, KV ai vs /\ h.DictOf (kjx P w) a vs
  |.dT ai=>ai.length<=sizeLine /\ (a==sysModules) = false /\ ∃xs : List (List Key × Addr × Value),
      Paired (λ(p : List Key × V) (q : List Key × Addr × Value)=>p.1 = q.1 /\ H q.2.1 = some (.tup (p.1.map kV)) /\ RelV p.2 q.2.2) ai xs /\
      ∃o es ep, h.get? a = some o /\ o.ExactDict /\ o.data = .dict es ep /\ es.toList = xs.map (entryOfKey (tupleKind (kjx P w))) /\ (xs.map (·.1)).Nodup
  |.set S n=>h.SetOf (intKind P w) a S n
  |.ins C dx fs=>H dx = some (.own a) /\ fs.length<=1000 /\ dx≠a /\ h.get? a = some (PySem.W.instObj C dx) /\
      ∃mA, h.Ns1 dx mA /\ (∀f, vvl (fs.lookup f) (mA f)) /\ PySem.Within mA (fs.map (·.1))
  |.own _=> ∃o, h.get? a = some o
  |.xd fs=> ∃mA, h.Ns1 a mA /\ ∀f, vvl (fs.lookup f) (mA f)
  |.rng lo hi=> ∃t u v, h.get? a = some { cls:= .type "range", data:= .fields #[.int lo t, .int hi u, .int 1 v] }
  |.frz o u=>h.get? a = some o /\ ObjOk H h a u
  |.tbl ps=>h.get? a = some { cls:= .none, data:= .fields ps }
  |.met f x=>h.get? a = some (PySem.W.methodObj (.ref f) (.ref x))
  |.ext φ=>φ h /\ (∃o, h.get? a = some o) /\ ∀h1 h2 : Heap, φ h1 -> (∀o, h1.get? a = some o -> h2.get? a = some o) -> φ h2
def HOk(H:Hp)(h:Heap):Prop:=∀a o,H a=some o->ObjOk P w H h a o
end
section
variable {P:Program}{w:World}{H H':Hp}{h h':Heap}{a:Addr}{o:HO}
theorem ObjOk.lt(x:ObjOk P w H h a o):a<h.objs.size:=by
 cases o with
 |lst xs=>obtain⟨_,_,_,_,e⟩:=x;exact Xa e
 |tup xs=>obtain⟨_,_,_,p⟩:=x;exact p.tup.lt
 |dK ai=>obtain⟨_,_,_,_,o,_,_,e,_⟩:=x;exact Xa e
 |dT ai=>obtain⟨_,_,_,_,o,_,_,e,_⟩:=x;exact Xa e
 |set S n=>obtain⟨o,_,_,_,e,_⟩:=x;exact Xa e
 |ins C dx fs=>obtain⟨_,_,_,e,_⟩:=x;exact Xa e
 |own y=>obtain⟨_,e⟩:=x;exact Xa e
 |xd fs=>obtain⟨_,⟨_,_,_,e,_⟩,_⟩:=x;exact Xa e
 |rng lo hi=>obtain⟨_,_,_,e⟩:=x;exact Xa e
 |frz ob u=>obtain⟨e,_⟩:=x;exact Xa e
 |tbl ps=>exact Xa (show h.get? a=some _ from x)
 |met f y=>exact Xa (show h.get? a=some _ from x)
 |ext φ=>obtain⟨_,⟨_,e⟩,_⟩:=x;exact Xa e
theorem Paired.mapP{α β:Type}{F G:α->β->Prop}:∀{l₁:List α} {l₂:List β},Paired F l₁ l₂->(∀a b,F a b->G a b)->Paired G l₁ l₂
 |_,_,.nil,_=>.nil
 |_,_,.cons r t,f=>.cons (f _ _ r) (Paired.mapP t f)
theorem ObjOk.stay(x:ObjOk P w H h a o)(k:∀b u,(b=a\/H b=some (.own a))->h.get? b=some u->h'.get? b=some u)
  (ho:∀b,H b=some (.own a)->H' b=some (.own a)) (ht:∀b xs,H b=some (.tup xs)->H' b=some (.tup xs)):ObjOk P w H' h' a o:=by
 induction o with
 |lst xs=>obtain⟨z,aa,n,r,e⟩:=x;exact⟨z,aa,n,r,k _ _ (.inl rfl) e⟩
 |tup xs=>obtain⟨z,aa,r,ob,e,c⟩:=x;exact⟨z,aa,r,ob,k _ _ (.inl rfl) e,c⟩
 |dK ai=>obtain⟨z,y,vs,r,ob,es,ep,e,c⟩:=x;exact⟨z,y,vs,r,ob,es,ep,k _ _ (.inl rfl) e,c⟩
 |dT ai=>
  obtain⟨z,y,xs,r,ob,es,ep,e,c⟩:=x;exact⟨z,y,xs,Paired.mapP r λp q z=>⟨z.1,ht _ _ z.2.1,z.2.2⟩,ob,es,ep,k _ _ (.inl rfl) e,c⟩
 |set S n=>obtain⟨ob,es,ep,t,e,c⟩:=x;exact⟨ob,es,ep,t,k _ _ (.inl rfl) e,c⟩
 |ins C dx fs=>
  obtain⟨d,z,ne,e,mA,⟨od,es,ep,e2,c⟩,r⟩:=x;exact⟨ho _ d,z,ne,k _ _ (.inl rfl) e,mA,⟨od,es,ep,k _ _ (.inr d) e2,c⟩,r⟩
 |own y=>obtain⟨ob,e⟩:=x;exact⟨ob,k _ _ (.inl rfl) e⟩
 |xd fs=>obtain⟨mA,⟨od,es,ep,e,c⟩,r⟩:=x;exact⟨mA,⟨od,es,ep,k _ _ (.inl rfl) e,c⟩,r⟩
 |rng lo hi=>obtain⟨t,u,v,e⟩:=x;exact⟨t,u,v,k _ _ (.inl rfl) e⟩
 |frz ob u ih=>obtain⟨e,q⟩:=x;exact⟨k _ _ (.inl rfl) e,ih q⟩
 |tbl ps=>
  have e:h.get? a=some { cls:=.none,data:=.fields ps }:=x;show h'.get? a=some { cls:=.none,data:=.fields ps };exact k a _ (.inl rfl) e
 |met f y=>
  have e:h.get? a=some (PySem.W.methodObj (.ref f) (.ref y)):=x;show h'.get? a=some (PySem.W.methodObj (.ref f) (.ref y));exact k a _ (.inl rfl) e
 |ext φ=>obtain⟨p,⟨o,e⟩,st⟩:=x;exact⟨st _ _ p λo q=>k _ _ (.inl rfl) q,⟨o,k _ _ (.inl rfl) e⟩,st⟩
theorem HOk.lt(x:HOk P w H h)(e:H a=some o):a<h.objs.size:=(x a o e).lt
theorem HOk.fresh(x:HOk P w H h)(e:h.objs.size<=a):H a=none:=by
 cases q:H a with
 |none=>rfl
 |some u=>exact absurd (Xe (x.lt q) e) (Y8 _)
theorem HOk.kept(x:HOk P w H h)(k:∀b u,h.get? b=some u->h'.get? b=some u):HOk P w H h':=λa o e=>
 (x a o e).stay (λb u _ q=>k b u q) (λ_ q=>q) λ_ _ q=>q
theorem HOk.laid(x:HOk P w H h)(k:∀b u,h.get? b=some u->h'.get? b=some u)(hp:h.objs.size<=a)(new:ObjOk P w (upd H a o) h' a o):HOk P w (upd H a o) h':=λb u e=>by
 have hn:=x.fresh hp
 by_cases hb:b=a
 ·subst hb;rw[xk]at e;cases e;exact new
 ·rw[kZ hb]at e;exact(x b u e).stay (λc v _ q=>k c v q) (λc q=>by rw[kZ (J4 q hn)];exact q) λc xs q=>by rw[kZ (J4 q hn)];exact q
end
def Rd(H:Hp)(a:Addr)(u:HO):Prop:=H a=some u\/∃o,H a=some (.frz o u)
theorem Rd.ok{P:Program}{w:World}{H:Hp}{h:Heap}{a:Addr}{u:HO}(r:Rd H a u)(x:HOk P w H h):ObjOk P w H h a u:=by
 rcases r with r|⟨o,r⟩
 ·exact x a u r
 ·obtain⟨_,q⟩:=x a _ r;exact q
noncomputable def Mut:Option HO->Prop
 |some (.lst _)=>True
 |some (.dK _)=>True
 |some (.dT _)=>True
 |some (.set _ _)=>True
 |some (.ins _ _ _)=>True
 |some (.ext _)=>True
 |_=>False
section
variable {P:Program}{w:World}{H:Hp}{h h':Heap}{x e:Addr}{o':HO}
theorem HOk.write(ok:HOk P w H h)(mu:Mut (H x))(he:e=x\/H e=some (.own x))(k:∀b u,b≠e->h.get? b=some u->h'.get? b=some u)(lb:∃u,h'.get? e=some u)
  (new:ObjOk P w (upd H x o') h' x o'):HOk P w (upd H x o') h':=λb u q=>by
 have mo:∀c y,H c=some (.own y)->c≠x:=λc y r z=>by subst z;rw[r]at mu;exact mu
 have ntup:∀c xs,H c=some (.tup xs)->c≠x:=λc xs r z=>by subst z;rw[r]at mu;exact mu
 by_cases hb:b=x
 ·subst hb;rw[xk]at q;cases q;exact new
 ·rw[kZ hb]at q
  by_cases hbe:b=e
  ·have q':H b=some (.own x):=by
    rcases he with z|z
    ·exact absurd (hbe.trans z) hb
    ·rw[hbe];exact z
   rw[q]at q';cases q';obtain⟨v,hv⟩:=lb;exact⟨v,by rw[hbe];exact hv⟩
  ·refine(ok b u q).stay (λc v hc r=>k c v ?_ r) (λc r=>by rw[kZ (mo c b r)];exact r) λc xs r=>by rw[kZ (ntup c xs r)];exact r
   rcases hc with rfl|hc
   ·exact hbe
   ·rintro rfl;rcases he with z|z
    ·exact mo c b hc z
    ·rw[hc]at z;cases z;exact hb rfl
end
structure Un (fs ex:List Addr)(H H':Hp)(h h':Heap):Prop where
 keep:∀b o,h.get? b=some o->H b=none->b∉fs->b∉ex->h'.get? b=some o
 slot:∀b o,h.get? b=some o->H b=none->b∈fs->b∉ex->∃sl,h'.get? b=some { o with slots:=sl }
 free:∀b o,h.get? b=some o->H b=none->b∉ex->H' b=none
 there:∀b o,h.get? b=some o->b∉ex->∃o',h'.get? b=some o'
 tups:∀b xs,H b=some (.tup xs)->H' b=some (.tup xs)
 frzs:∀b o u,H b=some (.frz o u)->H' b=some (.frz o u)
 tbls:∀b ps,H b=some (.tbl ps)->∃more,H' b=some (.tbl (ps++more))
section
variable {fs fs' ex ex':List Addr}{H H1 H2:Hp}{h h1 h2 h':Heap}{a x e:Addr}{o:HO}
theorem Un.any(u:Un fs ex H H1 h h1){b:Addr}{ob:Obj}(q:h.get? b=some ob)(n:H b=none)(hx:b∉ex):∃sl,h1.get? b=some { ob with slots:=sl }:=by
 by_cases hb:b∈fs
 ·exact u.slot b ob q n hb hx
 ·exact⟨ob.slots,u.keep b ob q n hb hx⟩
theorem Un.kept(k:∀b u,h.get? b=some u->h'.get? b=some u):Un fs ex H H h h':=
 ⟨λb ob q _ _ _=>k b ob q,λb ob q _ _ _=>⟨ob.slots,k b ob q⟩,λ_ _ _ n _=>n,λb ob q _=>⟨ob,k b ob q⟩,λ_ _ q=>q,λ_ _ _ q=>q,λ_ ps q=>⟨#[],by rw[q];simp⟩⟩
theorem Un.refl:Un fs ex H H h h:=Un.kept λ_ _ q=>q
theorem Un.laid(k:∀b u,h.get? b=some u->h'.get? b=some u)(hp:h.objs.size<=a)(hn:H a=none):Un fs ex H (upd H a o) h h' where
 keep:=λb u q _ _ _=>k b u q
 slot:=λb u q _ _ _=>⟨u.slots,k b u q⟩
 free:=λb u q n _=>by rw[kZ (Xp (Xe (Xa q) hp))];exact n
 there:=λb u q _=>⟨u,k b u q⟩
 tups:=λb xs q=>by rw[kZ (J4 q hn)];exact q
 frzs:=λb u xs q=>by rw[kZ (J4 q hn)];exact q
 tbls:=λb ps q=>⟨#[],by rw[kZ (J4 q hn),q];simp⟩
theorem Un.write(mu:Mut (H x))(he:e=x\/H e=some (.own x))(k:∀b u,b≠e->h.get? b=some u->h'.get? b=some u)(lb:∃u,h'.get? e=some u):Un fs ex H (upd H x o) h h':=by
 have hx:∀b,H b=none->b≠x:=λb n z=>by subst z;rw[n]at mu;exact mu
 have hb:∀b,H b=none->b≠e:=λb n z=>by
  subst z;rcases he with r|r
  ·exact hx b n r
  ·rw[n]at r;cases r
 have hm:∀b u,H b=some u->¬Mut (some u)->b≠x:=λb u q nm z=>by subst z;rw[q]at mu;exact nm mu
 refine⟨λb u q n _ _=>k b u (hb b n) q,λb u q n _ _=>⟨u.slots,k b u (hb b n) q⟩,λb u q n _=>by rw[kZ (hx b n)];exact n,λb u q _=>?_,
  λb xs q=>by rw[kZ (hm b _ q λz=>z)];exact q,λb u xs q=>by rw[kZ (hm b _ q λz=>z)];exact q,λb ps q=>⟨#[],by rw[kZ (hm b _ q λz=>z),q];simp⟩⟩
 by_cases hbe:b=e
 ·subst hbe;exact lb
 ·exact⟨u,k b u hbe q⟩
end
def trk(h:Heap)(H:Hp):List Addr:=(List.range h.objs.size).filter λa=>(H a).isSome
def Jz(h:Heap)(H:Hp):Heap:=PySem.W.hideAll h (trk h H)
theorem kzp(h:Heap)(H:Hp):(Jz h H).objs.size=h.objs.size:=PySem.W.hideAll_size _ _
theorem qkg{h:Heap}{H:Hp}{b:Addr}{o:Obj}(e:h.get? b=some o)(n:H b=none):(Jz h H).get? b=some o:=
 PySem.W.hideAll_get _ e λhm=>by
  have q:(H b).isSome=true:=(List.mem_filter.mp hm).2;rw[n]at q;simp at q
theorem qwb{h:Heap}{H:Hp}{b:Addr}{o:Obj}(e:(Jz h H).get? b=some o):h.get? b=some o/\H b=none:=by
 have e':h.get? b=some o:=PySem.W.of_hideAll (trk h H) e;refine⟨e',?_⟩;cases q:H b with
 |none=>rfl
 |some x=>
  have hm:b∈trk h H:=List.mem_filter.mpr ⟨List.mem_range.mpr (Xa e'),by simp[q]⟩;have z:(Jz h H).get? b=none:=PySem.W.hideAll_none (trk h H) hm;rw[z]at e;cases e
noncomputable def qx0(g h:Heap)(L:Addr):List (Addr×Obj):=(List.range h.objs.size).filterMap λa=>if a=L\/(g.get? a).isSome=true then none else(h.get? a).map λo=>(a,o)
def j9(g h:Heap)(L d:Addr):List (Addr×Obj):=(qx0 g h L).filter λp=>decide (p.1≠d)
structure Mod (K:PySem.W.Frag)(mg:Str->Option Value)(base:Heap):Prop where
 kin:K.In base
 glob:base.Ns mainGlobals mg
 blt:∃mb,base.Ns builtinsNs mb/\∀x:Str,x≠"__name__"->mb x=bootBuiltins x
 nolimit:base.NoLimit
structure Cx where
 prog:Program
 w:World
 K:PySem.W.Frag
 mg:Str->Option Value
 base:Heap
 A:Around
 N:List Str
 s₀:Shared
 H₀:Hp
 env:Env
 outer:List Env
 stack:List Env
 ex:List Addr
 fn:Str->Bool
 calm:Bool
 pn:List (Addr×Obj)
 xe:Value->Shared->Prop
def frs(l:List Env):List Addr:=l.filterMap (·.frame)
abbrev Cx.fs(X:Cx):List Addr:=frs X.outer
noncomputable def Vis(sc:Scope)(x:Str):Prop:=sc.names.lookup x=some .local\/sc.names.lookup x=some .cell\/sc.names.lookup x=some .free
def Loc(sc:Scope)(x:Str):Prop:=sc.names.lookup x=some .local\/sc.names.lookup x=some .cell
noncomputable def Look(env:Env)(h:Heap)(m:Str->Option Value)(x:Str)(u:Value):Prop:=
 (env.kindOf x=some .local/\m x=some u)\/((env.kindOf x=some .cell\/env.kindOf x=some .free)/\∃c,env.cells.lookup x=some c/\h.IsCell c (some u))
structure Cx.Ok (X:Cx):Prop where
 mod:Mod X.K X.mg X.base
 kind:X.env.scope.kind=.function
 glob:X.env.globals=mainGlobals
 blt:X.env.builtins=builtinsNs
 above:X.s₀.heap.objs.size<=X.env.locals
 inj:∀x y c,X.env.cells.lookup x=some c->X.env.cells.lookup y=some c->x=y
 has:∀x,(X.env.kindOf x=some .cell\/X.env.kindOf x=some .free)->∃c,X.env.cells.lookup x=some c
 cab:∀x c,X.fn x=true->X.env.cells.lookup x=some c->X.s₀.heap.objs.size<=c
 hd:X.calm=true->X.A.handled=none
 frames:X.A.frames=some X.stack
 stk:X.stack=X.outer\/(X.stack=X.env::X.outer/\X.env.frame=some X.env.locals)
 exf:∀b∈X.ex,b≠X.env.locals/\∀x c,X.env.cells.lookup x=some c->c≠b
 bs:∀b o,X.base.get? b=some o->X.s₀.heap.get? b=some o/\X.H₀ b=none
 bsz:X.base.objs.size<=X.s₀.heap.objs.size
 noex:∀b o,X.base.get? b=some o->b∉X.ex
 exfs:∀b∈X.ex,b∉X.fs
 funs:X.s₀.heap.FunFrames X.base X.outer
 frf:∀b∈X.fs,X.H₀ b=none
structure Inv (X:Cx)(pins:List (Addr×Obj))(σ:List (Option V))(H:Hp)(s:Shared):Prop where
 ok:X.Ok
 os:s.os=X.s₀.os
 bare:AllBare s.gens
 base:Un X.fs X.ex X.H₀ H X.s₀.heap s.heap
 loc:∃m,s.heap.Ns X.env.locals m/\∀(i:Nat) (x:Str) (v:V),X.N[i]?=some x->σ[i]?=some (some v)->Vis X.env.scope x->∃u,RelV v u/\Look X.env s.heap m x u
 cell:∀x c,X.env.cells.lookup x=some c->∃v,s.heap.IsCell c v
 free:H X.env.locals=none
 freeC:∀x c,X.env.cells.lookup x=some c->H c=none
 pin:∀p∈X.pn++pins,s.heap.get? p.1=some p.2/\H p.1=none/\p.1≠X.env.locals/\p.1∉X.fs/\∀v,p.2.data≠.cell v
 hok:HOk X.prog X.w H s.heap
 len:σ.length=X.N.length
section
variable {X:Cx}{pins:List (Addr×Obj)}{σ:List (Option V)}{H H':Hp}{s:Shared}{h':Heap}
theorem Cx.Ok.nofr(ok:X.Ok){b:Addr}{o:Obj}(e:X.base.get? b=some o):b∉X.fs:=λhb=>by
 have:=(ok.funs.mem hb).1;rw[e]at this;cases this
theorem Inv.bs(I:Inv X pins σ H s):∀b o,X.base.get? b=some o->s.heap.get? b=some o/\H b=none:=λb o e=>
 ⟨I.base.keep b o (I.ok.bs b o e).1 (I.ok.bs b o e).2 (I.ok.nofr e) (I.ok.noex b o e),I.base.free b o (I.ok.bs b o e).1 (I.ok.bs b o e).2 (I.ok.noex b o e)⟩
theorem Inv.bk(I:Inv X pins σ H s):∀b o,X.base.get? b=some o->s.heap.get? b=some o:=λb o e=>(I.bs b o e).1
theorem Inv.mod(I:Inv X pins σ H s):Mod X.K X.mg X.base:=I.ok.mod
theorem Inv.kIn(I:Inv X pins σ H s):X.K.In s.heap:=I.ok.mod.kin.keeps I.bk
theorem Inv.lt(I:Inv X pins σ H s):X.env.locals<s.heap.objs.size:=let ⟨_,hn,_⟩:=I.loc;hn.lt
theorem Inv.sz(I:Inv X pins σ H s):X.s₀.heap.objs.size<=s.heap.objs.size:=Y1 I.ok.above (Nat.le_of_lt I.lt)
theorem Inv.nofs(I:Inv X pins σ H s){a:Addr}(h:s.heap.objs.size<=a):a∉X.fs:=λhb=>by
 obtain⟨_,o,ho,_⟩:=I.ok.funs.mem hb;exact absurd (Xe (Xa ho) (Y1 I.sz h)) (Y8 _)
theorem Inv.cne(I:Inv X pins σ H s):∀x c,X.env.cells.lookup x=some c->c≠X.env.locals:=λx c e z=>by
 obtain⟨v,o,ho,hd⟩:=I.cell x c e;obtain⟨m,⟨o',es,ep,i7,gf,_⟩,_⟩:=I.loc;rw[z,i7]at ho;cases ho;rw[gf]at hd;cases hd
theorem Inv.funs(I:Inv X pins σ H s):s.heap.FunFrames X.base X.outer:=by
 have all:∀(l:List Env),(∀b∈frs l,b∈X.fs)->X.s₀.heap.FunFrames X.base l->s.heap.FunFrames X.base l:=by
  intro l
  induction l with
  |nil=>intro _ _;trivial
  |cons env r ih=>
   intro hs hl;obtain⟨hk,⟨L,o,hf,hn,ho,hd⟩,hr⟩:=hl;have hL:L∈X.fs:=hs L (by unfold frs;rw[List.filterMap_cons,hf];exact X5);obtain⟨sl,e⟩:=I.base.slot L o ho (I.ok.frf L hL) hL λz=>I.ok.exfs L z hL
   exact⟨hk,⟨L,_,hf,hn,e,hd⟩,ih (λb hb=>hs b (by unfold frs;rw[List.filterMap_cons,hf];exact lc9 _ hb)) hr⟩
 exact all X.outer (λ_ hb=>hb) I.ok.funs
theorem Inv.stack(I:Inv X pins σ H s):s.heap.FunFrames X.base X.stack:=by
 rcases I.ok.stk with e|⟨e,hf⟩
 ·rw[e];exact I.funs
 ·rw[e];obtain⟨m,hn,_⟩:=I.loc;refine .cons (by rw[I.ok.kind];decide) hf hn ?_ I.funs;exact Heap.get?_none_of_le (Y1 I.ok.bsz I.ok.above)
theorem Inv.stkSub(I:Inv X pins σ H s):∀b∈frs X.stack,b∈X.env.locals::X.fs:=λb hb=>by
 rcases I.ok.stk with e|⟨e,hf⟩
 ·rw[e]at hb;exact lc9 _ hb
 ·rw[e]at hb;unfold frs at hb;rw[List.filterMap_cons,hf]at hb;exact hb
theorem Inv.stkFree(I:Inv X pins σ H s):∀b∈frs X.stack,H b=none:=λb hb=>by
 rcases List.mem_cons.mp (I.stkSub b hb)with e|hb
 ·rw[e];exact I.free
 ·obtain⟨_,o,ho,_⟩:=I.ok.funs.mem hb;exact I.base.free b o ho (I.ok.frf b hb) λz=>I.ok.exfs b z hb
theorem Inv.step{g':Array GenState}{t':Nat}{d':Drawn}{ch:List Addr}(I:Inv X pins σ H s)
  (cj:∀b∈ch,(b∈X.ex\/X.s₀.heap.objs.size<=b)/\b≠X.env.locals/\(∀x c,X.env.cells.lookup x=some c->c≠b)/\∀p∈X.pn++pins,p.1≠b)
  (keep:∀b o,b≠X.env.locals->b∉X.fs->b∉ch->s.heap.get? b=some o->H b=none->h'.get? b=some o)
  (slot:∀b o,b≠X.env.locals->b∈X.fs->b∉ch->s.heap.get? b=some o->H b=none->∃sl,h'.get? b=some { o with slots:=sl }) (free:∀b o,b∉ch->s.heap.get? b=some o->H b=none->H' b=none)
  (there:∀b o,b∉ch->s.heap.get? b=some o->∃o',h'.get? b=some o')
  (tups:∀b xs,H b=some (.tup xs)->H' b=some (.tup xs)) (frzs:∀b o u,H b=some (.frz o u)->H' b=some (.frz o u)) (tbls:∀b ps,H b=some (.tbl ps)->∃more,H' b=some (.tbl (ps++more)))
  (ns:∀m,s.heap.Ns X.env.locals m->h'.Ns X.env.locals m) (hok:HOk X.prog X.w H' h') (hg:AllBare g'):
  Inv X pins σ H' { s with heap:=h',gens:=g',drawn:=d',toks:=t' }:=by
 have n9:∀b o,X.s₀.heap.get? b=some o->b≠X.env.locals:=λb o e=>Xp (Xe (Xa e) I.ok.above)
 have ie:∀b o,X.s₀.heap.get? b=some o->b∉X.ex->b∉ch:=λb o e hx hb=>by
  rcases(cj b hb).1 with z|z
  ·exact hx z
  ·exact absurd (Xe (Xa e) z) (Y8 _)
 have ei:∀x c,X.env.cells.lookup x=some c->∀v,s.heap.IsCell c v->h'.IsCell c v:=λx c e v ⟨o,ho,hd⟩=>by
  have gq:c∉ch:=λz=>(cj c z).2.2.1 x c e rfl
  by_cases hc:c∈X.fs
  ·obtain⟨sl,q⟩:=slot c o (I.cne x c e) hc gq ho (I.freeC x c e);exact⟨_,q,hd⟩
  ·exact⟨o,keep c o (I.cne x c e) hc gq ho (I.freeC x c e),hd⟩
 refine⟨I.ok,I.os,hg,⟨λb o e n hb hx=>?_,λb o e n hb hx=>?_,λb o e n hx=>?_,λb o e hx=>?_,λb xs e=>tups b xs (I.base.tups b xs e),λb o xs e=>frzs b o xs (I.base.frzs b o xs e),λb ps e=>?_⟩,?_,λx c e=>?_,?_,λx c e=>?_,λp hp=>?_,hok,I.len⟩
 ·exact keep b o (n9 b o e) hb (ie b o e hx) (I.base.keep b o e n hb hx) (I.base.free b o e n hx)
 ·obtain⟨sl,e1⟩:=I.base.slot b o e n hb hx;obtain⟨sl',e2⟩:=slot b _ (n9 b o e) hb (ie b o e hx) e1 (I.base.free b o e n hx);exact⟨sl',e2⟩
 ·obtain⟨o',e1⟩:=I.base.there b o e hx;exact free b o' (ie b o e hx) e1 (I.base.free b o e n hx)
 ·obtain⟨o',e1⟩:=I.base.there b o e hx;exact there b o' (ie b o e hx) e1
 ·obtain⟨m1,e1⟩:=I.base.tbls b ps e;obtain⟨m2,e2⟩:=tbls b _ e1;exact⟨m1++m2,by rw[e2,Array.append_assoc]⟩
 ·obtain⟨m,hn,hl⟩:=I.loc;refine⟨m,ns m hn,λi x v e1 e2 e3=>?_⟩;obtain⟨u,r,l⟩:=hl i x v e1 e2 e3;refine⟨u,r,?_⟩;rcases l with l|⟨k,c,e,z⟩
  ·exact .inl l
  ·exact .inr ⟨k,c,e,ei x c e _ z⟩
 ·obtain⟨v,z⟩:=I.cell x c e;exact⟨v,ei x c e v z⟩
 ·obtain⟨m,⟨o,_,_,ho,_⟩,_⟩:=I.loc;exact free _ o (λz=>(cj _ z).2.1 rfl) ho I.free
 ·obtain⟨v,o,ho,hd⟩:=I.cell x c e;exact free c o (λz=>(cj c z).2.2.1 x c e rfl) ho (I.freeC x c e)
 ·obtain⟨e,n,ne,nf,d⟩:=I.pin p hp;have gq:p.1∉ch:=λz=>(cj p.1 z).2.2.2 p hp rfl
  exact⟨keep p.1 p.2 ne nf gq e n,free p.1 p.2 gq e n,ne,nf,d⟩
theorem Inv.un{t':Nat}(I:Inv X pins σ H s)(u:Un X.fs [] H H' s.heap h')(hok:HOk X.prog X.w H' h'):Inv X pins σ H' { s with heap:=h',toks:=t' }:=by
 obtain⟨m,⟨o,es,ep,ho,r⟩,_⟩:=id I.loc;obtain⟨sl,hL⟩:=u.any ho I.free (by simp);exact I.step (g':=s.gens) (d':=s.drawn) (ch:=[]) (λ_ z=>nomatch z) (λb o _ hb _ e n=>u.keep b o e n hb (by simp)) (λb o _ hb _ e n=>u.slot b o e n hb (by simp)) (λb o _ e n=>u.free b o e n (by simp)) (λb o _ e=>u.there b o e (by simp)) u.tups u.frzs u.tbls (λm' hm=>by
  obtain⟨o',mx,lv,i7,r'⟩:=hm;rw[ho]at i7;cases i7;exact⟨_,mx,lv,hL,r'⟩) hok I.bare
theorem Inv.call{g':Array GenState}{t':Nat}{d':Drawn}{ch:List Addr}(I:Inv X pins σ H s)(u:Un (frs X.stack) ch H H' s.heap h')(hok:HOk X.prog X.w H' h')(hg:AllBare g')
  (cj:∀b∈ch,(b∈X.ex\/X.s₀.heap.objs.size<=b)/\b≠X.env.locals/\(∀x c,X.env.cells.lookup x=some c->c≠b)/\∀p∈X.pn++pins,p.1≠b):
  Inv X pins σ H' { s with heap:=h',gens:=g',drawn:=d',toks:=t' }:=by
 obtain⟨m,⟨o,es,ep,ho,r⟩,_⟩:=id I.loc;obtain⟨sl,hL⟩:=u.any ho I.free λz=>(cj _ z).2.1 rfl
 exact I.step (ch:=ch) cj (λb o hL hb hc e n=>u.keep b o e n (λz=>(List.mem_cons.mp (I.stkSub b z)).elim hL hb) hc) (λb o _ _ hc e n=>u.any e n hc) (λb o hc e n=>u.free b o e n hc) (λb o hc e=>u.there b o e hc) u.tups u.frzs u.tbls (λm' hm=>by
  obtain⟨o',mx,lv,i7,r'⟩:=hm;rw[ho]at i7;cases i7;exact⟨_,mx,lv,hL,r'⟩) hok hg
theorem Inv.turned{t':Nat}{it:Addr}(I:Inv X pins σ H s)(k:∀b o,b≠it->s.heap.get? b=some o->h'.get? b=some o)(hn:H it=none)(hL:it≠X.env.locals)
  (h1:it∈X.ex\/X.s₀.heap.objs.size<=it) (h2:∀x c,X.env.cells.lookup x=some c->c≠it) (h3:∀p∈X.pn++pins,p.1≠it):Inv X pins σ H { s with heap:=h',toks:=t' }:=by
 have mw:∀b u,H b=some u->b≠it:=λb u e z=>by rw[z,hn]at e;cases e
 refine I.step (g':=s.gens) (d':=s.drawn) (ch:=[it]) (λb hb=>?_) (λb o _ _ hc e _=>k b o (λz=>hc (by simp[z])) e) (λb o _ _ hc e _=>⟨o.slots,k b o (λz=>hc (by simp[z])) e⟩) (λ_ _ _ _ n=>n)
  (λb o hc e=>⟨o,k b o (λz=>hc (by simp[z])) e⟩) (λ_ _ e=>e) (λ_ _ _ e=>e) (λb ps e=>⟨#[],by rw[e];simp⟩) (λm hm=>?_) (λb u e=>?_) I.bare
 ·have e:b=it:=by simpa using hb
  subst e;exact⟨h1,hL,h2,h3⟩
 ·obtain⟨o,es,ep,ho,r⟩:=hm;exact⟨o,es,ep,k _ o (Ne.symm hL) ho,r⟩
 ·refine(I.hok b u e).stay (λc v hc q=>k c v ?_ q) (λ_ q=>q) λ_ _ q=>q
  rcases hc with z|z
  ·rw[z];exact mw b u e
  ·exact mw c _ z
theorem Inv.tok(I:Inv X pins σ H s)(t:Nat):Inv X pins σ H { s with toks:=t }:=I.un (h':=s.heap) (t':=t) Un.refl I.hok
theorem Inv.kept{t':Nat}(I:Inv X pins σ H s)(k:∀b u,s.heap.get? b=some u->h'.get? b=some u):Inv X pins σ H { s with heap:=h',toks:=t' }:=I.un (Un.kept k) (I.hok.kept k)
theorem Inv.laid{a:Addr}{o:HO}{t':Nat}(I:Inv X pins σ H s)(k:∀b u,s.heap.get? b=some u->h'.get? b=some u)(hp:s.heap.objs.size<=a)(new:ObjOk X.prog X.w (upd H a o) h' a o):
  Inv X pins σ (upd H a o) { s with heap:=h',toks:=t' }:=I.un (Un.laid k hp (I.hok.fresh hp)) (I.hok.laid k hp new)
theorem Inv.write{x e:Addr}{o:HO}{t':Nat}(I:Inv X pins σ H s)(mu:Mut (H x))(he:e=x\/H e=some (.own x))(k:∀b u,b≠e->s.heap.get? b=some u->h'.get? b=some u)(lb:∃u,h'.get? e=some u)
  (new:ObjOk X.prog X.w (upd H x o) h' x o):Inv X pins σ (upd H x o) { s with heap:=h',toks:=t' }:=I.un (Un.write mu he k lb) (I.hok.write mu he k lb new)
theorem Inv.pins_of{bz:List (Addr×Obj)}(I:Inv X pins σ H s)(h:∀p∈bz,s.heap.get? p.1=some p.2/\H p.1=none/\p.1≠X.env.locals/\p.1∉X.fs/\∀v,p.2.data≠.cell v):Inv X bz σ H s:=
 ⟨I.ok,I.os,I.bare,I.base,I.loc,I.cell,I.free,I.freeC,λp hp=>(List.mem_append.mp hp).elim (λz=>I.pin p (ll9 _ z)) (h p),I.hok,I.len⟩
theorem kvm{N:List Str}(hN:N.Nodup){i j:Nat}{x:Str}(a:N[i]?=some x)(b:N[j]?=some x):i=j:=by
 obtain⟨h1,e1⟩:=List.getElem?_eq_some_iff.mp a;obtain⟨h2,e2⟩:=List.getElem?_eq_some_iff.mp b;exact(List.getElem_inj hN).mp (e1.trans e2.symm)
theorem kx1{M:Model}{A:Around}{E:Value->Shared->Prop}{i:Nat}{x:Str}{v:V}{u:Value}{Q:Unit->Shared->Prop}(I:Inv X pins σ H s)(hN:X.N.Nodup)(hi:X.N[i]?=some x)(hx:Loc X.env.scope x)(r:RelV v u)
  (h:∀s',Inv X pins (σ.set i (some v)) H s'->(∃a,Heap.SameBut a s.heap s'.heap/\(a=X.env.locals\/X.env.cells.lookup x=some a))->Q () s') (hf:autoParam (X.fn x=true\/X.env.scope.names.lookup x=some .local) Ř):wpAny M A (storeName X.env x u) Q E s:=by
 obtain⟨m,hn,hl⟩:=id I.loc;have hcls:(X.env.scope.kind == .class||(X.env.scope.kind == .module&&X.env.locals != X.env.globals))=false:=by rw[I.ok.kind];rfl
 have hiσ:i < σ.length:=by rw[I.len];exact(List.getElem?_eq_some_iff.mp hi).1
 have cne:=I.cne;have fm:∀{a:Addr} {h':Heap},(∃o,s.heap.get? a=some o/\H a=none)->Heap.SameBut a s.heap h'->HOk X.prog X.w H h':=fun {a h'} ha hs b ob e=>by
  obtain⟨_,_,bb⟩:=ha;refine(I.hok b ob e).stay (λc w' hc q=>(hs.2 c ?_).trans q) (λ_ q=>q) λ_ _ q=>q
  rintro rfl;rcases hc with rfl|hc
  ·rw[bb]at e;cases e
  ·rw[bb]at hc;cases hc
 rcases hx with hk|hk
 ·refine wpAny_storeName_local hk hn (λh' hn' hs=>?_) hcls;obtain⟨oL,_,_,hoL,_⟩:=id hn;refine h _ ⟨I.ok,I.os,I.bare,⟨λb o e n hb hx=>?_,λb o e n hb hx=>?_,I.base.free,λb o e hx=>?_,I.base.tups,I.base.frzs,I.base.tbls⟩,⟨_,hn',λj y v' e1 e2 e3=>?_⟩,λy c e=>?_,I.free,I.freeC,λp hp=>?_,fm ⟨oL,hoL,I.free⟩ hs,by simpa using I.len⟩ ⟨_,hs,.inl rfl⟩
  ·exact(hs.2 b (Xp (Xe (Xa e) I.ok.above))).trans (I.base.keep b o e n hb hx)
  ·obtain⟨sl,e1⟩:=I.base.slot b o e n hb hx;exact⟨sl,(hs.2 b (Xp (Xe (Xa e) I.ok.above))).trans e1⟩
  ·obtain⟨o',e1⟩:=I.base.there b o e hx;exact⟨o',(hs.2 b (Xp (Xe (Xa e) I.ok.above))).trans e1⟩
  ·by_cases hj:j=i
   ·subst hj;rw[hi]at e1;cases e1;rw[Y4 hiσ]at e2;cases e2;exact⟨u,r,.inl ⟨hk,by simp⟩⟩
   ·rw[Xn (Ne.symm hj)]at e2;obtain⟨u',r',q⟩:=hl j y v' e1 e2 e3;refine⟨u',r',?_⟩;rcases q with⟨k,e⟩|⟨k,c,e,z⟩
    ·refine .inl ⟨k,?_⟩;have:y≠x:=λe=>hj (kvm hN e1 (e▸hi))
     simp[this,e]
    ·exact .inr ⟨k,c,e,z.sameBut hs (cne y c e)⟩
  ·obtain⟨w',z⟩:=I.cell y c e;exact⟨w',z.sameBut hs (cne y c e)⟩
  ·obtain⟨e,n,ne,nf,d⟩:=I.pin p hp;exact⟨(hs.2 p.1 ne).trans e,n,ne,nf,d⟩
 ·have hfn:X.fn x=true:=by
   rcases hf with z|z
   ·exact z
   ·rw[z]at hk;cases hk
  obtain⟨c,hc⟩:=I.ok.has x (.inl hk);obtain⟨w',z⟩:=I.cell x c hc;refine wpAny_storeName_cell I.ok.kind hk hc z (λh' li hs=>?_);obtain⟨oc,hoc,hocd⟩:=id z;refine h { s with heap:=h' } ⟨I.ok,I.os,I.bare,⟨λb o e n hb hx=>?_,λb o e n hb hx=>?_,I.base.free,λb o e hx=>?_,I.base.tups,I.base.frzs,I.base.tbls⟩,⟨m,hn.sameBut hs (Ne.symm (cne x c hc)),λj y v' e1 e2 e3=>?_⟩,λy c' e=>?_,I.free,I.freeC,λp hp=>?_,fm ⟨oc,hoc,I.freeC x c hc⟩ hs,by simpa using I.len⟩ ⟨c,hs,.inr hc⟩
  ·exact(hs.2 b (Xp (Xe (Xa e) (I.ok.cab x c hfn hc)))).trans (I.base.keep b o e n hb hx)
  ·obtain⟨sl,e1⟩:=I.base.slot b o e n hb hx;exact⟨sl,(hs.2 b (Xp (Xe (Xa e) (I.ok.cab x c hfn hc)))).trans e1⟩
  ·obtain⟨o',e1⟩:=I.base.there b o e hx;exact⟨o',(hs.2 b (Xp (Xe (Xa e) (I.ok.cab x c hfn hc)))).trans e1⟩
  ·by_cases hj:j=i
   ·subst hj;rw[hi]at e1;cases e1;rw[Y4 hiσ]at e2;cases e2;exact⟨u,r,.inr ⟨.inl hk,c,hc,li⟩⟩
   ·rw[Xn (Ne.symm hj)]at e2;obtain⟨u',r',q⟩:=hl j y v' e1 e2 e3;refine⟨u',r',?_⟩;rcases q with q|⟨k,c',e,z'⟩
    ·exact .inl q
    ·refine .inr ⟨k,c',e,z'.sameBut hs ?_⟩;rintro rfl;exact hj (kvm hN e1 (I.ok.inj _ _ _ e hc▸hi))
  ·by_cases b8:c'=c
   ·subst b8;exact⟨_,li⟩
   ·obtain⟨w2,z2⟩:=I.cell y c' e;exact⟨w2,z2.sameBut hs b8⟩
  ·obtain⟨e,n,ne,nf,d⟩:=I.pin p hp;refine⟨(hs.2 p.1 ?_).trans e,n,ne,nf,d⟩;intro q;rw[q,hoc]at e;have q':oc=p.2:=oq9 e;exact d w' (by rw[<-q'];exact hocd)
theorem kja{M:Model}{A:Around}{E:Value->Shared->Prop}{i:Nat}{x:Str}{v:V}{u:Value}{Q:Unit->Shared->Prop}(I:Inv X pins σ H s)(hN:X.N.Nodup)(hi:X.N[i]?=some x)(hx:Loc X.env.scope x)(r:RelV v u)
  (h:∀s',Inv X pins (σ.set i (some v)) H s'->Q () s') (hf:autoParam (X.fn x=true\/X.env.scope.names.lookup x=some .local) Ř):wpAny M A (storeName X.env x u) Q E s:=
 kx1 I hN hi hx r (λs' I' _=>h s' I') hf
theorem Inv.call'{s':Shared}{ch:List Addr}(I:Inv X pins σ H s)(ho:s'.os=s.os)(u:Un (frs X.stack) ch H H' s.heap s'.heap)(hok:HOk X.prog X.w H' s'.heap)(hg:AllBare s'.gens)
  (cj:∀b∈ch,(b∈X.ex\/X.s₀.heap.objs.size<=b)/\b≠X.env.locals/\(∀x c,X.env.cells.lookup x=some c->c≠b)/\∀p∈X.pn++pins,p.1≠b):Inv X pins σ H' s':=by
 obtain⟨h',g',d',t',o'⟩:=s';have e:o'=s.os:=ho;subst e;exact I.call (g':=g') (t':=t') (d':=d') u hok hg cj
end
abbrev XK:=Value->Option Addr->Hp->Prop
abbrev St:=List (Option V)
abbrev VK:=V->Hp->Prop
abbrev TE:=St->Hp->VK->Prop
abbrev TT:=St->Hp->(Bool->Hp->Prop)->Prop
abbrev TA:=St->Hp->(List V->Hp->Prop)->Prop
structure Ends where
 nx:St->Hp->Prop
 rt:VK
 bk:St->Hp->Prop:=λ_ _=>False
 ct:St->Hp->Prop:=λ_ _=>False
abbrev TS:=Ends->St->Hp->Prop
noncomputable def EP(X:Cx)(pins:List (Addr×Obj))(σ:St)(Q:VK)(u:Value)(s':Shared):Prop:=∃v H',Inv X pins σ H' s'/\RelV v u/\Q v H'
noncomputable def TP(X:Cx)(pins:List (Addr×Obj))(σ:St)(Q:Bool->Hp->Prop)(b:Bool)(s':Shared):Prop:=∃H',Inv X pins σ H' s'/\Q b H'
noncomputable def AP(X:Cx)(pins:List (Addr×Obj))(σ:St)(Q:List V->Hp->Prop)(us:List Value)(s':Shared):Prop:=∃vs H',Inv X pins σ H' s'/\Vals vs us/\Q vs H'
noncomputable def SP(X:Cx)(pins:List (Addr×Obj))(D:Ends)(f:Flow)(s':Shared):Prop:=
 match f with
 |.next=>∃ σ' H',Inv X pins σ' H' s'/\D.nx σ' H'
 |.brk=>∃ σ' H',Inv X pins σ' H' s'/\D.bk σ' H'
 |.cont=>∃ σ' H',Inv X pins σ' H' s'/\D.ct σ' H'
 |.ret u=>∃v σ' H',Inv X pins σ' H' s'/\RelV v u/\D.rt v H'
noncomputable def PE(X:Cx)(e:Expr)(t:TE):Prop:=
 ∀(pins:List (Addr×Obj)) (s:Shared) (σ:St) (H:Hp) (Q:VK),Inv X pins σ H s->t σ H Q->wpAny (model X.prog X.w) X.A (eval e X.env) (EP X pins σ Q) X.xe s
noncomputable def PT(X:Cx)(e:Expr)(t:TT):Prop:=
 ∀(pins:List (Addr×Obj)) (s:Shared) (σ:St) (H:Hp) (Q:Bool->Hp->Prop),Inv X pins σ H s->t σ H Q->wpAny (model X.prog X.w) X.A (isTrue e X.env (eval e X.env)) (TP X pins σ Q) X.xe s
noncomputable def PW(X:Cx)(e:Expr)(t:TT):Prop:=
 ∀(d9:Sem Value) (pins:List (Addr×Obj)) (s:Shared) (σ:St) (H:Hp) (Q:Bool->Hp->Prop),Inv X pins σ H s->t σ H Q->wpAny (model X.prog X.w) X.A (isTrue e X.env d9) (TP X pins σ Q) X.xe s
theorem PW.pt{X:Cx}{e:Expr}{t:TT}(h:PW X e t):PT X e t:=h _
noncomputable def PA(X:Cx)(es:List Expr)(t:TA):Prop:=
 ∀(pos:Pos) (pins:List (Addr×Obj)) (s:Shared) (σ:St) (H:Hp) (Q:List V->Hp->Prop),Inv X pins σ H s->t σ H Q->wpAny (model X.prog X.w) X.A (spliced (backTo pos (starEach es X.env))) (AP X pins σ Q) X.xe s
noncomputable def PS(X:Cx)(st:Stmt)(t:TS):Prop:=
 ∀(pins:List (Addr×Obj)) (s:Shared) (σ:St) (H:Hp) (D:Ends),Inv X pins σ H s->t D σ H->wpAny (model X.prog X.w) X.A (exec st X.env) (SP X pins D) X.xe s
noncomputable def PSs(X:Cx)(st:List Stmt)(t:TS):Prop:=
 ∀(pins:List (Addr×Obj)) (s:Shared) (σ:St) (H:Hp) (D:Ends),Inv X pins σ H s->t D σ H->wpAny (model X.prog X.w) X.A (execs st X.env) (SP X pins D) X.xe s
theorem thn{α:Type}{t:Sem α}{Q Q':α->Shared->Prop}{M:Model}{A:Around}{E:Value->Shared->Prop}{s:Shared}(h:wpAny M A t Q E s)(hQ:∀a s,Q a s->Q' a s):wpAny M A t Q' E s:=wpAny_mono h hQ λ_ _ x=>x
section
variable {X:Cx}
abbrev zq(i:Nat):TE:=fun σ H Q=>∃v,σ[i]?=some (some v)/\Q v H
abbrev tC(v:V):TE:=λ_ H Q=>Q v H
theorem qzr{i:Nat}{x:Str}{pos:Pos}(hN:X.N[i]?=some x)(hv:Vis X.env.scope x)(hd:autoParam ((x==("__debug__":Str))=false) ŕ)(fe:autoParam ((x==("__classdict__":Str))=false) ŕ):PE X (.Name x pos) (zq i):=by
 intro pins s σ H Q I h;obtain⟨v,e,h⟩:=h;obtain⟨m,hn,hl⟩:=I.loc;obtain⟨u,r,l⟩:=hl i x v hN e hv;have fin:EP X pins σ Q u s:=⟨v,H,I,r,h⟩;rcases l with⟨hk,hm⟩|⟨hk,c,hc,hcell⟩
 ·exact wpAny_Name (wpAny_loadName_local I.ok.kind hk hn hm fin) hd
 ·rcases hk with hk|hk
  ·exact wpAny_Name (wpAny_loadName_cell I.ok.kind hk hc hcell fin) hd
  ·exact wpAny_Name (wpAny_loadName_free I.ok.kind hk hc hcell fin fe) hd
theorem kxx{i j pos}:PE X (.Constant (.int i) j pos) (tC (.int i)):=λ_ _ _ H _ I h=>wpAny_Constant_int ⟨.int i,H,I.tok _,⟨_,rfl⟩,h⟩
theorem J7{b j pos}:PE X (.Constant (.bool b) j pos) (tC (.bl b)):=λ_ _ _ H _ I h=>Constant_bool ⟨.bl b,H,I,rfl,h⟩
theorem qzu{j pos}:PE X (.Constant .none j pos) (tC .non):=λ_ _ _ H _ I h=>Constant_none ⟨.non,H,I,rfl,h⟩
theorem qq8{x j pos}:PE X (.Constant (.str x) j pos) (tC (.str x)):=λ_ _ _ H _ I h=>Calls.Constant_str ⟨.str x,H,I.tok _,⟨_,rfl⟩,h⟩
def Gl(X:Cx)(x:Str):Prop:=X.env.kindOf x=some .globalImplicit
theorem qwg{E:Value->Shared->Prop}{pins:List (Addr×Obj)}{s:Shared}{σ:St}{H:Hp}{x:Str}{u:Value}{pos:Pos}{Q:Value->Shared->Prop}(I:Inv X pins σ H s)(hg:Gl X x)(hm:X.mg x=some u)(h:Q u s)
  (hd:autoParam ((x==("__debug__":Str))=false) ŕ):wpAny (model X.prog X.w) X.A (eval (.Name x pos) X.env) Q E s:=
 Calls.Name_function_global I.ok.kind hg (Calls.loadGlobal_global (by rw[I.ok.glob];exact I.mod.glob.keeps I.bk) hm h) hd
theorem QY{E:Value->Shared->Prop}{pins:List (Addr×Obj)}{s:Shared}{σ:St}{H:Hp}{x:Str}{u:Value}{pos:Pos}{Q:Value->Shared->Prop}(I:Inv X pins σ H s)(hg:Gl X x)(hm:X.mg x=none)(hv:bootBuiltins x=some u)(h:Q u s)
  (hn:autoParam (x≠"__name__") ŕ) (hd:autoParam ((x==("__debug__":Str))=false) ŕ):wpAny (model X.prog X.w) X.A (eval (.Name x pos) X.env) Q E s:=by
 obtain⟨mb,h1,h2⟩:=I.mod.blt;exact Calls.Name_function_global I.ok.kind hg (Calls.loadGlobal_builtin (by rw[I.ok.glob];exact I.mod.glob.keeps I.bk) hm (by rw[I.ok.blt];exact h1.keeps I.bk) ((h2 x hn).trans hv) h) hd
theorem qw1{x:Str}{v:V}{u:Value}{pos:Pos}(hg:Gl X x)(hm:X.mg x=none)(hv:bootBuiltins x=some u)(r:RelV v u)(hn:autoParam (x≠"__name__") ŕ)(hd:autoParam ((x==("__debug__":Str))=false) ŕ):PE X (.Name x pos) (tC v):=
 λ_ _ _ H _ I h=>QY I hg hm hv ⟨v,H,I,r,h⟩ hn hd
variable {a b:Expr}{ta tb:TE}{pos:Pos}
variable {tA tB':TT}{j9:List Expr}
abbrev tAnd(t u:TT):TT:=fun σ H Q=>t σ H λc H1=>if c=true then u σ H1 Q else Q false H1
abbrev tOr(t u:TT):TT:=fun σ H Q=>t σ H λc H1=>if c=true then Q true H1 else u σ H1 Q
abbrev tNot(t:TT):TT:=fun σ H Q=>t σ H λc H1=>Q (!c) H1
theorem qvl(ha:PT X a tA):PW X (.BoolOp .And [a] pos) tA:=by
 intro wh pins s σ H Q I h;refine isTrue_and (thn (ha pins s σ H Q I h) λc s1 e=>?_);cases c with
 |true=>exact isTrue_and_nil e
 |false=>exact e
theorem qzk(ha:PT X a tA):PW X (.BoolOp .Or [a] pos) tA:=by
 intro wh pins s σ H Q I h;refine isTrue_or (thn (ha pins s σ H Q I h) λc s1 e=>?_);cases c with
 |false=>exact isTrue_or_nil e
 |true=>exact e
theorem qzl(ha:PT X a tA)(hb:PW X (.BoolOp .And (b::j9) pos) tB'):PW X (.BoolOp .And (a::b::j9) pos) (tAnd tA tB'):=by
 intro wh pins s σ H Q I h;refine isTrue_and (thn (ha pins s σ H _ I h) λc s1 ⟨H1,I1,q1⟩=>?_);cases c with
 |true=>exact hb wh pins s1 σ H1 Q I1 q1
 |false=>exact⟨H1,I1,q1⟩
theorem vqk(ha:PT X a tA)(hb:PW X (.BoolOp .Or (b::j9) pos) tB'):PW X (.BoolOp .Or (a::b::j9) pos) (tOr tA tB'):=by
 intro wh pins s σ H Q I h;refine isTrue_or (thn (ha pins s σ H _ I h) λc s1 ⟨H1,I1,q1⟩=>?_);cases c with
 |true=>exact⟨H1,I1,q1⟩
 |false=>exact hb wh pins s1 σ H1 Q I1 q1
theorem qzm(ha:PT X a tA):PT X (.UnaryOp .Not a pos) (tNot tA):=by
 intro pins s σ H Q I h;exact isTrue_not (ha pins s σ H (λc H1=>Q (!c) H1) I h)
abbrev vq4(ta tb:TE):TE:=fun σ H Q=>ta σ H λx H1=>∃c,x=.bl c/\if c=true then tb σ H1 Q else Q (.bl false) H1
abbrev tOrV(ta tb:TE):TE:=fun σ H Q=>ta σ H λx H1=>∃c,x=.bl c/\if c=true then Q (.bl true) H1 else tb σ H1 Q
theorem qzt{op}{t:TE}(h:PE X a t):PE X (.BoolOp op [a] pos) t:=λpins s σ H Q I hw=>BoolOp_one (h pins s σ H Q I hw)
theorem qzz(ha:PE X a ta)(hb:PE X (.BoolOp .And (b::j9) pos) tb):PE X (.BoolOp .And (a::b::j9) pos) (vq4 ta tb):=by
 intro pins s σ H Q I h;refine BoolOp_and (thn (ha pins s σ H _ I h) λv s1 ⟨x,H1,I1,r1,q1⟩=>?_);obtain⟨c,rfl,q1⟩:=q1;cases r1;refine wpAny_truthy_bool ?_;cases c with
 |true=>exact hb pins s1 σ H1 Q I1 q1
 |false=>exact⟨.bl false,H1,I1,rfl,q1⟩
theorem vqm(ha:PE X a ta)(hb:PE X (.BoolOp .Or (b::j9) pos) tb):PE X (.BoolOp .Or (a::b::j9) pos) (tOrV ta tb):=by
 intro pins s σ H Q I h;refine BoolOp_or (thn (ha pins s σ H _ I h) λv s1 ⟨x,H1,I1,r1,q1⟩=>?_);obtain⟨c,rfl,q1⟩:=q1;cases r1;refine wpAny_truthy_bool ?_;cases c with
 |false=>exact hb pins s1 σ H1 Q I1 q1
 |true=>exact⟨.bl true,H1,I1,rfl,q1⟩
abbrev tIf(t:TT)(ta tb:TE):TE:=fun σ H Q=>t σ H λc H1=>if c=true then ta σ H1 Q else tb σ H1 Q
theorem qk4{c:Expr}(hc:PT X c tA)(ha:PE X a ta)(hb:PE X b tb):PE X (.IfExp c a b pos) (tIf tA ta tb):=by
 intro pins s σ H Q I h;refine wpAny_IfExp (thn (hc pins s σ H _ I h) λd s1 ⟨H1,I1,q1⟩=>?_);cases d with
 |true=>exact ha pins s1 σ H1 Q I1 q1
 |false=>exact hb pins s1 σ H1 Q I1 q1
end
noncomputable def SqL(K:PySem.W.Frag)(H:Hp)(a:Addr)(xs:List V):Prop:=
 Rd H a (.lst xs) \/
  ∃(o:Obj) (aa:Array Value) (n:Nat),K.lookup a=some o/\o.cls=.type "list"/\o.dict=none/\o.data=.seq aa n/\aa.size<=sizeLine/\Vals xs aa.toList
noncomputable def SqT(K:PySem.W.Frag)(H:Hp)(a:Addr)(xs:List V):Prop:=
 Rd H a (.tup xs) \/
  ∃(o:Obj) (aa:Array Value) (n:Nat),K.lookup a=some o/\o.cls=.type "tuple"/\o.dict=none/\o.data=.seq aa n/\aa.size<=sizeLine/\Vals xs aa.toList
noncomputable def absV:Value->Option V
 |.none=>some .non
 |.bool b=>some (.bl b)
 |.int i _=>some (.int i)
 |.str x _=>some (.str x)
 |.bytes b _=>some (.byt b)
 |.float b _=>some (.flt b)
 |.ref a=>some (.ref a)
 |.type n=>some (.ty n)
 |_=>none
theorem RelV.abs{x:V}{u:Value}(r:RelV x u):absV u=some x:=by
 cases x with
 |non=>cases r;rfl
 |bl _=>cases r;rfl
 |int _=>obtain⟨t,rfl⟩:=r;rfl
 |str _=>obtain⟨t,rfl⟩:=r;rfl
 |byt _=>obtain⟨t,rfl⟩:=r;rfl
 |flt _=>obtain⟨t,rfl⟩:=r;rfl
 |ref _=>cases r;rfl
 |ty _=>cases r;rfl
theorem RelV.inj{x y:V}{u:Value}(r:RelV x u)(q:RelV y u):x=y:=oq9 (r.abs.symm.trans q.abs)
theorem Vals.inj:∀{xs ys:List V} {us:List Value},Vals xs us->Vals ys us->xs=ys
 |_,_,_,.nil,.nil=>rfl
 |_,_,_,.cons r t,.cons r' t'=>by rw[r.inj r',Vals.inj t t']
section
variable {X:Cx}{pins:List (Addr×Obj)}{σ:St}{H:Hp}{s:Shared}{a:Addr}{xs ys:List V}
theorem SqL.of{K:PySem.W.Frag}(h:H a=some (.lst xs)):SqL K H a xs:=.inl (.inl h)
theorem SqT.of{K:PySem.W.Frag}(h:H a=some (.tup xs)):SqT K H a xs:=.inl (.inl h)
theorem Inv.list(I:Inv X pins σ H s)(h:SqL X.K H a xs):∃aa:List Value,Vals xs aa/\PlainL s.heap a aa.toArray/\xs.length<=sizeLine:=by
 rcases h with h|⟨o,aa,n,hk,hc,hd,hs,hz,r⟩
 ·obtain⟨z,aa,n,r,e⟩:=h.ok I.hok;exact⟨aa,r,⟨_,n,e,rfl,rfl,rfl⟩,z⟩
 ·refine⟨aa.toList,r,⟨o,n,I.kIn a o hk,hc,hd,by simpa using hs⟩,?_⟩;have e:=r.length;simp only[Yc]at e;omega
theorem Inv.tuple(I:Inv X pins σ H s)(h:SqT X.K H a xs):∃aa:List Value,Vals xs aa/\IsTup s.heap a aa.toArray/\xs.length<=sizeLine:=by
 rcases h with h|⟨o,aa,n,hk,hc,_,hs,hz,r⟩
 ·obtain⟨z,aa,r,p⟩:=h.ok I.hok;exact⟨aa,r,p.tup,z⟩
 ·refine⟨aa.toList,r,⟨o,I.kIn a o hk,hc,n,by simpa using hs⟩,?_⟩;have e:=r.length;simp only[Yc]at e;omega
theorem Inv.tupleD(I:Inv X pins σ H s)(h:SqT X.K H a xs):∃o,s.heap.get? a=some o/\o.dict=none:=by
 rcases h with h|⟨o,aa,n,hk,hc,hd,hs,hz,r⟩
 ·obtain⟨z,aa,r,o,e,_,d,_⟩:=h.ok I.hok;exact⟨o,e,d⟩
 ·exact⟨o,I.kIn a o hk,hd⟩
theorem Inv.list_inj(I:Inv X pins σ H s)(h:SqL X.K H a xs)(h':SqL X.K H a ys):xs=ys:=by
 obtain⟨aa,r,⟨o,n,e,_,_,d⟩,_⟩:=I.list h;obtain⟨its',r',⟨o',n',e',_,_,d'⟩,_⟩:=I.list h';rw[e]at e';cases e';rw[d]at d';injection d' with d1 _;have:aa=its':=by simpa using congrArg Array.toList d1
 subst this;exact r.inj r'
theorem Inv.tuple_inj(I:Inv X pins σ H s)(h:SqT X.K H a xs)(h':SqT X.K H a ys):xs=ys:=by
 obtain⟨aa,r,⟨o,e,_,n,d⟩,_⟩:=I.tuple h;obtain⟨its',r',⟨o',e',_,n',d'⟩,_⟩:=I.tuple h';rw[e]at e';cases e';rw[d]at d';injection d' with d1 _;have:aa=its':=by simpa using congrArg Array.toList d1
 subst this;exact r.inj r'
end
abbrev Cx.wish(X:Cx)(E:Value->Shared->Prop):Cx:={ X with xe:=E }
theorem Cx.Ok.wish{X:Cx}(ok:X.Ok)(E:Value->Shared->Prop):(X.wish E).Ok:=
 ⟨ok.mod,ok.kind,ok.glob,ok.blt,ok.above,ok.inj,ok.has,ok.cab,ok.hd,ok.frames,ok.stk,ok.exf,ok.bs,ok.bsz,ok.noex,ok.exfs,ok.funs,ok.frf⟩
theorem Cx.Ok.unwish{X:Cx}{E:Value->Shared->Prop}(ok:(X.wish E).Ok):X.Ok:=
 ⟨ok.mod,ok.kind,ok.glob,ok.blt,ok.above,ok.inj,ok.has,ok.cab,ok.hd,ok.frames,ok.stk,ok.exf,ok.bs,ok.bsz,ok.noex,ok.exfs,ok.funs,ok.frf⟩
section
variable {X:Cx}{pins:List (Addr×Obj)}{σ:St}{H:Hp}{s:Shared}{E:Value->Shared->Prop}
theorem Inv.wish(I:Inv X pins σ H s)(E:Value->Shared->Prop):Inv (X.wish E) pins σ H s:=⟨I.ok.wish E,I.os,I.bare,I.base,I.loc,I.cell,I.free,I.freeC,I.pin,I.hok,I.len⟩
theorem Inv.unwish(I:Inv (X.wish E) pins σ H s):Inv X pins σ H s:=⟨I.ok.unwish,I.os,I.bare,I.base,I.loc,I.cell,I.free,I.freeC,I.pin,I.hok,I.len⟩
theorem SP.unwish{D:Ends}{f:Flow}{s':Shared}(h:SP (X.wish E) pins D f s'):SP X pins D f s':=by
 cases f with
 |next=>obtain⟨σ',H',I,q⟩:=h;exact⟨σ',H',I.unwish,q⟩
 |brk=>obtain⟨σ',H',I,q⟩:=h;exact⟨σ',H',I.unwish,q⟩
 |cont=>obtain⟨σ',H',I,q⟩:=h;exact⟨σ',H',I.unwish,q⟩
 |ret u=>obtain⟨v,σ',H',I,r,q⟩:=h;exact⟨v,σ',H',I.unwish,r,q⟩
end
section
variable {X:Cx}{st:Stmt}{j9:List Stmt}{t u:TS}{e:Expr}{te:TE}{pos:Pos}
abbrev vq2:TS:=λD σ H=>D.nx σ H
abbrev tSeq(t u:TS):TS:=λD σ H=>t { D with nx:=u D } σ H
theorem qvr:PSs X [] vq2:=λ_ _ σ H _ I h=>wpAny_execs_nil ⟨σ,H,I,h⟩
theorem qjy(h1:PS X st t)(h2:PSs X j9 u):PSs X (st::j9) (tSeq t u):=by
 intro pins s σ H D I h;refine wpAny_execs_cons (thn (h1 pins s σ H { D with nx:=u D } I h) λf s1 q=>?_);cases f with
 |next=>
  obtain⟨σ',H',I',q⟩:=q;exact h2 pins s1 σ' H' D I' q
 |ret v=>exact q
 |brk=>exact q
 |cont=>exact q
theorem kxr(h1:PS X st t):PSs X [st] t:=by
 intro pins s σ H D I h;refine wpAny_execs_cons (thn (h1 pins s σ H D I h) λf s1 q=>?_);cases f with
 |next=>exact wpAny_execs_nil q
 |ret v=>exact q
 |brk=>exact q
 |cont=>exact q
theorem Inv.quiet{pins:List (Addr×Obj)}{σ:St}{H:Hp}{s:Shared}(I:Inv X pins σ H s):interactive X.env=false:=by simp[interactive,I.ok.kind]
abbrev vq3(te:TE):TS:=λD σ H=>te σ H λ_ H1=>D.nx σ H1
theorem XW(he:PE X e te)(hs:autoParam (swapsWith e none pos.line X.env=pure false) Ŕ):PS X (.Expr e pos) (vq3 te):=by
 intro pins s σ H D I h;exact wpAny_Expr_any (thn (he pins s σ H _ I h) λv s1 ⟨x,H1,I1,r1,q1⟩=>⟨σ,H1,I1,q1⟩) I.quiet hs
abbrev tRet(te:TE):TS:=λD σ H=>te σ H D.rt
theorem qzo(he:PE X e te):PS X (.Return (some e) pos) (tRet te):=by
 intro pins s σ H D I h;exact wpAny_Return_some (thn (he pins s σ H _ I h) λv s1 ⟨x,H1,I1,r1,q1⟩=>⟨x,σ,H1,I1,r1,q1⟩)
abbrev tIfS(c:TT)(t u:TS):TS:=λD σ H=>c σ H λb H1=>if b=true then t D σ H1 else u D σ H1
theorem vql{c:Expr}{a b:List Stmt}{tc:TT}(hc:PT X c tc)(ha:PSs X a t)(hb:PSs X b u):PS X (.If c a b pos) (tIfS tc t u):=by
 intro pins s σ H D I h;refine wpAny_If (thn (hc pins s σ H _ I h) λd s1 ⟨H1,I1,q1⟩=>?_);cases d with
 |true=>exact ha pins s1 σ H1 D I1 q1
 |false=>exact hb pins s1 σ H1 D I1 q1
end
abbrev TG:=V->St->Hp->(St->Hp->Prop)->Prop
abbrev TGs:=List V->St->Hp->(St->Hp->Prop)->Prop
noncomputable def PG(X:Cx)(cu:Expr)(t:TG):Prop:=
 ∀(pins:List (Addr×Obj)) (s:Shared) (σ:St) (H:Hp) (v:V) (u:Value) (Q:St->Hp->Prop),Inv X pins σ H s->RelV v u->t v σ H Q ->
  wpAny (model X.prog X.w) X.A (assign cu X.env u) (λ_ s'=>∃ σ' H',Inv X pins σ' H' s'/\Q σ' H') X.xe s
noncomputable def PGs(X:Cx)(ts:List Expr)(t:TGs):Prop:=
 ∀(pins:List (Addr×Obj)) (s:Shared) (σ:St) (H:Hp) (vs:List V) (us:List Value) (Q:St->Hp->Prop),Inv X pins σ H s->Vals vs us->t vs σ H Q ->
  wpAny (model X.prog X.w) X.A (assignInOrder ((assignEach ts X.env).map (·.2)) us) (λ_ s'=>∃ σ' H',Inv X pins σ' H' s'/\Q σ' H') X.xe s
section
variable {X:Cx}{pos:Pos}
abbrev WW(i:Nat):TG:=λv σ H Q=>Q (σ.set i (some v)) H
theorem Qx{i:Nat}{x:Str}(hN:X.N.Nodup)(hi:X.N[i]?=some x)(hx:Loc X.env.scope x)(hf:autoParam (X.fn x=true\/X.env.scope.names.lookup x=some .local) Ř):PG X (.Name x pos) (WW i):=by
 intro pins s σ H v u Q I r h;exact wpAny_assign_Name (kja I hN hi hx r (λs' I'=>⟨_,H,I',h⟩) hf)
abbrev vwh:TGs:=λvs σ H Q=>vs=[]/\Q σ H
abbrev vjv(t:TG)(u:TGs):TGs:=λvs σ H Q=>∃v r,vs=v::r/\t v σ H fun σ' H'=>u r σ' H' Q
theorem Z2:PGs X [] vwh:=by
 intro pins s σ H vs us Q I r h;obtain⟨e,h⟩:=h;subst e;cases r;exact assignInOrder_nil ⟨σ,H,I,h⟩
theorem x9{e:Expr}{es:List Expr}{t:TG}{u:TGs}(h1:PG X e t)(h2:PGs X es u)
  (hs:autoParam ((assignEach (e::es) X.env).map (·.2)=assign e X.env::(assignEach es X.env).map (·.2)) Ŕ):PGs X (e::es) (vjv t u):=by
 intro pins s σ H vs us Q I r h;obtain⟨v,vr,e1,h⟩:=h;subst e1;cases r with
 |cons r rr=>
  rw[hs];refine assignInOrder_cons (thn (h1 pins s σ H _ _ _ I r h) λ_ s1 ⟨σ1,H1,I1,q1⟩=>?_);exact h2 pins s1 σ1 H1 _ _ Q I1 rr q1
abbrev tAsg(te:TE)(g:TG):TS:=λD σ H=>te σ H λx H1=>g x σ H1 D.nx
theorem qzn{i:Nat}{x:Str}{e:Expr}{te:TE}{bv:Pos}(hN:X.N.Nodup)(hi:X.N[i]?=some x)(hx:Loc X.env.scope x)(he:PE X e te)(hs:autoParam (swapsWith e (some (.Name x bv)) pos.line X.env=pure false) Ŕ)(hf:autoParam (X.fn x=true\/X.env.scope.names.lookup x=some .local) Ř):
  PS X (.Assign [.Name x bv] e pos) (tAsg te (WW i)):=by
 intro pins s σ H D I h;refine wpAny_Assign_Name (thn (he pins s σ H _ I h) λv s1 ⟨y,H1,I1,r1,q1⟩=>?_) hs;exact kja I1 hN hi hx r1 (λs2 I2=>⟨_,H1,I2,q1⟩) hf
end
structure It where
 go:Nat->Hp->Prop
 yld:Nat->Hp->V->Hp->Prop
 stop:Nat->Hp->Prop
noncomputable def qZ(X:Cx)(pins:List (Addr×Obj))(H:Hp)(b:Addr):Prop:=
 H b=none/\b≠X.env.locals/\b∉X.fs/\(b∈X.ex\/X.s₀.heap.objs.size<=b)/\(∀x c,X.env.cells.lookup x=some c->c≠b)/\∀p∈X.pn++pins,p.1≠b
theorem Inv.fpOk{X:Cx}{pins:List (Addr×Obj)}{σ:St}{H H':Hp}{s:Shared}{b:Addr}(I:Inv X pins σ H s)(hb:s.heap.objs.size<=b)(hn:H' b=none):qZ X pins H' b:=by
 refine⟨hn,Nat.ne_of_gt (Xe I.lt hb),I.nofs hb,.inr (Y1 I.sz hb),λx c e z=>?_,λp hp z=>?_⟩
 ·obtain⟨v,q⟩:=I.cell x c e;exact absurd (Xe q.lt (by rw[z];exact hb)) (Y8 _)
 ·exact absurd (Xe (Xa (I.pin p hp).1) (by rw[z];exact hb)) (Y8 _)
structure Turn (P:Program)(w:World)(K:PySem.W.Frag)(tg:Expr)(J:It)(fp:List Addr)(it:Addr)(tn:Nat->Heap->Prop):Prop where
 mem:it∈fp
 obj:∀i h,tn i h->∀b∈fp,∃o,h.get? b=some o/\∀v,o.data≠.cell v
 keep:∀i h h',tn i h->(∀b∈fp,∀o,h.get? b=some o->h'.get? b=some o)->tn i h'
 item:∀(X:Cx),X.prog=P->X.w=w->X.K=K->X.calm=true->∀(i:Nat) (pins:List (Addr×Obj)) (s:Shared) (σ:St) (H:Hp) (E:Value->Shared->Prop),Inv X pins σ H s->(∀b∈fp,qZ X pins H b)->tn i s.heap->J.go i H ->
  wpAny (model P w) X.A (pyNext (.ref it)) (λr s1=>∃u,r=some u /\
   wpAny (model P w) X.A (letOwnedTupleGo tg (.ref it) u) (λ_ s2=>∃x H',Inv X pins σ H' s2/\RelV x u/\J.yld i H x H'/\tn (i+1) s2.heap/\∀b∈fp,H' b=none) E s1) E s
 done:∀(X:Cx),X.prog=P->X.w=w->X.K=K->X.calm=true->∀(i:Nat) (pins:List (Addr×Obj)) (s:Shared) (σ:St) (H:Hp) (E:Value->Shared->Prop),Inv X pins σ H s->(∀b∈fp,qZ X pins H b)->tn i s.heap->J.stop i H ->
  wpAny (model P w) X.A (pyNext (.ref it)) (λr s1=>r=none/\Inv X pins σ H s1) E s
 self:∀(A:Around) (i:Nat) (s:Shared) (Q:Value->Shared->Prop) (E:Value->Shared->Prop),tn i s.heap->Q (.ref it) s->wpAny (model P w) A (pyIter (.ref it)) Q E s
abbrev TI:=St->Hp->(It->Hp->Prop)->Prop
noncomputable def PIE(X:Cx)(pins:List (Addr×Obj))(σ:St)(tg:Expr)(R:It->Hp->Prop)(itv:Value)(s2:Shared):Prop:=
 ∃(it:Addr) (fp:List Addr) (tn:Nat->Heap->Prop) (J:It) (H':Hp),itv=.ref it/\Inv X pins σ H' s2/\Turn X.prog X.w X.K tg J fp it tn/\tn 0 s2.heap/\(∀b∈fp,qZ X pins H' b)/\R J H'
noncomputable def PI(X:Cx)(tg ao:Expr)(wi:TI):Prop:=
 ∀(pins:List (Addr×Obj)) (s:Shared) (σ:St) (H:Hp) (R:It->Hp->Prop),Inv X pins σ H s->wi σ H R ->
  wpAny (model X.prog X.w) X.A (eval ao X.env) (λv s1=>wpAny (model X.prog X.w) X.A (pyIter v) (PIE X pins σ tg R) X.xe s1) X.xe s
theorem Zv {M : Model} {A : Around} {E : Value -> Shared -> Prop} {s : Shared} {tg : Expr} {it : Addr} {u : Value} {o : Obj} {n : String} {vs : Array Value} {Q : Unit -> Shared -> Prop} (ho : s.heap.get? it = some o) (hc : o.cls = .type n) (hd : o.data = .fields vs)
    (hn : ["enumerate", "zip", "dict_itemiterator", "dict_reverseitemiterator", "odict_iterator", "itertools.zip_longest", "itertools.pairwise"].contains n = false) (hQ : Q () s): wpAny M A (letOwnedTupleGo tg (.ref it) u) Q E s:= by
  unfold letOwnedTupleGo;cases tg <;> first
    |exact X9 hQ
    |(cases u <;> first
        |exact X9 hQ
        | (refine X0 (wpAny_load ho ?_)
           rw[hc, hd];show wpAny M A (if(["enumerate", "zip", "dict_itemiterator", "dict_reverseitemiterator", "odict_iterator", "itertools.zip_longest", "itertools.pairwise"].contains n&&vs[0]? == some (rawInt _)) = true then _ else _) Q E s;rw[Xj (by intro h; rw[hn, Bool.false_and]at h; cases h)];exact X9 hQ))
noncomputable def Itl(K:PySem.W.Frag)(a:Addr):It:=
 ⟨λi H=>∃xs x,SqL K H a xs/\xs[i]?=some x,λi H x H'=>H'=H/\∀xs,SqL K H a xs->xs[i]?=some x,λi H=>∃xs,SqL K H a xs/\xs.length<=i⟩
noncomputable def Itt(K:PySem.W.Frag)(a:Addr):It:=
 ⟨λi H=>∃xs x,SqT K H a xs/\xs[i]?=some x,λi H x H'=>H'=H/\∀xs,SqT K H a xs->xs[i]?=some x,λi H=>∃xs,SqT K H a xs/\xs.length<=i⟩
def Itr(lo:Int)(n:Nat):It:=⟨λi _=>i<n,λi H x H'=>H'=H/\x=.int (lo+i),λi _=>n<=i⟩
theorem kka{P:Program}{w:World}{K:PySem.W.Frag}{tg:Expr}(a it:Addr):Turn P w K tg (Itl K a) [it] it (λi h=>h.IsListIter it a i) where
 mem:=by simp
 obj:=λi h st b hb=>by
  have e:b=it:=by simpa using hb
  subst e;obtain⟨o,e,c,d⟩:=st;exact⟨o,e,λv z=>by rw[d]at z;cases z⟩
 keep:=λi h h' st k=>st.at λo e=>k it (by simp) o e
 item:=by
  intro X hP hw hK hc i pins s σ H E I hf st hg;subst hP hw hK;obtain⟨xs,x,hq,hx⟩:=hg;obtain⟨aa,rv,p,hz⟩:=I.list hq;obtain⟨u,hu,ru⟩:=rv.get hx;obtain⟨f0,f1,f2,f3,f4,f5⟩:=hf it (by simp);refine wpAny_pyNext_list_item st p.isList (x:=u) (by simpa using hu) λh' cx sb=>?_
  have I1:Inv X pins σ H { s with heap:=h' }:=I.turned (t':=s.toks) (λb o hb e=>(sb.2 b hb).trans e) f0 f1 f3 f4 f5;obtain⟨o,e,c,d⟩:=id cx;exact⟨u,rfl,Zv (s:={ s with heap:=h' }) e c d (by decide) ⟨x,H,I1,ru,⟨rfl,λys hy=>by rw[I.list_inj hy hq];exact hx⟩,cx,λb hb=>(hf b hb).1⟩⟩
 done:=by
  intro X hP hw hK hc i pins s σ H E I hf st hg;subst hP hw hK;obtain⟨xs,hq,hx⟩:=hg;obtain⟨aa,rv,p,hz⟩:=I.list hq;obtain⟨f0,f1,f2,f3,f4,f5⟩:=hf it (by simp);have hl:=rv.length;exact wpAny_pyNext_list_end (I.ok.hd hc) st p.isList (by simp;omega) λh' eb=>⟨rfl,I.turned (t':=s.toks) (λb o hb e=>eb b o hb e) f0 f1 f3 f4 f5⟩
 self:=λ_ _ _ _ _ st h=>wpAny_pyIter_listiter st h
theorem kwa{P:Program}{w:World}{K:PySem.W.Frag}{tg:Expr}(a it:Addr):Turn P w K tg (Itt K a) [it] it (λi h=>h.IsTupleIter it a i) where
 mem:=by simp
 obj:=λi h st b hb=>by
  have e:b=it:=by simpa using hb
  subst e;obtain⟨o,e,c,d⟩:=st;exact⟨o,e,λv z=>by rw[d]at z;cases z⟩
 keep:=λi h h' st k=>st.at λo e=>k it (by simp) o e
 item:=by
  intro X hP hw hK hc i pins s σ H E I hf st hg;subst hP hw hK;obtain⟨xs,x,hq,hx⟩:=hg;obtain⟨aa,rv,p,hz⟩:=I.tuple hq;obtain⟨u,hu,ru⟩:=rv.get hx;obtain⟨f0,f1,f2,f3,f4,f5⟩:=hf it (by simp);refine wpAny_pyNext_tuple_item st (show s.heap.IsTuple a aa.toArray from p) (x:=u) (by simpa using hu) λh' cx sb=>?_
  have I1:Inv X pins σ H { s with heap:=h' }:=I.turned (t':=s.toks) (λb o hb e=>(sb.2 b hb).trans e) f0 f1 f3 f4 f5;obtain⟨o,e,c,d⟩:=id cx;exact⟨u,rfl,Zv (s:={ s with heap:=h' }) e c d (by decide) ⟨x,H,I1,ru,⟨rfl,λys hy=>by rw[I.tuple_inj hy hq];exact hx⟩,cx,λb hb=>(hf b hb).1⟩⟩
 done:=by
  intro X hP hw hK hc i pins s σ H E I hf st hg;subst hP hw hK;obtain⟨xs,hq,hx⟩:=hg;obtain⟨aa,rv,p,hz⟩:=I.tuple hq;obtain⟨f0,f1,f2,f3,f4,f5⟩:=hf it (by simp);have hl:=rv.length;exact wpAny_pyNext_tuple_end (I.ok.hd hc) st (show s.heap.IsTuple a aa.toArray from p) (by simp;omega) λh' eb=>⟨rfl,I.turned (t':=s.toks) (λb o hb e=>eb b o hb e) f0 f1 f3 f4 f5⟩
 self:=λ_ _ _ _ _ st h=>wpAny_pyIter_tupleiter st h
theorem kwb{P:Program}{w:World}{K:PySem.W.Frag}{tg:Expr}(it:Addr)(lo:Int)(n:Nat):Turn P w K tg (Itr lo n) [it] it (λi h=>IsRangeIter h it (lo+(i:Nat)*1) ((n:Int) - (i:Nat)) 1) where
 mem:=by simp
 obj:=λi h st b hb=>by
  have e:b=it:=by simpa using hb
  subst e;exact⟨_,st,λv z=>by
   have z':Data.fields _=Data.cell v:=z;cases z'⟩
 keep:=λi h h' st k=>k it (by simp) _ st
 item:=by
  intro X hP hw hK hc i pins s σ H E I hf st hg;subst hP hw hK;obtain⟨f0,f1,f2,f3,f4,f5⟩:=hf it (by simp);have W:=Walks.range (prog:=X.prog) (w:=X.w) (I.ok.hd hc) it lo 1 n;refine W.item i s _ _ hg st λv h' tk hv cx kk=>?_
  obtain⟨t,rfl⟩:=hv;have I1:Inv X pins σ H { s with heap:=h',toks:=tk }:=I.turned (λb o hb e=>kk b o (by simpa using hb) e) f0 f1 f3 f4 f5;refine⟨_,rfl,Zv (s:={ s with heap:=h',toks:=tk }) (n:="range_iterator") cx rfl rfl (by decide) ⟨.int (lo+i),H,I1,⟨t,?_⟩,⟨rfl,rfl⟩,cx,λb hb=>(hf b hb).1⟩⟩;rw[Int.mul_one]
 done:=by
  intro X hP hw hK hc i pins s σ H E I hf st hg;subst hP hw hK;obtain⟨f0,f1,f2,f3,f4,f5⟩:=hf it (by simp);exact wpAny_pyNext_range_end (I.ok.hd hc) st (by have:n<=i:=hg;omega) λh' eb=>⟨rfl,I.turned (t':=s.toks) (λb o hb e=>eb b o hb e) f0 f1 f3 f4 f5⟩
 self:=λ_ _ _ _ _ st h=>wpAny_pyIter_rangeiter st h
section
variable {X:Cx}{tg:Expr}
abbrev vv3(K:PySem.W.Frag)(tl:TE):TI:=fun σ H R=>tl σ H λx H1=>∃a,x=.ref a/\(∃xs,SqL K H1 a xs)/\R (Itl K a) H1
theorem qvy{l:Expr}{tl:TE}(hl:PE X l tl):PI X tg l (vv3 X.K tl):=by
 intro pins s σ H R I h;refine thn (hl pins s σ H _ I h) λv s1 ⟨x,H1,I1,r1,q1⟩=>?_
 obtain⟨a,e,⟨xs,hq⟩,q⟩:=q1;subst e;cases r1;obtain⟨aa,rv,p,hz⟩:=I1.list hq;refine wpAny_pyIter_list p.isList ?_;refine⟨s1.heap.objs.size,[s1.heap.objs.size],_,_,H1,rfl,I1.kept (t':=s1.toks) λb o e=>X2 _ e,kka a _,⟨_,Xd _ rfl,rfl,rfl⟩,λb hb=>?_,q⟩;have e:b=s1.heap.objs.size:=by simpa using hb
 subst e;exact I1.fpOk (X8 _) (I1.hok.fresh (X8 _))
theorem qjs{pins:List (Addr×Obj)}{σ:St}{H:Hp}{s:Shared}{R:It->Hp->Prop}{E:Value->Shared->Prop}{lo hi:Int}{t u v:Tok}{tk:Nat}(I:Inv X pins σ H s)(h1:-(2 ^ 62)<=lo)(h2:lo<2 ^ 62)(h3:-(2 ^ 62)<=hi)(h4:hi<2 ^ 62)
  (q:R (Itr lo (hi - lo).toNat) H):wpAny (model X.prog X.w) X.A (pyIter (.ref s.heap.objs.size)) (PIE X pins σ tg R) E { s with heap:=s.heap.push { cls:=.type "range",data:=.fields #[.int lo t,.int hi u,.int 1 v] },toks:=tk }:=by
 refine wpAny_pyIter_range (IsRange.new ..) (small_one h1 h2 h3 h4) ?_;have I1:Inv X pins σ H { s with heap:=s.heap.push { cls:=.type "range",data:=.fields #[.int lo t,.int hi u,.int 1 v] },toks:=tk }:=I.kept λb o e=>X2 _ e
 refine⟨(s.heap.push { cls:=.type "range",data:=.fields #[.int lo t,.int hi u,.int 1 v] }).objs.size,[(s.heap.push { cls:=.type "range",data:=.fields #[.int lo t,.int hi u,.int 1 v] }).objs.size],_,_,H,rfl,
  I1.kept (t':=tk) λb o e=>X2 _ e,kwb _ lo (hi - lo).toNat,?_,λb hb=>?_,q⟩
 ·have e1:lo+((0:Nat):Int)*1=lo:=by simp
  have e2:(((hi - lo).toNat:Nat):Int) - ((0:Nat):Int)=Builtin.Range.rangeSize lo hi 1:=by rw[rangeSize_one];split<;>omega
  show IsRangeIter _ _ (lo+((0:Nat):Int)*1) ((((hi - lo).toNat:Nat):Int) - ((0:Nat):Int)) 1;rw[e1,e2];exact Xd _ rfl
 ·have e:b=(s.heap.push { cls:=.type "range",data:=.fields #[.int lo t,.int hi u,.int 1 v] }).objs.size:=by simpa using hb
  subst e;exact I1.fpOk (X8 _) (I1.hok.fresh (X8 _))
abbrev vv2(ta:TA):TI:=fun σ H R=>ta σ H λvs H1=>∃j:Int,vs=[.int j]/\-(2 ^ 62)<=j/\j<2 ^ 62/\R (Itr 0 j.toNat) H1
theorem kxw{a:Expr}{ta:TA}{p pos:Pos}(hg:Gl X "range")(hm:X.mg "range"=none)(ha:PA X [a] ta)(hs:autoParam (starEach [a] X.env=[(false,eval a X.env)]) Ŕ):PI X tg (.Call (.Name "range" p) [a] [] pos) (vv2 ta):=by
 intro pins s σ H R I h;refine Call_ (QY I hg hm boot_range (Yb (thn (ha pos pins s σ H _ I h) λus s1 ⟨vs,H1,I1,r1,q1⟩=>?_) hs rfl));obtain⟨j,e,q1,q2,q⟩:=q1;subst e;cases r1 with
 |cons r rr=>
  cases rr;obtain⟨t,rfl⟩:=r;exact call_range_1 (qjs I1 (by omega) (by omega) q1 q2 (by simpa using q))
abbrev tFor(wi:TI)(g:TG)(tb:TS):TS:=λD σ H=>wi σ H λJ H1=>∃W:Nat->Nat->St->Hp->Prop,(∃m,W 0 m σ H1)/\∀i m σ H,W i m σ H ->
 (J.stop i H/\D.nx σ H)\/(J.go i H/\∃N:St->Hp->Prop,(∀ σ' H',N σ' H'->∃m',m'<m/\W (i+1) m' σ' H')/\∀x H',J.yld i H x H'->g x σ H' fun σ2 H2=>tb { D with nx:=N,ct:=N,bk:=D.nx } σ2 H2)
def JW(fp:List Addr)(h:Heap):List (Addr×Obj):=fp.filterMap λb=>(h.get? b).map λo=>(b,o)
theorem jwr{fp:List Addr}{h:Heap}{b:Addr}{o:Obj}(hb:b∈fp)(e:h.get? b=some o):(b,o)∈JW fp h:=List.mem_filterMap.mpr ⟨b,hb,by rw[e];rfl⟩
theorem kkt{fp:List Addr}{h:Heap}{p:Addr×Obj}(hp:p∈JW fp h):p.1∈fp/\h.get? p.1=some p.2:=by
 obtain⟨b,hb,e⟩:=List.mem_filterMap.mp hp;cases q:h.get? b with
 |none=>rw[q]at e;cases e
 |some o=>
  rw[q]at e;have e':(b,o)=p:=oq9 e;subst e';exact⟨hb,q⟩
theorem Inv.pinned{pins:List (Addr×Obj)}{σ:St}{H:Hp}{s:Shared}{fp:List Addr}(I:Inv X pins σ H s)(hf:∀b∈fp,qZ X pins H b)(ho:∀b∈fp,∃o,s.heap.get? b=some o/\∀v,o.data≠.cell v):Inv X (pins++JW fp s.heap) σ H s:=
 I.pins_of λp hp=>(List.mem_append.mp hp).elim (λz=>I.pin p (lr9 _ z)) λz=>by
  obtain⟨hb,e⟩:=kkt z;obtain⟨f0,f1,f2,_⟩:=hf p.1 hb;obtain⟨o,e',d⟩:=ho p.1 hb;rw[e]at e';cases e';exact⟨e,f0,f1,f2,d⟩
theorem Inv.unpinned{pins pl:List (Addr×Obj)}{σ:St}{H:Hp}{s:Shared}(I:Inv X (pins++pl) σ H s):Inv X pins σ H s:=I.pins_of λp hp=>I.pin p (lr9 _ (ll9 _ hp))
theorem qq5{ao:Expr}{body:List Stmt}{wi:TI}{g:TG}{tb:TS}{pos:Pos}(hp:PassesOwn (model X.prog X.w) X.A X.env X.xe)(hc:X.calm=true)(hi:PI X tg ao wi)(hg:PG X tg g)(hb:PSs X body tb)
  (hs:autoParam (∀x,foldedSetIterable ao X.env x=pure x) Ŗ):PS X (.For tg ao body [] pos) (tFor wi g tb):=by
 intro pins s σ H D I h;refine wpAny_For (thn (hi pins s σ H _ I h) λv s1 h1=>thn h1 λitv s2 h2=>?_) hs;obtain⟨it,fp,tn,J,H2,e,I2,T,bi,f2,W,⟨m0,w0⟩,dw⟩:=h2;subst e;have ff:∀{H':Hp},(∀b∈fp,H' b=none)->∀b∈fp,qZ X pins H' b:=λhn b hb=>⟨hn b hb,(f2 b hb).2⟩
 refine codeAny_forLoop_any (λn s'=>∃i σ' H',Inv X pins σ' H' s'/\tn i s'.heap/\(∀b∈fp,H' b=none)/\W i n σ' H') ?_ m0 ⟨0,σ,H2,I2,bi,λb hb=>(f2 b hb).1,w0⟩;rintro n s3 ⟨i,σ3,H3,I3,cz,fr3,w3⟩;rcases dw i n σ3 H3 w3 with⟨stop,qn⟩|⟨go,N,hN,step⟩
 ·refine wpAny_passesOwn hp (thn (T.done X rfl rfl rfl hc i pins s3 σ3 H3 X.xe I3 (ff fr3) cz stop) λr s4 ⟨hr,I4⟩=>?_);subst hr;exact wpAny_execs_nil ⟨σ3,H3,I4,qn⟩
 ·refine wpAny_passesOwn hp (thn (T.item X rfl rfl rfl hc i pins s3 σ3 H3 X.xe I3 (ff fr3) cz go) λr s4 ⟨u,hr,h4⟩=>?_);subst hr;refine wpAny_passesOwn hp (thn h4 λ_ s5 ⟨x,H5,I5,r5,y5,st5,fr5⟩=>?_);have I5':=I5.pinned (ff fr5) (T.obj _ _ st5);refine wpAny_passesOwn hp (thn (hg _ s5 σ3 H5 x u _ I5' r5 (step x H5 y5)) λ_ s6 ⟨σ6,H6,I6,q6⟩=>?_);refine wpAny_passesOwn hp (thn (hb _ s6 σ6 H6 _ I6 q6) λf s7 q7=>?_);have ce:∀{σ7:St} {H7:Hp},Inv X (pins++JW fp s5.heap) σ7 H7 s7->N σ7 H7->∃m,m<n/\∃i σ' H',Inv X pins σ' H' s7/\tn i s7.heap/\(∀b∈fp,H' b=none)/\W i m σ' H':=fun {σ7 H7} I7 n7=>by
   obtain⟨m',hm,w7⟩:=hN σ7 H7 n7;refine⟨m',hm,i+1,σ7,H7,I7.unpinned,T.keep _ _ _ st5 λb hb o e=>(I7.pin (b,o) (lr9 _ (lr9 _ (jwr hb e)))).1,λb hb=>?_,w7⟩;obtain⟨o,e,d⟩:=T.obj _ _ st5 b hb;exact(I7.pin (b,o) (lr9 _ (lr9 _ (jwr hb e)))).2.1
  cases f with
  |next=>obtain⟨σ7,H7,I7,n7⟩:=q7;exact ce I7 n7
  |cont=>obtain⟨σ7,H7,I7,n7⟩:=q7;exact ce I7 n7
  |brk=>obtain⟨σ7,H7,I7,q7⟩:=q7;exact⟨σ7,H7,I7.unpinned,q7⟩
  |ret v=>obtain⟨x7,σ7,H7,I7,r7,q7⟩:=q7;exact⟨x7,σ7,H7,I7.unpinned,r7,q7⟩
end
abbrev R2:=V->V->Hp->VK->Prop
noncomputable def OpR(X:Cx)(f:Value->Value->Sem Value)(r:R2):Prop:=
 ∀(pins:List (Addr×Obj)) (s:Shared) (σ:St) (H:Hp) (x y:V) (v u:Value) (Q:VK),Inv X pins σ H s->RelV x v->RelV y u->r x y H Q ->
  wpAny (model X.prog X.w) X.A (f v u) (EP X pins σ Q) X.xe s
noncomputable def CallR(X:Cx)(f:Value)(r:List V->Hp->VK->Prop):Prop:=
 ∀(pins:List (Addr×Obj)) (s:Shared) (σ:St) (H:Hp) (xs:List V) (us:List Value) (Q:VK),Inv X pins σ H s->Vals xs us->r xs H Q ->
  wpAny (model X.prog X.w) X.A (call f us) (EP X pins σ Q) X.xe s
noncomputable def TruR(X:Cx)(r:V->Hp->(Bool->Hp->Prop)->Prop):Prop:=
 ∀(pins:List (Addr×Obj)) (s:Shared) (σ:St) (H:Hp) (x:V) (v:Value) (Q:Bool->Hp->Prop),Inv X pins σ H s->RelV x v->r x H Q ->
  wpAny (model X.prog X.w) X.A (truthy v) (TP X pins σ Q) X.xe s
abbrev tOp(r:R2)(ta tb:TE):TE:=fun σ H Q=>ta σ H λx H1=>tb σ H1 λy H2=>r x y H2 Q
abbrev tUn(r:V->Hp->VK->Prop)(ta:TE):TE:=fun σ H Q=>ta σ H λx H1=>r x H1 Q
def rI(C:Int->Int->Prop)(g:Int->Int->V):R2:=λx y H Q=>∃i j,x=.int i/\y=.int j/\C i j/\Q (g i j) H
def rI0(g:Int->Int->V):R2:=λx y H Q=>∃i j,x=.int i/\y=.int j/\Q (g i j) H
section
variable {X:Cx}{a b c:Expr}{ta tb tc:TE}{pos:Pos}
theorem vvh(ha:PE X a ta)(hb:PE X b tb){pins:List (Addr×Obj)}{s:Shared}{σ:St}{H:Hp}{R:V->V->Hp->Prop}(I:Inv X pins σ H s)
  (h:ta σ H λx H1=>tb σ H1 λy H2=>R x y H2) {Q:Value->Shared->Prop} {f:Value->Value->Sem Value}
  (hf:∀v u s2 x y H2,Inv X pins σ H2 s2->RelV x v->RelV y u->R x y H2->wpAny (model X.prog X.w) X.A (f v u) Q X.xe s2):
  wpAny (model X.prog X.w) X.A (eval a X.env) (λv s₁=>wpAny (model X.prog X.w) X.A (eval b X.env) (λu s₂=>wpAny (model X.prog X.w) X.A (f v u) Q X.xe s₂) X.xe s₁) X.xe s:=by
 refine thn (ha pins s σ H _ I h) λv s1 ⟨x,H1,I1,r1,q1⟩=>?_
 refine thn (hb pins s1 σ H1 _ I1 q1) λu s2 ⟨y,H2,I2,r2,q2⟩=>?_
 exact hf v u s2 x y H2 I2 r1 r2 q2
theorem vqn{op:Operator}{r:R2}(ho:OpR X (binaryOp op) r)(ha:PE X a ta)(hb:PE X b tb):PE X (.BinOp a op b pos) (tOp r ta tb):=by
 intro pins s σ H Q I h;exact wpAny_BinOp (vvh ha hb I h λv u s2 x y H2 I2 rx ry q=>ho pins s2 σ H2 x y v u Q I2 rx ry q)
theorem opI{f:Value->Value->Sem Value}{C:Int->Int->Prop}{g:Int->Int->Int}
  (gp:∀(i j:Int) (t u:Tok) (s:Shared) (Q:Value->Shared->Prop) (E:Value->Shared->Prop),C i j->Q (.int (g i j) s.toks) { s with toks:=s.toks+1 }->wpAny (model X.prog X.w) X.A (f (.int i t) (.int j u)) Q E s):
  OpR X f (rI C λi j=>.int (g i j)):=by
 intro pins s σ H x y v u Q I rx ry h;obtain⟨i,j,rfl,rfl,hc,q⟩:=h;obtain⟨t,rfl⟩:=rx;obtain⟨t',rfl⟩:=ry;exact gp i j t t' s _ _ hc ⟨.int (g i j),H,I.tok _,⟨_,rfl⟩,q⟩
theorem vw6{f:Value->Value->Sem Value}{g:Int->Int->Int}
  (gp:∀(i j:Int) (t u:Tok) (s:Shared) (Q:Value->Shared->Prop) (E:Value->Shared->Prop),Q (.int (g i j) s.toks) { s with toks:=s.toks+1 }->wpAny (model X.prog X.w) X.A (f (.int i t) (.int j u)) Q E s):
  OpR X f (rI0 λi j=>.int (g i j)):=by
 intro pins s σ H x y v u Q I rx ry h;obtain⟨i,j,rfl,rfl,q⟩:=h;obtain⟨t,rfl⟩:=rx;obtain⟨t',rfl⟩:=ry;exact gp i j t t' s _ _ ⟨.int (g i j),H,I.tok _,⟨_,rfl⟩,q⟩
theorem vw7{f:Value->Value->Sem Value}{g:Int->Int->Bool}
  (gp:∀(i j:Int) (t u:Tok) (s:Shared) (Q:Value->Shared->Prop) (E:Value->Shared->Prop),Q (.bool (g i j)) s->wpAny (model X.prog X.w) X.A (f (.int i t) (.int j u)) Q E s):
  OpR X f (rI0 λi j=>.bl (g i j)):=by
 intro pins s σ H x y v u Q I rx ry h;obtain⟨i,j,rfl,rfl,q⟩:=h;obtain⟨t,rfl⟩:=rx;obtain⟨t',rfl⟩:=ry;exact gp i j t t' s _ _ ⟨.bl (g i j),H,I,rfl,q⟩
def vwm(i j:Int):Prop:=0<=j/\j<=1000000/\i.natAbs<2 ^ 64
theorem op_add:OpR X (binaryOp .Add) (rI0 λi j=>.int (i+j)):=vw6 λ_ _ _ _ _ _ _ q=>add_int q
theorem kvl:OpR X (binaryOp .Sub) (rI0 λi j=>.int (i - j)):=vw6 λ_ _ _ _ _ _ _ q=>sub_int q
theorem vj4:OpR X (binaryOp .Mod) (rI (λ_ j=>0<j) λi j=>.int (i % j)):=opI λi j _ _ _ _ _ hc q=>by
 have h1:(0:Int)<j:=hc;exact mod_int' (by omega) (by rw[Int.fmod_eq_emod_of_nonneg i (by omega)];exact q)
theorem qqb:OpR X (binaryOp .Pow) (rI vwm λi j=>.int (i ^ j.toNat)):=opI λ_ _ _ _ _ _ _ hc q=>pow_int_small hc.1 hc.2.1 hc.2.2 q
end
section
variable {X:Cx}{a b c:Expr}{ta tb tc:TE}{pos:Pos}
theorem kzu{pins:List (Addr×Obj)}{σ:St}{H:Hp}{s:Shared}{Q:VK}{k k':Bool}(I:Inv X pins σ H s)(q:Q (.bl k) H)(e:k=k'):EP X pins σ Q (.bool k') s:=by
 subst e;exact⟨.bl k,H,I,rfl,q⟩
theorem vqr:OpR X (compareOp .Lt) (rI0 λi j=>.bl (decide (i<j))):=vw7 λ_ _ _ _ _ _ _ q=>lt_int q
theorem vqs:OpR X (compareOp .LtE) (rI0 λi j=>.bl (decide (i<=j))):=vw7 λ_ _ _ _ _ _ _ q=>le_int q
theorem kz1:OpR X (compareOp .In) (λx y H Q=>∃i j,x=.str i/\y=.str j/\Q (.bl (!(Builtin.Str.occurrences j i 0 j.length 1).isEmpty)) H):=by
 intro pins s σ H x y v u Q I rx ry h;obtain⟨i,j,rfl,rfl,q⟩:=h;obtain⟨t,rfl⟩:=rx;obtain⟨t',rfl⟩:=ry;exact in_str (kzu I q rfl)
theorem Q6 : OpR X (compareOp .Is) (λx y H Q=>y = .non /\ Q (.bl (decide (x = .non))) H):= by
  intro pins s σ H x y v u Q I rx ry h;obtain⟨rfl, q⟩:= h;cases ry;refine is_none_gen (kzu I q ?_);cases x <;> first
    |(cases rx; rfl)
    |(obtain⟨t, rfl⟩:= rx; rfl)
theorem qw6 : OpR X (compareOp .IsNot) (λx y H Q=>y = .non /\ Q (.bl (!decide (x = .non))) H):= by
  intro pins s σ H x y v u Q I rx ry h;obtain⟨rfl, q⟩:= h;cases ry;refine isnot_none_gen (kzu I q ?_);cases x <;> first
    |(cases rx; rfl)
    |(obtain⟨t, rfl⟩:= rx; rfl)
theorem OpR.or{f:Value->Value->Sem Value}{r r':R2}(h:OpR X f r)(h':OpR X f r'):OpR X f (λx y H Q=>r x y H Q\/r' x y H Q):=by
 intro pins s σ H x y v u Q I rx ry q;rcases q with q|q
 ·exact h pins s σ H x y v u Q I rx ry q
 ·exact h' pins s σ H x y v u Q I rx ry q
theorem qW(b:Expr){op:CmpOp}(h:autoParam (op≠.In) ŕ)(h2:autoParam (op≠.NotIn) ŕ):behindInMarks op b=false:=by
 have e1:(op==CmpOp.In)=false:=by cases op<;>first|rfl|exact absurd rfl h
 have e2:(op==CmpOp.NotIn)=false:=by cases op<;>first|rfl|exact absurd rfl h2
 cases b<;>simp[behindInMarks,e1,e2]
theorem qvz{op:CmpOp}{r:R2}(ho:OpR X (compareOp op) r)(ha:PE X a ta)(hb:PE X b tb)(hm:behindInMarks op b=false):PE X (.Compare a [op] [b] pos) (tOp r ta tb):=by
 intro pins s σ H Q I h;exact wpAny_Compare1 (vvh ha hb I h λv u s2 x y H2 I2 rx ry q=>ho pins s2 σ H2 x y v u Q I2 rx ry q) hm
abbrev vq0(t:TE):TT:=fun σ H Q=>t σ H λx H'=>∃k,x=.bl k/\Q k H'
theorem qvq{op:CmpOp}{r:R2}(ho:OpR X (compareOp op) r)(ha:PE X a ta)(hb:PE X b tb)(hm:behindInMarks op b=false):PT X (.Compare a [op] [b] pos) (vq0 (tOp r ta tb)):=by
 intro pins s σ H Q I h;refine wpAny_isTrue_Compare1 (thn (ha pins s σ H _ I h) λv s1 ⟨x,H1,I1,r1,q1⟩=>thn (hb pins s1 σ H1 _ I1 q1) λu s2 ⟨y,H2,I2,r2,q2⟩=>
  thn (ho pins s2 σ H2 x y v u _ I2 r1 r2 q2) λc s3 ⟨z,H3,I3,r3,k,e,q3⟩=>?_) hm
 subst e;cases r3;exact wpAny_truthy_bool ⟨H3,I3,q3⟩
noncomputable def vkx(K:PySem.W.Frag)(x:V)(H:Hp)(k:Bool):Prop:=
 match x with
 |.non=>k=false
 |.bl b=>k=b
 |.int i=>k=(i != 0)
 |.str y=>y.length<=sizeLine/\k=((y.length:Int) != 0)
 |.byt y=>y.size<=sizeLine/\k=((y.size:Int) != 0)
 |.ref p=>(∃xs,SqL K H p xs/\k=!xs.isEmpty)\/(∃xs,SqT K H p xs/\k=!xs.isEmpty)\/∃ai,H p=some (.dK ai)/\k=!ai.isEmpty
 |_=>False
theorem kwk{κ:Type}{ai:List (κ×V)}{vs:List (κ×Value)}(r:KV ai vs):(!vs.isEmpty)=!ai.isEmpty:=by
 cases r<;>rfl
theorem kj0{xs:List V}{aa:List Value}(r:Vals xs aa):(!aa.toArray.isEmpty)=!xs.isEmpty:=by
 cases r<;>simp
theorem Wx:(sizeLine:Nat)<2 ^ 63:=by rw[sizeLine_eq];decide
theorem qkx:TruR X (λx H Q=>∃k,vkx X.K x H k/\Q k H):=by
 intro pins s σ H x v Q I rx h;obtain⟨k,e,q⟩:=h;have hl:=Wx;have hs:sizeLine=16777216:=sizeLine_eq;cases x with
 | non=>
  cases rx;have e':k=false:=e;subst e';exact truthy_none ⟨H,I,q⟩
 | bl b=>
  cases rx;have e':k=b:=e;subst e';exact wpAny_truthy_bool ⟨H,I,q⟩
 | int i=>
  obtain⟨t,rfl⟩:=rx;have e':k=(i != 0):=e;subst e';exact PySem.P.truthy_int ⟨H,I,q⟩
 | str y=>
  obtain⟨t,rfl⟩:=rx;obtain⟨hy,e'⟩:y.length<=sizeLine/\k=((y.length:Int) != 0):=e;subst e';exact PySem.P.truthy_str (by omega) ⟨H,I.tok _,q⟩
 | byt y=>
  obtain⟨t,rfl⟩:=rx;obtain⟨hy,e'⟩:y.size<=sizeLine/\k=((y.size:Int) != 0):=e;subst e';exact PySem.W.truthy_bytes (by omega) ⟨H,I.tok _,q⟩
 | ref p=>
  cases rx;have e':(∃xs,SqL X.K H p xs/\k=!xs.isEmpty)\/(∃xs,SqT X.K H p xs/\k=!xs.isEmpty)\/∃ai,H p=some (.dK ai)/\k=!ai.isEmpty:=e;rcases e' with⟨xs,hx,e'⟩|⟨xs,hx,e'⟩|⟨ai,hx,e'⟩
  ·subst e';obtain⟨aa,r,pl,hz⟩:=I.list hx;have ag:=r.length;exact wpAny_truthy_list pl.isList (by simp only[X4];omega) ⟨H,I.tok _,by rw[kj0 r];exact q⟩
  ·subst e';obtain⟨aa,r,pl,hz⟩:=I.tuple hx;have ag:=r.length;exact truthy_tuple pl (by simp only[X4];omega) ⟨H,I.tok _,by rw[kj0 r];exact q⟩
  ·subst e';obtain⟨hz,hS,vs,r,m⟩:ai.length<=sizeLine/\(p==sysModules)=false/\∃vs,KV ai vs/\s.heap.DictOf (kjx X.prog X.w) p vs:=I.hok p _ hx;have ag:ai.length=vs.length:=Paired.length r;exact wpAny_truthy_dict hS m (by omega) ⟨H,I.tok _,by rw[kwk r];exact q⟩
 |_=>exact(show False from e).elim
theorem qjx(ha:PE X a ta)(he:∀d9,isTrue a X.env d9=(do let v <-d9;standAt a.pos;holding [v] (truthy v))):
  PT X a (fun σ H Q=>ta σ H λx H'=>∃k,vkx X.K x H' k/\Q k H'):=by
 intro pins s σ H Q I h;exact isTrue_plain (thn (ha pins s σ H _ I h) λv s1 ⟨x,H1,I1,r1,q1⟩=>qkx pins s1 σ H1 x v Q I1 r1 q1) (he _)
theorem op_add_str:OpR X (binaryOp .Add) (λx y H Q=>∃i j,x=.str i/\y=.str j/\i.length+j.length<=sizeLine/\Q (.str (i++j)) H):=by
 intro pins s σ H x y v u Q I rx ry h;obtain⟨i,j,rfl,rfl,hz,q⟩:=h;obtain⟨t,rfl⟩:=rx;obtain⟨t',rfl⟩:=ry;exact add_str (λt' tk=>⟨.str (i++j),H,I.tok _,⟨_,rfl⟩,q⟩) hz
theorem K1{x:V}{us:List Value}(r:Vals [x] us):∃u,us=[u]/\RelV x u:=by
 cases r with
 |cons r1 r2=>cases r2;exact⟨_,rfl,r1⟩
theorem XY{x y:V}{us:List Value}(r:Vals [x,y] us):∃u w',us=[u,w']/\RelV x u/\RelV y w':=by
 cases r with
 |cons r1 r2=>
  cases r2 with
  |cons r3 r4=>cases r4;exact⟨_,_,rfl,r1,r3⟩
theorem qj5(hc:X.calm=true):CallR X (.builtin "max") (λxs H Q=>∃i j,xs=[.int i,.int j]/\Q (.int (if j>i then j else i)) H):=by
 intro pins s σ H xs us Q I r h;obtain⟨i,j,rfl,q⟩:=h;obtain⟨u,w',rfl,⟨t,rfl⟩,⟨t',rfl⟩⟩:=XY r;refine max_two_ints (I.ok.hd hc) λh' tk k=>⟨_,H,I.kept k,?_,q⟩
 by_cases hj:j>i
 ·rw[Xb hj,Xb hj];exact⟨_,rfl⟩
 ·rw[Xj hj,Xj hj];exact⟨_,rfl⟩
theorem qj8:CallR X (.type "int") (λxs H Q=>(∃i,xs=[.int i]/\Q (.int i) H)\/∃k,xs=[.bl k]/\Q (.int (if k then 1 else 0)) H):=by
 intro pins s σ H xs us Q I r h;rcases h with⟨i,rfl,q⟩|⟨k,rfl,q⟩
 ·obtain⟨u,rfl,t,rfl⟩:=K1 r;exact call_int_int ⟨.int i,H,I,⟨_,rfl⟩,q⟩
 ·obtain⟨u,rfl,r1⟩:=K1 r;cases r1;exact call_int_bool ⟨.int (if k then 1 else 0),H,I.tok _,⟨_,rfl⟩,q⟩
end
structure ObjM (h:Heap)(x dx C:Addr)(mA:Str->Option Value):Prop where
 obj:h.get? x=some (PySem.W.instObj C dx)
 ns:h.Ns1 dx mA
 ne:dx≠x
theorem kzc{h:Heap}{dx:Addr}{mA:Str->Option Value}(n:h.Ns1 dx mA):∃od,h.get? dx=some od/\∀name,PySem.W.lookIn name od=some (mA name):=by
 obtain⟨o,es,ep,ho,hd,hk,_,hm⟩:=n;refine⟨o,ho,λname=>?_⟩;have e:=hm name;unfold nsFind findBy at e;rw[<-Array.find?_toList]at e;unfold PySem.W.lookIn;rw[hd];dsimp only
 split
 ·rename_i y q;rw[q]at e;exact congrArg some e
 ·rename_i q;rw[q]at e;have a:es.toList.any (·.refKey)=false:=by
   rw[List.any_eq_false];intro y hy;obtain⟨z,t,hkey⟩:=hk y (Array.mem_toList_iff.mp hy);simp[DictEntry.refKey,hkey]
  have a':¬es.toList.any (·.refKey)=true:=by rw[a];exact Bool.false_ne_true
  rw[Xj a'];exact congrArg some e
theorem ObjM.look{h:Heap}{x dx C:Addr}{mA:Str->Option Value}(I:ObjM h x dx C mA):∃od,PySem.W.InstAt h x (PySem.W.instObj C dx) C (some od)/\∀name,PySem.W.lookIn name od=some (mA name):=
 let ⟨od,ho,hl⟩:=kzc I.ns
 ⟨od,⟨I.obj,rfl,rfl,ho⟩,hl⟩
section
variable {P:Program}{w:World}{H H':Hp}{h h':Heap}{a C dx:Addr}{fs fs':List (Str×V)}
theorem qwn(hok:HOk P w H h)(e:H a=some (.ins C dx fs)):∃mA,ObjM h a dx C mA/\(∀f,vvl (fs.lookup f) (mA f))/\PySem.Within mA (fs.map (·.1))/\fs.length<=1000/\H dx=some (.own a):=by
 obtain⟨d,z,ne,ob,mA,n,r,q⟩:=(show ObjOk P w H h a (.ins C dx fs)from hok a _ e);exact⟨mA,⟨ob,n,ne⟩,r,q,z,d⟩
end
structure Cls (K:PySem.W.Frag)(C:Addr):Prop where
 pg:PySem.W.plainGet K C Str.empty=true
 hd:PySem.W.hasDictIn K C=true
 po:PySem.W.plainOver K C=true
 sa:PySem.W.findIn K (.ref C) "__setattr__"=some (some (.builtin "object.__setattr__"))
theorem Cls.get{K:PySem.W.Frag}{C:Addr}(c:Cls K C)(f:Str):PySem.W.plainGet K C f=true:=c.pg
section
variable {X:Cx}{pins:List (Addr×Obj)}{σ:St}{H:Hp}{s:Shared}{A:Around}{E:Value->Shared->Prop}{Q:Value->Shared->Prop}{c:Value}{b:Bool}
inductive TyOf (K:PySem.W.Frag)(H:Hp):V->Value->Prop where
 | non:TyOf K H .non (.type "NoneType")
 | bl (x:Bool):TyOf K H (.bl x) (.type "bool")
 | int (i:Int):TyOf K H (.int i) (.type "int")
 | str (x:Str):TyOf K H (.str x) (.type "str")
 | flt (x:UInt64):TyOf K H (.flt x) (.type "float")
 | lst {a:Addr} {xs:List V} (e:H a=some (.lst xs)):TyOf K H (.ref a) (.type "list")
 | frz {a:Addr} {o:Obj} {xs:List V} (e:H a=some (.frz o (.lst xs))):TyOf K H (.ref a) (.type "list")
 | tup {a:Addr} {xs:List V} (e:H a=some (.tup xs)):TyOf K H (.ref a) (.type "tuple")
 | dK {a:Addr} {ai:List (Key×V)} (e:H a=some (.dK ai)):TyOf K H (.ref a) (.type "dict")
 | dT {a:Addr} {ai:List (List Key×V)} (e:H a=some (.dT ai)):TyOf K H (.ref a) (.type "dict")
 | ins {a C dx:Addr} {fs:List (Str×V)} (e:H a=some (.ins C dx fs)) (cl:Cls K C) (ha:PySem.W.findIn K (.ref C) "__class__"=some (some (.builtin "object.__class__")))
   (hn:PySem.W.specialIn K (.builtin "object.__class__") "__get__"=some (some (.builtin "getset_descriptor.__get__"))) (htk:PySem.W.takesIn K (.builtin "object.__class__")=some true)
   (hm:PySem.W.mroIn K C (.type "object")=some true):TyOf K H (.ref a) (.ref C)
theorem kzn{x:V}{u t:Value}(I:Inv X pins σ H s)(rx:RelV x u)(ty:TyOf X.K H x t)(e:PySem.W.kitOne X.K t c=some b)(h:∀tk,Q (.bool b) { s with toks:=tk }):
  wpAny (model X.prog X.w) A (call (.builtin "isinstance") [u,c]) Q E s:=by
 cases ty with
 |non=>cases(show u=Value.none from rx);exact Xw PySem.W.kitx_none I.kIn True.intro e (λz=>nomatch z) h
 |bl y=>cases(show u=Value.bool y from rx);exact Xw PySem.W.kitx_bool I.kIn True.intro e (λz=>nomatch z) h
 |int i=>obtain⟨t,q⟩:=(show ∃t,u=Value.int i t from rx);cases q;exact Xw PySem.W.kitx_int I.kIn True.intro e (λz=>nomatch z) h
 |str y=>obtain⟨t,q⟩:=(show ∃t,u=Value.str y t from rx);cases q;exact Xw PySem.W.kitx_str I.kIn True.intro e (λz=>nomatch z) h
 |flt y=>obtain⟨t,q⟩:=(show ∃t,u=Value.float y t from rx);cases q;exact Xw PySem.W.kitx_float I.kIn True.intro e (λz=>nomatch z) h
 |@lst a xs ea=>
  cases(show u=Value.ref a from rx);obtain⟨_,_,n,_,h1⟩:=(show ObjOk X.prog X.w H s.heap a (.lst xs)from I.hok a _ ea);exact Xw PySem.W.kitx_list I.kIn ⟨_,h1,rfl⟩ e (λz=>nomatch z) h
 |@frz a ob xs ea=>
  cases(show u=Value.ref a from rx);obtain⟨_,_,_,n,_,h1⟩:=(show ObjOk X.prog X.w H s.heap a (.frz ob (.lst xs))from I.hok a _ ea);exact Xw PySem.W.kitx_list I.kIn ⟨_,h1,rfl⟩ e (λz=>nomatch z) h
 |@tup a xs ea=>
  cases(show u=Value.ref a from rx);obtain⟨_,_,_,p⟩:=(show ObjOk X.prog X.w H s.heap a (.tup xs)from I.hok a _ ea);obtain⟨o,h1,h2,_⟩:=p;exact Xw PySem.W.kitx_tuple I.kIn ⟨o,h1,h2⟩ e (λz=>nomatch z) h
 |@dK a ai ea=>
  cases(show u=Value.ref a from rx);obtain⟨_,_,vs,_,p⟩:=(show ObjOk X.prog X.w H s.heap a (.dK ai)from I.hok a _ ea);obtain⟨o,es,ep,h1,h2,_⟩:=p;exact Xw PySem.W.kitx_dict I.kIn ⟨o,h1,h2.1⟩ e (λz=>nomatch z) h
 |@dT a ai ea=>
  cases(show u=Value.ref a from rx);obtain⟨_,_,xs,_,o,es,ep,h1,h2,_⟩:=(show ObjOk X.prog X.w H s.heap a (.dT ai)from I.hok a _ ea);exact Xw PySem.W.kitx_dict I.kIn ⟨o,h1,h2.1⟩ e (λz=>nomatch z) h
 |@ins a C dx fs ea cl ha hn htk hm=>
  cases(show u=Value.ref a from rx);obtain⟨mA,O,_⟩:=qwn I.hok ea;obtain⟨od,J,_⟩:=O.look;exact Xw (PySem.W.kitx_own (cl.get _) cl.hd ha hn htk hm) I.kIn J e (λz=>nomatch z) h
end
structure Room (k:Nat)(A:Around):Prop where
 hd:A.handled=none
 dp:A.depth+3*k+5<recursionLimit
 un:A.units+16*k+200<cLine
 gd:A.guards=some []
theorem Room.mono{j k:Nat}{A:Around}(r:Room k A)(h:j<=k):Room j A:=⟨r.hd,by have:=r.dp;omega,by have:=r.un;omega,r.gd⟩
theorem Room.deeper{k:Nat}{A:Around}(r:Room (k+1) A)(env:Env):Room k (A.deeper env):=
 ⟨r.hd,by have:=r.dp;show A.depth+1+3*k+5<_;omega,by have:=r.un;show A.units+3+16*k+200<_;omega,r.gd⟩
theorem Room.depth{k:Nat}{A:Around}(r:Room k A):A.depth<recursionLimit:=by have:=r.dp;omega
theorem Room.units{k:Nat}{A:Around}(r:Room k A):A.units+64<cLine:=by have:=r.un;omega
abbrev vq1:TA:=λ_ H Q=>Q [] H
abbrev qv5(ta:TE)(tr:TA):TA:=fun σ H Q=>ta σ H λx H1=>tr σ H1 λxs H2=>Q (x::xs) H2
section
variable {X:Cx}{e:Expr}{es:List Expr}{te:TE}{t:TA}{pos:Pos}
theorem vX:PA X [] vq1:=λ_ _ _ _ H Q I h=>Calls.spliced_nil ⟨[],H,I,.nil,h⟩
theorem vz(ha:PE X e te)(hr:PA X es t)(hs:autoParam (starEach (e::es) X.env=(false,eval e X.env)::starEach es X.env) Ŕ):PA X (e::es) (qv5 te t):=by
 intro pos pins s σ H Q I h;rw[hs];show wpAny _ _ (spliced ((false,eval e X.env)::backTo pos (starEach es X.env))) _ _ s;refine Calls.spliced_cons (thn (ha pins s σ H _ I h) λu s1 ⟨x,H1,I1,r1,q1⟩=>?_);exact thn (hr pos pins s1 σ H1 _ I1 q1) λus s2 ⟨xs,H2,I2,r2,q2⟩=>⟨x::xs,H2,I2,.cons r1 r2,q2⟩
abbrev tTup(t:TA):TE:=fun σ H Q=>t σ H λxs H1=>xs.length<=sizeLine/\∀p,H1 p=none->Q (.ref p) (upd H1 p (.tup xs))
abbrev tLst(t:TA):TE:=fun σ H Q=>t σ H λxs H1=>xs.length<=sizeLine/\∀p,H1 p=none->Q (.ref p) (upd H1 p (.lst xs))
theorem qzs{x1}(h:PA X es t):PE X (.Tuple es x1 pos) (tTup t):=by
 intro pins s σ H Q I hq;refine wpAny_Tuple_spliced (thn (h pos pins s σ H _ I hq) λus s1 ⟨xs,H1,I1,r,z,q⟩=>⟨by rw[<-r.length];exact z,?_⟩);have hf:H1 s1.heap.objs.size=none:=I1.hok.fresh (X8 _);refine⟨.ref s1.heap.objs.size,upd H1 s1.heap.objs.size (.tup xs),I1.laid (t':=s1.toks) (λb u e=>X2 _ e) (X8 _) ?_,rfl,q _ hf⟩;exact⟨z,us,r,⟨_,Xd _ rfl,rfl,rfl,_,rfl⟩⟩
theorem qzv(h:PA X es t):PE X (.List es pos) (tLst t):=by
 intro pins s σ H Q I hq;refine wpAny_List_spliced (thn (h pos pins s σ H _ I hq) λus s1 ⟨xs,H1,I1,r,z,q⟩=>⟨by rw[<-r.length];exact z,?_⟩);have hf:H1 s1.heap.objs.size=none:=I1.hok.fresh (X8 _);refine⟨.ref s1.heap.objs.size,upd H1 s1.heap.objs.size (.lst xs),I1.laid (t':=s1.toks) (λb u e=>X2 _ e) (X8 _) ?_,rfl,q _ hf⟩;exact⟨z,us,0,r,Xd _ rfl⟩
end
abbrev Sp:=List V->Hp->VK->XK->Prop
abbrev CXT:=List Env->Hp->Shared->XK->Value->Shared->Prop
structure Env0 (P:Program)(w:World)(K:PySem.W.Frag)(mg:Str->Option Value)(base:Heap)(A:Around)(outer:List Env)(s:Shared)(H:Hp):Prop where
 frames:A.frames=some outer
 mod:Mod K mg base
 bs:∀b o,base.get? b=some o->s.heap.get? b=some o/\H b=none
 bsz:base.objs.size<=s.heap.objs.size
 funs:s.heap.FunFrames base outer
 frf:∀b∈frs outer,H b=none
 hok:HOk P w H s.heap
 bare:AllBare s.gens
noncomputable def CE(outer:List Env)(P:Program)(w:World)(H:Hp)(s:Shared)(Q:VK)(u:Value)(s':Shared):Prop:=
 ∃v H',s'.os=s.os/\AllBare s'.gens/\Un (frs outer) [] H H' s.heap s'.heap/\HOk P w H' s'.heap/\RelV v u/\Q v H'
noncomputable def CR(CX:CXT)(outer:List Env)(P:Program)(w:World)(H:Hp)(s:Shared)(Q:VK)(E:XK)(r:Result)(s':Shared):Prop:=
 match r with
 |.ok (.ret u)=>CE outer P w H s Q u s'
 |.ok _=>False
 |.error e=>CX outer H s E e s'
structure FnOk (P:Program)(w:World)(K:PySem.W.Frag)(mg:Str->Option Value)(base:Heap)(CX:CXT)(k:Nat)(f:Addr)(fd:FuncData)(ps:List Str)(sp:Sp):Prop where
 len:∀vs H Q E,sp vs H Q E->vs.length=ps.length
 run:∀(A:Around) (outer:List Env) (s:Shared) (H:Hp) (args:Args) (us:List Value) (vs:List V) (Q:VK) (E:XK),Room k A->Env0 P w K mg base A outer s H->BindsTo s fd args (ps.zip us)->Vals vs us->sp vs H Q E ->
  codeAny (model P w) A (.call (.ref f) args) (CR CX outer P w H s Q E) s
section
variable {X:Cx}{pins:List (Addr×Obj)}{σ:St}{H:Hp}{s s':Shared}
theorem Inv.env0(I:Inv X pins σ H s):Env0 X.prog X.w X.K X.mg X.base X.A X.stack s H:=
 ⟨I.ok.frames,I.ok.mod,I.bs,Y1 I.ok.bsz I.sz,I.stack,I.stkFree,I.hok,I.bare⟩
theorem Inv.after{Q:VK}{u:Value}(I:Inv X pins σ H s)(h:CE X.stack X.prog X.w H s Q u s'):EP X pins σ Q u s':=by
 obtain⟨v,H',os,bare,un,hok,r,q⟩:=h;obtain⟨hh,g,d,t,os'⟩:=s';obtain rfl:os'=s.os:=os;exact⟨v,H',I.call (h':=hh) (g':=g) (d':=d) (t':=t) (ch:=[]) un hok bare (λb z=>absurd z (by simp)),r,q⟩
end
abbrev qxo(sp:Sp)(jh:List V)(E:XK)(t:TA):TE:=fun σ H Q=>t σ H λvs H1=>sp (vs++jh) H1 Q E
noncomputable def Binds(K:PySem.W.Frag)(fd:FuncData)(ps:List Str)(ds:List Value):Prop:=
 ∀(s:Shared) (us:List Value),K.In s.heap->(us++ds).length=ps.length->BindsTo s fd ⟨us,[]⟩ (ps.zip (us++ds))
theorem Binds.all{K:PySem.W.Frag}{fd:FuncData}{ps:List Str}(h:∀us:List Value,us.length=ps.length->bindArgs fd ⟨us,[]⟩=pure (ps.zip us)):Binds K fd ps []:=λs us _ hl=>by
 rw[Xr]at hl ⊢;exact .of_eq (h us hl)
noncomputable def qji(CX:CXT)(X:Cx)(E:XK):Prop:=∀(pins:List (Addr×Obj)) (σ:St) (H:Hp) (s:Shared) (e:Value) (s':Shared),Inv X pins σ H s->CX X.stack H s E e s'->X.xe e s'
section
variable {X:Cx}{CX:CXT}{k:Nat}{f C:Addr}{fd:FuncData}{ps:List Str}{sp:Sp}{jh:List V}{ds:List Value}{E:XK}{x m:Str}{p pos aj:Pos}{e o:Expr}{es:List Expr}{ta:TE}{t:TA}
theorem qz1{pins:List (Addr×Obj)}{σ:St}{H:Hp}{s:Shared}{Q:VK}{us:List Value}{vs:List V}(F:FnOk X.prog X.w X.K X.mg X.base CX k f fd ps sp)(hr:Room k X.A)(hb:Binds X.K fd ps ds)(hd:Vals jh ds)(hx:qji CX X E)
  (I:Inv X pins σ H s) (r:Vals vs us) (h:sp (vs++jh) H Q E):wpAny (model X.prog X.w) X.A (call (.ref f) us) (EP X pins σ Q) X.xe s:=by
 have r2:Vals (vs++jh) (us++ds):=r.append hd;have hl:(us++ds).length=ps.length:=by rw[<-r2.length];exact F.len _ _ _ _ h
 refine wpAny_call (codeAny_mono (F.run X.A X.stack s H ⟨us,[]⟩ (us++ds) (vs++jh) Q E hr I.env0 (hb s us I.kIn hl) r2 h) λr s' hq=>?_);cases r with
 |error e=>exact hx pins σ H s e s' I hq
 |ok fl=>
  cases fl with
  |ret u=>exact I.after hq
  |next=>exact False.elim hq
  |brk=>exact False.elim hq
  |cont=>exact False.elim hq
theorem qw0(F:FnOk X.prog X.w X.K X.mg X.base CX k f fd ps sp)(hr:Room k X.A)(hg:Gl X x)(hm:X.mg x=some (.ref f))(hk:PySem.W.keepIn X.K (.ref f)=true)(hb:Binds X.K fd ps ds)(hd:Vals jh ds)(hx:qji CX X E)
  (ha:PA X (e::es) t) (dq:autoParam ((x==("__debug__":Str))=false) ŕ) (he:autoParam (starEach (e::es) X.env=(false,eval e X.env)::starEach es X.env) Ŕ) (bg:autoParam ((backTo pos (starEach es X.env)).any (·.1)=false) Ŕ):
  PE X (.Call (.Name x p) (e::es) [] pos) (qxo sp jh E t):=by
 intro pins s σ H Q I h;refine wpAny_Call_Name_kw (qwg I hg hm ?_ dq);refine PySem.W.callWith_K (h₀:=X.base) I.ok.mod.kin hk (thn (ha pos pins s σ H _ I h) λus s1 ⟨vs,H1,I1,r,q⟩=>⟨I1.kIn,?_⟩) he bg;exact qz1 F hr hb hd hx I1 r q
end
structure FnScope (N P:List Str)(sc:Scope):Prop where
 kind:sc.kind=.function
 co:sc.isCoroutine=false
 gen:sc.isGenerator=false
 nd:N.Nodup
 pre:N.take P.length=P
 par:∀x∈P,sc.names.lookup x=some .local\/sc.names.lookup x=some .cell
 nofree:∀y∈sc.names,y.2≠.free
theorem kqa{kindOf : Str -> Option NameKind}{x : Str}: ∀{binds : List (Str × Value)} {m : Str -> Option Value}, (∀v, (x, v)∉binds) -> bindL kindOf binds m x = m x
  | [], _, _=>rfl
  | (n, v)::r, m, h=>by
    unfold bindL;rw[kqa λw hw=>h w (lc9 _ hw)]
    split
    · have : x≠n:= by rintro rfl; exact h v X5
      simp[this]
    · rfl
theorem kqc{kindOf : Str -> Option NameKind}{x : Str}: ∀{binds : List (Str × Value)} {m : Str -> Option Value}, (∀v, (x, v)∉binds) -> bindC kindOf binds m x = m x
  | [], _, _=>rfl
  | (n, v)::r, m, h=>by
    unfold bindC;rw[kqc λw hw=>h w (lc9 _ hw)]
    split
    · rfl
    · have : x≠n:= by rintro rfl; exact h v X5
      simp[this]
theorem kqb{kindOf:Str->Option NameKind}{x:Str}{v:Value}:∀{P:List Str} {vs:List Value} {i:Nat} {m:Str->Option Value},P.Nodup->P[i]?=some x->vs[i]?=some v->kindOf x=some .local ->
  bindL kindOf (P.zip vs) m x=some v
 |[],_,_,_,_,h,_,_=>by simp at h
 |_::_,[],_,_,_,_,h,_=>by simp at h
 |p::P,w::vs,0,m,nd,h1,h2,hk=>by
  simp at h1 h2;subst h1;subst h2;show bindL kindOf ((p,w)::P.zip vs) m p=_;unfold bindL;rw[kqa λv hv=>(List.nodup_cons.mp nd).1 (List.of_mem_zip hv).1,Xb hk];simp
 |p::P,w::vs,i+1,m,nd,h1,h2,hk=>by
  show bindL kindOf ((p,w)::P.zip vs) m x=_;unfold bindL;exact kqb (i:=i) (List.nodup_cons.mp nd).2 (by simpa using h1) (by simpa using h2) hk
theorem kqd{kindOf:Str->Option NameKind}{x:Str}{v:Value}:∀{P:List Str} {vs:List Value} {i:Nat} {m:Str->Option Value},P.Nodup->P[i]?=some x->vs[i]?=some v->kindOf x≠some .local ->
  bindC kindOf (P.zip vs) m x=some v
 |[],_,_,_,_,h,_,_=>by simp at h
 |_::_,[],_,_,_,_,h,_=>by simp at h
 |p::P,w::vs,0,m,nd,h1,h2,hk=>by
  simp at h1 h2;subst h1;subst h2;show bindC kindOf ((p,w)::P.zip vs) m p=_;unfold bindC;rw[kqc λv hv=>(List.nodup_cons.mp nd).1 (List.of_mem_zip hv).1,Xj hk];simp
 |p::P,w::vs,i+1,m,nd,h1,h2,hk=>by
  show bindC kindOf ((p,w)::P.zip vs) m x=_;unfold bindC;exact kqd (i:=i) (List.nodup_cons.mp nd).2 (by simpa using h1) (by simpa using h2) hk
def start(N:List Str)(vs:List V):St:=vs.map some++List.replicate (N.length - vs.length) none
noncomputable def J3(CX:CXT)(P:Program)(w:World)(K:PySem.W.Frag)(mg:Str->Option Value)(base:Heap)(N:List Str)(qual:Str)(scope:Scope)(f:Addr)(cd:Value)(A:Around)(outer:List Env)(s:Shared)(H:Hp)(E:XK):Cx where
 prog:=P
 w:=w
 K:=K
 mg:=mg
 base:=base
 A:=A.deeper (envOfC qual scope s.heap.objs.size f cd)
 N:=N
 s₀:=s
 H₀:=H
 env:=envOfC qual scope s.heap.objs.size f cd
 outer:=outer
 stack:=envOfC qual scope s.heap.objs.size f cd::outer
 ex:=[]
 calm:=true
 fn:=λ_=>true
 pn:=[]
 xe:=λe s'=>wpAny (model P w) (A.deeper (envOfC qual scope s.heap.objs.size f cd)) (leaving (envOfC qual scope s.heap.objs.size f cd) e) (λ_ kt=>CX outer H s E e kt) (λe' kt=>CX outer H s E e' kt) s'
theorem kw0{sc:Scope}{n:Nat}{x:Str}(h:sc.names.lookup x=some .cell):∃c,(cellsFrom n sc.names []).lookup x=some c:=by
 have q:=PySem.W.cellsFrom_some sc.names n [] (.inl h);exact Option.isSome_iff_exists.mp q
theorem kzo{CX:CXT}{P:Program}{w:World}{K:PySem.W.Frag}{mg:Str->Option Value}{base:Heap}{N ps:List Str}{qual:Str}{scope:Scope}{f:Addr}{cd:Value}{A:Around}{outer:List Env}{s s1:Shared}{H:Hp}{E:XK}{us:List Value}{vs:List V}
  (S:FnScope N ps scope) (hd:A.handled=none) (e0:Env0 P w K mg base A outer s H) (hl:vs.length=ps.length) (r:Vals vs us)
  (x:InCallC s s.heap.objs.size (bindL (envOfC qual scope s.heap.objs.size f cd).kindOf (ps.zip us) λ_=>none) (cellsFrom (s.heap.objs.size+1) scope.names []) (bindC (envOfC qual scope s.heap.objs.size f cd).kindOf (ps.zip us) λ_=>none) s1):
  Inv (J3 CX P w K mg base N qual scope f cd A outer s H E) [] (start N vs) H s1:=by
 have bg:ps.length<=N.length:=by have:=congrArg List.length S.pre;rw[List.length_take]at this;omega
 obtain⟨h1,tk,rfl,hk⟩:=x.done;have m6:∀b:Addr,b∉(J3 CX P w K mg base N qual scope f cd A outer s H E).ex:=λb z=>absurd (show b∈([]:List Addr)from z) (by simp)
 refine⟨⟨e0.mod,S.kind,rfl,rfl,X8 _,λy z c h1 h2=>?_,λy hy=>?_,λy c _ h=>?_,λ_=>hd,Around.frames_deeper e0.frames,.inr ⟨rfl,rfl⟩,λb z=>absurd z (m6 b),e0.bs,e0.bsz,λb _ _=>m6 b,λb z=>absurd z (m6 b),e0.funs,e0.frf⟩,
  rfl,e0.bare,Un.kept hk,⟨_,x.toInCall.ns,λi y v h1 h2 h3=>?_⟩,λy c h=>⟨_,x.cell y c h⟩,e0.hok.fresh (X8 _),λy c h=>?_,λp hp=>absurd (show p∈([]:List (Addr×Obj))from hp) (by simp),e0.hok.kept hk,?_⟩
 ·exact name_of_addr x.apart (Yd h1) (Yd h2)
 ·have hy:scope.names.lookup y=some .cell\/scope.names.lookup y=some .free:=hy;rcases hy with hy|hy
  ·exact kw0 hy
  ·exact absurd rfl (S.nofree _ (Yd hy))
 ·exact Nat.le_of_lt (x.above y c (Yd h))
 ·have hi:i<vs.length:=by
   unfold start at h2
   by_cases hi:i<vs.length
   ·exact hi
   ·rw[Y3 (by simpa using hi)]at h2;rw[List.getElem?_replicate]at h2
    split at h2<;>cases h2
  have ha:vs[i]?=some v:=by
   unfold start at h2;rw[Y6 (by simpa using hi),Xg]at h2;cases e:vs[i]? with
   |none=>rw[e]at h2;cases h2
   |some a=>rw[e]at h2;cases h2;rfl
  obtain⟨u,hu,rv⟩:=r.get ha;have hp:ps[i]?=some y:=by
   rw[<-S.pre,List.getElem?_take_of_lt (by omega)];exact h1
  have ndP:ps.Nodup:=by rw[<-S.pre];exact S.nd.sublist (List.take_sublist _ _)
  refine⟨u,rv,?_⟩;rcases S.par y (Xs hp)with k|k
  ·exact .inl ⟨k,kqb ndP hp hu k⟩
  ·obtain⟨c,e⟩:=kw0 (n:=s.heap.objs.size+1) k;refine .inr ⟨.inl k,c,e,?_⟩;have q:=x.cell y c e;rw[kqd ndP hp hu (by show scope.names.lookup y≠_;rw[k];decide)]at q;exact q
 ·exact e0.hok.fresh (Nat.le_of_lt (x.above y c (Yd h)))
 ·unfold start;show _=N.length;rw[Xi,X3,Yf];omega
theorem vv6{CX:CXT}{P:Program}{w:World}{K:PySem.W.Frag}{mg:Str->Option Value}{base:Heap}{k:Nat}{f:Addr}{name qual:Str}{params:Arguments}{body:List Stmt}{scope:Scope}{dV kV ef pm bd ct oc:Value}{an od:Option Addr}
  {ji:Array (Option Value)} {N ps:List Str} {sp:Sp} (lk:K.lookup f=some ⟨oc,od,.func (PySem.W.fnOf name qual params body scope dV kV ef pm an bd ct),ji⟩) (fe:PySem.W.codeIn K bd qual=true) (S:FnScope N ps scope)
  (len:∀vs H Q E,sp vs H Q E->vs.length=ps.length)
  (gm:∀(A:Around) (outer:List Env) (s:Shared) (H:Hp) (vs:List V) (Q:VK) (E:XK),Room k (A.deeper (envOfC qual scope s.heap.objs.size f bd))->sp vs H Q E ->
   ∃t,PSs (J3 CX P w K mg base N qual scope f bd A outer s H E) body t/\t { nx:=λ_ H'=>Q .non H',rt:=Q } (start N vs) H):
  FnOk P w K mg base CX (k+1) f (PySem.W.fnOf name qual params body scope dV kV ef pm an bd ct) ps sp:=by
 refine⟨len,λA outer s H args us vs Q E hr e0 hb r jg=>?_⟩;have hl:=len _ _ _ _ jg;have KX:K.In s.heap:=e0.mod.kin.keeps λb o e=>(e0.bs b o e).1
 have lim:s.heap.NoLimit:=e0.mod.nolimit.keeps λb o e=>(e0.bs b o e).1
 have ng:∀y∈ps.zip us,scope.names.lookup y.1=some .local\/(scope.names.lookup y.1=some .cell/\((cellsFrom (s.heap.objs.size+1) scope.names []).lookup y.1).isSome=true):=λ⟨n,v⟩ hy=>by
  rcases S.par n (List.of_mem_zip hy).1 with q|q
  ·exact .inl q
  ·exact .inr ⟨q,PySem.W.cellsFrom_some _ _ _ (.inl q)⟩
 refine codeAny_call_function hr.depth (KX _ _ lk) rfl S.co S.gen rfl (PySem.W.codeRec_of KX fe) (hb _ _ _ _ ?_);refine wpAny_newFunctionEnv_cells S.kind ng λenv he s1 x=>?_
 subst he;refine⟨lim.keeps x.toInCall.keep,codeAny_func ?_⟩;obtain⟨t,ht,hq⟩:=gm A outer s H vs Q E (hr.deeper _) jg;have I:Inv (J3 CX P w K mg base N qual scope f bd A outer s H E) [] (start N vs) H s1:=kzo S hr.hd e0 hl r x;refine wpAny_mono (ht [] s1 (start N vs) H _ I hq) (λfl s' hs=>?_) λe s' hs=>hs
 have fin:∀{σ':St} {H':Hp} {v:V} {u:Value},Inv (J3 CX P w K mg base N qual scope f bd A outer s H E) [] σ' H' s'->RelV v u->Q v H'->CE outer P w H s Q u s':=
  fun {σ' H' v u} J rv q=>⟨v,H',J.os,J.bare,J.base,J.hok,rv,q⟩
 cases fl with
 |ret u=>
  obtain⟨v,σ',H',J,rv,q⟩:=hs;exact fin J rv q
 |next=>
  obtain⟨σ',H',J,q⟩:=hs;exact fin (v:=V.non) (u:=Value.none) J rfl q
 |brk=>
  obtain⟨_,_,_,q⟩:=hs;exact False.elim q
 |cont=>
  obtain⟨_,_,_,q⟩:=hs;exact False.elim q
section
variable {X:Cx}{x:Str}{p pos:Pos}{e:Expr}{es:List Expr}{t:TA}{id T:String}{r:List V->Hp->VK->Prop}
abbrev tCB(r:List V->Hp->VK->Prop)(t:TA):TE:=fun σ H Q=>t σ H λvs H1=>r vs H1 Q
theorem kjm(hc:CallR X (.builtin id) r)(hg:Gl X x)(hm:X.mg x=none)(hv:bootBuiltins x=some (.builtin id))(ha:PA X (e::es) t)(hn:autoParam (x≠"__name__") ŕ)(dq:autoParam ((x==("__debug__":Str))=false) ŕ)
  (he:autoParam (starEach (e::es) X.env=(false,eval e X.env)::starEach es X.env) Ŕ) (bg:autoParam ((backTo pos (starEach es X.env)).any (·.1)=false) Ŕ):PE X (.Call (.Name x p) (e::es) [] pos) (tCB r t):=by
 intro pins s σ H Q I h;refine wpAny_Call_Name_kw (QY I hg hm hv ?_ hn dq);exact PyProof.Rows.callWith_builtin1 (thn (ha pos pins s σ H _ I h) λus s1 ⟨vs,H1,I1,r1,q1⟩=>hc pins s1 σ H1 vs us Q I1 r1 q1) he bg
theorem kxy(hc:CallR X (.type T) r)(hg:Gl X x)(hm:X.mg x=none)(hv:bootBuiltins x=some (.type T))(ha:PA X (e::es) t)(hn:autoParam (x≠"__name__") ŕ)(dq:autoParam ((x==("__debug__":Str))=false) ŕ)
  (he:autoParam (starEach (e::es) X.env=(false,eval e X.env)::starEach es X.env) Ŕ) (bg:autoParam ((backTo pos (starEach es X.env)).any (·.1)=false) Ŕ):PE X (.Call (.Name x p) (e::es) [] pos) (tCB r t):=by
 intro pins s σ H Q I h;refine wpAny_Call_Name_kw (QY I hg hm hv ?_ hn dq);exact Yb (thn (ha pos pins s σ H _ I h) λus s1 ⟨vs,H1,I1,r1,q1⟩=>hc pins s1 σ H1 vs us Q I1 r1 q1) he bg
end
end L2
namespace HT
open PySem PyProof.Rows
section
variable {prog:Program}{w:World}{A:Around}{E:Value->Shared->Prop}{s:Shared}
theorem cat_tup{t b:Addr}{vs ws:List Value}{Q:Value->Shared->Prop}(ht:IsTup s.heap t vs.toArray)(hb:IsTup s.heap b ws.toArray)(hv:vs≠[])
  (h1:ws=[]->Q (.ref t) s) (h2:ws≠[]->Q (.ref s.heap.objs.size) { s with heap:=s.heap.push { cls:=.type "tuple",data:=.seq (vs++ws).toArray } })
  (hsz:vs.length+ws.length<=sizeLine):wpAny (model prog w) A (binaryOp .Add (.ref t) (.ref b)) Q E s:=by
 obtain⟨⟨cls,dd,data,sl⟩,ho,hc,n,hd⟩:=id ht;obtain⟨⟨cls2,dd2,data2,lh⟩,fi,jf,n2,i9⟩:=id hb;simp only at hc hd jf i9;subst hc hd jf i9;have e:vs.toArray++ws.toArray=(vs++ws).toArray:=by simp
 by_cases hw:ws=[]
 ·exact concat_meets ⟨_,ho,rfl⟩ ⟨_,fi,rfl⟩ noFill_tuple_add seq_tuple_add PySem.F.slot_tuple_add PySem.F.entry_tuple_add (PySem.F.args_tuple_add_2 _ _)
   (tuple_addW1 t b vs.toArray ws.toArray n n2 dd dd2 sl lh (by simpa using hv) (by simp[hw])) ⟨ho,fi,h1 hw⟩
 ·refine concat_meets ⟨_,ho,rfl⟩ ⟨_,fi,rfl⟩ noFill_tuple_add seq_tuple_add PySem.F.slot_tuple_add PySem.F.entry_tuple_add (PySem.F.args_tuple_add_2 _ _)
   (tuple_addW2 t b vs.toArray ws.toArray n n2 dd dd2 sl lh (by simpa using hv) (by simpa using hw) (by rw[X4,X4];exact hsz)) ⟨ho,fi,?_⟩
  rw[e];exact h2 hw
def sIx(n d:Nat):Option Int->Nat
 |none=>d
 |some v=>if v<0 then(v+(n:Int)).toNat else min v.toNat n
theorem qxy(n d:Nat)(hd:d<=n)(o:Option Int):sIx n d o<=n:=by
 cases o with
 |none=>exact hd
 |some v=>
  show(if v<0 then(v+(n:Int)).toNat else min v.toNat n)<=n
  by_cases hv:v<0
  ·rw[Xb hv];omega
  ·rw[Xj hv];exact Nat.min_le_right _ _
theorem qj3(v:Int)(n d:Nat):(if v<0 then max (v+(n:Int)) 0 else min v (n:Int))=((sIx n d (some v):Nat):Int):=by
 show(if v<0 then max (v+(n:Int)) 0 else min v (n:Int))=(((if v<0 then(v+(n:Int)).toNat else min v.toNat n):Nat):Int)
 by_cases hv:v<0
 ·simp only[Xb hv];omega
 ·simp only[Xj hv];omega
theorem kwq(lo hi:Option Int)(n:Nat):Builtin.Slice.sliceAdjust lo hi 1 (n:Int)=(((sIx n 0 lo:Nat):Int),((sIx n n hi:Nat):Int)):=by
 have h1:¬((1:Int)<0):=by omega
 unfold Builtin.Slice.sliceAdjust;simp only[h1,if_false];refine Prod.ext ?_ ?_
 ·cases lo with
  |none=>rfl
  |some v=>exact qj3 v n 0
 ·cases hi with
  |none=>rfl
  |some v=>exact qj3 v n n
theorem kwf(i j:Nat):Builtin.Slice.slicePlaces (i:Int) (j:Int) 1=j - i:=by
 unfold Builtin.Slice.slicePlaces;have h1:(1:Int)>0:=by omega
 simp only[h1,if_true,Int.ediv_one]
 split<;>omega
theorem jzp{v:Value}{o:Option Int}{Q:Option Int->Shared->Prop}(p:IsPart v o)(h:Q o s):wpAny (model prog w) A (Builtin.Slice.slicePartIndex v) Q E s:=by
 cases p with
 |none=>exact slicePart_none h
 |int i t=>exact slicePart_int h
theorem jxb{sl:Addr}{vl vu:Value}{lo hi:Option Int}{n:Nat}{Q:Int×Int×Nat->Shared->Prop}(hs:s.heap.IsSliceOf sl vl vu .none)(pl:IsPart vl lo)(pu:IsPart vu hi)
  (h:Q (((sIx n 0 lo:Nat):Int),1,sIx n n hi - sIx n 0 lo) s):wpAny (model prog w) A (Builtin.Slice.sliceApplied (.ref sl) (pure (n:Int))) Q E s:=by
 obtain⟨os,m8,cb,bp⟩:=id hs;unfold Builtin.Slice.sliceApplied Builtin.Slice.sliceFields;refine X0 (X0 (Xq m8 bp (x:=vl) rfl (X0 (Xq m8 bp (x:=vu) rfl (X0 (Xq m8 bp (x:=.none) rfl (X9 ?_)))))));refine X0 (slicePart_none ?_);show wpAny _ _ (if((1:Int)==0)=true then _ else _) _ _ s;rw[Xj (by decide)];refine X0 (jzp pl (X0 (jzp pu (X0 (X9 ?_)))));show wpAny _ _ (match Builtin.Slice.sliceAdjust lo hi 1 (n:Int)with|(lo,hi)=>pure (lo,(1:Int),Builtin.Slice.slicePlaces lo hi 1)) _ _ s;rw[kwq lo hi n];show wpAny _ _ (pure (((sIx n 0 lo:Nat):Int),(1:Int),Builtin.Slice.slicePlaces ((sIx n 0 lo:Nat):Int) ((sIx n n hi:Nat):Int) 1)) _ _ s;rw[kwf];exact X9 h
theorem qk0(xs:Array Value)(i k:Nat):((List.range k).filterMap λ(m:Nat)=>xs[((i:Int)+(m:Int)*1).toNat]?).toArray=((xs.toList.drop i).take k).toArray:=by
 have e:(λ(m:Nat)=>xs[((i:Int)+(m:Int)*1).toNat]?)=λm=>xs[i+m]?:=by
  funext m;have:((i:Int)+(m:Int)*1).toNat=i+m:=by omega
  rw[this]
 rw[e];have:=pick_run xs i k;rw[List.filterMap_map]at this;have e2:((λx=>xs[x]?)∘λx=>i+x)=λm=>xs[i+m]?:=rfl
 rw[e2]at this;rw[this]
theorem getItem_tuple_cut{t sl:Addr}{items:Array Value}{vl vu:Value}{lo hi:Option Int}{Q:Value->Shared->Prop}(ht:IsTup s.heap t items)(hs:s.heap.IsSliceOf sl vl vu .none)(pl:IsPart vl lo)(pu:IsPart vu hi)
  (hw:¬(sIx items.size 0 lo=0/\sIx items.size items.size hi=items.size))
  (h:Q (.ref s.heap.objs.size) { s with heap:=s.heap.push { cls:=.type "tuple",data:=.seq ((items.toList.drop (sIx items.size 0 lo)).take (sIx items.size items.size hi - sIx items.size 0 lo)).toArray } })
  (hsz:items.size<=sizeLine):wpAny (model prog w) A (getItem (.ref t) (.ref sl)) Q E s:=by
 have fj:sizeOk (.seq ((items.toList.drop (sIx items.size 0 lo)).take (sIx items.size items.size hi - sIx items.size 0 lo)).toArray):=by
  show((items.toList.drop (sIx items.size 0 lo)).take (sIx items.size items.size hi - sIx items.size 0 lo)).toArray.size<=sizeLine;rw[X4,List.length_take,Ym,Yc];omega
 have hj:sIx items.size items.size hi<=items.size:=qxy _ _ (X8 _) hi;obtain⟨os,m8,cb,bp⟩:=id hs;have hTs:s.TypeIs (.ref sl) "slice":=⟨os,m8,cb⟩;unfold getItem
 try with_reducible refine wpAny_holding ?_
 first|refine X0 (X9 ?_)|skip
 refine X0 (wpAny_sequenceKey ht.typeIs (by decide) ?_);refine X0 (Yi (name:=Str.ofString "__getitem__") ht.typeIs PyProof.Rows.slot_tuple_getitem
  (Yg PyProof.Rows.slot_tuple_getitem ht.typeIs entry_tuple_getitem ?_ (args_tuple_getitem _ _)))
 show wpAny _ _ (Builtin.Tuple.tupleItemsOf (.ref t) >>= _) _ _ s;refine X0 (tupleItemsOf_ ht ?_);refine X0 (wpAny_typeOf hTs ?_);rw[Xb (by decide)];refine X0 (jxb hs pl pu ?_);have i6:¬((((sIx items.size 0 lo:Nat):Int)==0&&(1:Int)==1&&(sIx items.size items.size hi - sIx items.size 0 lo)==items.size)=true):=by
  intro q;rw[Bool.and_eq_true,Bool.and_eq_true]at q;have q1:((sIx items.size 0 lo:Nat):Int)=0:=eq_of_beq q.1.1;have q2:sIx items.size items.size hi - sIx items.size 0 lo=items.size:=eq_of_beq q.2;exact hw ⟨by omega,by omega⟩
 show wpAny _ _ (if(((sIx items.size 0 lo:Nat):Int)==0&&(1:Int)==1&&(sIx items.size items.size hi - sIx items.size 0 lo)==items.size)=true then _ else _) _ _ s;rw[Xj i6,qk0]
 first
  |exact X0 (m:=Builtin.Tuple.tupleExact _) (Y2 (X9 ⟨_,rfl,X9 h⟩) fj)
  |exact X0 (m:=Builtin.Tuple.tupleExact _) (Y2 (X0 (X9 (X9 ⟨_,rfl,X9 h⟩))) fj)
  |exact X0 (X0 (m:=Builtin.Tuple.tupleExact _) (Y2 (X9 (X9 ⟨_,rfl,X9 h⟩)) fj))
  |exact X0 (X0 (m:=Builtin.Tuple.tupleExact _) (Y2 (X9 ⟨_,rfl,X9 h⟩) fj))
end
end HT
namespace L2
open PySem PySem.Spec PyProof.Rows
abbrev TO:=St->Hp->(Option Int->Hp->Prop)->Prop
noncomputable def PO(X:Cx)(e:Option Expr)(t:TO):Prop:=
 ∀(pins:List (Addr×Obj)) (s:Shared) (σ:St) (H:Hp) (Q:Option Int->Hp->Prop),Inv X pins σ H s->t σ H Q ->
  wpAny (model X.prog X.w) X.A (evalPart e X.env) (λu s'=>∃o H',Inv X pins σ H' s'/\IsPart u o/\Q o H') X.xe s
abbrev kwz:TO:=λ_ H Q=>Q none H
abbrev qxn(t:TE):TO:=fun σ H Q=>t σ H λx H1=>∃i,x=.int i/\Q (some i) H1
section
variable {X:Cx}{e:Expr}{te:TE}{lo hi:Option Expr}{tl th:TO}{pos p2:Pos}
theorem qvv:PO X none kwz:=by
 intro pins s σ H Q I h;rw[evalPart_none];exact X9 ⟨none,H,I,.none,h⟩
theorem qvt(h:PE X e te):PO X (some e) (qxn te):=by
 intro pins s σ H Q I hw;rw[evalPart_some];refine thn (h pins s σ H _ I hw) λu s1 ⟨x,H1,I1,r1,q1⟩=>?_
 obtain⟨i,rfl,q⟩:=q1;obtain⟨t,rfl⟩:=r1;exact⟨some i,H1,I1,.int i t,q⟩
noncomputable def SlR(X:Cx)(r:V->Option Int->Option Int->Hp->VK->Prop):Prop:=
 ∀(pins:List (Addr×Obj)) (s:Shared) (σ:St) (H:Hp) (x:V) (v vl vu:Value) (lo hi:Option Int) (sl:Addr) (Q:VK),Inv X pins σ H s->RelV x v->s.heap.IsSliceOf sl vl vu .none->IsPart vl lo->IsPart vu hi->r x lo hi H Q ->
  ∃T id,typeLookup (.type T) "__getitem__"=pure (some (.builtin id))/\s.TypeIs v T/\wpAny (model X.prog X.w) X.A (getItem v (.ref sl)) (EP X pins σ Q) X.xe s
theorem SlR.or{r r':V->Option Int->Option Int->Hp->VK->Prop}(h:SlR X r)(h':SlR X r'):SlR X (λx lo hi H Q=>r x lo hi H Q\/r' x lo hi H Q):=by
 intro pins s σ H x v vl vu lo hi sl Q I rx hs pl pu q;rcases q with q|q
 ·exact h pins s σ H x v vl vu lo hi sl Q I rx hs pl pu q
 ·exact h' pins s σ H x v vl vu lo hi sl Q I rx hs pl pu q
abbrev tSl(r:V->Option Int->Option Int->Hp->VK->Prop)(te:TE)(tl th:TO):TE:=fun σ H Q=>te σ H λx H1=>tl σ H1 λl H2=>th σ H2 λu H3=>r x l u H3 Q
theorem qk1{r:V->Option Int->Option Int->Hp->VK->Prop}(hr:SlR X r)(he:PE X e te)(hl:PO X lo tl)(hu:PO X hi th):PE X (.Subscript e (.Slice lo hi none p2) pos) (tSl r te tl th):=by
 intro pins s σ H Q I h;refine Subscript_ (thn (he pins s σ H _ I h) λv s1 ⟨x,H1,I1,r1,q1⟩=>?_);refine wpAny_Slice (thn (hl pins s1 σ H1 _ I1 q1) λvl s2 ⟨l,H2,I2,pl,q2⟩=>thn (hu pins s2 σ H2 _ I2 q2) λvu s3 ⟨u,H3,I3,pu,q3⟩=>?_);rw[evalPart_none];refine X9 ?_;have I4:Inv X pins σ H3 { s3 with heap:=s3.heap.push { cls:=.type "slice",data:=.fields #[vl,vu,.none] } }:=I3.kept (t':=s3.toks) λb ob q=>X2 _ q
 obtain⟨T,id,hT,ht,hg⟩:=hr pins { s3 with heap:=s3.heap.push { cls:=.type "slice",data:=.fields #[vl,vu,.none] } } σ H3 x v vl vu l u s3.heap.objs.size Q I4 r1 (Heap.IsSliceOf.new ..) pl pu q3;show wpAny (model X.prog X.w) X.A (subscriptTail e (.Slice lo hi none p2) v (.ref s3.heap.objs.size)) (EP X pins σ Q) X.xe { s3 with heap:=s3.heap.push { cls:=.type "slice",data:=.fields #[vl,vu,.none] } };exact tail_any (ops:=[.ref s3.heap.objs.size,v]) ht hT hg (by with_unfolding_all rfl)
noncomputable def Kq(xs:List V)(lo hi:Option Int):List V:=(xs.drop (HT.sIx xs.length 0 lo)).take (HT.sIx xs.length xs.length hi - HT.sIx xs.length 0 lo)
theorem jz7(xs:List V)(lo hi:Option Int):(Kq xs lo hi).length<=xs.length:=by
 unfold Kq;rw[List.length_take,Ym];omega
noncomputable def vvv(K:PySem.W.Frag):V->Option Int->Option Int->Hp->VK->Prop:=λx lo hi H Q=>∃a xs,x=.ref a/\SqT K H a xs /\
 ¬(HT.sIx xs.length 0 lo=0/\HT.sIx xs.length xs.length hi=xs.length)/\∀p,H p=none->Q (.ref p) (upd H p (.tup (Kq xs lo hi)))
theorem sl_tup:SlR X (vvv X.K):=by
 intro pins s σ H x v vl vu lo hi sl Q I rx hs pl pu h;obtain⟨a,xs,rfl,hx,hw,q⟩:=h;cases rx;obtain⟨aa,r,ht,hz⟩:=I.tuple hx;have ag:aa.toArray.size=xs.length:=by rw[X4];exact r.length.symm
 refine⟨"tuple",_,PyProof.Rows.slot_tuple_getitem.lookup,ht.typeIs,?_⟩;refine HT.getItem_tuple_cut ht hs pl pu (by rw[ag];exact hw) ?_ (by rw[ag];exact hz);rw[ag];refine⟨.ref s.heap.objs.size,_,I.laid (t':=s.toks) (o:=.tup (Kq xs lo hi)) (λb ob q=>X2 _ q) (X8 _) ?_,rfl,q _ (I.hok.fresh (X8 _))⟩;exact⟨Y1 (jz7 xs lo hi) hz,_,(r.drop (HT.sIx xs.length 0 lo)).take (HT.sIx xs.length xs.length hi - HT.sIx xs.length 0 lo),IsTupD.new _ _⟩
noncomputable def qza(K:PySem.W.Frag):R2:=λx y H Q=>∃a b xs ys,x=.ref a/\y=.ref b/\SqT K H a xs/\SqT K H b ys/\xs≠[]/\xs.length+ys.length<=sizeLine /\
 (ys=[]->Q (.ref a) H)/\(ys≠[]->∀p,H p=none->Q (.ref p) (upd H p (.tup (xs++ys))))
theorem Vals.nil_iff{xs:List V}{us:List Value}(r:Vals xs us):us=[]↔xs=[]:=by
 cases r with
 |nil=>simp
 |cons _ _=>simp
theorem qw7:OpR X (binaryOp .Add) (qza X.K):=by
 intro pins s σ H x y v u Q I rx ry h;obtain⟨a,b,xs,ys,rfl,rfl,ha,hb,hx,hz,q1,q2⟩:=h;cases rx;cases ry;obtain⟨aa,r1,p1,_⟩:=I.tuple ha;obtain⟨br,r2,p2,_⟩:=I.tuple hb;refine HT.cat_tup p1 p2 (λz=>hx (r1.nil_iff.mp z)) (λz=>⟨.ref a,H,I,rfl,q1 (r2.nil_iff.mp z)⟩) (λz=>?_) (by rw[<-r1.length,<-r2.length];exact hz);refine⟨.ref s.heap.objs.size,_,I.laid (t':=s.toks) (o:=.tup (xs++ys)) (λb ob q=>X2 _ q) (X8 _) ?_,rfl,q2 (λw=>z (r2.nil_iff.mpr w)) _ (I.hok.fresh (X8 _))⟩;exact⟨by rw[Xi];exact hz,_,r1.append r2,IsTupD.new _ _⟩
end
noncomputable def ixN(n:Nat)(i:Int):Option Nat:=if 0<=i then(if i<n then some i.toNat else none)else if -(n:Int)<=i then some (i+n).toNat else none
def atI{α:Type}(xs:List α)(i:Int):Option α:=(ixN xs.length i).bind λj=>xs[j]?
theorem kzm{n:Nat}{i:Int}{j:Nat}(h:ixN n i=some j):seqIndex? i n=some j/\j<n/\-(n:Int)<=i/\i<n:=by
 unfold ixN at h
 by_cases h0:0<=i
 ·rw[Xb h0]at h
  by_cases h1:i<n
  ·rw[Xb h1]at h;have e:i.toNat=j:=oq9 h;exact⟨by rw[seqIndex_of h0 h1,e],by omega,by omega,h1⟩
  ·rw[Xj h1]at h;cases h
 ·rw[Xj h0]at h
  by_cases h1:-(n:Int)<=i
  ·rw[Xb h1]at h;have e:(i+n).toNat=j:=oq9 h;exact⟨by rw[seqIndex_neg (by omega) h1,e],by omega,h1,by omega⟩
  ·rw[Xj h1]at h;cases h
theorem kv4{α:Type}{xs:List α}{i:Int}{v:α}(h:atI xs i=some v):∃j,seqIndex? i xs.length=some j/\xs[j]?=some v/\j<xs.length/\-(xs.length:Int)<=i/\i<xs.length:=by
 unfold atI at h;cases e:ixN xs.length i with
 |none=>rw[e]at h;cases h
 |some j=>
  rw[e]at h;obtain⟨h1,h2,h3,h4⟩:=kzm e;exact⟨j,h1,h,h2,h3,h4⟩
def Vq(b:Expr):Prop:=∀o i,subscripted b false o i=operate [o,i] (getItem o i)
noncomputable def IxR(X:Cx)(r:R2):Prop:=
 ∀(value slice:Expr) (pins:List (Addr×Obj)) (s:Shared) (σ:St) (H:Hp) (x y:V) (v u:Value) (Q:VK),Inv X pins σ H s->RelV x v->RelV y u->r x y H Q ->
  subscripted slice false v u=operate [v,u] (getItem v u)->wpAny (model X.prog X.w) X.A (subscriptTail value slice v u) (EP X pins σ Q) X.xe s
noncomputable def MtR(X:Cx)(id:String)(r:V->List V->Hp->VK->Prop):Prop:=
 ∀(pins:List (Addr×Obj)) (s:Shared) (σ:St) (H:Hp) (x:V) (xs:List V) (v:Value) (us:List Value) (Q:VK),Inv X pins σ H s->RelV x v->Vals xs us->r x xs H Q ->
  wpAny (model X.prog X.w) X.A (call (.builtin id) (v::us)) (EP X pins σ Q) X.xe s
section
variable {X:Cx}{a b:Expr}{ta tb:TE}{pos:Pos}
theorem IxR.or{r r':R2}(h:IxR X r)(h':IxR X r'):IxR X (λx y H Q=>r x y H Q\/r' x y H Q):=by
 intro value slice pins s σ H x y v u Q I rx ry q hs;rcases q with q|q
 ·exact h value slice pins s σ H x y v u Q I rx ry q hs
 ·exact h' value slice pins s σ H x y v u Q I rx ry q hs
theorem qk2{r:R2}(hr:IxR X r)(ha:PE X a ta)(hb:PE X b tb)(hs:Vq b):PE X (.Subscript a b pos) (tOp r ta tb):=by
 intro pins s σ H Q I h;exact Subscript_ (vvh ha hb I h λv u s2 x y H2 I2 rx ry q=>hr a b pins s2 σ H2 x y v u Q I2 rx ry q (hs _ _))
def vw1(K:PySem.W.Frag):R2:=λx y H Q=>∃p xs i v,x=.ref p/\y=.int i/\SqL K H p xs/\atI xs i=some v/\Q v H
def vvz(K:PySem.W.Frag):R2:=λx y H Q=>∃p xs i v,x=.ref p/\y=.int i/\SqT K H p xs/\atI xs i=some v/\Q v H
noncomputable def vw0:R2:=λx y H Q=>∃z i c,x=.str z/\y=.int i/\z.length<=sizeLine/\atI z.cps.toList i=some c/\Q (.str ⟨#[c]⟩) H
theorem ix_list:IxR X (vw1 X.K):=by
 intro value slice pins s σ H x y v u Q I rx ry h hs;obtain⟨p,xs,i,z,rfl,rfl,hq,he,q⟩:=h;cases rx;obtain⟨t,rfl⟩:=ry;obtain⟨aa,r,pl,hz⟩:=I.list hq;obtain⟨j,h1,h2,h3,h4,h5⟩:=kv4 he;obtain⟨w,ew,ku⟩:=r.get h2;have hl:=r.length;have hn:=Wx;have fin:EP X pins σ Q w s:=⟨z,H,I,ku,q⟩
 by_cases h0:0<=i
 ·have hj:i.toNat=j:=by
   rw[seqIndex_of h0 h5]at h1;exact oq9 h1
  exact item_listR pl.isList h0 (by omega) (by rw[hj];simpa using ew) fin hs
 ·have hj:(i+(aa.toArray.size:Int)).toNat=j:=by
   rw[seqIndex_neg (by omega) h4]at h1;rw[X4,<-hl];exact oq9 h1
  exact subscriptTail_builtinR (x:=w) pl.isList.typeIs slot_list_getitem.lookup
   (wpAny_getItem_list_neg (Q:=λr s'=>r=w/\EP X pins σ Q r s') pl.isList (by omega) (by rw[X4]<;>omega) (by omega) (by rw[hj];simpa using ew) ⟨rfl,fin⟩) hs
theorem ix_tup:IxR X (vvz X.K):=by
 intro value slice pins s σ H x y v u Q I rx ry h hs;obtain⟨p,xs,i,z,rfl,rfl,hq,he,q⟩:=h;cases rx;obtain⟨t,rfl⟩:=ry;obtain⟨aa,r,pl,hz⟩:=I.tuple hq;obtain⟨j,h1,h2,h3,h4,h5⟩:=kv4 he;obtain⟨w,ew,ku⟩:=r.get h2;have hl:=r.length;have hn:=Wx;have fin:EP X pins σ Q w s:=⟨z,H,I,ku,q⟩;exact subscriptTail_builtinR (x:=w) pl.typeIs slot_tuple_getitem.lookup
  (getItem_tuple (j:=j) (Q:=λr s'=>r=w/\EP X pins σ Q r s') pl (by omega) (by omega) (by rw[X4,<-hl];exact h1) (by simpa using ew) ⟨rfl,fin⟩) hs
theorem kvt:IxR X vw0:=by
 intro value slice pins s σ H x y v u Q I rx ry h hs;obtain⟨z,i,c,rfl,rfl,hz,he,q⟩:=h;obtain⟨t,rfl⟩:=rx;obtain⟨t',rfl⟩:=ry;obtain⟨j,h1,h2,h3,h4,h5⟩:=kv4 he;have hl:z.cps.toList.length=z.length:=by simp[Str.length]
 rw[hl]at h1 h4 h5;have hn:=Wx;exact tail_any (typeIs_str s z t) slot_str_getitem.lookup (getItem_str (c:=c) (by
  have e1:decide (i < -(2 ^ 63:Int))=false:=Y9 (by omega);have e2:decide (i>=2 ^ 63)=false:=Y9 (by omega);rw[e1,e2,Bool.or_false]) (by rw[h1];simpa using h2) ⟨.str ⟨#[c]⟩,H,I.tok _,⟨_,rfl⟩,q⟩) hs
def rIx(K:PySem.W.Frag):R2:=λx y H Q=>vw1 K x y H Q\/vvz K x y H Q\/vw0 x y H Q
theorem kvu:IxR X (rIx X.K):=ix_list.or (ix_tup.or kvt)
theorem kke(lo hi:Option Int)(n:Nat):(sliceBounds lo hi none n).1=((HT.sIx n 0 lo:Nat):Int)/\(sliceBounds lo hi none n).2.1=((HT.sIx n n hi:Nat):Int)/\(sliceBounds lo hi none n).2.2=1:=by
 refine⟨?_,?_,rfl⟩
 ·cases lo with
  |none=>simp[sliceBounds,HT.sIx]
  |some i=>
   simp only[sliceBounds,HT.sIx,Option.getD_none,show(1:Int)>0 by decide,if_true]
   by_cases h:i<0
   ·simp only[h,if_true]<;>omega
   ·simp only[h,if_false]<;>omega
 ·cases hi with
  |none=>simp[sliceBounds,HT.sIx]
  |some i=>
   simp only[sliceBounds,HT.sIx,Option.getD_none,show(1:Int)>0 by decide,if_true]
   by_cases h:i<0
   ·simp only[h,if_true]<;>omega
   ·simp only[h,if_false]<;>omega
theorem kjc(aa:List Value)(lo hi:Option Int):slicePick aa.toArray lo hi none=((aa.drop (HT.sIx aa.length 0 lo)).take (HT.sIx aa.length aa.length hi - HT.sIx aa.length 0 lo)).toArray:=by
 obtain⟨h1,h2,h3⟩:=kke lo hi aa.toArray.size;unfold slicePick;rw[h1,h2,h3];simp only[sliceRange_one,pick_run,X4]<;>rfl
noncomputable def vvx(K:PySem.W.Frag):V->Option Int->Option Int->Hp->VK->Prop:=λx lo hi H Q=>∃a xs,x=.ref a/\SqL K H a xs/\∀p,H p=none->Q (.ref p) (upd H p (.lst (Kq xs lo hi)))
theorem sl_list:SlR X (vvx X.K):=by
 intro pins s σ H x v vl vu lo hi sl Q I rx hs pl pu h;obtain⟨a,xs,rfl,hx,q⟩:=h;cases rx;obtain⟨aa,r,ht,hz⟩:=I.list hx;have ag:=r.length;refine⟨"list",_,slot_list_getitem.lookup,ht.isList.typeIs,?_⟩;refine wpAny_getItem_list_slice ht.isList hs pl pu .none (by simp) ?_ (by rw[X4]<;>omega);rw[kjc,<-ag];refine⟨.ref s.heap.objs.size,_,I.laid (t':=s.toks) (o:=.lst (Kq xs lo hi)) (λb ob q=>X2 _ q) (X8 _) ?_,rfl,q _ (I.hok.fresh (X8 _))⟩;exact⟨Y1 (jz7 xs lo hi) hz,_,0,(r.drop (HT.sIx xs.length 0 lo)).take (HT.sIx xs.length xs.length hi - HT.sIx xs.length 0 lo),Xd _ rfl⟩
theorem kkq:OpR X (compareOp .NotIn) (λx y H Q=>∃i j,x=.str i/\y=.str j/\Q (.bl (!(!(Builtin.Str.occurrences j i 0 j.length 1).isEmpty))) H):=by
 intro pins s σ H x y v u Q I rx ry h;obtain⟨i,j,rfl,rfl,q⟩:=h;obtain⟨t,rfl⟩:=rx;obtain⟨t',rfl⟩:=ry;exact notIn_str ⟨.bl _,H,I,rfl,q⟩
theorem call_len_seq:CallR X (.builtin "len") (λxs H Q=>∃p ys,xs=[.ref p]/\(SqL X.K H p ys\/SqT X.K H p ys)/\Q (.int ys.length) H):=by
 intro pins s σ H xs us Q I r h;obtain⟨p,ys,rfl,hq,q⟩:=h;obtain⟨u,rfl,rx⟩:=K1 r;cases rx;have hn:=Wx;rcases hq with hq|hq
 ·obtain⟨aa,r',pl,hz⟩:=I.list hq;have ag:=r'.length;exact Calls.call_len_list pl.isList (by simp only[X4]<;>omega) ⟨.int ys.length,H,I.tok _,⟨s.toks+1,by rw[X4,ag]⟩,q⟩
 ·obtain⟨aa,r',pl,hz⟩:=I.tuple hq;have ag:=r'.length;exact len_tuple pl (by simp only[X4]<;>omega) ⟨.int ys.length,H,I.tok _,⟨s.toks+1,by rw[X4,ag]⟩,q⟩
theorem call_len_str:CallR X (.builtin "len") (λxs H Q=>∃z,xs=[.str z]/\z.length<=sizeLine/\Q (.int z.length) H):=by
 intro pins s σ H xs us Q I r h;obtain⟨z,rfl,hz,q⟩:=h;obtain⟨u,rfl,t,rfl⟩:=K1 r;have hn:=Wx;exact len_str (by omega) ⟨.int z.length,H,I.tok _,⟨_,rfl⟩,q⟩
theorem CallR.or{f:Value}{r r':List V->Hp->VK->Prop}(h:CallR X f r)(h':CallR X f r'):CallR X f (λxs H Q=>r xs H Q\/r' xs H Q):=by
 intro pins s σ H xs us Q I rs q;rcases q with q|q
 ·exact h pins s σ H xs us Q I rs q
 ·exact h' pins s σ H xs us Q I rs q
theorem kq9:CallR X (.type "list") (λxs H Q=>∃p ys,xs=[.ref p]/\(SqL X.K H p ys\/SqT X.K H p ys)/\∀l,H l=none->Q (.ref l) (upd H l (.lst ys))):=by
 intro pins s σ H xs us Q I r h;obtain⟨p,ys,rfl,hq,q⟩:=h;obtain⟨u,rfl,rx⟩:=K1 r;cases rx;have fin:∀(aa:List Value),Vals ys aa->ys.length<=sizeLine->∀(h':Heap) (c':Nat),(∀b o',s.heap.get? b=some o'->h'.get? b=some o') ->
   h'.get? s.heap.objs.size=some { cls:=.type "list",dict:=none,data:=.seq aa.toArray c',slots:=#[] }->EP X pins σ Q (.ref s.heap.objs.size) { s with heap:=h' }:=λaa r' hz h' c' kp e=>
  ⟨.ref s.heap.objs.size,_,I.laid (t':=s.toks) kp (X8 _) (show ObjOk X.prog X.w _ h' _ (.lst ys)from⟨hz,aa,c',r',e⟩),rfl,q _ (I.hok.fresh (X8 _))⟩
 rcases hq with hq|hq
 ·obtain⟨aa,r',pl,hz⟩:=I.list hq;have ag:=r'.length;obtain⟨o,ho,hc,n,hd⟩:=pl.isList;exact call_list_seq p (.inl rfl) ho hc hd (λh' c' kp e=>fin aa r' hz h' c' kp e) (by simp only[X4]<;>omega)
 ·obtain⟨aa,r',pl,hz⟩:=I.tuple hq;have ag:=r'.length;obtain⟨o,ho,hc,n,hd⟩:=pl;exact call_list_seq p (.inr rfl) ho hc hd (λh' c' kp e=>fin aa r' hz h' c' kp e) (by simp only[X4]<;>omega)
theorem kk3:CallR X (.type "tuple") (λxs H Q=>∃p ys,xs=[.ref p]/\((SqL X.K H p ys/\∀l,H l=none->Q (.ref l) (upd H l (.tup ys)))\/(SqT X.K H p ys/\Q (.ref p) H))):=by
 intro pins s σ H xs us Q I r h;obtain⟨p,ys,rfl,h⟩:=h;obtain⟨u,rfl,rx⟩:=K1 r;cases rx;rcases h with⟨hq,q⟩|⟨hq,q⟩
 ·obtain⟨aa,r',pl,hz⟩:=I.list hq;have ag:=r'.length;refine call_tuple_list pl.isList (λh' kp=>?_) (by simp only[X4]<;>omega);have I1:Inv X pins σ H { s with heap:=h' }:=I.kept (t':=s.toks) kp;have I2:Inv X pins σ (upd H h'.objs.size (.tup ys)) { s with heap:=h'.push { cls:=.type "tuple",data:=.seq aa.toArray } }:=
   I1.laid (t':=s.toks) (λb o e=>X2 _ e) (X8 _) (show ObjOk X.prog X.w _ _ _ (.tup ys)from⟨hz,aa,r',IsTupD.new _ _⟩)
  exact⟨.ref h'.objs.size,_,I2,rfl,q _ (I1.hok.fresh (X8 _))⟩
 ·obtain⟨aa,r',pl,hz⟩:=I.tuple hq;exact call_tuple_same pl ⟨.ref p,H,I,rfl,q⟩
noncomputable def tyV(K : PySem.W.Frag)(T : String)(x : V)(H : Hp): Prop:= match x with
  |.str _=>T = "str"
  |.int _=>T = "int"
  |.ref p=>(T = "list" /\ ∃xs, SqL K H p xs) \/ (T = "tuple" /\ ∃o, K.lookup p = some o /\ o.cls = .type "tuple" /\ o.dict = none) \/
      (T = "dict" /\ ((∃ai, H p = some (.dK ai)) \/ ∃ai, H p = some (.dT ai))) \/ (T = "set" /\ ∃S n, H p = some (.set S n))
  |_=>False
theorem qkw{pins:List (Addr×Obj)}{σ:St}{H:Hp}{s:Shared}{T:String}{x:V}{v:Value}(I:Inv X pins σ H s)(r:RelV x v)(ty:tyV X.K T x H):
  s.TypeIs v T/\∀a,v=.ref a->∃ob,s.heap.get? a=some ob/\ob.dict=none:=by
 cases x with
 | str z=>
  obtain⟨t,rfl⟩:=r;cases(show T="str" from ty);exact⟨typeIs_str s z t,λ_ e=>nomatch e⟩
 | int i=>
  obtain⟨t,rfl⟩:=r;cases(show T="int" from ty);exact⟨typeIs_int s i t,λ_ e=>nomatch e⟩
 | ref p=>
  cases r;rcases ty with⟨rfl,xs,hq⟩|⟨rfl,o,hk,hc,hd⟩|⟨rfl,hk⟩|⟨rfl,S,n,hk⟩
  ·obtain⟨aa,_,pl,_⟩:=I.list hq;refine⟨pl.isList.typeIs,λa e=>?_⟩;cases e;obtain⟨o,n,e,c,hd,_⟩:=pl;exact⟨o,e,hd⟩
  ·refine⟨⟨o,I.kIn p o hk,hc⟩,λa e=>?_⟩;cases e;exact⟨o,I.kIn _ o hk,hd⟩
  ·have z:∃o,s.heap.get? p=some o/\o.ExactDict:=by
    rcases hk with⟨ai,hk⟩|⟨ai,hk⟩
    ·obtain⟨_,_,_,_,o,_,_,e,ex,_⟩:=I.hok p _ hk;exact⟨o,e,ex⟩
    ·obtain⟨_,_,_,_,o,_,_,e,ex,_⟩:=I.hok p _ hk;exact⟨o,e,ex⟩
   obtain⟨o,e,ex⟩:=z;refine⟨⟨o,e,ex.1⟩,λa e2=>?_⟩;cases e2;exact⟨o,e,ex.2.1⟩
  ·obtain⟨o,_,_,_,e,ex,_⟩:=I.hok p _ hk;refine⟨⟨o,e,ex.1⟩,λa e2=>?_⟩;cases e2;exact⟨o,e,ex.2.1⟩
 |_=>exact False.elim ty
abbrev vvr(K:PySem.W.Frag)(T:String)(r:V->List V->Hp->VK->Prop)(to:TE):TE:=fun σ H Q=>to σ H λx H1=>tyV K T x H1/\r x [] H1 Q
abbrev tBM(K:PySem.W.Frag)(T:String)(r:V->List V->Hp->VK->Prop)(to:TE)(t:TA):TE:=fun σ H Q=>to σ H λx H1=>tyV K T x H1/\t σ H1 λxs H2=>r x xs H2 Q
variable {o e:Expr}{es:List Expr}{to:TE}{t:TA}{name:Str}{aj ab:Pos}{T id:String}{r:V->List V->Hp->VK->Prop}
theorem qzx(pa:PlainAttrs T)(slot:Slot T name id)(ir:typeOf (.builtin id)=pure (.type "method_descriptor"))(hm:MtR X id r)(ho:PE X o to)
  (ax:autoParam (attributeBase o name X.env (eval o X.env)=eval o X.env) Ŕ) (au:autoParam ((aj.endLine==ab.line)=true) Ŕ):PE X (.Call (.Attribute o name aj) [] [] ab) (vvr X.K T r to):=by
 intro pins s σ H Q I h;refine wpAny_Call_method0_late ax au (thn (ho pins s σ H _ I h) λv s1 ⟨x,H1,I1,r1,ty,q1⟩=>?_);obtain⟨h1,h2⟩:=qkw I1 r1 ty;exact⟨T,id,pa,slot,ir,h1,h2,Calls.callWith_builtin rfl (PySem.evalArgs_none (hm pins s1 σ H1 x [] v [] Q I1 r1 .nil q1))⟩
theorem qzy(pa:PlainAttrs T)(slot:Slot T name id)(ir:typeOf (.builtin id)=pure (.type "method_descriptor"))(hm:MtR X id r)(ho:PE X o to)(ha:PA X (e::es) t)
  (ax:autoParam (attributeBase o name X.env (eval o X.env)=eval o X.env) Ŕ)
  (cg:autoParam (((backTo ab (starEach (e::es) X.env)).all (λx=>!x.1)&&(backToKw ab (keywordEach [] X.env)).all (λx=>x.1.isSome)
   && decide ((e::es).length+([]:List Keyword).length+(if([]:List Keyword).isEmpty then 0 else 1)<30))=true) Ŕ)
  (au:autoParam ((aj.endLine==ab.line)=true) Ŕ) (hs:autoParam (starEach (e::es) X.env=(false,eval e X.env)::starEach es X.env) Ŕ) (az:autoParam ((backTo ab (starEach es X.env)).any (·.1)=false) Ŕ):
  PE X (.Call (.Attribute o name aj) (e::es) [] ab) (tBM X.K T r to t):=by
 intro pins s σ H Q I h;refine wpAny_Call_method_late ax cg au rfl (thn (ho pins s σ H _ I h) λv s1 ⟨x,H1,I1,r1,ty,q1⟩=>?_);obtain⟨h1,h2⟩:=qkw I1 r1 ty;refine⟨T,id,pa,slot,ir,h1,h2,?_⟩;have hA:=ha ab pins s1 σ H1 _ I1 q1;rw[hs]at hA ⊢;refine Calls.callWith_builtin (by show(false||(backTo ab (starEach es X.env)).any (·.1))=false;rw[az]<;>rfl) (Calls.evalArgs_plain ?_);exact thn hA λus s2 ⟨vs,H2,I2,r2,q2⟩=>hm pins s2 σ H2 x vs v us Q I2 r1 r2 q2
end
noncomputable def MtM(X:Cx)(id:String)(r:V->List V->Hp->VK->Prop):Prop:=
 ∀(pins:List (Addr×Obj)) (s:Shared) (σ:St) (H:Hp) (x:V) (xs:List V) (v:Value) (us:List Value) (Q:VK),Inv X pins σ H s->RelV x v->Vals xs us->r x xs H Q ->
  wpAny (model X.prog X.w) X.A (call (.builtin id) (v::us)) (EP X pins σ Q) X.xe s
theorem Vals.one:∀{x:V} {us:List Value},Vals [x] us->∃u,us=[u]/\RelV x u
 |_,_,.cons r .nil=>⟨_,rfl,r⟩
theorem Vals.zero:∀{us:List Value},Vals [] us->us=[]
 |_,.nil=>rfl
theorem Vals.eraseIdx:∀{xs:List V} {us:List Value} (i:Nat),Vals xs us->Vals (xs.eraseIdx i) (us.eraseIdx i)
 |_,_,_,.nil=>.nil
 |_,_,0,.cons _ t=>t
 |_,_,i+1,.cons r t=>.cons r (Vals.eraseIdx i t)
theorem Vals.rep{xs:List V}{us:List Value}(h:Vals xs us):∀k:Nat,Vals (List.replicate k xs).flatten (List.replicate k us).flatten
 |0=>.nil
 |k+1=>by
  rw[List.replicate_succ,List.replicate_succ,Yl,Yl];exact Vals.append h (Vals.rep h k)
theorem kkv{α:Type}:∀(l:List α) (i:Nat),(l.eraseIdx i).length<=l.length
 |[],_=>X8 _
 |_::_,0=>Nat.le_succ _
 |_::r,i+1=>Nat.succ_le_succ (kkv r i)
theorem jz3(aa:List Value):∀(k:Nat) (af:List Value),
  List.foldl (λx1 x2=>x1++x2) af.toArray (List.replicate k aa.toArray)=(af++(List.replicate k aa).flatten).toArray
 | 0,af=>by simp
 | k+1,af=>by
  have e:af.toArray++aa.toArray=(af++aa).toArray:=by simp
  have e2:(af++aa)++(List.replicate k aa).flatten=af++(List.replicate (k+1) aa).flatten:=by
   rw[List.replicate_succ,Yl,Xy]
  rw[<-e2,<-jz3 aa k (af++aa),<-e,List.replicate_succ,List.foldl_cons]
section
variable {X:Cx}{pins:List (Addr×Obj)}{σ:St}{H:Hp}{s:Shared}{l b:Addr}{xs ys zs:List V}
theorem Inv.lset{aa its':List Value}{n:Nat}{f:Array Value->Array Value}{t':Nat}(I:Inv X pins σ H s)(hH:H l=some (.lst xs))
  (e:s.heap.get? l=some { cls:=.type "list",data:=.seq aa.toArray n }) (hf:f aa.toArray=its'.toArray) (hv:Vals ys its') (hz:ys.length<=sizeLine):
  Inv X pins σ (upd H l (.lst ys)) { s with heap:=s.heap.update l (Obj.mapSeq f),toks:=t' }:=by
 have q:=PySem.IsL.update e f;rw[hf]at q;refine I.write (x:=l) (e:=l) (by rw[hH];exact trivial) (.inl rfl) (λb' u hb hu=>(Heap.get?_update_other s.heap (Obj.mapSeq f) (Ne.symm hb)).trans hu) ⟨_,q⟩ ?_;exact⟨hz,its',_,hv,q⟩
theorem Inv.lnew{aa:List Value}{t':Nat}(I:Inv X pins σ H s)(hv:Vals ys aa)(hz:ys.length<=sizeLine):
  Inv X pins σ (upd H s.heap.objs.size (.lst ys)) { s with heap:=s.heap.push { cls:=.type "list",data:=.seq aa.toArray },toks:=t' }:=
 I.laid (λ_ _ q=>X2 _ q) (X8 _) ⟨hz,aa,0,hv,Xd _ rfl⟩
theorem Inv.fresh(I:Inv X pins σ H s):H s.heap.objs.size=none:=I.hok.fresh (X8 _)
theorem Inv.lstM(I:Inv X pins σ H s)(hH:H l=some (.lst xs)):xs.length<=sizeLine/\∃(aa:List Value) (n:Nat),Vals xs aa/\xs.length=aa.length/\s.heap.get? l=some { cls:=.type "list",data:=.seq aa.toArray n }:=by
 obtain⟨z,aa,n,r,e⟩:=I.hok l _ hH;exact⟨z,aa,n,r,r.length,e⟩
theorem qk7{n:Nat}(h:n<=sizeLine):Builtin.List.listTooLong n=false:=by
 unfold Builtin.List.listTooLong;exact Y9 (by omega)
end
section
variable {X:Cx}
noncomputable def Z0:V->List V->Hp->VK->Prop:=λx vs H Q=>∃l xs y,x=.ref l/\vs=[y]/\H l=some (.lst xs)/\xs.length<sizeLine/\Q .non (upd H l (.lst (xs++[y])))
theorem jwa:MtM X "list.append" Z0:=by
 intro pins s σ H x vs v us Q I rx rv h;obtain⟨l,xs,y,rfl,rfl,hH,hz,q⟩:=h;cases rx;obtain⟨u,rfl,ru⟩:=rv.one;obtain⟨z,aa,n,r,hl,e⟩:=I.lstM hH;refine call_meets F.slot_list_append ⟨_,e,rfl⟩ F.entry_list_append (F.args_list_append_2 _ _) (PySem.list_append l aa.toArray n u (by rw[X4];omega)) ⟨e,?_⟩;refine⟨.non,_,I.lset (its':=aa++[u]) hH e (by simp) (r.append (.cons ru .nil)) ?_,rfl,q⟩;rw[Xi,List.length_singleton];omega
noncomputable def qq1:V->List V->Hp->VK->Prop:=λx vs H Q=>∃l xs i k y,x=.ref l/\vs=[.int i]/\H l=some (.lst xs)/\-(2 ^ 63)<=i/\i<2 ^ 63/\seqIndex? i xs.length=some k/\xs[k]?=some y/\Q y (upd H l (.lst (xs.eraseIdx k)))
theorem qk9:MtM X "list.pop" qq1:=by
 intro pins s σ H x vs v us Q I rx rv h;obtain⟨l,xs,i,k,y,rfl,rfl,hH,h1,h2,hk,hy,q⟩:=h;cases rx;obtain⟨u,rfl,ru⟩:=rv.one;obtain⟨t,rfl⟩:=ru;obtain⟨z,aa,n,r,hl,e⟩:=I.lstM hH;obtain⟨w,hw,ku⟩:=r.get hy;refine call_meets F.slot_list_pop ⟨_,e,rfl⟩ F.entry_list_pop (F.args_list_pop_2 _ _)
  (MeetsSeq.list_pop_at l aa.toArray n i t k w (fitsIndex_both h1 h2) (by rw[X4,<-hl];exact hk) (by rw[<-Array.getElem?_toList];exact hw) (by rw[X4];omega)) ⟨e,?_⟩
 refine⟨y,_,I.lset (its':=aa.eraseIdx k) hH e ?_ (r.eraseIdx k) ?_,ku,q⟩
 ·show aa.toArray.eraseIdxIfInBounds k=(aa.eraseIdx k).toArray;rw[List.eraseIdxIfInBounds_toArray]
 ·have:=kkv xs k;omega
noncomputable def kxi:V->List V->Hp->VK->Prop:=λx vs H Q=>∃l xs,x=.ref l/\vs=[]/\H l=some (.lst xs)/\Q .non (upd H l (.lst []))
theorem kvn:MtM X "list.clear" kxi:=by
 intro pins s σ H x vs v us Q I rx rv h;obtain⟨l,xs,rfl,rfl,hH,q⟩:=h;cases rx;have hus:=rv.zero;subst hus;obtain⟨z,aa,n,r,hl,e⟩:=I.lstM hH;refine call_meets F.slot_list_clear ⟨_,e,rfl⟩ F.entry_list_clear (F.args_list_clear_1 _) (AutoSeq1.list_clear_list_0 l aa.toArray n (by rw[X4];omega)) ⟨e,?_⟩;exact⟨.non,_,I.lset (its':=[]) (ys:=[]) hH e rfl .nil (Nat.zero_le _),rfl,q⟩
theorem kzg{α:Type}(xs:List α)(k:Nat):(List.replicate k xs).flatten.length=k*xs.length:=by
 induction k with
 |zero=>simp
 |succ k ih=>rw[List.replicate_succ,Yl,Xi,ih,Nat.succ_mul,Nat.add_comm]
end
end L2
namespace Att
open PySem PySem.W PySem.Calls PyProof.Rows
theorem jz2{P:Params}{h:Heap}:∀(ns:List Int) (vs:List Value),WellAll P h vs (ns.map WData.int)->IntsAre vs ns:=by
 intro ns
 induction ns with
 | nil=>
  intro vs w;rw[List.map_nil]at w;cases w;exact .nil
 | cons n ns ih=>
  intro vs w;rw[List.map_cons]at w;cases w with
  |cons a b=>
   cases a;exact .cons _ _ (ih _ b)
theorem script_of{l : OpenLaw}{n : Nat}(hn : l.most = some n){P : Params}{h : Heap}{args : List WData}{ju : List Value}
    (ik : l.row.toRowW.claim.pre args = true) (hwl : WellAll P h ju args):
    ∃ a vs ns, ju = [Value.ref a] /\ args = [WData.list (ns.map WData.int)] /\ h.get? a = some { cls:= .type "list", data:= .seq vs.toArray } /\ IntsAre vs ns /\ ns.length<=n:= by
  have hsh : WShape.hasAll [] args [.list .int] = true:= (pre_splitW ik).1;have hc : l.pre.holds [] { args:= args } = true:= (pre_splitW ik).2;obtain⟨d, r, rfl, h1, h2⟩:= hasAllW_cons hsh;obtain rfl:= hasAllW_nil h2;obtain⟨xs, rfl, h3⟩:= hasW_list h1;obtain⟨ns, rfl⟩:= items_int h3;have ag : ns.length<=n:= by
    unfold OpenLaw.pre at hc;have h4 : (WTm.not (.lt (.lit (.int (n : Int))) (.len (.arg 0)))).holds [] { args:= [.list (ns.map .int)] } = true:= by
      have h4:= (holds_andW hc).1;rw[hn]at h4;exact h4
    have h5:= condW_of h4 (w_not (w_lt w_lit (w_len_list (w_arg rfl))));rw[X3]at h5;refine Nat.le_of_not_lt λq=> ?_
    have q' : (n : Int)<((ns.length : Nat): Int):= by omega
    first
      |(rw[Xz q']at h5; exact absurd h5 (by decide))
      |(simp at h5; omega)
  cases hwl with
  | cons w1 w2=>
    cases w2;cases w1 with
    |list ho js=>exact⟨_, _, ns, rfl, rfl, ho, jz2 ns _ js, ag⟩
theorem post_true(l:OpenLaw)(args:List WData):l.row.toRowW.claim.post args (.bool true) args=true:=
 postW_of (r:=l.row.toRowW) (X:=(true==true))
  (show WShape.has [] (.bool true) .bool=true by first|rfl|decide|simp[WShape.has,WShape.arms,WShape.armsAll])
  (show(WTm.eq .res (.lit (.bool true))).value [] { args:=args,res:=some (.bool true),after:=args }=some (.bool (true==true))from w_eq_bool (w_res rfl) w_lit) rfl
end Att
namespace L2
open PySem PySem.Spec PyProof.Rows
def vvm(H:Hp):Prop:=∀b,H b=none\/∃o xs,H b=some (.frz o (.lst xs))
noncomputable def K5(s:Stmt):Arguments:=match s with
 |.FunctionDef _ a _ _ _ _ _ _ _ _=>a
 |_=>{ posonlyargs:=[],args:=[],vararg:=none,kwonlyargs:=[],kw_defaults:=[],kwarg:=none,defaults:=[] }
def JY(s:Stmt):List Stmt:=match s with
 |.FunctionDef _ _ b _ _ _ _ _ _ _=>b
 |_=>[]
noncomputable def kW(s:Stmt):Scope:=match s with
 |.FunctionDef _ _ _ _ _ _ sc _ _ _=>sc
 |_=>{ kind:=.function,names:=[],isGenerator:=false,isCoroutine:=false }
abbrev E0:XK:=λ_ _ _=>False
structure Fun (K:PySem.W.Frag)(x qual:Str)(st:Stmt)(f:Addr)(fd:FuncData):Prop where
 ex:∃(oc:Value) (od:Option Addr) (kV ef pm:Value) (an:Option Addr) (bd ct:Value) (ji:Array (Option Value)),
  fd=PySem.W.fnOf x qual (K5 st) (JY st) (kW st) .none kV ef pm an bd ct/\K.lookup f=some ⟨oc,od,.func fd,ji⟩/\PySem.W.codeIn K bd qual=true
 kp:PySem.W.keepIn K (.ref f)=true
section
variable {P:Program}{w:World}{K:PySem.W.Frag}{mg:Str->Option Value}{base:Heap}
theorem Fun.binds{x qual:Str}{st:Stmt}{f:Addr}{fd:FuncData}{ps:List Str}(F:Fun K x qual st f fd)
  (h:∀(kV ef pm:Value) (an:Option Addr) (bd ct:Value) (us:List Value),us.length=ps.length->bindArgs (PySem.W.fnOf x qual (K5 st) (JY st) (kW st) .none kV ef pm an bd ct) ⟨us,[]⟩=pure (ps.zip us)):Binds K fd ps []:=by
 obtain⟨oc,od,kV,ef,pm,an,bd,ct,ji,rfl,lk,fe⟩:=F.ex;exact .all (h kV ef pm an bd ct)
theorem kzs{x qual:Str}{st:Stmt}{f:Addr}{oc:Value}{od an:Option Addr}{ji:Array (Option Value)}{kV ef pm bd ct:Value}(l:K.lookup f=some ⟨oc,od,.func (PySem.W.fnOf x qual (K5 st) (JY st) (kW st) .none kV ef pm an bd ct),ji⟩)
  (c:PySem.W.codeIn K bd qual=true) (k:PySem.W.keepIn K (.ref f)=true):Fun K x qual st f (PySem.W.fnOf x qual (K5 st) (JY st) (kW st) .none kV ef pm an bd ct):=⟨⟨oc,od,kV,ef,pm,an,bd,ct,ji,rfl,l,c⟩,k⟩
end
section
variable {X:Cx}
theorem pv(i:Nat){x:Str}{pos:Pos}(hN:autoParam (X.N[i]?=some x) Ŕ)(hv:autoParam (Vis X.env.scope x) ř)(hd:autoParam ((x==("__debug__":Str))=false) ŕ)
  (fe:autoParam ((x==("__classdict__":Str))=false) ŕ):PE X (.Name x pos) (zq i):=qzr hN hv hd fe
end
def jX(H H':Hp):Prop:=∀b o,H b=some o->H' b=some o
section
variable {κ:Type}[DecidableEq κ]
theorem KV.length{ai:List (κ×V)}{vs:List (κ×Value)}(r:KV ai vs):ai.length=vs.length:=Paired.length r
end
section
variable {P:Program}{w:World}{H:Hp}{h:Heap}{a:Addr}
theorem qjr{u:HO}(ok:HOk P w H h)(e:Rd H a u):ObjOk P w H h a u:=e.ok ok
theorem vvb{ai:List (Key×V)}(ok:HOk P w H h)(e:Rd H a (.dK ai)):ai.length<=sizeLine/\(a==sysModules)=false/\∃vs,KV ai vs/\h.DictOf (kjx P w) a vs:=
 show ObjOk P w H h a (.dK ai)from qjr ok e
end
section
variable {X:Cx}{pins:List (Addr×Obj)}{σ:St}{H:Hp}{s:Shared}{a:Addr}{ai:List (Key×V)}{k:Key}{u:Value}{A:Around}{E:Value->Shared->Prop}
theorem vvc{Q:Value->Shared->Prop}(I:Inv X pins σ H s)(e:Rd H a (.dK ai))(h:∀t s',Inv X pins σ H s'->Q (.int ai.length t) s'):wpAny (model X.prog X.w) A (call (.builtin "len") [.ref a]) Q E s:=by
 obtain⟨z,hd,vs,rel,dd⟩:=vvb I.hok e;refine call_len_dict hd dd (by rw[<-rel.length];rw[sizeLine_eq]at z;omega) ?_;rw[<-rel.length];exact h _ _ (I.tok _)
end
section
variable {X:Cx}
theorem qj6:CallR X (.builtin "len") (λxs H Q=>∃a ai,xs=[V.ref a]/\H a=some (.dK ai)/\Q (.int ai.length) H):=by
 intro pins s σ H xs us Q I r h;obtain⟨a,ai,rfl,ha,q⟩:=h;obtain⟨u,rfl,ru⟩:=K1 r;cases ru;exact vvc I (.inl ha) λt s' I'=>⟨.int ai.length,H,I',⟨t,rfl⟩,q⟩
end
end L2
set_option maxHeartbeats 4000000
namespace L3
open PySem PySem.Spec PyProof.Rows L2
abbrev kzj(d7:List Expr)(env:Env):Sem Bool:=
 forIn d7 true λc r=>if r=true then do let ok <-isTrue c env (eval c env);pure (ForInStep.yield ok)else pure (ForInStep.yield r)
theorem jvl (env : Env): ∀(l : List (Str × NameKind)) (cs : List (Str × Addr)), (∀y ∈ l, y.2 = .free -> ∃c, env.cells.lookup y.1 = some c) ->
    (∀x c, cs.lookup x = some c -> env.cells.lookup x = some c) ->
    ∃ cl, (forIn l cs (λ(x : Str × NameKind) (r : List (Str × Addr))=>if(x.2==NameKind.free) = true then do let a <-cellOf env x.1; pure (ForInStep.yield ((x.1, a)::r))else pure (ForInStep.yield r)): Sem (List (Str × Addr))) = pure cl /\
      (∀x c, cl.lookup x = some c -> env.cells.lookup x = some c) /\ (∀x c, cs.lookup x = some c -> ∃c', cl.lookup x = some c') /\ ∀y ∈ l, y.2 = .free -> ∃c, cl.lookup y.1 = some c
  | [], cs, _, hs=>⟨cs, rfl, hs, λx c h=>⟨c, h⟩, λ_ h=>nomatch h⟩
  | (n, k)::r, cs, hl, hs=>by
    by_cases hk : k = .free
    · subst hk
      obtain⟨c, hc⟩:= hl (n, .free) X5 rfl;have hs' : ∀x d, ((n, c)::cs).lookup x = some d -> env.cells.lookup x = some d:= λx d h=>by
        rw[Yn]at h;cases hx : x==n with
        | true=>
          rw[hx]at h;have e : x = n:= by simpa using hx
          have e2 : c = d:= by simpa using h
          subst e; subst e2;exact hc
        | false=>rw[hx]at h; exact hs x d h
      obtain⟨cl, e, a, b, d⟩:= jvl env r ((n, c)::cs) (λy hy=>hl y (lc9 _ hy)) hs';refine⟨cl, ?_, a, λx c' h=> ?_, λy hy hf=> ?_⟩
      · rw[List.forIn_cons]
        have q : cellOf env n = pure c:= by unfold cellOf; rw[hc]
        simp only[beq_self_eq_true, if_true, q, pure_bind];exact e
      · cases hx : x==n with
        | true=>exact b x c (by rw[Yn, hx])
        | false=>exact b x c' (by rw[Yn, hx]; exact h)
      · rcases List.mem_cons.mp hy with z|z
        · subst z
          exact b n c (by rw[Yn]; simp)
        · exact d y z hf
    · obtain⟨cl, e, a, b, d⟩:= jvl env r cs (λy hy=>hl y (lc9 _ hy)) hs
      refine⟨cl, ?_, a, b, λy hy hf=> ?_⟩
      · rw[List.forIn_cons]
        have q : (k==NameKind.free) = false:= by simpa using hk
        simp only[q, Bool.false_eq_true, if_false, pure_bind];exact e
      · rcases List.mem_cons.mp hy with z|z
        · subst z
          exact absurd hf hk
        · exact d y z hf
theorem kj4{scope:Scope}{env:Env}(h:∀y∈scope.names,y.2=.free->∃c,env.cells.lookup y.1=some c):
  ∃cl,closureFor scope env=pure cl/\(∀x c,cl.lookup x=some c->env.cells.lookup x=some c)/\∀y∈scope.names,y.2=.free->∃c,cl.lookup y.1=some c:=by
 obtain⟨cl,e,a,_,d⟩:=jvl env scope.names [] h (λx c h=>nomatch h);refine⟨cl,?_,a,d⟩;unfold closureFor;have e':=congrArg (λt:Sem (List (Str×Addr))=>t >>= pure) e
 simpa using e'
noncomputable def lcX(X:Cx)(scope:Scope)(N:List Str)(cl:List (Str×Addr))(C:Addr)(s0:Shared)(H0:Hp)(fp:List Addr):Cx:=
 { X with N:=N,s₀:=s0,H₀:=H0,env:=compEnvC scope cl C X.env,outer:=X.stack,ex:=fp,fn:=λ_=>false,pn:=[],xe:=λ_ _=>False }
def zX(k:Nat)(R:List Nat)(σ:L2.St):L2.St:=List.replicate k none++R.map λj=>(σ[j]?).join
structure LcOk (X:Cx)(scope:Scope)(N:List Str)(k:Nat)(R:List Nat):Prop where
 kind:scope.kind=.function
 nocell:∀y∈scope.names,y.2≠.cell
 names:∀y∈scope.names,y.2=.local->scope.names.lookup y.1=some .local
 caps:∀y∈scope.names,y.2=.free->X.env.kindOf y.1=some .cell\/X.env.kindOf y.1=some .free
 len:N.length=k+R.length
 outs:∀i j x,R[i]?=some j->N[k+i]?=some x->X.N[j]?=some x/\scope.names.lookup x=some .free
noncomputable def Q9(XN:List Str)(sc scope:Scope)(N:List Str)(k:Nat)(R:List Nat):Bool:=
 scope.names.all (λy=>y.2 != .cell)&&scope.names.all (λy=>y.2 != .local||scope.names.lookup y.1==some .local) &&
 scope.names.all (λy=>y.2 != .free||(sc.names.lookup y.1==some .cell||sc.names.lookup y.1==some .free)) &&
 (N.length==k+R.length)&&(R.zip (N.drop k)).all (λp=>XN[p.1]? == some p.2&&scope.names.lookup p.2==some .free)
theorem kvq{X:Cx}{scope:Scope}{N:List Str}{k:Nat}{R:List Nat}(hk:scope.kind=.function)(h:Q9 X.N X.env.scope scope N k R=true):LcOk X scope N k R:=by
 unfold Q9 at h;simp only[Bool.and_eq_true,List.all_eq_true,bne_iff_ne,Bool.or_eq_true,beq_iff_eq]at h;obtain⟨⟨⟨⟨h1,h2⟩,h3⟩,h4⟩,h5⟩:=h;refine⟨hk,λy hy=>h1 y hy,λy hy e=>(h2 y hy).resolve_left (λz=>z e),λy hy e=>(h3 y hy).resolve_left (λz=>z e),h4,λi j x e1 e2=>?_⟩;have m:(j,x)∈R.zip (N.drop k):=by
  refine Xs (i:=i) ?_;rw[List.getElem?_zip_eq_some];exact⟨e1,by rw[List.getElem?_drop];exact e2⟩
 exact h5 (j,x) m
theorem YW {env : Env} {x : Str} {q : NameKind}: ∀{names : List (Str × NameKind)}, (names.map λ(n, k)=>if(k==NameKind.free&&env.scope.kind == .function&&env.kindOf n==some .cell)then(n, NameKind.cell)else(n, k)).lookup x = some q ->
    (x, q) ∈ names \/ (q = .cell /\ (x, NameKind.free) ∈ names)
  | [], h=>nomatch h
  | (n, k)::r, h=>by
    have h : List.lookup x ((if(k==NameKind.free&&env.scope.kind == .function&&env.kindOf n==some .cell) = true then(n, NameKind.cell)else(n, k))::(r.map λ(n, k)=>if(k==NameKind.free&&env.scope.kind == .function&&env.kindOf n==some .cell)then(n, NameKind.cell)else(n, k))) = some q:= h
    by_cases hc : (k==NameKind.free&&env.scope.kind == .function&&env.kindOf n==some .cell) = true
    · rw[Xb hc, Yn]at h
      cases hx : x==n with
      | true=>
        rw[hx]at h;have e : x = n:= by simpa using hx
        have e2 : NameKind.cell = q:= by simpa using h
        subst e;simp only[Bool.and_eq_true, beq_iff_eq]at hc;obtain⟨⟨e3, _⟩, _⟩:= hc;subst e3;exact .inr ⟨e2.symm, X5⟩
      | false=>
        rw[hx]at h;rcases YW (names:= r) h with z|⟨z, y⟩
        · exact .inl (lc9 _ z)
        · exact .inr ⟨z, lc9 _ y⟩
    · rw[Xj hc, Yn]at h
      cases hx : x==n with
      | true=>
        rw[hx]at h;have e : x = n:= by simpa using hx
        have e2 : k = q:= by simpa using h
        subst e; subst e2;exact .inl X5
      | false=>
        rw[hx]at h;rcases YW (names:= r) h with z|⟨z, y⟩
        · exact .inl (lc9 _ z)
        · exact .inr ⟨z, lc9 _ y⟩
section
variable {X:Cx}{pins:List (Addr×Obj)}{σ:L2.St}{H:Hp}{s:Shared}
theorem vjg{scope:Scope}{N:List Str}{k:Nat}{R:List Nat}{cl:List (Str×Addr)}{C:Addr}(sc:LcOk X scope N k R)(bb:∀y∈scope.names,y.2=.free->∃c,cl.lookup y.1=some c)
  {x:Str} (h:(compEnvC scope cl C X.env).kindOf x=some .cell\/(compEnvC scope cl C X.env).kindOf x=some .free):∃c,cl.lookup x=some c:=by
 rcases h with h|h
 ·rcases YW (env:=X.env) (names:=scope.names) h with z|⟨_,z⟩
  ·exact absurd rfl (sc.nocell _ z)
  ·exact bb _ z rfl
 ·rcases YW (env:=X.env) (names:=scope.names) h with z|⟨z,_⟩
  ·exact bb _ z rfl
  ·cases z
theorem vjh{scope:Scope}{N:List Str}{k:Nat}{R:List Nat}{cl:List (Str×Addr)}{C:Addr}{fp:List Addr}(I:Inv X pins σ H s)(sc:LcOk X scope N k R)(hf:∀b∈fp,qZ X pins H b)(ho:∀b∈fp,∃o,s.heap.get? b=some o)
  (hC:s.heap.objs.size<=C) (cw:∀x c,cl.lookup x=some c->X.env.cells.lookup x=some c) (bb:∀y∈scope.names,y.2=.free->∃c,cl.lookup y.1=some c):(lcX X scope N cl C s H fp).Ok where
 mod:=I.ok.mod
 kind:=sc.kind
 glob:=I.ok.glob
 blt:=I.ok.blt
 above:=hC
 inj:=λx y c h1 h2=>I.ok.inj x y c (cw _ _ h1) (cw _ _ h2)
 has:=λx h=>vjg sc bb h
 cab:=λx c h=>by cases h
 hd:=I.ok.hd
 frames:=I.ok.frames
 stk:=.inl rfl
 exf:=λb hb=>by
  obtain⟨o,e⟩:=ho b hb;exact⟨Xp (Xe (Xa e) hC),λx c h=>(hf b hb).2.2.2.2.1 x c (cw x c h)⟩
 bs:=λb o e=>I.bs b o e
 bsz:=Y1 I.ok.bsz I.sz
 noex:=λb o e hb=>by
  rcases(hf b hb).2.2.2.1 with z|z
  ·exact I.ok.noex b o e z
  ·exact absurd (Xe (Xa e) (Y1 I.ok.bsz z)) (Y8 _)
 exfs:=λb hb hs=>by
  rcases List.mem_cons.mp (I.stkSub b hs)with z|z
  ·exact(hf b hb).2.1 z
  ·exact(hf b hb).2.2.1 z
 funs:=I.stack
 frf:=I.stkFree
theorem qxr(I:Inv X pins σ H s){a:Addr}(h:s.heap.objs.size<=a):a∉frs X.stack:=λz=>by
 rcases List.mem_cons.mp (I.stkSub a z)with e|e
 ·subst e;exact absurd (Xe I.lt h) (Y8 _)
 ·exact I.nofs h e
theorem qwh {scope:Scope} {N:List Str} {k:Nat} {R:List Nat} {cl:List (Str×Addr)} {C D:Addr} {fp:List Addr} {h1:Heap} {t:Nat} {m:Str->Option Value} {oD:Obj} (I:Inv X pins σ H s) (sc:LcOk X scope N k R)
  (hf:∀ b∈fp,qZ X pins H b) (ho:∀b∈fp,∃o,s.heap.get? b=some o)
  (hC:s.heap.objs.size<=C) (hD:s.heap.objs.size<=D) (lc:D≠C) (cw:∀x c,cl.lookup x=some c->X.env.cells.lookup x=some c) (bb:∀y∈scope.names,y.2=.free->∃c,cl.lookup y.1=some c)
  (jl:∀ b o,s.heap.get? b=some o->h1.get? b=some o) (hn:h1.Ns C m) (eD:h1.get? D=some oD) (dD:∀v,oD.data≠.cell v):
  Inv (lcX X scope N cl C s H fp) [(D,oD)] (zX k R σ) H { s with heap:=h1,toks:=t } where
 ok:=vjh I sc hf ho hC cw bb
 os:=rfl
 bare:=I.bare
 base:=Un.kept jl
 loc:=⟨m,hn,λi x v e1 e2 vis=>by
  obtain⟨mX,hnX,hl⟩:=I.loc;unfold zX at e2
  by_cases hi:i<k
  ·rw [Y6 (by rw[Yf];exact hi),List.getElem?_replicate,Xb hi]at e2;cases e2
  ·have hk:k<=i:=Nat.le_of_not_lt hi;rw [Y3 (by rw[Yf];exact hk),Yf,Xg]at e2;cases er:R[i - k]? with
   | none=>rw[er]at e2;cases e2
   | some j=>
    rw [er]at e2;have ej:(σ[j]?).join=some v:=by simpa using e2
    have ej':σ[j]?=some (some v):=by
     cases q:σ[j]? with
     | none=>rw[q]at ej;cases ej
     | some z=>rw[q]at ej;cases z with
      | none=>cases ej
      | some z=>rw[show z=v by simpa using ej]
    obtain⟨o1,o2⟩:=sc.outs (i - k) j x er (by rw[show k+(i - k)=i by omega];exact e1);have cap:=sc.caps (x,.free) (Yd o2) rfl;have visX:Vis X.env.scope x:=cap.elim (λz=>.inr (.inl z)) λz=>.inr (.inr z)
    obtain⟨u,ru,q⟩:=hl j x v o1 ej' visX;refine⟨u,ru,?_⟩;rcases q with⟨q,_⟩|⟨_,c,ec,hc⟩
    ·rcases cap with z|z
     ·rw[z]at q;cases q
     ·rw[z]at q;cases q
    ·obtain⟨c',ec'⟩:=bb (x,.free) (Yd o2) rfl;have e:c'=c:=oq9 ((cw x c' ec').symm.trans ec);subst e;refine .inr ⟨?_,c',ec',?_⟩
     ·rcases vis with z|z|z
      ·rcases YW (env:=X.env) (names:=scope.names) z with y|⟨y,_⟩
       ·have y':=sc.names _ y rfl;rw[o2]at y';cases y'
       ·cases y
      ·exact .inl z
      ·exact .inr z
     ·obtain⟨o,h1,h2⟩:=hc;exact⟨o,jl _ _ h1,h2⟩⟩
 cell:=λx c h=>by
  obtain⟨v,o,h1,h2⟩:=I.cell x c (cw x c h);exact⟨v,o,jl _ _ h1,h2⟩
 free:=I.hok.fresh hC
 freeC:=λx c h=>I.freeC x c (cw x c h)
 pin:=λp hp=>by
  have e:p=(D,oD):=by
   have hp:p∈([]++[(D,oD)]:List (Addr×Obj)):=hp
   simpa using hp
  subst e;exact⟨eD,I.hok.fresh hD,lc,qxr I hD,dD⟩
 hok:=I.hok.kept jl
 len:=by
  show(zX k R σ).length=N.length;unfold zX;rw[sc.len,Xi,Yf,X3]
theorem jz1{a:Addr}{o:HO}(I:Inv X pins σ H s)(hn:H a=none)(hL:a≠X.env.locals)(h1:a∈X.ex\/X.s₀.heap.objs.size<=a)(h2:∀x c,X.env.cells.lookup x=some c->c≠a)(h3:∀p∈X.pn++pins,p.1≠a)
  (new:ObjOk X.prog X.w (upd H a o) s.heap a o):Inv X pins σ (upd H a o) s:=by
 have hok:HOk X.prog X.w (upd H a o) s.heap:=λb u e=>by
  by_cases hb:b=a
  ·subst hb;rw[xk]at e;cases e;exact new
  ·rw[kZ hb]at e;exact(I.hok b u e).stay (λ_ _ _ q=>q) (λc q=>by rw[kZ (J4 q hn)];exact q) λc xs q=>by rw[kZ (J4 q hn)];exact q
 have na:∀b:Addr,b∉[a]->b≠a:=λb hb z=>hb (by rw[z];exact List.mem_singleton.mpr rfl)
 exact I.step (h':=s.heap) (H':=upd H a o) (g':=s.gens) (t':=s.toks) (d':=s.drawn) (ch:=[a])
  (λb hb=>by rw[List.mem_singleton.mp hb];exact⟨h1,hL,h2,h3⟩) (λb o _ _ _ e _=>e) (λb o _ _ _ e _=>⟨o.slots,e⟩) (λb o hb _ q=>by rw[kZ (na b hb)];exact q)
  (λb o _ e=>⟨o,e⟩) (λb xs q=>by rw[kZ (J4 q hn)];exact q) (λb o u q=>by rw[kZ (J4 q hn)];exact q) (λb ps q=>⟨#[],by rw[kZ (J4 q hn),q];simp⟩)
  (λm hm=>hm) hok I.bare
end
noncomputable def PTs(X:Cx)(d7:List Expr)(t:TT):Prop:=
 ∀(pins:List (Addr×Obj)) (s:Shared) (σ:L2.St) (H:Hp) (Q:Bool->Hp->Prop),Inv X pins σ H s->t σ H Q->wpAny (model X.prog X.w) X.A (kzj d7 X.env) (TP X pins σ Q) X.xe s
abbrev tYes:TT:=λ_ H Q=>Q true H
theorem qvp{X:Cx}:PTs X [] tYes:=λ_ _ _ H _ I h=>wpAny_tests_nil ⟨H,I,h⟩
theorem qvo{X:Cx}{c:Expr}{t:TT}(hc:PT X c t):PTs X [c] t:=λpins s σ H Q I h=>wpAny_tests_one (hc pins s σ H Q I h)
noncomputable def LcW(g:TG)(tt:TT)(te:TE)(Q:VK)(J:It)(W:Nat->Nat->List V->L2.St->Hp->Prop):Prop:=∀i m ys σ H,W i m ys σ H ->
 (J.stop i H/\ys.length<=sizeLine/\∀p,H p=none->Q (.ref p) (upd H p (.lst ys))) \/
 (J.go i H/\∀x H1,J.yld i H x H1->g x σ H1 fun σ2 H2=>∃(Ny:VK) (Nn:Hp->Prop),(∀y H4,Ny y H4->ys.length<=sizeLine/\∃m',m'<m/\W (i+1) m' (ys++[y]) σ2 H4) /\
  (∀H4,Nn H4->∃m',m'<m/\W (i+1) m' ys σ2 H4)/\tt σ2 H2 λb H3=>if b=true then te σ2 H3 Ny else Nn H3)
abbrev tLC(wi:TI)(g:TG)(tt:TT)(te:TE)(k:Nat)(R:List Nat):TE:=fun σ H Q=>wi σ H λJ H1=>
 ∃W:Nat->Nat->List V->L2.St->Hp->Prop,(∃m,W 0 m [] (zX k R σ) H1)/\LcW g tt te Q J W
abbrev Vw(aa:List Value)(n:Nat):Obj:={ cls:=.type "list",data:=.seq aa.toArray n }
section
variable {X:Cx}
theorem op_mulI:OpR X (binaryOp .Mult) (rI IntMulOk λi j=>.int (i*j)):=opI λ_ _ _ _ _ _ _ hc q=>mul_int q hc
def vkj(_i j:Int):Prop:=0<j/\j.natAbs.log2<9000
theorem xZ:OpR X (binaryOp .FloorDiv) (rI vkj λi j=>.int (i / j)):=opI λi j _ _ _ _ _ hc q=>by
 have h1:(0:Int)<j:=hc.1;exact floordiv_int (by omega) (by rw[Int.fdiv_eq_ediv_of_nonneg i (by omega)];exact q) (.inl (PyProof.noPylong_of_log2 hc.2))
def kinds:List String:=["NoneType","bool","int","str","list","tuple","dict"]
def YQ(T U:String):Bool:=T==U||(T == "bool" && U == "int")
theorem kqv{K:PySem.W.Frag}{T U:String}(hT:T∈kinds)(hU:U∈kinds.tail):PySem.W.kitOne K (.type T) (.type U)=some (YQ T U):=by
 simp only[kinds,List.tail_cons,Xk,Xh,or_false]at hT hU;rcases hT with rfl|rfl|rfl|rfl|rfl|rfl|rfl<;>rcases hU with rfl|rfl|rfl|rfl|rfl|rfl<;>with_unfolding_all rfl
noncomputable def vw2(K:PySem.W.Frag):List V->Hp->VK->Prop:=λxs H Q=>∃x T U,xs=[x,.ty U]/\TyOf K H x (.type T)/\T∈kinds/\U∈kinds.tail/\Q (.bl (YQ T U)) H
theorem qkq:CallR X (.builtin "isinstance") (vw2 X.K):=by
 intro pins s σ H xs us Q I r h;obtain⟨x,T,U,rfl,ty,hT,hU,q⟩:=h;obtain⟨u,w',rfl,r1,r2⟩:=XY r;cases(show w'=Value.type U from r2);exact kzn I r1 ty (kqv hT hU) λtk=>⟨.bl _,H,I.tok _,rfl,q⟩
theorem qqq:∀{bs:List Bool} {aa:List Value} {i:Nat} {v:Value},Vals (bs.map V.bl) aa->aa[i]?=some v->∃b,bs[i]?=some b/\v=.bool b
 |[],_,_,_,.nil,e=>by simp at e
 |b::bs,_,0,v,.cons r _,e=>by
  simp at e;subst e;exact⟨b,rfl,r⟩
 |b::bs,_,i+1,v,.cons _ t,e=>by
  obtain⟨b',e1,e2⟩:=qqq (i:=i) t (by simpa using e);exact⟨b',by simpa using e1,e2⟩
def Its(x:Str):It:=⟨λi _=>i<x.cps.size,λi H v H'=>H'=H/\∃c,x.cps[i]?=some c/\v=.str ⟨#[c]⟩,λi _=>i=x.cps.size⟩
theorem kv7{P:Program}{w:World}{K:PySem.W.Frag}{tg:Expr}{x:Str}{t:Tok}{it:Addr}{ty:String}
  (W:∀A':Around,A'.handled=none->Walks P w A' it [it] [it] x.cps.size (SignAt x) (λi h=>h.IsStrIter it ty x t i))
  (mj:∀(A:Around) (i:Nat) (s:Shared) (Q:Value->Shared->Prop) (E:Value->Shared->Prop),s.heap.IsStrIter it ty x t i->Q (.ref it) s->wpAny (model P w) A (pyIter (.ref it)) Q E s)
  (ir:["enumerate","zip","dict_itemiterator","dict_reverseitemiterator","odict_iterator","itertools.zip_longest","itertools.pairwise"].contains ty=false):
  Turn P w K tg (Its x) [it] it (λi h=>h.IsStrIter it ty x t i) where
 mem:=by simp
 obj:=λi h st b hb=>by
  have e:b=it:=by simpa using hb
  subst e;obtain⟨o,e,c,d⟩:=st;exact⟨o,e,λv z=>by rw[d]at z;cases z⟩
 keep:=λi h h' st k=>by
  obtain⟨o,e,r⟩:=st;exact⟨o,k it (by simp) o e,r⟩
 item:=by
  intro X hP hw hK hc i pins s σ H E I hf st hg;subst hP hw hK;obtain⟨f0,f1,f2,f3,f4,f5⟩:=hf it (by simp);refine(W X.A (I.ok.hd hc)).item i s _ _ hg st λv h' tk hv cx kk=>?_
  obtain⟨c,u,b8,rfl⟩:=hv;have I1:Inv X pins σ H { s with heap:=h',toks:=tk }:=I.turned (λb o hb e=>kk b o (by simpa using hb) e) f0 f1 f3 f4 f5;obtain⟨o,e,c1,d⟩:=id cx;exact⟨_,rfl,Zv (s:={ s with heap:=h',toks:=tk }) e c1 d ir ⟨.str ⟨#[c]⟩,H,I1,⟨u,rfl⟩,⟨rfl,c,b8,rfl⟩,cx,λb hb=>(hf b hb).1⟩⟩
 done:=by
  intro X hP hw hK hc i pins s σ H E I hf st hg;subst hP hw hK;obtain⟨f0,f1,f2,f3,f4,f5⟩:=hf it (by simp);have jr:i=x.cps.size:=hg;subst jr;exact(W X.A (I.ok.hd hc)).done s _ _ st λh' tk kk=>⟨rfl,I.turned (λb o hb e=>kk b o (by simpa using hb) e) f0 f1 f3 f4 f5⟩
 self:=λA i s Q E st hQ=>mj A i s Q E st hQ
noncomputable def vvw:V->Option Int->Option Int->Hp->VK->Prop:=λx lo hi H Q=>∃z,x=.str z/\z.length<=sizeLine/\Q (.str (Txt.slice z lo hi)) H
theorem qxx:SlR X vvw:=by
 intro pins s σ H x v vl vu lo hi sl Q I rx hs pl pu h;obtain⟨z,rfl,hz,q⟩:=h;obtain⟨t,rfl⟩:=rx;refine⟨"str",_,F.slot_str_getitem.lookup,typeIs_str _ _ _,?_⟩;have fin:∀(t':Tok) (k:Nat),EP X pins σ Q (.str (Txt.slice z lo hi) t') { s with toks:=k }:=λt' k=>⟨.str _,H,I.tok k,⟨t',rfl⟩,q⟩
 have fq:(Txt.slice z lo hi).length<=sizeLine:=Y1 (Txt.slice_le z _ _) hz;cases pl with
 |none=>cases pu with
  |none=>exact wpAny_getItem_str_slice (l:=none) (u:=none) (st:=none) hs rfl (post_val_or_str ⟨fq,fin⟩)
  |int j tj=>exact wpAny_getItem_str_slice (l:=none) (u:=some (j,tj)) (st:=none) hs rfl (post_val_or_str ⟨fq,fin⟩)
 |int i ti=>cases pu with
  |none=>exact wpAny_getItem_str_slice (l:=some (i,ti)) (u:=none) (st:=none) hs rfl (post_val_or_str ⟨fq,fin⟩)
  |int j tj=>exact wpAny_getItem_str_slice (l:=some (i,ti)) (u:=some (j,tj)) (st:=none) hs rfl (post_val_or_str ⟨fq,fin⟩)
def qz6:R2:=λx y H Q=>∃z n,x=.str z/\y=.int n/\(z.length<=1024/\n<=1024/\-1024<=n)/\Q (.str (Txt.mul z n)) H
theorem qw5:OpR X (binaryOp .Mult) qz6:=by
 intro pins s σ H x y v u Q I rx ry h;obtain⟨z,n,rfl,rfl,⟨h1,h2,h3⟩,q⟩:=h;obtain⟨t,rfl⟩:=rx;obtain⟨t',rfl⟩:=ry;exact SB.mul (mulOk_of 1024 1024 h1 h2 (by omega) (by decide) (by decide)) λt' k=>⟨.str _,H,I.tok k,⟨t',rfl⟩,q⟩
theorem kvb:∀{ys:List Str} {aa:List Value},Vals (ys.map V.str) aa->StrsAre aa ys
 |[],_,.nil=>.nil
 |_::_,_,.cons ⟨t,e⟩ r=>by subst e;exact .cons _ t (kvb r)
noncomputable def vqb(K:PySem.W.Frag):V->List V->Hp->VK->Prop:=λx vs H Q=>∃z p ys,x=.str z/\vs=[.ref p]/\SqL K H p (ys.map V.str)/\(ys.map (·.length)).sum+ys.length*z.length<=16777216/\Q (.str (Txt.join z ys)) H
theorem qwe:MtR X "str.join" (vqb X.K):=by
 intro pins s σ H x xs v us Q I rx rv h;obtain⟨z,p,ys,rfl,rfl,hq,hok,q⟩:=h;obtain⟨t,rfl⟩:=rx;obtain⟨u,rfl,ru⟩:=rv.one;cases ru;obtain⟨aa,rs,pl,hz⟩:=I.list hq;exact join_list pl.isList (kvb rs) hok λt' k=>⟨.str _,H,I.tok k,⟨t',rfl⟩,q⟩
noncomputable def qq0(K:PySem.W.Frag):V->Option Int->Option Int->Hp->VK->Prop:=λx lo hi H Q=>vvx K x lo hi H Q\/vvv K x lo hi H Q\/vvw x lo hi H Q
theorem vq8(K:PySem.W.Frag)(hK:autoParam (X.K=K) Ŕ):SlR X (qq0 K):=by subst hK;exact sl_list.or (sl_tup.or qxx)
noncomputable def kxe(K:PySem.W.Frag):List V->Hp->VK->Prop:=λxs H Q=>(∃p ys,xs=[.ref p]/\(SqL K H p ys\/SqT K H p ys)/\Q (.int ys.length) H)\/(∃z,xs=[.str z]/\z.length<=sizeLine/\Q (.int z.length) H)\/(∃a ai,xs=[V.ref a]/\H a=some (.dK ai)/\Q (.int ai.length) H)
theorem qww(K:PySem.W.Frag)(hK:autoParam (X.K=K) Ŕ):CallR X (.builtin "len") (kxe K):=by subst hK;exact call_len_seq.or (call_len_str.or qj6)
theorem qja:CallR X (.type "int") (λxs H Q=>(∃i,xs=[.int i]/\Q (.int i) H)\/∃k,xs=[.bl k]/\Q (.int (if k then 1 else 0)) H):=qj8
theorem kvk(K:PySem.W.Frag){o e:Expr}{es:List Expr}{T:String}{name:Str}{id:String}{r:V->List V->Hp->VK->Prop}{to:TE}{t:TA}{aj ab:Pos}
  (pa:PlainAttrs T) (slot:Slot T name id) (ir:typeOf (.builtin id)=pure (.type "method_descriptor")) (hm:MtR X id r) (ho:PE X o to) (ha:PA X (e::es) t)
  (ax:autoParam (attributeBase o name X.env (eval o X.env)=eval o X.env) Ŕ)
  (cg:autoParam (((backTo ab (starEach (e::es) X.env)).all (λx=>!x.1)&&(backToKw ab (keywordEach [] X.env)).all (λx=>x.1.isSome)
   && decide ((e::es).length+([]:List Keyword).length+(if([]:List Keyword).isEmpty then 0 else 1)<30))=true) Ŕ)
  (au:autoParam ((aj.endLine==ab.line)=true) Ŕ) (hs:autoParam (starEach (e::es) X.env=(false,eval e X.env)::starEach es X.env) Ŕ) (az:autoParam ((backTo ab (starEach es X.env)).any (·.1)=false) Ŕ) (hK:autoParam (X.K=K) Ŕ):
  PE X (.Call (.Attribute o name aj) (e::es) [] ab) (tBM K T r to t):=by subst hK;exact qzy pa slot ir hm ho ha ax cg au hs az
theorem vk9:bootBuiltins "len"=some (.builtin "len"):=by decide +kernel
theorem kk4:bootBuiltins "isinstance"=some (.builtin "isinstance"):=by decide +kernel
theorem qqp:bootBuiltins "any"=some (.builtin "any"):=by decide +kernel
theorem vk8:bootBuiltins "max"=some (.builtin "max"):=by decide +kernel
theorem kw1:bootBuiltins "int"=some (.type "int"):=by decide +kernel
theorem vk7:bootBuiltins "str"=some (.type "str"):=by decide +kernel
theorem VV:bootBuiltins "bool"=some (.type "bool"):=by decide +kernel
theorem Kw:bootBuiltins "list"=some (.type "list"):=by decide +kernel
theorem jxi:bootBuiltins "tuple"=some (.type "tuple"):=by decide +kernel
theorem vk6:bootBuiltins "zip"=some (.type "zip"):=by decide +kernel
end
theorem kw3:∀{ns:List Int} {m:Nat},PySem.W.WData.weightAll (ns.map PySem.W.WData.int)<=m->∀n∈ns,Builtin.Int.intBits n<=m
 | [],_,_,_,h=>nomatch h
 | a::r,m,h,n,hn=>by
  have h':(if a==0 then 0 else a.natAbs.log2+1)+1+PySem.W.WData.weightAll (r.map PySem.W.WData.int)<=m:=h;rcases List.mem_cons.mp hn with z|z
  ·subst z;have e:Builtin.Int.intBits n=(if n==0 then 0 else n.natAbs.log2+1):=rfl;rw[e];omega
  ·exact kw3 (m:=m) (by omega) n z
theorem kv3{ns:List Int}(h:PySem.W.WData.layableAll [PySem.W.WData.list (ns.map PySem.W.WData.int)]=true):∀n∈ns,Builtin.Int.intBits n<=1048576:=by
 have h1:(PySem.W.WData.list (ns.map PySem.W.WData.int)).layable=true:=(PySem.W.layW_cons h).1;unfold PySem.W.WData.layable at h1;simp only[Bool.and_eq_true,decide_eq_true_eq]at h1;have h2:PySem.W.WData.weightAll (ns.map PySem.W.WData.int)<=2 ^ 20:=h1.2;exact kw3 (by simpa using h2)
inductive D where
 |non|bl (b:Bool)|int (i:Int)|str (z:Str)|lst (xs:List D)|tup (xs:List D)
section
variable {X:Cx}{pins:List (Addr×Obj)}{σ:L2.St}{H:Hp}{s:Shared}
theorem in1_units(A:Around):A.in1.units<=A.units+1:=by
 first|exact X8 _|(show A.units+1<=A.units+1;exact X8 _)|(unfold Around.in1;simp)
end
section
variable {X:Cx}
noncomputable def kxd(K:PySem.W.Frag):List V->Hp->VK->Prop:=λxs H Q=>∃p ys,xs=[.ref p]/\(SqL K H p ys\/SqT K H p ys)/\∀l,H l=none->Q (.ref l) (upd H l (.lst ys))
theorem jxh(K:PySem.W.Frag)(hK:autoParam (X.K=K) Ŕ):CallR X (.type "list") (kxd K):=by subst hK;exact kq9
theorem kxz(K:PySem.W.Frag){o:Expr}{T:String}{name:Str}{id:String}{r:V->List V->Hp->VK->Prop}{to:TE}{aj ab:Pos}
  (pa:PlainAttrs T) (slot:Slot T name id) (ir:typeOf (.builtin id)=pure (.type "method_descriptor")) (hm:MtR X id r) (ho:PE X o to)
  (ax:autoParam (attributeBase o name X.env (eval o X.env)=eval o X.env) Ŕ) (au:autoParam ((aj.endLine==ab.line)=true) Ŕ) (hK:autoParam (X.K=K) Ŕ):
  PE X (.Call (.Attribute o name aj) [] [] ab) (vvr K T r to):=by subst hK;exact qzx pa slot ir hm ho ax au
end
abbrev LET:Str:="abcdefghijklmnopqrstuvwxyz"
def Wd(z:Str):Prop:=1<=z.length/\z.length<=8/\∀ch∈z.cps.toList,ch∈LET.cps.toList
section
variable {X:Cx}{pins:List (Addr×Obj)}{σ:L2.St}{H:Hp}{s:Shared}
theorem jqw{t':Nat}{h':Heap}(fp:List Addr)(I:Inv X pins σ H s)(k:∀b o,b∉fp->s.heap.get? b=some o->h'.get? b=some o)(hf:∀b∈fp,qZ X pins H b):Inv X pins σ H { s with heap:=h',toks:=t' }:=by
 have mw:∀b u,H b=some u->b∉fp:=λb u e z=>by rw[(hf b z).1]at e;cases e
 refine I.step (g':=s.gens) (d':=s.drawn) (ch:=fp) (λb hb=>?_) (λb o _ _ hc e _=>k b o hc e) (λb o _ _ hc e _=>⟨o.slots,k b o hc e⟩) (λ_ _ _ _ n=>n)
  (λb o hc e=>⟨o,k b o hc e⟩) (λ_ _ e=>e) (λ_ _ _ e=>e) (λb ps e=>⟨#[],by rw[e];simp⟩) (λm hm=>?_) (λb u e=>?_) I.bare
 ·obtain⟨_,f1,_,f3,f4,f5⟩:=hf b hb;exact⟨f3,f1,f4,f5⟩
 ·obtain⟨o,es,ep,ho,r⟩:=hm;exact⟨o,es,ep,k _ o (λz=>(hf _ z).2.1 rfl) ho,r⟩
 ·refine(I.hok b u e).stay (λc v hc q=>k c v ?_ q) (λ_ q=>q) λ_ _ q=>q
  rcases hc with z|z
  ·rw[z];exact mw b u e
  ·exact mw c _ z
end
noncomputable def Itz(K:PySem.W.Frag)(l1 l2:Addr):It:=⟨λi H=>∃xs ys x y,SqL K H l1 xs/\SqL K H l2 ys/\xs[i]?=some x/\ys[i]?=some y,
 λi H v H'=>∃T x y,H T=none/\v=.ref T/\H'=upd H T (.tup [x,y])/\(∀xs,SqL K H l1 xs->xs[i]?=some x)/\∀ys,SqL K H l2 ys->ys[i]?=some y,
 λi H=>∃xs ys,SqL K H l1 xs/\SqL K H l2 ys/\(xs.length<=i\/ys.length<=i)⟩
abbrev znt(z TI TO i1 i2 l1 l2:Addr)(i:Nat)(h:Heap):Prop:=IsZip h z TI TO .none/\IsPair h TI (.ref i1) (.ref i2)/\(∃a b,IsPair h TO a b)/\h.IsListIter i1 l1 i/\h.IsListIter i2 l2 i
theorem qjn{P:Program}{w:World}{K:PySem.W.Frag}{ci:List Expr}{k1:Nat}{pos:Pos}{z TI TO i1 i2 l1 l2:Addr}(ap:ZipApart z TI TO i1 i2 l1 l2):
  Turn P w K (.Tuple ci k1 pos) (Itz K l1 l2) [z,TI,TO,i1,i2] z (znt z TI TO i1 i2 l1 l2) where
 mem:=by simp
 obj:=λi h st b hb=>by
  obtain⟨h1,h2,⟨a,c,h3⟩,⟨o4,e4,c4,d4⟩,o5,e5,c5,d5⟩:=st;simp only[Xk,Xh,or_false]at hb;rcases hb with rfl|rfl|rfl|rfl|rfl
  ·exact⟨_,h1,λv z=>by cases z⟩
  ·exact⟨_,h2,λv z=>by cases z⟩
  ·exact⟨_,h3,λv z=>by cases z⟩
  ·exact⟨_,e4,λv z=>by rw[d4]at z;cases z⟩
  ·exact⟨_,e5,λv z=>by rw[d5]at z;cases z⟩
 keep:=λi h h' st k=>by
  obtain⟨h1,h2,⟨a,c,h3⟩,⟨o4,e4,c4,d4⟩,o5,e5,c5,d5⟩:=st;exact⟨k _ (by simp) _ h1,k _ (by simp) _ h2,⟨a,c,k _ (by simp) _ h3⟩,⟨o4,k _ (by simp) _ e4,c4,d4⟩,o5,k _ (by simp) _ e5,c5,d5⟩
 item:=by
  intro X hP hw hK hc i pins s σ H E I hf st hg;subst hP hw hK;obtain⟨xs,ys,x,y,q1,q2,hx,hy⟩:=hg;obtain⟨dm,iu,p1,mh⟩:=I.list q1;obtain⟨u1,hu1,ru1⟩:=iu.get hx;obtain⟨br,jn,p2,iq⟩:=I.list q2;obtain⟨u2,hu2,ru2⟩:=jn.get hy;obtain⟨t1,t2,⟨a,b,t3⟩,t4,t5⟩:=st;refine wpAny_pyNext_zip_item ap t1 t2 t3 t4 t5 p1.isList p2.isList (x:=u1) (y:=u2) (by simpa using hu1) (by simpa using hu2) λh1 g1 g3 g4 g5 gT gs gk=>?_
  refine⟨_,rfl,wpAny_letOwnedTupleGo_zip (s:={ s with heap:=h1 }) g1 λh2 f1 sb=>?_⟩;have fT:qZ X pins H s.heap.objs.size:=I.fpOk (X8 _) (I.hok.fresh (X8 _));have nT:∀b∈[z,TI,TO,i1,i2],b≠s.heap.objs.size:=λb hb e=>by
   obtain⟨o,eo,_⟩:∃o,s.heap.get? b=some o/\True:=by
    simp only[Xk,Xh,or_false]at hb;obtain⟨o4,e4,_⟩:=t4;obtain⟨o5,e5,_⟩:=t5;rcases hb with rfl|rfl|rfl|rfl|rfl
    ·exact⟨_,t1,trivial⟩
    ·exact⟨_,t2,trivial⟩
    ·exact⟨_,t3,trivial⟩
    ·exact⟨_,e4,trivial⟩
    ·exact⟨_,e5,trivial⟩
   exact absurd (Xa eo) (by rw[e];exact Y8 _)
  have kk:∀b o,b∉[z,TO,i1,i2]->s.heap.get? b=some o->h2.get? b=some o:=λb o hb e=>by
   simp only[Xk,Xh,or_false,not_or]at hb;exact(sb.2 b hb.1).trans (gk b o hb.1 hb.2.1 hb.2.2.1 hb.2.2.2 e)
  have I1:Inv X pins σ H { s with heap:=h2,toks:=s.toks }:=jqw [z,TO,i1,i2] I kk λb hb=>hf b (by
   simp only[Xk,Xh,or_false]at hb ⊢;rcases hb with h|h|h|h<;>simp[h])
  have nz:s.heap.objs.size≠z:=λe=>nT z (by simp) e.symm
  have I2:=jz1 (a:=s.heap.objs.size) (o:=.tup [x,y]) I1 fT.1 fT.2.1 fT.2.2.2.1 fT.2.2.2.2.1 fT.2.2.2.2.2
   (show ObjOk X.prog X.w _ h2 _ (.tup [x,y])from⟨by show(2:Nat)<=sizeLine;decide,[u1,u2],.cons ru1 (.cons ru2 .nil),⟨_,(sb.2 _ nz).trans gT,rfl,rfl,0,rfl⟩⟩)
  refine⟨.ref s.heap.objs.size,_,I2,rfl,⟨_,x,y,fT.1,rfl,rfl,λzs ig=>by rw[I.list_inj ig q1];exact hx,λzs ig=>by rw[I.list_inj ig q2];exact hy⟩,?_,λb hb=>by rw[kZ (nT b hb)];exact(hf b hb).1⟩;refine⟨f1,?_,⟨u1,u2,(sb.2 _ ap.TOz).trans g3⟩,g4.at λo e=>(sb.2 _ ap.i1z).trans e,g5.at λo e=>(sb.2 _ ap.i2z).trans e⟩;exact(sb.2 _ ap.TIz).trans (gk _ _ ap.TIz ap.TITO ap.TIi1 ap.TIi2 t2)
 done:=by
  intro X hP hw hK hc i pins s σ H E I hf st hg;subst hP hw hK;obtain⟨xs,ys,q1,q2,hx⟩:=hg;obtain⟨dm,iu,p1,mh⟩:=I.list q1;obtain⟨br,jn,p2,iq⟩:=I.list q2;obtain⟨t1,t2,⟨a,b,t3⟩,t4,t5⟩:=st;have jb:=iu.length;have ky:=jn.length;refine wpAny_pyNext_zip_end (I.ok.hd hc) ap t1 t2 t3 t4 t5 p1.isList p2.isList (hx.imp (λh=>by simp;omega) λh=>by simp;omega) λh' kk=>⟨rfl,?_⟩
  refine jqw (t':=s.toks) [z,TO,i1,i2] I (λb o hb e=>?_) λb hb=>hf b (by
   simp only[Xk,Xh,or_false]at hb ⊢;rcases hb with h|h|h|h<;>simp[h])
  simp only[Xk,Xh,or_false,not_or]at hb;exact kk b o hb.1 hb.2.1 hb.2.2.1 hb.2.2.2 e
 self:=λ_ _ _ _ _ st h=>wpAny_pyIter_zip st.1 h
section
variable {X:Cx}
noncomputable def kxf:List V->Hp->VK->Prop:=λxs H Q=>(∃i,xs=[.int i]/\Q (.int i) H)\/(∃k,xs=[.bl k]/\Q (.int (if k then 1 else 0)) H)\/∃(x:Str) (n:Int),xs=[.str x]/\PySem.intText? x=some n/\x.length<=640/\Q (.int n) H
theorem jz8:CallR X (.type "int") kxf:=by
 intro pins s σ H xs us Q I r h;rcases h with h|h|⟨x,n,rfl,hx,hl,q⟩
 ·exact qja pins s σ H xs us Q I r (.inl h)
 ·exact qja pins s σ H xs us Q I r (.inr h)
 ·obtain⟨u,rfl,t,rfl⟩:=K1 r;exact PySem.W.KIN.call_text hx hl ⟨.int n,H,I.tok _,⟨_,rfl⟩,q⟩
end
end L3
namespace L2
open PySem PySem.Spec PyProof.Rows
section
variable {X:Cx}{pins:List (Addr×Obj)}{σ:List (Option V)}{H H':Hp}{s:Shared}{h':Heap}
theorem Inv.stepN{g':Array GenState}{t':Nat}{d':Drawn}{ch:List Addr}(I:Inv X pins σ H s)
  (cj:∀b∈ch,(b∈X.ex\/X.s₀.heap.get? b=none)/\b≠X.env.locals/\(∀x c,X.env.cells.lookup x=some c->c≠b)/\∀p∈X.pn++pins,p.1≠b)
  (keep:∀b o,b≠X.env.locals->b∉X.fs->b∉ch->s.heap.get? b=some o->H b=none->h'.get? b=some o)
  (slot:∀b o,b≠X.env.locals->b∈X.fs->b∉ch->s.heap.get? b=some o->H b=none->∃sl,h'.get? b=some { o with slots:=sl }) (free:∀b o,b∉ch->s.heap.get? b=some o->H b=none->H' b=none)
  (there:∀b o,b∉ch->s.heap.get? b=some o->∃o',h'.get? b=some o')
  (tups:∀b xs,H b=some (.tup xs)->H' b=some (.tup xs)) (frzs:∀b o u,H b=some (.frz o u)->H' b=some (.frz o u)) (tbls:∀b ps,H b=some (.tbl ps)->∃more,H' b=some (.tbl (ps++more)))
  (ns:∀m,s.heap.Ns X.env.locals m->h'.Ns X.env.locals m) (hok:HOk X.prog X.w H' h') (hg:AllBare g'):
  Inv X pins σ H' { s with heap:=h',gens:=g',drawn:=d',toks:=t' }:=by
 have n9:∀b o,X.s₀.heap.get? b=some o->b≠X.env.locals:=λb o e=>Xp (Xe (Xa e) I.ok.above)
 have ie:∀b o,X.s₀.heap.get? b=some o->b∉X.ex->b∉ch:=λb o e hx hb=>by
  rcases(cj b hb).1 with z|z
  ·exact hx z
  ·rw[z]at e;cases e
 have ei:∀x c,X.env.cells.lookup x=some c->∀v,s.heap.IsCell c v->h'.IsCell c v:=λx c e v ⟨o,ho,hd⟩=>by
  have gq:c∉ch:=λz=>(cj c z).2.2.1 x c e rfl
  by_cases hc:c∈X.fs
  ·obtain⟨sl,q⟩:=slot c o (I.cne x c e) hc gq ho (I.freeC x c e);exact⟨_,q,hd⟩
  ·exact⟨o,keep c o (I.cne x c e) hc gq ho (I.freeC x c e),hd⟩
 refine⟨I.ok,I.os,hg,⟨λb o e n hb hx=>?_,λb o e n hb hx=>?_,λb o e n hx=>?_,λb o e hx=>?_,λb xs e=>tups b xs (I.base.tups b xs e),λb o xs e=>frzs b o xs (I.base.frzs b o xs e),λb ps e=>?_⟩,?_,λx c e=>?_,?_,λx c e=>?_,λp hp=>?_,hok,I.len⟩
 ·exact keep b o (n9 b o e) hb (ie b o e hx) (I.base.keep b o e n hb hx) (I.base.free b o e n hx)
 ·obtain⟨sl,e1⟩:=I.base.slot b o e n hb hx;obtain⟨sl',e2⟩:=slot b _ (n9 b o e) hb (ie b o e hx) e1 (I.base.free b o e n hx);exact⟨sl',e2⟩
 ·obtain⟨o',e1⟩:=I.base.there b o e hx;exact free b o' (ie b o e hx) e1 (I.base.free b o e n hx)
 ·obtain⟨o',e1⟩:=I.base.there b o e hx;exact there b o' (ie b o e hx) e1
 ·obtain⟨m1,e1⟩:=I.base.tbls b ps e;obtain⟨m2,e2⟩:=tbls b _ e1;exact⟨m1++m2,by rw[e2,Array.append_assoc]⟩
 ·obtain⟨m,hn,hl⟩:=I.loc;refine⟨m,ns m hn,λi x v e1 e2 e3=>?_⟩;obtain⟨u,r,l⟩:=hl i x v e1 e2 e3;refine⟨u,r,?_⟩;rcases l with l|⟨k,c,e,z⟩
  ·exact .inl l
  ·exact .inr ⟨k,c,e,ei x c e _ z⟩
 ·obtain⟨v,z⟩:=I.cell x c e;exact⟨v,ei x c e v z⟩
 ·obtain⟨m,⟨o,_,_,ho,_⟩,_⟩:=I.loc;exact free _ o (λz=>(cj _ z).2.1 rfl) ho I.free
 ·obtain⟨v,o,ho,hd⟩:=I.cell x c e;exact free c o (λz=>(cj c z).2.2.1 x c e rfl) ho (I.freeC x c e)
 ·obtain⟨e,n,ne,nf,d⟩:=I.pin p hp;have gq:p.1∉ch:=λz=>(cj p.1 z).2.2.2 p hp rfl
  exact⟨keep p.1 p.2 ne nf gq e n,free p.1 p.2 gq e n,ne,nf,d⟩
theorem Inv.callN{g':Array GenState}{t':Nat}{d':Drawn}{ch:List Addr}(I:Inv X pins σ H s)(u:Un (frs X.stack) ch H H' s.heap h')(hok:HOk X.prog X.w H' h')(hg:AllBare g')
  (cj:∀b∈ch,(b∈X.ex\/X.s₀.heap.get? b=none)/\b≠X.env.locals/\(∀x c,X.env.cells.lookup x=some c->c≠b)/\∀p∈X.pn++pins,p.1≠b):
  Inv X pins σ H' { s with heap:=h',gens:=g',drawn:=d',toks:=t' }:=by
 obtain⟨m,⟨o,es,ep,ho,r⟩,_⟩:=id I.loc;obtain⟨sl,hL⟩:=u.any ho I.free λz=>(cj _ z).2.1 rfl
 exact I.stepN (ch:=ch) cj (λb o hL hb hc e n=>u.keep b o e n (λz=>(List.mem_cons.mp (I.stkSub b z)).elim hL hb) hc) (λb o _ _ hc e n=>u.any e n hc) (λb o hc e n=>u.free b o e n hc) (λb o hc e=>u.there b o e hc) u.tups u.frzs u.tbls (λm' hm=>by
  obtain⟨o',mx,lv,i7,r'⟩:=hm;rw[ho]at i7;cases i7;exact⟨_,mx,lv,hL,r'⟩) hok hg
end
end L2
namespace L3
open PySem PySem.Spec PyProof.Rows L2
theorem jxy{e:Value}{env env0:Env}(h:env.frame=env0.frame):noteFrame e env=noteFrame e env0:=by
 unfold noteFrame PySem.frameOf;rw[h]
structure Fl0 (h:Heap)(x:Addr)(C:Value)(vs:Array Value):Prop where
 ob:h.get? x=some { cls:=C,data:=.fields vs }
 sz:1<vs.size
structure FlT (h:Heap)(x T:Addr)(C:Value)(fl:Value):Prop where
 ex:∃vs,h.get? x=some { cls:=C,data:=.fields vs }/\vs[1]?=some (.ref T)
 tb:∃oT ts,h.get? T=some oT/\oT.data=.fields ts/\ts[3]?=some fl
 ne:T≠x
structure Chg (fs ch:List Addr)(h h':Heap):Prop where
 keep:∀b o,h.get? b=some o->b∉fs->b∉ch->h'.get? b=some o
 slot:∀b o,h.get? b=some o->b∉ch->∃sl,h'.get? b=some { cls:=o.cls,dict:=o.dict,data:=o.data,slots:=sl }
 size:h.objs.size<=h'.objs.size
theorem Chg.trans{fs ch ch':List Addr}{h h1 h2:Heap}(a:Chg fs ch h h1)(b:Chg fs ch' h1 h2)(hc:∀x∈ch',x∈ch\/h.get? x=none):Chg fs ch h h2 where
 keep:=λx o e h1 h2=>b.keep x o (a.keep x o e h1 h2) h1 λz=>(hc x z).elim h2 λq=>by rw[q]at e;cases e
 slot:=λx o e hn=>by
  obtain⟨sl,e1⟩:=a.slot x o e hn;obtain⟨lh,e2⟩:=b.slot x _ e1 λz=>(hc x z).elim hn λq=>by rw[q]at e;cases e
  exact⟨lh,e2⟩
 size:=Y1 a.size b.size
theorem Chg.mono{fs ch ch':List Addr}{h h1:Heap}(a:Chg fs ch h h1)(hc:∀x∈ch,x∈ch'):Chg fs ch' h h1:=⟨λb o e h1 h2=>a.keep b o e h1 λz=>h2 (hc b z),λb o e h2=>a.slot b o e λz=>h2 (hc b z),a.size⟩
theorem Chg.of_upd{fs : List Addr}{h : Heap}{a : Addr}{f : Obj -> Obj}: Chg fs [a] h (h.update a f):=
  ⟨λb o e _ hn=>by rw[Yk _ _ _ _ (λz=>hn (List.mem_singleton.mpr z))]; exact e,
   λb o e hn=>⟨o.slots, by rw[Yk _ _ _ _ (λz=>hn (List.mem_singleton.mpr z))]; exact e⟩, by rw[Heap.size_update]; exact X8 _⟩
theorem Chg.of_push{fs:List Addr}{h:Heap}{o:Obj}:Chg fs [] h (h.push o):=
 ⟨λb o e _ _=>X2 _ e,λb o e _=>⟨o.slots,X2 _ e⟩,by rw[Heap.size_push];omega⟩
theorem Chg.of_slots{fs:List Addr}{h h':Heap}(s:Heap.SlotsOnly fs h h'):Chg fs [] h h':=
 ⟨λb o e hn _=>(s.2.1 b hn).trans e,λb o e _=>s.2.2 b o e,by rw[s.1];exact X8 _⟩
theorem Chg.refl{fs ch:List Addr}{h:Heap}:Chg fs ch h h:=⟨λ_ _ e _ _=>e,λb o e _=>⟨o.slots,e⟩,X8 _⟩
section
variable {M:Model}{A:Around}{E:Value->Shared->Prop}{s:Shared}{base:Heap}{env:Env}{outer:List Env}{L x T:Addr}{C fl:Value}
theorem kq4{head:Value}{hadNext:Bool}{vs:Array Value}{Q:Unit->Shared->Prop}(hA:A.frames=some (env::outer))(hF:s.heap.FunFrames base (env::outer))(hL:env.frame=some L)(ho:Fl0 s.heap x C vs)
  (h:∀h' T',Chg (frs (env::outer)) [x] s.heap h'->s.heap.objs.size<=T'->FlT h' x T' C (rawInt ↑L)->Q () { s with heap:=h' }):
  wpAny M A (do
   let a <-PySem.frameOf env
   let pl <-entryPlaceOf L hadNext
   let b <-EntryCells.newEntry head a Value.none (rawInt ↑L) Value.none pl
   setField (Value.ref x) 1 b) Q E s:=by
 refine X0 (wpAny_frameOf_fun hA hF hL λh1 s1=>?_);have hx:x∉frs (env::outer):=λz=>by
  obtain⟨_,o,e,hn⟩:=hF.mem z;rw[ho.ob]at e;cases e;exact hn _ rfl
 have o1:h1.get? x=some { cls:=C,data:=.fields vs }:=(s1.2.1 x hx).trans ho.ob;have fin:∀pl:List Value,IsPlace pl->wpAny M A (do
   let b <-EntryCells.newEntry head (Value.ref L) Value.none (rawInt ↑L) Value.none pl
   setField (Value.ref x) 1 b) Q E { s with heap:=h1 }:=λpl bg=>by
  refine X0 ?_;unfold EntryCells.newEntry newFields;have har:([head,Value.ref L,Value.none,rawInt ↑L,Value.none]++if pl.isEmpty=true then List.replicate 6 Value.none else pl).toArray[3]?=some (rawInt ↑L):=by simp
  have hsz:([head,Value.ref L,Value.none,rawInt ↑L,Value.none]++if pl.isEmpty=true then List.replicate 6 Value.none else pl).toArray.size<=sizeLine+2:=by
   rcases bg with rfl|⟨_,_,_,_,_,_,_,rfl⟩<;>simp<;>decide
  generalize ([head,Value.ref L,Value.none,rawInt ↑L,Value.none]++if pl.isEmpty=true then List.replicate 6 Value.none else pl).toArray=ar at har hsz;refine Y2 ?_ hsz;have o2:(h1.push { cls:=.type "traceback",data:=.fields ar }).get? x=some { cls:=C,data:=.fields vs }:=X2 _ o1;refine wpAny_setField (s:={ s with heap:=h1.push _ }) o2 rfl ho.sz ?_;have cy:h1.objs.size≠x:=λe=>absurd (Xa o1) (by rw[<-e];exact Y8 _)
  have o3:((h1.push { cls:=.type "traceback",data:=.fields ar }).update x (Obj.mapFields λy=>y.setIfInBounds 1 (.ref h1.objs.size))).get? h1.objs.size=some { cls:=.type "traceback",data:=.fields ar }:=by
   rw[Yk _ _ _ _ cy];exact Xd _ rfl
  refine h _ h1.objs.size (((Chg.of_slots s1).mono (λ_ z=>nomatch z)).trans ((Chg.of_push.mono λ_ z=>nomatch z).trans (ch:=[x]) Chg.of_upd λy hy=>.inl hy) λy hy=>.inl hy) (by rw[s1.1];exact X8 _) ⟨⟨vs.setIfInBounds 1 (.ref h1.objs.size),?_,Array.getElem?_setIfInBounds_self_of_lt ho.sz⟩,⟨_,_,o3,rfl,har⟩,cy⟩;exact Heap.get?_update_self _ o2 rfl
 exact X0 (wpAny_entryPlaceOf λpl bg=>fin pl bg)
theorem vqv{vs:Array Value}{Q:Unit->Shared->Prop}(hA:A.frames=some (env::outer))(hF:s.heap.FunFrames base (env::outer))(hL:env.frame=some L)(ho:Fl0 s.heap x C vs)(hv:vs[1]?=some .none)
  (h:∀h' T',Chg (frs (env::outer)) [x] s.heap h'->s.heap.objs.size<=T'->FlT h' x T' C (rawInt ↑L)->Q () { s with heap:=h' }):wpAny M A (noteFrame (.ref x) env) Q E s:=by
 unfold noteFrame;rw[hL];refine X0 (Xq ho.ob rfl hv ?_);exact kq4 (hadNext:=false) hA hF hL ho h
theorem upd3{T:Addr}{oT:Obj}{ts:Array Value}{v:Value}{h:Heap}(e:h.get? T=some oT)(ed:oT.data=.fields ts)(h3:3<ts.size):
  ∃o' ts',(h.update T (Obj.mapFields λy=>y.setIfInBounds 3 v)).get? T=some o'/\o'.data=.fields ts'/\ts'[3]?=some v:=by
 obtain⟨c,d,dt,sl⟩:=oT;cases(show dt=.fields ts from ed);exact⟨_,ts.setIfInBounds 3 v,Heap.get?_update_self _ e rfl,rfl,Array.getElem?_setIfInBounds_self_of_lt h3⟩
theorem vqu{Q:Unit->Shared->Prop}(hA:A.frames=some (env::outer))(hF:s.heap.FunFrames base (env::outer))(hL:env.frame=some L)(f:FlT s.heap x T C fl)
  (h:∀h' T',Chg (frs (env::outer)) [x,T] s.heap h'->(s.heap.objs.size<=T'\/T'=T)->FlT h' x T' C (rawInt ↑L)->Q () { s with heap:=h' }):wpAny M A (noteFrame (.ref x) env) Q E s:=by
 obtain⟨⟨vs,e1,v1⟩,⟨oT,ts,e2,d2,v2⟩,cy⟩:=f;have h3:3<ts.size:=by
  rw[Array.getElem?_eq_some_iff]at v2;exact v2.1
 have h1:1<vs.size:=by
  rw[Array.getElem?_eq_some_iff]at v1;exact v1.1
 unfold noteFrame;rw [hL];refine X0 (Xq e1 rfl v1 ?_);show wpAny M A (if((Value.ref T != Value.none)=true)then _ else _) Q E s;rw [Xb (show(Value.ref T != Value.none)=true from rfl)];refine X0 (Xq e2 d2 v2 ?_)
 by_cases hf:(fl==rawInt ↑L)=true
 ·rw[Xb hf];have e:fl=rawInt ↑L:=eq_of_beq hf;subst e;exact X9 (h s.heap T Chg.refl (.inr rfl) ⟨⟨vs,e1,v1⟩,⟨oT,ts,e2,d2,v2⟩,cy⟩)
 ·rw[Xj hf];refine X0 (wpAny_setField e2 d2 h3 ?_);have c1:Chg (frs (env::outer)) [x,T] s.heap (s.heap.update T (Obj.mapFields λy=>y.setIfInBounds 3 Value.none)):=Chg.of_upd.mono λy hy=>by
   rw[List.mem_singleton.mp hy];simp
  have e1':(s.heap.update T (Obj.mapFields λy=>y.setIfInBounds 3 Value.none)).get? x=some { cls:=C,data:=.fields vs }:=by
   rw[Yk _ _ _ _ cy.symm];exact e1
  have hF':(s.heap.update T (Obj.mapFields λy=>y.setIfInBounds 3 Value.none)).FunFrames base (env::outer):=by
   refine hF.of_keeps λb o e hn=>⟨o,?_,rfl⟩
   rw[Yk _ _ _ _ λz=>?_]
   ·exact e
   ·rw[z,e2]at e;cases e;exact hn _ d2
  refine kq4 (s:={ s with heap:=s.heap.update T _ }) (hadNext:=true) hA hF' hL ⟨e1',h1⟩ λh' T' c2 hs f'=>?_
  refine h h' T' (c1.trans (c2.mono (ch':=[x,T]) λy hy=>by rw[List.mem_singleton.mp hy];simp) λy hy=>.inl hy) (.inl ?_) f';rw[Heap.size_update]at hs;exact hs
theorem vjw{Q:Unit->Shared->Prop}{fr:Option Addr}(f:FlT s.heap x T C fl)(h:∀h',Chg (frs outer) [x,T] s.heap h'->FlT h' x T C (fr.elim Value.none λf=>rawInt ↑f)->Q () { s with heap:=h' }):wpAny M A (setFlight (.ref x) fr) Q E s:=by
 obtain⟨⟨vs,e1,v1⟩,⟨oT,ts,e2,d2,v2⟩,cy⟩:=f;have h3:3<ts.size:=by
  rw[Array.getElem?_eq_some_iff]at v2;exact v2.1
 unfold setFlight;refine X0 (Xq e1 rfl v1 ?_);rw[Xb (show(Value.ref T != Value.none)=true from rfl)];refine wpAny_setField e2 d2 h3 (h _ (Chg.of_upd.mono λy hy=>by rw[List.mem_singleton.mp hy];simp) ⟨⟨vs,?_,v1⟩,upd3 e2 d2 h3,cy⟩);rw[Yk _ _ _ _ cy.symm];exact e1
end
structure XCls (K:PySem.W.Frag)(C:Addr):Prop where
 ga:PySem.W.findIn K (.ref C) "__getattribute__"=some (some (.builtin "BaseException.__getattribute__"))
 gt:PySem.W.findIn K (.ref C) "__getattr__"=some none
 fo:PySem.W.findObj K C none "__class__"=some (.bind (.builtin "getset_descriptor.__get__") (.builtin "object.__class__"))
 ob:PySem.W.mroIn K C (.type "object")=some true
 bx:PySem.W.mroIn K C (.type "BaseException")=some true
 cl:(PySem.W.clsIn K C).isSome=true
noncomputable def FpX(X:Cx)(pins:List (Addr×Obj))(H:Hp)(b:Addr):Prop:=
 H b=none/\b≠X.env.locals/\b∉X.fs/\(b∈X.ex\/X.s₀.heap.get? b=none)/\(∀x c,X.env.cells.lookup x=some c->c≠b)/\∀p∈X.pn++pins,p.1≠b
section
variable {X:Cx}{pins:List (Addr×Obj)}{σ:L2.St}{H:Hp}{s:Shared}
theorem fpX{H':Hp}{b:Addr}(I:Inv X pins σ H s)(hb:s.heap.get? b=none)(hn:H' b=none):FpX X pins H' b:=by
 refine⟨hn,λz=>?_,λz=>?_,?_,λx c e z=>?_,λp hp z=>?_⟩
 ·obtain⟨m,⟨o,_,_,ho,_⟩,_⟩:=I.loc;rw[<-z,hb]at ho;cases ho
 ·obtain⟨_,o,e,_⟩:=I.ok.funs.mem z
  by_cases hx:b∈X.ex
  ·exact I.ok.exfs b hx z
  ·obtain⟨o',e'⟩:=I.base.there b o e hx;rw[hb]at e';cases e'
 ·by_cases hx:b∈X.ex
  ·exact .inl hx
  ·cases e:X.s₀.heap.get? b with
   |none=>exact .inr rfl
   |some o=>
    obtain⟨o',e'⟩:=I.base.there b o e hx;rw[hb]at e';cases e'
 ·obtain⟨v,o,ho,_⟩:=I.cell x c e;rw[z,hb]at ho;cases ho
 ·have:=(I.pin p hp).1;rw[z,hb]at this;cases this
theorem FpX.of{b:Addr}(h:qZ X pins H b):FpX X pins H b:=⟨h.1,h.2.1,h.2.2.1,h.2.2.2.1.imp id λz=>Heap.get?_none_of_le z,h.2.2.2.2⟩
theorem kqw{h':Heap}{ch:List Addr}(I:Inv X pins σ H s)(c:Chg (frs X.stack) ch s.heap h')(hf:∀b∈ch,FpX X pins H b):Inv X pins σ H { s with heap:=h' }:=by
 refine I.callN (g':=s.gens) (t':=s.toks) (d':=s.drawn) (ch:=ch) ⟨λb o e _ h1 h2=>c.keep b o e h1 h2,λb o e _ _ h2=>c.slot b o e h2,λ_ _ _ n _=>n,λb o e h2=>?_,λ_ _ e=>e,λ_ _ _ e=>e,λ_ _ e=>⟨#[],by rw[e];simp⟩⟩ (λb u e=>?_) I.bare λb hb=>?_
 ·obtain⟨sl,q⟩:=c.slot b o e h2;exact⟨_,q⟩
 ·have no:∀d v,H d=some v->d∉frs X.stack/\d∉ch:=λd v e=>⟨λz=>(by rw[I.stkFree d z]at e;cases e),λz=>(by rw[(hf d z).1]at e;cases e)⟩
  refine(I.hok b u e).stay (λd v hc q=>?_) (λ_ q=>q) λ_ _ q=>q
  rcases hc with z|z
  ·rw[z]at q ⊢;exact c.keep b v q (no b u e).1 (no b u e).2
  ·exact c.keep d v q (no d _ z).1 (no d _ z).2
 ·obtain⟨_,f1,_,f3,f4,f5⟩:=hf b hb;exact⟨f3,f1,f4,f5⟩
end
structure Fx (X:Cx)(pins:List (Addr×Obj))(H:Hp)(h:Heap)(x:Addr)(C:Value):Prop where
 fp:FpX X pins H x
 st:(∃vs,Fl0 h x C vs/\vs[1]?=some .none)\/∃T fl,FlT h x T C fl/\FpX X pins H T
structure Xt (X:Cx)(pins:List (Addr×Obj))(σ:L2.St)(H:Hp)(x T:Addr)(C fl:Value)(s:Shared):Prop where
 inv:Inv X pins σ H s
 fx:FpX X pins H x
 fT:FpX X pins H T
 f:FlT s.heap x T C fl
theorem Xt.to{X:Cx}{pins:List (Addr×Obj)}{σ:L2.St}{H:Hp}{x T:Addr}{C fl:Value}{s:Shared}(h:Xt X pins σ H x T C fl s):Fx X pins H s.heap x C:=⟨h.fx,.inr ⟨T,fl,h.f,h.fT⟩⟩
noncomputable def Xo(X:Cx)(E:XK)(e:Value)(s:Shared):Prop:=∃pins σ H x C,e=.ref x/\Inv X pins σ H s/\Fx X pins H s.heap x C/\E C none H
def z9(X:Cx)(E:XK):Prop:=∀pins σ H s x C,Inv X pins σ H s->Fx X pins H s.heap x C->E C none H->X.xe (.ref x) s
abbrev Cx.ex'(X:Cx)(E:XK):Cx:=X.wish (Xo X E)
theorem xw{X:Cx}{E:XK}:z9 (Cx.ex' X E) E:=λpins σ H s x C I f q=>⟨pins,σ,H,x,C,rfl,I.unwish,⟨f.fp,f.st⟩,q⟩
def Jk(X:Cx):Prop:=∃env0 out,X.stack=env0::out/\X.env.frame=env0.frame
section
variable {X:Cx}{pins:List (Addr×Obj)}{σ:L2.St}{H:Hp}{s:Shared}{M:Model}{E':Value->Shared->Prop}{x T:Addr}{C fl:Value}
theorem kz4{A:Around}{Q:Unit->Shared->Prop}(top:Jk X)(hA:A.frames=X.A.frames)(I:Inv X pins σ H s)(f:Fx X pins H s.heap x C)(h:∀L T s',X.env.frame=some L->Xt X pins σ H x T C (rawInt ↑L) s'->Q () s'):
  wpAny M A (noteFrame (.ref x) X.env) Q E' s:=by
 obtain⟨env0,out,e1,e2⟩:=top;have hF:=I.stack;have lq:A.frames=some (env0::out):=by rw[hA,I.ok.frames,e1]
 rw[e1]at hF;obtain⟨_,⟨L,o,hL,_⟩,_⟩:=id hF;rw[jxy e2];have hL':X.env.frame=some L:=e2.trans hL;rcases f.st with⟨vs,f0,hv⟩|⟨T,fl,fT,pT⟩
 ·refine vqv lq hF hL f0 hv λh' T' c hs iw=>h L T' _ hL' ⟨?_,f.fp,fpX I (Heap.get?_none_of_le hs) (I.hok.fresh hs),iw⟩
  rw[<-e1]at c;exact kqw I c λb hb=>by rw[List.mem_singleton.mp hb];exact f.fp
 ·refine vqu lq hF hL fT λh' T' c hs iw=>?_
  rw[<-e1]at c;refine h L T' _ hL' ⟨kqw I c λb hb=>?_,f.fp,?_,iw⟩
  ·simp only[Xk,Xh,or_false]at hb;rcases hb with rfl|rfl
   ·exact f.fp
   ·exact pT
  ·rcases hs with hs|hs
   ·exact fpX I (Heap.get?_none_of_le hs) (I.hok.fresh hs)
   ·rw[hs];exact pT
theorem kk0{A:Around}{Q:Unit->Shared->Prop}{fr:Option Addr}(t:Xt X pins σ H x T C fl s)(h:∀s',Xt X pins σ H x T C (fr.elim Value.none λf=>rawInt ↑f) s'->Q () s'):wpAny M A (setFlight (.ref x) fr) Q E' s:=by
 refine vjw (outer:=X.stack) t.f λh' c iw=>h _ ⟨kqw t.inv c λb hb=>?_,t.fx,t.fT,iw⟩
 simp only[Xk,Xh,or_false]at hb;rcases hb with rfl|rfl
 ·exact t.fx
 ·exact t.fT
theorem vj0{α:Type}{A:Around}{what:String}{gz:Env}{Q:α->Shared->Prop}(t:Xt X pins σ H x T C fl s)(h:∀s' iw,Xt X pins σ H x T C iw s'->E' (.ref x) s'):wpAny M A (PySem.passOn what (.ref x) gz:Sem α) Q E' s:=by
 unfold PySem.passOn;obtain⟨vs,e1,v1⟩:=t.f.ex;refine X0 (Xq e1 rfl v1 ?_);rw[Xj (show ¬(Value.ref T==Value.none)=true by intro z;cases z)];refine X0 (kk0 t λs' t'=>?_);exact wpAny_throw (h s' _ t')
theorem vj3{E:XK}(top:Jk X):PassesOwn M X.A X.env (Xo X E):=by
 rintro e s' ⟨pins,σ,H,x,C,rfl,I,f,q⟩;unfold notedBy;refine kz4 top rfl I f λL T s1 _ t=>?_
 unfold cameBackBy;obtain⟨vs,e1,v1⟩:=t.f.ex;refine X0 (Xq e1 rfl v1 ?_);rw[Xj (show ¬(Value.ref T==Value.none)=true by intro z;cases z)];exact kk0 t λs2 t2=>⟨pins,σ,H,x,C,rfl,t2.inv,t2.to,q⟩
end
noncomputable def CXE(P:Program)(w:World):CXT:=λouter H s E e s'=>∃x T C fl H',e=.ref x/\s'.os=s.os/\AllBare s'.gens/\Un (frs outer) [] H H' s.heap s'.heap/\HOk P w H' s'.heap /\
 s.heap.get? x=none/\s.heap.get? T=none/\H' x=none/\H' T=none/\FlT s'.heap x T C fl/\E C none H'
theorem vqp{X:Cx}{E:XK}(g:z9 X E):qji (CXE X.prog X.w) X E:=by
 rintro pins σ H s e s' I ⟨x,T,C,fl,H',rfl,os,bare,un,hok,hx,hT,nx,nT,f,q⟩;refine g pins σ H' s' x C (I.call' os un hok bare λb hb=>nomatch hb) ⟨fpX I hx nx,.inr ⟨T,fl,f,fpX I hT nT⟩⟩ q
theorem qv4{CX:CXT}{P:Program}{w:World}{K:PySem.W.Frag}{mg:Str->Option Value}{base:Heap}{N:List Str}{qual:Str}{scope:Scope}{f:Addr}{cd:Value}{A:Around}{outer:List Env}{s:Shared}{H:Hp}{E:XK}:
  Jk (J3 CX P w K mg base N qual scope f cd A outer s H E):=⟨_,_,rfl,rfl⟩
theorem kzh{P:Program}{w:World}{K:PySem.W.Frag}{mg:Str->Option Value}{base:Heap}{N:List Str}{qual:Str}{scope:Scope}{f:Addr}{cd:Value}{A:Around}{outer:List Env}{s:Shared}{H:Hp}{E:XK}{e:Value}{s':Shared}
  (h:Xo (J3 (CXE P w) P w K mg base N qual scope f cd A outer s H E) E e s'):(J3 (CXE P w) P w K mg base N qual scope f cd A outer s H E).xe e s':=by
 obtain⟨pins,σ,H',x,C,rfl,I,fx,q⟩:=h;show wpAny (model P w) _ (leaving _ (.ref x)) _ _ s';unfold leaving;refine X0 (kz4 (X:=J3 (CXE P w) P w K mg base N qual scope f cd A outer s H E) qv4 rfl I fx λL T s1 _ t=>?_);refine kk0 t λs2 t2=>?_
 have ge:∀b,FpX (J3 (CXE P w) P w K mg base N qual scope f cd A outer s H E) pins H' b->s.heap.get? b=none:=λb hb=>hb.2.2.2.1.elim (λz=>nomatch z) λz=>z
 exact⟨x,T,C,_,H',rfl,t2.inv.os,t2.inv.bare,t2.inv.base,t2.inv.hok,ge x t2.fx,ge T t2.fT,t2.fx.1,t2.fT.1,t2.f,q⟩
section
variable {P:Program}{w:World}{K:PySem.W.Frag}{mg:Str->Option Value}{base:Heap}
theorem vx{x qual:Str}{st:Stmt}{f:Addr}{fd:FuncData}{N ps:List Str}{k:Nat}{sp:Sp}(F:Fun K x qual st f fd)(S:FnScope N ps (kW st))(len:∀vs H Q E,sp vs H Q E->vs.length=ps.length)
  (gm:∀(bd:Value) (A:Around) (outer:List Env) (s:Shared) (H:Hp) (vs:List V) (Q:VK) (E:XK),Room k (A.deeper (envOfC qual (kW st) s.heap.objs.size f bd))->sp vs H Q E ->
   ∃t,PSs (Cx.ex' (J3 (CXE P w) P w K mg base N qual (kW st) f bd A outer s H E) E) (JY st) t/\t { nx:=λ_ H'=>Q .non H',rt:=Q } (L2.start N vs) H):FnOk P w K mg base (CXE P w) (k+1) f fd ps sp:=by
 obtain⟨oc,od,kV,ef,pm,an,bd,ct,ji,rfl,lk,fe⟩:=F.ex;refine vv6 lk fe S len λA outer s H vs Q E hr jg=>?_
 obtain⟨t,h,q⟩:=gm bd A outer s H vs Q E hr jg;exact⟨t,λpins s' σ H' D I hw=>wpAny_mono (h pins s' σ H' D (I.wish _) hw) (λf kt z=>z.unwish) λe kt z=>kzh z,q⟩
noncomputable def kz(P:Program)(w:World)(K:PySem.W.Frag)(mg:Str->Option Value)(base:Heap)(k:Nat)(x:Str)(ps:List Str)(sp:Sp):Prop:=
 ∃(f:Addr) (fd:FuncData),FnOk P w K mg base (CXE P w) k f fd ps sp/\Binds K fd ps []/\PySem.W.keepIn K (.ref f)=true/\mg x=some (.ref f)
end
section
variable {X:Cx}{x:Str}{p pos:Pos}{e:Expr}{es:List Expr}{t:TA}{ps:List Str}{sp:Sp}{k:Nat}{v:V}{E:XK}
theorem qq9(D:kz X.prog X.w X.K X.mg X.base k x ps sp)(hr:Room k X.A)(g:z9 X E)(ha:PA X (e::es) t)(hg:autoParam (Gl X x) Ŕ)(dq:autoParam ((x==("__debug__":Str))=false) ŕ)
  (he:autoParam (starEach (e::es) X.env=(false,eval e X.env)::starEach es X.env) Ŕ) (bg:autoParam ((backTo pos (starEach es X.env)).any (·.1)=false) Ŕ):
  PE X (.Call (.Name x p) (e::es) [] pos) (qxo sp [] E t):=by
 obtain⟨f,fd,F,b,kp,m⟩:=D;exact qw0 F hr hg m kp b .nil (vqp g) ha dq he bg
end
abbrev lcE(X:Cx)(scope:Scope)(N:List Str)(cl:List (Str×Addr))(C:Addr)(s0:Shared)(H0:Hp)(fp:List Addr)(EX:XK):Cx:=Cx.ex' (lcX X scope N cl C s0 H0 fp) EX
section
variable {prog:Program}{w:World}{A:Around}{R:Result->Shared->Prop}{s:Shared}
theorem qwj{dk cu ao:Expr}{d7:List Expr}{scope:Scope}{pos:Pos}{it af:Value}{env:Env}(Ex:Value->Shared->Prop)(I:Nat->Shared->Prop)
  (dw:∀n s,I n s->wpAny (model prog w) A (pyNext it) (λr s1=>match r with
   | none=>R (.ok .next) s1
   | some v=>wpAny (model prog w) A (letOwnedTupleGo cu it v) (λ_ s2=>wpAny (model prog w) A (assign cu env v) (λ_ s3=>
     wpAny (model prog w) A (kzj d7 env) (λok s4=>
      if ok=true then
       wpAny (model prog w) A (eval dk env) (λx s5=>wpAny (model prog w) A (call (.builtin "list.append") [af,x]) (λ_ s6=>∃m,m<n/\I m s6) Ex s5) Ex s4
      else ∃m,m<n/\I m s4) Ex s3) Ex s2) Ex s1) Ex s)
  (hx:∀e s,Ex e s->notedBy (model prog w) A env (λe s'=>R (.error e) s') e s) (n:Nat) (h:I n s):codeAny (model prog w) A (.compLoop (.ListComp dk [⟨cu,ao,d7,0⟩] scope pos) 0 it af env) R s:=by
 refine codeAny_loop rfl I (λn s hI=>?_) n h;show wpAny _ A ((compTurn (.ListComp dk [⟨cu,ao,d7,0⟩] scope pos) 0 it af env).onRaise _) _ _ s;refine wpAny_noted ?_;rw[compTurn_list];refine wpAny_mono (E:=Ex) (X0 (wpAny_standAt (X0 (thn (dw n s hI) λr s1 h1=>?_)))) (λ_ _ q=>q) (λe s q=>?_)
 rotate_left
 ·exact hx e s q
 cases r with
 |none=>exact X9 h1
 |some v=>
  refine X0 (thn h1 λ_ s2 h2=>?_);refine X0 (thn h2 λ_ s3 h3=>?_);refine X0 (thn h3 λok s4 h4=>?_);cases ok with
  |false=>exact X9 ⟨rfl,h4⟩
  |true=>exact X0 (X0 (thn h4 λx s5 h5=>X0 (thn h5 λ_ s6 h6=>X9 (X9 ⟨rfl,h6⟩))))
end
section
variable {X:Cx}{tg ao dk:Expr}{d7:List Expr}{scope:Scope}{N:List Str}{k:Nat}{R:List Nat}{g:TG}{tt:TT}{te:TE}{pos:Pos}
theorem qqf{EX:XK}{pins bz:List (Addr×Obj)}{σ σ':L2.St}{H2 H':Hp}{s2 s':Shared}{fp:List Addr}{cl:List (Str×Addr)}{C x T:Addr}{Cc fl:Value}{Q:Value->Shared->Prop}{af:Value}{use:Option (Value->Sem Unit)}(gx:z9 X EX)
  (I2:Inv X pins σ H2 s2) (f2:∀b∈fp,qZ X pins H2 b) (hC:s2.heap.objs.size<=C) (t:Xt (lcX X scope N cl C s2 H2 fp) bz σ' H' x T Cc fl s') (q:EX Cc none H'):
  compPost (model X.prog X.w) X.A X.xe use Q af C (.error (.ref x)) s':=by
 obtain⟨m,hn,_⟩:=t.inv.loc;refine⟨m,hn,λh' sb gz _=>?_⟩;have J1:Inv X pins σ H' s':=I2.call' t.inv.os t.inv.base t.inv.hok t.inv.bare λb hb=>⟨(f2 b hb).2.2.2.1,(f2 b hb).2.1,(f2 b hb).2.2.2.2.1,(f2 b hb).2.2.2.2.2⟩
 have fC:qZ X pins H' C:=I2.fpOk hC t.inv.free;have J2:Inv X pins σ H' { s' with heap:=h',toks:=s'.toks }:=J1.turned (it:=C) (λb o hb e=>(sb.2 b hb).trans e) fC.1 fC.2.1 fC.2.2.2.1 fC.2.2.2.2.1 fC.2.2.2.2.2;have fp':∀b,FpX (lcX X scope N cl C s2 H2 fp) bz H' b->FpX X pins H' b:=λb hb=>by
  rcases hb.2.2.2.1 with z|z
  ·exact⟨hb.1,(FpX.of (f2 b z)).2⟩
  ·exact fpX I2 z hb.1
 have nx:x≠C:=t.fx.2.1;have nT:T≠C:=t.fT.2.1;have f:FlT h' x T Cc fl:=by
  obtain⟨⟨vs,e1,v1⟩,⟨oT,ts,e2,d2,v2⟩,cy⟩:=t.f;exact⟨⟨vs,(sb.2 x nx).trans e1,v1⟩,⟨oT,ts,(sb.2 T nT).trans e2,d2,v2⟩,cy⟩
 refine vj0 (X:=X) (pins:=pins) (σ:=σ) (H:=H') (s:={ s' with heap:=h' }) ⟨J2,fp' x t.fx,fp' T t.fT,f⟩ λs3 iw t3=>gx pins σ H' s3 x Cc t3.inv t3.to q
theorem kkw{EX:XK}{pins:List (Addr×Obj)}{σ:L2.St}{H2:Hp}{s2:Shared}{it:Addr}{fp:List Addr}{tn:Nat->Heap->Prop}{J:It}{Q:VK}{W:Nat->Nat->List V->L2.St->Hp->Prop}{cl:List (Str×Addr)}{E:Value->Shared->Prop}
  {RR:Value->Addr->Result->Shared->Prop} (hc:X.calm=true) (top:Jk X) (sc:LcOk X scope N k R)
  (cw:∀x c,cl.lookup x=some c->X.env.cells.lookup x=some c) (bb:∀y∈scope.names,y.2=.free->∃c,cl.lookup y.1=some c)
  (hg:∀C s0 H0 fp,PG (lcE X scope N cl C s0 H0 fp EX) tg g) (ht:∀C s0 H0 fp,PTs (lcE X scope N cl C s0 H0 fp EX) d7 tt) (he:∀C s0 H0 fp,PE (lcE X scope N cl C s0 H0 fp EX) dk te)
  (I2:Inv X pins σ H2 s2) (T:Turn X.prog X.w X.K tg J fp it tn) (bi:tn 0 s2.heap) (f2:∀b∈fp,qZ X pins H2 b) (w0:∃m,W 0 m [] (zX k R σ) H2) (dw:LcW g tt te Q J W)
  (hRR:∀D C oC m ys H' s',Inv X (pins++[(C,oC)]) σ (upd H' D (.lst ys)) s'->s'.heap.get? C=some oC->s'.heap.Ns C m->qZ X pins (upd H' D (.lst ys)) C->Q (.ref D) (upd H' D (.lst ys))->RR (.ref D) C (.ok .next) s')
  (hER:∀D C s' bz σ' H' x T Cc fl,s2.heap.objs.size<=C->Xt (lcX X scope N cl C s2 H2 fp) bz σ' H' x T Cc fl s'->EX Cc none H'->RR (.ref D) C (.error (.ref x)) s'):
  wpAny (model X.prog X.w) X.A (newList []) (λaf s3=>wpAny (model X.prog X.w) X.A (newFunctionEnv scope X.env.globals cl [] X.env.qual none .none (some X.env)) (λgz s4=>
   codeAny (model X.prog X.w) X.A (.compStart (.ListComp dk [⟨tg,ao,d7,0⟩] scope pos) 0 (.ref it) af { gz with scope:=relabel scope X.env }) (RR af gz.locals) s4) E s3) E s2:=by
 have mq:∀b∈fp,∃o,s2.heap.get? b=some o:=λb hb=>let ⟨o,e,_⟩:=T.obj 0 _ bi b hb;⟨o,e⟩
 refine Y2 (wpAny_newFunctionEnv sc.nocell (by intro y hy;simp at hy) (λh1 hn1 me=>?_) sc.kind);dsimp only at hn1 me ⊢;generalize eH:s2.heap.push { cls:=.type "list",dict:=none,data:=.seq ([]:List Value).toArray }=Hx at hn1 me ⊢;have eC:Hx.objs.size=s2.heap.objs.size+1:=by rw[<-eH,Heap.size_push]
 generalize eD:s2.heap.objs.size=D at eC;generalize eC':Hx.objs.size=C at hn1 me eC ⊢;have lc:D≠C:=by omega
 have hC:s2.heap.objs.size<=C:=by omega
 have hD:s2.heap.objs.size<=D:=by omega
 have jl:∀b o,s2.heap.get? b=some o->h1.get? b=some o:=λb o e=>by
  exact me.extBut b o (Xp (Xe (Xa e) hC)) (X2 _ (eH▸X2 _ e))
 have accD:h1.get? D=some (Vw [] 0):=by
  refine me.extBut _ _ lc (X2 _ ?_);rw [<-eH,<-eD];exact Xd _ rfl
 have gy:∀b∈fp,b≠D/\b≠C:=λb hb=>by
  obtain⟨o,e⟩:=mq b hb;exact⟨Xp (Xe (Xa e) hD),Xp (Xe (Xa e) hC)⟩
 have ff:∀{H':Hp} {oD:Obj},(∀b∈fp,H' b=none)->∀b∈fp,qZ (lcE X scope N cl C s2 H2 fp EX) [(D,oD)] H' b:=fun {H' oD} hn b hb=>by
  obtain⟨_,f1,f3,f4,f5,f6⟩:=f2 b hb;refine⟨hn b hb,(gy b hb).2,λz=>?_,.inl hb,λx c h=>f5 x c (cw x c h),λp hp=>?_⟩
  ·rcases List.mem_cons.mp (I2.stkSub b z)with y|y
   ·exact f1 y
   ·exact f3 y
  ·have e:p=(D,oD):=by
    have hp:p∈([]++[(D,oD)]:List (Addr×Obj)):=hp
    simpa using hp
   rw [e];exact(gy b hb).1.symm
 have mn:∀s3:Shared,s3={ s2 with heap:=h1,toks:=s2.toks+([]:List (Str×Value)).length } ->
   codeAny (model X.prog X.w) X.A (.compLoop (.ListComp dk [⟨tg,ao,d7,0⟩] scope pos) 0 (.ref it) (.ref D) (compEnvC scope cl C X.env)) (RR (.ref D) C) s3:=by
  rintro s3 rfl;obtain⟨m0,w0⟩:=w0;have hxx:∀e s,Xo (lcX X scope N cl C s2 H2 fp) EX e s->notedBy (model X.prog X.w) X.A (compEnvC scope cl C X.env) (λe s'=>RR (.ref D) C (.error e) s') e s:=by
   rintro e s ⟨bz,σ',H',x,Cc,rfl,I',f',q'⟩;have top':Jk (lcX X scope N cl C s2 H2 fp):=top;exact kz4 (X:=lcX X scope N cl C s2 H2 fp) top' rfl I' f' λL T s1 _ t=>hER D C s1 bz σ' H' x T Cc _ hC t q'
  refine qwj (Xo (lcX X scope N cl C s2 H2 fp) EX) (λn s'=>∃i ys aa nn σ' H',Inv (lcE X scope N cl C s2 H2 fp EX) [(D,Vw aa nn)] σ' H' s'/\Vals ys aa/\tn i s'.heap/\(∀b∈fp,H' b=none)/\W i n ys σ' H') ?_ hxx m0
   ⟨0,[],[],0,_,H2,(qwh I2 sc f2 mq hC hD lc cw bb jl hn1 accD (λv z=>by cases z)).wish _,.nil,T.keep _ _ _ bi (λb hb o e=>jl b o e),λb hb=>(f2 b hb).1,w0⟩
  rintro n s3 ⟨i,ys,aa,nn,σ3,H3,I3,rv,cz,fr3,w3⟩;rcases dw i n ys σ3 H3 w3 with⟨stop,hz,qn⟩|⟨go,step⟩
  ·refine thn (T.done (lcE X scope N cl C s2 H2 fp EX) rfl rfl rfl hc i _ s3 σ3 H3 _ I3 (ff fr3) cz stop) λr s4 ⟨hr,I4⟩=>?_
   subst hr;show RR (.ref D) C (.ok .next) s4;have hD4:=I4.pin (D,Vw aa nn) (by show _∈([]++[(D,Vw aa nn)]:List (Addr×Obj));simp);have J1:Inv X pins σ H3 s4:=I2.call' I4.os I4.base I4.hok I4.bare λb hb=>⟨(f2 b hb).2.2.2.1,(f2 b hb).2.1,(f2 b hb).2.2.2.2.1,(f2 b hb).2.2.2.2.2⟩
   have fD:qZ X pins H3 D:=I2.fpOk hD hD4.2.1;have fC:qZ X pins H3 C:=I2.fpOk hC I4.free;have J2:Inv X pins σ (upd H3 D (.lst ys)) s4:=jz1 J1 hD4.2.1 fD.2.1 fD.2.2.2.1 fD.2.2.2.2.1 fD.2.2.2.2.2 ⟨hz,aa,nn,rv,hD4.1⟩;obtain⟨mC,nC,_⟩:=I4.loc;obtain⟨oC,es,ep,hoC,hdC,jd⟩:=id nC;have fC':qZ X pins (upd H3 D (.lst ys)) C:=⟨by rw[kZ lc.symm];exact fC.1,fC.2⟩;refine hRR D C oC mC ys H3 s4 (J2.pins_of λp hp=>?_) hoC nC fC' (qn D hD4.2.1);rcases List.mem_append.mp hp with z|z
   ·exact J2.pin p (lr9 _ z)
   ·rw[List.mem_singleton.mp z];exact⟨hoC,fC'.1,fC'.2.1,fC'.2.2.1,λv y=>by rw[hdC]at y;cases y⟩
  ·refine thn (T.item (lcE X scope N cl C s2 H2 fp EX) rfl rfl rfl hc i _ s3 σ3 H3 _ I3 (ff fr3) cz go) λr s4 ⟨u,hr,h4⟩=>?_
   subst hr;refine thn h4 λ_ s5 ⟨x,H5,I5,r5,y5,st5,fr5⟩=>?_
   have I5':=I5.pinned (ff fr5) (T.obj _ _ st5);have fk:∀{σ':L2.St} {H':Hp} {s':Shared} {pl:List (Addr×Obj)},Inv (lcE X scope N cl C s2 H2 fp EX) (pl++JW fp s5.heap) σ' H' s'->tn (i+1) s'.heap/\∀b∈fp,H' b=none:=fun {σ' H' s' pl} I'=>by
    have q:∀b∈fp,∀o,s5.heap.get? b=some o->s'.heap.get? b=some o/\H' b=none:=λb hb o e=>by
     obtain⟨a1,a2,_⟩:=I'.pin (b,o) (lr9 _ (lr9 _ (jwr hb e)));exact⟨a1,a2⟩
    refine⟨T.keep _ _ _ st5 λb hb o e=>(q b hb o e).1,λb hb=>?_⟩;obtain⟨o,e,_⟩:=T.obj _ _ st5 b hb;exact(q b hb o e).2
   refine thn (hg C s2 H2 fp _ s5 σ3 H5 x u _ I5' r5 (step x H5 y5)) λ_ s6 ⟨σ6,H6,I6,Ny,Nn,hNy,hNn,q6⟩=>?_
   refine thn (ht C s2 H2 fp _ s6 σ6 H6 _ I6 q6) λok s7 ⟨H7,I7,q7⟩=>?_
   cases ok with
   | false=>
    obtain⟨m',hm,w7⟩:=hNn _ q7;exact⟨m',hm,i+1,ys,aa,nn,σ6,H7,I7.unpinned,rv,(fk I7).1,(fk I7).2,w7⟩
   | true=>
    refine thn (he C s2 H2 fp _ s7 σ6 H7 _ I7 q7) λu8 s8 ⟨y,H8,I8,r8,q8⟩=>?_
    obtain⟨hz,m',hm,w8⟩:=hNy _ _ q8;have pD:=I8.pin (D,Vw aa nn) (lr9 _ (ll9 _ (List.mem_singleton.mpr rfl)));have ag:=rv.length;refine append_at (hsz:=by rw[X4];omega) pD.1 λh9 sb9 e9=>?_
    have I8a:Inv (lcE X scope N cl C s2 H2 fp EX) ([]++JW fp s5.heap) σ6 H8 s8:=I8.pins_of λp hp=>I8.pin p (lr9 _ (lr9 _ hp))
    have I9:Inv (lcE X scope N cl C s2 H2 fp EX) ([]++JW fp s5.heap) σ6 H8 { s8 with heap:=h9,toks:=s8.toks }:=I8a.turned (it:=D) (λb o hb e=>(sb9.2 b hb).trans e) pD.2.1 lc (.inr hD)
     (λx c h z=>by
      obtain⟨v,q⟩:=I2.cell x c (cw x c h);exact absurd (Xe q.lt (by rw[z];exact hD)) (Y8 _))
     (λp hp z=>by
      have hp:p∈([]++([]++JW fp s5.heap):List (Addr×Obj)):=hp;have hp:p∈JW fp s5.heap:=by simpa using hp
      exact(gy p.1 (kkt hp).1).1 z)
    have e9':h9.get? D=some (Vw (aa++[u8]) (nn+1)):=by rw[e9];simp[List.push_toArray]
    refine⟨m',hm,i+1,ys++[y],aa++[u8],nn+1,σ6,H8,I9.pins_of λp hp=>?_,rv.append (.cons r8 .nil),(fk I9).1,(fk I9).2,w8⟩;rw[List.mem_singleton.mp hp];exact⟨e9',pD.2.1,pD.2.2.1,pD.2.2.2.1,λv z=>by cases z⟩
 exact codeAny_compStart_list (mn _ rfl) (T.self _ 0 _ _ _ (T.keep _ _ _ bi λb hb o e=>jl b o e) (mn _ rfl))
theorem qzw{EX:XK}{wi:TI}(N:List Str)(k:Nat)(R:List Nat)(hi:PI X tg ao wi)
  (hg:∀cl C s0 H0 fp,PG (lcE X scope N cl C s0 H0 fp EX) tg g) (ht:∀cl C s0 H0 fp,PTs (lcE X scope N cl C s0 H0 fp EX) d7 tt) (he:∀cl C s0 H0 fp,PE (lcE X scope N cl C s0 H0 fp EX) dk te)
  (gx:z9 X EX) (top:Jk X) (hc:autoParam (X.calm=true) Ŕ) (hk:autoParam (scope.kind=.function) Ŕ) (io:autoParam (Q9 X.N X.env.scope scope N k R=true) Ŕ) (hs:autoParam (∀x,foldedSetIterable ao X.env x=pure x) Ŗ):
  PE X (.ListComp dk [⟨tg,ao,d7,0⟩] scope pos) (tLC wi g tt te k R):=by
 intro pins s σ H Q I h;have sc:=kvq hk io;obtain⟨cl,gw,cw,bb⟩:=kj4 (scope:=scope) (env:=X.env) λy hy e=>I.ok.has y.1 (sc.caps y hy e)
 rw[eval_ListComp];refine wpAny_comprehension_free (use:=none) rfl hs gw sc.kind sc.names (thn (hi pins s σ H _ I h) λv s1 h1=>thn h1 λitv s2 h2=>?_);obtain⟨it,fp,tn,J,H2,e,I2,T,bi,f2,W,w0,dw⟩:=h2;subst e;refine kkw (EX:=EX) (RR:=λaf C=>compPost (model X.prog X.w) X.A X.xe none (EP X pins σ Q) af C) hc top sc cw bb (hg cl) (ht cl) (he cl) I2 T bi f2 w0 dw ?_ ?_
 rotate_left
 ·intro D C s' bz σ' H' x T Cc fl hC t q;exact qqf gx I2 f2 hC t q
 intro D C oC m ys H' s' I' _ nC fC q;exact⟨m,nC,λh' sb=>⟨.ref D,_,I'.unpinned.turned (it:=C) (t':=s'.toks) (λb o hb e=>(sb.2 b hb).trans e) fC.1 fC.2.1 fC.2.2.2.1 fC.2.2.2.2.1 fC.2.2.2.2.2,rfl,q⟩⟩
end
structure ExAt (K:PySem.W.Frag)(x:Addr)(ox:Obj)(C:Addr):Prop where
 cls:ox.cls=.ref C
 no:PySem.W.notCls ox=true
 di:ox.dict=none
 xc:XCls K C
end L3
namespace Q
open PySem
inductive D where
 |non|bl (b:Bool)|int (i:Int)|str (z:Str)|tup (xs:List D)|lst (xs:List D)|dct (ai:List (D×D))|obj (c:Str) (fs:List (Str×D))
instance:DecidableEq D:=λa b=>Classical.propDecidable (a=b)
instance:Inhabited D:=⟨.non⟩
mutual
noncomputable def D.pure:D->Bool
 |.tup xs=>D.pures xs
 |.lst _=>false
 |.dct _=>false
 |.obj _ _=>false
 |_=>true
noncomputable def D.pures:List D->Bool
 |[]=>true
 |a::x=>D.pure a&&D.pures x
end
theorem D.pures_all:∀xs:List D,D.pures xs=xs.all D.pure
 |[]=>by simp[D.pures]
 |a::x=>by rw[D.pures,List.all_cons,D.pures_all x]
@[simp] theorem D.pures_map {α:Type}(f:α->D)(xs:List α)(h:∀x∈xs,(f x).pure=true):D.pures (xs.map f)=true:=by
 rw[D.pures_all,List.all_eq_true];intro d hd;obtain⟨x,hx,rfl⟩:=List.mem_map.mp hd;exact h x hx
mutual
noncomputable def peq:D->D->Bool
 |.non,.non=>true
 |.bl a,.bl b=>a==b
 |.bl a,.int b=>(if a then 1 else 0)==b
 |.int a,.bl b=>a==(if b then 1 else 0)
 |.int a,.int b=>a==b
 |.str a,.str b=>a==b
 |.lst as,.lst bs=>peqs as bs
 |.tup as,.tup bs=>peqs as bs
 |_,_=>false
noncomputable def peqs:List D->List D->Bool
 |[],[]=>true
 |a::as,b::bs=>peq a b&&peqs as bs
 |_,_=>false
end
mutual
noncomputable def D.flat:Nat->D->Bool
 |0,.tup _=>false
 |0,.lst _=>false
 |n+1,.tup xs=>D.flats n xs
 |n+1,.lst xs=>D.flats n xs
 |_,.dct _=>false
 |_,.obj _ _=>false
 |_,_=>true
noncomputable def D.flats:Nat->List D->Bool
 |_,[]=>true
 |n,a::x=>D.flat n a&&D.flats n x
end
mutual
noncomputable def vwf:Nat->D->Bool
 |_,.non=>true
 |_,.int _=>true
 |n+1,.tup xs=>keyDs n xs
 |_,_=>false
noncomputable def keyDs:Nat->List D->Bool
 |_,[]=>true
 |n,a::x=>vwf n a&&keyDs n x
end
inductive Own where
 |no|rt|dp
 deriving DecidableEq
abbrev Sd:=Own×D
abbrev En:=List (Option Sd)
inductive Res (α:Type) where
 |ok (E:En) (a:α)
 |exc (E:En) (c:Str)
abbrev Ev(α:Type):=En->Option (Res α)
abbrev Ex:=Ev Sd
noncomputable def bnd{α β:Type}(m:Option (Res α))(f:En->α->Option (Res β)):Option (Res β):=
 match m with
 |some (.ok E a)=>f E a
 |some (.exc E c)=>some (.exc E c)
 |none=>none
@[simp] theorem vwj {α β:Type}(E:En)(a:α)(f:En->α->Option (Res β)):bnd (some (.ok E a)) f=f E a:=rfl
@[simp] theorem vvf {α β:Type}(E:En)(c:Str)(f:En->α->Option (Res β)):bnd (some (.exc E c)) f=some (.exc E c):=rfl
@[simp] theorem vkv {α β:Type}(f:En->α->Option (Res β)):bnd none f=none:=rfl
def val{α:Type}(E:En)(x:Option α):Option (Res α):=x.map (Res.ok E)
@[simp] theorem vkk {α:Type}(E:En)(x:α):val E (some x)=some (.ok E x):=rfl
@[simp] theorem vkl {α:Type}(E:En):val E (none:Option α)=none:=rfl
def cC(d:D):Ex:=λE=>some (.ok E (.dp,d))
noncomputable def cV(i:Nat):Ex:=λE=>match E[i]? with
 |some (some (_,d))=>some (.ok (E.set i (some (.no,d))) (.no,d))
 |_=>none
def cMv(i:Nat):Ex:=λE=>match E[i]? with
 |some (some x)=>some (.ok (E.set i none) x)
 |_=>none
def vV(i:Nat):Ex:=λE=>match E[i]? with
 |some (some x)=>some (.ok E x)
 |_=>none
def vE(c:Ex):Ex:=λE=>bnd (c E) λE x=>some (.ok E (.no,x.2))
abbrev C9(z:Int):Ex:=vE (cC (.int z))
noncomputable def cH(v:Ex):Ex:=λE=>bnd (v E) λE x=>if x.1=.no then some (.ok E (.no,x.2))else if x.2.pure then some (.ok E (.dp,x.2))else none
def cF1(f:Sd->Option Sd)(a:Ex):Ex:=λE=>bnd (a E) λE x=>val E (f x)
def cF2(f:Sd->Sd->Option Sd)(a b:Ex):Ex:=λE=>bnd (a E) λE x=>bnd (b E) λE y=>val E (f x y)
def pu1(f:D->Option D):Sd->Option Sd:=λx=>(f x.2).map λd=>(.dp,d)
def pu2(f:D->D->Option D):Sd->Sd->Option Sd:=λx y=>(f x.2 y.2).map λd=>(.dp,d)
def vwe:D->List D
 |.lst xs=>xs
 |.tup xs=>xs
 |.dct ai=>ai.map (·.2)
 |_=>[]
def qv(x:Sd):Bool:=x.1 != .dp||D.pures (vwe x.2)
def sub:Own->Own
 |.dp=>.dp
 |_=>.no
noncomputable def ixN(n:Nat)(i:Int):Option Nat:=if 0<=i then(if i<n then some i.toNat else none)else if -(n:Int)<=i then some (i+n).toNat else none
noncomputable def ixD:D->D->Option D
 |.lst xs,.int i=>(ixN xs.length i).bind λj=>xs[j]?
 |.tup xs,.int i=>(ixN xs.length i).bind λj=>xs[j]?
 |.str z,.int i=>(ixN z.cps.size i).bind λj=>(z.cps.toList[j]?).map λc=>.str ⟨#[c]⟩
 |.dct ai,k=>(ai.find? λe=>decide (e.1=k)).map (·.2)
 |_,_=>none
def big:Nat:=16777216
def i2(f:Int->Int->Option Int):D->D->Option D
 |.int a,.int b=>(f a b).map .int
 |_,_=>none
def c2(f:Int->Int->Bool):D->D->Option D
 |.int a,.int b=>some (.bl (f a b))
 |_,_=>none
def Z1(a:Int):Bool:=decide (-(2 ^ 64)<a)&&decide (a<2 ^ 64)
noncomputable def jz:Sd->Sd->Option Sd:=λx y=>match x.2,y.2 with
 |.int a,.int b=>some (.dp,.int (a+b))
 |.str a,.str b=>if a.cps.size+b.cps.size<=big then some (.dp,.str (a++b))else none
 |.lst a,.lst b=>if a.length+b.length<=big/\qv x/\qv y then some (.rt,.lst (a++b))else none
 |.tup a,.tup b=>if a.length+b.length<=big/\qv x/\qv y then some (.no,.tup (a++b))else none
 |_,_=>none
def JV(a b:Int):Bool:=Z1 a||Z1 b||(decide (a.natAbs.log2<2000000)&&decide (b.natAbs.log2<2000000))
noncomputable def KW:Sd->Sd->Option Sd:=λx y=>match x.2,y.2 with
 |.int a,.int b=>if JV a b then some (.dp,.int (a*b))else none
 |.lst a,.int k=>if -(2 ^ 63)<=k/\k<2 ^ 63/\a.length*k.toNat<=big/\qv x then some (.rt,.lst (List.replicate k.toNat a).flatten)else none
 |.str z,.int n=>if(z.cps.size<=1024/\n<=1024/\-1024<=n)/\(Txt.mul z n).cps.size<=big then some (.dp,.str (Txt.mul z n))else none
 |_,_=>none
def K3:D->D->Option D:=i2 λa b=>some (a - b)
def vW:D->D->Option D:=i2 λa b=>if 0<b/\b.natAbs.log2<9000 then some (a / b)else none
def k7:D->D->Option D:=i2 λa b=>if 0<b then some (a % b)else none
def Wz:D->D->Option D:=i2 λa b=>if 0<=b/\b<=1000000/\a.natAbs<2 ^ 64 then some (a ^ b.toNat)else none
def fEq:D->D->Option D:=λa b=>if a.flat 40&&b.flat 40 then some (.bl (peq a b))else none
def fNe:D->D->Option D:=λa b=>if a.flat 40&&b.flat 40 then some (.bl (!peq a b))else none
def isNon:D->Bool
 |.non=>true
 |_=>false
def fLt:D->D->Option D:=c2 λa b=>decide (a<b)
def fLe:D->D->Option D:=c2 λa b=>decide (a<=b)
def fGt:D->D->Option D:=c2 λa b=>decide (b<a)
def fGe:D->D->Option D:=c2 λa b=>decide (b<=a)
def vv9(a b:Str):Bool:=!(Builtin.Str.occurrences b a 0 b.length 1).isEmpty
noncomputable def fIn:D->D->Option D:=λx y=>match y with
 |.lst ys=>if x.flat 30&&D.flats 30 ys then some (.bl (ys.any λz=>peq z x))else none
 |.tup ys=>if x.flat 30&&D.flats 30 ys then some (.bl (ys.any λz=>peq z x))else none
 |.str b=>(match x with
  |.str a=>some (.bl (vv9 a b))
  |_=>none)
 |.dct ai=>some (.bl (ai.any λe=>decide (e.1=x)))
 |_=>none
def Z8:D->D->Option D:=λx y=>(fIn x y).bind λd=>match d with
 |.bl k=>some (.bl (!k))
 |_=>none
noncomputable def q9:D->Option D
 |.lst xs=>some (.int xs.length)
 |.tup xs=>some (.int xs.length)
 |.str z=>some (.int z.length)
 |_=>none
noncomputable def kind:D->String
 |.non=>"NoneType"
 |.bl _=>"bool"
 |.int _=>"int"
 |.str _=>"str"
 |.tup _=>"tuple"
 |.lst _=>"list"
 |.dct _=>"dict"
 |.obj _ _=>""
def isaK(t u:String):Bool:=t==u||(t == "bool" && u == "int")
def k9(u:String):D->Option D:=λd=>match d with
 |.obj _ _=>none
 |.dct _=>none
 |_=>some (.bl (isaK (kind d) u))
def fIsNon:D->Option D:=λd=>some (.bl (isNon d))
def fNotNon:D->Option D:=λd=>some (.bl (!isNon d))
abbrev Ts:=Ev Bool
noncomputable def truth:D->Option Bool
 |.bl b=>some b
 |.non=>some false
 |.int i=>some (i != 0)
 |.str z=>some (z.cps.size != 0)
 |.lst xs=>some (!xs.isEmpty)
 |.tup xs=>some (!xs.isEmpty)
 |.dct xs=>some (!xs.isEmpty)
 |.obj _ _=>none
def tE(c:Ex):Ts:=λE=>bnd (c E) λE x=>val E (truth x.2)
def tAnd(a b:Ts):Ts:=λE=>bnd (a E) λE x=>if x then b E else some (.ok E false)
def tOr(a b:Ts):Ts:=λE=>bnd (a E) λE x=>if x then some (.ok E true)else b E
def tNot(a:Ts):Ts:=λE=>bnd (a E) λE x=>some (.ok E (!x))
def tYes:Ts:=λE=>some (.ok E true)
def cIf(t:Ts)(a b:Ex):Ex:=λE=>bnd (t E) λE x=>if x then a E else b E
noncomputable def zW(a b:Ex):Ex:=λE=>bnd (a E) λE x=>match x.2 with
 |.bl true=>b E
 |.bl false=>some (.ok E (.dp,.bl false))
 |_=>none
noncomputable def cOr(a b:Ex):Ex:=λE=>bnd (a E) λE x=>match x.2 with
 |.bl true=>some (.ok E (.dp,.bl true))
 |.bl false=>b E
 |_=>none
def xQ:D->D->Option D:=λx y=>match y with
 |.dct _=>none
 |_=>fIn x y
def V7:D->D->Option D:=λx y=>match y with
 |.dct _=>none
 |_=>Z8 x y
def f2First(f:D->Option D):Sd->Sd->Option Sd:=λx y=>if isNon y.2 then(f x.2).map λd=>(.dp,d)else none
def kw:D->D->Option D:=λx y=>match x with
 |.dct _=>none
 |_=>ixD x y
def j8(a b:Ex):Ex:=λE=>bnd (a E) λE x=>bnd (b E) λE y=>val E ((kw x.2 y.2).map λd=>(sub x.1,d))
def truthQ:D->Option Bool:=λd=>match d with
 |.dct _=>none
 |_=>truth d
def tEQ(c:Ex):Ts:=λE=>bnd (c E) λE x=>val E (truthQ x.2)
def Wq(c:Ex):Ex:=λE=>bnd (c E) λE x=>val E ((truthQ x.2).map λk=>(.dp,.bl (!k)))
noncomputable def qQ:List Ex->Ev (List Sd)
 |[],E=>some (.ok E [])
 |c::cs,E=>bnd (c E) λE x=>bnd (qQ cs E) λE xs=>some (.ok E (x::xs))
def qJ(x:Sd):Bool:=x.1 == .dp||x.2.pure
noncomputable def k5(o:Own)(cs:List Ex):Ex:=λE=>bnd (qQ cs E) λE xs=>if o=.dp then(if xs.all qJ then some (.ok E (.dp,.lst (xs.map (·.2))))else none)else some (.ok E (.rt,.lst (xs.map (·.2))))
noncomputable def k3(o:Own)(cs:List Ex):Ex:=λE=>bnd (qQ cs E) λE xs=>if o=.dp then(if xs.all qJ then some (.ok E (.dp,.tup (xs.map (·.2))))else none)else some (.ok E (.no,.tup (xs.map (·.2))))
inductive Fl where
 |nx (E:En)|rt (E:En) (x:Sd)|ct (E:En)|bk (E:En)|xc (E:En) (c:Str)
abbrev Sm:=En->Option Fl
noncomputable def ofE{α:Type}(m:Option (Res α))(f:En->α->Option Fl):Option Fl:=
 match m with
 |some (.ok E a)=>f E a
 |some (.exc E c)=>some (.xc E c)
 |none=>none
@[simp] theorem vw8 {α:Type}(E:En)(a:α)(f:En->α->Option Fl):ofE (some (.ok E a)) f=f E a:=rfl
@[simp] theorem vqt {α:Type}(E:En)(c:Str)(f:En->α->Option Fl):ofE (some (.exc E c)) f=some (.xc E c):=rfl
@[simp] theorem vks {α:Type}(f:En->α->Option Fl):ofE none f=none:=rfl
def j4(a b:Sm):Sm:=λE=>match a E with
 |some (.nx E)=>b E
 |r=>r
def qV:Sm:=λE=>some (.nx E)
def jk(i:Nat)(c:Ex):Sm:=λE=>ofE (c E) λE x=>some (.nx (E.set i (some x)))
def jQ(c:Ex):Sm:=λE=>ofE (c E) λE x=>some (.rt E x)
def sRetN:Sm:=λE=>some (.rt E (.dp,.non))
def sIf(t:Ts)(a b:Sm):Sm:=λE=>ofE (t E) λE x=>if x then a E else b E
inductive Tg where
 |n (i:Nat)|t (ts:List Nat)
noncomputable def setAll:List Nat->List D->En->Option En
 |[],[],E=>some E
 |i::is,d::ds,E=>setAll is ds (E.set i (some (.no,d)))
 |_,_,_=>none
noncomputable def Tg.put:Tg->D->En->Option En
 |.n i,d,E=>some (E.set i (some (.no,d)))
 |.t is,.tup ds,E=>setAll is ds E
 |.t is,.lst ds,E=>setAll is ds E
 |.t _,_,_=>none
def sTup(is:List Nat)(c:Ex):Sm:=λE=>ofE (c E) λE x=>(Tg.put (.t is) x.2 E).map .nx
noncomputable def J5(tg:Tg)(b:Sm):List D->En->Option Fl
 | [],E=>some (.nx E)
 | d::ds,E=>match tg.put d E with
  |none=>none
  |some E=>match b E with
   |some (.nx E)=>J5 tg b ds E
   |some (.ct E)=>J5 tg b ds E
   |some (.bk E)=>some (.nx E)
   |r=>r
def qk(it:Ev (List D))(tg:Tg)(b:Sm):Sm:=λE=>ofE (it E) λE ds=>J5 tg b ds E
def at'{α:Type}(L:List (Option α))(j:Nat):Option α:=(L[j]?).join
def clr{α:Type}:List Nat->List (Option α)->List (Option α)
 |[],L=>L
 |j::R,L=>clr R (L.set j none)
noncomputable def back{α:Type}:List Nat->List (Option α)->List (Option α)->List (Option α)
 |j::R,q::B,L=>back R B (L.set j q)
 |_,_,L=>L
def Jw(k:Nat)(R:List Nat)(E:En):En:=List.replicate k none++R.map (at' E)
def xV(k:Nat)(R:List Nat)(B E:En):En:=back R (B.drop k) (clr R E)
noncomputable def lcL(tg:Tg)(t:Ts)(c:Ex):List D->En->List Sd->Option (Res (List Sd))
 |[],B,af=>some (.ok B af)
 |d::ds,B,af=>match tg.put d B with
  |none=>none
  |some B=>bnd (t B) λB x=>if x then bnd (c B) λB y=>lcL tg t c ds B (af++[y])else lcL tg t c ds B af
noncomputable def mkL(o:Own)(E:En)(xs:List Sd):Option (Res Sd):=
 if o=.dp then(if xs.all qJ then some (.ok E (.dp,.lst (xs.map (·.2))))else none)else some (.ok E (.rt,.lst (xs.map (·.2))))
noncomputable def cLC(o:Own)(k:Nat)(R:List Nat)(it:Ev (List D))(tg:Tg)(t:Ts)(c:Ex):Ex:=λE=>bnd (it E) λE ds=>
 match lcL tg t c ds (Jw k R E) []with
 |some (.ok B xs)=>mkL o (xV k R B E) xs
 |some (.exc B e)=>some (.exc (xV k R B E) e)
 |none=>none
def Vz:Option (Option Sd)->Bool
 |some (some (_,.lst _))=>true
 |_=>false
noncomputable def kY(f:List D->D->Option (List D))(i:Nat)(c:Ex):Sm:=λE=>if Vz E[i]? then ofE (c E) λE x=>match E[i]? with
 |some (some (o,.lst xs))=>if o=.no then none else(match f xs x.2 with
  |some ys=>some (.nx (E.set i (some (if o=.dp/\qJ x then .dp else .rt,.lst ys))))
  |none=>none)
 |_=>none
 else none
def kX:List D->D->Option (List D):=λxs d=>if xs.length<big then some (xs++[d])else none
noncomputable def vY:D->Option D
 |.int i=>some (.int i)
 |.bl k=>some (.int (if k then 1 else 0))
 |.str z=>if z.length<=640 then(PySem.intText? z).map .int else none
 |_=>none
noncomputable def K6:Sd->Option Sd:=λx=>match x.2 with
 |.lst xs=>if qv x then some (.rt,.lst xs)else none
 |.tup xs=>if qv x then some (.rt,.lst xs)else none
 |_=>none
noncomputable def JX:Sd->Option Sd:=λx=>match x.2 with
 |.lst xs=>if qv x then some (.no,.tup xs)else none
 |.tup xs=>if qv x then some (.no,.tup xs)else none
 |_=>none
def vwi:D->D->Option D:=i2 λa b=>some (if b>a then b else a)
def bls:List D->Option (List Bool)
 |[]=>some []
 |.bl b::ds=>(bls ds).map (b :: ·)
 |_=>none
noncomputable def seqOf:D->Option (List D)
 |.lst xs=>some xs
 |.tup xs=>some xs
 |.str z=>if z.cps.size<=big then some (z.cps.toList.map λc=>.str ⟨#[c]⟩)else none
 |_=>none
def itS(c:Ex):Ev (List D):=λE=>bnd (c E) λE x=>val E (seqOf x.2)
def vJ(i:Int):Bool:=decide (-(2 ^ 62)<=i)&&decide (i<2 ^ 62)
def jY(lo hi:Int):List D:=(List.range (hi - lo).toNat).map λ(k:Nat)=>.int (lo+(k:Int))
noncomputable def v6(c:Ex):Ev (List D):=λE=>bnd (c E) λE x=>match x.2 with
 |.int j=>if vJ j/\j.toNat<=big then some (.ok E (jY 0 j))else none
 |_=>none
noncomputable def itR2(c d:Ex):Ev (List D):=λE=>bnd (c E) λE x=>bnd (d E) λE y=>match x.2,y.2 with
 |.int i,.int j=>if vJ i/\vJ j/\(j - i).toNat<=big then some (.ok E (jY i j))else none
 |_,_=>none
noncomputable def V9(c:Ex):Ex:=λE=>bnd (c E) λE x=>match x.2 with
 |.int j=>if vJ j/\j.toNat<=big then some (.ok E (.rt,.lst (jY 0 j)))else none
 |_=>none
abbrev Fn:=List Sd->Option (Res Sd)
noncomputable def fn(n:Nat)(b:Sm):Fn:=λxs=>match b (xs.map some++List.replicate (n - xs.length) none)with
 |some (.rt E x)=>some (.ok E x)
 |some (.nx E)=>some (.ok E (.dp,.non))
 |some (.xc E c)=>some (.exc E c)
 |_=>none
def letAll(xs:List Sd):List Sd:=xs.map λx=>(.no,x.2)
noncomputable def jW(f:Fn)(cs:List Ex):Ex:=λE=>bnd (qQ cs E) λE xs=>match f (letAll xs)with
 |some (.ok _ y)=>some (.ok E y)
 |some (.exc _ c)=>some (.exc E c)
 |none=>none
end Q
namespace Q
open PySem PySem.Spec PyProof.Rows L2 L3
mutual
noncomputable def vju:D->Int
 |.int i=>hashInt i
 |.tup xs=>reduceHash (Builtin.Tuple.tupleHashOf (hashDs xs))
 |_=>4238894112
noncomputable def hashDs:List D->List Int
 |[]=>[]
 |a::x=>vju a::hashDs x
end
def Kd:Type:={ d:D // vwf 6 d=true }
instance:DecidableEq Kd:=λa b=>Classical.propDecidable (a=b)
abbrev Ent:=Kd×Addr×Value
noncomputable def DicO(a:Addr)(es:List Ent)(ep:Nat):HO:=.ext λh=>∃o ds,h.get? a=some o/\o.ExactDict/\o.data=.dict ds ep/\ds.toList=es.map λx=>(⟨vju x.1.1,.ref x.2.1,x.2.2⟩:DictEntry)
mutual
noncomputable def PuR(K:PySem.W.Frag)(H:Hp):D->V->Prop
 |.non,v=>v=.non
 |.int i,v=>v=.int i
 |.tup ds,v=>∃a xs,v=.ref a/\SqT K H a xs/\PuRs K H ds xs
 |_,_=>False
noncomputable def PuRs(K:PySem.W.Frag)(H:Hp):List D->List V->Prop
 |[],xs=>xs=[]
 |d::ds,xs=>∃x r,xs=x::r/\PuR K H d x/\PuRs K H ds r
end
noncomputable def DcN(K:PySem.W.Frag)(H:Hp)(a:Addr)(ks:List D)(vs:List V):Prop:=∃(es:List Ent) (ep:Nat),H a=some (DicO a es ep)/\(a==sysModules)=false/\es.length<=sizeLine/\(es.map (·.1)).Nodup/\ks=es.map (·.1.1)/\(∀x∈es,PuR K H x.1.1 (.ref x.2.1))/\Vals vs (es.map (·.2.2))
noncomputable def DcI(H:Hp)(a:Addr)(ks:List D)(vs:List V):Prop:=∃(kv:List (Int×V)) (m:Str),H a=some (.dK (kv.map λp=>(Sum.inl p.1,p.2)))/\ks=.str m::kv.map (λp=>D.int p.1)/\vs=.non::kv.map (·.2)
def DcA(K:PySem.W.Frag)(H:Hp)(a:Addr)(ks:List D)(vs:List V):Prop:=DcN K H a ks vs\/DcI H a ks vs
noncomputable def vwl(K:PySem.W.Frag)(a:Addr)(xs:List V):Prop:=∃(aa:Array Value) (n:Nat),K.lookup a=some { cls:=.type "list",data:=.seq aa n }/\aa.size<=sizeLine/\Vals xs aa.toList
def vky(K:PySem.W.Frag)(H:Hp)(a:Addr)(xs:List V):Prop:=(∃o,H a=some (.frz o (.lst xs)))\/vwl K a xs
def LsR(K:PySem.W.Frag)(H:Hp)(a:Addr)(xs:List V):Prop:=Rd H a (.lst xs)\/vwl K a xs
theorem LsR.of{K:PySem.W.Frag}{H:Hp}{a:Addr}{xs:List V}(h:vky K H a xs):LsR K H a xs:=h.imp .inr id
theorem LsR.sq{K:PySem.W.Frag}{H:Hp}{a:Addr}{xs:List V}(h:LsR K H a xs):SqL K H a xs:=by
 rcases h with h|⟨aa,n,h1,h2,h3⟩
 ·exact .inl h
 ·exact .inr ⟨_,aa,n,h1,rfl,rfl,rfl,h2,h3⟩
theorem LsR.is{X:Cx}{pins:List (Addr×Obj)}{σ:L2.St}{H:Hp}{s:Shared}{a:Addr}{xs:List V}(I:L2.Inv X pins σ H s)(h:LsR X.K H a xs):xs.length<=sizeLine/\∃(aa:List Value) (n:Nat),Vals xs aa/\s.heap.get? a=some { cls:=.type "list",data:=.seq aa.toArray n }:=by
 rcases h with h|⟨aa,n,h1,h2,h3⟩
 ·obtain⟨z,aa,n,r,e⟩:=h.ok I.hok;exact⟨z,aa,n,r,e⟩
 ·have hl:=h3.length;simp only[Yc]at hl;exact⟨by omega,aa.toList,n,h3,by simpa using I.kIn a _ h1⟩
noncomputable def ExD(K:PySem.W.Frag)(H:Hp)(c:Str)(v:V):Prop:=∃x o C,v=.ref x/\H x=some (.frz o (.ext λ_=>True))/\ExAt K x o C/\PySem.W.nsIn K mainGlobals c=some (some (.ref C))
mutual
noncomputable def RepL(K:PySem.W.Frag)(H:Hp)(g:Bool):D->V->List Addr->Prop
 |.non,v,as=>v=.non/\as=[]
 |.bl b,v,as=>v=.bl b/\as=[]
 |.int i,v,as=>v=.int i/\as=[]
 |.str z,v,as=>v=.str z/\as=[]/\z.length<=sizeLine
 |.tup ds,v,as=>∃a xs,v=.ref a/\SqT K H a xs/\RepA K H g ds xs as
 |.lst ds,v,as=>∃a xs bs,v=.ref a/\RepA K H g ds xs bs/\((H a=some (.lst xs)/\as=a::bs)\/(g=true/\vky K H a xs/\as=bs))
 |.dct ai,v,as=>∃a xs bs,v=.ref a/\RepP K H g ai xs bs/\DcA K H a (ai.map (·.1)) xs/\as=a::bs
 |.obj c _,v,as=>as=[]/\ExD K H c v
noncomputable def RepA(K:PySem.W.Frag)(H:Hp)(g:Bool):List D->List V->List Addr->Prop
 |[],xs,as=>xs=[]/\as=[]
 |d::ds,xs,as=>∃x r bs cs,xs=x::r/\as=bs++cs/\RepL K H g d x bs/\RepA K H g ds r cs
noncomputable def RepP(K:PySem.W.Frag)(H:Hp)(g:Bool):List (D×D)->List V->List Addr->Prop
 |[],xs,as=>xs=[]/\as=[]
 |(_,d)::ds,xs,as=>∃x r bs cs,xs=x::r/\as=bs++cs/\RepL K H g d x bs/\RepP K H g ds r cs
end
noncomputable def RepR(K:PySem.W.Frag)(H:Hp):D->V->List Addr->Prop
 |.lst ds,v,as=>∃a xs bs,v=.ref a/\RepA K H true ds xs bs/\H a=some (.lst xs)/\as=a::bs
 |.dct ai,v,as=>∃a xs bs,v=.ref a/\RepP K H true ai xs bs/\DcA K H a (ai.map (·.1)) xs/\as=a::bs
 |_,_,_=>False
noncomputable def RepO(K:PySem.W.Frag)(H:Hp):Own->D->V->List Addr->Prop
 |.no=>RepL K H true
 |.rt=>RepR K H
 |.dp=>RepL K H false
section
variable {K:PySem.W.Frag}{H H':Hp}
noncomputable def Kp(H H':Hp)(as:List Addr):Prop:=(∀a xs,H a=some (.tup xs)->H' a=some (.tup xs))/\(∀a o u,H a=some (.frz o u)->H' a=some (.frz o u))/\∀a∈as,∀ob,H a=some ob->H' a=some ob
theorem Kp.left{as bs:List Addr}(k:Kp H H' (as++bs)):Kp H H' as:=⟨k.1,k.2.1,λa ha=>k.2.2 a (ll9 _ ha)⟩
theorem Kp.right{as bs:List Addr}(k:Kp H H' (as++bs)):Kp H H' bs:=⟨k.1,k.2.1,λa ha=>k.2.2 a (lr9 _ ha)⟩
theorem Kp.tail{a:Addr}{bs:List Addr}(k:Kp H H' (a::bs)):Kp H H' bs:=⟨k.1,k.2.1,λb hb=>k.2.2 b (lc9 _ hb)⟩
theorem Kp.tupT{as:List Addr}{a:Addr}{xs:List V}(k:Kp H H' as)(h:SqT K H a xs):SqT K H' a xs:=by
 rcases h with(h|⟨o,h⟩)|h
 ·exact .inl (.inl (k.1 a xs h))
 ·exact .inl (.inr ⟨o,k.2.1 a o _ h⟩)
 ·exact .inr h
theorem Kp.frzL{as:List Addr}{a:Addr}{xs:List V}(k:Kp H H' as)(h:vky K H a xs):vky K H' a xs:=by
 rcases h with⟨o,h⟩|h
 ·exact .inl ⟨o,k.2.1 a o _ h⟩
 ·exact .inr h
mutual
theorem PuR.kp{as:List Addr}(k:Kp H H' as):∀{d:D} {v:V},PuR K H d v->PuR K H' d v
 |.non,_,h=>by unfold PuR at h ⊢;exact h
 |.int _,_,h=>by unfold PuR at h ⊢;exact h
 |.tup ds,_,h=>by
  unfold PuR at h ⊢;obtain⟨a,xs,e,s,r⟩:=h;exact⟨a,xs,e,k.tupT s,PuRs.kp k r⟩
 |.bl _,_,h=>by unfold PuR at h;exact h.elim
 |.str _,_,h=>by unfold PuR at h;exact h.elim
 |.lst _,_,h=>by unfold PuR at h;exact h.elim
 |.dct _,_,h=>by unfold PuR at h;exact h.elim
 |.obj _ _,_,h=>by unfold PuR at h;exact h.elim
theorem PuRs.kp{as:List Addr}(k:Kp H H' as):∀{ds:List D} {xs:List V},PuRs K H ds xs->PuRs K H' ds xs
 |[],_,h=>by unfold PuRs at h ⊢;exact h
 |d::ds,_,h=>by
  unfold PuRs at h ⊢;obtain⟨x,r,e,h1,h2⟩:=h;exact⟨x,r,e,PuR.kp k h1,PuRs.kp k h2⟩
end
theorem Kp.dcn{a:Addr}{bs:List Addr}{ks:List D}{vs:List V}(k:Kp H H' (a::bs))(h:DcN K H a ks vs):DcN K H' a ks vs:=by
 obtain⟨es,ep,e,h1,h2,h3,h4,h5,h6⟩:=h;exact⟨es,ep,k.2.2 a X5 _ e,h1,h2,h3,h4,λx hx=>PuR.kp k (h5 x hx),h6⟩
theorem Kp.dca{a:Addr}{bs:List Addr}{ks:List D}{vs:List V}(k:Kp H H' (a::bs))(h:DcA K H a ks vs):DcA K H' a ks vs:=by
 rcases h with h|⟨kv,m,e,h⟩
 ·exact .inl (k.dcn h)
 ·exact .inr ⟨kv,m,k.2.2 a X5 _ e,h⟩
theorem Kp.of_same{as:List Addr}(s:jX H H'):Kp H H' as:=⟨λa xs h=>s a _ h,λa o u h=>s a _ h,λa _ ob h=>s a ob h⟩
mutual
theorem RepL.kp{g:Bool}:∀{d:D} {v:V} {as:List Addr},RepL K H g d v as->Kp H H' as->RepL K H' g d v as
 | .non,_,_,h,_=>by unfold RepL at h ⊢;exact h
 | .bl _,_,_,h,_=>by unfold RepL at h ⊢;exact h
 | .int _,_,_,h,_=>by unfold RepL at h ⊢;exact h
 | .str _,_,_,h,_=>by unfold RepL at h ⊢;exact h
 | .tup ds,_,_,h,k=>by
  unfold RepL at h ⊢;obtain⟨a,xs,e,s,r⟩:=h;exact⟨a,xs,e,k.tupT s,RepA.kp r k⟩
 | .lst ds,_,_,h,k=>by
  unfold RepL at h ⊢;obtain⟨a,xs,bs,e,r,q⟩:=h;refine⟨a,xs,bs,e,?_,?_⟩
  ·rcases q with⟨_,rfl⟩|⟨_,_,rfl⟩
   ·exact RepA.kp r k.tail
   ·exact RepA.kp r k
  ·rcases q with⟨h1,rfl⟩|⟨hg,h1,rfl⟩
   ·exact .inl ⟨k.2.2 a X5 _ h1,rfl⟩
   ·exact .inr ⟨hg,k.frzL h1,rfl⟩
 |.dct ai,_,_,h,k=>by
  unfold RepL at h ⊢;obtain⟨a,xs,bs,e,r,q,rfl⟩:=h;exact⟨a,xs,bs,e,RepP.kp r k.tail,k.dca q,rfl⟩
 |.obj _ _,_,_,h,k=>by
  unfold RepL at h ⊢;obtain⟨e,x,o,C,h1,h2,h3⟩:=h;exact⟨e,x,o,C,h1,k.2.1 _ _ _ h2,h3⟩
theorem RepA.kp{g:Bool}:∀{ds:List D} {xs:List V} {as:List Addr},RepA K H g ds xs as->Kp H H' as->RepA K H' g ds xs as
 |[],_,_,h,_=>by unfold RepA at h ⊢;exact h
 |d::ds,_,_,h,k=>by
  unfold RepA at h ⊢;obtain⟨x,r,bs,cs,e1,rfl,h1,h2⟩:=h;exact⟨x,r,bs,cs,e1,rfl,RepL.kp h1 k.left,RepA.kp h2 k.right⟩
theorem RepP.kp{g : Bool}: ∀{ds : List (D × D)} {xs : List V} {as : List Addr}, RepP K H g ds xs as -> Kp H H' as -> RepP K H' g ds xs as
  | [], _, _, h, _=>by unfold RepP at h ⊢; exact h
  | (q, d)::ds, _, _, h, k=>by
    unfold RepP at h ⊢;obtain⟨x, r, bs, cs, e1, rfl, h1, h2⟩:= h;exact⟨x, r, bs, cs, e1, rfl, RepL.kp h1 k.left, RepP.kp h2 k.right⟩
end
mutual
theorem RepL.wk:∀{d:D} {v:V} {as:List Addr},RepL K H false d v as->RepL K H true d v as
 |.non,_,_,h=>by unfold RepL at h ⊢;exact h
 |.bl _,_,_,h=>by unfold RepL at h ⊢;exact h
 |.int _,_,_,h=>by unfold RepL at h ⊢;exact h
 |.str _,_,_,h=>by unfold RepL at h ⊢;exact h
 |.tup ds,_,_,h=>by
  unfold RepL at h ⊢;obtain⟨a,xs,e,s,r⟩:=h;exact⟨a,xs,e,s,RepA.wk r⟩
 |.lst ds,_,_,h=>by
  unfold RepL at h ⊢;obtain⟨a,xs,bs,e,r,q⟩:=h;refine⟨a,xs,bs,e,RepA.wk r,?_⟩;rcases q with q|⟨z,_⟩
  ·exact .inl q
  ·cases z
 |.dct ai,_,_,h=>by
  unfold RepL at h ⊢;obtain⟨a,xs,bs,e,r,q,z⟩:=h;exact⟨a,xs,bs,e,RepP.wk r,q,z⟩
 |.obj _ _,_,_,h=>by unfold RepL at h ⊢;exact h
theorem RepA.wk:∀{ds:List D} {xs:List V} {as:List Addr},RepA K H false ds xs as->RepA K H true ds xs as
 |[],_,_,h=>by unfold RepA at h ⊢;exact h
 |d::ds,_,_,h=>by
  unfold RepA at h ⊢;obtain⟨x,r,bs,cs,e1,e2,h1,h2⟩:=h;exact⟨x,r,bs,cs,e1,e2,RepL.wk h1,RepA.wk h2⟩
theorem RepP.wk : ∀{ds : List (D × D)} {xs : List V} {as : List Addr}, RepP K H false ds xs as -> RepP K H true ds xs as
  | [], _, _, h=>by unfold RepP at h ⊢; exact h
  | (q, d)::ds, _, _, h=>by
    unfold RepP at h ⊢;obtain⟨x, r, bs, cs, e1, e2, h1, h2⟩:= h;exact⟨x, r, bs, cs, e1, e2, RepL.wk h1, RepP.wk h2⟩
end
mutual
theorem RepL.al{g:Bool}:∀{d:D} {v:V} {as:List Addr},RepL K H g d v as->∀a∈as,(∃xs,H a=some (.lst xs))\/(∃ φ,H a=some (.ext φ))\/∃ai,H a=some (.dK ai)
 | .non,_,_,h=>by unfold RepL at h;rw[h.2];exact λ_ z=>nomatch z
 | .bl _,_,_,h=>by unfold RepL at h;rw[h.2];exact λ_ z=>nomatch z
 | .int _,_,_,h=>by unfold RepL at h;rw[h.2];exact λ_ z=>nomatch z
 | .str _,_,_,h=>by unfold RepL at h;rw[h.2.1];exact λ_ z=>nomatch z
 | .tup ds,_,_,h=>by
  unfold RepL at h;obtain⟨a,xs,e,s,r⟩:=h;exact RepA.al r
 | .lst ds,_,_,h=>by
  unfold RepL at h;obtain⟨a,xs,bs,e,r,q⟩:=h;rcases q with⟨h1,rfl⟩|⟨_,_,rfl⟩
  ·intro b hb;rcases List.mem_cons.mp hb with rfl|hb
   ·exact .inl ⟨_,h1⟩
   ·exact RepA.al r b hb
  ·exact RepA.al r
 | .dct ai,_,_,h=>by
  unfold RepL at h;obtain⟨a,xs,bs,e,r,q,rfl⟩:=h;intro b hb;rcases List.mem_cons.mp hb with rfl|hb
  ·rcases q with⟨es,ep,q,_⟩|⟨kv,m,q,_⟩
   ·exact .inr (.inl ⟨_,q⟩)
   ·exact .inr (.inr ⟨_,q⟩)
  ·exact RepP.al r b hb
 |.obj _ _,_,_,h=>by unfold RepL at h;rw[h.1];exact λ_ z=>nomatch z
theorem RepA.al{g:Bool}:∀{ds:List D} {xs:List V} {as:List Addr},RepA K H g ds xs as->∀a∈as,(∃xs,H a=some (.lst xs))\/(∃ φ,H a=some (.ext φ))\/∃ai,H a=some (.dK ai)
 |[],_,_,h=>by unfold RepA at h;rw[h.2];exact λ_ z=>nomatch z
 |d::ds,_,_,h=>by
  unfold RepA at h;obtain⟨x,r,bs,cs,e1,rfl,h1,h2⟩:=h;intro a ha;rcases List.mem_append.mp ha with ha|ha
  ·exact RepL.al h1 a ha
  ·exact RepA.al h2 a ha
theorem RepP.al{g : Bool}: ∀{ds : List (D × D)} {xs : List V} {as : List Addr}, RepP K H g ds xs as -> ∀a ∈ as, (∃xs, H a = some (.lst xs)) \/ (∃ φ, H a = some (.ext φ)) \/ ∃ai, H a = some (.dK ai)
  | [], _, _, h=>by unfold RepP at h; rw[h.2]; exact λ_ z=>nomatch z
  | (_, d)::ds, _, _, h=>by
    unfold RepP at h;obtain⟨x, r, bs, cs, e1, rfl, h1, h2⟩:= h;intro a ha;rcases List.mem_append.mp ha with ha|ha
    · exact RepL.al h1 a ha
    · exact RepP.al h2 a ha
end
mutual
theorem RepL.pu{g g':Bool}:∀{d:D} {v:V} {as:List Addr},RepL K H g d v as->d.pure=true->as=[]/\RepL K H g' d v []
 |.non,_,_,h,_=>by unfold RepL at h ⊢;exact⟨h.2,h.1,rfl⟩
 |.bl _,_,_,h,_=>by unfold RepL at h ⊢;exact⟨h.2,h.1,rfl⟩
 |.int _,_,_,h,_=>by unfold RepL at h ⊢;exact⟨h.2,h.1,rfl⟩
 |.str _,_,_,h,_=>by unfold RepL at h ⊢;exact⟨h.2.1,h.1,rfl,h.2.2⟩
 |.tup ds,_,_,h,p=>by
  unfold RepL at h ⊢;obtain⟨a,xs,e,s,r⟩:=h;obtain⟨z,r'⟩:=RepA.pu (g':=g') r (by unfold D.pure at p;exact p);exact⟨z,a,xs,e,s,r'⟩
 |.lst ds,_,_,h,p=>by unfold D.pure at p;cases p
 |.dct ds,_,_,h,p=>by unfold D.pure at p;cases p
 |.obj _ _,_,_,h,p=>by unfold D.pure at p;cases p
theorem RepA.pu{g g':Bool}:∀{ds:List D} {xs:List V} {as:List Addr},RepA K H g ds xs as->D.pures ds=true->as=[]/\RepA K H g' ds xs []
 |[],_,_,h,_=>by unfold RepA at h ⊢;exact⟨h.2,h.1,rfl⟩
 |d::ds,_,_,h,p=>by
  unfold RepA at h ⊢;unfold D.pures at p;rw[Bool.and_eq_true]at p;obtain⟨x,r,bs,cs,e1,rfl,h1,h2⟩:=h;obtain⟨rfl,q1⟩:=RepL.pu (g':=g') h1 p.1;obtain⟨rfl,q2⟩:=RepA.pu (g':=g') h2 p.2;exact⟨rfl,x,r,[],[],e1,rfl,q1,q2⟩
end
theorem RepR.wk:∀{d:D} {v:V} {as:List Addr},RepR K H d v as->RepL K H true d v as
 |.lst ds,_,_,h=>by
  obtain⟨a,xs,bs,e,r,q,z⟩:=h;unfold RepL;exact⟨a,xs,bs,e,r,.inl ⟨q,z⟩⟩
 |.dct ai,_,_,h=>by
  obtain⟨a,xs,bs,e,r,q,z⟩:=h;unfold RepL;exact⟨a,xs,bs,e,r,q,z⟩
theorem RepR.kp:∀{d:D} {v:V} {as:List Addr},RepR K H d v as->Kp H H' as->RepR K H' d v as
 |.lst ds,_,_,h,k=>by
  obtain⟨a,xs,bs,e,r,q,rfl⟩:=h;exact⟨a,xs,bs,e,r.kp k.tail,k.2.2 a X5 _ q,rfl⟩
 |.dct ai,_,_,h,k=>by
  obtain⟨a,xs,bs,e,r,q,rfl⟩:=h;exact⟨a,xs,bs,e,r.kp k.tail,k.dca q,rfl⟩
theorem RepO.wk:∀{o:Own} {d:D} {v:V} {as:List Addr},RepO K H o d v as->RepL K H true d v as
 |.no,_,_,_,h=>h
 |.rt,_,_,_,h=>RepR.wk h
 |.dp,_,_,_,h=>RepL.wk h
theorem RepO.kp:∀{o:Own} {d:D} {v:V} {as:List Addr},RepO K H o d v as->Kp H H' as->RepO K H' o d v as
 |.no,_,_,_,h,k=>RepL.kp h k
 |.rt,_,_,_,h,k=>RepR.kp h k
 |.dp,_,_,_,h,k=>RepL.kp h k
end
structure Sl where
 o:Own
 d:D
 v:V
 as:List Addr
def Sl.own(x:Sl):List Addr:=match x.o with
 |.no=>[]
 |.rt=>x.as.take 1
 |.dp=>x.as
def Sl.frz(x:Sl):List Addr:=match x.o with
 |.no=>x.as
 |.rt=>x.as.drop 1
 |.dp=>[]
theorem Sl.parts(x:Sl):x.own++x.frz=x.as:=by
 unfold Sl.own Sl.frz;cases x.o with
 |no=>rfl
 |rt=>exact List.take_append_drop 1 x.as
 |dp=>exact Xr _
theorem Sl.own_as{x:Sl}{a:Addr}(h:a∈x.own):a∈x.as:=by rw[<-x.parts];exact ll9 _ h
theorem Sl.frz_as{x:Sl}{a:Addr}(h:a∈x.frz):a∈x.as:=by rw[<-x.parts];exact lr9 _ h
theorem Sl.as_of{x:Sl}{a:Addr}(h:a∈x.as):a∈x.own\/a∈x.frz:=by rw[<-x.parts]at h;exact List.mem_append.mp h
def Sl.let(x:Sl):Sl:={ x with o:=.no }
abbrev Ls:=List (Option Sl)
def j7(L:Ls):List Addr:=L.flatMap λx=>x.elim [] Sl.own
def jJ(L:Ls):List Addr:=L.flatMap λx=>x.elim [] Sl.frz
@[simp] theorem vj2:j7 []=[]:=rfl
@[simp] theorem qxd:jJ []=[]:=rfl
@[simp] theorem jw (x:Sl)(L:Ls):j7 (some x::L)=x.own++j7 L:=by simp[j7]
@[simp] theorem kq (x:Sl)(L:Ls):jJ (some x::L)=x.frz++jJ L:=by simp[jJ]
@[simp] theorem kwg (L:Ls):j7 (none::L)=j7 L:=by simp[j7]
@[simp] theorem kqx (L:Ls):jJ (none::L)=jJ L:=by simp[jJ]
@[simp] theorem jK (L T:Ls):j7 (L++T)=j7 L++j7 T:=by simp[j7]
@[simp] theorem kQ (L T:Ls):jJ (L++T)=jJ L++jJ T:=by simp[jJ]
theorem mem_owned{L:Ls}{a:Addr}:a∈j7 L↔∃x,some x∈L/\a∈x.own:=by
 unfold j7;rw[List.mem_flatMap];constructor
 ·rintro ⟨y,hy,h⟩;cases y with
  |none=>exact nomatch h
  |some x=>exact⟨x,hy,h⟩
 ·rintro ⟨x,hx,h⟩;exact⟨some x,hx,h⟩
theorem mem_frozen{L:Ls}{a:Addr}:a∈jJ L↔∃x,some x∈L/\a∈x.frz:=by
 unfold jJ;rw[List.mem_flatMap];constructor
 ·rintro ⟨y,hy,h⟩;cases y with
  |none=>exact nomatch h
  |some x=>exact⟨x,hy,h⟩
 ·rintro ⟨x,hx,h⟩;exact⟨some x,hx,h⟩
def Sl.ok(K:PySem.W.Frag)(H:Hp)(x:Sl):Prop:=RepO K H x.o x.d x.v x.as
theorem Sl.ok.al{K:PySem.W.Frag}{H:Hp}{x:Sl}(h:x.ok K H):∀a∈x.as,(∃xs,H a=some (.lst xs))\/(∃ φ,H a=some (.ext φ))\/∃ai,H a=some (.dK ai):=(RepO.wk h).al
theorem Sl.ok.some{K:PySem.W.Frag}{H:Hp}{x:Sl}(h:x.ok K H){a:Addr}(ha:a∈x.as):H a≠none:=λz=>by
 rcases h.al a ha with⟨xs,e⟩|⟨xs,e⟩|⟨xs,e⟩<;>(rw[z]at e;cases e)
structure World (K:PySem.W.Frag)(H:Hp)(L:Ls):Prop where
 ok:∀x,some x∈L->x.ok K H
 nd:(j7 L).Nodup
 ds:∀a∈j7 L,a∉jJ L
structure Step (H:Hp)(L:Ls)(H':Hp)(L':Ls):Prop where
 keep:∀a ob,H a=some ob->a∉j7 L->H' a=some ob
 own:∀a∈j7 L',a∈j7 L\/H a=none
 frz:∀a∈jJ L',a∈jJ L\/a∈j7 L\/H a=none
section
variable {K:PySem.W.Frag}{H H1 H2 H':Hp}{L L1 L2' L' T:Ls}{x y:Sl}
theorem World.own_al(w:World K H L){a:Addr}(h:a∈j7 L):(∃xs,H a=some (.lst xs))\/(∃ φ,H a=some (.ext φ))\/∃ai,H a=some (.dK ai):=by
 obtain⟨x,hx,ha⟩:=mem_owned.mp h;exact(w.ok x hx).al a (Sl.own_as ha)
theorem World.own_some(w:World K H L){a:Addr}(h:a∈j7 L):H a≠none:=by
 obtain⟨x,hx,ha⟩:=mem_owned.mp h;exact(w.ok x hx).some (Sl.own_as ha)
theorem World.frz_some(w:World K H L){a:Addr}(h:a∈jJ L):H a≠none:=by
 obtain⟨x,hx,ha⟩:=mem_frozen.mp h;exact(w.ok x hx).some (Sl.frz_as ha)
theorem Step.refl:Step H L H L:=⟨λ_ _ h _=>h,λ_ h=>.inl h,λ_ h=>.inl h⟩
theorem Step.trans(a:Step H L H1 L1)(b:Step H1 L1 H2 L2'):Step H L H2 L2' where
 keep:=λc ob h hn=>b.keep c ob (a.keep c ob h hn) λz=>(a.own c z).elim hn λe=>by rw[h]at e;cases e
 own:=λc hc=>by
  rcases b.own c hc with z|z
  ·exact a.own c z
  ·by_cases h:c∈j7 L
   ·exact .inl h
   ·refine .inr ?_;cases e:H c with
    |none=>rfl
    |some ob=>rw[a.keep c ob e h]at z;cases z
 frz:=λc hc=>by
  rcases b.frz c hc with z|z|z
  ·exact a.frz c z
  ·exact .inr (a.own c z)
  ·by_cases h:c∈j7 L
   ·exact .inr (.inl h)
   ·refine .inr (.inr ?_);cases e:H c with
    |none=>rfl
    |some ob=>rw[a.keep c ob e h]at z;cases z
theorem Step.kp(a:Step H L H' L')(w:World K H L){as:List Addr}(h:∀b∈as,b∉j7 L):Kp H H' as:=by
 have no:∀b ob,H b=some ob->(∀xs,ob≠.lst xs)->(∀ φ,ob≠.ext φ)->(∀ai,ob≠.dK ai)->H' b=some ob:=λb ob e h1 h2 h3=>a.keep b ob e λz=>by
  rcases w.own_al z with⟨xs,q⟩|⟨es,q⟩|⟨es,q⟩
  ·rw[e]at q;cases q;exact h1 _ rfl
  ·rw[e]at q;cases q;exact h2 _ rfl
  ·rw[e]at q;cases q;exact h3 _ rfl
 exact⟨λb xs e=>no b _ e (λ_ z=>(nomatch z)) (λ_ z=>(nomatch z)) (λ_ z=>(nomatch z)),λb o u e=>no b _ e (λ_ z=>(nomatch z)) (λ_ z=>(nomatch z)) (λ_ z=>(nomatch z)),λb hb ob e=>a.keep b ob e (h b hb)⟩
theorem Step.frame(a:Step H L H' L')(w:World K H (L++T))(w':World K H' L')(wL:World K H L):World K H' (L'++T):=by
 have nd:=w.nd;rw [jK,X6]at nd;have dis:∀b∈j7 L,b∉j7 T:=λb hb hT=>nd.2.2 b hb b hT rfl
 have gh:∀x,some x∈T->x.ok K H:=λx hx=>w.ok x (lr9 _ hx)
 have nT:∀x,some x∈T->∀b∈x.as,b∉j7 L:=λx hx b hb hL=>by
  rcases Sl.as_of hb with z|z
  ·exact dis b hL (mem_owned.mpr ⟨x,hx,z⟩)
  ·refine w.ds b (by rw[jK];exact ll9 _ hL) ?_;rw[kQ];exact lr9 _ (mem_frozen.mpr ⟨x,hx,z⟩)
 refine⟨λx hx=>?_,?_,λb hb=>?_⟩
 ·rcases List.mem_append.mp hx with hx|hx
  ·exact w'.ok x hx
  ·exact(gh x hx).kp (a.kp wL (nT x hx))
 ·rw[jK,X6];refine⟨w'.nd,nd.2.1,λb hb c hc e=>?_⟩;subst e;obtain⟨x,hx,eg⟩:=mem_owned.mp hc;rcases a.own b hb with z|z
  ·exact dis b z hc
  ·exact(gh x hx).some (Sl.own_as eg) z
 ·rw[jK]at hb;rw[kQ];intro hf;rcases List.mem_append.mp hb with hb|hb
  ·rcases List.mem_append.mp hf with hf|hf
   ·exact w'.ds b hb hf
   ·obtain⟨x,hx,eg⟩:=mem_frozen.mp hf;rcases a.own b hb with z|z
    ·exact nT x hx b (Sl.frz_as eg) z
    ·exact(gh x hx).some (Sl.frz_as eg) z
  ·rcases List.mem_append.mp hf with hf|hf
   ·obtain⟨x,hx,eg⟩:=mem_owned.mp hb;rcases a.frz b hf with z|z|z
    ·exact w.ds b (by rw[jK];exact lr9 _ hb) (by rw[kQ];exact ll9 _ z)
    ·exact dis b z hb
    ·exact(gh x hx).some (Sl.own_as eg) z
   ·exact w.ds b (by rw[jK];exact lr9 _ hb) (by rw[kQ];exact lr9 _ hf)
theorem World.left(w:World K H (L++T)):World K H L:=by
 have nd:=w.nd;rw[jK,X6]at nd;exact⟨λx hx=>w.ok x (ll9 _ hx),nd.1,λa ha hf=>w.ds a (by rw[jK];exact ll9 _ ha) (by rw[kQ];exact ll9 _ hf)⟩
theorem World.right(w:World K H (L++T)):World K H T:=by
 have nd:=w.nd;rw[jK,X6]at nd;exact⟨λx hx=>w.ok x (lr9 _ hx),nd.2.1,λa ha hf=>w.ds a (by rw[jK];exact lr9 _ ha) (by rw[kQ];exact lr9 _ hf)⟩
theorem World.comm(w:World K H (L++T)):World K H (T++L):=by
 refine⟨λx hx=>w.ok x ?_,?_,λa ha hf=>w.ds a ?_ ?_⟩
 ·rcases List.mem_append.mp hx with h|h
  ·exact lr9 _ h
  ·exact ll9 _ h
 ·have nd:=w.nd;rw[jK,X6]at nd ⊢;exact⟨nd.2.1,nd.1,λa ha b hb e=>nd.2.2 b hb a ha e.symm⟩
 ·rw[jK]at ha ⊢;rcases List.mem_append.mp ha with h|h
  ·exact lr9 _ h
  ·exact ll9 _ h
 ·rw[kQ]at hf ⊢;rcases List.mem_append.mp hf with h|h
  ·exact lr9 _ h
  ·exact ll9 _ h
theorem World.tail{q:Option Sl}(w:World K H (q::L)):World K H L:=World.right (L:=[q]) w
theorem World.head(w:World K H (some x::L)):x.ok K H:=w.ok x X5
theorem World.apart(w:World K H (some x::L)):∀a∈x.as,a∉j7 L:=λa ha hL=>by
 rcases Sl.as_of ha with z|z
 ·have nd:=w.nd;rw[jw,X6]at nd;exact nd.2.2 a z a hL rfl
 ·exact w.ds a (by rw[jw];exact lr9 _ hL) (by rw[kq];exact ll9 _ z)
theorem World.cons(w:World K H L)(h:x.ok K H)(n:x.own.Nodup)(h1:∀a∈x.own,a∉j7 L)(h2:∀a∈x.own,a∉jJ L)(h3:∀a∈x.frz,a∉j7 L)(h4:∀a∈x.own,a∉x.frz):World K H (some x::L):=by
 refine⟨λy hy=>?_,?_,λa ha hf=>?_⟩
 ·rcases List.mem_cons.mp hy with z|z
  ·cases z;exact h
  ·exact w.ok y z
 ·rw[jw,X6];exact⟨n,w.nd,λa ha b hb e=>by subst e;exact h1 a ha hb⟩
 ·rw[jw]at ha;rw[kq]at hf;rcases List.mem_append.mp ha with ha|ha
  ·rcases List.mem_append.mp hf with hf|hf
   ·exact h4 a ha hf
   ·exact h2 a ha hf
  ·rcases List.mem_append.mp hf with hf|hf
   ·exact h3 a hf ha
   ·exact w.ds a ha hf
theorem World.consNo(w:World K H L)(h:x.ok K H)(ho:x.o=.no)(h3:∀a∈x.as,a∉j7 L):World K H (some x::L):=by
 have e1:x.own=[]:=by unfold Sl.own;rw[ho]
 have e2:x.frz=x.as:=by unfold Sl.frz;rw[ho]
 exact w.cons h (by rw[e1];exact Xu) (by rw[e1];exact λ_ z=>nomatch z) (by rw[e1];exact λ_ z=>nomatch z) (by rw[e2];exact h3) (by rw[e1];exact λ_ z=>nomatch z)
theorem World.consPu(w:World K H L)(h:x.ok K H)(e:x.as=[]):World K H (some x::L):=by
 have e1:∀a,a∉x.own:=λa ha=>by have:=Sl.own_as ha;rw[e]at this;exact nomatch this
 have e2:∀a,a∉x.frz:=λa ha=>by have:=Sl.frz_as ha;rw[e]at this;exact nomatch this
 have e3:x.own=[]:=List.eq_nil_iff_forall_not_mem.mpr e1;exact w.cons h (by rw[e3];exact Xu) (λa z=>absurd z (e1 a)) (λa z=>absurd z (e1 a)) (λa z=>absurd z (e2 a)) (λa z=>absurd z (e1 a))
theorem Zz{L:Ls}{i:Nat}{q:Option Sl}(h:some y∈L.set i q):q=some y\/some y∈L:=by
 rcases List.mem_or_eq_of_mem_set h with z|z
 ·exact .inr z
 ·exact .inl z.symm
theorem VY{i:Nat}{a:Addr}(h:a∈j7 (L.set i (some x))):a∈x.own\/a∈j7 L:=by
 obtain⟨y,hy,ha⟩:=mem_owned.mp h;rcases Zz hy with z|z
 ·cases z;exact .inl ha
 ·exact .inr (mem_owned.mpr ⟨y,z,ha⟩)
theorem XJ{i:Nat}{a:Addr}(h:a∈jJ (L.set i (some x))):a∈x.frz\/a∈jJ L:=by
 obtain⟨y,hy,ha⟩:=mem_frozen.mp h;rcases Zz hy with z|z
 ·cases z;exact .inl ha
 ·exact .inr (mem_frozen.mpr ⟨y,z,ha⟩)
theorem jq6:∀{L:Ls} {i:Nat},(x.own++j7 L).Nodup->(j7 (L.set i (some x))).Nodup
 |[],_,h=>by simp
 |q::L,0,h=>by
  rw[List.set_cons_zero,jw];have e:j7 (q::L)=q.elim [] Sl.own++j7 L:=by simp[j7]
  rw[e,X6]at h;obtain⟨h1,h2,h3⟩:=h;rw[X6]at h2 ⊢;exact⟨h1,h2.2.1,λa ha b hb=>h3 a ha b (lr9 _ hb)⟩
 |q::L,i+1,h=>by
  rw[List.set_cons_succ];have e:∀M:Ls,j7 (q::M)=q.elim [] Sl.own++j7 M:=λM=>by simp[j7]
  rw[e]at h ⊢;rw[X6]at h;obtain⟨h1,h2,h3⟩:=h;rw[X6]at h2;rw[X6];refine⟨h2.1,jq6 (by rw[X6];exact⟨h1,h2.2.1,λa ha b hb=>h3 a ha b (lr9 _ hb)⟩),λa ha b hb e=>?_⟩;subst e;rcases VY hb with z|z
  ·exact h3 a z a (ll9 _ ha) rfl
  ·exact h2.2.2 a ha a z rfl
theorem World.set{i:Nat}(w:World K H (some x::L)):World K H (L.set i (some x)):=by
 refine⟨λy hy=>?_,jq6 (by have:=w.nd;rwa [jw]at this),λa ha hf=>?_⟩
 ·rcases Zz hy with z|z
  ·cases z;exact w.head
  ·exact w.ok y (lc9 _ z)
 ·refine w.ds a ?_ ?_
  ·rw[jw];exact List.mem_append.mpr (VY ha)
  ·rw[kq];exact List.mem_append.mpr (XJ hf)
theorem Step.set{i:Nat}:Step H (some x::L) H (L.set i (some x)) where
 keep:=λ_ _ h _=>h
 own:=λa ha=>.inl (by rw[jw];exact List.mem_append.mpr (VY ha))
 frz:=λa ha=>.inl (by rw[kq];exact List.mem_append.mpr (XJ ha))
theorem Step.drop{q:Option Sl}:Step H (q::L) H L where
 keep:=λ_ _ h _=>h
 own:=λa ha=>.inl (by rw[show(q::L:Ls)=[q]++L from rfl,jK];exact lr9 _ ha)
 frz:=λa ha=>.inl (by rw[show(q::L:Ls)=[q]++L from rfl,kQ];exact lr9 _ ha)
theorem wV{i:Nat}(h:L[i]?=some (some x)):some x∈L:=Xs h
theorem Q2(x:Sl):x.let.own=[]/\x.let.frz=x.as/\x.let.as=x.as:=⟨rfl,rfl,rfl⟩
theorem kkp{i:Nat}{a:Addr}(h:a∈j7 (L.set i (some x.let))):a∈j7 L:=by
 rcases VY h with z|z
 ·exact nomatch z
 ·exact z
theorem kqt:∀{L:Ls} {i:Nat},(j7 L).Nodup->(∀a∈j7 L,a∉jJ L)->L[i]?=some (some x)->∀a∈x.as,a∉j7 (L.set i (some x.let))
 | [],_,_,_,h,_,_=>by simp at h
 | q::L,0,nd,ds,h,a,ha=>by
  have e:q=some x:=by simpa using h
  subst e;rw[List.set_cons_zero,jw];intro hm;have hm:a∈j7 L:=by simpa [Q2]using hm
  rcases Sl.as_of ha with z|z
  ·rw[jw,X6]at nd;exact nd.2.2 a z a hm rfl
  ·exact ds a (by rw[jw];exact lr9 _ hm) (by rw[kq];exact ll9 _ z)
 | q::L,i+1,nd,ds,h,a,ha=>by
  have h:L[i]?=some (some x):=by simpa using h
  rw[List.set_cons_succ];have e:∀M:Ls,j7 (q::M)=q.elim [] Sl.own++j7 M:=λM=>by simp[j7]
  have f:jJ (q::L)=q.elim [] Sl.frz++jJ L:=by simp[jJ]
  rw[e];intro hm;rw[e,X6]at nd;rcases List.mem_append.mp hm with hm|hm
  ·rcases Sl.as_of ha with z|z
   ·exact nd.2.2 a hm a (mem_owned.mpr ⟨x,wV h,z⟩) rfl
   ·exact ds a (by rw[e];exact ll9 _ hm) (by rw[f];exact lr9 _ (mem_frozen.mpr ⟨x,wV h,z⟩))
  ·exact kqt (L:=L) nd.2.1 (λb hb hf=>ds b (by rw[e];exact lr9 _ hb) (by rw[f];exact lr9 _ hf)) h a ha hm
theorem Kj(h:x.ok K H):x.let.ok K H:=RepO.wk h
theorem World.let{i:Nat}(w:World K H L)(h:L[i]?=some (some x)):World K H (L.set i (some x.let)):=by
 have out:=kqt w.nd w.ds h;refine⟨λy hy=>?_,jq6 (by rw[(Q2 x).1];exact w.nd),λa ha hf=>?_⟩
 ·rcases Zz hy with z|z
  ·cases z;exact Kj (w.ok x (wV h))
  ·exact w.ok y z
 ·rcases XJ hf with z|z
  ·exact out a z ha
  ·exact w.ds a (kkp ha) z
theorem World.read{i:Nat}(w:World K H L)(h:L[i]?=some (some x)):World K H (some x.let::L.set i (some x.let)):=
 (w.let h).consNo (Kj (w.ok x (wV h))) rfl (kqt (x:=x) w.nd w.ds h)
theorem Step.read{i:Nat}(h:L[i]?=some (some x)):Step H L H (some x.let::L.set i (some x.let)) where
 keep:=λ_ _ h _=>h
 own:=λa ha=>.inl (by rw[jw,(Q2 x).1]at ha;exact kkp ha)
 frz:=λa ha=>by
  have hx:=wV h;have q:∀a∈x.as,a∈jJ L\/a∈j7 L\/H a=none:=λa ha=>by
   rcases Sl.as_of ha with z|z
   ·exact .inr (.inl (mem_owned.mpr ⟨x,hx,z⟩))
   ·exact .inl (mem_frozen.mpr ⟨x,hx,z⟩)
  rw[kq]at ha;rcases List.mem_append.mp ha with z|z
  ·exact q a z
  ·rcases XJ z with z|z
   ·exact q a z
   ·exact .inl z
end
inductive Mt:En->L2.St->Ls->Prop
 |nil:Mt [] [] []
 |un {E:En} {σ:L2.St} {L:Ls} {y:Option V}:Mt E σ L->Mt (none::E) (y :: σ) (none::L)
 |cons {E:En} {σ:L2.St} {L:Ls} {x:Sl}:Mt E σ L->Mt (some (x.o,x.d)::E) (some x.v :: σ) (some x::L)
theorem Mt.get:∀{E:En} {σ:L2.St} {L:Ls} {i:Nat} {o:Own} {d:D},Mt E σ L->E[i]?=some (some (o,d))->∃x,L[i]?=some (some x)/\x.o=o/\x.d=d/\σ[i]?=some (some x.v)
 |_,_,_,_,_,_,.nil,h=>by simp at h
 |_,_,_,0,_,_,.un _,h=>by simp at h
 |_,_,_,i+1,_,_,.un m,h=>by simpa using m.get (i:=i) (by simpa using h)
 |_,_,_,0,_,_,.cons (x:=x) m,h=>by
  simp only[List.getElem?_cons_zero,Option.some.injEq,Prod.mk.injEq]at h;exact⟨x,by simp,h.1,h.2,by simp⟩
 |_,_,_,i+1,_,_,.cons m,h=>by simpa using m.get (i:=i) (by simpa using h)
theorem Mt.set{x:Sl}:∀{E:En} {σ:L2.St} {L:Ls} (i:Nat),Mt E σ L->Mt (E.set i (some (x.o,x.d))) (σ.set i (some x.v)) (L.set i (some x))
 |_,_,_,_,.nil=>.nil
 |_,_,_,0,.un m=>.cons m
 |_,_,_,i+1,.un m=>.un (m.set i)
 |_,_,_,0,.cons m=>.cons m
 |_,_,_,i+1,.cons m=>.cons (m.set i)
theorem Mt.let{x:Sl}:∀{E:En} {σ:L2.St} {L:Ls} {i:Nat},Mt E σ L->L[i]?=some (some x)->Mt (E.set i (some (.no,x.d))) σ (L.set i (some x.let))
 |_,_,_,_,.nil,h=>by simp at h
 |_,_,_,0,.un m,h=>by simp at h
 |_,_,_,i+1,.un m,h=>.un (m.let (i:=i) (by simpa using h))
 |_,_,_,0,.cons (x:=y) m,h=>by
  have e:y=x:=by simpa using h
  subst e;exact .cons (x:=y.let) m
 |_,_,_,i+1,.cons m,h=>.cons (m.let (i:=i) (by simpa using h))
theorem Mt.len:∀{E:En} {σ:L2.St} {L:Ls},Mt E σ L->E.length=σ.length/\L.length=σ.length
 |_,_,_,.nil=>⟨rfl,rfl⟩
 |_,_,_,.un m=>by simp[m.len]
 |_,_,_,.cons m=>by simp[m.len]
def sls(L:Ls):List Sl:=L.filterMap id
theorem JK(L:Ls):j7 L=(sls L).flatMap Sl.own:=by
 induction L with
 |nil=>rfl
 |cons q L ih=>
  cases q with
  |none=>rw[kwg,ih];rfl
  |some x=>rw[jw,ih];rfl
theorem Kv(L:Ls):jJ L=(sls L).flatMap Sl.frz:=by
 induction L with
 |nil=>rfl
 |cons q L ih=>
  cases q with
  |none=>rw[kqx,ih];rfl
  |some x=>rw[kq,ih];rfl
theorem mem_sls{L:Ls}{x:Sl}:x∈sls L↔some x∈L:=by simp[sls]
@[simp] theorem KY (L T:Ls):sls (L++T)=sls L++sls T:=by simp[sls]
@[simp] theorem qjp (L:Ls):sls (none::L)=sls L:=rfl
@[simp] theorem kvc (x:Sl)(L:Ls):sls (some x::L)=x::sls L:=rfl
@[simp] theorem vq6:sls []=[]:=rfl
@[simp] theorem vq7 (T:List Sl):sls (T.map some)=T:=by simp[sls]
@[simp] theorem qv8 (k:Nat):sls (List.replicate k none)=[]:=by
 induction k with
 |zero=>rfl
 |succ k ih=>rw[List.replicate_succ,qjp,ih]
theorem Z6{α β:Type}(f:α->List β){l l':List α}(h:l.Sublist l'):(l.flatMap f).Sublist (l'.flatMap f):=by
 induction h with
 |slnil=>exact List.Sublist.refl _
 |cons a _ ih=>rw[List.flatMap_cons];exact List.Sublist.trans ih (List.sublist_append_right _ _)
 |cons_cons a _ ih=>rw[List.flatMap_cons,List.flatMap_cons];exact List.Sublist.append (List.Sublist.refl _) ih
section
variable {K:PySem.W.Frag}{H H':Hp}{L L' M M':Ls}
theorem World.same(w:World K H L)(p:(sls L).Perm (sls L')):World K H L':=by
 have po:(j7 L).Perm (j7 L'):=by rw[JK,JK];exact p.flatMap_right _
 have pf:(jJ L).Perm (jJ L'):=by rw[Kv,Kv];exact p.flatMap_right _
 exact⟨λx hx=>w.ok x (mem_sls.mp (p.mem_iff.mpr (mem_sls.mpr hx))),po.nodup_iff.mp w.nd,λa ha hf=>w.ds a (po.mem_iff.mpr ha) (pf.mem_iff.mpr hf)⟩
theorem Step.same(s:Step H L H' L')(p:(sls L).Perm (sls M))(p':(sls L').Perm (sls M')):Step H M H' M':=by
 have po:(j7 L).Perm (j7 M):=by rw[JK,JK];exact p.flatMap_right _
 have pf:(jJ L).Perm (jJ M):=by rw[Kv,Kv];exact p.flatMap_right _
 have po':(j7 L').Perm (j7 M'):=by rw[JK,JK];exact p'.flatMap_right _
 have pf':(jJ L').Perm (jJ M'):=by rw[Kv,Kv];exact p'.flatMap_right _
 exact⟨λa ob h hn=>s.keep a ob h λz=>hn (po.mem_iff.mp z),λa ha=>(s.own a (po'.mem_iff.mpr ha)).imp (λz=>po.mem_iff.mp z) id,
  λa ha=>(s.frz a (pf'.mem_iff.mpr ha)).imp (λz=>pf.mem_iff.mp z) λz=>z.imp (λz=>po.mem_iff.mp z) id⟩
theorem World.sub(w:World K H L)(p:(sls L').Sublist (sls L)):World K H L':=by
 refine⟨λx hx=>w.ok x (mem_sls.mp (p.subset (mem_sls.mpr hx))),?_,λa ha hf=>w.ds a ?_ ?_⟩
 ·have:=w.nd;rw[JK]at this ⊢;exact(Z6 _ p).nodup this
 ·rw[JK]at ha ⊢;exact(Z6 _ p).subset ha
 ·rw[Kv]at hf ⊢;exact(Z6 _ p).subset hf
theorem Step.sub(s:Step H L H' L')(p:(sls M).Sublist (sls L')):Step H L H' M:=by
 refine⟨s.keep,λa ha=>s.own a ?_,λa ha=>s.frz a ?_⟩
 ·rw[JK]at ha ⊢;exact(Z6 _ p).subset ha
 ·rw[Kv]at ha ⊢;exact(Z6 _ p).subset ha
end
theorem jw7:∀{L:Ls} {j:Nat},(sls (at' L j::L.set j none)).Perm (sls L)
 | [],j=>by simp[at',sls]
 | q::L,0=>by
  cases q with
  |none=>simp[at',sls]
  |some x=>simp[at',sls]
 | q::L,j+1=>by
  have ih:=jw7 (L:=L) (j:=j);have e:at' (q::L) (j+1)=at' L j:=by simp[at']
  rw[e,List.set_cons_succ];have e2:∀(a b:Option Sl) (M:Ls),(sls (a::b::M)).Perm (sls (b::a::M)):=λa b M=>by
   cases a<;>cases b<;>simp[sls]
   exact List.Perm.swap ..
  refine(e2 _ _ _).trans ?_;cases q with
  |none=>simpa [sls]using ih
  |some y=>simpa [sls]using ih
theorem kvy:∀{R:List Nat} {L:Ls},R.Nodup->(sls (R.map (at' L)++clr R L)).Perm (sls L)
 | [],L,_=>by simp[clr]
 | j::R,L,h=>by
  rw[List.nodup_cons]at h;have e:R.map (at' L)=R.map (at' (L.set j none)):=by
   apply List.map_congr_left;intro i hi;have:j≠i:=λe=>h.1 (e▸hi)
   unfold at';rw[Xn this]
  rw[List.map_cons,List.cons_append,clr,e];have ih:=kvy (R:=R) (L:=L.set j none) h.2;refine List.Perm.trans ?_ (jw7 (L:=L) (j:=j));cases hq:at' L j with
  |none=>simpa [sls]using ih
  |some x=>simpa [sls]using ih
theorem qj1{α:Type}:∀{R:List Nat} {L:List (Option α)},(clr R L).length=L.length
 |[],_=>rfl
 |j::R,L=>by rw[clr,qj1,Ye]
theorem qj2{α:Type}:∀{R:List Nat} {L:List (Option α)} {j:Nat},j∈R->at' (clr R L) j=none
 | [],_,_,h=>by cases h
 | i :: R,L,j,h=>by
  rw [clr]
  by_cases hR:j∈R
  ·exact qj2 hR
  ·have e:j=i:=by simpa [hR]using h
   subst e;have gen:∀{R:List Nat} {M:List (Option α)},j∉R->at' (clr R M) j=at' M j:=by
    intro R
    induction R with
    |nil=>intro M _;rfl
    |cons r R ih=>
     intro M h;rw[Xk,not_or]at h;rw[clr,ih h.2];unfold at';rw[Xn (Ne.symm h.1)]
   rw[gen hR];unfold at'
   by_cases hl:j<L.length
   ·rw[Y4 hl];rfl
   ·rw[List.set_eq_of_length_le (by omega),List.getElem?_eq_none (by omega)];rfl
theorem kqe:∀{R:List Nat} {B L:Ls},R.Nodup->(∀j∈R,at' L j=none)->(∀j∈R,j<L.length)->B.length=R.length->(sls (back R B L)).Perm (sls (B++L))
 | [],B,L,_,_,_,hl=>by
  have:B=[]:=by simpa using hl
  subst this;simp [back]
 | j :: R,[],L,_,_,_,hl=>by simp at hl
 | j :: R,q::B,L,hn,hz,hr,hl=>by
  rw [List.nodup_cons]at hn;rw [back];have hj:=hr j X5;have ih:=kqe (R:=R) (B:=B) (L:=L.set j q) hn.2 (λi hi=>by
   have:j≠i:=λe=>hn.1 (e▸hi)
   unfold at';rw [Xn this];exact hz i (lc9 _ hi)) (λi hi=>by rw[Ye];exact hr i (lc9 _ hi)) (by simpa using hl)
  refine ih.trans ?_;have sp:∀{M:Ls} {i:Nat},at' M i=none->i<M.length->(sls (M.set i q)).Perm (sls (q::M)):=by
   intro M
   induction M with
   | nil=>intro i _ h;simp at h
   | cons r M ihM=>
    intro i h1 h2;cases i with
    | zero=>
     have:r=none:=by simpa [at']using h1
     subst this;cases q<;>simp[sls]
    | succ i=>
     have:=ihM (i:=i) (by simpa [at']using h1) (by simpa using h2);rw[List.set_cons_succ];cases r with
     | none=>cases q<;>simpa [sls]using this
     | some y=>
      cases q with
      |none=>simpa [sls]using this
      |some x=>
       simp only[kvc]at this ⊢;exact(this.cons y).trans (List.Perm.swap ..)
  rw[KY,List.cons_append];have h1:=sp (hz j X5) hj;have h2:(sls B++sls (L.set j q)).Perm (sls B++sls (q::L)):=h1.append_left _;refine h2.trans ?_;cases q with
  |none=>simp
  |some x=>
   simp only[kvc,KY];exact List.perm_middle
section
variable {K:PySem.W.Frag}{H H1 H2 H':Hp}{L L1 L' T:Ls}{x y:Sl}
theorem Wj(p:L.Perm L'):(j7 L).Perm (j7 L'):=p.flatMap_right _
theorem jw2(p:L.Perm L'):(jJ L).Perm (jJ L'):=p.flatMap_right _
theorem World.perm(w:World K H L)(p:L.Perm L'):World K H L':=
 ⟨λx hx=>w.ok x (p.mem_iff.mpr hx),(Wj p).nodup_iff.mp w.nd,λa ha hf=>w.ds a ((Wj p).mem_iff.mpr ha) ((jw2 p).mem_iff.mpr hf)⟩
theorem Step.perm(s : Step H L H' L'){M M' : Ls}(p : L.Perm M)(p' : L'.Perm M'): Step H M H' M':=
  ⟨λa ob h hn=>s.keep a ob h λz=>hn ((Wj p).mem_iff.mp z),
   λa ha=>(s.own a ((Wj p').mem_iff.mpr ha)).imp (λz=>(Wj p).mem_iff.mp z) id,
   λa ha=>(s.frz a ((jw2 p').mem_iff.mpr ha)).imp (λz=>(jw2 p).mem_iff.mp z) λz=>z.imp (λz=>(Wj p).mem_iff.mp z) id⟩
theorem Step.frm(s:Step H L H' L'):Step H (L++T) H' (L'++T) where
 keep:=λa ob h hn=>s.keep a ob h λz=>hn (by rw[jK];exact ll9 _ z)
 own:=λa ha=>by
  rw[jK]at ha ⊢;rcases List.mem_append.mp ha with z|z
  ·exact(s.own a z).imp (ll9 _) id
  ·exact .inl (lr9 _ z)
 frz:=λa ha=>by
  rw[kQ]at ha ⊢;rw[jK];rcases List.mem_append.mp ha with z|z
  ·exact(s.frz a z).imp (ll9 _) λz=>z.imp (ll9 _) id
  ·exact .inl (lr9 _ z)
theorem YX(w:World K H (T++L))(s:Step H L H' L')(w':World K H' L'):World K H' (T++L')/\Step H (T++L) H' (T++L'):=by
 have w1:World K H (L++T):=w.comm;exact⟨(s.frame w1 w' w1.left).comm,s.frm.perm List.perm_append_comm List.perm_append_comm⟩
end
theorem ex8{α β γ:Type}{P:Prop}{a b c d e:α->β->γ->Prop}(h:∃x y z,a x y z/\b x y z/\c x y z/\d x y z/\e x y z)(f:∀x y z,a x y z->b x y z->c x y z->d x y z->e x y z->P):P:=
 h.elim λx h=>h.elim λy h=>h.elim λz h=>f x y z h.1 h.2.1 h.2.2.1 h.2.2.2.1 h.2.2.2.2
theorem ex7{α β γ:Type}{P:Prop}{a b c d:α->β->γ->Prop}(h:∃x y z,a x y z/\b x y z/\c x y z/\d x y z)(f:∀x y z,a x y z->b x y z->c x y z->d x y z->P):P:=
 h.elim λx h=>h.elim λy h=>h.elim λz h=>f x y z h.1 h.2.1 h.2.2.1 h.2.2.2
theorem kK{X:Cx}{e:Expr}{t t':TE}(h:PE X e t)(w:∀ σ H Q,t' σ H Q->t σ H Q):PE X e t':=λpins s σ H Q I q=>h pins s σ H Q I (w σ H Q q)
theorem kxq{X:Cx}{e:Expr}{t t':TT}(h:PT X e t)(w:∀ σ H Q,t' σ H Q->t σ H Q):PT X e t':=λpins s σ H Q I q=>h pins s σ H Q I (w σ H Q q)
theorem J8{X:Cx}{e:Stmt}{t t':TS}(h:PS X e t)(w:∀D σ H,t' D σ H->t D σ H):PS X e t':=λpins s σ H D I q=>h pins s σ H D I (w D σ H q)
theorem kxs{X:Cx}{e:List Stmt}{t t':TS}(h:PSs X e t)(w:∀D σ H,t' D σ H->t D σ H):PSs X e t':=λpins s σ H D I q=>h pins s σ H D I (w D σ H q)
structure Fx0 where
 K:PySem.W.Frag
 mg:Str->Option Value
 EX:XK
noncomputable def Xc{α:Type}(Z:Fx0)(σ:L2.St)(H:Hp)(L:Ls)(r:Res α):Prop:=∀E' c,r=.exc E' c->∀C L' H',Z.mg c=some (.ref C)->Mt E' σ L'->World Z.K H' L'->Step H L H' L'->Z.EX (.ref C) none H'
theorem Xc.step{α:Type}{Z:Fx0}{σ:L2.St}{H H1:Hp}{L L1:Ls}{r:Res α}(x:Xc Z σ H L r)(s:Step H L H1 L1):Xc Z σ H1 L1 r:=λE' c e C L' H' hm m w s'=>x E' c e C L' H' hm m w (s.trans s')
theorem Xc.map{α β:Type}{Z:Fx0}{σ:L2.St}{H:Hp}{L:Ls}{r:Res α}{E':En}{c:Str}(x:Xc Z σ H L r)(e:r=.exc E' c):Xc Z σ H L (.exc E' c:Res β):=λE1 c1 e1=>by
 injection e1 with h1 h2;subst h1 h2;exact x _ _ e
noncomputable def tQ(Z:Fx0)(q:Bool)(c:Ex):TE:=fun σ H Q=>∃E L r,Mt E σ L/\World Z.K H L/\c E=some r/\Xc Z σ H L r /\
 ∀E' a,r=.ok E' a->∀(x:Sl) L' H',x.o=a.1->x.d=a.2->Mt E' σ L'->World Z.K H' (some x::L')->Step H L H' (some x::L')->(q=true->jX H H'/\∀b∈x.own,H b=none)->Q x.v H'
def Src(H:Hp)(L:Ls)(as:List Addr):Prop:=∀b∈as,b∈jJ L\/b∈j7 L\/H b=none
theorem Src.back{H H1:Hp}{L L1:Ls}{as:List Addr}(h:Src H1 L1 as)(s:Step H L H1 L1):Src H L as:=λb hb=>by
 rcases h b hb with z|z|z
 ·exact s.frz b z
 ·exact .inr (s.own b z)
 ·by_cases ho:b∈j7 L
  ·exact .inr (.inl ho)
  ·refine .inr (.inr ?_);cases e:H b with
   |none=>rfl
   |some ob=>rw[s.keep b ob e ho]at z;cases z
noncomputable def tV(Z:Fx0)(q:Bool)(c:Ex):TE:=fun σ H Q=>∃E L r,Mt E σ L/\World Z.K H L/\c E=some r/\Xc Z σ H L r /\
 ∀E' a,r=.ok E' a->∀(x:Sl) L' H',x.o=a.1->x.d=a.2->Mt E' σ L'->World Z.K H' L'->x.ok Z.K H'->(∀b∈x.frz,b∉j7 L')->Src H L x.as->Step H L H' L'->(q=true->jX H H')->Q x.v H'
def QE(X:Cx)(Z:Fx0)(q:Bool)(c:Ex)(e:Expr):Prop:=PE X e (tQ Z q c)
def QV(X:Cx)(Z:Fx0)(q:Bool)(c:Ex)(e:Expr):Prop:=PE X e (tV Z q c)
section
variable {X:Cx}{Z:Fx0}{q qa qb:Bool}{a b c:Ex}{e ea eb:Expr}{pos:Pos}{α:Type}{σ:L2.St}{H:Hp}{L:Ls}{E:En}
theorem wq{β:Type}{m:Option (Res α)}{F:En->α->Option (Res β)}{r:Res β}(h:bnd m F=some r):(∃E1 x,m=some (.ok E1 x)/\F E1 x=some r)\/∃E1 c,m=some (.exc E1 c)/\r=.exc E1 c:=by
 cases m with
 |none=>cases h
 |some q=>
  cases q with
  |ok E1 x=>exact .inl ⟨E1,x,rfl,h⟩
  |exc E1 c=>exact .inr ⟨E1,c,rfl,(oq9 h).symm⟩
theorem Zk{F:En->Sd->Option (Res α)}{r:Res α}{G:VK}(m:Mt E σ L)(w:World Z.K H L)(h:bnd (a E) F=some r)(xc:Xc Z σ H L r)
  (k:∀E1 s,F E1 s=some r->∀(x:Sl) L1 H1,x.o=s.1->x.d=s.2->Mt E1 σ L1->World Z.K H1 (some x::L1)->Step H L H1 (some x::L1)->(q=true->jX H H1/\∀b∈x.own,H b=none)->G x.v H1):tQ Z q a σ H G:=by
 rcases wq h with⟨E1,s,h1,h2⟩|⟨E1,c,h1,h2⟩
 ·exact⟨E,L,_,m,w,h1,(λ_ _ z=>by cases z),λE' s' z x L' H' e1 e2 m' w' st sm=>by
   injection z with z1 z2;subst z1 z2;exact k _ _ h2 x L' H' e1 e2 m' w' st sm⟩
 ·exact⟨E,L,_,m,w,h1,xc.map h2,λE' s' z=>by cases z⟩
theorem v8{F:En->Sd->Option (Res α)}{r:Res α}{G:VK}(m:Mt E σ L)(w:World Z.K H L)(h:bnd (a E) F=some r)(xc:Xc Z σ H L r)
  (k:∀E1 s,F E1 s=some r->∀(x:Sl) L1 H1,x.o=s.1->x.d=s.2->Mt E1 σ L1->World Z.K H1 L1->x.ok Z.K H1->(∀b∈x.frz,b∉j7 L1)->Src H L x.as->Step H L H1 L1->(q=true->jX H H1)->G x.v H1):tV Z q a σ H G:=by
 rcases wq h with⟨E1,s,h1,h2⟩|⟨E1,c,h1,h2⟩
 ·exact⟨E,L,_,m,w,h1,(λ_ _ z=>by cases z),λE' s' z x L' H' e1 e2 m' w' ok fr sr st sm=>by
   injection z with z1 z2;subst z1 z2;exact k _ _ h2 x L' H' e1 e2 m' w' ok fr sr st sm⟩
 ·exact⟨E,L,_,m,w,h1,xc.map h2,λE' s' z=>by cases z⟩
theorem V8{x:Sl}{K:PySem.W.Frag}{H1 H2:Hp}{L1 L2':Ls}(ok:x.ok K H1)(fr:∀b∈x.frz,b∉j7 L1)(st:Step H1 L1 H2 L2')(sm:jX H1 H2):x.ok K H2/\∀b∈x.frz,b∉j7 L2':=
 ⟨RepO.kp ok (Kp.of_same sm),λb hb ho=>(st.own b ho).elim (fr b hb) λz=>ok.some (Sl.frz_as hb) z⟩
theorem zJ{x:Option α}{r:Res α}(h:val E x=some r):∃y,x=some y/\r=.ok E y:=by
 cases x with
 |none=>cases h
 |some y=>exact⟨y,rfl,(oq9 h).symm⟩
theorem QE.weak(h:QE X Z true c e):QE X Z q c e:=kK h fun σ H Q ak=>ex8 ak λE L r m w hc xc k=>⟨E,L,r,m,w,hc,xc,λE' s z x L' H' e1 e2 m' w' st sm=>k E' s z x L' H' e1 e2 m' w' st λ_=>sm rfl⟩
theorem kjb{x:Sl}{H1:Hp}{L1:Ls}(st:Step H L H1 (some x::L1)):Src H L x.as:=λb hb=>by
 rcases Sl.as_of hb with z|z
 ·exact .inr (st.own b (by rw[jw];exact ll9 _ z))
 ·exact st.frz b (by rw[kq];exact ll9 _ z)
theorem j6(h:QE X Z q c e):QV X Z q (vE c) e:=kK h fun σ H Q ak=>ex8 ak λE L r m w hc xc k=>
 Zk m w hc xc λE1 s h1 x L1 H1 e1 e2 m1 w1 st sm=>by
  cases oq9 h1;exact k _ _ rfl x.let L1 H1 rfl e2 m1 w1.tail (Kj w1.head) (λb hb=>w1.apart b hb) (kjb (x:=x) st) (st.trans Step.drop) λhq=>(sm hq).1
theorem Q4{x:Sl}{H1:Hp}{L1:Ls}(st:Step H L H1 L1)(sr:Src H L x.as)(ho:x.own=[]):Step H L H1 (some x::L1) where
 keep:=st.keep
 own:=λb hb=>by rw[jw,ho]at hb;exact st.own b hb
 frz:=λb hb=>by
  rw[kq]at hb;rcases List.mem_append.mp hb with z|z
  ·exact sr b (Sl.frz_as z)
  ·exact st.frz b z
theorem kz0{x:Sl}(h:x.o=.no):x.own=[]:=by unfold Sl.own;rw[h]
theorem Yw{x:Sl}(h:x.o=.no):x.frz=x.as:=by unfold Sl.frz;rw[h]
theorem qw4{x:Sl}(h:x.as=[]):x.own=[]:=List.eq_nil_iff_forall_not_mem.mpr λa ha=>by have:=Sl.own_as ha;rw[h]at this;exact nomatch this
theorem qw(h:QV X Z q c e):QE X Z q (cH c) e:=kK h fun σ H Q ak=>ex8 ak λE L r m w hc xc k=>
 v8 m w hc xc λE1 s h1 x L1 H1 e1 e2 m1 w1 ok fr sr st sm=>by
  by_cases ho:s.1=.no
  ·rw[Xb ho]at h1;cases oq9 h1;have eo:x.o=.no:=e1.trans ho;exact k _ _ rfl x L1 H1 eo e2 m1 (w1.consNo ok eo λb hb=>fr b (by rw[Yw eo];exact hb)) (Q4 st sr (kz0 eo)) λhq=>⟨sm hq,by rw[kz0 eo];exact λ_ z=>(nomatch z)⟩
  ·rw[Xj ho]at h1
   by_cases hp:s.2.pure=true
   ·rw[Xb hp]at h1;cases oq9 h1;obtain⟨z,rp⟩:=RepL.pu (g':=false) (RepO.wk ok) (by rw[e2];exact hp);exact k _ _ rfl ⟨.dp,x.d,x.v,[]⟩ L1 H1 rfl e2 m1 (w1.consPu rp rfl) (Q4 (x:=⟨.dp,x.d,x.v,[]⟩) st (λb hb=>nomatch hb) rfl) λhq=>⟨sm hq,λ_ z=>(nomatch z)⟩
   ·rw[Xj hp]at h1;cases h1
theorem q_C{d:D}{v:V}(h:PE X e (tC v))(hr:∀H,RepL Z.K H false d v []):QE X Z true (cC d) e:=kK h fun σ H Q ak=>ex8 ak λE L r m w hc xc k=>by
 cases oq9 hc;exact k _ _ rfl ⟨.dp,d,v,[]⟩ L H rfl rfl m (w.consPu (hr H) rfl) (Q4 (x:=⟨.dp,d,v,[]⟩) Step.refl (λb hb=>nomatch hb) rfl) λ_=>⟨λ_ _ z=>z,λ_ z=>(nomatch z)⟩
theorem q_V{i:Nat}(h:PE X e (zq i)):QE X Z true (cV i) e:=kK h fun σ H Q ak=>ex8 ak λE L r m w hc xc k=>by
 unfold cV at hc
 split at hc
 ·rename_i o d hE;cases oq9 hc;obtain⟨x,h1,h2,h3,h4⟩:=m.get hE;refine⟨x.v,h4,k _ _ rfl x.let _ H rfl h3 ?_ (w.read h1) (Step.read h1) λ_=>⟨λ_ _ z=>z,λ_ z=>(nomatch z)⟩⟩;have:=m.let h1
  rwa [h3]at this
 ·cases hc
theorem KQ:∀{E:En} {σ:L2.St} {L:Ls} (j:Nat),Mt E σ L->Mt (E.set j none) σ (L.set j none):=by
 intro E σ L j m
 induction m generalizing j with
 |nil=>exact .nil
 |un m ih=>cases j with
  |zero=>exact .un m
  |succ j=>exact .un (ih j)
 |cons m ih=>cases j with
  |zero=>exact .un m
  |succ j=>exact .cons (ih j)
theorem XV{x:Sl}:∀{L:Ls} {i:Nat},L[i]?=some (some x)->(none::L).Perm (some x::L.set i none)
 |[],_,h=>by simp at h
 |q::L,0,h=>by
  have e:q=some x:=by simpa using h
  subst e;exact List.Perm.swap ..
 |q::L,i+1,h=>by
  have:=XV (L:=L) (i:=i) (by simpa using h);rw[List.set_cons_succ];exact(List.Perm.swap ..).trans ((this.cons q).trans (List.Perm.swap ..))
theorem Qw{i:Nat}(h:PE X e (zq i)):QE X Z false (cMv i) e:=kK h fun σ H Q ak=>ex8 ak λE L r m w hc xc k=>by
 unfold cMv at hc
 split at hc
 ·rename_i s hE;cases oq9 hc;obtain⟨o,d⟩:=s;obtain⟨x,h1,h2,h3,h4⟩:=m.get hE;have wn:World Z.K H (none::L):=⟨λy hy=>w.ok y (by simpa using hy),by simpa using w.nd,by simpa using w.ds⟩;have sn:Step H L H (none::L):=⟨λ_ _ z _=>z,λa z=>.inl (by simpa using z),λa z=>.inl (by simpa using z)⟩;exact⟨x.v,h4,k _ _ rfl x _ H h2 h3 (KQ i m) (wn.perm (XV h1)) (sn.trans (Step.refl.perm (List.Perm.refl _) (XV h1))) λz=>(nomatch z)⟩
 ·cases hc
theorem q_vV{i:Nat}(h:PE X e (zq i)):QV X Z true (vV i) e:=kK h fun σ H Q ak=>ex8 ak λE L r m w hc xc k=>by
 unfold vV at hc
 split at hc
 ·rename_i s hE;cases oq9 hc;obtain⟨o,d⟩:=s;obtain⟨x,h1,h2,h3,h4⟩:=m.get hE;have hx:=wV h1;refine⟨x.v,h4,k _ _ rfl x L H h2 h3 m w (w.ok x hx) (λb hb ho=>w.ds b ho (mem_frozen.mpr ⟨x,hx,hb⟩)) (λb hb=>?_) Step.refl λ_=>λ_ _ z=>z⟩;rcases Sl.as_of hb with z|z
  ·exact .inr (.inl (mem_owned.mpr ⟨x,hx,z⟩))
  ·exact .inl (mem_frozen.mpr ⟨x,hx,z⟩)
 ·cases hc
structure Out (K:PySem.W.Frag)(H H':Hp)(z:Sl)(fr:List Addr):Prop where
 same:jX H H'
 ok:z.ok K H'
 new:∀b∈z.own,H b=none
 nd:z.own.Nodup
 fr:∀b∈z.frz,b∈fr
noncomputable def Ad1(K:PySem.W.Frag)(r:V->Hp->VK->Prop)(f:Sd->Option Sd):Prop:=∀(H:Hp) (x:Sl) (s:Sd) (Q:VK),x.ok K H->f (x.o,x.d)=some s->(∀(z:Sl) H',z.o=s.1->z.d=s.2->Out K H H' z x.frz->Q z.v H')->r x.v H Q
noncomputable def Ad2(K:PySem.W.Frag)(r:R2)(f:Sd->Sd->Option Sd):Prop:=∀(H:Hp) (x y:Sl) (s:Sd) (Q:VK),x.ok K H->y.ok K H->f (x.o,x.d) (y.o,y.d)=some s->(∀(z:Sl) H',z.o=s.1->z.d=s.2->Out K H H' z (x.frz++y.frz)->Q z.v H')->r x.v y.v H Q
theorem kjn{K:PySem.W.Frag}{H H':Hp}{d:D}{v:V}{fr:List Addr}(s:jX H H')(r:RepL K H' false d v []):Out K H H' ⟨.dp,d,v,[]⟩ fr:=⟨s,r,λ_ h=>(nomatch h),Xu,λ_ h=>(nomatch h)⟩
theorem wX{H:Hp}:jX H H:=λ_ _ z=>z
theorem kJ{H H1 H2:Hp}(a:jX H H1)(b:jX H1 H2):jX H H2:=λc ob h=>b c ob (a c ob h)
theorem JQ{z:Sl}{fr:List Addr}{H1 H2:Hp}{L1:Ls}(w:World Z.K H1 L1)(st:Step H L H1 L1)(o:Out Z.K H1 H2 z fr)(ap:∀b∈fr,b∉j7 L1)(al:∀b∈fr,H1 b≠none)(sr:Src H L fr):
  World Z.K H2 (some z::L1)/\Step H L H2 (some z::L1):=by
 have w2:World Z.K H2 L1:=⟨λx hx=>RepO.kp (w.ok x hx) (Kp.of_same o.same),w.nd,w.ds⟩;refine⟨w2.cons o.ok o.nd (λb hb ho=>w.own_some ho (o.new b hb)) (λb hb hf=>w.frz_some hf (o.new b hb)) (λb hb=>ap b (o.fr b hb)) (λb hb hf=>al b (o.fr b hf) (o.new b hb)),?_⟩;refine⟨λb ob h hn=>o.same b ob (st.keep b ob h hn),λb hb=>?_,λb hb=>?_⟩
 ·rw[jw]at hb;rcases List.mem_append.mp hb with z|z
  ·by_cases ho:b∈j7 L
   ·exact .inl ho
   ·refine .inr ?_;cases e:H b with
    |none=>rfl
    |some ob=>have:=o.new b z;rw[st.keep b ob e ho]at this;cases this
  ·exact st.own b z
 ·rw[kq]at hb;rcases List.mem_append.mp hb with z|z
  ·exact sr b (o.fr b z)
  ·exact st.frz b z
theorem YY{as bs:List Addr}(h:Src H L as)(hb:∀b∈bs,b∈as):Src H L bs:=λb z=>h b (hb b z)
theorem qv6{as bs:List Addr}(h:Src H L as)(h':Src H L bs):Src H L (as++bs):=λb z=>(List.mem_append.mp z).elim (h b) (h' b)
theorem xK{H H1:Hp}{b:Addr}(s:jX H H1)(h:H1 b=none):H b=none:=by
 cases e:H b with
 |none=>rfl
 |some ob=>rw[s b ob e]at h;cases h
theorem kk6{r:V->Hp->VK->Prop}{f:Sd->Option Sd}(ad:Ad1 Z.K r f){Q:VK}(h:tQ Z q (cF1 f a) σ H Q):tUn r (tV Z q a) σ H Q:=by
 obtain⟨E,L,R,m,w,hc,xc,k⟩:=h;refine v8 m w hc xc λE1 s h1 x L1 H1 e1 e2 m1 w1 ok fr sr st sm=>?_
 obtain⟨z,hz,rfl⟩:=zJ h1;refine ad H1 x z Q ok (by rw[e1,e2];exact hz) λy H' ho hd o=>?_
 obtain⟨w3,cz⟩:=JQ w1 st o fr (λb hb=>ok.some (Sl.frz_as hb)) (YY sr λb hb=>Sl.frz_as hb);exact k _ _ rfl y L1 H' ho hd m1 w3 cz λhq=>⟨kJ (sm hq) o.same,λb hb=>xK (sm hq) (o.new b hb)⟩
theorem ZX{r:R2}{f:Sd->Sd->Option Sd}(ad:Ad2 Z.K r f){Q:VK}(h:tQ Z qa (cF2 f a b) σ H Q):tOp r (tV Z qa a) (tV Z true b) σ H Q:=by
 obtain⟨E,L,R,m,w,hc,xc,k⟩:=h;refine v8 m w hc xc λE1 s h1 x L1 H1 e1 e2 m1 w1 ok fr sr st sm=>?_
 refine v8 m1 w1 h1 (xc.step st) λE2 s2 h2 y L2 H2 e3 e4 m2 w2 gi fr2 sr2 bi d8=>?_
 obtain⟨z,hz,rfl⟩:=zJ h2;have kx:=V8 ok fr bi (d8 rfl);refine ad H2 x y z Q kx.1 gi (by rw[e1,e2,e3,e4];exact hz) λy' H' ho hd o=>?_
 obtain⟨w3,cz⟩:=JQ w2 (st.trans bi) o (λb hb=>(List.mem_append.mp hb).elim (kx.2 b) (fr2 b)) (λb hb=>(List.mem_append.mp hb).elim (λz=>kx.1.some (Sl.frz_as z)) λz=>gi.some (Sl.frz_as z))
  (qv6 (YY sr λb hb=>Sl.frz_as hb) (YY (sr2.back st) λb hb=>Sl.frz_as hb))
 exact k _ _ rfl y' L2 H' ho hd m2 w3 cz λhq=>⟨kJ (sm hq) (kJ (d8 rfl) o.same),λb hb=>xK (kJ (sm hq) (d8 rfl)) (o.new b hb)⟩
theorem v7{op:Operator}{r:R2}{f:Sd->Sd->Option Sd}(ho:OpR X (binaryOp op) r)(ad:Ad2 Z.K r f)(ha:QV X Z qa a ea)(hb:QV X Z true b eb):QE X Z qa (cF2 f a b) (.BinOp ea op eb pos):=
 kK (vqn ho ha hb) fun σ H Q h=>ZX ad h
theorem zZ{op:CmpOp}{r:R2}{f:Sd->Sd->Option Sd}(ho:OpR X (compareOp op) r)(ad:Ad2 Z.K r f)(ha:QV X Z qa a ea)(hb:QV X Z true b eb)(hm:behindInMarks op eb=false):QE X Z qa (cF2 f a b) (.Compare ea [op] [eb] pos):=
 kK (qvz ho ha hb hm) fun σ H Q h=>ZX ad h
theorem RepA.get{K:PySem.W.Frag}{H:Hp}{g:Bool}:∀{ds:List D} {xs:List V} {as:List Addr} {i:Nat} {d:D},RepA K H g ds xs as->ds[i]?=some d->∃v bs,xs[i]?=some v/\RepL K H g d v bs/\∀b∈bs,b∈as
 | [],_,_,_,_,_,e=>by simp at e
 | d::ds,_,_,i,d',h,e=>by
  unfold RepA at h;obtain⟨x,r,bs,cs,rfl,rfl,h1,h2⟩:=h;cases i with
  |zero=>
   have e:d=d':=by simpa using e
   subst e;exact⟨x,bs,by simp,h1,λb hb=>ll9 _ hb⟩
  |succ i=>
   obtain⟨v,bu,e1,e2,e3⟩:=RepA.get (i:=i) h2 (by simpa using e);exact⟨v,bu,by simpa using e1,e2,λb hb=>lr9 _ (e3 b hb)⟩
theorem RepA.len{K:PySem.W.Frag}{H:Hp}{g:Bool}:∀{ds:List D} {xs:List V} {as:List Addr},RepA K H g ds xs as->ds.length=xs.length
 |[],_,_,h=>by unfold RepA at h;rw[h.1];rfl
 |d::ds,_,_,h=>by
  unfold RepA at h;obtain⟨x,r,bs,cs,rfl,rfl,h1,h2⟩:=h;simp[RepA.len h2]
theorem items{K:PySem.W.Frag}{H:Hp}{x:Sl}{ds:List D}(ok:x.ok K H)(h:x.d=.lst ds\/x.d=.tup ds):∃a xs bs,x.v=.ref a/\((x.d=.lst ds/\LsR K H a xs)\/(x.d=.tup ds/\SqT K H a xs))/\RepA K H (x.o != .dp) ds xs bs/\(∀b∈bs,b∈x.as)/\(x.o≠.dp->∀b∈bs,b∈x.frz):=by
 obtain⟨o,d,v,as⟩:=x;dsimp only at h;rcases h with rfl|rfl
 ·cases o with
  |no=>
   have ok:RepL K H true (.lst ds) v as:=ok;unfold RepL at ok;obtain⟨a,xs,bs,rfl,r,q⟩:=ok;rcases q with⟨q,rfl⟩|⟨_,q,rfl⟩
   ·exact⟨a,xs,bs,rfl,.inl ⟨rfl,.inl (.inl q)⟩,r,λb hb=>lc9 _ hb,λ_ b hb=>lc9 _ hb⟩
   ·exact⟨a,xs,as,rfl,.inl ⟨rfl,.of q⟩,r,λb hb=>hb,λ_ b hb=>hb⟩
  |rt=>
   obtain⟨a,xs,bs,rfl,r,q,rfl⟩:=(show RepR K H (.lst ds) v as from ok);exact⟨a,xs,bs,rfl,.inl ⟨rfl,.inl (.inl q)⟩,r,λb hb=>lc9 _ hb,λ_ b hb=>by simpa [Sl.frz]using hb⟩
  |dp=>
   have ok:RepL K H false (.lst ds) v as:=ok;unfold RepL at ok;obtain⟨a,xs,bs,rfl,r,q⟩:=ok;rcases q with⟨q,rfl⟩|⟨z,_⟩
   ·exact⟨a,xs,bs,rfl,.inl ⟨rfl,.inl (.inl q)⟩,r,λb hb=>lc9 _ hb,λz=>absurd rfl z⟩
   ·cases z
 ·cases o with
  |no=>
   have ok:RepL K H true (.tup ds) v as:=ok;unfold RepL at ok;obtain⟨a,xs,rfl,q,r⟩:=ok;exact⟨a,xs,as,rfl,.inr ⟨rfl,q⟩,r,λb hb=>hb,λ_ b hb=>hb⟩
  |rt=>exact(show RepR K H (.tup ds) v as from ok).elim
  |dp=>
   have ok:RepL K H false (.tup ds) v as:=ok;unfold RepL at ok;obtain⟨a,xs,rfl,q,r⟩:=ok;exact⟨a,xs,as,rfl,.inr ⟨rfl,q⟩,r,λb hb=>hb,λz=>absurd rfl z⟩
theorem zj{K:PySem.W.Frag}{H:Hp}{x:Sl}{ds:List D}(ok:x.ok K H)(h:x.d=.lst ds\/x.d=.tup ds)(hl:qv (x.o,x.d)=true):∃a xs bs,x.v=.ref a/\((x.d=.lst ds/\LsR K H a xs)\/(x.d=.tup ds/\SqT K H a xs))/\RepA K H true ds xs bs/\(∀b∈bs,b∈x.frz):=by
 obtain⟨a,xs,bs,e,q,r,h1,h2⟩:=items ok h
 by_cases ho:x.o=.dp
 ·have hp:D.pures ds=true:=by
   unfold qv at hl;rw[show(x.o,x.d).1=Own.dp from ho]at hl;have:vwe x.d=ds:=by rcases h with h|h<;>rw[h]<;>rfl
   simpa [this]using hl
  obtain⟨rfl,r'⟩:=RepA.pu (g':=true) r hp;exact⟨a,xs,[],e,q,r',λ_ z=>nomatch z⟩
 ·have:(x.o != Own.dp)=true:=by simpa using ho
  rw[this]at r;exact⟨a,xs,bs,e,q,r,h2 ho⟩
end
section
variable {K:PySem.W.Frag}{H:Hp}{x y:Sl}
theorem qK{i:Int}(ok:x.ok K H)(h:x.d=.int i):x.v=.int i:=by
 have:=RepO.wk ok;rw[h]at this;unfold RepL at this;exact this.1
theorem Qz{i:Bool}(ok:x.ok K H)(h:x.d=.bl i):x.v=.bl i:=by
 have:=RepO.wk ok;rw[h]at this;unfold RepL at this;exact this.1
theorem qqc(ok:x.ok K H)(h:x.d=.non):x.v=.non:=by
 have:=RepO.wk ok;rw[h]at this;unfold RepL at this;exact this.1
theorem wZ{z:Str}(ok:x.ok K H)(h:x.d=.str z):x.v=.str z/\z.length<=sizeLine:=by
 have:=RepO.wk ok;rw[h]at this;unfold RepL at this;exact⟨this.1,this.2.2⟩
theorem Vk{i:Int}{g:Bool}:RepL K H g (.int i) (.int i) []:=by unfold RepL;exact⟨rfl,rfl⟩
theorem zx{i:Bool}{g:Bool}:RepL K H g (.bl i) (.bl i) []:=by unfold RepL;exact⟨rfl,rfl⟩
theorem kxa{g:Bool}:RepL K H g .non .non []:=by unfold RepL;exact⟨rfl,rfl⟩
theorem Z7{z:Str}{g:Bool}(h:z.length<=sizeLine):RepL K H g (.str z) (.str z) []:=by unfold RepL;exact⟨rfl,rfl,h⟩
theorem K2{i:Int}{fr:List Addr}:Out K H H ⟨.dp,.int i,.int i,[]⟩ fr:=kjn wX Vk
theorem ww{i:Bool}{fr:List Addr}:Out K H H ⟨.dp,.bl i,.bl i,[]⟩ fr:=kjn wX zx
theorem vqq{z:Str}{fr:List Addr}(h:z.length<=sizeLine):Out K H H ⟨.dp,.str z,.str z,[]⟩ fr:=kjn wX (Z7 h)
theorem qx5{C:Int->Int->Prop}{g:Int->Int->Int}{f:Int->Int->Option Int}(h:∀i j k,f i j=some k->C i j/\k=g i j):Ad2 K (rI C λi j=>.int (g i j)) (pu2 (i2 f)):=by
 intro H x y s Q ox oy hf k;unfold pu2 i2 at hf;dsimp only at hf
 split at hf
 ·rename_i i j e1 e2;cases hk:f i j with
  |none=>rw[hk]at hf;cases hf
  |some n=>
   rw[hk]at hf;cases oq9 hf;obtain⟨hc,rfl⟩:=h i j n hk;exact⟨i,j,qK ox e1,qK oy e2,hc,k ⟨.dp,.int (g i j),.int (g i j),[]⟩ H rfl rfl K2⟩
 ·cases hf
theorem vvk{g:Int->Int->Int}{f:Int->Int->Option Int}(h:∀i j,f i j=some (g i j)):Ad2 K (rI0 λi j=>.int (g i j)) (pu2 (i2 f)):=by
 intro H x y s Q ox oy hf k;unfold pu2 i2 at hf;dsimp only at hf
 split at hf
 ·rename_i i j e1 e2;rw[h]at hf;cases oq9 hf;exact⟨i,j,qK ox e1,qK oy e2,k ⟨.dp,.int (g i j),.int (g i j),[]⟩ H rfl rfl K2⟩
 ·cases hf
theorem vkg{g:Int->Int->Bool}:Ad2 K (rI0 λi j=>.bl (g i j)) (pu2 (c2 g)):=by
 intro H x y s Q ox oy hf k;unfold pu2 c2 at hf;dsimp only at hf
 split at hf
 ·rename_i i j e1 e2;cases oq9 hf;exact⟨i,j,qK ox e1,qK oy e2,k ⟨.dp,.bl (g i j),.bl (g i j),[]⟩ H rfl rfl ww⟩
 ·cases hf
theorem kw5:Ad2 K (rI0 λi j=>.int (i - j)) (pu2 K3):=vvk λ_ _=>rfl
theorem xY:Ad2 K (rI vkj λi j=>.int (i / j)) (pu2 vW):=qx5 λi j k h=>by
 split at h
 ·rename_i c;exact⟨c,(oq9 h).symm⟩
 ·cases h
theorem vkd:Ad2 K (rI (λ_ j=>0<j) λi j=>.int (i % j)) (pu2 k7):=qx5 λi j k h=>by
 split at h
 ·rename_i c;exact⟨c,(oq9 h).symm⟩
 ·cases h
theorem qqt:Ad2 K (rI vwm λi j=>.int (i ^ j.toNat)) (pu2 Wz):=qx5 λi j k h=>by
 split at h
 ·rename_i c;exact⟨c,(oq9 h).symm⟩
 ·cases h
end
noncomputable def qzb(K:PySem.W.Frag):R2:=λx y H Q=>∃l b xs zs,x=.ref l/\y=.ref b/\LsR K H l xs/\LsR K H b zs/\xs.length+zs.length<=sizeLine/\∀p,H p=none->Q (.ref p) (upd H p (.lst (xs++zs)))
theorem op_catL{X:Cx}:OpR X (binaryOp .Add) (qzb X.K):=by
 intro pins s σ H x y v u Q I rx ry h;obtain⟨l,b,xs,zs,rfl,rfl,hH,hB,hz,q⟩:=h;cases rx;cases ry;obtain⟨z,aa,n,r,e⟩:=hH.is I;obtain⟨z2,br,n2,r2,e2⟩:=hB.is I;have hl:=r.length;have ky:=r2.length;refine PySem.P.add_list e e2 ?_ (by rw[X4,X4];omega);have ea:aa.toArray++br.toArray=(aa++br).toArray:=by simp
 rw[ea];exact⟨.ref _,_,I.lnew (t':=s.toks) (r.append r2) (by rw[Xi];omega),rfl,q _ I.fresh⟩
def qzc(K:PySem.W.Frag):R2:=λx y H Q=>∃a b ys,x=.ref a/\y=.ref b/\SqT K H a []/\SqT K H b ys/\Q (.ref b) H
theorem op_catE{X:Cx}:OpR X (binaryOp .Add) (qzc X.K):=by
 intro pins s σ H x y v u Q I rx ry h;obtain⟨a,b,ys,rfl,rfl,ha,hb,q⟩:=h;cases rx;cases ry;obtain⟨aa,r1,p1,_⟩:=I.tuple ha;obtain⟨br,r2,p2,_⟩:=I.tuple hb;obtain⟨⟨cls,dd,data,sl⟩,ho,hc,n,hd⟩:=id p1;obtain⟨⟨cls2,dd2,data2,lh⟩,fi,jf,n2,i9⟩:=id p2;simp only at hc hd jf i9;subst hc hd jf i9;have e:aa=[]:=r1.nil_iff.mpr rfl;subst e;exact concat_meets ⟨_,ho,rfl⟩ ⟨_,fi,rfl⟩ noFill_tuple_add seq_tuple_add PySem.F.slot_tuple_add PySem.F.entry_tuple_add (PySem.F.args_tuple_add_2 _ _)
   (tuple_addW0 a b [].toArray br.toArray n n2 dd dd2 sl lh (by simp)) ⟨ho,fi,⟨.ref b,H,I,rfl,q⟩⟩
noncomputable def qzd(K:PySem.W.Frag):R2:=λx y H Q=>rI0 (λi j=>.int (i+j)) x y H Q\/(∃i j,x=.str i/\y=.str j/\i.length+j.length<=sizeLine/\Q (.str (i++j)) H)\/qzb K x y H Q\/qzc K x y H Q\/qza K x y H Q
theorem vj7{X:Cx}{K:PySem.W.Frag}(hK:X.K=K):OpR X (binaryOp .Add) (qzd K):=by subst hK;exact op_add.or (op_add_str.or (op_catL.or (op_catE.or qw7)))
theorem RepA.app{K:PySem.W.Frag}{H:Hp}{g:Bool}{ds':List D}{xs':List V}{bu:List Addr}(h':RepA K H g ds' xs' bu):∀{ds:List D} {xs:List V} {as:List Addr},RepA K H g ds xs as->RepA K H g (ds++ds') (xs++xs') (as++bu)
 |[],_,_,h=>by unfold RepA at h;rw[h.1,h.2];exact h'
 |d::ds,_,_,h=>by
  unfold RepA at h;obtain⟨x,r,bs,cs,rfl,rfl,h1,h2⟩:=h;rw[List.cons_append];unfold RepA;exact⟨x,r++xs',bs,cs++bu,rfl,by rw[Xy],h1,RepA.app h' h2⟩
theorem wJ{H:Hp}{p:Addr}{o:HO}(h:H p=none):jX H (upd H p o):=λb u q=>by rw[kZ (J4 q h)];exact q
theorem QK{K:PySem.W.Frag}{H:Hp}{p:Addr}{ds:List D}{xs:List V}{bs fr:List Addr}(hp:H p=none)(r:RepA K H true ds xs bs)(hb:∀b∈bs,b∈fr):Out K H (upd H p (.lst xs)) ⟨.rt,.lst ds,.ref p,p::bs⟩ fr:=by
 refine⟨wJ hp,⟨p,xs,bs,rfl,r.kp (Kp.of_same (wJ hp)),xk,rfl⟩,λb hb=>?_,?_,λb cn=>hb b (by simpa [Sl.frz]using cn)⟩
 ·have:b=p:=by simpa [Sl.own]using hb
  rw[this];exact hp
 ·simp[Sl.own]
theorem Z3{K:PySem.W.Frag}{H:Hp}{p:Addr}{ds:List D}{xs:List V}{bs fr:List Addr}(hp:H p=none)(r:RepA K H true ds xs bs)(hb:∀b∈bs,b∈fr):Out K H (upd H p (.tup xs)) ⟨.no,.tup ds,.ref p,bs⟩ fr:=by
 refine⟨wJ hp,?_,λb hb=>(nomatch hb),Xu,λb cn=>hb b cn⟩;show RepL K _ true (.tup ds) (.ref p) bs;unfold RepL;exact⟨p,xs,rfl,SqT.of xk,r.kp (Kp.of_same (wJ hp))⟩
theorem vkh{K:PySem.W.Frag}:Ad2 K (qzd K) jz:=by
 intro H x y s Q ox oy hf k;unfold jz at hf;dsimp only at hf
 split at hf
 ·rename_i i j e1 e2;cases oq9 hf;exact .inl ⟨i,j,qK ox e1,qK oy e2,k ⟨.dp,.int _,.int _,[]⟩ H rfl rfl K2⟩
 ·rename_i i j e1 e2
  split at hf
  ·rename_i hl;cases oq9 hf;have hl':(i++j).length<=sizeLine:=by rw[strLen_append];exact hl
   exact .inr (.inl ⟨i,j,(wZ ox e1).1,(wZ oy e2).1,hl,k ⟨.dp,.str _,.str _,[]⟩ H rfl rfl (vqq hl')⟩)
  ·cases hf
 ·rename_i i j e1 e2
  split at hf
  ·rename_i hl;cases oq9 hf;obtain⟨a,xs,bs,e3,q3,r3,h3⟩:=zj ox (.inl e1) hl.2.1;obtain⟨b,ys,cs,e4,q4,r4,h4⟩:=zj oy (.inl e2) hl.2.2;have q3:LsR K H a xs:=by rcases q3 with⟨_,z⟩|⟨z,_⟩;exact z;rw[e1]at z;cases z
   have q4:LsR K H b ys:=by rcases q4 with⟨_,z⟩|⟨z,_⟩;exact z;rw[e2]at z;cases z
   refine .inr (.inr (.inl ⟨a,b,xs,ys,e3,e4,q3,q4,by rw[<-r3.len,<-r4.len];exact hl.1,λp hp=>?_⟩));exact k ⟨.rt,.lst (i++j),.ref p,p::(bs++cs)⟩ _ rfl rfl (QK hp (r4.app r3) λb hb=>(List.mem_append.mp hb).elim (λz=>ll9 _ (h3 b z)) λz=>lr9 _ (h4 b z))
  ·cases hf
 ·rename_i i j e1 e2
  split at hf
  ·rename_i hl;cases oq9 hf;obtain⟨a,xs,bs,e3,q3,r3,h3⟩:=zj ox (.inr e1) hl.2.1;obtain⟨b,ys,cs,e4,q4,r4,h4⟩:=zj oy (.inr e2) hl.2.2;have q3:SqT K H a xs:=by rcases q3 with⟨z,_⟩|⟨_,z⟩;rw[e1]at z;cases z;exact z
   have q4:SqT K H b ys:=by rcases q4 with⟨z,_⟩|⟨_,z⟩;rw[e2]at z;cases z;exact z
   have ap:=r4.app r3;have lq:∀b∈bs++cs,b∈x.frz++y.frz:=λb hb=>(List.mem_append.mp hb).elim (λz=>ll9 _ (h3 b z)) λz=>lr9 _ (h4 b z)
   have same:∀c zs,zs=xs++ys->SqT K H c zs->Q (.ref c) H:=λc zs e hq=>by
    refine k ⟨.no,.tup (i++j),.ref c,bs++cs⟩ H rfl rfl ⟨wX,?_,λb hb=>(nomatch hb),Xu,lq⟩;show RepL K H true (.tup (i++j)) (.ref c) (bs++cs);unfold RepL;exact⟨c,zs,rfl,hq,by rw[e];exact ap⟩
   by_cases hx:xs=[]
   ·subst hx;exact .inr (.inr (.inr (.inl ⟨a,b,ys,e3,e4,q3,q4,same b ys rfl q4⟩)))
   ·refine .inr (.inr (.inr (.inr ⟨a,b,xs,ys,e3,e4,q3,q4,hx,by rw[<-r3.len,<-r4.len];exact hl.1,λhy=>?_,λhy p hp=>?_⟩)))
    ·exact same a xs (by rw[hy,Xr]) q3
    ·exact k ⟨.no,.tup (i++j),.ref p,bs++cs⟩ _ rfl rfl (Z3 hp ap lq)
  ·cases hf
 ·cases hf
noncomputable def tT(Z:Fx0)(q:Bool)(c:Ts):TT:=fun σ H Q=>∃E L r,Mt E σ L/\World Z.K H L/\c E=some r/\Xc Z σ H L r /\
 ∀E' k,r=.ok E' k->∀L' H',Mt E' σ L'->World Z.K H' L'->Step H L H' L'->(q=true->jX H H')->Q k H'
def QT(X:Cx)(Z:Fx0)(q:Bool)(c:Ts)(e:Expr):Prop:=PT X e (tT Z q c)
def QW(X:Cx)(Z:Fx0)(q:Bool)(c:Ts)(e:Expr):Prop:=PW X e (tT Z q c)
section
variable {X:Cx}{Z:Fx0}{q qa qb:Bool}{a b c:Ex}{u v:Ts}{e ea eb:Expr}{es:List Expr}{pos:Pos}{α β:Type}{σ:L2.St}{H:Hp}{L:Ls}{E:En}
theorem qq4{e:Expr}{t t':TT}(h:PW X e t)(w:∀ σ H Q,t' σ H Q->t σ H Q):PW X e t':=λwh pins s σ H Q I q=>h wh pins s σ H Q I (w σ H Q q)
theorem qjo{F:En->Bool->Option (Res α)}{r:Res α}{G:Bool->Hp->Prop}(m:Mt E σ L)(w:World Z.K H L)(h:bnd (u E) F=some r)(xc:Xc Z σ H L r)
  (k:∀E1 s,F E1 s=some r->∀L1 H1,Mt E1 σ L1->World Z.K H1 L1->Step H L H1 L1->(q=true->jX H H1)->G s H1):tT Z q u σ H G:=by
 rcases wq h with⟨E1,s,h1,h2⟩|⟨E1,c,h1,h2⟩
 ·exact⟨E,L,_,m,w,h1,(λ_ _ z=>by cases z),λE' s' z L' H' m' w' st sm=>by
   injection z with z1 z2;subst z1 z2;exact k _ _ h2 L' H' m' w' st sm⟩
 ·exact⟨E,L,_,m,w,h1,xc.map h2,λE' s' z=>by cases z⟩
theorem qvg(ha:QT X Z q u ea):QW X Z q u (.BoolOp .And [ea] pos):=qvl ha
theorem W2(ha:QT X Z q u ea):QW X Z q u (.BoolOp .Or [ea] pos):=qzk ha
theorem qze(ha:QT X Z q u ea)(hb:QW X Z q v (.BoolOp .And (eb::es) pos)):QW X Z q (Q.tAnd u v) (.BoolOp .And (ea::eb::es) pos):=
 qq4 (qzl ha hb) fun σ H Q ak=>ex8 ak λE L r m w hc xc k=>qjo m w hc xc λE1 s h1 L1 H1 m1 w1 st sm=>by
  cases s with
  |true=>
   rw[Xb rfl]at h1 ⊢;exact⟨E1,L1,r,m1,w1,h1,xc.step st,λE' k' z L' H' m' w' cx en=>k E' k' z L' H' m' w' (st.trans cx) λhq=>kJ (sm hq) (en hq)⟩
  |false=>
   rw[Xj (by decide)]at h1 ⊢;cases oq9 h1;exact k _ _ rfl L1 H1 m1 w1 st sm
theorem Qq(ha:QT X Z q u ea)(hb:QW X Z q v (.BoolOp .Or (eb::es) pos)):QW X Z q (Q.tOr u v) (.BoolOp .Or (ea::eb::es) pos):=
 qq4 (vqk ha hb) fun σ H Q ak=>ex8 ak λE L r m w hc xc k=>qjo m w hc xc λE1 s h1 L1 H1 m1 w1 st sm=>by
  cases s with
  |false=>
   rw[Xj (by decide)]at h1 ⊢;exact⟨E1,L1,r,m1,w1,h1,xc.step st,λE' k' z L' H' m' w' cx en=>k E' k' z L' H' m' w' (st.trans cx) λhq=>kJ (sm hq) (en hq)⟩
  |true=>
   rw[Xb rfl]at h1 ⊢;cases oq9 h1;exact k _ _ rfl L1 H1 m1 w1 st sm
theorem QW.pt(h:QW X Z q u e):QT X Z q u e:=PW.pt h
theorem Wk(ha:QT X Z q u ea):QT X Z q (Q.tNot u) (.UnaryOp .Not ea pos):=
 kxq (qzm ha) fun σ H Q ak=>ex8 ak λE L r m w hc xc k=>qjo m w hc xc λE1 s h1 L1 H1 m1 w1 st sm=>by
  cases oq9 h1;exact k _ _ rfl L1 H1 m1 w1 st sm
theorem wj{op:CmpOp}{r:R2}{f:Sd->Sd->Option Sd}(ho:OpR X (compareOp op) r)(ad:Ad2 Z.K r f)(ha:QV X Z qa a ea)(hb:QV X Z true b eb)(hm:behindInMarks op eb=false)(hf:∀x y s,f x y=some s->∃k,s.2=.bl k):QT X Z qa (Q.tE (cF2 f a b)) (.Compare ea [op] [eb] pos):=
 kxq (qvq ho ha hb hm) fun σ H Q ak=>ex8 ak λE L r m w hc xc k=>by
  refine ZX ad ?_;have li:bnd (cF2 f a b E) (λE x=>val E (truth x.2))=some r:=hc;rcases wq li with⟨E1,s,h1,h2⟩|⟨E1,c,h1,h2⟩
  ·refine⟨E,L,_,m,w,h1,(λ_ _ z=>by cases z),λE' s' z x L' H' e1 e2 m' w' st sm=>?_⟩;injection z with z1 z2;subst z1 z2;obtain⟨kk,hk⟩:∃k,s.2=.bl k:=by
    unfold cF2 at h1;rcases wq h1 with⟨E2,s2,h3,h4⟩|⟨_,_,_,z⟩
    ·rcases wq h4 with⟨E3,s3,h5,h6⟩|⟨_,_,_,z⟩
     ·obtain⟨y,hy,z⟩:=zJ h6;cases z;exact hf _ _ _ hy
     ·cases z
    ·cases z
   rw[hk]at h2;cases oq9 h2;exact⟨kk,Qz w'.head (e2.trans hk),k _ _ rfl L' H' m' w'.tail (st.trans Step.drop) λhq=>(sm hq).1⟩
  ·exact⟨E,L,_,m,w,h1,xc.map h2,λE' s' z=>by cases z⟩
end
def Pn(pn:List Nat)(σ σ':L2.St):Prop:=∀p∈pn,σ'[p]?=σ[p]?
theorem Pn.refl{pn:List Nat}{σ:L2.St}:Pn pn σ σ:=λ_ _=>rfl
theorem Pn.trans{pn:List Nat}{σ σ1 σ2:L2.St}(a:Pn pn σ σ1)(b:Pn pn σ1 σ2):Pn pn σ σ2:=λp hp=>(b p hp).trans (a p hp)
theorem Pn.set{pn:List Nat}{σ σ1:L2.St}{i:Nat}{y:Option V}(a:Pn pn σ σ1)(h:i∉pn):Pn pn σ (σ1.set i y):=λp hp=>by
 have:i≠p:=λe=>h (e▸hp)
 rw[Xn this];exact a p hp
noncomputable def FlP(Z:Fx0)(pn:List Nat)(D:Ends)(σ:L2.St)(H:Hp)(L:Ls):Fl->Prop
 |.nx E'=>∀ σ' L' H',Pn pn σ σ'->Mt E' σ' L'->World Z.K H' L'->Step H L H' L'->D.nx σ' H'
 |.ct E'=>∀ σ' L' H',Pn pn σ σ'->Mt E' σ' L'->World Z.K H' L'->Step H L H' L'->D.ct σ' H'
 |.bk E'=>∀ σ' L' H',Pn pn σ σ'->Mt E' σ' L'->World Z.K H' L'->Step H L H' L'->D.bk σ' H'
 |.rt E' a=>∀(x:Sl) σ' L' H',x.o=a.1->x.d=a.2->Pn pn σ σ'->Mt E' σ' L'->World Z.K H' (some x::L')->Step H L H' (some x::L')->D.rt x.v H'
 |.xc E' c=>∀C σ' L' H',Z.mg c=some (.ref C)->Pn pn σ σ'->Mt E' σ' L'->World Z.K H' L'->Step H L H' L'->Z.EX (.ref C) none H'
theorem FlP.step{Z:Fx0}{pn:List Nat}{D:Ends}{σ σ1:L2.St}{H H1:Hp}{L L1:Ls}{r:Fl}(k:FlP Z pn D σ H L r)(s:Step H L H1 L1)(p:Pn pn σ σ1):FlP Z pn D σ1 H1 L1 r:=by
 cases r with
 |nx E'=>exact fun σ' L' H' p' m w s'=>k σ' L' H' (p.trans p') m w (s.trans s')
 |ct E'=>exact fun σ' L' H' p' m w s'=>k σ' L' H' (p.trans p') m w (s.trans s')
 |bk E'=>exact fun σ' L' H' p' m w s'=>k σ' L' H' (p.trans p') m w (s.trans s')
 |rt E' a=>exact λx σ' L' H' e1 e2 p' m w s'=>k x σ' L' H' e1 e2 (p.trans p') m w (s.trans s')
 |xc E' c=>exact λC σ' L' H' hm p' m w s'=>k C σ' L' H' hm (p.trans p') m w (s.trans s')
theorem FlP.xc{α:Type}{Z:Fx0}{pn:List Nat}{D:Ends}{σ:L2.St}{H:Hp}{L:Ls}{E':En}{c:Str}(k:FlP Z pn D σ H L (.xc E' c)):Xc Z σ H L (.exc E' c:Res α):=λE1 c1 e C L' H' hm m w s=>by
 injection e with h1 h2;subst h1 h2;exact k C σ L' H' hm Pn.refl m w s
def tS(Z:Fx0)(pn:List Nat)(c:Sm):TS:=λD σ H=>∃E L r,Mt E σ L/\World Z.K H L/\c E=some r/\FlP Z pn D σ H L r
def QS(X:Cx)(Z:Fx0)(pn:List Nat)(c:Sm)(st:Stmt):Prop:=PS X st (tS Z pn c)
def QSs(X:Cx)(Z:Fx0)(pn:List Nat)(c:Sm)(st:List Stmt):Prop:=PSs X st (tS Z pn c)
section
variable {X:Cx}{Z:Fx0}{pn:List Nat}{q qa qb:Bool}{a b c:Ex}{u v:Ts}{A B:Sm}{e ea eb:Expr}{st:Stmt}{ss tt:List Stmt}{pos:Pos}{α:Type}{σ:L2.St}{H:Hp}{L:Ls}{E:En}{D:Ends}
theorem jxx{m:Option (Res α)}{F:En->α->Option Fl}{r:Fl}(h:ofE m F=some r):(∃E1 x,m=some (.ok E1 x)/\F E1 x=some r)\/∃E1 c,m=some (.exc E1 c)/\r=.xc E1 c:=by
 cases m with
 |none=>cases h
 |some q=>
  cases q with
  |ok E1 x=>exact .inl ⟨E1,x,rfl,h⟩
  |exc E1 c=>exact .inr ⟨E1,c,rfl,(oq9 h).symm⟩
theorem Vj{F:En->Sd->Option Fl}{r:Fl}{G:VK}(m:Mt E σ L)(w:World Z.K H L)(h:ofE (a E) F=some r)(k:FlP Z pn D σ H L r)
  (g:∀E1 s,F E1 s=some r->∀(x:Sl) L1 H1,x.o=s.1->x.d=s.2->Mt E1 σ L1->World Z.K H1 (some x::L1)->Step H L H1 (some x::L1)->(q=true->jX H H1/\∀b∈x.own,H b=none)->G x.v H1):tQ Z q a σ H G:=by
 rcases jxx h with⟨E1,s,h1,h2⟩|⟨E1,c,h1,rfl⟩
 ·exact⟨E,L,_,m,w,h1,(λ_ _ z=>by cases z),λE' s' z x L' H' e1 e2 m' w' st sm=>by
   injection z with z1 z2;subst z1 z2;exact g _ _ h2 x L' H' e1 e2 m' w' st sm⟩
 ·exact⟨E,L,_,m,w,h1,k.xc,λE' s' z=>by cases z⟩
theorem qxu{F:En->Bool->Option Fl}{r:Fl}{G:Bool->Hp->Prop}(m:Mt E σ L)(w:World Z.K H L)(h:ofE (u E) F=some r)(k:FlP Z pn D σ H L r)
  (g:∀E1 s,F E1 s=some r->∀L1 H1,Mt E1 σ L1->World Z.K H1 L1->Step H L H1 L1->G s H1):tT Z q u σ H G:=by
 rcases jxx h with⟨E1,s,h1,h2⟩|⟨E1,c,h1,rfl⟩
 ·exact⟨E,L,_,m,w,h1,(λ_ _ z=>by cases z),λE' s' z L' H' m' w' st sm=>by
   injection z with z1 z2;subst z1 z2;exact g _ _ h2 L' H' m' w' st⟩
 ·exact⟨E,L,_,m,w,h1,k.xc,λE' s' z=>by cases z⟩
theorem vK:QSs X Z pn qV []:=kxs qvr λD σ H ak=>ex7 ak λE L r m w hc k=>by
 cases oq9 hc;exact k σ L H Pn.refl m w Step.refl
theorem jq(h1:QS X Z pn A st)(h2:QSs X Z pn B ss):QSs X Z pn (j4 A B) (st::ss):=kxs (qjy h1 h2) λD σ H ak=>ex7 ak λE L r m w hc k=>by
 unfold j4 at hc;cases ha:A E with
 |none=>rw[ha]at hc;cases hc
 |some f=>
  rw[ha]at hc;cases f with
  |nx E1=>exact⟨E,L,_,m,w,ha,fun σ' L' H' p m' w' s=>⟨E1,L',r,m',w',hc,k.step s p⟩⟩
  |ct E1=>cases oq9 hc;exact⟨E,L,_,m,w,ha,k⟩
  |bk E1=>cases oq9 hc;exact⟨E,L,_,m,w,ha,k⟩
  |rt E1 x=>cases oq9 hc;exact⟨E,L,_,m,w,ha,k⟩
  |xc E1 x=>cases oq9 hc;exact⟨E,L,_,m,w,ha,k⟩
theorem jV(h1:QS X Z pn A st):QSs X Z pn A [st]:=kxr h1
theorem kj(h:QE X Z q a ea):QS X Z pn (jQ a) (.Return (some ea) pos):=J8 (qzo h) λD σ H ak=>ex7 ak λE L r m w hc k=>
 Vj m w hc k λE1 s h1 x L1 H1 e1 e2 m1 w1 st _=>by
  cases oq9 h1;exact k x σ L1 H1 e1 e2 Pn.refl m1 w1 st
theorem vQ(hc:QT X Z q u e)(ha:QSs X Z pn A ss)(hb:QSs X Z pn B tt):QS X Z pn (sIf u A B) (.If e ss tt pos):=J8 (vql hc ha hb) λD σ H ak=>ex7 ak λE L r m w hc k=>
 qxu m w hc k λE1 s h1 L1 H1 m1 w1 st=>by
  cases s with
  |true=>rw[Xb rfl]at h1 ⊢;exact⟨E1,L1,r,m1,w1,h1,k.step st Pn.refl⟩
  |false=>rw[Xj (by decide)]at h1 ⊢;exact⟨E1,L1,r,m1,w1,h1,k.step st Pn.refl⟩
theorem K8{x:Sl}{i:Nat}{s:Sd}(m:Mt E σ L)(e1:x.o=s.1)(e2:x.d=s.2):Mt (E.set i (some s)) (σ.set i (some x.v)) (L.set i (some x)):=by
 have:=m.set (x:=x) i;rw[e1,e2]at this;exact this
theorem vqi{i:Nat}{y:Str}{bv:Pos}(hN:X.N.Nodup)(hi:X.N[i]?=some y)(hx:Loc X.env.scope y)(h:QE X Z q a ea)(hp:autoParam (i∉pn) ŕ)(hs:autoParam (swapsWith ea (some (.Name y bv)) pos.line X.env=pure false) Ŕ)(hf:autoParam (X.fn y=true\/X.env.scope.names.lookup y=some .local) Ř):
  QS X Z pn (jk i a) (.Assign [.Name y bv] ea pos):=J8 (qzn hN hi hx h hs hf) λD σ H ak=>ex7 ak λE L r m w hc k=>
 Vj m w hc k λE1 s h1 x L1 H1 e1 e2 m1 w1 st _=>by
  cases oq9 h1;exact k (σ.set i (some x.v)) (L1.set i (some x)) H1 (Pn.refl.set hp) (K8 m1 e1 e2) w1.set (st.trans Step.set)
theorem qzj{i:Nat}{y:Str}{bv:Pos}(hp:i∉pn)(h:PS X (.Assign [.Name y bv] ea pos) (λD σ H=>tQ Z q a σ H λv H1=>D.nx (σ.set i (some v)) H1)):
  QS X Z pn (jk i a) (.Assign [.Name y bv] ea pos):=J8 h λD σ H ak=>ex7 ak λE L r m w hc k=>
 Vj m w hc k λE1 s h1 x L1 H1 e1 e2 m1 w1 st _=>by
  cases oq9 h1;exact k (σ.set i (some x.v)) (L1.set i (some x)) H1 (Pn.refl.set hp) (K8 m1 e1 e2) w1.set (st.trans Step.set)
end
structure Walks (K:PySem.W.Frag)(J:It)(T:List Sl)(ds:List D):Prop where
 no:∀t∈T,t.o=.no
 go:∀i H,(∀t∈T,t.ok K H)->i<ds.length->J.go i H
 stop:∀H,(∀t∈T,t.ok K H)->J.stop ds.length H
 yld:∀i H v H' d,(∀t∈T,t.ok K H)->J.yld i H v H'->ds[i]?=some d->∃z:Sl,z.o=.no/\z.d=d/\z.v=v/\jX H H'/\z.ok K H'/\∀b∈z.as,∃t∈T,b∈t.as
noncomputable def tI(Z:Fx0)(q:Bool)(it:Ev (List D)):TI:=fun σ H R=>∃E L r,Mt E σ L/\World Z.K H L/\it E=some r/\Xc Z σ H L r /\
 ∀E' ds,r=.ok E' ds->∀J T L' H',Mt E' σ L'->World Z.K H' (L'++T.map some)->Step H L H' (L'++T.map some)->ds.length<=sizeLine->(q=true->jX H H')->Walks Z.K J T ds->R J H'
def QI(X:Cx)(Z:Fx0)(q:Bool)(tg:Expr)(it:Ev (List D))(e:Expr):Prop:=PI X tg e (tI Z q it)
def vvo(K:PySem.W.Frag)(H0:Hp)(T:List Sl)(H:Hp):Prop:=(∀t∈T,t.ok K H)/\∀t∈T,Kp H0 H t.as
structure WalksD (K:PySem.W.Frag)(H0:Hp)(J:It)(T:List Sl)(ds:List D):Prop where
 no:∀t∈T,t.o=.no
 go:∀i H,vvo K H0 T H->i<ds.length->J.go i H
 stop:∀H,vvo K H0 T H->J.stop ds.length H
 yld:∀i H v H' d,vvo K H0 T H->J.yld i H v H'->ds[i]?=some d->∃z:Sl,z.o=.no/\z.d=d/\z.v=v/\jX H H'/\z.ok K H'/\∀b∈z.as,∃t∈T,b∈t.as
theorem Walks.D{K:PySem.W.Frag}{H0:Hp}{J:It}{T:List Sl}{ds:List D}(h:Walks K J T ds):WalksD K H0 J T ds:=⟨h.no,λi H o=>h.go i H o.1,λH o=>h.stop H o.1,λi H v H' d o=>h.yld i H v H' d o.1⟩
noncomputable def tID(Z:Fx0)(q:Bool)(it:Ev (List D)):TI:=fun σ H R=>∃E L r,Mt E σ L/\World Z.K H L/\it E=some r/\Xc Z σ H L r /\
 ∀E' ds,r=.ok E' ds->∀J T L' H',Mt E' σ L'->World Z.K H' (L'++T.map some)->Step H L H' (L'++T.map some)->ds.length<=sizeLine->(q=true->jX H H')->WalksD Z.K H' J T ds->R J H'
def QID(X:Cx)(Z:Fx0)(q:Bool)(tg:Expr)(it:Ev (List D))(e:Expr):Prop:=PI X tg e (tID Z q it)
theorem QI.D{X:Cx}{Z:Fx0}{q:Bool}{tg:Expr}{it:Ev (List D)}{e:Expr}(h:QI X Z q tg it e):QID X Z q tg it e:=λpins s σ H R I hz=>h pins s σ H R I (by
 obtain⟨E,L,r,m,w,e,x,k⟩:=hz;exact⟨E,L,r,m,w,e,x,λE' ds z J T L' H' m' w' st hl sm wk=>k E' ds z J T L' H' m' w' st hl sm wk.D⟩)
structure WalksS (K:PySem.W.Frag)(q:Bool)(H0:Hp)(J:It)(T:List Sl)(ds:List D):Prop where
 no:∀t∈T,t.o=.no
 go:∀i H,(∀t∈T,t.ok K H)->(q=true->jX H0 H)->i<ds.length->J.go i H
 stop:∀H,(∀t∈T,t.ok K H)->(q=true->jX H0 H)->J.stop ds.length H
 yld:∀i H v H' d,(∀t∈T,t.ok K H)->(q=true->jX H0 H)->J.yld i H v H'->ds[i]?=some d->∃z:Sl,z.o=.no/\z.d=d/\z.v=v/\jX H H'/\z.ok K H'/\∀b∈z.as,∃t∈T,b∈t.as
theorem qv0{K:PySem.W.Frag}{q:Bool}{H0:Hp}{J:It}{T:List Sl}{ds:List D}(h:Walks K J T ds):WalksS K q H0 J T ds:=⟨h.no,λi H o _=>h.go i H o,λH o _=>h.stop H o,λi H v H' d o _=>h.yld i H v H' d o⟩
noncomputable def tIS(Z:Fx0)(q:Bool)(it:Ev (List D)):TI:=fun σ H R=>∃E L r,Mt E σ L/\World Z.K H L/\it E=some r/\Xc Z σ H L r /\
 ∀E' ds,r=.ok E' ds->∀J T L' H',Mt E' σ L'->World Z.K H' (L'++T.map some)->Step H L H' (L'++T.map some)->ds.length<=sizeLine->(q=true->jX H H')->WalksS Z.K q H J T ds->R J H'
def QIS(X:Cx)(Z:Fx0)(q:Bool)(tg:Expr)(it:Ev (List D))(e:Expr):Prop:=PI X tg e (tIS Z q it)
theorem vw5{X:Cx}{Z:Fx0}{q:Bool}{tg:Expr}{it:Ev (List D)}{e:Expr}(h:QI X Z q tg it e):QIS X Z q tg it e:=λpins s σ H R I hz=>h pins s σ H R I (by
 obtain⟨E,L,r,m,w,e,x,k⟩:=hz;exact⟨E,L,r,m,w,e,x,λE' ds z J T L' H' m' w' st hl sm wk=>k E' ds z J T L' H' m' w' st hl sm (qv0 wk)⟩)
noncomputable def tG(Z:Fx0)(pn:List Nat)(tg:Tg):TG:=λv σ H Q=>∃(E:En) (L:Ls) (z:Sl) (E':En),Mt E σ L/\World Z.K H (some z::L)/\z.o=.no/\z.v=v/\tg.put z.d E=some E' /\
 ∀ σ' L',Pn pn σ σ'->Mt E' σ' L'->World Z.K H L'->Step H (some z::L) H L'->Q σ' H
def QG(X:Cx)(Z:Fx0)(pn:List Nat)(tg:Tg)(e:Expr):Prop:=PG X e (tG Z pn tg)
section
variable {X:Cx}{Z:Fx0}{pn:List Nat}{e:Expr}{σ:L2.St}{H:Hp}{L:Ls}{E:En}
theorem qq7{t t':TG}(h:PG X e t)(w:∀v σ H Q,t' v σ H Q->t v σ H Q):PG X e t':=λpins s σ H x v Q I r q=>h pins s σ H x v Q I r (w x σ H Q q)
theorem V3{i:Nat}(h:PG X e (WW i))(hp:autoParam (i∉pn) ŕ):QG X Z pn (.n i) e:=qq7 h λv σ H Q ⟨E,L,z,E',m,w,ho,hv,b9,k⟩=>by
 cases oq9 b9;rw[<-hv];exact k (σ.set i (some z.v)) (L.set i (some z)) (Pn.refl.set hp) (K8 m ho rfl) w.set Step.set
def gNs:List Nat->TGs
 |[]=>vwh
 |i::is=>vjv (WW i) (gNs is)
theorem kzq{Q:L2.St->Hp->Prop}{M:Ls}{σ0:L2.St}:∀{is:List Nat} {ds:List D} {xs:List V} {bs:List Addr} {E:En} {L:Ls} {σ:L2.St} {E':En},Mt E σ L->World Z.K H L->RepA Z.K H true ds xs bs->(∀b∈bs,b∉j7 L)->(∀b∈bs,b∈jJ M)->Step H M H L->Pn pn σ0 σ ->
  setAll is ds E=some E'->(∀i∈is,i∉pn)->(∀ σ' L',Pn pn σ0 σ'->Mt E' σ' L'->World Z.K H L'->Step H M H L'->Q σ' H)->gNs is xs σ H Q
 | [],[],xs,bs,E,L,σ,E',m,w,r,_,_,st,p,e,_,k=>by
  cases oq9 e;unfold RepA at r;exact⟨r.1,k σ L p m w st⟩
 | [],_::_,_,_,_,_,_,_,_,_,_,_,_,_,_,e,_,_=>by cases e
 | _::_,[],_,_,_,_,_,_,_,_,_,_,_,_,_,e,_,_=>by cases e
 | i::is,d::ds,xs,bs,E,L,σ,E',m,w,r,hb,hf,st,p,e,hi,k=>by
  unfold RepA at r;obtain⟨x,rr,cs,es,rfl,rfl,h1,h2⟩:=r;have w1:World Z.K H (some ⟨.no,d,x,cs⟩::L):=w.consNo (x:=⟨.no,d,x,cs⟩) h1 rfl λb cn=>hb b (ll9 _ cn)
  have s1:Step H M H (L.set i (some ⟨.no,d,x,cs⟩)):=by
   refine⟨λ_ _ h _=>h,λa ha=>?_,λa ha=>?_⟩
   ·rcases VY ha with z|z
    ·exact nomatch z
    ·exact st.own a z
   ·rcases XJ ha with z|z
    ·exact .inl (hf a (ll9 _ z))
    ·exact st.frz a z
  exact⟨x,rr,rfl,kzq (is:=is) (K8 (x:=⟨.no,d,x,cs⟩) (s:=(.no,d)) m rfl rfl) w1.set h2 (λb cn ho=>by
   rcases VY ho with z|z
   ·exact nomatch z
   ·exact hb b (lr9 _ cn) z) (λb cn=>hf b (lr9 _ cn)) s1 (p.set (hi i X5)) e (λj hj=>hi j (lc9 _ hj)) k⟩
theorem jzq:∀{is:List Nat} {ds:List D} {E E':En},setAll is ds E=some E'->is.length=ds.length
 |[],[],_,_,_=>rfl
 |[],_::_,_,_,e=>by cases e
 |_::_,[],_,_,e=>by cases e
 |i::is,d::ds,E,E',e=>by rw[Y0,Y0,jzq (E:=E.set i (some (.no,d))) e]
noncomputable def vku(K:PySem.W.Frag)(n:Nat)(t:TGs):TG:=λv σ H Q=>∃a xs,v=.ref a/\(SqT K H a xs\/SqL K H a xs)/\xs.length=n/\t xs σ H Q
section
variable {prog:Program}{w:PySem.World}{A:Around}{E':Value->Shared->Prop}
theorem kq7{it t:Addr}{items:Array Value}(cy:t≠it):∀(n i:Nat) (s:Shared) (Q:List Value->Shared->Prop),s.heap.IsListIter it t i->s.heap.IsList t items->i+n<=items.size ->
  (∀h',h'.IsListIter it t (i+n)->Heap.SameBut it s.heap h'->Q ((items.toList.drop i).take n) { s with heap:=h' })->wpAny (model prog w) A (draw (.ref it) n) Q E' s
 | 0,i,s,Q,fw,_,_,hQ=>by
  show wpAny _ _ (pure []) Q E' s;exact X9 (by simpa using hQ s.heap fw (Heap.SameBut.refl ..))
 | n+1,i,s,Q,fw,ht,fq,hQ=>by
  have df:i<items.size:=by omega
  show wpAny _ _ (pyNext (.ref it) >>= _) Q E' s;refine X0 (wpAny_pyNext_list_item fw ht (x:=items[i]) (by simp[df]) λh₁ l0 mr=>?_);have ht₁:h₁.IsList t items:=by
   obtain⟨o,ho,r⟩:=ht;exact⟨o,(mr.2 t cy).trans ho,r⟩
  refine X0 (wpAny_holding (kq7 cy n (i+1) _ _ l0 ht₁ (by omega) λh₂ hit₂ hs₂=>X9 ?_));have hd:items.toList.drop i=items[i]::items.toList.drop (i+1):=by simp[List.drop_eq_getElem_cons,df]
  have:=hQ h₂ (by rw[show i+(n+1)=i+1+n by omega];exact hit₂) (mr.trans hs₂);rw[hd,List.take_succ_cons]at this;exact this
theorem jxa{s:Shared}{t:Addr}{items:Array Value}{Q:List Value->Shared->Prop}(hh:A.handled=none)(ht:s.heap.IsList t items)
  (hQ:∀h',Heap.ExtBut s.heap.objs.size s.heap h'->Q items.toList { s with heap:=h' }):wpAny (model prog w) A (unpackItems (.ref t) items.size none) Q E' s:=by
 have df:t≠s.heap.objs.size:=by obtain⟨o,ho,_⟩:=ht;exact Xp (Xa ho)
 unfold unpackItems;refine X0 ?_;unfold notIterableAtAll;refine X0 (wpAny_specialOf ht.typeIs slot_list_iter.lookup ?_);refine X9 ?_;simp only[Bool.false_eq_true,if_false];refine X0 (wpAny_holding (wpAny_pyIter_list ht ?_));have ht0:∀o:Obj,(s.heap.push o).IsList t items:=λo=>by
  obtain⟨ob,ho,r⟩:=ht;exact⟨ob,X2 _ ho,r⟩
 refine X0 (wpAny_holding (kq7 df items.size 0 _ _ ⟨_,Xd _ rfl,rfl,rfl⟩ (ht0 _) (by omega) λh₁ l0 mr=>?_));have js:List.take items.size (List.drop 0 items.toList)=items.toList:=by
  rw[List.drop_zero];exact List.take_of_length_le (by simp)
 rw[js];rw[Xj (by simp)];have ht₁:h₁.IsList t items:=by
  obtain⟨o,ho,r⟩:=ht0 _;exact⟨o,(mr.2 t df).trans ho,r⟩
 refine X0 (wpAny_holding (wpAny_pyNext_list_end hh l0 ht₁ (by simp) λh₂ he₂=>?_));simp only[Option.isSome_none,Bool.false_eq_true,if_false];exact X9 (hQ h₂ λb o hb e=>he₂ b o hb (mr.extBut b o hb (X2 _ e)))
theorem jwu{s:Shared}{env:Env}{ci:List Expr}{x1}{pos:Pos}{t:Addr}{items:Array Value}{Q:Unit->Shared->Prop}(hh:A.handled=none)(ht:s.heap.IsList t items)
  (hn:(assignEach ci env).length=items.size) (mf:(assignEach ci env).findIdx? (·.1)=none)
  (h:∀h',Heap.ExtBut s.heap.objs.size s.heap h'->wpAny (model prog w) A (assignInOrder ((assignEach ci env).map (·.2)) items.toList) Q E' { s with heap:=h' }):
  wpAny (model prog w) A (assign (.Tuple ci x1 pos) env (.ref t)) Q E' s:=by
 rw[assign_Tuple];refine X0 (wpAny_standAt ?_);unfold unpack;rw[hn,mf];exact X0 (wpAny_holding (jxa hh ht h))
end
theorem Zj(K:PySem.W.Frag){es:List Expr}{k:Nat}{t:TGs}{n:Nat}{pos:Pos}(h:PGs X es t)(hc:autoParam (X.calm=true) Ŕ)(hK:autoParam (X.K=K) Ŕ)
  (hn:autoParam ((assignEach es X.env).length=n) Ŕ) (bq:autoParam ((assignEach es X.env).findIdx? (·.1)=none) Ŕ):PG X (.Tuple es k pos) (vku K n t):=by
 subst hK;intro pins s σ H v u Q I r hw;obtain⟨a,xs,e1,hq,hl,hw⟩:=hw;subst e1;cases r;rcases hq with hq|hq
 ·obtain⟨aa,rv,ht,hz⟩:=I.tuple hq;refine assign_Tuple_tuple (I.ok.hd hc) ht (by simp[hn,<-hl,rv.length]) bq λh' hx=>?_
  have I1:L2.Inv X pins σ H { s with heap:=h' }:=I.kept (t':=s.toks) λb o e=>hx b o (Xp (Xa e)) e
  exact h pins _ σ H xs _ Q I1 (by simpa using rv) hw
 ·obtain⟨aa,rv,ht,hz⟩:=I.list hq;refine jwu (I.ok.hd hc) ht.isList (by simp[hn,<-hl,rv.length]) bq λh' hx=>?_
  have I1:L2.Inv X pins σ H { s with heap:=h' }:=I.kept (t':=s.toks) λb o e=>hx b o (Xp (Xa e)) e
  exact h pins _ σ H xs _ Q I1 (by simpa using rv) hw
theorem vkp{is:List Nat}(h:PG X e (vku Z.K is.length (gNs is)))(hp:autoParam (∀i∈is,i∉pn) ŕ):QG X Z pn (.t is) e:=qq7 h λv σ H Q ⟨E,L,z,E',m,w,ho,hv,b9,k⟩=>by
 have fin:∀ds:List D,(z.d=.lst ds\/z.d=.tup ds)->setAll is ds E=some E'->vku Z.K is.length (gNs is) v σ H Q:=λds hd b9=>by
  obtain⟨a,xs,bs,e1,q1,r,h1,h2⟩:=items w.head hd;rw[ho]at r;refine⟨a,xs,hv.symm.trans e1,?_,by rw[jzq b9,r.len],kzq (M:=some z::L) m w.tail r (λb hb=>w.apart b (h1 b hb)) (λb hb=>?_) Step.drop Pn.refl b9 hp k⟩
  ·rcases q1 with⟨_,z'⟩|⟨_,z'⟩
   ·exact .inr z'.sq
   ·exact .inl z'
  ·rw[kq,Yw ho];exact ll9 _ (h1 b hb)
 cases hd:z.d with
 |tup ds=>rw[hd]at b9;exact fin ds (.inr hd) b9
 |lst ds=>rw[hd]at b9;exact fin ds (.inl hd) b9
 |_=>rw[hd]at b9;cases b9
end
section
variable {X:Cx}{Z:Fx0}{pn:List Nat}{q:Bool}{tg ao:Expr}{it:Ev (List D)}{t:Tg}{B:Sm}{ss:List Stmt}{pos:Pos}{σ:L2.St}{H:Hp}{L:Ls}{E:En}
theorem jzz{K:PySem.W.Frag}{T:List Sl}{H1 H2:Hp}{L1:Ls}{z:Sl}(w:World K H1 (L1++T.map some))(hT:∀t∈T,t.o=.no)(sm:jX H1 H2)(ok:z.ok K H2)(ho:z.o=.no)(hz:∀b∈z.as,∃t∈T,b∈t.as):
  World K H2 ((some z::L1)++T.map some)/\Step H1 (L1++T.map some) H2 ((some z::L1)++T.map some):=by
 have w2:World K H2 (L1++T.map some):=⟨λx hx=>RepO.kp (w.ok x hx) (Kp.of_same sm),w.nd,w.ds⟩;have hf:∀b∈z.as,b∈jJ (L1++T.map some):=λb hb=>by
  obtain⟨t,ht,hbt⟩:=hz b hb;rw[kQ];exact lr9 _ (mem_frozen.mpr ⟨t,Xf ht,by rw[Yw (hT t ht)];exact hbt⟩)
 refine⟨w2.consNo ok ho λb hb hL=>w2.ds b hL (hf b hb),λa ob h _=>sm a ob h,λa ha=>?_,λa ha=>?_⟩
 ·rw[List.cons_append,jw,kz0 ho]at ha;exact .inl ha
 ·rw[List.cons_append,kq,Yw ho]at ha;rcases List.mem_append.mp ha with q|q
  ·exact .inl (hf a q)
  ·exact .inl q
theorem stay{K:PySem.W.Frag}{T L1 L2:Ls}{H1 H2:Hp}(w:World K H1 (L1++T))(s:Step H1 L1 H2 L2)(w2:World K H2 L2):World K H2 (L2++T)/\Step H1 (L1++T) H2 (L2++T):=⟨s.frame w w2 w.left,s.frm⟩
theorem Step.dropT{T:Ls}{H1:Hp}{L1:Ls}:Step H1 (L1++T) H1 L1:=⟨λ_ _ h _=>h,λa ha=>.inl (by rw[jK];exact ll9 _ ha),λa ha=>.inl (by rw[kQ];exact ll9 _ ha)⟩
theorem Kp.trans{H H1 H2:Hp}{as:List Addr}(a:Kp H H1 as)(b:Kp H1 H2 as):Kp H H2 as:=⟨λc xs e=>b.1 c xs (a.1 c xs e),λc o u e=>b.2.1 c o u (a.2.1 c o u e),λc hc ob e=>b.2.2 c hc ob (a.2.2 c hc ob e)⟩
theorem kvj{K:PySem.W.Frag}{H2 H3:Hp}{L2 L3:Ls}{T:List Sl}(w:World K H2 (L2++T.map some))(hT:∀t∈T,t.o=.no)(s:Step H2 L2 H3 L3){H0:Hp}(h:∀t∈T,Kp H0 H2 t.as):∀t∈T,Kp H0 H3 t.as:=λt ht=>
 (h t ht).trans (s.kp w.left λb hb z=>w.ds b (by rw[jK];exact ll9 _ z) (by
  rw[kQ];exact lr9 _ (mem_frozen.mpr ⟨t,Xf ht,by rw[Yw (hT t ht)];exact hb⟩)))
theorem qzh(hp:PassesOwn (model X.prog X.w) X.A X.env X.xe)(hc:X.calm=true)(hi:QID X Z q tg it ao)(hg:QG X Z pn t tg)(hb:QSs X Z pn B ss)(hs:autoParam (∀x,foldedSetIterable ao X.env x=pure x) Ŗ):QS X Z pn (qk it t B) (.For tg ao ss [] pos):=J8 (qq5 hp hc hi hg hb hs) λD σ H ak=>ex7 ak λE L r m w hr k=>by
 have hr:ofE (it E) (λE ds=>J5 t B ds E)=some r:=hr;rcases jxx hr with⟨E1,ds,h1,h2⟩|⟨E1,c,h1,rfl⟩
 rotate_left
 ·exact⟨E,L,_,m,w,h1,k.xc,λE' s' z=>by cases z⟩
 refine⟨E,L,_,m,w,h1,(λ_ _ z=>by cases z),λE' ds' z J T L' H' m' w' st hz _ wk=>?_⟩;injection z with z1 z2;subst z1 z2;have gh:∀{H2:Hp} {L2:Ls},World Z.K H2 (L2++T.map some)->∀t∈T,t.ok Z.K H2:=λw2 t ht=>w2.ok t (lr9 _ (Xf ht))
 refine⟨λi n σ1 H1=>∃E1 L1,Mt E1 σ1 L1/\World Z.K H1 (L1++T.map some)/\Step H L H1 (L1++T.map some)/\Pn pn σ σ1/\J5 t B (ds.drop i) E1=some r/\i<=ds.length/\n=ds.length - i/\∀t∈T,Kp H' H1 t.as,⟨_,E1,L',m',w',st,Pn.refl,h2,Nat.zero_le _,rfl,λ_ _=>Kp.of_same wX⟩,?_⟩;rintro i n σ1 H1 ⟨E1,L1,m1,w1,st1,p1,f1,hi,rfl,pins⟩
 by_cases df:i<ds.length
 ·have hd:ds.drop i=ds[i]::ds.drop (i+1):=List.drop_eq_getElem_cons df;rw [hd]at f1;unfold J5 at f1;cases b9:t.put ds[i] E1 with
  | none=>rw[b9]at f1;cases f1
  | some E2=>
   rw[b9]at f1;dsimp only at f1;refine .inr ⟨wk.go i H1 ⟨gh w1,pins⟩ df,fun σ2 H2=>∃E2 L2,Mt E2 σ2 L2/\World Z.K H2 (L2++T.map some)/\Step H L H2 (L2++T.map some)/\Pn pn σ σ2/\J5 t B (ds.drop (i+1)) E2=some r/\∀t∈T,Kp H' H2 t.as,fun σ2 H2 ⟨E2,L2,a1,a2,a3,a4,a5,a6⟩=>⟨ds.length - (i+1),by omega,E2,L2,a1,a2,a3,a4,a5,df,rfl,a6⟩,λv H2 hy=>?_⟩;obtain⟨z,zo,zd,zv,sm,ls,zas⟩:=wk.yld i H1 v H2 ds[i] ⟨gh w1,pins⟩ hy (X1 df);obtain⟨wz,sz⟩:=jzz w1 wk.no sm ls zo zas;refine⟨E1,L1,z,E2,m1,wz.left,zo,zv,by rw[zd];exact b9,fun σ2 L2 p2 m2 w2 bi=>?_⟩;obtain⟨w3,cz⟩:=stay wz bi w2;have i':Step H L H2 (L2++T.map some):=st1.trans (sz.trans cz);have ja:∀t∈T,Kp H' H2 t.as:=λt ht=>(pins t ht).trans (Kp.of_same sm)
   cases hB:B E2 with
   | none=>rw[hB]at f1;cases f1
   | some g=>
    rw[hB]at f1;refine⟨E2,L2,g,m2,w2,hB,?_⟩;have fin:∀{g:Fl},g=r->(∀ σ',D.nx σ'=D.nx σ')->FlP Z pn D σ2 H2 (L2++T.map some) g:=λe _=>e▸k.step i' (p1.trans p2)
    cases g with
    |nx E3=>
     intro σ3 L3 H3 p3 m3 w4 s3;obtain⟨w5,s5⟩:=stay w3 s3 w4;exact⟨E3,L3,m3,w5,i'.trans s5,(p1.trans p2).trans p3,f1,kvj w3 wk.no s3 ja⟩
    |ct E3=>
     intro σ3 L3 H3 p3 m3 w4 s3;obtain⟨w5,s5⟩:=stay w3 s3 w4;exact⟨E3,L3,m3,w5,i'.trans s5,(p1.trans p2).trans p3,f1,kvj w3 wk.no s3 ja⟩
    |bk E3=>
     have e:=oq9 f1;subst e;intro σ3 L3 H3 p3 m3 w4 s3;exact k σ3 L3 H3 ((p1.trans p2).trans p3) m3 w4 ((i'.trans Step.dropT).trans s3)
    |rt E3 x=>
     have e:=oq9 f1;subst e;intro y σ3 L3 H3 e1 e2 p3 m3 w4 s3;exact k y σ3 L3 H3 e1 e2 ((p1.trans p2).trans p3) m3 w4 ((i'.trans Step.dropT).trans s3)
    |xc E3 c=>
     have e:=oq9 f1;subst e;intro C σ3 L3 H3 hm p3 m3 w4 s3;exact k C σ3 L3 H3 hm ((p1.trans p2).trans p3) m3 w4 ((i'.trans Step.dropT).trans s3)
 ·have e:i=ds.length:=by omega
  subst e;rw[List.drop_length]at f1;cases oq9 f1;exact .inl ⟨wk.stop H1 ⟨gh w1,pins⟩,k σ1 L1 H1 p1 m1 w1.left (st1.trans Step.dropT)⟩
theorem vqg(hp:PassesOwn (model X.prog X.w) X.A X.env X.xe)(hc:X.calm=true)(hi:QI X Z q tg it ao)(hg:QG X Z pn t tg)(hb:QSs X Z pn B ss)(hs:autoParam (∀x,foldedSetIterable ao X.env x=pure x) Ŗ):QS X Z pn (qk it t B) (.For tg ao ss [] pos):=qzh hp hc hi.D hg hb hs
end
mutual
noncomputable def jx(h:Heap):D->Value->Prop
 |.non,u=>u=.none
 |.bl b,u=>u=.bool b
 |.int i,u=>∃t,u=.int i t
 |.str z,u=>∃t,u=.str z t
 |.tup ds,u=>∃a us,u=.ref a/\h.IsTuple a us.toArray/\CReps h ds us
 |.lst ds,u=>∃a us,u=.ref a/\h.IsList a us.toArray/\CReps h ds us
 |.dct _,_=>False
 |.obj _ _,_=>False
noncomputable def CReps(h:Heap):List D->List Value->Prop
 |[],us=>us=[]
 |d::ds,us=>∃u r,us=u::r/\jx h d u/\CReps h ds r
end
theorem kvw{n:Nat}{k:List (D×D)}:D.flat n (.dct k)=false:=by cases n<;>simp[D.flat]
theorem kvv{n:Nat}{c:Str}{k:List (Str×D)}:D.flat n (.obj c k)=false:=by cases n<;>simp[D.flat]
section
variable {X:Cx}{pins:List (Addr×Obj)}{σ:L2.St}{H:Hp}{s:Shared}
mutual
theorem K7(I:Inv X pins σ H s){g:Bool}:∀{n:Nat} {d:D} {v:V} {as:List Addr} {u:Value},RepL X.K H g d v as->d.flat n=true->RelV v u->jx s.heap d u
 | _,.non,_,_,_,h,_,r=>by
  unfold RepL at h;rw[h.1]at r;unfold jx;exact r
 | _,.bl _,_,_,_,h,_,r=>by
  unfold RepL at h;rw[h.1]at r;unfold jx;exact r
 | _,.int _,_,_,_,h,_,r=>by
  unfold RepL at h;rw[h.1]at r;unfold jx;exact r
 | _,.str _,_,_,_,h,_,r=>by
  unfold RepL at h;rw[h.1]at r;unfold jx;exact r
 | 0,.tup ds,_,_,_,h,f,r=>by unfold D.flat at f;cases f
 | n+1,.tup ds,_,_,_,h,f,r=>by
  unfold RepL at h;unfold D.flat at f;obtain⟨a,xs,rfl,q,ra⟩:=h;cases r;obtain⟨aa,rv,p,_⟩:=I.tuple q;unfold jx;exact⟨a,aa,rfl,p,creps_of I ra f rv⟩
 | 0,.lst ds,_,_,_,h,f,r=>by unfold D.flat at f;cases f
 | n+1,.lst ds,_,_,_,h,f,r=>by
  unfold RepL at h;unfold D.flat at f;obtain⟨a,xs,bs,rfl,ra,q⟩:=h;cases r;have q':SqL X.K H a xs:=by
   rcases q with⟨q,_⟩|⟨_,q,_⟩
   ·exact SqL.of q
   ·exact(LsR.of q).sq
  obtain⟨aa,rv,p,_⟩:=I.list q';unfold jx;exact⟨a,aa,rfl,p.isList,creps_of I ra f rv⟩
 |_,.dct _,_,_,_,h,f,r=>by rw[kvw]at f;cases f
 |_,.obj _ _,_,_,_,h,f,r=>by rw[kvv]at f;cases f
theorem creps_of(I:Inv X pins σ H s){g:Bool}:∀{n:Nat} {ds:List D} {xs:List V} {as:List Addr} {us:List Value},RepA X.K H g ds xs as->D.flats n ds=true->Vals xs us->CReps s.heap ds us
 | _,[],_,_,_,h,_,r=>by
  unfold RepA at h;rw[h.1]at r;cases r;unfold CReps;rfl
 | n,d::ds,_,_,_,h,f,r=>by
  unfold RepA at h;unfold D.flats at f;rw[Bool.and_eq_true]at f;obtain⟨x,rr,bs,cs,rfl,rfl,h1,h2⟩:=h;cases r with
  |cons r1 r2=>
   unfold CReps;exact⟨_,_,rfl,K7 I h1 f.1 r1,creps_of I h2 f.2 r2⟩
end
end
theorem CReps.len{h:Heap}:∀{ds:List D} {us:List Value},CReps h ds us->ds.length=us.length
 |[],_,r=>by unfold CReps at r;rw[r];rfl
 |d::ds,_,r=>by
  unfold CReps at r;obtain⟨u,rr,rfl,_,h2⟩:=r;simp[CReps.len h2]
theorem CReps.get{h:Heap}:∀{ds:List D} {us:List Value} {j:Nat} {d:D},CReps h ds us->ds[j]?=some d->∃u,us[j]?=some u/\jx h d u
 | [],_,_,_,_,e=>by simp at e
 | d::ds,_,j,d',r,e=>by
  unfold CReps at r;obtain⟨u,rr,rfl,h1,h2⟩:=r;cases j with
  |zero=>
   have e:d=d':=by simpa using e
   subst e;exact⟨u,by simp,h1⟩
  |succ j=>
   obtain⟨w,e1,e2⟩:=CReps.get (j:=j) h2 (by simpa using e);exact⟨w,by simpa using e1,e2⟩
theorem qv3{h:Heap}{a:Addr}{x y:Array Value}(p:h.IsTuple a x)(q:h.IsTuple a y):x=y:=by
 obtain⟨o,h1,_,n,h2⟩:=p;obtain⟨o',h3,_,n',h4⟩:=q;rw[h1]at h3;cases h3;rw[h2]at h4;injection h4
theorem qwf{h:Heap}{a:Addr}{x y:Array Value}(p:h.IsList a x)(q:h.IsList a y):x=y:=by
 obtain⟨o,h1,_,n,h2⟩:=p;obtain⟨o',h3,_,n',h4⟩:=q;rw[h1]at h3;cases h3;rw[h2]at h4;injection h4
theorem kzb{h:Heap}{a:Addr}{x y:Array Value}(p:h.IsList a x)(q:h.IsTuple a y):False:=by
 obtain⟨o,h1,h2,_⟩:=p;obtain⟨o',h3,h4,_⟩:=q;rw[h1]at h3;cases h3;rw[h2]at h4;exact absurd (Value.type.inj h4) (by decide)
mutual
theorem kk2{h:Heap}:∀{d d':D} {u:Value},jx h d u->jx h d' u->d=d'
 | .non,d',u,a,b=>by
  unfold jx at a;subst a;cases d'<;>unfold jx at b<;>first|rfl|exact b.elim|(cases b;done)|(obtain⟨_,b⟩:=b;cases b;done)|(obtain⟨_,_,b,_⟩:=b;cases b)
 | .bl k,d',u,a,b=>by
  unfold jx at a;subst a;cases d'<;>unfold jx at b<;>first|exact b.elim|(cases b;rfl)|(cases b;done)|(obtain⟨_,b⟩:=b;cases b;done)|(obtain⟨_,_,b,_⟩:=b;cases b)
 | .int k,d',u,a,b=>by
  unfold jx at a;obtain⟨t,rfl⟩:=a;cases d'<;>unfold jx at b<;>first|exact b.elim|(cases b;done)|(obtain⟨_,b⟩:=b;cases b;rfl)|(obtain⟨_,b⟩:=b;cases b;done)|(obtain⟨_,_,b,_⟩:=b;cases b)
 | .str k,d',u,a,b=>by
  unfold jx at a;obtain⟨t,rfl⟩:=a;cases d'<;>unfold jx at b<;>first|exact b.elim|(cases b;done)|(obtain⟨_,b⟩:=b;cases b;rfl)|(obtain⟨_,b⟩:=b;cases b;done)|(obtain⟨_,_,b,_⟩:=b;cases b)
 | .tup ds,d',u,a,b=>by
  unfold jx at a;obtain⟨x,us,rfl,p,r⟩:=a;cases d' with
  |tup es=>
   unfold jx at b;obtain⟨y,ws,e,p',r'⟩:=b;cases e;have e2:us=ws:=by simpa using qv3 p p'
   subst e2;rw[creps_inj r r']
  |lst es=>
   unfold jx at b;obtain⟨y,ws,e,p',r'⟩:=b;cases e;exact(kzb p' p).elim
  |non=>unfold jx at b;cases b
  |bl k=>unfold jx at b;cases b
  |int k=>unfold jx at b;obtain⟨_,b⟩:=b;cases b
  |str k=>unfold jx at b;obtain⟨_,b⟩:=b;cases b
  |dct k=>unfold jx at b;exact b.elim
  |obj k l=>unfold jx at b;exact b.elim
 | .lst ds,d',u,a,b=>by
  unfold jx at a;obtain⟨x,us,rfl,p,r⟩:=a;cases d' with
  |lst es=>
   unfold jx at b;obtain⟨y,ws,e,p',r'⟩:=b;cases e;have e2:us=ws:=by simpa using qwf p p'
   subst e2;rw[creps_inj r r']
  |tup es=>
   unfold jx at b;obtain⟨y,ws,e,p',r'⟩:=b;cases e;exact(kzb p p').elim
  |non=>unfold jx at b;cases b
  |bl k=>unfold jx at b;cases b
  |int k=>unfold jx at b;obtain⟨_,b⟩:=b;cases b
  |str k=>unfold jx at b;obtain⟨_,b⟩:=b;cases b
  |dct k=>unfold jx at b;exact b.elim
  |obj k l=>unfold jx at b;exact b.elim
 |.dct k,_,_,a,_=>by unfold jx at a;exact a.elim
 |.obj k l,_,_,a,_=>by unfold jx at a;exact a.elim
theorem creps_inj{h:Heap}:∀{ds ds':List D} {us:List Value},CReps h ds us->CReps h ds' us->ds=ds'
 | [],ds',us,a,b=>by
  unfold CReps at a;subst a;cases ds' with
  |nil=>rfl
  |cons d ds=>unfold CReps at b;obtain⟨_,_,e,_⟩:=b;cases e
 | d::ds,ds',us,a,b=>by
  unfold CReps at a;obtain⟨u,r,rfl,h1,h2⟩:=a;cases ds' with
  |nil=>unfold CReps at b;cases b
  |cons d' ds'=>
   unfold CReps at b;obtain⟨u',r',e,h3,h4⟩:=b;cases e;rw[kk2 h1 h3,creps_inj h2 h4]
end
mutual
theorem VZ:∀{n:Nat} {d:D},d.flat n=true->peq d d=true
 |_,.non,_=>by unfold peq;rfl
 |_,.bl b,_=>by unfold peq;simp
 |_,.int b,_=>by unfold peq;simp
 |_,.str b,_=>by unfold peq;simp
 |0,.tup ds,f=>by unfold D.flat at f;cases f
 |n+1,.tup ds,f=>by unfold peq;unfold D.flat at f;exact peqs_refl f
 |0,.lst ds,f=>by unfold D.flat at f;cases f
 |n+1,.lst ds,f=>by unfold peq;unfold D.flat at f;exact peqs_refl f
 |_,.dct _,f=>by rw[kvw]at f;cases f
 |_,.obj _ _,f=>by rw[kvv]at f;cases f
theorem peqs_refl:∀{n:Nat} {d:List D},D.flats n d=true->peqs d d=true
 |_,[],_=>by unfold peqs;rfl
 |n,d::ds,f=>by
  unfold D.flats at f;rw[Bool.and_eq_true]at f;unfold peqs;rw[VZ f.1,peqs_refl f.2];rfl
end
theorem jwe : ∀{n : Nat} {ds : List D} {j : Nat} {d : D}, D.flats n ds = true -> ds[j]? = some d -> d.flat n = true
  | _, [], _, _, _, e=>by simp at e
  | n, d::ds, j, d', f, e=>by
    unfold D.flats at f;rw[Bool.and_eq_true]at f;cases j with
    | zero => have e : d = d':= by simpa using e
              subst e; exact f.1
    |succ j=>exact jwe (j:= j) f.2 (by simpa using e)
def pAt(as bs:List D)(j:Nat):Bool:=match as[j]?,bs[j]? with
 |some a,some b=>peq a b
 |_,_=>true
theorem jvo:∀(as bs:List D),as.length=bs.length->(List.range as.length).all (pAt as bs)=peqs as bs
 |[],[],_=>by unfold peqs;rfl
 |a::as,b::bs,h=>by
  have ih:=jvo as bs (by simpa using h);rw[Y0,List.range_succ_eq_map,List.all_cons,List.all_map];unfold peqs;rw[<-ih];rfl
 |[],_::_,h=>by simp at h
 |_::_,[],h=>by simp at h
theorem jxf:∀(as bs:List D),as.length≠bs.length->peqs as bs=false
 |[],[],h=>by simp at h
 |a::as,b::bs,h=>by
  unfold peqs;rw[jxf as bs (by simpa using h),Bool.and_false]
 |[],_::_,_=>by unfold peqs;rfl
 |_::_,[],_=>by unfold peqs;rfl
theorem kv8(as bs:List D):((List.range (min as.length bs.length)).all (pAt as bs)&&as.length==bs.length)=peqs as bs:=by
 by_cases e:as.length=bs.length
 ·rw[<-e,Nat.min_self,jvo as bs e];simp[e]
 ·rw[jxf as bs e];have:(as.length==bs.length)=false:=by simpa using e
  rw[this,Bool.and_false]
section
variable {s:Shared}
theorem kqo{as bs:List D}{us ws:List Value}{A:Around}(ra:CReps s.heap as us)(rb:CReps s.heap bs ws)
  (h:∀(j:Nat) (d d':D) (u w:Value),as[j]?=some d->bs[j]?=some d'->jx s.heap d u->jx s.heap d' w->SeqAt.EqAt A s u w (peq d d')):
  ∀j (h1:j<us.toArray.size) (h2:j<ws.toArray.size),SeqAt.EqAt A s us.toArray[j] ws.toArray[j] (pAt as bs j):=λj h1 h2=>by
 have l1:=ra.len;have l2:=rb.len;simp only[X4]at h1 h2;have ha:j<as.length:=by omega
 have hb:j<bs.length:=by omega
 obtain⟨u,eu,ru⟩:=ra.get (X1 ha);obtain⟨w,ew,ku⟩:=rb.get (X1 hb);have e1:us.toArray[j]=u:=by
  obtain⟨_,q⟩:=List.getElem?_eq_some_iff.mp eu
  simpa using q
 have e2:ws.toArray[j]=w:=by
  obtain⟨_,q⟩:=List.getElem?_eq_some_iff.mp ew
  simpa using q
 have e3:pAt as bs j=peq as[j] bs[j]:=by
  unfold pAt;rw[X1 ha,X1 hb]
 rw[e1,e2,e3];exact h j _ _ u w (X1 ha) (X1 hb) ru ku
inductive Cv (h:Heap):D->Value->Prop
 |non:Cv h .non .none
 |bl (b:Bool):Cv h (.bl b) (.bool b)
 |int (i:Int) (t:_):Cv h (.int i) (.int i t)
 |str (z:Str) (t:_):Cv h (.str z) (.str z t)
 |lst {ds:List D} {a:Addr} {us:List Value} (p:h.IsList a us.toArray) (q:CReps h ds us):Cv h (.lst ds) (.ref a)
 |tup {ds:List D} {a:Addr} {us:List Value} (p:h.IsTuple a us.toArray) (q:CReps h ds us):Cv h (.tup ds) (.ref a)
theorem crv{h:Heap}{d:D}{u:Value}(r:jx h d u):Cv h d u:=by
 cases d<;>unfold jx at r
 all_goals first|exact r.elim|(subst r;constructor)|(obtain⟨_,rfl⟩:=r;constructor)|(obtain⟨_,_,rfl,p,q⟩:=r;first|exact .lst p q|exact .tup p q)
theorem qz4{A:Around}{d d':D}{u w:Value}(hu:A.units<cLine)(r:jx s.heap d u)(r':jx s.heap d' w)
  (el:∀(as bs:List D) (us ws:List Value),(d=.lst as\/d=.tup as)->(d'=.lst bs\/d'=.tup bs)->CReps s.heap as us->CReps s.heap bs ws->∀j (h1:j<us.toArray.size) (h2:j<ws.toArray.size),SeqAt.EqAt A.in1 s us.toArray[j] ws.toArray[j] (pAt as bs j)):
  SeqAt.RcAt A s u w (peq d d'):=by
 cases crv r<;>cases crv r'<;>unfold peq
 ·exact SeqAt.RcAt.none_none
 ·exact SeqAt.RcAt.none_bool _
 ·exact SeqAt.RcAt.none_int _ _
 ·exact SeqAt.RcAt.none_str _ _
 ·exact SeqAt.RcAt.none_list ‹_› hu
 ·exact SeqAt.RcAt.none_tuple ‹_› hu
 ·exact SeqAt.RcAt.bool_none _
 ·exact SeqAt.RcAt.bool_bool _ _
 ·exact SeqAt.RcAt.bool_int _ _ _
 ·exact SeqAt.RcAt.bool_str _ _ _
 ·exact SeqAt.RcAt.bool_list _ ‹_› hu
 ·exact SeqAt.RcAt.bool_tuple _ ‹_› hu
 ·exact SeqAt.RcAt.int_none _ _
 ·exact SeqAt.RcAt.int_bool _ _ _
 ·exact SeqAt.RcAt.int_int _ _ _ _
 ·exact SeqAt.RcAt.int_str _ _ _ _
 ·exact SeqAt.RcAt.int_list _ _ ‹_› hu
 ·exact SeqAt.RcAt.int_tuple _ _ ‹_› hu
 ·exact SeqAt.RcAt.str_none _ _
 ·exact SeqAt.RcAt.str_bool _ _ _
 ·exact SeqAt.RcAt.str_int _ _ _ _
 ·exact SeqAt.RcAt.str_str _ _ _ _
 ·exact SeqAt.RcAt.str_list _ _ ‹_› hu
 ·exact SeqAt.RcAt.str_tuple _ _ ‹_› hu
 ·exact SeqAt.RcAt.list_none ‹_› hu
 ·exact SeqAt.RcAt.list_bool _ ‹_› hu
 ·exact SeqAt.RcAt.list_int _ _ ‹_› hu
 ·exact SeqAt.RcAt.list_str _ _ ‹_› hu
 ·rename_i as a us p ra bs b ws p' rb;have l1:=ra.len;have l2:=rb.len
  by_cases hl:as.length=bs.length
  ·rw[<-jvo as bs hl];have z:=SeqAt.RcAt.lists (A:=A) (s:=s) (e:=pAt as bs) p p' (by simp only[X4];omega) hu (el as bs us ws (.inl rfl) (.inl rfl) ra rb);rw[X4,<-l1]at z;exact z
  ·rw[jxf as bs hl];exact SeqAt.RcAt.lists_lengths p p' (by simp only[X4,bne_iff_ne];omega) hu
 ·exact SeqAt.RcAt.list_tuple ‹_› ‹_› hu
 ·exact SeqAt.RcAt.tuple_none ‹_› hu
 ·exact SeqAt.RcAt.tuple_bool _ ‹_› hu
 ·exact SeqAt.RcAt.tuple_int _ _ ‹_› hu
 ·exact SeqAt.RcAt.tuple_str _ _ ‹_› hu
 ·exact SeqAt.RcAt.tuple_list ‹_› ‹_› hu
 ·rename_i as a us p ra bs b ws p' rb;have l1:=ra.len;have l2:=rb.len;rw[<-kv8 as bs];have z:=SeqAt.RcAt.tuples (A:=A) (s:=s) (e:=pAt as bs) p p' hu (el as bs us ws (.inr rfl) (.inr rfl) ra rb);rw[X4,X4,<-l1,<-l2]at z;exact z
theorem vqa{A:Around}{d d':D}{u w:Value}(hu:A.units<cLine)(r:jx s.heap d u)(r':jx s.heap d' w)
  (el:∀(as bs:List D) (us ws:List Value),(d=.lst as\/d=.tup as)->(d'=.lst bs\/d'=.tup bs)->CReps s.heap as us->CReps s.heap bs ws->∀j (h1:j<us.toArray.size) (h2:j<ws.toArray.size),SeqAt.EqAt A.in1 s us.toArray[j] ws.toArray[j] (pAt as bs j)):
  SeqAt.RcNeAt A s u w (!peq d d'):=by
 cases crv r<;>cases crv r'<;>unfold peq
 ·exact SeqAt.RcNeAt.none_none
 ·exact SeqAt.RcNeAt.none_bool _
 ·exact SeqAt.RcNeAt.none_int _ _
 ·exact SeqAt.RcNeAt.none_str _ _
 ·exact SeqAt.RcNeAt.none_list ‹_› hu
 ·exact SeqAt.RcNeAt.none_tuple ‹_› hu
 ·exact SeqAt.RcNeAt.bool_none _
 ·exact SeqAt.RcNeAt.bool_bool _ _
 ·exact SeqAt.RcNeAt.bool_int _ _ _
 ·exact SeqAt.RcNeAt.bool_str _ _ _
 ·exact SeqAt.RcNeAt.bool_list _ ‹_› hu
 ·exact SeqAt.RcNeAt.bool_tuple _ ‹_› hu
 ·exact SeqAt.RcNeAt.int_none _ _
 ·exact SeqAt.RcNeAt.int_bool _ _ _
 ·exact SeqAt.RcNeAt.int_int _ _ _ _
 ·exact SeqAt.RcNeAt.int_str _ _ _ _
 ·exact SeqAt.RcNeAt.int_list _ _ ‹_› hu
 ·exact SeqAt.RcNeAt.int_tuple _ _ ‹_› hu
 ·exact SeqAt.RcNeAt.str_none _ _
 ·exact SeqAt.RcNeAt.str_bool _ _ _
 ·exact SeqAt.RcNeAt.str_int _ _ _ _
 ·exact SeqAt.RcNeAt.str_str _ _ _ _
 ·exact SeqAt.RcNeAt.str_list _ _ ‹_› hu
 ·exact SeqAt.RcNeAt.str_tuple _ _ ‹_› hu
 ·exact SeqAt.RcNeAt.list_none ‹_› hu
 ·exact SeqAt.RcNeAt.list_bool _ ‹_› hu
 ·exact SeqAt.RcNeAt.list_int _ _ ‹_› hu
 ·exact SeqAt.RcNeAt.list_str _ _ ‹_› hu
 ·rename_i as a us p ra bs b ws p' rb;have l1:=ra.len;have l2:=rb.len
  by_cases hl:as.length=bs.length
  ·rw[<-jvo as bs hl];have z:=SeqAt.RcNeAt.lists (A:=A) (s:=s) (e:=pAt as bs) p p' (by simp only[X4];omega) hu (el as bs us ws (.inl rfl) (.inl rfl) ra rb);rw[X4,<-l1]at z;exact z
  ·rw[jxf as bs hl];exact SeqAt.RcNeAt.lists_lengths p p' (by simp only[X4,bne_iff_ne];omega) hu
 ·exact SeqAt.RcNeAt.list_tuple ‹_› ‹_› hu
 ·exact SeqAt.RcNeAt.tuple_none ‹_› hu
 ·exact SeqAt.RcNeAt.tuple_bool _ ‹_› hu
 ·exact SeqAt.RcNeAt.tuple_int _ _ ‹_› hu
 ·exact SeqAt.RcNeAt.tuple_str _ _ ‹_› hu
 ·exact SeqAt.RcNeAt.tuple_list ‹_› ‹_› hu
 ·rename_i as a us p ra bs b ws p' rb;have l1:=ra.len;have l2:=rb.len;rw[<-kv8 as bs];have z:=SeqAt.RcNeAt.tuples (A:=A) (s:=s) (e:=pAt as bs) p p' hu (el as bs us ws (.inr rfl) (.inr rfl) ra rb);rw[X4,X4,<-l1,<-l2]at z;exact z
theorem Zw{A:Around}{a a':Addr}{b:Bool}(le:Value.ref a=Value.ref a'->b=true)(rc:SeqAt.RcAt A s (.ref a) (.ref a') b):SeqAt.EqAt A s (.ref a) (.ref a') b:=by
 by_cases e:a=a'
 ·subst e;rw[le rfl];exact SeqAt.EqAt.same _
 ·exact SeqAt.EqAt.of_refs e rc
theorem vva{A:Around}{d d':D}{u w:Value}(hu:A.units<cLine)(r:jx s.heap d u)(r':jx s.heap d' w)(le:u=w->peq d d'=true)(rc:SeqAt.RcAt A s u w (peq d d')):SeqAt.EqAt A s u w (peq d d'):=by
 cases crv r<;>cases crv r'<;>try unfold peq
 ·exact SeqAt.EqAt.same _
 ·exact SeqAt.EqAt.none_bool _
 ·exact SeqAt.EqAt.none_int _ _
 ·exact SeqAt.EqAt.none_str _ _
 ·exact SeqAt.EqAt.none_list ‹_› hu
 ·exact SeqAt.EqAt.none_tuple ‹_› hu
 ·exact SeqAt.EqAt.bool_none _
 ·exact SeqAt.EqAt.bool_bool _ _
 ·exact SeqAt.EqAt.bool_int _ _ _
 ·exact SeqAt.EqAt.bool_str _ _ _
 ·exact SeqAt.EqAt.bool_list _ ‹_› hu
 ·exact SeqAt.EqAt.bool_tuple _ ‹_› hu
 ·exact SeqAt.EqAt.int_none _ _
 ·exact SeqAt.EqAt.int_bool _ _ _
 ·exact SeqAt.EqAt.int_int _ _ _ _
 ·exact SeqAt.EqAt.int_str _ _ _ _
 ·exact SeqAt.EqAt.int_list _ _ ‹_› hu
 ·exact SeqAt.EqAt.int_tuple _ _ ‹_› hu
 ·exact SeqAt.EqAt.str_none _ _
 ·exact SeqAt.EqAt.str_bool _ _ _
 ·exact SeqAt.EqAt.str_int _ _ _ _
 ·exact SeqAt.EqAt.str_str _ _ _ _
 ·exact SeqAt.EqAt.str_list _ _ ‹_› hu
 ·exact SeqAt.EqAt.str_tuple _ _ ‹_› hu
 ·exact SeqAt.EqAt.list_none ‹_› hu
 ·exact SeqAt.EqAt.list_bool _ ‹_› hu
 ·exact SeqAt.EqAt.list_int _ _ ‹_› hu
 ·exact SeqAt.EqAt.list_str _ _ ‹_› hu
 ·exact Zw le rc
 ·exact Zw le rc
 ·exact SeqAt.EqAt.tuple_none ‹_› hu
 ·exact SeqAt.EqAt.tuple_bool _ ‹_› hu
 ·exact SeqAt.EqAt.tuple_int _ _ ‹_› hu
 ·exact SeqAt.EqAt.tuple_str _ _ ‹_› hu
 ·exact Zw le rc
 ·exact Zw le rc
theorem Vv:∀(n:Nat) {d d':D} {u w:Value} {A:Around},d.flat n=true->jx s.heap d u->jx s.heap d' w->A.units+n<cLine->SeqAt.EqAt A s u w (peq d d')
 | n,d,d',u,w,A,f,r,r',hu=>by
  refine vva (by omega) r r' (λe=>?_) (qz4 (by omega) r r' λas bs us ws h1 h2 ra rb=>?_)
  rotate_left
  ·cases n with
   |zero=>rcases h1 with rfl|rfl<;>(unfold D.flat at f;cases f)
   |succ n=>
    have fs:D.flats n as=true:=by rcases h1 with rfl|rfl<;>(unfold D.flat at f;exact f)
    exact kqo ra rb λj d d' u w e1 e2 q1 q2=>Vv n (jwe fs e1) q1 q2 (by have:=L3.in1_units A;omega)
  ·subst e;rw[kk2 r' r];exact VZ f
end
section
variable {X:Cx}{Z:Fx0}{K:PySem.W.Frag}
noncomputable def vw3(K:PySem.W.Frag):R2:=λx y H Q=>∃d d' as bs,RepL K H true d x as/\RepL K H true d' y bs/\d.flat 40=true/\d'.flat 40=true/\Q (.bl (peq d d')) H
noncomputable def vvy(K:PySem.W.Frag):R2:=λx y H Q=>∃d d' as bs,RepL K H true d x as/\RepL K H true d' y bs/\d.flat 40=true/\d'.flat 40=true/\Q (.bl (!peq d d')) H
theorem zK(hu:X.A.units+64<cLine)(hK:autoParam (X.K=K) Ŕ):OpR X (compareOp .Eq) (vw3 K):=by
 subst hK;intro pins s σ H x y v u Q I rx ry h;obtain⟨d,d',as,bs,h1,h2,f1,f2,q⟩:=h;have c1:=K7 I h1 f1 rx;have c2:=K7 I h2 f2 ry;refine qz4 (by omega) c1 c2 (λas bs us ws e1 e2 ra rb=>kqo ra rb λj d d' u w e3 e4 q1 q2=>?_) _ _ _ _ ⟨.bl _,H,I,rfl,q⟩;have fs:D.flats 39 as=true:=by rcases e1 with rfl|rfl<;>(unfold D.flat at f1;exact f1)
 exact Vv 39 (jwe fs e3) q1 q2 (by have:=L3.in1_units X.A;omega)
theorem qw8(hu:X.A.units+64<cLine)(hK:autoParam (X.K=K) Ŕ):OpR X (compareOp .NotEq) (vvy K):=by
 subst hK;intro pins s σ H x y v u Q I rx ry h;obtain⟨d,d',as,bs,h1,h2,f1,f2,q⟩:=h;have c1:=K7 I h1 f1 rx;have c2:=K7 I h2 f2 ry;refine vqa (by omega) c1 c2 (λas bs us ws e1 e2 ra rb=>kqo ra rb λj d d' u w e3 e4 q1 q2=>?_) _ _ _ _ ⟨.bl _,H,I,rfl,q⟩;have fs:D.flats 39 as=true:=by rcases e1 with rfl|rfl<;>(unfold D.flat at f1;exact f1)
 exact Vv 39 (jwe fs e3) q1 q2 (by have:=L3.in1_units X.A;omega)
theorem zQ:Ad2 K (vw3 K) (pu2 fEq):=by
 intro H x y s Q ox oy hf k;unfold pu2 fEq at hf;dsimp only at hf
 by_cases hc:(x.d.flat 40&&y.d.flat 40)=true
 ·rw[Xb hc]at hf;rw[Bool.and_eq_true]at hc;cases oq9 hf;exact⟨x.d,y.d,x.as,y.as,RepO.wk ox,RepO.wk oy,hc.1,hc.2,k ⟨.dp,.bl _,.bl _,[]⟩ H rfl rfl ww⟩
 ·rw[Xj hc]at hf;cases hf
theorem qx2:Ad2 K (vvy K) (pu2 fNe):=by
 intro H x y s Q ox oy hf k;unfold pu2 fNe at hf;dsimp only at hf
 by_cases hc:(x.d.flat 40&&y.d.flat 40)=true
 ·rw[Xb hc]at hf;rw[Bool.and_eq_true]at hc;cases oq9 hf;exact⟨x.d,y.d,x.as,y.as,RepO.wk ox,RepO.wk oy,hc.1,hc.2,k ⟨.dp,.bl _,.bl _,[]⟩ H rfl rfl ww⟩
 ·rw[Xj hc]at hf;cases hf
end
end Q
namespace Q
open PySem PySem.Spec PyProof.Rows L2 L3
abbrev Sl.sd(x:Sl):Sd:=(x.o,x.d)
noncomputable def tA(Z:Fx0)(q:Bool)(cs:List Ex):TA:=fun σ H Q=>∃E L r,Mt E σ L/\World Z.K H L/\qQ cs E=some r/\Xc Z σ H L r /\
 ∀E' ys,r=.ok E' ys->∀(xs:List Sl) L' H',xs.map Sl.sd=ys->Mt E' σ L'->World Z.K H' (xs.map some++L')->Step H L H' (xs.map some++L')->(q=true->jX H H'/\∀b∈j7 (xs.map some),H b=none)->Q (xs.map Sl.v) H'
def QA(X:Cx)(Z:Fx0)(q:Bool)(cs:List Ex)(es:List Expr):Prop:=PA X es (tA Z q cs)
theorem YK{X:Cx}{es:List Expr}{t t':TA}(h:PA X es t)(w:∀ σ H Q,t' σ H Q->t σ H Q):PA X es t':=λpos pins s σ H Q I q=>h pos pins s σ H Q I (w σ H Q q)
section
variable {X:Cx}{Z:Fx0}{pn:List Nat}{q:Bool}{c:Ex}{cs:List Ex}{e:Expr}{es:List Expr}{pos:Pos}{σ:L2.St}{H:Hp}{L:Ls}{E:En}
theorem jv:QA X Z true [] []:=YK vX fun σ H Q ak=>ex8 ak λE L r m w hc xc k=>by
 cases oq9 hc;exact k _ _ rfl [] L H rfl m w Step.refl λ_=>⟨λ_ _ z=>z,λ_ z=>(nomatch z)⟩
theorem j5(h:QE X Z q c e)(hs:QA X Z q cs es)(bq:autoParam (starEach (e::es) X.env=(false,eval e X.env)::starEach es X.env) Ŕ):QA X Z q (c::cs) (e::es):=
 YK (vz h hs bq) fun σ H Q ak=>ex8 ak λE L r m w hc xc k=>by
  refine Zk m w (show bnd (c E) _=some r from hc) xc λE1 s h1 x L1 H1 e1 e2 m1 w1 st sm=>?_
  have s1:Step H L H1 L1:=st.trans Step.drop;rcases wq h1 with⟨E2,ys,h2,h3⟩|⟨E2,cc,h2,h3⟩
  ·cases oq9 h3;refine⟨E1,L1,_,m1,w1.tail,h2,(λ_ _ z=>by cases z),λE' ys' z xs L2 H2 e3 m2 w2 bi d8=>?_⟩;injection z with z1 z2;subst z1 z2;obtain⟨w3,cz⟩:=YX (T:=[some x]) w1 bi w2;refine k _ _ rfl (x::xs) L2 H2 (by rw[List.map_cons,e3];simp[Sl.sd,e1,e2]) m2 w3 (st.trans cz) λhq=>?_
   obtain⟨a1,a2⟩:=sm hq;obtain⟨b1,b2⟩:=d8 hq;refine⟨kJ a1 b1,λb hb=>?_⟩;rw[List.map_cons,jw]at hb;rcases List.mem_append.mp hb with z|z
   ·exact a2 b z
   ·exact xK a1 (b2 b z)
  ·exact⟨E1,L1,_,m1,w1.tail,h2,(xc.step s1).map h3,λE' s' z=>by cases z⟩
end
section
variable {X:Cx}{Z:Fx0}{q:Bool}{cs:List Ex}{es:List Expr}{pos:Pos}{σ:L2.St}{H:Hp}{L:Ls}{E:En}{α:Type}
theorem jz9:∀{cs:List Ex} {E E':En} {ys:List Sd},qQ cs E=some (.ok E' ys)->ys.length=cs.length
 | [],E,E',ys,h=>by cases oq9 h;rfl
 | c::cs,E,E',ys,h=>by
  rcases wq (show bnd (c E) _=some _ from h)with⟨E1,x,h1,h2⟩|⟨_,_,_,z⟩
  ·rcases wq h2 with⟨E2,xs,h3,h4⟩|⟨_,_,_,z⟩
   ·cases oq9 h4;rw[Y0,Y0,jz9 h3]
   ·cases z
  ·cases z
theorem qx6{F:En->List Sd->Option (Res α)}{r:Res α}{G:List V->Hp->Prop}(m:Mt E σ L)(w:World Z.K H L)(h:bnd (qQ cs E) F=some r)(xc:Xc Z σ H L r)
  (k:∀E1 ys,F E1 ys=some r->ys.length=cs.length->∀(xs:List Sl) L1 H1,xs.map Sl.sd=ys->Mt E1 σ L1->World Z.K H1 (xs.map some++L1)->Step H L H1 (xs.map some++L1)->(q=true->jX H H1/\∀b∈j7 (xs.map some),H b=none)->G (xs.map Sl.v) H1):tA Z q cs σ H G:=by
 rcases wq h with⟨E1,s,h1,h2⟩|⟨E1,c,h1,h2⟩
 ·exact⟨E,L,_,m,w,h1,(λ_ _ z=>by cases z),λE' s' z xs L' H' e1 m' w' st sm=>by
   injection z with z1 z2;subst z1 z2;exact k _ _ h2 (jz9 h1) xs L' H' e1 m' w' st sm⟩
 ·exact⟨E,L,_,m,w,h1,xc.map h2,λE' s' z=>by cases z⟩
theorem jvr{K:PySem.W.Frag}{H:Hp}(g:Bool):∀{xs:List Sl},(∀x∈xs,x.ok K H)->(g=false->∀x∈xs,qJ x.sd=true)->∃bs,RepA K H g (xs.map Sl.d) (xs.map Sl.v) bs/\(∀b∈bs,∃x∈xs,b∈x.as)/\(g=false->bs=j7 (xs.map some))/\(g=true->bs=xs.flatMap Sl.as)
 | [],_,_=>⟨[],by unfold RepA;exact⟨rfl,rfl⟩,λ_ h=>(nomatch h),λ_=>rfl,λ_=>rfl⟩
 | x :: xs,h,ht=>by
  obtain⟨bs,r,hb,ho,hg⟩:=jvr g (xs:=xs) (λy hy=>h y (lc9 _ hy)) λhg y hy=>ht hg y (lc9 _ hy)
  have hx:=h x X5;have m4:∃cs,RepL K H g x.d x.v cs/\(∀b∈cs,b∈x.as)/\(g=false->cs=x.own)/\(g=true->cs=x.as):=by
   cases g with
   | true=>exact⟨x.as,RepO.wk hx,λb hb=>hb,(λz=>by cases z),λ_=>rfl⟩
   | false=>
    have t:=ht rfl x X5;unfold qJ at t
    by_cases ho:x.o=.dp
    ·refine⟨x.as,?_,λb hb=>hb,λ_=>?_,λz=>by cases z⟩
     ·have:=hx;unfold Sl.ok at this;rw[ho]at this;exact this
     ·unfold Sl.own;rw[ho]
    ·have hp:x.d.pure=true:=by
      rcases Bool.or_eq_true_iff.mp t with z|z
      ·exact absurd (by simpa using z) ho
      ·exact z
     obtain⟨z,rp⟩:=RepL.pu (g':=false) (RepO.wk hx) hp;exact⟨[],rp,λ_ h=>(nomatch h),λ_=>(qw4 z).symm,λz=>by cases z⟩
  obtain⟨cs,r1,h1,h2,h3⟩:=m4;refine⟨cs++bs,?_,λb cn=>?_,λjr=>?_,λjr=>?_⟩
  ·rw[List.map_cons,List.map_cons];unfold RepA;exact⟨x.v,xs.map Sl.v,cs,bs,rfl,rfl,r1,r⟩
  ·rcases List.mem_append.mp cn with z|z
   ·exact⟨x,X5,h1 b z⟩
   ·obtain⟨y,hy,hby⟩:=hb b z;exact⟨y,lc9 _ hy,hby⟩
  ·rw[List.map_cons,jw,h2 jr,ho jr]
  ·rw[List.flatMap_cons,h3 jr,hg jr]
theorem qkb{K:PySem.W.Frag}{H:Hp}{p:Addr}{xs:List Sl}{L:Ls}(w:World K H (xs.map some++L))(hp:H p=none):
  ∃bs,World K (upd H p (.lst (xs.map Sl.v))) (some ⟨.rt,.lst (xs.map Sl.d),.ref p,p::bs⟩::L)/\Step H (xs.map some++L) (upd H p (.lst (xs.map Sl.v))) (some ⟨.rt,.lst (xs.map Sl.d),.ref p,p::bs⟩::L):=by
 obtain⟨bs,r,hb,_,_⟩:=jvr true (xs:=xs) (λx hx=>w.ok x (ll9 _ (Xf hx))) (λz=>by cases z);have ap:∀b∈bs,b∉j7 L:=λb cn hL=>by
  obtain⟨x,hx,eg⟩:=hb b cn;rcases Sl.as_of eg with z|z
  ·have nd:=w.nd;rw[jK,X6]at nd;exact nd.2.2 b (mem_owned.mpr ⟨x,Xf hx,z⟩) b hL rfl
  ·exact w.ds b (by rw[jK];exact lr9 _ hL) (by rw[kQ];exact ll9 _ (mem_frozen.mpr ⟨x,Xf hx,z⟩))
 have al:∀b∈bs,H b≠none:=λb cn=>by
  obtain⟨x,hx,eg⟩:=hb b cn;exact(w.ok x (ll9 _ (Xf hx))).some eg
 have sr:Src H (xs.map some++L) bs:=λb cn=>by
  obtain⟨x,hx,eg⟩:=hb b cn;rcases Sl.as_of eg with z|z
  ·exact .inr (.inl (by rw[jK];exact ll9 _ (mem_owned.mpr ⟨x,Xf hx,z⟩)))
  ·exact .inl (by rw[kQ];exact ll9 _ (mem_frozen.mpr ⟨x,Xf hx,z⟩))
 have o:Out K H (upd H p (.lst (xs.map Sl.v))) ⟨.rt,.lst (xs.map Sl.d),.ref p,p::bs⟩ bs:=QK hp r λb hb=>hb
 have st:Step H (xs.map some++L) H L:=⟨λ_ _ h _=>h,λa ha=>.inl (by rw[jK];exact lr9 _ ha),λa ha=>.inl (by rw[kQ];exact lr9 _ ha)⟩;exact⟨bs,JQ (Z:=⟨K,λ_=>none,λ_ _ _=>True⟩) w.right st o ap al sr⟩
theorem qka{K:PySem.W.Frag}{H:Hp}{p:Addr}{xs:List Sl}{L:Ls}(w:World K H (xs.map some++L))(hp:H p=none):
  ∃bs,World K (upd H p (.tup (xs.map Sl.v))) (some ⟨.no,.tup (xs.map Sl.d),.ref p,bs⟩::L)/\Step H (xs.map some++L) (upd H p (.tup (xs.map Sl.v))) (some ⟨.no,.tup (xs.map Sl.d),.ref p,bs⟩::L):=by
 obtain⟨bs,r,hb,_,_⟩:=jvr true (xs:=xs) (λx hx=>w.ok x (ll9 _ (Xf hx))) (λz=>by cases z);have ap:∀b∈bs,b∉j7 L:=λb cn hL=>by
  obtain⟨x,hx,eg⟩:=hb b cn;rcases Sl.as_of eg with z|z
  ·have nd:=w.nd;rw[jK,X6]at nd;exact nd.2.2 b (mem_owned.mpr ⟨x,Xf hx,z⟩) b hL rfl
  ·exact w.ds b (by rw[jK];exact lr9 _ hL) (by rw[kQ];exact ll9 _ (mem_frozen.mpr ⟨x,Xf hx,z⟩))
 have al:∀b∈bs,H b≠none:=λb cn=>by
  obtain⟨x,hx,eg⟩:=hb b cn;exact(w.ok x (ll9 _ (Xf hx))).some eg
 have sr:Src H (xs.map some++L) bs:=λb cn=>by
  obtain⟨x,hx,eg⟩:=hb b cn;rcases Sl.as_of eg with z|z
  ·exact .inr (.inl (by rw[jK];exact ll9 _ (mem_owned.mpr ⟨x,Xf hx,z⟩)))
  ·exact .inl (by rw[kQ];exact ll9 _ (mem_frozen.mpr ⟨x,Xf hx,z⟩))
 have o:Out K H (upd H p (.tup (xs.map Sl.v))) ⟨.no,.tup (xs.map Sl.d),.ref p,bs⟩ bs:=Z3 hp r λb hb=>hb
 have st:Step H (xs.map some++L) H L:=⟨λ_ _ h _=>h,λa ha=>.inl (by rw[jK];exact lr9 _ ha),λa ha=>.inl (by rw[kQ];exact lr9 _ ha)⟩;exact⟨bs,JQ (Z:=⟨K,λ_=>none,λ_ _ _=>True⟩) w.right st o ap al sr⟩
theorem kza{K:PySem.W.Frag}{H H':Hp}{xs:List Sl}{L:Ls}{d:D}{v:V}{ps:List Addr}(w:World K H (xs.map some++L))(ht:∀x∈xs,qJ x.sd=true)(hp:∀b∈ps,H b=none)(nd:ps.Nodup)(sm:jX H H')
  (rep:∀bs,RepA K H false (xs.map Sl.d) (xs.map Sl.v) bs->RepL K H' false d v (ps++bs)):
  World K H' (some ⟨.dp,d,v,ps++j7 (xs.map some)⟩::L)/\Step H (xs.map some++L) H' (some ⟨.dp,d,v,ps++j7 (xs.map some)⟩::L):=by
 obtain⟨bs,r,hb,ho,_⟩:=jvr false (xs:=xs) (λx hx=>w.ok x (ll9 _ (Xf hx))) (λ_=>ht);have e:=ho rfl;subst e;have w2:World K H' (xs.map some++L):=⟨λx hx=>RepO.kp (w.ok x hx) (Kp.of_same sm),w.nd,w.ds⟩;have ndx:=w.nd;rw[jK,X6]at ndx;have al:∀b∈j7 (xs.map some),H b≠none:=λb hb=>w.own_some (by rw[jK];exact ll9 _ hb)
 refine⟨w2.right.cons (x:=⟨.dp,d,v,ps++j7 (xs.map some)⟩) (rep _ r) ?_ (λa ha hL=>?_) (λa ha hf=>?_) (λa ha=>(nomatch ha)) (λa ha=>λz=>(nomatch z)),⟨λa ob h _=>sm a ob h,λa ha=>?_,λa ha=>?_⟩⟩
 ·show(ps++j7 (xs.map some)).Nodup;rw[X6];exact⟨nd,ndx.1,λa ha b hb e=>by subst e;exact al a hb (hp a ha)⟩
 ·rcases List.mem_append.mp (show a∈ps++j7 (xs.map some)from ha)with z|z
  ·exact w.own_some (by rw[jK];exact lr9 _ hL) (hp a z)
  ·exact ndx.2.2 a z a hL rfl
 ·rcases List.mem_append.mp (show a∈ps++j7 (xs.map some)from ha)with z|z
  ·exact w.frz_some (by rw[kQ];exact lr9 _ hf) (hp a z)
  ·exact w.ds a (by rw[jK];exact ll9 _ z) (by rw[kQ];exact lr9 _ hf)
 ·rw[jw]at ha;rcases List.mem_append.mp ha with z|z
  ·rcases List.mem_append.mp (show a∈ps++j7 (xs.map some)from z)with y|y
   ·exact .inr (hp a y)
   ·exact .inl (by rw[jK];exact ll9 _ y)
  ·exact .inl (by rw[jK];exact lr9 _ z)
 ·rw[kq]at ha;exact .inl (by rw[kQ];exact lr9 _ ha)
theorem vko{xs:List Sl}{ys:List Sd}(h:xs.map Sl.sd=ys):xs.map Sl.d=ys.map (·.2):=by rw[<-h,Yh];rfl
theorem kvd{xs:List Sl}{ys:List Sd}(h:xs.map Sl.sd=ys)(ht:ys.all qJ=true):∀x∈xs,qJ x.sd=true:=λx hx=>by
 rw[<-h,List.all_map,List.all_eq_true]at ht;exact ht x hx
theorem kvo{o:Own}{xs:List Sl}{ys:List Sd}{E':En}{r:Res Sd}{L':Ls}{H1:Hp}{Q:VK}{Hq:Hp}{Lq:Ls}(h:mkL o E' ys=some r)(e:xs.map Sl.sd=ys)(w:World Z.K H1 (xs.map some++L'))(st:Step Hq Lq H1 (xs.map some++L'))(sm:q=true->jX Hq H1/\∀b∈j7 (xs.map some),Hq b=none)
  (k:∀E'' a,r=.ok E'' a->∀(x:Sl) L'' H',x.o=a.1->x.d=a.2->Mt E'' σ L''->World Z.K H' (some x::L'')->Step Hq Lq H' (some x::L'')->(q=true->jX Hq H'/\∀b∈x.own,Hq b=none)->Q x.v H') (m:Mt E' σ L'):
  ∀ p,H1 p=none->Q (.ref p) (upd H1 p (.lst (xs.map Sl.v))):=by
 intro p hp;unfold mkL at h
 by_cases ho:o=.dp
 ·rw[Xb ho]at h
  by_cases ht:ys.all qJ=true
  ·rw[Xb ht]at h;cases oq9 h;obtain⟨w2,s2⟩:=kza (d:=.lst (xs.map Sl.d)) (v:=.ref p) (ps:=[p]) w (kvd e ht) (λb hb=>by rw[List.mem_singleton.mp hb];exact hp) (by simp) (wJ (o:=.lst (xs.map Sl.v)) hp) (λbs r=>by
    unfold RepL;exact⟨p,_,bs,rfl,r.kp (Kp.of_same (wJ hp)),.inl ⟨xk,rfl⟩⟩)
   refine k _ _ rfl ⟨.dp,.lst (xs.map Sl.d),.ref p,_⟩ L' _ rfl (by rw[vko e]) m w2 (st.trans s2) λhq=>⟨kJ (sm hq).1 (wJ hp),λb hb=>?_⟩
   rcases List.mem_append.mp (show b∈[p]++j7 (xs.map some)from hb)with z|z
   ·rw[List.mem_singleton.mp z];exact xK (sm hq).1 hp
   ·exact(sm hq).2 b z
  ·rw[Xj ht]at h;cases h
 ·rw[Xj ho]at h;cases oq9 h;obtain⟨bs,w2,s2⟩:=qkb w hp;refine k _ _ rfl ⟨.rt,.lst (xs.map Sl.d),.ref p,p::bs⟩ L' _ rfl (by rw[vko e]) m w2 (st.trans s2) λhq=>⟨kJ (sm hq).1 (wJ hp),λb hb=>?_⟩
  have:b=p:=by simpa [Sl.own]using hb
  rw[this];exact xK (sm hq).1 hp
theorem qxp{xs:List Sl}{ys:List Sd}{n:Nat}(h:xs.map Sl.sd=ys)(hl:ys.length=n)(hz:n<=1000):(xs.map Sl.v).length<=sizeLine:=by
 have:xs.length=n:=by rw[<-hl,<-h,X3]
 rw[X3,this];exact Y1 hz (by decide)
theorem wK{o:Own}(h:QA X Z q cs es)(hz:autoParam (cs.length<=1000) ŕ):QE X Z q (k5 o cs) (.List es pos):=kK (qzv h) fun σ H Q ak=>ex8 ak λE L r m w hc xc k=>
 qx6 m w (show bnd (qQ cs E) _=some r from hc) xc λE1 ys h1 hl xs L1 H1 e1 m1 w1 st sm=>⟨qxp e1 hl hz,kvo (o:=o) (E':=E1) (ys:=ys) (by unfold mkL;exact h1) e1 w1 st sm k m1⟩
theorem qz{o:Own}{x1}(h:QA X Z q cs es)(hz:autoParam (cs.length<=1000) ŕ):QE X Z q (k3 o cs) (.Tuple es x1 pos):=kK (qzs h) fun σ H Q ak=>ex8 ak λE L r m w hc xc k=>
 qx6 m w (show bnd (qQ cs E) _=some r from hc) xc λE1 ys h1 hl xs L1 H1 e1 m1 w1 st sm=>⟨qxp e1 hl hz,λp hp=>by
  by_cases ho:o=.dp
  ·rw[Xb ho]at h1
   by_cases ht:ys.all qJ=true
   ·rw[Xb ht]at h1;cases oq9 h1;obtain⟨w2,s2⟩:=kza (d:=.tup (xs.map Sl.d)) (v:=.ref p) (ps:=[]) w1 (kvd e1 ht) (λb hb=>(nomatch hb)) (by simp) (wJ (o:=.tup (xs.map Sl.v)) hp) (λbs r=>by
     unfold RepL;exact⟨p,_,rfl,SqT.of xk,r.kp (Kp.of_same (wJ hp))⟩)
    exact k _ _ rfl ⟨.dp,.tup (xs.map Sl.d),.ref p,_⟩ L1 _ rfl (by rw[vko e1]) m1 w2 (st.trans s2) λhq=>⟨kJ (sm hq).1 (wJ hp),λb hb=>(sm hq).2 b hb⟩
   ·rw[Xj ht]at h1;cases h1
  ·rw[Xj ho]at h1;cases oq9 h1;obtain⟨bs,w2,s2⟩:=qka w1 hp;exact k _ _ rfl ⟨.no,.tup (xs.map Sl.d),.ref p,bs⟩ L1 _ rfl (by rw[vko e1]) m1 w2 (st.trans s2) λhq=>⟨kJ (sm hq).1 (wJ hp),λb hb=>(nomatch hb)⟩⟩
end
noncomputable def spF(K:PySem.W.Frag)(mg:Str->Option Value)(n:Nat)(f:Fn):Sp:=λvs H Q E=>∃(xs:List Sl) (r:Res Sd),vs=xs.map Sl.v/\xs.length=n/\World K H (xs.map some)/\f (xs.map Sl.sd)=some r /\
 (∀E' c,r=.exc E' c->∀C H',mg c=some (.ref C)->Step H (xs.map some) H' []->E (.ref C) none H') /\
 ∀E' a,r=.ok E' a->∀(x:Sl) H',x.o=a.1->x.d=a.2->World K H' [some x]->Step H (xs.map some) H' [some x]->Q x.v H'
theorem v9{K:PySem.W.Frag}{mg:Str->Option Value}{n:Nat}{f:Fn}{ps:List Str}(hn:ps.length=n):∀vs H Q E,spF K mg n f vs H Q E->vs.length=ps.length:=λvs H Q E ⟨xs,r,e,hl,_⟩=>by rw[e,X3,hl,hn]
theorem kjw:∀(xs:List Sl) (k:Nat),Mt (xs.map (λx=>some x.sd)++List.replicate k none) (xs.map (λx=>some x.v)++List.replicate k none) (xs.map some++List.replicate k none)
 |[],0=>.nil
 |[],k+1=>by
  rw[List.map_nil,List.map_nil,List.map_nil,List.replicate_succ,List.replicate_succ,List.replicate_succ];exact .un (kjw [] k)
 |x::xs,k=>.cons (x:=x) (kjw xs k)
theorem vw{X:Cx}{K:PySem.W.Frag}{mg:Str->Option Value}{N:List Str}{n nn:Nat}{B:Sm}{body:List Stmt}{H:Hp}{vs:List V}{Q:VK}{E:XK}(hN:N.length=nn)(t:QSs X ⟨K,mg,E⟩ [] B body)(h:spF K mg n (fn nn B) vs H Q E):
  ∃t,PSs X body t/\t { nx:=λ_ H'=>Q .non H',rt:=Q } (L2.start N vs) H:=by
 refine⟨_,t,?_⟩;obtain⟨xs,r,rfl,hl,w,hf,hx,hk⟩:=h;unfold fn at hf;rw[X3,Yh]at hf;have m:=kjw xs (nn - xs.length);have e1:L2.start N (xs.map Sl.v)=xs.map (λx=>some x.v)++List.replicate (nn - xs.length) none:=by
  unfold L2.start;rw[Yh,X3,hN];rfl
 have wL:World K H (xs.map some++List.replicate (nn - xs.length) none):=w.same (by simp);have sL:Step H (xs.map some) H (xs.map some++List.replicate (nn - xs.length) none):=Step.refl.same (List.Perm.refl _) (by simp);cases hB:B (xs.map (λx=>some x.sd)++List.replicate (nn - xs.length) none)with
 | none=>rw[show(some∘Sl.sd)=(λx:Sl=>some x.sd)from rfl,hB]at hf;cases hf
 | some g=>
  rw[show(some∘Sl.sd)=(λx:Sl=>some x.sd)from rfl,hB]at hf;refine⟨_,_,g,e1▸m,wL,hB,?_⟩;cases g with
  |nx E1=>
   cases oq9 hf;intro σ' L' H' _ m' w' s';exact hk _ _ rfl ⟨.dp,.non,.non,[]⟩ H' rfl rfl (World.consPu (x:=⟨.dp,.non,.non,[]⟩) (L:=[]) ⟨λ_ z=>(nomatch z),Xu,λ_ z=>(nomatch z)⟩ (show RepL K H' false .non .non []from kxa) rfl) (Q4 (x:=⟨.dp,.non,.non,[]⟩) ((sL.trans s').sub (by simp)) (λb hb=>(nomatch hb)) rfl)
  |rt E1 a=>
   cases oq9 hf;intro x σ' L' H' e2 e3 _ m' w' s';exact hk _ _ rfl x H' e2 e3 (w'.sub (by simp)) ((sL.trans s').sub (by simp))
  |xc E1 c=>
   cases oq9 hf;intro C σ' L' H' hm _ m' w' s';exact hx _ _ rfl C H' hm ((sL.trans s').sub (by simp))
  |ct E1=>cases hf
  |bk E1=>cases hf
section
variable {X:Cx}{Z:Fx0}{q:Bool}{cs:List Ex}{e:Expr}{es:List Expr}{pos p:Pos}{x:Str}{ps:List Str}{k n:Nat}{f:Fn}
theorem J6:∀xs:List Sl,j7 ((xs.map Sl.let).map some)=[]
 |[]=>rfl
 |x::xs=>by rw[List.map_cons,List.map_cons,jw,J6 xs];rfl
theorem jw3:∀xs:List Sl,jJ ((xs.map Sl.let).map some)=xs.flatMap Sl.as
 |[]=>rfl
 |x::xs=>by rw[List.map_cons,List.map_cons,kq,jw3 xs,List.flatMap_cons];rfl
theorem kzd(xs:List Sl):(xs.map Sl.let).map Sl.sd=letAll (xs.map Sl.sd):=by
 unfold letAll;rw[Yh,Yh];rfl
theorem kw8{K:PySem.W.Frag}{H:Hp}{xs:List Sl}{L:Ls}(w:World K H (xs.map some++L)):World K H ((xs.map Sl.let).map some++L)/\Step H (xs.map some++L) H ((xs.map Sl.let).map some++L):=by
 have nd:=w.nd;rw[jK,X6]at nd;have cl:∀a∈xs.flatMap Sl.as,a∈j7 (xs.map some)\/a∈jJ (xs.map some):=λa ha=>by
  obtain⟨x,hx,hax⟩:=List.mem_flatMap.mp ha;exact(Sl.as_of hax).imp (λz=>mem_owned.mpr ⟨x,Xf hx,z⟩) λz=>mem_frozen.mpr ⟨x,Xf hx,z⟩
 refine⟨⟨λx hx=>?_,by rw[jK,J6];exact nd.2.1,λa ha hf=>?_⟩,λ_ _ h _=>h,λa ha=>?_,λa ha=>?_⟩
 ·rcases List.mem_append.mp hx with hx|hx
  ·obtain⟨y,hy,e⟩:=List.mem_map.mp hx;cases e;obtain⟨z,hz,rfl⟩:=List.mem_map.mp hy;exact Kj (w.ok z (ll9 _ (Xf hz)))
  ·exact w.ok x (lr9 _ hx)
 ·rw[jK,J6]at ha;rw[kQ,jw3]at hf;rcases List.mem_append.mp hf with z|z
  ·rcases cl a z with z|z
   ·exact nd.2.2 a z a ha rfl
   ·exact w.ds a (by rw[jK];exact lr9 _ ha) (by rw[kQ];exact ll9 _ z)
  ·exact w.ds a (by rw[jK];exact lr9 _ ha) (by rw[kQ];exact lr9 _ z)
 ·rw[jK,J6]at ha;exact .inl (by rw[jK];exact lr9 _ ha)
 ·rw[kQ,jw3]at ha;rw[kQ,jK];rcases List.mem_append.mp ha with z|z
  ·rcases cl a z with z|z
   ·exact .inr (.inl (ll9 _ z))
   ·exact .inl (ll9 _ z)
  ·exact .inl (lr9 _ z)
theorem kxl(D:kz X.prog X.w X.K X.mg X.base k x ps (spF Z.K Z.mg n f))(hr:Room k X.A)(g:z9 X Z.EX)(ha:QA X Z q cs (e::es))(hn:autoParam (cs.length=n) Ŕ)(hg:autoParam (Gl X x) Ŕ)(dq:autoParam ((x==("__debug__":Str))=false) ŕ)
  (he:autoParam (starEach (e::es) X.env=(false,eval e X.env)::starEach es X.env) Ŕ) (bg:autoParam ((backTo pos (starEach es X.env)).any (·.1)=false) Ŕ):
  QE X Z q (jW f cs) (.Call (.Name x p) (e::es) [] pos):=kK (qq9 D hr g ha hg dq he bg) fun σ H Q ak=>ex8 ak λE L r m w hc xc kk=>
 qx6 m w (show bnd (qQ cs E) _=some r from hc) xc λE1 ys h1 hl xs L1 H1 e1 m1 w1 st sm=>by
  rw [Xr];have ag:xs.length=n:=by rw[<-hn,<-hl,<-e1,X3]
  cases hf:f (letAll ys)with
  | none=>rw[hf]at h1;cases h1
  | some fr=>
   rw[hf]at h1;obtain⟨wl,sl⟩:=kw8 w1;have ev:xs.map Sl.v=(xs.map Sl.let).map Sl.v:=by rw[Yh];rfl
   rw[ev];refine⟨xs.map Sl.let,fr,rfl,by rw[X3];exact ag,wl.left,by rw[<-e1]at hf;rw[kzd];exact hf,λE' c ee C H' hm s'=>?_,λE' a ee y H' e2 e3 w' s'=>?_⟩
   ·subst ee;cases oq9 h1;obtain⟨w2,s2⟩:=stay wl s' ⟨λ_ z=>(nomatch z),Xu,λ_ z=>(nomatch z)⟩;exact xc _ _ rfl C L1 H' hm m1 w2 ((st.trans sl).trans s2)
   ·subst ee;cases oq9 h1;obtain⟨w2,s2⟩:=stay wl s' w';refine kk _ _ rfl y L1 H' e2 e3 m1 w2 ((st.trans sl).trans s2) λhq=>?_
    obtain⟨a1,a2⟩:=sm hq;refine⟨λb ob hb=>s'.keep b ob (a1 b ob hb) λz=>?_,λb hb=>?_⟩
    ·rw[J6]at z;exact nomatch z
    ·rcases s'.own b (by rw[jw];exact ll9 _ hb)with z|z
     ·rw[J6]at z;exact nomatch z
     ·exact xK a1 z
end
noncomputable def qz7(K:PySem.W.Frag):R2:=λx y H Q=>∃l k xs,x=.ref l/\y=.int k/\LsR K H l xs/\-(2 ^ 63)<=k/\k<2 ^ 63/\xs.length*k.toNat<=sizeLine /\
 ∀p,H p=none->Q (.ref p) (upd H p (.lst (List.replicate k.toNat xs).flatten))
theorem op_repR{X:Cx}:OpR X (binaryOp .Mult) (qz7 X.K):=by
 intro pins s σ H x y v u Q I rx ry h;obtain⟨l,k,xs,rfl,rfl,hH,h1,h2,hz,q⟩:=h;cases rx;obtain⟨t,rfl⟩:=ry;obtain⟨z,aa,n,r,e⟩:=hH.is I;have hl:=r.length;have ag:aa.toArray.size*k.toNat<=sizeLine:=by rw[X4,<-hl];exact hz
 have hcap:¬aa.toArray.size*k.toNat>(2 ^ 63 - 1) / 8:=by
  have:(sizeLine:Nat)<=(2 ^ 63 - 1) / 8:=by decide
  omega
 have hfit:¬(!Builtin.List.listFitsIndex k)=true:=by
  rw[fitsIndex_both h1 h2];exact Bool.false_ne_true
 have n8:¬Builtin.List.listTooLong (aa.toArray.size*k.toNat)=true:=by
  rw[qk7 ag];exact Bool.false_ne_true
 have i4:List.foldl (λx1 x2=>x1++x2) #[] (List.replicate (if aa.toArray.isEmpty=true then 0 else k.toNat) aa.toArray)=(List.replicate k.toNat aa).flatten.toArray:=by
  have f0:∀m:Nat,List.foldl (λx1 x2=>x1++x2) #[] (List.replicate m aa.toArray)=(List.replicate m aa).flatten.toArray:=λm=>by
   have:=jz3 aa m [];rw[List.nil_append]at this;exact this
  rw[f0];cases aa with
  |nil=>simp
  |cons a r'=>rw[Xj (by simp)]
 refine wpAny_binaryOp_repeat_ref (T:="list") (U:="int") (by decide) ⟨_,e,rfl⟩ (λs'=>typeIs_int s' k t) noFill_list_mul F.fills_int_mul F.slot_int_rmul repeat_list F.slot_int_index.lookup
  (call_meets F.slot_int_rmul (typeIs_int s k t) F.entry_int_rmul (F.args_int_rmul_2 _ _) (int___rmul___int_list k t l aa.toArray n)
   ⟨e,rfl,⟨_,e,rfl⟩,call_meets F.slot_list_mul ⟨_,e,rfl⟩ F.entry_list_mul (F.args_list_mul_2 _ _) (AutoListH.list___mul___list_int_3 l aa.toArray n k t hfit hcap n8) ⟨e,?_⟩⟩)
 rw[i4];exact⟨.ref _,_,I.lnew (t':=s.toks) (r.rep k.toNat) (by rw[kzg,Nat.mul_comm];exact hz),rfl,q _ I.fresh⟩
def qve(K:PySem.W.Frag):R2:=λx y H Q=>rI IntMulOk (λi j=>.int (i*j)) x y H Q\/qz7 K x y H Q\/qz6 x y H Q
theorem vj6{X:Cx}{K:PySem.W.Frag}(hK:autoParam (X.K=K) Ŕ):OpR X (binaryOp .Mult) (qve K):=by subst hK;exact op_mulI.or (op_repR.or qw5)
theorem kvp{a:Int}(h:a.natAbs.log2<2000000):Builtin.Int.intBits a<=2000000:=by
 unfold Builtin.Int.intBits
 split
 ·exact Nat.zero_le _
 ·omega
theorem mulOk_of{a b:Int}(h:JV a b=true):IntMulOk a b:=by
 unfold JV Z1 at h;simp only[Bool.or_eq_true,Bool.and_eq_true,decide_eq_true_eq]at h;rcases h with(h|h)|h
 ·exact .of_left (intBits_le_64 h.1 h.2)
 ·exact .of_right (intBits_le_64 h.1 h.2)
 ·have h1:=kvp h.1;have h2:=kvp h.2;unfold IntMulOk Builtin.Int.intTooBig;have e:(2:Nat) ^ 27=134217728:=by decide
  have hb:bitsLine=134217728:=e;simp only[Bool.and_eq_true,decide_eq_true_eq,not_and];intro _ _;omega
theorem RepA.reps{K:PySem.W.Frag}{H:Hp}{ds:List D}{xs:List V}{bs:List Addr}(h:RepA K H true ds xs bs):∀k:Nat,∃cs,RepA K H true (List.replicate k ds).flatten (List.replicate k xs).flatten cs/\∀b∈cs,b∈bs
 |0=>⟨[],by simp only[List.replicate_zero,List.flatten_nil];unfold RepA;exact⟨rfl,rfl⟩,λ_ z=>(nomatch z)⟩
 |k+1=>by
  obtain⟨cs,r,hc⟩:=RepA.reps h k;rw[List.replicate_succ,List.replicate_succ,Yl,Yl];exact⟨bs++cs,r.app h,λb hb=>(List.mem_append.mp hb).elim id (hc b)⟩
theorem qqu{K:PySem.W.Frag}:Ad2 K (qve K) KW:=by
 intro H x y s Q ox oy hf k;unfold KW at hf;dsimp only at hf
 split at hf
 ·rename_i i j e1 e2
  split at hf
  ·rename_i hm;cases oq9 hf;exact .inl ⟨i,j,qK ox e1,qK oy e2,mulOk_of hm,k ⟨.dp,.int _,.int _,[]⟩ H rfl rfl K2⟩
  ·cases hf
 ·rename_i a n e1 e2
  split at hf
  ·rename_i hc;cases oq9 hf;obtain⟨l,xs,bs,e3,q3,r3,h3⟩:=zj ox (.inl e1) hc.2.2.2;have q3:LsR K H l xs:=by rcases q3 with⟨_,z⟩|⟨z,_⟩;exact z;rw[e1]at z;cases z
   obtain⟨cs,r4,h4⟩:=r3.reps n.toNat;refine .inr (.inl ⟨l,n,xs,e3,qK oy e2,q3,hc.1,hc.2.1,by rw[<-r3.len];exact hc.2.2.1,λp hp=>?_⟩);exact k ⟨.rt,.lst _,.ref p,p::cs⟩ _ rfl rfl (QK hp r4 λb hb=>ll9 _ (h3 b (h4 b hb)))
  ·cases hf
 ·rename_i z n e1 e2
  split at hf
  ·rename_i hc;cases oq9 hf;exact .inr (.inr ⟨z,n,(wZ ox e1).1,qK oy e2,hc.1,k ⟨.dp,.str _,.str _,[]⟩ H rfl rfl (vqq hc.2)⟩)
  ·cases hf
 ·cases hf
def dec(h:Heap)(u:Value):D:=open Classical in if e:∃d,jx h d u then e.choose else .non
theorem WJ{h:Heap}{u:Value}{d:D}(r:jx h d u):dec h u=d:=by
 unfold dec;have e:∃d,jx h d u:=⟨d,r⟩;rw[dif_pos e];exact kk2 e.choose_spec r
theorem Yx{h:Heap}{d:D}:∀{ds:List D} {us:List Value},CReps h ds us->us.any (λu=>peq (dec h u) d)=ds.any λz=>peq z d
 |[],_,r=>by unfold CReps at r;rw[r];rfl
 |z::ds,_,r=>by
  unfold CReps at r;obtain⟨u,rr,rfl,h1,h2⟩:=r;rw[List.any_cons,List.any_cons,WJ h1,Yx h2]
theorem ZK{h:Heap}:∀{ds:List D} {us:List Value} {u:Value},CReps h ds us->u∈us->∃d∈ds,jx h d u
 | [],_,_,r,hu=>by unfold CReps at r;rw[r]at hu;cases hu
 | z::ds,_,u,r,hu=>by
  unfold CReps at r;obtain⟨u',rr,rfl,h1,h2⟩:=r;rcases List.mem_cons.mp hu with rfl|hu
  ·exact⟨z,X5,h1⟩
  ·obtain⟨d,hd,c⟩:=ZK h2 hu;exact⟨d,lc9 _ hd,c⟩
theorem jwd:∀{n:Nat} {ds:List D} {d:D},D.flats n ds=true->d∈ds->d.flat n=true
 |_,[],_,_,h=>by cases h
 |n,z::ds,d,f,h=>by
  unfold D.flats at f;rw[Bool.and_eq_true]at f;rcases List.mem_cons.mp h with rfl|h
  ·exact f.1
  ·exact jwd f.2 h
section
variable {X:Cx}{Z:Fx0}{K:PySem.W.Frag}{q qa qb:Bool}{a b c:Ex}{u v:Ts}{e ea eb:Expr}{es:List Expr}{pos p:Pos}{σ:L2.St}{H:Hp}{L:Ls}{E:En}
noncomputable def kxh(K:PySem.W.Frag)(ii:Bool):R2:=λx y H Q=>∃d ds as bs p xs,RepL K H true d x as/\y=.ref p/\(SqL K H p xs\/SqT K H p xs)/\RepA K H true ds xs bs/\d.flat 30=true/\D.flats 30 ds=true/\Q (.bl (if ii then !(ds.any λz=>peq z d)else ds.any λz=>peq z d)) H
theorem qw9(hu:X.A.units+64<cLine):OpR X (compareOp .In) (kxh X.K false):=by
 intro pins s σ H x y v u Q I rx ry h;obtain⟨d,ds,as,bs,p,xs,h1,rfl,hq,ra,f1,f2,q⟩:=h;cases ry;have c1:=K7 I h1 f1 rx;have he:∀{us:List Value},CReps s.heap ds us->∀w,w∈us.toArray->SeqAt.EqAt X.A.in1 s w v (peq (dec s.heap w) d):=fun {us} cr w hw=>by
  obtain⟨d',hd,c⟩:=ZK cr (by simpa using hw);rw[WJ c];exact Vv 30 (jwd f2 hd) c c1 (by have:=L3.in1_units X.A;omega)
 rcases hq with hq|hq
 ·obtain⟨aa,r,pl,hz⟩:=I.list hq;have cr:=creps_of I ra f2 r;refine SeqAt.in_listAt _ pl.isList (he cr) ⟨.bl _,H,I,rfl,?_⟩;rw[List.any_toArray,Yx cr];exact q
 ·obtain⟨aa,r,pl,hz⟩:=I.tuple hq;have cr:=creps_of I ra f2 r;refine SeqAt.in_tupleAt _ pl (he cr) ⟨.bl _,H,I,rfl,?_⟩;rw[List.any_toArray,Yx cr];exact q
theorem kwh(hu:X.A.units+64<cLine):OpR X (compareOp .NotIn) (kxh X.K true):=by
 intro pins s σ H x y v u Q I rx ry h;obtain⟨d,ds,as,bs,p,xs,h1,rfl,hq,ra,f1,f2,q⟩:=h;cases ry;have c1:=K7 I h1 f1 rx;have he:∀{us:List Value},CReps s.heap ds us->∀w,w∈us.toArray->SeqAt.EqAt X.A.in1 s w v (peq (dec s.heap w) d):=fun {us} cr w hw=>by
  obtain⟨d',hd,c⟩:=ZK cr (by simpa using hw);rw[WJ c];exact Vv 30 (jwd f2 hd) c c1 (by have:=L3.in1_units X.A;omega)
 rcases hq with hq|hq
 ·obtain⟨aa,r,pl,hz⟩:=I.list hq;have cr:=creps_of I ra f2 r;refine SeqAt.notIn_listAt _ pl.isList (he cr) ⟨.bl _,H,I,rfl,?_⟩;rw[List.any_toArray,Yx cr];exact q
 ·obtain⟨aa,r,pl,hz⟩:=I.tuple hq;have cr:=creps_of I ra f2 r;refine SeqAt.notIn_tupleAt _ pl (he cr) ⟨.bl _,H,I,rfl,?_⟩;rw[List.any_toArray,Yx cr];exact q
def kxg(ii:Bool):R2:=λx y H Q=>∃i j,x=.str i/\y=.str j/\Q (.bl (if ii then !vv9 i j else vv9 i j)) H
theorem opInStr:OpR X (compareOp .In) (kxg false):=λpins s σ H x y v u Q I rx ry ⟨i,j,e1,e2,q⟩=>kz1 pins s σ H x y v u Q I rx ry ⟨i,j,e1,e2,q⟩
theorem opNotInStr:OpR X (compareOp .NotIn) (kxg true):=λpins s σ H x y v u Q I rx ry ⟨i,j,e1,e2,q⟩=>kkq pins s σ H x y v u Q I rx ry ⟨i,j,e1,e2,q⟩
def WK(K:PySem.W.Frag)(ii:Bool):R2:=λx y H Q=>kxg ii x y H Q\/kxh K ii x y H Q
theorem qwa(hu:X.A.units+64<cLine)(hK:autoParam (X.K=K) Ŕ):OpR X (compareOp .In) (WK K false):=by subst hK;exact opInStr.or (qw9 hu)
theorem qk6(hu:X.A.units+64<cLine)(hK:autoParam (X.K=K) Ŕ):OpR X (compareOp .NotIn) (WK K true):=by subst hK;exact opNotInStr.or (kwh hu)
theorem JZ{H:Hp}{l:Addr}{xs:List V}(h:LsR K H l xs):SqL K H l xs:=h.sq
theorem kjz{x y:Sl}{ys:List D}{ii:Bool}{Q:VK}(ox:x.ok K H)(oy:y.ok K H)(hy:y.d=.lst ys\/y.d=.tup ys)(hc:(x.d.flat 30&&D.flats 30 ys)=true)
  (k:Q (.bl (if ii then !(ys.any λz=>peq z x.d)else ys.any λz=>peq z x.d)) H):WK K ii x.v y.v H Q:=by
 rw[Bool.and_eq_true]at hc;obtain⟨l,xs,bs,e3,q3,r3,_⟩:=items oy hy;have r3':RepA K H true ys xs bs:=by
  cases ho:(y.o != .dp)with
  |true=>rw[ho]at r3;exact r3
  |false=>rw[ho]at r3;exact r3.wk
 refine .inr ⟨x.d,ys,x.as,bs,l,xs,RepO.wk ox,e3,?_,r3',hc.1,hc.2,k⟩;rcases q3 with⟨_,z⟩|⟨_,z⟩
 ·exact .inl (JZ z)
 ·exact .inr z
theorem qx4:Ad2 K (WK K false) (pu2 xQ):=by
 intro H x y s Q ox oy hf k;unfold pu2 xQ fIn at hf;dsimp only at hf;cases hy:y.d with
 | lst ys=>
  rw[hy]at hf;dsimp only at hf
  split at hf
  ·rename_i hc;cases oq9 hf;exact kjz ox oy (.inl hy) hc (k ⟨.dp,.bl _,.bl _,[]⟩ H rfl rfl ww)
  ·cases hf
 | tup ys=>
  rw[hy]at hf;dsimp only at hf
  split at hf
  ·rename_i hc;cases oq9 hf;exact kjz ox oy (.inr hy) hc (k ⟨.dp,.bl _,.bl _,[]⟩ H rfl rfl ww)
  ·cases hf
 | str b=>
  rw[hy]at hf;dsimp only at hf
  split at hf
  ·rename_i a hx;cases oq9 hf;exact .inl ⟨a,b,(wZ ox hx).1,(wZ oy hy).1,k ⟨.dp,.bl _,.bl _,[]⟩ H rfl rfl ww⟩
  ·cases hf
 |_=>rw[hy]at hf;cases hf
theorem qkv:Ad2 K (WK K true) (pu2 V7):=by
 intro H x y s Q ox oy hf k;unfold pu2 V7 Z8 fIn at hf;dsimp only at hf;cases hy:y.d with
 | lst ys=>
  rw[hy]at hf;dsimp only at hf
  split at hf
  ·rename_i hc;cases oq9 hf;exact kjz ox oy (.inl hy) hc (k ⟨.dp,.bl _,.bl _,[]⟩ H rfl rfl ww)
  ·cases hf
 | tup ys=>
  rw[hy]at hf;dsimp only at hf
  split at hf
  ·rename_i hc;cases oq9 hf;exact kjz ox oy (.inr hy) hc (k ⟨.dp,.bl _,.bl _,[]⟩ H rfl rfl ww)
  ·cases hf
 | str b=>
  rw[hy]at hf;dsimp only at hf
  split at hf
  ·rename_i a hx;cases oq9 hf;exact .inl ⟨a,b,(wZ ox hx).1,(wZ oy hy).1,k ⟨.dp,.bl _,.bl _,[]⟩ H rfl rfl ww⟩
  ·cases hf
 |_=>rw[hy]at hf;cases hf
theorem jxe{g:Bool}{d:D}{v:V}{as:List Addr}(h:RepL K H g d v as):decide (v=.non)=isNon d:=by
 cases d with
 |non=>unfold RepL at h;rw[h.1];rfl
 |bl _=>unfold RepL at h;rw[h.1];rfl
 |int _=>unfold RepL at h;rw[h.1];rfl
 |str _=>unfold RepL at h;rw[h.1];rfl
 |tup _=>unfold RepL at h;obtain⟨a,xs,e,_⟩:=h;rw[e];rfl
 |lst _=>unfold RepL at h;obtain⟨a,xs,bs,e,_⟩:=h;rw[e];rfl
 |dct _=>unfold RepL at h;obtain⟨a,xs,bs,e,_⟩:=h;rw[e];rfl
 |obj _ _=>unfold RepL at h;obtain⟨_,x,o,C,e,_⟩:=h;rw[e];rfl
theorem QZ:Ad2 K (λx y H Q=>y=.non/\Q (.bl (decide (x=.non))) H) (f2First fIsNon):=by
 intro H x y s Q ox oy hf k;unfold f2First fIsNon at hf;dsimp only at hf
 split at hf
 ·rename_i hy;cases oq9 hf;have e:=jxe (RepO.wk oy);rw[hy]at e;refine⟨of_decide_eq_true e,?_⟩;rw[jxe (RepO.wk ox)];exact k ⟨.dp,.bl _,.bl _,[]⟩ H rfl rfl ww
 ·cases hf
theorem qx1:Ad2 K (λx y H Q=>y=.non/\Q (.bl (!decide (x=.non))) H) (f2First fNotNon):=by
 intro H x y s Q ox oy hf k;unfold f2First fNotNon at hf;dsimp only at hf
 split at hf
 ·rename_i hy;cases oq9 hf;have e:=jxe (RepO.wk oy);rw[hy]at e;refine⟨of_decide_eq_true e,?_⟩;rw[jxe (RepO.wk ox)];exact k ⟨.dp,.bl _,.bl _,[]⟩ H rfl rfl ww
 ·cases hf
theorem qqh(n:Nat)(i:Int):_root_.Q.ixN n i=L2.ixN n i:=rfl
theorem qwl{x y:Sl}{d:D}{Q:VK}(ox:x.ok K H)(oy:y.ok K H)(hf:kw x.d y.d=some d)(k:∀z:Sl,z.o=sub x.o->z.d=d->z.ok K H->(∀b∈z.frz,b∈x.frz)->(∀b∈z.as,b∈x.as)->Q z.v H):rIx K x.v y.v H Q:=by
 have seq:∀ds:List D,(x.d=.lst ds\/x.d=.tup ds)->∀i:Int,y.d=.int i->((_root_.Q.ixN ds.length i).bind λj=>ds[j]?)=some d->rIx K x.v y.v H Q:=by
  intro ds hx i hy hd;obtain⟨l,xs,bs,e3,q3,r3,h3,h4⟩:=items ox hx;cases hj:_root_.Q.ixN ds.length i with
  | none=>rw[hj]at hd;cases hd
  | some j=>
   rw [hj]at hd;obtain⟨v,cs,e4,r4,h5⟩:=r3.get (show ds[j]?=some d from hd);have cp:atI xs i=some v:=by
    unfold atI;rw[<-r3.len,<-qqh,hj];exact e4
   have fin:Q v H:=by
    cases ho:x.o with
    | dp=>
     rw[ho]at r4;exact k ⟨.dp,d,v,cs⟩ (by rw[ho];rfl) rfl r4 (λb hb=>(nomatch hb)) λb hb=>h3 b (h5 b hb)
    | no=>
     rw[ho]at r4;exact k ⟨.no,d,v,cs⟩ (by rw[ho];rfl) rfl r4 (λb hb=>h4 (by rw[ho];exact(λz=>nomatch z)) b (h5 b hb)) λb hb=>h3 b (h5 b hb)
    | rt=>
     rw[ho]at r4;exact k ⟨.no,d,v,cs⟩ (by rw[ho];rfl) rfl r4 (λb hb=>h4 (by rw[ho];exact(λz=>nomatch z)) b (h5 b hb)) λb hb=>h3 b (h5 b hb)
   rcases q3 with⟨_,z⟩|⟨_,z⟩
   ·exact .inl ⟨l,xs,i,v,e3,qK oy hy,JZ z,cp,fin⟩
   ·exact .inr (.inl ⟨l,xs,i,v,e3,qK oy hy,z,cp,fin⟩)
 unfold kw at hf;cases hx:x.d with
 | lst ds=>
  rw [hx]at hf;cases hy:y.d with
  | int i=>rw[hy]at hf;exact seq ds (.inl hx) i hy hf
  | _=>rw[hy]at hf;cases hf
 | tup ds=>
  rw [hx]at hf;cases hy:y.d with
  | int i=>rw[hy]at hf;exact seq ds (.inr hx) i hy hf
  | _=>rw[hy]at hf;cases hf
 | str z=>
  rw [hx]at hf;cases hy:y.d with
  | int i=>
   rw [hy]at hf;have hf:((_root_.Q.ixN z.cps.size i).bind λj=>(z.cps.toList[j]?).map λc=>D.str ⟨#[c]⟩)=some d:=hf;cases hj:_root_.Q.ixN z.cps.size i with
   | none=>rw[hj]at hf;cases hf
   | some j=>
    rw[hj]at hf;cases hc:z.cps.toList[j]? with
    | none=>rw[Option.bind_some,hc]at hf;cases hf
    | some c=>
     rw[Option.bind_some,hc]at hf;cases oq9 hf;have cp:atI z.cps.toList i=some c:=by
      unfold atI;rw[Yc,<-qqh,hj];exact hc
     obtain⟨e1,hz⟩:=wZ ox hx;refine .inr (.inr ⟨z,i,c,e1,qK oy hy,hz,cp,?_⟩);have rp:∀g,RepL K H g (.str ⟨#[c]⟩) (.str ⟨#[c]⟩) []:=λg=>Z7 (show(1:Nat)<=sizeLine by decide)
     cases ho:x.o with
     |dp=>exact k ⟨.dp,.str ⟨#[c]⟩,.str ⟨#[c]⟩,[]⟩ (by rw[ho];rfl) rfl (rp false) (λb hb=>(nomatch hb)) λb hb=>(nomatch hb)
     |no=>exact k ⟨.no,.str ⟨#[c]⟩,.str ⟨#[c]⟩,[]⟩ (by rw[ho];rfl) rfl (rp true) (λb hb=>(nomatch hb)) λb hb=>(nomatch hb)
     |rt=>exact k ⟨.no,.str ⟨#[c]⟩,.str ⟨#[c]⟩,[]⟩ (by rw[ho];rfl) rfl (rp true) (λb hb=>(nomatch hb)) λb hb=>(nomatch hb)
  |_=>rw[hy]at hf;cases hf
 |non=>rw[hx]at hf;cases hf
 |bl _=>rw[hx]at hf;cases hf
 |int _=>rw[hx]at hf;cases hf
 |dct _=>rw[hx]at hf;cases hf
 |obj _ _=>rw[hx]at hf;cases hf
theorem q_ix(ha:QV X Z qa a ea)(hb:QV X Z true b eb)(hs:Vq eb)(hK:autoParam (X.K=Z.K) Ŕ):QV X Z qa (j8 a b) (.Subscript ea eb pos):=
 kK (qk2 (hK▸kvu) ha hb hs) fun σ H Q ak=>ex8 ak λE L r m w hc xc k=>by
  refine v8 m w (show bnd (a E) _=some r from hc) xc λE1 s h1 x L1 H1 e1 e2 m1 w1 ok fr sr st sm=>?_
  refine v8 m1 w1 h1 (xc.step st) λE2 s2 h2 y L2 H2 e3 e4 m2 w2 gi fr2 sr2 bi d8=>?_
  obtain⟨z,hz,rfl⟩:=zJ h2;cases hf:kw s.2 s2.2 with
  |none=>rw[hf]at hz;cases hz
  |some d=>
   rw[hf]at hz;cases oq9 hz;have kx:=V8 ok fr bi (d8 rfl);refine qwl kx.1 gi (by rw[e2,e4];exact hf) λz zo zd ls zf za=>?_
   exact k _ _ rfl z L2 H2 (by rw[zo,e1]) zd m2 w2 ls (λb hb=>kx.2 b (zf b hb)) (YY sr za) (st.trans bi) λhq=>kJ (sm hq) (d8 rfl)
theorem qzi(ht:QT X Z q u e)(ha:QE X Z q a ea)(hb:QE X Z q b eb):QE X Z q (cIf u a b) (.IfExp e ea eb pos):=kK (qk4 ht ha hb) fun σ H Q ak=>ex8 ak λE L r m w hc xc k=>
 qjo m w (show bnd (u E) _=some r from hc) xc λE1 s h1 L1 H1 m1 w1 st sm=>by
  have fin:∀{c:Ex},c E1=some r->tQ Z q c σ H1 Q:=λhc=>⟨E1,L1,r,m1,w1,hc,xc.step st,λE' a z x L' H' e1 e2 m' w' cx en=>k E' a z x L' H' e1 e2 m' w' (st.trans cx) λhq=>⟨kJ (sm hq) (en hq).1,λb hb=>xK (sm hq) ((en hq).2 b hb)⟩⟩
  cases s with
  |true=>rw[Xb rfl]at h1 ⊢;exact fin h1
  |false=>rw[Xj (by decide)]at h1 ⊢;exact fin h1
theorem W8{op}(h:QE X Z q a ea):QE X Z q a (.BoolOp op [ea] pos):=qzt h
theorem Yz(ha:QV X Z q a ea)(hb:QE X Z q b (.BoolOp .And (eb::es) pos)):QE X Z q (zW a b) (.BoolOp .And (ea::eb::es) pos):=kK (qzz ha hb) fun σ H Q ak=>ex8 ak λE L r m w hc xc k=>
 v8 m w (show bnd (a E) _=some r from hc) xc λE1 s h1 x L1 H1 e1 e2 m1 w1 ok fr sr st sm=>by
  cases hs:s.2 with
  | bl kk=>
   rw[hs]at h1;refine⟨kk,Qz ok (e2.trans hs),?_⟩;cases kk with
   |true=>
    rw[Xb rfl];exact⟨E1,L1,r,m1,w1,h1,xc.step st,λE' a z x L' H' e1 e2 m' w' cx en=>k E' a z x L' H' e1 e2 m' w' (st.trans cx) λhq=>⟨kJ (sm hq) (en hq).1,λb hb=>xK (sm hq) ((en hq).2 b hb)⟩⟩
   |false=>
    rw[Xj (by decide)];cases oq9 h1;obtain⟨w3,cz⟩:=JQ w1 st (ww (K:=Z.K) (H:=H1) (i:=false) (fr:=[])) (λ_ z=>(nomatch z)) (λ_ z=>(nomatch z)) (λ_ z=>(nomatch z));exact k _ _ rfl ⟨.dp,.bl false,.bl false,[]⟩ L1 H1 rfl rfl m1 w3 cz λhq=>⟨sm hq,λ_ z=>(nomatch z)⟩
  |_=>rw[hs]at h1;cases h1
theorem q_or(ha:QV X Z q a ea)(hb:QE X Z q b (.BoolOp .Or (eb::es) pos)):QE X Z q (cOr a b) (.BoolOp .Or (ea::eb::es) pos):=kK (vqm ha hb) fun σ H Q ak=>ex8 ak λE L r m w hc xc k=>
 v8 m w (show bnd (a E) _=some r from hc) xc λE1 s h1 x L1 H1 e1 e2 m1 w1 ok fr sr st sm=>by
  cases hs:s.2 with
  | bl kk=>
   rw[hs]at h1;refine⟨kk,Qz ok (e2.trans hs),?_⟩;cases kk with
   |false=>
    rw[Xj (by decide)];exact⟨E1,L1,r,m1,w1,h1,xc.step st,λE' a z x L' H' e1 e2 m' w' cx en=>k E' a z x L' H' e1 e2 m' w' (st.trans cx) λhq=>⟨kJ (sm hq) (en hq).1,λb hb=>xK (sm hq) ((en hq).2 b hb)⟩⟩
   |true=>
    rw[Xb rfl];cases oq9 h1;obtain⟨w3,cz⟩:=JQ w1 st (ww (K:=Z.K) (H:=H1) (i:=true) (fr:=[])) (λ_ z=>(nomatch z)) (λ_ z=>(nomatch z)) (λ_ z=>(nomatch z));exact k _ _ rfl ⟨.dp,.bl true,.bl true,[]⟩ L1 H1 rfl rfl m1 w3 cz λhq=>⟨sm hq,λ_ z=>(nomatch z)⟩
  |_=>rw[hs]at h1;cases h1
theorem vvq{x:Sl}{k:Bool}(ok:x.ok K H)(h:truth x.d=some k)(hd:∀ai,x.d≠.dct ai):vkx K x.v H k:=by
 cases hx:x.d with
 |non=>rw[hx]at h;rw[qqc ok hx];exact(oq9 h).symm
 |bl b=>rw[hx]at h;rw[Qz ok hx];exact(oq9 h).symm
 |int i=>rw[hx]at h;rw[qK ok hx];exact(oq9 h).symm
 |str z=>
  rw[hx]at h;obtain⟨e,hz⟩:=wZ ok hx;rw[e];refine⟨hz,?_⟩;rw[<-oq9 h];show(z.cps.size != 0)=(((z.cps.size:Nat):Int) != 0);rw[Bool.eq_iff_iff];simp
 |lst ds=>
  rw[hx]at h;obtain⟨a,xs,bs,e,q,r,_⟩:=items ok (.inl hx);rw[e];have q':LsR K H a xs:=by rcases q with⟨_,z⟩|⟨z,_⟩;exact z;rw[hx]at z;cases z
  refine .inl ⟨xs,JZ q',?_⟩;rw[<-oq9 h];have:=r.len;cases ds<;>cases xs<;>simp_all
 |tup ds=>
  rw[hx]at h;obtain⟨a,xs,bs,e,q,r,_⟩:=items ok (.inr hx);rw[e];have q':SqT K H a xs:=by rcases q with⟨z,_⟩|⟨_,z⟩;rw[hx]at z;cases z;exact z
  refine .inr (.inl ⟨xs,q',?_⟩);rw[<-oq9 h];have:=r.len;cases ds<;>cases xs<;>simp_all
 |dct ai=>exact absurd hx (hd ai)
 |obj c f=>rw[hx]at h;cases h
theorem kkc{d:D}{k:Bool}(h:truthQ d=some k):truth d=some k/\∀ai,d≠.dct ai:=by
 cases d<;>first|exact⟨h,λ_ z=>nomatch z⟩|cases h
theorem xW(h:QV X Z q a ea)(he:autoParam (∀d9,isTrue ea X.env d9=(do let v <-d9;standAt ea.pos;holding [v] (truthy v))) Ŗ)(hK:autoParam (X.K=Z.K) Ŕ):QT X Z q (tEQ a) ea:=kxq (qjx h he) fun σ H Q ak=>ex8 ak λE L r m w hc xc k=>
 v8 m w (show bnd (a E) _=some r from hc) xc λE1 s h1 x L1 H1 e1 e2 m1 w1 ok fr sr st sm=>by
  obtain⟨kk,hk,rfl⟩:=zJ h1;obtain⟨h2,h3⟩:=kkc hk;exact⟨kk,hK▸vvq ok (by rw[e2];exact h2) (by rw[e2];exact h3),k _ _ rfl L1 H1 m1 w1 st sm⟩
theorem qvi(h:QV X Z q a ea)(hK:autoParam (X.K=Z.K) Ŕ):QE X Z q (Wq a) (.UnaryOp .Not ea pos):=by
 intro pins s σ H Q I ⟨E,L,r,m,w,hc,xc,k⟩;refine UnaryOp_ (thn (h pins s σ H _ I (v8 (G:=λv H1=>∃kk,vkx X.K v H1 kk/\Q (.bl (!kk)) H1) m w (show bnd (a E) _=some r from hc) xc λE1 s h1 x L1 H1 e1 e2 m1 w1 ok fr sr st sm=>?_)) λv s1 ⟨x,H1,I1,r1,kk,t1,q1⟩=>?_)
 ·obtain⟨y,hy,rfl⟩:=zJ h1;cases hk:truthQ s.2 with
  |none=>rw[hk]at hy;cases hy
  |some kk=>
   rw[hk]at hy;cases oq9 hy;obtain⟨h2,h3⟩:=kkc hk;refine⟨kk,hK▸vvq ok (by rw[e2];exact h2) (by rw[e2];exact h3),?_⟩;obtain⟨w3,cz⟩:=JQ w1 st (ww (K:=Z.K) (H:=H1) (i:=!kk) (fr:=[])) (λ_ z=>(nomatch z)) (λ_ z=>(nomatch z)) (λ_ z=>(nomatch z));exact k _ _ rfl ⟨.dp,.bl (!kk),.bl (!kk),[]⟩ L1 H1 rfl rfl m1 w3 cz λhq=>⟨sm hq,λ_ z=>(nomatch z)⟩
 ·exact not_of (thn (qkx pins s1 σ H1 x v (λkk H2=>Q (.bl (!kk)) H2) I1 r1 ⟨kk,t1,q1⟩) λc s2 ⟨H2,I2,q2⟩=>⟨.bl (!c),H2,I2,rfl,q2⟩)
end
theorem XX{α:Type}:∀{L:List α} {i:Nat} {q:α},L[i]?=some q->∃A B,L=A++q::B/\∀q',L.set i q'=A++q'::B
 |[],_,_,h=>by simp at h
 |a::L,0,q,h=>by
  have e:a=q:=by simpa using h
  subst e;exact⟨[],L,rfl,λ_=>rfl⟩
 |a::L,i+1,q,h=>by
  obtain⟨A,B,e,f⟩:=XX (L:=L) (i:=i) (by simpa using h);exact⟨a::A,B,by rw[e];rfl,λq'=>by rw[List.set_cons_succ,f];rfl⟩
section
variable {K:PySem.W.Frag}{H:Hp}{M T L:Ls}{y y':Sl}{l:Addr}{ob:HO}
theorem World.write(w:World K H (some y::(T++M)))(hl:l∈y.own)(ok':y'.ok K (upd H l ob))(nd:y'.own.Nodup)(h1:∀a∈y'.own,a∈y.own\/a∈j7 T)(h2:∀a∈y'.frz,a∈y.as\/a∈j7 T\/a∈jJ T)(h3:∀a∈y'.own,a∉y'.frz):
  World K (upd H l ob) (some y'::M)/\Step H (some y::(T++M)) (upd H l ob) (some y'::M):=by
 have wn:=w.nd;rw [jw,jK,X6,X6]at wn;obtain⟨n1,⟨n2,n3,n4⟩,n5⟩:=wn;have oy:l∈j7 (some y::(T++M)):=by rw[jw];exact ll9 _ hl
 have hal:=w.own_al oy;have ds:∀a,(a∈y.own\/a∈j7 T\/a∈j7 M)->¬(a∈y.frz\/a∈jJ T\/a∈jJ M):=λa ha hf=>by
  refine w.ds a ?_ ?_
  ·rw[jw,jK];rcases ha with z|z|z
   ·exact ll9 _ z
   ·exact lr9 _ (ll9 _ z)
   ·exact lr9 _ (lr9 _ z)
  ·rw[kq,kQ];rcases hf with z|z|z
   ·exact ll9 _ z
   ·exact lr9 _ (ll9 _ z)
   ·exact lr9 _ (lr9 _ z)
 have noM:∀z,some z∈M->l∉z.as:=λz hz ha=>by
  rcases Sl.as_of ha with q|q
  ·exact n5 l hl l (lr9 _ (mem_owned.mpr ⟨z,hz,q⟩)) rfl
  ·exact ds l (.inl hl) (.inr (.inr (mem_frozen.mpr ⟨z,hz,q⟩)))
 have ke:∀a o,H a=some o->a≠l->upd H l ob a=some o:=λa o e ne=>by rw[kZ ne];exact e
 have kp:∀as:List Addr,l∉as->Kp H (upd H l ob) as:=λas hn=>by
  refine⟨λa xs e=>ke a _ e λz=>?_,λa o u e=>ke a _ e λz=>?_,λa ha o e=>ke a o e λz=>hn (z▸ha)⟩
  ·subst z;rcases hal with⟨_,q⟩|⟨_,q⟩|⟨_,q⟩<;>(rw[e]at q;cases q)
  ·subst z;rcases hal with⟨_,q⟩|⟨_,q⟩|⟨_,q⟩<;>(rw[e]at q;cases q)
 have wM:World K (upd H l ob) M:=by
  have w1:World K H M:=w.tail.right;exact⟨λz hz=>RepO.kp (w1.ok z hz) (kp _ (noM z hz)),w1.nd,w1.ds⟩
 refine⟨wM.cons ok' nd (λa ha hM=>?_) (λa ha hM=>?_) (λa ha hM=>?_) h3,λa o e hn=>ke a o e λz=>hn (z▸oy),λa ha=>?_,λa ha=>?_⟩
 ·rcases h1 a ha with z|z
  ·exact n5 a z a (lr9 _ hM) rfl
  ·exact n4 a z a hM rfl
 ·rcases h1 a ha with z|z
  ·exact ds a (.inl z) (.inr (.inr hM))
  ·exact ds a (.inr (.inl z)) (.inr (.inr hM))
 ·rcases h2 a ha with z|z|z
  ·rcases Sl.as_of z with z|z
   ·exact n5 a z a (lr9 _ hM) rfl
   ·exact ds a (.inr (.inr hM)) (.inl z)
  ·exact n4 a z a hM rfl
  ·exact ds a (.inr (.inr hM)) (.inr (.inl z))
 ·rw[jw]at ha;rw[jw,jK];rcases List.mem_append.mp ha with z|z
  ·rcases h1 a z with z|z
   ·exact .inl (ll9 _ z)
   ·exact .inl (lr9 _ (ll9 _ z))
  ·exact .inl (lr9 _ (lr9 _ z))
 ·rw[kq]at ha;rw[jw,jK,kq,kQ];rcases List.mem_append.mp ha with z|z
  ·rcases h2 a z with z|z|z
   ·rcases Sl.as_of z with z|z
    ·exact .inr (.inl (ll9 _ z))
    ·exact .inl (ll9 _ z)
   ·exact .inr (.inl (lr9 _ (ll9 _ z)))
   ·exact .inl (lr9 _ (ll9 _ z))
  ·exact .inl (lr9 _ (lr9 _ z))
theorem World.writeAt{i:Nat}(w:World K H (T++L))(hy:L[i]?=some (some y))(hl:l∈y.own)(ok':y'.ok K (upd H l ob))(nd:y'.own.Nodup)(h1:∀a∈y'.own,a∈y.own\/a∈j7 T)(h2:∀a∈y'.frz,a∈y.as\/a∈j7 T\/a∈jJ T)(h3:∀a∈y'.own,a∉y'.frz):
  World K (upd H l ob) (L.set i (some y'))/\Step H (T++L) (upd H l ob) (L.set i (some y')):=by
 obtain⟨A,B,e,f⟩:=XX hy;rw[f];subst e;have p:(T++(A++some y::B)).Perm (some y::(T++(A++B))):=by
  refine(List.Perm.append_left T (List.perm_middle (a:=some y) (l₁:=A) (l₂:=B))).trans List.perm_middle
 obtain⟨w2,s2⟩:=World.write (M:=A++B) (w.perm p) hl ok' nd h1 h2 h3;exact⟨w2.perm List.perm_middle.symm,s2.perm p.symm List.perm_middle.symm⟩
end
theorem RepA.snoc{K:PySem.W.Frag}{H:Hp}{g:Bool}{d:D}{x:V}{cs:List Addr}(h:RepL K H g d x cs){ds:List D}{xs:List V}{bs:List Addr}(r:RepA K H g ds xs bs):RepA K H g (ds++[d]) (xs++[x]) (bs++cs):=by
 refine RepA.app ?_ r;unfold RepA;exact⟨x,[],cs,[],rfl,by simp,h,by unfold RepA;exact⟨rfl,rfl⟩⟩
theorem kqp{K:PySem.W.Frag}{H:Hp}{y:Sl}{ds:List D}(ok:y.ok K H)(hd:y.d=.lst ds)(ho:y.o≠.no):∃l xs bs,y.v=.ref l/\H l=some (.lst xs)/\y.as=l::bs/\l∈y.own/\RepA K H (y.o != .dp) ds xs bs:=by
 obtain⟨o,d,v,as⟩:=y;dsimp only at hd ho;subst hd;cases o with
 |no=>exact absurd rfl ho
 |rt=>
  obtain⟨a,xs,bs,rfl,r,q,rfl⟩:=(show RepR K H (.lst ds) v as from ok);exact⟨a,xs,bs,rfl,q,rfl,by simp[Sl.own],r⟩
 |dp=>
  have ok:RepL K H false (.lst ds) v as:=ok;unfold RepL at ok;obtain⟨a,xs,bs,rfl,r,q⟩:=ok;rcases q with⟨q,rfl⟩|⟨z,_⟩
  ·exact⟨a,xs,bs,rfl,q,rfl,by simp[Sl.own],r⟩
  ·cases z
theorem kql{K:PySem.W.Frag}{H:Hp}{T L:Ls}{i:Nat}{y:Sl}{l:Addr}{xs xs':List V}{bs cs:List Addr}{o':Own}{ds':List D}(w:World K H (T++L))(hy:L[i]?=some (some y))(hH:H l=some (.lst xs))(ha:y.as=l::bs)(hl:l∈y.own)(hv:y.v=.ref l)
  (r:RepA K H (o' != .dp) ds' xs' cs) (hc:(o'=.rt/\∀a∈cs,a∈bs\/a∈j7 T\/a∈jJ T)\/(o'=.dp/\y.o=.dp/\cs.Nodup/\∀a∈cs,a∈bs\/a∈j7 T)):
  World K (upd H l (.lst xs')) (L.set i (some ⟨o',.lst ds',y.v,l::cs⟩))/\Step H (T++L) (upd H l (.lst xs')) (L.set i (some ⟨o',.lst ds',y.v,l::cs⟩)):=by
 have oL:l∈j7 L:=mem_owned.mpr ⟨y,wV hy,hl⟩;have oy:l∈j7 (T++L):=by rw[jK];exact lr9 _ oL
 have nd:=w.nd;rw [jK,X6]at nd;have nT:l∉j7 T:=λz=>nd.2.2 l z l oL rfl
 have nF:l∉jJ T:=λz=>w.ds l oy (by rw[kQ];exact ll9 _ z)
 have yn:y.own.Nodup:=by
  obtain⟨A,B,e,_⟩:=XX hy;have:=nd.2.1;rw[e,jK,jw,X6]at this;exact(List.nodup_append.mp this.2.1).1
 have nb:l∉bs:=λz=>by
  cases ho:y.o with
  | no=>unfold Sl.own at hl;rw[ho]at hl;exact nomatch hl
  | rt=>
   have:l∈y.frz:=by unfold Sl.frz;rw[ho,ha];exact z
   exact w.ds l oy (by rw[kQ];exact lr9 _ (mem_frozen.mpr ⟨y,wV hy,this⟩))
  | dp=>
   unfold Sl.own at yn;rw[ho,ha]at yn;exact(List.nodup_cons.mp yn).1 z
 have nc:l∉cs:=λz=>by
  rcases hc with⟨_,hc⟩|⟨_,_,_,hc⟩
  ·rcases hc l z with q|q|q
   ·exact nb q
   ·exact nT q
   ·exact nF q
  ·rcases hc l z with q|q
   ·exact nb q
   ·exact nT q
 have kp:Kp H (upd H l (.lst xs')) cs:=by
  have k2:∀a o,H a=some o->a≠l->upd H l (.lst xs') a=some o:=λa o e ne=>by rw[kZ ne];exact e
  refine⟨λa zs e=>k2 a _ e λz=>?_,λa o u e=>k2 a _ e λz=>?_,λa ha o e=>k2 a o e λz=>nc (z▸ha)⟩
  ·subst z;rw[hH]at e;cases e
  ·subst z;rw[hH]at e;cases e
 have r':=r.kp kp;rcases hc with⟨rfl,hc⟩|⟨rfl,hdp,hnd,hc⟩
 ·refine World.writeAt w hy hl (y':=⟨.rt,.lst ds',y.v,l::cs⟩) ⟨l,xs',cs,hv,r',xk,rfl⟩ (by simp[Sl.own]) (λa h=>?_) (λa h=>?_) (λa h z=>?_)
  ·have:a=l:=by simpa [Sl.own]using h
   subst this;exact .inl hl
  ·rcases hc a (by simpa [Sl.frz]using h)with q|q
   ·exact .inl (by rw[ha];exact lc9 _ q)
   ·exact .inr q
  ·have:a=l:=by simpa [Sl.own]using h
   subst this;exact nc (by simpa [Sl.frz]using z)
 ·have oa:y.own=y.as:=by unfold Sl.own;rw[hdp]
  refine World.writeAt w hy hl (y':=⟨.dp,.lst ds',y.v,l::cs⟩) ?_ (List.nodup_cons.mpr ⟨nc,hnd⟩) (λa h=>?_) (λa h=>(nomatch h)) (λa h z=>(nomatch z))
  ·show RepL K _ false (.lst ds') y.v (l::cs);unfold RepL;exact⟨l,xs',cs,hv,r',.inl ⟨xk,rfl⟩⟩
  ·rcases List.mem_cons.mp (show a∈l::cs from h)with q|q
   ·subst q;exact .inl hl
   ·rcases hc a q with q|q
    ·exact .inl (by rw[oa,ha];exact lc9 _ q)
    ·exact .inr q
section
variable {X:Cx}{Z:Fx0}{pn:List Nat}{q:Bool}{c:Ex}{e:Expr}{σ:L2.St}{H:Hp}{L:Ls}{E:En}
theorem qqe{K:PySem.W.Frag}{x:Sl}{ds:List D}(ok:x.ok K H)(hd:x.d=.lst ds):tyV K "list" x.v H:=by
 obtain⟨a,xs,bs,e1,q1,_⟩:=items ok (.inl hd);rw[e1];rcases q1 with⟨_,z⟩|⟨z,_⟩
 ·exact .inl ⟨rfl,xs,z.sq⟩
 ·rw[hd]at z;cases z
theorem vv5{K:PySem.W.Frag}{x:Sl}(ok:x.ok K H)(b:Bool)(hb:b=false->qJ x.sd=true):∃cs,RepL K H b x.d x.v cs/\(∀a∈cs,a∈x.as)/\(b=false->∀a∈cs,a∈x.own)/\(b=false->x.own.Nodup->cs.Nodup):=by
 cases b with
 | true=>exact⟨x.as,RepO.wk ok,λ_ h=>h,(λz=>by cases z),(λz=>by cases z)⟩
 | false=>
  have t:=hb rfl;unfold qJ at t
  by_cases ho:x.o=.dp
  ·have e:x.own=x.as:=by unfold Sl.own;rw[ho]
   refine⟨x.as,?_,λ_ h=>h,λ_ a h=>by rw[e];exact h,λ_ n=>by rw[e]at n;exact n⟩;have:=ok;unfold Sl.ok at this;rw[ho]at this;exact this
  ·have hp:x.d.pure=true:=by
    rcases Bool.or_eq_true_iff.mp t with z|z
    ·exact absurd (by simpa using z) ho
    ·exact z
   obtain⟨z,rp⟩:=RepL.pu (g':=false) (RepO.wk ok) hp;exact⟨[],rp,λ_ h=>(nomatch h),λ_ _ h=>(nomatch h),λ_ _=>Xu⟩
theorem zw{α:Type}{l:List α}{i:Nat}{x:α}(h:l[i]?=some x):l.set i x=l:=by
 obtain⟨h1,h2⟩:=List.getElem?_eq_some_iff.mp h;rw[<-h2];simp
theorem mut1 {D':Ends} {f:List D->D->Option (List D)} {i:Nat} {r:Fl} {G:V->V->Hp->Prop} (m:Mt E σ L) (w:World Z.K H L) (hc:kY f i c E=some r) (k:FlP Z pn D' σ H L r)
  (g:∀ (l:Addr) (x:V) (xs:List V) (ds ds':List D) (d:D) (bs cs:List Addr) (H1:Hp) (gg:Bool),f ds d=some ds'->H1 l=some (.lst xs)->RepA Z.K H1 gg ds xs bs->RepL Z.K H1 gg d x cs ->
   (∀ xs' es,RepA Z.K H1 gg ds' xs' es->(∀a∈es,a∈bs\/a∈cs)->((bs++cs).Nodup->es.Nodup)->D'.nx σ (upd H1 l (.lst xs')))->G (.ref l) x H1):
  ∃ v,σ[i]?=some (some v)/\tyV Z.K "list" v H/\tQ Z q c σ H (G v):=by
 unfold kY at hc;cases h0:E[i]? with
 | none=>rw[h0]at hc;cases hc
 | some s0 =>
  cases s0 with
  | none=>rw[h0]at hc;cases hc
  | some s0=>
   obtain ⟨o0,d0⟩:=s0;cases d0 with
   | lst gj=>
    rw [h0,Xb (show Vz (some (some (o0,D.lst gj)))=true from rfl)]at hc;obtain ⟨x0,a1,a2,a3,a4⟩:=m.get h0;refine ⟨x0.v,a4,qqe (w.ok x0 (wV a1)) a3,?_⟩;refine Vj m w hc k λE1 s h1 x L1 H1 e1 e2 m1 w1 st _=>?_
    cases hE:E1[i]? with
    | none=>rw[hE]at h1;cases h1
    | some s1=>
     cases s1 with
     | none=>rw[hE]at h1;cases h1
     | some s1=>
      obtain⟨oo,dd⟩:=s1;rw [hE]at h1;cases dd with
      | lst ds=>
       dsimp only at h1
       by_cases i6:oo=.no
       ·rw [Xb i6]at h1;cases h1
       ·rw [Xj i6]at h1;cases hfd:f ds s.2 with
        | none=>rw[hfd]at h1;cases h1
        | some ds'=>
         rw[hfd]at h1;obtain⟨y,b1,b2,b3,b4⟩:=m1.get hE;have hv:y.v=x0.v:=by rw[a4]at b4;exact(oq9 (oq9 b4)).symm
         obtain⟨l,xs,bs,c1,c2,c3,c4,c5⟩:=kqp (w1.ok y (lc9 _ (wV b1))) b3 (by rw[b2];exact i6);have ex0:x0.v=.ref l:=hv▸c1;rw[ex0];have wT:World Z.K H1 ([some x]++L1):=w1;have iz:=w1.head;have nd:=w1.nd;rw[jw,X6]at nd;have oT:j7 [some x]=x.own:=by simp
         have fT:jJ [some x]=x.frz:=by simp
         by_cases hd:oo=.dp/\qJ s=true
         ·rw[Xb hd]at h1;cases oq9 h1;have hyo:y.o=.dp:=b2.trans hd.1;rw[hyo]at c5;obtain⟨cs,r1,h3,h4,h5⟩:=vv5 iz false λ_=>by rw[show x.sd=s from by simp[Sl.sd,e1,e2]];exact hd.2
          refine g l x.v xs ds ds' s.2 bs cs H1 false hfd c2 c5 (by rw[<-e2];exact r1) λxs' es re he hn=>?_
          have ynd:(bs++cs).Nodup:=by
           have yo:y.own=l::bs:=by unfold Sl.own;rw[hyo,c3]
           obtain⟨A,B,e,_⟩:=XX b1;have q:=nd.2.1;rw[e,jK,jw,X6]at q;have q2:=(List.nodup_append.mp q.2.1).1;rw[yo]at q2;rw[X6];refine⟨(List.nodup_cons.mp q2).2,h5 rfl nd.1,λa ha b hb jt=>?_⟩;subst jt;exact nd.2.2 a (h4 rfl a hb) a (mem_owned.mpr ⟨y,wV b1,by rw[yo];exact lc9 _ ha⟩) rfl
          obtain⟨w3,s3⟩:=kql (o':=.dp) (ds':=ds') (xs':=xs') wT b1 c2 c3 c4 c1 re (.inr ⟨rfl,hyo,hn ynd,λa ha=>(he a ha).imp id λz=>by rw[oT];exact h4 rfl a z⟩);refine k σ _ _ Pn.refl ?_ w3 (st.trans s3);have:=m1.set (x:=⟨.dp,.lst ds',y.v,l::es⟩) i;rw[zw b4]at this;exact this
         ·rw[Xj hd]at h1;cases oq9 h1;have c6:RepA Z.K H1 true ds xs bs:=by
           cases hb:(y.o != .dp)with
           |true=>rw[hb]at c5;exact c5
           |false=>rw[hb]at c5;exact c5.wk
          refine g l x.v xs ds ds' s.2 bs x.as H1 true hfd c2 c6 (by rw[<-e2];exact RepO.wk iz) λxs' es re he hn=>?_
          obtain⟨w3,s3⟩:=kql (o':=.rt) (ds':=ds') (xs':=xs') wT b1 c2 c3 c4 c1 re (.inl ⟨rfl,λa ha=>(he a ha).imp id λz=>by rw[oT,fT];exact Sl.as_of z⟩);refine k σ _ _ Pn.refl ?_ w3 (st.trans s3);have:=m1.set (x:=⟨.rt,.lst ds',y.v,l::es⟩) i;rw[zw b4]at this;exact this
      |_=>cases h1
   |_=>rw[h0]at hc;cases hc
theorem vqj{i:Nat}{o:Expr}{aj ab pos:Pos}(hb:PE X (.Call (.Attribute o "append" aj) [e] [] ab) (tBM Z.K "list" Z0 (zq i) (qv5 (tQ Z q c) vq1)))(hs:autoParam (swapsWith (.Call (.Attribute o "append" aj) [e] [] ab) none pos.line X.env=pure false) Ŕ):
  QS X Z pn (kY kX i c) (.Expr (.Call (.Attribute o "append" aj) [e] [] ab) pos):=J8 (XW hb hs) λD σ H ak=>ex7 ak λE L r m w hc k=>
 mut1 (G:=λv x H1=>Z0 v [x] H1 λ_ H2=>D.nx σ H2) m w hc k λl x xs ds ds' d bs cs H1 gg hf hH ra rx fin=>by
  unfold kX at hf
  by_cases hl:ds.length<big
  ·rw[Xb hl]at hf;cases oq9 hf;exact⟨l,xs,x,rfl,rfl,hH,by rw[<-ra.len];exact hl,fin (xs++[x]) (bs++cs) (RepA.snoc rx ra) (λa ha=>List.mem_append.mp ha) λh=>h⟩
  ·rw[Xj hl]at hf;cases hf
end
section
variable {X:Cx}{Z:Fx0}{pn:List Nat}{q:Bool}{a b c:Ex}{tg e ea eb:Expr}{σ:L2.St}{H:Hp}{L:Ls}{E:En}{pos p:Pos}
theorem qxq{pins:List (Addr×Obj)}{H1:Hp}{s1:Shared}{x:Str}{t:Tok}{R:It->Hp->Prop}(I1:L2.Inv X pins σ H1 s1)(q:R (Its x) H1):wpAny (model X.prog X.w) X.A (pyIter (.str x t)) (PIE X pins σ tg R) X.xe s1:=by
 have fp:∀b∈[s1.heap.objs.size],qZ X pins H1 b:=λb hb=>by
  have e:b=s1.heap.objs.size:=by simpa using hb
  subst e;exact I1.fpOk (X8 _) (I1.hok.fresh (X8 _))
 cases ha:x.cps.all (· < 128)
 ·exact wpAny_pyIter_wide ha ⟨s1.heap.objs.size,[s1.heap.objs.size],_,_,H1,rfl,I1.kept (t':=s1.toks) λb o e=>X2 _ e,kv7 (λA' hA=>PySem.Walks.strWide hA _ x t) (λ_ _ _ _ _ st h=>wpAny_pyIter_striter_wide st h) (by decide),⟨_,Xd _ rfl,rfl,rfl⟩,fp,q⟩
 ·exact wpAny_pyIter_ascii ha ⟨s1.heap.objs.size,[s1.heap.objs.size],_,_,H1,rfl,I1.kept (t':=s1.toks) λb o e=>X2 _ e,kv7 (λA' hA=>PySem.Walks.strAscii hA _ x t) (λ_ _ _ _ _ st h=>wpAny_pyIter_striter_ascii st h) (by decide),⟨_,Xd _ rfl,rfl,rfl⟩,fp,q⟩
theorem vja{K:PySem.W.Frag}{H:Hp}(c:Nat):Sl.ok K H ⟨.no,.str ⟨#[c]⟩,.str ⟨#[c]⟩,[]⟩:=by
 show RepL K H true _ _ _;exact Z7 (show(1:Nat)<=sizeLine by decide)
theorem vj9{K:PySem.W.Frag}{H:Hp}(i:Int):Sl.ok K H ⟨.no,.int i,.int i,[]⟩:=by
 show RepL K H true _ _ _;exact Vk
noncomputable def iAny(K:PySem.W.Frag)(tl:TE):TI:=fun σ H R=>tl σ H λx H1=>(∃a xs,x=.ref a/\SqL K H1 a xs/\(xs.length<=sizeLine->R (Itl K a) H1))\/(∃a xs,x=.ref a/\SqT K H1 a xs/\(xs.length<=sizeLine->R (Itt K a) H1))\/∃z,x=.str z/\R (Its z) H1
theorem qzq{l:Expr}{tl:TE}(hl:PE X l tl):PI X tg l (iAny X.K tl):=by
 intro pins s σ H R I h;have h':tl σ H λx H1=>(∃a xs,x=.ref a/\SqL X.K H1 a xs/\(xs.length<=sizeLine->R (Itl X.K a) H1))\/(∃a xs,x=.ref a/\SqT X.K H1 a xs/\(xs.length<=sizeLine->R (Itt X.K a) H1))\/∃z,x=.str z/\R (Its z) H1:=h
 refine thn (hl pins s σ H _ I h') λv s1 ⟨x,H1,I1,r1,q1⟩=>?_
 rcases q1 with⟨a,xs,rfl,hq,q⟩|⟨a,xs,rfl,hq,q⟩|⟨z,rfl,q⟩
 ·cases r1;obtain⟨aa,rv,p,hz⟩:=I1.list hq;refine wpAny_pyIter_list p.isList ?_;refine⟨s1.heap.objs.size,[s1.heap.objs.size],_,_,H1,rfl,I1.kept (t':=s1.toks) λb o e=>X2 _ e,kka a _,⟨_,Xd _ rfl,rfl,rfl⟩,λb hb=>?_,q hz⟩;have e:b=s1.heap.objs.size:=by simpa using hb
  subst e;exact I1.fpOk (X8 _) (I1.hok.fresh (X8 _))
 ·cases r1;obtain⟨aa,rv,p,hz⟩:=I1.tuple hq;refine wpAny_pyIter_tuple (show s1.heap.IsTuple a aa.toArray from p) ?_;refine⟨s1.heap.objs.size,[s1.heap.objs.size],_,_,H1,rfl,I1.kept (t':=s1.toks) λb o e=>X2 _ e,kwa a _,⟨_,Xd _ rfl,rfl,rfl⟩,λb hb=>?_,q hz⟩;have e:b=s1.heap.objs.size:=by simpa using hb
  subst e;exact I1.fpOk (X8 _) (I1.hok.fresh (X8 _))
 ·obtain⟨t,rfl⟩:=r1;exact qxq I1 q
theorem vZ(h:QE X Z q c e)(hK:autoParam (X.K=Z.K) Ŕ):QI X Z q tg (itS c) e:=λpins s σ H R I ak=>ex8 ak λE L r m w hc xc k=>by
 refine(hK▸qzq h) pins s σ H R I ?_;refine Zk m w (show bnd (c E) _=some r from hc) xc λE1 s h1 x L1 H1 e1 e2 m1 w1 st sm=>?_
 obtain⟨ds,hd,rfl⟩:=zJ h1;have ok:=w1.head;have wT:World Z.K H1 (L1++[x.let].map some):=by
  refine World.comm (L:=[some x.let]) ?_;exact w1.tail.consNo (Kj ok) rfl λb hb=>w1.apart b hb
 have sT:Step H L H1 (L1++[x.let].map some):=by
  refine⟨st.keep,λb hb=>?_,λb hb=>?_⟩
  ·have:b∈j7 L1:=by simpa [Q2]using hb
   exact st.own b (by rw[jw];exact lr9 _ this)
  ·have:b∈jJ L1\/b∈x.as:=by simpa [Q2]using hb
   rcases this with z|z
   ·exact st.frz b (by rw[kq];exact lr9 _ z)
   ·exact kjb st b z
 cases hx:x.d with
 | lst es=>
  rw[<-e2,hx]at hd;have gf:es=ds:=oq9 hd;subst gf;obtain⟨a,xs,bs,ev,q3,r3,h3,_⟩:=items ok (.inl hx);have q3:LsR Z.K H1 a xs:=by rcases q3 with⟨_,z⟩|⟨z,_⟩;exact z;rw[hx]at z;cases z
  have ce:∀H2:Hp,(∀t∈[x.let],t.ok Z.K H2)->∃ys cs,SqL Z.K H2 a ys/\RepA Z.K H2 true es ys cs/\∀b∈cs,b∈x.as:=λH2 hok=>by
   obtain⟨a',ys,cs,kl,q4,r4,h4,_⟩:=items (hok x.let (List.mem_singleton.mpr rfl)) (.inl hx);have:a'=a:=by have:=kl.symm.trans ev;exact V.ref.inj this
   subst this;rcases q4 with⟨_,z⟩|⟨z,_⟩
   ·exact⟨ys,cs,z.sq,r4,h4⟩
   ·rw[show x.let.d=D.lst es from hx]at z;cases z
  refine .inl ⟨a,xs,ev,q3.sq,λag=>k _ _ rfl (Itl Z.K a) [x.let] L1 H1 m1 wT sT (by rw[r3.len];exact ag) (λhq=>(sm hq).1) ⟨λt ht=>by rw[List.mem_singleton.mp ht];rfl,λi H2 hok hi=>?_,λH2 hok=>?_,λi H2 v H3 d hok hy dj=>?_⟩⟩
  ·obtain⟨ys,cs,s1,s2,_⟩:=ce H2 hok;have hl:=s2.len;exact⟨ys,ys[i]'(by omega),s1,X1 (by omega)⟩
  ·obtain⟨ys,cs,s1,s2,_⟩:=ce H2 hok;exact⟨ys,s1,by rw[s2.len];exact X8 _⟩
  ·obtain⟨ys,cs,s1,s2,s3⟩:=ce H2 hok;obtain⟨e3,hy⟩:=hy;subst e3;obtain⟨v',bu,f1,f2,f3⟩:=s2.get dj;have:v'=v:=by have:=hy ys s1;rw[f1]at this;exact oq9 this
   subst this;exact⟨⟨.no,d,v',bu⟩,rfl,rfl,rfl,wX,f2,λb hb=>⟨x.let,List.mem_singleton.mpr rfl,s3 b (f3 b hb)⟩⟩
 | tup es=>
  rw[<-e2,hx]at hd;have gf:es=ds:=oq9 hd;subst gf;obtain⟨a,xs,bs,ev,q3,r3,h3,_⟩:=items ok (.inr hx);have q3:SqT Z.K H1 a xs:=by rcases q3 with⟨z,_⟩|⟨_,z⟩;rw[hx]at z;cases z;exact z
  have ce:∀H2:Hp,(∀t∈[x.let],t.ok Z.K H2)->∃ys cs,SqT Z.K H2 a ys/\RepA Z.K H2 true es ys cs/\∀b∈cs,b∈x.as:=λH2 hok=>by
   obtain⟨a',ys,cs,kl,q4,r4,h4,_⟩:=items (hok x.let (List.mem_singleton.mpr rfl)) (.inr hx);have:a'=a:=by have:=kl.symm.trans ev;exact V.ref.inj this
   subst this;rcases q4 with⟨z,_⟩|⟨_,z⟩
   ·rw[show x.let.d=D.tup es from hx]at z;cases z
   ·exact⟨ys,cs,z,r4,h4⟩
  refine .inr (.inl ⟨a,xs,ev,q3,λag=>k _ _ rfl (Itt Z.K a) [x.let] L1 H1 m1 wT sT (by rw[r3.len];exact ag) (λhq=>(sm hq).1) ⟨λt ht=>by rw[List.mem_singleton.mp ht];rfl,λi H2 hok hi=>?_,λH2 hok=>?_,λi H2 v H3 d hok hy dj=>?_⟩⟩)
  ·obtain⟨ys,cs,s1,s2,_⟩:=ce H2 hok;have hl:=s2.len;exact⟨ys,ys[i]'(by omega),s1,X1 (by omega)⟩
  ·obtain⟨ys,cs,s1,s2,_⟩:=ce H2 hok;exact⟨ys,s1,by rw[s2.len];exact X8 _⟩
  ·obtain⟨ys,cs,s1,s2,s3⟩:=ce H2 hok;obtain⟨e3,hy⟩:=hy;subst e3;obtain⟨v',bu,f1,f2,f3⟩:=s2.get dj;have:v'=v:=by have:=hy ys s1;rw[f1]at this;exact oq9 this
   subst this;exact⟨⟨.no,d,v',bu⟩,rfl,rfl,rfl,wX,f2,λb hb=>⟨x.let,List.mem_singleton.mpr rfl,s3 b (f3 b hb)⟩⟩
 | str z=>
  rw[<-e2,hx]at hd;have hd:(if z.cps.size<=big then some (z.cps.toList.map λc=>D.str ⟨#[c]⟩)else none)=some ds:=hd
  split at hd
  ·rename_i hz;cases oq9 hd;refine .inr (.inr ⟨z,(wZ ok hx).1,k _ _ rfl (Its z) [] L1 H1 m1 (by simpa using w1.tail) (by simpa using (st.trans Step.drop)) (by rw[X3,Yc];exact hz) (λhq=>(sm hq).1) ⟨λt ht=>(nomatch ht),λi H2 _ hi=>?_,λH2 _=>?_,λi H2 v H3 d _ hy dj=>?_⟩⟩)
   ·show i<z.cps.size
    simpa using hi
   ·show(z.cps.toList.map λc=>D.str ⟨#[c]⟩).length=z.cps.size;simp
   ·obtain⟨e3,cc,hc,rfl⟩:=hy;subst e3;rw[Xg,Array.getElem?_toList,hc]at dj;cases oq9 dj;exact⟨⟨.no,.str ⟨#[cc]⟩,.str ⟨#[cc]⟩,[]⟩,rfl,rfl,rfl,wX,vja cc,λb hb=>(nomatch hb)⟩
  ·cases hd
 |non=>rw[<-e2,hx]at hd;cases hd
 |bl _=>rw[<-e2,hx]at hd;cases hd
 |int _=>rw[<-e2,hx]at hd;cases hd
 |dct _=>rw[<-e2,hx]at hd;cases hd
 |obj _ _=>rw[<-e2,hx]at hd;cases hd
theorem kw9{K:PySem.W.Frag}(lo hi:Int):Walks K (Itr lo (hi - lo).toNat) [] (jY lo hi):=by
 have hl:(jY lo hi).length=(hi - lo).toNat:=by simp[jY]
 refine⟨λt ht=>(nomatch ht),λi H _ kf=>by rw[hl]at kf;exact kf,λH _=>by rw[hl];exact X8 _,λi H v H' d _ hy hd=>?_⟩;obtain⟨e,rfl⟩:=hy;subst e;unfold jY at hd;rw[Xg]at hd;cases hr:(List.range (hi - lo).toNat)[i]? with
 | none=>rw[hr]at hd;cases hd
 | some j=>
  rw[hr]at hd;have:j=i:=by
   obtain⟨_,h2⟩:=List.getElem?_eq_some_iff.mp hr
   simpa using h2.symm
  subst this;cases oq9 hd;exact⟨⟨.no,.int (lo+(j:Int)),.int (lo+(j:Int)),[]⟩,rfl,rfl,rfl,wX,vj9 _,λb hb=>(nomatch hb)⟩
theorem jwm{i:Int}(h:vJ i=true):-(2 ^ 62)<=i/\i<2 ^ 62:=by
 unfold vJ at h
 simpa using h
theorem zk(ha:QV X Z q a ea)(hg:Gl X "range")(hm:X.mg "range"=none)(bq:autoParam (starEach [ea] X.env=[(false,eval ea X.env)]) Ŕ):QI X Z q tg (v6 a) (.Call (.Name "range" p) [ea] [] pos):=λpins s σ H R I ak=>ex8 ak λE L r m w hc xc k=>by
 refine(kxw hg hm (vz ha vX bq) bq) pins s σ H R I ?_;refine v8 m w (show bnd (a E) _=some r from hc) xc λE1 s h1 x L1 H1 e1 e2 m1 w1 ok fr sr st sm=>?_
 cases hx:s.2 with
 | int j=>
  rw[hx]at h1;dsimp only at h1
  split at h1
  ·rename_i hj;cases oq9 h1;obtain⟨j1,j2⟩:=jwm hj.1;have hv:=qK ok (e2.trans hx);refine⟨j,by rw[hv],j1,j2,?_⟩;have wk:=kw9 (K:=Z.K) 0 j;rw[Int.sub_zero]at wk;exact k _ _ rfl (Itr 0 j.toNat) [] L1 H1 m1 (by simpa using w1) (by simpa using st) (by simp only[jY,X3,List.length_range,Int.sub_zero];exact hj.2) sm wk
  ·cases h1
 |_=>rw[hx]at h1;cases h1
theorem Mt.clr:∀{R:List Nat} {E:En} {L:Ls},Mt E σ L->Mt (Q.clr R E) σ (Q.clr R L)
 | [],_,_,m=>m
 | j::R,E,L,m=>by
  have un:∀{E:En} {σ:L2.St} {L:Ls} (j:Nat),Mt E σ L->Mt (E.set j none) σ (L.set j none):=by
   intro E σ L j m
   induction m generalizing j with
   |nil=>exact .nil
   |un m ih=>cases j with
    |zero=>exact .un m
    |succ j=>exact .un (ih j)
   |cons m ih=>cases j with
    |zero=>exact .un m
    |succ j=>exact .cons (ih j)
  show Mt (Q.clr R (E.set j none)) σ (Q.clr R (L.set j none));exact Mt.clr (un j m)
theorem Mt.drop:∀{E:En} {σ:L2.St} {L:Ls} (k:Nat),Mt E σ L->Mt (E.drop k) (σ.drop k) (L.drop k)
 |_,_,_,0,m=>m
 |_,_,_,k+1,.nil=>.nil
 |_,_,_,k+1,.un m=>m.drop k
 |_,_,_,k+1,.cons m=>m.drop k
theorem Mt.none_at:∀{E:En} {σ:L2.St} {L:Ls} {j:Nat},Mt E σ L->E[j]?=some none->L[j]?=some none
 |_,_,_,_,.nil,h=>by simp at h
 |_,_,_,0,.un _,_=>by simp
 |_,_,_,j+1,.un m,h=>by simpa using m.none_at (j:=j) (by simpa using h)
 |_,_,_,0,.cons _,h=>by simp at h
 |_,_,_,j+1,.cons m,h=>by simpa using m.none_at (j:=j) (by simpa using h)
theorem Mt.pick:∀{R:List Nat},Mt E σ L->Mt (R.map (at' E)) (R.map (at' σ)) (R.map (at' L))
 | [],_=>.nil
 | j::R,m=>by
  rw[List.map_cons,List.map_cons,List.map_cons];cases hE:E[j]? with
  | none=>
   have hl:=m.len;have:L[j]?=none:=by rw[List.getElem?_eq_none_iff]at hE ⊢;omega
   rw[show at' E j=none from by unfold at';rw[hE];rfl,show at' L j=none from by unfold at';rw[this];rfl];exact .un m.pick
  | some s=>
   cases s with
   |none=>
    have:L[j]?=some none:=m.none_at hE;rw[show at' E j=none from by unfold at';rw[hE];rfl,show at' L j=none from by unfold at';rw[this];rfl];exact .un m.pick
   |some s=>
    obtain⟨o,d⟩:=s;obtain⟨x,h1,h2,h3,h4⟩:=m.get hE;rw[show at' E j=some (x.o,x.d)from by unfold at';rw[hE,h2,h3];rfl,show at' L j=some x from by unfold at';rw[h1];rfl,show at' σ j=some x.v from by unfold at';rw[h4];rfl];exact .cons m.pick
theorem Mt.rep:∀{k:Nat},Mt E σ L->Mt (List.replicate k none++E) (List.replicate k none++σ) (List.replicate k none++L)
 |0,m=>by simpa using m
 |k+1,m=>by
  rw[List.replicate_succ,List.replicate_succ,List.replicate_succ];exact .un m.rep
theorem Mt.back:∀{R:List Nat} {B:En} {τ:L2.St} {M:Ls} {E:En} {L:Ls},Mt E σ L->Mt B τ M->(∀(i j:Nat) (v:V),R[i]?=some j->τ[i]?=some (some v)->σ[j]?=some (some v))->Mt (Q.back R B E) σ (Q.back R M L)
 | [],B,τ,M,E,L,m,_,_=>by simpa [Q.back]using m
 | j::R,_,_,_,E,L,m,.nil,_=>by simpa [Q.back]using m
 | j::R,_,_,_,E,L,m,.un mB,h=>by
  have un:∀{E:En} {σ:L2.St} {L:Ls} (j:Nat),Mt E σ L->Mt (E.set j none) σ (L.set j none):=by
   intro E σ L j m
   induction m generalizing j with
   |nil=>exact .nil
   |un m ih=>cases j with
    |zero=>exact .un m
    |succ j=>exact .un (ih j)
   |cons m ih=>cases j with
    |zero=>exact .un m
    |succ j=>exact .cons (ih j)
  show Mt (Q.back R _ (E.set j none)) σ (Q.back R _ (L.set j none));exact Mt.back (un j m) mB λi jj v e1 e2=>h (i+1) jj v (by simpa using e1) (by simpa using e2)
 |j::R,_,_,_,E,L,m,.cons (x:=x) mB,h=>by
  have h0:=h 0 j x.v (by simp) (by simp);have m1:=m.set (x:=x) j;rw[zw h0]at m1;show Mt (Q.back R _ (E.set j _)) σ (Q.back R _ (L.set j _));exact Mt.back m1 mB λi jj v e1 e2=>h (i+1) jj v (by simpa using e1) (by simpa using e2)
section
variable {ao dk:Expr}{d7:List Expr}{scope:Scope}{N:List Str}{k:Nat}{R:List Nat}{it:Ev (List D)}{tt:Tg}{u:Ts}{o:Own}{q1 q2:Bool}
theorem qwi:zX k R σ=List.replicate k none++R.map (at' σ):=rfl
theorem vqy{K:PySem.W.Frag}{M:Ls}(hR:R.Nodup)(w:World K H (L++M)):World K H ((List.replicate k none++R.map (at' L))++(Q.clr R L++M))/\Step H (L++M) H ((List.replicate k none++R.map (at' L))++(Q.clr R L++M)):=by
 have p:(sls (L++M)).Perm (sls ((List.replicate k none++R.map (at' L))++(Q.clr R L++M))):=by
  have:=kvy (R:=R) (L:=L) hR;rw[KY]at this;simp only[KY,qv8,List.nil_append];rw[<-Xy];exact(this.append_right _).symm
 exact⟨w.same p,Step.refl.same (List.Perm.refl _) p⟩
theorem vjf{K:PySem.W.Frag}{B:Ls}{M:Ls}{H2:Hp}(hR:R.Nodup)(hr:∀j∈R,j<L.length)(hB:B.length=k+R.length)(w:World K H2 (B++(Q.clr R L++M))):World K H2 (Q.back R (B.drop k) (Q.clr R L)++M)/\Step H2 (B++(Q.clr R L++M)) H2 (Q.back R (B.drop k) (Q.clr R L)++M):=by
 have p:=kqe (R:=R) (B:=B.drop k) (L:=Q.clr R L) hR (λj hj=>qj2 hj) (λj hj=>by rw[qj1];exact hr j hj) (by rw[Ym,hB];omega);have p2:(sls (Q.back R (B.drop k) (Q.clr R L)++M)).Perm (sls (B.drop k++(Q.clr R L++M))):=by
  rw[KY,<-Xy,KY (B.drop k++Q.clr R L)];exact p.append_right _
 have sub:(sls (B.drop k++(Q.clr R L++M))).Sublist (sls (B++(Q.clr R L++M))):=by
  rw[KY,KY B];refine List.Sublist.append ?_ (List.Sublist.refl _);unfold sls;exact(List.drop_sublist k B).filterMap _
 exact⟨(w.sub sub).same p2.symm,(Step.refl.sub sub).same (List.Perm.refl _) p2.symm⟩
theorem jxl:∀{is:List Nat} {es:List D} {E E':En},setAll is es E=some E'->E'.length=E.length
 |[],[],_,_,h=>by cases oq9 h;rfl
 |[],_::_,_,_,h=>by cases h
 |_::_,[],_,_,h=>by cases h
 |i::is,d::es,E,E',h=>by rw[jxl (E:=E.set i (some (.no,d))) h,Ye]
theorem qvm{t:Tg}{d:D}{E E':En}(h:t.put d E=some E'):E'.length=E.length:=by
 cases t with
 |n i=>cases oq9 h;rw[Ye]
 |t is=>
  cases d with
  |tup es=>exact jxl (show setAll is es E=some E' from h)
  |lst es=>exact jxl (show setAll is es E=some E' from h)
  |_=>cases h
theorem kzi{nN:Nat}{Q:VK}(hσ:σ.length=nN)(hR:R.Nodup)(hr:∀j∈R,j<nN)(h:tQ Z q (cLC o k R it tt u c) σ H Q):tLC (tIS Z q it) (tG Z ((List.range R.length).map (k + ·)) tt) (tT Z q u) (tQ Z q c) k R σ H Q:=by
 obtain⟨E,L,r,m,w,b8,xc,kk⟩:=h;have b8:bnd (it E) (λE ds=>match lcL tt u c ds (Jw k R E) []with
  | some (.ok B xs)=>mkL o (xV k R B E) xs
  | some (.exc B e)=>some (.exc (xV k R B E) e)
  | none=>none)=some r:=b8
 rcases wq b8 with⟨E1,ds,h1,h2⟩|⟨E1,cc,h1,h2⟩
 rotate_left
 ·exact⟨E,L,_,m,w,h1,xc.map h2,λE' s' z=>by cases z⟩
 refine⟨E,L,_,m,w,h1,(λ_ _ z=>by cases z),λE' ds' z J T L1 H1 m1 w1 st hz sm wk=>?_⟩;injection z with z1 z2;subst z1 z2;have hL1:∀j∈R,j<L1.length:=λj hj=>by have:=m1.len;have:=hr j hj;omega
 obtain⟨wB,sB⟩:=vqy (k:=k) hR w1;cases hrB:lcL tt u c ds (Jw k R E1) []with
 | none=>rw[hrB]at h2;cases h2
 | some rB=>
  rw [hrB]at h2;have gh:∀{H2:Hp} {A B:Ls},World Z.K H2 (A++(B++(_root_.Q.clr R L1++T.map some)))->∀t∈T,t.ok Z.K H2:=λw2 t ht=>w2.ok t (lr9 _ (lr9 _ (lr9 _ (Xf ht))))
  have mB0:Mt (Jw k R E1) (zX k R σ) (List.replicate k none++R.map (at' L1)):=(m1.pick (R:=R)).rep;have nl:∀{B:En} {LB:Ls} {τ:L2.St} {H2:Hp} {A:Ls},Mt B τ LB->τ.length=k+R.length->Pn ((List.range R.length).map (k + ·)) (zX k R σ) τ->World Z.K H2 (LB++(A++(_root_.Q.clr R L1++T.map some))) ->
    Mt (xV k R B E1) σ (_root_.Q.back R (LB.drop k) (_root_.Q.clr R L1))/\World Z.K H2 (A++_root_.Q.back R (LB.drop k) (_root_.Q.clr R L1))/\Step H2 (LB++(A++(_root_.Q.clr R L1++T.map some))) H2 (A++_root_.Q.back R (LB.drop k) (_root_.Q.clr R L1)):=fun {B LB τ H2 A} mB lB pB wB2=>by
   have hl:LB.length=k+R.length:=by rw[mB.len.2];exact lB
   have pm:(LB++(A++(_root_.Q.clr R L1++T.map some))).Perm (LB++(_root_.Q.clr R L1++(A++T.map some))):=by
    refine List.Perm.append_left _ ?_;rw [<-Xy,<-Xy];exact List.Perm.append_right _ List.perm_append_comm
   obtain⟨w3,s3⟩:=vjf (k:=k) hR hL1 hl (wB2.perm pm);have pm2:(_root_.Q.back R (LB.drop k) (_root_.Q.clr R L1)++(A++T.map some)).Perm ((A++_root_.Q.back R (LB.drop k) (_root_.Q.clr R L1))++T.map some):=by
    rw [<-Xy];exact List.Perm.append_right _ List.perm_append_comm
   refine⟨?_,(w3.perm pm2).left,(s3.perm pm.symm pm2).trans Step.dropT⟩;refine Mt.back (m1.clr) (mB.drop k) λi j v e1 e2=>?_
   have hi:i<R.length:=(List.getElem?_eq_some_iff.mp e1).1;have e3:=pB (k+i) (List.mem_map.mpr ⟨i,List.mem_range.mpr hi,rfl⟩);rw [List.getElem?_drop,e3,qwi,Y3 (by simp),Yf,show k+i - k=i from by omega,Xg,e1]at e2;have e4:at' σ j=some v:=by simpa using e2
   unfold at' at e4;cases hh:σ[j]? with
   | none=>rw[hh]at e4;cases e4
   | some s=>rw[hh]at e4;rw[show s=some v from e4]
  refine⟨λi n ys τ H2=>∃(B:En) (LB:Ls) (af:List Sl),Mt B τ LB/\τ.length=k+R.length/\Pn ((List.range R.length).map (k + ·)) (zX k R σ) τ/\World Z.K H2 (LB++(af.map some++(_root_.Q.clr R L1++T.map some)))/\Step H L H2 (LB++(af.map some++(_root_.Q.clr R L1++T.map some))) /\
   ys=af.map Sl.v/\lcL tt u c (ds.drop i) B (af.map Sl.sd)=some rB/\i<=ds.length/\af.length<=i/\n=ds.length - i/\(q=true->jX H H2/\∀b∈j7 (af.map some),H b=none),⟨_,Jw k R E1,_,[],mB0,by simp[zX],Pn.refl,wB,st.trans sB,rfl,hrB,Nat.zero_le _,Nat.zero_le _,rfl,λhq=>⟨sm hq,λ_ z=>(nomatch z)⟩⟩,?_⟩
  rintro i n ys τ H2 ⟨B,LB,af,mB,lB,pB,wB2,sB2,rfl,f1,hi,hacc,rfl,smB⟩
  by_cases df:i<ds.length
  rotate_left
  ·have e:i=ds.length:=by omega
   subst e;rw [List.drop_length]at f1;cases oq9 f1;obtain⟨m3,w3,s3⟩:=nl mB lB pB wB2;refine .inl ⟨wk.stop H2 (gh wB2) (λhq=>(smB hq).1),by rw[X3];omega,?_⟩;exact kvo (σ:=σ) (Q:=Q) (o:=o) (xs:=af) h2 rfl w3 (sB2.trans s3) smB kk m3
  ·have hd:ds.drop i=ds[i]::ds.drop (i+1):=List.drop_eq_getElem_cons df;rw [hd]at f1;unfold lcL at f1;cases b9:tt.put ds[i] B with
   | none=>rw[b9]at f1;cases f1
   | some B2=>
    rw [b9]at f1;dsimp only at f1;refine .inr ⟨wk.go i H2 (gh wB2) (λhq=>(smB hq).1) df,λv H3 hy=>?_⟩;obtain⟨z,zo,zd,zv,smz,ls,zas⟩:=wk.yld i H2 v H3 ds[i] (gh wB2) (λhq=>(smB hq).1) hy (X1 df);have pm:(LB++(af.map some++(_root_.Q.clr R L1++T.map some))).Perm ((LB++(af.map some++_root_.Q.clr R L1))++T.map some):=by
     rw[<-Xy (af.map some),<-Xy]
    obtain⟨wz,sz⟩:=jzz (wB2.perm pm) wk.no smz ls zo zas;have wz':World Z.K H3 ((some z::LB)++(af.map some++(_root_.Q.clr R L1++T.map some))):=wz.perm (by
     rw[List.cons_append,List.cons_append];exact List.Perm.cons _ pm.symm)
    have sz':Step H2 (LB++(af.map some++(_root_.Q.clr R L1++T.map some))) H3 ((some z::LB)++(af.map some++(_root_.Q.clr R L1++T.map some))):=sz.perm pm.symm (by
     rw[List.cons_append,List.cons_append];exact List.Perm.cons _ pm.symm)
    refine⟨B,LB,z,B2,mB,wz'.left,zo,zv,by rw[zd];exact b9,fun τ2 LB2 p2 mB2 wB3 sB3=>?_⟩;obtain⟨w4,s4⟩:=stay wz' sB3 wB3;have lB2:τ2.length=k+R.length:=by
     have h1:=mB2.len.1;have h2:=mB.len.1;have h3:=qvm b9;omega
    have p3:=pB.trans p2;have n6:Step H L H3 (LB2++(af.map some++(_root_.Q.clr R L1++T.map some))):=sB2.trans (sz'.trans s4);have f9:q=true->jX H H3/\∀b∈j7 (af.map some),H b=none:=λhq=>⟨kJ (smB hq).1 smz,(smB hq).2⟩
    refine⟨λy H5=>∃(B:En) (LB:Ls) (dv:List Sl),Mt B τ2 LB/\World Z.K H5 (LB++(dv.map some++(_root_.Q.clr R L1++T.map some)))/\Step H L H5 (LB++(dv.map some++(_root_.Q.clr R L1++T.map some)))/\af.map Sl.v++[y]=dv.map Sl.v/\dv.length=af.length+1/\lcL tt u c (ds.drop (i+1)) B (dv.map Sl.sd)=some rB/\(q=true->jX H H5/\∀b∈j7 (dv.map some),H b=none),
     λH5=>∃B LB,Mt B τ2 LB/\World Z.K H5 (LB++(af.map some++(_root_.Q.clr R L1++T.map some)))/\Step H L H5 (LB++(af.map some++(_root_.Q.clr R L1++T.map some)))/\lcL tt u c (ds.drop (i+1)) B (af.map Sl.sd)=some rB/\(q=true->jX H H5/\∀b∈j7 (af.map some),H b=none),
     λy H5 ⟨B5,LB5,acc5,c1,c2,c3,c4,c5,c6,c7⟩=>⟨by rw[X3];omega,ds.length - (i+1),by omega,B5,LB5,acc5,c1,lB2,p3,c2,c3,c4,c6,df,by omega,rfl,c7⟩,
     λH5 ⟨B5,LB5,c1,c2,c3,c6,c7⟩=>⟨ds.length - (i+1),by omega,B5,LB5,af,c1,lB2,p3,c2,c3,rfl,c6,df,by omega,rfl,c7⟩,?_⟩
    have xcB:∀{α:Type} {H6:Hp} {L6:Ls} {B6:En} {cc:Str} {A:Ls},rB=.exc B6 cc->World Z.K H6 (L6++(A++(_root_.Q.clr R L1++T.map some)))->Step H L H6 (L6++(A++(_root_.Q.clr R L1++T.map some)))->Xc Z τ2 H6 L6 (.exc B6 cc:Res α):=fun {α H6 L6 B6 cc A} er w6 s6 E7 c7 e7 C L7 H7 hm m7 w7 s7=>by
     injection e7 with e8 e9;subst e8 e9;subst er;cases oq9 h2;obtain⟨w8,s8⟩:=stay w6 s7 w7;obtain⟨m9,w9,s9⟩:=nl m7 lB2 p3 w8;exact xc _ _ rfl C _ H7 hm m9 w9.right ((s6.trans (s8.trans s9)).trans ⟨λ_ _ h _=>h,λa ha=>.inl (by rw[jK];exact lr9 _ ha),λa ha=>.inl (by rw[kQ];exact lr9 _ ha)⟩)
    rcases wq f1 with⟨B4,kb,g1,g2⟩|⟨B4,cc,g1,g2⟩
    rotate_left
    ·exact⟨B2,LB2,_,mB2,wB3,g1,xcB g2 w4 n6,λE' s' z=>by cases z⟩
    refine⟨B2,LB2,_,mB2,wB3,g1,(λ_ _ z=>by cases z),λE' s' z LB4 H4 mB4 wB4 sB4 sm4=>?_⟩;injection z with z1 z2;subst z1 z2;obtain⟨w5,s5⟩:=stay w4 sB4 wB4;have i5:=n6.trans s5;cases kb with
    | false=>
     rw[Xj (by decide)]at g2 ⊢;exact⟨B4,LB4,mB4,w5,i5,g2,λhq=>⟨kJ (f9 hq).1 (sm4 hq),(f9 hq).2⟩⟩
    | true=>
     rw[Xb rfl]at g2 ⊢;rcases wq g2 with⟨B6,y,g3,g4⟩|⟨B6,cc,g3,g4⟩
     rotate_left
     ·exact⟨B4,LB4,_,mB4,wB4,g3,xcB g4 w5 i5,λE' s' z=>by cases z⟩
     refine⟨B4,LB4,_,mB4,wB4,g3,(λ_ _ z=>by cases z),λE' s' z x LB6 H6 ex ey mB6 wB6 sB6 sm6=>?_⟩;injection z with z1 z2;subst z1 z2;obtain⟨w7,s7⟩:=stay w5 sB6 wB6;have pm3:((some x::LB6)++(af.map some++(_root_.Q.clr R L1++T.map some))).Perm (LB6++((af++[x]).map some++(_root_.Q.clr R L1++T.map some))):=by
      rw[Xm,List.cons_append];have:(LB6++(af.map some++[x].map some++(_root_.Q.clr R L1++T.map some)))=(LB6++af.map some)++some x::(_root_.Q.clr R L1++T.map some):=by simp
      rw[this];refine List.Perm.trans ?_ List.perm_middle.symm;rw[Xy]
     refine⟨B6,LB6,af++[x],mB6,w7.perm pm3,(i5.trans s7).perm (List.Perm.refl _) pm3,by simp,by simp,?_,λhq=>⟨kJ (f9 hq).1 (kJ (sm4 hq) (sm6 hq).1),λb hb=>?_⟩⟩
     ·rw[Xm,show[x].map Sl.sd=[y]from by simp[Sl.sd,ex,ey]];exact g4
     ·rw[Xm,jK]at hb;rcases List.mem_append.mp hb with hb|hb
      ·exact(f9 hq).2 b hb
      ·have hb:b∈x.own:=by simpa using hb
       exact xK (kJ (f9 hq).1 (sm4 hq)) ((sm6 hq).2 b hb)
theorem q_lc(N:List Str)(hi:QI X Z q tg it ao)
  (hg:∀cl C s0 H0 fp,QG (lcE X scope N cl C s0 H0 fp Z.EX) Z ((List.range R.length).map (k + ·)) tt tg) (ht:∀cl C s0 H0 fp,PTs (lcE X scope N cl C s0 H0 fp Z.EX) d7 (tT Z q u)) (he:∀cl C s0 H0 fp,QE (lcE X scope N cl C s0 H0 fp Z.EX) Z q c dk)
  (gx:z9 X Z.EX) (top:Jk X) (hR:R.Nodup) (hr:∀j∈R,j<X.N.length) (hc:autoParam (X.calm=true) Ŕ) (hk:autoParam (scope.kind=.function) Ŕ) (io:autoParam (Q9 X.N X.env.scope scope N k R=true) Ŕ) (hs:autoParam (∀x,foldedSetIterable ao X.env x=pure x) Ŗ):
  QE X Z q (cLC o k R it tt u c) (.ListComp dk [⟨tg,ao,d7,0⟩] scope pos):=λpins s σ H Q I hw=>
 qzw (EX:=Z.EX) N k R (vw5 hi) hg ht he gx top hc hk io hs pins s σ H Q I (kzi I.len hR hr hw)
theorem kxt{EX:XK}{wi:TI}{g:TG}{tte:TT}{te:TE}{i:Nat}{y:Str}{py c8:Pos}(N:List Str)(k:Nat)(R:List Nat)(hN:X.N.Nodup)(hy:X.N[i]?=some y)(hx:Loc X.env.scope y)(hi:PI X tg ao wi)
  (hg:∀cl C s0 H0 fp,PG (lcE X scope N cl C s0 H0 fp EX) tg g) (ht:∀cl C s0 H0 fp,PTs (lcE X scope N cl C s0 H0 fp EX) d7 tte) (he:∀cl C s0 H0 fp,PE (lcE X scope N cl C s0 H0 fp EX) dk te) (gx:z9 X EX) (top:Jk X)
  (gc:autoParam (swapsWith (.ListComp dk [⟨tg,ao,d7,0⟩] scope pos) (some (.Name y py)) c8.line X.env=pure true) Ŕ)
  (hc:autoParam (X.calm=true) Ŕ) (hk:autoParam (scope.kind=.function) Ŕ) (io:autoParam (Q9 X.N X.env.scope scope N k R=true) Ŕ) (hs:autoParam (∀x,foldedSetIterable ao X.env x=pure x) Ŗ)
  (hf:autoParam (X.fn y=true\/X.env.scope.names.lookup y=some .local) ś):
  PS X (.Assign [.Name y py] (.ListComp dk [⟨tg,ao,d7,0⟩] scope pos) c8) (λD σ H=>tLC wi g tte te k R σ H λv H1=>D.nx (σ.set i (some v)) H1):=by
 intro pins s σ H D I h;have sc:=kvq hk io;obtain⟨cl,gw,cw,bb⟩:=kj4 (scope:=scope) (env:=X.env) λy hy e=>I.ok.has y.1 (sc.caps y hy e)
 rw[exec_Assign_Name_used _ _ _ _ gc];refine X0 (wpAny_standAt (X0 ?_));show wpAny _ X.A (do let _ <-comprehension (.ListComp dk [⟨tg,ao,d7,0⟩] scope pos) scope X.env _ (newList []) false (eval ao X.env) (some (assign (.Name y py) X.env))) _ _ s;refine X0 (thn (wpAny_comprehension_free (use:=some (assign (.Name y py) X.env)) (Q:=λ_ s'=>SP X pins D .next s') rfl hs gw sc.kind sc.names
  (thn (hi pins s σ H _ I h) λv s1 h1=>thn h1 λitv s2 h2=>?_)) λ_ s' hq=>X9 (X9 hq))
 obtain⟨it,fp,tn,J,H2,e,I2,T,bi,f2,W,w0,dw⟩:=h2;subst e;refine kkw (EX:=EX) (RR:=λaf C=>compPost (model X.prog X.w) X.A X.xe (some (assign (.Name y py) X.env)) (λ_ s'=>SP X pins D .next s') af C) hc top sc cw bb (hg cl) (ht cl) (he cl) I2 T bi f2 w0 dw ?_ ?_
 rotate_left
 ·intro D' C s' bz σ' H' x T Cc fl hC t q;exact qqf gx I2 f2 hC t q
 intro L C oC m ys H' s' I' eC nC fC q;show wpAny _ X.A (assign (.Name y py) X.env (.ref L)) _ _ s';refine wpAny_assign_Name (kja I' hN hy hx (v:=.ref L) rfl (λkt I''=>?_) hf);have pC:=I''.pin (C,oC) (lr9 _ (lr9 _ (List.mem_singleton.mpr rfl)));refine⟨m,nC.at' λo e=>?_,λh' sb=>⟨_,_,I''.unpinned.turned (it:=C) (t':=kt.toks) (λb o hb e=>(sb.2 b hb).trans e) fC.1 fC.2.1 fC.2.2.2.1 fC.2.2.2.2.1 fC.2.2.2.2.2,q⟩⟩;rw[eC]at e;cases e;exact pC.1
theorem kjj{i:Nat}{y:Str}{py c8:Pos}(N:List Str)(hN:X.N.Nodup)(hy:X.N[i]?=some y)(hx:Loc X.env.scope y)(hi:QI X Z q tg it ao)
  (hg:∀cl C s0 H0 fp,QG (lcE X scope N cl C s0 H0 fp Z.EX) Z ((List.range R.length).map (k + ·)) tt tg) (ht:∀cl C s0 H0 fp,PTs (lcE X scope N cl C s0 H0 fp Z.EX) d7 (tT Z q u)) (he:∀cl C s0 H0 fp,QE (lcE X scope N cl C s0 H0 fp Z.EX) Z q c dk)
  (gx:z9 X Z.EX) (top:Jk X) (hR:R.Nodup) (hr:∀j∈R,j<X.N.length) (hp:autoParam (i∉pn) ŕ)
  (gc:autoParam (swapsWith (.ListComp dk [⟨tg,ao,d7,0⟩] scope pos) (some (.Name y py)) c8.line X.env=pure true) Ŕ)
  (hc:autoParam (X.calm=true) Ŕ) (hk:autoParam (scope.kind=.function) Ŕ) (io:autoParam (Q9 X.N X.env.scope scope N k R=true) Ŕ) (hs:autoParam (∀x,foldedSetIterable ao X.env x=pure x) Ŗ)
  (hf:autoParam (X.fn y=true\/X.env.scope.names.lookup y=some .local) ś):
  QS X Z pn (jk i (cLC o k R it tt u c)) (.Assign [.Name y py] (.ListComp dk [⟨tg,ao,d7,0⟩] scope pos) c8):=
 qzj (q:=q) hp λpins s σ H D I hw=>kxt N k R hN hy hx (vw5 hi) hg ht he gx top gc hc hk io hs hf pins s σ H D I (kzi I.len hR hr hw)
end
end
section
variable {X:Cx}{Z:Fx0}{K:PySem.W.Frag}{pn:List Nat}{q qa qb:Bool}{a b c:Ex}{u:Ts}{tg e ea eb:Expr}{σ:L2.St}{H:Hp}{L:Ls}{E:En}{pos p:Pos}{x:Str}{id T:String}{r:List V->Hp->VK->Prop}{f:Sd->Option Sd}{g:Sd->Sd->Option Sd}
theorem qjt:PTs X [] (tT Z q _root_.Q.tYes):=λpins s σ H Q I ak=>ex8 ak λE L r m w hc xc k=>by
 cases oq9 hc;exact qvp pins s σ H Q I (k _ _ rfl L H m w Step.refl λ_=>wX)
theorem vqd(h:QT X Z q u e):PTs X [e] (tT Z q u):=qvo h
theorem vqh(hc:CallR X (.builtin id) r)(ad:Ad1 Z.K (λv H Q=>r [v] H Q) f)(ha:QV X Z q a ea)(hm:X.mg x=none)(hv:bootBuiltins x=some (.builtin id))(hg:autoParam (Gl X x) Ŕ)(hn:autoParam (x≠"__name__") ŕ)(dq:autoParam ((x==("__debug__":Str))=false) ŕ)
  (he:autoParam (starEach [ea] X.env=(false,eval ea X.env)::starEach [] X.env) Ŕ) (bg:autoParam ((backTo pos (starEach [] X.env)).any (·.1)=false) Ŕ):QE X Z q (cF1 f a) (.Call (.Name x p) [ea] [] pos):=
 kK (kjm hc hg hm hv (vz ha vX he) hn dq he bg) fun σ H Q h=>kk6 (r:=λv H Q=>r [v] H Q) ad h
theorem Q0(hc:CallR X (.type T) r)(ad:Ad1 Z.K (λv H Q=>r [v] H Q) f)(ha:QV X Z q a ea)(hm:X.mg x=none)(hv:bootBuiltins x=some (.type T))(hg:autoParam (Gl X x) Ŕ)(hn:autoParam (x≠"__name__") ŕ)(dq:autoParam ((x==("__debug__":Str))=false) ŕ)
  (he:autoParam (starEach [ea] X.env=(false,eval ea X.env)::starEach [] X.env) Ŕ) (bg:autoParam ((backTo pos (starEach [] X.env)).any (·.1)=false) Ŕ):QE X Z q (cF1 f a) (.Call (.Name x p) [ea] [] pos):=
 kK (kxy hc hg hm hv (vz ha vX he) hn dq he bg) fun σ H Q h=>kk6 (r:=λv H Q=>r [v] H Q) ad h
theorem q_b2(hc:CallR X (.builtin id) r)(ad:Ad2 Z.K (λv w H Q=>r [v,w] H Q) g)(ha:QV X Z q a ea)(hb:QV X Z true b eb)(hm:X.mg x=none)(hv:bootBuiltins x=some (.builtin id))(hg:autoParam (Gl X x) Ŕ)(hn:autoParam (x≠"__name__") ŕ)(dq:autoParam ((x==("__debug__":Str))=false) ŕ)
  (he:autoParam (starEach [ea,eb] X.env=(false,eval ea X.env)::starEach [eb] X.env) Ŕ) (gr:autoParam (starEach [eb] X.env=(false,eval eb X.env)::starEach [] X.env) Ŕ) (bg:autoParam ((backTo pos (starEach [eb] X.env)).any (·.1)=false) Ŕ):QE X Z q (cF2 g a b) (.Call (.Name x p) [ea,eb] [] pos):=
 kK (kjm hc hg hm hv (vz ha (vz hb vX gr) he) hn dq he bg) fun σ H Q h=>ZX (r:=λv w H Q=>r [v,w] H Q) ad h
theorem vke:Ad1 K (λv H Q=>kxe K [v] H Q) (pu1 q9):=by
 intro H x s Q ok hf k;unfold pu1 at hf;have fin:∀n:Nat,q9 x.d=some (.int n)->Q (.int n) H:=λn e=>by
  rw[show(x.o,x.d).2=x.d from rfl,e]at hf;cases oq9 hf;exact k ⟨.dp,.int n,.int n,[]⟩ H rfl rfl K2
 cases hx:x.d with
 |lst ds=>
  obtain⟨l,xs,bs,e,q,r,_⟩:=items ok (.inl hx);refine .inl ⟨l,xs,by rw[e],?_,by rw[<-r.len];exact fin ds.length (by rw[hx];rfl)⟩;rcases q with⟨_,z⟩|⟨_,z⟩
  ·exact .inl (JZ z)
  ·exact .inr z
 |tup ds=>
  obtain⟨l,xs,bs,e,q,r,_⟩:=items ok (.inr hx);refine .inl ⟨l,xs,by rw[e],?_,by rw[<-r.len];exact fin ds.length (by rw[hx];rfl)⟩;rcases q with⟨_,z⟩|⟨_,z⟩
  ·exact .inl (JZ z)
  ·exact .inr z
 |str z=>
  obtain⟨e,hz⟩:=wZ ok hx;exact .inr (.inl ⟨z,by rw[e],hz,fin z.length (by rw[hx];rfl)⟩)
 |_=>rw[show(x.o,x.d).2=x.d from rfl,hx]at hf;cases hf
noncomputable def qvf(K:PySem.W.Frag):List V->Hp->VK->Prop:=λxs H Q=>vw2 K xs H Q\/(∃p ys U,xs=[.ref p,.ty U]/\SqT K H p ys/\U∈kinds.tail/\Q (.bl (YQ "tuple" U)) H)\/∃p ys U,xs=[.ref p,.ty U]/\SqL K H p ys/\U∈kinds.tail/\Q (.bl (YQ "list" U)) H
theorem qj7(hK:autoParam (X.K=K) Ŕ):CallR X (.builtin "isinstance") (qvf K):=by
 subst hK;intro pins s σ H xs us Q I r h;rcases h with h|⟨p,ys,U,rfl,hq,hU,q⟩|⟨p,ys,U,rfl,hq,hU,q⟩
 ·exact qkq pins s σ H xs us Q I r h
 ·obtain⟨u,w',rfl,r1,r2⟩:=XY r;cases(show w'=Value.type U from r2);cases r1;obtain⟨aa,_,⟨o,h1,h2,_⟩,_⟩:=I.tuple hq;exact Xw PySem.W.kitx_tuple I.kIn ⟨o,h1,h2⟩ (kqv (T:="tuple") (by decide) hU) (λz=>nomatch z) λtk=>⟨.bl _,H,I.tok _,rfl,q⟩
 ·obtain⟨u,w',rfl,r1,r2⟩:=XY r;cases(show w'=Value.type U from r2);cases r1;obtain⟨aa,_,⟨o,n,h1,h2,_⟩,_⟩:=I.list hq;exact Xw PySem.W.kitx_list I.kIn ⟨o,h1,h2⟩ (kqv (T:="list") (by decide) hU) (λz=>nomatch z) λtk=>⟨.bl _,H,I.tok _,rfl,q⟩
theorem vkf{U:String}(hU:U∈kinds.tail):Ad1 K (λv H Q=>qvf K [v,.ty U] H Q) (pu1 (k9 U)):=by
 intro H x s Q ok hf k;unfold pu1 k9 at hf;have fin:∀(T:String),kind x.d=T->(∀c f,x.d≠.obj c f)->Q (.bl (YQ T U)) H:=λT e ho=>by
  cases hx:x.d with
  |obj c f=>exact absurd hx (ho c f)
  |dct ai=>rw[show(x.o,x.d).2=x.d from rfl,hx]at hf;cases hf
  |_=>
   rw[show(x.o,x.d).2=x.d from rfl,hx]at hf;cases oq9 hf;rw[<-e,hx];exact k ⟨.dp,.bl _,.bl _,[]⟩ H rfl rfl ww
 cases hx:x.d with
 |non=>exact .inl ⟨x.v,"NoneType",U,rfl,by rw[qqc ok hx];exact .non,by decide,hU,fin _ (by rw[hx];rfl) (by rw[hx];exact λ_ _ z=>nomatch z)⟩
 |bl k=>exact .inl ⟨x.v,"bool",U,rfl,by rw[Qz ok hx];exact .bl _,by decide,hU,fin _ (by rw[hx];rfl) (by rw[hx];exact λ_ _ z=>nomatch z)⟩
 |int k=>exact .inl ⟨x.v,"int",U,rfl,by rw[qK ok hx];exact .int _,by decide,hU,fin _ (by rw[hx];rfl) (by rw[hx];exact λ_ _ z=>nomatch z)⟩
 |str k=>exact .inl ⟨x.v,"str",U,rfl,by rw[(wZ ok hx).1];exact .str _,by decide,hU,fin _ (by rw[hx];rfl) (by rw[hx];exact λ_ _ z=>nomatch z)⟩
 |lst ds=>
  obtain⟨l,xs,bs,e,q,r,_⟩:=items ok (.inl hx);have f:=fin "list" (by rw[hx];rfl) (by rw[hx];exact λ_ _ z=>nomatch z);rcases q with⟨_,z⟩|⟨z,_⟩
  ·exact .inr (.inr ⟨l,xs,U,by rw[e],z.sq,hU,f⟩)
  ·rw[hx]at z;cases z
 |tup ds=>
  obtain⟨l,xs,bs,e,q,r,_⟩:=items ok (.inr hx);have f:=fin "tuple" (by rw[hx];rfl) (by rw[hx];exact λ_ _ z=>nomatch z);rcases q with⟨z,_⟩|⟨_,z⟩
  ·rw[hx]at z;cases z
  ·exact .inr (.inl ⟨l,xs,U,by rw[e],z,hU,f⟩)
 |dct ai=>
  rw[show(x.o,x.d).2=x.d from rfl,hx]at hf;cases hf
 |obj c f=>
  rw[show(x.o,x.d).2=x.d from rfl,hx]at hf;cases hf
theorem wY{U:String}{y:Str}{p2:Pos}(ha:QV X Z q a ea)(hm:X.mg "isinstance"=none)(hmy:X.mg y=none)(hy:bootBuiltins y=some (.type U))(hK:X.K=Z.K)(hU:autoParam (U∈kinds.tail) ŕ)(hg:autoParam (Gl X "isinstance") Ŕ)(hgy:autoParam (Gl X y) Ŕ)(hny:autoParam (y≠"__name__") ŕ)(hdy:autoParam ((y==("__debug__":Str))=false) ŕ)
  (he:autoParam (starEach [ea,.Name y p2] X.env=(false,eval ea X.env)::starEach [.Name y p2] X.env) Ŕ) (gr:autoParam (starEach [.Name y p2] X.env=(false,eval (.Name y p2) X.env)::starEach [] X.env) Ŕ) (bg:autoParam ((backTo pos (starEach [.Name y p2] X.env)).any (·.1)=false) Ŕ):
  QE X Z q (cF1 (pu1 (k9 U)) a) (.Call (.Name "isinstance" p) [ea,.Name y p2] [] pos):=
 kK (kjm (qj7 hK) hg hm kk4 (vz ha (vz (qw1 (v:=.ty U) hgy hmy hy rfl hny hdy) vX gr) he) (by decide) (by decide) he bg) fun σ H Q h=>kk6 (r:=λv H Q=>qvf Z.K [v,.ty U] H Q) (vkf hU) h
theorem qjh:Ad1 K (λv H Q=>kxf [v] H Q) (pu1 vY):=by
 intro H x s Q ok hf k;unfold pu1 vY at hf;dsimp only at hf
 split at hf
 ·rename_i i e;cases oq9 hf;exact .inl ⟨i,by rw[qK ok e],k ⟨.dp,.int _,.int _,[]⟩ H rfl rfl K2⟩
 ·rename_i i e;cases oq9 hf;exact .inr (.inl ⟨i,by rw[Qz ok e],k ⟨.dp,.int _,.int _,[]⟩ H rfl rfl K2⟩)
 ·rename_i z e
  split at hf
  ·rename_i hz;cases ht:PySem.intText? z with
   |none=>rw[ht]at hf;cases hf
   |some n=>
    rw[ht]at hf;cases oq9 hf;exact .inr (.inr ⟨z,n,by rw[(wZ ok e).1],ht,hz,k ⟨.dp,.int _,.int _,[]⟩ H rfl rfl K2⟩)
  ·cases hf
 ·cases hf
theorem kk5:Ad1 K (λv H Q=>kxd K [v] H Q) K6:=by
 intro H x s Q ok hf k;unfold K6 at hf;dsimp only at hf
 split at hf
 ·rename_i ds e
  split at hf
  ·rename_i hl;cases oq9 hf;obtain⟨l,xs,bs,ev,q3,r3,h3⟩:=zj ok (.inl e) hl;have q3:LsR K H l xs:=by rcases q3 with⟨_,z⟩|⟨z,_⟩;exact z;rw[e]at z;cases z
   exact⟨l,xs,by rw[ev],.inl (JZ q3),λp hp=>k ⟨.rt,.lst ds,.ref p,p::bs⟩ _ rfl rfl (QK hp r3 h3)⟩
  ·cases hf
 ·rename_i ds e
  split at hf
  ·rename_i hl;cases oq9 hf;obtain⟨l,xs,bs,ev,q3,r3,h3⟩:=zj ok (.inr e) hl;have q3:SqT K H l xs:=by rcases q3 with⟨z,_⟩|⟨_,z⟩;rw[e]at z;cases z;exact z
   exact⟨l,xs,by rw[ev],.inr q3,λp hp=>k ⟨.rt,.lst ds,.ref p,p::bs⟩ _ rfl rfl (QK hp r3 h3)⟩
  ·cases hf
 ·cases hf
noncomputable def kvh(K:PySem.W.Frag):List V->Hp->VK->Prop:=λxs H Q=>∃p ys,xs=[.ref p]/\((SqL K H p ys/\∀l,H l=none->Q (.ref l) (upd H l (.tup ys)))\/(SqT K H p ys/\Q (.ref p) H))
theorem qj9(hK:X.K=K):CallR X (.type "tuple") (kvh K):=by subst hK;exact kk3
theorem qku:Ad1 K (λv H Q=>kvh K [v] H Q) JX:=by
 intro H x s Q ok hf k;unfold JX at hf;dsimp only at hf
 split at hf
 ·rename_i ds e
  split at hf
  ·rename_i hl;cases oq9 hf;obtain⟨l,xs,bs,ev,q3,r3,h3⟩:=zj ok (.inl e) hl;have q3:LsR K H l xs:=by rcases q3 with⟨_,z⟩|⟨z,_⟩;exact z;rw[e]at z;cases z
   exact⟨l,xs,by rw[ev],.inl ⟨JZ q3,λp hp=>k ⟨.no,.tup ds,.ref p,bs⟩ _ rfl rfl (Z3 hp r3 h3)⟩⟩
  ·cases hf
 ·rename_i ds e
  split at hf
  ·rename_i hl;cases oq9 hf;obtain⟨l,xs,bs,ev,q3,r3,h3⟩:=zj ok (.inr e) hl;have q3:SqT K H l xs:=by rcases q3 with⟨z,_⟩|⟨_,z⟩;rw[e]at z;cases z;exact z
   refine⟨l,xs,by rw[ev],.inr ⟨q3,k ⟨.no,.tup ds,.ref l,bs⟩ H rfl rfl ⟨wX,?_,λb hb=>(nomatch hb),Xu,λb hb=>h3 b hb⟩⟩⟩;show RepL K H true (.tup ds) (.ref l) bs;unfold RepL;exact⟨l,xs,rfl,q3,r3⟩
  ·cases hf
 ·cases hf
theorem vvj{h:Int->Int->Int}{f:Int->Int->Option Int}(hh:∀i j,f i j=some (h i j)):Ad2 K (λv w H Q=>(λxs H Q=>∃i j,xs=[.int i,.int j]/\Q (.int (h i j)) H:List V->Hp->VK->Prop) [v,w] H Q) (pu2 (i2 f)):=by
 intro H x y s Q ox oy hf k;unfold pu2 i2 at hf;dsimp only at hf
 split at hf
 ·rename_i i j e1 e2;rw[hh]at hf;cases oq9 hf;exact⟨i,j,by rw[qK ox e1,qK oy e2],k ⟨.dp,.int _,.int _,[]⟩ H rfl rfl K2⟩
 ·cases hf
theorem qjd{g:Bool}:∀{ds:List D} {bs:List Bool} {xs:List V} {as:List Addr},bls ds=some bs->RepA K H g ds xs as->xs=bs.map V.bl
 | [],bs,xs,as,h,r=>by
  cases oq9 h;unfold RepA at r;exact r.1
 | d::ds,bs,xs,as,h,r=>by
  cases d with
  | bl b=>
   unfold bls at h;cases hb:bls ds with
   |none=>rw[hb]at h;cases h
   |some bu=>
    rw[hb]at h;cases oq9 h;unfold RepA at r;obtain⟨x,rr,c1,c2,rfl,rfl,h1,h2⟩:=r;unfold RepL at h1;rw[h1.1,qjd hb h2];rfl
  |_=>unfold bls at h;cases h
theorem vka{g:Int->Int->Bool}:∀x y s,pu2 (c2 g) x y=some s->∃k,s.2=.bl k:=by
 intro x y s h;unfold pu2 c2 at h
 split at h
 ·cases oq9 h;exact⟨_,rfl⟩
 ·cases h
theorem V4:∀x y s,pu2 fEq x y=some s->∃k,s.2=.bl k:=by
 intro x y s h;unfold pu2 fEq at h
 split at h
 ·cases oq9 h;exact⟨_,rfl⟩
 ·cases h
theorem qwz:∀x y s,pu2 fNe x y=some s->∃k,s.2=.bl k:=by
 intro x y s h;unfold pu2 fNe at h
 split at h
 ·cases oq9 h;exact⟨_,rfl⟩
 ·cases h
theorem qql{x y d:D}(h:fIn x y=some d):∃k,d=.bl k:=by
 unfold fIn at h
 split at h
 ·split at h
  ·cases oq9 h;exact⟨_,rfl⟩
  ·cases h
 ·split at h
  ·cases oq9 h;exact⟨_,rfl⟩
  ·cases h
 ·split at h
  ·cases oq9 h;exact⟨_,rfl⟩
  ·cases h
 ·cases oq9 h;exact⟨_,rfl⟩
 ·cases h
theorem vvg:∀x y s,pu2 xQ x y=some s->∃k,s.2=.bl k:=by
 intro x y s h;unfold pu2 xQ at h
 split at h
 ·cases h
 ·cases hf:fIn x.2 y.2 with
  |none=>rw[hf]at h;cases h
  |some d=>
   rw[hf]at h;cases oq9 h;exact qql hf
theorem qkt:∀x y s,pu2 V7 x y=some s->∃k,s.2=.bl k:=by
 intro x y s h;unfold pu2 V7 Z8 at h
 split at h
 ·cases h
 ·cases hf:fIn x.2 y.2 with
  |none=>rw[hf]at h;cases h
  |some d=>
   obtain⟨k,rfl⟩:=qql hf;rw[hf]at h;cases oq9 h;exact⟨_,rfl⟩
theorem kw2:∀x y s,f2First fIsNon x y=some s->∃k,s.2=.bl k:=by
 intro x y s h;unfold f2First fIsNon at h
 split at h
 ·cases oq9 h;exact⟨_,rfl⟩
 ·cases h
theorem kv5:∀{xs:List V} {us:List Value},xs.length=us.length->(∀(i:Nat) (x:V) (u:Value),xs[i]?=some x->us[i]?=some u->RelV x u)->Vals xs us
 |[],[],_,_=>.nil
 |[],_::_,h,_=>by simp at h
 |_::_,[],h,_=>by simp at h
 |x::xs,u::us,h,f=>.cons (f 0 x u (by simp) (by simp)) (kv5 (by simpa using h) λi x u e1 e2=>f (i+1) x u (by simpa using e1) (by simpa using e2))
theorem vqf{p2 fy:Pos}(ha:QV X Z q a ea)(hmr:X.mg "range"=none)(hml:X.mg "list"=none)(hc:autoParam (X.calm=true) Ŕ)(hgr:autoParam (Gl X "range") Ŕ)(hgl:autoParam (Gl X "list") Ŕ)
  (bq:autoParam (starEach [ea] X.env=(false,eval ea X.env)::starEach [] X.env) Ŕ) (bg:autoParam ((backTo fy (starEach [] X.env)).any (·.1)=false) Ŕ)
  (ms:autoParam (starEach [.Call (.Name "range" p2) [ea] [] fy] X.env=(false,eval (.Call (.Name "range" p2) [ea] [] fy) X.env)::starEach [] X.env) Ŕ) (lr:autoParam ((backTo pos (starEach [] X.env)).any (·.1)=false) Ŕ):
  QE X Z q (V9 a) (.Call (.Name "list" p) [.Call (.Name "range" p2) [ea] [] fy] [] pos):=by
 have hr:PE X (.Call (.Name "range" p2) [ea] [] fy) (fun σ H Q=>tV Z q a σ H λv H1=>∃j:Int,v=.int j/\∀pp,H1 pp=none->Q (.ref pp) (upd H1 pp (.rng 0 j))):=by
  intro pins s σ H Q I h;refine Call_ (QY I hgr hmr boot_range (Yb (thn (vz ha vX bq fy pins s σ H (λvs H1=>∃j:Int,vs=[.int j]/\∀pp,H1 pp=none->Q (.ref pp) (upd H1 pp (.rng 0 j))) I ?_) λus s1 ⟨vs,H1,I1,r1,j,e,q1⟩=>?_) bq bg))
  ·obtain⟨E,L,r,m,w,b8,xc,k⟩:=h;exact⟨E,L,r,m,w,b8,xc,λE' s' z x L' H' e1 e2 m' w' ok fr sr st sm=>by
    obtain⟨j,ej,qj⟩:=k E' s' z x L' H' e1 e2 m' w' ok fr sr st sm;exact⟨j,by rw[ej],qj⟩⟩
  ·subst e;obtain⟨u,rfl,t,rfl⟩:=r1.one;refine call_range_1 ⟨.ref s1.heap.objs.size,_,I1.laid (o:=.rng 0 j) (λb o e=>X2 _ e) (X8 _) ⟨_,_,_,Xd _ rfl⟩,rfl,q1 _ I1.fresh⟩
 intro pins s σ H Q I ⟨E,L,r,m,w,b8,xc,k⟩;refine wpAny_Call_Name_kw (QY I hgl hml Kw ?_);refine Yb (thn (vz hr vX ms pos pins s σ H (λvs H1=>∃pp j,vs=[.ref pp]/\H1 pp=some (.rng 0 j)/\vJ j=true/\j.toNat<=big/\∀l,H1 l=none->Q (.ref l) (upd H1 l (.lst ((List.range j.toNat).map λ(i:Nat)=>V.int (0+(i:Int)))))) I ?_) λus s1 ⟨vs,H1,I1,r1,pp,j,e,hp,h62,km,q1⟩=>?_) ms lr
 ·refine v8 m w (show bnd (a E) _=some r from b8) xc λE1 s h1 x L1 H1 e1 e2 m1 w1 ok fr sr st sm=>?_
  cases hx:s.2 with
  | int j=>
   rw [hx]at h1;dsimp only at h1
   split at h1
   ·rename_i hj;cases oq9 h1;refine⟨j,qK ok (e2.trans hx),λpp hpp=>⟨pp,j,rfl,xk,hj.1,hj.2,λl hl=>?_⟩⟩;have s1:jX H1 (upd H1 pp (.rng 0 j)):=wJ hpp;have w2:World Z.K (upd H1 pp (.rng 0 j)) L1:=⟨λx hx=>RepO.kp (w1.ok x hx) (Kp.of_same s1),w1.nd,w1.ds⟩;have bi:Step H L (upd H1 pp (.rng 0 j)) L1:=st.trans ⟨λb ob z _=>s1 b ob z,λb z=>.inl z,λb z=>.inl z⟩;have ra:∀(n:Nat) (ns:List Nat) (Hx:Hp),RepA Z.K Hx true (ns.map λ(i:Nat)=>D.int (0+(i:Int))) (ns.map λ(i:Nat)=>V.int (0+(i:Int))) []:=by
     intro n ns Hx
     induction ns with
     |nil=>unfold RepA;exact⟨rfl,rfl⟩
     |cons i ns ih=>
      rw[List.map_cons,List.map_cons];unfold RepA;exact⟨_,_,[],[],rfl,rfl,Vk,ih⟩
    have o:=QK (K:=Z.K) (H:=upd H1 pp (.rng 0 j)) (fr:=[]) hl (ra 0 (List.range j.toNat) (upd H1 pp (.rng 0 j))) (λ_ z=>(nomatch z));obtain⟨w3,cz⟩:=JQ w2 bi o (λ_ z=>(nomatch z)) (λ_ z=>(nomatch z)) (λ_ z=>(nomatch z));refine k _ _ rfl ⟨.rt,.lst (jY 0 j),.ref l,[l]⟩ L1 _ rfl rfl m1 (by simpa [jY]using w3) (by simpa [jY]using cz) λhq=>⟨kJ (sm hq) (kJ s1 o.same),λb hb=>?_⟩
    have:b=l:=by simpa [Sl.own]using hb
    subst this;exact xK (kJ (sm hq) s1) hl
   ·cases h1
  | _=>rw[hx]at h1;cases h1
 ·subst e;obtain⟨u,rfl,rx⟩:=r1.one;cases rx;obtain⟨t1,t2,t3,hg⟩:=(show ObjOk X.prog X.w H1 s1.heap pp (.rng 0 j)from I1.hok pp _ hp);obtain⟨j1,j2⟩:=jwm h62;have e2:Builtin.Range.rangeSize 0 j 1=((j.toNat:Nat):Int):=by rw[rangeSize_one];split<;>omega
  refine call_list_range (n:=j.toNat) (I1.ok.hd hc) (show IsRange s1.heap pp 0 j 1 t1 t2 t3 from hg) (small_one (by omega) (by omega) j1 j2) e2 km λh' tk dv c' kp e4 fw=>?_
  obtain⟨hs,hg2⟩:=fw;have hv:Vals ((List.range j.toNat).map λ(i:Nat)=>V.int (0+(i:Int))) dv.toList:=kv5 (by simp[hs]) λi x u ex eu=>by
   rw[Array.getElem?_toList]at eu;obtain⟨t,rfl⟩:=hg2 i u eu;rw[Xg]at ex;cases hr:(List.range j.toNat)[i]? with
   | none=>rw[hr]at ex;cases ex
   | some m=>
    rw[hr]at ex;have hm:m=i:=by
     obtain⟨_,h2⟩:=List.getElem?_eq_some_iff.mp hr
     simpa using h2.symm
    subst hm;cases oq9 ex;exact⟨t,by rw[Int.mul_one]⟩
  refine⟨.ref s1.heap.objs.size,_,I1.laid (a:=s1.heap.objs.size) (o:=.lst ((List.range j.toNat).map λ(i:Nat)=>V.int (0+(i:Int)))) (t':=tk) kp (X8 _) ⟨by rw[X3,List.length_range];exact km,dv.toList,c',hv,by simpa using e4⟩,rfl,q1 _ I1.fresh⟩
end
end Q
namespace Q
open PySem
def zY(n d:Nat):Option Int->Nat
 |none=>d
 |some v=>if v<0 then(v+(n:Int)).toNat else min v.toNat n
noncomputable def xX(xs:List D)(lo hi:Option Int):List D:=(xs.drop (zY xs.length 0 lo)).take (zY xs.length xs.length hi - zY xs.length 0 lo)
noncomputable def fSl:Sd->Option Int->Option Int->Option Sd:=λx lo hi=>match x.2 with
 |.lst xs=>if qv x then some (.rt,.lst (xX xs lo hi))else none
 |.tup xs=>if qv x/\¬(zY xs.length 0 lo=0/\zY xs.length xs.length hi=xs.length)then some (.no,.tup (xX xs lo hi))else none
 |.str z=>if(Txt.slice z lo hi).length<=big then some (.dp,.str (Txt.slice z lo hi))else none
 |_=>none
noncomputable def V0:Option Ex->Ev (Option Int)
 |none,E=>some (.ok E none)
 |some c,E=>bnd (c E) λE x=>match x.2 with
  |.int i=>some (.ok E (some i))
  |_=>none
noncomputable def cSl(a:Ex)(lo hi:Option Ex):Ex:=λE=>bnd (a E) λE x=>bnd (V0 lo E) λE l=>bnd (V0 hi E) λE h=>val E (fSl x l h)
def vjz:Nat->List D->List D
 |_,[]=>[]
 |k,d::ds=>.tup [.int k,d]::vjz (k+1) ds
def vq:List D->List D->List D
 |a::x,b::y=>.tup [a,b]::vq x y
 |_,_=>[]
def lstOf:D->Option (List D)
 |.lst xs=>some xs
 |_=>none
def J9:List D->Option (List Str)
 |[]=>some []
 |.str z::ds=>(J9 ds).map (z :: ·)
 |_=>none
def vjr:List D->Option (List Int)
 |[]=>some []
 |.int z::ds=>(vjr ds).map (z :: ·)
 |_=>none
noncomputable def vwg(a:Str):List Str->List Str
 |[]=>[a]
 |b::r=>if Spec.ltCps b.cps.toList a.cps.toList then b::vwg a r else a::b::r
def qxv:List Str->List Str
 |[]=>[]
 |a::r=>vwg a (qxv r)
def vkt(a:Int):List Int->List Int
 |[]=>[a]
 |b::r=>if b<a then b::vkt a r else a::b::r
def qxw:List Int->List Int
 |[]=>[]
 |a::r=>vkt a (qxw r)
noncomputable def qws:Sd->Option Sd:=λx=>match x.2 with
 | .lst ds=>(match J9 ds with
  |some ss=>if ss.length<64 then some (.rt,.lst ((qxv ss).map .str))else none
  |none=>(match vjr ds with
   |some is=>if is.length<64 then some (.rt,.lst ((qxw is).map .int))else none
   |none=>none))
 |_=>none
noncomputable def Zq:D->D->Option D:=λxs x=>match xs with
 |.lst ys=>if x.flat 30&&D.flats 30 ys then(ys.findIdx? λz=>peq z x).map λ(j:Nat)=>D.int (j:Int)else none
 |.tup ys=>if x.flat 30&&D.flats 30 ys then(ys.findIdx? λz=>peq z x).map λ(j:Nat)=>D.int (j:Int)else none
 |_=>none
def isSq:D->Bool
 |.lst _=>true
 |.tup _=>true
 |_=>false
def YZ(a b:Ex):Ex:=λE=>bnd (a E) λE x=>if isSq x.2 then bnd (b E) λE y=>val E (pu2 Zq x y)else none
noncomputable def W6(i:Nat)(c:Ex):Ex:=λE=>if Vz E[i]? then bnd (c E) λE x=>match E[i]?,x.2 with
 | some (some (o,.lst xs)),.int k=>if o=.no then none else(match ixN xs.length k with
  |some j=>(match xs[j]? with
   |some d=>if d.pure&&vJ k then some (.ok (E.set i (some (o,.lst (xs.eraseIdx j)))) (.dp,d))else none
   |none=>none)
  |none=>none)
 |_,_=>none
 else none
noncomputable def Q1(f:Fn)(cs:List Ex):Ex:=λE=>bnd (qQ cs E) λE xs=>match f (letAll xs)with
 |some (.ok _ y)=>if y.2.pure then some (.ok E (.dp,y.2))else none
 |some (.exc _ c)=>some (.exc E c)
 |none=>none
noncomputable def qY:Sd->Sd->Option Sd:=λx y=>match x.2,y.2 with
 |.tup a,.int k=>if -(2 ^ 63)<=k/\k<2 ^ 63/\a.length*k.toNat<=big/\qv x then some (.no,.tup (List.replicate k.toNat a).flatten)else none
 |_,_=>KW x y
end Q
namespace Q
open PySem
noncomputable def Z4(z:Str):D->Option D:=λd=>match d with
 |.lst ds=>(match J9 ds with
  |some ys=>if(ys.map (·.length)).sum+ys.length*z.length<=100000 then some (.str (Txt.join z ys))else none
  |none=>none)
 |_=>none
def Zx(z:Str)(c:Ex):Ex:=λE=>bnd (c E) λE x=>val E ((Z4 z x.2).map λd=>(.dp,d))
end Q
namespace Q
open PySem
def Wv(x:Sd):Bool:=qJ x||(x.1 == .rt&&(match x.2 with
 |.lst ds=>D.pures ds
 |_=>false))
end Q
namespace Q
open PySem
noncomputable def D.at:List Nat->D->Option D
 |[],d=>some d
 |n::p,.tup ds=>match ds[n]? with
  |some d=>D.at p d
  |none=>none
 |n::p,.lst ds=>match ds[n]? with
  |some d=>D.at p d
  |none=>none
 |_::_,_=>none
noncomputable def D.put(d':D):List Nat->D->D
 |[],_=>d'
 |n::p,.tup ds=>match ds[n]? with
  |some d=>.tup (ds.set n (D.put d' p d))
  |none=>.tup ds
 |n::p,.lst ds=>match ds[n]? with
  |some d=>.lst (ds.set n (D.put d' p d))
  |none=>.lst ds
 |_::_,d=>d
noncomputable def sPA(i:Nat)(p:List Nat)(c:Ex):Sm:=λE=>match E[i]? with
 |some (some (.dp,d))=>(match D.at p d with
  |some (.lst ds)=>if ds.length<big then ofE (c (E.set i none)) λE1 x=>if x.2.pure=true then some (.nx (E1.set i (some (.dp,D.put (.lst (ds++[x.2])) p d))))else none else none
  |_=>none)
 |_=>none
noncomputable def sPC(i:Nat)(p:List Nat):Sm:=λE=>match E[i]? with
 |some (some (.dp,d))=>(match D.at p d with
  |some (.lst _)=>some (.nx (E.set i (some (.dp,D.put (.lst []) p d))))
  |_=>none)
 |_=>none
def K4(c:Ex):Ex:=λE=>bnd (c E) λE x=>if Wv x=true then some (.ok E (.dp,x.2))else none
end Q
namespace Q
open PySem
noncomputable def YJ:D->D->Option (List D)
 |.lst xs,.lst ys=>if xs.length<=big then some (vq xs ys)else none
 |.tup xs,.tup ys=>if xs.length<=big/\xs.length=ys.length then some (vq xs ys)else none
 |_,_=>none
def XZ(c d:Ex):Ev (List D):=λE=>bnd (c E) λE x=>bnd (d E) λE y=>val E (YJ x.2 y.2)
def Z5:D->Option D
 |.lst ds=>(bls ds).map λbs=>.bl (bs.any id)
 |_=>none
noncomputable def QX(E:En):List (Int ⊕ Nat)->Option (List Int)
 |[]=>some []
 |.inl z::r=>(QX E r).map (z :: ·)
 |.inr m::r=>match E[m]? with
  |some (some (_,.int z))=>(QX E r).map (z :: ·)
  |_=>none
noncomputable def xz:List Int->D->Option (List Nat)
 | [],_=>some []
 | z::r,.tup ds=>(match ixN ds.length z with
  |some n=>(match ds[n]? with
   |some d=>(xz r d).map (n :: ·)
   |none=>none)
  |none=>none)
 | z::r,.lst ds=>(match ixN ds.length z with
  |some n=>(match ds[n]? with
   |some d=>(xz r d).map (n :: ·)
   |none=>none)
  |none=>none)
 |_::_,_=>none
noncomputable def W9(i:Nat)(ps:List (Int ⊕ Nat))(c:Ex):Sm:=λE=>match E[i]?,QX E ps with
 |some (some (_,d)),some zs=>(match xz zs d with
  |some p=>sPA i p c E
  |none=>none)
 |_,_=>none
noncomputable def Qv:Nat->Nat->D->Option D
 |0,_,d=>some d
 |n+1,k,d=>match D.at [k] d with
  |some (.tup [_,_,.lst _])=>Qv n (k+1) (D.put (.lst []) [k,2] d)
  |_=>none
noncomputable def WX(i r1 r2 r3:Nat)(p:List Nat):Sm:=λE=>match E[i]? with
 | some (some (.dp,d))=>(match D.at p d with
  |some (.lst ds)=>if r1<E.length/\r2<E.length/\r3<E.length then(match Qv ds.length 0 (.lst ds)with
   |some d1=>some (.nx (((((E.set i none).set r1 none).set r2 none).set r3 none).set i (some (.dp,D.put d1 p d))))
   |none=>none)else none
  |_=>none)
 |_=>none
def wv(F:Fn->Fn):Nat->Fn
 |0=>λ_=>none
 |n+1=>F (wv F n)
end Q
namespace Q
open PySem PySem.Spec PyProof.Rows L2 L3
section
variable {X:Cx}{Z:Fx0}{K:PySem.W.Frag}{pn:List Nat}{q qa qb:Bool}{a b c:Ex}{u:Ts}{tg e ea eb:Expr}{st:Stmt}{σ:L2.St}{H:Hp}{L:Ls}{E:En}{pos p p2:Pos}{x:Str}
theorem kww{us:List Value}{ns:List Int}(h:IntsAre us ns):Vals (ns.map V.int) us:=by
 induction h with
 |nil=>exact .nil
 |cons y t _ ih=>exact .cons ⟨t,rfl⟩ ih
theorem kva{g:Bool}:∀{ds:List D} {bs:List Str} {xs:List V} {as:List Addr},J9 ds=some bs->RepA K H g ds xs as->xs=bs.map V.str/\∀z∈bs,z.length<=sizeLine
 | [],bs,xs,as,h,r=>by
  cases oq9 h;unfold RepA at r;exact⟨r.1,λ_ z=>nomatch z⟩
 | d::ds,bs,xs,as,h,r=>by
  cases d with
  | str b=>
   unfold J9 at h;cases hb:J9 ds with
   |none=>rw[hb]at h;cases h
   |some bu=>
    rw[hb]at h;cases oq9 h;unfold RepA at r;obtain⟨x,rr,c1,c2,rfl,rfl,h1,h2⟩:=r;unfold RepL at h1;obtain⟨i1,i2⟩:=kva hb h2;exact⟨by rw[h1.1,i1];rfl,λz hz=>(List.mem_cons.mp hz).elim (λe=>e▸h1.2.2) (i2 z)⟩
  |_=>unfold J9 at h;cases h
def tPo(Z:Fx0):Option Ex->TO
 |none=>kwz
 |some c=>qxn (tV Z true c)
theorem VJ:PO X none (tPo Z none):=qvv
theorem KK(h:QV X Z true c e):PO X (some e) (tPo Z (some c)):=qvt h
theorem kxu{α:Type}{co:Option Ex}{F:En->Option Int->Option (Res α)}{r:Res α}{G:Option Int->Hp->Prop}(m:Mt E σ L)(w:World Z.K H L)(h:bnd (V0 co E) F=some r)(xc:Xc Z σ H L r)
  (k:∀E1 l,F E1 l=some r->∀L1 H1,Mt E1 σ L1->World Z.K H1 L1->Step H L H1 L1->jX H H1->G l H1):tPo Z co σ H G:=by
 cases co with
 | none=>exact k E none h L H m w Step.refl wX
 | some c=>
  have h:bnd (bnd (c E) λE x=>match x.2 with|.int i=>some (.ok E (some i))|_=>none) F=some r:=h;have h':bnd (c E) (λE x=>bnd (match x.2 with|.int i=>some (.ok E (some i))|_=>none) F)=some r:=by
   cases hc:c E with
   |none=>rw[hc]at h;exact h
   |some y=>rw[hc]at h;cases y<;>exact h
  show tV Z true c σ H λx H1=>∃i,x=.int i/\G (some i) H1
  refine v8 m w h' xc λE1 s h1 x L1 H1 e1 e2 m1 w1 ok fr sr st sm=>?_
  cases hs:s.2 with
  |int i=>
   rw[hs]at h1;exact⟨i,qK ok (e2.trans hs),k E1 (some i) h1 L1 H1 m1 w1 st (sm rfl)⟩
  |_=>rw[hs]at h1;cases h1
theorem ZZ(n d:Nat)(v:Option Int):HT.sIx n d v=zY n d v:=by
 cases v<;>rfl
theorem RepA.drop{K:PySem.W.Frag}{H:Hp}{g:Bool}:∀(n:Nat) {ds:List D} {xs:List V} {as:List Addr},RepA K H g ds xs as->∃bs,RepA K H g (ds.drop n) (xs.drop n) bs/\∀b∈bs,b∈as
 |0,ds,xs,as,h=>⟨as,h,λ_ h=>h⟩
 |n+1,[],xs,as,h=>by
  unfold RepA at h;obtain⟨rfl,rfl⟩:=h;exact⟨[],by simp only[List.drop_nil];unfold RepA;exact⟨rfl,rfl⟩,λ_ h=>h⟩
 |n+1,d::ds,xs,as,h=>by
  unfold RepA at h;obtain⟨x,r,bs,cs,rfl,rfl,h1,h2⟩:=h;obtain⟨es,r2,hb⟩:=RepA.drop n h2;exact⟨es,r2,λb h=>lr9 _ (hb b h)⟩
theorem RepA.take{K:PySem.W.Frag}{H:Hp}{g:Bool}:∀(n:Nat) {ds:List D} {xs:List V} {as:List Addr},RepA K H g ds xs as->∃bs,RepA K H g (ds.take n) (xs.take n) bs/\∀b∈bs,b∈as
 |0,ds,xs,as,h=>⟨[],by simp only[List.take_zero];unfold RepA;exact⟨rfl,rfl⟩,λ_ h=>nomatch h⟩
 |n+1,[],xs,as,h=>by
  unfold RepA at h;obtain⟨rfl,rfl⟩:=h;exact⟨[],by simp only[List.take_nil];unfold RepA;exact⟨rfl,rfl⟩,λ_ h=>h⟩
 |n+1,d::ds,xs,as,h=>by
  unfold RepA at h;obtain⟨x,r,bs,cs,rfl,rfl,h1,h2⟩:=h;obtain⟨es,r2,hb⟩:=RepA.take n h2;refine⟨bs++es,?_,λb h=>(List.mem_append.mp h).elim (λz=>ll9 _ z) λz=>lr9 _ (hb b z)⟩;rw[List.take_succ_cons,List.take_succ_cons];unfold RepA;exact⟨x,r.take n,bs,es,rfl,rfl,h1,r2⟩
theorem RepA.cut{K:PySem.W.Frag}{H:Hp}{g:Bool}{ds:List D}{xs:List V}{as:List Addr}(h:RepA K H g ds xs as)(lo hi:Option Int):∃bs,RepA K H g (xX ds lo hi) (Kq xs lo hi) bs/\∀b∈bs,b∈as:=by
 have hl:=h.len;unfold xX Kq;rw[ZZ,ZZ,<-hl];obtain⟨bs,r,hb⟩:=h.drop (zY ds.length 0 lo);obtain⟨cs,r2,hc⟩:=r.take (zY ds.length ds.length hi - zY ds.length 0 lo);exact⟨cs,r2,λb h=>hb b (hc b h)⟩
theorem qv9{x:Sl}{s:Sd}{lo hi:Option Int}{Q:VK}(ok:x.ok K H)(hf:fSl (x.o,x.d) lo hi=some s)(k:∀(z:Sl) H',z.o=s.1->z.d=s.2->Out K H H' z x.frz->Q z.v H'):qq0 K x.v lo hi H Q:=by
 unfold fSl at hf;dsimp only at hf;cases hx:x.d with
 | lst ds=>
  rw[hx]at hf;dsimp only at hf
  split at hf
  ·rename_i hl;cases oq9 hf;obtain⟨l,xs,bs,ev,q3,r3,h3⟩:=zj ok (.inl hx) (by rw[hx];exact hl);have q3:LsR K H l xs:=by rcases q3 with⟨_,z⟩|⟨z,_⟩;exact z;rw[hx]at z;cases z
   obtain⟨cs,r4,h4⟩:=r3.cut lo hi;exact .inl ⟨l,xs,ev,JZ q3,λp hp=>k ⟨.rt,.lst _,.ref p,p::cs⟩ _ rfl rfl (QK hp r4 λb hb=>h3 b (h4 b hb))⟩
  ·cases hf
 | tup ds=>
  rw[hx]at hf;dsimp only at hf
  split at hf
  ·rename_i hl;cases oq9 hf;obtain⟨l,xs,bs,ev,q3,r3,h3⟩:=zj ok (.inr hx) (by rw[hx];exact hl.1);have q3:SqT K H l xs:=by rcases q3 with⟨z,_⟩|⟨_,z⟩;rw[hx]at z;cases z;exact z
   obtain⟨cs,r4,h4⟩:=r3.cut lo hi;refine .inr (.inl ⟨l,xs,ev,q3,?_,λp hp=>k ⟨.no,.tup _,.ref p,cs⟩ _ rfl rfl (Z3 hp r4 λb hb=>h3 b (h4 b hb))⟩);rw[ZZ,ZZ,<-r3.len];exact hl.2
  ·cases hf
 | str z=>
  rw[hx]at hf;dsimp only at hf
  split at hf
  ·rename_i hl;cases oq9 hf;obtain⟨e,hz⟩:=wZ ok hx;exact .inr (.inr ⟨z,e,hz,k ⟨.dp,.str _,.str _,[]⟩ H rfl rfl (vqq hl)⟩)
  ·cases hf
 |_=>rw[hx]at hf;cases hf
theorem V2{lo hi:Option Ex}{elo ehi:Option Expr}(ha:QV X Z q a ea)(hl:PO X elo (tPo Z lo))(hh:PO X ehi (tPo Z hi))(hK:autoParam (X.K=Z.K) Ŕ):QE X Z q (cSl a lo hi) (.Subscript ea (.Slice elo ehi none p2) pos):=
 kK (qk1 (vq8 Z.K hK) ha hl hh) fun σ H Q ak=>ex8 ak λE L r m w hc xc k=>by
  refine v8 m w (show bnd (a E) _=some r from hc) xc λE1 s h1 x L1 H1 e1 e2 m1 w1 ok fr sr st sm=>?_
  refine kxu m1 w1 h1 (xc.step st) λE2 l h2 L2 H2 m2 w2 bi d8=>?_
  refine kxu m2 w2 h2 (xc.step (st.trans bi)) λE3 u h3 L3 H3 m3 w3 cz sm3=>?_
  obtain⟨z,hz,rfl⟩:=zJ h3;have k1:=V8 ok fr bi d8;have k2:=V8 k1.1 k1.2 cz sm3;refine qv9 k2.1 (by rw[e1,e2];exact hz) λy H' ho hd o=>?_
  obtain⟨w4,i'⟩:=JQ w3 ((st.trans bi).trans cz) o k2.2 (λb hb=>k2.1.some (Sl.frz_as hb)) (YY sr λb hb=>Sl.frz_as hb);have en:q=true->jX H H3:=λhq=>kJ (sm hq) (kJ d8 sm3)
  exact k _ _ rfl y L3 H' ho hd m3 w4 i' λhq=>⟨kJ (en hq) o.same,λb hb=>xK (en hq) (o.new b hb)⟩
noncomputable def tAV(Z:Fx0)(cs:List Ex):TA:=fun σ H Q=>∃E L r,Mt E σ L/\World Z.K H L/\qQ cs E=some r/\Xc Z σ H L r /\
 ∀E' ys,r=.ok E' ys->∀(xs:List Sl) L' H',xs.map Sl.sd=ys->Mt E' σ L'->World Z.K H' L'->(∀x∈xs,x.ok Z.K H')->Step H L H' L'->jX H H'->Q (xs.map Sl.v) H'
def QAV(X:Cx)(Z:Fx0)(cs:List Ex)(es:List Expr):Prop:=PA X es (tAV Z cs)
theorem ZJ:QAV X Z [] []:=YK vX fun σ H Q ak=>ex8 ak λE L r m w hc xc k=>by
 cases oq9 hc;exact k _ _ rfl [] L H rfl m w (λ_ z=>nomatch z) Step.refl wX
theorem Q3{cs:List Ex}{es:List Expr}(h:QV X Z true c e)(hs:QAV X Z cs es)(bq:autoParam (starEach (e::es) X.env=(false,eval e X.env)::starEach es X.env) Ŕ):QAV X Z (c::cs) (e::es):=
 YK (vz h hs bq) fun σ H Q ak=>ex8 ak λE L r m w hc xc k=>by
  refine v8 m w (show bnd (c E) _=some r from hc) xc λE1 s h1 x L1 H1 e1 e2 m1 w1 ok fr sr st sm=>?_
  rcases wq h1 with⟨E2,ys,h2,h3⟩|⟨E2,cc,h2,h3⟩
  ·cases oq9 h3;refine⟨E1,L1,_,m1,w1,h2,(λ_ _ z=>by cases z),λE' ys' z xs L2 H2 e3 m2 w2 gi bi d8=>?_⟩;injection z with z1 z2;subst z1 z2;refine k _ _ rfl (x::xs) L2 H2 (by rw[List.map_cons,e3];simp[Sl.sd,e1,e2]) m2 w2 (λy hy=>?_) (st.trans bi) (kJ (sm rfl) d8);rcases List.mem_cons.mp hy with rfl|hy
   ·exact(V8 ok fr bi d8).1
   ·exact gi y hy
  ·exact⟨E1,L1,_,m1,w1,h2,(xc.step st).map h3,λE' s' z=>by cases z⟩
theorem ZW{k n:Nat}{ps:List Str}{f:Fn}{cs:List Ex}{es:List Expr}(D:kz X.prog X.w X.K X.mg X.base k x ps (spF Z.K Z.mg n f))(hr:Room k X.A)(g:z9 X Z.EX)(ha:QAV X Z cs (e::es))(hn:autoParam (cs.length=n) Ŕ)(hg:autoParam (Gl X x) Ŕ)(dq:autoParam ((x==("__debug__":Str))=false) ŕ)
  (he:autoParam (starEach (e::es) X.env=(false,eval e X.env)::starEach es X.env) Ŕ) (bg:autoParam ((backTo pos (starEach es X.env)).any (·.1)=false) Ŕ):
  QE X Z true (Q1 f cs) (.Call (.Name x p) (e::es) [] pos):=kK (qq9 D hr g ha hg dq he bg) fun σ H Q ak=>ex8 ak λE L r m w hc xc kk=>by
 have hc:bnd (qQ cs E) _=some r:=hc;rcases wq hc with⟨E1,ys,h1,h2⟩|⟨E1,cc,h1,h2⟩
 rotate_left
 ·exact⟨E,L,_,m,w,h1,xc.map h2,λE' s' z=>by cases z⟩
 refine⟨E,L,_,m,w,h1,(λ_ _ z=>by cases z),λE' ys' z xs L1 H1 e1 m1 w1 ok1 st sm=>?_⟩;injection z with z1 z2;subst z1 z2;rw [Xr];have ag:xs.length=n:=by rw[<-hn,<-jz9 h1,<-e1,X3]
 cases hf:f (letAll ys)with
 | none=>rw[hf]at h2;cases h2
 | some fr=>
  rw[hf]at h2;have ev:xs.map Sl.v=(xs.map Sl.let).map Sl.v:=by rw[Yh];rfl
  have wl:World Z.K H1 ((xs.map Sl.let).map some):=by
   refine⟨λy hy=>?_,by rw[J6];exact Xu,λa ha=>by rw[J6]at ha;exact nomatch ha⟩;obtain⟨y',ni,e⟩:=List.mem_map.mp hy;cases e;obtain⟨t,ht,rfl⟩:=List.mem_map.mp ni;exact Kj (ok1 t ht)
  rw[ev];refine⟨xs.map Sl.let,fr,rfl,by rw[X3];exact ag,wl,by rw[<-e1]at hf;rw[kzd];exact hf,λE' c ee C H' hm s'=>?_,λE' a ee y H' e2 e3 w' s'=>?_⟩
  ·subst ee;cases oq9 h2;have ia:jX H1 H':=λb ob hb=>s'.keep b ob hb λz=>by rw[J6]at z;exact nomatch z
   exact xc _ _ rfl C L1 H' hm m1 ⟨λy hy=>RepO.kp (w1.ok y hy) (Kp.of_same ia),w1.nd,w1.ds⟩ (st.trans ⟨λb ob hb _=>ia b ob hb,λ_ h=>.inl h,λ_ h=>.inl h⟩)
  ·subst ee;dsimp only at h2
   split at h2
   ·rename_i hp;cases oq9 h2;have ia:jX H1 H':=λb ob hb=>s'.keep b ob hb λz=>by rw[J6]at z;exact nomatch z
    have w2:World Z.K H' L1:=⟨λy hy=>RepO.kp (w1.ok y hy) (Kp.of_same ia),w1.nd,w1.ds⟩;obtain⟨z,rp⟩:=RepL.pu (g':=false) (RepO.wk (w'.ok y X5)) (by rw[e3];exact hp);have bi:Step H L H' L1:=st.trans ⟨λb ob hb _=>ia b ob hb,λ_ h=>.inl h,λ_ h=>.inl h⟩;exact kk _ _ rfl ⟨.dp,y.d,y.v,[]⟩ L1 H' rfl e3 m1 (w2.consPu rp rfl) (Q4 (x:=⟨.dp,y.d,y.v,[]⟩) bi (λb hb=>nomatch hb) rfl) λ_=>⟨kJ sm ia,λ_ z=>(nomatch z)⟩
   ·cases h2
end
theorem qxm{prog:Program}{w:PySem.World}{A:Around}{E:Value->Shared->Prop}{s:Shared}{t:Addr}{items:Array Value}{x:Value}{e:Value->Bool}{j:Nat}{Q:Value->Shared->Prop}
  (ht:IsTup s.heap t items) (he:∀y∈items,SeqAt.EqAt A.in1 s y x (e y)) (hj:j<items.size) (h1:e items[j]=true) (h2:∀m (hm:m<items.size),m<j->e items[m]=false)
  (h:Q (.int j s.toks) { s with toks:=s.toks+1 }):wpAny (model prog w) A (call (.builtin "tuple.index") [.ref t,x]) Q E s:=by
 refine Yg PySem.F.slot_tuple_index ht.typeIs PySem.F.entry_tuple_index ?_ (PySem.F.args_tuple_index_2 _ _);show wpAny _ _ (Builtin.Tuple.tupleItemsOf (.ref t) >>= _) _ _ s;refine X0 (tupleItemsOf_ ht ?_);dsimp only;refine X0 (X9 ?_);refine X0 (X9 ?_);rw[Std.Legacy.Range.forIn_eq_forIn_range'];refine X0 (wpAny_forIn_list _ (λj9 b s'=>b=(none,())/\s'=s/\∃k,k<=j/\j9=List.range' k (items.size - k)) _ ?_ ?_ _ _ ⟨rfl,rfl,0,Nat.zero_le _,?_⟩)
 ·rintro i j9 b s' ⟨rfl,rfl,k,hk,hr⟩;obtain⟨n,hn⟩:∃n,items.size - k=n+1:=⟨items.size - k - 1,by omega⟩;rw[hn,List.range'_succ]at hr;injection hr with hi jd;subst hi;have hi:i<items.size:=by omega
  rw[show items[i]?=some items[i]from Array.getElem?_eq_getElem hi];dsimp only;refine X0 (he items[i] (Array.getElem_mem hi) _ _ _ _ ?_)
  by_cases hij:i=j
  ·subst hij;rw[h1,Xb rfl];unfold retInt;refine X0 (X0 (wpAny_mkInt (X9 (X9 ?_))));exact X9 ⟨_,rfl,h⟩
  ·rw[h2 i hi (by omega),Xj (by decide)];refine X9 ⟨rfl,rfl,i+1,by omega,?_⟩;rw[jd]
   congr 1
   omega
 ·rintro b s' ⟨rfl,rfl,k,hk,hr⟩;have:items.size - k=0:=by
   have:=congrArg List.length hr
   simpa using this.symm
  omega
 ·simp
theorem vq9{prog:Program}{w:PySem.World}{A:Around}{E:Value->Shared->Prop}{s:Shared}{l:Addr}{items:Array Value}{k:Int}{t:Tok}{Q:Value->Shared->Prop}
  (ht:IsTup s.heap l items) (h:Q .notImplemented s):wpAny (model prog w) A (call (.builtin "int.__rmul__") [.int k t,.ref l]) Q E s:=by
 refine Yg PySem.F.slot_int_rmul (typeIs_int s k t) PySem.F.entry_int_rmul ?_ (PySem.F.args_int_rmul_2 _ _);obtain⟨o,e,c,n,hd⟩:=ht;show wpAny _ _ (asInt? (.ref l) >>= _) _ _ s;unfold asInt?;refine X0 (X0 (wpAny_load e ?_));rw[hd];refine X9 ?_;dsimp only;refine X0 (wpAny_rule ?_);exact X9 ⟨_,rfl,h⟩
theorem mulT{prog:Program}{w:PySem.World}{A:Around}{E:Value->Shared->Prop}{s:Shared}{l:Addr}{items:Array Value}{k:Int}{t:Tok}{Q:Value->Shared->Prop}
  (ht:IsTup s.heap l items) (h1:-(2 ^ 63)<=k) (h2:k<2 ^ 63) (hz:items.size*k.toNat<=sizeLine)
  (dh:(items.isEmpty=true\/k=1)->Q (.ref l) s)
  (hsz:(List.foldl (λx1 x2=>x1++x2) #[] (List.replicate k.toNat items)).size<=sizeLine)
  (i4:Q (.ref s.heap.objs.size) { s with heap:=s.heap.push { cls:=.type "tuple",data:=.seq (List.foldl (λx1 x2=>x1++x2) #[] (List.replicate k.toNat items)) } })
  : wpAny (model prog w) A (call (.builtin "tuple.__mul__") [.ref l,.int k t]) Q E s:=by
 refine Yg PySem.F.slot_tuple_mul ht.typeIs PySem.F.entry_tuple_mul ?_ (PySem.F.args_tuple_mul_2 _ _);show wpAny _ _ (if(decide (k < -2 ^ 63)||decide (k>=2 ^ 63))=true then _ else _) _ _ s;rw [Xj (by simp;omega)];show wpAny _ _ (Builtin.Tuple.tupleItemsOf (.ref l) >>= _) _ _ s;refine X0 (tupleItemsOf_ ht ?_)
 by_cases hs:(items.isEmpty||k==1)=true
 ·rw[Xb hs];unfold Builtin.Tuple.tupleIsExact;refine X0 (X0 (wpAny_typeOf ht.typeIs (X9 ?_)));rw[Xb (by decide)];refine X0 (wpAny_rule ?_);refine X9 ⟨_,rfl,dh ?_⟩
  simpa using hs
 ·rw[Xj hs];have cy:items.isEmpty=false:=by
   cases h:items.isEmpty<;>simp_all
  have hm:((items.size:Int)*k)<=(sizeLine:Int)\/k<=0:=by
   by_cases hk:k<=0
   ·exact .inr hk
   ·refine .inl ?_;have e:((k.toNat:Nat):Int)=k:=Int.toNat_of_nonneg (by omega);have:((items.size*k.toNat:Nat):Int)<=(sizeLine:Int):=Int.ofNat_le.mpr hz;rw[Int.natCast_mul,e]at this;exact this
  dsimp only
  by_cases hk:k<=0
  ·rw[Xb (by simp[hk])];have e:k.toNat=0:=by omega
   rw[e]at i4;unfold Builtin.Tuple.tupleExact;exact X0 (Y2 (X9 ⟨_,rfl,i4⟩) (show(0:Nat)<=sizeLine from Nat.zero_le _))
  ·rw[Xj (by simp[hk,cy])];have hm:=hm.resolve_right hk;have fb:(sizeLine:Int)=16777216:=by decide
   rw[Xj (by omega)];rw[Xj (by unfold Builtin.Tuple.tupleTooMany;simp;omega)];unfold Builtin.Tuple.tupleExact;exact X0 (Y2 (X9 ⟨_,rfl,i4⟩) hsz)
section
variable {X:Cx}{Z:Fx0}{K:PySem.W.Frag}{pn:List Nat}{q qa qb:Bool}{a b c:Ex}{u:Ts}{tg e ea eb:Expr}{st:Stmt}{σ:L2.St}{H:Hp}{L:Ls}{E:En}{pos p p2:Pos}{x:Str}
noncomputable def qz5(K:PySem.W.Frag):R2:=λx y H Q=>∃l k xs,x=.ref l/\y=.int k/\SqT K H l xs/\-(2 ^ 63)<=k/\k<2 ^ 63/\xs.length*k.toNat<=sizeLine/\((xs=[]\/k=1)->Q (.ref l) H)/\∀p,H p=none->Q (.ref p) (upd H p (.tup (List.replicate k.toNat xs).flatten))
theorem op_repT:OpR X (binaryOp .Mult) (qz5 X.K):=by
 intro pins s σ H x y v u Q I rx ry h;obtain⟨l,k,xs,rfl,rfl,hq,h1,h2,hz,q1,q2⟩:=h;cases rx;obtain⟨t,rfl⟩:=ry;obtain⟨aa,r,ht,hl⟩:=I.tuple hq;have ag:=r.length;have f0:List.foldl (λx1 x2=>x1++x2) #[] (List.replicate k.toNat aa.toArray)=(List.replicate k.toNat aa).flatten.toArray:=by
  have:=jz3 aa k.toNat [];rw[List.nil_append]at this;exact this
 have iq:(List.replicate k.toNat xs).flatten.length<=sizeLine:=by rw[kzg,Nat.mul_comm];exact hz
 refine wpAny_binaryOp_repeat_ref (T:="tuple") (U:="int") (by decide) ht.typeIs (λs'=>typeIs_int s' k t) rfl F.fills_int_mul F.slot_int_rmul (show seqRepeat? (Value.type "tuple")=pure (some (Value.builtin "tuple.__mul__"))from rfl) F.slot_int_index.lookup
  (vq9 ht ⟨rfl,ht.typeIs,mulT ht h1 h2 (by rw[X4,<-ag];exact hz) (λhs=>?_) ?_ ?_⟩)
 ·refine⟨.ref l,H,I,rfl,q1 ?_⟩;rcases hs with hs|hs
  ·left;have:aa=[]:=by simpa using hs
   subst this
   simpa using ag
  ·exact .inr hs
 ·rw[f0,X4,<-(r.rep k.toNat).length];exact iq
 ·rw[f0];exact⟨.ref _,_,I.laid (t':=s.toks) (o:=.tup _) (λb o e=>X2 _ e) (X8 _) ⟨iq,_,r.rep k.toNat,IsTupD.new _ _⟩,rfl,q2 _ (I.hok.fresh (X8 _))⟩
def qz8(K:PySem.W.Frag):R2:=λx y H Q=>qz5 K x y H Q\/qve K x y H Q
theorem vj5(hK:autoParam (X.K=K) Ŕ):OpR X (binaryOp .Mult) (qz8 K):=by subst hK;exact op_repT.or vj6
theorem qx3:Ad2 K (qz8 K) qY:=by
 intro H x y s Q ox oy hf k;cases hx:x.d with
 | tup ds=>
  cases hy:y.d with
  | int n=>
   unfold qY at hf;rw [show(x.o,x.d).2=x.d from rfl,show(y.o,y.d).2=y.d from rfl,hx,hy]at hf;dsimp only at hf
   split at hf
   ·rename_i hc;cases oq9 hf;obtain⟨l,xs,bs,e3,q3,r3,h3⟩:=zj ox (.inr hx) (by rw[hx];exact hc.2.2.2);have q3:SqT K H l xs:=by rcases q3 with⟨z,_⟩|⟨_,z⟩;rw[hx]at z;cases z;exact z
    obtain⟨cs,r4,h4⟩:=r3.reps n.toNat;refine .inl ⟨l,n,xs,e3,qK oy hy,q3,hc.1,hc.2.1,by rw[<-r3.len];exact hc.2.2.1,λhs=>?_,λp hp=>?_⟩
    ·refine k ⟨.no,.tup _,.ref l,cs⟩ H rfl rfl ⟨wX,?_,λb hb=>(nomatch hb),Xu,λb hb=>ll9 _ (h3 b (h4 b hb))⟩;show RepL K H true (.tup _) (.ref l) cs;unfold RepL;refine⟨l,xs,rfl,q3,?_⟩;have e:(List.replicate n.toNat xs).flatten=xs:=by
      rcases hs with hs|hs
      ·subst hs;simp
      ·subst hs;simp
     rw[e]at r4;exact r4
    ·exact k ⟨.no,.tup _,.ref p,cs⟩ _ rfl rfl (Z3 hp r4 λb hb=>ll9 _ (h3 b (h4 b hb)))
   ·cases hf
  |_=>
   refine .inr (qqu H x y s Q ox oy ?_ k);unfold qY at hf;rw[show(x.o,x.d).2=x.d from rfl,show(y.o,y.d).2=y.d from rfl,hx,hy]at hf;rw[hx,hy];exact hf
 |_=>
  refine .inr (qqu H x y s Q ox oy ?_ k);unfold qY at hf;rw[show(x.o,x.d).2=x.d from rfl,hx]at hf;rw[hx];exact hf
theorem kz9{h:Heap}:∀{ds:List D} {us:List Value},CReps h ds us->us.map (dec h)=ds
 |[],_,r=>by unfold CReps at r;rw[r];rfl
 |z::ds,_,r=>by
  unfold CReps at r;obtain⟨u,rr,rfl,h1,h2⟩:=r;rw[List.map_cons,WJ h1,kz9 h2]
noncomputable def vqc(K:PySem.W.Frag)(C:Hp->List V->Prop):List V->Hp->VK->Prop:=λvs H Q=>∃v d ds as bs xs j,vs=[v]/\RepL K H true d v as/\C H xs/\RepA K H true ds xs bs/\d.flat 30=true/\D.flats 30 ds=true/\(ds.findIdx? λz=>peq z d)=some j/\Q (.int j) H
theorem qk3{o:Expr}{to:TE}{t:TA}{aj ab:Pos}(hu:X.A.units+64<cLine)(ho:PE X o to)(ha:PA X [e] t)
  (ax:autoParam (attributeBase o "index" X.env (eval o X.env)=eval o X.env) Ŕ)
  (cg:autoParam (((backTo ab (starEach [e] X.env)).all (λx=>!x.1)&&(backToKw ab (keywordEach [] X.env)).all (λx=>x.1.isSome)
   && decide ([e].length+([]:List Keyword).length+(if([]:List Keyword).isEmpty then 0 else 1)<30))=true) Ŕ)
  (au:autoParam ((aj.endLine==ab.line)=true) Ŕ) (hs:autoParam (starEach [e] X.env=(false,eval e X.env)::starEach [] X.env) Ŕ) (az:autoParam ((backTo ab (starEach [] X.env)).any (·.1)=false) Ŕ):
  PE X (.Call (.Attribute o "index" aj) [e] [] ab) (fun σ H Q=>to σ H λx H1=>(∃p xs,x=.ref p/\LsR X.K H1 p xs/\t σ H1 λvs H2=>vqc X.K (λH xs=>LsR X.K H p xs) vs H2 Q)\/∃p xs,x=.ref p/\SqT X.K H1 p xs/\t σ H1 λvs H2=>vqc X.K (λH xs=>SqT X.K H p xs) vs H2 Q):=by
 intro pins s σ H Q I h;refine wpAny_Call_method_late ax cg au rfl (thn (ho pins s σ H _ I h) λv s1 ⟨x,H1,I1,r1,qq⟩=>?_);have eqs:∀{s2:Shared} {H2:Hp} {d:D} {v:V} {as:List Addr} {w:Value} {us:List Value} {ds:List D},L2.Inv X pins σ H2 s2->RepL X.K H2 true d v as->RelV v w->d.flat 30=true->D.flats 30 ds=true->CReps s2.heap ds us->∀y∈us.toArray,SeqAt.EqAt X.A.in1 s2 y w (peq (dec s2.heap y) d):=fun {s2 H2 d v as w us ds} I2 rd rw f1 f2 cr y hy=>by
  have c1:=K7 I2 rd f1 rw;obtain⟨d',hd,c⟩:=ZK cr (by simpa using hy);rw[WJ c];exact Vv 30 (jwd f2 hd) c c1 (by have:=L3.in1_units X.A;omega)
 have idx:∀{h:Heap} {ds:List D} {us:List Value} {d:D} {j:Nat},CReps h ds us->(ds.findIdx? λz=>peq z d)=some j->∃hj:j<us.toArray.size,peq (dec h us.toArray[j]) d=true/\∀m (hm:m<us.toArray.size),m<j->peq (dec h us.toArray[m]) d=false:=fun {h ds us d j} cr hf=>by
  have e:=kz9 cr;subst e;rw[List.findIdx?_eq_some_iff_getElem]at hf;obtain⟨hj,h1,h2⟩:=hf;have hj':j<us.length:=by simpa using hj
  refine⟨by simpa using hj',by simpa using h1,λm hm hmj=>?_⟩;have:=h2 m hmj
  simpa using this
 rcases qq with⟨pp,zs,rfl,ty,q1⟩|⟨pp,zs,rfl,ty,q1⟩
 ·cases r1;have hA:=ha ab pins s1 σ H1 _ I1 q1;rw[hs]at hA ⊢;obtain⟨z,aa,n,r,e0⟩:=ty.is I1;refine⟨"list","list.index",F.plainAttrs_list,F.slot_list_index,F.type_list_index,⟨_,e0,rfl⟩,λa e2=>?_,?_⟩
  ·cases e2;exact⟨_,e0,rfl⟩
  refine Calls.callWith_builtin (by show(false||(backTo ab (starEach [] X.env)).any (·.1))=false;rw[az]<;>rfl) (Calls.evalArgs_plain ?_);refine thn hA λus s2 ⟨vs,H2,I2,r2,d2⟩=>?_
  obtain⟨v,d,ds,as,bs,xs,j,rfl,rd,hq,ra,f1,f2,hf,q2⟩:=d2;obtain⟨w,rfl,rw1⟩:=r2.one;obtain⟨z2,br,n2,r3,e3⟩:=hq.is I2;have cr:=creps_of I2 ra f2 r3;obtain⟨hj,h1,h2⟩:=idx cr hf;have hsz:br.toArray.size<=16777216:=by rw[X4,<-r3.length];exact z2
  exact call_meets F.slot_list_index ⟨_,e3,rfl⟩ F.entry_list_index (F.args_list_index_2 _ _) (SeqAt.list_indexAt pp br.toArray n2 none #[] w (λy=>peq (dec s2.heap y) d) j hj (by omega) h1 h2) ⟨e3,eqs I2 rd rw1 f1 f2 cr,.int _,H2,I2.tok _,⟨_,rfl⟩,q2⟩
 ·cases r1;have hA:=ha ab pins s1 σ H1 _ I1 q1;rw[hs]at hA ⊢;obtain⟨aa,r,ht,hz⟩:=I1.tuple ty;have hd0:=I1.tupleD ty;refine⟨"tuple","tuple.index",F.plainAttrs_tuple,F.slot_tuple_index,F.type_tuple_index,ht.typeIs,λa e2=>?_,?_⟩
  ·cases e2;exact hd0
  refine Calls.callWith_builtin (by show(false||(backTo ab (starEach [] X.env)).any (·.1))=false;rw[az]<;>rfl) (Calls.evalArgs_plain ?_);refine thn hA λus s2 ⟨vs,H2,I2,r2,d2⟩=>?_
  obtain⟨v,d,ds,as,bs,xs,j,rfl,rd,hq,ra,f1,f2,hf,q2⟩:=d2;obtain⟨w,rfl,rw1⟩:=r2.one;obtain⟨br,r3,ht2,iq⟩:=I2.tuple hq;have cr:=creps_of I2 ra f2 r3;obtain⟨hj,h1,h2⟩:=idx cr hf;exact qxm (e:=λy=>peq (dec s2.heap y) d) ht2 (eqs I2 rd rw1 f1 f2 cr) hj h1 h2 ⟨.int _,H2,I2.tok _,⟨_,rfl⟩,q2⟩
theorem kxk{aj ab:Pos}(hu:X.A.units+64<cLine)(ha:QV X Z q a ea)(hb:QV X Z true b eb)(hK:autoParam (X.K=Z.K) Ŕ)
  (ax:autoParam (attributeBase ea "index" X.env (eval ea X.env)=eval ea X.env) Ŕ)
  (cg:autoParam (((backTo ab (starEach [eb] X.env)).all (λx=>!x.1)&&(backToKw ab (keywordEach [] X.env)).all (λx=>x.1.isSome)
   && decide ([eb].length+([]:List Keyword).length+(if([]:List Keyword).isEmpty then 0 else 1)<30))=true) Ŕ)
  (au:autoParam ((aj.endLine==ab.line)=true) Ŕ) (hs:autoParam (starEach [eb] X.env=(false,eval eb X.env)::starEach [] X.env) Ŕ) (az:autoParam ((backTo ab (starEach [] X.env)).any (·.1)=false) Ŕ):
  QE X Z q (YZ a b) (.Call (.Attribute ea "index" aj) [eb] [] ab):=kK (qk3 hu ha (vz hb vX hs) ax cg au hs az) fun σ H Q ak=>ex8 ak λE L r m w hc xc k=>by
 refine v8 m w (show bnd (a E) _=some r from hc) xc λE1 s h1 x L1 H1 e1 e2 m1 w1 ok fr sr st sm=>?_
 split at h1
 rotate_left
 ·cases h1
 rename_i hsq;rw [hK];have fin:∀{ds:List D},(x.d=.lst ds\/x.d=.tup ds)->∀(C:Hp->List V->Prop),(∀H2,x.ok Z.K H2->∃xs bs,C H2 xs/\RepA Z.K H2 true ds xs bs)->tV Z true b σ H1 λv H2=>vqc Z.K C [v] H2 Q:=fun {ds} hx C hC=>by
  refine v8 m1 w1 h1 (xc.step st) λE2 s2 h2 y L2 H2 e3 e4 m2 w2 gi fr2 sr2 bi d8=>?_
  obtain⟨z,hz,rfl⟩:=zJ h2;have kx:=V8 ok fr bi (d8 rfl);obtain⟨xs,bs,c1,c2⟩:=hC H2 kx.1;have m4:∃j:Nat,y.d.flat 30=true/\D.flats 30 ds=true/\(ds.findIdx? λz=>peq z y.d)=some j/\z=(.dp,.int j):=by
   unfold pu2 Zq at hz;rw[<-e2,<-e4]at hz;have i8:(if y.d.flat 30&&D.flats 30 ds then(ds.findIdx? λz=>peq z y.d).map λ(j:Nat)=>D.int (j:Int)else none).map (λd=>((Own.dp,d):Sd))=some z:=by
    rcases hx with hx|hx<;>(rw[hx]at hz;exact hz)
   split at i8
   ·rename_i hf;rw[Bool.and_eq_true]at hf;cases hj:ds.findIdx? λz=>peq z y.d with
    |none=>rw[hj]at i8;cases i8
    |some j=>rw[hj]at i8;exact⟨j,hf.1,hf.2,rfl,(oq9 i8).symm⟩
   ·cases i8
  obtain⟨j,f1,f2,f3,rfl⟩:=m4;refine⟨y.v,y.d,ds,y.as,bs,xs,j,rfl,RepO.wk gi,c1,c2,f1,f2,f3,?_⟩;have en:q=true->jX H H2:=λhq=>kJ (sm hq) (d8 rfl)
  exact k _ _ rfl ⟨.dp,.int j,.int j,[]⟩ L2 H2 rfl rfl m2 (w2.consPu (x:=⟨.dp,.int j,.int j,[]⟩) (show RepL Z.K H2 false (.int j) (.int j) []from Vk) rfl) (Q4 (x:=⟨.dp,.int j,.int j,[]⟩) (st.trans bi) (λb hb=>nomatch hb) rfl) λhq=>⟨en hq,λ_ z=>(nomatch z)⟩
 have wkA:∀{ds:List D} {xs:List V} {bs:List Addr} {H2:Hp},RepA Z.K H2 (x.o != .dp) ds xs bs->RepA Z.K H2 true ds xs bs:=fun {ds xs bs H2} r=>by
  cases ho:(x.o != .dp)with
  |true=>rw[ho]at r;exact r
  |false=>rw[ho]at r;exact r.wk
 cases hx:x.d with
 |lst ds=>
  obtain⟨l,xs,bs,ev,q3,r3,h3,_⟩:=items ok (.inl hx);have q3:LsR Z.K H1 l xs:=by rcases q3 with⟨_,z⟩|⟨z,_⟩;exact z;rw[hx]at z;cases z
  refine .inl ⟨l,xs,ev,q3,fin (.inl hx) _ λH2 gi=>?_⟩;obtain⟨l2,ys,cs,ij,q4,r4,_⟩:=items gi (.inl hx);have:l2=l:=by have:=ij.symm.trans ev;exact V.ref.inj this
  subst this;rcases q4 with⟨_,z⟩|⟨z,_⟩
  ·exact⟨ys,cs,z,wkA r4⟩
  ·rw[hx]at z;cases z
 |tup ds=>
  obtain⟨l,xs,bs,ev,q3,r3,h3,_⟩:=items ok (.inr hx);have q3:SqT Z.K H1 l xs:=by rcases q3 with⟨z,_⟩|⟨_,z⟩;rw[hx]at z;cases z;exact z
  refine .inr ⟨l,xs,ev,q3,fin (.inr hx) _ λH2 gi=>?_⟩;obtain⟨l2,ys,cs,ij,q4,r4,_⟩:=items gi (.inr hx);have:l2=l:=by have:=ij.symm.trans ev;exact V.ref.inj this
  subst this;rcases q4 with⟨z,_⟩|⟨_,z⟩
  ·rw[hx]at z;cases z
  ·exact⟨ys,cs,z,wkA r4⟩
 |_=>rw[<-e2,hx]at hsq;cases hsq
end
section
variable {X:Cx}{Z:Fx0}{K:PySem.W.Frag}{pn:List Nat}{q qa qb:Bool}{a b c:Ex}{u:Ts}{tg e ea eb:Expr}{st:Stmt}{σ:L2.St}{H:Hp}{L:Ls}{E:En}{pos p p2 fu:Pos}{x:Str}{ci:List Expr}{k1:Nat}
theorem kj6:∀(xs ys:List D) (i:Nat),(vq xs ys)[i]?=(xs[i]?).bind λa=>(ys[i]?).map λb=>.tup [a,b]
 |[],_,_=>by simp[vq]
 |_::_,[],i=>by cases i<;>simp[vq]
 |a::x,b::y,0=>by simp[vq]
 |a::x,b::y,i+1=>by rw[vq,List.getElem?_cons_succ,List.getElem?_cons_succ,List.getElem?_cons_succ,kj6 x y i]
theorem Q8:∀(xs ys:List D),(vq xs ys).length=min xs.length ys.length
 |[],_=>by simp[vq]
 |_::_,[]=>by simp[vq]
 |a::x,b::y=>by rw[vq,Y0,Y0,Y0,Q8 x y];omega
theorem kku{x:Sl}{es:List D}{l:Addr}{H1:Hp}(hx:x.d=.lst es)(ev:x.v=.ref l):∀H2:Hp,x.let.ok K H2->∃ys cs,SqL K H2 l ys/\RepA K H2 true es ys cs/\∀b∈cs,b∈x.as:=λH2 hok=>by
 obtain⟨a',ys,cs,kl,q4,r4,h4,_⟩:=items hok (.inl hx);have:a'=l:=by have:=kl.symm.trans ev;exact V.ref.inj this
 subst this;rcases q4 with⟨_,z⟩|⟨z,_⟩
 ·exact⟨ys,cs,z.sq,r4,h4⟩
 ·rw[show x.let.d=D.lst es from hx]at z;cases z
theorem kvg{H2:Hp}{T:Addr}{d1 d2:D}{v1 v2:V}{b1 b2:List Addr}(hT:H2 T=none)(r1:RepL K H2 true d1 v1 b1)(r2:RepL K H2 true d2 v2 b2):RepL K (upd H2 T (.tup [v1,v2])) true (.tup [d1,d2]) (.ref T) (b1++b2):=by
 have sm:jX H2 (upd H2 T (.tup [v1,v2])):=wJ hT;unfold RepL;refine⟨T,[v1,v2],rfl,.inl (.inl xk),?_⟩;unfold RepA;refine⟨v1,[v2],b1,b2,rfl,rfl,r1.kp (Kp.of_same sm),?_⟩;unfold RepA;refine⟨v2,[],b2,[],rfl,by simp,r2.kp (Kp.of_same sm),?_⟩;unfold RepA;exact⟨rfl,rfl⟩
end
theorem RepA.erase{K:PySem.W.Frag}{H:Hp}{g:Bool}:∀{j:Nat} {ds:List D} {xs:List V} {as:List Addr},RepA K H g ds xs as->∃bs,RepA K H g (ds.eraseIdx j) (xs.eraseIdx j) bs/\bs.Sublist as
 |j,[],xs,as,h=>by
  unfold RepA at h;obtain⟨rfl,rfl⟩:=h;exact⟨[],by simp only[List.eraseIdx_nil];unfold RepA;exact⟨rfl,rfl⟩,List.Sublist.refl _⟩
 |0,d::ds,xs,as,h=>by
  unfold RepA at h;obtain⟨x,r,bs,cs,rfl,rfl,h1,h2⟩:=h;exact⟨cs,h2,List.sublist_append_right _ _⟩
 |j+1,d::ds,xs,as,h=>by
  unfold RepA at h;obtain⟨x,r,bs,cs,rfl,rfl,h1,h2⟩:=h;obtain⟨es,r2,hs⟩:=RepA.erase (j:=j) h2;refine⟨bs++es,?_,List.Sublist.append (List.Sublist.refl _) hs⟩;rw[Yj,Yj];unfold RepA;exact⟨x,r.eraseIdx j,bs,es,rfl,rfl,h1,r2⟩
theorem vjp{n:Nat}{i:Int}{j:Nat}(h:_root_.Q.ixN n i=some j):seqIndex? i n=some j/\j<n/\-(n:Int)<=i/\i<n:=by
 have e:L2.ixN n i=some j:=by
  unfold _root_.Q.ixN at h;unfold L2.ixN
  by_cases h0:0<=i
  ·rw[Xb h0]at h ⊢;exact h
  ·rw[Xj h0]at h ⊢;exact h
 exact kzm e
section
variable {X:Cx}{Z:Fx0}{K:PySem.W.Frag}{pn:List Nat}{q qa qb:Bool}{a b c:Ex}{u:Ts}{tg e ea eb:Expr}{st:Stmt}{σ:L2.St}{H:Hp}{L:Ls}{E:En}{pos p p2 fu:Pos}{x:Str}{ci:List Expr}{k1:Nat}
theorem vqe {i:Nat} {o:Expr} {aj ab:Pos} (hb:PE X (.Call (.Attribute o "pop" aj) [e] [] ab) (tBM Z.K "list" qq1 (zq i) (qv5 (tV Z q c) vq1))):QE X Z false (W6 i c) (.Call (.Attribute o "pop" aj) [e] [] ab):=kK hb fun σ H Q ak=>ex8 ak λE L r m w hc xc k=>by
 unfold W6 at hc;cases h0:E[i]? with
 | none=>rw [h0]at hc;cases hc
 | some s0 =>
  cases s0 with
  | none=>rw [h0]at hc;cases hc
  | some s0 =>
   obtain ⟨o0,d0⟩:=s0;cases d0 with
   | lst gj =>
    rw [h0,Xb (show Vz (some (some (o0,D.lst gj)))=true from rfl)]at hc;obtain ⟨x0,a1,a2,a3,a4⟩:=m.get h0;refine ⟨x0.v,a4,qqe (w.ok x0 (wV a1)) a3,?_⟩;refine v8 m w hc xc λE1 s h1 x L1 H1 e1 e2 m1 w1 iz fr sr st sm=>?_
    cases hE:E1[i]? with
    | none=>rw[hE]at h1;cases h1
    | some s1=>
     cases s1 with
     | none=>rw[hE]at h1;cases h1
     | some s1=>
      obtain ⟨oo,dd⟩:=s1;rw [hE]at h1;cases dd with
      | lst ds=>
       cases hs:s.2 with
       | int kk=>
        rw [hs]at h1;dsimp only at h1
        by_cases i6:oo=.no
        ·rw [Xb i6]at h1;cases h1
        ·rw [Xj i6]at h1;cases hj:_root_.Q.ixN ds.length kk with
         | none=>rw[hj]at h1;cases h1
         | some j=>
          rw [hj]at h1;dsimp only at h1;cases hd:ds[j]? with
          | none=>rw[hd]at h1;cases h1
          | some d=>
           rw[hd]at h1;dsimp only at h1
           split at h1
           rotate_left
           ·cases h1
           rename_i hp;rw[Bool.and_eq_true]at hp;obtain⟨hp,hsm⟩:=hp;obtain⟨ia,d8⟩:=jwm hsm;cases oq9 h1;obtain⟨y,b1,b2,b3,b4⟩:=m1.get hE;have hv:y.v=x0.v:=by rw[a4]at b4;exact(oq9 (oq9 b4)).symm
           obtain⟨l,xs,bs,c1,c2,c3,c4,c5⟩:=kqp (w1.ok y (wV b1)) b3 (by rw[b2];exact i6);have ex0:x0.v=.ref l:=hv▸c1;rw[ex0];obtain⟨vv,bu,f1,f2,f3⟩:=c5.get hd;obtain⟨g1,g2,g3,g4⟩:=vjp hj;have ag:=c5.len;have km:(2:Int) ^ 63=9223372036854775808:=by decide
           obtain⟨_,rp⟩:=RepL.pu (g':=false) f2 hp;obtain⟨cs,r6,im⟩:=c5.erase (j:=j);refine⟨l,xs,kk,j,vv,rfl,by rw[qK iz (e2.trans hs)],c2,?_,?_,by rw[<-ag];exact g1,f1,?_⟩
           ·have:(2:Int) ^ 62=4611686018427387904:=by decide
            omega
           ·have:(2:Int) ^ 62=4611686018427387904:=by decide
            omega
           have yn:y.own.Nodup:=by
            obtain⟨A,B,e,_⟩:=XX b1;have:=w1.nd;rw[e,jK,jw,X6]at this;exact(List.nodup_append.mp this.2.1).1
           have hoo:y.o=.rt\/y.o=.dp:=by
            rw[b2];cases oo with
            |no=>exact absurd rfl i6
            |rt=>exact .inl rfl
            |dp=>exact .inr rfl
           obtain⟨w3,s3⟩:=kql (T:=[]) (o':=y.o) (ds':=ds.eraseIdx j) (xs':=xs.eraseIdx j) (by simpa using w1) b1 c2 c3 c4 c1 r6 (by
            rcases hoo with hoo|hoo
            ·exact .inl ⟨hoo,λa ha=>.inl (im.subset ha)⟩
            ·refine .inr ⟨hoo,hoo,?_,λa ha=>.inl (im.subset ha)⟩;unfold Sl.own at yn;rw[hoo,c3]at yn;exact im.nodup (List.nodup_cons.mp yn).2)
           have ke:∀a o,H1 a=some o->a≠l->upd H1 l (.lst (xs.eraseIdx j)) a=some o:=λa o e ne=>by rw[kZ ne];exact e
           have rp2:RepL Z.K (upd H1 l (.lst (xs.eraseIdx j))) false d vv []:=by
            refine rp.kp ⟨λa zs e=>ke a _ e λz=>?_,λa o u e=>ke a _ e λz=>?_,λa ha=>nomatch ha⟩
            ·subst z;rw[c2]at e;cases e
            ·subst z;rw[c2]at e;cases e
           have mm:=m1.set (x:=⟨y.o,.lst (ds.eraseIdx j),y.v,l::cs⟩) i;rw[zw b4]at mm;refine k _ _ rfl ⟨.dp,d,vv,[]⟩ _ _ rfl rfl (by rw[<-b2];exact mm) (w3.consPu rp2 rfl) (Q4 (x:=⟨.dp,d,vv,[]⟩) (st.trans (by simpa using s3)) (λb hb=>nomatch hb) rfl) λz=>nomatch z
       |_=>rw[hs]at h1;cases h1
      |_=>cases h1
   |_=>rw[h0]at hc;cases hc
theorem V5{y:Sl}{ds:List D}(ok:y.ok K H)(hd:y.d=.lst ds)(ho:y.o=.dp):∃l xs bs,y.v=.ref l/\H l=some (.lst xs)/\y.as=l::bs/\y.own=l::bs/\RepA K H false ds xs bs:=by
 obtain⟨l,xs,bs,c1,c2,c3,c4,c5⟩:=kqp ok hd (by rw[ho];exact λz=>nomatch z);rw[ho]at c5;exact⟨l,xs,bs,c1,c2,c3,by unfold Sl.own;rw[ho,c3],c5⟩
end
end Q
namespace Q
open PySem PySem.Spec PyProof.Rows L2 L3
theorem WZ{X:Cx}{Z:Fx0}{q:Bool}:QA X Z q [] []:=YK vX fun σ H Q ak=>ex8 ak λE L r m w hc xc k=>by
 cases oq9 hc;exact k _ _ rfl [] L H rfl m w Step.refl λ_=>⟨λ_ _ z=>z,λ_ z=>(nomatch z)⟩
theorem qzg{X:Cx}{Z:Fx0}{q:Bool}{c:Ex}{o e:Expr}{z:Str}{aj ab:Pos}(ho:PE X o (tC (.str z)))(hc:QV X Z q c e)(hK:autoParam (X.K=Z.K) Ŕ)
  (ax:autoParam (attributeBase o "join" X.env (eval o X.env)=eval o X.env) Ŕ)
  (cg:autoParam (((backTo ab (starEach [e] X.env)).all (λx=>!x.1)&&(backToKw ab (keywordEach [] X.env)).all (λx=>x.1.isSome)
   && decide ([e].length+([]:List Keyword).length+(if([]:List Keyword).isEmpty then 0 else 1)<30))=true) Ŕ)
  (au:autoParam ((aj.endLine==ab.line)=true) Ŕ) (hs:autoParam (starEach [e] X.env=(false,eval e X.env)::starEach [] X.env) Ŕ) (az:autoParam ((backTo ab (starEach [] X.env)).any (·.1)=false) Ŕ):
  QE X Z q (Zx z c) (.Call (.Attribute o "join" aj) [e] [] ab):=
 kK (qzy PySem.F.plainAttrs_str PySem.F.slot_str_join PySem.F.type_str_join qwe ho (vz hc vX hs) ax cg au hs az) fun σ H Q ak=>ex8 ak λE L r m w b8 xc k=>by
  refine⟨?_,?_⟩
  ·rfl
  ·refine v8 m w (show bnd (c E) _=some r from b8) xc λE1 s h1 x L1 H1 e1 e2 m1 w1 ok fr sr st sm=>?_
   obtain⟨y,hz,rfl⟩:=zJ h1;unfold Z4 at hz;cases hx:s.2 with
   | lst ds=>
    rw [hx]at hz;dsimp only at hz;cases hp:J9 ds with
    | none=>rw[hp]at hz;cases hz
    | some ys=>
     rw[hp]at hz;dsimp only at hz
     by_cases hl:(ys.map (·.length)).sum+ys.length*z.length<=100000
     ·rw[Xb hl]at hz;cases oq9 hz;obtain⟨a,xs,bs,ev,q1,ra⟩:=items ok (.inl (by rw[e2];exact hx));have hq:SqL Z.K H1 a xs:=by
       rcases q1 with⟨_,t⟩|⟨t,_⟩
       ·exact t.sq
       ·rw[e2,hx]at t;cases t
      have ex:=(kva hp ra.1).1;subst ex;have ag:(Txt.join z ys).length<=sizeLine:=joinOk_length (joinOk_of (by omega));refine⟨z,a,ys,rfl,by rw[ev],by rw[hK];exact hq,by omega,?_⟩;exact k _ _ rfl ⟨.dp,.str (Txt.join z ys),.str (Txt.join z ys),[]⟩ L1 H1 rfl rfl m1 (w1.consPu (x:=⟨.dp,.str (Txt.join z ys),.str (Txt.join z ys),[]⟩) (show RepL Z.K H1 false (.str _) (.str _) []from Z7 ag) rfl) (Q4 (x:=⟨.dp,.str (Txt.join z ys),.str (Txt.join z ys),[]⟩) st (λb hb=>nomatch hb) rfl) λhq=>⟨sm hq,λ_ t=>(nomatch t)⟩
     ·rw[Xj hl]at hz;cases hz
   |_=>rw[hx]at hz;cases hz
end Q
namespace PySem
section
variable {prog:Program}{w:World}{A:Around}{E:Value->Shared->Prop}{s:Shared}
theorem jz5(hh:A.handled=none)(it t:Addr)(cy:t≠it)(items:Array Value):Draws prog w A it [it,t] items.size (λi v=>items[i]?=some v) (λi h=>h.IsTupleIter it t i/\h.IsTuple t items) where
 live:=λ_ _ st=>let ⟨o,ho,_⟩:=st.1;⟨o,ho⟩
 frame:=λ_ _ _ st hk=>by
  obtain⟨⟨o,ho,r⟩,o2,fi,r2⟩:=st;exact⟨⟨o,hk it (by simp) o ho,r⟩,o2,hk t (by simp) o2 fi,r2⟩
 item:=λi s Q E hi st hQ=>by
  obtain⟨fw,ht⟩:=st;obtain⟨o,ho,hc,hd⟩:=id fw;obtain⟨o2,fi,jf,n2,i9⟩:=id ht;have hx:items[i]?=some items[i]:=by simp[hi]
  unfold Builtin.SmallTypes.nextOf;refine X0 (Yi (name:=Str.ofString "__next__") fw.typeIs F.slot_tuple_iterator_next (Yg F.slot_tuple_iterator_next fw.typeIs F.entry_tuple_iterator_next ?_ (F.args_tuple_iterator_next_1 _)));show wpAny _ _ (field (.ref it) 0 >>= _) _ _ s;refine X0 (Xq ho hd (x:=.ref t) rfl ?_);show wpAny _ _ (if(Value.ref t==Value.none)=true then _ else _) _ _ s;rw[Xj (show ¬((Value.ref t==Value.none)=true)from Bool.false_ne_true)];show wpAny _ _ (field (.ref it) 1 >>= _) _ _ s;refine X0 (Xq ho hd (x:=.int i 0) rfl ?_);show wpAny _ _ (seqItems? (.ref t) >>= _) _ _ s;refine X0 (Yo fi i9 ?_);simp only[Y7,hx];refine X0 (wpAny_setField ho hd (by simp) (X9 ⟨items[i],rfl,X9 (hQ _ _ s.toks hx ⟨⟨_,Heap.get?_update_self _ ho (Obj.isFreed_of_fields (Obj.data_mapFields hd _)),(Obj.cls_mapFields ..).trans hc,by rw[Obj.data_mapFields hd];simp[rawInt]⟩,o2,(Heap.get?_update_other _ _ (Ne.symm cy)).trans fi,jf,n2,i9⟩ (Heap.SameBut.update ..))⟩))
 done:=λs Q E st hE=>by
  obtain⟨fw,ht⟩:=st;obtain⟨o,ho,hc,hd⟩:=id fw;obtain⟨o2,fi,jf,n2,i9⟩:=id ht;have hx:items[items.size]?=none:=by simp
  unfold Builtin.SmallTypes.nextOf;refine X0 (Yi (name:=Str.ofString "__next__") fw.typeIs F.slot_tuple_iterator_next (Yg F.slot_tuple_iterator_next fw.typeIs F.entry_tuple_iterator_next ?_ (F.args_tuple_iterator_next_1 _)));show wpAny _ _ (field (.ref it) 0 >>= _) _ _ s;refine X0 (Xq ho hd (x:=.ref t) rfl ?_);show wpAny _ _ (if(Value.ref t==Value.none)=true then _ else _) _ _ s;rw[Xj (show ¬((Value.ref t==Value.none)=true)from Bool.false_ne_true)];show wpAny _ _ (field (.ref it) 1 >>= _) _ _ s;refine X0 (Xq ho hd (x:=.int items.size 0) rfl ?_);show wpAny _ _ (seqItems? (.ref t) >>= _) _ _ s;refine X0 (Yo fi i9 ?_);simp only[Y7,hx];refine X0 (wpAny_rule (X0 (wpAny_setField ho hd (by simp) ?_)));show wpAny _ _ (newExc (.type "StopIteration") [] >>= _) _ _ _;refine X0 ?_;simp only[newExc,newTuple];refine X0 (Y2 ?_ (by size_fits));refine X0 (m:=firstArgMember _ _) (wpAny_of_eq (a:=Value.none) (by first|rfl|(simp only[firstArgMember];rfl)) ?_);refine Y2 ?_ (by size_fits);simp only[raiseNew];refine X0 (wpAny_handled ?_)
  first|rw[show A.in1.handled=none from hh]|rw[hh]
  refine X0 (X9 (wpAny_throw ?_));exact hE _ _ (((Heap.SameBut.update ..).extBut.push _).push _) ⟨_,Xd _ rfl,rfl⟩
end
end PySem
namespace Q
open PySem PySem.Spec PyProof.Rows L2 L3
section
variable {X:Cx}{Z:Fx0}{K:PySem.W.Frag}{pn:List Nat}{q:Bool}{c:Ex}{e:Expr}{σ:L2.St}{H:Hp}{L:Ls}{E:En}{pos p fu:Pos}{ci:List Expr}{k1:Nat}
theorem kkb{x:Sl}{es:List D}{l:Addr}{H1:Hp}(hx:x.d=.tup es)(ev:x.v=.ref l):∀H2:Hp,x.let.ok K H2->∃ys cs,SqT K H2 l ys/\RepA K H2 true es ys cs/\∀b∈cs,b∈x.as:=λH2 hok=>by
 obtain⟨a',ys,cs,kl,q4,r4,h4,_⟩:=items hok (.inr hx);have:a'=l:=by have:=kl.symm.trans ev;exact V.ref.inj this
 subst this;rcases q4 with⟨z,_⟩|⟨_,z⟩
 ·rw[show x.let.d=D.tup es from hx]at z;cases z
 ·exact⟨ys,cs,z,r4,h4⟩
end
end Q
namespace Q
open PySem PySem.Spec PyProof.Rows L2 L3
theorem qw3{K:PySem.W.Frag}{H:Hp}{x:Sl}(ok:x.ok K H)(ht:Wv x.sd=true)(nd:x.own.Nodup):∃cs,RepL K H false x.d x.v cs/\(∀a∈cs,a∈x.own)/\cs.Nodup:=by
 obtain⟨o,d,v,as⟩:=x;unfold Wv at ht;rw [Bool.or_eq_true]at ht;rcases ht with ht|ht
 ·unfold qJ at ht;rw[Bool.or_eq_true]at ht;rcases ht with ht|ht
  ·have ho:o=.dp:=by
    have ht:(o==Own.dp)=true:=ht;cases o with
    |dp=>rfl
    |no=>cases ht
    |rt=>cases ht
   subst ho;exact⟨as,ok,λa h=>h,nd⟩
  ·obtain⟨_,r⟩:=RepL.pu (g':=false) (RepO.wk ok) ht;exact⟨[],r,λ_ h=>(nomatch h),Xu⟩
 ·rw[Bool.and_eq_true]at ht;have ho:o=.rt:=by
   have ht:(o==Own.rt)=true:=ht.1;cases o with
   |rt=>rfl
   |no=>cases ht
   |dp=>cases ht
  subst ho;cases d with
  | lst ds=>
   have hp:D.pures ds=true:=ht.2;obtain⟨a,xs,bs,e,r,h,e2⟩:=(show RepR K H (.lst ds) v as from ok);obtain⟨_,r2⟩:=RepA.pu (g':=false) r hp;refine⟨[a],?_,λb hb=>?_,by simp⟩
   ·unfold RepL;exact⟨a,xs,[],e,r2,.inl ⟨h,rfl⟩⟩
   ·rw[List.mem_singleton.mp hb];show a∈as.take 1;rw[e2];exact X5
  |_=>cases ht.2
end Q
namespace Q
open PySem PySem.Spec PyProof.Rows L2 L3
noncomputable def PV(K:PySem.W.Frag)(H:Hp):List Nat->D->V->V->Prop
 |[],_,v,u=>u=v
 |n::p,.tup ds,v,u=>∃a xs x d,v=.ref a/\SqT K H a xs/\xs[n]?=some x/\(ds[n]?=some d/\xs.length=ds.length)/\PV K H p d x u
 |n::p,.lst ds,v,u=>∃a xs x d,v=.ref a/\H a=some (.lst xs)/\xs[n]?=some x/\(ds[n]?=some d/\xs.length=ds.length)/\PV K H p d x u
 |_::_,_,_,_=>False
section
variable {K:PySem.W.Frag}{H:Hp}
theorem PV.snoc:∀{p:List Nat} {n:Nat} {d:D} {v u:V},PV K H (p++[n]) d v u->∃d' w,PV K H p d v w/\PV K H [n] d' w u
 |[],n,d,v,u,h=>⟨d,v,rfl,h⟩
 |m::p,n,.tup ds,v,u,⟨a,xs,x,d,e,q,ex,ed,h⟩=>by
  obtain⟨d',w,h1,h2⟩:=PV.snoc (p:=p) h;exact⟨d',w,⟨a,xs,x,d,e,q,ex,ed,h1⟩,h2⟩
 |m::p,n,.lst ds,v,u,⟨a,xs,x,d,e,q,ex,ed,h⟩=>by
  obtain⟨d',w,h1,h2⟩:=PV.snoc (p:=p) h;exact⟨d',w,⟨a,xs,x,d,e,q,ex,ed,h1⟩,h2⟩
 |_::_,_,.non,_,_,h=>h.elim
 |_::_,_,.bl _,_,_,h=>h.elim
 |_::_,_,.int _,_,_,h=>h.elim
 |_::_,_,.str _,_,_,h=>h.elim
 |_::_,_,.dct _,_,_,h=>h.elim
 |_::_,_,.obj _ _,_,_,h=>h.elim
theorem PV.one{n:Nat}{d:D}{v u:V}(h:PV K H [n] d v u):∃a xs,v=.ref a/\(H a=some (.lst xs)\/SqT K H a xs)/\xs[n]?=some u:=by
 cases d with
 |tup ds=>
  obtain⟨a,xs,x,d,e,q,ex,ed,h⟩:=h;have h:u=x:=h;subst h;exact⟨a,xs,e,.inr q,ex⟩
 |lst ds=>
  obtain⟨a,xs,x,d,e,q,ex,ed,h⟩:=h;have h:u=x:=h;subst h;exact⟨a,xs,e,.inl q,ex⟩
 |_=>exact h.elim
structure Kx (H H':Hp)(as bs:List Addr):Prop where
 tup:∀a xs,H a=some (.tup xs)->H' a=some (.tup xs)
 frz:∀a o u,H a=some (.frz o u)->H' a=some (.frz o u)
 out:∀b∈as,b∉bs->∀ob,H b=some ob->H' b=some ob
theorem Kx.kp{H':Hp}{as bs cs:List Addr}(k:Kx H H' as bs)(h:∀b∈cs,b∈as/\b∉bs):Kp H H' cs:=⟨k.tup,k.frz,λa ha=>k.out a (h a ha).1 (h a ha).2⟩
theorem RepA.hole:∀{n:Nat} {ds:List D} {xs:List V} {as:List Addr} {dn:D},RepA K H false ds xs as->as.Nodup->ds[n]?=some dn->∃x bs,xs[n]?=some x/\RepL K H false dn x bs/\bs.Nodup/\(∀b∈bs,b∈as) /\
  ∀(H':Hp) (n0:D) (bu:List Addr),Kx H H' as bs->RepL K H' false n0 x bu->bu.Nodup->(∀b∈as,b∉bs->b∉bu)->∃eh,RepA K H' false (ds.set n n0) xs eh/\eh.Nodup/\∀b∈eh,(b∈as/\b∉bs)\/b∈bu
 | _,[],_,_,_,_,_,e=>by simp at e
 | 0,d::ds,xs,as,dn,h,nd,e=>by
  have e:d=dn:=by simpa using e
  subst e;unfold RepA at h;obtain⟨x,r,bs,es,rfl,rfl,h1,h2⟩:=h;rw[X6]at nd;refine⟨x,bs,rfl,h1,nd.1,λb hb=>ll9 _ hb,λH' n0 bu kx r' iv hd=>?_⟩;have he:∀b∈es,b∈bs++es/\b∉bs:=λb hb=>⟨lr9 _ hb,λz=>nd.2.2 b z b hb rfl⟩
  refine⟨bu++es,?_,?_,λb hb=>?_⟩
  ·rw[List.set_cons_zero];unfold RepA;exact⟨x,r,bu,es,rfl,rfl,r',h2.kp (kx.kp he)⟩
  ·rw[X6];refine⟨iv,nd.2.1,λa ha b hb jt=>?_⟩;subst jt;exact hd a (he a hb).1 (he a hb).2 ha
  ·rcases List.mem_append.mp hb with z|z
   ·exact .inr z
   ·exact .inl (he b z)
 | n+1,d::ds,xs,as,dn,h,nd,e=>by
  unfold RepA at h;obtain⟨x,r,bs,es,rfl,rfl,h1,h2⟩:=h;rw[X6]at nd;obtain⟨y,fs,q1,q2,q3,q4,q5⟩:=RepA.hole (n:=n) h2 nd.2.1 (by simpa using e);have hb:∀b∈bs,b∈bs++es/\b∉fs:=λb hb=>⟨ll9 _ hb,λz=>nd.2.2 b hb b (q4 b z) rfl⟩
  refine⟨y,fs,by simpa using q1,q2,q3,λb hb=>lr9 _ (q4 b hb),λH' n0 bu kx r' iv hd=>?_⟩;obtain⟨eh,a1,a2,a3⟩:=q5 H' n0 bu ⟨kx.tup,kx.frz,λb hb=>kx.out b (lr9 _ hb)⟩ r' iv (λb hb=>hd b (lr9 _ hb));refine⟨bs++eh,?_,?_,λb mv=>?_⟩
  ·rw[List.set_cons_succ];unfold RepA;exact⟨x,r,bs,eh,rfl,rfl,h1.kp (kx.kp hb),a1⟩
  ·rw[X6];refine⟨nd.1,a2,λa ha b mv jt=>?_⟩;subst jt;rcases a3 a mv with z|z
   ·exact nd.2.2 a ha a z.1 rfl
   ·exact hd a (hb a ha).1 (hb a ha).2 z
  ·rcases List.mem_append.mp mv with z|z
   ·exact .inl (hb b z)
   ·exact(a3 b z).imp (λz=>⟨lr9 _ z.1,z.2⟩) id
theorem RepL.hole:∀{p:List Nat} {d d1:D} {v:V} {as:List Addr},RepL K H false d v as->as.Nodup->D.at p d=some d1->∃v1 dz,PV K H p d v v1/\RepL K H false d1 v1 dz/\dz.Nodup/\(∀b∈dz,b∈as) /\
  ∀ (H':Hp) (d':D) (bu:List Addr),Kx H H' as dz->RepL K H' false d' v1 bu->bu.Nodup->(∀b∈as,b∉dz->b∉bu)->∃eh,RepL K H' false (D.put d' p d) v eh/\eh.Nodup/\∀b∈eh,(b∈as/\b∉dz)\/b∈bu
 | [],d,d1,v,as,h,nd,e=>by
  cases oq9 (show some d=some d1 from e);exact⟨v,as,rfl,h,nd,λ_ h=>h,λH' d' bu kx r' iv hd=>⟨bu,r',iv,λb hb=>.inr hb⟩⟩
 | n::p,.tup ds,d1,v,as,h,nd,e=>by
  unfold D.at at e;cases hn:ds[n]? with
  | none=>rw[hn]at e;cases e
  | some dn=>
   rw[hn]at e;unfold RepL at h;obtain⟨a,xs,e1,sq,ra⟩:=h;obtain⟨x,bs,q1,q2,q3,q4,q5⟩:=RepA.hole ra nd hn;obtain⟨v1,dz,p1,p2,p3,p4,p5⟩:=RepL.hole (p:=p) q2 q3 e;refine⟨v1,dz,⟨a,xs,x,dn,e1,sq,q1,⟨hn,ra.len.symm⟩,p1⟩,p2,p3,λb hb=>q4 b (p4 b hb),λH' d' bu kx r' iv hd=>?_⟩;obtain⟨cs,c1,c2,c3⟩:=p5 H' d' bu ⟨kx.tup,kx.frz,λb hb=>kx.out b (q4 b hb)⟩ r' iv (λb hb=>hd b (q4 b hb));obtain⟨eh,a1,a2,a3⟩:=q5 H' _ cs ⟨kx.tup,kx.frz,λb hb hn=>kx.out b hb λz=>hn (p4 b z)⟩ c1 c2 (λb hb hn z=>by
    rcases c3 b z with z|z
    ·exact hn z.1
    ·exact hd b hb (λz=>hn (p4 b z)) z)
   refine⟨eh,?_,a2,λb hb=>?_⟩
   ·unfold D.put;rw[hn];dsimp only;unfold RepL;exact⟨a,xs,e1,Kp.tupT (as:=[]) ⟨kx.tup,kx.frz,λ_ h=>nomatch h⟩ sq,a1⟩
   ·rcases a3 b hb with z|z
    ·exact .inl ⟨z.1,λy=>z.2 (p4 b y)⟩
    ·exact(c3 b z).imp (λz=>⟨q4 b z.1,z.2⟩) id
 | n::p,.lst ds,d1,v,as,h,nd,e=>by
  unfold D.at at e;cases hn:ds[n]? with
  | none=>rw[hn]at e;cases e
  | some dn=>
   rw[hn]at e;unfold RepL at h;obtain⟨a,xs,fs,e1,ra,sq⟩:=h;rcases sq with⟨sq,rfl⟩|⟨z,_⟩
   rotate_left
   ·cases z
   rw[List.nodup_cons]at nd;obtain⟨x,bs,q1,q2,q3,q4,q5⟩:=RepA.hole ra nd.2 hn;obtain⟨v1,dz,p1,p2,p3,p4,p5⟩:=RepL.hole (p:=p) q2 q3 e;have ha1:a∉dz:=λz=>nd.1 (q4 a (p4 a z))
   refine⟨v1,dz,⟨a,xs,x,dn,e1,sq,q1,⟨hn,ra.len.symm⟩,p1⟩,p2,p3,λb hb=>lc9 _ (q4 b (p4 b hb)),λH' d' bu kx r' iv hd=>?_⟩;obtain⟨cs,c1,c2,c3⟩:=p5 H' d' bu ⟨kx.tup,kx.frz,λb hb=>kx.out b (lc9 _ (q4 b hb))⟩ r' iv (λb hb=>hd b (lc9 _ (q4 b hb)));obtain⟨eh,a1,a2,a3⟩:=q5 H' _ cs ⟨kx.tup,kx.frz,λb hb hn=>kx.out b (lc9 _ hb) λz=>hn (p4 b z)⟩ c1 c2 (λb hb hn z=>by
    rcases c3 b z with z|z
    ·exact hn z.1
    ·exact hd b (lc9 _ hb) (λz=>hn (p4 b z)) z)
   have h3:∀b∈eh,(b∈fs/\b∉dz)\/b∈bu:=λb hb=>by
    rcases a3 b hb with z|z
    ·exact .inl ⟨z.1,λy=>z.2 (p4 b y)⟩
    ·exact(c3 b z).imp (λz=>⟨q4 b z.1,z.2⟩) id
   refine⟨a::eh,?_,List.nodup_cons.mpr ⟨λz=>?_,a2⟩,λb hb=>?_⟩
   ·unfold D.put;rw[hn];dsimp only;unfold RepL;exact⟨a,xs,eh,e1,a1,.inl ⟨kx.out a X5 ha1 _ sq,rfl⟩⟩
   ·rcases h3 a z with z|z
    ·exact nd.1 z.1
    ·exact hd a X5 ha1 z
   ·rcases List.mem_cons.mp hb with rfl|hb
    ·exact .inl ⟨X5,ha1⟩
    ·exact(h3 b hb).imp (λz=>⟨lc9 _ z.1,z.2⟩) id
 |_::_,.non,_,_,_,_,_,e=>by cases e
 |_::_,.bl _,_,_,_,_,_,e=>by cases e
 |_::_,.int _,_,_,_,_,_,e=>by cases e
 |_::_,.str _,_,_,_,_,_,e=>by cases e
 |_::_,.dct _,_,_,_,_,_,e=>by cases e
 |_::_,.obj _ _,_,_,_,_,_,e=>by cases e
theorem wQ{y:Sl}(h:y.o=.dp):y.own=y.as:=by unfold Sl.own;rw[h]
theorem World.hole{L:Ls}{y:Sl}{p:List Nat}{d1:D}(w:World K H (some y::L))(ho:y.o=.dp)(h:D.at p y.d=some d1):∃y1:Sl,y1.o=.dp/\y1.d=d1/\PV K H p y.d y.v y1.v/\World K H (some y1::L) /\
  ∀ (He:Hp) (Le:Ls) (z:Sl),World K He (some z::Le)->Step H (some y1::L) He (some z::Le)->z.o=.dp->z.v=y1.v->∃y':Sl,y'.o=.dp/\y'.d=D.put z.d p y.d/\y'.v=y.v/\World K He (some y'::Le)/\Step H (some y::L) He (some y'::Le):=by
 have ok:RepL K H false y.d y.v y.as:=by
  have:=w.ok y X5;unfold Sl.ok at this;rw[ho]at this;exact this
 have nd:=w.nd;rw [jw,wQ ho,X6]at nd;have ds:=w.ds;obtain⟨v1,dz,p1,p2,p3,p4,p5⟩:=RepL.hole ok nd.1 h;have al:∀b∈y.as,H b≠none:=λb hb z=>by
  rcases w.own_al (a:=b) (by rw[jw,wQ ho];exact ll9 _ hb)with⟨_,q⟩|⟨_,q⟩|⟨_,q⟩<;>· rw[z]at q;cases q
 refine⟨⟨.dp,d1,v1,dz⟩,rfl,rfl,p1,⟨λx hx=>?_,?_,λa ha=>?_⟩,λHe Le z wz st zo zv=>?_⟩
 ·rcases List.mem_cons.mp hx with e|hx
  ·cases e;exact p2
  ·exact w.ok x (lc9 _ hx)
 ·rw[jw,X6];exact⟨p3,nd.2.1,λa ha b hb=>nd.2.2 a (p4 a ha) b hb⟩
 ·have lx:a∈j7 (some y::L):=by
   rw[jw]at ha ⊢;rcases List.mem_append.mp ha with ha|ha
   ·exact ll9 _ (by rw[wQ ho];exact p4 a ha)
   ·exact lr9 _ ha
  have:=ds a lx;rw[kq]at this ⊢;intro q;rcases List.mem_append.mp q with q|q
  ·cases q
  ·exact this (lr9 _ q)
 ·have okz:RepL K He false z.d v1 z.as:=by
   have:=wz.ok z X5;unfold Sl.ok at this;rw[zo,zv]at this;exact this
  have ndz:=wz.nd;rw[jw,wQ zo,X6]at ndz;have no1:∀b∈y.as,b∉dz->b∉j7 (some (⟨.dp,d1,v1,dz⟩:Sl)::L):=λb hb hn q=>by
   rw[jw]at q;rcases List.mem_append.mp q with q|q
   ·exact hn q
   ·exact nd.2.2 b hb b q rfl
  have noz:∀b∈y.as,b∉dz->b∉j7 (some z::Le):=λb hb hn q=>by
   rcases st.own b q with q|q
   ·exact no1 b hb hn q
   ·exact al b hb q
  have nof:∀b∈y.as,b∉dz->b∉jJ Le:=λb hb hn q=>by
   rcases st.frz b (by rw[kq];exact lr9 _ q)with q|q|q
   ·rw[kq]at q;rcases List.mem_append.mp q with q|q
    ·cases q
    ·exact ds b (by rw[jw,wQ ho];exact ll9 _ hb) (by rw[kq];exact lr9 _ q)
   ·exact no1 b hb hn q
   ·exact al b hb q
  have tupk:∀a xs,H a=some (.tup xs)->He a=some (.tup xs):=λa xs e=>st.keep a _ e λq=>by
   have q2:a∈j7 (some y::L):=by
    rw[jw]at q ⊢;exact List.mem_append.mpr ((List.mem_append.mp q).imp (λq=>by rw[wQ ho];exact p4 a q) id)
   rcases w.own_al q2 with⟨_,q⟩|⟨_,q⟩|⟨_,q⟩<;>· rw[e]at q;cases q
  have frzk:∀a o u,H a=some (.frz o u)->He a=some (.frz o u):=λa o u e=>st.keep a _ e λq=>by
   have q2:a∈j7 (some y::L):=by
    rw[jw]at q ⊢;exact List.mem_append.mpr ((List.mem_append.mp q).imp (λq=>by rw[wQ ho];exact p4 a q) id)
   rcases w.own_al q2 with⟨_,q⟩|⟨_,q⟩|⟨_,q⟩<;>· rw[e]at q;cases q
  obtain⟨eh,a1,a2,a3⟩:=p5 He z.d z.as ⟨tupk,frzk,λb hb hn ob e=>st.keep b ob e (no1 b hb hn)⟩ okz ndz.1 (λb hb hn q=>noz b hb hn (by rw[jw,wQ zo];exact ll9 _ q));have sub:∀b∈j7 (some z::Le),b∈j7 (some y::L)\/H b=none:=λb hb=>(st.own b hb).imp (λq=>by
   rw[jw]at q ⊢;exact List.mem_append.mpr ((List.mem_append.mp q).imp (λq=>by rw[wQ ho];exact p4 b q) id)) id
  refine⟨⟨.dp,D.put z.d p y.d,y.v,eh⟩,rfl,rfl,rfl,⟨λx hx=>?_,?_,λa ha q=>?_⟩,⟨λa ob e hn=>st.keep a ob e λq=>hn ?_,λa ha=>?_,λa ha=>?_⟩⟩
  ·rcases List.mem_cons.mp hx with e|hx
   ·cases e;exact a1
   ·exact wz.ok x (lc9 _ hx)
  ·rw[jw,X6];refine⟨a2,ndz.2.1,λa ha b hb jt=>?_⟩;subst jt;rcases a3 a ha with q|q
   ·exact noz a q.1 q.2 (by rw[jw];exact lr9 _ hb)
   ·exact ndz.2.2 a q a hb rfl
  ·have q:a∈jJ Le:=by
    rw[kq]at q;rcases List.mem_append.mp q with q|q
    ·cases q
    ·exact q
   rw[jw]at ha;have fz:a∈jJ (some z::Le):=by rw[kq];exact lr9 _ q
   rcases List.mem_append.mp ha with ha|ha
   ·rcases a3 a ha with r|r
    ·exact nof a r.1 r.2 q
    ·exact wz.ds a (by rw[jw,wQ zo];exact ll9 _ r) fz
   ·exact wz.ds a (by rw[jw];exact lr9 _ ha) fz
  ·rw[jw]at q ⊢;exact List.mem_append.mpr ((List.mem_append.mp q).imp (λq=>by rw[wQ ho];exact p4 a q) id)
  ·rw[jw]at ha;rcases List.mem_append.mp ha with ha|ha
   ·rcases a3 a ha with q|q
    ·exact .inl (by rw[jw,wQ ho];exact ll9 _ q.1)
    ·exact sub a (by rw[jw,wQ zo];exact ll9 _ q)
   ·exact sub a (by rw[jw];exact lr9 _ ha)
  ·have q:a∈jJ Le:=by
    rw[kq]at ha;rcases List.mem_append.mp ha with q|q
    ·cases q
    ·exact q
   rcases st.frz a (by rw[kq];exact lr9 _ q)with r|r|r
   ·refine .inl ?_;rw[kq]at r ⊢;rcases List.mem_append.mp r with r|r
    ·cases r
    ·exact lr9 _ r
   ·refine .inr (.inl ?_);rw[jw]at r ⊢;exact List.mem_append.mpr ((List.mem_append.mp r).imp (λq=>by rw[wQ ho];exact p4 a q) id)
   ·exact .inr (.inr r)
end
end Q
namespace Q
open PySem PySem.Spec PyProof.Rows L2 L3
abbrev tP(K:PySem.W.Frag)(i:Nat)(p:List Nat):TE:=fun σ H Q=>∃d v u,σ[i]?=some (some v)/\PV K H p d v u/\Q u H
theorem qjf{xs:List V}{n:Nat}{x:V}(h:xs[n]?=some x):atI xs (n:Int)=some x:=by
 have hn:n<xs.length:=(List.getElem?_eq_some_iff.mp h).1;have e:L2.ixN xs.length (n:Int)=some n:=by
  unfold L2.ixN;rw[Xb (Int.natCast_nonneg n)];simp[hn]
 unfold atI;rw[e];exact h
section
variable {X:Cx}{Z:Fx0}{pn:List Nat}{q:Bool}{c:Ex}{e ep:Expr}{i:Nat}{p:List Nat}{pos:Pos}
theorem kqm(K:PySem.W.Frag)(h:PE X e (zq i)):PE X e (tP K i []):=kK h fun σ H Q ⟨d,v,u,hv,hu,q⟩=>by
 have hu:u=v:=hu;subst hu;exact⟨u,hv,q⟩
theorem kjl{K:PySem.W.Frag}{z:Int}{j:Nat}{bv:Pos}(n:Nat)(h:PE X e (tP K i p))(bg:Vq (.Constant (.int z) j bv))(hK:autoParam (X.K=K) Ŕ)(hz:autoParam (z=(n:Int)) Ŕ):PE X (.Subscript e (.Constant (.int z) j bv) pos) (tP K i (p++[n])):=
 kK (qk2 (hK▸kvu) h kxx bg) fun σ H Q ⟨d,v,u,hv,hu,q⟩=>by
  subst hz;obtain⟨d',w,h1,h2⟩:=hu.snoc;obtain⟨a,xs,e1,sq,ex⟩:=h2.one;refine⟨d,v,w,hv,h1,?_⟩;rcases sq with sq|sq
  ·exact .inl ⟨a,xs,n,u,e1,rfl,.inl (.inl sq),qjf ex,q⟩
  ·exact .inr (.inl ⟨a,xs,n,u,e1,rfl,sq,qjf ex,q⟩)
theorem XQ{K:PySem.W.Frag}{H:Hp}{L:Ls}{y:Sl}(w:World K H L)(h:L[i]?=some (some y)):World K H (some y::L.set i none)/\Step H L H (some y::L.set i none):=by
 have wn:World K H (none::L):=⟨λy hy=>w.ok y (by simpa using hy),by simpa using w.nd,by simpa using w.ds⟩;have sn:Step H L H (none::L):=⟨λ_ _ z _=>z,λa z=>.inl (by simpa using z),λa z=>.inl (by simpa using z)⟩;exact⟨wn.perm (XV h),sn.trans (Step.refl.perm (List.Perm.refl _) (XV h))⟩
theorem qkz{K:PySem.W.Frag}{H:Hp}{x:Sl}(ok:x.ok K H)(h:x.d.pure=true):RepL K H false x.d x.v []:=(RepL.pu (g':=false) (RepO.wk ok) h).2
theorem qqg{H:Hp}{l:Addr}{xs:List V}{ob:HO}(h:H l=some (.lst xs)){as:List Addr}(hn:l∉as):Kp H (upd H l ob) as:=by
 have ke:∀a o,H a=some o->a≠l->upd H l ob a=some o:=λa o e ne=>by rw[kZ ne];exact e
 refine⟨λa xs e=>ke a _ e λz=>?_,λa o u e=>ke a _ e λz=>?_,λa ha o e=>ke a o e λz=>hn (z▸ha)⟩
 ·subst z;rw[h]at e;cases e
 ·subst z;rw[h]at e;cases e
theorem World.app{K:PySem.W.Frag}{H:Hp}{M:Ls}{y x:Sl}{ds:List D}(w:World K H (some y::some x::M))(ho:y.o=.dp)(hd:y.d=.lst ds)(hp:x.d.pure=true):∃l xs,y.v=.ref l/\H l=some (.lst xs)/\xs.length=ds.length /\
  ∃z:Sl,z.o=.dp/\z.d=.lst (ds++[x.d])/\z.v=y.v/\World K (upd H l (.lst (xs++[x.v]))) (some z::M)/\Step H (some y::some x::M) (upd H l (.lst (xs++[x.v]))) (some z::M):=by
 obtain⟨l,xs,bs,c1,c2,c3,c4,c5⟩:=V5 (w.ok y X5) hd ho;have nd:=w.nd;rw[jw,X6,c4,List.nodup_cons]at nd;refine⟨l,xs,c1,c2,c5.len.symm,⟨.dp,.lst (ds++[x.d]),y.v,l::bs⟩,rfl,rfl,rfl,World.write (T:=[some x]) (M:=M) w (by rw[c4];exact X5) ?_ (List.nodup_cons.mpr nd.1) (λa ha=>.inl (by rw[c4];exact ha)) (λa ha=>nomatch ha) (λa ha z=>nomatch z)⟩;show RepL K _ false _ _ _;unfold RepL;have rx:=qkz (w.ok x (lc9 _ X5)) hp;have hr:=RepA.snoc (rx.kp (qqg (ob:=.lst (xs++[x.v])) c2 (λz=>nomatch z))) (c5.kp (qqg (ob:=.lst (xs++[x.v])) c2 nd.1.1));rw[Xr]at hr;exact⟨l,_,bs,c1,hr,.inl ⟨xk,rfl⟩⟩
theorem World.clr{K:PySem.W.Frag}{H:Hp}{M:Ls}{y:Sl}{ds:List D}(w:World K H (some y::M))(ho:y.o=.dp)(hd:y.d=.lst ds):∃l xs,y.v=.ref l/\H l=some (.lst xs) /\
  ∃z:Sl,z.o=.dp/\z.d=.lst []/\z.v=y.v/\World K (upd H l (.lst [])) (some z::M)/\Step H (some y::M) (upd H l (.lst [])) (some z::M):=by
 obtain⟨l,xs,bs,c1,c2,c3,c4,c5⟩:=V5 (w.ok y X5) hd ho;refine⟨l,xs,c1,c2,⟨.dp,.lst [],y.v,[l]⟩,rfl,rfl,rfl,World.write (T:=[]) (M:=M) w (by rw[c4];exact X5) ?_ (by simp[Sl.own]) (λa ha=>.inl ?_) (λa ha=>nomatch ha) (λa ha z=>nomatch z)⟩
 ·show RepL K _ false _ _ _;unfold RepL;exact⟨l,[],[],c1,by unfold RepA;exact⟨rfl,rfl⟩,.inl ⟨xk,rfl⟩⟩
 ·rw[c4];have ha:a∈[l]:=ha;rw[List.mem_singleton.mp ha];exact X5
theorem kv6{K:PySem.W.Frag}{H:Hp}{l:Addr}{xs:List V}(h:H l=some (.lst xs)):tyV K "list" (.ref l) H:=.inl ⟨rfl,xs,.inl (.inl h)⟩
theorem q_pa(hP:PE X ep (tP Z.K i p))(hc:QE X Z q c e)(hK:autoParam (X.K=Z.K) Ŕ)(hm:MtR X "list.append" Z0){aj ab c8:Pos}
  (ax:autoParam (attributeBase ep "append" X.env (eval ep X.env)=eval ep X.env) Ŕ)
  (cg:autoParam (((backTo ab (starEach [e] X.env)).all (λx=>!x.1)&&(backToKw ab (keywordEach [] X.env)).all (λx=>x.1.isSome)
   && decide ([e].length+([]:List Keyword).length+(if([]:List Keyword).isEmpty then 0 else 1)<30))=true) Ŕ)
  (au:autoParam ((aj.endLine==ab.line)=true) Ŕ) (hs:autoParam (starEach [e] X.env=(false,eval e X.env)::starEach [] X.env) Ŕ) (az:autoParam ((backTo ab (starEach [] X.env)).any (·.1)=false) Ŕ)
  (gc:autoParam (swapsWith (.Call (.Attribute ep "append" aj) [e] [] ab) none c8.line X.env=pure false) Ŕ):
  QS X Z pn (sPA i p c) (.Expr (.Call (.Attribute ep "append" aj) [e] [] ab) c8):=
 J8 (XW (kvk Z.K Ya PySem.F.slot_list_append PySem.F.type_list_append hm hP (vz hc vX hs) ax cg au hs az hK) gc) λDe σ H ak=>ex7 ak λE L r m w b8 k=>by
 unfold sPA at b8
 split at b8
 rotate_left
 ·cases b8
 rename_i d hE
 split at b8
 rotate_left
 ·cases b8
 rename_i ds cp
 split at b8
 rotate_left
 ·cases b8
 rename_i ag;obtain⟨y,a1,a2,a3,a4⟩:=m.get hE;obtain⟨w0,s0⟩:=XQ w a1;obtain⟨y1,b1,b2,b3,b4,b5⟩:=w0.hole a2 (by rw[a3];exact cp);obtain⟨l,xs,bs,c1,c2,_,_,_⟩:=V5 (b4.ok y1 X5) b2 b1;refine⟨y.d,y.v,y1.v,a4,b3,by rw[c1];exact kv6 c2,?_⟩;refine Vj (q:=q) (KQ i m) w0.tail b8 (k.step (s0.trans Step.drop) Pn.refl) λE1 s h1 x L1 H1 e1 e2 m1 w1 st _=>?_
 split at h1
 rotate_left
 ·cases h1
 rename_i hpu;cases oq9 h1;obtain⟨w2,s2⟩:=YX (T:=[some y1]) b4 st w1;obtain⟨l',xs',f1,f2,f3,z,z1,z2,z3,z4,z5⟩:=World.app w2 b1 b2 (by rw[e2];exact hpu);obtain⟨y',g1,g2,g3,g4,g5⟩:=b5 _ _ z z4 (s2.trans z5) z1 z3;refine⟨l',xs',x.v,f1,rfl,f2,by rw[f3];exact ag,?_⟩;have mm:=K8 (i:=i) (x:=y') (s:=(.dp,Q.D.put (.lst (ds++[s.2])) p d)) m1 g1 (by rw[g2,z2,a3,e2]);rw[g3,zw a4]at mm;exact k σ _ _ Pn.refl mm g4.set (s0.trans (g5.trans Step.set))
theorem q_pc(hP:PE X ep (tP Z.K i p))(hK:autoParam (X.K=Z.K) Ŕ)(hm:MtR X "list.clear" kxi){aj ab c8:Pos}
  (ax:autoParam (attributeBase ep "clear" X.env (eval ep X.env)=eval ep X.env) Ŕ) (au:autoParam ((aj.endLine==ab.line)=true) Ŕ)
  (gc:autoParam (swapsWith (.Call (.Attribute ep "clear" aj) [] [] ab) none c8.line X.env=pure false) Ŕ):
  QS X Z pn (sPC i p) (.Expr (.Call (.Attribute ep "clear" aj) [] [] ab) c8):=
 J8 (XW (kxz Z.K Ya PySem.F.slot_list_clear PySem.F.type_list_clear hm hP ax au hK) gc) λDe σ H ak=>ex7 ak λE L r m w b8 k=>by
 unfold sPC at b8
 split at b8
 rotate_left
 ·cases b8
 rename_i d hE
 split at b8
 rotate_left
 ·cases b8
 rename_i ds cp;cases oq9 b8;obtain⟨y,a1,a2,a3,a4⟩:=m.get hE;obtain⟨w0,s0⟩:=XQ w a1;obtain⟨y1,b1,b2,b3,b4,b5⟩:=w0.hole a2 (by rw[a3];exact cp);obtain⟨l,xs,c1,c2,z,z1,z2,z3,z4,z5⟩:=World.clr b4 b1 b2;refine⟨y.d,y.v,y1.v,a4,b3,by rw[c1];exact kv6 c2,?_⟩;obtain⟨y',g1,g2,g3,g4,g5⟩:=b5 _ _ z z4 z5 z1 z3;refine⟨l,xs,c1,rfl,c2,?_⟩;have mm:=K8 (i:=i) (x:=y') (s:=(.dp,Q.D.put (.lst []) p d)) (KQ i m) g1 (by rw[g2,z2,a3]);rw[g3,zw a4,List.set_set]at mm;exact k σ _ _ Pn.refl mm g4.set (s0.trans (g5.trans Step.set))
theorem vqw{u:Option V}:∀{E:En} {σ:L2.St} {L:Ls} (j:Nat),Mt E σ L->Mt (E.set j none) (σ.set j u) (L.set j none):=by
 intro E σ L j m
 induction m generalizing j with
 |nil=>exact .nil
 |un m ih=>cases j with
  |zero=>exact .un m
  |succ j=>exact .un (ih j)
 |cons m ih=>cases j with
  |zero=>exact .un m
  |succ j=>exact .cons (ih j)
theorem World.out1{K:PySem.W.Frag}{H:Hp}{L:Ls}(r:Nat)(w:World K H L):World K H (L.set r none)/\Step H L H (L.set r none):=by
 cases h:L[r]? with
 | none=>
  rw[show L.set r none=L from List.set_eq_of_length_le (by simpa using h)];exact⟨w,Step.refl⟩
 | some q=>
  cases q with
  |none=>
   rw[zw h];exact⟨w,Step.refl⟩
  |some y=>
   obtain⟨w1,s1⟩:=XQ w h;exact⟨w1.tail,s1.trans Step.drop⟩
theorem ZY(hc:QE X Z q c e):QE X Z q (K4 c) e:=kK hc fun σ H Q ak=>ex8 ak λE L r m w hr xc k=>by
 unfold K4 at hr;rcases wq hr with⟨E1,s,h1,h2⟩|⟨E1,cc,h1,h2⟩
 ·refine⟨E,L,_,m,w,h1,(λ_ _ z=>by cases z),λE' s' z x L' H' e1 e2 m' w' st sm=>?_⟩;injection z with z1 z2;subst z1 z2
  split at h2
  rotate_left
  ·cases h2
  rename_i lp;cases oq9 h2;have xn:x.own.Nodup:=by
   have:=w'.nd;rw[jw]at this;exact(List.nodup_append.mp this).1
  obtain⟨cs,rx,cb,hcn⟩:=qw3 w'.head (by unfold Sl.sd;rw[e1,e2];exact lp) xn;have nd:=w'.nd;rw[jw,X6]at nd;refine k _ _ rfl ⟨.dp,x.d,x.v,cs⟩ L' H' rfl e2 m' ⟨λy hy=>?_,?_,λa ha=>?_⟩ ⟨st.keep,λa ha=>?_,λa ha=>?_⟩ λhq=>⟨(sm hq).1,λb hb=>(sm hq).2 b (cb b hb)⟩
  ·rcases List.mem_cons.mp hy with z|z
   ·cases z;exact rx
   ·exact w'.ok y (lc9 _ z)
  ·rw[jw,X6];exact⟨hcn,nd.2.1,λa ha b hb=>nd.2.2 a (cb a ha) b hb⟩
  ·have lx:a∈j7 (some x::L'):=by
    rw[jw]at ha ⊢;exact List.mem_append.mpr ((List.mem_append.mp ha).imp (cb a) id)
   intro q2;rw[kq]at q2;refine w'.ds a lx ?_;rw[kq];exact lr9 _ ((List.mem_append.mp q2).elim (λz=>nomatch z) id)
  ·refine st.own a ?_;rw[jw]at ha ⊢;exact List.mem_append.mpr ((List.mem_append.mp ha).imp (cb a) id)
  ·refine st.frz a ?_;rw[kq]at ha ⊢;exact lr9 _ ((List.mem_append.mp ha).elim (λz=>nomatch z) id)
 ·exact⟨E,L,_,m,w,h1,xc.map h2,λE' s' z=>by cases z⟩
end
end Q
namespace Q
open PySem PySem.Spec PyProof.Rows L2 L3
theorem kzl{P:Program}{w:PySem.World}{K:PySem.W.Frag}{mg mb:Str->Option Value}{CX:CXT}{k:Nat}{fa a:Addr}{fd:FuncData}{x:Str}{sp:Sp}{s₁:Shared}{vs:List Value}{ns:List Int}
  (KX:K.In s₁.heap) (hns:s₁.heap.Ns mainGlobals mg) (hb:s₁.heap.Ns builtinsNs mb) (hbb:∀x:Str,x≠"__name__"->mb x=bootBuiltins x) (hlim:s₁.heap.NoLimit) (hg:s₁.gens=#[])
  (ha:s₁.heap.get? a=some { cls:=.type "list",data:=.seq vs.toArray }) (hi:IntsAre vs ns) (hl:ns.length<=sizeLine) (hr:Room k callerA)
  (F:∀base:Heap,K.In base->base.Ns mainGlobals mg->FnOk P w K mg base CX k fa fd [x] sp) (mz:∀(s:Shared) (u:Value),BindsTo s fd ⟨[u],[]⟩ [(x,u)])
  (jg:∀H:Hp,vvm H->LsR K H a (ns.map V.int)->sp [.ref a] H (λv _=>v=.bl true) λ_ _ _=>False)
  (hCX:∀H e s',CX [] H s₁ (λ_ _ _=>False) e s'->False):
  codeAny (model P w) callerA (.call (.ref fa) ⟨[.ref a],[]⟩) (λr s'=>r=.ok (.ret (.bool true))/\OldK s₁.heap s'.heap/\s'.os=s₁.os/\AllBare s'.gens) s₁:=by
 have rv:=kww hi;have lenV:=hi.length;have lz:∀H:Hp,vvm H->LsR K H a (ns.map V.int)->HOk P w H s₁.heap->(∀b,H b≠none->b=a)->(H a≠none->K.lookup a=none) ->
   codeAny (model P w) callerA (.call (.ref fa) ⟨[.ref a],[]⟩) (λr s'=>r=.ok (.ret (.bool true))/\OldK s₁.heap s'.heap/\s'.os=s₁.os/\AllBare s'.gens) s₁:=by
  intro H hO hS hok hA hK;have ft:∀{b:Addr} {o:Obj},s₁.heap.get? b=some o->H b=none->(Jz s₁.heap H).get? b=some o:=λe n=>qkg e n
  have m6:∀{b:Addr} {o:Obj} {es:Array DictEntry} {ep:Nat},s₁.heap.get? b=some o->o.data=.dict es ep->H b=none:=fun {b o es ep} e d=>by
   cases q:H b with
   | none=>rfl
   | some u=>
    have e':b=a:=hA b (by rw[q];simp);subst e';rw[ha]at e;cases e;have d':Data.seq vs.toArray _=Data.dict es ep:=d;cases d'
  have nsK:∀{b:Addr} {m:Str->Option Value},s₁.heap.Ns b m->(Jz s₁.heap H).Ns b m:=fun {b m} ⟨o,es,ep,e,d,r⟩=>⟨o,es,ep,ft e (m6 e d),d,r⟩
  have hKb:K.In (Jz s₁.heap H):=λb o e=>ft (KX b o e) (by
   cases q:H b with
   | none=>rfl
   | some u=>
    have e':b=a:=hA b (by rw[q];simp);subst e';rw[hK (by rw[q];simp)]at e;cases e)
  have hM:Mod K mg (Jz s₁.heap H):=⟨hKb,nsK hns,⟨mb,nsK hb,hbb⟩,let ⟨mc,h1,h2⟩:=hlim;⟨mc,nsK h1,h2⟩⟩;have e0:Env0 P w K mg (Jz s₁.heap H) callerA [] s₁ H:=⟨rfl,hM,λb o e=>qwb e,Nat.le_of_eq (kzp _ _),trivial,λb hb=>absurd (show b∈([]:List Addr)from hb) (by simp),hok,.of_eq hg⟩;refine codeAny_mono ((F _ hKb (nsK hns)).run callerA [] s₁ H ⟨[.ref a],[]⟩ [.ref a] [.ref a] _ _ hr e0 (mz s₁ (.ref a)) (.cons rfl .nil) (jg H hO hS)) λr s' h=>?_
  cases r with
  | error e=>exact(hCX H e s' h).elim
  | ok fl=>
   cases fl with
   | next=>exact False.elim h
   | brk=>exact False.elim h
   | cont=>exact False.elim h
   | ret u=>
    obtain⟨v,H',os,bare,un,gl,r',q⟩:=h;have q':v=.bl true:=q;subst q';obtain rfl:u=Value.bool true:=r';refine⟨rfl,OldK.of_keep λb o e=>?_,os,bare⟩;cases q:H b with
    | none=>exact un.keep b o e q (by intro z;exact absurd (show b∈([]:List Addr)from z) (by simp)) (by simp)
    | some u=>
     rcases hO b with z|⟨ob,xs,z⟩
     ·rw[q]at z;cases z
     ·have z2:=un.frzs b ob _ z;obtain⟨e1,_⟩:=hok b _ z;obtain⟨e2,_⟩:=gl b _ z2;rw[e]at e1;cases e1;exact e2
 cases hk:K.lookup a with
 | some o=>
  have e:=KX a o hk;rw[ha]at e;cases e;refine lz (λ_=>none) (λ_=>.inl rfl) (.inr ⟨vs.toArray,_,hk,by rw[X4,lenV];exact hl,by simpa using rv⟩) (λb u z=>by have z':(none:Option HO)=some u:=z;cases z') (λb z=>absurd rfl z) λz=>absurd rfl z
 | none=>
  refine lz (λb=>if b=a then some (.frz { cls:=.type "list",data:=.seq vs.toArray } (.lst (ns.map V.int)))else none) (λb=>?_) (.inl (.inr ⟨{ cls:=.type "list",data:=.seq vs.toArray },Xb rfl⟩)) (λb u z=>?_) (λb z=>?_) λ_=>hk
  ·by_cases hb:b=a
   ·exact .inr ⟨_,_,Xb hb⟩
   ·exact .inl (Xj hb)
  ·by_cases hb:b=a
   ·have z':=(Xb hb).symm.trans z;cases z';subst hb;exact⟨ha,by rw[X3];exact hl,vs,_,rv,ha⟩
   ·have z':=(Xj hb).symm.trans z;cases z'
  ·by_cases hb:b=a
   ·exact hb
   ·exact absurd (Xj hb) z
@[elab_as_elim] theorem vwd {P:List Value->Prop}(us:List Value)(e:us.length=1)(h:∀a,P [a]):P us:=by
 cases us with
 |nil=>cases e
 |cons a us=>cases List.eq_nil_of_length_eq_zero (Nat.succ.inj e);exact h a
@[elab_as_elim] theorem vwc {P:List Value->Prop}(us:List Value)(e:us.length=2)(h:∀a b,P [a,b]):P us:=by
 cases us with
 |nil=>cases e
 |cons a us=>exact vwd (P:=λl=>P (a::l)) us (Nat.succ.inj e) λb=>h a b
@[elab_as_elim] theorem vwb {P:List Value->Prop}(us:List Value)(e:us.length=3)(h:∀a b c,P [a,b,c]):P us:=by
 cases us with
 |nil=>cases e
 |cons a us=>exact vwc (P:=λl=>P (a::l)) us (Nat.succ.inj e) λb c=>h a b c
@[elab_as_elim] theorem vwa {P:List Value->Prop}(us:List Value)(e:us.length=4)(h:∀a b c d,P [a,b,c,d]):P us:=by
 cases us with
 |nil=>cases e
 |cons a us=>exact vwb (P:=λl=>P (a::l)) us (Nat.succ.inj e) λb c d=>h a b c d
@[elab_as_elim] theorem vw9 {P:List Value->Prop}(us:List Value)(e:us.length=5)(h:∀a b c d f,P [a,b,c,d,f]):P us:=by
 cases us with
 |nil=>cases e
 |cons a us=>exact vwa (P:=λl=>P (a::l)) us (Nat.succ.inj e) λb c d f=>h a b c d f
@[elab_as_elim] theorem len6 {P:List Value->Prop}(us:List Value)(e:us.length=6)(h:∀a b c d f g,P [a,b,c,d,f,g]):P us:=by
 cases us with
 |nil=>cases e
 |cons a us=>exact vw9 (P:=λl=>P (a::l)) us (Nat.succ.inj e) λb c d f g=>h a b c d f g
theorem jwn{K:PySem.W.Frag}{H:Hp}{g:Bool}:∀(ns:List Int),RepA K H g (ns.map D.int) (ns.map V.int) []
 |[]=>by unfold RepA;exact⟨rfl,rfl⟩
 |n::ns=>by
  rw[List.map_cons,List.map_cons];unfold RepA;exact⟨_,_,[],[],rfl,rfl,Vk,jwn ns⟩
theorem vji{K:PySem.W.Frag}{mg:Str->Option Value}{f:Fn}{H:Hp}{a:Addr}{ns:List Int}(h:∃E o,f [(.no,.lst (ns.map D.int))]=some (.ok E (o,.bl true)))(hs:LsR K H a (ns.map V.int))(hO:vvm H):
  spF K mg 1 f [.ref a] H (λv _=>v=.bl true) λ_ _ _=>False:=by
 obtain⟨E,o,h⟩:=h;have m4:∃as,RepL K H true (.lst (ns.map D.int)) (.ref a) as/\(∀b∈as,False):=by
  rcases hs with(hs|⟨ob,hs⟩)|hs
  ·rcases hO a with z|⟨_,_,z⟩<;>(rw[hs]at z;cases z)
  ·refine⟨[],?_,λb hb=>nomatch hb⟩;unfold RepL;exact⟨a,ns.map V.int,[],rfl,jwn ns,.inr ⟨rfl,.inl ⟨ob,hs⟩,rfl⟩⟩
  ·refine⟨[],?_,λb hb=>nomatch hb⟩;unfold RepL;exact⟨a,ns.map V.int,[],rfl,jwn ns,.inr ⟨rfl,.inr hs,rfl⟩⟩
 obtain⟨as,r,hn⟩:=m4;refine⟨[⟨.no,.lst (ns.map D.int),.ref a,as⟩],_,rfl,rfl,?_,h,(λE' c z=>by cases z),λE' s z x H' e1 e2 w' st=>?_⟩
 ·exact⟨λx hx=>by rw[oq9 (List.mem_singleton.mp hx)];exact r,by simp[Sl.own],λb hb=>by simp[Sl.own]at hb⟩
 ·injection z with z1 z2;subst z2;exact Qz w'.head e2
section
open PySem.W PySem.Calls
theorem walkQ{l:OpenLaw}{n k:Nat}{q:Program}{qv:List Str}{XP:(Str->Option Value)->Heap->Prop}{YP:PySem.World->Heap->Prop}{d:DefRec}{K:Params->Frag}{f:Fn}{x:Str}
  (hn:l.most=some n) (hn2:n<=sizeLine) (hdf:d.params.defaults=[]) (hr:Room k callerA)
  (hY:∀(w:PySem.World) (h:Heap),YP w h->(K w.params).In h)
  (F:∀(w:PySem.World) (mg:Str->Option Value) (fa:Addr) (h:Heap),(K w.params).In h->h.Ns mainGlobals mg->mg d.name=some (.ref fa) ->
   ∃fd:FuncData,(∀(s:Shared) (u:Value),BindsTo s fd ⟨[u],[]⟩ [(x,u)])/\∀base:Heap,(K w.params).In base->base.Ns mainGlobals mg->FnOk l.prog w (K w.params) mg base (CXE l.prog w) k fa fd [x] (spF (K w.params) mg 1 f))
  (jg:∀(ns:List Int),ns.length<=n->(∀i∈ns,Builtin.Int.intBits i<=1048576)->∃E o,f [(.no,.lst (ns.map D.int))]=some (.ok E (o,.bl true))):
  WalkO q qv XP YP l.row.toRowW d [] (λf vs=>PySem.call f vs):=by
 intro w s0 s1 mg mb G Y fa o pm cd ef dV kV ho hd fe hD hmg hg args ju as ik hlay hrd hwl hlo;obtain rfl:dV=.none:=Dflts.none hD hdf;obtain rfl:kV=.none:=Dflts.noKw hD;obtain⟨a,vs,ns,rfl,rfl,hobj,m5,ag⟩:=Att.script_of hn ik hwl;have ly:=kv3 hlay;have KX:=hY w _ Y;obtain⟨fd,hb,hF⟩:=F w mg fa _ KX G.T.g hmg;refine enter_call (codeAny_mono (kzl KX G.T.g G.T.b G.T.builtins G.T.nolimit hg hobj m5 (Y1 ag hn2) hr hF hb (λH hO hS=>vji (jg ns ag ly) hS hO) (λ_ _ _ ⟨_,_,_,_,_,_,_,_,_,_,_,_,_,_,_,z⟩=>z)) λr s' hq=>?_);obtain⟨rfl,h2,h3,h4⟩:=hq;exact⟨.inl ⟨.bool true,.bool true,[],rfl,λ_=>rfl,.bool true,Att.post_true l _,λ_=>⟨List.Pairwise.nil,λ_ hm=>(nomatch hm)⟩⟩,h2,h3,h4⟩
end
end Q
namespace Q
open PySem PySem.Spec PyProof.Rows L2 L3
section
variable {P:Program}{w:PySem.World}{K:PySem.W.Frag}{mg:Str->Option Value}{base h:Heap}{x:Str}{st:Stmt}{ps:List Str}{k:Nat}{sp:Sp}
noncomputable def Gf(K:PySem.W.Frag)(x:Str)(st:Stmt):Prop:=∃(f:Addr) (oc:Value) (od:Option Addr) (kV dc pm:Value) (an:Option Addr) (cd ct:Value) (sl:Array (Option Value)),PySem.W.nsIn K mainGlobals x=some (some (.ref f))/\K.lookup f=some ⟨oc,od,.func (PySem.W.fnOf x x (K5 st) (JY st) (kW st) .none kV dc pm an cd ct),sl⟩/\PySem.W.codeIn K cd x=true/\PySem.W.keepIn K (.ref f)=true
theorem Gf.mk{f:Addr}{oc:Value}{od:Option Addr}{kV dc pm:Value}{an:Option Addr}{cd ct:Value}{sl:Array (Option Value)}(a:PySem.W.nsIn K mainGlobals x=some (some (.ref f)))(l:K.lookup f=some ⟨oc,od,.func (PySem.W.fnOf x x (K5 st) (JY st) (kW st) .none kV dc pm an cd ct),sl⟩)(c:PySem.W.codeIn K cd x=true)(k:PySem.W.keepIn K (.ref f)=true):Gf K x st:=⟨f,oc,od,kV,dc,pm,an,cd,ct,sl,a,l,c,k⟩
theorem Gf.d(g:Gf K x st)(X:K.In h)(G:h.Ns mainGlobals mg)(ok:∀{f:Addr} {fd:FuncData},Fun K x x st f fd->FnOk P w K mg base (CXE P w) k f fd ps sp)
  (hb:∀(kV ef pm:Value) (an:Option Addr) (bd ct:Value) (us:List Value),us.length=ps.length->bindArgs (PySem.W.fnOf x x (K5 st) (JY st) (kW st) .none kV ef pm an bd ct) ⟨us,[]⟩=pure (ps.zip us):=by
   intro _ _ _ _ _ _ us hl
   first
   |exact vwd us hl λ_=>rfl
   |exact vwc us hl λ_ _=>rfl
   |exact vwb us hl λ_ _ _=>rfl
   |exact vwa us hl λ_ _ _ _=>rfl
   |exact vw9 us hl λ_ _ _ _ _=>rfl
   |exact len6 us hl λ_ _ _ _ _ _=>rfl):kz P w K mg base k x ps sp:=by
 obtain⟨f,oc,od,kV,dc,pm,an,cd,ct,sl,a,l,c,kp⟩:=g;exact⟨f,_,ok (kzs l c kp),(kzs l c kp).binds hb,kp,PySem.W.mg_of X G a⟩
theorem Gf.law{fa:Addr}{y:Str}(g:Gf K "law" st)(X:K.In h)(G:h.Ns mainGlobals mg)(hfa:mg "law"=some (.ref fa))(ok:∀{base:Heap} {f:Addr} {fd:FuncData},Fun K "law" "law" st f fd->FnOk P w K mg base (CXE P w) k f fd [y] sp)
  (hb:∀(kV ef pm:Value) (an:Option Addr) (bd ct:Value) (s:Shared) (v:Value),BindsTo s (PySem.W.fnOf "law" "law" (K5 st) (JY st) (kW st) .none kV ef pm an bd ct) ⟨[v],[]⟩ [(y,v)]:=by
   intros
   exact .of_eq rfl):
  ∃fd:FuncData,(∀(s:Shared) (v:Value),BindsTo s fd ⟨[v],[]⟩ [(y,v)])/\∀base:Heap,K.In base->base.Ns mainGlobals mg->FnOk P w K mg base (CXE P w) k fa fd [y] sp:=by
 obtain⟨f,oc,od,kV,dc,pm,an,cd,ct,sl,a,l,c,kp⟩:=g;have e:=hfa.symm.trans (PySem.W.mg_of X G a);cases e;exact⟨_,hb kV dc pm an cd ct,λbase _ _=>ok (kzs l c kp)⟩
end
end Q
namespace Q
open PySem L2
theorem mkS{N P:List Str}{sc:Scope}(h1:autoParam (sc.kind=.function) Ŕ)(h2:autoParam (sc.isCoroutine=false) Ŕ)(h3:autoParam (sc.isGenerator=false) Ŕ)(h4:autoParam (N.Nodup) ŗ)(h5:autoParam (N.take P.length=P) Ŕ)(h6:autoParam (∀x∈P,sc.names.lookup x=some .local\/sc.names.lookup x=some .cell) ŗ)(h7:autoParam (∀y∈sc.names,y.2≠.free) ŗ):FnScope N P sc:=⟨h1,h2,h3,h4,h5,h6,h7⟩
end Q
namespace Q
open PySem PySem.Spec PyProof.Rows L2 L3
section
variable {X:Cx}{Z:Fx0}{pn:List Nat}{q qa:Bool}{a b c:Ex}{e ea eb:Expr}{pos p:Pos}
theorem kI{z:Int}{j}:QE X Z true (cC (.int z)) (.Constant (.int z) j p):=q_C kxx λ_=>Vk
theorem ki{z:Int}{j}:QV X Z true (vE (cC (.int z))) (.Constant (.int z) j p):=j6 kI
theorem kN{j}:QE X Z true (cC .non) (.Constant .none j p):=q_C qzu λ_=>kxa
theorem kn{j}:QV X Z true (vE (cC .non)) (.Constant .none j p):=j6 kN
theorem kS{z:Str}{j}(h:autoParam (z.length<=sizeLine) ŕ):QE X Z true (cC (.str z)) (.Constant (.str z) j p):=q_C qq8 λ_=>Z7 h
theorem vv(i:Nat){x:Str}(hN:autoParam (X.N[i]?=some x) Ŕ)(hv:autoParam (Vis X.env.scope x) ř)(hd:autoParam ((x==("__debug__":Str))=false) ŕ)
  (fe:autoParam ((x==("__classdict__":Str))=false) ŕ):QV X Z true (vV i) (.Name x pos):=q_vV (pv i hN hv hd fe)
theorem cv(i:Nat){x:Str}(hN:autoParam (X.N[i]?=some x) Ŕ)(hv:autoParam (Vis X.env.scope x) ř)(hd:autoParam ((x==("__debug__":Str))=false) ŕ)
  (fe:autoParam ((x==("__classdict__":Str))=false) ŕ):QE X Z true (cV i) (.Name x pos):=q_V (pv i hN hv hd fe)
theorem kx(ha:QV X Z qa a ea)(hb:QV X Z true b eb)(hs:Vq eb:=by exact λ_ _=>rfl)(hK:autoParam (X.K=Z.K) Ŕ):QV X Z qa (j8 a b) (.Subscript ea eb pos):=q_ix ha hb hs hK
theorem qA{i:Nat}{y:Str}{bv:Pos}(hN:X.N.Nodup)(h:QE X Z q a ea)(hi:autoParam (X.N[i]?=some y) Ŕ)(hx:autoParam (Loc X.env.scope y) Ś)(hp:autoParam (i∉pn) ŕ)(hs:autoParam (swapsWith ea (some (.Name y bv)) pos.line X.env=pure false) Ŕ)(hf:autoParam (X.fn y=true\/X.env.scope.names.lookup y=some .local) Ř):
  QS X Z pn (jk i a) (.Assign [.Name y bv] ea pos):=vqi hN hi hx h hp hs hf
theorem gn{i:Nat}{x:Str}(hN:X.N.Nodup)(hi:autoParam (X.N[i]?=some x) Ŕ)(hx:autoParam (Loc X.env.scope x) Ś)(hf:autoParam (X.fn x=true\/X.env.scope.names.lookup x=some .local) Ř):PG X (.Name x pos) (WW i):=Qx hN hi hx hf
theorem gN{i:Nat}{x:Str}(hN:X.N.Nodup)(hi:autoParam (X.N[i]?=some x) Ŕ)(hx:autoParam (Loc X.env.scope x) Ś)(hf:autoParam (X.fn x=true\/X.env.scope.names.lookup x=some .local) Ř)(hp:autoParam (i∉pn) ŕ):QG X Z pn (.n i) (.Name x pos):=V3 (Qx hN hi hx hf) hp
theorem qC{k m n:Nat}{x:Str}{ps:List Str}{f:Fn}{cs:List Ex}{es:List Expr}(D:kz X.prog X.w X.K X.mg X.base k x ps (spF Z.K Z.mg n f))(hr:Room m X.A)(ha:QA X Z q cs (e::es))(g:z9 X Z.EX:=by exact xw)(fq:autoParam (k<=m) ŕ)(hn:autoParam (cs.length=n) Ŕ)(hg:autoParam (Gl X x) Ŕ)(dq:autoParam ((x==("__debug__":Str))=false) ŕ)
  (he:autoParam (starEach (e::es) X.env=(false,eval e X.env)::starEach es X.env) Ŕ) (bg:autoParam ((backTo pos (starEach es X.env)).any (·.1)=false) Ŕ):
  QE X Z q (jW f cs) (.Call (.Name x p) (e::es) [] pos):=kxl D (hr.mono fq) g ha hn hg dq he bg
theorem qF{tg ao:Expr}{ss:List Stmt}{it:Ev (List D)}{t:Tg}{B:Sm}(hi:QI X Z q tg it ao)(hg:QG X Z pn t tg)(hb:QSs X Z pn B ss)(hp:PassesOwn (model X.prog X.w) X.A X.env X.xe:=by exact vj3 ⟨_,_,rfl,rfl⟩)(hc:autoParam (X.calm=true) Ŕ)(hs:autoParam (∀x,foldedSetIterable ao X.env x=pure x) Ŗ):QS X Z pn (qk it t B) (.For tg ao ss [] pos):=vqg hp hc hi hg hb hs
theorem oA(ha:QV X Z qa a ea)(hb:QV X Z true b eb)(hK:autoParam (X.K=Z.K) Ŕ):QE X Z qa (cF2 jz a b) (.BinOp ea .Add eb pos):=v7 (vj7 hK) vkh ha hb
theorem oX(ha:QV X Z qa a ea)(hb:QV X Z true b eb)(hK:autoParam (X.K=Z.K) Ŕ):QE X Z qa (cF2 qY a b) (.BinOp ea .Mult eb pos):=v7 (vj5 hK) qx3 ha hb
theorem oM(ha:QV X Z qa a ea)(hb:QV X Z true b eb):QE X Z qa (cF2 (pu2 k7) a b) (.BinOp ea .Mod eb pos):=v7 vj4 vkd ha hb
theorem qP{i:Nat}{x:Str}{aj ab xp:Pos}(h:QE X Z q c e)(hN:autoParam (X.N[i]?=some x) Ŕ)(hv:autoParam (Vis X.env.scope x) ř)(hd:autoParam ((x==("__debug__":Str))=false) ŕ)
  (fe:autoParam ((x==("__classdict__":Str))=false) ŕ) (ax:autoParam (attributeBase (.Name x xp) "append" X.env (eval (.Name x xp) X.env)=eval (.Name x xp) X.env) Ŕ)
  (cg:autoParam (((backTo ab (starEach [e] X.env)).all (λx=>!x.1)&&(backToKw ab (keywordEach [] X.env)).all (λx=>x.1.isSome)
   && decide ([e].length+([]:List Keyword).length+(if([]:List Keyword).isEmpty then 0 else 1)<30))=true) Ŕ)
  (au:autoParam ((aj.endLine==ab.line)=true) Ŕ) (hs:autoParam (starEach [e] X.env=(false,eval e X.env)::starEach [] X.env) Ŕ) (az:autoParam ((backTo ab (starEach [] X.env)).any (·.1)=false) Ŕ) (hK:autoParam (X.K=Z.K) Ŕ)
  (gc:autoParam (swapsWith (.Call (.Attribute (.Name x xp) "append" aj) [e] [] ab) none pos.line X.env=pure false) Ŕ):
  QS X Z pn (kY kX i c) (.Expr (.Call (.Attribute (.Name x xp) "append" aj) [e] [] ab) pos):=vqj (kvk Z.K Ya PySem.F.slot_list_append PySem.F.type_list_append jwa (pv i hN hv hd fe) (vz h vX hs) ax cg au hs az hK) gc
theorem qL(ha:QV X Z q a ea)(hm:X.mg "len"=none)(hK:autoParam (X.K=Z.K) Ŕ)(hg:autoParam (Gl X "len") Ŕ)(he:autoParam (starEach [ea] X.env=(false,eval ea X.env)::starEach [] X.env) Ŕ)(bg:autoParam ((backTo pos (starEach [] X.env)).any (·.1)=false) Ŕ):QE X Z q (cF1 (pu1 q9) a) (.Call (.Name "len" p) [ea] [] pos):=vqh (hK▸qww X.K) vke ha hm vk9 hg (by decide) (by decide) he bg
theorem qT(ha:QV X Z q a ea)(hm:X.mg "tuple"=none)(hK:autoParam (X.K=Z.K) Ŕ)(hg:autoParam (Gl X "tuple") Ŕ)(he:autoParam (starEach [ea] X.env=(false,eval ea X.env)::starEach [] X.env) Ŕ)(bg:autoParam ((backTo pos (starEach [] X.env)).any (·.1)=false) Ŕ):QE X Z q (cF1 JX a) (.Call (.Name "tuple" p) [ea] [] pos):=Q0 (qj9 hK) qku ha hm jxi hg (by decide) (by decide) he bg
variable {ao dk tg:Expr}{d7:List Expr}{scope:Scope}{it:Ev (List D)}{tt:Tg}{u:Ts}
theorem qM{x:Str}{p':Pos}(o:Own)(k:Nat)(R:List Nat)(m:Nat)(N:List Str)(hi:QI X Z q (.Name x p') it ao)(he:∀cl C s0 H0 fp,QE (lcE X scope N cl C s0 H0 fp Z.EX) Z q c dk)
  (hN:autoParam (N.Nodup) ŗ) (gx:z9 X Z.EX:=by exact xw) (top:Jk X:=by exact⟨_,_,rfl,rfl⟩) (hR:autoParam (R.Nodup) ŕ) (hm:autoParam (X.N.length=m) Ŕ) (hr:autoParam (∀j∈R,j<m) ŕ) (hc:autoParam (X.calm=true) Ŕ) (hk:autoParam (scope.kind=.function) Ŕ) (io:autoParam (Q9 X.N X.env.scope scope N k R=true) Ŕ) (hs:autoParam (∀x,foldedSetIterable ao X.env x=pure x) Ŗ)
  (hg:N.Nodup->∀cl C s0 H0 fp,QG (lcE X scope N cl C s0 H0 fp Z.EX) Z ((List.range R.length).map (k + ·)) (.n 0) (.Name x p'):=by exact λh _ _ _ _ _=>V3 (Qx (i:=0) h rfl (by first|exact Or.inl rfl|exact Or.inr rfl))):
  QE X Z q (cLC o k R it (.n 0) tYes c) (.ListComp dk [⟨.Name x p',ao,[],0⟩] scope pos):=q_lc N hi (hg hN) (λ_ _ _ _ _=>qjt) he gx top hR (hm▸hr) hc hk io hs
end
end Q
namespace Q
open PySem PySem.Spec PyProof.Rows L2 L3
section
variable {X:Cx}{Z:Fx0}{pn:List Nat}{q1 q2:Bool}{kc vc:Ex}{e1 e2 o:Expr}{j:Nat}
theorem kxb{K:PySem.W.Frag}{H:Hp}{x:Sl}{k:Int}(ok:x.ok K H)(hd:x.d=.int k):x.v=.int k:=by
 have h:=qkz ok (by rw[hd];rfl);rw[hd]at h;unfold RepL at h;exact h.1
end
end Q
namespace PySem
structure ZA (z TI TO i1 i2:Addr)(f1 f2:List Addr):Prop where
 a1:TI≠z
 a2:TO≠z
 a3:TI≠TO
 a4:i1≠z
 a5:i2≠z
 a6:TI≠i1
 a7:TI≠i2
 a8:TO≠i1
 a9:TO≠i2
 b1:i1≠i2
 c1:z∉f1
 c2:TO∉f1
 c3:i2∉f1
 d1:z∉f2
 d2:TO∉f2
 d3:i1∉f2
section
variable {prog:Program}{w:World}{A:Around}{E:Value->Shared->Prop}{s:Shared}{z TI TO i1 i2:Addr}{f1 f2:List Addr}{n1 n2 k:Nat}{P1 P2:Nat->Value->Prop}{S1 S2:Nat->Heap->Prop}
theorem JJ{h h':Heap}{a:Addr}{f:List Addr}{S:Nat->Heap->Prop}{it n i P}(D:Draws prog w A it f n P S)(hs:Heap.SameBut a h h')(ha:a∉f)(st:S i h):S i h':=D.frame i h h' st λb hb o e=>hs.extBut _ _ (λx=>ha (x▸hb)) e
abbrev ZSt(z TI TO i1 i2:Addr)(S1 S2:Nat->Heap->Prop)(k:Nat)(h:Heap):Prop:=IsZip h z TI TO .none/\IsPair h TI (.ref i1) (.ref i2)/\(∃a b,IsPair h TO a b)/\S1 k h/\S2 k h
theorem qqy{Q:Option Value->Shared->Prop}(ap:ZA z TI TO i1 i2 f1 f2)(D1:Draws prog w A.in1 i1 f1 n1 P1 S1)(D2:Draws prog w A.in1 i2 f2 n2 P2 S2)(st:ZSt z TI TO i1 i2 S1 S2 k s.heap)(h1:k<n1)(h2:k<n2)
  (hQ:∀h' tk x y,P1 k x->P2 k y->IsZip h' z TI TO (rawInt s.heap.objs.size)->IsPair h' TI (.ref i1) (.ref i2)->IsPair h' TO x y->S1 (k+1) h'->S2 (k+1) h'->IsPair h' s.heap.objs.size x y ->
   (∀c o,c≠z->c≠TO->c≠i1->c≠i2->s.heap.get? c=some o->h'.get? c=some o)->Q (some (.ref s.heap.objs.size)) { s with heap:=h',toks:=tk }):wpAny (model prog w) A (pyNext (.ref z)) Q E s:=by
 obtain⟨hz,hTI,⟨a,b,hTO⟩,s1,s2⟩:=st;have hT:s.TypeIs (.ref z) "zip":=⟨_,hz,rfl⟩;unfold pyNext;refine X0 (wpAny_attempt (Yi (name:=Str.ofString "__next__") hT F.slot_zip_next (Yg F.slot_zip_next hT F.entry_zip_next ?_ (F.args_zip_next_1 _))));show wpAny _ _ (field (.ref z) 2 >>= _) _ _ _;refine X0 (Xq hz rfl (x:=.bool false) rfl ?_);show wpAny _ _ (field (.ref z) 3 >>= _) _ _ _;refine X0 (Xq hz rfl (x:=.ref TI) rfl ?_);refine X0 (Yo hTI rfl ?_);show wpAny _ _ (Builtin.SmallTypes.ownedTupleIsFree (.ref z) >>= _) _ _ _;refine X0 ?_;unfold Builtin.SmallTypes.ownedTupleIsFree;refine X0 (Xq hz rfl (x:=.none) rfl (X9 ?_));simp only[if_true];refine X0 (wpAny_rule ?_);refine X0 (Xq hz rfl (x:=.ref TO) rfl ?_);refine X0 (wpAny_setField_rec hz (by simp) λg1 z1 e1=>?_);have z1:IsZip g1 z TI TO .ellipsis:=z1;refine X0 ?_;simp only[List.zipIdx_cons,List.zipIdx_nil,List.forIn_cons,List.forIn_nil];refine X0 (X0 (wpAny_onRaise ?_));show wpAny _ _ (Builtin.SmallTypes.nextOf (.ref i1) >>= _) _ _ _;refine X0 (D1.item k { s with heap:=g1 } _ _ h1 (JJ D1 e1 ap.c1 s1) λx g2 t2 px s1' e2=>X9 ?_);have e2:Heap.SameBut i1 g1 g2:=e2;have o2:IsPair g2 TO a b:=e2.extBut _ _ ap.a8 (e1.extBut _ _ ap.a2 hTO);refine X0 (Yo o2 rfl ?_);refine X0 (wpAny_updateSeq_pair o2 λg3 o3 e3=>?_);have o3:IsPair g3 TO x b:=o3;have e3:Heap.SameBut TO g2 g3:=e3;refine X0 (wpAny_letGo (X9 ?_));refine X0 (X0 (wpAny_onRaise ?_));show wpAny _ _ (Builtin.SmallTypes.nextOf (.ref i2) >>= _) _ _ _;refine X0 (D2.item k { s with heap:=g3,toks:=t2 } _ _ h2 (JJ D2 e3 ap.d2 (JJ D2 e2 ap.d3 (JJ D2 e1 ap.d1 s2))) λy g4 t4 py s2' e4=>X9 ?_);have e4:Heap.SameBut i2 g3 g4:=e4;have o4:IsPair g4 TO x b:=e4.extBut _ _ ap.a9 o3;refine X0 (Yo o4 rfl ?_);refine X0 (wpAny_updateSeq_pair o4 λg5 o5 e5=>?_);have o5:IsPair g5 TO x y:=o5;have e5:Heap.SameBut TO g4 g5:=e5;refine X0 (wpAny_letGo (X9 (X9 ?_)));refine X0 (Yo o5 rfl ?_);refine X0 (wpAny_newTuple ?_);have hsz:g5.objs.size=s.heap.objs.size:=by rw[e5.1,e4.1,e3.1,e2.1,e1.1]
 have z5:IsZip g5 z TI TO .ellipsis:=e5.extBut _ _ ap.a2.symm (e4.extBut _ _ ap.a5.symm (e3.extBut _ _ ap.a2.symm (e2.extBut _ _ ap.a4.symm z1)));have keep:∀c o,c≠z->c≠TO->c≠i1->c≠i2->s.heap.get? c=some o->g5.get? c=some o:=λc o c1 c2 c3 c4 e=>e5.extBut _ _ c2 (e4.extBut _ _ c4 (e3.extBut _ _ c2 (e2.extBut _ _ c3 (e1.extBut _ _ c1 e))))
 have r1:S1 (k+1) g5:=JJ D1 e5 ap.c2 (JJ D1 e4 ap.c3 (JJ D1 e3 ap.c2 s1'));have r2:S2 (k+1) g5:=JJ D2 e5 ap.d2 s2';have zl:z<g5.objs.size:=Xa z5;show wpAny _ _ (Builtin.SmallTypes.ownedTupleHandOut (.ref z) (.ref g5.objs.size) >>= _) _ _ _;refine X0 ?_;unfold Builtin.SmallTypes.ownedTupleHandOut;have z6:IsZip (g5.push { cls:=.type "tuple",data:=.seq #[x,y] }) z TI TO .ellipsis:=X2 _ z5;refine X0 (wpAny_setField_rec z6 (by simp) λg7 z7 e7=>?_);have z7:IsZip g7 z TI TO (rawInt g5.objs.size):=z7;refine wpAny_setField_rec z7 (by simp) λg8 z8 e8=>?_
 have z8:IsZip g8 z TI TO (rawInt g5.objs.size):=z8;have up:∀c o,c≠z->g5.get? c=some o->g8.get? c=some o:=λc o c1 e=>e8.extBut _ _ c1 (e7.extBut _ _ c1 (X2 _ e))
 have t8:IsPair g8 g5.objs.size x y:=e8.extBut _ _ (Nat.ne_of_gt zl) (e7.extBut _ _ (Nat.ne_of_gt zl) (Xd _ rfl));rw[hsz]at z8 t8;refine X9 ⟨_,rfl,?_⟩;refine X9 ?_;show Q (some (.ref g5.objs.size)) _;rw[hsz];exact hQ g8 t4 x y px py z8 (up _ _ ap.a1 (keep _ _ ap.a1 ap.a3 ap.a6 ap.a7 hTI)) (up _ _ ap.a2 o5) (D1.frame _ _ _ r1 λb hb o e=>up b o (λq=>ap.c1 (q▸hb)) e) (D2.frame _ _ _ r2 λb hb o e=>up b o (λq=>ap.d1 (q▸hb)) e) t8 λc o c1 c2 c3 c4 e=>up c o c1 (keep c o c1 c2 c3 c4 e)
theorem qxi{Q:Option Value->Shared->Prop}(ap:ZA z TI TO i1 i2 f1 f2)(D1:Draws prog w A.in1 i1 f1 n1 P1 S1)(st:ZSt z TI TO i1 i2 S1 S2 n1 s.heap)
  (hQ:∀h',(∀c o,c≠z->c≠i1->s.heap.get? c=some o->h'.get? c=some o)->Q none { s with heap:=h' }):wpAny (model prog w) A (pyNext (.ref z)) Q E s:=by
 obtain⟨hz,hTI,⟨a,b,hTO⟩,s1,s2⟩:=st;have hT:s.TypeIs (.ref z) "zip":=⟨_,hz,rfl⟩;unfold pyNext;refine X0 (wpAny_attempt (Yi (name:=Str.ofString "__next__") hT F.slot_zip_next (Yg F.slot_zip_next hT F.entry_zip_next ?_ (F.args_zip_next_1 _))));show wpAny _ _ (field (.ref z) 2 >>= _) _ _ _;refine X0 (Xq hz rfl (x:=.bool false) rfl ?_);show wpAny _ _ (field (.ref z) 3 >>= _) _ _ _;refine X0 (Xq hz rfl (x:=.ref TI) rfl ?_);refine X0 (Yo hTI rfl ?_);show wpAny _ _ (Builtin.SmallTypes.ownedTupleIsFree (.ref z) >>= _) _ _ _;refine X0 ?_;unfold Builtin.SmallTypes.ownedTupleIsFree;refine X0 (Xq hz rfl (x:=.none) rfl (X9 ?_));simp only[if_true];refine X0 (wpAny_rule ?_);refine X0 (Xq hz rfl (x:=.ref TO) rfl ?_);refine X0 (wpAny_setField_rec hz (by simp) λg1 z1 e1=>?_);have z1:IsZip g1 z TI TO .ellipsis:=z1;refine X0 ?_;simp only[List.zipIdx_cons,List.zipIdx_nil,List.forIn_cons,List.forIn_nil];refine X0 (X0 (wpAny_onRaise ?_));show wpAny _ _ (Builtin.SmallTypes.nextOf (.ref i1) >>= _) _ _ _;refine X0 (D1.done { s with heap:=g1 } _ _ (JJ D1 e1 ap.c1 s1) λg2 ex e2 he=>?_);have e2:Heap.ExtBut i1 g1 g2:=e2;obtain⟨oe,hoe,hce⟩:=he;have z2:IsZip g2 z TI TO .ellipsis:=e2 _ _ ap.a4.symm z1;have hez:ex≠z:=λq=>by subst q;rw[z2]at hoe;cases hoe;simp at hce
 refine wpAny_setField_rec z2 (by simp) λg3 _ e3=>?_
 refine X0 (wpAny_isInstance (T:="StopIteration") (b:=true) ⟨oe,e3.extBut _ _ hez hoe,hce⟩ isSubtype_stop ?_);exact X9 (hQ _ λc o c1 c2 q=>e3.extBut _ _ c1 (e2 _ _ c2 (e1.extBut _ _ c1 q)))
end
abbrev zt1(h:Heap)(t:Addr):Heap:=h.push { cls:=.type "tuple_iterator",data:=.fields #[.ref t,.int 0 0] }
abbrev zt2(h:Heap)(t u:Addr):Heap:=(zt1 h t).push { cls:=.type "tuple_iterator",data:=.fields #[.ref u,.int 0 0] }
abbrev zt3(h:Heap)(t u:Addr):Heap:=(zt2 h t u).push { cls:=.type "tuple",data:=.seq #[.ref h.objs.size,.ref (zt1 h t).objs.size] }
abbrev zt4(h:Heap)(t u:Addr):Heap:=(zt3 h t u).push { cls:=.type "tuple",data:=.seq #[.none,.none] }
abbrev zt5(h:Heap)(t u:Addr):Heap:=(zt4 h t u).push { cls:=.type "zip",data:=.fields #[.none,.bool false,.bool false,.ref (zt2 h t u).objs.size,.ref (zt3 h t u).objs.size] }
theorem qxh(t u:Addr)(xs ys:Array Value):Meets (Builtin.«zip.__new__» ⟨[.type "zip",.ref t,.ref u],[]⟩) (λ_ R s=>s.heap.IsTuple t xs/\s.heap.IsTuple u ys/\R (.ok (.ret (.ref (zt4 s.heap t u).objs.size))) { s with heap:=zt5 s.heap t u }):=
 .of_wp λprog w A R s h=>by
  obtain⟨hp,g,d,tk,os⟩:=s;obtain⟨jb,ky,h⟩:=h;have im:=sub_zip;have hL1:Heap.IsTuple (Shared.heap ⟨hp,g,d,tk,os⟩) t xs:=jb;have hL2:Heap.IsTuple (Shared.heap ⟨hp.push { cls:=.type "tuple_iterator",data:=.fields #[.ref t,.int 0 0] },g,d,tk,os⟩) u ys:=by obtain⟨o,ho,r⟩:=ky;exact⟨o,X2 _ ho,r⟩
  wp_walk using wpAny_pyIter_tuple hL1,wpAny_pyIter_tuple hL2
  exact⟨_,rfl,h⟩
section
variable {prog:Program}{w:World}{A:Around}{E:Value->Shared->Prop}{s:Shared}
theorem qqw{t u:Addr}{xs ys:Array Value}{Q:Value->Shared->Prop}(h1:s.heap.IsTuple t xs)(h2:s.heap.IsTuple u ys)
  (h:∀h',IsZip h' (s.heap.objs.size+4) (s.heap.objs.size+2) (s.heap.objs.size+3) .none->IsPair h' (s.heap.objs.size+2) (.ref s.heap.objs.size) (.ref (s.heap.objs.size+1))->IsPair h' (s.heap.objs.size+3) .none .none ->
   h'.IsTupleIter s.heap.objs.size t 0->h'.IsTupleIter (s.heap.objs.size+1) u 0->(∀c o,s.heap.get? c=some o->h'.get? c=some o)->Q (.ref (s.heap.objs.size+4)) { s with heap:=h' }):wpAny (model prog w) A (call (.type "zip") [.ref t,.ref u]) Q E s:=by
 refine callType_new F.called_zip (by decide) (F.typeCall_zip_2 _ _) (F.newCall_zip_2 _ _) (λobj=>F.args_object_init_3 obj _ _) F.entry_zip_new (qxh t u xs ys) ⟨h1,h2,?_⟩;have q1:(zt1 s.heap t).objs.size=s.heap.objs.size+1:=Heap.size_push ..;have q2:(zt2 s.heap t u).objs.size=s.heap.objs.size+2:=by rw[Heap.size_push,q1]
 have q3:(zt3 s.heap t u).objs.size=s.heap.objs.size+3:=by rw[Heap.size_push,q2]
 have q4:(zt4 s.heap t u).objs.size=s.heap.objs.size+4:=by rw[Heap.size_push,q3]
 have p5:(zt5 s.heap t u).get? (zt4 s.heap t u).objs.size=some _:=Xd _ rfl;have p4:(zt5 s.heap t u).get? (zt3 s.heap t u).objs.size=some _:=X2 _ (Xd _ rfl);have p3:(zt5 s.heap t u).get? (zt2 s.heap t u).objs.size=some _:=X2 _ (X2 _ (Xd _ rfl));have p2:(zt5 s.heap t u).get? (zt1 s.heap t).objs.size=some _:=X2 _ (X2 _ (X2 _ (Xd _ rfl)));have p1:(zt5 s.heap t u).get? s.heap.objs.size=some _:=X2 _ (X2 _ (X2 _ (X2 _ (Xd _ rfl))));show _/\_;rw[q2,q3,q4]at p5;rw[q1,q2]at p3;rw[q3]at p4;rw[q1]at p2;rw[q4];exact⟨⟨_,p5,rfl⟩,h _ p5 p3 p4 ⟨_,p1,rfl,rfl⟩ ⟨_,p2,rfl,rfl⟩ λc o x=>X2 _ (X2 _ (X2 _ (X2 _ (X2 _ x))))⟩
end
end PySem
namespace Q
open PySem PySem.Spec PyProof.Rows L2 L3
noncomputable def ItZ(K:PySem.W.Frag)(l1 l2:Addr):It:=⟨λi H=>∃xs ys x y,SqT K H l1 xs/\SqT K H l2 ys/\xs[i]?=some x/\ys[i]?=some y,
 λi H v H'=>∃T x y,H T=none/\v=.ref T/\H'=upd H T (.tup [x,y])/\(∀xs,SqT K H l1 xs->xs[i]?=some x)/\∀ys,SqT K H l2 ys->ys[i]?=some y,
 λi H=>∃xs ys,SqT K H l1 xs/\SqT K H l2 ys/\xs.length=i⟩
abbrev ztS(z TI TO i1 i2 l1 l2:Addr)(i:Nat)(h:Heap):Prop:=IsZip h z TI TO .none/\IsPair h TI (.ref i1) (.ref i2)/\(∃a b,IsPair h TO a b)/\h.IsTupleIter i1 l1 i/\h.IsTupleIter i2 l2 i
theorem vkz{n l1 l2:Addr}(h1:l1<n)(h2:l2<n):ZA (n+4) (n+2) (n+3) n (n+1) [n,l1] [n+1,l2]:=by
 constructor<;>simp only[Xk,Xh,or_false,not_or,ne_eq]<;>first|omega|(unfold Addr at *;omega)
theorem qv1{P:Program}{w:PySem.World}{K:PySem.W.Frag}{ci:List Expr}{k1:Nat}{pos:Pos}{z TI TO i1 i2 l1 l2:Addr}(ap:ZA z TI TO i1 i2 [i1,l1] [i2,l2])(n1:l1≠i1)(n2:l2≠i2):
  Turn P w K (.Tuple ci k1 pos) (ItZ K l1 l2) [z,TI,TO,i1,i2] z (ztS z TI TO i1 i2 l1 l2) where
 mem:=by simp
 obj:=λi h st b hb=>by
  obtain⟨h1,h2,⟨a,c,h3⟩,⟨o4,e4,c4,d4⟩,o5,e5,c5,d5⟩:=st;simp only[Xk,Xh,or_false]at hb;rcases hb with rfl|rfl|rfl|rfl|rfl
  ·exact⟨_,h1,λv z=>by cases z⟩
  ·exact⟨_,h2,λv z=>by cases z⟩
  ·exact⟨_,h3,λv z=>by cases z⟩
  ·exact⟨_,e4,λv z=>by rw[d4]at z;cases z⟩
  ·exact⟨_,e5,λv z=>by rw[d5]at z;cases z⟩
 keep:=λi h h' st k=>by
  obtain⟨h1,h2,⟨a,c,h3⟩,⟨o4,e4,c4,d4⟩,o5,e5,c5,d5⟩:=st;exact⟨k _ (by simp) _ h1,k _ (by simp) _ h2,⟨a,c,k _ (by simp) _ h3⟩,⟨o4,k _ (by simp) _ e4,c4,d4⟩,o5,k _ (by simp) _ e5,c5,d5⟩
 item:=by
  intro X hP hw hK hc i pins s σ H E I hf st hg;subst hP hw hK;obtain⟨xs,ys,x,y,q1,q2,hx,hy⟩:=hg;obtain⟨dm,iu,p1,mh⟩:=I.tuple q1;obtain⟨u1,hu1,ru1⟩:=iu.get hx;obtain⟨br,jn,p2,iq⟩:=I.tuple q2;obtain⟨u2,hu2,ru2⟩:=jn.get hy;obtain⟨t1,t2,⟨a,b,t3⟩,t4,t5⟩:=st;have hh:X.A.in1.handled=none:=by have:=I.ok.hd hc;simpa using this
  refine qqy ap (jz5 hh i1 l1 n1 dm.toArray) (jz5 hh i2 l2 n2 br.toArray) ⟨t1,t2,⟨a,b,t3⟩,⟨t4,p1⟩,t5,p2⟩ (by rw[X4];exact(List.getElem?_eq_some_iff.mp hu1).1) (by rw[X4];exact(List.getElem?_eq_some_iff.mp hu2).1) λh1 tk v1 v2 w1 w2 g1 gI g3 g4 g5 gT gk=>?_
  have e1:v1=u1:=by
   have w1:dm[i]?=some v1:=by simpa using w1
   rw[hu1]at w1;exact(oq9 w1).symm
  have e2:v2=u2:=by
   have w2:br[i]?=some v2:=by simpa using w2
   rw[hu2]at w2;exact(oq9 w2).symm
  subst e1 e2;refine⟨_,rfl,wpAny_letOwnedTupleGo_zip (s:={ s with heap:=h1,toks:=tk }) g1 λh2 f1 sb=>?_⟩;have fT:qZ X pins H s.heap.objs.size:=I.fpOk (X8 _) (I.hok.fresh (X8 _));have nT:∀b∈[z,TI,TO,i1,i2],b≠s.heap.objs.size:=λb hb e=>by
   obtain⟨o,eo⟩:∃o,s.heap.get? b=some o:=by
    simp only[Xk,Xh,or_false]at hb;obtain⟨o4,e4,_⟩:=t4;obtain⟨o5,e5,_⟩:=t5;rcases hb with rfl|rfl|rfl|rfl|rfl
    ·exact⟨_,t1⟩
    ·exact⟨_,t2⟩
    ·exact⟨_,t3⟩
    ·exact⟨_,e4⟩
    ·exact⟨_,e5⟩
   exact absurd (Xa eo) (by rw[e];exact Y8 _)
  have kk:∀b o,b∉[z,TO,i1,i2]->s.heap.get? b=some o->h2.get? b=some o:=λb o hb e=>by
   simp only[Xk,Xh,or_false,not_or]at hb;exact(sb.2 b hb.1).trans (gk b o hb.1 hb.2.1 hb.2.2.1 hb.2.2.2 e)
  have I1:L2.Inv X pins σ H { s with heap:=h2,toks:=tk }:=jqw [z,TO,i1,i2] I kk λb hb=>hf b (by
   simp only[Xk,Xh,or_false]at hb ⊢;rcases hb with h|h|h|h<;>simp[h])
  have nz:s.heap.objs.size≠z:=λe=>nT z (by simp) e.symm
  have I2:=jz1 (a:=s.heap.objs.size) (o:=.tup [x,y]) I1 fT.1 fT.2.1 fT.2.2.2.1 fT.2.2.2.2.1 fT.2.2.2.2.2
   (show ObjOk X.prog X.w _ h2 _ (.tup [x,y])from⟨by show(2:Nat)<=sizeLine;decide,[v1,v2],.cons ru1 (.cons ru2 .nil),⟨_,(sb.2 _ nz).trans gT,rfl,rfl,0,rfl⟩⟩)
  refine⟨.ref s.heap.objs.size,_,I2,rfl,⟨_,x,y,fT.1,rfl,rfl,λzs ig=>by rw[I.tuple_inj ig q1];exact hx,λzs ig=>by rw[I.tuple_inj ig q2];exact hy⟩,?_,λb hb=>by rw[kZ (nT b hb)];exact(hf b hb).1⟩;obtain⟨⟨o4,e4,c4,d4⟩,_⟩:=g4;obtain⟨⟨o5,e5,c5,d5⟩,_⟩:=g5;exact⟨f1,(sb.2 _ ap.a1).trans gI,⟨v1,v2,(sb.2 _ ap.a2).trans g3⟩,⟨o4,(sb.2 _ ap.a4).trans e4,c4,d4⟩,o5,(sb.2 _ ap.a5).trans e5,c5,d5⟩
 done:=by
  intro X hP hw hK hc i pins s σ H E I hf st hg;subst hP hw hK;obtain⟨xs,ys,q1,q2,hx⟩:=hg;obtain⟨dm,iu,p1,mh⟩:=I.tuple q1;obtain⟨br,jn,p2,iq⟩:=I.tuple q2;obtain⟨t1,t2,⟨a,b,t3⟩,t4,t5⟩:=st;have jb:=iu.length;have hh:X.A.in1.handled=none:=by have:=I.ok.hd hc;simpa using this
  have hsz:dm.toArray.size=i:=by rw[X4,<-jb];exact hx
  refine qxi (S2:=λk h=>h.IsTupleIter i2 l2 k/\h.IsTuple l2 br.toArray) ap (jz5 hh i1 l1 n1 dm.toArray) (by rw[hsz];exact⟨t1,t2,⟨a,b,t3⟩,⟨t4,p1⟩,t5,p2⟩) λh' kk=>⟨rfl,?_⟩
  refine jqw (t':=s.toks) [z,TO,i1,i2] I (λb o hb e=>?_) λb hb=>hf b (by
   simp only[Xk,Xh,or_false]at hb ⊢;rcases hb with h|h|h|h<;>simp[h])
  simp only[Xk,Xh,or_false,not_or]at hb;exact kk b o hb.1 hb.2.2.1 e
 self:=λ_ _ _ _ _ st h=>wpAny_pyIter_zip st.1 h
abbrev vv1(K:PySem.W.Frag)(ta:TA):TI:=fun σ H R=>ta σ H λvs H1=>∃l1 l2,vs=[.ref l1,.ref l2]/\(((∃xs,SqL K H1 l1 xs)/\(∃ys,SqL K H1 l2 ys)/\R (Itz K l1 l2) H1)\/((∃xs,SqT K H1 l1 xs)/\(∃ys,SqT K H1 l2 ys)/\R (ItZ K l1 l2) H1))
section
variable {X:Cx}{p pos fu:Pos}{ci:List Expr}{k1:Nat}
theorem qvx(K:PySem.W.Frag){a b:Expr}{ta:TA}(hg:Gl X "zip")(hm:X.mg "zip"=none)(ha:PA X [a,b] ta)(hK:autoParam (X.K=K) Ŕ)
  (hs:autoParam (starEach [a,b] X.env=[(false,eval a X.env),(false,eval b X.env)]) Ŕ) (ll:autoParam (starEach [b] X.env=[(false,eval b X.env)]) Ŕ):
  PI X (.Tuple ci k1 fu) (.Call (.Name "zip" p) [a,b] [] pos) (vv1 K ta):=by
 subst hK;intro pins s σ H R I h;refine Call_ (QY I hg hm vk6 (Yb (thn (ha pos pins s σ H _ I h) λus s1 ⟨vs,H1,I1,r1,q1⟩=>?_) (by rw[hs,ll]) (by rw[ll];rfl)));obtain⟨l1,l2,rfl,q⟩:=q1;obtain⟨u1,u2,rfl,e1,e2⟩:=XY r1;cases e1;cases e2;have fin:∀b∈[s1.heap.objs.size+4,s1.heap.objs.size+2,s1.heap.objs.size+3,s1.heap.objs.size,s1.heap.objs.size+1],qZ X pins H1 b:=λb hb=>by
  have fq:s1.heap.objs.size<=b:=by
   simp only[Xk,Xh,or_false]at hb;rcases hb with rfl|rfl|rfl|rfl|rfl<;>omega
  exact I1.fpOk fq (I1.hok.fresh fq)
 rcases q with⟨⟨xs,q1⟩,⟨ys,q2⟩,q⟩|⟨⟨xs,q1⟩,⟨ys,q2⟩,q⟩
 ·obtain⟨dm,iu,p1,mh⟩:=I1.list q1;obtain⟨br,jn,p2,iq⟩:=I1.list q2;have lt:∀{l:Addr} {ar:Array Value},s1.heap.IsList l ar->l<s1.heap.objs.size:=λh=>by obtain⟨_,e,_⟩:=h;exact Xa e
  exact call_zip_2 p1.isList p2.isList λh' g1 g2 g3 g4 g5 gs gk=>wpAny_pyIter_zip g1 ⟨_,_,_,_,H1,rfl,I1.kept (t':=s1.toks) gk,qjn (zipApart_new (lt p1.isList) (lt p2.isList)),⟨g1,g2,⟨_,_,g3⟩,g4,g5⟩,fin,q⟩
 ·obtain⟨dm,iu,p1,mh⟩:=I1.tuple q1;obtain⟨br,jn,p2,iq⟩:=I1.tuple q2;have lt:∀{l:Addr} {ar:Array Value},s1.heap.IsTuple l ar->l<s1.heap.objs.size:=λh=>by obtain⟨_,e,_⟩:=h;exact Xa e
  have t1:=lt p1;have t2:=lt p2;exact qqw p1 p2 λh' g1 g2 g3 g4 g5 gk=>wpAny_pyIter_zip g1 ⟨_,_,_,_,H1,rfl,I1.kept (t':=s1.toks) gk,qv1 (vkz t1 t2) (Xp t1) (Xp (Nat.lt_succ_of_lt t2)),⟨g1,g2,⟨_,_,g3⟩,g4,g5⟩,fin,q⟩
end
section
variable {X:Cx}{Z:Fx0}{K:PySem.W.Frag}{pn:List Nat}{q qa qb:Bool}{a b c:Ex}{u:Ts}{tg e ea eb:Expr}{st:Stmt}{σ:L2.St}{H:Hp}{L:Ls}{E:En}{pos p p2 fu:Pos}{x:Str}{ci:List Expr}{k1:Nat}
theorem qjv{b:Ex}(ha:QE X Z q a ea)(hb:QE X Z q b eb)(hg:Gl X "zip")(hm:X.mg "zip"=none)(hK:autoParam (X.K=Z.K) Ŕ)
  (hs:autoParam (starEach [ea,eb] X.env=[(false,eval ea X.env),(false,eval eb X.env)]) Ŕ) (ll:autoParam (starEach [eb] X.env=[(false,eval eb X.env)]) Ŕ)
  (fc:autoParam (starEach [ea,eb] X.env=(false,eval ea X.env)::starEach [eb] X.env) Ŕ):QI X Z q (.Tuple ci k1 fu) (XZ a b) (.Call (.Name "zip" p) [ea,eb] [] pos):=λpins s σ H R I ak=>ex8 ak λE L r m w hc xc k=>by
 refine(qvx Z.K hg hm (vz ha (vz hb vX ll) fc) hK hs ll) pins s σ H R I ?_;refine Zk m w (show bnd (a E) _=some r from hc) xc λE1 s h1 x L1 H1 e1 e2 m1 w1 st sm=>?_
 have s1:Step H L H1 L1:=st.trans Step.drop;refine Zk (q:=q) m1 w1.tail h1 (xc.step s1) λE2 s2 h2 y L2 H2 e3 e4 m2 w2 bi d8=>?_
 have hh:=YX (T:=[some x]) w1 bi w2;have w3:World Z.K H2 (some x::some y::L2):=hh.1;have cz:Step H1 (some x::L1) H2 (some x::some y::L2):=hh.2;obtain⟨ds,hd,rfl⟩:=zJ h2;have iz:=w3.head;have oky:=w3.tail.head;have wT:World Z.K H2 (L2++[x.let,y.let].map some):=by
  have wy:World Z.K H2 (some y.let::L2):=w3.tail.tail.consNo (Kj oky) rfl λb hb=>w3.tail.apart b hb
  have wx:World Z.K H2 (some x.let::some y.let::L2):=wy.consNo (Kj iz) rfl λb hb ho=>w3.apart b hb (by
   rw [jw]at ho ⊢;exact lr9 _ ((List.mem_append.mp ho).elim (λz=>by rw[(Q2 y).1]at z;exact nomatch z) id))
  exact World.comm (L:=[some x.let,some y.let]) wx
 have dl:Step H L H2 (some x::some y::L2):=st.trans cz;have sT:Step H L H2 (L2++[x.let,y.let].map some):=by
  refine⟨dl.keep,λb hb=>?_,λb hb=>?_⟩
  ·have:b∈j7 L2:=by simpa [Q2]using hb
   exact dl.own b (by rw[jw,jw];exact lr9 _ (lr9 _ this))
  ·have:b∈jJ L2\/b∈x.as\/b∈y.as:=by simpa [Q2]using hb
   rcases this with z|z|z
   ·exact dl.frz b (by rw[kq,kq];exact lr9 _ (lr9 _ z))
   ·exact kjb dl b z
   ·rcases Sl.as_of z with z|z
    ·exact .inr (dl.own b (by rw[jw,jw];exact lr9 _ (ll9 _ z)))
    ·exact dl.frz b (by rw[kq,kq];exact lr9 _ (ll9 _ z))
 cases hx:x.d with
 | lst es=>
  cases hy:y.d with
  | lst fs=>
   rw [<-e2,<-e4,hx,hy]at hd;have hd:(if es.length<=big then some (vq es fs)else none)=some ds:=hd
   split at hd
   rotate_left
   ·cases hd
   rename_i ag;have ag:es.length<=sizeLine:=ag;cases oq9 hd;obtain⟨l1,xs,bs,ev,q3,r3,h3,_⟩:=items iz (.inl hx);have q3:LsR Z.K H2 l1 xs:=by rcases q3 with⟨_,z⟩|⟨z,_⟩;exact z;rw[hx]at z;cases z
   obtain⟨l2,ys,cs,ij,q4,r4,h4,_⟩:=items oky (.inl hy);have q4:LsR Z.K H2 l2 ys:=by rcases q4 with⟨_,z⟩|⟨z,_⟩;exact z;rw[hy]at z;cases z
   have jo:=kku (K:=Z.K) (H1:=H1) hx ev;have ko:=kku (K:=Z.K) (H1:=H1) hy ij;refine⟨l1,l2,by rw[ev,ij],.inl ⟨⟨xs,q3.sq⟩,⟨ys,q4.sq⟩,k _ _ rfl (Itz Z.K l1 l2) [x.let,y.let] L2 H2 m2 wT sT (by rw[Q8];omega) (λhq=>kJ (sm hq).1 (d8 hq).1) ⟨λt ht=>?_,λi H3 hok hi=>?_,λH3 hok=>?_,λi H3 v H4 d hok hyl dj=>?_⟩⟩⟩
   ·simp only[Xk,Xh,or_false]at ht;rcases ht with rfl|rfl<;>rfl
   ·obtain⟨us,nk,a1,a2,_⟩:=jo H3 (hok _ (by simp));obtain⟨vs,ld,b1,b2,_⟩:=ko H3 (hok _ (by simp));have hl:=a2.len;have ky:=b2.len;rw[Q8]at hi;exact⟨us,vs,us[i]'(by omega),vs[i]'(by omega),a1,b1,X1 (by omega),X1 (by omega)⟩
   ·obtain⟨us,nk,a1,a2,_⟩:=jo H3 (hok _ (by simp));obtain⟨vs,ld,b1,b2,_⟩:=ko H3 (hok _ (by simp));have hl:=a2.len;have ky:=b2.len;exact⟨us,vs,a1,b1,by rw[Q8];omega⟩
   ·obtain⟨us,nk,a1,a2,a3⟩:=jo H3 (hok _ (by simp));obtain⟨vs,ld,b1,b2,b3⟩:=ko H3 (hok _ (by simp));obtain⟨T,x',y',hT,rfl,rfl,g1,g2⟩:=hyl;rw[kj6]at dj;cases he1:es[i]? with
    | none=>rw[he1]at dj;cases dj
    | some d1=>
     cases gr:fs[i]? with
     |none=>rw[he1,gr]at dj;cases dj
     |some d2=>
      rw[he1,gr]at dj;cases oq9 dj;obtain⟨v1,bs1,f1,f2,f3⟩:=a2.get he1;obtain⟨v2,bs2,j1,j2,j3⟩:=b2.get gr;have e5:v1=x':=by have:=g1 us a1;rw[f1]at this;exact oq9 this
      have e6:v2=y':=by have:=g2 vs b1;rw[j1]at this;exact oq9 this
      subst e5 e6;refine⟨⟨.no,_,.ref T,bs1++bs2⟩,rfl,rfl,rfl,wJ hT,kvg hT f2 j2,λb hb=>?_⟩;rcases List.mem_append.mp hb with z|z
      ·exact⟨x.let,by simp,a3 b (f3 b z)⟩
      ·exact⟨y.let,by simp,b3 b (j3 b z)⟩
  | _=>rw[<-e2,<-e4,hx,hy]at hd;cases hd
 | tup es=>
  cases hy:y.d with
  | tup fs=>
   rw [<-e2,<-e4,hx,hy]at hd;have hd:(if es.length<=big/\es.length=fs.length then some (vq es fs)else none)=some ds:=hd
   split at hd
   rotate_left
   ·cases hd
   rename_i ag;obtain⟨ag,fq⟩:=ag;have ag:es.length<=sizeLine:=ag;cases oq9 hd;obtain⟨l1,xs,bs,ev,q3,r3,h3,_⟩:=items iz (.inr hx);have q3:SqT Z.K H2 l1 xs:=by rcases q3 with⟨z,_⟩|⟨_,z⟩;rw[hx]at z;cases z;exact z
   obtain⟨l2,ys,cs,ij,q4,r4,h4,_⟩:=items oky (.inr hy);have q4:SqT Z.K H2 l2 ys:=by rcases q4 with⟨z,_⟩|⟨_,z⟩;rw[hy]at z;cases z;exact z
   have jo:=kkb (K:=Z.K) (H1:=H1) hx ev;have ko:=kkb (K:=Z.K) (H1:=H1) hy ij;refine⟨l1,l2,by rw[ev,ij],.inr ⟨⟨xs,q3⟩,⟨ys,q4⟩,k _ _ rfl (ItZ Z.K l1 l2) [x.let,y.let] L2 H2 m2 wT sT (by rw[Q8];omega) (λhq=>kJ (sm hq).1 (d8 hq).1) ⟨λt ht=>?_,λi H3 hok hi=>?_,λH3 hok=>?_,λi H3 v H4 d hok hyl dj=>?_⟩⟩⟩
   ·simp only[Xk,Xh,or_false]at ht;rcases ht with rfl|rfl<;>rfl
   ·obtain⟨us,nk,a1,a2,_⟩:=jo H3 (hok _ (by simp));obtain⟨vs,ld,b1,b2,_⟩:=ko H3 (hok _ (by simp));have hl:=a2.len;have ky:=b2.len;rw[Q8]at hi;exact⟨us,vs,us[i]'(by omega),vs[i]'(by omega),a1,b1,X1 (by omega),X1 (by omega)⟩
   ·obtain⟨us,nk,a1,a2,_⟩:=jo H3 (hok _ (by simp));obtain⟨vs,ld,b1,b2,_⟩:=ko H3 (hok _ (by simp));have hl:=a2.len;have ky:=b2.len;exact⟨us,vs,a1,b1,by rw[Q8];omega⟩
   ·obtain⟨us,nk,a1,a2,a3⟩:=jo H3 (hok _ (by simp));obtain⟨vs,ld,b1,b2,b3⟩:=ko H3 (hok _ (by simp));obtain⟨T,x',y',hT,rfl,rfl,g1,g2⟩:=hyl;rw[kj6]at dj;cases he1:es[i]? with
    | none=>rw[he1]at dj;cases dj
    | some d1=>
     cases gr:fs[i]? with
     |none=>rw[he1,gr]at dj;cases dj
     |some d2=>
      rw[he1,gr]at dj;cases oq9 dj;obtain⟨v1,bs1,f1,f2,f3⟩:=a2.get he1;obtain⟨v2,bs2,j1,j2,j3⟩:=b2.get gr;have e5:v1=x':=by have:=g1 us a1;rw[f1]at this;exact oq9 this
      have e6:v2=y':=by have:=g2 vs b1;rw[j1]at this;exact oq9 this
      subst e5 e6;refine⟨⟨.no,_,.ref T,bs1++bs2⟩,rfl,rfl,rfl,wJ hT,kvg hT f2 j2,λb hb=>?_⟩;rcases List.mem_append.mp hb with z|z
      ·exact⟨x.let,by simp,a3 b (f3 b z)⟩
      ·exact⟨y.let,by simp,b3 b (j3 b z)⟩
  |_=>rw[<-e2,<-e4,hx,hy]at hd;cases hd
 |_=>rw[<-e2,hx]at hd;cases hd
end
end Q
namespace L3
open PySem PySem.Spec PyProof.Rows L2
section
variable {X:Cx}
theorem kkk(bs:List Bool):((List.range bs.length).any λi=>(bs[i]?).getD false)=bs.any id:=by
 rw[Bool.eq_iff_iff,List.any_eq_true,List.any_eq_true];constructor
 ·rintro ⟨i,hi,h⟩;have kf:=List.mem_range.mp hi;rw[X1 kf]at h;exact⟨_,Y5 kf,h⟩
 ·rintro ⟨b,hb,h⟩;obtain⟨i,hi,e⟩:=List.getElem_of_mem hb;exact⟨i,List.mem_range.mpr hi,by rw[X1 hi,e];exact h⟩
noncomputable def vw4(K:PySem.W.Frag):List V->Hp->VK->Prop:=λxs H Q=>∃(p:Addr) (bs:List Bool),xs=[.ref p]/\SqL K H p (bs.map V.bl)/\Q (.bl (bs.any id)) H
theorem qjb(K:PySem.W.Frag)(hK:autoParam (X.K=K) Ŕ)(hc:autoParam (X.calm=true) Ŕ):CallR X (.builtin "any") (vw4 K):=by
 subst hK;intro pins s σ H xs us Q I r h;obtain⟨p,bs,rfl,hq,q⟩:=h;obtain⟨u,rfl,ru⟩:=K1 r;cases ru;obtain⟨aa,rv,pl,hz⟩:=I.list hq;have hl:=pl.isList;have df:p<s.heap.objs.size:=by obtain⟨_,e,_⟩:=hl;exact Xa e
 have ag:bs.length=aa.length:=by rw[<-rv.length,X3]
 refine call_any_walk (wpAny_pyIter_list hl ?_);refine⟨s.heap.objs.size,[s.heap.objs.size,p],[s.heap.objs.size],aa.toArray.size,_,_,λi=>(bs[i]?).getD false,rfl,Walks.list (A:=X.A.in1) (I.ok.hd hc) _ p (Xp df) aa.toArray,
  ⟨⟨_,Xd _ rfl,rfl,rfl⟩,hl.push _⟩,λi v s' Q' E' hP hQ=>?_,λh' tk hk=>?_⟩
 ·obtain⟨b,e,rfl⟩:=qqq rv (by simpa using hP);simp only[e,Option.getD_some]at hQ;exact wpAny_truthy_bool hQ
 ·have e:((List.range aa.toArray.size).any λi=>(bs[i]?).getD false)=bs.any id:=by
   rw[X4,<-ag];exact kkk bs
  rw[e];refine⟨.bl _,H,I.kept (t':=tk) (h':=h') λb o e=>hk b o (λz=>?_) (X2 _ e),rfl,q⟩;exact absurd (Xa e) (by rw[List.mem_singleton.mp z];exact Y8 _)
end
end L3
namespace Q
open PySem PySem.Spec PyProof.Rows L2 L3
theorem qqv{K:PySem.W.Frag}:Ad1 K (λv H Q=>vw4 K [v] H Q) (pu1 Z5):=by
 intro H x s Q ok hf k;unfold pu1 Z5 at hf;dsimp only at hf
 split at hf
 ·rename_i ds e;cases hb:bls ds with
  |none=>rw[hb]at hf;cases hf
  |some bs=>
   rw[hb]at hf;cases oq9 hf;obtain⟨l,xs,cs,ev,q3,r3,_⟩:=items ok (.inl e);have q3:LsR K H l xs:=by rcases q3 with⟨_,z⟩|⟨z,_⟩;exact z;rw[e]at z;cases z
   exact⟨l,bs,by rw[ev],by rw[<-qjd hb r3];exact JZ q3,k ⟨.dp,.bl _,.bl _,[]⟩ H rfl rfl ww⟩
 ·cases hf
end Q
namespace Q
open PySem PySem.Spec PyProof.Rows L2 L3
noncomputable def PVZ(K:PySem.W.Frag)(H:Hp):List Int->V->V->Prop
 |[],v,u=>u=v
 |z::r,v,u=>∃a xs x,v=.ref a/\(H a=some (.lst xs)\/SqT K H a xs)/\atI xs z=some x/\PVZ K H r x u
section
variable {K:PySem.W.Frag}{H:Hp}
theorem PVZ.snoc:∀{p:List Int} {z:Int} {v u:V},PVZ K H (p++[z]) v u->∃w,PVZ K H p v w/\PVZ K H [z] w u
 |[],z,v,u,h=>⟨v,rfl,h⟩
 |m::p,z,v,u,⟨a,xs,x,e,q,ex,h⟩=>by
  obtain⟨w,h1,h2⟩:=PVZ.snoc (p:=p) h;exact⟨w,⟨a,xs,x,e,q,ex,h1⟩,h2⟩
theorem qqi{xs:List V}{n:Nat}{z:Int}{x:V}(h:Q.ixN xs.length z=some n)(hx:xs[n]?=some x):atI xs z=some x:=by
 unfold atI;have e:L2.ixN xs.length z=some n:=by
  unfold Q.ixN at h;unfold L2.ixN;exact h
 rw[e];exact hx
theorem kxo:∀{zs:List Int} {p:List Nat} {d:D} {v u:V},xz zs d=some p->PV K H p d v u->PVZ K H zs v u
 |[],p,d,v,u,h,hp=>by
  cases oq9 (show some []=some p from by rw[<-h];cases d<;>rfl);exact hp
 |z::r,p,.tup ds,v,u,h,hp=>by
  unfold xz at h
  split at h
  rotate_left
  ·cases h
  rename_i n hn
  split at h
  rotate_left
  ·cases h
  rename_i d hd;obtain⟨p',hp',rfl⟩:=Option.map_eq_some_iff.mp h;obtain⟨a,xs,x,d2,e,q,ex,⟨ed,el⟩,hr⟩:=hp;rw[hd]at ed;cases oq9 ed;exact⟨a,xs,x,e,.inr q,qqi (by rw[el];exact hn) ex,kxo hp' hr⟩
 |z::r,p,.lst ds,v,u,h,hp=>by
  unfold xz at h
  split at h
  rotate_left
  ·cases h
  rename_i n hn
  split at h
  rotate_left
  ·cases h
  rename_i d hd;obtain⟨p',hp',rfl⟩:=Option.map_eq_some_iff.mp h;obtain⟨a,xs,x,d2,e,q,ex,⟨ed,el⟩,hr⟩:=hp;rw[hd]at ed;cases oq9 ed;exact⟨a,xs,x,e,.inl q,qqi (by rw[el];exact hn) ex,kxo hp' hr⟩
 |z::r,p,.non,v,u,h,hp=>by cases h
 |z::r,p,.bl _,v,u,h,hp=>by cases h
 |z::r,p,.int _,v,u,h,hp=>by cases h
 |z::r,p,.str _,v,u,h,hp=>by cases h
 |z::r,p,.dct _,v,u,h,hp=>by cases h
 |z::r,p,.obj _ _,v,u,h,hp=>by cases h
end
noncomputable def Zs(σ:L2.St):List (Int ⊕ Nat)->List Int->Prop
 |[],zs=>zs=[]
 |.inl z::r,zs=>∃r',zs=z::r'/\Zs σ r r'
 |.inr m::r,zs=>∃z r',zs=z::r'/\σ[m]?=some (some (.int z))/\Zs σ r r'
theorem Zs.snocL{σ:L2.St}{z:Int}:∀{ps:List (Int ⊕ Nat)} {zs:List Int},Zs σ (ps++[.inl z]) zs->∃r,zs=r++[z]/\Zs σ ps r
 |[],zs,⟨r',e,h⟩=>⟨[],by rw[e,show r'=[]from h];rfl,rfl⟩
 |.inl y::ps,zs,⟨r',e,h⟩=>by
  obtain⟨r,e2,h2⟩:=Zs.snocL (ps:=ps) h;exact⟨y::r,by rw[e,e2];rfl,r,rfl,h2⟩
 |.inr m::ps,zs,⟨y,r',e,hm,h⟩=>by
  obtain⟨r,e2,h2⟩:=Zs.snocL (ps:=ps) h;exact⟨y::r,by rw[e,e2];rfl,y,r,rfl,hm,h2⟩
theorem Zs.snocR{σ:L2.St}{m:Nat}:∀{ps:List (Int ⊕ Nat)} {zs:List Int},Zs σ (ps++[.inr m]) zs->∃z r,zs=r++[z]/\σ[m]?=some (some (.int z))/\Zs σ ps r
 |[],zs,⟨z,r',e,hm,h⟩=>⟨z,[],by rw[e,show r'=[]from h];rfl,hm,rfl⟩
 |.inl y::ps,zs,⟨r',e,h⟩=>by
  obtain⟨z,r,e2,hm,h2⟩:=Zs.snocR (ps:=ps) h;exact⟨z,y::r,by rw[e,e2];rfl,hm,r,rfl,h2⟩
 |.inr n::ps,zs,⟨y,r',e,hn,h⟩=>by
  obtain⟨z,r,e2,hm,h2⟩:=Zs.snocR (ps:=ps) h;exact⟨z,y::r,by rw[e,e2];rfl,hm,y,r,rfl,hn,h2⟩
abbrev tPZ(K:PySem.W.Frag)(i:Nat)(ps:List (Int ⊕ Nat)):TE:=fun σ H Q=>∃zs v u,Zs σ ps zs/\σ[i]?=some (some v)/\PVZ K H zs v u/\Q u H
section
variable {X:Cx}{Z:Fx0}{pn:List Nat}{q:Bool}{c:Ex}{e ep e2:Expr}{i m:Nat}{ps:List (Int ⊕ Nat)}{pos:Pos}
theorem qq3(K:PySem.W.Frag)(h:PE X e (zq i)):PE X e (tPZ K i []):=kK h fun σ H Q ⟨zs,v,u,hz,hv,hu,q⟩=>by
 have hz:zs=[]:=hz;subst hz;have hu:u=v:=hu;subst hu;exact⟨u,hv,q⟩
theorem vkr{K:PySem.W.Frag}{z:Int}{j:Nat}{bv:Pos}(h:PE X e (tPZ K i ps))(bg:Vq (.Constant (.int z) j bv))(hK:autoParam (X.K=K) Ŕ):PE X (.Subscript e (.Constant (.int z) j bv) pos) (tPZ K i (ps++[.inl z])):=
 kK (qk2 (hK▸kvu) h kxx bg) fun σ H Q ⟨zs,v,u,hz,hv,hu,q⟩=>by
  obtain⟨r,rfl,hr⟩:=hz.snocL;obtain⟨w,h1,a,xs,x,e1,sq,ex,hx⟩:=hu.snoc;have hx:u=x:=hx;subst hx;refine⟨r,v,w,hr,hv,h1,?_⟩;rcases sq with sq|sq
  ·exact .inl ⟨a,xs,z,u,e1,rfl,.inl (.inl sq),ex,q⟩
  ·exact .inr (.inl ⟨a,xs,z,u,e1,rfl,sq,ex,q⟩)
theorem vkq{K:PySem.W.Frag}(h:PE X e (tPZ K i ps))(h2:PE X e2 (zq m))(bg:Vq e2)(hK:autoParam (X.K=K) Ŕ):PE X (.Subscript e e2 pos) (tPZ K i (ps++[.inr m])):=
 kK (qk2 (hK▸kvu) h h2 bg) fun σ H Q ⟨zs,v,u,hz,hv,hu,q⟩=>by
  obtain⟨z,r,rfl,hm,hr⟩:=hz.snocR;obtain⟨w,h1,a,xs,x,e1,sq,ex,hx⟩:=hu.snoc;have hx:u=x:=hx;subst hx;refine⟨r,v,w,hr,hv,h1,.int z,hm,?_⟩;rcases sq with sq|sq
  ·exact .inl ⟨a,xs,z,u,e1,rfl,.inl (.inl sq),ex,q⟩
  ·exact .inr (.inl ⟨a,xs,z,u,e1,rfl,sq,ex,q⟩)
theorem qqx{E:En}{σ:L2.St}{L:Ls}{H:Hp}{K:PySem.W.Frag}(mt:Mt E σ L)(w:World K H L):∀{ps:List (Int ⊕ Nat)} {zs:List Int},QX E ps=some zs->Zs σ ps zs
 |[],zs,h=>by cases oq9 h;rfl
 |.inl z::ps,zs,h=>by
  unfold QX at h;obtain⟨r,hr,rfl⟩:=Option.map_eq_some_iff.mp h;exact⟨r,rfl,qqx mt w hr⟩
 |.inr m::ps,zs,h=>by
  unfold QX at h
  split at h
  rotate_left
  ·cases h
  rename_i o z hE;obtain⟨r,hr,rfl⟩:=Option.map_eq_some_iff.mp h;obtain⟨x,a1,a2,a3,a4⟩:=mt.get hE;have:=kxb (w.ok x (wV a1)) a3;rw[this]at a4;exact⟨z,r,rfl,a4,qqx mt w hr⟩
theorem qzf(hP:PE X ep (tPZ Z.K i ps))(hc:QE X Z q c e)(hK:autoParam (X.K=Z.K) Ŕ)(hm:MtR X "list.append" Z0){aj ab c8:Pos}
  (ax:autoParam (attributeBase ep "append" X.env (eval ep X.env)=eval ep X.env) Ŕ)
  (cg:autoParam (((backTo ab (starEach [e] X.env)).all (λx=>!x.1)&&(backToKw ab (keywordEach [] X.env)).all (λx=>x.1.isSome)
   && decide ([e].length+([]:List Keyword).length+(if([]:List Keyword).isEmpty then 0 else 1)<30))=true) Ŕ)
  (au:autoParam ((aj.endLine==ab.line)=true) Ŕ) (hs:autoParam (starEach [e] X.env=(false,eval e X.env)::starEach [] X.env) Ŕ) (az:autoParam ((backTo ab (starEach [] X.env)).any (·.1)=false) Ŕ)
  (gc:autoParam (swapsWith (.Call (.Attribute ep "append" aj) [e] [] ab) none c8.line X.env=pure false) Ŕ):
  QS X Z pn (W9 i ps c) (.Expr (.Call (.Attribute ep "append" aj) [e] [] ab) c8):=
 J8 (XW (kvk Z.K Ya PySem.F.slot_list_append PySem.F.type_list_append hm hP (vz hc vX hs) ax cg au hs az hK) gc) λDe σ H ak=>ex7 ak λE L r m w b8 k=>by
 unfold W9 at b8
 split at b8
 rotate_left
 ·cases b8
 rename_i o0 d0 zs hE0 ig
 split at b8
 rotate_left
 ·cases b8
 rename_i p hzp;unfold sPA at b8
 split at b8
 rotate_left
 ·cases b8
 rename_i d hE;have hd:d0=d:=by rw[hE0]at hE;cases hE;rfl
 subst hd
 split at b8
 rotate_left
 ·cases b8
 rename_i ds cp
 split at b8
 rotate_left
 ·cases b8
 rename_i ag;obtain⟨y,a1,a2,a3,a4⟩:=m.get hE;obtain⟨w0,s0⟩:=XQ w a1;obtain⟨y1,b1,b2,b3,b4,b5⟩:=w0.hole a2 (by rw[a3];exact cp);obtain⟨l,xs,bs,c1,c2,_,_,_⟩:=V5 (b4.ok y1 X5) b2 b1;refine⟨zs,y.v,y1.v,qqx m w ig,a4,kxo (by rw[a3];exact hzp) b3,by rw[c1];exact kv6 c2,?_⟩;refine Vj (q:=q) (KQ i m) w0.tail b8 (k.step (s0.trans Step.drop) Pn.refl) λE1 s h1 x L1 H1 e1 e2 m1 w1 st _=>?_
 split at h1
 rotate_left
 ·cases h1
 rename_i hpu;cases oq9 h1;obtain⟨w2,s2⟩:=YX (T:=[some y1]) b4 st w1;obtain⟨l',xs',f1,f2,f3,z,z1,z2,z3,z4,z5⟩:=World.app w2 b1 b2 (by rw[e2];exact hpu);obtain⟨y',g1,g2,g3,g4,g5⟩:=b5 _ _ z z4 (s2.trans z5) z1 z3;refine⟨l',xs',x.v,f1,rfl,f2,by rw[f3];exact ag,?_⟩;have mm:=K8 (i:=i) (x:=y') (s:=(.dp,Q.D.put (.lst (ds++[s.2])) p d0)) m1 g1 (by rw[g2,z2,a3,e2]);rw[g3,zw a4]at mm;exact k σ _ _ Pn.refl mm g4.set (s0.trans (g5.trans Step.set))
end
end Q
namespace Q
open PySem PySem.Spec PyProof.Rows L2 L3
section
variable {X:Cx}{Z:Fx0}{pn:List Nat}{ep:Expr}{i:Nat}{p:List Nat}{pos:Pos}
theorem kjv{E:En}{σ:L2.St}{L:Ls}{r:Nat}(hE:E[r]?=some none)(hL:L[r]?=some none)(u:Option V)(h:Mt E σ L):Mt E (σ.set r u) L:=by
 have:=vqw (u:=u) r h;rw[zw hE,zw hL]at this;exact this
theorem qvk{r1 r2 r3:Nat}{tg es:Expr}(hp:PassesOwn (model X.prog X.w) X.A X.env X.xe)(hcm:X.calm=true)(hP:PE X ep (tP Z.K i p))(hg:PG X tg (vku Z.K 3 (gNs [r1,r2,r3])))(hS:PE X es (zq r3))(hK:autoParam (X.K=Z.K) Ŕ)(hm:MtR X "list.clear" kxi){aj ab c8 fpos:Pos}
  (h1:autoParam (r1≠i) ŕ) (h2:autoParam (r2≠i) ŕ) (h3:autoParam (r3≠i) ŕ) (hpn1:autoParam (r1∉pn) ŕ) (hpn2:autoParam (r2∉pn) ŕ) (hpn3:autoParam (r3∉pn) ŕ)
  (ax:autoParam (attributeBase es "clear" X.env (eval es X.env)=eval es X.env) Ŕ) (au:autoParam ((aj.endLine==ab.line)=true) Ŕ)
  (gc:autoParam (swapsWith (.Call (.Attribute es "clear" aj) [] [] ab) none c8.line X.env=pure false) Ŕ) (jp:autoParam (∀x,foldedSetIterable ep X.env x=pure x) Ŗ):
  QS X Z pn (WX i r1 r2 r3 p) (.For tg ep [.Expr (.Call (.Attribute es "clear" aj) [] [] ab) c8] [] fpos):=
 J8 (qq5 hp hcm (qvy hP) hg (kxr (XW (kxz Z.K Ya PySem.F.slot_list_clear PySem.F.type_list_clear hm hS ax au hK) gc)) jp) λDe σ H ak=>ex7 ak λE L rr m w b8 k=>by
 unfold WX at b8
 split at b8
 rotate_left
 ·cases b8
 rename_i d hE
 split at b8
 rotate_left
 ·cases b8
 rename_i ds cp
 split at b8
 rotate_left
 ·cases b8
 rename_i hrE;obtain⟨q1,q2,q3⟩:=hrE
 split at b8
 rotate_left
 ·cases b8
 rename_i de hea;cases oq9 b8;obtain⟨y,a1,a2,a3,a4⟩:=m.get hE;obtain⟨w0,s0⟩:=XQ w a1;have m0:=KQ r3 (KQ r2 (KQ r1 (KQ i m)));obtain⟨wa,sa⟩:=World.out1 r1 w0.tail;obtain⟨wb,sb⟩:=World.out1 r2 wa;obtain⟨wc,sc⟩:=World.out1 r3 wb;obtain⟨w0,s0'⟩:=YX (T:=[some y]) w0 ((sa.trans sb).trans sc) wc;have s0:=s0.trans s0';have ml:=m.len;have none_at:∀{α:Type} {l:List (Option α)} {a b c n:Nat},n<l.length->(n=a\/n=b\/n=c)->(((l.set a none).set b none).set c none)[n]?=some none:=fun {α l a b c n} hn h=>by
  by_cases e3:c=n
  ·rw[e3,Y4 (by simpa using hn)]
  ·rw[Xn e3]
   by_cases e2:b=n
   ·rw[e2,Y4 (by simpa using hn)]
   ·rw[Xn e2];have:n=a:=by rcases h with h|h|h;exact h;exact absurd h.symm e2;exact absurd h.symm e3
    rw[this,Y4 (by rw[<-this];exact hn)]
 have e1:((((E.set i none).set r1 none).set r2 none).set r3 none)[r1]?=some none:=none_at (by simpa using q1) (.inl rfl);have e2:((((E.set i none).set r1 none).set r2 none).set r3 none)[r2]?=some none:=none_at (by simpa using q2) (.inr (.inl rfl));have e3:((((E.set i none).set r1 none).set r2 none).set r3 none)[r3]?=some none:=none_at (by simpa using q3) (.inr (.inr rfl));have f1:((((L.set i none).set r1 none).set r2 none).set r3 none)[r1]?=some none:=none_at (by simp;omega) (.inl rfl);have f2:((((L.set i none).set r1 none).set r2 none).set r3 none)[r2]?=some none:=none_at (by simp;omega) (.inr (.inl rfl));have f3:((((L.set i none).set r1 none).set r2 none).set r3 none)[r3]?=some none:=none_at (by simp;omega) (.inr (.inr rfl));generalize hL0:(((L.set i none).set r1 none).set r2 none).set r3 none=L0 at *;generalize hE0:(((E.set i none).set r1 none).set r2 none).set r3 none=E0 at *;obtain⟨y1,b1,b2,b3,b4,b5⟩:=World.hole w0 a2 (by rw[a3];exact cp);obtain⟨l,xs0,bs,c1,c2,_,_,c5⟩:=V5 (b4.ok y1 X5) b2 b1;refine⟨y.d,y.v,y1.v,a4,b3,l,c1,⟨xs0,.inl (.inl c2)⟩,?_⟩;refine⟨λk0 n σ1 H1=>∃(z:Sl) (cf:List Q.D),k0<=ds.length/\n=ds.length - k0/\Mt E0 σ1 L0/\World Z.K H1 (some z::L0)/\z.o=.dp/\z.d=.lst cf/\z.v=y1.v/\Step H (some y1::L0) H1 (some z::L0)/\Qv (ds.length - k0) k0 (.lst cf)=some de/\cf.length=ds.length/\σ1[i]?=some (some y.v)/\Pn pn σ σ1/\σ1.length=σ.length,
  ⟨_,y1,ds,Nat.zero_le _,rfl,m0,b4,b1,b2,rfl,Step.refl,hea,rfl,a4,Pn.refl,rfl⟩,?_⟩
 rintro k0 n σ1 H1 ⟨z,cf,hk,rfl,m1,w1,z1,z2,z3,st1,hea1,jb,h8,hpn,hσl⟩;obtain⟨l',xs,bu,d1,d2,_,_,d5⟩:=V5 (w1.ok z X5) z2 z1;have hll:l'=l:=by rw[z3,c1]at d1;exact(V.ref.inj d1).symm
 subst hll;have hxl:xs.length=ds.length:=by rw[<-d5.len,jb]
 by_cases df:k0<ds.length
 ·refine .inr ⟨⟨xs,xs[k0]'(by omega),.inl (.inl d2),X1 _⟩,fun σ2 H2=>∃m',m'<ds.length - k0/\_,fun σ' H' h=>h,λx H' hy=>?_⟩;obtain⟨rfl,hyx⟩:=hy;have hx:xs[k0]?=some x:=hyx xs (.inl (.inl d2));obtain⟨n,hn⟩:∃n,ds.length - k0=n+1:=⟨ds.length - k0 - 1,by omega⟩;rw[hn]at hea1;unfold Qv at hea1
  split at hea1
  rotate_left
  ·cases hea1
  rename_i da db es1 hat2;have hdk:cf[k0]?=some (.tup [da,db,.lst es1]):=by
   have:(match cf[k0]? with|some d=>Q.D.at [] d|none=>none)=some (.tup [da,db,.lst es1]):=hat2
   split at this
   ·rename_i d' gf;rw[gf];exact this
   ·cases this
  have hat3:Q.D.at [k0,2] (.lst cf)=some (.lst es1):=by
   show(match cf[k0]? with|some d=>Q.D.at [2] d|none=>none)=_;rw[hdk];rfl
  have b9:Q.D.put (.lst []) [k0,2] (.lst cf)=.lst (cf.set k0 (.tup [da,db,.lst []])):=by
   show(match cf[k0]? with|some d=>Q.D.lst (cf.set k0 (Q.D.put (.lst []) [2] d))|none=>_)=_;rw[hdk];rfl
  obtain⟨y2,g1,g2,g3,g4,g5⟩:=w1.hole z1 (by rw[z2];exact hat3);rw[z2]at g3;obtain⟨la,xs2,x2,dx,t1,t2,t3,⟨t4,_⟩,t5⟩:=g3;have u1:la=l':=by rw[d1]at t1;exact(V.ref.inj t1).symm
  subst u1;have u2:xs2=xs:=by rw[d2]at t2;cases t2;rfl
  subst u2;have u3:x2=x:=by rw[hx]at t3;exact(oq9 t3).symm
  subst u3;rw[hdk]at t4;cases oq9 t4;obtain⟨bw,us,u,du,v1,v2,v3,⟨_,v4⟩,v5⟩:=t5;have v4:us.length=3:=v4;have v5:y2.v=u:=v5;obtain⟨ua,ub,uc,rfl⟩:∃a b c,us=[a,b,c]:=by
   match us,v4 with
   |[a,b,c],_=>exact⟨a,b,c,rfl⟩
  have v3:uc=u:=oq9 v3;subst v3;obtain⟨l3,xs3,j1,j2,zn,n1,n2,n3,n4,n5⟩:=World.clr g4 g1 g2;obtain⟨z',o1,o2,o3,o4,o5⟩:=g5 _ _ zn n4 n5 n1 n3;have sg:((((σ1.set r1 (some ua)).set r2 (some ub)).set r3 (some uc)))[r3]?=some (some uc):=Y4 (by simp;omega);refine⟨bw,[ua,ub,uc],v1,.inl v2,rfl,?_⟩;refine⟨ua,_,rfl,ub,_,rfl,uc,_,rfl,rfl,?_⟩;refine⟨uc,sg,by rw[<-v5,j1];exact kv6 j2,l3,xs3,by rw[<-v5];exact j1,rfl,j2,?_⟩;refine⟨ds.length - (k0+1),by omega,z',cf.set k0 (.tup [da,db,.lst []]),by omega,rfl,kjv e3 f3 _ (kjv e2 f2 _ (kjv e1 f1 _ m1)),o4,o1,by rw[o2,n2,z2];exact b9,o3.trans z3,st1.trans o5,?_,by rw[Ye];exact jb,?_,((hpn.set hpn1).set hpn2).set hpn3,by simp;exact hσl⟩
  ·rw[show ds.length - (k0+1)=n by omega,<-b9];exact hea1
  ·rw[Xn h3,Xn h2,Xn h1];exact h8
 ·have hk2:k0=ds.length:=by omega
  refine .inl ⟨⟨xs,.inl (.inl d2),by omega⟩,?_⟩;rw[hk2,Nat.sub_self]at hea1;unfold Qv at hea1;cases oq9 hea1;obtain⟨y',g1,g2,g3,g4,g5⟩:=b5 _ _ z w1 st1 z1 z3;have mm:=K8 (i:=i) (x:=y') (s:=(.dp,Q.D.put (.lst cf) p d)) m1 g1 (by rw[g2,z2,a3]);rw[g3,zw h8]at mm;exact k σ1 _ _ hpn mm g4.set (s0.trans (g5.trans Step.set))
end
theorem qwp{P:Program}{w:PySem.World}{K:PySem.W.Frag}{mg:Str->Option Value}{base:Heap}{CX:CXT}{k n:Nat}{f:Addr}{fd:FuncData}{ps:List Str}{F:Fn->Fn}:FnOk P w K mg base CX k f fd ps (spF K mg n (wv F 0)):=
 ⟨λvs H Q E ⟨_,_,_,_,_,h,_⟩=>(nomatch h),λA outer s H args us vs Q E _ _ _ _ ⟨_,_,_,_,_,h,_⟩=>(nomatch h)⟩
end Q
namespace Q
open PySem
noncomputable def out(f:Fn)(xs:List Sd):Option (Sd ⊕ Str):=match f xs with
 |some (.ok _ y)=>some (.inl y)
 |some (.exc _ c)=>some (.inr c)
 |none=>none
theorem qqd(n:Nat)(h:300<=n):(10:Nat) ^ 70<2 ^ n:=Xe (show(10:Nat) ^ 70<2 ^ 240 by decide) (Nat.pow_le_pow_right (by decide) (by omega))
theorem vjc:(10:Nat) ^ 70<2 ^ 4096:=qqd 4096 (by decide)
theorem mul_l{o1 o2:Own}{a b:Int}(h1:-18446744073709551616<a)(h2:a<18446744073709551616):KW (o1,.int a) (o2,.int b)=some (.dp,.int (a*b)):=by
 have:JV a b=true:=by
  have:Z1 a=true:=by unfold Z1;rw[Xz (show -(2 ^ 64)<a by omega),Xz (show a<2 ^ 64 by omega)];rfl
  unfold JV;rw[this];rfl
 show(if JV a b=true then _ else _)=_;rw[Xb this]
theorem vjb{o1 o2:Own}{a b:Int}(h1:-(10 ^ 70)<a)(h2:a<10 ^ 70)(h3:-(10 ^ 70)<b)(h4:b<10 ^ 70):KW (o1,.int a) (o2,.int b)=some (.dp,.int (a*b)):=by
 have lg:∀{c:Int},c.natAbs<10 ^ 70->c.natAbs.log2<2000000:=fun {c} h=>by
  rcases Nat.eq_zero_or_pos c.natAbs with h0|hp
  ·rw[h0];decide
  ·exact Nat.lt_trans ((Nat.log2_lt (Nat.ne_of_gt hp)).mpr (Nat.lt_trans h vjc)) (by decide)
 have ha:a.natAbs.log2<2000000:=lg (by omega);have hb:b.natAbs.log2<2000000:=lg (by omega);have:JV a b=true:=by unfold JV;rw[Xz ha,Xz hb];simp
 show(if JV a b=true then _ else _)=_;rw[Xb this]
theorem add_i{o1 o2:Own}{a b:Int}:jz (o1,.int a) (o2,.int b)=some (.dp,.int (a+b)):=rfl
theorem sub_i{a b:Int}:K3 (.int a) (.int b)=some (.int (a - b)):=rfl
theorem div_i{a b:Int}(h:0<b)(h2:b<10 ^ 70):vW (.int a) (.int b)=some (.int (a / b)):=by
 have hb:b.natAbs.log2<9000:=by
  exact(Nat.log2_lt (by omega)).mpr (Nat.lt_trans (show b.natAbs<10 ^ 70 by omega) (qqd 9000 (by decide)))
 show(if 0<b/\b.natAbs.log2<9000 then some (a / b)else none).map _=_;rw[Xb ⟨h,hb⟩];rfl
theorem mod_i{a b:Int}(h:0<b):k7 (.int a) (.int b)=some (.int (a % b)):=by
 show(if 0<b then some (a % b)else none).map _=_;rw[Xb h];rfl
theorem pow_i{a b:Int}(h1:0<=b)(h2:b<=1000)(h3:-1000000<a)(h4:a<1000000):Wz (.int a) (.int b)=some (.int (a ^ b.toNat)):=by
 show(if 0<=b/\b<=1000000/\a.natAbs<2 ^ 64 then some (a ^ b.toNat)else none).map _=_;rw[Xb ⟨h1,by omega,by omega⟩];rfl
theorem qwt{a b:Int}:fEq (.int a) (.int b)=some (.bl (a==b)):=rfl
theorem lt_ii{a b:Int}:fLt (.int a) (.int b)=some (.bl (decide (a<b))):=rfl
theorem gt_ii{a b:Int}:fGt (.int a) (.int b)=some (.bl (decide (b<a))):=rfl
theorem le_ii{a b:Int}:fLe (.int a) (.int b)=some (.bl (decide (a<=b))):=rfl
theorem ge_ii{a b:Int}:fGe (.int a) (.int b)=some (.bl (decide (b<=a))):=rfl
theorem Jq{xs:List D}{i:Int}{d:D}(h0:0<=i)(h:xs[i.toNat]?=some d):kw (.lst xs) (.int i)=some d:=by
 show((ixN xs.length i).bind λj=>xs[j]?)=some d;have hl:i.toNat<xs.length:=(List.getElem?_eq_some_iff.mp h).1;unfold ixN;rw[Xb h0,Xb (by omega)];exact h
theorem ix_t{xs:List D}{i:Int}{d:D}(h0:0<=i)(h:xs[i.toNat]?=some d):kw (.tup xs) (.int i)=some d:=by
 show((ixN xs.length i).bind λj=>xs[j]?)=some d;have hl:i.toNat<xs.length:=(List.getElem?_eq_some_iff.mp h).1;unfold ixN;rw[Xb h0,Xb (by omega)];exact h
theorem len_l{xs:List D}:q9 (.lst xs)=some (.int xs.length):=rfl
theorem len_t{xs:List D}:q9 (.tup xs)=some (.int xs.length):=rfl
theorem vkc{o1 o2:Own}{a b:List D}(h1:o1≠.dp)(h2:o2≠.dp)(hl:a.length+b.length<10000):jz (o1,.lst a) (o2,.lst b)=some (.rt,.lst (a++b)):=by
 show(if a.length+b.length<=big/\qv (o1,.lst a)/\qv (o2,.lst b)then _ else _)=_;rw[Xb ⟨by unfold big;omega,by cases o1<;>simp_all [qv],by cases o2<;>simp_all [qv]⟩]
theorem tup_l{o:Own}{xs:List D}(h:o≠.dp):JX (o,.lst xs)=some (.no,.tup xs):=by
 show(if qv (o,.lst xs)then _ else _)=_;rw[Xb (by cases o<;>simp_all [qv])]
abbrev XP:=Str->Prop
theorem nd{α:Sort _}{a b:α}(h:a=b):a=b:=h
@[irreducible] noncomputable def Eo {α:Type} (m:Option (Res α)) (P:En->α->Prop) (X:XP):Prop:=match m with
 |some (.ok E a)=>P E a
 |some (.exc _ c)=>X c
 |none=>False
@[irreducible] noncomputable def Vo {α:Type} (m:Option α) (P:α->Prop):Prop:=match m with
 |some a=>P a
 |none=>False
@[irreducible] noncomputable def Oo (f:Fn) (xs:List Sd) (P:Sd->Prop) (X:XP):Prop:=match f xs with
 |some (.ok _ y)=>P y
 |some (.exc _ c)=>X c
 |none=>False
@[irreducible] noncomputable def Po (r:Option Fl) (N C:En->Prop) (R:Sd->Prop) (X:XP):Prop:=match r with
 |some (.nx E)=>N E
 |some (.ct E)=>C E
 |some (.rt _ x)=>R x
 |some (.xc _ c)=>X c
 |_=>False
abbrev noX:XP:=λ_=>False
section
variable {α β:Type}{P:En->α->Prop}{X:XP}{N C:En->Prop}{R:Sd->Prop}{E:En}
theorem W3{a:α}:Eo (some (.ok E a)) P X=P E a:=nd (by with_unfolding_all rfl)
theorem k4{m:Option (Res β)}{f:En->β->Option (Res α)}:Eo (bnd m f) P X=Eo m (λE a=>Eo (f E a) P X) X:=by
 cases m with
 |none=>with_unfolding_all rfl
 |some r=>cases r<;>with_unfolding_all rfl
theorem vo_some{a:α}{P:α->Prop}:Vo (some a) P=P a:=nd (by with_unfolding_all rfl)
theorem vo_map{x:Option β}{f:β->α}{P:α->Prop}:Vo (x.map f) P=Vo x (λa=>P (f a)):=by cases x<;>with_unfolding_all rfl
theorem zV{x:Option α}:Eo (val E x) P X=Vo x (P E):=by cases x<;>with_unfolding_all rfl
theorem qvu{E:En}:Po (some (.nx E)) N C R X=N E:=nd (by with_unfolding_all rfl)
theorem VX{m:Option (Res α)}{f:En->α->Option Fl}:Po (ofE m f) N C R X=Eo m (λE a=>Po (f E a) N C R X) X:=by
 cases m with
 |none=>with_unfolding_all rfl
 |some r=>cases r<;>with_unfolding_all rfl
theorem qq6{a b:Sm}:Po (j4 a b E) N C R X=Po (a E) (λE=>Po (b E) N C R X) C R X:=by
 unfold j4 Po;cases a E with
 |none=>with_unfolding_all rfl
 |some r=>cases r<;>with_unfolding_all rfl
theorem Eo.mono{m:Option (Res α)}{P':En->α->Prop}(h:Eo m P X)(k:∀E a,P E a->P' E a):Eo m P' X:=by
 cases m with
 |none=>with_unfolding_all exact h
 |some r=>cases r with
  |ok E a=>with_unfolding_all exact k E a h
  |exc E c=>with_unfolding_all exact h
theorem Oo.mono{f:Fn}{xs:List Sd}{P P':Sd->Prop}(h:Oo f xs P X)(k:∀y,P y->P' y):Oo f xs P' X:=by
 unfold Oo at h ⊢;cases hf:f xs with
 |none=>rw[hf]at h;with_unfolding_all exact h
 |some r=>rw[hf]at h;cases r with
  |ok E a=>with_unfolding_all exact k a h
  |exc E c=>with_unfolding_all exact h
theorem Oo.out{f:Fn}{xs:List Sd}{P:Sd->Prop}(h:Oo f xs P noX):∃E y,f xs=some (.ok E y)/\P y:=by
 unfold Oo at h;cases hf:f xs with
 |none=>rw[hf]at h;with_unfolding_all exact(show False from h).elim
 |some r=>rw[hf]at h;cases r with
  |ok E a=>with_unfolding_all exact⟨E,a,rfl,h⟩
  |exc E c=>with_unfolding_all exact(show False from h).elim
theorem qX{n:Nat}{b:Sm}{xs:List Sd}{P:Sd->Prop}(h:Po (b (xs.map some++List.replicate (n - xs.length) none)) (λ_=>P (.dp,.non)) (λ_=>False) P X):Oo (fn n b) xs P X:=by
 unfold Oo fn;unfold Po at h;cases hb:b (xs.map some++List.replicate (n - xs.length) none)with
 |none=>rw[hb]at h;with_unfolding_all exact h
 |some r=>rw[hb]at h;cases r<;>with_unfolding_all exact h
theorem qwu{f:Fn}{cs:List Ex}{P:En->Sd->Prop}:Eo (jW f cs E) P X=Eo (qQ cs E) (λE xs=>Oo f (letAll xs) (P E) X) X:=by
 unfold jW;rw[k4]
 congr 1
 funext E xs;unfold Oo;cases f (letAll xs)with
 |none=>with_unfolding_all rfl
 |some r=>cases r<;>with_unfolding_all rfl
theorem qkl{f:Fn}{cs:List Ex}{P:En->Sd->Prop}:Eo (Q1 f cs E) P X=Eo (qQ cs E) (λE xs=>Oo f (letAll xs) (λy=>y.2.pure=true/\P E (.dp,y.2)) X) X:=by
 unfold Q1;rw[k4]
 congr 1
 funext E xs;unfold Oo;cases f (letAll xs)with
 | none=>with_unfolding_all rfl
 | some r=>
  cases r with
  |exc=>with_unfolding_all rfl
  |ok E1 y=>
   dsimp only
   by_cases hp:y.2.pure=true
   ·rw[Xb hp];with_unfolding_all exact propext ⟨λh=>⟨hp,h⟩,λh=>h.2⟩
   ·rw[Xj hp];with_unfolding_all exact propext ⟨λh=>(show False from h).elim,λh=>hp h.1⟩
def ZV(d:D){α:Type}(a b:Option α):Option α:=match d with
 |.bl k=>if k=true then a else b
 |_=>none
theorem qwx(a b:Ex):zW a b E=bnd (a E) λE x=>ZV x.2 (b E) (some (.ok E (.dp,.bl false))):=by
 unfold zW ZV
 congr 1
 funext E x;cases x.2 with
 |bl k=>cases k<;>with_unfolding_all rfl
 |_=>with_unfolding_all rfl
theorem vk4(a b:Ex):cOr a b E=bnd (a E) λE x=>ZV x.2 (some (.ok E (.dp,.bl true))) (b E):=by
 unfold cOr ZV
 congr 1
 funext E x;cases x.2 with
 |bl k=>cases k<;>with_unfolding_all rfl
 |_=>with_unfolding_all rfl
theorem kqn{tg:Tg}{b:Sm}(I:En->List D->Prop)(hs:∀E d ds,I E (d::ds)->Vo (tg.put d E) λE1=>Po (b E1) (λE2=>I E2 ds) (λE2=>I E2 ds) R X)(h1:∀E,I E []->N E):∀ds E,I E ds->Po (J5 tg b ds E) N C R X
 | [],E,h=>by with_unfolding_all exact h1 E h
 | d::ds,E,h=>by
  have h2:=hs E d ds h;unfold J5;cases hp:tg.put d E with
  | none=>rw[hp]at h2;with_unfolding_all exact(show False from h2).elim
  | some E1=>
   rw[hp]at h2;have h2:Po (b E1) (λE2=>I E2 ds) (λE2=>I E2 ds) R X:=by with_unfolding_all exact h2
   dsimp only;cases hb:b E1 with
   |none=>rw[hb]at h2;with_unfolding_all exact(show False from h2).elim
   |some r=>
    rw[hb]at h2;cases r with
    |nx E2=>with_unfolding_all exact kqn I hs h1 ds E2 h2
    |ct E2=>with_unfolding_all exact kqn I hs h1 ds E2 h2
    |rt E2 x=>with_unfolding_all exact h2
    |xc E2 c=>with_unfolding_all exact h2
    |bk E2=>with_unfolding_all exact(show False from h2).elim
theorem x8{it:Ev (List D)}{tg:Tg}{b:Sm}(I:En->List D->Prop)(h0:Eo (it E) I X)(hs:∀E d ds,I E (d::ds)->Vo (tg.put d E) λE1=>Po (b E1) (λE2=>I E2 ds) (λE2=>I E2 ds) R X)(h1:∀E,I E []->N E):Po (qk it tg b E) N C R X:=by
 show Po (ofE (it E) λE ds=>J5 tg b ds E) N C R X;rw[VX]
 with_unfolding_all exact h0.mono λE ds h=>kqn I hs h1 ds E h
theorem kzy{tg:Tg}{t:Ts}{c:Ex}{P:En->List Sd->Prop}(J:En->List D->List Sd->Prop)(hs:∀B d ds af,J B (d::ds) af->Vo (tg.put d B) λB1=>Eo (t B1) (λB2 k=>if k=true then Eo (c B2) (λB3 y=>J B3 ds (af++[y])) X else J B2 ds af) X)(h1:∀B af,J B [] af->P B af):∀ds B af,J B ds af->Eo (lcL tg t c ds B af) P X
 | [],B,af,h=>by with_unfolding_all exact h1 B af h
 | d::ds,B,af,h=>by
  have h2:=hs B d ds af h;unfold lcL;cases hp:tg.put d B with
  | none=>rw[hp]at h2;with_unfolding_all exact(show False from h2).elim
  | some B1=>
   rw[hp]at h2;have h2:Eo (t B1) (λB2 k=>if k=true then Eo (c B2) (λB3 y=>J B3 ds (af++[y])) X else J B2 ds af) X:=by with_unfolding_all exact h2
   dsimp only;rw[k4];refine h2.mono λB2 k h3=>?_
   cases k with
   |false=>with_unfolding_all exact kzy J hs h1 ds B2 af h3
   |true=>
    show Eo (bnd (c B2) _) P X;rw[k4]
    with_unfolding_all exact Eo.mono (P:=λB3 y=>J B3 ds (af++[y])) h3 λB3 y h4=>kzy J hs h1 ds B3 _ h4
theorem Vx{o:Own}{k:Nat}{r:List Nat}{it:Ev (List D)}{tg:Tg}{t:Ts}{c:Ex}{P:En->Sd->Prop}(J:En->En->List D->List Sd->Prop)(h0:Eo (it E) (λE1 ds=>J E1 (Jw k r E1) ds []) X)
  (hs:∀E1 B d ds af,J E1 B (d::ds) af->Vo (tg.put d B) λB1=>Eo (t B1) (λB2 k=>if k=true then Eo (c B2) (λB3 y=>J E1 B3 ds (af++[y])) X else J E1 B2 ds af) X) (h1:∀E1 B af,J E1 B [] af->Eo (mkL o (xV k r B E1) af) P X):Eo (cLC o k r it tg t c E) P X:=by
 unfold cLC;rw[k4];refine h0.mono λE1 ds hJ=>?_
 have:=kzy (P:=λB af=>Eo (mkL o (xV k r B E1) af) P X) (J E1) (hs E1) (h1 E1) ds _ _ hJ;cases hl:lcL tg t c ds (Jw k r E1) []with
 |none=>rw[hl]at this;with_unfolding_all exact(show False from this).elim
 |some q=>rw[hl]at this;cases q<;>with_unfolding_all exact this
end
theorem mulT_i{o1:Own}{a:Int}{y:Sd}:qY (o1,.int a) y=KW (o1,.int a) y:=by
 unfold qY;with_unfolding_all rfl
def sl(q:Option (Option Sd)):Option Sd:=match q with
 |some (some x)=>some x
 |_=>none
theorem sl_some{x:Sd}:sl (some (some x))=some x:=nd (by with_unfolding_all rfl)
def vvi(d:D)(a b:Prop):Prop:=match d with
 |.bl k=>if k=true then a else b
 |_=>False
theorem andP_bl{k:Bool}{a b:Prop}:vvi (.bl k) a b=if k=true then a else b:=nd (by with_unfolding_all rfl)
def Wo{α:Type}(m:Option α)(E:En)(P:En->α->Prop):Prop:=Vo m (P E)
theorem wo_some{α:Type}{a:α}{E:En}{P:En->α->Prop}:Wo (some a) E P=P E a:=by unfold Wo;exact vo_some
theorem wo_map{α β:Type}{x:Option β}{f:β->α}{E:En}{P:En->α->Prop}:Wo (x.map f) E P=Wo x E (λE a=>P E (f a)):=by unfold Wo;exact vo_map
def Oe(f:Fn)(xs:List Sd)(E:En)(P:En->Sd->Prop)(X:XP):Prop:=Oo f xs (P E) X
def intP(d:D)(P:Int->Prop):Prop:=match d with
 |.int i=>P i
 |_=>False
def Ie(d:D)(E:En)(P:En->Int->Prop):Prop:=intP d (P E)
theorem ie_i{i:Int}{E:En}{P:En->Int->Prop}:Ie (.int i) E P=P E i:=nd (by with_unfolding_all rfl)
section
variable {P:En->Sd->Prop}{T:En->Bool->Prop}{X:XP}{N C:En->Prop}{R:Sd->Prop}{E:En}{e:Option Sd}{a b c:Ex}{t u:Ts}{i:Nat}
theorem w_seq{a b:Sm}:Po (j4 a b (e::E)) N C R X=Po (a (e::E)) (λE=>Po (b E) N C R X) C R X:=qq6
theorem w_asg:Po (jk i c (e::E)) N C R X=Eo (c (e::E)) (λE x=>N (E.set i (some x))) X:=by unfold jk;rw[VX];with_unfolding_all rfl
theorem w_ret:Po (jQ c (e::E)) N C R X=Eo (c (e::E)) (λ_ x=>R x) X:=by unfold jQ;rw[VX];with_unfolding_all rfl
theorem w_pass:Po (qV (e::E)) N C R X=N (e::E):=nd (by with_unfolding_all rfl)
theorem w_if{a b:Sm}:Po (sIf t a b (e::E)) N C R X=Eo (t (e::E)) (λE k=>if k=true then Po (a E) N C R X else Po (b E) N C R X) X:=by
 unfold sIf;rw[VX];congr 1;funext E k;cases k<;>with_unfolding_all rfl
theorem w_vV:Eo (vV i (e::E)) P X=Wo (sl (e::E)[i]?) (e::E) P:=by
 unfold vV Wo;cases(e::E)[i]? with
 |none=>with_unfolding_all rfl
 |some q=>cases q<;>with_unfolding_all rfl
theorem w_cV:Eo (cV i (e::E)) P X=Wo (sl (e::E)[i]?) (e::E) (λE x=>P (E.set i (some (.no,x.2))) (.no,x.2)):=by
 unfold cV Wo;cases(e::E)[i]? with
 |none=>with_unfolding_all rfl
 |some q=>cases q<;>with_unfolding_all rfl
theorem w_cMv:Eo (cMv i (e::E)) P X=Wo (sl (e::E)[i]?) (e::E) (λE x=>P (E.set i none) x):=by
 unfold cMv Wo;cases(e::E)[i]? with
 |none=>with_unfolding_all rfl
 |some q=>cases q<;>with_unfolding_all rfl
theorem w_cC{d:D}:Eo (cC d (e::E)) P X=P (e::E) (.dp,d):=nd (by with_unfolding_all rfl)
theorem w_vE:Eo (vE c (e::E)) P X=Eo (c (e::E)) (λE x=>P E (.no,x.2)) X:=by unfold vE;rw[k4];with_unfolding_all rfl
theorem w_cH:Eo (cH c (e::E)) P X=Eo (c (e::E)) (λE x=>if x.1=.no then P E (.no,x.2)else if x.2.pure=true then P E (.dp,x.2)else False) X:=by
 unfold cH;rw[k4]
 congr 1
 funext E x
 by_cases h:x.1=.no
 ·rw[Xb h,Xb h];with_unfolding_all rfl
 ·rw[Xj h,Xj h]
  by_cases h2:x.2.pure=true
  ·rw[Xb h2,Xb h2];with_unfolding_all rfl
  ·rw[Xj h2,Xj h2];with_unfolding_all rfl
theorem w_f1{f:Sd->Option Sd}:Eo (cF1 f a (e::E)) P X=Eo (a (e::E)) (λE x=>Wo (f x) E P) X:=by
 unfold cF1;rw[k4];congr 1;funext E x;exact zV
theorem w_f2{f:Sd->Sd->Option Sd}:Eo (cF2 f a b (e::E)) P X=Eo (a (e::E)) (λE x=>Eo (b E) (λE y=>Wo (f x y) E P) X) X:=by
 unfold cF2;rw[k4];congr 1;funext E x;rw[k4];congr 1;funext E y;exact zV
theorem w_ix:Eo (j8 a b (e::E)) P X=Eo (a (e::E)) (λE x=>Eo (b E) (λE y=>Wo (kw x.2 y.2) E (λE d=>P E (sub x.1,d))) X) X:=by
 unfold j8;rw[k4];congr 1;funext E x;rw[k4];congr 1;funext E y;rw[zV];exact vo_map
theorem w_tE:Eo (tE c (e::E)) T X=Eo (c (e::E)) (λE x=>Wo (truth x.2) E T) X:=by
 unfold tE;rw[k4];congr 1;funext E x;exact zV
theorem w_tEQ:Eo (tEQ c (e::E)) T X=Eo (c (e::E)) (λE x=>Wo (truthQ x.2) E T) X:=by
 unfold tEQ;rw[k4];congr 1;funext E x;exact zV
theorem w_tNot:Eo (tNot t (e::E)) T X=Eo (t (e::E)) (λE k=>T E (!k)) X:=by unfold tNot;rw[k4];with_unfolding_all rfl
theorem w_tAnd:Eo (tAnd t u (e::E)) T X=Eo (t (e::E)) (λE k=>if k=true then Eo (u E) T X else T E false) X:=by
 unfold tAnd;rw[k4];congr 1;funext E k;cases k<;>with_unfolding_all rfl
theorem w_tOr:Eo (tOr t u (e::E)) T X=Eo (t (e::E)) (λE k=>if k=true then T E true else Eo (u E) T X) X:=by
 unfold tOr;rw[k4];congr 1;funext E k;cases k<;>with_unfolding_all rfl
theorem w_tYes:Eo (tYes (e::E)) T X=T (e::E) true:=nd (by with_unfolding_all rfl)
theorem w_cIf:Eo (cIf t a b (e::E)) P X=Eo (t (e::E)) (λE k=>if k=true then Eo (a E) P X else Eo (b E) P X) X:=by
 unfold cIf;rw[k4];congr 1;funext E k;cases k<;>with_unfolding_all rfl
theorem w_cAnd:Eo (zW a b (e::E)) P X=Eo (a (e::E)) (λE x=>vvi x.2 (Eo (b E) P X) (P E (.dp,.bl false))) X:=by
 rw[qwx,k4];congr 1;funext E x;cases x.2 with
 |bl k=>cases k<;>with_unfolding_all rfl
 |_=>with_unfolding_all rfl
theorem w_cOr:Eo (cOr a b (e::E)) P X=Eo (a (e::E)) (λE x=>vvi x.2 (P E (.dp,.bl true)) (Eo (b E) P X)) X:=by
 rw[vk4,k4];congr 1;funext E x;cases x.2 with
 |bl k=>cases k<;>with_unfolding_all rfl
 |_=>with_unfolding_all rfl
theorem w_cNotQ:Eo (Wq c (e::E)) P X=Eo (c (e::E)) (λE x=>Wo (truthQ x.2) E (λE k=>P E (.dp,.bl (!k)))) X:=by
 unfold Wq;rw[k4];congr 1;funext E x;rw[zV];exact vo_map
theorem w_call{f:Fn}{cs:List Ex}:Eo (jW f cs (e::E)) P X=Eo (qQ cs (e::E)) (λE xs=>Oe f (letAll xs) E P X) X:=by with_unfolding_all exact qwu
theorem w_callB{f:Fn}{cs:List Ex}:Eo (Q1 f cs (e::E)) P X=Eo (qQ cs (e::E)) (λE xs=>Oe f (letAll xs) E (λE y=>y.2.pure=true/\P E (.dp,y.2)) X) X:=by with_unfolding_all exact qkl
theorem w_partN{P:En->Option Int->Prop}:Eo (V0 none (e::E)) P X=P (e::E) none:=nd (by with_unfolding_all rfl)
theorem w_partS{P:En->Option Int->Prop}:Eo (V0 (some c) (e::E)) P X=Eo (c (e::E)) (λE x=>Ie x.2 E (λE i=>P E (some i))) X:=by
 show Eo (bnd (c (e::E)) _) P X=_;rw[k4];congr 1;funext E x;unfold Ie;cases x.2<;>with_unfolding_all rfl
theorem w_sl{lo hi:Option Ex}:Eo (cSl a lo hi (e::E)) P X=Eo (a (e::E)) (λE x=>Eo (V0 lo E) (λE l=>Eo (V0 hi E) (λE h=>Wo (fSl x l h) E P) X) X) X:=by
 unfold cSl;rw[k4];congr 1;funext E x;rw[k4];congr 1;funext E l;rw[k4];congr 1;funext E h;exact zV
theorem w_idx:Eo (YZ a b (e::E)) P X=Eo (a (e::E)) (λE x=>if isSq x.2=true then Eo (b E) (λE y=>Wo (Zq x.2 y.2) E (λE d=>P E (.dp,d))) X else False) X:=by
 unfold YZ;rw[k4];congr 1;funext E x;cases isSq x.2 with
 |false=>with_unfolding_all rfl
 |true=>
  show Eo (bnd (b E) _) P X=_;rw[k4];rw[Xb rfl]
  congr 1;funext E y;rw[zV];unfold pu2;exact vo_map
theorem w_itS{P:En->List D->Prop}:Eo (itS c (e::E)) P X=Eo (c (e::E)) (λE x=>Wo (seqOf x.2) E P) X:=by
 unfold itS;rw[k4]
 congr 1
 funext E x;exact zV
end
theorem args_nil{e:Option Sd}{E:En}{P:En->List Sd->Prop}{X:XP}:Eo (qQ [] (e::E)) P X=P (e::E) []:=nd (by with_unfolding_all rfl)
theorem args_cons{e:Option Sd}{E:En}{c:Ex}{cs:List Ex}{P:En->List Sd->Prop}{X:XP}:Eo (qQ (c::cs) (e::E)) P X=Eo (c (e::E)) (λE x=>Eo (qQ cs E) (λE xs=>P E (x::xs)) X) X:=by
 show Eo (bnd (c (e::E)) λE x=>bnd (qQ cs E) λE xs=>some (.ok E (x::xs))) P X=_;rw[k4]
 congr 1
 funext E x;rw[k4]
 with_unfolding_all rfl
theorem eo_tup{e:Option Sd}{E:En}{cs:List Ex}{P:En->Sd->Prop}{X:XP}:Eo (k3 .no cs (e::E)) P X=Eo (qQ cs (e::E)) (λE xs=>P E (.no,.tup (xs.map (·.2)))) X:=by
 unfold k3;rw[k4]
 with_unfolding_all rfl
theorem eo_lst{e:Option Sd}{E:En}{cs:List Ex}{P:En->Sd->Prop}{X:XP}:Eo (k5 .rt cs (e::E)) P X=Eo (qQ cs (e::E)) (λE xs=>P E (.rt,.lst (xs.map (·.2)))) X:=by
 unfold k5;rw[k4]
 with_unfolding_all rfl
theorem qwm{c:Ex}{E:En}{P:En->List D->Prop}{X:XP}(h:Eo (c E) (λE x=>∃n:Int,x.2=.int n/\n<=1000/\-1000<=n/\P E (jY 0 n)) X):Eo (v6 c E) P X:=by
 unfold v6;rw[k4];refine h.mono ?_;rintro E ⟨o,d⟩ ⟨n,rfl,h1,h2,h3⟩;have:vJ n=true:=by unfold vJ;rw[Xz (by omega),Xz (by omega)];with_unfolding_all rfl
 show Eo (if vJ n=true/\n.toNat<=big then _ else _) P X;rw[Xb ⟨this,by unfold big;omega⟩]
 with_unfolding_all exact h3
theorem qqr{i:Nat}{c:Ex}{E:En}{o:Own}{xs:List D}{N C:En->Prop}{R:Sd->Prop}{X:XP}(h0:E[i]?=some (some (o,.lst xs)))
  (h:Eo (c E) (λE1 x=>∃o ys,E1[i]?=some (some (o,.lst ys))/\o≠.no/\ys.length<10000/\N (E1.set i (some (if o=.dp/\qJ x then .dp else .rt,.lst (ys++[x.2]))))) X):Po (kY kX i c E) N C R X:=by
 unfold kY;rw[h0,Xb (show Vz (some (some (o,.lst xs)))=true from rfl),VX];refine h.mono ?_;rintro E1 x ⟨o,ys,h1,h2,h3,h4⟩;rw[h1];dsimp only;have hg:kX ys x.2=some (ys++[x.2]):=by unfold kX;rw[Xb (by unfold big;omega)]
 rw[Xj h2,hg]
 with_unfolding_all exact h4
theorem KZ{i:Nat}{c:Ex}{E:En}{xs:List D}{N C:En->Prop}{R:Sd->Prop}{X:XP}(h0:E[i]?=some (some (.rt,.lst xs)))
  (h:Eo (c E) (λE1 x=>∃ys,E1[i]?=some (some (.rt,.lst ys))/\ys.length<10000/\N (E1.set i (some (.rt,.lst (ys++[x.2]))))) X):Po (kY kX i c E) N C R X:=
 qqr h0 (h.mono λE1 x ⟨ys,h1,h2,h3⟩=>⟨.rt,ys,h1,by decide,h2,by rw[Xj (by rintro ⟨z,_⟩;cases z)];with_unfolding_all exact h3⟩)
theorem rng_ok{n:Int}(h1:-1000<=n)(h2:n<=1000):(vJ n=true/\n.toNat<=big)=True:=by
 have:vJ n=true:=by unfold vJ;rw[Xz (by omega),Xz (by omega)];with_unfolding_all rfl
 with_unfolding_all exact eq_true ⟨this,by unfold big;omega⟩
theorem WY{α:Type}{p:Prop}[Decidable p]{a:Option (Res α)}{P:En->α->Prop}{X:XP}:Eo (if p then a else none) P X=(p/\Eo a P X):=by
 by_cases h:p
 ·rw[Xb h];with_unfolding_all exact propext ⟨λz=>⟨h,z⟩,λz=>z.2⟩
 ·rw[Xj h];with_unfolding_all exact propext ⟨λz=>z.elim,λz=>h z.1⟩
theorem w_R1{c:Ex}{e:Option Sd}{E:En}{P:En->List D->Prop}{X:XP}:Eo (v6 c (e::E)) P X=Eo (c (e::E)) (λE x=>Ie x.2 E λE n=>(vJ n=true/\n.toNat<=big)/\P E (jY 0 n)) X:=by
 unfold v6;rw[k4];congr 1;funext E x;cases x.2 with
 |int n=>with_unfolding_all exact WY
 |_=>with_unfolding_all rfl
theorem w_LR1{c:Ex}{e:Option Sd}{E:En}{P:En->Sd->Prop}{X:XP}:Eo (V9 c (e::E)) P X=Eo (c (e::E)) (λE x=>Ie x.2 E λE n=>(vJ n=true/\n.toNat<=big)/\P E (.rt,.lst (jY 0 n))) X:=by
 unfold V9;rw[k4];congr 1;funext E x;cases x.2 with
 |int n=>with_unfolding_all exact WY
 |_=>with_unfolding_all rfl
theorem lst_dp0{e:Option Sd}{E:En}{P:En->Sd->Prop}{X:XP}:Eo (k5 .dp [] (e::E)) P X=P (e::E) (.dp,.lst []):=nd (by with_unfolding_all rfl)
theorem kz7{E:En}{ys:List Sd}{P:En->Sd->Prop}{X:XP}(h:ys.all qJ=true):Eo (mkL .dp E ys) P X=P E (.dp,.lst (ys.map (·.2))):=by
 unfold mkL;rw[Xb rfl,Xb h];with_unfolding_all rfl
theorem V6{o:Own}{xs:List D}{lo hi:Option Int}(h:o≠.dp):fSl (o,.lst xs) lo hi=some (.rt,.lst (xX xs lo hi)):=by
 show(if qv (o,.lst xs)then _ else _)=_;rw[Xb (by cases o<;>simp_all [qv])]
theorem sub_no:sub .no=.no:=nd (by with_unfolding_all rfl)
theorem sub_rt:sub .rt=.no:=nd (by with_unfolding_all rfl)
theorem sub_dp:sub .dp=.dp:=nd (by with_unfolding_all rfl)
theorem Oo.use{ι:Sort _}{f:Fn}{xs:List Sd}{g:ι->Sd}{S:ι->Prop}{E:En}{P:En->Sd->Prop}{X:XP}(h:Oo f xs (λy=>∃i,y=g i/\S i) X)(k:∀i,S i->P E (g i)):Oe f xs E P X:=h.mono λy ⟨i,e,s⟩=>e▸k i s
theorem Oo.via{f:Fn}{xs:List Sd}{S:Sd->Prop}{E:En}{P:En->Sd->Prop}{X:XP}(h:Oo f xs S X)(k:∀y,S y->P E y):Oe f xs E P X:=h.mono k
theorem xJ{E:En}{ys:List Sd}{P:En->Sd->Prop}{X:XP}:Eo (mkL .rt E ys) P X=P E (.rt,.lst (ys.map (·.2))):=nd (by with_unfolding_all rfl)
theorem qzp{i:Nat}{c:Ex}{E:En}{o:Own}{xs:List D}{P:En->Sd->Prop}{X:XP}(h0:E[i]?=some (some (o,.lst xs)))
  (h:Eo (c E) (λE1 x=>∃(o:Own) (ys:List D) (k:Int) (d:D),E1[i]?=some (some (o,.lst ys))/\o≠.no/\x.2=.int k/\0<=k/\k<=1000/\ys[k.toNat]?=some d/\d.pure=true/\P (E1.set i (some (o,.lst (ys.eraseIdx k.toNat)))) (.dp,d)) X):Eo (W6 i c E) P X:=by
 unfold W6;rw[h0,Xb (show Vz (some (some (o,D.lst xs)))=true from rfl),k4];refine h.mono ?_;rintro E1 ⟨o',d'⟩ ⟨o,ys,k,d,h1,h2,e,k0,k1,h3,h4,h5⟩;have e:d'=.int k:=e;subst e;have hl:k.toNat<ys.length:=(List.getElem?_eq_some_iff.mp h3).1;have hx:ixN ys.length k=some k.toNat:=by unfold ixN;rw[Xb k0,Xb (by omega)]
 have hs:vJ k=true:=by unfold vJ;rw[Xz (by omega),Xz (by omega)];with_unfolding_all rfl
 rw[h1];dsimp only;rw[Xj h2,hx];dsimp only;rw[h3];dsimp only;rw[h4,hs,Xb (by decide),W3];exact h5
section
variable {a b c kc vc:Ex}{e:Option Sd}{E:En}{X:XP}{N C:En->Prop}{R:Sd->Prop}{P:En->Sd->Prop}
theorem qxl{z:Str}:Eo (Zx z c (e::E)) P X=Eo (c (e::E)) (λE x=>Wo (Z4 z x.2) E (λE d=>P E (.dp,d))) X:=by
 unfold Zx;rw[k4];congr 1;funext E x;rw[zV];exact vo_map
end
section
variable {a b c:Ex}{cs:List Ex}{e:Option Sd}{E:En}{X:XP}{N C:En->Prop}{R:Sd->Prop}{P:En->Sd->Prop}{i r:Nat}{p:List Nat}{d:D}{ds:List D}
theorem V1:Eo (K4 c (e::E)) P X=Eo (c (e::E)) (λE x=>Wv x=true/\P E (.dp,x.2)) X:=by
 unfold K4;rw[k4];congr 1;funext E x;rw[WY,W3]
theorem KJ:Eo (k3 .dp cs (e::E)) P X=Eo (qQ cs (e::E)) (λE xs=>xs.all qJ=true/\P E (.dp,.tup (xs.map (·.2)))) X:=by
 unfold k3;rw[k4];congr 1;funext E x;rw[Xb rfl,WY,W3]
theorem vj1(h0:E[i]?=some (some (.dp,d)))(cp:D.at p d=some (.lst ds))(hl:ds.length<10000)(h:Eo (c (E.set i none)) (λE1 x=>x.2.pure=true/\N (E1.set i (some (.dp,D.put (.lst (ds++[x.2])) p d)))) X):Po (sPA i p c E) N C R X:=by
 unfold sPA;rw[h0];dsimp only;rw[cp];dsimp only;rw[Xb (by unfold big;omega),VX];refine h.mono ?_;rintro E1 x ⟨hp,hn⟩;rw[Xb hp,qvu];exact hn
theorem vqo(h0:E[i]?=some (some (.dp,d)))(cp:D.at p d=some (.lst ds))(h:N (E.set i (some (.dp,D.put (.lst []) p d)))):Po (sPC i p E) N C R X:=by
 unfold sPC;rw[h0];dsimp only;rw[cp];dsimp only;rw[qvu];exact h
end
end Q
namespace C
open PySem Q
noncomputable def jqv:Fn:=fn 4
  (j4 (jk 2 (k5 .rt []))
  (j4 (qk (itS (cV 1)) (.n 3) (j4 (kY kX 2 (cF2 (pu2 k7) (vV 0) (vV 3)))
  (jk 0 (cF2 (pu2 vW) (vV 0) (vV 3)))))
  (jQ (cMv 2))))
noncomputable def m__law_signs:Fn:=fn 11
  (j4 (jk 2 (cC (.str "abcdefghijklmnopqrstuvwxyz")))
  (j4 (sTup [3,4,5] (jW jqv [(cV 0),(k5 .rt [(cC (.int 8)),(cC (.int 840)),(cC (.int 8))])]))
  (j4 (jk 4 (cF2 (pu2 k7) (vV 4) (vE (cF2 jz (vV 3) (C9 1)))))
  (j4 (jk 6 (k5 .rt []))
  (j4 (qk (v6 (vV 1)) (.n 7) (j4 (jk 8 (cC (.str "")))
  (j4 (qk (v6 (vE (cF2 jz (vV 3) (C9 1)))) (.n 9) (j4 (jk 10 (cF2 jz (vE (cF2 (pu2 vW) (vV 0) (vE (cF2 jz (C9 53761) (vE (cF2 qY (vE (cF2 qY (C9 26) (vV 9))) (vV 9))))))) (vE (cF2 qY (vE (cF2 qY (vV 7) (vE (cF2 jz (vV 5) (C9 1))))) (vE (cF1 (pu1 vY) (vE (cF2 (pu2 fEq) (vV 9) (vV 4)))))))))
  (jk 8 (cF2 jz (vV 8) (j8 (vV 2) (vE (cF2 (pu2 k7) (vV 10) (C9 26))))))))
  (kY kX 6 (cV 8)))))
  (jQ (cF1 qws (vV 6))))))))
noncomputable def kqs:Fn:=fn 1
  (j4 (sIf (tE (cF2 (pu2 fEq) (vE (cF2 (pu2 k7) (vV 0) (C9 3))) (C9 0))) (jQ (cF2 (pu2 K3) (vE (cF2 (pu2 k7) (vE (cF2 (pu2 vW) (vV 0) (C9 3))) (C9 9))) (C9 4))) qV)
  (jQ (cF2 jz (vE (cF2 (pu2 K3) (vE (cF2 (pu2 k7) (vE (cF2 (pu2 vW) (vV 0) (C9 3))) (vE (cF2 (pu2 K3) (vE (cF2 qY (C9 2) (vE (cF2 (pu2 Wz) (C9 10) (C9 60))))) (C9 1))))) (vE (cF2 (pu2 Wz) (C9 10) (C9 60))))) (C9 1))))
noncomputable def W1(dr:Fn):Fn:=fn 3
  (jQ (cLC .rt 1 [0,1] (v6 (vV 2)) (.n 0) tYes (jW kqs [(jW dr [(cV 1),(cF2 jz (vV 2) (vV 0))])])))
noncomputable def W7:Fn:=fn 5
  (j4 (jk 3 (k5 .rt []))
  (j4 (qk (itS (cH (j8 (vV 0) (C9 3)))) (.n 4) (sIf (tOr (tE (cF2 (f2First fIsNon) (vV 4) (vE (cC .non)))) (tE (cF2 (pu2 fEq) (vV 4) (vE (cC (.str "new")))))) (kY kX 3 (cH (j8 (vE (k5 .rt [(cV 2),(cC .non)])) (vE (cF1 (pu1 vY) (vE (cF2 (f2First fIsNon) (vV 4) (vE (cC .non))))))))) (kY kX 3 (cH (j8 (vV 1) (vV 4))))))
  (jQ (cF1 JX (vV 3)))))
noncomputable def m_read_by:Fn:=fn 8
  (j4 (sIf (tOr (tE (cF2 (f2First fIsNon) (vV 1) (vE (cC .non)))) (tE (cF2 (pu2 V7) (vV 2) (j8 (vV 0) (C9 0))))) (jQ (cC .non)) qV)
  (j4 (jk 4 (cH (j8 (vV 1) (C9 1))))
  (j4 (jk 5 (cH (j8 (j8 (j8 (j8 (vV 0) (C9 1)) (j8 (vV 1) (C9 0))) (C9 2)) (vE (YZ (j8 (vV 0) (C9 0)) (vV 2))))))
  (j4 (jk 6 (cH (j8 (vV 5) (vE (cIf (tE (cF2 (pu2 xQ) (vV 3) (vV 4))) (YZ (vV 4) (vV 3)) (cF1 (pu1 q9) (vV 4)))))))
  (j4 (sIf (tE (cF2 (f2First fIsNon) (vV 6) (vE (cC .non)))) (jQ (cC .non)) qV)
  (j4 (jk 7 (cF2 jz (vV 4) (vE (k3 .no [(cV 3)]))))
  (jQ (k3 .no [(cH (j8 (vV 6) (C9 0))),(cF1 JX (vE (cLC .rt 1 [7] (itS (cH (j8 (vV 6) (C9 1)))) (.n 0) tYes (cH (j8 (vV 1) (vV 0))))))]))))))))
noncomputable def m__law_case:Fn:=fn 8
  (j4 (jk 4 (cF2 (pu2 k7) (j8 (vV 0) (C9 1)) (vE (cF1 (pu1 q9) (vV 1)))))
  (j4 (jk 5 (V9 (vE (cF2 jz (j8 (vV 1) (vV 2)) (vE (cF1 (pu1 vY) (vE (cF2 (pu2 fEq) (vV 3) (j8 (vV 1) (vV 2))))))))))
  (j4 (sIf (tOr (tE (cF2 (pu2 fEq) (j8 (vV 0) (C9 0)) (C9 0))) (tE (cF2 (pu2 fLt) (vE (cF1 (pu1 q9) (vV 5))) (j8 (vV 1) (vV 4))))) (jQ (cC .non)) qV)
  (j4 (jk 6 (k5 .rt []))
  (j4 (qk (itS (cSl (vV 0) (some (C9 2)) (some (vE (cF2 jz (C9 2) (j8 (vV 1) (vV 4))))))) (.n 7) (kY kX 6 (W6 5 (vE (cF2 (pu2 k7) (vV 7) (vE (cF1 (pu1 q9) (vV 5))))))))
  (jQ (k3 .no [(cV 4),(cF1 JX (vV 6))])))))))
noncomputable def m__law_plain(dr:Fn):Fn:=fn 14
  (j4 (jk 3 (jW jqv [(jW dr [(cV 0),(cV 1)]),(cF2 jz (vE (cF2 jz (vE (k5 .rt [(cC (.int 24)),(cC (.int 8)),(cC (.int 8))])) (vE (cF2 qY (vE (k5 .rt [(cC (.int 12))])) (C9 6))))) (vE (cF2 qY (vE (k5 .rt [(cC (.int 2))])) (C9 6))))]))
  (j4 (jk 4 (cH (j8 (vE (k5 .rt [(cF2 jz (C9 1) (vE (cF2 (pu2 k7) (j8 (vV 3) (C9 0)) (C9 4)))),(cC (.int 5)),(cC (.int 6))])) (vE (cF2 qY (vE (cF1 (pu1 vY) (vE (cF2 (pu2 fEq) (j8 (vV 3) (C9 1)) (C9 3))))) (vE (cF2 jz (C9 1) (vE (cF2 (pu2 k7) (j8 (vV 3) (C9 2)) (C9 2))))))))))
  (j4 (jk 5 (cF2 jz (vE (k5 .rt [(cC (.int 0))])) (vE (cLC .rt 1 [3,4] (itR2 (C9 1) (vV 4)) (.n 0) tYes (cF2 (pu2 k7) (j8 (vV 1) (vE (cF2 jz (C9 3) (vV 0)))) (vE (cF2 jz (C9 3) (vE (cF1 (pu1 vY) (vE (zW (vE (cF2 (pu2 fEq) (j8 (vV 1) (C9 2)) (C9 5))) (cF2 (pu2 fLt) (vV 2) (C9 4)))))))))))))
  (j4 (jk 6 (k5 .rt []))
  (j4 (jk 7 (cF2 jz (vV 1) (C9 1)))
  (j4 (qk (v6 (vV 4)) (.n 8) (j4 (jk 9 (k5 .rt []))
  (j4 (qk (v6 (vE (cF1 (pu1 q9) (vV 2)))) (.n 10) (j4 (jk 11 (k5 .rt []))
  (j4 (qk (v6 (vE (cF2 jz (j8 (vV 5) (vV 8)) (C9 1)))) (.n 12) (j4 (jk 13 (jW jqv [(jW dr [(cV 0),(cV 7)]),(k5 .rt [(cC (.int 6)),(cC (.int 60)),(cC (.int 60)),(cC (.int 60)),(cC (.int 60))])]))
  (j4 (jk 7 (cF2 jz (vV 7) (C9 1)))
  (kY kX 11 (jW m__law_case [(cV 13),(cV 5),(cV 8),(cV 12)])))))
  (kY kX 9 (cV 11)))))
  (kY kX 6 (k3 .no [(cH (j8 (vV 5) (vV 8))),(cF2 (pu2 fEq) (j8 (vV 3) (vE (cF2 jz (C9 9) (vV 8)))) (C9 1)),(cV 9)])))))
  (jQ (k3 .no [(k3 .no [(cF1 K6 (vV 2)),(cV 6)]),(cV 7)]))))))))
end C
local macro_rules
 | `(tactic| simp![$ts,*])=>`(tactic| simp(config:={ maxSteps:=1000000,failIfUnchanged:=false,implicitDefEqProofs:=true }) (disch:=omega) only[↓Q.w_seq,↓Q.w_asg,↓Q.w_ret,↓Q.w_pass,↓Q.w_if,↓Q.w_vV,↓Q.w_cV,↓Q.w_cMv,↓Q.w_cC,↓Q.w_vE,↓Q.w_cH,↓Q.w_f1,↓Q.w_f2,↓Q.w_ix,↓Q.w_tE,↓Q.w_tEQ,↓Q.w_tNot,↓Q.w_tAnd,↓Q.w_tOr,↓Q.w_tYes,↓Q.w_cIf,↓Q.w_cAnd,↓Q.w_cOr,↓Q.w_cNotQ,↓Q.w_call,↓Q.w_callB,↓Q.w_partN,↓Q.w_partS,↓Q.w_sl,↓Q.w_idx,↓Q.w_itS,↓Q.w_R1,↓Q.w_LR1,Q.rng_ok,true_and,Q.lst_dp0,↓Q.ie_i,Q.isSq,Q.sl_some,↓Q.andP_bl,↓Q.vo_some,↓Q.vo_map,↓Q.wo_some,↓Q.wo_map,↓Q.args_nil,↓Q.args_cons,↓Q.eo_tup,↓Q.eo_lst,Q.letAll,Q.pu2,Q.pu1,Q.f2First,Q.fIsNon,Q.fNotNon,Q.isNon,List.map_cons,List.map_nil,List.cons_append,List.nil_append,Y0,List.length_nil,X3,Nat.reduceAdd,Nat.reduceSub,List.replicate,List.set_cons_zero,List.set_cons_succ,List.getElem?_cons_zero,List.getElem?_cons_succ,Q.len_l,Q.len_t,Q.lt_ii,Q.gt_ii,Q.le_ii,Q.ge_ii,Q.add_i,Q.sub_i,Q.div_i,Q.mod_i,Q.pow_i,Q.mulT_i,Q.mul_l,Option.map_some,Q.truth,Q.truthQ,Q.D.pure,↓reduceIte,if_true,if_false,ite_true,ite_false,Q.sub_no,Q.sub_rt,Q.sub_dp,Bool.false_eq_true,reduceCtorEq,Bool.not_true,Bool.not_false,Q.Tg.put,Q.setAll,Q.seqOf,Q.lstOf,$ts,*])
namespace C
open Q PySem
abbrev most:Int:=1000*10 ^ 64
abbrev iL(ns:List Int):D:=.lst (ns.map D.int)
def Each(G:D->Sd->Prop):List D->List Sd->Prop
 |[],[]=>True
 |d::ds,y::ys=>G d y/\Each G ds ys
 |_,_=>False
theorem Each.snoc{G:D->Sd->Prop}{d:D}{y:Sd}(h:G d y):∀{ds:List D} {ys:List Sd},Each G ds ys->Each G (ds++[d]) (ys++[y])
 |[],[],_=>⟨h,trivial⟩
 |_::_,_::_,r=>⟨r.1,Each.snoc h r.2⟩
theorem Jv{X:XP}{E:En}{o:Own}{r:List Nat}{it:Ev (List D)}{c:Ex}{P:En->Sd->Prop}(j9:En)(G:D->Sd->Prop)(h0:Eo (it E) (λE1 ds=>r.map (at' E1)=j9/\(∀d∈ds,Eo (c (some (.no,d)::j9)) (λB y=>(∃q,B=q::j9)/\G d y) X)/\∀ys,Each G ds ys->Eo (mkL o (back r j9 (clr r E1)) ys) P X) X):Eo (cLC o 1 r it (.n 0) tYes c E) P X:=by
 refine Vx (λE1 B ka af=>∃ds cf q,ds=cf++ka/\B=q::j9/\Each G cf af/\(∀d∈ds,Eo (c (some (.no,d)::j9)) (λB y=>(∃q,B=q::j9)/\G d y) X)/\∀ys,Each G ds ys->Eo (mkL o (back r j9 (clr r E1)) ys) P X) ?_ ?_ ?_
 ·refine h0.mono λE1 ds ⟨h1,h2,h3⟩=>⟨ds,[],none,rfl,by rw[<-h1];rfl,trivial,h2,h3⟩
 ·rintro E1 B d ka af ⟨ds,cf,q,e,rfl,hE,h2,h3⟩;have hp:(Tg.n 0).put d (q::j9)=some (some (.no,d)::j9):=rfl;rw[hp,vo_some,show tYes (some (Own.no,d)::j9)=some (.ok (some (Own.no,d)::j9) true)from rfl,W3,Xb rfl];refine(h2 d (by rw[e];simp)).mono ?_;rintro B y ⟨⟨q',rfl⟩,hG⟩;exact⟨ds,cf++[d],q',by rw[e];simp,rfl,hE.snoc hG,h2,h3⟩
 ·rintro E1 B af ⟨ds,cf,q,e,rfl,hE,h2,h3⟩;rw[Xr]at e;subst e;exact h3 af hE
theorem jz6{G:D->Sd->Prop}{S:Int->Prop}(hG:∀d y,G d y->∃i,y.2=.int i/\S i):∀{ds:List D} {ys:List Sd},Each G ds ys->∃ps:List Int,ys.map (·.2)=ps.map D.int/\ps.length=ds.length/\∀p∈ps,S p
 |[],[],_=>⟨[],rfl,rfl,λ_ h=>nomatch h⟩
 |d::ds,y::ys,r=>by
  obtain⟨i,e,s⟩:=hG d y r.1;obtain⟨ps,h1,h2,h3⟩:=jz6 hG r.2;exact⟨i::ps,by simp[e,h1],by simp[h2],λp hp=>(List.mem_cons.mp hp).elim (λz=>z▸s) (h3 p)⟩
theorem kxc{n:Int}:jY n n=[]:=by unfold jY;rw[Int.sub_self];rfl
theorem jzr{k n:Int}(h:k<n):jY k n=.int k::jY (k+1) n:=by
 unfold jY;have:(n - k).toNat=(n - (k+1)).toNat+1:=by
  obtain⟨m,hm⟩:=Int.eq_ofNat_of_zero_le (show 0<=n - (k+1)by omega);rw[hm,show n - k=(m+1:Nat)by omega];rfl
 rw[this,List.range_succ_eq_map,List.map_cons,Yh]
 congr 1
 ·simp
 ·apply List.map_congr_left;intro i _;simp only[Function.comp]
  congr 1
  omega
theorem K0{k n:Int}{d:D}{ds:List D}(hk:k<=n)(h:d::ds=jY k n):k<n/\d=.int k/\ds=jY (k+1) n:=by
 by_cases hl:k<n
 ·rw[jzr hl]at h;injection h with h1 h2;exact⟨hl,h1,h2⟩
 ·have:k=n:=by omega
  subst this;rw[kxc]at h;cases h
theorem Q5{k n:Int}(hk:k<=n)(h:[]=jY k n):k=n:=by
 by_cases hl:k<n
 ·rw[jzr hl]at h;cases h
 ·omega
theorem kz8{k n:Int}{d:D}(h:d∈jY k n):∃i:Int,k<=i/\i<n/\d=.int i:=by
 unfold jY at h;obtain⟨j,hj,rfl⟩:=List.mem_map.mp h;have:=List.mem_range.mp hj;exact⟨k+j,by omega,by omega,rfl⟩
theorem kzf{k n:Int}(h:k<=n):((jY k n).length:Int)=n - k:=by
 unfold jY;rw[X3,List.length_range];omega
theorem kvt(z:Str)(i:Int)(h0:0<=i)(h1:i<z.cps.size):∃c:Nat,kw (.str z) (.int i)=some (.str ⟨#[c]⟩):=by
 have:i.toNat<z.cps.toList.length:=by rw[Yc];omega
 refine⟨z.cps.toList[i.toNat],?_⟩;show((ixN z.cps.size i).bind λj=>(z.cps.toList[j]?).map λc=>D.str ⟨#[c]⟩)=_;unfold ixN;rw[Xb h0,Xb h1];show((z.cps.toList[i.toNat]?).map λc=>D.str ⟨#[c]⟩)=_;rw[X1 this];rfl
theorem qjg{o1 o2:Own}{a b:Str}(h:a.cps.size+b.cps.size<=10000):jz (o1,.str a) (o2,.str b)=some (.dp,.str (a++b)):=by
 show(if a.cps.size+b.cps.size<=big then _ else _)=_;rw[Xb (by unfold big;omega)]
theorem kjd(a b:Str):(a++b).cps.size=a.cps.size+b.cps.size:=by
 show(a.cps++b.cps).size=_;exact Array.size_append
theorem kx0:∀(ss:List Str),J9 (ss.map D.str)=some ss
 |[]=>rfl
 |s::ss=>by rw[List.map_cons,J9,kx0 ss];rfl
abbrev sL(ss:List Str):D:=.lst (ss.map D.str)
theorem ixI(ks:List Int)(S:Int->Prop)(hS:∀k∈ks,S k)(i:Int)(h0:0<=i)(h1:i<ks.length):∃v,kw (iL ks) (.int i)=some (.int v)/\S v/\ks[i.toNat]?=some v:=by
 have hl:i.toNat<ks.length:=by omega
 refine⟨ks[i.toNat],Jq h0 (by rw[Xg,X1 hl];rfl),hS _ (Y5 hl),X1 hl⟩
def Gd(n:Int)(g:D):Prop:=g=.str "fresh"\/g=.str "any"\/∃i:Int,0<=i/\i<n/\g=.int i
def Fd(n:Int)(g:D):Prop:=g=.str "new"\/g=.non\/∃i:Int,0<=i/\i<n/\g=.int i
noncomputable def St(own:Int)(d:D):Prop:=∃(z:Str) (g:D) (to:Int) (fs:List D),d=.tup [.str z,g,.int to,.tup fs]/\Gd own g/\(∀f∈fs,Fd own f)/\fs.length<=3
noncomputable def Rm(d:D):Prop:=∃(kp:Int) (gd:Bool) (ss:List D),d=.tup [.int kp,.bl gd,.lst ss]/\0<=kp/\kp<=3/\(∀s∈ss,St kp s)/\ss.length<=14
def Rms(rs:List D):Prop:=1<=rs.length/\rs.length<=4/\∀r∈rs,Rm r
def Rmw(rs:List D):Prop:=1<=rs.length/\rs.length<=12/\∀r∈rs,Rm r
instance {rs:List D}:Coe (Rms rs) (Rmw rs):=⟨λh=>⟨h.1,by have:=h.2.1;omega,h.2.2⟩⟩
noncomputable def Sx(sgs:List Str)(kps:List Int)(d:D):Prop:=∃(z:Str) (g:D) (to:Int) (fs:List D),d=.tup [.str z,g,.int to,.tup fs]/\z∈sgs/\0<=to/\to<kps.length/\(fs.length:Int)=kps.getD to.toNat 0
def At(d:D):Prop:=d=.non\/∃i,d=.int i
theorem Qk{n:Nat}:∀{ks:List D},(∀k∈ks,k.flat n=true)->D.flats n ks=true
 |[],_=>by cases n<;>simp[D.flats]
 |k::ks,h=>by rw[D.flats,h k X5,Qk λe he=>h e (lc9 _ he)];rfl
mutual
theorem VZ:∀{n:Nat} (d:D),d.flat n=true->peq d d=true
 |n,.non,_=>by simp[peq]
 |n,.bl b,_=>by simp[peq]
 |n,.int b,_=>by simp[peq]
 |n,.str b,_=>by simp[peq]
 |0,.tup xs,h=>by simp[D.flat]at h
 |0,.lst xs,h=>by simp[D.flat]at h
 |n+1,.tup xs,h=>by rw[peq];exact peqs_refl xs (by simpa [D.flat]using h)
 |n+1,.lst xs,h=>by rw[peq];exact peqs_refl xs (by simpa [D.flat]using h)
 |n,.dct _,h=>by cases n<;>simp[D.flat]at h
 |n,.obj _ _,h=>by cases n<;>simp[D.flat]at h
theorem peqs_refl:∀{n:Nat} (ds:List D),D.flats n ds=true->peqs ds ds=true
 |_,[],_=>by simp[peqs]
 |n,d::ds,h=>by
  rw[D.flats,Bool.and_eq_true]at h;rw[peqs,VZ d h.1,peqs_refl ds h.2];rfl
end
theorem eq_self{d:D}(h:d.flat 40=true):fEq d d=some (.bl true):=by unfold fEq;rw[h,VZ d h];rfl
theorem qwd{d:D}(h:d.flat 40=true):fNe d d=some (.bl false):=by unfold fNe;rw[h,VZ d h];rfl
noncomputable def fitB(ks:List D)(d g:D):Bool:=match g with
 |.int i=>peq (ks.getD i.toNat .non) d
 |.str s=>if s="fresh" then !ks.any λz=>peq z d else true
 |_=>true
theorem p0(a b:D):kw (.tup [a,b]) (.int 0)=some a:=rfl
theorem p1(a b:D):kw (.tup [a,b]) (.int 1)=some b:=rfl
theorem t0(a b c:D):kw (.tup [a,b,c]) (.int 0)=some a:=rfl
theorem t1(a b c:D):kw (.tup [a,b,c]) (.int 1)=some b:=rfl
theorem t2(a b c:D):kw (.tup [a,b,c]) (.int 2)=some c:=rfl
def vjt(ks:List D)(d f:D):D:=match f with
 |.int i=>ks.getD i.toNat .non
 |.str _=>d
 |_=>.non
theorem Q7{G:D->Sd->Prop}{h:D->D}(hG:∀d y,G d y->y.2=h d):∀{ds:List D} {ys:List Sd},Each G ds ys->ys.map (·.2)=ds.map h
 |[],[],_=>rfl
 |d::ds,y::ys,r=>by rw[List.map_cons,List.map_cons,hG d y r.1,Q7 hG r.2]
abbrev jZ(ss:List Str)(rs:List D):D:=.tup [sL ss,.lst rs]
def vvd(z:Str)(ks:List D)(d s:D):Bool:=match s with
 |.tup [.str w,g,_,_]=>(w==z)&&fitB ks d g
 |_=>false
noncomputable def Yv(p:D->Bool):Nat->List D->List D
 |_,[]=>[]
 |k,s::r=>if p s=true then .int k::Yv p (k+1) r else Yv p (k+1) r
def qje(ks:List D)(d s:D):D:=match s with
 |.tup [_,_,to,.tup fs]=>.tup [to,.tup (fs.map (vjt ks d))]
 |_=>.non
theorem W4{o:Own}{xs:List D}(h:o≠.dp):K6 (o,.lst xs)=some (.rt,.lst xs):=by
 show(if qv (o,.lst xs)then _ else _)=_;rw[Xb (by cases o<;>simp_all [qv])]
theorem WQ{z:Str}{ss:List Str}:V7 (.str z) (sL ss)=some (.bl (!ss.any λw=>w==z)):=by
 show Z8 (.str z) (sL ss)=_;unfold Z8;have:fIn (.str z) (sL ss)=some (.bl (ss.any λw=>w==z)):=by
  show(if(D.str z).flat 30&&D.flats 30 (ss.map D.str)then some (D.bl ((ss.map D.str).any λw=>peq w (.str z)))else none)=_;rw[show(D.str z).flat 30=true from rfl,Qk (ks:=ss.map D.str) (λk hk=>by obtain⟨w,_,rfl⟩:=List.mem_map.mp hk;rfl),List.any_map];rfl
 rw[this];rfl
def wr(x:Int):Int:=if x<=0 then x else x - 10 ^ 60
theorem qkf{p:Int}{ks:List Int}:xQ (.int p) (.tup (ks.map D.int))=some (.bl (ks.any λw=>w==p)):=by
 show(if(D.int p).flat 30&&D.flats 30 (ks.map D.int)then some (D.bl ((ks.map D.int).any λw=>peq w (.int p)))else none)=_;rw[show(D.int p).flat 30=true from rfl,Qk (ks:=ks.map D.int) (λk hk=>by obtain⟨w,_,rfl⟩:=List.mem_map.mp hk;rfl),List.any_map];rfl
def xj(own k:Int):Int:=own+(if k=own then 1 else 0)
noncomputable def Cs(kps:List Int)(b:Int)(c:D):Prop:=c=.non\/∃(to:Int) (fs:List Int),c=.tup [.int to,.tup (fs.map D.int)]/\0<=to/\to<kps.length/\(∀f∈fs,0<=f/\f<b)/\fs.Nodup/\(fs.length:Int)=kps.getD to.toNat 0
theorem kj1{α:Type}:∀{l:List α} {i:Nat} (h:i<l.length),(l[i]::l.eraseIdx i).Perm l
 |a::l,0,h=>List.Perm.refl _
 |a::l,i+1,h=>by
  have:=kj1 (l:=l) (i:=i) (by simpa using h);rw[List.getElem_cons_succ,Yj];exact(List.Perm.swap ..).trans (this.cons a)
theorem kq3{α β:Type}(f:α->β):∀(l:List α) (i:Nat),(l.map f).eraseIdx i=(l.eraseIdx i).map f
 |[],_=>rfl
 |a::l,0=>rfl
 |a::l,i+1=>by rw[List.map_cons,Yj,Yj,List.map_cons,kq3 f l i]
theorem qwq(a b:Int):vY (.bl (a==b))=some (.int (if a=b then 1 else 0)):=by
 by_cases h:a=b
 ·rw[Xb h,show(a==b)=true by simpa using h];rfl
 ·rw[Xj h,show(a==b)=false by simpa using h];rfl
noncomputable def Pr(kps:List Int)(n:Nat)(own:Int)(d:D):Prop:=∃(gd:Bool) (st:List D),d=.tup [.int own,.bl gd,.lst st]/\st.length=n/\∀c∈st,∃cs:List D,c=.lst cs/\(cs.length:Int)=own+1/\∀k:Nat,k<cs.length->∃z,cs[k]?=some z/\Cs kps (xj own k) z
noncomputable def Prs(kps:List Int)(n:Nat)(rs:List D):Prop:=rs.length=kps.length/\∀i:Nat,i<kps.length->∃r,rs[i]?=some r/\Pr kps n (kps.getD i 0) r
theorem kqy{α:Type}{p:α->Bool}:∀{l:List α},l.any p=true->l.findIdx? p=some (l.findIdx p)
 | [],h=>by cases h
 | a::l,h=>by
  rw[List.findIdx?_cons,List.findIdx_cons];cases hp:p a with
  |true=>simp
  |false=>
   rw[List.any_cons,hp,Bool.false_or]at h;rw[kqy h];simp
theorem vjx{α:Type}{p:α->Bool}{l:List α}(h:l.any p=true):l.findIdx p<l.length:=by
 obtain⟨x,hx,hp⟩:=List.any_eq_true.mp h;exact List.findIdx_lt_length_of_exists ⟨x,hx,hp⟩
theorem vv7{α:Type}{p:α->Bool}{l:List α}(h:l.any p=false):l.findIdx p=l.length:=by
 rw[List.findIdx_eq_length];intro x hx;cases hp:p x with
 |false=>rfl
 |true=>rw[List.any_eq_true.mpr ⟨x,hx,hp⟩]at h;cases h
theorem vqz{z:Str}{ss:List Str}(h:(ss.any λw=>w==z)=true):Zq (sL ss) (.str z)=some (.int (ss.findIdx λw=>w==z:Nat)):=by
 show(if(D.str z).flat 30&&D.flats 30 (ss.map D.str)then((ss.map D.str).findIdx? λw=>peq w (.str z)).map λ(j:Nat)=>D.int (j:Int)else none)=_;rw[show(D.str z).flat 30=true from rfl,Qk (ks:=ss.map D.str) (λk hk=>by obtain⟨w,_,rfl⟩:=List.mem_map.mp hk;rfl),List.findIdx?_map];have:ss.findIdx? ((λw=>peq w (.str z))∘D.str)=ss.findIdx? λw=>w==z:=rfl
 rw[this,kqy h];rfl
theorem vv0{p:Int}{ks:List Int}(h:(ks.any λw=>w==p)=true):Zq (.tup (ks.map D.int)) (.int p)=some (.int (ks.findIdx λw=>w==p:Nat)):=by
 show(if(D.int p).flat 30&&D.flats 30 (ks.map D.int)then((ks.map D.int).findIdx? λw=>peq w (.int p)).map λ(j:Nat)=>D.int (j:Int)else none)=_;rw[show(D.int p).flat 30=true from rfl,Qk (ks:=ks.map D.int) (λk hk=>by obtain⟨w,_,rfl⟩:=List.mem_map.mp hk;rfl),List.findIdx?_map];have:ks.findIdx? ((λw=>peq w (.int p))∘D.int)=ks.findIdx? λw=>w==p:=rfl
 rw[this,kqy h];rfl
theorem vkb{a b:List D}(hl:a.length+b.length<=10000):jz (.no,.tup a) (.no,.tup b)=some (.no,.tup (a++b)):=by
 show(if a.length+b.length<=big/\qv (.no,.tup a)/\qv (.no,.tup b)then _ else _)=_;rw[Xb ⟨by unfold big;omega,rfl,rfl⟩]
abbrev iT(ks:List Int):D:=.tup (ks.map D.int)
def Jj(ks:List Int)(p:Int)(f:Int):Int:=(ks++[p]).getD f.toNat 0
noncomputable def qkp(ks:List Int)(p:Int)(c:D):D:=match c with
 |.tup [to,.tup fs]=>.tup [to,.tup (fs.map λf=>match f with|.int i=>.int (Jj ks p i)|_=>.non)]
 |_=>.non
theorem caseD_is{ks fs:List Int}{p to:Int}:qkp ks p (.tup [.int to,iT fs])=.tup [.int to,iT (fs.map (Jj ks p))]:=by
 unfold qkp iT;simp[Yh,Function.comp]
noncomputable def xv(ss:List Str)(st:List D)(ks:List Int)(z:Str)(p:Int):D:=match st[ss.findIdx λw=>w==z]? with
 |some (.lst cs)=>cs.getD (ks.findIdx λw=>w==p) .non
 |_=>.non
noncomputable def Kk(ss:List Str)(st:List D)(ks:List Int)(z:Str)(p:Int):D:=if(ss.any λw=>w==z)=true then qkp ks p (xv ss st ks z p)else .non
noncomputable def Cas(kps:List Int)(n:Nat)(own:Int)(st:List D):Prop:=st.length=n/\∀c∈st,∃cs:List D,c=.lst cs/\(cs.length:Int)=own+1/\∀k:Nat,k<cs.length->∃z,cs[k]?=some z/\Cs kps (xj own k) z
theorem vv8{ks:List Int}{p:Int}:(ks.findIdx λw=>w==p)<=ks.length:=List.findIdx_le_length
theorem qj4{kps:List Int}{ss:List Str}{st:List D}{ks:List Int}{z:Str}(p:Int)(h:Cas kps ss.length ks.length st)(hz:(ss.any λw=>w==z)=true):∃cs,st[ss.findIdx λw=>w==z]?=some (.lst cs)/\(cs.length:Int)=ks.length+1/\cs[ks.findIdx λw=>w==p]?=some (xv ss st ks z p)/\Cs kps (xj ks.length (ks.findIdx λw=>w==p:Nat)) (xv ss st ks z p):=by
 have hj:(ss.findIdx λw=>w==z)<st.length:=by rw[h.1];exact vjx hz
 obtain⟨cs,e,hl,hc⟩:=h.2 st[ss.findIdx λw=>w==z] (Y5 hj);have hg:st[ss.findIdx λw=>w==z]?=some (.lst cs):=by rw[X1 hj,e]
 have fq:=vv8 (ks:=ks) (p:=p);obtain⟨c,e2,hC⟩:=hc (ks.findIdx λw=>w==p) (by omega);have lf:xv ss st ks z p=c:=by unfold xv;rw[hg];dsimp only;rw[X7,e2];rfl
 exact⟨cs,hg,hl,by rw[lf];exact e2,by rw[lf];exact hC⟩
theorem kz6{ks:List Int}{p f:Int}(h0:0<=f)(h1:f<=ks.length):kw (.tup (ks.map D.int++[.int p])) (.int f)=some (.int (Jj ks p f)):=by
 refine ix_t h0 ?_;rw[show ks.map D.int++[D.int p]=(ks++[p]).map D.int by simp,Xg];unfold Jj;rw[X7,X1 (by simp;omega)];rfl
theorem qwy{own:Int}{k:Int}:xj own k<=own+1:=by unfold xj;split<;>omega
theorem qvd{kps:List Int}{ss:List Str}{rs st:List D}{kp gd:D}{ae:Int}{ks:List Int}{z:Str}{p:Int}(h0:0<=ae)(hr:rs[ae.toNat]?=some (.tup [kp,gd,.lst st]))(hc:Cas kps ss.length ks.length st)(hl:ks.length<=1000):
  Oo m_read_by [(.no,jZ ss rs),(.no,.tup [.int ae,iT ks]),(.no,.str z),(.no,.int p)] (λy=>y.2=Kk ss st ks z p) noX:=by
 have hi:kw (.lst rs) (.int ae)=some (.tup [kp,gd,.lst st]):=Jq h0 hr;unfold Kk;cases hz:(ss.any λw=>w==z)with
 | false=>
  unfold m_read_by;refine qX ?_;simp![p0,WQ,hz]
 | true=>
  obtain⟨cs,g1,g2,g3,g4⟩:=qj4 p hc hz;have hx:kw (.lst st) (.int (ss.findIdx λw=>w==z:Nat))=some (.lst cs):=Jq (by omega) (by rw[Y7];exact g1);have hy:kw (.lst cs) (.int (ks.findIdx λw=>w==p:Nat))=some (xv ss st ks z p):=Jq (by omega) (by rw[Y7];exact g3);have i3:=vkb (a:=ks.map D.int) (b:=[.int p]) (by simp;omega);have il:=vqz hz;generalize xv ss st ks z p=c at g4 hy;have fin:∀(to:Int) (fs:List Int) (E:En) (hE:Jw 1 [7] E=none::[some (.no,.tup (ks.map D.int++[.int p]))]) (hb:back [7] [some (Own.no,D.tup (ks.map D.int++[.int p]))] (clr [7] E)=E) (hi:itS (cH (j8 (vV 6) (C9 1))) E=some (.ok E (fs.map D.int))) (P:En->Sd->Prop),(∀f∈fs,0<=f/\f<xj ks.length (ks.findIdx λw=>w==p:Nat))->P E (.rt,.lst ((fs.map (Jj ks p)).map D.int))->Eo (cLC .rt 1 [7] (itS (cH (j8 (vV 6) (C9 1)))) (.n 0) tYes (cH (j8 (vV 1) (vV 0))) E) P noX:=by
   intro to fs E hE hb hi P jp hP;refine Jv [some (.no,.tup (ks.map D.int++[.int p]))] (λf y=>y.2=match f with|.int i=>.int (Jj ks p i)|_=>.non) ?_;rw[hi,W3];refine⟨by have:=hE;unfold Jw at this;simpa using this,λf hf=>?_,λys hy=>?_⟩
   ·obtain⟨i,kf,rfl⟩:=List.mem_map.mp hf;have hb:=qwy (own:=ks.length) (k:=(ks.findIdx λw=>w==p:Nat));have:=jp i kf;simp![kz6 (ks:=ks) (p:=p) (f:=i) this.1 (by omega)];exact⟨⟨_,rfl⟩,trivial⟩
   ·rw[xJ,Q7 (h:=λf=>match f with|.int i=>.int (Jj ks p i)|_=>.non) (λd y h=>h) hy,hb];rw[Yh]at hP ⊢;exact hP
  rw[Xb rfl];cases hp:(ks.any λw=>w==p)with
  | true=>
   have hii:=vv0 hp;unfold m_read_by;refine qX ?_;rcases g4 with rfl|⟨to,fs,rfl,t0',t1',jp,_⟩
   ·simp![p0,p1,WQ,hz,hi,t2,il,hx,qkf,hp,hii,hy];rfl
   ·simp![p0,p1,WQ,hz,hi,t2,il,hx,qkf,hp,hii,hy,i3];refine fin to fs _ rfl rfl rfl _ jp ?_;simp![tup_l (o:=.no) (xs:=(fs.map (Jj ks p)).map D.int) (by decide)];exact caseD_is.symm
  | false=>
   rw[vv7 hp]at hy;unfold m_read_by;refine qX ?_;rcases g4 with rfl|⟨to,fs,rfl,t0',t1',jp,_⟩
   ·simp![p0,p1,WQ,hz,hi,t2,il,hx,qkf,hp,hy];rfl
   ·simp![p0,p1,WQ,hz,hi,t2,il,hx,qkf,hp,hy,i3];refine fin to fs _ rfl rfl rfl _ jp ?_;simp![tup_l (o:=.no) (xs:=(fs.map (Jj ks p)).map D.int) (by decide)];exact caseD_is.symm
inductive DR1 (ns:List Int)(k:Int):En->List D->Prop
 |mk (x:Int) (f:Int) (j:Int) {o3:Own} {o4:Own} {l5:Option Sd} {j9:List D} (h0:0<=x) (h1:x<10000000000) (h2:0<=j) (h3:j<=8) (h4:j9=jY j 8):DR1 ns k [some (.no,iL ns),some (.no,.int k),some (.dp,.int most),some (o3,.int x),some (o4,.int f),l5] j9
noncomputable def Go(rs:List D)(s:D)(w:Str×Int)(k:Nat)(s':D):Prop:=∃(ae:Int) (ks st:List D) (gd:D),s=.tup [.int ae,.tup ks]/\0<=ae/\rs[ae.toNat]?=some (.tup [.int ks.length,gd,.lst st])/\(∀s∈st,St ks.length s)/\(∀k∈ks,At k)/\∃h:k<st.length,D.int k∈Yv (vvd w.1 ks (.int w.2)) 0 st/\s'=qje ks (.int w.2) st[k]
abbrev Lg:=List ((Str×Int)×Nat)
def vki(rs:List D):D->Lg->D->Prop
 |s,[],s'=>s=s'
 |s,x::r,s'=>∃m,Go rs s x.1 x.2 m/\vki rs m r s'
abbrev vvp(L:Lg):List D:=L.map λx=>.int x.2
theorem vqx{a b:Int}:vwi (.int a) (.int b)=some (.int (if b>a then b else a)):=rfl
theorem qj0{xs:List D}{c:Int}(h0:0<=c)(h1:c<=xs.length):xX xs none (some c)=xs.take c.toNat:=by
 unfold xX zY;dsimp only;rw[Xj (by omega),List.drop_zero,Nat.sub_zero,Nat.min_eq_left (Int.toNat_le.mpr h1)]
end C
namespace C
open Q PySem
noncomputable def Ok2(kps:List Int)(s:D):Prop:=s=.non\/∃(ae:Int) (ks:List Int),s=.tup [.int ae,iT ks]/\0<=ae/\ae<kps.length/\(ks.length:Int)=kps.getD ae.toNat 0
noncomputable def Rd(kps:List Int)(ss:List Str)(rs:List D)(s:D)(w:Str×Int)(s':D):Prop:=(s=.non/\s'=.non)\/∃(ae:Int) (ks:List Int) (st:List D) (kp gd:D),s=.tup [.int ae,iT ks]/\0<=ae/\rs[ae.toNat]?=some (.tup [kp,gd,.lst st])/\Cas kps ss.length ks.length st/\ks.length<=3/\s'=Kk ss st ks w.1 w.2
theorem qjr{kps:List Int}{ss:List Str}{rs:List D}{s:D}(w:Str×Int)(hP:Prs kps ss.length rs)(hk:∀p∈kps,0<=p/\p<=3)(h:Ok2 kps s):∃s',Rd kps ss rs s w s'/\Ok2 kps s'/\((ss.any λz=>z==w.1)=false->s'=.non):=by
 rcases h with rfl|⟨ae,ks,rfl,r0,r1,hl⟩
 ·exact⟨.non,.inl ⟨rfl,rfl⟩,.inl rfl,λ_=>rfl⟩
 ·obtain⟨r,er,gd,st,rfl,fb,bq⟩:=hP.2 ae.toNat (by omega);have hk3:=hk (kps.getD ae.toNat 0) (by rw[X7,X1 (by omega)];exact Y5 _);have mi:Cas kps ss.length ks.length st:=⟨fb,by rw[hl];exact bq⟩;refine⟨Kk ss st ks w.1 w.2,.inr ⟨ae,ks,st,_,_,rfl,r0,er,mi,by omega,rfl⟩,?_,λhz=>?_⟩
  ·unfold Kk;cases hz:(ss.any λz=>z==w.1)with
   |false=>exact .inl rfl
   |true=>
    obtain⟨cs,g1,g2,g3,g4⟩:=qj4 w.2 mi hz;rw[Xb rfl];rcases g4 with e|⟨to,fs,e,t0,t1,_,_,iy⟩
    ·rw[e];exact .inl rfl
    ·rw[e,caseD_is];exact .inr ⟨to,_,rfl,t0,t1,by rw[X3];exact iy⟩
  ·unfold Kk;rw[hz];rfl
theorem qjq{kps:List Int}{ss:List Str}{rs:List D}{s s':D}{w:Str×Int}(h:Rd kps ss rs s w s'):Oo m_read_by [(.no,jZ ss rs),(.no,s),(.no,.str w.1),(.no,.int w.2)] (λy=>y.2=s') noX:=by
 rcases h with⟨rfl,rfl⟩|⟨ae,ks,st,kp,gd,rfl,r0,er,hc,hl,rfl⟩
 ·unfold m_read_by;refine qX ?_;simp![]
 ·exact qvd r0 er hc (by omega)
abbrev Lw:=List (Str×Int)
noncomputable def Ch2(kps:List Int)(ss:List Str)(rs:List D):D->Lw->D->Prop
 |s,[],s'=>s=s'
 |s,x::r,s'=>∃m,Rd kps ss rs s x m/\Ch2 kps ss rs m r s'
abbrev xx(L:Lw):List D:=L.map λw=>.tup [.str w.1,.int w.2]
abbrev st0:D:=.tup [.int 0,iT []]
noncomputable def kx3:Fn:=fn 5
  (j4 (jk 2 (k3 .no [(cC (.int 0)),(k3 .no [])]))
  (j4 (qk (itS (cV 1)) (.t [3,4]) (jk 2 (jW m_read_by [(cV 0),(cV 2),(cV 3),(cV 4)])))
  (jQ (cMv 2))))
noncomputable def plets:Fn:=fn 3
  (j4 (jk 2 (jW kx3 [(cV 0),(cV 1)]))
  (jQ (zW (vE (cF2 (f2First fNotNon) (vV 2) (vE (cC .non)))) (cH (j8 (j8 (j8 (vV 0) (C9 1)) (j8 (vV 2) (C9 0))) (C9 1))))))
theorem kx2{kps:List Int}{ss:List Str}{rs:List D}{L:Lw}{s:D}(hc:Ch2 kps ss rs st0 L s):Oo kx3 [(.no,jZ ss rs),(.no,.lst (xx L))] (λy=>y.2=s) noX:=by
 unfold kx3;refine qX ?_;simp![];refine x8 (λE j9=>∃(L2:Lw) (m:D) (o1 o2:Own) (l3 l4:Option Sd),E=[some (.no,jZ ss rs),some (o1,.lst (xx L)),some (o2,m),l3,l4]/\j9=xx L2/\Ch2 kps ss rs m L2 s) ?_ ?_ ?_
 ·simp![];exact⟨L,_,_,_,_,_,rfl,rfl,hc⟩
 ·rintro E d ds ⟨L2,m,o1,o2,l3,l4,rfl,hr,cj⟩;cases L2 with
  |nil=>cases hr
  |cons x L2=>
   have hr:d::ds=.tup [.str x.1,.int x.2]::xx L2:=hr;injection hr with e1 e2;subst e1 e2;obtain⟨m',h1,h2⟩:=cj;simp![];refine(qjq h1).via ?_;intro y hy;obtain⟨o,d⟩:=y;have hy:d=m':=hy;subst hy;simp![];exact⟨L2,_,_,_,_,_,rfl,rfl,h2⟩
 ·rintro E ⟨L2,m,o1,o2,l3,l4,rfl,hr,cj⟩;have:L2=[]:=by cases L2 with
   |nil=>rfl
   |cons=>cases hr
  subst this;simp![];exact cj
noncomputable def goodD(rs:List D)(s:D):Bool:=match s with
 |.tup [.int ae,_]=>(match rs[ae.toNat]? with
  |some (.tup [_,.bl b,_])=>b
  |_=>false)
 |_=>false
theorem qwo{kps:List Int}{n:Nat}{rs:List D}{ae:Int}{kd:D}(hP:Prs kps n rs)(r0:0<=ae)(r1:ae<kps.length):∃kp st,kw (.lst rs) (.int ae)=some (.tup [kp,.bl (goodD rs (.tup [.int ae,kd])),st]):=by
 obtain⟨r,er,gd,st,rfl,fb,bq⟩:=hP.2 ae.toNat (by omega);have hg:goodD rs (.tup [.int ae,kd])=gd:=by unfold goodD;dsimp only;rw[er]
 exact⟨.int (kps.getD ae.toNat 0),.lst st,Jq r0 (by rw[hg];exact er)⟩
theorem kze{kps:List Int}{ss:List Str}{rs:List D}{L:Lw}{s:D}(hP:Prs kps ss.length rs)(hc:Ch2 kps ss rs st0 L s)(hok:Ok2 kps s):Oo plets [(.no,jZ ss rs),(.no,.lst (xx L))] (λy=>y.2=.bl (goodD rs s)) noX:=by
 unfold plets;refine qX ?_;simp![];refine(kx2 hc).via ?_;intro y hy;obtain⟨o,d⟩:=y;have hy:d=s:=hy;subst hy;rcases hok with rfl|⟨ae,ks,rfl,r0,r1,hl⟩
 ·simp![];rfl
 ·obtain⟨kp,st,hix⟩:=qwo (kd:=iT ks) hP r0 r1;cases o with
  |no=>simp![p0,p1,t1,hix]
  |rt=>simp![p0,p1,t1,hix]
  |dp=>simp![p0,p1,t1,hix]
end C
namespace C
open Q PySem
noncomputable section
def VW(K:List D)(d:D):List D:=if d∈K then K else K++[d]
def W5:D->List D
 |.tup [_,.tup ks]=>ks
 |_=>[]
noncomputable def vvs(rs:List D):D->List D
 |.tup [.int r,_]=>(match rs.getD r.toNat .non with
  |.tup [_,_,.lst st]=>st
  |_=>[])
 |_=>[]
noncomputable def vv4(rs:List D):D->Bool
 |.tup [.int r,_]=>(match rs.getD r.toNat .non with
  |.tup [_,.bl b,_]=>b
  |_=>false)
 |_=>false
def bh(ks st:List D)(p:Int):D->D
 |.int k=>qje ks (.int p) (st.getD k.toNat .non)
 |_=>.non
noncomputable def qk8(rs:List D)(w:Str×Int)(s:D):List D:=(Yv (vvd w.1 (W5 s) (.int w.2)) 0 (vvs rs s)).map (bh (W5 s) (vvs rs s) w.2)
def vq5(rs:List D)(w:Str×Int)(K:List D):List D:=(K.flatMap (qk8 rs w)).foldl VW []
def vvt(rs:List D):List (Str×Int)->List D->List D
 |[],K=>K
 |w::ws,K=>vvt rs ws (vq5 rs w K)
end
noncomputable def SokV(kps:List Int)(V:List D)(s:D):Prop:=∃(ae:Int) (ks:List D),s=.tup [.int ae,.tup ks]/\0<=ae/\ae<kps.length/\(ks.length:Int)=kps.getD ae.toNat 0/\(∀k∈ks,At k)/\∀k∈ks,k∈V
def Kin(kps:List Int)(V K:List D):Prop:=K.Nodup/\∀s∈K,SokV kps V s
abbrev Kvs:=List (D×D)
abbrev Lws:=List (Str×Int)
noncomputable def Wd(rs:List D)(s0:D)(pre:List (Str×Int))(ai:List (D×D)):Prop:=∀e∈ai,∃L:Lg,e.2=.lst (vvp L)/\L.map (·.1)=pre/\vki rs s0 L e.1
inductive WO1 (ss:List Str)(rs V:List D)(kps:List Int)(s0:D)(pre:Lws)(ai:Kvs)(z:Str)(p:Int):En->List D->Prop
 |mk (jm:Kvs) (lw:Kvs) (kv:Kvs) {l5:Option Sd} {l6:Option Sd} {l7:Option Sd} {l8:Option Sd} {j9:List D} (h0:j9=lw.map (λe=>D.tup [e.1,e.2])) (h1:ai=jm++lw) (h2:kv.map (·.1)=((jm.map (·.1)).flatMap (qk8 rs (z,p))).foldl VW []) (h3:Kin kps V (kv.map (·.1))) (h4:Wd rs s0 (pre++[(z,p)]) kv):WO1 ss rs V kps s0 pre ai z p [some (.no,jZ ss rs),some (.no,.dct ai),some (.no,.str z),some (.no,.int p),some (.rt,.dct kv),l5,l6,l7,l8] j9
inductive WO2 (ss:List Str)(rs V:List D)(kps:List Int)(s0:D)(pre:Lws)(ai:Kvs)(z:Str)(p:Int)(ae:Int)(ks st:List D)(L:Lg)(jm:Kvs):En->List D->Prop
 |mk (f1:List D) (kv:Kvs) {l7:Option Sd} {l8:Option Sd} {j9:List D} (h0:Yv (vvd z ks (.int p)) 0 st=f1++j9) (h1:kv.map (·.1)=(f1.map (bh ks st p)).foldl VW (((jm.map (·.1)).flatMap (qk8 rs (z,p))).foldl VW [])) (h2:Kin kps V (kv.map (·.1))) (h3:Wd rs s0 (pre++[(z,p)]) kv):WO2 ss rs V kps s0 pre ai z p ae ks st L jm [some (.no,jZ ss rs),some (.no,.dct ai),some (.no,.str z),some (.no,.int p),some (.rt,.dct kv),some (.no,.tup [.int ae,.tup ks]),some (.no,.lst (vvp L)),l7,l8] j9
abbrev rwD(ws:List (Str×Int)):List D:=ws.map λw=>.tup [.str w.1,.int w.2]
inductive WB1 (ss:List Str)(rs:List D)(s0:D)(ws:Lws):En->List D->Prop
 |mk (w1:Lws) (w2:Lws) (kv:Kvs) {l3:Option Sd} {l4:Option Sd} {j9:List D} (h0:j9=rwD w2) (h1:ws=w1++w2) (h2:kv.map (·.1)=vvt rs w1 [s0]) (h3:Wd rs s0 w1 kv):WB1 ss rs s0 ws [some (.no,jZ ss rs),some (.no,.lst (rwD ws)),some (.rt,.dct kv),l3,l4,none,none] j9
inductive WB2 (ss:List Str)(rs:List D)(ws:Lws)(kv:Kvs):En->List D->Prop
 |mk (jm:Kvs) (lw:Kvs) {o2:Own} {l3:Option Sd} {l4:Option Sd} {l5:Option Sd} {l6:Option Sd} {j9:List D} (h0:j9=lw.map (λe=>D.tup [e.1,e.2])) (h1:kv=jm++lw) (h2:(jm.map (·.1)).any (vv4 rs)=false):WB2 ss rs ws kv [some (.no,jZ ss rs),some (.no,.lst (rwD ws)),some (o2,.dct kv),l3,l4,l5,l6] j9
noncomputable section
end
end C
namespace B
open Q PySem C
abbrev Sn:=Option (Int×List Int)
def nms:Sn->List Int
 |none=>[]
 |some p=>p.2
def held(o t:List Int):List Int:=o++t.filter λn=>!(o.any λw=>w==n)
theorem eqi{a b:Int}{k:Bool}(h:(a==b)=k):fEq (.int a) (.int b)=some (.bl k):=by rw[<-h];rfl
theorem qz3(k:Int):jY 0 k=(((List.range k.toNat).map λ(i:Nat)=>(i:Int)).map D.int):=by
 unfold jY;rw[Yh,Int.sub_zero];refine List.map_congr_left λi _=>?_
 show D.int (0+(i:Int))=D.int i;rw[Int.zero_add]
end B
namespace B
open PySem Q
noncomputable def m__law_cell_at:Fn:=fn 2
  (j4 (sIf (tE (cF2 (pu2 fLt) (vV 1) (vE (cF1 (pu1 q9) (vV 0))))) (jQ (cH (j8 (vV 0) (vV 1)))) qV)
  (jQ (cC (.int 0))))
noncomputable def m__law_whole:Fn:=fn 1
  (jQ (zW (vE (cF1 (pu1 (k9 "int")) (vV 0))) (Wq (vE (cF1 (pu1 (k9 "bool")) (vV 0))))))
noncomputable def m__law_stream:Fn:=fn 5
  (j4 (jk 2 (k5 .rt []))
  (j4 (sIf (tE (cF2 (pu2 fEq) (vE (cF2 (pu2 k7) (vV 0) (C9 2))) (C9 1))) (j4 (jk 0 (cF2 (pu2 vW) (vV 0) (C9 2)))
  (j4 (qk (v6 (vV 1)) (.n 3) (j4 (kY kX 2 (cF2 (pu2 k7) (vV 0) (C9 2147483647)))
  (jk 0 (cF2 (pu2 vW) (vV 0) (C9 2147483647)))))
  (jQ (cMv 2)))) qV)
  (j4 (jk 4 (cF2 jz (vE (cF2 (pu2 k7) (vE (cF2 (pu2 vW) (vV 0) (C9 2))) (C9 2147483647))) (C9 48271)))
  (j4 (qk (v6 (vE (cF2 jz (vV 1) (C9 1)))) (.n 3) (j4 (jk 4 (cF2 (pu2 k7) (vE (cF2 jz (vE (cF2 jz (vE (cF2 qY (vV 4) (vV 4))) (vE (cF2 qY (C9 48271) (vV 4))))) (vV 3))) (C9 2147483647)))
  (kY kX 2 (cF2 (pu2 k7) (vE (cF2 jz (vE (cF2 qY (vV 4) (C9 40692))) (vE (cF2 qY (C9 7) (vV 3))))) (C9 2147483399)))))
  (jQ (cSl (vV 2) (some (C9 1)) none))))))
noncomputable def m__law_signs:Fn:=fn 7
  (j4 (jk 1 (cC (.str "abcdefghijklmnopqrstuvwxyz")))
  (j4 (jk 2 (jW m__law_stream [(cV 0),(cC (.int 9))]))
  (j4 (jk 3 (Zx "" (vE (cLC .rt 1 [1] (itS (cSl (vV 2) none (some (vE (cF2 jz (C9 1) (vE (cF2 (pu2 k7) (vV 0) (C9 8)))))))) (.n 0) tYes (cH (j8 (vV 1) (vE (cF2 (pu2 k7) (vV 0) (C9 26)))))))))
  (j4 (jk 4 (cF2 (pu2 k7) (vE (cF2 (pu2 vW) (vV 0) (C9 8))) (vE (cF1 (pu1 q9) (vV 3)))))
  (j4 (jk 5 (k5 .rt []))
  (j4 (qk (v6 (j8 (vE (k5 .rt [(cC (.int 1)),(cC (.int 2)),(cC (.int 1)),(cC (.int 2)),(cC (.int 2)),(cC (.int 1)),(cC (.int 2)),(cC (.int 3))])) (vE (cF2 (pu2 k7) (vE (cF2 (pu2 vW) (vV 0) (C9 64))) (C9 8))))) (.n 6) (kY kX 5 (cF2 jz (vE (cF2 jz (vE (cSl (vV 3) none (some (vV 4)))) (j8 (vV 1) (vE (cF2 jz (vE (cF2 (pu2 k7) (j8 (vV 2) (C9 8)) (C9 24))) (vV 6)))))) (vE (cSl (vV 3) (some (vE (cF2 jz (vV 4) (C9 1)))) none)))))
  (jQ (cMv 5))))))))
noncomputable def m__law_fills:Fn:=fn 6
  (j4 (jk 3 (V9 (vV 2)))
  (j4 (jk 4 (k5 .rt []))
  (j4 (qk (v6 (vV 1)) (.n 5) (j4 (kY kX 4 (W6 3 (vE (cF2 (pu2 k7) (vV 0) (vE (cF1 (pu1 q9) (vV 3)))))))
  (jk 0 (cF2 jz (vE (cF2 (pu2 vW) (vV 0) (C9 7))) (vE (cF2 qY (C9 5) (vV 5)))))))
  (jQ (cF1 JX (vV 4))))))
noncomputable def m__law_case:Fn:=fn 5
  (j4 (sIf (tE (cF2 (pu2 fEq) (vE (cF2 (pu2 k7) (vV 0) (C9 5))) (C9 4))) (jQ (cC .non)) qV)
  (j4 (jk 3 (cLC .rt 1 [1,2] (v6 (vE (cF1 (pu1 q9) (vV 1)))) (.n 0) (tE (cF2 (pu2 fLe) (j8 (vV 1) (vV 0)) (vV 2))) (cV 0)))
  (j4 (jk 4 (cH (j8 (vV 3) (vE (cF2 (pu2 k7) (vE (cF2 (pu2 vW) (vV 0) (C9 5))) (vE (cF1 (pu1 q9) (vV 3))))))))
  (jQ (k3 .no [(cV 4),(jW m__law_fills [(cF2 (pu2 vW) (vV 0) (C9 35)),(cH (j8 (vV 1) (vV 4))),(cV 2)])])))))
noncomputable def m__law_plain:Fn:=fn 13
  (j4 (jk 2 (jW m__law_stream [(cV 0),(cC (.int 90))]))
  (j4 (jk 3 (cH (j8 (vE (k5 .rt [(cC (.int 1)),(cC (.int 2)),(cC (.int 3)),(cC (.int 4)),(cC (.int 5)),(cC (.int 2)),(cC (.int 4)),(cC (.int 6))])) (vE (cF2 (pu2 k7) (j8 (vV 2) (C9 0)) (C9 8))))))
  (j4 (jk 4 (cC (.int 2)))
  (j4 (sIf (tAnd (tE (cF2 (pu2 fEq) (vV 3) (C9 3))) (tE (cF2 (pu2 fEq) (vE (cF2 (pu2 k7) (j8 (vV 2) (C9 1)) (C9 3))) (C9 0)))) (jk 4 (cC (.int 3))) qV)
  (j4 (jk 5 (cF2 jz (vE (k5 .rt [(cC (.int 0))])) (vE (cLC .rt 1 [2,4] (v6 (vE (cF2 (pu2 K3) (vV 3) (C9 1)))) (.n 0) tYes (cF2 (pu2 k7) (vE (cF2 (pu2 vW) (j8 (vV 1) (vE (cF2 jz (C9 1) (vV 0)))) (C9 3))) (vE (cF2 jz (vV 2) (C9 1))))))))
  (j4 (jk 6 (k5 .rt []))
  (j4 (jk 7 (cC (.int 8)))
  (j4 (qk (v6 (vV 3)) (.n 8) (j4 (jk 9 (k5 .rt []))
  (j4 (qk (v6 (vE (cF1 (pu1 q9) (vV 1)))) (.n 10) (j4 (jk 11 (k5 .rt []))
  (j4 (qk (v6 (vE (cF2 jz (j8 (vV 5) (vV 8)) (C9 1)))) (.n 12) (j4 (kY kX 11 (jW m__law_case [(cH (j8 (vV 2) (vV 7))),(cV 5),(cF2 jz (j8 (vV 5) (vV 8)) (vE (cF1 (pu1 vY) (vE (cF2 (pu2 fEq) (vV 12) (j8 (vV 5) (vV 8)))))))]))
  (jk 7 (cF2 jz (vV 7) (C9 1)))))
  (kY kX 9 (cV 11)))))
  (j4 (kY kX 6 (k3 .no [(cH (j8 (vV 5) (vV 8))),(cF2 (pu2 fEq) (vE (cF2 (pu2 k7) (j8 (vV 2) (vV 7)) (C9 2))) (C9 0)),(cV 9)]))
  (jk 7 (cF2 jz (vV 7) (C9 1)))))))
  (jQ (k3 .no [(cF1 K6 (vV 1)),(cV 6)]))))))))))
end B
namespace B
open Q PySem C
theorem oo_det{f:Fn}{xs:List Sd}{P:Sd->Prop}(h:Oo f xs P noX):∃y,P y/\Oo f xs (λy'=>y'=y) noX:=by
 unfold Oo at h ⊢;cases hf:f xs with
 |none=>rw[hf]at h;exact absurd (show False by with_unfolding_all exact h) id
 |some r=>
  rw[hf]at h;cases r with
  |ok E y=>exact⟨y,by with_unfolding_all exact h,by with_unfolding_all exact rfl⟩
  |exc E c=>exact absurd (show False by with_unfolding_all exact h) id
def cellAt(ns:List Int)(k:Nat):Int:=ns.getD k 0
theorem cell_ok(ns:List Int)(k:Nat)(hn:ns.length<=10000):Oo m__law_cell_at [(.no,iL ns),(.no,.int k)] (λy=>∃o':Own,y=(o',.int (cellAt ns k))/\True) noX:=by
 unfold m__law_cell_at;refine qX ?_;simp![]
 by_cases h:(k:Int)<ns.length
 ·have hx:kw (iL ns) (.int k)=some (.int (cellAt ns k)):=by
   refine Jq (by omega) ?_;unfold cellAt;rw[Y7,Xg,X1 (by omega),X7,X1 (by omega)];rfl
  have hd:decide ((k:Int)<ns.length)=true:=Xz h;rw[Xb hd];simp![hx];exact⟨_,rfl,trivial⟩
 ·have hd:¬decide ((k:Int)<ns.length)=true:=by rw[Y9 h];decide
  rw[Xj hd];refine⟨.dp,?_,trivial⟩;rw[show cellAt ns k=0 by unfold cellAt;rw[X7,List.getElem?_eq_none (by omega)];rfl]
theorem whole_int(i:Int):Oo m__law_whole [(.no,.int i)] (λy=>∃o':Own,y=(o',.bl true)/\True) noX:=by
 unfold m__law_whole;refine qX ?_;simp![show k9 "int" (.int i)=some (.bl true)from rfl,show k9 "bool" (.int i)=some (.bl false)from rfl];exact⟨_,rfl,trivial⟩
def St(n:Int)(xs:List Int):Prop:=(xs.length:Int)=n/\∀x∈xs,0<=x/\x<2147483647
theorem kkd(c n:Int)(hn:0<=n)(hn2:n<=100):Oo m__law_stream [(.no,.int c),(.no,.int n)] (λy=>∃xs,y=(.rt,iL xs)/\St n xs) noX:=by
 unfold m__law_stream;refine qX ?_
 by_cases h:c % 2=1
 ·have hd:(c % 2==1)=true:=by simp[h]
  simp![eqi hd];refine x8 (λE j9=>∃(j v:Int) (xs:List Int) (l3:Option Sd),E=[some (.dp,.int v),some (.no,.int n),some (.rt,iL xs),l3,none]/\0<=j/\j<=n/\j9=jY j n/\St j xs) ?_ ?_ ?_
  ·simp![];exact⟨0,_,[],_,rfl,by omega,hn,rfl,rfl,λ_ z=>nomatch z⟩
  ·rintro E d ds ⟨j,v,xs,l3,rfl,j0,j1,hr,hx⟩;obtain⟨hj,rfl,rfl⟩:=K0 j1 hr;simp![];refine KZ rfl ?_;simp![];refine⟨_,rfl,by rw[X3];have:=hx.1;omega,?_⟩;simp![];refine⟨j+1,v / 2147483647,xs++[v % 2147483647],some (.no,.int j),by simp,by omega,by omega,rfl,by have:=hx.1;simp;omega,λx hm=>?_⟩;rcases List.mem_append.mp hm with z|z
   ·exact hx.2 x z
   ·rw[List.mem_singleton.mp z];omega
  ·rintro E ⟨j,v,xs,l3,rfl,j0,j1,hr,hx⟩;have:=Q5 j1 hr;subst this;simp![];exact⟨xs,rfl,hx⟩
 ·have hd:(c % 2==1)=false:=beq_false_of_ne h;simp![eqi hd];refine x8 (λE j9=>∃(j v:Int) (xs:List Int) (l3:Option Sd),E=[some (.no,.int c),some (.no,.int n),some (.rt,iL xs),l3,some (.dp,.int v)]/\0<=j/\j<=n+1/\j9=jY j (n+1)/\St j xs/\0<=v/\v<4294967296) ?_ ?_ ?_
  ·simp![];exact⟨0,_,[],_,rfl,by omega,by omega,rfl,⟨rfl,λ_ z=>nomatch z⟩,by omega,by omega⟩
  ·rintro E d ds ⟨j,v,xs,l3,rfl,j0,j1,hr,hx,v0,v1⟩;obtain⟨hj,rfl,rfl⟩:=K0 j1 hr;have hm:=mul_l (o1:=.dp) (o2:=.dp) (a:=v) (b:=v) (by omega) (by omega);simp![hm];generalize hw:(v*v+48271*v+j) % 2147483647=u;have u0:0<=u/\u<2147483647:=by rw[<-hw];omega
   have hm2:=mul_l (o1:=.dp) (o2:=.dp) (a:=u) (b:=40692) (by omega) (by omega);refine KZ rfl ?_;simp![hm2];refine⟨_,rfl,by rw[X3];have:=hx.1;omega,?_⟩;refine⟨j+1,u,xs++[(u*40692+7*j) % 2147483399],some (.no,.int j),by simp,by omega,by omega,rfl,⟨by have:=hx.1;simp;omega,λx hm=>?_⟩,by omega,by omega⟩;rcases List.mem_append.mp hm with z|z
   ·exact hx.2 x z
   ·rw[List.mem_singleton.mp z];omega
  ·rintro E ⟨j,v,xs,l3,rfl,j0,j1,hr,hx,v0,v1⟩;have:=Q5 j1 hr;subst this;simp![V6 (o:=.rt) (xs:=xs.map D.int) (lo:=some 1) (hi:=none) (by decide)];have hl:=hx.1;have hcut:xX (xs.map D.int) (some 1) none=(xs.drop 1).map D.int:=by
    unfold xX zY;dsimp only;rw[Xj (by decide),X3,show min (1:Int).toNat xs.length=1 by show min 1 xs.length=1;omega,<-List.map_drop,List.take_of_length_le (by rw[X3,Ym];omega)]
   rw[hcut];exact⟨xs.drop 1,rfl,by rw[Ym];omega,λx hm=>hx.2 x (List.mem_of_mem_drop hm)⟩
theorem kx9(n:Nat):((List.range n).map λ(j:Nat)=>(j:Int)).Nodup:=List.Pairwise.map (λ(j:Nat)=>(j:Int)) (λa b h e=>h (by have:(a:Int)=(b:Int):=e;omega)) List.nodup_range
theorem qkj(x fg free:Int)(h0:0<=fg)(h1:fg<=free)(h2:free<=100):Oo m__law_fills [(.no,.int x),(.no,.int fg),(.no,.int free)] (λy=>∃fs:List Int,y=(.no,.tup (fs.map D.int))/\(fs.length:Int)=fg/\(∀f∈fs,0<=f/\f<free)/\fs.Nodup) noX:=by
 unfold m__law_fills;refine qX ?_;simp![];rw[qz3];refine x8 (λE j9=>∃(j v:Int) (o:Own) (sm fl:List Int) (l5:Option Sd),E=[some (o,.int v),some (.no,.int fg),some (.no,.int free),some (.rt,iL sm),some (.rt,iL fl),l5]/\0<=j/\j<=fg/\j9=jY j fg/\(fl.length:Int)=j/\(sm.length:Int)+fl.length=free/\(fl++sm).Nodup/\∀f∈fl++sm,0<=f/\f<free) ?_ ?_ ?_
 ·simp![];refine⟨0,x,.no,(List.range free.toNat).map λ(j:Nat)=>(j:Int),[],none,rfl,by omega,h0,rfl,rfl,?_,?_,?_⟩
  ·simp;omega
  ·rw[List.nil_append];exact kx9 _
  ·intro f hf;rw[List.nil_append]at hf;obtain⟨j,hj,rfl⟩:=List.mem_map.mp hf;have:=List.mem_range.mp hj;omega
 ·rintro E d ds ⟨j,v,o,sm,fl,l5,rfl,j0,j1,hr,hl,hs,hn,hm⟩;obtain⟨hj,rfl,rfl⟩:=K0 j1 hr;have hsm:0<sm.length:=by omega
  have u0:=Xx v (show(sm.length:Int)≠0 by omega);have u1:=Xl v (show(0:Int)<sm.length by omega);have hi:(v % sm.length).toNat<sm.length:=by omega
  simp![];refine KZ rfl ?_;refine qzp rfl ?_;simp![mod_i (a:=v) (b:=(sm.length:Int)) (by omega)];refine⟨.rt,_,_,.int (sm[(v % sm.length).toNat]),rfl,by decide,rfl,u0,by omega,by rw[Xg,X1 hi];rfl,rfl,?_⟩;simp![];refine⟨_,rfl,by rw[X3];omega,?_⟩;simp![];have pm:(fl++[sm[(v % sm.length).toNat]]++sm.eraseIdx (v % sm.length).toNat).Perm (fl++sm):=by
   rw[Xy];exact List.Perm.append_left fl (kj1 hi)
  refine⟨j+1,v / 7+5*j,.dp,sm.eraseIdx (v % sm.length).toNat,fl++[sm[(v % sm.length).toNat]],some (.no,.int j),?_,by omega,by omega,rfl,?_,?_,pm.nodup_iff.mpr hn,λf hf=>hm f (pm.mem_iff.mp hf)⟩
  ·simp only[iL,Xm,List.map_cons,List.map_nil,kq3]
  ·rw[Xi];simp;omega
  ·rw[List.length_eraseIdx_of_lt hi,Xi];simp;omega
 ·rintro E ⟨j,v,o,sm,fl,l5,rfl,j0,j1,hr,hl,hs,hn,hm⟩;have:=Q5 j1 hr;subst this;simp![Q.tup_l (o:=.rt) (xs:=fl.map D.int) (by decide)];exact⟨fl,rfl,hl,λf hf=>hm f (ll9 _ hf),(List.nodup_append.mp hn).1⟩
theorem qko(x free:Int)(kps:List Int)(hk:∀p∈kps,0<=p/\p<=3)(lm:kps[0]?=some 0)(hl:kps.length<=100)(hf:0<=free)(hf2:free<=100):Oo m__law_case [(.no,.int x),(.no,iL kps),(.no,.int free)] (λy=>Cs kps free y.2) noX:=by
 have ag:0<kps.length:=by
  cases kps with
  | nil=>cases lm
  | cons=>simp
 unfold m__law_case;refine qX ?_
 by_cases h:x % 5=4
 ·have hd:(x % 5==4)=true:=by simp[h]
  simp![eqi hd];exact .inl rfl
 ·have hd:(x % 5==4)=false:=beq_false_of_ne h;simp![eqi hd];refine Vx (λE1 B ds af=>E1=[some (.no,.int x),some (.no,iL kps),some (.no,.int free),none,none]/\∃(j:Int) (q0:Option Sd) (fl:List Int),B=[q0,some (.no,iL kps),some (.no,.int free)]/\0<=j/\j<=kps.length/\ds=jY j kps.length/\af.map (·.2)=fl.map D.int/\(∀t∈fl,0<=t/\t<kps.length/\kps.getD t.toNat 0<=free)/\(0<j->fl≠[])/\(fl.length:Int)<=j) ?_ ?_ ?_
  ·simp![];exact⟨0,none,[],rfl,by omega,by omega,rfl,rfl,λ_ z=>(nomatch z),λz=>absurd z (by omega),by simp⟩
  ·rintro E1 B d ds af ⟨rfl,j,q0,fl,rfl,j0,j1,hr,hacc,iy,cy,fq⟩;obtain⟨hj,rfl,rfl⟩:=K0 j1 hr;have hjl:j.toNat<kps.length:=by omega
   have hx:kw (iL kps) (.int j)=some (.int (kps.getD j.toNat 0)):=Jq j0 (by rw[Xg,X1 hjl,X7,X1 hjl];rfl)
   by_cases hz:kps.getD j.toNat 0<=free
   ·have i8:decide (kps.getD j.toNat 0<=free)=true:=Xz hz;simp![hx,i8];refine⟨j+1,_,fl++[j],rfl,by omega,by omega,rfl,by rw[Xm,Xm,hacc];rfl,λt ht=>?_,λ_=>by simp,by simp;omega⟩;rcases List.mem_append.mp ht with q|q
    ·exact iy t q
    ·rw[List.mem_singleton.mp q];exact⟨j0,by omega,hz⟩
   ·have i8:decide (kps.getD j.toNat 0<=free)=false:=Y9 hz;have hj0:0<j:=by
     rcases Int.lt_or_eq_of_le j0 with q|q
     ·exact q
     ·subst q;exfalso;apply hz;rw[X7];show(kps[0]?).getD 0<=free;rw[lm];exact hf
    simp![hx,i8];exact⟨j+1,_,fl,rfl,by omega,by omega,rfl,hacc,iy,λ_=>cy hj0,by omega⟩
  ·rintro E1 B af ⟨rfl,j,q0,fl,rfl,j0,j1,hr,hacc,iy,cy,fq⟩;have:=Q5 j1 hr;subst this;have hfl0:0<fl.length:=List.length_pos_iff.mpr (cy (by omega));have u0:=Xx (x / 5) (show(fl.length:Int)≠0 by omega);have u1:=Xl (x / 5) (show(0:Int)<fl.length by omega);have hi:(x / 5 % fl.length).toNat<fl.length:=by omega
   obtain⟨t,et⟩:∃t,fl[(x / 5 % fl.length).toNat]?=some t:=⟨_,X1 hi⟩;obtain⟨t0,t1,t2⟩:=iy t (Xs et);have hx:kw (iL fl) (.int (x / 5 % fl.length))=some (.int t):=Jq u0 (by rw[Xg,et];rfl);have htl:t.toNat<kps.length:=by omega
   have hy:kw (iL kps) (.int t)=some (.int (kps.getD t.toNat 0)):=Jq t0 (by rw[Xg,X1 htl,X7,X1 htl];rfl);have hkt:=hk (kps.getD t.toNat 0) (by rw[X7,X1 htl];exact Y5 _);rw[xJ,hacc,show xV 1 [1,2] [q0,some (Own.no,iL kps),some (Own.no,D.int free)] [some (Own.no,D.int x),some (Own.no,iL kps),some (Own.no,D.int free),none,none]=[some (Own.no,D.int x),some (Own.no,iL kps),some (Own.no,D.int free),none,none]from rfl];simp![mod_i (a:=x / 5) (b:=(fl.length:Int)) (by omega),hx,hy];refine(qkj (x / 35) (kps.getD t.toNat 0) free hkt.1 t2 hf2).use ?_;rintro fs ⟨f1,f2,f3⟩;simp![];exact .inr ⟨t,fs,rfl,t0,t1,f2,f3,f1⟩
theorem qvw{m:Option Fl}{N N' C:En->Prop}{R:Sd->Prop}{X:XP}(h:Po m N C R X)(k:∀E,N E->N' E):Po m N' C R X:=by
 cases m with
 |none=>with_unfolding_all exact h
 |some r=>cases r with
  |nx E=>with_unfolding_all exact k E h
  |bk E=>with_unfolding_all exact h
  |ct E=>with_unfolding_all exact h
  |rt E x=>with_unfolding_all exact h
  |xc E c=>with_unfolding_all exact h
theorem kxv{a b:Sm}{E:En}{N C:En->Prop}{R:Sd->Prop}{X:XP}(I:En->Prop)(h1:Po (a E) I C R X)(h2:∀E,I E->Po (b E) N C R X):Po (j4 a b E) N C R X:=by
 rw[qq6];exact qvw h1 h2
theorem plainB_ok(c:Int)(ss:List Str)(hs:1<=ss.length)(ll:ss.length<=3):Oo m__law_plain [(.no,.int c),(.no,sL ss)] (λy=>∃rs,y=(.no,jZ ss rs)/\∃kps:List Int,1<=kps.length/\kps.length<=6/\kps[0]?=some 0/\(∀p∈kps,0<=p/\p<=3)/\Prs kps ss.length rs) noX:=by
 unfold m__law_plain;refine qX ?_;simp![];refine(kkd c 90 (by decide) (by decide)).use ?_;intro xs hx;have hxl:=hx.1;have ix:∀i:Int,0<=i->i<90->∃v:Int,kw (iL xs) (.int i)=some (.int v)/\0<=v:=λi i0 i1=>by
  obtain⟨v,e,h,_⟩:=ixI xs _ hx.2 i i0 (by omega);exact⟨v,e,h.1⟩
 obtain⟨v0,e0,a0⟩:=ix 0 (by decide) (by decide);obtain⟨v1,e1,a1⟩:=ix 1 (by decide) (by decide);have q0:=Xx v0 (show(8:Int)≠0 by decide);have q1:=Xl v0 (show(0:Int)<8 by decide);obtain⟨size,esz,sz0,sz1⟩:∃sz:Int,kw (.lst [.int 1,.int 2,.int 3,.int 4,.int 5,.int 2,.int 4,.int 6]) (.int (v0 % 8))=some (.int sz)/\1<=sz/\sz<=6:=by
  generalize v0 % 8=t at q0 q1;have:t=0\/t=1\/t=2\/t=3\/t=4\/t=5\/t=6\/t=7:=by omega
  rcases this with rfl|rfl|rfl|rfl|rfl|rfl|rfl|rfl<;>exact⟨_,rfl,by decide,by decide⟩
 refine kxv (λE=>E=[some (.no,.int c),some (.no,sL ss),some (.rt,iL xs),some (.no,.int size),none,none,none,none,none,none,none,none,none]) ?_ ?_
 ·simp![e0,esz]
 rintro E rfl;refine kxv (λE=>E=[some (.no,.int c),some (.no,sL ss),some (.rt,iL xs),some (.no,.int size),some (.dp,.int 2),none,none,none,none,none,none,none,none]) ?_ ?_
 ·simp![]
 rintro E rfl;refine kxv (λE=>∃m:Int,E=[some (.no,.int c),some (.no,sL ss),some (.rt,iL xs),some (.no,.int size),some (.dp,.int m),none,none,none,none,none,none,none,none]/\((m=2)\/(m=3/\size=3))) ?_ ?_
 ·by_cases h3:size=3
  ·have hb:(size==3)=true:=by simp[h3]
   by_cases h4:v1 % 3=0
   ·have cn:(v1 % 3==0)=true:=by simp[h4]
    simp![e1,eqi hb,eqi cn];exact⟨3,rfl,.inr ⟨rfl,h3⟩⟩
   ·have cn:(v1 % 3==0)=false:=beq_false_of_ne h4;simp![e1,eqi hb,eqi cn];exact⟨2,rfl,.inl rfl⟩
  ·have hb:(size==3)=false:=beq_false_of_ne h3;simp![eqi hb];exact⟨2,rfl,.inl rfl⟩
 rintro E ⟨m,rfl,hm⟩;have hm0:2<=m/\m<=3:=by rcases hm with rfl|⟨rfl,_⟩<;>omega
 simp![];refine Jv [some (.rt,iL xs),some (.dp,.int m)] (λ_ y=>∃i,y=(.dp,.int i)/\0<=i/\i<=m) ?_;simp![];refine⟨rfl,λd gf=>?_,λys hy=>?_⟩
 ·obtain⟨i,i0,i1,rfl⟩:=kz8 gf;obtain⟨w,ew,aw⟩:=ix (1+i) (by omega) (by omega);have:=Xx (w / 3) (show m+1≠0 by omega);have:=Xl (w / 3) (show 0<m+1 by omega);simp![ew,mod_i (a:=w / 3) (b:=m+1) (by omega)];exact⟨⟨_,rfl⟩,_,rfl,by omega,by omega⟩
 obtain⟨ks,h1,h2,h3⟩:=jz6 (S:=λi=>0<=i/\i<=m) (λd y ⟨i,h,s⟩=>⟨i,by rw[h],s⟩) hy;rw [xJ,h1];simp only[back,clr,at',List.map_cons,List.map_nil,List.set_cons_zero,List.set_cons_succ];have jc:((0::ks).length:Int)=size:=by rw[Y0];have:=kzf (k:=0) (n:=size - 1) (by omega);omega
 have hkm:∀p∈(0::ks:List Int),0<=p/\p<=m:=λp hp=>by
  rcases List.mem_cons.mp hp with rfl|hp
  ·exact⟨by decide,by omega⟩
  ·exact h3 p hp
 have hk3:∀p∈(0::ks:List Int),0<=p/\p<=3:=λp hp=>by have:=hkm p hp;omega
 have i3:jz (.no,.lst [.int 0]) (.no,.lst (ks.map D.int))=some (.rt,iL (0::ks)):=vkc (by decide) (by decide) (by rw[X3];simp at jc ⊢;omega);have lm:(0::ks:List Int)[0]?=some 0:=rfl;simp![i3];generalize (0::ks:List Int)=kps at jc hkm hk3 i3 lm;refine x8 (λE j9=>∃r:Int,∃bw rs l8 l9 fh fv f7 o5 o7,E=[some (.no,.int c),some (.no,sL ss),some (.rt,iL xs),some (.no,.int size),some (.dp,.int m),some (o5,iL kps),some (.rt,.lst rs),some (o7,.int bw),l8,l9,fh,fv,f7]/\sub o5=.no/\0<=r/\r<=size/\j9=jY r size/\(rs.length:Int)=r/\8<=bw/\bw<=8+(3*(m+1)+1)*r/\∀i:Nat,i<rs.length->∃d,rs[i]?=some d/\Pr kps ss.length (kps.getD i 0) d) ?_ ?_ ?_
 ·simp![];exact⟨0,8,[],_,_,_,_,_,_,_,rfl,rfl,by omega,by omega,rfl,rfl,by omega,by omega,λi hi=>nomatch hi⟩
 ·rintro E d ds ⟨r,bw,rs,l8,l9,fh,fv,f7,o5,o7,rfl,hs5,r0,r1,hr,hrl,at0,at1,hrs⟩;obtain⟨hrk,rfl,rfl⟩:=K0 r1 hr;obtain⟨own,eo,⟨ow0,ow1⟩,how⟩:=ixI kps _ hkm r r0 (by omega);simp![];refine x8 (λE j9=>∃s:Int,∃bw st o5 o7 fh fv f7,E=[some (.no,.int c),some (.no,sL ss),some (.rt,iL xs),some (.no,.int size),some (.dp,.int m),some (o5,iL kps),some (.rt,.lst rs),some (o7,.int bw),some (.no,.int r),some (.rt,.lst st),fh,fv,f7]/\sub o5=.no/\0<=s/\s<=ss.length/\j9=jY s ss.length/\(st.length:Int)=s/\8<=bw/\bw<=8+(3*(m+1)+1)*r+(m+1)*s/\∀c∈st,∃cs:List D,c=.lst cs/\(cs.length:Int)=own+1/\∀k:Nat,k<cs.length->∃z,cs[k]?=some z/\Cs kps (xj own k) z) ?_ ?_ ?_
  ·simp![];exact⟨0,bw,[],_,_,_,_,_,rfl,hs5,by omega,by omega,rfl,rfl,by omega,by omega,λc hc=>nomatch hc⟩
  ·rintro E d ds ⟨s,bw,st,o5,o7,fh,fv,f7,rfl,hs5,s0,s1,hr,fb,at0,at1,bq⟩;obtain⟨hsk,rfl,rfl⟩:=K0 s1 hr;simp![];refine x8 (λE j9=>∃k:Int,∃bw cs o5 o7 f7,E=[some (.no,.int c),some (.no,sL ss),some (.rt,iL xs),some (.no,.int size),some (.dp,.int m),some (o5,iL kps),some (.rt,.lst rs),some (o7,.int bw),some (.no,.int r),some (.rt,.lst st),some (.no,.int s),some (.rt,.lst cs),f7]/\sub o5=.no/\0<=k/\k<=own+1/\j9=jY k (own+1)/\(cs.length:Int)=k/\8<=bw/\bw<=8+(3*(m+1)+1)*r+(m+1)*s+k/\∀k:Nat,k<cs.length->∃z,cs[k]?=some z/\Cs kps (xj own k) z) ?_ ?_ ?_
   ·simp![eo,hs5];exact⟨0,bw,[],_,_,_,rfl,hs5,by omega,by omega,rfl,rfl,by omega,by omega,λc hc=>nomatch hc⟩
   ·rintro E d ds ⟨k,bw,cs,o5,o7,f7,rfl,hs5,k0,k1,hr,cw,at0,at1,cb⟩;obtain⟨hkk,rfl,rfl⟩:=K0 k1 hr;have cp:bw<90:=by rcases hm with rfl|⟨rfl,_⟩<;>omega
    obtain⟨w,ew,aw⟩:=ix bw (by omega) cp;have hb1:own+(if k=own then(1:Int)else 0)=xj own k:=rfl;have hB0:0<=xj own k/\xj own k<=4:=by unfold xj;split<;>omega
    simp![];refine KZ rfl ?_;simp![eo,ew,qwt,qwq,hb1,hs5];refine(qko w (xj own k) kps hk3 lm (by omega) hB0.1 (by omega)).via ?_;intro y hy;simp![];refine⟨_,rfl,by omega,k+1,bw+1,cs++[y.2],_,_,_,rfl,rfl,by omega,by omega,rfl,by simp;omega,by omega,by omega,?_⟩;intro j hj;rw[Xi,List.length_singleton]at hj
    by_cases je:j<cs.length
    ·obtain⟨z,z1,z2⟩:=cb j je;exact⟨z,by rw[Y6 je];exact z1,z2⟩
    ·have:j=cs.length:=by omega
     subst this;exact⟨y.2,by simp,by rw[cw];exact hy⟩
   ·rintro E ⟨k,bw,cs,o5,o7,f7,rfl,hs5,k0,k1,hr,cw,at0,at1,cb⟩;have:=Q5 k1 hr;subst this;refine KZ rfl ?_;simp![];refine⟨_,rfl,by omega,s+1,bw,st++[.lst cs],_,_,_,_,_,rfl,hs5,by omega,by omega,rfl,by simp;omega,by omega,by rcases hm with rfl|⟨rfl,_⟩<;>omega,λc hc=>?_⟩;rcases List.mem_append.mp hc with z|z
    ·exact bq c z
    ·rw[List.mem_singleton.mp z];exact⟨cs,rfl,cw,cb⟩
  ·rintro E ⟨s,bw,st,o5,o7,fh,fv,f7,rfl,hs5,s0,s1,hr,fb,at0,at1,bq⟩;have:=Q5 s1 hr;subst this;have cp:bw<90:=by rcases hm with rfl|⟨rfl,_⟩<;>omega
   obtain⟨w,ew,_⟩:=ix bw (by omega) cp;simp![];refine KZ rfl ?_;simp![eo,ew,qwt,hs5];refine⟨_,rfl,by omega,?_⟩;simp![];refine⟨r+1,bw+1,rs++[.tup [.int own,.bl (w % 2==0),.lst st]],_,_,_,_,_,_,_,rfl,hs5,by omega,by omega,rfl,by simp;omega,by omega,by rcases hm with rfl|⟨rfl,_⟩<;>omega,?_⟩;intro j hj;rw[Xi,List.length_singleton]at hj
   by_cases je:j<rs.length
   ·obtain⟨z,z1,z2⟩:=hrs j je;exact⟨z,by rw[Y6 je];exact z1,z2⟩
   ·have:j=rs.length:=by omega
    subst this;refine⟨_,by simp;rfl,?_⟩;have hg:kps.getD rs.length 0=own:=by rw[X7,show rs.length=r.toNat by omega,how];rfl
    rw[hg];exact⟨_,st,rfl,by omega,bq⟩
 ·rintro E ⟨r,bw,rs,l8,l9,fh,fv,f7,o5,o7,rfl,hs5,r0,r1,hr,hrl,at0,at1,hrs⟩;have:=Q5 r1 hr;subst this;simp![W4 (o:=.no) (xs:=ss.map D.str) (by decide)];exact⟨rs,rfl,kps,by omega,by omega,lm,hk3,⟨by omega,λi hi=>hrs i (by omega)⟩⟩
theorem kq5{G:D->Sd->Prop}(hG:∀d y,G d y->∃c:Nat,y.2=.str ⟨#[c]⟩):∀{ds:List D} {ys:List Sd},Each G ds ys->∃ps:List Str,ys.map (·.2)=ps.map D.str/\ps.length=ds.length/\∀p∈ps,p.length=1
 |[],[],_=>⟨[],rfl,rfl,λ_ h=>nomatch h⟩
 |d::ds,y::ys,r=>by
  obtain⟨i,e⟩:=hG d y r.1;obtain⟨ps,h1,h2,h3⟩:=kq5 hG r.2;exact⟨⟨#[i]⟩::ps,by simp[e,h1],by simp[h2],λp hp=>(List.mem_cons.mp hp).elim (λz=>z▸rfl) (h3 p)⟩
theorem kv9:∀{ps:List Str},(∀p∈ps,p.length=1)->(ps.map (·.length)).sum=ps.length
 |[],_=>rfl
 |p::ps,h=>by rw[List.map_cons,List.sum_cons,h p X5,kv9 λq hq=>h q (lc9 _ hq),Y0];omega
theorem qke{y:Str}{ys:List Str}(h:y.length=1):1<=(Str.join "" (y::ys)).length:=by
 cases ys with
 |nil=>show 1<=y.length;omega
 |cons z ys=>
  show 1<=(y++""++Str.join "" (z::ys)).cps.size;rw[kjd,kjd];have:y.cps.size=1:=h;omega
theorem qwk{ps:List Str}(h:∀p∈ps,p.length=1)(h0:1<=ps.length)(h1:ps.length<=100):∃z:Str,Z4 "" (.lst (ps.map D.str))=some (.str z)/\1<=z.cps.size/\z.cps.size<=100:=by
 have hz:("":Str).length=0:=rfl;have hs:=kv9 h;refine⟨Txt.join "" ps,?_,?_,?_⟩
 ·unfold Z4;dsimp only;rw[kx0];dsimp only;rw[Xb (by rw[hs,hz];omega)]
 ·show 1<=(Txt.join "" ps).length;unfold Txt.join;rw[StrLaws.glued_eq_join];cases ps with
  |nil=>cases h0
  |cons y ys=>exact qke (h y X5)
 ·show(Txt.join "" ps).length<=100;unfold Txt.join;rw[StrLaws.glued_eq_join];have:=StrLaws.join_length_le "" ps;rw[hs,hz]at this;omega
theorem vkm{o:Own}{z:Str}{lo hi:Option Int}(h:z.cps.size<=100):fSl (o,.str z) lo hi=some (.dp,.str (Txt.slice z lo hi)):=by
 have hl:(Txt.slice z lo hi).length<=z.length:=Txt.slice_le z lo hi;have h:z.length<=100:=h;show(if(Txt.slice z lo hi).length<=big then _ else none)=_;rw[Xb (by unfold big;omega)]
theorem signsB_ok(c:Int):Oo m__law_signs [(.no,.int c)] (λy=>∃ss,y=(.rt,sL ss)/\1<=ss.length/\ss.length<=3) noX:=by
 have m0:=Xx c (show(8:Int)≠0 by decide);have m1:=Xl c (show(0:Int)<8 by decide);unfold m__law_signs;refine qX ?_;simp![];refine(kkd c 9 (by decide) (by decide)).use ?_;intro xs hx;have hxl:=hx.1;simp![↓qxl];have fb:fSl (Own.no,iL xs) none (some (1+c % 8))=some (.rt,iL (xs.take (1+c % 8).toNat)):=by
  rw[show iL xs=.lst (xs.map D.int)from rfl,V6 (o:=.no) (by decide),qj0 (by omega) (by rw[X3];omega),<-List.map_take]
 have hsl':fSl (Own.rt,iL xs) none (some (1+c % 8))=some (.rt,iL (xs.take (1+c % 8).toNat)):=by
  rw[show iL xs=.lst (xs.map D.int)from rfl,V6 (o:=.rt) (by decide),qj0 (by omega) (by rw[X3];omega),<-List.map_take]
 refine Jv [some (.dp,.str "abcdefghijklmnopqrstuvwxyz")] (λ_ y=>∃c:Nat,y.2=.str ⟨#[c]⟩) ?_;simp![fb,hsl'];refine⟨rfl,λd hd=>?_,λys hys=>?_⟩
 ·obtain⟨t,ht,rfl⟩:=List.mem_map.mp hd;have t0:=Xx t (show(26:Int)≠0 by decide);have t1:=Xl t (show(0:Int)<26 by decide);obtain⟨ch,hc⟩:=kvt "abcdefghijklmnopqrstuvwxyz" (t % 26) t0 t1;simp![hc];exact⟨⟨_,rfl⟩,ch,rfl⟩
 obtain⟨ps,h1,h2,h3⟩:=kq5 (λd y h=>h) hys;have bg:ps.length=(1+c % 8).toNat:=by rw[h2,X3,List.length_take];omega
 obtain⟨z,hz,z0,z1⟩:=qwk h3 (by omega) (by omega);rw[xJ,h1];simp only[back,clr,at',List.map_cons,List.map_nil,List.set_cons_zero,List.set_cons_succ];have ag:q9 (.str z)=some (.int z.cps.size):=rfl;simp![hz,ag,mod_i (a:=c / 8) (b:=(z.cps.size:Int)) (by omega)];generalize cp:c / 8 % (z.cps.size:Int)=a;obtain⟨m,em,mm0,mm1⟩:∃m:Int,kw (.lst [.int 1,.int 2,.int 1,.int 2,.int 2,.int 1,.int 2,.int 3]) (.int (c / 64 % 8))=some (.int m)/\1<=m/\m<=3:=by
  have q0:=Xx (c / 64) (show(8:Int)≠0 by decide);have q1:=Xl (c / 64) (show(0:Int)<8 by decide);generalize c / 64 % 8=t at q0 q1;have:t=0\/t=1\/t=2\/t=3\/t=4\/t=5\/t=6\/t=7:=by omega
  rcases this with rfl|rfl|rfl|rfl|rfl|rfl|rfl|rfl<;>exact⟨_,rfl,by decide,by decide⟩
 obtain⟨v,ev,⟨v0,_⟩,_⟩:=ixI xs _ hx.2 8 (by decide) (by omega);refine x8 (λE j9=>∃(j:Int) (ss:List Str) (l6:Option Sd) (o1 o3:Own),E=[some (.no,.int c),some (o1,.str "abcdefghijklmnopqrstuvwxyz"),some (.rt,iL xs),some (o3,.str z),some (.dp,.int a),some (.rt,sL ss),l6]/\0<=j/\j<=m/\j9=jY j m/\(ss.length:Int)=j) ?_ ?_ ?_
 ·simp![em];exact⟨0,[],_,_,_,rfl,by omega,by omega,rfl,rfl⟩
 ·rintro E d ds ⟨j,ss,l6,o1,o3,rfl,j0,j1,hr,hl⟩;obtain⟨hj,rfl,rfl⟩:=K0 j1 hr;have u0:=Xx v (show(24:Int)≠0 by decide);have u1:=Xl v (show(0:Int)<24 by decide);obtain⟨ch,hc⟩:=kvt "abcdefghijklmnopqrstuvwxyz" (v % 24+j) (by omega) (show v % 24+j<26 by omega);have s1:=vkm (o:=.no) (z:=z) (lo:=none) (hi:=some a) (by omega);have s2:=vkm (o:=.no) (z:=z) (lo:=some (a+1)) (hi:=none) (by omega);have s1':=vkm (o:=o3) (z:=z) (lo:=none) (hi:=some a) (by omega);have s2':=vkm (o:=o3) (z:=z) (lo:=some (a+1)) (hi:=none) (by omega);have g1:(Txt.slice z none (some a)).cps.size<=100:=Y1 (Txt.slice_le z none (some a)) z1;have g2:(Txt.slice z (some (a+1)) none).cps.size<=100:=Y1 (Txt.slice_le z (some (a+1)) none) z1;generalize Txt.slice z none (some a)=w1 at s1 s1' g1;generalize Txt.slice z (some (a+1)) none=w2 at s2 s2' g2;have h8:((⟨#[ch]⟩:Str).cps.size)=1:=rfl;have a1:=qjg (o1:=.no) (o2:=.no) (a:=w1) (b:=⟨#[ch]⟩) (by rw[h8];omega);have a2:=qjg (o1:=.no) (o2:=.no) (a:=w1++⟨#[ch]⟩) (b:=w2) (by rw[kjd,h8];omega);have a1':=qjg (o1:=.no) (o2:=sub o1) (a:=w1) (b:=⟨#[ch]⟩) (by rw[h8];omega);simp![];refine KZ rfl ?_;simp![s1,s2,s1',s2',ev,hc,a1,a2,a1'];refine⟨_,rfl,by rw[X3];omega,?_⟩;rw[show ∀w:Str,ss.map D.str++[D.str w]=(ss++[w]).map D.str from λw=>by simp];exact⟨j+1,ss++[_],_,_,_,rfl,by omega,by omega,rfl,by simp;omega⟩
 ·rintro E ⟨j,ss,l6,o1,o3,rfl,j0,j1,hr,hl⟩;have:=Q5 j1 hr;subst this;simp![];exact⟨ss,rfl,by omega,by omega⟩
def vjt(S:Sn)(c:Int):D:=if c∈nms S then .int ((nms S).findIdx λw=>w==c:Nat)else .non
end B
namespace F
open Q PySem C
def vkt(af:List Int):D->List Int
 |.int i=>if i∈af then af else af++[i]
 |_=>af
def QQ(ks:List D):List Int:=ks.foldl vkt []
def plc(ns:List Int):D->D
 |.int i=>.int (ns.findIdx λw=>w==i:Nat)
 |d=>d
def pr(ks:List D):List D:=ks.map (plc (QQ ks))
noncomputable def vk2(K:List D)(s:D):List D×D:=match s with
 |.tup [ae,.tup ks]=>(VW K (.tup [ae,.tup (pr ks)]),.tup [.int ((VW K (.tup [ae,.tup (pr ks)])).idxOf (.tup [ae,.tup (pr ks)]):Nat),iT (QQ ks)])
 |_=>(K,.non)
end F
namespace F
open Q PySem C
def obD(rs:List D)(s:D)(z:Str)(p:Int):Option D:=match qk8 rs (z,p) s with
 |[]=>some .non
 |[d]=>some d
 |_=>none
noncomputable def qqo(rs:List D)(s:D)(z:Str):List D->List D->Option (List D×List D)
 |[],K=>some (K,[])
 |.int p::ps,K=>match obD rs s z p with
  |none=>none
  |some d=>(qqo rs s z ps (vk2 K d).1).map λr=>(r.1,(vk2 K d).2::r.2)
 |_::_,_=>none
end F
namespace F
open Q PySem C
def vk1(rs:List D)(s:D)(z:Str)(K:List D):Option (List D×List D):=qqo rs s z (jY 0 ((QQ (W5 s)).length+1)) K
noncomputable def qky(rs:List D)(s:D):List Str->List D->Option (List D×List D)
 |[],K=>some (K,[])
 |z::zs,K=>match vk1 rs s z K with
  |none=>none
  |some r=>(qky rs s zs r.1).map λq=>(q.1,.lst r.2::q.2)
noncomputable def goodD(rs:List D)(s:D):D:=match s with
 |.tup [.int ae,_]=>(match rs[ae.toNat]? with
  |some (.tup [_,g,_])=>g
  |_=>.non)
 |_=>.non
def qz2(rs:List D)(s:D)(st:List D):D:=.tup [.int (QQ (W5 s)).length,goodD rs s,.lst st]
noncomputable def qxt(ss:List Str)(rs K b6:List D):Option (List D×List D):=(qky rs (K.getD b6.length .non) ss K).map λr=>(r.1,b6++[qz2 rs (K.getD b6.length .non) r.2])
inductive Run (ss:List Str)(rs:List D):List D->List D->Option (List D×List D)->Prop
 |stop {K b6:List D}:¬b6.length<K.length->Run ss rs K b6 (some (K,b6))
 |fail {K b6:List D}:b6.length<K.length->qxt ss rs K b6=none->Run ss rs K b6 none
 |go {K b6 K' gv:List D} {r:Option (List D×List D)}:b6.length<K.length->qxt ss rs K b6=some (K',gv)->Run ss rs K' gv r->Run ss rs K b6 r
end F
namespace F
open Q PySem C
def ltr:List Nat:=("abcdefghijklmnopqrstuvwxyz":Str).cps.toList
end F
namespace F
open Q PySem C
noncomputable def FA(g:D)(fs:List D):Prop:=(∀(i j:Nat) (f:D),f≠.non->fs[i]?=some f->fs[j]?=some f->i=j)/\(D.str "new"∈fs->g≠.str "any"/\g∉fs)
end F
namespace F
open Q PySem C
noncomputable def Cpt(ap:Bool)(g g':D):Prop:=(g=.str "fresh"/\∃i,g'=.int i)\/(g'=.str "fresh"/\∃i,g=.int i)\/(ap=true/\∃i j:Int,g=.int i/\g'=.int j/\i≠j)
noncomputable def vwk(ap:Bool)(st:List D):Prop:=(∀(i j:Nat) (z:Str) (g g' t t' f f':D),i<j->st[i]?=some (.tup [.str z,g,t,f])->st[j]?=some (.tup [.str z,g',t',f'])->Cpt ap g g')/\(ap=true->∀(z:Str) (g t:D) (fs:List D),D.tup [.str z,g,t,.tup fs]∈st->FA g fs)
end F
namespace F
open Q PySem C
def Asks(ap:Bool)(d6:Int)(as:List D):Prop:=as.Pairwise (Cpt ap)/\(∀a∈as,Gd d6 a)/\as.length<=4
end F
namespace F
open Q PySem C
noncomputable def m__law_fills:Fn:=fn 9
  (j4 (jk 5 (cF2 jz (vE (k5 .rt [(cC (.str "new")),(cC .non)])) (vE (V9 (vV 2)))))
  (j4 (jk 6 (k5 .rt []))
  (j4 (qk (itS (cSl (vV 0) none (some (vV 3)))) (.n 7) (j4 (jk 8 (cH (j8 (vV 5) (vE (cF2 (pu2 k7) (vV 7) (vE (cF1 (pu1 q9) (vV 5))))))))
  (j4 (sIf (tAnd (tEQ (vV 4)) (tE (cF2 (f2First fNotNon) (vV 8) (vE (cC .non))))) (sIf (tOr (tE (cF2 (pu2 xQ) (vV 8) (vV 6))) (tOr (tAnd (tE (cF2 (pu2 fEq) (vV 8) (vE (cC (.str "new"))))) (tOr (tE (cF2 (pu2 fEq) (vV 1) (vE (cC (.str "any"))))) (tE (cF2 (pu2 xQ) (vV 1) (vV 6))))) (tAnd (tE (cF2 (pu2 fEq) (vV 8) (vV 1))) (tE (cF2 (pu2 xQ) (vE (cC (.str "new"))) (vV 6)))))) (jk 8 (cC .non)) qV) qV)
  (kY kX 6 (cV 8)))))
  (jQ (cF1 JX (vV 6))))))
def FAb(ap:Bool)(g:D)(fs:List D):Prop:=ap=true->FA g fs
inductive FJ1 (zs:List Int)(g:D)(d6 there:Int)(ap:Bool)(LL:List D):En->List D->Prop
 |mk (fs:List D) (ws:List Int) {l7:Option Sd} {l8:Option Sd} {j9:List D} (h0:j9=ws.map D.int) (h1:(fs.length+ws.length:Int)=there) (h2:(∀f∈fs,Fd d6 f)) (h3:FAb ap g fs):FJ1 zs g d6 there ap LL [some (.no,iL zs),some (.no,g),some (.no,.int d6),some (.no,.int there),some (.no,.bl ap),some (.rt,.lst LL),some (.rt,.lst fs),l7,l8] j9
def Ltr(b st:Int)(bw:Nat)(i:Nat)(z:Str):Prop:=z.cps.toList[bw]?=some (ltr.getD ((b+i*(st+1)) % 26).toNat 0)
inductive FJ2 (x n sz am st b:Int):En->List D->Prop
 |mk (k:Int) (ss:List Str) {l7:Option Sd} {l8:Option Sd} {l9:Option Sd} {fh:Option Sd} {j9:List D} (h0:0<=k) (h1:k<=n) (h2:j9=jY k n) (h3:(ss.length:Int)=k) (h4:∀i:Nat,i<ss.length->Ltr b st am.toNat i (ss.getD i "")):FJ2 x n sz am st b [some (.no,.int x),some (.no,.int n),some (.dp,.str "abcdefghijklmnopqrstuvwxyz"),some (.no,.int sz),some (.dp,.int am),some (.no,.int st),some (.rt,sL ss),l7,l8,l9,fh] j9
inductive FJ3 (x n sz am st b k:Int)(ss:List Str):En->List D->Prop
 |mk (j:Int) (z:Str) {l9:Option Sd} {fh:Option Sd} {o8:Own} {j9:List D} (h0:0<=j) (h1:j<=sz+1) (h2:j9=jY j (sz+1)) (h3:(z.cps.size:Int)=j) (h4:(am<j->Ltr b st am.toNat ss.length z)):FJ3 x n sz am st b k ss [some (.no,.int x),some (.no,.int n),some (.dp,.str "abcdefghijklmnopqrstuvwxyz"),some (.no,.int sz),some (.dp,.int am),some (.no,.int st),some (.rt,sL ss),some (.no,.int k),some (o8,.str z),l9,fh] j9
end F
namespace F
open Q PySem C
inductive SJ1 (ns:List Int)(a:Int)(ss:List Str)(hs ks:List Int)(v0:Int)(ap:Bool):En->List D->Prop
 |mk (r:Nat) (rs:List D) {l7 l8 l9 fh fv f7 my ma:Option Sd} {j9:List D} (h1:j9=jY r (1+v0)) (h2:(r:Int)<=1+v0) (h3:rs.length=r) (h4:∀i:Nat,i<r->∃(gd:Bool) (st:List D),rs[i]?=some (.tup [.int (ks.getD i 0),.bl gd,.lst st])/\(∀s∈st,St (ks.getD i 0) s/\Sx ss ks s)/\st.length<=12/\vwk ap st):SJ1 ns a ss hs ks v0 ap [some (.no,iL ns),some (.no,.int a),some (.no,sL ss),some (.rt,iL hs),some (.dp,.int (1+v0)),some (.rt,iL ks),some (.rt,.lst rs),l7,l8,l9,fh,fv,f7,my,ma] j9
noncomputable def Sgn(ss:List Str)(j:Nat)(st:List D):Prop:=∀s∈st,∃i,i<j/\∃(hi:i<ss.length) (g t f:D),s=.tup [.str ss[i],g,t,f]
inductive SJ2 (ns:List Int)(a:Int)(ss:List Str)(hs ks:List Int)(v0:Int)(ap:Bool)(rs:List D)(r:Nat)(d6:Int):En->List D->Prop
 |mk (j:Nat) (st:List D) {l9 fh fv f7 my ma:Option Sd} {j9:List D} (h1:j9=jY j ss.length) (h2:j<=ss.length) (h3:∀s∈st,St d6 s/\Sx ss ks s) (h4:st.length<=4*j) (h5:vwk ap st) (h6:Sgn ss j st):SJ2 ns a ss hs ks v0 ap rs r d6 [some (.no,iL ns),some (.no,.int a),some (.no,sL ss),some (.rt,iL hs),some (.dp,.int (1+v0)),some (.rt,iL ks),some (.rt,.lst rs),some (.no,.int r),some (.rt,.lst st),l9,fh,fv,f7,my,ma] j9
noncomputable def Ads(ss:List Str)(j:Nat)(hj:j<ss.length)(ap:Bool)(as lj:List D):Prop:=∀(i:Nat) (d:D),lj[i]?=some d->∃(g t:D) (fs:List D),as[i]?=some g/\d=.tup [.str ss[j],g,t,.tup fs]/\(ap=true->FA g fs)
inductive SJ3 (ns:List Int)(a:Int)(ss:List Str)(hs ks:List Int)(v0:Int)(ap:Bool)(rs:List D)(r:Nat)(d6:Int)(st:List D)(j:Nat)(hj:j<ss.length)(ys:List Int):En->List D->Prop
 |mk (k:Nat) (as lj bi:List D) {fv f7 my ma:Option Sd} {j9:List D} (h0:bi=st++lj) (h1:Asks ap d6 as) (h2:k<=as.length) (h3:j9=vjz k (as.drop k)) (h4:lj.length=k) (h5:∀s∈lj,St d6 s/\Sx ss ks s) (h6:Ads ss j hj ap as lj):SJ3 ns a ss hs ks v0 ap rs r d6 st j hj ys [some (.no,iL ns),some (.no,.int a),some (.no,sL ss),some (.rt,iL hs),some (.dp,.int (1+v0)),some (.rt,iL ks),some (.rt,.lst rs),some (.no,.int r),some (.rt,.lst bi),some (.no,.int j),some (.no,iL ys),fv,f7,my,ma] j9
end F
namespace F
open Q PySem C
noncomputable def vk3(K:List D)(d:D):D:=match d with
 |.tup [ae,.tup ks]=>.tup [.int (K.idxOf (.tup [ae,.tup (pr ks)]):Nat),iT (QQ ks)]
 |_=>.non
noncomputable def vve(rs:List D)(s:D)(z:Str)(L:List D)(d:D):D:=match d with
 |.int p=>(match obD rs s z p with
  |some d=>vk3 L d
  |none=>.non)
 |_=>.non
def vvu(s:D):List D:=jY 0 ((QQ (W5 s)).length+1)
def qxs(ss:List Str)(rs L:List D)(s:D):List D:=ss.map λz=>.lst ((vvu s).map (vve rs s z L))
def vvn(L:List D)(e:D):Prop:=∀ae ks,e=.tup [ae,.tup ks]->D.tup [ae,.tup (pr ks)]∈L
def Clo(zs:List Str)(rs L:List D)(s:D):Prop:=∀z∈zs,∀p:Int,D.int p∈vvu s->∃e,obD rs s z p=some e/\vvn L e
def Nrm(t:D):Prop:=∃ae ks,t=.tup [ae,.tup (pr ks)]
noncomputable def Inv(ss:List Str)(rs K b6:List D):Prop:=b6.length<=K.length/\(∀i,i<b6.length->Clo ss rs K (K.getD i .non)/\∀L,K <+: L->b6[i]?=some (qz2 rs (K.getD i .non) (qxs ss rs L (K.getD i .non))))/\∀t∈K,Nrm t
end F
namespace G
open Q PySem C F
def fl(own:Int):D->D
 |.int f=>if f=own then .str "new" else .int f
 |d=>d
end G
namespace G
open Q PySem C F
def nN(t:D):Nat:=(QQ (W5 t)).length
end G
namespace Nk60
open PySem Q
def m_read_by : Fn:= C.m_read_by
noncomputable def jq8:Fn:=fn 5
  (j4 (jk 2 (k3 .no [(cC (.int 0)),(k3 .no [])]))
  (j4 (qk (itS (cV 1)) (.t [3,4]) (jk 2 (jW m_read_by [(cV 0),(cV 2),(cV 3),(cV 4)])))
  (jQ (cMv 2))))
noncomputable def Yq:Fn:=fn 3
  (j4 (jk 2 (jW jq8 [(cV 0),(cV 1)]))
  (jQ (zW (vE (cF2 (f2First fNotNon) (vV 2) (vE (cC .non)))) (cH (j8 (j8 (j8 (vV 0) (C9 1)) (j8 (vV 2) (C9 0))) (C9 1))))))
noncomputable def YV:Fn:=fn 1
  (jQ (cF1 (pu1 Z5) (vE (cLC .rt 1 [] (itS (cH (j8 (vV 0) (C9 2)))) (.n 0) tYes (cF2 (pu2 xQ) (vE (cC .non)) (vV 0))))))
noncomputable def WV:Fn:=fn 2
  (jQ (cLC .rt 1 [0] (itS (cV 1)) (.n 0) tYes (cIf (tE (cF2 (f2First fIsNon) (vV 0) (vE (cC .non)))) (k3 .no [(cV 1),(k3 .no [])]) (cV 0))))
noncomputable def VQ:Fn:=fn 3
  (j4 (jk 1 (cF1 (pu1 q9) (j8 (vV 0) (C9 1))))
  (j4 (jk 2 (cLC .dp 1 [1] (itS (cH (j8 (vV 0) (C9 1)))) (.n 0) tYes (k3 .dp [(cH (j8 (vV 0) (C9 0))),(Wq (j8 (vV 0) (C9 1))),(cLC .dp 1 [1] (itS (cH (j8 (vV 0) (C9 2)))) (.n 0) tYes (K4 (jW WV [(cV 1),(cV 0)])))])))
  (j4 (sIf (tEQ (vE (cF1 (pu1 Z5) (vE (cLC .rt 1 [] (itS (cH (j8 (vV 0) (C9 1)))) (.n 0) tYes (jW YV [(cV 0)])))))) (kY kX 2 (k3 .dp [(cC (.int 0)),(cC (.bl true)),(cLC .dp 1 [1] (itS (cH (j8 (vV 0) (C9 0)))) (.n 0) tYes (k5 .dp [(k3 .no [(cV 1),(k3 .no [])])]))])) qV)
  (jQ (k3 .dp [(K4 (cF1 K6 (j8 (vV 0) (C9 0)))),(cMv 2)])))))
def m__law_cell_at : Fn:= B.m__law_cell_at
def m__law_whole : Fn:= B.m__law_whole
def m__law_stream : Fn:= B.m__law_stream
def m__law_signs : Fn:= B.m__law_signs
def m__law_fills : Fn:= B.m__law_fills
def m__law_case : Fn:= B.m__law_case
def m__law_plain : Fn:= B.m__law_plain
noncomputable def W7:Fn:=fn 6
  (j4 (jk 1 (k5 .rt []))
  (j4 (qk (itS (cH (j8 (vV 0) (C9 1)))) (.t [2,3,4]) (j4 (jk 5 (cLC .rt 1 [] (itS (cV 4)) (.n 0) tYes (cLC .rt 1 [] (itS (cV 0)) (.n 0) tYes (cH (j8 (vE (k5 .rt [(cV 0),(k3 .no [(cC (.int 0)),(k3 .no [])])])) (vE (cF1 (pu1 vY) (vE (cF2 (f2First fIsNon) (vV 0) (vE (cC .non)))))))))))
  (kY kX 1 (k3 .no [(cV 2),(cV 3),(cV 5)]))))
  (jQ (k3 .no [(cF1 K6 (j8 (vV 0) (C9 0))),(cV 1)]))))
noncomputable def Kz:Fn:=fn 2
  (j4 (jk 1 (jW m__law_plain [(jW m__law_cell_at [(cV 0),(cC (.int 1))]),(jW m__law_signs [(jW m__law_cell_at [(cV 0),(cC (.int 0))])])]))
  (j4 (sIf (tE (cF2 (pu2 fEq) (vE (cF2 (pu2 k7) (vE (jW m__law_cell_at [(cV 0),(cC (.int 2))])) (C9 4))) (C9 1))) (jQ (jW W7 [(cV 1)])) qV)
  (jQ (cMv 1))))
noncomputable def Ww:Fn:=fn 9
  (j4 (jk 1 (cF1 (pu1 q9) (j8 (vV 0) (C9 1))))
  (j4 (jk 2 (cC (.bl false)))
  (j4 (jk 3 (k5 .dp []))
  (j4 (qk (itS (cH (j8 (vV 0) (C9 1)))) (.t [4,5,6]) (j4 (jk 7 (k5 .dp []))
  (j4 (qk (itS (cV 6)) (.n 8) (j4 (jk 2 (cOr (vV 2) (cF2 (pu2 xQ) (vE (cC .non)) (vV 8))))
  (kY kX 7 (K4 (cLC .rt 1 [1] (itS (cV 8)) (.n 0) tYes (cH (j8 (vE (k5 .rt [(cV 0),(k3 .no [(cV 1),(k3 .no [])])])) (vE (cF1 (pu1 vY) (vE (cF2 (f2First fIsNon) (vV 0) (vE (cC .non)))))))))))))
  (kY kX 3 (k3 .dp [(cV 4),(Wq (vV 5)),(cMv 7)])))))
  (j4 (sIf (tEQ (vV 2)) (kY kX 3 (k3 .dp [(cC (.int 0)),(cC (.bl true)),(cLC .dp 1 [1] (itS (cH (j8 (vV 0) (C9 0)))) (.n 0) tYes (k5 .dp [(k3 .no [(cV 1),(k3 .no [])])]))])) qV)
  (jQ (k3 .dp [(K4 (cF1 K6 (j8 (vV 0) (C9 0)))),(cMv 3)])))))))
noncomputable def vk(r:Fn):Fn:=fn 4
  (j4 (sIf (tOr (tEQ (vE (cF1 (pu1 (k9 "tuple")) (vV 1)))) (tEQ (vE (cF1 (pu1 (k9 "list")) (vV 1))))) (j4 (sIf (tOr (tE (cF2 (pu2 fNe) (vE (cF1 (pu1 (k9 "tuple")) (vV 1))) (vE (cF1 (pu1 (k9 "tuple")) (vV 0))))) (tE (cF2 (pu2 fNe) (vE (cF1 (pu1 (k9 "list")) (vV 1))) (vE (cF1 (pu1 (k9 "list")) (vV 0)))))) (jQ (cC (.bl false))) qV)
  (j4 (sIf (tE (cF2 (pu2 fNe) (vE (cF1 (pu1 q9) (vV 0))) (vE (cF1 (pu1 q9) (vV 1))))) (jQ (cC (.bl false))) qV)
  (j4 (qk (XZ (cV 0) (cV 1)) (.t [2,3]) (sIf (tNot (tEQ (vE (jW r [(cV 2),(cV 3)])))) (jQ (cC (.bl false))) qV))
  (jQ (cC (.bl true)))))) qV)
  (j4 (sIf (tE (cF2 (f2First fIsNon) (vV 1) (vE (cC .non)))) (jQ (cF2 (f2First fIsNon) (vV 0) (vE (cC .non)))) qV)
  (j4 (sIf (tOr (tEQ (vE (cF1 (pu1 (k9 "bool")) (vV 1)))) (tEQ (vE (cF1 (pu1 (k9 "str")) (vV 1))))) (jQ (zW (vE (cF2 (pu2 fEq) (vE (cF1 (pu1 (k9 "bool")) (vV 0))) (vE (cF1 (pu1 (k9 "bool")) (vV 1))))) (cF2 (pu2 fEq) (vV 0) (vV 1)))) qV)
  (jQ (zW (vE (jW m__law_whole [(cV 0)])) (cF2 (pu2 fEq) (vV 0) (vV 1)))))))
def Qj:Fn:=wv vk 8
noncomputable def W1:Fn:=fn 2
  (jQ (cLC .rt 1 [0] (v6 (vV 1)) (.n 0) tYes (cF2 (pu2 K3) (vE (cF2 qY (vE (cF2 jz (vE (cF2 (pu2 k7) (vV 1) (vE (cF2 (pu2 Wz) (C9 10) (C9 59))))) (C9 1))) (vE (cF2 jz (vV 0) (C9 1))))) (vE (cF2 qY (C9 5) (vE (cF2 (pu2 Wz) (C9 10) (C9 59))))))))
noncomputable def m_law:Fn:=fn 14
  (j4 (jk 1 (jW Kz [(cV 0)]))
  (j4 (jk 2 (jW Ww [(cV 1)]))
  (j4 (jk 3 (jW VQ [(cV 1)]))
  (j4 (sIf (tOr (tNot (tEQ (vE (Q1 Qj [(vV 3),(vV 2)])))) (tNot (tEQ (vE (jW Qj [(cV 1),(jW Kz [(cV 0)])]))))) (jQ (cC (.bl false))) qV)
  (j4 (jk 4 (jW W1 [(jW m__law_cell_at [(cV 0),(cC (.int 3))]),(cF2 jz (C9 1) (vE (cF2 (pu2 k7) (vE (cF2 (pu2 vW) (vE (jW m__law_cell_at [(cV 0),(cC (.int 2))])) (C9 4))) (C9 7))))]))
  (j4 (jk 5 (cLC .rt 1 [1,4] (itS (cSl (vV 0) (some (C9 4)) (some (C9 64)))) (.n 0) tYes (k3 .no [(cH (j8 (j8 (vV 1) (C9 0)) (vE (cF2 (pu2 k7) (vV 0) (vE (cF1 (pu1 q9) (j8 (vV 1) (C9 0)))))))),(cH (j8 (vV 2) (vE (cF2 (pu2 k7) (vE (cF2 (pu2 vW) (vV 0) (C9 3))) (vE (cF1 (pu1 q9) (vV 2)))))))])))
  (j4 (qk (v6 (vE (cF2 jz (vE (cF1 (pu1 q9) (vV 5))) (C9 1)))) (.n 6) (j4 (jk 7 (jW Yq [(cV 1),(cSl (vV 5) none (some (vV 6)))]))
  (j4 (jk 8 (Q1 Yq [(vV 3),(vE (cSl (vV 5) none (some (vV 6))))]))
  (sIf (tOr (tNot (tEQ (vE (cF1 (pu1 (k9 "bool")) (vV 8))))) (tOr (tNot (tEQ (vE (cF1 (pu1 (k9 "bool")) (vV 7))))) (tE (cF2 (pu2 fEq) (vV 7) (vV 8))))) (jQ (cC (.bl false))) qV))))
  (j4 (jk 9 (cF2 (pu2 K3) (vE (cF2 (pu2 vwi) (vE (cF2 (pu2 K3) (vE (cF2 (pu2 k7) (vE (cF2 (pu2 vW) (vE (jW m__law_cell_at [(cV 0),(cC (.int 2))])) (C9 32))) (vE (cF2 qY (C9 2) (vE (cF1 (pu1 q9) (j8 (vV 3) (C9 1)))))))) (vE (cF1 (pu1 q9) (j8 (vV 3) (C9 1)))))) (C9 0))) (C9 1)))
  (j4 (jk 10 (cF2 (pu2 k7) (vE (jW m__law_cell_at [(cV 0),(cC (.int 3))])) (vE (cF1 (pu1 q9) (j8 (vV 1) (C9 0))))))
  (j4 (W9 3 [.inl 1,.inr 9,.inl 2,.inr 10] (cC .non))
  (j4 (W9 2 [.inl 1,.inr 9,.inl 2,.inr 10] (cC .non))
  (j4 (sIf (tNot (tEQ (vE (Q1 Qj [(vV 3),(vV 2)])))) (jQ (cC (.bl false))) qV)
  (j4 (jk 2 (jW Ww [(cV 1)]))
  (j4 (sPA 3 [0] (cC (.str "zz")))
  (j4 (WX 3 11 12 13 [1])
  (j4 (sPC 3 [1])
  (jQ (zW (vE (jW Qj [(cV 1),(jW Kz [(cV 0)])])) (Q1 Qj [(vE (jW VQ [(cV 1)])),(vV 2)])))))))))))))))))))
end Nk60
namespace Nk60
open Q PySem C
def isN:D->Bool
 |.non=>true
 |_=>false
def vj(ay:Int):D->D
 |.non=>.tup [.int ay,.tup []]
 |c=>c
def xq(ay:Int):D->D
 |.lst cs=>.lst (cs.map (vj ay))
 |s=>s
def J0(ay:Int):D->D
 |.tup [own,.bl gd,.lst st]=>.tup [own,.bl (!gd),.lst (st.map (xq ay))]
 |r=>r
def QJ:D->Bool
 |.lst cs=>cs.any isN
 |_=>false
def wW:D->Bool
 |.tup [_,_,.lst st]=>st.any QJ
 |_=>false
def ZQ(ss:List Str)(ay:Int):D:=.tup [.int 0,.bl true,.lst (ss.map λ_=>.lst [.tup [.int ay,.tup []]])]
def k8(ss:List Str)(rs:List D):List D:=rs.map (J0 rs.length)++(if rs.any wW=true then[ZQ ss rs.length]else[])
def Cz(z:D):Prop:=z=.non\/∃(to:Int) (fs:List Int),z=.tup [.int to,.tup (fs.map D.int)]
noncomputable def Rz(r:D):Prop:=∃(own:Int) (gd:Bool) (st:List D),r=.tup [.int own,.bl gd,.lst st]/\st.length<=3/\∀c∈st,∃cs:List D,c=.lst cs/\∀z∈cs,Cz z
theorem Cz.flat{z:D}{n:Nat}(h:Cz z):z.flat (n+2)=true:=by
 rcases h with rfl|⟨to,fs,rfl⟩
 ·rfl
 ·show(true&&(D.flats n (fs.map D.int)&&true))=true;rw[Qk λk hk=>by obtain⟨i,_,rfl⟩:=List.mem_map.mp hk;cases n<;>rfl];rfl
theorem Cz.pure{z:D}(h:Cz z):z.pure=true:=by
 rcases h with rfl|⟨to,fs,rfl⟩
 ·rfl
 ·show(true&&(D.pures (fs.map D.int)&&true))=true;rw[D.pures_map _ _ λ_ _=>rfl];rfl
theorem qv2{ay:Int}{z:D}(h:Cz z):Cz (vj ay z):=by
 rcases h with rfl|⟨to,fs,rfl⟩
 ·exact .inr ⟨ay,[],rfl⟩
 ·exact .inr ⟨to,fs,rfl⟩
theorem qqj{cs:List D}(h:∀z∈cs,Cz z):xQ .non (.lst cs)=some (.bl (cs.any isN)):=by
 have hf:D.flats 30 cs=true:=Qk λz hz=>(h z hz).flat (n:=28)
 have e:(cs.any λz=>peq z .non)=cs.any isN:=by
  rw[Bool.eq_iff_iff,List.any_eq_true,List.any_eq_true];constructor
  ·rintro ⟨z,hz,hp⟩;refine⟨z,hz,?_⟩;rcases h z hz with rfl|⟨to,fs,rfl⟩
   ·rfl
   ·cases hp
  ·rintro ⟨z,hz,hp⟩;refine⟨z,hz,?_⟩;rcases h z hz with rfl|⟨to,fs,rfl⟩
   ·rfl
   ·cases hp
 show(if(D.non).flat 30&&D.flats 30 cs then some (D.bl (cs.any λw=>peq w .non))else none)=_;rw[show(D.non).flat 30=true from rfl,hf,e];rfl
theorem vje{ay:Int}{cs:List D}(h:∀z∈cs,Cz z):Oo WV [(.no,.int ay),(.no,.lst cs)] (λy=>∃_:Unit,y=(.rt,.lst (cs.map (vj ay)))/\True) noX:=by
 unfold WV;refine qX ?_;simp![];refine Jv [some (.no,.int ay)] (λd y=>y.2=vj ay d) ?_;simp![];refine⟨rfl,λd hd=>?_,λys hy=>?_⟩
 ·rcases h d hd with rfl|⟨to,fs,rfl⟩
  ·simp![];exact⟨⟨_,rfl⟩,rfl⟩
  ·simp![];exact⟨⟨_,rfl⟩,rfl⟩
 ·rw[xJ,Q7 (h:=vj ay) (λd y h=>h) hy];simp only[back,clr,at',List.map_cons,List.map_nil,List.set_cons_zero,List.set_cons_succ];simp![]
  first|trivial|exact⟨(),trivial⟩|exact⟨(),rfl,trivial⟩
theorem qqs(f:D->Bool)(l:List D):Z5 (.lst (l.map λd=>.bl (f d)))=some (.bl (l.any f)):=by
 have hb:∀l:List D,bls (l.map λd=>.bl (f d))=some (l.map f):=λl=>by
  induction l with
  |nil=>rfl
  |cons a l ih=>rw[List.map_cons,List.map_cons];unfold bls;rw[ih];rfl
 show(bls (l.map λd=>.bl (f d))).map _=_;rw[hb];simp[List.any_map,Function.comp_def]
theorem qkd{r:D}(h:Rz r):Oo YV [(.no,r)] (λy=>∃_:Unit,y=(.dp,.bl (wW r))/\True) noX:=by
 obtain⟨own,gd,st,rfl,_,bq⟩:=h;unfold YV;refine qX ?_;simp![t2];refine Jv [] (λd y=>y=(.dp,.bl (QJ d))) ?_;simp![t2];refine⟨λd hd=>?_,λys hy=>?_⟩
 ·obtain⟨cs,rfl,cb⟩:=bq d hd;simp![qqj cb];exact⟨⟨_,rfl⟩,rfl⟩
 ·rw[xJ,Q7 (h:=λd=>.bl (QJ d)) (λd y h=>by rw[h]) hy];simp only[back,clr];have e:=qqs QJ st;simp![e]
  first|trivial|exact⟨(),trivial⟩|exact⟨(),rfl,trivial⟩
theorem W0{xs:List D}(h:D.pures xs=true):Wv (.rt,.lst xs)=true:=by
 unfold Wv;show(qJ (.rt,.lst xs)||(Own.rt==Own.rt&&D.pures xs))=true;rw[h];simp
theorem qvn{cs:List D}(h:∀z∈cs,Cz z):D.pures cs=true:=by
 rw[D.pures_all,List.all_eq_true];exact λz hz=>(h z hz).pure
theorem kxp{ay:Int}{cs:List D}(h:∀z∈cs,Cz z):D.pures (cs.map (vj ay))=true:=qvn λz hz=>by
 obtain⟨c,hc,rfl⟩:=List.mem_map.mp hz;exact qv2 (h c hc)
theorem kw4{i:Nat}{c:Ex}{E:En}{xs:List D}{N C:En->Prop}{R:Sd->Prop}{X:XP}(h0:E[i]?=some (some (.dp,.lst xs)))
  (h:Eo (c E) (λE1 x=>∃ys,E1[i]?=some (some (.dp,.lst ys))/\ys.length<10000/\x.1=.dp/\N (E1.set i (some (.dp,.lst (ys++[x.2]))))) X):Po (kY kX i c E) N C R X:=
 qqr h0 (h.mono λE1 x ⟨ys,h1,h2,h3,h4⟩=>⟨.dp,ys,h1,by decide,h2,by rw[Xb ⟨rfl,by unfold qJ;rw[h3];rfl⟩];with_unfolding_all exact h4⟩)
theorem qxk{cs:List Ex}{e:Option Sd}{E:En}{P:En->Sd->Prop}{X:XP}:Eo (k5 .dp cs (e::E)) P X=Eo (qQ cs (e::E)) (λE xs=>xs.all qJ=true/\P E (.dp,.lst (xs.map (·.2)))) X:=by
 unfold k5;rw[k4];congr 1;funext E x;rw[Xb rfl,WY,W3]
theorem kx4{ss:List Str}{rs:List D}{E:En}{r:En}{P:En->Sd->Prop}{X:XP}{o:Own}{ay:Int}(hE:E=some (.no,jZ ss rs)::some (o,.int ay)::r)
  (h:∀o':Own,P (some (.no,jZ ss rs)::some (o',.int ay)::r) (.dp,.lst (ss.map λ_=>.lst [.tup [.int ay,.tup []]]))):
  Eo (cLC .dp 1 [1] (itS (cH (j8 (vV 0) (C9 0)))) (.n 0) tYes (k5 .dp [(k3 .no [(cV 1),(k3 .no [])])]) E) P X:=by
 subst hE;refine Vx (λE1 B ds af=>∃o1:Own,E1=some (.no,jZ ss rs)::some (o1,.int ay)::r/\∃(o:Own) (q:Option Sd) (pre zs:List Str),B=[q,some (o,.int ay)]/\ds=zs.map D.str/\ss=pre++zs/\(∀y∈af,y.1=.dp)/\af.map (·.2)=pre.map (λ_=>.lst [.tup [.int ay,.tup []]])) ?_ ?_ ?_
 ·simp![p0];exact⟨_,rfl,_,_,[],ss,rfl,rfl,rfl,(λy h=>nomatch h),rfl⟩
 ·rintro E1 B d ds af ⟨o1,rfl,o,q,pre,zs,rfl,bp,hz,hac,hmap⟩;cases zs with
  | nil=>cases bp
  | cons z zs=>
   rw[List.map_cons]at bp;injection bp with e1 e2;subst e1 e2;simp![qxk];refine⟨rfl,_,rfl,_,_,pre++[z],zs,rfl,rfl,by rw[hz];simp,λy hy=>?_,?_⟩
   ·rcases List.mem_append.mp hy with hy|hy
    ·exact hac y hy
    ·rw[List.mem_singleton.mp hy]
   ·rw[Xm,Xm,hmap];rfl
 ·rintro E1 B af ⟨o1,rfl,o,q,pre,zs,rfl,bp,hz,hac,hmap⟩;cases zs with
  |cons=>cases bp
  |nil=>
   rw[Xr]at hz;subst hz;rw[kz7 (List.all_eq_true.mpr λy hy=>by unfold qJ;rw[hac y hy];rfl),hmap];simp only[xV,back,clr,at',List.drop,List.map_cons,List.map_nil,List.set_cons_zero,List.set_cons_succ];exact h _
theorem kk9{ss:List Str}{rs:List D}(fc:ss.length<=3)(hl:rs.length<=6)(h:∀r∈rs,Rz r):Oo VQ [(.no,jZ ss rs)] (λy=>∃_:Unit,y=(.dp,jZ ss (k8 ss rs))/\True) noX:=by
 unfold VQ;refine qX ?_;simp![p1];refine Vx (λE1 B ds af=>∃o1:Own,E1=[some (.no,jZ ss rs),some (o1,.int rs.length),none]/\∃(o:Own) (q:Option Sd) (pre:List D),B=[q,some (o,.int rs.length)]/\rs=pre++ds/\(∀y∈af,y.1=.dp)/\af.map (·.2)=pre.map (J0 rs.length)) ?_ ?_ ?_
 ·simp![p1];exact⟨_,rfl,_,_,[],rfl,rfl,(λy h=>nomatch h),rfl⟩
 ·rintro E1 B d ds af ⟨o1,rfl,o,q,pre,rfl,bp,hac,hmap⟩;obtain⟨own,gd,st,rfl,j',bq⟩:=h d (by rw[bp];simp);simp![t0,t1,t2,V1,KJ];refine Vx (λE1 B ka ic=>∃o3:Own,E1=[some (.no,.tup [.int own,.bl gd,.lst st]),some (o3,.int rs.length)]/\∃(o4:Own) (q2:Option Sd) (pre2:List D),B=[q2,some (o4,.int rs.length)]/\st=pre2++ka/\(∀y∈ic,y.1=.dp)/\ic.map (·.2)=pre2.map (xq rs.length)) ?_ ?_ ?_
  ·simp![t2];exact⟨_,rfl,_,_,[],rfl,rfl,(λy h=>nomatch h),rfl⟩
  ·rintro E1 B d2 ka ic ⟨o3,rfl,o4,q2,pre2,rfl,hds2,hac2,hmap2⟩;obtain⟨cs,rfl,cb⟩:=bq d2 (by rw[hds2];simp);simp![V1];refine(vje cb).use ?_;intro _ _;simp![];refine⟨W0 (kxp cb),_,rfl,_,_,pre2++[.lst cs],rfl,by rw[hds2];simp,λy hy=>?_,?_⟩
   ·rcases List.mem_append.mp hy with hy|hy
    ·exact hac2 y hy
    ·rw[List.mem_singleton.mp hy]
   ·rw[Xm,Xm,hmap2];rfl
  ·rintro E1 B ic ⟨o3,rfl,o4,q2,pre2,rfl,hds2,hac2,hmap2⟩;rw[Xr]at hds2;subst hds2;rw[kz7 (List.all_eq_true.mpr λy hy=>by unfold qJ;rw[hac2 y hy];rfl),hmap2];simp only[xV,back,clr,at',List.drop,List.map_cons,List.map_nil,List.set_cons_zero,List.set_cons_succ];simp![];refine⟨rfl,_,rfl,_,_,pre++[.tup [.int own,.bl gd,.lst st]],rfl,by rw[bp];simp,λy hy=>?_,?_⟩
   ·rcases List.mem_append.mp hy with hy|hy
    ·exact hac y hy
    ·rw[List.mem_singleton.mp hy]
   ·rw[Xm,Xm,hmap];rfl
 ·rintro E1 B af ⟨o1,rfl,o,q,pre,rfl,bp,hac,hmap⟩;rw[Xr]at bp;subst bp;rw[kz7 (List.all_eq_true.mpr λy hy=>by unfold qJ;rw[hac y hy];rfl),hmap];simp only[xV,back,clr,at',List.drop,List.map_cons,List.map_nil,List.set_cons_zero,List.set_cons_succ];have ea:=qqs wW rs;simp![];refine Jv [] (λd y=>y=(.dp,.bl (wW d))) ?_;simp![p1];refine⟨λd hd=>?_,λys hy=>?_⟩
  ·refine(qkd (h d hd)).use ?_;intro _ _;exact⟨⟨_,rfl⟩,rfl⟩
  ·rw[xJ,Q7 (h:=λd=>.bl (wW d)) (λd y h=>by rw[h]) hy];simp only[back,clr];cases hk:rs.any wW with
   |false=>
    have ek:k8 ss rs=rs.map (J0 rs.length):=by unfold k8;rw[hk];simp
    rw[hk]at ea;simp![ea,p0,W4 (o:=.no) (xs:=ss.map D.str) (by decide),V1,KJ];exact⟨W0 (D.pures_map _ _ λ_ _=>rfl),rfl,(),by rw[ek],trivial⟩
   |true=>
    have ek:k8 ss rs=rs.map (J0 rs.length)++[ZQ ss rs.length]:=by unfold k8;rw[hk];rfl
    rw[hk]at ea;simp![ea];refine kw4 rfl ?_;simp![KJ];refine kx4 rfl λo'=>?_
    simp![p0,W4 (o:=.no) (xs:=ss.map D.str) (by decide),V1,KJ];exact⟨rfl,_,rfl,by rw[X3];omega,W0 (D.pures_map _ _ λ_ _=>rfl),rfl,(),by rw[ek];rfl,trivial⟩
theorem qwv{ay:Int}{cs:List D}{E:En}{P:En->Sd->Prop}{X:XP}{o:Own}{x0 x2 x3 x4 x5 x6 x7:Option Sd}(cb:∀z∈cs,Cz z)(hE:E=[x0,some (o,.int ay),x2,x3,x4,x5,x6,x7,some (.no,.lst cs)])
  (h:∀o':Own,P [x0,some (o',.int ay),x2,x3,x4,x5,x6,x7,some (.no,.lst cs)] (.rt,.lst (cs.map (vj ay)))):
  Eo (cLC .rt 1 [1] (itS (cV 8)) (.n 0) tYes (cH (j8 (vE (k5 .rt [(cV 0),(k3 .no [(cV 1),(k3 .no [])])])) (vE (cF1 (pu1 vY) (vE (cF2 (f2First fIsNon) (vV 0) (vE (cC .non)))))))) E) P X:=by
 subst hE;refine Vx (λE1 B ds af=>∃o1:Own,E1=[x0,some (o1,.int ay),x2,x3,x4,x5,x6,x7,some (.no,.lst cs)]/\∃(o:Own) (q:Option Sd) (pre:List D),B=[q,some (o,.int ay)]/\cs=pre++ds/\af.map (·.2)=pre.map (vj ay)) ?_ ?_ ?_
 ·simp![];exact⟨_,rfl,_,_,[],rfl,rfl,rfl⟩
 ·rintro E1 B d ds af ⟨o1,rfl,o,q,pre,rfl,bp,hmap⟩;have nxt:∀y:Sd,y.2=vj ay d->List.map (·.2) (af++[y])=(pre++[d]).map (vj ay):=λy hy=>by
   rw[Xm,Xm,hmap,List.map_singleton,hy];rfl
  have i0:∀a b:D,kw (.lst [a,b]) (.int 0)=some a:=λ_ _=>rfl
  have i1:∀a b:D,kw (.lst [a,b]) (.int 1)=some b:=λ_ _=>rfl
  have j0:vY (.bl false)=some (.int 0):=rfl;have j1:vY (.bl true)=some (.int 1):=rfl;rcases cb d (by rw[bp];simp)with rfl|⟨to,fs,rfl⟩
  ·simp![i1,j1];exact⟨_,rfl,_,_,pre++[.non],rfl,by rw[bp];simp,nxt _ rfl⟩
  ·simp![i0,j0];exact⟨_,rfl,_,_,pre++[.tup [.int to,.tup (fs.map D.int)]],rfl,by rw[bp];simp,nxt _ rfl⟩
 ·rintro E1 B af ⟨o1,rfl,o,q,pre,rfl,bp,hmap⟩;rw[Xr]at bp;subst bp;rw[xJ,hmap];simp only[xV,back,clr,at',List.drop,List.map_cons,List.map_nil,List.set_cons_zero,List.set_cons_succ];exact h _
theorem qqm{ss:List Str}{rs:List D}(fc:ss.length<=3)(hl:rs.length<=6)(h:∀r∈rs,Rz r):Oo Ww [(.no,jZ ss rs)] (λy=>∃_:Unit,y=(.dp,jZ ss (k8 ss rs))/\True) noX:=by
 unfold Ww;refine qX ?_;simp![p1];refine x8 (λE j9=>∃(o1 o2:Own) (pre:List D) (lk:Bool) (l4 l5 l6 l7 l8:Option Sd),E=[some (.no,jZ ss rs),some (o1,.int rs.length),some (o2,.bl lk),some (.dp,.lst (pre.map (J0 rs.length))),l4,l5,l6,l7,l8]/\rs=pre++j9/\lk=pre.any wW) ?_ ?_ ?_
 ·simp![p1];exact⟨_,_,[],false,_,_,_,_,_,rfl,rfl,rfl⟩
 ·rintro E d ds ⟨o1,o2,pre,lk,l4,l5,l6,l7,l8,rfl,bp,f8⟩;obtain⟨own,gd,st,rfl,j',bq⟩:=h d (by rw[bp];simp);have bg:pre.length<=6:=by have:=congrArg List.length bp;simp at this;omega
  simp![];refine x8 (λE j9=>∃(o1 o2:Own) (pre2:List D) (gu:Bool) (l8:Option Sd),E=[some (.no,jZ ss rs),some (o1,.int rs.length),some (o2,.bl gu),some (.dp,.lst (pre.map (J0 rs.length))),some (.no,.int own),some (.no,.bl gd),some (.no,.lst st),some (.dp,.lst (pre2.map (xq rs.length))),l8]/\st=pre2++j9/\gu=(lk||pre2.any QJ)) ?_ ?_ ?_
  ·simp![];exact⟨_,_,[],lk,_,rfl,rfl,by simp⟩
  ·rintro E d2 ka ⟨o3,o4,pre2,gu,l8,rfl,hds2,hlk2⟩;obtain⟨cs,rfl,cb⟩:=bq d2 (by rw[hds2];simp);have lr:pre2.length<=3:=by have:=congrArg List.length hds2;simp at this;omega
   have fin:∀(o1 o2:Own) (C:En->Prop) (R:Sd->Prop),Po (kY kX 7 (K4 (cLC .rt 1 [1] (itS (cV 8)) (.n 0) tYes (cH (j8 (vE (k5 .rt [(cV 0),(k3 .no [(cV 1),(k3 .no [])])])) (vE (cF1 (pu1 vY) (vE (cF2 (f2First fIsNon) (vV 0) (vE (cC .non))))))))))
     [some (.no,jZ ss rs),some (o1,.int rs.length),some (o2,.bl (gu||cs.any isN)),some (.dp,.lst (pre.map (J0 rs.length))),some (.no,.int own),some (.no,.bl gd),some (.no,.lst st),some (.dp,.lst (pre2.map (xq rs.length))),some (.no,.lst cs)])
     (λE=>∃(o1 o2:Own) (pre2:List D) (gu:Bool) (l8:Option Sd),E=[some (.no,jZ ss rs),some (o1,.int rs.length),some (o2,.bl gu),some (.dp,.lst (pre.map (J0 rs.length))),some (.no,.int own),some (.no,.bl gd),some (.no,.lst st),some (.dp,.lst (pre2.map (xq rs.length))),l8]/\st=pre2++ka/\gu=(lk||pre2.any QJ)) C R noX:=λo1 o2 C R=>by
    refine kw4 rfl ?_;rw[V1];refine qwv cb rfl λo'=>?_
    refine⟨W0 (kxp cb),_,rfl,by rw[X3];omega,rfl,o',o2,pre2++[.lst cs],gu||cs.any isN,some (.no,.lst cs),?_,by rw[hds2];simp,?_⟩
    ·rw[Xm];rfl
    ·rw[hlk2,List.any_append,Bool.or_assoc];simp[QJ]
   cases gu with
   |true=>
    simp![];exact fin _ _ _ _
   |false=>
    simp![qqj cb];exact fin _ _ _ _
  ·rintro E ⟨o3,o4,pre2,gu,l8,rfl,hds2,hlk2⟩;rw[Xr]at hds2;subst hds2;refine kw4 rfl ?_;simp![KJ];refine⟨rfl,_,rfl,by rw[X3];omega,o3,o4,pre++[.tup [.int own,.bl gd,.lst st]],gu,some (.no,.int own),some (.no,.bl gd),some (.no,.lst st),none,l8,?_,by rw[bp];simp,?_⟩
   ·rw[Xm];rfl
   ·rw[hlk2,f8,List.any_append];simp[wW]
 ·rintro E ⟨o1,o2,pre,lk,l4,l5,l6,l7,l8,rfl,bp,f8⟩;rw[Xr]at bp;subst bp;cases lk with
  |false=>
   have ek:k8 ss rs=rs.map (J0 rs.length):=by unfold k8;rw[<-f8];simp
   simp![p0,W4 (o:=.no) (xs:=ss.map D.str) (by decide),V1,KJ];exact⟨W0 (D.pures_map _ _ λ_ _=>rfl),rfl,(),by rw[ek],trivial⟩
  |true=>
   have ek:k8 ss rs=rs.map (J0 rs.length)++[ZQ ss rs.length]:=by unfold k8;rw[<-f8];rfl
   simp![];refine kw4 rfl ?_;simp![KJ];refine kx4 rfl λo'=>?_
   simp![p0,W4 (o:=.no) (xs:=ss.map D.str) (by decide),V1,KJ];exact⟨rfl,_,rfl,by rw[X3];omega,W0 (D.pures_map _ _ λ_ _=>rfl),rfl,(),by rw[ek];rfl,trivial⟩
end Nk60
namespace Nk60
open Q PySem C
theorem hw:m__law_whole=B.m__law_whole:=rfl
theorem qxj{c d:Ex}{e:Option Sd}{E:En}{P:En->List D->Prop}{X:XP}:Eo (XZ c d (e::E)) P X=Eo (c (e::E)) (λE x=>Eo (d E) (λE y=>Wo (YJ x.2 y.2) E P) X) X:=by
 unfold XZ;rw[k4];congr 1;funext E x;rw[k4];congr 1;funext E y;exact zV
theorem qjm{m:Nat}:∀{ds:List D},D.flats m ds=true->∀d∈ds,d.flat m=true
 |[],_,d,h=>nomatch h
 |a::ds,hf,d,h=>by
  have hf:(a.flat m&&D.flats m ds)=true:=hf;rw[Bool.and_eq_true]at hf;rcases List.mem_cons.mp h with rfl|h
  ·exact hf.1
  ·exact qjm hf.2 d h
theorem kkg{r:Fn}{gj:D}{ds:List D}(hr:∀d∈ds,Oo r [(.no,d),(.no,d)] (λy=>y.2=.bl true) noX)(hz:YJ gj gj=some (vq ds ds)){N C:En->Prop}{R:Sd->Prop}
  (hN:∀l2 l3,N [some (.no,gj),some (.no,gj),l2,l3]):Po (qk (XZ (cV 0) (cV 1)) (.t [2,3]) (sIf (tNot (tEQ (vE (jW r [(cV 2),(cV 3)])))) (jQ (cC (.bl false))) qV) [some (.no,gj),some (.no,gj),none,none]) N C R noX:=by
 refine x8 (λE j9=>∃(l2 l3:Option Sd) (cf:List D),E=[some (.no,gj),some (.no,gj),l2,l3]/\j9=vq cf cf/\∀d∈cf,d∈ds) ?_ ?_ ?_
 ·simp![qxj,hz];exact⟨_,_,ds,rfl,rfl,λd h=>h⟩
 ·rintro E d j9 ⟨l2,l3,cf,rfl,he,hm⟩;cases cf with
  |nil=>cases he
  |cons x cf=>
   have he:d::j9=.tup [x,x]::vq cf cf:=he;injection he with e1 e2;subst e1 e2;simp![];refine(hr x (hm x X5)).via ?_;rintro ⟨o,y⟩ hy;have hy:y=.bl true:=hy;subst hy;simp![];exact⟨_,_,cf,rfl,rfl,λd h=>hm d (lc9 _ h)⟩
 ·rintro E ⟨l2,l3,cf,rfl,he,hm⟩;exact hN l2 l3
def Atm(d:D):Prop:=d=.non\/(∃b,d=.bl b)\/(∃z,d=.str z)\/∃i,d=.int i
noncomputable def Sm:Nat->D->Prop
 |0,d=>Atm d
 |m+1,d=>Atm d\/∃ds:List D,(d=.tup ds\/d=.lst ds)/\ds.length<=10000/\∀x∈ds,Sm m x
theorem kkh{r:Fn}{d:D}(h:Atm d):Oo (vk r) [(.no,d),(.no,d)] (λy=>y.2=.bl true) noX:=by
 unfold vk;simp only[hw];refine qX ?_;rcases h with rfl|⟨b,rfl⟩|⟨z,rfl⟩|⟨i,rfl⟩
 ·have e1:k9 "tuple" .non=some (.bl false):=rfl;have e2:k9 "list" .non=some (.bl false):=rfl;simp![e1,e2]
  first|done|rfl|trivial
 ·have e1:k9 "tuple" (.bl b)=some (.bl false):=rfl;have e2:k9 "list" (.bl b)=some (.bl false):=rfl;have e3:k9 "bool" (.bl b)=some (.bl true):=rfl;have e4:fEq (.bl true) (.bl true)=some (.bl true):=rfl;simp![e1,e2,e3,e4,C.eq_self (d:=.bl b) rfl]
  first|done|rfl|trivial
 ·have e1:k9 "tuple" (.str z)=some (.bl false):=rfl;have e2:k9 "list" (.str z)=some (.bl false):=rfl;have e3:k9 "bool" (.str z)=some (.bl false):=rfl;have e5:k9 "str" (.str z)=some (.bl true):=rfl;have e4:fEq (.bl false) (.bl false)=some (.bl true):=rfl;simp![e1,e2,e3,e4,e5,C.eq_self (d:=.str z) rfl]
  first|done|rfl|trivial
 ·have e1:k9 "tuple" (.int i)=some (.bl false):=rfl;have e2:k9 "list" (.int i)=some (.bl false):=rfl;have e3:k9 "bool" (.int i)=some (.bl false):=rfl;have e5:k9 "str" (.int i)=some (.bl false):=rfl;simp![e1,e2,e3,e5];refine(B.whole_int i).use ?_;intro _ _;simp![C.eq_self (d:=.int i) rfl]
  first|done|rfl|trivial
theorem kx7:∀{m:Nat} {d:D},Sm m d->Oo (wv vk (m+1)) [(.no,d),(.no,d)] (λy=>y.2=.bl true) noX
 | 0,d,h=>kkh h
 | m+1,d,h=>by
  rcases h with h|⟨ds,hd,hl,hs⟩
  ·exact kkh h
  ·have hr:∀x∈ds,Oo (wv vk (m+1)) [(.no,x),(.no,x)] (λy=>y.2=.bl true) noX:=λx hx=>kx7 (hs x hx)
   show Oo (vk (wv vk (m+1))) _ _ _;generalize wv vk (m+1)=r at hr;unfold vk;refine qX ?_;have b1:fNe (.bl true) (.bl true)=some (.bl false):=rfl;have b2:fNe (.bl false) (.bl false)=some (.bl false):=rfl;have b3:∀i:Int,fNe (.int i) (.int i)=some (.bl false):=λi=>qwd rfl
   rcases hd with rfl|rfl
   ·have e1:k9 "tuple" (.tup ds)=some (.bl true):=rfl;have e2:k9 "list" (.tup ds)=some (.bl false):=rfl;have hz:YJ (.tup ds) (.tup ds)=some (vq ds ds):=Xb ⟨by unfold big;omega,rfl⟩;simp![e1,e2,b1,b2,b3];refine kkg hr hz λl2 l3=>?_
    simp![]
    first|done|rfl|trivial
   ·have e1:k9 "tuple" (.lst ds)=some (.bl false):=rfl;have e2:k9 "list" (.lst ds)=some (.bl true):=rfl;have hz:YJ (.lst ds) (.lst ds)=some (vq ds ds):=Xb (by unfold big;omega);simp![e1,e2,b1,b2,b3];refine kkg hr hz λl2 l3=>?_
    simp![]
    first|done|rfl|trivial
theorem qv7{m:Nat}{d:D}(h:Atm d):Sm m d:=by
 cases m with
 |zero=>exact h
 |succ m=>exact .inl h
theorem sm_z{z:D}{n:Nat}(h:Cz z)(hf:∀to fs,z=.tup [.int to,.tup fs]->fs.length<=10000):Sm (n+2) z:=by
 rcases h with rfl|⟨to,fs,rfl⟩
 ·exact .inl (.inl rfl)
 ·have iy:=hf _ _ rfl;refine .inr ⟨_,.inl rfl,by simp,λx hx=>?_⟩;simp only[Xk,Xh,or_false]at hx;rcases hx with rfl|rfl
  ·exact .inl (.inr (.inr (.inr ⟨_,rfl⟩)))
  ·exact .inr ⟨_,.inl rfl,iy,λy hy=>by obtain⟨i,_,rfl⟩:=List.mem_map.mp hy;exact qv7 (.inr (.inr (.inr ⟨_,rfl⟩)))⟩
noncomputable def Ry(r:D):Prop:=∃(own:Int) (gd:Bool) (st:List D),r=.tup [.int own,.bl gd,.lst st]/\st.length<=10000/\∀c∈st,∃cs:List D,c=.lst cs/\cs.length<=10000/\∀z∈cs,Cz z/\∀to fs,z=.tup [.int to,.tup fs]->fs.length<=10000
theorem kqj{ss:List Str}{rs:List D}(hs:ss.length<=10000)(hl:rs.length<=10000)(h:∀r∈rs,Ry r):Sm 7 (jZ ss rs):=by
 refine .inr ⟨_,.inl rfl,by simp,λx hx=>?_⟩;simp only[Xk,Xh,or_false]at hx;rcases hx with rfl|rfl
 ·exact .inr ⟨_,.inr rfl,by rw[X3];exact hs,λy hy=>by obtain⟨w,_,rfl⟩:=List.mem_map.mp hy;exact .inl (.inr (.inr (.inl ⟨_,rfl⟩)))⟩
 ·refine .inr ⟨_,.inr rfl,hl,λr hr=>?_⟩;obtain⟨own,gd,st,rfl,h1,h2⟩:=h r hr;refine .inr ⟨_,.inl rfl,by simp,λx hx=>?_⟩;simp only[Xk,Xh,or_false]at hx;rcases hx with rfl|rfl|rfl
  ·exact .inl (.inr (.inr (.inr ⟨_,rfl⟩)))
  ·exact .inl (.inr (.inl ⟨_,rfl⟩))
  ·refine .inr ⟨_,.inr rfl,h1,λc hc=>?_⟩;obtain⟨cs,rfl,h3,h4⟩:=h2 c hc;exact .inr ⟨_,.inr rfl,h3,λz hz=>sm_z (h4 z hz).1 (h4 z hz).2⟩
end Nk60
namespace Nk60
open Q PySem C
def qx(kps:List Int)(rs:List D):List Int:=kps++(if rs.any wW=true then[0]else[])
theorem kjy:∀{a b:List Int},a.map D.int=b.map D.int->a=b
 |[],[],_=>rfl
 |[],_::_,h=>nomatch h
 |_::_,[],h=>nomatch h
 |x::a,y::b,h=>by
  rw[List.map_cons,List.map_cons]at h;injection h with h1 h2;injection h1 with h1;rw[h1,kjy h2]
section
variable {kps:List Int}{ss:List Str}{rs:List D}
theorem Z9{i:Nat}(h:i<kps.length):(qx kps rs).getD i 0=kps.getD i 0:=by
 unfold qx;rw[X7,X7,Y6 h]
theorem kvr:kps.length<=(qx kps rs).length:=by unfold qx;simp
theorem kj9{i:Nat}{r:D}(h:rs[i]?=some r):(k8 ss rs)[i]?=some (J0 rs.length r):=by
 have hi:=(List.getElem?_eq_some_iff.mp h).1;unfold k8;rw[Y6 (by simpa using hi),Xg,h];rfl
theorem vjd{own:Int}{gd:D}{st cs:List D}{i:Nat}(h:rs[i]?=some (.tup [.int own,gd,.lst st]))(hc:D.lst cs∈st)(hz:D.non∈cs):rs.any wW=true:=
 List.any_eq_true.mpr ⟨_,Xs h,List.any_eq_true.mpr ⟨_,hc,List.any_eq_true.mpr ⟨_,hz,rfl⟩⟩⟩
theorem kje(h:rs.any wW=true):(k8 ss rs)[rs.length]?=some (ZQ ss rs.length):=by
 unfold k8;rw[Y3 (by simp),h];simp
theorem kvi(hP:Prs kps ss.length rs):Prs (qx kps rs) ss.length (k8 ss rs):=by
 have hl:=hP.1;refine⟨by unfold k8 qx;rw[Xi,Xi,X3,hl];split<;>rfl,λi hi=>?_⟩
 by_cases hk:i<kps.length
 ·obtain⟨r,er,gd,st,rfl,fb,bq⟩:=hP.2 i hk;refine⟨_,kj9 er,!gd,st.map (xq rs.length),by rw[Z9 hk];rfl,by rw[X3];exact fb,λc hc=>?_⟩;obtain⟨c0,hc0,rfl⟩:=List.mem_map.mp hc;obtain⟨cs,rfl,cw,cb⟩:=bq c0 hc0;refine⟨cs.map (vj rs.length),rfl,by rw[X3,Z9 hk];exact cw,λk jc=>?_⟩;rw[X3]at jc;obtain⟨z,ez,hz⟩:=cb k jc;refine⟨vj rs.length z,by rw[Xg,ez];rfl,?_⟩;rw[Z9 hk];rcases hz with rfl|⟨to,fs,rfl,t0,t1,t2,t3,t4⟩
  ·have f8:=vjd er hc0 (Xs ez);refine .inr ⟨rs.length,[],rfl,by omega,?_,(λf h=>nomatch h),Xu,?_⟩
   ·unfold qx;rw[f8,Xi];simp;omega
   ·unfold qx;rw[f8,Y7,hl,X7,Y3 (X8 _),Nat.sub_self];rfl
  ·have:=kvr (kps:=kps) (rs:=rs);exact .inr ⟨to,fs,rfl,t0,by omega,t2,t3,by rw[Z9 (by omega)];exact t4⟩
 ·have f8:rs.any wW=true:=by
   cases h:rs.any wW with
   |true=>rfl
   |false=>unfold qx at hi;rw[h]at hi;simp at hi;omega
  have hik:i=kps.length:=by unfold qx at hi;rw[f8]at hi;simp at hi;omega
  subst hik;have h0:(qx kps rs).getD kps.length 0=0:=by
   unfold qx;rw[f8,X7,Y3 (X8 _),Nat.sub_self];rfl
  refine⟨_,by rw[<-hl];exact kje f8,true,_,by rw[h0];rfl,by rw[X3],λc hc=>?_⟩;obtain⟨w,_,rfl⟩:=List.mem_map.mp hc;refine⟨_,rfl,by rw[h0];rfl,λk hk=>?_⟩;have:k=0:=by simpa using hk
  subst this;refine⟨_,rfl,.inr ⟨rs.length,[],rfl,by omega,?_,(λf h=>nomatch h),Xu,?_⟩⟩
  ·unfold qx;rw[f8,Xi];simp;omega
  ·rw[Y7,hl,h0];rfl
def Rl(rs:List D)(s s':D):Prop:=(s≠.non/\s'=s)\/(s=.non/\rs.any wW=true/\s'=.tup [.int rs.length,iT []])
theorem qvb{s s' m:D}{w:Str×Int}(hP:Prs kps ss.length rs)(hr:Rl rs s s')(hw:w.1∈ss)(hd:Rd kps ss rs s w m)(hk:∀p∈kps,0<=p/\p<=3)(hok:Ok2 (qx kps rs) s'):∃m',Rd (qx kps rs) ss (k8 ss rs) s' w m'/\Rl rs m m'/\Ok2 (qx kps rs) m':=by
 have ln:=kvi hP;have hz:(ss.any λz=>z==w.1)=true:=List.any_eq_true.mpr ⟨_,hw,by simp⟩;have hk':∀p∈qx kps rs,0<=p/\p<=3:=λp hp=>by
  unfold qx at hp;rcases List.mem_append.mp hp with hp|hp
  ·exact hk p hp
  ·split at hp
   ·rw[List.mem_singleton.mp hp];decide
   ·cases hp
 obtain⟨m',gf,gl,_⟩:=qjr w ln hk' hok;refine⟨m',gf,?_,gl⟩;rcases hr with⟨cy,rfl⟩|⟨rfl,f8,rfl⟩
 ·rcases hd with⟨e,_⟩|⟨ae,ks,st,kp,gd,rfl,r0,er,hc,h3,rfl⟩
  ·exact absurd e cy
  rcases gf with⟨e,_⟩|⟨room',ks',cx,kp',gd',e,r0',ck,li,h3',rfl⟩
  ·exact absurd e cy
  injection e with e;injection e with e1 e;injection e with e2 _;injection e1 with e1;injection e2 with e2;have e2:ks=ks':=kjy e2;subst e1 e2;obtain⟨gb,hgb⟩:∃gb,gd=.bl gb:=by
   obtain⟨r,nh,gb,bi,e3,_⟩:=hP.2 ae.toNat (by rw[<-hP.1];exact(List.getElem?_eq_some_iff.mp er).1);rw[er]at nh;cases nh;injection e3 with e3;injection e3 with _ e3;injection e3 with e3 _;exact⟨gb,e3⟩
  subst hgb;rw[kj9 er]at ck;have es:cx=st.map (xq rs.length):=by
   have ck:=oq9 ck;injection ck with ck;injection ck with _ ck;injection ck with _ ck;injection ck with ck _;injection ck with ck;exact ck.symm
  subst es;obtain⟨cs,g1,g2,g3,g4⟩:=qj4 w.2 hc hz;have lf:xv ss (st.map (xq rs.length)) ks w.1 w.2=vj rs.length (xv ss st ks w.1 w.2):=by
   unfold xv;rw[Xg,g1];show(cs.map (vj rs.length)).getD _ .non=vj rs.length (cs.getD _ .non);have df:=(List.getElem?_eq_some_iff.mp g3).1;rw[X7,X7,Xg,X1 df];rfl
  unfold Kk;rw[hz,Xb rfl,Xb rfl,lf];generalize hcg:xv ss st ks w.1 w.2=c at g3 g4;rcases g4 with rfl|⟨to,fs,rfl,_⟩
  ·refine .inr ⟨rfl,?_,rfl⟩;obtain⟨own,eo⟩:∃own,kp=D.int own:=by
    obtain⟨r,nh,gb2,bi,e3,_⟩:=hP.2 ae.toNat (by rw[<-hP.1];exact(List.getElem?_eq_some_iff.mp er).1);rw[er]at nh;cases nh;injection e3 with e3;injection e3 with e3 _;exact⟨_,e3⟩
   subst eo;exact vjd er (Xs g1) (Xs g3)
  ·refine .inl ⟨?_,rfl⟩;rw[show qkp ks w.2 (.tup [.int to,.tup (fs.map D.int)])=.tup [.int to,iT (fs.map (Jj ks w.2))]from caseD_is];exact λh=>nomatch h
 ·rcases hd with⟨_,rfl⟩|⟨_,_,_,_,_,e,_⟩
  rotate_left
  ·cases e
  rcases gf with⟨e,_⟩|⟨room',ks',cx,kp',gd',e,r0',ck,li,h3',rfl⟩
  ·cases e
  injection e with e;injection e with e1 e;injection e with e2 _;injection e1 with e1;injection e2 with e2;have e2:([]:List Int)=ks':=kjy e2;subst e1 e2;rw[Y7,kje f8]at ck;have es:cx=ss.map λ_=>.lst [.tup [.int rs.length,.tup []]]:=by
   have ck:=oq9 ck;injection ck with ck;injection ck with _ ck;injection ck with _ ck;injection ck with ck _;injection ck with ck;exact ck.symm
  subst es;refine .inr ⟨rfl,f8,?_⟩;unfold Kk;rw[hz,Xb rfl];have lf:xv ss (ss.map λ_=>.lst [.tup [.int rs.length,.tup []]]) [] w.1 w.2=.tup [.int rs.length,.tup []]:=by
   unfold xv;rw[Xg,X1 (vjx hz)];rfl
  rw[lf];rfl
theorem kvf(hP:Prs kps ss.length rs)(hk:∀p∈kps,0<=p/\p<=3):∀{L:Lw} {s s' m:D},(∀w∈L,w.1∈ss)->Rl rs s s'->Ok2 (qx kps rs) s'->Ch2 kps ss rs s L m->∃m',Ch2 (qx kps rs) ss (k8 ss rs) s' L m'/\Rl rs m m'/\Ok2 (qx kps rs) m'
 |[],s,s',m,_,hr,hok,h=>by
  cases(show s=m from h);exact⟨s',rfl,hr,hok⟩
 |w::L,s,s',m,hw,hr,hok,⟨n,h1,h2⟩=>by
  obtain⟨n',d1,d2,d3⟩:=qvb hP hr (hw w X5) h1 hk hok;obtain⟨m',c1,c2,c3⟩:=kvf hP hk (λw h=>hw w (lc9 _ h)) d2 d3 h2;exact⟨m',⟨n',d1,c1⟩,c2,c3⟩
theorem qvc{s s':D}(hP:Prs kps ss.length rs)(hok:Ok2 kps s)(hr:Rl rs s s'):C.goodD (k8 ss rs) s'=!C.goodD rs s:=by
 rcases hr with⟨cy,rfl⟩|⟨rfl,f8,rfl⟩
 ·rcases hok with rfl|⟨ae,ks,rfl,r0,r1,_⟩
  ·exact absurd rfl cy
  ·obtain⟨r,er,gd,st,rfl,_⟩:=hP.2 ae.toNat (by omega);unfold C.goodD;dsimp only;rw[er,kj9 er];rfl
 ·unfold C.goodD;dsimp only;rw[Y7,kje f8];rfl
theorem kvz(hP:Prs kps ss.length rs)(hk:∀p∈kps,0<=p/\p<=3):∀(L:Lw) {s:D},Ok2 kps s->∃m,Ch2 kps ss rs s L m/\Ok2 kps m
 |[],s,h=>⟨s,rfl,h⟩
 |w::L,s,h=>by
  obtain⟨n,h1,h2,_⟩:=qjr w hP hk h;obtain⟨m,h3,h4⟩:=kvz hP hk L h2;exact⟨m,⟨n,h1,h3⟩,h4⟩
end
end Nk60
namespace Nk60
open Q PySem C
theorem g1:m__law_cell_at=B.m__law_cell_at:=rfl
theorem g2:m__law_signs=B.m__law_signs:=rfl
theorem g3:m__law_plain=B.m__law_plain:=rfl
theorem g4:Yq=C.plets:=rfl
def qwr:D->D
 |.tup [own,gd,.lst st]=>.tup [own,gd,.lst (st.map (xq 0))]
 |r=>r
theorem kzv{ss:List Str}{rs:List D}(hl:rs.length<=6)(h:∀r∈rs,Rz r):Oo W7 [(.no,jZ ss rs)] (λy=>∃_:Unit,y=(.no,jZ ss (rs.map qwr))/\True) noX:=by
 unfold W7;refine qX ?_;simp![];refine x8 (λE j9=>∃(pre:List D) (l2 l3 l4 l5:Option Sd),E=[some (.no,jZ ss rs),some (.rt,.lst (pre.map qwr)),l2,l3,l4,l5]/\rs=pre++j9) ?_ ?_ ?_
 ·simp![p1];exact⟨[],_,_,_,_,rfl,rfl⟩
 ·rintro E d ds ⟨pre,l2,l3,l4,l5,rfl,bp⟩;obtain⟨own,gd,st,rfl,j',bq⟩:=h d (by rw[bp];simp);have bg:pre.length<=6:=by have:=congrArg List.length bp;simp at this;omega
  have i0:∀a b:D,kw (.lst [a,b]) (.int 0)=some a:=λ_ _=>rfl
  have i1:∀a b:D,kw (.lst [a,b]) (.int 1)=some b:=λ_ _=>rfl
  have j0:vY (.bl false)=some (.int 0):=rfl;have j1:vY (.bl true)=some (.int 1):=rfl;simp![];refine Jv [] (λd y=>y.2=xq 0 d) ?_;simp![];refine⟨λd hd=>?_,λys hy=>?_⟩
  ·obtain⟨cs,rfl,cb⟩:=bq d hd;refine Jv [] (λd y=>y.2=vj 0 d) ?_;simp![];refine⟨λd hd=>?_,λys hy=>?_⟩
   ·rcases cb d hd with rfl|⟨to,fs,rfl⟩
    ·simp![i1,j1];exact⟨⟨_,rfl⟩,rfl⟩
    ·simp![i0,j0];exact⟨⟨_,rfl⟩,rfl⟩
   ·rw[xJ,Q7 (h:=vj 0) (λd y h=>h) hy];simp only[back,clr];exact⟨⟨_,rfl⟩,rfl⟩
  ·rw[xJ,Q7 (h:=xq 0) (λd y h=>h) hy];simp only[back,clr];simp![];refine KZ rfl ?_;simp![];refine⟨_,rfl,by rw[X3];omega,pre++[.tup [.int own,.bl gd,.lst st]],some (.no,.int own),some (.no,.bl gd),some (.no,.lst st),some (.no,.lst (st.map (xq 0))),?_,by rw[bp];simp⟩;rw[Xm];rfl
 ·rintro E ⟨pre,l2,l3,l4,l5,rfl,bp⟩;rw[Xr]at bp;subst bp;simp![p0,W4 (o:=.no) (xs:=ss.map D.str) (by decide)]
  first|trivial|exact⟨(),trivial⟩|exact⟨(),rfl,trivial⟩
theorem qjz{kps:List Int}{n:Nat}{rs:List D}(hP:Prs kps n rs)(hk:kps[0]?=some 0):Prs kps n (rs.map qwr):=by
 have hk1:=(List.getElem?_eq_some_iff.mp hk).1;refine⟨by rw[X3];exact hP.1,λi hi=>?_⟩;obtain⟨r,er,gd,st,rfl,fb,bq⟩:=hP.2 i hi;refine⟨_,by rw[Xg,er];rfl,gd,st.map (xq 0),rfl,by rw[X3];exact fb,λc hc=>?_⟩;obtain⟨c0,hc0,rfl⟩:=List.mem_map.mp hc;obtain⟨cs,rfl,cw,cb⟩:=bq c0 hc0;refine⟨cs.map (vj 0),rfl,by rw[X3];exact cw,λk jc=>?_⟩;rw[X3]at jc;obtain⟨z,ez,hz⟩:=cb k jc;refine⟨vj 0 z,by rw[Xg,ez];rfl,?_⟩;rcases hz with rfl|h
 ·exact .inr ⟨0,[],rfl,by omega,by omega,(λf h=>nomatch h),Xu,by rw[X7,show(0:Int).toNat=0 from rfl,hk];rfl⟩
 ·obtain⟨to,fs,rfl,h⟩:=h;exact .inr ⟨to,fs,rfl,h⟩
theorem qxz{kps:List Int}{ss:List Str}{rs:List D}(hs:ss.length<=3)(hP:Prs kps ss.length rs):∀r∈rs,Rz r:=λr hr=>by
 obtain⟨i,hi,e⟩:=List.mem_iff_getElem.mp hr;obtain⟨r',er,gd,st,e2,fb,bq⟩:=hP.2 i (by rw[<-hP.1];exact hi);rw[X1 hi,e]at er;cases oq9 er;refine⟨_,gd,st,e2,by omega,λc hc=>?_⟩;obtain⟨cs,rfl,_,cb⟩:=bq c hc;refine⟨cs,rfl,λz hz=>?_⟩;obtain⟨k,hk,e⟩:=List.mem_iff_getElem.mp hz;obtain⟨z',ez,h⟩:=cb k hk;rw[X1 hk,e]at ez;cases oq9 ez;rcases h with rfl|⟨to,fs,rfl,_⟩
 ·exact .inl rfl
 ·exact .inr ⟨to,fs,rfl⟩
theorem qz0{kps:List Int}{ss:List Str}{rs:List D}(hs:ss.length<=3)(hk:∀p∈kps,0<=p/\p<=3)(hP:Prs kps ss.length rs):∀r∈rs,Ry r:=λr hr=>by
 obtain⟨i,hi,e⟩:=List.mem_iff_getElem.mp hr;have hik:i<kps.length:=by rw[<-hP.1];exact hi
 obtain⟨r',er,gd,st,e2,fb,bq⟩:=hP.2 i hik;rw[X1 hi,e]at er;cases oq9 er;have gk:∀j:Nat,j<kps.length->0<=kps.getD j 0/\kps.getD j 0<=3:=λj hj=>hk _ (by rw[X7,X1 hj];exact Y5 _)
 have:=gk i hik;refine⟨_,gd,st,e2,by omega,λc hc=>?_⟩;obtain⟨cs,rfl,cw,cb⟩:=bq c hc;refine⟨cs,rfl,by omega,λz hz=>?_⟩;obtain⟨k,hk,e⟩:=List.mem_iff_getElem.mp hz;obtain⟨z',ez,h⟩:=cb k hk;rw[X1 hk,e]at ez;cases oq9 ez;rcases h with rfl|⟨to,fs,rfl,t0,t1,_,_,t4⟩
 ·exact⟨.inl rfl,λ_ _ h=>nomatch h⟩
 ·refine⟨.inr ⟨to,fs,rfl⟩,λto' fs' e=>?_⟩;injection e with e;injection e with _ e;injection e with e _;injection e with e;rw[<-e,X3];have:=gk to.toNat (by omega);omega
theorem qkn(ns:List Int)(hnl:ns.length<=63):Oo Kz [(.no,iL ns)] (λy=>∃ss rs,y=(.no,jZ ss rs)/\1<=ss.length/\ss.length<=3/\∃kps:List Int,1<=kps.length/\kps.length<=6/\kps[0]?=some 0/\(∀p∈kps,0<=p/\p<=3)/\Prs kps ss.length rs) noX:=by
 unfold Kz;simp only[g1,g2,g3];refine qX ?_;simp![];refine(B.cell_ok ns 1 (by omega)).use ?_;intro _ _;simp![];refine(B.cell_ok ns 0 (by omega)).use ?_;intro _ _;simp![];refine(B.signsB_ok (B.cellAt ns 0)).use ?_;rintro ss ⟨h8,fc⟩;simp![];refine(B.plainB_ok (B.cellAt ns 1) ss h8 fc).use ?_;rintro rs ⟨kps,k1,k6,k0,hk,hP⟩;simp![];refine(B.cell_ok ns 2 (by omega)).use ?_;intro _ _;have hm:=mod_i (a:=B.cellAt ns 2) (b:=4) (by decide)
 by_cases h:B.cellAt ns 2 % 4=1
 ·have e:fEq (.int (B.cellAt ns 2 % 4)) (.int 1)=some (.bl true):=by rw[h];rfl
  simp![hm,e];refine(kzv (by rw[hP.1];exact k6) (qxz fc hP)).use ?_;intro _ _;simp![];exact⟨ss,_,rfl,h8,fc,kps,k1,k6,k0,hk,qjz hP k0⟩
 ·have e:fEq (.int (B.cellAt ns 2 % 4)) (.int 1)=some (.bl false):=by rw[qwt];simp[h]
  simp![hm,e];exact⟨ss,rs,rfl,h8,fc,kps,k1,k6,k0,hk,hP⟩
theorem qvs(c n:Int)(h0:0<=n)(h7:n<=7):Oo W1 [(.no,.int c),(.no,.int n)] (λy=>∃ps,y=(.rt,iL ps)/\(ps.length:Int)=n) noX:=by
 have hp:((10:Int) ^ (Int.toNat 59))=10 ^ 59:=rfl;have hm:k7 (.int c) (.int (10 ^ 59))=some (.int (c % 10 ^ 59)):=mod_i (by decide);have h1:=Xx c (show(10 ^ 59:Int)≠0 by decide);have h2:=Xl c (show(0:Int)<10 ^ 59 by decide);unfold W1;refine qX ?_;simp![];refine Jv [some (.no,.int c)] (λ_ y=>∃i,y=(.dp,.int i)/\True) ?_;refine qwm ?_;simp![];refine⟨_,rfl,by omega,by omega,rfl,λd hd=>?_,λys hy=>?_⟩
 ·obtain⟨i,i0,i1,rfl⟩:=kz8 hd;have hb:KW (.no,.int (c % 10 ^ 59+1)) (.no,.int (i+1))=some (.dp,.int ((c % 10 ^ 59+1)*(i+1))):=vjb (by omega) (by omega) (by omega) (by omega);have mv:KW (.no,.int 5) (.no,.int (10 ^ 59))=some (.dp,.int (5*10 ^ 59)):=vjb (by decide) (by decide) (by decide) (by decide);simp![hp,hm,hb,mv];exact⟨⟨_,rfl⟩,_,rfl,trivial⟩
 ·obtain⟨ps,e1,e2,_⟩:=jz6 (S:=λ_=>True) (λd y ⟨i,h,s⟩=>⟨i,by rw[h],s⟩) hy;rw[xJ,e1];exact⟨ps,rfl,by rw[e2,kzf (by omega)];omega⟩
end Nk60
namespace Nk60
open Q PySem C
theorem qqa{E:En}{i:Nat}{ps:List (Int ⊕ Nat)}{c:Ex}{d:D}{zs:List Int}{p:List Nat}{ds:List D}{N C:En->Prop}{R:Sd->Prop}{X:XP}(h0:E[i]?=some (some (.dp,d)))(hz:QX E ps=some zs)(hn:xz zs d=some p)(cp:D.at p d=some (.lst ds))(hl:ds.length<10000)
  (h:Eo (c (E.set i none)) (λE1 x=>x.2.pure=true/\N (E1.set i (some (.dp,D.put (.lst (ds++[x.2])) p d)))) X):Po (W9 i ps c E) N C R X:=by
 unfold W9;rw[h0,hz];dsimp only;rw[hn];exact vj1 h0 cp hl h
theorem kq6:∀(n k:Nat) (rs:List D),k+n=rs.length->(∀j,k<=j->j<rs.length->∃a b l,rs[j]?=some (.tup [a,b,.lst l]))->∃jy,Qv n k (.lst rs)=some (.lst jy)
 | 0,_,rs,_,_=>⟨rs,rfl⟩
 | n+1,k,rs,hk,hs=>by
  have df:k<rs.length:=by omega
  obtain⟨a,b,l,hg⟩:=hs k (X8 _) df;have cp:D.at [k] (.lst rs)=some (.tup [a,b,.lst l]):=by
   show(match rs[k]? with|some d=>D.at [] d|none=>none)=_;rw[hg];rfl
  have b9:D.put (.lst []) [k,2] (.lst rs)=.lst (rs.set k (.tup [a,b,.lst []])):=by
   show(match rs[k]? with|some d=>Q.D.lst (rs.set k (D.put (.lst []) [2] d))|none=>_)=_;rw[hg];rfl
  unfold Qv;rw[cp];dsimp only;rw[b9];refine kq6 n (k+1) (rs.set k _) (by rw[Ye];omega) λj hj je=>?_
  rw[Ye]at je;obtain⟨a',b',l',e⟩:=hs j (by omega) je;exact⟨a',b',l',by rw[Xn (by omega)];exact e⟩
theorem qkm{E:En}{i r1 r2 r3:Nat}{p:List Nat}{d:D}{rs:List D}{N C:En->Prop}{R:Sd->Prop}{X:XP}(h0:E[i]?=some (some (.dp,d)))(cp:D.at p d=some (.lst rs))(h1:r1<E.length)(h2:r2<E.length)(h3:r3<E.length)(hs:∀x∈rs,∃a b l,x=.tup [a,b,.lst l])
  (h:∀jy,N (((((E.set i none).set r1 none).set r2 none).set r3 none).set i (some (.dp,D.put (.lst jy) p d)))):Po (WX i r1 r2 r3 p E) N C R X:=by
 obtain⟨jy,he⟩:=kq6 rs.length 0 rs (by omega) λj _ hj=>by
  obtain⟨a,b,l,e⟩:=hs rs[j] (Y5 _);exact⟨a,b,l,by rw[X1 hj,e]⟩
 unfold WX;rw[h0];dsimp only;rw[cp];dsimp only;rw[Xb ⟨h1,h2,h3⟩,he];dsimp only;rw[qvu];exact h jy
theorem qw2{ss:List Str}{rs st cs:List D}{n k:Nat}{a b:Int}{own gd:D}(ha:Q.ixN rs.length a=some n)(hr:rs[n]?=some (.tup [own,gd,.lst st]))(hb:Q.ixN st.length b=some k)(hk:st[k]?=some (.lst cs)):
  xz [1,a,2,b] (jZ ss rs)=some [1,n,2,k]/\D.at [1,n,2,k] (jZ ss rs)=some (.lst cs)/\∀y,D.put y [1,n,2,k] (jZ ss rs)=jZ ss (rs.set n (.tup [own,gd,.lst (st.set k y)])):=by
 refine⟨?_,?_,λy=>?_⟩
 ·show(xz [a,2,b] (.lst rs)).map (1 :: ·)=_;unfold xz;rw[ha];dsimp only;rw[hr];dsimp only;show((((xz [b] (.lst st)).map (2 :: ·)).map (n :: ·)).map (1 :: ·))=_;unfold xz;rw[hb];dsimp only;rw[hk];rfl
 ·show(match rs[n]? with|some d=>D.at [2,k] d|none=>none)=_;rw[hr];show(match st[k]? with|some d=>D.at [] d|none=>none)=_;rw[hk];rfl
 ·show D.tup [sL ss,match rs[n]? with|some d=>Q.D.lst (rs.set n (D.put y [2,k] d))|none=>_]=_;rw[hr];show D.tup [sL ss,.lst (rs.set n (.tup [own,gd,match st[k]? with|some d=>Q.D.lst (st.set k (D.put y [] d))|none=>_]))]=_;rw[hk];rfl
theorem kvx{ss:List Str}{G:D->Sd->Prop}(hG:∀d y,G d y->∃(z:Str) (i:Int),y.2=.tup [.str z,.int i]/\z∈ss):∀{ds:List D} {ys:List Sd},Each G ds ys->∃L:Lw,ys.map (·.2)=xx L/\L.length=ds.length/\∀w∈L,w.1∈ss
 |[],[],_=>⟨[],rfl,rfl,λ_ h=>nomatch h⟩
 |d::ds,y::ys,r=>by
  obtain⟨z,i,e,s⟩:=hG d y r.1;obtain⟨L,h1,h2,h3⟩:=kvx hG r.2;exact⟨(z,i)::L,by rw[List.map_cons,h1,e];rfl,by simp[h2],λp hp=>(List.mem_cons.mp hp).elim (λz=>z▸s) (h3 p)⟩
theorem vk0(ns:List Int)(lo hi:Option Int):∃cells:List Int,xX (ns.map D.int) lo hi=cells.map D.int/\(∀c∈cells,c∈ns)/\cells.length<=ns.length:=by
 unfold xX;refine⟨(ns.drop _).take _,by rw[List.map_take,List.map_drop],λc hc=>List.mem_of_mem_drop (List.mem_of_mem_take hc),?_⟩;rw[List.length_take,Ym];omega
theorem vjj(ns:List Int)(hnl:ns.length<=63):Oo m_law [(.no,iL ns)] (λy=>y.2=.bl true) noX:=by
 obtain⟨⟨oy,dy⟩,⟨ss,rs,hy,h8,fc,kps,k1,k6,k0z,hk,hP⟩,hdet⟩:=B.oo_det (qkn ns hnl);injection hy with hy1 hy2;subst hy1 hy2;have hdr:Oo Kz [(.no,iL ns)] (λy=>∃_:Unit,y=(.no,jZ ss rs)/\True) noX:=hdet.mono λy h=>⟨(),h,trivial⟩
 have hrl:rs.length=kps.length:=hP.1;have hz:=qxz fc hP;have ln:=kvi hP;have hk':∀p∈qx kps rs,0<=p/\p<=3:=λp hp=>by
  unfold qx at hp;rcases List.mem_append.mp hp with hp|hp
  ·exact hk p hp
  ·split at hp
   ·rw[List.mem_singleton.mp hp];decide
   ·cases hp
 have ni:=qz0 fc hk' ln;have hl7:(k8 ss rs).length<=7:=by unfold k8;rw[Xi,X3];split<;>simp<;>omega
 have jb:1<=(k8 ss rs).length:=by unfold k8;rw[Xi,X3];omega
 have ia:Sm 7 (jZ ss rs):=kqj (by omega) (by omega) (qz0 fc hk hP);have d8:Sm 7 (jZ ss (k8 ss rs)):=kqj (by omega) (by omega) ni;have dh:∀{d:D},Sm 7 d->Oo Qj [(.no,d),(.no,d)] (λy=>∃o':Own,y=(o',.bl true)/\True) noX:=fun {d} h=>(kx7 h).mono λ⟨o,y⟩ hy=>⟨o,by rw[show y=.bl true from hy],trivial⟩
 unfold m_law;simp only[g1,g4];refine qX ?_;simp![];refine hdr.use ?_;intro _ _;simp![];refine(qqm fc (by omega) hz).use ?_;intro _ _;simp![];refine(kk9 fc (by omega) hz).use ?_;intro _ _;simp![];refine(dh d8).use ?_;intro _ _;simp![];refine hdr.use ?_;intro _ _;simp![];refine(dh ia).use ?_;intro _ _;simp![];refine(B.cell_ok ns 3 (by omega)).use ?_;intro _ _;simp![];refine(B.cell_ok ns 2 (by omega)).use ?_;intro _ _;have q0:=Xx (B.cellAt ns 2 / 4) (show(7:Int)≠0 by decide);have q1:=Xl (B.cellAt ns 2 / 4) (show(0:Int)<7 by decide);simp![];refine(qvs _ _ (by omega) (by omega)).use ?_;rintro ps bg;simp![];have fb:(ss.length:Int)≠0:=by omega
 obtain⟨cells,hc1,_,hc3⟩:=vk0 ns (some 4) (some 64);have p0m:kw (jZ ss rs) (.int 0)=some (sL ss):=rfl;have p1m:∀xs:List D,kw (jZ ss xs) (.int 1)=some (.lst xs):=λ_=>rfl
 refine Jv [some (.no,jZ ss rs),some (.rt,iL ps)] (λ_ y=>∃(z:Str) (i:Int),y.2=.tup [.str z,.int i]/\z∈ss) ?_;simp![V6 (o:=.no) (xs:=ns.map D.int) (lo:=some 4) (hi:=some 64) (by decide),hc1];refine⟨rfl,λd hd=>?_,λys hy=>?_⟩
 ·obtain⟨c,_,rfl⟩:=List.mem_map.mp hd;have u0:=Xx c fb;have u1:=Xl c (show(0:Int)<ss.length by omega);have w0:=Xx (c / 3) (show(ps.length:Int)≠0 by omega);have w1:=Xl (c / 3) (show(0:Int)<ps.length by omega);have esg:kw (sL ss) (.int (c % ss.length))=some (.str (ss[(c % ss.length).toNat]'(by omega))):=Jq u0 (by rw[Xg,X1 (by omega)];rfl);have hsgm:ss[(c % ss.length).toNat]'(by omega)∈ss:=Y5 _;obtain⟨nm,enm,_,_⟩:=ixI ps (λ_=>True) (λ_ _=>trivial) (c / 3 % ps.length) w0 (by omega);simp![p0m,mod_i (a:=c) (b:=(ss.length:Int)) (by omega),esg,mod_i (a:=c / 3) (b:=(ps.length:Int)) (by omega),enm];exact⟨⟨_,rfl⟩,_,_,rfl,hsgm⟩
 obtain⟨L,e1,e2,hLs⟩:=kvx (λd y h=>h) hy;have hL60:L.length<=63:=by rw[e2,X3];omega
 rw [xJ,e1];simp only[back,clr,at',List.map_cons,List.map_nil,List.set_cons_zero,List.set_cons_succ];simp![];refine x8 (λE j9=>∃(k:Int) (l6 l7 l8:Option Sd),E=[some (.no,iL ns),some (.no,jZ ss rs),some (.dp,jZ ss (k8 ss rs)),some (.dp,jZ ss (k8 ss rs)),some (.rt,iL ps),some (.rt,.lst (xx L)),l6,l7,l8,none,none,none,none,none]/\0<=k/\k<=L.length+1/\j9=jY k (L.length+1)) ?_ ?_ ?_
 ·simp![];exact⟨0,_,_,_,rfl,by omega,by omega,rfl⟩
 ·rintro E d ds ⟨k,l6,l7,l8,rfl,k0,k1',hr⟩;obtain⟨hkn,rfl,rfl⟩:=K0 k1' hr;have hck:xX (xx L) none (some k)=xx (L.take k.toNat):=by rw[qj0 k0 (by rw[X3];omega)];simp[xx,List.map_take]
  obtain⟨m,cj,hok⟩:=kvz hP hk (L.take k.toNat) (s:=st0) (.inr ⟨0,[],rfl,by decide,by omega,by rw[show(Int.toNat 0)=0 from rfl,X7,k0z];rfl⟩);have hg0:kps.getD 0 0=0:=by rw[X7,k0z];rfl
  obtain⟨m',hch',hrl',gl⟩:=kvf hP hk (L:=L.take k.toNat) (s:=st0) (s':=st0) (λw hw=>hLs w (List.mem_of_mem_take hw)) (.inl ⟨(λh=>nomatch h),rfl⟩) (.inr ⟨0,[],rfl,by decide,by have:=@kvr kps rs;omega,by rw[show(Int.toNat 0)=0 from rfl,Z9 (by omega),hg0];rfl⟩) cj;have lu:=qvc hP hok hrl';have ib:∀b,k9 "bool" (.bl b)=some (.bl true):=λ_=>rfl
  have kh:=V6 (o:=.rt) (xs:=xx L) (lo:=none) (hi:=some k) (by decide);rw [hck]at kh;have heq:∀b,fEq (.bl b) (.bl (!b))=some (.bl false):=λb=>by cases b<;>rfl
  have kr:=V6 (o:=.no) (xs:=xx L) (lo:=none) (hi:=some k) (by decide);rw [hck]at kr;simp![kh,kr];refine(kze hP cj hok).via ?_;rintro ⟨o,d⟩ hd;have hd:d=.bl (goodD rs m):=hd;subst hd;simp![kh,kr];refine(kze ln hch' gl).via ?_;rintro ⟨o',d⟩ hd;have hd:d=.bl (goodD (k8 ss rs) m'):=hd;subst hd;rw [lu];simp![ib,heq];exact⟨k+1,_,_,_,rfl,by omega,by omega,rfl⟩
 rintro E ⟨k,l6,l7,l8,rfl,_,_,_⟩;simp![p1m];refine(B.cell_ok ns 2 (by omega)).use ?_;intro _ _;simp![p1m,vqx];refine(B.cell_ok ns 3 (by omega)).use ?_;intro _ _;simp![p0m,p1m];have hT:=ln.1;generalize ha:((if 0>B.cellAt ns 2 / 32 % (2*(k8 ss rs).length) - (k8 ss rs).length then 0 else B.cellAt ns 2 / 32 % (2*(k8 ss rs).length) - (k8 ss rs).length) - 1:Int)=bw;have lx:-1<=bw/\bw<(k8 ss rs).length:=by
  have:=Xl (B.cellAt ns 2 / 32) (show(0:Int)<2*(k8 ss rs).length by omega)
  split at ha<;>omega
 have b0:=Xx (B.cellAt ns 3) fb;have b1:=Xl (B.cellAt ns 3) (show(0:Int)<ss.length by omega);generalize B.cellAt ns 3 % ss.length=bt at b0 b1;obtain⟨n,hn,hnl⟩:∃n,Q.ixN (k8 ss rs).length bw=some n/\n<(k8 ss rs).length:=by
  unfold Q.ixN
  by_cases h:0<=bw
  ·exact⟨_,by rw[Xb h,Xb lx.2],by omega⟩
  ·exact⟨_,by rw[Xj h,Xb (by omega)],by omega⟩
 obtain⟨r,er,gd,st,rfl,hsl2,bq⟩:=ln.2 n (by omega);have hb:Q.ixN st.length bt=some bt.toNat:=by
  unfold Q.ixN;rw [Xb b0,Xb (by omega)]
 obtain⟨cs,ecs,cw,cb⟩:=bq st[bt.toNat] (Y5 (by omega));have md:st[bt.toNat]?=some (.lst cs):=by rw[X1 (by omega),ecs]
 have lp:(qx kps rs).getD n 0<=3:=(hk' _ (by rw[X7,X1 (by omega)];exact Y5 _)).2;obtain⟨z1,z2,z3⟩:=qw2 (ss:=ss) hn er hb md;have hmem:=Xs er;obtain⟨own,gd',cx,eq,j',hry⟩:=ni _ hmem;injection eq with eq;injection eq with eq1 eq;injection eq with eq2 eq;injection eq with eq3 _;injection eq3 with eq3;subst eq3;have hcz:=hry _ (Xs md);have cj:∀r∈(k8 ss rs).set n (.tup [.int ((qx kps rs).getD n 0),.bl gd,.lst (st.set bt.toNat (.lst (cs++[.non])))]),Ry r:=λr hr=>by
  rcases List.mem_or_eq_of_mem_set hr with hr|rfl
  ·exact ni r hr
  ·refine⟨_,gd,_,rfl,by rw[Ye];omega,λc hc=>?_⟩;rcases List.mem_or_eq_of_mem_set hc with hc|rfl
   ·exact hry c hc
   ·obtain⟨ld,e,_,b8⟩:=hcz;injection e with e;subst e;refine⟨_,rfl,by rw[Xi,List.length_singleton];omega,λz hz=>?_⟩;rcases List.mem_append.mp hz with hz|hz
    ·exact b8 z hz
    ·rw[List.mem_singleton.mp hz];exact⟨.inl rfl,λ_ _ h=>nomatch h⟩
 have smx:=kqj (ss:=ss) (by omega) (by rw[Ye];omega) cj;generalize hrs2:(k8 ss rs).set n (.tup [.int ((qx kps rs).getD n 0),.bl gd,.lst (st.set bt.toNat (.lst (cs++[.non])))])=rs2 at smx cj;have b9:D.put (.lst (cs++[.non])) [1,n,2,bt.toNat] (jZ ss (k8 ss rs))=jZ ss rs2:=by rw[z3,hrs2]
 refine qqa rfl rfl z1 z2 (by omega) ?_;simp![];rw[b9];refine qqa rfl rfl z1 z2 (by omega) ?_;simp![];rw[b9];refine(dh smx).use ?_;intro _ _;simp![];refine(qqm fc (by omega) hz).use ?_;intro _ _;simp![];refine vj1 rfl (ds:=ss.map D.str) rfl (by rw[X3];omega) ?_;simp![];have nj:∀y:D,D.put y [0] (jZ ss rs2)=.tup [y,.lst rs2]:=λ_=>rfl
 rw[nj];refine qkm (p:=[1]) (rs:=rs2) rfl rfl (by simp) (by simp) (by simp) (λx hx=>?_) λjy=>?_
 ·obtain⟨a,b,l,e,_⟩:=cj x hx;exact⟨_,_,l,e⟩
 simp![];refine vqo rfl (ds:=jy) rfl ?_;simp![];refine hdr.use ?_;intro _ _;simp![];refine(dh ia).use ?_;intro _ _;simp![];refine(kk9 fc (by omega) hz).use ?_;intro _ _;simp![];refine(dh d8).use ?_;intro _ _;simp![]
theorem law_true(ns:List Int)(hl:ns.length<=63)(hb:∀i∈ns,Builtin.Int.intBits i<=1048576):∃E o,m_law [(.no,.lst (ns.map D.int))]=some (.ok E (o,.bl true)):=by
 obtain⟨E,⟨o,d⟩,h,hd⟩:=(vjj ns hl).out;have hd:d=.bl true:=hd;subst hd;exact⟨E,o,h⟩
end Nk60
namespace Nk60
open PySem L2 L3 Q
def top(i:Nat):Stmt:=PySem.Challenge.pw_freshrooms_k60_turned.main.body.getD i (.Pass ⟨0,0,0,0⟩)
abbrev jxn:Stmt:=top 1
abbrev jq5:Stmt:=top 2
abbrev jv7:Stmt:=top 3
abbrev jqs:Stmt:=top 7
abbrev kjh:Stmt:=top 6
abbrev kjg:Stmt:=top 5
abbrev jqf:Stmt:=top 9
abbrev jv8:Stmt:=top 10
abbrev jqt:Stmt:=top 11
abbrev jv9:Stmt:=top 12
abbrev jvb:Stmt:=top 13
abbrev jvz:Stmt:=top 14
abbrev jva:Stmt:=top 15
abbrev jqu:Stmt:=top 16
abbrev jvc:Stmt:=top 17
abbrev jwo:Stmt:=top 18
abbrev jvx:Stmt:=top 19
abbrev jvy:Stmt:=top 20
abbrev qva:Stmt:=top 21
theorem sc_read_by:FnScope ["plain","standing","sign","name","names","cases","case","held"] ["plain","standing","sign","name"] (kW jxn):=mkS
theorem sc_stands_behind:FnScope ["plain","row","standing","sign","name"] ["plain","row"] (kW jq5):=mkS
theorem sc_plain_lets:FnScope ["plain","row","standing"] ["plain","row"] (kW jv7):=mkS
theorem jzj:FnScope ["room"] ["room"] (kW jqs):=mkS
theorem kx6:FnScope ["end","cases"] ["end","cases"] (kW kjh):=mkS
theorem sc_turned:FnScope ["plain","end","rooms"] ["plain"] (kW kjg):=mkS
theorem jxm:FnScope ["_law_script","_law_k"] ["_law_script","_law_k"] (kW jqf):=mkS
theorem kjf:FnScope ["_law_found"] ["_law_found"] (kW jv8):=mkS
theorem sc__law_stream:FnScope ["_law_cell","_law_many","_law_found","_law_k","_law_number"] ["_law_cell","_law_many"] (kW jqt):=mkS
theorem sc__law_signs:FnScope ["_law_cell","_law_letters","_law_xs","_law_base","_law_at","_law_found","_law_k"] ["_law_cell"] (kW jv9):=mkS
theorem sc__law_fills:FnScope ["_law_number","_law_need","_law_free","_law_pool_here","_law_found","_law_k"] ["_law_number","_law_need","_law_free"] (kW jvb):=mkS
theorem sc__law_case:FnScope ["_law_number","_law_sizes","_law_free","_law_rooms","_law_to"] ["_law_number","_law_sizes","_law_free"] (kW jvz):=mkS
theorem sc__law_plain:FnScope ["_law_cell","_law_signs_here","_law_xs","_law_many","_law_most","_law_sizes","_law_rooms","_law_at","_law_room","_law_steps","_law_s","_law_cases","_law_i"] ["_law_cell","_law_signs_here"] (kW jva):=mkS
theorem sc__law_filled:FnScope ["_law_plain_here","_law_rooms","_law_keepers","_law_good","_law_steps","_law_made"] ["_law_plain_here"] (kW jqu):=mkS
theorem sc__law_drawn:FnScope ["_law_script","_law_plain_here"] ["_law_script"] (kW jvc):=mkS
theorem sc__law_due:FnScope ["_law_plain_here","_law_last","_law_lacks","_law_rooms","_law_keepers","_law_good","_law_steps","_law_made","_law_cases"] ["_law_plain_here"] (kW jwo):=mkS
theorem sc__law_same:FnScope ["_law_found","_law_due_here","_law_one","_law_other"] ["_law_found","_law_due_here"] (kW jvx):=mkS
theorem kkf:FnScope ["_law_cell","_law_many"] ["_law_cell","_law_many"] (kW jvy):=mkS
theorem sc_law:FnScope ["_law_script","_law_plain_here","_law_due_here","_law_found","_law_pool_here","_law_row","_law_many","_law_here","_law_there","_law_at","_law_s","_law_keepers","_law_good","_law_steps"] ["_law_script"] (kW qva):=mkS
structure Txt (K:PySem.W.Frag)(mg:Str->Option Value):Prop where
 b_any:mg "any"=none
 b_bool:mg "bool"=none
 b_int:mg "int"=none
 b_isinstance:mg "isinstance"=none
 b_len:mg "len"=none
 b_list:mg "list"=none
 b_max:mg "max"=none
 b_range:mg "range"=none
 b_str:mg "str"=none
 b_tuple:mg "tuple"=none
 b_zip:mg "zip"=none
section
variable (P:Program)(w:PySem.World)(K:PySem.W.Frag)(mg:Str->Option Value)(base:Heap)
abbrev kqf:=kz P w K mg base 1 "read_by" ["plain","standing","sign","name"] (spF K mg 4 m_read_by)
abbrev jvn:=kz P w K mg base 2 "stands_behind" ["plain","row"] (spF K mg 2 jq8)
abbrev jx4:=kz P w K mg base 3 "plain_lets" ["plain","row"] (spF K mg 2 Yq)
abbrev jwh:=kz P w K mg base 1 "lacks_cases" ["room"] (spF K mg 1 YV)
abbrev kw7:=kz P w K mg base 1 "led_to" ["end","cases"] (spF K mg 2 WV)
abbrev kw6:=kz P w K mg base 2 "turned" ["plain"] (spF K mg 1 VQ)
abbrev jqj:=kz P w K mg base 1 "_law_cell_at" ["_law_script","_law_k"] (spF K mg 2 m__law_cell_at)
abbrev jx5:=kz P w K mg base 1 "_law_whole" ["_law_found"] (spF K mg 1 m__law_whole)
abbrev jv1:=kz P w K mg base 1 "_law_stream" ["_law_cell","_law_many"] (spF K mg 2 m__law_stream)
abbrev jx6:=kz P w K mg base 2 "_law_signs" ["_law_cell"] (spF K mg 1 m__law_signs)
abbrev jx8:=kz P w K mg base 1 "_law_fills" ["_law_number","_law_need","_law_free"] (spF K mg 3 m__law_fills)
abbrev jzf:=kz P w K mg base 2 "_law_case" ["_law_number","_law_sizes","_law_free"] (spF K mg 3 m__law_case)
abbrev jx7:=kz P w K mg base 3 "_law_plain" ["_law_cell","_law_signs_here"] (spF K mg 2 m__law_plain)
abbrev jwi:=kz P w K mg base 1 "_law_filled" ["_law_plain_here"] (spF K mg 1 W7)
abbrev jx9:=kz P w K mg base 4 "_law_drawn" ["_law_script"] (spF K mg 1 Kz)
abbrev kj5:=kz P w K mg base 1 "_law_due" ["_law_plain_here"] (spF K mg 1 Ww)
abbrev jzd:=kz P w K mg base 9 "_law_same" ["_law_found","_law_due_here"] (spF K mg 2 Qj)
abbrev jze:=kz P w K mg base 1 "_law_pool" ["_law_cell","_law_many"] (spF K mg 2 W1)
end
section
variable {P:Program}{w:PySem.World}{K:PySem.W.Frag}{mg:Str->Option Value}{base:Heap}{f:Addr}{fd:FuncData}
theorem kwi(T:Txt K mg)  (F:Fun K "read_by" "read_by" jxn f fd):FnOk P w K mg base (CXE P w) 1 f fd ["plain","standing","sign","name"] (spF K mg 4 m_read_by):=
 vx F sc_read_by (v9 rfl) λbd A outer s H vs Q E hr h=>have nd:=sc_read_by.nd;vw rfl
  (jq (vQ (QW.pt (Qq (wj Q6 QZ (vv 1) kn (qW _) kw2) (W2 (wj (qk6 hr.units) qkv (vv 2) (kx (vv 0) ki) (by rfl) qkt)))) (jV (kj kN)) vK) (jq (qA nd (qw (kx (vv 1) ki))) (jq (qA nd (qw (kx (kx (kx (kx (vv 0) ki) (kx (vv 1) ki)) ki) (j6 (kxk hr.units (kx (vv 0) ki) (vv 2)))))) (jq (qA nd (qw (kx (vv 5) (j6 (qzi (wj (qwa hr.units) qx4 (vv 3) (vv 4) (by rfl) vvg) (kxk hr.units (vv 4) (vv 3)) (qL (vv 4) T.b_len)))))) (jq (vQ (wj Q6 QZ (vv 6) kn (qW _) kw2) (jV (kj kN)) vK) (jq (qA nd (oA (vv 4) (j6 (qz (o:=.no) (j5 (cv 3) jv))))) (jV (kj (qz (o:=.no) (j5 (qw (kx (vv 6) ki)) (j5 (qT (j6 (qM .rt 1 [7] 8 ["fill","held"] (vZ (qw (kx (vv 6) ki))) (λ_ _ _ _ _=>(qw (kx (vv 1) (vv 0)))))) T.b_tuple) jv))))))))))) h
theorem jxc(T:Txt K mg)(cq:kqf P w K mg base)(F:Fun K "stands_behind" "stands_behind" jq5 f fd):FnOk P w K mg base (CXE P w) 2 f fd ["plain","row"] (spF K mg 2 jq8):=
 vx F sc_stands_behind (v9 rfl) λbd A outer s H vs Q E hr h=>have nd:=sc_stands_behind.nd;vw rfl
  (jq (qA nd (qz (o:=.no) (j5 kI (j5 (qz (o:=.no) jv) jv)))) (jq (qF (vZ (cv 1)) (vkp (is:=[3,4]) (Zj K (t:=gNs [3,4]) (n:=2) (x9 (gn nd) (x9 (gn nd) Z2)))) (jV (qA nd (qC cq hr (j5 (cv 0) (j5 (cv 2) (j5 (cv 3) (j5 (cv 4) jv)))))))) (jV (kj (Qw (pv 2)))))) h
theorem kjo(T:Txt K mg)(ba:jvn P w K mg base)(F:Fun K "plain_lets" "plain_lets" jv7 f fd):FnOk P w K mg base (CXE P w) 3 f fd ["plain","row"] (spF K mg 2 Yq):=
 vx F sc_plain_lets (v9 rfl) λbd A outer s H vs Q E hr h=>have nd:=sc_plain_lets.nd;vw rfl
  (jq (qA nd (qC ba hr (j5 (cv 0) (j5 (cv 1) jv)))) (jV (kj (Yz (j6 (zZ qw6 qx1 (vv 2) kn (qW _))) (W8 (qw (kx (kx (kx (vv 0) ki) (kx (vv 2) ki)) ki))))))) h
theorem jzm(T:Txt K mg)  (F:Fun K "lacks_cases" "lacks_cases" jqs f fd):FnOk P w K mg base (CXE P w) 1 f fd ["room"] (spF K mg 1 YV):=
 vx F jzj (v9 rfl) λbd A outer s H vs Q E hr h=>vw rfl
  (jV (kj (vqh (qjb K) qqv (j6 (qM .rt 1 [] 1 ["cases"] (vZ (qw (kx (vv 0) ki))) (λ_ _ _ _ _=>(zZ (qwa hr.units) qx4 kn (vv 0) (by rfl))))) T.b_any qqp))) h
theorem kz3(T:Txt K mg)  (F:Fun K "led_to" "led_to" kjh f fd):FnOk P w K mg base (CXE P w) 1 f fd ["end","cases"] (spF K mg 2 WV):=
 vx F kx6 (v9 rfl) λbd A outer s H vs Q E hr h=>vw rfl
  (jV (kj (qM .rt 1 [0] 2 ["case","end"] (vZ (cv 1)) (λ_ _ _ _ _=>(qzi (wj Q6 QZ (vv 0) kn (qW _) kw2) (qz (o:=.no) (j5 (cv 1) (j5 (qz (o:=.no) jv) jv))) (cv 0)))))) h
theorem kz2(T:Txt K mg)(bf:jwh P w K mg base)(dg:kw7 P w K mg base)(F:Fun K "turned" "turned" kjg f fd):FnOk P w K mg base (CXE P w) 2 f fd ["plain"] (spF K mg 1 VQ):=
 vx F sc_turned (v9 rfl) λbd A outer s H vs Q E hr h=>have nd:=sc_turned.nd;vw rfl
  (jq (qA nd (qL (kx (vv 0) ki) T.b_len)) (jq (kjj (i:=2) (o:=.dp) (k:=1) (R:=[1]) ["room","end"] nd rfl (by first|exact Or.inl rfl|exact Or.inr rfl) (vZ (qw (kx (vv 0) ki))) (λ_ _ _ _ _=>(V3 (Qx (i:=0) (show(["room","end"]:List Str).Nodup by decide +kernel) rfl (by first|exact Or.inl rfl|exact Or.inr rfl)))) (λ_ _ _ _ _=>qjt) (λ_ _ _ _ _=>(qz (o:=.dp) (j5 (qw (kx (vv 0) ki)) (j5 (qvi (kx (vv 0) ki)) (j5 (qM .dp 1 [1] 2 ["cases","end"] (vZ (qw (kx (vv 0) ki))) (λ_ _ _ _ _=>(ZY (qC dg hr (j5 (cv 1) (j5 (cv 0) jv)))))) jv))))) xw ⟨_,_,rfl,rfl⟩ (by decide) (show ∀j∈([1]:List Nat) ,j<3 by decide)) (jq (vQ (xW (j6 (vqh (qjb K) qqv (j6 (qM .rt 1 [] 3 ["room"] (vZ (qw (kx (vv 0) ki))) (λ_ _ _ _ _=>(qC bf hr (j5 (cv 0) jv))))) T.b_any qqp))) (jV (qP (qz (o:=.dp) (q:=false) (j5 (QE.weak kI) (j5 (QE.weak (q_C J7 (λ_=>zx))) (j5 (QE.weak (qM .dp 1 [1] 3 ["sign","end"] (vZ (qw (kx (vv 0) ki))) (λ_ _ _ _ _=>(wK (o:=.dp) (j5 (qz (o:=.no) (j5 (cv 1) (j5 (qz (o:=.no) jv) jv))) jv))))) WZ)))))) vK) (jV (kj (qz (o:=.dp) (q:=false) (j5 (QE.weak (ZY (Q0 (jxh K) kk5 (kx (vv 0) ki) T.b_list Kw))) (j5 (Qw (pv 2)) WZ)))))))) h
theorem jxw(T:Txt K mg)  (F:Fun K "_law_cell_at" "_law_cell_at" jqf f fd):FnOk P w K mg base (CXE P w) 1 f fd ["_law_script","_law_k"] (spF K mg 2 m__law_cell_at):=
 vx F jxm (v9 rfl) λbd A outer s H vs Q E hr h=>vw rfl
  (jq (vQ (wj vqr (vkg (g:=λa b=>decide (a<b))) (vv 1) (j6 (qL (vv 0) T.b_len)) (qW _) vka) (jV (kj (qw (kx (vv 0) (vv 1))))) vK) (jV (kj kI))) h
theorem kjp(T:Txt K mg)  (F:Fun K "_law_whole" "_law_whole" jv8 f fd):FnOk P w K mg base (CXE P w) 1 f fd ["_law_found"] (spF K mg 1 m__law_whole):=
 vx F kjf (v9 rfl) λbd A outer s H vs Q E hr h=>vw rfl
  (jV (kj (Yz (j6 (wY (vv 0) T.b_isinstance T.b_int kw1 rfl)) (W8 (qvi (j6 (wY (vv 0) T.b_isinstance T.b_bool VV rfl))))))) h
theorem jzn(T:Txt K mg)  (F:Fun K "_law_stream" "_law_stream" jqt f fd):FnOk P w K mg base (CXE P w) 1 f fd ["_law_cell","_law_many"] (spF K mg 2 m__law_stream):=
 vx F sc__law_stream (v9 rfl) λbd A outer s H vs Q E hr h=>have nd:=sc__law_stream.nd;vw rfl
  (jq (qA nd (wK (o:=.rt) jv)) (jq (vQ (wj (zK hr.units) zQ (j6 (oM (vv 0) ki)) ki (qW _) V4) (jq (qA nd (v7 xZ xY (vv 0) ki)) (jq (qF (zk (vv 1) rfl T.b_range) (gN nd) (jq (qP (oM (vv 0) ki)) (jV (qA nd (v7 xZ xY (vv 0) ki))))) (jV (kj (Qw (pv 2)))))) vK) (jq (qA nd (oA (j6 (oM (j6 (v7 xZ xY (vv 0) ki)) ki)) ki)) (jq (qF (zk (j6 (oA (vv 1) ki)) rfl T.b_range) (gN nd) (jq (qA nd (oM (j6 (oA (j6 (oA (j6 (oX (vv 4) (vv 4))) (j6 (oX ki (vv 4))))) (vv 3))) ki)) (jV (qP (oM (j6 (oA (j6 (oX (vv 4) ki)) (j6 (oX ki (vv 3))))) ki))))) (jV (kj (V2 (vv 2) (KK ki) VJ))))))) h
theorem kjq(T:Txt K mg)(aq:jv1 P w K mg base)(F:Fun K "_law_signs" "_law_signs" jv9 f fd):FnOk P w K mg base (CXE P w) 2 f fd ["_law_cell"] (spF K mg 1 m__law_signs):=
 vx F sc__law_signs (v9 rfl) λbd A outer s H vs Q E hr h=>have nd:=sc__law_signs.nd;vw rfl
  (jq (qA nd kS) (jq (qA nd (qC aq hr (j5 (cv 0) (j5 kI jv)))) (jq (qA nd (qzg qq8 (j6 (qM .rt 1 [1] 7 ["_law_x","_law_letters"] (vZ (V2 (vv 2) VJ (KK (j6 (oA ki (j6 (oM (vv 0) ki))))))) (λ_ _ _ _ _=>(qw (kx (vv 1) (j6 (oM (vv 0) ki))))))))) (jq (qA nd (oM (j6 (v7 xZ xY (vv 0) ki)) (j6 (qL (vv 3) T.b_len)))) (jq (qA nd (wK (o:=.rt) jv)) (jq (qF (zk (kx (j6 (wK (o:=.rt) (j5 kI (j5 kI (j5 kI (j5 kI (j5 kI (j5 kI (j5 kI (j5 kI jv)))))))))) (j6 (oM (j6 (v7 xZ xY (vv 0) ki)) ki))) rfl T.b_range) (gN nd) (jV (qP (oA (j6 (oA (j6 (V2 (vv 3) VJ (KK (vv 4)))) (kx (vv 1) (j6 (oA (j6 (oM (kx (vv 2) ki) ki)) (vv 6)))))) (j6 (V2 (vv 3) (KK (j6 (oA (vv 4) ki))) VJ)))))) (jV (kj (Qw (pv 5)))))))))) h
theorem kjs(T:Txt K mg)  (F:Fun K "_law_fills" "_law_fills" jvb f fd):FnOk P w K mg base (CXE P w) 1 f fd ["_law_number","_law_need","_law_free"] (spF K mg 3 m__law_fills):=
 vx F sc__law_fills (v9 rfl) λbd A outer s H vs Q E hr h=>have nd:=sc__law_fills.nd;vw rfl
  (jq (qA nd (vqf (vv 2) T.b_range T.b_list)) (jq (qA nd (wK (o:=.rt) jv)) (jq (qF (zk (vv 1) rfl T.b_range) (gN nd) (jq (qP (vqe (i:=3) (kvk K Ya PySem.F.slot_list_pop PySem.F.type_list_pop qk9 (pv 3) (vz (j6 (oM (vv 0) (j6 (qL (vv 3) T.b_len)))) vX)))) (jV (qA nd (oA (j6 (v7 xZ xY (vv 0) ki)) (j6 (oX ki (vv 5)))))))) (jV (kj (qT (vv 4) T.b_tuple)))))) h
theorem kks(T:Txt K mg)(bo:jx8 P w K mg base)(F:Fun K "_law_case" "_law_case" jvz f fd):FnOk P w K mg base (CXE P w) 2 f fd ["_law_number","_law_sizes","_law_free"] (spF K mg 3 m__law_case):=
 vx F sc__law_case (v9 rfl) λbd A outer s H vs Q E hr h=>have nd:=sc__law_case.nd;vw rfl
  (jq (vQ (wj (zK hr.units) zQ (j6 (oM (vv 0) ki)) ki (qW _) V4) (jV (kj kN)) vK) (jq (kjj (i:=3) (o:=.rt) (k:=1) (R:=[1,2]) ["_law_to","_law_sizes","_law_free"] nd rfl (by first|exact Or.inl rfl|exact Or.inr rfl) (zk (j6 (qL (vv 1) T.b_len)) rfl T.b_range) (λ_ _ _ _ _=>(V3 (Qx (i:=0) (show(["_law_to","_law_sizes","_law_free"]:List Str).Nodup by decide +kernel) rfl (by first|exact Or.inl rfl|exact Or.inr rfl)))) (λ_ _ _ _ _=>(vqd (wj vqs (vkg (g:=λa b=>decide (a<=b))) (kx (vv 1) (vv 0)) (vv 2) (qW _) vka))) (λ_ _ _ _ _=>(cv 0)) xw ⟨_,_,rfl,rfl⟩ (by decide) (show ∀j∈([1,2]:List Nat) ,j<5 by decide)) (jq (qA nd (qw (kx (vv 3) (j6 (oM (j6 (v7 xZ xY (vv 0) ki)) (j6 (qL (vv 3) T.b_len))))))) (jV (kj (qz (o:=.no) (j5 (cv 4) (j5 (qC bo hr (j5 (v7 xZ xY (vv 0) ki) (j5 (qw (kx (vv 1) (vv 4))) (j5 (cv 2) jv)))) jv)))))))) h
theorem kjr(T:Txt K mg)(aq:jv1 P w K mg base)(ca:jzf P w K mg base)(F:Fun K "_law_plain" "_law_plain" jva f fd):FnOk P w K mg base (CXE P w) 3 f fd ["_law_cell","_law_signs_here"] (spF K mg 2 m__law_plain):=
 vx F sc__law_plain (v9 rfl) λbd A outer s H vs Q E hr h=>have nd:=sc__law_plain.nd;vw rfl
  (jq (qA nd (qC aq hr (j5 (cv 0) (j5 kI jv)))) (jq (qA nd (qw (kx (j6 (wK (o:=.rt) (j5 kI (j5 kI (j5 kI (j5 kI (j5 kI (j5 kI (j5 kI (j5 kI jv)))))))))) (j6 (oM (kx (vv 2) ki) ki))))) (jq (qA nd kI) (jq (vQ (QW.pt (qze (wj (zK hr.units) zQ (vv 3) ki (qW _) V4) (qvg (wj (zK hr.units) zQ (j6 (oM (kx (vv 2) ki) ki)) ki (qW _) V4)))) (jV (qA nd kI)) vK) (jq (qA nd (oA (j6 (wK (o:=.rt) (j5 kI jv))) (j6 (qM .rt 1 [2,4] 13 ["_law_k","_law_xs","_law_most"] (zk (j6 (v7 kvl kw5 (vv 3) ki)) rfl T.b_range) (λ_ _ _ _ _=>(oM (j6 (v7 xZ xY (kx (vv 1) (j6 (oA ki (vv 0)))) ki)) (j6 (oA (vv 2) ki)))))))) (jq (qA nd (wK (o:=.rt) jv)) (jq (qA nd kI) (jq (qF (zk (vv 3) rfl T.b_range) (gN nd) (jq (qA nd (wK (o:=.rt) jv)) (jq (qF (zk (j6 (qL (vv 1) T.b_len)) rfl T.b_range) (gN nd) (jq (qA nd (wK (o:=.rt) jv)) (jq (qF (zk (j6 (oA (kx (vv 5) (vv 8)) ki)) rfl T.b_range) (gN nd) (jq (qP (qC ca hr (j5 (qw (kx (vv 2) (vv 7))) (j5 (cv 5) (j5 (oA (kx (vv 5) (vv 8)) (j6 (Q0 jz8 qjh (j6 (zZ (zK hr.units) zQ (vv 12) (kx (vv 5) (vv 8)) (qW _))) T.b_int kw1))) jv))))) (jV (qA nd (oA (vv 7) ki))))) (jV (qP (cv 11)))))) (jq (qP (qz (o:=.no) (j5 (qw (kx (vv 5) (vv 8))) (j5 (zZ (zK hr.units) zQ (j6 (oM (kx (vv 2) (vv 7)) ki)) ki (qW _)) (j5 (cv 9) jv))))) (jV (qA nd (oA (vv 7) ki))))))) (jV (kj (qz (o:=.no) (j5 (Q0 (jxh K) kk5 (vv 1) T.b_list Kw) (j5 (cv 6) jv))))))))))))) h
theorem jzo(T:Txt K mg)  (F:Fun K "_law_filled" "_law_filled" jqu f fd):FnOk P w K mg base (CXE P w) 1 f fd ["_law_plain_here"] (spF K mg 1 W7):=
 vx F sc__law_filled (v9 rfl) λbd A outer s H vs Q E hr h=>have nd:=sc__law_filled.nd;vw rfl
  (jq (qA nd (wK (o:=.rt) jv)) (jq (qF (vZ (qw (kx (vv 0) ki))) (vkp (is:=[2,3,4]) (Zj K (t:=gNs [2,3,4]) (n:=3) (x9 (gn nd) (x9 (gn nd) (x9 (gn nd) Z2))))) (jq (kjj (i:=5) (o:=.rt) (k:=1) (R:=[]) ["_law_cases"] nd rfl (by first|exact Or.inl rfl|exact Or.inr rfl) (vZ (cv 4)) (λ_ _ _ _ _=>(V3 (Qx (i:=0) (show(["_law_cases"]:List Str).Nodup by decide +kernel) rfl (by first|exact Or.inl rfl|exact Or.inr rfl)))) (λ_ _ _ _ _=>qjt) (λ_ _ _ _ _=>(qM .rt 1 [] 1 ["_law_case_here"] (vZ (cv 0)) (λ_ _ _ _ _=>(qw (kx (j6 (wK (o:=.rt) (j5 (cv 0) (j5 (qz (o:=.no) (j5 kI (j5 (qz (o:=.no) jv) jv))) jv)))) (j6 (Q0 jz8 qjh (j6 (zZ Q6 QZ (vv 0) kn (qW _))) T.b_int kw1))))))) xw ⟨_,_,rfl,rfl⟩ (by decide) (show ∀j∈([]:List Nat) ,j<6 by decide)) (jV (qP (qz (o:=.no) (j5 (cv 2) (j5 (cv 3) (j5 (cv 5) jv)))))))) (jV (kj (qz (o:=.no) (j5 (Q0 (jxh K) kk5 (kx (vv 0) ki) T.b_list Kw) (j5 (cv 1) jv))))))) h
theorem kjt(T:Txt K mg)(bm:jx7 P w K mg base)(ac:jqj P w K mg base)(bj:jx6 P w K mg base)(be:jwi P w K mg base)(F:Fun K "_law_drawn" "_law_drawn" jvc f fd):FnOk P w K mg base (CXE P w) 4 f fd ["_law_script"] (spF K mg 1 Kz):=
 vx F sc__law_drawn (v9 rfl) λbd A outer s H vs Q E hr h=>have nd:=sc__law_drawn.nd;vw rfl
  (jq (qA nd (qC bm hr (j5 (qC ac hr (j5 (cv 0) (j5 kI jv))) (j5 (qC bj hr (j5 (qC ac hr (j5 (cv 0) (j5 kI jv))) jv)) jv)))) (jq (vQ (wj (zK hr.units) zQ (j6 (oM (j6 (qC ac hr (j5 (cv 0) (j5 kI jv)))) ki)) ki (qW _) V4) (jV (kj (qC be hr (j5 (cv 1) jv)))) vK) (jV (kj (Qw (pv 1)))))) h
theorem kqq(T:Txt K mg)  (F:Fun K "_law_due" "_law_due" jwo f fd):FnOk P w K mg base (CXE P w) 1 f fd ["_law_plain_here"] (spF K mg 1 Ww):=
 vx F sc__law_due (v9 rfl) λbd A outer s H vs Q E hr h=>have nd:=sc__law_due.nd;vw rfl
  (jq (qA nd (qL (kx (vv 0) ki) T.b_len)) (jq (qA nd (q_C J7 (λ_=>zx))) (jq (qA nd (wK (o:=.dp) jv)) (jq (qF (vZ (qw (kx (vv 0) ki))) (vkp (is:=[4,5,6]) (Zj K (t:=gNs [4,5,6]) (n:=3) (x9 (gn nd) (x9 (gn nd) (x9 (gn nd) Z2))))) (jq (qA nd (wK (o:=.dp) jv)) (jq (qF (vZ (cv 6)) (gN nd) (jq (qA nd (q_or (vv 2) (W8 (zZ (qwa hr.units) qx4 kn (vv 8) (by rfl))))) (jV (qP (ZY (qM .rt 1 [1] 9 ["_law_case_here","_law_last"] (vZ (cv 8)) (λ_ _ _ _ _=>(qw (kx (j6 (wK (o:=.rt) (j5 (cv 0) (j5 (qz (o:=.no) (j5 (cv 1) (j5 (qz (o:=.no) jv) jv))) jv)))) (j6 (Q0 jz8 qjh (j6 (zZ Q6 QZ (vv 0) kn (qW _))) T.b_int kw1))))))))))) (jV (qP (qz (o:=.dp) (q:=false) (j5 (QE.weak (cv 4)) (j5 (QE.weak (qvi (vv 5))) (j5 (Qw (pv 7)) WZ))))))))) (jq (vQ (xW (vv 2)) (jV (qP (qz (o:=.dp) (q:=false) (j5 (QE.weak kI) (j5 (QE.weak (q_C J7 (λ_=>zx))) (j5 (QE.weak (qM .dp 1 [1] 9 ["_law_sign","_law_last"] (vZ (qw (kx (vv 0) ki))) (λ_ _ _ _ _=>(wK (o:=.dp) (j5 (qz (o:=.no) (j5 (cv 1) (j5 (qz (o:=.no) jv) jv))) jv))))) WZ)))))) vK) (jV (kj (qz (o:=.dp) (q:=false) (j5 (QE.weak (ZY (Q0 (jxh K) kk5 (kx (vv 0) ki) T.b_list Kw))) (j5 (Qw (pv 3)) WZ)))))))))) h
theorem K9(n:Nat){r:Fn}(T:Txt K mg)(kg:kz P w K mg base (1+n) "_law_same" ["_law_found","_law_due_here"] (spF K mg 2 r))(ah:jx5 P w K mg base)(F:Fun K "_law_same" "_law_same" jvx f fd):FnOk P w K mg base (CXE P w) (1+n+1) f fd ["_law_found","_law_due_here"] (spF K mg 2 (vk r)):=
 vx F sc__law_same (v9 rfl) λbd A outer s H vs Q E hr h=>have nd:=sc__law_same.nd;vw rfl
  (jq (vQ (QW.pt (Qq (xW (j6 (wY (vv 1) T.b_isinstance T.b_tuple jxi rfl))) (W2 (xW (j6 (wY (vv 1) T.b_isinstance T.b_list Kw rfl)))))) (jq (vQ (QW.pt (Qq (wj (qw8 hr.units) qx2 (j6 (wY (vv 1) T.b_isinstance T.b_tuple jxi rfl)) (j6 (wY (vv 0) T.b_isinstance T.b_tuple jxi rfl)) (qW _) qwz) (W2 (wj (qw8 hr.units) qx2 (j6 (wY (vv 1) T.b_isinstance T.b_list Kw rfl)) (j6 (wY (vv 0) T.b_isinstance T.b_list Kw rfl)) (qW _) qwz)))) (jV (kj (q_C J7 (λ_=>zx)))) vK) (jq (vQ (wj (qw8 hr.units) qx2 (j6 (qL (vv 0) T.b_len)) (j6 (qL (vv 1) T.b_len)) (qW _) qwz) (jV (kj (q_C J7 (λ_=>zx)))) vK) (jq (qF (qjv (cv 0) (cv 1) rfl T.b_zip) (vkp (is:=[2,3]) (Zj K (t:=gNs [2,3]) (n:=2) (x9 (gn nd) (x9 (gn nd) Z2)))) (jV (vQ (Wk (xW (j6 (kxl kg (hr.mono (X8 _)) xw (j5 (cv 2) (j5 (cv 3) jv)))))) (jV (kj (q_C J7 (λ_=>zx)))) vK))) (jV (kj (q_C J7 (λ_=>zx))))))) vK) (jq (vQ (wj Q6 QZ (vv 1) kn (qW _) kw2) (jV (kj (zZ Q6 QZ (vv 0) kn (qW _)))) vK) (jq (vQ (QW.pt (Qq (xW (j6 (wY (vv 1) T.b_isinstance T.b_bool VV rfl))) (W2 (xW (j6 (wY (vv 1) T.b_isinstance T.b_str vk7 rfl)))))) (jV (kj (Yz (j6 (zZ (zK hr.units) zQ (j6 (wY (vv 0) T.b_isinstance T.b_bool VV rfl)) (j6 (wY (vv 1) T.b_isinstance T.b_bool VV rfl)) (qW _))) (W8 (zZ (zK hr.units) zQ (vv 0) (vv 1) (qW _)))))) vK) (jV (kj (Yz (j6 (kxl ah (hr.mono (by omega)) xw (j5 (cv 0) jv))) (W8 (zZ (zK hr.units) zQ (vv 0) (vv 1) (qW _))))))))) h
theorem kkr(T:Txt K mg)  (F:Fun K "_law_pool" "_law_pool" jvy f fd):FnOk P w K mg base (CXE P w) 1 f fd ["_law_cell","_law_many"] (spF K mg 2 W1):=
 vx F kkf (v9 rfl) λbd A outer s H vs Q E hr h=>vw rfl
  (jV (kj (qM .rt 1 [0] 2 ["_law_k","_law_cell"] (zk (vv 1) rfl T.b_range) (λ_ _ _ _ _=>(v7 kvl kw5 (j6 (oX (j6 (oA (j6 (oM (vv 1) (j6 (v7 qqb qqt ki ki)))) ki)) (j6 (oA (vv 0) ki)))) (j6 (oX ki (j6 (v7 qqb qqt ki ki))))))))) h
theorem vj8(T:Txt K mg)(b7:jx9 P w K mg base)(bn:kj5 P w K mg base)(cm:kw6 P w K mg base)(c9:jze P w K mg base)(ac:jqj P w K mg base)(bc:jx4 P w K mg base)(av:jzd P w K mg base)(F:Fun K "law" "law" qva f fd):FnOk P w K mg base (CXE P w) 10 f fd ["_law_script"] (spF K mg 1 m_law):=
 vx F sc_law (v9 rfl) λbd A outer s H vs Q E hr h=>have nd:=sc_law.nd;vw rfl
  (jq (qA nd (qC b7 hr (j5 (cv 0) jv))) (jq (qA nd (qC bn hr (j5 (cv 1) jv))) (jq (qA nd (qC cm hr (j5 (cv 1) jv))) (jq (vQ (QW.pt (Qq (Wk (xW (j6 (ZW av (hr.mono (by decide)) xw (Q3 (vv 3) (Q3 (vv 2) ZJ)))))) (W2 (Wk (xW (j6 (qC av hr (j5 (cv 1) (j5 (qC b7 hr (j5 (cv 0) jv)) jv))))))))) (jV (kj (q_C J7 (λ_=>zx)))) vK) (jq (qA nd (qC c9 hr (j5 (qC ac hr (j5 (cv 0) (j5 kI jv))) (j5 (oA ki (j6 (oM (j6 (v7 xZ xY (j6 (qC ac hr (j5 (cv 0) (j5 kI jv)))) ki)) ki))) jv)))) (jq (kjj (i:=5) (o:=.rt) (k:=1) (R:=[1,4]) ["_law_cell","_law_plain_here","_law_pool_here"] nd rfl (by first|exact Or.inl rfl|exact Or.inr rfl) (vZ (V2 (vv 0) (KK ki) (KK ki))) (λ_ _ _ _ _=>(V3 (Qx (i:=0) (show(["_law_cell","_law_plain_here","_law_pool_here"]:List Str).Nodup by decide +kernel) rfl (by first|exact Or.inl rfl|exact Or.inr rfl)))) (λ_ _ _ _ _=>qjt) (λ_ _ _ _ _=>(qz (o:=.no) (j5 (qw (kx (kx (vv 1) ki) (j6 (oM (vv 0) (j6 (qL (kx (vv 1) ki) T.b_len)))))) (j5 (qw (kx (vv 2) (j6 (oM (j6 (v7 xZ xY (vv 0) ki)) (j6 (qL (vv 2) T.b_len)))))) jv)))) xw ⟨_,_,rfl,rfl⟩ (by decide) (show ∀j∈([1,4]:List Nat) ,j<14 by decide)) (jq (qF (zk (j6 (oA (j6 (qL (vv 5) T.b_len)) ki)) rfl T.b_range) (gN nd) (jq (qA nd (qC bc hr (j5 (cv 1) (j5 (V2 (vv 5) VJ (KK (vv 6))) jv)))) (jq (qA nd (ZW bc (hr.mono (by decide)) xw (Q3 (vv 3) (Q3 (j6 (V2 (vv 5) VJ (KK (vv 6)))) ZJ)))) (jV (vQ (QW.pt (Qq (Wk (xW (j6 (wY (vv 8) T.b_isinstance T.b_bool VV rfl)))) (Qq (Wk (xW (j6 (wY (vv 7) T.b_isinstance T.b_bool VV rfl)))) (W2 (wj (zK hr.units) zQ (vv 7) (vv 8) (qW _) V4))))) (jV (kj (q_C J7 (λ_=>zx)))) vK))))) (jq (qA nd (v7 kvl kw5 (j6 (q_b2 (qj5 rfl) (vvj λ_ _=>rfl) (j6 (v7 kvl kw5 (j6 (oM (j6 (v7 xZ xY (j6 (qC ac hr (j5 (cv 0) (j5 kI jv)))) ki)) (j6 (oX ki (j6 (qL (kx (vv 3) ki) T.b_len)))))) (j6 (qL (kx (vv 3) ki) T.b_len)))) ki T.b_max vk8)) ki)) (jq (qA nd (oM (j6 (qC ac hr (j5 (cv 0) (j5 kI jv)))) (j6 (qL (kx (vv 1) ki) T.b_len)))) (jq (qzf (i:=3) (ps:=[.inl 1,.inr 9,.inl 2,.inr 10]) (vkq (vkr (vkq (vkr (qq3 K (pv 3)) (λ_ _=>rfl)) (pv 9) (λ_ _=>rfl)) (λ_ _=>rfl)) (pv 10) (λ_ _=>rfl)) kN rfl jwa) (jq (qzf (i:=2) (ps:=[.inl 1,.inr 9,.inl 2,.inr 10]) (vkq (vkr (vkq (vkr (qq3 K (pv 2)) (λ_ _=>rfl)) (pv 9) (λ_ _=>rfl)) (λ_ _=>rfl)) (pv 10) (λ_ _=>rfl)) kN rfl jwa) (jq (vQ (Wk (xW (j6 (ZW av (hr.mono (by decide)) xw (Q3 (vv 3) (Q3 (vv 2) ZJ)))))) (jV (kj (q_C J7 (λ_=>zx)))) vK) (jq (qA nd (qC bn hr (j5 (cv 1) jv))) (jq (q_pa (i:=3) (p:=[0]) (kjl 0 (kqm K (pv 3)) (λ_ _=>rfl)) kS rfl jwa) (jq (qvk (i:=3) (r1:=11) (r2:=12) (r3:=13) (p:=[1]) (vj3 ⟨_,_,rfl,rfl⟩) rfl (kjl 1 (kqm K (pv 3)) (λ_ _=>rfl)) (Zj K (t:=gNs [11,12,13]) (n:=3) (x9 (gn nd) (x9 (gn nd) (x9 (gn nd) Z2)))) (pv 13) rfl kvn) (jq (q_pc (i:=3) (p:=[1]) (kjl 1 (kqm K (pv 3)) (λ_ _=>rfl)) rfl kvn) (jV (kj (Yz (j6 (qC av hr (j5 (cv 1) (j5 (qC b7 hr (j5 (cv 0) jv)) jv)))) (W8 (ZW av (hr.mono (by decide)) xw (Q3 (j6 (qC cm hr (j5 (cv 1) jv))) (Q3 (vv 2) ZJ))))))))))))))))))))))) h
end
theorem all_mk{l:PySem.W.OpenLaw}{w:PySem.World}{K:PySem.W.Frag}{h:Heap}{mg:Str->Option Value}{fa:Addr}(X:K.In h)(G:h.Ns mainGlobals mg)(hfa:mg "law"=some (.ref fa))
  (g0:Gf K "read_by" jxn)
  (g1:Gf K "stands_behind" jq5)
  (g2:Gf K "plain_lets" jv7)
  (g3:Gf K "lacks_cases" jqs)
  (g4:Gf K "led_to" kjh)
  (g5:Gf K "turned" kjg)
  (g6:Gf K "_law_cell_at" jqf)
  (g7:Gf K "_law_whole" jv8)
  (g8:Gf K "_law_stream" jqt)
  (g9:Gf K "_law_signs" jv9)
  (g10:Gf K "_law_fills" jvb)
  (g11:Gf K "_law_case" jvz)
  (g12:Gf K "_law_plain" jva)
  (g13:Gf K "_law_filled" jqu)
  (g14:Gf K "_law_drawn" jvc)
  (g15:Gf K "_law_due" jwo)
  (ip:Gf K "_law_same" jvx)
  (g17:Gf K "_law_pool" jvy)
  (g18:Gf K "law" qva)
  (z_any:PySem.W.nsIn K mainGlobals "any"=some none)
  (z_bool:PySem.W.nsIn K mainGlobals "bool"=some none)
  (z_int:PySem.W.nsIn K mainGlobals "int"=some none)
  (z_isinstance:PySem.W.nsIn K mainGlobals "isinstance"=some none)
  (z_len:PySem.W.nsIn K mainGlobals "len"=some none)
  (z_list:PySem.W.nsIn K mainGlobals "list"=some none)
  (z_max:PySem.W.nsIn K mainGlobals "max"=some none)
  (z_range:PySem.W.nsIn K mainGlobals "range"=some none)
  (z_str:PySem.W.nsIn K mainGlobals "str"=some none)
  (z_tuple:PySem.W.nsIn K mainGlobals "tuple"=some none)
  (z_zip:PySem.W.nsIn K mainGlobals "zip"=some none)
  : ∃fd:FuncData,(∀(s:Shared) (v:Value),BindsTo s fd ⟨[v],[]⟩ [("_law_script",v)])/\∀base:Heap,K.In base->base.Ns mainGlobals mg->FnOk l.prog w K mg base (CXE l.prog w) 10 fa fd ["_law_script"] (spF K mg 1 m_law):=by
 have T:Txt K mg:=⟨Xv X G z_any,Xv X G z_bool,Xv X G z_int,Xv X G z_isinstance,Xv X G z_len,Xv X G z_list,Xv X G z_max,Xv X G z_range,Xv X G z_str,Xv X G z_tuple,Xv X G z_zip⟩;refine g18.law X G hfa fun {base _ _} F=>?_
 have cq:kqf l.prog w K mg base:=g0.d X G (kwi T );have ba:jvn l.prog w K mg base:=g1.d X G (jxc T cq);have bc:jx4 l.prog w K mg base:=g2.d X G (kjo T ba);have bf:jwh l.prog w K mg base:=g3.d X G (jzm T );have dg:kw7 l.prog w K mg base:=g4.d X G (kz3 T );have cm:kw6 l.prog w K mg base:=g5.d X G (kz2 T bf dg);have ac:jqj l.prog w K mg base:=g6.d X G (jxw T );have ah:jx5 l.prog w K mg base:=g7.d X G (kjp T );have aq:jv1 l.prog w K mg base:=g8.d X G (jzn T );have bj:jx6 l.prog w K mg base:=g9.d X G (kjq T aq);have bo:jx8 l.prog w K mg base:=g10.d X G (kjs T );have ca:jzf l.prog w K mg base:=g11.d X G (kks T bo);have bm:jx7 l.prog w K mg base:=g12.d X G (kjr T aq ca);have be:jwi l.prog w K mg base:=g13.d X G (jzo T );have b7:jx9 l.prog w K mg base:=g14.d X G (kjt T bm ac bj be);have bn:kj5 l.prog w K mg base:=g15.d X G (kqq T );have R0:kz l.prog w K mg base (1+0) "_law_same" ["_law_found","_law_due_here"] (spF K mg 2 (wv vk 0)):=ip.d X G λ_=>qwp
 have R1:kz l.prog w K mg base (1+1) "_law_same" ["_law_found","_law_due_here"] (spF K mg 2 (wv vk 1)):=ip.d X G (K9 0 T R0 ah);have R2:kz l.prog w K mg base (1+2) "_law_same" ["_law_found","_law_due_here"] (spF K mg 2 (wv vk 2)):=ip.d X G (K9 1 T R1 ah);have R3:kz l.prog w K mg base (1+3) "_law_same" ["_law_found","_law_due_here"] (spF K mg 2 (wv vk 3)):=ip.d X G (K9 2 T R2 ah);have R4:kz l.prog w K mg base (1+4) "_law_same" ["_law_found","_law_due_here"] (spF K mg 2 (wv vk 4)):=ip.d X G (K9 3 T R3 ah);have R5:kz l.prog w K mg base (1+5) "_law_same" ["_law_found","_law_due_here"] (spF K mg 2 (wv vk 5)):=ip.d X G (K9 4 T R4 ah);have R6:kz l.prog w K mg base (1+6) "_law_same" ["_law_found","_law_due_here"] (spF K mg 2 (wv vk 6)):=ip.d X G (K9 5 T R5 ah);have R7:kz l.prog w K mg base (1+7) "_law_same" ["_law_found","_law_due_here"] (spF K mg 2 (wv vk 7)):=ip.d X G (K9 6 T R6 ah);have R8:kz l.prog w K mg base (1+8) "_law_same" ["_law_found","_law_due_here"] (spF K mg 2 (wv vk 8)):=ip.d X G (K9 7 T R7 ah);have av:jzd l.prog w K mg base:=R8;have c9:jze l.prog w K mg base:=g17.d X G (kkr T );exact vj8 T b7 bn cm c9 ac bc av F
end Nk60
namespace PySem.W.Fast
theorem tw14437483965904724218:True:=⟨⟩
theorem tw15755629498810002905:True:=⟨⟩
theorem tw4571794141714241331:True:=⟨⟩
theorem tw18371815626390632755:True:=⟨⟩
theorem tw567794508309874136:True:=⟨⟩
theorem tw5382225044091107962:True:=⟨⟩
theorem tw7936076543703256219:True:=⟨⟩
theorem tw5369872334449171407:True:=⟨⟩
theorem tw13969625314000174431:True:=⟨⟩
theorem tw2397273204373786284:True:=⟨⟩
theorem tw1770890275319887276:True:=⟨⟩
theorem tw13319010688389627219:True:=⟨⟩
theorem tw10182158571371722758:True:=⟨⟩
theorem tw11837394303032458122:True:=⟨⟩
theorem tw1523846059849025668:True:=⟨⟩
theorem tw13784468377364344094:True:=⟨⟩
theorem tw16304044973421641888:True:=⟨⟩
theorem tw2548972098437065788:True:=⟨⟩
theorem tw5541994344100185984:True:=⟨⟩
theorem tw3944161224273758583:True:=⟨⟩
theorem tw14881193393433709639:True:=⟨⟩
theorem tw12323741898514134785:True:=⟨⟩
theorem tw1691919079207164467:True:=⟨⟩
theorem tw12938898130285398933:True:=⟨⟩
theorem tw13301299094391800897:True:=⟨⟩
theorem tw1995531890074235026:True:=⟨⟩
theorem tw6693916252624704661:True:=⟨⟩
theorem tw16975287001306722378:True:=⟨⟩
theorem tw10304430639559057467:True:=⟨⟩
theorem tw10501989460781399452:True:=⟨⟩
theorem tw16283253130074747135:True:=⟨⟩
theorem tw11879770535732556129:True:=⟨⟩
theorem tw13733851089559160799:True:=⟨⟩
theorem tw17836416099386509417:True:=⟨⟩
theorem tw16678087245639926594:True:=⟨⟩
theorem tw15388376348727237218:True:=⟨⟩
theorem tw16931583586321952714:True:=⟨⟩
theorem tw366405215476870807:True:=⟨⟩
theorem tw5316945020430753131:True:=⟨⟩
theorem tw6870718887321047579:True:=⟨⟩
theorem tw7655900645143614613:True:=⟨⟩
theorem tw12586920051000730504:True:=⟨⟩
theorem tw2807504696957343724:True:=⟨⟩
theorem tw5125658070758970978:True:=⟨⟩
theorem tw17202265213367998211:True:=⟨⟩
theorem tw7170402428038636112:True:=⟨⟩
theorem tw9392709075488879802:True:=⟨⟩
theorem tw13744640356670339003:True:=⟨⟩
theorem tw16925466042168109790:True:=⟨⟩
end PySem.W.Fast
open PySem PySem.W PyProof.Rows
set_option maxRecDepth 100000 in
set_option maxHeartbeats 0 in
theorem PySem.Challenge.cw_freshrooms_k60_turned_holds : PySem.Challenge.rw_freshrooms_k60_turned.Holds := by
 w_on;o_law;k_head;(case hw=>w_witness2)
 k_fill
 refine Q.walkQ (l:=PySem.Challenge.rw_freshrooms_k60_turned) (n:=63) (k:=10) (x:="_law_script") (f:=Nk60.m_law) rfl (by decide) rfl ⟨rfl,by decide,by decide,rfl⟩ (fun w h Y=>PySem.W.kIn_of Y) ?F Nk60.law_true
 case F =>
  intro w mg fa h KX G hmg
  refine' Nk60.all_mk KX G hmg ?_ ?_ ?_ ?_ ?_ ?_ ?_ ?_ ?_ ?_ ?_ ?_ ?_ ?_ ?_ ?_ ?_ ?_ ?_ ?z_any ?z_bool ?z_int ?z_isinstance ?z_len ?z_list ?z_max ?z_range ?z_str ?z_tuple ?z_zip
  all_goals try (refine' Q.Gf.mk ?a ?b ?c ?d;(case a=>k_is);(case b=>k_is);(case c=>k_is);(case d=>k_is))
  (case z_any=>k_is)
  (case z_bool=>k_is)
  (case z_int=>k_is)
  (case z_isinstance=>k_is)
  (case z_len=>k_is)
  (case z_list=>k_is)
  (case z_max=>k_is)
  (case z_range=>k_is)
  (case z_str=>k_is)
  (case z_tuple=>k_is)
  (case z_zip=>k_is)
